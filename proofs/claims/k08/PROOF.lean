import PyProof.Rows.All
import Wide.All
import OpenK.AllK
import PySem.Challenge.RW_annals_k08_trees_refused
set_option Elab.async false
set_option linter.all false
set_option compiler.extract_closed false
set_option genSizeOf false
set_option maxRecDepth 100000
set_option maxHeartbeats 4000000
abbrev Da:=List PySem.Str
abbrev Db:=List PySem.Value
abbrev Dc:=Option PySem.Value
abbrev Dd:=List PySem.Addr
abbrev De:=List<|PySem.Addr×PySem.Obj
abbrev Df:=List PySem.PyData
abbrev Dg:=List<|PySem.Str×PySem.Str
abbrev Dh:=PySem.Shared->Prop
abbrev Cc:=PySem.W.Frag
open PySem renaming wpAny_bind->Q9,wpAny_pure->Zh,wpAny_newObj_type->ZX,boot_len->ZZ,wpAny_holding->Yb,wpAny_call_entry->Yg,sizeLine_eq->Yp,wpAny_mono->Yr,wpAny_callSpecial?_slot->Ys,codeAny_builtin->YH,wpAny_setField->YL,wpAny_passesOwn->YM,wpAny_truthy_bool->YR,mem_of_lookup->YX,wpAny_Call_Name_kw->Y1,codeAny_mono->Y4,wpAny_field->Y6,wpAny_isInstance->Ji,wpAny_setState_of->Jt,wpAny_of_eq->Ju,wpAny_attempt->Jy,wpAny_setEntries_of->JA,wpAny_askSetting->JC,isSubtype_type->JD,tupleKind_room_in1->JH,call_meetsIn->JI,wpAny_rule->JK,wpAny_specialOf->JP,wpAny_pyIter_list->JV,typeIs_str->JY,codeAny_call_builtin->JZ,wpAny_typeOf->J4,plainId_quiet->J9,wpAny_execs_nil->Vd,wpAny_call->Vg,call_meets->Vh,wpAny_Call_method->Vn,wpAny_seqItems->Vp,builtinLookup_eq_fast->Vx,wpAny_pyIter_tuple->VS,wpAny_tupleItemsOf->VT,wpAny_fieldsOf->VW,isSubtype_stop->VX,wpAny_runValue->VY,wpAny_newList->V7,wpAny_execs_cons->V8,wpAny_forIn_list->Ub,wpAny_load->Uf,codeAny_of_tree->Uj,typeLookup_type->Uk,wpAny_ite_split->Ul
open List renaming length_map->Za,mem_singleton->Zb,mem_map->Zd,mem_cons_of_mem->Zf,mem_cons_self->Zi,length_cons->Zj,getElem?_eq_getElem->Zl,mem_cons->Zm,map_append->Zo,length_append->Zp,getElem?_map->Zs,mem_of_getElem?->Zt,getElem?_eq_some_iff->Zv,all_eq_true->ZA,mem_append->ZB,size_toArray->ZD,map_cons->ZE,map_map->ZF,length_take->ZG,getElem?_append_left->ZH,take_length->ZJ,append_nil->ZK,mem_append_right->ZL,getElem?_append_right->ZP,getElem_map->ZT,cons_ne_nil->ZU,mem_iff_getElem->ZY,map_congr_left->Z1,any_eq_true->Z2,nodup_cons->Z5,take_append_drop->Z6,append_assoc->Z7,nodup_iff_pairwise_ne->Z8,not_mem_nil->Z9,mem_append_left->Ya,getElem?_eq_none->Yh,take_add_one->Yk,getD_eq_getElem?_getD->Yl,length_nil->Ym,nodup_nil->Yn,nodup_append->Yo,mem_iff_getElem?->Yq,getElem_mem->Yt,length_range->Yv,eq_nil_of_length_eq_zero->Yw,mem_flatMap->YC,cons_lt_cons_iff->YF,length_singleton->YJ,length_drop->YO,foldl_append->YT,pairwise_map->YU,filterMap_cons->YW,find?_cons->YY,mem_of_mem_take->Y7,take_of_length_le->Jc,sum_cons->Jf,getElem_inj->Jg,flatMap_def->Jj,mem_range->Jl,getElem?_zip_eq_some->Jr,pairwise_iff_getElem->Js,eq_nil_iff_forall_not_mem->JF,mem_filterMap->JG,mem_filter->JM,of_mem_zip->JN,foldl_cons->JR,map_take->JS,flatMap_cons->JW,not_lt->J0,map_id->J1,getElem?_eq_none_iff->J5,drop_eq_getElem_cons->J6,length_pos_iff->J8,all_append->Vf,pairwise_singleton->Vj,map_nil->Vm,drop_zero->Vo,getElem?_toArray->Vy,cons_append->VD,map_fst_zip->VH,nil_append->VN,getElem?_range->VR,pairwise_cons->VZ,lt_irrefl->V0,any_eq_false->V1,filter_cons->V9,flatMap_map->Ua,le_antisymm->Uc,isEmpty_iff->Ue,take_left'->Uo,sum_append->Uq
open PySem.Heap renaming get?_push_of_some->Zc,get?_push_size->Zq,lt_size->Zu,get?_update_self->Yc,get?_update_other->Ye,size_push->Yz,get?_none_of_le->VL
abbrev Ze:=@decide_eq_true
abbrev Zn:=@decide_eq_false
abbrev Zr:=@if_neg
abbrev Zx:=@of_decide_eq_true
abbrev Zy:=@if_pos
abbrev ZC:=@decide_eq_true_iff
abbrev ZQ:=@decide_eq_true_eq
abbrev YD:=@beq_eq_false_iff_ne
abbrev Jn:=@beq_iff_eq
abbrev Jq:=@of_decide_eq_false
abbrev JE:=@decide_eq_false_iff_not
abbrev JO:=@if_false
abbrev JQ:=@or_false
abbrev Vr:=@iff_of_false
abbrev VF:=@decide_eq_decide
abbrev VQ:=@ne_true_of_eq_false
abbrev V5:=@if_true
abbrev Uh:=@not_or
abbrev Ui:=@getElem?_pos
open Nat renaming le_refl->Zg,ne_of_lt->Zz,lt_of_lt_of_le->ZI,zero_le->ZN,le_trans->ZR,le_of_lt->Yx,lt_irrefl->YB,lt_succ_of_lt->YS,eq_zero_or_pos->Y2,ne_of_gt->Y3,le_succ->Je,lt_succ_self->Jh,lt_or_ge->Jw,not_succ_le_zero->Jx,le_of_eq->J3,lt_of_le_of_lt->Vi,lt_trichotomy->Vq,not_lt_zero->VO,succ_le_succ->Ud,lt_trans->Ug
open Bool renaming and_eq_true->Zk,false_ne_true->ZM,eq_false_iff->Z0,eq_iff_iff->Z4,not_eq_true'->Yj,false_eq_true->Yy,or_eq_false_iff->YG,false_and->Jm,and_false->Jp,or_eq_true->Ve,false_or->VI,true_and->VJ,not_true->V6
open PyProof.Rows renaming boot_isinstance->Zw,boot_str->Yd,boot_tuple->Yu,boot_all->YK,slot_tuple_getitem->YZ,callWith_type1->Jb,boot_dict->Jd,toString_length_le->Jz,boot_sorted->Va,boot_list->Vs,boot_int->VA,callWith_builtin1->VB,int_text_len_1921->VG,slice_closes_toL->VM,entry_list_sort->Um
open Array renaming length_toList->ZO,getD_eq_getD_getElem?->Z3,getElem?_toList->YE,getElem?_eq_getElem->YI,getElem?_eq_some_iff->Jk,getElem?_eq_none->JL,getElem_toList->J2
open Option renaming map_eq_some_iff->ZS,map_some->YA,isSome_iff_exists->Y5,getD_some->VE
open PySem.W renaming mg_of->ZV,mg_none_of->ZW,kia_one->Yi,hideAll_get->Y9,callWith_K->Jo,hideAll_none->JX,cellsFrom_some->Vl,methodCall_KW->Vv,plainGet_of->VP,kitx_list->V2,kitx_dict->V3
open PySem.F renaming plainAttrs_str->Yf,slot_dict_get->Y0,plainAttrs_dict->JB,entry_dict_get->JJ,slot_str_join->JT,type_str_join->JU,slot_list_append->Vb,type_list_append->Vc,plainAttrs_list->Vk,slot_str_split->Vt,type_str_split->Vu
open Int renaming emod_lt_of_pos->YN,eq_ofNat_of_zero_le->YQ,emod_nonneg->Y8,natAbs_natCast->VU,toNat_natCast->V4
open PySem.Value renaming isStrOf_shape->YV
open PyProof.Rows.F renaming plain_set_update_loop->Ja,entry_set_update_loop->J7
open PySem.W.KIN renaming signs_num->Vw
open Classical renaming choose_spec->Vz
open LawfulBEq renaming eq_of_beq->VC
open PySem renaming Value->Eh,Addr->Ei,Program->Ej,PyData->Ek,wpAny->El,Shared->Em,FuncData->Eo,World->Ep,model->Es,mainGlobals->Et,starEach->Ew,Heap->EB,Around->ED,Expr->EG,Stmt->EK,sysModules->ER,rawInt->EX,compareOp->EY,eval->E3,backTo->Lb,cLine->Lj,Paired->Ln,firstArgMember->Lr,SetTable->Lx,attributeBase->Lz,keywordEach->LH,assignEach->LJ,codeAny->LK,ReadsAll->LL,pyNext->LN,Scope->LP,bootBuiltins->LV,NameKind->L5,letOwnedTupleGo->L6,entryOfKey->L8,sliceBounds->Ma,DictEntry->Mb,pickOrder->Mc,foldedSetIterable->Md,backToKw->Mn,compEnvC->Mo,getItem->Mt,tupleKind->Mv,swapsWith->Mw,getMethod->Mx,scanBound->Mz,binaryOp->MA,holding->MD,valueAt->ME,IsPart->MG
open PySem.PyData renaming strOk->Er,canLayAll0->Ez,depthAll->EF,str->EI,eqv->EJ,eqvAll->E1,keyHash->LU
open PySem.Value renaming ref->Eu,none->EC,isStrOf->E6,bool->L7,str->L9,builtin->Mj,isInt->Mm,int->Mu
open Sum renaming inr->Ev
open Ne renaming symm->Ey
open PySem.W renaming nsIn->EA,findIn->EN,keepIn->ES,kitOne->ET,excIn->EZ,emptyDict->E5,fnOf->E8,instObj->Lp,codeIn->LD,plainGet->LW,hasDictIn->Me,makesIn->Mp,isFn->Ms
open False renaming elim->EE
open PySem.Builtin.Str renaming occurrences->EH,strSub->EV,strKind->Lf,partsBetween->LB
open Or renaming inl->EL
open List renaming range->EM,toArray->Le,lookup->LG
open PySem.PassesOwn renaming never->EO,leaving->Ly
open PySem.Str renaming ofString->EQ,empty->LX,length_append->Mh,join->MB
open PySem.Builtin.Tuple renaming tupleHashOf->EU,tupleExact->LA,tupleItemsOf->LR
open PySem.Heap.SameBut renaming update->EW
open PySem.Calls renaming callWith_builtin->E4,spliced_cons->Lh,evalArgs_plain->Lo,spliced_nil->Lv,call_function_entry->LZ
open PySem.Txt renaming rpartition->E7,join->Lq,split->Lu,slice->My
open True renaming intro->E9
open PySem.Around renaming under_plainId->La
open PySem.Obj renaming mapSeq->Lc,mapFields->Lk,data_mapFields->LI,isFreed_of_fields->LM,putSet->MC
open PySem.SetTable renaming below->Ld,grown->LF
open PySem.StrLaws renaming glued_eq_join->Lg,subAt_one->Lw
open PyProof.Rows renaming seqObj->Li,envOfC->Mi,AllBare->Mr
open PySem.Heap renaming SameBut->Ll
open PySem.SeqAt renaming shaped->Lm,eqBoolOverData->LS
open PySem.Builtin.Slice renaming slicePlaces->Ls,sliceAdjust->LY
open Pure renaming pure->LC
open PySem.Builtin.List renaming listExtendWith->LO
open Prod renaming ext->LQ
open ToString renaming toString->L4
open PySem.F renaming slot_dict_items->Mf
open Classical renaming em->Mg
open PySem.Shared renaming TypeIs->Ml
open ForInStep renaming yield->Mq
noncomputable section
namespace L2
open PySem
section
variable {M:Model}{A:ED}{E:Eh->Dh}{s:Em}{base:EB}{q:Array Eh->Prop}{env:Env}{outer:List Env}{L x:Ei}
def G6 (q:Array Eh->Prop):Prop:=∀(b:Array Eh) (v:Eh),q b->q (b.setIfInBounds 1 v)
def Ow (q:Array Eh->Prop)(h base:EB)(x:Ei)(c g:Eh):Prop :=
 ∃b d T e f,h.get? x=some b/\(b.cls=c/\q d)/\b.data=.fields d/\d[1]?=some (.ref T)/\base.get? T=none/\T≠x/\h.get? T=some e/\e.data=.fields f/\f[3]?=some g
theorem R9 {h:EB}{y:Ei}{d:Obj}{vs:Array Eh}(e:h.get? y=some d)(hd:d.data=.fields vs):∀b o,h.get? b=some o->(∀ws,o.data≠.fields ws)->b≠y:=fun b o hb f z=>by
 subst z;rw[e]at hb;cases hb;exact f vs hd
theorem GD (G:G6 q){n:Obj}{vs:Array Eh}{d:Eh}{nx:Bool}{Q:Unit->Dh}(D:A.frames=some (env::outer))(fr:s.heap.FunFrames base (env::outer))(F:env.frame=some L)
  (l:s.heap.get? x=some n) (I:base.StaysIn s.heap) (t:base.get? x=none) (hd:n.data=.fields vs) (sz:1<vs.size) (H:q vs)
  (k:∀h',base.StaysIn h'->h'.FunFrames base (env::outer)->Ow q h' base x n.cls (EX L)->s.heap.UpToSlots h'->Q () { s with heap:=h' }) :
  El M A (do let fo ←frameOf env;let pl ←entryPlaceOf L nx;let en ←EntryCells.newEntry d fo .none (EX L) .none pl;setField (.ref x) 1 en) Q E s:=by
 have K:x∉(env::outer).filterMap (·.frame):=fun z=>by
  obtain⟨_,o,y,hn⟩:=fr.mem z;rw[l]at y;cases y;exact hn vs hd
 refine Q9<|wpAny_frameOf_fun D fr F fun g j=>Q9<|wpAny_entryPlaceOf fun pl f=>?_;unfold EntryCells.newEntry;unfold newFields;refine Q9<|ZX (T:="traceback") ?_<|f.sizeOk5 _ _ _ _ _;have w:g.get? x=some n:=by rw[←l];exact j.2.1 x K
 have v:base.StaysIn g:=fun b o e=>by
  rw[j.2.1 b fun z=>by rw[(fr.mem z).1]at e;cases e];exact I b o e
 obtain⟨row,r⟩:∃row:Obj,row={ cls:=.type "traceback",data:=.fields ([d,.ref L,.none,EX L,.none]++(if pl.isEmpty then List.replicate 6 EC else pl)).toArray }:=⟨_,rfl⟩;have B:=Zc (h:=g) row w;have i:g.objs.size≠x:=Y3<|Zu w;rw[←r];have keep:∀b o,b≠x->g.get? b=some o->((g.push row).update x (Lk (·.setIfInBounds 1 (Eu g.objs.size)))).get? b=some o:=fun b o J e=>by
  rw[Ye _ _<|Ey J];exact Zc _ e
 refine YL B hd sz<|k _ ?_ ?_ ?_ ?_
 ·intro b o e;exact keep b o (fun z=>by rw[z,t]at e;cases e)<|v b o e
 ·refine fr.of_keeps fun b o e hn=>?_;obtain⟨C,p⟩:=j.2.2 b o e;exact⟨_,keep b _ (R9 l hd b o e hn) p,rfl⟩
 ·have u:=LI hd (·.setIfInBounds 1 (Eu g.objs.size));refine⟨_,_,g.objs.size,row,_,Yc _ B<|LM u,⟨Obj.cls_mapFields _ _,G _ _ H⟩,u,by simp[sz],v.fresh,i,?_,by rw[r],?_⟩
  ·rw[Ye _ _<|Ey i];exact Zq g (by rw[r];rfl)
  ·rcases f with rfl|⟨_,_,_,_,_,_,_,rfl⟩<;>simp
 ·intro b o e hn;obtain⟨C,p⟩:=j.2.2 b o e;exact⟨C,keep b _ (R9 l hd b o e hn) p⟩
theorem Kq (j:G6 q){d:Obj}{vs:Array Eh}{Q:Unit->Dh}(i:A.frames=some (env::outer))(fr:s.heap.FunFrames base (env::outer))(f:env.frame=some L)
  (g:s.heap.get? x=some d) (n:base.StaysIn s.heap) (b:base.get? x=none) (hd:d.data=.fields vs) (e:vs[1]?=some .none) (l:q vs)
  (k:∀h',base.StaysIn h'->h'.FunFrames base (env::outer)->Ow q h' base x d.cls (EX L)->s.heap.UpToSlots h'->Q () { s with heap:=h' }):El M A (noteFrame (.ref x) env) Q E s:=by
 unfold noteFrame;simp only[f];refine Q9<|Y6 g hd e ?_;rw[Zr<|show¬(EC !=EC)=true by decide];exact GD j i fr f g n b hd (Jk.mp e).1 l k
theorem M4 (v:G6 q){c:Eh}{Q:Unit->Dh}(r:A.frames=some (env::outer))(fr:s.heap.FunFrames base (env::outer))(l:env.frame=some L)(t:Ow q s.heap base x c .none)(B:base.StaysIn s.heap)(g:base.get? x=none)
  (k:∀h',base.StaysIn h'->h'.FunFrames base (env::outer)->Ow q h' base x c (EX L)->s.heap.UpToSlots h'->Q () { s with heap:=h' }):El M A (noteFrame (.ref x) env) Q E s:=by
 obtain⟨J,O,T,K,N,y,⟨u,w⟩,hd,i,C,p,f,dT,j⟩:=t;subst u;unfold noteFrame;simp only[l];refine Q9<|Y6 y hd i ?_;rw[Zy<|show(Eu T !=EC)=true by simp];refine Q9<|Y6 f dT j ?_;rw[Zr<|show¬(EC==EX L)=true by simp[EX]];have d:∀b,b≠T->(s.heap.update T (Lk (·.setIfInBounds 3 EC))).get? b=s.heap.get? b:=fun b D=>Ye _ _<|Ey D;have n:=R9 f dT;refine Q9<|YL f dT (Jk.mp j).1 ?_;refine GD v r (fr.of_keeps fun b o e hn=>⟨o,by rw[d b<|n b o e hn];exact e,rfl⟩) l (by rwa[d x<|Ey p]) (fun b o e=>?_) g hd (Jk.mp i).1 w fun h' F G H I=>k h' F G H fun b o e hn=>?_
 ·rw[d b fun z=>by rw[z,C]at e;cases e];exact B b o e
 ·exact I b o (by rwa[d b<|n b o e hn]) hn
theorem jD {l:List Env}{Q:Unit->Dh}(y:base.StaysIn s.heap)(fr:s.heap.FunFrames base l)(t:Ow q s.heap base x c fl)
  (k:∀h',base.StaysIn h'->h'.FunFrames base l->Ow q h' base x c .none->s.heap.UpToSlots h'->Q () { s with heap:=h' }):El M A (setFlight (.ref x) none) Q E s:=by
 obtain⟨C,F,T,G,D,n,w,hd,j,p,i,g,dT,v⟩:=t;have u:3<D.size:=(Jk.mp v).1;have r:=R9 g dT;have d:∀b,b≠T->(s.heap.update T (Lk (·.setIfInBounds 3 ((none:Option Ei).elim EC fun f=>EX f)))).get? b=s.heap.get? b:=fun b B=>Ye _ _<|Ey B;unfold setFlight;refine Q9<|Y6 n hd j ?_;rw[Zy<|show(Eu T !=EC)=true by simp];refine YL g dT u (k _ (fun b o e=>?_) (fr.of_keeps fun b o e hn=>⟨o,by rw[d b<|r b o e hn];exact e,rfl⟩) ?_ fun b o e hn=>⟨o.slots,by rw[d b<|r b o e hn];exact e⟩)
 ·rw[d b fun z=>by rw[z,p]at e;cases e];exact y b o e
 ·refine⟨C,F,T,_,_,by rw[d x<|Ey i];exact n,w,hd,j,p,i,Yc _ g<|LM<|LI dT _,LI dT _,?_⟩;simp[u]
theorem FH (j:G6 q){d:Obj}{vs:Array Eh}{Q:Unit->Dh}(f:A.frames=some (env::outer))(fr:s.heap.FunFrames base (env::outer))(i:env.frame=some L)
  (n:s.heap.get? x=some d) (o:base.StaysIn s.heap) (b:base.get? x=none) (hd:d.data=.fields vs) (e:vs[1]?=some .none) (l:q vs)
  (k:∀h',base.StaysIn h'->h'.FunFrames base (env::outer)->Ow q h' base x d.cls .none->s.heap.UpToSlots h'->Q () { s with heap:=h' }):El M A (leaving env<|.ref x) Q E s:=by
 unfold leaving;exact Q9<|Kq j f fr i n o b hd e l fun g p r t u=>jD (s:={ s with heap:=g }) p r t fun h' v w y z=>k h' v w y<|u.trans z
theorem Ki (f:G6 q){c:Eh}{Q:Unit->Dh}(d:A.frames=some (env::outer))(fr:s.heap.FunFrames base (env::outer))(e:env.frame=some L)(t:Ow q s.heap base x c .none)(i:base.StaysIn s.heap)(b:base.get? x=none)
  (k:∀h',base.StaysIn h'->h'.FunFrames base (env::outer)->Ow q h' base x c .none->s.heap.UpToSlots h'->Q () { s with heap:=h' }):El M A (leaving env<|.ref x) Q E s:=by
 unfold leaving;exact Q9<|M4 f d fr e t i b fun g j l n o=>jD (s:={ s with heap:=g }) j l n fun h' p r u v=>k h' p r u<|o.trans v
end
open PySem.Spec PyProof.Rows
abbrev Key:=Sum Int Str
def BL:Key->Eh->Bool
 | .inl k,v=>Mm k v
 | .inr x,v=>E6 x v
def bh (w:Ep):Key->Int
 | .inl k=>hashInt k
 | .inr x=>hashStr w x
theorem yU:∀{k:Key} {v:Eh},BL k v=true->(∃i t,k=Sum.inl i/\v=Mu i t)\/(∃x t,k=Ev x/\v=L9 x t)
 | .inl i,v,h=>by
  obtain⟨t,e⟩:=Value.isInt_shape (k:=i) (v:=v) h;exact .inl ⟨i,t,rfl,e⟩
 | .inr x,v,h=>by
  obtain⟨t,e⟩:=YV (x:=x) (v:=v) h;exact .inr ⟨x,t,rfl,e⟩
theorem NY (i:Int)(t:Tok):BL (.inl i) (.int i t)=true:=by simp[BL,Mm]
theorem qK (x:Str)(t:Tok):BL (.inr x) (.str x t)=true:=by simp[BL,E6]
theorem TH (a b:Int):decide ((Sum.inl a:Key)=Sum.inl b)=(a==b):=by
 by_cases e:a=b
 ·subst e;simp
 ·have h:¬(Sum.inl a:Key)=Sum.inl b:=fun q=>e<|Sum.inl.inj q;rw[Zn h];exact(YD.mpr e).symm
theorem TL (a b:Str):decide ((Ev a:Key)=Ev b)=decide (a=b):=by
 by_cases e:a=b
 ·subst e;simp
 ·have h:¬(Ev a:Key)=Ev b:=fun q=>e<|Sum.inr.inj q;rw[Zn h,Zn e]
theorem TJ (a:Int)(b:Str):decide ((Sum.inl a:Key)=Ev b)=false:=Zn<|fun q=>nomatch q
theorem TK (a:Str)(b:Int):decide ((Ev a:Key)=Sum.inl b)=false:=Zn<|fun q=>nomatch q
def zf (prog:Ej)(w:Ep):PySem.KeyKind prog w Key where
 is:=BL
 hash:=bh w
 inj:=fun v a b ha hb=>by
  rcases yU ha with⟨i,t,rfl,rfl⟩|⟨x,t,rfl,rfl⟩
  ·rcases yU hb with⟨j,u,rfl,e⟩|⟨y,u,rfl,e⟩
   ·injection e with d _;rw[d]
   ·exact nomatch e
  ·rcases yU hb with⟨j,u,rfl,e⟩|⟨y,u,rfl,e⟩
   ·exact nomatch e
   ·injection e with d _;rw[d]
 byValue:=fun k v h=>by
  rcases yU h with⟨i,t,rfl,rfl⟩|⟨x,t,rfl,rfl⟩<;>rfl
 pyHash:=fun f h=>by
  rcases yU f with⟨i,t,rfl,rfl⟩|⟨x,t,rfl,rfl⟩
  ·exact wpAny_pyHash_int h
  ·exact wpAny_pyHash_str h
 eqBool:=fun g f h=>by
  rcases yU g with⟨i,t,rfl,rfl⟩|⟨x,t,rfl,rfl⟩
  ·rcases yU f with⟨j,u,rfl,rfl⟩|⟨y,u,rfl,rfl⟩
   ·rw[TH]at h;exact wpAny_eqBool_int h
   ·rw[TJ]at h;exact SeqAt.EqAt.int_str i t y u _ _ _ _ h
  ·rcases yU f with⟨j,u,rfl,rfl⟩|⟨y,u,rfl,rfl⟩
   ·rw[TK]at h;exact SeqAt.EqAt.str_int x t j u _ _ _ _ h
   ·rw[TL]at h;exact wpAny_eqBool_str h
 «strs»:=fun k x t v h=>by
  rcases yU h with⟨i,u,rfl,e⟩|⟨y,u,rfl,e⟩
  ·exact nomatch e
  ·injection e with d _;subst d;cases v<;>rfl
theorem FT (prog:Ej)(w:Ep)(i:Int)(t:Tok):(zf prog w).is (.inl i) (.int i t)=true:=NY i t
theorem FU (prog:Ej)(w:Ep)(x:Str)(t:Tok):(zf prog w).is (.inr x) (.str x t)=true:=qK x t
inductive V where
 |non|bl (b:Bool)|int (i:Int)|str (x:Str)|byt (b:Array UInt8)|flt (b:UInt64)|ref (a:Ei)|ty (n:String)
 deriving DecidableEq
abbrev Dl:=List<|Key×V
abbrev Dj:=List V
def yt:V->Eh->Prop
 | .non,u=>u=EC
 | .bl b,u=>u=L7 b
 | .int i,u=>∃t,u=Mu i t
 | .str x,u=>∃t,u=L9 x t
 | .byt b,u=>∃t,u=Value.bytes b t
 | .flt b,u=>∃t,u=Value.float b t
 | .ref a,u=>u=Eu a
 | .ty n,u=>u=Value.type n
abbrev yu:Dj->Db->Prop:=Ln yt
theorem yu.length (r:yu xs us):xs.length=us.length:=Paired.length r
theorem yu.get:∀{xs:Dj} {us:Db} {i:Nat} {x:V},yu xs us->xs[i]?=some x->∃u,us[i]?=some u/\yt x u
 |_,_,_,_,.nil,e=>by simp at e
 |_,_,0,_,.cons r _,e=>by simp at e;subst e;exact⟨_,rfl,r⟩
 |_,_,i+1,x,.cons _ t,e=>by
  obtain⟨u,b,d⟩:=yu.get (i:=i) (x:=x) t (by simpa using e);exact⟨u,by simpa using b,d⟩
theorem yu.append:∀{xs ys:Dj} {us ws:Db},yu xs us->yu ys ws->yu (xs++ys) (us++ws)
 |_,_,_,_,.nil,s=>s
 |_,_,_,_,.cons r t,s=>.cons r<|yu.append t s
theorem yu.take:∀{xs:Dj} {us:Db} (n:Nat),yu xs us->yu (xs.take n) (us.take n)
 |_,_,0,_=>.nil
 |_,_,_+1,.nil=>.nil
 |_,_,n+1,.cons r t=>.cons r<|yu.take n t
theorem yu.drop:∀{xs:Dj} {us:Db} (n:Nat),yu xs us->yu (xs.drop n) (us.drop n)
 |_,_,0,r=>r
 |_,_,_+1,.nil=>.nil
 |_,_,n+1,.cons _ t=>yu.drop n t
def uw:Option V->Dc->Prop
 |some v,some u=>yt v u
 |none,none=>True
 |_,_=>False
def KV {κ:Type}:List (κ×V)->List (κ×Eh)->Prop:=Ln fun(p:κ×V) (q:κ×Eh)=>p.1=q.1/\yt p.2 q.2
def kV:Key->V
 | .inl i=>.int i
 | .inr x=>.str x
inductive HO where
 |lst (xs:Dj)
 |tup (xs:Dj)
 |dK (Dm:Dl)|dT (Dm:List<|List Key×V)
 |set (S:Int->Bool) (n:Nat)
 |ins (C dx:Ei) (fs:List<|Str×V)
 |own (x:Ei)
 |xd (fs:List<|Str×V)
 |met (f x:Ei)
 |rng (lo hi:Int)
 |frz (o:Obj) (u:HO)
 |tbl (ps:Array Eh)
 |ext (φ:EB->Prop)
abbrev Hp:=Ei->Option HO
def upd (H:Hp)(a:Ei)(o:HO):Hp:=fun b=>if b=a then some o else H b
theorem zB:upd H a o a=some o:=by unfold upd;rw[Zy rfl]
theorem zI {a b:Ei}(h:b≠a):upd H a o b=H b:=by unfold upd;rw[Zr h]
theorem Nv:upd (upd H a o) a u=upd H a u:=by
 funext b;unfold upd;split<;>rfl
theorem aa {H:Hp}{a b:Ei}{o u:HO}(h:H a=some o)(h':H b=some u)(d:o≠u):a≠b:=by
 intro e;subst e;rw[h]at h';exact d<|Option.some.inj h'
theorem zN {H:Hp}{a b:Ei}{o:HO}(h:H a=some o)(h':H b=none):a≠b:=by
 intro e;subst e;rw[h]at h';cases h'
def TupAt (h:EB)(a:Ei)(Dn:Array Eh):Prop:=∃o,h.get? a=some o/\o.cls=.type "tuple"/\∃n,o.data=.seq Dn n/\o.dict=none
theorem TupAt.is (t:TupAt h a Dn):IsTup h a Dn:=let ⟨o,h1,h2,n,h3,_⟩:=t;⟨o,h1,h2,n,h3⟩
theorem TupAt.lt (t:TupAt h a Dn):a<h.objs.size:=t.is.lt
theorem TupAt.new (h:EB)(Dn:Array Eh):TupAt (h.push { cls:=.type "tuple",data:=.seq Dn }) h.objs.size Dn:=⟨_,Zq _ rfl,rfl,_,rfl,rfl⟩
section
variable (P:Ej)(w:Ep)
def yj (H:Hp)(h:EB)(a:Ei):HO->Prop
 | .lst d=>d.length<=sizeLine/\∃(b:Db) (n:Nat),yu d b/\h.get? a=some { cls:=.type "list",data:=.seq b.toArray n }
 | .tup d=>d.length<=sizeLine/\∃b:Db,yu d b/\TupAt h a b.toArray
 | .dK Dm=>Dm.length<=sizeLine/\(a==ER)=false/\∃l,KV Dm l/\h.DictOf (zf P w) a l
 | .dT Dm=>Dm.length<=sizeLine/\(a==ER)=false/\∃d:List<|List Key×Ei×Eh,
   Ln (fun(p:List Key×V) (q:List Key×Ei×Eh)=>p.1=q.1/\H q.2.1=some (.tup<|p.1.map kV)/\yt p.2 q.2.2) Dm d /\
   ∃o g r,h.get? a=some o/\o.ExactDict/\o.data=.dict g r/\g.toList=d.map (L8<|Mv<|zf P w)/\(d.map (·.1)).Nodup
 | .set S n=>h.SetOf (intKind P w) a S n
 | .ins C dx fs=>H dx=some (.own a)/\fs.length<=1000/\dx≠a/\h.get? a=some (Lp C dx) /\
   ∃e,h.Ns1 dx e/\(∀f,uw (fs.lookup f)<|e f)/\PySem.Within e (fs.map (·.1))
 | .own _=>∃o,h.get? a=some o
 | .xd fs=>∃e,h.Ns1 a e/\∀f,uw (fs.lookup f)<|e f
 | .rng lo hi=>∃t u v,h.get? a=some { cls:=.type "range",data:=.fields #[.int lo t,.int hi u,.int 1 v] }
 | .frz o u=>h.get? a=some o/\yj H h a u
 | .tbl ps=>h.get? a=some { cls:=.none,data:=.fields ps }
 | .met f x=>h.get? a=some (PySem.W.methodObj (.ref f)<|.ref x)
 | .ext φ=>φ h/\(∃o,h.get? a=some o)/\∀i j:EB,φ i->(∀o,i.get? a=some o->j.get? a=some o)->φ j
def tG (H:Hp)(h:EB):Prop:=∀a o,H a=some o->yj P w H h a o
end
section
variable {P:Ej}{w:Ep}{H H':Hp}{h h':EB}{a:Ei}{o:HO}
theorem yj.lt (x:yj P w H h a o):a<h.objs.size:=by
 cases o with
 |lst xs=>obtain⟨_,_,_,_,e⟩:=x;exact Zu e
 |tup xs=>obtain⟨_,_,_,p⟩:=x;exact p.lt
 |dK Dm=>obtain⟨_,_,_,_,o,_,_,e,_⟩:=x;exact Zu e
 |dT Dm=>obtain⟨_,_,_,_,o,_,_,e,_⟩:=x;exact Zu e
 |set S n=>obtain⟨o,_,_,_,e,_⟩:=x;exact Zu e
 |ins C dx fs=>obtain⟨_,_,_,e,_⟩:=x;exact Zu e
 |own y=>obtain⟨_,e⟩:=x;exact Zu e
 |xd fs=>obtain⟨_,⟨_,_,_,e,_⟩,_⟩:=x;exact Zu e
 |rng lo hi=>obtain⟨_,_,_,e⟩:=x;exact Zu e
 |frz ob u=>obtain⟨e,_⟩:=x;exact Zu e
 |tbl ps=>exact Zu<|show h.get? a=some _ from x
 |met f y=>exact Zu<|show h.get? a=some _ from x
 |ext φ=>obtain⟨_,⟨_,e⟩,_⟩:=x;exact Zu e
theorem Paired.lE {d e:Type}{F G:d->e->Prop}:∀{l₁:List d} {l₂:List e},Ln F l₁ l₂->(∀a b,F a b->G a b)->Ln G l₁ l₂
 |_,_,.nil,_=>.nil
 |_,_,.cons r t,f=>.cons (f _ _ r)<|Paired.lE t f
theorem yj.stay (x:yj P w H h a o)(k:∀b u,(b=a\/H b=some (.own a))->h.get? b=some u->h'.get? b=some u)
  (D:∀b,H b=some (.own a)->H' b=some (.own a)) (E:∀b xs,H b=some (.tup xs)->H' b=some (.tup xs)):yj P w H' h' a o:=by
 induction o with
 |lst xs=>obtain⟨z,l,n,r,e⟩:=x;exact⟨z,l,n,r,k _ _ (.inl rfl) e⟩
 |tup xs=>obtain⟨z,l,r,g,e,c⟩:=x;exact⟨z,l,r,g,k _ _ (.inl rfl) e,c⟩
 |dK Dm=>obtain⟨z,y,F,r,g,j,i,e,c⟩:=x;exact⟨z,y,F,r,g,j,i,k _ _ (.inl rfl) e,c⟩
 |dT Dm =>
  obtain⟨z,y,xs,r,g,j,i,e,c⟩:=x;exact⟨z,y,xs,Paired.lE r fun p q z=>⟨z.1,E _ _ z.2.1,z.2.2⟩,g,j,i,k _ _ (.inl rfl) e,c⟩
 |set S n=>obtain⟨g,j,i,t,e,c⟩:=x;exact⟨g,j,i,t,k _ _ (.inl rfl) e,c⟩
 |ins C dx fs =>
  obtain⟨d,z,ne,e,s,⟨A,j,i,B,c⟩,r⟩:=x;exact⟨D _ d,z,ne,k _ _ (.inl rfl) e,s,⟨A,j,i,k _ _ (.inr d) B,c⟩,r⟩
 |own y=>obtain⟨g,e⟩:=x;exact⟨g,k _ _ (.inl rfl) e⟩
 |xd fs=>obtain⟨s,⟨A,j,i,e,c⟩,r⟩:=x;exact⟨s,⟨A,j,i,k _ _ (.inl rfl) e,c⟩,r⟩
 |rng lo hi=>obtain⟨t,u,v,e⟩:=x;exact⟨t,u,v,k _ _ (.inl rfl) e⟩
 |frz g u ih=>obtain⟨e,q⟩:=x;exact⟨k _ _ (.inl rfl) e,ih q⟩
 |tbl ps =>
  have e:h.get? a=some { cls:=.none,data:=.fields ps }:=x;show h'.get? a=some { cls:=.none,data:=.fields ps };exact k a _ (.inl rfl) e
 |met f y =>
  have e:h.get? a=some (PySem.W.methodObj (.ref f)<|.ref y):=x;show h'.get? a=some (PySem.W.methodObj (.ref f)<|.ref y);exact k a _ (.inl rfl) e
 |ext φ=>obtain⟨p,⟨o,e⟩,st⟩:=x;exact⟨st _ _ p fun o q=>k _ _ (.inl rfl) q,⟨o,k _ _ (.inl rfl) e⟩,st⟩
theorem tG.lt (x:tG P w H h)(e:H a=some o):a<h.objs.size:=(x a o e).lt
theorem tG.fresh (x:tG P w H h)(e:h.objs.size<=a):H a=none:=by
 cases q:H a with
 |none=>rfl
 |some u=>exact absurd (ZI (x.lt q) e)<|YB _
theorem tG.kept (x:tG P w H h)(k:∀b u,h.get? b=some u->h'.get? b=some u):tG P w H h':=fun a o e =>
 (x a o e).stay (fun b u _ q=>k b u q) (fun _ q=>q) fun _ _ q=>q
theorem tG.laid (x:tG P w H h)(k:∀b u,h.get? b=some u->h'.get? b=some u)(d:h.objs.size<=a)(new:yj P w (upd H a o) h' a o):tG P w (upd H a o) h':=fun b u e=>by
 have hn:=x.fresh d
 by_cases hb:b=a
 ·subst hb;rw[zB]at e;cases e;exact new
 ·rw[zI hb]at e;exact(x b u e).stay (fun c v _ q=>k c v q) (fun c q=>by rwa[zI<|zN q hn]) fun c f q=>by rwa[zI<|zN q hn]
end
def Rd (H:Hp)(a:Ei)(u:HO):Prop:=H a=some u\/∃o,H a=some (.frz o u)
theorem Rd.ok (r:Rd H a u)(x:tG P w H h):yj P w H h a u:=by
 rcases r with r|⟨o,r⟩
 ·exact x a u r
 ·obtain⟨_,q⟩:=x a _ r;exact q
def Tl:Option HO->Prop
 |some (.lst _)=>True
 |some (.dK _)=>True
 |some (.dT _)=>True
 |some (.set _ _)=>True
 |some (.ins _ _ _)=>True
 |some (.ext _)=>True
 |_=>False
section
variable {P:Ej}{w:Ep}{H:Hp}{h h':EB}{x e:Ei}{o':HO}
theorem tG.write (ok:tG P w H h)(j:Tl<|H x)(o:e=x\/H e=some (.own x))(k:∀b u,b≠e->h.get? b=some u->h'.get? b=some u)(n:∃u,h'.get? e=some u)
  (new:yj P w (upd H x o') h' x o'):tG P w (upd H x o') h':=fun b u q=>by
 have f:∀c y,H c=some (.own y)->c≠x:=fun c y r z=>by subst z;rw[r]at j;exact j
 have g:∀c l,H c=some (.tup l)->c≠x:=fun c l r z=>by subst z;rw[r]at j;exact j
 by_cases hb:b=x
 ·subst hb;rw[zB]at q;cases q;exact new
 ·rw[zI hb]at q
  by_cases d:b=e
  ·have p:H b=some (.own x):=by
    rcases o with z|z
    ·exact absurd (d.trans z) hb
    ·rwa[d]
   rw[q]at p;cases p;obtain⟨v,s⟩:=n;exact⟨v,by rw[d];exact s⟩
  ·refine(ok b u q).stay (fun c v i r=>k c v ?_ r) (fun c r=>by rwa[zI<|f c b r]) fun c l r=>by rwa[zI<|g c l r]
   rcases i with rfl|i
   ·exact d
   ·rintro rfl
    rcases o with z|z
    ·exact f c b i z
    ·rw[i]at z;cases z;exact hb rfl
end
structure Un (fs ex:Dd)(H H':Hp)(h h':EB):Prop where
 keep:∀b o,h.get? b=some o->H b=none->b∉fs->b∉ex->h'.get? b=some o
 slot:∀b o,h.get? b=some o->H b=none->b∈fs->b∉ex->∃sl,h'.get? b=some { o with slots:=sl }
 free:∀b o,h.get? b=some o->H b=none->b∉ex->H' b=none
 there:∀b o,h.get? b=some o->b∉ex->∃o',h'.get? b=some o'
 tups:∀b xs,H b=some (.tup xs)->H' b=some (.tup xs)
 tX:∀b o u,H b=some (.frz o u)->H' b=some (.frz o u)
 tO:∀b ps,H b=some (.tbl ps)->∃more,H' b=some (.tbl<|ps++more)
section
variable {fs fs' ex ex':Dd}{H H1 H2:Hp}{h h1 h2 h':EB}{a x e:Ei}{o:HO}
theorem Un.any (u:Un fs ex H H1 h h1){b:Ei}{d:Obj}(q:h.get? b=some d)(n:H b=none)(e:b∉ex):∃sl,h1.get? b=some { d with slots:=sl }:=by
 by_cases hb:b∈fs
 ·exact u.slot b d q n hb e
 ·exact⟨d.slots,u.keep b d q n hb e⟩
theorem Un.kept (k:∀b u,h.get? b=some u->h'.get? b=some u):Un fs ex H H h h' :=
 ⟨fun b d q _ _ _=>k b d q,fun b d q _ _ _=>⟨d.slots,k b d q⟩,fun _ _ _ n _=>n,fun b d q _=>⟨d,k b d q⟩,fun _ _ q=>q,fun _ _ _ q=>q,fun _ e q=>⟨#[],by rw[q];simp⟩⟩
theorem Un.refl:Un fs ex H H h h:=Un.kept fun _ _ q=>q
theorem Un.laid (k:∀b u,h.get? b=some u->h'.get? b=some u)(d:h.objs.size<=a)(hn:H a=none):Un fs ex H (upd H a o) h h' where
 keep:=fun b u q _ _ _=>k b u q
 slot:=fun b u q _ _ _=>⟨u.slots,k b u q⟩
 free:=fun b u q n _=>by rwa[zI<|Zz<|ZI (Zu q) d]
 there:=fun b u q _=>⟨u,k b u q⟩
 tups:=fun b e q=>by rwa[zI<|zN q hn]
 tX:=fun b u e q=>by rwa[zI<|zN q hn]
 tO:=fun b f q=>⟨#[],by rw[zI<|zN q hn,q];simp⟩
theorem Un.write (f:Tl<|H x)(j:e=x\/H e=some (.own x))(k:∀b u,b≠e->h.get? b=some u->h'.get? b=some u)(g:∃u,h'.get? e=some u):Un fs ex H (upd H x o) h h':=by
 have i:∀b,H b=none->b≠x:=fun b n z=>by subst z;rw[n]at f;exact f
 have hb:∀b,H b=none->b≠e:=fun b n z=>by
  subst z
  rcases j with r|r
  ·exact i b n r
  ·rw[n]at r;cases r
 have hm:∀b u,H b=some u->¬Tl (some u)->b≠x:=fun b u q nm z=>by subst z;rw[q]at f;exact nm f
 refine⟨fun b u q n _ _=>k b u (hb b n) q,fun b u q n _ _=>⟨u.slots,k b u (hb b n) q⟩,fun b u q n _=>by rw[zI<|i b n];exact n,fun b u q _=>?_,
  fun b l q=>by rw[zI<|hm b _ q fun z=>z];exact q,fun b u l q=>by rw[zI<|hm b _ q fun z=>z];exact q,fun b p q=>⟨#[],by rw[zI<|hm b _ q fun z=>z,q];simp⟩⟩
 by_cases d:b=e
 ·subst d;exact g
 ·exact⟨u,k b u d q⟩
end
def aU (h:EB)(H:Hp):Dd:=(EM h.objs.size).filter fun a=>(H a).isSome
def CI (h:EB)(H:Hp):Heap:=PySem.W.hideAll h<|aU h H
theorem NW (h:EB)(H:Hp):(CI h H).objs.size=h.objs.size:=PySem.W.hideAll_size _ _
theorem O2 {h:EB}{H:Hp}{b:Ei}{o:Obj}(e:h.get? b=some o)(n:H b=none):(CI h H).get? b=some o :=
 Y9 _ e fun hm=>by
  have q:(H b).isSome=true:=(JM.mp hm).2;rw[n]at q;simp at q
theorem Sd {b:Ei}{o:Obj}(e:(CI h H).get? b=some o):h.get? b=some o/\H b=none:=by
 have d:h.get? b=some o:=PySem.W.of_hideAll (aU h H) e;refine⟨d,?_⟩;cases q:H b with
 |none=>rfl
 |some x =>
  have hm:b∈aU h H:=JM.mpr ⟨Jl.mpr<|Zu d,by simp[q]⟩;have z:(CI h H).get? b=none:=JX (aU h H) hm;rw[z]at e;cases e
structure Mod (K:Cc)(mg:Str->Dc)(base:EB):Prop where
 mK:K.In base
 glob:base.Ns Et mg
 blt:∃mb,base.Ns builtinsNs mb/\∀x:Str,x≠"__name__"->mb x=LV x
 nolimit:base.NoLimit
structure Cx where
 prog:Ej
 w:Ep
 K:Cc
 mg:Str->Dc
 base:EB
 A:ED
 N:Da
 s₀:Em
 H₀:Hp
 env:Env
 outer:List Env
 stack:List Env
 ex:Dd
 fn:Str->Bool
 calm:Bool
 pn:De
 xe:Eh->Dh
def frs (l:List Env):Dd:=l.filterMap (·.frame)
abbrev Cx.fs (X:Cx):Dd:=frs X.outer
def aY (sc:LP)(x:Str):Prop:=sc.names.lookup x=some .local\/sc.names.lookup x=some .cell\/sc.names.lookup x=some .free
def Loc (sc:LP)(x:Str):Prop:=sc.names.lookup x=some .local\/sc.names.lookup x=some .cell
def Look (env:Env)(h:EB)(m:Str->Dc)(x:Str)(u:Eh):Prop :=
 (env.kindOf x=some .local/\m x=some u)\/((env.kindOf x=some .cell\/env.kindOf x=some .free)/\∃c,env.cells.lookup x=some c/\h.IsCell c (some u))
structure Cx.Ok (X:Cx):Prop where
 mod:Mod X.K X.mg X.base
 kind:X.env.scope.kind=.function
 glob:X.env.globals=Et
 blt:X.env.builtins=builtinsNs
 above:X.s₀.heap.objs.size<=X.env.locals
 inj:∀x y c,X.env.cells.lookup x=some c->X.env.cells.lookup y=some c->x=y
 has:∀x,(X.env.kindOf x=some .cell\/X.env.kindOf x=some .free)->∃c,X.env.cells.lookup x=some c
 cab:∀x c,X.fn x=true->X.env.cells.lookup x=some c->X.s₀.heap.objs.size<=c
 hd:X.calm=true->X.A.handled=none
 frames:X.A.frames=some X.stack
 stk:X.stack=X.outer\/(X.stack=X.env::X.outer/\X.env.frame=some X.env.locals)
 lQ:∀b∈X.ex,b≠X.env.locals/\∀x c,X.env.cells.lookup x=some c->c≠b
 bs:∀b o,X.base.get? b=some o->X.s₀.heap.get? b=some o/\X.H₀ b=none
 nY:X.base.objs.size<=X.s₀.heap.objs.size
 pZ:∀b o,X.base.get? b=some o->b∉X.ex
 pL:∀b∈X.ex,b∉X.fs
 tR:X.s₀.heap.FunFrames X.base X.outer
 nj:∀b∈X.fs,X.H₀ b=none
structure Inv (X:Cx)(Dp:De)(σ:List<|Option V)(H:Hp)(s:Em):Prop where
 ok:X.Ok
 os:s.os=X.s₀.os
 bare:Mr s.gens
 base:Un X.fs X.ex X.H₀ H X.s₀.heap s.heap
 loc:∃m,s.heap.Ns X.env.locals m/\∀(i:Nat) (x:Str) (v:V),X.N[i]?=some x->σ[i]?=some (some v)->aY X.env.scope x->∃u,yt v u/\Look X.env s.heap m x u
 cell:∀x c,X.env.cells.lookup x=some c->∃v,s.heap.IsCell c v
 free:H X.env.locals=none
 wK:∀x c,X.env.cells.lookup x=some c->H c=none
 pin:∀p∈X.pn++Dp,s.heap.get? p.1=some p.2/\H p.1=none/\p.1≠X.env.locals/\p.1∉X.fs/\∀v,p.2.data≠.cell v
 hok:tG X.prog X.w H s.heap
 len:σ.length=X.N.length
section
variable {X:Cx}{Dp:De}{σ:List (Option V)}{H H':Hp}{s:Em}{h':EB}
theorem Cx.Ok.iW (ok:X.Ok){b:Ei}{o:Obj}(e:X.base.get? b=some o):b∉X.fs:=fun hb=>by
 have:=(ok.tR.mem hb).1;rw[e]at this;cases this
theorem Inv.bs (I:Inv X Dp σ H s):∀b o,X.base.get? b=some o->s.heap.get? b=some o/\H b=none:=fun b o e =>
 ⟨I.base.keep b o (I.ok.bs b o e).1 (I.ok.bs b o e).2 (I.ok.iW e)<|I.ok.pZ b o e,I.base.free b o (I.ok.bs b o e).1 (I.ok.bs b o e).2<|I.ok.pZ b o e⟩
theorem Inv.bk (I:Inv X Dp σ H s):∀b o,X.base.get? b=some o->s.heap.get? b=some o:=fun b o e=>(I.bs b o e).1
theorem Inv.mod (I:Inv X Dp σ H s):Mod X.K X.mg X.base:=I.ok.mod
theorem Inv.tQ (I:Inv X Dp σ H s):X.K.In s.heap:=I.ok.mod.mK.keeps I.bk
theorem Inv.lt (I:Inv X Dp σ H s):X.env.locals<s.heap.objs.size:=let ⟨_,hn,_⟩:=I.loc;hn.lt
theorem Inv.sz (I:Inv X Dp σ H s):X.s₀.heap.objs.size<=s.heap.objs.size:=ZR I.ok.above<|Yx I.lt
theorem Inv.iZ (I:Inv X Dp σ H s){a:Ei}(h:s.heap.objs.size<=a):a∉X.fs:=fun hb=>by
 obtain⟨_,o,b,_⟩:=I.ok.tR.mem hb;exact absurd (ZI (Zu b)<|ZR I.sz h)<|YB _
theorem Inv.lR (I:Inv X Dp σ H s):∀x c,X.env.cells.lookup x=some c->c≠X.env.locals:=fun x c e z=>by
 obtain⟨v,o,f,hd⟩:=I.cell x c e;obtain⟨m,⟨j,i,g,d,b,_⟩,_⟩:=I.loc;rw[z,d]at f;cases f;rw[b]at hd;cases hd
theorem Inv.tR (I:Inv X Dp σ H s):s.heap.FunFrames X.base X.outer:=by
 have all:∀(l:List Env),(∀b∈frs l,b∈X.fs)->X.s₀.heap.FunFrames X.base l->s.heap.FunFrames X.base l:=by
  intro l
  induction l with
  |nil=>intro _ _;trivial
  |cons env r ih =>
   intro g hl;obtain⟨hk,⟨L,o,f,hn,i,hd⟩,j⟩:=hl;have d:L∈X.fs:=g L (by unfold frs;rw[YW,f];exact Zi);obtain⟨n,e⟩:=I.base.slot L o i (I.ok.nj L d) d fun z=>I.ok.pL L z d;exact⟨hk,⟨L,_,f,hn,e,hd⟩,ih (fun b hb=>g b (by unfold frs;rw[YW,f];exact Zf _ hb)) j⟩
 exact all X.outer (fun _ hb=>hb) I.ok.tR
theorem Inv.stack (I:Inv X Dp σ H s):s.heap.FunFrames X.base X.stack:=by
 rcases I.ok.stk with e|⟨e,b⟩
 ·rw[e];exact I.tR
 ·rw[e];obtain⟨m,hn,_⟩:=I.loc;refine .cons (by rw[I.ok.kind];decide) b hn ?_ I.tR;exact VL<|ZR I.ok.nY I.ok.above
theorem Inv.rT (I:Inv X Dp σ H s):∀b∈frs X.stack,b∈X.env.locals::X.fs:=fun b hb=>by
 rcases I.ok.stk with e|⟨e,d⟩
 ·rw[e]at hb;exact Zf _ hb
 ·rw[e]at hb;unfold frs at hb;rw[YW,d]at hb;exact hb
theorem Inv.sG (I:Inv X Dp σ H s):∀b∈frs X.stack,H b=none:=fun b hb=>by
 rcases Zm.mp (I.rT b hb) with e|hb
 ·rw[e];exact I.free
 ·obtain⟨_,o,d,_⟩:=I.ok.tR.mem hb;exact I.base.free b o d (I.ok.nj b hb) fun z=>I.ok.pL b z hb
theorem Inv.step {g':Array GenState}{t':Nat}{d':Drawn}{ch:Dd}(I:Inv X Dp σ H s)
  (j:∀b∈ch,(b∈X.ex\/X.s₀.heap.objs.size<=b)/\b≠X.env.locals/\(∀x c,X.env.cells.lookup x=some c->c≠b)/\∀p∈X.pn++Dp,p.1≠b)
  (keep:∀b o,b≠X.env.locals->b∉X.fs->b∉ch->s.heap.get? b=some o->H b=none->h'.get? b=some o)
  (slot:∀b o,b≠X.env.locals->b∈X.fs->b∉ch->s.heap.get? b=some o->H b=none->∃sl,h'.get? b=some { o with slots:=sl }) (free:∀b o,b∉ch->s.heap.get? b=some o->H b=none->H' b=none)
  (there:∀b o,b∉ch->s.heap.get? b=some o->∃o',h'.get? b=some o')
  (tups:∀b xs,H b=some (.tup xs)->H' b=some (.tup xs)) (tX:∀b o u,H b=some (.frz o u)->H' b=some (.frz o u)) (tO:∀b ps,H b=some (.tbl ps)->∃more,H' b=some (.tbl<|ps++more))
  (ns:∀m,s.heap.Ns X.env.locals m->h'.Ns X.env.locals m) (hok:tG X.prog X.w H' h') (L:Mr g') :
  Inv X Dp σ H' { s with heap:=h',gens:=g',drawn:=d',toks:=t' }:=by
 have D:∀b o,X.s₀.heap.get? b=some o->b≠X.env.locals:=fun b o e=>Zz<|ZI (Zu e) I.ok.above;have A:∀b o,X.s₀.heap.get? b=some o->b∉X.ex->b∉ch:=fun b o e f hb=>by
  rcases(j b hb).1 with z|z
  ·exact f z
  ·exact absurd (ZI (Zu e) z) (YB _)
 have g:∀x c,X.env.cells.lookup x=some c->∀v,s.heap.IsCell c v->h'.IsCell c v:=fun x c e v ⟨o,B,hd⟩=>by
  have t:c∉ch:=fun z=>(j c z).2.2.1 x c e rfl
  by_cases F:c∈X.fs
  ·obtain⟨sl,q⟩:=slot c o (I.lR x c e) F t B<|I.wK x c e;exact⟨_,q,hd⟩
  ·exact⟨o,keep c o (I.lR x c e) F t B<|I.wK x c e,hd⟩
 refine⟨I.ok,I.os,L,⟨fun b o e n hb f=>?_,fun b o e n hb f=>?_,fun b o e n f=>?_,fun b o e f=>?_,fun b xs e=>tups b xs<|I.base.tups b xs e,fun b o xs e=>tX b o xs<|I.base.tX b o xs e,fun b ps e=>?_⟩,?_,fun x c e=>?_,?_,fun x c e=>?_,fun p G=>?_,hok,I.len⟩
 ·exact keep b o (D b o e) hb (A b o e f) (I.base.keep b o e n hb f) (I.base.free b o e n f)
 ·obtain⟨sl,y⟩:=I.base.slot b o e n hb f;obtain⟨E,C⟩:=slot b _ (D b o e) hb (A b o e f) y<|I.base.free b o e n f;exact⟨E,C⟩
 ·obtain⟨o',y⟩:=I.base.there b o e f;exact free b o' (A b o e f) y<|I.base.free b o e n f
 ·obtain⟨o',y⟩:=I.base.there b o e f;exact there b o' (A b o e f) y
 ·obtain⟨M,y⟩:=I.base.tO b ps e;obtain⟨N,C⟩:=tO b _ y;exact⟨M++N,by rw[C,Array.append_assoc]⟩
 ·obtain⟨m,hn,hl⟩:=I.loc;refine⟨m,ns m hn,fun i x v y C K=>?_⟩;obtain⟨u,r,l⟩:=hl i x v y C K;refine⟨u,r,?_⟩
  rcases l with l|⟨k,c,e,z⟩
  ·exact .inl l
  ·exact .inr ⟨k,c,e,g x c e _ z⟩
 ·obtain⟨v,z⟩:=I.cell x c e;exact⟨v,g x c e v z⟩
 ·obtain⟨m,⟨o,_,_,B,_⟩,_⟩:=I.loc;exact free _ o (fun z=>(j _ z).2.1 rfl) B I.free
 ·obtain⟨v,o,B,hd⟩:=I.cell x c e;exact free c o (fun z=>(j c z).2.2.1 x c e rfl) B (I.wK x c e)
 ·obtain⟨e,n,ne,J,d⟩:=I.pin p G;have t:p.1∉ch:=fun z=>(j p.1 z).2.2.2 p G rfl;exact⟨keep p.1 p.2 ne J t e n,free p.1 p.2 t e n,ne,J,d⟩
theorem Inv.un {t':Nat}(I:Inv X Dp σ H s)(u:Un X.fs [] H H' s.heap h')(hok:tG X.prog X.w H' h'):Inv X Dp σ H' { s with heap:=h',toks:=t' }:=by
 obtain⟨m,⟨o,q,p,i,r⟩,_⟩:=id I.loc;obtain⟨x,j⟩:=u.any i I.free (by simp);exact I.step (g':=s.gens) (d':=s.drawn) (ch:=[]) (fun _ z=>nomatch z) (fun b o _ hb _ e n=>u.keep b o e n hb<|by simp) (fun b o _ hb _ e n=>u.slot b o e n hb<|by simp) (fun b o _ e n=>u.free b o e n<|by simp) (fun b o _ e=>u.there b o e<|by simp) u.tups u.tX u.tO (fun t hm=>by
  obtain⟨v,g,f,d,l⟩:=hm;rw[i]at d;cases d;exact⟨_,g,f,j,l⟩) hok I.bare
theorem Inv.call {g':Array GenState}{t':Nat}{d':Drawn}(I:Inv X Dp σ H s)(u:Un (frs X.stack) ch H H' s.heap h')(hok:tG X.prog X.w H' h')(t:Mr g')
  (f:∀b∈ch,(b∈X.ex\/X.s₀.heap.objs.size<=b)/\b≠X.env.locals/\(∀x c,X.env.cells.lookup x=some c->c≠b)/\∀p∈X.pn++Dp,p.1≠b) :
  Inv X Dp σ H' { s with heap:=h',gens:=g',drawn:=d',toks:=t' }:=by
 obtain⟨m,⟨o,A,y,q,r⟩,_⟩:=id I.loc;obtain⟨D,l⟩:=u.any q I.free fun z=>(f _ z).2.1 rfl;exact I.step (ch:=ch) f (fun b o l hb d e n=>u.keep b o e n (fun z=>(Zm.mp<|I.rT b z).elim l hb) d) (fun b o _ _ d e n=>u.any e n d) (fun b o d e n=>u.free b o e n d) (fun b o d e=>u.there b o e d) u.tups u.tX u.tO (fun B hm=>by
  obtain⟨C,j,i,g,v⟩:=hm;rw[q]at g;cases g;exact⟨_,j,i,l,v⟩) hok t
theorem Inv.turned {t':Nat}{it:Ei}(I:Inv X Dp σ H s)(k:∀b o,b≠it->s.heap.get? b=some o->h'.get? b=some o)(hn:H it=none)(g:it≠X.env.locals)
  (l:it∈X.ex\/X.s₀.heap.objs.size<=it) (t:∀x c,X.env.cells.lookup x=some c->c≠it) (w:∀p∈X.pn++Dp,p.1≠it):Inv X Dp σ H { s with heap:=h',toks:=t' }:=by
 have f:∀b u,H b=some u->b≠it:=fun b u e z=>by rw[z,hn]at e;cases e
 refine I.step (g':=s.gens) (d':=s.drawn) (ch:=[it]) (fun b hb=>?_) (fun b o _ _ d e _=>k b o (fun z=>d<|by simp[z]) e) (fun b o _ _ d e _=>⟨o.slots,k b o (fun z=>d<|by simp[z]) e⟩) (fun _ _ _ _ n=>n)
  (fun b o d e=>⟨o,k b o (fun z=>d<|by simp[z]) e⟩) (fun _ _ e=>e) (fun _ _ _ e=>e) (fun b A e=>⟨#[],by rw[e];simp⟩) (fun m hm=>?_) (fun b u e=>?_) I.bare
 ·have e:b=it:=by simpa using hb
  subst e;exact⟨l,g,t,w⟩
 ·obtain⟨o,j,i,y,r⟩:=hm;exact⟨o,j,i,k _ o (Ey g) y,r⟩
 ·refine(I.hok b u e).stay (fun c v d q=>k c v ?_ q) (fun _ q=>q) fun _ _ q=>q
  rcases d with z|z
  ·rw[z];exact f b u e
  ·exact f c _ z
theorem Inv.tok (I:Inv X Dp σ H s)(t:Nat):Inv X Dp σ H { s with toks:=t }:=I.un (h':=s.heap) (t':=t) Un.refl I.hok
theorem Inv.kept {t':Nat}(I:Inv X Dp σ H s)(k:∀b u,s.heap.get? b=some u->h'.get? b=some u):Inv X Dp σ H { s with heap:=h',toks:=t' }:=I.un (Un.kept k)<|I.hok.kept k
theorem Inv.laid {a:Ei}{t':Nat}(I:Inv X Dp σ H s)(k:∀b u,s.heap.get? b=some u->h'.get? b=some u)(d:s.heap.objs.size<=a)(new:yj X.prog X.w (upd H a o) h' a o) :
  Inv X Dp σ (upd H a o) { s with heap:=h',toks:=t' }:=I.un (Un.laid k d<|I.hok.fresh d)<|I.hok.laid k d new
theorem Inv.write {x e:Ei}{o:HO}{t':Nat}(I:Inv X Dp σ H s)(g:Tl<|H x)(f:e=x\/H e=some (.own x))(k:∀b u,b≠e->s.heap.get? b=some u->h'.get? b=some u)(d:∃u,h'.get? e=some u)
  (new:yj X.prog X.w (upd H x o) h' x o):Inv X Dp σ (upd H x o) { s with heap:=h',toks:=t' }:=I.un (Un.write g f k d)<|I.hok.write g f k d new
theorem Inv.ug {b:De}(I:Inv X Dp σ H s)(h:∀p∈b,s.heap.get? p.1=some p.2/\H p.1=none/\p.1≠X.env.locals/\p.1∉X.fs/\∀v,p.2.data≠.cell v):Inv X b σ H s :=
 ⟨I.ok,I.os,I.bare,I.base,I.loc,I.cell,I.free,I.wK,fun p d=>(ZB.mp d).elim (fun z=>I.pin p<|Ya _ z) (h p),I.hok,I.len⟩
theorem FV {N:Da}(f:N.Nodup){i j:Nat}{x:Str}(a:N[i]?=some x)(b:N[j]?=some x):i=j:=by
 obtain⟨g,d⟩:=Zv.mp a;obtain⟨l,e⟩:=Zv.mp b;exact(Jg f).mp (d.trans e.symm)
theorem BC {M:Model}{A:ED}{E:Eh->Dh}{i:Nat}{x:Str}{Q:Unit->Dh}(I:Inv X Dp σ H s)(hN:X.N.Nodup)(P:X.N[i]?=some x)(B:Loc X.env.scope x)(r:yt v u)
  (h:∀s',Inv X Dp (σ.set i (some v)) H s'->(∃a,Ll a s.heap s'.heap/\(a=X.env.locals\/X.env.cells.lookup x=some a))->Q () s') (hf:X.fn x=true\/X.env.scope.names.lookup x=some .local:=by first|exact .inl rfl|exact .inr rfl|assumption):El M A (storeName X.env x u) Q E s:=by
 obtain⟨m,hn,hl⟩:=id I.loc;have O:(X.env.scope.kind==.class||(X.env.scope.kind==.module&&X.env.locals !=X.env.globals))=false:=by rw[I.ok.kind];rfl
 have F:i<σ.length:=by rw[I.len];exact(Zv.mp P).1
 have lR:=I.lR;have l:∀{a:Ei} {h':EB},(∃o,s.heap.get? a=some o/\H a=none)->Ll a s.heap h'->tG X.prog X.w H h':=fun{a h'} ha f b ob e=>by
  obtain⟨_,_,C⟩:=ha;refine(I.hok b ob e).stay (fun c T t q=>(f.2 c ?_).trans q) (fun _ q=>q) fun _ _ q=>q;rintro rfl
  rcases t with rfl|t
  ·rw[C]at e;cases e
  ·rw[C]at t;cases t
 rcases B with hk|hk
 ·refine wpAny_storeName_local hk hn (fun h' Y f=>?_) O;obtain⟨oL,_,_,Z,_⟩:=id hn;refine h _ ⟨I.ok,I.os,I.bare,⟨fun b o e n hb B=>?_,fun b o e n hb B=>?_,I.base.free,fun b o e B=>?_,I.base.tups,I.base.tX,I.base.tO⟩,⟨_,Y,fun j y v' g D U=>?_⟩,fun y c e=>?_,I.free,I.wK,fun p hp=>?_,l ⟨oL,Z,I.free⟩ f,by simpa using I.len⟩ ⟨_,f,.inl rfl⟩
  ·exact(f.2 b<|Zz<|ZI (Zu e) I.ok.above).trans (I.base.keep b o e n hb B)
  ·obtain⟨sl,g⟩:=I.base.slot b o e n hb B;exact⟨sl,(f.2 b<|Zz<|ZI (Zu e) I.ok.above).trans g⟩
  ·obtain⟨o',g⟩:=I.base.there b o e B;exact⟨o',(f.2 b<|Zz<|ZI (Zu e) I.ok.above).trans g⟩
  ·by_cases J:j=i
   ·subst J;rw[P]at g;cases g;rw[List.getElem?_set_self F]at D;cases D;exact⟨u,r,.inl ⟨hk,by simp⟩⟩
   ·rw[List.getElem?_set_ne<|Ey J]at D;obtain⟨u',r',q⟩:=hl j y v' g D U;refine⟨u',r',?_⟩
    rcases q with⟨k,e⟩|⟨k,c,e,z⟩
    ·refine .inl ⟨k,?_⟩;have:y≠x:=fun e=>J<|FV hN g<|e▸P;simp[this,e]
    ·exact .inr ⟨k,c,e,z.sameBut f<|lR y c e⟩
  ·obtain⟨T,z⟩:=I.cell y c e;exact⟨T,z.sameBut f<|lR y c e⟩
  ·obtain⟨e,n,ne,nf,d⟩:=I.pin p hp;exact⟨(f.2 p.1 ne).trans e,n,ne,nf,d⟩
 ·have G:X.fn x=true:=by
   rcases hf with z|z
   ·exact z
   ·rw[z]at hk;cases hk
  obtain⟨c,t⟩:=I.ok.has x<|.inl hk;obtain⟨T,z⟩:=I.cell x c t;refine wpAny_storeName_cell I.ok.kind hk t z<|fun h' K f=>?_;obtain⟨oc,R,ab⟩:=id z;refine h { s with heap:=h' } ⟨I.ok,I.os,I.bare,⟨fun b o e n hb B=>?_,fun b o e n hb B=>?_,I.base.free,fun b o e B=>?_,I.base.tups,I.base.tX,I.base.tO⟩,⟨m,hn.sameBut f<|Ey<|lR x c t,fun j y v' g D U=>?_⟩,fun y S e=>?_,I.free,I.wK,fun p hp=>?_,l ⟨oc,R,I.wK x c t⟩ f,by simpa using I.len⟩ ⟨c,f,.inr t⟩
  ·exact(f.2 b<|Zz<|ZI (Zu e)<|I.ok.cab x c G t).trans (I.base.keep b o e n hb B)
  ·obtain⟨sl,g⟩:=I.base.slot b o e n hb B;exact⟨sl,(f.2 b<|Zz<|ZI (Zu e)<|I.ok.cab x c G t).trans g⟩
  ·obtain⟨o',g⟩:=I.base.there b o e B;exact⟨o',(f.2 b<|Zz<|ZI (Zu e)<|I.ok.cab x c G t).trans g⟩
  ·by_cases J:j=i
   ·subst J;rw[P]at g;cases g;rw[List.getElem?_set_self F]at D;cases D;exact⟨u,r,.inr ⟨.inl hk,c,t,K⟩⟩
   ·rw[List.getElem?_set_ne<|Ey J]at D;obtain⟨u',r',q⟩:=hl j y v' g D U;refine⟨u',r',?_⟩
    rcases q with q|⟨k,S,e,z'⟩
    ·exact .inl q
    ·refine .inr ⟨k,S,e,z'.sameBut f ?_⟩;rintro rfl;exact J<|FV hN g<|I.ok.inj _ _ _ e t▸P
  ·by_cases L:S=c
   ·subst L;exact⟨_,K⟩
   ·obtain⟨w2,z2⟩:=I.cell y S e;exact⟨w2,z2.sameBut f L⟩
  ·obtain⟨e,n,ne,nf,d⟩:=I.pin p hp;refine⟨(f.2 p.1 ?_).trans e,n,ne,nf,d⟩;intro q;rw[q,R]at e;have q':oc=p.2:=Option.some.inj e;exact d T (by rwa[←q'])
theorem IK {M:Model}{A:ED}{E:Eh->Dh}{i:Nat}{x:Str}{Q:Unit->Dh}(I:Inv X Dp σ H s)(d:X.N.Nodup)(f:X.N[i]?=some x)(g:Loc X.env.scope x)(r:yt v u)
  (h:∀s',Inv X Dp (σ.set i (some v)) H s'->Q () s') (e:X.fn x=true\/X.env.scope.names.lookup x=some .local:=by first|exact .inl rfl|exact .inr rfl|assumption):El M A (storeName X.env x u) Q E s :=
 BC I d f g r (fun s' b _=>h s' b) e
theorem Inv.call' {d:Em}(I:Inv X Dp σ H s)(i:d.os=s.os)(u:Un (frs X.stack) ch H H' s.heap d.heap)(hok:tG X.prog X.w H' d.heap)(g:Mr d.gens)
  (f:∀b∈ch,(b∈X.ex\/X.s₀.heap.objs.size<=b)/\b≠X.env.locals/\(∀x c,X.env.cells.lookup x=some c->c≠b)/\∀p∈X.pn++Dp,p.1≠b):Inv X Dp σ H' d:=by
 obtain⟨h',g',d',t',j⟩:=d;have e:j=s.os:=i;subst e;exact I.call (g':=g') (t':=t') (d':=d') u hok g f
end
abbrev XK:=Eh->Option Ei->Hp->Prop
abbrev St:=List<|Option V
abbrev VK:=V->Hp->Prop
abbrev TE:=St->Hp->VK->Prop
abbrev TT:=St->Hp->(Bool->Hp->Prop)->Prop
abbrev TA:=St->Hp->(Dj->Hp->Prop)->Prop
structure Ends where
 nx:St->Hp->Prop
 rt:VK
 bk:St->Hp->Prop:=fun _ _=>False
 ct:St->Hp->Prop:=fun _ _=>False
abbrev TS:=Ends->St->Hp->Prop
inductive EP (X:Cx)(Dp:De)(σ:St)(Q:VK)(u:Eh)(s':Em):Prop
 |mk (v:V) (H':Hp) (i:Inv X Dp σ H' s') (r:yt v u) (q:Q v H'):EP X Dp σ Q u s'
inductive TP (X:Cx)(Dp:De)(σ:St)(Q:Bool->Hp->Prop)(b:Bool)(s':Em):Prop
 |mk (H':Hp) (i:Inv X Dp σ H' s') (q:Q b H'):TP X Dp σ Q b s'
inductive AP (X:Cx)(Dp:De)(σ:St)(Q:Dj->Hp->Prop)(us:Db)(s':Em):Prop
 |mk (vs:Dj) (H':Hp) (i:Inv X Dp σ H' s') (r:yu vs us) (q:Q vs H'):AP X Dp σ Q us s'
def SP (X:Cx)(e:De)(D:Ends)(f:Flow)(g:Em):Prop :=
 match f with
 | .next=>∃b d,Inv X e b d g/\D.nx b d
 | .brk=>∃b d,Inv X e b d g/\D.bk b d
 | .cont=>∃b d,Inv X e b d g/\D.ct b d
 | .ret u=>∃v b d,Inv X e b d g/\yt v u/\D.rt v d
def PE (X:Cx)(e:EG)(t:TE):Prop :=
 ∀(d:De) (s:Em) (b:St) (H:Hp) (Q:VK),Inv X d b H s->t b H Q->El (Es X.prog X.w) X.A (E3 e X.env) (EP X d b Q) X.xe s
def PT (X:Cx)(e:EG)(t:TT):Prop :=
 ∀(d:De) (s:Em) (b:St) (H:Hp) (Q:Bool->Hp->Prop),Inv X d b H s->t b H Q->El (Es X.prog X.w) X.A (isTrue e X.env<|E3 e X.env) (TP X d b Q) X.xe s
def PW (X:Cx)(e:EG)(t:TT):Prop :=
 ∀(b:Sem Eh) (f:De) (s:Em) (d:St) (H:Hp) (Q:Bool->Hp->Prop),Inv X f d H s->t d H Q->El (Es X.prog X.w) X.A (isTrue e X.env b) (TP X f d Q) X.xe s
theorem PW.pt (h:PW X e t):PT X e t:=h _
def PA (X:Cx)(es:List EG)(t:TA):Prop :=
 ∀(pos:Pos) (d:De) (s:Em) (b:St) (H:Hp) (Q:Dj->Hp->Prop),Inv X d b H s->t b H Q->El (Es X.prog X.w) X.A (spliced<|Lb pos<|Ew es X.env) (AP X d b Q) X.xe s
def PS (X:Cx)(st:EK)(t:TS):Prop :=
 ∀(b:De) (s:Em) (d:St) (H:Hp) (D:Ends),Inv X b d H s->t D d H->El (Es X.prog X.w) X.A (exec st X.env) (SP X b D) X.xe s
def sX (X:Cx)(st:List EK)(t:TS):Prop :=
 ∀(b:De) (s:Em) (d:St) (H:Hp) (D:Ends),Inv X b d H s->t D d H->El (Es X.prog X.w) X.A (execs st X.env) (SP X b D) X.xe s
theorem Ch {d:Type}{t:Sem d}{Q b:d->Dh}{M:Model}{A:ED}{E:Eh->Dh}{s:Em}(h:El M A t Q E s)(e:∀a s,Q a s->b a s):El M A t b E s:=Yr h e fun _ _ x=>x
section
variable {X:Cx}
inductive jw (i:Nat)(σ:St)(H:Hp)(Q:VK):Prop
 |mk (v:V) (e:σ[i]?=some (some v)) (q:Q v H):jw i σ H Q
def X1 (i:Nat):TE:=jw i
def tC (v:V):TE:=fun _ H Q=>Q v H
theorem TZ {i:Nat}{x:Str}{pos:Pos}(g:X.N[i]?=some x)(j:aY X.env.scope x)(hd:(x==("__debug__":Str))=false:=by decide)(d:(x==("__classdict__":Str))=false:=by decide):PE X (.Name x pos) (X1 i):=by
 intro f s n H Q I h;obtain⟨v,e,h⟩:=h;obtain⟨m,hn,hl⟩:=I.loc;obtain⟨u,r,l⟩:=hl i x v g e j;have b:EP X f n Q u s:=⟨v,H,I,r,h⟩
 rcases l with⟨hk,hm⟩|⟨hk,c,hc,hcell⟩
 ·exact wpAny_Name (wpAny_loadName_local I.ok.kind hk hn hm b) hd
 ·rcases hk with hk|hk
  ·exact wpAny_Name (wpAny_loadName_cell I.ok.kind hk hc hcell b) hd
  ·exact wpAny_Name (wpAny_loadName_free I.ok.kind hk hc hcell b d) hd
theorem zH {i j pos}:PE X (.Constant (.int i) j pos) (tC<|.int i):=fun _ _ _ H _ I h=>wpAny_Constant_int ⟨.int i,H,I.tok _,⟨_,rfl⟩,h⟩
theorem v9 {b j pos}:PE X (.Constant (.bool b) j pos) (tC<|.bl b):=fun _ _ _ H _ I h=>Constant_bool ⟨.bl b,H,I,rfl,h⟩
theorem k9 {j pos}:PE X (.Constant .none j pos) (tC .non):=fun _ _ _ H _ I h=>Constant_none ⟨.non,H,I,rfl,h⟩
theorem zz {x j pos}:PE X (.Constant (.str x) j pos) (tC<|.str x):=fun _ _ _ H _ I h=>Calls.Constant_str ⟨.str x,H,I.tok _,⟨_,rfl⟩,h⟩
def Gl (X:Cx)(x:Str):Prop:=X.env.kindOf x=some .globalImplicit
theorem kC {E:Eh->Dh}{u:Eh}{pos:Pos}{Q:Eh->Dh}(I:Inv X Dp σ H s)(b:Gl X x)(hm:X.mg x=some u)(h:Q u s)
  (hd:(x==("__debug__":Str))=false:=by decide):El (Es X.prog X.w) X.A (E3 (.Name x pos) X.env) Q E s :=
 Calls.Name_function_global I.ok.kind b (Calls.loadGlobal_global (by rw[I.ok.glob];exact I.mod.glob.keeps I.bk) hm h) hd
theorem vX {E:Eh->Dh}{u:Eh}{pos:Pos}{Q:Eh->Dh}(I:Inv X Dp σ H s)(e:Gl X x)(hm:X.mg x=none)(f:LV x=some u)(h:Q u s)
  (hn:x≠"__name__":=by decide) (hd:(x==("__debug__":Str))=false:=by decide):El (Es X.prog X.w) X.A (E3 (.Name x pos) X.env) Q E s:=by
 obtain⟨g,b,d⟩:=I.mod.blt;exact Calls.Name_function_global I.ok.kind e (Calls.loadGlobal_builtin (by rw[I.ok.glob];exact I.mod.glob.keeps I.bk) hm (by rw[I.ok.blt];exact b.keeps I.bk) ((d x hn).trans f) h) hd
theorem xB {u:Eh}{pos:Pos}(b:Gl X x)(hm:X.mg x=some u)(r:yt v u)(hd:(x==("__debug__":Str))=false:=by decide):PE X (.Name x pos) (tC v) :=
 fun _ _ _ H _ I h=>kC I b hm ⟨v,H,I,r,h⟩ hd
theorem yY {u:Eh}{pos:Pos}(b:Gl X x)(hm:X.mg x=none)(d:LV x=some u)(r:yt v u)(hn:x≠"__name__":=by decide)(hd:(x==("__debug__":Str))=false:=by decide):PE X (.Name x pos) (tC v) :=
 fun _ _ _ H _ I h=>vX I b hm d ⟨v,H,I,r,h⟩ hn hd
variable {a b:EG}{ta tb:TE}{pos:Pos}
def PC (X:Cx)(op:CmpOp)(a b:EG)(t:TE):Prop :=
 ∀(g:De) (s:Em) (f:St) (H:Hp) (Q:VK),Inv X g f H s->t f H Q ->
  El (Es X.prog X.w) X.A (E3 a X.env) (fun v d=>El (Es X.prog X.w) X.A (E3 b X.env) (fun u e=>El (Es X.prog X.w) X.A (EY op v u) (EP X g f Q) X.xe e) X.xe d) X.xe s
variable {tA tB':TT}{rest:List EG}
def bD (t u:TT):TT:=fun d H Q=>t d H fun c b=>if c=true then u d b Q else Q false b
def bN (t u:TT):TT:=fun d H Q=>t d H fun c b=>if c=true then Q true b else u d b Q
def bH (t:TT):TT:=fun d H Q=>t d H fun c b=>Q (!c) b
theorem CU (ha:PT X a tA):PW X (.BoolOp .And [a] pos) tA:=by
 intro g b s d H Q I h;refine isTrue_and<|Ch (ha b s d H Q I h) fun c f e=>?_;cases c with
 |true=>exact isTrue_and_nil e
 |false=>exact e
theorem jJ (ha:PT X a tA):PW X (.BoolOp .Or [a] pos) tA:=by
 intro g b s d H Q I h;refine isTrue_or<|Ch (ha b s d H Q I h) fun c f e=>?_;cases c with
 |false=>exact isTrue_or_nil e
 |true=>exact e
theorem KB (ha:PT X a tA)(hb:PW X (.BoolOp .And (b::rest) pos) tB'):PW X (.BoolOp .And (a::b::rest) pos) (bD tA tB'):=by
 intro l d s i H Q I h;refine isTrue_and<|Ch (ha d s i H _ I h) fun c j ⟨e,f,g⟩=>?_;cases c with
 |true=>exact hb l d j i e Q f g
 |false=>exact⟨e,f,g⟩
theorem uN (ha:PT X a tA)(hb:PW X (.BoolOp .Or (b::rest) pos) tB'):PW X (.BoolOp .Or (a::b::rest) pos) (bN tA tB'):=by
 intro l d s i H Q I h;refine isTrue_or<|Ch (ha d s i H _ I h) fun c j ⟨e,f,g⟩=>?_;cases c with
 |true=>exact⟨e,f,g⟩
 |false=>exact hb l d j i e Q f g
theorem xD (ha:PT X a tA):PT X (.UnaryOp .Not a pos) (bH tA):=by
 intro b s f H Q I h;exact isTrue_not<|Ch (ha b s f H (fun c e=>Q (!c) e) I h) fun c g z=>z.casesOn fun d i q=>⟨d,i,q⟩
def aw (ta tb:TE):TE:=fun d H Q=>ta d H fun x b=>∃c,x=.bl c/\if c=true then tb d b Q else Q (.bl false) b
def bI (ta tb:TE):TE:=fun d H Q=>ta d H fun x b=>∃c,x=.bl c/\if c=true then Q (.bl true) b else tb d b Q
def aD (ta:TE):TE:=fun d H Q=>ta d H fun x b=>∃c,x=.bl c/\Q (.bl<|!c) b
theorem x8 (h:PE X a t):PE X (.BoolOp op [a] pos) t:=fun b s e H Q I d=>BoolOp_one<|h b s e H Q I d
theorem y8 (ha:PE X a ta)(hb:PE X (.BoolOp .And (b::rest) pos) tb):PE X (.BoolOp .And (a::b::rest) pos) (aw ta tb):=by
 intro e s i H Q I h;refine BoolOp_and<|Ch (ha e s i H _ I h) fun v l ⟨x,f,g,j,d⟩=>?_;obtain⟨c,rfl,d⟩:=d;cases j;refine YR ?_;cases c with
 |true=>exact hb e l i f Q g d
 |false=>exact⟨.bl false,f,g,rfl,d⟩
theorem PV (ha:PE X a ta)(hb:PE X (.BoolOp .Or (b::rest) pos) tb):PE X (.BoolOp .Or (a::b::rest) pos) (bI ta tb):=by
 intro e s i H Q I h;refine BoolOp_or<|Ch (ha e s i H _ I h) fun v l ⟨x,f,g,j,d⟩=>?_;obtain⟨c,rfl,d⟩:=d;cases j;refine YR ?_;cases c with
 |false=>exact hb e l i f Q g d
 |true=>exact⟨.bl true,f,g,rfl,d⟩
theorem PU (ha:PE X a ta):PE X (.UnaryOp .Not a pos) (aD ta):=by
 intro d s i H Q I h;refine UnaryOp_<|Ch (ha d s i H _ I h) fun v j ⟨x,e,f,g,b⟩=>?_;obtain⟨c,rfl,b⟩:=b;cases g;exact not_of<|YR ⟨.bl<|!c,e,f,rfl,b⟩
def bM (t:TT)(ta tb:TE):TE:=fun b H Q=>t b H fun c d=>if c=true then ta b d Q else tb b d Q
theorem Gn (n:PT X c tA)(ha:PE X a ta)(hb:PE X b tb):PE X (.IfExp c a b pos) (bM tA ta tb):=by
 intro e s f H Q I h;refine wpAny_IfExp<|Ch (n e s f H _ I h) fun d l ⟨g,i,j⟩=>?_;cases d with
 |true=>exact ha e l f g Q i j
 |false=>exact hb e l f g Q i j
end
def xx (K:Cc)(H:Hp)(a:Ei)(xs:Dj):Prop :=
 Rd H a (.lst xs) \/
  ∃(o:Obj) (b:Array Eh) (n:Nat),K.lookup a=some o/\o.cls=.type "list"/\o.dict=none/\o.data=.seq b n/\b.size<=sizeLine/\yu xs b.toList
def xg (K:Cc)(H:Hp)(a:Ei)(xs:Dj):Prop :=
 Rd H a (.tup xs) \/
  ∃(o:Obj) (b:Array Eh) (n:Nat),K.lookup a=some o/\o.cls=.type "tuple"/\o.dict=none/\o.data=.seq b n/\b.size<=sizeLine/\yu xs b.toList
def aZ:Eh->Option V
 | .none=>some .non
 | .bool b=>some<|.bl b
 | .int i _=>some<|.int i
 | .str x _=>some<|.str x
 | .bytes b _=>some<|.byt b
 | .float b _=>some<|.flt b
 | .ref a=>some<|.ref a
 | .type n=>some<|.ty n
 |_=>none
theorem yt.abs (r:yt x u):aZ u=some x:=by
 cases x with
 |non=>cases r;rfl
 |bl _=>cases r;rfl
 |int _=>obtain⟨t,rfl⟩:=r;rfl
 |str _=>obtain⟨t,rfl⟩:=r;rfl
 |byt _=>obtain⟨t,rfl⟩:=r;rfl
 |flt _=>obtain⟨t,rfl⟩:=r;rfl
 |ref _=>cases r;rfl
 |ty _=>cases r;rfl
theorem yt.inj (r:yt x u)(q:yt y u):x=y:=Option.some.inj<|r.abs.symm.trans q.abs
theorem yu.inj:∀{xs ys:Dj} {us:Db},yu xs us->yu ys us->xs=ys
 |_,_,_,.nil,.nil=>rfl
 |_,_,_,.cons r t,.cons r' t'=>by rw[r.inj r',yu.inj t t']
section
variable {X:Cx}{Dp:De}{σ:St}{H:Hp}{s:Em}{a:Ei}{xs ys:Dj}
theorem xx.of {K:Cc}(h:H a=some (.lst xs)):xx K H a xs:=.inl<|.inl h
theorem xg.of {K:Cc}(h:H a=some (.tup xs)):xg K H a xs:=.inl<|.inl h
theorem Inv.list (I:Inv X Dp σ H s)(h:xx X.K H a xs):∃its:Db,yu xs its/\PlainL s.heap a its.toArray/\xs.length<=sizeLine:=by
 rcases h with h|⟨o,its,n,hk,b,hd,d,f,r⟩
 ·obtain⟨z,its,n,r,e⟩:=h.ok I.hok;exact⟨its,r,⟨_,n,e,rfl,rfl,rfl⟩,z⟩
 ·refine⟨its.toList,r,⟨o,n,I.tQ a o hk,b,hd,by simpa using d⟩,?_⟩;have e:=r.length;simp only[ZO]at e;lia
theorem Inv.mW (I:Inv X Dp σ H s)(h:xg X.K H a xs):∃its:Db,yu xs its/\TupAt s.heap a its.toArray/\xs.length<=sizeLine:=by
 rcases h with h|⟨o,its,n,hk,d,b,f,g,r⟩
 ·obtain⟨z,its,r,p⟩:=h.ok I.hok;exact⟨its,r,p,z⟩
 ·refine⟨its.toList,r,⟨o,I.tQ a o hk,d,n,by simpa using f,b⟩,?_⟩;have e:=r.length;simp only[ZO]at e;lia
theorem Inv.tuple (I:Inv X Dp σ H s)(h:xg X.K H a xs):∃its:Db,yu xs its/\IsTup s.heap a its.toArray/\xs.length<=sizeLine:=by
 obtain⟨its,r,p,z⟩:=I.mW h;exact⟨its,r,p.is,z⟩
theorem Inv.pD (I:Inv X Dp σ H s)(h:xx X.K H a xs)(h':xx X.K H a ys):xs=ys:=by
 obtain⟨b,r,⟨o,n,e,_,_,d⟩,_⟩:=I.list h;obtain⟨i,l,⟨q,p,g,_,_,f⟩,_⟩:=I.list h';rw[e]at g;cases g;rw[d]at f;injection f with j _;have:b=i:=by simpa using congrArg Array.toList j
 subst this;exact r.inj l
theorem Inv.nM (I:Inv X Dp σ H s)(h:xg X.K H a xs)(h':xg X.K H a ys):xs=ys:=by
 obtain⟨b,r,⟨o,e,_,n,d⟩,_⟩:=I.tuple h;obtain⟨i,l,⟨q,g,_,p,f⟩,_⟩:=I.tuple h';rw[e]at g;cases g;rw[d]at f;injection f with j _;have:b=i:=by simpa using congrArg Array.toList j
 subst this;exact r.inj l
end
abbrev Cx.wish (X:Cx)(E:Eh->Dh):Cx:={ X with xe:=E }
abbrev Cx.je (X:Cx):Cx:=X.wish fun _ _=>False
theorem Cx.Ok.wish {X:Cx}(ok:X.Ok)(E:Eh->Dh):(X.wish E).Ok :=
 ⟨ok.mod,ok.kind,ok.glob,ok.blt,ok.above,ok.inj,ok.has,ok.cab,ok.hd,ok.frames,ok.stk,ok.lQ,ok.bs,ok.nY,ok.pZ,ok.pL,ok.tR,ok.nj⟩
theorem Cx.Ok.tL {X:Cx}{E:Eh->Dh}(ok:(X.wish E).Ok):X.Ok :=
 ⟨ok.mod,ok.kind,ok.glob,ok.blt,ok.above,ok.inj,ok.has,ok.cab,ok.hd,ok.frames,ok.stk,ok.lQ,ok.bs,ok.nY,ok.pZ,ok.pL,ok.tR,ok.nj⟩
section
variable {X:Cx}{Dp:De}{σ:St}{H:Hp}{s:Em}{E:Eh->Dh}
theorem Inv.wish (I:Inv X Dp σ H s)(E:Eh->Dh):Inv (X.wish E) Dp σ H s:=⟨I.ok.wish E,I.os,I.bare,I.base,I.loc,I.cell,I.free,I.wK,I.pin,I.hok,I.len⟩
theorem Inv.tL (I:Inv (X.wish E) Dp σ H s):Inv X Dp σ H s:=⟨I.ok.tL,I.os,I.bare,I.base,I.loc,I.cell,I.free,I.wK,I.pin,I.hok,I.len⟩
theorem SP.tL (h:SP (X.wish E) Dp D f s'):SP X Dp D f s':=by
 cases f with
 |next=>obtain⟨b,d,I,q⟩:=h;exact⟨b,d,I.tL,q⟩
 |brk=>obtain⟨b,d,I,q⟩:=h;exact⟨b,d,I.tL,q⟩
 |cont=>obtain⟨b,d,I,q⟩:=h;exact⟨b,d,I.tL,q⟩
 |ret u=>obtain⟨v,b,d,I,r,q⟩:=h;exact⟨v,b,d,I.tL,r,q⟩
theorem sX.je {st:List EK}(h:sX X.je st t):sX X st t:=fun Dp s σ H D I b =>
 Yr (h Dp s σ H D (I.wish _) b) (fun _ _ q=>q.tL) fun _ _ z=>EE z
end
section
variable {X:Cx}{st:EK}{rest:List EK}{t u:TS}{e:EG}{te:TE}{pos:Pos}
def Tf:TS:=fun D b H=>D.nx b H
def Hz (t u:TS):TS:=fun D b H=>t { D with nx:=u D } b H
theorem zQ:sX X [] Tf:=fun _ _ b H _ I h=>Vd ⟨b,H,I,h⟩
theorem zD (i:PS X st t)(j:sX X rest u):sX X (st::rest) (Hz t u):=by
 intro d s n H D I h;refine V8<|Ch (i d s n H { D with nx:=u D } I h) fun f l q=>?_;cases f with
 |next =>
  obtain⟨b,e,g,q⟩:=q;exact j d l b e D g q
 |ret v=>exact q
 |brk=>exact q
 |cont=>exact q
theorem zE (d:PS X st t):sX X [st] t:=by
 intro b s e H D I h;refine V8<|Ch (d b s e H D I h) fun f g q=>?_;cases f with
 |next=>exact Vd q
 |ret v=>exact q
 |brk=>exact q
 |cont=>exact q
theorem Inv.quiet (I:Inv X Dp σ H s):interactive X.env=false:=by simp[interactive,I.ok.kind]
def Tc (te:TE):TS:=fun D b H=>te b H fun _ d=>D.nx b d
theorem yD (i:PE X e te)(j:Mw e none pos.line X.env=LC false:=by rfl):PS X (.Expr e pos) (Tc te):=by
 intro d s b H D I h;exact wpAny_Expr_any (Ch (i d s b H _ I h) fun v o ⟨x,f,g,n,l⟩=>⟨b,f,g,l⟩) I.quiet j
def aF (te:TE):TS:=fun D b H=>te b H D.rt
theorem zM (i:PE X e te):PS X (.Return (some e) pos) (aF te):=by
 intro d s b H D I h;exact wpAny_Return_some<|Ch (i d s b H _ I h) fun v n ⟨x,f,g,l,j⟩=>⟨x,b,f,g,l,j⟩
def bG (c:TT)(t u:TS):TS:=fun D d H=>c d H fun b e=>if b=true then t D d e else u D d e
theorem yI (n:PT X c tc)(ha:sX X a t)(hb:sX X b u):PS X (.If c a b pos) (bG tc t u):=by
 intro e s f H D I h;refine wpAny_If<|Ch (n e s f H _ I h) fun d l ⟨g,i,j⟩=>?_;cases d with
 |true=>exact ha e l f g D i j
 |false=>exact hb e l f g D i j
end
abbrev TG:=V->St->Hp->(St->Hp->Prop)->Prop
abbrev SV:=Dj->St->Hp->(St->Hp->Prop)->Prop
def PG (X:Cx)(b:EG)(t:TG):Prop :=
 ∀(e:De) (s:Em) (g:St) (H:Hp) (v:V) (u:Eh) (Q:St->Hp->Prop),Inv X e g H s->yt v u->t v g H Q ->
  El (Es X.prog X.w) X.A (assign b X.env u) (fun _ i=>∃d f,Inv X e d f i/\Q d f) X.xe s
def pC (X:Cx)(l:List EG)(t:SV):Prop :=
 ∀(d:De) (s:Em) (i:St) (H:Hp) (g:Dj) (f:Db) (Q:St->Hp->Prop),Inv X d i H s->yu g f->t g i H Q ->
  El (Es X.prog X.w) X.A (assignInOrder ((LJ l X.env).map (·.2)) f) (fun _ j=>∃b e,Inv X d b e j/\Q b e) X.xe s
section
variable {X:Cx}{pos:Pos}
def UT (i:Nat):TG:=fun v b H Q=>Q (b.set i (some v)) H
theorem zR {i:Nat}{x:Str}(d:X.N.Nodup)(f:X.N[i]?=some x)(g:Loc X.env.scope x)(e:X.fn x=true\/X.env.scope.names.lookup x=some .local:=by first|exact .inl rfl|exact .inr rfl|assumption):PG X (.Name x pos) (UT i):=by
 intro j s n H v u Q I r h;exact wpAny_assign_Name<|IK I d f g r (fun l b=>⟨_,H,b,h⟩) e
def be:SV:=fun b d H Q=>b=[]/\Q d H
inductive lM (t:TG)(u:SV)(vs:Dj)(σ:St)(H:Hp)(Q:St->Hp->Prop):Prop
 |mk (v:V) (r:Dj) (e:vs=v::r) (q:t v σ H fun σ' H'=>u r σ' H' Q):lM t u vs σ H Q
theorem jP:pC X [] be:=by
 intro d s b H g f Q I r h;obtain⟨e,h⟩:=h;subst e;cases r;exact assignInOrder_nil ⟨b,H,I,h⟩
theorem yQ (j:PG X e t)(l:pC X es u)
  (n:(LJ (e::es) X.env).map (·.2)=assign e X.env::(LJ es X.env).map (·.2):=by rfl):pC X (e::es) (lM t u):=by
 intro d s q H y w Q I r h;obtain⟨v,x,i,h⟩:=h;subst i;cases r with
 |cons r rr =>
  rw[n];refine assignInOrder_cons<|Ch (j d s q H _ _ _ I r h) fun _ p ⟨b,f,g,o⟩=>?_;exact l d p b f _ _ Q g rr o
inductive jt (K:Cc)(n:Nat)(t:SV)(v:V)(σ:St)(H:Hp)(Q:St->Hp->Prop):Prop
 |mk (a:Ei) (xs:Dj) (e:v=.ref a) (h:xg K H a xs) (l:xs.length=n) (q:t xs σ H Q):jt K n t v σ H Q
theorem Xi {k:Nat}{n:Nat}(w:X.calm=true)(h:pC X es t)
  (hn:(LJ es X.env).length=n:=by rfl) (d:(LJ es X.env).findIdx? (·.1)=none:=by rfl):PG X (.Tuple es k pos) (jt X.K n t):=by
 intro g s j H v u Q I r f;obtain⟨a,B,p,x,hl,f⟩:=f;subst p;cases r;obtain⟨A,i,y,C⟩:=I.tuple x;refine assign_Tuple_tuple (I.ok.hd w) y (by simp[hn,←hl,i.length]) d fun q z=>?_;have l:Inv X g j H { s with heap:=q }:=I.kept (t':=s.toks) fun b o e=>z b o (Zz<|Zu e) e;exact h g _ j H B _ Q l (by simpa using i) f
def Rq (e:TE)(g:TG):TS:=fun D b H=>e b H fun x d=>g x b d D.nx
theorem zL {i:Nat}{x:Str}{b:Pos}(l:X.N.Nodup)(p:X.N[i]?=some x)(r:Loc X.env.scope x)(n:PE X e te)(q:Mw e (some<|.Name x b) pos.line X.env=LC false:=by rfl)(o:X.fn x=true\/X.env.scope.names.lookup x=some .local:=by first|exact .inl rfl|exact .inr rfl|assumption) :
  PS X (.Assign [.Name x b] e pos) (Rq te<|UT i):=by
 intro d s w H D I h;refine wpAny_Assign_Name (Ch (n d s w H _ I h) fun v z ⟨y,f,g,u,t⟩=>?_) q;exact IK g l p r u (fun A j=>⟨_,f,j,t⟩) o
theorem Ck {i:Nat}{x:Str}{b:Pos}(d:X.N.Nodup)(f:PE X e te)(j:X.N[i]?=some x:=by rfl)(n:Loc X.env.scope x:=by first|exact EL rfl|exact Or.inr rfl)(l:Mw e (some<|.Name x b) pos.line X.env=LC false:=by rfl)(g:X.fn x=true\/X.env.scope.names.lookup x=some .local:=by first|exact .inl rfl|exact .inr rfl|assumption):PS X (.Assign [.Name x b] e pos) (Rq te<|UT i):=zL d j n f l g
end
structure It where
 go:Nat->Hp->Prop
 nR:Nat->Hp->V->Hp->Prop
 stop:Nat->Hp->Prop
def Xe (X:Cx)(d:De)(H:Hp)(b:Ei):Prop :=
 H b=none/\b≠X.env.locals/\b∉X.fs/\(b∈X.ex\/X.s₀.heap.objs.size<=b)/\(∀x c,X.env.cells.lookup x=some c->c≠b)/\∀p∈X.pn++d,p.1≠b
theorem Inv.rY {H':Hp}{b:Ei}(I:Inv X Dp σ H s)(hb:s.heap.objs.size<=b)(hn:H' b=none):Xe X Dp H' b:=by
 refine⟨hn,Y3<|ZI I.lt hb,I.iZ hb,.inr<|ZR I.sz hb,fun x c e z=>?_,fun p d z=>?_⟩
 ·obtain⟨v,q⟩:=I.cell x c e;exact absurd (ZI q.lt<|by rwa[z])<|YB _
 ·exact absurd (ZI (Zu (I.pin p d).1)<|by rwa[z]) (YB _)
structure Turn (P:Ej)(w:Ep)(K:Cc)(tg:EG)(J:It)(fp:Dd)(it:Ei)(tn:Nat->EB->Prop):Prop where
 mem:it∈fp
 obj:∀i h,tn i h->∀b∈fp,∃o,h.get? b=some o/\∀v,o.data≠.cell v
 keep:∀i h h',tn i h->(∀b∈fp,∀o,h.get? b=some o->h'.get? b=some o)->tn i h'
 item:∀(X:Cx),X.prog=P->X.w=w->X.K=K->X.calm=true->∀(i:Nat) (Dp:De) (s:Em) (σ:St) (H:Hp) (E:Eh->Dh),Inv X Dp σ H s->(∀b∈fp,Xe X Dp H b)->tn i s.heap->J.go i H ->
  El (Es P w) X.A (LN<|.ref it) (fun r s1=>∃u,r=some u /\ El (Es P w) X.A (L6 tg (.ref it) u) (fun _ s2=>∃x H',Inv X Dp σ H' s2/\yt x u/\J.nR i H x H'/\tn (i+1) s2.heap/\∀b∈fp,H' b=none) E s1) E s
 done:∀(X:Cx),X.prog=P->X.w=w->X.K=K->X.calm=true->∀(i:Nat) (Dp:De) (s:Em) (σ:St) (H:Hp) (E:Eh->Dh),Inv X Dp σ H s->(∀b∈fp,Xe X Dp H b)->tn i s.heap->J.stop i H ->
  El (Es P w) X.A (LN<|.ref it) (fun r s1=>r=none/\Inv X Dp σ H s1) E s
 self:∀(A:ED) (i:Nat) (s:Em) (Q:Eh->Dh) (E:Eh->Dh),tn i s.heap->Q (.ref it) s->El (Es P w) A (pyIter<|.ref it) Q E s
abbrev TI:=St->Hp->(It->Hp->Prop)->Prop
def PIE (X:Cx)(f:De)(o:St)(n:EG)(R:It->Hp->Prop)(e:Eh)(j:Em):Prop :=
 ∃(i:Ei) (g:Dd) (l:Nat->EB->Prop) (J:It) (d:Hp),e=.ref i/\Inv X f o d j/\Turn X.prog X.w X.K n J g i l/\l 0 j.heap/\(∀b∈g,Xe X f d b)/\R J d
def PI (X:Cx)(g b:EG)(i:TI):Prop :=
 ∀(e:De) (s:Em) (d:St) (H:Hp) (R:It->Hp->Prop),Inv X e d H s->i d H R ->
  El (Es X.prog X.w) X.A (E3 b X.env) (fun v f=>El (Es X.prog X.w) X.A (pyIter v) (PIE X e d g R) X.xe f) X.xe s
theorem FA {M:Model}{A:ED}{E:Eh->Dh}{s:Em}{d:EG}{it:Ei}{u:Eh}{o:Obj}{n:String}{vs:Array Eh}{Q:Unit->Dh}(f:s.heap.get? it=some o)(e:o.cls=.type n)(hd:o.data=.fields vs)
  (hn:["enumerate","zip","dict_itemiterator","dict_reverseitemiterator","odict_iterator","itertools.zip_longest","itertools.pairwise"].contains n=false) (b:Q () s):El M A (L6 d (.ref it) u) Q E s:=by
 unfold L6;cases d<;>first
  |exact Zh b
  | (cases u<;>first
    |exact Zh b
    | (refine Q9 (Uf f ?_)
       rw[e,hd];show El M A (if(["enumerate","zip","dict_itemiterator","dict_reverseitemiterator","odict_iterator","itertools.zip_longest","itertools.pairwise"].contains n&&vs[0]?==some (EX _))=true then _ else _) Q E s;rw[Zr (by intro h;rw[hn,Jm]at h;cases h)];exact Zh b))
def Tj (K:Cc)(a:Ei):It :=
 ⟨fun i H=>∃b x,xx K H a b/\b[i]?=some x,fun i H x d=>d=H/\∀b,xx K H a b->b[i]?=some x,fun i H=>∃b,xx K H a b/\b.length<=i⟩
def Rz (K:Cc)(a:Ei):It :=
 ⟨fun i H=>∃b x,xg K H a b/\b[i]?=some x,fun i H x d=>d=H/\∀b,xg K H a b->b[i]?=some x,fun i H=>∃b,xg K H a b/\b.length<=i⟩
def RB (lo:Int)(n:Nat):It:=⟨fun i _=>i<n,fun i H x b=>b=H/\x=.int (lo+i),fun i _=>n<=i⟩
theorem Oo {K:Cc}(a it:Ei):Turn P w K tg (Tj K a) [it] it (fun i h=>h.IsListIter it a i) where
 mem:=by simp
 obj:=fun i h st b hb=>by
  have e:b=it:=by simpa using hb
  subst e;obtain⟨o,e,c,d⟩:=st;exact⟨o,e,fun v z=>by rw[d]at z;cases z⟩
 keep:=fun i h g st k=>st.at fun o e=>k it (by simp) o e
 item:=by
  intro X B D A M i L s N H E I j st C;subst B D A;obtain⟨xs,x,l,F⟩:=C;obtain⟨G,J,p,U⟩:=I.list l;obtain⟨u,S,Y⟩:=J.get F;obtain⟨n,q,R,r,t,y⟩:=j it (by simp);refine wpAny_pyNext_list_item st p.isList (x:=u) (by simpa using S) fun g f Z=>?_;have O:Inv X L N H { s with heap:=g }:=I.turned (t':=s.toks) (fun b o hb e=>(Z.2 b hb).trans e) n q r t y;obtain⟨o,e,c,d⟩:=id f;exact⟨u,rfl,FA (s:={ s with heap:=g }) e c d (by decide) ⟨x,H,O,Y,⟨rfl,fun ys T=>by rw[I.pD T l];exact F⟩,f,fun b hb=>(j b hb).1⟩⟩
 done:=by
  intro X B D A M i L s N H E I j st C;subst B D A;obtain⟨xs,l,F⟩:=C;obtain⟨G,J,p,U⟩:=I.list l;obtain⟨n,q,R,r,t,y⟩:=j it (by simp);have hl:=J.length;exact wpAny_pyNext_list_end (I.ok.hd M) st p.isList (by simp;lia) fun g Q=>⟨rfl,I.turned (t':=s.toks) (fun b o hb e=>Q b o hb e) n q r t y⟩
 self:=fun _ _ _ _ _ st h=>wpAny_pyIter_listiter st h
theorem KU {K:Cc}(a it:Ei):Turn P w K tg (Rz K a) [it] it (fun i h=>h.IsTupleIter it a i) where
 mem:=by simp
 obj:=fun i h st b hb=>by
  have e:b=it:=by simpa using hb
  subst e;obtain⟨o,e,c,d⟩:=st;exact⟨o,e,fun v z=>by rw[d]at z;cases z⟩
 keep:=fun i h j st k=>st.at fun o e=>k it (by simp) o e
 item:=by
  intro X C F B M i L s N H E I l st D;subst C F B;obtain⟨xs,x,n,G⟩:=D;obtain⟨f,J,p,U⟩:=I.tuple n;obtain⟨u,S,Y⟩:=J.get G;obtain⟨q,r,R,t,y,A⟩:=l it (by simp);refine wpAny_pyNext_tuple_item st (show s.heap.IsTuple a f.toArray from p) (x:=u) (by simpa using S) fun j g Z=>?_;have O:Inv X L N H { s with heap:=j }:=I.turned (t':=s.toks) (fun b o hb e=>(Z.2 b hb).trans e) q r t y A;obtain⟨o,e,c,d⟩:=id g;exact⟨u,rfl,FA (s:={ s with heap:=j }) e c d (by decide) ⟨x,H,O,Y,⟨rfl,fun ys T=>by rw[I.nM T n];exact G⟩,g,fun b hb=>(l b hb).1⟩⟩
 done:=by
  intro X C F B M i L s N H E I l st D;subst C F B;obtain⟨xs,n,G⟩:=D;obtain⟨f,J,p,U⟩:=I.tuple n;obtain⟨q,r,R,t,y,A⟩:=l it (by simp);have hl:=J.length;exact wpAny_pyNext_tuple_end (I.ok.hd M) st (show s.heap.IsTuple a f.toArray from p) (by simp;lia) fun j Q=>⟨rfl,I.turned (t':=s.toks) (fun b o hb e=>Q b o hb e) q r t y A⟩
 self:=fun _ _ _ _ _ st h=>wpAny_pyIter_tupleiter st h
theorem KS {K:Cc}(it:Ei)(lo:Int)(n:Nat):Turn P w K tg (RB lo n) [it] it (fun i h=>IsRangeIter h it (lo+(i:Nat)*1) ((n:Int)-(i:Nat)) 1) where
 mem:=by simp
 obj:=fun i h st b hb=>by
  have e:b=it:=by simpa using hb
  subst e;exact⟨_,st,fun v z=>by
   have O:Data.fields _=Data.cell v:=z;cases O⟩
 keep:=fun i h f st k=>k it (by simp) _ st
 item:=by
  intro X x B u y i C s F H E I g st A;subst x B u;obtain⟨j,l,L,p,q,r⟩:=g it (by simp);have W:=Walks.range (prog:=X.prog) (w:=X.w) (I.ok.hd y) it lo 1 n;refine W.item i s _ _ A st fun v f D M d N=>?_;obtain⟨t,rfl⟩:=M;have G:Inv X C F H { s with heap:=f,toks:=D }:=I.turned (fun b o hb e=>N b o (by simpa using hb) e) j l p q r;refine⟨_,rfl,FA (s:={ s with heap:=f,toks:=D }) (n:="range_iterator") d rfl rfl (by decide) ⟨.int<|lo+i,H,G,⟨t,?_⟩,⟨rfl,rfl⟩,d,fun b hb=>(g b hb).1⟩⟩;rw[Int.mul_one]
 done:=by
  intro X x B u y i C s F H E I g st A;subst x B u;obtain⟨j,l,L,p,q,r⟩:=g it (by simp);exact wpAny_pyNext_range_end (I.ok.hd y) st (by have:n<=i:=A;lia) fun f J=>⟨rfl,I.turned (t':=s.toks) (fun b o hb e=>J b o hb e) j l p q r⟩
 self:=fun _ _ _ _ _ st h=>wpAny_pyIter_rangeiter st h
section
variable {X:Cx}{tg:EG}
def W3 (K:Cc)(d:TE):TI:=fun f H R=>d f H fun x b=>∃a,x=.ref a/\(∃e,xx K b a e)/\R (Tj K a) b
def bg (K:Cc)(d:TE):TI:=fun f H R=>d f H fun x b=>∃a,x=.ref a/\(∃e,xg K b a e)/\R (Rz K a) b
theorem jW (hl:PE X l tl):PI X tg l (W3 X.K tl):=by
 intro g s u H R I h;refine Ch (hl g s u H _ I h) fun v f ⟨x,i,d,t,r⟩=>?_;obtain⟨a,e,⟨z,j⟩,q⟩:=r;subst e;cases t;obtain⟨n,y,p,w⟩:=d.list j;refine JV p.isList ?_;refine⟨f.heap.objs.size,[f.heap.objs.size],_,_,i,rfl,d.kept (t':=f.toks) fun b o e=>Zc _ e,Oo a _,⟨_,Zq _ rfl,rfl,rfl⟩,fun b hb=>?_,q⟩;have e:b=f.heap.objs.size:=by simpa using hb
 subst e;exact d.rY (Zg _)<|d.hok.fresh<|Zg _
theorem uI (hl:PE X l tl):PI X tg l (bg X.K tl):=by
 intro i s u H R I h;refine Ch (hl i s u H _ I h) fun v d ⟨x,j,f,t,r⟩=>?_;obtain⟨a,e,⟨z,n⟩,q⟩:=r;subst e;cases t;obtain⟨g,y,p,w⟩:=f.tuple n;refine VS (show d.heap.IsTuple a g.toArray from p) ?_;refine⟨d.heap.objs.size,[d.heap.objs.size],_,_,j,rfl,f.kept (t':=d.toks) fun b o e=>Zc _ e,KU a _,⟨_,Zq _ rfl,rfl,rfl⟩,fun b hb=>?_,q⟩;have e:b=d.heap.objs.size:=by simpa using hb
 subst e;exact f.rY (Zg _)<|f.hok.fresh<|Zg _
theorem Hi {R:It->Hp->Prop}{E:Eh->Dh}{lo d:Int}{t u v:Tok}{g:Nat}(I:Inv X Dp σ H s)(l:-(2 ^ 62)<=lo)(n:lo<2 ^ 62)(p:-(2 ^ 62)<=d)(r:d<2 ^ 62)
  (q:R (RB lo (d-lo).toNat) H):El (Es X.prog X.w) X.A (pyIter<|.ref s.heap.objs.size) (PIE X Dp σ tg R) E { s with heap:=s.heap.push { cls:=.type "range",data:=.fields #[.int lo t,.int d u,.int 1 v] },toks:=g }:=by
 refine wpAny_pyIter_range (IsRange.new ..) (small_one l n p r) ?_;have f:Inv X Dp σ H { s with heap:=s.heap.push { cls:=.type "range",data:=.fields #[.int lo t,.int d u,.int 1 v] },toks:=g }:=I.kept fun b o e=>Zc _ e;refine⟨(s.heap.push { cls:=.type "range",data:=.fields #[.int lo t,.int d u,.int 1 v] }).objs.size,[(s.heap.push { cls:=.type "range",data:=.fields #[.int lo t,.int d u,.int 1 v] }).objs.size],_,_,H,rfl,f.kept (t':=g) fun b o e=>Zc _ e,KS _ lo (d-lo).toNat,?_,fun b hb=>?_,q⟩
 ·have i:lo+((0:Nat):Int)*1=lo:=by simp
  have j:(((d-lo).toNat:Nat):Int)-((0:Nat):Int)=Builtin.Range.rangeSize lo d 1:=by rw[rangeSize_one];split<;>lia
  show IsRangeIter _ _ (lo+((0:Nat):Int)*1) ((((d-lo).toNat:Nat):Int)-((0:Nat):Int)) 1;rw[i,j];exact Zq _ rfl
 ·have e:b=(s.heap.push { cls:=.type "range",data:=.fields #[.int lo t,.int d u,.int 1 v] }).objs.size:=by simpa using hb
  subst e;exact f.rY (Zg _)<|f.hok.fresh<|Zg _
def W4 (d:TA):TI:=fun f H R=>d f H fun e b=>∃j:Int,e=[.int j]/\-(2 ^ 62)<=j/\j<2 ^ 62/\R (RB 0 j.toNat) b
def W5 (d:TA):TI:=fun f H R=>d f H fun e b=>∃i j:Int,e=[.int i,.int j]/\(-(2 ^ 62)<=i/\i<2 ^ 62/\-(2 ^ 62)<=j/\j<2 ^ 62)/\R (RB i (j-i).toNat) b
theorem XL {a:EG}{p pos:Pos}(g:Gl X "range")(hm:X.mg "range"=none)(ha:PA X [a] ta)(i:Ew [a] X.env=[(false,E3 a X.env)]:=by rfl):PI X tg (.Call (.Name "range" p) [a] [] pos) (W4 ta):=by
 intro d s o H R I h;refine Call_<|vX I g hm boot_range<|Jb (Ch (ha pos d s o H _ I h) fun w v ⟨x,u,f,n,b⟩=>?_) i rfl;obtain⟨j,e,b,l,q⟩:=b;subst e;cases n with
 |cons r rr =>
  cases rr;obtain⟨t,rfl⟩:=r;exact call_range_1 (Hi f (by lia) (by lia) b l<|by simpa using q)
theorem Ob {a b:EG}{p pos:Pos}(n:Gl X "range")(hm:X.mg "range"=none)(ha:PA X [a,b] ta)(o:Ew [a,b] X.env=[(false,E3 a X.env),(false,E3 b X.env)]:=by rfl)(d:Ew [b] X.env=[(false,E3 b X.env)]:=by rfl) :
  PI X tg (.Call (.Name "range" p) [a,b] [] pos) (W5 ta):=by
 intro g s y H R I h;refine Call_ (vX I n hm boot_range<|Jb (Ch (ha pos g s y H _ I h) fun C A ⟨D,z,l,x,f⟩=>?_) (by rw[o,d]) (by rw[d];rfl));obtain⟨i,j,e,⟨f,u,v,w⟩,q⟩:=f;subst e;cases x with
 |cons r rr =>
  cases rr with
  |cons r' rr =>
   cases rr;obtain⟨t,rfl⟩:=r;obtain⟨B,rfl⟩:=r';exact call_range_2<|Hi l f u v w q
def ay (p:TI)(g:TG)(o:TS):TS:=fun D b H=>p b H fun J l=>∃W:Nat->Nat->St->Hp->Prop,(∃m,W 0 m b l)/\∀i m b H,W i m b H ->
 (J.stop i H/\D.nx b H)\/(J.go i H/\∃N:St->Hp->Prop,(∀e d,N e d->∃j,j<m/\W (i+1) j e d)/\∀x d,J.nR i H x d->g x b d fun f n=>o { D with nx:=N,ct:=N,bk:=D.nx } f n)
def vZ (fp:Dd)(h:EB):De:=fp.filterMap fun b=>(h.get? b).map fun o=>(b,o)
theorem qX {fp:Dd}{h:EB}{b:Ei}{o:Obj}(hb:b∈fp)(e:h.get? b=some o):(b,o)∈vZ fp h:=JG.mpr ⟨b,hb,by rw[e];rfl⟩
theorem N8 {p:Ei×Obj}(f:p∈vZ fp h):p.1∈fp/\h.get? p.1=some p.2:=by
 obtain⟨b,hb,e⟩:=JG.mp f;cases q:h.get? b with
 |none=>rw[q]at e;cases e
 |some o =>
  rw[q]at e;have d:(b,o)=p:=Option.some.inj e;subst d;exact⟨hb,q⟩
theorem Inv.pinned {fp:Dd}(I:Inv X Dp σ H s)(l:∀b∈fp,Xe X Dp H b)(n:∀b∈fp,∃o,s.heap.get? b=some o/\∀v,o.data≠.cell v):Inv X (Dp++vZ fp s.heap) σ H s :=
 I.ug fun p q=>(ZB.mp q).elim (fun z=>I.pin p<|ZL _ z) fun z=>by
  obtain⟨hb,e⟩:=N8 z;obtain⟨g,i,j,_⟩:=l p.1 hb;obtain⟨o,f,d⟩:=n p.1 hb;rw[e]at f;cases f;exact⟨e,g,i,j,d⟩
theorem Inv.uv {b pl:De}(I:Inv X (b++pl) σ H s):Inv X b σ H s:=I.ug fun p d=>I.pin p<|ZL _<|Ya _ d
theorem xQ {pos:Pos}(K:PassesOwn (Es X.prog X.w) X.A X.env X.xe)(hc:X.calm=true)(hi:PI X tg iter wi)(hg:PG X tg g)(hb:sX X body tb)
  (hs:∀x,Md iter X.env x=LC x:=by intro _;rfl):PS X (.For tg iter body [] pos) (ay wi g tb):=by
 intro C s σ H D I h;refine wpAny_For (Ch (hi C s σ H _ I h) fun v s1 h1=>Ch h1 fun ab s2 h2=>?_) hs;obtain⟨it,F,tn,J,H2,e,I2,T,Y,f2,W,⟨m0,w0⟩,O⟩:=h2;subst e;have q:∀{z:Hp},(∀b∈F,z b=none)->∀b∈F,Xe X C z b:=fun hn b hb=>⟨hn b hb,(f2 b hb).2⟩;refine codeAny_forLoop_any (fun n s'=>∃i t z,Inv X C t z s'/\tn i s'.heap/\(∀b∈F,z b=none)/\W i n t z) ?_ m0 ⟨0,σ,H2,I2,Y,fun b hb=>(f2 b hb).1,w0⟩;rintro n s3 ⟨i,y,P,I3,M,G,w3⟩
 rcases O i n y P w3 with⟨stop,qn⟩|⟨go,N,hN,step⟩
 ·refine YM K (Ch (T.done X rfl rfl rfl hc i C s3 y P X.xe I3 (q G) M stop) fun r s4 ⟨S,I4⟩=>?_);subst S;exact Vd ⟨y,P,I4,qn⟩
 ·refine YM K (Ch (T.item X rfl rfl rfl hc i C s3 y P X.xe I3 (q G) M go) fun r s4 ⟨u,S,h4⟩=>?_);subst S;refine YM K<|Ch h4 fun _ s5 ⟨x,H5,I5,r5,y5,E,R⟩=>?_;have Q:=I5.pinned (q R)<|T.obj _ _ E;refine YM K<|Ch (hg _ s5 y H5 x u _ Q r5<|step x H5 y5) fun _ s6 ⟨Z,H6,I6,q6⟩=>?_;refine YM K<|Ch (hb _ s6 Z H6 _ I6 q6) fun f U B=>?_;have again:∀{j:St} {l:Hp},Inv X (C++vZ F s5.heap) j l U->N j l->∃m,m<n/\∃i t z,Inv X C t z U/\tn i U.heap/\(∀b∈F,z b=none)/\W i m t z:=fun{j l} p L=>by
   obtain⟨m',hm,w7⟩:=hN j l L;refine⟨m',hm,i+1,j,l,p.uv,T.keep _ _ _ E fun b hb o e=>(p.pin (b,o)<|ZL _<|ZL _<|qX hb e).1,fun b hb=>?_,w7⟩;obtain⟨o,e,d⟩:=T.obj _ _ E b hb;exact(p.pin (b,o)<|ZL _<|ZL _<|qX hb e).2.1
  cases f with
  |next=>obtain⟨j,l,p,L⟩:=B;exact again p L
  |cont=>obtain⟨j,l,p,L⟩:=B;exact again p L
  |brk=>obtain⟨j,l,p,B⟩:=B;exact⟨j,l,p.uv,B⟩
  |ret v=>obtain⟨x7,j,l,p,r7,B⟩:=B;exact⟨x7,j,l,p.uv,r7,B⟩
end
theorem uA {K:Cc}{xs:Dj}{g:TG}{j:TS}{D:Ends}{b:St}{H:Hp}(d:Nat->St->Hp->Prop)(l:d 0 b H)(hl:∀i b H,i<=xs.length->d i b H->xx K H a xs)
  (o:∀i x b H,xs[i]?=some x->d i b H->g x b H fun σ2 H2=>j { D with nx:=d<|i+1,ct:=d<|i+1,bk:=D.nx } σ2 H2) (hd:∀b H,d xs.length b H->D.nx b H) :
  ∃W:Nat->Nat->St->Hp->Prop,(∃m,W 0 m b H)/\∀i m b H,W i m b H ->
   ((Tj K a).stop i H/\D.nx b H)\/((Tj K a).go i H/\∃N:St->Hp->Prop,(∀σ' H',N σ' H'->∃m',m'<m/\W (i+1) m' σ' H')/\∀x H',(Tj K a).nR i H x H'->g x b H' fun σ2 H2=>j { D with nx:=N,ct:=N,bk:=D.nx } σ2 H2):=by
 refine⟨fun i m b H=>m=xs.length-i/\i<=xs.length/\d i b H,⟨xs.length,by simp,ZN _,l⟩,?_⟩;rintro i m b H ⟨rfl,n,p⟩;have q:=hl i b H n p
 by_cases f:i<xs.length
 ·refine .inr ⟨⟨xs,xs[i],q,by simp[f]⟩,d<|i+1,fun σ' H' r=>⟨xs.length-(i+1),by lia,rfl,f,r⟩,fun x H' y=>?_⟩;obtain⟨e,y⟩:=y;subst e;exact o i x b _ (y xs q) p
 ·have e:i=xs.length:=by lia
  subst e;exact .inl ⟨⟨xs,q,Zg _⟩,hd b H p⟩
theorem X8 {K:Cc}{xs:Dj}{g:TG}{j:TS}{D:Ends}{b:St}{H:Hp}(d:Nat->St->Hp->Prop)(l:d 0 b H)(hl:∀i b H,i<=xs.length->d i b H->xg K H a xs)
  (o:∀i x b H,xs[i]?=some x->d i b H->g x b H fun σ2 H2=>j { D with nx:=d<|i+1,ct:=d<|i+1,bk:=D.nx } σ2 H2) (hd:∀b H,d xs.length b H->D.nx b H) :
  ∃W:Nat->Nat->St->Hp->Prop,(∃m,W 0 m b H)/\∀i m b H,W i m b H ->
   ((Rz K a).stop i H/\D.nx b H)\/((Rz K a).go i H/\∃N:St->Hp->Prop,(∀σ' H',N σ' H'->∃m',m'<m/\W (i+1) m' σ' H')/\∀x H',(Rz K a).nR i H x H'->g x b H' fun σ2 H2=>j { D with nx:=N,ct:=N,bk:=D.nx } σ2 H2):=by
 refine⟨fun i m b H=>m=xs.length-i/\i<=xs.length/\d i b H,⟨xs.length,by simp,ZN _,l⟩,?_⟩;rintro i m b H ⟨rfl,n,p⟩;have q:=hl i b H n p
 by_cases f:i<xs.length
 ·refine .inr ⟨⟨xs,xs[i],q,by simp[f]⟩,d<|i+1,fun σ' H' r=>⟨xs.length-(i+1),by lia,rfl,f,r⟩,fun x H' y=>?_⟩;obtain⟨e,y⟩:=y;subst e;exact o i x b _ (y xs q) p
 ·have e:i=xs.length:=by lia
  subst e;exact .inl ⟨⟨xs,q,Zg _⟩,hd b H p⟩
theorem NO {lo:Int}{n:Nat}{g:TG}{j:TS}{D:Ends}{b:St}{H:Hp}(d:Nat->St->Hp->Prop)(l:d 0 b H)
  (o:∀i b H,i<n->d i b H->g (.int<|lo+i) b H fun σ2 H2=>j { D with nx:=d<|i+1,ct:=d<|i+1,bk:=D.nx } σ2 H2) (hd:∀b H,d n b H->D.nx b H) :
  ∃W:Nat->Nat->St->Hp->Prop,(∃m,W 0 m b H)/\∀i m b H,W i m b H ->
   ((RB lo n).stop i H/\D.nx b H)\/((RB lo n).go i H/\∃N:St->Hp->Prop,(∀σ' H',N σ' H'->∃m',m'<m/\W (i+1) m' σ' H')/\∀x H',(RB lo n).nR i H x H'->g x b H' fun σ2 H2=>j { D with nx:=N,ct:=N,bk:=D.nx } σ2 H2):=by
 refine⟨fun i m b H=>m=n-i/\i<=n/\d i b H,⟨n,by simp,ZN _,l⟩,?_⟩;rintro i m b H ⟨rfl,r,p⟩
 by_cases f:i<n
 ·refine .inr ⟨f,d<|i+1,fun σ' H' q=>⟨n-(i+1),by lia,rfl,f,q⟩,fun x H' y=>?_⟩;obtain⟨e,y⟩:=y;subst e y;exact o i b _ f p
 ·have e:i=n:=by lia
  subst e;exact .inl ⟨Zg _,hd b H p⟩
abbrev R2:=V->V->Hp->VK->Prop
def Cz (X:Cx)(f:Eh->Eh->Sem Eh)(r:R2):Prop :=
 ∀(b:De) (s:Em) (d:St) (H:Hp) (x y:V) (v u:Eh) (Q:VK),Inv X b d H s->yt x v->yt y u->r x y H Q ->
  El (Es X.prog X.w) X.A (f v u) (EP X b d Q) X.xe s
def xq (X:Cx)(f:Eh)(r:Dj->Hp->VK->Prop):Prop :=
 ∀(b:De) (s:Em) (g:St) (H:Hp) (e:Dj) (d:Db) (Q:VK),Inv X b g H s->yu e d->r e H Q ->
  El (Es X.prog X.w) X.A (call f d) (EP X b g Q) X.xe s
def aX (X:Cx)(r:V->Hp->(Bool->Hp->Prop)->Prop):Prop :=
 ∀(b:De) (s:Em) (d:St) (H:Hp) (x:V) (v:Eh) (Q:Bool->Hp->Prop),Inv X b d H s->yt x v->r x H Q ->
  El (Es X.prog X.w) X.A (truthy v) (TP X b d Q) X.xe s
def WL (r:R2)(f g:TE):TE:=fun b H Q=>f b H fun x d=>g b d fun y e=>r x y e Q
inductive rI (C:Int->Int->Prop)(g:Int->Int->V)(x y:V)(H:Hp)(Q:VK):Prop
 |mk (i j:Int) (e:x=.int i) (f:y=.int j) (c:C i j) (q:Q (g i j) H):rI C g x y H Q
inductive lD (g:Int->Int->V)(x y:V)(H:Hp)(Q:VK):Prop
 |mk (i j:Int) (e:x=.int i) (f:y=.int j) (q:Q (g i j) H):lD g x y H Q
section
variable {X:Cx}{a b c:EG}{ta tb tc:TE}{pos:Pos}
theorem Tu (ha:PE X a ta)(hb:PE X b tb){e:De}{s:Em}{d:St}{H:Hp}{R:V->V->Hp->Prop}(I:Inv X e d H s)
  (h:ta d H fun x H1=>tb d H1 fun y H2=>R x y H2) {Q:Eh->Dh} {f:Eh->Eh->Sem Eh}
  (j:∀v u s2 x y H2,Inv X e d H2 s2->yt x v->yt y u->R x y H2->El (Es X.prog X.w) X.A (f v u) Q X.xe s2) :
  El (Es X.prog X.w) X.A (E3 a X.env) (fun v s₁=>El (Es X.prog X.w) X.A (E3 b X.env) (fun u s₂=>El (Es X.prog X.w) X.A (f v u) Q X.xe s₂) X.xe s₁) X.xe s:=by
 refine Ch (ha e s d H _ I h) fun v q ⟨x,H1,g,o,l⟩=>?_;refine Ch (hb e q d H1 _ g l) fun u s2 ⟨y,H2,i,p,n⟩=>?_;exact j v u s2 x y H2 i o p n
theorem zZ {op:Operator}(g:Cz X (MA op) r)(ha:PE X a ta)(hb:PE X b tb):PE X (.BinOp a op b pos) (WL r ta tb):=by
 intro d s n H Q I h;exact wpAny_BinOp<|Tu ha hb I h fun v u l x y e f i j q=>g d l n e x y v u Q f i j q
theorem bn {f:Eh->Eh->Sem Eh}{C:Int->Int->Prop}{g:Int->Int->Int}
  (b:∀(i j:Int) (t u:Tok) (s:Em) (Q:Eh->Dh) (E:Eh->Dh),C i j->Q (.int (g i j) s.toks) { s with toks:=s.toks+1 }->El (Es X.prog X.w) X.A (f (.int i t)<|.int j u) Q E s) :
  Cz X f (rI C fun i j=>.int<|g i j):=by
 intro o s p H x y v u Q I e l h;obtain⟨i,j,rfl,rfl,d,q⟩:=h;obtain⟨t,rfl⟩:=e;obtain⟨n,rfl⟩:=l;exact b i j t n s _ _ d ⟨.int<|g i j,H,I.tok _,⟨_,rfl⟩,q⟩
theorem bo {f:Eh->Eh->Sem Eh}{g:Int->Int->Int}
  (b:∀(i j:Int) (t u:Tok) (s:Em) (Q:Eh->Dh) (E:Eh->Dh),Q (.int (g i j) s.toks) { s with toks:=s.toks+1 }->El (Es X.prog X.w) X.A (f (.int i t)<|.int j u) Q E s) :
  Cz X f (lD fun i j=>.int<|g i j):=by
 intro n s o H x y v u Q I d e h;obtain⟨i,j,rfl,rfl,q⟩:=h;obtain⟨t,rfl⟩:=d;obtain⟨l,rfl⟩:=e;exact b i j t l s _ _ ⟨.int<|g i j,H,I.tok _,⟨_,rfl⟩,q⟩
theorem TW {f:Eh->Eh->Sem Eh}{g:Int->Int->Bool}
  (b:∀(i j:Int) (t u:Tok) (s:Em) (Q:Eh->Dh) (E:Eh->Dh),Q (.bool<|g i j) s->El (Es X.prog X.w) X.A (f (.int i t)<|.int j u) Q E s) :
  Cz X f (lD fun i j=>.bl<|g i j):=by
 intro n s o H x y v u Q I d e h;obtain⟨i,j,rfl,rfl,q⟩:=h;obtain⟨t,rfl⟩:=d;obtain⟨l,rfl⟩:=e;exact b i j t l s _ _ ⟨.bl<|g i j,H,I,rfl,q⟩
def aV (i j:Int):Prop:=0<j/\j<1073741824
def lq (i j:Int):Prop:=(-(2 ^ 64)<i/\i<2 ^ 64)\/(-(2 ^ 64)<j/\j<2 ^ 64)
theorem lq.ok (h:lq i j):IntMulOk i j:=by
 rcases h with⟨h1,h2⟩|⟨h1,h2⟩
 ·exact .of_left (intBits_le_64 h1 h2)
 ·exact .of_right (intBits_le_64 h1 h2)
theorem jM:Cz X (MA .Add) (lD fun i j=>.int<|i+j):=bo fun _ _ _ _ _ _ _ q=>add_int q
theorem Gp:Cz X (MA .Mult) (rI lq fun i j=>.int<|i*j):=bn fun _ _ _ _ _ _ _ b q=>mul_int q b.ok
theorem qB:Cz X (MA .FloorDiv) (rI aV fun i j=>.int<|i / j):=bn fun i j _ _ _ _ _ b q=>by
 have d:(0:Int)<j:=b.1;have e:j<1073741824:=b.2;exact floordiv_int (by lia) (by rwa[Int.fdiv_eq_ediv_of_nonneg i<|by lia]) (.inl<|PyProof.noPylong_small<|by lia)
theorem y9:Cz X (MA .Mod) (rI (fun _ j=>0<j) fun i j=>.int<|i % j):=bn fun i j _ _ _ _ _ b q=>by
 have d:(0:Int)<j:=b;exact mod_int' (by lia) (by rwa[Int.fmod_eq_emod_of_nonneg i<|by lia])
def au:V->V->Bool
 | .non,.non=>true|.non,.int _=>true|.int _,.non=>true|.non,.bl _=>true|.bl _,.non=>true|.non,.str _=>true|.str _,.non=>true
 | .int _,.int _=>true|.bl _,.bl _=>true|.str _,.str _=>true|.byt _,.byt _=>true
 | .int _,.str _=>true|.str _,.int _=>true|.bl _,.str _=>true|.str _,.bl _=>true
 |_,_=>false
def rEq:R2:=fun x y H Q=>au x y=true/\Q (.bl<|decide (x=y)) H
def rNe:R2:=fun x y H Q=>au x y=true/\Q (.bl<|!decide (x=y)) H
theorem K6 {i j:Int}:decide (V.int i=V.int j)=(i==j):=by
 rw[Z4];simp
theorem OM {i j:Bool}:decide (V.bl i=V.bl j)=(i==j):=by
 rw[Z4];simp
theorem K7 {i j:Str}:decide (V.str i=V.str j)=(i==j):=by
 rw[Z4];simp
theorem K5 {i j:Array UInt8}:decide (V.byt i=V.byt j)=(i.toList==j.toList):=by
 rw[Z4];cases i;cases j;simp
theorem yL {Q:VK}{k b:Bool}(I:Inv X Dp σ H s)(q:Q (.bl k) H)(e:k=b):EP X Dp σ Q (.bool b) s:=by
 subst e;exact⟨.bl k,H,I,rfl,q⟩
theorem xJ:Cz X (EY .Eq) rEq:=by
 intro g s l H x y v u Q I f b h;obtain⟨e,q⟩:=h;cases x with
 |non =>
  cases f;cases y with
  |non=>cases b;exact PySem.EqNone.eq_none_none (yL I q<|by simp)
  |bl j=>cases b;exact PySem.EqNone.eq_none_bool (yL I q<|by simp)
  |int j=>obtain⟨d,rfl⟩:=b;exact PySem.EqNone.eq_none_int (yL I q<|by simp)
  |str j=>obtain⟨d,rfl⟩:=b;exact PySem.EqNone.eq_none_str (yL I q<|by simp)
  |_=>exact absurd (show false=true from e) ZM
 |bl i =>
  cases f;cases y with
  |non=>cases b;exact PySem.EqNone.eq_bool_none (yL I q<|by simp)
  |bl j=>cases b;exact eq_bool<|yL I q OM
  |str j=>obtain⟨d,rfl⟩:=b;exact PySem.EqMixed.eq_bool_str (yL I q<|by simp)
  |_=>exact absurd (show false=true from e) ZM
 |int i =>
  obtain⟨t,rfl⟩:=f;cases y with
  |non=>cases b;exact PySem.EqNone.eq_int_none (yL I q<|by simp)
  |int j=>obtain⟨d,rfl⟩:=b;exact eq_int<|yL I q K6
  |str j=>obtain⟨d,rfl⟩:=b;exact PySem.EqMixed.eq_int_str (yL I q<|by simp)
  |_=>exact absurd (show false=true from e) ZM
 |str i =>
  obtain⟨t,rfl⟩:=f;cases y with
  |non=>cases b;exact PySem.EqNone.eq_str_none (yL I q<|by simp)
  |bl j=>cases b;exact PySem.EqMixed.eq_str_bool (yL I q<|by simp)
  |int j=>obtain⟨d,rfl⟩:=b;exact PySem.EqMixed.eq_str_int (yL I q<|by simp)
  |str j=>obtain⟨d,rfl⟩:=b;exact eq_str<|yL I q K7
  |_=>exact absurd (show false=true from e) ZM
 |byt i =>
  obtain⟨t,rfl⟩:=f;cases y with
  |byt j=>obtain⟨d,rfl⟩:=b;exact PySem.W.eq_bytes<|yL I q K5
  |_=>exact absurd (show false=true from e) ZM
 |_=>cases y<;>exact absurd (show false=true from e) ZM
theorem M9:Cz X (EY .NotEq) rNe:=by
 intro g s l H x y v u Q I f b h;obtain⟨e,q⟩:=h;cases x with
 |non =>
  cases f;cases y with
  |non=>cases b;exact PySem.EqNone.ne_none_none (yL I q<|by simp)
  |bl j=>cases b;exact PySem.EqNone.ne_none_bool (yL I q<|by simp)
  |int j=>obtain⟨d,rfl⟩:=b;exact PySem.EqNone.ne_none_int (yL I q<|by simp)
  |str j=>obtain⟨d,rfl⟩:=b;exact PySem.EqNone.ne_none_str (yL I q<|by simp)
  |_=>exact absurd (show false=true from e) ZM
 |bl i =>
  cases f;cases y with
  |non=>cases b;exact PySem.EqNone.ne_bool_none (yL I q<|by simp)
  |bl j=>cases b;exact ne_bool<|yL I q<|congrArg not OM
  |str j=>obtain⟨d,rfl⟩:=b;exact PySem.EqMixed.ne_bool_str (yL I q<|by simp)
  |_=>exact absurd (show false=true from e) ZM
 |int i =>
  obtain⟨t,rfl⟩:=f;cases y with
  |non=>cases b;exact PySem.EqNone.ne_int_none (yL I q<|by simp)
  |int j=>obtain⟨d,rfl⟩:=b;exact ne_int<|yL I q<|congrArg not K6
  |str j=>obtain⟨d,rfl⟩:=b;exact PySem.EqMixed.ne_int_str (yL I q<|by simp)
  |_=>exact absurd (show false=true from e) ZM
 |str i =>
  obtain⟨t,rfl⟩:=f;cases y with
  |non=>cases b;exact PySem.EqNone.ne_str_none (yL I q<|by simp)
  |bl j=>cases b;exact PySem.EqMixed.ne_str_bool (yL I q<|by simp)
  |int j=>obtain⟨d,rfl⟩:=b;exact PySem.EqMixed.ne_str_int (yL I q<|by simp)
  |str j=>obtain⟨d,rfl⟩:=b;exact ne_str<|yL I q<|congrArg not K7
  |_=>exact absurd (show false=true from e) ZM
 |byt i =>
  obtain⟨t,rfl⟩:=f;cases y with
  |byt j=>obtain⟨d,rfl⟩:=b;exact PySem.W.ne_bytes<|yL I q<|congrArg not K5
  |_=>exact absurd (show false=true from e) ZM
 |_=>cases y<;>exact absurd (show false=true from e) ZM
theorem PK:Cz X (EY .Lt) (lD fun i j=>.bl<|decide (i<j)):=TW fun _ _ _ _ _ _ _ q=>lt_int q
theorem FZ:Cz X (EY .LtE) (lD fun i j=>.bl<|decide (i<=j)):=TW fun _ _ _ _ _ _ _ q=>le_int q
theorem FY:Cz X (EY .Gt) (lD fun i j=>.bl<|decide (j<i)):=TW fun _ _ _ _ _ _ _ q=>gt_int q
theorem Se:Cz X (EY .IsNot) (fun x y H Q=>y=.non/\Q (.bl<|!decide (x=.non)) H):=by
 intro e s f H x y v u Q I b d h;obtain⟨rfl,q⟩:=h;cases d;refine isnot_none_gen<|yL I q ?_;cases x<;>first
  |(cases b;rfl)
  |(obtain⟨t,rfl⟩:=b;rfl)
theorem vD:Cz X (EY .NotIn) (fun x y H Q=>∃i j,x=.str i/\y=.str j/\Q (.bl<|!(!(EH j i 0 j.length 1).isEmpty)) H):=by
 intro e s g H x y v u Q I b d h;obtain⟨i,j,rfl,rfl,q⟩:=h;obtain⟨t,rfl⟩:=b;obtain⟨f,rfl⟩:=d;exact notIn_str<|yL I q rfl
theorem zV (b:EG){op:CmpOp}(h:op≠.In:=by decide)(f:op≠.NotIn:=by decide):behindInMarks op b=false:=by
 have d:(op==CmpOp.In)=false:=by cases op<;>first|rfl|exact absurd rfl h
 have e:(op==CmpOp.NotIn)=false:=by cases op<;>first|rfl|exact absurd rfl f
 cases b<;>simp[behindInMarks,d,e]
theorem yN {op:CmpOp}(g:Cz X (EY op) r)(ha:PE X a ta)(hb:PE X b tb)(hm:behindInMarks op b=false):PE X (.Compare a [op] [b] pos) (WL r ta tb):=by
 intro d s n H Q I h;exact wpAny_Compare1 (Tu ha hb I h fun v u l x y e f i j q=>g d l n e x y v u Q f i j q) hm
inductive jj (x:V)(H:Hp)(Q:Bool->Hp->Prop):Prop
 |mk (k:Bool) (e:x=.bl k) (q:Q k H):jj x H Q
def Tg (t:TE):TT:=fun d H Q=>t d H fun x b=>jj x b Q
theorem zU {op:CmpOp}(p:Cz X (EY op) r)(ha:PE X a ta)(hb:PE X b tb)(hm:behindInMarks op b=false):PT X (.Compare a [op] [b] pos) (Tg<|WL r ta tb):=by
 intro d s f H Q I h;refine wpAny_isTrue_Compare1 (Ch (ha d s f H _ I h) fun v D ⟨x,g,l,A,q⟩=>Ch (hb d D f g _ l q) fun u E ⟨y,i,n,B,t⟩ => Ch (p d E f i x y v u _ n A B t) fun c F ⟨z,j,o,C,k,e,w⟩=>?_) hm
 subst e;cases C;exact YR ⟨j,o,w⟩
def Wl (r i:R2)(ta tb tc:TE):TE:=fun b H Q=>ta b H fun x e=>tb b e fun y f=>r x y f fun z d=>∃k,z=.bl k /\
 (if k=true then tc b d fun j g=>i y j g Q else Q (.bl false) d)
theorem IH {op f:CmpOp}(E:Cz X (EY op) r)(j:Cz X (EY f) r')(ha:PE X a ta)(hb:PE X b tb)(D:PE X c tc)
  (hm:lastMarks [op,f] [b,c]=false:=by with_unfolding_all rfl):PE X (.Compare a [op,f] [b,c] pos) (Wl r r' ta tb tc):=by
 intro g s i H Q I h;refine Compare_chain (Ch (ha g s i H _ I h) fun v N ⟨x,q,A,K,F⟩=>chain_link<|Ch (hb g N i q _ A F) fun u O ⟨y,t,B,p,G⟩ => Ch (E g O i t x y v u _ B K p G) fun d P ⟨z,l,n,L,k,e,o⟩=>?_) hm
 subst e;cases L;refine YR ?_;cases k with
 |false=>exact ite_ff ⟨.bl false,l,n,rfl,o⟩
 |true=>exact ite_tt<|chain_last<|Ch (D g P i l _ n o) fun S R ⟨T,w,C,M,J⟩=>j g R i w y T u S Q C p M J
def Tr (K:Cc)(x:V)(H:Hp)(k:Bool):Prop :=
 match x with
 | .non=>k=false
 | .bl b=>k=b
 | .int i=>k=(i !=0)
 | .str y=>y.length<=sizeLine/\k=((y.length:Int) !=0)
 | .byt y=>y.size<=sizeLine/\k=((y.size:Int) !=0)
 | .ref p=>(∃d,xx K H p d/\k=!d.isEmpty)\/(∃d,xg K H p d/\k=!d.isEmpty)\/∃e,H p=some (.dK e)/\k=!e.isEmpty
 |_=>False
theorem Kd {κ:Type}{Dm:List (κ×V)}{vs:List (κ×Eh)}(r:KV Dm vs):(!vs.isEmpty)=!Dm.isEmpty:=by
 cases r<;>rfl
theorem IS (r:yu xs its):(!its.toArray.isEmpty)=!xs.isEmpty:=by
 cases r<;>simp
theorem Xy:(sizeLine:Nat)<2 ^ 63:=by rw[Yp];decide
theorem Ww:aX X (fun x H Q=>∃k,Tr X.K x H k/\Q k H):=by
 intro C s E H x v Q I j h;obtain⟨k,e,q⟩:=h;have hl:=Xy;have D:sizeLine=16777216:=Yp;cases x with
 |non =>
  cases j;have d:k=false:=e;subst d;exact truthy_none ⟨H,I,q⟩
 |bl b =>
  cases j;have d:k=b:=e;subst d;exact YR ⟨H,I,q⟩
 |int i =>
  obtain⟨t,rfl⟩:=j;have d:k=(i !=0):=e;subst d;exact PySem.P.truthy_int ⟨H,I,q⟩
 |str y =>
  obtain⟨t,rfl⟩:=j;obtain⟨B,d⟩:y.length<=sizeLine/\k=((y.length:Int) !=0):=e;subst d;exact PySem.P.truthy_str (by lia) ⟨H,I.tok _,q⟩
 |byt y =>
  obtain⟨t,rfl⟩:=j;obtain⟨B,d⟩:y.size<=sizeLine/\k=((y.size:Int) !=0):=e;subst d;exact PySem.W.truthy_bytes (by lia) ⟨H,I.tok _,q⟩
 |ref p =>
  cases j;have d:(∃f,xx X.K H p f/\k=!f.isEmpty)\/(∃f,xg X.K H p f/\k=!f.isEmpty)\/∃g,H p=some (.dK g)/\k=!g.isEmpty:=e
  rcases d with⟨f,hx,d⟩|⟨f,hx,d⟩|⟨g,hx,d⟩
  ·subst d;obtain⟨n,r,o,z⟩:=I.list hx;have u:=r.length;exact wpAny_truthy_list o.isList (by simp only[ZD];lia) ⟨H,I.tok _,by rw[IS r];exact q⟩
  ·subst d;obtain⟨n,r,o,z⟩:=I.tuple hx;have u:=r.length;exact truthy_tuple o (by simp only[ZD];lia) ⟨H,I.tok _,by rw[IS r];exact q⟩
  ·subst d;obtain⟨z,A,l,r,m⟩:g.length<=sizeLine/\(p==ER)=false/\∃l,KV g l/\s.heap.DictOf (zf X.prog X.w) p l:=I.hok p _ hx;have u:g.length=l.length:=Paired.length r;exact wpAny_truthy_dict A m (by lia) ⟨H,I.tok _,by rw[Kd r];exact q⟩
 |_=>exact(show False from e).elim
theorem P4 (ha:PE X a ta)(f:∀whole,isTrue a X.env whole=(do let v ←whole;standAt a.pos;MD [v] (truthy v))) :
  PT X a (fun σ H Q=>ta σ H fun x H'=>∃k,Tr X.K x H' k/\Q k H'):=by
 intro b s σ H Q I h;exact isTrue_plain (Ch (ha b s σ H _ I h) fun v j ⟨x,d,e,i,g⟩=>Ww b j σ d x v Q e i g) (f _)
theorem yC:Cz X (MA .Add) (fun x y H Q=>∃i j,x=.str i/\y=.str j/\i.length+j.length<=sizeLine/\Q (.str<|i++j) H):=by
 intro g s n H x y v u Q I d e h;obtain⟨i,j,rfl,rfl,b,q⟩:=h;obtain⟨t,rfl⟩:=d;obtain⟨f,rfl⟩:=e;exact add_str (fun f l=>⟨.str<|i++j,H,I.tok _,⟨_,rfl⟩,q⟩) b
theorem wX {x:V}(r:yu [x] us):∃u,us=[u]/\yt x u:=by
 cases r with
 |cons r1 r2=>cases r2;exact⟨_,rfl,r1⟩
theorem vals2 {x y:V}(r:yu [x,y] us):∃u w',us=[u,w']/\yt x u/\yt y w':=by
 cases r with
 |cons r1 r2 =>
  cases r2 with
  |cons r3 r4=>cases r4;exact⟨_,_,rfl,r1,r3⟩
theorem NF (d:X.calm=true):xq X (.builtin "max") (fun xs H Q=>∃i j,xs=[.int i,.int j]/\Q (.int<|if j>i then j else i) H):=by
 intro e s p H xs n Q I r h;obtain⟨i,j,rfl,q⟩:=h;obtain⟨u,o,rfl,⟨t,rfl⟩,⟨g,rfl⟩⟩:=vals2 r;refine max_two_ints (I.ok.hd d) fun f l k=>⟨_,H,I.kept k,?_,q⟩
 by_cases b:j>i
 ·rw[Zy b,Zy b];exact⟨_,rfl⟩
 ·rw[Zr b,Zr b];exact⟨_,rfl⟩
theorem BN:xq X (.type "int") (fun xs H Q=>(∃i,xs=[.int i]/\Q (.int i) H)\/∃k,xs=[.bl k]/\Q (.int<|if k then 1 else 0) H):=by
 intro d s f H xs e Q I r h
 rcases h with⟨i,rfl,q⟩|⟨k,rfl,q⟩
 ·obtain⟨u,rfl,t,rfl⟩:=wX r;exact call_int_int ⟨.int i,H,I,⟨_,rfl⟩,q⟩
 ·obtain⟨u,rfl,b⟩:=wX r;cases b;exact call_int_bool ⟨.int<|if k then 1 else 0,H,I.tok _,⟨_,rfl⟩,q⟩
theorem jS:xq X (.type "str") (fun xs H Q=>∃i,xs=[.int i]/\i.natAbs.log2<1920/\Q (.str<|L4 i) H):=by
 intro d s f H xs e Q I r h;obtain⟨i,rfl,b,q⟩:=h;obtain⟨u,rfl,t,rfl⟩:=wX r;exact PySem.P.str_of_int b ⟨.str _,H,I.tok _,⟨_,rfl⟩,q⟩
theorem Fg:xq X (.builtin "ord") (fun xs H Q=>∃x,xs=[.str x]/\x.length=1/\Q (.int (x.cps.getD 0 0:Nat)) H):=by
 intro d s f H xs e Q I r h;obtain⟨x,rfl,b,q⟩:=h;obtain⟨u,rfl,t,rfl⟩:=wX r;exact ord_of_one b ⟨.int _,H,I.tok _,⟨_,rfl⟩,q⟩
end
structure oU (h:EB)(x dx C:Ei)(mA:Str->Dc):Prop where
 obj:h.get? x=some (Lp C dx)
 ns:h.Ns1 dx mA
 ne:dx≠x
theorem N2 {h:EB}{b:Ei}{f:Str->Dc}(n:h.Ns1 b f):∃od,h.get? b=some od/\∀name,PySem.W.lookIn name od=some (f name):=by
 obtain⟨o,d,p,j,hd,hk,_,hm⟩:=n;refine⟨o,j,fun name=>?_⟩;have e:=hm name;unfold nsFind findBy at e;rw[←Array.find?_toList]at e;unfold PySem.W.lookIn;rw[hd];dsimp only
 split
 ·rename_i y q;rw[q]at e;exact congrArg some e
 ·rename_i q;rw[q]at e;have a:d.toList.any (·.refKey)=false:=by
   rw[V1];intro y l;obtain⟨z,t,g⟩:=hk y<|Array.mem_toList_iff.mp l;simp[DictEntry.refKey,g]
  have i:¬d.toList.any (·.refKey)=true:=by rw[a];exact ZM
  rw[Zr i];exact congrArg some e
theorem oU.look (I:oU h x dx C mA):∃od,PySem.W.InstAt h x (Lp C dx) C (some od)/\∀name,PySem.W.lookIn name od=some (mA name) :=
 let ⟨od,ho,hl⟩:=N2 I.ns
 ⟨od,⟨I.obj,rfl,rfl,ho⟩,hl⟩
section
variable {prog:Ej}{w:Ep}{A:ED}{E:Eh->Dh}{s:Em}{K:Cc}{x dx C f:Ei}{mA:Str->Dc}{name:Str}{v:Eh}
theorem RQ {b:Bool}{Q:Eh->Dh}(X:K.In s.heap)(I:oU s.heap x dx C mA)(e:LW K C name=true)(f:Me K C=true)
  (ha:EN K (.ref C) name=some none) (g:mA name=some v) (d:PySem.W.handedIn v=true) (h:Q v { s with toks:=s.toks+1 }) :
  El (Es prog w) A (getAttr (.ref x) name b) Q E s:=by
 obtain⟨i,J,hl⟩:=I.look;exact PySem.W.get_value X J (VP e).1 (PySem.W.findObj_own f ha rfl<|by rw[hl,g]) d h
theorem O1 {pl:Sem Bool}{Q:Eh×Db->Dh}(X:K.In s.heap)(I:oU s.heap x dx C mA)(b:LW K C name=true)
  (d:EN K (.ref C) name=some (some<|.ref f)) (e:Ms K (.ref f)=true) (g:mA name=none) (h:Q (.ref f,[.ref x]) s) :
  El (Es prog w) A (Mx (.ref x) name pl) Q E s:=by
 obtain⟨i,J,hl⟩:=I.look;exact PySem.W.method_fn X J (VP b).1 (VP b).2 d (Jn.mp e) (by show(PySem.W.lookIn name i).map (·.isSome)=some false;rw[hl,g];rfl) h
theorem SI {ns:Da}{Q:Unit->Dh}(X:K.In s.heap)(I:oU s.heap x dx C mA)
  (t:EN K (.ref C) "__setattr__"=some (some<|.builtin "object.__setattr__")) (q:PySem.W.plainOver K C=true) (u:PySem.W.takerIn K C name=some none) (p:Me K C=true)
  (z:PySem.Within mA ns) (hsz:ns.length<=sizeLine)
  (h:∀h',oU h' x dx C (fun y=>if y=name then some v else mA y)->Ll dx s.heap h'->Q () { s with heap:=h',toks:=s.toks+2 }) :
  El (Es prog w) A (setAttr (.ref x) name v) Q E s:=by
 obtain⟨G,J,hl⟩:=I.look;refine PySem.W.set_plain X J t<|PySem.W.osa_open (s:={ s with toks:=s.toks+1 }) (r:=none) X J q u fun b=>?_;obtain⟨D,o,g⟩:=PySem.W.any_some p;have B:s.heap.get? x=some ⟨.ref C,some dx,.plain,#[]⟩:=I.obj;refine Q9<|Zh<|Q9<|Q9<|wpAny_loadPart B<|Q9<|PySem.W.Looks.here (s:={ s with toks:=s.toks+1 }) (PySem.W.looks_clsIn X o) ?_;rw[g];refine Zh (a:=some dx)<|Q9<|Zh<|Q9 ?_;refine wpAny_nsSet1 (s:={ s with toks:=s.toks+1 }) I.ns fun h' d e=>?_;obtain⟨F,n,l,j,i,f⟩:=d.count<|PySem.Within.cons name v z;refine Q9 (wpAny_lookBehind j (by rw[i];exact pastItsLine_dict<|ZR f (by rw[Zj];lia)) ?_);exact Zh<|h _ ⟨(e.2 _<|Ey I.ne).trans I.obj,d,I.ne⟩ e
theorem Ps {R:Result->Dh}{vs:Db}{b:List (Str×Eh)}(X:K.In s.heap)(hm:Mp K C=true)
  (i:EN K (.ref C) "__init__"=some (some<|.ref f)) (e:PySem.W.typeIn K (.ref f)=some (.type "function"))
  (h:LK (Es prog w) (A.under<|.builtin "type.__call__" ⟨.ref C::vs,b⟩) (.call (.ref f) ⟨.ref (s.heap.objs.size+1)::vs,b⟩) (PySem.W.InitBack (s.heap.objs.size+1) R) { s with heap:=(s.heap.push E5).push (Lp C s.heap.objs.size) }) :
  LK (Es prog w) A (.call (.ref C) ⟨vs,b⟩) R s:=by
 obtain⟨j,g,d,t,os⟩:=s;exact PySem.W.make_core (PySem.W.makes_of X hm) (PySem.W.looks_findIn X i) (fun self=>PySem.W.bind_fn X self e) (.inl rfl) h
end
def Uz (f:Str)(v:V):List (Str×V)->List (Str×V)
 |[]=>[(f,v)]
 |(g,x)::r=>if g=f then(g,v)::r else(g,x)::Uz f v r
theorem XN (f g:Str)(v:V):∀fs:List<|Str×V,(Uz f v fs).lookup g=if g=f then some v else fs.lookup g
 |[]=>by
  show LG g [(f,v)]=_
  by_cases h:g=f
  ·have hb:(g==f)=true:=Jn.mpr h;simp only[LG,hb,Zy h]
  ·have hb:(g==f)=false:=YD.mpr h;simp only[LG,hb,Zr h]
 |(k,x)::r=>by
  have b:=XN f g v r;rw[show Uz f v ((k,x)::r)=(if k=f then(k,v)::r else(k,x)::Uz f v r) from rfl]
  by_cases hk:k=f
  ·rw[Zy hk]
   by_cases h:g=k
   ·have hb:(g==k)=true:=Jn.mpr h;simp only[LG,hb,Zy<|h.trans hk]
   ·have hb:(g==k)=false:=YD.mpr h;simp only[LG,hb,Zr (fun e:g=f=>h<|e.trans hk.symm)]
  ·rw[Zr hk]
   by_cases h:g=k
   ·have hb:(g==k)=true:=Jn.mpr h;simp only[LG,hb,Zr (fun e:g=f=>hk<|h.symm.trans e)]
   ·have hb:(g==k)=false:=YD.mpr h;simp only[LG,hb];exact b
theorem Xq (f:Str)(v:V):∀fs:List<|Str×V,f∈(Uz f v fs).map (·.1)/\∀g,g∈fs.map (·.1)->g∈(Uz f v fs).map (·.1)
 |[]=>⟨by simp[Uz],fun g h=>by simp at h⟩
 |(k,x)::r=>by
  obtain⟨b,d⟩:=Xq f v r;rw[show Uz f v ((k,x)::r)=(if k=f then(k,v)::r else(k,x)::Uz f v r) from rfl]
  by_cases hk:k=f
  ·rw[Zy hk];subst hk;exact⟨by simp,fun g h=>by simpa using h⟩
  ·rw[Zr hk];refine⟨?_,fun g h=>?_⟩
   ·rw[ZE];exact Zf _ b
   ·rw[ZE]at h ⊢
    rcases Zm.mp h with e|e
    ·exact Zm.mpr (.inl e)
    ·exact Zf _ (d g e)
theorem XU (f:Str)(v:V):∀fs:List<|Str×V,(Uz f v fs).length<=fs.length+1
 |[]=>by simp[Uz]
 |(k,x)::r=>by
  have b:=XU f v r;rw[show Uz f v ((k,x)::r)=(if k=f then(k,v)::r else(k,x)::Uz f v r) from rfl]
  by_cases hk:k=f
  ·rw[Zy hk,Zj,Zj];lia
  ·rw[Zr hk,Zj,Zj];lia
theorem uw.some_of {v:V}(r:uw (some v) o):∃u,o=some u/\yt v u:=by
 cases o with
 |none=>exact(show False from r).elim
 |some u=>exact⟨u,rfl,r⟩
theorem uw.none_of (r:uw none o):o=none:=by
 cases o with
 |none=>rfl
 |some u=>exact(show False from r).elim
theorem NV (r:yt v u):PySem.W.handedIn u=true:=by
 cases v with
 |non=>cases(show u=EC from r);rfl
 |bl b=>cases(show u=L7 b from r);rfl
 |int i=>obtain⟨t,e⟩:=(show∃t,u=Mu i t from r);cases e;rfl
 |str x=>obtain⟨t,e⟩:=(show∃t,u=L9 x t from r);cases e;rfl
 |byt b=>obtain⟨t,e⟩:=(show∃t,u=Value.bytes b t from r);cases e;rfl
 |flt b=>obtain⟨t,e⟩:=(show∃t,u=Value.float b t from r);cases e;rfl
 |ref a=>cases(show u=Eu a from r);rfl
 |ty n=>cases(show u=Value.type n from r);rfl
section
variable {P:Ej}{w:Ep}{H H':Hp}{h h':EB}{a C dx:Ei}{fs fs':List (Str×V)}
theorem Is (hok:tG P w H h)(e:H a=some (.ins C dx fs)):∃mA,oU h a dx C mA/\(∀f,uw (fs.lookup f)<|mA f)/\PySem.Within mA (fs.map (·.1))/\fs.length<=1000/\H dx=some (.own a):=by
 obtain⟨d,z,ne,b,mA,n,r,q⟩:=(show yj P w H h a (.ins C dx fs) from hok a _ e);exact⟨mA,⟨b,n,ne⟩,r,q,z,d⟩
end
structure Cls (K:Cc)(C:Ei):Prop where
 pg:LW K C LX=true
 hd:Me K C=true
 po:PySem.W.plainOver K C=true
 sa:EN K (.ref C) "__setattr__"=some (some<|.builtin "object.__setattr__")
theorem Cls.get {K:Cc}(c:Cls K C)(f:Str):LW K C f=true:=c.pg
def tZ (K:Cc)(C:Ei)(f:Str):Prop:=EN K (.ref C) f=some none
theorem tZ.taker {K:Cc}(n:tZ K C f):PySem.W.takerIn K C f=some none:=by
 unfold PySem.W.takerIn;rw[show EN K (.ref C) f=some none from n];rfl
structure Meth (K:Cc)(C:Ei)(m:Str)(f:Ei):Prop where
 at_:EN K (.ref C) m=some (some<|.ref f)
 fn:Ms K (.ref f)=true
 kp:ES K (.ref f)=true
section
variable {X:Cx}{Dp:De}{σ:St}{H:Hp}{s:Em}{a C dx:Ei}{fs:List (Str×V)}{f:Str}{v:V}{A:ED}{E:Eh->Dh}
theorem Ka {b:Bool}{Q:Eh->Dh}(I:Inv X Dp σ H s)(e:H a=some (.ins C dx fs))(c:Cls X.K C)(n:tZ X.K C f)(l:fs.lookup f=some v)
  (h:∀u s',Inv X Dp σ H s'->yt v u->Q u s'):El (Es X.prog X.w) A (getAttr (.ref a) f b) Q E s:=by
 obtain⟨i,O,r,_,_,_⟩:=Is I.hok e;obtain⟨u,g,d⟩:=uw.some_of (v:=v) (o:=i f) (by rw[←l];exact r f);exact RQ I.tQ O (c.get f) c.hd n g (NV d)<|h u _ (I.tok _) d
theorem uM {pl:Sem Bool}{Q:Eh×Db->Dh}(I:Inv X Dp σ H s)(e:H a=some (.ins C dx fs))(c:Cls X.K C)(k:Meth X.K C m g)(l:fs.lookup m=none)
  (h:Q (.ref g,[.ref a]) s):El (Es X.prog X.w) A (Mx (.ref a) m pl) Q E s:=by
 obtain⟨b,O,r,_,_,_⟩:=Is I.hok e;have hn:b m=none:=uw.none_of (by rw[←l];exact r m);exact O1 I.tQ O (c.get m) k.at_ k.fn hn h
theorem KJ {Q:Unit->Dh}(I:Inv X Dp σ H s)(e:H a=some (.ins C dx fs))(c:Cls X.K C)(n:tZ X.K C f)(hl:fs.length<1000)(D:yt y u)
  (h:∀s',Inv X Dp σ (upd H a<|.ins C dx<|Uz f y fs) s'->Q () s'):El (Es X.prog X.w) A (setAttr (.ref a) f u) Q E s:=by
 obtain⟨j,O,r,l,_,i⟩:=Is I.hok e;have v:(fs.map (·.1)).length<=sizeLine:=by rw[Za,Yp];lia
 refine SI I.tQ O c.sa c.po n.taker c.hd l v fun p d B=>h _ ?_;have hd:∃o,p.get? dx=some o:=let ⟨o,_,_,e',_⟩:=d.ns;⟨o,e'⟩;refine I.write (x:=a) (e:=dx) (by rw[e];exact E9) (.inr i) (fun b q hb z=>(B.2 b hb).trans z) hd ?_;refine⟨by rw[zI O.ne];exact i,?_,O.ne,d.obj,_,d.ns,fun g=>?_,fun g t=>?_⟩
 ·have:=XU f y fs;lia
 ·show uw ((Uz f y fs).lookup g) (if g=f then some u else j g);rw[XN]
  by_cases q:g=f
  ·rwa[Zy q,Zy q]
  ·rw[Zr q,Zr q];exact r g
 ·by_cases q:g=f
  ·rw[q];exact(Xq f y fs).1
  ·refine(Xq f y fs).2 g (l g fun z=>t ?_);show(if g=f then some u else j g)=none;rwa[Zr q]
theorem Inv.made (I:Inv X Dp σ H s):Inv X Dp σ (upd (upd H s.heap.objs.size<|.own<|s.heap.objs.size+1) (s.heap.objs.size+1)<|.ins C s.heap.objs.size [])
  { s with heap:=(s.heap.push E5).push (Lp C s.heap.objs.size) }:=by
 have d:(s.heap.push E5).get? s.heap.objs.size=some PySem.W.emptyDict:=Zq s.heap rfl;have g:((s.heap.push E5).push<|Lp C s.heap.objs.size).get? (s.heap.objs.size+1)=some (Lp C s.heap.objs.size):=by
  have:=Zq (s.heap.push E5) (o:=Lp C s.heap.objs.size) rfl
  rwa[Yz]at this
 have i:(s.heap.push E5).Ns s.heap.objs.size (fun _=>none):=⟨E5,#[],_,d,rfl,(fun e j=>absurd j<|by simp),fun _=>rfl⟩;have f:=I.laid (a:=s.heap.objs.size) (o:=.own<|s.heap.objs.size+1) (h':=s.heap.push E5) (t':=s.toks) (fun b u q=>Zc _ q) (Zg _) ⟨_,d⟩;refine f.laid (a:=s.heap.objs.size+1) (o:=.ins C s.heap.objs.size []) (t':=s.toks) (fun b u q=>Zc _ q) (J3<|Yz _ _) ?_;have ne:s.heap.objs.size≠s.heap.objs.size+1:=Zz<|Jh _;refine⟨by rw[zI ne,zB],ZN _,ne,g,fun _=>none,(Heap.Ns1.of_empty i).at fun o q=>Zc _ q,fun _=>E9,fun y l=>absurd rfl l⟩
theorem RH {prog:Ej}{w:Ep}{env:Env}{e:EG}{f:Str}{pos:Pos}{s:Em}{Q:Eh->Dh}(hb:Lz e f env (E3 e env)=E3 e env)
  (h:El (Es prog w) A (E3 e env) (fun o s₁=>El (Es prog w) A (getAttr o f true) Q E s₁) E s):El (Es prog w) A (E3 (.Attribute e f pos) env) Q E s :=
 Attribute_any_ h (by rw[arm_eval_Attribute,hb])
end
def bF (K:Cc)(e:TE)(f:Str):TE:=fun g H Q=>e g H fun x b=>∃a C d fs v,x=.ref a/\b a=some (.ins C d fs)/\Cls K C/\tZ K C f/\fs.lookup f=some v/\Q v b
def bB (K:Cc)(i j:TE)(f:Str):TS:=fun D b H=>j b H fun y g=>i b g fun x d=>∃a C e fs,x=.ref a/\d a=some (.ins C e fs)/\Cls K C/\tZ K C f/\fs.length<1000 /\
 D.nx b (upd d a<|.ins C e<|Uz f y fs)
section
variable {X:Cx}{o e value:EG}{f:Str}{pos DN Eb:Pos}{ta tv:TE}
theorem j9 (o:PE X e ta)(hb:Lz e f X.env (E3 e X.env)=E3 e X.env):PE X (.Attribute e f pos) (bF X.K ta f):=by
 intro b s t H Q I h;refine RH hb<|Ch (o b s t H _ I h) fun u y ⟨x,d,g,r,a,C,w,fs,v,ex,j,c,n,l,q⟩=>?_;subst ex;obtain rfl:u=Eu a:=r;exact Ka g j c n l fun A z i p=>⟨v,d,i,p,q⟩
theorem Kz (ha:PE X o ta)(t:PE X value tv)(r:Mw value (some<|.Attribute o f DN) pos.line X.env=LC false):PS X (.Assign [.Attribute o f DN] value pos) (bB X.K ta tv f):=by
 intro d s b H D I h;refine plainObj_wpAny_Assign_Attribute (Ch (t d s b H _ I h) fun u B ⟨y,e,g,A,q⟩=>Ch (ha d B b e _ g q) fun v G ⟨x,E,i,z,a,C,F,fs,ex,p,c,n,l,w⟩=>?_) r;subst ex;obtain rfl:v=Eu a:=z;exact KJ i p c n l A fun J j=>⟨b,_,j,w⟩
end
section
variable {X:Cx}{Dp:De}{σ:St}{H:Hp}{s:Em}{A:ED}{E:Eh->Dh}{Q:Eh->Dh}{c:Eh}{b:Bool}
inductive rP (K:Cc)(H:Hp):V->Eh->Prop where
 |non:rP K H .non<|.type "NoneType"
 |bl (x:Bool):rP K H (.bl x)<|.type "bool"
 |int (i:Int):rP K H (.int i)<|.type "int"
 |str (x:Str):rP K H (.str x)<|.type "str"
 |flt (x:UInt64):rP K H (.flt x)<|.type "float"
 |lst {a:Ei} {xs:Dj} (e:H a=some (.lst xs)):rP K H (.ref a)<|.type "list"
 |frz {a:Ei} {o:Obj} {xs:Dj} (e:H a=some (.frz o<|.lst xs)):rP K H (.ref a)<|.type "list"
 |tup {a:Ei} {xs:Dj} (e:H a=some (.tup xs)):rP K H (.ref a)<|.type "tuple"
 |dK {a:Ei} {Dm:Dl} (e:H a=some (.dK Dm)):rP K H (.ref a)<|.type "dict"
 |dT {a:Ei} {Dm:List (List Key×V)} (e:H a=some (.dT Dm)):rP K H (.ref a)<|.type "dict"
 |ins {a C dx:Ei} {fs:List (Str×V)} (e:H a=some (.ins C dx fs)) (cl:Cls K C) (ha:EN K (.ref C) "__class__"=some (some<|.builtin "object.__class__"))
   (hn:PySem.W.specialIn K (.builtin "object.__class__") "__get__"=some (some<|.builtin "getset_descriptor.__get__")) (htk:PySem.W.takesIn K (.builtin "object.__class__")=some true)
   (hm:PySem.W.mroIn K C (.type "object")=some true):rP K H (.ref a)<|.ref C
theorem jQ (I:Inv X Dp σ H s)(d:yt x u)(ty:rP X.K H x t)(e:ET X.K t c=some b)(h:∀tk,Q (.bool b) { s with toks:=tk }) :
  El (Es X.prog X.w) A (call (.builtin "isinstance") [u,c]) Q E s:=by
 cases ty with
 |non=>cases(show u=EC from d);exact Yi PySem.W.kitx_none I.tQ E9 e (fun z=>nomatch z) h
 |bl y=>cases(show u=L7 y from d);exact Yi PySem.W.kitx_bool I.tQ E9 e (fun z=>nomatch z) h
 |int i=>obtain⟨t,q⟩:=(show∃t,u=Mu i t from d);cases q;exact Yi PySem.W.kitx_int I.tQ E9 e (fun z=>nomatch z) h
 |str y=>obtain⟨t,q⟩:=(show∃t,u=L9 y t from d);cases q;exact Yi PySem.W.kitx_str I.tQ E9 e (fun z=>nomatch z) h
 |flt y=>obtain⟨t,q⟩:=(show∃t,u=Value.float y t from d);cases q;exact Yi PySem.W.kitx_float I.tQ E9 e (fun z=>nomatch z) h
 | @lst a g ea =>
  cases(show u=Eu a from d);obtain⟨_,_,n,_,f⟩:=(show yj X.prog X.w H s.heap a (.lst g) from I.hok a _ ea);exact Yi V2 I.tQ ⟨_,f,rfl⟩ e (fun z=>nomatch z) h
 | @frz a ob g ea =>
  cases(show u=Eu a from d);obtain⟨_,_,_,n,_,f⟩:=(show yj X.prog X.w H s.heap a (.frz ob<|.lst g) from I.hok a _ ea);exact Yi V2 I.tQ ⟨_,f,rfl⟩ e (fun z=>nomatch z) h
 | @tup a g ea =>
  cases(show u=Eu a from d);obtain⟨_,_,_,p⟩:=(show yj X.prog X.w H s.heap a (.tup g) from I.hok a _ ea);obtain⟨o,f,j,_⟩:=p;exact Yi PySem.W.kitx_tuple I.tQ ⟨o,f,j⟩ e (fun z=>nomatch z) h
 | @dK a Dm ea =>
  cases(show u=Eu a from d);obtain⟨_,_,D,_,p⟩:=(show yj X.prog X.w H s.heap a (.dK Dm) from I.hok a _ ea);obtain⟨o,r,l,f,j,_⟩:=p;exact Yi V3 I.tQ ⟨o,f,j.1⟩ e (fun z=>nomatch z) h
 | @dT a Dm ea =>
  cases(show u=Eu a from d);obtain⟨_,_,g,_,o,r,l,f,j,_⟩:=(show yj X.prog X.w H s.heap a (.dT Dm) from I.hok a _ ea);exact Yi V3 I.tQ ⟨o,f,j.1⟩ e (fun z=>nomatch z) h
 | @ins a C dx fs ea cl ha hn htk hm =>
  cases(show u=Eu a from d);obtain⟨v,O,_⟩:=Is I.hok ea;obtain⟨B,J,_⟩:=O.look;exact Yi (PySem.W.kitx_own (cl.get _) cl.hd ha hn htk hm) I.tQ J e (fun z=>nomatch z) h
end
structure wY (k:Nat)(A:ED):Prop where
 hd:A.handled=none
 dp:A.depth+3*k+5<recursionLimit
 un:A.units+16*k+200<Lj
theorem wY.mono {j:Nat}(r:wY k A)(h:j<=k):wY j A:=⟨r.hd,by have:=r.dp;lia,by have:=r.un;lia⟩
theorem wY.m {j:Nat}(r:wY k A)(h:j<=k:=by decide):wY j A:=r.mono h
theorem wY.deeper {k:Nat}(r:wY (k+1) A)(env:Env):wY k (A.deeper env) :=
 ⟨r.hd,by have:=r.dp;show A.depth+1+3*k+5<_;lia,by have:=r.un;show A.units+3+16*k+200<_;lia⟩
theorem Km {A:ED}{C:Ei}{us:Db}{b:List (Str×Eh)}:(A.under<|.builtin "type.__call__" ⟨.ref C::us,b⟩).depth=A.depth+1:=by
 first|rfl|simp[Around.under,Code.weight,Code.isCreation,Code.isGuard,Code.isCaller,Code.frames,Code.isFrame,guardIds]
theorem Kn {A:ED}{C:Ei}{us:Db}{b:List (Str×Eh)}:(A.under<|.builtin "type.__call__" ⟨.ref C::us,b⟩).units=A.units+1:=by
 first|rfl|simp[Around.under,Code.cUnits,Code.frames,Code.isFrame]
theorem wY.make {k:Nat}(r:wY (k+1) A)(C:Ei)(us:Db)(b:List<|Str×Eh):wY k (A.under<|.builtin "type.__call__" ⟨.ref C::us,b⟩) :=
 ⟨r.hd,by have:=r.dp;rw[Km];lia,by have:=r.un;rw[Kn];lia⟩
theorem wY.depth (r:wY k A):A.depth<recursionLimit:=by have:=r.dp;lia
theorem wY.units (r:wY k A):A.units+64<cLine:=by have:=r.un;lia
def U2:TA:=fun _ H Q=>Q [] H
def UZ (f:TE)(g:TA):TA:=fun b H Q=>f b H fun x d=>g b d fun i e=>Q (x::i) e
section
variable {X:Cx}{e:EG}{es:List EG}{te:TE}{t:TA}{pos:Pos}
theorem zC:PA X [] U2:=fun _ _ _ _ H Q I h=>Lv ⟨[],H,I,.nil,h⟩
theorem zA (ha:PE X e te)(l:PA X es t)(n:Ew (e::es) X.env=(false,E3 e X.env)::Ew es X.env:=by rfl):PA X (e::es) (UZ te t):=by
 intro pos b s d H Q I h;rw[n];show El _ _ (spliced ((false,E3 e X.env)::Lb pos (Ew es X.env))) _ _ s;refine Lh<|Ch (ha b s d H _ I h) fun u v ⟨x,f,i,q,o⟩=>?_;exact Ch (l pos b v d f _ i o) fun z y ⟨w,g,j,r,p⟩=>⟨x::w,g,j,.cons q r,p⟩
inductive lG (o:Dj->HO)(Q:VK)(xs:Dj)(H1:Hp):Prop
 |mk (l:xs.length<=sizeLine) (q:∀p,H1 p=none->Q (.ref p) (upd H1 p<|o xs)):lG o Q xs H1
def Oj (t:TA):TE:=fun e H Q=>t e H fun d b=>lG .tup Q d b
def Wr (t:TA):TE:=fun e H Q=>t e H fun d b=>lG .lst Q d b
theorem yJ {x1}(h:PA X es t):PE X (.Tuple es x1 pos) (Oj t):=by
 intro i s p H Q I l;refine wpAny_Tuple_spliced (Ch (h pos i s p H _ I l) fun n d ⟨o,f,g,r,z,q⟩=>⟨by rw[←r.length];exact z,?_⟩);have j:f d.heap.objs.size=none:=g.hok.fresh<|Zg _;refine⟨.ref d.heap.objs.size,upd f d.heap.objs.size<|.tup o,g.laid (t':=d.toks) (fun b u e=>Zc _ e) (Zg _) ?_,rfl,q _ j⟩;exact⟨z,n,r,TupAt.new _ _⟩
theorem xA (h:PA X es t):PE X (.List es pos) (Wr t):=by
 intro i s p H Q I l;refine wpAny_List_spliced (Ch (h pos i s p H _ I l) fun n d ⟨o,f,g,r,z,q⟩=>⟨by rw[←r.length];exact z,?_⟩);have j:f d.heap.objs.size=none:=g.hok.fresh<|Zg _;refine⟨.ref d.heap.objs.size,upd f d.heap.objs.size<|.lst o,g.laid (t':=d.toks) (fun b u e=>Zc _ e) (Zg _) ?_,rfl,q _ j⟩;exact⟨z,n,0,r,Zq _ rfl⟩
end
abbrev Sp:=Dj->Hp->VK->XK->Prop
abbrev Ot:=List Env->Hp->Em->XK->Eh->Dh
structure qt (P:Ej)(w:Ep)(K:Cc)(mg:Str->Dc)(base:EB)(A:ED)(outer:List Env)(s:Em)(H:Hp):Prop where
 frames:A.frames=some outer
 mod:Mod K mg base
 bs:∀b o,base.get? b=some o->s.heap.get? b=some o/\H b=none
 nY:base.objs.size<=s.heap.objs.size
 tR:s.heap.FunFrames base outer
 nj:∀b∈frs outer,H b=none
 hok:tG P w H s.heap
 bare:Mr s.gens
def CE (outer:List Env)(P:Ej)(w:Ep)(H:Hp)(s:Em)(Q:VK)(u:Eh)(b:Em):Prop :=
 ∃v d,b.os=s.os/\Mr b.gens/\Un (frs outer) [] H d s.heap b.heap/\tG P w d b.heap/\yt v u/\Q v d
def CR (CX:Ot)(outer:List Env)(P:Ej)(w:Ep)(H:Hp)(s:Em)(Q:VK)(E:XK)(r:Result)(b:Em):Prop :=
 match r with
 | .ok (.ret u)=>CE outer P w H s Q u b
 | .ok _=>False
 | .error e=>CX outer H s E e b
structure yx (P:Ej)(w:Ep)(K:Cc)(mg:Str->Dc)(base:EB)(CX:Ot)(k:Nat)(f:Ei)(fd:Eo)(ps:Da)(sp:Sp):Prop where
 len:∀vs H Q E,sp vs H Q E->vs.length=ps.length
 run:∀(A:ED) (outer:List Env) (s:Em) (H:Hp) (args:Args) (us:Db) (vs:Dj) (Q:VK) (E:XK),wY k A->qt P w K mg base A outer s H->BindsTo s fd args (ps.zip us)->yu vs us->sp vs H Q E ->
  LK (Es P w) A (.call (.ref f) args) (CR CX outer P w H s Q E) s
theorem qt.make {K:Cc}(e:qt P w K mg base A outer s H)(C:Ei)(us:Db)(b:List<|Str×Eh) :
  qt P w K mg base (A.under<|.builtin "type.__call__" ⟨.ref C::us,b⟩) outer s H:=⟨by first|exact e.frames|(simpa[Around.under,Code.envs,Code.isFrame,pushEnvs] using e.frames),e.mod,e.bs,e.nY,e.tR,e.nj,e.hok,e.bare⟩
section
variable {X:Cx}{Dp:De}{σ:St}{H:Hp}{s s':Em}
theorem Inv.env0 (I:Inv X Dp σ H s):qt X.prog X.w X.K X.mg X.base X.A X.stack s H :=
 ⟨I.ok.frames,I.ok.mod,I.bs,ZR I.ok.nY I.sz,I.stack,I.sG,I.hok,I.bare⟩
theorem Inv.after (I:Inv X Dp σ H s)(h:CE X.stack X.prog X.w H s Q u s'):EP X Dp σ Q u s':=by
 obtain⟨v,f,os,bare,un,hok,r,q⟩:=h;obtain⟨i,g,d,t,e⟩:=s';obtain rfl:e=s.os:=os;exact⟨v,f,I.call (h':=i) (g':=g) (d':=d) (t':=t) (ch:=[]) un hok bare<|fun b z=>absurd z<|by simp,r,q⟩
end
def Rr (sp:Sp)(b:Dj)(E:XK)(t:TA):TE:=fun f H Q=>t f H fun e d=>sp (e++b) d Q E
inductive jr (C:Ei)(m:Str)(sp:Sp)(dvs:Dj)(E:XK)(t:TA)(σ:St)(Q:VK)(x:V)(H1:Hp):Prop
 |mk (a dx:Ei) (fs:List<|Str×V) (e:x=.ref a) (h:H1 a=some (.ins C dx fs)) (n:fs.lookup m=none) (q:t σ H1 fun vs H2=>sp (x::(vs++dvs)) H2 Q E):jr C m sp dvs E t σ Q x H1
def Nr (C:Ei)(m:Str)(sp:Sp)(b:Dj)(E:XK)(f:TE)(t:TA):TE:=fun d H Q=>f d H fun x e=>jr C m sp b E t d Q x e
def Te (C:Ei)(sp:Sp)(e:Dj)(E:XK)(t:TA):TE:=fun i H Q=>t i H fun g d=>∀x b,d x=none->d b=none->b≠x ->
 sp (.ref x::(g++e)) (upd (upd d b<|.own x) x<|.ins C b []) (fun v f=>v=.non/\Q (.ref x) f) E
def wW (K:Cc)(d:Eo)(ps:Da)(ds:Db):Prop :=
 ∀(s:Em) (b:Db),K.In s.heap->(b++ds).length=ps.length->BindsTo s d ⟨b,[]⟩ (ps.zip<|b++ds)
theorem wW.all {K:Cc}{b:Eo}{ps:Da}(h:∀us:Db,us.length=ps.length->bindArgs b ⟨us,[]⟩=LC (ps.zip us)):wW K b ps []:=fun s us _ hl=>by
 rw[ZK]at hl ⊢;exact .of_eq<|h us hl
def vT (CX:Ot)(X:Cx)(E:XK):Prop:=∀(d:De) (f:St) (H:Hp) (s:Em) (e:Eh) (b:Em),Inv X d f H s->CX X.stack H s E e b->X.xe e b
section
variable {X:Cx}{CX:Ot}{k:Nat}{f C:Ei}{fd:Eo}{ps:Da}{sp:Sp}{dvs:Dj}{ds:Db}{E:XK}{x m:Str}{p pos Ds:Pos}{e o:EG}{es:List EG}{ta:TE}{t:TA}
theorem KI {d:De}{g:St}{H:Hp}{s:Em}{Q:VK}{us:Db}{vs:Dj}(F:yx X.prog X.w X.K X.mg X.base CX k f fd ps sp)(j:wY k X.A)(hb:wW X.K fd ps ds)(hd:yu dvs ds)(l:vT CX X E)
  (I:Inv X d g H s) (r:yu vs us) (h:sp (vs++dvs) H Q E):El (Es X.prog X.w) X.A (call (.ref f) us) (EP X d g Q) X.xe s:=by
 have i:yu (vs++dvs) (us++ds):=r.append hd;have hl:(us++ds).length=ps.length:=by rw[←i.length];exact F.len _ _ _ _ h
 refine Vg<|Y4 (F.run X.A X.stack s H ⟨us,[]⟩ (us++ds) (vs++dvs) Q E j I.env0 (hb s us I.tQ hl) i h) fun r n b=>?_;cases r with
 |error e=>exact l d g H s e n I b
 |ok fl =>
  cases fl with
  |ret u=>exact I.after b
  |next=>exact EE b
  |brk=>exact EE b
  |cont=>exact EE b
theorem Sg (F:yx X.prog X.w X.K X.mg X.base CX k f fd ps sp)(n:wY k X.A)(l:Gl X x)(hm:X.mg x=some (.ref f))(hk:ES X.K (.ref f)=true)(hb:wW X.K fd ps ds)(hd:yu dvs ds)(o:vT CX X E)
  (ha:PA X (e::es) t) (b:(x==("__debug__":Str))=false:=by decide) (j:Ew (e::es) X.env=(false,E3 e X.env)::Ew es X.env:=by rfl) (d:(Lb pos<|Ew es X.env).any (·.1)=false:=by rfl) :
  PE X (.Call (.Name x p) (e::es) [] pos) (Rr sp dvs E t):=by
 intro i s u H Q I h;refine Y1<|kC I l hm ?_ b;refine Jo (h₀:=X.base) I.ok.mod.mK hk (Ch (ha pos i s u H _ I h) fun z y ⟨B,v,g,r,q⟩=>⟨g.tQ,?_⟩) j d;exact KI F n hb hd o g r q
theorem Sk {pl:Sem Bool}(y:PE X o ta)(c:Cls X.K C)(hm:Meth X.K C m f)(F:yx X.prog X.w X.K X.mg X.base CX k f fd ps sp)(z:wY k X.A)(hb:wW X.K fd ps ds)(hd:yu dvs ds)(D:vT CX X E)(ha:PA X (e::es) t)
  (d:Ew (e::es) X.env=(false,E3 e X.env)::Ew es X.env:=by rfl) (b:(Lb pos<|Ew es X.env).any (·.1)=false:=by rfl)
  (B:E3 (.Call (.Attribute o m Ds) (e::es) [] pos) X.env=(do
   let ov ←E3 o X.env
   standAt Ds.atName
   let (f,first) ←MD [ov] (Mx ov m pl)
   callWith pos f first (Lb pos<|Ew (e::es) X.env) (Mn pos<|LH [] X.env)):=by rfl) :
  PE X (.Call (.Attribute o m Ds) (e::es) [] pos) (Nr C m sp dvs E ta t):=by
 intro g s n H Q I h;refine Vv (pl:=pl) (Ch (y g s n H _ I h) fun u L ⟨x,p,i,J,a,N,fs,ex,v,l,q⟩=>?_) B;subst ex;obtain rfl:u=Eu a:=J;refine uM i v c hm l ?_;refine Jo (first:=[.ref a]) (h₀:=X.base) I.ok.mod.mK hm.kp (Ch (ha pos g L n p _ i q) fun us O ⟨vs,M,j,r,G⟩=>⟨j.tQ,?_⟩) d b;exact KI (us:=.ref a::us) (vs:=.ref a::vs) F z hb hd D j (.cons rfl r) G
theorem PR {pl:Sem Bool}(g:PE X o ta)(c:Cls X.K C)(hm:Meth X.K C m f)(F:yx X.prog X.w X.K X.mg X.base CX k f fd ps sp)(i:wY k X.A)(hb:wW X.K fd ps ds)(hd:yu dvs ds)(n:vT CX X E)
  (j:E3 (.Call (.Attribute o m Ds) [] [] pos) X.env=(do
   let ov ←E3 o X.env
   standAt Ds.atName
   let (f,first) ←MD [ov] (Mx ov m pl)
   callWith pos f first (Lb pos<|Ew [] X.env) (Mn pos<|LH [] X.env)):=by rfl) :
  PE X (.Call (.Attribute o m Ds) [] [] pos) (Nr C m sp dvs E ta U2):=by
 intro d s r H Q I h;refine Vv (pl:=pl) (Ch (g d s r H _ I h) fun u y ⟨x,t,b,p,a,v,fs,ex,e,l,q⟩=>?_) j;subst ex;obtain rfl:u=Eu a:=p;refine uM b e c hm l ?_;exact PySem.W.callWith_K0 (first:=[.ref a]) b.tQ hm.kp<|KI (us:=[.ref a]) (vs:=[.ref a]) F i hb hd n b (.cons rfl .nil) q
structure Mk (K:Cc)(C f:Ei):Prop where
 makes:Mp K C=true
 init:EN K (.ref C) "__init__"=some (some<|.ref f)
 fn:Ms K (.ref f)=true
 kp:ES K (.ref C)=true
theorem Rg {g:De}{i:St}{H:Hp}{s:Em}{Q:VK}{us:Db}{vs:Dj}(M:Mk X.K C f)(F:yx X.prog X.w X.K X.mg X.base CX k f fd ps sp)(q:wY (k+1) X.A)(hb:wW X.K fd ps ds)(hd:yu dvs ds)
  (t:vT CX X E) (I:Inv X g i H s) (r:yu vs us)
  (h:∀x dx,H x=none->H dx=none->dx≠x->sp (.ref x::(vs++dvs)) (upd (upd H dx<|.own x) x<|.ins C dx []) (fun v H2=>v=.non/\Q (.ref x) H2) E) :
  El (Es X.prog X.w) X.A (call (.ref C) us) (EP X g i Q) X.xe s:=by
 have j:=h (s.heap.objs.size+1) s.heap.objs.size (I.hok.fresh<|Je _) (I.hok.fresh<|Zg _)<|Zz<|Jh _;have d:=Inv.made (C:=C) I;have l:yu (V.ref (s.heap.objs.size+1)::(vs++dvs)) (Eu (s.heap.objs.size+1)::(us++ds)):=.cons rfl<|r.append hd;have hl:(Eu (s.heap.objs.size+1)::us++ds).length=ps.length:=by
  have e:=l.length;rw[F.len _ _ _ _ j]at e;exact e.symm
 refine Vg<|Ps (f:=f) I.tQ M.makes M.init (Jn.mp M.fn)<|Y4 (F.run _ X.stack _ _ ⟨Eu (s.heap.objs.size+1)::us,[]⟩ (Eu (s.heap.objs.size+1)::(us++ds)) _ _ E (q.make C us []) (d.env0.make C us []) (hb _ (Eu (s.heap.objs.size+1)::us) d.tQ hl) l j) fun r B b=>?_
 cases r with
 |error e=>exact t g i _ _ e B d b
 |ok fl =>
  cases fl with
  |ret u =>
   obtain⟨v,n,o,z,p,y⟩:=d.after b;subst p;exact⟨z,⟨V.ref<|s.heap.objs.size+1,n,o,rfl,y⟩⟩
  |next=>exact EE b
  |brk=>exact EE b
  |cont=>exact EE b
theorem Sj (M:Mk X.K C f)(F:yx X.prog X.w X.K X.mg X.base CX k f fd ps sp)(n:wY (k+1) X.A)(l:Gl X x)(hm:X.mg x=some (.ref C))(hb:wW X.K fd ps ds)(hd:yu dvs ds)(o:vT CX X E)
  (ha:PA X (e::es) t) (b:(x==("__debug__":Str))=false:=by decide) (j:Ew (e::es) X.env=(false,E3 e X.env)::Ew es X.env:=by rfl) (d:(Lb pos<|Ew es X.env).any (·.1)=false:=by rfl) :
  PE X (.Call (.Name x p) (e::es) [] pos) (Te C sp dvs E t):=by
 intro i s u H Q I h;refine Y1<|kC I l hm ?_ b;refine Jo (h₀:=X.base) I.ok.mod.mK M.kp (Ch (ha pos i s u H _ I h) fun z y ⟨B,v,g,r,q⟩=>⟨g.tQ,?_⟩) j d;exact Rg M F n hb hd o g r q
end
structure zx (N P:Da)(sc:LP):Prop where
 kind:sc.kind=.function
 co:sc.isCoroutine=false
 gen:sc.isGenerator=false
 nd:N.Nodup
 pre:N.take P.length=P
 par:∀x∈P,sc.names.lookup x=some .local\/sc.names.lookup x=some .cell
 lA:∀y∈sc.names,y.2≠.free
theorem Co {N P:Da}{sc:LP}(a:sc.kind=.function:=by rfl)(b:sc.isCoroutine=false:=by rfl)(c:sc.isGenerator=false:=by rfl)(d:N.Nodup:=by decide +kernel)(e:N.take P.length=P:=by rfl)(f:∀x∈P,sc.names.lookup x=some .local\/sc.names.lookup x=some .cell:=by decide +kernel)(g:∀y∈sc.names,y.2≠.free:=by decide +kernel):zx N P sc:=⟨a,b,c,d,e,f,g⟩
theorem BG {kindOf:Str->Option L5}{x:Str}:∀{binds:List (Str×Eh)} {m:Str->Dc},(∀v,(x,v)∉binds)->bindL kindOf binds m x=m x
 |[],_,_=>rfl
 |(n,v)::r,m,h=>by
  unfold bindL;rw[BG fun w b=>h w<|Zf _ b]
  split
  ·have:x≠n:=by rintro rfl;exact h v Zi
   simp[this]
  ·rfl
theorem G9 {kindOf:Str->Option L5}{x:Str}:∀{binds:List (Str×Eh)} {m:Str->Dc},(∀v,(x,v)∉binds)->bindC kindOf binds m x=m x
 |[],_,_=>rfl
 |(n,v)::r,m,h=>by
  unfold bindC;rw[G9 fun w b=>h w<|Zf _ b]
  split
  ·rfl
  ·have:x≠n:=by rintro rfl;exact h v Zi
   simp[this]
theorem BJ {kindOf:Str->Option L5}{x:Str}{v:Eh}:∀{P:Da} {vs:Db} {i:Nat} {m:Str->Dc},P.Nodup->P[i]?=some x->vs[i]?=some v->kindOf x=some .local ->
  bindL kindOf (P.zip vs) m x=some v
 |[],_,_,_,_,h,_,_=>by simp at h
 |_::_,[],_,_,_,_,h,_=>by simp at h
 |p::P,w::vs,0,m,nd,h1,h2,hk=>by
  simp at h1 h2;subst h1;subst h2;show bindL kindOf ((p,w)::P.zip vs) m p=_;unfold bindL;rw[BG fun v b=>(Z5.mp nd).1 (JN b).1,Zy hk];simp
 |p::P,w::vs,i+1,m,nd,h1,h2,hk=>by
  show bindL kindOf ((p,w)::P.zip vs) m x=_;unfold bindL;exact BJ (i:=i) (Z5.mp nd).2 (by simpa using h1) (by simpa using h2) hk
theorem Bg {kindOf:Str->Option L5}{x:Str}{v:Eh}:∀{P:Da} {vs:Db} {i:Nat} {m:Str->Dc},P.Nodup->P[i]?=some x->vs[i]?=some v->kindOf x≠some .local ->
  bindC kindOf (P.zip vs) m x=some v
 |[],_,_,_,_,h,_,_=>by simp at h
 |_::_,[],_,_,_,_,h,_=>by simp at h
 |p::P,w::vs,0,m,nd,h1,h2,hk=>by
  simp at h1 h2;subst h1;subst h2;show bindC kindOf ((p,w)::P.zip vs) m p=_;unfold bindC;rw[G9 fun v b=>(Z5.mp nd).1 (JN b).1,Zr hk];simp
 |p::P,w::vs,i+1,m,nd,h1,h2,hk=>by
  show bindC kindOf ((p,w)::P.zip vs) m x=_;unfold bindC;exact Bg (i:=i) (Z5.mp nd).2 (by simpa using h1) (by simpa using h2) hk
def start (N:Da)(vs:Dj):St:=vs.map some++List.replicate (N.length-vs.length) none
def GS (CX:Ot)(P:Ej)(w:Ep)(K:Cc)(mg:Str->Dc)(base:EB)(N:Da)(qual:Str)(scope:LP)(f:Ei)(d:Eh)(A:ED)(outer:List Env)(s:Em)(H:Hp)(E:XK):Cx where
 prog:=P
 w:=w
 K:=K
 mg:=mg
 base:=base
 A:=A.deeper<|Mi qual scope s.heap.objs.size f d
 N:=N
 s₀:=s
 H₀:=H
 env:=Mi qual scope s.heap.objs.size f d
 outer:=outer
 stack:=Mi qual scope s.heap.objs.size f d::outer
 ex:=[]
 calm:=true
 fn:=fun _=>true
 pn:=[]
 xe:=fun e i=>El (Es P w) (A.deeper<|Mi qual scope s.heap.objs.size f d) (leaving (Mi qual scope s.heap.objs.size f d) e) (fun _ b=>CX outer H s E e b) (fun g b=>CX outer H s E g b) i
theorem Fj {sc:LP}{n:Nat}{x:Str}(h:sc.names.lookup x=some .cell):∃c,(cellsFrom n sc.names []).lookup x=some c:=by
 have q:=Vl sc.names n []<|.inl h;exact Y5.mp q
theorem Bx {CX:Ot}{P:Ej}{w:Ep}{K:Cc}{mg:Str->Dc}{base:EB}{N ps:Da}{qual:Str}{scope:LP}{f:Ei}{B:Eh}{A:ED}{outer:List Env}{s G:Em}{H:Hp}{E:XK}{us:Db}{vs:Dj}
  (S:zx N ps scope) (hd:A.handled=none) (g:qt P w K mg base A outer s H) (hl:vs.length=ps.length) (r:yu vs us)
  (x:InCallC s s.heap.objs.size (bindL (Mi qual scope s.heap.objs.size f B).kindOf (ps.zip us) fun _=>none) (cellsFrom (s.heap.objs.size+1) scope.names []) (bindC (Mi qual scope s.heap.objs.size f B).kindOf (ps.zip us) fun _=>none) G) :
  Inv (GS CX P w K mg base N qual scope f B A outer s H E) [] (start N vs) H G:=by
 have I:ps.length<=N.length:=by have:=congrArg List.length S.pre;rw[ZG]at this;lia
 obtain⟨D,M,rfl,hk⟩:=x.done;have l:∀b:Ei,b∉(GS CX P w K mg base N qual scope f B A outer s H E).ex:=fun b z=>absurd (show b∈([]:Dd) from z) (by simp);refine⟨⟨g.mod,S.kind,rfl,rfl,Zg _,fun y z c D d=>?_,fun y j=>?_,fun y c _ h=>?_,fun _=>hd,Around.frames_deeper g.frames,.inr ⟨rfl,rfl⟩,fun b z=>absurd z<|l b,g.bs,g.nY,fun b _ _=>l b,fun b z=>absurd z<|l b,g.tR,g.nj⟩,rfl,g.bare,Un.kept hk,⟨_,x.toInCall.ns,fun i y v D d L=>?_⟩,fun y c h=>⟨_,x.cell y c h⟩,g.hok.fresh<|Zg _,fun y c h=>?_,fun p o=>absurd (show p∈([]:De) from o) (by simp),g.hok.kept hk,?_⟩
 ·exact name_of_addr x.apart (YX D) (YX d)
 ·have j:scope.names.lookup y=some .cell\/scope.names.lookup y=some .free:=j
  rcases j with j|j
  ·exact Fj j
  ·exact absurd rfl (S.lA _<|YX j)
 ·exact Yx (x.above y c<|YX h)
 ·have C:i<vs.length:=by
   unfold start at d
   by_cases C:i<vs.length
   ·exact C
   ·rw[ZP<|by simpa using C]at d;rw[List.getElem?_replicate]at d
    split at d<;>cases d
  have ha:vs[i]?=some v:=by
   unfold start at d;rw[ZH<|by simpa using C,Zs]at d;cases e:vs[i]? with
   |none=>rw[e]at d;cases d
   |some a=>rw[e]at d;cases d;rfl
  obtain⟨u,F,J⟩:=r.get ha;have o:ps[i]?=some y:=by
   rwa[←S.pre,List.getElem?_take_of_lt<|by lia]
  have t:ps.Nodup:=by rw[←S.pre];exact S.nd.sublist<|List.take_sublist _ _
  refine⟨u,J,?_⟩
  rcases S.par y (Zt o) with k|k
  ·exact .inl ⟨k,BJ t o F k⟩
  ·obtain⟨c,e⟩:=Fj (n:=s.heap.objs.size+1) k;refine .inr ⟨.inl k,c,e,?_⟩;have q:=x.cell y c e;rw[Bg t o F (by show scope.names.lookup y≠_;rw[k];decide)]at q;exact q
 ·exact g.hok.fresh (Yx<|x.above y c<|YX h)
 ·unfold start;show _=N.length;rw[Zp,Za,List.length_replicate];lia
theorem SX {CX:Ot}{P:Ej}{w:Ep}{K:Cc}{mg:Str->Dc}{base:EB}{k:Nat}{f:Ei}{name qual:Str}{params:Arguments}{body:List EK}{scope:LP}{U kV l X d ct oc:Eh}{R od:Option Ei}
  {G:Array Dc} {N ps:Da} {sp:Sp} (lk:K.lookup f=some ⟨oc,od,.func<|E8 name qual params body scope U kV l X R d ct,G⟩) (C:LD K d qual=true) (S:zx N ps scope)
  (len:∀vs H Q E,sp vs H Q E->vs.length=ps.length)
  (Z:∀(A:ED) (outer:List Env) (s:Em) (H:Hp) (vs:Dj) (Q:VK) (E:XK),wY k (A.deeper<|Mi qual scope s.heap.objs.size f d)->sp vs H Q E -> ∃t,sX (GS CX P w K mg base N qual scope f d A outer s H E) body t/\t { nx:=fun _ H'=>Q .non H',rt:=Q } (start N vs) H) :
  yx P w K mg base CX (k+1) f (E8 name qual params body scope U kV l X R d ct) ps sp:=by
 refine⟨len,fun A outer s H T us vs Q E D p hb r B=>?_⟩;have hl:=len _ _ _ _ B;have O:K.In s.heap:=p.mod.mK.keeps fun b o e=>(p.bs b o e).1;have F:s.heap.NoLimit:=p.mod.nolimit.keeps fun b o e=>(p.bs b o e).1;have i:∀y∈ps.zip us,scope.names.lookup y.1=some .local\/(scope.names.lookup y.1=some .cell/\((cellsFrom (s.heap.objs.size+1) scope.names []).lookup y.1).isSome=true):=fun⟨n,v⟩ hy=>by
  rcases S.par n (JN hy).1 with q|q
  ·exact .inl q
  ·exact .inr ⟨q,Vl _ _ _<|.inl q⟩
 refine codeAny_call_function D.depth (O _ _ lk) rfl S.co S.gen rfl (PySem.W.codeRec_of O C)<|hb _ _ _ _ ?_;refine wpAny_newFunctionEnv_cells S.kind i fun env he Y x=>?_;subst he;refine⟨F.keeps x.toInCall.keep,codeAny_func ?_⟩;obtain⟨t,ht,hq⟩:=Z A outer s H vs Q E (D.deeper _) B;have I:Inv (GS CX P w K mg base N qual scope f d A outer s H E) [] (start N vs) H Y:=Bx S D.hd p hl r x;refine Yr (ht [] Y (start N vs) H _ I hq) (fun fl M j=>?_) fun e M j=>j;have z:∀{g:St} {H':Hp} {v:V} {u:Eh},Inv (GS CX P w K mg base N qual scope f d A outer s H E) [] g H' M->yt v u->Q v H'->CE outer P w H s Q u M :=
  fun{g H' v u} J L q=>⟨v,H',J.os,J.bare,J.base,J.hok,L,q⟩
 cases fl with
 |ret u =>
  obtain⟨v,g,H',J,L,q⟩:=j;exact z J L q
 |next =>
  obtain⟨g,H',J,q⟩:=j;exact z (v:=V.non) (u:=EC) J rfl q
 |brk =>
  obtain⟨_,_,_,q⟩:=j;exact EE q
 |cont =>
  obtain⟨_,_,_,q⟩:=j;exact EE q
section
variable {X:Cx}{x:Str}{p pos:Pos}{e:EG}{es:List EG}{t:TA}{id T:String}{r:Dj->Hp->VK->Prop}
def bL (r:Dj->Hp->VK->Prop)(t:TA):TE:=fun e H Q=>t e H fun d b=>r d b Q
theorem zK (l:xq X (.builtin id) r)(o:Gl X x)(hm:X.mg x=none)(q:LV x=some (.builtin id))(ha:PA X (e::es) t)(hn:x≠"__name__":=by decide)(b:(x==("__debug__":Str))=false:=by decide)
  (n:Ew (e::es) X.env=(false,E3 e X.env)::Ew es X.env:=by rfl) (d:(Lb pos<|Ew es X.env).any (·.1)=false:=by rfl):PE X (.Call (.Name x p) (e::es) [] pos) (bL r t):=by
 intro f s g H Q I h;refine Y1<|vX I o hm q ?_ hn b;exact VB (Ch (ha pos f s g H _ I h) fun y w ⟨z,i,j,v,u⟩=>l f w g i z y Q j v u) n d
theorem yK (l:xq X (.type T) r)(o:Gl X x)(hm:X.mg x=none)(q:LV x=some (.type T))(ha:PA X (e::es) t)(hn:x≠"__name__":=by decide)(b:(x==("__debug__":Str))=false:=by decide)
  (n:Ew (e::es) X.env=(false,E3 e X.env)::Ew es X.env:=by rfl) (d:(Lb pos<|Ew es X.env).any (·.1)=false:=by rfl):PE X (.Call (.Name x p) (e::es) [] pos) (bL r t):=by
 intro f s g H Q I h;refine Y1<|vX I o hm q ?_ hn b;exact Jb (Ch (ha pos f s g H _ I h) fun y w ⟨z,i,j,v,u⟩=>l f w g i z y Q j v u) n d
end
end L2
namespace HT
open PySem PyProof.Rows
section
variable {prog:Ej}{w:Ep}{A:ED}{E:Eh->Dh}{s:Em}
def wF (n d:Nat):Option Int->Nat
 |none=>d
 |some v=>if v<0 then(v+(n:Int)).toNat else min v.toNat n
theorem pF (n d:Nat):wF n d none=d:=rfl
theorem rJ (n d k:Nat):wF n d (some (k:Int))=min k n:=by
 show(if(k:Int)<0 then((k:Int)+(n:Int)).toNat else min (k:Int).toNat n)=min k n;rw[Zr<|by lia,V4]
theorem Wh (n d:Nat)(hd:d<=n)(o:Option Int):wF n d o<=n:=by
 cases o with
 |none=>exact hd
 |some v =>
  show(if v<0 then(v+(n:Int)).toNat else min v.toNat n)<=n
  by_cases b:v<0
  ·rw[Zy b];lia
  ·rw[Zr b];exact Nat.min_le_right _ _
theorem K2 (v:Int)(n d:Nat):(if v<0 then max (v+(n:Int)) 0 else min v (n:Int))=((wF n d (some v):Nat):Int):=by
 show(if v<0 then max (v+(n:Int)) 0 else min v (n:Int))=(((if v<0 then(v+(n:Int)).toNat else min v.toNat n):Nat):Int)
 by_cases b:v<0
 ·simp only[Zy b];lia
 ·simp only[Zr b];lia
theorem HL (lo b:Option Int)(n:Nat):LY lo b 1 (n:Int)=(((wF n 0 lo:Nat):Int),((wF n n b:Nat):Int)):=by
 have d:¬((1:Int)<0):=by lia
 unfold LY;simp only[d,JO];refine LQ ?_ ?_
 ·cases lo with
  |none=>rfl
  |some v=>exact K2 v n 0
 ·cases b with
  |none=>rfl
  |some v=>exact K2 v n n
theorem Ky (i j:Nat):Ls (i:Int) (j:Int) 1=j-i:=by
 unfold Ls;have b:(1:Int)>0:=by lia
 simp only[b,V5,Int.ediv_one]
 split<;>lia
theorem IO {v:Eh}{o:Option Int}{Q:Option Int->Dh}(p:MG v o)(h:Q o s):El (Es prog w) A (Builtin.Slice.slicePartIndex v) Q E s:=by
 cases p with
 |none=>exact slicePart_none h
 |int i t=>exact slicePart_int h
theorem jH {i:Ei}{f g:Eh}{lo d:Option Int}{n:Nat}{Q:Int×Int×Nat->Dh}(l:s.heap.IsSliceOf i f g .none)(pl:MG f lo)(o:MG g d)
  (h:Q (((wF n 0 lo:Nat):Int),1,wF n n d-wF n 0 lo) s):El (Es prog w) A (Builtin.Slice.sliceApplied (.ref i)<|LC (n:Int)) Q E s:=by
 obtain⟨os,e,j,b⟩:=id l;unfold Builtin.Slice.sliceApplied Builtin.Slice.sliceFields;refine Q9<|Q9<|Y6 e b (x:=f) rfl<|Q9<|Y6 e b (x:=g) rfl<|Q9<|Y6 e b (x:=.none) rfl<|Zh ?_;refine Q9<|slicePart_none ?_;show El _ _ (if((1:Int)==0)=true then _ else _) _ _ s;rw[Zr<|by decide];refine Q9<|IO pl<|Q9<|IO o<|Q9<|Zh ?_;show El _ _ (match LY lo d 1 (n:Int) with|(lo,d)=>LC (lo,(1:Int),Ls lo d 1)) _ _ s;rw[HL lo d n];show El _ _ (LC (((wF n 0 lo:Nat):Int),(1:Int),Ls ((wF n 0 lo:Nat):Int) ((wF n n d:Nat):Int) 1)) _ _ s;rw[Ky];exact Zh h
theorem PZ (xs:Array Eh)(i k:Nat):((EM k).filterMap fun(m:Nat)=>xs[((i:Int)+(m:Int)*1).toNat]?).toArray=((xs.toList.drop i).take k).toArray:=by
 have e:(fun(m:Nat)=>xs[((i:Int)+(m:Int)*1).toNat]?)=fun m=>xs[i+m]?:=by
  funext m
  have:((i:Int)+(m:Int)*1).toNat=i+m:=by lia
  rw[this]
 rw[e];have:=pick_run xs i k;rw[List.filterMap_map]at this;have b:((fun x=>xs[x]?)∘fun x=>i+x)=fun m=>xs[i+m]?:=rfl;rw[b]at this;rw[this]
theorem sI {t l:Ei}{Dn:Array Eh}{o p:Eh}{lo d:Option Int}{Q:Eh->Dh}(e:IsTup s.heap t Dn)(n:s.heap.IsSliceOf l o p .none)(pl:MG o lo)(v:MG p d)
  (u:¬(wF Dn.size 0 lo=0/\wF Dn.size Dn.size d=Dn.size))
  (h:Q (.ref s.heap.objs.size) { s with heap:=s.heap.push { cls:=.type "tuple",data:=.seq ((Dn.toList.drop<|wF Dn.size 0 lo).take<|wF Dn.size Dn.size d-wF Dn.size 0 lo).toArray } })
  (hsz:Dn.size<=sizeLine):El (Es prog w) A (Mt (.ref t)<|.ref l) Q E s:=by
 have b:sizeOk (.seq ((Dn.toList.drop<|wF Dn.size 0 lo).take<|wF Dn.size Dn.size d-wF Dn.size 0 lo).toArray):=by
  show((Dn.toList.drop<|wF Dn.size 0 lo).take<|wF Dn.size Dn.size d-wF Dn.size 0 lo).toArray.size<=sizeLine;rw[ZD,ZG,YO,ZO];lia
 have x:wF Dn.size Dn.size d<=Dn.size:=Wh _ _ (Zg _) d;obtain⟨os,j,g,r⟩:=id n;have f:s.TypeIs (.ref l) "slice":=⟨os,j,g⟩;unfold Mt
 try with_reducible refine Yb ?_
 first|refine Q9 (Zh ?_)|skip
 refine Q9 (wpAny_sequenceKey e.typeIs (by decide) ?_);refine Q9<|Ys (name:=EQ "__getitem__") e.typeIs YZ<|Yg YZ e.typeIs entry_tuple_getitem ?_<|args_tuple_getitem _ _
 show El _ _ (LR (.ref t)>>=_) _ _ s;refine Q9<|tupleItemsOf_ e ?_;refine Q9<|J4 f ?_;rw[Zy<|by decide];refine Q9<|jH n pl v ?_;have i:¬((((wF Dn.size 0 lo:Nat):Int)==0&&(1:Int)==1&&(wF Dn.size Dn.size d-wF Dn.size 0 lo)==Dn.size)=true):=by
  intro q;rw[Zk,Zk]at q;have y:((wF Dn.size 0 lo:Nat):Int)=0:=VC q.1.1;have z:wF Dn.size Dn.size d-wF Dn.size 0 lo=Dn.size:=VC q.2;exact u ⟨by lia,by lia⟩
 show El _ _ (if(((wF Dn.size 0 lo:Nat):Int)==0&&(1:Int)==1&&(wF Dn.size Dn.size d-wF Dn.size 0 lo)==Dn.size)=true then _ else _) _ _ s;rw[Zr i,PZ]
 first
  |exact Q9 (m:=LA _) (ZX (Zh ⟨_,rfl,Zh h⟩) b)
  |exact Q9 (m:=LA _) (ZX (Q9<|Zh<|Zh ⟨_,rfl,Zh h⟩) b)
  |exact Q9 (Q9 (m:=LA _)<|ZX (Zh<|Zh ⟨_,rfl,Zh h⟩) b)
  |exact Q9 (Q9 (m:=LA _)<|ZX (Zh ⟨_,rfl,Zh h⟩) b)
end
end HT
namespace L2
open PySem PySem.Spec PyProof.Rows
abbrev TO:=St->Hp->(Option Int->Hp->Prop)->Prop
def PO (X:Cx)(e:Option EG)(t:TO):Prop :=
 ∀(d:De) (s:Em) (b:St) (H:Hp) (Q:Option Int->Hp->Prop),Inv X d b H s->t b H Q ->
  El (Es X.prog X.w) X.A (evalPart e X.env) (fun u g=>∃o f,Inv X d b f g/\MG u o/\Q o f) X.xe s
def SL:TO:=fun _ H Q=>Q none H
def aE (t:TE):TO:=fun d H Q=>t d H fun x b=>∃i,x=.int i/\Q (some i) b
section
variable {X:Cx}{e:EG}{te:TE}{lo hi:Option EG}{tl th:TO}{pos p2:Pos}
theorem vS:PO X none SL:=by
 intro b s d H Q I h;rw[evalPart_none];exact Zh ⟨none,H,I,.none,h⟩
theorem kG (h:PE X e te):PO X (some e) (aE te):=by
 intro b s n H Q I g;rw[evalPart_some];refine Ch (h b s n H _ I g) fun u o ⟨x,d,f,l,j⟩=>?_;obtain⟨i,rfl,q⟩:=j;obtain⟨t,rfl⟩:=l;exact⟨some i,d,f,.int i t,q⟩
def RF (X:Cx)(r:V->Option Int->Option Int->Hp->VK->Prop):Prop :=
 ∀(b:De) (s:Em) (g:St) (H:Hp) (x:V) (v e f:Eh) (lo hi:Option Int) (d:Ei) (Q:VK),Inv X b g H s->yt x v->s.heap.IsSliceOf d e f .none->MG e lo->MG f hi->r x lo hi H Q ->
  ∃T id,typeLookup (.type T) "__getitem__"=LC (some<|.builtin id)/\s.TypeIs v T/\El (Es X.prog X.w) X.A (Mt v<|.ref d) (EP X b g Q) X.xe s
def tSl (r:V->Option Int->Option Int->Hp->VK->Prop)(te:TE)(tl th:TO):TE:=fun b H Q=>te b H fun x d=>tl b d fun l e=>th b e fun u f=>r x l u f Q
theorem j8 (F:RF X r)(D:PE X e te)(hl:PO X lo tl)(J:PO X hi th):PE X (.Subscript e (.Slice lo hi none p2) pos) (tSl r te tl th):=by
 intro f s g H Q I h;refine Subscript_<|Ch (D f s g H _ I h) fun v R ⟨x,o,t,P,M⟩=>?_;refine wpAny_Slice<|Ch (hl f R g o _ t M) fun i S ⟨l,p,y,K,N⟩=>Ch (J f S g p _ y N) fun j d ⟨u,n,z,L,O⟩=>?_;rw[evalPart_none];refine Zh ?_;have B:Inv X f g n { d with heap:=d.heap.push { cls:=.type "slice",data:=.fields #[i,j,.none] } }:=z.kept (t':=d.toks) fun b U q=>Zc _ q;obtain⟨T,id,C,G,E⟩:=F f { d with heap:=d.heap.push { cls:=.type "slice",data:=.fields #[i,j,.none] } } g n x v i j l u d.heap.objs.size Q B P (Heap.IsSliceOf.new ..) K L O;show El (Es X.prog X.w) X.A (subscriptTail e (.Slice lo hi none p2) v<|.ref d.heap.objs.size) (EP X f g Q) X.xe { d with heap:=d.heap.push { cls:=.type "slice",data:=.fields #[i,j,.none] } };exact tail_any (ops:=[.ref d.heap.objs.size,v]) G C E (by with_unfolding_all rfl)
def UQ (xs:Dj)(lo hi:Option Int):Dj:=(xs.drop<|HT.wF xs.length 0 lo).take<|HT.wF xs.length xs.length hi-HT.wF xs.length 0 lo
theorem XZ (xs:Dj)(lo hi:Option Int):(UQ xs lo hi).length<=xs.length:=by
 unfold UQ;rw[ZG,YO];lia
end
def WI (n:Nat)(i:Int):Option Nat:=if 0<=i then(if i<n then some i.toNat else none) else if -(n:Int)<=i then some (i+n).toNat else none
def Fa {b:Type}(xs:List b)(i:Int):Option b:=(WI xs.length i).bind fun j=>xs[j]?
theorem RU {j:Nat}(h:WI n i=some j):seqIndex? i n=some j/\j<n/\-(n:Int)<=i/\i<n:=by
 unfold WI at h
 by_cases d:0<=i
 ·rw[Zy d]at h
  by_cases b:i<n
  ·rw[Zy b]at h;have e:i.toNat=j:=Option.some.inj h;exact⟨by rw[seqIndex_of d b,e],by lia,by lia,b⟩
  ·rw[Zr b]at h;cases h
 ·rw[Zr d]at h
  by_cases b:-(n:Int)<=i
  ·rw[Zy b]at h;have e:(i+n).toNat=j:=Option.some.inj h;exact⟨by rw[seqIndex_neg (by lia) b,e],by lia,b,by lia⟩
  ·rw[Zr b]at h;cases h
theorem BZ {b:Type}{xs:List b}{v:b}(h:Fa xs i=some v):∃j,seqIndex? i xs.length=some j/\xs[j]?=some v/\j<xs.length/\-(xs.length:Int)<=i/\i<xs.length:=by
 unfold Fa at h;cases e:WI xs.length i with
 |none=>rw[e]at h;cases h
 |some j =>
  rw[e]at h;obtain⟨d,f,g,l⟩:=RU e;exact⟨j,d,h,f,g,l⟩
theorem y7 {b:Type}{xs:List b}{j:Nat}{v:b}(h:xs[j]?=some v):Fa xs (j:Int)=some v:=by
 have d:j<xs.length:=(Zv.mp h).1;have e:WI xs.length (j:Int)=some j:=by
  unfold WI;rw[Zy<|by lia,Zy<|by lia];simp
 unfold Fa;rwa[e]
def RE (b:EG):Prop:=∀o i,subscripted b false o i=operate [o,i] (Mt o i)
def Cq (X:Cx)(r:R2):Prop :=
 ∀(value b:EG) (d:De) (s:Em) (e:St) (H:Hp) (x y:V) (v u:Eh) (Q:VK),Inv X d e H s->yt x v->yt y u->r x y H Q ->
  subscripted b false v u=operate [v,u] (Mt v u)->El (Es X.prog X.w) X.A (subscriptTail value b v u) (EP X d e Q) X.xe s
def RA (X:Cx)(id:String)(r:V->Dj->Hp->VK->Prop):Prop :=
 ∀(b:De) (s:Em) (f:St) (H:Hp) (x:V) (e:Dj) (v:Eh) (d:Db) (Q:VK),Inv X b f H s->yt x v->yu e d->r x e H Q ->
  El (Es X.prog X.w) X.A (call (.builtin id) (v::d)) (EP X b f Q) X.xe s
section
variable {X:Cx}{a b:EG}{ta tb:TE}{pos:Pos}
theorem yM (g:Cq X r)(ha:PE X a ta)(hb:PE X b tb)(i:RE b:=by exact fun _ _=>rfl):PE X (.Subscript a b pos) (WL r ta tb):=by
 intro d s o H Q I h;exact Subscript_<|Tu ha hb I h fun v u n x y e f j l q=>g a b d n o e x y v u Q f j l q<|i _ _
inductive rW (K:Cc)(x y:V)(H:Hp)(Q:VK):Prop
 |mk (p:Ei) (xs:Dj) (i:Int) (v:V) (e:x=.ref p) (f:y=.int i) (h:xx K H p xs) (a:Fa xs i=some v) (q:Q v H):rW K x y H Q
inductive wQ (K:Cc)(x y:V)(H:Hp)(Q:VK):Prop
 |mk (p:Ei) (xs:Dj) (i:Int) (v:V) (e:x=.ref p) (f:y=.int i) (h:xg K H p xs) (a:Fa xs i=some v) (q:Q v H):wQ K x y H Q
inductive jo (x y:V)(H:Hp)(Q:VK):Prop
 |mk (z:Str) (i:Int) (c:Nat) (e:x=.str z) (f:y=.int i) (l:z.length<=sizeLine) (a:Fa z.cps.toList i=some c) (q:Q (.str ⟨#[c]⟩) H):jo x y H Q
theorem wD:Cq X (rW X.K):=by
 intro value n o s D H x y v u Q I M N h C;obtain⟨p,S,i,z,rfl,rfl,L,J,q⟩:=h;cases M;obtain⟨t,rfl⟩:=N;obtain⟨f,r,g,R⟩:=I.list L;obtain⟨j,d,E,P,F,G⟩:=BZ J;obtain⟨w,A,l⟩:=r.get E;have hl:=r.length;have hn:=Xy;have b:EP X o D Q w s:=⟨z,H,I,l,q⟩
 by_cases B:0<=i
 ·have e:i.toNat=j:=by
   rw[seqIndex_of B G]at d;exact Option.some.inj d
  exact item_listR g.isList B (by lia) (by rw[e];simpa using A) b C
 ·have e:(i+(f.toArray.size:Int)).toNat=j:=by
   rw[seqIndex_neg (by lia) F]at d;rw[ZD,←hl];exact Option.some.inj d
  exact subscriptTail_builtinR (x:=w) g.isList.typeIs slot_list_getitem.lookup
   (wpAny_getItem_list_neg (Q:=fun r O=>r=w/\EP X o D Q r O) g.isList (by lia) (by rw[ZD]<;>lia) (by lia) (by rw[e];simpa using A) ⟨rfl,b⟩) C
theorem yp:Cq X (wQ X.K):=by
 intro value e f s l H x y v u Q I E F h C;obtain⟨p,P,i,z,rfl,rfl,B,A,q⟩:=h;cases E;obtain⟨t,rfl⟩:=F;obtain⟨D,r,g,O⟩:=I.tuple B;obtain⟨j,J,o,L,M,N⟩:=BZ A;obtain⟨w,n,d⟩:=r.get o;have hl:=r.length;have hn:=Xy;have b:EP X f l Q w s:=⟨z,H,I,d,q⟩;exact subscriptTail_builtinR (x:=w) g.typeIs slot_tuple_getitem.lookup
  (getItem_tuple (j:=j) (Q:=fun r G=>r=w/\EP X f l Q r G) g (by lia) (by lia) (by rwa[ZD,←hl]) (by simpa using n) ⟨rfl,b⟩) C
theorem O7:Cq X jo:=by
 intro value b A s E H x y v u Q I r w h p;obtain⟨z,i,c,rfl,rfl,C,o,q⟩:=h;obtain⟨t,rfl⟩:=r;obtain⟨D,rfl⟩:=w;obtain⟨j,d,g,B,l,n⟩:=BZ o;have hl:z.cps.toList.length=z.length:=by simp[Str.length]
 rw[hl]at d l n;have hn:=Xy;exact tail_any (JY s z t) slot_str_getitem.lookup (getItem_str (c:=c) (by
  have e:decide (i < -(2 ^ 63:Int))=false:=Zn (by lia);have f:decide (i≥2 ^ 63)=false:=Zn (by lia);rw[e,f,Bool.or_false]) (by rw[d];simpa using g) ⟨.str ⟨#[c]⟩,H,I.tok _,⟨_,rfl⟩,q⟩) p
theorem CW (lo b:Option Int)(n:Nat):(Ma lo b none n).1=((HT.wF n 0 lo:Nat):Int)/\(Ma lo b none n).2.1=((HT.wF n n b:Nat):Int)/\(Ma lo b none n).2.2=1:=by
 refine⟨?_,?_,rfl⟩
 ·cases lo with
  |none=>simp[Ma,HT.wF]
  |some i =>
   simp only[Ma,HT.wF,Option.getD_none,show(1:Int)>0 by decide,V5]
   by_cases h:i<0
   ·simp only[h,V5]<;>lia
   ·simp only[h,JO]<;>lia
 ·cases b with
  |none=>simp[Ma,HT.wF]
  |some i =>
   simp only[Ma,HT.wF,Option.getD_none,show(1:Int)>0 by decide,V5]
   by_cases h:i<0
   ·simp only[h,V5]<;>lia
   ·simp only[h,JO]<;>lia
theorem GU (b:Db)(lo d:Option Int):slicePick b.toArray lo d none=((b.drop<|HT.wF b.length 0 lo).take<|HT.wF b.length b.length d-HT.wF b.length 0 lo).toArray:=by
 obtain⟨e,f,g⟩:=CW lo d b.toArray.size;unfold slicePick;rw[e,f,g];simp only[sliceRange_one,pick_run,ZD]<;>rfl
def P8 (K:Cc):V->Option Int->Option Int->Hp->VK->Prop:=fun x e d H Q=>∃a b,x=.ref a/\xx K H a b/\∀p,H p=none->Q (.ref p) (upd H p<|.lst<|UQ b e d)
theorem rH:RF X (P8 X.K):=by
 intro y s D H x v B C e f A Q I w j t u h;obtain⟨a,d,rfl,l,q⟩:=h;cases w;obtain⟨p,r,g,n⟩:=I.list l;have i:=r.length;refine⟨"list",_,slot_list_getitem.lookup,g.isList.typeIs,?_⟩;refine wpAny_getItem_list_slice g.isList j t u .none (by simp) ?_ (by rw[ZD]<;>lia);rw[GU,←i];refine⟨.ref s.heap.objs.size,_,I.laid (t':=s.toks) (o:=.lst<|UQ d e f) (fun b z q=>Zc _ q) (Zg _) ?_,rfl,q _<|I.hok.fresh<|Zg _⟩;exact⟨ZR (XZ d e f) n,_,0,(r.drop<|HT.wF d.length 0 e).take<|HT.wF d.length d.length f-HT.wF d.length 0 e,Zq _ rfl⟩
theorem z8:xq X (.builtin "len") (fun xs H Q=>∃p ys,xs=[.ref p]/\(xx X.K H p ys\/xg X.K H p ys)/\Q (.int ys.length) H):=by
 intro l s o H xs n Q I r h;obtain⟨p,ys,rfl,b,q⟩:=h;obtain⟨u,rfl,j⟩:=wX r;cases j;have hn:=Xy
 rcases b with b|b
 ·obtain⟨e,g,f,i⟩:=I.list b;have d:=g.length;exact Calls.call_len_list f.isList (by simp only[ZD]<;>lia) ⟨.int ys.length,H,I.tok _,⟨s.toks+1,by rw[ZD,d]⟩,q⟩
 ·obtain⟨e,g,f,i⟩:=I.tuple b;have d:=g.length;exact len_tuple f (by simp only[ZD]<;>lia) ⟨.int ys.length,H,I.tok _,⟨s.toks+1,by rw[ZD,d]⟩,q⟩
theorem xZ:xq X (.builtin "len") (fun xs H Q=>∃z,xs=[.str z]/\z.length<=sizeLine/\Q (.int z.length) H):=by
 intro b s f H xs e Q I r h;obtain⟨z,rfl,d,q⟩:=h;obtain⟨u,rfl,t,rfl⟩:=wX r;have hn:=Xy;exact len_str (by lia) ⟨.int z.length,H,I.tok _,⟨_,rfl⟩,q⟩
theorem xq.or (h:xq X f r)(h':xq X f r'):xq X f (fun xs H Q=>r xs H Q\/r' xs H Q):=by
 intro b s g H xs e Q I d q
 rcases q with q|q
 ·exact h b s g H xs e Q I d q
 ·exact h' b s g H xs e Q I d q
theorem vI:xq X (.type "list") (fun xs H Q=>∃p ys,xs=[.ref p]/\(xx X.K H p ys\/xg X.K H p ys)/\∀l,H l=none->Q (.ref l) (upd H l<|.lst ys)):=by
 intro B s E H xs F Q I r h;obtain⟨p,ys,rfl,t,q⟩:=h;obtain⟨u,rfl,D⟩:=wX r;cases D;have j:∀(d:Db),yu ys d->ys.length<=sizeLine->∀(f:EB) (g:Nat),(∀b A,s.heap.get? b=some A->f.get? b=some A) ->
   f.get? s.heap.objs.size=some { cls:=.type "list",dict:=none,data:=.seq d.toArray g,slots:=#[] }->EP X B E Q (.ref s.heap.objs.size) { s with heap:=f }:=fun d i v f g kp e =>
  ⟨.ref s.heap.objs.size,_,I.laid (t':=s.toks) kp (Zg _)<|show yj X.prog X.w _ f _ (.lst ys) from⟨v,d,g,i,e⟩,rfl,q _<|I.hok.fresh<|Zg _⟩
 rcases t with t|t
 ·obtain⟨d,i,z,v⟩:=I.list t;have C:=i.length;obtain⟨o,y,x,n,hd⟩:=z.isList;exact call_list_seq p (.inl rfl) y x hd (fun f g kp e=>j d i v f g kp e) (by simp only[ZD]<;>lia)
 ·obtain⟨d,i,z,v⟩:=I.tuple t;have C:=i.length;obtain⟨o,y,x,n,hd⟩:=z;exact call_list_seq p (.inr rfl) y x hd (fun f g kp e=>j d i v f g kp e) (by simp only[ZD]<;>lia)
theorem kZ:xq X (.type "tuple") (fun xs H Q=>∃p ys,xs=[.ref p]/\((xx X.K H p ys/\∀l,H l=none->Q (.ref l) (upd H l<|.tup ys))\/(xg X.K H p ys/\Q (.ref p) H))):=by
 intro j s v H xs A Q I r h;obtain⟨p,ys,rfl,h⟩:=h;obtain⟨u,rfl,y⟩:=wX r;cases y
 rcases h with⟨hq,q⟩|⟨hq,q⟩
 ·obtain⟨d,i,g,t⟩:=I.list hq;have z:=i.length;refine call_tuple_list g.isList (fun f kp=>?_) (by simp only[ZD]<;>lia);have n:Inv X j v H { s with heap:=f }:=I.kept (t':=s.toks) kp;have x:Inv X j v (upd H f.objs.size<|.tup ys) { s with heap:=f.push { cls:=.type "tuple",data:=.seq d.toArray } } :=
   n.laid (t':=s.toks) (fun b o e=>Zc _ e) (Zg _) (show yj X.prog X.w _ _ _ (.tup ys) from⟨t,d,i,TupAt.new _ _⟩)
  exact⟨.ref f.objs.size,_,x,rfl,q _<|n.hok.fresh<|Zg _⟩
 ·obtain⟨d,i,g,t⟩:=I.tuple hq;exact call_tuple_same g ⟨.ref p,H,I,rfl,q⟩
def bO (K:Cc)(T:String)(x:V)(H:Hp):Prop:=match x with
 | .str _=>T="str"
 | .int _=>T="int"
 | .ref p=>(T="list"/\∃d,xx K H p d)\/(T="tuple"/\∃o,K.lookup p=some o/\o.cls=.type "tuple"/\o.dict=none) \/
   (T="dict"/\((∃b,H p=some (.dK b))\/∃b,H p=some (.dT b)))\/(T="set"/\∃S n,H p=some (.set S n))
 |_=>False
theorem Wy (I:Inv X Dp σ H s)(r:yt x v)(ty:bO X.K T x H) :
  s.TypeIs v T/\∀a,v=.ref a->∃ob,s.heap.get? a=some ob/\ob.dict=none:=by
 cases x with
 |str z =>
  obtain⟨t,rfl⟩:=r;cases(show T="str" from ty);exact⟨JY s z t,fun _ e=>nomatch e⟩
 |int i =>
  obtain⟨t,rfl⟩:=r;cases(show T="int" from ty);exact⟨typeIs_int s i t,fun _ e=>nomatch e⟩
 |ref p =>
  cases r
  rcases ty with⟨rfl,xs,hq⟩|⟨rfl,o,hk,hc,hd⟩|⟨rfl,hk⟩|⟨rfl,S,n,hk⟩
  ·obtain⟨f,_,d,_⟩:=I.list hq;refine⟨d.isList.typeIs,fun a e=>?_⟩;cases e;obtain⟨o,n,e,c,hd,_⟩:=d;exact⟨o,e,hd⟩
  ·refine⟨⟨o,I.tQ p o hk,hc⟩,fun a e=>?_⟩;cases e;exact⟨o,I.tQ _ o hk,hd⟩
  ·have z:∃o,s.heap.get? p=some o/\o.ExactDict:=by
    rcases hk with⟨Dm,hk⟩|⟨Dm,hk⟩
    ·obtain⟨_,_,_,_,o,_,_,e,ex,_⟩:=I.hok p _ hk;exact⟨o,e,ex⟩
    ·obtain⟨_,_,_,_,o,_,_,e,ex,_⟩:=I.hok p _ hk;exact⟨o,e,ex⟩
   obtain⟨o,e,ex⟩:=z;refine⟨⟨o,e,ex.1⟩,fun a b=>?_⟩;cases b;exact⟨o,e,ex.2.1⟩
  ·obtain⟨o,_,_,_,e,ex,_⟩:=I.hok p _ hk;refine⟨⟨o,e,ex.1⟩,fun a b=>?_⟩;cases b;exact⟨o,e,ex.2.1⟩
 |_=>exact EE ty
def bK (K:Cc)(T:String)(r:V->Dj->Hp->VK->Prop)(f:TE)(t:TA):TE:=fun d H Q=>f d H fun x b=>bO K T x b/\t d b fun g e=>r x g e Q
variable {o e:EG}{es:List EG}{to:TE}{t:TA}{name:Str}{Ds Dr:Pos}{T id:String}{r:V->Dj->Hp->VK->Prop}
theorem kX (D:PlainAttrs T)(slot:Slot T name id)(f:typeOf (.builtin id)=LC (.type "method_descriptor"))(hm:RA X id r)(B:PE X o to)(ha:PA X (e::es) t)
  (p:Lz o name X.env (E3 o X.env)=E3 o X.env:=by rfl)
  (b:((Lb Dr<|Ew (e::es) X.env).all (fun x=>!x.1)&&(Mn Dr<|LH [] X.env).all (fun x=>x.1.isSome) && decide ((e::es).length+([]:List Keyword).length+(if([]:List Keyword).isEmpty then 0 else 1)<30))=true:=by rfl)
  (q:(Ds.endLine==Dr.line)=true:=by rfl) (C:Ew (e::es) X.env=(false,E3 e X.env)::Ew es X.env:=by rfl) (n:(Lb Dr<|Ew es X.env).any (·.1)=false:=by rfl) :
  PE X (.Call (.Attribute o name Ds) (e::es) [] Dr) (bK X.K T r to t):=by
 intro d s g H Q I h;refine wpAny_Call_method_late p b q rfl<|Ch (B d s g H _ I h) fun v J ⟨x,u,i,l,ty,E⟩=>?_;obtain⟨z,A⟩:=Wy i l ty;refine⟨T,id,D,slot,f,z,A,?_⟩;have j:=ha Dr d J g u _ i E;rw[C]at j ⊢;refine E4 (by show(false||(Lb Dr<|Ew es X.env).any (·.1))=false;rw[n]<;>rfl) (Lo ?_);exact Ch j fun M L ⟨N,w,y,G,F⟩=>hm d L g w x N v M Q y l G F
end
def MtM (X:Cx)(id:String)(r:V->Dj->Hp->VK->Prop):Prop :=
 ∀(b:De) (s:Em) (f:St) (H:Hp) (x:V) (e:Dj) (v:Eh) (d:Db) (Q:VK),Inv X b f H s->yt x v->yu e d->r x e H Q ->
  El (Es X.prog X.w) X.A (call (.builtin id) (v::d)) (EP X b f Q) X.xe s
theorem yu.one:∀{x:V} {us:Db},yu [x] us->∃u,us=[u]/\yt x u
 |_,_,.cons r .nil=>⟨_,rfl,r⟩
section
variable {X:Cx}{Dp:De}{σ:St}{H:Hp}{s:Em}{l b:Ei}{xs ys zs:Dj}
theorem Inv.jb {b Ec:Db}{n:Nat}{f:Array Eh->Array Eh}{t':Nat}(I:Inv X Dp σ H s)(d:H l=some (.lst xs))
  (e:s.heap.get? l=some { cls:=.type "list",data:=.seq b.toArray n }) (g:f b.toArray=Ec.toArray) (j:yu ys Ec) (hz:ys.length<=sizeLine) :
  Inv X Dp σ (upd H l<|.lst ys) { s with heap:=s.heap.update l<|Lc f,toks:=t' }:=by
 have q:=PySem.IsL.update e f;rw[g]at q;refine I.write (x:=l) (e:=l) (by rw[d];exact trivial) (.inl rfl) (fun o u hb i=>(Ye s.heap (Lc f)<|Ey hb).trans i) ⟨_,q⟩ ?_;exact⟨hz,Ec,_,j,q⟩
theorem Inv.mq {t':Nat}(I:Inv X Dp σ H s)(b:yu ys its)(hz:ys.length<=sizeLine) :
  Inv X Dp σ (upd H s.heap.objs.size<|.lst ys) { s with heap:=s.heap.push { cls:=.type "list",data:=.seq its.toArray },toks:=t' } :=
 I.laid (fun _ _ q=>Zc _ q) (Zg _) ⟨hz,its,0,b,Zq _ rfl⟩
theorem Inv.fresh (I:Inv X Dp σ H s):H s.heap.objs.size=none:=I.hok.fresh<|Zg _
theorem Inv.lH (I:Inv X Dp σ H s)(b:H l=some (.lst xs)):xs.length<=sizeLine/\∃(its:Db) (n:Nat),yu xs its/\xs.length=its.length/\s.heap.get? l=some { cls:=.type "list",data:=.seq its.toArray n }:=by
 obtain⟨z,its,n,r,e⟩:=I.hok l _ b;exact⟨z,its,n,r,r.length,e⟩
end
section
variable {X:Cx}
inductive nQ (x:V)(vs:Dj)(H:Hp)(Q:VK):Prop
 |mk (l:Ei) (xs:Dj) (y:V) (e:x=.ref l) (f:vs=[y]) (h:H l=some (.lst xs)) (z:xs.length<sizeLine) (q:Q .non<|upd H l<|.lst<|xs++[y]):nQ x vs H Q
theorem Xn:MtM X "list.append" nQ:=by
 intro j s A H x t v p Q I i g h;obtain⟨l,w,y,rfl,rfl,d,o,q⟩:=h;cases i;obtain⟨u,rfl,f⟩:=g.one;obtain⟨z,b,n,r,hl,e⟩:=I.lH d;refine Vh F.slot_list_append ⟨_,e,rfl⟩ F.entry_list_append (F.args_list_append_2 _ _) (PySem.list_append l b.toArray n u (by rw[ZD];lia)) ⟨e,?_⟩;refine⟨.non,_,I.jb (Ec:=b++[u]) d e (by simp) (r.append<|.cons f .nil) ?_,rfl,q⟩;rw[Zp,YJ];lia
def br:R2:=fun x y H Q=>∃l b d e,x=.ref l/\y=.ref b/\H l=some (.lst d)/\H b=some (.lst e)/\d.length+e.length<=sizeLine/\∀p,H p=none->Q (.ref p) (upd H p<|.lst<|d++e)
theorem Kt:Cz X (MA .Add) br:=by
 intro B s G H x y v u Q I w A h;obtain⟨l,b,D,F,rfl,rfl,o,j,C,q⟩:=h;cases w;cases A;obtain⟨z,f,n,r,hl,e⟩:=I.lH o;obtain⟨E,d,n2,t,p,g⟩:=I.lH j;refine PySem.P.add_list e g ?_ (by rw[ZD,ZD];lia);have i:f.toArray++d.toArray=(f++d).toArray:=by simp
 rw[i];exact⟨.ref _,_,I.mq (t':=s.toks) (r.append t) (by rw[Zp];lia),rfl,q _ I.fresh⟩
end
section
variable {prog:Ej}{w:Ep}{A:ED}{E:Eh->Dh}{s:Em}
set_option maxRecDepth 100000 in
end
section
variable {κ:Type} [DecidableEq κ]
def Uu (Dm:List<|κ×V)(k:κ):Option V:=(Dm.find? fun kv=>decide (kv.1=k)).map (·.2)
def ye (Dm:List<|κ×V)(k:κ)(v:V):List (κ×V) :=
 if(Dm.any fun kv=>decide (kv.1=k))=true then Dm.map (fun kv=>if kv.1=k then(kv.1,v) else kv) else Dm++[(k,v)]
def GI (Dm:List<|κ×V)(k:κ):List (κ×V):=Dm.filter fun kv=>decide (kv.1≠k)
theorem xK {p:κ×V}{r:List (κ×V)}{k:κ}(e:p.1=k):Uu (p::r) k=some p.2:=by simp[Uu,YY,e]
theorem xE {p:κ×V}{r:List (κ×V)}{k:κ}(e:¬p.1=k):Uu (p::r) k=Uu r k:=by simp[Uu,YY,e]
theorem qS (k:κ):∀Dm:List<|κ×V,(Dm.any fun kv=>decide (kv.1=k))=(Uu Dm k).isSome
 |[]=>rfl
 |p::r=>by
  rw[List.any_cons]
  by_cases e:p.1=k
  ·simp only[xK e,Ze e,Bool.true_or,Option.isSome_some]
  ·rw[xE e,Zn e,VI];exact qS k r
theorem HI (k j:κ)(y:V):∀Dm:List<|κ×V,Uu (Dm.map fun kv=>if kv.1=k then(kv.1,y) else kv) j=(Uu Dm j).map fun x=>if j=k then y else x
 |[]=>rfl
 |p::r=>by
  have b:=HI k j y r;rw[ZE]
  by_cases h:p.1=k
  ·rw[Zy h]
   by_cases e:p.1=j
   ·rw[xK (p:=(p.1,y)) e,xK e,YA,Zy<|e.symm.trans h]
   ·rw[xE (p:=(p.1,y)) e,xE e,b]
  ·rw[Zr h]
   by_cases e:p.1=j
   ·rw[xK (p:=p) e,xK e,YA,Zr<|fun z=>h<|e.trans z]
   ·rw[xE (p:=p) e,xE e,b]
theorem Bc (k j:κ)(y:V):∀Dm:List<|κ×V,Uu Dm k=none->Uu (Dm++[(k,y)]) j=if j=k then some y else Uu Dm j
 |[],_=>by
  by_cases e:k=j
  ·rw[Zy e.symm];exact xK (p:=(k,y)) e
  ·rw[Zr<|fun z=>e z.symm];exact xE (p:=(k,y)) e
 |p::r,hn=>by
  rw[VD];have hk:¬p.1=k:=fun z=>by rw[xK z]at hn;cases hn
  rw[xE hk]at hn;have b:=Bc k j y r hn
  by_cases e:p.1=j
  ·rw[xK e,xK e,Zr<|fun z=>hk<|e.trans z]
  ·rw[xE e,xE e,b]
theorem Rv (Dm:List<|κ×V)(k j:κ)(y:V):Uu (ye Dm k y) j=if j=k then some y else Uu Dm j:=by
 unfold ye
 by_cases a:(Dm.any fun kv=>decide (kv.1=k))=true
 ·rw[Zy a,HI];rw[qS]at a
  by_cases e:j=k
  ·obtain⟨x,b⟩:=Y5.mp a;rw[Zy e,e,b,YA,Zy rfl]
  ·rw[Zr e];cases Uu Dm j with
   |none=>rfl
   |some x=>rw[YA,Zr e]
 ·rw[Zr a];refine Bc k j y Dm ?_;rw[qS]at a;cases q:Uu Dm k with
  |none=>rfl
  |some x=>rw[q]at a;exact(a rfl).elim
theorem xW (Dm:List<|κ×V)(k:κ)(v:V):(ye Dm k v).length<=Dm.length+1:=by
 unfold ye
 split
 ·rw[Za];lia
 ·rw[Zp,Zj,Ym];lia
theorem vM {Dm:List (κ×V)}{k:κ}(v:V)(h:Uu Dm k=none):ye Dm k v=Dm++[(k,v)]:=by
 unfold ye;rw[qS,h];exact Zr (by decide)
theorem uw.rZ (r:uw o u):o.isSome=u.isSome:=by
 cases o with
 |none=>cases u with
  |none=>rfl
  |some _=>exact(show False from r).elim
 |some _=>cases u with
  |none=>exact(show False from r).elim
  |some _=>rfl
theorem uw.getD (r:uw o u)(rd:yt d d'):yt (o.getD d) (u.getD d'):=by
 cases o with
 |none=>cases u with
  |none=>exact rd
  |some _=>exact(show False from r).elim
 |some _=>cases u with
  |none=>exact(show False from r).elim
  |some _=>exact r
theorem KV.val {Dm:List (κ×V)}{vs:List (κ×Eh)}(r:KV Dm vs)(k:κ):uw (Uu Dm k) (ME vs k):=by
 unfold KV at r
 induction r with
 |nil=>exact E9
 | @cons p q ps qs h t ih =>
  obtain⟨f,g⟩:=h
  by_cases e:p.1=k
  ·have d:q.1=k:=f.symm.trans e;have b:ME (q::qs) k=some q.2:=by simp[ME,YY,d]
   rwa[xK e,b]
  ·have d:¬q.1=k:=fun z=>e<|f.trans z;have b:ME (q::qs) k=ME qs k:=by simp[ME,YY,d]
   rwa[xE e,b]
theorem KV.any {Dm:List (κ×V)}{vs:List (κ×Eh)}(r:KV Dm vs)(k:κ):(Dm.any fun kv=>decide (kv.1=k))=vs.any fun kv=>decide (kv.1=k):=by
 unfold KV at r
 induction r with
 |nil=>rfl
 |cons h t ih=>rw[List.any_cons,List.any_cons,ih,h.1]
theorem KV.repl {Dm:List (κ×V)}{vs:List (κ×Eh)}(r:KV Dm vs)(k:κ){y:V}{u:Eh}(f:yt y u) :
  KV (Dm.map fun kv=>if kv.1=k then(kv.1,y) else kv) (vs.map fun kv=>if kv.1=k then(kv.1,u) else kv):=by
 unfold KV at r ⊢
 induction r with
 |nil=>exact .nil
 | @cons p q ps qs h t ih =>
  rw[ZE,ZE];refine .cons ?_ ih;obtain⟨b,d⟩:=h
  by_cases e:p.1=k
  ·rw[Zy e,Zy<|b.symm.trans e];exact⟨b,f⟩
  ·rw[Zr e,Zr<|fun z=>e<|b.trans z];exact⟨b,d⟩
theorem KV.put {Dm:List (κ×V)}{vs:List (κ×Eh)}(r:KV Dm vs)(k:κ){y:V}{u:Eh}(b:yt y u):KV (ye Dm k y) (stored vs k u):=by
 unfold ye stored;rw[r.any k]
 by_cases e:(vs.any fun kv=>decide (kv.1=k))=true
 ·rw[Zy e,Zy e];exact r.repl k b
 ·rw[Zr e,Zr e];exact Paired.snoc r ⟨rfl,b⟩
theorem KV.drop {Dm:List (κ×V)}{vs:List (κ×Eh)}(r:KV Dm vs)(k:κ):KV (GI Dm k) (without vs k):=by
 unfold KV at r ⊢;unfold GI without
 induction r with
 |nil=>exact .nil
 | @cons p q ps qs h t ih =>
  obtain⟨d,g⟩:=h;rw[V9,V9]
  by_cases e:p.1=k
  ·have a:¬decide (p.1≠k)=true:=by simp[e]
   have b:¬decide (q.1≠k)=true:=by simp[d.symm.trans e]
   rwa[Zr a,Zr b]
  ·have f:¬q.1=k:=fun z=>e<|d.trans z;have a:decide (p.1≠k)=true:=by simp[e]
   have b:decide (q.1≠k)=true:=by simp[f]
   rw[Zy a,Zy b];exact .cons ⟨d,g⟩ ih
theorem KV.length {Dm:List (κ×V)}{vs:List (κ×Eh)}(r:KV Dm vs):Dm.length=vs.length:=Paired.length r
theorem OO (Dm:List<|κ×V)(k:κ):(GI Dm k).length<=Dm.length:=List.length_filter_le _ _
end
theorem Xa (r:yt (kV k) u):(zf P w).is k u=true:=by
 cases k with
 |inl i=>obtain⟨t,e⟩:=(show∃t,u=Mu i t from r);subst e;exact FT P w i t
 |inr x=>obtain⟨t,e⟩:=(show∃t,u=L9 x t from r);subst e;exact FU P w x t
theorem Bz:∀{ks:List Key} {us:Db},yu (ks.map kV) us->ItemsAre (zf P w) ks us
 |[],_,r=>by rw[Vm]at r;cases r;exact .nil
 |k::ks,_,r=>by
  rw[ZE]at r;cases r with
  |cons h t=>exact .cons (Xa h)<|Bz t
abbrev KT (H:Hp):List (List Key×V)->List (List Key×Ei×Eh)->Prop:=Ln fun p q=>p.1=q.1/\H q.2.1=some (.tup<|p.1.map kV)/\yt p.2 q.2.2
theorem KT.val (r:KT H Dm xs)(k:List Key):uw (Uu Dm k) ((atKey xs k).map (·.2)):=by
 induction r with
 |nil=>exact E9
 | @cons p q ps qs h t ih =>
  obtain⟨f,_,g⟩:=h
  by_cases e:p.1=k
  ·have d:q.1=k:=f.symm.trans e;have b:atKey (q::qs) k=some q.2:=by simp[atKey,YY,d]
   rwa[xK e,b]
  ·have d:¬q.1=k:=fun z=>e<|f.trans z;have b:atKey (q::qs) k=atKey qs k:=by simp[atKey,YY,d]
   rwa[xE e,b]
theorem KT.repl (r:KT H Dm xs)(k:List Key){y:V}{u:Eh}(g:yt y u) :
  KT H (Dm.map fun kv=>if kv.1=k then(kv.1,y) else kv) (xs.map<|putAt k u):=by
 induction r with
 |nil=>exact .nil
 | @cons p q ps qs h t ih =>
  rw[ZE,ZE];refine .cons ?_ ih;obtain⟨b,d,f⟩:=h;unfold putAt
  by_cases e:p.1=k
  ·rw[Zy e,Zy<|b.symm.trans e];exact⟨b,d,g⟩
  ·rw[Zr e,Zr<|fun z=>e<|b.trans z];exact⟨b,d,f⟩
theorem KT.put (r:KT H Dm xs)(k:List Key){b:Ei}{y:V}{u:Eh}(hb:H b=some (.tup<|k.map kV))(d:yt y u) :
  KT H (ye Dm k y) (storedH xs k b u):=by
 have e:(Dm.any fun kv=>decide (kv.1=k))=(atKey xs k).isSome:=by
  rw[qS,(r.val k).rZ,Option.isSome_map]
 unfold ye storedH;rw[e]
 by_cases q:(atKey xs k).isSome=true
 ·rw[Zy q,Zy q];exact r.repl k d
 ·rw[Zr q,Zr q];exact Paired.snoc r ⟨rfl,hb,d⟩
theorem KT.keeps {H':Hp}(r:KT H Dm xs)(d:∀b ys,H b=some (.tup ys)->H' b=some (.tup ys)):KT H' Dm xs :=
 Paired.lE r fun _ _ z=>⟨z.1,d _ _ z.2.1,z.2.2⟩
section
variable {P:Ej}{w:Ep}{H:Hp}{h:EB}{a:Ei}
theorem S8 (ok:tG P w H h)(e:Rd H a u):yj P w H h a u:=e.ok ok
theorem vU {Dm:Dl}(ok:tG P w H h)(e:Rd H a<|.dK Dm):Dm.length<=sizeLine/\(a==ER)=false/\∃vs,KV Dm vs/\h.DictOf (zf P w) a vs :=
 show yj P w H h a (.dK Dm) from S8 ok e
theorem K9 {Dm:Dl}(ok:tG P w H h)(e:H a=some (.dK Dm)):Dm.length<=sizeLine/\(a==ER)=false/\∃vs,KV Dm vs/\h.DictOf (zf P w) a vs:=vU ok<|.inl e
theorem XF {ks:List Key}(ok:tG P w H h)(e:H a=some (.tup<|ks.map kV)):(Mv<|zf P w).is h ks a:=by
 obtain⟨_,b,r,o,d,f,n,g,_⟩:=(show yj P w H h a (.tup<|ks.map kV) from ok a _ e);exact⟨o,b.toArray,n,d,f,g,by simpa using Bz r⟩
theorem Iw {Dm:List (List Key×V)}(ok:tG P w H h)(e:Rd H a<|.dT Dm):Dm.length<=sizeLine/\(a==ER)=false /\
  ∃xs,KT H Dm xs/\h.DictOfH (Mv<|zf P w) a xs:=by
 obtain⟨z,y,xs,r,o,f,d,g,i,j,n,s⟩:=(show yj P w H h a (.dT Dm) from S8 ok e);refine⟨z,y,xs,r,o,f,d,g,i,j,n,fun x b=>?_,s⟩;have all:∀{l:List (List Key×V)} {m:List (List Key×Ei×Eh)},KT H l m->∀x∈m,(Mv<|zf P w).is h x.1 x.2.1:=by
  intro l m q
  induction q with
  |nil=>intro x b;exact nomatch b
  | @cons p q ps qs hq t ih =>
   intro x b
   rcases Zm.mp b with e|b
   ·subst e;exact XF ok (by rw[←hq.1];exact hq.2.1)
   ·exact ih x b
 exact all r x b
theorem WU {Dm:List (List Key×V)}(ok:tG P w H h)(e:H a=some (.dT Dm)):Dm.length<=sizeLine/\(a==ER)=false /\
  ∃xs,KT H Dm xs/\h.DictOfH (Mv<|zf P w) a xs:=Iw ok<|.inl e
end
def vg (H:Hp)(a:Ei)(y:V)(r:Option V):Prop :=
 (∃d k,Rd H a (.dK d)/\y=kV k/\r=Uu d k)\/∃d k b,Rd H a (.dT d)/\y=.ref b/\H b=some (.tup<|k.map kV)/\r=Uu d k
def sY (H:Hp)(a:Ei)(y v:V)(H':Hp):Prop :=
 (∃d k,H a=some (.dK d)/\y=kV k/\d.length<sizeLine/\H'=upd H a (.dK<|ye d k v)) \/
 ∃d k b,H a=some (.dT d)/\y=.ref b/\H b=some (.tup<|k.map kV)/\d.length<sizeLine/\H'=upd H a (.dT<|ye d k v)
theorem vg.k {H:Hp}{a:Ei}{Dm:Dl}{k:Key}(e:H a=some (.dK Dm)):vg H a (kV k) (Uu Dm k):=.inl ⟨Dm,k,.inl e,rfl,rfl⟩
theorem sY.k {H:Hp}{a:Ei}{Dm:Dl}{k:Key}(e:H a=some (.dK Dm))(hl:Dm.length<sizeLine):sY H a (kV k) v (upd H a<|.dK<|ye Dm k v):=.inl ⟨Dm,k,e,rfl,hl,rfl⟩
section
variable {X:Cx}{Dp:De}{σ:St}{H:Hp}{s:Em}{a:Ei}{y v:V}{u r:Eh}{o:Option V}{A:ED}{E:Eh->Dh}
theorem Inv.big (I:Inv X Dp σ H s):ER<s.heap.objs.size:=by
 have h:Et<s.heap.objs.size:=(I.mod.glob.keeps I.bk).lt;exact Ug (by decide) h
theorem NI {Q:Eh->Dh}(t:A.units+1<Lj)(I:Inv X Dp σ H s)(g:vg H a y<|some v)(q:yt y u)(h:∀w' s',Inv X Dp σ H s'->yt v w'->Q w' s') :
  El (Es X.prog X.w) A (Mt (.ref a) u) Q E s:=by
 rcases g with⟨Dm,k,e,ey,l⟩|⟨Dm,k,b,e,ey,eb,l⟩
 ·subst ey;obtain⟨z,hd,x,d,i⟩:=vU I.hok e;obtain⟨w',n,f⟩:=uw.some_of (v:=v) (o:=ME x k) (by rw[l];exact d.val k);exact wpAny_getItem_of (Xa q) i.mapOf n<|h w' _ (I.tok _) f
 ·subst ey;cases(show u=Eu b from q);obtain⟨z,hd,B,d,i⟩:=Iw I.hok e;obtain⟨w',n,f⟩:=uw.some_of (v:=v) (o:=(atKey B k).map (·.2)) (by rw[l];exact d.val k);obtain⟨p,r,j⟩:=ZS.mp n;refine wpAny_getItem_heap (JH t) (XF I.hok eb) i r ?_;rw[j];exact h w' _ (I.tok _) f
theorem bc {Q:Eh->Dh}(j:A.units+1<Lj)(I:Inv X Dp σ H s)(g:vg H a y o)(i:yt y u)(h:∀s',Inv X Dp σ H s'->Q (.bool o.isSome) s') :
  El (Es X.prog X.w) A (EY .In u<|.ref a) Q E s:=by
 rcases g with⟨Dm,k,e,ey,l⟩|⟨Dm,k,b,e,ey,eb,l⟩
 ·subst ey;obtain⟨z,hd,n,d,f⟩:=vU I.hok e;refine wpAny_in_of (Xa i) hd f.mapOf ?_;rw[←(d.val k).rZ,←l];exact h _<|I.tok _
 ·subst ey;cases(show u=Eu b from i);obtain⟨z,hd,p,d,f⟩:=Iw I.hok e;refine wpAny_in_heap (JH j) (XF I.hok eb) hd f ?_;have q:=(d.val k).rZ;rw[Option.isSome_map]at q;rw[←q,←l];exact h _<|I.tok _
theorem uV {h':EB}{t':Nat}(I:Inv X Dp σ H s)(g:Tl<|H a)(f:Ll a s.heap h')(d:∃q,h'.get? a=some q)(new:yj X.prog X.w (upd H a ob) h' a ob) :
  Inv X Dp σ (upd H a ob) { s with heap:=h',toks:=t' } :=
 I.write (x:=a) (e:=a) g (.inl rfl) (fun b q hb z=>(f.2 b hb).trans z) d new
theorem XG {H':Hp}{h':EB}{Dm:Dl}(z:Dm.length<=sizeLine)(hd:(a==ER)=false)(b:KV Dm vs)(dd:h'.DictOf (zf P w) a vs) :
  yj P w H' h' a (.dK Dm):=⟨z,hd,vs,b,dd⟩
theorem NJ {Q:Unit->Dh}(M:A.units+1<Lj)(I:Inv X Dp σ H s)(g:sY H a y v H')(x:yt y u)(t:yt v r)(h:∀s',Inv X Dp σ H' s'->Q () s') :
  El (Es X.prog X.w) A (setItem (.ref a) u r) Q E s:=by
 rcases g with⟨Dm,k,e,ey,l,eH⟩|⟨Dm,k,b,e,ey,eb,l,eH⟩
 ·subst ey eH;obtain⟨z,hd,N,d,j⟩:=K9 I.hok e;have o:N.length<=sizeLine:=by rwa[←d.length]
  have hl:(ye Dm k v).length<=sizeLine:=by have:=xW Dm k v;lia
  refine wpAny_setItem_pairs (hsz:=o) (Xa x) j fun p f n=>h _ ?_;have L:∃q,p.get? a=some q:=let ⟨q,_,_,i,_⟩:=f;⟨q,i⟩;exact uV I (by rw[e];exact E9) n L<|XG hl hd (d.put k t) f
 ·subst ey eH;cases(show u=Eu b from x);obtain⟨z,hd,O,d,j⟩:=WU I.hok e;have o:O.length<=sizeLine:=by rwa[←Paired.length d]
  have hl:(ye Dm k v).length<=sizeLine:=by have:=xW Dm k v;lia
  refine wpAny_setItem_heap (hsz:=o) (JH M) (XF I.hok eb) j fun p f n=>h _ ?_;obtain⟨q,D,C,i,F,G,J,_,K⟩:=f;refine uV I (by rw[e];exact E9) n ⟨q,i⟩ ⟨hl,hd,_,(d.put k eb t).keeps fun c P B=>?_,q,D,C,i,F,G,J,K⟩;rwa[zI<|aa B e<|fun z=>nomatch z]
end
section
variable {X:Cx}{Dp:De}{σ:St}{H:Hp}{s:Em}{a:Ei}{Dm:Dl}{k:Key}{u:Eh}{A:ED}{E:Eh->Dh}
theorem WS {v:V}{more:Db}{Q:Eh->Dh}(I:Inv X Dp σ H s)(e:H a=some (.dK Dm))(g:yt (kV k) u)(l:Uu Dm k=some v)(hm:more=[]\/∃x,more=[x])
  (h:∀w' s',Inv X Dp σ (upd H a<|.dK<|GI Dm k) s'->yt v w'->Q w' s'):El (Es X.prog X.w) A (call (.builtin "dict.pop") (.ref a::u::more)) Q E s:=by
 obtain⟨z,hd,n,b,j⟩:=K9 I.hok e;obtain⟨w',C,f⟩:=uw.some_of (v:=v) (o:=ME n k) (by rw[←l];exact b.val k);have y:(keyPart u).isSome=true:=by
  cases k with
  |inl i=>obtain⟨t,q⟩:=(show∃t,u=Mu i t from g);subst q;rfl
  |inr x=>obtain⟨t,q⟩:=(show∃t,u=L9 x t from g);subst q;rfl
 have ha:argsOk "dict.pop" ⟨.ref a::u::more,[]⟩:=by
  rcases hm with q|⟨x,q⟩
  ·subst q;exact PySem.F.args_dict_pop_2 _ _
  ·subst q;exact PySem.F.args_dict_pop_3 _ _ _
 refine JI PySem.F.slot_dict_pop j.typeIs PySem.F.entry_dict_pop ha (meets_dict_pop_there (zf X.prog X.w) a (Xa g) more hm y)
  ⟨n,w',j,by rw[←b.length];exact z,C,fun p d B=>h w' _ ?_ f⟩
 have r:∃q,p.get? a=some q:=let ⟨q,_,_,hq,_⟩:=d;⟨q,hq⟩;exact uV I (by rw[e];exact E9) B r<|XG (ZR (OO Dm k) z) hd (b.drop k) d
theorem WR {Q:Eh->Dh}(I:Inv X Dp σ H s)(e:Rd H a<|.dK Dm)(h:∀t s',Inv X Dp σ H s'->Q (.int Dm.length t) s'):El (Es X.prog X.w) A (call (.builtin "len") [.ref a]) Q E s:=by
 obtain⟨z,hd,f,b,d⟩:=vU I.hok e;refine call_len_dict hd d (by rw[←b.length];rw[Yp]at z;lia) ?_;rw[←b.length];exact h _ _<|I.tok _
end
def RD (i:EG):Prop:=∀d b,subscripted i false d b=operate [d,b] (Mt d b)
theorem BS {prog:Ej}{w:Ep}{A:ED}{E:Eh->Dh}{s:Em}{env:Env}{value b:EG}{pos:Pos}{T id:String}{Q:Eh->Dh}
  (hl:typeLookup (.type T) "__getitem__"=LC (some<|.builtin id)) (n:RD b)
  (h:El (Es prog w) A (E3 value env) (fun o s₁=>El (Es prog w) A (E3 b env) (fun i s₂=>s₂.TypeIs o T/\El (Es prog w) A (Mt o i) Q E s₂) E s₁) E s) :
  El (Es prog w) A (E3 (.Subscript value b pos) env) Q E s:=by
 refine Subscript_<|Yr h (fun o s₁ g=>Yr g (fun i s₂ d=>?_) fun _ _ x=>x) fun _ _ x=>x;obtain⟨l,d⟩:=d;unfold subscriptTail;refine Q9 ?_;rw[getitemInPython_of_ne l.not_modules];refine Q9<|JP l hl ?_;have f:El (Es prog w) A (subscripted b false o i) (fun r e=>El (Es prog w) A (letTemporaryGo value o r>>=fun _=>LC r) Q E e) E s₂:=by
  rw[n o i];exact wpAny_operating<|Yr d (fun r e j=>Q9<|wpAny_letTemporaryGo<|Zh j) fun _ _ x=>x
 first
  |exact Zh (Q9 f)
  |exact Q9 (Zh<|Q9 f)
  |exact Q9 f
theorem Fr (I:Inv X Dp σ H s)(g:vg H a y o):s.TypeIs (.ref a) "dict":=by
 rcases g with⟨Dm,k,e,_,_⟩|⟨Dm,k,b,e,_,_,_⟩
 ·obtain⟨_,_,f,_,d⟩:=vU I.hok e;exact d.typeIs
 ·obtain⟨_,_,i,_,d⟩:=Iw I.hok e;exact d.typeIs
def Tb (f ty:TE):TE:=fun d H Q=>f d H fun x e=>ty d e fun y b=>∃a v,x=.ref a/\vg b a y (some v)/\Q v b
def Rh (i ty j:TE):TS:=fun D b H=>j b H fun v e=>i b e fun x f=>ty b f fun y g=>∃a d,x=.ref a/\sY g a y v d/\D.nx b d
section
variable {X:Cx}{o i e value:EG}{pos DN Eb:Pos}{td ty tv:TE}
theorem Im (w:X.A.units+1<Lj)(r:PE X o td)(q:PE X i ty)(t:RD i):PE X (.Subscript o i pos) (Tb td ty):=by
 intro d s f H Q I h;refine BS PySem.F.slot_dict_getitem.lookup t<|Ch (r d s f H _ I h) fun u E ⟨x,j,n,C,z⟩=>Ch (q d E f j _ n z) fun G J ⟨y,l,e,D,a,v,ex,g,B⟩=>?_;subst ex;obtain rfl:u=Eu a:=C;exact⟨Fr e g,NI w e g D fun L K p b=>⟨v,l,p,b,B⟩⟩
theorem qO (B:X.A.units+1<Lj)(w:PE X o td)(t:PE X i ty)(C:PE X value tv)(z:Mw value (some<|.Subscript o i DN) pos.line X.env=LC false) :
  PS X (.Assign [.Subscript o i DN] value pos) (Rh td ty tv):=by
 intro d s b H D I h;refine wpAny_Assign_Subscript (Ch (C d s b H _ I h) fun r M ⟨v,e,l,J,E⟩=>Ch (w d M b e _ l E) fun u N ⟨x,f,n,K,F⟩=>Ch (t d N b f _ n F) fun P Q ⟨y,O,p,L,a,j,ex,g,G⟩=>?_) z;subst ex;obtain rfl:u=Eu a:=K;exact NJ B p g L J fun R q=>⟨b,j,q,G⟩
end
theorem Fs (h:EB)(hb:ER<h.objs.size):yj P w H (h.push { cls:=.type "dict",data:=.dict #[] }) h.objs.size (.dK []) :=
 ⟨ZN _,YD.mpr<|Ey<|Zz hb,[],.nil,Heap.DictOf.new h⟩
def Wo:TE:=fun _ H Q=>∀p,H p=none->Q (.ref p) (upd H p<|.dK [])
section
variable {X:Cx}{pos:Pos}
theorem xY:PE X (.Dict [] [] pos) Wo:=fun b s d H Q I h =>
 wpAny_Dict_empty ⟨.ref s.heap.objs.size,_,I.laid (a:=s.heap.objs.size) (o:=.dK []) (t':=s.toks) (fun _ _ q=>Zc _ q) (Zg _)<|Fs s.heap I.big,rfl,h _<|I.hok.fresh<|Zg _⟩
end
def KQ:List (TE×TE)->St->Hp->(List (V×V)->Hp->Prop)->Prop
 |[],_,H,Q=>Q [] H
 |(tk,tv)::r,σ,H,Q=>tk σ H fun x b=>tv σ b fun y d=>KQ r σ d fun f e=>Q ((x,y)::f) e
abbrev VV:List (V×V)->List (Eh×Eh)->Prop:=Ln fun p q=>yt p.1 q.1/\yt p.2 q.2
def aS (X:Cx)(pos:Pos)(keys:List<|Option EG)(b:List EG)(d:List<|TE×TE):Prop :=
 ∀(f:De) (s:Em) (e:St) (H:Hp) (Q:List (V×V)->Hp->Prop),Inv X f e H s->KQ d e H Q ->
  El (Es X.prog X.w) X.A (evalPairs<|pairTrees keys b X.env pos) (fun l j=>∃i g,Inv X f e g j/\VV i l/\Q i g) X.xe s
theorem qW:aS X pos [] [] []:=fun b s d H Q I h=>pairTrees_nil_walk ⟨[],H,I,.nil,h⟩
theorem xO (hk:PE X k tk)(p:PE X v tv)(o:aS X pos ks vs trs) :
  aS X pos (some k::ks) (v::vs) ((tk,tv)::trs):=fun b s e H Q I h =>
 pairTrees_cons_walk (Ch (hk b s e H _ I h) fun u B ⟨x,f,j,z,r⟩=>Ch (p b B e f _ j r) fun E C ⟨y,g,l,A,t⟩ => Ch (o b C e g _ l t) fun F D ⟨q,i,n,d,w⟩=>⟨(x,y)::q,i,n,.cons ⟨z,A⟩ d,w⟩)
def XI (Dm more:Dl):Dl:=more.foldl (fun b kv=>ye b kv.1 kv.2) Dm
theorem KV.merge:∀{more:Dl} {rs:List (Key×Eh)} {Dm:Dl} {vs:List (Key×Eh)},KV more rs->KV Dm vs->KV (XI Dm more) (merged vs rs):=by
 intro more rs Dm vs r;unfold KV at r
 induction r generalizing Dm vs with
 |nil=>intro q;exact q
 | @cons p q ps qs h t ih =>
  intro b;have e:KV (ye Dm p.1 p.2) (stored vs q.1 q.2):=by
   have:=b.put p.1 h.2;rwa[←h.1]
  exact ih e
theorem k8:∀(more Dm:Dl),(XI Dm more).length<=Dm.length+more.length
 |[],Dm=>by show Dm.length<=Dm.length+0;lia
 |p::r,Dm=>by
  have b:=k8 r<|ye Dm p.1 p.2;have d:=xW Dm p.1 p.2;show(XI (ye Dm p.1 p.2) r).length<=_;rw[Zj];lia
theorem IX:∀{Dm:Dl} {ws:List (Eh×Eh)},VV (Dm.map fun kv=>(kV kv.1,kv.2)) ws->∃rs,Carries (zf P w) ws rs/\KV Dm rs
 |[],_,r=>by rw[Vm]at r;cases r;exact⟨[],E9,.nil⟩
 |p::Dm,_,r=>by
  rw[ZE]at r;cases r with
  | @cons a b as bs h t =>
   obtain⟨rs,c,q⟩:=IX (P:=P) (w:=w) t;obtain⟨e,d⟩:=b;exact⟨(p.1,d)::rs,⟨Xa h.1,rfl,c⟩,.cons ⟨rfl,h.2⟩ q⟩
def Rs (d:List<|TE×TE):TE:=fun g H Q=>∀p,H p=none->KQ d g (upd H p<|.dK []) fun f e=>e p=some (.dK [])/\∃b:Dl,f=b.map (fun kv=>(kV kv.1,kv.2))/\b.length<=15/\Q (.ref p) (upd e p<|.dK<|XI [] b)
theorem qV (h:aS X pos keys values trs)(d:keys.all (·.isSome)=true)(hl:keys.length=values.length)(t:keys≠[])
  (f:keys.length<=15):PE X (.Dict keys values pos) (Rs trs):=by
 intro l s F H Q I q;have hn:=I.hok.fresh<|Zg s.heap.objs.size;have n:=I.laid (a:=s.heap.objs.size) (o:=.dK []) (h':=s.heap.push { cls:=.type "dict",data:=.dict #[] }) (t':=s.toks) (fun _ _ q=>Zc _ q) (Zg _)<|Fs s.heap I.big;refine wpAny_Dict_walk (knd:=zf X.prog X.w) d hl t f<|Ch (h l _ F _ _ n<|q _ hn) fun M L ⟨K,G,j,g,e,i,r,J,A⟩=>?_;subst r;obtain⟨D,c,C⟩:=IX (P:=X.prog) (w:=X.w) g;obtain⟨z,hd,E,B,p⟩:=K9 j.hok e;cases B;refine⟨D,c,p,fun h' b x=>⟨.ref s.heap.objs.size,_,?_,rfl,A⟩⟩;have y:(XI [] i).length<=sizeLine:=by
  have u:=k8 i [];rw[Ym]at u;rw[Yp];lia
 have v:∃q,h'.get? s.heap.objs.size=some q:=let ⟨q,_,_,hq,_⟩:=b;⟨q,hq⟩;exact uV j (by rw[e];exact E9) x v<|XG y hd (C.merge .nil) b
structure M1 (X:Cx)(o:EG)(m:Str)(Ds:Pos)(e:EG)(Dr:Pos):Prop where
 base:Lz o m X.env (E3 o X.env)=E3 o X.env
 few:((Lb Dr<|Ew [e] X.env).all (fun x=>!x.1)&&(Mn Dr<|LH [] X.env).all (fun x=>x.1.isSome) && decide (([e]:List EG).length+([]:List Keyword).length+(if([]:List Keyword).isEmpty then 0 else 1)<30))=true
 line:(Ds.endLine==Dr.line)=true
 trees:Lb Dr (Ew [e] X.env)=[(false,E3 e X.env)]
structure M2 (X:Cx)(o:EG)(m:Str)(Ds:Pos)(e f:EG)(Dr:Pos):Prop where
 base:Lz o m X.env (E3 o X.env)=E3 o X.env
 few:((Lb Dr<|Ew [e,f] X.env).all (fun x=>!x.1)&&(Mn Dr<|LH [] X.env).all (fun x=>x.1.isSome) && decide (([e,f]:List EG).length+([]:List Keyword).length+(if([]:List Keyword).isEmpty then 0 else 1)<30))=true
 line:(Ds.endLine==Dr.line)=true
 trees:Lb Dr (Ew [e,f] X.env)=[(false,E3 e X.env),(false,E3 f X.env)]
def WM (H:Hp)(a:Ei):Prop:=(∃b,Rd H a<|.dK b)\/∃b,Rd H a<|.dT b
theorem CK (I:Inv X Dp σ H s)(d:WM H a) :
  s.TypeIs (.ref a) "dict"/\(∀b,Eu a=.ref b->∃ob,s.heap.get? b=some ob/\ob.dict=none)/\(a==ER)=false:=by
 rcases d with⟨Dm,e⟩|⟨Dm,e⟩
 ·obtain⟨_,hd,j,_,f⟩:=vU I.hok e;refine⟨f.typeIs,fun b q=>?_,hd⟩;cases q;obtain⟨ob,_,_,g,i,_⟩:=f;exact⟨ob,g,i.2.1⟩
 ·obtain⟨_,hd,l,_,f⟩:=Iw I.hok e;refine⟨f.typeIs,fun b q=>?_,hd⟩;cases q;obtain⟨ob,_,_,g,i,_⟩:=f;exact⟨ob,g,i.2.1⟩
section
variable {X:Cx}{Dp:De}{σ:St}{H:Hp}{s:Em}{a:Ei}{y d:V}{u r:Eh}{o:Option V}{A:ED}{E:Eh->Dh}
theorem Tw {Q:Eh->Dh}(j:A.units+1<Lj)(I:Inv X Dp σ H s)(g:vg H a y o)(i:yt y u)(h:∀w' s',Inv X Dp σ H s'->yt (o.getD .non) w'->Q w' s') :
  El (Es X.prog X.w) A (call (.builtin "dict.get") [.ref a,u]) Q E s:=by
 rcases g with⟨Dm,k,e,ey,l⟩|⟨Dm,k,b,e,ey,eb,l⟩
 ·subst ey;obtain⟨z,hd,p,d,f⟩:=vU I.hok e;refine JI Y0 f.typeIs JJ (PySem.F.args_dict_get_2 _ _) (meets_dict_get (zf X.prog X.w) a (Xa i) hd) ⟨_,f.mapOf,h _ _ (I.tok _) ?_⟩;rw[l];exact(d.val k).getD rfl
 ·subst ey;cases(show u=Eu b from i);obtain⟨z,hd,n,d,f⟩:=Iw I.hok e;refine JI Y0 f.typeIs JJ (PySem.F.args_dict_get_2 _ _) (meetsH_dict_get (Mv<|zf X.prog X.w) a b hd) ⟨JH j,k,n,XF I.hok eb,f,h _ _ (I.tok _) ?_⟩;rw[l];exact(d.val k).getD rfl
theorem Ty {Q:Eh->Dh}(n:A.units+1<Lj)(I:Inv X Dp σ H s)(g:vg H a y o)(j:yt y u)(rd:yt d r)(h:∀w' s',Inv X Dp σ H s'->yt (o.getD d) w'->Q w' s') :
  El (Es X.prog X.w) A (call (.builtin "dict.get") [.ref a,u,r]) Q E s:=by
 rcases g with⟨Dm,k,e,ey,l⟩|⟨Dm,k,b,e,ey,eb,l⟩
 ·subst ey;obtain⟨z,hd,q,f,i⟩:=vU I.hok e;refine JI Y0 i.typeIs JJ (PySem.F.args_dict_get_3 _ _ _) (meets_dict_get_default (zf X.prog X.w) a (Xa j) hd r) ⟨_,i.mapOf,h _ _ (I.tok _) ?_⟩;rw[l];exact(f.val k).getD rd
 ·subst ey;cases(show u=Eu b from j);obtain⟨z,hd,p,f,i⟩:=Iw I.hok e;refine JI Y0 i.typeIs JJ (PySem.F.args_dict_get_3 _ _ _) (meetsH_dict_get_default (Mv<|zf X.prog X.w) a b hd r) ⟨JH n,k,p,XF I.hok eb,i,h _ _ (I.tok _) ?_⟩;rw[l];exact(f.val k).getD rd
end
def Wm (f ty:TE):TE:=fun e H Q=>f e H fun x b=>∃a,x=.ref a/\WM b a/\ty e b fun y d=>∃o,vg d a y o/\Q (o.getD .non) d
def Wn (g ty i:TE):TE:=fun b H Q=>g b H fun x d=>∃a,x=.ref a/\WM d a/\ty b d fun y f=>i b f fun z e=>∃o,vg e a y o/\Q (o.getD z) e
def Wp (g ty:TE):TE:=fun f H Q=>g f H fun x d=>∃a,x=.ref a/\WM d a/\ty f d fun y e=>∃b k v,e a=some (.dK b)/\y=kV k/\Uu b k=some v/\Q v (upd e a<|.dK<|GI b k)
section
variable {X:Cx}{o e f:EG}{Ds Dr:Pos}{td ty tx:TE}
theorem PN (v:X.A.units+1<Lj)(t:PE X o td)(r:PE X e ty)(m:M1 X o "get" Ds e Dr):PE X (.Call (.Attribute o "get" Ds) [e] [] Dr) (Wm td ty):=by
 intro f s j H Q I h;refine Vn m.base m.few m.line JB Y0 PySem.F.type_dict_get<|Ch (t f s j H _ I h) fun u D ⟨x,l,i,B,a,ex,d,w⟩=>?_;subst ex;obtain rfl:u=Eu a:=B;obtain⟨E,G,_⟩:=CK i d;refine⟨E,G,?_⟩;rw[m.trees];refine E4 rfl<|Lo<|Lh<|Ch (r f D j l _ i w) fun J L ⟨y,n,p,C,K,g,z⟩=>Lv ?_;exact Tw v p g C fun N M q b=>⟨_,n,q,b,z⟩
theorem IE (D:X.A.units+1<Lj)(C:PE X o td)(w:PE X e ty)(B:PE X f tx)(m:M2 X o "get" Ds e f Dr):PE X (.Call (.Attribute o "get" Ds) [e,f] [] Dr) (Wn td ty tx):=by
 intro b s j H Q I h;refine Vn m.base m.few m.line JB Y0 PySem.F.type_dict_get<|Ch (C b s j H _ I h) fun u N ⟨x,n,l,K,a,ex,d,E⟩=>?_;subst ex;obtain rfl:u=Eu a:=K;obtain⟨P,R,_⟩:=CK l d;refine⟨P,R,?_⟩;rw[m.trees];refine E4 rfl<|Lo<|Lh<|Ch (w b N j n _ l E) fun T O ⟨y,p,r,L,G⟩ => Lh<|Ch (B b O j p _ r G) fun S Y ⟨z,q,t,M,U,g,J⟩=>Lv ?_
 exact Ty D t g L M fun w' Z v i=>⟨_,q,v,i,J⟩
theorem PQ (w:PE X o td)(t:PE X e ty)(m:M1 X o "pop" Ds e Dr):PE X (.Call (.Attribute o "pop" Ds) [e] [] Dr) (Wp td ty):=by
 intro f s i H Q I h;refine Vn m.base m.few m.line JB PySem.F.slot_dict_pop PySem.F.type_dict_pop<|Ch (w f s i H _ I h) fun u D ⟨x,j,g,B,a,ex,d,z⟩=>?_;subst ex;obtain rfl:u=Eu a:=B;obtain⟨E,G,_⟩:=CK g d;refine⟨E,G,?_⟩;rw[m.trees];refine E4 rfl<|Lo<|Lh<|Ch (t f D i j _ g z) fun L M ⟨y,K,n,C,J,k,v,q,r,l,A⟩=>Lv ?_;subst r;exact WS n q C l (.inl rfl) fun O N p b=>⟨v,_,p,b,A⟩
end
section
variable {X:Cx}{Dp:De}{σ:St}{H:Hp}{s:Em}{a:Ei}{Dm:Dl}{A:ED}{E:Eh->Dh}
theorem OL {Q:Eh->Dh}(I:Inv X Dp σ H s)(e:Rd H a<|.dK Dm)(h:∀p s',H p=none->Inv X Dp σ (upd H p<|.dK Dm) s'->Q (.ref p) s'):El (Es X.prog X.w) A (call (.type "dict") [.ref a]) Q E s:=by
 obtain⟨z,hd,n,d,i⟩:=vU I.hok e;refine kt_call_dict hd i (by rwa[←d.length]) fun l f j=>?_;refine h _ _ (I.hok.fresh<|Zg _)<|I.laid (a:=s.heap.objs.size) (o:=.dK Dm) (t':=s.toks) (fun b q g=>?_) (Zg _)<|XG z (YD.mpr<|Ey<|Zz I.big) d f;exact(j.2 b<|Zz<|Zu g).trans (Zc _ g)
end
end L2
namespace Att
open PySem PySem.W PySem.Calls PyProof.Rows
theorem X5 {P:Params}{h:EB}:∀(ns:List Int) (vs:Db),WellAll P h vs (ns.map WData.int)->IntsAre vs ns:=by
 intro ns
 induction ns with
 |nil =>
  intro vs w;rw[Vm]at w;cases w;exact .nil
 |cons n ns ih =>
  intro vs w;rw[ZE]at w;cases w with
  |cons a b =>
   cases a;exact .cons _ _<|ih _ b
theorem Og {l:OpenLaw}{n:Nat}(hn:l.most=some n){P:Params}{h:EB}{args:List WData}{e:Db}
  (b:l.row.toRowW.claim.pre args=true) (j:WellAll P h e args) :
  ∃a vs ns,e=[Eu a]/\args=[WData.list<|ns.map WData.int]/\h.get? a=some { cls:=.type "list",data:=.seq vs.toArray }/\IntsAre vs ns/\ns.length<=n:=by
 have i:WShape.hasAll [] args [.list .int]=true:=(pre_splitW b).1;have o:l.pre.holds [] { args:=args }=true:=(pre_splitW b).2;obtain⟨d,r,rfl,s,t⟩:=hasAllW_cons i;obtain rfl:=hasAllW_nil t;obtain⟨w,rfl,u⟩:=hasW_list s;obtain⟨ns,rfl⟩:=items_int u;have p:ns.length<=n:=by
  unfold OpenLaw.pre at o;have f:(WTm.not<|.lt (.lit<|.int (n:Int))<|.len<|.arg 0).holds [] { args:=[.list<|ns.map .int] }=true:=by
   have f:=(holds_andW o).1;rw[hn]at f;exact f
  have g:=condW_of f<|w_not<|w_lt w_lit<|w_len_list<|w_arg rfl;rw[Za]at g;refine Nat.le_of_not_lt fun q=>?_;have v:(n:Int)<((ns.length:Nat):Int):=by lia
  first
   |(rw[Ze v]at g;exact absurd g<|by decide)
   |(simp at g;lia)
 cases j with
 |cons w1 w2 =>
  cases w2;cases w1 with
  |list ho hall=>exact⟨_,_,ns,rfl,rfl,ho,X5 ns _ hall,p⟩
theorem Oc (l:OpenLaw)(args:List WData):l.row.toRowW.claim.post args (.bool true) args=true :=
 postW_of (r:=l.row.toRowW) (X:=(true==true))
  (show WShape.has [] (.bool true) .bool=true by first|rfl|decide|simp[WShape.has,WShape.arms,WShape.armsAll])
  (show(WTm.eq .res<|.lit<|.bool true).value [] { args:=args,res:=some<|.bool true,after:=args }=some (.bool<|true==true) from w_eq_bool (w_res rfl) w_lit) rfl
theorem pq {l:OpenLaw}{n:Nat}{q:Ej}{b:Da}{u:(Str->Dc)->EB->Prop}{v:Ep->EB->Prop}{d:DefRec}
  (hn:l.most=some n) (p:d.params.defaults=[])
  (call:∀(w:Ep) (s₀ s₁:Em) (mg mb:Str->Dc) (fa:Ei) (o:Obj) (pm cd doc:Eh) (a:Ei) (vs:Db) (ns:List Int),Ground q b [] u w s₀ mg mb s₁.heap->v w s₁.heap -> s₁.heap.get? fa=some o->o.data=.func (docDef d.name d.params d.body d.scope pm cd doc)->s₁.heap.CodeRec cd d.name->mg d.name=some (.ref fa) -> s₁.heap.get? a=some { cls:=.type "list",data:=.seq vs.toArray }->IntsAre vs ns->ns.length<=n->s₁.gens=#[] -> LK (Es l.prog w) callerA (.call (.ref fa) ⟨[.ref a],[]⟩) (fun r s'=>r=.ok (.ret<|.bool true)/\OldK s₁.heap s'.heap/\s'.os=s₁.os/\Mr s'.gens) s₁) :
  WalkO q b u v l.row.toRowW d [] (fun f vs=>PySem.call f vs):=by
 intro w s₀ s₁ mg mb G Y fa o pm cd doc C kV J hd j y s H x A M i z L t I;obtain rfl:C=.none:=Dflts.none y p;obtain rfl:kV=.none:=Dflts.noKw y;obtain⟨a,vs,ns,rfl,rfl,g,e,B⟩:=Og hn i t;refine enter_call<|Y4 (call w s₀ s₁ mg mb fa o pm cd doc a vs ns G Y J (fd_plain hd) j s g e B H) fun r s' K=>?_;obtain⟨rfl,D,E,F⟩:=K;exact⟨.inl ⟨.bool true,.bool true,[],rfl,fun _=>rfl,.bool true,Oc l _,fun _=>⟨List.Pairwise.nil,fun _ hm=>(nomatch hm)⟩⟩,D,E,F⟩
end Att
namespace L2
open PySem PySem.Spec PyProof.Rows
theorem Bn:∀{vs:Db} {ns:List Int},IntsAre vs ns->yu (ns.map V.int) vs
 |_,_,.nil=>.nil
 |_,_,.cons n t h=>.cons ⟨t,rfl⟩<|Bn h
def Only (H:Hp):Prop:=∀b,H b=none\/∃o d,H b=some (.frz o<|.lst d)
theorem Pb {P:Ej}{w:Ep}{K:Cc}{mg N:Str->Dc}{CX:Ot}{k:Nat}{I a:Ei}{S:Eo}{x:Str}{sp:Sp}{f:Em}{vs:Db}{ns:List Int}
  (Q:K.In f.heap) (B:f.heap.Ns Et mg) (hb:f.heap.Ns builtinsNs N) (L:∀x:Str,x≠"__name__"->N x=LV x) (A:f.heap.NoLimit) (hg:f.gens=#[])
  (ha:f.heap.get? a=some { cls:=.type "list",data:=.seq vs.toArray }) (X:IntsAre vs ns) (hl:ns.length<=sizeLine) (hr:wY k callerA)
  (F:∀base:EB,K.In base->base.Ns Et mg->yx P w K mg base CX k I S [x] sp) (l:∀(s:Em) (u:Eh),BindsTo s S ⟨[u],[]⟩ [(x,u)])
  (M:∀H:Hp,Only H->xx K H a (ns.map V.int)->sp [.ref a] H (fun v _=>v=.bl true) fun _ _ _=>False)
  (J:∀H e s',CX [] H f (fun _ _ _=>False) e s'->False) :
  LK (Es P w) callerA (.call (.ref I) ⟨[.ref a],[]⟩) (fun r s'=>r=.ok (.ret<|.bool true)/\OldK f.heap s'.heap/\s'.os=f.os/\Mr s'.gens) f:=by
 have Y:=Bn X;have D:=X.length;have j:∀H:Hp,Only H->xx K H a (ns.map V.int)->tG P w H f.heap->(∀b,H b≠none->b=a)->(H a≠none->K.lookup a=none) ->
   LK (Es P w) callerA (.call (.ref I) ⟨[.ref a],[]⟩) (fun r s'=>r=.ok (.ret<|.bool true)/\OldK f.heap s'.heap/\s'.os=f.os/\Mr s'.gens) f:=by
  intro H U hS hok T hK;have g:∀{b:Ei} {o:Obj},f.heap.get? b=some o->H b=none->(CI f.heap H).get? b=some o:=fun e n=>O2 e n;have O:∀{b:Ei} {o:Obj} {t:Array Mb} {p:Nat},f.heap.get? b=some o->o.data=.dict t p->H b=none:=fun{b o t p} e d=>by
   cases q:H b with
   |none=>rfl
   |some u =>
    have G:b=a:=T b (by rw[q];simp);subst G;rw[ha]at e;cases e;have Z:Data.seq vs.toArray _=Data.dict t p:=d;cases Z
  have i:∀{b:Ei} {m:Str->Dc},f.heap.Ns b m->(CI f.heap H).Ns b m:=fun{b m} ⟨o,t,p,e,d,r⟩=>⟨o,t,p,g e<|O e d,d,r⟩;have y:K.In (CI f.heap H):=fun b o e=>g (Q b o e) (by
   cases q:H b with
   |none=>rfl
   |some u =>
    have G:b=a:=T b (by rw[q];simp);subst G;rw[hK (by rw[q];simp)]at e;cases e)
  have hM:Mod K mg (CI f.heap H):=⟨y,i B,⟨N,i hb,L⟩,let ⟨mc,h1,h2⟩:=A;⟨mc,i h1,h2⟩⟩;have e0:qt P w K mg (CI f.heap H) callerA [] f H:=⟨rfl,hM,fun b o e=>Sd e,J3<|NW _ _,trivial,fun b hb=>absurd (show b∈([]:Dd) from hb) (by simp),hok,.of_eq hg⟩;refine Y4 ((F _ y<|i B).run callerA [] f H ⟨[.ref a],[]⟩ [.ref a] [.ref a] _ _ hr e0 (l f<|.ref a) (.cons rfl .nil)<|M H U hS) fun r s' h=>?_;cases r with
  |error e=>exact(J H e s' h).elim
  |ok fl =>
   cases fl with
   |next=>exact EE h
   |brk=>exact EE h
   |cont=>exact EE h
   |ret u =>
    obtain⟨v,H',os,bare,un,C,r',q⟩:=h;have q':v=.bl true:=q;subst q';obtain rfl:u=L7 true:=r';refine⟨rfl,OldK.of_keep fun b o e=>?_,os,bare⟩;cases q:H b with
    |none=>exact un.keep b o e q (by intro z;exact absurd (show b∈([]:Dd) from z) (by simp)) (by simp)
    |some u =>
     rcases U b with z|⟨ob,xs,z⟩
     ·rw[q]at z;cases z
     ·have z2:=un.tX b ob _ z;obtain⟨R,_⟩:=hok b _ z;obtain⟨e2,_⟩:=C b _ z2;rw[e]at R;cases R;exact e2
 cases hk:K.lookup a with
 |some o =>
  have e:=Q a o hk;rw[ha]at e;cases e;refine j (fun _=>none) (fun _=>.inl rfl) (.inr ⟨_,vs.toArray,_,hk,rfl,rfl,rfl,by rw[ZD,D];exact hl,by simpa using Y⟩) (fun b u z=>by have E:(none:Option HO)=some u:=z;cases E) (fun b z=>absurd rfl z) fun z=>absurd rfl z
 |none =>
  refine j (fun b=>if b=a then some (.frz { cls:=.type "list",data:=.seq vs.toArray }<|.lst<|ns.map V.int) else none) (fun b=>?_) (.inl<|.inr ⟨{ cls:=.type "list",data:=.seq vs.toArray },Zy rfl⟩) (fun b u z=>?_) (fun b z=>?_) fun _=>hk
  ·by_cases hb:b=a
   ·exact .inr ⟨_,_,Zy hb⟩
   ·exact .inl (Zr hb)
  ·by_cases hb:b=a
   ·have E:=(Zy hb).symm.trans z;cases E;subst hb;exact⟨ha,by rw[Za];exact hl,vs,_,Y,ha⟩
   ·have E:=(Zr hb).symm.trans z;cases E
  ·by_cases hb:b=a
   ·exact hb
   ·exact absurd (Zr hb) z
theorem mH {l:PySem.W.OpenLaw}{n k:Nat}{q:Ej}{j:Da}{I:(Str->Dc)->EB->Prop}{E:Ep->EB->Prop}{d:DefRec}{K:Params->Cc}{CX:Ep->Ot}{sp:Ep->Sp}{x:Str}
  (hn:l.most=some n) (A:n<=sizeLine) (y:d.params.defaults=[]) (R:wY k callerA)
  (O:∀(w:Ep) (h:EB),E w h->(K w.params).In h)
  (F:∀(w:Ep) (mg:Str->Dc) (fa:Ei) (h:EB),(K w.params).In h->h.Ns Et mg->mg d.name=some (.ref fa) -> ∃fd:Eo,(∀(s:Em) (u:Eh),BindsTo s fd ⟨[u],[]⟩ [(x,u)]) /\ ∀base:EB,(K w.params).In base->base.Ns Et mg->yx l.prog w (K w.params) mg base (CX w) k fa fd [x] (sp w))
  (B:∀(w:Ep) (H:Hp) (a:Ei) (ns:List Int),ns.length<=n->Only H->xx (K w.params) H a (ns.map V.int)->sp w [.ref a] H (fun v _=>v=.bl true) fun _ _ _=>False)
  (t:∀(w:Ep) (H:Hp) (s:Em) (e:Eh) (s':Em),CX w [] H s (fun _ _ _=>False) e s'->False) :
  PySem.W.WalkO q j I E l.row.toRowW d [] (fun f vs=>PySem.call f vs):=by
 refine Att.pq hn y fun w s₀ r mg X fa o Z S J a vs ns G Y U hd P z p i C Q=>?_;have D:=O w _ Y;obtain⟨fd,hb,L⟩:=F w mg fa _ D G.T.g z;exact Pb D G.T.g G.T.b G.T.builtins G.T.nolimit Q p i (ZR C A) R L hb (fun H M N=>B w H a ns C M N) fun H e s'=>t w H r e s'
def inClass (s:EK)(j:Nat):Stmt:=match s with
 | .ClassDef _ _ _ body _ _ _ _ _ _ _=>body.getD j<|.Pass ⟨0,0,0,0⟩
 |_=>.Pass ⟨0,0,0,0⟩
def qM (s:EK):Arguments:=match s with
 | .FunctionDef _ a _ _ _ _ _ _ _ _=>a
 |_=>{ posonlyargs:=[],args:=[],vararg:=none,kwonlyargs:=[],kw_defaults:=[],kwarg:=none,defaults:=[] }
def xI (s:EK):List Stmt:=match s with
 | .FunctionDef _ _ b _ _ _ _ _ _ _=>b
 |_=>[]
def zG (s:EK):Scope:=match s with
 | .FunctionDef _ _ _ _ _ _ sc _ _ _=>sc
 |_=>{ kind:=.function,names:=[],isGenerator:=false,isCoroutine:=false }
abbrev Cn:Ot:=fun _ _ _ _ _ _=>False
abbrev E0:XK:=fun _ _ _=>False
theorem F4:vT Cn X E0:=fun _ _ _ _ _ _ _ h=>h.elim
structure xf (K:Cc)(x qual:Str)(st:EK)(f:Ei)(fd:Eo):Prop where
 ex:∃(oc:Eh) (od:Option Ei) (kV doc pm:Eh) (an:Option Ei) (cdv ct:Eh) (osl:Array Dc),
  fd=E8 x qual (qM st) (xI st) (zG st) .none kV doc pm an cdv ct/\K.lookup f=some ⟨oc,od,.func fd,osl⟩/\LD K cdv qual=true
 kp:ES K (.ref f)=true
section
variable {P:Ej}{w:Ep}{K:Cc}{mg:Str->Dc}{base:EB}
theorem xf.ok {st:EK}{k:Nat}{sp:Sp}(F:xf K x qual st f fd)(S:zx N ps<|zG st)
  (e:∀(cdv:Eh) (A:ED) (outer:List Env) (s:Em) (H:Hp) (vs:Dj) (Q:VK) (E:XK),wY k (A.deeper<|Mi qual (zG st) s.heap.objs.size f cdv)->sp vs H Q E -> ∃t,sX (GS Cn P w K mg base N qual (zG st) f cdv A outer s H E).je (xI st) t/\t { nx:=fun _ H'=>Q .non H',rt:=Q } (start N vs) H)(len:∀vs H Q E,sp vs H Q E->vs.length=ps.length:=by intro _ _ _ _ h;first|(cases h;subst_vars;rfl)|repeat first|(obtain⟨rfl,_⟩:=h;rfl)|obtain⟨_,h⟩:=h):yx P w K mg base Cn (k+1) f fd ps sp:=by
 obtain⟨o,p,kV,g,r,n,cdv,ct,l,rfl,j,b⟩:=F.ex;refine SX j b S len fun A outer s H vs Q E i d=>?_;obtain⟨t,h,q⟩:=e cdv A outer s H vs Q E i d;exact⟨t,h.je,q⟩
theorem xf.binds {st:EK}{ps:Da}(F:xf K x qual st f fd)
  (h:∀(kV doc pm:Eh) (an:Option Ei) (cdv ct:Eh) (us:Db),us.length=ps.length->bindArgs (E8 x qual (qM st) (xI st) (zG st) .none kV doc pm an cdv ct) ⟨us,[]⟩=LC (ps.zip us)):wW K fd ps []:=by
 obtain⟨g,i,kV,doc,pm,an,cdv,ct,d,rfl,e,b⟩:=F.ex;exact .all<|h kV doc pm an cdv ct
theorem vW {x qual:Str}{st:EK}{f:Ei}{j:Eh}{n g:Option Ei}{e:Array Dc}{kV d i b ct:Eh}(l:K.lookup f=some ⟨j,n,.func<|E8 x qual (qM st) (xI st) (zG st) .none kV d i g b ct,e⟩)
  (c:LD K b qual=true) (k:ES K (.ref f)=true):xf K x qual st f (E8 x qual (qM st) (xI st) (zG st) .none kV d i g b ct):=⟨⟨j,n,kV,d,i,g,b,ct,e,rfl,l,c⟩,k⟩
end
theorem Be (b:wY k A):A.units+1<cLine:=Vi (Nat.add_le_add_left (by decide:1<=64) _) b.units
section
variable {X:Cx}
theorem pv (i:Nat){x:Str}{pos:Pos}(d:X.N[i]?=some x:=by rfl)(e:aY X.env.scope x:=by first|exact EL rfl|exact Or.inr (EL rfl)|exact Or.inr (Or.inr rfl))(hd:(x==("__debug__":Str))=false:=by decide)
  (b:(x==("__classdict__":Str))=false:=by decide):PE X (.Name x pos) (X1 i):=TZ d e hd b
theorem XD:xq X (.builtin "len") (fun xs H Q=>∃a Dm,xs=[V.ref a]/\H a=some (.dK Dm)/\Q (.int Dm.length) H):=by
 intro e s i H xs g Q I r h;obtain⟨a,Dm,rfl,ha,q⟩:=h;obtain⟨u,rfl,d⟩:=wX r;cases d;exact WR I (.inl ha) fun t f b=>⟨.int Dm.length,H,b,⟨t,rfl⟩,q⟩
end
theorem Ut {A B:Prop}(h:B):if false=true then A else B:=by
 rwa[Zr ZM]
theorem Ur {A B:Prop}(h:A):if true=true then A else B:=by
 rwa[Zy rfl]
theorem UB {c A B:Prop} [Decidable c](h1:c->A)(h2:¬c->B):if c then A else B:=by
 by_cases h:c
 ·rw[Zy h];exact h1 h
 ·rw[Zr h];exact h2 h
theorem S1 {c A B:Prop} [Decidable c](hc:c)(h:B):if(!decide c)=true then A else B:=by
 rw[Ze hc];exact Ut h
def zy (H H':Hp):Prop:=∀b o,H b=some o->H' b=some o
theorem zy.refl (H:Hp):zy H H:=fun _ _ h=>h
theorem zy.trans (a:zy H H1)(b:zy H1 H2):zy H H2:=fun c o h=>b c o<|a c o h
theorem zy.free (e:zy H H'){l:Ei}(h:H' l=Option.none):H l=Option.none:=by
 cases q:H l with
 |none=>rfl
 |some o =>
  rw[e l o q]at h;cases h
theorem zy.seq {K:Cc}(e:zy H H')(h:xx K H a xs):xx K H' a xs:=by
 rcases h with(h|⟨o,h⟩)|h
 ·exact .inl (.inl<|e _ _ h)
 ·exact .inl (.inr ⟨o,e _ _ h⟩)
 ·exact .inr h
section
variable {κ:Type} [DecidableEq κ]
theorem vL {Dm:List (κ×V)}{k:κ}(h:Uu Dm k=none):¬k∈Dm.map (·.1):=by
 intro m;obtain⟨p,b,e⟩:=Zd.mp m;have q:(Dm.any fun kv=>decide (kv.1=k))=true:=Z2.mpr ⟨p,b,Ze e⟩;rw[qS,h]at q;exact absurd q (by simp)
theorem kK {Dm:List (κ×V)}{k:κ}{v:V}(h:Uu Dm k=some v):k∈Dm.map (·.1):=by
 have q:(Dm.any fun kv=>decide (kv.1=k))=true:=by
  rw[qS,h]
  all_goals rfl
 obtain⟨p,b,e⟩:=Z2.mp q;exact Zd.mpr ⟨p,b,Zx e⟩
theorem jX:∀{l:List κ} {k:κ},l.Nodup->¬k∈l->(l++[k]).Nodup
 |[],k,_,_=>by simp
 |a::r,k,h,hk=>by
  obtain⟨b,d⟩:=Z5.mp h;show(a::(r++[k])).Nodup;refine Z5.mpr ⟨fun m=>?_,jX d fun m=>hk<|Zm.mpr<|Or.inr m⟩
  rcases ZB.mp m with q|q
  ·exact b q
  ·exact hk (Zm.mpr<|EL (Zb.mp q).symm)
end
theorem jG {d b:Type}{f:d->b->Sem (ForInStep b)}(g:b->d->b):∀(l:List d) (c:b),(∀x∈l,∀c,f x c=LC (.yield<|g c x))->forIn l c f=LC (l.foldl g c)
 |[],c,_=>rfl
 |x::l,c,h=>by
  rw[List.forIn_cons,h x Zi,pure_bind];exact jG g l (g c x) fun y e=>h y<|Zf _ e
def Xc (cells:List<|Str×Ei)(c:List<|Str×Ei)(x:Str×L5):List (Str×Ei) :=
 if x.2==.free then(match cells.lookup x.1 with|some a=>(x.1,a)::c|none=>c) else c
def qU (env:Env)(sc:LP):List (Str×Ei):=sc.names.foldl (Xc env.cells) []
theorem kN {scope:LP}{env:Env}(h:∀x∈scope.names,x.2=.free->∃c,env.cells.lookup x.1=some c):closureFor scope env=LC (qU env scope):=by
 simp only[closureFor];rw[jG (Xc env.cells) scope.names []<|fun x d c=>?_]
 ·rfl
 ·obtain⟨n,k⟩:=x;unfold Xc;cases hk:(k==NameKind.free) with
  |true =>
   have e:k=.free:=by simpa using hk
   obtain⟨a,ha⟩:=h (n,k) d e;have b:env.cells.lookup n=some a:=ha;simp only[hk,V5,cellOf,b,pure_bind]
  |false=>simp only[hk,Yy,JO]
theorem qH {b:Type}(x n:Str)(a:b)(l:List<|Str×b):LG x ((n,a)::l)=if x=n then some a else LG x l:=by
 by_cases h:x=n
 ·have hb:(x==n)=true:=Jn.mpr h;simp only[List.lookup_cons,hb,Zy h]
 ·have hb:(x==n)=false:=YD.mpr h;simp only[List.lookup_cons,hb,Zr h]
theorem GG {cells:List (Str×Ei)}:∀(names:List<|Str×L5) (acc:List<|Str×Ei),(∀x c,acc.lookup x=some c->cells.lookup x=some c) ->
  ∀x c,(names.foldl (Xc cells) acc).lookup x=some c->cells.lookup x=some c
 |[],acc,h=>h
 |(n,k)::r,acc,h=>GG r _ fun x c e=>by
  unfold Xc at e
  by_cases hk:((n,k).2==NameKind.free)=true
  ·rw[Zy hk]at e;dsimp only at e;cases q:cells.lookup n with
   |none=>rw[q]at e;exact h x c e
   |some a =>
    rw[q]at e;dsimp only at e;rw[qH]at e
    by_cases b:x=n
    ·rw[Zy b]at e;rwa[b,q]
    ·rw[Zr b]at e;exact h x c e
  ·rw[Zr hk]at e;exact h x c e
theorem G7:∀(names:List<|Str×L5) (acc:List<|Str×Ei) (x:Str),(∃c,acc.lookup x=some c)->∃c,(names.foldl (Xc cells) acc).lookup x=some c
 |[],acc,x,h=>h
 | (n,k)::r,acc,x,h=>G7 r _ x (by
  obtain⟨c,h⟩:=h;unfold Xc
  by_cases hk:((n,k).2==NameKind.free)=true
  ·rw[Zy hk];dsimp only;cases q:cells.lookup n with
   |none=>exact⟨c,h⟩
   |some a =>
    dsimp only;rw[qH]
    by_cases b:x=n
    ·exact⟨a,by rw[Zy b]⟩
    ·exact⟨c,by rw[Zr b];exact h⟩
  ·rw[Zr hk];exact⟨c,h⟩)
theorem Fk {cells:List (Str×Ei)}{x:Str}{c:Ei}(b:cells.lookup x=some c):∀(names:List<|Str×L5) (acc:List<|Str×Ei),(x,NameKind.free)∈names->∃c,(names.foldl (Xc cells) acc).lookup x=some c
 |[],acc,h=>by cases h
 |(n,k)::r,acc,h=>by
  rcases Zm.mp h with e|e
  ·cases e;refine G7 r _ x ⟨c,?_⟩;unfold Xc;rw[Zy<|by rfl];dsimp only;rw[b];dsimp only;rw[qH,Zy rfl]
  ·exact Fk b r _ e
theorem K3 {env:Env}{sc:LP}{x:Str}{c:Ei}(b:env.cells.lookup x=some c)(hm:(x,NameKind.free)∈sc.names):(qU env sc).lookup x=some c:=by
 obtain⟨d,h⟩:=Fk b sc.names [] hm;have e:=GG sc.names [] (fun x c e=>by cases e) x d h;rw[b]at e;cases e;exact h
theorem kB {x:Str}{c:Ei}(h:(qU env sc).lookup x=some c):env.cells.lookup x=some c :=
 GG sc.names [] (fun x c e=>by cases e) x c h
def Hj (env:Env)(x:Str)(k:L5):NameKind:=if(k==.free&&env.scope.kind==.function&&env.kindOf x==some .cell) then .cell else k
theorem kA {env:Env}(x:Str):∀names:List<|Str×L5,
  (names.map fun(n,k)=>if(k==NameKind.free&&env.scope.kind==.function&&env.kindOf n==some .cell) then(n,NameKind.cell) else(n,k)).lookup x=(names.lookup x).map (Hj env x)
 |[]=>rfl
 |(n,k)::r=>by
  have d:=kA (env:=env) x r;rw[ZE];have e:(if(k==NameKind.free&&env.scope.kind==.function&&env.kindOf n==some .cell)=true then(n,NameKind.cell) else(n,k))=(n,Hj env n k):=by
   unfold Hj
   split<;>rfl
  dsimp only;rw[e,qH,qH]
  by_cases b:x=n
  ·rw[Zy b,Zy b,b];rfl
  ·rwa[Zr b,Zr b]
theorem XY {env:Env}{scope:LP}{cl:List (Str×Ei)}{C:Ei}(x:Str):(Mo scope cl C env).scope.names.lookup x=(scope.names.lookup x).map (Hj env x):=kA x scope.names
def UK (src:List<|Option Nat)(b:St):St:=src.map fun o=>o.bind fun i=>(b[i]?).join
structure tW (sc:LP)(N N':Da)(src:List<|Option Nat)(scope:LP):Prop where
 nd:N'.Nodup
 len:src.length=N'.length
 kind:scope.kind=.function
 pR:∀y∈scope.names,y.2≠.cell
 names:∀y∈scope.names,y.2=.local->scope.names.lookup y.1=some .local
 free:∀y∈scope.names,y.2=.free->sc.names.lookup y.1=some .cell\/sc.names.lookup y.1=some .free
 srcs:((src.zip N').all fun(o,x)=>match o with|none=>true|some i=>N[i]?==some x&&scope.names.lookup x==some .free)=true
theorem tW.a {sc:LP}{N N':Da}{src:List (Option Nat)}{scope:LP}(nd:N'.Nodup:=by decide +kernel)(len:src.length=N'.length:=by rfl)(kind:scope.kind=.function:=by rfl)(pR:∀y∈scope.names,y.2≠.cell:=by decide +kernel)(names:∀y∈scope.names,y.2=.local->scope.names.lookup y.1=some .local:=by decide +kernel)(free:∀y∈scope.names,y.2=.free->sc.names.lookup y.1=some .cell\/sc.names.lookup y.1=some .free:=by decide +kernel)(srcs:((src.zip N').all fun(o,x)=>match o with|none=>true|some i=>N[i]?==some x&&scope.names.lookup x==some .free)=true:=by decide +kernel):tW sc N N' src scope:=⟨nd,len,kind,pR,names,free,srcs⟩
theorem tW.at (O:tW sc N N' src scope){j i:Nat}{x:Str}(d:src[j]?=some (some i))(e:N'[j]?=some x):N[i]?=some x/\scope.names.lookup x=some .free:=by
 have f:(src.zip N')[j]?=some (some i,x):=by rw[Jr];exact⟨d,e⟩
 have q:=ZA.mp O.srcs _<|Zt f;have b:(N[i]?==some x&&scope.names.lookup x==some .free)=true:=q;rw[Zk]at b;exact⟨VC b.1,VC b.2⟩
def Cx.comp (X:Cx)(N':Da)(scope:LP)(C:Ei)(s:Em)(H:Hp)(fp:Dd):Cx :=
 { X with N:=N',s₀:=s,H₀:=H,env:=Mo scope (qU X.env scope) C X.env,outer:=X.stack,ex:=fp,fn:=fun _=>false,pn:=[],xe:=fun _ _=>False }
theorem Un.adopt {D:Ei}(u:Un fs ex H H1 h h1)(g:h.get? D=none)(d:H D=none):Un fs ex H (upd H1 D o) h h1 where
 keep:=u.keep
 slot:=u.slot
 free:=fun b e q n i=>by
  have hb:b≠D:=fun z=>by rw[z,g]at q;cases q
  rw[zI hb];exact u.free b e q n i
 there:=u.there
 tups:=fun b f q=>by rw[zI<|zN q d];exact u.tups b f q
 tX:=fun b e f q=>by rw[zI<|zN q d];exact u.tX b e f q
 tO:=fun b j q=>by rw[zI<|zN q d];exact u.tO b j q
theorem tG.adopt {D:Ei}(x:tG P w H h)(n:H D=none)(new:yj P w (upd H D o) h D o):tG P w (upd H D o) h:=fun b u e=>by
 by_cases hb:b=D
 ·subst hb;rw[zB]at e;cases e;exact new
 ·rw[zI hb]at e;exact(x b u e).stay (fun c v _ q=>q) (fun c q=>by rwa[zI<|zN q n]) fun c d q=>by rwa[zI<|zN q n]
def oY (X:Cx)(b:List EG)(f:TT):Prop :=
 ∀(e:De) (s:Em) (d:St) (H:Hp) (Q:Bool->Hp->Prop),Inv X e d H s->f d H Q ->
  El (Es X.prog X.w) X.A (forIn b true fun c r=>if r=true then do let ok ←isTrue c X.env (E3 c X.env);LC (Mq ok) else LC (Mq r)) (TP X e d Q) X.xe s
def BI:TT:=fun _ H Q=>Q true H
theorem qY:oY X [] BI:=by
 intro b s d H Q I h;rw[List.forIn_nil];exact Zh ⟨H,I,h⟩
theorem T5 (g:PT X c tc):oY X [c] tc:=by
 intro d s j H Q I h;rw[List.forIn_cons];refine Q9<|Q9<|Ch (g d s j H _ I h) fun b l ⟨e,f,i⟩=>Zh ?_;dsimp only;rw[List.forIn_nil];exact Zh ⟨e,f,i⟩
def U9 (src:List<|Option Nat)(J:It)(g:TG)(v:TT)(u:TE)(Q:VK)(w:St)(H:Hp):Prop :=
 ∃W:Nat->Nat->Dj->St->Hp->Prop,(∃m,W 0 m [] (UK src w) H)/\∀i m j n e,W i m j n e->j.length<=sizeLine /\
 ((J.stop i e/\∀p,e p=none->Q (.ref p) (upd e p<|.lst j)) \/ (J.go i e/\∃o:Dj->St->Hp->Prop,(∀l d f,o l d f->∃r,r<m/\W (i+1) r l d f) /\ ∀x f,J.nR i e x f->g x n f fun d s=>v d s fun b q=>if b=true then u d q fun y t=>o (j++[y]) d t else o j d q))
def Ta (src:List<|Option Nat)(i:TI)(g:TG)(f:TT)(e:TE):TE:=fun b H Q=>i b H fun J d=>U9 src J g f e Q b d
section
variable {X:Cx}{tg elt iter:EG}{ifs:List EG}{scope sc:LP}{N N':Da}{src:List (Option Nat)}{g:TG}{tf:TT}{te:TE}{wi:TI}{pos:Pos}
theorem Pj {prog:Ej}{w:Ep}{A:ED}{R:Result->Dh}{s:Em}{it f:Eh}{env:Env}(I:Nat->Dh)
  (o:∀n s,I n s->El (Es prog w) A (LN it) (fun r s₁=>match r with
   |none=>R (.ok .next) s₁
   | some v=>El (Es prog w) A (L6 tg it v) (fun _ s₂=>El (Es prog w) A (assign tg env v) (fun _ s₃ =>
     El (Es prog w) A (forIn ifs true fun c r=>if r=true then do let ok ←isTrue c env (E3 c env);LC (Mq ok) else LC (Mq r)) (fun ok s₄ =>
      if ok=true then El (Es prog w) A (E3 elt env) (fun x s₅ =>
       El (Es prog w) A (call (.builtin "list.append") [f,x]) (fun _ s₆=>∃m,m<n/\I m s₆) (fun _ _=>False) s₅) (fun _ _=>False) s₄
      else∃m,m<n/\I m s₄) (fun _ _=>False) s₃) (fun _ _=>False) s₂) (fun _ _=>False) s₁) (fun _ _=>False) s)
  (n:Nat) (h:I n s):LK (Es prog w) A (.compLoop (.ListComp elt [⟨tg,iter,ifs,0⟩] scope pos) 0 it f env) R s:=by
 refine codeAny_loop rfl I (fun n s p=>?_) n h;show El _ A ((compTurn (.ListComp elt [⟨tg,iter,ifs,0⟩] scope pos) 0 it f env).onRaise (fun x=>do noteFrame x env;theTreesLotGoes x)) _ _ s;refine wpAny_noted ?_;rw[compTurn_list];refine Q9<|wpAny_standAt<|Q9<|Yr (o n s p) (fun r s₁ d=>?_) fun _ _ b=>b.elim;cases r with
 |none=>exact Zh d
 |some v =>
  refine Q9<|Yr d (fun _ s₂ g=>?_) fun _ _ b=>b.elim;refine Q9<|Yr g (fun _ s₃ i=>Q9<|Yr i (fun ok s₄ e=>?_) fun _ _ b=>b.elim) fun _ _ b=>b.elim;cases ok with
  |false=>exact Zh ⟨rfl,e⟩
  |true =>
   exact Q9<|Q9<|Yr e (fun x s₅ j=>Q9<|Yr j (fun _ s₆ l=>Zh<|Zh ⟨rfl,l⟩) fun _ _ b=>b.elim) fun _ _ b=>b.elim
theorem RI {fp:Dd}{C:Ei}(O:tW sc N N' src scope)(f:X.env.scope=sc)(I:Inv X Dp σ H s)(d:∀b∈fp,Xe X Dp H b)
  (r:∀b∈fp,∃o,s.heap.get? b=some o) (i:s.heap.objs.size<=C):(X.comp N' scope C s H fp).Ok:=by
 have hk:∀x,((Mo scope (qU X.env scope) C X.env).kindOf x=some .cell\/(Mo scope (qU X.env scope) C X.env).kindOf x=some .free)->(x,NameKind.free)∈scope.names:=fun x h=>by
  have h:(Mo scope (qU X.env scope) C X.env).scope.names.lookup x=some .cell\/(Mo scope (qU X.env scope) C X.env).scope.names.lookup x=some .free:=h;rw[XY]at h;cases q:scope.names.lookup x with
  |none=>rw[q]at h;rcases h with h|h<;>cases h
  |some k =>
   have hm:=YX q;rw[q]at h;cases k with
   |free=>exact hm
   |cell=>exact absurd rfl<|O.pR _ hm
   |_ =>
    exfalso
    rcases h with h|h<;>(have g:=Option.some.inj h;unfold Hj at g;simp at g)
 refine⟨I.ok.mod,O.kind,I.ok.glob,I.ok.blt,i,fun x y c l n=>I.ok.inj x y c (kB l)<|kB n,fun x h=>?_,fun x c h=>(by cases h),I.ok.hd,I.ok.frames,.inl rfl,fun b hb=>?_,I.bs,ZR I.ok.nY I.sz,fun b o e hb=>?_,fun b hb z=>?_,I.stack,I.sG⟩
 ·have hm:=hk x h;have j:=O.free _ hm rfl;rw[←f]at j;obtain⟨c,p⟩:=I.ok.has x j;exact⟨c,K3 p hm⟩
 ·refine⟨?_,fun x c h=>(d b hb).2.2.2.2.1 x c<|kB h⟩;obtain⟨o,e⟩:=r b hb;exact Zz<|ZI (Zu e) i
 ·rcases(d b hb).2.2.2.1 with z|z
  ·exact I.ok.pZ b o e z
  ·exact absurd (ZI (ZI (Zu e) I.ok.nY) z) (YB _)
 ·rcases Zm.mp (I.rT b z) with e|e
  ·exact(d b hb).2.1 e
  ·exact(d b hb).2.2.1 e
theorem OG {fp:Dd}{C:Ei}{h':EB}{Q:Nat}(O:tW sc N N' src scope)(t:X.env.scope=sc)(F:X.N=N)(I:Inv X Dp σ H s)(G:∀b∈fp,Xe X Dp H b)
  (J:∀b∈fp,∃o,s.heap.get? b=some o) (B:s.heap.objs.size<=C) (k:∀b o,s.heap.get? b=some o->h'.get? b=some o) {M:Str->Dc} (hn:h'.Ns C M) :
  Inv (X.comp N' scope C s H fp) [] (UK src σ) H { s with heap:=h',toks:=Q }:=by
 have cells:∀x c,X.env.cells.lookup x=some c->∀v,s.heap.IsCell c v->h'.IsCell c v:=fun x c _ v ⟨o,e,d⟩=>⟨o,k c o e,d⟩;refine⟨RI O t I G J B,rfl,I.bare,Un.kept k,⟨_,hn,fun j x v A f R=>?_⟩,fun x c e=>?_,I.hok.fresh B,fun x c e=>I.wK x c<|kB e,fun p K=>(by cases K),I.hok.kept k,?_⟩
 ·have f:(UK src σ)[j]?=some (some v):=f;have A:N'[j]?=some x:=A;unfold UK at f;rw[Zs]at f;cases q:src[j]? with
  |none=>rw[q]at f;cases f
  |some o =>
   rw[q]at f;have f:(o.bind fun i=>(σ[i]?).join)=some v:=Option.some.inj f;cases o with
   |none=>cases f
   |some i =>
    have f:(σ[i]?).join=some v:=f;obtain⟨S,n⟩:=O.at q A;have D:=YX n;have E:σ[i]?=some (some v):=by
     cases r:σ[i]? with
     |none=>rw[r]at f;cases f
     |some w=>rw[r]at f;cases w with
      |none=>cases f
      |some w'=>have:w'=v:=Option.some.inj f;rw[this]
    have l:=O.free _ D rfl;rw[←t]at l;obtain⟨m,hm,hl⟩:=I.loc;obtain⟨u,P,L⟩:=hl i x v (by rwa[F]) E<|.inr l;refine⟨u,P,.inr ?_⟩;obtain⟨c,y,g⟩:∃c,X.env.cells.lookup x=some c/\s.heap.IsCell c (some u):=by
     rcases L with⟨z,_⟩|⟨_,c,y,hz⟩
     ·exfalso;have z:X.env.scope.names.lookup x=some .local:=z
      rcases l with l|l<;>(rw[l]at z;cases z)
     ·exact⟨c,y,hz⟩
    refine⟨?_,c,K3 y D,cells x c y _ g⟩;show(Mo scope (qU X.env scope) C X.env).scope.names.lookup x=some .cell\/(Mo scope (qU X.env scope) C X.env).scope.names.lookup x=some .free;rw[XY,n];show some (Hj X.env x .free)=some .cell\/some (Hj X.env x .free)=some .free;unfold Hj
    split
    ·exact .inl rfl
    ·exact .inr rfl
 ·obtain⟨v,z⟩:=I.cell x c<|kB e;exact⟨v,cells x c (kB e) v z⟩
 ·show(UK src σ).length=N'.length;unfold UK;rw[Za];exact O.len
theorem Ix {Dp:De}{σ:St}{H:Hp}{s:Em}{fp:Dd}{it:Ei}{tn:Nat->EB->Prop}{J:It}{E:Eh->Dh}{RR:Eh->Ei->Result->Dh}{Fin:Dj->Hp->Prop}(O:tW sc N N' src scope)(bl:X.env.scope=sc)(hN:X.N=N)(D5:X.calm=true)
  (hg:∀C s H fp,PG (X.comp N' scope C s H fp) tg g) (a9:∀C s H fp,oY (X.comp N' scope C s H fp) ifs tf) (he:∀C s H fp,PE (X.comp N' scope C s H fp) elt te)
  (I:Inv X Dp σ H s) (T:Turn X.prog X.w X.K tg J fp it tn) (t0:tn 0 s.heap) (hf:∀b∈fp,Xe X Dp H b)
  (W:Nat->Nat->Dj->St->Hp->Prop) (m0:Nat) (w0:W 0 m0 [] (UK src σ) H)
  (hW:∀i m ys σ' H',W i m ys σ' H'->ys.length<=sizeLine/\((J.stop i H'/\Fin ys H') \/ (J.go i H'/\∃Nx:Dj->St->Hp->Prop,(∀ys2 σ2 H2,Nx ys2 σ2 H2->∃m',m'<m/\W (i+1) m' ys2 σ2 H2) /\ ∀x H2,J.nR i H' x H2->g x σ' H2 fun σ2 H3=>tf σ2 H3 fun b H4=>if b=true then te σ2 H4 fun y H5=>Nx (ys++[y]) σ2 H5 else Nx ys σ2 H4)))
  (a8:∀(D C:Ei) (s':Em) (σ':St) (H':Hp) (ys:Dj) (its:Db) (n:Nat),s.heap.objs.size<=D->s.heap.objs.size<=C->Inv (X.comp N' scope C s H fp) [] σ' H' s'->s'.heap.get? D=some { cls:=.type "list",data:=.seq its.toArray n }->yu ys its->ys.length<=sizeLine -> H' D=none->D≠C->Fin ys H'->RR (.ref D) C (.ok .next) s') :
  El (Es X.prog X.w) X.A (newList []) (fun acc s₃=>El (Es X.prog X.w) X.A (newFunctionEnv scope X.env.globals (qU X.env scope) [] X.env.qual none .none<|some X.env) (fun cenv s₄ => LK (Es X.prog X.w) X.A (.compStart (.ListComp elt [⟨tg,iter,ifs,0⟩] scope pos) 0 (.ref it) acc { cenv with scope:=relabel scope X.env }) (RR acc cenv.locals) s₄) E s₃) E s:=by
 refine ZX (wpAny_newFunctionEnv O.pR (by intro y hy;cases hy) (fun F j f=>?_) O.kind);dsimp only at j f ⊢;generalize Z:s.heap.push { cls:=.type "list",dict:=none,data:=.seq ([]:Db).toArray }=P2 at j f ⊢;have Y:P2.objs.size=s.heap.objs.size+1:=by rw[←Z,Yz]
 have L:s.heap.objs.size≠P2.objs.size:=by rw[Y];exact Zz<|Jh _
 have b3:s.heap.objs.size<=P2.objs.size:=by rw[Y];exact Je _
 have below:∀b,b<s.heap.objs.size->b≠P2.objs.size/\b≠s.heap.objs.size:=fun b hb=>⟨by rw[Y];exact Zz<|YS hb,Zz hb⟩;have old:∀b o,s.heap.get? b=some o->F.get? b=some o:=fun b o e=>f.extBut b o (below b<|Zu e).1<|Zc _<|Z▸Zc _ e;have D2:F.get? s.heap.objs.size=some { cls:=.type "list",data:=.seq ([]:Db).toArray 0 }:=f.extBut _ _ L<|Zc _<|Z▸Zq _ rfl;have am:∀b∈fp,∃o,s.heap.get? b=some o:=fun b hb=>let ⟨o,e,_⟩:=T.obj 0 _ t0 b hb;⟨o,e⟩;have G:∀b∈fp,b<s.heap.objs.size:=fun b hb=>let ⟨o,e⟩:=am b hb;Zu e;generalize hD:s.heap.objs.size=D at *;generalize hC:P2.objs.size=C at *;have a0:∀tk,Inv (X.comp N' scope C s H fp) [] (UK src σ) H { s with heap:=F,toks:=tk }:=fun tk=>OG O bl hN I hf am (by rwa[hD]) old j;have qm:(X.comp N' scope C s H fp).Ok:=(a0 0).ok;have M:∀{H':Hp} {pl:De},(∀b∈fp,H' b=none)->(∀p∈pl,p.1∉fp)->∀b∈fp,Xe (X.comp N' scope C s H fp) pl H' b:=fun{H' pl} hn l b hb =>
  ⟨hn b hb,(qm.lQ b hb).1,qm.pL b hb,.inl hb,(qm.lQ b hb).2,fun p hm=>by
   have hm:p∈pl:=by simpa[Cx.comp] using hm
   exact fun z=>l p hm<|z▸hb⟩
 have al:D∉(X.comp N' scope C s H fp).fs:=fun hb=>by
  obtain⟨_,o,ho,_⟩:=qm.tR.mem hb;have ho:s.heap.get? D=some o:=ho;have h1:=Zu ho;rw[hD]at h1;exact YB _ h1
 have R:∀x c,(X.comp N' scope C s H fp).env.cells.lookup x=some c->c≠D:=fun x c e z=>by
  obtain⟨v,o,ho,_⟩:=I.cell x c<|kB e;have h1:=Zu ho;rw[hD,z]at h1;exact YB _ h1
 have loop:∀tk,LK (Es X.prog X.w) X.A (.compLoop (.ListComp elt [⟨tg,iter,ifs,0⟩] scope pos) 0 (.ref it) (.ref D)<|Mo scope (qU X.env scope) C X.env) (RR (.ref D) C) { s with heap:=F,toks:=tk }:=by
  intro tk;refine Pj (fun n s'=>∃i ys σ' H' its c,Inv (X.comp N' scope C s H fp) [] σ' H' s'/\tn i s'.heap/\(∀b∈fp,H' b=none)/\s'.heap.get? D=some { cls:=.type "list",data:=.seq (its:Db).toArray c }/\yu ys its/\H' D=none/\W i n ys σ' H') ?_ m0
   ⟨0,[],UK src σ,H,[],0,a0 tk,T.keep 0 _ _ t0 fun b _ o e=>old b o e,fun b hb=>(hf b hb).1,D2,.nil,I.hok.fresh (by rw[hD];exact Zg _),w0⟩
  rintro n s3 ⟨i,ys,t,H3,its,B,I3,a2,an,d3,v3,ar,w3⟩;obtain⟨Dq,a6⟩:=hW i n ys t H3 w3
  rcases a6 with⟨stop,fin⟩|⟨go,Nx,hNx,step⟩
  ·have S:Inv (X.comp N' scope C s H fp) [(D,{ cls:=.type "list",data:=.seq its.toArray B })] t H3 s3:=I3.ug fun p l=>by
    have e:p=(D,{ cls:=.type "list",data:=.seq its.toArray B }):=by simpa using l
    subst e;exact⟨d3,ar,L,al,fun v z=>by cases z⟩
   refine Ch (T.done (X.comp N' scope C s H fp) rfl rfl rfl D5 i _ s3 t H3 _ S (M an fun p l z=>by
    have e:p=(D,{ cls:=.type "list",data:=.seq its.toArray B }):=by simpa using l
    rw[e]at z;exact YB _<|G D z) a2 stop) fun r s4 ⟨hr,I4⟩=>?_
   subst hr;obtain⟨d4,bm,_⟩:=I4.pin (D,{ cls:=.type "list",data:=.seq its.toArray B }) (by simp[Cx.comp]);exact a8 D C s4 t H3 ys its B (by lia) (by lia) (I4.ug fun p l=>(by cases l)) d4 v3 Dq bm L fin
  ·have S:Inv (X.comp N' scope C s H fp) [(D,{ cls:=.type "list",data:=.seq its.toArray B })] t H3 s3:=I3.ug fun p l=>by
    have e:p=(D,{ cls:=.type "list",data:=.seq its.toArray B }):=by simpa using l
    subst e;exact⟨d3,ar,L,al,fun v z=>by cases z⟩
   have ap:∀p∈[((D,{ cls:=.type "list",data:=.seq its.toArray B }):Ei×Obj)],p.1∉fp:=fun p l z=>by
    have e:p=(D,{ cls:=.type "list",data:=.seq its.toArray B }):=by simpa using l
    rw[e]at z;exact YB _<|G D z
   refine Ch (T.item (X.comp N' scope C s H fp) rfl rfl rfl D5 i _ s3 t H3 _ S (M an ap) a2 go) fun r s4 ⟨u,hr,h4⟩=>?_;subst hr;refine Ch h4 fun _ s5 ⟨x,H5,I5,r5,y5,ah,a7⟩=>?_;have a4:=I5.pinned (M a7 ap)<|T.obj _ _ ah;have Q:(D,({ cls:=.type "list",data:=.seq its.toArray B }:Obj))∈(X.comp N' scope C s H fp).pn++([((D,{ cls:=.type "list",data:=.seq its.toArray B }):Ei×Obj)]++vZ fp s5.heap):=by simp[Cx.comp]
   have back:∀{a3:St} {P:Hp} {s7:Em},Inv (X.comp N' scope C s H fp) ([((D,{ cls:=.type "list",data:=.seq its.toArray B }):Ei×Obj)]++vZ fp s5.heap) a3 P s7 ->
     tn (i+1) s7.heap/\∀b∈fp,P b=none:=fun{a3 P s7} U=>⟨T.keep _ _ _ ah fun b hb o e=>(U.pin (b,o)<|ZL _<|ZL _<|qX hb e).1,fun b hb=>by
    obtain⟨o,e,d⟩:=T.obj _ _ ah b hb;exact(U.pin (b,o)<|ZL _<|ZL _<|qX hb e).2.1⟩
   refine Ch (hg C s H fp _ s5 t H5 x u _ a4 r5<|step x H5 y5) fun _ s6 ⟨q,H6,I6,q6⟩=>?_;refine Ch (a9 C s H fp _ s6 q H6 _ I6 q6) fun b s7 ⟨P,U,q7⟩=>?_;cases b with
   |false =>
    obtain⟨m',ab,w7⟩:=hNx ys q P (by simpa using q7);obtain⟨b1,b2⟩:=back U;obtain⟨d7,b0,_⟩:=U.pin _ Q;exact⟨m',ab,i+1,ys,q,P,its,B,U.ug fun p l=>(by cases l),b1,b2,d7,v3,b0,w7⟩
   |true =>
    have q7:te q P fun y H5=>Nx (ys++[y]) q H5:=by simpa using q7
    rw[Zy rfl];refine Ch (he C s H fp _ s7 q P _ U q7) fun u8 s8 ⟨y,H8,I8,r8,n8⟩=>?_;obtain⟨m',ab,w8⟩:=hNx _ _ _ n8;obtain⟨b1,b2⟩:=back I8;obtain⟨d8,as,_⟩:=I8.pin _ Q;have hl:=v3.length;refine wpAny_list_append_plain (items:=its.toArray) ⟨B,d8⟩ (fun h9 ⟨c9,d9⟩ a1=>?_) (by rwa[ZD,←hl]);have a5:Inv (X.comp N' scope C s H fp) [] q H8 s8:=I8.ug fun p l=>by cases l
    have I9:Inv (X.comp N' scope C s H fp) [] q H8 { s8 with heap:=h9 }:=a5.turned (t':=s8.toks) (it:=D) (fun b o hb e=>(a1.2 b hb).trans e) as L (.inr (by show s.heap.objs.size<=D;lia)) R (fun p l=>by
     have l:p∈([]:De):=by simpa[Cx.comp] using l
     cases l)
    refine⟨m',ab,i+1,ys++[y],q,H8,its++[u8],c9,I9,T.keep _ _ _ b1 fun b hb o e=>(a1.2 b<|fun z=>YB _<|z▸G b hb).trans e,b2,?_,v3.append<|.cons r8 .nil,as,w8⟩;show h9.get? D=_;rw[d9];simp
 exact codeAny_compStart_list (loop _)<|T.self _ 0 _ _ _ (T.keep 0 _ _ t0 fun b _ o e=>old b o e)<|loop _
theorem comp_back {g:St}{H':Hp}{f:Em}{fp:Dd}{C D:Ei}{ys:Dj}{e:Db}{n:Nat}(I:Inv X Dp σ H s)(q:∀b∈fp,Xe X Dp H b)
  (J:Inv (X.comp N' scope C s H fp) [] g H' f) (i:s.heap.objs.size<=D) (d:f.heap.get? D=some { cls:=.type "list",data:=.seq e.toArray n }) (v:yu ys e) (hl:ys.length<=sizeLine) (r:H' D=none) :
  Inv X Dp σ (upd H' D<|.lst ys) f:=by
 have u:Un (frs X.stack) fp H H' s.heap f.heap:=J.base;refine I.call' (ch:=fp) J.os (u.adopt (VL i)<|I.hok.fresh i) (J.hok.adopt r ⟨hl,e,n,v,d⟩) J.bare fun b hb=>?_;obtain⟨_,j,_,l,o,p⟩:=q b hb;exact⟨l,j,o,p⟩
theorem Bo {C:Ei}{h':EB}(I:Inv X Dp σ H s)(f:Inv X Dp σ2 H2 s2)(n:s.heap.objs.size<=C)(d:H2 C=none)(p:Ll C s2.heap h'):Inv X Dp σ2 H2 { s2 with heap:=h' }:=by
 obtain⟨_,g,_,i,j,l⟩:=I.rY (H':=H2) n d;exact f.turned (t':=s2.toks) (it:=C) (fun b o hb e=>(p.2 b hb).trans e) d g i j l
theorem qC (O:tW sc N N' src scope)(f:X.env.scope=sc)(U:X.N=N)(K:X.calm=true)(hi:PI X tg iter wi)
  (Z:∀C s H fp,PG (X.comp N' scope C s H fp) tg g) (u:∀C s H fp,oY (X.comp N' scope C s H fp) ifs tf) (Y:∀C s H fp,PE (X.comp N' scope C s H fp) elt te)
  (hs:∀x,Md iter X.env x=LC x:=by intro _;rfl):PE X (.ListComp elt [⟨tg,iter,ifs,0⟩] scope pos) (Ta src wi g tf te):=by
 intro z s G H Q I h;rw[eval_ListComp];have b:closureFor scope X.env=LC (qU X.env scope):=kN fun x hx hk=>I.ok.has x.1 (by
  have:=O.free x hx hk;rw[←f]at this;exact this)
 refine wpAny_comprehension_free (use:=none) rfl hs b O.kind O.names<|Ch (hi z s G H _ I h) fun v s1 M=>Ch M fun ah s2 P=>?_;obtain⟨it,fp,tn,J,H2,e,l,T,y,B,W,⟨m0,w0⟩,i⟩:=P;subst e;refine Ix (RR:=fun q C=>compPost (Es X.prog X.w) X.A X.xe none (EP X z G Q) q C) (Fin:=fun F j=>∀p,j p=none->Q (.ref p) (upd j p<|.lst F)) O f U K Z u Y l T y B W m0 w0 i ?_;intro D C s' al j F ab n S R o d vv hl E t r;have L:=comp_back l B o S d vv hl E;obtain⟨m,hm,_⟩:=o.loc;have nC:j C=none:=o.free;refine⟨m,hm,fun h' sb=>⟨.ref D,_,Bo l L R (by rwa[zI<|Ey t]) sb,rfl,r D E⟩⟩
theorem Nf {k:Nat}{y:Str}{j f:Pos}(O:tW sc N N' src scope)(r:X.env.scope=sc)(hN:X.N=N)(D5:X.calm=true)(hi:PI X tg iter wi)
  (hg:∀C s H fp,PG (X.comp N' scope C s H fp) tg g) (M:∀C s H fp,oY (X.comp N' scope C s H fp) ifs tf) (he:∀C s H fp,PE (X.comp N' scope C s H fp) elt te)
  (nd:X.N.Nodup) (hk:X.N[k]?=some y) (R:Loc X.env.scope y)
  (P:Mw (.ListComp elt [⟨tg,iter,ifs,0⟩] scope pos) (some<|.Name y j) f.line X.env=LC true:=by rfl)
  (hf:X.fn y=true\/X.env.scope.names.lookup y=some .local:=by first|exact .inl rfl|exact .inr rfl|assumption)
  (hs:∀x,Md iter X.env x=LC x:=by intro _;rfl):PS X (.Assign [.Name y j] (.ListComp elt [⟨tg,iter,ifs,0⟩] scope pos) f) (Rq (Ta src wi g tf te)<|UT k):=by
 intro B s σ H b I h;rw[exec_Assign_Name_used _ _ _ _ P];refine Q9<|wpAny_standAt<|Q9 ?_;show El _ X.A (do let _ ←comprehension (.ListComp elt [⟨tg,iter,ifs,0⟩] scope pos) scope X.env _ (newList []) false (E3 iter X.env) (some<|assign (.Name y j) X.env)) _ _ s;have i:closureFor scope X.env=LC (qU X.env scope):=kN fun x R hk=>I.ok.has x.1 (by
  have:=O.free x R hk;rw[←r]at this;exact this)
 refine Q9<|Yr (wpAny_comprehension_free (use:=some<|assign (.Name y j) X.env) (Q:=fun _ l=>SP X B b .next l) rfl hs i O.kind O.names<|Ch (hi B s σ H _ I h) fun v s1 h1=>Ch h1 fun ah s2 h2=>?_) (fun _ l hq=>Zh<|Zh hq) fun _ _ e=>e
 obtain⟨it,fp,tn,J,H2,e,q,T,S,U,W,⟨m0,w0⟩,t⟩:=h2;subst e;refine Ix (RR:=fun F C=>compPost (Es X.prog X.w) X.A X.xe (some<|assign (.Name y j) X.env) (fun _ l=>SP X B b .next l) F C) (Fin:=fun Z u=>∀p,u p=none->UT k (.ref p) σ (upd u p<|.lst Z) b.nx) O r hN D5 hg M he q T S U W m0 w0 t ?_;intro D C l al u Z ab n hD K E d vv hl Y L G;have I3:=comp_back q U E hD d vv hl Y;obtain⟨m,hm,_⟩:=E.loc;have nC:u C=none:=E.free;show El _ X.A (assign (.Name y j) X.env<|.ref D) _ _ l;refine wpAny_assign_Name<|BC I3 nd hk R (v:=.ref D) rfl (fun s4 I4 ⟨a,sa,ha⟩=>?_) hf;have aC:C≠a:=by
  rcases ha with e|e
  ·rw[e];intro z;exact YB _<|ZI q.lt<|z▸K
  ·intro z;obtain⟨v,o,ho,_⟩:=q.cell y a e;exact YB _<|ZI (Zu ho)<|z▸K
 refine⟨m,Heap.Ns.sameBut hm sa aC,fun h' sb=>⟨_,_,Bo q I4 K (by rwa[zI<|Ey L]) sb,G D Y⟩⟩
end
def bE (t u:TS):TS:=fun D e H=>∃R:St->Hp->Prop,t { D with nx:=R } e H/\∀b d,R b d->u D b d
theorem xN {st:EK}{b:List EK}(j:PS X st t)(l:sX X b u):sX X (st::b) (bE t u):=by
 intro e s p H D I ⟨R,h,n⟩;refine V8<|Ch (j e s p H { D with nx:=R } I h) fun f o q=>?_;cases f with
 |next =>
  obtain⟨d,g,i,q⟩:=q;exact l e o d g D i<|n d g q
 |ret v=>exact q
 |brk=>exact q
 |cont=>exact q
section
variable {K:Cc}{src:List (Option Nat)}{g:TG}{tf:TT}{te:TE}{Q:VK}{a:Ei}{xs:Dj}{σ:St}{H:Hp}
theorem IT {J:It}(n:Nat)(f:Nat->Dj->St->Hp->Prop)(r:f 0 [] (UK src σ) H)(hz:n<=sizeLine)(hl:∀i ys σ H,i<=n->f i ys σ H->ys.length<=i)
  (q:∀ys σ H,f n ys σ H->J.stop n H) (o:∀i ys σ H,i<n->f i ys σ H->J.go i H)
  (t:∀i ys σ H,i<n->f i ys σ H->∀x H2,J.nR i H x H2->g x σ H2 fun σ2 H3=>tf σ2 H3 fun b H4=>if b=true then te σ2 H4 fun y H5=>f (i+1) (ys++[y]) σ2 H5 else f (i+1) ys σ2 H4)
  (hd:∀ys σ H,f n ys σ H->∀p,H p=none->Q (.ref p) (upd H p<|.lst ys)):U9 src J g tf te Q σ H:=by
 refine⟨fun i m ys σ H=>m=n-i/\i<=n/\f i ys σ H,⟨n,by simp,ZN _,r⟩,?_⟩;rintro i m ys d l ⟨rfl,s,p⟩;have v:=hl i ys d l s p;refine⟨by lia,?_⟩
 by_cases j:i<n
 ·exact .inr ⟨o i ys d l j p,f<|i+1,fun u σ2 H2 z=>⟨n-(i+1),by lia,rfl,j,z⟩,fun x H2 y=>t i ys d l j p x H2 y⟩
 ·have e:i=n:=by lia
  subst e;exact .inl ⟨q ys d l p,hd ys d l p⟩
theorem NH (d:Nat->Dj->St->Hp->Prop)(j:d 0 [] (UK src σ) H)(hz:xs.length<=sizeLine)(hl:∀i ys σ H,i<=xs.length->d i ys σ H->xx K H a xs/\ys.length<=i)
  (l:∀i x ys σ H,xs[i]?=some x->d i ys σ H->g x σ H fun σ2 H3=>tf σ2 H3 fun b H4=>if b=true then te σ2 H4 fun y H5=>d (i+1) (ys++[y]) σ2 H5 else d (i+1) ys σ2 H4)
  (hd:∀ys σ H,d xs.length ys σ H->∀p,H p=none->Q (.ref p) (upd H p<|.lst ys)):U9 src (Tj K a) g tf te Q σ H :=
 IT xs.length d j hz (fun i ys σ H f p=>(hl i ys σ H f p).2) (fun ys σ H p=>⟨xs,(hl _ ys σ H (Zg _) p).1,Zg _⟩) (fun i ys σ H f p=>⟨xs,xs[i],(hl i ys σ H (Yx f) p).1,by simp[f]⟩)
  (fun i ys σ H f p x n y=>by
   obtain⟨e,y⟩:=y;subst e;exact l i x ys σ _ (y xs (hl i ys σ _ (Yx f) p).1) p) hd
theorem OH (d:Nat->Dj->St->Hp->Prop)(j:d 0 [] (UK src σ) H)(hz:xs.length<=sizeLine)(hl:∀i ys σ H,i<=xs.length->d i ys σ H->xg K H a xs/\ys.length<=i)
  (l:∀i x ys σ H,xs[i]?=some x->d i ys σ H->g x σ H fun σ2 H3=>tf σ2 H3 fun b H4=>if b=true then te σ2 H4 fun y H5=>d (i+1) (ys++[y]) σ2 H5 else d (i+1) ys σ2 H4)
  (hd:∀ys σ H,d xs.length ys σ H->∀p,H p=none->Q (.ref p) (upd H p<|.lst ys)):U9 src (Rz K a) g tf te Q σ H :=
 IT xs.length d j hz (fun i ys σ H f p=>(hl i ys σ H f p).2) (fun ys σ H p=>⟨xs,(hl _ ys σ H (Zg _) p).1,Zg _⟩) (fun i ys σ H f p=>⟨xs,xs[i],(hl i ys σ H (Yx f) p).1,by simp[f]⟩)
  (fun i ys σ H f p x n y=>by
   obtain⟨e,y⟩:=y;subst e;exact l i x ys σ _ (y xs (hl i ys σ _ (Yx f) p).1) p) hd
theorem HR {lo:Int}{n:Nat}(d:Nat->Dj->St->Hp->Prop)(j:d 0 [] (UK src σ) H)(hz:n<=sizeLine)(hl:∀i ys σ H,i<=n->d i ys σ H->ys.length<=i)
  (l:∀i ys σ H,i<n->d i ys σ H->g (.int<|lo+i) σ H fun σ2 H3=>tf σ2 H3 fun b H4=>if b=true then te σ2 H4 fun y H5=>d (i+1) (ys++[y]) σ2 H5 else d (i+1) ys σ2 H4)
  (hd:∀ys σ H,d n ys σ H->∀p,H p=none->Q (.ref p) (upd H p<|.lst ys)):U9 src (RB lo n) g tf te Q σ H :=
 IT n d j hz hl (fun _ _ _ _=>Zg _) (fun _ _ _ _ f _=>f)
  (fun i ys σ H f p x o y=>by
   obtain⟨e,y⟩:=y;subst e y;exact l i ys σ _ f p) hd
theorem CQ {te:TE}{A:V->St->Hp->Prop}{B:St->Hp->Prop}:(fun σ2 H3=>BI σ2 H3 fun b H4=>if b=true then te σ2 H4 (fun y H5=>A y σ2 H5) else B σ2 H4)=fun(σ2:St) (H3:Hp)=>te σ2 H3 fun y H5=>A y σ2 H5:=by
 funext σ2 H3
 show(if true=true then(te σ2 H3 fun y H5=>A y σ2 H5) else B σ2 H3)=_;rw[Zy rfl]
theorem vA (b:Nat->Dj->St->Hp->Prop)(d:b 0 [] (UK src σ) H)(hz:xs.length<=sizeLine)(hl:∀i ys σ H,i<=xs.length->b i ys σ H->xx K H a xs/\ys.length<=i)
  (f:∀i x ys σ H,xs[i]?=some x->b i ys σ H->g x σ H fun σ2 H3=>te σ2 H3 fun y H5=>b (i+1) (ys++[y]) σ2 H5)
  (hd:∀ys σ H,b xs.length ys σ H->∀p,H p=none->Q (.ref p) (upd H p<|.lst ys)):U9 src (Tj K a) g BI te Q σ H :=
 NH b d hz hl (fun i x ys σ H e p=>by rw[CQ];exact f i x ys σ H e p) hd
theorem jN (b:Nat->Dj->St->Hp->Prop)(d:b 0 [] (UK src σ) H)(hz:xs.length<=sizeLine)(hl:∀i ys σ H,i<=xs.length->b i ys σ H->xg K H a xs/\ys.length<=i)
  (f:∀i x ys σ H,xs[i]?=some x->b i ys σ H->g x σ H fun σ2 H3=>te σ2 H3 fun y H5=>b (i+1) (ys++[y]) σ2 H5)
  (hd:∀ys σ H,b xs.length ys σ H->∀p,H p=none->Q (.ref p) (upd H p<|.lst ys)):U9 src (Rz K a) g BI te Q σ H :=
 OH b d hz hl (fun i x ys σ H e p=>by rw[CQ];exact f i x ys σ H e p) hd
theorem kM {lo:Int}{n:Nat}(b:Nat->Dj->St->Hp->Prop)(d:b 0 [] (UK src σ) H)(hz:n<=sizeLine)(hl:∀i ys σ H,i<=n->b i ys σ H->ys.length<=i)
  (f:∀i ys σ H,i<n->b i ys σ H->g (.int<|lo+i) σ H fun σ2 H3=>te σ2 H3 fun y H5=>b (i+1) (ys++[y]) σ2 H5)
  (hd:∀ys σ H,b n ys σ H->∀p,H p=none->Q (.ref p) (upd H p<|.lst ys)):U9 src (RB lo n) g BI te Q σ H :=
 HR b d hz hl (fun i ys σ H e p=>by rw[CQ];exact f i ys σ H e p) hd
end
mutual
def Dt (K:Cc)(H:Hp):Ek->V->Prop
 | .none,v=>v=.non
 | .bool b,v=>v=.bl b
 | .int i,v=>v=.int i
 | .str x,v=>v=.str x
 | .list ds,v=>∃a d,v=.ref a/\xx K H a d/\za K H ds d
 | .tuple ds,v=>∃a d,v=.ref a/\xg K H a d/\za K H ds d
 | .dict _,_=>False
def za (K:Cc)(H:Hp):Df->Dj->Prop
 |[],xs=>xs=[]
 |d::ds,xs=>∃x r,xs=x::r/\Dt K H d x/\za K H ds r
end
theorem zy.yh {K:Cc}(e:zy H H')(h:xg K H a xs):xg K H' a xs:=by
 rcases h with(h|⟨o,h⟩)|h
 ·exact .inl (.inl<|e _ _ h)
 ·exact .inl (.inr ⟨o,e _ _ h⟩)
 ·exact .inr h
mutual
theorem Dt.same {K:Cc}(e:zy H H'):∀(d:Ek) (v:V),Dt K H d v->Dt K H' d v
 | .none,_,h=>h
 | .bool _,_,h=>h
 | .int _,_,h=>h
 | .str _,_,h=>h
 | .list ds,_,⟨a,xs,h1,h2,h3⟩=>⟨a,xs,h1,e.seq h2,za.same e ds xs h3⟩
 | .tuple ds,_,⟨a,xs,h1,h2,h3⟩=>⟨a,xs,h1,e.yh h2,za.same e ds xs h3⟩
 | .dict _,_,h=>h
theorem za.same {K:Cc}(e:zy H H'):∀(ds:Df) (xs:Dj),za K H ds xs->za K H' ds xs
 |[],_,h=>h
 |d::ds,_,⟨x,r,h1,h2,h3⟩=>⟨x,r,h1,Dt.same e d x h2,za.same e ds r h3⟩
end
theorem za.length {K:Cc}:∀{ds:Df} {xs:Dj},za K H ds xs->xs.length=ds.length
 |[],_,h=>by cases(show _=[] from h);rfl
 |d::ds,_,⟨x,r,h1,h2,h3⟩=>by rw[h1,Zj,Zj,za.length h3]
theorem za.get {K:Cc}:∀{ds:Df} {xs:Dj} {i:Nat} {x:V},za K H ds xs->xs[i]?=some x->∃d,ds[i]?=some d/\Dt K H d x
 |[],_,_,_,h,e=>by cases(show _=[] from h);simp at e
 |d::ds,_,0,_,⟨x,r,h1,h2,h3⟩,e=>by rw[h1]at e;simp at e;subst e;exact⟨d,rfl,h2⟩
 |d::ds,_,i+1,_,⟨x,r,h1,h2,h3⟩,e=>by
  rw[h1]at e;obtain⟨b,f,g⟩:=za.get (i:=i) h3 (by simpa using e);exact⟨b,by simpa using f,g⟩
theorem za.strs {K:Cc}:∀(ls:Da),za K H (ls.map EI) (ls.map V.str)
 |[]=>rfl
 |x::ls=>⟨.str x,ls.map V.str,rfl,rfl,za.strs ls⟩
theorem za.uc {K:Cc}:∀{ls:Da} {xs:Dj},za K H (ls.map EI) xs->xs=ls.map V.str
 |[],_,h=>h
 |x::ls,_,⟨v,r,h1,b,h3⟩=>by
  have b:v=V.str x:=b;rw[h1,b,za.uc h3];rfl
section
variable {X:Cx}{Dp:De}{σ:St}{H:Hp}{s:Em}
mutual
theorem Dt.zu (I:Inv X Dp σ H s):∀(d:Ek) (v:V) (u:Eh),Dt X.K H d v->yt v u->∃as,Reads s.heap u d as
 | .none,_,u,h,r=>by
  cases(show _=V.non from h);cases(show u=EC from r);exact⟨_,.none⟩
 | .bool b,_,u,h,r=>by
  cases(show _=V.bl b from h);cases(show u=L7 b from r);exact⟨_,.bool b⟩
 | .int i,_,u,h,r=>by
  cases(show _=V.int i from h);obtain⟨t,e⟩:=(show∃t,u=Mu i t from r);cases e;exact⟨_,.int i t⟩
 | .str x,_,u,h,r=>by
  cases(show _=V.str x from h);obtain⟨t,e⟩:=(show∃t,u=L9 x t from r);cases e;exact⟨_,.str x t⟩
 | .list ds,_,u,⟨a,xs,h1,h2,h3⟩,r=>by
  subst h1;cases(show u=Eu a from r);obtain⟨f,g,⟨o,n,e,c,_,d⟩,_⟩:=I.list h2;obtain⟨as,q⟩:=za.zu I ds xs f h3 g;exact⟨_,.list e c d<|by simpa using q⟩
 | .tuple ds,_,u,⟨a,xs,h1,h2,h3⟩,r=>by
  subst h1;cases(show u=Eu a from r);obtain⟨f,g,⟨o,e,c,n,d⟩,_⟩:=I.tuple h2;obtain⟨as,q⟩:=za.zu I ds xs f h3 g;exact⟨_,.tuple e c d<|by simpa using q⟩
 | .dict _,_,_,h,_=>EE h
theorem za.zu (I:Inv X Dp σ H s):∀(ds:Df) (xs:Dj) (us:Db),za X.K H ds xs->yu xs us->∃as,LL s.heap us ds as
 |[],_,us,h,r=>by
  cases(show _=[] from h);cases r;exact⟨_,.nil⟩
 |d::ds,_,us,⟨x,rr,h1,h2,h3⟩,r=>by
  subst h1;cases r with
  |cons r1 r2 =>
   obtain⟨as,b⟩:=Dt.zu I d x _ h2 r1;obtain⟨bs,e⟩:=za.zu I ds rr _ h3 r2;exact⟨_,.cons b e⟩
end
end
section
variable {X:Cx}
def bt (K:Cc):R2:=fun x y H Q=>∃d e,Dt K H d x/\Dt K H e y/\Lm d=true/\Lm e=true/\Q (.bl<|EJ d e) H
def ao (K:Cc):R2:=fun x y H Q=>∃d e,Dt K H d x/\Dt K H e y/\Lm d=true/\Lm e=true/\Q (.bl<|!EJ d e) H
theorem Ku (j:X.A.units+64<Lj):Cz X (EY .Eq) (bt X.K):=by
 intro r s w H x y v u Q I o p h;obtain⟨d,e,b,f,g,i,q⟩:=h;obtain⟨t,l⟩:=Dt.zu I d x v b o;obtain⟨bs,n⟩:=Dt.zu I e y u f p;exact SeqAt.compareEq_shaped l n g i j ⟨.bl _,H,I,rfl,q⟩
theorem Kv (j:X.A.units+64<Lj):Cz X (EY .NotEq) (ao X.K):=by
 intro r s w H x y v u Q I o p h;obtain⟨d,e,b,f,g,i,q⟩:=h;obtain⟨t,l⟩:=Dt.zu I d x v b o;obtain⟨bs,n⟩:=Dt.zu I e y u f p;exact SeqAt.compareNe_shaped l n g i j ⟨.bl _,H,I,rfl,q⟩
theorem uS:∀{ys:Da} {us:Db},yu (ys.map V.str) us->StrsAre us ys
 |[],us,r=>by rw[Vm]at r;cases r;exact .nil
 |y::ys,us,r=>by
  rw[ZE]at r;cases r with
  |cons r1 r2 =>
   obtain⟨t,e⟩:=r1;subst e;exact .cons y t<|uS r2
theorem XH:∀{us:Db} {ys:Da},StrsAre us ys->yu (ys.map V.str) us
 |_,_,.nil=>.nil
 |_,_,.cons y t r=>.cons ⟨t,rfl⟩<|XH r
def rJoin (K:Cc):V->Dj->Hp->VK->Prop:=fun x e H Q=>∃b p d,x=.str b/\e=[.ref p]/\(xx K H p (d.map V.str)\/xg K H p (d.map V.str))/\(d.map (·.length)).sum+d.length*b.length<=16777216/\Q (.str<|Lq b d) H
theorem Ia:RA X "str.join" (rJoin X.K):=by
 intro o s A H x y v w Q I j g h;obtain⟨l,p,z,rfl,rfl,b,f,q⟩:=h;obtain⟨t,rfl⟩:=j;obtain⟨u,rfl,i⟩:=wX g;cases i
 rcases b with b|b
 ·obtain⟨d,r,e,_⟩:=I.list b;exact join_list e.isList (by simpa using uS r) f fun n k=>⟨.str _,H,I.tok _,⟨_,rfl⟩,q⟩
 ·obtain⟨d,r,e,_⟩:=I.tuple b;exact join_tuple e (by simpa using uS r) f fun n k=>⟨.str _,H,I.tok _,⟨_,rfl⟩,q⟩
theorem X0 {b:Eh}{lo:Option Int}(h:MG b lo):∃o:Option<|Int×Tok,b=partValue o/\lo=o.map (·.1):=by
 cases h with
 |none=>exact⟨none,rfl,rfl⟩
 |int i t=>exact⟨some (i,t),rfl,rfl⟩
def bA:V->Option Int->Option Int->Hp->VK->Prop:=fun x d b H Q=>∃z,x=.str z/\z.length<=sizeLine/\Q (.str<|My z d b) H
theorem Wi:RF X bA:=by
 intro n s B H x v y A p o r Q I j b g i h;obtain⟨z,rfl,d,q⟩:=h;obtain⟨t,rfl⟩:=j;obtain⟨e,rfl,rfl⟩:=X0 g;obtain⟨f,rfl,rfl⟩:=X0 i;refine⟨"str",_,F.slot_str_getitem.lookup,JY _ _ _,wpAny_getItem_str_slice (l:=e) (u:=f) (st:=none) ?_ rfl<|post_val_or_str ⟨ZR (Txt.slice_le z _ _) d,fun w k=>⟨.str _,H,I.tok _,⟨_,rfl⟩,q⟩⟩⟩;exact b
end
section
variable {X:Cx}{Dp:De}{σ:St}{H:Hp}{s:Em}{h':EB}
theorem Inv.qe {t':Nat}{ch:Dd}(I:Inv X Dp σ H s)(g:∀b∈ch,Xe X Dp H b)(k:∀b o,b∉ch->s.heap.get? b=some o->h'.get? b=some o)(th:∀b∈ch,∃o,h'.get? b=some o):Inv X Dp σ H { s with heap:=h',toks:=t' }:=by
 have f:∀b u,H b=some u->b∉ch:=fun b u e z=>by rw[(g b z).1]at e;cases e
 refine I.step (g':=s.gens) (d':=s.drawn) (ch:=ch) (fun b hb=>?_) (fun b o _ _ d e _=>k b o d e) (fun b o _ _ d e _=>⟨o.slots,k b o d e⟩) (fun _ _ _ _ n=>n)
  (fun b o d e=>⟨o,k b o d e⟩) (fun _ _ e=>e) (fun _ _ _ e=>e) (fun b y e=>⟨#[],by rw[e];simp⟩) (fun m hm=>?_) (fun b u e=>?_) I.bare
 ·obtain⟨_,l,_,p,t,w⟩:=g b hb;exact⟨p,l,t,w⟩
 ·obtain⟨o,j,i,x,r⟩:=hm;exact⟨o,j,i,k _ o (fun z=>(g _ z).2.1 rfl) x,r⟩
 ·refine(I.hok b u e).stay (fun c v d q=>k c v ?_ q) (fun _ q=>q) fun _ _ q=>q
  rcases d with z|z
  ·rw[z];exact f b u e
  ·exact f c _ z
theorem Un.mO {D:Ei}(u:Un fs ex H H1 h h1)(i:h.get? D=none)(g:H1 D=none):Un fs ex H (upd H1 D o) h h1 where
 keep:=u.keep
 slot:=u.slot
 free:=fun b f q n j=>by
  have hb:b≠D:=fun z=>by rw[z,i]at q;cases q
  rw[zI hb];exact u.free b f q n j
 there:=u.there
 tups:=fun b d q=>by rw[zI<|zN (u.tups b d q) g];exact u.tups b d q
 tX:=fun b f d q=>by rw[zI<|zN (u.tX b f d q) g];exact u.tX b f d q
 tO:=fun b l q=>by
  obtain⟨m,e⟩:=u.tO b l q;exact⟨m,by rw[zI<|zN e g];exact e⟩
theorem Inv.mZ {T:Ei}{o:HO}(I:Inv X Dp σ H s)(n:H T=none)(f:X.s₀.heap.objs.size<=T)(g:T≠X.env.locals)(i:∀x c,X.env.cells.lookup x=some c->c≠T)(j:∀p∈X.pn++Dp,p.1≠T)
  (new:yj X.prog X.w (upd H T o) s.heap T o):Inv X Dp σ (upd H T o) s:=by
 refine⟨I.ok,I.os,I.bare,I.base.mO (VL f) n,I.loc,I.cell,?_,fun x c e=>?_,fun p b=>?_,I.hok.adopt n new,I.len⟩
 ·rw[zI<|Ey g];exact I.free
 ·rw[zI<|i x c e];exact I.wK x c e
 ·obtain⟨e,l,ne,q,d⟩:=I.pin p b;exact⟨e,by rw[zI<|j p b];exact l,ne,q,d⟩
end
def WN (x:Str):It:=⟨fun i _=>i<x.length,fun i H v b=>b=H/\∃c,x.cps[i]?=some c/\v=.str ⟨#[c]⟩,fun i _=>i=x.length⟩
theorem Gm {P:Ej}{w:Ep}{K:Cc}{S:EG}{it:Ei}{x:Str}{g:Nat->EB->Prop}(D:∀A:ED,A.handled=none->Walks P w A it [it] [it] x.cps.size (SignAt x) g)
  (Z:∀i h,g i h->∃o,h.get? it=some o/\∀v,o.data≠.cell v) (d:∀(A:ED) (i:Nat) (s:Em) (Q:Eh->Dh) (E:Eh->Dh),g i s.heap->Q (.ref it) s->El (Es P w) A (pyIter<|.ref it) Q E s) :
  Turn P w K S (WN x) [it] it g where
 mem:=by simp
 obj:=fun i h st b hb=>by
  have e:b=it:=by simpa using hb
  subst e;exact Z i h st
 keep:=fun i h f st k=>(D {} rfl).frame i h f st k
 item:=by
  intro X C L B F i l s R H E I j st J;subst C L B;obtain⟨p,q,Y,r,t,y⟩:=j it (by simp);refine(D X.A<|I.ok.hd F).item i s _ _ J st fun v f O hv N M=>?_;obtain⟨c,u,G,rfl⟩:=hv;have U:Inv X l R H { s with heap:=f,toks:=O }:=I.turned (fun b o hb e=>M b o (by simpa using hb) e) p q r t y;refine⟨_,rfl,?_⟩;have z:∃T n,Inv X l R n { s with heap:=f,toks:=O }/\yt T (.str ⟨#[c]⟩ u)/\(WN x).nR i H T n/\g (i+1) f/\∀b∈[it],n b=none :=
   ⟨.str ⟨#[c]⟩,H,U,⟨u,rfl⟩,⟨rfl,c,G,rfl⟩,N,fun b hb=>(j b hb).1⟩
  unfold L6;cases S<;>exact Zh z
 done:=by
  intro X C L B F i l s R H E I j st J;subst C L B;obtain⟨p,q,Y,r,t,y⟩:=j it (by simp);exact(D X.A<|I.ok.hd F).done s _ _ (by have e:i=x.length:=J;subst e;exact st) fun f O M=>⟨rfl,I.turned (fun b o hb e=>M b o (by simpa using hb) e) p q r t y⟩
 self:=d
section
variable {X:Cx}{tg:EG}
def bf (d:TE):TI:=fun e H R=>d e H fun x b=>∃z,x=.str z/\R (WN z) b
theorem Kw (r:PE X e te):PI X tg e (bf te):=by
 intro p s y H R I h;refine Ch (r p s y H _ I h) fun v d ⟨x,g,f,w,u⟩=>?_;obtain⟨z,e,q⟩:=u;subst e;obtain⟨t,rfl⟩:=w;have fr:g d.heap.objs.size=none:=f.hok.fresh<|Zg _;cases ha:z.cps.all (·<128)
 ·refine wpAny_pyIter_wide ha ?_;refine⟨d.heap.objs.size,[d.heap.objs.size],fun i h=>h.IsStrIter d.heap.objs.size "str_iterator" z t i,_,g,rfl,f.kept (t':=d.toks) fun b o e=>Zc _ e,Gm (fun A j=>Walks.strWide j _ z t) (fun i h ⟨o,n,_,hd⟩=>⟨o,n,fun v z=>by rw[hd]at z;cases z⟩)<|fun _ _ _ _ _ st l=>wpAny_pyIter_striter_wide st l,⟨_,Zq _ rfl,rfl,rfl⟩,fun b hb=>?_,q⟩
  have e:b=d.heap.objs.size:=by simpa using hb
  subst e;exact f.rY (Zg _) fr
 ·refine wpAny_pyIter_ascii ha ?_;refine⟨d.heap.objs.size,[d.heap.objs.size],fun i h=>h.IsStrIter d.heap.objs.size "str_ascii_iterator" z t i,_,g,rfl,f.kept (t':=d.toks) fun b o e=>Zc _ e,Gm (fun A j=>Walks.strAscii j _ z t) (fun i h ⟨o,n,_,hd⟩=>⟨o,n,fun v z=>by rw[hd]at z;cases z⟩)<|fun _ _ _ _ _ st l=>wpAny_pyIter_striter_ascii st l,⟨_,Zq _ rfl,rfl,rfl⟩,fun b hb=>?_,q⟩
  have e:b=d.heap.objs.size:=by simpa using hb
  subst e;exact f.rY (Zg _) fr
end
abbrev NA (J:It)(g:TG)(tb:TS)(D:Ends)(σ:St)(H:Hp):Prop :=
 ∃W:Nat->Nat->St->Hp->Prop,(∃m,W 0 m σ H)/\∀i m σ H,W i m σ H ->
  (J.stop i H/\D.nx σ H)\/(J.go i H/\∃N:St->Hp->Prop,(∀σ' H',N σ' H'->∃m',m'<m/\W (i+1) m' σ' H')/\∀x H',J.nR i H x H'->g x σ H' fun σ2 H2=>tb { D with nx:=N,ct:=N,bk:=D.nx } σ2 H2)
theorem ML {J:It}{g:TG}{o:TS}{D:Ends}{b:St}{H:Hp}(n:Nat)(d:Nat->St->Hp->Prop)(q:d 0 b H)(l:∀b H,d n b H->J.stop n H)(j:∀i b H,i<n->d i b H->J.go i H)
  (r:∀i b H,i<n->d i b H->∀x H',J.nR i H x H'->g x b H' fun σ2 H2=>o { D with nx:=d<|i+1,ct:=d<|i+1,bk:=D.nx } σ2 H2) (hd:∀b H,d n b H->D.nx b H):NA J g o D b H:=by
 refine⟨fun i m b H=>m=n-i/\i<=n/\d i b H,⟨n,by simp,ZN _,q⟩,?_⟩;rintro i m b H ⟨rfl,u,p⟩
 by_cases f:i<n
 ·exact .inr ⟨j i b H f p,d<|i+1,fun t H' s=>⟨n-(i+1),by lia,rfl,f,s⟩,fun x H' y=>r i b H f p x H' y⟩
 ·have e:i=n:=by lia
  subst e;exact .inl ⟨l b H p,hd b H p⟩
theorem RM {x:Str}{g:TG}{j:TS}{D:Ends}{b:St}{H:Hp}(d:Nat->St->Hp->Prop)(n:d 0 b H)
  (q:∀i c b H,x.cps[i]?=some c->d i b H->g (.str ⟨#[c]⟩) b H fun σ2 H2=>j { D with nx:=d<|i+1,ct:=d<|i+1,bk:=D.nx } σ2 H2) (hd:∀b H,d x.length b H->D.nx b H):NA (WN x) g j D b H :=
 ML x.length d n (fun _ _ _=>rfl) (fun _ _ _ f _=>f) (fun i b H f p v r y=>by
  obtain⟨e,c,o,l⟩:=y;subst e l;exact q i c b _ o p) hd
def aW (K:Cc)(a:Ei):It :=
 ⟨fun i H=>∃b x,xx K H a b/\b[i]?=some x,fun i H v d=>∃T x,H T=none/\v=.ref T/\d=upd H T (.tup [.int i,x])/\∀b,xx K H a b->b[i]?=some x,fun i H=>∃b,xx K H a b/\b.length<=i⟩
theorem Om {P:Ej}{w:Ep}{K:Cc}{DW:List EG} {x1}{Eb:Pos}(a e it:Ei)(j:e≠it) :
  Turn P w K (.Tuple DW x1 Eb) (aW K a) [e,it] e (fun i h=>(∃old,IsEnum h e it i old)/\h.IsListIter it a i) where
 mem:=by simp
 obj:=fun i h st b hb=>by
  obtain⟨⟨old,Z⟩,o,s2,s3,s4⟩:=st
  rcases Zm.mp hb with z|z
  ·subst z;exact⟨_,Z,fun v z=>by cases z⟩
  ·have z:b=it:=by simpa using z
   subst z;exact⟨o,s2,fun v z=>by rw[s4]at z;cases z⟩
 keep:=fun i h h' st k=>by
  obtain⟨⟨old,Z⟩,s2⟩:=st;exact⟨⟨old,k e (by simp) _ Z⟩,s2.at fun o q=>k it (by simp) o q⟩
 item:=by
  intro X L Q J hc i D s σ H E I l st O;subst L Q J;obtain⟨xs,x,B,R⟩:=O;obtain⟨S,Y,p,hz⟩:=I.list B;obtain⟨u,hu,ru⟩:=Y.get R;obtain⟨⟨old,d⟩,f⟩:=st;have fe:=l e (by simp);have fi:=l it (by simp);have M:H s.heap.objs.size=none:=I.hok.fresh<|Zg _;have y:e<s.heap.objs.size:=Zu d;have T:it<s.heap.objs.size:=by obtain⟨o,t,_⟩:=f;exact Zu t
  refine wpAny_pyNext_enum_item d f p.isList (x:=u) (by simpa using hu) j fun h' U g tup sz kp=>?_;refine⟨_,rfl,wpAny_letOwnedTupleGo_enum U fun n en C=>?_⟩;have F:∃old,IsEnum n e it ((i+1:Nat):Int) old:=⟨u,by push_cast;exact en⟩;have A:n.get? s.heap.objs.size=some { cls:=.type "tuple",data:=.seq #[.int i s.toks,u] }:=(C.2 _<|Y3 y).trans tup;have I1:Inv X D σ H { s with heap:=n,toks:=s.toks+1 }:=I.qe (ch:=[e,it]) l (fun b o hb q=>by
   have b1:b≠e:=fun z=>hb (by simp[z]);have b2:b≠it:=fun z=>hb (by simp[z]);exact(C.2 b b1).trans (kp b o b1 b2 q)) (fun b hb=>by
   rcases Zm.mp hb with z|z
   ·subst z;exact⟨_,en⟩
   ·have z:b=it:=by simpa using z
    subst z;obtain⟨o,t,_⟩:=g;exact⟨o,(C.2 b<|Ey j).trans t⟩)
  have G:=I.rY (Zg _) M;have new:yj X.prog X.w (upd H s.heap.objs.size<|.tup [.int i,x]) n s.heap.objs.size (.tup [.int i,x]) :=
   ⟨by show 2<=sizeLine;decide,[.int i s.toks,u],.cons ⟨_,rfl⟩<|.cons ru .nil,⟨_,A,rfl,_,rfl,rfl⟩⟩
  have I2:Inv X D σ (upd H s.heap.objs.size<|.tup [.int i,x]) { s with heap:=n,toks:=s.toks+1 } :=
   I1.mZ M (ZR I.sz<|Zg _) G.2.1 G.2.2.2.2.1 G.2.2.2.2.2 new
  refine⟨.ref s.heap.objs.size,_,I2,rfl,⟨_,x,M,rfl,rfl,fun ys hy=>by rw[I.pD hy B];exact R⟩,⟨F,?_⟩,fun b hb=>?_⟩
  ·obtain⟨o,t,r⟩:=g;exact⟨o,(C.2 it<|Ey j).trans t,r⟩
  ·have N:b<s.heap.objs.size:=by
    rcases Zm.mp hb with z|z
    ·subst z;exact y
    ·have z:b=it:=by simpa using z
     subst z;exact T
   rw[zI<|Zz N];exact(l b hb).1
 done:=by
  intro X L Q J hc i D s σ H E I l st O;subst L Q J;obtain⟨xs,B,R⟩:=O;obtain⟨S,Y,p,hz⟩:=I.list B;obtain⟨⟨old,d⟩,f⟩:=st;obtain⟨f0,f1,f2,f3,f4,f5⟩:=l it (by simp);have hl:=Y.length;exact wpAny_pyNext_enum_end (I.ok.hd hc) d f p.isList (by simp;lia) fun h' eb=>⟨rfl,I.turned (t':=s.toks) (fun b o hb q=>eb b o hb q) f0 f1 f3 f4 f5⟩
 self:=fun _ _ _ _ _ st h=>wpAny_pyIter_enum st.1.choose_spec h
section
variable {X:Cx}{DW:List EG}{x1:Nat}{Eb:Pos}
def WZ (K:Cc)(d:TA):TI:=fun g H R=>d g H fun e b=>∃a,e=[.ref a]/\(∃f,xx K b a f)/\R (aW K a) b
theorem Sn {a:EG}{p pos:Pos}(r:Gl X "enumerate")(hm:X.mg "enumerate"=none)(ha:PA X [a] ta)(v:Ew [a] X.env=[(false,E3 a X.env)]:=by rfl):PI X (.Tuple DW x1 Eb) (.Call (.Name "enumerate" p) [a] [] pos) (WZ X.K ta):=by
 intro j s D H R I h;refine Call_<|vX I r hm boot_enumerate<|Jb (Ch (ha pos j s D H _ I h) fun J d ⟨L,g,f,B,A⟩=>?_) v rfl;obtain⟨l,e,⟨M,t⟩,q⟩:=A;subst e;obtain⟨u,rfl,C⟩:=wX B;cases C;obtain⟨x,G,y,F⟩:=f.list t;refine call_enumerate_list y.isList fun E i w sz kp=>wpAny_pyIter_enum i ?_;have o:g (d.heap.objs.size+1)=none:=f.hok.fresh<|Je _;have n:g d.heap.objs.size=none:=f.hok.fresh<|Zg _;refine⟨d.heap.objs.size+1,[d.heap.objs.size+1,d.heap.objs.size],_,_,g,rfl,f.kept (t':=d.toks) kp,Om l _ _<|Y3<|Jh _,⟨⟨_,i⟩,w⟩,fun b hb=>?_,q⟩
 rcases Zm.mp hb with z|z
 ·subst z;exact f.rY (Je _) o
 ·have z:b=d.heap.objs.size:=by simpa using z
  subst z;exact f.rY (Zg _) n
theorem OV {K:Cc}{xs:Dj}{g:TG}{f:TS}{D:Ends}{b:St}{H:Hp}(d:Nat->St->Hp->Prop)(n:d 0 b H)(hl:∀i b H,i<=xs.length->d i b H->xx K H a xs)
  (q:∀i x T b H,xs[i]?=some x->d i b H->H T=none->g (.ref T) b (upd H T<|.tup [.int i,x]) fun σ2 H2=>f { D with nx:=d<|i+1,ct:=d<|i+1,bk:=D.nx } σ2 H2) (hd:∀b H,d xs.length b H->D.nx b H):NA (aW K a) g f D b H :=
 ML xs.length d n (fun b H p=>⟨xs,hl _ b H (Zg _) p,Zg _⟩) (fun i b H e p=>⟨xs,xs[i],hl i b H (Yx e) p,by simp[e]⟩) (fun i b H e p v s y=>by
  obtain⟨T,x,o,l,j,r⟩:=y;subst l j;exact q i x T b H (r xs<|hl i b H (Yx e) p) p o) hd
def S7 (K:Cc):V->Option Int->Option Int->Hp->VK->Prop:=fun x f e H Q=>∃a b,x=.ref a/\xg K H a b/\∀v d,(v=.ref a/\d=H/\UQ b f e=b)\/(∃p,H p=none/\v=.ref p/\d=upd H p (.tup<|UQ b f e))->Q v d
end
namespace AxT
variable {prog:Ej}{w:Ep}{A:ED}{E:Eh->Dh}{s:Em}
open HT
theorem tB {t j:Ei}{Dn:Array Eh}{q r:Eh}{lo e:Option Int}{Q:Eh->Dh}(b:IsTup s.heap t Dn)(l:s.heap.IsSliceOf j q r .none)(pl:MG q lo)(v:MG r e)
  (p:wF Dn.size 0 lo=0/\wF Dn.size Dn.size e=Dn.size) (h:Q (.ref t) s):El (Es prog w) A (Mt (.ref t)<|.ref j) Q E s:=by
 obtain⟨os,i,g,u⟩:=id l;have f:s.TypeIs (.ref j) "slice":=⟨os,i,g⟩;unfold Mt
 try with_reducible refine Yb ?_
 first|refine Q9 (Zh ?_)|skip
 refine Q9 (wpAny_sequenceKey b.typeIs (by decide) ?_);refine Q9<|Ys (name:=EQ "__getitem__") b.typeIs YZ<|Yg YZ b.typeIs entry_tuple_getitem ?_<|args_tuple_getitem _ _
 show El _ _ (LR (.ref t)>>=_) _ _ s;refine Q9<|tupleItemsOf_ b ?_;refine Q9<|J4 f ?_;rw[Zy<|by decide];refine Q9<|jH l pl v ?_;have d:(((wF Dn.size 0 lo:Nat):Int)==0&&(1:Int)==1&&(wF Dn.size Dn.size e-wF Dn.size 0 lo)==Dn.size)=true:=by
  rw[p.1,p.2];simp
 show El _ _ (if(((wF Dn.size 0 lo:Nat):Int)==0&&(1:Int)==1&&(wF Dn.size Dn.size e-wF Dn.size 0 lo)==Dn.size)=true then _ else _) _ _ s;rw[Zy d];obtain⟨o,y,x,n,hd⟩:=id b;refine Q9 (m:=Builtin.Tuple.tupleIsExact _) ?_;unfold Builtin.Tuple.tupleIsExact;refine Q9<|J4 b.typeIs<|Zh ?_;rw[Zy<|by decide];exact Q9<|JK<|Zh ⟨_,rfl,Zh h⟩
end AxT
section
variable {X:Cx}
theorem mD:RF X (S7 X.K):=by
 intro z s E H x v C D g i B Q I y n p t h;obtain⟨a,e,rfl,u,q⟩:=h;cases y;obtain⟨d,r,l,w⟩:=I.tuple u;have j:d.toArray.size=e.length:=by rw[ZD];exact r.length.symm
 refine⟨"tuple",_,YZ.lookup,l.typeIs,?_⟩
 by_cases f:HT.wF d.toArray.size 0 g=0/\HT.wF d.toArray.size d.toArray.size i=d.toArray.size
 ·refine AxT.tB l n p t f ⟨.ref a,H,I,rfl,q _ _<|.inl ⟨rfl,rfl,?_⟩⟩;rw[j]at f;unfold UQ;rw[f.1,f.2];simp
 ·refine HT.sI l n p t f ?_ (by rwa[j]);rw[j];refine⟨.ref s.heap.objs.size,_,I.laid (t':=s.toks) (o:=.tup<|UQ e g i) (fun b A q=>Zc _ q) (Zg _) ?_,rfl,q _ _<|.inr ⟨_,I.hok.fresh<|Zg _,rfl,rfl⟩⟩;exact⟨ZR (XZ e g i) w,_,(r.drop<|HT.wF e.length 0 g).take<|HT.wF e.length e.length i-HT.wF e.length 0 g,TupAt.new _ _⟩
structure xj (P:Ej)(w:Ep)(K:Cc)(mg:Str->Dc)(base:EB)(k:Nat)(x:Str)(ps:Da)(sp:Sp):Prop where
 ex:∃(f:Ei) (fd:Eo),yx P w K mg base Cn k f fd ps sp/\mg x=some (.ref f)/\ES K (.ref f)=true/\wW K fd ps []
theorem zJ {e:EG}{es:List EG}{p pos:Pos}(C:xj X.prog X.w X.K X.mg X.base k x ps sp)(j:wY k X.A)(ha:PA X (e::es) t)(i:Gl X x:=by rfl)
  (b:(x==("__debug__":Str))=false:=by decide) (g:Ew (e::es) X.env=(false,E3 e X.env)::Ew es X.env:=by rfl) (d:(Lb pos<|Ew es X.env).any (·.1)=false:=by rfl) :
  PE X (.Call (.Name x p) (e::es) [] pos) (Rr sp [] E0 t):=by
 obtain⟨f,l,F,hm,hk,hb⟩:=C.ex;exact Sg F j i hm hk hb .nil F4 ha b g d
theorem xj.mk' {K:Cc}{st:EK}(F:xf K x qual st f fd)(G:yx P w K mg base Cn k f fd ps sp)(hm:mg x=some (.ref f))
  (b:wW K fd ps []):xj P w K mg base k x ps sp:=⟨f,fd,G,hm,F.kp,b⟩
def KD (P:Ej)(w:Ep)(K:Cc)(a:Ei)(Dm:Dl):Prop:=∀h:EB,K.In h->∃b,KV Dm b/\h.DictOf (zf P w) a b
def aB (P:Ej)(w:Ep)(K:Cc)(g ty:TE):TE:=fun d H Q=>g d H fun x e=>ty d e fun y f=>∃a b k v,x=.ref a/\y=kV k/\KD P w K a b/\Uu b k=some v/\Q v f
theorem Si {pos:Pos}(z:PE X o td)(t:PE X i ty)(A:RD i):PE X (.Subscript o i pos) (aB X.prog X.w X.K td ty):=by
 intro e s j H Q I h;refine BS PySem.F.slot_dict_getitem.lookup A<|Ch (z e s j H _ I h) fun u J ⟨x,n,q,E,C⟩=>Ch (t e J j n _ q C) fun N O ⟨y,p,f,G,a,M,k,v,ex,r,kd,l,D⟩=>?_;subst ex r;obtain rfl:u=Eu a:=E;obtain⟨L,b,g⟩:=kd _ f.tQ;obtain⟨P,B,d⟩:=uw.some_of (v:=v) (o:=ME L k) (by rw[←l];exact b.val k);exact⟨g.typeIs,wpAny_getItem_of (Xa G) g.mapOf B ⟨v,p,f.tok _,d,D⟩⟩
end
theorem yj.there (x:yj P w H h a o):∃ob,h.get? a=some ob:=by
 cases o with
 |lst xs=>obtain⟨_,_,_,_,e⟩:=x;exact⟨_,e⟩
 |tup xs=>obtain⟨_,_,_,ob,e,_⟩:=x;exact⟨_,e⟩
 |dK Dm=>obtain⟨_,_,_,_,ob,_,_,e,_⟩:=x;exact⟨_,e⟩
 |dT Dm=>obtain⟨_,_,_,_,ob,_,_,e,_⟩:=x;exact⟨_,e⟩
 |set S n=>obtain⟨ob,_,_,_,e,_⟩:=x;exact⟨_,e⟩
 |ins C dx fs=>obtain⟨_,_,_,e,_⟩:=x;exact⟨_,e⟩
 |own y=>exact x
 |xd fs=>obtain⟨_,⟨_,_,_,e,_⟩,_⟩:=x;exact⟨_,e⟩
 |rng lo hi=>obtain⟨_,_,_,e⟩:=x;exact⟨_,e⟩
 |frz ob u=>obtain⟨e,_⟩:=x;exact⟨_,e⟩
 |tbl ps=>exact⟨_,(show h.get? a=some _ from x)⟩
 |met f y=>exact⟨_,(show h.get? a=some _ from x)⟩
 |ext φ=>obtain⟨_,e,_⟩:=x;exact e
def ctx0 (vs:Array Eh):Prop:=vs[2]?=some .none
theorem XJ:G6 ctx0:=fun b v h=>by
 show(b.setIfInBounds 1 v)[2]?=some .none;rwa[Array.getElem?_setIfInBounds_ne<|by decide]
def ExcAt (h:EB)(a T:Ei)(cls:Eh):Prop :=
 ∃b d e f,h.get? a=some b/\(b.cls=cls/\ctx0 d)/\b.data=.fields d/\d[1]?=some (.ref T)/\T≠a/\h.get? T=some e/\e.data=.fields f/\f[3]?=some .none
def Cw (P:Ej)(w:Ep):Ot:=fun outer H s E e d=>∃a T cls b,e=.ref a/\d.os=s.os/\Mr d.gens/\Un (frs outer) [] H b s.heap d.heap/\tG P w b d.heap /\
 s.heap.get? a=none/\s.heap.get? T=none/\b a=none/\b T=none/\ExcAt d.heap a T cls/\E cls none b
section
variable {X:Cx}{Dp:De}{σ:St}{H:Hp}{s:Em}
theorem Inv.none_of (I:Inv X Dp σ H s){a:Ei}(e:s.heap.get? a=none):H a=none:=by
 cases q:H a with
 |none=>rfl
 |some u =>
  obtain⟨b,z⟩:=(I.hok a u q).there;rw[e]at z;cases z
theorem Inv.ux (I:Inv X Dp σ H s)(b:X.ex=[]){a:Ei}(e:s.heap.get? a=none):X.s₀.heap.get? a=none:=by
 cases q:X.s₀.heap.get? a with
 |none=>rfl
 |some o =>
  obtain⟨d,z⟩:=I.base.there a o q (by rw[b];simp);rw[e]at z;cases z
abbrev U6 (h:EB)(as:Dd)(l:List Env):Heap:=PySem.W.hideAll h<|as++frs l
theorem kI {h:EB}{base:EB}{l:List Env}(f:h.FunFrames base l):h.FunFrames (U6 h as l) l :=
 PySem.W.funFrames_hide f fun env d b hb=>ZL _<|JG.mpr ⟨env,d,hb⟩
theorem jZ:(U6 h as l).StaysIn h:=fun _ _ q=>PySem.W.of_hideAll _ q
theorem B3 (i:X.stack=X.env::X.outer)(J:X.env.frame=some X.env.locals)(l:X.ex=[])(I:Inv X Dp σ H s){e:Ei}{cls:Eh}{args:Db}{h':EB}(p:Heap.MadeExcOf s.heap h' e cls args){E:XK}(q:E cls none H)
  {Ex:Eh->Dh}:El (Es X.prog X.w) X.A (leaving X.env<|.ref e) (fun _ s''=>Cw X.prog X.w X.outer X.H₀ X.s₀ E (.ref e) s'') Ex { s with heap:=h' }:=by
 have fr:=kI (as:=[]) I.stack;have R:X.A.frames=some (X.env::X.outer):=by rw[I.ok.frames,i]
 obtain⟨t,U,Z,ht⟩:=p.there;have fresh:∀b,s.heap.get? b=none->(U6 s.heap [] X.stack).get? b=none:=fun b hb=>by
  cases Y:(U6 s.heap [] X.stack).get? b with
  |none=>rfl
  |some B=>have:=jZ b B Y;rw[hb]at this;cases this
 rw[i]at fr;refine FH (base:=U6 s.heap [] X.stack) (q:=ctx0) XJ R ((by rw[i];exact fr:s.heap.FunFrames (U6 s.heap [] X.stack) (X.env::X.outer)).of_keeps fun b o hb _=>⟨o,p.keeps b o hb,rfl⟩) J U (fun b o hb=>p.keeps b o<|jZ b o hb) (fresh e p.new) rfl rfl rfl fun G k1 k2 L k4=>?_;obtain⟨oe,vs,T,oT,ts,t1,t2,t3,t4,t5,t6,P,Q,t9⟩:=L;have stk:∀b∈frs X.stack,H b=none:=I.sG;have kp:∀b o,s.heap.get? b=some o->b∉frs X.stack->G.get? b=some o:=fun b o e hb=>k1 b o (Y9 _ e<|by simpa using hb);have D:∀b o,s.heap.get? b=some o->b∈frs X.stack->∃D,G.get? b=some { o with slots:=D }:=fun b o e hb=>by
  obtain⟨_,B,f,hd⟩:=I.stack.mem hb;rw[e]at f;cases f;exact k4 b o (p.keeps b o e) hd
 have nL:∀b o,X.s₀.heap.get? b=some o->b≠X.env.locals:=fun b o e=>Zz<|ZI (Zu e) I.ok.above;have j:∀b,b∉X.ex:=fun b=>by rw[l];simp
 have O:s.heap.get? T=none:=by
  cases qT:s.heap.get? T with
  |none=>rfl
  |some o =>
   exfalso
   by_cases N:T∈frs X.stack
   ·have K:G.FunFrames (U6 s.heap [] X.stack) X.stack:=by have z:=k2;rw[←i]at z;exact z
    obtain⟨_,B,f,hd⟩:=K.mem N;rw[P]at f;cases f;exact hd _ Q
   ·have z:(U6 s.heap [] X.stack).get? T=some o:=Y9 _ qT (by simpa using N);rw[t5]at z;cases z
 refine⟨e,T,cls,H,rfl,I.os,I.bare,⟨fun b o d n hb _=>?_,fun b o d n hb _=>?_,fun b o d n _=>I.base.free b o d n<|j b,fun b o d _=>?_,I.base.tups,I.base.tX,I.base.tO⟩,fun b u d=>?_,I.ux l p.new,I.ux l O,I.none_of p.new,I.none_of O,⟨oe,vs,oT,ts,t1,t2,t3,t4,t6,P,Q,t9⟩,q⟩
 ·refine kp b o (I.base.keep b o d n hb<|j b) fun z=>?_
  rcases Zm.mp (I.rT b z) with r|r
  ·exact nL b o d r
  ·exact hb r
 ·obtain⟨M,x⟩:=I.base.slot b o d n hb<|j b
  by_cases g:b∈frs X.stack
  ·obtain⟨C,F⟩:=D b _ x g;exact⟨C,F⟩
  ·exact⟨M,kp b _ x g⟩
 ·obtain⟨B,x⟩:=I.base.there b o d<|j b
  by_cases g:b∈frs X.stack
  ·obtain⟨C,F⟩:=D b _ x g;exact⟨_,F⟩
  ·exact⟨B,kp b _ x g⟩
 ·refine(I.hok b u d).stay (fun c v S r=>kp c v r fun z=>?_) (fun _ r=>r) fun _ _ r=>r;have g:=stk c z
  rcases S with y|y
  ·rw[y,d]at g;cases g
  ·rw[y]at g;cases g
end
theorem NN {K:Cc}{h:EB}{C:Ei}{e:Db}{b:String}(X:K.In h)(q:EZ K C e b=true) :
  ∃bm N nm q bs hdct sn sub ab col dd k0 k1 k2 k3 k5 mN,h.get? C=some (excClassObj nm q C N bs bm hdct sn sub ab col dd k0 k1 k2 k3 k5 b)/\h.Ns N mN/\mN "__init__"=none/\OwnTail h e bm:=by
 unfold EZ at q
 split at q
 ·rename_i dd o j r
  split at q
  ·rename_i u bm k0 k1 k2 k3 n k5 hm i;simp only[Zk,Jn,Yj]at q;obtain⟨⟨⟨⟨⟨rfl,rfl⟩,d⟩,s⟩,hok⟩,f⟩:=q;obtain⟨nm,bs,mro,ns,t,hd,sn,sub,ab,col,p⟩:=o;dsimp only at hm d hok f;subst hm d;have g:j=#[k0,k1,k2,k3,some<|.builtin n,k5]:=by
    obtain⟨l⟩:=j;simp only at i;rw[i]
   subst g;exact⟨bm,ns,nm,t,bs,hd,sn,sub,ab,col,dd,k0,k1,k2,k3,k5,_,X _ _ r,.of_isNs<|PySem.W.isNs_of_in X hok,PySem.W.nsMap_none_of_in X hok f,PySem.W.tail_of_in X s⟩
  ·cases q
 ·cases q
abbrev U0:Db:=[.type "ValueError",.type "Exception",.type "BaseException",.type "object"]
def Throws (X:Cx)(R:St->Hp->Eh->Prop):Prop:=∀(g:De) (f:St) (H:Hp) (s:Em) (e:Ei) (cls:Eh) (b:Db) (d:EB),Inv X g f H s->Heap.MadeExcOf s.heap d e cls b->R f H cls->X.xe (.ref e) { s with heap:=d }
def Ws (C:Ei)(R:St->Hp->Eh->Prop)(t:TA):TS:=fun _ b H=>t b H fun e d=>e.length<=sizeLine/\R b d (.ref C)
section
variable {X:Cx}
theorem xF {C:Ei}{d:EG}{b:List EG}{L i pos:Pos}(E:X.calm=true)(J:Throws X R)(G:Gl X x)(hm:X.mg x=some (.ref C))(l:EZ X.K C U0 "ValueError.__new__"=true)(ha:PA X (d::b) t)
  (r:Ew (d::b) X.env=(false,E3 d X.env)::Ew b X.env:=by rfl) (v:(Lb i<|Ew b X.env).any (·.1)=false:=by rfl) (hd:(x==("__debug__":Str))=false:=by decide) :
  PS X (.Raise (some<|.Call (.Name x L) (d::b) [] i) none pos) (Ws C R t):=by
 intro p s u H D I h;obtain⟨P,N,nm,q,bs,hdct,sn,sub,ab,col,dd,k0,k1,k2,k3,k5,mN,A,B,o,T⟩:=NN I.ok.mod.mK l;refine wpAny_Raise_call_subU (C:=C) (nm:=nm) (q:=q) (N:=N) (bs:=bs) (bm:=P) (hdct:=hdct) (sn:=sn) (sub:=sub) (ab:=ab) (col:=col) (dd:=dd) (k0:=k0) (k1:=k1) (k2:=k2) (k3:=k3) (k5:=k5)
  F.excBase_ValueError (by decide +kernel) F.excBase_ValueError (mN:=mN) (T.hasType F.excBase_ValueError.hasBase) (I.ok.hd E) (by rw[r];show(false||(Lb i<|Ew b X.env).any (·.1))=false;rw[v];rfl) o (kC I G hm ⟨rfl,?_⟩ hd)
 have f:=ha i p s u H _ I h;rw[r]at f ⊢;exact Lo (Yr f (fun S g ⟨U,w,j,O,Q,M⟩=>⟨rfl,by rw[←O.length];exact Q,j.bk _ _ A,B.keeps j.bk,T.keeps j.bk,fun z e n=>J p u w g e _ _ z j n M⟩) fun _ _ y=>y)
theorem yX {P:Ej}{w:Ep}{K:Cc}{mg:Str->Dc}{base:EB}{N:Da}{qual:Str}{scope:LP}{f:Ei}{b:Eh}{A:ED}{outer:List Env}{s:Em}{H:Hp}{E:XK} :
  Throws (GS (Cw P w) P w K mg base N qual scope f b A outer s H E) (fun _ H' cls=>E cls none H') :=
 fun _ _ _ _ _ _ _ _ I d q=>B3 rfl rfl rfl I d q
end
def Raises (X:Cx)(R:St->Hp->Eh->Prop):Prop:=∀(f:De) (d:St) (H:Hp) (s:Em) (e:Eh) (b:Em),Inv X f d H s->Cw X.prog X.w X.stack H s (fun cls _ g=>R d g cls) e b->X.xe e b
def Wk (sp:Sp)(R:St->Hp->Eh->Prop)(t:TA):TE:=fun b H Q=>t b H fun f e=>sp f e Q<|fun cls _ d=>R b d cls
section
variable {X:Cx}{k:Nat}{f:Ei}{fd:Eo}{ps:Da}{sp:Sp}{x:Str}{p pos:Pos}{e:EG}{es:List EG}{t:TA}{R:St->Hp->Eh->Prop}
theorem Nl {i:De}{g:St}{H:Hp}{s:Em}{Q:VK}{us:Db}{vs:Dj}(F:yx X.prog X.w X.K X.mg X.base (Cw X.prog X.w) k f fd ps sp)(j:wY k X.A)(hb:wW X.K fd ps [])(l:Raises X R)
  (I:Inv X i g H s) (r:yu vs us) (h:sp vs H Q<|fun cls _ H'=>R g H' cls):El (Es X.prog X.w) X.A (call (.ref f) us) (EP X i g Q) X.xe s:=by
 have hl:us.length=ps.length:=by rw[←r.length];exact F.len _ _ _ _ h
 have b:=hb s us I.tQ (by simpa using hl);rw[ZK]at b;refine Vg<|Y4 (F.run X.A X.stack s H ⟨us,[]⟩ us vs Q _ j I.env0 b r h) fun r n d=>?_;cases r with
 |error e=>exact l i g H s e n I d
 |ok fl =>
  cases fl with
  |ret u=>exact I.after d
  |next=>exact EE d
  |brk=>exact EE d
  |cont=>exact EE d
structure wk (P:Ej)(w:Ep)(K:Cc)(mg:Str->Dc)(base:EB)(k:Nat)(x:Str)(ps:Da)(sp:Sp):Prop where
 ex:∃(f:Ei) (fd:Eo),yx P w K mg base (Cw P w) k f fd ps sp/\mg x=some (.ref f)/\ES K (.ref f)=true/\wW K fd ps []
theorem yE (C:wk X.prog X.w X.K X.mg X.base k x ps sp)(n:wY k X.A)(o:Raises X R)(ha:PA X (e::es) t)(l:Gl X x:=by rfl)
  (b:(x==("__debug__":Str))=false:=by decide) (j:Ew (e::es) X.env=(false,E3 e X.env)::Ew es X.env:=by rfl) (d:(Lb pos<|Ew es X.env).any (·.1)=false:=by rfl) :
  PE X (.Call (.Name x p) (e::es) [] pos) (Wk sp R t):=by
 obtain⟨f,fd,F,hm,hk,hb⟩:=C.ex;intro i s u H Q I h;refine Y1<|kC I l hm ?_ b;refine Jo (h₀:=X.base) I.ok.mod.mK hk (Ch (ha pos i s u H _ I h) fun z y ⟨B,v,g,r,q⟩=>⟨g.tQ,?_⟩) j d;exact Nl F n hb o g r q
end
def Wz (X:Cx)(d:De)(H:Hp)(b:Ei):Prop :=
 H b=none/\X.s₀.heap.get? b=none/\b≠X.env.locals/\(∀x c,X.env.cells.lookup x=some c->c≠b)/\∀p∈X.pn++d,p.1≠b
section
variable {X:Cx}{Dp D4:De}{σ:St}{H:Hp}{s:Em}{h':EB}{R:St->Hp->Eh->Prop}
theorem Inv.jf (I:Inv X Dp σ H s)(f:X.ex=[]){H':Hp}{b:Ei}(e:s.heap.get? b=none)(n:H' b=none):Wz X Dp H' b:=by
 refine⟨n,I.ux f e,fun z=>?_,fun x c q z=>?_,fun p g z=>?_⟩
 ·obtain⟨m,⟨o,_,_,d,_⟩,_⟩:=I.loc;rw[←z,e]at d;cases d
 ·obtain⟨v,o,d,_⟩:=I.cell x c q;rw[z,e]at d;cases d
 ·have d:=(I.pin p g).1;rw[z,e]at d;cases d
theorem Inv.land {ch:Dd}(I:Inv X Dp σ H s)(j:∀b∈ch,Wz X Dp H b)(k1:(U6 s.heap ch X.stack).StaysIn h')(k2:s.heap.UpToSlots h')(Q:Nat):Inv X Dp σ H { s with heap:=h',toks:=Q }:=by
 have kp:∀b o,s.heap.get? b=some o->b∉ch->b∉frs X.stack->h'.get? b=some o:=fun b o e t hb=>k1 b o (Y9 _ e (by
  intro z
  rcases ZB.mp z with z|z
  ·exact t z
  ·exact hb z))
 have any:∀b o,s.heap.get? b=some o->b∉ch->∃F,h'.get? b=some { o with slots:=F }:=fun b o e t=>by
  by_cases hb:b∈frs X.stack
  ·obtain⟨_,P,B,hd⟩:=I.stack.mem hb;rw[e]at B;cases B;exact k2 b o e hd
  ·exact⟨o.slots,kp b o e t hb⟩
 have D:∀b,b≠X.env.locals->b∉X.fs->b∉frs X.stack:=fun b L M z=>(Zm.mp<|I.rT b z).elim L M;have O:∀b o,X.s₀.heap.get? b=some o->b≠X.env.locals:=fun b o e=>Zz<|ZI (Zu e) I.ok.above;have q:∀b o,X.s₀.heap.get? b=some o->b∉ch:=fun b o e z=>by rw[(j b z).2.1]at e;cases e
 have f:∀c v,s.heap.IsCell c v->h'.IsCell c v:=fun c v ⟨o,N,hd⟩=>by
  obtain⟨F,e⟩:=k2 c o N fun R z=>by rw[hd]at z;cases z
  exact⟨_,e,hd⟩
 refine⟨I.ok,I.os,I.bare,⟨fun b o e n hb C=>?_,fun b o e n hb C=>?_,I.base.free,fun b o e C=>?_,I.base.tups,I.base.tX,I.base.tO⟩,?_,fun x c e=>?_,I.free,I.wK,fun p G=>?_,fun b u e=>?_,I.len⟩
 ·exact kp b o (I.base.keep b o e n hb C) (q b o e) (D b (O b o e) hb)
 ·obtain⟨F,w⟩:=I.base.slot b o e n hb C;obtain⟨E,A⟩:=any b _ w<|q b o e;exact⟨E,A⟩
 ·obtain⟨P,w⟩:=I.base.there b o e C;obtain⟨E,A⟩:=any b _ w<|q b o e;exact⟨_,A⟩
 ·obtain⟨m,hn,hl⟩:=I.loc;refine⟨m,k2.ns hn,fun i x v w A K=>?_⟩;obtain⟨u,r,l⟩:=hl i x v w A K;refine⟨u,r,?_⟩
  rcases l with l|⟨k,c,e,z⟩
  ·exact .inl l
  ·exact .inr ⟨k,c,e,f c _ z⟩
 ·obtain⟨v,z⟩:=I.cell x c e;exact⟨v,f c v z⟩
 ·obtain⟨e,n,ne,J,d⟩:=I.pin p G;exact⟨kp _ _ e (fun z=>(j _ z).2.2.2.2 p G rfl) (D _ ne J),n,ne,J,d⟩
 ·refine(I.hok b u e).stay (fun c v t r=>kp c v r (fun z=>?_) fun z=>?_) (fun _ r=>r) fun _ _ r=>r
  ·have g:=(j c z).1
   rcases t with y|y
   ·rw[y,e]at g;cases g
   ·rw[y]at g;cases g
  ·have g:=I.sG c z
   rcases t with y|y
   ·rw[y,e]at g;cases g
   ·rw[y]at g;cases g
theorem Inv.lW (I:Inv X Dp σ H s)(f:Wz X Dp H T)(new:yj X.prog X.w (upd H T o) s.heap T o):Inv X Dp σ (upd H T o) s:=by
 obtain⟨n,g,i,j,l⟩:=f;refine⟨I.ok,I.os,I.bare,I.base.mO g n,I.loc,I.cell,?_,fun x c e=>?_,fun p b=>?_,I.hok.adopt n new,I.len⟩
 ·rw[zI<|Ey i];exact I.free
 ·rw[zI<|j x c e];exact I.wK x c e
 ·obtain⟨e,q,ne,r,d⟩:=I.pin p b;exact⟨e,by rw[zI<|l p b];exact q,ne,r,d⟩
theorem Inv.forgot (I:Inv X Dp σ H s){m:Str->Dc}(hn:h'.Ns X.env.locals m)(f:Ll X.env.locals s.heap h')(E:Nat):Inv X Dp (List.replicate X.N.length none) H { s with heap:=h',toks:=E }:=by
 have t:∀b o,X.s₀.heap.get? b=some o->b≠X.env.locals:=fun b o e=>Zz<|ZI (Zu e) I.ok.above;refine⟨I.ok,I.os,I.bare,⟨fun b o e n hb g=>(f.2 b<|t b o e).trans<|I.base.keep b o e n hb g,fun b o e n hb g=>?_,I.base.free,fun b o e g=>?_,I.base.tups,I.base.tX,I.base.tO⟩,⟨m,hn,fun i x v _ q _=>?_⟩,fun x c e=>?_,I.free,I.wK,fun p A=>?_,fun b u e=>?_,by simp⟩
 ·obtain⟨D,l⟩:=I.base.slot b o e n hb g;exact⟨D,(f.2 b<|t b o e).trans l⟩
 ·obtain⟨C,l⟩:=I.base.there b o e g;exact⟨C,(f.2 b<|t b o e).trans l⟩
 ·rw[List.getElem?_replicate]at q
  split at q<;>cases q
 ·obtain⟨v,z⟩:=I.cell x c e;exact⟨v,z.sameBut f<|I.lR x c e⟩
 ·obtain⟨e,n,ne,B,d⟩:=I.pin p A;exact⟨(f.2 p.1 ne).trans e,n,ne,B,d⟩
 ·refine(I.hok b u e).stay (fun c v w r=>(f.2 c fun z=>?_).trans r) (fun _ r=>r) fun _ _ r=>r;have j:=I.free;rw[←z]at j
  rcases w with y|y
  ·rw[y,e]at j;cases j
  ·rw[y]at j;cases j
def Cx.mR (X:Cx)(Dp:De)(R:St->Hp->Eh->Prop):Cx :=
 { X with pn:=X.pn++Dp,xe:=fun e b=>∃a T cls σ H,e=.ref a/\Inv X Dp σ H b/\Wz X Dp H a/\Wz X Dp H T/\ExcAt b.heap a T cls/\R σ H cls }
theorem Inv.into (I:Inv X Dp σ H s)(R:St->Hp->Eh->Prop):Inv (X.mR Dp R) [] σ H s :=
 ⟨⟨I.ok.mod,I.ok.kind,I.ok.glob,I.ok.blt,I.ok.above,I.ok.inj,I.ok.has,I.ok.cab,I.ok.hd,I.ok.frames,I.ok.stk,I.ok.lQ,I.ok.bs,I.ok.nY,I.ok.pZ,I.ok.pL,I.ok.tR,I.ok.nj⟩,I.os,I.bare,I.base,I.loc,I.cell,I.free,I.wK,fun p b=>I.pin p (by
  have b:p∈(X.pn++Dp)++[]:=b;simpa using b),I.hok,I.len⟩
theorem Inv.rC (I:Inv (X.mR Dp R) D4 σ H s):Inv X Dp σ H s :=
 ⟨⟨I.ok.mod,I.ok.kind,I.ok.glob,I.ok.blt,I.ok.above,I.ok.inj,I.ok.has,I.ok.cab,I.ok.hd,I.ok.frames,I.ok.stk,I.ok.lQ,I.ok.bs,I.ok.nY,I.ok.pZ,I.ok.pL,I.ok.tR,I.ok.nj⟩,I.os,I.bare,I.base,I.loc,I.cell,I.free,I.wK,fun p b=>I.pin p<|Ya _ b,I.hok,I.len⟩
theorem SP.rC (h:SP (X.mR Dp R) D4 D f s'):SP X Dp D f s':=by
 cases f with
 |next=>obtain⟨b,d,I,q⟩:=h;exact⟨b,d,I.rC,q⟩
 |brk=>obtain⟨b,d,I,q⟩:=h;exact⟨b,d,I.rC,q⟩
 |cont=>obtain⟨b,d,I,q⟩:=h;exact⟨b,d,I.rC,q⟩
 |ret u=>obtain⟨v,b,d,I,r,q⟩:=h;exact⟨v,b,d,I.rC,r,q⟩
theorem Hh (d:X.ex=[]):Raises (X.mR Dp R) R:=by
 intro D4 σ H s e r I n;obtain⟨a,T,cls,g,rfl,os,bare,un,hok,p,o,ha,l,j,q⟩:=n;have f:Inv X Dp σ H s:=I.rC;have i:Inv X Dp σ g r:=f.call' (ch:=[]) os un hok bare fun b z=>absurd z (by simp);exact⟨a,T,cls,σ,g,rfl,i,f.jf d p ha,f.jf d o l,j,q⟩
def Cx.o9 (X:Cx)(e:Eh):Cx:={ X with A:=X.A.mark<|some e,calm:=false,xe:=fun _ _=>False }
theorem Inv.mark (I:Inv X Dp σ H s)(e:Eh):Inv (X.o9 e) Dp σ H s :=
 ⟨⟨I.ok.mod,I.ok.kind,I.ok.glob,I.ok.blt,I.ok.above,I.ok.inj,I.ok.has,I.ok.cab,fun z=>(by cases z),I.ok.frames,I.ok.stk,I.ok.lQ,I.ok.bs,I.ok.nY,I.ok.pZ,I.ok.pL,I.ok.tR,I.ok.nj⟩,I.os,I.bare,I.base,I.loc,I.cell,I.free,I.wK,I.pin,I.hok,I.len⟩
theorem Inv.unmark {e:Eh}(ok:X.Ok)(I:Inv (X.o9 e) Dp σ H s):Inv X Dp σ H s :=
 ⟨ok,I.os,I.bare,I.base,I.loc,I.cell,I.free,I.wK,I.pin,I.hok,I.len⟩
end
def Xh (a:Ei)(cls:Eh):HO:=.ext fun h=>∃o b,h.get? a=some o/\o.cls=cls/\o.data=.fields b/\ctx0 b
def aI (K:Cc)(C:Ei)(i:Nat)(e:(St->Hp->Eh->Prop)->TS)(th:Ei->TS):TS:=fun D f H=>∃R:St->Hp->Eh->Prop,e R D f H /\
 ∀b d cls a,R b d cls->d a=none->PySem.W.exmOne K cls (.ref C)=some true/\th a { nx:=fun _ _=>False,rt:=D.rt } (b.set i (some<|.ref a)) (upd d a<|Xh a cls)
section
variable {X:Cx}
theorem Sq {body g:List EK}{l:EK}{c n:Str}{C:Ei}{i:Nat}{np G pos:Pos}{tb:(St->Hp->Eh->Prop)->TS}{th:Ei->TS}(J:X.stack=X.env::X.outer)(am:X.env.frame=some X.env.locals)(a6:X.ex=[])
  (hb:∀Dp R,sX (X.mR Dp R) body<|tb R) (hg:Gl X c) (hm:X.mg c=some (.ref C)) (hN:X.N.Nodup) (hi:X.N[i]?=some n) (hl:X.env.scope.names.lookup n=some .local) (hs:∀z:Ei,sX (X.o9<|.ref z) (l::g)<|th z)
  (hd:(c==("__debug__":Str))=false:=by decide):PS X (.Try body [.ExceptHandler (some<|.Name c np) (some n) (l::g) G] [] [] pos) (aI X.K C i tb th):=by
 intro Dp s σ H D I h;obtain⟨R,al,hh⟩:=h;refine wpAny_Try_except<|Yr (hb Dp R [] s σ H D (I.into R) al) (fun f d q=>?_) fun e d q=>?_
 ·have U:SP X Dp D f d:=q.rC;cases f with
  |next=>exact Vd U
  |brk=>exact U
  |cont=>exact U
  |ret u=>exact U
 ·obtain⟨a,T,cls,j,x,rfl,y,fa,fT,⟨oe,vs,oT,ts,e1,e2,e3,e4,e5,e6,e7,e8⟩,r1⟩:=q;obtain⟨hx,ar⟩:=hh j x cls a r1 fa.1;have hA:X.A.frames=some (X.env::X.outer):=by rw[y.ok.frames,J]
  have E:∀b∈[a,T],Wz X Dp x b:=fun b z=>by
   rcases Zm.mp z with z|z
   ·rwa[z]
   ·rwa[Zb.mp z]
  have ab:d.heap.FunFrames (U6 d.heap [a,T] X.stack) (X.env::X.outer):=by have z:=kI (as:=[a,T]) y.stack;rw[J]at z ⊢;exact z
  have ah:Ow ctx0 d.heap (U6 d.heap [a,T] X.stack) a cls .none:=⟨oe,vs,T,oT,ts,e1,e2,e3,e4,JX _<|by simp,e5,e6,e7,e8⟩;refine M4 XJ hA ab am ah jZ (JX _<|by simp) fun h2 Q g2 t M=>?_;refine jD (s:={ d with heap:=h2 }) Q g2 t fun S P Z p O=>?_;have I3:Inv X Dp j x { d with heap:=S }:=y.land E P (M.trans O) d.toks;refine wpAny_handleBy_cons (codeAny_handlers_test ?_) (by intro z;cases z);refine kC (X:=X.o9<|.ref a) (I3.mark _) hg hm ?_ hd;obtain⟨ob,_,_,_,_,ap,⟨F,_⟩,_⟩:=id p;have LT:PySem.W.Looks (Es X.prog X.w) S (typeOf<|.ref a) cls:=F▸(PySem.W.Looks.ld ap).andThen .now;refine(PySem.W.exm_one (K:=X.K) (h:=S) I3.tQ LT hx).here ?_;refine codeAny_handlers_suite_as<|jD (s:={ d with heap:=S }) P Z p fun h4 a2 a5 B a1=>?_;have I4:Inv X Dp j x { d with heap:=h4 }:=y.land E a2 ((M.trans O).trans a1) d.toks;have new:yj X.prog X.w (upd x a<|Xh a cls) h4 a (Xh a cls):=by
   obtain⟨L,a3,_,_,_,Q,⟨g2,gc⟩,g3,_⟩:=B;exact⟨⟨L,a3,Q,g2,g3,gc⟩,⟨L,Q⟩,fun u1 u2 ⟨o,v,z1,z2,z3⟩ k=>⟨o,v,k o z1,z2,z3⟩⟩
  have I5:Inv X Dp j (upd x a<|Xh a cls) { d with heap:=h4 }:=I4.lW fa new;refine IK (X:=X.o9<|.ref a) (v:=.ref a) (I5.mark _) hN hi (EL hl) rfl (fun s6 I6=>?_)<|Or.inr hl;refine Yr (hs a Dp s6 _ _ _ I6 ar) (fun f s7 Y=>?_) fun _ _ z=>z.elim;cases f with
  |ret u =>
   obtain⟨v,a4,H7,I7,rv,q⟩:=Y;have r:Inv X Dp a4 H7 s7:=I7.unmark y.ok;obtain⟨m,hn,_⟩:=r.loc;refine wpAny_nameGoes hl hn (by rw[r.ok.kind];rfl) fun h8 m8 an a0=>?_;exact⟨v,_,H7,r.forgot an a0 _,rv,q⟩
  |next=>obtain⟨_,_,_,z⟩:=Y;exact z.elim
  |brk=>obtain⟨_,_,_,z⟩:=Y;exact z.elim
  |cont=>obtain⟨_,_,_,z⟩:=Y;exact z.elim
end
section
variable {P:Ej}{w:Ep}{K:Cc}{mg:Str->Dc}{base:EB}
theorem xf.qm {st:EK}{k:Nat}{sp:Sp}(F:xf K x qual st f fd)(S:zx N ps<|zG st)
  (e:∀(cdv:Eh) (A:ED) (outer:List Env) (s:Em) (H:Hp) (vs:Dj) (Q:VK) (E:XK),wY k (A.deeper<|Mi qual (zG st) s.heap.objs.size f cdv)->sp vs H Q E -> ∃t,sX (GS (Cw P w) P w K mg base N qual (zG st) f cdv A outer s H E) (xI st) t/\t { nx:=fun _ H'=>Q .non H',rt:=Q } (start N vs) H)(len:∀vs H Q E,sp vs H Q E->vs.length=ps.length:=by intro _ _ _ _ h;first|(cases h;subst_vars;rfl)|repeat first|(obtain⟨rfl,_⟩:=h;rfl)|obtain⟨_,h⟩:=h):yx P w K mg base (Cw P w) (k+1) f fd ps sp:=by
 obtain⟨o,p,kV,g,r,n,cdv,ct,l,rfl,j,b⟩:=F.ex;refine SX j b S len fun A outer s H vs Q E i d=>?_;obtain⟨t,h,q⟩:=e cdv A outer s H vs Q E i d;exact⟨t,h,q⟩
end
section
variable {X:Cx}{a:EG}{ta:TE}{K:Cc}
def aH (K:Cc)(ta:TE):TT:=fun d H Q=>ta d H fun x b=>∃k,Tr K x b k/\Q k b
theorem zO (ha:PE X a ta)(d:∀whole,isTrue a X.env whole=(do let v ←whole;standAt a.pos;MD [v] (truthy v)):=by intro _;rfl)(b:X.K=K:=by rfl):PT X a (aH K ta):=by
 subst b;exact P4 ha d
end
end L2
namespace An
open PySem L2
abbrev cs (x:Str):List Nat:=x.cps.toList
theorem yc (h:cs x=cs y):x=y:=by
 obtain⟨a⟩:=x;obtain⟨b⟩:=y;have:a=b:=by simpa using h
 rw[this]
theorem zq (x y:Str):cs (x++y)=cs x++cs y:=by
 show(x.cps++y.cps).toList=_;simp
theorem zb (x:Str):x.length=(cs x).length:=by simp[Str.length]
theorem yr (x y:Str):(x++y).length=x.length+y.length:=by rw[zb,zb,zb,zq,Zp]
theorem uQ:∀xs:Da,cs (MB "" xs)=xs.flatMap cs
 |[]=>rfl
 |[x]=>by show cs x=_;simp
 |x::y::r=>by
  show cs (x++""++MB "" (y::r))=_;have:cs ("":Str)=[]:=by decide +kernel
  rw[zq,zq,uQ (y::r),this,ZK];simp
theorem j5:∀(a b:Da),E1 (a.map .str) (b.map .str)=decide (a=b)
 |[],[]=>rfl
 |[],_::_=>rfl
 |_::_,[]=>rfl
 |x::a,y::b=>by
  show((x==y)&&E1 (a.map .str) (b.map .str))=_;rw[j5 a b,Z4];simp
structure Ok (n:Nat)(x:Str):Prop where
 len:x.length<=n
 ok:Er x=true
theorem yV (x:Str):Er x=true↔∀c∈cs x,c<1114112:=by
 unfold Er;rw[←Array.all_toList,ZA];simp
theorem Ok.append (h:Ok m x)(h':Ok n y):Ok (m+n) (x++y):=⟨by rw[yr];have:=h.len;have:=h'.len;lia,by
 rw[yV,zq];intro c b
 rcases ZB.mp b with z|z
 ·exact(yV x).mp h.ok c z
 ·exact(yV y).mp h'.ok c z⟩
theorem Gf:∀ls:Da,(∀p∈ls,Er p=true)->Ez (ls.map .str)=true/\EF (ls.map .str)=0
 |[],_=>⟨rfl,rfl⟩
 |x::ls,h=>by
  obtain⟨b,d⟩:=Gf ls fun p e=>h p<|Zf _ e;refine⟨?_,?_⟩
  ·show(Er x&&Ez (ls.map .str))=true;rw[h x Zi,b];rfl
  ·show max 0 (EF<|ls.map .str)=0;rw[d];rfl
theorem xT {ls:Da}(h:∀p∈ls,Er p=true):Lm (.list<|ls.map .str)=true/\Lm (.tuple<|ls.map .str)=true:=by
 obtain⟨b,d⟩:=Gf ls h;refine⟨?_,?_⟩
 ·show(Ez (ls.map .str)&&decide (EF (ls.map .str)+1<=64))=true;rw[b,d];rfl
 ·show(Ez (ls.map .str)&&decide (EF (ls.map .str)+1<=64))=true;rw[b,d];rfl
theorem zF {H:Hp}{l:Ei}(h:H l=none):zy H (upd H l o):=fun b u e=>by rwa[zI<|zN e h]
theorem zy.jg {l:Ei}(e:zy H H2)(n:H l=none):zy H (upd H2 l o):=fun b u q=>by rw[zI<|zN q n];exact e b u q
theorem zp {n:Nat}(h:n<=16777216):n<=sizeLine:=by rwa[Yp]
theorem xS {n:Nat}(h:n<16777216):n<sizeLine:=by rwa[Yp]
theorem Ok.line (h:Ok n x)(hn:n<=16777216):x.length<=sizeLine:=zp<|ZR h.len hn
theorem Fe {b:Type}(x:b)(r:List b):Fa (x::r) 0=some x:=y7 (j:=0) rfl
theorem Uw (n:Nat)(h:n<=16777216:=by decide):n<=sizeLine:=zp h
theorem O5 {c A B:Prop} [Decidable c](hc:¬c)(h:B):if decide c=true then A else B:=by
 rw[Zn hc];exact Ut h
theorem B9 {n:Nat}:∀(ys:Da),(∀y∈ys,y.length<=n)->(ys.map (·.length)).sum<=ys.length*n
 |[],_=>by simp
 |y::ys,h=>by
  have d:=B9 ys fun z b=>h z<|Zf _ b;have e:=h y Zi;rw[ZE,Jf,Zj,Nat.succ_mul];lia
theorem vN {b:Type}{p:b->Prop}{l:List b}{x:b}(h:∀y∈l,p y)(e:p x):∀y∈l++[x],p y:=fun y d=>by
 rcases ZB.mp d with z|z
 ·exact h y z
 ·rwa[Zb.mp z]
theorem Tv {i:Int}(b:0<=i):UQ xs none (some i)=xs.take i.toNat:=by
 obtain⟨j,rfl⟩:=YQ b;unfold UQ;rw[HT.pF,HT.rJ,Vo];show xs.take (min j xs.length-0)=xs.take j
 by_cases h:j<=xs.length
 ·rw[Nat.min_eq_left h];rfl
 ·rw[Nat.min_eq_right<|by lia,Nat.sub_zero,ZJ,Jc<|by lia]
theorem IN {i:Int}(b:0<=i):UQ xs (some i) none=xs.drop i.toNat:=by
 obtain⟨j,rfl⟩:=YQ b;unfold UQ;rw[HT.pF,HT.rJ];show(xs.drop<|min j xs.length).take (xs.length-min j xs.length)=xs.drop j
 by_cases h:j<=xs.length
 ·rw[Nat.min_eq_left h];exact Jc (by rw[YO];lia)
 ·rw[Nat.min_eq_right<|by lia,List.drop_eq_nil_of_le<|Zg _,List.drop_eq_nil_of_le<|by lia];simp
theorem Gw {A B:Prop}(h:B):if(!true)=true then A else B:=by
 show if false=true then A else B;exact Ut h
theorem XT {A B:Prop}(h:A):if(!false)=true then A else B:=by
 show if true=true then A else B;exact Ur h
def one (c:Nat):Str:=⟨#[c]⟩
theorem kJ:∀l:List Nat,cs (Lq ""<|l.map one)=l:=by
 intro l;have b:Lq "" (l.map one)=MB "" (l.map one):=Lg _ _;rw[b,uQ,Ua]
 induction l with
 |nil=>rfl
 |cons c l ih =>
  rw[JW];show[c]++_=_;rw[ih<|Lg _ _];rfl
theorem Hy:∀l:List Nat,((l.map one).map (·.length)).sum=l.length
 |[]=>rfl
 |c::l=>by
  rw[ZE,ZE,Jf,Hy l,Zj];show 1+l.length=_;lia
end An
namespace AxT
open PySem PySem.Spec PyProof.Rows PySem.SeqAt
open AutoSeq1 (wpAny_loadPart')
end AxT
namespace AxR
open PySem PySem.Spec PyProof.Rows
open AutoSeq1 (wpAny_loadPart')
end AxR
namespace L2
open PySem PySem.Spec PyProof.Rows
section
variable {X:Cx}{K:Cc}
def bx:R2:=fun x y H Q=>∃i j:Str,x=.str i/\y=.str j/\Q (.bl<|!decide (j.cps.toList<i.cps.toList)) H
theorem B2:Cz X (EY .LtE) bx:=by
 intro e s g H x y v u Q I b d h;obtain⟨i,j,rfl,rfl,q⟩:=h;obtain⟨t,rfl⟩:=b;obtain⟨f,rfl⟩:=d;exact P.le_str ⟨.bl _,H,I,rfl,q⟩
theorem DE:∀{bs:List Bool} {us:Db},yu (bs.map V.bl) us->us=bs.map L7
 |[],us,h=>by cases h;rfl
 |b::bs,us,h=>by
  cases h with
  |cons r1 r2=>rw[DE r2];cases r1;rfl
def bp (K:Cc):Dj->Hp->VK->Prop:=fun b H Q=>∃(a:Ei) (bs:List Bool),b=[.ref a]/\xx K H a (bs.map V.bl)/\Q (.bl<|bs.all id) H
theorem jC (p:X.calm=true)(o:X.K=K:=by rfl):xq X (.builtin "all") (bp K):=by
 subst o;intro y s L H J G Q I r h;obtain⟨a,bs,rfl,ha,q⟩:=h;obtain⟨u,rfl,w⟩:=wX r;cases w;obtain⟨d,x,t,D⟩:=I.list ha;have j:=DE x;have hl:=t.isList;have g:a<s.heap.objs.size:=by obtain⟨_,e,_⟩:=hl;exact Zu e
 refine call_all_walk<|JV hl ?_;refine⟨s.heap.objs.size,[s.heap.objs.size,a],[s.heap.objs.size],d.toArray.size,_,_,fun i=>(bs[i]?).getD true,rfl,Walks.list (A:=X.A.in1) (I.ok.hd p) _ a (Zz g) d.toArray,⟨⟨_,Zq _ rfl,rfl,rfl⟩,hl.push _⟩,fun i v E B z f l=>?_,fun C F hk=>?_⟩
 ·have f:d[i]?=some v:=by simpa using f
  rw[j,Zs]at f;cases e:bs[i]? with
  |none=>rw[e]at f;cases f
  |some b =>
   rw[e]at f;have f:L7 b=v:=Option.some.inj f;subst f;simp only[e,VE]at l;exact YR l
 ·have n:d.length=bs.length:=by rw[j,Za]
  have e:((EM d.toArray.size).all fun i=>(bs[i]?).getD true)=bs.all id:=by
   rw[ZD,n];exact PyProof.Rows.LSm.range_all bs
  rw[e];exact⟨.bl _,H,I.kept<|PyProof.Rows.LSm.kept_iter hk,rfl,q⟩
end
mutual
def Dw (K:Cc)(H:Hp):Ek->V->Prop
 | .none,v=>v=.non
 | .bool b,v=>v=.bl b
 | .int i,v=>v=.int i
 | .str x,v=>v=.str x
 | .list ds,v=>∃a d,v=.ref a/\xx K H a d/\yo K H ds d
 | .tuple ds,v=>∃a d,v=.ref a/\xg K H a d/\yo K H ds d
 | .dict _,v=>∃a e,v=.ref a/\H a=some (.dK e)
def yo (K:Cc)(H:Hp):Df->Dj->Prop
 |[],xs=>xs=[]
 |d::ds,xs=>∃x r,xs=x::r/\Dw K H d x/\yo K H ds r
end
mutual
theorem Dw.same {K:Cc}(e:zy H H'):∀(d:Ek) (v:V),Dw K H d v->Dw K H' d v
 | .none,_,h=>h
 | .bool _,_,h=>h
 | .int _,_,h=>h
 | .str _,_,h=>h
 | .list ds,_,⟨a,xs,h1,h2,h3⟩=>⟨a,xs,h1,e.seq h2,yo.same e ds xs h3⟩
 | .tuple ds,_,⟨a,xs,h1,h2,h3⟩=>⟨a,xs,h1,e.yh h2,yo.same e ds xs h3⟩
 | .dict _,_,⟨a,Dm,h1,h2⟩=>⟨a,Dm,h1,e _ _ h2⟩
theorem yo.same {K:Cc}(e:zy H H'):∀(ds:Df) (xs:Dj),yo K H ds xs->yo K H' ds xs
 |[],_,h=>h
 |d::ds,_,⟨x,r,h1,h2,h3⟩=>⟨x,r,h1,Dw.same e d x h2,yo.same e ds r h3⟩
end
mutual
theorem Dt.dw {K:Cc}:∀{d:Ek} {v:V},Dt K H d v->Dw K H d v
 | .none,_,h=>h
 | .bool _,_,h=>h
 | .int _,_,h=>h
 | .str _,_,h=>h
 | .list ds,_,⟨a,xs,h1,h2,h3⟩=>⟨a,xs,h1,h2,za.dw h3⟩
 | .tuple ds,_,⟨a,xs,h1,h2,h3⟩=>⟨a,xs,h1,h2,za.dw h3⟩
 | .dict _,_,h=>h.elim
theorem za.dw {K:Cc}:∀{ds:Df} {xs:Dj},za K H ds xs->yo K H ds xs
 |[],_,h=>h
 |d::ds,_,⟨x,r,h1,h2,h3⟩=>⟨x,r,h1,Dt.dw h2,za.dw h3⟩
end
theorem yo.length {K:Cc}:∀{ds:Df} {xs:Dj},yo K H ds xs->xs.length=ds.length
 |[],_,h=>by rw[show _=[] from h];rfl
 |d::ds,_,⟨x,r,h1,h2,h3⟩=>by rw[h1,Zj,Zj,yo.length h3]
theorem yo.get {K:Cc}:∀{ds:Df} {xs:Dj} {i:Nat} {x:V},yo K H ds xs->xs[i]?=some x->∃d,ds[i]?=some d/\Dw K H d x
 |[],_,i,x,h,e=>by rw[show _=[] from h]at e;cases e
 |d::ds,_,0,x,⟨x',r,h1,h2,h3⟩,e=>by
  rw[h1]at e;cases e;exact⟨d,rfl,h2⟩
 |d::ds,_,i+1,x,⟨x',r,h1,h2,h3⟩,e=>by
  rw[h1]at e;obtain⟨b,f,g⟩:=yo.get (i:=i) h3 (by simpa using e);exact⟨b,by simpa using f,g⟩
theorem yo.at {K:Cc}{i:Nat}{d:Ek}(h:yo K H ds xs)(e:ds[i]?=some d):∃x,xs[i]?=some x/\Dw K H d x:=by
 have f:i<xs.length:=by rw[h.length];exact(Zv.mp e).1
 obtain⟨g,b,q⟩:=h.get<|Zl f;rw[e]at b;cases b;exact⟨_,Zl f,q⟩
def UE:Ek->String
 | .none=>"NoneType"
 | .bool _=>"bool"
 | .int _=>"int"
 | .str _=>"str"
 | .list _=>"list"
 | .tuple _=>"tuple"
 | .dict _=>"dict"
section
variable {X:Cx}{Dp:De}{σ:St}{H:Hp}{s:Em}{A:ED}{E:Eh->Dh}{Q:Eh->Dh}{c:Eh}{b:Bool}{K:Cc}
theorem NX (I:Inv X Dp σ H s)(f:yt x u)(hd:Dw X.K H d x)(e:ET X.K (.type<|UE d) c=some b)(h:∀tk,Q (.bool b) { s with toks:=tk }) :
  El (Es X.prog X.w) A (call (.builtin "isinstance") [u,c]) Q E s:=by
 cases d with
 |none=>cases(show x=_ from hd);exact jQ I f .non e h
 |bool y=>cases(show x=_ from hd);exact jQ I f (.bl y) e h
 |int i=>cases(show x=_ from hd);exact jQ I f (.int i) e h
 |str y=>cases(show x=_ from hd);exact jQ I f (.str y) e h
 |dict Dm=>obtain⟨a,v,rfl,r⟩:=hd;exact jQ I f (.dK r) e h
 |list ds =>
  obtain⟨a,t,rfl,l,_⟩:=hd;cases(show u=Eu a from f);obtain⟨q,_,⟨o,n,g,j,_⟩,_⟩:=I.list l;exact Yi V2 I.tQ ⟨o,g,j⟩ e (fun z=>nomatch z) h
 |tuple ds =>
  obtain⟨a,t,rfl,l,_⟩:=hd;cases(show u=Eu a from f);obtain⟨q,_,p,_⟩:=I.tuple l;obtain⟨o,g,j,_⟩:=p;exact Yi PySem.W.kitx_tuple I.tQ ⟨o,g,j⟩ e (fun z=>nomatch z) h
def aj (K:Cc):Dj->Hp->VK->Prop:=fun e H Q=>∃y T d b,e=[y,.ty T]/\Dw K H d y/\ET K (.type<|UE d) (.type T)=some b/\Q (.bl b) H
theorem zT (f:X.K=K:=by rfl):xq X (.builtin "isinstance") (aj K):=by
 subst f;intro Dp s σ H o n Q I r h;obtain⟨y,T,d,b,rfl,hd,g,q⟩:=h;obtain⟨u,j,rfl,i,e⟩:=vals2 r;cases(show j=Value.type T from e);exact NX I i hd g fun l=>⟨.bl b,H,I.tok _,rfl,q⟩
end
section
variable {src:List (Option Nat)}{g:TG}{te:TE}{Q:VK}{σ:St}{H:Hp}
theorem Bk {x:Str}(b:Nat->Dj->St->Hp->Prop)(f:b 0 [] (UK src σ) H)(hz:x.length<=sizeLine)(hl:∀i ys σ H,i<=x.length->b i ys σ H->ys.length<=i)
  (l:∀i c ys σ H,x.cps[i]?=some c->b i ys σ H->g (.str ⟨#[c]⟩) σ H fun σ2 H3=>te σ2 H3 fun y H5=>b (i+1) (ys++[y]) σ2 H5)
  (hd:∀ys σ H,b x.length ys σ H->∀p,H p=none->Q (.ref p) (upd H p<|.lst ys)):U9 src (WN x) g BI te Q σ H :=
 IT x.length b f hz hl (fun _ _ _ _=>rfl) (fun _ _ _ _ d _=>d)
  (fun i ys σ H d p o n y=>by
   obtain⟨e,c,j,rfl⟩:=y;subst e;rw[CQ];exact l i c ys σ _ j p) hd
end
section
variable {X:Cx}{K:Cc}{a b c d:EG}{ta tb tc td:TE}{pos:Pos}
def S5:R2:=fun x y H Q=>∃(i:Str) (n:Int),x=.str i/\y=.int n/\MulOk i n/\Q (.str<|Txt.mul i n) H
theorem Ik:Cz X (MA .Mult) S5:=by
 intro f s g H x y v u Q I b d h;obtain⟨i,n,rfl,rfl,ok,q⟩:=h;obtain⟨t,rfl⟩:=b;obtain⟨e,rfl⟩:=d;exact SB.mul ok fun e k=>⟨.str _,H,I.tok _,⟨_,rfl⟩,q⟩
def bu (K:Cc)(tup e:Bool):R2:=fun x y H Q=>∃(d:Ek) (b:Df),Dt K H d x/\Dt K H (if tup then .tuple b else .list b) y/\Ez b=true/\d.canLay0=true/\d.depth<=60/\Q (.bl<|e !=b.any fun y=>EJ y d) H
end
section
variable {X:Cx}{Dp:De}{σ:St}{H:Hp}{s:Em}
theorem GV (p:X.stack=X.env::X.outer)(N:X.env.frame=some X.env.locals)(B:X.ex=[])(I:Inv X Dp σ H s){a T:Ei}{cls:Eh}(na:X.s₀.heap.get? a=none)(nT:X.s₀.heap.get? T=none)(ha:H a=none)(hT:H T=none)(ea:ExcAt s.heap a T cls){E:XK}(q:E cls none H)
  {Ex:Eh->Dh}:El (Es X.prog X.w) X.A (leaving X.env<|.ref a) (fun _ s''=>Cw X.prog X.w X.outer X.H₀ X.s₀ E (.ref a) s'') Ex s:=by
 have fr:=kI (as:=[a,T]) I.stack;have hA:X.A.frames=some (X.env::X.outer):=by rw[I.ok.frames,p]
 have C:∀b,b=a\/b=T->(U6 s.heap [a,T] X.stack).get? b=none:=fun b hb=>by
  cases D:(U6 s.heap [a,T] X.stack).get? b with
  |none=>rfl
  |some o =>
   exfalso;have z:=JX ([a,T]++frs X.stack) (h:=s.heap) (b:=b) (Ya _<|by simpa using hb);rw[z]at D;cases D
 obtain⟨oe,vs,oT,ts,t1,t2,t3,t4,t6,t7,t8,t9⟩:=ea;have tw:Ow ctx0 s.heap (U6 s.heap [a,T] X.stack) a cls .none:=⟨oe,vs,T,oT,ts,t1,t2,t3,t4,C T<|.inr rfl,t6,t7,t8,t9⟩;refine Ki (base:=U6 s.heap [a,T] X.stack) XJ hA (by rwa[←p]) N tw jZ (C a<|.inl rfl) fun M k1 k2 L k4=>?_;obtain⟨Y,ah,f,R,ab,u1,u2,u3,u4,u5,u6,u7,u8,u9⟩:=L;have stk:∀b∈frs X.stack,H b=none:=I.sG;have kp:∀b o,s.heap.get? b=some o->b≠a->b≠T->b∉frs X.stack->M.get? b=some o:=fun b o e h3 h4 hb=>k1 b o (Y9 _ e (by
  intro z
  rcases ZB.mp z with z|z
  ·have z:b=a\/b=T:=by simpa using z
   exact z.elim h3 h4
  ·exact hb z))
 have J:∀b o,s.heap.get? b=some o->b∈frs X.stack->∃J,M.get? b=some { o with slots:=J }:=fun b o e hb=>by
  obtain⟨_,Q,g,hd⟩:=I.stack.mem hb;rw[e]at g;cases g;exact k4 b o e hd
 have nL:∀b o,X.s₀.heap.get? b=some o->b≠X.env.locals:=fun b o e=>Zz<|ZI (Zu e) I.ok.above;have j:∀b,b∉X.ex:=fun b=>by rw[B];simp
 have P:∀b o,X.s₀.heap.get? b=some o->b≠a:=fun b o e z=>by rw[z,na]at e;cases e
 have t:∀b o,X.s₀.heap.get? b=some o->b≠T:=fun b o e z=>by rw[z,nT]at e;cases e
 have F:f=T\/s.heap.get? f=none:=by
  by_cases D:f=T
  ·exact .inl D
  ·refine .inr ?_;cases qT:s.heap.get? f with
   |none=>rfl
   |some o =>
    exfalso
    by_cases hf:f∈frs X.stack
    ·have O:M.FunFrames (U6 s.heap [a,T] X.stack) X.stack:=by have z:=k2;rw[←p]at z;exact z
     obtain⟨_,Q,g,hd⟩:=O.mem hf;rw[u7]at g;cases g;exact hd _ u8
    ·have z:(U6 s.heap [a,T] X.stack).get? f=some o:=Y9 _ qT (by
      intro z
      rcases ZB.mp z with z|z
      ·have z:f=a\/f=T:=by simpa using z
       exact z.elim u6 D
      ·exact hf z)
     rw[u5]at z;cases z
 have S:X.s₀.heap.get? f=none:=F.elim (fun z=>by rwa[z]) fun z=>I.ux B z;have U:H f=none:=F.elim (fun z=>by rwa[z]) fun z=>I.none_of z;refine⟨a,f,cls,H,rfl,I.os,I.bare,⟨fun b o d n hb _=>?_,fun b o d n hb _=>?_,fun b o d n _=>I.base.free b o d n<|j b,fun b o d _=>?_,I.base.tups,I.base.tX,I.base.tO⟩,fun b u d=>?_,na,S,ha,U,⟨Y,ah,R,ab,u1,u2,u3,u4,u6,u7,u8,u9⟩,q⟩
 ·refine kp b o (I.base.keep b o d n hb<|j b) (P b o d) (t b o d) fun z=>?_
  rcases Zm.mp (I.rT b z) with r|r
  ·exact nL b o d r
  ·exact hb r
 ·obtain⟨Z,x⟩:=I.base.slot b o d n hb<|j b
  by_cases i:b∈frs X.stack
  ·obtain⟨G,K⟩:=J b _ x i;exact⟨G,K⟩
  ·exact⟨Z,kp b _ x (P b o d) (t b o d) i⟩
 ·obtain⟨Q,x⟩:=I.base.there b o d<|j b
  by_cases i:b∈frs X.stack
  ·obtain⟨G,K⟩:=J b _ x i;exact⟨_,K⟩
  ·exact⟨Q,kp b _ x (P b o d) (t b o d) i⟩
 ·have off:∀c,(c=b\/H c=some (.own b))->H c≠none:=fun c l z=>by
   rcases l with y|y
   ·rw[y,d]at z;cases z
   ·rw[y]at z;cases z
  refine(I.hok b u d).stay (fun c v l r=>kp c v r (fun z=>?_) (fun z=>?_) fun z=>?_) (fun _ r=>r) fun _ _ r=>r
  ·rw[z]at l
   rcases l with y|y
   ·rw[←y,ha]at d;cases d
   ·rw[ha]at y;cases y
  ·rw[z]at l
   rcases l with y|y
   ·rw[←y,hT]at d;cases d
   ·rw[hT]at y;cases y
  ·have i:=stk c z
   rcases l with y|y
   ·rw[y,d]at i;cases i
   ·rw[y]at i;cases i
end
theorem zX {P:Ej}{w:Ep}{K:Cc}{mg:Str->Dc}{base:EB}{N:Da}{qual:Str}{scope:LP}{f:Ei}{g:Eh}{A:ED}{outer:List Env}{s:Em}{H:Hp}{E:XK} :
  Raises (GS (Cw P w) P w K mg base N qual scope f g A outer s H E) (fun _ H' cls=>E cls none H'):=by
 intro p v r u e t I l;obtain⟨a,T,cls,H',rfl,os,bare,un,hok,o,n,ha,j,i,q⟩:=l;have d:=I.call' (ch:=[]) os un hok bare fun b z=>absurd z (by simp);exact GV rfl rfl rfl d (I.ux rfl o) (I.ux rfl n) ha j i q
theorem wk.mk' {K:Cc}{st:EK}(F:xf K x qual st f fd)(G:yx P w K mg base (Cw P w) k f fd ps sp)(hm:mg x=some (.ref f))
  (b:wW K fd ps []):wk P w K mg base k x ps sp:=⟨f,fd,G,hm,F.kp,b⟩
instance:DecidableEq PyData:=fun a b=>decidable_of_iff _<|same_iff (a:=a) (b:=b)
mutual
def UV:Ek->Bool
 | .str x=>Er x
 | .tuple ds=>xC ds
 |_=>false
def xC:Df->Bool
 |[]=>true
 |d::ds=>UV d&&xC ds
end
mutual
def IL:Ek->Nat
 | .tuple ds=>qD ds+1
 |_=>0
def qD:Df->Nat
 |[]=>0
 |d::ds=>max (IL d)<|qD ds
end
mutual
def qg (h:EB):Ek->Eh->Prop
 | .str x,v=>∃t,v=.str x t
 | .tuple ds,v=>∃a o b n,v=.ref a/\h.get? a=some o/\o.cls=.type "tuple"/\o.data=.seq b n/\wH h ds b.toList
 |_,_=>False
def wH (h:EB):Df->Db->Prop
 |[],vs=>vs=[]
 |d::ds,vs=>∃v r,vs=v::r/\qg h d v/\wH h ds r
end
mutual
def U3 (w:Ep):Ek->Int
 | .str x=>hashStr w x
 | .tuple ds=>reduceHash<|EU<|vY w ds
 |_=>0
def vY (w:Ep):Df->List Int
 |[]=>[]
 |d::ds=>U3 w d::vY w ds
end
mutual
def Bs:Ek->Nat
 | .tuple ds=>xH ds+1
 |_=>1
def xH:Df->Nat
 |[]=>0
 |d::ds=>Bs d+xH ds
end
theorem Iz (w:Ep):∀ds,vY w ds=ds.map (U3 w)
 |[]=>rfl
 |d::ds=>by rw[vY,Iz w ds];rfl
theorem XW:∀(a b:Df),xH (a++b)=xH a+xH b
 |[],b=>by simp[xH]
 |d::a,b=>by
  show Bs d+xH (a++b)=(Bs d+xH a)+xH b;rw[XW a b];lia
mutual
theorem qg.zu:∀(d:Ek) (v:Eh),qg h d v->∃as,Reads h v d as
 | .str x,_,⟨t,e⟩=>by subst e;exact⟨_,.str x t⟩
 | .tuple ds,_,⟨a,o,vs,n,e,h1,h2,h3,h4⟩=>by
  subst e;obtain⟨as,q⟩:=wH.zu ds vs.toList h4;exact⟨_,.tuple h1 h2 h3 q⟩
 | .none,_,q=>q.elim
 | .bool _,_,q=>q.elim
 | .int _,_,q=>q.elim
 | .list _,_,q=>q.elim
 | .dict _,_,q=>q.elim
theorem wH.zu:∀(ds:Df) (vs:Db),wH h ds vs->∃as,LL h vs ds as
 |[],vs,e=>by cases(show vs=[] from e);exact⟨_,.nil⟩
 |d::ds,_,⟨v,r,e,h1,h2⟩=>by
  subst e;obtain⟨as,q⟩:=qg.zu d v h1;obtain⟨bs,b⟩:=wH.zu ds r h2;exact⟨_,.cons q b⟩
end
mutual
theorem qg.inj:∀(d e:Ek) (v:Eh),qg h d v->qg h e v->d=e
 | .str x,e,v,⟨t,h1⟩,h2=>by
  subst h1;cases e with
  |str y=>obtain⟨j,q⟩:=h2;cases q;rfl
  |tuple ds=>obtain⟨a,o,g,n,q,_⟩:=h2;cases q
  |none=>exact h2.elim
  |bool _=>exact h2.elim
  |int _=>exact h2.elim
  |list _=>exact h2.elim
  |dict _=>exact h2.elim
 | .tuple ds,e,v,⟨a,o,g,n,h1,h3,h4,h5,h6⟩,h2=>by
  subst h1;cases e with
  |str y=>obtain⟨j,q⟩:=h2;cases q
  |tuple es =>
   obtain⟨p,s,l,r,q,b,u,f,i⟩:=h2;cases q;rw[h3]at b;cases b;rw[h5]at f;cases f;rw[wH.inj ds es g.toList h6 i]
  |none=>exact h2.elim
  |bool _=>exact h2.elim
  |int _=>exact h2.elim
  |list _=>exact h2.elim
  |dict _=>exact h2.elim
 | .none,_,_,q,_=>q.elim
 | .bool _,_,_,q,_=>q.elim
 | .int _,_,_,q,_=>q.elim
 | .list _,_,_,q,_=>q.elim
 | .dict _,_,_,q,_=>q.elim
theorem wH.inj:∀(ds es:Df) (vs:Db),wH h ds vs->wH h es vs->ds=es
 |[],[],_,_,_=>rfl
 |[],e::es,vs,h1,⟨v,r,q,_⟩=>by rw[show vs=[] from h1]at q;cases q
 |d::ds,[],vs,⟨v,r,q,_⟩,h2=>by rw[show vs=[] from h2]at q;cases q
 |d::ds,e::es,_,⟨v,r,h1,h3,h4⟩,⟨v',r',q1,q3,q4⟩=>by
  subst h1;injection q1 with b f;subst b f;rw[qg.inj d e v h3 q3,wH.inj ds es r h4 q4]
end
mutual
theorem qg.keeps {h h':EB}{dd:Ei}{g:Obj}{es:Array Mb}{ep:Nat}(b:h.get? dd=some g)(hd:g.data=.dict es ep)(f:Ll dd h h'):∀(d:Ek) (v:Eh),qg h d v->qg h' d v
 | .str x,_,q=>q
 | .tuple ds,_,⟨a,o,vs,n,e,h1,h2,h3,h4⟩=>by
  have ne:a≠dd:=fun z=>by
   subst z;rw[h1]at b;cases b;rw[h3]at hd;cases hd
  exact⟨a,o,vs,n,e,(f.2 a ne).trans h1,h2,h3,wH.keeps b hd f ds vs.toList h4⟩
 | .none,_,q=>q.elim
 | .bool _,_,q=>q.elim
 | .int _,_,q=>q.elim
 | .list _,_,q=>q.elim
 | .dict _,_,q=>q.elim
theorem wH.keeps {h h':EB}{dd:Ei}{g:Obj}{es:Array Mb}{ep:Nat}(b:h.get? dd=some g)(hd:g.data=.dict es ep)(f:Ll dd h h'):∀(ds:Df) (vs:Db),wH h ds vs->wH h' ds vs
 |[],_,q=>q
 |d::ds,_,⟨v,r,e,h1,h2⟩=>⟨v,r,e,qg.keeps b hd f d v h1,wH.keeps b hd f ds r h2⟩
end
section
variable {prog:Ej}{w:Ep}
def CB (prog:Ej)(w:Ep)(d:Ek):Prop:=∀(A:ED) (E:Eh->Dh) (s:Em) (v:Eh) (Q:Int->Dh),A.units+IL d<Lj->qg s.heap d v->Q (U3 w d) { s with toks:=s.toks+Bs d }->El (Es prog w) A (pyHash v) Q E s
theorem CF:∀{ds:Df} {d:Ek},d∈ds->IL d<=qD ds
 |[],_,h=>nomatch h
 |e::ds,d,h=>by
  show IL d<=max (IL e) (qD ds)
  rcases Zm.mp h with rfl|h
  ·lia
  ·have:=CF h;lia
theorem Kb {ds:Df}(L:∀d∈ds,CB prog w d):CB prog w (.tuple ds):=by
 intro A E s v Q J j h;obtain⟨a,o,M,n,rfl,u,G,hd,I⟩:=j;have q:A.units<cLine:=by lia
 have l:s.TypeIs (.ref a) "tuple":=⟨o,u,G⟩;have K:A.units+(qD ds+1)<cLine:=J;unfold pyHash
 first|unfold pyHashByItsType|skip
 first|refine Q9 (wpAny_cRoomFor_or (.inr q) ?_)|skip
 refine Q9<|JP l F.slot_tuple_hash.lookup ?_;show El _ _ (if(some (Mj "tuple.__hash__")==some EC)=true then _ else _) Q E s;rw[Zr (by rw[beq_builtin_none];exact ZM)];refine Q9<|JP l F.slot_tuple_hash.lookup ?_;show El _ _ (callSpecialIfBoundUnlessNone? (.ref a) "__hash__" _>>=_) Q E s;refine Q9<|wpAny_callSpecialIfBoundUnlessNone?_slot l F.slot_tuple_hash<|Yg F.slot_tuple_hash l F.entry_tuple_hash ?_<|F.args_tuple_hash_1 _;show El _ _ (LR (.ref a)>>=_) _ _ s;refine Q9<|VT u hd ?_;refine Q9 ?_;rw[←Array.forIn_toList];refine Ub _
  (fun g (b:Array Int) t=>∃done left,ds=done++left/\wH s.heap left g/\b.toList=done.map (U3 w)/\t={ s with toks:=s.toks+xH done })
  _ ?_ ?_ _ _ ⟨[],ds,rfl,I,rfl,by simp[xH]⟩
 ·rintro x g b t ⟨done,left,e,hl,hb,rfl⟩;cases left with
  |nil=>cases(show x::g=[] from hl)
  |cons d left =>
   obtain⟨v,r,p,C,D⟩:=hl;injection p with z B;subst z B;have hm:d∈ds:=by rw[e];simp
   have H:=CF hm;have y:∃f i,ds=f++i/\wH s.heap i g/\(b.push<|U3 w d).toList=f.map (U3 w)/\({ s with toks:=s.toks+xH done+Bs d }:Em)={ s with toks:=s.toks+xH f } :=
    ⟨done++[d],left,by simp[e],D,by simp[hb],by rw[XW];simp[xH,Nat.add_assoc]⟩
   refine Q9 (L d hm A.in1 _ _ _ _ (by show A.units+1+IL d<Lj;lia) C ?_)
   first
    |exact Zh y
    |exact Q9 (Zh<|Zh y)
 ·rintro b t ⟨done,left,e,hl,hb,rfl⟩;cases left with
  |cons d left=>obtain⟨v,r,p,_⟩:=hl;cases p
  |nil =>
   rw[ZK]at e;subst e;show El _ _ (retInt<|EU b.toList) _ _ _;rw[hb];have h:Q (reduceHash<|EU<|vY w ds) { s with toks:=s.toks+(xH ds+1) }:=h;rw[Iz]at h;refine wpAny_ret_mkInt ?_;show El _ _ (if(decide (-(2:Int) ^ 63<=EU (ds.map<|U3 w))&&decide (EU (ds.map<|U3 w)<2 ^ 63))=true then _ else _) Q E _;unfold reduceHash at h
   by_cases j:(decide (-(2:Int) ^ 63<=EU (ds.map<|U3 w))&&decide (EU (ds.map<|U3 w)<2 ^ 63))=true
   ·rw[Zy j];rw[Zy j]at h;exact Zh (by simpa[Nat.add_assoc] using h)
   ·rw[Zr j];rw[Zr j]at h;exact Q9 (JK<|Zh<|by simpa[Nat.add_assoc] using h)
mutual
theorem MP:∀d:Ek,CB prog w d
 | .str x=>fun A E s v Q _ b h=>by
  obtain⟨t,rfl⟩:=b;exact(strKind prog w).pyHash (k:=x) (by show E6 x (.str x t)=true;simp[E6]) h
 | .tuple ds=>Kb<|FB ds
 | .none=>fun _ _ _ _ _ _ b _=>b.elim
 | .bool _=>fun _ _ _ _ _ _ b _=>b.elim
 | .int _=>fun _ _ _ _ _ _ b _=>b.elim
 | .list _=>fun _ _ _ _ _ _ b _=>b.elim
 | .dict _=>fun _ _ _ _ _ _ b _=>b.elim
theorem FB:∀ds:Df,∀d∈ds,CB prog w d
 |[],_,h=>nomatch h
 |e::ds,d,h=>(Zm.mp h).elim (fun z=>z▸MP e)<|FB ds d
end
mutual
theorem MK:∀(d e:Ek),UV d=true->UV e=true->EJ d e=decide (d=e)
 | .str x,.str y,_,_=>by
  show(x==y)=_;rw[Z4];simp
 | .str _,.tuple _,_,_=>by rw[Zn<|by simp];rfl
 | .tuple _,.str _,_,_=>by rw[Zn<|by simp];rfl
 | .tuple ds,.tuple es,h1,h2=>by
  show E1 ds es=_;rw[Fu ds es h1 h2];exact VF.mpr (by simp)
 | .none,_,h,_=>by cases h
 | .bool _,_,h,_=>by cases h
 | .int _,_,h,_=>by cases h
 | .list _,_,h,_=>by cases h
 | .dict _,_,h,_=>by cases h
 | .str _,.none,_,h=>by cases h
 | .str _,.bool _,_,h=>by cases h
 | .str _,.int _,_,h=>by cases h
 | .str _,.list _,_,h=>by cases h
 | .str _,.dict _,_,h=>by cases h
 | .tuple _,.none,_,h=>by cases h
 | .tuple _,.bool _,_,h=>by cases h
 | .tuple _,.int _,_,h=>by cases h
 | .tuple _,.list _,_,h=>by cases h
 | .tuple _,.dict _,_,h=>by cases h
theorem Fu:∀(ds es:Df),xC ds=true->xC es=true->E1 ds es=decide (ds=es)
 |[],[],_,_=>rfl
 |[],_::_,_,_=>rfl
 |_::_,[],_,_=>rfl
 |d::ds,e::es,b,f=>by
  have b:(UV d&&xC ds)=true:=b;have f:(UV e&&xC es)=true:=f;rw[Zk]at b f;show(EJ d e&&E1 ds es)=_;rw[MK d e b.1 f.1,Fu ds es b.2 f.2,←Bool.decide_and];exact VF.mpr (by simp)
end
mutual
theorem CZ:∀d:Ek,UV d=true->d.canLay0=true/\d.depth<=IL d
 | .str x,h=>⟨h,Zg _⟩
 | .tuple ds,h=>by
  obtain⟨b,e⟩:=HH ds h;refine⟨b,?_⟩;show EF ds+1<=qD ds+1;lia
 | .none,h=>by cases h
 | .bool _,h=>by cases h
 | .int _,h=>by cases h
 | .list _,h=>by cases h
 | .dict _,h=>by cases h
theorem HH:∀ds:Df,xC ds=true->Ez ds=true/\EF ds<=qD ds
 |[],_=>⟨rfl,Zg _⟩
 |d::ds,h=>by
  have h:(UV d&&xC ds)=true:=h;rw[Zk]at h;obtain⟨b,f⟩:=CZ d h.1;obtain⟨e,g⟩:=HH ds h.2;refine⟨?_,?_⟩
  ·show(d.canLay0&&Ez ds)=true;rw[b,e];rfl
  ·show max d.depth (EF ds)<=max (IL d) (qD ds);lia
end
def Ib (prog:Ej)(w:Ep)(d:Ek):Prop:=∀(A:ED) (E:Eh->Dh) (s:Em) (v:Eh) (n:Nat) (Q:Bool->Dh),IL d<=n->qg s.heap d v->Q true s->El (Es prog w) A (eqIsQuiet n v) Q E s
theorem Hg {ds:Df}(G:∀d∈ds,Ib prog w d):Ib prog w (.tuple ds):=by
 intro A E s v n Q hn g h;obtain⟨a,o,p,m,rfl,l,B,hd,D⟩:=g;have j:s.TypeIs (.ref a) "tuple":=⟨o,l,B⟩;have hn:qD ds+1<=n:=hn;obtain⟨n,rfl⟩:∃k,n=k+1:=⟨n-1,by lia⟩;unfold eqIsQuiet;refine Q9<|JP j F.slot_tuple_eq.lookup ?_;show El _ _ (isInstance (.ref a) (.type "tuple")>>=_) _ _ s;refine Q9<|Ji j isSubtype_tuple_tuple ?_;simp only[V6,Yy,JO];refine Q9<|Vp l hd ?_;refine Q9 ?_;show El _ _ (forIn p _ _) _ _ s;rw[←Array.forIn_toList];refine Ub _ (fun b r i=>r.1=none/\i=s/\∃left,(∀d∈left,d∈ds)/\wH s.heap left b) _ ?_ ?_ _ _ ⟨rfl,rfl,ds,fun _ z=>z,D⟩
 ·rintro v b r i ⟨g,rfl,left,hm,hl⟩;cases left with
  |nil=>cases(show v::b=[] from hl)
  |cons d left =>
   obtain⟨K,H,u,x,y⟩:=hl;injection u with q t;subst q t;have f:=hm d Zi;have:=CF f;refine Q9 (G d f A _ i _ n _ (by lia) x ?_);simp only[V6,Yy,JO];exact Zh ⟨rfl,rfl,left,fun e C=>hm e<|Zf _ C,y⟩
 ·rintro⟨I,J⟩ i ⟨g,rfl,_⟩;simp only at g;subst g;exact Zh h
mutual
theorem Hf:∀d:Ek,Ib prog w d
 | .str x=>fun A E s v n Q _ b h=>by
  obtain⟨t,rfl⟩:=b;rw[eqIsQuiet_byValue _<|by rfl];exact Zh h
 | .tuple ds=>Hg<|Bb ds
 | .none=>fun _ _ _ _ _ _ _ b _=>b.elim
 | .bool _=>fun _ _ _ _ _ _ _ b _=>b.elim
 | .int _=>fun _ _ _ _ _ _ _ b _=>b.elim
 | .list _=>fun _ _ _ _ _ _ _ b _=>b.elim
 | .dict _=>fun _ _ _ _ _ _ _ b _=>b.elim
theorem Bb:∀ds:Df,∀d∈ds,Ib prog w d
 |[],_,h=>nomatch h
 |e::ds,d,h=>(Zm.mp h).elim (fun z=>z▸Hf e)<|Bb ds d
end
def yW (prog:Ej)(w:Ep):HeapKind prog w Ek where
 is:=fun h d a=>qg h d (.ref a)/\UV d=true/\IL d<=6
 hash:=U3 w
 draws:=Bs
 room:=fun A=>A.units+8<Lj
 inj:=fun f g=>qg.inj _ _ _ f.1 g.1
 keeps:=fun x j hd l=>⟨qg.keeps j hd l _ _ x.1,x.2⟩
 pyHash:=fun n hk h=>MP _ _ _ _ _ _ (by have:=hk.2.2;lia) hk.1 h
 eqBool:=fun{A E s x y a b Q} n f g h=>by
  obtain⟨i,q⟩:=qg.zu _ _ f.1;obtain⟨bs,r⟩:=qg.zu _ _ g.1;obtain⟨o,t⟩:=CZ _ f.2.1;obtain⟨p,u⟩:=CZ _ g.2.1;have e:=SeqAt.eqAt_reads x y A s _ _ i bs q r o p (by have:=f.2.2;lia);rw[MK _ _ f.2.1 g.2.1]at e;exact e prog w E Q h
 quiet:=fun hk h=>Hf _ _ _ _ _ _ _ (by have:=hk.2.2;lia) hk.1 h
end
def Gd (d:Ei)(es:List Mb):HO:=.ext fun h=>∃o b,h.get? d=some o/\o.ExactDict/\o.data=.dict es.toArray b/\(d==ER)=false
theorem Ni {h:EB}{d:Ei}{es:List Mb}{o:Obj}{ep:Nat}(e:h.get? d=some o)(g:o.ExactDict)(i:o.data=.dict es.toArray ep)(j:(d==ER)=false):yj P w H h d (Gd d es) :=
 ⟨⟨o,ep,e,g,i,j⟩,⟨o,e⟩,fun _ _ ⟨f,b,l,n⟩ k=>⟨f,b,k f l,n⟩⟩
mutual
theorem Dt.other {K:Cc}(n:∀xs,¬Rd H d (.tup xs)):∀(k:Ek) (v:V),UV k=true->Dt K H k v->Dt K (upd H d o) k v
 | .str x,_,_,h=>h
 | .tuple ds,_,t,⟨a,xs,h1,b,h3⟩=>by
  refine⟨a,xs,h1,?_,za.other n ds xs t h3⟩
  rcases b with b|b
  ·have ne:a≠d:=fun z=>n xs<|z▸b
   left
   unfold Rd;rwa[zI ne]
  ·exact .inr b
 | .none,_,t,_=>by cases t
 | .bool _,_,t,_=>by cases t
 | .int _,_,t,_=>by cases t
 | .list _,_,t,_=>by cases t
 | .dict _,_,t,_=>by cases t
theorem za.other {K:Cc}(n:∀xs,¬Rd H d (.tup xs)):∀(ks:Df) (vs:Dj),xC ks=true->za K H ks vs->za K (upd H d o) ks vs
 |[],_,_,h=>h
 |k::ks,_,t,⟨x,r,h1,h2,h3⟩=>by
  have t:(UV k&&xC ks)=true:=t;rw[Zk]at t;exact⟨x,r,h1,Dt.other n k x t.1 h2,za.other n ks r t.2 h3⟩
end
section
variable {X:Cx}{Dp:De}{σ:St}{H:Hp}{s:Em}
mutual
theorem Dt.jz (I:Inv X Dp σ H s):∀(d:Ek) (v:V) (u:Eh),UV d=true->Dt X.K H d v->yt v u->qg s.heap d u
 | .str x,_,u,_,h,r=>by
  cases(show _=V.str x from h);exact r
 | .tuple ds,_,u,t,⟨a,xs,h1,h2,h3⟩,r=>by
  subst h1;cases(show u=Eu a from r);obtain⟨b,f,⟨o,e,c,n,d⟩,_⟩:=I.tuple h2;exact⟨a,o,b.toArray,n,rfl,e,c,d,by simpa using za.jz I ds xs b t h3 f⟩
 | .none,_,_,t,_,_=>by cases t
 | .bool _,_,_,t,_,_=>by cases t
 | .int _,_,_,t,_,_=>by cases t
 | .list _,_,_,t,_,_=>by cases t
 | .dict _,_,_,t,_,_=>by cases t
theorem za.jz (I:Inv X Dp σ H s):∀(ds:Df) (xs:Dj) (us:Db),xC ds=true->za X.K H ds xs->yu xs us->wH s.heap ds us
 |[],_,us,_,h,r=>by
  cases(show _=[] from h);cases r;exact rfl
 |d::ds,_,us,t,⟨x,r,h1,h2,h3⟩,rv=>by
  have t:(UV d&&xC ds)=true:=t;rw[Zk]at t;subst h1;cases rv with
  |cons r1 r2=>exact⟨_,_,rfl,Dt.jz I d x _ t.1 h2 r1,za.jz I ds r _ t.2 h3 r2⟩
end
def Xs (k:Ek):Prop:=UV k=true/\IL k<=6
def wG (K:Cc)(H:Hp)(p:Ek×V)(q:Ek×Ei×Eh):Prop:=p.1=q.1/\Dt K H p.1 (.ref q.2.1)/\yt p.2 q.2.2
def nO (P:Ej)(w:Ep)(K:Cc)(H:Hp)(d:Ei)(ps:List<|Ek×V):Prop :=
 ps.length<=10000/\(∀p∈ps,Xs p.1)/\(ps.map (·.1)).Nodup/\∃b:List<|Ek×Ei×Eh,H d=some (Gd d<|b.map<|L8<|yW P w)/\Ln (wG K H) ps b
theorem wG.keys {K:Cc}:∀{ps:List (Ek×V)} {xs:List (Ek×Ei×Eh)},Ln (wG K H) ps xs->xs.map (·.1)=ps.map (·.1)
 |_,_,.nil=>rfl
 |_,_,.cons r t=>by rw[ZE,ZE,wG.keys t,r.1]
theorem wG.at {K:Cc}{k:Ek}:∀{ps:List (Ek×V)} {xs:List (Ek×Ei×Eh)},Ln (wG K H) ps xs->(atKey xs k=none/\Uu ps k=none)\/∃p v,atKey xs k=some p/\Uu ps k=some v/\yt v p.2
 |_,_,.nil=>.inl ⟨rfl,rfl⟩
 |p::ps,q::xs,.cons r t=>by
  unfold atKey Uu;rw[YY,YY];have e:p.1=q.1:=r.1
  by_cases h:q.1=k
  ·rw[Ze h,Ze<|show p.1=k by rwa[e]];exact .inr ⟨q.2,p.2,rfl,rfl,r.2.2⟩
  ·rw[Zn h,Zn<|show¬p.1=k by rwa[e]];exact wG.at t
theorem wG.is (I:Inv X Dp σ H s):∀{ps:List (Ek×V)} {xs:List (Ek×Ei×Eh)},(∀p∈ps,Xs p.1)->Ln (wG X.K H) ps xs->∀x∈xs,(yW X.prog X.w).is s.heap x.1 x.2.1
 |_,_,_,.nil,x,h=>nomatch h
 |p::ps,q::xs,hk,.cons r t,x,h=>by
  rcases Zm.mp h with rfl|h
  ·obtain⟨b,e⟩:=hk p Zi;rw[←r.1];exact⟨Dt.jz I _ _ _ b r.2.1 rfl,b,e⟩
  ·exact wG.is I (fun p d=>hk p<|Zf _ d) t x h
theorem nO.heap (I:Inv X Dp σ H s)(T:nO X.prog X.w X.K H d ps):∃xs,H d=some (Gd d<|xs.map<|L8<|yW X.prog X.w)/\Ln (wG X.K H) ps xs/\s.heap.DictOfH (yW X.prog X.w) d xs/\(d==ER)=false:=by
 obtain⟨hl,hk,nd,xs,e,r⟩:=T;obtain⟨⟨o,b,f,g,i,j⟩,_⟩:(∃o b,s.heap.get? d=some o/\o.ExactDict/\o.data=.dict (xs.map<|L8<|yW X.prog X.w).toArray b/\(d==ER)=false)/\_:=I.hok d _ e;exact⟨xs,e,r,⟨o,_,b,f,g,i,by simp,wG.is I hk r,by rw[wG.keys r];exact nd⟩,j⟩
theorem Re {A:ED}(b:A.units+64<Lj)(prog:Ej)(w:Ep):(yW prog w).room A.in1:=by
 show A.units+1+8<Lj;lia
theorem key_is (I:Inv X Dp σ H s){k:Ek}{a:Ei}(hk:Xs k)(h:Dt X.K H k<|.ref a):(yW X.prog X.w).is s.heap k a:=⟨Dt.jz I _ _ _ hk.1 h rfl,hk⟩
end
section
variable {X:Cx}{K:Cc}
def bv (P:Ej)(w:Ep)(K:Cc):R2:=fun y x H Q=>∃a d b k,y=.ref a/\x=.ref d/\nO P w K H d b/\Xs k/\Dt K H k (.ref a)/\Q (.bl (Uu b k).isSome) H
theorem TX (e:X.A.units+64<Lj):Cz X (EY .In) (bv X.prog X.w X.K):=by
 intro i s n H y x v u Q I g f h;obtain⟨a,d,j,k,rfl,rfl,T,hk,ha,q⟩:=h;cases g;cases f;obtain⟨l,_,r,b,hd⟩:=T.heap I;refine wpAny_in_heap (Re e _ _) (key_is I hk ha) hd b ⟨.bl _,H,I.tok _,?_,q⟩
 rcases wG.at (k:=k) r with⟨e1,e2⟩|⟨p,v,e1,e2,_⟩
 ·rw[e1,e2];rfl
 ·rw[e1,e2];rfl
def aG (P:Ej)(w:Ep)(K:Cc)(i ty:TE):TE:=fun f H Q=>i f H fun x g=>ty f g fun y b=>∃a d e k v,x=.ref d/\y=.ref a/\nO P w K b d e/\Xs k/\Dt K b k (.ref a)/\Uu e k=some v/\Q v b
theorem Sm {pos:Pos}(D:X.A.units+64<Lj)(B:PE X o td)(z:PE X i ty)(C:RD i):PE X (.Subscript o i pos) (aG X.prog X.w X.K td ty):=by
 intro e s j H Q I h;refine BS PySem.F.slot_dict_getitem.lookup C<|Ch (B e s j H _ I h) fun u N ⟨x,l,q,L,G⟩=>Ch (z e N j l _ q G) fun E P ⟨y,n,b,M,a,d,O,k,v,ex,t,T,hk,ha,g,J⟩=>?_;subst ex t;obtain rfl:u=Eu d:=L;obtain rfl:E=Eu a:=M;obtain⟨R,_,r,f,hd⟩:=T.heap b;refine⟨f.typeIs,?_⟩
 rcases wG.at (k:=k) r with⟨e1,e2⟩|⟨p,v',e1,e2,rv⟩
 ·rw[g]at e2;cases e2
 ·rw[g]at e2;cases e2;exact wpAny_getItem_heap (Re D _ _) (key_is b hk ha) f e1 ⟨v,n,b.tok _,rv,J⟩
def aq (P:Ej)(w:Ep)(K:Cc)(l ty n:TE):TS:=fun D e H=>n e H fun v g=>l e g fun x i=>ty e i fun y b=>∃a d f k,x=.ref d/\y=.ref a/\nO P w K b d f/\f.length<10000/\Xs k/\Dt K b k (.ref a) /\
 ∀o,nO P w K (upd b d o) d (ye f k v)->(∃j,o=Gd d j)->D.nx e (upd b d o)
theorem kP {b d:Type}{F:b->d->Prop}:∀{l l':List b} {m m':List d},Ln F l m->Ln F l' m'->Ln F (l++l') (m++m')
 |_,_,_,_,.nil,h=>h
 |_,_,_,_,.cons r t,h=>.cons r<|kP t h
theorem wG.repl {K:Cc}{k:Ek}(b:yt v u):∀{ps:List (Ek×V)} {xs:List (Ek×Ei×Eh)},Ln (wG K H) ps xs->Ln (wG K H) (ps.map fun p=>if p.1=k then(p.1,v) else p) (xs.map<|putAt k u)
 |_,_,.nil=>.nil
 |p::ps,q::xs,.cons r t=>by
  rw[ZE,ZE];refine .cons ?_<|wG.repl b t;have e:p.1=q.1:=r.1;unfold putAt
  by_cases h:q.1=k
  ·rw[Zy h,Zy<|show p.1=k by rwa[e]];exact⟨r.1,r.2.1,b⟩
  ·rw[Zr h,Zr<|show¬p.1=k by rwa[e]];exact r
theorem wG.put {K:Cc}{a:Ei}{ps:List (Ek×V)}{xs:List (Ek×Ei×Eh)}(r:Ln (wG K H) ps xs)(ha:Dt K H k<|.ref a)(b:yt v u):Ln (wG K H) (ye ps k v) (storedH xs k a u):=by
 have e:(ps.any fun kv=>decide (kv.1=k))=(atKey xs k).isSome:=by
  rcases wG.at (k:=k) r with⟨e1,e2⟩|⟨p,v',e1,e2,_⟩
  ·rw[e1];refine Z0.mpr fun z=>?_;obtain⟨kv,hm,hk⟩:=Z2.mp z;exact vL e2<|Zd.mpr ⟨kv,hm,Zx hk⟩
  ·obtain⟨kv,hm,hk⟩:=Zd.mp<|kK e2;rw[e1,Z2.mpr ⟨kv,hm,Ze hk⟩];rfl
 unfold ye storedH;rw[e]
 split
 ·exact wG.repl b r
 ·exact kP r (.cons ⟨rfl,ha,b⟩ .nil)
theorem P6 {ps:List (Ek×V)}(h:∀p∈ps,Xs p.1)(hk:Xs k):∀p∈ye ps k v,Xs p.1:=by
 unfold ye
 split
 ·intro p b;obtain⟨q,d,rfl⟩:=Zd.mp b
  split
  ·exact h q d
  ·exact h q d
 ·intro p b
  rcases ZB.mp b with b|b
  ·exact h p b
  ·rwa[Zb.mp b]
theorem Sx {ps:List (Ek×V)}(h:(ps.map (·.1)).Nodup):((ye ps k v).map (·.1)).Nodup:=by
 unfold ye
 split
 ·have e:(ps.map fun kv=>if kv.1=k then(kv.1,v) else kv).map (·.1)=ps.map (·.1):=by
   rw[ZF];refine Z1 fun p _=>?_;show(if p.1=k then(p.1,v) else p).1=p.1
   split<;>rfl
  rwa[e]
 ·rename_i hn;rw[Zo];refine jX h fun z=>hn ?_;obtain⟨p,b,e⟩:=Zd.mp z;exact Z2.mpr ⟨p,b,Ze e⟩
theorem So {pos F:Pos}(hu:X.A.units+64<Lj)(ho:PE X o td)(hi:PE X i ty)(hv:PE X value tv)(hs:Mw value (some<|.Subscript o i F) pos.line X.env=LC false) :
  PS X (.Assign [.Subscript o i F] value pos) (aq X.prog X.w X.K td ty tv):=by
 intro q s n H D I h;refine wpAny_Assign_Subscript (Ch (hv q s n H _ I h) fun r s1 ⟨v,M,O,rv,q1⟩=>Ch (ho q s1 n M _ O q1) fun u s2 ⟨x,N,P,rx,q2⟩=>Ch (hi q s2 n N _ P q2) fun iv s3 ⟨y,g,t,ry,a,d,f,k,ex,U,T,hl,hk,ha,q3⟩=>?_) hs;subst ex U;obtain rfl:u=Eu d:=rx;obtain rfl:iv=Eu a:=ry;obtain⟨b,e,l,R,hd⟩:=T.heap t;have hz:b.length<=sizeLine:=by rw[←Paired.length l];exact An.zp (by lia)
 refine wpAny_setItem_heap (hsz:=hz) (Re hu _ _) (key_is t hk ha) R fun h' B E=>?_;obtain⟨L,es,S,G,Y,Z,g4,_,_⟩:=B;have C:L.data=.dict ((storedH b k a r).map<|L8<|yW X.prog X.w).toArray S:=by rw[Z,←g4]
 have mu:Tl (g d):=by rw[e];exact E9
 have Q:=uV (t':=s3.toks+(yW X.prog X.w).draws k) t mu E ⟨L,G⟩<|Ni (H:=upd g d<|Gd d<|(storedH b k a r).map<|L8<|yW X.prog X.w) G Y C hd;have J:∀b,¬Rd g d (.tup b):=fun ys z=>by
  rcases z with z|⟨o',z⟩
  ·rw[e]at z;cases z
  ·rw[e]at z;cases z
 refine⟨n,_,Q,q3 _ ⟨?_,P6 T.2.1 hk,Sx T.2.2.1,storedH b k a r,zB,?_⟩ ⟨_,rfl⟩⟩
 ·have:=xW f k v;lia
 ·have r2:Ln (wG X.K<|upd g d<|Gd d<|(storedH b k a r).map<|L8<|yW X.prog X.w) f b:=by
   have key:∀{f:List (Ek×V)} {b:List (Ek×Ei×Eh)},(∀p∈f,Xs p.1)->Ln (wG X.K g) f b->∀o,Ln (wG X.K<|upd g d o) f b:=by
    intro f b j r
    induction r with
    |nil=>intro _;exact .nil
    |cons r1 _ ih=>intro o;exact .cons ⟨r1.1,Dt.other J _ _ (j _ Zi).1 r1.2.1,r1.2.2⟩<|ih (fun p hp=>j p<|Zf _ hp) o
   exact key T.2.1 l _
  exact wG.put r2 (Dt.other J _ _ hk.1 ha) rv
theorem PP {pos:Pos}:PE X (.Dict [] [] pos) (fun _ H Q=>∀p o,H p=none->nO X.prog X.w X.K (upd H p o) p []->(∃es,o=Gd p es)->Q (.ref p) (upd H p o)):=by
 intro d s e H Q I h;have hn:H s.heap.objs.size=none:=I.hok.fresh<|Zg _;have b:(s.heap.objs.size==ER)=false:=YD.mpr<|Ey<|Zz I.big;exact wpAny_Dict_empty ⟨.ref s.heap.objs.size,_,I.laid (a:=s.heap.objs.size) (o:=Gd s.heap.objs.size []) (t':=s.toks) (fun _ _ q=>Zc _ q) (Zg _)<|Ni (ep:=0) (Zq _ rfl) ⟨rfl,rfl,rfl⟩ rfl b,rfl,h _ _ hn ⟨ZN _,fun _ z=>(nomatch z),Yn,[],zB,.nil⟩ ⟨_,rfl⟩⟩
end
structure Met (P:Ej)(w:Ep)(K:Cc)(mg:Str->Dc)(base:EB)(C:Ei)(k:Nat)(m:Str)(ps:Da)(sp:Sp):Prop where
 ex:∃(f:Ei) (fd:Eo),yx P w K mg base Cn k f fd ps sp/\Meth K C m f/\wW K fd ps []
structure sU (P:Ej)(w:Ep)(K:Cc)(mg:Str->Dc)(base:EB)(C:Ei)(k:Nat)(m:Str)(ps:Da)(sp:Sp):Prop where
 ex:∃(f:Ei) (fd:Eo),yx P w K mg base (Cw P w) k f fd ps sp/\Meth K C m f/\wW K fd ps []
def KP (C:Ei)(m:Str)(sp:Sp)(R:St->Hp->Eh->Prop)(i:TE)(t:TA):TE:=fun b H Q=>i b H fun x d=>∃a g fs,x=.ref a/\d a=some (.ins C g fs)/\fs.lookup m=none /\
 t b d fun j f=>sp (x::j) f Q<|fun cls _ e=>R b e cls
section
variable {X:Cx}{C:Ei}{k:Nat}{m:Str}{ps:Da}{sp:Sp}{o e:EG}{es:List EG}{ta:TE}{t:TA}{Ds pos:Pos}{R:St->Hp->Eh->Prop}
theorem X9 {pl:Sem Bool}(g:PE X o ta)(c:Cls X.K C)(M:Met X.prog X.w X.K X.mg X.base C k m ps sp)(i:wY k X.A)(ha:PA X (e::es) t)
  (d:Ew (e::es) X.env=(false,E3 e X.env)::Ew es X.env:=by rfl) (b:(Lb pos<|Ew es X.env).any (·.1)=false:=by rfl)
  (j:E3 (.Call (.Attribute o m Ds) (e::es) [] pos) X.env=(do
   let ov ←E3 o X.env
   standAt Ds.atName
   let (f,first) ←MD [ov] (Mx ov m pl)
   callWith pos f first (Lb pos<|Ew (e::es) X.env) (Mn pos<|LH [] X.env)):=by rfl) :
  PE X (.Call (.Attribute o m Ds) (e::es) [] pos) (Nr C m sp [] E0 ta t):=by
 obtain⟨f,l,F,hm,hb⟩:=M.ex;exact Sk (pl:=pl) g c hm F i hb .nil F4 ha d b j
theorem kR {pl:Sem Bool}(b:PE X o ta)(c:Cls X.K C)(M:Met X.prog X.w X.K X.mg X.base C k m ps sp)(d:wY k X.A)
  (e:E3 (.Call (.Attribute o m Ds) [] [] pos) X.env=(do
   let ov ←E3 o X.env
   standAt Ds.atName
   let (f,first) ←MD [ov] (Mx ov m pl)
   callWith pos f first (Lb pos<|Ew [] X.env) (Mn pos<|LH [] X.env)):=by rfl) :
  PE X (.Call (.Attribute o m Ds) [] [] pos) (Nr C m sp [] E0 ta U2):=by
 obtain⟨f,g,F,hm,hb⟩:=M.ex;exact PR (pl:=pl) b c hm F d hb .nil F4 e
theorem yZ {pl:Sem Bool}(y:PE X o ta)(c:Cls X.K C)(M:sU X.prog X.w X.K X.mg X.base C k m ps sp)(z:wY k X.A)(D:Raises X R)(ha:PA X (e::es) t)
  (d:Ew (e::es) X.env=(false,E3 e X.env)::Ew es X.env:=by rfl) (b:(Lb pos<|Ew es X.env).any (·.1)=false:=by rfl)
  (B:E3 (.Call (.Attribute o m Ds) (e::es) [] pos) X.env=(do
   let ov ←E3 o X.env
   standAt Ds.atName
   let (f,first) ←MD [ov] (Mx ov m pl)
   callWith pos f first (Lb pos<|Ew (e::es) X.env) (Mn pos<|LH [] X.env)):=by rfl) :
  PE X (.Call (.Attribute o m Ds) (e::es) [] pos) (KP C m sp R ta t):=by
 obtain⟨f,O,F,hm,hb⟩:=M.ex;intro g s n H Q I h;refine Vv (pl:=pl) (Ch (y g s n H _ I h) fun u J ⟨x,p,i,G,a,N,fs,ex,v,l,q⟩=>?_) B;subst ex;obtain rfl:u=Eu a:=G;refine uM i v c hm l ?_;refine Jo (first:=[.ref a]) (h₀:=X.base) I.ok.mod.mK hm.kp (Ch (ha pos g J n p _ i q) fun us P ⟨vs,L,j,r,E⟩=>⟨j.tQ,?_⟩) d b;exact Nl (us:=.ref a::us) (vs:=.ref a::vs) F z hb D j (.cons rfl r) E
end
structure iT (P:Ej)(w:Ep)(K:Cc)(mg:Str->Dc)(base:EB)(C:Ei)(k:Nat)(x:Str)(ps:Da)(sp:Sp):Prop where
 ex:∃(f:Ei) (fd:Eo),yx P w K mg base Cn k f fd ps sp/\Mk K C f/\wW K fd ps []/\mg x=some (.ref C)
theorem Nb {X:Cx}{e:EG}{es:List EG}{p pos:Pos}(M:iT X.prog X.w X.K X.mg X.base C k x ps sp)(j:wY (k+1) X.A)(ha:PA X (e::es) t)(i:Gl X x:=by rfl)
  (b:(x==("__debug__":Str))=false:=by decide) (g:Ew (e::es) X.env=(false,E3 e X.env)::Ew es X.env:=by rfl) (d:(Lb pos<|Ew es X.env).any (·.1)=false:=by rfl) :
  PE X (.Call (.Name x p) (e::es) [] pos) (Te C sp [] E0 t):=by
 obtain⟨f,n,F,hm,hb,l⟩:=M.ex;exact Sj hm F j i l hb .nil F4 ha b g d
theorem IY (x:Str)(i j:Nat):An.cs (EV x i j)=((An.cs x).take j).drop i:=by
 show(x.cps.extract i j).toList=_;rw[Array.toList_extract,List.extract_eq_drop_take,List.drop_take]
theorem X3 (x:Str)(c i:Nat)(t u:Tok)(r:List Nat)(d:EH x ⟨#[c]⟩ 0 x.length 1=i::r)(hz:x.length<=100000):Meets (Builtin.«str.partition» ⟨[.str x t,.str ⟨#[c]⟩ u],[]⟩)
  (fun _ R s=>R (.ok<|.ret<|.ref s.heap.objs.size) { s with heap:=s.heap.push { cls:=.type "tuple",data:=.seq #[.str (EV x 0 i) s.toks,.str ⟨#[c]⟩ u,.str (EV x (i+1) x.length)<|s.toks+1] },toks:=s.toks+1+1 }) :=
 .of_wp fun prog w A R s h=>by
  obtain⟨b,e⟩:=partition_tree x ⟨#[c]⟩ t u;rw[e,Zr<|show¬((⟨#[c]⟩:Str).length==0)=true from(by show¬(1==0)=true;decide),d];have f:(EV x 0 i).length<=sizeLine:=by
   rw[An.zb,IY,YO,ZG];refine An.zp ?_;rw[←An.zb];lia
  have g:(EV x (i+(⟨#[c]⟩:Str).length) x.length).length<=sizeLine:=by
   rw[An.zb,IY,YO,ZG];refine An.zp ?_;rw[←An.zb];lia
  refine Q9<|wpAny_mkStr ?_ f;refine Q9<|wpAny_mkStr ?_ g;refine Q9 (wpAny_newTuple ?_ (by show 3<=sizeLine;decide));exact Zh ⟨_,rfl,h⟩
section
variable {X:Cx}
def S6:V->Dj->Hp->VK->Prop:=fun x b H Q=>∃(u v:Str) (c:Nat),x=.str (u++⟨#[c]⟩++v)/\b=[.str ⟨#[c]⟩]/\c∉An.cs u/\(u++⟨#[c]⟩++v).length<=100000/\∀p,H p=none->Q (.ref p) (upd H p<|.tup [.str u,.str ⟨#[c]⟩,.str v])
theorem vE:RA X "str.partition" S6:=by
 intro u s B H x A v y Q I p n h;obtain⟨a,b,c,rfl,rfl,j,l,q⟩:=h;obtain⟨t,rfl⟩:=p;obtain⟨w,rfl,t',rfl⟩:=wX n;have d:An.cs (a++⟨#[c]⟩++b)=An.cs a++c::An.cs b:=by
  rw[An.zq,An.zq];show An.cs a++[c]++An.cs b=_;simp
 have e:(An.cs<|a++⟨#[c]⟩++b)[(An.cs a).length]?=some c:=by rw[d];simp
 have f:∃r,EH (a++⟨#[c]⟩++b) ⟨#[c]⟩ 0 (a++⟨#[c]⟩++b).length 1=(An.cs a).length::r:=by
  rcases StrLaws.occ_head_from (a++⟨#[c]⟩++b) ⟨#[c]⟩ 0 1 (Zg 1) with⟨h0,hn⟩|⟨k,r,h0,hlo,hk,hn⟩
  ·exact absurd ((Lw _ c _).mpr e) (hn _<|ZN _)
  ·have hm:=(Lw _ c k).mp hk;have hm:(An.cs<|a++⟨#[c]⟩++b)[k]?=some c:=hm
   rcases Vq k (An.cs a).length with z|z|z
   ·rw[d,ZH z]at hm;exact absurd (Zt hm) j
   ·exact⟨r,by rw[h0,z]⟩
   ·exact absurd ((Lw _ c _).mpr e) (hn _ (ZN _) z)
 obtain⟨r,f⟩:=f;refine Vh F.slot_str_partition (JY s _ t) F.entry_str_partition (F.args_str_partition_2 _ _) (X3 _ c _ t t' r f l) ?_;have g:EV (a++⟨#[c]⟩++b) 0 (An.cs a).length=a:=An.yc (by rw[IY,d,Vo,List.take_left]);have i:EV (a++⟨#[c]⟩++b) ((An.cs a).length+1) (a++⟨#[c]⟩++b).length=b:=An.yc (by
  rw[IY,An.zb,ZJ,d];rw[show An.cs a++c::An.cs b=(An.cs a++[c])++An.cs b by simp];rw[show(An.cs a).length+1=(An.cs a++[c]).length by simp];exact List.drop_left)
 rw[g,i];have hn:H s.heap.objs.size=none:=I.hok.fresh<|Zg _;refine⟨.ref s.heap.objs.size,_,I.laid (t':=s.toks+1+1) (a:=s.heap.objs.size) (o:=.tup [.str a,.str ⟨#[c]⟩,.str b]) (fun _ _ q=>Zc _ q) (Zg _) ?_,rfl,q _ hn⟩;exact⟨by show 3<=sizeLine;decide,_,.cons ⟨_,rfl⟩<|.cons ⟨_,rfl⟩<|.cons ⟨_,rfl⟩ .nil,⟨_,Zq _ rfl,rfl,_,rfl,rfl⟩⟩
def UD (n:Nat):Str:=EQ<|L4 ((n:Nat):Int)
theorem ND:xq X (.type "int") (fun xs H Q=>∃n:Nat,xs=[.str<|UD n]/\n<10000000000/\Q (.int n) H):=by
 intro b s e H xs d Q I r h;obtain⟨n,rfl,hn,q⟩:=h;obtain⟨u,rfl,t,rfl⟩:=wX r;exact PySem.W.KIN.call_num (by lia) (by lia) ⟨.int n,H,I.tok _,⟨_,rfl⟩,q⟩
def tF3 (f:TE)(y:Str)(g:TE):TE:=fun b H Q=>f b H fun v d=>∃x:Str,v=.str x/\x.length<=100000/\y.length<=1000/\g b d fun u e=>∃n:Nat,u=.int n/\n<1000000/\Q (.str<|x++y++UD n) e
theorem af {y:Str}{k:Nat}{D j E pos:Pos}(B:PE X e1 t1)(C:PE X e2 t2):PE X (.JoinedStr [.FormattedValue e1 (-1) none D,.Constant (.str y) k j,.FormattedValue e2 (-1) none E] pos) (tF3 t1 y t2):=by
 intro d s f H Q I h;refine JoinedStr_many<|joinParts_cons<|FormattedValue_plain<|Ch (B d s f H _ I h) fun v P ⟨Z,g,q,G,x,ex,xl,yl,F⟩=>?_;subst ex;obtain⟨t,rfl⟩:=G;refine formatField_str (fun S N=>⟨?_,?_⟩) (An.zp<|by lia)
 ·show(LX++x).length<=sizeLine;rw[An.yr];exact An.zp (by show 0+x.length<=_;lia)
 refine joinParts_cons<|Ch ((zz:PE X (.Constant (.str y) k j) _) d _ f g (fun v l=>v=.str y/\l=g) (q.tok N) ⟨rfl,rfl⟩) fun U L ⟨x2,o,r,J,e2,w⟩=>?_;subst e2 w;obtain⟨M,rfl⟩:=J;refine⟨?_,?_⟩
 ·show(LX++x++y).length<=sizeLine;rw[An.yr,An.yr];exact An.zp (by show 0+x.length+y.length<=_;lia)
 refine joinParts_cons<|FormattedValue_plain<|Ch (C d L f o _ r F) fun Y R ⟨x3,p,u,K,n,A,nl,O⟩=>?_;subst A;obtain⟨T,rfl⟩:=K;have b:((n:Int)).natAbs.log2<1920:=by
  rw[VU]
  rcases Y2 n with z|z
  ·subst z;decide
  ·have:n.log2<20:=(Nat.log2_lt<|by lia).mpr (by lia);lia
 have i:(LX++x++y++UD n).length<=sizeLine:=by
  rw[An.yr,An.yr,An.yr];have:=VG b;exact An.zp (by show 0+x.length+y.length+(UD n).length<=_;have e:(UD n).length<=1921:=this;lia)
 refine formatField_int_small b ⟨i,joinParts_nil ⟨.str _,p,u.tok _,⟨_,rfl⟩,?_⟩ i⟩;have e:LX++x++y++(EQ<|L4 (n:Int))=x++y++UD n:=An.yc (by
  rw[An.zq,An.zq,An.zq,An.zq,An.zq];rfl)
 rwa[e]
theorem Gs:∀{Dm:Dl} {vs:List (Key×Eh)} {us:Db},KV Dm vs->us.length=vs.length->(∀(j:Nat) (v:Eh),us[j]?=some v->∃k x,vs[j]?=some (k,x)/\(zf P w).is k v=true)->yu (Dm.map fun kv=>kV kv.1) us
 |[],_,[],.nil,_,_=>.nil
 |[],_,_::_,.nil,hl,_=>by cases hl
 |_::_,_,[],.cons _ _,hl,_=>by cases hl
 |p::_,q::_,u::us,.cons r1 r2,hl,hm=>by
  obtain⟨k,x,e,hk⟩:=hm 0 u rfl;have e:q=(k,x):=by simpa using e
  have b:p.1=k:=by rw[show p.1=q.1 from r1.1,e]
  refine .cons (by
   show yt (kV p.1) u;rw[b];cases k with
   |inl i =>
    have hk:Mm i u=true:=hk;cases u<;>simp[Mm]at hk;subst hk;exact⟨_,rfl⟩
   |inr z =>
    obtain⟨t,rfl⟩:=YV<|show E6 z u=true from hk;exact⟨t,rfl⟩) (Gs (P:=P) (w:=w) r2 (by simpa using hl) fun j v d=>?_)
  obtain⟨f,n,g,l⟩:=hm (j+1) v (by simpa using d);exact⟨f,n,by simpa using g,l⟩
theorem HP (z:X.calm=true):xq X (.type "list") (fun xs H Q=>∃a Dm,xs=[.ref a]/\H a=some (.dK Dm)/\∀l,H l=none->Q (.ref l) (upd H l<|.lst<|Dm.map fun kv=>kV kv.1)):=by
 intro J s M H xs L Q I r h;obtain⟨a,Dm,rfl,ha,q⟩:=h;obtain⟨u,rfl,E⟩:=wX r;cases E;obtain⟨D,y,b,f,o,t,ep,A,C,hd,hk,B,i⟩:Dm.length<=sizeLine/\(a==ER)=false/\∃b,KV Dm b/\s.heap.DictOf (zf X.prog X.w) a b:=I.hok a _ ha;have p:s.heap.DictAt (zf X.prog X.w) a b ep:=⟨o,t,A,C,hd,hk,B,i⟩;have K:Dm.length=b.length:=Paired.length f;refine PySem.W.kdl_call (PySem.W.kdl_dict (knd:=zf X.prog X.w) (kvs:=b) (ep:=ep) y) (I.ok.hd z) p (by lia) fun x G d c g hl n=>?_;have F:yu (Dm.map fun kv=>kV kv.1) d.toList:=Gs f (by rw[ZO];exact n.1) fun j v e=>n.2 j v (by rwa[←YE]);exact⟨.ref s.heap.objs.size,_,I.laid (t':=G) g (Zg _)<|show yj X.prog X.w _ x _ (.lst<|Dm.map fun kv=>kV kv.1) from⟨by rw[Za];exact D,d.toList,c,F,hl⟩,rfl,q _<|I.hok.fresh<|Zg _⟩
end
end L2
namespace An
open PySem L2
def UL (c:Nat):Bool:=decide (32<=c)&&decide (c<=126)&&decide (c≠37)
def UR (x:Str):Bool:=decide (x.length<=20)&&(cs x).all UL
def UO (c:Nat):Bool:=decide (97<=c)&&decide (c<=122)
def zP (x:Str):Bool:=decide (1<=x.length)&&decide (x.length<=8)&&(cs x).all UO
def US:Ek->Bool
 | .str x=>UR x
 |_=>false
def xP:Ek->Bool
 | .tuple ds=>ds.all US
 |_=>false
def vH:Ek->Bool
 | .str x=>zP x
 |_=>false
def UJ:Ek->Bool
 | .str _=>true
 |_=>false
def Xb:Ek->Bool
 | .tuple [l,n]=>vH l&&UJ n
 |_=>false
mutual
def small:Ek->Bool
 | .str x=>decide (x.length<=1000)
 | .list ds=>decide (ds.length<=1000)&&yH ds
 | .tuple ds=>decide (ds.length<=1000)&&yH ds
 |_=>true
def yH:Df->Bool
 |[]=>true
 |d::ds=>small d&&yH ds
end
theorem yO:∀{ds:Df} {i:Nat} {d:Ek},yH ds=true->ds[i]?=some d->small d=true
 |[],_,_,_,h=>by cases h
 |e::ds,0,d,h,q=>by
  have h:(small e&&yH ds)=true:=h;have q:e=d:=Option.some.inj q;rw[Zk]at h;rw[←q];exact h.1
 |e::ds,i+1,d,h,q=>by
  have h:(small e&&yH ds)=true:=h;rw[Zk]at h;exact yO h.2 (by simpa using q)
theorem xU {ds:Df}(h:small (.tuple ds)=true):ds.length<=1000/\yH ds=true:=by
 have h:(decide (ds.length<=1000)&&yH ds)=true:=h;rw[Zk]at h;exact⟨Zx h.1,h.2⟩
theorem Pn (a c:Nat):[a]<[c]↔a<c:=by
 rw[YF];constructor
 ·rintro(h|⟨_,h⟩)
  ·exact h
  ·exact absurd h (by simp)
 ·exact .inl
theorem B4 {p q:Prop} [Decidable p] [Decidable q](h:¬p↔q):(!decide p)=decide q:=by
 by_cases b:p
 ·rw[Ze b,Zn<|fun z=>h.mpr z b];rfl
 ·rw[Zn b,Ze<|h.mp b];rfl
theorem Pc (c a:Nat)(x:Str)(b:x.cps.toList=[a]):(!decide ((⟨#[c]⟩:Str).cps.toList<x.cps.toList))=decide (a<=c):=by
 rw[b];exact B4 (by show¬[c]<[a]↔_;rw[Pn];lia)
theorem one_le (c a:Nat)(x:Str)(b:x.cps.toList=[a]):(!decide (x.cps.toList<(⟨#[c]⟩:Str).cps.toList))=decide (c<=a):=by
 rw[b];exact B4 (by show¬[a]<[c]↔_;rw[Pn];lia)
def Rk:Sp:=fun b H Q _=>∃c:Nat,b=[.str ⟨#[c]⟩]/\Q (.bl<|UL c) H
def KM (K:Cc):Sp:=fun e H Q _=>∃(d:Ek) (v:V),e=[v]/\Dw K H d v/\small d=true/\∀b,zy H b->Q (.bl<|US d) b
def Ir (K:Cc):Sp:=fun e H Q _=>∃(d:Ek) (v:V),e=[v]/\Dw K H d v/\small d=true/\∀b,zy H b->Q (.bl<|xP d) b
def B8 (K:Cc):Sp:=fun e H Q _=>∃(d:Ek) (v:V),e=[v]/\Dw K H d v/\small d=true/\∀b,zy H b->Q (.bl<|vH d) b
def S9 (K:Cc):Sp:=fun e H Q _=>∃(d:Ek) (v:V),e=[v]/\Dw K H d v/\small d=true/\∀b,zy H b->Q (.bl<|Xb d) b
theorem yP {b:Type}{l:List b}{f:b->Bool}{i:Nat}{c:b}(h:l[i]?=some c):(l.take<|i+1).map f=(l.take i).map f++[f c]:=by
 rw[Yk,h,Zo];rfl
theorem OJ {x:Str}{i c:Nat}(h:x.cps[i]?=some c):(cs x)[i]?=some c:=by rw[←h];simp
theorem all_map (l:List α)(f:α->Bool):(l.map f).all id=l.all f:=by
 rw[List.all_map];rfl
mutual
def vV:Ek->Bool
 | .list _=>false
 | .dict _=>false
 | .tuple ds=>yS ds
 |_=>true
def yS:Df->Bool
 |[]=>true
 |d::ds=>vV d&&yS ds
end
mutual
def zY:Ek->Bool
 | .dict _=>false
 | .list ds=>yF ds
 | .tuple ds=>yF ds
 |_=>true
def yF:Df->Bool
 |[]=>true
 |d::ds=>zY d&&yF ds
end
mutual
theorem Dw.dt {K:Cc}:∀(d:Ek) (v:V),zY d=true->Dw K H d v->Dt K H d v
 | .none,_,_,h=>h
 | .bool _,_,_,h=>h
 | .int _,_,_,h=>h
 | .str _,_,_,h=>h
 | .list ds,_,t,⟨a,xs,h1,h2,h3⟩=>⟨a,xs,h1,h2,yo.dt ds xs t h3⟩
 | .tuple ds,_,t,⟨a,xs,h1,h2,h3⟩=>⟨a,xs,h1,h2,yo.dt ds xs t h3⟩
 | .dict _,_,t,_=>by cases t
theorem yo.dt {K:Cc}:∀(ds:Df) (xs:Dj),yF ds=true->yo K H ds xs->za K H ds xs
 |[],_,_,h=>h
 |d::ds,_,t,⟨x,r,h1,h2,h3⟩=>by
  have t:(zY d&&yF ds)=true:=t;rw[Zk]at t;exact⟨x,r,h1,Dw.dt d x t.1 h2,yo.dt ds r t.2 h3⟩
end
theorem jV:∀ls:Da,yS (ls.map .str)=true
 |[]=>rfl
 |l::ls=>by
  show(true&&yS (ls.map .str))=true;rw[jV ls];rfl
theorem uJ {d:Ek}(b:d.canLay0=true)(e:d.depth<=60):Lm d=true:=by
 show(PyData.canLay0 d&&decide (PyData.depth d<=64))=true;rw[b,Ze<|by lia];rfl
mutual
theorem XQ:∀d:Ek,vV d=true->zY d=true
 | .none,_=>rfl
 | .bool _,_=>rfl
 | .int _,_=>rfl
 | .str _,_=>rfl
 | .list _,t=>by cases t
 | .tuple ds,t=>vF ds t
 | .dict _,t=>by cases t
theorem vF:∀ds:Df,yS ds=true->yF ds=true
 |[],_=>rfl
 |d::ds,t=>by
  have t:(vV d&&yS ds)=true:=t;rw[Zk]at t;show(zY d&&yF ds)=true;rw[XQ d t.1,vF ds t.2];rfl
end
structure En where
 h:Str
 n:Nat
 d:Ek
abbrev Di:=List En
def dot:Str:=⟨#[46]⟩
theorem ON:(".":Str)=dot:=by decide +kernel
def En.nm (e:En):Str:=e.h++dot++UD e.n
def xu (S:Di)(h:Str):Option Nat:=S.foldl (fun b e=>if e.h=h then some (max (b.getD 0)<|e.n+1) else b) none
theorem XO (S:Di)(e:En)(h:Str):xu (S++[e]) h=if e.h=h then some (max ((xu S h).getD 0)<|e.n+1) else xu S h:=by
 unfold xu;rw[YT];rfl
structure mU (e:En):Prop where
 key:Xs e.d
 free:46∉cs e.h
 num:e.n<1000000
 hl:e.h.length<=100
structure tV (S:Di):Prop where
 ent:∀e∈S,mU e
 nd:(S.map (·.d)).Nodup
 nn:(S.map En.nm).Nodup
 len:S.length<=2000
theorem tV.nil:tV []:=⟨fun _ h=>(nomatch h),Yn,Yn,ZN _⟩
theorem tV.snoc (g:tV S)(h:mU e)(b:e.d∉S.map (·.d))(f:e.nm∉S.map En.nm)(i:S.length<2000):tV (S++[e]) :=
 ⟨vN g.ent h,by rw[Zo];exact jX g.nd b,by rw[Zo];exact jX g.nn f,by rw[Zp,YJ];lia⟩
def Off (fp:Dd)(H H':Hp):Prop:=∀b o,b∉fp->H b=some o->H' b=some o
theorem Off.refl (fp:Dd)(H:Hp):Off fp H H:=fun _ _ _ h=>h
theorem Off.trans (a:Off fp H H1)(b:Off fp H1 H2):Off fp H H2:=fun c o n h=>b c o n<|a c o n h
theorem Off.of (s:zy H H'):Off fp H H':=fun b o _ h=>s b o h
theorem Off.upd {a:Ei}{o:HO}(h:Off fp H H')(m:a∈fp):Off fp H (L2.upd H' a o):=fun b u n e=>by
 have ne:b≠a:=fun z=>n (by rwa[z]);rw[zI ne];exact h b u n e
def OT (b d e:Ei):List (Str×V):=[("thing_by_name",.ref b),("name_by_thing",.ref d),("next_numbers",.ref e)]
def qy (H:Hp)(fp:Dd):Prop:=∀b∈fp,∃o,H b=some o/\(∀d,o≠.tup d)/\(∀d,o≠.lst d)/\∀u v,o≠.frz u v
structure yq (P:Ej)(w:Ep)(K:Cc)(C:Ei)(H:Hp)(a:Ei)(fp:Dd)(S:Di):Prop where
 good:tV S
 at_:∃(dx d1 d2 d3:Ei) (ts:Dd) (nx:Dl),fp=[a,dx,d1,d2,d3]/\(fp).Nodup/\H a=some (.ins C dx<|OT d1 d2 d3)/\H dx=some (.own a)/\ts.length=S.length /\
  H d1=some (.dK<|(S.zip ts).map fun e=>((Ev e.1.nm:Key),V.ref e.2))/\nO P w K H d2 (S.map fun e=>(e.d,V.str e.nm)) /\
  H d3=some (.dK nx)/\nx.length<=S.length/\(∀h,Uu nx (Ev h:Key)=(xu S h).map fun n:Nat=>V.int (n:Int)) /\
  ∀(i:Nat) (e:En) (t:Ei),S[i]?=some e->ts[i]?=some t->Dt K H e.d (.ref t)
theorem GN {H:Hp}{b:Ei}{o:HO}(h:H b=some o)(d:∀xs,o≠.tup xs)(e:∀u v,o≠.frz u v):∀xs,¬Rd H b (.tup xs):=fun xs z=>by
 rcases z with z|⟨u,z⟩
 ·rw[h]at z;exact d xs<|Option.some.inj z
 ·rw[h]at z;exact e u _<|Option.some.inj z
mutual
theorem Dt.off {K:Cc}{fp:Dd}(n:∀b∈fp,∀xs,¬Rd H b (.tup xs))(o:Off fp H H'):∀(k:Ek) (v:V),UV k=true->Dt K H k v->Dt K H' k v
 | .str x,_,_,h=>h
 | .tuple ds,_,t,⟨a,xs,h1,d,h3⟩=>by
  refine⟨a,xs,h1,?_,za.off n o ds xs t h3⟩
  rcases d with d|d
  ·have ne:a∉fp:=fun z=>n a z xs d
   rcases d with d|⟨u,d⟩
   ·exact .inl (.inl<|o a _ ne d)
   ·exact .inl (.inr ⟨u,o a _ ne d⟩)
  ·exact .inr d
 | .none,_,t,_=>by cases t
 | .bool _,_,t,_=>by cases t
 | .int _,_,t,_=>by cases t
 | .list _,_,t,_=>by cases t
 | .dict _,_,t,_=>by cases t
theorem za.off {K:Cc}{fp:Dd}(n:∀b∈fp,∀xs,¬Rd H b (.tup xs))(o:Off fp H H'):∀(ks:Df) (vs:Dj),xC ks=true->za K H ks vs->za K H' ks vs
 |[],_,_,h=>h
 |k::ks,_,t,⟨x,r,h1,h2,h3⟩=>by
  have t:(UV k&&xC ks)=true:=t;rw[Zk]at t;exact⟨x,r,h1,Dt.off n o k x t.1 h2,za.off n o ks r t.2 h3⟩
end
theorem nO.off {K:Cc}{fp:Dd}{d:Ei}(n:∀b∈fp,∀xs,¬Rd H b (.tup xs))(o:Off fp H H')(e:H' d=H d)(T:nO P w K H d ps):nO P w K H' d ps:=by
 obtain⟨hl,hk,nd,xs,g,r⟩:=T;refine⟨hl,hk,nd,xs,by rw[e];exact g,?_⟩;have key:∀{ps:List (Ek×V)} {xs:List (Ek×Ei×Eh)},(∀p∈ps,Xs p.1)->Ln (wG K H) ps xs->Ln (wG K H') ps xs:=by
  intro ps xs f r
  induction r with
  |nil=>exact .nil
  |cons r1 _ ih=>exact .cons ⟨r1.1,Dt.off n o _ _ (f _ Zi).1 r1.2.1,r1.2.2⟩<|ih fun p i=>f p<|Zf _ i
 exact key hk r
theorem yq.off {K:Cc}{fp gp:Dd}(n:∀b∈gp,∀xs,¬Rd H b (.tup xs))(o:Off gp H H')(dj:∀b∈fp,b∉gp)(h:yq P w K C H a fp S):yq P w K C H' a fp S:=by
 obtain⟨g,l,d,f,j,F,nx,rfl,nd,s,v,x,y,q,z,A,B,D⟩:=h;have k:∀b u,b∈[a,l,d,f,j]->H b=some u->H' b=some u:=fun b u m e=>o b u (dj b m) e;obtain⟨xs,p,_⟩:=q.2.2.2;refine⟨g,l,d,f,j,F,nx,rfl,nd,k _ _ (by simp) s,k _ _ (by simp) v,x,k _ _ (by simp) y,nO.off n o ?_ q,k _ _ (by simp) z,A,B,fun i e t r E=>Dt.off n o _ _ (g.ent e<|Zt r).key.1<|D i e t r E⟩;rw[p];exact k _ _ (by simp) p
theorem yq.same {K:Cc}(s:zy H H')(h:yq P w K C H a fp S):yq P w K C H' a fp S :=
 h.off (gp:=[]) (fun b m=>(nomatch m)) (Off.of s) (fun b _=>by simp)
theorem yq.wB {K:Cc}(h:yq P w K C H a fp S):qy H fp:=by
 obtain⟨g,q,n,o,p,v,nx,rfl,nd,e,f,r,i,j,l,s,t,u⟩:=h;obtain⟨x,d,_⟩:=j.2.2.2;intro b m;simp only[Zm,Z9,JQ]at m
 rcases m with rfl|rfl|rfl|rfl|rfl
 ·exact⟨_,e,fun _ z=>(nomatch z),fun _ z=>(nomatch z),fun _ _ z=>(nomatch z)⟩
 ·exact⟨_,f,fun _ z=>(nomatch z),fun _ z=>(nomatch z),fun _ _ z=>(nomatch z)⟩
 ·exact⟨_,i,fun _ z=>(nomatch z),fun _ z=>(nomatch z),fun _ _ z=>(nomatch z)⟩
 ·exact⟨_,d,fun _ z=>(nomatch z),fun _ z=>(nomatch z),fun _ _ z=>(nomatch z)⟩
 ·exact⟨_,l,fun _ z=>(nomatch z),fun _ z=>(nomatch z),fun _ _ z=>(nomatch z)⟩
theorem qy.tup (h:qy H fp):∀b∈fp,∀xs,¬Rd H b (.tup xs):=fun b m xs=>by
 obtain⟨o,e,n1,_,n2⟩:=h b m;exact GN e n1 n2 xs
theorem kH {κ:Type} [DecidableEq κ]{Dm:List (κ×V)}{k:κ}{v:V}(h:k∉Dm.map (·.1)):ye Dm k v=Dm++[(k,v)]:=by
 unfold ye;rw[Zr];intro z;obtain⟨kv,hm,e⟩:=Z2.mp z;exact h<|Zd.mpr ⟨kv,hm,Zx e⟩
theorem uZ {κ:Type} [DecidableEq κ]:∀{Dm:List (κ×V)} {k:κ} {v:V},(Dm.map (·.1)).Nodup->(k,v)∈Dm->Uu Dm k=some v
 |[],_,_,_,h=>(nomatch h)
 |p::r,k,v,nd,h=>by
  rw[ZE,Z5]at nd;unfold Uu;rw[YY]
  rcases Zm.mp h with e|h
  ·subst e;rw[Ze<|show((k,v):κ×V).1=k from rfl];rfl
  ·rw[Zn<|show¬p.1=k from fun z=>nd.1<|Zd.mpr ⟨(k,v),h,z.symm⟩];exact uZ nd.2 h
theorem Bj (e:En):cs e.nm=cs e.h++46::cs (UD e.n):=by
 unfold En.nm;rw[zq,zq];show cs e.h++[46]++cs (UD e.n)=_;simp
theorem FW (h:UD m=UD n):m=n:=by
 have b:cs (UD m)=cs (UD n):=by rw[h]
 have f:=Vw m;have g:=Vw n;have d:=PySem.W.KIN.val_back m;have e:=PySem.W.KIN.val_back n;rw[←f]at d;rw[←g]at e;have b:(EQ<|L4 ((m:Nat):Int)).cps.toList=(EQ<|L4 ((n:Nat):Int)).cps.toList:=b;rw[b]at d;exact d.symm.trans e
theorem Ip:∀{a b r s:List Nat},¬(46∈a)->¬(46∈b)->a++46::r=b++46::s->a=b/\r=s
 |[],[],r,s,_,_,h=>⟨rfl,by injection h⟩
 |[],y::b,r,s,_,hb,h=>by
  injection h with d e;exact absurd (by rw[←d];exact Zi) hb
 |x::a,[],r,s,ha,_,h=>by
  injection h with d e;exact absurd (by rw[d];exact Zi) ha
 |x::a,y::b,r,s,ha,hb,h=>by
  injection h with d e;obtain⟨f,g⟩:=Ip (fun z=>ha<|Zf _ z) (fun z=>hb<|Zf _ z) e;exact⟨by rw[d,f],g⟩
theorem TU {e f:En}(g:46∉cs e.h)(i:46∉cs f.h)(h:e.nm=f.nm):e.h=f.h/\e.n=f.n:=by
 have:=congrArg cs h;rw[Bj,Bj]at this;obtain⟨b,d⟩:=Ip g i this;exact⟨yc b,FW<|yc d⟩
theorem MY:∀{S:Di} {e:En},e∈S->e.n<(xu S e.h).getD 0:=by
 have key:∀(S:Di) (b:Option Nat) (h:Str),b.getD 0<=(S.foldl (fun b e=>if e.h=h then some (max (b.getD 0)<|e.n+1) else b) b).getD 0/\∀e∈S,e.h=h->e.n<(S.foldl (fun b e=>if e.h=h then some (max (b.getD 0)<|e.n+1) else b) b).getD 0:=by
  intro S
  induction S with
  |nil=>intro b h;exact⟨Zg _,fun e d=>(nomatch d)⟩
  |cons f S ih =>
   intro b h;rw[JR];obtain⟨i,j⟩:=ih (if f.h=h then some (max (b.getD 0)<|f.n+1) else b) h;have mono:b.getD 0<=(if f.h=h then some (max (b.getD 0)<|f.n+1) else b).getD 0:=by
    split
    ·exact Nat.le_max_left _ _
    ·exact Zg _
   refine⟨ZR mono i,fun e d g=>?_⟩
   rcases Zm.mp d with rfl|d
   ·rw[Zy g]at i ⊢;have:e.n+1<=(some<|max (b.getD 0)<|e.n+1).getD 0:=Nat.le_max_right _ _;lia
   ·exact j e d g
 intro S e d;exact(key S none e.h).2 e d rfl
theorem Pw (g:tV S){h:Str}{d:Ek}(j:46∉cs h):(En.mk h ((xu S h).getD 0) d).nm∉S.map En.nm:=fun z=>by
 obtain⟨e,i,q⟩:=Zd.mp z;obtain⟨b,f⟩:=TU (g.ent e i).free j q;have:=MY i;have b:e.h=h:=b;have f:e.n=(xu S h).getD 0:=f;rw[b]at this;lia
def dig (n:Nat):Str:=EQ<|L4 ((n:Nat):Int)
def enc (p:Str):List Nat:=cs (dig p.length)++58::cs p
inductive Th where
 |leaf (ls:Da)
 |tree (Do:Dg)
 |note (t:Str) (ps:Da) (w:Str)
def yB:Dg->Da
 |[]=>[]
 |r::rs=>r.1::r.2::yB rs
theorem jY:∀(a b:Dg),yB (a++b)=yB a++yB b
 |[],_=>rfl
 |(x,y)::a,b=>by
  show x::y::yB (a++b)=x::y::(yB a++yB b);rw[jY a b]
def Th.word:Th->Str
 | .leaf _=>"leaf"|.tree _=>"tree"|.note _ _ _=>"note"
def Th.letter:Th->Str
 | .leaf _=>"L"|.tree _=>"T"|.note _ _ _=>"N"
def Th.parts:Th->Da
 | .leaf ls=>ls
 | .tree Do=>yB Do
 | .note t ps w=>[t,dig ps.length]++ps++[w]
def counted (p:Str):Str:=dig p.length++":"++p
def more (x p:Str):Str:=x++dig p.length++":"++p
def Th.sp (t:Th):Str:=t.parts.foldl more t.letter
theorem Fm:cs (":":Str)=[58]:=by decide +kernel
theorem HV (p:Str):cs (counted p)=enc p:=by
 unfold counted enc;rw[zq,zq,Fm];simp
theorem RJ (x p:Str):cs (more x p)=cs x++enc p:=by
 unfold more enc;rw[zq,zq,zq,Fm];simp
theorem Fn:∀(ps:Da) (x:Str),cs (ps.foldl more x)=cs x++ps.flatMap enc
 |[],x=>by simp
 |p::ps,x=>by
  rw[JR,Fn ps,RJ,JW,Z7]
theorem WO (t:Th):cs t.sp=cs t.letter++t.parts.flatMap enc:=Fn _ _
theorem av (t:Th):t.letter++Lq "" (t.parts.map counted)=t.sp:=by
 apply yc
 rw[zq,WO];have e:cs (Lq ""<|t.parts.map counted)=t.parts.flatMap enc:=by
  show cs (Builtin.Str.glued ""<|t.parts.map counted)=_;rw[Lg];rw[uQ,Ua]
  congr 1
  funext p
  exact HV p
 rw[e]
theorem x9 (t:Th):cs t.letter=[match t with|.leaf _=>76|.tree _=>84|.note _ _ _=>78]:=by
 cases t
 ·show cs ("L":Str)=[76]
  decide +kernel
 ·show cs ("T":Str)=[84]
  decide +kernel
 ·show cs ("N":Str)=[78]
  decide +kernel
def WT (n:Int)(c:Nat):Int:=(31*n+c) % 97
def dg (x:Str):Int:=(cs x).foldl WT 0
def zm (r:Str×Str):PyData:=.tuple [.str r.1,.str r.2]
def Th.dat:Th->Ek
 | .leaf ls=>.tuple [.str "leaf",.tuple<|ls.map .str]
 | .tree Do=>.tuple [.str "tree",.tuple<|Do.map zm]
 | .note t ps w=>.tuple [.str "note",.str t,.tuple<|ps.map .str,.str w]
theorem Ft:∀(a b:Dg),E1 (a.map zm) (b.map zm)=decide (a=b)
 |[],[]=>rfl
 |[],_::_=>rfl
 |_::_,[]=>rfl
 |(x,y)::a,(z,w)::b=>by
  show(((x==z)&&((y==w)&&true))&&E1 (a.map zm) (b.map zm))=_;rw[Ft a b,Z4];simp[and_assoc]
theorem j6 {x y:Str}{xs ys:Df}(h:(x==y)=false):EJ (.tuple (.str x::xs)) (.tuple (.str y::ys))=false:=by
 show((x==y)&&E1 xs ys)=false;rw[h];rfl
theorem MJ (a b:Th):EJ a.dat b.dat=true↔a=b:=by
 have d:(("leaf":Str)=="tree")=false:=by decide +kernel
 have e:(("leaf":Str)=="note")=false:=by decide +kernel
 have f:(("tree":Str)=="leaf")=false:=by decide +kernel
 have g:(("tree":Str)=="note")=false:=by decide +kernel
 have i:(("note":Str)=="leaf")=false:=by decide +kernel
 have j:(("note":Str)=="tree")=false:=by decide +kernel
 cases a with
 |leaf ls =>
  cases b with
  |leaf ms =>
   show((("leaf":Str)=="leaf")&&(E1 (ls.map .str) (ms.map .str)&&true))=true↔_;rw[j5];simp
  |tree _ =>
   exact Vr (fun z=>absurd ((j6 d).symm.trans z) ZM) (fun z=>by cases z)
  |note _ _ _ =>
   exact Vr (fun z=>absurd ((j6 e).symm.trans z) ZM) (fun z=>by cases z)
 |tree rs =>
  cases b with
  |leaf ms =>
   exact Vr (fun z=>absurd ((j6 f).symm.trans z) ZM) (fun z=>by cases z)
  |tree qs =>
   show((("tree":Str)=="tree")&&(E1 (rs.map zm) (qs.map zm)&&true))=true↔_;rw[Ft];simp
  |note _ _ _ =>
   exact Vr (fun z=>absurd ((j6 g).symm.trans z) ZM) (fun z=>by cases z)
 |note t ps w =>
  cases b with
  |leaf ms =>
   exact Vr (fun z=>absurd ((j6 i).symm.trans z) ZM) (fun z=>by cases z)
  |tree qs =>
   exact Vr (fun z=>absurd ((j6 j).symm.trans z) ZM) (fun z=>by cases z)
  |note t' ps' w' =>
   show((("note":Str)=="note")&&((t==t')&&(E1 (ps.map .str) (ps'.map .str)&&((w==w')&&true))))=true↔_;rw[j5];simp
def Th.Good (t:Th):Prop:=t.parts.length<=1000/\∀p∈t.parts,Ok 1000 p
end An
namespace L2
open PySem PySem.Spec PyProof.Rows
section
variable {X:Cx}{Dp:De}{σ:St}{H:Hp}{s:Em}{d:Ei}{Dm:Dl}
theorem Inv.freeze (I:Inv X Dp σ H s)(e:H d=some (.dK Dm)):∃ob:Obj,Inv X Dp σ (upd H d<|.frz ob<|.dK Dm) s:=by
 obtain⟨v,p,f,j,o,n,l,i,t,hd,hk,r,g⟩:Dm.length<=sizeLine/\(d==ER)=false/\∃f,KV Dm f/\s.heap.DictOf (zf X.prog X.w) d f:=I.hok d _ e;refine⟨o,?_⟩;have y:Tl (H d):=by rw[e];trivial
 exact I.write (x:=d) (e:=d) (h':=s.heap) (t':=s.toks) y (.inl rfl) (fun b u _ q=>q) ⟨o,i⟩ ⟨i,v,p,f,j,o,n,l,i,t,hd,hk,r,g⟩
theorem Rc {k:Key}{u:Eh}(h:(zf P w).is k u=true):yt (kV k) u:=by
 cases k with
 |inl i =>
  have h:Mm i u=true:=h;cases u<;>simp[Mm]at h;subst h;exact⟨_,rfl⟩
 |inr x =>
  obtain⟨t,rfl⟩:=YV<|show E6 x u=true from h;exact⟨t,rfl⟩
theorem jI {d b:Type}{F:d->b->Prop}:∀{l₁:List d} {l₂:List b} {i:Nat} {y:b},Ln F l₁ l₂->l₂[i]?=some y->∃x,l₁[i]?=some x/\F x y
 |_,_,_,_,.nil,h=>by cases h
 |_,_,0,_,.cons r _,h=>by cases h;exact⟨_,rfl,r⟩
 |_,_,i+1,_,.cons _ t,h=>by
  obtain⟨x,e,f⟩:=jI (i:=i) t (by simpa using h);exact⟨x,by simpa using e,f⟩
theorem HZ {i:Obj}(z:yj P w H h d<|.frz i<|.dK Dm):∃vs es ep,i.data=.dict es ep/\KV Dm vs/\h.DictAt (zf P w) d vs ep/\(d==ER)=false/\Dm.length<=sizeLine:=by
 obtain⟨l,s,p,vs,j,o,b,f,n,r,e,hk,q,g⟩:=z;rw[l]at n;cases n;exact⟨vs,b,f,e,j,⟨i,b,l,r,e,hk,q,g⟩,p,s⟩
theorem X6 {f:Obj}{es:Array Mb}{ep:Nat}(hd:f.data=.dict es ep)(z:yj P w H h d<|.frz f<|.dK Dm):∃vs,KV Dm vs/\h.DictAt (zf P w) d vs ep/\(d==ER)=false:=by
 obtain⟨vs,j,i,b,e,g,l,_⟩:=HZ z;rw[hd]at b;cases b;exact⟨vs,e,g,l⟩
def aQ (d:Ei)(Dm:Dl)(b:Obj):It where
 go:=fun i H=>H d=some (.frz b<|.dK Dm)/\i<Dm.length
 nR:=fun i H x e=>e=H/\∃k v,Dm[i]?=some (k,v)/\x=kV k
 stop:=fun i H=>H d=some (.frz b<|.dK Dm)/\i=Dm.length
theorem On {K:Cc}{O:Obj}{es:Array Mb}{ep:Nat}(hd:O.data=.dict es ep)(it:Ei):Turn P w K tg (aQ d Dm O) [it] it (fun i h=>h.IsKeyIter it d i Dm.length ep) where
 mem:=by simp
 obj:=fun i h st b hb=>by
  have e:b=it:=by simpa using hb
  subst e;obtain⟨o,e,c,r⟩:=st;exact⟨o,e,fun v z=>by rw[r]at z;cases z⟩
 keep:=fun i h n st k=>by
  obtain⟨o,e,c⟩:=st;exact⟨o,k it (by simp) o e,c⟩
 item:=by
  intro X D G C L i Dp s σ H E I p st F;subst D G C;obtain⟨j,M⟩:=F;obtain⟨g,f,q,Y⟩:=X6 hd<|I.hok d _ j;have hl:Dm.length=g.length:=Paired.length f;rw[hl]at st;have N:g[i]?=some (g[i]'(by lia)):=Zl (by lia);obtain⟨t,u,T,x,y,A⟩:=p it (by simp);refine wpAny_pyNext_dict_item (k:=(g[i]'(by lia)).1) (v:=(g[i]'(by lia)).2) st q N fun key n Q l sb=>?_;have R:Inv X Dp σ H { s with heap:=n }:=I.turned (t':=s.toks) (fun b o hb e=>(sb.2 b hb).trans e) t u x y A;rw[←hl]at l;obtain⟨o,e,c,r⟩:=id l;have hk:∃v,Dm[i]?=some ((g[i]'(by lia)).1,v):=by
   obtain⟨⟨Z,J⟩,U,B,_⟩:=jI f N;have B:Z=_:=B;subst B;exact⟨J,U⟩
  obtain⟨J,hk⟩:=hk;exact⟨key,rfl,FA (s:={ s with heap:=n }) e c r (by decide) ⟨kV (g[i]'(by lia)).1,H,R,Rc Q,⟨rfl,_,J,hk,rfl⟩,l,fun b hb=>(p b hb).1⟩⟩
 done:=by
  intro X D G C L i Dp s σ H E I p st F;subst D G C;obtain⟨j,M⟩:=F;subst M;obtain⟨g,f,q,Y⟩:=X6 hd<|I.hok d _ j;have hl:Dm.length=g.length:=Paired.length f;obtain⟨t,u,T,x,y,A⟩:=p it (by simp);rw[hl]at st;exact wpAny_pyNext_dict_end (I.ok.hd L) st q (Yh<|by lia) fun n S=>⟨rfl,I.turned (t':=s.toks) (fun b o hb e=>S b o hb e) t u x y A⟩
 self:=fun _ _ _ _ _ st h=>wpAny_pyIter_keyiter st h
def aR (d:Ei)(Dm:Dl)(b:Obj):It where
 go:=fun i H=>H d=some (.frz b<|.dK Dm)/\i<Dm.length
 nR:=fun i H x e=>∃T k v,Dm[i]?=some (k,v)/\H T=none/\x=.ref T/\e=upd H T (.tup [kV k,v])
 stop:=fun i H=>H d=some (.frz b<|.dK Dm)/\i=Dm.length
theorem KR {P:Ej}{w:Ep}{K:Cc}{DW:List EG} {x1}{Eb:Pos}{Z:Obj}{es:Array Mb}{ep:Nat}(hd:Z.data=.dict es ep)(it:Ei) :
  Turn P w K (.Tuple DW x1 Eb) (aR d Dm Z) [it] it (fun i h=>∃ok ov,IsItemIter h it d i Dm.length ep ok ov) where
 mem:=by simp
 obj:=fun i h st b hb=>by
  have e:b=it:=by simpa using hb
  subst e;obtain⟨ok,ov,e⟩:=st;exact⟨_,e,fun v z=>by cases z⟩
 keep:=fun i h R st k=>by
  obtain⟨ok,ov,e⟩:=st;exact⟨ok,ov,k it (by simp) _ e⟩
 item:=by
  intro X F L D S i Dp s σ H E I y st J;subst F L D;obtain⟨g,T⟩:=J;obtain⟨t,f,A,hS⟩:=X6 hd<|I.hok d _ g;have hl:Dm.length=t.length:=Paired.length f;obtain⟨ok,ov,st⟩:=st;rw[hl]at st;obtain⟨⟨Y,u⟩,U⟩:∃p,t[i]?=some p:=⟨_,Zl<|show i<t.length by lia⟩;obtain⟨⟨j,r⟩,h0,C,N⟩:=jI f U;have C:j=Y:=C;have N:yt r u:=N;have fi:=y it (by simp);have G:H s.heap.objs.size=none:=I.hok.fresh<|Zg _;have l:it<s.heap.objs.size:=Zu st;refine wpAny_pyNext_items_item (k:=Y) (v:=u) st A U fun key R Ed M tup sz kp=>?_;refine⟨_,rfl,wpAny_letOwnedTupleGo_items M fun x Q sb=>?_⟩;have n:x.get? s.heap.objs.size=some { cls:=.type "tuple",data:=.seq #[key,u] }:=(sb.2 _<|Y3 l).trans tup;have I1:Inv X Dp σ H { s with heap:=x }:=I.qe (t':=s.toks) (ch:=[it]) y (fun b o hb q=>by
   have O:b≠it:=fun z=>hb (by simp[z]);exact(sb.2 b O).trans (kp b o O q)) (fun b hb=>by
   have z:b=it:=by simpa using hb
   subst z;exact⟨_,Q⟩)
  have B:=I.rY (Zg _) G;have new:yj X.prog X.w (upd H s.heap.objs.size<|.tup [kV j,r]) x s.heap.objs.size (.tup [kV j,r]) :=
   ⟨by show 2<=sizeLine;decide,[key,u],.cons (by rw[C];exact Rc Ed)<|.cons N .nil,⟨_,n,rfl,_,rfl,rfl⟩⟩
  have I2:Inv X Dp σ (upd H s.heap.objs.size<|.tup [kV j,r]) { s with heap:=x } :=
   I1.mZ G (ZR I.sz<|Zg _) B.2.1 B.2.2.2.2.1 B.2.2.2.2.2 new
  refine⟨.ref s.heap.objs.size,_,I2,rfl,⟨_,j,r,h0,G,rfl,rfl⟩,⟨key,u,by rw[hl];exact Q⟩,fun b hb=>?_⟩;have z:b=it:=by simpa using hb
  subst z;rw[zI<|Zz l];exact fi.1
 done:=by
  intro X F L D S i Dp s σ H E I y st J;subst F L D;obtain⟨g,T⟩:=J;subst T;obtain⟨t,f,A,hS⟩:=X6 hd<|I.hok d _ g;have hl:Dm.length=t.length:=Paired.length f;obtain⟨f0,f1,f2,f3,f4,f5⟩:=y it (by simp);obtain⟨ok,ov,st⟩:=st;rw[hl]at st;exact wpAny_pyNext_items_end (I.ok.hd S) st A (Yh<|by lia) fun R eb=>⟨rfl,I.turned (t':=s.toks) (fun b o hb e=>eb b o hb e) f0 f1 f3 f4 f5⟩
 self:=fun _ _ _ _ _ st h=>by
  obtain⟨ok,ov,st⟩:=st;exact PySem.W.kcp_self st h
end
section
variable {X:Cx}{tg:EG}
def az (t:TE):TE:=fun g H Q=>t g H fun v e=>∃d b,v=.ref d/\e d=some (.dK b)/\∀f,Q v<|upd e d<|.frz f<|.dK b
theorem v8 (h:PE X e t):PE X e (az t):=by
 intro b s j H Q I q;refine Ch (h b s j H _ I q) fun v o ⟨x,n,f,r,d,l,ex,hd,q⟩=>?_;subst ex;obtain⟨i,g⟩:=f.freeze hd;exact⟨.ref d,_,g,r,q i⟩
def SZ (g:TE):TI:=fun i H R=>g i H fun v e=>∃d f b,v=.ref d/\e d=some (.frz f<|.dK b)/\R (aQ d b f) e
theorem Il (hl:PE X l tl):PI X tg l (SZ tl):=by
 intro n s t H R I h;refine Ch (hl n s t H _ I h) fun v f ⟨x,y,i,r,d,E,u,ex,hd,q⟩=>?_;subst ex;cases r;obtain⟨p,D,B,g,j,A,C,_⟩:=HZ<|i.hok d _ hd;have w:u.length=p.length:=Paired.length j;refine wpAny_pyIter_dict C A ?_;have z:Inv X n t y { f with heap:=f.heap.push { cls:=.type "dict_keyiterator",data:=.fields #[.ref d,.int 0 0,.int p.length 0,.int B 0] } }:=i.kept (t':=f.toks) fun b o e=>Zc _ e;refine⟨f.heap.objs.size,[f.heap.objs.size],_,_,_,rfl,z,On g _,?_,fun b hb=>?_,q⟩
 ·exact⟨_,Zq _ rfl,rfl,by rw[w];rfl⟩
 ·have e:b=f.heap.objs.size:=by simpa using hb
  subst e;exact i.rY (Zg _)<|i.hok.fresh<|Zg _
def TD (g:TE):TI:=fun i H R=>g i H fun v e=>∃d f b,v=.ref d/\e d=some (.frz f<|.dK b)/\R (aR d b f) e
theorem Gr {G:List EG}{L A z:Pos}(T:PE X o td)(D:Lz o "items" X.env (E3 o X.env)=E3 o X.env:=by rfl)(E:(A.endLine==z.line)=true:=by rfl) :
  PI X (.Tuple G x1 L) (.Call (.Attribute o "items" A) [] [] z) (TD td):=by
 intro y s C H R I h;refine wpAny_Call_method0_late D E<|Ch (T y s C H _ I h) fun v f ⟨x,M,B,r,d,Z,J,ex,hd,q⟩=>?_;subst ex;cases r;obtain⟨u,U,N,g,t,l,S,_⟩:=HZ<|B.hok d _ hd;have K:J.length=u.length:=Paired.length t;have j:=l.dictOf;obtain⟨p,O,P,Q,Y⟩:=id l;refine⟨"dict","dict.items",F.plainAttrs_dict,Mf,F.type_dict_items,j.typeIs,fun b q=>by cases q;exact⟨p,P,Q.2.1⟩,E4 rfl<|PySem.evalArgs_none ?_⟩;refine JI Mf j.typeIs F.entry_dict_items (F.args_dict_items_1 _) (meets_dict_items (zf X.prog X.w) d S) ⟨⟨u,j⟩,?_⟩;have i:Inv X y C M { f with heap:=f.heap.push { cls:=.type "dict_items",data:=.fields #[.ref d] } }:=B.kept (t':=f.toks) fun b o e=>Zc _ e;have n:(f.heap.push { cls:=.type "dict_items",data:=.fields #[.ref d] }).DictAt (zf X.prog X.w) d u N:=l.at' fun o e=>Zc _ e;refine wpAny_pyIter_items (v:=f.heap.objs.size) (d:=d) ⟨_,Zq _ rfl,rfl,rfl⟩ n ?_;refine⟨_,[_],_,_,_,rfl,i.kept (t':=f.toks) fun b o e=>Zc _ e,KR g _,⟨_,_,by rw[K];exact Zq _ rfl⟩,fun b hb=>?_,q⟩;have e:=Zb.mp hb;subst e;exact i.rY (Zg _)<|i.hok.fresh<|Zg _
section
variable {d:Ei}{Dm:Dl}{ob:Obj}{g:TG}{tb:TS}{D:Ends}{σ:St}{H:Hp}
theorem IQ (b:Nat->St->Hp->Prop)(l:b 0 σ H)(hl:∀i σ H,i<=Dm.length->b i σ H->H d=some (.frz ob<|.dK Dm))
  (n:∀i k v σ H,Dm[i]?=some (k,v)->b i σ H->g (kV k) σ H fun σ2 H2=>tb { D with nx:=b<|i+1,ct:=b<|i+1,bk:=D.nx } σ2 H2) (hd:∀σ H,b Dm.length σ H->D.nx σ H):NA (aQ d Dm ob) g tb D σ H :=
 ML Dm.length b l (fun σ H p=>⟨hl _ σ H (Zg _) p,rfl⟩) (fun i σ H e p=>⟨hl i σ H (Yx e) p,e⟩) (fun i σ H e p v q y=>by
  obtain⟨f,k,x,o,j⟩:=y;subst j f;exact n i k x σ _ o p) hd
theorem Bp (b:Nat->St->Hp->Prop)(l:b 0 σ H)(hl:∀i σ H,i<=Dm.length->b i σ H->H d=some (.frz ob<|.dK Dm))
  (o:∀i k v T σ H,Dm[i]?=some (k,v)->b i σ H->H T=none->g (.ref T) σ (upd H T<|.tup [kV k,v]) fun σ2 H2=>tb { D with nx:=b<|i+1,ct:=b<|i+1,bk:=D.nx } σ2 H2) (hd:∀σ H,b Dm.length σ H->D.nx σ H):NA (aR d Dm ob) g tb D σ H :=
 ML Dm.length b l (fun σ H p=>⟨hl _ σ H (Zg _) p,rfl⟩) (fun i σ H e p=>⟨hl i σ H (Yx e) p,e⟩) (fun i σ H e p v r y=>by
  obtain⟨T,k,x,q,n,j,f⟩:=y;subst j f;exact o i k x T σ H q p n) hd
end
def bw:R2:=fun y x H Q=>∃a o,x=.ref a/\vg H a y o/\Q (.bl o.isSome) H
theorem BU (i:X.A.units+64<Lj):Cz X (EY .In) bw:=by
 intro f s l H y x v u Q I e d h;obtain⟨a,o,rfl,g,q⟩:=h;cases d;exact bc (by lia) I g e fun j b=>⟨.bl _,H,b,rfl,q⟩
theorem RP {H:Hp}{a:Ei}{b:Obj}{Dm:Dl}(e:H a=some (.frz b<|.dK Dm)):vg H a (kV k) (Uu Dm k):=.inl ⟨Dm,k,.inr ⟨b,e⟩,rfl,rfl⟩
inductive lY (K:Cc)(H:Hp)(kb:Dl):Dl->Bool->Prop
 |nil:lY K H kb [] true
 |miss {k:Key} {v:V} {r:Dl}:Uu kb k=none->lY K H kb ((k,v)::r) false
 |hit {k:Key} {v y:V} {d e:Ek} {r:Dl} {b:Bool}:Uu kb k=some y->Dt K H d v->Dt K H e y->Lm d=true->Lm e=true->lY K H kb r b->lY K H kb ((k,v)::r) (EJ d e&&b)
end
section
variable {X:Cx}{K:Cc}
theorem F0 (z:X.A.units+64<Lj)(i:X.K=K:=by rfl):Cz X (EY .NotIn) (bu K true true):=by
 subst i;intro r s B H x y v u Q I n o h;obtain⟨d,p,b,e,f,g,w,q⟩:=h;obtain⟨t,j⟩:=Dt.zu I d x v b n;obtain⟨bs,l⟩:=Dt.zu I _ y u e o;have hm:min (EF p) d.depth<=d.depth:=Nat.min_le_right _ _;exact SeqAt.notIn_tuple_reads l j f g (by lia) ⟨.bl _,H,I,rfl,by simpa using q⟩
end
end L2
namespace An
open PySem L2
theorem Gv (x:Str):0<=dg x/\dg x<97:=by
 unfold dg;have:∀(l:List Nat) (n:Int),(0<=n/\n<97)->0<=l.foldl WT n/\l.foldl WT n<97:=by
  intro l
  induction l with
  |nil=>intro n h;exact h
  |cons c l ih =>
   intro n _;rw[JR];refine ih _ ?_;unfold WT;lia
 exact this _ 0 ⟨by decide,by decide⟩
theorem PD (x:Str):EQ (L4<|dg x)=UD (dg x).toNat:=by
 unfold UD;rw[Int.toNat_of_nonneg (Gv x).1]
theorem FX {n:Nat}(h:n<97):(UD n).length<=10:=Jz (by lia) (by decide) (by
 have:n<10 ^ 9:=by lia
 lia)
theorem WP (x:Str)(n:Nat):cs (My x none<|some (n:Int))=(cs x).take n:=by
 by_cases h:n<=x.length
 ·have e:=VC (VM (x:=x) (j:=(n:Int)) (by lia)<|by lia);rw[e];show((x.cps.toList.drop (0:Int).toNat).take ((n:Int)-0).toNat).toArray.toList=_;simp[cs]
 ·have e:=VC (VM (x:=x) (j:=(x.length:Int)) (by lia)<|by lia);rw[PyProof.Rows.slice_to_beyond<|by lia,e];have hl:(cs x).length<=n:=by rw[←zb];lia
  rw[Jc hl];show((x.cps.toList.drop (0:Int).toNat).take ((x.length:Int)-0).toNat).toArray.toList=_;have:((x.length:Int)-0).toNat=x.cps.toList.length:=by simp[Str.length]
  rw[this];show(x.cps.toList.take x.cps.toList.length)=cs x;rw[ZJ]
theorem snoc_ind {b:Type}{p:List b->Prop}(d:p [])(e:∀l x,p l->p (l++[x]))(l:List b):p l:=by
 have:∀l:List b,p l.reverse:=by
  intro l
  induction l with
  |nil=>exact d
  |cons x l ih=>rw[List.reverse_cons];exact e _ _ ih
 have:=this l.reverse
 rwa[List.reverse_reverse]at this
theorem lX (S:Di)(h:Str):(xu S h).getD 0=0\/∃e∈S,e.h=h/\e.n+1=(xu S h).getD 0:=by
 induction S using snoc_ind with
 |d=>exact .inl rfl
 |e S e ih =>
  rw[XO]
  by_cases q:e.h=h
  ·rw[Zy q];show max ((xu S h).getD 0) (e.n+1)=0\/_
   rcases Nat.le_total ((xu S h).getD 0) (e.n+1) with z|z
   ·exact .inr ⟨e,by simp,q,(Nat.max_eq_right z).symm⟩
   ·have g:max ((xu S h).getD 0) (e.n+1)=(xu S h).getD 0:=Nat.max_eq_left z
    rcases ih with i|⟨f,d,h1,b⟩
    ·exact .inl (g.trans i)
    ·exact .inr ⟨f,by simp[d],h1,b.trans g.symm⟩
  ·rw[Zr q]
   rcases ih with i|⟨f,d,h1,b⟩
   ·exact .inl i
   ·exact .inr ⟨f,by simp[d],h1,b⟩
theorem MZ {S:Di}(b:∀e∈S,e.n<S.length)(h:Str):(xu S h).getD 0<=S.length:=by
 rcases lX S h with i|⟨f,d,_,g⟩
 ·lia
 ·have:=b f d;lia
theorem Kr (n:Nat):Er (UD n)=true:=by
 rw[yV];intro c b;have b:c∈(EQ<|L4 ((n:Nat):Int)).cps.toList:=b;rw[Vw]at b;obtain⟨d,hd,rfl⟩:=Zd.mp b;show d.val.toNat<1114112
 rcases d.valid with h|⟨_,h⟩
 ·exact Ug h (by decide)
 ·exact h
theorem Ks {x y:Str}(d:Er x=true)(e:Er y=true):Er (x++y)=true:=by
 rw[yV]at *;intro c b;rw[zq,ZB]at b;exact b.elim (d c)<|e c
theorem OA (xs:Da)(x:Str):(xs.map EI).any (fun y=>EJ y<|.str x)=decide (x∈xs):=by
 induction xs with
 |nil=>rfl
 |cons y xs ih =>
  show((y==x)||(xs.map EI).any (fun y=>EJ y<|.str x))=_;rw[ih,Z4,Ve,ZC,ZC,Zm,Jn];exact⟨fun h=>h.elim (fun z=>.inl z.symm) .inr,fun h=>h.elim (fun z=>.inl z.symm) .inr⟩
theorem TR {S:Di}(nd:(S.map (·.d)).Nodup){e f:En}(l:e∈S)(n:f∈S)(h:e.d=f.d):e=f:=by
 induction S with
 |nil=>cases l
 |cons x S ih =>
  rw[ZE,Z5]at nd
  rcases Zm.mp l with j|g
  ·rcases Zm.mp n with i|b
   ·rw[j,i]
   ·exact absurd (Zd.mpr ⟨f,b,by rw[←j];exact h.symm⟩) nd.1
  ·rcases Zm.mp n with i|b
   ·exact absurd (Zd.mpr ⟨e,g,by rw[←i];exact h⟩) nd.1
   ·exact ih nd.2 g b
def Ex (H:Hp)(X:Dd):Prop:=∀c∈X,∃o,H c=some o
theorem Ex.not {c:Ei}(h:Ex H X)(n:H c=none):c∉X:=fun z=>by
 obtain⟨o,e⟩:=h c z;rw[n]at e;cases e
section
variable {P:Ej}{w:Ep}{K:Cc}{C:Ei}{H H' H0:Hp}{S:Di}
theorem yq.ex (h:yq P w K C H a fp S):Ex H fp:=fun c b=>by
 obtain⟨o,e,_⟩:=h.wB c b;exact⟨o,e⟩
end
theorem GL {b:Type}{l:List b}{i:Nat}{x:b}(nd:l.Nodup)(h:l[i]?=some x):x∉l.take i:=fun z=>by
 obtain⟨j,g,e⟩:=ZY.mp z;rw[ZG]at g;rw[List.getElem_take]at e;obtain⟨f,d⟩:=Zv.mp h;exact Js.mp nd j i (by lia) f (by lia)<|e.trans d.symm
def UF (t:Th):Str:=t.letter++UD (dg t.sp).toNat
def GO (S:Di)(t:Th):En:=⟨UF t,(xu S<|UF t).getD 0,t.dat⟩
theorem IR (t:Th):t.letter.length=1:=by rw[zb,x9];rfl
theorem FJ (t:Th):46∉cs t.letter:=by
 rw[x9];cases t
 ·show 46∉[76];decide
 ·show 46∉[84];decide
 ·show 46∉[78];decide
theorem j7 (t:Th):46∉cs (UF t):=by
 unfold UF;rw[zq,ZB,Uh];exact⟨FJ t,fun h=>(PyProof.Rows.intText_free_46 _).mp h⟩
theorem uB (t:Th):(UF t).length<=100:=by
 unfold UF;have b:=FX (n:=(dg t.sp).toNat) (by have:=Gv t.sp;lia);rw[yr,IR];lia
theorem N1 (t:Th):Er t.letter=true:=by
 rw[yV,x9];intro c b;rw[Zb.mp b];cases t
 ·show 76<1114112;decide
 ·show 84<1114112;decide
 ·show 78<1114112;decide
theorem Gy:∀{ls:Da},(∀l∈ls,Er l=true)->xC (ls.map .str)=true/\qD (ls.map .str)=0
 |[],_=>⟨rfl,rfl⟩
 |l::ls,h=>by
  obtain⟨b,d⟩:=Gy fun x e=>h x<|Zf _ e;refine⟨?_,?_⟩
  ·show(Er l&&xC (ls.map .str))=true;rw[h l Zi,b];rfl
  ·show max 0 (qD<|ls.map .str)=0;rw[d];rfl
theorem HG:∀{rs:Dg},(∀p∈yB rs,Er p=true)->xC (rs.map zm)=true/\qD (rs.map zm)<=1
 |[],_=>⟨rfl,ZN _⟩
 |(x,y)::rs,h=>by
  obtain⟨b,e⟩:=HG (rs:=rs) fun p d=>h p<|Zf _<|Zf _ d;refine⟨?_,?_⟩
  ·show((Er x&&(Er y&&true))&&xC (rs.map zm))=true;rw[h x Zi,h y<|Zf _ Zi,b];rfl
  ·show max (max 0 (max 0 0)+1) (qD<|rs.map zm)<=1;lia
theorem CD {t:Th}(g:t.Good):Xs t.dat:=by
 have d:∀p∈t.parts,Er p=true:=fun p f=>(g.2 p f).ok;cases t with
 |leaf ls =>
  obtain⟨b,e⟩:=Gy (ls:=ls) d;refine⟨?_,?_⟩
  ·show(Er "leaf"&&(xC (ls.map .str)&&true))=true;rw[b];decide +kernel
  ·show max 0 (max (qD (ls.map .str)+1) 0)+1<=6;rw[e];decide
 |tree rs =>
  obtain⟨b,e⟩:=HG (rs:=rs) d;refine⟨?_,?_⟩
  ·show(Er "tree"&&(xC (rs.map zm)&&true))=true;rw[b];decide +kernel
  ·show max 0 (max (qD (rs.map zm)+1) 0)+1<=6;lia
 |note x ps y =>
  have i:∀p∈ps,Er p=true:=fun p f=>d p (by show p∈[x,dig ps.length]++ps++[y];simp[f]);have j:Er x=true:=d x (by show x∈[x,dig ps.length]++ps++[y];simp);have l:Er y=true:=d y (by show y∈[x,dig ps.length]++ps++[y];simp);obtain⟨b,e⟩:=Gy i;refine⟨?_,?_⟩
  ·show(Er "note"&&(Er x&&(xC (ps.map .str)&&(Er y&&true))))=true;rw[b,j,l];decide +kernel
  ·show max 0 (max 0<|max (qD (ps.map .str)+1)<|max 0 0)+1<=6;rw[e];decide
theorem uU {a b:Th}(h:a.dat=b.dat):a=b:=(MJ a b).mp (by
 rw[h];exact(MJ b b).mpr rfl)
def By (e:En):Prop:=∃t:Th,e.d=t.dat/\t.Good/\e.h=UF t
def Ny (e:En):Str:=match e.d with|.tuple (.str x::_)=>x|_=>""
theorem Ry (t:Th)(h:Str)(n:Nat):Ny ⟨h,n,t.dat⟩=t.word:=by cases t<;>rfl
theorem qJ {e:En}{t:Th}(h:e.d=t.dat):Ny e=t.word:=by
 obtain⟨a,b,c⟩:=e;have h:c=t.dat:=h;subst h;exact Ry t a b
def zS (S:Di)(x:Str)(b:Da):Bool:=S.any fun e=>decide (e.nm=x)&&decide (Ny e∈b)
def namesOk (S:Di):Th->Bool
 | .leaf _=>true
 | .tree Do=>Do.all fun r=>zS S r.2 ["leaf","tree"]
 | .note t ps _=>zS S t ["tree"]&&ps.all fun p=>zS S p ["note"]
theorem MM (g:tV S){e:En}(l:e∈S)(o:Da):zS S e.nm o=decide (Ny e∈o):=by
 unfold zS;rw[Z4,Z2,ZC];constructor
 ·rintro⟨f,p,h⟩;rw[Zk,ZC,ZC]at h;obtain⟨i,q,b⟩:=ZY.mp l;obtain⟨j,r,d⟩:=ZY.mp p;have:i=j:=by
   have n:=Js.mp g.nn
   rcases Vq i j with z|z|z
   ·exact absurd (by rw[ZT,ZT,b,d];exact h.1.symm) (n i j (by rwa[Za]) (by rwa[Za]) z)
   ·exact z
   ·exact absurd (by rw[ZT,ZT,b,d];exact h.1) (n j i (by rwa[Za]) (by rwa[Za]) z)
  subst this;rw[←b,d];exact h.2
 ·intro h;exact⟨e,l,by rw[Ze rfl,Ze h];rfl⟩
theorem kY {S:Di}{x:Str}(h:x∉S.map En.nm)(d:Da):zS S x d=false:=by
 unfold zS;rw[V1];intro e b z;rw[Zk,ZC]at z;exact h<|Zd.mpr ⟨e,b,z.1⟩
end An
namespace AxS
open PySem PySem.Spec PyProof.Rows
theorem X2 (t:Lx)(n:Nat):(t.orStandIn n).led=t.led/\(t.plain=false->(t.orStandIn n).plain=false):=by
 unfold SetTable.orStandIn
 split
 ·exact⟨rfl,id⟩
 ·exact⟨rfl,fun _=>rfl⟩
theorem CM (t:Lx)(es:Array<|Int×Eh)(h:Int)(x:Eh):(layNew t es h x).2.1.led=t.led/\(t.plain=false->(layNew t es h x).2.1.plain=false):=by
 unfold layNew
 split
 ·rename_i slot b _;have m:=X2 (t.put slot).1 (SetTable.insertAt es (t.put slot).2 (h,x)).size;exact⟨m.1,m.2⟩
 ·exact⟨rfl,fun _=>rfl⟩
theorem Kh {e b d:Nat}{led plain:Bool}{f:Array Int}{t:Lx}{o:Array Nat}(h:SetTable.laid e b d led plain f=some (t,o)):t.led=led/\t.plain=plain:=by
 unfold SetTable.laid at h;simp only[Option.bind_eq_bind,Option.bind_eq_some_iff,Option.pure_def,Option.some.injEq,Prod.mk.injEq]at h;obtain⟨_,_,h,_⟩:=h;rw[←h];exact⟨rfl,rfl⟩
theorem IM (t:Lx)(es:Array<|Int×Eh)(n:Nat):(relayAll t es n).2.1.led=t.led/\(t.plain=false->(relayAll t es n).2.1.plain=false):=by
 unfold relayAll
 split
 ·rename_i e b d;have m:=Kh d;dsimp only
  split
  ·exact⟨m.1,fun z=>m.2.trans z⟩
  ·exact⟨rfl,fun _=>rfl⟩
 ·exact⟨rfl,fun _=>rfl⟩
def keyOf (e:Int×Eh):Str:=match e.2 with
 | .str k _=>k
 |_=>""
def Ox (prog:Ej)(w:Ep)(es:Array<|Int×Eh)(t:Lx)(ks:Da):Prop :=
 ElemsOf (strKind prog w) es.toList/\(es.toList.map keyOf).Perm ks/\es.size<Mz/\t.fits es.size=true/\t.led=!(w.params.followText "set-order")/\(es.size≠0->t.plain=false)
def wI (prog:Ej)(w:Ep)(h:EB)(a:Ei)(ks:Da):Prop:=∃o b d t,h.get? a=some o/\o.ExactSet/\o.data=.set b d t/\Ox prog w b t ks
section
variable {prog:Ej}{w:Ep}{A:ED}{E:Eh->Dh}{s:Em}
theorem wI.at {h':EB}(x:wI prog w h a ks)(e:∀o,h.get? a=some o->h'.get? a=some o):wI prog w h' a ks:=by
 obtain⟨o,d,b,t,f,r⟩:=x;exact⟨o,d,b,t,e _ f,r⟩
theorem key_is {es:Array (Int×Eh)}(h:ElemsOf (strKind prog w) es.toList){e:Int×Eh}(g:e∈es.toList)(k:Str):(strKind prog w).is k e.2=true↔keyOf e=k:=by
 obtain⟨⟨d,b,_⟩,_⟩:=h e g;obtain⟨t,f⟩:=YV b;have ek:keyOf e=d:=by unfold keyOf;rw[f]
 constructor
 ·intro z;rw[ek];exact(strKind prog w).inj e.2 d k b z
 ·intro z;rwa[←z,ek]
theorem FR {es:Array (Int×Eh)}{ks:Da}(h:ElemsOf (strKind prog w) es.toList)(p:(es.toList.map keyOf).Perm ks)(k:Str):k∈ks↔∃e∈es.toList,(strKind prog w).is k e.2=true:=by
 rw[←p.mem_iff,Zd];exact⟨fun⟨e,b,z⟩=>⟨e,b,(key_is h b k).mpr z⟩,fun⟨e,b,z⟩=>⟨e,b,(key_is h b k).mp z⟩⟩
theorem KY {es:Array (Int×Eh)}{t:Lx}{ks:Da}(x:Ox prog w es t ks):es.size=ks.length:=by
 rw[←x.2.1.length_eq,Za,ZO]
theorem Wx {k:Str}{D:Tok}{Q:Bool->Dh}(hS:wI prog w s.heap a ks)(ap:ks.length+1<Mz)
  (h:∀h' r,Ll a s.heap h'->wI prog w h' a (if k∈ks then ks else ks++[k])->Q r { s with heap:=h' }) :
  El (Es prog w) A (setAddHashed a (.str k D)<|hashStr w k) Q E s:=by
 obtain⟨o,B,Y,t,O,F,hd,X⟩:=hS;have Dq:=KY X;obtain⟨n,T,hb,Z,p,an⟩:=X;have Ed:(strKind prog w).is k (.str k D)=true:=by show E6 k (.str k D)=true;simp[E6]
 have I:(L9 k D).scannable=true:=rfl;have hh:hashStr w k=(strKind prog w).hash k:=rfl;rw[hh];unfold setAddHashed setAddHashedIn;refine Yb<|Q9<|Jt O hd Z ?_;dsimp only;rw[byScan_of (knd:=strKind prog w) I hb n];simp only[↓reduceIte];unfold setAddByScan;refine Q9<|Q9<|JK<|Q9<|wpAny_setScan_of (knd:=strKind prog w) Ed O hd Z n ?_;cases hr:List.findIdx? (fun e=>(strKind prog w).is k e.2) B.toList with
 |some j =>
  obtain⟨hj,am,_⟩:=List.findIdx?_eq_some_iff_getElem.mp hr;have hk:k∈ks:=(FR n T k).mpr ⟨B.toList[j],Yt hj,am⟩;have:=h s.heap false (Heap.SameBut.refl a s.heap) (by rw[Zy hk];exact⟨o,B,Y,t,O,F,hd,n,T,hb,Z,p,an⟩);exact Zh<|Zh this
 |none =>
  have hk:k∉ks:=fun z=>by
   obtain⟨e,he,q⟩:=(FR n T k).mp z;have:=List.findIdx?_eq_none_iff.mp hr e he;rw[q]at this;cases this
  rw[Zr hk]at h;have M:∀(b:Bool) {v:Em} {U:Unit->Dh},U () v->El (Es prog w) A (match b with|true=>rule "set.scan.the-table-gave-way"|false=>LC ()) U E v:=by
   intro b v U hq;cases b
   ·exact Zh hq
   ·exact JK hq
  have f:=layNew_perm t B ((strKind prog w).hash k)<|.str k D;have i:=layNew_fits t B ((strKind prog w).hash k)<|.str k D;have y:=CM t B ((strKind prog w).hash k)<|.str k D;dsimp only;generalize layNew t B ((strKind prog w).hash k) (.str k D)=L at f i y ⊢;obtain⟨d,t1,wd,ar⟩:=L;dsimp only at f i y ⊢;rw[Array.toList_push]at f;have a0:d.size=B.size+1:=by rw[←ZO,f.length_eq,Zp,ZO];rfl
  have C:ElemsOf (strKind prog w) d.toList:=(n.push Ed I).perm f;have P:(d.toList.map keyOf).Perm (ks++[k]):=by
   refine(f.map keyOf).trans ?_;rw[Zo];exact T.append<|List.Perm.refl _
  have K:d.size<scanBound:=by lia
  refine Q9<|M _ ?_;have tail:∀(g:Lx),g.fits d.size=true->g.led=t.led->g.plain=false->El (Es prog w) A (do
    storeSet a d g
    if(!wd&&g.tooFull)=true then do
      (match(relayAll g d<|LF d.size).2.2 with|true=>rule "set.scan.the-table-gave-way"|false=>LC ())
      storeSet a (relayAll g d<|LF d.size).1 (relayAll g d<|LF d.size).2.1
      LC (some true)
     else LC (some true)) (fun r s'=>r=some true/\Q true s') E s:=by
   intro g ab N R;refine Q9<|wpAny_storeSet_of O hd ?_<|fits_of_scanBound K;have S:=EW s.heap a<|MC d g;have H:(s.heap.update a<|MC d g).get? a=some { o with data:=.set d (Y+1) g }:=by
    have:=Yc (MC d g) O (by rw[putSet_of d g hd];rfl);rw[putSet_of d g hd]at this;exact this
   split
   ·have u:=relayAll_perm g d<|LF d.size;have G:=relayAll_fits g d<|LF d.size;have x:=IM g d<|LF d.size;generalize relayAll g d (LF d.size)=Rl at u G x ⊢;obtain⟨l,J,gv⟩:=Rl;dsimp only at u G x ⊢;have as:l.size=d.size:=by rw[←ZO,u.length_eq,ZO]
    refine Q9 (M _<|Q9<|wpAny_storeSet_of H rfl ?_<|fits_of_scanBound<|by lia);have ah:((s.heap.update a<|MC d g).update a<|MC l J).get? a=some { o with data:=.set l (Y+1+1) J }:=by
     have:=Yc (MC l J) H (by rw[putSet_of l J rfl];rfl);rw[putSet_of l J rfl]at this;exact this
    exact Zh ⟨rfl,h _ true (S.trans<|EW _ a _) ⟨_,l,_,J,ah,F,rfl,C.perm u,((u.map keyOf)).trans P,by lia,G,x.1.trans<|N.trans p,fun _=>x.2 R⟩⟩
   ·exact Zh ⟨rfl,h _ true S ⟨_,d,_,g,H,F,rfl,C,P,K,ab,N.trans p,fun _=>R⟩⟩
  split
  ·refine Q9 ?_;rw[hashByValue_scannable 8 I];refine Zh ?_;refine Yr (tail { t1 with plain:=false } (SetTable.fits_plain_off i) y.1 rfl) (fun r s' q=>?_) fun _ _ z=>z;obtain⟨rfl,q⟩:=q;exact Zh q
  ·rename_i al;refine Q9<|Zh ?_;simp only[↓reduceIte];refine Yr (tail t1 i y.1<|by simpa using al) (fun r s' q=>?_) fun _ _ z=>z;obtain⟨rfl,q⟩:=q;exact Zh q
def step (ks:Da)(k:Str):Da:=if k∈ks then ks else ks++[k]
def uniq (xs:Da):Da:=xs.foldl step []
theorem G4 (xs:Da)(k:Str):uniq (xs++[k])=step (uniq xs) k:=by unfold uniq;rw[YT];rfl
theorem Ro (ks:Da)(k:Str):(step ks k).length<=ks.length+1:=by unfold step;split<;>simp
theorem rA:∀(n:Nat) (xs:Da),xs.length=n->(uniq xs).length<=n
 | 0,xs,h=>by rw[Yw h];exact Zg _
 |n+1,xs,h=>by
  have b:xs≠[]:=fun z=>by rw[z]at h;cases h
  rw[←List.dropLast_concat_getLast b,G4];have:=rA n xs.dropLast (by rw[List.length_dropLast];lia);have:=Ro (uniq xs.dropLast)<|xs.getLast b;lia
theorem Oq {xs:Da}{i:Nat}{k:Str}(h:xs[i]?=some k):uniq (xs.take<|i+1)=if k∈uniq (xs.take i) then uniq (xs.take i) else uniq (xs.take i)++[k]:=by
 have e:xs.take (i+1)=xs.take i++[k]:=by rw[Yk,h];rfl
 rw[e,G4];rfl
end
section
variable {prog:Ej}{w:Ep}{A:ED}{R:Result->Dh}{I:Ei}{fp wr:Dd}{G:Array GenState->Array GenState->Prop}{n:Nat}{P:Nat->Eh->Prop}{St:Nat->Dh}
theorem Nu (W:WalksS prog w A.in1 I fp wr G n P St)(S:Ei)(l:S∉fp)(xs:Da)(hn:xs.length=n)(z:∀i v,P i v->∃k t,xs[i]?=some k/\v=.str k t)(hb:n+1<Mz) :
  ∀(m i:Nat) (s:Em),n-i=m->i<=n->St i s->wI prog w s.heap S (uniq<|xs.take i) ->
   (∀s',Moved (S::wr) G s s'->wI prog w s'.heap S (uniq xs)->R (.ok<|.ret .none) s')->LK (Es prog w) A (.builtin "set.update.loop" ⟨[.ref S,.ref I],[]⟩) R s:=by
 have p:S∉wr:=fun h=>l<|W.sub _ h;have d:∀b∈wr,b∈S::wr:=fun b hb=>Zf _ hb;intro m
 induction m with
 |zero =>
  intro i s hk K f B C;have E:i=n:=by lia
  subst E;refine YH J7 ?_;rw[La Ja _];show El _ A.in1 (LN (.ref I)>>=_) _ _ s;refine Q9<|W.done s _ _ f fun s' hm=>?_;show El _ A.in1 (ret EC) _ _ s';rw[←hn,ZJ]at B;exact Zh<|C s' (hm.mono d)<|B.at fun o e=>hm.heap S _ p e
 |succ m ih =>
  intro i s hk K f B C;have q:i<n:=by lia
  refine YH J7 ?_;rw[La Ja _];show El _ A.in1 (LN (.ref I)>>=_) _ _ s;refine Q9<|W.item i s _ _ q f fun v s' J y hm=>?_;obtain⟨k,t,F,rfl⟩:=z i v J;have D:=B.at (h':=s'.heap) fun o e=>hm.heap S _ p e;show El _ A.in1 (MD [L9 k t] (setAdd S<|.str k t)>>=_) _ _ s';refine Q9<|Yb ?_;unfold setAdd;refine Yb ?_;refine Q9 ((strKind prog w).pyHash (k:=k) (by show E6 k (.str k t)=true;simp[E6]) ?_);have hl:=rA _ (xs.take i) rfl;rw[ZG]at hl;refine Wx (s:={ s' with toks:=s'.toks+1 }) D (by lia) fun h' r x j=>?_;rw[←Oq F]at j;refine Zh ⟨J9 Ja _,ih (i+1) _ (by lia) q (W.frame _ s' _ _ y (Je _) fun b hb o e=>?_) j fun H u g=>?_⟩
  ·rw[x.2 b (fun h:b=S=>l<|by rwa[←h])];exact e
  ·refine C H (Moved.trans W.gtrans ((hm.mono d).then_heap (Je _) fun b o hb e=>?_) u) g;rw[x.2 b (fun h:b=S=>hb (by rw[h];exact Zi))];exact e
end
section
variable {prog:Ej}{w:Ep}{A:ED}{E:Eh->Dh}{s:Em}
def z6 (w:Ep):Obj:={ cls:=.type "set",dict:=none,data:=.set #[] 0 (.fresh 0 0<|!(w.params.followText "set-order")) }
theorem HD {h:EB}{a:Ei}{xs:Da}(e:h.get? a=some (z6 w)):wI prog w h a (uniq<|xs.take 0) :=
 ⟨_,#[],0,_,e,⟨rfl,rfl,rfl⟩,rfl,fun _ z=>by simp at z,List.Perm.refl _,by decide,by rfl,rfl,fun z=>absurd rfl z⟩
theorem Nm (a:Eh){Q₁:Eh->Dh}(h:Q₁ (.ref s.heap.objs.size) { s with heap:=s.heap.push (z6 w) }) :
  LK (Es prog w) A (.call (.builtin "set.__new__") ⟨[.type "set",a],[]⟩) (wants Q₁ E) s:=by
 refine Uj ?_;show El _ A.in1 (do checkBuiltinCall "set.__new__" ⟨[.type "set",a],[]⟩;again (.builtin "set.__new__" ⟨[.type "set",a],[]⟩)) _ _ s;refine Q9<|Ju (F.newCall_set_1 a)<|Zh ⟨J9 F.plain_set_new _,YH F.entry_set_new ?_⟩;rw[La F.plain_set_new _];unfold Builtin.«set.__new__» Builtin.Frozenset.newClass;have b:=sub_set_self;obtain⟨e,g,d,f,os⟩:=s;dsimp only
 wp_walk
 refine JC<|Zh ?_;dsimp only;simp only[newObj];refine Q9<|wpAny_alloc<|Zh ?_;exact Zh h
theorem sub_list_set:isSubtype (.type "list") (.type "set")=LC false:=by rw[JD];kernel_rfl
theorem sub_list_frozenset:isSubtype (.type "list") (.type "frozenset")=LC false:=by rw[JD];kernel_rfl
theorem sub_tuple_set:isSubtype (.type "tuple") (.type "set")=LC false:=by rw[JD];kernel_rfl
theorem sub_tuple_frozenset:isSubtype (.type "tuple") (.type "frozenset")=LC false:=by rw[JD];kernel_rfl
end
section
variable {M:Model}{A:ED}{E:Eh->Dh}{s:Em}
theorem BT {src:Source}{n:Nat}{Q:Nat->Dh}(hn:n≠0)(h:∀i,i<n->Q i { s with drawn:=s.drawn.bump src }):El M A (choose src n) Q E s :=
 fun b p _=>⟨hn,h _<|Nat.mod_lt _<|Nat.pos_of_ne_zero hn⟩
theorem Gx {b:Type}{xs:List b}{i:Nat}{x:b}(h:xs[i]?=some x):(x::xs.eraseIdx i).Perm xs:=by
 induction xs generalizing i with
 |nil=>cases h
 |cons y ys ih =>
  cases i with
  |zero =>
   have h:y=x:=Option.some.inj h;subst h;exact List.Perm.refl _
  |succ i =>
   have h:ys[i]?=some x:=by simpa using h
   show(x::y::ys.eraseIdx i).Perm (y::ys);exact(List.Perm.swap y x _).trans (List.Perm.cons y<|ih h)
theorem jL {g:Type}:∀(n:Nat) (xs:List g) (s:Em) {Q:List g->Dh},xs.length<=n->(∀ys d,ys.Perm xs->Q ys { s with drawn:=d })->El M A (drawOrder n xs) Q E s
 | 0,xs,s,Q,hl,h=>by
  have e:xs=[]:=Yw (by lia);subst e;exact Zh<|h [] s.drawn<|List.Perm.refl _
 |n+1,[],s,Q,hl,h=>Zh<|h [] s.drawn<|List.Perm.refl _
 |n+1,x::xs,s,Q,hl,h=>by
  refine Q9 (BT (by simp) fun i b=>?_);have f:(x::xs)[i]?=some ((x::xs)[i]):=Zl b;have j:=Gx f;show El M A (match(x::xs)[i]? with|some x_1=>_|none=>_) Q E _;rw[f];refine Q9 (jL n _ _ (by rw[List.length_eraseIdx_of_lt b];simp at hl ⊢;lia) fun ys d l=>?_);exact Zh<|h _ d<|(List.Perm.cons _ l).trans j
theorem Nd {e:Type}(next:Nat->Nat):∀(fuel k:Nat) (left:List e) (out:Array e),left.length=fuel->(pickOrder.go next fuel k left out).toList.Perm (out.toList++left)
 | 0,k,left,out,h=>by
  rw[Yw h,ZK];exact List.Perm.refl _
 |fuel+1,k,left,out,h=>by
  unfold pickOrder.go;have b:next k % left.length<left.length:=Nat.mod_lt _ (by lia);have d:left[next k % left.length]?=some (left[next k % left.length]):=Zl b;rw[d];refine(Nd next fuel (k+1) _ _ (by rw[List.length_eraseIdx_of_lt b];lia)).trans ?_;rw[Array.toList_push,Z7];exact List.Perm.append_left _<|Gx d
theorem Xr {b:Type}(next:Nat->Nat)(xs:Array b):(Mc next xs).toList.Perm xs.toList:=by
 have:=Nd next xs.size 0 xs.toList #[] (by simp);simpa[Mc] using this
end
section
variable {prog:Ej}{w:Ep}{A:ED}{E:Eh->Dh}{s:Em}
def byText (w:Ep):Bool:=w.params.followText "set-order"
theorem II {a:Ei}{o:Obj}{es:Array (Int×Eh)}{ep:Nat}{t:Lx}{Q:Bool->Dh}(d:s.heap.get? a=some o)(hd:o.data=.set es ep t)(b:t.fits es.size=true)
  (h:Q (!byText w&&(!t.plain&&decide (es.size>1))) s):El (Es prog w) A (setDrawn a) Q E s:=by
 unfold setDrawn setsByText;refine Q9<|Jt d hd b ?_;refine Q9<|Q9<|JC<|Zh ?_;exact Zh h
theorem HX:entryFor table "set.__iter__"=some Builtin.«frozenset.__iter__» :=
 entryFor_alias (id':="frozenset.__iter__") (by kernel_rfl) (by first|rfl|decide +kernel|(unfold String.splitOn;simp +decide [String.splitOnAux])) (by decide +kernel) (by kernel_rfl)
theorem F1:Manifest.owners.lookup (String.ofList ['r','o','t','a','r','e','t','i','_','t','e','s'].reverse)=some Manifest.sig_set_iterator:=by kernel_rfl
theorem slot_next:Slot "set_iterator" "__next__" "set_iterator.__next__" :=
 .of (owner:="set_iterator") (n:="__next__") (by rw[Uk,Vx];kernel_rfl) (by decide +kernel) (by decide +kernel) (by decide +kernel)
  (by first|exact .inl (by decide +kernel)|exact .inr (by decide +kernel)) (by rw[JD];kernel_rfl)
theorem entry_next:entryFor table "set_iterator.__next__"=some Builtin.«set_iterator.__next__»:=entryFor_of_tree (by kernel_rfl)
theorem args_next (a:Eh):argsOk "set_iterator.__next__" ⟨[a],[]⟩:=by
 unfold argsOk;rw[signature?_of (id:="set_iterator.__next__") (n:=['_','_','t','x','e','n','_','_']) (o:=['r','o','t','a','r','e','t','i','_','t','e','s']) (by kernel_rfl) F1];kernel_rfl
theorem XS:Slot "set_iterator" "__iter__" "set_iterator.__iter__" :=
 .of (owner:="set_iterator") (n:="__iter__") (by rw[Uk,Vx];kernel_rfl) (by decide +kernel) (by decide +kernel) (by decide +kernel)
  (by first|exact .inl (by decide +kernel)|exact .inr (by decide +kernel)) (by rw[JD];kernel_rfl)
theorem Fc (a:Eh):argsOk "set_iterator.__iter__" ⟨[a],[]⟩:=by
 unfold argsOk;rw[signature?_of (id:="set_iterator.__iter__") (n:=['_','_','r','e','t','i','_','_']) (o:=['r','o','t','a','r','e','t','i','_','t','e','s']) (by kernel_rfl) F1];kernel_rfl
theorem CH:entryFor table "set_iterator.__iter__"=some Builtin.«dict_keyiterator.__iter__» :=
 entryFor_alias (id':="dict_keyiterator.__iter__") (by kernel_rfl) (by first|rfl|decide +kernel|(unfold String.splitOn;simp +decide [String.splitOnAux])) (by decide +kernel) (by kernel_rfl)
def MR (first:Eh)(i:Int)(a:Ei)(n ep:Nat):Obj:={ cls:=.type "set_iterator",data:=.fields #[first,EX i,.ref a,EX n,EX ep] }
theorem O6 {a:Ei}{o:Obj}{es:Array (Int×Eh)}{ep:Nat}{t:Lx}{Q:Eh->Dh}(b:s.heap.get? a=some o)(r:o.ExactSet)(hd:o.data=.set es ep t)(f:t.fits es.size=true)(hz:es.size<=1000)
  (n:(!byText w&&(!t.plain&&decide (es.size>1)))=false->Q (.ref s.heap.objs.size) { s with heap:=s.heap.push (MR (EX 0) 0 a es.size ep) })
  (p:(!byText w&&(!t.plain&&decide (es.size>1)))=true->∀(ps:List Nat) d tk,ps.Perm (EM es.size)->Q (.ref<|s.heap.objs.size+1) { s with heap:=(s.heap.push { cls:=.type "tuple",data:=.seq (ps.map fun i=>EX (i:Nat)).toArray }).push (MR (.ref s.heap.objs.size) 0 a es.size ep),drawn:=d,toks:=tk }) :
  El (Es prog w) A (pyIter<|.ref a) Q E s:=by
 have j:s.TypeIs (.ref a) "set":=⟨o,b,r.1⟩;refine wpAny_pyIter_slot j PySem.F.slot_set_iter<|Yg PySem.F.slot_set_iter j HX ?_<|PySem.F.args_set_iter_1 _;unfold Builtin.«frozenset.__iter__»;refine Q9 (m:=Builtin.Frozenset.slot0 _ _)<|Ju (a:=a) rfl ?_;unfold Builtin.Frozenset.sizeOf;refine Q9<|Q9<|JA b hd f<|Zh ?_;refine Q9<|II b hd f ?_;cases q:(!byText w&&(!t.plain&&decide (es.size>1))) with
 |false =>
  rw[Zr<|by decide];refine Q9<|Zh<|Q9<|wpAny_setEpoch_of b hd f ?_;simp only[newFields];refine Q9<|ZX ?_;exact Zh ⟨_,rfl,"set_iterator",_,⟨_,Zq _ rfl,rfl⟩,slot_next.lookup,n q⟩
 |true =>
  rw[Zy rfl];refine Q9 (jL es.size (EM es.size) s (by rw[Yv];exact Zg _) fun ps d l=>?_);have u:ps.length=es.size:=by rw[l.length_eq,Yv]
  simp only[newTuple];refine Q9<|ZX ?_ ?_
  ·have g:(s.heap.push { cls:=.type "tuple",data:=.seq (ps.map fun i=>EX (i:Nat)).toArray }).get? a=some o:=Zc _ b;refine Q9<|wpAny_setEpoch_of (s:={ s with heap:=s.heap.push { cls:=.type "tuple",data:=.seq (ps.map fun i=>EX (i:Nat)).toArray },drawn:=d }) g hd f ?_;simp only[newFields];refine Q9<|ZX ?_;have e:(s.heap.push { cls:=.type "tuple",data:=.seq (ps.map fun i=>EX (i:Nat)).toArray }).objs.size=s.heap.objs.size+1:=Yz _ _;refine Zh ⟨_,rfl,"set_iterator",_,⟨_,Zq _ rfl,rfl⟩,slot_next.lookup,?_⟩;have:=p q ps d s.toks l;rw[←e]at this;exact this
  ·show(ps.map fun i=>EX (i:Nat)).toArray.size<=sizeLine;rw[ZD,Za,u,Yp];lia
theorem qI {it:Ei}(h:s.heap.get? it=some (MR f i a n ep)):s.TypeIs (.ref it) "set_iterator":=⟨_,h,rfl⟩
theorem Bv {it a:Ei}{o:Obj}{es:Array (Int×Eh)}{ep:Nat}{t:Lx}{slot i D3:Nat}{x:Eh}{Q:Dc->Dh}(b:s.heap.get? it=some (MR (EX slot) i a es.size ep))(j:a≠it)(l:s.heap.get? a=some o)(hd:o.data=.set es ep t)(g:t.fits es.size=true)
  (hn:∀(A:ED) (E:Eh->Dh) (Q:Option (Eh×Nat)->Dh),Q (some (x,D3)) s->El (Es prog w) A (setNext a slot i ep) Q E s)
  (h:∀h',h'.get? it=some (MR (EX D3) (i+1) a es.size ep)->Ll it s.heap h'->Q (some x) { s with heap:=h' }):El (Es prog w) A (LN<|.ref it) Q E s:=by
 unfold LN;refine Q9<|Jy<|Ys (name:=EQ "__next__") (qI b) slot_next<|Yg slot_next (qI b) entry_next ?_<|args_next _
 unfold Builtin.«set_iterator.__next__»;refine Q9<|Ju (a:=(Eu it,[])) rfl ?_;refine Q9<|VW b rfl ?_;show El _ _ (setEntries a>>=_) _ _ s;refine Q9<|JA l hd g ?_;have e:(((es.size:Nat):Int) !=((es.size:Nat):Int))=false:=by simp
 rw[Zr (by rw[e];decide)];show El _ _ (setNext a slot i ep>>=_) _ _ s;refine Q9<|hn _ _ _ ?_;show El _ _ (setField (.ref it) 0 (EX D3)>>=_) _ _ s;refine Q9 (YL b rfl (by simp) ?_);have d:=Yc (Lk (·.setIfInBounds 0 (EX (D3:Nat)))) b rfl;refine Q9 (YL d rfl (by simp) ?_);have f:=Yc (Lk (·.setIfInBounds 1 (EX<|(i:Int)+1))) d rfl;exact Zh ⟨x,rfl,Zh<|h _ f<|(EW ..).trans<|EW ..⟩
theorem uG {it a:Ei}{o:Obj}{es:Array (Int×Eh)}{ep:Nat}{t:Lx}{slot i:Nat}{Q:Dc->Dh}(e:A.handled=none)(d:s.heap.get? it=some (MR (EX slot) i a es.size ep))(j:s.heap.get? a=some o)(hd:o.data=.set es ep t)(g:t.fits es.size=true)
  (hn:∀(A:ED) (E:Eh->Dh) (Q:Option (Eh×Nat)->Dh),Q none s->El (Es prog w) A (setNext a slot i ep) Q E s)
  (h:∀h',Heap.ExtBut it s.heap h'->Q none { s with heap:=h' }):El (Es prog w) A (LN<|.ref it) Q E s:=by
 unfold LN;refine Q9<|Jy<|Ys (name:=EQ "__next__") (qI d) slot_next<|Yg slot_next (qI d) entry_next ?_<|args_next _
 unfold Builtin.«set_iterator.__next__»;refine Q9<|Ju (a:=(Eu it,[])) rfl ?_;refine Q9<|VW d rfl ?_;show El _ _ (setEntries a>>=_) _ _ s;refine Q9<|JA j hd g ?_;have f:(((es.size:Nat):Int) !=((es.size:Nat):Int))=false:=by simp
 rw[Zr (by rw[f];decide)];show El _ _ (setNext a slot i ep>>=_) _ _ s;refine Q9<|hn _ _ _ ?_;show El _ _ (setField (.ref it) 2 .none>>=_) _ _ s;refine Q9 (YL d rfl (by simp) ?_);refine Q9 ?_;simp only[newExc,newTuple];refine Q9 (ZX ?_<|by size_fits);refine Q9 (m:=Lr _ _) (Ju (a:=EC) (by first|rfl|(simp only[Lr];rfl)) ?_);refine ZX ?_ (by size_fits);simp only[raiseNew];refine Q9<|wpAny_handled ?_
 first|rw[show A.in1.handled=none from e]|rw[e]
 refine Q9<|Zh<|wpAny_throw ?_;refine Q9<|Ji (T:="StopIteration") (b:=true) ⟨_,Zq _ rfl,rfl⟩ VX ?_;refine Zh<|h _ ?_;refine((Heap.ExtBut.push ?_ _).push _);exact(EW ..).extBut
def SN (ps:List Nat):Obj:={ cls:=.type "tuple",data:=.seq (ps.map fun i=>EX (i:Nat)).toArray }
theorem Kp {it a u:Ei}{o:Obj}{es:Array (Int×Eh)}{ep:Nat}{t:Lx}{i p:Nat}{ps:List Nat}{e:Int×Eh}{Q:Dc->Dh}(b:s.heap.get? it=some (MR (.ref u) i a es.size ep))(v:s.heap.get? u=some (SN ps))(g:s.heap.get? a=some o)(hd:o.data=.set es ep t)(f:t.fits es.size=true)
  (r:ps[i]?=some p) (q:es[p]?=some e) (h:∀h',h'.get? it=some (MR (.ref u) (i+1) a es.size ep)->Ll it s.heap h'->Q (some e.2) { s with heap:=h' }):El (Es prog w) A (LN<|.ref it) Q E s:=by
 unfold LN;refine Q9<|Jy<|Ys (name:=EQ "__next__") (qI b) slot_next<|Yg slot_next (qI b) entry_next ?_<|args_next _
 unfold Builtin.«set_iterator.__next__»;refine Q9<|Ju (a:=(Eu it,[])) rfl ?_;refine Q9<|VW b rfl ?_;show El _ _ (setEntries a>>=_) _ _ s;refine Q9<|JA g hd f ?_;have j:(((es.size:Nat):Int) !=((es.size:Nat):Int))=false:=by simp
 rw[Zr (by rw[j];decide)];show El _ _ (seqItems? (.ref u)>>=_) _ _ s;refine Q9<|Vp v rfl ?_;have d:(ps.map fun i=>EX ((i:Nat):Int)).toArray[i]?=some (EX (p:Nat)):=by
  rw[Vy,Zs,r];rfl
 show El _ _ (match(ps.map fun i=>EX ((i:Nat):Int)).toArray[i]? with|some (.int place _)=>_|some _=>_|none=>_) _ _ s;rw[d];show El _ _ (setNextDrawn a p ep>>=_) _ _ s;unfold setNextDrawn;refine Q9<|Q9<|Jt g hd f ?_;have l:(ep !=ep)=false:=by simp
 dsimp only;rw[Zr (by rw[l];decide)];rw[q];refine Zh ?_;show El _ _ (setField (.ref it) 1 (EX<|(i:Int)+1)>>=_) _ _ s;refine Q9 (YL b rfl (by simp) ?_);have n:=Yc (Lk (·.setIfInBounds 1 (EX<|(i:Int)+1))) b rfl;exact Zh ⟨e.2,rfl,Zh<|h _ n<|EW ..⟩
theorem IF {it a u:Ei}{o:Obj}{es:Array (Int×Eh)}{ep:Nat}{t:Lx}{i:Nat}{ps:List Nat}{Q:Dc->Dh}(f:A.handled=none)(d:s.heap.get? it=some (MR (.ref u) i a es.size ep))(q:s.heap.get? u=some (SN ps))(n:s.heap.get? a=some o)(hd:o.data=.set es ep t)(l:t.fits es.size=true)
  (p:ps[i]?=none) (h:∀h',Heap.ExtBut it s.heap h'->Q none { s with heap:=h' }):El (Es prog w) A (LN<|.ref it) Q E s:=by
 unfold LN;refine Q9<|Jy<|Ys (name:=EQ "__next__") (qI d) slot_next<|Yg slot_next (qI d) entry_next ?_<|args_next _
 unfold Builtin.«set_iterator.__next__»;refine Q9<|Ju (a:=(Eu it,[])) rfl ?_;refine Q9<|VW d rfl ?_;show El _ _ (setEntries a>>=_) _ _ s;refine Q9<|JA n hd l ?_;have g:(((es.size:Nat):Int) !=((es.size:Nat):Int))=false:=by simp
 rw[Zr (by rw[g];decide)];show El _ _ (seqItems? (.ref u)>>=_) _ _ s;refine Q9<|Vp q rfl ?_;have e:(ps.map fun i=>EX ((i:Nat):Int)).toArray[i]?=none:=by
  rw[Vy,Zs,p];rfl
 show El _ _ (match(ps.map fun i=>EX ((i:Nat):Int)).toArray[i]? with|some (.int place _)=>_|some _=>_|none=>_) _ _ s;rw[e];show El _ _ (setField (.ref it) 0 (EX 0)>>=_) _ _ s;refine Q9 (YL d rfl (by simp) ?_);have j:=Yc (Lk (·.setIfInBounds 0 (EX 0))) d rfl;refine Q9 (YL j rfl (by simp) ?_);refine Q9 ?_;simp only[newExc,newTuple];refine Q9 (ZX ?_<|by size_fits);refine Q9 (m:=Lr _ _) (Ju (a:=EC) (by first|rfl|(simp only[Lr];rfl)) ?_);refine ZX ?_ (by size_fits);simp only[raiseNew];refine Q9<|wpAny_handled ?_
 first|rw[show A.in1.handled=none from f]|rw[f]
 refine Q9<|Zh<|wpAny_throw ?_;refine Q9<|Ji (T:="StopIteration") (b:=true) ⟨_,Zq _ rfl,rfl⟩ VX ?_;refine Zh<|h _ ?_;refine((Heap.ExtBut.push ?_ _).push _);exact((EW ..).trans<|EW ..).extBut
end
section
variable {prog:Ej}{w:Ep}{A:ED}{E:Eh->Dh}{s:Em}{a:Ei}{o:Obj}{es:Array (Int×Eh)}{ep:Nat}{t:Lx}
theorem vG {slot i:Nat}{Q:Option (Eh×Nat)->Dh}(hb:byText w=true)(f:s.heap.get? a=some o)(hd:o.data=.set es ep t)(d:t.fits es.size=true)
  (h:Q (((Mc (w.params.setOrder a ep) es)[i]?).map fun e=>(e.2,slot)) s):El (Es prog w) A (setNext a slot i ep) Q E s:=by
 have b:(Setting.mk (Es prog w).prog (Es prog w).w.params).params.followText "set-order"=true:=hb;unfold setNext setsByText;refine Q9<|Jt f hd d ?_;refine Q9<|Q9<|JC<|Zh ?_;dsimp only;rw[Zy b];have g:(ep !=ep)=false:=by simp
 rw[Zr (by rw[g];decide)];unfold setWalk setsByText;refine Q9<|Q9<|Jt f hd d ?_;refine Q9<|Q9<|JC<|Zh ?_;dsimp only;rw[Zy b];refine Q9<|JC ?_;exact Zh<|Zh h
theorem XM {slot i:Nat}{Q:Option (Eh×Nat)->Dh}(hb:byText w=false)(hl:t.led=true)(l:es.size<=1)(g:s.heap.get? a=some o)(hd:o.data=.set es ep t)(f:t.fits es.size=true)
  (h:Q (match es[Ld t.place slot]?,t.place[Ld t.place slot]? with|some (_,x),some j=>some (x,j+1)|_,_=>none) s):El (Es prog w) A (setNext a slot i ep) Q E s:=by
 have b:(Setting.mk (Es prog w).prog (Es prog w).w.params).params.followText "set-order"=false:=hb;have d:(!t.plain&&decide (es.size>1))=false:=by rw[Zn<|by lia,Jp]
 have e:(!t.led&&!es.isEmpty)=false:=by rw[hl];rfl
 unfold setNext setsByText;refine Q9<|Jt g hd f ?_;refine Q9<|Q9<|JC<|Zh ?_;dsimp only;rw[Zr (by rw[b];decide)];refine Q9<|Zh ?_;show El _ _ (if(!t.plain&&decide (es.size>1))=true then _ else _) _ _ _;rw[Zr (by rw[d];decide)];refine Q9 ?_;show El _ _ (if(!t.led&&!es.isEmpty)=true then _ else _) _ _ _;rw[Zr (by rw[e];decide)];exact Zh<|Zh h
theorem CL {it:Ei}{Q:Eh->Dh}(b:s.heap.get? it=some (MR f i a n ep))(h:Q (.ref it) s):El (Es prog w) A (pyIter<|.ref it) Q E s:=by
 refine wpAny_pyIter_slot (qI b) XS<|Yg XS (qI b) CH ?_<|Fc _;show El _ _ (ret<|.ref it) _ _ s;exact Zh ⟨_,rfl,"set_iterator",_,qI b,slot_next.lookup,h⟩
theorem aJ (y:A.handled=none)(I:Ei)(d:a≠I)(hb:byText w=true)(hd:o.data=.set es ep t)(f:t.fits es.size=true) :
  Walks prog w A I [I,a] [I] es.size (fun i v=>((Mc (w.params.setOrder a ep) es).toList.map (·.2))[i]?=some v) (fun i h=>h.get? I=some (MR (EX (0:Nat)) (i:Nat) a es.size ep)/\h.get? a=some o) where
 sub:=fun b hb=>by simp at hb;simp[hb]
 frame:=fun _ _ _ st hk=>⟨hk I (by simp) _ st.1,hk a (by simp) _ st.2⟩
 item:=fun i s Q E z st j=>by
  have hl:(Mc (w.params.setOrder a ep) es).toList.length=es.size:=by rw[(Xr _ es).length_eq,ZO]
  have l:(Mc (w.params.setOrder a ep) es).toList[i]?=some ((Mc (w.params.setOrder a ep) es).toList[i]'(by lia)):=Zl (by lia);generalize (Mc (w.params.setOrder a ep) es).toList[i]'(by lia)=e at l;refine Bv (slot:=0) (D3:=0) (x:=e.2) st.1 d st.2 hd f (fun A E Q q=>vG hb st.2 hd f ?_) fun g u p=>?_
  ·rwa[←YE,l]
  ·exact j _ g s.toks (by rw[Zs,l];rfl) ⟨u,(p.2 a d).trans st.2⟩ fun b n hb e=>(p.2 b<|by simpa using hb).trans e
 done:=fun s Q E st j=>by
  have hl:(Mc (w.params.setOrder a ep) es).toList.length=es.size:=by rw[(Xr _ es).length_eq,ZO]
  refine uG (slot:=0) y st.1 st.2 hd f (fun A E Q q=>vG hb st.2 hd f ?_) fun g r=>j g s.toks fun b n hb e=>r b n (by simpa using hb) e;rwa[←YE,Yh<|by lia]
 self:=fun _ _ _ _ st h=>CL st.1 h
theorem aM (J:A.handled=none)(I u:Ei)(r:a≠I)(x:u≠I)(ps:List Nat)(g:ps.Perm<|EM es.size)(hd:o.data=.set es ep t)(D:t.fits es.size=true) :
  Walks prog w A I [I,a,u] [I] es.size (fun i v=>(ps.filterMap fun p=>(es[p]?).map (·.2))[i]?=some v) (fun i h=>h.get? I=some (MR (.ref u) (i:Nat) a es.size ep)/\h.get? a=some o/\h.get? u=some (SN ps)) where
 sub:=fun b hb=>by simp at hb;simp[hb]
 frame:=fun _ _ _ st hk=>⟨hk I (by simp) _ st.1,hk a (by simp) _ st.2.1,hk u (by simp) _ st.2.2⟩
 item:=fun i s Q E L st n=>by
  have hl:ps.length=es.size:=by rw[g.length_eq,Yv]
  have f:ps[i]?=some (ps[i]'(by lia)):=Zl (by lia);have hm:ps[i]'(by lia)<es.size:=Jl.mp<|g.mem_iff.mp<|Yt _;have C:es[ps[i]'(by lia)]?=some (es[ps[i]'(by lia)]'hm):=YI hm;have all:ps.filterMap (fun p=>(es[p]?).map (·.2))=ps.map fun p=>(((es[p]?).map (·.2)).getD .none):=by
   have:∀d:List Nat,(∀q∈d,q<es.size)->d.filterMap (fun p=>(es[p]?).map (·.2))=d.map fun p=>(((es[p]?).map (·.2)).getD .none):=fun d=>by
    induction d with
    |nil=>intro _;rfl
    |cons q d ih =>
     intro j;have y:es[q]?=some (es[q]'(j q Zi)):=YI _;rw[YW,ZE,y];simp only[YA,VE];rw[ih fun z K=>j z<|Zf _ K]
   exact this ps fun q j=>Jl.mp<|g.mem_iff.mp j
  refine Kp st.1 st.2.2 st.2.1 hd D f C fun l H B=>?_;refine n _ l s.toks ?_ ⟨H,(B.2 a r).trans st.2.1,(B.2 u x).trans st.2.2⟩ fun b F hb e=>(B.2 b<|by simpa using hb).trans e;rw[all,Zs,f];simp only[YA,C,VE]
 done:=fun s Q E st n=>by
  have hl:ps.length=es.size:=by rw[g.length_eq,Yv]
  exact IF J st.1 st.2.2 st.2.1 hd D (Yh<|by lia) fun l G=>n l s.toks fun b F hb e=>G b F (by simpa using hb) e
 self:=fun _ _ _ _ st h=>CL st.1 h
theorem Iy (xs:Array Nat)(h:xs.size<=1):Ld xs 0=0:=by
 unfold Ld;have b:xs.size=0\/xs.size=1:=by lia
 rcases b with e|e
 ·rw[e];rfl
 ·rw[e];unfold SetTable.below.go;rw[Zy<|by decide];show(if xs.getD 0 0<0 then _ else _)=_;rw[Zr<|by lia];rfl
theorem NC (xs:Array Nat)(h:xs.size=1):Ld xs (xs.getD 0 0+1)=1:=by
 unfold Ld;rw[h];unfold SetTable.below.go;rw[Zy<|by decide];show(if xs.getD 0 (xs.getD 0 0+1)<xs.getD 0 0+1 then _ else _)=_;have e:∀d,xs.getD 0 d=xs[0]'(by lia):=fun d=>by
  rw[Z3,YI<|by lia];rfl
 rw[e,e,Zy<|by lia];rfl
def lO (t:Lx):Nat->Nat
 | 0=>0
 |_+1=>t.place.getD 0 0+1
theorem aK (G:A.handled=none)(I:Ei)(f:a≠I)(hb:byText w=false)(hl:t.led=true)(g:es.size<=1)(hd:o.data=.set es ep t)(d:t.fits es.size=true) :
  Walks prog w A I [I,a] [I] es.size (fun i v=>(es.toList.map (·.2))[i]?=some v) (fun i h=>h.get? I=some (MR (EX ((lO t i:Nat):Int)) (i:Nat) a es.size ep)/\h.get? a=some o) where
 sub:=fun b hb=>by simp at hb;simp[hb]
 frame:=fun _ _ _ st hk=>⟨hk I (by simp) _ st.1,hk a (by simp) _ st.2⟩
 item:=fun i s Q E r st n=>by
  have H:i=0:=by lia
  subst H;have u:t.place.size=es.size:=by
   unfold SetTable.fits at d;rw[Zk]at d;exact VC d.1
  have y:es[0]?=some (es[0]'r):=YI r;have z:t.place[0]?=some (t.place[0]'(by lia)):=YI (by lia);have p:t.place.getD 0 0=t.place[0]'(by lia):=by rw[Z3,z];rfl
  refine Bv (slot:=0) (D3:=t.place.getD 0 0+1) (x:=(es[0]'r).2) st.1 f st.2 hd d (fun A E Q q=>XM hb hl g st.2 hd d ?_) fun l g C=>?_
  ·rwa[Iy _<|by lia,y,z,←p]
  ·refine n _ l s.toks ?_ ⟨g,(C.2 a f).trans st.2⟩ fun b B hb e=>(C.2 b<|by simpa using hb).trans e;rw[Zs,YE,y];rfl
 done:=fun s Q E st n=>by
  have u:t.place.size=es.size:=by
   unfold SetTable.fits at d;rw[Zk]at d;exact VC d.1
  refine uG (slot:=lO t es.size) G st.1 st.2 hd d (fun A E Q q=>XM hb hl g st.2 hd d ?_) fun l D=>n l s.toks fun b B hb e=>D b B (by simpa using hb) e;have F:es.size=0\/es.size=1:=by lia
  rcases F with e|e
  ·rw[e];show Q (match es[Ld t.place 0]?,t.place[Ld t.place 0]? with|some (_,x),some j=>some (x,j+1)|_,_=>none) s;rwa[Iy _<|by lia,JL<|by lia]
  ·rw[e];show Q (match es[Ld t.place<|t.place.getD 0 0+1]?,t.place[Ld t.place<|t.place.getD 0 0+1]? with|some (_,x),some j=>some (x,j+1)|_,_=>none) s;rwa[NC _<|by lia,JL<|by lia]
 self:=fun _ _ _ _ st h=>CL st.1 h
end
def qF (vs:Db)(b:Da):Prop:=vs.length=b.length/\∀(i:Nat) (v:Eh),vs[i]?=some v->∃k t,b[i]?=some k/\v=.str k t
section
variable {prog:Ej}{w:Ep}{A:ED}{E:Eh->Dh}{s:Em}{a:Ei}{ks:Da}
theorem Gq {l:List (Int×Eh)}(h:ElemsOf (strKind prog w) l):qF (l.map (·.2)) (l.map keyOf):=by
 refine⟨by rw[Za,Za],fun i v e=>?_⟩;rw[Zs]at e;cases q:l[i]? with
 |none=>rw[q]at e;cases e
 |some x =>
  rw[q]at e;have e:x.2=v:=Option.some.inj e;obtain⟨⟨k,hk,_⟩,_⟩:=h x<|Zt q;obtain⟨t,b⟩:=YV hk;exact⟨k,t,by rw[Zs,q];show some (keyOf x)=_;unfold keyOf;rw[b],by rw[←e];exact b⟩
theorem SQ {Q:Eh->Dh}(P:wI prog w s.heap a ks)(hk:ks.length<=1000)(F:A.handled=none)
  (h:∀(I:Ei) (fp:Dd) (h':EB) d tk (vs:Db) (zs:Da) (St:Nat->EB->Prop),s.heap.objs.size<=I->(∀b∈fp,b=a\/s.heap.objs.size<=b)->(∀b o,s.heap.get? b=some o->h'.get? b=some o)->zs.Perm ks->qF vs zs -> Walks prog w A I fp [I] ks.length (fun i v=>vs[i]?=some v) St->St 0 h'->Q (.ref I) { s with heap:=h',drawn:=d,toks:=tk }):El (Es prog w) A (pyIter<|.ref a) Q E s:=by
 obtain⟨o,es,ep,t,y,S,hd,X⟩:=P;have j:=KY X;obtain⟨g,H,hb,D,n,J⟩:=X;have r:a<s.heap.objs.size:=Zu y;have x:a≠s.heap.objs.size:=Zz r;refine O6 y S hd D (by lia) (fun q=>?_)<|fun q C d tk B=>?_
 ·have kp:∀b u,s.heap.get? b=some u->(s.heap.push<|MR (EX 0) 0 a es.size ep).get? b=some u:=fun b u e=>Zc _ e;have l:∀b∈[s.heap.objs.size,a],b=a\/s.heap.objs.size<=b:=fun b hb=>by
   rcases Zm.mp hb with z|z
   ·exact .inr (J3 z.symm)
   ·exact .inl (Zb.mp z)
  cases f:byText w with
  |true =>
   have W:=aJ (prog:=prog) (A:=A) (es:=es) (ep:=ep) (t:=t) (o:=o) F s.heap.objs.size x f hd D;have L:=Xr (w.params.setOrder a ep) es;rw[j]at W;exact h _ _ _ s.drawn s.toks _ _ _ (Zg _) l kp ((L.map keyOf).trans H) (Gq<|g.perm L) W ⟨by rw[←j];exact Zq _ rfl,Zc _ y⟩
  |false =>
   have O:es.size<=1:=by
    rw[f]at q
    by_cases z:es.size>1
    ·rw[J<|by lia,Ze z]at q;cases q
    ·lia
   have hl:t.led=true:=by rw[n];show(!byText w)=true;rw[f];rfl
   have W:=aK (prog:=prog) (A:=A) (es:=es) (ep:=ep) (t:=t) (o:=o) F s.heap.objs.size x f hl O hd D;rw[j]at W;exact h _ _ _ s.drawn s.toks _ _ _ (Zg _) l kp H (Gq g) W ⟨by rw[←j];exact Zq _ rfl,Zc _ y⟩
 ·have G:a≠s.heap.objs.size+1:=Zz<|YS r;have W:=aM (prog:=prog) (w:=w) (A:=A) (es:=es) (ep:=ep) (t:=t) (o:=o) (a:=a) F (s.heap.objs.size+1) s.heap.objs.size G (Zz<|Jh _) C B hd D;have K:(C.filterMap fun p=>es[p]?).Perm es.toList:=by
   refine(B.filterMap _).trans ?_;have e:=List.filterMap_getElem?_range_length es.toList;rw[ZO]at e;have M:(EM es.size).filterMap (fun p=>es[p]?)=(EM es.size).filterMap fun i=>es.toList[i]?:=by congr 1;funext p;exact(YE ..).symm
   rw[M,e]
  have R:(C.filterMap fun p=>(es[p]?).map (·.2))=(C.filterMap fun p=>es[p]?).map (·.2):=by rw[List.map_filterMap]
  rw[j]at W;rw[R]at W;have N:(s.heap.push<|SN C).objs.size=s.heap.objs.size+1:=Yz _ _;refine h _ _ _ d tk _ _ _ (Je _) (fun b hb=>?_) (fun b u e=>Zc _<|Zc _ e) ((K.map keyOf).trans H) (Gq<|g.perm K) W ⟨?_,Zc _<|Zc _ y,Zc _<|Zq _ rfl⟩
  ·rcases Zm.mp hb with z|z
   ·exact .inr (by rw[z];exact Je _)
   ·rcases Zm.mp z with z|z
    ·exact .inl z
    ·exact .inr (J3 (Zb.mp z).symm)
  ·rw[←N,←j];exact Zq _ rfl
theorem O3 (f:s.TypeIs (.ref a) "set"){Q:Bool->Dh}(h:Q false s):El (Es prog w) A (Builtin.List.listLengthHint<|.ref a) Q E s:=by
 unfold Builtin.List.listLengthHint;refine Q9<|JP f PySem.F.slot_set_len.lookup ?_;generalize e:("set.__len__":String)=g;wp_delta;rw[show splitId g=some ("set","__len__") from by subst e;decide +kernel];subst e;refine Q9 (Ji (T:="set") (b:=true) f (by rw[JD];kernel_rfl) ?_);refine Ul (fun d=>absurd d<|by decide) (fun _=>?_);refine Ul (fun _=>?_) (fun d=>absurd (by decide +kernel) d);refine Q9<|J4 f ?_;exact Zh h
open PySem.Calls PyProof.V in
theorem Op {R:Result->Dh}(Z:A.handled=none)(y:wI prog w s.heap a ks)(hk:ks.length<=1000)(S:Ei)(q:S≠a)(res:Eh)(p:Nat)(L:s.heap.get? S=some { cls:=.type "list",data:=.seq #[] p })
  (Y:∀h' d tk DP c' (zs:Da),(∀b o,b≠S->s.heap.get? b=some o->h'.get? b=some o)->h'.get? S=some { cls:=.type "list",dict:=none,data:=.seq DP c',slots:=#[] }->zs.Perm ks->qF DP.toList zs->R (.ok<|.ret res) { s with heap:=h',drawn:=d,toks:=tk }) :
  El (Es prog w) A.in1 (LO (.ref S) (.ref a) res)
   (fun fin s'=>match fin with|.done f=>R (.ok f) s'|.again c'=>c'.quiet=true/\LK (Es prog w) A c' R s') (fun e s'=>R (.error e) s') s:=by
 have u:S<s.heap.objs.size:=Zu L;have ty:s.TypeIs (.ref a) "set":=by obtain⟨o,P,O,t,D,G,_⟩:=y;exact⟨o,D,G.1⟩
 unfold LO;refine Q9<|J4 (T:="set") ty ?_;have U:Builtin.List.listSameRef (.ref S) (.ref a)=false:=by simp[Builtin.List.listSameRef,q]
 have nl:(Value.type "set"==Value.type "list")=false:=by decide
 have nt:(Value.type "set"==Value.type "tuple")=false:=by decide
 simp only[U,nl,nt,Bool.or_false,Yy,JO];refine Q9<|SQ (A:=A.in1) y hk Z fun I Q h' d tk M zs St X C kp hz tx W st=>?_;have J:Ml { s with heap:=h',drawn:=d,toks:=tk } (.ref a) "set":=by obtain⟨o,P,O,t,D,G,_⟩:=y;exact⟨o,kp _ _ D,G.1⟩
 refine Q9<|Yb<|O3 J ?_;have r:S∉Q:=fun z=>by
  rcases C S z with e|e
  ·exact q e
  ·exact YB _ (ZI u e)
 have g:=kp _ _ L;refine Ul (fun _=>?_) (fun z=>absurd (by decide) z);refine Q9<|JK ?_;refine Q9 ?_;show El _ _ (updateSeq S (·.push .none)>>=fun _=>updateSeq S (·.pop)) _ _ _;refine Q9<|wpAny_updateSeq g rfl ?_;have j:=Yc (Lc (·.push EC)) g rfl;refine wpAny_updateSeq (hz:=by seq_fits) j rfl ?_;have n:=Yc (Lc (·.pop)) j rfl;refine Zh ⟨J9 PySem.F.plain_extend_loop _,?_⟩;have v:∀b o,b≠S->h'.get? b=some o->((h'.update S (Lc (·.push EC))).update S (Lc (·.pop))).get? b=some o:=fun b o hb e =>
  (Ye _ _<|Ey hb).trans ((Ye _ _<|Ey hb).trans e)
 have H:=W.frame 0 _ _ st fun b hb o e=>v b o (fun z=>r<|z▸hb) e;refine codeAny_extend_loopS W.toS (by rw[Yp];lia) S r res ks.length 0 _ #[] _ rfl (ZN _) H n (ItemsOf.nil _) fun s' DP c' hm x K=>?_;rw[Moved.eq_with hm];have E:DP.toList=M:=by
  have hl:DP.toList.length=M.length:=by rw[ZO,K.1,tx.1,hz.length_eq]
  refine List.ext_getElem? fun i=>?_
  by_cases hi:i<DP.size
  ·have e:=YI hi;rw[YE,e];exact(K.2 i _ e).symm
  ·rw[Yh (by rw[ZO];lia),Yh (by rw[←hl,ZO];lia)]
 refine Y s'.heap d s'.toks DP c' zs (fun b o hb e=>hm.heap b o (fun l=>?_)<|v b o hb<|kp b o e) x hz (by rwa[E])
 rcases Zm.mp l with N|l
 ·exact hb N
 ·have B:b=I:=Zb.mp l;exact absurd (B▸Zu e)<|Nat.not_lt.mpr X
open PySem.Calls PyProof.V PySem.W in
theorem KW {R:Db->Dh}(G:A.handled=none)(B:wI prog w s.heap a ks)(hk:ks.length<=1000)
  (h:∀(h':EB) d (tk:Nat) (vs:Db) (zs:Da),(∀b o,s.heap.get? b=some o->h'.get? b=some o)->zs.Perm ks->qF vs zs->R vs { s with heap:=h',drawn:=d,toks:=tk }):El (Es prog w) A (collect<|.ref a) R E s:=by
 have v:a<s.heap.objs.size:=by obtain⟨o,J,I,t,H,_⟩:=B;exact Zu H
 unfold collect;refine Q9<|VY<|YH entry_proto_collect' ?_;rw[La PySem.F.plain_proto_collect _];show El _ A.in1 (newList []>>=fun l=>again<|.builtin "list.__iadd__" ⟨[l,.ref a],[]⟩) _ _ s;refine Q9<|ZX ?_;refine Zh ⟨J9 PySem.F.plain_list_iadd _,YH entry_list_iadd' ?_⟩;rw[La PySem.F.plain_list_iadd _];have i:(s.heap.push { cls:=.type "list",data:=.seq ([]:Db).toArray }).get? s.heap.objs.size=some { cls:=.type "list",data:=.seq #[] }:=Zq _ rfl;show El _ A.in1 (LO (.ref s.heap.objs.size) (.ref a)<|.ref s.heap.objs.size) _ _ _;have key:=Op (prog:=prog) (w:=w) (A:=A) (a:=a) (ks:=ks) (s:={ s with heap:=s.heap.push { cls:=.type "list",data:=.seq ([]:Db).toArray } })
  (R:=fun(q:Result) (z:Em)=>∃(h':EB) (d:Drawn) (tk:Nat) (j:Array Eh) (n:Nat) (zs:Da),q=.ok (.ret<|.ref s.heap.objs.size)/\z={ s with heap:=h',drawn:=d,toks:=tk } /\ (∀b o,s.heap.get? b=some o->h'.get? b=some o)/\h'.get? s.heap.objs.size=some { cls:=.type "list",dict:=none,data:=.seq j n,slots:=#[] }/\zs.Perm ks/\qF j.toList zs)
  G (B.at fun o e=>Zc _ e) hk s.heap.objs.size (Y3 v) (.ref s.heap.objs.size) 0 i
  (fun h' d tk j n zs hk g p r=>⟨h',d,tk,j,n,zs,rfl,rfl,fun b o e=>hk b o (Zz<|Zu e)<|Zc _ e,g,p,r⟩)
 refine Yr key (fun u z x=>?_) fun e z x=>?_
 ·cases u with
  |done f =>
   obtain⟨h',d,tk,j,n,zs,e,rfl,hk,g,p,r⟩:=x;cases e;show El _ A (load s.heap.objs.size>>=_) _ _ _;refine Q9<|Uf g ?_;exact Zh<|h h' d tk _ zs hk p r
  |again c₁ =>
   refine⟨x.1,Y4 x.2 fun q C y=>?_⟩;obtain⟨h',d,tk,j,n,zs,rfl,rfl,hk,g,p,r⟩:=y;show El _ A (load s.heap.objs.size>>=_) _ _ _;refine Q9<|Uf g ?_;exact Zh<|h h' d tk _ zs hk p r
 ·obtain⟨_,_,_,_,_,_,D,_⟩:=x;cases D
end
section
variable {prog:Ej}{w:Ep}{A:ED}{E:Eh->Dh}{s:Em}
set_option maxHeartbeats 6400000 in
theorem call_set_list {l:Ei}{Dn:Array Eh}{xs:Da}{Q:Eh->Dh}(hh:A.handled=none)(hl:s.heap.IsList l Dn)(Dq:xs.length=Dn.size)(hi:∀(i:Nat) (v:Eh),Dn[i]?=some v->∃k t,xs[i]?=some k/\v=.str k t)(hb:Dn.size+1<Mz)
  (h:∀(h':EB) (tk:Nat),wI prog w h' s.heap.objs.size (uniq xs)->(∀b o,s.heap.get? b=some o->h'.get? b=some o)->Q (.ref s.heap.objs.size) { s with heap:=h',toks:=tk }):El (Es prog w) A (call (.type "set") [.ref l]) Q E s:=by
 obtain⟨c,tl,X⟩:=F.called_set.mro;have M:=F.called_set.made;have ab:=F.called_set.sub;have h1:=F.called_set.notType;have h2:=F.called_set.canCreate;have am:=F.typeCall_set_1<|.ref l;refine Vg<|Uj ?_;show El _ _ (callAny (.type "set") _) _ _ _;refine Zh ⟨Code.quiet_builtin _<|by decide +kernel,YH F.entry_type_call ?_⟩;rw[Around.under_plain (weight_type_call_type "set" [.ref l] []) rfl]
 repeat (any_goals (first|assumption|wp_step))
 refine Y4 (Nm (.ref l) (E:=E) (Q₁:=fun obj f=>obj=.ref s.heap.objs.size/\f={ s with heap:=s.heap.push (z6 w) }) ⟨rfl,rfl⟩) fun r f O=>?_;cases r with
 |error e=>exact O
 |ok fl =>
  cases fl with
  |ret obj =>
   obtain⟨rfl,rfl⟩:=O;have G:(s.heap.push<|z6 w).get? s.heap.objs.size=some (z6 w):=Zq _ rfl;have hT:Ml { s with heap:=s.heap.push (z6 w) } (.ref s.heap.objs.size) "set":=⟨_,G,rfl⟩;have an:=F.called_set.init.lookup;have al:=F.called_set.init.bind<|.ref s.heap.objs.size
   repeat (any_goals (first|assumption|wp_step))
   refine Y4 (JZ (R:=wants (fun r g=>r=.none/\∃h' tk,g={ s with heap:=h',toks:=tk }/\wI prog w h' s.heap.objs.size (uniq xs) /\ (∀b o,s.heap.get? b=some o->h'.get? b=some o)) E) F.called_set.init.plain F.entry_set_init (check_set_init_1 hT ?_)) fun B g d=>?_
   ·have n:(s.heap.push<|z6 w).IsList l Dn:=hl.push _;obtain⟨ol,N,q,nl,u⟩:=id n;have y:l<s.heap.objs.size:=by obtain⟨_,e,_⟩:=hl;exact Zu e
    obtain⟨ah,S,P,C⟩:=ol;simp only at q u;subst q;subst u;have Z:=sub_list_set;have Y:=sub_list_frozenset;have ap:(Value.type "list"==Value.type "dict")=false:=by decide
    unfold z6 at G N;unfold Builtin.«set.__init__» noKeywords Builtin.Frozenset.updateFrom;generalize D:pyIter=PI;unfold z6
    wp_walk
    subst D;refine JV n ?_;refine Q9<|VY ?_;have K:A.in1.in1.in1.handled=none:=by simp[hh]
    have z:l≠(s.heap.push<|z6 w).objs.size:=by
     rw[Yz];exact Zz<|YS y
    have H:s.heap.objs.size∉[(s.heap.push<|z6 w).objs.size,l]:=by
     rw[Yz];simp only[Zm,Zb,Z9,JQ,Uh];exact⟨Zz<|Jh _,Y3 y⟩
    refine Nu ((Walks.list K _ l z Dn).toS) s.heap.objs.size H xs Dq hi hb (Dn.size-0) 0 _ (by lia) (ZN _)
     ⟨⟨_,Zq _ rfl,rfl,rfl⟩,(n.push _)⟩ ?hS0 ?hR
    case hS0 =>
     have x:((s.heap.push<|z6 w).push { cls:=.type "list_iterator",data:=.fields #[.ref l,.int 0 0] }).get? s.heap.objs.size=some (z6 w):=Zc _ G;exact HD x
    case hR =>
     intro s' hm j;obtain⟨h',g',d',U,T⟩:=s';have eg:g'=s.gens:=hm.gens;have ed:d'=s.drawn:=hm.drawn;have eo:T=s.os:=hm.os;subst eg;subst ed;subst eo;show El _ _ _ _ _ _;refine Zh ?_;show El _ _ (ret EC) _ _ _;refine Zh ⟨rfl,h',U,rfl,j,fun b o e=>?_⟩;have p:=Zu e;have I:b≠s.heap.objs.size:=Zz p;have J:b≠(s.heap.push<|z6 w).objs.size:=by
      rw[Yz];exact Zz<|YS p
     exact hm.heap b o (by simp only[Zm,Zb,Z9,JQ,Uh];exact⟨I,J⟩)<|Zc _<|Zc _ e
   ·cases B with
    |error e=>exact d
    |ok fl₂ =>
     cases fl₂ with
     |ret r =>
      obtain⟨rfl,h',tk,rfl,j,L⟩:=d
      repeat (any_goals (first|assumption|wp_step))
      exact h _ _ j L
     |_=>exact d.elim
  |_=>exact O.elim
set_option maxHeartbeats 6400000 in
theorem GB {l:Ei}{Dn:Array Eh}{xs:Da}{Q:Eh->Dh}(hh:A.handled=none)(hl:s.heap.IsTuple l Dn)(Dq:xs.length=Dn.size)(hi:∀(i:Nat) (v:Eh),Dn[i]?=some v->∃k t,xs[i]?=some k/\v=.str k t)(hb:Dn.size+1<Mz)
  (h:∀(h':EB) (tk:Nat),wI prog w h' s.heap.objs.size (uniq xs)->(∀b o,s.heap.get? b=some o->h'.get? b=some o)->Q (.ref s.heap.objs.size) { s with heap:=h',toks:=tk }):El (Es prog w) A (call (.type "set") [.ref l]) Q E s:=by
 obtain⟨c,tl,X⟩:=F.called_set.mro;have M:=F.called_set.made;have ab:=F.called_set.sub;have h1:=F.called_set.notType;have h2:=F.called_set.canCreate;have am:=F.typeCall_set_1<|.ref l;refine Vg<|Uj ?_;show El _ _ (callAny (.type "set") _) _ _ _;refine Zh ⟨Code.quiet_builtin _<|by decide +kernel,YH F.entry_type_call ?_⟩;rw[Around.under_plain (weight_type_call_type "set" [.ref l] []) rfl]
 repeat (any_goals (first|assumption|wp_step))
 refine Y4 (Nm (.ref l) (E:=E) (Q₁:=fun obj f=>obj=.ref s.heap.objs.size/\f={ s with heap:=s.heap.push (z6 w) }) ⟨rfl,rfl⟩) fun r f O=>?_;cases r with
 |error e=>exact O
 |ok fl =>
  cases fl with
  |ret obj =>
   obtain⟨rfl,rfl⟩:=O;have G:(s.heap.push<|z6 w).get? s.heap.objs.size=some (z6 w):=Zq _ rfl;have hT:Ml { s with heap:=s.heap.push (z6 w) } (.ref s.heap.objs.size) "set":=⟨_,G,rfl⟩;have an:=F.called_set.init.lookup;have al:=F.called_set.init.bind<|.ref s.heap.objs.size
   repeat (any_goals (first|assumption|wp_step))
   refine Y4 (JZ (R:=wants (fun r g=>r=.none/\∃h' tk,g={ s with heap:=h',toks:=tk }/\wI prog w h' s.heap.objs.size (uniq xs) /\ (∀b o,s.heap.get? b=some o->h'.get? b=some o)) E) F.called_set.init.plain F.entry_set_init (check_set_init_1 hT ?_)) fun B g d=>?_
   ·have n:(s.heap.push<|z6 w).IsTuple l Dn:=hl.push _;obtain⟨ol,N,q,nl,u⟩:=id n;have y:l<s.heap.objs.size:=by obtain⟨_,e,_⟩:=hl;exact Zu e
    obtain⟨ah,S,P,C⟩:=ol;simp only at q u;subst q;subst u;have Z:=sub_tuple_set;have Y:=sub_tuple_frozenset;have ap:(Value.type "tuple"==Value.type "dict")=false:=by decide
    unfold z6 at G N;unfold Builtin.«set.__init__» noKeywords Builtin.Frozenset.updateFrom;generalize D:pyIter=PI;unfold z6
    wp_walk
    subst D;refine VS n ?_;refine Q9<|VY ?_;have K:A.in1.in1.in1.handled=none:=by simp[hh]
    have z:l≠(s.heap.push<|z6 w).objs.size:=by
     rw[Yz];exact Zz<|YS y
    have H:s.heap.objs.size∉[(s.heap.push<|z6 w).objs.size,l]:=by
     rw[Yz];simp only[Zm,Zb,Z9,JQ,Uh];exact⟨Zz<|Jh _,Y3 y⟩
    refine Nu ((Walks.tuple K _ l z Dn).toS) s.heap.objs.size H xs Dq hi hb (Dn.size-0) 0 _ (by lia) (ZN _)
     ⟨⟨_,Zq _ rfl,rfl,rfl⟩,(n.push _)⟩ ?hS0 ?hR
    case hS0 =>
     have x:((s.heap.push<|z6 w).push { cls:=.type "tuple_iterator",data:=.fields #[.ref l,.int 0 0] }).get? s.heap.objs.size=some (z6 w):=Zc _ G;exact HD x
    case hR =>
     intro s' hm j;obtain⟨h',g',d',U,T⟩:=s';have eg:g'=s.gens:=hm.gens;have ed:d'=s.drawn:=hm.drawn;have eo:T=s.os:=hm.os;subst eg;subst ed;subst eo;show El _ _ _ _ _ _;refine Zh ?_;show El _ _ (ret EC) _ _ _;refine Zh ⟨rfl,h',U,rfl,j,fun b o e=>?_⟩;have p:=Zu e;have I:b≠s.heap.objs.size:=Zz p;have J:b≠(s.heap.push<|z6 w).objs.size:=by
      rw[Yz];exact Zz<|YS p
     exact hm.heap b o (by simp only[Zm,Zb,Z9,JQ,Uh];exact⟨I,J⟩)<|Zc _<|Zc _ e
   ·cases B with
    |error e=>exact d
    |ok fl₂ =>
     cases fl₂ with
     |ret r =>
      obtain⟨rfl,h',tk,rfl,j,L⟩:=d
      repeat (any_goals (first|assumption|wp_step))
      exact h _ _ j L
     |_=>exact d.elim
  |_=>exact O.elim
end
end AxS
namespace L2
open PySem PySem.Spec PyProof.Rows AxS
def CC (P:Ej)(w:Ep)(a:Ei)(ks:Da):HO:=.ext fun h=>wI P w h a ks
theorem SR (x:wI P w h a ks):yj P w H h a (CC P w a ks):=by
 obtain⟨o,f,d,t,b,r⟩:=id x;exact⟨x,⟨o,b⟩,fun g i z k=>wI.at z fun o e=>k o e⟩
theorem HE (x:yj P w H h a<|CC P w a ks):wI P w h a ks:=x.1
section
variable {X:Cx}{K:Cc}
def Sz (P:Ej)(w:Ep):Dj->Hp->VK->Prop:=fun d H Q=>∃(a:Ei) (b:Da),d=[.ref a]/\H a=some (CC P w a b)/\Q (.int b.length) H
theorem NE:xq X (.builtin "len") (Sz X.prog X.w):=by
 intro l s y H x v Q I r h;obtain⟨a,p,rfl,ha,q⟩:=h;obtain⟨u,rfl,j⟩:=wX r;cases j;obtain⟨o,f,n,t,i,b,hd,d⟩:=HE<|I.hok a _ ha;have e:=KY d;obtain⟨_,_,hb,g,_⟩:=d;have hb:f.size<4096:=hb;refine call_len_set i b hd g (by lia) ?_;rw[e];exact⟨.int _,H,I.tok _,⟨_,rfl⟩,q⟩
theorem Inv.drew {d:Drawn}(I:Inv X Dp σ H s):Inv X Dp σ H { s with drawn:=d } :=
 ⟨I.ok,I.os,I.bare,I.base,I.loc,I.cell,I.free,I.wK,I.pin,I.hok,I.len⟩
theorem uc:∀{vs:Db} {zs:Da},qF vs zs->StrsAre vs zs
 |[],[],_=>.nil
 |[],_::_,h=>by cases h.1
 |_::_,[],h=>by cases h.1
 |v::vs,z::zs,h=>by
  obtain⟨k,t,e,rfl⟩:=h.2 0 v rfl;have e:z=k:=Option.some.inj e;subst e;exact .cons _ _ (uc ⟨by have:=h.1;simpa using this,fun i v e=>by
   obtain⟨k,t,b,d⟩:=h.2 (i+1) v (by simpa using e);exact⟨k,t,by simpa using b,d⟩⟩)
def Ra (P:Ej)(w:Ep):Dj->Hp->VK->Prop:=fun e H Q=>∃(a:Ei) (b:Da),e=[.ref a]/\H a=some (CC P w a b)/\b.length<64/\∀l d,H l=none->d.Perm b->sortedS d=true->Q (.ref l) (upd H l<|.lst<|d.map V.str)
theorem B7 (T:X.calm=true):xq X (.builtin "sorted") (Ra X.prog X.w):=by
 intro K s Z H xs us Q I r h;obtain⟨a,ks,rfl,ha,P,q⟩:=h;obtain⟨u,rfl,Y⟩:=wX r;cases Y;have R:=HE<|I.hok a _ ha;refine LZ kind_sorted plain_sorted entry_sorted (args_sorted1 _) ?_;unfold Builtin.«sorted»;refine Q9 (m:=checkCount "sorted" 1 1 _)<|Zh ?_;refine Q9 (KW (A:=X.A.in1) (I.ok.hd T) R (by lia) fun g d z f zs p t F=>?_);have i:=uc F;have S:f.length<64:=by rwa[F.1,t.length_eq]
 have DJ:64<=sizeLine:=by rw[Yp];decide
 refine Q9 (V7 ?_<|by lia);have j:(g.push<|Li "list" f.toArray 0).get? g.objs.size=some (Li "list" f.toArray 0):=Zq _ rfl;refine Q9 (Yb<|Yg slot_list_sort ⟨_,j,rfl⟩ Um (list_sort_treeK strKind_oneLt j i.keysOf (fun G J E e=>keyKind_strs<|by rwa[←e]) (by lia) fun n L M=>⟨_,rfl,?_⟩) (args_list_sort _));obtain⟨l,N,C,O⟩:=sorted_out_str i L M;refine Zh ⟨_,rfl,?_⟩;obtain⟨e,U⟩:=sortedHeap_at (out:=(arrOf n).map (·.2)) j;have nl:=XH N;have B:Inv X K Z H { s with heap:=g,drawn:=d,toks:=z }:=(I.kept (t':=z) p).drew (d:=d);have x:∀b y,g.get? b=some y->(sortedHeap (g.push<|Li "list" f.toArray 0) g.objs.size f ((arrOf n).map (·.2))).get? b=some y:=fun b y D=>by
  have hb:b<g.objs.size:=Zu D;rw[sortedHeap_old (Zz hb) (by rw[Yz];exact YS hb)];exact Zc _ D
 have fr:H g.objs.size=none:=B.hok.fresh<|Zg _;have v:(l.map V.str).length<=sizeLine:=by
  have:=C.length_eq;have:=t.length_eq;rw[Za];lia
 exact⟨.ref g.objs.size,_,B.laid (o:=.lst<|l.map V.str) (t':=z) x (Zg _) ⟨v,_,e,nl,U⟩,rfl,q _ l fr (C.trans t) O⟩
def bz (K:Cc)(P:Ej)(w:Ep):Dj->Hp->VK->Prop:=fun d H Q=>∃(a:Ei) (b:Da),d=[.ref a]/\(xx K H a (b.map V.str)\/xg K H a (b.map V.str))/\b.length<=1000/\∀p,H p=none->Q (.ref p) (upd H p<|CC P w p<|uniq b)
theorem GJ {ls:Da}(r:yu (ls.map V.str) us):qF us ls:=by
 refine⟨by rw[←r.length,Za],fun i v e=>?_⟩;have b:i<ls.length:=by have:=(Zv.mp e).1;rw[←r.length,Za]at this;exact this
 obtain⟨u,d,f⟩:=r.get (show(ls.map V.str)[i]?=some (V.str ls[i]) by rw[Zs,Zl b];rfl);rw[d]at e;cases e;obtain⟨t,rfl⟩:=f;exact⟨_,t,Zl b,rfl⟩
theorem Fh (t:X.calm=true)(B:X.K=K:=by rfl):xq X (.type "set") (bz K X.prog X.w):=by
 subst B;intro A s D H F E Q I r h;obtain⟨a,y,rfl,ha,hl,q⟩:=h;obtain⟨u,rfl,C⟩:=wX r;cases C;have f:∀(g:EB) (p:Nat),wI X.prog X.w g s.heap.objs.size (uniq y)->(∀b o,s.heap.get? b=some o->g.get? b=some o)->EP X A D Q (.ref s.heap.objs.size) { s with heap:=g,toks:=p }:=fun g p x k =>
  ⟨.ref s.heap.objs.size,_,I.laid (o:=CC X.prog X.w s.heap.objs.size<|uniq y) (t':=p) k (Zg _)<|SR x,rfl,q _<|I.hok.fresh<|Zg _⟩
 have z:Mz=4096:=rfl
 rcases ha with ha|ha
 ·obtain⟨j,n,l,_⟩:=I.list ha;have d:=GJ n;exact call_set_list (I.ok.hd t) l.isList (by rw[ZD];exact d.1.symm) (fun i v e=>d.2 i v<|by simpa using e) (by rw[ZD,d.1,z];lia) f
 ·obtain⟨j,n,l,_⟩:=I.tuple ha;have d:=GJ n;exact GB (I.ok.hd t) l (by rw[ZD];exact d.1.symm) (fun i v e=>d.2 i v<|by simpa using e) (by rw[ZD,d.1,z];lia) f
end
end L2
namespace An
open PySem PySem.Spec PyProof.Rows L2
def RZ (a b:Str):Prop:=¬b.cps.toList<a.cps.toList
theorem N0 (d:RZ a b)(e:RZ b c):RZ a c:=by
 have d:a.cps.toList<=b.cps.toList:=J0.mp d;have e:b.cps.toList<=c.cps.toList:=J0.mp e;exact J0.mpr<|List.le_trans d e
theorem FG (d:RZ a b)(f:RZ b a):a=b:=by
 have e:a.cps.toList=b.cps.toList:=Uc (J0.mp d)<|J0.mp f;exact yc e
theorem Bt:∀(l:Da) (p:Str),risingS p l=true->(p::l).Pairwise RZ
 |[],p,_=>Vj _ _
 |x::r,p,h=>by
  have h:(!ltCps x.cps.toList p.cps.toList&&risingS x r)=true:=h;rw[Zk,ltCps_eq]at h;have d:RZ p x:=fun z=>by rw[Ze z]at h;exact absurd h.1 (by decide)
  have e:=Bt r x h.2;refine VZ.mpr ⟨fun y b=>?_,e⟩
  rcases Zm.mp b with rfl|b
  ·exact d
  ·exact N0 d ((VZ.mp e).1 y b)
theorem BQ:∀{l:Da},sortedS l=true->l.Pairwise RZ
 |[],_=>List.Pairwise.nil
 |x::r,h=>Bt r x h
def Xg:Da->Bool
 |[]=>true
 |x::r=>r.all (fun y=>decide (x.cps.toList<y.cps.toList))&&Xg r
theorem qw:∀{l:Da},Xg l=true↔l.Pairwise RZ/\l.Nodup
 |[]=>⟨fun _=>⟨List.Pairwise.nil,Yn⟩,fun _=>rfl⟩
 |x::r=>by
  show(r.all _&&Xg r)=true↔_;rw[Zk,qw,ZA,VZ,Z5];constructor
  ·rintro⟨b,e,f⟩;refine⟨⟨fun y d=>?_,e⟩,fun z=>?_,f⟩
   ·have:=Zx<|b y d;exact fun z=>V0 _<|List.lt_trans this z
   ·exact V0 _ (Zx<|b x z)
  ·rintro⟨⟨b,e⟩,f,g⟩;refine⟨fun y d=>Ze ?_,e,g⟩
   by_cases z:x.cps.toList<y.cps.toList
   ·exact z
   ·have:=FG (b y d) z;exact absurd (this▸d) f
theorem KO {ks:Da}{k:Str}(h:ks.Nodup):(AxS.step ks k).Nodup:=by
 unfold AxS.step
 split
 ·exact h
 ·rename_i z;rw[Yo];exact⟨h,by simp,fun a ha b hb=>by rw[Zb.mp hb];exact fun e=>z<|e▸ha⟩
theorem Gh:∀(xs ks:Da),ks.Nodup->(xs.foldl AxS.step ks).Nodup
 |[],ks,h=>h
 |x::xs,ks,h=>Gh xs _<|KO h
theorem fold_all:∀(xs ks:Da),(ks++xs).Nodup->xs.foldl AxS.step ks=ks++xs
 |[],ks,_=>by rw[ZK];rfl
 |x::xs,ks,h=>by
  have e:AxS.step ks x=ks++[x]:=by
   unfold AxS.step;rw[Zr];intro z;exact(Yo.mp h).2.2 x z x Zi rfl
  rw[JR,e,fold_all xs (ks++[x])<|by rwa[Z7],Z7];rfl
theorem KZ (xs:Da):(AxS.uniq xs).Nodup:=Gh xs [] Yn
theorem G5 {xs:Da}(h:xs.Nodup):AxS.uniq xs=xs:=fold_all xs [] h
theorem Fy:∀(xs ks:Da) {x:Str},x∈xs.foldl AxS.step ks->x∈ks\/x∈xs
 |[],ks,x,h=>.inl h
 |y::xs,ks,x,h=>by
  rcases Fy xs _ h with z|z
  ·unfold AxS.step at z
   split at z
   ·exact .inl z
   ·rcases ZB.mp z with z|z
    ·exact .inl z
    ·exact .inr (Zm.mpr<|.inl<|Zb.mp z)
  ·exact .inr (Zf _ z)
theorem Ru {xs:Da}{x:Str}(h:x∈AxS.uniq xs):x∈xs:=(Fy xs [] h).elim (fun z=>nomatch z) id
theorem KL {xs f:Da}(d:f.Perm<|AxS.uniq xs)(g:sortedS f=true):decide (xs=f)=Xg xs:=by
 rw[Z4,ZC,qw];constructor
 ·intro e;subst e;exact⟨BQ g,d.nodup_iff.mpr<|KZ _⟩
 ·rintro⟨i,j⟩;rw[G5 j]at d;exact(List.Perm.eq_of_pairwise (fun a b _ _=>FG) (BQ g) i d).symm
end An
namespace PySem.SeqAt
open MeetsSeq PyProof.Rows
end PySem.SeqAt
namespace PySem.W
open PySem PySem.Spec PySem.Calls PyProof.Rows Builtin Builtin.ObjectAttr Builtin.Getset_descriptor
section
variable {prog:Ej}{w:Ep}{A:ED}{E:Eh->Dh}{s:Em}{K:Frag}{x D:Ei}{ox:Obj}
structure tY (K:Frag)(D:Ei):Prop where
 ga:findIn K (.ref D) "__getattribute__"=some (some<|.builtin "BaseException.__getattribute__")
 hk:findIn K (.ref D) "__getattr__"=some none
 ha:findIn K (.ref D) "__class__"=some (some<|.builtin "object.__class__")
 hn:specialIn K (.builtin "object.__class__") "__get__"=some (some<|.builtin "getset_descriptor.__get__")
 htk:takesIn K (.builtin "object.__class__")=some true
 hm:mroIn K D (.type "object")=some true
 hb:subIn K (.ref D) (.type "BaseException")=some true
 cl:(clsIn K D).isSome=true
structure qz (h:EB)(x D:Ei):Prop where
 ex:∃o,h.get? x=some o/\o.cls=.ref D/\notCls o=true
theorem qz.type {M:Model}(I:qz h x D):Looks M h (typeOf<|.ref x) (.ref D):=by
 obtain⟨o,d,b,_⟩:=I.ex;exact b▸(Looks.ld d).andThen .now
theorem GR {R:Result->Dh}{b:Eh}(X:K.In s.heap)(I:qz s.heap x D)(hm:mroIn K D (.type "object")=some true)
  (h:R (.ok<|.ret<|.ref D) s):LK (Es prog w) A (.call (.builtin "getset_descriptor.__get__") ⟨[.builtin "object.__class__",.ref x,b],[]⟩) R s:=by
 obtain⟨i,g,f,t,os⟩:=s;have d:=I.type (M:=Es prog w);have e:=looks_mroIn (M:=Es prog w) X hm;refine JZ KF.slot_gs.plain KF.entry_gs<|KF.slot_gs.check _ _ _ _ _ _ _ _ KF.type_class (KF.args_gs _ _ _) ?_;unfold Builtin.«getset_descriptor.__get__» descrGet;rw[dga_obj];refine Q9<|Zh ?_;unfold descrGetter descrCheckInstance descrNameAndClass isInstance;simp only[KF.owner_class]
 repeat lk
 refine⟨Code.quiet_builtin _<|by decide +kernel,YH KF.entry_class ?_⟩;unfold Builtin.«object.__class__» shownTypeOf
 repeat lk
 exact h
theorem OP {M:Model}{h:EB}(X:K.In h)(k:tY K D):Looks M h (find (.ref x) (.ref D) "__class__") (.bind (.builtin "getset_descriptor.__get__")<|.builtin "object.__class__"):=by
 have b:=looks_findIn (M:=M) X k.ha;have d:=looks_specialIn (M:=M) X k.hn;have e:=looks_takesIn (M:=M) X k.htk;unfold find;exact b.andThen<|Looks.andThen d<|Looks.andThen (e.andThen .now)<|Looks.tag .now
theorem NK {M:Model}{b:Eh}{Q:Unit->Dh}(k:tY K D)(X:K.In s.heap)(I:qz s.heap x D)(f:Q () s):El M A (checkBuiltinCall "BaseException.__getattribute__" ⟨[.ref x,b],[]⟩) Q E s:=by
 have hk:builtinKind "BaseException.__getattribute__"=some .slot:=by decide +kernel
 have e:splitId "BaseException.__getattribute__"=some ("BaseException","__getattribute__"):=by decide +kernel
 have ha:=F.args_bexc_ga (.ref x) b;obtain⟨l,g,d,t,os⟩:=s;have i:=I.type (M:=M);have j:=looks_subIn (M:=M) X k.hb;simp only[checkBuiltinCall,hk,e];refine Q9 ?_
 ·unfold isInstance
  repeat (first|lk|wp_step)
  exact f
theorem NM {j:Tok}{Q:Fin->Dh}(k:tY K D)(X:K.In s.heap)(I:qz s.heap x D)(i:Q (.done<|.ret<|.ref D) s) :
  El (Es prog w) A (Builtin.«object.__getattribute__» ⟨[.ref x,.str "__class__" j],[]⟩) Q E s:=by
 obtain⟨f,g,d,t,os⟩:=s;have b:=I.type (M:=Es prog w);have e:=OP (M:=Es prog w) (x:=x) X k;unfold Builtin.«object.__getattribute__»;refine Q9<|Zh<|Q9<|Zh<|Q9<|b.at (Q9<|e.at ?_);show El _ _ (bindTo _ _ _ _) _ _ _;show El _ _ (MD [Mj "object.__class__"] (call (Mj "getset_descriptor.__get__") [Mj "object.__class__",Eu x,Eu D])>>=ret) _ _ _;exact Q9<|Yb<|Vg<|GR (s:=⟨f,g,d,t,os⟩) X I k.hm<|Zh i
theorem NL {Q:Dc->Dh}(k:tY K D)(X:K.In s.heap)(I:qz s.heap x D)(h:Q (some<|.ref D) { s with toks:=s.toks+1 }):El (Es prog w) A (getAttr? (.ref x) "__class__") Q E s:=by
 obtain⟨i,g,d,t,os⟩:=s;have b:=I.type (M:=Es prog w);have e:=looks_findIn (M:=Es prog w) X k.ga;have f:=looks_findIn (M:=Es prog w) X k.hk;unfold getAttr? getAttrBy? getAttrBy;refine Q9<|wpAny_mkText<|Q9<|Jy<|Yb<|Q9<|b.at (Q9<|e.at ?_);show El _ _ (getAttrByItsOwn _ _ _ _ _ _) _ _ _;unfold getAttrByItsOwn hookBefore;refine Q9<|f.at ?_;refine Q9<|Jy<|Yb ?_;show El _ _ (boundAndCalled _ _ _) _ _ _;unfold boundAndCalled;rw[F.attr_ValueError.ga.bind];refine Q9<|Zh ?_;refine Vg<|JZ F.attr_ValueError.ga.plain F.entry_bexc_ga<|NK k X I<|NM k X I ?_;exact handed_on (s:=⟨i,g,d,t+1,os⟩) rfl<|Zh h
theorem mX (k:tY K D):KitX K (.ref x) (.ref D) (fun h=>qz h x D) where
 ty:=fun _ _ _ I=>I.type
 it:=fun _ _ X _=>by
  obtain⟨f,b⟩:=Y5.mp k.cl;unfold clsIn at b
  split at b
  ·rename_i l o d j g;intro s u t w k q;unfold isType loadHead;exact Q9<|wpAny_loadPart (k _ _<|X _ _ g)<|Zh q
  ·cases b
 ne:=fun h r v p n y X i=>by
  obtain⟨f,b⟩:=Y5.mp k.cl;refine Z0.mpr fun q=>?_;have e:D=r:=Value.ref.inj<|Jn.mp q;subst e;unfold clsIn at b
  split at b
  ·rename_i l o d j g;have z:=(X _ _ g).symm.trans i;cases z
  ·cases b
 ca:=fun X I q=>NL k X I q
end
end PySem.W
namespace L2
open PySem PySem.Spec PyProof.Rows
section
variable {X:Cx}{K:Cc}
def S4 (K:Cc)(c:Eh)(d:V):Dj->Hp->VK->Prop:=fun e H Q=>∃(a D:Ei) (b:Bool),e=[.ref a,d]/\H a=some (Xh a<|.ref D)/\PySem.W.tY K D/\ET K (.ref D) c=some b/\Q (.bl b) H
theorem MQ {a D:Ei}{b:Bool}{c:Eh}{Q:VK}(I:Inv X Dp σ H s)(ha:H a=some (Xh a<|.ref D))(k:PySem.W.tY X.K D)(e:ET X.K (.ref D) c=some b)(q:Q (.bl b) H) :
  El (Es X.prog X.w) X.A (call (.builtin "isinstance") [.ref a,c]) (EP X Dp σ Q) X.xe s:=by
 obtain⟨⟨o,j,d,f,g,_⟩,_⟩:=(I.hok a _ ha);refine Yi (PySem.W.mX k) I.tQ ⟨o,d,f,?_⟩ e (fun z=>nomatch z) fun i=>⟨.bl b,H,I.tok _,rfl,q⟩;unfold PySem.W.notCls;rw[g]
theorem yT (f:X.K=K:=by rfl){C:Ei}:xq X (.builtin "isinstance") (S4 K (.ref C)<|.ref C):=by
 subst f;intro j s o H n l Q I r h;obtain⟨a,D,b,rfl,ha,k,e,q⟩:=h;obtain⟨u,i,rfl,g,d⟩:=vals2 r;cases(show u=Eu a from g);cases(show i=Eu C from d);exact MQ I ha k e q
theorem GZ (f:X.K=K:=by rfl){T:String}:xq X (.builtin "isinstance") (S4 K (.type T)<|.ty T):=by
 subst f;intro j s o H n l Q I r h;obtain⟨a,D,b,rfl,ha,k,e,q⟩:=h;obtain⟨u,i,rfl,g,d⟩:=vals2 r;cases(show u=Eu a from g);cases(show i=Value.type T from d);exact MQ I ha k e q
end
structure tU (k:Nat)(A:ED):Prop where
 dp:A.depth+3*k+5<recursionLimit
 un:A.units+16*k+200<Lj
theorem wY.h (r:wY k A):tU k A:=⟨r.dp,r.un⟩
theorem tU.mark (r:tU k A)(e:Eh):tU k (A.mark<|some e):=⟨r.dp,r.un⟩
theorem tU.deeper {k:Nat}(r:tU (k+1) A)(env:Env):tU k (A.deeper env) :=
 ⟨by have:=r.dp;show A.depth+1+3*k+5<_;lia,by have:=r.un;show A.units+3+16*k+200<_;lia⟩
def WQ (P:Ej)(w:Ep)(K:Cc)(mg:Str->Dc)(base:EB)(N:Da)(qual:Str)(scope:LP)(f:Ei)(b:Eh)(A:ED)(outer:List Env)(s:Em)(H:Hp)(E:XK):Cx :=
 { GS Cn P w K mg base N qual scope f b A outer s H E with calm:=false,xe:=fun _ _=>False }
section
variable {P:Ej}{w:Ep}{K:Cc}{mg:Str->Dc}{base:EB}
theorem Kc {N ps:Da}{qual:Str}{scope:LP}{f:Ei}{d:Eh}{A:ED}{outer:List Env}{s e:Em}{H:Hp}{E:XK}{us:Db}{vs:Dj}
  (S:zx N ps scope) (b:qt P w K mg base A outer s H) (hl:vs.length=ps.length) (r:yu vs us)
  (x:InCallC s s.heap.objs.size (bindL (Mi qual scope s.heap.objs.size f d).kindOf (ps.zip us) fun _=>none) (cellsFrom (s.heap.objs.size+1) scope.names []) (bindC (Mi qual scope s.heap.objs.size f d).kindOf (ps.zip us) fun _=>none) e) :
  Inv (WQ P w K mg base N qual scope f d A outer s H E) [] (start N vs) H e:=by
 have g:qt P w K mg base { A with handled:=none } outer s H:=⟨b.frames,b.mod,b.bs,b.nY,b.tR,b.nj,b.hok,b.bare⟩;have I:=Bx (CX:=Cn) (E:=E) (A:={ A with handled:=none }) S rfl g hl r x;exact⟨⟨I.ok.mod,I.ok.kind,I.ok.glob,I.ok.blt,I.ok.above,I.ok.inj,I.ok.has,I.ok.cab,fun z=>(by cases z),Around.frames_deeper b.frames,I.ok.stk,I.ok.lQ,I.ok.bs,I.ok.nY,I.ok.pZ,I.ok.pL,I.ok.tR,I.ok.nj⟩,I.os,I.bare,I.base,I.loc,I.cell,I.free,I.wK,I.pin,I.hok,I.len⟩
end
section
variable {X:Cx}
theorem kT:∀{l:List (Str×Tok)} {ys:Da},l.map (·.1)=ys->yu (ys.map V.str) (strValues l)
 |[],_,h=>by rw[←h];exact .nil
 |p::l,_,h=>by
  rw[←h];exact .cons ⟨p.2,rfl⟩<|kT rfl
def We:V->Dj->Hp->VK->Prop:=fun x b H Q=>∃(a:Str) (c:Nat),x=.str a/\b=[.str ⟨#[c]⟩]/\a.length<=100000/\∀l,H l=none->Q (.ref l) (upd H l<|.lst<|(Lu a ⟨#[c]⟩).map V.str)
theorem IU:RA X "str.split" We:=by
 intro n s r H x p v o Q I j i h;obtain⟨a,c,rfl,rfl,ha,q⟩:=h;obtain⟨t,rfl⟩:=j;obtain⟨u,rfl,t',rfl⟩:=wX i;have g:a.length<=sizeLine:=An.zp (by lia);have f:((⟨#[c]⟩:Str).length==0)=false:=rfl;have hn:(LB a (EH a ⟨#[c]⟩ 0 a.length<|a.length+1) (⟨#[c]⟩:Str).length).length<=200000:=by
  unfold LB;have:=StrLaws.occ_length_le a ⟨#[c]⟩ 0 a.length<|a.length+1;simp only[Za,List.length_zip,Zj,Zp,Ym];lia
 cases b:(decide (a.length<(⟨#[c]⟩:Str).length)||decide (Lf a<Lf ⟨#[c]⟩))
 ·cases d:(EH a ⟨#[c]⟩ 0 a.length<|a.length+1).isEmpty
  ·have e:Lu a ⟨#[c]⟩=LB a (EH a ⟨#[c]⟩ 0 a.length<|a.length+1) (⟨#[c]⟩:Str).length:=(Zr<|VQ b).trans<|Zr<|VQ d;refine Vh F.slot_str_split (JY s a t) F.entry_str_split (F.args_str_split_2 _ _) (meets_str_split_sep a ⟨#[c]⟩ t t' b f d g<|An.zp<|by lia) ?_;rw[strsFrom_eq];refine⟨.ref _,_,I.mq (kT<|numbered_texts _ _) (by rw[Za];exact An.zp<|by lia),rfl,?_⟩;rw[←e];exact q _ I.fresh
  ·have e:Lu a ⟨#[c]⟩=[a]:=(Zr<|VQ b).trans<|Zy d;rw[e]at q;refine Vh F.slot_str_split (JY s a t) F.entry_str_split (F.args_str_split_2 _ _) (meets_str_split_not_found a ⟨#[c]⟩ t t' b f d) ?_;exact⟨.ref _,_,I.mq (t':=s.toks) (kT (l:=[(a,t)]) rfl) (by show 1<=sizeLine;decide),rfl,q _ I.fresh⟩
 ·have e:Lu a ⟨#[c]⟩=[a]:=Zy b;rw[e]at q;refine Vh F.slot_str_split (JY s a t) F.entry_str_split (F.args_str_split_2 _ _) (meets_str_split_cannot_occur a ⟨#[c]⟩ t t' b) ?_;exact⟨.ref _,_,I.mq (t':=s.toks) (kT (l:=[(a,t)]) rfl) (by show 1<=sizeLine;decide),rfl,q _ I.fresh⟩
def bq (K:Cc):Dj->Hp->VK->Prop:=fun b H Q=>∃(a:Ei) (bs:List Bool),b=[.ref a]/\xx K H a (bs.map V.bl)/\Q (.bl<|bs.any id) H
theorem OF {K:Cc}(p:X.calm=true)(o:X.K=K:=by rfl):xq X (.builtin "any") (bq K):=by
 subst o;intro y s L H J G Q I r h;obtain⟨a,bs,rfl,ha,q⟩:=h;obtain⟨u,rfl,w⟩:=wX r;cases w;obtain⟨d,x,t,D⟩:=I.list ha;have j:=DE x;have hl:=t.isList;have g:a<s.heap.objs.size:=by obtain⟨_,e,_⟩:=hl;exact Zu e
 refine call_any_walk<|JV hl ?_;refine⟨s.heap.objs.size,[s.heap.objs.size,a],[s.heap.objs.size],d.toArray.size,_,_,fun i=>(bs[i]?).getD false,rfl,Walks.list (A:=X.A.in1) (I.ok.hd p) _ a (Zz g) d.toArray,⟨⟨_,Zq _ rfl,rfl,rfl⟩,hl.push _⟩,fun i v E B z f l=>?_,fun C F hk=>?_⟩
 ·have f:d[i]?=some v:=by simpa using f
  rw[j,Zs]at f;cases e:bs[i]? with
  |none=>rw[e]at f;cases f
  |some b =>
   rw[e]at f;have f:L7 b=v:=Option.some.inj f;subst f;simp only[e,VE]at l;exact YR l
 ·have n:d.length=bs.length:=by rw[j,Za]
  have e:((EM d.toArray.size).any fun i=>(bs[i]?).getD false)=bs.any id:=by
   rw[ZD,n];exact PyProof.Rows.LSm.range_any bs
  rw[e];exact⟨.bl _,H,I.kept<|PyProof.Rows.LSm.kept_iter hk,rfl,q⟩
theorem Pu {K:Cc}(b:X.K=K:=by rfl):RA X "str.join" (rJoin K):=by
 subst b;exact Ia
theorem TY {K:Cc}{e:EG}{es:List EG}{name:Str}{g b:Pos}{T id:String}(s:PlainAttrs T)(slot:Slot T name id)(f:typeOf (.builtin id)=LC (.type "method_descriptor"))(hm:RA X id r)(p:PE X o to)(ha:PA X (e::es) t)
  (j:Lz o name X.env (E3 o X.env)=E3 o X.env:=by rfl)
  (d:((Lb b<|Ew (e::es) X.env).all (fun x=>!x.1)&&(Mn b<|LH [] X.env).all (fun x=>x.1.isSome) && decide ((e::es).length+([]:List Keyword).length+(if([]:List Keyword).isEmpty then 0 else 1)<30))=true:=by rfl)
  (l:(g.endLine==b.line)=true:=by rfl) (q:Ew (e::es) X.env=(false,E3 e X.env)::Ew es X.env:=by rfl) (i:(Lb b<|Ew es X.env).any (·.1)=false:=by rfl) (n:X.K=K:=by rfl) :
  PE X (.Call (.Attribute o name g) (e::es) [] b) (bK K T r to t):=by
 subst n;exact kX s slot f hm p ha j d l q i
end
end L2
namespace An
open PySem L2
def Wj:Str:=⟨#[47]⟩
theorem Xp:("/":Str)=Wj:=by decide +kernel
def jn:List (List Nat)->List Nat
 |[]=>[]
 |[x]=>x
 |x::y::r=>x++47::jn (y::r)
def Cu:List Nat->List (List Nat)
 |[]=>[[]]
 |c::r=>if c=47 then[]::Cu r else match Cu r with
  |[]=>[[c]]
  |p::ps=>(c::p)::ps
theorem Xj:∀l,Cu l≠[]
 |[]=>by simp[Cu]
 |c::r=>by
  unfold Cu
  split
  ·simp
  ·split<;>simp
theorem Ig {x:List Nat}{r:List (List Nat)}(h:r≠[]):jn (x::r)=x++47::jn r:=by
 cases r with
 |nil=>exact absurd rfl h
 |cons y r=>rfl
theorem XC:∀l,jn (Cu l)=l
 |[]=>rfl
 |c::r=>by
  have b:=XC r;unfold Cu
  split
  ·rename_i e;rw[Ig<|Xj r,b,e];rfl
  ·cases q:Cu r with
   |nil=>exact absurd q<|Xj r
   |cons p ps =>
    rw[q]at b;cases ps with
    |nil=>show c::p=_;rw[show p=r from b]
    |cons y ps =>
     show(c::p)++47::jn (y::ps)=_;rw[←b];rfl
theorem iD:∀(a b:List Nat),Cu (a++47::b)=Cu a++Cu b
 |[],b=>by
  show(if 47=47 then[]::Cu b else _)=[[]]++Cu b;rw[Zy rfl];rfl
 |c::a,b=>by
  have d:=iD a b;show Cu (c::(a++47::b))=_;rw[Cu,Cu,d]
  split
  ·rfl
  ·cases q:Cu a with
   |nil=>exact absurd q<|Xj a
   |cons p ps=>rfl
theorem Gj:∀{p:List Nat},47∉p->Cu p=[p]
 |[],_=>rfl
 |c::p,h=>by
  have b:=Gj (p:=p) fun z=>h<|Zf _ z;unfold Cu;rw[Zr<|fun z=>h (by rw[z];exact Zi),b]
theorem KN:∀{ps:List (List Nat)},ps≠[]->(∀p∈ps,47∉p)->Cu (jn ps)=ps
 |[],h,_=>absurd rfl h
 |[p],_,h=>Gj<|h p Zi
 |p::q::r,_,h=>by
  rw[Ig<|by simp,iD,Gj<|h p Zi,KN (ps:=q::r) (by simp) fun x b=>h x<|Zf _ b];rfl
theorem Ke:∀{a b:List (List Nat)},a≠[]->b≠[]->jn (a++b)=jn a++47::jn b
 |[],_,h,_=>absurd rfl h
 |[x],b,_,hb=>Ig hb
 |x::y::r,b,_,hb=>by
  show x++47::jn ((y::r)++b)=(x++47::jn (y::r))++47::jn b;rw[Ke (a:=y::r) (by simp) hb];simp
theorem O9:∀{ps:List (List Nat)} {p:List Nat},p∈ps->p.length<=(jn ps).length
 |[],_,h=>by cases h
 |[x],p,h=>by rw[Zb.mp h];exact Zg _
 |x::y::r,p,h=>by
  show _<=(x++47::jn (y::r)).length;rw[Zp,Zj]
  rcases Zm.mp h with rfl|h
  ·lia
  ·have:=O9 h;lia
theorem O8:∀{ps:List (List Nat)},ps.length<=(jn ps).length+1
 |[]=>by simp
 |[x]=>by simp
 |x::y::r=>by
  show _<=(x++47::jn (y::r)).length+1;have:=O8 (ps:=y::r);have b:(x++47::jn (y::r)).length=x.length+((jn (y::r)).length+1):=by rw[Zp,Zj]
  have d:(x::y::r).length=(y::r).length+1:=Zj;lia
theorem PL {l p:List Nat}:(∃t,l=p++47::t)↔∃i,i+1<(Cu l).length/\p=jn ((Cu l).take<|i+1):=by
 constructor
 ·rintro⟨t,rfl⟩;rw[iD];have b:0<(Cu p).length:=J8.mpr<|Xj p;have d:0<(Cu t).length:=J8.mpr<|Xj t;refine⟨(Cu p).length-1,by rw[Zp];lia,?_⟩;rw[show(Cu p).length-1+1=(Cu p).length by lia,List.take_left,XC]
 ·rintro⟨i,e,rfl⟩;refine⟨jn<|(Cu l).drop<|i+1,?_⟩;rw[←Ke,Z6,XC]
  ·intro z;have:=congrArg List.length z;rw[ZG,Ym]at this;lia
  ·intro z;have:=congrArg List.length z;rw[YO,Ym]at this;lia
def Sc (l:List Nat):Str:=⟨l.toArray⟩
theorem oM (l:List Nat):cs (Sc l)=l:=by simp[Sc,cs]
theorem m5 (x:Str):Sc (cs x)=x:=yc<|oM _
theorem qA:∀ys:Da,cs (Lq "/" ys)=jn (ys.map cs):=by
 intro ys;have e:Lq "/" ys=MB "/" ys:=Lg "/" ys;rw[e];clear e
 induction ys with
 |nil=>rfl
 |cons x r ih =>
  cases r with
  |nil=>rfl
  |cons y r =>
   show cs (x++"/"++MB "/" (y::r))=cs x++47::jn ((y::r).map cs);have:cs ("/":Str)=[47]:=by decide +kernel
   rw[zq,zq,ih,this];simp
theorem Rm (x:Str):Lu x "/"=(Cu<|cs x).map Sc:=by
 have d:cs (MB "/"<|Lu x "/")=cs x:=by rw[StrLaws.join_split]
 have e:Lq "/" (Lu x "/")=MB "/" (Lu x "/"):=Lg "/" _;rw[←e,qA]at d;have b:Lu x "/"≠[]:=by
  unfold Lu
  split
  ·simp
  ·split
   ·simp
   ·unfold LB;intro z;have:=congrArg List.length z;simp at this
 have f:=KN (ps:=(Lu x "/").map cs) (by simpa using b) (fun p i=>by
  obtain⟨y,g,rfl⟩:=Zd.mp i;rw[Xp]at g;exact StrLaws.split_free x 47 y g)
 rw[d]at f;rw[f,ZF];have:(Sc∘cs)=(id:Str->Str):=funext m5;rw[this,J1]
def Us (x:Str):Da:=Lu x "/"
theorem qN (x:Str):(Us x).map cs=Cu (cs x):=by
 unfold Us;rw[Rm,ZF];have:(cs∘Sc)=(id:List Nat->List Nat):=funext oM;rw[this,J1]
theorem FF {y:Str}(h:y∈Us x):y.length<=x.length:=by
 rw[zb,zb,←XC (cs x),←qN];exact O9<|List.mem_map_of_mem h
theorem vO (x:Str):(Us x).length<=x.length+1:=by
 have:=O8 (ps:=Cu<|cs x);rw[XC,←qN,Za]at this;rwa[zb]
theorem Gk (x:Str):0<(Us x).length:=by
 have:=J8.mpr<|Xj<|cs x;rw[←qN,Za]at this;exact this
theorem Bm (x:Str):Lq "/" (Us x)=x:=yc (by rw[qA,qN,XC])
theorem jO {ys:Da}(h:ys≠[])(g:∀y∈ys,47∉cs y):Us (Lq "/" ys)=ys:=by
 have:(Us<|Lq "/" ys).map cs=ys.map cs:=by
  rw[qN,qA,KN<|by simpa using h];intro p i;obtain⟨y,j,rfl⟩:=Zd.mp i;exact g y j
 have inj:∀{a b:Da},a.map cs=b.map cs->a=b:=by
  intro a
  induction a with
  |nil =>
   intro b e;cases b with
   |nil=>rfl
   |cons _ _=>cases e
  |cons x a ih =>
   intro b e;cases b with
   |nil=>cases e
   |cons y b =>
    rw[ZE,ZE]at e;injection e with d f;rw[yc d,ih f]
 exact inj this
def UC (x:Str):Bool:=decide ((Us x).length<=4)&&(Us x).all zP
def UA:Ek->Bool
 | .str x=>UC x
 |_=>false
theorem xV (h:zP y=true):47∉cs y:=by
 unfold zP at h;rw[Zk]at h;intro z;exact absurd (ZA.mp h.2 47 z) (by decide)
theorem jU {ys:Da}(b:ys≠[])(d:ys.length<=4)(h:∀y∈ys,zP y=true):UC (Lq "/" ys)=true:=by
 unfold UC;rw[jO b fun y e=>xV<|h y e,Ze d,ZA.mpr h];rfl
def UU (x:Str):Da:=(EM<|(Us x).length-1).map fun i=>Lq "/"<|(Us x).take<|i+1
def Ux (p q:Str):Bool:=Txt.startswith q<|p++"/"
theorem BV:Ux p q=true↔∃t,cs q=cs p++47::t:=by
 unfold Ux Txt.startswith;rw[StrLaws.subAt_eq,Vo,Nat.zero_add,Zk,ZQ,Jn];have e:(p++"/":Str).cps.toList=cs p++[47]:=by
  have:cs ("/":Str)=[47]:=by decide +kernel
  show cs (p++"/")=_;rw[zq,this]
 have b:(p++"/":Str).length=(cs p).length+1:=by
  rw[zb];show(cs<|p++"/").length=_;rw[show cs (p++"/")=cs p++[47] from e,Zp];rfl
 rw[e,b];constructor
 ·rintro⟨f,d⟩;refine⟨(cs q).drop<|(cs p).length+1,?_⟩;have:=Z6 ((cs p).length+1)<|cs q;rw[d,Z7]at this;exact this.symm
 ·rintro⟨t,h⟩;rw[zb,h];refine⟨by simp,?_⟩;show(cs q).take _=_;rw[h];rw[show cs p++47::t=(cs p++[47])++t by simp];rw[Uo<|by simp]
theorem mL {p:Str}:p∈UU q↔Ux p q=true:=by
 rw[BV,PL];unfold UU;rw[Zd];have hl:(Cu<|cs q).length=(Us q).length:=by rw[←qN,Za]
 constructor
 ·rintro⟨i,b,rfl⟩;have:=Jl.mp b;refine⟨i,by lia,?_⟩;rw[qA,JS,qN]
 ·rintro⟨i,b,h⟩;refine⟨i,Jl.mpr<|by lia,yc ?_⟩;rw[qA,JS,qN,h]
theorem IG (p t:Str):Ux p (p++"/"++t)=true:=by
 rw[BV];refine⟨cs t,?_⟩;have:cs ("/":Str)=[47]:=by decide +kernel
 rw[zq,zq,this];simp
abbrev Fi:=Da×Da
abbrev Dk:=List Fi
def zc (ls:Da):Str:=Lq "/" ls
structure yd (S:Di):Prop where
 good:tV S
 th:∀e∈S,By e
 num:∀e∈S,e.n<S.length
def At (S:Di)(x:Str)(t:Th):Prop:=∃e∈S,e.nm=x/\e.d=t.dat
section
variable {S T:Di}{x y:Str}{t u:Th}
theorem CP (g:(S.map En.nm).Nodup){e f:En}(b:e∈S)(d:f∈S)(h:e.nm=f.nm):e=f:=by
 obtain⟨i,l,rfl⟩:=ZY.mp b;obtain⟨j,n,rfl⟩:=ZY.mp d;have:=(Jg (h₀:=by simpa using l) (h₁:=by simpa using n) g).mp (by rwa[ZT,ZT]);subst this;rfl
theorem At.thing (g:yd S)(h:At S x t)(k:At S x u):t=u:=by
 obtain⟨e,d,rfl,hd⟩:=h;obtain⟨f,i,fn,b⟩:=k;have:=CP g.good.nn i d fn;subst this;exact uU<|hd.symm.trans b
theorem At.name (g:yd S)(h:At S x t)(k:At S y t):x=y:=by
 obtain⟨e,d,rfl,hd⟩:=h;obtain⟨f,i,rfl,b⟩:=k;rw[TR g.good.nd d i<|hd.trans b.symm]
theorem At.more (h:At S x t):At (S++T) x t:=let ⟨e,he,a⟩:=h;⟨e,Ya _ he,a⟩
theorem At.mem (h:At S x t):x∈S.map En.nm:=let ⟨e,he,a,_⟩:=h;Zd.mpr ⟨e,he,a⟩
end
noncomputable def Nt (S:Di)(x:Str):Option Th:=open Classical in if h:∃t,At S x t then some (choose h) else none
theorem Xz (g:yd S)(h:At S x t):Nt S x=some t:=by
 unfold Nt;have ex:∃t,At S x t:=⟨t,h⟩;rw[dif_pos ex];exact congrArg some<|At.thing g (Vz ex) h
noncomputable def zu:Nat->Di->Str->Dk
 | 0,_,_=>[]
 |d+1,S,x=>match Nt S x with
  |some (.leaf ls)=>[([],ls)]
  |some (.tree Do)=>Do.flatMap fun r=>(zu d S r.2).map fun f=>(r.1::f.1,f.2)
  |_=>[]
theorem yG {ls:Da}{d:Nat}(g:yd S)(h:At S x<|.leaf ls):zu (d+1) S x=[([],ls)]:=by
 show(match Nt S x with|some (.leaf ls)=>[([],ls)]|some (.tree Do)=>_|_=>_)=_;rw[Xz g h]
theorem xX {Do:Dg}{d:Nat}(g:yd S)(h:At S x<|.tree Do):zu (d+1) S x=Do.flatMap fun r=>(zu d S r.2).map fun f=>(r.1::f.1,f.2):=by
 show(match Nt S x with|some (.leaf ls)=>[([],ls)]|some (.tree Do)=>_|_=>_)=_;rw[Xz g h]
def FN (a b:Str):Prop:=cs a<cs b
def Tree:Nat->Di->Str->Prop
 | 0,_,_=>False
 |d+1,S,x=>(∃e,At S x<|.leaf e)\/∃b,At S x (.tree b)/\(b.map (·.1)).Pairwise FN/\∀r∈b,zP r.1=true/\Tree d S r.2/\zu d S r.2≠[]
theorem Tree.more {S T:Di}(g:yd<|S++T)(b:yd S):∀{d:Nat} {x:Str},Tree d S x->Tree d (S++T) x/\zu d (S++T) x=zu d S x
 | 0,_,h=>absurd h<|fun z=>z
 |d+1,x,h=>by
  rcases h with⟨ls,h⟩|⟨Do,h,so,hr⟩
  ·exact⟨.inl ⟨ls,h.more⟩,by rw[yG g h.more,yG b h]⟩
  ·have e:∀r∈Do,Tree d (S++T) r.2/\zu d (S++T) r.2=zu d S r.2:=fun r m=>Tree.more g b (hr r m).2.1;refine⟨.inr ⟨Do,h.more,so,fun r m=>⟨(hr r m).1,(e r m).1,by rw[(e r m).2];exact(hr r m).2.2⟩⟩,?_⟩;rw[xX g h.more,xX b h];rw[Jj,Jj]
   congr 1
   exact Z1 fun r m=>by rw[(e r m).2]
theorem Tree.mem (h:Tree d S x):x∈S.map En.nm:=by
 cases d with
 |zero=>exact absurd h<|fun z=>z
 |succ d =>
  rcases h with⟨ls,h⟩|⟨Do,h,_⟩
  ·exact h.mem
  ·exact h.mem
theorem Pm:∀{a b:List Nat} (s t:List Nat),(∀c∈b,47<c)->(s=[]\/∃r,s=47::r)->a<b->a++s<b++t
 |[],[],_,_,_,_,h=>absurd h<|V0 _
 |[],c::b,s,t,hb,hs,_=>by
  rcases hs with rfl|⟨r,rfl⟩
  ·exact List.nil_lt_cons _ _
  ·exact YF.mpr (.inl<|hb c<|Zi ..)
 |_::_,[],_,_,_,_,h=>absurd h<|List.not_lt_nil _
 |x::a,y::b,s,t,hb,hs,h=>by
  rcases YF.mp h with d|⟨e,d⟩
  ·exact YF.mpr (.inl d)
  ·exact YF.mpr (.inr ⟨e,Pm s t (fun c f=>hb c<|Zf _ f) hs d⟩)
theorem qP (l:Str){p:Da}(h:p≠[]):cs (zc (l::p))=cs l++47::cs (zc p):=by
 unfold zc;rw[qA,qA,ZE,Ig<|by simpa using h]
theorem Io (l:Str):cs (zc [l])=cs l:=by
 unfold zc;rw[qA];rfl
theorem F7 (l:Str)(p:Da):∃s,cs (zc (l::p))=cs l++s/\(s=[]\/∃r,s=47::r):=by
 by_cases h:p=[]
 ·subst h;exact⟨[],by rw[Io,ZK],.inl rfl⟩
 ·exact⟨_,qP l h,.inr ⟨_,rfl⟩⟩
theorem Pa (h:zP l=true):∀c∈cs l,47<c:=fun c b=>by
 unfold zP at h;rw[Zk]at h;have:=ZA.mp h.2 c b;unfold UO at this;rw[Zk,ZQ]at this;lia
theorem T6 (p q:Da)(hm:zP m=true)(h:FN l m):FN (zc (l::p)) (zc (m::q)):=by
 obtain⟨s,e,d⟩:=F7 l p;obtain⟨t,b,_⟩:=F7 m q;unfold FN;rw[e,b];exact Pm s t (Pa hm) d h
theorem OB:∀(a:List Nat) {s t:List Nat},s<t->a++s<a++t
 |[],_,_,h=>h
 |x::a,_,_,h=>YF.mpr<|.inr ⟨rfl,OB a h⟩
theorem T8 {l:Str}{p q:Da}(b:p≠[])(d:q≠[])(h:FN (zc p)<|zc q):FN (zc (l::p)) (zc (l::q)):=by
 unfold FN;rw[qP l b,qP l d];exact OB _<|YF.mpr<|.inr ⟨rfl,h⟩
theorem Tree.rise (g:yd S):∀{d:Nat} {x:Str},Tree d S x->(zu d S x).Pairwise (fun f h=>FN (zc f.1)<|zc h.1)/\((∃ls,zu d S x=[([],ls)])\/∀f∈zu d S x,f.1≠[])
 | 0,_,h=>absurd h<|fun z=>z
 |d+1,x,h=>by
  rcases h with⟨ls,h⟩|⟨Do,h,so,hr⟩
  ·rw[yG g h];exact⟨Vj _ _,.inl ⟨ls,rfl⟩⟩
  ·rw[xX g h];refine⟨?_,.inr fun f i=>?_⟩
   ·rw[Jj,List.pairwise_flatten];refine⟨fun l hl=>?_,?_⟩
    ·obtain⟨r,j,rfl⟩:=Zd.mp hl;obtain⟨o,e⟩:=Tree.rise g (hr r j).2.1;rw[YU]
     rcases e with⟨ls,e⟩|e
     ·rw[e];exact Vj _ _
     ·exact o.imp_of_mem fun{a b} ha hb z=>T8 (e a ha) (e b hb) z
    ·rw[YU];rw[YU]at so;refine so.imp_of_mem fun{a b} ha hb z f i k hk=>?_;obtain⟨n,_,rfl⟩:=Zd.mp i;obtain⟨p,_,rfl⟩:=Zd.mp hk;exact T6 _ _ (hr b hb).1 z
   ·obtain⟨r,_,i⟩:=YC.mp i;obtain⟨n,_,rfl⟩:=Zd.mp i;exact ZU _ _
theorem FO (h:FN a b):a≠b:=fun z=>by subst z;exact V0 _ h
noncomputable def Cf (S:Di)(t:Th):List En×Str:=open Classical in if h:∃x,At S x t then(S,choose h) else(S++[GO S t],(GO S t).nm)
section
variable {S T:Di}{x:Str}{t:Th}
theorem Ng (g:yd S)(h:At S x t):Cf S t=(S,x):=by
 unfold Cf;have ex:∃x,At S x t:=⟨x,h⟩;rw[dif_pos ex];exact congrArg (Prod.mk S)<|At.name g (Vz ex) h
theorem Hc (h:∀e∈S,e.d≠t.dat):Cf S t=(S++[GO S t],(GO S t).nm):=by
 unfold Cf;rw[dif_neg];rintro⟨x,e,b,_,hd⟩;exact h e b hd
theorem TB {e:En}(h:e.h=UF t)(hn:e.n<1000000):Ok 1000 e.nm:=by
 refine⟨?_,?_⟩
 ·have b:=uB t;have d:(UD e.n).length<=10:=Jz (by lia) (by decide) (by
   have:e.n<10 ^ 9:=by lia
   lia)
  unfold En.nm;rw[yr,yr,h];have:dot.length=1:=rfl;lia
 ·unfold En.nm;rw[h];exact Ks (Ks (Ks (N1 t)<|Kr _)<|by decide +kernel)<|Kr _
theorem yd.nm (g:yd S){e:En}(b:e∈S):Ok 1000 e.nm:=by
 obtain⟨t,_,_,h⟩:=g.th e b;exact TB h (g.good.ent e b).num
theorem yd.snoc (g:yd S)(gt:t.Good)(l:S.length<2000)(h:∀e∈S,e.d≠t.dat):yd (S++[GO S t]):=by
 have nl:=MZ g.num<|UF t;refine⟨g.good.snoc ⟨CD gt,j7 t,?_,uB t⟩ (fun z=>?_) (Pw g.good<|j7 t) l,fun e b=>?_,fun e b=>?_⟩
 ·show(xu S<|UF t).getD 0<1000000;lia
 ·obtain⟨e,b,hd⟩:=Zd.mp z;exact h e b hd
 ·rcases ZB.mp b with z|z
  ·exact g.th e z
  ·rw[Zb.mp z];exact⟨t,rfl,gt,rfl⟩
 ·rw[Zp,YJ]
  rcases ZB.mp b with z|z
  ·have:=g.num e z;lia
  ·rw[Zb.mp z];show(xu S<|UF t).getD 0<_;lia
theorem jE (g:yd S)(gt:t.Good)(l:S.length<2000):yd (Cf S t).1/\At (Cf S t).1 (Cf S t).2 t/\(Cf S t).1.length<=S.length+1/\∃T,(Cf S t).1=S++T/\∀e∈T,e.nm=(Cf S t).2:=by
 by_cases z:∃x,At S x t
 ·obtain⟨x,h⟩:=z;rw[Ng g h];exact⟨g,h,Je _,[],(ZK _).symm,fun e b=>(nomatch b)⟩
 ·have h:∀e∈S,e.d≠t.dat:=fun e b hd=>z ⟨e.nm,e,b,rfl,hd⟩;rw[Hc h];exact⟨g.snoc gt l h,⟨_,ZL _<|Zb.mpr rfl,rfl,rfl⟩,by rw[Zp];exact Zg _,[GO S t],rfl,fun e b=>by rw[Zb.mp b]⟩
end
noncomputable def met:Nat->Di->Str->Da
 | 0,_,_=>[]
 |d+1,S,x=>x::match Nt S x with
  |some (.tree Do)=>Do.flatMap fun r=>met d S r.2
  |_=>[]
theorem IA {ls:Da}{d:Nat}(g:yd S)(h:At S x<|.leaf ls):met (d+1) S x=[x]:=by
 show x::(match Nt S x with|some (.tree Do)=>_|_=>_)=_;rw[Xz g h]
theorem j4 {Do:Dg}{d:Nat}(g:yd S)(h:At S x<|.tree Do):met (d+1) S x=x::Do.flatMap fun r=>met d S r.2:=by
 show x::(match Nt S x with|some (.tree Do)=>_|_=>_)=_;rw[Xz g h]
theorem FS {x:Str}{d:Nat}:x∈met (d+1) S x:=Zi ..
theorem Tree.rE {S T:Di}(g:yd<|S++T)(b:yd S):∀{d:Nat} {x:Str},Tree d S x->met d (S++T) x=met d S x
 | 0,_,h=>absurd h<|fun z=>z
 |d+1,x,h=>by
  rcases h with⟨ls,h⟩|⟨Do,h,so,hr⟩
  ·rw[IA g h.more,IA b h]
  ·rw[j4 g h.more,j4 b h,Jj,Jj]
   congr 2
   exact Z1 fun r m=>Tree.rE g b (hr r m).2.1
def WJ (a b:Str×Str):Bool:=!decide (cs b.1<cs a.1)
def Uv (Do:Dg):Dg:=Do.mergeSort WJ
theorem uo:WJ a b=true↔cs a.1<=cs b.1:=by
 unfold WJ;rw[Yj,JE];exact J0
theorem Hr (Do:Dg):(Uv Do).Pairwise (fun a b=>WJ a b=true) :=
 List.pairwise_mergeSort (le:=WJ) (fun a b c d e=>uo.mpr<|List.le_trans (uo.mp d)<|uo.mp e) (fun a b=>by
  rw[Ve,uo (a:=a) (b:=b),uo (a:=b) (b:=a)];exact List.le_total _ _) Do
theorem z5 (Do:Dg):(Uv Do).Perm Do:=List.mergeSort_perm Do WJ
theorem Hq {Do:Dg}(nd:(Do.map (·.1)).Nodup):((Uv Do).map (·.1)).Pairwise FN:=by
 have d:((Uv Do).map (·.1)).Nodup:=((z5 Do).map _).nodup_iff.mpr nd;have e:((Uv Do).map (·.1)).Pairwise (fun a b=>cs a<=cs b):=YU.mpr<|(Hr Do).imp fun{a b} h=>uo.mp h;exact(e.and<|Z8.mp d).imp fun{a b} h=>by
  by_cases z:cs a<cs b
  ·exact z
  ·exact absurd (yc<|Uc h.1<|J0.mp z) h.2
theorem Rj {Do d:Dg}(nd:(Do.map (·.1)).Nodup)(p:d.Perm Do)(o:d.Pairwise<|fun a b=>cs a.1<=cs b.1):d=Uv Do:=by
 refine List.Perm.eq_of_pairwise (le:=fun a b=>cs a.1<=cs b.1) (fun a b ha hb f g=>?_) o ((Hr Do).imp fun{a b} h=>uo.mp h) (p.trans (z5 Do).symm);have e:=yc<|Uc f g;have ha:=p.mem_iff.mp ha;have hb:=(z5 Do).mem_iff.mp hb;obtain⟨i,l,rfl⟩:=ZY.mp ha;obtain⟨j,n,rfl⟩:=ZY.mp hb;have:=(Jg (h₀:=by simpa using l) (h₁:=by simpa using n) nd).mp (by rwa[ZT,ZT]);subst this;rfl
theorem Xo {d g:Type}{f:d->g}{l:List d}(h:(l.map f).Nodup):l.Nodup:=by
 rw[Z8]at h ⊢;rw[YU]at h;exact h.imp fun{a b} n e=>n (by rw[e])
def UN (ls:Da):Prop:=ls.length<=63/\∀l∈ls,UR l=true
structure yg (d:Nat)(fs:Dk):Prop where
 wN:∀f∈fs,f.1≠[]/\f.1.length<=d/\(∀l∈f.1,zP l=true)/\UN f.2
 nd:(fs.map (·.1)).Nodup
 pre:∀f∈fs,∀k∈fs,∀t,k.1=f.1++t->t=[]
def Cj (fs:Dk):List (Str×Da):=fs.filterMap fun f=>match f.1 with
 |[a]=>some (a,f.2)
 |_=>none
def Xd (l:Str)(f:Fi):Option Fi:=match f.1 with
 |a::b::r=>if a=l then some (b::r,f.2) else none
 |_=>none
def sub (fs:Dk)(l:Str):Dk:=fs.filterMap<|Xd l
def qL (L:Da)(p:Str):Da:=if p∈L then L else L++[p]
def Cm (fs:Dk):Da:=fs.foldl (fun L f=>match f.1 with
 |a::_::_=>qL L a
 |_=>L) []
theorem Ko {q:Str}:q∈qL L p↔q∈L\/q=p:=by
 unfold qL
 split
 ·rename_i h;exact⟨.inl,fun z=>z.elim id<|fun z=>z▸h⟩
 ·rw[ZB,Zb]
theorem NB {L:Da}(h:L.Nodup):(qL L p).Nodup:=by
 unfold qL
 split
 ·exact h
 ·rename_i z;exact jX h z
theorem j0 (fs:Dk)(f:Fi):Cm (fs++[f])=match f.1 with
 |a::_::_=>qL (Cm fs) a
 |_=>Cm fs:=by
 unfold Cm;rw[YT];rfl
theorem xG (fs:Dk):(Cm fs).Nodup/\∀l,l∈Cm fs↔∃f∈fs,∃b r,f.1=l::b::r:=by
 induction fs using snoc_ind with
 |d=>exact⟨Yn,fun l=>⟨fun h=>(nomatch h),fun⟨f,d,_⟩=>(nomatch d)⟩⟩
 |e fs f ih =>
  rw[j0];have old:∀l,(∃k∈fs++[f],∃b r,k.1=l::b::r)↔(∃k∈fs,∃b r,k.1=l::b::r)\/∃b r,f.1=l::b::r:=fun l=>by
   constructor
   ·rintro⟨k,hk,z⟩
    rcases ZB.mp hk with q|q
    ·exact .inl ⟨k,q,z⟩
    ·rw[Zb.mp q]at z;exact .inr z
   ·rintro(⟨k,hk,z⟩|z)
    ·exact⟨k,Ya _ hk,z⟩
    ·exact⟨f,ZL _<|Zb.mpr rfl,z⟩
  match e:f.1 with
  |[]=>exact⟨ih.1,fun l=>by rw[old,ih.2,e];exact⟨.inl,fun z=>z.elim id fun⟨b,r,z⟩=>(nomatch z)⟩⟩
  |[a]=>exact⟨ih.1,fun l=>by rw[old,ih.2,e];exact⟨.inl,fun z=>z.elim id fun⟨b,r,z⟩=>(nomatch z)⟩⟩
  |a::b::r =>
   refine⟨NB ih.1,fun l=>?_⟩;show l∈qL (Cm fs) a↔_;rw[Ko,ih.2,old,e];exact or_congr Iff.rfl ⟨fun z=>⟨b,r,by rw[z]⟩,fun⟨_,_,z⟩=>(List.cons.inj z).1.symm⟩
theorem wg {k:Fi}:k∈sub fs l↔k.1≠[]/\(l::k.1,k.2)∈fs:=by
 unfold sub;rw[JG];constructor
 ·rintro⟨f,d,e⟩;unfold Xd at e
  split at e
  ·rename_i a b r q
   split at e
   ·rename_i z;subst z;cases e;refine⟨ZU _ _,?_⟩;have:f=(a::b::r,f.2):=LQ q rfl;rwa[←this]
   ·cases e
  ·cases e
 ·rintro⟨g,d⟩;refine⟨_,d,?_⟩;cases q:k.1 with
  |nil=>exact absurd q g
  |cons b r =>
   unfold Xd;show(if l=l then some ((b::r,k.2):Fi) else none)=some k;rw[Zy rfl]
   congr 1
   exact LQ q.symm rfl
theorem wC {a:Str}{ls:Da}:(a,ls)∈Cj fs↔([a],ls)∈fs:=by
 unfold Cj;rw[JG];constructor
 ·rintro⟨f,d,e⟩
  split at e
  ·rename_i b q;cases e;have:f=([a],f.2):=LQ q rfl;rwa[←this]
  ·cases e
 ·intro h;exact⟨_,h,rfl⟩
theorem yg.sub {d:Nat}(h:yg (d+1) fs)(l:Str):yg d (sub fs l):=by
 refine⟨fun k hk=>?_,?_,fun k hk m hm t e=>?_⟩
 ·obtain⟨j,g⟩:=wg.mp hk;obtain⟨_,i,n,o⟩:=h.wN _ g;have i:k.1.length+1<=d+1:=i;exact⟨j,by lia,fun z s=>n z<|Zf _ s,o⟩
 ·have:((An.sub fs l).map fun k=>l::k.1).Sublist (fs.map (·.1)):=by
   unfold An.sub;have:∀fs:Dk,((fs.filterMap<|Xd l).map fun k=>l::k.1).Sublist (fs.map (·.1)):=by
    intro fs
    induction fs with
    |nil=>exact List.Sublist.slnil
    |cons f fs ih =>
     rw[YW,ZE];cases q:Xd l f with
     |none=>exact ih.cons _
     |some k =>
      show((l::k.1)::_).Sublist _;have e:l::k.1=f.1:=by
       unfold Xd at q
       split at q
       ·rename_i a b r e
        split at q
        ·rename_i z;subst z;cases q;exact e.symm
        ·cases q
       ·cases q
      rw[e];exact ih.cons₂ _
   exact this fs
  have:=this.nodup h.nd;have e:((An.sub fs l).map fun k=>l::k.1)=((An.sub fs l).map (·.1)).map (List.cons l):=by rw[ZF];rfl
  rw[e]at this;exact Xo this
 ·obtain⟨_,g⟩:=wg.mp hk;obtain⟨_,p⟩:=wg.mp hm;exact h.pre _ g _ p t (by show l::m.1=l::k.1++t;rw[e];rfl)
noncomputable def Cd (a:List En×Dg)(f:Str×Da):List En×Dg:=((Cf a.1<|.leaf f.2).1,a.2++[(f.1,(Cf a.1<|.leaf f.2).2)])
noncomputable def Uz:Nat->Di->Dk->List En×Str
 | 0,S,_=>(S,"")
 |d+1,S,fs =>
  let b:=(Cm fs).foldl (fun a l=>((Uz d a.1<|sub fs l).1,a.2++[(l,(Uz d a.1<|sub fs l).2)])) ((Cj fs).foldl Cd (S,[]))
  Cf b.1 (.tree<|Uv b.2)
structure Fo (d:Nat)(S0 S:Di)(Do:Dg)(ps:List<|Str×Dk):Prop where
 ok:yd S
 new:∃T,S=S0++T/\∀e∈T,∃r∈Do,e.nm∈met d S r.2
 wN:Do.map (·.1)=ps.map (·.1)
 rd:∀(i:Nat) (r:Str×Str) (p:Str×Dk),Do[i]?=some r->ps[i]?=some p->Tree d S r.2/\∀f,f∈zu d S r.2↔f∈p.2
theorem Fo.nil (g:yd S):Fo d S S [] []:=⟨g,⟨[],(ZK _).symm,fun e b=>(nomatch b)⟩,rfl,fun i r p h=>(nomatch h)⟩
theorem Fo.len (h:Fo d S0 S Do ps):Do.length=ps.length:=by
 have:=congrArg List.length h.wN;rw[Za,Za]at this;exact this
theorem Fo.step {T:Di}(h:Fo d S0 S Do ps){l n:Str}{g:Dk}(ok:yd<|S++T)(new:∀e∈T,e.nm∈met d (S++T) n)(B:Tree d (S++T) n)(rd:∀f,f∈zu d (S++T) n↔f∈g):Fo d S0 (S++T) (Do++[(l,n)]) (ps++[(l,g)]):=by
 obtain⟨u,v,w⟩:=h.new;refine⟨ok,⟨u++T,by rw[←Z7,←v],fun e x=>?_⟩,by rw[Zo,Zo,h.wN];rfl,fun i r p b j=>?_⟩
 ·rcases ZB.mp x with z|z
  ·obtain⟨r,o,m⟩:=w e z;obtain⟨i,b⟩:=Yq.mp o;have hl:=(Zv.mp b).1;obtain⟨t,_⟩:=h.rd i r _ b (Zl<|by rwa[←h.len]);exact⟨r,Ya _ o,by rw[t.rE ok h.ok];exact m⟩
  ·exact⟨(l,n),ZL _<|Zb.mpr rfl,new e z⟩
 ·by_cases z:i<Do.length
  ·rw[ZH z]at b;rw[ZH<|by rwa[←h.len]]at j;obtain⟨t,k⟩:=h.rd i r p b j;obtain⟨A,y⟩:=t.more ok h.ok;exact⟨A,by rw[y];exact k⟩
  ·rw[ZP<|by lia]at b;rw[ZP (by rw[←h.len];lia)]at j;have s:i-Do.length=0:=by
    rcases Y2 (i-Do.length) with q|q
    ·exact q
    ·rw[J5.mpr (by show 1<=_;lia)]at b;cases b
   rw[s]at b;rw[←h.len,s]at j;cases b;cases j;exact⟨B,rd⟩
theorem vh:∀rs:Dg,(yB rs).length=2*rs.length
 |[]=>rfl
 |r::rs=>by
  show(yB rs).length+1+1=2*(rs.length+1);rw[vh rs];lia
theorem FQ:∀{rs:Dg} {p:Str},p∈yB rs->∃r∈rs,p=r.1\/p=r.2
 |r::rs,p,h=>by
  rcases Zm.mp h with q|h
  ·exact⟨r,Zi ..,.inl q⟩
  ·rcases Zm.mp h with q|h
   ·exact⟨r,Zi ..,.inr q⟩
   ·obtain⟨s,b,q⟩:=FQ h;exact⟨s,Zf _ b,q⟩
structure ur (d:Nat)(S:Di)(fs:Dk)(q:List En×Str):Prop where
 ok:yd q.1
 new:∃T,q.1=S++T/\∀e∈T,e.nm∈met d q.1 q.2
 tree:Tree d q.1 q.2
 rd:∀f,f∈zu d q.1 q.2↔f∈fs
 node:∃Do,At q.1 q.2<|.tree Do
theorem Xl (h:zP x=true):Ok 1000 x:=by
 unfold zP at h;rw[Zk,Zk,ZQ,ZQ]at h;refine⟨by lia,?_⟩;rw[yV];intro c b;have:=ZA.mp h.2 c b;unfold UO at this;simp only[Zk,ZQ]at this;lia
theorem Ij (g:yd S){Do:Dg}(hl:Do.length<=63)(h:∀r∈Do,zP r.1=true/\r.2∈S.map En.nm):(Th.tree Do).Good:=by
 refine⟨by show(yB Do).length<=1000;rw[vh];lia,fun p j=>?_⟩;obtain⟨r,l,q⟩:=FQ j;obtain⟨d,f⟩:=h r l
 rcases q with q|q
 ·rw[q];exact Xl d
 ·obtain⟨e,i,b⟩:=Zd.mp f;rw[q,←b];exact g.nm i
theorem Fo.put (h:Fo d S0 S Do ps)(hl:Do.length<=63)(nd:(ps.map (·.1)).Nodup)(y:∀p∈ps,zP p.1=true/\p.2≠[])(ls:S.length<2000):ur (d+1) S0 (ps.flatMap fun p=>p.2.map fun f=>(p.1::f.1,f.2)) (Cf S<|.tree<|Uv Do)/\(Cf S<|.tree<|Uv Do).1.length<=S.length+1:=by
 have at_:∀r∈Do,∃p∈ps,r.1=p.1/\Tree d S r.2/\∀f,f∈zu d S r.2↔f∈p.2:=fun r b=>by
  obtain⟨i,s⟩:=Yq.mp b;have hl:=(Zv.mp s).1;have g:=Zl (l:=ps) (i:=i) (by rwa[←h.len]);have e:=congrArg (fun l=>l[i]?) h.wN;simp only[Zs,s,g,YA]at e;exact⟨_,Yt _,Option.some.inj e,h.rd i r _ s g⟩
 have G:∀p∈ps,∃r∈Do,r.1=p.1/\Tree d S r.2/\∀f,f∈zu d S r.2↔f∈p.2:=fun p x=>by
  obtain⟨i,g⟩:=Yq.mp x;have hl:=(Zv.mp g).1;have s:=Zl (l:=Do) (i:=i) (by rwa[h.len]);have e:=congrArg (fun l=>l[i]?) h.wN;simp only[Zs,s,g,YA]at e;exact⟨_,Yt _,Option.some.inj e,h.rd i _ p s g⟩
 have u:∀{r},r∈Uv Do↔r∈Do:=(z5 Do).mem_iff;have gt:(Th.tree<|Uv Do).Good:=Ij h.ok (by rwa[(z5 Do).length_eq]) fun r b=>by
  obtain⟨p,g,e,t,_⟩:=at_ r<|u.mp b;exact⟨by rw[e];exact(y p g).1,t.mem⟩
 obtain⟨ok,j,F,T,o,D⟩:=jE h.ok gt ls;refine⟨?_,F⟩;have ne:∀r∈Do,zu d S r.2≠[]:=fun r b=>by
  obtain⟨p,g,e,t,k⟩:=at_ r b;intro z;refine(y p g).2 (JF.mpr fun f q=>?_);rw[←k,z]at q;cases q
 rw[o]at ok j;have v:∀r∈Do,Tree d (S++T) r.2/\zu d (S++T) r.2=zu d S r.2:=fun r b=>by
  obtain⟨p,g,e,t,k⟩:=at_ r b;exact t.more ok h.ok
 obtain⟨A,B,C⟩:=h.new;refine⟨by rw[o];exact ok,⟨A++T,by rw[o,B,Z7],fun e E=>?_⟩,?_,fun f=>?_,⟨_,by rw[o];exact j⟩⟩
 ·rw[o,j4 ok j]
  rcases ZB.mp E with z|z
  ·obtain⟨r,b,m⟩:=C e z;obtain⟨p,g,_,t,_⟩:=at_ r b;exact Zf _ (YC.mpr ⟨r,u.mpr b,by rw[t.rE ok h.ok];exact m⟩)
  ·rw[D e z];exact Zi ..
 ·rw[o];refine .inr ⟨_,j,Hq<|by rwa[h.wN],fun r b=>?_⟩;have b:=u.mp b;obtain⟨p,g,e,t,_⟩:=at_ r b;exact⟨by rw[e];exact(y p g).1,(v r b).1,by rw[(v r b).2];exact ne r b⟩
 ·rw[o,xX ok j,YC,YC];constructor
  ·rintro⟨r,b,q⟩;have b:=u.mp b;obtain⟨p,g,e,t,k⟩:=at_ r b;obtain⟨w,n,rfl⟩:=Zd.mp q;rw[(v r b).2,k]at n;exact⟨p,g,Zd.mpr ⟨w,n,by rw[e]⟩⟩
  ·rintro⟨p,g,q⟩;obtain⟨r,b,e,t,k⟩:=G p g;obtain⟨w,n,rfl⟩:=Zd.mp q;exact⟨r,u.mpr b,Zd.mpr ⟨w,by rw[(v r b).2,k];exact n,by rw[e]⟩⟩
def wt (fs:Dk):Nat:=(fs.map fun f=>f.1.length).sum
theorem K0 (a b:Dk):wt (a++b)=wt a+wt b:=by
 unfold wt;rw[Zo,Uq]
theorem Pg (h:UR x=true):Ok 1000 x:=by
 unfold UR at h;rw[Zk,ZQ]at h;refine⟨by lia,?_⟩;rw[yV];intro c b;have:=ZA.mp h.2 c b;unfold UL at this;simp only[Zk,ZQ]at this;lia
theorem kF (h:UN ls):(Th.leaf ls).Good:=⟨by show ls.length<=1000;have:=h.1;lia,fun p b=>Pg<|h.2 p b⟩
theorem Ii {d:Nat}:∀(vs:List<|Str×Da) {S:Di} {Do:Dg} {ps:List (Str×Dk)},Fo (d+1) S0 S Do ps->(∀v∈vs,UN v.2)->S.length+vs.length<=2000 ->
  Fo (d+1) S0 (vs.foldl Cd (S,Do)).1 (vs.foldl Cd (S,Do)).2 (ps++vs.map fun v=>(v.1,[([],v.2)]))/\(vs.foldl Cd (S,Do)).1.length<=S.length+vs.length
 |[],S,Do,ps,h,_,_=>⟨by rw[Vm,ZK];exact h,Zg _⟩
 |v::vs,S,Do,ps,h,hv,hl=>by
  have hl:S.length+(vs.length+1)<=2000:=hl;obtain⟨ok,b,q,T,i,g⟩:=jE h.ok (kF<|hv v<|Zi ..) (by lia);rw[JR];show Fo (d+1) S0 (vs.foldl Cd<|Cd (S,Do) v).1 (vs.foldl Cd<|Cd (S,Do) v).2 _/\(vs.foldl Cd<|Cd (S,Do) v).1.length<=S.length+(vs.length+1);have e:Cd (S,Do) v=((Cf S<|.leaf v.2).1,Do++[(v.1,(Cf S<|.leaf v.2).2)]):=rfl;rw[e,ZE,show ps++(v.1,[(([],v.2):Fi)])::vs.map (fun v=>(v.1,[(([],v.2):Fi)]))=(ps++[(v.1,[(([],v.2):Fi)])])++vs.map (fun v=>(v.1,[(([],v.2):Fi)])) by simp];have st:Fo (d+1) S0 (Cf S<|.leaf v.2).1 (Do++[(v.1,(Cf S<|.leaf v.2).2)]) (ps++[(v.1,[(([],v.2):Fi)])]):=by
   generalize (Cf S<|.leaf v.2).2=n at b g ⊢;rw[i]at ok b ⊢;exact h.step ok (fun e l=>by rw[g e l];exact FS) (.inl ⟨_,b⟩) (fun f=>by rw[yG ok b])
  obtain⟨j,p⟩:=Ii vs st (fun w o=>hv w<|Zf _ o) (by lia);exact⟨j,by lia⟩
noncomputable def Ci (d:Nat)(fs:Dk)(a:List En×Dg)(l:Str):List En×Dg:=((Uz d a.1<|sub fs l).1,a.2++[(l,(Uz d a.1<|sub fs l).2)])
theorem Iq (d:Nat)(S:Di)(fs:Dk):Uz (d+1) S fs=Cf ((Cm fs).foldl (Ci d fs)<|(Cj fs).foldl Cd (S,[])).1 (.tree<|Uv ((Cm fs).foldl (Ci d fs)<|(Cj fs).foldl Cd (S,[])).2):=rfl
theorem HY {b:Di}:∀(ls:Da) (H:∀l∈ls,∀S,yd S->S.length+1+wt (sub fs l)<=2000->ur e S (sub fs l) (Uz d S<|sub fs l)/\(Uz d S<|sub fs l).1.length<=S.length+1+wt (sub fs l)) {S:Di} {Do:Dg} {ps:List (Str×Dk)},
  Fo e b S Do ps->S.length+(ls.map fun l=>1+wt (sub fs l)).sum<=2000 ->
  Fo e b (ls.foldl (Ci d fs) (S,Do)).1 (ls.foldl (Ci d fs) (S,Do)).2 (ps++ls.map fun l=>(l,sub fs l))/\(ls.foldl (Ci d fs) (S,Do)).1.length<=S.length+(ls.map fun l=>1+wt (sub fs l)).sum
 |[],_,S,Do,ps,h,_=>⟨by rw[Vm,ZK];exact h,Zg _⟩
 |l::ls,H,S,Do,ps,h,hl=>by
  rw[ZE,Jf]at hl;obtain⟨q,s⟩:=H l (Zi ..) S h.ok (by lia);rw[JR,ZE,ZE,Jf];have i:Ci d fs (S,Do) l=((Uz d S<|sub fs l).1,Do++[(l,(Uz d S<|sub fs l).2)]):=rfl;rw[i,show ps++(l,sub fs l)::ls.map (fun l=>(l,sub fs l))=(ps++[(l,sub fs l)])++ls.map (fun l=>(l,sub fs l)) by simp];obtain⟨ok,⟨T,j,f⟩,g,rd,_⟩:=q;have st:Fo e b (Uz d S<|sub fs l).1 (Do++[(l,(Uz d S<|sub fs l).2)]) (ps++[(l,sub fs l)]):=by
   generalize (Uz d S<|sub fs l).2=n at f g rd ⊢;rw[j]at ok f g rd ⊢;exact h.step ok f g rd
  obtain⟨o,r⟩:=HY ls (fun w p=>H w<|Zf _ p) st (by lia);exact⟨o,by lia⟩
theorem Hx {g g':Str->Nat}{a:Str}{c:Nat}(h:∀l,l≠a->g' l=g l)(ha:g' a<=g a+c):∀{L:Da},L.Nodup->(L.map g').sum<=(L.map g).sum+c
 |[],_=>ZN _
 |l::L,nd=>by
  rw[Z5]at nd;rw[ZE,ZE,Jf,Jf]
  by_cases z:l=a
  ·subst z;have:L.map g'=L.map g:=Z1 fun m hm=>h m fun q=>nd.1<|q▸hm;rw[this];lia
  ·have:=Hx h ha nd.2;rw[h l z];lia
theorem sub_snoc (fs:Dk)(f:Fi)(l:Str):sub (fs++[f]) l=sub fs l++(Xd l f).toList:=by
 unfold sub;rw[List.filterMap_append]
 congr 1
theorem Rp {f:Fi}(h:f.1=[]):Xd l f=none:=by unfold Xd;rw[h]
theorem Hw {f:Fi}{a:Str}(h:f.1=[a]):Xd l f=none:=by unfold Xd;rw[h]
theorem vJ {f:Fi}{a b:Str}{r:Da}(h:f.1=a::b::r):Xd l f=if a=l then some (b::r,f.2) else none:=by unfold Xd;rw[h]
theorem vK (fs:Dk)(f:Fi):Cj (fs++[f])=Cj fs++(match f.1 with|[a]=>[(a,f.2)]|_=>[]):=by
 unfold Cj;rw[List.filterMap_append]
 congr 1
 rw[YW]
 match f.1 with
 |[]=>rfl
 |[a]=>rfl
 |a::b::r=>rfl
theorem many (fs:Dk):(Cj fs).length+((Cm fs).map fun l=>1+wt (sub fs l)).sum<=wt fs:=by
 induction fs using snoc_ind with
 |d=>exact Zg _
 |e fs f ih =>
  have same:(∀l,Xd l f=none)->∀l,sub (fs++[f]) l=sub fs l:=fun h l=>by rw[sub_snoc,h l];exact ZK _
  rw[K0,vK,j0,Zp];have o:wt [f]=f.1.length:=by unfold wt;simp
  rw[o]
  match e:f.1 with
  |[] =>
   have:=same fun l=>Rp e;rw[show(fun l=>1+wt (sub (fs++[f]) l))=fun l=>1+wt (sub fs l) from funext fun l=>by rw[this l]];show(Cj fs).length+0+((Cm fs).map fun l=>1+wt (sub fs l)).sum<=wt fs+0;lia
  |[a] =>
   have:=same fun l=>Hw e;rw[show(fun l=>1+wt (sub (fs++[f]) l))=fun l=>1+wt (sub fs l) from funext fun l=>by rw[this l]];show(Cj fs).length+1+((Cm fs).map fun l=>1+wt (sub fs l)).sum<=wt fs+1;lia
  |a::b::r =>
   show(Cj fs).length+0+((qL (Cm fs) a).map fun l=>1+wt (sub (fs++[f]) l)).sum<=wt fs+(r.length+1+1);have i:∀l,l≠a->1+wt (sub (fs++[f]) l)=1+wt (sub fs l):=fun l hl=>by
    rw[sub_snoc,vJ e,Zr<|Ey hl];show 1+wt (sub fs l++[])=_;rw[ZK]
   have ha:1+wt (sub (fs++[f]) a)=1+wt (sub fs a)+(r.length+1):=by
    rw[sub_snoc,vJ e,Zy rfl];show 1+wt (sub fs a++[(b::r,f.2)])=_;rw[K0];show 1+(wt (sub fs a)+((b::r).length+0))=_;rw[Zj];lia
   have bump:=Hx (g:=fun l=>1+wt (sub fs l)) (g':=fun l=>1+wt (sub (fs++[f]) l)) (a:=a) (c:=r.length+1) i (J3 ha) (xG fs).1;unfold qL
   split
   ·lia
   ·rename_i z;rw[Zo,Uq];have n:sub fs a=[]:=JF.mpr fun k hk=>by
     obtain⟨h0,j⟩:=wg.mp hk;refine z<|((xG fs).2 a).mpr ⟨_,j,?_⟩;cases q:k.1 with
     |nil=>exact absurd q h0
     |cons b r=>exact⟨b,r,rfl⟩
    have d:(Cm fs).map (fun l=>1+wt (sub (fs++[f]) l))=(Cm fs).map (fun l=>1+wt (sub fs l)):=Z1 fun l hl=>i l fun q=>z<|q▸hl;rw[d];show(Cj fs).length+0+(((Cm fs).map fun l=>1+wt (sub fs l)).sum+((1+wt (sub (fs++[f]) a))+0))<=_;rw[ha,n];show _+(_+(1+0+(r.length+1)+0))<=_;lia
def pieces (fs:Dk):List (Str×Dk):=(Cj fs).map (fun v=>(v.1,[([],v.2)]))++(Cm fs).map fun l=>(l,sub fs l)
theorem Kx (g:yg d fs)(f:Fi):f∈((pieces fs).flatMap fun p=>p.2.map fun k=>(p.1::k.1,k.2))↔f∈fs:=by
 rw[YC];constructor
 ·rintro⟨p,o,i⟩;obtain⟨k,hk,rfl⟩:=Zd.mp i
  rcases ZB.mp o with z|z
  ·obtain⟨v,q,rfl⟩:=Zd.mp z;rw[Zb.mp hk];exact wC.mp q
  ·obtain⟨l,hl,rfl⟩:=Zd.mp z;exact(wg.mp hk).2
 ·intro i;obtain⟨n,_⟩:=g.wN f i
  match e:f.1 with
  |[]=>exact absurd e n
  |[a] =>
   have j:f=([a],f.2):=LQ e rfl;exact⟨(a,[([],f.2)]),Ya _<|Zd.mpr ⟨(a,f.2),wC.mpr<|j▸i,rfl⟩,Zd.mpr ⟨([],f.2),Zb.mpr rfl,j.symm⟩⟩
  |a::b::r =>
   have j:f=(a::b::r,f.2):=LQ e rfl;exact⟨(a,sub fs a),ZL _<|Zd.mpr ⟨a,((xG fs).2 a).mpr ⟨f,i,b,r,e⟩,rfl⟩,Zd.mpr ⟨(b::r,f.2),wg.mpr ⟨ZU _ _,j▸i⟩,j.symm⟩⟩
theorem Pq {fs:Dk}(nd:(fs.map (·.1)).Nodup):((Cj fs).map (·.1)).Nodup:=by
 have:((Cj fs).map fun v=>[v.1]).Sublist (fs.map (·.1)):=by
  unfold Cj
  induction fs with
  |nil=>exact List.Sublist.slnil
  |cons f fs ih =>
   rw[ZE,Z5]at nd;rw[YW,ZE]
   match e:f.1 with
   |[]=>exact(ih nd.2).cons _
   |[a]=>exact(ih nd.2).cons₂ _
   |a::b::r=>exact(ih nd.2).cons _
 have:=this.nodup nd;have e:((Cj fs).map fun v=>[v.1])=((Cj fs).map (·.1)).map fun a=>[a]:=by rw[ZF];rfl
 rw[e]at this;exact Xo this
theorem XA (g:yg d fs):((pieces fs).map (·.1)).Nodup:=by
 unfold pieces;rw[Zo,ZF,ZF,Yo];refine⟨Pq g.nd,by rw[show((fun p:Str×Dk=>p.1)∘fun l=>(l,sub fs l))=id from rfl,J1];exact(xG fs).1,fun a ha b hb z=>?_⟩;subst z;obtain⟨v,i,e⟩:=Zd.mp ha;obtain⟨l,hl,rfl⟩:=Zd.mp hb;have e:v.1=l:=e;obtain⟨f,n,b,r,j⟩:=((xG fs).2 l).mp hl;have i:([v.1],v.2)∈fs:=wC.mp i;have:=g.pre _ i f n (b::r) (by rw[j,e];rfl);cases this
theorem Bw (g:yg d fs):∀p∈pieces fs,zP p.1=true/\p.2≠[]:=fun p j=>by
 rcases ZB.mp j with z|z
 ·obtain⟨v,n,rfl⟩:=Zd.mp z;exact⟨(g.wN _<|wC.mp n).2.2.1 _<|Zb.mpr rfl,ZU _ _⟩
 ·obtain⟨l,hl,rfl⟩:=Zd.mp z;obtain⟨f,i,b,r,e⟩:=((xG fs).2 l).mp hl;refine⟨(g.wN f i).2.2.1 _ (by rw[e];exact Zi ..),List.ne_nil_of_mem (a:=(b::r,f.2))<|wg.mpr ⟨ZU _ _,?_⟩⟩;have:f=(l::b::r,f.2):=LQ e rfl;exact this▸i
theorem sub_len:(sub fs l).length<=fs.length:=List.length_filterMap_le _ _
theorem qZ (fs:Dk):(Cj fs).length+(Cm fs).length<=fs.length:=by
 induction fs using snoc_ind with
 |d=>exact Zg _
 |e fs f ih =>
  rw[vK,j0,Zp,Zp]
  match e:f.1 with
  |[]=>show(Cj fs).length+0+(Cm fs).length<=fs.length+1;lia
  |[a]=>show(Cj fs).length+1+(Cm fs).length<=fs.length+1;lia
  |a::b::r =>
   show _+0+(qL (Cm fs) a).length<=_+1;unfold qL
   split
   ·lia
   ·rw[Zp];show _+0+(_+1)<=_+1;lia
theorem Ha {d e:Nat}(ok:yd S)(g:yg n fs)(hl:fs.length<=63)(x:S.length+1+wt fs<=2000)
  (H:∀l∈Cm fs,∀S,yd S->S.length+1+wt (sub fs l)<=2000->ur (e+1) S (sub fs l) (Uz d S<|sub fs l)/\(Uz d S<|sub fs l).1.length<=S.length+1+wt (sub fs l)) :
  ur (e+2) S fs (Uz (d+1) S fs)/\(Uz (d+1) S fs).1.length<=S.length+1+wt fs:=by
 have hm:=many fs;have t:=qZ fs;obtain⟨r,w⟩:=Ii (d:=e) (Cj fs) (Fo.nil ok) (fun v s=>(g.wN _<|wC.mp s).2.2.2) (by lia);have b:=HY (Cm fs) H (S:=((Cj fs).foldl Cd (S,[])).1) (Do:=((Cj fs).foldl Cd (S,[])).2) r (by lia);obtain⟨i,o⟩:=b;rw[Iq];rw[VN]at i;have p:pieces fs=(Cj fs).map (fun v=>(v.1,[(([],v.2):Fi)]))++(Cm fs).map fun l=>(l,sub fs l):=rfl;rw[←p]at i;have i:Fo (e+1) S ((Cm fs).foldl (Ci d fs)<|(Cj fs).foldl Cd (S,[])).1 ((Cm fs).foldl (Ci d fs)<|(Cj fs).foldl Cd (S,[])).2 (pieces fs):=i;have o:((Cm fs).foldl (Ci d fs)<|(Cj fs).foldl Cd (S,[])).1.length<=_:=o;generalize (Cm fs).foldl (Ci d fs) ((Cj fs).foldl Cd (S,[]))=q at i o ⊢;have u:q.2.length<=63:=by
  rw[i.len,p,Zp,Za,Za];lia
 obtain⟨j,t⟩:=i.put u (XA g) (Bw g) (by lia);exact⟨⟨j.ok,j.new,j.tree,fun f=>by rw[j.rd,Kx g],j.node⟩,by lia⟩
theorem Ic:∀(d:Nat) {S:Di} {fs:Dk},yd S->yg (d+1) fs->fs.length<=63->S.length+1+wt fs<=2000->ur (d+2) S fs (Uz (d+1) S fs)/\(Uz (d+1) S fs).1.length<=S.length+1+wt fs
 | 0,S,fs,ok,g,hl,hs=>Ha ok g hl hs fun l hl=>by
  obtain⟨f,n,b,r,j⟩:=((xG fs).2 l).mp hl;have:=(g.wN f n).2.1;rw[j,Zj,Zj]at this;lia
 |d+1,S,fs,ok,g,hl,hs=>Ha ok g hl hs fun l _ o i e=>Ic d i (g.sub l) (ZR sub_len hl) e
end An
namespace AxK
structure TO (β:Type) where
 lt:β->β->Bool
 jd:∀a b,lt a b=true->lt b a=false
 jk:∀a b c,lt b a=false->lt c b=false->lt c a=false
 jy:∀a b,lt a b=false->lt b a=false->a=b
section
variable {β γ:Type}{O:TO β}
def TO.le (O:TO β)(a b:β):Prop:=O.lt b a=false
theorem TO.refl (O:TO β)(a:β):O.le a a:=by
 show O.lt a a=false;cases h:O.lt a a with
 |false=>rfl
 |true=>exact h.symm.trans<|O.jd a a h
theorem TO.of_lt {a b:β}(h:O.lt a b=true):O.le a b:=O.jd a b h
theorem TO.trans {a b c:β}(d:O.le a b)(e:O.le b c):O.le a c:=O.jk a b c d e
def TO.nat:TO Nat:=⟨fun a b=>decide (a<b),fun a b h=>by have:=Zx h;exact Zn<|by lia,fun a b c d e=>by
 have:=Jq d;have:=Jq e;exact Zn<|by lia,fun a b d e=>by
 have:=Jq d;have:=Jq e;lia⟩
def yR (O:TO β):List β->List β->Bool
 |[],[]=>false
 |[],_::_=>true
 |_::_,[]=>false
 |a::as,b::bs=>O.lt a b||(!O.lt b a&&yR O as bs)
theorem FL (O:TO β):∀a b:List β,yR O a b=true->yR O b a=false
 |[],[],h=>nomatch h
 |[],_::_,_=>rfl
 |_::_,[],h=>nomatch h
 |a::as,b::bs,h=>by
  unfold yR at h ⊢;cases d:O.lt a b with
  |true =>
   rw[O.jd _ _ d];simp
  |false =>
   rw[d]at h;have h:O.lt b a=false/\yR O as bs=true:=by simpa using h
   rw[h.1,FL O as bs h.2];rfl
theorem FK (O:TO β):∀a b:List β,yR O a b=false->yR O b a=false->a=b
 |[],[],_,_=>rfl
 |[],_::_,h,_=>nomatch h
 |_::_,[],_,h=>nomatch h
 |a::as,b::bs,d,f=>by
  unfold yR at d f;have d:=YG.mp d;have f:=YG.mp f;have e:=O.jy _ _ d.1 f.1;have g:yR O as bs=false:=by have:=d.2;rw[f.1]at this;simpa using this
  have i:yR O bs as=false:=by have:=f.2;rw[d.1]at this;simpa using this
  rw[e,FK O as bs g i]
theorem FM (O:TO β):∀a b c:List β,yR O b a=false->yR O c b=false->yR O c a=false
 |[],[],c,_,h=>h
 |[],_::_,[],_,_=>rfl
 |[],_::_,_::_,_,_=>rfl
 |_::_,[],c,h,_=>nomatch h
 |_::_,_::_,[],_,h=>nomatch h
 |a::as,b::bs,c::cs,d,e=>by
  unfold yR at d e ⊢;have d:=YG.mp d;have e:=YG.mp e;rw[O.jk _ _ _ d.1 e.1,VI];cases q:O.lt a c with
  |true=>rfl
  |false =>
   have f:a=c:=O.jy _ _ q<|O.jk _ _ _ d.1 e.1;have g:O.lt a b=false:=by rw[f];exact e.1
   have i:O.lt b c=false:=by rw[←f];exact d.1
   have j:yR O bs as=false:=by have:=d.2;rw[g]at this;simpa using this
   have l:yR O cs bs=false:=by have:=e.2;rw[i]at this;simpa using this
   rw[FM O as bs cs j l];rfl
def TO.list (O:TO β):TO (List β):=⟨yR O,FL O,FM O,FK O⟩
def TO.by_ (O:TO β)(f:γ->β)(h:∀a b,f a=f b->a=b):TO γ:=⟨fun a b=>O.lt (f a)<|f b,fun a b=>O.jd _ _,fun a b c=>O.jk _ _ _,fun a b d e=>h a b<|O.jy _ _ d e⟩
end
open PySem PySem.W PyProof.Rows
def run {b:Type}(lt:Nat->Nat->Bool):KasT b->b
 | .ret a=>a
 | .ask i j k=>run lt<|k<|lt i j
theorem run_bind {b d:Type}{f:b->KasT d}:∀t:KasT b,run lt (t.bind f)=run lt (f<|run lt t)
 | .ret _=>rfl
 | .ask i j k=>run_bind<|k<|lt i j
section
variable {β:Type}{O:TO β}{key:Nat->β}
def kn (key:Nat->β)(p:Array Nat)(i:Nat):β:=key<|p.getD i 0
def Up (O:TO β)(key:Nat->β)(p:Array Nat)(n:Nat):Prop:=∀i j,i<=j->j<n->O.le (kn key p i) (kn key p j)
def Down (O:TO β)(key:Nat->β)(p:Array Nat)(n:Nat):Prop:=∀i j,i<=j->j<n->O.le (kn key p j) (kn key p i)
theorem FD {p q:Array Nat}{i j:Nat}(h:p[i]?=q[j]?):kn key p i=kn key q j:=by
 unfold kn;rw[Z3,Z3,h]
theorem Up.snoc {n:Nat}(d:1<=n)(h:Up O key p n)(hl:O.le (kn key p<|n-1)<|kn key p n):Up O key p (n+1):=fun i j b e=>by
 by_cases z:j<n
 ·exact h i j b z
 ·have z:j=n:=by lia
  subst z
  by_cases z:i=j
  ·subst z;exact O.refl _
  ·exact TO.trans (h i (j-1) (by lia)<|by lia) hl
theorem Down.snoc {n:Nat}(d:1<=n)(h:Down O key p n)(hl:O.le (kn key p n)<|kn key p<|n-1):Down O key p (n+1):=fun i j b e=>by
 by_cases z:j<n
 ·exact h i j b z
 ·have z:j=n:=by lia
  subst z
  by_cases z:i=j
  ·subst z;exact O.refl _
  ·exact TO.trans hl (h i (j-1) (by lia)<|by lia)
theorem one_up (p:Array Nat):Up O key p 1:=fun i j b d=>by
 have:i=j:=by lia
 subst this;exact O.refl _
theorem HM:∀(f n:Nat),1<=n->Up O key p n->∃m,run (fun i j=>O.lt (key i)<|key j) (kas_asc p f n)=m/\n<=m/\m<=n+f/\Up O key p m/\(m=n+f\/O.lt (kn key p m) (kn key p<|m-1)=true)
 | 0,n,_,h=>⟨n,rfl,Zg _,Zg _,h,.inl rfl⟩
 |f+1,n,h1,h=>by
  unfold kas_asc;show∃m,run _ (if O.lt (kn key p n) (kn key p<|n-1)=true then KasT.ret n else kas_asc p f (n+1))=m/\_;cases q:O.lt (kn key p n) (kn key p<|n-1) with
  |true=>exact⟨n,by rw[Zy rfl];rfl,Zg _,by lia,h,.inr q⟩
  |false =>
   rw[Zr<|by decide];obtain⟨m,e,a,b,c,d⟩:=HM f (n+1) (by lia)<|h.snoc h1 q;exact⟨m,e,by lia,by lia,c,d.imp (fun z=>by lia) id⟩
theorem KG {p:Array Nat}{i j:Nat}(b:j<=p.size)(k:Nat):kn key (kas_rev p i j) k=if i<=k/\k<j then kn key p (i+j-1-k) else kn key p k:=by
 have e:=getElem?_mirror_all (i:=i) b k;unfold kas_rev
 by_cases z:i<=k/\k<j
 ·rw[Zy z]at e ⊢;exact FD e
 ·rw[Zr z]at e ⊢;exact FD e
theorem Gb {p:Array Nat}{i j:Nat}(b:j<=p.size)(h:∀k,i<=k->k<j->kn key p k=kn key p (j-1))(k:Nat):kn key (kas_rev p i j) k=kn key p k:=by
 rw[KG b]
 split
 ·rw[h _ (by lia)<|by lia,h k (by lia)<|by lia]
 ·rfl
theorem xM (p:Array Nat)(i j:Nat):(kas_rev p i j).Perm p:=mirror_perm _ _ _ _
theorem Down.m7 (h:Down O key p n)(e:∀k,kn key q k=kn key p k):Down O key q n:=fun i j b d=>by
 rw[e,e];exact h i j b d
def Flat (key:Nat->β)(p:Array Nat)(n q:Nat):Prop:=q+1<=n/\∀i,n-(q+1)<=i->i<n->kn key p i=kn key p (n-1)
theorem Go {n:Nat}(h:1<=n):Flat key p n 0:=⟨h,fun i b d=>by
 have:i=n-1:=by lia
 rw[this]⟩
theorem Ih:∀(f:Nat) (p:Array Nat) (n q:Nat),1<=n->n+f<=p.size->Down O key p n->Flat key p n q ->
  ∃p' n' q',run (fun i j=>O.lt (key i)<|key j) (kas_desc f p n q)=(p',n',q')/\p'.Perm p/\n<=n'/\n'<=n+f/\Down O key p' n'/\Flat key p' n' q'
 | 0,p,n,q,_,_,h,hq=>⟨p,n,q,rfl,Array.Perm.refl _,Zg _,Zg _,h,hq⟩
 |f+1,p,n,q,h1,hz,h,hq=>by
  unfold kas_desc;show∃p' n' q',run (fun i j=>O.lt (key i)<|key j) (if O.lt (kn key p n) (kn key p<|n-1)=true then(if q>0 then kas_desc f (kas_rev p (n-(q+1)) n) (n+1) 0 else kas_desc f p (n+1) 0)
   else .ask (p.getD (n-1) 0) (p.getD n 0) fun d=>if d=true then .ret (p,n,q) else kas_desc f p (n+1) (q+1))=(p',n',q')/\_
  cases c:O.lt (kn key p n) (kn key p<|n-1) with
  |true =>
   rw[Zy rfl];have hd:=h.snoc h1<|TO.of_lt c
   by_cases z:q>0
   ·rw[Zy z];have o:=Gb (key:=key) (p:=p) (i:=n-(q+1)) (j:=n) (by lia) hq.2;obtain⟨p',n',q',e,a,b,d,g,k⟩:=Ih f (kas_rev p (n-(q+1)) n) (n+1) 0 (by lia) (by rw[(xM p _ _).size_eq];lia) (hd.m7 o) (Go<|by lia);exact⟨p',n',q',e,a.trans<|xM _ _ _,by lia,by lia,g,k⟩
   ·rw[Zr z];obtain⟨p',n',q',e,a,b,d,g,k⟩:=Ih f p (n+1) 0 (by lia) (by lia) hd (Go<|by lia);exact⟨p',n',q',e,a,by lia,by lia,g,k⟩
  |false =>
   rw[Zr<|by decide];show∃p' n' q',run (fun i j=>O.lt (key i)<|key j) (if O.lt (kn key p<|n-1) (kn key p n)=true then KasT.ret (p,n,q) else kas_desc f p (n+1) (q+1))=(p',n',q')/\_;cases d:O.lt (kn key p<|n-1) (kn key p n) with
   |true=>exact⟨p,n,q,by rw[Zy rfl];rfl,Array.Perm.refl _,Zg _,by lia,h,hq⟩
   |false =>
    rw[Zr<|by decide];have eq:kn key p n=kn key p (n-1):=O.jy _ _ c d;have o:Flat key p (n+1) (q+1):=⟨by have:=hq.1;lia,fun i r s=>by
     rw[show n+1-1=n by lia]
     by_cases z:i=n
     ·rw[z]
     ·rw[eq];exact hq.2 i (by lia)<|by lia⟩
    obtain⟨p',n',q',e,a,b,g,k,l⟩:=Ih f p (n+1) (q+1) (by lia) (by lia) (h.snoc h1 d) o;exact⟨p',n',q',e,a,by lia,by lia,k,l⟩
theorem HA {p:Array Nat}{n Du:Nat}(d:1<=n)(hn:n<=Du)(hz:Du<=p.size)(h:Down O key p n) :
  ∃m p',run (fun i j=>O.lt (key i)<|key j) (kas_tail3 n Du p)=(m,p')/\p'.Perm p/\1<=m/\m<=Du/\Up O key p' m:=by
 have g:Up O key (kas_rev p 0 n) n:=fun i j f l=>by
  rw[KG<|by lia,KG<|by lia,Zy<|by lia,Zy<|by lia];exact h _ _ (by lia) (by lia)
 obtain⟨m,e,a,b,c,_⟩:=HM (Du-n) n d g;refine⟨m,kas_rev p 0 n,?_,xM _ _ _,by lia,by lia,c⟩;unfold kas_tail3;rw[run_bind,e];rfl
theorem XV {p:Array Nat}{n Du:Nat}(hn:n+1<=Du)(hz:Du<=p.size)(h:Down O key p<|n+1) :
  ∃m p',run (fun i j=>O.lt (key i)<|key j) (kas_descPart n Du p)=(m,p')/\p'.Perm p/\1<=m/\m<=Du/\Up O key p' m:=by
 obtain⟨p',g,l,e,a,b,c,d,v⟩:=Ih (Du-(n+1)) p (n+1) 0 (by lia) (by lia) h (Go<|by lia);have u:Du<=p'.size:=by rwa[a.size_eq]
 unfold kas_descPart;rw[run_bind,e];show∃m f,run _ (if l>0 then kas_tail3 g Du (kas_rev p' (g-(l+1)) g) else kas_tail3 g Du p')=(m,f)/\_
 by_cases z:l>0
 ·rw[Zy z];have w:=Gb (key:=key) (p:=p') (i:=g-(l+1)) (j:=g) (by lia) v.2;obtain⟨m,f,t,o,q,r,s⟩:=HA (Du:=Du) (by lia) (by lia) (by rwa[(xM p' _ _).size_eq]) (d.m7 w);exact⟨m,f,t,(o.trans<|xM _ _ _).trans a,q,r,s⟩
 ·rw[Zr z];obtain⟨m,f,t,o,q,r,s⟩:=HA (Du:=Du) (by lia) (by lia) u d;exact⟨m,f,t,o.trans a,q,r,s⟩
theorem OI {p:Array Nat}{Du:Nat}(A:1<=Du)(hz:Du<=p.size) :
  ∃m p',run (fun i j=>O.lt (key i)<|key j) (kas_count Du p)=(m,p')/\p'.Perm p/\1<=m/\m<=Du/\Up O key p' m:=by
 obtain⟨n,e,a,b,c,d⟩:=HM (O:=O) (key:=key) (p:=p) (Du-1) 1 (Zg _)<|one_up p;unfold kas_count;rw[run_bind,e]
 by_cases z:n=Du
 ·rw[Zy<|by simpa using z];exact⟨n,p,rfl,Array.Perm.refl _,a,by lia,c⟩
 rw[Zr<|by simpa using z];have l:O.lt (kn key p n) (kn key p<|n-1)=true:=d.resolve_left (by lia)
 by_cases g:n>1
 ·rw[Zy g];show∃m p',run _ (if O.lt (kn key p 0) (kn key p<|n-1)=true then KasT.ret (n,p) else kas_descPart n Du (kas_rev p 0 n))=(m,p')/\_;cases q:O.lt (kn key p 0) (kn key p<|n-1) with
  |true =>
   rw[Zy rfl];exact⟨n,p,rfl,Array.Perm.refl _,a,by lia,c⟩
  |false =>
   rw[Zr<|by decide];have f:∀k,0<=k->k<n->kn key p k=kn key p (n-1):=fun k _ hk =>
    O.jy _ _ (TO.trans q<|c 0 k (by lia) hk) (c k (n-1) (by lia)<|by lia)
   have y:=Gb (key:=key) (p:=p) (i:=0) (j:=n) (by lia) f;have w:Down O key p n:=fun i j o r=>by
    rw[f i (by lia)<|by lia,f j (by lia) r];exact O.refl _
   obtain⟨m,p',x,s,t,u,v⟩:=XV (O:=O) (key:=key) (p:=kas_rev p 0 n) (n:=n) (Du:=Du) (by lia) (by rwa[(xM p _ _).size_eq]) ((w.snoc a<|TO.of_lt l).m7 y);exact⟨m,p',x,s.trans<|xM _ _ _,t,u,v⟩
 ·rw[Zr g];have g:n=1:=by lia
  subst g;exact XV (by lia) hz (Down.snoc (Zg _) (fun i j o r=>by
   have:i=j:=by lia
   subst this;exact O.refl _)<|TO.of_lt l)
theorem Gc (d:Up O key p k):∀(f l r:Nat),l<=r->r<=k->r-l<=f->(∀i,i<l->O.le (kn key p i) (kn key p k))->(∀i,r<=i->i<k->O.lt (kn key p k) (kn key p i)=true) ->
  ∃m,run (fun i j=>O.lt (key i)<|key j) (kas_place p k f l r)=m/\m<=k/\(∀i,i<m->O.le (kn key p i) (kn key p k))/\(∀i,m<=i->i<k->O.lt (kn key p k) (kn key p i)=true)
 | 0,l,r,h1,h2,h3,h4,h5=>⟨l,rfl,by lia,h4,fun i e b=>h5 i (by lia) b⟩
 |f+1,l,r,h1,h2,h3,h4,h5=>by
  unfold kas_place
  by_cases z:l≥r
  ·rw[Zy z];exact⟨l,rfl,by lia,h4,fun i e b=>h5 i (by lia) b⟩
  rw[Zr z];show∃m,run _ (if O.lt (kn key p k) (kn key p<|(l+r) / 2)=true then kas_place p k f l ((l+r) / 2) else kas_place p k f ((l+r) / 2+1) r)=m/\_;cases q:O.lt (kn key p k) (kn key p<|(l+r) / 2) with
  |true =>
   rw[Zy rfl];refine Gc d f l ((l+r) / 2) (by lia) (by lia) (by lia) h4 fun i e b=>?_;cases w:O.lt (kn key p k) (kn key p i) with
   |true=>rfl
   |false =>
    have:=O.jk _ _ _ (d _ _ e b) w;rw[q]at this;exact this.symm
  |false =>
   rw[Zr<|by decide];exact Gc d f ((l+r) / 2+1) r (by lia) (by lia) (by lia) (fun i e=>TO.trans (d i ((l+r) / 2) (by lia)<|by lia) q) h5
theorem Bi {p:Array Nat}{k l:Nat}(hk:k<p.size)(hl:l<=k)(i:Nat):kn key (bubble p k<|k-l) i=if i=l then kn key p k else if l<i/\i<=k then kn key p (i-1) else kn key p i:=by
 have e:=getElem?_bubble hk (k-l) (by lia) i;rw[show k-(k-l)=l by lia]at e
 by_cases z:i=l
 ·rw[Zy z]at e ⊢;exact FD e
 ·rw[Zr z]at e ⊢
  by_cases z:l<i/\i<=k
  ·rw[Zy z]at e ⊢;exact FD e
  ·rw[Zr z]at e ⊢;exact FD e
theorem OE:∀(f:Nat) (p:Array Nat) (k:Nat),k+f<=p.size->Up O key p k->∃p',run (fun i j=>O.lt (key i)<|key j) (kas_bin f p k)=p'/\p'.Perm p/\Up O key p' (k+f)
 | 0,p,k,_,h=>⟨p,rfl,Array.Perm.refl _,h⟩
 |f+1,p,k,hz,h=>by
  obtain⟨m,e,a,b,c⟩:=Gc h k 0 k (by lia) (Zg _) (by lia) (fun i q=>by lia) (fun i s t=>by lia);have o:Up O key (bubble p k<|k-m) (k+1):=fun i j n r=>by
   rw[Bi (by lia) a,Bi (by lia) a]
   repeat' split
   all_goals first
    |(exfalso;lia)
    |exact O.refl _
    |exact b _ (by lia)
    |exact TO.of_lt (c _ (by lia)<|by lia)
    |exact h _ _ (by lia) (by lia)
  obtain⟨p',l,d,g⟩:=OE f (bubble p k<|k-m) (k+1) (by rw[bubble_size];lia) o;unfold kas_bin;rw[run_bind,e];exact⟨p',l,d.trans<|bubble_perm _ _ _,by rw[show k+(f+1)=k+1+f by lia];exact g⟩
theorem SJ {n:Nat}(s:1<=n):∃p',run (fun i j=>O.lt (key i)<|key j) (kas_sort n)=p'/\p'.Perm (Le<|EM n)/\Up O key p' n:=by
 have l:(Le<|EM n).size=n:=by simp
 obtain⟨m,p',e,a,b,c,d⟩:=OI (O:=O) (key:=key) (p:=Le<|EM n) (Du:=n) s<|J3 l.symm;unfold kas_sort;rw[run_bind,e];show∃f,run _ (if m<n then kas_bin (n-max m 1) p' (max m 1) else KasT.ret p')=f/\_;have r:max m 1=m:=by lia
 rw[r]
 by_cases z:m<n
 ·rw[Zy z];obtain⟨f,q,o,g⟩:=OE (n-m) p' m (by rw[a.size_eq,l];lia) d;exact⟨f,q,o.trans a,by rw[show m+(n-m)=n by lia]at g;exact g⟩
 ·rw[Zr z];have z:m=n:=by lia
  rw[z]at d;exact⟨p',rfl,a,d⟩
end
def Asks (n:Nat){d:Type}(R:d->Prop):KasT d->Prop
 | .ret a=>R a
 | .ask i j k=>i<n/\j<n/\∀b,Asks n R<|k b
theorem Asks.bind {d l:Type}{R:d->Prop}{e:l->Prop}{f:d->KasT l}(g:∀a,R a->Asks n e (f a)):∀{t:KasT d},Asks n R t->Asks n e (t.bind f)
 | .ret a,h=>g a h
 | .ask i j k,h=>⟨h.1,h.2.1,fun b=>Asks.bind g<|h.2.2 b⟩
theorem Asks.wp {n:Nat}{d:Type}{R:d->Prop}{b:Nat->Nat->(Bool->Dh)->Dh}{lt:Nat->Nat->Bool}{s:Em}(e:∀i j,i<n->j<n->∀C:Bool->Dh,C (lt i j) s->b i j C s){Q:d->Dh} :
  ∀{t:KasT d},Asks n R t->Q (run lt t) s->t.kasWp b Q s
 | .ret _,_,q=>q
 | .ask i j k,h,q=>e i j h.1 h.2.1 _<|Asks.wp e (h.2.2 _) q
def Bd (n:Nat)(p:Array Nat):Prop:=∀i:Nat,p.getD i 0<n
theorem Bd.perm {q:Array Nat}(h:Bd n p)(e:q.Perm p):Bd n q:=fun i=>by
 rw[Z3]
 rcases Jw i q.size with z|z
 ·rw[Ui q i z];have hm:q[i]∈p:=e.mem_iff.mp<|Array.getElem_mem z;obtain⟨j,d,b⟩:=Array.getElem_of_mem hm;have:=h j;rw[Z3,Ui p j d,b]at this;exact this
 ·rw[JL z];have:=h p.size;rw[Z3,JL<|Zg _]at this;exact this
theorem IC (h:Bd n p):∀f m:Nat,Asks n (fun _=>True) (kas_asc p f m)
 | 0,m=>trivial
 | f+1,m=>⟨h _,h _,fun c=>by
  show Asks n _ (if c=true then KasT.ret m else kas_asc p f (m+1))
  split
  ·trivial
  ·exact IC h f (m+1)⟩
theorem kW:∀(f:Nat) (p:Array Nat) (m q:Nat),Bd n p->Asks n (fun r=>Bd n r.1) (kas_desc f p m q)
 | 0,p,m,q,h=>h
 | f+1,p,m,q,h=>⟨h _,h _,fun c=>by
  cases c with
  |true =>
   show Asks n _ (if q>0 then kas_desc f (kas_rev p (m-(q+1)) m) (m+1) 0 else kas_desc f p (m+1) 0)
   split
   ·exact kW f _ _ _ (h.perm<|xM _ _ _)
   ·exact kW f _ _ _ h
  |false =>
   refine⟨h _,h _,fun d=>?_⟩;cases d with
   |true=>exact h
   |false=>exact kW f _ _ _ h⟩
theorem GC {m r:Nat}(h:Bd n p):Asks n (fun r=>Bd n r.2) (kas_tail3 m r p):=by
 have b:Bd n (kas_rev p 0 m):=h.perm<|xM _ _ _;unfold kas_tail3;refine Asks.bind (fun a _=>?_)<|IC b _ _;exact b
theorem k7 {m r:Nat}(h:Bd n p):Asks n (fun r=>Bd n r.2) (kas_descPart m r p):=by
 refine Asks.bind (fun a ha=>?_)<|kW _ _ _ _ h;show Asks n _ (if a.2.2>0 then _ else _)
 split
 ·exact GC (Bd.perm ha<|xM _ _ _)
 ·exact GC ha
theorem HS {r:Nat}(h:Bd n p):Asks n (fun r=>Bd n r.2) (kas_count r p):=by
 refine Asks.bind (fun a _=>?_)<|IC h _ _;show Asks n _ (if(a==r)=true then _ else _)
 split
 ·exact h
 ·split
  ·refine⟨h _,h _,fun c=>?_⟩;cases c with
   |true=>exact h
   |false=>exact k7<|h.perm<|xM _ _ _
  ·exact k7 h
theorem vB {k:Nat}(h:Bd n p):∀f l r:Nat,Asks n (fun _=>True) (kas_place p k f l r)
 | 0,l,r=>trivial
 |f+1,l,r=>by
  unfold kas_place
  split
  ·trivial
  ·refine⟨h _,h _,fun c=>?_⟩;cases c with
   |true=>exact vB h f _ _
   |false=>exact vB h f _ _
theorem Ff:∀(f:Nat) (p:Array Nat) (k:Nat),Bd n p->Asks n (fun r=>Bd n r) (kas_bin f p k)
 | 0,p,k,h=>h
 |f+1,p,k,h=>Asks.bind (fun l _=>Ff f _ _<|h.perm<|bubble_perm _ _ _) (vB h _ _ _)
theorem Oi {n:Nat}(b:1<=n):Asks n (fun r=>Bd n r) (kas_sort n):=by
 have h:Bd n (Le<|EM n):=fun i=>by
  rw[Z3,Vy]
  rcases Jw i n with z|z
  ·rwa[VR z]
  ·rw[Yh<|by rwa[Yv]];exact b
 refine Asks.bind (fun a ha=>?_)<|HS h;show Asks n _ (if a.1<n then _ else _)
 split
 ·exact Ff _ _ _ ha
 ·exact ha
end AxK
namespace L2
open PySem PyProof.Rows
mutual
def WA:Ek->Ek->Bool->Prop
 | .int a,.int b,r=>r=decide (a<b)
 | .str a,.str b,r=>r=decide (a.cps.toList<b.cps.toList)
 | .tuple xs,.tuple ys,r=>SU xs ys r
 |_,_,_=>False
def SU:Df->Df->Bool->Prop
 |[],ys,r=>r=decide (0<ys.length)
 |_::_,[],r=>r=false
 |x::xs,y::ys,r=>(EJ x y=true/\SU xs ys r)\/(EJ x y=false/\WA x y r)
end
section
variable {prog:Ej}{w:Ep}
def K1 (prog:Ej)(w:Ep)(A:ED)(r:Bool)(b:Bool)(s:Em):List (Eh×Eh)->Prop
 |[]=>b=r
 |p::l=>(∀(Q:Bool->Dh) (E:Eh->Dh),Q true s->El (Es prog w) A (eqBool p.1 p.2) Q E s)/\K1 prog w A r b s l \/
  (∀(Q:Bool->Dh) (E:Eh->Dh),Q false s->El (Es prog w) A (eqBool p.1 p.2) Q E s) /\
  (∀(Q:Eh->Dh) (E:Eh->Dh),Q (.bool r) s->El (Es prog w) A (richCompare .Lt p.1 p.2) Q E s)
theorem G0 {A:ED}{E:Eh->Dh}{s:Em}{a b:Ei}{q f:Obj}{xs ys:Array Eh}{x y:Nat}{r:Bool}{P:Fin->Dh}
  (p:s.heap.get? a=some q) (n:q.data=.seq xs x) (e:s.heap.get? b=some f) (l:f.cls=.type "tuple") (o:f.data=.seq ys y)
  (t:K1 prog w A r (decide (xs.size<ys.size)) s (xs.toList.zip ys.toList)) (h:P (.done<|.ret<|.bool r) s) :
  El (Es prog w) A (Builtin.«tuple.__lt__» ⟨[.ref a,.ref b],[]⟩) P E s:=by
 have i:s.TypeIs (.ref b) "tuple":=⟨f,e,l⟩;show El _ _ (isInstance (.ref b) (.type "tuple")>>=_) _ _ s;refine Q9<|Ji i isSubtype_tuple_tuple ?_;simp only[V6,Yy,JO];refine Q9<|VT p n<|Q9<|VT e o<|Q9 ?_;refine Ub _ (fun d c g=>c.1=none/\g=s/\K1 prog w A r (decide (xs.size<ys.size)) s d) _ ?_ ?_ _ _ ⟨rfl,rfl,t⟩
 ·rintro⟨u,v⟩ d c g ⟨j,rfl,ha⟩
  rcases ha with⟨h1,h2⟩|⟨h1,h2⟩
  ·refine Q9 (h1 _ _ ?_);simp only[V6,Yy,JO];exact Zh ⟨rfl,rfl,h2⟩
  ·refine Q9 (h1 _ _ ?_);simp only[Bool.not_false,V5];refine Q9<|JK<|Q9<|h2 _ _<|Q9<|Zh<|Zh ?_;exact Zh h
 ·rintro⟨z,B⟩ g ⟨j,rfl,ha⟩;simp only at j;subst j;refine Zh ?_;have ha:decide (xs.size<ys.size)=r:=ha;show P (.done<|.ret<|.bool<|decide (xs.size<ys.size)) g;rwa[ha]
def Ou (prog:Ej)(w:Ep)(d:Ek):Prop:=∀(e:Ek) (r:Bool) (A:ED) (s:Em) (a b:Eh) (f bs:Dd),Reads s.heap a d f->Reads s.heap b e bs->d.canLay0=true->e.canLay0=true->A.units+min d.depth e.depth<Lj->WA d e r ->
  ∀(Q:Eh->Dh) (E:Eh->Dh),Q (.bool r) s->El (Es prog w) A (richCompare .Lt a b) Q E s
def Fb (prog:Ej)(w:Ep)(xs:Df):Prop:=∀(b:Df) (r:Bool) (A:ED) (s:Em) (e d:Db) (f bs:Dd),LL s.heap e xs f->LL s.heap d b bs->Ez xs=true->Ez b=true->A.units+min (EF xs) (EF b)<Lj->SU xs b r ->
  ∀k:Nat,K1 prog w A r (decide (k+e.length<k+d.length)) s (e.zip d)
theorem N3 (i:Int):Ou prog w (.int i):=by
 intro e r A s a b g bs d f _ _ _ h Q E q;cases e with
 |int j =>
  cases d;cases f;cases(show r=_ from h);exact(lt_int q:El _ _ (EY .Lt _ _) _ _ _)
 |_=>exact EE h
theorem N4 (i:Str):Ou prog w (.str i):=by
 intro e r A s a b g bs d f _ _ _ h Q E q;cases e with
 |str j =>
  cases d;cases f;cases(show r=_ from h);exact(lt_str q:El _ _ (EY .Lt _ _) _ _ _)
 |_=>exact EE h
theorem N5 (g:Fb prog w xs):Ou prog w (.tuple xs):=by
 intro e r A s a b l bs i j ha hb f h Q E q;cases e with
 |tuple ys =>
  cases i with
  |tuple h1 h2 h3 h4 =>
   cases j with
   |tuple k1 k2 k3 k4 =>
    have d:=g ys r A.in1 s _ _ _ _ h4 k4 ha hb (SeqAt.room_in f) h 0;rw[Nat.zero_add,Nat.zero_add,ZO,ZO]at d;exact wpAny_richCompare_same_room (op:=.Lt) ⟨_,h1,h2⟩ ⟨_,k1,k2⟩ F.slot_tuple_lt
     (Yg F.slot_tuple_lt ⟨_,h1,h2⟩ F.entry_tuple_lt (G0 h1 h3 k1 k2 k3 (r:=r) d ⟨_,rfl,(fun e=>nomatch e),q⟩)<|F.args_tuple_lt_2 _ _) (SeqAt.room_here f)
 |_=>exact EE h
theorem R5:Fb prog w []:=by
 intro g r A s j b i bs d f _ _ _ h k;cases d;have e:b.length=g.length:=SeqAt.ReadsAll.length _ _ _ f;rw[List.zip_nil_left];show decide (k+0<k+b.length)=r;rw[show r=_ from h,e];exact VF.mpr (by lia)
theorem Po (t:Ou prog w x)(z:Fb prog w xs):Fb prog w (x::xs):=by
 intro g r A s l j D bs o p B C n h k;cases g with
 |nil =>
  cases p;cases o;rw[List.zip_nil_right];show decide (k+_<k+0)=r;rw[show r=_ from h];exact Zn (by lia)
 |cons y g =>
  have b:x.canLay0=true/\Ez xs=true:=by simpa[Ez] using B
  have d:y.canLay0=true/\Ez g=true:=by simpa[Ez] using C
  have f:A.units+min x.depth y.depth<cLine:=SeqAt.room_head n;have i:A.units+min (EF xs) (EF g)<cLine:=SeqAt.room_tail n;cases o with
  | @cons v l _ _ _ _ p1 p2 =>
   cases p with
   | @cons u j _ _ _ _ q1 q2 =>
    rw[List.zip_cons_cons];have h:(EJ x y=true/\SU xs g r)\/(EJ x y=false/\WA x y r):=h
    rcases h with⟨e,h⟩|⟨e,h⟩
    ·refine .inl ⟨fun Q E q=>LS prog w A E s _ _ _ _ _ _ Q p1 q1 b.1 d.1 f<|by rwa[e],?_⟩;have F:=z g r A s _ _ _ _ p2 q2 b.2 d.2 i h<|k+1;rwa[Zj,Zj,show k+(l.length+1)=k+1+l.length by lia,show k+(j.length+1)=k+1+j.length by lia]
    ·exact .inr ⟨fun Q E q=>LS prog w A E s _ _ _ _ _ _ Q p1 q1 b.1 d.1 f<|by rwa[e],fun Q E q=>t y r A s _ _ _ _ p1 q1 b.1 d.1 f h Q E q⟩
mutual
theorem Pk:∀d:Ek,Ou prog w d
 | .int i=>N3 i
 | .str i=>N4 i
 | .tuple xs=>N5<|Pl xs
 | .none=>fun e r A s a b f bs g j _ _ _ h=>EE h
 | .bool _=>fun e r A s a b f bs g j _ _ _ h=>EE h
 | .list _=>fun e r A s a b f bs g j _ _ _ h=>EE h
 | .dict _=>fun e r A s a b f bs g j _ _ _ h=>EE h
theorem Pl:∀xs:Df,Fb prog w xs
 |[]=>R5
 |x::xs=>Po (Pk x)<|Pl xs
end
end
end L2
namespace L2
open PySem PySem.Spec PyProof.Rows PySem.W AxK
section
variable {prog:Ej}{w:Ep}{A:ED}{E:Eh->Dh}{s:Em}
theorem KK {a:Ei}{vs:Db}{n:Nat}{κ:SortKind}{lt:Nat->Nat->Bool}{P:PySem.Fin->Dh}(y:s.heap.get? a=some (Li "list" vs.toArray n))(z:vs.length<64)
  (hk:2<=vs.length->∀s1:Em,(∀b o,b≠a->s.heap.get? b=some o->s1.heap.get? b=some o)->(∀(Q:SortKind->Dh) (E':Eh->Dh),Q κ s1->El (Es prog w) A (keyKind' vs.toArray) Q E' s1) /\ ∀i j,i<vs.length->j<vs.length->∀C:Bool->Dh,C (lt i j) s1->kas_ask prog w A κ vs i j C s1)
  (h:∀p:Array Nat,(vs.length<2/\p=Le (EM vs.length))\/(2<=vs.length/\p=run lt (kas_sort vs.length))->P (.done<|.ret .none) { s with heap:=sortedHeap s.heap a vs (Le<|p.toList.map fun i=>vs.getD i EC) }) :
  El (Es prog w) A (Builtin.«list.sort» ⟨[.ref a],[]⟩) P E s:=by
 have ha:a<s.heap.objs.size:=Zu y;have R:=EW s.heap a<|Lc fun _=>(#[]:Array Eh);obtain⟨n1,u⟩:∃I,(s.heap.update a<|Lc fun _=>(#[]:Array Eh)).get? a=some (Li "list" #[] I):=⟨_,get?_update_seq y fun _=>#[]⟩;have f:(((s.heap.update a<|Lc fun _=>(#[]:Array Eh)).push (Li "tuple" vs.toArray 0)).push (Li "list" #[] 0)).get? a=some (Li "list" #[] n1):=Zc _<|Zc _ u;have keep:∀b o,b≠a->s.heap.get? b=some o->(((s.heap.update a<|Lc fun _=>(#[]:Array Eh)).push (Li "tuple" vs.toArray 0)).push (Li "list" #[] 0)).get? b=some o:=fun b o hb q =>
  Zc _ (Zc _<|by rwa[Heap.get?_update_ne _ _ _ _ hb])
 have d:vs.toArray.size=vs.length:=by simp
 rw[list_sort_plain];refine Q9 (listItems_at y rfl<|Q9<|listUpdate_at y rfl (Q9<|seqEpoch_at u rfl<|Q9<|wpAny_newTuple (Q9<|V7 (Yb ?_)<|ZN _) (by show vs.length<=_;rw[Yp];lia)) (by rw[ZD,Yp];lia)<|ZN _);show El (Es prog w) A _ P E { s with heap:=((s.heap.update a<|Lc fun _=>#[]).push<|Li "tuple" vs.toArray 0).push (Li "list" #[] 0) };dsimp only
 by_cases K:vs.length<2
 ·have t:=h (Le<|EM vs.length)<|.inl ⟨K,rfl⟩;have J:(Le<|(Le<|EM vs.length).toList.map fun i=>vs.getD i EC)=(vs.toArray.zip vs.toArray).map (·.2):=by
   have e:=kas_range<|vs.toArray.zip vs.toArray;rw[show(vs.toArray.zip vs.toArray).size=vs.length by simp]at e;exact(kat_snds (ks:=vs) (vs:=vs) (st:=SortSt.mk' general' (vs.toArray.zip vs.toArray) #[] 7 none) rfl e.symm).symm
  rw[J]at t;rw[Zy<|by rwa[d],Zy<|by rwa[d]];refine Q9<|Zh ?_;rw[StateT.run_pure];refine Q9<|Zh ?_;dsimp only;refine Q9 (seqEpoch_at f rfl<|Q9<|listUpdate_at f rfl ?_ (ZN _) (by rw[Array.size_map,Array.size_zip,d,Nat.min_self,Yp];lia));simp only[bne_self_eq_false,Yy,JO];exact Zh t
 ·have r:2<=vs.length:=by lia
  rw[Zr<|by rwa[d],Zr<|by rwa[d]];obtain⟨N,O⟩:=hk r { s with heap:=((s.heap.update a<|Lc fun _=>(#[]:Array Eh)).push (Li "tuple" vs.toArray 0)).push (Li "list" #[] 0) } keep;refine Q9<|N _ _ ?_;have l:(kas_sort vs.length).kasWp (kas_ask prog w A κ vs) (fun p x=>p=run lt (kas_sort vs.length)/\x={ s with heap:=((s.heap.update a<|Lc fun _=>(#[]:Array Eh)).push (Li "tuple" vs.toArray 0)).push (Li "list" #[] 0) })
    { s with heap:=((s.heap.update a<|Lc fun _=>(#[]:Array Eh)).push (Li "tuple" vs.toArray 0)).push (Li "list" #[] 0) }:=(Oi<|by lia).wp O ⟨rfl,rfl⟩
  refine Q9 (Yr (kat_run (Q:=fun g x=>arrOf g=(run lt<|kas_sort vs.length).map (kas_item<|vs.toArray.zip vs.toArray)/\failedOf g=none/\(run lt<|kas_sort vs.length).size=vs.length/\x={ s with heap:=((s.heap.update a<|Lc fun _=>(#[]:Array Eh)).push (Li "tuple" vs.toArray 0)).push (Li "list" #[] 0) }) rfl r z (fun S g x D F G H=>by obtain⟨rfl,rfl⟩:=H;exact⟨F,G,D,rfl⟩) l) ?_ fun _ _ e=>e)
  rintro⟨⟨⟩,g⟩ x ⟨B,L,M,rfl⟩;dsimp only;have v:=kat_snds rfl B;rw[v];refine Q9 (seqEpoch_at f rfl<|Q9<|listUpdate_at f rfl ?_ (ZN _) (by rw[ZD,Za,ZO,M,Yp];lia));rw[L];simp only[bne_self_eq_false,Yy,JO];exact Zh<|h _<|.inr ⟨r,rfl⟩
def Gi (T:String):Ek->Prop
 | .tuple (.int _::_)=>T="int"
 | .tuple (.str _::_)=>T="str"
 | .tuple (.tuple _::_)=>T="tuple"
 |_=>False
def Tk (h h':EB)(d:Ek):Prop:=∀(v:Eh) (b:Dd),d.canLay0=true->Reads h v d b->Reads h' v d b
def RC (h h':EB)(ds:Df):Prop:=∀(d:Db) (b:Dd),Ez ds=true->LL h d ds b->LL h' d ds b
mutual
theorem KC {h h':EB}(k:∀b o,h.get? b=some o->h'.get? b=some o):∀d:Ek,Tk h h' d
 | .none=>fun v e _ r=>by cases r;exact .none
 | .bool _=>fun v e _ r=>by cases r;exact .bool _
 | .int _=>fun v e _ r=>by cases r;exact .int _ _
 | .str _=>fun v e _ r=>by cases r;exact .str _ _
 | .list xs=>fun v e l r=>by
  have f:=qE k xs;cases r with
  |list h1 h2 h3 h4=>exact .list (k _ _ h1) h2 h3<|f _ _ l h4
 | .tuple xs=>fun v e l r=>by
  have f:=qE k xs;cases r with
  |tuple h1 h2 h3 h4=>exact .tuple (k _ _ h1) h2 h3<|f _ _ l h4
 | .dict Dm=>fun v e l r=>nomatch l
theorem qE {h h':EB}(k:∀b o,h.get? b=some o->h'.get? b=some o):∀ds:Df,RC h h' ds
 |[]=>fun i e _ r=>by cases r;exact .nil
 |d::ds=>fun i e l r=>by
  have f:=KC k d;have g:=qE k ds;have l:d.canLay0=true/\Ez ds=true:=by simpa[Ez] using l
  cases r with
  |cons h1 h2=>exact .cons (f _ _ l.1 h1)<|g _ _ l.2 h2
end
theorem BO {h:EB}:∀{ds:Df} {us:Db} {as:Dd},LL h us ds as->(∀d∈ds,Gi T d)->∃fs:Db,fs.length=ds.length/\KatTups h us fs/\∀v∈fs,(T="int"/\∃i t,v=.int i t)\/(T="str"/\∃i t,v=.str i t)\/(T="tuple"/\∃a o,v=.ref a/\h.get? a=some o/\o.cls=.type "tuple")
 |[],_,_,r,_=>by
  cases r;exact⟨[],rfl,KatTups.nil,fun v b=>(nomatch b)⟩
 |d::ds,_,_,r,hf=>by
  cases r with
  |cons r1 r2 =>
   obtain⟨fs,f,g,j⟩:=BO r2 fun x l=>hf x<|Zf _ l;have hd:=hf d<|Zi ..;unfold Gi at hd
   split at hd
   all_goals first
    |exact hd.elim
    | (cases r1 with
     |tuple h1 h2 h3 h4 =>
      rename_i e nx;cases q:e.toList with
      |nil=>rw[q]at h4;cases h4
      |cons v0 vr =>
       rw[q]at h4;have s:e[0]?=some v0:=by rw[←YE,q];rfl
       cases h4 with
       |cons g1 g2 =>
        refine⟨v0::fs,by rw[Zj,Zj,f],KatTups.cons h1 h2 h3 s g,fun v b=>?_⟩
        rcases Zm.mp b with rfl|b
        ·cases g1
         first
          |exact .inl ⟨hd,_,_,rfl⟩
          |exact .inr (.inl ⟨hd,_,_,rfl⟩)
          |(rename_i n p u w;exact .inr<|.inr ⟨hd,_,_,rfl,n,p⟩)
        ·exact j v b)
theorem RY {ds:Df}{us:Db}{as:Dd}(r:LL s.heap us ds as)(f:∀d∈ds,Gi T d)(hn:0<ds.length){Q:SortKind->Dh}(q:Q (tuples'<|Value.type T !=Value.type "tuple") s) :
  El (Es prog w) A (keyKind' us.toArray) Q E s:=by
 obtain⟨fs,j,b,e⟩:=BO r f;refine kat_kind b (by lia) (T:=.type T) (fun v g=>?_) (by simp) q
 rcases e v g with⟨rfl,i,t,rfl⟩|⟨rfl,i,t,rfl⟩|⟨rfl,a,o,rfl,ho,hc⟩
 ·exact .now
 ·exact .now
 ·rw[←hc];exact(Looks.ld ho).andThen .now
def Tn (x y:Ek):Prop:=(∃i j,x=.int i/\y=.int j)\/(∃i j,x=.str i/\y=.str j)
theorem TM {b:Bool}{Q:Bool->Dh}{r:Bool}(q:Q r s)(xs:Df):∀(ys:Df) (vs us:Db) (as bs:Dd) (i k:Nat),LL s.heap vs xs as->LL s.heap us ys bs->Ez xs=true->Ez ys=true->A.units+min (EF xs) (EF ys)<Lj ->
  SU xs ys r->(b=true->i=0->∀x xs' y ys',xs=x::xs'->ys=y::ys'->Tn x y)->KatLex prog w A b (decide (k+vs.length<k+us.length)) Q (vs.zip us) i s:=by
 induction xs with
 |nil =>
  intro ys vs us as bs i k j l _ _ _ h _;cases j;have e:us.length=ys.length:=SeqAt.ReadsAll.length _ _ _ l;rw[List.zip_nil_left];show Q (decide (k+0<k+us.length)) s;rw[show decide (k+0<k+us.length)=r by rw[show r=_ from h,e];exact VF.mpr<|by lia];exact q
 |cons x xs t =>
  intro ys vs us as bs i k j l B C p h hb;cases ys with
  |nil =>
   cases l;cases j with
   | @cons v vs _ _ _ _ p1 p2 =>
    rw[List.zip_nil_right];show Q (decide (k+(vs.length+1)<k+0)) s;rw[show decide (k+(vs.length+1)<k+0)=r by rw[show r=_ from h];exact Zn<|by lia];exact q
  |cons y ys =>
   have d:x.canLay0=true/\Ez xs=true:=by simpa[Ez] using B
   have f:y.canLay0=true/\Ez ys=true:=by simpa[Ez] using C
   have g:A.units+min x.depth y.depth<cLine:=SeqAt.room_head p;have n:A.units+min (EF xs) (EF ys)<cLine:=SeqAt.room_tail p;cases j with
   | @cons v vs _ _ _ _ p1 p2 =>
    cases l with
    | @cons u us _ _ _ _ q1 q2 =>
     rw[List.zip_cons_cons];refine kat_cons ?_;have h:(EJ x y=true/\SU xs ys r)\/(EJ x y=false/\WA x y r):=h
     rcases h with⟨e,h⟩|⟨e,h⟩
     ·refine LS prog w A _ s _ _ _ _ _ _ _ p1 q1 d.1 f.1 g ?_;rw[e];refine kat_yes ?_;have t:=t ys vs us _ _ (i+1) (k+1) p2 q2 d.2 f.2 n h (fun _ z=>by lia);rwa[Zj,Zj,show k+(vs.length+1)=k+1+vs.length by lia,show k+(us.length+1)=k+1+us.length by lia]
     ·refine LS prog w A _ s _ _ _ _ _ _ _ p1 q1 d.1 f.1 g ?_;rw[e];refine kat_no ?_;cases c:(b&&i==0) with
      |true =>
       have o:b=true/\i=0:=by simpa using c
       rcases hb o.1 o.2 x xs y ys rfl rfl with⟨i1,j1,rfl,rfl⟩|⟨i1,j1,rfl,rfl⟩
       ·cases p1;cases q1;refine kat_lt_int ?_;rwa[←(show r=_ from h)]
       ·cases p1;cases q1;refine kas_lt_str ?_;rwa[←(show r=_ from h)]
      |false=>exact kat_one _ _<|Pk x y r A s _ _ _ _ p1 q1 d.1 f.1 g h _ _ q
theorem NZ {d e:Ek}{u v:Eh}{as bs:Dd}{C:Bool->Dh}(o:Reads s.heap u d as)(p:Reads s.heap v e bs)(g:Gi T d)(f:Gi T e)(ld:d.canLay0=true)(le:e.canLay0=true)(n:A.units+min d.depth e.depth<Lj)(h:WA d e r)(c:C r s) :
  El (Es prog w) A (keyLt' (tuples'<|Value.type T !=Value.type "tuple") u v) C (fun _ _=>False) s:=by
 cases d with
 |tuple xs =>
  cases e with
  |tuple ys =>
   cases o with
   |tuple h1 h2 h3 h4 =>
    cases p with
    |tuple k1 k2 k3 k4 =>
     refine kat_lt h1 h3 k1 k3 ?_;have:=TM (prog:=prog) (w:=w) (A:=A) (b:=(Value.type T !=Value.type "tuple")) c xs ys _ _ _ _ 0 0 h4 k4 ld le (by
      have i:(PyData.tuple xs).depth=EF xs+1:=rfl;have j:(PyData.tuple ys).depth=EF ys+1:=rfl;rw[i,j]at n;lia) h (fun hb _ x q y t ex l=>by
      subst ex l;unfold Gi at g f
      split at g
      ·rename_i e;cases e
       split at f
       ·rename_i e;cases e;exact .inl ⟨_,_,rfl,rfl⟩
       ·rw[g]at f;exact absurd f (by decide)
       ·rw[g]at f;exact absurd f (by decide)
       ·exact f.elim
      ·rename_i e;cases e
       split at f
       ·rw[g]at f;exact absurd f (by decide)
       ·rename_i e;cases e;exact .inr ⟨_,_,rfl,rfl⟩
       ·rw[g]at f;exact absurd f (by decide)
       ·exact f.elim
      ·subst g;simp at hb
      ·exact g.elim)
     simpa using this
  |_=>exact f.elim
 |_=>exact g.elim
end
section
variable {X:Cx}{K:Cc}
theorem Bl:∀{vs:Dj} {us:Db},yu vs us->∀(p:List Nat),(∀i∈p,i<vs.length)->yu (p.map fun i=>vs.getD i .non) (p.map fun i=>us.getD i EC)
 |vs,us,r,[],_=>.nil
 |vs,us,r,i::p,h=>by
  refine .cons ?_<|Bl r p fun j e=>h j<|Zf _ e;have d:=h i<|Zi ..;have go:∀{vs:Dj} {us:Db} (i:Nat),yu vs us->i<vs.length->yt (vs.getD i .non) (us.getD i EC):=fun{vs us} i r d=>by
   induction i generalizing vs us with
   |zero =>
    cases r with
    |nil=>exact absurd d<|VO _
    |cons a b=>exact a
   |succ i ih =>
    cases r with
    |nil=>exact absurd d<|VO _
    |cons a b=>exact ih b (by simpa using d)
  exact go i r d
theorem MH (h:za K H ds vs):∀(p:List Nat),(∀i∈p,i<vs.length)->za K H (p.map fun i=>ds.getD i .none) (p.map fun i=>vs.getD i .non)
 |[],_=>rfl
 |i::p,hp=>by
  have b:=hp i<|Zi ..;obtain⟨d,e,g⟩:=h.get<|Zl b;refine⟨vs.getD i .non,_,rfl,?_,MH h p fun j f=>hp j<|Zf _ f⟩;show Dt K H (ds.getD i .none) (vs.getD i .non);rwa[Yl,Yl,e,Zl b]
theorem Xu {h:EB}:∀{ds:Df} {us:Db} {as:Dd} (i:Nat),LL h us ds as->i<ds.length->∃bs,Reads h (us.getD i EC) (ds.getD i .none) bs
 |[],_,_,i,_,hi=>absurd hi<|VO _
 |d::ds,_,_,0,r,_=>by
  cases r with
  |cons r1 r2=>exact⟨_,r1⟩
 |d::ds,_,_,i+1,r,hi=>by
  cases r with
  |cons r1 r2=>exact Xu i r2 (by simpa using hi)
theorem PY {b:Type}{l:List b}{z:b}:(EM l.length).map (fun i=>l.getD i z)=l:=by
 apply List.ext_getElem?
 intro i;rw[Zs]
 rcases Jw i l.length with q|q
 ·rw[VR q,Zl q];simp[Yl,Zl q]
 ·rw[Yh<|by rwa[Yv],Yh q];rfl
end
end L2
namespace L2
open PySem PySem.Spec PyProof.Rows AxS
section
variable {X:Cx}{Dp:De}{σ:St}{H:Hp}{s:Em}{d:Ei}{Dm:Dl}
theorem Rb (I:Inv X Dp σ H s)(e:Rd H d<|.dK Dm):∃vs ep,KV Dm vs/\s.heap.DictAt (zf X.prog X.w) d vs ep/\(d==ER)=false/\Dm.length<=sizeLine:=by
 obtain⟨z,hd,vs,g,o,i,ep,j,n,b,hk,l,f⟩:=vU I.hok e;exact⟨vs,ep,g,⟨o,i,j,n,b,hk,l,f⟩,hd,z⟩
theorem Iu {d e:Type}{F G:d->e->Prop}(h:∀a b,F a b->G a b):∀{l:List d} {m:List e},Ln F l m->Ln G l m
 |_,_,.nil=>.nil
 |_,_,.cons r t=>.cons (h _ _ r)<|Iu h t
theorem yj.mQ {t:Obj}{x:HO}(hd:H d=some (.frz t x)){y:HO}(ok:yj P w H h b u):yj P w (upd H d y) h b u:=by
 have keep:∀{c:Ei} {z:HO},H c=some z->(∀o v,z≠.frz o v)->upd H d y c=some z:=fun{c z} e n=>by
  rw[zI fun q=>by rw[q,hd]at e;exact n _ _ (Option.some.inj e).symm];exact e
 induction u generalizing b with
 |lst g=>exact ok
 |tup g=>exact ok
 |dK Dm=>exact ok
 |dT Dm =>
  obtain⟨i,j,g,s,l⟩:=ok;exact⟨i,j,g,Iu (fun p q r=>⟨r.1,keep r.2.1 (fun o v z=>(nomatch z)),r.2.2⟩) s,l⟩
 |set S n=>exact ok
 |ins C dx fs=>exact⟨keep ok.1 (fun o v z=>(nomatch z)),ok.2⟩
 |own x=>exact ok
 |xd fs=>exact ok
 |rng lo hi=>exact ok
 |frz o u ih=>exact⟨ok.1,ih ok.2⟩
 |tbl ps=>exact ok
 |met f x=>exact ok
 |ext φ=>exact ok
theorem Inv.mQ {A:Obj}(I:Inv X Dp σ H s)(hd:H d=some (.frz A<|.dK Dm))(y:∀o u,X.H₀ d≠some (.frz o u)):Inv X Dp σ (upd H d<|.dK Dm) s:=by
 have ne:∀{b:Ei},H b=none->b≠d:=fun{b} e z=>by rw[z,hd]at e;cases e
 have i:∀{b:Ei} {z:HO},H b=some z->(∀o v,z≠.frz o v)->b≠d:=fun{b z} e n q=>by rw[q,hd]at e;exact n _ _ (Option.some.inj e).symm
 refine⟨I.ok,I.os,I.bare,⟨I.base.keep,I.base.slot,fun b o f r t=>?_,I.base.there,fun b C f=>?_,fun b o u f=>?_,fun b B f=>?_⟩,I.loc,I.cell,?_,fun x c f=>?_,fun p w=>?_,fun b u f=>?_,I.len⟩
 ·have:=I.base.free b o f r t;rwa[zI<|ne this]
 ·have:=I.base.tups b C f;rwa[zI<|i this fun o v z=>(nomatch z)]
 ·have:=I.base.tX b o u f;rw[zI fun z=>y o u<|by rwa[←z]];exact this
 ·obtain⟨more,this⟩:=I.base.tO b B f;exact⟨more,by rw[zI<|i this fun o v z=>(nomatch z)];exact this⟩
 ·rw[zI<|ne I.free];exact I.free
 ·have:=I.wK x c f;rwa[zI<|ne this]
 ·obtain⟨j,g,l⟩:=I.pin p w;exact⟨j,by rw[zI<|ne g];exact g,l⟩
 ·by_cases z:b=d
  ·rw[z,zB]at f;cases f;rw[z];exact(I.hok d _ hd).2
  ·rw[zI z]at f;exact(I.hok b u f).mQ hd
end
section
variable {X:Cx}{tg:EG}
def T9:Dj->Hp->VK->Prop:=fun d H Q=>∃a b,d=[.ref a]/\Rd H a (.dK b)/\∀l,H l=none->Q (.ref l) (upd H l<|.dK b)
theorem Iv:xq X (.type "dict") T9:=by
 intro g s n H l j Q I r h;obtain⟨a,f,rfl,ha,q⟩:=h;obtain⟨u,rfl,e⟩:=wX r;cases e;exact OL I ha fun p i d b=>⟨.ref p,_,b,rfl,q p d⟩
def GW (kv:Key×V):Str:=match kv.1 with
 | .inr x=>x
 | .inl _=>""
def Ti (Dm:Dl):Prop:=∀kv∈Dm,kv.1=.inr (GW kv)
theorem Kf {us:Db}(g:Ti Dm)(d:KV Dm vs)(hl:us.length=vs.length)(hm:∀(j:Nat) (v:Eh),us[j]?=some v->∃k x,vs[j]?=some (k,x)/\(zf P w).is k v=true):qF us (Dm.map GW):=by
 have q:Dm.length=vs.length:=Paired.length d;refine⟨by rw[Za];lia,fun i v e=>?_⟩;obtain⟨k,x,n,hk⟩:=hm i v e;obtain⟨p,f,b,_⟩:=jI d n;have b:p.1=k:=b;have l:=g p<|Zt f;rw[←b,l]at hk;obtain⟨t,o⟩:=YV<|show E6 (GW p) v=true from hk;exact⟨GW p,t,by rw[Zs,f];rfl,o⟩
def P9:Dj->Hp->VK->Prop:=fun e H Q=>∃a b,e=[.ref a]/\Rd H a (.dK b)/\Ti b/\b.length<64/\∀l d,H l=none->d.Perm (b.map GW)->sortedS d=true->Q (.ref l) (upd H l<|.lst<|d.map V.str)
theorem B6 (hc:X.calm=true):xq X (.builtin "sorted") P9:=by
 intro P s σ H xs us Q I r h;obtain⟨a,F,rfl,ha,T,ab,q⟩:=h;obtain⟨u,rfl,ru⟩:=wX r;cases ru;obtain⟨M,ep,p,Z,hS,hz⟩:=Rb I ha;have Dq:F.length=M.length:=Paired.length p;refine LZ kind_sorted plain_sorted entry_sorted (args_sorted1 _) ?_;unfold Builtin.«sorted»;refine Q9 (m:=checkCount "sorted" 1 1 _)<|Zh ?_;refine Q9 (PySem.W.kdu_collect (A:=X.A.in1) (PySem.W.kdl_dict (knd:=zf X.prog X.w) (kvs:=M) (ep:=ep) hS) (I.ok.hd hc) Z (by lia) fun f C g x E=>?_);have D:qF g.toList (F.map GW):=Kf T p (by rw[ZO];exact E.1) fun j v e=>E.2 j v (by rwa[←YE]);generalize g.toList=d at D ⊢;have i:=uc D;have ah:d.length<64:=by rwa[D.1,Za]
 have DJ:64<=sizeLine:=by rw[Yp];decide
 refine Q9 (V7 ?_<|by lia);have l:(f.push<|Li "list" d.toArray 0).get? f.objs.size=some (Li "list" d.toArray 0):=Zq _ rfl;refine Q9 (Yb<|Yg slot_list_sort ⟨_,l,rfl⟩ Um (list_sort_treeK strKind_oneLt l i.keysOf (fun N O L e=>keyKind_strs<|by rwa[←e]) (by lia) fun t R S=>⟨_,rfl,?_⟩) (args_list_sort _));obtain⟨n,U,J,Y⟩:=sorted_out_str i R S;refine Zh ⟨_,rfl,?_⟩;obtain⟨e,he⟩:=sortedHeap_at (out:=(arrOf t).map (·.2)) l;have nl:=XH U;have G:Inv X P σ H { s with heap:=f,toks:=C }:=I.kept (t':=C) x;have z:∀b B,f.get? b=some B->(sortedHeap (f.push<|Li "list" d.toArray 0) f.objs.size d ((arrOf t).map (·.2))).get? b=some B:=fun b B K=>by
  have hb:b<f.objs.size:=Zu K;rw[sortedHeap_old (Zz hb) (by rw[Yz];exact YS hb)];exact Zc _ K
 have fr:H f.objs.size=none:=G.hok.fresh<|Zg _;have y:(n.map V.str).length<=sizeLine:=by
  have:=J.length_eq;rw[Za]at this ⊢;lia
 exact⟨.ref f.objs.size,_,G.laid (o:=.lst<|n.map V.str) (t':=C) z (Zg _) ⟨y,_,e,nl,he⟩,rfl,q _ n fr J Y⟩
def putAll (Dm more:Dl):Dl:=more.foldl (fun b kv=>ye b kv.1 kv.2) Dm
theorem KV.putAll:∀{more:Dl} {um:List (Key×Eh)} {Dm:Dl} {vs:List (Key×Eh)},KV Dm vs->KV more um->KV (putAll Dm more) (merged vs um)
 |[],_,_,_,r,.nil=>r
 |p::more,q::um,Dm,vs,r,.cons h t=>by
  have e:p.1=q.1:=h.1;have:=KV.putAll (Dm:=ye Dm p.1 p.2) (vs:=stored vs q.1 q.2) (by rw[←e];exact r.put p.1 h.2) t;exact this
theorem q8:∀(more Dm:Dl),(putAll Dm more).length<=Dm.length+more.length
 |[],Dm=>Zg _
 |p::more,Dm=>by
  have:=q8 more<|ye Dm p.1 p.2;have:=xW Dm p.1 p.2;show(putAll (ye Dm p.1 p.2) more).length<=_;rw[Zj];lia
def ax (i ty:TE):TE:=fun g H Q=>i g H fun x f=>∃a,x=.ref a/\WM f a/\ty g f fun y e=>∃b d more,y=.ref b/\a≠b/\e a=some (.dK d)/\Rd e b (.dK more)/\d.length+more.length<=sizeLine/\Q .non (upd e a<|.dK<|putAll d more)
theorem Sh (M:PE X o td)(L:PE X e ty)(m:M1 X o "update" Ds e Dr):PE X (.Call (.Attribute o "update" Ds) [e] [] Dr) (ax td ty):=by
 intro r s C H Q I h;refine Vn m.base m.few m.line JB PySem.F.slot_dict_update PySem.F.type_dict_update<|Ch (M r s C H _ I h) fun u T ⟨x,E,t,R,a,ex,d,O⟩=>?_;subst ex;obtain rfl:u=Eu a:=R;obtain⟨U,Y,_⟩:=CK t d;refine⟨U,Y,?_⟩;rw[m.trees];refine E4 rfl<|Lo<|Lh<|Ch (L r T C E _ t O) fun iv s2 ⟨y,H2,j,S,b,D,more,J,ne,A,G,B,P⟩=>Lv ?_;subst J;cases S;obtain⟨z,hd,vs,i,v⟩:=K9 j.hok A;obtain⟨z2,n,Z,f,l⟩:=vU j.hok G;refine JI PySem.F.slot_dict_update v.typeIs PySem.F.entry_dict_update (PySem.F.args_dict_update_2 _ _) (meets_dict_update (zf X.prog X.w) a b ne n)
  ⟨vs,Z,v,l,by rw[←i.length,←f.length];exact B,fun K g _ N=>⟨.non,_,?_,rfl,P⟩⟩
 have p:∃q,K.get? a=some q:=let ⟨q,_,_,hq,_⟩:=g;⟨q,hq⟩;exact uV j (by rw[A];exact E9) N p<|XG (ZR (q8 more D) B) hd (i.putAll f) g
end
end L2
namespace An10
end An10
namespace An12
open PySem L2 An An10
end An12
namespace AnJ
section
variable {α:Type}
inductive Pt (α:Type) where
 |same (ls:List α)
 |clash (b m y:List α)
end
open An10
open AxK
open PySem L2 An An12
def yh (ls:Da):PyData:=.tuple<|ls.map .str
theorem MV:∀a b:List Nat,decide (a<b)=yR TO.nat a b
 |[],[]=>by decide
 |[],_::_=>by simp[yR]
 |_::_,[]=>by simp[yR]
 |a::as,b::bs=>by
  have e:=MV as bs;unfold yR;rw[←e,Z4,ZC,YF];show _↔(decide (a<b)||(!decide (b<a)&&decide (as<bs)))=true;rw[Ve,Zk,ZC,ZC,Yj,JE];constructor
  ·rintro(h|⟨h,d⟩)
   ·exact .inl h
   ·exact .inr ⟨by lia,d⟩
  ·rintro(h|⟨h,d⟩)
   ·exact .inl h
   ·by_cases z:a<b
    ·exact .inl z
    ·exact .inr ⟨by lia,d⟩
def ut:TO Str:=TO.by_ (TO.list TO.nat) cs fun a b h=>yc h
theorem oh (a b:Str):ut.lt a b=decide (a.cps.toList<b.cps.toList):=(MV _ _).symm
theorem nW:∀a b:Da,SU (a.map .str) (b.map .str) ((TO.list ut).lt a b)
 |[],[]=>by
  show false=decide (0<0);rfl
 |[],_::_=>by
  show true=decide (0<_);simp
 |_::_,[]=>rfl
 |x::a,y::b=>by
  show((x==y)=true/\SU (a.map .str) (b.map .str) (yR ut (x::a) (y::b)))\/((x==y)=false/\yR ut (x::a) (y::b)=decide (x.cps.toList<y.cps.toList))
  by_cases e:x=y
  ·subst e;refine .inl ⟨by simp,?_⟩;unfold yR;have:ut.lt x x=false:=ut.refl x;rw[this];exact nW a b
  ·refine .inr ⟨by simpa using e,?_⟩;unfold yR;rw[←oh];cases q:ut.lt x y with
   |true=>rfl
   |false =>
    cases d:ut.lt y x with
    |true=>rfl
    |false=>exact absurd (ut.jy _ _ q d) e
end AnJ
namespace L2
open PySem PySem.Spec PyProof.Rows PySem.W AxK An
def lays:Hp->List (Ei×Dj)->Hp
 |H,[]=>H
 |H,p::r=>lays (upd H p.1<|.tup p.2) r
theorem kU:∀{l:List (Ei×Dj)} {H:Hp} {b:Ei},b∉l.map (·.1)->lays H l b=H b
 |[],_,_,_=>rfl
 |p::r,H,b,h=>by
  rw[ZE,Zm,Uh]at h;show lays (upd H p.1<|.tup p.2) r b=_;rw[kU h.2,zI h.1]
theorem CN:∀{l:List (Ei×Dj)} {H:Hp} {p:Ei×Dj},(l.map (·.1)).Nodup->p∈l->lays H l p.1=some (.tup p.2)
 |q::r,H,p,nd,h=>by
  rw[ZE,Z5]at nd;show lays (upd H q.1<|.tup q.2) r p.1=_
  rcases Zm.mp h with rfl|h
  ·rw[kU nd.1,zB]
  ·exact CN nd.2 h
theorem nF:∀{l:List (Ei×Dj)} {H:Hp} {b:Ei} {o:HO},(l.map (·.1)).Nodup->lays H l b=some o->H b=some o\/∃xs,(b,xs)∈l/\o=.tup xs:=fun{l H b o} nd h=>by
 by_cases z:b∈l.map (·.1)
 ·obtain⟨p,d,rfl⟩:=Zd.mp z;rw[CN nd d]at h;exact .inr ⟨p.2,d,(Option.some.inj h).symm⟩
 ·rw[kU z]at h;exact .inl h
theorem Br {l:List (Ei×Dj)}{H:Hp}(f:∀p∈l,H p.1=none):zy H (lays H l):=fun b o e=>by
 rw[kU]
 ·exact e
 ·intro z;obtain⟨p,d,rfl⟩:=Zd.mp z;rw[f p d]at e;cases e
section
variable {X:Cx}{Dp:De}{σ:St}{H:Hp}{s:Em}{h':EB}{K:Cc}
theorem Inv.lays {t':Nat}(I:Inv X Dp σ H s){l:List (Ei×Dj)}(nd:(l.map (·.1)).Nodup)(k:∀b u,s.heap.get? b=some u->h'.get? b=some u)(g:∀p∈l,s.heap.objs.size<=p.1)(new:∀p∈l,yj X.prog X.w (lays H l) h' p.1<|.tup p.2) :
  Inv X Dp σ (lays H l) { s with heap:=h',toks:=t' }:=by
 have fr:∀p∈l,H p.1=none:=fun p m=>I.hok.fresh<|g p m;have d:=Br fr;have nx:∀b u,s.heap.get? b=some u->b∉l.map (·.1):=fun b u q z=>by
  obtain⟨p,m,rfl⟩:=Zd.mp z;exact absurd (Zu q)<|Nat.not_lt.mpr<|g p m
 refine I.un ⟨fun b u q _ _ _=>k b u q,fun b u q _ _ _=>⟨u.slots,k b u q⟩,fun b u q n _=>by rw[kU<|nx b u q];exact n,fun b u q _=>⟨u,k b u q⟩,fun b f q=>d _ _ q,fun b u f q=>d _ _ q,fun b i q=>⟨#[],by rw[d _ _ q];simp⟩⟩ fun b u e=>?_
 rcases nF nd e with z|⟨f,m,rfl⟩
 ·exact(I.hok b u z).stay (fun c v _ q=>k c v q) (fun c q=>d _ _ q) fun c f q=>d _ _ q
 ·exact new _ m
theorem ID:∀{ps:Dg},(∀p∈ps,Er p.1=true/\Er p.2=true)->Ez (ps.map An.zm)=true
 |[],_=>rfl
 |p::ps,h=>by
  obtain⟨b,d⟩:=h p<|Zi ..;show(((Er p.1)&&((Er p.2)&&true))&&Ez (ps.map An.zm))=true;rw[b,d,ID fun q e=>h q<|Zf _ e];rfl
def G3:Ek->Da
 | .tuple xs=>xs.map fun d=>match d with
  | .str x=>x
  |_=>""
 |_=>[]
theorem Gu {ps:Dg}{i:Nat}(h:i<ps.length):(ps.map An.zm).getD i .none=An.zm (ps.getD i ("","")):=by
 rw[Yl,Yl,Zs,Zl h];rfl
theorem Wg {a b:Str×Str}(h:(TO.list AnJ.ut).le (G3<|An.zm a)<|G3<|An.zm b):cs a.1<=cs b.1:=by
 have h:yR AnJ.ut [b.1,b.2] [a.1,a.2]=false:=h;have h:(AnJ.ut.lt b.1 a.1||(!AnJ.ut.lt a.1 b.1&&yR AnJ.ut [b.2] [a.2]))=false:=h;rw[YG,AnJ.oh,JE]at h;exact J0.mp h.1
def Wt (K:Cc)(n:TE):TE:=fun σ H Q=>n σ H fun v g=>∃(d:Ei) (f:Dg),v=.ref d/\Rd g d (.dK<|f.map fun p=>((.inr p.1:Key),V.str p.2))/\f.length<64/\(∀p∈f,Er p.1=true/\Er p.2=true) /\
 ∀(l:Ei) (i:Dg) (j:Dj) (e:Hp),i.Perm f->(i.Pairwise fun a b=>cs a.1<=cs b.1)->zy g e->g l=none->e l=some (.lst j)->za K e (i.map An.zm) j->Q (.ref l) e
theorem PX {p Ds Dr pos:Pos}(hc:X.calm=true)(hu:X.A.units+64<Lj)(hg:Gl X x)(hm:X.mg x=none)(hv:LV x=some (.builtin "sorted"))(ho:PE X o td)
  (D1:Lz o "items" X.env (E3 o X.env)=E3 o X.env:=by rfl) (DJ:(Ds.endLine==Dr.line)=true:=by rfl) (hn:x≠"__name__":=by decide) (a7:(x==("__debug__":Str))=false:=by decide)
  (he:Ew [.Call (.Attribute o "items" Ds) [] [] Dr] X.env=(false,E3 (.Call (.Attribute o "items" Ds) [] [] Dr) X.env)::Ew [] X.env:=by rfl) (bl:(Lb pos<|Ew [] X.env).any (·.1)=false:=by rfl) (hK:X.K=K:=by rfl) :
  PE X (.Call (.Name x p) [.Call (.Attribute o "items" Ds) [] [] Dr] [] pos) (Wt K td):=by
 subst hK;intro Dp s σ H Q I h;refine Y1<|vX I hg hm hv ?_ hn a7;refine VB ?_ he bl;rw[he];show El _ _ (spliced ((false,E3 (.Call (.Attribute o "items" Ds) [] [] Dr) X.env)::Lb pos (Ew [] X.env))) _ _ s;refine Lh ?_;refine wpAny_Call_method0_late D1 DJ<|Ch (ho Dp s σ H _ I h) fun v B ⟨x,J,I1,r,d,f,ex,hd,a5,hok,q⟩=>?_;subst ex;cases r;obtain⟨vs,ep,Y,da,hS,b0⟩:=Rb I1 hd;have dO:=da.dictOf;obtain⟨b5,b6,h1,h2,h3⟩:=id da;refine⟨"dict","dict.items",F.plainAttrs_dict,Mf,F.type_dict_items,dO.typeIs,fun b q=>by cases q;exact⟨b5,h1,h2.2.1⟩,E4 rfl<|PySem.evalArgs_none ?_⟩;refine JI Mf dO.typeIs F.entry_dict_items (F.args_dict_items_1 _) (meets_dict_items (zf X.prog X.w) d hS) ⟨⟨vs,dO⟩,?_⟩;refine Lv ?_;have I2:Inv X Dp σ J { B with heap:=B.heap.push { cls:=.type "dict_items",data:=.fields #[.ref d] } }:=I1.kept (t':=B.toks) fun b o e=>Zc _ e;have ah:(B.heap.push { cls:=.type "dict_items",data:=.fields #[.ref d] }).DictAt (zf X.prog X.w) d vs ep:=da.at' fun o e=>Zc _ e;have a0:(B.heap.push { cls:=.type "dict_items",data:=.fields #[.ref d] }).IsItemsView B.heap.objs.size d:=⟨_,Zq _ rfl,rfl,rfl⟩;have Dq:(f.map fun p=>((.inr p.1:Key),V.str p.2)).length=vs.length:=Paired.length Y;rw[Za]at Dq;have DJ:64<=sizeLine:=by rw[Yp];decide
 refine LZ kind_sorted plain_sorted entry_sorted (args_sorted1 _) ?_;unfold Builtin.«sorted»;refine Q9 (m:=checkCount "sorted" 1 1 _)<|Zh ?_;refine Q9 (kdx_collect (A:=X.A.in1) (knd:=zf X.prog X.w) (I.ok.hd hc) a0 ah (by lia) fun h' tk l ap hl R=>?_);have N:∀b o,(B.heap.push { cls:=.type "dict_items",data:=.fields #[.ref d] }).get? b=some o->h'.get? b=some o:=ap;generalize B.heap.push { cls:=.type "dict_items",data:=.fields #[.ref d] }=h0 at I2 R N;clear ah a0 ap;have ln:l.length=f.length:=by rw[hl,←Dq]
 have a3:l.Nodup:=Z8.mpr<|R.rise.imp fun{a b} z=>Zz z;have z1:((l.zip f).map fun(q:Ei×(Str×Str))=>(q.1,[V.str q.2.1,V.str q.2.2])).map (·.1)=l:=by
  rw[ZF];exact VH (by lia)
 have I3:Inv X Dp σ (lays J<|(l.zip f).map fun(q:Ei×(Str×Str))=>(q.1,[V.str q.2.1,V.str q.2.2])) { B with heap:=h',toks:=tk }:=by
  refine Inv.lays (s:={ B with heap:=h0 }) I2 (by rwa[z1]) N (fun p y=>?_)<|fun p y=>?_
  ·obtain⟨c,D,rfl⟩:=Zd.mp y;exact Yx<|R.above _ (JN D).1
  ·obtain⟨c,D,rfl⟩:=Zd.mp y;obtain⟨j,u⟩:=Yq.mp D;rw[Jr]at u;obtain⟨key,k,x,e1,hk,e2⟩:=R.pairs j _ u.1;obtain⟨p,L,P,rx⟩:=jI Y e1;rw[Zs,u.2]at L;have L:=(Option.some.inj L).symm;subst L;have P:(Ev c.2.1:Key)=k:=P;rw[←P]at hk;obtain⟨t,et⟩:=YV<|show E6 c.2.1 key=true from hk;exact⟨by show 2<=_;lia,[key,x],.cons ⟨t,et⟩<|.cons rx .nil,_,e2,rfl,0,rfl,rfl⟩
 have sm:zy J (lays J<|(l.zip f).map fun(q:Ei×(Str×Str))=>(q.1,[V.str q.2.1,V.str q.2.2])):=Br fun p y=>by
  obtain⟨c,D,rfl⟩:=Zd.mp y;exact I2.hok.fresh<|Yx<|R.above _ (JN D).1
 have E:za X.K (lays J<|(l.zip f).map fun(q:Ei×(Str×Str))=>(q.1,[V.str q.2.1,V.str q.2.2])) (f.map An.zm) (l.map V.ref):=by
  have at_:∀(j:Nat) (a:Ei) (p:Str×Str),l[j]?=some a->f[j]?=some p->lays J ((l.zip f).map fun(q:Ei×(Str×Str))=>(q.1,[V.str q.2.1,V.str q.2.2])) a=some (.tup [V.str p.1,V.str p.2]):=fun j a p ha y =>
   CN (p:=(a,[V.str p.1,V.str p.2])) (by rwa[z1]) (Zd.mpr ⟨(a,p),Zt (i:=j)<|Jr.mpr ⟨ha,y⟩,rfl⟩)
  generalize lays J ((l.zip f).map fun(q:Ei×(Str×Str))=>(q.1,[V.str q.2.1,V.str q.2.2]))=Hs at at_;clear I3 sm z1 a3 R hl hok q hd Y a5 Dq b0
  induction l generalizing f with
  |nil =>
   cases f with
   |nil=>rfl
   |cons p f=>cases ln
  |cons a l ih =>
   cases f with
   |nil=>cases ln
   |cons p f =>
    have h0:=at_ 0 a p rfl rfl;exact⟨.ref a,l.map V.ref,rfl,⟨a,[V.str p.1,V.str p.2],rfl,xg.of h0,_,_,rfl,rfl,_,_,rfl,rfl,rfl⟩,ih f (by simpa using ln) fun j b q' hb bm=>at_ (j+1) b q' hb bm⟩
 generalize lays J ((l.zip f).map fun(q:Ei×(Str×Str))=>(q.1,[V.str q.2.1,V.str q.2.2]))=Hs at I3 sm E;have rv:yu (l.map V.ref) (l.map Eu):=by
  clear R hl a3 ln z1 E I3
  induction l with
  |nil=>exact .nil
  |cons a l ih=>exact .cons rfl ih
 obtain⟨ab,rd⟩:=za.zu I3 _ _ _ E rv;have rd:LL h' (l.map Eu) (f.map An.zm) ab:=rd;have b4:Ez (f.map An.zm)=true:=ID hok;have l1:(l.map V.ref).length=(f.map An.zm).length:=by rwa[Za,Za]
 have l2:(l.map Eu).length=(f.map An.zm).length:=by rwa[Za,Za]
 have l3:(f.map An.zm).length<64:=by rwa[Za]
 have S:∀d∈f.map An.zm,Gi "str" d/\d.canLay0=true/\d.depth<=60:=fun d hd=>by
  obtain⟨p,y,rfl⟩:=Zd.mp hd;obtain⟨h1,h2⟩:=hok p y;refine⟨rfl,?_,by show max 0 (max 0 0)+1<=60;decide⟩;show(Er p.1&&(Er p.2&&true))=true;rw[h1,h2];rfl
 have a9:∀d∈f.map An.zm,∀e∈f.map An.zm,WA d e ((TO.list AnJ.ut).lt (G3 d)<|G3 e):=fun d hd e he=>by
  obtain⟨p,y,rfl⟩:=Zd.mp hd;obtain⟨p',b7,rfl⟩:=Zd.mp he;exact AnJ.nW [p.1,p.2] [p'.1,p'.2]
 generalize l.map Eu=g at rd rv l2;generalize l.map V.ref=Z at rv E l1;refine Q9 (V7 ?_ (by rw[l2];lia));have M:(h'.push<|Li "list" g.toArray 0).get? h'.objs.size=some (Li "list" g.toArray 0):=Zq _ rfl;have kp:∀b o,h'.get? b=some o->(h'.push<|Li "list" g.toArray 0).get? b=some o:=fun b o z=>Zc _ z;show El _ _ _ _ _ { B with heap:=h'.push<|Li "list" g.toArray 0,toks:=tk };generalize h'.push (Li "list" g.toArray 0)=am at M kp;refine Q9<|Yb<|Yg slot_list_sort ⟨_,M,rfl⟩ Um ?body<|args_list_sort _;refine KK (s:={ B with heap:=am,toks:=tk }) (κ:=tuples'<|Value.type "str" !=Value.type "tuple") (lt:=fun i j=>(TO.list AnJ.ut).lt (G3<|(f.map An.zm).getD i .none)<|G3<|(f.map An.zm).getD j .none) M (by lia) (fun h2 s2 k1=>?_) fun p y=>⟨_,rfl,Zh ⟨_,rfl,?_⟩⟩
 ·have U:LL s2.heap g (f.map An.zm) ab:=qE (fun b o z=>k1 b o (Zz<|Zu z)<|kp b o z) _ _ _ b4 rd;refine⟨fun Q' E' z=>RY U (fun d a6=>(S d a6).1) (by lia) z,fun i j G u C c=>?_⟩;obtain⟨b1,r1⟩:=Xu i U (by lia);obtain⟨b2,r2⟩:=Xu j U (by lia);have m:∀k,k<g.length->(f.map An.zm).getD k .none∈f.map An.zm:=fun k hk=>by
   rw[Yl,Zl<|by lia];exact Yt _
  have d1:=S _<|m i G;have d2:=S _<|m j u;exact NZ r1 r2 d1.1 d2.1 d1.2.1 d2.2.1 (by show X.A.units+1+1+_<_;lia) (a9 _ (m i G) _<|m j u) c
 ·have pp:p.Perm (Le<|EM g.length)/\Up (TO.list AnJ.ut) (fun i=>G3<|(f.map An.zm).getD i .none) p g.length:=by
   rcases y with⟨n2,rfl⟩|⟨n2,rfl⟩
   ·refine⟨Array.Perm.refl _,fun(i j:Nat) (an:i<=j) (u:j<g.length)=>?_⟩;have:i=j:=by lia
    subst this;exact(TO.list AnJ.ut).refl _
   ·obtain⟨p',e,a1,a2⟩:=SJ (O:=TO.list AnJ.ut) (key:=fun i=>G3<|(f.map An.zm).getD i .none) (n:=g.length) (by lia);rw[e];exact⟨a1,a2⟩
  obtain⟨pp,up⟩:=pp;have T:p.toList.Perm (EM g.length):=by simpa using Array.perm_iff_toList_perm.mp pp
  have pm:∀i∈p.toList,i<Z.length:=fun i G=>by
   have:=Jl.mp<|T.mem_iff.mp G;lia
  obtain⟨e,a8⟩:=sortedHeap_at (out:=Le<|p.toList.map fun i=>g.getD i EC) M;have nl:=Bl rv p.toList pm;have b3:∀b ob,h'.get? b=some ob->(sortedHeap am h'.objs.size g<|Le<|p.toList.map fun i=>g.getD i EC).get? b=some ob:=fun b ob q1=>by
   have hb:b<h'.objs.size:=Zu q1;rw[sortedHeap_old (Zz hb)<|Zu<|kp b ob q1];exact kp b ob q1
  have ar:p.toList.length=g.length:=by rw[T.length_eq,Yv]
  have al:Hs h'.objs.size=none:=I3.hok.fresh<|Zg _;have jf:J h'.objs.size=none:=sm.free al;have a4:=zF (o:=.lst<|p.toList.map fun i=>Z.getD i .non) al;refine⟨.ref h'.objs.size,_,I3.laid (o:=.lst<|p.toList.map fun i=>Z.getD i .non) (t':=tk) b3 (Zg _) ⟨by rw[Za,ar,Yp];lia,_,e,nl,a8⟩,rfl,q _ (p.toList.map fun i=>f.getD i ("","")) _ _ ?_ ?_ (sm.trans a4) jf zB ?_⟩
  ·have:=T.map fun i=>f.getD i ("","");rw[show g.length=f.length by rw[l2,Za],PY]at this;exact this
  ·rw[Js];intro i j G u an;rw[ZT,ZT];have:=up i j (Yx an) (by rw[Za,ar]at u;exact u);unfold kn at this;rw[Za,ZO]at G u;rw[Z3,Z3,Ui p i G,Ui p j u]at this;have pi:p[i]<f.length:=by
    have:=pm p[i] (by rw[←J2 G];exact Yt _);rw[l1,Za]at this;exact this
   have pj:p[j]<f.length:=by
    have:=pm p[j] (by rw[←J2 u];exact Yt _);rw[l1,Za]at this;exact this
   rw[J2 G,J2 u];have this:(TO.list AnJ.ut).le (G3<|(f.map An.zm).getD p[i] .none) (G3<|(f.map An.zm).getD p[j] .none):=by simpa using this
   rw[Gu pi,Gu pj]at this;exact Wg this
  ·have:=za.same a4 _ _<|MH E p.toList pm;rw[show(p.toList.map fun i=>(f.map An.zm).getD i .none)=(p.toList.map fun i=>f.getD i ("","")).map An.zm by
    rw[ZF];refine Z1 fun i G=>Gu ?_;have:=pm i G;rw[l1,Za]at this;exact this]at this
   exact this
end
section
variable {X:Cx}
def Rt (H₀:Hp)(t:TS):TS:=fun D i H=>t { D with nx:=fun b f=>∃d g e,f d=some (.frz g<|.dK e)/\(∀o u,H₀ d≠some (.frz o u))/\D.nx b (upd f d<|.dK e) } i H
theorem uL {st:EK}(h:PS X st t):PS X st (Rt X.H₀ t):=by
 intro e s j H D I q;refine Ch (h e s j H _ I q) fun f p z=>?_;cases f with
 |next =>
  obtain⟨b,n,g,d,o,l,hd,i,q⟩:=z;exact⟨b,_,g.mQ hd i,q⟩
 |ret v=>exact z
 |brk=>exact z
 |cont=>exact z
def ak (K:Cc):Dj->Hp->VK->Prop:=fun e H Q=>∃a T d b,e=[.ref a,.ty T]/\Rd H a (.dK d)/\ET K (.type "dict") (.type T)=some b/\Q (.bl b) H
theorem BR {K:Cc}(f:X.K=K:=by rfl):xq X (.builtin "isinstance") (ak K):=by
 subst f;intro o s A H y w Q I r h;obtain⟨a,T,n,b,rfl,ha,g,q⟩:=h;obtain⟨u,l,rfl,j,d⟩:=vals2 r;cases(show l=Value.type T from d);cases j;obtain⟨x,p,i,e,t,_⟩:=Rb I ha;exact Yi V3 I.tQ e.dictOf.typeIs g (fun z=>nomatch z) fun v=>⟨.bl b,H,I.tok _,rfl,q⟩
end
end L2
namespace An08
open PySem L2 An
seal L2.PS L2.sX L2.PE L2.PT L2.PW L2.PA L2.PG L2.pC L2.PI L2.oY L2.PC
abbrev xf0 (K)(x)(st)(f)(fd):=xf K x x st f fd
def top (i:Nat):Stmt:=PySem.Challenge.pw_annals_k08_trees_refused.main.body.getD i<|.Pass ⟨0,0,0,0⟩
def kinds:List String:=["NoneType","bool","int","str","list","tuple","dict"]
def xR:Dl:=[(Ev "leaf",.str "L"),(Ev "tree",.str "T"),(Ev "note",.str "N")]
theorem Kj (t:Th):Uu xR (Ev t.word:Key)=some (.str t.letter):=by
 cases t
 ·show Uu xR (Ev "leaf":Key)=some (.str "L")
  decide +kernel
 ·show Uu xR (Ev "tree":Key)=some (.str "T")
  decide +kernel
 ·show Uu xR (Ev "note":Key)=some (.str "N")
  decide +kernel
section
variable {K:Cc}{H:Hp}
theorem CO {ls:Da}{v:V}(h:Dt K H (Th.leaf ls).dat v):∃a b,v=.ref a/\xg K H a [.str "leaf",.ref b]/\xg K H b (ls.map V.str):=by
 obtain⟨a,o,rfl,f,j,l,rfl,d,n,i,rfl,⟨b,p,rfl,hb,g⟩,e⟩:=h;have d:j=.str "leaf":=d;have e:i=[]:=e;subst d e;rw[za.uc g]at hb;exact⟨a,b,rfl,f,hb⟩
theorem CY {rs:Dg}{v:V}(h:Dt K H (Th.tree rs).dat v):∃a b,v=.ref a/\xg K H a [.str "tree",.ref b]/\Dt K H (.tuple<|rs.map zm) (.ref b):=by
 obtain⟨a,p,rfl,f,j,n,rfl,d,o,i,rfl,⟨b,l,rfl,hb,g⟩,e⟩:=h;have d:j=.str "tree":=d;have e:i=[]:=e;subst d e;exact⟨a,b,rfl,f,b,l,rfl,hb,g⟩
theorem CS {t:Str}{ps:Da}{w:Str}{v:V}(h:Dt K H (Th.note t ps w).dat v):∃a b,v=.ref a/\xg K H a [.str "note",.str t,.ref b,.str w]/\xg K H b (ps.map V.str):=by
 obtain⟨a,x,rfl,i,n,q,rfl,d,o,r,rfl,e,u,s,rfl,⟨b,y,rfl,hb,j⟩,p,l,rfl,f,g⟩:=h;have d:n=.str "note":=d;have e:o=.str t:=e;have f:p=.str w:=f;have g:l=[]:=g;subst d e f g;rw[za.uc j]at hb;exact⟨a,b,rfl,i,hb⟩
theorem vQ {t:Th}(h:Dt K H t.dat v):∃a r,v=.ref a/\xg K H a (.str t.word::r):=by
 cases t with
 |leaf ls=>obtain⟨a,b,e,d,_⟩:=CO h;exact⟨a,_,e,d⟩
 |tree rs=>obtain⟨a,b,e,d,_⟩:=CY h;exact⟨a,_,e,d⟩
 |note t ps w=>obtain⟨a,b,e,d,_⟩:=CS h;exact⟨a,_,e,d⟩
theorem Wf (h:Dt K H (zm r) v):∃a,v=.ref a/\xg K H a [.str r.1,.str r.2]:=by
 obtain⟨a,n,rfl,f,i,l,rfl,b,j,g,rfl,d,e⟩:=h;have b:i=.str r.1:=b;have d:j=.str r.2:=d;have e:g=[]:=e;subst b d e;exact⟨a,rfl,f⟩
theorem Hn {rs:Dg}{i:Nat}{x:V}(h:za K H (rs.map zm) xs)(e:xs[i]?=some x):∃r a,rs[i]?=some r/\x=.ref a/\xg K H a [.str r.1,.str r.2]:=by
 obtain⟨d,b,f⟩:=h.get e;rw[Zs]at b;cases q:rs[i]? with
 |none=>rw[q]at b;cases b
 |some r =>
  rw[q]at b;have b:zm r=d:=Option.some.inj b;subst b;obtain⟨a,g,j⟩:=Wf f;exact⟨r,a,rfl,g,j⟩
end
def IB (K:Cc):Sp:=fun b H Q _=>∃v t,b=[v]/\Dt K H (Th.dat t) v/\Q (.str t.letter) H
def XR (K:Cc):Sp:=fun d H Q _=>∃v b,d=[v]/\Dt K H (.tuple<|b.map zm) v/\b.length<=1000/\∀l,H l=none->Q (.ref l) (upd H l<|.lst<|(yB b).map V.str)
def Nn (K:Cc):Sp:=fun d H Q _=>∃v t,d=[v]/\Dt K H (Th.dat t) v/\t.Good/\∀l b,zy H b->H l=none->b l=some (.lst<|t.parts.map V.str)->Q (.ref l) b
def Ba:Sp:=fun b H Q _=>∃x,b=[.str x]/\x.length<=1000/\Q (.str<|counted x) H
def BK (K:Cc):Sp:=fun d H Q _=>∃v t,d=[v]/\Dt K H (Th.dat t) v/\t.Good/\∀b,zy H b->Q (.str t.sp) b
def Ht (K:Cc):Sp:=fun d H Q _=>∃v t,d=[v]/\Dt K H (Th.dat t) v/\t.Good/\∀b,zy H b->Q (.int<|dg t.sp) b
structure Txt (P:Ej)(w:Ep)(K:Cc)(mg:Str->Dc)(t1 t2 t3 t4 t5 t6 t7:Tok)(aL aC aN aT aA b1 b2 b3 b4 b5 b6:Ei):Prop where
 len:mg "len"=none
 all:mg "all"=none
 ord:mg "ord"=none
 isinstance:mg "isinstance"=none
 str:mg "str"=none
 set:mg "set"=none
 sorted:mg "sorted"=none
 tuple:mg "tuple"=none
 list:mg "list"=none
 max:mg "max"=none
 int:mg "int"=none
 bool:mg "bool"=none
 range:mg "range"=none
 dict:mg "dict"=none
 any:mg "any"=none
 pO:mg "LONGEST_LINE"=some (.int 20 t1)
 qp:mg "LONGEST_LABEL"=some (.int 8 t2)
 pY:mg "MOST_PARENTS"=some (.int 2 t3)
 PERCENT:mg "PERCENT"=some (.int 37 t4)
 pG:mg "MOST_LABELS"=some (.int 4 t7)
 qj:mg "DIGEST_FACTOR"=some (.int 31 t5)
 p7:mg "DIGEST_BOUND"=some (.int 97 t6)
 LETTERS:mg "LETTERS"=some (.ref aL)
 pP:mg "NoName"=some (.ref aN)
 oF:mg "NoThing"=some (.ref aT)
 pB:mg "AnnalsError"=some (.ref aA)
 oE:mg "BadPath"=some (.ref b1)
 vo:mg "BadFiles"=some (.ref b2)
 lK:mg "NoFit"=some (.ref b3)
 jx:mg "Clash"=some (.ref b4)
 nJ:mg "NoVersion"=some (.ref b5)
 mC:mg "BadLine"=some (.ref b6)
 ValueError:mg "ValueError"=none
 enumerate:mg "enumerate"=none
 jm:mg "Shelf"=some (.ref aC)
 pU:EZ K aN U0 "ValueError.__new__"=true
 m9:EZ K aT U0 "ValueError.__new__"=true
 mV:EZ K b1 U0 "ValueError.__new__"=true
 vy:EZ K b2 U0 "ValueError.__new__"=true
 dst:[aN,b1,b2,b3,aT,b4,b5,b6].Nodup
 ek:∀a∈[aN,b1,b2,b3],PySem.W.tY K a
 kx:∀a∈[aN,b1,b2,b3],∀b∈[aN,b1,b2,b3,aT,b4,b5,b6],ET K (.ref a) (.ref b)=some (decide (a=b))
 kv:∀a∈[aN,b1,b2,b3],ET K (.ref a) (.type "ValueError")=some true
 exm:∀a∈[aN,b1,b2,b3],PySem.W.exmOne K (.ref a) (.ref aA)=some true
 lw:EZ K b3 U0 "ValueError.__new__"=true
 kd:KD P w K aL xR
 cls:Cls K aC
 n1:tZ K aC "thing_by_name"
 n2:tZ K aC "name_by_thing"
 n3:tZ K aC "next_numbers"
 kit:∀a∈kinds,∀b∈kinds,ET K (.type a) (.type b)=some (a==b||(a=="bool"&&b=="int"))
theorem uH (d:Ek):UE d∈kinds:=by cases d<;>simp[UE,kinds]
def U1:Ek->Str
 | .str x=>x
 |_=>""
def jF:Ek->Bool
 | .tuple ds=>ds.all UJ&&(decide (ds.length<=2)&&decide ((AxS.uniq<|ds.map U1).length=ds.length))
 |_=>false
inductive sS (K:Cc)(vs:Dj)(H:Hp)(Q:VK)(e3:XK):Prop
 |mk (d:Ek) (v:V) (h0:vs=[v]) (h1:Dw K H d v) (h2:small d=true) (h3:∀H',zy H H'->Q (.bl<|jF d) H'):sS K vs H Q e3
theorem HB {K:Cc}:∀{ds:Df} {xs:Dj},yo K H ds xs->ds.all UJ=true->xs=(ds.map U1).map V.str
 |[],_,h,_=>by rw[show _=[] from h];rfl
 | .str x::ds,_,⟨v,r,e,hv,hr⟩,h=>by
  rw[List.all_cons,Zk]at h;rw[e,HB hr h.2,show v=V.str x from hv];rfl
 | .none::_,_,_,h=>by cases h
 | .bool _::_,_,_,h=>by cases h
 | .int _::_,_,_,h=>by cases h
 | .list _::_,_,_,h=>by cases h
 | .tuple _::_,_,_,h=>by cases h
 | .dict _::_,_,_,h=>by cases h
theorem uO (d:Ek):(UE d=="str"||(UE d=="bool"&&"str"=="int"))=UJ d:=by cases d<;>rfl
def UY:Ek->Str
 | .tuple (.str l::_)=>l
 |_=>""
def BM:Ek->Bool
 | .tuple ds=>ds.all Xb&&Xg (ds.map UY)
 |_=>false
inductive oW (K:Cc)(vs:Dj)(H:Hp)(Q:VK)(e3:XK):Prop
 |mk (d:Ek) (v:V) (h0:vs=[v]) (h1:Dw K H d v) (h2:small d=true) (h3:(∀ds,d=.tuple ds->ds.length<=63)) (h4:∀H',zy H H'->Q (.bl<|BM d) H'):oW K vs H Q e3
theorem Nk {K:Cc}(h:Dw K H d v)(r:Xb d=true):∃(t:Ei) (y:V),v=.ref t/\xg K H t [.str<|UY d,y]/\zP (UY d)=true:=by
 match d,r with
 | .tuple [l,n],r =>
  have r:(vH l&&UJ n)=true:=r;rw[Zk]at r;obtain⟨t,q,rfl,f,i,p,rfl,b,j,g,rfl,o,e⟩:=h;have e:g=[]:=e;subst e;cases l with
  |str x=>cases(show i=_ from b);exact⟨t,j,rfl,f,r.1⟩
  |none=>cases r.1
  |bool _=>cases r.1
  |int _=>cases r.1
  |list _=>cases r.1
  |tuple _=>cases r.1
  |dict _=>cases r.1
theorem Bu (h:zP x=true):Er x=true:=by
 unfold zP at h;rw[Zk]at h;rw[yV];intro c b;have:=ZA.mp h.2 c b;unfold UO at this;rw[Zk]at this;have:=Zx this.2;lia
def CA (ds:Df)(i:Nat):PyData:=(ds[i]?).getD .none
def UX (word:Str)(ds:Df):Bool:=decide (word="leaf")&&(decide (ds.length=1)&&xP (CA ds 0))
def U5 (word:Str)(ds:Df):Bool:=decide (word="tree")&&(decide (ds.length=1)&&BM (CA ds 0))
inductive sV (K:Cc)(b:Str->Df->Bool)(vs:Dj)(H:Hp)(Q:VK)(e3:XK):Prop
 |mk (word:Str) (a:Ei) (ds:Df) (xs:Dj) (h0:vs=[.str word,.ref a]) (h1:xg K H a xs) (h2:yo K H ds xs) (h3:yH ds=true) (h4:ds.length<=63) (h5:(∀e∈ds,∀es,e=.tuple es->es.length<=63)) (h6:∀H',zy H H'->Q (.bl<|b word ds) H'):sV K b vs H Q e3
def U7 (word:Str)(ds:Df):Bool:=decide (word="note")&&(decide (ds.length=3)&&(UJ (CA ds 0)&&(jF (CA ds 1)&&US (CA ds 2))))
def uK:Ek->Bool
 | .tuple (.str word::ds)=>UX word ds||(U5 word ds||U7 word ds)
 |_=>false
def narrow (d:Ek):Prop:=∀b,d=.tuple b->b.length<=63/\∀e∈b,∀f,e=.tuple f->f.length<=63
inductive qu (K:Cc)(vs:Dj)(H:Hp)(Q:VK)(e3:XK):Prop
 |mk (d:Ek) (v:V) (h0:vs=[v]) (h1:Dw K H d v) (h2:small d=true) (h3:narrow d) (h4:∀H',zy H H'->Q (.bl<|uK d) H'):qu K vs H Q e3
theorem RL {K:Cc}{H':Hp}{lo:Option Int}{v:V}(b:xg K H a xs)(h:(v=.ref a/\H'=H/\UQ xs lo hi=xs)\/(∃p,H p=none/\v=.ref p/\H'=upd H p (.tup<|UQ xs lo hi))) :
  ∃p:Ei,v=.ref p/\zy H H'/\xg K H' p (UQ xs lo hi):=by
 rcases h with⟨rfl,rfl,e2⟩|⟨p,np,rfl,rfl⟩
 ·exact⟨a,rfl,zy.refl _,by rw[e2];exact b⟩
 ·exact⟨p,rfl,zF np,xg.of zB⟩
inductive oN (K:Cc)(aT:Ei)(vs:Dj)(H:Hp)(Q:VK)(E:XK):Prop
 |mk (d:Ek) (v:V) (h0:vs=[v]) (h1:Dw K H d v) (h2:small d=true) (h3:narrow d) (h4:(uK d=true->∀H',zy H H'->Q v H')) (h5:(uK d=false->∀H',zy H H'->E (.ref aT) none H')):oN K aT vs H Q E
def X4 (S:Di):Ek->Bool
 | .str x=>decide (x∈S.map En.nm)
 |_=>false
inductive pI (P:Ej)(w:Ep)(K:Cc)(C:Ei)(vs:Dj)(H:Hp)(Q:VK)(e3:XK):Prop
 |mk (a:Ei) (fp:Dd) (S:Di) (e:En) (t:Ei) (h0:vs=[.ref a,.str e.nm,.ref t]) (h1:yq P w K C H a fp S) (h2:mU e) (h3:Dt K H e.d<|.ref t) (h4:e.d∉S.map (·.d)) (h5:e.nm∉S.map En.nm) (h6:S.length<2000) (h7:∀H',Off fp H H'->yq P w K C H' a fp (S++[e])->Q .non H'):pI P w K C vs H Q e3
inductive rM (P:Ej)(w:Ep)(K:Cc)(C:Ei)(vs:Dj)(H:Hp)(Q:VK)(e3:XK):Prop
 |mk (a:Ei) (fp:Dd) (S:Di) (h0:vs=[.ref a]) (h1:yq P w K C H a fp S) (h2:∀l,H l=none->Q (.ref l) (upd H l<|.lst<|S.map fun e=>V.str e.nm)):rM P w K C vs H Q e3
def WY (Dm:Dl):Ek->Bool
 | .str x=>(Uu Dm (Ev x:Key)).isSome
 |_=>false
inductive mY (K:Cc)(vs:Dj)(H:Hp)(Q:VK)(e3:XK):Prop
 |mk (d1:Ei) (Dm:Dl) (d:Ek) (v:V) (h0:vs=[.ref d1,v]) (h1:H d1=some (.dK Dm)) (h2:Dw K H d v) (h3:Q (.bl<|WY Dm d) H):mY K vs H Q e3
inductive sO (P:Ej)(w:Ep)(K:Cc)(C aN:Ei)(vs:Dj)(H:Hp)(Q:VK)(E:XK):Prop
 |mk (a:Ei) (fp:Dd) (S:Di) (d:Ek) (v:V) (h0:vs=[.ref a,v]) (h1:yq P w K C H a fp S) (h2:Dw K H d v) (h3:(X4 S d=true->Q .non H)) (h4:(X4 S d=false->E (.ref aN) none H)):sO P w K C aN vs H Q E
inductive nZ (P:Ej)(w:Ep)(K:Cc)(C:Ei)(vs:Dj)(H:Hp)(Q:VK)(e3:XK):Prop
 |mk (a:Ei) (fp:Dd) (S:Di) (d:Ek) (v:V) (h0:vs=[.ref a,v]) (h1:yq P w K C H a fp S) (h2:Dw K H d v) (h3:Q (.bl<|X4 S d) H):nZ P w K C vs H Q e3
inductive vf (P:Ej)(w:Ep)(K:Cc)(C aN:Ei)(vs:Dj)(H:Hp)(Q:VK)(E:XK):Prop
 |mk (a:Ei) (fp:Dd) (S:Di) (d:Ek) (v:V) (h0:vs=[.ref a,v]) (h1:yq P w K C H a fp S) (h2:Dw K H d v) (h3:(∀e∈S,d=.str e.nm->∀t,Dt K H e.d (.ref t)->Q (.ref t) H)) (h4:(X4 S d=false->E (.ref aN) none H)):vf P w K C aN vs H Q E
inductive p8 (P:Ej)(w:Ep)(K:Cc)(C aN:Ei)(vs:Dj)(H:Hp)(Q:VK)(E:XK):Prop
 |mk (a f:Ei) (fp:Dd) (S:Di) (x:Str) (ws:Da) (h0:vs=[.ref a,.str x,.ref f]) (h1:yq P w K C H a fp S) (h2:(∀e∈S,By e)) (h3:xg K H f<|ws.map V.str) (h4:(∀y∈ws,Er y=true)) (h5:(zS S x ws=true->Q .non H)) (h6:(zS S x ws=false->E (.ref aN) none H)):p8 P w K C aN vs H Q E
inductive pW (P:Ej)(w:Ep)(K:Cc)(C aN:Ei)(vs:Dj)(H:Hp)(Q:VK)(E:XK):Prop
 |mk (a:Ei) (fp:Dd) (S:Di) (t:Th) (v:V) (h0:vs=[.ref a,v]) (h1:yq P w K C H a fp S) (h2:(∀e∈S,By e)) (h3:Dt K H t.dat v) (h4:(namesOk S t=true->∀H',zy H H'->Q .non H')) (h5:(namesOk S t=false->∀H',zy H H'->E (.ref aN) none H')):pW P w K C aN vs H Q E
def Tq (P:Ej)(w:Ep)(K:Cc)(C:Ei)(H:Hp)(a:Ei)(fp:Dd)(S:Di)(t:Th)(f:Hp)(b:Di)(e:En):Prop :=
 Off fp H f/\yq P w K C f a fp b/\e∈b/\e.d=t.dat/\(b=S\/(b=S++[e]/\e=GO S t/\t.dat∉S.map (·.d)))
inductive vm (P:Ej)(w:Ep)(K:Cc)(C aN aT:Ei)(vs:Dj)(H:Hp)(Q:VK)(E:XK):Prop
 |mk (a:Ei) (fp:Dd) (S:Di) (d:Ek) (v:V) (h0:vs=[.ref a,v]) (h1:yq P w K C H a fp S) (h2:(∀e∈S,By e)) (h3:Dw K H d v) (h4:small d=true) (h5:narrow d) (h6:(uK d=true->∃t:Th,d=t.dat/\t.Good)) (h7:S.length<2000) (h8:(∀h,(xu S h).getD 0<1000000)) (h9:(uK d=false->∀H',zy H H'->E (.ref aT) none H')) (h10:(∀t,d=t.dat->uK d=true->namesOk S t=false->∀H',zy H H'->E (.ref aN) none H')) (h11:(∀t,d=t.dat->uK d=true->namesOk S t=true->∀H2 S' e,Tq P w K C H a fp S t H2 S' e->Q (.str e.nm) H2)):vm P w K C aN aT vs H Q E
inductive oX (P:Ej)(w:Ep)(K:Cc)(C:Ei)(vs:Dj)(H:Hp)(Q:VK)(e3:XK):Prop
 |mk (x dx:Ei) (b:V) (S:Di) (h0:vs=[.ref x,b]) (h1:H x=some (.ins C dx [])) (h2:H dx=some (.own x)) (h3:dx≠x) (h4:((b=.non/\S=[])\/∃a fp0,b=.ref a/\yq P w K C H a fp0 S/\x∉fp0/\dx∉fp0/\S.length<2000)) (h5:∀fp H',(∀c∈fp,c=x\/c=dx\/H c=none)->Off [x] H H'->yq P w K C H' x fp S->Q .non H'):oX P w K C vs H Q e3
section
variable {P:Ej}{w:Ep}{K:Cc}{mg:Str->Dc}{base:EB}{t1 t2 t3 t4 t5 t6 t7:Tok}{aL aC aN aT aA b1 b2 b3 b4 b5 b6:Ei}(T:Txt P w K mg t1 t2 t3 t4 t5 t6 t7 aL aC aN aT aA b1 b2 b3 b4 b5 b6)
theorem Txt.is {T:String}(t:Txt P w K mg t1 t2 t3 t4 t5 t6 t7 aL aC aN aT aA b1 b2 b3 b4 b5 b6)(b:T∈kinds):ET K (.type<|UE d) (.type T)=some (UE d==T||(UE d=="bool"&&T=="int")):=t.kit _ (uH d) _ b
namespace Aa
abbrev st:Stmt:=top 18
theorem sc:zx ["sign"] ["sign"] (zG st):=Co
include T in
theorem ok (F:xf0 K "is_sign" st f fd):yx P w K mg base Cn 1 f fd ["sign"] Rk:=by
 refine F.ok sc fun _ _ _ _ H i Q E g h=>?_;obtain⟨c,rfl,k⟩:=h;refine⟨_,(zE<|zM<|y8 (IH B2 B2 zz (pv 0) zz)<|x8<|yN M9 (zK Fg (by rfl) T.ord PyProof.Rows.boot_ord<|zA (pv 0) zC) (xB (v:=.int 37) rfl T.PERCENT ⟨_,rfl⟩)<|zV _),?_⟩;refine⟨_,rfl,_,_,rfl,rfl,_,rfl,?_⟩;rw[Pc c 32 " "<|by decide +kernel];refine UB (fun b=>?_)<|fun b=>?_
 ·refine⟨_,_,rfl,rfl,_,rfl,?_⟩;rw[one_le c 126 "~"<|by decide +kernel];refine UB (fun d=>?_)<|fun d=>?_
  ·refine⟨_,rfl,_,rfl,rfl,rfl,?_⟩;have e:UL c=!decide (V.int (((⟨#[c]⟩:Str).cps.getD 0 0:Nat):Int)=V.int 37):=by
    unfold UL;rw[b,d];show decide (c≠37)=!decide (V.int (c:Int)=V.int 37);rw[eq_comm];exact B4 ⟨fun h z=>h (by rw[z];rfl),fun h z=>h (by injection z with z;lia)⟩
   rw[e]at k;exact k
  ·have e:UL c=false:=by
    unfold UL;rw[b,Z0.mpr d];rfl
   rw[e]at k;exact k
 ·have e:UL c=false:=by
   unfold UL;rw[Z0.mpr b];rfl
  rw[e]at k;exact⟨_,rfl,k⟩
end Aa
namespace Ab
abbrev st:Stmt:=top 19
theorem sc:zx ["thing"] ["thing"] (zG st):=Co
include T in
theorem ok (F:xf0 K "is_line" st f fd)(q:xj P w K mg base 1 "is_sign" ["sign"] Rk):yx P w K mg base Cn 2 f fd ["thing"] (KM K):=by
 refine F.ok sc fun _ _ _ _ H A Q E s h=>?_;obtain⟨d,v,rfl,hd,u,k⟩:=h;refine⟨_,(zE<|zM<|y8 (zK (zT (K:=K)) (by rfl) T.isinstance Zw<|zA (pv 0)<|zA (yY (v:=.ty "str") rfl T.str Yd rfl) zC)<|y8 (yN FZ (zK xZ (by rfl) T.len ZZ<|zA (pv 0) zC) (xB (v:=.int 20) rfl T.pO ⟨_,rfl⟩)<|zV _)<|x8<|zK (jC rfl) (by rfl) T.all YK<|zA (qC (sc:=zG st) (N:=["thing"]) (N':=["sign"]) (src:=[none]) .a rfl rfl rfl (Kw<|pv 0) (fun _ _ _ _=>(zR (i:=0) (show(["sign"]:Da).Nodup by decide +kernel) rfl (EL rfl))) (fun _ _ _ _=>qY) (fun _ _ _ _=>(zJ q s.m<|zA (pv 0) zC))) zC),?_⟩;refine⟨_,rfl,_,_,d,_,rfl,hd,T.is<|by simp[kinds],_,rfl,?_⟩;cases d with
 |str x =>
  cases(show v=_ from hd);have B:x.length<=1000:=Zx u;refine Ur ⟨_,rfl,x,rfl,zp<|by lia,_,_,rfl,rfl,_,rfl,UB (fun g=>?_)<|fun g=>?_⟩
  ·have g:x.length<=20:=by have:=Zx g;lia
   refine⟨_,rfl,_,rfl,Bk (fun i l n j=>∃o,n=[o]/\j=H/\l=(((cs x).take i).map UL).map V.bl) ⟨none,rfl,rfl,rfl⟩ (zp<|by lia) ?_ ?_ ?_⟩
   ·rintro i l n j y ⟨o,rfl,rfl,rfl⟩;rw[Za,Za,ZG];lia
   ·rintro i c l n j r ⟨o,rfl,rfl,rfl⟩;refine⟨_,rfl,c,rfl,_,rfl,rfl,?_⟩;rw[yP<|OJ r,Zo];rfl
   ·rintro l n j ⟨o,rfl,rfl,rfl⟩ p t;refine⟨p,_,rfl,xx.of zB,?_⟩;rw[zb,ZJ,all_map];have e:US (.str x)=(cs x).all UL:=by
     show(decide (x.length<=20)&&(cs x).all UL)=_;rw[Ze g];rfl
    rw[e]at k;exact k _<|zF t
  ·have e:US (.str x)=false:=by
    show(decide (x.length<=20)&&(cs x).all UL)=_;rw[Zn<|fun z=>g<|Ze<|by lia];rfl
   rw[e]at k;exact k _<|zy.refl _
 |none=>exact Ut<|k _<|zy.refl _
 |bool b=>exact Ut<|k _<|zy.refl _
 |int i=>exact Ut<|k _<|zy.refl _
 |list ds=>exact Ut<|k _<|zy.refl _
 |tuple ds=>exact Ut<|k _<|zy.refl _
 |dict Dm=>exact Ut<|k _<|zy.refl _
end Ab
namespace Ac
abbrev st:Stmt:=top 20
theorem sc:zx ["thing"] ["thing"] (zG st):=Co
include T in
theorem ok (F:xf0 K "is_lines" st f fd)(r:xj P w K mg base 2 "is_line" ["thing"]<|KM K):yx P w K mg base Cn 3 f fd ["thing"] (Ir K):=by
 refine F.ok sc fun _ _ _ _ H G Q E u h=>?_;obtain⟨d,v,rfl,hd,A,k⟩:=h;refine⟨_,(zE<|zM<|y8 (zK (zT (K:=K)) (by rfl) T.isinstance Zw<|zA (pv 0)<|zA (yY (v:=.ty "tuple") rfl T.tuple Yu rfl) zC)<|x8<|zK (jC rfl) (by rfl) T.all YK<|zA (qC (sc:=zG st) (N:=["thing"]) (N':=["line"]) (src:=[none]) .a rfl rfl rfl (uI<|pv 0) (fun _ _ _ _=>(zR (i:=0) (show(["line"]:Da).Nodup by decide +kernel) rfl (EL rfl))) (fun _ _ _ _=>qY) (fun _ _ _ _=>(zJ r u.m<|zA (pv 0) zC))) zC),?_⟩;refine⟨_,rfl,_,_,d,_,rfl,hd,T.is<|by simp[kinds],_,rfl,?_⟩;cases d with
 |tuple ds =>
  obtain⟨a,xs,rfl,n,ha⟩:=hd;obtain⟨D,sa⟩:=xU A;have q:=ha.length;refine Ur ⟨_,rfl,a,rfl,⟨_,n⟩,jN (K:=K) (a:=a) (xs:=xs) (fun i j l g=>∃o,l=[o]/\zy H g/\j=((ds.take i).map US).map V.bl) ⟨none,rfl,zy.refl _,rfl⟩ (zp<|by lia) ?_ ?_ ?_⟩
  ·rintro i j l g C ⟨o,rfl,e,rfl⟩;refine⟨e.yh n,?_⟩;rw[Za,Za,ZG];lia
  ·rintro i x j l g y ⟨o,rfl,e,rfl⟩;obtain⟨d,hd,s⟩:=ha.get y;refine⟨_,rfl,d,x,rfl,s.same e,yO sa hd,fun B t=>⟨_,rfl,e.trans t,?_⟩⟩;rw[yP hd,Zo];rfl
  ·rintro j l g ⟨o,rfl,e,rfl⟩ p z;refine⟨p,_,rfl,xx.of zB,?_⟩;rw[q,ZJ,all_map];exact k _<|e.trans<|zF z
 |none=>exact Ut<|k _<|zy.refl _
 |bool b=>exact Ut<|k _<|zy.refl _
 |int i=>exact Ut<|k _<|zy.refl _
 |list ds=>exact Ut<|k _<|zy.refl _
 |str x=>exact Ut<|k _<|zy.refl _
 |dict Dm=>exact Ut<|k _<|zy.refl _
end Ac
namespace Ad
abbrev st:Stmt:=top 21
theorem sc:zx ["thing"] ["thing"] (zG st):=Co
include T in
theorem ok (F:xf0 K "is_label" st f fd):yx P w K mg base Cn 1 f fd ["thing"] (B8 K):=by
 refine F.ok sc fun _ _ _ _ H B Q E A h=>?_;obtain⟨d,v,rfl,hd,u,k⟩:=h;refine⟨_,(zD (yI (xD<|zO (K:=K)<|zK (zT (K:=K)) (by rfl) T.isinstance Zw<|zA (pv 0)<|zA (yY (v:=.ty "str") rfl T.str Yd rfl) zC) (zE<|zM v9) zQ)<|zE<|zM<|y8 (IH FZ FZ zH (zK xZ (by rfl) T.len ZZ<|zA (pv 0) zC)<|xB (v:=.int 8) rfl T.qp ⟨_,rfl⟩)<|x8<|zK (jC rfl) (by rfl) T.all YK<|zA (qC (sc:=zG st) (N:=["thing"]) (N':=["sign"]) (src:=[none]) .a rfl rfl rfl (Kw<|pv 0) (fun _ _ _ _=>(zR (i:=0) (show(["sign"]:Da).Nodup by decide +kernel) rfl (EL rfl))) (fun _ _ _ _=>qY) (fun _ _ _ _=>(IH B2 B2 zz (pv 0) zz))) zC),?_⟩
 refine⟨_,rfl,_,_,d,_,rfl,hd,T.is<|by simp[kinds],_,rfl,?_⟩;cases d with
 |str x =>
  cases(show v=_ from hd);have C:x.length<=1000:=Zx u;refine Ut ?_;refine⟨_,rfl,x,rfl,zp<|by lia,_,_,rfl,rfl,_,rfl,UB (fun g=>?_)<|fun g=>?_⟩
  ·refine⟨_,_,rfl,rfl,_,rfl,UB (fun j=>?_)<|fun j=>?_⟩
   ·have g:1<=x.length:=by have:=Zx g;lia
    have j:x.length<=8:=by have:=Zx j;lia
    refine⟨_,rfl,_,rfl,Bk (fun i n q l=>∃o,q=[o]/\l=H/\n=(((cs x).take i).map UO).map V.bl) ⟨none,rfl,rfl,rfl⟩ (zp<|by lia) ?_ ?_ ?_⟩
    ·rintro i n q l y ⟨o,rfl,rfl,rfl⟩;rw[Za,Za,ZG];lia
    ·rintro i c n q l s ⟨o,rfl,rfl,rfl⟩;rw[yP<|OJ s,Zo];refine⟨_,rfl,_,_,rfl,rfl,_,rfl,?_⟩;rw[Pc c 97 "a"<|by decide +kernel];refine UB (fun r=>?_)<|fun r=>?_
     ·refine⟨_,_,rfl,rfl,?_⟩;rw[one_le c 122 "z"<|by decide +kernel];have e:UO c=decide (c<=122):=by unfold UO;rw[r];rfl
      rw[e];exact⟨_,rfl,rfl,rfl⟩
     ·have e:UO c=false:=by unfold UO;rw[Z0.mpr r];rfl
      rw[e];exact⟨_,rfl,rfl,rfl⟩
    ·rintro n q l ⟨o,rfl,rfl,rfl⟩ p t;refine⟨p,_,rfl,xx.of zB,?_⟩;rw[zb,ZJ,all_map];have e:vH (.str x)=(cs x).all UO:=by
      show(decide (1<=x.length)&&decide (x.length<=8)&&(cs x).all UO)=_;rw[Ze g,Ze j];rfl
     rw[e]at k;exact k _<|zF t
   ·have e:vH (.str x)=false:=by
     show(decide (1<=x.length)&&decide (x.length<=8)&&(cs x).all UO)=_;rw[Zn (p:=x.length<=8)<|fun z=>j<|Ze<|by lia,Jp];rfl
    rw[e]at k;exact k _<|zy.refl _
  ·have e:vH (.str x)=false:=by
    show(decide (1<=x.length)&&decide (x.length<=8)&&(cs x).all UO)=_;rw[Zn (p:=1<=x.length)<|fun z=>g<|Ze<|by lia];rfl
   rw[e]at k;exact⟨_,rfl,k _<|zy.refl _⟩
 |none=>exact Ur<|k _<|zy.refl _
 |bool b=>exact Ur<|k _<|zy.refl _
 |int i=>exact Ur<|k _<|zy.refl _
 |list ds=>exact Ur<|k _<|zy.refl _
 |tuple ds=>exact Ur<|k _<|zy.refl _
 |dict Dm=>exact Ur<|k _<|zy.refl _
end Ad
namespace Ae
abbrev st:Stmt:=top 22
theorem sc:zx ["thing"] ["thing"] (zG st):=Co
include T in
theorem ok (F:xf0 K "is_row" st f fd)(s:xj P w K mg base 1 "is_label" ["thing"]<|B8 K):yx P w K mg base Cn 2 f fd ["thing"] (S9 K):=by
 refine F.ok sc fun _ _ _ _ H C Q E t h=>?_;obtain⟨d,v,rfl,hd,u,k⟩:=h;refine⟨_,(zE<|zM<|y8 (zK (zT (K:=K)) (by rfl) T.isinstance Zw<|zA (pv 0)<|zA (yY (v:=.ty "tuple") rfl T.tuple Yu rfl) zC)<|y8 (yN xJ (zK z8 (by rfl) T.len ZZ<|zA (pv 0) zC) zH<|zV _)<|y8 (zJ s t.m<|zA (yM (yp:Cq _<|wQ K) (pv 0) zH) zC)<|x8<|zK (zT (K:=K)) (by rfl) T.isinstance Zw<|zA (yM (yp:Cq _<|wQ K) (pv 0) zH)<|zA (yY (v:=.ty "str") rfl T.str Yd rfl) zC),?_⟩;refine⟨_,rfl,_,_,d,_,rfl,hd,T.is<|by simp[kinds],_,rfl,?_⟩;cases d with
 |tuple ds =>
  obtain⟨a,y,rfl,q,ha⟩:=hd;obtain⟨B,sa⟩:=xU u;have r:=ha.length;refine Ur ⟨_,rfl,a,_,rfl,.inr q,rfl,_,rfl,UB (fun g=>?_)<|fun g=>?_⟩
  ·have g:y.length=2:=by have:=Zx g;injection this with z;lia
   match ds,ha,r,sa,k with
   |[l,n],⟨x0,r0,e0,d0,x1,r1,e1,d1,o⟩,_,sa,k =>
    have o:r1=[]:=o;subst o e1 e0;refine⟨_,rfl,a,_,_,_,rfl,rfl,q,rfl,l,_,rfl,d0,yO (i:=0) sa rfl,fun A j=>⟨_,rfl,UB (fun p=>?_)<|fun p=>?_⟩⟩
    ·refine⟨_,rfl,a,_,_,_,rfl,rfl,j.yh q,rfl,_,_,n,_,rfl,d1.same j,T.is<|by simp[kinds],?_⟩;have e:Xb (.tuple [l,n])=(UE n=="str"||(UE n=="bool"&&"str"=="int")):=by
      show(vH l&&UJ n)=_;rw[p];cases n<;>rfl
     rw[e]at k;exact k _ j
    ·have e:Xb (.tuple [l,n])=false:=by
      show(vH l&&UJ n)=_;rw[Z0.mpr p];rfl
     rw[e]at k;exact k _ j
   |[],_,hl,_,_=>exact absurd (hl.symm.trans g) (by simp)
   |[_],_,hl,_,_=>exact absurd (hl.symm.trans g) (by simp)
   |_::_::_::_,_,hl,_,_=>exact absurd (hl.symm.trans g) (by simp)
  ·have e:Xb (.tuple ds)=false:=by
    match ds,r with
    |[_,_],hl=>exact absurd (Ze (by rw[hl];rfl)) g
    |[],_=>rfl
    |[_],_=>rfl
    |_::_::_::_,_=>rfl
   rw[e]at k;exact k _<|zy.refl _
 |none=>exact Ut<|k _<|zy.refl _
 |bool b=>exact Ut<|k _<|zy.refl _
 |int i=>exact Ut<|k _<|zy.refl _
 |list ds=>exact Ut<|k _<|zy.refl _
 |str x=>exact Ut<|k _<|zy.refl _
 |dict Dm=>exact Ut<|k _<|zy.refl _
end Ae
namespace Af
abbrev st:Stmt:=top 24
theorem sc:zx ["thing"] ["thing"] (zG st):=Co
include T in
theorem ok (F:xf0 K "is_parents" st f fd):yx P w K mg base Cn 1 f fd ["thing"] (sS K):=by
 refine F.ok sc fun _ _ _ _ H M Q E L h=>?_;obtain⟨d,v,rfl,hd,I,k⟩:=h;refine⟨_,(zD (yI (PW.pt<|uN (xD<|zO (K:=K)<|zK (zT (K:=K)) (by rfl) T.isinstance Zw<|zA (pv 0)<|zA (yY (v:=.ty "tuple") rfl T.tuple Yu rfl) zC)<|jJ<|xD<|zO (K:=K)<|zK (jC rfl) (by rfl) T.all YK<|zA (qC (sc:=zG st) (N:=["thing"]) (N':=["name"]) (src:=[none]) .a rfl rfl rfl (uI<|pv 0) (fun _ _ _ _=>(zR (i:=0) (show(["name"]:Da).Nodup by decide +kernel) rfl (EL rfl))) (fun _ _ _ _=>qY) (fun _ _ _ _=>(zK (zT (K:=K)) (by rfl) T.isinstance Zw<|zA (pv 0)<|zA (yY (v:=.ty "str") rfl T.str Yd rfl) zC))) zC) (zE<|zM v9) zQ) (zE<|zM<|y8 (yN FZ (zK z8 (by rfl) T.len ZZ<|zA (pv 0) zC) (xB (v:=.int 2) rfl T.pY ⟨_,rfl⟩)<|zV _)<|x8<|yN xJ (zK NE (by rfl) T.len ZZ<|zA (yK (Fh (K:=K) rfl) (by rfl) T.set PyProof.Rows.boot_set (zA (pv 0) zC)) zC) (zK z8 (by rfl) T.len ZZ<|zA (pv 0) zC) (zV _))),?_⟩
 refine⟨_,rfl,_,_,d,_,rfl,hd,T.is<|by simp[kinds],_,rfl,?_⟩;cases d with
 |tuple ds =>
  obtain⟨a,xs,rfl,g,ha⟩:=hd;obtain⟨G,sa⟩:=xU I;have y:=ha.length;refine Ut ⟨_,rfl,a,rfl,⟨_,g⟩,jN (K:=K) (a:=a) (xs:=xs) (fun i l n j=>∃o,n=[o]/\j=H/\l=((ds.take i).map UJ).map V.bl) ⟨none,rfl,rfl,rfl⟩ (zp<|by lia) ?_ ?_ ?_⟩
  ·rintro i l n j J ⟨o,rfl,rfl,rfl⟩;refine⟨g,?_⟩;rw[Za,Za,ZG];lia
  ·rintro i x l n j B ⟨o,rfl,rfl,rfl⟩;obtain⟨d,hd,A⟩:=ha.get B;refine⟨_,rfl,_,_,d,_,rfl,A,T.is<|by simp[kinds],_,rfl,rfl,?_⟩;rw[uO,yP hd,Zo];rfl
  ·rintro l n j ⟨o,rfl,rfl,rfl⟩ p D;refine⟨p,_,rfl,xx.of zB,?_⟩;rw[y,ZJ,all_map];have u:=zF (o:=.lst<|(ds.map UJ).map V.bl) D;cases q:ds.all UJ with
   |false =>
    have e:jF (.tuple ds)=false:=by show(ds.all UJ&&_)=false;rw[q];rfl
    rw[e]at k;exact⟨_,rfl,Ur<|k _ u⟩
   |true =>
    have ex:=HB ha q;rw[ex]at g;refine⟨_,rfl,Ut ?_⟩;refine⟨_,rfl,a,_,rfl,.inr<|u.yh g,_,_,rfl,rfl,_,rfl,UB (fun r=>?_)<|fun r=>?_⟩
    ·refine⟨_,rfl,a,ds.map U1,rfl,.inr<|u.yh g,by rw[Za];exact G,fun s n2=>?_⟩;have t:=zF (o:=CC P w s<|AxS.uniq<|ds.map U1) n2;refine⟨s,_,rfl,zB,_,rfl,a,_,rfl,.inr<|(u.trans t).yh g,rfl,?_⟩;have C:ds.length<=2:=by have:=Zx r;rw[Za,Za]at this;lia
     have e:jF (.tuple ds)=decide (V.int (((AxS.uniq<|ds.map U1).length:Nat):Int)=V.int (((((ds.map U1).map V.str).length:Nat)):Int)):=by
      show(ds.all UJ&&(decide (ds.length<=2)&&decide _))=_;rw[q,Ze C,VJ,VJ,Z4,ZC,ZC,Za,Za];constructor
      ·intro z;rw[z]
      ·intro z;injection z with z;lia
     rw[e]at k;exact k _<|u.trans t
    ·have e:jF (.tuple ds)=false:=by
      show(ds.all UJ&&(decide (ds.length<=2)&&_))=false;rw[Zn (p:=ds.length<=2)<|fun z=>r<|Ze (by rw[Za,Za];lia),Jm,Jp]
     rw[e]at k;exact k _ u
 |none=>exact Ur<|k _<|zy.refl _
 |bool b=>exact Ur<|k _<|zy.refl _
 |int i=>exact Ur<|k _<|zy.refl _
 |list ds=>exact Ur<|k _<|zy.refl _
 |str x=>exact Ur<|k _<|zy.refl _
 |dict Dm=>exact Ur<|k _<|zy.refl _
end Af
namespace Ag
abbrev st:Stmt:=top 23
theorem sc:zx ["thing","labels"] ["thing"] (zG st):=Co
include T in
theorem ok (F:xf0 K "is_rows" st f fd)(QE:xj P w K mg base 2 "is_row" ["thing"]<|S9 K):yx P w K mg base Cn 3 f fd ["thing"] (oW K):=by
 refine F.ok sc fun _ _ _ _ H vs Q E Y h=>?_;obtain⟨d,v,rfl,hd,sm,C,k⟩:=h;refine⟨_,(zD (yI (PW.pt<|uN (xD<|zO (K:=K)<|zK (zT (K:=K)) (by rfl) T.isinstance Zw<|zA (pv 0)<|zA (yY (v:=.ty "tuple") rfl T.tuple Yu rfl) zC)<|jJ<|xD<|zO (K:=K)<|zK (jC rfl) (by rfl) T.all YK<|zA (qC (sc:=zG st) (N:=["thing","labels"]) (N':=["row"]) (src:=[none]) .a rfl rfl rfl (uI<|pv 0) (fun _ _ _ _=>(zR (i:=0) (show(["row"]:Da).Nodup by decide +kernel) rfl (EL rfl))) (fun _ _ _ _=>qY) (fun _ _ _ _=>(zJ QE Y.m<|zA (pv 0) zC))) zC) (zE<|zM v9) zQ) (zD (Nf (sc:=zG st) (N:=["thing","labels"]) (N':=["row"]) (src:=[none]) .a rfl rfl rfl (uI<|pv 0) (fun _ _ _ _=>(zR (i:=0) (show(["row"]:Da).Nodup by decide +kernel) rfl (EL rfl))) (fun _ _ _ _=>qY) (fun _ _ _ _=>(yM (yp:Cq _<|wQ K) (pv 0) zH)) sc.nd rfl (EL rfl) (k:=1)) (zE<|zM<|yN (Ku Y.units) (pv 1) (zK (B7 rfl) (by rfl) T.sorted Va<|zA (yK (Fh (K:=K) rfl) (by rfl) T.set PyProof.Rows.boot_set (zA (pv 1) zC)) zC) (zV _)))),?_⟩
 refine⟨_,rfl,_,_,d,_,rfl,hd,T.is<|by simp[kinds],_,rfl,?_⟩;cases d with
 |tuple ds =>
  have C:=C ds rfl;obtain⟨a,xs,rfl,J,ha⟩:=hd;obtain⟨sl,sa⟩:=xU sm;have U:=ha.length;refine Ut ⟨_,rfl,a,rfl,⟨_,J⟩,jN (K:=K) (a:=a) (xs:=xs) (fun i n r g=>∃o,r=[o]/\zy H g/\n=((ds.take i).map Xb).map V.bl) ⟨none,rfl,zy.refl _,rfl⟩ (zp<|by lia) ?_ ?_ ?_⟩
  ·rintro i n r g hi ⟨o,rfl,B,rfl⟩;refine⟨B.yh J,?_⟩;rw[Za,Za,ZG];lia
  ·rintro i x n r g s ⟨o,rfl,B,rfl⟩;obtain⟨d,hd,L⟩:=ha.get s;refine⟨_,rfl,d,x,rfl,L.same B,yO sa hd,fun H3 e3=>⟨_,rfl,B.trans e3,?_⟩⟩;rw[yP hd,Zo];rfl
  ·rintro n r g ⟨o,rfl,B,rfl⟩ p np;refine⟨p,_,rfl,xx.of zB,?_⟩;rw[U,ZJ,all_map];have u:=B.trans<|zF (o:=.lst<|(ds.map Xb).map V.bl) np;cases q:ds.all Xb with
   |false =>
    have e:BM (.tuple ds)=false:=by show(ds.all Xb&&_)=false;rw[q];rfl
    rw[e]at k;exact⟨_,rfl,Ur<|k _ u⟩
   |true =>
    refine⟨_,rfl,Ut ?_⟩;show Hz _ _ _ _ (upd g p<|.lst<|(ds.map Xb).map V.bl);generalize upd g p (.lst<|(ds.map Xb).map V.bl)=G at u;have D:=yo.same u _ _ ha;refine⟨_,rfl,a,rfl,⟨_,u.yh J⟩,jN (K:=K) (a:=a) (xs:=xs) (fun i n r g=>∃o,r=[o]/\g=G/\n=((ds.take i).map UY).map V.str) ⟨none,rfl,rfl,rfl⟩ (zp<|by lia) ?_ ?_ ?_⟩
    ·rintro i n r g hi ⟨o,rfl,rfl,rfl⟩;refine⟨u.yh J,?_⟩;rw[Za,Za,ZG];lia
    ·rintro i x n r g s ⟨o,rfl,rfl,rfl⟩;obtain⟨d,hd,L⟩:=D.get s;obtain⟨t,y,rfl,ht,_⟩:=Nk L<|ZA.mp q d<|Zt hd;refine⟨_,rfl,t,_,_,_,rfl,rfl,ht,rfl,_,rfl,rfl,?_⟩;have e1:ds.take (i+1)=ds.take i++[d]:=by rw[Yk,hd];rfl
     rw[e1,Zo,Zo];rfl
    ·rintro n r g ⟨o,rfl,rfl,rfl⟩ l nl;rw[U,ZJ];have v1:=zF (o:=.lst<|(ds.map UY).map V.str) nl;have ul:=AxS.rA _ (ds.map UY) rfl;rw[Za]at ul;refine⟨_,rfl,_,rfl,l,ds.map UY,rfl,.inl<|xx.of zB,by rw[Za];lia,fun S n2=>?_⟩;have Z:=v1.trans<|zF (o:=CC P w S<|AxS.uniq<|ds.map UY) n2;refine⟨S,_,rfl,zB,by lia,fun l3 A n3 X O=>?_⟩;have v3:=Z.trans<|zF (o:=.lst<|A.map V.str) n3;have I:∀x∈ds.map UY,Er x=true:=fun x s=>by
      obtain⟨d,hd,rfl⟩:=Zd.mp s;obtain⟨j,hj⟩:=List.getElem?_of_mem hd;obtain⟨z,hz,dz⟩:=D.at hj;obtain⟨_,_,_,_,hl⟩:=Nk dz<|ZA.mp q d hd;exact Bu hl
     have R:∀x∈A,Er x=true:=fun x s=>I x<|Ru<|X.mem_iff.mp s;have ab:=(Z.trans<|zF (o:=.lst<|A.map V.str) n3);have M:=(((zF (o:=CC P w S<|AxS.uniq<|ds.map UY) n2).trans<|zF (o:=.lst<|A.map V.str) n3)) _ _<|zB (H:=g) (a:=l) (o:=.lst<|(ds.map UY).map V.str);refine⟨.list<|(ds.map UY).map .str,.list<|A.map .str,⟨l,_,rfl,xx.of M,za.strs _⟩,⟨l3,_,rfl,xx.of zB,za.strs _⟩,(xT I).1,(xT R).1,?_⟩;have ev:EJ (.list<|(ds.map UY).map .str) (.list<|A.map .str)=decide (ds.map UY=A):=j5 _ _;rw[ev,KL X O];have e:BM (.tuple ds)=Xg (ds.map UY):=by show(ds.all Xb&&_)=_;rw[q];rfl
     rw[e]at k;exact k _<|u.trans v3
 |none=>exact Ur<|k _<|zy.refl _
 |bool b=>exact Ur<|k _<|zy.refl _
 |int i=>exact Ur<|k _<|zy.refl _
 |list ds=>exact Ur<|k _<|zy.refl _
 |str x=>exact Ur<|k _<|zy.refl _
 |dict Dm=>exact Ur<|k _<|zy.refl _
end Ag
namespace Ah
abbrev st:Stmt:=top 25
theorem sc:zx ["word","parts"] ["word","parts"] (zG st):=Co
include T in
theorem ok (F:xf0 K "is_leaf" st f fd)(o:xj P w K mg base 3 "is_lines" ["thing"]<|Ir K):yx P w K mg base Cn 4 f fd ["word","parts"] (sV K UX):=by
 refine F.ok sc fun _ _ _ _ H B Q E t h=>?_;obtain⟨word,a,b,y,rfl,l,ha,sa,q,s,k⟩:=h;refine⟨_,(zE<|zM<|y8 (yN xJ (pv 0) zz<|zV _)<|y8 (yN xJ (zK z8 (by rfl) T.len ZZ<|zA (pv 1) zC) zH<|zV _)<|x8<|zJ o t.m<|zA (yM (yp:Cq _<|wQ K) (pv 1) zH) zC),?_⟩;have n:=ha.length;refine⟨_,rfl,rfl,_,rfl,UB (fun d=>?_)<|fun d=>?_⟩
 ·have d:V.str word=V.str "leaf":=Zx d;have d:word="leaf":=by injection d
  refine⟨_,rfl,a,_,rfl,.inr l,rfl,_,rfl,UB (fun i=>?_)<|fun i=>?_⟩
  ·have i:y.length=1:=by have:=Zx i;injection this with z;lia
   have g:b[0]?=some (CA b 0):=by
    have:b[0]?=some (b[0]'(by lia)):=Zl _;unfold CA;rw[this];rfl
   obtain⟨x,u,r⟩:=ha.at g;refine⟨_,rfl,a,_,_,_,rfl,rfl,l,y7 (j:=0) u,CA b 0,_,rfl,r,yO sa g,fun A v=>?_⟩;have e:UX word b=xP (CA b 0):=by
    unfold UX;rw[Ze d,Ze<|show b.length=1 by lia];rfl
   rw[e]at k;exact k _ v
  ·have e:UX word b=false:=by
    unfold UX;rw[Zn (p:=b.length=1)<|fun z=>i<|Ze (by rw[n,z];rfl),Jm,Jp]
   rw[e]at k;exact k _<|zy.refl _
 ·have e:UX word b=false:=by
   unfold UX;rw[Zn (p:=word="leaf")<|fun z=>d<|Ze<|by rw[z],Jm]
  rw[e]at k;exact k _<|zy.refl _
end Ah
namespace Ai
abbrev st:Stmt:=top 26
theorem sc:zx ["word","parts"] ["word","parts"] (zG st):=Co
include T in
theorem ok (F:xf0 K "is_tree" st f fd)(q:xj P w K mg base 3 "is_rows" ["thing"]<|oW K):yx P w K mg base Cn 4 f fd ["word","parts"] (sV K U5):=by
 refine F.ok sc fun _ _ _ _ H D Q E v h=>?_;obtain⟨word,a,b,B,rfl,n,ha,sa,r,l,k⟩:=h;refine⟨_,(zE<|zM<|y8 (yN xJ (pv 0) zz<|zV _)<|y8 (yN xJ (zK z8 (by rfl) T.len ZZ<|zA (pv 1) zC) zH<|zV _)<|x8<|zJ q v.m<|zA (yM (yp:Cq _<|wQ K) (pv 1) zH) zC),?_⟩;have o:=ha.length;refine⟨_,rfl,rfl,_,rfl,UB (fun d=>?_)<|fun d=>?_⟩
 ·have d:V.str word=V.str "tree":=Zx d;have d:word="tree":=by injection d
  refine⟨_,rfl,a,_,rfl,.inr n,rfl,_,rfl,UB (fun i=>?_)<|fun i=>?_⟩
  ·have i:B.length=1:=by have:=Zx i;injection this with z;lia
   have g:b[0]?=some (CA b 0):=by
    have:b[0]?=some (b[0]'(by lia)):=Zl _;unfold CA;rw[this];rfl
   obtain⟨x,y,s⟩:=ha.at g;refine⟨_,rfl,a,_,_,_,rfl,rfl,n,y7 (j:=0) y,CA b 0,_,rfl,s,yO sa g,fun t u=>l _ (Zt g) t u,fun C A=>?_⟩;have e:U5 word b=BM (CA b 0):=by
    unfold U5;rw[Ze d,Ze<|show b.length=1 by lia];rfl
   rw[e]at k;exact k _ A
  ·have e:U5 word b=false:=by
    unfold U5;rw[Zn (p:=b.length=1)<|fun z=>i<|Ze (by rw[o,z];rfl),Jm,Jp]
   rw[e]at k;exact k _<|zy.refl _
 ·have e:U5 word b=false:=by
   unfold U5;rw[Zn (p:=word="tree")<|fun z=>d<|Ze<|by rw[z],Jm]
  rw[e]at k;exact k _<|zy.refl _
end Ai
namespace Aj
abbrev st:Stmt:=top 27
theorem sc:zx ["word","parts"] ["word","parts"] (zG st):=Co
include T in
theorem ok (F:xf0 K "is_note" st f fd)(C:xj P w K mg base 1 "is_parents" ["thing"]<|sS K)(D:xj P w K mg base 2 "is_line" ["thing"]<|KM K):yx P w K mg base Cn 3 f fd ["word","parts"] (sV K U7):=by
 refine F.ok sc fun _ _ _ _ H R Q E x h=>?_;obtain⟨word,a,b,L,rfl,d,ha,sa,G,I,k⟩:=h;refine⟨_,(zD (yI (PW.pt<|uN (zU M9 (pv 0) zz<|zV _)<|jJ<|zU M9 (zK z8 (by rfl) T.len ZZ<|zA (pv 1) zC) zH<|zV _) (zE<|zM v9) zQ)<|zE<|zM<|y8 (zK (zT (K:=K)) (by rfl) T.isinstance Zw<|zA (yM (yp:Cq _<|wQ K) (pv 1) zH)<|zA (yY (v:=.ty "str") rfl T.str Yd rfl) zC)<|y8 (zJ C x.m<|zA (yM (yp:Cq _<|wQ K) (pv 1) zH) zC)<|x8<|zJ D x.m<|zA (yM (yp:Cq _<|wQ K) (pv 1) zH) zC),?_⟩
 have B:=ha.length
 by_cases g:word="note"
 ·refine⟨_,rfl,rfl,_,rfl,S1 (by rw[g]) ?_⟩
  by_cases l:b.length=3
  ·refine⟨_,rfl,a,_,rfl,.inr d,rfl,_,rfl,S1 (by rw[B,l];rfl) ?_⟩;have get:∀i,i<3->b[i]?=some (CA b i):=fun i O=>by
    have:b[i]?=some (b[i]'(by lia)):=Zl _;unfold CA;rw[this];rfl
   obtain⟨S,s,o⟩:=ha.at (get 0<|by decide);obtain⟨U,t,q⟩:=ha.at (get 1<|by decide);obtain⟨X,u,r⟩:=ha.at (get 2<|by decide);have e:U7 word b=(UJ (CA b 0)&&(jF (CA b 1)&&US (CA b 2))):=by
    unfold U7;rw[Ze g,Ze l];rfl
   rw[e]at k;refine⟨_,rfl,a,_,_,_,rfl,rfl,d,y7 (j:=0) s,_,_,CA b 0,_,rfl,o,T.is<|by simp[kinds],_,rfl,?_⟩;rw[uO];cases y:UJ (CA b 0) with
   |false =>
    rw[y]at k;exact Ut<|k _<|zy.refl _
   |true =>
    rw[y]at k;refine Ur ⟨_,rfl,a,_,_,_,rfl,rfl,d,y7 (j:=1) t,CA b 1,_,rfl,q,yO sa<|get 1<|by decide,fun M n=>⟨_,rfl,?_⟩⟩;cases A:jF (CA b 1) with
    |false =>
     rw[A]at k;exact Ut<|k _ n
    |true =>
     rw[A]at k;exact Ur ⟨_,rfl,a,_,_,_,rfl,rfl,n.yh d,y7 (j:=2) u,CA b 2,_,rfl,r.same n,yO sa<|get 2<|by decide,fun N J=>k _<|n.trans J⟩
  ·have e:U7 word b=false:=by
    unfold U7;rw[Zn l,Jm,Jp]
   rw[e]at k;refine⟨_,rfl,a,_,rfl,.inr d,rfl,_,rfl,?_⟩;rw[Zn (p:=V.int ((L.length:Nat):Int)=V.int 3)<|fun z=>l (by injection z with z;lia)];exact Ur<|k _<|zy.refl _
 ·have e:U7 word b=false:=by
   unfold U7;rw[Zn g,Jm]
  rw[e]at k;refine⟨_,rfl,rfl,_,rfl,?_⟩;rw[Zn (p:=V.str word=V.str "note")<|fun z=>g<|by injection z];exact Ur<|Ur<|k _<|zy.refl _
end Aj
namespace Ak
abbrev st:Stmt:=top 28
theorem sc:zx ["thing","word","parts"] ["thing"] (zG st):=Co
include T in
theorem ok (F:xf0 K "is_thing" st f fd)(M:xj P w K mg base 4 "is_leaf" ["word","parts"]<|sV K UX)(N:xj P w K mg base 4 "is_tree" ["word","parts"]<|sV K U5)(O:xj P w K mg base 3 "is_note" ["word","parts"]<|sV K U7) :
  yx P w K mg base Cn 5 f fd ["thing"] (qu K):=by
 refine F.ok sc fun _ _ _ _ H vs Q E A h=>?_;obtain⟨d,v,rfl,hd,X,B,k⟩:=h;refine⟨_,(zD (yI (PW.pt<|uN (xD<|zO (K:=K)<|zK (zT (K:=K)) (by rfl) T.isinstance Zw<|zA (pv 0)<|zA (yY (v:=.ty "tuple") rfl T.tuple Yu rfl) zC)<|uN (zU xJ (zK z8 (by rfl) T.len ZZ<|zA (pv 0) zC) zH<|zV _)<|jJ<|xD<|zO (K:=K)<|zK (zT (K:=K)) (by rfl) T.isinstance Zw<|zA (yM (yp:Cq _<|wQ K) (pv 0) zH)<|zA (yY (v:=.ty "str") rfl T.str Yd rfl) zC) (zE<|zM v9) zQ)<|zD (Ck (i:=1) sc.nd<|yM (yp:Cq _<|wQ K) (pv 0) zH)<|zD (Ck (i:=2) sc.nd<|j8 (mD:RF _<|S7 K) (pv 0) (kG zH) vS)<|zE<|zM<|PV (zJ M A.m<|zA (pv 1)<|zA (pv 2) zC)<|PV (zJ N A.m<|zA (pv 1)<|zA (pv 2) zC)<|x8<|zJ O A.m<|zA (pv 1)<|zA (pv 2) zC),?_⟩
 refine⟨_,rfl,_,_,d,_,rfl,hd,T.is<|by simp[kinds],_,rfl,?_⟩;cases d with
 |tuple ds =>
  obtain⟨n1,n2⟩:=B ds rfl;obtain⟨a,Y,rfl,s,ha⟩:=hd;obtain⟨sl,sa⟩:=xU X;have t:=ha.length;refine Ut ?_
  match ds,ha,t,sa,n1,n2,k with
  |[],ha,t,sa,n1,n2,k =>
   refine⟨_,rfl,a,_,rfl,.inr s,rfl,_,rfl,?_⟩;rw[Ze (show V.int ((Y.length:Nat):Int)=V.int 0 by rw[t];rfl)];exact Ur<|Ur<|k _<|zy.refl _
  |d0::ds,⟨x0,r,ex,hd0,hr'⟩,t,sa,n1,n2,k =>
   subst ex;refine⟨_,rfl,a,_,rfl,.inr s,rfl,_,rfl,O5 (fun z=>by injection z with z;simp at z;lia) ?_⟩;refine⟨_,rfl,a,_,_,_,rfl,rfl,s,y7 (j:=0) rfl,_,_,d0,_,rfl,hd0,T.is<|by simp[kinds],_,rfl,?_⟩;rw[uO];cases d0 with
   |str word =>
    cases(show x0=_ from hd0);refine Ut ?_;refine⟨_,rfl,a,_,_,_,rfl,rfl,s,y7 (j:=0) rfl,?_⟩;refine⟨_,rfl,_,rfl,a,_,rfl,s,fun v L S=>?_⟩;obtain⟨q,rfl,C,p⟩:=RL s S;rw[IN<|by decide]at p;have p:xg K L q r:=p;have o:yH ds=true:=by
     have sa:(small (.str word)&&yH ds)=true:=sa;rw[Zk]at sa;exact sa.2
    have l:ds.length<=63:=by have:=n1;simp at this;lia
    have n:∀e∈ds,∀G,e=.tuple G->G.length<=63:=fun e R=>n2 e<|Zf _ R;refine⟨_,rfl,_,rfl,word,q,ds,r,rfl,p,yo.same C _ _ hr',o,l,n,fun Z u=>⟨_,rfl,?_⟩⟩;have k:∀D,zy H D->Q (.bl (UX word ds||(U5 word ds||U7 word ds))) D:=k;cases I:UX word ds with
    |true =>
     rw[I]at k;exact Ur<|k _<|C.trans u
    |false =>
     rw[I,VI]at k;have g:=C.trans u;refine Ut ⟨_,rfl,_,rfl,word,q,ds,r,rfl,u.yh p,yo.same g _ _ hr',o,l,n,fun H3 y=>⟨_,rfl,?_⟩⟩;cases J:U5 word ds with
     |true =>
      rw[J]at k;exact Ur<|k _<|g.trans y
     |false =>
      rw[J,VI]at k;exact Ut ⟨_,rfl,_,rfl,word,q,ds,r,rfl,(u.trans y).yh p,yo.same (g.trans y) _ _ hr',o,l,n,fun H4 U=>k _<|(g.trans y).trans U⟩
   |none=>exact Ur<|k _<|zy.refl _
   |bool _=>exact Ur<|k _<|zy.refl _
   |int _=>exact Ur<|k _<|zy.refl _
   |list _=>exact Ur<|k _<|zy.refl _
   |tuple _=>exact Ur<|k _<|zy.refl _
   |dict _=>exact Ur<|k _<|zy.refl _
 |none=>exact Ur<|Ur<|k _<|zy.refl _
 |bool b=>exact Ur<|Ur<|k _<|zy.refl _
 |int i=>exact Ur<|Ur<|k _<|zy.refl _
 |list ds=>exact Ur<|Ur<|k _<|zy.refl _
 |str x=>exact Ur<|Ur<|k _<|zy.refl _
 |dict Dm=>exact Ur<|Ur<|k _<|zy.refl _
end Ak
namespace Al
abbrev st:Stmt:=top 29
theorem sc:zx ["thing"] ["thing"] (zG st):=Co
include T in
theorem ok (F:xf0 K "need_thing" st f fd)(g:xj P w K mg base 5 "is_thing" ["thing"]<|qu K):yx P w K mg base (Cw P w) 6 f fd ["thing"] (oN K aT):=by
 refine F.qm sc fun _ _ _ _ H p Q E i h=>?_;obtain⟨d,v,rfl,hd,n,b,j,l⟩:=h;refine⟨_,(zD (yI (xD<|zO (K:=K)<|zJ g i.m<|zA (pv 0) zC) (zE<|xF rfl yX rfl T.oF T.m9<|zA zz zC) zQ)<|zE<|zM<|pv 0),?_⟩
 refine⟨_,rfl,d,v,rfl,hd,n,b,fun o e=>⟨_,rfl,?_⟩⟩;cases q:uK d with
 |true=>exact Ut ⟨_,rfl,j q _ e⟩
 |false=>exact Ur ⟨Uw 1,l q _ e⟩
end Al
namespace Am
abbrev st:Stmt:=top 30
theorem sc:zx ["thing"] ["thing"] (zG st):=Co
include T in
theorem ok (F:xf0 K "letter_of" st f fd):yx P w K mg base Cn 1 f fd ["thing"] (IB K):=by
 refine F.ok sc fun _ _ _ _ H e Q E d h=>?_;obtain⟨v,t,rfl,hd,k⟩:=h;refine⟨_,(zE<|zM<|Si (xB (v:=.ref aL) rfl T.LETTERS rfl) (yM (yp:Cq _<|wQ K) (pv 0) zH)<|fun _ _=>rfl),?_⟩;obtain⟨a,r,rfl,b⟩:=vQ hd;exact⟨_,rfl,a,_,_,_,rfl,rfl,b,Fe _ _,_,_,Ev t.word,_,rfl,rfl,T.kd,Kj t,k⟩
end Am
namespace Ao
abbrev st:Stmt:=top 31
theorem sc:zx ["rows","parts","label","name"] ["rows"] (zG st):=Co
theorem vh:∀rs:Dg,(yB rs).length=2*rs.length
 |[]=>rfl
 |r::rs=>by
  show(yB rs).length+2=2*(rs.length+1);rw[vh rs];lia
include T in
theorem ok (F:xf0 K "tree_parts" st f fd):yx P w K mg base Cn 1 f fd ["rows"] (XR K):=by
 refine F.ok sc fun _ _ _ _ H C Q E B h=>?_;obtain⟨v,d,rfl,hd,hl,k⟩:=h;obtain⟨a,xs,rfl,q,s⟩:=hd;have o:xs.length=d.length:=by rw[s.length,Za]
 refine⟨_,(zD (Ck (i:=1) sc.nd<|xA zC)<|zD (xQ EO rfl (uI<|pv 0) (Xi rfl<|yQ (zR (i:=2) sc.nd rfl<|EL rfl)<|yQ (zR (i:=3) sc.nd rfl<|EL rfl) jP)<|zD (yD<|kX Vk Vb Vc Xn (pv 1)<|zA (pv 2) zC)<|zE<|yD<|kX Vk Vb Vc Xn (pv 1)<|zA (pv 3) zC)<|zE<|zM<|pv 1),?_⟩
 refine⟨ZN _,fun l nl=>?_⟩;refine⟨_,rfl,a,rfl,⟨_,(zF nl).yh q⟩,X8 (K:=K) (a:=a) (xs:=xs) (fun i n j=>∃(x y:Option V),n=[some<|.ref a,some<|.ref l,x,y]/\j=upd H l (.lst<|(yB<|d.take i).map V.str)) ⟨none,none,rfl,rfl⟩ (fun i n j _ ⟨_,_,_,e⟩=>by rw[e];exact(zF nl).yh q) ?_ ?_⟩
 ·rintro i x n j t ⟨z,A,rfl,rfl⟩;obtain⟨r,b,p,rfl,hb⟩:=Hn s t;have u:i<d.length:=(Zv.mp p).1;have g:((yB<|d.take i).map V.str).length<=2000:=by
   rw[Za,vh,ZG];lia
  refine⟨b,_,rfl,(zF nl).yh hb,rfl,_,_,rfl,_,_,rfl,rfl,?_⟩;refine⟨_,rfl,.inl ⟨rfl,_,xx.of zB⟩,_,rfl,l,_,_,rfl,rfl,zB,Vi g (by rw[Yp];decide),?_⟩;refine⟨_,rfl,.inl ⟨rfl,_,xx.of zB⟩,_,rfl,l,_,_,rfl,rfl,zB,?_,?_⟩
  ·rw[Zp,YJ];exact Vi (Ud g) (by rw[Yp];decide)
  ·refine⟨_,_,rfl,?_⟩;rw[Nv,Nv]
   congr 2
   rw[Yk,p];show _=(yB<|d.take i++[r]).map V.str;rw[jY,Zo];show _=(yB<|d.take i).map V.str++[V.str r.1,V.str r.2];rw[Z7];rfl
 ·rintro n j ⟨z,A,rfl,rfl⟩;refine⟨_,rfl,?_⟩;rw[o,ZJ];exact k l nl
end Ao
theorem W6 {c A B:Prop} [Decidable c](hc:c)(h:A):if decide c=true then A else B:=by
 rw[Ze hc];exact Ur h
theorem O5 {c A B:Prop} [Decidable c](hc:¬c)(h:B):if decide c=true then A else B:=by
 rw[Zn hc];exact Ut h
theorem CG {n:Nat}(h:n<=100000):(dig n).length<=10:=Jz (by lia) (by decide) (by
 have:(10:Int) ^ 10=10000000000:=by decide
 rw[this];lia)
theorem Bf {n:Nat}(h:n<=1900):((n:Int)).natAbs.log2<1920:=by
 rw[VU];exact Vi (Nat.log2_le_self n) (by lia)
theorem NT {rs:Dg}(g:(Th.tree rs).Good):rs.length<=1000:=by
 have h:=g.1;have e:(yB rs).length<=1000:=h;rw[Ao.vh]at e;lia
theorem NS {x:Str}{ps:Da}{w:Str}(g:(Th.note x ps w).Good):ps.length<=1000:=by
 have h:=g.1;have e:([x,dig ps.length]++ps++[w]).length<=1000:=h;simp at e;lia
namespace Ap
abbrev st:Stmt:=top 32
theorem sc:zx ["thing","parents"] ["thing"] (zG st):=Co
include T in
theorem ok (F:xf0 K "parts_of" st f fd)(C:xj P w K mg base 1 "tree_parts" ["rows"]<|XR K):yx P w K mg base Cn 2 f fd ["thing"] (Nn K):=by
 refine F.ok sc fun _ _ _ _ H L Q E D h=>?_;obtain⟨v,t,rfl,hd,g,k⟩:=h;refine⟨_,(zD (yI (zU xJ (yM (yp:Cq _<|wQ K) (pv 0) zH) zz<|zV _) (zE<|zM<|yK vI (by rfl) T.list Vs<|zA (yM (yp:Cq _<|wQ K) (pv 0) zH) zC) zQ)<|zD (yI (zU xJ (yM (yp:Cq _<|wQ K) (pv 0) zH) zz<|zV _) (zE<|zM<|zJ C D.m<|zA (yM (yp:Cq _<|wQ K) (pv 0) zH) zC) zQ)<|zD (Ck (i:=1) sc.nd<|yM (yp:Cq _<|wQ K) (pv 0) zH)<|zE<|zM<|zZ Kt (zZ Kt (xA<|zA (yM (yp:Cq _<|wQ K) (pv 0) zH)<|zA (yK jS (by rfl) T.str Yd<|zA (zK z8 (by rfl) T.len ZZ<|zA (pv 1) zC) zC) zC)<|yK vI (by rfl) T.list Vs<|zA (pv 1) zC)<|xA<|zA (yM (yp:Cq _<|wQ K) (pv 0) zH) zC),?_⟩
 cases t with
 |leaf ls =>
  obtain⟨a,b,rfl,d,hb⟩:=CO hd;refine⟨_,rfl,a,_,_,_,rfl,rfl,d,rfl,rfl,_,rfl,W6 rfl ?_⟩;exact⟨_,rfl,a,_,_,_,rfl,rfl,d,rfl,b,_,rfl,.inr hb,fun l nl=>k l _ (zF nl) nl zB⟩
 |tree rs =>
  obtain⟨a,b,rfl,d,hb⟩:=CY hd;refine⟨_,rfl,a,_,_,_,rfl,rfl,d,rfl,rfl,_,rfl,O5 (by decide +kernel) ?_⟩;refine⟨_,rfl,a,_,_,_,rfl,rfl,d,rfl,rfl,_,rfl,W6 rfl ?_⟩;exact⟨_,rfl,a,_,_,_,rfl,rfl,d,rfl,_,rs,rfl,hb,NT g,fun l nl=>k l _ (zF nl) nl zB⟩
 |note x ps y =>
  obtain⟨a,b,rfl,d,hb⟩:=CS hd;have J:=NS g;refine⟨_,rfl,a,_,_,_,rfl,rfl,d,rfl,rfl,_,rfl,O5 (by decide +kernel) ?_⟩;refine⟨_,rfl,a,_,_,_,rfl,rfl,d,rfl,rfl,_,rfl,O5 (by decide +kernel) ?_⟩;refine⟨_,rfl,a,_,_,_,rfl,rfl,d,rfl,?_⟩;refine⟨_,rfl,a,_,_,_,rfl,rfl,d,rfl,_,rfl,b,_,rfl,.inr hb,_,rfl,?_,Uw 2,fun n n1=>?_⟩
  ·rw[Za];exact Bf (by lia)
  have z:=zF (o:=.lst [V.str x,V.str<|EQ<|L4 (((ps.map V.str).length:Nat):Int)]) n1;refine⟨_,rfl,b,_,rfl,.inr<|z.yh hb,fun p n2=>?_⟩;have I:=z.trans<|zF (o:=.lst<|ps.map V.str) n2;have e:n≠p:=zN zB n2;refine⟨n,p,_,_,rfl,rfl,(by rw[zI e];exact zB),zB,(by rw[Za];exact zp (by simp only[Zj,Ym];lia)),fun q n3=>?_⟩;have A:=I.trans<|zF (o:=.lst<|[V.str x,V.str<|EQ<|L4 (((ps.map V.str).length:Nat):Int)]++ps.map V.str) n3;refine⟨_,rfl,a,_,_,_,rfl,rfl,A.yh d,rfl,Uw 1,fun r s=>?_⟩;have B:=A.trans<|zF (o:=.lst [V.str y]) s;have j:q≠r:=zN zB s;refine⟨q,r,_,_,rfl,rfl,(by rw[zI j];exact zB),zB,?_,fun G u=>?_⟩
  ·rw[Zp,Za];exact zp (by simp only[Zj,Ym];lia)
  ·refine k G _ (B.trans<|zF u) (B.free u) ?_;rw[zB]
   congr 2
   show _=([x,dig ps.length]++ps++[y]).map V.str;rw[Zo,Zo];show([V.str x,V.str<|EQ<|L4 (((ps.map V.str).length:Nat):Int)]++ps.map V.str)++[V.str y]=_;rw[Za];rfl
end Ap
namespace Aq
abbrev st:Stmt:=top 33
theorem sc:zx ["part"] ["part"] (zG st):=Co
include T in
theorem ok (F:xf0 K "counted" st f fd):yx P w K mg base Cn 1 f fd ["part"] Ba:=by
 refine F.ok sc fun _ _ _ _ H i Q E g h=>?_;obtain⟨x,rfl,hl,k⟩:=h;refine⟨_,(zE<|zM<|zZ yC (zZ yC (yK jS (by rfl) T.str Yd<|zA (zK xZ (by rfl) T.len ZZ<|zA (pv 0) zC) zC) zz)<|pv 0),?_⟩;have d:=CG (n:=x.length) (by lia);have e:(""++":":String).length=1:=by decide
 have b:(":":Str).length=1:=by decide +kernel
 refine⟨_,rfl,x,rfl,zp<|by lia,_,rfl,Bf<|by lia,_,_,rfl,rfl,zp (by rw[b];exact ZR (Nat.add_le_add_right d 1)<|by decide),_,rfl,_,_,rfl,rfl,zp ?_,k⟩;show(dig x.length++":").length+x.length<=_;rw[yr,b];lia
end Aq
namespace Ar
abbrev st:Stmt:=top 34
theorem sc:zx ["thing"] ["thing"] (zG st):=Co
theorem FI {x:Str}(h:x.length<=1000):(counted x).length<=1011:=by
 have d:=CG (n:=x.length) (by lia);have b:(":":Str).length=1:=by decide +kernel
 show(dig x.length++":"++x).length<=_;rw[yr,yr,b];lia
include T in
theorem ok (F:xf0 K "spelled" st f fd)(B:xj P w K mg base 1 "letter_of" ["thing"]<|IB K)(u:xj P w K mg base 2 "parts_of" ["thing"]<|Nn K)
  (A:xj P w K mg base 1 "counted" ["part"] Ba):yx P w K mg base Cn 3 f fd ["thing"] (BK K):=by
 refine F.ok sc fun _ _ _ _ H U Q E o h=>?_;obtain⟨v,t,rfl,hd,g,k⟩:=h;refine⟨_,(zE<|zM<|zZ yC (zJ B o.m<|zA (pv 0) zC)<|kX Yf JT JU Ia zz<|zA (qC (sc:=zG st) (N:=["thing"]) (N':=["part"]) (src:=[none]) .a rfl rfl rfl (jW<|zJ u o.m<|zA (pv 0) zC) (fun _ _ _ _=>(zR (i:=0) (show(["part"]:Da).Nodup by decide +kernel) rfl (EL rfl))) (fun _ _ _ _=>qY) (fun _ _ _ _=>(zJ A o.m<|zA (pv 0) zC))) zC),?_⟩;refine⟨_,rfl,v,t,rfl,hd,rfl,_,rfl,v,t,rfl,hd,g,fun l s M nl hl=>?_⟩;have R:(t.parts.map V.str).length<=1000:=by rw[Za];exact g.1
 refine⟨l,rfl,⟨_,xx.of hl⟩,vA (K:=K) (a:=l) (xs:=t.parts.map V.str) (fun i j n d=>∃x,n=[x]/\d=s/\j=((t.parts.take i).map counted).map V.str) ⟨none,rfl,rfl,rfl⟩ (zp<|by lia) (fun i j n d b ⟨x,_,e,D⟩=>⟨by rw[e];exact xx.of hl,?_⟩) ?_ ?_⟩
 ·rw[D,Za,Za,ZG];exact Nat.min_le_left _ _
 ·rintro i x j n d b ⟨O,rfl,rfl,rfl⟩;rw[Zs]at b;cases q:t.parts[i]? with
  |none=>rw[q]at b;cases b
  |some p =>
   rw[q]at b;have b:V.str p=x:=Option.some.inj b;subst b;have G:=g.2 p<|Zt q;refine⟨_,rfl,p,rfl,G.len,_,rfl,rfl,?_⟩;rw[Yk,q,Zo,Zo];rfl
 ·rintro j n d ⟨O,rfl,rfl,rfl⟩ p L;have e:(t.parts.take (t.parts.map V.str).length)=t.parts:=by rw[Za,ZJ]
  rw[e];have b1:∀y∈t.parts.map counted,y.length<=1011:=fun y I=>by
   obtain⟨z,J,rfl⟩:=Zd.mp I;exact FI (g.2 z J).len
  have b2:=B9 _ b1;have b3:(t.parts.map counted).length<=1000:=by rw[Za];exact g.1
  have b4:(t.parts.map counted).length*1011<=1011000:=Nat.mul_le_mul_right 1011 b3;have r:("":Str).length=0:=by decide +kernel
  have S:t.letter.length=1:=by rw[zb,x9];rfl
  refine⟨_,p,t.parts.map counted,rfl,rfl,.inl<|xx.of zB,by rw[r];lia,_,_,rfl,rfl,?_,?_⟩
  ·have:=StrLaws.join_length_le ""<|t.parts.map counted;have C:Lq "" (t.parts.map counted)=MB "" (t.parts.map counted):=Lg _ _;rw[C];rw[r]at this;exact zp (by lia)
  ·rw[av];exact k _<|M.trans<|zF L
end Ar
namespace As
abbrev st:Stmt:=top 35
theorem sc:zx ["thing","number","sign"] ["thing"] (zG st):=Co
include T in
theorem ok (F:xf0 K "digest" st f fd)(l:xj P w K mg base 3 "spelled" ["thing"]<|BK K):yx P w K mg base Cn 4 f fd ["thing"] (Ht K):=by
 refine F.ok sc fun _ _ _ _ H q Q E o h=>?_;obtain⟨v,t,rfl,hd,g,k⟩:=h;refine⟨_,(zD (Ck (i:=1) sc.nd zH)<|zD (xQ EO rfl (Kw<|zJ l o.m<|zA (pv 0) zC) (zR (i:=2) sc.nd rfl<|EL rfl)<|zE<|Ck (i:=1) sc.nd<|zZ y9 (zZ jM (zZ Gp (xB (v:=.int 31) rfl T.qj ⟨_,rfl⟩)<|pv 1)<|zK Fg (by rfl) T.ord PyProof.Rows.boot_ord<|zA (pv 2) zC)<|xB (v:=.int 97) rfl T.p7 ⟨_,rfl⟩)<|zE<|zM<|pv 1),?_⟩
 refine⟨_,rfl,v,t,rfl,hd,g,fun j p=>⟨_,rfl,RM (fun i e b=>∃x,e=[some v,some<|.int<|((cs t.sp).take i).foldl WT 0,x]/\b=j) ⟨none,rfl,rfl⟩ ?_ ?_⟩⟩
 ·rintro i c e b n ⟨x,rfl,rfl⟩;refine⟨_,rfl,_,_,rfl,rfl,.inl ⟨by decide,by decide⟩,_,rfl,_,rfl,rfl,_,_,rfl,rfl,_,_,rfl,rfl,(by show(0:Int)<97;decide),some<|.str ⟨#[c]⟩,?_,rfl⟩;have d:(cs t.sp)[i]?=some c:=by rw[←n];simp
  rw[Yk,d,YT];rfl
 ·rintro e b ⟨x,rfl,rfl⟩;refine⟨_,rfl,?_⟩;rw[zb,ZJ];exact k _ p
end As
namespace Au
abbrev st:Stmt:=inClass (top 62) 7
theorem sc:zx ["self"] ["self"] (zG st):=Co
include T in
theorem ok (F:xf K "names" "Shelf.names" st f fd):yx P w K mg base Cn 1 f fd ["self"] (rM P w K aC):=by
 refine F.ok sc fun _ _ _ _ H A Q E z h=>?_;obtain⟨a,q,S,rfl,sh,k⟩:=h;refine⟨_,(zE<|zM<|yK (HP rfl) (by rfl) T.list Vs<|zA (j9 (pv 0) rfl) zC),?_⟩;obtain⟨g,i,d,o,p,b,nx,rfl,nd,j,r,s,n,t,u,v,x,y⟩:=sh;refine⟨_,rfl,a,aC,i,_,_,rfl,j,T.cls,T.n1,rfl,d,_,rfl,n,fun l nl=>?_⟩;have e:(((S.zip b).map fun e=>((Ev e.1.nm:Key),V.ref e.2)).map fun kv=>kV kv.1)=S.map fun e=>V.str e.nm:=by
  rw[ZF];have:(S.zip b).map (·.1)=S:=VH (by lia)
  conv=>rhs;rw[←this]
  rw[ZF];rfl
 rw[e];exact k l nl
end Au
namespace Av
abbrev st:Stmt:=inClass (top 62) 1
theorem sc:zx ["self","name","thing","halves","head"] ["self","name","thing"] (zG st):=Co
include T in
theorem ok (F:xf K "take" "Shelf.take" st f fd):yx P w K mg base Cn 1 f fd ["self","name","thing"] (pI P w K aC):=by
 refine F.ok sc fun _ _ _ _ H vs Q E hr h=>?_;obtain⟨a,fp,S,e,t,rfl,sh,v,ht,hd,hn,hl,k⟩:=h;have hu:=Be hr;refine⟨_,(zD (Ck (i:=3) sc.nd<|kX Yf PySem.F.slot_str_partition PySem.F.type_str_partition vE (pv 1)<|zA zz zC)<|zD (Ck (i:=4) sc.nd<|yM (yp:Cq _<|wQ K) (pv 3) zH)<|zD (qO hu (j9 (pv 0) rfl) (pv 4) (zK (NF rfl) (by rfl) T.max PyProof.Rows.boot_max<|zA (IE hu (j9 (pv 0) rfl) (pv 4) zH ⟨rfl,rfl,rfl,rfl⟩)<|zA (zZ jM (yK ND (by rfl) T.int VA<|zA (yM (yp:Cq _<|wQ K) (pv 3) zH) zC) zH) zC) rfl)<|zD (qO hu (j9 (pv 0) rfl) (pv 1) (pv 2) rfl)<|zE<|So hr.units (j9 (pv 0) rfl) (pv 2) (pv 1) rfl),?_⟩
 obtain⟨g,s,j,r,b,l,nx,rfl,nd,h1,h2,h3,h4,h5,h6,h7,h8,h9⟩:=id sh;have wB:=sh.wB.tup;have nl:(UD e.n).length<=2000:=by
  have X:((e.n:Int)).natAbs.log2<1920:=by
   have:=v.num;rw[VU]
   rcases Y2 e.n with z|z
   ·rw[z];decide
   ·have:e.n.log2<20:=(Nat.log2_lt<|by lia).mpr (by lia);lia
  have:=VG X;have I:(UD e.n).length<=1921:=this;lia
 have a3:e.nm.length<=100000:=by
  have:=v.hl;have e1:dot.length=1:=rfl;unfold En.nm;rw[yr,yr,e1];lia
 simp only[Z5,Zm,Z9,JQ,Uh,Yn,and_true,not_false_eq_true]at nd;obtain⟨⟨a2,Y,Z,ab⟩,⟨ah,al,am⟩,⟨A,B⟩,C⟩:=nd;refine⟨_,rfl,rfl,e.h,UD e.n,46,rfl,by rw[ON];rfl,v.free,a3,fun p np=>?_⟩;have G:=zF (o:=.tup [V.str e.h,V.str ⟨#[46]⟩,V.str<|UD e.n]) np;have hp:xg K (upd H p<|.tup [V.str e.h,V.str ⟨#[46]⟩,V.str<|UD e.n]) p [V.str e.h,V.str ⟨#[46]⟩,V.str<|UD e.n]:=xg.of zB;show Hz _ _ _ _ (upd H p<|.tup [V.str e.h,V.str ⟨#[46]⟩,V.str<|UD e.n]);generalize upd H p (.tup [V.str e.h,V.str ⟨#[46]⟩,V.str<|UD e.n])=u at G hp;have g1:=G _ _ h1;have g4:=G _ _ h4;have g6:=G _ _ h6;refine⟨_,rfl,p,_,_,_,rfl,rfl,hp,rfl,?_⟩;refine⟨_,rfl,a,aC,s,_,_,rfl,g1,T.cls,T.n3,rfl,b,rfl,.inl ⟨_,.inl g6⟩,_,rfl,_,vg.k (k:=(Ev e.h:Key)) g6,?_⟩;obtain⟨m,em,en⟩:∃m:Nat,(Uu nx (Ev e.h:Key)).getD (V.int 0)=V.int (m:Int)/\m=(xu S e.h).getD 0:=by
  rw[h8];cases xu S e.h with
  |none=>exact⟨0,rfl,rfl⟩
  |some m=>exact⟨m,rfl,rfl⟩
 rw[em];refine⟨_,rfl,p,_,_,_,rfl,rfl,hp,rfl,e.n,rfl,by have:=v.num;lia,_,_,rfl,rfl,_,_,rfl,?_⟩;have J:(if(e.n:Int)+1>(m:Int) then(e.n:Int)+1 else(m:Int))=((max m (e.n+1):Nat):Int):=by
  split<;>lia
 rw[J];have a4:nx.length<2000:=by lia
 refine⟨_,rfl,a,aC,s,_,_,rfl,g1,T.cls,T.n3,rfl,_,rfl,b,_,rfl,sY.k (k:=(Ev e.h:Key)) g6<|xS<|by lia,?_⟩;have o1:Off [a,s,j,r,b] H (upd u b<|.dK<|ye nx (Ev e.h:Key)<|V.int ((max m (e.n+1):Nat):Int)):=(Off.of G).upd (by simp);have L:upd u b (.dK<|ye nx (Ev e.h:Key)<|V.int ((max m (e.n+1):Nat):Int)) a=some (.ins aC s<|OT j r b):=by rwa[zI ab]
 have N:upd u b (.dK<|ye nx (Ev e.h:Key)<|V.int ((max m (e.n+1):Nat):Int)) j=some (.dK<|(S.zip l).map fun e=>((Ev e.1.nm:Key),V.ref e.2)):=by rwa[zI B]
 have ar:upd u b (.dK<|ye nx (Ev e.h:Key)<|V.int ((max m (e.n+1):Nat):Int)) b=some (.dK<|ye nx (Ev e.h:Key)<|V.int ((max m (e.n+1):Nat):Int)):=zB;have an:upd u b (.dK<|ye nx (Ev e.h:Key)<|V.int ((max m (e.n+1):Nat):Int)) s=some (.own a):=by rw[zI am];exact G _ _ h2
 obtain⟨a5,e5,_⟩:=h5.2.2.2;have ap:upd u b (.dK<|ye nx (Ev e.h:Key)<|V.int ((max m (e.n+1):Nat):Int)) r=H r:=by rw[zI C,e5];exact G _ _ e5
 show Hz _ _ _ _ (upd u b<|.dK<|ye nx (Ev e.h:Key)<|V.int ((max m (e.n+1):Nat):Int));generalize upd u b (.dK<|ye nx (Ev e.h:Key)<|V.int ((max m (e.n+1):Nat):Int))=x at o1 L N ar an ap;have zl:((S.zip l).map fun e=>((Ev e.1.nm:Key),V.ref e.2)).length<=2000:=by rw[Za,List.length_zip];lia
 refine⟨_,rfl,_,rfl,a,aC,s,_,_,rfl,L,T.cls,T.n1,rfl,_,rfl,j,_,rfl,sY.k (k:=(Ev e.nm:Key)) N<|xS<|by lia,?_⟩;have ek:((S.zip l).map fun e=>((Ev e.1.nm:Key),V.ref e.2)).map (·.1)=S.map fun e=>(Ev e.nm:Key):=by
  rw[ZF];have:(S.zip l).map (·.1)=S:=VH (by lia)
  conv=>rhs;rw[←this]
  rw[ZF];rfl
 have hk:(Ev e.nm:Key)∉((S.zip l).map fun e=>((Ev e.1.nm:Key),V.ref e.2)).map (·.1):=fun z=>by
  rw[ek]at z;obtain⟨I,as,q⟩:=Zd.mp z;exact hn<|Zd.mpr ⟨I,as,Sum.inr.inj q⟩
 rw[kH hk];have o2:Off [a,s,j,r,b] H (upd x j<|.dK<|(S.zip l).map (fun e=>((Ev e.1.nm:Key),V.ref e.2))++[(Ev e.nm,V.ref t)]):=o1.upd (by simp);have y:upd x j (.dK<|(S.zip l).map (fun e=>((Ev e.1.nm:Key),V.ref e.2))++[(Ev e.nm,V.ref t)]) a=some (.ins aC s<|OT j r b):=by rwa[zI Y]
 have M:upd x j (.dK<|(S.zip l).map (fun e=>((Ev e.1.nm:Key),V.ref e.2))++[(Ev e.nm,V.ref t)]) s=some (.own a):=by rwa[zI ah]
 have O:upd x j (.dK<|(S.zip l).map (fun e=>((Ev e.1.nm:Key),V.ref e.2))++[(Ev e.nm,V.ref t)]) j=some (.dK<|(S.zip l).map (fun e=>((Ev e.1.nm:Key),V.ref e.2))++[(Ev e.nm,V.ref t)]):=zB;have R:upd x j (.dK<|(S.zip l).map (fun e=>((Ev e.1.nm:Key),V.ref e.2))++[(Ev e.nm,V.ref t)]) r=H r:=by rwa[zI<|Ey A]
 have U:upd x j (.dK<|(S.zip l).map (fun e=>((Ev e.1.nm:Key),V.ref e.2))++[(Ev e.nm,V.ref t)]) b=some (.dK<|ye nx (Ev e.h:Key)<|V.int ((max m (e.n+1):Nat):Int)):=by rwa[zI<|Ey B]
 generalize upd x j (.dK<|(S.zip l).map (fun e=>((Ev e.1.nm:Key),V.ref e.2))++[(Ev e.nm,V.ref t)])=H3 at o2 y M O R U;have T3:nO P w K H3 r (S.map fun e=>(e.d,V.str e.nm)):=nO.off wB o2 R h5;have a1:Dt K H3 e.d (.ref t):=Dt.off wB o2 _ _ v.key.1 ht;refine⟨_,rfl,_,rfl,a,aC,s,_,_,rfl,y,T.cls,T.n2,rfl,_,rfl,t,r,_,e.d,rfl,rfl,T3,by rw[Za];lia,v.key,a1,fun o T4 ⟨es,eo⟩=>?_⟩;have a0:e.d∉(S.map fun e=>(e.d,V.str e.nm)).map (·.1):=by rwa[ZF]
 rw[kH a0]at T4;have o3:Off [a,s,j,r,b] H (upd H3 r o):=o2.upd (by simp);refine k _ o3 ⟨g.snoc v hd hn<|by lia,s,j,r,b,l++[t],_,rfl,by simp[a2,Y,Z,ab,ah,al,am,A,B,C],by rw[zI Z];exact y,by rw[zI al];exact M,by rw[Zp,Zp,h3];rfl,?_,?_,by rw[zI<|Ey C];exact U,?_,?_,?_⟩
 ·rw[zI A,O,List.zip_append h3.symm,Zo];rfl
 ·rw[Zo];exact T4
 ·have:=xW nx (Ev e.h:Key)<|V.int ((max m (e.n+1):Nat):Int);rw[Zp,YJ];lia
 ·intro h;rw[Rv,XO]
  by_cases q:e.h=h
  ·rw[Zy<|by rw[q],Zy q,←q,←en];rfl
  ·rw[Zr<|fun z=>q (Sum.inr.inj z).symm,Zr q];exact h8 h
 ·intro i I t' D q2
  rcases Vq i S.length with z|z|z
  ·rw[ZH z]at D;rw[ZH<|by lia]at q2;exact Dt.off wB o3 _ _ (g.ent I<|Zt D).key.1<|h9 i I t' D q2
  ·subst z;rw[ZP<|Zg _,Nat.sub_self]at D;rw[ZP<|by lia,h3,Nat.sub_self]at q2;cases D;cases q2;exact Dt.off wB o3 _ _ v.key.1 ht
  ·rw[Yh (by rw[Zp,YJ];lia)]at D;cases D
end Av
theorem MS {S:Di}{b:Dd}(h:b.length=S.length):((S.zip b).map fun e=>((Ev e.1.nm:Key),V.ref e.2)).map (·.1)=S.map fun e=>(Ev e.nm:Key):=by
 rw[ZF];have:(S.zip b).map (·.1)=S:=VH (by lia)
 conv=>rhs;rw[←this]
 rw[ZF];rfl
theorem RT {S:Di}{f:Dd}(h:f.length=S.length)(x:Str):(Uu ((S.zip f).map fun e=>((Ev e.1.nm:Key),V.ref e.2)) (Ev x:Key)).isSome=decide (x∈S.map En.nm):=by
 have ek:=MS h;rw[Z4,ZC];constructor
 ·intro z;obtain⟨v,d⟩:=Y5.mp z;have:=kK d;rw[ek]at this;obtain⟨e,b,q⟩:=Zd.mp this;exact Zd.mpr ⟨e,b,Sum.inr.inj q⟩
 ·intro z;obtain⟨e,b,q⟩:=Zd.mp z;cases d:Uu ((S.zip f).map fun e=>((Ev e.1.nm:Key),V.ref e.2)) (Ev x:Key) with
  |some v=>rfl
  |none =>
   refine absurd ?_<|vL d;rw[ek];exact Zd.mpr ⟨e,b,by rw[q]⟩
theorem Tt {d:Dd}(g:tV S)(h:d.length=S.length){i:Nat}{e:En}{t:Ei}(j:S[i]?=some e)(l:d[i]?=some t):Uu ((S.zip d).map fun e=>((Ev e.1.nm:Key),V.ref e.2)) (Ev e.nm:Key)=some (V.ref t):=by
 have f:(((S.zip d).map fun e=>((Ev e.1.nm:Key),V.ref e.2)).map (·.1)).Nodup:=by
  rw[MS h];have:=List.Pairwise.map (S:=fun a b:Key=>a≠b) (fun x=>(Ev x:Key)) (fun a b h z=>h<|Sum.inr.inj z) g.nn;rw[ZF]at this;exact this
 have hm:((Ev e.nm:Key),V.ref t)∈(S.zip d).map fun e=>((Ev e.1.nm:Key),V.ref e.2) :=
  Zd.mpr ⟨(e,t),Zt (i:=i) (by rw[Jr];exact⟨j,l⟩),rfl⟩
 exact uZ f hm
namespace Aw
abbrev st:Stmt:=top 59
theorem sc:zx ["table","thing"] ["table","thing"] (zG st):=Co
include T in
theorem ok (F:xf0 K "is_key" st f fd):yx P w K mg base Cn 1 f fd ["table","thing"] (mY K):=by
 refine F.ok sc fun _ _ _ _ H n Q E l h=>?_;obtain⟨g,e,d,v,rfl,j,hd,k⟩:=h;refine⟨_,(zE<|zM<|y8 (zK (zT (K:=K)) (by rfl) T.isinstance Zw<|zA (pv 1)<|zA (yY (v:=.ty "str") rfl T.str Yd rfl) zC)<|x8<|yN (BU l.units) (pv 1) (pv 0)<|by with_unfolding_all rfl),?_⟩;refine⟨_,rfl,_,_,d,_,rfl,hd,T.is<|by simp[kinds],_,rfl,?_⟩;cases d with
 |str x =>
  cases(show v=_ from hd);exact Ur ⟨_,rfl,_,rfl,g,_,rfl,vg.k (k:=(Ev x:Key)) j,k⟩
 |none=>exact Ut k
 |bool b=>exact Ut k
 |int i=>exact Ut k
 |list ds=>exact Ut k
 |tuple ds=>exact Ut k
 |dict e=>exact Ut k
end Aw
theorem RS {S:Di}{f:Dd}(h:f.length=S.length)(d:Ek):WY ((S.zip f).map fun e=>((Ev e.1.nm:Key),V.ref e.2)) d=X4 S d:=by
 cases d with
 |str x=>exact RT h x
 |none=>rfl
 |bool b=>rfl
 |int i=>rfl
 |list ds=>rfl
 |tuple ds=>rfl
 |dict Dm=>rfl
namespace Ax
abbrev st:Stmt:=inClass (top 62) 5
theorem sc:zx ["self","name"] ["self","name"] (zG st):=Co
include T in
theorem ok (F:xf K "has" "Shelf.has" st f fd)(b:xj P w K mg base 1 "is_key" ["table","thing"]<|mY K):yx P w K mg base Cn 2 f fd ["self","name"] (nZ P w K aC):=by
 refine F.ok sc fun _ _ _ _ H B Q E o h=>?_;obtain⟨a,r,S,d,v,rfl,sh,hd,k⟩:=h;refine⟨_,(zE<|zM<|zJ b o.m<|zA (j9 (pv 0) rfl)<|zA (pv 1) zC),?_⟩;obtain⟨g,i,e,p,q,A,nx,rfl,nd,j,s,l,n,t,u,x,y,z⟩:=sh;refine⟨_,rfl,a,aC,i,_,_,rfl,j,T.cls,T.n1,rfl,_,rfl,e,_,d,v,rfl,n,hd,?_⟩;rwa[RS l d]
end Ax
namespace Ay
abbrev st:Stmt:=top 60
theorem sc:zx ["store","name"] ["store","name"] (zG st):=Co
include T in
theorem ok (F:xf0 K "need_name" st f fd)(b:Met P w K mg base aC 2 "has" ["self","name"]<|nZ P w K aC):yx P w K mg base (Cw P w) 3 f fd ["store","name"] (sO P w K aC aN):=by
 refine F.qm sc fun _ _ _ _ H I Q E l h=>?_;obtain⟨a,t,S,d,v,rfl,sh,hd,n,o⟩:=h;refine⟨_,(zE<|yI (xD<|zO (K:=K)<|X9 (pv 0) T.cls b l.m<|zA (pv 1) zC) (zE<|xF rfl yX rfl T.pP T.pU<|zA zz zC) zQ),?_⟩
 obtain⟨g,e,p,r,s,G,nx,i,nd,j,u,x,y,z,A,B,C,D⟩:=id sh;refine⟨_,rfl,a,e,_,rfl,j,rfl,_,rfl,a,_,S,d,v,rfl,sh,hd,_,rfl,?_⟩;cases q:X4 S d with
 |false=>exact Ur ⟨Uw 1,o q⟩
 |true=>exact Ut<|n q
end Ay
namespace Az
abbrev st:Stmt:=inClass (top 62) 6
theorem sc:zx ["self","name"] ["self","name"] (zG st):=Co
include T in
theorem ok (F:xf K "thing" "Shelf.thing" st f fd)(s:wk P w K mg base 3 "need_name" ["store","name"]<|sO P w K aC aN):yx P w K mg base (Cw P w) 4 f fd ["self","name"] (vf P w K aC aN):=by
 refine F.qm sc fun _ _ _ _ H vs Q E o h=>?_;obtain⟨a,R,S,d,v,rfl,sh,hd,L,M⟩:=h;have I:=Be o;refine⟨_,(zD (yD<|yE s o.m zX<|zA (pv 0)<|zA (pv 1) zC)<|zE<|zM<|Im I (j9 (pv 0) rfl) (pv 1)<|fun _ _=>rfl),?_⟩
 obtain⟨g,u,t,N,O,l,nx,y,nd,A,U,B,C,X,Y,Z,h8,D⟩:=id sh;refine⟨_,rfl,_,rfl,a,_,S,d,v,rfl,sh,hd,fun q=>?_,M⟩;cases d with
 |str x =>
  cases(show v=_ from hd);have q:x∈S.map En.nm:=Zx q;obtain⟨e,n,rfl⟩:=Zd.mp q;obtain⟨i,G,z⟩:=ZY.mp n;have j:i<l.length:=by lia
  have p:S[i]?=some e:=by rw[Zl G,z]
  have r:l[i]?=some l[i]:=Zl j;have J:=Tt g B p r;exact⟨_,rfl,a,aC,u,_,_,rfl,A,T.cls,T.n1,rfl,_,rfl,t,_,rfl,by rw[←J];exact vg.k (k:=(Ev e.nm:Key)) C,L e n rfl _<|D i e _ p r⟩
 |none=>cases q
 |bool b=>cases q
 |int i=>cases q
 |list ds=>cases q
 |tuple ds=>cases q
 |dict Dm=>cases q
end Az
namespace AA
abbrev st:Stmt:=inClass (top 62) 4
theorem sc:zx ["self","name","forms"] ["self","name","forms"] (zG st):=Co
include T in
theorem ok (F:xf K "need_form" "Shelf.need_form" st f fd)(v:sU P w K mg base aC 4 "thing" ["self","name"]<|vf P w K aC aN):yx P w K mg base (Cw P w) 5 f fd ["self","name","forms"] (p8 P w K aC aN):=by
 refine F.qm sc fun _ _ _ _ H U Q E p h=>?_;obtain⟨a,B,O,S,x,b,rfl,sh,th,G,l,I,u⟩:=h;refine⟨_,(zE<|yI (zU (F0 (K:=K) p.units) (yM (yp:Cq _<|wQ K) (yZ (pv 0) T.cls v p.m zX<|zA (pv 1) zC) zH) (pv 2)<|by with_unfolding_all rfl) (zE<|xF rfl yX rfl T.pP T.pU<|zA zz zC) zQ),?_⟩
 obtain⟨g,y,L,M,N,R,nx,A,nd,C,_⟩:=id sh;refine⟨_,rfl,a,y,_,rfl,C,rfl,_,rfl,a,_,S,.str x,.str x,rfl,sh,rfl,fun e o ex t s=>?_,fun j=>?_⟩
 ·have ex:x=e.nm:=by injection ex
  obtain⟨i,n,gt,_⟩:=th e o;rw[n]at s;obtain⟨c,r,z,D⟩:=vQ s;cases z;have J:=qJ n;have d:=MM g o b;rw[←ex,J]at d;refine⟨t,_,_,_,rfl,rfl,D,Fe _ _,_,rfl,.str i.word,b.map .str,rfl,⟨B,_,rfl,G,za.strs b⟩,(Gf b l).1,?_,(show 0<=60 by decide),!decide (i.word∈b),?_,?_⟩
  ·cases i
   ·show Er "leaf"=true;decide +kernel
   ·show Er "tree"=true;decide +kernel
   ·show Er "note"=true;decide +kernel
  ·rw[OA];cases decide (i.word∈b)<;>rfl
  ·cases q:decide (i.word∈b) with
   |true=>rw[q]at d;exact Ut<|I d
   |false=>rw[q]at d;exact Ur ⟨Uw 1,u d⟩
 ·have j:x∉S.map En.nm:=Jq j;exact u<|kY j b
end AA
theorem W8:∀y∈(["leaf","tree"]:Da),Er y=true:=fun y b=>by
 rcases Zm.mp b with rfl|b
 ·decide +kernel
 ·rw[Zb.mp b];decide +kernel
theorem bJ:∀y∈(["tree"]:Da),Er y=true:=fun y b=>by
 rw[Zb.mp b];decide +kernel
theorem bj:∀y∈(["note"]:Da),Er y=true:=fun y b=>by
 rw[Zb.mp b];decide +kernel
namespace AB
abbrev st:Stmt:=inClass (top 62) 3
theorem sc:zx ["self","thing","row","parent"] ["self","thing"] (zG st):=Co
include T in
theorem ok (F:xf K "need_names" "Shelf.need_names" st f fd)(N:sU P w K mg base aC 5 "need_form" ["self","name","forms"]<|p8 P w K aC aN):yx P w K mg base (Cw P w) 6 f fd ["self","thing"] (pW P w K aC aN):=by
 refine F.qm sc fun _ A _ _ H vs Q E X h=>?_;obtain⟨a,R,S,t,v,rfl,sh,th,hd,Z,k2⟩:=h;refine⟨_,(xN (yI (zU xJ (yM (yp:Cq _<|wQ K) (pv 1) zH) zz<|zV _) (zE<|xQ Ly rfl (uI<|yM (yp:Cq _<|wQ K) (pv 1) zH) (zR (i:=2) sc.nd rfl<|EL rfl)<|zE<|yD<|yZ (pv 0) T.cls N X.m zX<|zA (yM (yp:Cq _<|wQ K) (pv 2) zH)<|zA (yJ<|zA zz<|zA zz zC) zC) zQ)<|zE<|yI (zU xJ (yM (yp:Cq _<|wQ K) (pv 1) zH) zz<|zV _) (zD (yD<|yZ (pv 0) T.cls N X.m zX<|zA (yM (yp:Cq _<|wQ K) (pv 1) zH)<|zA (yJ<|zA zz zC) zC)<|zE<|xQ Ly rfl (uI<|yM (yp:Cq _<|wQ K) (pv 1) zH) (zR (i:=3) sc.nd rfl<|EL rfl)<|zE<|yD<|yZ (pv 0) T.cls N X.m zX<|zA (pv 3)<|zA (yJ<|zA zz zC) zC) zQ),?_⟩
 obtain⟨g,O,d1,d2,d3,ts,nx,am,nd,U,_⟩:=id sh;cases t with
 |leaf ls =>
  obtain⟨p,b,rfl,s,hb⟩:=CO hd;refine⟨fun d l=>d=[some<|.ref a,some<|.ref p,none,none]/\l=H,⟨_,rfl,p,_,_,_,rfl,rfl,s,rfl,rfl,false,congrArg V.bl<|by decide +kernel,Ut (A:=False) ⟨rfl,rfl⟩⟩,?_⟩;rintro d l ⟨rfl,rfl⟩;exact⟨_,rfl,p,_,_,_,rfl,rfl,s,rfl,rfl,false,congrArg V.bl<|by decide +kernel,Ut (A:=False)<|Z rfl _<|zy.refl _⟩
 |tree rs =>
  obtain⟨p,b,rfl,s,hb⟩:=CY hd;obtain⟨b',xs,e,L,hx⟩:=hb;cases e;have Y:xs.length=rs.length:=by rw[hx.length,Za]
  refine⟨fun d l=>∃o,d=[some<|.ref a,some<|.ref p,o,none]/\zy H l/\(rs.all fun r=>zS S r.2 ["leaf","tree"])=true,?_,?_⟩
  ·refine⟨_,rfl,p,_,_,_,rfl,rfl,s,rfl,rfl,true,congrArg V.bl<|Ze rfl,Ur (B:=False) ?_⟩;refine⟨_,rfl,p,_,_,_,rfl,rfl,s,rfl,b,rfl,⟨_,L⟩,X8 (K:=K) (a:=b) (xs:=xs) (fun i I C=>∃o,I=[some<|.ref a,some<|.ref p,o,none]/\zy H C/\((rs.take i).all fun r=>zS S r.2 ["leaf","tree"])=true) ⟨none,rfl,zy.refl _,rfl⟩ (fun i I C _ ⟨_,_,e,_⟩=>e.yh L) ?_ ?_⟩
   ·rintro i x I C D ⟨o,rfl,j,n⟩;obtain⟨r,c,J,rfl,hc⟩:=Hn hx D;refine⟨_,rfl,a,O,_,rfl,j _ _ U,rfl,_,rfl,c,_,_,_,rfl,rfl,j.yh hc,rfl,Uw 2,fun q nq=>?_⟩;have u:=j.trans<|zF (o:=.tup [V.str "leaf",V.str "tree"]) nq;refine⟨a,q,R,S,r.2,["leaf","tree"],rfl,sh.same u,th,xg.of zB,W8,fun ok=>⟨_,rfl,u,?_⟩,fun M=>?_⟩
    ·rw[Yk,J,Vf,n];show(zS S r.2 ["leaf","tree"]&&true)=true;rw[ok];rfl
    ·refine k2 ?_ _ u;show(rs.all fun r=>zS S r.2 ["leaf","tree"])=false;rw[List.all_eq_false];exact⟨r,Zt J,by rw[M];decide⟩
   ·rintro I C ⟨o,rfl,j,n⟩;rw[Y,ZJ]at n;exact⟨o,rfl,j,n⟩
  ·rintro d l ⟨o,rfl,j,n⟩;exact⟨_,rfl,p,_,_,_,rfl,rfl,j.yh s,rfl,rfl,false,congrArg V.bl<|by decide +kernel,Ut (A:=False)<|Z n _ j⟩
 |note x ps y =>
  obtain⟨p,b,rfl,s,hb⟩:=CS hd;refine⟨fun d l=>d=[some<|.ref a,some<|.ref p,none,none]/\l=H,⟨_,rfl,p,_,_,_,rfl,rfl,s,rfl,rfl,false,congrArg V.bl<|by decide +kernel,Ut (A:=False) ⟨rfl,rfl⟩⟩,?_⟩;rintro d l ⟨rfl,rfl⟩;refine⟨_,rfl,p,_,_,_,rfl,rfl,s,rfl,rfl,true,congrArg V.bl<|Ze rfl,Ur (B:=False) ?_⟩;refine⟨_,rfl,a,O,_,rfl,U,rfl,_,rfl,p,_,_,_,rfl,rfl,s,rfl,Uw 1,fun q nq=>?_⟩;have u:=zF (o:=.tup [V.str "tree"]) nq;refine⟨a,q,R,S,x,["tree"],rfl,sh.same u,th,xg.of zB,bJ,fun ok=>?_,fun M=>k2 ?_ _ u⟩
  ·show Tf _ _ (upd l q<|.tup [V.str "tree"]);generalize upd l q (.tup [V.str "tree"])=G at u;refine⟨_,rfl,p,_,_,_,rfl,rfl,u.yh s,rfl,b,rfl,⟨_,u.yh hb⟩,X8 (K:=K) (a:=b) (xs:=ps.map V.str) (fun i I C=>∃o,I=[some<|.ref a,some<|.ref p,none,o]/\zy l C/\((ps.take i).all fun r=>zS S r ["note"])=true) ⟨none,rfl,u,rfl⟩ (fun i I C _ ⟨_,_,e,_⟩=>e.yh hb) ?_ ?_⟩
   ·rintro i z I C D ⟨o,rfl,j,n⟩;rw[Zs]at D;cases J:ps[i]? with
    |none=>rw[J]at D;cases D
    |some r =>
     rw[J]at D;have D:V.str r=z:=Option.some.inj D;subst D;refine⟨_,rfl,a,O,_,rfl,j _ _ U,rfl,_,rfl,Uw 1,fun q2 ab=>?_⟩;have s4:=j.trans<|zF (o:=.tup [V.str "note"]) ab;refine⟨a,q2,R,S,r,["note"],rfl,sh.same s4,th,xg.of zB,bj,fun ah=>⟨_,rfl,s4,?_⟩,fun M=>k2 ?_ _ s4⟩
     ·rw[Yk,J,Vf,n];show(zS S r ["note"]&&true)=true;rw[ah];rfl
     ·show(zS S x ["tree"]&&ps.all fun p=>zS S p ["note"])=false;rw[ok,VJ,List.all_eq_false];exact⟨r,Zt J,by rw[M];decide⟩
   ·rintro I C ⟨o,rfl,j,n⟩;rw[Za,ZJ]at n;refine Z ?_ _ j;show(zS S x ["tree"]&&ps.all fun p=>zS S p ["note"])=true;rw[ok,n];rfl
  ·show(zS S x ["tree"]&&ps.all fun p=>zS S p ["note"])=false;rw[M];rfl
end AB
theorem z9:Raises X (fun _ _ _=>False):=by
 intro d g H s e f I b;obtain⟨_,_,_,_,_,_,_,_,_,_,_,_,_,_,q⟩:=b;exact q.elim
theorem R7 (g:tV S){e f:En}(n:e∈S)(o:f∈S)(h:e.nm=f.nm):e=f:=by
 obtain⟨i,p,b⟩:=ZY.mp n;obtain⟨j,q,d⟩:=ZY.mp o;have l:=Js.mp g.nn;have:i=j:=by
  rcases Vq i j with z|z|z
  ·exact absurd (by rwa[ZT,ZT,b,d]) (l i j (by rwa[Za]) (by rwa[Za]) z)
  ·exact z
  ·exact absurd (by rw[ZT,ZT,b,d];exact h.symm) (l j i (by rwa[Za]) (by rwa[Za]) z)
 subst this;rw[←b,d]
theorem HC:∀rs:Dg,yS (rs.map zm)=true
 |[]=>rfl
 |r::rs=>by
  show(vV (zm r)&&yS (rs.map zm))=true;rw[HC rs];rfl
theorem SO (t:Th):vV t.dat=true:=by
 cases t with
 |leaf ls=>show(true&&(yS (ls.map .str)&&true))=true;rw[jV];rfl
 |tree rs=>show(true&&(yS (rs.map zm)&&true))=true;rw[HC];rfl
 |note x ps y=>show(true&&(true&&(yS (ps.map .str)&&(true&&true))))=true;rw[jV];rfl
theorem Tz {K:Cc}{t:Th}(h:Dw K H t.dat v):Dt K H t.dat v:=Dw.dt _ _ (XQ _<|SO t) h
namespace AC
abbrev st:Stmt:=inClass (top 62) 2
theorem sc:zx ["self","thing","head","number","name"] ["self","thing"] (zG st):=Co
include T in
theorem ok (F:xf K "put" "Shelf.put" st f fd)(QR:wk P w K mg base 6 "need_thing" ["thing"]<|oN K aT)(QS:sU P w K mg base aC 6 "need_names" ["self","thing"]<|pW P w K aC aN)
  (Qp:xj P w K mg base 1 "letter_of" ["thing"]<|IB K) (QT:xj P w K mg base 4 "digest" ["thing"]<|Ht K) (Qs:Met P w K mg base aC 1 "take" ["self","name","thing"]<|pI P w K aC):yx P w K mg base (Cw P w) 7 f fd ["self","thing"] (vm P w K aC aN aT):=by
 refine F.qm sc fun _ A _ _ H vs Q E j h=>?_;obtain⟨a,fp,S,d,v,rfl,sh,th,hd,sm,ah,tg,hl,hn,k1,k2,R⟩:=h;have hu:=Be j;refine⟨_,(zD (yD<|yE QR j.m zX<|zA (pv 1) zC)<|zD (yD<|yZ (pv 0) T.cls QS j.m zX<|zA (pv 1) zC)<|zD (yI (zU (TX j.units) (pv 1) (j9 (pv 0) rfl)<|by with_unfolding_all rfl) (zE<|zM<|Sm j.units (j9 (pv 0) rfl) (pv 1)<|fun _ _=>rfl) zQ)<|zD (Ck (i:=2) sc.nd<|zZ yC (zJ Qp j.m<|zA (pv 1) zC)<|yK jS (by rfl) T.str Yd<|zA (zJ QT j.m<|zA (pv 1) zC) zC)<|zD (Ck (i:=3) sc.nd<|IE hu (j9 (pv 0) rfl) (pv 2) zH ⟨rfl,rfl,rfl,rfl⟩)<|zD (Ck (i:=4) sc.nd<|af (pv 2)<|pv 3)<|zD (yD<|X9 (pv 0) T.cls Qs j.m<|zA (pv 4)<|zA (pv 1) zC)<|zE<|zM<|pv 4),?_⟩
 refine⟨_,rfl,d,v,rfl,hd,sm,ah,fun M H1 x=>?_,fun M H1 x=>k1 M _ x⟩;obtain⟨t,rfl,gt⟩:=tg M;have hd:=Tz hd;obtain⟨y,ev⟩:∃t,v=.ref t:=by
  obtain⟨c,r,e,_⟩:=vQ hd;exact⟨c,e⟩
 subst ev;have g:=sh.same x;have o:=Dt.same x _ _ hd;obtain⟨Y,s,d1,U,d3,ts,nx,B,nd,l,Z,h3,h4,O,h6,h7,h8,h9⟩:=id g;refine⟨_,rfl,a,s,_,rfl,l,rfl,_,rfl,a,fp,S,t,.ref y,rfl,g,th,o,fun al H2 J=>?_,fun no H2 J=>k2 t rfl M no _<|x.trans J⟩;have R:=R t rfl M al;have I:=x.trans J;have q:=g.same J;have b:=Dt.same J _ _ o;clear g Z h3 h4 O h6 h7 h8 h9 l o B nd;obtain⟨Y,s,d1,U,d3,ts,nx,B,nd,l,Z,h3,h4,O,h6,h7,h8,h9⟩:=id q;have kt:=CD gt;refine⟨_,rfl,_,rfl,a,aC,s,_,_,rfl,l,T.cls,T.n2,rfl,y,U,_,t.dat,rfl,rfl,O,kt,b,_,rfl,?_⟩;cases hv:Uu (S.map fun e=>(e.d,V.str e.nm)) t.dat with
 |some u =>
  obtain⟨p,hp,e⟩:=Zd.mp<|kK hv;obtain⟨N,C,rfl⟩:=Zd.mp hp;have e:N.d=t.dat:=e;have ab:Uu (S.map fun e=>(e.d,V.str e.nm)) t.dat=some (V.str N.nm):=uZ (by rw[ZF];exact Y.nd) (Zd.mpr ⟨N,C,by rw[e]⟩);exact Ur ⟨_,rfl,a,aC,s,_,_,rfl,l,T.cls,T.n2,rfl,_,rfl,y,U,_,t.dat,_,rfl,rfl,O,kt,b,ab,R _ S N ⟨Off.of I,q,C,e,.inl rfl⟩⟩
 |none =>
  have D:t.dat∉S.map (·.d):=fun z=>by
   have:=vL hv;rw[ZF]at this;exact this z
  refine Ut (A:=False) ?_;have db:=Gv t.sp;have G:=hn<|UF t;refine⟨_,rfl,.ref y,t,rfl,b,_,rfl,.ref y,t,rfl,b,gt,fun H3 L=>⟨_,rfl,?_,_,_,rfl,rfl,?_,?_⟩⟩
  ·have hz:(dg t.sp).natAbs<97:=by lia
   rcases Y2 (dg t.sp).natAbs with z|z
   ·rw[z];decide
   ·have:(dg t.sp).natAbs.log2<7:=(Nat.log2_lt<|by lia).mpr (by lia);lia
  ·rw[PD];have l:=FX (n:=(dg t.sp).toNat) (by lia);have Z:=IR t;exact zp (by lia)
  rw[PD];show UT 2 (V.str<|UF t) _ H3 _;have am:=q.same L;have g1:=L _ _ l;have g6:=L _ _ h6;refine⟨_,rfl,a,aC,s,_,_,rfl,g1,T.cls,T.n3,rfl,d3,rfl,.inl ⟨_,.inl g6⟩,_,rfl,_,vg.k (k:=(Ev (UF t):Key)) g6,?_⟩;have em:(Uu nx (Ev (UF t):Key)).getD (V.int 0)=V.int (((xu S<|UF t).getD 0:Nat):Int):=by
   rw[h8];cases xu S (UF t) with
   |none=>rfl
   |some m=>rfl
  rw[em];have dl:(".":Str).length=1:=by decide +kernel
  refine⟨_,rfl,_,rfl,by have:=uB t;lia,by rw[dl];decide,_,rfl,_,rfl,G,?_⟩;have X:UF t++"."++UD ((xu S<|UF t).getD 0)=(GO S t).nm:=by unfold En.nm GO;rw[ON]
  rw[X];refine⟨_,rfl,a,s,_,rfl,g1,rfl,_,rfl,_,rfl,a,fp,S,GO S t,y,rfl,am,⟨kt,j7 t,G,uB t⟩,Dt.same L _ _ b,D,Pw Y<|j7 t,hl,fun H4 o4 an=>?_⟩;exact⟨_,rfl,R _ _ _ ⟨(Off.of<|I.trans L).trans o4,an,by simp,rfl,.inr ⟨rfl,rfl,D⟩⟩⟩
end AC
namespace AD
abbrev st:Stmt:=inClass (top 62) 0
theorem sc:zx ["self","base","name"] ["self","base"] (zG st):=Co
include T in
theorem ok (F:xf K "__init__" "Shelf.__init__" st f fd)(Qg:Met P w K mg base aC 1 "names" ["self"]<|rM P w K aC)(Qs:Met P w K mg base aC 1 "take" ["self","name","thing"]<|pI P w K aC)
  (Qc:sU P w K mg base aC 4 "thing" ["self","name"]<|vf P w K aC aN):yx P w K mg base Cn 5 f fd ["self","base"] (oX P w K aC):=by
 refine F.ok sc fun _ A _ _ H vs Q E hr h=>?_;obtain⟨x,n,b,S,rfl,hx,I,ne,hb,k⟩:=h;refine⟨_,(zD (Kz (pv 0) xY rfl)<|zD (Kz (pv 0) PP rfl)<|zD (Kz (pv 0) xY rfl)<|zE<|yI (zU Se (pv 1) k9<|zV _) (zE<|xQ EO rfl (jW<|kR (pv 1) T.cls Qg hr.m) (zR (i:=2) sc.nd rfl<|EL rfl)<|zE<|yD<|X9 (pv 0) T.cls Qs hr.m<|zA (pv 2)<|zA (yZ (pv 1) T.cls Qc hr.m z9<|zA (pv 2) zC) zC) zQ),?_⟩
 refine fun g n1=>⟨_,rfl,x,aC,n,_,rfl,(zF n1) _ _ hx,T.cls,T.n1,by decide,?_⟩;have N:x≠g:=zN hx n1;have ap:n≠g:=zN I n1;refine fun d o2 n2 T2 e2=>?_;obtain⟨es,rfl⟩:=e2;have bm:d≠x/\d≠g/\H d=none:=by
  refine⟨fun z=>?_,fun z=>?_,?_⟩
  ·rw[z,zB]at n2;cases n2
  ·rw[z,zI<|Ey N,zB]at n2;cases n2
  ·have a1:d≠x:=fun z=>by rw[z,zB]at n2;cases n2
   have a2:d≠g:=fun z=>by rw[z,zI<|Ey N,zB]at n2;cases n2
   rw[zI a1,zI a2]at n2;exact n2
 obtain⟨C,O,R⟩:=bm;have ar:n≠d:=zN I R;refine⟨_,rfl,x,aC,n,[("thing_by_name",V.ref g)],rfl,by rw[zI<|Ey C,zB];rfl,T.cls,T.n2,(show 1<1000 by decide),?_⟩;refine fun j n3=>?_;have b0:j≠x/\j≠d/\j≠g/\H j=none:=by
  have a1:j≠x:=fun z=>by rw[z,zB]at n3;cases n3
  have a2:j≠d:=fun z=>by rw[z,zI C,zB]at n3;cases n3
  have a3:j≠g:=fun z=>by rw[z,zI<|Ey N,zI<|Ey O,zI<|Ey N,zB]at n3;cases n3
  refine⟨a1,a2,a3,?_⟩;rw[zI a1,zI a2,zI a1,zI a3]at n3;exact n3
 obtain⟨X,an,am,U⟩:=b0;have as:n≠j:=zN I U;refine⟨_,rfl,x,aC,n,[("thing_by_name",V.ref g),("name_by_thing",V.ref d)],rfl,by rw[zI<|Ey X,zB];rfl,T.cls,T.n3,(show 2<1000 by decide),?_⟩;obtain⟨p,J⟩:∃p,p=upd (upd (upd (upd (upd (upd H g<|.dK []) x<|.ins aC n<|Uz "thing_by_name" (V.ref g) []) d<|Gd d es) x<|.ins aC n<|Uz "name_by_thing" (V.ref d) [("thing_by_name",V.ref g)]) j<|.dK []) x (.ins aC n<|Uz "next_numbers" (V.ref j) [("thing_by_name",V.ref g),("name_by_thing",V.ref d)]):=⟨_,rfl⟩;have q0:p x=some (.ins aC n<|OT g d j):=by rw[J,zB];rfl
 have q1:p g=some (.dK []):=by rw[J,zI<|Ey N,zI<|Ey am,zI<|Ey N,zI<|Ey O,zI<|Ey N,zB]
 have q2:p d=some (Gd d es):=by rw[J,zI C,zI<|Ey an,zI C,zB]
 have q3:p j=some (.dK []):=by rw[J,zI X,zB]
 have qx:p n=some (.own x):=by rwa[J,zI ne,zI as,zI ne,zI ar,zI ne,zI ap]
 have ab:Off [x] H p:=fun c o y e=>by
  have cx:c≠x:=fun z=>y (by rw[z];exact Zi);rwa[J,zI cx,zI<|zN e U,zI cx,zI<|zN e R,zI cx,zI<|zN e n1]
 have G:∀c∈[x,n,g,d,j],c=x\/c=n\/H c=none:=fun c y=>by
  simp only[Zm,Z9,JQ]at y
  rcases y with rfl|rfl|rfl|rfl|rfl
  ·exact .inl rfl
  ·exact .inr (.inl rfl)
  ·exact .inr (.inr n1)
  ·exact .inr (.inr R)
  ·exact .inr (.inr U)
 have ah:yq P w K aC p x [x,n,g,d,j] []:=by
  obtain⟨_,_,_,xs,a5,r⟩:=T2;cases r;rw[zB]at a5;have b8:p d=some (Gd d<|List.map (L8<|yW P w) []):=q2.trans a5;exact⟨tV.nil,n,g,d,j,[],[],rfl,by simp[Ey ne,N,Ey C,Ey X,ap,ar,as,Ey O,Ey am,Ey an],q0,qx,rfl,q1,⟨ZN _,fun _ z=>(nomatch z),Yn,[],b8,.nil⟩,q3,ZN _,fun h=>rfl,fun i e t z=>by cases z⟩
 rw[←J];clear J
 rcases hb with⟨rfl,rfl⟩|⟨a,fp0,rfl,sh0,x0,dx0,Sl⟩
 ·exact⟨_,rfl,rfl,false,congrArg V.bl (by rw[Ze rfl];rfl),Ut (A:=False)<|k _ _ G ab ah⟩
 ·refine⟨_,rfl,rfl,true,congrArg V.bl (by rw[Zn<|fun z=>by cases z];rfl),Ur (B:=False) ?_⟩;have dj:∀c∈fp0,c∉[x,n,g,d,j]:=fun c y z=>by
   obtain⟨o,eo,_⟩:=sh0.wB c y
   rcases G c z with rfl|rfl|q
   ·exact x0 y
   ·exact dx0 y
   ·rw[eo]at q;cases q
  have D:yq P w K aC p a fp0 S:=sh0.off (gp:=[x]) (fun b hb xs z=>by
   rw[Zb.mp hb]at z
   rcases z with z|⟨u,z⟩
   ·rw[hx]at z;cases z
   ·rw[hx]at z;cases z) ab (fun c y z=>x0<|by rwa[←Zb.mp z])
  obtain⟨gS,dy,e1,e2,e3,ts,nx,b9,nd,h1,h2,h3,h4,h5,h6,h7,h8,h9⟩:=id D;refine⟨_,rfl,a,dy,_,rfl,h1,rfl,a,fp0,S,rfl,D,fun l nl=>?_⟩;have ul:=zF (o:=.lst<|S.map fun e=>V.str e.nm) nl;have Y:upd p l (.lst<|S.map fun e=>V.str e.nm) l=some (.lst<|S.map fun e=>V.str e.nm):=zB;have al:=ah.same ul;have L:=D.same ul;have a9:l∉[x,n,g,d,j]:=fun z=>by
   obtain⟨o,eo,_⟩:=ah.wB l z;rw[eo]at nl;cases nl
  have a6:Off [x] H (upd p l<|.lst<|S.map fun e=>V.str e.nm):=ab.trans<|Off.of ul;refine⟨l,rfl,⟨_,xx.of Y⟩,?_⟩;generalize upd p l (.lst<|S.map fun e=>V.str e.nm)=H5 at ul Y al L a6;have b7:=al.wB.tup;refine uA (K:=K) (a:=l) (xs:=S.map fun e=>V.str e.nm) (fun i σ H6=>∃o,σ=[some<|.ref x,some<|.ref a,o]/\Off [x,n,g,d,j] H5 H6/\yq P w K aC H6 x [x,n,g,d,j] (S.take i)) ⟨none,rfl,Off.refl _ _,al⟩ (fun i σ H6 hi ⟨_,_,o6,_⟩=>xx.of<|o6 _ _ a9 Y) ?_ ?_
  ·rintro i v σ H6 Z ⟨o,rfl,o6,s⟩;rw[Zs]at Z;cases q:S[i]? with
   |none=>rw[q]at Z;cases Z
   |some e =>
    rw[q]at Z;have Z:V.str e.nm=v:=Option.some.inj Z;subst Z;have he:=Zt q;have M:=L.off b7 o6 dj;obtain⟨_,a7,_,_,_,_,_,_,_,k1,_⟩:=id M;obtain⟨_,a0,_,_,_,_,_,_,_,z1,_⟩:=id s;refine⟨_,rfl,x,a0,_,rfl,z1,rfl,_,rfl,_,rfl,a,a7,_,rfl,k1,rfl,_,rfl,a,fp0,S,.str e.nm,.str e.nm,rfl,M,rfl,fun e2 a8 ex t ht=>?_,fun no=>(Jq no<|Zd.mpr ⟨e,he,rfl⟩)⟩;cases R7 gS he a8 (by injection ex);refine⟨x,_,S.take i,e,t,rfl,s,gS.ent e he,ht,?_,?_,by rw[ZG];lia,fun H7 o7 ca=>?_⟩
    ·rw[JS];exact GL gS.nd (by rw[Zs,q];rfl)
    ·rw[JS];exact GL gS.nn (by rw[Zs,q];rfl)
    ·refine⟨_,rfl,o6.trans o7,?_⟩;rwa[Yk,q]
  ·rintro σ H6 ⟨o,rfl,o6,s⟩;rw[Za,ZJ]at s;refine k _ _ G (fun c u y e=>?_) s;have e5:=a6 c u y e
   by_cases z:c∈[x,n,g,d,j]
   ·rcases G c z with q|q|q
    ·exact absurd (by rw[q];exact Zi) y
    ·subst q;obtain⟨_,a0,y1,y2,y3,_,_,a4,_,_,z2,_⟩:=id s;injection a4 with w1 w2;injection w2 with w2 w3;subst w2;rw[I]at e;cases e;exact z2
    ·rw[e]at q;cases q
   ·exact o6 c u z e5
end AD
end
end An08
namespace An
open PySem L2 AnJ
theorem j3 (h:UN ls):UV (yh ls)=true:=(CD<|kF h).1 |> fun z=>by
 have z:(UV (.str "leaf")&&(UV (yh ls)&&true))=true:=z;rw[Zk,Zk]at z;exact z.2.1
structure xr (K:Cc)(H:Hp)(fs:Dk)(Dm:Dl):Prop where
 keys:Dm.map (·.1)=fs.map fun f=>(.inr (zc f.1):Key)
 val:∀(i:Nat) (f:Fi) (kv:Key×V),fs[i]?=some f->Dm[i]?=some kv->Dt K H (yh f.2) kv.2/\UN f.2
section
variable {K:Cc}{H H':Hp}{fs:Dk}{Dm:Dl}
theorem xr.nil:xr K H [] []:=⟨rfl,fun i f kv h=>(nomatch h)⟩
theorem xr.len (h:xr K H fs Dm):Dm.length=fs.length:=by
 have:=congrArg List.length h.keys;rw[Za,Za]at this;exact this
theorem xr.same (h:xr K H fs Dm)(e:zy H H'):xr K H' fs Dm:=⟨h.keys,fun i f kv a b=>⟨Dt.same e _ _ (h.val i f kv a b).1,(h.val i f kv a b).2⟩⟩
theorem xr.off {X:Dd}(h:xr K H fs Dm)(n:∀b∈X,∀xs,¬Rd H b (.tup xs))(o:Off X H H'):xr K H' fs Dm:=⟨h.keys,fun i f kv a b=>⟨Dt.off n o _ _ (j3 (h.val i f kv a b).2) (h.val i f kv a b).1,(h.val i f kv a b).2⟩⟩
theorem xr.get (h:xr K H fs Dm){i:Nat}{k:Key}{v:V}(e:Dm[i]?=some (k,v)):∃f,fs[i]?=some f/\k=.inr (zc f.1)/\Dt K H (yh f.2) v/\UN f.2:=by
 have hl:=(Zv.mp e).1;have d:=Zl (l:=fs) (i:=i) (by rwa[←h.len]);have ek:=congrArg (fun l=>l[i]?) h.keys;simp only[Zs,e,d,YA]at ek;obtain⟨a,b⟩:=h.val i _ _ d e;exact⟨_,d,Option.some.inj ek,a,b⟩
theorem xr.snoc (h:xr K H fs Dm){f:Fi}{v:V}(e:Dt K H (yh f.2) v)(hl:UN f.2):xr K H (fs++[f]) (Dm++[(.inr<|zc f.1,v)]):=by
 refine⟨by rw[Zo,Zo,h.keys];rfl,fun i g kv a b=>?_⟩
 by_cases z:i<fs.length
 ·rw[ZH z]at a;rw[ZH<|by rwa[h.len]]at b;exact h.val i g kv a b
 ·rw[ZP<|by lia]at a;rw[ZP (by rw[h.len];lia)]at b;have d:i-fs.length=0:=by
   rcases Y2 (i-fs.length) with q|q
   ·exact q
   ·rw[J5.mpr (by show 1<=_;lia)]at a;cases a
  rw[d]at a;rw[h.len,d]at b;cases a;cases b;exact⟨e,hl⟩
end
theorem uP {d:Nat}{a b:Da}(ha:a≠[])(hb:b≠[])(j:∀l∈a,zP l=true)(n:∀l∈b,zP l=true)(e:zc a=zc b):a=b:=by
 have g:=jO ha fun y f=>xV<|j y f;have i:=jO hb fun y f=>xV<|n y f;unfold zc at e;rw[←g,←i,e]
def Cp (Do:Dg):Dl:=Do.map fun p=>((.inr p.1:Key),V.str p.2)
theorem Hk (Do:Dg):(Cp Do).map (·.1)=Do.map fun p=>(.inr p.1:Key):=by unfold Cp;rw[ZF];rfl
theorem CV {Do:Dg}{l n:Str}(h:l∉Do.map (·.1)):ye (Cp Do) (.inr l) (.str n)=Cp (Do++[(l,n)]):=by
 rw[kH]
 ·unfold Cp;rw[Zo];rfl
 ·rw[Hk];intro z;obtain⟨p,b,e⟩:=Zd.mp z;cases e;exact h<|Zd.mpr ⟨p,b,rfl⟩
def Cr (b:List<|Str×Ei):Dl:=b.map fun p=>((.inr p.1:Key),V.ref p.2)
theorem Fv (b:List<|Str×Ei):(Cr b).map (·.1)=b.map fun p=>(.inr p.1:Key):=by unfold Cr;rw[ZF];rfl
theorem TC {d:List (Str×Ei)}(nd:(d.map (·.1)).Nodup):((Cr d).map (·.1)).Nodup:=by
 rw[Fv];have:(d.map fun p=>(.inr p.1:Key))=(d.map (·.1)).map Sum.inr:=by rw[ZF];rfl
 rw[this];exact List.Pairwise.map _ (fun a b n e=>by cases e;exact n rfl) nd
theorem uR {b:List (Str×Ei)}(nd:(b.map (·.1)).Nodup){p:Str×Ei}(h:p∈b):Uu (Cr b) (.inr p.1)=some (.ref p.2):=uZ (TC nd)<|Zd.mpr ⟨p,h,rfl⟩
theorem OS {b:List (Str×Ei)}{l:Str}(h:l∉b.map (·.1)):Uu (Cr b) (.inr l)=none:=by
 cases e:Uu (Cr b) (.inr l) with
 |none=>rfl
 |some v =>
  have:=kK e;rw[Fv]at this;obtain⟨p,d,z⟩:=Zd.mp this;cases z;exact absurd (Zd.mpr ⟨p,d,rfl⟩) h
theorem Fw {d:List (Str×Ei)}{l:Str}{b:Ei}(h:l∉d.map (·.1)):ye (Cr d) (.inr l) (.ref b)=Cr (d++[(l,b)]):=by
 rw[vM _<|OS h];unfold Cr;rw[Zo];rfl
theorem Fx {b:List (Str×Ei)}(nd:(b.map (·.1)).Nodup){p:Str×Ei}(h:p∈b):ye (Cr b) (.inr p.1) (.ref p.2)=Cr b:=by
 unfold ye;rw[Zy (by rw[qS,uR nd h];rfl)];unfold Cr;rw[ZF];refine Z1 fun q f=>?_;show(if(.inr q.1:Key)=.inr p.1 then((.inr q.1:Key),V.ref p.2) else(.inr q.1,V.ref q.2))=(.inr q.1,V.ref q.2)
 split
 ·rename_i e;have e:q.1=p.1:=Sum.inr.inj e;have:V.ref q.2=V.ref p.2:=by
   have d:=uR nd f;rw[e,uR nd h]at d;exact(Option.some.inj d).symm
  rw[this]
 ·rfl
structure wj (K:Cc)(H1 H:Hp)(fs:Dk)(fa:List<|Str×Ei):Prop where
 wN:fa.map (·.1)=Cm fs
 nd:(fa.map (·.2)).Nodup
 new:∀p∈fa,H1 p.2=none
 at_:∀p∈fa,∃Dm,H p.2=some (.dK Dm)/\xr K H (sub fs p.1) Dm
section
variable {K:Cc}{H1 H H':Hp}{fs:Dk}{fa:List (Str×Ei)}
theorem wj.nil:wj K H1 H [] []:=⟨rfl,Yn,fun p h=>(nomatch h),fun p h=>(nomatch h)⟩
theorem wj.off {X:Dd}(h:wj K H1 H fs fa)(ex:∀c∈X,∃o,H1 c=some o)(n:∀b∈X,∀xs,¬Rd H b (.tup xs))(o:Off X H H'):wj K H1 H' fs fa:=⟨h.wN,h.nd,h.new,fun p d=>by
 obtain⟨f,a,b⟩:=h.at_ p d;refine⟨f,o _ _ (fun z=>?_) a,b.off n o⟩;obtain⟨q,e⟩:=ex _ z;rw[h.new p d]at e;cases e⟩
theorem wj.same (h:wj K H1 H fs fa)(e:zy H H'):wj K H1 H' fs fa:=⟨h.wN,h.nd,h.new,fun p f=>by
 obtain⟨d,a,b⟩:=h.at_ p f;exact⟨d,e _ _ a,b.same e⟩⟩
theorem wj.one (h:wj K H1 H fs fa){f:Fi}{a:Str}(e:f.1=[a]):wj K H1 H (fs++[f]) fa:=⟨by rw[j0,e];exact h.wN,h.nd,h.new,fun p d=>by
 rw[sub_snoc,Hw e];show∃b,_/\xr K H (sub fs p.1++[]) b;rw[ZK];exact h.at_ p d⟩
theorem wj.rN (h:wj K H1 H fs fa):(fa.map (·.1)).Nodup:=by rw[h.wN];exact(xG fs).1
theorem z7 {c:Ei}:Off [c] H (upd H c o):=(Off.refl _ _).upd<|Zb.mpr rfl
theorem zW {c:Ei}{Dm:Dl}(h:H c=some (.dK Dm)):∀b∈[c],∀xs,¬Rd H b (.tup xs):=fun b hb xs=>by
 rw[Zb.mp hb];exact GN h (fun _ z=>(nomatch z)) (fun _ _ z=>(nomatch z)) xs
theorem wj.old (h:wj K H1 H fs fa){p:Str×Ei}(g:p∈fa){Dm:Dl}(hk:H p.2=some (.dK Dm))(A:xr K H (sub fs p.1) Dm){f:Fi}{b:Str}{r:Da}(e:f.1=p.1::b::r){v:V}(D:Dt K H (yh f.2) v)(hl:UN f.2) :
  wj K H1 (upd H p.2<|.dK<|Dm++[(.inr<|zc (b::r),v)]) (fs++[f]) fa:=by
 have n:=zW hk;have o:Off [p.2] H (upd H p.2<|.dK<|Dm++[((.inr (zc (b::r)):Key),v)]):=z7;have inl:p.1∈Cm fs:=by rw[←h.wN];exact Zd.mpr ⟨p,g,rfl⟩
 refine⟨?_,h.nd,h.new,fun q l=>?_⟩
 ·rw[j0,e];show _=qL (Cm fs) p.1;unfold qL;rw[Zy inl];exact h.wN
 ·rw[sub_snoc,vJ e]
  by_cases z:p.1=q.1
  ·rw[Zy z];have eq:p.2=q.2:=by
    have t:=uR h.rN l;rw[←z,uR h.rN g]at t;injection (Option.some.inj t)
   refine⟨_,by rw[←eq];exact zB,?_⟩;rw[←z];exact(A.off n o).snoc (f:=(b::r,f.2)) (Dt.off n o _ _ (j3 hl) D) hl
  ·rw[Zr z];obtain⟨u,w,x⟩:=h.at_ q l;have ne:q.2≠p.2:=fun y=>by
    obtain⟨i,B,s⟩:=ZY.mp g;obtain⟨j,C,d⟩:=ZY.mp l;have:=(Jg (h₀:=by simpa using B) (h₁:=by simpa using C) h.nd).mp (by rw[ZT,ZT,s,d];exact y.symm);subst this;rw[s]at d;exact z (by rw[d])
   refine⟨u,by rw[zI ne];exact w,?_⟩;show xr K _ (sub fs q.1++[]) u;rw[ZK];exact x.off n o
theorem wj.lB (h:wj K H1 H fs fa){l b:Str}{r:Da}(nl:l∉Cm fs){c:Ei}(t:H c=some (.dK []))(n1:H1 c=none)(i:∀p∈fa,p.2≠c){f:Fi}(e:f.1=l::b::r){v:V}(w:Dt K H (yh f.2) v)(hl:UN f.2) :
  wj K H1 (upd H c<|.dK [(.inr<|zc (b::r),v)]) (fs++[f]) (fa++[(l,c)]):=by
 have j:=zW t;have o:Off [c] H (upd H c<|.dK [((.inr (zc (b::r)):Key),v)]):=z7;have x:sub fs l=[]:=JF.mpr fun k hk=>by
  obtain⟨s,u⟩:=wg.mp hk;refine nl<|((xG fs).2 l).mpr ⟨_,u,?_⟩;cases q:k.1 with
  |nil=>exact absurd q s
  |cons b r=>exact⟨b,r,rfl⟩
 refine⟨?_,?_,fun p d=>?_,fun p d=>?_⟩
 ·rw[j0,e,Zo,h.wN];show _=qL (Cm fs) l;unfold qL;rw[Zr nl];rfl
 ·rw[Zo];refine jX h.nd fun z=>?_;obtain⟨p,d,n⟩:=Zd.mp z;exact i p d n
 ·rcases ZB.mp d with z|z
  ·exact h.new p z
  ·rwa[Zb.mp z]
 ·rw[sub_snoc,vJ e]
  rcases ZB.mp d with z|z
  ·have ne:l≠p.1:=fun y=>nl (by rw[y,←h.wN];exact Zd.mpr ⟨p,z,rfl⟩);rw[Zr ne];obtain⟨g,a,b⟩:=h.at_ p z;refine⟨g,by rw[zI<|i p z];exact a,?_⟩;show xr K _ (sub fs p.1++[]) g;rw[ZK];exact b.off j o
  ·rw[Zb.mp z,Zy rfl,x];exact⟨_,zB,xr.snoc (fs:=[]) xr.nil (f:=(b::r,f.2)) (Dt.off j o _ _ (j3 hl) w) hl⟩
end
end An
namespace An08
open PySem L2 An
seal L2.PS L2.sX L2.PE L2.PT L2.PW L2.PA L2.PG L2.pC L2.PI L2.oY L2.PC
inductive pK (K:Cc)(vs:Dj)(H:Hp)(Q:VK)(e3:XK):Prop
 |mk (d:Ek) (v:V) (h0:vs=[v]) (h1:Dw K H d v) (h2:small d=true) (h3:∀H',zy H H'->Q (.bl<|UA d) H'):pK K vs H Q e3
inductive tM (K:Cc)(aP:Ei)(vs:Dj)(H:Hp)(Q:VK)(E:XK):Prop
 |mk (d:Ek) (v:V) (h0:vs=[v]) (h1:Dw K H d v) (h2:small d=true) (h3:(∀x,d=.str x->UC x=true->∀p H',zy H H'->xx K H' p ((Us x).map V.str)->Q (.ref p) H')) (h4:(UA d=false->∀H',zy H H'->E (.ref aP) none H')):tM K aP vs H Q E
inductive qd (K:Cc)(vs:Dj)(H:Hp)(Q:VK)(e3:XK):Prop
 |mk (x:Str) (h0:vs=[.str x]) (h1:x.length<=1000) (h2:∀p H',zy H H'->xx K H' p ((UU x).map V.str)->Q (.ref p) H'):qd K vs H Q e3
inductive oH (K:Cc)(vs:Dj)(H:Hp)(Q:VK)(e3:XK):Prop
 |mk (d e:Ek) (v u:V) (h0:vs=[v,u]) (h1:Dw K H d v) (h2:Dw K H e u) (h3:small d=true) (h4:small e=true) (h5:∀H',zy H H'->Q (.bl<|UA d&&xP e) H'):oH K vs H Q e3
theorem Ri:[V.str "/"]=[V.str ⟨#[47]⟩]:=by rw[Xp];rfl
theorem Kg (x:Str):PySem.Txt.split x ⟨#[47]⟩=Us x:=by unfold Us;rw[Xp];rfl
theorem rF:UR x=true↔x.length<=20/\(cs x).all UL=true:=by
 unfold UR;rw[Zk,ZQ]
theorem uz:zP x=true↔1<=x.length/\x.length<=8/\(cs x).all UO=true:=by
 unfold zP;rw[Zk,Zk,ZQ,ZQ,and_assoc]
def Gg (t:Th):Prop:=t.Good/\uK t.dat=true/\small t.dat=true/\narrow t.dat
theorem kD (h:UR x=true):Ok 1000 x:=by
 obtain⟨e,b⟩:=rF.mp h;refine⟨by lia,?_⟩;rw[yV];intro c d;have:=ZA.mp b c d;unfold UL at this;simp only[Zk,ZQ]at this;lia
theorem FE (h:zP x=true):Ok 1000 x:=⟨by have:=(uz.mp h).2.1;lia,Bu h⟩
theorem qG:∀{ls:Da},(∀l∈ls,l.length<=1000)->yH (ls.map .str)=true
 |[],_=>rfl
 |l::ls,h=>by
  show(decide (l.length<=1000)&&yH (ls.map .str))=true;rw[Ze<|h l Zi,qG fun x b=>h x<|Zf _ b];rfl
theorem Ga:∀{rs:Dg},(∀r∈rs,r.1.length<=1000/\r.2.length<=1000)->yH (rs.map zm)=true
 |[],_=>rfl
 |r::rs,h=>by
  obtain⟨b,d⟩:=h r Zi;show((decide (2<=1000)&&(decide (r.1.length<=1000)&&(decide (r.2.length<=1000)&&true)))&&yH (rs.map zm))=true;rw[Ze b,Ze d,Ga fun x e=>h x<|Zf _ e];rfl
theorem Xt {ls:Da}(h:∀l∈ls,UR l=true)(hl:ls.length<=63):Gg (.leaf ls):=by
 have f:∀l∈ls,l.length<=1000:=fun l hl=>(kD<|h l hl).len;refine⟨⟨by show ls.length<=1000;lia,fun p i=>kD<|h p i⟩,?_,?_,fun d e=>?_⟩
 ·show((decide (("leaf":Str)="leaf")&&(decide (1=1)&&((ls.map EI).all US)))||_)=true;have:(ls.map EI).all US=true:=by rwa[List.all_map,ZA]
  rw[this,Ze rfl];rfl
 ·show(decide (2<=1000)&&(decide (("leaf":Str).length<=1000)&&((decide ((ls.map EI).length<=1000)&&yH (ls.map .str))&&true)))=true;rw[qG f,Za,Ze<|show ls.length<=1000 by lia,Ze<|show("leaf":Str).length<=1000 by decide +kernel];rfl
 ·have e:[EI "leaf",.tuple<|ls.map .str]=d:=by injection e
  subst e;refine⟨by show 2<=63;decide,fun e g j b=>?_⟩
  rcases Zm.mp g with q|q
  ·rw[q]at b;cases b
  ·rw[Zb.mp q]at b;cases b;rwa[Za]
theorem NU {rs:Dg}(h:∀r∈rs,zP r.1=true/\Ok 1000 r.2)(d:Xg (rs.map (·.1))=true)(hl:rs.length<=63):Gg (.tree rs):=by
 have l:∀rs:Dg,(∀r∈rs,zP r.1=true/\Ok 1000 r.2)->∀p∈yB rs,Ok 1000 p:=by
  intro rs
  induction rs with
  |nil=>intro _ p b;cases b
  |cons r rs ih =>
   intro h p b
   rcases Zm.mp b with q|b
   ·rw[q];exact FE (h r Zi).1
   ·rcases Zm.mp b with q|b
    ·rw[q];exact(h r Zi).2
    ·exact ih (fun x o=>h x<|Zf _ o) p b
 refine⟨⟨?_,l rs h⟩,?_,?_,fun g e=>?_⟩
 ·show(yB rs).length<=1000;rw[Ao.vh];lia
 ·show((decide (("tree":Str)="leaf")&&(decide (1=1)&&xP (.tuple<|rs.map zm)))||((decide (("tree":Str)="tree")&&(decide (1=1)&&((rs.map zm).all Xb&&Xg ((rs.map zm).map UY))))||_))=true;have i:(rs.map zm).all Xb=true:=by
   rw[List.all_map,ZA];intro r d;show(zP r.1&&true)=true;rw[(h r d).1];rfl
  have j:(rs.map zm).map UY=rs.map (·.1):=by rw[ZF];rfl
  rw[i,j,d,Zn<|show¬("tree":Str)="leaf" by decide +kernel,Ze<|show("tree":Str)="tree" from rfl];rfl
 ·show(decide (2<=1000)&&(decide (("tree":Str).length<=1000)&&((decide ((rs.map zm).length<=1000)&&yH (rs.map zm))&&true)))=true;rw[Ga fun r d=>⟨(FE (h r d).1).len,(h r d).2.len⟩,Za,Ze<|show rs.length<=1000 by lia,Ze<|show("tree":Str).length<=1000 by decide +kernel];rfl
 ·have e:[EI "tree",.tuple<|rs.map zm]=g:=by injection e
  subst e;refine⟨by show 2<=63;decide,fun e n s f=>?_⟩
  rcases Zm.mp n with q|q
  ·rw[q]at f;cases f
  ·rw[Zb.mp q]at f;cases f;rwa[Za]
theorem Bh {ps:Da}(n:Ok 1000 x)(d:UR y=true)(g:∀p∈ps,Ok 1000 p)(nd:ps.Nodup)(hl:ps.length<=2):Gg (.note x ps y):=by
 refine⟨⟨?_,fun p h=>?_⟩,?_,?_,fun i e=>?_⟩
 ·show([x,dig ps.length]++ps++[y]).length<=1000;simp;lia
 ·have h:p∈[x,dig ps.length]++ps++[y]:=h;simp at h
  rcases h with z|z|z|z
  ·rwa[z]
  ·rw[z];exact⟨ZR (CG<|by lia)<|by decide,Kr _⟩
  ·exact g p z
  ·rw[z];exact kD d
 ·show((decide (("note":Str)="leaf")&&(decide (3=1)&&xP (.str x)))||((decide (("note":Str)="tree")&&(decide (3=1)&&BM (.str x)))||(decide (("note":Str)="note")&&(decide (3=3)&&(true&&(((ps.map EI).all UJ&&(decide ((ps.map EI).length<=2)&&decide ((AxS.uniq<|(ps.map EI).map U1).length=(ps.map EI).length)))&&UR y))))))=true;have j:(ps.map EI).all UJ=true:=by rw[List.all_map,ZA];exact fun _ _=>rfl
  have l:(ps.map EI).map U1=ps:=by rw[ZF];exact J1 _
  rw[j,l,G5 nd,Za,d,Ze hl,Ze<|show ps.length=ps.length from rfl,Zn<|show¬("note":Str)="leaf" by decide +kernel,Zn<|show¬("note":Str)="tree" by decide +kernel,Ze<|show("note":Str)="note" from rfl];rfl
 ·show(decide (4<=1000)&&(decide (("note":Str).length<=1000)&&(decide (x.length<=1000)&&((decide ((ps.map EI).length<=1000)&&yH (ps.map .str))&&(decide (y.length<=1000)&&true)))))=true;rw[qG fun p h=>(g p h).len,Za,Ze<|show ps.length<=1000 by lia,Ze n.len,Ze (kD d).len,Ze<|show("note":Str).length<=1000 by decide +kernel];rfl
 ·have e:[EI "note",.str x,.tuple<|ps.map .str,.str y]=i:=by injection e
  subst e;refine⟨by show 4<=63;decide,fun e f o b=>?_⟩;simp only[Zm,Z9,JQ]at f
  rcases f with q|q|q|q
  ·rw[q]at b;cases b
  ·rw[q]at b;cases b
  ·rw[q]at b;cases b;rw[Za];lia
  ·rw[q]at b;cases b
theorem SE {l:Da}(h:l.Pairwise FN):Xg l=true:=qw.mpr ⟨h.imp fun{a b} z q=>List.lt_asymm z q,Z8.mpr<|h.imp fun{a b} z=>FO z⟩
theorem RN (h:zS S x ws=true):x∈S.map En.nm:=by
 unfold zS at h;obtain⟨e,b,q⟩:=Z2.mp h;rw[Zk,ZQ]at q;exact Zd.mpr ⟨e,b,q.1⟩
theorem NP {ls:Da}(h:At S x<|.leaf ls):zS S x ["leaf","tree"]=true:=by
 obtain⟨e,b,rfl,hd⟩:=h;refine Z2.mpr ⟨e,b,?_⟩;rw[Zk,ZC,ZC,qJ hd];exact⟨rfl,Zi ..⟩
theorem NQ {Do:Dg}(h:At S x<|.tree Do):zS S x ["leaf","tree"]=true:=by
 obtain⟨e,b,rfl,hd⟩:=h;refine Z2.mpr ⟨e,b,?_⟩;rw[Zk,ZC,ZC,qJ hd];exact⟨rfl,Zf _<|Zi ..⟩
theorem MN (h:Tree d S x):zS S x ["leaf","tree"]=true:=by
 cases d with
 |zero=>exact absurd h<|fun z=>z
 |succ d =>
  rcases h with⟨ls,h⟩|⟨Do,h,_⟩
  ·exact NP h
  ·exact NQ h
theorem He {K:Cc}{p r:Ei}{Q:VK}{E:XK}(sh:yq P w K C H a fp S)(ok:yd S)(g:Gg t)(f:namesOk S t=true)(l:S.length<2000)(y:Dt K H t.dat v)
  (k:∀H2,Off fp H H2->yq P w K C H2 a fp (Cf S t).1->Q (.str (Cf S t).2) H2):vm P w K C p r [.ref a,v] H Q E:=by
 refine⟨a,fp,S,t.dat,v,rfl,sh,ok.th,Dt.dw y,g.2.2.1,g.2.2.2,fun _=>⟨t,rfl,g.1⟩,l,fun h=>by have:=MZ ok.num h;lia,fun z=>?_,fun D e _ n=>?_,fun D e _ _ H2 F j A=>?_⟩
 ·rw[g.2.1]at z;cases z
 ·have:=uU e;subst this;rw[f]at n;cases n
 ·have:=uU e;subst this;obtain⟨of,b,d,s,q⟩:=A
  rcases q with q|⟨q,o,B⟩
  ·rw[q]at d b;have i:=Ng ok (x:=j.nm) ⟨j,d,rfl,s⟩;rw[i]at k;exact k H2 of b
  ·have i:=Hc (S:=S) (t:=t) fun e u hd=>B<|Zd.mpr ⟨e,u,hd⟩;rw[i]at k;rw[o]at q;rw[q]at b;rw[o];exact k H2 of b
inductive wU (P:Ej)(w:Ep)(K:Cc)(C:Ei)(vs:Dj)(H:Hp)(Q:VK)(e3:XK):Prop
 |mk (a d:Ei) (fp:Dd) (S:Di) (Do:Dg) (h0:vs=[.ref a,.ref d]) (h1:yq P w K C H a fp S) (h2:yd S) (h3:Rd H d<|.dK<|Cp Do) (h4:(Do.map (·.1)).Nodup) (h5:(∀r∈Do,zP r.1=true/\zS S r.2 ["leaf","tree"]=true)) (h6:Do.length<=63) (h7:S.length<2000) (h8:∀H',Off fp H H'->yq P w K C H' a fp (Cf S<|.tree<|Uv Do).1->Q (.str (Cf S<|.tree<|Uv Do).2) H'):wU P w K C vs H Q e3
section
variable {P:Ej}{w:Ep}{K:Cc}{mg:Str->Dc}{base:EB}{t1 t2 t3 t4 t5 t6 t7:Tok}{aL aC aN aT aA b1 b2 b3 b4 b5 b6:Ei}(T:Txt P w K mg t1 t2 t3 t4 t5 t6 t7 aL aC aN aT aA b1 b2 b3 b4 b5 b6)
theorem jT (h:yq P w K C H a fp S):∃dx d1 d2 d3,H a=some (.ins C dx<|OT d1 d2 d3):=by
 obtain⟨_,dx,d1,d2,d3,_,_,_,_,b,_⟩:=h;exact⟨dx,d1,d2,d3,b⟩
namespace AE
abbrev st:Stmt:=top 38
theorem sc:zx ["thing","labels"] ["thing"] (zG st):=Co
include T in
theorem ok (F:xf0 K "is_path" st f fd)(A:xj P w K mg base 1 "is_label" ["thing"]<|B8 K):yx P w K mg base Cn 2 f fd ["thing"] (pK K):=by
 refine F.ok sc fun _ _ _ _ H L Q E B h=>?_;obtain⟨d,v,rfl,hd,G,k⟩:=h;refine⟨_,(zD (yI (xD<|zO (K:=K)<|zK (zT (K:=K)) (by rfl) T.isinstance Zw<|zA (pv 0)<|zA (yY (v:=.ty "str") rfl T.str Yd rfl) zC) (zE<|zM v9) zQ)<|zD (Ck (i:=1) sc.nd<|kX Yf Vt Vu IU (pv 0)<|zA zz zC)<|zE<|zM<|y8 (yN FZ (zK z8 (by rfl) T.len ZZ<|zA (pv 1) zC) (xB (v:=.int 4) rfl T.pG ⟨_,rfl⟩)<|zV _)<|x8<|zK (jC rfl) (by rfl) T.all YK<|zA (qC (sc:=zG st) (N:=["thing","labels"]) (N':=["label"]) (src:=[none]) .a rfl rfl rfl (jW<|pv 1) (fun _ _ _ _=>(zR (i:=0) (show(["label"]:Da).Nodup by decide +kernel) rfl (EL rfl))) (fun _ _ _ _=>qY) (fun _ _ _ _=>(zJ A B.m<|zA (pv 0) zC))) zC),?_⟩
 refine⟨_,rfl,_,_,d,_,rfl,hd,T.is<|by simp[kinds],_,rfl,?_⟩;cases d with
 |str x =>
  cases(show v=_ from hd);have M:x.length<=1000:=Zx G;have cl:=vO x;refine Ut ⟨_,rfl,rfl,x,47,rfl,Ri,by lia,fun l nl=>?_⟩;rw[Kg];have u:=zF (o:=.lst<|(Us x).map V.str) nl;refine⟨_,rfl,l,_,rfl,.inl<|xx.of zB,_,_,rfl,rfl,_,rfl,UB (fun n=>?_)<|fun n=>?_⟩
  ·have n:(Us x).length<=4:=by have:=Zx n;rw[Za]at this;lia
   refine⟨_,rfl,l,rfl,⟨_,xx.of zB⟩,vA (K:=K) (a:=l) (xs:=(Us x).map V.str) (fun i s t r=>∃o,t=[o]/\zy (upd H l<|.lst<|(Us x).map V.str) r/\s=(((Us x).take i).map zP).map V.bl) ⟨none,rfl,zy.refl _,rfl⟩ (zp (by rw[Za];lia)) ?_ ?_ ?_⟩
   ·rintro i s t r J ⟨o,rfl,j,rfl⟩;refine⟨xx.of<|j _ _ zB,?_⟩;rw[Za,Za,ZG];lia
   ·rintro i y s t r g ⟨o,rfl,j,rfl⟩;rw[Zs]at g;cases q:(Us x)[i]? with
    |none=>rw[q]at g;cases g
    |some z =>
     rw[q]at g;have g:V.str z=y:=Option.some.inj g;subst g;have O:=FF<|Zt q;refine⟨_,rfl,.str z,_,rfl,rfl,Ze<|by lia,fun I D=>⟨_,rfl,j.trans D,?_⟩⟩;rw[yP q,Zo];rfl
   ·rintro s t r ⟨o,rfl,j,rfl⟩ p C;refine⟨p,_,rfl,xx.of zB,?_⟩;rw[Za,ZJ,all_map];have e:UA (.str x)=(Us x).all zP:=by
     show(decide ((Us x).length<=4)&&(Us x).all zP)=_;rw[Ze n];rfl
    rw[e]at k;exact k _<|(u.trans j).trans<|zF C
  ·have e:UA (.str x)=false:=by
    show(decide ((Us x).length<=4)&&(Us x).all zP)=_;rw[Zn (p:=(Us x).length<=4)<|fun z=>n<|Ze (by rw[Za];lia)];rfl
   rw[e]at k;exact k _ u
 |none=>exact Ur<|k _<|zy.refl _
 |bool b=>exact Ur<|k _<|zy.refl _
 |int i=>exact Ur<|k _<|zy.refl _
 |list ds=>exact Ur<|k _<|zy.refl _
 |tuple ds=>exact Ur<|k _<|zy.refl _
 |dict Dm=>exact Ur<|k _<|zy.refl _
end AE
namespace AF
abbrev st:Stmt:=top 39
theorem sc:zx ["path"] ["path"] (zG st):=Co
include T in
theorem ok (F:xf0 K "labels_of" st f fd)(j:xj P w K mg base 2 "is_path" ["thing"]<|pK K):yx P w K mg base (Cw P w) 3 f fd ["path"] (tM K b1):=by
 refine F.qm sc fun _ _ _ _ H s Q E n h=>?_;obtain⟨d,v,rfl,hd,g,o,p⟩:=h;refine⟨_,(zD (yI (xD<|zO (K:=K)<|zJ j n.m<|zA (pv 0) zC) (zE<|xF rfl yX rfl T.oE T.mV<|zA zz zC) zQ)<|zE<|zM<|kX Yf Vt Vu IU (pv 0)<|zA zz zC),?_⟩
 refine⟨_,rfl,d,v,rfl,hd,g,fun r e=>⟨_,rfl,?_⟩⟩;cases q:UA d with
 |true =>
  cases d with
  |str x =>
   cases(show v=_ from hd);have t:x.length<=1000:=Zx g;refine Ut ⟨_,rfl,rfl,x,47,rfl,Ri,by lia,fun l nl=>?_⟩;rw[Kg];exact o x rfl q l _ (e.trans<|zF nl)<|xx.of zB
  |none=>cases q
  |bool b=>cases q
  |int i=>cases q
  |list ds=>cases q
  |tuple ds=>cases q
  |dict Dm=>cases q
 |false=>exact Ur ⟨Uw 1,p q _ e⟩
end AF
namespace AG
abbrev st:Stmt:=top 40
theorem sc:zx ["path","labels"] ["path"] (zG st):=Co
include T in
theorem ok (F:xf0 K "folders_of" st f fd):yx P w K mg base Cn 1 f fd ["path"] (qd K):=by
 refine F.ok sc fun _ _ _ _ H G Q E D h=>?_;obtain⟨x,rfl,I,k⟩:=h;refine⟨_,(zD (Ck (i:=1) sc.nd<|kX Yf Vt Vu IU (pv 0)<|zA zz zC)<|zE<|zM<|qC (sc:=zG st) (N:=["path","labels"]) (N':=["count","labels"]) (src:=[none,some 1]) .a rfl rfl rfl (Ob rfl T.range<|zA zH<|zA (zK z8 (by rfl) T.len ZZ<|zA (pv 1) zC) zC) (fun _ _ _ _=>(zR (i:=0) (show(["count","labels"]:Da).Nodup by decide +kernel) rfl (EL rfl))) (fun _ _ _ _=>qY) (fun _ _ _ _=>(TY (K:=K) Yf JT JU (Pu (K:=K)) zz<|zA (j8 (rH:RF _<|P8 K) (pv 1) vS<|kG<|pv 0) zC))),?_⟩
 have cl:=vO x;have A:=Gk x;have q:("/":Str).length=1:=by decide +kernel
 refine⟨_,rfl,rfl,x,47,rfl,Ri,by lia,fun l nl=>?_⟩;rw[Kg];have u:=zF (o:=.lst<|(Us x).map V.str) nl;refine⟨_,rfl,l,_,rfl,.inl<|xx.of zB,1,(((Us x).map V.str).length:Int),rfl,⟨by decide,by decide,by lia,by rw[Za];lia⟩,?_⟩;have r:((((Us x).map V.str).length:Int)-1).toNat=(Us x).length-1:=by rw[Za];lia
 rw[r];refine kM (fun i e g d=>∃o,g=[o,some<|.ref l]/\zy (upd H l<|.lst<|(Us x).map V.str) d/\e=((EM i).map fun i=>PySem.Txt.join "/"<|(Us x).take<|i+1).map V.str) ⟨none,rfl,zy.refl _,rfl⟩ (zp<|by lia) ?_ ?_ ?_
 ·rintro i e g d v ⟨o,rfl,b,rfl⟩;rw[Za,Za,Yv];exact Zg _
 ·rintro i e g d v ⟨o,rfl,b,rfl⟩;refine⟨rfl,_,rfl,_,rfl,_,rfl,l,_,rfl,xx.of<|b _ _ zB,fun p j=>?_⟩;have s:UQ ((Us x).map V.str) none (some<|1+(i:Int))=((Us x).take<|i+1).map V.str:=by
   rw[Tv<|by lia,JS]
   congr 1
   lia
  rw[s];refine⟨"/",p,(Us x).take<|i+1,rfl,rfl,.inl<|xx.of zB,?_,_,rfl,b.trans<|zF j,?_⟩
  ·have B:=B9 (n:=1000) ((Us x).take<|i+1) (fun y z=>by have:=FF<|Y7 z;lia);have t:((Us x).take<|i+1).length<=1001:=by rw[ZG];lia
   have C:((Us x).take<|i+1).length*1000<=1001*1000:=Nat.mul_le_mul_right _ t;refine zp ?_;rw[q];lia
  ·rw[List.range_succ,Zo,Zo];rfl
 ·rintro e g d ⟨o,rfl,b,rfl⟩ p j;exact k p _ ((u.trans b).trans<|zF j)<|xx.of zB
end AG
namespace AH
abbrev st:Stmt:=top 41
theorem sc:zx ["path","lines"] ["path","lines"] (zG st):=Co
include T in
theorem ok (F:xf0 K "is_file" st f fd)(l:xj P w K mg base 2 "is_path" ["thing"]<|pK K)(j:xj P w K mg base 3 "is_lines" ["thing"]<|Ir K):yx P w K mg base Cn 4 f fd ["path","lines"] (oH K):=by
 refine F.ok sc fun _ _ _ _ H s Q E i h=>?_;obtain⟨d,e,v,u,rfl,hd,n,p,se,k⟩:=h;refine⟨_,(zE<|zM<|y8 (zJ l i.m<|zA (pv 0) zC)<|x8<|zJ j i.m<|zA (pv 1) zC),?_⟩;refine⟨_,rfl,d,v,rfl,hd,p,fun q g=>⟨_,rfl,UB (fun b=>?_)<|fun b=>?_⟩⟩
 ·rw[b,VJ]at k;exact⟨_,rfl,e,u,rfl,Dw.same g _ _ n,se,fun r o=>k _<|g.trans o⟩
 ·have b:=Z0.mpr b;rw[b]at k;exact k _ g
end AH
namespace AI
abbrev st:Stmt:=top 47
theorem sc:zx ["shelf","rows"] ["shelf","rows"] (zG st):=Co
include T in
theorem ok (F:xf0 K "put_rows" st f fd)(L:sU P w K mg base aC 7 "put" ["self","thing"]<|vm P w K aC aN aT):yx P w K mg base Cn 8 f fd ["shelf","rows"] (wU P w K aC):=by
 refine F.ok sc fun _ _ _ _ H vs Q E D h=>?_;obtain⟨a,d,fp,S,i,rfl,sh,ok,hd,nd,n,rl,sl,k⟩:=h;refine⟨_,(zE<|zM<|yZ (pv 0) T.cls L D.m z9<|zA (yJ<|zA zz<|zA (yK kZ (by rfl) T.tuple Yu<|zA (PX (K:=K) rfl D.units (by rfl) T.sorted Va<|pv 1) zC) zC) zC),?_⟩;obtain⟨U,i1,i2,i3,v⟩:=jT sh;have q:∀r∈i,zP r.1=true/\Ok 1000 r.2:=fun r m=>by
  obtain⟨e,R,N⟩:=Zd.mp<|RN (n r m).2;exact⟨(n r m).1,by rw[←N];exact ok.nm R⟩
 refine⟨_,rfl,a,U,_,rfl,v,rfl,_,rfl,d,i,rfl,hd,by lia,fun p C=>⟨(Xl (q p C).1).ok,(q p C).2.ok⟩,fun l ss u B Z so sm nl hl dt=>?_⟩;have O:=Rj nd Z so;subst O;refine⟨l,_,rfl,.inl ⟨xx.of hl,fun s n2=>?_⟩⟩;have I:=zF (o:=.tup u) n2;refine⟨Uw 2,fun t X=>?_⟩;have A:=zF (o:=.tup [V.str "tree",V.ref s]) X;have j:=(sm.trans I).trans A;have M:Dt K (upd (upd B s<|.tup u) t<|.tup [V.str "tree",V.ref s]) (Th.tree<|Uv i).dat (.ref t):=⟨t,_,rfl,xg.of zB,_,_,rfl,rfl,_,_,rfl,⟨s,u,rfl,xg.of<|A _ _ zB,za.same (I.trans A) _ _ dt⟩,rfl⟩;have G:∀{r},r∈Uv i↔r∈i:=(z5 i).mem_iff;have g:Gg (.tree<|Uv i):=NU (fun r m=>q r<|G.mp m) (SE<|Hq nd) (by rwa[(z5 i).length_eq]);have x:namesOk S (.tree<|Uv i)=true:=ZA.mpr fun r m=>(n r<|G.mp m).2;delta U2;dsimp only;show vm P w K aC aN aT [V.ref a,V.ref t] (upd (upd B s<|.tup u) t<|.tup [V.str "tree",V.ref s]) _ _;exact He (sh.same j) ok g x sl M fun J y z=>k J (fun b o Y e=>y b o Y<|j _ _ e) z
end AI
end
end An08
namespace An
open PySem L2
theorem SS (fs:Dk)(i:Nat):wt (fs.take i)<=wt fs:=by
 have:=K0 (fs.take i)<|fs.drop i;rw[Z6]at this;lia
theorem Pr {fs:Dk}{i:Nat}{v:Str×Da}(h:v∈Cj (fs.take i)):v∈Cj fs:=by
 obtain⟨a,b⟩:=v;exact wC.mpr<|Y7<|wC.mp h
theorem W9 (ok:yd S)(g:yg n fs)(j:S.length+1+wt fs<=2000)(i:Nat) :
  yd ((Cj<|fs.take i).foldl Cd (S,[])).1/\((Cj<|fs.take i).foldl Cd (S,[])).1.length<2000/\((Cj<|fs.take i).foldl Cd (S,[])).2.map (·.1)=(Cj<|fs.take i).map (·.1):=by
 have hm:=many<|fs.take i;have l:=SS fs i;obtain⟨b,f⟩:=Ii (d:=0) (Cj<|fs.take i) (Fo.nil ok) (fun v e=>(g.wN _<|wC.mp<|Pr e).2.2.2) (by lia);refine⟨b.ok,by lia,?_⟩;rw[b.wN,VN,ZF];rfl
theorem SW {d:Nat}(ok:yd S)(g:yg (d+1) fs)(hl:fs.length<=63)(z:S.length+1+wt fs<=2000)(ls i:Da)(e:ls++i=Cm fs) :
  Fo (d+1) S (ls.foldl (Ci d fs)<|(Cj fs).foldl Cd (S,[])).1 (ls.foldl (Ci d fs)<|(Cj fs).foldl Cd (S,[])).2 ((Cj fs).map (fun v=>(v.1,[(([],v.2):Fi)]))++ls.map fun l=>(l,sub fs l)) /\
  (ls.foldl (Ci d fs)<|(Cj fs).foldl Cd (S,[])).1.length+(i.map fun l=>1+wt (sub fs l)).sum<=S.length+wt fs:=by
 have hm:=many fs;rw[←e,Zo,Uq]at hm;obtain⟨p,y⟩:=Ii (d:=d) (Cj fs) (Fo.nil ok) (fun v w=>(g.wN _<|wC.mp w).2.2.2) (by lia);rw[VN]at p;have H:∀l∈ls,∀S,yd S->S.length+1+wt (sub fs l)<=2000->ur (d+1) S (sub fs l) (Uz d S<|sub fs l)/\(Uz d S<|sub fs l).1.length<=S.length+1+wt (sub fs l):=fun l j x o n=>by
  cases d with
  |zero =>
   obtain⟨f,u,b,r,t⟩:=((xG fs).2 l).mp (by rw[←e];exact Ya _ j);have:=(g.wN f u).2.1;rw[t,Zj,Zj]at this;lia
  |succ d=>exact Ic d o (g.sub l) (ZR sub_len hl) n
 obtain⟨s,q⟩:=HY ls H (S:=((Cj fs).foldl Cd (S,[])).1) (Do:=((Cj fs).foldl Cd (S,[])).2) p (by lia);refine⟨s,?_⟩;have q:(ls.foldl (Ci d fs)<|(Cj fs).foldl Cd (S,[])).1.length<=_:=q;lia
theorem bd {d:Nat}(ok:yd S)(g:yg (d+1) fs)(hl:fs.length<=63)(i:S.length+1+wt fs<=2000){j:Nat}{l:Str}(f:(Cm fs)[j]?=some l) :
  yd (((Cm fs).take j).foldl (Ci d fs)<|(Cj fs).foldl Cd (S,[])).1/\(((Cm fs).take j).foldl (Ci d fs)<|(Cj fs).foldl Cd (S,[])).1.length+1+wt (sub fs l)<=2000 /\
  (((Cm fs).take j).foldl (Ci d fs)<|(Cj fs).foldl Cd (S,[])).2.map (·.1)=(Cj fs).map (·.1)++(Cm fs).take j:=by
 obtain⟨b,e⟩:=SW ok g hl i ((Cm fs).take j) ((Cm fs).drop j)<|Z6 _ _;have hd:(Cm fs).drop j=l::(Cm fs).drop (j+1):=by
  have:=(Zv.mp f);rw[←this.2];exact J6 this.1
 rw[hd,ZE,Jf]at e;refine⟨b.ok,by lia,?_⟩;rw[b.wN,Zo,ZF,ZF]
 congr 1
 exact J1 _
theorem OQ {d:Nat}(ok:yd S)(g:yg (d+1) fs)(hl:fs.length<=63)(p:S.length+1+wt fs<=2000){q:List En×Dg}(e:q=(Cm fs).foldl (Ci d fs) ((Cj fs).foldl Cd (S,[]))) :
  yd q.1/\q.1.length<2000/\(q.2.map (·.1)).Nodup/\(∀r∈q.2,zP r.1=true/\∃e,Tree e q.1 r.2)/\q.2.length<=63:=by
 subst e;obtain⟨b,j⟩:=SW ok g hl p (Cm fs) []<|ZK _;have b:Fo (d+1) S _ _ (pieces fs):=b;have j:_+0<=S.length+wt fs:=j;have t:=qZ fs;refine⟨b.ok,by lia,by rw[b.wN];exact XA g,fun r o=>?_,?_⟩
 ·obtain⟨i,f⟩:=Yq.mp o;have s:=(Zv.mp f).1;have n:=Zl (l:=pieces fs) (i:=i) (by rwa[←b.len]);have e:=congrArg (fun l=>l[i]?) b.wN;simp only[Zs,f,n,YA]at e;exact⟨by rw[Option.some.inj e];exact(Bw g _<|Yt _).1,d+1,(b.rd i r _ f n).1⟩
 ·rw[b.len];unfold pieces;rw[Zp,Za,Za];lia
theorem F8 (l:Str):zc [l]=l:=yc<|Io l
theorem Sv (l b:Str)(r:Da):zc (l::b::r)=l++⟨#[47]⟩++zc (b::r):=yc (by
 rw[qP l<|ZU _ _,zq,zq];show _=cs l++[47]++_;simp)
theorem T7 (l b:Str)(r:Da):l≠zc (l::b::r):=fun z=>by
 have:=congrArg (fun x=>(cs x).length) z;simp only[qP l<|ZU b r,Zp,Zj]at this;lia
theorem uW:∀{p:Da},(∀l∈p,zP l=true)->(cs<|zc p).length<=9*p.length
 |[],_=>by
  show(cs<|Lq "/" []).length<=0;rw[qA];exact Zg _
 |[l],h=>by
  have:=h l<|Zb.mpr rfl;rw[Io];unfold zP at this;rw[Zk,Zk,ZQ,ZQ,zb]at this;show _<=9;lia
 |l::b::r,h=>by
  have d:=h l<|Zi ..;have f:=uW (p:=b::r) fun x e=>h x<|Zf _ e;rw[qP l<|ZU _ _,Zp,Zj];unfold zP at d;rw[Zk,Zk,ZQ,ZQ,zb]at d;rw[Zj]at f ⊢;rw[Zj];lia
theorem SK (g:yg n fs){i:Nat}{f:Fi}{l b:Str}{r:Da}(s:fs[i]?=some f)(e:f.1=l::b::r):(.inr (zc (b::r)):Key)∉(sub (fs.take i) l).map fun k=>(.inr (zc k.1):Key):=fun z=>by
 obtain⟨k,hk,q⟩:=Zd.mp z;have q:zc k.1=zc (b::r):=Sum.inr.inj q;obtain⟨y,hk⟩:=wg.mp hk;have B:=(g.wN _<|Y7 hk).2.2.1;have A:=(g.wN _<|Zt s).2.2.1;have q:=uP (d:=0) y (ZU _ _) (fun x p=>B x<|Zf _ p) (fun x p=>A x (by rw[e];exact Zf _ p)) q;obtain⟨j,o⟩:=Yq.mp hk;rw[List.getElem?_take]at o
 split at o
 ·rename_i E;have v:(fs.map (·.1))[j]?=some f.1:=by rw[Zs,o];show some (l::k.1)=_;rw[q,e]
  have w:(fs.map (·.1))[i]?=some f.1:=by rw[Zs,s];rfl
  obtain⟨C,t⟩:=Zv.mp v;obtain⟨D,u⟩:=Zv.mp w;have:=(Jg g.nd).mp<|t.trans u.symm;lia
 ·cases o
end An
namespace L2
open PySem PySem.Spec PyProof.Rows
theorem FP (x:Str)(c:Nat)(t u:Tok)(d:EH x ⟨#[c]⟩ 0 x.length 1=[]):Meets (Builtin.«str.partition» ⟨[.str x t,.str ⟨#[c]⟩ u],[]⟩)
  (fun _ R s=>R (.ok<|.ret<|.ref s.heap.objs.size) { s with heap:=s.heap.push { cls:=.type "tuple",data:=.seq #[.str x t,.str LX s.toks,.str LX s.toks] },toks:=s.toks+1 }) :=
 .of_wp fun prog w A R s h=>by
  obtain⟨b,e⟩:=partition_tree x ⟨#[c]⟩ t u;rw[e,Zr<|show¬((⟨#[c]⟩:Str).length==0)=true from(by show¬(1==0)=true;decide),d];refine Q9<|JK ?_;refine Q9<|wpAny_mkStr ?_<|ZN _;refine Q9 (wpAny_newTuple ?_ (by show 3<=sizeLine;decide));exact Zh ⟨_,rfl,h⟩
section
variable {X:Cx}
def P7:V->Dj->Hp->VK->Prop:=fun x b H Q=>∃(u:Str) (c:Nat),x=.str u/\b=[.str ⟨#[c]⟩]/\c∉An.cs u/\∀p,H p=none->Q (.ref p) (upd H p<|.tup [.str u,.str "",.str ""])
def Wb:V->Dj->Hp->VK->Prop:=fun x b H Q=>S6 x b H Q\/P7 x b H Q
theorem GY:RA X "str.partition" P7:=by
 intro g s l H x j v i Q I f e h;obtain⟨a,c,rfl,rfl,b,q⟩:=h;obtain⟨t,rfl⟩:=f;obtain⟨w,rfl,t',rfl⟩:=wX e;have d:EH a ⟨#[c]⟩ 0 a.length 1=[]:=by
  rcases StrLaws.occ_head_from a ⟨#[c]⟩ 0 1 (Zg 1) with⟨h0,hn⟩|⟨k,r,h0,hlo,hk,hn⟩
  ·exact h0
  ·have hm:=(Lw _ c k).mp hk;have hm:(An.cs a)[k]?=some c:=hm;exact absurd (Zt hm) b
 refine Vh F.slot_str_partition (JY s _ t) F.entry_str_partition (F.args_str_partition_2 _ _) (FP _ c t t' d) ?_;have hn:H s.heap.objs.size=none:=I.hok.fresh<|Zg _;refine⟨.ref s.heap.objs.size,_,I.laid (t':=s.toks+1) (a:=s.heap.objs.size) (o:=.tup [.str a,.str "",.str ""]) (fun _ _ q=>Zc _ q) (Zg _) ?_,rfl,q _ hn⟩;exact⟨by show 3<=sizeLine;decide,_,.cons ⟨_,rfl⟩<|.cons ⟨_,rfl⟩<|.cons ⟨_,rfl⟩ .nil,⟨_,Zq _ rfl,rfl,_,rfl,rfl⟩⟩
theorem GT:RA X "str.partition" Wb:=by
 intro b s i H x g v f Q I e d h
 rcases h with h|h
 ·exact vE b s i H x g v f Q I e d h
 ·exact GY b s i H x g v f Q I e d h
end
end L2
namespace An08
open PySem L2 An
seal L2.PS L2.sX L2.PE L2.PT L2.PW L2.PA L2.PG L2.pC L2.PI L2.oY L2.PC
def GA (P:Ej)(w:Ep)(K:Cc)(C:Ei):Nat->Sp
 | 0=>fun _ _ _ _=>False
 |d+1=>fun g H Q _=>∃(a c:Ei) (b:Dd) (S:Di) (fs:Dk) (f:Dl),g=[.ref a,.ref c]/\yq P w K C H a b S/\yd S/\H c=some (.dK f)/\c∉b/\xr K H fs f/\yg (d+1) fs/\fs.length<=63/\S.length+1+wt fs<=2000 /\
  ∀e,Off b H e->yq P w K C e a b (Uz (d+1) S fs).1->Q (.str (Uz (d+1) S fs).2) e
theorem vz {b:Type}{l:List b}{i:Nat}{x:b}(h:l[i]?=some x):l.take (i+1)=l.take i++[x]:=by rw[Yk,h];rfl
theorem Ge {g:TG}{j:TS}{D:Ends}{b:St}{H:Hp}{d:Ei}{f:Obj}{Dm:Dl}(e:Nat->St->Hp->Prop)(l:e 0 b H)(hl:∀i b H,i<=Dm.length->e i b H->H d=some (.frz f<|.dK Dm))
  (o:∀i k v T b H,Dm[i]?=some (k,v)->e i b H->H T=none->∀D':Ends,(∀b H,e (i+1) b H->D'.nx b H)->g (.ref T) b (upd H T<|.tup [kV k,v]) fun σ2 H2=>j D' σ2 H2) (hd:∀b H,e Dm.length b H->D.nx b H):NA (aR d Dm f) g j D b H :=
 Bp e l hl (fun i k v T b H h p n=>o i k v T b H h p n _ fun _ _ h=>h) hd
section
variable {P:Ej}{w:Ep}{K:Cc}{mg:Str->Dc}{base:EB}{t1 t2 t3 t4 t5 t6 t7:Tok}{aL aC aN aT aA b1 b2 b3 b4 b5 b6:Ei}
namespace AJ
abbrev st:Stmt:=top 49
theorem sc:zx ["shelf","files","rows","folders","path","lines","parts","label","beneath"] ["shelf","files"] (zG st):=Co
theorem step {L d:Nat}(F:xf0 K "put_files" st f fd)(T:Txt P w K mg t1 t2 t3 t4 t5 t6 t7 aL aC aN aT aA b1 b2 b3 b4 b5 b6)(Qd:sU P w K mg base aC 7 "put" ["self","thing"]<|vm P w K aC aN aT)(Qa:xj P w K mg base 8 "put_rows" ["shelf","rows"]<|wU P w K aC)(hL:8<=L)(hd:d<=100)(Qu:xj P w K mg base L "put_files" ["shelf","files"]<|GA P w K aC d):yx P w K mg base Cn (L+1) f fd ["shelf","files"] (GA P w K aC<|d+1):=by
 refine F.ok sc fun _ _ _ _ H vs Q E hr h=>?_;obtain⟨a,c,A,S,fs,Dm,rfl,sh,ok,hc,c6,ff,gf,fl,sl,k⟩:=h;have hu:=Be hr;refine⟨_,(zD (Ck (i:=2) sc.nd xY)<|zD (Ck (i:=3) sc.nd xY)<|zD (uL<|xQ EO rfl (Gr<|v8<|pv 1) (Xi rfl<|yQ (zR (i:=4) sc.nd rfl<|EL rfl)<|yQ (zR (i:=5) sc.nd rfl<|EL rfl) jP)<|zD (Ck (i:=6) sc.nd<|kX Yf PySem.F.slot_str_partition PySem.F.type_str_partition GT (pv 4)<|zA zz zC)<|zD (Ck (i:=7) sc.nd<|yM (yp:Cq _<|wQ K) (pv 6) zH)<|zE<|yI (zU xJ (pv 7) (pv 4)<|zV _) (zE<|qO hu (pv 2) (pv 7) (yZ (pv 0) T.cls Qd (hr.mono<|by lia) z9<|zA (yJ<|zA zz<|zA (pv 5) zC) zC) rfl)<|zD (Ck (i:=8) sc.nd<|IE hu (pv 3) (pv 7) xY ⟨rfl,rfl,rfl,rfl⟩)<|zD (qO hu (pv 8) (yM (yp:Cq _<|wQ K) (pv 6) zH) (pv 5) rfl)<|zE<|qO hu (pv 3) (pv 7) (pv 8) rfl)<|zD (uL<|xQ EO rfl (Gr<|v8<|pv 3) (Xi rfl<|yQ (zR (i:=7) sc.nd rfl<|EL rfl)<|yQ (zR (i:=8) sc.nd rfl<|EL rfl) jP)<|zE<|qO hu (pv 2) (pv 7) (zJ Qu (hr.mono<|by lia)<|zA (pv 0)<|zA (pv 8) zC) rfl)<|zE<|zM<|zJ Qa (hr.mono<|by lia)<|zA (pv 0)<|zA (pv 2) zC),?_⟩
 refine fun g dk=>?_;have u1:=zF (o:=.dK []) dk;refine fun n c7=>?_;have u2:=zF (o:=.dK []) c7;have sb:=u1.trans u2;have dr:upd (upd H g (.dK [])) n (.dK []) g=some (.dK<|Cp []):=u2 _ _ zB;have dp:upd (upd H g (.dK [])) n (.dK []) n=some (.dK<|Cr []):=zB;have dl:=sh.same sb;have cn:=sb _ _ hc;have db:=ff.same sb;have b0:H g=none:=dk;have ap:H n=none:=u1.free c7;have rf:g≠n:=zN (zB (H:=H) (a:=g) (o:=.dK [])) c7;generalize upd (upd H g (.dK [])) n (.dK [])=Hb at sb dr dp dl cn db ⊢;have cr:c≠g:=zN hc b0;have cf:c≠n:=zN hc ap;refine⟨_,rfl,c,Dm,rfl,cn,fun ob=>?_⟩;have b8:upd Hb c (.frz ob<|.dK Dm) c=some (.frz ob<|.dK Dm):=zB;have nz:∀{b:Ei},b≠c->upd Hb c (.frz ob<|.dK Dm) b=Hb b:=fun{b} z=>zI z;have oz:Off [c] Hb (upd Hb c<|.frz ob<|.dK Dm):=z7;have cd:yq P w K aC (upd Hb c<|.frz ob<|.dK Dm) a A S:=dl.off (zW cn) oz fun b hb z=>c6<|Zb.mp z▸hb;have dc:=db.off (zW cn) oz;have cb:upd Hb c (.frz ob<|.dK Dm) g=some (.dK<|Cp []):=by rwa[nz<|Ey cr]
 have a7:upd Hb c (.frz ob<|.dK Dm) n=some (.dK<|Cr []):=by rwa[nz<|Ey cf]
 have dd:∀{b:Ei},upd Hb c (.frz ob<|.dK Dm) b=none->Hb b=none/\b≠c:=fun{b} z=>by
  have ne:b≠c:=fun q=>by rw[q,zB]at z;cases z
  rw[nz ne]at z;exact⟨z,ne⟩
 generalize upd Hb c (.frz ob<|.dK Dm)=H1 at b8 nz oz cd dc cb a7 dd ⊢;have da:∀b∈g::n::A,∃o,H1 b=some o:=fun b hb=>by
  rcases Zm.mp hb with z|hb
  ·rw[z];exact⟨_,cb⟩
  ·rcases Zm.mp hb with z|hb
   ·rw[z];exact⟨_,a7⟩
   ·exact cd.ex b hb
 have ct:g∉A:=fun z=>by
  obtain⟨o,e⟩:=sh.ex _ z;rw[b0]at e;cases e
 have b7:n∉A:=fun z=>by
  obtain⟨o,e⟩:=sh.ex _ z;rw[ap]at e;cases e
 have cX:c∉g::n::A:=fun z=>by
  rcases Zm.mp z with z|z
  ·exact cr z
  ·rcases Zm.mp z with z|z
   ·exact cf z
   ·exact c6 z
 have kl:Dm.length=fs.length:=ff.len;have du:∀b∈g::n::A,∀xs,¬Rd H1 b (.tup xs):=fun b hb=>by
  rcases Zm.mp hb with z|hb
  ·exact zW cb b (Zb.mpr z)
  ·rcases Zm.mp hb with z|hb
   ·exact zW a7 b (Zb.mpr z)
   ·exact cd.wB.tup b hb
 refine⟨c,ob,Dm,rfl,b8,Ge (fun i σ t=>∃o4 o5 o6 o7 o8 s,σ=[some<|.ref a,some<|.ref c,some<|.ref g,some<|.ref n,o4,o5,o6,o7,o8]/\yq P w K aC t a A ((Cj<|fs.take i).foldl Cd (S,[])).1/\t g=some (.dK<|Cp ((Cj<|fs.take i).foldl Cd (S,[])).2)/\t n=some (.dK<|Cr s)/\wj K H1 t (fs.take i) s/\Off (g::n::A) H1 t) ⟨none,none,none,none,none,[],rfl,cd,cb,a7,wj.nil,Off.refl _ _⟩ (fun i σ t hi h=>?_) ?_ ?_⟩
 ·obtain⟨_,_,_,_,_,_,_,_,_,_,_,o⟩:=h;exact o _ _ cX b8
 ·rintro i kk v T0 σ t hi ⟨o4,o5,o6,o7,o8,s,rfl,M,Y,am,Fl,G⟩ nT D' hD;obtain⟨f,c1,rfl,dv,a1⟩:=dc.get hi;obtain⟨cl,ck,cc⟩:=W9 ok gf sl i;have ci:=vz c1;have de:=gf.wN f<|Zt c1;have c9:Dt K t (AnJ.yh f.2) v:=Dt.off du G _ _ (j3 a1) dv;have uT:=zF (o:=.tup [kV<|.inr<|zc f.1,v]) nT;refine⟨T0,_,rfl,xg.of zB,rfl,_,_,rfl,_,_,rfl,rfl,?_⟩;have bm:=M.same uT;have b9:=uT _ _ Y;have ar:=uT _ _ am;have a4:=Fl.same uT;have a9:=G.trans<|Off.of uT;have cv:=Dt.same uT _ _ c9;generalize upd t T0 (.tup [kV<|.inr<|zc f.1,v])=H2 at bm b9 ar a4 a9 cv ⊢;clear M Y am Fl G c9 nT uT;have go:∀{U:Hp},zy H2 U->yq P w K aC U a A ((Cj<|fs.take i).foldl Cd (S,[])).1/\U g=some (.dK<|Cp ((Cj<|fs.take i).foldl Cd (S,[])).2)/\U n=some (.dK<|Cr s)/\wj K H1 U (fs.take i) s/\Off (g::n::A) H1 U/\Dt K U (AnJ.yh f.2) v:=fun{U} e=>⟨bm.same e,e _ _ b9,e _ _ ar,a4.same e,a9.trans<|Off.of e,Dt.same e _ _ cv⟩;have a6:∀{U:Hp} {b:Ei},yq P w K aC U a A ((Cj<|fs.take i).foldl Cd (S,[])).1->U g=some (.dK<|Cp ((Cj<|fs.take i).foldl Cd (S,[])).2)->U n=some (.dK<|Cr s)->Off (g::n::A) H1 U->U b=none->H1 b=none:=fun{U b} h1 h2 h3 o z=>by
   cases q:H1 b with
   |none=>rfl
   |some x =>
    by_cases m:b∈g::n::A
    ·rcases Zm.mp m with y|m
     ·rw[y,h2]at z;cases z
     ·rcases Zm.mp m with y|m
      ·rw[y,h3]at z;cases z
      ·obtain⟨o',e'⟩:=h1.ex b m;rw[e']at z;cases z
    ·rw[o b x m q]at z;cases z
  have ql:((Cj<|fs.take i).foldl Cd (S,[])).2.length<=63:=by
   have:=congrArg List.length cc;rw[Za,Za]at this;have h2:=qZ<|fs.take i;rw[ZG]at h2;lia
  match e1:f.1,de with
  |[],gl=>exact absurd rfl gl.1
  |[l],gl =>
   have ep:zc [l]=l:=F8 l;rw[ep];have c4:zP l=true:=gl.2.2.1 l<|Zb.mpr rfl;refine⟨_,rfl,rfl,.inr ⟨l,47,rfl,Ri,xV c4,fun p np=>?_⟩⟩;have up:=zF (o:=.tup [V.str l,V.str "",V.str ""]) np;obtain⟨N,Z,C,J,al,a5⟩:=go up;refine⟨_,rfl,p,_,_,_,rfl,rfl,xg.of zB,rfl,?_⟩;refine⟨_,rfl,_,rfl,rfl,true,?_,Ur ?_⟩
   ·show V.bl (decide (V.str l=V.str l))=V.bl true;rw[Ze rfl]
   generalize upd H2 p (.tup [V.str l,V.str "",V.str ""])=U at N Z C J al a5 ⊢;obtain⟨ix,i1,i2,i3,dq⟩:=jT N;refine⟨_,rfl,a,ix,_,rfl,dq,rfl,_,rfl,Uw 2,fun p4 n4=>?_⟩;have v4:=zF (o:=.tup [V.str "leaf",v]) n4;obtain⟨vp,d4,rfl,vt,vd⟩:=id a5;have d0:Dt K (upd U p4<|.tup [V.str "leaf",V.ref vp]) (Th.leaf f.2).dat (.ref p4):=⟨p4,_,rfl,xg.of zB,_,_,rfl,rfl,_,_,rfl,Dt.same v4 _ _ a5,rfl⟩;have a3:=N.same v4;have a8:=v4 _ _ Z;have as:=v4 _ _ C;have R:=J.same v4;have an:=al.trans<|Off.of v4;delta U2;dsimp only;show vm P w K aC aN aT [V.ref a,V.ref p4] (upd U p4<|.tup [V.str "leaf",V.ref vp]) _ _;generalize upd U p4 (.tup [V.str "leaf",V.ref vp])=H4 at d0 a3 a8 as R an ⊢;have el:Cj (fs.take<|i+1)=Cj (fs.take i)++[(l,f.2)]:=by rw[ci,vK,e1]
   have ef:(Cj<|fs.take<|i+1).foldl Cd (S,[])=Cd ((Cj<|fs.take i).foldl Cd (S,[])) (l,f.2):=by rw[el,YT];rfl
   have nl:l∉((Cj<|fs.take i).foldl Cd (S,[])).2.map (·.1):=fun z=>by
    rw[cc]at z;have nd:=Pq (fs:=fs.take<|i+1) (by rw[JS];exact gf.nd.sublist<|List.take_sublist _ _);rw[el,Zo,Yo]at nd;exact nd.2.2 l z l (Zb.mpr rfl) rfl
   have c8:=R.one (f:=f) e1;rw[←ci]at c8;clear a6 go cc;generalize (Cj<|fs.take i).foldl Cd (S,[])=q at a3 a8 cl ck ef nl ql;refine He a3 cl (Xt a1.2 a1.1) rfl ck d0 fun H5 I O=>?_;have ab:H5 g=_:=I _ _ ct a8;have D:H5 n=_:=I _ _ b7 as;have B:=c8.off (X:=A) (fun c hc=>da c<|Zf _<|Zf _ hc) a3.wB.tup I;have a2:Off (g::n::A) H1 H5:=fun b o nb e=>I b o (fun z=>nb<|Zf _<|Zf _ z) (an b o nb e);refine⟨_,rfl,_,rfl,g,_,rfl,sY.k (k:=.inr l) ab<|xS (by unfold Cp;rw[Za];lia),hD _ _ ⟨_,_,_,_,_,s,rfl,?_,?_,?_,?_,?_⟩⟩
   ·rw[ef];exact O.off (zW ab) z7 fun b hb z=>ct<|Zb.mp z▸hb
   ·rw[ef,zB,CV nl];rfl
   ·rwa[zI<|Ey rf]
   ·exact B.off (X:=[g]) (fun c hc=>by rw[Zb.mp hc];exact⟨_,cb⟩) (zW ab) z7
   ·exact a2.upd (Zi ..)
  |l::b::r,gl =>
   have ep:zc (l::b::r)=l++⟨#[47]⟩++zc (b::r):=Sv l b r;have c4:zP l=true:=gl.2.2.1 l<|Zi ..;have pl:(zc (l::b::r)).length<=100000:=by
    have:=uW gl.2.2.1;have h4:=gl.2.1;rw[zb];lia
   have el:Cj (fs.take<|i+1)=Cj (fs.take i):=by rw[ci,vK,e1];exact ZK _
   have d3:=SK gf c1 e1;refine⟨_,rfl,rfl,.inl ⟨l,zc (b::r),47,by rw[ep];rfl,Ri,xV c4,by rw[←ep];exact pl,fun p np=>?_⟩⟩;have up:=zF (o:=.tup [V.str l,V.str ⟨#[47]⟩,V.str<|zc (b::r)]) np;obtain⟨N,Z,C,J,al,a5⟩:=go up;have c2:upd H2 p (.tup [V.str l,V.str ⟨#[47]⟩,V.str<|zc (b::r)]) p=some (.tup [V.str l,V.str ⟨#[47]⟩,V.str<|zc (b::r)]):=zB;refine⟨_,rfl,p,_,_,_,rfl,rfl,xg.of zB,rfl,?_⟩;refine⟨_,rfl,_,rfl,rfl,false,?_,Ut ?_⟩
   ·show V.bl (decide (V.str l=V.str (zc (l::b::r))))=V.bl false;rw[Zn fun z=>T7 l b r<|by injection z]
   generalize upd H2 p (.tup [V.str l,V.str ⟨#[47]⟩,V.str<|zc (b::r)])=U at N Z C J al a5 c2 ⊢;refine⟨_,rfl,n,rfl,.inl ⟨_,.inl C⟩,_,rfl,fun e ne=>?_⟩;have ue:=zF (o:=.dK []) ne;have cx:H1 e=none:=a6 N Z C al ne;have a3:=N.same ue;have a8:=ue _ _ Z;have as:=ue _ _ C;have R:=J.same ue;have an:=al.trans<|Off.of ue;have cw:=Dt.same ue _ _ a5;have c3:=ue _ _ c2;have co:upd U e (.dK []) e=some (.dK []):=zB;have ds:∀q∈s,q.2≠e:=fun q hq z=>by
    obtain⟨kq,di,_⟩:=J.at_ q hq;rw[z,ne]at di;cases di
   generalize upd U e (.dK [])=H4 at a3 a8 as R an cw c3 co ⊢;clear bm b9 ar a4 a9 cv go a6 N Z C J al a5 c2 up np;have c5:s.map (·.1)=Cm (fs.take i):=R.wN;have cz:s.length<=63:=by
    have:=congrArg List.length c5;rw[Za]at this;have h2:=qZ<|fs.take i;rw[ZG]at h2;lia
   have dj:∀{x:Ei},H1 x=none->x∉g::n::A:=fun{x} hx z=>by
    obtain⟨o',e'⟩:=da x z;rw[hx]at e';cases e'
   by_cases inl:l∈Cm (fs.take i)
   ·have cq:l∈s.map (·.1):=by rwa[c5]
    obtain⟨pr,a0,cy⟩:=Zd.mp cq;obtain⟨cm,pb⟩:=pr;have cy:cm=l:=cy;subst cy;have vv:=uR R.rN a0;refine⟨_,vg.k (k:=.inr cm) as,?_⟩;rw[vv];obtain⟨kb,hb,fb⟩:=R.at_ _ a0;have hb:H4 pb=some (.dK kb):=hb;have fb:xr K H4 (sub (fs.take i) cm) kb:=fb;have nb:H1 pb=none:=R.new _ a0;have d2:kb.length<=63:=by
     have:=fb.len;have h2:=sub_len (fs:=fs.take i) (l:=cm);rw[ZG]at h2;lia
    refine⟨_,rfl,_,rfl,_,rfl,p,_,_,_,rfl,rfl,xg.of c3,rfl,pb,_,rfl,sY.k (k:=.inr<|zc (b::r)) hb<|xS<|by lia,?_⟩;have pn:ye kb (.inr<|zc (b::r)) v=kb++[(.inr<|zc (b::r),v)]:=kH (by rwa[fb.keys]);rw[pn];have B:=R.old a0 hb fb e1 cw a1;rw[←ci]at B;have bX:=dj nb;have ch:g≠pb:=fun z=>bX (by rw[←z];exact Zi ..);have ce:n≠pb:=fun z=>bX (by rw[←z];exact Zf _<|Zi ..);have cg:pb∉A:=fun z=>bX<|Zf _<|Zf _ z;have I:Off (g::n::A) H1 (upd H4 pb<|.dK<|kb++[((.inr (zc (b::r)):Key),v)]):=fun x o nx ex=>by
     rw[zI (fun z=>by rw[z,nb]at ex;cases ex)];exact an x o nx ex
    have O:=a3.off (zW hb) (z7 (o:=.dK<|kb++[((.inr (zc (b::r)):Key),v)])) fun x hx z=>cg (by rwa[←Zb.mp z]);have ab:=(zI (o:=.dK<|kb++[((.inr (zc (b::r)):Key),v)]) ch).trans a8;have D:=(zI (o:=.dK<|kb++[((.inr (zc (b::r)):Key),v)]) ce).trans as;generalize upd H4 pb (.dK<|kb++[((.inr (zc (b::r)):Key),v)])=H5 at B I O ab D ⊢;refine⟨_,rfl,_,rfl,_,rfl,n,_,rfl,sY.k (k:=.inr cm) D<|xS (by unfold Cr;rw[Za];lia),hD _ _ ⟨_,_,_,_,_,s,rfl,?_,?_,?_,?_,?_⟩⟩
    ·rw[el];exact O.off (zW D) z7 fun x hx z=>b7<|Zb.mp z▸hx
    ·rwa[el,zI rf]
    ·rw[zB];exact congrArg (fun z=>some<|HO.dK z) (Fx R.rN a0)
    ·exact B.off (X:=[n]) (fun c hc=>by rw[Zb.mp hc];exact⟨_,a7⟩) (zW D) z7
    ·exact I.upd (Zf _<|Zi ..)
   ·have cq:l∉s.map (·.1):=by rwa[c5]
    have vv:=OS cq;refine⟨_,vg.k (k:=.inr l) as,?_⟩;rw[vv];refine⟨_,rfl,_,rfl,_,rfl,p,_,_,_,rfl,rfl,xg.of c3,rfl,e,_,rfl,sY.k (k:=.inr<|zc (b::r)) co<|xS (by show 0<16777216;decide),?_⟩;have bX:=dj cx;have ch:g≠e:=fun z=>bX (by rw[←z];exact Zi ..);have ce:n≠e:=fun z=>bX (by rw[←z];exact Zf _<|Zi ..);have cg:e∉A:=fun z=>bX<|Zf _<|Zf _ z;have pn:ye ([]:Dl) (.inr<|zc (b::r)) v=[(.inr<|zc (b::r),v)]:=rfl;rw[pn];have B:=R.lB inl co cx ds e1 cw a1;rw[←ci]at B;have I:Off (g::n::A) H1 (upd H4 e<|.dK [((.inr (zc (b::r)):Key),v)]):=fun x o nx ex=>by
     rw[zI (fun z=>by rw[z,cx]at ex;cases ex)];exact an x o nx ex
    have O:=a3.off (zW co) (z7 (o:=.dK [((.inr (zc (b::r)):Key),v)])) fun x hx z=>cg (by rwa[←Zb.mp z]);have ab:=(zI (o:=.dK [((.inr (zc (b::r)):Key),v)]) ch).trans a8;have D:=(zI (o:=.dK [((.inr (zc (b::r)):Key),v)]) ce).trans as;generalize upd H4 e (.dK [((.inr (zc (b::r)):Key),v)])=H5 at B I O ab D ⊢;refine⟨_,rfl,_,rfl,_,rfl,n,_,rfl,sY.k (k:=.inr l) D<|xS (by unfold Cr;rw[Za];lia),hD _ _ ⟨_,_,_,_,_,s++[(l,e)],rfl,?_,?_,?_,?_,?_⟩⟩
    ·rw[el];exact O.off (zW D) z7 fun x hx z=>b7<|Zb.mp z▸hx
    ·rwa[el,zI rf]
    ·rw[zB];exact congrArg (fun z=>some<|HO.dK z) (Fw cq)
    ·exact B.off (X:=[n]) (fun c hc=>by rw[Zb.mp hc];exact⟨_,a7⟩) (zW D) z7
    ·exact I.upd (Zf _<|Zi ..)
 ·rintro σ t ⟨o4,o5,o6,o7,o8,s,rfl,M,Y,am,Fl,G⟩;rw[kl,ZJ]at M Y Fl;refine⟨c,ob,Dm,G _ _ cX b8,fun o u z=>?_,?_⟩
  ·have z:H c=some (.frz o u):=z;rw[hc]at z;cases z
  have df:=G _ _ cX b8;have cj:∀x∈[c],∀xs,¬Rd t x (.tup xs):=fun x hx xs z=>by
   rw[Zb.mp hx]at z
   rcases z with z|⟨o,z⟩<;>rw[df]at z<;>cases z
  have oc:Off [c] t (upd t c<|.dK Dm):=z7;have bm:yq P w K aC (upd t c<|.dK Dm) a A ((Cj fs).foldl Cd (S,[])).1:=M.off cj oc fun x hx z=>c6<|Zb.mp z▸hx;have b9:upd t c (.dK Dm) g=some (.dK<|Cp ((Cj fs).foldl Cd (S,[])).2):=by rwa[zI<|Ey cr]
  have ar:upd t c (.dK Dm) n=some (.dK<|Cr s):=by rwa[zI<|Ey cf]
  have a4:wj K H1 (upd t c<|.dK Dm) fs s:=Fl.off (X:=[c]) (fun x hx=>by rw[Zb.mp hx];exact⟨_,b8⟩) cj oc;have a9:Off A H (upd t c<|.dK Dm):=fun x o nx ex=>by
   by_cases z:x=c
   ·rw[z,zB];rw[z,hc]at ex;exact ex
   ·rw[zI z];refine G x o (fun q=>?_) (by rw[nz z];exact sb _ _ ex)
    rcases Zm.mp q with q|q
    ·rw[q,b0]at ex;cases ex
    ·rcases Zm.mp q with q|q
     ·rw[q,ap]at ex;cases ex
     ·exact nx q
  generalize upd t c (.dK Dm)=H2 at bm b9 ar a4 a9 ⊢;clear M Y am Fl G df cj oc;refine⟨_,rfl,n,Cr s,rfl,ar,fun ah=>?_⟩;have al:Off [n] H2 (upd H2 n<|.frz ah<|.dK<|Cr s):=z7;have C:upd H2 n (.frz ah<|.dK<|Cr s) n=some (.frz ah<|.dK<|Cr s):=zB;have N:yq P w K aC (upd H2 n<|.frz ah<|.dK<|Cr s) a A ((Cj fs).foldl Cd (S,[])).1:=bm.off (zW ar) al fun x hx z=>b7<|Zb.mp z▸hx;have Z:upd H2 n (.frz ah<|.dK<|Cr s) g=some (.dK<|Cp ((Cj fs).foldl Cd (S,[])).2):=by rwa[zI rf]
  have J:wj K H1 (upd H2 n<|.frz ah<|.dK<|Cr s) fs s:=a4.off (X:=[n]) (fun x hx=>by rw[Zb.mp hx];exact⟨_,a7⟩) (zW ar) al;have an:Off A H (upd H2 n<|.frz ah<|.dK<|Cr s):=fun x o nx ex=>by
   rw[zI (fun z=>by rw[z,ap]at ex;cases ex)];exact a9 x o nx ex
  generalize upd H2 n (.frz ah<|.dK<|Cr s)=U at al C N Z J an ⊢;have cz:s.map (·.1)=Cm fs:=J.wN;have c0:(Cr s).length=(Cm fs).length:=by rw[←cz,Za];unfold Cr;rw[Za]
  have dz:(Cj fs).length+(Cm fs).length<=63:=by have:=qZ fs;lia
  refine⟨n,ah,Cr s,rfl,C,Ge (fun j σ t=>∃o4 o5 o6 o7 o8,σ=[some<|.ref a,some<|.ref c,some<|.ref g,some<|.ref n,o4,o5,o6,o7,o8]/\yq P w K aC t a A (((Cm fs).take j).foldl (Ci d fs)<|(Cj fs).foldl Cd (S,[])).1/\t g=some (.dK<|Cp (((Cm fs).take j).foldl (Ci d fs)<|(Cj fs).foldl Cd (S,[])).2)/\t n=some (.frz ah<|.dK<|Cr s)/\wj K H1 t fs s/\Off A H t) ⟨o4,o5,o6,o7,o8,rfl,N,Z,C,J,an⟩ (fun j σ t hj h=>?_) ?_ ?_⟩
  ·obtain⟨_,_,_,_,_,_,_,_,hf,_⟩:=h;exact hf
  ·clear N Z C J an bm b9 ar a4 a9;rintro j kk v T0 σ t hj ⟨o4,o5,o6,o7,o8,rfl,M,Y,am,Fl,G⟩ nT D' hD;unfold Cr at hj;rw[Zs]at hj;obtain⟨pr,dh,hj⟩:=ZS.mp hj;obtain⟨l,b⟩:=pr;have hj:((.inr l:Key),V.ref b)=(kk,v):=hj;cases hj;have a0:=Zt dh;have cp:(Cm fs)[j]?=some l:=by rw[←cz,Zs,dh];rfl
   obtain⟨cl,ck,cc⟩:=bd ok gf fl sl cp;have uT:=zF (o:=.tup [V.str l,V.ref b]) nT;refine⟨T0,_,rfl,xg.of zB,rfl,_,_,rfl,_,_,rfl,rfl,?_⟩;have O:=M.same uT;have ab:=uT _ _ Y;have D:=uT _ _ am;have B:=Fl.same uT;have I:=G.trans<|Off.of uT;show Rh _ _ _ _ _ (upd t T0<|.tup [V.str l,V.ref b]);generalize upd t T0 (.tup [V.str l,V.ref b])=H5 at O ab D B I ⊢;clear M Y am Fl G uT nT;obtain⟨kb,hb,fb⟩:=B.at_ _ a0;have hb:H5 b=some (.dK kb):=hb;have fb:xr K H5 (sub fs l) kb:=fb;have nb:H1 b=none:=B.new _ a0;have dn:b∉A:=fun z=>by
    obtain⟨o',e'⟩:=cd.ex b z;rw[nb]at e';cases e'
   cases d with
   |zero =>
    obtain⟨f,hf,b,r,ef⟩:=((xG fs).2 l).mp<|Zt cp;have:=(gf.wN f hf).2.1;rw[ef,Zj,Zj]at this;lia
   |succ d =>
    have el:(Cm fs).take (j+1)=(Cm fs).take j++[l]:=vz cp;have ef:((Cm fs).take<|j+1).foldl (Ci (d+1) fs) ((Cj fs).foldl Cd (S,[]))=Ci (d+1) fs (((Cm fs).take j).foldl (Ci (d+1) fs)<|(Cj fs).foldl Cd (S,[])) l:=by rw[el,YT];rfl
    have nl:l∉(((Cm fs).take j).foldl (Ci (d+1) fs)<|(Cj fs).foldl Cd (S,[])).2.map (·.1):=fun z=>by
     rw[cc]at z;have nd:=XA gf;have e0:(pieces fs).map (·.1)=(Cj fs).map (·.1)++Cm fs:=by
      unfold pieces;rw[Zo,ZF,ZF]
      congr 1
      exact J1 _
     rw[e0,←Z6 j (Cm fs),←Z7,Yo]at nd;have hd:(Cm fs).drop j=l::(Cm fs).drop (j+1):=by
      have:=(Zv.mp cp);rw[←this.2];exact J6 this.1
     exact nd.2.2 l z l (by rw[hd];exact Zi ..) rfl
    have ql:(((Cm fs).take j).foldl (Ci (d+1) fs)<|(Cj fs).foldl Cd (S,[])).2.length<=63:=by
     have:=congrArg List.length cc;rw[Za,Zp,Za,ZG]at this;lia
    generalize ((Cm fs).take j).foldl (Ci (d+1) fs) ((Cj fs).foldl Cd (S,[]))=q at O ab cl ck ef nl ql;refine⟨_,rfl,_,rfl,a,b,A,q.1,sub fs l,kb,rfl,O,cl,hb,dn,fb,gf.sub l,ZR sub_len fl,ck,fun H6 a2 cu=>?_⟩;have ca:H6 g=_:=a2 _ _ ct ab;have d1:H6 n=_:=a2 _ _ b7 D;have dm:=B.off (X:=A) (fun c hc=>cd.ex c hc) O.wB.tup a2;refine⟨_,rfl,_,rfl,g,_,rfl,sY.k (k:=.inr l) ca<|xS (by unfold Cp;rw[Za];lia),hD _ _ ⟨_,_,_,_,_,rfl,?_,?_,?_,?_,?_⟩⟩
    ·rw[ef];exact cu.off (zW ca) z7 fun x hx z=>ct<|Zb.mp z▸hx
    ·rw[ef,zB,CV nl];rfl
    ·rwa[zI<|Ey rf]
    ·exact dm.off (X:=[g]) (fun c hc=>by rw[Zb.mp hc];exact⟨_,cb⟩) (zW ca) z7
    ·intro x o nx ex;rw[zI (fun z=>by rw[z,b0]at ex;cases ex)];exact a2 x o nx<|I x o nx ex
  ·rintro σ t ⟨o4,o5,o6,o7,o8,rfl,M,Y,am,Fl,G⟩;rw[c0,ZJ]at M Y;refine⟨n,ah,Cr s,am,fun o u z=>?_,?_⟩
   ·have z:H n=some (.frz o u):=z;rw[ap]at z;cases z
   have cj:∀x∈[n],∀xs,¬Rd t x (.tup xs):=fun x hx xs z=>by
    rw[Zb.mp hx]at z
    rcases z with z|⟨o,z⟩<;>rw[am]at z<;>cases z
   have cu:=M.off cj (z7 (o:=.dK<|Cr s)) fun x hx z=>b7<|Zb.mp z▸hx;have ca:=(zI (o:=.dK<|Cr s) rf).trans Y;have a2:Off A H (upd t n<|.dK<|Cr s):=fun x o nx ex=>by
    rw[zI (fun z=>by rw[z,ap]at ex;cases ex)];exact G x o nx ex
   have fe:=OQ ok gf fl sl (q:=(Cm fs).foldl (Ci d fs)<|(Cj fs).foldl Cd (S,[])) rfl;have pf:=Iq d S fs;rw[pf]at k;generalize (Cm fs).foldl (Ci d fs) ((Cj fs).foldl Cd (S,[]))=q at cu ca fe k;obtain⟨g1,g2,g3,g4,g5⟩:=fe;exact⟨_,rfl,_,rfl,a,g,A,q.1,q.2,rfl,cu,g1,.inl ca,g3,fun r hr=>⟨(g4 r hr).1,let ⟨e,te⟩:=(g4 r hr).2;MN te⟩,g5,g2,fun H7 dx dy=>k H7 (a2.trans dx) dy⟩
end AJ
end
end An08
namespace An
open PySem L2 AnJ
structure rQ (K:Cc)(H:Hp)(ah:Str)(fs:Dk)(Dm:Dl):Prop where
 keys:Dm.map (·.1)=fs.map fun f=>(.inr (ah++zc f.1):Key)
 val:∀(i:Nat) (f:Fi) (kv:Key×V),fs[i]?=some f->Dm[i]?=some kv->Dt K H (yh f.2) kv.2/\UN f.2
section
variable {K:Cc}{H H':Hp}{ah l:Str}{fs gs:Dk}{Dm more:Dl}
theorem rQ.nil:rQ K H ah [] []:=⟨rfl,fun i f kv h=>(nomatch h)⟩
theorem rQ.len (h:rQ K H ah fs Dm):Dm.length=fs.length:=by
 have:=congrArg List.length h.keys;rw[Za,Za]at this;exact this
theorem rQ.same (h:rQ K H ah fs Dm)(e:zy H H'):rQ K H' ah fs Dm:=⟨h.keys,fun i f kv a b=>⟨Dt.same e _ _ (h.val i f kv a b).1,(h.val i f kv a b).2⟩⟩
theorem rQ.off {X:Dd}(h:rQ K H ah fs Dm)(n:∀b∈X,∀xs,¬Rd H b (.tup xs))(o:Off X H H'):rQ K H' ah fs Dm:=⟨h.keys,fun i f kv a b=>⟨Dt.off n o _ _ (j3 (h.val i f kv a b).2) (h.val i f kv a b).1,(h.val i f kv a b).2⟩⟩
theorem rQ.app (h:rQ K H ah fs Dm)(k:rQ K H ah gs more):rQ K H ah (fs++gs) (Dm++more):=by
 refine⟨by rw[Zo,Zo,h.keys,k.keys],fun i g kv a b=>?_⟩
 by_cases z:i<fs.length
 ·rw[ZH z]at a;rw[ZH<|by rwa[h.len]]at b;exact h.val i g kv a b
 ·rw[ZP<|by lia]at a;rw[ZP (by rw[h.len];lia),h.len]at b;exact k.val _ g kv a b
theorem RG (ah l:Str){p:Da}(h:p≠[]):ah++l++"/"++zc p=ah++zc (l::p):=yc (by
 have:cs ("/":Str)=[47]:=by decide +kernel
 rw[zq,zq,zq,zq,qP l h,this];simp)
theorem Oy (ah l:Str):ah++l=ah++zc [l]:=by rw[F8]
theorem rQ.deep (h:rQ K H (ah++l++"/") fs Dm)(ne:∀f∈fs,f.1≠[]):rQ K H ah (fs.map fun f=>(l::f.1,f.2)) Dm:=by
 refine⟨?_,fun i f kv a b=>?_⟩
 ·rw[h.keys,ZF];exact Z1 fun f d=>by
   show(Ev (ah++l++"/"++zc f.1):Key)=.inr (ah++zc (l::f.1));rw[RG ah l<|ne f d]
 ·rw[Zs]at a;obtain⟨g,e,rfl⟩:=ZS.mp a;exact h.val i g kv e b
theorem rQ.one (d:Dt K H (yh ls) v)(hl:UN ls):rQ K H ah [([l],ls)] [(.inr<|ah++l,v)]:=by
 refine⟨by rw[Oy];rfl,fun i f kv a b=>?_⟩;cases i with
 |zero=>cases a;cases b;exact⟨d,hl⟩
 |succ i=>cases a
theorem rQ.at (h:rQ K H "" fs Dm):xr K H fs Dm:=⟨by
 rw[h.keys];exact Z1 fun f _=>by
  congr 1
  exact yc (by rw[zq];rfl),h.val⟩
end
theorem uX:∀{more Dm:Dl},(∀k∈more.map (·.1),k∉Dm.map (·.1))->(more.map (·.1)).Nodup->putAll Dm more=Dm++more
 |[],Dm,_,_=>(ZK _).symm
 |p::more,Dm,h,nd=>by
  rw[ZE,Z5]at nd;show putAll (ye Dm p.1 p.2) more=_;rw[kH<|h p.1<|Zi ..,uX (fun k hk z=>?_) nd.2,Z7]
  ·rfl
  ·rw[Zo]at z
   rcases ZB.mp z with z|z
   ·exact h k (Zf _ hk) z
   ·have z:k=p.1:=Zb.mp z;exact nd.1<|z▸hk
theorem RX {ah:Str}{fs:Dk}(h:fs.Pairwise<|fun f g=>FN (zc f.1)<|zc g.1):(fs.map fun f=>(.inr (ah++zc f.1):Key)).Nodup:=by
 rw[Z8,YU];refine h.imp fun{a b} z e=>?_;have e:ah++zc a.1=ah++zc b.1:=Sum.inr.inj e;have:=congrArg cs e;rw[zq,zq]at this;exact FO z<|yc<|List.append_cancel_left this
noncomputable def Cs (d:Nat)(S:Di)(r:Str×Str):Dk:=(zu d S r.2).map fun f=>(r.1::f.1,f.2)
end An
namespace AnJ
open AxK
open PySem L2 An An10 An12
end AnJ
namespace AxS
open PySem PySem.Spec PyProof.Rows
section
variable {prog:Ej}{w:Ep}{A:ED}{E:Eh->Dh}{s:Em}
set_option maxHeartbeats 6400000 in
end
section
variable {prog:Ej}{w:Ep}{A:ED}{E:Eh->Dh}{s:Em}
theorem jA:plainId "dict.update.loop"=true:=by decide +kernel
theorem XX:entryFor table "dict.update.loop"=some Builtin.«dict.update.loop»:=entryFor_of_fast (by kernel_rfl)
def yw (prog:Ej)(w:Ep)(h:EB)(Dn:Array Eh)(Dm:List<|L2.Key×Eh):Prop:=Dm.length=Dn.size/\∀(i:Nat) (v:Eh),Dn[i]?=some v->∃(T:Ei) (k:L2.Key) (key x:Eh),v=.ref T/\h.IsTuple T #[key,x]/\(L2.zf prog w).is k key=true/\Dm[i]?=some (k,x)
theorem yw.at {h':EB}(p:yw prog w h Dn Dm)(e:∀T o,(∃xs,h.IsTuple T xs)->h.get? T=some o->h'.get? T=some o):yw prog w h' Dn Dm:=by
 refine⟨p.1,fun i v g=>?_⟩;obtain⟨T,k,key,x,d,b,hk,j⟩:=p.2 i v g;obtain⟨o,f,r⟩:=id b;exact⟨T,k,key,x,d,⟨o,e T o ⟨_,b⟩ f,r⟩,hk,j⟩
end
end AxS
namespace L2
open PySem PySem.Spec PyProof.Rows AxS
section
variable {X:Cx}{K:Cc}
def HK (K:Cc)(H:Hp)(xs:Dj)(Dm:Dl):Prop:=xs.length=Dm.length/\∀(i:Nat) (x:V),xs[i]?=some x->∃(T:Ei) (k:Key) (v:V),x=.ref T/\xg K H T [kV k,v]/\Dm[i]?=some (k,v)
theorem IP (I:Inv X Dp σ H s):∀{vs:Dj} {its:Db} {Dm:Dl},yu vs its->HK X.K H vs Dm->∃um:List<|Key×Eh,KV Dm um/\um.length=its.length/\∀(i:Nat) (v:Eh),its[i]?=some v->∃(T:Ei) (k:Key) (key x:Eh),v=.ref T/\s.heap.IsTuple T #[key,x]/\(zf X.prog X.w).is k key=true/\um[i]?=some (k,x)
 |[],_,Dm,.nil,p=>by
  have:Dm=[]:=Yw p.1.symm;subst this;exact⟨[],.nil,rfl,fun i v z=>(nomatch z)⟩
 |x::vs,u::its,Dm,.cons r1 r2,p=>by
  obtain⟨T,k,y,rfl,n,hk⟩:=p.2 0 x rfl;cases Dm with
  |nil=>cases hk
  |cons kv Dm =>
   have ek:kv=(k,y):=Option.some.inj hk;subst ek;obtain⟨um,d,len,all⟩:=IP I (Dm:=Dm) r2 ⟨by have:=p.1;simpa using this,fun i z q=>by
    obtain⟨f,r,t,g,j,l⟩:=p.2 (i+1) z (by simpa using q);exact⟨f,r,t,g,j,by simpa using l⟩⟩
   cases r1;obtain⟨A,b,o,_⟩:=I.tuple n;cases b with
   |cons q1 b =>
    cases b with
    |cons q2 b =>
     cases b;rename_i key val;refine⟨(k,val)::um,.cons ⟨rfl,q2⟩ d,by rw[Zj,Zj,len],fun i v e=>?_⟩;cases i with
     |zero =>
      cases e;exact⟨T,k,key,val,rfl,o,Xa q1,rfl⟩
     |succ i=>exact all i v (by simpa using e)
end
theorem wY.sW (r:wY k A):A.units+1<cLine:=by have:=r.un;lia
section
variable {d:Ei}{Dm:Dl}{ob:Obj}{src:List (Option Nat)}{g:TG}{tf:St->Hp->(Bool->Hp->Prop)->Prop}{te:TE}{Q:VK}{σ:St}{H:Hp}
theorem NG (e:Nat->Dj->St->Hp->Prop)(n:e 0 [] (UK src σ) H)(hz:Dm.length<=sizeLine)(hl:∀i ys σ H,i<=Dm.length->e i ys σ H->H d=some (.frz ob<|.dK Dm)/\ys.length<=i)
  (o:∀i k v ys σ H,Dm[i]?=some (k,v)->e i ys σ H->g (kV k) σ H fun σ2 H3=>tf σ2 H3 fun b H4=>if b=true then te σ2 H4 fun y H5=>e (i+1) (ys++[y]) σ2 H5 else e (i+1) ys σ2 H4)
  (hd:∀ys σ H,e Dm.length ys σ H->∀p,H p=none->Q (.ref p) (upd H p<|.lst ys)):U9 src (aQ d Dm ob) g tf te Q σ H :=
 IT Dm.length e n hz (fun i ys σ H f p=>(hl i ys σ H f p).2) (fun ys σ H p=>⟨(hl _ ys σ H (Zg _) p).1,rfl⟩) (fun i ys σ H f p=>⟨(hl i ys σ H (Yx f) p).1,f⟩)
  (fun i ys σ H f p x r y=>by
   obtain⟨j,k,v,q,l⟩:=y;subst l j;exact o i k v ys σ _ q p) hd
end
end L2
namespace AnS
open PySem L2 An AnJ
end AnS
namespace An
open PySem L2
def Nq (ds:Df):Da:=ds.filterMap fun d=>match d with
 | .str x=>some x
 |_=>none
theorem uD:∀ps:Da,Nq (ps.map .str)=ps
 |[]=>rfl
 |p::ps=>by
  show p::Nq (ps.map .str)=_;rw[uD ps]
inductive iV (par:Str->Da)(rs:Da):Str->Prop
 |root {x:Str}:x∈rs->iV par rs x
 |step {x y:Str}:iV par rs x->y∈par x->iV par rs y
def Uy (S:Di):Ek->Str->Bool
 | .str x,f=>zS S x [f]
 |_,_=>false
def wJ (Do:Dg)(l:Str):Option Str:=(Do.find? fun r=>decide (r.1=l)).map (·.2)
theorem v5 (Do:Dg)(l:Str):Uu (Cp Do) (.inr l)=(wJ Do l).map V.str:=by
 unfold Uu Cp wJ;rw[List.find?_map,Option.map_map,Option.map_map]
 congr 1
 congr 1
 funext r
 show decide ((.inr r.1:Key)=.inr l)=decide (r.1=l)
 by_cases z:r.1=l
 ·rw[Ze z,Ze<|by rw[z]]
 ·rw[Zn z,Zn<|fun q=>z<|Sum.inr.inj q]
theorem jR {n:Str}(h:wJ Do l=some n):(l,n)∈Do:=by
 unfold wJ at h;obtain⟨r,e,rfl⟩:=ZS.mp h;have f:=List.mem_of_find?_eq_some e;have d:=List.find?_some e;have d:=Zx d;obtain⟨a,b⟩:=r;have d:a=l:=d;subst d;exact f
noncomputable def wu (S:Di)(x:Option Str)(l:Str):Option Str:=match x with
 |none=>none
 |some n=>match Nt S n with
  |some (.tree Do)=>wJ Do l
  |_=>none
noncomputable def atT (S:Di)(b:Str)(ls:Da):Option Str:=ls.foldl (wu S)<|some b
theorem Xx (S:Di):∀ls:Da,ls.foldl (wu S) none=none
 |[]=>rfl
 |_::ls=>Xx S ls
theorem uC (g:yd S){n:Str}{Do:Dg}(h:At S n<|.tree Do)(l:Str):wu S (some n) l=wJ Do l:=by
 show(match Nt S n with|some (.tree Do)=>wJ Do l|_=>none)=_;rw[Xz g h]
theorem IW (g:yd S)(n:Str):(Uy S (.str n) "tree"=true/\∃Do,At S n<|.tree Do)\/(Uy S (.str n) "tree"=false/\∀Do,¬At S n (.tree Do)):=by
 cases q:Uy S (.str n) "tree" with
 |true =>
  have q:zS S n ["tree"]=true:=q;unfold zS at q;obtain⟨e,d,q⟩:=Z2.mp q;rw[Zk,ZQ,ZQ]at q;obtain⟨t,f,_,_⟩:=g.th e d;have w:=Zb.mp q.2;rw[qJ f]at w;refine .inl ⟨rfl,?_⟩;cases t with
  |leaf ls=>exact absurd (show("leaf":Str)="tree" from w) (by decide +kernel)
  |tree Do=>exact⟨Do,e,d,q.1,f⟩
  |note a b c=>exact absurd (show("note":Str)="tree" from w) (by decide +kernel)
 |false =>
  refine .inr ⟨rfl,fun Do h=>?_⟩;obtain⟨e,d,rfl,hd⟩:=h;have:zS S e.nm ["tree"]=true:=Z2.mpr ⟨e,d,by
   rw[Zk,ZC,ZC,qJ hd];exact⟨rfl,Zb.mpr rfl⟩⟩
  rw[show Uy S (.str e.nm) "tree"=zS S e.nm ["tree"] from rfl,this]at q;cases q
theorem Hv (h:∀Do,¬At S n (.tree Do))(l:Str):wu S (some n) l=none:=by
 show(match Nt S n with|some (.tree Do)=>wJ Do l|_=>none)=_;cases q:Nt S n with
 |none=>rfl
 |some t =>
  unfold Nt at q
  split at q
  ·rename_i ex;have q:=Option.some.inj q;have d:=Vz ex;rw[q]at d;cases t with
   |leaf ls=>rfl
   |tree Do=>exact absurd d<|h Do
   |note a b c=>rfl
  ·cases q
def oV:Option Str->V
 |none=>.non
 |some n=>.str n
def N7:Option Str->Ek
 |none=>.none
 |some n=>.str n
open AnJ
def U4 (fs:Dk)(f:Fi):Dk:=if f.1∈fs.map (·.1) then fs.map (fun g=>if g.1=f.1 then f else g) else fs++[f]
theorem KA (fs:Dk)(f:Fi):(U4 fs f).map (·.1)=if f.1∈fs.map (·.1) then fs.map (·.1) else fs.map (·.1)++[f.1]:=by
 unfold U4
 split
 ·rw[ZF];refine Z1 fun g _=>?_;show(if g.1=f.1 then f else g).1=g.1
  split
  ·rename_i z;exact z.symm
  ·rfl
 ·rw[Zo];rfl
theorem Xk {k:Fi}(h:k∈U4 fs f):k∈fs\/k=f:=by
 unfold U4 at h
 split at h
 ·obtain⟨g,b,e⟩:=Zd.mp h
  split at e
  ·exact .inr e.symm
  ·exact .inl (e▸b)
 ·rcases ZB.mp h with z|z
  ·exact .inl z
  ·exact .inr (Zb.mp z)
theorem Od (fs:Dk)(f:Fi):(U4 fs f).length<=fs.length+1:=by
 unfold U4
 split
 ·rw[Za];exact Je _
 ·rw[Zp];exact Zg _
theorem B5 {a t:Da}(ha:a≠[])(b:t≠[]):zc (a++t)=zc a++"/"++zc t:=yc (by
 have e:cs ("/":Str)=[47]:=by decide +kernel
 unfold zc;rw[qA,Zo,Ke (by simpa using ha)<|by simpa using b,zq,zq,qA,qA,e];simp)
theorem yg.put (g:yg 4 fs){f:Fi}(d:f.1≠[])(j:f.1.length<=4)(hl:∀l∈f.1,zP l=true)(hn:UN f.2)(fr:∀k∈fs,Ux (zc k.1) (zc f.1)=false/\Ux (zc f.1) (zc k.1)=false):yg 4 (U4 fs f):=by
 have i:∀{a b t:Da},a≠[]->b=a++t->Ux (zc a) (zc b)=false->t=[]:=fun{a b t} ha e z=>by
  rcases Mg (t=[]) with q|q
  ·exact q
  ·rw[e,B5 ha q,IG]at z;cases z
 refine⟨fun k hk=>?_,?_,fun k hk m hm t e=>?_⟩
 ·rcases Xk hk with z|z
  ·exact g.wN k z
  ·rw[z];exact⟨d,j,hl,hn⟩
 ·rw[KA]
  split
  ·exact g.nd
  ·rename_i z;exact jX g.nd z
 ·rcases Xk hk with z|z<;>rcases Xk hm with y|y
  ·exact g.pre k z m y t e
  ·rw[y]at e;exact i (g.wN k z).1 e (fr k z).1
  ·rw[z]at e;exact i d e (fr m y).2
  ·rw[z,y]at e;have:=congrArg List.length e;rw[Zp]at this;exact Yw (by lia)
theorem xr.put {K:Cc}(h:xr K H fs Dm){n:Nat}(g:yg n fs){f:Fi}{v:V}(B:f.1≠[])(hl:∀l∈f.1,zP l=true)(x:Dt K H (yh f.2) v)(hn:UN f.2):xr K H (U4 fs f) (ye Dm (.inr<|zc f.1) v):=by
 have key:∀k∈fs,((.inr (zc k.1):Key)=.inr (zc f.1))↔k.1=f.1:=fun k hk=>⟨fun z=>uP (d:=0) (g.wN k hk).1 B (g.wN k hk).2.2.1 hl<|Sum.inr.inj z,fun z=>by rw[z]⟩
 by_cases z:f.1∈fs.map (·.1)
 ·have w:∃k∈fs,k.1=f.1:=let ⟨k,hk,e⟩:=Zd.mp z;⟨k,hk,e⟩;have ha:(Dm.any fun kv=>decide (kv.1=.inr (zc f.1)))=true:=by
   obtain⟨k,hk,e⟩:=w;have:(.inr (zc f.1):Key)∈Dm.map (·.1):=by rw[h.keys];exact Zd.mpr ⟨k,hk,by rw[e]⟩
   obtain⟨kv,m,A⟩:=Zd.mp this;exact Z2.mpr ⟨kv,m,Ze A⟩
  unfold ye U4;rw[Zy ha,Zy z];refine⟨?_,fun i k kv a b=>?_⟩
  ·rw[ZF,ZF];have r:Dm.map ((fun p=>p.1)∘fun kv=>if kv.1=.inr (zc f.1) then(kv.1,v) else kv)=Dm.map (·.1):=Z1 fun kv _=>by
    show(if kv.1=.inr (zc f.1) then(kv.1,v) else kv).1=kv.1
    split<;>rfl
   rw[r,h.keys];refine Z1 fun k _=>?_;show(Ev (zc k.1):Key)=.inr (zc (if k.1=f.1 then f else k).1)
   split
   ·rename_i q;rw[q]
   ·rfl
  ·rw[Zs]at a b;obtain⟨u,s,ek⟩:=ZS.mp a;obtain⟨t,o,j⟩:=ZS.mp b;have r:=congrArg (fun l=>l[i]?) h.keys;simp only[Zs,s,o,YA]at r;have r:t.1=.inr (zc u.1):=Option.some.inj r
   by_cases q:u.1=f.1
   ·rw[Zy q]at ek;rw[Zy<|by rw[r,q]]at j;rw[←ek,←j];exact⟨x,hn⟩
   ·rw[Zr q]at ek;rw[Zr<|fun y=>q<|(key u<|Zt s).mp<|r.symm.trans y]at j;rw[←ek,←j];exact h.val i u t s o
 ·have C:(.inr (zc f.1):Key)∉Dm.map (·.1):=fun y=>by
   rw[h.keys]at y;obtain⟨k,hk,e⟩:=Zd.mp y;exact z<|Zd.mpr ⟨k,hk,(key k hk).mp e⟩
  rw[kH C];unfold U4;rw[Zr z];exact h.snoc x hn
theorem aO {n:Nat}{fs:Dk}(g:∀f∈fs,f.1.length<=n):wt fs<=n*fs.length:=by
 unfold wt
 induction fs with
 |nil=>exact ZN _
 |cons f fs ih =>
  have b:=g f<|Zi ..;have d:=ih fun k hk=>g k<|Zf _ hk;rw[ZE,Jf,Zj,Nat.mul_succ];lia
theorem yg.wt (g:yg n fs):wt fs<=n*fs.length:=aO fun f b=>(g.wN f b).2.1
section
variable {K:Cc}{H:Hp}{fs:Dk}{Dm:Dl}
theorem xr.nd (h:xr K H fs Dm)(g:yg n fs):(Dm.map (·.1)).Nodup:=by
 rw[h.keys];have:=g.nd;rw[Z8,YU]at this ⊢;exact this.imp_of_mem fun{a b} ha hb ne q=>ne<|uP (d:=0) (g.wN a ha).1 (g.wN b hb).1 (g.wN a ha).2.2.1 (g.wN b hb).2.2.1<|Sum.inr.inj q
theorem xr.at (h:xr K H fs Dm)(g:yg n fs){f:Fi}(l:f∈fs):∃v,Uu Dm (.inr<|zc f.1)=some v/\Dt K H (yh f.2) v/\UN f.2:=by
 obtain⟨i,o,rfl⟩:=ZY.mp l;have hk:i<Dm.length:=by rwa[h.len]
 obtain⟨p,b,d,e,j⟩:=h.get (i:=i) (k:=Dm[i].1) (v:=Dm[i].2)<|Zl hk;rw[Zl o]at b;cases b;refine⟨Dm[i].2,uZ (h.nd g) ?_,e,j⟩;rw[←d];exact Yt hk
theorem xr.jc (h:xr K H fs Dm):Ti Dm/\Dm.map GW=fs.map fun f=>zc f.1:=by
 constructor
 ·intro kv b;have:kv.1∈Dm.map (·.1):=Zd.mpr ⟨kv,b,rfl⟩;rw[h.keys]at this;obtain⟨f,_,e⟩:=Zd.mp this;unfold GW;rw[←e]
 ·have e:Dm.map GW=(Dm.map (·.1)).map fun k=>GW (k,V.non):=by rw[ZF];rfl
  rw[e,h.keys,ZF];rfl
end
end An
namespace An
open PySem L2 AnJ
section
variable {d n:Nat}{S:Di}{fs gs:Dk}{q q2:List En×Str}
theorem SD {l:Dk}(h:l.Pairwise fun f h=>FN (zc f.1)<|zc h.1):l.Nodup:=Z8.mpr (h.imp fun{a b} (z:FN (zc a.1)<|zc b.1) (q:a=b)=>FO z<|by rw[q])
theorem ur.perm (a:ur d S fs q)(g:yg n fs):(zu d q.1 q.2).Perm fs :=
 (List.perm_ext_iff_of_nodup (SD (a.tree.rise a.ok).1)<|Xo g.nd).mpr a.rd
end
section
variable {K:Cc}{H:Hp}{fs rs:Dk}{ka kb:Dl}{n m:Nat}
theorem xr.tail {f:Fi}{kv:Key×V}(h:xr K H (f::fs) (kv::ka)):xr K H fs ka:=⟨List.tail_eq_of_cons_eq h.keys,fun i f kv a b=>h.val (i+1) f kv a b⟩
end
end An
namespace An08
open PySem L2 An
seal L2.PS L2.sX L2.PE L2.PT L2.PW L2.PA L2.PG L2.pC L2.PI L2.oY L2.PC
theorem OU (g:yg n fs){f:Fi}(p:f∈fs){z:Str}(hz:z∈UU (zc f.1)):∀k∈fs,z≠zc k.1:=fun k hk e=>by
 obtain⟨s,_,o,_⟩:=g.wN f p;obtain⟨t,_,u,_⟩:=g.wN k hk;have v:Us (zc f.1)=f.1:=jO s fun y l=>xV<|o y l;unfold UU at hz;obtain⟨i,j,b⟩:=Zd.mp hz;rw[v]at j b;have j:=Jl.mp j;have b:zc (f.1.take<|i+1)=z:=b;have w:f.1.take (i+1)≠[]:=by
  intro q;have:=congrArg List.length q;rw[ZG,Ym]at this;lia
 have:=uP (d:=0) w t (fun y l=>o y<|Y7 l) u (b.trans e);have r:f.1=k.1++f.1.drop (i+1):=by rw[←this,Z6]
 have:=congrArg List.length<|g.pre k hk f p _ r;rw[YO,Ym]at this;lia
theorem BP {f:Fi}{n:Nat}(j:n<=4){fs:Dk}(g:yg n fs)(e:f∈fs):UA (.str<|zc f.1)=true/\xP (AnJ.yh f.2)=true/\small (.str<|zc f.1)=true/\small (AnJ.yh f.2)=true:=by
 obtain⟨d,i,b,fn⟩:=g.wN f e;refine⟨jU d (by lia) b,?_,?_,?_⟩
 ·show(f.2.map EI).all US=true;rw[List.all_map,ZA];exact fn.2
 ·refine Ze ?_;have:=uW b;rw[zb];lia
 ·show(decide ((f.2.map EI).length<=1000)&&yH (f.2.map .str))=true;rw[qG fun l hl=>(kD<|fn.2 l hl).len,Za,Ze (show f.2.length<=1000 by have:=fn.1;lia)];rfl
def FC:Key->Ek
 | .inl i=>.int i
 | .inr x=>.str x
theorem RV {K:Cc}(k:Key):Dw K H (FC k) (kV k):=by cases k<;>rfl
def BH (p:Key×Ek):Bool:=UA (FC p.1)&&xP p.2
def GQ (k:Key)(ks:List Key):Bool:=ks.any fun j=>decide (j=k)
theorem sE:GQ k ks=true↔k∈ks:=by
 unfold GQ;rw[Z2];exact⟨fun⟨j,b,d⟩=>Zx d▸b,fun h=>⟨k,h,Ze rfl⟩⟩
def vC (ks:List Key):Key->Bool
 | .inl _=>false
 | .inr x=>(UU x).any fun f=>GQ (.inr f) ks
def UM (ps:List<|Key×Ek):Bool:=ps.all BH&&ps.all fun p=>!vC (ps.map (·.1)) p.1
def yw (K:Cc)(H:Hp):List (Key×Ek)->Dl->Prop
 |[],Dm=>Dm=[]
 |p::ps,Dm=>∃v r,Dm=(p.1,v)::r/\Dw K H p.2 v/\small (FC p.1)=true/\small p.2=true/\yw K H ps r
theorem yw.same {K:Cc}(e:zy H H'):∀{ps:List (Key×Ek)} {Dm:Dl},yw K H ps Dm->yw K H' ps Dm
 |[],_,h=>h
 |p::ps,_,⟨v,r,h1,h2,h3,h4,h5⟩=>⟨v,r,h1,Dw.same e _ _ h2,h3,h4,yw.same e h5⟩
theorem yw.keys {K:Cc}:∀{ps:List (Key×Ek)} {Dm:Dl},yw K H ps Dm->Dm.map (·.1)=ps.map (·.1)
 |[],_,h=>by rw[show _=[] from h];rfl
 |p::ps,_,⟨v,r,h1,h2,h3,h4,h5⟩=>by rw[h1,ZE,ZE,yw.keys h5]
theorem yw.length {K:Cc}(h:yw K H ps Dm):Dm.length=ps.length:=by
 have:=congrArg List.length h.keys;rw[Za,Za]at this;exact this
theorem yw.get {K:Cc}:∀{ps:List (Key×Ek)} {Dm:Dl} {i:Nat} {k:Key} {v:V},yw K H ps Dm->Dm[i]?=some (k,v)->∃d,ps[i]?=some (k,d)/\Dw K H d v/\small (FC k)=true/\small d=true
 |[],_,i,_,_,h,e=>by rw[show _=[] from h]at e;cases e
 |p::ps,_,0,k,v,⟨v',r,h1,h2,h3,h4,h5⟩,e=>by
  rw[h1]at e;have e:(p.1,v')=(k,v):=Option.some.inj e;injection e with b f;subst f;obtain⟨j,g⟩:=p;have b:j=k:=b;subst b;exact⟨g,rfl,h2,h3,h4⟩
 |p::ps,_,i+1,k,v,⟨v',r,h1,h2,h3,h4,h5⟩,e=>by
  rw[h1]at e;obtain⟨d,q⟩:=yw.get (i:=i) h5 (by simpa using e);exact⟨d,by simpa using q.1,q.2⟩
theorem Rw:(Uu Dm k).isSome=GQ k (Dm.map (·.1)):=by
 cases e:Uu Dm k with
 |none=>rw[Z0.mpr<|fun z=>vL e<|sE.mp z];rfl
 |some v=>rw[sE.mpr<|kK e];rfl
mutual
theorem Dw.tu {K:Cc}{H:Hp}{c:Ei}{Dm:Dl}(b:H c=some (.dK Dm))(o:Off [c] H H'):∀(d:Ek) (v:V),zY d=true->Dw K H d v->Dw K H' d v
 | .none,_,_,h=>h
 | .bool _,_,_,h=>h
 | .int _,_,_,h=>h
 | .str _,_,_,h=>h
 | .list ds,_,t,⟨a,xs,h1,h2,h3⟩=>⟨a,xs,h1,by
   rcases h2 with(z|⟨ob,z⟩)|z
   ·exact .inl (.inl<|o _ _ (fun q=>by rw[Zb.mp q,b]at z;cases z) z)
   ·exact .inl (.inr ⟨ob,o _ _ (fun q=>by rw[Zb.mp q,b]at z;cases z) z⟩)
   ·exact .inr z,yo.tu b o ds xs t h3⟩
 | .tuple ds,_,t,⟨a,xs,h1,h2,h3⟩=>⟨a,xs,h1,by
   rcases h2 with(z|⟨ob,z⟩)|z
   ·exact .inl (.inl<|o _ _ (fun q=>by rw[Zb.mp q,b]at z;cases z) z)
   ·exact .inl (.inr ⟨ob,o _ _ (fun q=>by rw[Zb.mp q,b]at z;cases z) z⟩)
   ·exact .inr z,yo.tu b o ds xs t h3⟩
 | .dict _,_,t,_=>by cases t
theorem yo.tu {K:Cc}{H:Hp}{c:Ei}{Dm:Dl}(b:H c=some (.dK Dm))(o:Off [c] H H'):∀(ds:Df) (xs:Dj),yF ds=true->yo K H ds xs->yo K H' ds xs
 |[],_,_,h=>h
 |d::ds,_,t,⟨x,r,h1,h2,h3⟩=>by
  have t:(zY d&&yF ds)=true:=t;rw[Zk]at t;exact⟨x,r,h1,Dw.tu b o d x t.1 h2,yo.tu b o ds r t.2 h3⟩
end
theorem yw.tu {K:Cc}{H:Hp}{c:Ei}{kv:Dl}(b:H c=some (.dK kv))(o:Off [c] H H'):∀{ps:List (Key×Ek)} {Dm:Dl},(∀p∈ps,zY p.2=true)->yw K H ps Dm->yw K H' ps Dm
 |[],_,_,h=>h
 |p::ps,_,t,⟨v,r,h1,h2,h3,h4,h5⟩=>⟨v,r,h1,Dw.tu b o _ _ (t p Zi) h2,h3,h4,yw.tu b o (fun q d=>t q<|Zf _ d) h5⟩
def SY (fs:Dk):List (Key×Ek):=fs.map fun f=>((.inr (zc f.1):Key),AnJ.yh f.2)
inductive pM (K:Cc)(b2:Ei)(vs:Dj)(H:Hp)(Q:VK)(E:XK):Prop
 |mk (v:V) (h0:vs=[v]) (h1:((∃d,Dw K H d v/\(UE d=="dict")=false/\E (.ref b2) none H) \/ (∃c Dm ps,v=.ref c/\H c=some (.dK Dm)/\yw K H ps Dm/\(∀p∈ps,zY p.2=true)/\ps.length<=100/\(UM ps=true->∀H',zy H H'->Q .non H')/\(UM ps=false->∀H',Off [c] H H'->E (.ref b2) none H')))):pM K b2 vs H Q E
theorem F3 {K:Cc}{n:Nat}(e:n<=4):∀{fs:Dk} {Dm:Dl},(∀f∈fs,UA (.str<|zc f.1)=true/\xP (AnJ.yh f.2)=true/\small (.str<|zc f.1)=true/\small (AnJ.yh f.2)=true)->xr K H fs Dm->yw K H (SY fs) Dm
 |[],Dm,_,h=>Yw h.len
 |f::fs,[],_,h=>by have:=h.len;cases this
 |f::fs,kv::Dm,g,h=>by
  have d:=h.val 0 f kv rfl rfl;have hk:kv.1=.inr (zc f.1):=List.head_eq_of_cons_eq h.keys;obtain⟨_,_,i,j⟩:=g f Zi;obtain⟨k,v⟩:=kv;have hk:k=.inr (zc f.1):=hk;subst hk;exact⟨v,Dm,rfl,Dt.dw d.1,i,j,F3 e (fun f b=>g f<|Zf _ b) h.tail⟩
theorem OZ:∀{fs:Dk},∀p∈SY fs,zY p.2=true:=fun{fs} p b=>by
 obtain⟨f,_,rfl⟩:=Zd.mp b;show yF (f.2.map .str)=true;generalize f.2=L
 induction L with
 |nil=>rfl
 |cons l L ih=>exact ih
theorem O0 (g:yg 4 fs):UM (SY fs)=true:=by
 unfold UM;rw[Zk,ZA,ZA];constructor
 ·intro p b;obtain⟨f,d,rfl⟩:=Zd.mp b;obtain⟨i,j,_,_⟩:=BP (Zg 4) g d;show(UA (.str<|zc f.1)&&xP (AnJ.yh f.2))=true;rw[i,j];rfl
 ·intro p b;obtain⟨f,d,rfl⟩:=Zd.mp b;have:vC ((SY fs).map (·.1)) (.inr<|zc f.1)=false:=by
   show((UU<|zc f.1).any fun z=>GQ (.inr z) ((SY fs).map (·.1)))=false;rw[V1];intro z l q;obtain⟨p,b,e⟩:=Zd.mp<|sE.mp q;obtain⟨k,hk,rfl⟩:=Zd.mp b;exact OU g d l k hk (Sum.inr.inj e).symm
  show(!vC ((SY fs).map (·.1)) (.inr<|zc f.1))=true;rw[this];rfl
def Tm (K:Cc)(H:Hp)(v:V)(k:Hp->Prop):Prop:=(∃d,Dw K H d v/\(UE d=="dict")=false/\k H)\/(∃c e b,v=.ref c/\H c=some (.dK e)/\yw K H b e/\(∀p∈b,zY p.2=true)/\b.length<=100/\UM b=false/\∀f,Off [c] H f->k f)
inductive rD (P:Ej)(w:Ep)(K:Cc)(C b2:Ei)(vs:Dj)(H:Hp)(Q:VK)(E:XK):Prop
 |mk (a:Ei) (v:V) (h0:vs=[.ref a,v]) (h1:((∃(c:Ei) (fp:Dd) (S:Di) (fs:Dk) (Dm:Dl),v=.ref c/\yq P w K C H a fp S/\yd S/\H c=some (.dK Dm)/\c∉fp/\xr K H fs Dm/\yg 4 fs/\fs.length<=63/\S.length+1+wt fs<=2000 /\ ∀H',Off fp H H'->yq P w K C H' a fp (Uz 4 S fs).1->Q (.str (Uz 4 S fs).2) H')\/Tm K H v (E (.ref b2) none))):rD P w K C b2 vs H Q E
section
variable {P:Ej}{w:Ep}{K:Cc}{mg:Str->Dc}{base:EB}{t1 t2 t3 t4 t5 t6 t7:Tok}{aL aC aN aT aA b1 b2 b3 b4 b5 b6:Ei}(T:Txt P w K mg t1 t2 t3 t4 t5 t6 t7 aL aC aN aT aA b1 b2 b3 b4 b5 b6)
theorem kS {H:Hp}{c:Ei}{f:Obj}{Dm:Dl}(d:H c=some (.dK Dm))(e:zy (upd H c<|.frz f<|.dK Dm) H2):zy H (upd H2 c<|.dK Dm):=fun b o h=>by
 by_cases z:b=c
 ·rw[z,zB];rw[z,d]at h;exact h
 ·rw[zI z];exact e _ _ (by rwa[zI z])
namespace AJ
theorem ok0 (F:xf0 K "put_files" st f fd):yx P w K mg base Cn 8 f fd ["shelf","files"] (GA P w K aC 0) :=
 F.ok sc (fun _ _ _ _ _ _ _ _ _ h=>EE h) (fun _ _ _ _ h=>EE h)
include T in
theorem ok (F:xf0 K "put_files" st f fd)(g:sU P w K mg base aC 7 "put" ["self","thing"]<|vm P w K aC aN aT)(e:xj P w K mg base 8 "put_rows" ["shelf","rows"]<|wU P w K aC)(d:mg "put_files"=some (.ref f))(b:wW K fd ["shelf","files"] []):yx P w K mg base Cn 12 f fd ["shelf","files"] (GA P w K aC 4):=by
 have i:=xj.mk' F (ok0 (P:=P) (w:=w) (mg:=mg) (base:=base) (aC:=aC) F) d b;have j:=xj.mk' F (step F T g e (by decide) (by decide) i) d b;have l:=xj.mk' F (step F T g e (by decide) (by decide) j) d b;have n:=xj.mk' F (step F T g e (by decide) (by decide) l) d b;exact step F T g e (by decide) (by decide) n
end AJ
namespace AK
abbrev st:Stmt:=top 42
theorem sc:zx ["files","path","lines"] ["files"] (zG st):=Co
include T in
theorem ok (F:xf0 K "need_files" st f fd)(QU:xj P w K mg base 4 "is_file" ["path","lines"]<|oH K)(Qv:xj P w K mg base 1 "folders_of" ["path"]<|qd K):yx P w K mg base (Cw P w) 5 f fd ["files"] (pM K b2):=by
 refine F.qm sc fun _ _ _ _ H vs Q E hr h=>?_;obtain⟨v,rfl,h⟩:=h;refine⟨_,(zD (yI (xD<|zO (K:=K)<|zK (xq.or (zT (K:=K))<|BR (K:=K)) (by rfl) T.isinstance Zw<|zA (pv 0)<|zA (yY (v:=.ty "dict") rfl T.dict Jd rfl) zC) (zE<|xF rfl yX rfl T.vo T.vy<|zA zz zC) zQ)<|zD (uL<|xQ Ly rfl (Gr<|v8<|pv 0) (Xi rfl<|yQ (zR (i:=1) sc.nd rfl<|EL rfl)<|yQ (zR (i:=2) sc.nd rfl<|EL rfl) jP)<|zE<|yI (xD<|zO (K:=K)<|zJ QU hr.m<|zA (pv 1)<|zA (pv 2) zC) (zE<|xF rfl yX rfl T.vo T.vy<|zA zz zC) zQ)<|zE<|uL<|xQ Ly rfl (Il<|v8<|pv 0) (zR (i:=1) sc.nd rfl<|EL rfl)<|zE<|yI (zO (K:=K)<|zK (OF rfl) (by rfl) T.any PyProof.Rows.boot_any<|zA (qC (sc:=zG st) (N:=["files","path","lines"]) (N':=["folder","files"]) (src:=[none,some 0]) .a rfl rfl rfl (jW<|zJ Qv hr.m<|zA (pv 1) zC) (fun _ _ _ _=>(zR (i:=0) (show(["folder","files"]:Da).Nodup by decide +kernel) rfl (EL rfl))) (fun _ _ _ _=>qY) (fun _ _ _ _=>(yN (BU hr.units) (pv 0) (pv 1)<|by with_unfolding_all rfl))) zC) (zE<|xF rfl yX rfl T.vo T.vy<|zA zz zC) zQ),?_⟩
 rcases h with⟨d,hd,nd,kE⟩|⟨c,Dm,ps,rfl,hc,hp,df,pl,kQ,kE⟩
 ·refine⟨_,rfl,.inl ⟨v,"dict",d,_,rfl,hd,T.is<|by simp[kinds],_,rfl,?_⟩⟩;rw[nd,show(("dict":String)=="int")=false from rfl,Jp];exact Ur ⟨Uw 1,kE⟩
 ·refine⟨_,rfl,.inr ⟨c,"dict",Dm,_,rfl,.inl hc,T.kit _ (by simp[kinds]) _<|by simp[kinds],_,rfl,Ut ?_⟩⟩;refine⟨_,rfl,c,Dm,rfl,hc,fun s=>?_⟩;have kl:Dm.length=ps.length:=hp.length;have g:upd H c (.frz s<|.dK Dm) c=some (.frz s<|.dK Dm):=zB;have l:Off [c] H (upd H c<|.frz s<|.dK Dm):=z7;have r:=hp.tu hc l df;generalize e0:upd H c (.frz s<|.dK Dm)=S at g l r ⊢;have B:∀{n:Hp},zy S n->Off [c] H n:=fun{n} e b o nb eb=>e _ _<|l b o nb eb;refine⟨c,s,Dm,rfl,g,Bp (fun i C n=>∃J L,C=[some<|.ref c,J,L]/\zy S n/\(ps.take i).all BH=true) ⟨none,none,rfl,zy.refl _,rfl⟩ (fun i C n X ⟨_,_,_,G,_⟩=>G _ _ g) ?_ ?_⟩
  ·rintro i k v T0 C n X ⟨J,L,rfl,G,U⟩ nT;obtain⟨d,O,h2,h3,h4⟩:=(r.same G).get X;have uT:=zF (o:=.tup [kV k,v]) nT;refine⟨T0,_,rfl,xg.of zB,rfl,_,_,rfl,_,_,rfl,rfl,?_⟩;refine⟨_,rfl,_,rfl,FC k,d,_,_,rfl,RV k,Dw.same uT _ _ h2,h3,h4,fun R s3=>⟨_,rfl,?_⟩⟩;have t3:=(G.trans uT).trans s3;cases q:(UA (FC k)&&xP d) with
   |true =>
    refine Ut ⟨_,_,rfl,t3,?_⟩;rw[Yk,O,Vf,U];show(BH (k,d)&&true)=true;rwa[Bool.and_true]
   |false =>
    refine Ur ⟨Uw 1,kE ?_ _<|B t3⟩;unfold UM;have:ps.all BH=false:=by
     rw[Z0];intro z;have:=ZA.mp z (k,d)<|Zt O;rw[show BH (k,d)=false from q]at this;cases this
    rw[this];rfl
  ·rintro C n ⟨J,L,rfl,G,U⟩;rw[kl,ZJ]at U;refine⟨c,s,Dm,G _ _ g,fun o u z=>?_,?_⟩
   ·have z:H c=some (.frz o u):=z;rw[hc]at z;cases z
   subst e0;have e3:=kS hc G;have A:upd n c (.dK Dm) c=some (.dK Dm):=zB;generalize upd n c (.dK Dm)=R at e3 A ⊢;clear G g l r B;have ab:=hp.same e3;refine⟨_,rfl,c,Dm,rfl,A,fun s=>?_⟩;have g:upd R c (.frz s<|.dK Dm) c=some (.frz s<|.dK Dm):=zB;have l:Off [c] R (upd R c<|.frz s<|.dK Dm):=z7;have r:=ab.tu A l df;generalize e0:upd R c (.frz s<|.dK Dm)=S at g l r ⊢;have B:∀{n:Hp},zy S n->Off [c] H n:=fun{n} e b o nb eb=>e _ _<|l b o nb<|e3 _ _ eb;refine⟨c,s,Dm,rfl,g,IQ (fun i C Z=>∃J L,C=[some<|.ref c,J,L]/\zy S Z/\((ps.take i).all fun p=>!vC (ps.map (·.1)) p.1)=true) ⟨J,L,rfl,zy.refl _,rfl⟩ (fun i C Z X ⟨_,_,_,I,_⟩=>I _ _ g) ?_ ?_⟩
   ·rintro i k v C Z X ⟨J,L,rfl,I,t⟩;obtain⟨d,O,h2,h3,h4⟩:=(r.same I).get X;have hf:=ZA.mp U (k,d)<|Zt O;unfold BH at hf;rw[Zk]at hf;cases k with
    |inl j=>cases hf.1
    |inr x =>
     have xl:x.length<=1000:=Zx h3;refine⟨_,rfl,x,rfl,xl,fun lp H5 s5 Y=>?_⟩;have fl:(UU x).length<=1000:=by
      unfold UU;rw[Za,Yv];have:=vO x;lia
     refine⟨lp,rfl,⟨_,Y⟩,vA (K:=K) (a:=lp) (xs:=(UU x).map V.str) (fun i ys D H6=>∃o,D=[o,some<|.ref c]/\zy H5 H6/\ys=(((UU x).take i).map fun f=>GQ (.inr f) (ps.map (·.1))).map V.bl) ⟨none,rfl,zy.refl _,rfl⟩ (zp (by rw[Za];lia)) ?_ ?_ ?_⟩
     ·rintro i ys D H6 ah ⟨o,rfl,M,rfl⟩;refine⟨M.seq Y,?_⟩;rw[Za,Za,ZG];lia
     ·rintro i y ys D H6 hy ⟨o,rfl,M,rfl⟩;rw[Zs]at hy;obtain⟨z,q,rfl⟩:=ZS.mp hy;refine⟨_,rfl,_,rfl,c,_,rfl,RP (k:=.inr z)<|((I.trans s5).trans M) _ _ g,_,rfl,M,?_⟩;rw[Rw,hp.keys,yP q,Zo];rfl
     ·rintro ys D H6 ⟨o,rfl,M,rfl⟩ p np;refine⟨p,_,rfl,xx.of zB,_,rfl,?_⟩;rw[Za,ZJ,List.any_map];have t6:=((I.trans s5).trans M).trans (zF (o:=.lst (((UU x).map fun f=>GQ (.inr f) (ps.map (·.1))).map V.bl)) np);cases q:vC (ps.map (·.1)) (.inr x) with
      |true =>
       have q':(UU x).any (id∘fun f=>GQ (.inr f) (ps.map (·.1)))=true:=q;rw[q'];refine Ur ⟨Uw 1,kE ?_ _<|B t6⟩;unfold UM;have:(ps.all fun p=>!vC (ps.map (·.1)) p.1)=false:=by
        rw[Z0];intro z;have:=ZA.mp z (.inr x,d)<|Zt O;rw[show vC (ps.map (·.1)) (Ev x,d).1=true from q]at this;cases this
       rw[this,Jp]
      |false =>
       have q':(UU x).any (id∘fun f=>GQ (.inr f) (ps.map (·.1)))=false:=q;rw[q'];refine Ut ⟨_,_,rfl,t6,?_⟩;rw[Yk,O,Vf,t];show((!vC (ps.map (·.1)) (.inr x))&&true)=true;rw[q];rfl
   ·rintro C Z ⟨J,L,rfl,I,t⟩;rw[kl,ZJ]at t;refine⟨c,s,Dm,I _ _ g,fun o u z=>?_,?_⟩
    ·have z:H c=some (.frz o u):=z;rw[hc]at z;cases z
    subst e0;refine kQ ?_ _<|e3.trans<|kS A I;unfold UM;rw[U,t];rfl
end AK
namespace AL
abbrev st:Stmt:=top 48
theorem sc:zx ["shelf","files"] ["shelf","files"] (zG st):=Co
include T in
theorem ok (F:xf0 K "keep_files" st f fd)(n:wk P w K mg base 5 "need_files" ["files"]<|pM K b2)(p:xj P w K mg base 12 "put_files" ["shelf","files"]<|GA P w K aC 4):yx P w K mg base (Cw P w) 13 f fd ["shelf","files"] (rD P w K aC b2):=by
 refine F.qm sc fun _ _ _ _ H t Q E j h=>?_;obtain⟨a,v,rfl,h⟩:=h;refine⟨_,(zD (yD<|yE n j.m zX<|zA (pv 1) zC)<|zE<|zM<|zJ p j.m<|zA (pv 0)<|zA (pv 1) zC),?_⟩
 rcases h with⟨c,fp,S,fs,Dm,rfl,sh,ok,hc,nc,ff,gf,fl,sl,k⟩|h|⟨c,Dm,ps,rfl,hc,hp,df,pl,gb,k⟩
 ·refine⟨_,rfl,_,rfl,.inr ⟨c,Dm,SY fs,rfl,hc,F3 (Zg 4) (fun f q=>BP (Zg 4) gf q) ff,OZ,by unfold SY;rw[Za];lia,fun _ s d=>?_,fun z=>by rw[O0 gf]at z;cases z⟩⟩;exact⟨_,rfl,_,rfl,a,c,fp,S,fs,Dm,rfl,sh.same d,ok,d _ _ hc,nc,ff.same d,gf,fl,sl,fun l g i=>k l (fun b o r e=>g b o r<|d _ _ e) i⟩
 ·exact⟨_,rfl,_,rfl,.inl h⟩
 ·exact⟨_,rfl,_,rfl,.inr ⟨c,Dm,ps,rfl,hc,hp,df,pl,(fun z=>by rw[gb]at z;cases z),fun _=>k⟩⟩
end AL
end
inductive nH (P:Ej)(w:Ep)(K:Cc)(C:Ei)(vs:Dj)(H:Hp)(Q:VK)(e3:XK):Prop
 |mk (a:Ei) (fp:Dd) (S:Di) (d:Ek) (v:V) (f:Str) (h0:vs=[.ref a,v,.str f]) (h1:yq P w K C H a fp S) (h2:(∀e∈S,By e)) (h3:Dw K H d v) (h4:Q (.bl<|Uy S d f) H):nH P w K C vs H Q e3
inductive vq (P:Ej)(w:Ep)(K:Cc)(C aN:Ei)(vs:Dj)(H:Hp)(Q:VK)(E:XK):Prop
 |mk (a:Ei) (fp:Dd) (S:Di) (d:Ek) (v:V) (h0:vs=[.ref a,v]) (h1:yq P w K C H a fp S) (h2:(∀e∈S,By e)) (h3:Dw K H d v) (h4:(Uy S d "tree"=true->Q .non H)) (h5:(Uy S d "tree"=false->E (.ref aN) none H)):vq P w K C aN vs H Q E
def jK (P:Ej)(w:Ep)(K:Cc)(C:Ei):Nat->Sp
 | 0=>fun _ _ _ _=>False
 |d+1=>fun n H Q _=>∃(a:Ei) (l:Dd) (S:Di) (x g:Str) (j:Dg),n=[.ref a,.str x,.str g]/\yq P w K C H a l S/\yd S/\Tree (d+1) S x/\At S x (.tree j)/\(zu (d+1) S x).length<=63/\(∀f∈zu (d+1) S x,UN f.2)/\g.length+10*(d+1)<=1000 /\
  ∀e i b,zy H b->H e=none->b e=some (.dK i)->rQ K b g (zu (d+1) S x) i->Q (.ref e) b
inductive tE (P:Ej)(w:Ep)(K:Cc)(C aN:Ei)(vs:Dj)(H:Hp)(Q:VK)(E:XK):Prop
 |mk (a:Ei) (fp:Dd) (S:Di) (d:Ek) (v:V) (h0:vs=[.ref a,v]) (h1:yq P w K C H a fp S) (h2:yd S) (h3:Dw K H d v) (h4:((∃x Do,d=.str x/\v=.str x/\At S x (.tree Do)/\Tree 5 S x/\(zu 5 S x).length<=63/\(∀f∈zu 5 S x,UN f.2)/\∀e Dm H',zy H H'->H e=none->H' e=some (.dK Dm)->xr K H' (zu 5 S x) Dm->Q (.ref e) H') \/ (Uy S d "tree"=false/\E (.ref aN) none H))):tE P w K C aN vs H Q E
theorem WH {Do:Dg}(h:At S x<|.tree Do):Uy S (.str x) "tree"=true:=by
 obtain⟨e,b,rfl,hd⟩:=h;refine Z2.mpr ⟨e,b,?_⟩;rw[Zk,ZC,ZC,qJ hd];exact⟨rfl,Zb.mpr rfl⟩
theorem OW {K:Cc}{xs:Dj}{g:TG}{e:TS}{D:Ends}{b:St}{H:Hp}(d:Nat->St->Hp->Prop)(f:d 0 b H)(hl:∀i b H,i<=xs.length->d i b H->xg K H a xs)
  (j:∀i x b H,xs[i]?=some x->d i b H->∀D':Ends,(∀b H,d (i+1) b H->D'.nx b H)->g x b H fun σ2 H2=>e D' σ2 H2) (hd:∀b H,d xs.length b H->D.nx b H) :
  ∃W:Nat->Nat->St->Hp->Prop,(∃m,W 0 m b H)/\∀i m b H,W i m b H ->
   ((Rz K a).stop i H/\D.nx b H)\/((Rz K a).go i H/\∃N:St->Hp->Prop,(∀σ' H',N σ' H'->∃m',m'<m/\W (i+1) m' σ' H')/\∀x H',(Rz K a).nR i H x H'->g x b H' fun σ2 H2=>e { D with nx:=N,ct:=N,bk:=D.nx } σ2 H2) :=
 X8 d f hl (fun i x b H h p=>j i x b H h p _ fun _ _ h=>h) hd
section
variable {P:Ej}{w:Ep}{K:Cc}{mg:Str->Dc}{base:EB}{t1 t2 t3 t4 t5 t6 t7:Tok}{aL aC aN aT aA b1 b2 b3 b4 b5 b6:Ei}(T:Txt P w K mg t1 t2 t3 t4 t5 t6 t7 aL aC aN aT aA b1 b2 b3 b4 b5 b6)
theorem No {X:Dd}{xs:Dj}(n:∀b∈X,∀xs,¬Rd H b (.tup xs))(o:Off X H H')(h:xg K H c xs):xg K H' c xs:=by
 rcases h with h|h
 ·have ne:c∉X:=fun z=>n c z xs h
  rcases h with h|⟨u,h⟩
  ·exact .inl (.inl<|o _ _ ne h)
  ·exact .inl (.inr ⟨u,o _ _ ne h⟩)
 ·exact .inr h
theorem vR (g:yd S){x:Str}{t:Th}(h:At S x t){e:En}(i:e∈S)(b:(EI x)=.str e.nm):e.d=t.dat:=by
 obtain⟨f,j,fn,l⟩:=h;have:f.nm=e.nm:=by rw[fn];injection b
 rwa[←CP g.good.nn j i this]
theorem BW {Do:Dg}{t:Ei}(h:Dt K H (Th.tree Do).dat<|.ref t):∃c rs,xg K H t [V.str "tree",V.ref c]/\xg K H c rs/\za K H (Do.map zm) rs:=by
 obtain⟨p,q,e,i,x,r,f,b,y,o,g,j,d⟩:=h;cases e;obtain⟨c,rs,rfl,l,n⟩:=j;have b:x=V.str "tree":=b;have d:o=[]:=d;subst f g b d;exact⟨c,rs,i,l,n⟩
theorem R0 {ls:Da}{t:Ei}(h:Dt K H (Th.leaf ls).dat<|.ref t):∃v,xg K H t [V.str "leaf",v]/\Dt K H (AnJ.yh ls) v:=by
 obtain⟨n,o,e,i,x,r,f,b,y,l,g,j,d⟩:=h;cases e;have b:x=V.str "leaf":=b;have d:l=[]:=d;subst f g b d;exact⟨y,i,j⟩
theorem Rf {Do:Dg}(h:za K H (Do.map zm) rs){i:Nat}{v:V}(e:rs[i]?=some v):∃r c,Do[i]?=some r/\v=.ref c/\xg K H c [V.str r.1,V.str r.2]:=by
 obtain⟨d,hd,p⟩:=h.get e;rw[Zs]at hd;obtain⟨r,o,rfl⟩:=ZS.mp hd;obtain⟨c,t,rfl,n,x,s,j,b,y,q,l,f,g⟩:=p;have b:x=V.str r.1:=b;have f:y=V.str r.2:=f;have g:q=[]:=g;subst j l b f g;exact⟨r,c,o,rfl,n⟩
theorem OX (h:Uy S d f=true):∃x,d=.str x/\zS S x [f]=true/\x∈S.map En.nm:=by
 cases d with
 |str x =>
  have h:zS S x [f]=true:=h;refine⟨x,rfl,h,?_⟩
  rcases Mg (x∈S.map En.nm) with z|z
  ·exact z
  ·rw[kY z]at h;cases h
 |none=>cases h
 |bool b=>cases h
 |int i=>cases h
 |list ds=>cases h
 |tuple ds=>cases h
 |dict Dm=>cases h
namespace AM
abbrev st:Stmt:=top 44
theorem sc:zx ["store","name","form"] ["store","name","form"] (zG st):=Co
include T in
theorem ok (F:xf0 K "names_form" st f fd)(y:Met P w K mg base aC 2 "has" ["self","name"]<|nZ P w K aC)(u:sU P w K mg base aC 4 "thing" ["self","name"]<|vf P w K aC aN):yx P w K mg base Cn 5 f fd ["store","name","form"] (nH P w K aC):=by
 refine F.ok sc fun _ _ _ _ H vs Q E p h=>?_;obtain⟨a,l,S,d,v,g,rfl,sh,th,hd,k⟩:=h;refine⟨_,(zE<|zM<|y8 (X9 (pv 0) T.cls y p.m<|zA (pv 1) zC)<|x8<|yN xJ (yM (yp:Cq _<|wQ K) (yZ (pv 0) T.cls u p.m z9<|zA (pv 1) zC) zH) (pv 2)<|zV _),?_⟩;obtain⟨D,b,L,M,N,ts,nx,C,nd,n,O,R,U,X,Y,Z,h8,h9⟩:=id sh;refine⟨_,rfl,a,b,_,rfl,n,rfl,_,rfl,a,l,S,d,v,rfl,sh,hd,X4 S d,rfl,?_⟩;cases q:X4 S d with
 |false =>
  refine Ut ?_;have:Uy S d g=false:=by
   cases e:Uy S d g with
   |false=>rfl
   |true =>
    obtain⟨x,rfl,_,I⟩:=OX e;rw[show X4 S (.str x)=decide (x∈S.map En.nm) from rfl,Ze I]at q;cases q
  rw[this]at k;exact k
 |true =>
  refine Ur ⟨_,rfl,a,b,_,rfl,n,rfl,_,rfl,a,l,S,d,v,rfl,sh,hd,fun e o B t s=>?_,fun z=>by rw[q]at z;cases z⟩;obtain⟨J,i,_⟩:=th e o;rw[i]at s;obtain⟨c,r,A,G⟩:=vQ s;cases A;refine⟨t,_,_,_,rfl,rfl,G,y7 (j:=0) rfl,_,rfl,rfl,?_⟩;subst B;have:Uy S (.str e.nm) g=decide (V.str J.word=V.str g):=by
   show zS S e.nm [g]=_;rw[MM D o,qJ i,Z4,ZC,ZC,Zb,V.str.injEq]
  rw[this]at k;exact k
end AM
namespace AN
abbrev st:Stmt:=top 45
theorem sc:zx ["store","root"] ["store","root"] (zG st):=Co
include T in
theorem ok (F:xf0 K "need_root" st f fd)(b:xj P w K mg base 5 "names_form" ["store","name","form"]<|nH P w K aC):yx P w K mg base (Cw P w) 6 f fd ["store","root"] (vq P w K aC aN):=by
 refine F.qm sc fun _ _ _ _ H l Q E g h=>?_;obtain⟨a,e,S,d,v,rfl,sh,th,hd,i,j⟩:=h;refine⟨_,(zE<|yI (xD<|zO (K:=K)<|zJ b g.m<|zA (pv 0)<|zA (pv 1)<|zA zz zC) (zE<|xF rfl yX rfl T.pP T.pU<|zA zz zC) zQ),?_⟩
 refine⟨_,rfl,_,rfl,a,e,S,d,v,"tree",rfl,sh,th,hd,_,rfl,?_⟩;cases q:Uy S d "tree" with
 |false=>exact XT ⟨Uw 1,j q⟩
 |true=>exact Gw<|i q
end AN
namespace AO
abbrev st:Stmt:=top 51
theorem sc:zx ["store","tree","ahead","files","label","name","thing"] ["store","tree","ahead"] (zG st):=Co
theorem step {L:Nat}(F:xf0 K "files_beneath" st f fd)(T:Txt P w K mg t1 t2 t3 t4 t5 t6 t7 aL aC aN aT aA b1 b2 b3 b4 b5 b6)(Qc:sU P w K mg base aC 4 "thing" ["self","name"]<|vf P w K aC aN)(hL:8<=L)(Qw:xj P w K mg base L "files_beneath" ["store","tree","ahead"]<|jK P w K aC d):yx P w K mg base Cn (L+1) f fd ["store","tree","ahead"] (jK P w K aC<|d+1):=by
 refine F.ok sc fun _ _ _ _ H vs Q E hr h=>?_;obtain⟨a,fp,S,x,ah,u,rfl,sh,ok,tr,at_,rl,rn,al,k⟩:=h;have hu:=Be hr;refine⟨_,(zD (Ck (i:=3) sc.nd xY)<|zD (xQ EO rfl (uI<|yM (yp:Cq _<|wQ K) (yZ (pv 0) T.cls Qc (hr.mono<|by lia) z9<|zA (pv 1) zC) zH) (Xi rfl<|yQ (zR (i:=4) sc.nd rfl<|EL rfl)<|yQ (zR (i:=5) sc.nd rfl<|EL rfl) jP)<|zD (Ck (i:=6) sc.nd<|yZ (pv 0) T.cls Qc (hr.mono<|by lia) z9<|zA (pv 5) zC)<|zE<|yI (zU xJ (yM (yp:Cq _<|wQ K) (pv 6) zH) zz<|zV _) (zE<|qO hu (pv 3) (zZ yC (pv 2)<|pv 4) (yM (yp:Cq _<|wQ K) (pv 6) zH) rfl)<|zE<|yD<|Sh (pv 3) (zJ Qw (hr.mono<|by lia)<|zA (pv 0)<|zA (pv 5)<|zA (zZ yC (zZ yC (pv 2)<|pv 4) zz) zC) ⟨rfl,rfl,rfl,rfl⟩)<|zE<|zM<|pv 3),?_⟩
 refine fun y D=>?_;have u0:=zF (o:=.dK []) D;have N:upd H y (.dK []) y=some (.dK []):=zB;generalize upd H y (.dK [])=H1 at u0 N ⊢;obtain⟨ix,i1,i2,i3,X⟩:=jT sh;have hx:X4 S (.str x)=true:=Ze at_.mem;refine⟨_,rfl,a,ix,_,rfl,u0 _ _ X,rfl,_,rfl,a,fp,S,.str x,_,rfl,sh.same u0,rfl,fun e he ed t ht=>?_,fun z=>by rw[hx]at z;cases z⟩;rw[vR ok at_ he ed]at ht;obtain⟨c,rs,a3,hc,ab⟩:=BW ht;have a8:(u.map (·.1)).Pairwise FN/\∀r∈u,zP r.1=true/\Tree d S r.2/\zu d S r.2≠[]:=by
  rcases tr with⟨ls,z⟩|⟨rows',z,h1,h2⟩
  ·cases z.thing ok at_
  ·cases z.thing ok at_;exact⟨h1,h2⟩
 have rd:zu (d+1) S x=u.flatMap (Cs d S):=xX ok at_;have rise:=(tr.rise ok).1;rw[rd]at rl rn rise k;have a7:rs.length=u.length:=by rw[za.length ab,Za]
 have nt:=zW N;refine⟨t,_,_,_,rfl,rfl,a3,rfl,c,rfl,⟨_,hc⟩,OW (K:=K) (a:=c) (xs:=rs) (fun i σ G=>∃o4 o5 o6 p,σ=[some<|.ref a,some<|.str x,some<|.str ah,some<|.ref y,o4,o5,o6]/\Off [y] H1 G/\G y=some (.dK p)/\rQ K G ah ((u.take i).flatMap<|Cs d S) p) ⟨none,none,none,[],rfl,Off.refl _ _,N,rQ.nil⟩ (fun i σ G _ h=>?_) ?_ ?_⟩
 ·obtain⟨_,_,_,_,_,j,_⟩:=h;exact No nt j hc
 ·rintro i v σ G hv ⟨o4,o5,o6,p,rfl,j,g,l⟩ D' hD;obtain⟨r,c',Y,rfl,a1⟩:=Rf ab hv;have sm:zy H G:=fun b o e=>j b o (fun z=>by rw[Zb.mp z,D]at e;cases e)<|u0 _ _ e;have as:=sh.same sm;have Z:=Zt Y;obtain⟨lb,s,b0⟩:=a8.2 r Z;have J:(u.take<|i+1).flatMap (Cs d S)=(u.take i).flatMap (Cs d S)++Cs d S r:=by rw[vz Y,List.flatMap_append,JW,List.flatMap_nil,ZK]
  have I:u.flatMap (Cs d S)=((u.take i).flatMap (Cs d S)++Cs d S r)++(u.drop<|i+1).flatMap (Cs d S):=by rw[←J,←List.flatMap_append,Z6]
  have nd:=RX (ah:=ah) rise;rw[I,Zo,Zo,Yo,Yo]at nd;have an:∀k∈(Cs d S r).map (fun f=>(.inr (ah++zc f.1):Key)),k∉p.map (·.1):=fun k hk z=>nd.1.2.2 k (by rwa[←l.keys]) k hk rfl;have kl:p.length+(Cs d S r).length<=63:=by
   have:=congrArg List.length I;rw[Zp,Zp]at this;have:=l.len;lia
  have inr:∀f∈Cs d S r,UN f.2:=fun f U=>rn f<|YC.mpr ⟨r,Z,U⟩;refine⟨c',_,rfl,No nt j a1,rfl,_,_,rfl,_,_,rfl,rfl,?_⟩;have a5:X4 S (.str r.2)=true:=Ze s.mem;refine⟨_,rfl,a,ix,_,rfl,sm _ _ X,rfl,_,rfl,a,fp,S,.str r.2,_,rfl,as,rfl,fun e2 R O t2 B=>?_,fun z=>by rw[a5]at z;cases z⟩;have ll:("/":Str).length=1:=by decide +kernel
  have bm:=(uz.mp lb).2.1;have a9:(ah++r.1).length=ah.length+r.1.length:=yr _ _;cases d with
  |zero=>exact absurd s<|fun z=>z
  |succ d =>
   rcases id s with⟨ls,atl⟩|⟨rows2,att,so2,hr2⟩
   ·rw[vR ok atl R O]at B;obtain⟨vv,C,a4⟩:=R0 B;have er:Cs (d+1) S r=[([r.1],ls)]:=by
     unfold Cs;rw[yG ok atl];rfl
    have am:UN ls:=inr ([r.1],ls) (by rw[er];exact Zb.mpr rfl);refine⟨_,rfl,t2,_,_,_,rfl,rfl,C,rfl,rfl,true,?_,Ur ?_⟩
    ·show V.bl (decide (V.str "leaf"=V.str "leaf"))=V.bl true;rw[Ze rfl]
    refine⟨_,rfl,t2,_,_,_,rfl,rfl,C,rfl,_,rfl,_,rfl,_,rfl,_,_,rfl,rfl,zp<|by lia,y,_,rfl,sY.k (k:=.inr<|ah++r.1) g<|xS<|by lia,hD _ _ ⟨_,_,_,p++[(.inr<|ah++r.1,vv)],rfl,?_,?_,?_⟩⟩
    ·exact j.trans z7
    ·rw[zB]
     congr 2
     refine kH<|an _ ?_;rw[er,Oy];exact Zb.mpr rfl
    ·rw[J,er];exact(l.off (zW g) z7).app (rQ.one (Dt.off (zW g) z7 _ _ (j3 am) a4) am)
   ·rw[vR ok att R O]at B;obtain⟨c2,b7,C,_,_⟩:=BW B;refine⟨_,rfl,t2,_,_,_,rfl,rfl,C,rfl,rfl,false,?_,Ut ?_⟩
    ·show V.bl (decide (V.str "tree"=V.str "leaf"))=V.bl false;rw[Zn (by intro z;injection z with z;exact absurd z<|by decide +kernel)]
    have a6:∀f∈zu (d+1) S r.2,f.1≠[]:=by
     rcases(s.rise ok).2 with⟨ls,z⟩|z
     ·rw[xX ok att]at z;have:(([],ls):Fi)∈rows2.flatMap (fun r=>(zu d S r.2).map fun f=>((r.1::f.1,f.2):Fi)):=by rw[z];exact Zb.mpr rfl
      obtain⟨r',_,U⟩:=YC.mp this;obtain⟨f',_,q⟩:=Zd.mp U;exact absurd (congrArg Prod.fst q)<|ZU _ _
     ·exact z
    have ar:(zu (d+1) S r.2).length<=63:=by
     have:(Cs (d+1) S r).length=(zu (d+1) S r.2).length:=Za ..;lia
    refine⟨_,rfl,y,rfl,.inl ⟨_,.inl g⟩,_,rfl,_,rfl,_,rfl,_,rfl,_,_,rfl,rfl,zp<|by lia,_,_,rfl,rfl,zp<|by lia,a,fp,S,r.2,ah++r.1++"/",rows2,rfl,as,ok,s,att,ar,fun f U=>inr (r.1::f.1,f.2)<|Zd.mpr ⟨f,U,rfl⟩,by
     rw[yr,yr,ll];lia,fun e3 n H3 s3 ap a2 a0=>?_⟩
    have M:=s3 _ _ g;have A:rQ K H3 ah (Cs (d+1) S r) n:=a0.deep a6;have pa:putAll p n=p++n:=uX (fun k hk=>an k<|by rwa[←A.keys]) (by rw[A.keys];exact nd.1.2.1);have l3:n.length=(Cs (d+1) S r).length:=A.len;refine⟨e3,p,n,rfl,(fun z=>by rw[←z,g]at ap;cases ap),M,.inl a2,zp<|by lia,hD _ _ ⟨_,_,_,p++n,rfl,?_,by rw[zB,pa],?_⟩⟩
    ·exact(j.trans<|Off.of s3).trans z7
    ·rw[J];exact((l.same s3).off (zW M) z7).app (A.off (zW M) z7)
 ·rintro σ G ⟨o4,o5,o6,p,rfl,j,g,l⟩;rw[a7,ZJ]at l;exact⟨_,rfl,k y p G (fun b o e=>j b o (fun z=>by rw[Zb.mp z,D]at e;cases e)<|u0 _ _ e) D g l⟩
theorem ok0 (F:xf0 K "files_beneath" st f fd):yx P w K mg base Cn 8 f fd ["store","tree","ahead"] (jK P w K aC 0) :=
 F.ok sc (fun _ _ _ _ _ _ _ _ _ h=>EE h) (fun _ _ _ _ h=>EE h)
include T in
theorem ok (F:xf0 K "files_beneath" st f fd)(e:sU P w K mg base aC 4 "thing" ["self","name"]<|vf P w K aC aN)(d:mg "files_beneath"=some (.ref f))(b:wW K fd ["store","tree","ahead"] []):yx P w K mg base Cn 13 f fd ["store","tree","ahead"] (jK P w K aC 5):=by
 have g:=xj.mk' F (ok0 (P:=P) (w:=w) (mg:=mg) (base:=base) (aC:=aC) F) d b;have i:=xj.mk' F (step F T e (by decide) g) d b;have j:=xj.mk' F (step F T e (by decide) i) d b;have l:=xj.mk' F (step F T e (by decide) j) d b;have n:=xj.mk' F (step F T e (by decide) l) d b;exact step F T e (by decide) n
end AO
namespace AQ
abbrev st:Stmt:=top 50
theorem sc:zx ["store","root"] ["store","root"] (zG st):=Co
include T in
theorem ok (F:xf0 K "files_of" st f fd)(n:wk P w K mg base 6 "need_root" ["store","root"]<|vq P w K aC aN)(o:xj P w K mg base 13 "files_beneath" ["store","tree","ahead"]<|jK P w K aC 5):yx P w K mg base (Cw P w) 14 f fd ["store","root"] (tE P w K aC aN):=by
 refine F.qm sc fun _ _ _ _ H t Q E i h=>?_;obtain⟨a,g,S,d,v,rfl,sh,ok,dw,h⟩:=h;refine⟨_,(zD (yD<|yE n i.m zX<|zA (pv 0)<|zA (pv 1) zC)<|zE<|zM<|zJ o i.m<|zA (pv 0)<|zA (pv 1)<|zA zz zC),?_⟩
 refine⟨_,rfl,_,rfl,a,g,S,d,_,rfl,sh,ok.th,dw,fun q=>?_,fun q=>?_⟩
 ·rcases h with⟨x,Do,rfl,rfl,at_,tr,rl,rn,k⟩|⟨z,_⟩
  ·have p:("":Str).length=0:=by decide +kernel
   exact⟨_,rfl,_,rfl,a,g,S,x,"",Do,rfl,sh,ok,tr,at_,rl,rn,by rw[p];decide,fun e j l s ne r b=>k e j l s ne r b.at⟩
  ·rw[z]at q;cases q
 ·rcases h with⟨x,Do,rfl,rfl,at_,_⟩|⟨_,kE⟩
  ·rw[WH at_]at q;cases q
  ·exact kE
end AQ
end
end An08
namespace AxS
open PySem PySem.Spec PyProof.Rows
section
variable {prog:Ej}{w:Ep}{A:ED}{E:Eh->Dh}{s:Em}
theorem G1:typeLookup (.type "tuple") "keys"=LC none:=by rw[Uk,Vx];kernel_rfl
theorem PB {a:Ei}{xs:Array Eh}{n:Nat}{p:Array Dc}{Q:Dc->Dh}(l:s.heap.get? a=some { cls:=.type "tuple",dict:=none,data:=.seq xs n,slots:=p })(q:A.handled=none)
  (h:∀h' tk,(∀b o,s.heap.get? b=some o->h'.get? b=some o)->Q none { s with heap:=h',toks:=tk }):El (Es prog w) A (getAttr? (.ref a) "keys") Q E s:=by
 obtain⟨r,g,d,tk,os⟩:=s;have j:∀f,(⟨r,g,d,f,os⟩:Em).TypeIs (.ref a) "tuple":=fun _=>⟨_,l,rfl⟩;have t:=sub_AttributeError;have u:=F.slot_tuple_getattribute.lookup;have v:=F.slot_tuple_getattribute.bind<|.ref a;have x:=am_tuple_getattr_none;unfold getAttr? getAttrBy? getAttrBy
 repeat (any_goals (first|assumption|exact j _|((with_reducible show El _ _ (call (Mj "tuple.__getattribute__") _ _) _ _ _);refine Vh F.slot_tuple_getattribute (j _) am_entry_tuple_getattribute (F.args_tuple_getattribute_2 _ _) (meets_getattribute_miss_tuple a xs n p "keys" _ G1<|by decide +kernel) ⟨l,q,fun h' f e i=>?_⟩)|wp_step))
 obtain⟨z,B,y⟩:=i.there;show El _ _ (getattributeRaised _ _ _ _ _ _ _) _ _ _;unfold getattributeRaised
 repeat (any_goals (first|assumption|wp_step))
 exact h h' f i.of.keeps
theorem F2 {d I l:Ei}{Dn:Array Eh}{Dm:List (L2.Key×Eh)}{R:Result->Dh}{res:Eh}(hh:A.in1.handled=none)(N:l≠I)(J:d≠I)(Y:d≠l)(hz:Dm.length<=sizeLine) :
  ∀(m i:Nat) (s:Em),Dn.size-i=m->i<=Dn.size->(s.heap.IsTupleIter I l i/\s.heap.IsTuple l Dn)->s.heap.DictOf (L2.zf prog w) d (merged []<|Dm.take i)->yw prog w s.heap Dn Dm ->
   (∀h' tk,h'.DictOf (L2.zf prog w) d (merged [] Dm)->(∀b o,b≠d->b≠I->s.heap.get? b=some o->h'.get? b=some o)->R (.ok<|.ret res) { s with heap:=h',toks:=tk }) ->
   LK (Es prog w) A (.builtin "dict.update.loop" ⟨[.ref d,.ref I,EX i,res],[]⟩) R s:=by
 have W:=Walks.tuple (prog:=prog) (w:=w) hh I l N Dn;intro m
 induction m with
 |zero =>
  intro i s hm hi st u H k;have Z:i=Dn.size:=by lia
  subst Z;refine YH XX ?_;rw[La jA _];show El _ A.in1 (LN (.ref I)>>=_) _ _ s;refine Q9<|W.done s _ _ st fun h' tk kp=>?_;rw[Jc (by rw[H.1];exact Zg _)]at u;refine Q9 (Zh<|Zh<|k h' tk (u.at fun o e=>kp d o (by simp[J]) e) fun b o y t e=>kp b o (by simp[t]) e)
 |succ m ih =>
  intro i s hm hi st u H k;have E:i<Dn.size:=by lia
  refine YH XX ?_;rw[La jA _];show El _ A.in1 (LN (.ref I)>>=_) _ _ s;refine Q9<|W.item i s _ _ E st fun v h' tk hv G kp=>?_;obtain⟨T,k1,key,x,rfl,M,hk,hx⟩:=H.2 i v hv;have TI:T≠I:=fun z=>by
   obtain⟨o,q,p,_⟩:=M;obtain⟨P,j,g,_⟩:=st.1;rw[z,j]at q;cases q;rw[g]at p;exact absurd p (by decide)
  have Td:T≠d:=fun z=>by
   obtain⟨o,q,p,_⟩:=M;obtain⟨P,_,_,j,g,_⟩:=u;rw[z,j]at q;cases q;rw[g.1]at p;exact absurd p (by decide)
  have K:h'.DictOf (L2.zf prog w) d (merged []<|Dm.take i):=u.at fun o e=>kp d o (by simp[J]) e;obtain⟨⟨oc,od,Q,S⟩,q,p,n1,D⟩:=id M;have f:h'.get? T=some ⟨oc,od,Q,S⟩:=kp T _ (by simp[TI]) q;simp only at p D;subst p D;dsimp only;refine Q9<|Yb<|Q9<|wpAny_tryCatch ?_;have ty:Ml { s with heap:=h',toks:=tk } (.ref T) "tuple":=⟨_,f,rfl⟩;unfold Builtin.Dict.pairItems;refine Q9<|J4 ty ?_;rw[Zy<|by decide];refine Q9 ?_;unfold seqItems?;dsimp only;refine Q9<|Uf (s:={ s with heap:=h',toks:=tk }) f<|Zh<|Zh ?_;dsimp only[Option.getD];refine Yb ?_;unfold dictSet;refine Yb<|Q9<|(L2.zf prog w).pyHash hk ?_;have ml:(merged ([]:List<|L2.Key×Eh)<|Dm.take i).length<=sizeLine:=by
   have:=merged_length_le ([]:List<|L2.Key×Eh)<|Dm.take i;rw[ZG]at this;simp at this;lia
  refine wpAny_dictSetHashed_pairs (hsz:=ml) hk K fun h2 B r=>?_;rw[←merged_take_succ [] Dm i (k1,x) hx]at B;refine Zh ⟨J9 jA _,?_⟩;rw[show((i:Nat):Int)+1=((i+1:Nat):Int) by push_cast;rfl];have F:∀b o,b≠d->b≠I->s.heap.get? b=some o->h2.get? b=some o:=fun b o y t e=>(r.2 b y).trans (kp b o (by simp[t]) e);refine ih (i+1) _ (by lia) E ⟨?_,?_⟩ B (H.at fun X o ⟨xs,C⟩ e=>F X o (fun z=>?_) (fun z=>?_) e) fun h3 U L O=>k h3 U L fun b o y t e=>O b o y t<|F b o y t e
  ·exact G.1.at fun o e=>(r.2 I J.symm).trans e
  ·exact G.2.at fun o e=>(r.2 l Y.symm).trans e
  ·obtain⟨o1,f,n,_⟩:=C;obtain⟨P,_,_,j,g,_⟩:=u;rw[z,j]at f;cases f;rw[g.1]at n;exact absurd n (by decide)
  ·obtain⟨o1,f,n,_⟩:=C;obtain⟨P,j,g,_⟩:=st.1;rw[z,j]at f;cases f;rw[g]at n;exact absurd n (by decide)
theorem GX {l:Ei}{Dn:Array Eh}{n:Nat}{Dm:List (L2.Key×Eh)}{Q:Eh->Dh}(C:A.handled=none){D:Array Dc}(hl:s.heap.get? l=some { cls:=.type "tuple",dict:=none,data:=.seq Dn n,slots:=D })(H:yw prog w s.heap Dn Dm)(hz:Dm.length<=sizeLine)
  (h:∀h' tk,h'.DictOf (L2.zf prog w) s.heap.objs.size (merged [] Dm)->(∀b o,s.heap.get? b=some o->h'.get? b=some o)->Q (.ref s.heap.objs.size) { s with heap:=h',toks:=tk }):El (Es prog w) A (call (.type "dict") [.ref l]) Q E s:=by
 refine callType_codes (Q₁:=fun obj i=>obj=.ref s.heap.objs.size/\i={ s with heap:=s.heap.push { cls:=.type "dict",data:=.dict #[] } }) F.kt_called_dict (F.kt_typeCall_dict_1 _) F.entry_dict_init (kt_code_dict_new _ ⟨rfl,rfl⟩) ?_;rintro obj i ⟨rfl,rfl⟩;have f:(s.heap.push { cls:=.type "dict",data:=.dict #[] }).DictOf (L2.zf prog w) s.heap.objs.size []:=Heap.DictOf.new s.heap;have u:l<s.heap.objs.size:=Zu hl;have j:(s.heap.push { cls:=.type "dict",data:=.dict #[] }).get? l=some { cls:=.type "tuple",dict:=none,data:=.seq Dn n,slots:=D }:=Zc _ hl;refine⟨f.typeIs,F.args_dict_init_2 _ _,?_⟩;unfold Builtin.«dict.__init__»;refine Q9 ?_;unfold Builtin.Dict.selfAndRest;refine Q9<|wpAny_notOrdered_dict f.typeIs ?_;show El _ _ (LC (s.heap.objs.size,[Eu l])) _ _ _;refine Zh ?_;show El _ _ (Builtin.Dict.updateFrom "dict.__init__" s.heap.objs.size (.ref l) [] .none) _ _ _;unfold Builtin.Dict.updateFrom;have B:Ml { s with heap:=s.heap.push { cls:=.type "dict",data:=.dict #[] } } (.ref l) "tuple":=⟨_,j,rfl⟩;refine Q9<|J4 B ?_;rw[Zy<|by decide];refine Q9 (PB (s:={ s with heap:=s.heap.push { cls:=.type "dict",data:=.dict #[] } }) j (by simp[C]) fun q y g=>?_);simp only[Option.isNone_none,↓reduceIte];refine Q9<|JK ?_;have r:q.IsTuple l Dn:=⟨_,g l _ j,rfl,n,rfl⟩;have p:s.heap.objs.size<q.objs.size:=by
  obtain⟨o,_,_,e,_⟩:=f;exact Zu<|g _ _ e
 refine Q9<|VS (s:={ s with heap:=q,toks:=y }) r ?_;refine Zh ⟨J9 jA _,?_⟩;have t:∀b o,s.heap.get? b=some o->(q.push { cls:=.type "tuple_iterator",data:=.fields #[.ref l,.int 0 0] }).get? b=some o:=fun b o e=>Zc _<|g b o<|Zc _ e;refine F2 (A:=A.in1) (d:=s.heap.objs.size) (I:=q.objs.size) (l:=l) (Dn:=Dn) (Dm:=Dm) (by simp[C]) (Zz<|Ug u p) (Zz p) (Y3 u) hz (Dn.size-0) 0 _ (by lia) (ZN _) ⟨⟨_,Zq _ rfl,rfl,rfl⟩,r.push _⟩ ?_ (H.at fun T o _ e=>t T o e) fun G z v x=>?_
 ·rw[List.take_zero];exact(f.at fun o e=>g _ o e).push _
 ·refine⟨rfl,h G z v fun b o e=>x b o (Zz<|Zu e) (Zz<|Ug (Zu e) p)<|t b o e⟩
end
end AxS
namespace L2
open PySem PySem.Spec PyProof.Rows AxS
section
variable {X:Cx}{K:Cc}
def Wa (K:Cc):Dj->Hp->VK->Prop:=fun e H Q=>∃(a:Ei) (d:Dj) (b:Dl),e=[.ref a]/\xg K H a d/\HK K H d b/\∀l,H l=none->Q (.ref l) (upd H l<|.dK<|putAll [] b)
theorem HN (t:X.calm=true)(p:X.K=K:=by rfl):xq X (.type "dict") (Wa K):=by
 subst p;intro F s R H P N Q I r h;obtain⟨a,vs,Dm,rfl,ha,pv,q⟩:=h;obtain⟨u,rfl,B⟩:=wX r;cases B;obtain⟨x,j,⟨⟨L,M,y,A⟩,e,b,n,d,f⟩,z⟩:=I.mW ha;simp only at b d f;subst b d f;obtain⟨D,g,len,all⟩:=IP I j pv;have O:=j.length;have J:Dm.length=D.length:=Paired.length g;refine GX (I.ok.hd t) e ⟨by rw[ZD];exact len,fun i v w=>all i v<|by simpa using w⟩ (by lia) fun G C l kp=>?_;have E:=q8 Dm [];exact⟨.ref s.heap.objs.size,_,I.laid (o:=.dK<|putAll [] Dm) (t':=C) kp (Zg _)<|XG (by rw[Ym]at E;lia) (YD.mpr<|Ey<|Zz I.big) (KV.putAll (Dm:=[]) (vs:=[]) .nil g) l,rfl,q _<|I.hok.fresh<|Zg _⟩
end
end L2
namespace An08
open PySem L2 An
seal L2.PS L2.sX L2.PE L2.PT L2.PW L2.PA L2.PG L2.pC L2.PI L2.oY L2.PC
inductive wA (P:Ej)(w:Ep)(K:Cc)(C:Ei)(vs:Dj)(H:Hp)(Q:VK)(e3:XK):Prop
 |mk (a:Ei) (fp:Dd) (S:Di) (x:Str) (Do:Dg) (h0:vs=[.ref a,.str x]) (h1:yq P w K C H a fp S) (h2:yd S) (h3:At S x<|.tree Do) (h4:(Do.map (·.1)).Nodup) (h5:∀l,H l=none->Q (.ref l) (upd H l<|.dK<|Cp Do)):wA P w K C vs H Q e3
inductive tD (P:Ej)(w:Ep)(K:Cc)(C aN b1:Ei)(vs:Dj)(H:Hp)(Q:VK)(E:XK):Prop
 |mk (a:Ei) (fp:Dd) (S:Di) (d e:Ek) (v u:V) (h0:vs=[.ref a,v,u]) (h1:yq P w K C H a fp S) (h2:yd S) (h3:Dw K H d v) (h4:Dw K H e u) (h5:small e=true) (h6:((∃x p d' Do,d=.str x/\v=.str x/\e=.str p/\u=.str p/\UC p=true/\At S x (.tree Do)/\Tree d' S x/\∀H',zy H H'->Q (oV<|atT S x<|Us p) H')\/(Uy S d "tree"=false/\E (.ref aN) none H)\/(Uy S d "tree"=true/\UA e=false/\∀H',zy H H'->E (.ref b1) none H'))):tD P w K C aN b1 vs H Q E
section
variable {P:Ej}{w:Ep}{K:Cc}{mg:Str->Dc}{base:EB}{t1 t2 t3 t4 t5 t6 t7:Tok}{aL aC aN aT aA b1 b2 b3 b4 b5 b6:Ei}(T:Txt P w K mg t1 t2 t3 t4 t5 t6 t7 aL aC aN aT aA b1 b2 b3 b4 b5 b6)
theorem Of {Do:Dg}(h:za K H (Do.map zm) rs):HK K H rs (Cp Do):=by
 have f:rs.length=Do.length:=by rw[za.length h,Za]
 refine⟨by unfold Cp;rw[Za];exact f,fun i x e=>?_⟩;obtain⟨r,c,d,rfl,b⟩:=Rf h e;exact⟨c,.inr r.1,.str r.2,rfl,b,by unfold Cp;rw[Zs,d];rfl⟩
theorem SF {Do:Dg}(nd:(Do.map (·.1)).Nodup):putAll [] (Cp Do)=Cp Do:=by
 rw[uX (Dm:=[])<|fun k _ z=>absurd z Z9]
 ·rfl
 ·rw[Hk];have:(Do.map fun p=>(.inr p.1:Key))=(Do.map (·.1)).map Sum.inr:=by rw[ZF];rfl
  rw[this];exact List.Pairwise.map _ (fun a b n e=>by cases e;exact n rfl) nd
theorem W7 {l:Da}(h:l.Pairwise FN):l.Nodup:=Z8.mpr<|h.imp fun{a b} z=>FO z
namespace AR
abbrev st:Stmt:=top 46
theorem sc:zx ["store","tree"] ["store","tree"] (zG st):=Co
include T in
theorem ok (F:xf0 K "rows_of" st f fd)(n:sU P w K mg base aC 4 "thing" ["self","name"]<|vf P w K aC aN):yx P w K mg base Cn 5 f fd ["store","tree"] (wA P w K aC):=by
 refine F.ok sc fun _ _ _ _ H D Q E s h=>?_;obtain⟨a,p,S,x,j,rfl,sh,ok,at_,nd,k⟩:=h;refine⟨_,(zE<|zM<|yK (HN (K:=K) rfl) (by rfl) T.dict Jd<|zA (yM (yp:Cq _<|wQ K) (yZ (pv 0) T.cls n s.m z9<|zA (pv 1) zC) zH) zC),?_⟩;obtain⟨v,A,B,C,b⟩:=jT sh;have u:X4 S (.str x)=true:=Ze at_.mem;refine⟨_,rfl,a,v,_,rfl,b,rfl,_,rfl,a,p,S,.str x,_,rfl,sh,rfl,fun e r o t i=>?_,fun z=>by rw[u]at z;cases z⟩;rw[vR ok at_ r o]at i;obtain⟨c,y,g,q,d⟩:=BW i;refine⟨t,_,_,_,rfl,rfl,g,rfl,c,y,Cp j,rfl,q,Of d,fun l nl=>?_⟩;rw[SF nd];exact k l nl
end AR
namespace AS
abbrev st:Stmt:=top 52
theorem sc:zx ["store","root","path","name","label"] ["store","root","path"] (zG st):=Co
include T in
theorem ok (F:xf0 K "found_at" st f fd)(Qj:wk P w K mg base 6 "need_root" ["store","root"]<|vq P w K aC aN)(Qk:wk P w K mg base 3 "labels_of" ["path"]<|tM K b1)(Qf:xj P w K mg base 5 "names_form" ["store","name","form"]<|nH P w K aC)(Qb:xj P w K mg base 5 "rows_of" ["store","tree"]<|wA P w K aC):yx P w K mg base (Cw P w) 7 f fd ["store","root","path"] (tD P w K aC aN b1):=by
 refine F.qm sc fun _ _ _ _ H vs Q E t h=>?_;obtain⟨a,J,S,d,e,v,u,rfl,sh,ok,dw,ew,sm,h⟩:=h;refine⟨_,(zD (yD<|yE Qj t.m zX<|zA (pv 0)<|zA (pv 1) zC)<|zD (Ck (i:=3) sc.nd<|pv 1)<|zD (xQ Ly rfl (jW<|yE Qk t.m zX<|zA (pv 2) zC) (zR (i:=4) sc.nd rfl<|EL rfl)<|zD (yI (xD<|zO (K:=K)<|zJ Qf t.m<|zA (pv 0)<|zA (pv 3)<|zA zz zC) (zE<|zM k9) zQ)<|zE<|Ck (i:=3) sc.nd<|PN t.sW (zJ Qb t.m<|zA (pv 0)<|zA (pv 3) zC) (pv 4) ⟨rfl,rfl,rfl,rfl⟩)<|zE<|zM<|pv 3),?_⟩
 refine⟨_,rfl,_,rfl,a,J,S,d,_,rfl,sh,ok.th,dw,fun q=>?_,fun q=>?_⟩
 rotate_left
 ·rcases h with⟨x,p,d',Do,rfl,rfl,rfl,rfl,_,at_,_⟩|⟨_,kE⟩|⟨z,_⟩
  ·rw[WH at_]at q;cases q
  ·exact kE
  ·rw[z]at q;cases q
 refine⟨_,rfl,_,rfl,e,_,rfl,ew,sm,fun R ex M l U A hl=>?_,fun z U A=>?_⟩
 rotate_left
 ·rcases h with⟨x,p,d',Do,rfl,rfl,rfl,rfl,hp,_⟩|⟨y,_⟩|⟨_,_,kE⟩
  ·rw[show UA (.str p)=UC p from rfl,hp]at z;cases z
  ·rw[y]at q;cases q
  ·exact kE _ A
 rcases h with⟨x,p,d,Do,rfl,rfl,rfl,rfl,hp,at_,tr,k⟩|⟨y,_⟩|⟨_,y,_⟩
 rotate_left
 ·rw[y]at q;cases q
 ·rw[ex,show UA (.str R)=UC R from rfl,M]at y;cases y
 have ex:p=R:=by injection ex
 subst ex;have lc:=vO p;refine⟨l,rfl,⟨_,hl⟩,uA (K:=K) (a:=l) (xs:=(Us p).map V.str) (fun i I s=>∃O nm,I=[some<|.ref a,some<|.str x,some<|.str p,some<|oV nm,O]/\zy U s/\nm=((Us p).take i).foldl (wu S) (some x)/\∀n,nm=some n->∃e,Tree e S n) ⟨none,some x,rfl,zy.refl _,rfl,fun n hn=>⟨d,by cases hn;exact tr⟩⟩ (fun i I s _ h=>?_) ?_ ?_⟩
 ·obtain⟨_,_,_,g,_⟩:=h;exact g.seq hl
 ·rintro i v I s Y ⟨O,nm,rfl,g,G,X⟩;rw[Zs]at Y;obtain⟨b,L,rfl⟩:=ZS.mp Y;have B:((Us p).take<|i+1).foldl (wu S) (some x)=wu S nm b:=by rw[vz L,YT,←G];rfl
  have j:atT S x (Us p)=((Us p).drop<|i+1).foldl (wu S) (wu S nm b):=by
   unfold atT;rw[←B,←YT,Z6]
  refine⟨_,rfl,_,rfl,a,J,S,N7 nm,oV nm,"tree",rfl,sh.same<|A.trans g,ok.th,by cases nm<;>rfl,_,rfl,?_⟩;have D:wu S nm b=none->Q .non s:=fun z=>by
   rw[z,Xx]at j;rw[j]at k;exact k s<|A.trans g
  cases nm with
  |none=>exact XT<|D rfl
  |some n =>
   rcases IW ok n with⟨q1,rows',at'⟩|⟨q1,no⟩
   ·rw[show Uy S (N7<|some n) "tree"=Uy S (.str n) "tree" from rfl,q1];obtain⟨e,Z⟩:=X n rfl;have C:(rows'.map (·.1)).Nodup/\∀r∈rows',∃e,Tree e S r.2:=by
     cases e with
     |zero=>exact absurd Z<|fun z=>z
     |succ e =>
      rcases Z with⟨ls,z⟩|⟨rows2,z,h1,h2⟩
      ·cases z.thing ok at'
      ·cases z.thing ok at';exact⟨W7 h1,fun r t=>⟨e,(h2 r t).2.1⟩⟩
    refine Gw ⟨_,rfl,_,rfl,a,J,S,n,rows',rfl,sh.same<|A.trans g,ok,at',C.1,fun l2 N=>?_⟩;have u2:=zF (o:=.dK<|Cp rows') N;refine⟨l2,rfl,.inl ⟨_,.inl zB⟩,_,rfl,_,vg.k (k:=.inr b) zB,?_⟩;have ev:((Uu (Cp rows')<|.inr b).getD .non)=oV (wJ rows' b):=by
     rw[v5];cases wJ rows' b<;>rfl
    rw[ev];refine⟨_,wJ rows' b,rfl,g.trans u2,by rw[B,uC ok at'],fun m hm=>?_⟩;exact C.2 _<|jR hm
   ·rw[show Uy S (N7<|some n) "tree"=Uy S (.str n) "tree" from rfl,q1];exact XT<|D<|Hv no b
 ·rintro I s ⟨O,nm,rfl,g,G,X⟩;rw[Za,ZJ]at G;refine⟨_,rfl,?_⟩;rw[show nm=atT S x (Us p) from G];exact k s<|A.trans g
end AS
end
end An08
namespace An
open PySem L2 AnJ
structure wZ (d:Nat)(S:Di)(Do:Dg):Prop where
 nd:(Do.map (·.1)).Nodup
 at_:∀r∈Do,zP r.1=true/\Tree d S r.2/\zu d S r.2≠[]
noncomputable def Ce (d:Nat)(S:Di)(Do:Dg):Dk:=Do.flatMap fun r=>(zu d S r.2).map fun f=>(r.1::f.1,f.2)
theorem zj {f:Fi}:f∈Ce d S Do↔∃r∈Do,∃g∈zu d S r.2,f=(r.1::g.1,g.2):=by
 unfold Ce;rw[YC];constructor
 ·rintro⟨r,i,h⟩;obtain⟨g,b,e⟩:=Zd.mp h;exact⟨r,i,g,b,e.symm⟩
 ·rintro⟨r,i,g,b,rfl⟩;exact⟨r,i,Zd.mpr ⟨g,b,rfl⟩⟩
section
variable {d:Nat}{S T:Di}{Do:Dg}
theorem wZ.more (g:yd<|S++T)(e:yd S)(h:wZ d S Do):wZ d (S++T) Do/\Ce d (S++T) Do=Ce d S Do:=by
 refine⟨⟨h.nd,fun r b=>?_⟩,?_⟩
 ·obtain⟨a,t,n⟩:=h.at_ r b;obtain⟨i,f⟩:=t.more g e;exact⟨a,i,by rw[f];exact n⟩
 ·unfold Ce;rw[Jj,Jj]
  congr 1
  exact Z1 fun r b=>by rw[((h.at_ r b).2.1.more g e).2]
theorem SH {rs:Dg}(h:(rs.map (·.1)).Pairwise FN):(rs.map (·.1)).Nodup:=Z8.mpr<|h.imp fun{a b} z=>FO z
theorem Tree.wz (g:yd S){x:Str}(t:Tree (d+1) S x)(a:At S x<|.tree Do):wZ d S Do/\zu (d+1) S x=Ce d S Do:=by
 rcases t with⟨ls,z⟩|⟨rows2,z,so,hr⟩
 ·cases z.thing g a
 ·cases z.thing g a;exact⟨⟨SH so,hr⟩,xX g a⟩
structure kh (d:Nat)(S:Di)(Do:Dg)(p:List En×Str):Prop where
 ok:yd p.1
 new:∃T,p.1=S++T/\∀e∈T,e.nm=p.2
 at_:At p.1 p.2<|.tree<|Uv Do
 tree:Tree (d+1) p.1 p.2
 rd:∀f,f∈zu (d+1) p.1 p.2↔f∈Ce d S Do
 len:p.1.length<=S.length+1
theorem wZ.put (g:yd S)(h:wZ d S Do)(hl:Do.length<=63)(ls:S.length<2000):kh d S Do (Cf S<|.tree<|Uv Do):=by
 have t:Fo d S S Do (Do.map fun r=>(r.1,zu d S r.2)):=⟨g,⟨[],(ZK _).symm,fun e v=>(nomatch v)⟩,by rw[ZF];rfl,fun i r p n j=>by
  rw[Zs,n]at j;cases j;exact⟨(h.at_ r<|Zt n).2.1,fun f=>Iff.rfl⟩⟩
 obtain⟨q,x⟩:=t.put hl (by rw[ZF];exact h.nd) (fun p j=>by
  obtain⟨r,b,rfl⟩:=Zd.mp j;exact⟨(h.at_ r b).1,(h.at_ r b).2.2⟩) ls
 have o:∀{r},r∈Uv Do↔r∈Do:=(z5 Do).mem_iff;have gt:(Th.tree<|Uv Do).Good:=Ij g (by rwa[(z5 Do).length_eq]) fun r b=>⟨(h.at_ r<|o.mp b).1,(h.at_ r<|o.mp b).2.1.mem⟩;obtain⟨ok,l,w,T,s,u⟩:=jE g gt ls;refine⟨ok,⟨T,s,u⟩,l,q.tree,fun f=>?_,w⟩;rw[q.rd];unfold Ce;rw[Ua]
end
def UI (Do:Dg)(l n:Str):Dg:=if l∈Do.map (·.1) then Do.map (fun r=>if r.1=l then(l,n) else r) else Do++[(l,n)]
theorem Oh (Do:Dg)(l n:Str):(UI Do l n).map (·.1)=if l∈Do.map (·.1) then Do.map (·.1) else Do.map (·.1)++[l]:=by
 unfold UI
 split
 ·rw[ZF];refine Z1 fun r _=>?_;show(if r.1=l then(l,n) else r).1=r.1
  split
  ·rename_i z;exact z.symm
  ·rfl
 ·rw[Zo];rfl
theorem wM {r:Str×Str}:r∈UI Do l n↔(r∈Do/\r.1≠l)\/r=(l,n):=by
 unfold UI
 split
 ·rename_i z;rw[Zd];constructor
  ·rintro⟨k,hk,e⟩
   split at e
   ·exact .inr e.symm
   ·rename_i q;subst e;exact .inl ⟨hk,q⟩
  ·rintro(⟨b,q⟩|rfl)
   ·exact⟨r,b,Zr q⟩
   ·obtain⟨k,hk,e⟩:=Zd.mp z;exact⟨k,hk,Zy e⟩
 ·rename_i z;rw[ZB,Zb];constructor
  ·rintro(h|h)
   ·exact .inl ⟨h,fun q=>z<|Zd.mpr ⟨r,h,q⟩⟩
   ·exact .inr h
  ·rintro(h|h)
   ·exact .inl h.1
   ·exact .inr h
theorem Ho (Do:Dg)(l n:Str):(UI Do l n).length<=Do.length+1:=by
 unfold UI
 split
 ·rw[Za];exact Je _
 ·rw[Zp];exact Zg _
theorem BY {Do:Dg}(h:(Do.map (·.1)).Nodup):((UI Do l n).map (·.1)).Nodup:=by
 rw[Oh]
 split
 ·exact h
 ·rename_i z;exact jX h z
theorem q9 (Do:Dg)(l n:Str):(l,n)∈UI Do l n:=wM.mpr<|.inr rfl
theorem Nj (Do:Dg)(l n:Str):ye (Cp Do) (.inr l) (.str n)=Cp (UI Do l n):=by
 by_cases z:l∈Do.map (·.1)
 ·unfold ye;have ha:((Cp Do).any fun kv=>decide (kv.1=.inr l))=true:=by
   obtain⟨r,b,e⟩:=Zd.mp z;exact Z2.mpr ⟨(.inr r.1,.str r.2),Zd.mpr ⟨r,b,rfl⟩,Ze<|by rw[e]⟩
  rw[Zy ha];unfold Cp UI;rw[Zy z,ZF,ZF];refine Z1 fun r _=>?_;show(if(.inr r.1:Key)=.inr l then((.inr r.1:Key),V.str n) else(.inr r.1,V.str r.2))=((.inr (if r.1=l then(l,n) else r).1:Key),V.str (if r.1=l then(l,n) else r).2)
  by_cases q:r.1=l
  ·rw[Zy<|by rw[q],Zy q,q]
  ·rw[Zr<|fun y=>q<|Sum.inr.inj y,Zr q]
 ·rw[CV z];unfold UI;rw[Zr z]
noncomputable def Ct (S:Di)(n:Str):Dg:=match Nt S n with
 |some (.tree Do)=>Do
 |_=>[]
theorem jB (g:yd S){n:Str}{Do:Dg}(h:At S n<|.tree Do):Ct S n=Do:=by
 unfold Ct;rw[Xz g h]
noncomputable def Cg (S:Di)(Do:Dg)(l:Str):Dg:=match wJ Do l with
 |some n=>Ct S n
 |none=>[]
noncomputable def wR:Da->Di->Dg->Str->List En×Dg
 |[],S,Do,_=>(S,Do)
 |[l],S,Do,leaf=>(S,UI Do l leaf)
 |l::b::r,S,Do,leaf =>
  ((Cf (wR (b::r) S (Cg S Do l) leaf).1<|.tree<|Uv (wR (b::r) S (Cg S Do l) leaf).2).1,UI Do l (Cf (wR (b::r) S (Cg S Do l) leaf).1<|.tree<|Uv (wR (b::r) S (Cg S Do l) leaf).2).2)
inductive wV (S:Di):Dg->Da->Str->Prop
 |here {Do:Dg} {l n:Str} {ls:Da}:(l,n)∈Do->wV S Do (l::ls) n
 |down {Do rs:Dg} {l n x:Str} {ls:Da}:(l,n)∈Do->At S n (.tree rs)->wV S rs ls x->wV S Do (l::ls) x
theorem wV.more {T:Di}(h:wV S Do ls x):wV (S++T) Do ls x:=by
 induction h with
 |here h=>exact .here h
 |down h a _ ih=>exact .down h a.more ih
theorem y6 {Do:Dg}(nd:(Do.map (·.1)).Nodup){l n:Str}:wJ Do l=some n↔(l,n)∈Do:=by
 refine⟨jR,fun h=>?_⟩;unfold wJ;cases q:Do.find? (fun r=>decide (r.1=l)) with
 |none =>
  have:=List.find?_eq_none.mp q _ h;simp at this
 |some r =>
  have f:=List.mem_of_find?_eq_some q;have e:=List.find?_some q;have e:r.1=l:=Zx e;obtain⟨i,g,d⟩:=ZY.mp f;obtain⟨j,o,b⟩:=ZY.mp h;have:=(Jg (h₀:=by simpa using g) (h₁:=by simpa using o) nd).mp (by rwa[ZT,ZT,d,b]);subst this;rw[d]at b;rw[b];rfl
theorem KH (h:wJ Do l=none):∀r∈Do,r.1≠l:=fun r b e=>by
 unfold wJ at h;rw[Option.map_eq_none_iff]at h;have:=List.find?_eq_none.mp h r b;simp at this;exact this e
structure lC (d:Nat)(S:Di)(Do:Dg)(ls:Da)(lines:Da)(q:List En×Dg):Prop where
 ok:yd q.1
 new:∃T,q.1=S++T/\∀e∈T,wV q.1 q.2 ls e.nm
 oG:wZ d q.1 q.2
 rd:∀f,f∈Ce d q.1 q.2↔(f∈Ce d S Do/\f.1≠ls)\/f=(ls,lines)
 len:q.1.length+1<=S.length+ls.length
 few:q.2.length<=Do.length+1
def wO (fs:Dk)(ls:Da):Prop:=∀f∈fs,∀t,(ls=f.1++t\/f.1=ls++t)->t=[]
theorem wV.perm {Do rs:Dg}(h:∀r∈Do,r∈rs){ls:Da}{x:Str}(w:wV S Do ls x):wV S rs ls x:=by
 cases w with
 |here a=>exact .here<|h _ a
 |down a b c=>exact .down (h _ a) b c
theorem xL:∀{Do:Dg},wZ d S Do->Do.length<=(Ce d S Do).length
 |[],_=>ZN _
 |r::Do,h=>by
  have b:=xL (Do:=Do) ⟨(Z5.mp h.nd).2,fun k hk=>h.at_ k<|Zf _ hk⟩;have ne:=(h.at_ r<|Zi ..).2.2;have p:0<(zu d S r.2).length:=J8.mpr ne;unfold Ce at b ⊢;rw[JW,Zp,Za,Zj];lia
theorem MT {Do:Dg}{r:Str×Str}(h:r∈Do):(zu d S r.2).length<=(Ce d S Do).length:=by
 induction Do with
 |nil=>cases h
 |cons k Do ih =>
  unfold Ce at ih ⊢;rw[JW,Zp,Za]
  rcases Zm.mp h with z|z
  ·rw[z];lia
  ·have:=ih z;lia
theorem OD {d:Nat}{l b:Str}{r:Da}(g:yd S)(h:wZ (d+1) S Do)(fr:wO (Ce (d+1) S Do) (l::b::r))(hl:(Ce (d+1) S Do).length<=62) :
  wZ d S (Cg S Do l)/\(∀k,k∈Ce d S (Cg S Do l)↔(l::k.1,k.2)∈Ce (d+1) S Do)/\(Ce d S<|Cg S Do l).length<=62:=by
 unfold Cg;cases q:wJ Do l with
 |none =>
  refine⟨⟨Yn,fun r j=>(nomatch j)⟩,fun k=>⟨fun hk=>absurd hk Z9,fun hk=>?_⟩,ZN _⟩;obtain⟨r,j,m,_,e⟩:=zj.mp hk;injection e with f p;injection f with f _;exact absurd f.symm<|KH q r j
 |some n =>
  have hm:=jR q;obtain⟨A,t,ne⟩:=h.at_ _ hm;obtain⟨i,at_⟩:∃i,At S n (.tree i):=by
   rcases id t with⟨ls,z⟩|⟨i,z,_⟩
   ·exfalso;have:=fr ([l],ls) (zj.mpr ⟨_,hm,([],ls),by rw[yG g z];exact Zb.mpr rfl,rfl⟩) (b::r) (.inl rfl);cases this
   ·exact⟨i,z⟩
  obtain⟨y,rd⟩:=t.wz g at_;show wZ d S (Ct S n)/\(∀k,k∈Ce d S (Ct S n)↔_)/\(Ce d S<|Ct S n).length<=62;rw[jB g at_];refine⟨y,fun k=>?_,by rw[←rd];exact ZR (MT hm) hl⟩;rw[←rd,zj];constructor
  ·intro hk;exact⟨_,hm,k,hk,rfl⟩
  ·rintro⟨x,o,m,v,e⟩;injection e with f p;injection f with f u;obtain⟨w,n2⟩:=x;have f:l=w:=f;subst f;have:n2=n:=by
    have s:=(y6 h.nd).mpr o;rw[q]at s;exact(Option.some.inj s).symm
   subst this;have:k=m:=LQ u p;rwa[this]
theorem Nw {lines:Da}:∀(ls:Da) {d:Nat} {S:Di} {Do:Dg},ls≠[]->ls.length<=d->(∀l∈ls,zP l=true)->yd S->At S leaf (.leaf lines)->wZ d S Do->wO (Ce d S Do) ls->(Ce d S Do).length<=62->S.length+ls.length<=2000 ->
  lC d S Do ls lines (wR ls S Do leaf)/\wV (wR ls S Do leaf).1 (wR ls S Do leaf).2 ls leaf
 |[],_,_,_,h,_,_,_,_,_,_,_,_=>absurd rfl h
 |[l],0,_,_,_,h,_,_,_,_,_,_,_=>absurd h<|Jx _
 |[l],d+1,S,Do,_,_,lb,g,al,ro,fr,hl,sl=>by
  have j:zu (d+1) S leaf=[([],lines)]:=yG g al;refine⟨⟨g,⟨[],(ZK _).symm,fun e K=>(nomatch K)⟩,⟨BY ro.nd,fun r o=>?_⟩,fun f=>?_,Zg _,Ho _ _ _⟩,.here<|q9 _ _ _⟩
  ·rcases wM.mp o with⟨h,_⟩|rfl
   ·exact ro.at_ r h
   ·exact⟨lb l<|Zb.mpr rfl,.inl ⟨lines,al⟩,by show zu (d+1) S leaf≠[];rw[j];exact ZU _ _⟩
  ·show f∈Ce (d+1) S (UI Do l leaf)↔_;rw[zj];constructor
   ·rintro⟨r,o,k,hk,rfl⟩
    rcases wM.mp o with⟨h,nl⟩|rfl
    ·exact .inl ⟨zj.mpr ⟨r,h,k,hk,rfl⟩,fun e=>nl<|by injection e⟩
    ·have hk:k∈zu (d+1) S leaf:=hk;rw[j]at hk;rw[Zb.mp hk];exact .inr rfl
   ·rintro(⟨h,ne⟩|rfl)
    ·obtain⟨r,o,k,hk,e⟩:=zj.mp h;refine⟨r,wM.mpr<|.inl ⟨o,fun z=>ne ?_⟩,k,hk,e⟩;have:=fr f h k.1 (.inr (by rw[e,←z];rfl));rw[e,this,z]
    ·exact⟨(l,leaf),q9 _ _ _,([],lines),by show _∈zu (d+1) S leaf;rw[j];exact Zb.mpr rfl,rfl⟩
 |l::b::r,0,_,_,_,h,_,_,_,_,_,_,_=>absurd h (by rw[Zj];lia)
 |l::b::r,d+1,S,Do,_,hd,lb,g,al,ro,fr,hl,sl=>by
  obtain⟨L,F,N⟩:=OD g ro fr hl;have H:wO (Ce d S<|Cg S Do l) (b::r):=fun f O t s=>fr (l::f.1,f.2) ((F f).mp O) t (by
   rcases s with s|s
   ·exact .inl (by rw[s];rfl)
   ·exact .inr (by show l::f.1=_;rw[s];rfl))
  rw[Zj]at hd sl;obtain⟨W,M⟩:=Nw (b::r) (d:=d) (ZU _ _) (by lia) (fun x P=>lb x<|Zf _ P) g al L H N (by lia);have eq:wR (l::b::r) S Do leaf=((Cf (wR (b::r) S (Cg S Do l) leaf).1<|.tree<|Uv (wR (b::r) S (Cg S Do l) leaf).2).1,UI Do l (Cf (wR (b::r) S (Cg S Do l) leaf).1<|.tree<|Uv (wR (b::r) S (Cg S Do l) leaf).2).2):=rfl;rw[eq];generalize wR (b::r) S (Cg S Do l) leaf=q at W M;have B:=W.len;have R:=W.oG.put W.ok (by have:=W.few;have:=xL L;lia) (by lia);generalize Cf q.1 (.tree<|Uv q.2)=p at R;obtain⟨D,G,I⟩:=W.new;obtain⟨E,n,J⟩:=R.new;have C:p.1=S++(D++E):=by rw[n,G,Z7]
  have u:yd (S++(D++E)):=by rw[←C];exact R.ok
  have A:=(ro.more u g);rw[←C]at A;have v:∀{x},wV q.1 q.2 (b::r) x->wV p.1 (UI Do l p.2) (l::b::r) x:=fun{x} h=>.down (q9 _ _ _) R.at_ ((by rw[n];exact h.more:wV p.1 q.2 (b::r) x).perm fun k hk=>(z5 q.2).mem_iff.mpr hk);have i:∀k,k∈zu (d+1) p.1 p.2↔(k∈Ce d S (Cg S Do l)/\k.1≠b::r)\/k=(b::r,lines):=fun k=>by rw[R.rd,W.rd]
  have w:∀k∈Do,zu (d+1) p.1 k.2=zu (d+1) S k.2:=fun k hk=>by
   rw[C];exact((ro.at_ k hk).2.1.more u g).2
  refine⟨⟨R.ok,⟨D++E,C,fun e K=>?_⟩,⟨BY ro.nd,fun k hk=>?_⟩,fun f=>?_,?_,Ho _ _ _⟩,v M⟩
  ·rcases ZB.mp K with z|z
   ·exact v (I e z)
   ·rw[J e z];exact .here<|q9 _ _ _
  ·rcases wM.mp hk with⟨h,_⟩|rfl
   ·exact A.1.at_ k h
   ·refine⟨lb l<|Zi ..,R.tree,fun z=>?_⟩;have:((b::r,lines):Fi)∈zu (d+1) p.1 p.2:=(i _).mpr<|.inr rfl;rw[show zu (d+1) p.1 p.2=[] from z]at this;cases this
  ·show f∈Ce (d+1) p.1 (UI Do l p.2)↔_;rw[zj];constructor
   ·rintro⟨k,hk,m,hm,rfl⟩
    rcases wM.mp hk with⟨h,nl⟩|rfl
    ·rw[w k h]at hm;exact .inl ⟨zj.mpr ⟨k,h,m,hm,rfl⟩,fun e=>nl<|by injection e⟩
    ·rcases(i m).mp hm with⟨h1,h2⟩|rfl
     ·exact .inl ⟨(F m).mp h1,fun e=>h2<|by injection e⟩
     ·exact .inr rfl
   ·rintro(⟨h,ne⟩|rfl)
    ·obtain⟨k,hk,m,hm,e⟩:=zj.mp h
     by_cases z:k.1=l
     ·refine⟨(l,p.2),q9 _ _ _,m,(i m).mpr<|.inl ⟨(F m).mpr<|by rwa[←z,←e],fun y=>ne<|by rw[e,y,z]⟩,by rw[e,z]⟩
     ·exact⟨k,wM.mpr<|.inl ⟨hk,z⟩,m,by rw[w k hk];exact hm,e⟩
    ·exact⟨(l,p.2),q9 _ _ _,(b::r,lines),(i _).mpr<|.inr rfl,rfl⟩
  ·show p.1.length+1<=_;have:=R.len;rw[Zj]at B ⊢;rw[Zj];lia
def Xf (Do:Dg)(l:Str):Dg:=Do.filter fun r=>!decide (r.1=l)
theorem uq {r:Str×Str}:r∈Xf Do l↔r∈Do/\r.1≠l:=by
 unfold Xf;rw[JM,Yj,JE]
theorem K8 {Do:Dg}(h:(Do.map (·.1)).Nodup):((Xf Do l).map (·.1)).Nodup:=by
 unfold Xf;rw[Z8,YU]at h ⊢;exact h.sublist List.filter_sublist
theorem Fq (Do:Dg)(l:Str):(Xf Do l).length<=Do.length:=List.length_filter_le _ _
noncomputable def oR:Da->Di->Dg->List En×Dg
 |[],S,Do=>(S,Do)
 |[l],S,Do=>(S,Xf Do l)
 |l::b::r,S,Do =>
  if(oR (b::r) S<|Cg S Do l).2=[] then((oR (b::r) S<|Cg S Do l).1,Xf Do l)
  else((Cf (oR (b::r) S<|Cg S Do l).1<|.tree<|Uv (oR (b::r) S<|Cg S Do l).2).1,UI Do l (Cf (oR (b::r) S<|Cg S Do l).1<|.tree<|Uv (oR (b::r) S<|Cg S Do l).2).2)
structure ju (d:Nat)(S:Di)(Do:Dg)(ls:Da)(q:List En×Dg):Prop where
 ok:yd q.1
 new:∃T,q.1=S++T/\∀e∈T,wV q.1 q.2 ls e.nm
 oG:wZ d q.1 q.2
 rd:∀f,f∈Ce d q.1 q.2↔f∈Ce d S Do/\f.1≠ls
 len:q.1.length+1<=S.length+ls.length
 few:q.2.length<=Do.length
theorem GK (h:wZ d S Do):(∀f,f∉Ce d S Do)↔Do=[]:=by
 constructor
 ·intro z;cases Do with
  |nil=>rfl
  |cons r Do =>
   exfalso;obtain⟨_,_,ne⟩:=h.at_ r<|Zi ..;cases q:zu d S r.2 with
   |nil=>exact ne q
   |cons f fs=>exact z _ (zj.mpr ⟨r,Zi ..,f,by rw[q];exact Zi ..,rfl⟩)
 ·rintro rfl f b;exact absurd b Z9
theorem OC {d:Nat}{l b:Str}{r:Da}{lines:Da}(g:yd S)(h:wZ (d+1) S Do)(x:(l::b::r,lines)∈Ce (d+1) S Do)(hl:(Ce (d+1) S Do).length<=62) :
  wZ d S (Cg S Do l)/\(∀k,k∈Ce d S (Cg S Do l)↔(l::k.1,k.2)∈Ce (d+1) S Do)/\(Ce d S<|Cg S Do l).length<=62/\∃n,(l,n)∈Do/\At S n (.tree<|Cg S Do l):=by
 obtain⟨⟨s,n⟩,hm,m,i,e⟩:=zj.mp x;injection e with f u;injection f with f o;have f:l=s:=f;subst f;have q:wJ Do l=some n:=(y6 h.nd).mpr hm;obtain⟨D,t,ne⟩:=h.at_ _ hm;obtain⟨j,at_⟩:∃j,At S n (.tree j):=by
  rcases id t with⟨ls,z⟩|⟨j,z,_⟩
  ·exfalso;rw[show zu (d+1) S n=[([],ls)] from yG g z]at i;have:=Zb.mp i;rw[this]at o;cases o
  ·exact⟨j,z⟩
 obtain⟨C,rd⟩:=t.wz g at_;have w:Cg S Do l=j:=by
  unfold Cg;rw[q];exact jB g at_
 rw[w];refine⟨C,fun k=>?_,by rw[←rd];exact ZR (MT hm) hl,n,hm,at_⟩;rw[←rd,zj];constructor
 ·intro hk;exact⟨_,hm,k,hk,rfl⟩
 ·rintro⟨B,p,A,y,e⟩;injection e with f u;injection f with f o;obtain⟨s,n2⟩:=B;have f:l=s:=f;subst f;have:n2=n:=by
   have v:=(y6 h.nd).mpr p;rw[q]at v;exact(Option.some.inj v).symm
  subst this;have:k=A:=LQ o u;rwa[this]
theorem M6:∀(ls:Da) {d:Nat} {S:Di} {Do:Dg} {lines:Da},ls≠[]->ls.length<=d->yd S->wZ d S Do->(ls,lines)∈Ce d S Do->(Ce d S Do).length<=62->S.length+ls.length<=2000 ->
  ju d S Do ls (oR ls S Do)
 |[],_,_,_,_,h,_,_,_,_,_,_=>absurd rfl h
 |[l],0,_,_,_,_,h,_,_,_,_,_=>absurd h<|Jx _
 |[l],d+1,S,Do,lines,_,_,g,ro,t,hl,sl=>by
  refine⟨g,⟨[],(ZK _).symm,fun e B=>(nomatch B)⟩,⟨K8 ro.nd,fun r o=>ro.at_ r (uq.mp o).1⟩,fun f=>?_,Zg _,Fq _ _⟩;show f∈Ce (d+1) S (Xf Do l)↔_;rw[zj];constructor
  ·rintro⟨r,o,k,hk,rfl⟩;obtain⟨h,nl⟩:=uq.mp o;exact⟨zj.mpr ⟨r,h,k,hk,rfl⟩,fun e=>nl<|by injection e⟩
  ·rintro⟨h,ne⟩;obtain⟨r,o,k,hk,e⟩:=zj.mp h;refine⟨r,uq.mpr ⟨o,fun z=>ne ?_⟩,k,hk,e⟩;obtain⟨P,M,m,hm,Z⟩:=zj.mp t;injection Z with v e4;injection v with v e5;have er:r=P:=by
    obtain⟨a,n⟩:=r;obtain⟨U,n2⟩:=P;have z:a=l:=z;have v:l=U:=v;subst z v;have J:=(y6 ro.nd).mpr o;rw[(y6 ro.nd).mpr M]at J;rw[Option.some.inj J]
   subst er
   rcases((ro.at_ r o).2.1.rise g).2 with⟨ls2,q⟩|q
   ·rw[q]at hk;rw[e,Zb.mp hk,z]
   ·exact absurd e5.symm (q m hm)
 |l::b::r,0,_,_,_,_,h,_,_,_,_,_=>absurd h<|Jx _
 |l::b::r,d+1,S,Do,lines,_,hd,g,ro,t,hl,sl=>by
  obtain⟨O,H,Y,n0,C,X⟩:=OC g ro t hl;rw[Zj]at hd sl;have W:=M6 (b::r) (d:=d) (lines:=lines) (ZU _ _) (by lia) g O ((H _).mpr t) Y (by lia);have eq:oR (l::b::r) S Do=if(oR (b::r) S<|Cg S Do l).2=[] then((oR (b::r) S<|Cg S Do l).1,Xf Do l) else((Cf (oR (b::r) S<|Cg S Do l).1<|.tree<|Uv (oR (b::r) S<|Cg S Do l).2).1,UI Do l (Cf (oR (b::r) S<|Cg S Do l).1<|.tree<|Uv (oR (b::r) S<|Cg S Do l).2).2):=rfl;rw[eq];generalize oR (b::r) S (Cg S Do l)=q at W;have j:=W.len;obtain⟨u,i,A⟩:=W.new
  by_cases z:q.2=[]
  ·rw[Zy z];have Q:u=[]:=by
    cases u with
    |nil=>rfl
    |cons e T =>
     exfalso;have:=A e<|Zi ..;rw[z]at this;cases this with
     |here h=>cases h
     |down h _ _=>cases h
   rw[Q,ZK]at i;have s:∀k,k∈Ce d S (Cg S Do l)->k.1=b::r:=fun k hk=>by
    rcases Mg (k.1=b::r) with y|y
    ·exact y
    ·exact absurd ((W.rd k).mpr ⟨hk,y⟩) ((GK W.oG).mpr z k)
   refine⟨W.ok,⟨[],by rw[ZK];exact i,fun e B=>(nomatch B)⟩,⟨K8 ro.nd,fun k hk=>by rw[i];exact ro.at_ k (uq.mp hk).1⟩,fun f=>?_,by show q.1.length+1<=_;rw[Zj]at j ⊢;rw[Zj];lia,Fq _ _⟩;show f∈Ce (d+1) q.1 (Xf Do l)↔_;rw[i,zj];constructor
   ·rintro⟨k,hk,m,hm,rfl⟩;obtain⟨h,nl⟩:=uq.mp hk;exact⟨zj.mpr ⟨k,h,m,hm,rfl⟩,fun e=>nl<|by injection e⟩
   ·rintro⟨h,ne⟩;obtain⟨k,hk,m,hm,e⟩:=zj.mp h;refine⟨k,uq.mpr ⟨hk,fun y=>ne ?_⟩,m,hm,e⟩;have:(l::m.1,m.2)∈Ce (d+1) S Do:=by rwa[←y,←e]
    rw[e,s m<|(H m).mpr this,y]
  ·rw[Zr z];have R:=W.oG.put W.ok (by have:=W.few;have:=xL O;lia) (by lia);generalize Cf q.1 (.tree<|Uv q.2)=p at R;obtain⟨K,w,L⟩:=R.new;have I:p.1=S++(u++K):=by rw[w,i,Z7]
   have D:yd (S++(u++K)):=by rw[←I];exact R.ok
   have G:=(ro.more D g);rw[←I]at G;have N:∀{x},wV q.1 q.2 (b::r) x->wV p.1 (UI Do l p.2) (l::b::r) x:=fun{x} h=>.down (q9 _ _ _) R.at_ ((by rw[w];exact h.more:wV p.1 q.2 (b::r) x).perm fun k hk=>(z5 q.2).mem_iff.mpr hk);have F:∀k,k∈zu (d+1) p.1 p.2↔k∈Ce d S (Cg S Do l)/\k.1≠b::r:=fun k=>by rw[R.rd,W.rd]
   have E:∀k∈Do,zu (d+1) p.1 k.2=zu (d+1) S k.2:=fun k hk=>by
    rw[I];exact((ro.at_ k hk).2.1.more D g).2
   refine⟨R.ok,⟨u++K,I,fun e B=>?_⟩,⟨BY ro.nd,fun k hk=>?_⟩,fun f=>?_,?_,?_⟩
   ·rcases ZB.mp B with y|y
    ·exact N (A e y)
    ·rw[L e y];exact .here<|q9 _ _ _
   ·rcases wM.mp hk with⟨h,_⟩|rfl
    ·exact G.1.at_ k h
    ·refine⟨(ro.at_ _ C).1,R.tree,fun y=>z<|(GK W.oG).mp fun f t=>?_⟩;have:f∈zu (d+1) p.1 p.2:=(R.rd f).mpr t;rw[show zu (d+1) p.1 p.2=[] from y]at this;cases this
   ·show f∈Ce (d+1) p.1 (UI Do l p.2)↔_;rw[zj];constructor
    ·rintro⟨k,hk,m,hm,rfl⟩
     rcases wM.mp hk with⟨h,nl⟩|rfl
     ·rw[E k h]at hm;exact⟨zj.mpr ⟨k,h,m,hm,rfl⟩,fun e=>nl<|by injection e⟩
     ·obtain⟨J,h2⟩:=(F m).mp hm;exact⟨(H m).mp J,fun e=>h2<|by injection e⟩
    ·rintro⟨h,ne⟩;obtain⟨k,hk,m,hm,e⟩:=zj.mp h
     by_cases y:k.1=l
     ·exact⟨(l,p.2),q9 _ _ _,m,(F m).mpr ⟨(H m).mpr<|by rwa[←y,←e],fun y2=>ne<|by rw[e,y2,y]⟩,by rw[e,y]⟩
     ·exact⟨k,wM.mpr<|.inl ⟨hk,y⟩,m,by rw[E k hk];exact hm,e⟩
   ·show p.1.length+1<=_;have:=R.len;rw[Zj]at j ⊢;rw[Zj];lia
   ·show(UI Do l p.2).length<=_;unfold UI;rw[Zy<|Zd.mpr ⟨_,C,rfl⟩,Za];exact Zg _
end An
namespace An08
open PySem L2 An
seal L2.PS L2.sX L2.PE L2.PT L2.PW L2.PA L2.PG L2.pC L2.PI L2.oY L2.PC
theorem kO (h:wZ e S Do):∀r∈Do,zP r.1=true/\zS S r.2 ["leaf","tree"]=true:=fun r b=>⟨(h.at_ r b).1,MN (h.at_ r b).2.1⟩
def v7 (P:Ej)(w:Ep)(K:Cc)(C:Ei):Nat->Sp
 | 0=>fun _ _ _ _=>False
 |d+1=>fun o H Q _=>∃(a c l:Ei) (j:Dd) (S:Di) (g:Dg) (b f:Da) (leaf:Str) (e:Nat),o=[.ref a,.ref c,.ref l,.str leaf]/\yq P w K C H a j S/\yd S/\H c=some (.dK<|Cp g)/\c∉j/\xx K H l (b.map V.str)/\b≠[]/\b.length<=d+1/\b.length<=e/\(∀l∈b,zP l=true)/\At S leaf (.leaf f)/\wZ e S g/\wO (Ce e S g) b/\(Ce e S g).length<=62/\S.length+b.length<=2000 /\
  ∀n i,Off j H i->H n=none->i n=some (.dK<|Cp (wR b S g leaf).2)->yq P w K C i a j (wR b S g leaf).1->Q (.ref n) i
theorem SG (Do:Dg)(x:Str):GI (Cp Do) (.inr x)=Cp (Xf Do x):=by
 unfold GI Cp Xf;rw[List.filter_map]
 congr 1
 refine List.filter_congr fun r _=>?_;show decide ((.inr r.1:Key)≠.inr x)=!decide (r.1=x)
 by_cases z:r.1=x
 ·simp[z]
 ·have b:¬(Ev r.1:Key)=.inr x:=fun q=>z<|Sum.inr.inj q;simp[z,b]
def IV (P:Ej)(w:Ep)(K:Cc)(C:Ei):Nat->Sp
 | 0=>fun _ _ _ _=>False
 |d+1=>fun o H Q _=>∃(a c l:Ei) (n:Dd) (S:Di) (g:Dg) (b f:Da) (e:Nat),o=[.ref a,.ref c,.ref l]/\yq P w K C H a n S/\yd S/\H c=some (.dK<|Cp g)/\xx K H l (b.map V.str)/\b≠[]/\b.length<=d+1/\b.length<=e/\wZ e S g/\(b,f)∈Ce e S g/\(Ce e S g).length<=62/\S.length+b.length<=2000 /\
  ∀j i,Off n H i->H j=none->i j=some (.dK<|Cp (oR b S g).2)->yq P w K C i a n (oR b S g).1->Q (.ref j) i
section
variable {P:Ej}{w:Ep}{K:Cc}{mg:Str->Dc}{base:EB}{t1 t2 t3 t4 t5 t6 t7:Tok}{aL aC aN aT aA b1 b2 b3 b4 b5 b6:Ei}(T:Txt P w K mg t1 t2 t3 t4 t5 t6 t7 aL aC aN aT aA b1 b2 b3 b4 b5 b6)
namespace AT
abbrev st:Stmt:=top 54
theorem sc:zx ["shelf","rows","labels","leaf","label","name","beneath","changed"] ["shelf","rows","labels","leaf"] (zG st):=Co
theorem step {L d:Nat}(F:xf0 K "rows_with" st f fd)(T:Txt P w K mg t1 t2 t3 t4 t5 t6 t7 aL aC aN aT aA b1 b2 b3 b4 b5 b6)(Qb:xj P w K mg base 5 "rows_of" ["store","tree"]<|wA P w K aC)(Qa:xj P w K mg base 8 "put_rows" ["shelf","rows"]<|wU P w K aC)(hL:8<=L)(hd:d<=100)(Qx:xj P w K mg base L "rows_with" ["shelf","rows","labels","leaf"]<|v7 P w K aC d):yx P w K mg base Cn (L+1) f fd ["shelf","rows","labels","leaf"] (v7 P w K aC<|d+1):=by
 refine F.ok sc fun _ _ _ _ H vs Q E I h=>?_;obtain⟨a,c,l,D,S,Do,ls,lines,leaf,e,rfl,sh,ok,hc,ar,sq,l0,ld,le,lb,al,ro,fr,hl,sl,k⟩:=h;have rl:=xL ro;refine⟨_,(zD (Ck (i:=4) sc.nd<|yM (wD:Cq _<|rW K) (pv 2) zH)<|zD (Ck (i:=5) sc.nd<|pv 3)<|xN (yI (zU FY (zK z8 (by rfl) T.len ZZ<|zA (pv 2) zC) zH<|zV _) (xN (Ck (i:=6) sc.nd<|Gn (zU (BU I.units) (pv 4) (pv 1)<|by with_unfolding_all rfl) (zJ Qb (I.mono<|by lia)<|zA (pv 0)<|zA (Im I.sW (pv 1) (pv 4)<|fun _ _=>rfl) zC) xY)<|zE<|Ck (i:=5) sc.nd<|zJ Qa (I.mono<|by lia)<|zA (pv 0)<|zA (zJ Qx (I.mono<|by lia)<|zA (pv 0)<|zA (pv 6)<|zA (j8 (rH:RF _<|P8 K) (pv 2) (kG zH) vS)<|zA (pv 3) zC) zC) zQ)<|zD (Ck (i:=7) sc.nd<|yK Iv (by rfl) T.dict Jd<|zA (pv 1) zC)<|zD (qO I.sW (pv 7) (pv 4) (pv 5) rfl)<|zE<|zM<|pv 7),?_⟩
 cases ls with
 |nil=>exact absurd rfl l0
 |cons x r =>
  refine⟨_,rfl,l,_,_,_,rfl,rfl,sq,y7 (j:=0) rfl,_,rfl,?_⟩;refine⟨fun v M=>∃o6 nm S',v=[some<|.ref a,some<|.ref c,some<|.ref l,some<|.str leaf,some<|.str x,some<|.str nm,o6,none]/\Off D H M/\yq P w K aC M a D S'/\wR (x::r) S Do leaf=(S',UI Do x nm),?_,?_⟩
  ·refine⟨_,rfl,l,_,rfl,.inl sq,_,_,rfl,rfl,_,rfl,UB (fun z=>?_)<|fun z=>?_⟩
   ·cases r with
    |nil =>
     exfalso;have:=Zx z;exact absurd this (by show¬(1:Int)<1;decide)
    |cons b r =>
     cases d with
     |zero =>
      exfalso;rw[Zj,Zj]at ld;lia
     |succ d =>
      cases e with
      |zero=>exact absurd le<|Jx _
      |succ e =>
       obtain⟨p,ah,N⟩:=OD ok ro fr hl;have U:wO (Ce e S<|Cg S Do x) (b::r):=fun f hf t Y=>fr (x::f.1,f.2) ((ah f).mp hf) t (by
        rcases Y with Y|Y
        ·exact .inl (by rw[Y];rfl)
        ·exact .inr (by show x::f.1=_;rw[Y];rfl))
       rw[Zj]at ld le sl;refine⟨fun v M=>∃A,v=[some<|.ref a,some<|.ref c,some<|.ref l,some<|.str leaf,some<|.str x,some<|.str leaf,some<|.ref A,none]/\zy H M/\H A=none/\M A=some (.dK<|Cp<|Cg S Do x),?_,?_⟩
       ·refine⟨_,rfl,_,rfl,c,_,rfl,vg.k (k:=.inr x) hc,_,rfl,UB (fun z=>?_)<|fun z=>?_⟩
        ·rw[v5]at z;cases q:wJ Do x with
         |none=>rw[q]at z;cases z
         |some n =>
          have hm:=jR q;obtain⟨J,at_⟩:∃J,At S n (.tree J):=by
           rcases id (ro.at_ _ hm).2.1 with⟨ls2,z2⟩|⟨J,z2,_⟩
           ·exfalso;have:=fr ([x],ls2) (zj.mpr ⟨_,hm,([],ls2),by rw[yG ok z2];exact Zb.mpr rfl,rfl⟩) (b::r) (.inl rfl);cases this
           ·exact⟨J,z2⟩
          have eb:Cg S Do x=J:=by
           unfold Cg;rw[q];exact jB ok at_
          rw[eb]at p;refine⟨_,rfl,_,rfl,_,rfl,c,.str n,rfl,by rw[show(some<|V.str n)=Uu (Cp Do) (.inr x) by rw[v5,q];rfl];exact vg.k (k:=.inr x) hc,a,D,S,n,J,rfl,sh,ok,at_,p.nd,fun A g=>⟨A,rfl,zF g,g,by rw[eb];exact zB⟩⟩
        ·rw[v5]at z;have q:wJ Do x=none:=by
          cases q:wJ Do x with
          |none=>rfl
          |some n=>rw[q]at z;exact absurd rfl z
         refine fun A g=>⟨A,rfl,zF g,g,?_⟩;have eb:Cg S Do x=[]:=by
          unfold Cg;rw[q]
         rw[eb];exact zB
       ·rintro v H1 ⟨A,rfl,s1,g,ap⟩;have B:=sh.same s1;have am:A∉D:=(yq.ex sh).not g;refine⟨_,rfl,_,rfl,_,rfl,_,rfl,1,rfl,l,_,rfl,s1.seq sq,fun l2 n2=>?_⟩;have ec:UQ ((x::b::r).map V.str) (some 1) none=(b::r).map V.str:=IN (i:=1) (by decide);rw[ec];have u2:=zF (o:=.lst<|(b::r).map V.str) n2;refine⟨_,rfl,a,A,l2,D,S,Cg S Do x,b::r,lines,leaf,e,rfl,B.same u2,ok,u2 _ _ ap,am,xx.of zB,ZU _ _,by lia,by lia,fun y Z=>lb y<|Zf _ Z,al,p,U,N,by lia,fun s H2 a0 u X C=>?_⟩;have W:=(Nw (b::r) (d:=e) (Do:=Cg S Do x) (leaf:=leaf) (lines:=lines) (ZU _ _) (by lia) (fun y Z=>lb y<|Zf _ Z) ok al p U N (by lia)).1;have eq:wR (x::b::r) S Do leaf=((Cf (wR (b::r) S (Cg S Do x) leaf).1<|.tree<|Uv (wR (b::r) S (Cg S Do x) leaf).2).1,UI Do x (Cf (wR (b::r) S (Cg S Do x) leaf).1<|.tree<|Uv (wR (b::r) S (Cg S Do x) leaf).2).2):=rfl;rw[eq];generalize wR (b::r) S (Cg S Do x) leaf=q at W X C;have wl:=W.len;have wf:=W.few;have bl:=xL p;refine⟨a,s,D,q.1,q.2,rfl,C,W.ok,.inl X,W.oG.nd,kO W.oG,by lia,by lia,fun H3 a1 a2=>?_⟩;exact⟨_,_,_,rfl,fun y o ny R=>a1 y o ny<|a0 y o ny<|u2 _ _<|s1 _ _ R,a2,rfl⟩
   ·cases r with
    |nil=>exact⟨none,leaf,S,rfl,Off.refl _ _,sh,rfl⟩
    |cons b r =>
     exfalso;refine z<|Ze ?_;rw[Za,Zj,Zj];lia
  ·rintro v H1 ⟨o6,nm,S',rfl,G,B,eq⟩;have an:=G _ _ ar hc;refine⟨_,rfl,c,_,rfl,.inl an,fun s u=>?_⟩;have u1:=zF (o:=.dK<|Cp Do) u;have O:s∉D:=(yq.ex B).not u;have ab:H s=none:=by
    cases q:H s with
    |none=>rfl
    |some o=>rw[G _ _ O q]at u;cases u
   refine⟨_,rfl,_,rfl,_,rfl,s,_,rfl,sY.k (k:=.inr x) (zB (H:=H1) (a:=s) (o:=.dK<|Cp Do))<|xS (by unfold Cp;rw[Za];lia),_,rfl,?_⟩;rw[Nj];rw[eq]at k;have C:=(B.same u1).off (zW<|zB (H:=H1) (a:=s) (o:=.dK<|Cp Do)) (z7 (c:=s) (o:=.dK<|Cp<|UI Do x nm))<|fun y Z z=>O<|Zb.mp z▸Z;refine k s _ (fun y o ny R=>?_) ab zB C;have as:y≠s:=fun z=>by rw[z,ab]at R;cases R
   rw[zI as];exact u1 _ _<|G y o ny R
theorem ok0 (F:xf0 K "rows_with" st f fd):yx P w K mg base Cn 8 f fd ["shelf","rows","labels","leaf"] (v7 P w K aC 0) :=
 F.ok sc (fun _ _ _ _ _ _ _ _ _ h=>EE h) (fun _ _ _ _ h=>EE h)
include T in
theorem ok (F:xf0 K "rows_with" st f fd)(g:xj P w K mg base 5 "rows_of" ["store","tree"]<|wA P w K aC)(e:xj P w K mg base 8 "put_rows" ["shelf","rows"]<|wU P w K aC)(d:mg "rows_with"=some (.ref f))(b:wW K fd ["shelf","rows","labels","leaf"] []):yx P w K mg base Cn 12 f fd ["shelf","rows","labels","leaf"] (v7 P w K aC 4):=by
 have i:=xj.mk' F (ok0 (P:=P) (w:=w) (mg:=mg) (base:=base) (aC:=aC) F) d b;have j:=xj.mk' F (step F T g e (by decide) (by decide) i) d b;have l:=xj.mk' F (step F T g e (by decide) (by decide) j) d b;have n:=xj.mk' F (step F T g e (by decide) (by decide) l) d b;exact step F T g e (by decide) (by decide) n
end AT
namespace AU
abbrev st:Stmt:=top 55
theorem sc:zx ["shelf","rows","labels","label","changed","beneath"] ["shelf","rows","labels"] (zG st):=Co
theorem step {L d:Nat}(F:xf0 K "rows_without" st f fd)(T:Txt P w K mg t1 t2 t3 t4 t5 t6 t7 aL aC aN aT aA b1 b2 b3 b4 b5 b6)(Qb:xj P w K mg base 5 "rows_of" ["store","tree"]<|wA P w K aC)(Qa:xj P w K mg base 8 "put_rows" ["shelf","rows"]<|wU P w K aC)(hL:8<=L)(hd:d<=100)(Qy:xj P w K mg base L "rows_without" ["shelf","rows","labels"]<|IV P w K aC d):yx P w K mg base Cn (L+1) f fd ["shelf","rows","labels"] (IV P w K aC<|d+1):=by
 refine F.ok sc fun _ _ _ _ H vs Q E hr h=>?_;obtain⟨a,c,l,D,S,Do,ls,lines,e,rfl,sh,ok,hc,sq,l0,ld,le,ro,hf,hl,sl,k⟩:=h;have rl:=xL ro;refine⟨_,(zD (Ck (i:=3) sc.nd<|yM (wD:Cq _<|rW K) (pv 2) zH)<|zD (Ck (i:=4) sc.nd<|yK Iv (by rfl) T.dict Jd<|zA (pv 1) zC)<|zD (Ck (i:=5) sc.nd xY)<|xN (yI (zU FY (zK z8 (by rfl) T.len ZZ<|zA (pv 2) zC) zH<|zV _) (zE<|Ck (i:=5) sc.nd<|zJ Qy (hr.mono<|by lia)<|zA (pv 0)<|zA (zJ Qb (hr.mono<|by lia)<|zA (pv 0)<|zA (Im hr.sW (pv 1) (pv 3)<|fun _ _=>rfl) zC)<|zA (j8 (rH:RF _<|P8 K) (pv 2) (kG zH) vS) zC) zQ)<|xN (yI (zU FY (zK XD (by rfl) T.len ZZ<|zA (pv 5) zC) zH<|zV _) (zE<|qO hr.sW (pv 4) (pv 3) (zJ Qa (hr.mono<|by lia)<|zA (pv 0)<|zA (pv 5) zC) rfl)<|zE<|yD<|PQ (pv 4) (pv 3) ⟨rfl,rfl,rfl,rfl⟩)<|zE<|zM<|pv 4),?_⟩
 cases ls with
 |nil=>exact absurd rfl l0
 |cons x r =>
  obtain⟨n0,an⟩:∃n,(x,n)∈Do:=by
   obtain⟨⟨x2,n⟩,hm,m,_,e1⟩:=zj.mp hf;injection e1 with e1 _;injection e1 with e1 _;have e1:x=x2:=e1;rw[e1];exact⟨n,hm⟩
  have v0:Uu (Cp Do) (.inr x)=some (.str n0):=by rw[v5,(y6 ro.nd).mpr an];rfl
  refine⟨_,rfl,l,_,_,_,rfl,rfl,sq,y7 (j:=0) rfl,_,rfl,c,_,rfl,.inl hc,fun t A u p=>?_⟩;have u1:=zF (o:=.dK<|Cp Do) A;have u2:=zF (o:=.dK []) p;have s2:=u1.trans u2;have cc:u≠t:=fun z=>by rw[z,zB]at p;cases p
  have U:=u2 _ _<|zB (H:=H) (a:=t) (o:=.dK<|Cp Do);have Y:upd (upd H t<|.dK<|Cp Do) u (.dK []) u=some (.dK<|Cp []):=zB;have J:t∉D:=(yq.ex sh).not A;have O:=sh.same s2;generalize upd (upd H t<|.dK<|Cp Do) u (.dK [])=H2 at s2 U Y O ⊢;clear u1 u2 p;refine⟨fun C H'=>∃R s G,C=[some<|.ref a,some<|.ref c,some<|.ref l,some<|.str x,some<|.ref t,some<|.ref R]/\Off D H2 H'/\yq P w K aC H' a D G/\H' R=some (.dK<|Cp s)/\yd G/\(s.map (·.1)).Nodup/\(∀r∈s,zP r.1=true/\zS G r.2 ["leaf","tree"]=true)/\s.length<=63/\G.length<2000/\oR (x::r) S Do=(if s=[] then(G,Xf Do x) else((Cf G<|.tree<|Uv s).1,UI Do x (Cf G<|.tree<|Uv s).2)),?_,?_⟩
  ·refine⟨_,rfl,l,_,rfl,.inl<|s2.seq sq,_,_,rfl,rfl,_,rfl,UB (fun z=>?_)<|fun z=>?_⟩
   ·cases r with
    |nil =>
     exfalso;have:=Zx z;exact absurd this (by show¬(1:Int)<1;decide)
    |cons b r =>
     cases d with
     |zero =>
      exfalso;rw[Zj,Zj]at ld;lia
     |succ d =>
      cases e with
      |zero=>exact absurd le<|Jx _
      |succ e =>
       obtain⟨I,ah,al,n,hn,ar⟩:=OC ok ro hf hl;have en:n0=n:=by
        have h1:=(y6 ro.nd).mpr an;rw[(y6 ro.nd).mpr hn]at h1;exact(Option.some.inj h1).symm
       subst en;rw[Zj]at ld le sl;refine⟨_,rfl,_,rfl,_,rfl,_,rfl,c,.str n0,rfl,by rw[←v0];exact vg.k (k:=.inr x)<|s2 _ _ hc,a,D,S,n0,Cg S Do x,rfl,O,ok,ar,I.nd,fun R a1=>?_⟩;have u3:=zF (o:=.dK<|Cp<|Cg S Do x) a1;refine⟨_,rfl,1,rfl,l,_,rfl,(s2.trans u3).seq sq,fun l2 n2=>?_⟩;have ec:UQ ((x::b::r).map V.str) (some 1) none=(b::r).map V.str:=IN (i:=1) (by decide);rw[ec];have u4:=zF (o:=.lst<|(b::r).map V.str) n2;refine⟨a,R,l2,D,S,Cg S Do x,b::r,lines,e,rfl,(O.same u3).same u4,ok,u4 _ _ zB,xx.of zB,ZU _ _,by lia,by lia,I,(ah _).mpr hf,al,by lia,fun c3 H3 M a5 am B=>?_⟩;have W:=M6 (b::r) (d:=e) (Do:=Cg S Do x) (lines:=lines) (ZU _ _) (by lia) ok I ((ah _).mpr hf) al (by lia);have eq:oR (x::b::r) S Do=if(oR (b::r) S<|Cg S Do x).2=[] then((oR (b::r) S<|Cg S Do x).1,Xf Do x) else((Cf (oR (b::r) S<|Cg S Do x).1<|.tree<|Uv (oR (b::r) S<|Cg S Do x).2).1,UI Do x (Cf (oR (b::r) S<|Cg S Do x).1<|.tree<|Uv (oR (b::r) S<|Cg S Do x).2).2):=rfl;rw[eq];generalize oR (b::r) S (Cg S Do x)=q at W am B;have wl:=W.len;have wf:=W.few;have bl:=xL I;exact⟨c3,q.2,q.1,rfl,fun y o ny v=>M y o ny<|u4 _ _<|u3 _ _ v,B,am,W.ok,W.oG.nd,kO W.oG,by lia,by lia,rfl⟩
   ·cases r with
    |nil=>exact⟨u,[],S,rfl,Off.refl _ _,O,Y,ok,Yn,fun r hr=>(nomatch hr),ZN _,by rw[Zj]at sl;lia,by rw[Zy rfl];rfl⟩
    |cons b r =>
     exfalso;refine z<|Ze ?_;rw[Za,Zj,Zj];lia
  ·rintro C H3 ⟨R,s,G,rfl,M,B,Z,a3,a2,as,ap,a4,eq⟩;have g:=M _ _ J U;have back:∀{H4},Off D H3 H4->∀y o,y∉D->H y=some o->H4 y=some o:=fun{H4} o4 y o ny v=>o4 y o ny<|M y o ny<|s2 _ _ v;refine⟨fun C H'=>C=[some<|.ref a,some<|.ref c,some<|.ref l,some<|.str x,some<|.ref t,some<|.ref R]/\Off D H H'/\H' t=some (.dK<|Cp (oR (x::r) S Do).2)/\yq P w K aC H' a D (oR (x::r) S Do).1,?_,?_⟩
   ·refine⟨_,rfl,R,_,rfl,Z,_,_,rfl,rfl,_,rfl,UB (fun z=>?_)<|fun z=>?_⟩
    ·have ne:s≠[]:=fun q=>by
      rw[q]at z;have:=Zx z;exact absurd this (by show¬(0:Int)<0;decide)
     rw[Zr ne]at eq;refine⟨_,rfl,_,rfl,a,R,D,G,s,rfl,B,a3,.inl Z,a2,as,ap,a4,fun H4 N ab=>?_⟩;have X:=N _ _ J g;refine⟨_,rfl,_,rfl,t,_,rfl,sY.k (k:=.inr x) X<|xS (by unfold Cp;rw[Za];lia),rfl,?_,?_,?_⟩
     ·intro y o ny v;rw[zI (fun z=>by rw[z,A]at v;cases v)];exact back N y o ny v
     ·rw[zB,Nj,eq]
     ·rw[eq];exact ab.off (zW X) z7<|fun y hy z=>J<|Zb.mp z▸hy
    ·have e0:s=[]:=by
      cases s with
      |nil=>rfl
      |cons q s =>
       exfalso;refine z<|Ze ?_;unfold Cp;rw[Za,Zj];lia
     rw[Zy e0]at eq;refine⟨_,rfl,t,rfl,.inl ⟨_,.inl g⟩,_,rfl,Cp Do,.inr x,.str n0,g,rfl,v0,rfl,?_,?_,?_⟩
     ·intro y o ny v;rw[zI (fun z=>by rw[z,A]at v;cases v)];exact back (Off.refl _ _) y o ny v
     ·rw[zB,SG,eq]
     ·rw[eq];exact B.off (zW g) z7<|fun y hy z=>J<|Zb.mp z▸hy
   ·rintro C H4 ⟨rfl,N,a0,ab⟩;exact⟨_,rfl,k t H4 N A a0 ab⟩
theorem ok0 (F:xf0 K "rows_without" st f fd):yx P w K mg base Cn 8 f fd ["shelf","rows","labels"] (IV P w K aC 0) :=
 F.ok sc (fun _ _ _ _ _ _ _ _ _ h=>EE h) (fun _ _ _ _ h=>EE h)
include T in
theorem ok (F:xf0 K "rows_without" st f fd)(g:xj P w K mg base 5 "rows_of" ["store","tree"]<|wA P w K aC)(e:xj P w K mg base 8 "put_rows" ["shelf","rows"]<|wU P w K aC)(d:mg "rows_without"=some (.ref f))(b:wW K fd ["shelf","rows","labels"] []):yx P w K mg base Cn 12 f fd ["shelf","rows","labels"] (IV P w K aC 4):=by
 have i:=xj.mk' F (ok0 (P:=P) (w:=w) (mg:=mg) (base:=base) (aC:=aC) F) d b;have j:=xj.mk' F (step F T g e (by decide) (by decide) i) d b;have l:=xj.mk' F (step F T g e (by decide) (by decide) j) d b;have n:=xj.mk' F (step F T g e (by decide) (by decide) l) d b;exact step F T g e (by decide) (by decide) n
end AU
end
end An08
namespace An
open PySem L2 AnJ
theorem vP (ok:yd S):∀(p:Da) {d:Nat} {x n:Str},Tree d S x->atT S x p=some n->∃e,d=e+p.length/\Tree e S n/\(∀g:Fi,g∈zu e S n↔(p++g.1,g.2)∈zu d S x)/\(p≠[]->zu e S n≠[])
 |[],d,x,n,t,h=>by
  have h:some x=some n:=h;cases h;exact⟨d,rfl,t,fun g=>Iff.rfl,fun z=>absurd rfl z⟩
 |l::p,0,x,n,t,h=>absurd t<|fun z=>z
 |l::p,d+1,x,n,t,h=>by
  have h:p.foldl (wu S) (wu S (some x) l)=some n:=h;cases q:wu S (some x) l with
  |none=>rw[q,Xx]at h;cases h
  |some m =>
   rw[q]at h
   rcases IW ok x with⟨_,Do,att⟩|⟨_,not⟩
   ·rw[uC ok att]at q;obtain⟨s,rd⟩:=t.wz ok att;have hm:=jR q;obtain⟨_,C,ne⟩:=s.at_ _ hm;obtain⟨e,i,B,A,o⟩:=vP ok p C h;refine⟨e,by rw[i,Zj];lia,B,fun g=>?_,fun _=>?_⟩
    ·rw[A,rd,zj];constructor
     ·intro v;exact⟨_,hm,_,v,rfl⟩
     ·rintro⟨⟨y,n2⟩,w,k,hk,f⟩;injection f with f u;injection f with f j;have f:l=y:=f;subst f;have:n2=m:=by
       have r:=(y6 s.nd).mpr w;rw[q]at r;exact(Option.some.inj r).symm
      subst this;have j:p++g.1=k.1:=j;have:((p++g.1,g.2):Fi)=k:=LQ j u;rwa[this]
    ·cases p with
     |nil =>
      have h:some m=some n:=h;cases h;intro z;have i:d=e:=i;subst i;exact ne z
     |cons b p=>exact o<|ZU _ _
   ·rw[Hv not]at q;cases q
theorem uY (g:yd S){n:Str}{t:Th}(h:At S n t){w:Str}(ne:t.word≠w):zS S n [w]=false:=by
 cases q:zS S n [w] with
 |false=>rfl
 |true =>
  exfalso;unfold zS at q;obtain⟨e,b,q⟩:=Z2.mp q;rw[Zk,ZQ,ZQ]at q;obtain⟨f,d,_,_⟩:=g.th e b;have:=At.thing g h ⟨e,b,q.1,d⟩;subst this;rw[qJ d]at q;exact ne<|Zb.mp q.2
theorem Gz (h:At S n t):zS S n [t.word]=true:=by
 obtain⟨e,d,b,hd⟩:=h;refine Z2.mpr ⟨e,d,?_⟩;rw[Zk,ZC,ZC,qJ hd];exact⟨b,Zb.mpr rfl⟩
section
variable {d:Nat}{S:Di}{x:Str}{ls:Da}
theorem Fz (ok:yd S)(t:Tree d S x)(fr:wO (zu d S x) ls){p r:Da}(e:ls=p++r)(g:r≠[]){n:Str}(h:atT S x p=some n):zS S n ["leaf"]=false:=by
 obtain⟨k,i,f,b,_⟩:=vP ok p t h;cases k with
 |zero=>exact absurd f<|fun z=>z
 |succ k =>
  rcases f with⟨L,a⟩|⟨Do,a,_⟩
  ·exfalso;rw[yG ok a]at b;have:=(b ([],L)).mp<|Zb.mpr rfl;rw[ZK]at this;exact g<|fr _ this r<|.inl e
  ·exact uY ok a (by show("tree":Str)≠"leaf";decide +kernel)
theorem NR (ok:yd S)(t:Tree d S x)(fr:wO (zu d S x) ls)(j:ls≠[]){n:Str}(h:atT S x ls=some n):zS S n ["tree"]=false:=by
 obtain⟨k,o,f,l,ne⟩:=vP ok ls t h;have ne:=ne j;cases k with
 |zero=>exact absurd f<|fun z=>z
 |succ k =>
  rcases id f with⟨L,a⟩|⟨Do,a,_⟩
  ·exact uY ok a (by show("leaf":Str)≠"tree";decide +kernel)
  ·exfalso;cases q:zu (k+1) S n with
   |nil=>exact ne q
   |cons g gs =>
    have b:g∈zu (k+1) S n:=by rw[q];exact Zi ..
    have i:=fr _ ((l g).mp b) g.1<|.inr rfl;rw[(f.wz ok a).2,zj]at b;obtain⟨r,_,m,_,e⟩:=b;rw[e]at i;cases i
theorem XE (ok:yd S):∀(ls:Da) {d:Nat} {x:Str} {L:Da},Tree d S x->(ls,L)∈zu d S x->∃n,atT S x ls=some n/\At S n (.leaf L)
 |[],0,x,L,t,h=>absurd t<|fun z=>z
 |[],d+1,x,L,t,h=>by
  rcases id t with⟨L2,a⟩|⟨Do,a,_⟩
  ·rw[yG ok a]at h;have:=Zb.mp h;cases this;exact⟨x,rfl,a⟩
  ·exfalso;rw[(t.wz ok a).2,zj]at h;obtain⟨r,_,m,_,e⟩:=h;cases e
 |l::ls,0,x,L,t,h=>absurd t<|fun z=>z
 |l::ls,d+1,x,L,t,h=>by
  rcases id t with⟨L2,a⟩|⟨Do,a,_⟩
  ·exfalso;rw[yG ok a]at h;have:=Zb.mp h;cases this
  ·obtain⟨g,rd⟩:=t.wz ok a;rw[rd,zj]at h;obtain⟨⟨p,m⟩,f,k,hk,e⟩:=h;injection e with b i;injection b with b j;have b:l=p:=b;subst b;have:k=(ls,L):=LQ j.symm i.symm;rw[this]at hk;obtain⟨n,q,o⟩:=XE ok ls (g.at_ _ f).2.1 hk;refine⟨n,?_,o⟩;show ls.foldl (wu S) (wu S (some x) l)=some n;rwa[uC ok a,(y6 g.nd).mpr f]
end
noncomputable def Cv (S:Di)(x:Str)(ls lines:Da):List En×Str :=
 Cf (wR ls (Cf S<|.leaf lines).1 (Ct (Cf S<|.leaf lines).1 x) (Cf S<|.leaf lines).2).1 (.tree<|Uv (wR ls (Cf S<|.leaf lines).1 (Ct (Cf S<|.leaf lines).1 x) (Cf S<|.leaf lines).2).2)
noncomputable def outF (S:Di)(x:Str)(ls:Da):List En×Str:=Cf (oR ls S<|Ct S x).1<|.tree<|Uv (oR ls S<|Ct S x).2
def rR (S:Di)(x:Str)(ls:Da)(y:Str):Prop:=y=x\/∃b,At S x (.tree b)/\wV S b ls y
theorem wV.met (ok:yd S){Do:Dg}{ls:Da}{y:Str}(w:wV S Do ls y):∀{d:Nat},wZ d S Do->y∈Do.flatMap fun r=>met d S r.2:=by
 induction w with
 | @here Do l n ls h =>
  intro d b;refine YC.mpr ⟨_,h,?_⟩;cases d with
  |zero=>exact absurd (b.at_ _ h).2.1<|fun z=>z
  |succ d=>exact Zi ..
 | @down Do rs l n y ls h a _ ih =>
  intro d b;refine YC.mpr ⟨_,h,?_⟩;cases d with
  |zero=>exact absurd (b.at_ _ h).2.1<|fun z=>z
  |succ d =>
   rw[j4 ok a];exact Zf _<|ih ((b.at_ _ h).2.1.wz ok a).1
theorem rR.met (ok:yd S){x:Str}{ls:Da}{y:Str}{d:Nat}(t:Tree (d+1) S x)(w:rR S x ls y):y∈met (d+1) S x:=by
 rcases w with rfl|⟨b,a,w⟩
 ·exact FS
 ·rw[j4 ok a];exact Zf _<|w.met ok (t.wz ok a).1
section
variable {d:Nat}{S:Di}{x:Str}{ls lines:Da}{fs gs:Dk}{Do:Dg}
theorem Rx (ok:yd S)(t:Tree (d+1) S x)(a:At S x<|.tree Do)(L:ls≠[])(ld:ls.length<=d)(N:∀l∈ls,zP l=true)(ln:UN lines)(fr:wO (zu (d+1) S x) ls)(hl:(zu (d+1) S x).length<=61)(Q:S.length+ls.length+2<=2000)
  (rd:∀f,f∈gs↔(f∈zu (d+1) S x/\f.1≠ls)\/f=(ls,lines)) :
  ur (d+1) S gs (Cv S x ls lines)/\(Cv S x ls lines).1.length<=S.length+ls.length+1/\∃T,(Cv S x ls lines).1=S++T/\∀e∈T,rR (Cv S x ls lines).1 (Cv S x ls lines).2 ls e.nm:=by
 unfold Cv;obtain⟨g,i,M,v,b,n⟩:=jE ok (kF ln) (by lia);generalize Cf S (.leaf lines)=p at g i M b n;have D:yd (S++v):=by rwa[←b]
 have E:=t.more D ok;have H:At p.1 x (.tree Do):=by rw[b];exact a.more
 rw[←b]at E;obtain⟨J,r⟩:=E.1.wz g H;rw[jB g H];rw[E.2]at r;obtain⟨W,K⟩:=Nw ls (leaf:=p.2) (lines:=lines) L ld N g i J (by rwa[←r]) (by rw[←r];lia) (by lia);generalize wR ls p.1 Do p.2=q at W K;have X:=W.len;have U:=W.few;have O:=xL J;rw[←r]at O;have R:=W.oG.put W.ok (by lia) (by lia);generalize Cf q.1 (.tree<|Uv q.2)=u at R;obtain⟨F,w,A⟩:=W.new;obtain⟨G,j,B⟩:=R.new;have I:u.1=S++(v++(F++G)):=by rw[j,w,b];simp
 have o:∀{y},wV q.1 q.2 ls y->rR u.1 u.2 ls y:=fun{y} h=>.inr ⟨_,R.at_,(by rw[j];exact h.more:wV u.1 q.2 ls y).perm fun k hk=>(z5 q.2).mem_iff.mpr hk⟩;have s:∀e∈v++(F++G),rR u.1 u.2 ls e.nm:=fun e C=>by
  rcases ZB.mp C with z|z
  ·rw[n e z];exact o K
  ·rcases ZB.mp z with z|z
   ·exact o (A e z)
   ·exact .inl (B e z)
 have P:=R.len;refine⟨⟨R.ok,⟨_,I,fun e C=>(s e C).met R.ok R.tree⟩,R.tree,fun f=>?_,⟨_,R.at_⟩⟩,by lia,⟨_,I,s⟩⟩;rw[R.rd,W.rd,←r,rd]
theorem Sf (ok:yd S)(t:Tree (d+1) S x)(a:At S x<|.tree Do)(A:ls≠[])(ld:ls.length<=d)(D:(ls,lines)∈zu (d+1) S x)(hl:(zu (d+1) S x).length<=61)(E:S.length+ls.length+2<=2000)
  (rd:∀f,f∈gs↔f∈zu (d+1) S x/\f.1≠ls) :
  ur (d+1) S gs (outF S x ls)/\(outF S x ls).1.length<=S.length+ls.length+1/\∃T,(outF S x ls).1=S++T/\∀e∈T,rR (outF S x ls).1 (outF S x ls).2 ls e.nm:=by
 unfold outF;obtain⟨w,i⟩:=t.wz ok a;rw[jB ok a];have W:=M6 ls (lines:=lines) A ld ok w (by rwa[←i]) (by rw[←i];lia) (by lia);generalize oR ls S Do=q at W;have G:=W.len;have F:=W.few;have B:=xL w;rw[←i]at B;have R:=W.oG.put W.ok (by lia) (by lia);generalize Cf q.1 (.tree<|Uv q.2)=u at R;obtain⟨r,j,l⟩:=W.new;obtain⟨s,b,n⟩:=R.new;have v:u.1=S++(r++s):=by rw[b,j];simp
 have p:∀{y},wV q.1 q.2 ls y->rR u.1 u.2 ls y:=fun{y} h=>.inr ⟨_,R.at_,(by rw[b];exact h.more:wV u.1 q.2 ls y).perm fun k hk=>(z5 q.2).mem_iff.mpr hk⟩;have g:∀e∈r++s,rR u.1 u.2 ls e.nm:=fun e o=>by
  rcases ZB.mp o with z|z
  ·exact p (l e z)
  ·exact .inl (n e z)
 have C:=R.len;refine⟨⟨R.ok,⟨_,v,fun e o=>(g e o).met R.ok R.tree⟩,R.tree,fun f=>?_,⟨_,R.at_⟩⟩,by lia,⟨_,v,g⟩⟩;rw[R.rd,W.rd,←i,rd]
end
theorem BE (ok:yd S):∀(ls:Da) {d:Nat} {x:Str} {t L:Da},t≠[]->Tree d S x->(ls++t,L)∈zu d S x->∃n Do,atT S x ls=some n/\At S n (.tree Do)
 |ls,0,x,t,L,ht,tr,h=>absurd tr<|fun z=>z
 |[],d+1,x,t,L,ht,tr,h=>by
  rcases id tr with⟨L2,a⟩|⟨Do,a,_⟩
  ·rw[yG ok a]at h;have:=Zb.mp h;injection this with f g;exact absurd f ht
  ·exact⟨x,Do,rfl,a⟩
 |l::ls,d+1,x,t,L,ht,tr,h=>by
  rcases id tr with⟨L2,a⟩|⟨Do,a,_⟩
  ·exfalso;rw[yG ok a]at h;have:=Zb.mp h;cases this
  ·obtain⟨j,rd⟩:=tr.wz ok a;rw[rd,zj]at h;obtain⟨⟨q,m⟩,i,k,hk,e⟩:=h;injection e with b o;have b:l::(ls++t)=q::k.1:=b;injection b with b p;subst b;have:k=(ls++t,L):=LQ p.symm o.symm;rw[this]at hk;obtain⟨n,r,f,g⟩:=BE ok ls ht (j.at_ _ i).2.1 hk;refine⟨n,r,?_,g⟩;show ls.foldl (wu S) (wu S (some x) l)=some n;rwa[uC ok a,(y6 j.nd).mpr i]
section
variable {S:Di}{d:Nat}{x:Str}{ls:Da}{Do:Dg}
theorem OR (ok:yd S)(t:Tree d S x)(a:At S x<|.tree Do){f:Fi}(b:f∈zu d S x):f.1≠[]:=by
 cases d with
 |zero=>exact absurd t<|fun z=>z
 |succ d =>
  rw[(t.wz ok a).2,zj]at b;obtain⟨r,_,g,_,e⟩:=b;rw[e];exact ZU _ _
theorem RO (ok:yd S)(t:Tree d S x)(a:At S x<|.tree Do)(v:ls≠[])(o:∀j,j+1<ls.length->∀n,atT S x (ls.take<|j+1)=some n->zS S n ["leaf"]=false)(p:∀n,atT S x ls=some n->zS S n ["tree"]=false):wO (zu d S x) ls:=by
 intro f g r s
 rcases Mg (r=[]) with q|q
 ·exact q
 exfalso
 rcases s with e|e
 ·obtain⟨n,hn,b⟩:=XE ok f.1 t (L:=f.2) g;have l:=OR ok t a g;have u:0<f.1.length:=by
   cases z:f.1 with
   |nil=>exact absurd z l
   |cons _ _=>exact Nat.succ_pos _
  have w:0<r.length:=by
   cases z:r with
   |nil=>exact absurd z q
   |cons _ _=>exact Nat.succ_pos _
  have i:ls.take (f.1.length-1+1)=f.1:=by
   rw[Nat.sub_add_cancel u,e,Uo rfl]
  have:=o (f.1.length-1) (by rw[e,Zp];lia) n (by rwa[i]);rw[show zS S n ["leaf"]=true from Gz b]at this;cases this
 ·obtain⟨n,y,hn,b⟩:=BE ok ls q t (L:=f.2) (by rwa[←e]);have:=p n hn;rw[show zS S n ["tree"]=true from Gz b]at this;cases this
theorem R4 (ok:yd S)(t:Tree d S x){n:Str}(h:atT S x ls=some n)(f:zS S n ["leaf"]=true):∃L,(ls,L)∈zu d S x:=by
 obtain⟨e,j,b,i,_⟩:=vP ok ls t h;cases e with
 |zero=>exact absurd b<|fun z=>z
 |succ e =>
  rcases id b with⟨L,a⟩|⟨rs,a,_⟩
  ·refine⟨L,?_⟩;have:=(i ([],L)).mp (by rw[yG ok a];exact Zb.mpr rfl);have g:ls++([]:Da)=ls:=ZK ls;rw[g]at this;exact this
  ·rw[uY ok a (by show("tree":Str)≠"leaf";decide +kernel)]at f;cases f
end
end An
namespace An08
open PySem L2 An
seal L2.PS L2.sX L2.PE L2.PT L2.PW L2.PA L2.PG L2.pC L2.PI L2.oY L2.PC
theorem OY {o:Option Str}{w:Str}(h:∀n,o=some n->zS S n [w]=false):Uy S (N7 o) w=false:=by
 cases o with
 |none=>rfl
 |some n=>exact h n rfl
theorem k6 {ls:Da}(b:ls≠[])(h:∀l∈ls,zP l=true):Us (zc ls)=ls:=jO b fun y d=>xV<|h y d
theorem Xw {ls:Da}(b:ls.length<=4)(h:∀l∈ls,zP l=true):(zc ls).length<=1000:=by
 have:=uW h;rw[zb];lia
inductive sJ (P:Ej)(w:Ep)(K:Cc)(C b2:Ei)(vs:Dj)(H:Hp)(Q:VK)(E:XK):Prop
 |mk (a:Ei) (fp:Dd) (S:Di) (x:Str) (ls:Da) (Do:Dg) (h0:vs=[.ref a,.str x,.str<|zc ls]) (h1:yq P w K C H a fp S) (h2:yd S) (h3:Tree 5 S x) (h4:At S x<|.tree Do) (h5:ls≠[]) (h6:ls.length<=4) (h7:(∀l∈ls,zP l=true)) (h8:(wO (zu 5 S x) ls->∀H',zy H H'->Q .non H')) (h9:(¬wO (zu 5 S x) ls->∀H',zy H H'->E (.ref b2) none H')):sJ P w K C b2 vs H Q E
inductive rK (P:Ej)(w:Ep)(K:Cc)(C aN b1 b2:Ei)(vs:Dj)(H:Hp)(Q:VK)(E:XK):Prop
 |mk (a:Ei) (r u v:V) (h0:vs=[.ref a,r,u,v]) (h1:((∃(fp:Dd) (S:Di) (x:Str) (ls lines:Da) (Do:Dg),r=.str x/\u=.str (zc ls)/\yq P w K C H a fp S/\yd S/\Tree 5 S x/\At S x (.tree Do)/\ls≠[]/\ls.length<=4/\(∀l∈ls,zP l=true)/\Dt K H (AnJ.yh lines) v/\UN lines/\(zu 5 S x).length<=61/\S.length+10<=2000 /\ (wO (zu 5 S x) ls->∀H',Off fp H H'->yq P w K C H' a fp (Cv S x ls lines).1->Q (.str (Cv S x ls lines).2) H')/\(¬wO (zu 5 S x) ls->∀H',zy H H'->E (.ref b2) none H')) \/ (∃(fp:Dd) (S:Di) (d e g:Ek),yq P w K C H a fp S/\yd S/\Dw K H d r/\Dw K H e u/\small e=true/\Dw K H g v/\small g=true/\((Uy S d "tree"=false/\E (.ref aN) none H)\/(Uy S d "tree"=true/\UA e=false/\∀H',zy H H'->E (.ref b1) none H')\/(Uy S d "tree"=true/\UA e=true/\xP g=false/\∀H',zy H H'->E (.ref b2) none H'))))):rK P w K C aN b1 b2 vs H Q E
inductive qb (P:Ej)(w:Ep)(K:Cc)(C aN b1 b3:Ei)(vs:Dj)(H:Hp)(Q:VK)(E:XK):Prop
 |mk (a:Ei) (r u:V) (h0:vs=[.ref a,r,u]) (h1:((∃(fp:Dd) (S:Di) (x:Str) (ls:Da) (Do:Dg),r=.str x/\u=.str (zc ls)/\yq P w K C H a fp S/\yd S/\Tree 5 S x/\At S x (.tree Do)/\ls≠[]/\ls.length<=4/\(∀l∈ls,zP l=true)/\(zu 5 S x).length<=61/\S.length+10<=2000 /\ (ls∈(zu 5 S x).map (·.1)->∀H',Off fp H H'->yq P w K C H' a fp (outF S x ls).1->Q (.str (outF S x ls).2) H')/\(ls∉(zu 5 S x).map (·.1)->∀H',zy H H'->E (.ref b3) none H')) \/ (∃(fp:Dd) (S:Di) (d e:Ek),yq P w K C H a fp S/\yd S/\Dw K H d r/\Dw K H e u/\small e=true/\((Uy S d "tree"=false/\E (.ref aN) none H)\/(Uy S d "tree"=true/\UA e=false/\∀H',zy H H'->E (.ref b1) none H'))))):qb P w K C aN b1 b3 vs H Q E
theorem MO (h:Uy S (N7 o) w=true):∃n,o=some n/\zS S n [w]=true:=by
 cases o with
 |none=>cases h
 |some n=>exact⟨n,rfl,h⟩
theorem Bq (h:Uy S (N7 o) w=false):∀n,o=some n->zS S n [w]=false:=fun n hn=>by
 rw[hn]at h;exact h
section
variable {P:Ej}{w:Ep}{K:Cc}{mg:Str->Dc}{base:EB}{t1 t2 t3 t4 t5 t6 t7:Tok}{aL aC aN aT aA b1 b2 b3 b4 b5 b6:Ei}(T:Txt P w K mg t1 t2 t3 t4 t5 t6 t7 aL aC aN aT aA b1 b2 b3 b4 b5 b6)
namespace AV
abbrev st:Stmt:=top 53
theorem sc:zx ["shelf","root","path","folder"] ["shelf","root","path"] (zG st):=Co
include T in
theorem ok (F:xf0 K "need_free" st f fd)(Qv:xj P w K mg base 1 "folders_of" ["path"]<|qd K)(X:xj P w K mg base 5 "names_form" ["store","name","form"]<|nH P w K aC)(Y:wk P w K mg base 7 "found_at" ["store","root","path"]<|tD P w K aC aN b1):yx P w K mg base (Cw P w) 8 f fd ["shelf","root","path"] (sJ P w K aC b2):=by
 refine F.qm sc fun _ _ _ _ H vs Q E u h=>?_;obtain⟨a,I,S,x,b,U,rfl,sh,ok,C,g,J,M,B,k,kE⟩:=h;refine⟨_,(zD (xQ Ly rfl (jW<|zJ Qv u.m<|zA (pv 2) zC) (zR (i:=3) sc.nd rfl<|EL rfl)<|zE<|yI (zO (K:=K)<|zJ X u.m<|zA (pv 0)<|zA (yE Y u.m zX<|zA (pv 0)<|zA (pv 1)<|zA (pv 3) zC)<|zA zz zC) (zE<|xF rfl yX rfl T.vo T.vy<|zA zz zC) zQ)<|zE<|yI (zO (K:=K)<|zJ X u.m<|zA (pv 0)<|zA (yE Y u.m zX<|zA (pv 0)<|zA (pv 1)<|zA (pv 2) zC)<|zA zz zC) (zE<|xF rfl yX rfl T.vo T.vy<|zA zz zC) zQ),?_⟩
 have N:=k6 J B;refine⟨_,rfl,zc b,rfl,Xw M B,fun p H1 r sq=>⟨p,rfl,⟨_,sq⟩,uA (K:=K) (a:=p) (xs:=(UU<|zc b).map V.str) (fun i L D=>∃O,L=[some<|.ref a,some<|.str x,some<|.str<|zc b,O]/\zy H1 D/\∀j,j<i->j+1<b.length->∀n,atT S x (b.take<|j+1)=some n->zS S n ["leaf"]=false) ⟨none,rfl,zy.refl _,fun j e=>absurd e<|VO j⟩ (fun i L D _ ⟨_,_,d,_⟩=>d.seq sq) ?_ ?_⟩⟩
 ·rintro i v L D Z ⟨O,rfl,d,hb⟩;rw[Zs]at Z;obtain⟨z,A,rfl⟩:=ZS.mp Z;have A:(UU<|zc b)[i]?=some z:=A;unfold UU at A;rw[Zs,N]at A;obtain⟨j,e,s⟩:=ZS.mp A;have hi:i<b.length-1:=by
   obtain⟨h,_⟩:=Zv.mp e;rw[Yv]at h;exact h
  rw[VR hi]at e;cases e;have s:zc (b.take<|i+1)=z:=s;have t0:b.take (i+1)≠[]:=fun q=>by
   have:=congrArg List.length q;rw[ZG,Ym]at this;lia
  have R:∀l∈b.take (i+1),zP l=true:=fun y hy=>B y<|Y7 hy;have t4:(b.take<|i+1).length<=4:=by rw[ZG];lia
  have lz:Us z=b.take (i+1):=by rw[←s];exact k6 t0 R
  refine⟨_,rfl,_,rfl,_,rfl,_,rfl,a,I,S,.str x,.str z,.str x,.str z,rfl,sh.same<|r.trans d,ok,rfl,rfl,Ze (by rw[←s];exact Xw t4 R),.inl ⟨x,z,5,U,rfl,rfl,rfl,rfl,by rw[←s];exact jU t0 t4 R,g,C,fun G o=>?_⟩⟩;refine⟨a,I,S,N7<|atT S x<|Us z,oV<|atT S x<|Us z,"leaf",rfl,sh.same<|(r.trans d).trans o,ok.th,by cases atT S x (Us z)<;>rfl,_,rfl,?_⟩;rw[lz];cases q:Uy S (N7<|atT S x<|b.take<|i+1) "leaf" with
  |true =>
   obtain⟨n,hn,t⟩:=MO q;refine Ur ⟨Uw 1,kE (fun fr=>?_) G<|(r.trans d).trans o⟩;rw[Fz ok C fr (Z6 (i+1) b).symm (fun q=>by
    have:=congrArg List.length q;rw[YO,Ym]at this;lia) hn]at t
   cases t
  |false =>
   refine Ut ⟨_,rfl,d.trans o,fun j e hl=>?_⟩
   rcases Jw j i with h|h
   ·exact hb j h hl
   ·have:j=i:=by lia
    subst this;exact Bq q
 ·rintro L D ⟨O,rfl,d,hb⟩;refine⟨_,rfl,_,rfl,_,rfl,_,rfl,a,I,S,.str x,.str<|zc b,.str x,.str<|zc b,rfl,sh.same<|r.trans d,ok,rfl,rfl,Ze<|Xw M B,.inl ⟨x,zc b,5,U,rfl,rfl,rfl,rfl,jU J M B,g,C,fun G o=>?_⟩⟩;refine⟨a,I,S,N7<|atT S x<|Us<|zc b,oV<|atT S x<|Us<|zc b,"tree",rfl,sh.same<|(r.trans d).trans o,ok.th,by cases atT S x (Us<|zc b)<;>rfl,_,rfl,?_⟩;rw[N];have s3:=(r.trans d).trans o;cases q:Uy S (N7<|atT S x b) "tree" with
  |true =>
   obtain⟨n,hn,t⟩:=MO q;refine Ur ⟨Uw 1,kE (fun fr=>?_) G s3⟩;rw[NR ok C fr J hn]at t;cases t
  |false=>exact Ut (k (RO ok C g J (fun j e=>hb j (by rw[Za];unfold UU;rw[Za,Yv,N];lia) e) (Bq q)) G s3)
end AV
namespace AW
abbrev st:Stmt:=top 56
theorem sc:zx ["shelf","root","path","lines","labels","leaf"] ["shelf","root","path","lines"] (zG st):=Co
include T in
theorem ok (F:xf0 K "with_file" st f fd)(Qj:wk P w K mg base 6 "need_root" ["store","root"]<|vq P w K aC aN)(Qk:wk P w K mg base 3 "labels_of" ["path"]<|tM K b1)(Qi:xj P w K mg base 3 "is_lines" ["thing"]<|Ir K)(QW:wk P w K mg base 8 "need_free" ["shelf","root","path"]<|sJ P w K aC b2)(Qd:sU P w K mg base aC 7 "put" ["self","thing"]<|vm P w K aC aN aT)
  (Qa:xj P w K mg base 8 "put_rows" ["shelf","rows"]<|wU P w K aC) (Qx:xj P w K mg base 12 "rows_with" ["shelf","rows","labels","leaf"]<|v7 P w K aC 4) (Qb:xj P w K mg base 5 "rows_of" ["store","tree"]<|wA P w K aC):yx P w K mg base (Cw P w) 13 f fd ["shelf","root","path","lines"] (rK P w K aC aN b1 b2):=by
 refine F.qm sc fun _ _ _ _ H vs Q E t h=>?_;obtain⟨a,r,u,v,rfl,h⟩:=h;refine⟨_,(zD (yD<|yE Qj t.m zX<|zA (pv 0)<|zA (pv 1) zC)<|zD (Ck (i:=4) sc.nd<|yE Qk t.m zX<|zA (pv 2) zC)<|zD (yI (xD<|zO (K:=K)<|zJ Qi t.m<|zA (pv 3) zC) (zE<|xF rfl yX rfl T.vo T.vy<|zA zz zC) zQ)<|zD (yD<|yE QW t.m zX<|zA (pv 0)<|zA (pv 1)<|zA (pv 2) zC)<|zD (Ck (i:=5) sc.nd<|yZ (pv 0) T.cls Qd t.m zX<|zA (yJ<|zA zz<|zA (pv 3) zC) zC)<|zE<|zM<|zJ Qa t.m<|zA (pv 0)<|zA (zJ Qx t.m<|zA (pv 0)<|zA (zJ Qb t.m<|zA (pv 0)<|zA (pv 1) zC)<|zA (pv 4)<|zA (pv 5) zC) zC),?_⟩
 rcases h with⟨fp,S,x,ls,lines,Do,rfl,rfl,sh,ok,tr,att,l0,l4,lb,dv,ln,hl,sl,k,kE⟩|⟨fp,S,d,e,g,sh,ok,dw,ew,sm,gw,sg,h⟩
 rotate_left
 ·refine⟨_,rfl,_,rfl,a,fp,S,d,_,rfl,sh,ok.th,dw,fun q=>?_,fun q=>?_⟩
  rotate_left
  ·rcases h with⟨_,h⟩|⟨z,_⟩|⟨z,_⟩
   ·exact h
   ·rw[z]at q;cases q
   ·rw[z]at q;cases q
  refine⟨_,rfl,e,_,rfl,ew,sm,fun x' ex J l H1 j Y=>?_,fun z H1 j=>?_⟩
  rotate_left
  ·rcases h with⟨y,_⟩|⟨_,_,h⟩|⟨_,y,_⟩
   ·rw[y]at q;cases q
   ·exact h _ j
   ·rw[y]at z;cases z
  rcases h with⟨y,_⟩|⟨_,y,_⟩|⟨_,_,lg,h⟩
  ·rw[y]at q;cases q
  ·rw[ex,show UA (.str x')=UC x' from rfl,J]at y;cases y
  refine⟨_,rfl,g,v,rfl,Dw.same j _ _ gw,sg,fun H2 G=>⟨_,rfl,?_⟩⟩;rw[lg];exact XT ⟨Uw 1,h _<|j.trans G⟩
 have lp:=k6 l0 lb;have pj:=jU l0 l4 lb;refine⟨_,rfl,_,rfl,a,fp,S,.str x,_,rfl,sh,ok.th,rfl,fun q=>?_,fun q=>by rw[WH att]at q;cases q⟩;refine⟨_,rfl,.str<|zc ls,_,rfl,rfl,Ze<|Xw l4 lb,fun x' ex J l H1 j Y=>?_,fun z=>by rw[show UA (.str<|zc ls)=UC (zc ls) from rfl,show UC (zc ls)=true from pj]at z;cases z⟩;cases ex;rw[lp]at Y;obtain⟨lg,an⟩:xP (AnJ.yh lines)=true/\small (AnJ.yh lines)=true:=by
  constructor
  ·show(lines.map EI).all US=true;rw[List.all_map,ZA];exact ln.2
  ·show(decide ((lines.map EI).length<=1000)&&yH (lines.map .str))=true;rw[qG fun l hl=>(kD<|ln.2 l hl).len,Za,Ze (show lines.length<=1000 by have:=ln.1;lia)];rfl
 refine⟨_,rfl,AnJ.yh lines,v,rfl,Dt.dw<|Dt.same j _ _ dv,an,fun H2 G=>⟨_,rfl,?_⟩⟩;rw[lg];refine Gw ⟨_,rfl,_,rfl,_,rfl,a,fp,S,x,ls,Do,rfl,sh.same<|j.trans G,ok,tr,att,l0,l4,lb,fun fr U N=>?_,fun nf U N=>kE nf U<|(j.trans G).trans N⟩;have k:=k fr;have D:=(j.trans G).trans N;have I:=sh.same D;have a2:=(G.trans N).seq Y;have ab:=Dt.same D _ _ dv;clear j G N Y;obtain⟨ix,i1,i2,i3,al⟩:=jT I;refine⟨_,rfl,a,ix,_,rfl,al,rfl,_,rfl,Uw 2,fun M n4=>?_⟩;have R:=zF (o:=.tup [V.str "leaf",v]) n4;have d0:Dt K (upd U M<|.tup [V.str "leaf",v]) (Th.leaf lines).dat (.ref M):=⟨M,_,rfl,xg.of zB,_,_,rfl,rfl,_,_,rfl,Dt.same R _ _ ab,rfl⟩;delta U2;dsimp only;show vm P w K aC aN aT [V.ref a,V.ref M] (upd U M<|.tup [V.str "leaf",v]) _ _;refine He (I.same R) ok (Xt ln.2 ln.1) rfl (by lia) d0 fun H5 C s=>?_;have a3:xx K H5 l (ls.map V.str):=by
  have ns:=(I.same R).wB
  rcases R.seq a2 with(h|⟨ob,h⟩)|h
  ·refine .inl (.inl<|C _ _ (fun z=>?_) h);obtain⟨o,e,_,h2,_⟩:=ns l z;rw[h]at e;exact h2 _ (Option.some.inj e).symm
  ·refine .inl (.inr ⟨ob,C _ _ (fun z=>?_) h⟩);obtain⟨o,e,_,_,h3⟩:=ns l z;rw[h]at e;exact h3 _ _ (Option.some.inj e).symm
  ·exact .inr h
 have ap:Off fp H H5:=fun y o L ey=>C y o L<|R _ _<|D _ _ ey;obtain⟨b,B,l1,T1,n,ah⟩:=jE ok (kF ln) (by lia);unfold Cv at k;generalize Cf S (.leaf lines)=p at k b B l1 n ah s;have a0:yd (S++T1):=by rwa[←n]
 have tm:=tr.more a0 ok;have Z:At p.1 x (.tree Do):=by rw[n];exact att.more
 rw[←n]at tm;obtain⟨X,A⟩:=tm.1.wz b Z;rw[tm.2]at A;have A:zu 5 S x=Ce 4 p.1 Do:=A;rw[jB b Z]at k;have rl:=xL X;rw[←A]at rl;have W:=(Nw ls (leaf:=p.2) (lines:=lines) l0 l4 lb b B X (by rwa[←A]) (by rw[←A];lia)<|by lia).1;refine⟨_,rfl,_,rfl,_,rfl,_,rfl,a,fp,p.1,x,Do,rfl,s,b,Z,X.nd,fun c6 n6=>?_⟩;have v6:=zF (o:=.dK<|Cp Do) n6;refine⟨_,rfl,_,rfl,a,c6,l,fp,p.1,Do,ls,lines,p.2,4,rfl,s.same v6,b,zB,s.ex.not n6,v6.seq a3,l0,l4,l4,lb,B,X,by rw[←A];exact fr,by rw[←A];lia,by lia,fun c7 H7 ar n7 h7 O=>?_⟩;generalize wR ls p.1 Do p.2=q at W k h7 O;have wn:=W.len;have wf:=W.few;refine⟨a,c7,fp,q.1,q.2,rfl,O,W.ok,.inl h7,W.oG.nd,kO W.oG,by lia,by lia,fun H8 as a1=>?_⟩;exact k H8 (fun y o L ey=>as y o L<|ar y o L<|v6 _ _<|ap y o L ey) a1
end AW
namespace AX
abbrev st:Stmt:=top 57
theorem sc:zx ["shelf","root","path"] ["shelf","root","path"] (zG st):=Co
include T in
theorem ok (F:xf0 K "without_file" st f fd)(Qf:xj P w K mg base 5 "names_form" ["store","name","form"]<|nH P w K aC)(Qh:wk P w K mg base 7 "found_at" ["store","root","path"]<|tD P w K aC aN b1)(Y:xj P w K mg base 8 "put_rows" ["shelf","rows"]<|wU P w K aC)(Qy:xj P w K mg base 12 "rows_without" ["shelf","rows","labels"]<|IV P w K aC 4)(Z:xj P w K mg base 5 "rows_of" ["store","tree"]<|wA P w K aC)(Qk:wk P w K mg base 3 "labels_of" ["path"]<|tM K b1):yx P w K mg base (Cw P w) 13 f fd ["shelf","root","path"] (qb P w K aC aN b1 b3):=by
 refine F.qm sc fun _ _ _ _ H vs Q E i h=>?_;obtain⟨a,r,u,rfl,h⟩:=h;refine⟨_,(zD (yI (xD<|zO (K:=K)<|zJ Qf i.m<|zA (pv 0)<|zA (yE Qh i.m zX<|zA (pv 0)<|zA (pv 1)<|zA (pv 2) zC)<|zA zz zC) (zE<|xF rfl yX rfl T.lK T.lw<|zA zz zC) zQ)<|zE<|zM<|zJ Y i.m<|zA (pv 0)<|zA (zJ Qy i.m<|zA (pv 0)<|zA (zJ Z i.m<|zA (pv 0)<|zA (pv 1) zC)<|zA (yE Qk i.m zX<|zA (pv 2) zC) zC) zC),?_⟩
 rcases h with⟨fp,S,x,ls,Do,rfl,rfl,sh,ok,tr,att,l0,l4,lb,hl,sl,k,kE⟩|⟨fp,S,d,e,sh,ok,dw,ew,sm,h⟩
 rotate_left
 ·exact⟨_,rfl,_,rfl,_,rfl,_,rfl,a,fp,S,d,e,_,_,rfl,sh,ok,dw,ew,sm,.inr h⟩
 have J:=k6 l0 lb;have N:=jU l0 l4 lb;refine⟨_,rfl,_,rfl,_,rfl,_,rfl,a,fp,S,.str x,.str<|zc ls,.str x,.str<|zc ls,rfl,sh,ok,rfl,rfl,Ze<|Xw l4 lb,.inl ⟨x,zc ls,5,Do,rfl,rfl,rfl,rfl,N,att,tr,fun U t=>?_⟩⟩;rw[J];refine⟨a,fp,S,N7<|atT S x ls,oV<|atT S x ls,"leaf",rfl,sh.same t,ok.th,by cases atT S x ls<;>rfl,_,rfl,?_⟩
 rcases Mg (ls∈(zu 5 S x).map (·.1)) with hm|hm
 rotate_left
 ·have:Uy S (N7<|atT S x ls) "leaf"=false:=OY fun n hn=>by
   cases q:zS S n ["leaf"] with
   |false=>rfl
   |true =>
    obtain⟨L,hL⟩:=R4 ok tr hn q;exact absurd (Zd.mpr ⟨_,hL,rfl⟩) hm
  rw[this];exact XT ⟨Uw 1,kE hm U t⟩
 have k:=k hm;obtain⟨⟨b,lines⟩,I,v⟩:=Zd.mp hm;have v:b=ls:=v;subst v;obtain⟨n,hn,an⟩:=XE ok b tr I;rw[hn,show Uy S (N7<|some n) "leaf"=true from Gz an];have j:=sh.same t;obtain⟨s,g⟩:=tr.wz ok att;have g:zu 5 S x=Ce 4 S Do:=g;unfold outF at k;rw[jB ok att]at k;have rl:=xL s;rw[←g]at rl;have W:=M6 b (lines:=lines) l0 l4 ok s (by rwa[←g]) (by rw[←g];lia) (by lia);refine Gw ⟨_,rfl,_,rfl,_,rfl,_,rfl,a,fp,S,x,Do,rfl,j,ok,att,s.nd,fun c6 n6=>?_⟩;have R:=zF (o:=.dK<|Cp Do) n6;refine⟨_,rfl,.str<|zc b,_,rfl,rfl,Ze<|Xw l4 lb,fun x' ex ab l H2 C O=>?_,fun z=>by rw[show UA (.str<|zc b)=UC (zc b) from rfl,show UC (zc b)=true from N]at z;cases z⟩;cases ex;rw[J]at O;refine⟨a,c6,l,fp,S,Do,b,lines,4,rfl,(j.same R).same C,ok,C _ _ zB,O,l0,l4,l4,s,by rw[←g];exact I,by rw[←g];lia,by lia,fun c7 H7 A n7 G p=>?_⟩;generalize oR b S Do=q at W k G p;have wn:=W.len;have wf:=W.few;refine⟨a,c7,fp,q.1,q.2,rfl,p,W.ok,.inl G,W.oG.nd,kO W.oG,by lia,by lia,fun X B D=>?_⟩;exact k X (fun y o M ey=>B y o M<|A y o M<|C _ _<|R _ _<|t _ _ ey) D
end AX
end
end An08
namespace L2
open PySem PySem.Spec PyProof.Rows PySem.W
section
variable {X:Cx}
def Wu (H₀:Hp)(t:TS):TS:=fun D i H=>t { D with nx:=fun g e=>∃d f b,e d=some (.frz f<|.dK b)/\(∀o u,H₀ d≠some (.frz o u))/\D.nx g (upd e d<|.dK b),rt:=fun v e=>∃d f b,e d=some (.frz f<|.dK b)/\(∀o u,H₀ d≠some (.frz o u))/\D.rt v (upd e d<|.dK b) } i H
theorem P0 {st:EK}(h:PS X st t):PS X st (Wu X.H₀ t):=by
 intro j s o H D I q;refine Ch (h j s o H _ I q) fun f p z=>?_;cases f with
 |next =>
  obtain⟨b,l,e,d,n,i,hd,g,q⟩:=z;exact⟨b,_,e.mQ hd g,q⟩
 |ret v =>
  obtain⟨x,b,l,e,r,d,n,i,hd,g,q⟩:=z;exact⟨x,b,_,e.mQ hd g,r,q⟩
 |brk=>exact z
 |cont=>exact z
end
end L2
namespace An08
open PySem L2 An
seal L2.PS L2.sX L2.PE L2.PT L2.PW L2.PA L2.PG L2.pC L2.PI L2.oY L2.PC
def qi (p:Nat->Bool)(n:Nat)(x:Str):Prop:=(cs x).length=n/\(cs x).all p=true
theorem qi.at (h:qi p n x){i:Int}(d:0<=i)(e:i<n):∃c,Fa x.cps.toList i=some c/\p c=true:=by
 obtain⟨j,rfl⟩:=YQ d;have b:j<(cs x).length:=by rw[h.1];lia
 exact⟨(cs x)[j],y7<|Zl b,ZA.mp h.2 _<|Yt b⟩
theorem qi.len (h:qi p n x)(hn:n<=1000):x.length<=sizeLine:=zp (by rw[zb,h.1];lia)
def UG (ns:List Int)(k:Int):Int:=ns.getD k.toNat 0
inductive pX (K:Cc)(vs:Dj)(H:Hp)(Q:VK)(e3:XK):Prop
 |mk (a:Ei) (ns:List Int) (k:Int) (h0:vs=[.ref a,.int k]) (h1:xx K H a<|ns.map V.int) (h2:0<=k) (h3:Q (.int<|UG ns k) H):pX K vs H Q e3
def lU:Str:=" !\"#$&'()*+,-./0123456789:;<=>?@ABCDEFGHIJKLMNOPQRSTUVWXYZ[\\]^_`"++"abcdefghijklmnopqrstuvwxyz{|}~"
def sizeZ (c:Int):Int:=if c / 4 % 9=1 then 17+c / 36 % 4 else c % 4
def bC (c:Int)(i:Nat):Nat:=(Fa lU.cps.toList<|(c / 4*(0+(i:Int)+1)+c / 7+5*(0+(i:Int))) % 94).getD 0
def WK (c:Int)(n:Nat):List Nat:=(EM n).map<|bC c
def MU (c:Int):Str:=⟨(WK c (sizeZ c).toNat).toArray⟩
theorem Ph (c:Int)(n:Nat):WK c (n+1)=WK c n++[bC c n]:=by
 unfold WK;rw[List.range_succ,Zo];rfl
theorem OK (c:Int):cs (MU c)=WK c (sizeZ c).toNat:=rfl
def Hu:Sp:=fun d H Q _=>∃c,d=[.int c]/\∀x b,UR x=true->x=MU c->zy H b->Q (.str x) b
theorem RK (x:Str)(n:Nat):cs (My x none<|some (n:Int))=(cs x).take n:=WP x n
theorem Oa {x y:Str}:decide (My y none (some<|(x.length:Int)+1)=x++"/")=Ux x y:=by
 have b:cs ("/":Str)=[47]:=by decide +kernel
 have e:((x.length:Int)+1)=((x.length+1:Nat):Int):=by lia
 rw[Z4,ZC,BV,e];have d:My y none (some ((x.length+1:Nat):Int))=x++"/"↔(cs y).take ((cs x).length+1)=cs x++[47]:=by
  rw[←b,←zq,←zb,←RK];exact⟨fun z=>by rw[z],fun z=>yc z⟩
 rw[d];constructor
 ·intro h;refine⟨(cs y).drop<|(cs x).length+1,?_⟩;have:=Z6 ((cs x).length+1)<|cs y;rw[h,Z7]at this;exact this.symm
 ·rintro⟨t,h⟩;rw[h,show cs x++47::t=(cs x++[47])++t by simp,Uo<|by simp]
def HJ (ls:Da):Prop:=ls≠[]/\ls.length<=4/\∀l∈ls,zP l=true
def GM:Sp:=fun e H Q _=>∃c,e=[.int c]/\∀d b,HJ d->zy H b->Q (.str<|zc d) b
inductive pJ (vs:Dj)(H:Hp)(Q:VK)(e3:XK):Prop
 |mk (x y:Str) (h0:vs=[.str x,.str y]) (h1:x.length<=1000) (h2:y.length<=1000) (h3:Q (.bl<|Ux x y) H):pJ vs H Q e3
inductive oO (K:Cc)(vs:Dj)(H:Hp)(Q:VK)(e3:XK):Prop
 |mk (c:Ei) (Dm:Dl) (fs:Dk) (p:Str) (h0:vs=[.ref c,.str p]) (h1:H c=some (.dK Dm)) (h2:Dm.map (·.1)=fs.map (fun f=>(.inr (zc f.1):Key))) (h3:(∀f∈fs,(zc f.1).length<=1000)) (h4:p.length<=1000) (h5:∀H',zy H H'->Q (.bl<|fs.all fun f=>!(Ux (zc f.1) p||Ux p (zc f.1))) H'):oO K vs H Q e3
def TN (c:Int):Da:=(EM (c % 3).toNat).map fun(k:Nat)=>MU<|c / 3+7*(0+(k:Int))
def Xm (K:Cc):Sp:=fun e H Q _=>∃c,e=[.int c]/\∀p d b,zy H b->b p=some (.tup<|d.map V.str)->UN d->d=TN c->Q (.ref p) b
theorem pA:qi UO 26 "abcdefghijklmnopqrstuvwxyz":=⟨by decide +kernel,by decide +kernel⟩
theorem bi:Txt.mul "a" 7="aaaaaaa":=by decide +kernel
section
variable {P:Ej}{w:Ep}{K:Cc}{mg:Str->Dc}{base:EB}{t1 t2 t3 t4 t5 t6 t7:Tok}{aL aC aN aT aA b1 b2 b3 b4 b5 b6:Ei}(T:Txt P w K mg t1 t2 t3 t4 t5 t6 t7 aL aC aN aT aA b1 b2 b3 b4 b5 b6)
namespace AY
abbrev st:Stmt:=top 64
theorem sc:zx ["_law_script","_law_k"] ["_law_script","_law_k"] (zG st):=Co
include T in
theorem ok (F:xf0 K "_law_cell_at" st f fd):yx P w K mg base Cn 1 f fd ["_law_script","_law_k"] (pX K):=by
 refine F.ok sc fun _ _ _ _ H l Q E j h=>?_;obtain⟨a,ns,k,rfl,d,g,q⟩:=h;refine⟨_,(zD (yI (zU PK (pv 1) (zK z8 (by rfl) T.len ZZ<|zA (pv 0) zC)<|zV _) (zE<|zM<|yM (wD:Cq _<|rW K) (pv 0)<|pv 1) zQ)<|zE<|zM zH),?_⟩
 refine⟨_,rfl,_,rfl,a,_,rfl,.inl d,_,_,rfl,rfl,_,rfl,UB (fun h=>?_)<|fun h=>?_⟩
 ·have i:k<ns.length:=by simpa using h
  have b:k.toNat<ns.length:=by lia
  have hn:Fa (ns.map V.int) k=some (.int<|UG ns k):=by
   have e:((k.toNat:Nat):Int)=k:=Int.toNat_of_nonneg g
   conv=>lhs;rw[←e]
   refine y7 ?_;rw[Zs,Zl b];unfold UG;rw[Yl,Zl b];rfl
  exact⟨_,rfl,_,rfl,a,_,_,_,rfl,rfl,d,hn,q⟩
 ·have i:¬k<ns.length:=by simpa using h
  have e:UG ns k=0:=by
   unfold UG;rw[Yl,J5.mpr<|by lia];rfl
  rw[e]at q;exact q
end AY
namespace AZ
abbrev st:Stmt:=top 65
theorem sc:zx ["_law_cell","_law_some","_law_size"] ["_law_cell"] (zG st):=Co
include T in
theorem ok (F:xf0 K "_law_line_by" st f fd):yx P w K mg base Cn 1 f fd ["_law_cell"] Hu:=by
 refine F.ok sc fun _ _ _ _ H O Q E M h=>?_;obtain⟨c,rfl,k⟩:=h;refine⟨_,(zD (Ck (i:=1) sc.nd zz)<|zD (Ck (i:=1) sc.nd<|zZ yC (pv 1) zz)<|zD (Ck (i:=2) sc.nd<|zZ y9 (pv 0) zH)<|xN (yI (zU xJ (zZ y9 (zZ qB (pv 0) zH) zH) zH<|zV _) (zE<|Ck (i:=2) sc.nd<|zZ jM zH<|zZ y9 (zZ qB (pv 0) zH) zH) zQ)<|zE<|zM<|kX Yf JT JU Ia zz<|zA (qC (sc:=zG st) (N:=["_law_cell","_law_some","_law_size"]) (N':=["_law_k","_law_some","_law_cell"]) (src:=[none,some 1,some 0]) .a rfl rfl rfl (XL rfl T.range<|zA (pv 2) zC) (fun _ _ _ _=>(zR (i:=0) (show(["_law_k","_law_some","_law_cell"]:Da).Nodup by decide +kernel) rfl (EL rfl))) (fun _ _ _ _=>qY) (fun _ _ _ _=>(yM O7 (pv 1)<|zZ y9 (zZ jM (zZ jM (zZ Gp (zZ qB (pv 2) zH)<|zZ jM (pv 0) zH)<|zZ qB (pv 2) zH)<|zZ Gp zH<|pv 0) zH))) zC),?_⟩
 refine⟨_,rfl,_,_,rfl,rfl,zp<|by decide +kernel,_,rfl,_,_,rfl,rfl,(by show(0:Int)<4;decide),fun e q=>∃n S,e=[some<|.int c,some<|.str S,some<|.int n]/\q=H/\0<=n/\n<=20/\n=sizeZ c/\S=lU/\qi UL 94 S,?_,?_⟩
 ·refine⟨_,rfl,_,_,rfl,rfl,⟨by decide,by decide⟩,_,_,rfl,rfl,(by show(0:Int)<9;decide),rfl,_,rfl,UB (fun z=>?_)<|fun z=>?_⟩
  ·have z:c / 4 % 9=1:=by simpa using z
   exact⟨_,rfl,_,_,rfl,rfl,⟨by decide,by decide⟩,_,_,rfl,rfl,(by show(0:Int)<4;decide),_,_,rfl,rfl,_,_,rfl,rfl,by lia,by lia,by unfold sizeZ;rw[Zy z],rfl,by decide +kernel,by decide +kernel⟩
  ·have z:¬c / 4 % 9=1:=by simpa using z
   exact⟨_,_,rfl,rfl,by lia,by lia,by unfold sizeZ;rw[Zr z],rfl,by decide +kernel,by decide +kernel⟩
 ·rintro e q ⟨n,S,rfl,rfl,L,D,B,A,u⟩;refine⟨rfl,_,rfl,n,rfl,by lia,by lia,kM (fun i j o g=>∃x l,o=[x,some<|.str S,some<|.int c]/\g=q/\j=(l.map one).map V.str/\l.length=i/\l=WK c i/\∀c∈l,UL c=true) ⟨none,[],rfl,rfl,rfl,rfl,rfl,fun c G=>nomatch G⟩ (zp<|by lia)
   (fun i j o g I ⟨x,l,_,_,C,t,_,_⟩=>by rw[C,Za,Za,t];exact Zg _) ?_ ?_⟩
  ·rintro i j o g I ⟨x,l,rfl,rfl,rfl,rfl,v,s⟩;refine⟨_,rfl,_,rfl,_,_,rfl,rfl,⟨by decide,by decide⟩,_,rfl,_,_,rfl,rfl,_,_,rfl,rfl,.inr ⟨by lia,by lia⟩,_,rfl,_,_,rfl,rfl,⟨by decide,by decide⟩,_,_,rfl,rfl,_,rfl,_,_,rfl,rfl,.inl ⟨by decide,by decide⟩,_,_,rfl,rfl,_,_,rfl,rfl,(by show(0:Int)<94;decide),?_⟩;obtain⟨d,b,r⟩:=u.at (i:=(c / 4*(0+((l.length:Nat):Int)+1)+c / 7+5*(0+((l.length:Nat):Int))) % 94) (by lia) (by lia);refine⟨S,_,d,rfl,rfl,u.len<|by decide,b,_,l++[d],rfl,rfl,?_,by simp,?_,vN s r⟩
   ·rw[Zo,Zo];rfl
   ·rw[Ph,←v]
    congr 2
    unfold bC;rw[←A,b];rfl
  ·rintro j o g ⟨x,l,rfl,rfl,rfl,t,v,s⟩ p J;have y:("":Str).length=0:=by decide +kernel
   refine⟨_,p,l.map one,rfl,rfl,.inl<|xx.of zB,by rw[Hy,y];lia,k _ _ (rF.mpr ⟨?_,?_⟩) (yc<|by rwa[kJ,OK,←B])<|zF J⟩
   ·rw[zb,kJ];lia
   ·rwa[kJ,ZA]
end AZ
namespace A0
abbrev st:Stmt:=top 67
theorem sc:zx ["_law_one","_law_other"] ["_law_one","_law_other"] (zG st):=Co
include T in
theorem ok (F:xf0 K "_law_over" st f fd):yx P w K mg base Cn 1 f fd ["_law_one","_law_other"] pJ:=by
 refine F.ok sc fun _ _ _ _ H j Q E e h=>?_;obtain⟨x,y,rfl,g,i,k⟩:=h;refine⟨_,(zE<|zM<|yN xJ (j8 Wi (pv 1) vS<|kG<|zZ jM (zK xZ (by rfl) T.len ZZ<|zA (pv 0) zC) zH) (zZ yC (pv 0) zz)<|zV _),?_⟩;have b:("/":Str).length=1:=by decide +kernel
 rw[←Oa]at k;refine⟨_,rfl,_,rfl,x,rfl,zp<|by lia,_,_,rfl,rfl,_,rfl,_,rfl,zp<|by lia,_,rfl,_,_,rfl,rfl,zp (by rw[b];lia),rfl,?_⟩;have d:decide (V.str (My y none<|some<|(x.length:Int)+1)=V.str (x++"/"))=decide (My y none (some<|(x.length:Int)+1)=x++"/"):=by
  rw[Z4,ZC,ZC,V.str.injEq]
 rw[←d]at k;exact k
end A0
namespace A1
abbrev st:Stmt:=top 69
theorem sc:zx ["_law_cell"] ["_law_cell"] (zG st):=Co
include T in
theorem ok (F:xf0 K "_law_lines_by" st f fd)(s:xj P w K mg base 1 "_law_line_by" ["_law_cell"] Hu):yx P w K mg base Cn 2 f fd ["_law_cell"] (Xm K):=by
 refine F.ok sc fun _ _ _ _ H G Q E u h=>?_;obtain⟨c,rfl,k⟩:=h;refine⟨_,(zE<|zM<|yK kZ (by rfl) T.tuple Yu<|zA (qC (sc:=zG st) (N:=["_law_cell"]) (N':=["_law_k","_law_cell"]) (src:=[none,some 0]) .a rfl rfl rfl (XL rfl T.range<|zA (zZ y9 (pv 0) zH) zC) (fun _ _ _ _=>(zR (i:=0) (show(["_law_k","_law_cell"]:Da).Nodup by decide +kernel) rfl (EL rfl))) (fun _ _ _ _=>qY) (fun _ _ _ _=>(zJ s u.m<|zA (zZ jM (zZ qB (pv 1) zH)<|zZ Gp zH<|pv 0) zC))) zC),?_⟩;have C:0<=c % 3:=by lia
 have D:c % 3<3:=by lia
 refine⟨_,rfl,_,_,rfl,rfl,(by decide:(0:Int)<3),_,rfl,by lia,by lia,kM (fun i j n d=>∃o b,n=[o,some<|.int c]/\zy H d/\j=b.map V.str/\b.length=i/\b=(EM i).map (fun(k:Nat)=>MU<|c / 3+7*(0+(k:Int)))/\∀l∈b,UR l=true) ⟨none,[],rfl,zy.refl _,rfl,rfl,rfl,fun l hl=>(nomatch hl)⟩ (zp<|by lia) ?_ ?_ ?_⟩
 ·rintro i j n d t ⟨o,b,rfl,e,rfl,g,_,_⟩;rw[Za,g];exact Zg _
 ·rintro i j n d t ⟨o,b,rfl,e,rfl,g,r,q⟩;refine⟨_,rfl,_,_,rfl,rfl,⟨by decide,by decide⟩,_,rfl,_,_,rfl,rfl,.inl ⟨by decide,by decide⟩,_,_,rfl,rfl,_,rfl,fun x B v ex A=>⟨_,b++[x],rfl,e.trans A,by rw[Zo];rfl,by rw[Zp,g];rfl,by rw[List.range_succ,Zo,←r,ex];rfl,vN q v⟩⟩
 ·rintro j n d ⟨o,b,rfl,e,rfl,g,r,q⟩ p y;refine⟨p,_,rfl,.inl ⟨xx.of zB,fun z n2=>?_⟩⟩;exact k z b _ ((e.trans<|zF y).trans<|zF n2) zB ⟨by lia,q⟩ r
end A1
namespace A2
abbrev st:Stmt:=top 68
theorem sc:zx ["_law_files","_law_path","_law_other"] ["_law_files","_law_path"] (zG st):=Co
include T in
theorem ok (F:xf0 K "_law_free" st f fd)(I:xj P w K mg base 1 "_law_over" ["_law_one","_law_other"] pJ):yx P w K mg base Cn 2 f fd ["_law_files","_law_path"] (oO K):=by
 refine F.ok sc fun _ _ _ _ H U Q E J h=>?_;obtain⟨c,b,fs,p,rfl,y,M,R,O,k⟩:=h;refine⟨_,(zD (P0<|xQ EO rfl (Il<|v8<|pv 0) (zR (i:=2) sc.nd rfl<|EL rfl)<|zE<|yI (PW.pt<|uN (zO (K:=K)<|zJ I J.m<|zA (pv 2)<|zA (pv 1) zC)<|jJ<|zO (K:=K)<|zJ I J.m<|zA (pv 1)<|zA (pv 2) zC) (zE<|zM v9) zQ)<|zE<|zM v9),?_⟩
 refine⟨_,rfl,c,b,rfl,y,fun j=>?_⟩;have L:b.length=fs.length:=by
  have:=congrArg List.length M;rw[Za,Za]at this;exact this
 have e:upd H c (.frz j<|.dK b) c=some (.frz j<|.dK b):=zB;have N:∀o u,H c≠some (.frz o u):=fun o u z=>by rw[y]at z;cases z
 refine⟨c,j,b,rfl,e,IQ (fun i A n=>∃D,A=[some<|.ref c,some<|.str p,D]/\zy (upd H c<|.frz j<|.dK b) n/\((fs.take i).all fun f=>!(Ux (zc f.1) p||Ux p (zc f.1)))=true) ⟨none,rfl,zy.refl _,rfl⟩ (fun i A n C ⟨_,_,g,_⟩=>g _ _ e) ?_ ?_⟩
 ·rintro i S v A n C ⟨D,rfl,g,x⟩;have hl:=(Zv.mp C).1;have s:=Zl (l:=fs) (i:=i) (by rwa[←L]);have ek:=congrArg (fun l=>l[i]?) M;simp only[Zs,C,s,YA]at ek;have ek:S=.inr (zc fs[i].1):=Option.some.inj ek;generalize fs[i]=f at s ek;subst ek;have r:=R f<|Zt s;have B:(Ux (zc f.1) p||Ux p (zc f.1))=true->(fs.all fun f=>!(Ux (zc f.1) p||Ux p (zc f.1)))=false:=fun z=>by
   rw[Z0];intro q;have:=ZA.mp q f<|Zt s;rw[z]at this;cases this
  have t:(Ux (zc f.1) p||Ux p (zc f.1))=true->∃d j b,n d=some (.frz j<|.dK b)/\(∀o u,H d≠some (.frz o u))/\Q (.bl false) (upd n d<|.dK b):=fun z=>⟨c,j,b,g _ _ e,N,by
   rw[B z]at k;exact k _<|kS y g⟩
  refine⟨_,rfl,_,rfl,zc f.1,p,rfl,r,O,_,rfl,UB (fun z=>Ur<|t (by rw[z];rfl)) (fun z=>?_)⟩;refine⟨_,rfl,_,rfl,p,zc f.1,rfl,O,r,_,rfl,UB (fun G=>t<|by rw[G,Bool.or_true]) (fun G=>⟨_,rfl,g,?_⟩)⟩;rw[vz s,Vf,x];show(true&&(!(Ux (zc f.1) p||Ux p (zc f.1))&&true))=true;rw[Z0.mpr z,Z0.mpr G];rfl
 ·rintro A n ⟨D,rfl,g,x⟩;rw[L,ZJ]at x;refine⟨c,j,b,g _ _ e,N,?_⟩;rw[x]at k;exact k _<|kS y g
end A2
theorem ag {a b c d:Str}{i:Int}(e:0<=i)(f:i<4):∃x,Fa [V.str a,V.str b,V.str c,V.str d] i=some (.str x)/\(x=a\/x=b\/x=c\/x=d):=by
 match i,e,f with
 | 0,_,_=>exact⟨a,rfl,.inl rfl⟩
 | 1,_,_=>exact⟨b,rfl,.inr<|.inl rfl⟩
 | 2,_,_=>exact⟨c,rfl,.inr<|.inr<|.inl rfl⟩
 | 3,_,_=>exact⟨d,rfl,.inr<|.inr<|.inr rfl⟩
theorem Kl (h:UO d=true):zP ("aaaaaaa"++⟨#[d]⟩)=true:=by
 have e:cs ("aaaaaaa"++(⟨#[d]⟩:Str))=[97,97,97,97,97,97,97,d]:=by
  rw[zq,show cs ("aaaaaaa":Str)=[97,97,97,97,97,97,97] by decide +kernel];rfl
 refine uz.mpr ⟨by rw[zb,e];show 1<=8;decide,by rw[zb,e];show 8<=8;decide,?_⟩;rw[e];show(UO 97&&(UO 97&&(UO 97&&(UO 97&&(UO 97&&(UO 97&&(UO 97&&(UO d&&true))))))))=true;rw[h];rfl
namespace A3
abbrev st:Stmt:=top 66
theorem sc:zx ["_law_cell","_law_letters","_law_labels","_law_k","_law_label"] ["_law_cell"] (zG st):=Co
include T in
theorem ok (F:xf0 K "_law_path_by" st f fd):yx P w K mg base Cn 1 f fd ["_law_cell"] GM:=by
 refine F.ok sc fun _ _ _ _ H vs Q E hr h=>?_;obtain⟨c,rfl,k⟩:=h;refine⟨_,(zD (Ck (i:=1) sc.nd zz)<|zD (Ck (i:=2) sc.nd<|xA zC)<|zD (xQ EO rfl (XL rfl T.range<|zA (zZ jM zH<|zZ y9 (pv 0) zH) zC) (zR (i:=3) sc.nd rfl<|EL rfl)<|zD (Ck (i:=4) sc.nd<|yM (wD:Cq _<|rW K) (xA<|zA zz<|zA zz<|zA zz<|zA (zZ yC (zZ Ik zz zH)<|yM O7 (pv 1)<|zZ y9 (zZ qB (pv 0) zH) zH) zC)<|zZ y9 (zZ qB (pv 0)<|zZ jM zH<|zZ Gp zH<|pv 3) zH)<|zE<|yD<|kX Vk Vb Vc Xn (pv 2)<|zA (pv 4) zC)<|zE<|zM<|kX Yf JT JU Ia zz<|zA (pv 2) zC),?_⟩
 refine⟨ZN _,fun t s=>?_⟩;have U:=zF (o:=.lst []) s;have Y:0<=c % 4:=by lia
 have Z:c % 4<4:=by lia
 refine⟨_,rfl,_,_,rfl,rfl,(by decide:(0:Int)<4),_,_,rfl,rfl,_,rfl,by lia,by lia,NO (lo:=0) (n:=(1+c % 4).toNat) (fun i C j=>∃A B g,C=[some<|.int c,some<|.str "abcdefghijklmnopqrstuvwxyz",some<|.ref t,A,B]/\zy H j/\j t=some (.lst<|g.map V.str)/\g.length=i/\∀l∈g,zP l=true) ⟨none,none,[],rfl,U,zB,rfl,fun l hl=>(nomatch hl)⟩ ?_ ?_⟩
 ·rintro i C j I ⟨A,B,g,rfl,e,hl,r,lo⟩;have I:i<4:=by lia
  obtain⟨d,u,v⟩:=pA.at (i:=c / 64 % 26) (by lia) (by lia);have R:MulOk "a" 7:=⟨by decide,fun _ _=>by decide,fun _ _=>by decide⟩;have N:("aaaaaaa":Str).length=7:=by decide +kernel
  refine⟨"a",7,rfl,rfl,R,?_⟩;rw[bi];refine⟨_,rfl,_,rfl,_,_,rfl,rfl,⟨by decide,by decide⟩,_,_,rfl,rfl,(by decide:(0:Int)<26),_,_,d,rfl,rfl,pA.len<|by decide,u,_,_,rfl,rfl,zp (by rw[N];show 7+1<=_;decide),Uw 4,fun p S=>?_⟩;have D:=zF (o:=.lst [V.str "a",V.str "b",V.str "ab",V.str<|"aaaaaaa"++⟨#[d]⟩]) S;refine⟨_,rfl,_,rfl,_,_,rfl,rfl,.inl ⟨by decide,by decide⟩,_,_,rfl,rfl,_,_,rfl,rfl,⟨by lia,by lia⟩,_,_,rfl,rfl,(by decide:(0:Int)<4),?_⟩;obtain⟨x,J,X⟩:=ag (a:="a") (b:="b") (c:="ab") (d:="aaaaaaa"++⟨#[d]⟩) (i:=c / (4+12*(0+(i:Int))) % 4) (Y8 _<|by decide) (YN _<|by decide);have O:zP x=true:=by
   rcases X with z|z|z|z
   ·rw[z];decide +kernel
   ·rw[z];decide +kernel
   ·rw[z];decide +kernel
   ·rw[z];exact Kl v
  refine⟨p,_,_,_,rfl,rfl,xx.of zB,J,?_⟩;have q:=D _ _ hl;refine⟨_,rfl,.inl ⟨rfl,_,xx.of q⟩,_,rfl,t,_,_,rfl,rfl,q,xS (by rw[Za];lia),_,_,g++[x],rfl,An.zy.jg (e.trans D) s,by rw[zB,Zo];rfl,by rw[Zp,r];rfl,vN lo O⟩
 ·rintro C j ⟨A,B,g,rfl,e,hl,r,lo⟩;have G:("/":Str).length=1:=by decide +kernel
  have M:g.length<=4:=by lia
  refine⟨rfl,_,rfl,"/",t,g,rfl,rfl,.inl<|xx.of hl,?_,k g j ⟨fun z=>?_,M,lo⟩ e⟩
  ·have:=B9 (n:=8) g<|fun y L=>(uz.mp<|lo y L).2.1;rw[G];lia
  ·rw[z]at r;have r:0=(1+c % 4).toNat:=r;lia
end A3
inductive su (K:Cc)(vs:Dj)(H:Hp)(Q:VK)(e3:XK):Prop
 |mk (l:Ei) (ns:List Int) (h0:vs=[.ref l]) (h1:xx K H l<|ns.map V.int) (h2:ns.length<=50) (h3:∀c Dm fs H',zy H H'->H c=none->H' c=some (.dK Dm)->xr K H' fs Dm->yg 4 fs->List.length fs<=ns.length->Q (.ref c) H'):su K vs H Q e3
theorem IJ {ls:Da}(b:ls.length<=4)(h:∀l∈ls,zP l=true):(zc ls).length<=1000:=by
 have:=uW h;rw[zb];lia
namespace A4
abbrev st:Stmt:=top 70
theorem sc:zx ["_law_cells","_law_files","_law_cell","_law_path"] ["_law_cells"] (zG st):=Co
include T in
theorem ok (F:xf0 K "_law_files_by" st f fd)(X:xj P w K mg base 1 "_law_path_by" ["_law_cell"] GM)(U:xj P w K mg base 2 "_law_free" ["_law_files","_law_path"]<|oO K)(S:xj P w K mg base 2 "_law_lines_by" ["_law_cell"]<|Xm K):yx P w K mg base Cn 3 f fd ["_law_cells"] (su K):=by
 refine F.ok sc fun _ _ _ _ H vs Q E A h=>?_;obtain⟨l,ns,rfl,hl,ab,k⟩:=h;have hu:=Be A;refine⟨_,(zD (Ck (i:=1) sc.nd xY)<|zD (xQ EO rfl (jW<|pv 0) (zR (i:=2) sc.nd rfl<|EL rfl)<|zD (Ck (i:=3) sc.nd<|zJ X A.m<|zA (pv 2) zC)<|zE<|yI (zO (K:=K)<|zJ U A.m<|zA (pv 1)<|zA (pv 3) zC) (zE<|qO hu (pv 1) (pv 3) (zJ S A.m<|zA (zZ qB (pv 2) zH) zC) rfl) zQ)<|zE<|zM<|pv 1),?_⟩
 refine fun c J=>?_;have R:=zF (o:=.dK []) J;refine⟨_,rfl,l,rfl,⟨_,R.seq hl⟩,uA (K:=K) (a:=l) (xs:=ns.map V.int) (fun i B j=>∃L M g fs,B=[some<|.ref l,some<|.ref c,L,M]/\zy H j/\j c=some (.dK g)/\xr K j fs g/\yg 4 fs/\fs.length<=i) ⟨none,none,[],[],rfl,R,zB,xr.nil,⟨fun f r=>(nomatch r),Yn,fun f r=>(nomatch r)⟩,ZN _⟩ (fun i B j _ h=>?_) ?_ ?_⟩
 ·obtain⟨_,_,_,_,_,e,_⟩:=h;exact e.seq hl
 ·rintro i v B j G ⟨L,M,g,fs,rfl,e,t,q,gf,D⟩;have il:=(Zv.mp G).1;rw[Za]at il;rw[Zs]at G;obtain⟨x,_,rfl⟩:=ZS.mp G;refine⟨_,rfl,x,rfl,fun d H1 lb s=>?_⟩;obtain⟨N,O,I⟩:=lb;have pl:=IJ O I;refine⟨_,rfl,_,rfl,c,g,fs,zc d,rfl,s _ _ t,q.keys,fun f r=>IJ (gf.wN f r).2.1 (gf.wN f r).2.2.1,pl,fun H2 y=>⟨_,rfl,UB (fun z=>?_)<|fun z=>⟨_,_,g,fs,rfl,(e.trans s).trans y,(s.trans y) _ _ t,q.same<|s.trans y,gf,by lia⟩⟩⟩;refine⟨_,rfl,_,_,rfl,rfl,⟨by decide,by decide⟩,_,rfl,fun p b C Y hp ln _=>?_⟩;have n:=(s.trans y).trans Y;have u:=n _ _ t;have fr:∀k∈fs,Ux (zc k.1) (zc d)=false/\Ux (zc d) (zc k.1)=false:=fun k hk=>by
   have:=ZA.mp z k hk;rw[Yj,YG]at this;exact this
  have dv:Dt K C (AnJ.yh b) (.ref p):=⟨p,_,rfl,xg.of hp,za.strs _⟩;have Z:=(q.same n).put gf (f:=(d,b)) N I dv ln;have pc:Off [c] C (upd C c<|.dK<|ye g (.inr<|zc d)<|.ref p):=z7;refine⟨_,rfl,_,rfl,c,_,rfl,sY.k (k:=.inr<|zc d) u<|xS (by have:=q.len;lia),_,_,_,U4 fs (d,b),rfl,An.zy.jg (e.trans n) J,zB,Z.off (zW u) pc,gf.put (f:=(d,b)) N O I ln fr,?_⟩;have:=Od fs (d,b);lia
 ·rintro B j ⟨L,M,g,fs,rfl,e,t,q,gf,D⟩;rw[Za]at D;exact⟨_,rfl,k c g fs j e J t q gf D⟩
end A4
end
end An08
namespace L2
open PySem PySem.Spec PyProof.Rows
theorem G2:entryFor table "proto.unchain"=some Builtin.«proto.unchain»:=entryFor_of_tree (by kernel_rfl)
section
variable {prog:Ej}{w:Ep}{A:ED}{E:Eh->Dh}{s:Em}
theorem Nh {n:Type}{e x:Ei}{g i:Obj}{j l:Array Eh}{Q:n->Dh}(p:A.handled=some (.ref x))(ne:x≠e)(f:s.heap.get? e=some g)(b:g.data=.fields j)(hz:2<j.size)(q:s.heap.get? x=some i)(d:i.data=.fields l)(o:l[2]?=some .none)
  (h:E (.ref e) { s with heap:=s.heap.update e (Lk (·.setIfInBounds 2 (.ref x))) }):El (Es prog w) A (raiseNew (.ref e):Sem n) Q E s:=by
 unfold raiseNew;refine Q9<|wpAny_handled ?_;rw[p];have hb:(Eu x !=Eu e)=true:=by simp[ne]
 simp only[hb,V5];refine Q9<|Yb<|VY<|YH G2 ?_;show El _ _ (field (.ref x) 2>>=_) _ _ s;refine Q9<|Y6 q d o ?_;simp only[show(EC==EC)=true from rfl,V5];refine Q9<|Zh<|Zh ?_;refine Q9 ?_;unfold updateField;refine Q9<|Uf f ?_;rw[b];simp only[Zy hz];refine wpAny_update f ?_;exact wpAny_throw h
theorem Kk {it l x:Ei}{i:Nat}{Dn:Array Eh}{u:Obj}{v:Array Eh}{Q:Dc->Dh}(D:A.handled=some (.ref x))(F:s.heap.get? x=some u)(j:u.data=.fields v)(C:v[2]?=some .none)(t:it≠x)
  (d:s.heap.IsListIter it l i) (hl:s.heap.IsList l Dn) (n:Dn[i]?=none) (B:∀h',Heap.ExtBut it s.heap h'->Q none { s with heap:=h' }):El (Es prog w) A (LN<|.ref it) Q E s:=by
 obtain⟨o,p,_,hd⟩:=id d;obtain⟨G,q,_,nl,g⟩:=id hl;unfold LN;refine Q9<|Jy<|Ys (name:=EQ "__next__") d.typeIs slot_listiter_next<|Yg slot_listiter_next d.typeIs entry_listiter_next ?_<|args_listiter_next _;show El _ _ (field (.ref it) 0>>=_) _ _ _;refine Q9<|Y6 p hd (x:=.ref l) rfl ?_;show El _ _ (if(Eu l==EC)=true then _ else _) _ _ _;rw[Zr<|show¬(Eu l==EC)=true from ZM];show El _ _ (field (.ref it) 1>>=_) _ _ _;refine Q9<|Y6 p hd (x:=.int i 0) rfl ?_;show El _ _ (seqItems? (.ref l)>>=_) _ _ _;refine Q9<|Vp q g ?_;simp only[V4,n];refine Q9 (JK<|Q9<|YL p hd (by simp) ?_);show El _ _ (newExc (.type "StopIteration") []>>=_) _ _ _;refine Q9 ?_;simp only[newExc,newTuple];refine Q9 (ZX ?_<|by size_fits);refine Q9 (m:=Lr _ _) (Ju (a:=EC) (by first|rfl|(simp only[Lr];rfl)) ?_);refine ZX ?_ (by size_fits);have kx:∀b f,b≠it->s.heap.get? b=some f->((s.heap.update it (Lk (·.setIfInBounds 0 EC))).push { cls:=Value.type "tuple",data:=Data.seq #[] }).get? b=some f:=fun b f r e=>Zc _ (by rwa[Ye _ _<|Ey r]);have y:=kx x u (Ey t) F;refine Nh (x:=x) D (Zz<|Zu y) (Zq _ rfl) rfl (by simp;lia) (Zc _ y) j C ?_;refine Q9<|Ji (T:="StopIteration") (b:=true) ⟨_,Yc _ (Zq _ rfl)<|LM<|LI rfl _,Obj.cls_mapFields _ _⟩ VX ?_;refine Zh<|B _ fun b f r e=>?_;have z:=kx b f r e;rw[Ye _ _<|Y3<|Zu z];exact Zc _ z
end
def Wq (x:Ei)(o:TE)(g:TG)(n:TS):TS:=fun D b H=>o b H fun v j=>∃(a:Ei) (e:Dj) (cls:Eh) (d:Nat->St->Hp->Prop),v=.ref a/\d 0 b j/\(∀i b H,d i b H->H a=some (.lst e)/\H x=some (Xh x cls)) /\
 (∀i y b H,e[i]?=some y->d i b H->g y b H fun f l=>n { D with nx:=d<|i+1,ct:=d<|i+1,bk:=D.nx } f l)/\∀b H,d e.length b H->D.nx b H
section
variable {X:Cx}{tg:EG}
theorem F5 {pos:Pos}{x:Ei}(M:PassesOwn (Es X.prog X.w) X.A X.env X.xe)(hh:X.A.handled=some (.ref x))(hi:PE X iter te)(hg:PG X tg g)(hb:sX X body tb)
  (hs:∀x,Md iter X.env x=LC x:=by intro _;rfl):PS X (.For tg iter body [] pos) (Wq x te g tb):=by
 intro F s σ H D I h;refine wpAny_For (Ch (hi F s σ H _ I h) fun v l ⟨y,H1,T,r1,q1⟩=>?_) hs;obtain⟨a,C,cls,Pv,rfl,p0,pa,step,O⟩:=q1;cases r1;obtain⟨a3,rv,pl,hz⟩:=T.list<|xx.of (pa _ _ _ p0).1;refine JV pl.isList ?_;have I2:Inv X F σ H1 { l with heap:=l.heap.push { cls:=.type "list_iterator",data:=.fields #[.ref a,.int 0 0] } }:=T.kept (t':=l.toks) fun b o e=>Zc _ e;have ok0:Xe X F H1 l.heap.objs.size:=T.rY (Zg _)<|T.hok.fresh<|Zg _;have J:∀{r:Hp},r l.heap.objs.size=none->Xe X F r l.heap.objs.size:=fun hn=>⟨hn,ok0.2⟩;refine codeAny_forLoop_any (fun n s'=>∃i p r,Inv X F p r s'/\s'.heap.IsListIter l.heap.objs.size a i/\r l.heap.objs.size=none/\Pv i p r/\i<=C.length/\n=C.length-i) ?_ C.length ⟨0,σ,H1,I2,⟨_,Zq _ rfl,rfl,rfl⟩,ok0.1,p0,ZN _,rfl⟩;rintro n Z ⟨i,q,K,U,S,E,p3,as,en⟩;obtain⟨ab,N⟩:=pa _ _ _ p3;obtain⟨ar,R,Q,a2⟩:=U.list<|xx.of ab;obtain⟨f0,f1,f2,f3,f4,f5⟩:=J E;have a0:=R.length
 by_cases L:i<C.length
 ·have hx:C[i]?=some C[i]:=Zl L;obtain⟨u,hu,ru⟩:=R.get hx;refine YM M (wpAny_pyNext_list_item S Q.isList (x:=u) (by simpa using hu) fun Y an sb=>?_);have I4:Inv X F q K { Z with heap:=Y }:=U.turned (t':=Z.toks) (fun b o hb e=>(sb.2 b hb).trans e) f0 f1 f3 f4 f5;obtain⟨o,e,c,d⟩:=id an;refine YM M (FA (s:={ Z with heap:=Y }) e c d (by decide) ?_);have I5:=I4.pinned (fp:=[l.heap.objs.size]) (fun b hb=>by rw[Zb.mp hb];exact J E) (fun b hb=>⟨o,by rw[Zb.mp hb];exact e,fun v z=>by rw[d]at z;cases z⟩);refine YM M<|Ch (hg _ _ q K _ u _ I5 ru<|step i _ q K hx p3) fun _ s6 ⟨ap,H6,I6,q6⟩=>?_;refine YM M<|Ch (hb _ s6 ap H6 _ I6 q6) fun f s7 G=>?_;have again:∀{j:St} {t:Hp},Inv X (F++vZ [l.heap.objs.size] Y) j t s7->Pv (i+1) j t->∃m,m<n/\∃i p r,Inv X F p r s7/\s7.heap.IsListIter l.heap.objs.size a i/\r l.heap.objs.size=none/\Pv i p r/\i<=C.length/\m=C.length-i:=fun{j t} B P=>by
   have pn:=B.pin (l.heap.objs.size,o)<|ZL _<|ZL _<|qX (Zb.mpr rfl) e;exact⟨C.length-(i+1),by lia,i+1,j,t,B.uv,⟨o,pn.1,c,d⟩,pn.2.1,P,L,rfl⟩
  cases f with
  |next=>obtain⟨j,t,B,P⟩:=G;exact again B P
  |cont=>obtain⟨j,t,B,P⟩:=G;exact again B P
  |brk=>obtain⟨j,t,B,G⟩:=G;exact⟨j,t,B.uv,G⟩
  |ret v=>obtain⟨x7,j,t,B,r7,G⟩:=G;exact⟨x7,j,t,B.uv,r7,G⟩
 ·have ei:i=C.length:=by lia
  subst ei;obtain⟨⟨ox,vx,ah,a1,al,am⟩,_⟩:=U.hok x _ N;refine YM M (Kk hh ah al am (fun z=>by rw[z,N]at E;cases E) S Q.isList (by simp;lia) fun Y eb=>?_);exact Vd ⟨q,K,U.turned (t':=Z.toks) (fun b o hb e=>eb b o hb e) f0 f1 f3 f4 f5,O q K p3⟩
end
structure pH (P:Ej)(w:Ep)(K:Cc)(mg:Str->Dc)(base:EB)(k:Nat)(f:Ei)(fd:Eo)(ps:Da)(sp:Ei->Sp):Prop where
 len:∀x vs H Q E,sp x vs H Q E->vs.length=ps.length
 run:∀(x:Ei) (A:ED) (outer:List Env) (s:Em) (H:Hp) (args:Args) (us:Db) (vs:Dj) (Q:VK) (E:XK),tU k A->A.handled=some (.ref x)->qt P w K mg base A outer s H->BindsTo s fd args (ps.zip us)->yu vs us->sp x vs H Q E ->
  LK (Es P w) A (.call (.ref f) args) (CR Cn outer P w H s Q E) s
section
variable {P:Ej}{w:Ep}{K:Cc}{mg:Str->Dc}{base:EB}
theorem xf.iY {st:EK}{k:Nat}(F:xf K x qual st f fd)(S:zx N ps<|zG st){A:ED}{outer:List Env}{s:Em}{H:Hp}{args:Args}{us:Db}{vs:Dj}{Q:VK}{E:XK}
  (G:tU (k+1) A) (j:qt P w K mg base A outer s H) (hb:BindsTo s fd args<|ps.zip us) (r:yu vs us) (hl:vs.length=ps.length)
  (M:∀(cdv:Eh),tU k (A.deeper<|Mi qual (zG st) s.heap.objs.size f cdv)->∃t,sX (WQ P w K mg base N qual (zG st) f cdv A outer s H E) (xI st) t/\t { nx:=fun _ H'=>Q .non H',rt:=Q } (start N vs) H) :
  LK (Es P w) A (.call (.ref f) args) (CR Cn outer P w H s Q E) s:=by
 obtain⟨oc,od,kV,O,pm,an,cdv,ct,ab,rfl,Z,p⟩:=F.ex;have D:K.In s.heap:=j.mod.mK.keeps fun b o e=>(j.bs b o e).1;have z:s.heap.NoLimit:=j.mod.nolimit.keeps fun b o e=>(j.bs b o e).1;have g:∀y∈ps.zip us,(zG st).names.lookup y.1=some .local\/((zG st).names.lookup y.1=some .cell/\((cellsFrom (s.heap.objs.size+1) (zG st).names []).lookup y.1).isSome=true):=fun⟨n,v⟩ Y=>by
  rcases S.par n (JN Y).1 with q|q
  ·exact .inl q
  ·exact .inr ⟨q,Vl _ _ _<|.inl q⟩
 refine codeAny_call_function (by have:=G.dp;lia) (D _ _ Z) rfl S.co S.gen rfl (PySem.W.codeRec_of D p)<|hb _ _ _ _ ?_;refine wpAny_newFunctionEnv_cells S.kind g fun env T L x=>?_;subst T;refine⟨z.keeps x.toInCall.keep,codeAny_func ?_⟩;obtain⟨t,X,U⟩:=M cdv<|G.deeper _;have I:Inv (WQ P w K mg base N qual (zG st) f cdv A outer s H E) [] (start N vs) H L:=Kc S j hl r x;refine Yr (X [] L (start N vs) H _ I U) (fun R C i=>?_) fun e C i=>EE i;have l:∀{d:St} {H':Hp} {v:V} {u:Eh},Inv (WQ P w K mg base N qual (zG st) f cdv A outer s H E) [] d H' C->yt v u->Q v H'->CE outer P w H s Q u C :=
  fun{d H' v u} J B q=>⟨v,H',J.os,J.bare,J.base,J.hok,B,q⟩
 cases R with
 |ret u =>
  obtain⟨v,d,H',J,B,q⟩:=i;exact l J B q
 |next =>
  obtain⟨d,H',J,q⟩:=i;exact l (v:=V.non) (u:=EC) J rfl q
 |brk =>
  obtain⟨_,_,_,q⟩:=i;exact EE q
 |cont =>
  obtain⟨_,_,_,q⟩:=i;exact EE q
theorem xf.okE {st:EK}{k:Nat}{sp:Ei->Sp}(F:xf K x qual st f fd)(S:zx N ps<|zG st)(len:∀z vs H Q E,sp z vs H Q E->vs.length=ps.length)
  (g:∀(z:Ei) (cdv:Eh) (A:ED) (outer:List Env) (s:Em) (H:Hp) (vs:Dj) (Q:VK) (E:XK),tU k (A.deeper<|Mi qual (zG st) s.heap.objs.size f cdv)->A.handled=some (.ref z)->sp z vs H Q E -> ∃t,sX (WQ P w K mg base N qual (zG st) f cdv A outer s H E) (xI st) t/\t { nx:=fun _ H'=>Q .non H',rt:=Q } (start N vs) H):pH P w K mg base (k+1) f fd ps sp :=
 ⟨len,fun z A outer s H e n vs Q E l j i hb r b=>F.iY S l i hb r (len _ _ _ _ _ b) fun cdv d=>g z cdv A outer s H vs Q E d j b⟩
end
structure nu (P:Ej)(w:Ep)(K:Cc)(mg:Str->Dc)(base:EB)(k:Nat)(x:Str)(ps:Da)(sp:Ei->Sp):Prop where
 ex:∃(f:Ei) (fd:Eo),pH P w K mg base k f fd ps sp/\mg x=some (.ref f)/\ES K (.ref f)=true/\wW K fd ps []
theorem nu.mk' {K:Cc}{st:EK}(F:xf K x qual st f fd)(G:pH P w K mg base k f fd ps sp)(hm:mg x=some (.ref f))
  (b:wW K fd ps []):nu P w K mg base k x ps sp:=⟨f,fd,G,hm,F.kp,b⟩
section
variable {X:Cx}
theorem PM {e:EG}{es:List EG}{p pos:Pos}{z:Ei}(C:nu X.prog X.w X.K X.mg X.base k x ps sp)(J:tU k X.A)(G:X.A.handled=some (.ref z))(ha:PA X (e::es) t)(E:Gl X x:=by rfl)
  (i:(x==("__debug__":Str))=false:=by decide) (D:Ew (e::es) X.env=(false,E3 e X.env)::Ew es X.env:=by rfl) (j:(Lb pos<|Ew es X.env).any (·.1)=false:=by rfl) :
  PE X (.Call (.Name x p) (e::es) [] pos) (Rr (sp z) [] E0 t):=by
 obtain⟨f,M,F,hm,hk,hb⟩:=C.ex;intro n s B H Q I h;refine Y1<|kC I E hm ?_ i;refine Jo (h₀:=X.base) I.ok.mod.mK hk (Ch (ha pos n s B H _ I h) fun g l ⟨y,o,b,r,q⟩=>⟨b.tQ,?_⟩) D j;have v:yu (y++[]) (g++[]):=r.append .nil;have hl:(g++[]).length=ps.length:=by rw[←v.length];exact F.len _ _ _ _ _ q
 refine Vg<|Y4 (F.run z X.A X.stack l o ⟨g,[]⟩ (g++[]) (y++[]) Q E0 J G b.env0 (hb l g b.tQ hl) v q) fun r L d=>?_;cases r with
 |error e=>exact F4 n B o l e L b d
 |ok fl =>
  cases fl with
  |ret u=>exact b.after d
  |next=>exact EE d
  |brk=>exact EE d
  |cont=>exact EE d
end
end L2
namespace An08
open PySem L2 An
seal L2.PS L2.sX L2.PE L2.PT L2.PW L2.PA L2.PG L2.pC L2.PI L2.oY L2.PC
theorem yA {i:Nat}{v:V}{b:St}{H:Hp}{Q:St->Hp->Prop}(h:Q (b.set i (some v)) H):UT i v b H Q:=h
@[elab_as_elim] theorem nw {motive:Hp->Prop} {H:Hp} {l:Ei} {o:HO} (n:H l=none) (k:∀H',zy H H'->H' l=some o->motive H'):motive (upd H l o):=k _ (zF n) zB
def UP (b d e a:Ei):Str:=if a=b then"name" else if a=d then"path" else if a=e then"files" else"fit"
inductive rG (aN b1 b2 b3 z:Ei)(vs:Dj)(H:Hp)(Q:VK)(e3:XK):Prop
 |mk  (h0:vs=[.ref z]) (h1:∃a∈[aN,b1,b2,b3],H z=some (Xh z<|.ref a)/\∀H',zy H H'->Q (.str<|UP aN b1 b2 a) H'):rG aN b1 b2 b3 z vs H Q e3
inductive uf (P:Ej)(w:Ep)(K:Cc)(C aN b1 b2 b3:Ei)(vs:Dj)(H:Hp)(Q:VK)(E:XK):Prop
 |mk (i:Int) (a:Ei) (v u t:V) (h0:vs=[.int i,.ref a,v,u,t]) (h1:(i=0->tE P w K C aN [.ref a,v] H (fun _ H'=>Q .non H') fun c _ H'=>E c none H')) (h2:(i=1->tD P w K C aN b1 [.ref a,v,u] H (fun _ H'=>Q .non H') fun c _ H'=>E c none H')) (h3:(i=2->rK P w K C aN b1 b2 [.ref a,v,u,t] H (fun _ H'=>Q .non H') fun c _ H'=>E c none H')) (h4:(i=3->qb P w K C aN b1 b3 [.ref a,v,u] H (fun _ H'=>Q .non H') fun c _ H'=>E c none H')) (h5:(i≠0->i≠1->i≠2->i≠3->rD P w K C b2 [.ref a,t] H (fun _ H'=>Q .non H') fun c _ H'=>E c none H')):uf P w K C aN b1 b2 b3 vs H Q E
inductive sy (P:Ej)(w:Ep)(K:Cc)(C aN b1 b2 b3:Ei)(vs:Dj)(H:Hp)(Q:VK)(e3:XK):Prop
 |mk (i:Int) (a:Ei) (v u t:V) (h0:vs=[.int i,.ref a,v,u,t]) (h1:∀(Q2:VK) (E2:XK),(∀H',Q (.str "") H'->Q2 .non H')->(∀x H',x∈[aN,b1,b2,b3]->(∀H2,zy H' H2->Q (.str<|UP aN b1 b2 x) H2)->E2 (.ref x) none H')->uf P w K C aN b1 b2 b3 [.int i,.ref a,v,u,t] H Q2 E2):sy P w K C aN b1 b2 b3 vs H Q e3
section
variable {P:Ej}{w:Ep}{K:Cc}{mg:Str->Dc}{base:EB}{t1 t2 t3 t4 t5 t6 t7:Tok}{aL aC aN aT aA b1 b2 b3 b4 b5 b6:Ei}(T:Txt P w K mg t1 t2 t3 t4 t5 t6 t7 aL aC aN aT aA b1 b2 b3 b4 b5 b6)
namespace A5
abbrev st:Stmt:=top 72
theorem sc:zx ["_law_which","_law_shelf","_law_root","_law_path","_law_lines"] ["_law_which","_law_shelf","_law_root","_law_path","_law_lines"] (zG st):=Co
include T in
theorem ok (F:xf0 K "_law_asked" st f fd)(g:wk P w K mg base 14 "files_of" ["store","root"]<|tE P w K aC aN)(l:wk P w K mg base 7 "found_at" ["store","root","path"]<|tD P w K aC aN b1)(d:wk P w K mg base 13 "with_file" ["shelf","root","path","lines"]<|rK P w K aC aN b1 b2)(e:wk P w K mg base 13 "without_file" ["shelf","root","path"]<|qb P w K aC aN b1 b3)(n:wk P w K mg base 13 "keep_files" ["shelf","files"]<|rD P w K aC b2):yx P w K mg base (Cw P w) 15 f fd ["_law_which","_law_shelf","_law_root","_law_path","_law_lines"] (uf P w K aC aN b1 b2 b3):=by
 refine F.qm sc fun _ _ _ _ H D Q E b h=>?_;obtain⟨i,a,v,u,t,rfl,o,p,r,s,x⟩:=h;refine⟨_,(zE<|yI (zU xJ (pv 0) zH<|zV _) (zE<|yD<|yE g b.m zX<|zA (pv 1)<|zA (pv 2) zC)<|zE<|yI (zU xJ (pv 0) zH<|zV _) (zE<|yD<|yE l b.m zX<|zA (pv 1)<|zA (pv 2)<|zA (pv 3) zC)<|zE<|yI (zU xJ (pv 0) zH<|zV _) (zE<|yD<|yE d b.m zX<|zA (pv 1)<|zA (pv 2)<|zA (pv 3)<|zA (pv 4) zC)<|zE<|yI (zU xJ (pv 0) zH<|zV _) (zE<|yD<|yE e b.m zX<|zA (pv 1)<|zA (pv 2)<|zA (pv 3) zC)<|zE<|yD<|yE n b.m zX<|zA (pv 1)<|zA (pv 4) zC),?_⟩
 have ne:∀{j:Int},¬decide (V.int i=V.int j)=true->i≠j:=fun{j} z q=>z (by rw[q];exact Ze rfl);refine⟨_,rfl,rfl,_,rfl,UB (fun z=>⟨_,rfl,_,rfl,o<|V.int.inj<|Zx z⟩) (fun y=>?_)⟩;refine⟨_,rfl,rfl,_,rfl,UB (fun z=>⟨_,rfl,_,rfl,_,rfl,p<|V.int.inj<|Zx z⟩) (fun A=>?_)⟩;refine⟨_,rfl,rfl,_,rfl,UB (fun z=>⟨_,rfl,_,rfl,_,rfl,_,rfl,r<|V.int.inj<|Zx z⟩) (fun B=>?_)⟩;refine⟨_,rfl,rfl,_,rfl,UB (fun z=>⟨_,rfl,_,rfl,_,rfl,s<|V.int.inj<|Zx z⟩) (fun C=>?_)⟩;exact⟨_,rfl,_,rfl,x (ne y) (ne A) (ne B)<|ne C⟩
end A5
end
end An08
namespace L2
open PySem PySem.Spec PyProof.Rows
section
variable {prog:Ej}{w:Ep}{A:ED}{E:Eh->Dh}{s:Em}
theorem Ol {it l x:Ei}{i:Nat}{Dn:Array Eh}{u:Obj}{v:Array Eh}{Q:Dc->Dh}(D:A.handled=some (.ref x))(F:s.heap.get? x=some u)(j:u.data=.fields v)(C:v[2]?=some .none)(t:it≠x)
  (d:IsTupIter s.heap it l i) (hl:IsTup s.heap l Dn) (n:Dn[i]?=none) (B:∀h',Heap.ExtBut it s.heap h'->Q none { s with heap:=h' }):El (Es prog w) A (LN<|.ref it) Q E s:=by
 obtain⟨o,p,_,hd⟩:=id d;obtain⟨G,q,_,nl,g⟩:=id hl;unfold LN;refine Q9<|Jy<|Ys (name:=EQ "__next__") d.typeIs slot_tupleiter_next<|Yg slot_tupleiter_next d.typeIs entry_tupleiter_next ?_<|args_tupleiter_next _;show El _ _ (field (.ref it) 0>>=_) _ _ _;refine Q9<|Y6 p hd (x:=.ref l) rfl ?_;show El _ _ (if(Eu l==EC)=true then _ else _) _ _ _;rw[Zr<|show¬(Eu l==EC)=true from ZM];show El _ _ (field (.ref it) 1>>=_) _ _ _;refine Q9<|Y6 p hd (x:=.int i 0) rfl ?_;show El _ _ (seqItems? (.ref l)>>=_) _ _ _;refine Q9<|Vp q g ?_;simp only[V4,n];refine Q9 (JK<|Q9<|YL p hd (by simp) ?_);show El _ _ (newExc (.type "StopIteration") []>>=_) _ _ _;refine Q9 ?_;simp only[newExc,newTuple];refine Q9 (ZX ?_<|by size_fits);refine Q9 (m:=Lr _ _) (Ju (a:=EC) (by first|rfl|(simp only[Lr];rfl)) ?_);refine ZX ?_ (by size_fits);have kx:∀b f,b≠it->s.heap.get? b=some f->((s.heap.update it (Lk (·.setIfInBounds 0 EC))).push { cls:=Value.type "tuple",data:=Data.seq #[] }).get? b=some f:=fun b f r e=>Zc _ (by rwa[Ye _ _<|Ey r]);have y:=kx x u (Ey t) F;refine Nh (x:=x) D (Zz<|Zu y) (Zq _ rfl) rfl (by simp;lia) (Zc _ y) j C ?_;refine Q9<|Ji (T:="StopIteration") (b:=true) ⟨_,Yc _ (Zq _ rfl)<|LM<|LI rfl _,Obj.cls_mapFields _ _⟩ VX ?_;refine Zh<|B _ fun b f r e=>?_;have z:=kx b f r e;rw[Ye _ _<|Y3<|Zu z];exact Zc _ z
theorem Fd {env:Env}{y:List EG} {x1}{pos:Pos}{t x:Ei}{Dn:Array Eh}{z:Obj}{D:Array Eh}{Q:Unit->Dh}(G:A.handled=some (.ref x))(C:s.heap.get? x=some z)(B:z.data=.fields D)(F:D[2]?=some .none)(u:IsTup s.heap t Dn)
  (hn:(LJ y env).length=Dn.size) (l:(LJ y env).findIdx? (·.1)=none)
  (h:∀h',Heap.ExtBut s.heap.objs.size s.heap h'->El (Es prog w) A (assignInOrder ((LJ y env).map (·.2)) Dn.toList) Q E { s with heap:=h' }) :
  El (Es prog w) A (assign (.Tuple y x1 pos) env<|.ref t) Q E s:=by
 rw[assign_Tuple];refine Q9<|wpAny_standAt ?_;unfold unpack;rw[hn,l];refine Q9<|Yb ?_;have r:t≠s.heap.objs.size:=by obtain⟨o,H,_⟩:=u;exact Zz<|Zu H
 have i:x≠s.heap.objs.size:=Zz<|Zu C;unfold unpackItems;refine Q9 ?_;unfold notIterableAtAll;refine Q9<|JP u.typeIs slot_tuple_iter.lookup ?_;refine Zh ?_;simp only[Yy,JO];refine Q9<|Yb<|iter_tuple u ?_;refine Q9 (Yb<|draw_tuple r Dn.size 0 _ _ ⟨_,Zq _ rfl,rfl,rfl⟩ (u.push _) (by lia) fun f g d=>?_);have q:List.take Dn.size (List.drop 0 Dn.toList)=Dn.toList:=by
  rw[Vo];exact Jc (by simp)
 rw[q];rw[Zr<|by simp];have n:IsTup f t Dn:=(u.push _).extBut d.extBut r;have p:f.get? x=some z:=d.extBut x z i<|Zc _ C;refine Q9 (Yb<|Ol (s:={ s with heap:=f }) G p B F (Ey i) g n (by simp) fun v j=>?_);simp only[Option.isSome_none,Yy,JO];exact Zh<|h v fun b o hb e=>j b o hb<|d.extBut b o hb<|Zc _ e
end
section
variable {X:Cx}{K:Cc}{pos:Pos}
def WX (K:Cc)(n:Nat)(z:Ei)(t:SV):TG:=fun v d H Q=>∃a b cls,v=.ref a/\xg K H a b/\b.length=n/\H z=some (Xh z cls)/\t b d H Q
theorem Nc {k:Nat}{n:Nat}{z:Ei}(C:X.A.handled=some (.ref z))(h:pC X es t)(B:X.K=K:=by rfl)
  (hn:(LJ es X.env).length=n:=by rfl) (d:(LJ es X.env).findIdx? (·.1)=none:=by rfl):PG X (.Tuple es k pos) (WX K n z t):=by
 subst B;intro l s q H v u Q I r f;obtain⟨a,M,cls,x,D,hl,J,f⟩:=f;subst x;cases r;obtain⟨L,p,E,_⟩:=I.tuple D;obtain⟨⟨N,O,g,G,i,j⟩,_⟩:=I.hok z _ J;refine Fd C g i j E (by simp[hn,←hl,p.length]) d fun y F=>?_;have w:Inv X l q H { s with heap:=y }:=I.kept (t':=s.toks) fun b o e=>F b o (Zz<|Zu e) e;exact h l _ q H M _ Q w (by simpa using p) f
end
end L2
namespace An08
open PySem L2 An
seal L2.PS L2.sX L2.PE L2.PT L2.PW L2.PA L2.PG L2.pC L2.PI L2.oY L2.PC
def UW (x:Str)(k:Bool):Str:=Txt.mul x<|if k then 1 else 0
theorem MX (x:Str)(k:Bool):MulOk x (if k then 1 else 0):=by
 cases k
 ·exact⟨by decide,fun h=>absurd (show(0:Int)<1 by decide) h,fun h=>absurd (show(0:Int)<1 by decide) h⟩
 ·exact⟨by decide,fun _ h=>(by cases h),fun _ h=>(by cases h)⟩
theorem Ie (x:Str)(k:Bool):(UW x k).length<=x.length:=by
 cases k
 ·exact ZN _
 ·exact Zg _
theorem qJ {b e f g a:Ei}{r:Dd}(d:([b,e,f,g]++r).Nodup)(h:a∈[b,e,f,g]):""++UW "name" (decide (a=b))++UW "path" (decide (a=e))++UW "files" (decide (a=f))++UW "fit" (decide (a=g))=UP b e f a:=by
 simp only[Z5,VD,Zm,Uh]at d;obtain⟨⟨i,j,l,_⟩,⟨n,o,_⟩,⟨p,_⟩,_⟩:=d;unfold UP
 rcases(by simpa using h:a=b\/a=e\/a=f\/a=g) with rfl|rfl|rfl|rfl
 ·rw[Zy rfl,Ze rfl,Zn i,Zn j,Zn l];rfl
 ·rw[Zr<|Ey i,Zy rfl,Ze rfl,Zn<|Ey i,Zn n,Zn o];rfl
 ·rw[Zr<|Ey j,Zr<|Ey n,Zy rfl,Ze rfl,Zn<|Ey j,Zn<|Ey n,Zn p];rfl
 ·rw[Zr<|Ey l,Zr<|Ey o,Zr<|Ey p,Ze rfl,Zn<|Ey l,Zn<|Ey o,Zn<|Ey p];rfl
theorem oJ {i:Nat}{x y v:V}(h:[x,y][i]?=some v):(i=0/\v=x)\/(i=1/\v=y):=by
 match i,h with
 | 0,h=>cases h;exact .inl ⟨rfl,rfl⟩
 | 1,h=>cases h;exact .inr ⟨rfl,rfl⟩
 |_+2,h=>cases h
theorem N9 {f i j l g n o p a:Ei}(d:[f,i,j,l,g,n,o,p].Nodup)(h:a∈[f,i,j,l]){b:Ei}(hb:b∈[g,n,o,p]):decide (a=b)=false :=
 Zn fun e=>by
  have:=(Yo.mp<|show([f,i,j,l]++[g,n,o,p]).Nodup from d).2.2;exact this a h b hb e
def ac (n x y:Str):Nat->Str
 | 0=>n
 | 1=>n++x
 |_=>n++x++y
theorem nl {n u v:Str}{i:Nat}(b:i<2)(hn:n.length<=100)(f:u.length<=10)(g:v.length<=10):(ac n (UW u k) x i).length+(UW v k').length<=sizeLine:=by
 have d:=Ie u k;have e:=Ie v k';refine zp ?_
 match i,b with
 | 0,_=>show n.length+_<=_;lia
 | 1,_=>show(n++UW u k).length+_<=_;rw[Mh];lia
section
variable {P:Ej}{w:Ep}{K:Cc}{mg:Str->Dc}{base:EB}{t1 t2 t3 t4 t5 t6 t7:Tok}{aL aC aN aT aA b1 b2 b3 b4 b5 b6:Ei}(T:Txt P w K mg t1 t2 t3 t4 t5 t6 t7 aL aC aN aT aA b1 b2 b3 b4 b5 b6)
namespace A6
abbrev st:Stmt:=top 71
theorem sc:zx ["_law_error","_law_names_here","_law_word","_law_told_here"] ["_law_error"] (zG st):=Co
include T in
theorem ok (F:xf0 K "_law_names" st f fd):pH P w K mg base 1 f fd ["_law_error"] (rG aN b1 b2 b3):=by
 refine F.okE sc (fun z vs H Q E h=>?_)<|fun z ab A outer s H vs Q E hr M h=>?_
 ·obtain⟨rfl,_⟩:=h;rfl
 ·obtain⟨rfl,a,ha,d,k⟩:=h;refine⟨_,(zD (Ck (i:=1) sc.nd zz)<|zD (F5 EO M (xA<|zA (yJ<|zA zz<|zA (zK (yT (K:=K) (C:=aN)) (by rfl) T.isinstance Zw<|zA (pv 0)<|zA (xB (v:=.ref aN) rfl T.pP rfl) zC) zC)<|zA (yJ<|zA zz<|zA (zK (yT (K:=K) (C:=b1)) (by rfl) T.isinstance Zw<|zA (pv 0)<|zA (xB (v:=.ref b1) rfl T.oE rfl) zC) zC) zC) (Nc (K:=K) (n:=2) M<|yQ (zR (i:=2) sc.nd rfl<|EL rfl)<|yQ (zR (i:=3) sc.nd rfl<|EL rfl) jP)<|zE<|Ck (i:=1) sc.nd<|zZ yC (pv 1)<|zZ Ik (pv 2)<|yK BN (by rfl) T.int VA<|zA (pv 3) zC)<|zD (F5 EO M (xA<|zA (yJ<|zA zz<|zA (zK (yT (K:=K) (C:=b2)) (by rfl) T.isinstance Zw<|zA (pv 0)<|zA (xB (v:=.ref b2) rfl T.vo rfl) zC) zC)<|zA (yJ<|zA zz<|zA (zK (yT (K:=K) (C:=b3)) (by rfl) T.isinstance Zw<|zA (pv 0)<|zA (xB (v:=.ref b3) rfl T.lK rfl) zC) zC) zC) (Nc (K:=K) (n:=2) M<|yQ (zR (i:=2) sc.nd rfl<|EL rfl)<|yQ (zR (i:=3) sc.nd rfl<|EL rfl) jP)<|zE<|Ck (i:=1) sc.nd<|zZ yC (pv 1)<|zZ Ik (pv 2)<|yK BN (by rfl) T.int VA<|zA (pv 3) zC)<|xN (yI (PW.pt<|uN (zO (K:=K)<|zK (yT (K:=K) (C:=aT)) (by rfl) T.isinstance Zw<|zA (pv 0)<|zA (xB (v:=.ref aT) rfl T.oF rfl) zC)<|uN (zO (K:=K)<|zK (yT (K:=K) (C:=b4)) (by rfl) T.isinstance Zw<|zA (pv 0)<|zA (xB (v:=.ref b4) rfl T.jx rfl) zC)<|jJ<|zO (K:=K)<|zK (yT (K:=K) (C:=b6)) (by rfl) T.isinstance Zw<|zA (pv 0)<|zA (xB (v:=.ref b6) rfl T.mC rfl) zC) (zE<|Ck (i:=1) sc.nd<|zZ yC (pv 1) zz) zQ)<|xN (yI (PW.pt<|uN (zO (K:=K)<|zK (yT (K:=K) (C:=b5)) (by rfl) T.isinstance Zw<|zA (pv 0)<|zA (xB (v:=.ref b5) rfl T.nJ rfl) zC)<|jJ<|xD<|zO (K:=K)<|zK (GZ (K:=K) (T:="ValueError")) (by rfl) T.isinstance Zw<|zA (pv 0)<|zA (yY (v:=.ty "ValueError") rfl T.ValueError (by decide +kernel) rfl) zC) (zE<|Ck (i:=1) sc.nd<|zZ yC (pv 1) zz) zQ)<|zE<|zM<|pv 1),?_⟩
  refine⟨_,rfl,z,a,decide (a=aN),rfl,d,T.ek a ha,T.kx a ha aN<|by simp,Uw 2,fun x J=>?_⟩;have G:=zF (o:=.tup [.str "name",.bl<|decide (a=aN)]) J;refine⟨_,rfl,z,a,decide (a=b1),rfl,G _ _ d,T.ek a ha,T.kx a ha b1<|by simp,Uw 2,fun B n1=>⟨Uw 2,fun U I=>?_⟩⟩;refine nw I fun u p hl=>?_;have q:=(G.trans<|zF n1).trans p;have O:xg K u x [.str "name",.bl<|decide (a=aN)]:=xg.of<|p _ _<|(zF n1) _ _ zB;have R:xg K u B [.str "path",.bl<|decide (a=b1)]:=xg.of<|p _ _ zB;clear p J n1 I;refine⟨U,_,.ref a,fun i r l=>∃g j,r=[some<|.ref z,some<|.str<|ac "" (UW "name"<|decide (a=aN)) (UW "path"<|decide (a=b1)) i,g,j]/\zy u l,rfl,⟨none,none,rfl,zy.refl _⟩,fun i r l ⟨g,j,_,e⟩=>⟨e _ _ hl,e _ _<|q _ _ d⟩,?_,?_⟩
  ·rintro i y r l S ⟨g,j,rfl,e⟩
   rcases oJ S with⟨rfl,rfl⟩|⟨rfl,rfl⟩
   ·exact⟨x,_,.ref a,rfl,e.yh O,rfl,e _ _<|q _ _ d,_,_,rfl,yA ⟨_,_,rfl,yA ⟨rfl,⟨_,rfl,_,rfl,_,rfl,.inr ⟨_,rfl,_,_,rfl,rfl,MX _ _,_,_,rfl,rfl,nl (by decide) (by decide +kernel) (by decide +kernel)<|by decide +kernel,_,_,rfl,e⟩⟩⟩⟩⟩
   ·exact⟨B,_,.ref a,rfl,e.yh R,rfl,e _ _<|q _ _ d,_,_,rfl,yA ⟨_,_,rfl,yA ⟨rfl,⟨_,rfl,_,rfl,_,rfl,.inr ⟨_,rfl,_,_,rfl,rfl,MX _ _,_,_,rfl,rfl,nl (by decide) (by decide +kernel) (by decide +kernel)<|by decide +kernel,_,_,rfl,e⟩⟩⟩⟩⟩
  ·rintro r l ⟨g,j,rfl,e⟩;obtain⟨N,X,Y⟩:∃N:Str,""++UW "name" (decide (a=aN))++UW "path" (decide (a=b1))=N/\N.length<=100:=⟨_,rfl,by
    have h1:=Ie "name"<|decide (a=aN);have h2:=Ie "path"<|decide (a=b1);rw[show("name":Str).length=4 by decide +kernel]at h1;rw[show("path":Str).length=4 by decide +kernel]at h2;rw[Mh,Mh,show("":Str).length=0 by decide +kernel];lia⟩
   rw[show ac "" (UW "name"<|decide (a=aN)) (UW "path"<|decide (a=b1)) [V.ref x,V.ref B].length=N from X];have d:=e _ _<|q _ _ d;have q:=q.trans e;clear e O R hl G;refine⟨_,rfl,z,a,decide (a=b2),rfl,d,T.ek a ha,T.kx a ha b2<|by simp,Uw 2,fun x J=>?_⟩;have G:=zF (o:=.tup [.str "files",.bl<|decide (a=b2)]) J;refine⟨_,rfl,z,a,decide (a=b3),rfl,G _ _ d,T.ek a ha,T.kx a ha b3<|by simp,Uw 2,fun B n1=>⟨Uw 2,fun U I=>?_⟩⟩;refine nw I fun u p hl=>?_;have L:=(G.trans<|zF n1).trans p;have O:xg K u x [.str "files",.bl<|decide (a=b2)]:=xg.of<|p _ _<|(zF n1) _ _ zB;have R:xg K u B [.str "fit",.bl<|decide (a=b3)]:=xg.of<|p _ _ zB;clear p J n1 I;refine⟨U,_,.ref a,fun i r l=>∃g j,r=[some<|.ref z,some<|.str<|ac N (UW "files"<|decide (a=b2)) (UW "fit"<|decide (a=b3)) i,g,j]/\zy u l,rfl,⟨_,_,rfl,zy.refl _⟩,fun i r l ⟨g,j,_,e⟩=>⟨e _ _ hl,e _ _<|L _ _ d⟩,?_,?_⟩
   ·rintro i y r l S ⟨g,j,rfl,e⟩
    rcases oJ S with⟨rfl,rfl⟩|⟨rfl,rfl⟩
    ·exact⟨x,_,.ref a,rfl,e.yh O,rfl,e _ _<|L _ _ d,_,_,rfl,yA ⟨_,_,rfl,yA ⟨rfl,⟨_,rfl,_,rfl,_,rfl,.inr ⟨_,rfl,_,_,rfl,rfl,MX _ _,_,_,rfl,rfl,nl (by decide) Y (by decide +kernel)<|by decide +kernel,_,_,rfl,e⟩⟩⟩⟩⟩
    ·exact⟨B,_,.ref a,rfl,e.yh R,rfl,e _ _<|L _ _ d,_,_,rfl,yA ⟨_,_,rfl,yA ⟨rfl,⟨_,rfl,_,rfl,_,rfl,.inr ⟨_,rfl,_,_,rfl,rfl,MX _ _,_,_,rfl,rfl,nl (by decide) Y (by decide +kernel)<|by decide +kernel,_,_,rfl,e⟩⟩⟩⟩⟩
   ·rintro r l ⟨g,j,rfl,e⟩;have d:=e _ _<|L _ _ d;have q:=q.trans<|L.trans e;have e1:ac N (UW "files"<|decide (a=b2)) (UW "fit"<|decide (a=b3)) [V.ref x,V.ref B].length=UP aN b1 b2 a:=by
     rw[←qJ (show([aN,b1,b2,b3]++[aT,b4,b5,b6]).Nodup from T.dst) ha,X];rfl
    rw[e1];have off:∀{b:Ei},b∈[aT,b4,b5,b6]->ET K (.ref a) (.ref b)=some false:=fun{b} hb=>(T.kx a ha b<|ZL [aN,b1,b2,b3] hb).trans<|congrArg some<|N9 T.dst ha hb;refine⟨fun D t=>D=[some<|.ref z,some<|.str<|UP aN b1 b2 a,g,j]/\t=l,?_,?_⟩
    ·exact⟨_,rfl,z,a,false,rfl,d,T.ek a ha,off<|by simp,_,rfl,Ut (A:=False) ⟨_,rfl,z,a,false,rfl,d,T.ek a ha,off<|by simp,_,rfl,Ut (A:=False) ⟨_,rfl,z,a,false,rfl,d,T.ek a ha,off<|by simp,_,rfl,Ut (A:=False) ⟨rfl,rfl⟩⟩⟩⟩
    rintro _ Z ⟨rfl,rfl⟩;refine⟨fun D t=>D=[some<|.ref z,some<|.str<|UP aN b1 b2 a,g,j]/\t=Z,?_,?_⟩
    ·exact⟨_,rfl,z,a,false,rfl,d,T.ek a ha,off<|by simp,_,rfl,Ut (A:=False) ⟨_,rfl,z,a,true,rfl,d,T.ek a ha,T.kv a ha,_,rfl,Ut (A:=False) ⟨rfl,rfl⟩⟩⟩
    rintro _ _ ⟨rfl,rfl⟩;exact⟨_,rfl,k _ q⟩
end A6
def Os (c x:Str):Bool:=!!(EH x c 0 x.length 1).isEmpty
def BB:Ek->Bool
 | .str x=>decide ((x.length:Int)<21)&&(Os "\n" x&&Os "\t" x)
 |_=>false
theorem Pe (h:(UE d=="str")=false):BB d=false:=by cases d<;>first|rfl|cases h
inductive rm (K:Cc)(vs:Dj)(H:Hp)(Q:VK)(e3:XK):Prop
 |mk (d:Ek) (v:V) (h0:vs=[v]) (h1:Dw K H d v) (h2:(∀x,d=.str x->x.length<=1000)) (h3:Q (.bl<|BB d) H):rm K vs H Q e3
namespace A7
abbrev st:Stmt:=top 73
theorem sc:zx ["_law_which","_law_shelf","_law_root","_law_path","_law_lines","_law_error"] ["_law_which","_law_shelf","_law_root","_law_path","_law_lines"] (zG st):=Co
include T in
theorem ok (F:xf0 K "_law_told" st f fd)(o:wk P w K mg base 15 "_law_asked" ["_law_which","_law_shelf","_law_root","_law_path","_law_lines"]<|uf P w K aC aN b1 b2 b3)(n:nu P w K mg base 1 "_law_names" ["_law_error"]<|rG aN b1 b2 b3):yx P w K mg base Cn 16 f fd ["_law_which","_law_shelf","_law_root","_law_path","_law_lines"] (sy P w K aC aN b1 b2 b3):=by
 refine F.ok sc fun _ _ _ _ H y Q E l h=>?_;obtain⟨i,a,v,u,t,rfl,h⟩:=h;refine⟨_,(zD (Sq rfl rfl rfl (fun _ _=>(zE<|yD<|yE o l.m (Hh rfl)<|zA (pv 0)<|zA (pv 1)<|zA (pv 2)<|zA (pv 3)<|zA (pv 4) zC)) rfl T.pB sc.nd (i:=5) rfl rfl (fun z=>(zE<|zM<|PM (z:=z) n (l.m.h.mark _) rfl<|zA (pv 5) zC))) (zE<|zM zz)),?_⟩
 refine⟨fun b d cls=>b=[some<|.int i,some<|.ref a,some v,some u,some t,none]/\∃x∈[aN,b1,b2,b3],cls=.ref x/\∀j,zy d j->Q (.str<|UP aN b1 b2 x) j,?_,?_⟩
 ·refine⟨_,rfl,_,rfl,_,rfl,_,rfl,_,rfl,h _ _ (fun d q=>?_)<|fun x d e g=>⟨rfl,x,e,rfl,g⟩⟩;exact q
 ·rintro b d cls z ⟨rfl,x,e,rfl,g⟩ p;refine⟨T.exm x e,?_⟩;exact⟨_,rfl,rfl,x,e,zB,fun s r=>g _<|(zF p).trans r⟩
end A7
namespace A8
abbrev st:Stmt:=top 74
theorem sc:zx ["_law_line"] ["_law_line"] (zG st):=Co
include T in
theorem ok (F:xf0 K "_law_is_line" st f fd):yx P w K mg base Cn 1 f fd ["_law_line"] (rm K):=by
 refine F.ok sc fun _ A _ _ H l Q E j h=>?_;obtain⟨d,v,rfl,hd,hl,k⟩:=h;refine⟨_,(zE<|zM<|y8 (zK (zT (K:=K)) (by rfl) T.isinstance Zw<|zA (pv 0)<|zA (yY (v:=.ty "str") rfl T.str Yd rfl) zC)<|y8 (yN PK (zK xZ (by rfl) T.len ZZ<|zA (pv 0) zC) zH<|zV _)<|y8 (yN vD zz (pv 0)<|by with_unfolding_all rfl)<|x8<|yN vD zz (pv 0)<|by with_unfolding_all rfl),?_⟩;have i:=T.kit (UE d) (uH d) "str" (by simp[kinds]);cases e:(UE d=="str") with
 |false =>
  rw[Pe e]at k;exact⟨_,rfl,v,"str",d,false,rfl,hd,by rw[i,e];simp,_,rfl,Ut (A:=False) k⟩
 |true =>
  have:∃x,d=.str x:=by cases d<;>first|exact⟨_,rfl⟩|cases e
  obtain⟨x,rfl⟩:=this;obtain rfl:v=.str x:=hd;refine⟨_,rfl,_,"str",.str x,true,rfl,rfl,by rw[i];rfl,_,rfl,Ur (B:=False) ⟨_,rfl,x,rfl,zp<|ZR (hl x rfl)<|by decide,_,_,rfl,rfl,_,rfl,?_⟩⟩;have k:Q (.bl<|decide ((x.length:Int)<21)&&(Os "\n" x&&Os "\t" x)) H:=k;cases b:decide ((x.length:Int)<21) with
  |false=>rw[b]at k;exact Ut (A:=False) k
  |true =>
   rw[b]at k;refine Ur (B:=False) ⟨_,rfl,_,_,rfl,rfl,_,rfl,?_⟩;have k:Q (.bl<|Os "\n" x&&Os "\t" x) H:=k;show if Os "\n" x=true then _ else _;cases g:Os "\n" x with
   |false=>rw[g]at k;exact Ut (A:=False) k
   |true=>rw[g]at k;exact Ur (B:=False) ⟨_,rfl,_,_,rfl,rfl,k⟩
end A8
theorem nP:∀{p:Da} {c:Nat},c∈cs (zc p)->c=47\/∃l∈p,c∈cs l
 |[],c,h=>by
  have e:cs (zc [])=[]:=by decide +kernel
  rw[e]at h;exact absurd h Z9
 |[l],c,h=>by
  rw[Io]at h;exact .inr ⟨l,Zb.mpr rfl,h⟩
 |l::b::r,c,h=>by
  rw[qP l<|ZU b r]at h
  rcases ZB.mp h with h|h
  ·exact .inr ⟨l,Zi ..,h⟩
  ·rcases Zm.mp h with h|h
   ·exact .inl h
   ·rcases nP h with q|⟨m,hm,q⟩
    ·exact .inl q
    ·exact .inr ⟨m,Zf _ hm,q⟩
theorem P5 {p:Da}(h:∀l∈p,zP l=true):Er (zc p)=true:=by
 rw[yV];intro c b
 rcases nP b with q|⟨l,hl,q⟩
 ·lia
 ·exact((yV _).mp (Xl<|h l hl).ok) c q
def uE:Ek->Bool
 | .tuple ds=>ds.all BB
 |_=>false
def qQ (fs:Dk)(p:Str):Da:=(fs.map fun f=>zc f.1).filter fun q=>Ux p q||Ux q p
theorem HQ {L:Da}{q:Str}{i:Nat}(b:L[i]?=some q):(L.take<|i+1).filter (fun q=>Ux p q||Ux q p)=(L.take i).filter (fun q=>Ux p q||Ux q p)++(if(Ux p q||Ux q p)=true then[q] else[]):=by
 rw[Yk,b,List.filter_append];show _++[q].filter _=_;rw[V9];rfl
theorem ae {l:Da}:EJ (.list<|l.map .str) (.list<|([]:Da).map .str)=l.isEmpty:=by
 show E1 _ _=_;rw[j5,Z4,ZC,Ue]
inductive nU (K:Cc)(vs:Dj)(H:Hp)(Q:VK)(e3:XK):Prop
 |mk (i:Int) (c:Ei) (r g:Bool) (u t:V) (Dm:Dl) (fs:Dk) (h0:vs=[.int i,.ref c,.bl r,u,t,.bl g]) (h1:H c=some (.dK Dm)) (h2:xr K H fs Dm) (h3:yg 4 fs) (h4:List.length fs<=63) (h5:(i=4->Q (.str "files") H)) (h6:(i≠4->r=false->Q (.str "name") H)) (h7:(i=0->r=true->Q (.str "") H)) (h8:(i≠4->i≠0->r=true->g=false->Q (.str "path") H)) (h9:(i=1->r=true->g=true->Q (.str "") H)) (h10:(i=2->r=true->g=true->∃(p:Str) (d:Ek),u=.str p/\p.length<=1000/\Dw K H d t/\small d=true/\∀H',zy H H'->Q (.str<|if(!uE d||!(qQ fs p).isEmpty)=true then"files" else"") H')) (h11:(i≠4->i≠0->i≠2->i≠1->r=true->g=true->∃p,u=.str p/\Q (.str<|if(Uu Dm<|.inr p).isSome=true then"" else"fit") H)):nU K vs H Q e3
namespace A9
abbrev st:Stmt:=top 76
theorem sc:zx ["_law_which","_law_files","_law_is_root","_law_path","_law_lines","_law_good","_law_clash","_law_bad"] ["_law_which","_law_files","_law_is_root","_law_path","_law_lines","_law_good"] (zG st):=Co
include T in
theorem ok (F:xf0 K "_law_due" st f fd)(Ql:xj P w K mg base 1 "_law_over" ["_law_one","_law_other"] pJ)(Q4:xj P w K mg base 1 "_law_is_line" ["_law_line"]<|rm K):yx P w K mg base Cn 2 f fd ["_law_which","_law_files","_law_is_root","_law_path","_law_lines","_law_good"] (nU K):=by
 refine F.ok sc fun _ _ _ _ H vs Q E M h=>?_;obtain⟨i,c,r,g,u,t,B,fs,rfl,U,ff,gf,ab,k4,kr,k0,kg,k1,k2,k3⟩:=h;refine⟨_,(zD (yI (zU xJ (pv 0) zH<|zV _) (zE<|zM zz) zQ)<|zD (yI (xD<|zO (K:=K)<|pv 2) (zE<|zM zz) zQ)<|zD (yI (zU xJ (pv 0) zH<|zV _) (zE<|zM zz) zQ)<|zD (yI (xD<|zO (K:=K)<|pv 5) (zE<|zM zz) zQ)<|zD (yI (zU xJ (pv 0) zH<|zV _) (zD (uL<|Nf (sc:=zG st) (N:=["_law_which","_law_files","_law_is_root","_law_path","_law_lines","_law_good","_law_clash","_law_bad"]) (N':=["_law_other","_law_path"]) (src:=[none,some 3]) .a rfl rfl rfl (Il<|v8<|pv 1) (fun _ _ _ _=>(zR (i:=0) (show(["_law_other","_law_path"]:Da).Nodup by decide +kernel) rfl (EL rfl))) (fun _ _ _ _=>(T5<|PW.pt<|uN (zO (K:=K)<|zJ Ql M.m<|zA (pv 1)<|zA (pv 0) zC)<|jJ<|zO (K:=K)<|zJ Ql M.m<|zA (pv 0)<|zA (pv 1) zC)) (fun _ _ _ _=>(pv 0)) sc.nd rfl (EL rfl) (k:=6)) (zD (Ck (i:=7) sc.nd<|PV (PU<|zK (zT (K:=K)) (by rfl) T.isinstance Zw<|zA (pv 4)<|zA (yY (v:=.ty "tuple") rfl T.tuple Yu rfl) zC)<|x8<|PU<|zK (jC rfl) (by rfl) T.all YK<|zA (qC (sc:=zG st) (N:=["_law_which","_law_files","_law_is_root","_law_path","_law_lines","_law_good","_law_clash","_law_bad"]) (N':=["_law_line"]) (src:=[none]) .a rfl rfl rfl (uI<|pv 4) (fun _ _ _ _=>(zR (i:=0) (show(["_law_line"]:Da).Nodup by decide +kernel) rfl (EL rfl))) (fun _ _ _ _=>qY) (fun _ _ _ _=>(zJ Q4 M.m<|zA (pv 0) zC))) zC) (zE<|zM<|Gn (PW.pt<|uN (zO (K:=K)<|pv 7)<|jJ<|zU (Kv M.units) (pv 6) (xA zC)<|zV _) zz zz))) zQ) (zE<|zM<|Gn (PW.pt<|uN (zU xJ (pv 0) zH<|zV _)<|jJ<|zU (BU M.units) (pv 3) (pv 1)<|by with_unfolding_all rfl) zz zz)),?_⟩
 have ne:∀{j:Int},¬decide (V.int i=V.int j)=true->i≠j:=fun{j} z q=>z (by rw[q];exact Ze rfl);refine⟨_,rfl,rfl,_,rfl,UB (fun z=>k4<|V.int.inj<|Zx z) (fun S=>?_)⟩;have S:=ne S;refine⟨_,rfl,_,rfl,?_⟩;cases r with
 |false=>exact XT<|kr S rfl
 |true =>
 refine Gw ?_;refine⟨_,rfl,rfl,_,rfl,UB (fun z=>k0 (V.int.inj<|Zx z) rfl) (fun Z=>?_)⟩;have Z:=ne Z;refine⟨_,rfl,_,rfl,?_⟩;cases g with
 |false=>exact XT<|kg S Z rfl rfl
 |true =>
 refine Gw ?_;refine⟨_,rfl,rfl,_,rfl,UB (fun R=>?_)<|fun R=>?_⟩
 ·obtain⟨p,d,rfl,pl,dt,sm,k⟩:=k2 (V.int.inj<|Zx R) rfl rfl;have kl:=ff.len;refine⟨_,rfl,c,B,rfl,U,fun ob=>⟨c,ob,B,rfl,zB,NG (fun i C D A=>∃o,D=[o,some<|.str p]/\zy (upd H c<|.frz ob<|.dK B) A/\C.length<=i/\C=(((fs.map fun f=>zc f.1).take i).filter fun q=>Ux p q||Ux q p).map V.str) ⟨none,rfl,zy.refl _,Zg _,rfl⟩ (zp<|by lia) ?_ ?_ ?_⟩⟩
  ·rintro i C D A hi ⟨o,rfl,s,G,_⟩;exact⟨s _ _ zB,G⟩
  ·rintro i kx v C D A hi ⟨o,rfl,s,G,rfl⟩;obtain⟨f,J,rfl,_⟩:=ff.get hi;have zl:=IJ (gf.wN f<|Zt J).2.1 (gf.wN f<|Zt J).2.2.1;have tk:=HQ (p:=p) (L:=fs.map fun f=>zc f.1) (q:=zc f.1) (i:=i) (by rw[Zs,J];rfl);refine⟨_,rfl,_,rfl,p,zc f.1,rfl,pl,zl,_,rfl,UB (fun c=>Ur ⟨_,rfl,_,rfl,s,?_,?_⟩)<|fun c=>⟨_,rfl,_,rfl,zc f.1,p,rfl,zl,pl,_,rfl,UB (fun c2=>⟨_,rfl,_,rfl,s,?_,?_⟩)<|fun c2=>⟨_,rfl,s,?_,?_⟩⟩⟩
   ·rw[Zp];exact Ud G
   ·rw[tk,Zy (by rw[c];rfl),Zo];rfl
   ·rw[Zp];exact Ud G
   ·rw[tk,Zy<|by rw[c2,Bool.or_true],Zo];rfl
   ·exact Nat.le_succ_of_le G
   ·rw[tk,Zr (by rw[Ve];exact fun z=>z.elim c c2),ZK]
  rintro C D A ⟨o,rfl,s,G,rfl⟩ l nl;rw[kl,show List.length fs=(fs.map fun f=>zc f.1).length by rw[Za],ZJ];have I:=s _ _ zB;have cl:c≠l:=zN I nl;refine yA ⟨c,ob,B,by rw[zI cl];exact I,fun o u (z:H c=some (.frz o u))=>(by rw[U]at z;cases z),?_⟩;have O:zy H (upd (upd A l<|.lst<|(qQ fs p).map V.str) c<|.dK B):=kS U<|s.trans<|zF nl;have hl:(upd (upd A l<|.lst<|(qQ fs p).map V.str) c<|.dK B) l=some (.lst<|(qQ fs p).map V.str):=by rw[zI<|Ey cl,zB]
  show Hz _ _ _ _ (upd (upd A l<|.lst<|(qQ fs p).map V.str) c<|.dK B);generalize upd (upd A l<|.lst<|(qQ fs p).map V.str) c (.dK B)=H3 at O hl ⊢;have e:∀(b:Bool) (H4:Hp),zy H3 H4->b=!uE d ->
   aF (bM (bN (aH K<|X1 7)<|Tg<|WL (ao K) (X1 6)<|Wr U2) (tC<|V.str "files")<|tC<|V.str "") { nx:=fun x H'=>Q V.non H',rt:=Q } [some<|.int i,some<|.ref c,some<|.bl true,some<|.str p,some t,some<|.bl true,some<|.ref l,some<|.bl b] H4:=fun b H4 Y eb=>by
   have k:=fun H5 (s5:zy H3 H5)=>k H5<|O.trans s5;rw[←eb]at k;refine⟨_,rfl,_,rfl,?_⟩;cases b with
   |true=>exact Ur<|Ur<|k _ Y
   |false =>
    refine Ut ⟨_,rfl,Uw 0,fun n nn=>?_⟩;have u:=zF (o:=.lst []) nn;refine⟨.list<|(qQ fs p).map .str,.list<|([]:Da).map .str,⟨l,_,rfl,xx.of<|u _ _<|Y _ _ hl,za.strs _⟩,⟨n,[],rfl,xx.of zB,rfl⟩,(xT fun q hq=>?_).1,by decide,_,rfl,?_⟩
    ·obtain⟨f,J,rfl⟩:=Zd.mp (JM.mp hq).1;exact P5 (gf.wN f J).2.2.1
    ·have k:=k;rw[VI]at k;rw[ae];exact UB (fun z=>by rw[Zy z]at k;exact k _<|Y.trans u) (fun z=>by rw[Zr z]at k;exact k _<|Y.trans u)
  refine⟨_,rfl,t,"tuple",d,_,rfl,Dw.same O _ _ dt,T.kit (UE d) (uH d) "tuple"<|by simp[kinds],_,rfl,_,rfl,?_⟩;cases d with
  |tuple ds =>
   obtain⟨a,xs,rfl,X,ha⟩:=dt;obtain⟨ah,sa⟩:=xU sm;have Dq:=ha.length;have X:=O.yh X;refine Ut ⟨_,rfl,a,rfl,⟨_,X⟩,jN (K:=K) (a:=a) (xs:=xs) (fun i C D A=>∃o,D=[o]/\zy H3 A/\C=((ds.take i).map BB).map V.bl) ⟨none,rfl,zy.refl _,rfl⟩ (zp<|by lia) ?_ ?_ ?_⟩
   ·rintro i C D A hi ⟨o,rfl,s,rfl⟩;refine⟨s.yh X,?_⟩;rw[Za,Za,ZG];lia
   ·rintro i x C D A hx ⟨o,rfl,s,rfl⟩;obtain⟨d,hd,dx⟩:=ha.get hx;refine⟨_,rfl,d,x,rfl,dx.same<|O.trans s,fun y ey=>?_,⟨_,rfl,s,?_⟩⟩
    ·subst ey;exact Zx<|yO sa hd
    ·rw[yP hd,Zo];rfl
   ·rintro C D A ⟨o,rfl,s,rfl⟩ p np;refine⟨p,_,rfl,xx.of zB,_,rfl,?_⟩;rw[Dq,ZJ,all_map];exact e _ _ (s.trans<|zF np) rfl
  |none=>exact Ur<|e _ _ (zy.refl _) rfl
  |bool b=>exact Ur<|e _ _ (zy.refl _) rfl
  |int i=>exact Ur<|e _ _ (zy.refl _) rfl
  |list ds=>exact Ur<|e _ _ (zy.refl _) rfl
  |str x=>exact Ur<|e _ _ (zy.refl _) rfl
  |dict B=>exact Ur<|e _ _ (zy.refl _) rfl
 ·have R:=ne R;refine⟨_,rfl,rfl,_,rfl,UB (fun z=>Ur<|k1 (V.int.inj<|Zx z) rfl rfl) (fun z1=>?_)⟩;obtain⟨p,rfl,k⟩:=k3 S Z R (ne z1) rfl rfl;refine⟨_,rfl,_,rfl,c,_,rfl,.inl ⟨B,.inr p,.inl U,rfl,rfl⟩,_,rfl,?_⟩;exact UB (fun z=>by rw[Zy z]at k;exact k) (fun z=>by rw[Zr z]at k;exact k)
end A9
def ph (K:Cc)(e H:Hp):Option Key×Ek->V->Prop
 |(none,d),v=>Dw K H d v
 |(some k,d),v=>∃b u,v=.ref b/\e b=none/\H b=some (.dK [(k,u)])/\Dw K H d u
theorem ph.same {K:Cc}(e:zy H H'):∀{x:Option Key×Ek} {v:V},ph K H0 H x v->ph K H0 H' x v
 |(none,d),v,h=>Dw.same e d v h
 |(some k,d),v,⟨b,u,h1,h2,h3,h4⟩=>⟨b,u,h1,h2,e _ _ h3,Dw.same e d u h4⟩
theorem ph.back {K:Cc}(e:zy H0 H1):∀{x:Option Key×Ek} {v:V},ph K H1 H x v->ph K H0 H x v
 |(none,d),v,h=>h
 |(some k,d),v,⟨b,u,h1,h2,h3,h4⟩=>⟨b,u,h1,e.free h2,h3,h4⟩
def uy (K:Cc)(b H:Hp)(xs:List<|Option Key×Ek)(vs:Dj):Prop:=vs.length=xs.length/\∀(i:Nat) x v,xs[i]?=some x->vs[i]?=some v->ph K b H x v
theorem uy.app {K:Cc}(h:uy K H0 H xs vs)(g:uy K H0 H ys us):uy K H0 H (xs++ys) (vs++us):=by
 refine⟨by rw[Zp,Zp,h.1,g.1],fun i x v d b=>?_⟩
 rcases Jw i xs.length with z|z
 ·rw[ZH z]at d;rw[ZH<|by rwa[h.1]]at b;exact h.2 i x v d b
 ·rw[ZP z]at d;rw[ZP<|by rwa[h.1],h.1]at b;exact g.2 _ x v d b
def sZ (K:Cc)(d:TE)(x:Option Key×Ek):Prop:=∀e H Q,(∀v b,zy H b->ph K H b x v->Q v b)->d e H Q
def wL (K:Cc)(e:TA)(xs:List<|Option Key×Ek):Prop:=∀f H Q,(∀d b,zy H b->uy K H b xs d->Q d b)->e f H Q
theorem wL.nil {K:Cc}:wL K U2 []:=fun b H Q h=>h [] H (zy.refl _) ⟨rfl,fun i x v h=>(nomatch h)⟩
theorem wL.cons {K:Cc}(o:sZ K te x)(p:wL K ta xs):wL K (UZ te ta) (x::xs):=fun j H Q h =>
 o j H _ fun v l f q=>p j l _ fun r n g e=>h (v::r) n (f.trans g) ⟨congrArg (·+1) e.1,fun i y u d b=>by
  cases i with
  |zero=>cases d;cases b;exact q.same g
  |succ i=>exact(e.2 i y u d b).back f⟩
theorem HW {K:Cc}:∀{ds:Df} {vs:Dj},uy K H0 H (ds.map fun d=>(none,d)) vs->yo K H ds vs
 |[],vs,h=>List.length_eq_zero_iff.mp h.1
 |d::ds,[],h=>by cases h.1
 |d::ds,v::vs,h=>⟨v,vs,rfl,h.2 0 _ _ rfl rfl,HW ⟨Nat.succ.inj h.1,fun i x u e b=>h.2 (i+1) x u e b⟩⟩
theorem sZ.c {K:Cc}(h:∀H,Dw K H d v):sZ K (tC v) (none,d):=fun b H Q q=>q v H (zy.refl _)<|h H
theorem sZ.tup {K:Cc}{ds:Df}(h:wL K ta<|ds.map fun d=>(none,d))(l:ds.length<=100):sZ K (Oj ta) (none,.tuple ds):=fun i H Q q =>
 h i H _ fun g j f e=>⟨zp (by rw[e.1,Za];lia),fun p b=>q _ _ (f.trans<|zF b) ⟨p,g,rfl,xg.of zB,yo.same (zF b) _ _<|HW e⟩⟩
theorem sZ.lst {K:Cc}{ds:Df}(h:wL K ta<|ds.map fun d=>(none,d))(l:ds.length<=100):sZ K (Wr ta) (none,.list ds):=fun i H Q q =>
 h i H _ fun g j f e=>⟨zp (by rw[e.1,Za];lia),fun p b=>q _ _ (f.trans<|zF b) ⟨p,g,rfl,xx.of zB,yo.same (zF b) _ _<|HW e⟩⟩
theorem sZ.pQ {K:Cc}{d:Ek}(k:Key)(h:sZ K te (none,d))(i:zY d=true):sZ K (Rs [(tC<|kV k,te)]) (some k,d):=fun n H Q q p g =>
 h n _ _ fun v r f l=>⟨f _ _ zB,[(k,v)],rfl,(by show 1<=15;decide),by
  have j:=f _ _ zB;refine q _ _ (fun b o e=>?_) ⟨p,v,rfl,g,zB,Dw.tu j z7 d v i l⟩;have:b≠p:=fun z=>by rw[z,g]at e;cases e
  rw[zI this];exact f _ _<|by rwa[zI this]⟩
def pN:List (Key×Ek):=[(.inr "zz",.list [.str "x"]),(.inr "a b",.tuple []),(.inr "ab",.tuple []),(.inl 5,.tuple []),(.inr "zz",.tuple [.str "a\n"]),(.inr "zz",.tuple [.str "b",.str "\t"]),(.inr "aa/b",.tuple []),(.inr "zz",.tuple [.str "good",.int 5]),(.inr "zz",.none)]
def lV:Df:=[.list [],.none,.int 5]
def lZ:List (Option Key×Ek):=(pN.map fun p=>(some p.1,p.2))++lV.map fun d=>(none,d)
def tH:List (Key×Ek):=[(.inr "aa",.tuple [.str "good"]),(.inr "ab/c",.tuple [.str "y",.str "good"])]
theorem PJ:∀d∈lV,(UE d=="dict")=false:=by decide +kernel
theorem Sb:∀j:Fin 9,j.val≠2->j.val≠6->UM [pN[j.val]'j.isLt]=false:=by decide +kernel
theorem Sa:(pN.all fun p=>!UM (tH++[p])&&!UM (p::tH)&&zY p.2&&small (FC p.1)&&small p.2&&!GQ p.1 (tH.map (·.1)))=true:=by decide +kernel
theorem M8 {p:Key×Ek}(h:p∈pN):UM (tH++[p])=false/\UM (p::tH)=false/\zY p.2=true/\small (FC p.1)=true/\small p.2=true/\p.1∉tH.map (·.1):=by
 have:=ZA.mp Sa p h;simp only[Zk,Yj]at this;obtain⟨⟨⟨⟨⟨d,e⟩,f⟩,g⟩,i⟩,b⟩:=this;exact⟨d,e,f,g,i,fun z=>by rw[sE.mpr z]at b;cases b⟩
theorem mJ {j:Nat}{x:Option Key×Ek}(h:lZ[j]?=some x):(∃p∈pN,x=(some p.1,p.2)/\(j≠2->j≠6->UM [p]=false))\/∃d∈lV,x=(none,d):=by
 unfold lZ at h
 rcases Jw j (pN.map fun p=>(some p.1,p.2)).length with z|z
 ·rw[ZH z,Zs]at h;obtain⟨p,b,rfl⟩:=ZS.mp h;obtain⟨hl,e⟩:=Zv.mp b;exact .inl ⟨p,Zt b,rfl,fun f g=>by rw[←e];exact Sb ⟨j,hl⟩ f g⟩
 ·rw[ZP z,Zs]at h;obtain⟨d,hd,rfl⟩:=ZS.mp h;exact .inr ⟨d,Zt hd,rfl⟩
theorem sZ.two {K:Cc}{d e:Ek}{k j:Key}(x:k≠j)(h:sZ K te (none,d))(g:sZ K tf (none,e))(s:zY d=true)(t:zY e=true){l:St}{H:Hp}{Q:VK}(q:∀p u v H',zy H H'->H p=none->H' p=some (.dK [(k,u),(j,v)])->Dw K H' d u->Dw K H' e v->Q (.ref p) H'):Rs [(tC<|kV k,te),(tC<|kV j,tf)] l H Q:=fun p r =>
 h l _ _ fun u B i y=>g l _ _ fun v C f A=>⟨(i.trans f) _ _ zB,[(k,u),(j,v)],rfl,(by show 2<=15;decide),by
  have n:=(i.trans f) _ _ zB;have w:XI [] [(k,u),(j,v)]=[(k,u),(j,v)]:=by
   show ye (ye [] k u) j v=_;rw[vM u rfl];exact vM v<|(xE x).trans rfl
  rw[w];refine q p u v _ (fun b o e=>?_) r zB (Dw.tu n z7 d u s<|Dw.same f d u y)<|Dw.tu n z7 e v t A;have:b≠p:=fun z=>by rw[z,r]at e;cases e
  rw[zI this];exact(i.trans f) _ _ (by rwa[zI this])⟩
theorem K4 {B:Hp}{D:Ends}{r s t w J:Option V}{f x:Ei}{kv d:Dl}{H:Hp}(nx:x≠f)(C:H x=some (.dK kv))(F:∀o u,B x≠some (.frz o u))(E:H f=some (.dK d))(nd:((d++kv).map (·.1)).Nodup)(L:d.length+kv.length<=100)
  (k:∀o H2,Off [f] H H2->H2 f=some (.dK<|d++kv)->D.nx [r,s,t,w,some<|.ref f,some<|.ref x,o] H2):Rt B (ay (SZ<|az<|X1 5) (UT 6)<|Rh (X1 4) (X1 6)<|Tb (X1 5)<|X1 6) D [r,s,t,w,some<|.ref f,some<|.ref x,J] H:=by
 have A:x∉[f]:=fun z=>nx<|Zb.mp z;refine⟨_,rfl,x,kv,rfl,C,fun g=>⟨x,g,kv,rfl,zB,IQ (fun i j H2=>∃o,j=[r,s,t,w,some<|.ref f,some<|.ref x,o]/\Off [f] (upd H x<|.frz g<|.dK kv) H2/\H2 f=some (.dK<|d++kv.take i)) ⟨_,rfl,Off.refl _ _,by rw[zI<|Ey nx,List.take_zero,ZK];exact E⟩ ?_ ?_ ?_⟩⟩
 ·rintro i j H2 _ ⟨o,rfl,of,_⟩;exact of _ _ A zB
 ·rintro i kx v j H2 p ⟨o,rfl,of,l⟩;have K:=(Zv.mp p).1;have I:=(Yo.mp (by rw[Zo]at nd;exact nd)).2.1;refine yA ⟨_,rfl,_,rfl,x,v,rfl,.inl ⟨kv,kx,.inr ⟨g,of _ _ A zB⟩,rfl,(uZ I<|Zt p).symm⟩,_,rfl,_,rfl,f,_,rfl,.inl ⟨_,kx,l,rfl,ZI (by rw[Zp,ZG];lia)<|zp (n:=100)<|by decide,rfl⟩,_,rfl,of.upd<|Zb.mpr rfl,?_⟩;rw[zB,vM v ?_,vz p,Z7];cases q:Uu (d++kv.take i) kx with
  |none=>rfl
  |some y =>
   have m:=kK q;have e:d++kv=(d++kv.take i)++kv.drop i:=by rw[Z7,Z6]
   rw[e,Zo]at nd;refine absurd rfl<|(Yo.mp nd).2.2 kx m kx ?_;refine Zd.mpr ⟨(kx,v),?_,rfl⟩;exact Zt (i:=0) (by rwa[List.getElem?_drop])
 ·rintro j H2 ⟨o,rfl,of,l⟩;rw[ZJ]at l;refine⟨x,g,kv,of _ _ A zB,F,k o _ (fun b u G e=>?_)<|by rwa[zI<|Ey nx]⟩
  by_cases z:b=x
  ·subst z;rwa[zB,←C]
  ·rw[zI z];exact of b u G (by rwa[zI z])
theorem Xv {K:Cc}:∀{ps qs:List (Key×Ek)} {kv ks:Dl},yw K H ps kv->yw K H qs ks->yw K H (ps++qs) (kv++ks)
 |[],_,_,_,h,g=>by rwa[show _=[] from h]
 |p::ps,_,_,_,⟨v,r,h1,h2,h3,h4,h5⟩,g=>⟨v,r++_,by rw[h1];rfl,h2,h3,h4,Xv h5 g⟩
inductive rU (K:Cc)(vs:Dj)(H:Hp)(Q:VK)(e3:XK):Prop
 |mk (i:Int) (h0:vs=[.int i]) (h1:(∀d v H',zy H H'->Dw K H' d v->(UE d=="dict")=false->Q v H')) (h2:∀c Dm ps H',zy H H'->H c=none->H' c=some (.dK Dm)->yw K H' ps Dm->(∀p∈ps,zY p.2=true)->List.length ps<=100->UM ps=false->Q (.ref c) H'):rU K vs H Q e3
namespace Ca
abbrev st:Stmt:=top 75
theorem sc:zx ["_law_cell","_law_odd","_law_bad","_law_good","_law_found","_law_some","_law_path"] ["_law_cell"] (zG st):=Co
include T in
theorem ok (F:xf0 K "_law_no_files" st f fd):yx P w K mg base Cn 1 f fd ["_law_cell"] (rU K):=by
 refine F.ok sc fun _ _ _ _ H vs Q E hr h=>?_;obtain⟨i,rfl,k1,k2⟩:=h;refine⟨_,(zD (Ck (i:=1) sc.nd<|xA<|zA (qV (xO zz (xA<|zA zz zC) qW) rfl rfl (by simp)<|by decide)<|zA (qV (xO zz (yJ zC) qW) rfl rfl (by simp)<|by decide)<|zA (qV (xO zz (yJ zC) qW) rfl rfl (by simp)<|by decide)<|zA (qV (xO zH (yJ zC) qW) rfl rfl (by simp)<|by decide)<|zA (qV (xO zz (yJ<|zA zz zC) qW) rfl rfl (by simp)<|by decide)<|zA (qV (xO zz (yJ<|zA zz<|zA zz zC) qW) rfl rfl (by simp)<|by decide)<|zA (qV (xO zz (yJ zC) qW) rfl rfl (by simp)<|by decide) zC)<|zD (Ck (i:=1) sc.nd<|zZ Kt (pv 1)<|xA<|zA (qV (xO zz (yJ<|zA zz<|zA zH zC) qW) rfl rfl (by simp)<|by decide)<|zA (qV (xO zz k9 qW) rfl rfl (by simp)<|by decide)<|zA (xA zC)<|zA k9<|zA zH zC)<|zD (Ck (i:=2) sc.nd<|yM (wD:Cq _<|rW K) (pv 1)<|zZ y9 (pv 0) zH)<|xN (yI (PW.pt<|uN (xD<|zO (K:=K)<|zK (zT (K:=K)) (by rfl) T.isinstance Zw<|zA (pv 2)<|zA (yY (v:=.ty "dict") rfl T.dict Jd rfl) zC)<|jJ<|PW.pt<|KB (zU xJ (zZ y9 (zZ qB (pv 0) zH) zH) zH<|zV _)<|CU<|zU (F0 (K:=K) hr.units) (zZ y9 (pv 0) zH) (yJ<|zA zH<|zA zH zC)<|by with_unfolding_all rfl) (zE<|zM<|pv 2) zQ)<|zD (Ck (i:=3) sc.nd<|qV (xO zz (yJ<|zA zz zC)<|xO zz (yJ<|zA zz<|zA zz zC) qW) rfl rfl (by simp)<|by decide)<|zD (Ck (i:=4) sc.nd xY)<|zD (xQ EO rfl (jW<|yM (wD:Cq _<|rW K) (xA<|zA (xA<|zA (pv 3)<|zA (pv 2) zC)<|zA (xA<|zA (pv 2)<|zA (pv 3) zC) zC)<|zZ y9 (zZ qB (pv 0) zH) zH) (zR (i:=5) sc.nd rfl<|EL rfl)<|zE<|uL<|xQ EO rfl (Il<|v8<|pv 5) (zR (i:=6) sc.nd rfl<|EL rfl)<|zE<|qO hr.sW (pv 4) (pv 6) (Im hr.sW (pv 5) (pv 6)<|fun _ _=>rfl) rfl)<|zE<|zM<|pv 4),?_⟩
 refine(wL.cons (.pQ (.inr "zz") (.lst (ds:=[.str "x"]) (.cons (.c fun _=>rfl) .nil)<|by decide) rfl) (wL.cons (.pQ (.inr "a b") (.tup (ds:=[]) .nil<|by decide) rfl)<|wL.cons (.pQ (.inr "ab") (.tup (ds:=[]) .nil<|by decide) rfl)<|wL.cons (.pQ (.inl 5) (.tup (ds:=[]) .nil<|by decide) rfl)<|wL.cons (.pQ (.inr "zz") (.tup (ds:=[.str "a\n"]) (.cons (.c fun _=>rfl) .nil)<|by decide) rfl)<|wL.cons (.pQ (.inr "zz") (.tup (ds:=[.str "b",.str "\t"]) (.cons (.c fun _=>rfl)<|.cons (.c fun _=>rfl) .nil)<|by decide) rfl)<|wL.cons (.pQ (.inr "aa/b") (.tup (ds:=[]) .nil<|by decide) rfl) wL.nil):wL K _ _) _ _ _ fun xs H1 s1 o1=>?_;refine⟨zp (by rw[o1.1];decide),fun l0 m0=>?_⟩;refine nw m0 fun H2 s2 al=>?_;refine⟨_,rfl,(wL.cons (.pQ (.inr "zz") (.tup (ds:=[.str "good",.int 5]) (.cons (.c fun _=>rfl)<|.cons (.c fun _=>rfl) .nil)<|by decide) rfl) (wL.cons (.pQ (.inr "zz") (.c (d:=.none) fun _=>rfl) rfl) (wL.cons (.lst (ds:=[]) .nil<|by decide)<|wL.cons (.c (d:=.none) fun _=>rfl) (wL.cons (.c (d:=.int 5) fun _=>rfl) wL.nil))):wL K _ _) _ _ _ fun ys H3 s3 o3=>?_⟩;refine⟨zp (by rw[o3.1];decide),fun l1 m1=>?_⟩;have s4:=zF (o:=.lst ys) m1;refine⟨l0,l1,xs,ys,rfl,rfl,s4 _ _<|s3 _ _ al,zB,zp (by rw[o1.1,o3.1];decide),fun l2 m2=>?_⟩;refine nw m2 fun H4 B am=>?_;have D:zy H H4:=s1.trans<|s2.trans<|s3.trans<|s4.trans B;have oA:uy K H H4 lZ (xs++ys):=by
  refine uy.app (xs:=(pN.take 7).map fun p=>(some p.1,p.2)) (ys:=((pN.drop 7).map fun p=>(some p.1,p.2))++lV.map fun d=>(none,d)) ⟨o1.1,fun i x v U N=>?_⟩ ⟨o3.1,fun i x v U N=>?_⟩
  ·exact(o1.2 i x v U N).same (s2.trans<|s3.trans<|s4.trans B)
  ·exact((o3.2 i x v U N).same<|s4.trans B).back (s1.trans s2)
 clear o1 o3 s1 s2 s3 s4 B al;obtain⟨j,ej⟩:=YQ (Y8 i<|show(12:Int)≠0 by decide);have hj:j<12:=by have:=YN i (show(0:Int)<12 by decide);lia
 have lx:(xs++ys).length=12:=oA.1;have N:=Zl (show j<(xs++ys).length by lia);generalize (xs++ys)[j]=v at N;have U:=Zl<|show j<lZ.length from hj;have o:=oA.2 j _ v U N;have ix:Fa (xs++ys) (i % 12)=some v:=by rw[ej];exact y7 N
 refine yA ⟨_,rfl,_,rfl,_,_,rfl,rfl,by decide,l2,_,_,v,rfl,rfl,xx.of am,ix,yA ?_⟩;clear oA N ix;refine⟨fun a3 I=>zy H4 I/\a3=[some<|.int i,some<|.ref l2,some v,none,none,none,none]/\∃p b u,p∈pN/\v=.ref b/\H b=none/\H4 b=some (.dK [(p.1,u)])/\Dw K H4 p.2 u,?_,?_⟩
 ·rcases mJ U with⟨p,pm,ex,p1⟩|⟨d,dm,ex⟩
  ·rw[ex]at o;obtain⟨b,u,rfl,nb,hb,J⟩:=o;refine⟨_,rfl,_,"dict",.dict [],true,rfl,⟨b,_,rfl,hb⟩,T.kit _ (uH _) _<|by simp[kinds],_,rfl,Gw ?_⟩;refine⟨_,rfl,_,_,rfl,rfl,⟨by decide,by decide⟩,_,_,rfl,rfl,by decide,rfl,_,rfl,UB (fun q=>?_)<|fun q=>Ut ⟨zy.refl _,rfl,p,b,u,pm,rfl,nb,hb,J⟩⟩;refine⟨_,rfl,_,_,rfl,rfl,by decide,Uw 2,fun l3 m3=>?_⟩;refine nw m3 fun H5 B h5=>?_;refine⟨.int<|i % 12,[.int 2,.int 6],rfl,⟨l3,_,rfl,xg.of h5,_,_,rfl,rfl,_,_,rfl,rfl,rfl⟩,by decide +kernel,rfl,ZN _,_,rfl,UB (fun q=>?_)<|fun q=>⟨B,rfl,p,b,u,pm,rfl,nb,hb,J⟩⟩;obtain⟨_,_,p3,p4,p5,_⟩:=M8 pm;refine⟨_,rfl,k2 b _ [p] _ (D.trans B) nb (B _ _ hb) ⟨u,[],rfl,Dw.same B _ _ J,p4,p5,rfl⟩ (fun q hq=>by rwa[Zb.mp hq]) (by show 1<=100;decide)<|p1 (fun z=>?_)<|fun z=>?_⟩
   ·rw[ej,z]at q;exact absurd q (by decide)
   ·rw[ej,z]at q;exact absurd q (by decide)
  ·rw[ex]at o;have kt:=T.kit (UE d) (uH d) "dict" (by simp[kinds]);have nd:=PJ d dm;have o:Dw K H4 d v:=o;rw[nd]at kt;exact⟨_,rfl,_,"dict",d,false,rfl,o,by rw[kt];simp,_,rfl,XT<|Ur ⟨_,rfl,k1 d v _ D o nd⟩⟩
 rintro a3 H5 ⟨B,rfl,p,b,u,pm,rfl,nb,hb,J⟩;have D:=D.trans B;have hb:=B _ _ hb;have J:=Dw.same B _ _ J;clear B U o am;obtain⟨g1,g2,p3,p4,p5,p6⟩:=M8 pm;delta Hz Rq;dsimp only;refine sZ.two (K:=K) (k:=.inr "aa") (j:=.inr "ab/c") (by decide +kernel) (.tup (ds:=[.str "good"]) (.cons (.c fun _=>rfl) .nil)<|by decide) (.tup (ds:=[.str "y",.str "good"]) (.cons (.c fun _=>rfl)<|.cons (.c fun _=>rfl) .nil)<|by decide) rfl rfl ?_;intro g u1 u2 H6 s6 ng hg d1 d2;refine yA fun C nf=>yA ?_;have a2:g≠C:=zN hg nf;have as:b≠C:=zN (s6 _ _ hb) nf;have a0:H C=none:=(D.trans s6).free nf;have a1:H g=none:=D.free ng;have pg:yw K H6 tH [((.inr "aa":Key),u1),(.inr "ab/c",u2)]:=⟨u1,_,rfl,d1,by decide +kernel,by decide +kernel,u2,_,rfl,d2,by decide +kernel,by decide +kernel,rfl⟩;have pb:yw K H6 [p] [(p.1,u)]:=⟨u,[],rfl,Dw.same s6 _ _ J,p4,p5,rfl⟩;have hb:=s6 _ _ hb;have D:=D.trans s6;clear d1 d2 J s6 ng;refine nw nf fun H7 s7 a4=>?_;refine⟨_,rfl,_,rfl,Uw 2,fun O na=>?_⟩;have sa:=zF (o:=.lst [V.ref g,V.ref b]) na;refine⟨_,rfl,_,rfl,Uw 2,fun R a5=>?_⟩;have sb:=zF (o:=.lst [V.ref b,V.ref g]) a5;refine⟨Uw 2,fun lc nc=>?_⟩;have G:=zF (o:=.lst [V.ref O,V.ref R]) nc;have an:=G _ _<|sb _ _ zB;have ap:=G _ _<|zB (H:=upd H7 O<|.lst [V.ref g,V.ref b]) (a:=R) (o:=.lst [V.ref b,V.ref g]);have ar:=zB (H:=upd (upd H7 O<|.lst [V.ref g,V.ref b]) R<|.lst [V.ref b,V.ref g]) (a:=lc) (o:=.lst [V.ref O,V.ref R]);have S:=(s7.trans sa).trans<|sb.trans G;have A:=(sa.trans<|sb.trans G) _ _ a4;generalize upd (upd (upd H7 O<|.lst [V.ref g,V.ref b]) R<|.lst [V.ref b,V.ref g]) lc (.lst [V.ref O,V.ref R])=H9 at an ap ar S A ⊢;have ah:=S _ _ hg;have ab:=S _ _ hb;obtain⟨L,Y,Z,l,s,t,y,ix,hL,h0,h1,n0,n1,e0,e1,pa,nd,df,ln,gb⟩:∃(L Y Z:Ei) (l s:Dl) (t y:List<|Key×Ek),Fa [V.ref O,V.ref R] (i / 60 % 2)=some (.ref L)/\H9 L=some (.lst [.ref Y,.ref Z])/\H9 Y=some (.dK l)/\H9 Z=some (.dK s)/\Y≠C/\Z≠C/\H Y=none/\H Z=none/\yw K H9 (t++y) (l++s)/\((t++y).map (·.1)).Nodup/\(∀q∈t++y,zY q.2=true)/\(t++y).length=3/\UM (t++y)=false:=by
  have z0:=Y8 (i / 60) (show(2:Int)≠0 by decide);have z1:=YN (i / 60) (show(0:Int)<2 by decide);have gn:(tH.map (·.1)).Nodup:=by decide +kernel
  have gd:∀q∈tH,zY q.2=true:=by decide +kernel
  generalize i / 60 % 2=m at z0 z1
  match m,z0,z1 with
  | 0,_,_=>exact⟨O,g,b,_,_,tH,[p],rfl,an,ah,ab,a2,as,a1,nb,Xv (pg.same S)<|pb.same S,by rw[Zo];exact Yo.mpr ⟨gn,Z5.mpr ⟨(nomatch ·),Yn⟩,fun a ha c hc e=>p6<|(e.trans (Zb.mp hc):a=p.1)▸ha⟩,fun q hq=>(ZB.mp hq).elim (gd q) fun z=>by rw[Zb.mp z];exact p3,rfl,g1⟩
  | 1,_,_=>exact⟨R,b,g,_,_,[p],tH,rfl,ap,ab,ah,as,a2,nb,a1,Xv (pb.same S)<|pg.same S,Z5.mpr ⟨p6,gn⟩,fun q hq=>(Zm.mp hq).elim (fun z=>by rwa[z])<|gd q,rfl,g2⟩
 have nk:((l++s).map (·.1)).Nodup:=by rwa[pa.keys]
 have lk:(l++s).length=3:=by rwa[pa.length]
 rw[Zp]at lk;refine⟨_,rfl,_,_,rfl,rfl,⟨by decide,by decide⟩,_,_,rfl,rfl,by decide,lc,_,_,_,rfl,rfl,xx.of ar,ix,L,rfl,⟨_,xx.of hL⟩,uA (K:=K) (a:=L) (xs:=[.ref Y,.ref Z]) (fun n σ I=>∃o5 o6 r,σ=[some<|.int i,some<|.ref l2,some<|.ref b,some<|.ref g,some<|.ref C,o5,o6]/\Off [C] H9 I/\I C=some (.dK r)/\r=([l,s].take n).flatten) ⟨none,none,[],rfl,Off.refl _ _,A,rfl⟩ ?_ ?_ ?_⟩
 ·rintro n σ I _ ⟨o5,o6,r,rfl,of,_⟩;exact xx.of (of _ _ (fun z=>by rw[Zb.mp z,A]at hL;cases hL) hL)
 ·rintro n v σ I hn ⟨o5,o6,r,rfl,of,ha,M⟩
  rcases oJ hn with⟨rfl,rfl⟩|⟨rfl,rfl⟩
  ·subst M;refine yA (K4 n0 (of _ _ (fun z=>n0<|Zb.mp z) h0) (fun o u (z:H Y=_)=>by rw[e0]at z;cases z) ha ?_ (by show 0+_<=100;lia) fun o H2 X h2=>⟨_,_,_,rfl,of.trans X,h2,?_⟩)
   ·rw[Zo]at nk;exact(Yo.mp nk).1
   ·simp
  ·have M:r=l:=by rw[M];simp
   subst M;refine yA (K4 n1 (of _ _ (fun z=>n1<|Zb.mp z) h1) (fun o u (z:H Z=_)=>by rw[e1]at z;cases z) ha nk (by lia) fun o H2 X h2=>⟨_,_,_,rfl,of.trans X,h2,?_⟩);simp
 ·rintro σ I ⟨o5,o6,r,rfl,of,ha,M⟩;have M:r=l++s:=by rw[M];simp
  subst M;refine⟨_,rfl,k2 C _ (t++y) I (fun a o e=>of a o (fun z=>by rw[Zb.mp z,a0]at e;cases e)<|(D.trans S) _ _ e) a0 ha (pa.tu A of df) df (by lia) gb⟩
end Ca
end
end An08
namespace An
open PySem L2
def namesW:Th->Da
 | .leaf _=>[]
 | .tree Do=>Do.map (·.2)
 | .note x ps _=>x::ps
def Hl (ds:Df):Da:=ds.filterMap fun d=>match d with
 | .tuple [_,.str n]=>some n
 |_=>none
def inD:Ek->Da
 | .tuple [_,.tuple ds]=>Hl ds
 | .tuple [_,.str t,.tuple ds,_]=>t::Nq ds
 |_=>[]
theorem GE:∀ls:Da,Hl (ls.map .str)=[]
 |[]=>rfl
 |l::ls=>by
  show Hl (ls.map .str)=[];exact GE ls
theorem IZ:∀Do:Dg,Hl (Do.map zm)=Do.map (·.2)
 |[]=>rfl
 |r::Do=>by
  show r.2::Hl (Do.map zm)=_;rw[IZ Do];rfl
theorem O4:∀t:Th,inD t.dat=namesW t
 | .leaf ls=>GE ls
 | .tree Do=>IZ Do
 | .note x ps y=>congrArg (x::·)<|uD ps
def Cl (S:Di):Prop:=∀(i:Nat) (e:En),S[i]?=some e->∀n∈inD e.d,∃j f,j<i/\S[j]?=some f/\f.nm=n
theorem Cl.nil:Cl []:=fun i e h=>(nomatch h)
theorem Cl.snoc {e:En}(c:Cl S)(h:∀n∈inD e.d,n∈S.map En.nm):Cl (S++[e]):=fun i f b n hn=>by
 rcases Jw i S.length with z|z
 ·rw[ZH z]at b;obtain⟨j,g,p,r,s⟩:=c i f b n hn;exact⟨j,g,p,by rw[ZH<|by lia];exact r,s⟩
 ·rw[ZP z]at b;have:i-S.length=0:=by
   rcases Y2 (i-S.length) with q|q
   ·exact q
   ·rw[Yh (by show 1<=_;lia)]at b;cases b
  rw[this]at b;cases b;obtain⟨g,t,o⟩:=Zd.mp<|h n hn;obtain⟨j,l⟩:=Yq.mp t;have u:=(Zv.mp l).1;exact⟨j,g,by lia,by rw[ZH u];exact l,o⟩
theorem CT {t:Th}(g:yd S)(gt:t.Good)(l:S.length<2000)(c:Cl S)(h:∀n∈namesW t,n∈S.map En.nm):Cl (Cf S t).1/\(Cf S t).2∈(Cf S t).1.map En.nm/\∀n∈S.map En.nm,n∈(Cf S t).1.map En.nm:=by
 obtain⟨_,at_,_,T,b,_⟩:=jE g gt l;refine⟨?_,at_.mem,fun n hn=>by rw[b,Zo];exact Ya _ hn⟩;unfold Cf
 split
 ·exact c
 ·refine c.snoc fun n hn=>?_;have:inD (GO S t).d=namesW t:=O4 t;rw[this]at hn;exact h n hn
theorem Pp:∀(vs:List<|Str×Da) {a:List En×Dg},yd a.1->Cl a.1->(∀r∈a.2,r.2∈a.1.map En.nm)->(∀v∈vs,UN v.2)->a.1.length+vs.length<2000->yd (vs.foldl Cd a).1/\Cl (vs.foldl Cd a).1/\(∀r∈(vs.foldl Cd a).2,r.2∈(vs.foldl Cd a).1.map En.nm)/\(vs.foldl Cd a).1.length<=a.1.length+vs.length
 |[],a,ok,c,h,_,_=>⟨ok,c,h,by simp⟩
 |v::vs,a,ok,c,h,ln,hl=>by
  rw[Zj]at hl;have d:=ln v Zi;obtain⟨b,e,l,_⟩:=jE ok (kF d) (by lia);obtain⟨f,o,j⟩:=CT ok (kF d) (by lia) c<|fun n hn=>(nomatch hn);have:=Pp vs (a:=Cd a v) b f (fun r g=>by
   rcases ZB.mp g with z|z
   ·exact j _ (h r z)
   ·rwa[Zb.mp z]) (fun v i=>ln v<|Zf _ i) (by
   show(Cf a.1<|.leaf v.2).1.length+_<2000;lia)
  refine⟨this.1,this.2.1,this.2.2.1,ZR this.2.2.2 ?_⟩;show(Cf a.1<|.leaf v.2).1.length+_<=_;rw[Zj];lia
theorem WW:∀(ls:Da),(∀l∈ls,∀S,yd S->Cl S->S.length+1+wt (sub fs l)<=2000->(yd (Uz d S<|sub fs l).1/\Cl (Uz d S<|sub fs l).1/\(Uz d S<|sub fs l).2∈(Uz d S<|sub fs l).1.map En.nm/\(∀n∈S.map En.nm,n∈(Uz d S<|sub fs l).1.map En.nm))/\(Uz d S<|sub fs l).1.length<=S.length+1+wt (sub fs l)) ->
  ∀{a:List En×Dg},yd a.1->Cl a.1->(∀r∈a.2,r.2∈a.1.map En.nm)->a.1.length+(ls.map fun l=>1+wt (sub fs l)).sum<=2000->yd (ls.foldl (Ci d fs) a).1/\Cl (ls.foldl (Ci d fs) a).1/\(∀r∈(ls.foldl (Ci d fs) a).2,r.2∈(ls.foldl (Ci d fs) a).1.map En.nm)
 |[],_,a,ok,c,h,_=>⟨ok,c,h⟩
 |l::ls,H,a,ok,c,h,hl=>by
  rw[ZE,Jf]at hl;obtain⟨⟨e,f,o,i⟩,j⟩:=H l Zi a.1 ok c (by lia);refine WW ls (fun l b=>H l<|Zf _ b) (a:=Ci d fs a l) e f (fun r g=>?_) ?_
  ·rcases ZB.mp g with z|z
   ·exact i _ (h r z)
   ·rwa[Zb.mp z]
  ·show(Uz d a.1<|sub fs l).1.length+_<=2000;lia
theorem Sw:∀(d:Nat) {S:Di} {fs:Dk},yd S->Cl S->yg (d+1) fs->fs.length<=63->S.length+1+wt fs<=2000->Cl (Uz (d+1) S fs).1:=fun d=>by
 induction d with
 |zero =>
  intro S fs ok c g hl x;have E:Cm fs=[]:=by
   cases q:Cm fs with
   |nil=>rfl
   |cons l r =>
    obtain⟨f,K,b,O,J⟩:=((xG fs).2 l).mp (by rw[q];exact Zi);have:=(g.wN f K).2.1;rw[J,Zj,Zj]at this;lia
  have hm:=many fs;obtain⟨o,w,u,z⟩:=Pp (Cj fs) (a:=(S,[])) ok c (fun r i=>(nomatch i)) (fun v y=>(g.wN _<|wC.mp y).2.2.2) (by show S.length+_<2000;lia);obtain⟨C,A,B,j,n2⟩:=OQ ok g hl x (q:=(Cj fs).foldl Cd (S,[])) (by rw[E];rfl);rw[Iq,E];refine(CT o (Ij o (by rwa[(z5 _).length_eq]) fun r i=>?_) A w fun n hn=>?_).1
  ·have i:=(z5 _).mem_iff.mp i;exact⟨(j r i).1,u r i⟩
  ·obtain⟨r,i,e⟩:=Zd.mp hn;rw[←e];exact u r<|(z5 _).mem_iff.mp i
 |succ d ih =>
  intro S fs ok c g hl x;have hm:=many fs;obtain⟨o,w,u,z⟩:=Pp (Cj fs) (a:=(S,[])) ok c (fun r i=>(nomatch i)) (fun v y=>(g.wN _<|wC.mp y).2.2.2) (by show S.length+_<2000;lia);have z:((Cj fs).foldl Cd (S,[])).1.length<=S.length+(Cj fs).length:=z;obtain⟨t,H,F⟩:=WW (d:=d+1) (fs:=fs) (Cm fs) (fun l L N s G p=>by
   obtain⟨D,M⟩:=Ic d s (g.sub l) (ZR sub_len hl) p;obtain⟨T,I,_⟩:=D.new;exact⟨⟨D.ok,ih s G (g.sub l) (ZR sub_len hl) p,D.tree.mem,fun n hn=>by rw[I,Zo];exact Ya _ hn⟩,M⟩) o w u (by lia)
  obtain⟨C,A,B,j,n2⟩:=OQ ok g hl x rfl;rw[Iq];refine(CT t (Ij t (by rwa[(z5 _).length_eq]) fun r i=>?_) A H fun n hn=>?_).1
  ·have i:=(z5 _).mem_iff.mp i;exact⟨(j r i).1,F r i⟩
  ·obtain⟨r,i,e⟩:=Zd.mp hn;rw[←e];exact F r<|(z5 _).mem_iff.mp i
theorem ad {S:Di}(g:(S.map En.nm).Nodup){j k:Nat}{e f:En}(b:S[j]?=some e)(hk:S[k]?=some f)(h:e.nm=f.nm):j=k:=by
 obtain⟨l,d⟩:=Zv.mp b;obtain⟨n,i⟩:=Zv.mp hk;have:(S.map En.nm)[j]'(by rwa[Za])=(S.map En.nm)[k]'(by rwa[Za]):=by
  rw[ZT,ZT,d,i,h]
 exact(Jg g).mp this
end An
namespace L2
open PySem PySem.Spec PyProof.Rows
section
variable {X:Cx}
def Sy:V->Dj->Hp->VK->Prop:=fun x d H Q=>∃a b:Str,x=.str a/\d=[.str b]/\Q (.int<|Txt.count a b) H
theorem N6:RA X "str.count" Sy:=by
 intro f s l H x j v i Q I e d h;obtain⟨a,b,rfl,rfl,q⟩:=h;obtain⟨t,rfl⟩:=e;obtain⟨u,rfl,g,rfl⟩:=wX d;exact SC.count ⟨.int _,H,I.tok _,⟨_,rfl⟩,q⟩
def Wc:V->Dj->Hp->VK->Prop:=fun x b H Q=>∃u y:Str,x=.str u/\b=[.str y]/\(y.length==0)=false/\u.length<=sizeLine/\∀p,H p=none->Q (.ref p) (upd H p<|.tup [.str (E7 u y).1,.str (E7 u y).2.1,.str (E7 u y).2.2])
theorem GP:RA X "str.rpartition" Wc:=by
 intro g s n H x l v j Q I f e h;obtain⟨a,y,rfl,rfl,b,d,q⟩:=h;obtain⟨t,rfl⟩:=f;obtain⟨w,rfl,t',rfl⟩:=wX e;refine Vh F.slot_str_rpartition (JY s _ t) F.entry_str_rpartition (F.args_str_rpartition_2 _ _) (meets_str_rpartition a y t t' b d) ?_;have hn:H s.heap.objs.size=none:=I.hok.fresh<|Zg _;unfold E7 at q
 revert q
 cases Builtin.Str.lastOccurrence a y 0 a.length with
 |none =>
  intro q;refine⟨.ref s.heap.objs.size,_,I.laid (t':=s.toks+1) (a:=s.heap.objs.size) (o:=.tup [.str LX,.str LX,.str a]) (fun _ _ q=>Zc _ q) (Zg _) ?_,rfl,q _ hn⟩;exact⟨by show 3<=sizeLine;decide,_,.cons ⟨_,rfl⟩<|.cons ⟨_,rfl⟩<|.cons ⟨_,rfl⟩ .nil,⟨_,Zq _ rfl,rfl,_,rfl,rfl⟩⟩
 |some i =>
  intro q;refine⟨.ref s.heap.objs.size,_,I.laid (t':=s.toks+1+1) (a:=s.heap.objs.size) (o:=.tup [_,.str y,_]) (fun _ _ q=>Zc _ q) (Zg _) ?_,rfl,q _ hn⟩;exact⟨by show 3<=sizeLine;decide,_,.cons ⟨_,rfl⟩<|.cons ⟨_,rfl⟩<|.cons ⟨_,rfl⟩ .nil,⟨_,Zq _ rfl,rfl,_,rfl,rfl⟩⟩
end
end L2
namespace An08
open PySem L2 An
seal L2.PS L2.sX L2.PE L2.PT L2.PW L2.PA L2.PG L2.pC L2.PI L2.oY L2.PC
theorem wO.over (g:yg n fs){ls:Da}(e:ls≠[])(h:(fs.all fun f=>!(Ux (zc f.1) (zc ls)||Ux (zc ls) (zc f.1)))=true):wO fs ls:=fun k hk t d=>by
 have:=ZA.mp h k hk;rw[Yj,YG]at this
 rcases Mg (t=[]) with q|q
 ·exact q
 ·exfalso
  rcases d with z|z
  ·have b:=this.1;rw[z,B5 (g.wN k hk).1 q,IG]at b;cases b
  ·have b:=this.2;rw[z,B5 e q,IG]at b;cases b
theorem Na {a b:Da}(g:a≠[])(j:∀l∈a,zP l=true)(n:b≠[])(bl:∀l∈b,zP l=true)(h:Ux (zc a) (zc b)=true):∃t,b=a++t/\t≠[]:=by
 obtain⟨i,f,e⟩:=Zd.mp<|mL.mpr h;rw[k6 n bl]at f e;have f:=Jl.mp f;have e:zc (b.take<|i+1)=zc a:=e;have o:b.take (i+1)≠[]:=fun q=>by
  have:=congrArg List.length q;rw[ZG,Ym]at this;lia
 have e:=uP (d:=0) o g (fun l hl=>bl l<|Y7 hl) j e;refine⟨b.drop<|i+1,?_,fun q=>?_⟩
 ·rw[←e,Z6]
 ·have:=congrArg List.length q;rw[YO,Ym]at this;lia
theorem wO.all (g:yg n fs){ls:Da}(i:ls≠[])(j:∀l∈ls,zP l=true)(h:wO fs ls):(fs.all fun f=>!(Ux (zc f.1) (zc ls)||Ux (zc ls) (zc f.1)))=true:=by
 refine ZA.mpr fun f b=>?_;rw[Yj,YG];constructor
 ·cases q:Ux (zc f.1) (zc ls) with
  |false=>rfl
  |true =>
   obtain⟨t,e,d⟩:=Na (g.wN f b).1 (g.wN f b).2.2.1 i j q;exact absurd (h f b t<|.inl e) d
 ·cases q:Ux (zc ls) (zc f.1) with
  |false=>rfl
  |true =>
   obtain⟨t,e,d⟩:=Na i j (g.wN f b).1 (g.wN f b).2.2.1 q;exact absurd (h f b t<|.inr e) d
theorem TF {K:Cc}{ls:Da}(j:xr K H fs Dm)(gf:yg n fs)(r:ls≠[])(s:∀l∈ls,zP l=true):(Uu Dm<|.inr<|zc ls).isSome=true↔ls∈fs.map (·.1):=by
 constructor
 ·intro h;cases q:Uu Dm (.inr<|zc ls) with
  |none=>rw[q]at h;cases h
  |some v =>
   have:=kK q;rw[j.keys]at this;obtain⟨g,i,b⟩:=Zd.mp this;have b:zc g.1=zc ls:=Sum.inr.inj b;exact Zd.mpr ⟨g,i,uP (d:=0) (gf.wN g i).1 r (gf.wN g i).2.2.1 s b⟩
 ·intro h;obtain⟨f,o,e⟩:=Zd.mp h;obtain⟨v,p,_⟩:=j.at gf o;have e:f.1=ls:=e;rw[←e,p];rfl
def Num (S:Di):Prop:=∀(i j:Nat) (e f:En),i<j->S[i]?=some e->S[j]?=some f->e.h=f.h->e.n<f.n
theorem Hd (h:Num S):Num (Cf S t).1:=by
 unfold Cf
 split
 ·exact h
 ·intro i j e f l d b g
  rcases Jw j S.length with z|z
  ·rw[ZH z]at b;rw[ZH<|by lia]at d;exact h i j e f l d b g
  ·have n:=(Zv.mp b).1;rw[Zp,YJ]at n;rw[ZH<|by lia]at d;rw[ZP z,show j-S.length=0 by lia]at b;cases b;have:=MY<|Zt d;rw[g]at this;exact this
theorem F9:∀(d:Nat) {S:Di} {fs:Dk},Num S->Num (Uz d S fs).1
 | 0,_,_,h=>h
 |d+1,S,fs,h=>by
  refine Hd ?_;have f:∀(e:List<|Str×Da) (a:List En×Dg),Num a.1->Num (e.foldl Cd a).1:=by
   intro e
   induction e with
   |nil=>intro a ha;exact ha
   |cons v e ih=>intro a ha;exact ih _<|Hd ha
  have g:∀(b:Da) (a:List En×Dg),Num a.1->Num (b.foldl (fun a l=>((Uz d a.1<|sub fs l).1,a.2++[(l,(Uz d a.1<|sub fs l).2)])) a).1:=by
   intro b
   induction b with
   |nil=>intro a ha;exact ha
   |cons l b ih=>intro a ha;exact ih _<|F9 d ha
  exact g _ _<|f _ _ h
theorem MW (g:yd S)(c:Cl S):∀{d:Nat} {x y:Str} {i j:Nat} {e f:En},Tree d S x->y∈met d S x->S[i]?=some e->e.nm=x->S[j]?=some f->f.nm=y->j<=i
 | 0,_,_,_,_,_,_,t,_,_,_,_,_=>absurd t id
 |d+1,x,y,i,j,e,f,t,h,hi,ei,hj,ej=>by
  have one:y=x->j<=i:=fun z=>J3<|ad g.good.nn hj hi<|ej.trans<|z.trans ei.symm
  rcases t with⟨ls,b⟩|⟨rs,b,so,hr⟩
  ·rw[IA g b]at h;exact one<|Zb.mp h
  ·rw[j4 g b]at h
   rcases Zm.mp h with z|z
   ·exact one z
   ·obtain⟨r,l,hm⟩:=YC.mp z;obtain⟨o,n,q,p⟩:=b;have:o=e:=CP g.good.nn n (Zt hi)<|q.trans ei.symm;subst this;obtain⟨k,s,u,hk,fn⟩:=c i o hi r.2 (by rw[p,O4];exact Zd.mpr ⟨r,l,rfl⟩);have:=MW g c (hr r l).2.1 hm hk fn hj ej;lia
theorem Oe (l:ur 5 [] fs q)(c:Cl q.1)(n:Num q.1){e f:En}(u:e∈q.1)(r:e.nm=q.2)(d:f∈q.1)(p:f.h=e.h):f.n<=e.n:=by
 obtain⟨i,g⟩:=Yq.mp u;obtain⟨j,b⟩:=Yq.mp d;obtain⟨T,o,t⟩:=l.new;have s:f∈T:=by rw[o]at d;exact d
 have:=MW l.ok c l.tree (t f s) g r b rfl
 rcases Jw j i with z|z
 ·exact Yx (n j i f e z b g p)
 ·have:j=i:=by lia
  subst this;rw[g]at b;cases b;exact Zg _
theorem M5:∀a:Fin 100,(cs<|UD a.val).length=if a.val<10 then 1 else 2:=by decide +kernel
theorem Pd {a b:Nat}(h:a<=b)(hb:b<100):(cs<|UD a).length<=(cs<|UD b).length:=by
 have d:=M5 ⟨a,by lia⟩;have e:=M5 ⟨b,hb⟩;simp only at d e;rw[d,e]
 split<;>split<;>lia
theorem TV (g:yd S)(n:S.length<=90):("T1.99":Str)∉S.map En.nm:=fun z=>by
 obtain⟨e,b,d⟩:=Zd.mp z;have:=congrArg cs d;rw[Bj,show cs ("T1.99":Str)=[84,49]++46::[57,57] by decide +kernel]at this;obtain⟨_,f⟩:=Ip (g.good.ent e b).free (by decide) this;have i:e.n=99:=FW (yc (by rw[f];decide +kernel));have:=g.num e b;lia
theorem Pz {S:Di}:("":Str)∉S.map En.nm:=fun z=>by
 obtain⟨e,d,b⟩:=Zd.mp z;have:=congrArg List.length<|congrArg cs b;rw[Bj,Zp,Zj,show(cs ("":Str)).length=0 by decide +kernel]at this;lia
theorem R8 (g:yd S)(i:ur 5 [] fs q)(c:Cl q.1)(n:Num q.1)(l:q.1.length<=90)(more:∀e∈S,e∈q.1\/∀Do,e.d≠(Th.tree Do).dat):q.2++"0"∉S.map En.nm:=fun z=>by
 obtain⟨f,s,x⟩:=Zd.mp z;obtain⟨Do,e,o,v,w⟩:=i.node;have:=congrArg cs x;rw[Bj,zq,←v,Bj,Z7]at this;obtain⟨y,A⟩:=Ip (g.good.ent f s).free (i.ok.good.ent e o).free this;have j:f.h=e.h:=yc y
 rcases more f s with p|p
 ·have le:=Oe i c n o v p j;have:=i.ok.num e o;have:=Pd le (by lia);rw[show cs (UD f.n)=cs (UD e.n)++cs "0" from A,Zp,show(cs ("0":Str)).length=1 by decide +kernel]at this;lia
 ·obtain⟨t,B,_,th⟩:=g.th f s;obtain⟨u,C,_,D⟩:=i.ok.th e o;have:u=.tree Do:=uU<|C.symm.trans w;subst this;have lt:t.letter=(Th.tree Do).letter:=by
   rw[th,D]at j;unfold UF at j;have:=congrArg cs j;rw[zq,zq,x9,x9]at this;refine yc ?_;rw[x9,x9];simp only[VD,VN,List.cons.injEq]at this;rw[this.1]
  cases t with
  |tree r=>exact p r B
  |leaf ls=>exact absurd lt (by show¬("L":Str)="T";decide +kernel)
  |note a b c=>exact absurd lt (by show¬("N":Str)="T";decide +kernel)
theorem HU {x:Str}(h:1<=x.length):Txt.count x "/"=(((Us x).length-1:Nat):Int):=by
 unfold Txt.count Us Lu;have d:Lf "/"=1:=by decide +kernel
 have e:1<=Lf x:=by
  unfold Lf
  split
  ·exact Zg _
  ·split<;>decide
 have f:("/":Str).length=1:=by decide +kernel
 have b:(decide (x.length<("/":Str).length)||decide (Lf x<Lf "/"))=false:=by
  rw[Zn<|by lia,Zn<|by lia];rfl
 rw[Zr (by rw[b];decide)]
 split
 ·rename_i z;rw[Ue.mp z];rfl
 ·rw[length_partsBetween];rfl
def To (z:Str):Prop:=z=""\/((∀l∈Us z,zP l=true)/\(Us z).length<=5)
theorem P3 (h:To z):z.length<=1000/\Er z=true:=by
 rcases h with rfl|⟨h,b⟩
 ·exact⟨by decide +kernel,by decide +kernel⟩
 ·have e:=Bm z;have e:zc (Us z)=z:=e;refine⟨?_,by rw[←e];exact P5 h⟩;have:=uW h;rw[e]at this;rw[zb];lia
theorem Sr (h:To z):UC z=(decide (z≠"")&&decide (Txt.count z "/"<4)):=by
 by_cases e:z=""
 ·rw[e,Zn<|fun q=>q rfl];show UC ""=false
  decide +kernel
 ·have hl:1<=z.length:=by
   rcases Y2 z.length with q|q
   ·rw[zb]at q;exact absurd (yc (by rw[List.length_eq_zero_iff.mp q];decide +kernel)) e
   ·exact q
  rcases h with h|⟨h,b⟩
  ·exact absurd h e
  ·rw[Ze e,HU hl];unfold UC;rw[ZA.mpr h,Bool.and_true,VJ];have:=Gk z
   by_cases q:(Us z).length<=4
   ·rw[Ze q,Ze<|by lia]
   ·rw[Zn q,Zn<|by lia]
theorem F6 (h:HJ ls):To (zc ls):=.inr (by rw[k6 h.1 h.2.2];exact⟨h.2.2,by have:=h.2.1;lia⟩)
theorem Fp (h:cs z=cs y++47::cs t):Us z=Us y++Us t:=by
 have:(Us z).map cs=(Us y++Us t).map cs:=by rw[Zo,qN,qN,qN,h,iD]
 have:=congrArg (List.map Sc) this;rw[ZF,ZF,show(Sc∘cs)=(id:Str->Str) from funext m5,J1,J1]at this;exact this
theorem Ss (h:HJ ls):To (zc ls++"/b"):=by
 have e:Us (zc ls++"/b")=ls++Us "b":=by
  rw[Fp (y:=zc ls) (t:="b") (by rw[zq];rfl),k6 h.1 h.2.2]
 have hb:Us "b"=[("b":Str)]:=by
  rw[show("b":Str)=zc [("b":Str)] by decide +kernel];exact k6 (by simp) (fun l hl=>by rw[Zb.mp hl];decide +kernel)
 rw[hb]at e;refine .inr ⟨fun l hl=>?_,by rw[e,Zp];have:=h.2.1;show _+1<=5;lia⟩;rw[e]at hl
 rcases ZB.mp hl with q|q
 ·exact h.2.2 l q
 ·rw[Zb.mp q];decide +kernel
theorem Su (h:HJ ls):To (E7 (zc ls) "/").1:=by
 unfold E7
 rcases StrLaws.last_spec (zc ls) "/" with⟨e,_⟩|⟨i,e,a,_⟩
 ·rw[e];exact .inl rfl
 ·rw[e];have hm:(cs<|zc ls)[i]?=some 47:=(Lw _ 47 i).mp a;have f:=(Zv.mp hm).1;have b:cs (zc ls)=(cs<|zc ls).take i++47::(cs<|zc ls).drop (i+1):=by
   have:=J6 f;rw[(Zv.mp hm).2]at this;rw[←this,Z6]
  have d:cs (EV (zc ls) 0 i)=(cs<|zc ls).take i:=by rw[IY,Vo]
  have:=Fp (z:=zc ls) (y:=EV (zc ls) 0 i) (t:=Sc<|(cs<|zc ls).drop<|i+1) (by rwa[d,oM]);rw[k6 h.1 h.2.2]at this;refine .inr ⟨fun l hl=>h.2.2 l (by rw[this];exact Ya _ hl),?_⟩;have g:=h.2.1;rw[this,Zp]at g;show(Us<|EV (zc ls) 0 i).length<=5;lia
theorem X7 (h:UC z=true):HJ (Us z)/\z=zc (Us z):=by
 unfold UC at h;rw[Zk,ZQ,ZA]at h;exact⟨⟨fun q=>by have:=Gk z;rw[q]at this;exact absurd this<|by decide,h.1,h.2⟩,(Bm z).symm⟩
theorem Py {c:Nat}(h:c∉cs x):Os ⟨#[c]⟩ x=true:=by
 have:EH x ⟨#[c]⟩ 0 x.length 1=[]:=by
  rcases StrLaws.occ_head_from x ⟨#[c]⟩ 0 1 (Zg 1) with⟨h0,hn⟩|⟨k,r,h0,hlo,hk,hn⟩
  ·exact h0
  ·have hm:=(Lw _ c k).mp hk;have hm:(cs x)[k]?=some c:=hm;exact absurd (Zt hm) h
 unfold Os;rw[this];rfl
theorem Pf (h:UR x=true):BB (.str x)=true:=by
 unfold UR at h;rw[Zk,ZQ,ZA]at h;have nn:∀c,UL c=false->c∉cs x:=fun c b z=>by rw[h.2 c z]at b;cases b
 show(decide ((x.length:Int)<21)&&(Os ⟨#[10]⟩ x&&Os ⟨#[9]⟩ x))=true;rw[Ze<|by lia,Py<|nn 10<|by decide,Py<|nn 9<|by decide];rfl
theorem XB (h:UN ls):uE (AnJ.yh ls)=true/\xP (AnJ.yh ls)=true/\small (AnJ.yh ls)=true:=by
 refine⟨?_,?_,?_⟩
 ·show(ls.map EI).all BB=true;rw[List.all_map,ZA];exact fun l hl=>Pf<|h.2 l hl
 ·show(ls.map EI).all US=true;rw[List.all_map,ZA];exact h.2
 ·show(decide ((ls.map EI).length<=1000)&&yH (ls.map .str))=true;rw[qG fun l hl=>(kD<|h.2 l hl).len,Za,Ze (show ls.length<=1000 by have:=h.1;lia)];rfl
theorem BF (ls:Da):zY (AnJ.yh ls)=true:=by
 show yF (ls.map EI)=true
 induction ls with
 |nil=>rfl
 |cons l ls ih=>exact ih
structure nG (S:Di)(x:Str)(fs:Dk):Prop where
 tree:Tree 5 S x
 node:∃Do,At S x<|.tree Do
 rd:∀f,f∈zu 5 S x↔f∈fs
 len:(zu 5 S x).length<=61
theorem nG.more {S T:Di}(g:yd<|S++T)(d:yd S)(h:nG S x fs):nG (S++T) x fs:=by
 obtain⟨t,r⟩:=h.tree.more g d;obtain⟨b,a⟩:=h.node;exact⟨t,⟨b,a.more⟩,fun f=>by rw[r];exact h.rd f,by rw[r];exact h.len⟩
def lJ (g:Ek):Prop:=(∃b,g=AnJ.yh b/\UN b)\/(xP g=false/\uE g=false/\small g=true)
def TQ:Ek->Da
 | .tuple ds=>Nq ds
 |_=>[]
def UH (i:Int)(r:Bool)(e g:Ek)(fs:Dk):Str :=
 if r=false then"name" else if i=0 then"" else if UA e=false then"path" else
 if i=2 then(if(!uE g||!(qQ fs<|U1 e).isEmpty)=true then"files" else"") else
 if i=1 then"" else if Us (U1 e)∈fs.map (·.1) then"" else"fit"
noncomputable def Cy (i:Int)(S:Di)(r:Str)(e g:Ek):Di :=
 if i=2 then(Cv S r (Us<|U1 e)<|TQ g).1 else if i=3 then(outF S r<|Us<|U1 e).1 else S
theorem GH (g:yg n fs){ls:Da}(d:HJ ls):(qQ fs<|zc ls).isEmpty=true↔wO fs ls:=by
 have:(qQ fs<|zc ls).isEmpty=true↔(fs.all fun f=>!(Ux (zc f.1) (zc ls)||Ux (zc ls) (zc f.1)))=true:=by
  unfold qQ;rw[Ue,List.filter_eq_nil_iff,ZA];constructor
  ·intro h f b;have:=h (zc f.1)<|Zd.mpr ⟨f,b,rfl⟩;rwa[Bool.or_comm,Yj,Z0]
  ·intro h q e;obtain⟨f,b,rfl⟩:=Zd.mp e;have:=h f b;rw[Bool.or_comm,Yj,Z0]at this;exact this
 rw[this];exact⟨fun h=>wO.over g d.1 h,fun h=>wO.all g d.1 d.2.2 h⟩
structure jq (P:Ej)(w:Ep)(K:Cc)(C:Ei)(H:Hp)(a:Ei)(fp:Dd)(S:Di)(r:Str)(fs:Dk)(d e g:Ek)(v u t:V):Prop where
 sh:yq P w K C H a fp S
 ok:yd S
 len:S.length+10<=2000
 gf:yg 4 fs
 dv:Dw K H d v
 eu:Dw K H e u
 se:small e=true
 gt:Dw K H g t
 ln:lJ g
 rt:(d=.str r/\nG S r fs)\/(d≠.str r/\Uy S d "tree"=false)
section
variable {P:Ej}{w:Ep}{K:Cc}{aC aN b1 b2 b3:Ei}{H:Hp}{a:Ei}{fp:Dd}{S:Di}{r:Str}{fs:Dk}{d e g:Ek}{v u t:V}
theorem nG.free (h:nG S r fs):wO (zu 5 S r) ls↔wO fs ls:=⟨fun z f b=>z f<|(h.rd f).mpr b,fun z f b=>z f<|(h.rd f).mp b⟩
theorem nG.in (h:nG S r fs){ls:Da}:ls∈(zu 5 S r).map (·.1)↔ls∈fs.map (·.1):=by
 rw[Zd,Zd];exact⟨fun⟨f,b,e⟩=>⟨f,(h.rd f).mp b,e⟩,fun⟨f,b,e⟩=>⟨f,(h.rd f).mpr b,e⟩⟩
theorem lJ.small (h:lJ g):An.small g=true:=by
 rcases h with⟨ls,rfl,h⟩|⟨_,_,h⟩
 ·exact(XB h).2.2
 ·exact h
theorem lJ.eq (h:lJ g):uE g=xP g:=by
 rcases h with⟨ls,rfl,h⟩|⟨h1,h2,_⟩
 ·rw[(XB h).1,(XB h).2.1]
 ·rw[h1,h2]
theorem R6 (A:jq P w K aC H a fp S r fs d e g v u t){i:Int}(hd:d=.str r)(b:UH i true e g fs=""):yd (Cy i S r e g)/\(Cy i S r e g).length<=S.length+6/\∃T,Cy i S r e g=S++T:=by
 have same:yd S/\S.length<=S.length+6/\∃T,S=S++T:=⟨A.ok,by lia,[],(ZK _).symm⟩
 rcases A.rt with⟨_,R⟩|⟨z,_⟩
 rotate_left
 ·exact absurd hd z
 obtain⟨F,j⟩:=R.node;have:=A.len;unfold UH at b;rw[Zr<|by decide]at b;unfold Cy
 by_cases D:i=0
 ·rwa[Zr<|by lia,Zr<|by lia]
 rw[Zr D]at b;cases n:UA e with
 |false=>rw[Zy n]at b;exact absurd b (by decide +kernel)
 |true =>
  rw[Zr (by rw[n];decide)]at b;obtain⟨z,rfl⟩:∃z,e=.str z:=by cases e<;>first|exact⟨_,rfl⟩|cases n
  obtain⟨l,C⟩:=X7<|show UC z=true from n;rw[show U1 (.str z)=z from rfl]at b ⊢;have y:=l.2.1
  by_cases s:i=2
  ·rw[Zy s]at b ⊢
   by_cases c:(!uE g||!(qQ fs z).isEmpty)=true
   ·rw[Zy c]at b;exact absurd b (by decide +kernel)
   ·rw[Ve,Uh,Yj,Yj,Bool.not_eq_false,Bool.not_eq_false]at c
    rcases A.ln with⟨ls,rfl,hl⟩|⟨_,q,_⟩
    ·have fr:=c.2;rw[C]at fr;have fr:=R.free.mpr<|(GH A.gf l).mp fr;obtain⟨p,E,T,o,_⟩:=Rx (gs:=(zu 5 S r).filter (fun f=>decide (f.1≠Us z))++[(Us z,ls)]) A.ok R.tree j l.1 y l.2.2 hl fr R.len (by lia) (fun f=>by simp[JM]);rw[show TQ (AnJ.yh ls)=ls from uD ls];exact⟨p.ok,by lia,T,o⟩
    ·rw[c.1]at q;cases q
  ·rw[Zr s]at b ⊢
   by_cases x:i=3
   ·rw[Zr<|by lia]at b;rw[Zy x]
    by_cases c:Us z∈fs.map (·.1)
    ·obtain⟨f,G,B⟩:=Zd.mp<|R.in.mpr c;obtain⟨p,E,T,o,_⟩:=Sf (gs:=(zu 5 S r).filter<|fun f=>decide (f.1≠Us z)) (ls:=Us z) (lines:=f.2) A.ok R.tree j l.1 y (by rwa[←B]) R.len (by lia) (fun f=>by simp[JM]);exact⟨p.ok,by lia,T,o⟩
    ·rw[Zr c]at b;exact absurd b (by decide +kernel)
   ·rwa[Zr x]
def Ts (aN b1 b2 b3:Ei):Prop:=UP aN b1 b2 aN="name"/\UP aN b1 b2 b1="path"/\UP aN b1 b2 b2="files"/\UP aN b1 b2 b3="fit"
theorem wd4 {b:Dd}(d:([aN,b1,b2,b3]++b).Nodup):Ts aN b1 b2 b3:=by
 simp only[Z5,VD,Zm,Uh]at d;obtain⟨⟨e,f,g,_⟩,⟨i,j,_⟩,⟨l,_⟩,_⟩:=d;unfold Ts UP;exact⟨Zy rfl,by rw[Zr<|Ey e,Zy rfl],by rw[Zr<|Ey f,Zr<|Ey i,Zy rfl],by rw[Zr<|Ey g,Zr<|Ey j,Zr<|Ey l]⟩
theorem ask (A:jq P w K aC H a fp S r fs d e g v u t)(W:Ts aN b1 b2 b3){y:Bool}(hb:y=true↔d=.str r){i:Int}(L:i=0\/i=1\/i=2\/i=3){Q:VK}{E:XK}
  (k:UH i y e g fs=""->∀H',Off fp H H'->yq P w K aC H' a fp (Cy i S r e g)->Q .non H')
  (s:∀c H',c∈[aN,b1,b2,b3]->UP aN b1 b2 c=UH i y e g fs->zy H H'->E (.ref c) none H'):uf P w K aC aN b1 b2 b3 [.int i,.ref a,v,u,t] H Q E:=by
 have M:zy H H:=zy.refl _
 rcases A.rt with⟨hd,R⟩|⟨nd,o⟩
 rotate_left
 ·have I:y=false:=Z0.mpr fun z=>nd<|hb.mp z;have n:UH i y e g fs="name":=by unfold UH;rw[Zy I]
  have F:E (.ref aN) none H:=s aN H (by simp) (W.1.trans n.symm) M;refine⟨i,a,v,u,t,rfl,fun _=>?_,fun _=>?_,fun _=>?_,fun _=>?_,fun T U X Y=>absurd L<|by lia⟩
  ·exact⟨a,fp,S,d,v,rfl,A.sh,A.ok,A.dv,.inr ⟨o,F⟩⟩
  ·exact⟨a,fp,S,d,e,v,u,rfl,A.sh,A.ok,A.dv,A.eu,A.se,.inr<|.inl ⟨o,F⟩⟩
  ·exact⟨a,v,u,t,rfl,.inr ⟨fp,S,d,e,g,A.sh,A.ok,A.dv,A.eu,A.se,A.gt,A.ln.small,.inl ⟨o,F⟩⟩⟩
  ·exact⟨a,v,u,rfl,.inr ⟨fp,S,d,e,A.sh,A.ok,A.dv,A.eu,A.se,.inl ⟨o,F⟩⟩⟩
 have I:y=true:=hb.mpr hd;subst I hd;have dv:v=.str r:=A.dv;subst dv;obtain⟨C,l⟩:=R.node;have o:Uy S (.str r) "tree"=true:=WH l;have len:=A.len;refine⟨i,a,.str r,u,t,rfl,fun z=>?_,fun z=>?_,fun z=>?_,fun z=>?_,fun T U X Y=>absurd L<|by lia⟩
 ·subst z;refine⟨a,fp,S,.str r,.str r,rfl,A.sh,A.ok,rfl,.inl ⟨r,C,rfl,rfl,l,R.tree,by have:=R.len;lia,fun f N=>(A.gf.wN f<|(R.rd f).mp N).2.2.2,fun e' Z H' j _ _ _=>k ?_ H' (Off.of j)<|A.sh.same j⟩⟩;unfold UH;rw[Zr<|by decide,Zy rfl]
 ·subst z;cases b:UA e with
  |false=>exact⟨a,fp,S,.str r,e,_,u,rfl,A.sh,A.ok,rfl,A.eu,A.se,.inr<|.inr ⟨o,b,fun H' j=>s b1 H' (by simp) (W.2.1.trans (by unfold UH;rw[Zr<|by decide,Zr<|by decide,Zy b])) j⟩⟩
  |true =>
   obtain⟨z,rfl⟩:∃z,e=.str z:=by cases e<;>first|exact⟨_,rfl⟩|cases b
   have eu:u=.str z:=A.eu;subst eu;exact⟨a,fp,S,.str r,.str z,_,_,rfl,A.sh,A.ok,rfl,rfl,A.se,.inl ⟨r,z,5,C,rfl,rfl,rfl,rfl,b,l,R.tree,fun H' j=>k (by unfold UH;rw[Zr<|by decide,Zr<|by decide,Zr (by rw[b];decide),Zr<|by decide,Zy rfl]) H' (Off.of j) (A.sh.same j)⟩⟩
 ·subst z;cases b:UA e with
  |false=>exact⟨a,_,u,t,rfl,.inr ⟨fp,S,.str r,e,g,A.sh,A.ok,rfl,A.eu,A.se,A.gt,A.ln.small,.inr<|.inl ⟨o,b,fun H' j=>s b1 H' (by simp) (W.2.1.trans (by unfold UH;rw[Zr<|by decide,Zr<|by decide,Zy b])) j⟩⟩⟩
  |true =>
   have n:UH 2 true e g fs=(if(!uE g||!(qQ fs<|U1 e).isEmpty)=true then("files":Str) else""):=by unfold UH;rw[Zr<|by decide,Zr<|by decide,Zr (by rw[b];decide),Zy rfl]
   cases B:xP g with
   |false=>exact⟨a,_,u,t,rfl,.inr ⟨fp,S,.str r,e,g,A.sh,A.ok,rfl,A.eu,A.se,A.gt,A.ln.small,.inr<|.inr ⟨o,b,B,fun H' j=>s b2 H' (by simp) (W.2.2.1.trans (by rw[n,A.ln.eq,B];rfl)) j⟩⟩⟩
   |true =>
    obtain⟨z,rfl⟩:∃z,e=.str z:=by cases e<;>first|exact⟨_,rfl⟩|cases b
    have eu:u=.str z:=A.eu;subst eu;obtain⟨p,D⟩:=X7<|show UC z=true from b
    rcases A.ln with⟨ls,rfl,hl⟩|⟨q,_⟩
    rotate_left
    ·rw[q]at B;cases B
    rw[A.ln.eq,B,show U1 (.str z)=z from rfl]at n;have n:UH 2 true (.str z) (AnJ.yh ls) fs=if(!(qQ fs z).isEmpty)=true then("files":Str) else"":=n;have G:=GH A.gf p;rw[←D]at G;refine⟨a,_,_,t,rfl,.inl ⟨fp,S,r,Us z,ls,C,rfl,congrArg V.str D,A.sh,A.ok,R.tree,l,p.1,p.2.1,p.2.2,Dw.dt _ _ (BF ls) A.gt,hl,R.len,len,fun fr H' x J=>?_,fun O H' j=>?_⟩⟩
    ·refine k (by rw[n,G.mpr<|R.free.mp fr];rfl) H' x ?_;unfold Cy;rwa[Zy rfl,show TQ (AnJ.yh ls)=ls from uD ls]
    ·refine s b2 H' (by simp) (W.2.2.1.trans ?_) j;rw[n,Z0.mpr<|fun q=>O<|R.free.mpr<|G.mp q];rfl
 ·subst z;cases b:UA e with
  |false=>exact⟨a,_,u,rfl,.inr ⟨fp,S,.str r,e,A.sh,A.ok,rfl,A.eu,A.se,.inr ⟨o,b,fun H' j=>s b1 H' (by simp) (W.2.1.trans (by unfold UH;rw[Zr<|by decide,Zr<|by decide,Zy b])) j⟩⟩⟩
  |true =>
   obtain⟨z,rfl⟩:∃z,e=.str z:=by cases e<;>first|exact⟨_,rfl⟩|cases b
   have eu:u=.str z:=A.eu;subst eu;obtain⟨p,D⟩:=X7<|show UC z=true from b;have n:UH 3 true (.str z) g fs=if Us z∈fs.map (·.1) then("":Str) else"fit":=by unfold UH;rw[Zr<|by decide,Zr<|by decide,Zr (by rw[b];decide),Zr<|by decide,Zr<|by decide];rfl
   refine⟨a,_,_,rfl,.inl ⟨fp,S,r,Us z,C,rfl,congrArg V.str D,A.sh,A.ok,R.tree,l,p.1,p.2.1,p.2.2,R.len,len,fun m H' x J=>?_,fun nm H' j=>?_⟩⟩
   ·refine k (by rw[n,Zy<|R.in.mp m]) H' x ?_;unfold Cy;rwa[Zr<|by decide,Zy rfl]
   ·exact s b3 H' (by simp) (W.2.2.2.trans<|by rw[n,Zr fun q=>nm<|R.in.mpr q]) j
theorem ba (W:Ts aN b1 b2 b3){i:Int}(b:i=4){x:V}{Q:VK}{E:XK}(h:Tm K H x<|E (.ref b2) none):uf P w K aC aN b1 b2 b3 [.int i,.ref a,v,u,x] H Q E :=
 ⟨i,a,v,u,x,rfl,fun z=>absurd z<|by lia,fun z=>absurd z<|by lia,fun z=>absurd z<|by lia,fun z=>absurd z<|by lia,fun _ _ _ _=>⟨a,x,rfl,.inr h⟩⟩
end
structure W2 (P:Ej)(w:Ep)(K:Cc)(C:Ei)(H0 H:Hp)(a:Ei)(fp:Dd)(b:Ei)(fq:Dd)(S S2:Di):Prop where
 same:zy H0 H
 sh:yq P w K C H a fp S
 tw:yq P w K C H b fq S2
 fr:∀c∈fp,H0 c=none
 gr:∀c∈fq,H0 c=none
 dj:∀c∈fp,c∉fq
section
variable {P:Ej}{w:Ep}{K:Cc}{C:Ei}{H0 H H':Hp}{a:Ei}{fp:Dd}{b:Ei}{fq:Dd}{S S2 S':Di}
theorem M0 (n:qy H fp):∀b∈fp,∀xs,¬Rd H b (.tup xs):=fun b hb xs=>by
 obtain⟨o,e,d,_,f⟩:=n b hb;exact GN e d f xs
theorem qR {fp:Dd}(s:zy H0 H)(fr:∀c∈fp,H0 c=none)(o:Off fp H H'):zy H0 H':=fun c x e=>o c x (fun z=>by rw[fr c z]at e;cases e)<|s c x e
theorem G8 {x b:Ei}{g i:HO}{fp:Dd}(nx:H x=none)(f:H b=none)(ne:b≠x)(d:∀c∈fp,c=x\/c=b\/(L2.upd (L2.upd H b g) x i) c=none)(o:Off [x] (L2.upd (L2.upd H b g) x i) H'):zy H H'/\∀c∈fp,H c=none:=by
 have j:zy H (L2.upd (L2.upd H b g) x i):=(zF f).trans (zF<|by rwa[zI<|Ey ne]);refine⟨fun c u e=>o c u (fun z=>?_)<|j c u e,fun c l=>?_⟩
 ·rw[Zb.mp z,nx]at e;cases e
 ·rcases d c l with z|z|z
  ·rwa[z]
  ·rwa[z]
  ·exact j.free z
theorem W2.ins (W:W2 P w K C H0 H a fp b fq S S2)(s:zy H H'):W2 P w K C H0 H' a fp b fq S S2:=⟨W.same.trans s,W.sh.same s,W.tw.same s,W.fr,W.gr,W.dj⟩
theorem W2.put (W:W2 P w K C H0 H a fp b fq S S2)(o:Off fp H H')(u:yq P w K C H' a fp S'):W2 P w K C H0 H' a fp b fq S' S2 :=
 ⟨qR W.same W.fr o,u,W.tw.off (M0 W.sh.wB) o<|fun c d z=>W.dj c z d,W.fr,W.gr,W.dj⟩
theorem W2.mF (W:W2 P w K C H0 H a fp b fq S S2)(o:Off fq H H')(u:yq P w K C H' b fq S'):W2 P w K C H0 H' a fp b fq S S' :=
 ⟨qR W.same W.gr o,W.sh.off (M0 W.tw.wB) o<|fun c d=>W.dj c d,u,W.fr,W.gr,W.dj⟩
end
theorem bb (ns:List Int)(a b:Nat):∃ms:List Int,UQ (ns.map V.int) (some (a:Int)) (some (b:Int))=ms.map V.int/\ms.length<=b-a:=by
 have e:UQ (ns.map V.int) (some (a:Int)) (some (b:Int))=((ns.map V.int).drop<|min a (ns.map V.int).length).take (min b (ns.map V.int).length-min a (ns.map V.int).length):=by
  unfold UQ;rw[HT.rJ,HT.rJ]
 refine⟨(ns.drop<|min a (ns.map V.int).length).take<|min b (ns.map V.int).length-min a (ns.map V.int).length,?_,?_⟩
 ·rw[e,JS,List.map_drop]
 ·rw[ZG];lia
theorem M3 (n:qy H fp){c:Ei}{xs:Dj}(h:H c=some (.lst xs)):c∉fp:=fun z=>by
 obtain⟨o,e,_,b,_⟩:=n c z;rw[h]at e;exact b xs (Option.some.inj e).symm
theorem Nz {c:Ei}(W:Ts aN b1 b2 b3)(h:c∈[aN,b1,b2,b3]):UP aN b1 b2 c≠"":=by
 rcases(by simpa using h:c=aN\/c=b1\/c=b2\/c=b3) with rfl|rfl|rfl|rfl
 ·rw[W.1];decide +kernel
 ·rw[W.2.1];decide +kernel
 ·rw[W.2.2.1];decide +kernel
 ·rw[W.2.2.2];decide +kernel
def U8 (H:Hp)(X:Dd):Hp:=fun b=>if b∈X then none else H b
theorem BD:zy (U8 H X) H:=fun b o e=>by
 unfold U8 at e
 split at e
 ·cases e
 ·exact e
theorem uF:Off X H (U8 H X):=fun b o n e=>by
 unfold U8;rwa[Zr n]
theorem CJ {X:Dd}{b:Ei}(h:b∈X):U8 H X b=none:=Zy h
mutual
theorem Dw.oK {K:Cc}(n:qy H X)(o:Off X H H'):∀(d:Ek) (v:V),zY d=true->Dw K H d v->Dw K H' d v
 | .none,_,_,h=>h
 | .bool _,_,_,h=>h
 | .int _,_,_,h=>h
 | .str _,_,_,h=>h
 | .list ds,_,t,⟨a,xs,h1,h2,h3⟩=>⟨a,xs,h1,by
   rcases h2 with(z|⟨ob,z⟩)|z
   ·exact .inl (.inl<|o _ _ (fun q=>by obtain⟨b,e,_,k,_⟩:=n _ q;rw[z]at e;exact k _ (Option.some.inj e).symm) z)
   ·exact .inl (.inr ⟨ob,o _ _ (fun q=>by obtain⟨b,e,_,_,k⟩:=n _ q;rw[z]at e;exact k _ _ (Option.some.inj e).symm) z⟩)
   ·exact .inr z,yo.oK n o ds xs t h3⟩
 | .tuple ds,_,t,⟨a,xs,h1,h2,h3⟩=>⟨a,xs,h1,by
   rcases h2 with(z|⟨ob,z⟩)|z
   ·exact .inl (.inl<|o _ _ (fun q=>by obtain⟨b,e,k,_,_⟩:=n _ q;rw[z]at e;exact k _ (Option.some.inj e).symm) z)
   ·exact .inl (.inr ⟨ob,o _ _ (fun q=>by obtain⟨b,e,_,_,k⟩:=n _ q;rw[z]at e;exact k _ _ (Option.some.inj e).symm) z⟩)
   ·exact .inr z,yo.oK n o ds xs t h3⟩
 | .dict _,_,t,_=>by cases t
theorem yo.oK {K:Cc}(n:qy H X)(o:Off X H H'):∀(ds:Df) (xs:Dj),yF ds=true->yo K H ds xs->yo K H' ds xs
 |[],_,_,h=>h
 |d::ds,_,t,⟨x,r,h1,h2,h3⟩=>by
  have t:(zY d&&yF ds)=true:=t;rw[Zk]at t;exact⟨x,r,h1,Dw.oK n o d x t.1 h2,yo.oK n o ds r t.2 h3⟩
end
inductive oZ (K:Cc)(vs:Dj)(H:Hp)(Q:VK)(e3:XK):Prop
 |mk (a:Ei) (ns:List Int) (h0:vs=[.ref a]) (h1:xx K H a<|ns.map V.int) (h2:ns.length<=63) (h3:∀H',Q (.bl true) H'):oZ K vs H Q e3
theorem m6:UN [("a":Str)]:=⟨by decide,fun l hl=>by rw[Zb.mp hl];decide +kernel⟩
section
variable {P:Ej}{w:Ep}{K:Cc}{mg:Str->Dc}{base:EB}{t1 t2 t3 t4 t5 t6 t7:Tok}{aL aC aN aT aA b1 b2 b3 b4 b5 b6:Ei}(T:Txt P w K mg t1 t2 t3 t4 t5 t6 t7 aL aC aN aT aA b1 b2 b3 b4 b5 b6)
theorem Rn {d:TE}{i:Nat}{u:TS}{D:Ends}{b:St}{H:Hp}(h:d b H fun v H1=>u D (b.set i (some v)) H1):Hz (Rq d<|UT i) u D b H:=h
theorem Np {d:TE}{u:TS}{D:Ends}{b:St}{H:Hp}(h:d b H fun _ H1=>u D b H1):Hz (Tc d) u D b H:=h
theorem ai {x:Ei}{i:Nat}{t:St}{Q:VK}{E:St->Hp->Eh->Prop}(e:t[i]?=some (some<|.ref x))(sh:yq P w K aC H x fp S)(ok:yd S)(l:S.length<1900)(k:∀H',Off fp H H'->yq P w K aC H' x fp (Cf S<|.leaf ["a"]).1->Q (.str (Cf S<|.leaf ["a"]).2) H') :
  KP aC "put" (vm P w K aC aN aT) E (X1 i) (UZ (Oj<|UZ (tC<|V.str "leaf")<|UZ (Oj<|UZ (tC<|V.str "a") U2) U2) U2) t H Q:=by
 obtain⟨y,z,A,B,g⟩:=jT sh;refine⟨_,e,x,y,_,rfl,g,rfl,Uw 1,fun d n1=>⟨Uw 2,fun f n2=>?_⟩⟩;have s:=zF (o:=.tup [V.str "a"]) n1;have r:=zF (o:=.tup [V.str "leaf",V.ref d]) n2;have v:Dt K (upd (upd H d<|.tup [V.str "a"]) f<|.tup [V.str "leaf",V.ref d]) (Th.leaf ["a"]).dat (.ref f):=⟨f,_,rfl,xg.of zB,_,_,rfl,rfl,_,_,rfl,⟨d,_,rfl,xg.of<|r _ _ zB,za.strs ["a"]⟩,rfl⟩;delta U2;dsimp only;show vm P w K aC aN aT [V.ref x,V.ref f] (upd (upd H d<|.tup [V.str "a"]) f<|.tup [V.str "leaf",V.ref d]) _ _;exact He (sh.same<|s.trans r) ok (Xt m6.2 m6.1) rfl (by lia) v fun u j p=>k u (fun b o n q=>j b o n<|(s.trans r) b o q) p
theorem putN {x:Ei}{r:Str}{Do:Dg}{i j:Nat}{y:St}{Q:VK}{E:St->Hp->Eh->Prop}(e:y[i]?=some (some<|.ref x))(C:y[j]?=some (some<|.str r))(sh:yq P w K aC H x fp S)(ok:yd S)(at_:At S r<|.tree Do)(l:S.length<1900)(k:∀H',Off fp H H'->yq P w K aC H' x fp (Cf S<|.note r [] "").1->Q (.str (Cf S<|.note r [] "").2) H') :
  KP aC "put" (vm P w K aC aN aT) E (X1 i) (UZ (Oj<|UZ (tC<|V.str "note")<|UZ (X1 j)<|UZ (Oj U2)<|UZ (tC<|V.str "") U2) U2) y H Q:=by
 obtain⟨G,J,L,M,s⟩:=jT sh;refine⟨_,e,x,G,_,rfl,s,rfl,_,C,Uw 0,fun d n1=>⟨Uw 4,fun f n2=>?_⟩⟩;have z:=zF (o:=.tup []) n1;have v:=zF (o:=.tup [V.str "note",V.str r,V.ref d,V.str ""]) n2;have B:Dt K (upd (upd H d<|.tup []) f<|.tup [V.str "note",V.str r,V.ref d,V.str ""]) (Th.note r [] "").dat (.ref f):=⟨f,_,rfl,xg.of zB,_,_,rfl,rfl,_,_,rfl,rfl,_,_,rfl,⟨d,[],rfl,xg.of<|v _ _ zB,rfl⟩,_,_,rfl,rfl,rfl⟩;delta U2;dsimp only;show vm P w K aC aN aT [V.ref x,V.ref f] (upd (upd H d<|.tup []) f<|.tup [V.str "note",V.str r,V.ref d,V.str ""]) _ _;obtain⟨I,D,g,_⟩:=id at_;refine He (sh.same<|z.trans v) ok (Bh (ps:=[]) (by rw[←g];exact ok.nm D) (by decide +kernel) (fun p F=>(nomatch F)) Yn (ZN _)) (by show(Uy S (.str r) "tree"&&true)=true;rw[WH at_];rfl) (by lia) B fun A t u=>k A (fun b o n q=>t b o n<|(z.trans v) b o q) u
theorem Px {S T:Di}{x:Str}(g:yd S')(e:S'=S++T)(h:∀e∈T,e.nm=x)(a:At S' x t):∀e∈T,e.d=t.dat:=fun n hn=>by
 obtain⟨m,hm,f,b⟩:=a;rw[←b,CP g.good.nn (by rw[e];exact ZL _ hn) hm<|(h n hn).trans f.symm]
theorem uY (g:yd S){x:Str}{t:Th}(a:At S x t)(h:∀Do,t≠.tree Do):Uy S (.str x) "tree"=false:=by
 rcases IW g x with⟨_,Do,b⟩|⟨e,_⟩
 ·exact absurd (At.thing g a b) (h Do)
 ·exact e
def Ov (S:Di)(r:Str)(d:Ek):Prop:=zY d=true/\Lm d=true/\(d=.str r\/(d≠.str r/\Uy S d "tree"=false))
theorem roots {K:Cc}{r f i:Str}(g:yd S)(e:Er r=true/\Er f=true/\Er i=true/\Er (r++"0")=true){Do:Dg}(s:At S r<|.tree Do){ls:Da}(n:At S f<|.leaf ls){u:Str}{ps:Da}{y:Str}(q:At S i<|.note u ps y)(l:S.length<=90)(B:r++"0"∉S.map En.nm)(t:xg K H pt [.str r])(hl:xx K H pl [.str r]){m:Int}(w:0<=m)(A:m<12) :
  ∃v d,Fa [V.str r,.str r,.str r,.str f,.str i,.str "T1.99",.str "",.non,.str<|r++"0",.int 5,.ref pt,.ref pl] m=some v/\Dw K H d v/\Ov S r d:=by
 have b:∀{x:Str},Er x=true->Uy S (.str x) "tree"=false->Ov S r (.str x):=fun{x} o h=>⟨rfl,uJ o<|ZN _,.inr ⟨fun z=>(by cases z;rw[WH s]at h;cases h),h⟩⟩;have good:Ov S r (.str r):=⟨rfl,uJ e.1<|ZN _,.inl rfl⟩
 match m,w,A with
 | 0,_,_=>exact⟨_,.str r,rfl,rfl,good⟩
 | 1,_,_=>exact⟨_,.str r,rfl,rfl,good⟩
 | 2,_,_=>exact⟨_,.str r,rfl,rfl,good⟩
 | 3,_,_=>exact⟨_,.str f,rfl,rfl,b e.2.1<|uY g n fun _ z=>nomatch z⟩
 | 4,_,_=>exact⟨_,.str i,rfl,rfl,b e.2.2.1<|uY g q fun _ z=>nomatch z⟩
 | 5,_,_=>exact⟨_,.str "T1.99",rfl,rfl,b (by decide +kernel)<|kY (TV g l) _⟩
 | 6,_,_=>exact⟨_,.str "",rfl,rfl,b (by decide +kernel)<|kY Pz _⟩
 | 7,_,_=>exact⟨_,.none,rfl,rfl,rfl,by decide,.inr ⟨(nomatch ·),rfl⟩⟩
 | 8,_,_=>exact⟨_,.str<|r++"0",rfl,rfl,b e.2.2.2<|kY B _⟩
 | 9,_,_=>exact⟨_,.int 5,rfl,rfl,rfl,by decide,.inr ⟨(nomatch ·),rfl⟩⟩
 | 10,_,_=>exact⟨_,.tuple [.str r],rfl,⟨pt,_,rfl,t,_,_,rfl,rfl,rfl⟩,rfl,(xT (ls:=[r]) fun p j=>by rw[Zb.mp j];exact e.1).2,.inr ⟨(nomatch ·),rfl⟩⟩
 | 11,_,_=>exact⟨_,.list [.str r],rfl,⟨pl,_,rfl,hl,_,_,rfl,rfl,rfl⟩,rfl,(xT (ls:=[r]) fun p j=>by rw[Zb.mp j];exact e.1).1,.inr ⟨(nomatch ·),rfl⟩⟩
theorem Oz {A B:Bool}{X:Prop}(h:UT i (.bl B) σ H k->X)(q:UT i (.bl<|A&&B) σ H k):if A=true then X else UT i (.bl false) σ H k:=by
 cases A
 ·exact Ut (A:=X) q
 ·exact Ur (B:=UT i (.bl false) σ H k) (h q)
theorem MI {K:Cc}:∀ls:Da,yo K H (ls.map .str) (ls.map V.str)
 |[]=>rfl
 |l::ls=>⟨_,_,rfl,rfl,MI ls⟩
theorem PH {K:Cc}{ds:Df}(h:uy K H0 H (ds.map fun d=>(none,d)) xs){m:Nat}{v:V}(e:xs[m]?=some v):∃d∈ds,Dw K H d v:=by
 have b:=(Zv.mp e).1;rw[h.1,Za]at b;have hd:=Zl b;exact⟨ds[m],Yt b,h.2 m (none,ds[m]) v (by rw[Zs,hd];rfl) e⟩
theorem S3 (ok:yd S):Lm (.list<|(S.map En.nm).map .str)=true/\EJ (.list<|(S.map En.nm).map .str) (.list<|(S.map En.nm).map .str)=true:=by
 refine⟨(xT fun p d=>?_).1,?_⟩
 ·obtain⟨e,b,rfl⟩:=Zd.mp d;exact(ok.nm b).ok
 ·show E1 _ _=true;rw[j5];exact Ze rfl
def mj:Df:=[.list [.str "a"],.tuple [.str "a",.int 5],.str "a",.none,.tuple [.str "a",.str<|Txt.mul "x" 21],.tuple [.str "a\n"],.tuple [.str "b",.str "\t"]]
theorem PF:(mj.all fun g=>!xP g&&!uE g&&small g&&zY g)=true:=by decide +kernel
theorem M7 {g:Ek}(h:g∈mj):lJ g/\zY g=true:=by
 have:=ZA.mp PF g h;simp only[Zk,Yj]at this;exact⟨.inr ⟨this.1.1.1,this.1.1.2,this.1.2⟩,this.2⟩
theorem x21:MulOk "x" 21:=⟨by decide,fun _ _=>by decide +kernel,fun _ _=>by decide +kernel⟩
theorem sZ.x21 {K:Cc}:sZ K (WL S5 (tC<|.str "x")<|tC<|.int 21) (none,.str<|Txt.mul "x" 21):=fun b H Q q=>⟨_,_,rfl,rfl,An08.x21,q _ H (zy.refl _) rfl⟩
theorem RW (e:xr K H fs Dm)(gf:yg 4 fs){z:Str}(h:UC z=true):(Uu Dm<|.inr z).isSome=decide (Us z∈fs.map (·.1)):=by
 obtain⟨b,d⟩:=X7 h;have:=TF e gf b.1 b.2.2;rw[←d]at this;rw[Z4,this,ZC]
theorem WV {H:Hp}{c:Ei}{Dm:Dl}{o:Bool}{i:Int}{Q:VK}{E:XK}(A:H c=some (.dK Dm))(s:xr K H fs Dm)(gf:yg 4 fs)(y:List.length fs<=63)(eu:Dw K H e u)(se:small e=true)(B:i=4\/(Dw K H g t/\lJ g/\(i=0\/i=1\/i=2\/i=3)))
  (k:∀H',zy H H'->Q (.str<|if i=4 then"files" else UH i o e g fs) H'):nU K [.int i,.ref c,.bl o,u,t,.bl<|UA e] H Q E:=by
 have b:=k H<|zy.refl _;have v:UA e=true->∃z,e=.str z/\u=.str z/\UC z=true/\z.length<=1000:=fun j=>by
  obtain⟨z,rfl⟩:∃z,e=.str z:=by cases e<;>first|exact⟨_,rfl⟩|cases j
  exact⟨z,rfl,eu,j,Zx se⟩
 refine⟨i,c,o,UA e,u,t,Dm,fs,rfl,A,s,gf,y,fun z=>?_,fun n d=>?_,fun l d=>?_,fun n l d f=>?_,fun p d f=>?_,fun r d f=>?_,fun n l r p d f=>?_⟩
 ·rw[Zy z]at b;exact b
 ·rw[Zr n]at b;unfold UH at b;rw[Zy d]at b;exact b
 ·rw[Zr<|by lia]at b;unfold UH at b;rw[Zr (by rw[d];decide),Zy l]at b;exact b
 ·rw[Zr n]at b;unfold UH at b;rw[Zr (by rw[d];decide),Zr l,Zy f]at b;exact b
 ·rw[Zr<|by lia]at b;unfold UH at b;rw[Zr (by rw[d];decide),Zr<|by lia,Zr (by rw[f];decide),Zr<|by lia,Zy p]at b;exact b
 ·obtain⟨z,rfl,rfl,j,x⟩:=v f
  rcases B with D|⟨gt,ln,_⟩
  ·lia
  ·refine⟨z,g,rfl,x,gt,ln.small,fun H' C=>?_⟩;have k:=k H' C;rw[Zr<|by lia]at k;unfold UH at k;rw[Zr (by rw[d];decide),Zr<|by lia,Zr (by rw[f];decide),Zy r]at k;exact k
 ·obtain⟨z,rfl,rfl,j,x⟩:=v f;refine⟨z,rfl,?_⟩;rw[Zr n]at b;unfold UH at b;rw[Zr (by rw[d];decide),Zr l,Zr (by rw[f];decide),Zr r,Zr p]at b;rw[RW s gf j]
  by_cases q:Us z∈fs.map (·.1)
  ·rw[Zy<|show Us (U1<|.str z)∈_ from q]at b;rwa[Zy<|Ze q]
  ·rw[Zr<|show¬Us (U1<|.str z)∈_ from q]at b;rwa[Zr<|fun w=>q<|Zx w]
theorem Wv {Q:VK}{E:XK}(A:jq P w K aC H a fp S r fs d e g v u t)(W:Ts aN b1 b2 b3){b:Bool}(hb:b=true↔d=.str r){i:Int}(q:i=0\/i=1\/i=2\/i=3)
  (k1:UH i b e g fs=""->∀H',Off fp H H'->yq P w K aC H' a fp (Cy i S r e g)->Q (.str "") H') (k2:UH i b e g fs≠""->∀H',zy H H'->Q (.str<|UH i b e g fs) H'):sy P w K aC aN b1 b2 b3 [.int i,.ref a,v,u,t] H Q E :=
 ⟨i,a,v,u,t,rfl,fun z y o p=>ask A W hb q (fun n H' of sh=>o H'<|k1 n H' of sh) fun c H' f j s=>p c H' f fun l x=>by
  rw[j];exact k2 (by rw[←j];exact Nz W f) l<|s.trans x⟩
theorem SM {a:Ei}{v u:V}{Q:VK}(W:Ts aN b1 b2 b3)(h:∀(k:Hp->Prop),(∀H',(∀H2,zy H' H2->Q (.str "files") H2)->k H')->Tm K H t k):sy P w K aC aN b1 b2 b3 [.int 4,.ref a,v,u,t] H Q E :=
 ⟨4,a,v,u,t,rfl,fun f e g b=>ba W rfl (h _ fun H' q=>b b2 H' (by simp) fun H2 d=>by rw[W.2.2.1];exact q H2 d)⟩
theorem W2.tu (W:W2 P w K aC H0 H a fp b fq S S2){c:Ei}{Dm:Dl}(e:H c=some (.dK Dm))(o:Off [c] H H')(n:H0 c=none)(n1:c∉fp)(n2:c∉fq):W2 P w K aC H0 H' a fp b fq S S2 :=
 ⟨qR W.same (fun d hd=>by rwa[Zb.mp hd]) o,W.sh.off (zW e) o<|fun d hd z=>n1<|Zb.mp z▸hd,W.tw.off (zW e) o<|fun d hd z=>n2<|Zb.mp z▸hd,W.fr,W.gr,W.dj⟩
namespace Cb
abbrev st:Stmt:=top 77
theorem sc:zx ["_law_script","_law_files","_law_shelf","_law_tree","_law_leaf","_law_note","_law_roots","_law_root","_law_path","_law_good","_law_cell","_law_some","_law_lines","_law_twin","_law_turn","_law_which","_law_handed","_law_due_here"] ["_law_script"] (zG st):=Co
include T in
theorem ok (F:xf0 K "law" st f fd)(Q5:xj P w K mg base 3 "_law_files_by" ["_law_cells"]<|su K)(Qe:xj P w K mg base 1 "_law_cell_at" ["_law_script","_law_k"]<|pX K)(Qz:xj P w K mg base 1 "_law_path_by" ["_law_cell"] GM)(QA:xj P w K mg base 2 "_law_lines_by" ["_law_cell"]<|Xm K)(QC:iT P w K mg base aC 5 "Shelf" ["self","base"]<|oX P w K aC)
  (Qd:sU P w K mg base aC 7 "put" ["self","thing"]<|vm P w K aC aN aT) (Qg:Met P w K mg base aC 1 "names" ["self"]<|rM P w K aC) (Qm:wk P w K mg base 13 "keep_files" ["shelf","files"]<|rD P w K aC b2) (Q6:xj P w K mg base 1 "_law_no_files" ["_law_cell"]<|rU K) (Q7:xj P w K mg base 2 "_law_due" ["_law_which","_law_files","_law_is_root","_law_path","_law_lines","_law_good"]<|nU K)
  (Q8:xj P w K mg base 16 "_law_told" ["_law_which","_law_shelf","_law_root","_law_path","_law_lines"]<|sy P w K aC aN b1 b2 b3) (QB:wk P w K mg base 15 "_law_asked" ["_law_which","_law_shelf","_law_root","_law_path","_law_lines"]<|uf P w K aC aN b1 b2 b3):yx P w K mg base Cn 17 f fd ["_law_script"] (oZ K):=by
 refine F.ok sc fun _ A _ _ H vs Q E D h=>?_;obtain⟨sa,b,rfl,s,Dq,kQ⟩:=h;refine⟨_,(zD (Ck (i:=1) sc.nd<|zJ Q5 D.m<|zA (j8 (rH:RF _<|P8 K) (pv 0) (kG zH)<|kG zH) zC)<|zD (Ck (i:=2) sc.nd<|Nb QC D.m<|zA k9 zC)<|zD (Ck (i:=3) sc.nd<|yE Qm D.m z9<|zA (pv 2)<|zA (pv 1) zC)<|zD (Ck (i:=4) sc.nd<|yZ (pv 2) T.cls Qd D.m z9<|zA (yJ<|zA zz<|zA (yJ<|zA zz zC) zC) zC)<|zD (Ck (i:=5) sc.nd<|yZ (pv 2) T.cls Qd D.m z9<|zA (yJ<|zA zz<|zA (pv 3)<|zA (yJ zC)<|zA zz zC) zC)<|zD (Ck (i:=6) sc.nd<|xA<|zA (pv 3)<|zA (pv 3)<|zA (pv 3)<|zA (pv 4)<|zA (pv 5)<|zA zz<|zA zz<|zA k9<|zA (zZ yC (pv 3) zz)<|zA zH<|zA (yJ<|zA (pv 3) zC)<|zA (xA<|zA (pv 3) zC) zC)<|zD (Ck (i:=7) sc.nd<|yM (wD:Cq _<|rW K) (pv 6)<|zZ y9 (zJ Qe D.m<|zA (pv 0)<|zA zH zC) zH)<|zD (Ck (i:=8) sc.nd<|zJ Qz D.m<|zA (zJ Qe D.m<|zA (pv 0)<|zA zH zC) zC)<|xN (yI (PW.pt<|KB (zU FY (zK XD (by rfl) T.len ZZ<|zA (pv 1) zC) zH<|zV _)<|CU<|zU FY (zZ y9 (zJ Qe D.m<|zA (pv 0)<|zA zH zC) zH) zH<|zV _) (zD (Ck (i:=8) sc.nd<|yM (wD:Cq _<|rW K) (zK (B6 rfl) (by rfl) T.sorted Va<|zA (pv 1) zC)<|zZ y9 (zJ Qe D.m<|zA (pv 0)<|zA zH zC)<|zK XD (by rfl) T.len ZZ<|zA (pv 1) zC)<|zE<|yI (zU xJ (zZ y9 (zJ Qe D.m<|zA (pv 0)<|zA zH zC) zH) zH<|zV _) (zE<|Ck (i:=8) sc.nd<|yM (wD:Cq _<|rW K) (xA<|zA (yM (yp:Cq _<|wQ K) (kX Yf PySem.F.slot_str_rpartition PySem.F.type_str_rpartition GP (pv 8)<|zA zz zC) zH)<|zA (zZ yC (pv 8) zz)<|zA (pv 8) zC)<|zZ y9 (zJ Qe D.m<|zA (pv 0)<|zA zH zC) zH) zQ) zQ)<|zD (Ck (i:=9) sc.nd<|y8 (yN (Kv D.units) (pv 8) zz<|zV _)<|x8<|yN PK (kX Yf PySem.F.slot_str_count PySem.F.type_str_count N6 (pv 8)<|zA zz zC) zH<|zV _)<|xN (yI (zU xJ (zZ y9 (zJ Qe D.m<|zA (pv 0)<|zA zH zC) zH) zH<|zV _) (zD (Ck (i:=8) sc.nd<|yM (wD:Cq _<|rW K) (xA<|zA zz<|zA zz<|zA zz<|zA zz<|zA zz<|zA k9<|zA zH<|zA zz zC)<|zZ y9 (zJ Qe D.m<|zA (pv 0)<|zA zH zC) zH)<|zE<|Ck (i:=9) sc.nd v9) zQ)<|zD (Ck (i:=10) sc.nd<|zJ Qe D.m<|zA (pv 0)<|zA zH zC)<|zD (Ck (i:=11) sc.nd<|xA<|zA (zJ QA D.m<|zA (zZ qB (pv 10) zH) zC)<|zA (xA<|zA zz zC)<|zA (yJ<|zA zz<|zA zH zC)<|zA zz<|zA k9<|zA (yJ<|zA zz<|zA (zZ Ik zz zH) zC)<|zA (yJ<|zA zz zC)<|zA (yJ<|zA zz<|zA zz zC) zC)<|zD (Ck (i:=12) sc.nd<|yM (wD:Cq _<|rW K) (pv 11)<|zZ y9 (pv 10) zH)<|zD (Ck (i:=13) sc.nd<|Nb QC D.m<|zA k9 zC)<|zD (yD<|yE Qm D.m z9<|zA (pv 13)<|zA (pv 1) zC)<|zD (yD<|yZ (pv 13) T.cls Qd D.m z9<|zA (yJ<|zA zz<|zA (yJ<|zA zz zC) zC) zC)<|zD (yD<|yZ (pv 13) T.cls Qd D.m z9<|zA (yJ<|zA zz<|zA (pv 3)<|zA (yJ zC)<|zA zz zC) zC)<|zD (xQ EO rfl (Sn rfl T.enumerate<|zA (xA<|zA zH<|zA zH<|zA zH<|zA zH<|zA zH<|zA zH<|zA zH<|zA zH<|zA zH zC) zC) (Xi rfl<|yQ (zR (i:=14) sc.nd rfl<|EL rfl)<|yQ (zR (i:=15) sc.nd rfl<|EL rfl) jP)<|zD (Ck (i:=16) sc.nd<|pv 12)<|xN (yI (zU xJ (pv 15) zH<|zV _) (zE<|Ck (i:=16) sc.nd<|zJ Q6 D.m<|zA (zJ Qe D.m<|zA (pv 0)<|zA zH zC) zC) zQ)<|zD (Ck (i:=17) sc.nd<|zJ Q7 D.m<|zA (pv 15)<|zA (pv 1)<|zA (yN (Ku D.units) (pv 7) (pv 3)<|zV _)<|zA (pv 8)<|zA (pv 16)<|zA (pv 9) zC)<|xN (yI (zU M9 (zJ Q8 D.m<|zA (pv 15)<|zA (pv 2)<|zA (pv 7)<|zA (pv 8)<|zA (pv 16) zC) (pv 17)<|zV _) (zE<|zM v9) zQ)<|xN (yI (zU xJ (pv 17) zz<|zV _) (zE<|yD<|yE QB D.m z9<|zA (pv 15)<|zA (pv 13)<|zA (pv 7)<|zA (pv 8)<|zA (pv 16) zC) zQ)<|zE<|yI (PW.pt<|KB (zU xJ (zZ y9 (zZ jM (zZ qB (zJ Qe D.m<|zA (pv 0)<|zA zH zC) zH)<|pv 14) zH) zH<|zV _)<|CU<|zU (Kv D.units) (kR (pv 2) T.cls Qg D.m) (kR (pv 13) T.cls Qg D.m)<|zV _) (zE<|zM v9) zQ)<|zE<|zM<|yN (Ku D.units) (kR (pv 2) T.cls Qg D.m) (kR (pv 13) T.cls Qg D.m)<|zV _),?_⟩
 obtain⟨m1,cg,fm⟩:=bb b 8 12;refine⟨_,rfl,8,rfl,12,rfl,sa,_,rfl,s,fun p1 es=>?_⟩;have u1:=zF (o:=.lst<|UQ (b.map V.int) (some (8:Int))<|some (12:Int)) es;have cg:UQ (b.map V.int) (some 8) (some 12)=m1.map V.int:=cg;rw[cg]at u1 ⊢;refine⟨p1,m1,rfl,xx.of zB,by lia,fun c1 N fs H2 s1 fo C ff gf fl=>?_⟩;have s:=(u1.trans s1).seq s;have f7:fs.length<=4:=by lia
 have w1:wt fs<=16:=by have:=gf.wt;lia
 clear s1 fo fl u1 es fm cg;have cp:=s;have d4:=C;have d1:=ff;refine fun x dx nx eh ne=>⟨x,dx,.non,[],rfl,zB,by rw[zI ne];exact zB,ne,.inl ⟨rfl,rfl⟩,fun I H3 d5 ah dp=>⟨rfl,?_⟩⟩;obtain⟨s3,a3⟩:=G8 nx eh ne d5 ah;have ok0:yd []:=⟨dp.good,fun e he=>(nomatch he),fun e he=>(nomatch he)⟩;clear ah d5 nx eh ne;have fn:c1∉I:=fun z=>by have:=a3 _ z;rw[C]at this;cases this
 obtain⟨O,ck⟩:=Ic 3 (S:=[]) (fs:=fs) ok0 gf (by lia) (by show 0+1+wt fs<=2000;lia);have cv:=Sw 3 (S:=[]) (fs:=fs) ok0 Cl.nil gf (by lia) (by show 0+1+wt fs<=2000;lia);have db:Num (Uz 4 [] fs).1:=F9 4 fun i j e f _ h=>(nomatch h);refine⟨_,rfl,_,rfl,x,_,rfl,.inl ⟨c1,I,[],fs,N,rfl,dp,ok0,s3 _ _ C,fn,ff.same s3,gf,by lia,by show 0+1+wt fs<=2000;lia,fun H4 ez dq=>?_⟩⟩;have s4:=qR s3 a3 ez;generalize fc:Uz 4 [] fs=q1 at O ck cv db dq ⊢;have O:ur 5 [] fs q1:=O;have ck:q1.1.length<=17:=by have:q1.1.length<=0+1+wt fs:=ck;lia
 have b8:=O.ok;clear ez s3 dp;obtain⟨Do,ce⟩:=O.node;obtain⟨ap,cf,l2,T2,an,cy⟩:=jE b8 (kF m6) (by lia);refine yA ?_;dsimp only;refine Rn ?_;refine ai rfl dq b8 (by lia) ?_;intro H5 e0 dr;have s5:=qR s4 a3 e0;clear s4 dq e0;have dc:=Px ap an cy cf;generalize fh:Cf q1.1 (.leaf ["a"])=q2 at ap cf l2 an cy dc dr ⊢;have a7:At q2.1 q1.2 (.tree Do):=by rw[an];exact ce.more
 have er:Th.Good (.note q1.2 [] ""):=by
  obtain⟨en,he,cw,_⟩:=id ce;exact(Bh (ps:=[]) (by rw[←cw];exact b8.nm he) (by decide +kernel) (fun p hp=>(nomatch hp)) Yn (ZN _)).1
 obtain⟨am,a2,l3,T3,Z,cz⟩:=jE ap er (by lia);refine Rn ?_;refine putN rfl rfl dr ap a7 (by lia) ?_;intro H6 e1 cm;have s6:=qR s5 a3 e1;clear s5 dr e1;have de:=Px am Z cz a2;generalize fi:Cf q2.1 (.note q1.2 [] "")=q3 at am a2 l3 Z cz de cm ⊢;have c9:∀{x:Str} {t:Th},At q3.1 x t->Ok 1000 x:=fun{x t} h=>by
  obtain⟨en,he,cw,_⟩:=h;rw[←cw];exact am.nm he
 have ar:At q3.1 q1.2 (.tree Do):=by rw[Z];exact a7.more
 have al:At q3.1 q2.2 (.leaf ["a"]):=by rw[Z];exact cf.more
 have o1:=c9 ar;have o2:=c9 al;have o3:=c9 a2;have n0:q1.2++"0"∉q3.1.map En.nm:=R8 am O cv db (by lia) fun e he=>by
  rw[Z]at he
  rcases ZB.mp he with z|z
  ·rw[an]at z
   rcases ZB.mp z with z|z
   ·exact .inl z
   ·exact .inr fun Do q=>by rw[dc e z]at q;exact nomatch uU q
  ·exact .inr fun Do q=>by rw[de e z]at q;exact nomatch uU q
 have R1:nG q1.1 q1.2 fs:=⟨O.tree,⟨Do,ce⟩,O.rd,by have:=(O.perm gf).length_eq;lia⟩;have R3:nG q3.1 q1.2 fs:=by
  rw[Z];refine nG.more (Z▸am) ap ?_;rw[an];exact R1.more (an▸ap) b8
 have eb:q3.1.length<=20:=by lia
 have f6:q2.1.length<=20:=by lia
 have f5:q1.1.length<=20:=by lia
 clear dc de cy cz an Z cv db O R1 ce cf er l2 l3 ck;generalize f3:q1.2=r at *;generalize f2:q2.2=lf at *;obtain⟨S,nt⟩:=q3;dsimp only at cm am a2 ar al o1 o2 o3 n0 R3 eb ⊢;have o0:=o1.append (show Ok 1 ("0":Str) from⟨by decide +kernel,by decide +kernel⟩);refine⟨_,rfl,_,rfl,_,rfl,_,rfl,_,rfl,_,rfl,_,_,rfl,rfl,by rw[←Mh];exact o0.line<|by decide,_,rfl,Uw 1,fun pt ey=>⟨_,rfl,Uw 1,fun pl et=>⟨Uw 12,fun lr ep=>?_⟩⟩⟩;have v1:=zF (o:=.tup [V.str r]) ey;have v2:=zF (o:=.lst [V.str r]) et;refine nw ep fun H7 u7 d7=>?_;have ea:=u7 _ _<|v2 _ _ zB;have d8:=u7 _ _<|zB (H:=upd H6 pt<|.tup [V.str r]) (a:=pl) (o:=.lst [V.str r]);have s7:=s6.trans<|v1.trans<|v2.trans u7;have J:=cm.same<|v1.trans<|v2.trans u7;clear v1 v2 ey et ep s6 cm u7;have s:=s7.seq s;have C:=s7 _ _ C;have ff:=ff.same s7;obtain⟨v,d,ix,dv,rd⟩:=roots (K:=K) (H:=H7) (pt:=pt) (pl:=pl) (m:=UG b 0 % 12) am ⟨o1.ok,o2.ok,o3.ok,o0.ok⟩ ar al a2 (by lia) n0 (xg.of ea) (xx.of d8) (Y8 _<|by decide) (YN _<|by decide);refine yA ⟨_,rfl,_,rfl,sa,b,0,rfl,s,by decide,_,_,rfl,rfl,by decide,lr,_,_,v,rfl,rfl,xx.of d7,ix,yA ?_⟩;clear ix d7 ea d8 o2 o3 o0 n0 al a2;refine⟨_,rfl,sa,b,1,rfl,s,by decide,UG b 1,rfl,fun f8 H8 ec s8=>yA ?_⟩;have s:=s8.seq s;have C:=s8 _ _ C;have ff:=ff.same s8;have J:=J.same s8;have dv:=Dw.same s8 _ _ dv;have d3:∀c∈I,H2 c=none:=a3;have s7:=s7.trans s8;clear s8 a3;refine⟨fun G L=>∃z,G=[some<|.ref sa,some<|.ref c1,some<|.ref x,some<|.str r,some<|.str lf,some<|.str nt,some<|.ref lr,some v,some<|.str z,none,none,none,none,none,none,none,none,none]/\zy H8 L/\To z,?_,?_⟩
 ·refine⟨_,rfl,c1,N,rfl,C,_,_,rfl,rfl,_,rfl,UB (fun d9=>?_)<|fun _=>Ut ⟨_,rfl,zy.refl _,F6 ec⟩⟩;refine⟨_,rfl,sa,b,2,rfl,s,by decide,_,_,rfl,rfl,by decide,_,_,rfl,rfl,_,rfl,UB (fun _=>?_)<|fun _=>⟨_,rfl,zy.refl _,F6 ec⟩⟩;obtain⟨as,ek⟩:=ff.jc;have kl:=ff.len;have f4:0<N.length:=by have:(0:Int)<(N.length:Int):=Zx d9;lia
  refine⟨_,rfl,c1,N,rfl,.inl C,as,by lia,fun l ss nl perm _=>?_⟩;have u9:=zF (o:=.lst<|ss.map V.str) nl;rw[ek]at perm;have sl:ss.length=N.length:=by rw[perm.length_eq,Za,kl]
  obtain⟨j,ej⟩:=YQ (Y8 (UG b 3)<|show(N.length:Int)≠0 by lia);have hj:j<ss.length:=by have:=YN (UG b 3) (show(0:Int)<N.length by lia);lia
  have hs:=Zl hj;obtain⟨g,hg,eg⟩:=Zd.mp<|perm.mem_iff.mp<|Yt hj;have b0:HJ g.1:=⟨(gf.wN g hg).1,(gf.wN g hg).2.1,(gf.wN g hg).2.2.1⟩;have eg:zc g.1=ss[j]:=eg;refine⟨_,rfl,sa,b,3,rfl,u9.seq s,by decide,_,rfl,c1,N,rfl,u9 _ _ C,_,_,rfl,rfl,(by lia),l,_,_,.str<|zc g.1,rfl,rfl,xx.of zB,(by rw[ej];exact y7 (by rw[Zs,hs,eg];rfl)),yA ?_⟩;have s:=u9.seq s;generalize upd H8 l (.lst<|ss.map V.str)=H9 at u9 s ⊢;refine⟨_,rfl,sa,b,2,rfl,s,by decide,_,_,rfl,rfl,by decide,rfl,_,rfl,UB (fun _=>?_)<|fun _=>⟨_,rfl,u9,F6 b0⟩⟩;have pg:=P3<|F6 b0;refine⟨_,rfl,rfl,_,_,rfl,rfl,by decide +kernel,zp<|ZR pg.1<|by decide,fun q nq=>?_⟩;have e4:=zF (o:=.tup [.str (E7 (zc g.1) "/").1,.str (E7 (zc g.1) "/").2.1,.str (E7 (zc g.1) "/").2.2]) nq;refine⟨q,_,0,_,rfl,rfl,xg.of zB,rfl,_,rfl,_,_,rfl,rfl,zp (by rw[show("/b":Str).length=2 by decide +kernel];lia),_,rfl,Uw 3,fun l3 el=>?_⟩;have fw:=u9.trans<|e4.trans<|zF el (o:=.lst [.str (E7 (zc g.1) "/").1,.str<|zc g.1++"/b",.str<|zc g.1]);obtain⟨z,iz,pz⟩:∃z,Fa [V.str (E7 (zc g.1) "/").1,.str<|zc g.1++"/b",.str<|zc g.1] (UG b 4 % 3)=some (.str z)/\To z:=by
   have m0:=Y8 (UG b 4) (show(3:Int)≠0 by decide);have m1:=YN (UG b 4) (show(0:Int)<3 by decide);generalize UG b 4 % 3=m at m0 m1
   match m,m0,m1 with
   | 0,_,_=>exact⟨_,rfl,Su b0⟩
   | 1,_,_=>exact⟨_,rfl,Ss b0⟩
   | 2,_,_=>exact⟨_,rfl,F6 b0⟩
  exact⟨_,rfl,sa,b,4,rfl,((e4.trans<|zF el).seq s),by decide,_,_,rfl,rfl,by decide,l3,_,_,_,rfl,rfl,xx.of zB,iz,z,rfl,fw,pz⟩
 rintro G H9 ⟨z,rfl,s9,pz⟩;have s:=s9.seq s;have C:=s9 _ _ C;have ff:=ff.same s9;have J:=J.same s9;have dv:=Dw.same s9 _ _ dv;have s7:=s7.trans s9;clear s9;obtain⟨zl,zo⟩:=P3 pz;have gd:=Sr pz;refine⟨_,rfl,.str z,.str "",rfl,rfl,uJ zo<|ZN _,by decide +kernel,_,rfl,?_⟩;have ev:(!EJ (.str z) (.str ""))=decide (z≠""):=by
  have:EJ (.str z) (.str "")=decide (z=""):=by
   show(z==("":Str))=_;rw[Z4,Jn,ZC]
  rw[this]
  by_cases q:z=""
  ·rw[Ze q,Zn<|fun n=>n q];rfl
  ·rw[Zn q,Ze q];rfl
 rw[ev];refine Oz (B:=decide (Txt.count z "/"<4)) (fun q=>⟨_,rfl,rfl,_,_,rfl,rfl,_,_,rfl,rfl,q⟩) ?_;rw[←gd];refine yA ⟨fun G L=>∃e u,G=[some<|.ref sa,some<|.ref c1,some<|.ref x,some<|.str r,some<|.str lf,some<|.str nt,some<|.ref lr,some v,some u,some<|.bl<|UA e,none,none,none,none,none,none,none,none]/\zy H9 L/\(∀H,Dw K H e u)/\zY e=true/\small e=true,?_,?_⟩
 ·refine⟨_,rfl,sa,b,5,rfl,s,by decide,_,_,rfl,rfl,by decide,rfl,_,rfl,UB (fun _=>?_)<|fun _=>⟨.str z,_,rfl,zy.refl _,fun _=>rfl,rfl,Ze zl⟩⟩;refine⟨Uw 8,fun l8 n8=>?_⟩;have u8:=zF (o:=.lst [.str "",.str "A",.str "a//b",.str "/a",.str "a/",.non,.int 5,.str "a/b/c/d/e"]) n8;obtain⟨u,e,iu,eu,pe,fe,se⟩:∃u e,Fa [V.str "",.str "A",.str "a//b",.str "/a",.str "a/",.non,.int 5,.str "a/b/c/d/e"] (UG b 6 % 8)=some u/\(∀H,Dw K H e u)/\UA e=false/\zY e=true/\small e=true:=by
   have m0:=Y8 (UG b 6) (show(8:Int)≠0 by decide);have m1:=YN (UG b 6) (show(0:Int)<8 by decide);generalize UG b 6 % 8=m at m0 m1
   match m,m0,m1 with
   | 0,_,_=>exact⟨_,.str "",rfl,fun _=>rfl,by decide +kernel,rfl,by decide +kernel⟩
   | 1,_,_=>exact⟨_,.str "A",rfl,fun _=>rfl,by decide +kernel,rfl,by decide +kernel⟩
   | 2,_,_=>exact⟨_,.str "a//b",rfl,fun _=>rfl,by decide +kernel,rfl,by decide +kernel⟩
   | 3,_,_=>exact⟨_,.str "/a",rfl,fun _=>rfl,by decide +kernel,rfl,by decide +kernel⟩
   | 4,_,_=>exact⟨_,.str "a/",rfl,fun _=>rfl,by decide +kernel,rfl,by decide +kernel⟩
   | 5,_,_=>exact⟨_,.none,rfl,fun _=>rfl,rfl,rfl,rfl⟩
   | 6,_,_=>exact⟨_,.int 5,rfl,fun _=>rfl,rfl,rfl,rfl⟩
   | 7,_,_=>exact⟨_,.str "a/b/c/d/e",rfl,fun _=>rfl,by decide +kernel,rfl,by decide +kernel⟩
  exact⟨_,rfl,sa,b,6,rfl,u8.seq s,by decide,_,_,rfl,rfl,by decide,l8,_,_,u,rfl,rfl,xx.of zB,iu,e,u,by rw[pe];rfl,u8,eu,fe,se⟩
 rintro G fx ⟨e,u,rfl,a0,eu,fe,se⟩;have s:=a0.seq s;have C:=a0 _ _ C;have ff:=ff.same a0;have J:=J.same a0;have dv:=Dw.same a0 _ _ dv;have s7:=s7.trans a0;clear a0;refine⟨_,rfl,sa,b,7,rfl,s,by decide,yA ?_⟩;generalize UG b 7=c7;refine⟨_,rfl,_,_,rfl,rfl,⟨by decide,by decide⟩,c7 / 8,rfl,fun p ls e6 e3 hp fk _=>?_⟩;refine(wL.cons (.lst (ds:=[.str "a"]) (.cons (.c fun _=>rfl) .nil)<|by decide) (wL.cons (.tup (ds:=[.str "a",.int 5]) (.cons (.c fun _=>rfl)<|.cons (.c fun _=>rfl) .nil)<|by decide)<|wL.cons (.c (d:=.str "a") fun _=>rfl) (wL.cons (.c (d:=.none) fun _=>rfl) (wL.cons (.tup (ds:=[.str "a",.str<|Txt.mul "x" 21]) (.cons (.c fun _=>rfl)<|.cons .x21 .nil)<|by decide)<|wL.cons (.tup (ds:=[.str "a\n"]) (.cons (.c fun _=>rfl) .nil)<|by decide)<|wL.cons (.tup (ds:=[.str "b",.str "\t"]) (.cons (.c fun _=>rfl)<|.cons (.c fun _=>rfl) .nil)<|by decide) wL.nil))):wL K _<|mj.map fun d=>(none,d)) _ _ _ fun xs e7 dl a5=>?_;refine⟨zp (by rw[Zj,a5.1];decide),fun bm ed=>?_⟩;refine nw ed fun Y cl cn=>?_;have a5:uy K e6 e7 (mj.map fun d=>(none,d)) xs:=a5;have xl:xs.length=7:=a5.1;obtain⟨t,g,it,gt,ln,fg⟩:∃t g,Fa (.ref p::xs) (c7 % 8)=some t/\Dw K Y g t/\lJ g/\zY g=true:=by
  obtain⟨m,em⟩:=YQ (Y8 c7<|show(8:Int)≠0 by decide);have hm:m<8:=by have:=YN c7 (show(0:Int)<8 by decide);lia
  rw[em];cases m with
  |zero=>exact⟨.ref p,AnJ.yh ls,y7 rfl,⟨p,_,rfl,xg.of<|cl _ _<|dl _ _ hp,MI ls⟩,.inl ⟨ls,rfl,fk⟩,BF ls⟩
  |succ m =>
   have hx:=Zl (show m<xs.length by lia);obtain⟨g,hg,dg⟩:=PH a5 hx;exact⟨_,g,y7 hx,Dw.same cl _ _ dg,(M7 hg).1,(M7 hg).2⟩
 refine yA ⟨_,rfl,_,rfl,_,_,rfl,rfl,by decide,bm,_,_,t,rfl,rfl,xx.of cn,it,yA ?_⟩;have a1:=e3.trans<|dl.trans cl;have s:=a1.seq s;have C:=a1 _ _ C;have ff:=ff.same a1;have J:=J.same a1;have dv:=Dw.same a1 _ _ dv;have s7:=s7.trans a1;clear a1 e3 dl cl cn it a5 hp ed;have da:=J.wB;have sB:=qR s7 d3<|uF (H:=Y) (X:=I);have dB:=Dw.oK da (uF (H:=Y) (X:=I)) _ _ rd.1 dv;have gB:=Dw.oK da (uF (H:=Y) (X:=I)) _ _ fg gt;have ab:=sB.seq cp;have a4:=sB _ _ d4;have a8:=d1.same sB;have fB:∀c∈I,U8 Y I c=none:=fun c U=>CJ U;have sH:zy (U8 Y I) Y:=BD;generalize U8 Y I=B0 at sB dB gB ab a4 a8 fB sH;clear cp d4 d1 s C ff dv gt s7 d3;refine fun y dy ny ei ne=>⟨y,dy,.non,[],rfl,zB,by rw[zI ne];exact zB,ne,.inl ⟨rfl,rfl⟩,fun fq e8 d6 ah cu=>⟨rfl,?_⟩⟩;obtain⟨dm,a9⟩:=G8 ny ei ne d6 ah;have dj:∀c∈I,c∉fq:=fun c U z=>by
  obtain⟨o,eo⟩:=J.ex c U;rw[a9 c z]at eo;cases eo
 have W:W2 P w K aC B0 e8 x I y fq S []:=⟨sH.trans dm,J.same dm,cu,fB,fun c U=>sH.free<|a9 c U,dj⟩;clear ah d6 ny ei ne dm a9 cu dj fB J sH da;have ef:c1∉fq:=fun z=>by have:=W.gr _ z;rw[a4]at this;cases this
 refine⟨_,rfl,_,rfl,y,_,rfl,.inl ⟨c1,fq,[],fs,N,rfl,W.tw,ok0,W.same _ _ a4,ef,a8.same W.same,gf,by lia,by show 0+1+wt fs<=2000;lia,fun fy cq ca=>?_⟩⟩;rw[fc]at ca;have W:=W.mF cq ca;clear cq ca;dsimp only;refine Np ?_;refine ai rfl W.tw b8 (by lia) ?_;intro fz cr cb;rw[fh]at cb;have W:=W.mF cr cb;clear cr cb;refine Np ?_;refine putN rfl rfl W.tw ap a7 (by lia) ?_;intro e9 ct cc;rw[fi]at cc;have W:=W.mF ct cc;clear ct cc;have W:W2 P w K aC B0 e9 x I y fq S S:=W;have Wd:=wd4<|show([aN,b1,b2,b3]++[aT,b4,b5,b6]).Nodup from T.dst;have hb:EJ d (.str r)=true↔d=.str r:=by
  cases d with
  |str y =>
   show(y==r)=true↔_;rw[Jn];exact⟨fun z=>by rw[z],fun z=>by cases z;rfl⟩
  |_=>exact⟨fun z=>(nomatch z),fun z=>(nomatch z)⟩
 have ch:∀S:Di,(S.map fun e=>V.str e.nm)=(S.map En.nm).map V.str:=fun S=>by rw[ZF];rfl
 refine⟨Uw 9,fun c8 ee=>?_⟩;refine nw ee fun a6 e5 ci=>?_;have W:=W.ins e5;have d2:∀c∈I++fq,B0 c=none:=fun c U=>(ZB.mp U).elim (W.fr c)<|W.gr c;have s1:=qR W.same d2<|uF (H:=a6) (X:=I++fq);have co:=uF (H:=a6) (X:=I++fq) c8 _ (fun z=>(ZB.mp z).elim (M3 W.sh.wB ci)<|M3 W.tw.wB ci) ci;have W:W2 P w K aC (U8 a6<|I++fq) a6 x I y fq S S:=⟨BD,W.sh,W.tw,fun c U=>CJ<|Ya _ U,fun c U=>CJ<|ZL _ U,W.dj⟩;generalize U8 a6 (I++fq)=B1 at s1 co W;have dB:=Dw.same s1 _ _ dB;have gB:=Dw.same s1 _ _ gB;have ab:=s1.seq ab;have a4:=s1 _ _ a4;have a8:=a8.same s1;clear s1 d2 e5 ee ef;obtain⟨fj,fv,ft⟩:=rd;refine⟨c8,rfl,⟨_,xx.of ci⟩,OV (K:=K) (a:=c8) (xs:=[.int 0,.int 1,.int 4,.int 3,.int 2,.int 0,.int 1,.int 4,.int 3]) (fun n σ L=>∃S' dh di dk cj,σ=[some<|.ref sa,some<|.ref c1,some<|.ref x,some<|.str r,some<|.str lf,some<|.str nt,some<|.ref lr,some v,some u,some<|.bl<|UA e,some<|.int c7,some<|.ref bm,some t,some<|.ref y,dh,di,dk,cj]/\W2 P w K aC B1 L x I y fq S' S'/\yd S'/\S'.length<=20+6*n/\((d=.str r/\nG S' r fs)\/(d≠.str r/\Uy S' d "tree"=false))) ⟨S,none,none,none,none,rfl,W,am,eb,ft.imp (fun z=>⟨z,R3⟩) id⟩ (fun n σ L _ ⟨S',_,_,_,_,_,W',_⟩=>xx.of<|W'.same _ _ co) ?_ ?_⟩
 ·rintro n wv Tp σ L hw ⟨S',dh,di,dk,cj,rfl,W,ok,Sl,rt⟩ nT;have W:=W.ins<|zF nT (o:=.tup [.int n,wv]);have hT:upd L Tp (.tup [.int n,wv]) Tp=some (.tup [.int n,wv]):=zB;generalize upd L Tp (.tup [.int n,wv])=dz at W hT ⊢;obtain⟨i,rfl,hi⟩:∃i:Int,wv=.int i/\(i=4\/i=0\/i=1\/i=2\/i=3):=by
   have:=Zt hw;simp only[Zm,Z9,JQ]at this
   rcases this with rfl|rfl|rfl|rfl|rfl|rfl|rfl|rfl|rfl<;>exact⟨_,rfl,by lia⟩
  have nl:n<9:=(Zv.mp hw).1;refine⟨Tp,_,rfl,xg.of hT,rfl,_,_,rfl,yA ⟨_,_,rfl,yA ⟨rfl,?_⟩⟩⟩;refine⟨_,rfl,yA ?_⟩;clear hT hw nT;refine⟨fun G L=>∃hd,G=[some<|.ref sa,some<|.ref c1,some<|.ref x,some<|.str r,some<|.str lf,some<|.str nt,some<|.ref lr,some v,some u,some<|.bl<|UA e,some<|.int c7,some<|.ref bm,some t,some<|.ref y,some<|.int n,some<|.int i,some hd,cj]/\zy dz L/\((i=4/\((∃d',Dw K L d' hd/\(UE d'=="dict")=false)\/∃c Dm ps,hd=.ref c/\dz c=none/\L c=some (.dK Dm)/\yw K L ps Dm/\(∀p∈ps,zY p.2=true)/\List.length ps<=100/\UM ps=false))\/(i≠4/\hd=t)),?_,?_⟩
  ·refine⟨_,rfl,rfl,_,rfl,UB (fun z=>?_)<|fun z=>⟨t,rfl,zy.refl _,.inr ⟨fun q=>z (by rw[q];exact Ze rfl),rfl⟩⟩⟩;have i4:i=4:=V.int.inj<|Zx z;exact⟨_,rfl,sa,b,4,rfl,W.same.seq ab,by decide,UG b 4,rfl,fun d' v' H2 s2 dd nd=>⟨v',rfl,s2,.inl ⟨i4,.inl ⟨d',dd,nd⟩⟩⟩,fun c Dm ps H2 s2 nc U pa df pl gb=>⟨.ref c,rfl,s2,.inl ⟨i4,.inr ⟨c,Dm,ps,rfl,nc,U,pa,df,pl,gb⟩⟩⟩⟩
  rintro G f0 ⟨hd,rfl,fu,hh⟩;have W0:=W;have W:=W.ins fu;have dH:=Dw.same W.same _ _ dB;have gH:=Dw.same W.same _ _ gB;refine⟨_,rfl,_,rfl,_,rfl,_,rfl,d,.str r,Dw.dt d v fj dH,rfl,fv,uJ o1.ok<|ZN _,_,rfl,_,rfl,_,rfl,?_⟩
  try delta U2
  dsimp only;refine WV (g:=g) (W.same _ _ a4) (a8.same W.same) gf (by lia) (eu _) se ?_ ?_
  ·rcases hh with⟨z,_⟩|⟨z,rfl⟩
   ·exact .inl z
   ·exact .inr ⟨gH,ln,by lia⟩
  intro fa b9;generalize ew:(if i=4 then("files":Str) else UH i (EJ d<|.str r) e g fs)=dw;have W1:=W.ins b9;have no:∀{P1 P2:Prop},P2->if(!decide (V.str dw=V.str dw))=true then P1 else P2:=fun{P1 P2} h=>by rw[Ze rfl];exact Ut (A:=P1) h
  refine yA ⟨fun G L=>G=[some<|.ref sa,some<|.ref c1,some<|.ref x,some<|.str r,some<|.str lf,some<|.str nt,some<|.ref lr,some v,some u,some<|.bl<|UA e,some<|.int c7,some<|.ref bm,some t,some<|.ref y,some<|.int n,some<|.int i,some hd,some<|.str dw]/\∃SA,W2 P w K aC B1 L x I y fq SA S'/\((dw=""/\i≠4/\hd=t/\SA=Cy i S' r e g)\/(dw≠""/\SA=S')),?_,?_⟩
  ·refine⟨_,rfl,_,rfl,_,rfl,_,rfl,_,rfl,?_⟩
   try dsimp only
   rcases hh with⟨rfl,odd⟩|⟨ni,rfl⟩
   ·rw[Zy rfl]at ew;subst ew;refine SM Wd fun k hk=>?_
    rcases odd with⟨d',dd,nd⟩|⟨c,Dm,ps,rfl,nc,U,pa,df,pl,gb⟩
    ·exact .inl ⟨d',Dw.same b9 _ _ dd,nd,hk _ fun H2 s2=>⟨_,rfl,rfl,_,rfl,no ⟨rfl,S',W1.ins s2,.inr ⟨by decide +kernel,rfl⟩⟩⟩⟩
    ·refine .inr ⟨c,Dm,ps,rfl,b9 _ _ U,pa.same b9,df,pl,gb,fun L b7=>hk _ fun H2 s2=>⟨_,rfl,rfl,_,rfl,no ⟨rfl,S',?_,.inr ⟨by decide +kernel,rfl⟩⟩⟩⟩;refine(W1.tu (b9 _ _ U) b7 (W0.same.free nc) (fun z=>?_)<|fun z=>?_).ins s2
     ·obtain⟨o,eo⟩:=W0.sh.ex c z;rw[nc]at eo;cases eo
     ·obtain⟨o,eo⟩:=W0.tw.ex c z;rw[nc]at eo;cases eo
   ·rw[Zr ni]at ew;have A:jq P w K aC fa x I S' r fs d e g v u hd:=⟨W1.sh,ok,by lia,gf,Dw.same W1.same _ _ dB,eu _,se,Dw.same W1.same _ _ gB,ln,rt⟩;refine Wv A Wd hb (by lia) (fun du L b7 dn=>?_)<|fun nd L s'=>?_
    ·rw[ew]at du;subst du;exact⟨_,rfl,rfl,_,rfl,no ⟨rfl,_,W1.put b7 dn,.inl ⟨rfl,ni,rfl,rfl⟩⟩⟩
    ·rw[ew]at nd ⊢;exact⟨_,rfl,rfl,_,rfl,no ⟨rfl,S',W1.ins s',.inr ⟨nd,rfl⟩⟩⟩
  rintro G fb ⟨rfl,SA,W,ww⟩;refine⟨fun G L=>G=[some<|.ref sa,some<|.ref c1,some<|.ref x,some<|.str r,some<|.str lf,some<|.str nt,some<|.ref lr,some v,some u,some<|.bl<|UA e,some<|.int c7,some<|.ref bm,some t,some<|.ref y,some<|.int n,some<|.int i,some hd,some<|.str dw]/\∃M,W2 P w K aC B1 L x I y fq M M/\yd M/\M.length<=20+6*(n+1)/\((d=.str r/\nG M r fs)\/(d≠.str r/\Uy M d "tree"=false)),?_,?_⟩
  ·refine⟨_,rfl,rfl,_,rfl,UB (fun z=>?_)<|fun z=>?_⟩
   ·have z:dw="":=V.str.inj<|Zx z
    rcases ww with⟨_,ni,rfl,rfl⟩|⟨q,_⟩
    rotate_left
    ·exact absurd z q
    rw[Zr ni,z]at ew;have rb:EJ d (.str r)=true:=by
     cases q:EJ d (.str r) with
     |true=>rfl
     |false =>
      rw[q]at ew;unfold UH at ew;rw[Zy rfl]at ew;exact absurd ew (by decide +kernel)
    have A:jq P w K aC fb y fq S' r fs d e g v u hd:=⟨W.tw,ok,by lia,gf,Dw.same W.same _ _ dB,eu _,se,Dw.same W.same _ _ gB,ln,rt⟩;refine⟨_,rfl,_,rfl,_,rfl,_,rfl,_,rfl,?_⟩
    try dsimp only
    refine ask A Wd hb (by lia) (fun du L b7 dn=>⟨rfl,_,W.mF b7 dn,?_⟩)<|fun c L U wd s'=>absurd (wd.trans ew)<|Nz Wd U;have c0:=hb.mp rb;obtain⟨e2,l',T',d0⟩:=R6 A c0 (by rw[rb]at ew;exact ew);refine⟨e2,by lia,.inl ⟨c0,?_⟩⟩
    rcases rt with⟨_,R⟩|⟨q,_⟩
    ·rw[d0];exact R.more (d0▸e2) ok
    ·exact absurd c0 q
   ·rcases ww with⟨q,_⟩|⟨_,rfl⟩
    ·exact absurd (by rw[q];exact Ze rfl) z
    ·exact⟨rfl,SA,W,ok,by lia,rt⟩
  rintro G f1 ⟨rfl,M,W,ok,Sl,rt⟩;refine⟨_,rfl,sa,b,2,rfl,W.same.seq ab,by decide,_,_,rfl,rfl,⟨by decide,by decide⟩,_,rfl,_,_,rfl,rfl,_,_,rfl,rfl,by decide,rfl,_,rfl,UB (fun _=>?_)<|fun _=>Ut ⟨M,_,_,_,_,rfl,W,ok,Sl,rt⟩⟩;obtain⟨ix,c4,c5,c6,c2⟩:=jT W.sh;obtain⟨iy,c4,c5,c6,c3⟩:=jT W.tw;refine⟨_,rfl,x,ix,_,rfl,c2,rfl,x,I,M,rfl,W.sh,fun l1 n1=>?_⟩;rw[ch];have u1:=zF (o:=.lst<|(M.map En.nm).map V.str) n1;refine⟨_,rfl,y,iy,_,rfl,u1 _ _ c3,rfl,y,fq,M,rfl,W.tw.same u1,fun l2 n2=>?_⟩;rw[ch];have u2:=zF (o:=.lst<|(M.map En.nm).map V.str) n2;obtain⟨cd,cx⟩:=S3 ok;refine⟨.list<|(M.map En.nm).map .str,.list<|(M.map En.nm).map .str,⟨l1,_,rfl,xx.of<|u2 _ _ zB,za.strs _⟩,⟨l2,_,rfl,xx.of zB,za.strs _⟩,cd,cd,_,rfl,?_⟩;rw[cx];exact Ut ⟨M,_,_,_,_,rfl,W.ins<|u1.trans u2,ok,Sl,rt⟩
 ·rintro σ L ⟨M,dh,di,dk,cj,rfl,W,ok,_⟩;obtain⟨ix,c4,c5,c6,c2⟩:=jT W.sh;obtain⟨iy,c4,c5,c6,c3⟩:=jT W.tw;refine⟨_,rfl,x,ix,_,rfl,c2,rfl,x,I,M,rfl,W.sh,fun l1 n1=>?_⟩;rw[ch];have u1:=zF (o:=.lst<|(M.map En.nm).map V.str) n1;refine⟨_,rfl,y,iy,_,rfl,u1 _ _ c3,rfl,y,fq,M,rfl,W.tw.same u1,fun l2 n2=>?_⟩;rw[ch];have u2:=zF (o:=.lst<|(M.map En.nm).map V.str) n2;obtain⟨cd,cx⟩:=S3 ok;refine⟨.list<|(M.map En.nm).map .str,.list<|(M.map En.nm).map .str,⟨l1,_,rfl,xx.of<|u2 _ _ zB,za.strs _⟩,⟨l2,_,rfl,xx.of zB,za.strs _⟩,cd,cd,?_⟩;rw[cx];exact kQ _
end Cb
end
end An08
/-! the evaluating tactics look for a twin of each of these constants under these names;names that are taken keep them from laying one,for the twins' equations make the compiled file too large -/
structure PySem.W.Fast:Prop where(tw14894834763930544267 tw9979695851330526002 tw9417456978994698534 tw15601452263374302513 tw4492090487724500486 tw16340783462784048933 tw12928075198542283785 tw15284197189505703870 tw3796602050969312922 tw16369020725782653284 tw1483940931094679058 tw11320216796887103951 tw5985567532395752471 tw3811525116732983809 tw16195693893560804949 tw2690976486151300541 tw15017233520183976187 tw16450952989168838054 tw5760684964070852129 tw11443503503904799993 tw3359558251255302524 tw17577306019414935479 tw12389271988577331250 tw7883042406357262042 tw17198852783785093420 tw7292695099650474291 tw9143760443977793067 tw17243315325543465225 tw1500595267802918455 tw18315165825206447835 tw16010892968321924848 tw14319504880452281764 tw17916726204479557629 tw9447081105727403364 tw18218604997104937853 tw4882337102298422783 tw1831231599785471912 tw2324292839070576437 tw8267427371446995103 tw9301059809197651020 tw3062835130112402686 tw15527344815701110470 tw472454384841166979 tw11000624551303850951 tw13939071112480772738 tw15996521945344764600 tw3050972291519680432 tw13555409397110752599 tw13121770766529756821 tw2036433309114473522 tw12589451826284361652 tw9385267784906683216 tw18051542328926175443 tw12133080468763841789 tw8173794968588105998 tw14966640315884251895 tw7165544155795868255 tw9451694466966988891 tw4202856471846386859 tw3123393193146598494 tw2021115422825989560 tw10961606838724253513 tw770491136762062398 tw18401999944807352751 tw1211527072994369434 tw4862459582321531528 tw4310727960509963837 tw7828170354295925358 tw16827764360885370179 tw15778760672241098750 tw13339501650333648288 tw14516080976651734529 tw555991927473053600 tw8325498418277687777 tw15518887879078280167 tw4198251171279568483 tw16617262498406413774 tw2200378083280093359 tw15922894872166408777 tw13615797913117814920 tw13186825640655626873 tw1056422305868382153 tw9888706495179999430 tw11796940394101880266 tw3509270458195784132 tw16213358505134561485 tw11621000221406163058 tw2657531786449348379 tw13053591241076764219 tw12340124547678861499 tw11205252262080077028 tw16078555644683514421 tw442557294402388542 tw12140422984864761681 tw7553374463447916433 tw10104014728518690030 tw14383075152727404606 tw15834966578470368531 tw9754188114961590732 tw13271483540720539512 tw14821146087606896472 tw12573081576540476934 tw1785241168120715445 tw10561896690717430577 tw3274715343798796737 tw8356052453480524668 tw8026558870304608278 tw4633533723551349387 tw5775788397987921359 tw571241664333064956 tw11987274352049684198 tw15023841212510514127 tw7977065879500716180 tw1587210918443053715 tw10083955535799241950 tw4443198513548741602 tw2367709979120588092 tw15172883878620935335 tw12750052854239424716 tw13878736358610253073 tw3668457432817834227 tw11761853781725057651 tw10112031784556574457 tw5945061861067572668 tw7552002388230175068 tw2645201297583837047 tw6154615046951213443 tw16246073743639485320 tw4606061478106332175 tw15325931287098157581 tw6217515059259015083 tw1106407350765773550 tw7026831956924204834 tw7247417350033800512 tw10661325914312113784 tw80519713022415691 tw7186357356008883513 tw14705317138476973058 tw7929020669875639670 tw14240298794129313021 tw18051738765501427751 tw12399268188731089786 tw9329799173399252204 tw5338904832527754432 tw11504263183410623031 tw17166451339148343628 tw13867879946206114555 tw18204594365024737260 tw13034541589115115794 tw13589015237033994206 tw8117361621143887775 tw9111906439779342204 tw15060545575737481922 tw16247125064144215655 tw15593232426835616916 tw14205316166918705448 tw7089860121854934516 tw5855619893567373059 tw2728763335457642855 tw9074857387060991378 tw1307358672259415461 tw2678788806056244457 tw9404956874517822561 tw5477284749884238196 tw17672476277988821265 tw9515159436078605048 tw8949816716165148594 tw7918909760813713046 tw10093957560402517721 tw13386542380844896246 tw17446838357935858105 tw15898901260001821238 tw12205509669659942707 tw1252953347603350143 tw15004018984911901719 tw6641544123864789268 tw14534653290808386795 tw7616371531640861144 tw13395373388986169433 tw18070242083733179384 tw15925976737397943559 tw14790892832584272066 tw14313585374570662110 tw14961651712034413117 tw3949791759776863018 tw845127474723546122 tw15714884278091115376 tw6742904818755851848 tw912137741632027705 tw11642871727886353776 tw4215064815459754590 tw3922345497281865831 tw4245386610577451388 tw14731341018610479351 tw7184756800187879933 tw14013373914181739297 tw11013021740328209410 tw5926708393081927644 tw14781894619185920771 tw15385798781343335510 tw9174639304755286053 tw15252090368774398355 tw14984586927749328115 tw2573216204131002864 tw18373699663490237256 tw5365716889139933105 tw6943854280330443263 tw6170907137053304754 tw6793342103297827916 tw2390580931564208971 tw6913258425605112547 tw10629094993127432080 tw1417635467042912324 tw13924383858505124877 tw18189086407027580387 tw16646496759311389910 tw6288643851239531561 tw16977576665087586422 tw102643232630112812 tw13994765892736520337 tw11255692766806750592 tw330602348048134385 tw16706820569421436340 tw6667322810804083117 tw15196343473078724373 tw7522774073502819371 tw3388250843918750838 tw5131683359039406596 tw7382080986626450642 tw3682528194230237648 tw971488821773285667 tw14989493520809351342 tw6358396469954632349 tw7205066127356655783 tw4444073858068805946 tw9323407126505210170 tw15483982988422789740 tw1185049435944870511 tw15294425259993199119 tw12906999404716704609 tw4561774193088501127 tw1110281083457241251 tw15911032846087589842 tw2367477357706224959 tw16466228050774983566 tw9158464285977457321 tw11337367246562200817 tw9912950856605809482 tw16452334948604815007 tw11592682866080705448 tw5186869514025128433 tw14774925138619247094 tw18037055737792197693 tw10676177201379996062 tw6076160241675955178 tw9125154362078921762 tw16539771288699045943 tw15505775580569833650 tw3000714242302505103 tw4722431619174134513 tw6086612362164271598 tw4662886591933697498 tw12722090602971501895 tw1669407815748508072 tw6845154701546305149 tw13934294927184995413 tw7430226190129425947 tw15426892738632266441 tw12442053046046962489 tw2717924880458117868 tw17947336141478066012 tw8629969393681953373 tw5239330993308943337 tw4548908986616576524 tw2553585907404251575 tw4566069269443703525 tw9467236379028492890 tw3937072643880192306 tw1006825662978837316 tw6790344111256417088 tw11513084204259314548 tw11052601748960640357 tw11315691825237289208 tw2800013195436357870 tw12370488970105789945 tw2163232153662344472 tw6738978145999806583 tw12345287401050400102 tw12308488750861547631 tw15129329509237176511 tw3284771651716205552 tw21796671266427937 tw6065633966645908654 tw624350002983007409 tw9017461399021401960 tw18220428826867175557 tw4145673900644168420 tw16052607574577812087 tw12748161255147538063 tw3586191859438977378 tw3951556726887062535 tw6952433197814950489 tw5270667678371085622 tw1848507106514814716 tw9353827735640509123 tw6227003187676456134 tw6393667953682518161 tw6054719884044476747 tw13638233604712445025 tw2863695536835384840 tw7245935606361595050 tw14065183921491626262 tw15601580715425370096 tw10240301363801118328 tw17899346581431558985 tw5874202720093561519 tw9293744548333506127 tw15022006049659510952 tw9333561138812446561 tw2591435425768027922 tw13187858532296606208 tw814225932538498561 tw16876229789466693767 tw12178427071019886227 tw5365419951538002313 tw18434902886760691225 tw1343213295693336497 tw1100821592913631224 tw3507146438194027715 tw1284444381506666521 tw1230541735752600714 tw17634835929133547304 tw10853546669664353952 tw3152274020973522144 tw11661895367454874641 tw10934136328037969805 tw9233081020509902469 tw6135239180846713819 tw627154634408592697 tw16320842774195032821 tw4092144000488971793 tw9826037501632649018 tw13198458459809174300 tw13152350440598675725 tw15269869831725738621 tw4543679813329921055 tw6321341398474750135 tw976868720664535031 tw12532400923529528466 tw11748321201951801006 tw11532051566789243577 tw13525230861829507325 tw5603246867273683745 tw13848020078509072684 tw320838819283396937 tw1921323791754271125 tw7196936573251374506 tw8994461085474457516 tw1434521945670765230 tw14737912506358101897 tw16594129359796896202 tw12818638996835053095 tw4380726278246472039:True)
namespace An08
open PySem L2 An
theorem jh {P:Ej}{w:Ep}{K:Cc}{a:Ei}{b g d i f j:Tok}{n:Nat}(h:K.lookup a=some { cls:=.type "dict",data:=.dict #[⟨LU w.params "leaf",.str "leaf" b,.str "L" g⟩,⟨LU w.params "tree",.str "tree" d,.str "T" i⟩,⟨LU w.params "note",.str "note" f,.str "N" j⟩] n }) :
  KD P w K a xR:=by
 intro o X;refine⟨[(Ev "leaf",.str "L" g),(Ev "tree",.str "T" i),(Ev "note",.str "N" j)],.cons ⟨rfl,g,rfl⟩<|.cons ⟨rfl,i,rfl⟩<|.cons ⟨rfl,j,rfl⟩ .nil,_,_,n,X a _ h,⟨rfl,rfl,rfl⟩,rfl,?_,?_,?_⟩
 ·intro e l;have l:e∈[(⟨LU w.params "leaf",.str "leaf" b,.str "L" g⟩:Mb),⟨LU w.params "tree",.str "tree" d,.str "T" i⟩,⟨LU w.params "note",.str "note" f,.str "N" j⟩]:=by simpa using l
  rcases Zm.mp l with z|z
  ·subst z;exact⟨Ev "leaf",qK _ b,rfl⟩
  ·rcases Zm.mp z with z|z
   ·subst z;exact⟨Ev "tree",qK _ d,rfl⟩
   ·rw[Zb.mp z];exact⟨Ev "note",qK _ f,rfl⟩
 ·exact .cons (qK _ b) rfl (.cons (qK _ d) rfl<|.cons (qK _ f) rfl .nil)
 ·show([Ev "leaf",Ev "tree",Ev "note"]:List Key).Nodup
  decide +kernel
def GF (K:Cc)(x:Str)(st:EK)(f:Ei):Prop:=EA K Et x=some (some<|.ref f)/\∃(g:Eh) (i d:Option Ei) (l:Array Dc) (kV e j b ct:Eh),K.lookup f=some ⟨g,i,.func<|E8 x x (qM st) (xI st) (zG st) .none kV e j d b ct,l⟩/\LD K b x=true/\ES K (.ref f)=true
def MF (K:Cc)(C:Ei)(x q:Str)(st:EK)(f:Ei):Prop:=EN K (.ref C) x=some (some<|.ref f)/\Ms K (.ref f)=true/\∃(g:Eh) (i d:Option Ei) (l:Array Dc) (kV e j b ct:Eh),K.lookup f=some ⟨g,i,.func<|E8 x q (qM st) (xI st) (zG st) .none kV e j d b ct,l⟩/\LD K b q=true/\ES K (.ref f)=true
section
variable {P:Ej}{w:Ep}{K:Cc}{h:EB}{mg:Str->Dc}{k:Nat}{x q:Str}{st:EK}{f C:Ei}{ps:Da}{sp:Sp}{oc:Eh}{od an:Option Ei}{sl:Array Dc}{kV dc pm cd ct:Eh}
theorem GF.mk (a:EA K Et x=some (some<|.ref f))(l:K.lookup f=some ⟨oc,od,.func<|E8 x x (qM st) (xI st) (zG st) .none kV dc pm an cd ct,sl⟩)(c:LD K cd x=true)(k:ES K (.ref f)=true):GF K x st f:=⟨a,_,_,_,_,_,_,_,_,_,l,c,k⟩
theorem MF.mk (a:EN K (.ref C) x=some (some<|.ref f))(i:Ms K (.ref f)=true)(l:K.lookup f=some ⟨oc,od,.func<|E8 x q (qM st) (xI st) (zG st) .none kV dc pm an cd ct,sl⟩)(c:LD K cd q=true)(k:ES K (.ref f)=true):MF K C x q st f:=⟨a,i,_,_,_,_,_,_,_,_,_,l,c,k⟩
abbrev BA (x q:Str)(st:EK)(ps:Da):Prop:=∀(kV doc pm:Eh) (an:Option Ei) (cdv ct:Eh) (us:Db),us.length=ps.length->bindArgs (E8 x q (qM st) (xI st) (zG st) .none kV doc pm an cdv ct) ⟨us,[]⟩=LC (ps.zip us)
abbrev BX (x q:Str)(st:EK)(ps:Da)(kV doc pm:Eh)(an:Option Ei)(cdv ct:Eh)(us:Db):Prop:=bindArgs (E8 x q (qM st) (xI st) (zG st) .none kV doc pm an cdv ct) ⟨us,[]⟩=LC (ps.zip us)
theorem lC9{f:Db}{n:Nat}(z:f.length=n+1):∃a t,f=a::t/\t.length=n:=by cases f with|nil=>cases z|cons a t=>exact⟨a,t,rfl,Nat.succ.inj z⟩
theorem WB (h:∀kV i j an c' ct a,BX x q st ps kV i j an c' ct [a])(l:ps.length=1):BA x q st ps:=by intro kV i j an c' ct f z;obtain⟨_,f,rfl,m⟩:=lC9 (z.trans l);cases f;exact h ..;cases m
theorem WC (h:∀kV i j an c' ct a b,BX x q st ps kV i j an c' ct [a,b])(l:ps.length=2):BA x q st ps:=by intro kV i j an c' ct f z;obtain⟨_,f,rfl,m⟩:=lC9 (z.trans l);obtain⟨_,f,rfl,n⟩:=lC9 m;cases f;exact h ..;cases n
theorem WD (h:∀kV i j an c' ct a b c,BX x q st ps kV i j an c' ct [a,b,c])(l:ps.length=3):BA x q st ps:=by intro kV i j an c' ct f z;obtain⟨_,f,rfl,m⟩:=lC9 (z.trans l);obtain⟨_,f,rfl,n⟩:=lC9 m;obtain⟨_,f,rfl,o⟩:=lC9 n;cases f;exact h ..;cases o
theorem WE (h:∀kV i j an c' ct a b c d,BX x q st ps kV i j an c' ct [a,b,c,d])(l:ps.length=4):BA x q st ps:=by intro kV i j an c' ct f z;obtain⟨_,f,rfl,m⟩:=lC9 (z.trans l);obtain⟨_,f,rfl,n⟩:=lC9 m;obtain⟨_,f,rfl,o⟩:=lC9 n;obtain⟨_,f,rfl,p⟩:=lC9 o;cases f;exact h ..;cases p
theorem WF (h:∀kV i j an c' ct a b c d e,BX x q st ps kV i j an c' ct [a,b,c,d,e])(l:ps.length=5):BA x q st ps:=by intro kV i j an c' ct f z;obtain⟨_,f,rfl,m⟩:=lC9 (z.trans l);obtain⟨_,f,rfl,n⟩:=lC9 m;obtain⟨_,f,rfl,o⟩:=lC9 n;obtain⟨_,f,rfl,p⟩:=lC9 o;obtain⟨_,f,rfl,r⟩:=lC9 p;cases f;exact h ..;cases r
theorem WG (h:∀kV i j an c' ct a b c d e f,BX x q st ps kV i j an c' ct [a,b,c,d,e,f])(l:ps.length=6):BA x q st ps:=fun kV i j an c' ct g z=>match g,(z.trans l) with|[a,b,c,d,e,f],_=>h kV i j an c' ct a b c d e f
theorem GF.cal (X:K.In h)(G:h.Ns Et mg)(a:GF K x st f)(b:EB)(g:∀fd,xf K x x st f fd->mg x=some (.ref f)->wW K fd ps []->yx P w K mg b Cn k f fd ps sp)(e:BA x x st ps:=by first|exact WB (fun _ _ _ _ _ _ _=>rfl) rfl|exact WC (fun _ _ _ _ _ _ _ _=>rfl) rfl|exact WD (fun _ _ _ _ _ _ _ _ _=>rfl) rfl|exact WE (fun _ _ _ _ _ _ _ _ _ _=>rfl) rfl|exact WF (fun _ _ _ _ _ _ _ _ _ _ _=>rfl) rfl|exact WG (fun _ _ _ _ _ _ _ _ _ _ _ _=>rfl) rfl):xj P w K mg b k x ps sp:=by
 obtain⟨d,_,_,_,_,_,_,_,_,_,l,c,kp⟩:=a;have F:=vW l c kp;exact xj.mk' F (g _ F (ZV X G d)<|F.binds e) (ZV X G d)<|F.binds e
theorem GF.rO (X:K.In h)(G:h.Ns Et mg)(a:GF K x st f)(b:EB)(g:∀fd,xf K x x st f fd->mg x=some (.ref f)->wW K fd ps []->yx P w K mg b (Cw P w) k f fd ps sp)(e:BA x x st ps:=by first|exact WB (fun _ _ _ _ _ _ _=>rfl) rfl|exact WC (fun _ _ _ _ _ _ _ _=>rfl) rfl|exact WD (fun _ _ _ _ _ _ _ _ _=>rfl) rfl|exact WE (fun _ _ _ _ _ _ _ _ _ _=>rfl) rfl|exact WF (fun _ _ _ _ _ _ _ _ _ _ _=>rfl) rfl|exact WG (fun _ _ _ _ _ _ _ _ _ _ _ _=>rfl) rfl):wk P w K mg b k x ps sp:=by
 obtain⟨d,_,_,_,_,_,_,_,_,_,l,c,kp⟩:=a;have F:=vW l c kp;exact wk.mk' F (g _ F (ZV X G d)<|F.binds e) (ZV X G d)<|F.binds e
theorem GF.iU (X:K.In h)(G:h.Ns Et mg)(a:GF K x st f)(b:EB)(g:∀fd,xf K x x st f fd->mg x=some (.ref f)->wW K fd ps []->pH P w K mg b k f fd ps s2)(e:BA x x st ps:=by first|exact WB (fun _ _ _ _ _ _ _=>rfl) rfl|exact WC (fun _ _ _ _ _ _ _ _=>rfl) rfl|exact WD (fun _ _ _ _ _ _ _ _ _=>rfl) rfl|exact WE (fun _ _ _ _ _ _ _ _ _ _=>rfl) rfl|exact WF (fun _ _ _ _ _ _ _ _ _ _ _=>rfl) rfl|exact WG (fun _ _ _ _ _ _ _ _ _ _ _ _=>rfl) rfl):nu P w K mg b k x ps s2:=by
 obtain⟨d,_,_,_,_,_,_,_,_,_,l,c,kp⟩:=a;have F:=vW l c kp;exact nu.mk' F (g _ F (ZV X G d)<|F.binds e) (ZV X G d)<|F.binds e
theorem MF.met (a:MF K C x q st f)(b:EB)(g:∀fd,xf K x q st f fd->yx P w K mg b Cn k f fd ps sp)(e:BA x q st ps:=by first|exact WB (fun _ _ _ _ _ _ _=>rfl) rfl|exact WC (fun _ _ _ _ _ _ _ _=>rfl) rfl|exact WD (fun _ _ _ _ _ _ _ _ _=>rfl) rfl|exact WE (fun _ _ _ _ _ _ _ _ _ _=>rfl) rfl|exact WF (fun _ _ _ _ _ _ _ _ _ _ _=>rfl) rfl|exact WG (fun _ _ _ _ _ _ _ _ _ _ _ _=>rfl) rfl):Met P w K mg b C k x ps sp:=by
 obtain⟨d,i,_,_,_,_,_,_,_,_,_,l,c,kp⟩:=a;have F:=vW l c kp;exact⟨⟨_,_,g _ F,⟨d,i,kp⟩,F.binds e⟩⟩
theorem MF.mG (a:MF K C x q st f)(b:EB)(g:∀fd,xf K x q st f fd->yx P w K mg b (Cw P w) k f fd ps sp)(e:BA x q st ps:=by first|exact WB (fun _ _ _ _ _ _ _=>rfl) rfl|exact WC (fun _ _ _ _ _ _ _ _=>rfl) rfl|exact WD (fun _ _ _ _ _ _ _ _ _=>rfl) rfl|exact WE (fun _ _ _ _ _ _ _ _ _ _=>rfl) rfl|exact WF (fun _ _ _ _ _ _ _ _ _ _ _=>rfl) rfl|exact WG (fun _ _ _ _ _ _ _ _ _ _ _ _=>rfl) rfl):sU P w K mg b C k x ps sp:=by
 obtain⟨d,i,_,_,_,_,_,_,_,_,_,l,c,kp⟩:=a;have F:=vW l c kp;exact⟨⟨_,_,g _ F,⟨d,i,kp⟩,F.binds e⟩⟩
theorem MF.mak (a:MF K C "__init__" q st f)(b:EB)(m:Mp K C=true)(n:ES K (.ref C)=true)(j:mg x=some (.ref C))(g:∀fd,xf K "__init__" q st f fd->yx P w K mg b Cn k f fd ps sp)(e:BA "__init__" q st ps:=by first|exact WB (fun _ _ _ _ _ _ _=>rfl) rfl|exact WC (fun _ _ _ _ _ _ _ _=>rfl) rfl|exact WD (fun _ _ _ _ _ _ _ _ _=>rfl) rfl|exact WE (fun _ _ _ _ _ _ _ _ _ _=>rfl) rfl|exact WF (fun _ _ _ _ _ _ _ _ _ _ _=>rfl) rfl|exact WG (fun _ _ _ _ _ _ _ _ _ _ _ _=>rfl) rfl):iT P w K mg b C k x ps sp:=by
 obtain⟨d,i,_,_,_,_,_,_,_,_,_,l,c,kp⟩:=a;have F:=vW l c kp;exact⟨⟨_,_,g _ F,⟨m,d,i,n⟩,F.binds e,j⟩⟩
end
set_option maxHeartbeats 0 in
theorem all_mk {l:PySem.W.OpenLaw}{w:Ep}{K:Cc}{h:EB}{mg:Str->Dc}{fa:Ei}{t1 t2 t3 t4 t5 t6 t7:Tok}{aL aC n aT aA o p q b4 b5 b6:Ei}(X:K.In h)(G:h.Ns Et mg)(gm:mg "law"=some (.ref fa))
  (N:EA K Et "len"=some none)
  (J:EA K Et "all"=some none)
  (P:EA K Et "ord"=some none)
  (DD:EA K Et "isinstance"=some none)
  (R:EA K Et "str"=some none)
  (Q:EA K Et "set"=some none)
  (DX:EA K Et "sorted"=some none)
  (D6:EA K Et "tuple"=some none)
  (Ee:EA K Et "list"=some none)
  (O:EA K Et "max"=some none)
  (M:EA K Et "int"=some none)
  (Eg:EA K Et "bool"=some none)
  (D7:EA K Et "range"=some none)
  (Ef:EA K Et "dict"=some none)
  (L:EA K Et "any"=some none)
  (Dz:EA K Et "LONGEST_LINE"=some (some<|.int 20 t1))
  (Dv:EA K Et "LONGEST_LABEL"=some (some<|.int 8 t2))
  (Dy:EA K Et "MOST_PARENTS"=some (some<|.int 2 t3))
  (DQ:EA K Et "PERCENT"=some (some<|.int 37 t4))
  (DB:EA K Et "MOST_LABELS"=some (some<|.int 4 t7))
  (Dx:EA K Et "DIGEST_FACTOR"=some (some<|.int 31 t5))
  (DA:EA K Et "DIGEST_BOUND"=some (some<|.int 97 t6))
  (DS:EA K Et "LETTERS"=some (some<|.ref aL))
  (DY:EA K Et "NoName"=some (some<|.ref n))
  (DR:EA K Et "NoThing"=some (some<|.ref aT))
  (DC:EA K Et "AnnalsError"=some (some<|.ref aA))
  (DT:EA K Et "BadPath"=some (some<|.ref o))
  (DK:EA K Et "BadFiles"=some (some<|.ref p))
  (D9:EA K Et "NoFit"=some (some<|.ref q))
  (Ea:EA K Et "Clash"=some (some<|.ref b4))
  (DH:EA K Et "NoVersion"=some (some<|.ref b5))
  (DU:EA K Et "BadLine"=some (some<|.ref b6))
  (DF:EA K Et "ValueError"=some none)
  (DG:EA K Et "enumerate"=some none)
  (D8:EA K Et "Shelf"=some (some<|.ref aC))
  (DV:EZ K n U0 "ValueError.__new__"=true)
  (DL:EZ K aT U0 "ValueError.__new__"=true)
  (DM:EZ K o U0 "ValueError.__new__"=true)
  (DI:EZ K p U0 "ValueError.__new__"=true)
  (D:[n,o,p,q,aT,b4,b5,b6].Nodup)
  (ap:∀a∈[n,o,p,q],PySem.W.tY K a)
  (bl:∀a∈[n,o,p,q],∀b∈[n,o,p,q,aT,b4,b5,b6],ET K (.ref a) (.ref b)=some (decide (a=b)))
  (as:∀a∈[n,o,p,q],ET K (.ref a) (.type "ValueError")=some true)
  (E:∀a∈[n,o,p,q],PySem.W.exmOne K (.ref a) (.ref aA)=some true)
  (DZ:EZ K q U0 "ValueError.__new__"=true)
  (ar:KD l.prog w K aL xR)
  (B:LW K aC LX=true)
  (y:Me K aC=true)
  (C:PySem.W.plainOver K aC=true)
  (I:EN K (.ref aC) "__setattr__"=some (some<|.builtin "object.__setattr__"))
  (A:Mp K aC=true)
  (z:ES K (.ref aC)=true)
  (bm:EN K (.ref aC) "thing_by_name"=some none)
  (b0:EN K (.ref aC) "name_by_thing"=some none)
  (b7:EN K (.ref aC) "next_numbers"=some none)
  (H:∀a∈kinds,∀b∈kinds,ET K (.type a) (.type b)=some (a==b||(a=="bool"&&b=="int")))
  {f0 f1 f2 f3 f4 f5 f6 f7 f8 f9 et eu ev ew ey ez e0 e1 e2 e3 e4 e5 e6 e7 e8 e9 fb fc fe ff fg fh fi fj fk fl fm fn fo fp fq fr ft fu fv fw fx fy fz ga gb gc gd ge gf gg gh gi gj gk gl:Ei}
  (a0:GF K "_law_path_by" A3.st f0)
  (a1:GF K "_law_over" A0.st f1)
  (a2:GF K "_law_free" A2.st f2)
  (a3:GF K "_law_line_by" AZ.st f3)
  (a4:GF K "_law_lines_by" A1.st f4)
  (a5:GF K "_law_files_by" A4.st f5)
  (a6:GF K "_law_cell_at" AY.st f6)
  (a7:MF K aC "names" "Shelf.names" Au.st f7)
  (a8:MF K aC "take" "Shelf.take" Av.st f8)
  (a9:GF K "is_key" Aw.st f9)
  (c8:MF K aC "has" "Shelf.has" Ax.st et)
  (c9:GF K "need_name" Ay.st eu)
  (da:MF K aC "thing" "Shelf.thing" Az.st ev)
  (db:MF K aC "__init__" "Shelf.__init__" AD.st ew)
  (dd:GF K "is_sign" Aa.st ey)
  (de:GF K "is_line" Ab.st ez)
  (df:GF K "is_lines" Ac.st e0)
  (dh:GF K "is_leaf" Ah.st e1)
  (di:GF K "is_label" Ad.st e2)
  (dj:GF K "is_row" Ae.st e3)
  (dk:GF K "is_rows" Ag.st e4)
  (dl:GF K "is_tree" Ai.st e5)
  (dm:GF K "is_parents" Af.st e6)
  (dn:GF K "is_note" Aj.st e7)
  (dp:GF K "is_thing" Ak.st e8)
  (dq:GF K "need_thing" Al.st e9)
  (dr:MF K aC "need_form" "Shelf.need_form" AA.st fb)
  (ds:MF K aC "need_names" "Shelf.need_names" AB.st fc)
  (du:GF K "letter_of" Am.st fe)
  (dv:GF K "tree_parts" Ao.st ff)
  (dx:GF K "parts_of" Ap.st fg)
  (dy:GF K "counted" Aq.st fh)
  (dz:GF K "spelled" Ar.st fi)
  (d0:GF K "digest" As.st fj)
  (d1:MF K aC "put" "Shelf.put" AC.st fk)
  (d2:GF K "is_path" AE.st fl)
  (d3:GF K "is_file" AH.st fm)
  (d4:GF K "folders_of" AG.st fn)
  (d5:GF K "need_files" AK.st fo)
  (d6:GF K "put_rows" AI.st fp)
  (d7:GF K "put_files" AJ.st fq)
  (d8:GF K "keep_files" AL.st fr)
  (d9:GF K "_law_no_files" Ca.st ft)
  (ea:GF K "_law_is_line" A8.st fu)
  (eb:GF K "_law_due" A9.st fv)
  (ec:GF K "names_form" AM.st fw)
  (ed:GF K "need_root" AN.st fx)
  (ee:GF K "files_beneath" AO.st fy)
  (ef:GF K "files_of" AQ.st fz)
  (eg:GF K "labels_of" AF.st ga)
  (eh:GF K "rows_of" AR.st gb)
  (ei:GF K "found_at" AS.st gc)
  (ej:GF K "need_free" AV.st gd)
  (ek:GF K "rows_with" AT.st ge)
  (el:GF K "with_file" AW.st gf)
  (em:GF K "rows_without" AU.st gg)
  (en:GF K "without_file" AX.st gh)
  (eo:GF K "_law_asked" A5.st gi)
  (ep:GF K "_law_names" A6.st gj)
  (er:GF K "_law_told" A7.st gk)
  (es:GF K "law" Cb.st gl) :
  ∃fd:Eo,(∀(s:Em) (v:Eh),BindsTo s fd ⟨[v],[]⟩ [("_law_script",v)])/\∀base:EB,K.In base->base.Ns Et mg->yx l.prog w K mg base Cn 17 fa fd ["_law_script"] (oZ K):=by
 have T:Txt l.prog w K mg t1 t2 t3 t4 t5 t6 t7 aL aC n aT aA o p q b4 b5 b6:=⟨ZW X G N,ZW X G J,ZW X G P,ZW X G DD,ZW X G R,ZW X G Q,ZW X G DX,ZW X G D6,ZW X G Ee,ZW X G O,ZW X G M,ZW X G Eg,ZW X G D7,ZW X G Ef,ZW X G L,ZV X G Dz,ZV X G Dv,ZV X G Dy,ZV X G DQ,ZV X G DB,ZV X G Dx,ZV X G DA,ZV X G DS,ZV X G DY,ZV X G DR,ZV X G DC,ZV X G DT,ZV X G DK,ZV X G D9,ZV X G Ea,ZV X G DH,ZV X G DU,ZW X G DF,ZW X G DG,ZV X G D8,DV,DL,DM,DI,D,ap,bl,as,E,DZ,ar,⟨B,y,C,I⟩,bm,b0,b7,H⟩;obtain⟨hL,oc,od,an,sl,kV,dc,pm,cd,ct,lL,cL,kL⟩:=es;have e:=gm.symm.trans<|ZV X G hL;cases e;refine⟨E8 "law" "law" (qM Cb.st) (xI Cb.st) (zG Cb.st) .none kV dc pm an cd ct,fun s v=>.of_eq rfl,fun b _ _=>?_⟩;have C0:=a0.cal X G b fun _ F _ _=>A3.ok T F;have C1:=a1.cal X G b fun _ F _ _=>A0.ok T F;have C2:=a2.cal X G b fun _ F _ _=>A2.ok T F C1;have C3:=a3.cal X G b fun _ F _ _=>AZ.ok T F;have C4:=a4.cal X G b fun _ F _ _=>A1.ok T F C3;have C5:=a5.cal X G b fun _ F _ _=>A4.ok T F C0 C2 C4;have C6:=a6.cal X G b fun _ F _ _=>AY.ok T F;have C7:=a7.met (mg:=mg) b fun _ F=>Au.ok T F;have C8:=a8.met (mg:=mg) b fun _ F=>Av.ok T F;have C9:=a9.cal X G b fun _ F _ _=>Aw.ok T F;have S:=c8.met (mg:=mg) b fun _ F=>Ax.ok T F C9;have b8:=c9.rO X G b fun _ F _ _=>Ay.ok T F S;have d:=da.mG (mg:=mg) b fun _ F=>Az.ok T F b8;have b9:=db.mak b A z T.jm fun _ F=>AD.ok T F C7 C8 d;have ca:=dd.cal X G b fun _ F _ _=>Aa.ok T F;have U:=de.cal X G b fun _ F _ _=>Ab.ok T F ca;have r:=df.cal X G b fun _ F _ _=>Ac.ok T F U;have cb:=dh.cal X G b fun _ F _ _=>Ah.ok T F r;have Y:=di.cal X G b fun _ F _ _=>Ad.ok T F;have cc:=dj.cal X G b fun _ F _ _=>Ae.ok T F Y;have ce:=dk.cal X G b fun _ F _ _=>Ag.ok T F cc;have cf:=dl.cal X G b fun _ F _ _=>Ai.ok T F ce;have cg:=dm.cal X G b fun _ F _ _=>Af.ok T F;have ch:=dn.cal X G b fun _ F _ _=>Aj.ok T F cg U;have ci:=dp.cal X G b fun _ F _ _=>Ak.ok T F cb cf ch;have cj:=dq.rO X G b fun _ F _ _=>Al.ok T F ci;have ck:=dr.mG (mg:=mg) b fun _ F=>AA.ok T F d;have cl:=ds.mG (mg:=mg) b fun _ F=>AB.ok T F ck;have Z:=du.cal X G b fun _ F _ _=>Am.ok T F;have cm:=dv.cal X G b fun _ F _ _=>Ao.ok T F;have cn:=dx.cal X G b fun _ F _ _=>Ap.ok T F cm;have co:=dy.cal X G b fun _ F _ _=>Aq.ok T F;have cp:=dz.cal X G b fun _ F _ _=>Ar.ok T F Z cn co;have cq:=d0.cal X G b fun _ F _ _=>As.ok T F cp;have i:=d1.mG (mg:=mg) b fun _ F=>AC.ok T F cj cl Z cq C8;have ab:=d2.cal X G b fun _ F _ _=>AE.ok T F Y;have cr:=d3.cal X G b fun _ F _ _=>AH.ok T F ab r;have ah:=d4.cal X G b fun _ F _ _=>AG.ok T F;have cu:=d5.rO X G b fun _ F _ _=>AK.ok T F cr ah;have f:=d6.cal X G b fun _ F _ _=>AI.ok T F i;have cv:=d7.cal X G b fun _ F m h=>AJ.ok T F i f m h;have al:=d8.rO X G b fun _ F _ _=>AL.ok T F cu cv;have cw:=d9.cal X G b fun _ F _ _=>Ca.ok T F;have cx:=ea.cal X G b fun _ F _ _=>A8.ok T F;have cy:=eb.cal X G b fun _ F _ _=>A9.ok T F C1 cx;have j:=ec.cal X G b fun _ F _ _=>AM.ok T F S d;have t:=ed.rO X G b fun _ F _ _=>AN.ok T F j;have cz:=ee.cal X G b fun _ F m h=>AO.ok T F d m h;have c0:=ef.rO X G b fun _ F _ _=>AQ.ok T F t cz;have u:=eg.rO X G b fun _ F _ _=>AF.ok T F ab;have g:=eh.cal X G b fun _ F _ _=>AR.ok T F d;have x:=ei.rO X G b fun _ F _ _=>AS.ok T F t u j g;have c1:=ej.rO X G b fun _ F _ _=>AV.ok T F ah j x;have c2:=ek.cal X G b fun _ F m h=>AT.ok T F g f m h;have c3:=el.rO X G b fun _ F _ _=>AW.ok T F t u r c1 i f c2 g;have c4:=em.cal X G b fun _ F m h=>AU.ok T F g f m h;have c5:=en.rO X G b fun _ F _ _=>AX.ok T F j x f c4 g u;have am:=eo.rO X G b fun _ F _ _=>A5.ok T F c0 x c3 c5 al;have c6:=ep.iU X G b fun _ F _ _=>A6.ok T F;have c7:=er.cal X G b fun _ F _ _=>A7.ok T F am c6;exact Cb.ok T (vW (st:=Cb.st) lL cL kL) C5 C6 C0 C4 b9 i C7 al cw cy c7 am
theorem walk {l:PySem.W.OpenLaw}{q:Ej}{b:Da}{i:(Str->Dc)->EB->Prop}{g:Ep->EB->Prop}{d:DefRec}{K:Params->Cc}(hn:l.most=some 63)(e:d.params.defaults=[])
  (o:∀(w:Ep) (h:EB),g w h->(K w.params).In h)
  (F:∀(w:Ep) (mg:Str->Dc) (fa:Ei) (h:EB),(K w.params).In h->h.Ns Et mg->mg d.name=some (.ref fa) -> ∃fd:Eo,(∀(s:Em) (u:Eh),BindsTo s fd ⟨[u],[]⟩ [("_law_script",u)])/\∀base:EB,(K w.params).In base->base.Ns Et mg->yx l.prog w (K w.params) mg base Cn 17 fa fd ["_law_script"] (oZ<|K w.params)) :
  PySem.W.WalkO q b i g l.row.toRowW d [] (fun f vs=>PySem.call f vs) :=
 L2.mH (n:=63) (k:=17) (x:="_law_script") (CX:=fun _=>Cn) (sp:=fun w=>oZ<|K w.params) hn (by decide) e ⟨rfl,by decide,by decide⟩ o F (fun _ _ a ns hl _ j=>⟨a,ns,rfl,j,hl,fun _=>rfl⟩) fun _ _ _ _ _ z=>z
end An08
end
open PySem PySem.W PyProof.Rows
set_option maxRecDepth 100000 in
set_option maxHeartbeats 0 in
theorem PySem.Challenge.cw_annals_k08_trees_refused_holds : PySem.Challenge.rw_annals_k08_trees_refused.Holds := by
 w_on;o_law;k_head;(case hw=>w_witness2)
 k_fill
 refine An08.walk (l:=PySem.Challenge.rw_annals_k08_trees_refused) rfl rfl (fun w h Y=>PySem.W.kIn_of Y) ?F
 case F =>
  intro w mg fa h KX G hmg;refine' An08.all_mk KX G hmg ?z_len ?z_all ?z_ord ?DD ?z_str ?z_set ?DX ?D6 ?Ee ?z_max ?z_int ?Eg ?D7 ?Ef ?z_any ?Dz ?Dv ?Dy ?DQ ?DB ?Dx ?DA ?DS ?DY ?DR ?DC ?DT ?DK ?D9 ?Ea ?DH ?DU ?DF ?DG ?D8 ?DV ?DL ?DM ?DI ?s_dst ?s_ek ?s_kx ?s_kv ?s_exm ?DZ ?s_kd ?pg_aC ?hd_aC ?po_aC ?sa_aC ?mk_aC ?kc_aC ?s_n1 ?s_n2 ?s_n3 ?s_kit ?a0 ?a1 ?a2 ?a3 ?a4 ?a5 ?a6 ?a7 ?a8 ?a9 ?a10 ?a11 ?a12 ?a13 ?a14 ?a15 ?a16 ?a17 ?a18 ?a19 ?a20 ?a21 ?a22 ?a23 ?a24 ?a25 ?a26 ?a27 ?a28 ?a29 ?a30 ?a31 ?a32 ?a33 ?a34 ?a35 ?a36 ?a37 ?a38 ?a39 ?a40 ?a41 ?a42 ?a43 ?a44 ?a45 ?a46 ?a47 ?a48 ?a49 ?a50 ?a51 ?a52 ?a53 ?a54 ?a55 ?a56 ?a57 ?a58 ?a59 ?a60
  case z_len|z_all|z_ord|DD|z_str|z_set|DX|D6|Ee|z_max|z_int|Eg|D7|Ef|z_any|Dz|Dv|Dy|DQ|DB|Dx|DA|DS|DY|DR|DC|DT|DK|D9|Ea|DH|DU|DF|DG|D8=>k_is
  case a0|a1|a2|a3|a4|a5|a6=>(apply An08.GF.mk;k_is;k_is;k_is;k_is)
  case a7|a8=>(apply An08.MF.mk;k_is;k_is;k_is;k_is;k_is)
  case a9=>(apply An08.GF.mk;k_is;k_is;k_is;k_is)
  case a10=>(apply An08.MF.mk;k_is;k_is;k_is;k_is;k_is)
  case a11=>(apply An08.GF.mk;k_is;k_is;k_is;k_is)
  case a12|a13=>(apply An08.MF.mk;k_is;k_is;k_is;k_is;k_is)
  case a14|a15|a16|a17|a18|a19|a20|a21|a22|a23|a24|a25=>(apply An08.GF.mk;k_is;k_is;k_is;k_is)
  case a26|a27=>(apply An08.MF.mk;k_is;k_is;k_is;k_is;k_is)
  case a28|a29|a30|a31|a32|a33=>(apply An08.GF.mk;k_is;k_is;k_is;k_is)
  case a34=>(apply An08.MF.mk;k_is;k_is;k_is;k_is;k_is)
  case a35|a36|a37|a38|a39|a40|a41|a42|a43|a44|a45|a46|a47|a48|a49|a50|a51|a52|a53|a54|a55|a56|a57|a58|a59|a60=>(apply An08.GF.mk;k_is;k_is;k_is;k_is)
  case DV|DL|DM|DI=>first|k_is|kernel_rfl|rfl|(with_unfolding_all rfl)|decide +kernel +revert
  case s_dst=>decide +kernel
  case s_ek=>(intro a ha;simp only[Zm,Z9,JQ]at ha;rcases ha with rfl|rfl|rfl|rfl<;>(constructor<;>first|k_is|kernel_rfl|rfl|(with_unfolding_all rfl)|decide +kernel +revert))
  case s_kx=>(intro a ha b hb;simp only[Zm,Z9,JQ]at ha hb;rcases ha with rfl|rfl|rfl|rfl<;>rcases hb with rfl|rfl|rfl|rfl|rfl|rfl|rfl|rfl<;>first|k_is|kernel_rfl|rfl|(with_unfolding_all rfl)|decide +kernel +revert)
  case s_kv|s_exm=>(intro a ha;simp only[Zm,Z9,JQ]at ha;rcases ha with rfl|rfl|rfl|rfl<;>first|k_is|kernel_rfl|rfl|(with_unfolding_all rfl)|decide +kernel +revert)
  case DZ=>first|k_is|kernel_rfl|rfl|(with_unfolding_all rfl)|decide +kernel +revert
  case s_kd=>exact An08.jh (by k_is)
  case pg_aC|hd_aC|po_aC|sa_aC|mk_aC|kc_aC|s_n1|s_n2|s_n3=>k_is
  case s_kit=>(intro a ha b hb;simp only[An08.kinds,Zm,Z9,JQ]at ha hb;rcases ha with rfl|rfl|rfl|rfl|rfl|rfl|rfl<;>rcases hb with rfl|rfl|rfl|rfl|rfl|rfl|rfl<;>rfl)
