import PyProof.Rows.All
import Wide.All
import OpenK.AllK
import PySem.Challenge.RW_annals_k29_how_packed
set_option Elab.async false
set_option linter.all false
set_option compiler.extract_closed false
set_option genSizeOf false
set_option maxRecDepth 100000
set_option maxHeartbeats 4000000
local macro_rules(kind:=Lean.Parser.Tactic.tacticLet__)|s=>do
 let d:=s[2][0];let o x:=Lean.mkNullNode x;let n k a:=Lean.mkNode (`Lean.Parser.Tactic++k) a;let m x:=n `rcasesPatMed #[o #[x]];let a:=Lean.mkAtom;if d.getKind==`Lean.Parser.Term.letPatDecl then
  let p:=d[0].rewriteBottomUp λt=>match t.getKind with
   |`ident=>n `rcasesPat.one #[t]
   |`Lean.Parser.Term.hole=>n `rcasesPat.ignore #[t[0]]
   |`«term#[_,]»=>n `rcasesPat.tuple #[a "⟨",o<|t[1].getArgs.map λx=>if x.isAtom then x else n `rcasesPatLo #[m x,o #[]],a "⟩"]
   |_=>t
  return n `obtain #[a "obtain",o #[m p],o d[2][0].getArgs,o #[a ":=",o #[d[4]]]]
 else if d[0][0].getKind==`hygieneInfo then return n `refine #[a "refine",d[4]] else Lean.Macro.throwUnsupported
local macro_rules|`(#v[$xs,*])=>`(List.toArray [$xs,*])
local macro_rules(kind:=«term#[_,]»)|s=>return Lean.mkNode `Lean.Parser.Term.anonymousCtor #[Lean.mkAtom "⟨",s[1],Lean.mkAtom "⟩"]
local macro_rules|`(tactic|lk)=>`(tactic|decide+kernel)
local macro_rules|`(⋯)=>`(by lia)
local macro_rules|`(∅)=>`(by decide)
abbrev By:=List PySem.Str
abbrev Da:=List PySem.Value
abbrev Db:=Option PySem.Value
abbrev Dc:=List PySem.Addr
abbrev Dd:=List<|PySem.Addr×PySem.Obj
abbrev De:=List PySem.PyData
abbrev Df:=List<|PySem.Str×PySem.Str
abbrev Dg:=PySem.Shared->Prop
abbrev Co:=PySem.W.Frag
open List renaming length_map->Zj,mem_singleton->Zk,mem_map->Zo,mem_cons_of_mem->Zp,length_append->Zq,mem_cons_self->Zt,map_append->Zu,getElem?_eq_getElem->Zv,mem_cons->Zx,mem_of_getElem?->Zy,getElem?_map->Zz,getElem?_eq_some_iff->ZC,mem_append->ZD,size_toArray->ZF,length_cons->ZH,map_map->ZK,length_take->ZL,mem_append_right->ZM,all_eq_true->ZQ,map_cons->ZR,take_length->ZS,getElem?_append_left->ZT,getElem?_append_right->ZU,append_nil->ZW,mem_append_left->Z4,getElem?_eq_none->Z6,getElem_map->Ya,mem_iff_getElem->Yb,length_singleton->Yc,mem_of_mem_take->Yf,not_mem_nil->Yg,append_assoc->Yk,foldl_append->Yl,length_drop->Ym,getElem_mem->Ys,nodup_cons->Yu,drop_eq_getElem_cons->Yv,map_congr_left->Yw,getD_eq_getElem?_getD->Yy,any_eq_true->YB,mem_of_mem_drop->YD,mem_iff_getElem?->YF,length_filter_le->YG,take_add_one->YK,length_range->YL,length_nil->YN,nodup_nil->YO,filterMap_cons->YR,length_pos_iff->YS,filter_append->YX,nodup_append->Y5,eq_nil_of_length_eq_zero->Y6,take_append_drop->Y8,cons_ne_nil->Jc,sum_cons->Je,replicate_succ->Ji,mem_filter->Jj,find?_cons->Jl,getElem?_zip_eq_some->Jn,getElem_inj->Jq,mem_filterMap->Jr,filter_cons->Jt,nil_append->JC,range_succ->JE,take_of_length_le->JI,filter_eq_nil_iff->JJ,map_id->JK,nodup_iff_pairwise_ne->JM,getElem?_eq_none_iff->JN,pairwise_iff_getElem->JO,foldl_cons->JQ,map_take->JX,cons_append->J5,eq_nil_iff_forall_not_mem->J7,map_fst_zip->J9,getElem?_set_self->Va,drop_eq_nil_of_le->Vf,drop_of_length_le->Vi,length_replicate->Vk,getElem?_toArray->Vl,take_sublist->Vn,flatten_cons->Vo,getElem?_set_ne->Vr,not_lt->Vv,getElem?_range->Vz,of_mem_zip->VC,sum_append->VE,getElem?_replicate->VF,mem_range->VI,any_eq_false->VL,map_nil->VM,drop_zero->VN,flatMap_def->V0,mem_flatMap->V1,map_drop->V2,length_set->V4,dropLast_concat_getLast->V6,length_reverse->V9,pairwise_cons->Ue,reverse_cons->Uh,ext_getElem?->Uk,le_antisymm->Uv,length_zip->UA
open PySem renaming wpAny_bind->Zl,wpAny_pure->Zw,boot_len->ZV,wpAny_newObj_type->Yj,wpAny_call_entry->Yr,wpAny_mono->YH,wpAny_callSpecial?_slot->YI,wpAny_holding->YJ,wpAny_setField->YV,wpAny_of_eq->YW,sizeLine_eq->Y3,builtinLookup_eq_fast->Y7,isSubtype_type->Y9,wpAny_Call_Name_kw->Ja,wpAny_truthy_bool->Jg,mem_of_lookup->Jh,wpAny_field->Jx,call_meets->JB,codeAny_builtin->JD,codeAny_mono->JH,wpAny_passesOwn->JP,wpAny_specialOf->JR,typeLookup_type->JS,wpAny_setState_of->JU,wpAny_setEntries_of->J3,wpAny_isInstance->J6,wpAny_askSetting->J8,wpAny_typeOf->Vc,tupleKind_room_in1->Vd,wpAny_attempt->Vj,wpAny_pyIter_list->Vm,wpAny_rule->Vu,plainId_quiet->VA,wpAny_execs_nil->VB,wpAny_Call_method0_late->VG,typeIs_str->VX,evalArgs_none->V8,wpAny_tupleItemsOf->Ub,wpAny_fieldsOf->Ud,wpAny_pyIter_slot->Uj,signature?_of->Uo,wpAny_execs_cons->Ur,wpAny_forIn_list->Uu,wpAny_call->Uw,call_meetsIn->Uy
abbrev Zm:=@decide_eq_true
abbrev ZA:=@of_decide_eq_true
abbrev ZE:=@decide_eq_false
abbrev ZI:=@if_neg
abbrev ZJ:=@if_pos
abbrev ZY:=@decide_eq_true_iff
abbrev Z8:=@decide_eq_true_eq
abbrev Yz:=@decide_eq_false_iff_not
abbrev YM:=@of_decide_eq_false
abbrev Y2:=@beq_eq_false_iff_ne
abbrev Jo:=@or_false
abbrev JW:=@beq_iff_eq
abbrev Vs:=@if_false
abbrev Vx:=@decide_eq_decide
abbrev VP:=@iff_of_false
abbrev Ua:=@ne_true_of_eq_false
abbrev Uz:=@getElem?_pos
open Nat renaming le_refl->Zn,zero_le->ZP,ne_of_lt->ZZ,lt_of_lt_of_le->Z0,le_trans->Z2,le_of_lt->YC,lt_irrefl->YQ,succ_le_succ->Jd,le_succ->Jk,lt_or_ge->Jw,le_succ_of_le->JA,eq_zero_or_pos->JL,lt_succ_self->J4,le_of_eq->Vb,lt_of_le_of_lt->Ve,sub_self->Vh,lt_succ_of_lt->Vp,min_eq_left->VD,ne_of_gt->VH,lt_trichotomy->VO,min_le_right->VW,min_eq_right->Ut,lt_trans->Ux
open PySem.Heap renaming get?_push_of_some->Zr,get?_push_size->ZG,lt_size->ZN,get?_update_self->Yo,get?_update_other->Yx,size_push->Jy,get?_none_of_le->V3
open Bool renaming and_eq_true->ZB,false_ne_true->Z7,not_eq_true'->YU,eq_iff_iff->YY,false_eq_true->Jb,eq_false_iff->JT,or_eq_false_iff->JV,and_false->Vt,false_and->VJ,or_eq_true->V5,false_or->Ul,not_true->Um
open Option renaming map_eq_some_iff->ZO,map_some->YZ,isSome_iff_exists->Ju,getD_some->VY,isSome_map->Ui
open PyProof.Rows renaming boot_isinstance->ZX,boot_list->Yd,boot_tuple->Yp,boot_str->Yq,callWith_type1->YT,slot_tuple_getitem->Jm,boot_all->Jp,toString_length_le->J0,callWith_builtin1->VV,int_text_len_1921->VZ,listUpdate_at->Uq
open PySem.F renaming plainAttrs_list->Z1,slot_list_append->Yh,type_list_append->Yi,plainAttrs_str->Y0,slot_list_extend->JY,type_list_extend->JZ,slot_dict_get->VR,slot_str_join->VT,type_str_join->VU
open Int renaming emod_lt_of_pos->Z3,emod_nonneg->Z9,toNat_natCast->Y4,eq_ofNat_of_zero_le->Jz,toNat_of_nonneg->J2,natAbs_natCast->Uc
open Array renaming length_toList->Z5,getD_eq_getD_getElem?->Yn,getElem?_toList->YE,getElem?_eq_getElem->Y1,getElem?_eq_some_iff->Jf,getElem?_eq_none->Vg,getElem_toList->Vw
open PySem.W renaming mg_none_of->Ye,mg_of->Yt,kia_one->YA,callWith_K->Js,hideAll_get->JF,hideAll_none->Vq,methodCall_KW->VQ,plainGet_of->V7,kitx_list->Uf,kitx_dict->Ug
open PyProof.Rows.F renaming plain_set_update_loop->JG,entry_set_update_loop->Vy
open PySem.Value renaming isStrOf_shape->J1
open PySem.W.KIN renaming signs_num->VS
open LawfulBEq renaming eq_of_beq->Us
open PySem renaming Addr->D8,Value->D9,Program->Ea,Shared->Eb,FuncData->Ee,World->Ef,PyData->Eg,wpAny->Eh,model->Ej,mainGlobals->Ek,starEach->Eo,Heap->Es,Around->Ez,Expr->EE,Stmt->EF,compareOp->EH,rawInt->EI,sysModules->EO,eval->ER,Paired->E7,backTo->E9,cLine->Lc,SetTable->Li,bootBuiltins->Lv,attributeBase->Ly,firstArgMember->LG,Scope->LJ,NameKind->LK,ReadsAll->LL,letOwnedTupleGo->LM,codeAny->LN,pyNext->LO,keywordEach->LR,sliceBounds->LS,DictEntry->LU,pickOrder->LV,foldedSetIterable->LW,entryOfKey->L1,swapsWith->L4,scanBound->L5,binaryOp->L7,compEnvC->L8,holding->Mb,getItem->Md,getMethod->Mf,isSubtype->Mg,setField->Mh,assignEach->Mj
open Sum renaming inr->Ec
open PySem.PyData renaming strOk->Ei,canLayAll0->El,str->Ey,depthAll->EA,eqv->EG,eqvAll->EV,keyHash->LH
open PySem.Value renaming ref->Em,none->EB,type->EJ,isStrOf->E3,str->Me,bool->Mi
open PySem.PassesOwn renaming never->Ep
open Ne renaming symm->Er
open PySem.W renaming nsIn->Et,findIn->ED,keepIn->EK,emptyDict->ET,fnOf->EW,kitOne->E6,instObj->E8,plainGet->Lo,codeIn->Lp,makesIn->Lx,hasDictIn->Lz,plainOver->LX,excIn->L6,isFn->Mc
open List renaming range->Eu,replicate->Ev,toArray->Lb,lookup->Lu
open Or renaming inl->Ew
open False renaming elim->EC
open PySem.Str renaming ofString->EL,empty->LQ,join->Ml
open PySem.Heap.SameBut renaming update->EM
open PySem.Builtin.Tuple renaming tupleHashOf->EN,tupleItemsOf->LD
open PySem.Builtin.Str renaming occurrences->EQ,strSub->E1,partsBetween->Lj
open PySem.Obj renaming mapSeq->ES,mapFields->E2,putSet->Mm
open PySem.Builtin.List renaming listTooLong->EU,listExtendWith->LA
open PySem.Around renaming under_plainId->EX
open PySem.SetTable renaming below->EY,grown->Lr
open PySem.StrLaws renaming glued_eq_join->EZ,subAt_one->LZ
open PySem.Heap renaming SameBut->E4
open PySem.SeqAt renaming shaped->E5,eqBoolOverData->LF
open PySem.Calls renaming callWith_builtin->La,spliced_cons->LP
open True renaming intro->Ld
open Pure renaming pure->Le
open PySem.Builtin.Slice renaming slicePlaces->Lg,sliceAdjust->LI
open PySem.Txt renaming join->Lh,split->Lq
open PyProof.Rows renaming seqObj->Ll,AllBare->Ma
open PySem.Builtin.Range renaming rangeSize->Ln
open ToString renaming toString->LB
open PySem.F renaming slot_dict_items->LY
open Decidable renaming not_not->L0
open ForInStep renaming yield->L9
noncomputable section
namespace L2
open PySem
section
variable {M:Model}{A:Ez}{E:D9->Dg}{s:Eb}{base:Es}{q:Array D9->Prop}{env:Env}{outer:List Env}{L x:D8}
def BM (q:Array D9->Prop):Prop:=∀(b:Array D9) (v:D9),q b->q (b.setIfInBounds 1 v)
def OF (q:Array D9->Prop)(h base:Es)(x:D8)(c g:D9):Prop :=
 ∃b d T e f,h.get? x=some b/\(b.cls=c/\q d)/\b.data=.fields d/\d[1]?=some (.ref T)/\base.get? T=none/\T≠x/\h.get? T=some e/\e.data=.fields f/\f[3]?=some g
theorem R7 {h:Es}{y:D8}{d:Obj}{vs:Array D9}(e:h.get? y=some d)(hd:d.data=.fields vs):∀b o,h.get? b=some o->(∀ws,o.data≠.fields ws)->b≠y:=λb o c f z=>by
 subst z;rw[e]at c;cases c;let:=f vs hd
theorem Gy (G:BM q){n:Obj}{vs:Array D9}{c:D9}{nx:Bool}{Q:Unit->Dg}(D:A.frames=some (env::outer))(i:s.heap.FunFrames base (env::outer))(F:env.frame=some L)
  (l:s.heap.get? x=some n) (I:base.StaysIn s.heap) (t:base.get? x=none) (hd:n.data=.fields vs) (sz:1<vs.size) (H:q vs)
  (k:∀h',base.StaysIn h'->h'.FunFrames base (env::outer)->OF q h' base x n.cls (EI L)->s.heap.UpToSlots h'->Q () { s with heap:=h' }) :
  Eh M A (do let fo <-frameOf env;let pl <-entryPlaceOf L nx;let en <-EntryCells.newEntry c fo .none (EI L) .none pl;Mh (.ref x) 1 en) Q E s:=by
 have J:x∉(env::outer).filterMap (·.frame):=λz=>by
  let#[_,o,y,d]:=i.mem z;rw[l]at y;cases y;let:=d vs hd
 let:=Zl<|wpAny_frameOf_fun D i F λg j=>Zl<|wpAny_entryPlaceOf λpl f=>?_;unfold EntryCells.newEntry;unfold newFields;let:=Zl<|Yj ?_<|f.sizeOk5 _ _ _ _ _;have w:g.get? x=some n:=by rw[<-l];let:=j.2.1 x J
 have v:base.StaysIn g:=λb o e=>by
  rw[j.2.1 b λz=>by rw[(i.mem z).1]at e;cases e];let:=I b o e
 let#[row,r]:∃row:Obj,row={ cls:=.type "traceback",data:=.fields ([c,.ref L,.none,EI L,.none]++(if pl.isEmpty then Ev 6 EB else pl)).toArray }:=#[_,rfl];have B:=Zr row w;have h:=VH<|ZN w;rw[<-r];have keep:∀b o,b≠x->g.get? b=some o->((g.push row).update x (E2 (·.setIfInBounds 1 (Em g.objs.size)))).get? b=some o:=λb o nb e=>by
  rw[Yx _ _<|Er nb];let:=Zr _ e
 let:=YV B hd sz<|k _ ?_ ?_ ?_ ?_
 .intro b o e;let:=keep b o (λz=>by rw[z,t]at e;cases e)<|v b o e
 .let:=i.of_keeps λb o e d=>?_;let#[C,p]:=j.2.2 b o e;let:=#[_,keep b _ (R7 l hd b o e d) p,rfl]
 .have u:=Obj.data_mapFields hd (·.setIfInBounds 1 (Em g.objs.size));let:=#[_,_,g.objs.size,row,_,Yo _ B<|Obj.isFreed_of_fields u,#[Obj.cls_mapFields _ _,G _ _ H],u,by simp[sz],v.fresh,h,?_,by rw[r],?_]
  .rw[Yx _ _<|Er h];let:=ZG g (by rw[r];rfl)
  .rcases f with rfl|⟨_,_,_,_,_,_,_,rfl⟩<;>simp
 .intro b o e d;let#[C,p]:=j.2.2 b o e;let:=#[C,keep b _ (R7 l hd b o e d) p]
theorem K6 (i:BM q){c:Obj}{vs:Array D9}{Q:Unit->Dg}(h:A.frames=some (env::outer))(g:s.heap.FunFrames base (env::outer))(e:env.frame=some L)
  (f:s.heap.get? x=some c) (l:base.StaysIn s.heap) (b:base.get? x=none) (hd:c.data=.fields vs) (d:vs[1]?=some .none) (j:q vs)
  (k:∀h',base.StaysIn h'->h'.FunFrames base (env::outer)->OF q h' base x c.cls (EI L)->s.heap.UpToSlots h'->Q () { s with heap:=h' }):Eh M A (noteFrame (.ref x) env) Q E s:=by
 unfold noteFrame;simp only[e];let:=Zl<|Jx f hd d ?_;rw[ZI<|show¬(EB !=EB)=true by decide];let:=Gy i h g e f l b hd (Jf.mp d).1 j k
theorem Ng (w:BM q){c:D9}{Q:Unit->Dg}(u:A.frames=some (env::outer))(r:s.heap.FunFrames base (env::outer))(l:env.frame=some L)(t:OF q s.heap base x c .none)(C:base.StaysIn s.heap)(h:base.get? x=none)
  (k:∀h',base.StaysIn h'->h'.FunFrames base (env::outer)->OF q h' base x c (EI L)->s.heap.UpToSlots h'->Q () { s with heap:=h' }):Eh M A (noteFrame (.ref x) env) Q E s:=by
 let#[J,O,T,K,N,B,#[v,y],hd,i,D,p,g,dT,j]:=t;subst v;unfold noteFrame;simp only[l];let:=Zl<|Jx B hd i ?_;rw[ZJ<|show(Em T !=EB)=true by simp];let:=Zl<|Jx g dT j ?_;rw[ZI<|show¬(EB==EI L)=true by simp[EI]];have d:∀b,b≠T->(s.heap.update T (E2 (·.setIfInBounds 3 EB))).get? b=s.heap.get? b:=λb nb=>Yx _ _<|Er nb;have n:=R7 g dT;let:=Zl<|YV g dT (Jf.mp j).1 ?_;let:=Gy w u (r.of_keeps λb o e f=>#[o,by rw[d b<|n b o e f];let:=e,rfl]) l (by rwa[d x<|Er p]) (λb o e=>?_) h hd (Jf.mp i).1 y λh' F G H I=>k h' F G H λb o e f=>?_
 .rw[d b λz=>by rw[z,D]at e;cases e];let:=C b o e
 .let:=I b o (by rwa[d b<|n b o e f]) f
theorem jS {l:List Env}{Q:Unit->Dg}(B:base.StaysIn s.heap)(v:s.heap.FunFrames base l)(t:OF q s.heap base x c fl)
  (k:∀h',base.StaysIn h'->h'.FunFrames base l->OF q h' base x c .none->s.heap.UpToSlots h'->Q () { s with heap:=h' }):Eh M A (setFlight (.ref x) none) Q E s:=by
 let#[C,D,T,F,G,n,y,hd,j,p,i,g,dT,w]:=t;have u:=(Jf.mp w).1;have r:=R7 g dT;have d:∀b,b≠T->(s.heap.update T (E2 (·.setIfInBounds 3 ((none:Option D8).elim EB λf=>EI f)))).get? b=s.heap.get? b:=λb nb=>Yx _ _<|Er nb;unfold setFlight;let:=Zl<|Jx n hd j ?_;rw[ZJ<|show(Em T !=EB)=true by simp];let:=YV g dT u (k _ (λb o e=>?_) (v.of_keeps λb o e h=>#[o,by rw[d b<|r b o e h];let:=e,rfl]) ?_ λb o e h=>#[o.slots,by rw[d b<|r b o e h];let:=e])
 .rw[d b λz=>by rw[z,p]at e;cases e];let:=B b o e
 .let:=#[C,D,T,_,_,by rw[d x<|Er i];let:=n,y,hd,j,p,i,Yo _ g<|Obj.isFreed_of_fields<|Obj.data_mapFields dT _,Obj.data_mapFields dT _,?_];simp[u]
theorem Hn (i:BM q){c:Obj}{vs:Array D9}{Q:Unit->Dg}(f:A.frames=some (env::outer))(d:s.heap.FunFrames base (env::outer))(h:env.frame=some L)
  (l:s.heap.get? x=some c) (n:base.StaysIn s.heap) (b:base.get? x=none) (hd:c.data=.fields vs) (e:vs[1]?=some .none) (j:q vs)
  (k:∀h',base.StaysIn h'->h'.FunFrames base (env::outer)->OF q h' base x c.cls .none->s.heap.UpToSlots h'->Q () { s with heap:=h' }):Eh M A (leaving env<|.ref x) Q E s:=by
 unfold leaving;let:=Zl<|K6 i f d h l n b hd e j λg o p r t=>jS o p r λh' u v w y=>k h' u v w<|t.trans y
theorem KS (h:BM q){c:D9}{Q:Unit->Dg}(e:A.frames=some (env::outer))(d:s.heap.FunFrames base (env::outer))(f:env.frame=some L)(t:OF q s.heap base x c .none)(i:base.StaysIn s.heap)(b:base.get? x=none)
  (k:∀h',base.StaysIn h'->h'.FunFrames base (env::outer)->OF q h' base x c .none->s.heap.UpToSlots h'->Q () { s with heap:=h' }):Eh M A (leaving env<|.ref x) Q E s:=by
 unfold leaving;let:=Zl<|Ng h e d f t i b λg j l n o=>jS j l n λh' p r u v=>k h' p r u<|o.trans v
end
open PySem.Spec PyProof.Rows
abbrev Key:=Sum Int Str
def Bo:Key->D9->Bool
 | .inl k,v=>Value.isInt k v
 | .inr x,v=>E3 x v
def bg (w:Ef):Key->Int
 | .inl k=>hashInt k
 | .inr x=>hashStr w x
theorem yQ:∀{k:Key} {v:D9},Bo k v=true->(∃i t,k=Sum.inl i/\v=Value.int i t)\/(∃x t,k=Ec x/\v=Me x t)
 | .inl i,v,h=>by
  let#[t,e]:=Value.isInt_shape h;let:=.inl #[i,t,rfl,e]
 | .inr x,v,h=>by
  let#[t,e]:=J1 h;let:=.inr #[x,t,rfl,e]
theorem N2 (i:Int)(t:Tok):Bo (.inl i) (.int i t)=true:=by simp[Bo,Value.isInt]
theorem qN (x:Str)(t:Tok):Bo (.inr x) (.str x t)=true:=by simp[Bo,E3]
theorem Tu (a b:Int):decide ((Sum.inl a:Key)=Sum.inl b)=(a==b):=by
 by_cases e:a=b
 .subst e;simp
 .have h:¬(Sum.inl a:Key)=Sum.inl b:=λq=>e<|Sum.inl.inj q;rw[ZE h];let:=(Y2.mpr e).symm
theorem Ty (a b:Str):decide ((Ec a:Key)=Ec b)=decide (a=b):=by
 by_cases e:a=b
 .subst e;simp
 .have h:¬(Ec a:Key)=Ec b:=λq=>e<|Sum.inr.inj q;rw[ZE h,ZE e]
theorem Tv (a:Int)(b:Str):decide ((Sum.inl a:Key)=Ec b)=false:=ZE<|λq=>nomatch q
theorem Tw (a:Str)(b:Int):decide ((Ec a:Key)=Sum.inl b)=false:=ZE<|λq=>nomatch q
def yw (prog:Ea)(w:Ef):PySem.KeyKind prog w Key where
 is:=Bo
 hash:=bg w
 inj:=λv a b g f=>by
  rcases yQ g with⟨i,t,rfl,rfl⟩|⟨x,t,rfl,rfl⟩
  .rcases yQ f with⟨j,u,rfl,e⟩|⟨y,u,rfl,e⟩
   .injection e with c _;rw[c]
   .let:=nomatch e
  .rcases yQ f with⟨j,u,rfl,e⟩|⟨y,u,rfl,e⟩
   .let:=nomatch e
   .injection e with c _;rw[c]
 byValue:=λk v h=>by
  rcases yQ h with⟨i,t,rfl,rfl⟩|⟨x,t,rfl,rfl⟩<;>rfl
 pyHash:=λd h=>by
  rcases yQ d with⟨i,t,rfl,rfl⟩|⟨x,t,rfl,rfl⟩
  .let:=wpAny_pyHash_int h
  .let:=wpAny_pyHash_str h
 eqBool:=λl d h=>by
  rcases yQ l with⟨i,t,rfl,rfl⟩|⟨x,t,rfl,rfl⟩
  .rcases yQ d with⟨j,u,rfl,rfl⟩|⟨y,u,rfl,rfl⟩
   .rw[Tu]at h;let:=wpAny_eqBool_int h
   .rw[Tv]at h;let:=SeqAt.EqAt.int_str i t y u _ _ _ _ h
  .rcases yQ d with⟨j,u,rfl,rfl⟩|⟨y,u,rfl,rfl⟩
   .rw[Tw]at h;let:=SeqAt.EqAt.str_int x t j u _ _ _ _ h
   .rw[Ty]at h;let:=wpAny_eqBool_str h
 «strs»:=λk x t v h=>by
  rcases yQ h with⟨i,u,rfl,e⟩|⟨y,u,rfl,e⟩
  .let:=nomatch e
  .injection e with c _;subst c;cases v<;>rfl
theorem HB (prog:Ea)(w:Ef)(i:Int)(t:Tok):(yw prog w).is (.inl i) (.int i t)=true:=N2 i t
theorem HC (prog:Ea)(w:Ef)(x:Str)(t:Tok):(yw prog w).is (.inr x) (.str x t)=true:=qN x t
inductive V where
 |non|bl (b:Bool)|int (i:Int)|str (x:Str)|byt (b:Array UInt8)|flt (b:UInt64)|ref (a:D8)|ty (n:String)
 deriving DecidableEq
abbrev Dk:=List<|Key×V
abbrev Di:=List V
def yt:V->D9->Prop
 | .non,u=>u=EB
 | .bl b,u=>u=Mi b
 | .int i,u=>∃t,u=Value.int i t
 | .str x,u=>∃t,u=Me x t
 | .byt b,u=>∃t,u=Value.bytes b t
 | .flt b,u=>∃t,u=Value.float b t
 | .ref a,u=>u=Em a
 | .ty n,u=>u=EJ n
abbrev zb:Di->Da->Prop:=E7 yt
theorem zb.length (r:zb xs us):xs.length=us.length:=Paired.length r
theorem zb.get:∀{xs:Di} {us:Da} {i:Nat} {x:V},zb xs us->xs[i]?=some x->∃u,us[i]?=some u/\yt x u
 |_,_,_,_,.nil,e=>by simp at e
 |_,_,0,_,.cons r _,e=>by simp at e;subst e;let:=#[_,rfl,r]
 |_,_,i+1,x,.cons _ t,e=>by
  let#[u,b,c]:=zb.get t (by simpa using e);let:=#[u,by simpa using b,c]
theorem zb.set (r:yt x u):∀{xs:Di} {us:Da} (i:Nat),zb xs us->zb (xs.set i x) (us.set i u)
 |_,_,_,.nil=>.nil
 |_,_,0,.cons _ t=>.cons r t
 |_,_,i+1,.cons q t=>.cons q<|zb.set r i t
theorem zb.append:∀{xs ys:Di} {us ws:Da},zb xs us->zb ys ws->zb (xs++ys) (us++ws)
 |_,_,_,_,.nil,s=>s
 |_,_,_,_,.cons r t,s=>.cons r<|zb.append t s
theorem zb.take:∀{xs:Di} {us:Da} (n:Nat),zb xs us->zb (xs.take n) (us.take n)
 |_,_,0,_=>.nil
 |_,_,_+1,.nil=>.nil
 |_,_,n+1,.cons r t=>.cons r<|zb.take n t
theorem zb.drop:∀{xs:Di} {us:Da} (n:Nat),zb xs us->zb (xs.drop n) (us.drop n)
 |_,_,0,r=>r
 |_,_,_+1,.nil=>.nil
 |_,_,n+1,.cons _ t=>zb.drop n t
def tD:Option V->Db->Prop
 |some v,some u=>yt v u
 |none,none=>True
 |_,_=>False
def KV {κ:Type}:List (κ×V)->List (κ×D9)->Prop:=E7 λ(p:κ×V) (q:κ×D9)=>p.1=q.1/\yt p.2 q.2
def kV:Key->V
 | .inl i=>.int i
 | .inr x=>.str x
inductive HO where
 |lst (xs:Di)
 |tup (xs:Di)
 |dK (Dl:Dk)|dT (Dl:List<|List Key×V)
 |set (S:Int->Bool) (n:Nat)
 |ins (C dx:D8) (fs:List<|Str×V)
 |own (x:D8)
 |xd (fs:List<|Str×V)
 |met (f x:D8)
 |rng (lo hi:Int)
 |frz (o:Obj) (u:HO)
 |tbl (ps:Array D9)
 |ext (φ:Es->Prop)
abbrev Hp:=D8->Option HO
def upd (H:Hp)(a:D8)(o:HO):Hp:=λb=>if b=a then some o else H b
theorem zB:upd H a o a=some o:=by unfold upd;rw[ZJ rfl]
theorem zH {a b:D8}(h:b≠a):upd H a o b=H b:=by unfold upd;rw[ZI h]
theorem Xm:upd (upd H a o) a u=upd H a u:=by
 funext b;unfold upd;split<;>rfl
theorem WY {H:Hp}{a b:D8}{o u:HO}(h:H a=some o)(h':H b=some u)(d:o≠u):a≠b:=by
 intro e;subst e;rw[h]at h';let:=d<|Option.some.inj h'
theorem zL {H:Hp}{a b:D8}{o:HO}(h:H a=some o)(h':H b=none):a≠b:=by
 intro e;subst e;rw[h]at h';cases h'
def TupAt (h:Es)(a:D8)(items:Array D9):Prop:=∃o,h.get? a=some o/\o.cls=.type "tuple"/\∃n,o.data=.seq items n/\o.dict=none
theorem TupAt.is (t:TupAt h a items):IsTup h a items:=by
 let#[o,h1,h2,n,h3,_]:=t;let:=#[o,h1,h2,n,h3]
theorem TupAt.lt (t:TupAt h a items):a<h.objs.size:=t.is.lt
theorem TupAt.new (h:Es)(items:Array D9):TupAt (h.push { cls:=.type "tuple",data:=.seq items }) h.objs.size items:=#[_,ZG _ rfl,rfl,_,rfl,rfl]
section
variable (P:Ea)(w:Ef)
def yq (H:Hp)(h:Es)(a:D8):HO->Prop
 | .lst c=>c.length<=sizeLine/\∃(b:Da) (n:Nat),zb c b/\h.get? a=some { cls:=.type "list",data:=.seq b.toArray n }
 | .tup c=>c.length<=sizeLine/\∃b:Da,zb c b/\TupAt h a b.toArray
 | .dK Dl=>Dl.length<=sizeLine/\(a==EO)=false/\∃j,KV Dl j/\h.DictOf (yw P w) a j
 | .dT Dl=>Dl.length<=sizeLine/\(a==EO)=false/\∃c:List<|List Key×D8×D9,
   E7 (λ(p:List Key×V) (q:List Key×D8×D9)=>p.1=q.1/\H q.2.1=some (.tup<|p.1.map kV)/\yt p.2 q.2.2) Dl c /\
   ∃o e l,h.get? a=some o/\o.ExactDict/\o.data=.dict e l/\e.toList=c.map (L1<|tupleKind<|yw P w)/\(c.map (·.1)).Nodup
 | .set S n=>h.SetOf (intKind P w) a S n
 | .ins C dx fs=>H dx=some (.own a)/\fs.length<=1000/\dx≠a/\h.get? a=some (E8 C dx) /\
   ∃d,h.Ns1 dx d/\(∀f,tD (fs.lookup f)<|d f)/\PySem.Within d (fs.map (·.1))
 | .own _=>∃o,h.get? a=some o
 | .xd fs=>∃d,h.Ns1 a d/\∀f,tD (fs.lookup f)<|d f
 | .rng lo hi=>∃t u v,h.get? a=some { cls:=.type "range",data:=.fields #v[.int lo t,.int hi u,.int 1 v] }
 | .frz o u=>h.get? a=some o/\yq H h a u
 | .tbl ps=>h.get? a=some { cls:=.none,data:=.fields ps }
 | .met f x=>h.get? a=some (PySem.W.methodObj (.ref f)<|.ref x)
 | .ext φ=>φ h/\(∃o,h.get? a=some o)/\∀g i:Es,φ g->(∀o,g.get? a=some o->i.get? a=some o)->φ i
def sy (H:Hp)(h:Es):Prop:=∀a o,H a=some o->yq P w H h a o
end
section
variable {P:Ea}{w:Ef}{H H':Hp}{h h':Es}{a:D8}{o:HO}
theorem yq.lt (x:yq P w H h a o):a<h.objs.size:=by
 cases o with
 |lst xs=>let#[_,_,_,_,e]:=x;let:=ZN e
 |tup xs=>let#[_,_,_,p]:=x;let:=p.lt
 |dK Dl=>let#[_,_,_,_,o,_,_,e,_]:=x;let:=ZN e
 |dT Dl=>let#[_,_,_,_,o,_,_,e,_]:=x;let:=ZN e
 |set S n=>let#[o,_,_,_,e,_]:=x;let:=ZN e
 |ins C dx fs=>let#[_,_,_,e,_]:=x;let:=ZN e
 |own y=>let#[_,e]:=x;let:=ZN e
 |xd fs=>let#[_,#[_,_,_,e,_],_]:=x;let:=ZN e
 |rng lo hi=>let#[_,_,_,e]:=x;let:=ZN e
 |frz ob u=>let#[e,_]:=x;let:=ZN e
 |tbl ps=>let:=ZN<|show h.get? a=some _ from x
 |met f y=>let:=ZN<|show h.get? a=some _ from x
 |ext φ=>let#[_,#[_,e],_]:=x;let:=ZN e
theorem Paired.iw {c d:Type}{F G:c->d->Prop}:∀{l₁:List c} {l₂:List d},E7 F l₁ l₂->(∀a b,F a b->G a b)->E7 G l₁ l₂
 |_,_,.nil,_=>.nil
 |_,_,.cons r t,f=>.cons (f _ _ r)<|Paired.iw t f
theorem yq.stay (x:yq P w H h a o)(k:∀b u,(b=a\/H b=some (.own a))->h.get? b=some u->h'.get? b=some u)
  (D:∀b,H b=some (.own a)->H' b=some (.own a)) (E:∀b xs,H b=some (.tup xs)->H' b=some (.tup xs)):yq P w H' h' a o:=by
 induction o with
 |lst xs=>let#[z,l,n,r,e]:=x;let:=#[z,l,n,r,k _ _ (.inl rfl) e]
 |tup xs=>let#[z,l,r,g,e,c]:=x;let:=#[z,l,r,g,k _ _ (.inl rfl) e,c]
 |dK Dl=>let#[z,y,F,r,g,j,i,e,c]:=x;let:=#[z,y,F,r,g,j,i,k _ _ (.inl rfl) e,c]
 |dT Dl =>
  let#[z,y,xs,r,g,j,i,e,c]:=x;let:=#[z,y,xs,Paired.iw r λp q z=>#[z.1,E _ _ z.2.1,z.2.2],g,j,i,k _ _ (.inl rfl) e,c]
 |set S n=>let#[g,j,i,t,e,c]:=x;let:=#[g,j,i,t,k _ _ (.inl rfl) e,c]
 |ins C dx fs =>
  let#[d,z,ne,e,s,#[A,j,i,B,c],r]:=x;let:=#[D _ d,z,ne,k _ _ (.inl rfl) e,s,#[A,j,i,k _ _ (.inr d) B,c],r]
 |own y=>let#[g,e]:=x;let:=#[g,k _ _ (.inl rfl) e]
 |xd fs=>let#[s,#[A,j,i,e,c],r]:=x;let:=#[s,#[A,j,i,k _ _ (.inl rfl) e,c],r]
 |rng lo hi=>let#[t,u,v,e]:=x;let:=#[t,u,v,k _ _ (.inl rfl) e]
 |frz g u ih=>let#[e,q]:=x;let:=#[k _ _ (.inl rfl) e,ih q]
 |tbl ps =>
  have e:h.get? a=some { cls:=.none,data:=.fields ps }:=x;let:=k a _ (.inl rfl) e
 |met f y =>
  have e:=x;let:=k a _ (.inl rfl) e
 |ext φ=>let#[p,#[o,e],st]:=x;let:=#[st _ _ p λo q=>k _ _ (.inl rfl) q,#[o,k _ _ (.inl rfl) e],st]
theorem sy.lt (x:sy P w H h)(e:H a=some o):a<h.objs.size:=(x a o e).lt
theorem sy.fresh (x:sy P w H h)(e:h.objs.size<=a):H a=none:=by
 cases q:H a with
 |none=>rfl
 |some u=>let:=absurd (Z0 (x.lt q) e)<|YQ _
theorem sy.kept (x:sy P w H h)(k:∀b u,h.get? b=some u->h'.get? b=some u):sy P w H h':=λa o e =>
 (x a o e).stay (λb u _ q=>k b u q) (λ_ q=>q) λ_ _ q=>q
theorem sy.laid (x:sy P w H h)(k:∀b u,h.get? b=some u->h'.get? b=some u)(g:h.objs.size<=a)(new:yq P w (upd H a o) h' a o):sy P w (upd H a o) h':=λb u e=>by
 have f:=x.fresh g
 by_cases d:b=a
 .subst d;rw[zB]at e;cases e;let:=new
 .rw[zH d]at e;let:=(x b u e).stay (λc v _ q=>k c v q) (λc q=>by rwa[zH<|zL q f]) λc i q=>by rwa[zH<|zL q f]
end
def Rd (H:Hp)(a:D8)(u:HO):Prop:=H a=some u\/∃o,H a=some (.frz o u)
theorem Rd.ok (r:Rd H a u)(x:sy P w H h):yq P w H h a u:=by
 rcases r with r|⟨o,r⟩
 .let:=x a u r
 .let#[_,q]:=x a _ r;let:=q
def S8:Option HO->Prop
 |some (.lst _)=>True
 |some (.dK _)=>True
 |some (.dT _)=>True
 |some (.set _ _)=>True
 |some (.ins _ _ _)=>True
 |some (.ext _)=>True
 |_=>False
section
variable {P:Ea}{w:Ef}{H:Hp}{h h':Es}{x e:D8}{o':HO}
theorem sy.write (ok:sy P w H h)(l:S8<|H x)(p:e=x\/H e=some (.own x))(k:∀b u,b≠e->h.get? b=some u->h'.get? b=some u)(o:∃u,h'.get? e=some u)
  (new:yq P w (upd H x o') h' x o'):sy P w (upd H x o') h':=λb u q=>by
 have f:∀c y,H c=some (.own y)->c≠x:=λc y r z=>by subst z;rw[r]at l;let:=l
 have g:∀c n,H c=some (.tup n)->c≠x:=λc n r z=>by subst z;rw[r]at l;let:=l
 by_cases i:b=x
 .subst i;rw[zB]at q;cases q;let:=new
 .rw[zH i]at q
  by_cases d:b=e
  .have s:H b=some (.own x):=by
    rcases p with z|z
    .let:=absurd (d.trans z) i
    .rwa[d]
   rw[q]at s;cases s;let#[v,t]:=o;let:=#[v,by rw[d];let:=t]
  .let:=(ok b u q).stay (λc v j r=>k c v ?_ r) (λc r=>by rwa[zH<|f c b r]) λc n r=>by rwa[zH<|g c n r]
   rcases j with rfl|j
   .let:=d
   .rintro rfl
    rcases p with z|z
    .let:=f c b j z
    .rw[j]at z;cases z;let:=i rfl
end
structure Un (fs ex:Dc)(H H':Hp)(h h':Es):Prop where
 keep:∀b o,h.get? b=some o->H b=none->b∉fs->b∉ex->h'.get? b=some o
 slot:∀b o,h.get? b=some o->H b=none->b∈fs->b∉ex->∃sl,h'.get? b=some { o with slots:=sl }
 free:∀b o,h.get? b=some o->H b=none->b∉ex->H' b=none
 there:∀b o,h.get? b=some o->b∉ex->∃o',h'.get? b=some o'
 tups:∀b xs,H b=some (.tup xs)->H' b=some (.tup xs)
 sX:∀b o u,H b=some (.frz o u)->H' b=some (.frz o u)
 rQ:∀b ps,H b=some (.tbl ps)->∃more,H' b=some (.tbl<|ps++more)
section
variable {fs fs' ex ex':Dc}{H H1 H2:Hp}{h h1 h2 h':Es}{a x e:D8}{o:HO}
theorem Un.any (u:Un fs ex H H1 h h1){b:D8}{c:Obj}(q:h.get? b=some c)(n:H b=none)(e:b∉ex):∃sl,h1.get? b=some { c with slots:=sl }:=by
 by_cases d:b∈fs
 .let:=u.slot b c q n d e
 .let:=#[c.slots,u.keep b c q n d e]
theorem Un.kept (k:∀b u,h.get? b=some u->h'.get? b=some u):Un fs ex H H h h' :=
 #[λb c q _ _ _=>k b c q,λb c q _ _ _=>#[c.slots,k b c q],λ_ _ _ n _=>n,λb c q _=>#[c,k b c q],λ_ _ q=>q,λ_ _ _ q=>q,λ_ d q=>#[#v[],by rw[q];simp]]
theorem Un.refl:Un fs ex H H h h:=Un.kept λ_ _ q=>q
theorem Un.laid (k:∀b u,h.get? b=some u->h'.get? b=some u)(d:h.objs.size<=a)(c:H a=none):Un fs ex H (upd H a o) h h' where
 keep:=λb u q _ _ _=>k b u q
 slot:=λb u q _ _ _=>#[u.slots,k b u q]
 free:=λb u q n _=>by rwa[zH<|ZZ<|Z0 (ZN q) d]
 there:=λb u q _=>#[u,k b u q]
 tups:=λb e q=>by rwa[zH<|zL q c]
 sX:=λb u e q=>by rwa[zH<|zL q c]
 rQ:=λb f q=>#[#v[],by rw[zH<|zL q c,q];simp]
theorem Un.write (d:S8<|H x)(l:e=x\/H e=some (.own x))(k:∀b u,b≠e->h.get? b=some u->h'.get? b=some u)(f:∃u,h'.get? e=some u):Un fs ex H (upd H x o) h h':=by
 have j:∀b,H b=none->b≠x:=λb n z=>by subst z;rw[n]at d;let:=d
 have i:∀b,H b=none->b≠e:=λb n z=>by
  subst z
  rcases l with r|r
  .let:=j b n r
  .rw[n]at r;cases r
 have g:∀b u,H b=some u->¬S8 (some u)->b≠x:=λb u q nm z=>by subst z;rw[q]at d;let:=nm d
 let:=#[λb u q n _ _=>k b u (i b n) q,λb u q n _ _=>#[u.slots,k b u (i b n) q],λb u q n _=>by rw[zH<|j b n];let:=n,λb u q _=>?_,
  λb p q=>by rw[zH<|g b _ q λz=>z];let:=q,λb u p q=>by rw[zH<|g b _ q λz=>z];let:=q,λb s q=>#[#v[],by rw[zH<|g b _ q λz=>z,q];simp]]
 by_cases c:b=e
 .subst c;let:=f
 .let:=#[u,k b u c q]
end
def aK (h:Es)(H:Hp):Dc:=(Eu h.objs.size).filter λa=>(H a).isSome
def Hd (h:Es)(H:Hp):Heap:=PySem.W.hideAll h<|aK h H
theorem NY (h:Es)(H:Hp):(Hd h H).objs.size=h.objs.size:=PySem.W.hideAll_size _ _
theorem OZ {h:Es}{H:Hp}{b:D8}{o:Obj}(e:h.get? b=some o)(n:H b=none):(Hd h H).get? b=some o :=
 JF _ e λc=>by
  have q:=(Jj.mp c).2;rw[n]at q;simp at q
theorem R8 {b:D8}{o:Obj}(e:(Hd h H).get? b=some o):h.get? b=some o/\H b=none:=by
 have c:h.get? b=some o:=PySem.W.of_hideAll (aK h H) e;let:=#[c,?_];cases q:H b with
 |none=>rfl
 |some x =>
  have d:b∈aK h H:=Jj.mpr #[VI.mpr<|ZN c,by simp[q]];have z:(Hd h H).get? b=none:=Vq (aK h H) d;rw[z]at e;cases e
structure Mod (K:Co)(mg:Str->Db)(base:Es):Prop where
 iV:K.In base
 glob:base.Ns Ek mg
 blt:∃mb,base.Ns builtinsNs mb/\∀x:Str,x≠"__name__"->mb x=Lv x
 nolimit:base.NoLimit
structure Cx where
 prog:Ea
 w:Ef
 K:Co
 mg:Str->Db
 base:Es
 A:Ez
 N:By
 s₀:Eb
 H₀:Hp
 env:Env
 outer:List Env
 stack:List Env
 ex:Dc
 fn:Str->Bool
 calm:Bool
 pn:Dd
 xe:D9->Dg
def frs (l:List Env):Dc:=l.filterMap (·.frame)
abbrev Cx.fs (X:Cx):Dc:=frs X.outer
def aI (sc:LJ)(x:Str):Prop:=sc.names.lookup x=some .local\/sc.names.lookup x=some .cell\/sc.names.lookup x=some .free
def Loc (sc:LJ)(x:Str):Prop:=sc.names.lookup x=some .local\/sc.names.lookup x=some .cell
def Look (env:Env)(h:Es)(m:Str->Db)(x:Str)(u:D9):Prop :=
 (env.kindOf x=some .local/\m x=some u)\/((env.kindOf x=some .cell\/env.kindOf x=some .free)/\∃c,env.cells.lookup x=some c/\h.IsCell c (some u))
structure Cx.Ok (X:Cx):Prop where
 mod:Mod X.K X.mg X.base
 kind:X.env.scope.kind=.function
 glob:X.env.globals=Ek
 blt:X.env.builtins=builtinsNs
 above:X.s₀.heap.objs.size<=X.env.locals
 inj:∀x y c,X.env.cells.lookup x=some c->X.env.cells.lookup y=some c->x=y
 has:∀x,(X.env.kindOf x=some .cell\/X.env.kindOf x=some .free)->∃c,X.env.cells.lookup x=some c
 cab:∀x c,X.fn x=true->X.env.cells.lookup x=some c->X.s₀.heap.objs.size<=c
 hd:X.calm=true->X.A.handled=none
 frames:X.A.frames=some X.stack
 stk:X.stack=X.outer\/(X.stack=X.env::X.outer/\X.env.frame=some X.env.locals)
 gQ:∀b∈X.ex,b≠X.env.locals/\∀x c,X.env.cells.lookup x=some c->c≠b
 bs:∀b o,X.base.get? b=some o->X.s₀.heap.get? b=some o/\X.H₀ b=none
 ju:X.base.objs.size<=X.s₀.heap.objs.size
 nj:∀b o,X.base.get? b=some o->b∉X.ex
 nM:∀b∈X.ex,b∉X.fs
 rY:X.s₀.heap.FunFrames X.base X.outer
 iW:∀b∈X.fs,X.H₀ b=none
structure Inv (X:Cx)(Dn:Dd)(σ:List<|Option V)(H:Hp)(s:Eb):Prop where
 ok:X.Ok
 os:s.os=X.s₀.os
 bare:Ma s.gens
 base:Un X.fs X.ex X.H₀ H X.s₀.heap s.heap
 loc:∃m,s.heap.Ns X.env.locals m/\∀(i:Nat) (x:Str) (v:V),X.N[i]?=some x->σ[i]?=some (some v)->aI X.env.scope x->∃u,yt v u/\Look X.env s.heap m x u
 cell:∀x c,X.env.cells.lookup x=some c->∃v,s.heap.IsCell c v
 free:H X.env.locals=none
 wj:∀x c,X.env.cells.lookup x=some c->H c=none
 pin:∀p∈X.pn++Dn,s.heap.get? p.1=some p.2/\H p.1=none/\p.1≠X.env.locals/\p.1∉X.fs/\∀v,p.2.data≠.cell v
 hok:sy X.prog X.w H s.heap
 len:σ.length=X.N.length
section
variable {X:Cx}{Dn:Dd}{σ:List (Option V)}{H H':Hp}{s:Eb}{h':Es}
theorem Cx.Ok.fP (ok:X.Ok){b:D8}{o:Obj}(e:X.base.get? b=some o):b∉X.fs:=λc=>by
 have:=(ok.rY.mem c).1;rw[e]at this;cases this
theorem Inv.bs (I:Inv X Dn σ H s):∀b o,X.base.get? b=some o->s.heap.get? b=some o/\H b=none:=λb o e =>
 #[I.base.keep b o (I.ok.bs b o e).1 (I.ok.bs b o e).2 (I.ok.fP e)<|I.ok.nj b o e,I.base.free b o (I.ok.bs b o e).1 (I.ok.bs b o e).2<|I.ok.nj b o e]
theorem Inv.bk (I:Inv X Dn σ H s):∀b o,X.base.get? b=some o->s.heap.get? b=some o:=λb o e=>(I.bs b o e).1
theorem Inv.mod (I:Inv X Dn σ H s):Mod X.K X.mg X.base:=I.ok.mod
theorem Inv.sZ (I:Inv X Dn σ H s):X.K.In s.heap:=I.ok.mod.iV.keeps I.bk
theorem Inv.lt (I:Inv X Dn σ H s):X.env.locals<s.heap.objs.size:=let #[_,hn,_]:=I.loc;hn.lt
theorem Inv.sz (I:Inv X Dn σ H s):X.s₀.heap.objs.size<=s.heap.objs.size:=Z2 I.ok.above<|YC I.lt
theorem Inv.fU (I:Inv X Dn σ H s){a:D8}(h:s.heap.objs.size<=a):a∉X.fs:=λb=>by
 let#[_,o,c,_]:=I.ok.rY.mem b;let:=absurd (Z0 (ZN c)<|Z2 I.sz h)<|YQ _
theorem Inv.g8 (I:Inv X Dn σ H s):∀x c,X.env.cells.lookup x=some c->c≠X.env.locals:=λx c e z=>by
 let#[v,o,f,hd]:=I.cell x c e;let#[m,#[i,h,g,d,b,_],_]:=I.loc;rw[z,d]at f;cases f;rw[b]at hd;cases hd
theorem Inv.rY (I:Inv X Dn σ H s):s.heap.FunFrames X.base X.outer:=by
 have all:∀(l:List Env),(∀b∈frs l,b∈X.fs)->X.s₀.heap.FunFrames X.base l->s.heap.FunFrames X.base l:=by
  intro l
  induction l with
  |nil=>intro _ _;trivial
  |cons env r ih =>
   intro g hl;let#[h,#[L,o,f,i,j,hd],n]:=hl;have c:=g L (by unfold frs;rw[YR,f];let:=Zt);let#[p,e]:=I.base.slot L o j (I.ok.iW L c) c λz=>I.ok.nM L z c;let:=#[h,#[L,_,f,i,e,hd],ih (λb d=>g b (by unfold frs;rw[YR,f];let:=Zp _ d)) n]
 let:=all X.outer (λ_ d=>d) I.ok.rY
theorem Inv.stack (I:Inv X Dn σ H s):s.heap.FunFrames X.base X.stack:=by
 rcases I.ok.stk with e|⟨e,b⟩
 .rw[e];let:=I.rY
 .rw[e];let#[m,c,_]:=I.loc;let:=.cons (by rw[I.ok.kind];decide) b c ?_ I.rY;let:=V3<|Z2 I.ok.ju I.ok.above
theorem Inv.p7 (I:Inv X Dn σ H s):∀b∈frs X.stack,b∈X.env.locals::X.fs:=λb c=>by
 rcases I.ok.stk with e|⟨e,d⟩
 .rw[e]at c;let:=Zp _ c
 .rw[e]at c;unfold frs at c;rw[YR,d]at c;let:=c
theorem Inv.qu (I:Inv X Dn σ H s):∀b∈frs X.stack,H b=none:=λb c=>by
 rcases Zx.mp (I.p7 b c) with e|c
 .rw[e];let:=I.free
 .let#[_,o,d,_]:=I.ok.rY.mem c;let:=I.base.free b o d (I.ok.iW b c) λz=>I.ok.nM b z c
theorem Inv.step {g':Array GenState}{t':Nat}{d':Drawn}{ch:Dc}(I:Inv X Dn σ H s)
  (h:∀b∈ch,(b∈X.ex\/X.s₀.heap.objs.size<=b)/\b≠X.env.locals/\(∀x c,X.env.cells.lookup x=some c->c≠b)/\∀p∈X.pn++Dn,p.1≠b)
  (keep:∀b o,b≠X.env.locals->b∉X.fs->b∉ch->s.heap.get? b=some o->H b=none->h'.get? b=some o)
  (slot:∀b o,b≠X.env.locals->b∈X.fs->b∉ch->s.heap.get? b=some o->H b=none->∃sl,h'.get? b=some { o with slots:=sl }) (free:∀b o,b∉ch->s.heap.get? b=some o->H b=none->H' b=none)
  (there:∀b o,b∉ch->s.heap.get? b=some o->∃o',h'.get? b=some o')
  (tups:∀b xs,H b=some (.tup xs)->H' b=some (.tup xs)) (sX:∀b o u,H b=some (.frz o u)->H' b=some (.frz o u)) (rQ:∀b ps,H b=some (.tbl ps)->∃more,H' b=some (.tbl<|ps++more))
  (ns:∀m,s.heap.Ns X.env.locals m->h'.Ns X.env.locals m) (hok:sy X.prog X.w H' h') (L:Ma g') :
  Inv X Dn σ H' { s with heap:=h',gens:=g',drawn:=d',toks:=t' }:=by
 have D:∀b o,X.s₀.heap.get? b=some o->b≠X.env.locals:=λb o e=>ZZ<|Z0 (ZN e) I.ok.above;have y:∀b o,X.s₀.heap.get? b=some o->b∉X.ex->b∉ch:=λb o e f A=>by
  rcases(h b A).1 with z|z
  .let:=f z
  .let:=absurd (Z0 (ZN e) z) (YQ _)
 have g:∀x c,X.env.cells.lookup x=some c->∀v,s.heap.IsCell c v->h'.IsCell c v:=λx c e v ⟨o,B,hd⟩=>by
  have j:=λz=>(h c z).2.2.1 x c e rfl
  by_cases F:c∈X.fs
  .let#[sl,q]:=slot c o (I.g8 x c e) F j B<|I.wj x c e;let:=#[_,q,hd]
  .let:=#[o,keep c o (I.g8 x c e) F j B<|I.wj x c e,hd]
 let:=#[I.ok,I.os,L,#[λb o e n A f=>?_,λb o e n A f=>?_,λb o e n f=>?_,λb o e f=>?_,λb xs e=>tups b xs<|I.base.tups b xs e,λb o xs e=>sX b o xs<|I.base.sX b o xs e,λb ps e=>?_],?_,λx c e=>?_,?_,λx c e=>?_,λp G=>?_,hok,I.len]
 .let:=keep b o (D b o e) A (y b o e f) (I.base.keep b o e n A f) (I.base.free b o e n f)
 .let#[sl,t]:=I.base.slot b o e n A f;let#[E,C]:=slot b _ (D b o e) A (y b o e f) t<|I.base.free b o e n f;let:=#[E,C]
 .let#[o',t]:=I.base.there b o e f;let:=free b o' (y b o e f) t<|I.base.free b o e n f
 .let#[o',t]:=I.base.there b o e f;let:=there b o' (y b o e f) t
 .let#[m1,t]:=I.base.rQ b ps e;let#[m2,C]:=rQ b _ t;let:=#[m1++m2,by rw[C,Array.append_assoc]]
 .let#[m,M,hl]:=I.loc;let:=#[m,ns m M,λi x v t C K=>?_];let#[u,r,l]:=hl i x v t C K;let:=#[u,r,?_]
  rcases l with l|⟨k,c,e,z⟩
  .let:=.inl l
  .let:=.inr #[k,c,e,g x c e _ z]
 .let#[v,z]:=I.cell x c e;let:=#[v,g x c e v z]
 .let#[m,#[o,_,_,B,_],_]:=I.loc;let:=free _ o (λz=>(h _ z).2.1 rfl) B I.free
 .let#[v,o,B,hd]:=I.cell x c e;let:=free c o (λz=>(h c z).2.2.1 x c e rfl) B (I.wj x c e)
 .let#[e,n,ne,J,d]:=I.pin p G;have j:=λz=>(h p.1 z).2.2.2 p G rfl;let:=#[keep p.1 p.2 ne J j e n,free p.1 p.2 j e n,ne,J,d]
theorem Inv.un {t':Nat}(I:Inv X Dn σ H s)(u:Un X.fs [] H H' s.heap h')(hok:sy X.prog X.w H' h'):Inv X Dn σ H' { s with heap:=h',toks:=t' }:=by
 let#[m,#[o,q,p,h,r],_]:=id I.loc;let#[y,i]:=u.any h I.free (by simp);let:=I.step (g':=s.gens) (d':=s.drawn) (ch:=[]) (λ_ z=>nomatch z) (λb o _ g _ e n=>u.keep b o e n g<|by simp) (λb o _ g _ e n=>u.slot b o e n g<|by simp) (λb o _ e n=>u.free b o e n<|by simp) (λb o _ e=>u.there b o e<|by simp) u.tups u.sX u.rQ (λt j=>by
  let#[v,f,d,c,l]:=j;rw[h]at c;cases c;let:=#[_,f,d,i,l]) hok I.bare
theorem Inv.call {g':Array GenState}{t':Nat}{d':Drawn}(I:Inv X Dn σ H s)(u:Un (frs X.stack) ch H H' s.heap h')(hok:sy X.prog X.w H' h')(t:Ma g')
  (f:∀b∈ch,(b∈X.ex\/X.s₀.heap.objs.size<=b)/\b≠X.env.locals/\(∀x c,X.env.cells.lookup x=some c->c≠b)/\∀p∈X.pn++Dn,p.1≠b) :
  Inv X Dn σ H' { s with heap:=h',gens:=g',drawn:=d',toks:=t' }:=by
 let#[m,#[o,B,A,l,r],_]:=id I.loc;let#[E,j]:=u.any l I.free λz=>(f _ z).2.1 rfl;let:=I.step f (λb o j q d e n=>u.keep b o e n (λz=>(Zx.mp<|I.p7 b z).elim j q) d) (λb o _ _ d e n=>u.any e n d) (λb o d e n=>u.free b o e n d) (λb o d e=>u.there b o e d) u.tups u.sX u.rQ (λC v=>by
  let#[D,i,h,g,y]:=v;rw[l]at g;cases g;let:=#[_,i,h,j,y]) hok t
theorem Inv.turned {t':Nat}{d:D8}(I:Inv X Dn σ H s)(k:∀b o,b≠d->s.heap.get? b=some o->h'.get? b=some o)(B:H d=none)(h:d≠X.env.locals)
  (l:d∈X.ex\/X.s₀.heap.objs.size<=d) (t:∀x c,X.env.cells.lookup x=some c->c≠d) (w:∀p∈X.pn++Dn,p.1≠d):Inv X Dn σ H { s with heap:=h',toks:=t' }:=by
 have g:∀b u,H b=some u->b≠d:=λb u e z=>by rw[z,B]at e;cases e
 let:=I.step (g':=s.gens) (d':=s.drawn) (ch:=[d]) (λb y=>?_) (λb o _ _ f e _=>k b o (λz=>f<|by simp[z]) e) (λb o _ _ f e _=>#[o.slots,k b o (λz=>f<|by simp[z]) e]) (λ_ _ _ _ n=>n)
  (λb o f e=>#[o,k b o (λz=>f<|by simp[z]) e]) (λ_ _ e=>e) (λ_ _ _ e=>e) (λb D e=>#[#v[],by rw[e];simp]) (λm A=>?_) (λb u e=>?_) I.bare
 .have e:b=d:=by simpa using y
  subst e;let:=#[l,h,t,w]
 .let#[o,j,i,C,r]:=A;let:=#[o,j,i,k _ o (Er h) C,r]
 .let:=(I.hok b u e).stay (λc v f q=>k c v ?_ q) (λ_ q=>q) λ_ _ q=>q
  rcases f with z|z
  .rw[z];let:=g b u e
  .let:=g c _ z
theorem Inv.tok (I:Inv X Dn σ H s)(t:Nat):Inv X Dn σ H { s with toks:=t }:=I.un (h':=s.heap) (t':=t) Un.refl I.hok
theorem Inv.kept {t':Nat}(I:Inv X Dn σ H s)(k:∀b u,s.heap.get? b=some u->h'.get? b=some u):Inv X Dn σ H { s with heap:=h',toks:=t' }:=I.un (Un.kept k)<|I.hok.kept k
theorem Inv.laid {a:D8}{t':Nat}(I:Inv X Dn σ H s)(k:∀b u,s.heap.get? b=some u->h'.get? b=some u)(c:s.heap.objs.size<=a)(new:yq X.prog X.w (upd H a o) h' a o) :
  Inv X Dn σ (upd H a o) { s with heap:=h',toks:=t' }:=I.un (Un.laid k c<|I.hok.fresh c)<|I.hok.laid k c new
theorem Inv.write {x e:D8}{o:HO}{t':Nat}(I:Inv X Dn σ H s)(f:S8<|H x)(d:e=x\/H e=some (.own x))(k:∀b u,b≠e->s.heap.get? b=some u->h'.get? b=some u)(c:∃u,h'.get? e=some u)
  (new:yq X.prog X.w (upd H x o) h' x o):Inv X Dn σ (upd H x o) { s with heap:=h',toks:=t' }:=I.un (Un.write f d k c)<|I.hok.write f d k c new
theorem Inv.tO {b:Dd}(I:Inv X Dn σ H s)(h:∀p∈b,s.heap.get? p.1=some p.2/\H p.1=none/\p.1≠X.env.locals/\p.1∉X.fs/\∀v,p.2.data≠.cell v):Inv X b σ H s :=
 #[I.ok,I.os,I.bare,I.base,I.loc,I.cell,I.free,I.wj,λp c=>(ZD.mp c).elim (λz=>I.pin p<|Z4 _ z) (h p),I.hok,I.len]
theorem HG {N:By}(e:N.Nodup){i j:Nat}{x:Str}(a:N[i]?=some x)(b:N[j]?=some x):i=j:=by
 let#[f,c]:=ZC.mp a;let#[g,d]:=ZC.mp b;let:=(Jq e).mp (c.trans d.symm)
theorem BD {M:Model}{A:Ez}{E:D9->Dg}{i:Nat}{x:Str}{Q:Unit->Dg}(I:Inv X Dn σ H s)(hN:X.N.Nodup)(S:X.N[i]?=some x)(B:Loc X.env.scope x)(r:yt v u)
  (h:∀s',Inv X Dn (σ.set i (some v)) H s'->(∃a,E4 a s.heap s'.heap/\(a=X.env.locals\/X.env.cells.lookup x=some a))->Q () s') (hf:X.fn x=true\/X.env.scope.names.lookup x=some .local:=by first|let:=.inl rfl|let:=.inr rfl|assumption):Eh M A (storeName X.env x u) Q E s:=by
 let#[m,hn,hl]:=id I.loc;have R:(X.env.scope.kind==.class||(X.env.scope.kind==.module&&X.env.locals !=X.env.globals))=false:=by rw[I.ok.kind];rfl
 have F:i<σ.length:=by rw[I.len];let:=(ZC.mp S).1
 have g8:=I.g8;have l:∀{a:D8} {h':Es},(∃o,s.heap.get? a=some o/\H a=none)->E4 a s.heap h'->sy X.prog X.w H h':=λ{a h'} ha f b ob e=>by
  let#[_,_,C]:=ha;let:=(I.hok b ob e).stay (λc Y t q=>(f.2 c ?_).trans q) (λ_ q=>q) λ_ _ q=>q;rintro rfl
  rcases t with rfl|t
  .rw[C]at e;cases e
  .rw[C]at t;cases t
 rcases B with G|G
 .let:=wpAny_storeName_local G hn (λh' aa f=>?_) R;let#[oL,_,_,ab,_]:=id hn;let:=h _ #[I.ok,I.os,I.bare,#[λb o e n J B=>?_,λb o e n J B=>?_,I.base.free,λb o e B=>?_,I.base.tups,I.base.sX,I.base.rQ],#[_,aa,λj y v' g D Z=>?_],λy c e=>?_,I.free,I.wj,λp hp=>?_,l #[oL,ab,I.free] f,by simpa using I.len] #[_,f,.inl rfl]
  .let:=(f.2 b<|ZZ<|Z0 (ZN e) I.ok.above).trans (I.base.keep b o e n J B)
  .let#[sl,g]:=I.base.slot b o e n J B;let:=#[sl,(f.2 b<|ZZ<|Z0 (ZN e) I.ok.above).trans g]
  .let#[o',g]:=I.base.there b o e B;let:=#[o',(f.2 b<|ZZ<|Z0 (ZN e) I.ok.above).trans g]
  .by_cases L:j=i
   .subst L;rw[S]at g;cases g;rw[Va F]at D;cases D;let:=#[u,r,.inl #[G,by simp]]
   .rw[Vr<|Er L]at D;let#[u',r',q]:=hl j y v' g D Z;let:=#[u',r',?_]
    rcases q with⟨k,e⟩|⟨k,c,e,z⟩
    .let:=.inl #[k,?_];have:y≠x:=λe=>L<|HG hN g<|e▸S;simp[this,e]
    .let:=.inr #[k,c,e,z.sameBut f<|g8 y c e]
  .let#[Y,z]:=I.cell y c e;let:=#[Y,z.sameBut f<|g8 y c e]
  .let#[e,n,ne,nf,d]:=I.pin p hp;let:=#[(f.2 p.1 ne).trans e,n,ne,nf,d]
 .have K:X.fn x=true:=by
   rcases hf with z|z
   .let:=z
   .rw[z]at G;cases G
  let#[c,t]:=I.ok.has x<|.inl G;let#[Y,z]:=I.cell x c t;let:=wpAny_storeName_cell I.ok.kind G t z<|λh' O f=>?_;let#[oc,T,ai]:=id z;let:=h { s with heap:=h' } #[I.ok,I.os,I.bare,#[λb o e n J B=>?_,λb o e n J B=>?_,I.base.free,λb o e B=>?_,I.base.tups,I.base.sX,I.base.rQ],#[m,hn.sameBut f<|Er<|g8 x c t,λj y v' g D Z=>?_],λy U e=>?_,I.free,I.wj,λp hp=>?_,l #[oc,T,I.wj x c t] f,by simpa using I.len] #[c,f,.inr t]
  .let:=(f.2 b<|ZZ<|Z0 (ZN e)<|I.ok.cab x c K t).trans (I.base.keep b o e n J B)
  .let#[sl,g]:=I.base.slot b o e n J B;let:=#[sl,(f.2 b<|ZZ<|Z0 (ZN e)<|I.ok.cab x c K t).trans g]
  .let#[o',g]:=I.base.there b o e B;let:=#[o',(f.2 b<|ZZ<|Z0 (ZN e)<|I.ok.cab x c K t).trans g]
  .by_cases L:j=i
   .subst L;rw[S]at g;cases g;rw[Va F]at D;cases D;let:=#[u,r,.inr #[.inl G,c,t,O]]
   .rw[Vr<|Er L]at D;let#[u',r',q]:=hl j y v' g D Z;let:=#[u',r',?_]
    rcases q with q|⟨k,U,e,z'⟩
    .let:=.inl q
    .let:=.inr #[k,U,e,z'.sameBut f ?_];rintro rfl;let:=L<|HG hN g<|I.ok.inj _ _ _ e t▸S
  .by_cases P:U=c
   .subst P;let:=#[_,O]
   .let#[w2,z2]:=I.cell y U e;let:=#[w2,z2.sameBut f P]
  .let#[e,n,ne,nf,d]:=I.pin p hp;let:=#[(f.2 p.1 ?_).trans e,n,ne,nf,d];intro q;rw[q,T]at e;have q':oc=p.2:=Option.some.inj e;let:=d Y (by rwa[<-q'])
theorem Ge {M:Model}{A:Ez}{E:D9->Dg}{i:Nat}{x:Str}{Q:Unit->Dg}(I:Inv X Dn σ H s)(c:X.N.Nodup)(e:X.N[i]?=some x)(f:Loc X.env.scope x)(r:yt v u)
  (h:∀s',Inv X Dn (σ.set i (some v)) H s'->Q () s') (d:X.fn x=true\/X.env.scope.names.lookup x=some .local:=by first|let:=.inl rfl|let:=.inr rfl|assumption):Eh M A (storeName X.env x u) Q E s :=
 BD I c e f r (λs' b _=>h s' b) d
theorem Inv.call' {d:Eb}(I:Inv X Dn σ H s)(h:d.os=s.os)(u:Un (frs X.stack) ch H H' s.heap d.heap)(hok:sy X.prog X.w H' d.heap)(g:Ma d.gens)
  (f:∀b∈ch,(b∈X.ex\/X.s₀.heap.objs.size<=b)/\b≠X.env.locals/\(∀x c,X.env.cells.lookup x=some c->c≠b)/\∀p∈X.pn++Dn,p.1≠b):Inv X Dn σ H' d:=by
 let#[h',g',d',t',i]:=d;have e:=h;subst e;let:=I.call (g':=g') (t':=t') (d':=d') u hok g f
end
abbrev XK:=D9->Option D8->Hp->Prop
abbrev St:=List<|Option V
abbrev VK:=V->Hp->Prop
abbrev TE:=St->Hp->VK->Prop
abbrev TT:=St->Hp->(Bool->Hp->Prop)->Prop
abbrev TA:=St->Hp->(Di->Hp->Prop)->Prop
structure Ends where
 nx:St->Hp->Prop
 rt:VK
 bk:St->Hp->Prop:=λ_ _=>False
 ct:St->Hp->Prop:=λ_ _=>False
abbrev TS:=Ends->St->Hp->Prop
inductive EP (X:Cx)(Dn:Dd)(σ:St)(Q:VK)(u:D9)(s':Eb):Prop
 |mk (v:V) (H':Hp) (i:Inv X Dn σ H' s') (r:yt v u) (q:Q v H'):EP X Dn σ Q u s'
inductive TP (X:Cx)(Dn:Dd)(σ:St)(Q:Bool->Hp->Prop)(b:Bool)(s':Eb):Prop
 |mk (H':Hp) (i:Inv X Dn σ H' s') (q:Q b H'):TP X Dn σ Q b s'
inductive AP (X:Cx)(Dn:Dd)(σ:St)(Q:Di->Hp->Prop)(us:Da)(s':Eb):Prop
 |mk (vs:Di) (H':Hp) (i:Inv X Dn σ H' s') (r:zb vs us) (q:Q vs H'):AP X Dn σ Q us s'
def SP (X:Cx)(d:Dd)(D:Ends)(f:Flow)(e:Eb):Prop :=
 match f with
 | .next=>∃b c,Inv X d b c e/\D.nx b c
 | .brk=>∃b c,Inv X d b c e/\D.bk b c
 | .cont=>∃b c,Inv X d b c e/\D.ct b c
 | .ret u=>∃v b c,Inv X d b c e/\yt v u/\D.rt v c
def PE (X:Cx)(e:EE)(t:TE):Prop :=
 ∀(c:Dd) (s:Eb) (b:St) (H:Hp) (Q:VK),Inv X c b H s->t b H Q->Eh (Ej X.prog X.w) X.A (ER e X.env) (EP X c b Q) X.xe s
def PT (X:Cx)(e:EE)(t:TT):Prop :=
 ∀(c:Dd) (s:Eb) (b:St) (H:Hp) (Q:Bool->Hp->Prop),Inv X c b H s->t b H Q->Eh (Ej X.prog X.w) X.A (isTrue e X.env<|ER e X.env) (TP X c b Q) X.xe s
def PW (X:Cx)(e:EE)(t:TT):Prop :=
 ∀(b:Sem D9) (d:Dd) (s:Eb) (c:St) (H:Hp) (Q:Bool->Hp->Prop),Inv X d c H s->t c H Q->Eh (Ej X.prog X.w) X.A (isTrue e X.env b) (TP X d c Q) X.xe s
theorem PW.pt (h:PW X e t):PT X e t:=h _
def PA (X:Cx)(d:List EE)(t:TA):Prop :=
 ∀(pos:Pos) (c:Dd) (s:Eb) (b:St) (H:Hp) (Q:Di->Hp->Prop),Inv X c b H s->t b H Q->Eh (Ej X.prog X.w) X.A (spliced<|E9 pos<|Eo d X.env) (AP X c b Q) X.xe s
def PS (X:Cx)(st:EF)(t:TS):Prop :=
 ∀(b:Dd) (s:Eb) (c:St) (H:Hp) (D:Ends),Inv X b c H s->t D c H->Eh (Ej X.prog X.w) X.A (exec st X.env) (SP X b D) X.xe s
def nZ (X:Cx)(st:List EF)(t:TS):Prop :=
 ∀(b:Dd) (s:Eb) (c:St) (H:Hp) (D:Ends),Inv X b c H s->t D c H->Eh (Ej X.prog X.w) X.A (execs st X.env) (SP X b D) X.xe s
theorem Ct {c:Type}{t:Sem c}{Q b:c->Dg}{M:Model}{A:Ez}{E:D9->Dg}{s:Eb}(h:Eh M A t Q E s)(d:∀a s,Q a s->b a s):Eh M A t b E s:=YH h d λ_ _ x=>x
section
variable {X:Cx}
def qy (o:Option<|Option V)(H:Hp)(Q:VK):Prop:=match o with|some (some v)=>Q v H|_=>False
theorem qy.ex (h:qy o H Q):∃v,o=some (some v)/\Q v H:=match o,h with|some (some v),h=>#[v,rfl,h]
theorem qy.mk {o:Option (Option V)}{H:Hp}{Q:VK}{v:V}(e:o=some (some v))(q:Q v H):qy o H Q:=e▸q
def Wt (i:Nat):TE:=λb H Q=>qy b[i]? H Q
def rT (x:V)(k:Int->Prop):Prop:=match x with|.int i=>k i|_=>False
theorem rT.ex (h:rT x k):∃i,x=.int i/\k i:=match x,h with|.int i,h=>#[i,rfl,h]
def tC (v:V):TE:=λ_ H Q=>Q v H
theorem T5 {i:Nat}{x:Str}{pos:Pos}(j:X.N[i]?=some x)(o:aI X.env.scope x)(hd:(x==("__debug__":Str))=false:=by decide)(f:(x==("__classdict__":Str))=false:=by decide):PE X (.Name x pos) (Wt i):=by
 intro g s p H Q I h;let#[v,e,h]:=qy.ex h;let#[m,n,hl]:=I.loc;let#[u,r,l]:=hl i x v j e o;have b:EP X g p Q u s:=#[v,H,I,r,h]
 rcases l with⟨d,hm⟩|⟨d,c,hc,hcell⟩
 .let:=wpAny_Name (wpAny_loadName_local I.ok.kind d n hm b) hd
 .rcases d with d|d
  .let:=wpAny_Name (wpAny_loadName_cell I.ok.kind d hc hcell b) hd
  .let:=wpAny_Name (wpAny_loadName_free I.ok.kind d hc hcell b f) hd
theorem zG {i j pos}:PE X (.Constant (.int i) j pos) (tC<|.int i):=λ_ _ _ H _ I h=>wpAny_Constant_int #[.int i,H,I.tok _,#[_,rfl],h]
theorem xT {b j pos}:PE X (.Constant (.bool b) j pos) (tC<|.bl b):=λ_ _ _ H _ I h=>Constant_bool #[.bl b,H,I,rfl,h]
theorem jM {j pos}:PE X (.Constant .none j pos) (tC .non):=λ_ _ _ H _ I h=>Constant_none #[.non,H,I,rfl,h]
theorem zr {x j pos}:PE X (.Constant (.str x) j pos) (tC<|.str x):=λ_ _ _ H _ I h=>Calls.Constant_str #[.str x,H,I.tok _,#[_,rfl],h]
def Gl (X:Cx)(x:Str):Prop:=X.env.kindOf x=some .globalImplicit
theorem k6 {E:D9->Dg}{u:D9}{pos:Pos}{Q:D9->Dg}(I:Inv X Dn σ H s)(b:Gl X x)(c:X.mg x=some u)(h:Q u s)
  (hd:(x==("__debug__":Str))=false:=by decide):Eh (Ej X.prog X.w) X.A (ER (.Name x pos) X.env) Q E s :=
 Calls.Name_function_global I.ok.kind b (Calls.loadGlobal_global (by rw[I.ok.glob];let:=I.mod.glob.keeps I.bk) c h) hd
theorem uQ {E:D9->Dg}{u:D9}{pos:Pos}{Q:D9->Dg}(I:Inv X Dn σ H s)(d:Gl X x)(e:X.mg x=none)(g:Lv x=some u)(h:Q u s)
  (f:x≠"__name__":=by decide) (hd:(x==("__debug__":Str))=false:=by decide):Eh (Ej X.prog X.w) X.A (ER (.Name x pos) X.env) Q E s:=by
 let#[i,b,c]:=I.mod.blt;let:=Calls.Name_function_global I.ok.kind d (Calls.loadGlobal_builtin (by rw[I.ok.glob];let:=I.mod.glob.keeps I.bk) e (by rw[I.ok.blt];let:=b.keeps I.bk) ((c x f).trans g) h) hd
theorem qD {u:D9}{pos:Pos}(b:Gl X x)(c:X.mg x=some u)(r:yt v u)(hd:(x==("__debug__":Str))=false:=by decide):PE X (.Name x pos) (tC v) :=
 λ_ _ _ H _ I h=>k6 I b c #[v,H,I,r,h] hd
theorem y6 {u:D9}{pos:Pos}(b:Gl X x)(c:X.mg x=none)(e:Lv x=some u)(r:yt v u)(d:x≠"__name__":=by decide)(hd:(x==("__debug__":Str))=false:=by decide):PE X (.Name x pos) (tC v) :=
 λ_ _ _ H _ I h=>uQ I b c e #[v,H,I,r,h] d hd
variable {a b:EE}{ta tb:TE}{pos:Pos}
def PC (X:Cx)(g:CmpOp)(a b:EE)(t:TE):Prop :=
 ∀(f:Dd) (s:Eb) (e:St) (H:Hp) (Q:VK),Inv X f e H s->t e H Q ->
  Eh (Ej X.prog X.w) X.A (ER a X.env) (λv c=>Eh (Ej X.prog X.w) X.A (ER b X.env) (λu d=>Eh (Ej X.prog X.w) X.A (EH g v u) (EP X f e Q) X.xe d) X.xe c) X.xe s
variable {tA tB':TT}{rest:List EE}
def bH (t u:TT):TT:=λd H Q=>t d H λc b=>if c=true then u d b Q else Q false b
def b9 (t u:TT):TT:=λd H Q=>t d H λc b=>if c=true then Q true b else u d b Q
def bQ (t:TT):TT:=λd H Q=>t d H λc b=>Q (!c) b
theorem qA (d:PT X a tA):PW X (.BoolOp .And [a] pos) tA:=by
 intro wh b s f H Q I h;let:=isTrue_and<|Ct (d b s f H Q I h) λc g e=>?_;cases c with
 |true=>let:=isTrue_and_nil e
 |false=>let:=e
theorem kN (d:PT X a tA):PW X (.BoolOp .Or [a] pos) tA:=by
 intro wh b s f H Q I h;let:=isTrue_or<|Ct (d b s f H Q I h) λc g e=>?_;cases c with
 |false=>let:=isTrue_or_nil e
 |true=>let:=e
theorem jX (j:PT X a tA)(l:PW X (.BoolOp .And (b::rest) pos) tB'):PW X (.BoolOp .And (a::b::rest) pos) (bH tA tB'):=by
 intro wh d s i H Q I h;let:=isTrue_and<|Ct (j d s i H _ I h) λc n ⟨e,f,g⟩=>?_;cases c with
 |true=>let:=l wh d n i e Q f g
 |false=>let:=#[e,f,g]
theorem vD (j:PT X a tA)(l:PW X (.BoolOp .Or (b::rest) pos) tB'):PW X (.BoolOp .Or (a::b::rest) pos) (b9 tA tB'):=by
 intro wh d s i H Q I h;let:=isTrue_or<|Ct (j d s i H _ I h) λc n ⟨e,f,g⟩=>?_;cases c with
 |true=>let:=#[e,f,g]
 |false=>let:=l wh d n i e Q f g
theorem xE (f:PT X a tA):PT X (.UnaryOp .Not a pos) (bQ tA):=by
 intro b s g H Q I h;let:=isTrue_not<|Ct (f b s g H (λc e=>Q (!c) e) I h) λc j z=>z.casesOn λd i q=>#[d,i,q]
def ag (ta tb:TE):TE:=λd H Q=>ta d H λx b=>∃c,x=.bl c/\if c=true then tb d b Q else Q (.bl false) b
def bR (ta tb:TE):TE:=λd H Q=>ta d H λx b=>∃c,x=.bl c/\if c=true then Q (.bl true) b else tb d b Q
def ap (ta:TE):TE:=λd H Q=>ta d H λx b=>∃c,x=.bl c/\Q (.bl<|!c) b
theorem qS (h:PE X a t):PE X (.BoolOp op [a] pos) t:=λb s d H Q I c=>BoolOp_one<|h b s d H Q I c
theorem xD (j:PE X a ta)(l:PE X (.BoolOp .And (b::rest) pos) tb):PE X (.BoolOp .And (a::b::rest) pos) (ag ta tb):=by
 intro e s i H Q I h;let:=BoolOp_and<|Ct (j e s i H _ I h) λv o ⟨x,f,g,n,d⟩=>?_;let#[c,rfl,d]:=d;cases n;let:=Jg ?_;cases c with
 |true=>let:=l e o i f Q g d
 |false=>let:=#[.bl false,f,g,rfl,d]
theorem SU (j:PE X a ta)(l:PE X (.BoolOp .Or (b::rest) pos) tb):PE X (.BoolOp .Or (a::b::rest) pos) (bR ta tb):=by
 intro e s i H Q I h;let:=BoolOp_or<|Ct (j e s i H _ I h) λv o ⟨x,f,g,n,d⟩=>?_;let#[c,rfl,d]:=d;cases n;let:=Jg ?_;cases c with
 |false=>let:=l e o i f Q g d
 |true=>let:=#[.bl true,f,g,rfl,d]
theorem T1 (g:PE X a ta):PE X (.UnaryOp .Not a pos) (ap ta):=by
 intro d s j H Q I h;let:=UnaryOp_<|Ct (g d s j H _ I h) λv l ⟨x,e,f,i,b⟩=>?_;let#[c,rfl,b]:=b;cases i;let:=not_of<|Jg #[.bl<|!c,e,f,rfl,b]
def tIf (t:TT)(ta tb:TE):TE:=λb H Q=>t b H λc d=>if c=true then ta b d Q else tb b d Q
theorem jB (p:PT X c tA)(n:PE X a ta)(o:PE X b tb):PE X (.IfExp c a b pos) (tIf tA ta tb):=by
 intro e s f H Q I h;let:=wpAny_IfExp<|Ct (p e s f H _ I h) λd l ⟨g,i,j⟩=>?_;cases d with
 |true=>let:=n e l f g Q i j
 |false=>let:=o e l f g Q i j
end
def za (K:Co)(H:Hp)(a:D8)(xs:Di):Prop :=
 Rd H a (.lst xs) \/
  ∃(o:Obj) (b:Array D9) (n:Nat),K.lookup a=some o/\o.cls=.type "list"/\o.dict=none/\o.data=.seq b n/\b.size<=sizeLine/\zb xs b.toList
def yh (K:Co)(H:Hp)(a:D8)(xs:Di):Prop :=
 Rd H a (.tup xs) \/
  ∃(o:Obj) (b:Array D9) (n:Nat),K.lookup a=some o/\o.cls=.type "tuple"/\o.dict=none/\o.data=.seq b n/\b.size<=sizeLine/\zb xs b.toList
def aV:D9->Option V
 | .none=>some .non
 | .bool b=>some<|.bl b
 | .int i _=>some<|.int i
 | .str x _=>some<|.str x
 | .bytes b _=>some<|.byt b
 | .float b _=>some<|.flt b
 | .ref a=>some<|.ref a
 | .type n=>some<|.ty n
 |_=>none
theorem yt.abs (r:yt x u):aV u=some x:=by
 cases x with
 |non=>cases r;rfl
 |bl _=>cases r;rfl
 |int _=>let#[t,rfl]:=r;rfl
 |str _=>let#[t,rfl]:=r;rfl
 |byt _=>let#[t,rfl]:=r;rfl
 |flt _=>let#[t,rfl]:=r;rfl
 |ref _=>cases r;rfl
 |ty _=>cases r;rfl
theorem yt.inj (r:yt x u)(q:yt y u):x=y:=Option.some.inj<|r.abs.symm.trans q.abs
theorem zb.inj:∀{xs ys:Di} {us:Da},zb xs us->zb ys us->xs=ys
 |_,_,_,.nil,.nil=>rfl
 |_,_,_,.cons r t,.cons r' t'=>by rw[r.inj r',zb.inj t t']
section
variable {X:Cx}{Dn:Dd}{σ:St}{H:Hp}{s:Eb}{a:D8}{xs ys:Di}
theorem za.of {K:Co}(h:H a=some (.lst xs)):za K H a xs:=.inl<|.inl h
theorem yh.of {K:Co}(h:H a=some (.tup xs)):yh K H a xs:=.inl<|.inl h
theorem Inv.list (I:Inv X Dn σ H s)(h:za X.K H a xs):∃its:Da,zb xs its/\PlainL s.heap a its.toArray/\xs.length<=sizeLine:=by
 rcases h with h|⟨o,its,n,c,b,hd,d,f,r⟩
 .let#[z,its,n,r,e]:=h.ok I.hok;let:=#[its,r,#[_,n,e,rfl,rfl,rfl],z]
 .let:=#[its.toList,r,#[o,n,I.sZ a o c,b,hd,by simpa using d],?_];have e:=r.length;simp only[Z5]at e;lia
theorem Inv.gP (I:Inv X Dn σ H s)(h:yh X.K H a xs):∃its:Da,zb xs its/\TupAt s.heap a its.toArray/\xs.length<=sizeLine:=by
 rcases h with h|⟨o,its,n,d,c,b,f,g,r⟩
 .let#[z,its,r,p]:=h.ok I.hok;let:=#[its,r,p,z]
 .let:=#[its.toList,r,#[o,I.sZ a o d,c,n,by simpa using f,b],?_];have e:=r.length;simp only[Z5]at e;lia
theorem Inv.tuple (I:Inv X Dn σ H s)(h:yh X.K H a xs):∃its:Da,zb xs its/\IsTup s.heap a its.toArray/\xs.length<=sizeLine:=by
 let#[its,r,p,z]:=I.gP h;let:=#[its,r,p.is,z]
theorem Inv.mW (I:Inv X Dn σ H s)(h:za X.K H a xs)(h':za X.K H a ys):xs=ys:=by
 let#[b,r,#[o,n,e,_,_,d],_]:=I.list h;let#[g,j,#[p,l,f,_,_,c],_]:=I.list h';rw[e]at f;cases f;rw[d]at c;injection c with i _;have:b=g:=by simpa using congrArg Array.toList i
 subst this;let:=r.inj j
theorem Inv.ph (I:Inv X Dn σ H s)(h:yh X.K H a xs)(h':yh X.K H a ys):xs=ys:=by
 let#[b,r,#[o,e,_,n,d],_]:=I.tuple h;let#[g,j,#[p,f,_,l,c],_]:=I.tuple h';rw[e]at f;cases f;rw[d]at c;injection c with i _;have:b=g:=by simpa using congrArg Array.toList i
 subst this;let:=r.inj j
end
abbrev Cx.wish (X:Cx)(E:D9->Dg):Cx:={ X with xe:=E }
abbrev Cx.fW (X:Cx):Cx:=X.wish λ_ _=>False
theorem Cx.Ok.wish {X:Cx}(ok:X.Ok)(E:D9->Dg):(X.wish E).Ok :=
 #[ok.mod,ok.kind,ok.glob,ok.blt,ok.above,ok.inj,ok.has,ok.cab,ok.hd,ok.frames,ok.stk,ok.gQ,ok.bs,ok.ju,ok.nj,ok.nM,ok.rY,ok.iW]
theorem Cx.Ok.sW {X:Cx}{E:D9->Dg}(ok:(X.wish E).Ok):X.Ok :=
 #[ok.mod,ok.kind,ok.glob,ok.blt,ok.above,ok.inj,ok.has,ok.cab,ok.hd,ok.frames,ok.stk,ok.gQ,ok.bs,ok.ju,ok.nj,ok.nM,ok.rY,ok.iW]
section
variable {X:Cx}{Dn:Dd}{σ:St}{H:Hp}{s:Eb}{E:D9->Dg}
theorem Inv.wish (I:Inv X Dn σ H s)(E:D9->Dg):Inv (X.wish E) Dn σ H s:=#[I.ok.wish E,I.os,I.bare,I.base,I.loc,I.cell,I.free,I.wj,I.pin,I.hok,I.len]
theorem Inv.sW (I:Inv (X.wish E) Dn σ H s):Inv X Dn σ H s:=#[I.ok.sW,I.os,I.bare,I.base,I.loc,I.cell,I.free,I.wj,I.pin,I.hok,I.len]
theorem SP.sW (h:SP (X.wish E) Dn D f s'):SP X Dn D f s':=by
 cases f with
 |next=>let#[b,c,I,q]:=h;let:=#[b,c,I.sW,q]
 |brk=>let#[b,c,I,q]:=h;let:=#[b,c,I.sW,q]
 |cont=>let#[b,c,I,q]:=h;let:=#[b,c,I.sW,q]
 |ret u=>let#[v,b,c,I,r,q]:=h;let:=#[v,b,c,I.sW,r,q]
theorem nZ.fW {st:List EF}(h:nZ X.fW st t):nZ X st t:=λDn s σ H D I b =>
 YH (h Dn s σ H D (I.wish _) b) (λ_ _ q=>q.sW) λ_ _ z=>EC z
end
section
variable {X:Cx}{st:EF}{rest:List EF}{t u:TS}{e:EE}{te:TE}{pos:Pos}
def ao:TS:=λD b H=>D.nx b H
def MK (t u:TS):TS:=λD b H=>t { D with nx:=u D } b H
theorem zU:nZ X [] ao:=λ_ _ b H _ I h=>VB #[b,H,I,h]
theorem zE (g:PS X st t)(i:nZ X rest u):nZ X (st::rest) (MK t u):=by
 intro c s l H D I h;let:=Ur<|Ct (g c s l H { D with nx:=u D } I h) λf j q=>?_;cases f with
 |next =>
  let#[b,d,e,q]:=q;let:=i c j b d D e q
 |ret v=>let:=q
 |brk=>let:=q
 |cont=>let:=q
theorem zF (c:PS X st t):nZ X [st] t:=by
 intro b s d H D I h;let:=Ur<|Ct (c b s d H D I h) λf e q=>?_;cases f with
 |next=>let:=VB q
 |ret v=>let:=q
 |brk=>let:=q
 |cont=>let:=q
theorem Inv.quiet (I:Inv X Dn σ H s):interactive X.env=false:=by simp[interactive,I.ok.kind]
def ak (te:TE):TS:=λD b H=>te b H λ_ c=>D.nx b c
theorem zX (g:PE X e te)(i:L4 e none pos.line X.env=Le false:=by rfl):PS X (.Expr e pos) (ak te):=by
 intro c s b H D I h;let:=wpAny_Expr_any (Ct (g c s b H _ I h) λv n ⟨x,d,f,l,j⟩=>#[b,d,f,j]) I.quiet i
def bS (te:TE):TS:=λD b H=>te b H D.rt
theorem zQ (g:PE X e te):PS X (.Return (some e) pos) (bS te):=by
 intro c s b H D I h;let:=wpAny_Return_some<|Ct (g c s b H _ I h) λv l ⟨x,d,f,j,i⟩=>#[x,b,d,f,j,i]
def bO (c:TT)(t u:TS):TS:=λD d H=>c d H λb e=>if b=true then t D d e else u D d e
theorem yG (p:PT X c tc)(n:nZ X a t)(o:nZ X b u):PS X (.If c a b pos) (bO tc t u):=by
 intro e s f H D I h;let:=wpAny_If<|Ct (p e s f H _ I h) λd l ⟨g,i,j⟩=>?_;cases d with
 |true=>let:=n e l f g D i j
 |false=>let:=o e l f g D i j
def Wp:TS:=λ_ _ _=>False
theorem uH:PS X st Wp:=λ_ _ _ _ _ _ h=>h.elim
end
abbrev TG:=V->St->Hp->(St->Hp->Prop)->Prop
abbrev Wz:=Di->St->Hp->(St->Hp->Prop)->Prop
def PG (X:Cx)(b:EE)(t:TG):Prop :=
 ∀(d:Dd) (s:Eb) (f:St) (H:Hp) (v:V) (u:D9) (Q:St->Hp->Prop),Inv X d f H s->yt v u->t v f H Q ->
  Eh (Ej X.prog X.w) X.A (assign b X.env u) (λ_ g=>∃c e,Inv X d c e g/\Q c e) X.xe s
def gH (X:Cx)(i:List EE)(t:Wz):Prop :=
 ∀(c:Dd) (s:Eb) (g:St) (H:Hp) (f:Di) (e:Da) (Q:St->Hp->Prop),Inv X c g H s->zb f e->t f g H Q ->
  Eh (Ej X.prog X.w) X.A (assignInOrder ((Mj i X.env).map (·.2)) e) (λ_ h=>∃b d,Inv X c b d h/\Q b d) X.xe s
abbrev Tb:=V->V->V->Hp->(Hp->Prop)->Prop
def WF (X:Cx)(t:Tb):Prop :=
 ∀(b:Dd) (s:Eb) (f:St) (H:Hp) (o i v:V) (e d u:D9) (Q:Hp->Prop),Inv X b f H s->yt o e->yt i d->yt v u->t o i v H Q ->
  Eh (Ej X.prog X.w) X.A (setItem e d u) (λ_ g=>∃c,Inv X b f c g/\Q c) X.xe s
abbrev aH:=V->V->Hp->VK->Prop
def b7 (X:Cx)(d:Operator)(t:aH):Prop :=
 ∀(b:Dd) (s:Eb) (c:St) (H:Hp) (x y:V) (v u:D9) (Q:VK),Inv X b c H s->yt x v->yt y u->t x y H Q ->
  Eh (Ej X.prog X.w) X.A (inplaceOp d v u) (EP X b c Q) X.xe s
section
variable {X:Cx}{pos:Pos}
def XZ (i:Nat):TG:=λv b H Q=>Q (b.set i (some v)) H
theorem zR {i:Nat}{x:Str}(c:X.N.Nodup)(e:X.N[i]?=some x)(f:Loc X.env.scope x)(d:X.fn x=true\/X.env.scope.names.lookup x=some .local:=by first|let:=.inl rfl|let:=.inr rfl|assumption):PG X (.Name x pos) (XZ i):=by
 intro g s l H v u Q I r h;let:=wpAny_assign_Name<|Ge I c e f r (λj b=>#[_,H,b,h]) d
def aY:Wz:=λb c H Q=>b=[]/\Q c H
inductive iC (t:TG)(u:Wz)(vs:Di)(σ:St)(H:Hp)(Q:St->Hp->Prop):Prop
 |mk (v:V) (r:Di) (e:vs=v::r) (q:t v σ H λσ' H'=>u r σ' H' Q):iC t u vs σ H Q
theorem kS:gH X [] aY:=by
 intro c s b H f d Q I r h;let#[e,h]:=h;subst e;cases r;let:=assignInOrder_nil #[b,H,I,h]
theorem yO (i:PG X e t)(j:gH X es u)
  (l:(Mj (e::es) X.env).map (·.2)=assign e X.env::(Mj es X.env).map (·.2):=by rfl):gH X (e::es) (iC t u):=by
 intro c s p H y q Q I r h;let#[v,w,g,h]:=h;subst g;cases r with
 |cons r rr =>
  rw[l];let:=assignInOrder_cons<|Ct (i c s p H _ _ _ I r h) λ_ o ⟨b,d,f,n⟩=>?_;let:=j c o b d _ _ Q f rr n
inductive gh (K:Co)(n:Nat)(t:Wz)(v:V)(σ:St)(H:Hp)(Q:St->Hp->Prop):Prop
 |mk (a:D8) (xs:Di) (e:v=.ref a) (h:yh K H a xs) (l:xs.length=n) (q:t xs σ H Q):gh K n t v σ H Q
theorem Xg {k:Nat}{n:Nat}(q:X.calm=true)(h:gH X es t)
  (w:(Mj es X.env).length=n:=by rfl) (c:(Mj es X.env).findIdx? (·.1)=none:=by rfl):PG X (.Tuple es k pos) (gh X.K n t):=by
 intro f s i H v u Q I r d;let#[a,C,l,y,hl,d]:=d;subst l;cases r;let#[B,g,z,D]:=I.tuple y;let:=assign_Tuple_tuple (I.ok.hd q) z (by simp[w,<-hl,g.length]) c λp A=>?_;have j:Inv X f i H { s with heap:=p }:=I.kept (t':=s.toks) λb o e=>A b o (ZZ<|ZN e) e;let:=h f _ i H C _ Q j (by simpa using g) d
def aZ (g f:TE)(t:Tb):TG:=λv b H Q=>g b H λo c=>f b c λi d=>t o i v d λe=>Q b e
theorem Mr (q:PE X o to)(p:PE X i ti)(w:WF X t)
  (n:∀v,assign (.Subscript o i pos) X.env v=(do
   let ov <-Mb [v] (ER o X.env)
   let iv <-Mb [v,ov] (ER i X.env)
   standAt pos
   Mb [v,ov,iv] (setItem ov iv v)
   release [v,ov,iv] []):=by intro _;rfl):PG X (.Subscript o i pos) (aZ to ti t):=by
 intro c s b H v u Q I r h;rw[n];let:=Zl<|YJ<|Ct (q c s b H _ I h) λov E ⟨x,d,g,C,z⟩=>?_;let:=Zl<|YJ<|Ct (p c E b d _ g z) λiv F ⟨y,e,j,D,A⟩=>?_;let:=Zl<|wpAny_standAt<|Zl<|YJ<|Ct (w c F b e x y v ov iv u _ j C D r A) λ_ G ⟨f,l,B⟩=>?_;let:=wpAny_release #[b,f,l,B]
def Rq (d:TE)(g:TG):TS:=λD b H=>d b H λx c=>g x b c D.nx
theorem Mv (j:PE X e te)(l:PG X tg g)(n:swapsWithSole [tg] e pos.line X.env=Le false:=by rfl)(o:swappedStores [tg] e X.env=Le none:=by rfl)
  (i:(Mj [tg] X.env).map (·.2)=[assign tg X.env]:=by rfl):PS X (.Assign [tg] e pos) (Rq te g):=by
 intro b s c H D I h;let:=wpAny_Assign_stores (Ct (j b s c H _ I h) λv t ⟨x,d,f,r,p⟩=>?_) n o;rw[i];let:=Ct (l b t c d x v _ f r p) λ_ u q=>q
theorem zM {i:Nat}{x:Str}{b:Pos}(j:X.N.Nodup)(o:X.N[i]?=some x)(q:Loc X.env.scope x)(l:PE X e te)(p:L4 e (some<|.Name x b) pos.line X.env=Le false:=by rfl)(n:X.fn x=true\/X.env.scope.names.lookup x=some .local:=by first|let:=.inl rfl|let:=.inr rfl|assumption) :
  PS X (.Assign [.Name x b] e pos) (Rq te<|XZ i):=by
 intro c s u H D I h;let:=wpAny_Assign_Name (Ct (l c s u H _ I h) λv w ⟨y,d,f,t,r⟩=>?_) p;let:=Ge f j o q t (λz g=>#[_,d,g,r]) n
theorem Cu {i:Nat}{x:Str}{b:Pos}(c:X.N.Nodup)(d:PE X e te)(g:X.N[i]?=some x:=by rfl)(j:Loc X.env.scope x:=by first|let:=Ew rfl|let:=Or.inr rfl)(h:L4 e (some<|.Name x b) pos.line X.env=Le false:=by rfl)(f:X.fn x=true\/X.env.scope.names.lookup x=some .local:=by first|let:=.inl rfl|let:=.inr rfl|assumption):PS X (.Assign [.Name x b] e pos) (Rq te<|XZ i):=zM c g j d h f
def bI (i:Nat)(e:TE)(f:aH):TS:=λD b H=>∃x,b[i]?=some (some x)/\e b H λy c=>f x y c λz d=>D.nx (b.set i (some z)) d
theorem B9 {i:Nat}{x:Str}{q:Pos}(J:X.N.Nodup)(o:X.N[i]?=some x)(j:Loc X.env.scope x)(K:PE X e te)(O:b7 X op ti)(L:X.fn x=true\/X.env.scope.names.lookup x=some .local:=by first|let:=.inl rfl|let:=.inr rfl|assumption) :
  PS X (.AugAssign (.Name x q) op e pos) (bI i te ti):=by
 intro g s p H D I h;let#[v,G,h]:=h;let#[m,M,hl]:=I.loc;have n:aI X.env.scope x:=by rcases j with k|k;let:=.inl k;let:=.inr<|.inl k
 let#[u,r,l]:=hl i x v o G n;let:=wpAny_AugAssign_Name ?_;have go:Eh (Ej X.prog X.w) X.A (ER e X.env) (λw d=>Eh (Ej X.prog X.w) X.A (inplaceOp op u w) (λr f=>Eh (Ej X.prog X.w) X.A (storeName X.env x r) (λ_=>SP X g D .next) X.xe f) X.xe d) X.xe s:=by
  let:=Ct (K g s p H _ I h) λw T ⟨y,t,C,R,P⟩=>?_;let:=Ct (O g T p t v y u w _ C r R P) λz U ⟨Z,B,E,S,Q⟩=>?_;let:=Ge E J o j S (λY F=>#[_,B,F,Q]) L
 rcases l with⟨b,hm⟩|⟨b,c,hc,hcell⟩
 .let:=wpAny_loadName_local I.ok.kind b M hm go
 .rcases b with b|b
  .let:=wpAny_loadName_cell I.ok.kind b hc hcell go
  .rcases j with k|k
   .have:X.env.scope.names.lookup x=some .free:=b;rw[k]at this;cases this
   .have:X.env.scope.names.lookup x=some .free:=b;rw[k]at this;cases this
def ipI (f:Int->Int->Int):aH:=λx y H Q=>∃i j,x=.int i/\y=.int j/\Q (.int<|f i j) H
theorem DE:b7 X .Add (ipI λi j=>i+j):=by
 intro f s l H x y v u Q I d e h;let#[i,j,b,c,q]:=h;subst b;subst c;let#[t,rfl]:=d;let#[g,rfl]:=e;let:=iadd_int #[.int _,H,I.tok _,#[_,rfl],q]
def Rs (c:TT)(i:TS):TS:=λD d H=>∃W:Nat->St->Hp->Prop,(∃m,W m d H)/\∀m d H,W m d H ->
 c d H λb g=>if b=true then∃N:St->Hp->Prop,(∀e f,N e f->∃h,h<m/\W h e f)/\i { D with nx:=N,ct:=N,bk:=D.nx } d g else D.nx d g
theorem HQ (F:PassesOwn (Ej X.prog X.w) X.A X.env X.xe)(K:PT X c tc)(J:nZ X body tb):PS X (.While c body [] pos) (Rs tc tb):=by
 intro p s S H D I h;let#[W,#[L,Q],i]:=h;let:=wpAny_While<|codeAny_whileLoop (λn M=>∃j y,Inv X p j y M/\W n j y) ?_ L #[S,H,I,Q];rintro n O ⟨e,z,G,R⟩;let:=JP F<|Ct (K p O e z _ G<|i n e z R) λb P ⟨B,C,l⟩=>?_;cases b with
 |true =>
  let#[N,E,l]:=l;rw[ZJ rfl];let:=JP F<|Ct (J p P e B _ C l) λf T o=>?_;cases f with
  |next =>
   let#[d,g,q,n3]:=o;let#[t,r,u]:=E d g n3;let:=#[t,r,d,g,q,u]
  |cont =>
   let#[d,g,q,n3]:=o;let#[t,r,u]:=E d g n3;let:=#[t,r,d,g,q,u]
  |brk=>let:=o
  |ret v=>let:=o
 |false =>
  rw[ZI Z7];let:=VB #[e,B,C,l]
end
structure It where
 go:Nat->Hp->Prop
 kh:Nat->Hp->V->Hp->Prop
 stop:Nat->Hp->Prop
def XN (X:Cx)(d:Dd)(H:Hp)(b:D8):Prop :=
 H b=none/\b≠X.env.locals/\b∉X.fs/\(b∈X.ex\/X.s₀.heap.objs.size<=b)/\(∀x c,X.env.cells.lookup x=some c->c≠b)/\∀p∈X.pn++d,p.1≠b
theorem Inv.qw {H':Hp}{b:D8}(I:Inv X Dn σ H s)(d:s.heap.objs.size<=b)(f:H' b=none):XN X Dn H' b:=by
 let:=#[f,VH<|Z0 I.lt d,I.fU d,.inr<|Z2 I.sz d,λx c e z=>?_,λp g z=>?_]
 .let#[v,q]:=I.cell x c e;let:=absurd (Z0 q.lt<|by rwa[z])<|YQ _
 .let:=absurd (Z0 (ZN (I.pin p g).1)<|by rwa[z]) (YQ _)
structure lE (U:Cx->Prop)(P:Ea)(w:Ef)(K:Co)(tg:EE)(J:It)(fp:Dc)(it:D8)(tn:Nat->Es->Prop):Prop where
 mem:it∈fp
 obj:∀i h,tn i h->∀b∈fp,∃o,h.get? b=some o/\∀v,o.data≠.cell v
 keep:∀i h h',tn i h->(∀b∈fp,∀o,h.get? b=some o->h'.get? b=some o)->tn i h'
 item:∀(X:Cx),X.prog=P->X.w=w->X.K=K->U X->∀(i:Nat) (Dn:Dd) (s:Eb) (σ:St) (H:Hp) (E:D9->Dg),Inv X Dn σ H s->(∀b∈fp,XN X Dn H b)->tn i s.heap->J.go i H ->
  Eh (Ej P w) X.A (LO<|.ref it) (λr s1=>∃u,r=some u /\ Eh (Ej P w) X.A (LM tg (.ref it) u) (λ_ s2=>∃x H',Inv X Dn σ H' s2/\yt x u/\J.kh i H x H'/\tn (i+1) s2.heap/\∀b∈fp,H' b=none) E s1) E s
 done:∀(X:Cx),X.prog=P->X.w=w->X.K=K->U X->∀(i:Nat) (Dn:Dd) (s:Eb) (σ:St) (H:Hp) (E:D9->Dg),Inv X Dn σ H s->(∀b∈fp,XN X Dn H b)->tn i s.heap->J.stop i H ->
  Eh (Ej P w) X.A (LO<|.ref it) (λr s1=>r=none/\Inv X Dn σ H s1) E s
 self:∀(A:Ez) (i:Nat) (s:Eb) (Q:D9->Dg) (E:D9->Dg),tn i s.heap->Q (.ref it) s->Eh (Ej P w) A (pyIter<|.ref it) Q E s
abbrev Turn:=lE λX=>X.calm=true
abbrev TI:=St->Hp->(It->Hp->Prop)->Prop
def WE (U:Cx->Prop)(X:Cx)(e:Dd)(σ:St)(j:EE)(R:It->Hp->Prop)(d:D9)(h:Eb):Prop :=
 ∃(g:D8) (f:Dc) (i:Nat->Es->Prop) (J:It) (c:Hp),d=.ref g/\Inv X e σ c h/\lE U X.prog X.w X.K j J f g i/\i 0 h.heap/\(∀b∈f,XN X e c b)/\R J c
abbrev PIE:=WE λX=>X.calm=true
def b6 (U:Cx->Prop)(X:Cx)(f b:EE)(g:TI):Prop :=
 ∀(d:Dd) (s:Eb) (c:St) (H:Hp) (R:It->Hp->Prop),Inv X d c H s->g c H R ->
  Eh (Ej X.prog X.w) X.A (ER b X.env) (λv e=>Eh (Ej X.prog X.w) X.A (pyIter v) (WE U X d c f R) X.xe e) X.xe s
def PI (X:Cx)(c b:EE)(d:TI):Prop:=b6 (λX=>X.calm=true) X c b d
theorem Gn {M:Model}{A:Ez}{E:D9->Dg}{s:Eb}{d:EE}{c:D8}{u:D9}{o:Obj}{n:String}{vs:Array D9}{Q:Unit->Dg}(g:s.heap.get? c=some o)(e:o.cls=.type n)(hd:o.data=.fields vs)
  (f:["enumerate","zip","dict_itemiterator","dict_reverseitemiterator","odict_iterator","itertools.zip_longest","itertools.pairwise"].contains n=false) (b:Q () s):Eh M A (LM d (.ref c) u) Q E s:=by
 unfold LM;cases d<;>first
  |let:=Zw b
  | (cases u<;>first
    |let:=Zw b
    | (let:=Zl (wpAny_load g ?_)
       rw[e,hd];show Eh M A (if(["enumerate","zip","dict_itemiterator","dict_reverseitemiterator","odict_iterator","itertools.zip_longest","itertools.pairwise"].contains n&&vs[0]?==some (EI _))=true then _ else _) Q E s;rw[ZI (by intro h;rw[f,VJ]at h;cases h)];let:=Zw b))
def Rz (K:Co)(a:D8):It :=
 #[λi H=>∃b x,za K H a b/\b[i]?=some x,λi H x c=>c=H/\∀b,za K H a b->b[i]?=some x,λi H=>∃b,za K H a b/\b.length<=i]
def S6 (K:Co)(a:D8):It :=
 #[λi H=>∃b x,yh K H a b/\b[i]?=some x,λi H x c=>c=H/\∀b,yh K H a b->b[i]?=some x,λi H=>∃b,yh K H a b/\b.length<=i]
def RA (lo:Int)(n:Nat):It:=#[λi _=>i<n,λi H x b=>b=H/\x=.int (lo+i),λi _=>n<=i]
theorem ML {U:Cx->Prop}{stop:Nat->Hp->Prop}{P:Ea}{w:Ef}{K:Co}(a f:D8)(B:∀(X:Cx),X.prog=P->X.w=w->X.K=K->U X->∀(i:Nat) (Dn:Dd) (s:Eb) (σ:St) (H:Hp) (E:D9->Dg),Inv X Dn σ H s->(∀b∈[f],XN X Dn H b)->s.heap.IsListIter f a i->stop i H->Eh (Ej P w) X.A (LO<|.ref f) (λr s1=>r=none/\Inv X Dn σ H s1) E s):lE U P w K tg #[(Rz K a).go,(Rz K a).kh,stop] [f] f (λi h=>h.IsListIter f a i) where
 mem:=by simp
 obj:=λi h st b g=>by
  have e:b=f:=by simpa using g
  subst e;let#[o,e,c,d]:=st;let:=#[o,e,λv z=>by rw[d]at z;cases z]
 keep:=λi h l st k=>st.at λo e=>k f (by simp) o e
 item:=by
  intro X M Q L hc i Dn s σ H E I n st N;subst M Q L;let#[xs,x,q,t]:=N;let#[S,Y,p,hz]:=I.list q;let#[u,O,T]:=Y.get t;let#[C,D,f2,F,G,J]:=n f (by simp);let:=wpAny_pyNext_list_item st p.isList (by simpa using O) λl j Z=>?_;have y:Inv X Dn σ H { s with heap:=l }:=I.turned (t':=s.toks) (λb o g e=>(Z.2 b g).trans e) C D F G J;let#[o,e,c,d]:=id j;let:=#[u,rfl,Gn e c d ∅ #[x,H,y,T,#[rfl,λys R=>by rw[I.mW R q];let:=t],j,λb g=>(n b g).1]]
 done:=B
 self:=λ_ _ _ _ _ st h=>wpAny_pyIter_listiter st h
theorem Ox {K:Co}(a c:D8):Turn P w K tg (Rz K a) [c] c (λi h=>h.IsListIter c a i):=ML a c (by
  intro X r A q u i D s N H E I v st y;subst r A q;let#[M,z,J]:=y;let#[B,C,p,L]:=I.list z;let#[f,g,F,j,l,n]:=v c (by simp);have hl:=C.length;let:=wpAny_pyNext_list_end (I.ok.hd u) st p.isList (by simp;lia) λG d=>#[rfl,I.turned (t':=s.toks) (λb o t e=>d b o t e) f g j l n])
theorem MO {K:Co}(a g:D8):Turn P w K tg (S6 K a) [g] g (λi h=>h.IsTupleIter g a i) where
 mem:=by simp
 obj:=λi h st b f=>by
  have e:b=g:=by simpa using f
  subst e;let#[o,e,c,d]:=st;let:=#[o,e,λv z=>by rw[d]at z;cases z]
 keep:=λi h C st k=>st.at λo e=>k g (by simp) o e
 item:=by
  intro X F J D O i N s Q H E I n st G;subst F J D;let#[xs,x,q,L]:=G;let#[j,M,p,Z]:=I.tuple q;let#[u,U,ru]:=M.get L;let#[r,t,T,y,A,B]:=n g (by simp);let:=wpAny_pyNext_tuple_item st (show s.heap.IsTuple a j.toArray from p) (by simpa using U) λC l sb=>?_;have R:Inv X N Q H { s with heap:=C }:=I.turned (t':=s.toks) (λb o f e=>(sb.2 b f).trans e) r t y A B;let#[o,e,c,d]:=id l;let:=#[u,rfl,Gn e c d ∅ #[x,H,R,ru,#[rfl,λys Y=>by rw[I.ph Y q];let:=L],l,λb f=>(n b f).1]]
 done:=by
  intro X F J D O i N s Q H E I n st G;subst F J D;let#[xs,q,L]:=G;let#[j,M,p,Z]:=I.tuple q;let#[r,t,T,y,A,B]:=n g (by simp);have hl:=M.length;let:=wpAny_pyNext_tuple_end (I.ok.hd O) st (show s.heap.IsTuple a j.toArray from p) (by simp;lia) λC S=>#[rfl,I.turned (t':=s.toks) (λb o f e=>S b o f e) r t y A B]
 self:=λ_ _ _ _ _ st h=>wpAny_pyIter_tupleiter st h
theorem MN {K:Co}(c:D8)(lo:Int)(n:Nat):Turn P w K tg (RA lo n) [c] c (λi h=>IsRangeIter h c (lo+(i:Nat)*1) ((n:Int)-(i:Nat)) 1) where
 mem:=by simp
 obj:=λi h st b d=>by
  have e:b=c:=by simpa using d
  subst e;let:=#[_,st,λv z=>by
   have R:Data.fields _=Data.cell v:=z;cases R]
 keep:=λi h u st k=>k c (by simp) _ st
 item:=by
  intro X A D y B i F s G H E I g st C;subst A D y;let#[j,l,M,p,q,r]:=g c (by simp);have W:=Walks.range (prog:=X.prog) (w:=X.w) (I.ok.hd B) c lo 1 n;let:=W.item i s _ _ C st λv u Q N f O=>?_;let#[t,rfl]:=N;have J:Inv X F G H { s with heap:=u,toks:=Q }:=I.turned (λb o d e=>O b o (by simpa using d) e) j l p q r;let:=#[_,rfl,Gn f rfl rfl ∅ #[.int<|lo+i,H,J,#[t,?_],#[rfl,rfl],f,λb d=>(g b d).1]];rw[Int.mul_one]
 done:=by
  intro X A D y B i F s G H E I g st C;subst A D y;let#[j,l,M,p,q,r]:=g c (by simp);let:=wpAny_pyNext_range_end (I.ok.hd B) st (by have:n<=i:=C;lia) λu L=>#[rfl,I.turned (t':=s.toks) (λb o d e=>L b o d e) j l p q r]
 self:=λ_ _ _ _ _ st h=>wpAny_pyIter_rangeiter st h
section
variable {X:Cx}{tg:EE}
def WO (K:Co)(c:TE):TI:=λe H R=>c e H λx b=>∃a,x=.ref a/\(∃d,za K b a d)/\R (Rz K a) b
def bc (K:Co)(c:TE):TI:=λe H R=>c e H λx b=>∃a,x=.ref a/\(∃d,yh K b a d)/\R (S6 K a) b
theorem yR (hl:PE X l tl):PI X tg l (WO X.K tl):=by
 intro f s u H R I h;let:=Ct (hl f s u H _ I h) λv d ⟨x,g,c,t,r⟩=>?_;let#[a,e,#[z,j],q]:=r;subst e;cases t;let#[n,y,p,w]:=c.list j;let:=Vm p.isList ?_;let:=#[d.heap.objs.size,[d.heap.objs.size],_,_,g,rfl,c.kept (t':=d.toks) λb o e=>Zr _ e,Ox a _,#[_,ZG _ rfl,rfl,rfl],λb i=>?_,q];have e:b=d.heap.objs.size:=by simpa using i
 subst e;let:=c.qw (Zn _)<|c.hok.fresh<|Zn _
theorem jV (hl:PE X l tl):PI X tg l (bc X.K tl):=by
 intro g s u H R I h;let:=Ct (hl g s u H _ I h) λv c ⟨x,i,d,t,r⟩=>?_;let#[a,e,#[z,n],q]:=r;subst e;cases t;let#[f,y,p,w]:=d.tuple n;let:=wpAny_pyIter_tuple (show c.heap.IsTuple a f.toArray from p) ?_;let:=#[c.heap.objs.size,[c.heap.objs.size],_,_,i,rfl,d.kept (t':=c.toks) λb o e=>Zr _ e,MO a _,#[_,ZG _ rfl,rfl,rfl],λb j=>?_,q];have e:b=c.heap.objs.size:=by simpa using j
 subst e;let:=d.qw (Zn _)<|d.hok.fresh<|Zn _
theorem HX {R:It->Hp->Prop}{E:D9->Dg}{lo c:Int}{t u v:Tok}{f:Nat}(I:Inv X Dn σ H s)(i:-(2 ^ 62)<=lo)(j:lo<2 ^ 62)(l:-(2 ^ 62)<=c)(n:c<2 ^ 62)
  (q:R (RA lo (c-lo).toNat) H):Eh (Ej X.prog X.w) X.A (pyIter<|.ref s.heap.objs.size) (PIE X Dn σ tg R) E { s with heap:=s.heap.push { cls:=.type "range",data:=.fields #v[.int lo t,.int c u,.int 1 v] },toks:=f }:=by
 let:=wpAny_pyIter_range (IsRange.new ..) (small_one i j l n) ?_;have d:Inv X Dn σ H { s with heap:=s.heap.push { cls:=.type "range",data:=.fields #v[.int lo t,.int c u,.int 1 v] },toks:=f }:=I.kept λb o e=>Zr _ e;let:=#[(s.heap.push { cls:=.type "range",data:=.fields #v[.int lo t,.int c u,.int 1 v] }).objs.size,[(s.heap.push { cls:=.type "range",data:=.fields #v[.int lo t,.int c u,.int 1 v] }).objs.size],_,_,H,rfl,d.kept (t':=f) λb o e=>Zr _ e,MN _ lo (c-lo).toNat,?_,λb p=>?_,q]
 .have g:lo+((0:Nat):Int)*1=lo:=by simp
  have h:(((c-lo).toNat:Nat):Int)-((0:Nat):Int)=Ln lo c 1:=by rw[rangeSize_one];split<;>lia
  rw[g,h];let:=ZG _ rfl
 .have e:b=(s.heap.push { cls:=.type "range",data:=.fields #v[.int lo t,.int c u,.int 1 v] }).objs.size:=by simpa using p
  subst e;let:=d.qw (Zn _)<|d.hok.fresh<|Zn _
def WQ (c:TA):TI:=λe H R=>c e H λd b=>∃j:Int,d=[.int j]/\-(2 ^ 62)<=j/\j<2 ^ 62/\R (RA 0 j.toNat) b
def WR (c:TA):TI:=λe H R=>c e H λd b=>∃i j:Int,d=[.int i,.int j]/\(-(2 ^ 62)<=i/\i<2 ^ 62/\-(2 ^ 62)<=j/\j<2 ^ 62)/\R (RA i (j-i).toNat) b
theorem x4 {a:EE}{p pos:Pos}(g:Gl X "range")(i:X.mg "range"=none)(f:PA X [a] ta)(l:Eo [a] X.env=[(false,ER a X.env)]:=by rfl):PI X tg (.Call (.Name "range" p) [a] [] pos) (WQ ta):=by
 intro c s u H R I h;let:=Call_<|uQ I g i boot_range<|YT (Ct (f pos c s u H _ I h) λy w ⟨z,v,d,o,b⟩=>?_) l rfl;let#[j,e,b,n,q]:=b;subst e;cases o with
 |cons r rr =>
  cases rr;let#[t,rfl]:=r;let:=call_range_1 (HX d ⋯ ⋯ b n<|by simpa using q)
theorem Om {a b:EE}{p pos:Pos}(n:Gl X "range")(o:X.mg "range"=none)(l:PA X [a,b] ta)(u:Eo [a,b] X.env=[(false,ER a X.env),(false,ER b X.env)]:=by rfl)(c:Eo [b] X.env=[(false,ER b X.env)]:=by rfl) :
  PI X tg (.Call (.Name "range" p) [a,b] [] pos) (WR ta):=by
 intro f s A H R I h;let:=Call_ (uQ I n o boot_range<|YT (Ct (l pos f s A H _ I h) λE C ⟨F,B,g,z,d⟩=>?_) (by rw[u,c]) (by rw[c];rfl));let#[i,j,e,#[d,v,w,y],q]:=d;subst e;cases z with
 |cons r rr =>
  cases rr with
  |cons r' rr =>
   cases rr;let#[t,rfl]:=r;let#[D,rfl]:=r';let:=call_range_2<|HX g d v w y q
def bM (n:TI)(g:TG)(l:TS):TS:=λD b H=>n b H λJ h=>∃W:Nat->Nat->St->Hp->Prop,(∃m,W 0 m b h)/\∀i m b H,W i m b H ->
 (J.stop i H/\D.nx b H)\/(J.go i H/\∃N:St->Hp->Prop,(∀d c,N d c->∃f,f<m/\W (i+1) f d c)/\∀x c,J.kh i H x c->g x b c λe j=>l { D with nx:=N,ct:=N,bk:=D.nx } e j)
def XO (c:Dc)(h:Es):Dd:=c.filterMap λb=>(h.get? b).map λo=>(b,o)
theorem kG {c:Dc}{h:Es}{b:D8}{o:Obj}(d:b∈c)(e:h.get? b=some o):(b,o)∈XO c h:=Jr.mpr #[b,d,by rw[e];rfl]
theorem Og {p:D8×Obj}(f:p∈XO fp h):p.1∈fp/\h.get? p.1=some p.2:=by
 let#[b,d,e]:=Jr.mp f;cases q:h.get? b with
 |none=>rw[q]at e;cases e
 |some o =>
  rw[q]at e;have c:(b,o)=p:=Option.some.inj e;subst c;let:=#[d,q]
theorem Inv.pinned {c:Dc}(I:Inv X Dn σ H s)(l:∀b∈c,XN X Dn H b)(n:∀b∈c,∃o,s.heap.get? b=some o/\∀v,o.data≠.cell v):Inv X (Dn++XO c s.heap) σ H s :=
 I.tO λp q=>(ZD.mp q).elim (λz=>I.pin p<|ZM _ z) λz=>by
  let#[g,e]:=Og z;let#[h,i,j,_]:=l p.1 g;let#[o,f,d]:=n p.1 g;rw[e]at f;cases f;let:=#[e,h,i,j,d]
theorem Inv.qi {b pl:Dd}(I:Inv X (b++pl) σ H s):Inv X b σ H s:=I.tO λp c=>I.pin p<|ZM _<|Z4 _ c
theorem yM {pos:Pos}(K:PassesOwn (Ej X.prog X.w) X.A X.env X.xe)(hc:X.calm=true)(hi:PI X tg iter wi)(hg:PG X tg g)(p:nZ X body tb)
  (hs:∀x,LW iter X.env x=Le x:=by intro _;rfl):PS X (.For tg iter body [] pos) (bM wi g tb):=by
 intro C s σ H D I h;let:=wpAny_For (Ct (hi C s σ H _ I h) λv s1 h1=>Ct h1 λaa s2 h2=>?_) hs;let#[it,F,tn,J,H2,e,I2,T,Y,f2,W,#[m0,w0],O]:=h2;subst e;have q:∀{z:Hp},(∀b∈F,z b=none)->∀b∈F,XN X C z b:=λhn b p=>#[hn b p,(f2 b p).2];let:=codeAny_forLoop_any (λn s'=>∃i t z,Inv X C t z s'/\tn i s'.heap/\(∀b∈F,z b=none)/\W i n t z) ?_ m0 #[0,σ,H2,I2,Y,λb p=>(f2 b p).1,w0];rintro n s3 ⟨i,y,P,I3,M,G,w3⟩
 rcases O i n y P w3 with⟨stop,qn⟩|⟨go,N,hN,step⟩
 .let:=JP K (Ct (T.done X rfl rfl rfl hc i C s3 y P X.xe I3 (q G) M stop) λr s4 ⟨S,I4⟩=>?_);subst S;let:=VB #[y,P,I4,qn]
 .let:=JP K (Ct (T.item X rfl rfl rfl hc i C s3 y P X.xe I3 (q G) M go) λr s4 ⟨u,S,h4⟩=>?_);subst S;let:=JP K<|Ct h4 λ_ s5 zq=>?_;let#[x,H5,I5,r5,y5,E,R]:=zq;have Q:=I5.pinned (q R)<|T.obj _ _ E;let:=JP K<|Ct (hg _ s5 y H5 x u _ Q r5<|step x H5 y5) λ_ s6 ⟨Z,H6,I6,q6⟩=>?_;let:=JP K<|Ct (p _ s6 Z H6 _ I6 q6) λf U B=>?_;have again:∀{c:St} {j:Hp},Inv X (C++XO F s5.heap) c j U->N c j->∃m,m<n/\∃i t z,Inv X C t z U/\tn i U.heap/\(∀b∈F,z b=none)/\W i m t z:=λ{c j} l L=>by
   let#[m',hm,w7]:=hN c j L;let:=#[m',hm,i+1,c,j,l.qi,T.keep _ _ _ E λb p o e=>(l.pin (b,o)<|ZM _<|ZM _<|kG p e).1,λb p=>?_,w7];let#[o,e,d]:=T.obj _ _ E b p;let:=(l.pin (b,o)<|ZM _<|ZM _<|kG p e).2.1
  cases f with
  |next=>let#[c,j,l,L]:=B;let:=again l L
  |cont=>let#[c,j,l,L]:=B;let:=again l L
  |brk=>let#[c,j,l,B]:=B;let:=#[c,j,l.qi,B]
  |ret v=>let#[x7,c,j,l,r7,B]:=B;let:=#[x7,c,j,l.qi,r7,B]
end
structure Ed (D:Ends)(N:St->Hp->Prop)(E:Ends):Prop where
 nx:∀σ H,N σ H->E.nx σ H
 ct:∀σ H,N σ H->E.ct σ H
 bk:∀σ H,D.nx σ H->E.bk σ H
 rt:∀v H,D.rt v H->E.rt v H
theorem Ed.me:Ed D N { D with nx:=N,ct:=N,bk:=D.nx }:=#[λ_ _ z=>z,λ_ _ z=>z,λ_ _ z=>z,λ_ _ z=>z]
theorem xQ {K:Co}{xs:Di}{g:TG}{d:TS}{D:Ends}{σ:St}{H:Hp}(b:Nat->St->Hp->Prop)(f:b 0 σ H)(hl:∀i σ H,i<=xs.length->b i σ H->za K H a xs)
  (j:∀i x σ H (E:Ends) (G:Prop),xs[i]?=some x->Ed D (b<|i+1) E->(g x σ H (λσ2 H2=>d E σ2 H2)->G)->b i σ H->G) (hd:∀σ H,b xs.length σ H->D.nx σ H) :
  ∃W:Nat->Nat->St->Hp->Prop,(∃m,W 0 m σ H)/\∀i m σ H,W i m σ H ->
   ((Rz K a).stop i H/\D.nx σ H)\/((Rz K a).go i H/\∃N:St->Hp->Prop,(∀σ' H',N σ' H'->∃m',m'<m/\W (i+1) m' σ' H')/\∀x H',(Rz K a).kh i H x H'->g x σ H' λσ2 H2=>d { D with nx:=N,ct:=N,bk:=D.nx } σ2 H2):=by
 let:=#[λi m σ H=>m=xs.length-i/\i<=xs.length/\b i σ H,#[xs.length,by simp,ZP _,f],?_];rintro i m σ H ⟨rfl,h,p⟩;have q:=hl i σ H h p
 by_cases c:i<xs.length
 .let:=.inr #[#[xs,xs[i],q,by simp[c]],b<|i+1,λσ' H' l=>#[xs.length-(i+1),⋯,rfl,c,l],λx H' y=>?_];let#[e,y]:=y;subst e;let:=j i x σ _ _ _ (y xs q) Ed.me id p
 .have e:i=xs.length:=⋯
  subst e;let:=.inl #[#[xs,q,Zn _],hd σ H p]
theorem Io {K:Co}{xs:Di}{g:TG}{d:TS}{D:Ends}{σ:St}{H:Hp}(b:Nat->St->Hp->Prop)(f:b 0 σ H)(hl:∀i σ H,i<=xs.length->b i σ H->yh K H a xs)
  (j:∀i x σ H (E:Ends) (G:Prop),xs[i]?=some x->Ed D (b<|i+1) E->(g x σ H (λσ2 H2=>d E σ2 H2)->G)->b i σ H->G) (hd:∀σ H,b xs.length σ H->D.nx σ H) :
  ∃W:Nat->Nat->St->Hp->Prop,(∃m,W 0 m σ H)/\∀i m σ H,W i m σ H ->
   ((S6 K a).stop i H/\D.nx σ H)\/((S6 K a).go i H/\∃N:St->Hp->Prop,(∀σ' H',N σ' H'->∃m',m'<m/\W (i+1) m' σ' H')/\∀x H',(S6 K a).kh i H x H'->g x σ H' λσ2 H2=>d { D with nx:=N,ct:=N,bk:=D.nx } σ2 H2):=by
 let:=#[λi m σ H=>m=xs.length-i/\i<=xs.length/\b i σ H,#[xs.length,by simp,ZP _,f],?_];rintro i m σ H ⟨rfl,h,p⟩;have q:=hl i σ H h p
 by_cases c:i<xs.length
 .let:=.inr #[#[xs,xs[i],q,by simp[c]],b<|i+1,λσ' H' l=>#[xs.length-(i+1),⋯,rfl,c,l],λx H' y=>?_];let#[e,y]:=y;subst e;let:=j i x σ _ _ _ (y xs q) Ed.me id p
 .have e:i=xs.length:=⋯
  subst e;let:=.inl #[#[xs,q,Zn _],hd σ H p]
theorem jK {lo:Int}{n:Nat}{g:TG}{d:TS}{D:Ends}{σ:St}{H:Hp}(c:Nat->St->Hp->Prop)(f:c 0 σ H)
  (h:∀i σ H (E:Ends) (G:Prop),i<n->Ed D (c<|i+1) E->(g (.int<|lo+i) σ H (λσ2 H2=>d E σ2 H2)->G)->c i σ H->G) (hd:∀σ H,c n σ H->D.nx σ H) :
  ∃W:Nat->Nat->St->Hp->Prop,(∃m,W 0 m σ H)/\∀i m σ H,W i m σ H ->
   ((RA lo n).stop i H/\D.nx σ H)\/((RA lo n).go i H/\∃N:St->Hp->Prop,(∀σ' H',N σ' H'->∃m',m'<m/\W (i+1) m' σ' H')/\∀x H',(RA lo n).kh i H x H'->g x σ H' λσ2 H2=>d { D with nx:=N,ct:=N,bk:=D.nx } σ2 H2):=by
 let:=#[λi m σ H=>m=n-i/\i<=n/\c i σ H,#[n,by simp,ZP _,f],?_];rintro i m σ H ⟨rfl,l,p⟩
 by_cases b:i<n
 .let:=.inr #[b,c<|i+1,λσ' H' j=>#[n-(i+1),⋯,rfl,b,j],λx H' y=>?_];let#[e,y]:=y;subst e y;let:=h i σ _ _ _ b Ed.me id p
 .have e:i=n:=⋯
  subst e;let:=.inl #[Zn _,hd σ H p]
theorem Rx {c:TT}{f:TS}{D:Ends}{σ:St}{H:Hp}(d:St->Hp->Prop)(e:St->Hp->Nat)(g:d σ H)
  (h:∀σ H,d σ H->c σ H λb H1=>if b=true then f { D with nx:=λσ' H'=>d σ' H'/\e σ' H'<e σ H,ct:=λσ' H'=>d σ' H'/\e σ' H'<e σ H,bk:=D.nx } σ H1 else D.nx σ H1)
  (mono:∀σ H Q Q',(∀b H1,Q b H1->Q' b H1)->c σ H Q->c σ H Q'):Rs c f D σ H:=by
 let:=#[λm σ H=>m=e σ H/\d σ H,#[_,rfl,g],?_];rintro m σ H ⟨rfl,p⟩;let:=mono σ H _ _ (λb H1 q=>?_)<|h σ H p;cases b with
 |true=>let:=#[_,λσ' H' ⟨i,l⟩=>#[_,l,rfl,i],q]
 |false=>let:=q
abbrev R2:=V->V->Hp->VK->Prop
def CH (X:Cx)(f:D9->D9->Sem D9)(r:R2):Prop :=
 ∀(b:Dd) (s:Eb) (c:St) (H:Hp) (x y:V) (v u:D9) (Q:VK),Inv X b c H s->yt x v->yt y u->r x y H Q ->
  Eh (Ej X.prog X.w) X.A (f v u) (EP X b c Q) X.xe s
def aU (X:Cx)(f:D9->Sem D9)(r:V->Hp->VK->Prop):Prop :=
 ∀(b:Dd) (s:Eb) (c:St) (H:Hp) (x:V) (v:D9) (Q:VK),Inv X b c H s->yt x v->r x H Q ->
  Eh (Ej X.prog X.w) X.A (f v) (EP X b c Q) X.xe s
def xf (X:Cx)(f:D9)(r:Di->Hp->VK->Prop):Prop :=
 ∀(b:Dd) (s:Eb) (e:St) (H:Hp) (d:Di) (c:Da) (Q:VK),Inv X b e H s->zb d c->r d H Q ->
  Eh (Ej X.prog X.w) X.A (call f c) (EP X b e Q) X.xe s
def aT (X:Cx)(r:V->Hp->(Bool->Hp->Prop)->Prop):Prop :=
 ∀(b:Dd) (s:Eb) (c:St) (H:Hp) (x:V) (v:D9) (Q:Bool->Hp->Prop),Inv X b c H s->yt x v->r x H Q ->
  Eh (Ej X.prog X.w) X.A (truthy v) (TP X b c Q) X.xe s
def aq (r:R2)(e f:TE):TE:=λb H Q=>e b H λx c=>f b c λy d=>r x y d Q
def tUn (r:V->Hp->VK->Prop)(c:TE):TE:=λd H Q=>c d H λx b=>r x b Q
def rU (g:Int->V):V->Hp->VK->Prop:=λx H Q=>∃i,x=.int i/\Q (g i) H
section
variable {X:Cx}{a b c:EE}{ta tb tc:TE}{pos:Pos}
theorem Tm (g:PE X a ta)(i:PE X b tb){c:Dd}{s:Eb}{σ:St}{H:Hp}{R:V->V->Hp->Prop}(I:Inv X c σ H s)
  (h:ta σ H λx H1=>tb σ H1 λy H2=>R x y H2) {Q:D9->Dg} {f:D9->D9->Sem D9}
  (j:∀v u s2 x y H2,Inv X c σ H2 s2->yt x v->yt y u->R x y H2->Eh (Ej X.prog X.w) X.A (f v u) Q X.xe s2) :
  Eh (Ej X.prog X.w) X.A (ER a X.env) (λv s₁=>Eh (Ej X.prog X.w) X.A (ER b X.env) (λu s₂=>Eh (Ej X.prog X.w) X.A (f v u) Q X.xe s₂) X.xe s₁) X.xe s:=by
 let:=Ct (g c s σ H _ I h) λv q ⟨x,H1,d,o,l⟩=>?_;let:=Ct (i c q σ H1 _ d l) λu s2 ⟨y,H2,e,p,n⟩=>?_;let:=j v u s2 x y H2 e o p n
theorem zP {c:Operator}(j:CH X (L7 c) r)(g:PE X a ta)(i:PE X b tb):PE X (.BinOp a c b pos) (aq r ta tb):=by
 intro d s p H Q I h;let:=wpAny_BinOp<|Tm g i I h λv u o x y e f l n q=>j d o p e x y v u Q f l n q
theorem PR {c:UnaryOp}(i:aU X (unaryOp c) r)(g:PE X a ta):PE X (.UnaryOp c a pos) (tUn r ta):=by
 intro b s d H Q I h;let:=UnaryOp_<|Ct (g b s d H _ I h) λv n ⟨x,e,f,l,j⟩=>i b n d e x v Q f l j
theorem bn {f:D9->D9->Sem D9}{C:Int->Int->Prop}{g:Int->Int->Int}
  (b:∀(i j:Int) (t u:Tok) (s:Eb) (Q:D9->Dg) (E:D9->Dg),C i j->Q (.int (g i j) s.toks) { s with toks:=s.toks+1 }->Eh (Ej X.prog X.w) X.A (f (.int i t)<|.int j u) Q E s) :
  CH X f (λx y H Q=>rT x λi=>rT y λj=>C i j/\Q (.int<|g i j) H):=by
 intro n s o H x y v u Q I d e h;let#[i,rfl,k]:=rT.ex h;let#[j,rfl,c,q]:=rT.ex k;let#[t,rfl]:=d;let#[l,rfl]:=e;let:=b i j t l s _ _ c #[.int<|g i j,H,I.tok _,#[_,rfl],q]
theorem W1 {f:D9->D9->Sem D9}{g:Int->Int->Int}
  (b:∀(i j:Int) (t u:Tok) (s:Eb) (Q:D9->Dg) (E:D9->Dg),Q (.int (g i j) s.toks) { s with toks:=s.toks+1 }->Eh (Ej X.prog X.w) X.A (f (.int i t)<|.int j u) Q E s) :
  CH X f (λx y H Q=>rT x λi=>rT y λj=>Q (.int<|g i j) H):=by
 intro l s n H x y v u Q I c d h;let#[i,rfl,k]:=rT.ex h;let#[j,rfl,q]:=rT.ex k;let#[t,rfl]:=c;let#[e,rfl]:=d;let:=b i j t e s _ _ #[.int<|g i j,H,I.tok _,#[_,rfl],q]
theorem R9 {f:D9->D9->Sem D9}{g:Int->Int->Bool}
  (b:∀(i j:Int) (t u:Tok) (s:Eb) (Q:D9->Dg) (E:D9->Dg),Q (.bool<|g i j) s->Eh (Ej X.prog X.w) X.A (f (.int i t)<|.int j u) Q E s) :
  CH X f (λx y H Q=>rT x λi=>rT y λj=>Q (.bl<|g i j) H):=by
 intro l s n H x y v u Q I c d h;let#[i,rfl,k]:=rT.ex h;let#[j,rfl,q]:=rT.ex k;let#[t,rfl]:=c;let#[e,rfl]:=d;let:=b i j t e s _ _ #[.bl<|g i j,H,I,rfl,q]
def aM (i j:Int):Prop:=0<j/\j<1073741824
def gW (i j:Int):Prop:=(-(2 ^ 64)<i/\i<2 ^ 64)\/(-(2 ^ 64)<j/\j<2 ^ 64)
theorem gW.ok (h:gW i j):IntMulOk i j:=by
 rcases h with⟨h1,h2⟩|⟨h1,h2⟩
 .let:=.of_left (intBits_le_64 h1 h2)
 .let:=.of_right (intBits_le_64 h1 h2)
theorem z8:CH X (L7 .Add) (λx y H Q=>rT x λi=>rT y λj=>Q (.int<|i+j) H):=W1 λ_ _ _ _ _ _ _ q=>add_int q
theorem Mn:CH X (L7 .Sub) (λx y H Q=>rT x λi=>rT y λj=>Q (.int<|i-j) H):=W1 λ_ _ _ _ _ _ _ q=>sub_int q
theorem v7:CH X (L7 .Mult) (λx y H Q=>rT x λi=>rT y λj=>gW i j/\Q (.int<|i*j) H):=bn λ_ _ _ _ _ _ _ b q=>mul_int q b.ok
theorem z9:CH X (L7 .FloorDiv) (λx y H Q=>rT x λi=>rT y λj=>aM i j/\Q (.int<|i / j) H):=bn λi j _ _ _ _ _ b q=>by
 have c:=b.1;have d:=b.2;let:=floordiv_int ⋯ (by rwa[Int.fdiv_eq_ediv_of_nonneg i<|⋯]) (.inl<|PyProof.noPylong_small<|⋯)
theorem yH:CH X (L7 .Mod) (λx y H Q=>rT x λi=>rT y λj=>0<j/\Q (.int<|i % j) H):=bn λi j _ _ _ _ _ b q=>by
 have c:=b;let:=mod_int' ⋯ (by rwa[Int.fmod_eq_emod_of_nonneg i<|⋯])
theorem unI {f:D9->Sem D9}{g:Int->Int}
  (b:∀(i:Int) (t:Tok) (s:Eb) (Q:D9->Dg) (E:D9->Dg),Q (.int (g i) s.toks) { s with toks:=s.toks+1 }->Eh (Ej X.prog X.w) X.A (f<|.int i t) Q E s) :
  aU X f (rU λi=>.int<|g i):=by
 intro d s e H x v Q I c h;let#[i,rfl,q]:=h;let#[t,rfl]:=c;let:=b i t s _ _ #[.int<|g i,H,I.tok _,#[_,rfl],q]
theorem MR:aU X (unaryOp .USub) (rU λi=>.int<|-i):=unI λ_ _ _ _ _ q=>neg_int q
def ae (x y:V):Bool:=match x with
 | .int _=>(match y with|.int _=>true|_=>false)
 | .str _=>(match y with|.str _=>true|_=>false)
 |_=>false
def rEq:R2:=λx y H Q=>ae x y=true/\Q (.bl<|decide (x=y)) H
def rNe:R2:=λx y H Q=>ae x y=true/\Q (.bl<|!decide (x=y)) H
theorem MY {i j:Int}:decide (V.int i=V.int j)=(i==j):=by
 rw[YY];simp
theorem MZ {i j:Str}:decide (V.str i=V.str j)=(i==j):=by
 rw[YY];simp
theorem XG {Q:VK}{k b:Bool}(I:Inv X Dn σ H s)(q:Q (.bl k) H)(e:k=b):EP X Dn σ Q (.bool b) s:=by
 subst e;let:=#[.bl k,H,I,rfl,q]
theorem yX:CH X (EH .Eq) rEq:=by
 intro f s g H x y v u Q I c d h;let#[b,q]:=h;cases x with
 |int i =>
  let#[t,rfl]:=c;cases y with
  |int j=>let#[e,rfl]:=d;let:=eq_int<|XG I q MY
  |_=>let:=absurd (show false=true from b) Z7
 |str i =>
  let#[t,rfl]:=c;cases y with
  |str j=>let#[e,rfl]:=d;let:=eq_str<|XG I q MZ
  |_=>let:=absurd (show false=true from b) Z7
 |_=>let:=absurd (show false=true from b) Z7
theorem PD:CH X (EH .NotEq) rNe:=by
 intro f s g H x y v u Q I c d h;let#[b,q]:=h;cases x with
 |int i =>
  let#[t,rfl]:=c;cases y with
  |int j=>let#[e,rfl]:=d;let:=ne_int<|XG I q<|congrArg not MY
  |_=>let:=absurd (show false=true from b) Z7
 |str i =>
  let#[t,rfl]:=c;cases y with
  |str j=>let#[e,rfl]:=d;let:=ne_str<|XG I q<|congrArg not MZ
  |_=>let:=absurd (show false=true from b) Z7
 |_=>let:=absurd (show false=true from b) Z7
theorem Xd:CH X (EH .Lt) (λx y H Q=>rT x λi=>rT y λj=>Q (.bl<|decide (i<j)) H):=R9 λ_ _ _ _ _ _ _ q=>lt_int q
theorem GS:CH X (EH .LtE) (λx y H Q=>rT x λi=>rT y λj=>Q (.bl<|decide (i<=j)) H):=R9 λ_ _ _ _ _ _ _ q=>le_int q
theorem HJ:CH X (EH .Gt) (λx y H Q=>rT x λi=>rT y λj=>Q (.bl<|decide (j<i)) H):=R9 λ_ _ _ _ _ _ _ q=>gt_int q
theorem W2:CH X (EH .GtE) (λx y H Q=>rT x λi=>rT y λj=>Q (.bl<|decide (j<=i)) H):=R9 λ_ _ _ _ _ _ _ q=>ge_int q
theorem K9:CH X (EH .Is) (λx y H Q=>y=.non/\Q (.bl<|decide (x=.non)) H):=by
 intro d s e H x y v u Q I b c h;let#[rfl,q]:=h;cases c;let:=is_none_gen<|XG I q ?_;cases x<;>first
  |(cases b;rfl)
  |(let#[t,rfl]:=b;rfl)
theorem B8:CH X (EH .IsNot) (λx y H Q=>y=.non/\Q (.bl<|!decide (x=.non)) H):=by
 intro d s e H x y v u Q I b c h;let#[rfl,q]:=h;cases c;let:=isnot_none_gen<|XG I q ?_;cases x<;>first
  |(cases b;rfl)
  |(let#[t,rfl]:=b;rfl)
theorem zS (b:EE){c:CmpOp}(h:c≠.In:=by decide)(f:c≠.NotIn:=by decide):behindInMarks c b=false:=by
 have d:(c==CmpOp.In)=false:=by cases c<;>first|rfl|let:=absurd rfl h
 have e:(c==CmpOp.NotIn)=false:=by cases c<;>first|rfl|let:=absurd rfl f
 cases b<;>simp[behindInMarks,d,e]
theorem xC {c:CmpOp}(l:CH X (EH c) r)(g:PE X a ta)(i:PE X b tb)(j:behindInMarks c b=false):PE X (.Compare a [c] [b] pos) (aq r ta tb):=by
 intro d s t H Q I h;let:=wpAny_Compare1 (Tm g i I h λv u p x y e f n o q=>l d p t e x y v u Q f n o q) j
inductive gw (x:V)(H:Hp)(Q:Bool->Hp->Prop):Prop
 |mk (k:Bool) (e:x=.bl k) (q:Q k H):gw x H Q
def av (t:TE):TT:=λc H Q=>t c H λx b=>gw x b Q
theorem zO {f:CmpOp}(A:CH X (EH f) r)(q:PE X a ta)(t:PE X b tb)(w:behindInMarks f b=false):PT X (.Compare a [f] [b] pos) (av<|aq r ta tb):=by
 intro d s g H Q I h;let:=wpAny_isTrue_Compare1 (Ct (q d s g H _ I h) λv J ⟨x,i,n,E,B⟩=>Ct (t d J g i _ n B) λu K ⟨y,j,o,F,C⟩ => Ct (A d K g j x y v u _ o E F C) λc L q9=>?_) w;let#[z,l,p,G,k,e,D]:=q9
 subst e;cases G;let:=Jg #[l,p,D]
def Wj (r g:R2)(ta tb tc:TE):TE:=λb H Q=>ta b H λx d=>tb b d λy e=>r x y e λz c=>∃k,z=.bl k /\
 (if k=true then tc b c λh f=>g y h f Q else Q (.bl false) c)
theorem ID {l f:CmpOp}(K:CH X (EH l) r)(j:CH X (EH f) r')(E:PE X a ta)(F:PE X b tb)(G:PE X c tc)
  (J:lastMarks [l,f] [b,c]=false:=by with_unfolding_all rfl):PE X (.Compare a [l,f] [b,c] pos) (Wj r r' ta tb tc):=by
 intro g s i H Q I h;let:=Compare_chain (Ct (E g s i H _ I h) λv S ⟨x,t,B,O,L⟩=>chain_link<|Ct (F g S i t _ B L) λu T ⟨y,w,C,q,M⟩ => Ct (K g T i w x y v u _ C O q M) λd U q9=>?_) J;let#[z,n,o,P,k,e,p]:=q9
 subst e;cases P;let:=Jg ?_;cases k with
 |false=>let:=ite_ff #[.bl false,n,o,rfl,p]
 |true=>let:=ite_tt<|chain_last<|Ct (G g U i n _ o p) λZ Y ⟨z',A,D,R,N⟩=>j g Y i A y z' u Z Q D q R N
def Tc (K:Co)(x:V)(H:Hp)(k:Bool):Prop :=
 match x with
 | .bl b=>k=b
 |_=>False
theorem sU:(sizeLine:Nat)<2 ^ 63:=by rw[Y3];decide
theorem Wv:aT X (λx H Q=>∃k,Tc X.K x H k/\Q k H):=by
 intro f s g H x v Q I d h;let#[k,e,q]:=h;cases x with
 |bl b =>
  cases d;have c:k=b:=e;subst c;let:=Jg #[H,I,q]
 |_=>let:=(show False from e).elim
theorem P0 (e:PE X a ta)(f:∀whole,isTrue a X.env whole=(do let v <-whole;standAt a.pos;Mb [v] (truthy v))) :
  PT X a (λσ H Q=>ta σ H λx H'=>∃k,Tc X.K x H' k/\Q k H'):=by
 intro b s σ H Q I h;let:=isTrue_plain (Ct (e b s σ H _ I h) λv j ⟨x,c,d,i,g⟩=>Wv b j σ c x v Q d i g) (f _)
theorem jJ:CH X (L7 .Add) (λx y H Q=>∃i j,x=.str i/\y=.str j/\i.length+j.length<=sizeLine/\Q (.str<|i++j) H):=by
 intro f s l H x y v u Q I c d h;let#[i,j,rfl,rfl,b,q]:=h;let#[t,rfl]:=c;let#[e,rfl]:=d;let:=add_str (λe g=>#[.str<|i++j,H,I.tok _,#[_,rfl],q]) b
theorem wM {x:V}(r:zb [x] us):∃u,us=[u]/\yt x u:=by
 cases r with
 |cons r1 r2=>cases r2;let:=#[_,rfl,r1]
theorem vals2 {x y:V}(r:zb [x,y] us):∃u w',us=[u,w']/\yt x u/\yt y w':=by
 cases r with
 |cons r1 r2 =>
  cases r2 with
  |cons r3 r4=>cases r4;let:=#[_,_,rfl,r1,r3]
theorem BT (c:X.calm=true):xf X (.builtin "max") (λxs H Q=>∃i j,xs=[.int i,.int j]/\Q (.int<|if j>i then j else i) H):=by
 intro d s o H xs l Q I r h;let#[i,j,rfl,q]:=h;let#[u,n,rfl,#[t,rfl],#[f,rfl]]:=vals2 r;let:=max_two_ints (I.ok.hd c) λe g k=>#[_,H,I.kept k,?_,q]
 by_cases b:j>i
 .rw[ZJ b,ZJ b];let:=#[_,rfl]
 .rw[ZI b,ZI b];let:=#[_,rfl]
theorem qZ:xf X (.type "str") (λxs H Q=>∃i,xs=[.int i]/\i.natAbs.log2<1920/\Q (.str<|LB i) H):=by
 intro c s e H xs d Q I r h;let#[i,rfl,b,q]:=h;let#[u,rfl,t,rfl]:=wM r;let:=PySem.P.str_of_int b #[.str _,H,I.tok _,#[_,rfl],q]
theorem FO:xf X (.builtin "ord") (λxs H Q=>∃x,xs=[.str x]/\x.length=1/\Q (.int (x.cps.getD 0 0:Nat)) H):=by
 intro c s e H xs d Q I r h;let#[x,rfl,b,q]:=h;let#[u,rfl,t,rfl]:=wM r;let:=ord_of_one b #[.int _,H,I.tok _,#[_,rfl],q]
end
structure lR (h:Es)(x dx C:D8)(mA:Str->Db):Prop where
 obj:h.get? x=some (E8 C dx)
 ns:h.Ns1 dx mA
 ne:dx≠x
theorem Oa {h:Es}{b:D8}{d:Str->Db}(n:h.Ns1 b d):∃od,h.get? b=some od/\∀name,PySem.W.lookIn name od=some (d name):=by
 let#[o,c,r,l,hd,i,_,j]:=n;let:=#[o,l,λname=>?_];have e:=j name;unfold nsFind findBy at e;rw[<-Array.find?_toList]at e;unfold PySem.W.lookIn;rw[hd];dsimp only
 split
 .rename_i y q;rw[q]at e;let:=congrArg some e
 .rename_i q;rw[q]at e;have a:c.toList.any (·.refKey)=false:=by
   rw[VL];intro y p;let#[z,t,f]:=i y<|Array.mem_toList_iff.mp p;simp[DictEntry.refKey,f]
  have g:¬c.toList.any (·.refKey)=true:=by rw[a];let:=Z7
  rw[ZI g];let:=congrArg some e
theorem lR.look (I:lR h x dx C mA):∃od,PySem.W.InstAt h x (E8 C dx) C (some od)/\∀name,PySem.W.lookIn name od=some (mA name) :=
 let ⟨od,ho,hl⟩:=Oa I.ns
 #[od,#[I.obj,rfl,rfl,ho],hl]
section
variable {prog:Ea}{w:Ef}{A:Ez}{E:D9->Dg}{s:Eb}{K:Co}{x dx C f:D8}{mA:Str->Db}{name:Str}{v:D9}
theorem RT {b:Bool}{Q:D9->Dg}(X:K.In s.heap)(I:lR s.heap x dx C mA)(e:Lo K C name=true)(f:Lz K C=true)
  (d:ED K (.ref C) name=some none) (g:mA name=some v) (c:PySem.W.handedIn v=true) (h:Q v { s with toks:=s.toks+1 }) :
  Eh (Ej prog w) A (getAttr (.ref x) name b) Q E s:=by
 let#[i,J,hl]:=I.look;let:=PySem.W.get_value X J (V7 e).1 (PySem.W.findObj_own f d rfl<|by rw[hl,g]) c h
theorem OY {pl:Sem Bool}{Q:D9×Da->Dg}(X:K.In s.heap)(I:lR s.heap x dx C mA)(b:Lo K C name=true)
  (c:ED K (.ref C) name=some (some<|.ref f)) (d:Mc K (.ref f)=true) (e:mA name=none) (h:Q (.ref f,[.ref x]) s) :
  Eh (Ej prog w) A (Mf (.ref x) name pl) Q E s:=by
 let#[g,J,hl]:=I.look;let:=PySem.W.method_fn X J (V7 b).1 (V7 b).2 c (JW.mp d) (by show(PySem.W.lookIn name g).map (·.isSome)=some false;rw[hl,e];rfl) h
theorem Sx {ns:By}{Q:Unit->Dg}(X:K.In s.heap)(I:lR s.heap x dx C mA)
  (q:ED K (.ref C) "__setattr__"=some (some<|.builtin "object.__setattr__")) (p:LX K C=true) (t:PySem.W.takerIn K C name=some none) (o:Lz K C=true)
  (u:PySem.Within mA ns) (r:ns.length<=sizeLine)
  (h:∀h',lR h' x dx C (λy=>if y=name then some v else mA y)->E4 dx s.heap h'->Q () { s with heap:=h',toks:=s.toks+2 }) :
  Eh (Ej prog w) A (setAttr (.ref x) name v) Q E s:=by
 let#[F,J,hl]:=I.look;let:=PySem.W.set_plain X J q<|PySem.W.osa_open X J p t λb=>?_;let#[B,n,f]:=PySem.W.any_some o;have z:=I.obj;let:=Zl<|Zw<|Zl<|Zl<|wpAny_loadPart z<|Zl<|PySem.W.Looks.here (PySem.W.looks_clsIn X n) ?_;rw[f];let:=Zw<|Zl<|Zw<|Zl ?_;let:=wpAny_nsSet1 I.ns λh' c d=>?_;let#[D,l,j,i,g,e]:=c.count<|PySem.Within.cons name v u;let:=Zl (wpAny_lookBehind i (by rw[g];let:=pastItsLine_dict<|Z2 e (by rw[ZH];lia)) ?_);let:=Zw<|h _ #[(d.2 _<|Er I.ne).trans I.obj,c,I.ne] d
theorem Hw {R:Result->Dg}{vs:Da}{b:List (Str×D9)}(X:K.In s.heap)(i:Lx K C=true)
  (e:ED K (.ref C) "__init__"=some (some<|.ref f)) (c:PySem.W.typeIn K (.ref f)=some (.type "function"))
  (h:LN (Ej prog w) (A.under<|.builtin "type.__call__" #[.ref C::vs,b]) (.call (.ref f) #[.ref (s.heap.objs.size+1)::vs,b]) (PySem.W.InitBack (s.heap.objs.size+1) R) { s with heap:=(s.heap.push ET).push (E8 C s.heap.objs.size) }) :
  LN (Ej prog w) A (.call (.ref C) #[vs,b]) R s:=by
 let#[j,g,d,t,os]:=s;let:=PySem.W.make_core (PySem.W.makes_of X i) (PySem.W.looks_findIn X e) (λself=>PySem.W.bind_fn X self c) (.inl rfl) h
end
def UD (f:Str)(v:V):List (Str×V)->List (Str×V)
 |[]=>[(f,v)]
 |(g,x)::r=>if g=f then(g,v)::r else(g,x)::UD f v r
theorem X0 (f g:Str)(v:V):∀fs:List<|Str×V,(UD f v fs).lookup g=if g=f then some v else fs.lookup g
 |[]=>by
  show Lu g [(f,v)]=_
  by_cases h:g=f
  .have b:=JW.mpr h;simp only[Lu,b,ZJ h]
  .have b:=Y2.mpr h;simp only[Lu,b,ZI h]
 |(k,x)::r=>by
  have d:=X0 f g v r;rw[show UD f v ((k,x)::r)=(if k=f then(k,v)::r else(k,x)::UD f v r) from rfl]
  by_cases c:k=f
  .rw[ZJ c]
   by_cases h:g=k
   .have b:=JW.mpr h;simp only[Lu,b,ZJ<|h.trans c]
   .have b:=Y2.mpr h;simp only[Lu,b,ZI (λe:g=f=>h<|e.trans c.symm)]
  .rw[ZI c]
   by_cases h:g=k
   .have b:=JW.mpr h;simp only[Lu,b,ZI (λe:g=f=>c<|h.symm.trans e)]
   .have b:=Y2.mpr h;simp only[Lu,b];let:=d
theorem XC (f:Str)(v:V):∀fs:List<|Str×V,f∈(UD f v fs).map (·.1)/\∀g,g∈fs.map (·.1)->g∈(UD f v fs).map (·.1)
 |[]=>#[by simp[UD],λg h=>by simp at h]
 |(k,x)::r=>by
  let#[c,d]:=XC f v r;rw[show UD f v ((k,x)::r)=(if k=f then(k,v)::r else(k,x)::UD f v r) from rfl]
  by_cases b:k=f
  .rw[ZJ b];subst b;let:=#[by simp,λg h=>by simpa using h]
  .rw[ZI b];let:=#[?_,λg h=>?_]
   .rw[ZR];let:=Zp _ c
   .rw[ZR]at h ⊢
    rcases Zx.mp h with e|e
    .let:=Zx.mpr (.inl e)
    .let:=Zp _ (d g e)
theorem XW (f:Str)(v:V):∀fs:List<|Str×V,(UD f v fs).length<=fs.length+1
 |[]=>by simp[UD]
 |(k,x)::r=>by
  have c:=XW f v r;rw[show UD f v ((k,x)::r)=(if k=f then(k,v)::r else(k,x)::UD f v r) from rfl]
  by_cases b:k=f
  .rw[ZJ b,ZH,ZH];lia
  .rw[ZI b,ZH,ZH];lia
theorem tD.some_of {v:V}(r:tD (some v) o):∃u,o=some u/\yt v u:=by
 cases o with
 |none=>let:=(show False from r).elim
 |some u=>let:=#[u,rfl,r]
theorem tD.none_of (r:tD none o):o=none:=by
 cases o with
 |none=>rfl
 |some u=>let:=(show False from r).elim
theorem NX (r:yt v u):PySem.W.handedIn u=true:=by
 cases v with
 |non=>cases(show u=EB from r);rfl
 |bl b=>cases(show u=Mi b from r);rfl
 |int i=>let#[t,e]:=(show∃t,u=Value.int i t from r);cases e;rfl
 |str x=>let#[t,e]:=(show∃t,u=Me x t from r);cases e;rfl
 |byt b=>let#[t,e]:=(show∃t,u=Value.bytes b t from r);cases e;rfl
 |flt b=>let#[t,e]:=(show∃t,u=Value.float b t from r);cases e;rfl
 |ref a=>cases(show u=Em a from r);rfl
 |ty n=>cases(show u=EJ n from r);rfl
section
variable {P:Ea}{w:Ef}{H H':Hp}{h h':Es}{a C dx:D8}{fs fs':List (Str×V)}
theorem Ij (hok:sy P w H h)(e:H a=some (.ins C dx fs)):∃mA,lR h a dx C mA/\(∀f,tD (fs.lookup f)<|mA f)/\PySem.Within mA (fs.map (·.1))/\fs.length<=1000/\H dx=some (.own a):=by
 let#[d,z,ne,b,mA,n,r,q]:=(show yq P w H h a (.ins C dx fs) from hok a _ e);let:=#[mA,#[b,n,ne],r,q,z,d]
end
structure Cls (K:Co)(C:D8):Prop where
 pg:Lo K C LQ=true
 hd:Lz K C=true
 po:LX K C=true
 sa:ED K (.ref C) "__setattr__"=some (some<|.builtin "object.__setattr__")
theorem Cls.get {K:Co}(c:Cls K C)(f:Str):Lo K C f=true:=c.pg
def uw (K:Co)(C:D8)(f:Str):Prop:=ED K (.ref C) f=some none
theorem uw.taker {K:Co}(n:uw K C f):PySem.W.takerIn K C f=some none:=by
 unfold PySem.W.takerIn;rw[show ED K (.ref C) f=some none from n];rfl
structure Meth (K:Co)(C:D8)(m:Str)(f:D8):Prop where
 at_:ED K (.ref C) m=some (some<|.ref f)
 fn:Mc K (.ref f)=true
 kp:EK K (.ref f)=true
section
variable {X:Cx}{Dn:Dd}{σ:St}{H:Hp}{s:Eb}{a C dx:D8}{fs:List (Str×V)}{f:Str}{v:V}{A:Ez}{E:D9->Dg}
theorem KM {b:Bool}{Q:D9->Dg}(I:Inv X Dn σ H s)(e:H a=some (.ins C dx fs))(c:Cls X.K C)(n:uw X.K C f)(l:fs.lookup f=some v)
  (h:∀u s',Inv X Dn σ H s'->yt v u->Q u s'):Eh (Ej X.prog X.w) A (getAttr (.ref a) f b) Q E s:=by
 let#[i,O,r,_,_,_]:=Ij I.hok e;let#[u,g,d]:=tD.some_of (by rw[<-l];let:=r f);let:=RT I.sZ O (c.get f) c.hd n g (NX d)<|h u _ (I.tok _) d
theorem vE {pl:Sem Bool}{Q:D9×Da->Dg}(I:Inv X Dn σ H s)(e:H a=some (.ins C dx fs))(c:Cls X.K C)(k:Meth X.K C m g)(l:fs.lookup m=none)
  (h:Q (.ref g,[.ref a]) s):Eh (Ej X.prog X.w) A (Mf (.ref a) m pl) Q E s:=by
 let#[d,O,r,_,_,_]:=Ij I.hok e;have b:=tD.none_of (by rw[<-l];let:=r m);let:=OY I.sZ O (c.get m) k.at_ k.fn b h
theorem MB {Q:Unit->Dg}(I:Inv X Dn σ H s)(e:H a=some (.ins C dx fs))(c:Cls X.K C)(n:uw X.K C f)(hl:fs.length<1000)(F:yt y u)
  (h:∀s',Inv X Dn σ (upd H a<|.ins C dx<|UD f y fs) s'->Q () s'):Eh (Ej X.prog X.w) A (setAttr (.ref a) f u) Q E s:=by
 let#[j,O,r,l,_,i]:=Ij I.hok e;have B:(fs.map (·.1)).length<=sizeLine:=by rw[Zj,Y3];lia
 let:=Sx I.sZ O c.sa c.po n.taker c.hd l B λp d D=>h _ ?_;have hd:∃o,p.get? dx=some o:=let #[o,_,_,e',_]:=d.ns;#[o,e'];let:=I.write (by rw[e];let:=Ld) (.inr i) (λb q t z=>(D.2 b t).trans z) hd ?_;let:=#[by rw[zH O.ne];let:=i,?_,O.ne,d.obj,_,d.ns,λg=>?_,λg v=>?_]
 .have:=XW f y fs;lia
 .show tD ((UD f y fs).lookup g) (if g=f then some u else j g);rw[X0]
  by_cases q:g=f
  .rwa[ZJ q,ZJ q]
  .rw[ZI q,ZI q];let:=r g
 .by_cases q:g=f
  .rw[q];let:=(XC f y fs).1
  .let:=(XC f y fs).2 g (l g λz=>v ?_);show(if g=f then some u else j g)=none;rwa[ZI q]
theorem Inv.made (I:Inv X Dn σ H s):Inv X Dn σ (upd (upd H s.heap.objs.size<|.own<|s.heap.objs.size+1) (s.heap.objs.size+1)<|.ins C s.heap.objs.size [])
  { s with heap:=(s.heap.push ET).push (E8 C s.heap.objs.size) }:=by
 have c:(s.heap.push ET).get? s.heap.objs.size=some PySem.W.emptyDict:=ZG s.heap rfl;have f:((s.heap.push ET).push<|E8 C s.heap.objs.size).get? (s.heap.objs.size+1)=some (E8 C s.heap.objs.size):=by
  have:=ZG (s.heap.push ET) (o:=E8 C s.heap.objs.size) rfl
  rwa[Jy]at this
 have g:(s.heap.push ET).Ns s.heap.objs.size (λ_=>none):=#[ET,#v[],_,c,rfl,(λe h=>absurd h<|by simp),λ_=>rfl];have d:=I.laid (o:=.own<|s.heap.objs.size+1) (h':=s.heap.push ET) (t':=s.toks) (λb u q=>Zr _ q) (Zn _) #[_,c];let:=d.laid (t':=s.toks) (λb u q=>Zr _ q) (Vb<|Jy _ _) ?_;have ne:s.heap.objs.size≠s.heap.objs.size+1:=ZZ<|J4 _;let:=#[by rw[zH ne,zB],ZP _,ne,f,λ_=>none,(Heap.Ns1.of_empty g).at λo q=>Zr _ q,λ_=>Ld,λy i=>absurd rfl i]
theorem RF {prog:Ea}{w:Ef}{env:Env}{e:EE}{f:Str}{pos:Pos}{s:Eb}{Q:D9->Dg}(b:Ly e f env (ER e env)=ER e env)
  (h:Eh (Ej prog w) A (ER e env) (λo s₁=>Eh (Ej prog w) A (getAttr o f true) Q E s₁) E s):Eh (Ej prog w) A (ER (.Attribute e f pos) env) Q E s :=
 Attribute_any_ h (by rw[arm_eval_Attribute,b])
end
inductive gD (K:Co)(f:Str)(x:V)(H1:Hp)(Q:VK):Prop
 |mk (a C dx:D8) (fs:List<|Str×V) (v:V) (e:x=.ref a) (h:H1 a=some (.ins C dx fs)) (c:Cls K C) (n:uw K C f) (l:fs.lookup f=some v) (q:Q v H1):gD K f x H1 Q
def bL (K:Co)(c:TE)(f:Str):TE:=λd H Q=>c d H λx b=>gD K f x b Q
def bF (K:Co)(g h:TE)(f:Str):TS:=λD b H=>h b H λy e=>g b e λx c=>∃a C d fs,x=.ref a/\c a=some (.ins C d fs)/\Cls K C/\uw K C f/\fs.length<1000 /\
 D.nx b (upd c a<|.ins C d<|UD f y fs)
section
variable {X:Cx}{o e value:EE}{f:Str}{pos DF tpos:Pos}{ta tv:TE}
theorem xP (p:PE X e ta)(o:Ly e f X.env (ER e X.env)=ER e X.env):PE X (.Attribute e f pos) (bL X.K ta f):=by
 intro b s y H Q I h;let:=RF o<|Ct (p b s y H _ I h) λu A w=>?_;let#[x,d,g,t,a,C,z,fs,v,ex,j,c,n,l,q]:=w;subst ex;obtain rfl:u=Em a:=t;let:=KM g j c n l λD B i r=>#[v,d,i,r,q]
theorem IH (r:PE X o ta)(v:PE X value tv)(t:L4 value (some<|.Attribute o f DF) pos.line X.env=Le false):PS X (.Assign [.Attribute o f DF] value pos) (bF X.K ta tv f):=by
 intro d s b H D I h;let:=plainObj_wpAny_Assign_Attribute (Ct (v d s b H _ I h) λu E ⟨y,e,g,B,q⟩=>Ct (r d E b e _ g q) λw L F=>?_) t;let#[x,G,i,A,a,C,J,fs,ex,p,c,n,l,z]:=F;subst ex;obtain rfl:w=Em a:=A;let:=MB i p c n l B λM j=>#[b,_,j,z]
end
section
variable {X:Cx}{Dn:Dd}{σ:St}{H:Hp}{s:Eb}{A:Ez}{E:D9->Dg}{Q:D9->Dg}{c:D9}{b:Bool}
inductive rP (K:Co)(H:Hp):V->D9->Prop where
 |non:rP K H .non<|.type "NoneType"
 |bl (x:Bool):rP K H (.bl x)<|.type "bool"
 |int (i:Int):rP K H (.int i)<|.type "int"
 |str (x:Str):rP K H (.str x)<|.type "str"
 |flt (x:UInt64):rP K H (.flt x)<|.type "float"
 |lst {a:D8} {xs:Di} (e:H a=some (.lst xs)):rP K H (.ref a)<|.type "list"
 |frz {a:D8} {o:Obj} {xs:Di} (e:H a=some (.frz o<|.lst xs)):rP K H (.ref a)<|.type "list"
 |tup {a:D8} {xs:Di} (e:H a=some (.tup xs)):rP K H (.ref a)<|.type "tuple"
 |dK {a:D8} {Dl:Dk} (e:H a=some (.dK Dl)):rP K H (.ref a)<|.type "dict"
 |dT {a:D8} {Dl:List (List Key×V)} (e:H a=some (.dT Dl)):rP K H (.ref a)<|.type "dict"
 |ins {a C dx:D8} {fs:List (Str×V)} (e:H a=some (.ins C dx fs)) (cl:Cls K C) (ha:ED K (.ref C) "__class__"=some (some<|.builtin "object.__class__"))
   (hn:PySem.W.specialIn K (.builtin "object.__class__") "__get__"=some (some<|.builtin "getset_descriptor.__get__")) (htk:PySem.W.takesIn K (.builtin "object.__class__")=some true)
   (hm:PySem.W.mroIn K C (.type "object")=some true):rP K H (.ref a)<|.ref C
theorem jG (I:Inv X Dn σ H s)(d:yt x u)(ty:rP X.K H x t)(e:E6 X.K t c=some b)(h:∀tk,Q (.bool b) { s with toks:=tk }) :
  Eh (Ej X.prog X.w) A (call (.builtin "isinstance") [u,c]) Q E s:=by
 cases ty with
 |non=>cases(show u=EB from d);let:=YA PySem.W.kitx_none I.sZ Ld e (λz=>nomatch z) h
 |bl y=>cases(show u=Mi y from d);let:=YA PySem.W.kitx_bool I.sZ Ld e (λz=>nomatch z) h
 |int i=>let#[t,q]:=(show∃t,u=Value.int i t from d);cases q;let:=YA PySem.W.kitx_int I.sZ Ld e (λz=>nomatch z) h
 |str y=>let#[t,q]:=(show∃t,u=Me y t from d);cases q;let:=YA PySem.W.kitx_str I.sZ Ld e (λz=>nomatch z) h
 |flt y=>let#[t,q]:=(show∃t,u=Value.float y t from d);cases q;let:=YA PySem.W.kitx_float I.sZ Ld e (λz=>nomatch z) h
 | @lst a g ea =>
  cases(show u=Em a from d);let#[_,_,n,_,f]:=(show yq X.prog X.w H s.heap a (.lst g) from I.hok a _ ea);let:=YA Uf I.sZ #[_,f,rfl] e (λz=>nomatch z) h
 | @frz a ob g ea =>
  cases(show u=Em a from d);let#[_,_,_,n,_,f]:=(show yq X.prog X.w H s.heap a (.frz ob<|.lst g) from I.hok a _ ea);let:=YA Uf I.sZ #[_,f,rfl] e (λz=>nomatch z) h
 | @tup a g ea =>
  cases(show u=Em a from d);let#[_,_,_,p]:=(show yq X.prog X.w H s.heap a (.tup g) from I.hok a _ ea);let#[o,f,j,_]:=p;let:=YA PySem.W.kitx_tuple I.sZ #[o,f,j] e (λz=>nomatch z) h
 | @dK a Dl ea =>
  cases(show u=Em a from d);let#[_,_,D,_,p]:=(show yq X.prog X.w H s.heap a (.dK Dl) from I.hok a _ ea);let#[o,r,l,f,j,_]:=p;let:=YA Ug I.sZ #[o,f,j.1] e (λz=>nomatch z) h
 | @dT a Dl ea =>
  cases(show u=Em a from d);let#[_,_,g,_,o,r,l,f,j,_]:=(show yq X.prog X.w H s.heap a (.dT Dl) from I.hok a _ ea);let:=YA Ug I.sZ #[o,f,j.1] e (λz=>nomatch z) h
 | @ins a C dx fs ea cl ha hn htk hm =>
  cases(show u=Em a from d);let#[v,O,_]:=Ij I.hok ea;let#[B,J,_]:=O.look;let:=YA (PySem.W.kitx_own (cl.get _) cl.hd ha hn htk hm) I.sZ J e (λz=>nomatch z) h
end
structure wX (k:Nat)(A:Ez):Prop where
 hd:A.handled=none
 dp:A.depth+3*k+5<recursionLimit
 un:A.units+16*k+200<Lc
theorem wX.mono {j:Nat}(r:wX k A)(h:j<=k):wX j A:=#[r.hd,by have:=r.dp;lia,by have:=r.un;lia]
theorem wX.m {j:Nat}(r:wX k A)(h:j<=k:=by decide):wX j A:=r.mono h
theorem wX.deeper {k:Nat}(r:wX (k+1) A)(env:Env):wX k (A.deeper env) :=
 #[r.hd,by have:=r.dp;show A.depth+1+3*k+5<_;lia,by have:=r.un;show A.units+3+16*k+200<_;lia]
theorem KZ {A:Ez}{C:D8}{c:Da}{b:List (Str×D9)}:(A.under<|.builtin "type.__call__" #[.ref C::c,b]).depth=A.depth+1:=by
 first|rfl|simp[Around.under,Code.weight,Code.isCreation,Code.isGuard,Code.isCaller,Code.frames,Code.isFrame,guardIds]
theorem K0 {A:Ez}{C:D8}{c:Da}{b:List (Str×D9)}:(A.under<|.builtin "type.__call__" #[.ref C::c,b]).units=A.units+1:=by
 first|rfl|simp[Around.under,Code.cUnits,Code.frames,Code.isFrame]
theorem wX.make {k:Nat}(r:wX (k+1) A)(C:D8)(c:Da)(b:List<|Str×D9):wX k (A.under<|.builtin "type.__call__" #[.ref C::c,b]) :=
 #[r.hd,by have:=r.dp;rw[KZ];lia,by have:=r.un;rw[K0];lia]
theorem wX.depth (r:wX k A):A.depth<recursionLimit:=by have:=r.dp;lia
theorem wX.units (r:wX k A):A.units+64<cLine:=by have:=r.un;lia
def X7:TA:=λ_ H Q=>Q [] H
def ah (e:TE)(f:TA):TA:=λb H Q=>e b H λx c=>f b c λg d=>Q (x::g) d
section
variable {X:Cx}{e:EE}{es:List EE}{te:TE}{t:TA}{pos:Pos}
theorem zC:PA X [] X7:=λ_ _ _ _ H Q I h=>Calls.spliced_nil #[[],H,I,.nil,h]
theorem zA (j:PE X e te)(l:PA X es t)(n:Eo (e::es) X.env=(false,ER e X.env)::Eo es X.env:=by rfl):PA X (e::es) (ah te t):=by
 intro pos b s c H Q I h;rw[n];let:=LP<|Ct (j b s c H _ I h) λu v ⟨x,d,g,q,o⟩=>?_;let:=Ct (l pos b v c d _ g o) λz y ⟨w,f,i,r,p⟩=>#[x::w,f,i,.cons q r,p]
inductive gY (o:Di->HO)(Q:VK)(xs:Di)(H1:Hp):Prop
 |mk (l:xs.length<=sizeLine) (q:∀p,H1 p=none->Q (.ref p) (upd H1 p<|o xs)):gY o Q xs H1
def bU (t:TA):TE:=λd H Q=>t d H λc b=>gY .tup Q c b
def bP (t:TA):TE:=λd H Q=>t d H λc b=>gY .lst Q c b
theorem yW {x1}(h:PA X es t):PE X (.Tuple es x1 pos) (bU t):=by
 intro f s o H Q I j;let:=wpAny_Tuple_spliced (Ct (h pos f s o H _ I j) λl c ⟨n,g,d,r,z,q⟩=>#[by rw[<-r.length];let:=z,?_]);have i:=d.hok.fresh<|Zn _;let:=#[.ref c.heap.objs.size,upd g c.heap.objs.size<|.tup n,d.laid (t':=c.toks) (λb u e=>Zr _ e) (Zn _) ?_,rfl,q _ i];let:=#[z,l,r,TupAt.new _ _]
theorem yA (h:PA X es t):PE X (.List es pos) (bP t):=by
 intro f s o H Q I j;let:=wpAny_List_spliced (Ct (h pos f s o H _ I j) λl c ⟨n,g,d,r,z,q⟩=>#[by rw[<-r.length];let:=z,?_]);have i:=d.hok.fresh<|Zn _;let:=#[.ref c.heap.objs.size,upd g c.heap.objs.size<|.lst n,d.laid (t':=c.toks) (λb u e=>Zr _ e) (Zn _) ?_,rfl,q _ i];let:=#[z,l,0,r,ZG _ rfl]
end
abbrev Sp:=Di->Hp->VK->XK->Prop
abbrev ND:=List Env->Hp->Eb->XK->D9->Dg
structure mC (P:Ea)(w:Ef)(K:Co)(mg:Str->Db)(base:Es)(A:Ez)(outer:List Env)(s:Eb)(H:Hp):Prop where
 frames:A.frames=some outer
 mod:Mod K mg base
 bs:∀b o,base.get? b=some o->s.heap.get? b=some o/\H b=none
 ju:base.objs.size<=s.heap.objs.size
 rY:s.heap.FunFrames base outer
 iW:∀b∈frs outer,H b=none
 hok:sy P w H s.heap
 bare:Ma s.gens
def CE (outer:List Env)(P:Ea)(w:Ef)(H:Hp)(s:Eb)(Q:VK)(u:D9)(b:Eb):Prop :=
 ∃v c,b.os=s.os/\Ma b.gens/\Un (frs outer) [] H c s.heap b.heap/\sy P w c b.heap/\yt v u/\Q v c
def CR (CX:ND)(outer:List Env)(P:Ea)(w:Ef)(H:Hp)(s:Eb)(Q:VK)(E:XK)(r:Result)(b:Eb):Prop :=
 match r with
 | .ok (.ret u)=>CE outer P w H s Q u b
 | .ok _=>False
 | .error e=>CX outer H s E e b
structure zc (P:Ea)(w:Ef)(K:Co)(mg:Str->Db)(base:Es)(CX:ND)(k:Nat)(f:D8)(fd:Ee)(ps:By)(sp:Sp):Prop where
 len:∀vs H Q E,sp vs H Q E->vs.length=ps.length
 run:∀(A:Ez) (outer:List Env) (s:Eb) (H:Hp) (args:Args) (us:Da) (vs:Di) (Q:VK) (E:XK),wX k A->mC P w K mg base A outer s H->BindsTo s fd args (ps.zip us)->zb vs us->sp vs H Q E ->
  LN (Ej P w) A (.call (.ref f) args) (CR CX outer P w H s Q E) s
theorem zc.mono {K:Co}{k:Nat}(F:zc P w K mg base CX j f fd ps sp)(h:j<=k) :
  zc P w K mg base CX k f fd ps sp:=#[F.len,λA outer s H b d e Q E c=>F.run A outer s H b d e Q E<|c.mono h]
theorem zc.imp {K:Co}{c:Sp}(F:zc P w K mg base CX k f fd ps sp)
  (h:∀vs H Q E,c vs H Q E->sp vs H Q E):zc P w K mg base CX k f fd ps c :=
 #[λvs H Q E q=>F.len vs H Q E<|h _ _ _ _ q,λA outer s H b l vs Q E g e d j i=>F.run A outer s H b l vs Q E g e d j<|h _ _ _ _ i]
theorem mC.make {K:Co}(e:mC P w K mg base A outer s H)(C:D8)(c:Da)(b:List<|Str×D9) :
  mC P w K mg base (A.under<|.builtin "type.__call__" #[.ref C::c,b]) outer s H:=#[by first|let:=e.frames|(simpa[Around.under,Code.envs,Code.isFrame,pushEnvs] using e.frames),e.mod,e.bs,e.ju,e.rY,e.iW,e.hok,e.bare]
section
variable {X:Cx}{Dn:Dd}{σ:St}{H:Hp}{s s':Eb}
theorem Inv.env0 (I:Inv X Dn σ H s):mC X.prog X.w X.K X.mg X.base X.A X.stack s H :=
 #[I.ok.frames,I.ok.mod,I.bs,Z2 I.ok.ju I.sz,I.stack,I.qu,I.hok,I.bare]
theorem Inv.after (I:Inv X Dn σ H s)(h:CE X.stack X.prog X.w H s Q u s'):EP X Dn σ Q u s':=by
 let#[v,e,os,bare,un,hok,r,q]:=h;let#[f,g,d,t,c]:=s';obtain rfl:c=s.os:=os;let:=#[v,e,I.call (h':=f) (g':=g) (d':=d) (t':=t) un hok bare<|λb z=>absurd z<|by simp,r,q]
end
def S2 (sp:Sp)(b:Di)(E:XK)(t:TA):TE:=λe H Q=>t e H λd c=>sp (d++b) c Q E
inductive gC (C:D8)(m:Str)(sp:Sp)(dvs:Di)(E:XK)(t:TA)(σ:St)(Q:VK)(x:V)(H1:Hp):Prop
 |mk (a dx:D8) (fs:List<|Str×V) (e:x=.ref a) (h:H1 a=some (.ins C dx fs)) (n:fs.lookup m=none) (q:t σ H1 λvs H2=>sp (x::(vs++dvs)) H2 Q E):gC C m sp dvs E t σ Q x H1
def NA (C:D8)(m:Str)(sp:Sp)(b:Di)(E:XK)(e:TE)(t:TA):TE:=λc H Q=>e c H λx d=>gC C m sp b E t c Q x d
def S3 (C:D8)(sp:Sp)(d:Di)(E:XK)(t:TA):TE:=λg H Q=>t g H λf c=>∀x b,c x=none->c b=none->b≠x ->
 sp (.ref x::(f++d)) (upd (upd c b<|.own x) x<|.ins C b []) (λv e=>v=.non/\Q (.ref x) e) E
def wW (K:Co)(d:Ee)(ps:By)(c:Da):Prop :=
 ∀(s:Eb) (b:Da),K.In s.heap->(b++c).length=ps.length->BindsTo s d #[b,[]] (ps.zip<|b++c)
theorem wW.all {K:Co}{b:Ee}{ps:By}(h:∀us:Da,us.length=ps.length->bindArgs b #[us,[]]=Le (ps.zip us)):wW K b ps []:=λs us _ hl=>by
 rw[ZW]at hl ⊢;let:=.of_eq<|h us hl
def Xf (CX:ND)(X:Cx)(E:XK):Prop:=∀(c:Dd) (d:St) (H:Hp) (s:Eb) (e:D9) (b:Eb),Inv X c d H s->CX X.stack H s E e b->X.xe e b
section
variable {X:Cx}{CX:ND}{k:Nat}{f C:D8}{fd:Ee}{ps:By}{sp:Sp}{dvs:Di}{ds:Da}{E:XK}{x m:Str}{p pos Dp:Pos}{e o:EE}{es:List EE}{ta:TE}{t:TA}
theorem Fu {d:Dd}{σ:St}{H:Hp}{s:Eb}{Q:VK}{b:Da}{vs:Di}(F:zc X.prog X.w X.K X.mg X.base CX k f fd ps sp)(j:wX k X.A)(i:wW X.K fd ps ds)(hd:zb dvs ds)(l:Xf CX X E)
  (I:Inv X d σ H s) (r:zb vs b) (h:sp (vs++dvs) H Q E):Eh (Ej X.prog X.w) X.A (call (.ref f) b) (EP X d σ Q) X.xe s:=by
 have g:=r.append hd;have hl:(b++ds).length=ps.length:=by rw[<-g.length];let:=F.len _ _ _ _ h
 let:=Uw<|JH (F.run X.A X.stack s H #[b,[]] (b++ds) (vs++dvs) Q E j I.env0 (i s b I.sZ hl) g h) λr n c=>?_;cases r with
 |error e=>let:=l d σ H s e n I c
 |ok fl =>
  cases fl with
  |ret u=>let:=I.after c
  |next=>let:=EC c
  |brk=>let:=EC c
  |cont=>let:=EC c
theorem Sd (F:zc X.prog X.w X.K X.mg X.base CX k f fd ps sp)(v:wX k X.A)(n:Gl X x)(u:X.mg x=some (.ref f))(o:EK X.K (.ref f)=true)(j:wW X.K fd ps ds)(hd:zb dvs ds)(y:Xf CX X E)
  (i:PA X (e::es) t) (b:(x==("__debug__":Str))=false:=by decide) (l:Eo (e::es) X.env=(false,ER e X.env)::Eo es X.env:=by rfl) (c:(E9 pos<|Eo es X.env).any (·.1)=false:=by rfl) :
  PE X (.Call (.Name x p) (e::es) [] pos) (S2 sp dvs E t):=by
 intro g s z H Q I h;let:=Ja<|k6 I n u ?_ b;let:=Js I.ok.mod.iV o (Ct (i pos g s z H _ I h) λD C ⟨G,B,d,r,q⟩=>#[d.sZ,?_]) l c;let:=Fu F v j hd y d r q
theorem Sg {pl:Sem Bool}(D:PE X o ta)(c:Cls X.K C)(n:Meth X.K C m f)(F:zc X.prog X.w X.K X.mg X.base CX k f fd ps sp)(G:wX k X.A)(B:wW X.K fd ps ds)(hd:zb dvs ds)(L:Xf CX X E)(z:PA X (e::es) t)
  (d:Eo (e::es) X.env=(false,ER e X.env)::Eo es X.env:=by rfl) (b:(E9 pos<|Eo es X.env).any (·.1)=false:=by rfl)
  (J:ER (.Call (.Attribute o m Dp) (e::es) [] pos) X.env=(do
   let ov <-ER o X.env
   standAt Dp.atName
   let (f,first) <-Mb [ov] (Mf ov m pl)
   callWith pos f first (E9 pos<|Eo (e::es) X.env) (backToKw pos<|LR [] X.env)):=by rfl) :
  PE X (.Call (.Attribute o m Dp) (e::es) [] pos) (NA C m sp dvs E ta t):=by
 intro g s p H Q I h;let:=VQ (Ct (D g s p H _ I h) λu O P=>?_) J;let#[x,v,i,N,a,S,fs,ex,y,l,q]:=P;subst ex;obtain rfl:u=Em a:=N;let:=vE i y c n l ?_;let:=Js I.ok.mod.iV n.kp (Ct (z pos g O p v _ i q) λU T ⟨vs,R,j,r,M⟩=>#[j.sZ,?_]) d b;let:=Fu (vs:=.ref a::vs) F G B hd L j (.cons rfl r) M
theorem PP {pl:Sem Bool}(j:PE X o ta)(c:Cls X.K C)(d:Meth X.K C m f)(F:zc X.prog X.w X.K X.mg X.base CX k f fd ps sp)(n:wX k X.A)(i:wW X.K fd ps ds)(hd:zb dvs ds)(r:Xf CX X E)
  (p:ER (.Call (.Attribute o m Dp) [] [] pos) X.env=(do
   let ov <-ER o X.env
   standAt Dp.atName
   let (f,first) <-Mb [ov] (Mf ov m pl)
   callWith pos f first (E9 pos<|Eo [] X.env) (backToKw pos<|LR [] X.env)):=by rfl) :
  PE X (.Call (.Attribute o m Dp) [] [] pos) (NA C m sp dvs E ta X7):=by
 intro e s y H Q I h;let:=VQ (Ct (j e s y H _ I h) λu D v=>?_) p;let#[x,z,b,t,a,B,fs,ex,g,l,q]:=v;subst ex;obtain rfl:u=Em a:=t;let:=vE b g c d l ?_;let:=PySem.W.callWith_K0 b.sZ d.kp<|Fu (vs:=[.ref a]) F n i hd r b (.cons rfl .nil) q
structure Mk (K:Co)(C f:D8):Prop where
 makes:Lx K C=true
 init:ED K (.ref C) "__init__"=some (some<|.ref f)
 fn:Mc K (.ref f)=true
 kp:EK K (.ref C)=true
theorem Rh {g:Dd}{σ:St}{H:Hp}{s:Eb}{Q:VK}{c:Da}{vs:Di}(M:Mk X.K C f)(F:zc X.prog X.w X.K X.mg X.base CX k f fd ps sp)(q:wX (k+1) X.A)(p:wW X.K fd ps ds)(hd:zb dvs ds)
  (t:Xf CX X E) (I:Inv X g σ H s) (r:zb vs c)
  (h:∀x dx,H x=none->H dx=none->dx≠x->sp (.ref x::(vs++dvs)) (upd (upd H dx<|.own x) x<|.ins C dx []) (λv H2=>v=.non/\Q (.ref x) H2) E) :
  Eh (Ej X.prog X.w) X.A (call (.ref C) c) (EP X g σ Q) X.xe s:=by
 have i:=h (s.heap.objs.size+1) s.heap.objs.size (I.hok.fresh<|Jk _) (I.hok.fresh<|Zn _)<|ZZ<|J4 _;have d:=Inv.made (C:=C) I;have j:zb (V.ref (s.heap.objs.size+1)::(vs++dvs)) (Em (s.heap.objs.size+1)::(c++ds)):=.cons rfl<|r.append hd;have hl:(Em (s.heap.objs.size+1)::c++ds).length=ps.length:=by
  have e:=j.length;rw[F.len _ _ _ _ i]at e;let:=e.symm
 let:=Uw<|Hw I.sZ M.makes M.init (JW.mp M.fn)<|JH (F.run _ X.stack _ _ #[Em (s.heap.objs.size+1)::c,[]] (Em (s.heap.objs.size+1)::(c++ds)) _ _ E (q.make C c []) (d.env0.make C c []) (p _ (Em (s.heap.objs.size+1)::c) d.sZ hl) j i) λr B b=>?_
 cases r with
 |error e=>let:=t g σ _ _ e B d b
 |ok fl =>
  cases fl with
  |ret u =>
   let#[v,l,n,z,o,y]:=d.after b;subst o;let:=#[z,#[V.ref<|s.heap.objs.size+1,l,n,rfl,y]]
  |next=>let:=EC b
  |brk=>let:=EC b
  |cont=>let:=EC b
theorem Sf (M:Mk X.K C f)(F:zc X.prog X.w X.K X.mg X.base CX k f fd ps sp)(u:wX (k+1) X.A)(n:Gl X x)(o:X.mg x=some (.ref C))(j:wW X.K fd ps ds)(hd:zb dvs ds)(v:Xf CX X E)
  (i:PA X (e::es) t) (b:(x==("__debug__":Str))=false:=by decide) (l:Eo (e::es) X.env=(false,ER e X.env)::Eo es X.env:=by rfl) (c:(E9 pos<|Eo es X.env).any (·.1)=false:=by rfl) :
  PE X (.Call (.Name x p) (e::es) [] pos) (S3 C sp dvs E t):=by
 intro g s y H Q I h;let:=Ja<|k6 I n o ?_ b;let:=Js I.ok.mod.iV M.kp (Ct (i pos g s y H _ I h) λD B ⟨G,z,d,r,q⟩=>#[d.sZ,?_]) l c;let:=Rh M F u j hd v d r q
end
structure zx (N P:By)(sc:LJ):Prop where
 kind:sc.kind=.function
 co:sc.isCoroutine=false
 gen:sc.isGenerator=false
 nd:N.Nodup
 pre:N.take P.length=P
 par:∀x∈P,sc.names.lookup x=some .local\/sc.names.lookup x=some .cell
 ir:∀y∈sc.names,y.2≠.free
theorem CC {N P:By}{sc:LJ}(a:sc.kind=.function:=by rfl)(b:sc.isCoroutine=false:=by rfl)(c:sc.isGenerator=false:=by rfl)(d:N.Nodup:=by lk)(e:N.take P.length=P:=by rfl)(f:∀x∈P,sc.names.lookup x=some .local\/sc.names.lookup x=some .cell:=by lk)(g:∀y∈sc.names,y.2≠.free:=by lk):zx N P sc:=#[a,b,c,d,e,f,g]
theorem BB {kindOf:Str->Option LK}{x:Str}:∀{binds:List (Str×D9)} {m:Str->Db},(∀v,(x,v)∉binds)->bindL kindOf binds m x=m x
 |[],_,_=>rfl
 |(n,v)::r,m,h=>by
  unfold bindL;rw[BB λw b=>h w<|Zp _ b]
  split
  .have:x≠n:=by rintro rfl;let:=h v Zt
   simp[this]
  .rfl
theorem Bz {kindOf:Str->Option LK}{x:Str}:∀{binds:List (Str×D9)} {m:Str->Db},(∀v,(x,v)∉binds)->bindC kindOf binds m x=m x
 |[],_,_=>rfl
 |(n,v)::r,m,h=>by
  unfold bindC;rw[Bz λw b=>h w<|Zp _ b]
  split
  .rfl
  .have:x≠n:=by rintro rfl;let:=h v Zt
   simp[this]
theorem GX {kindOf:Str->Option LK}{x:Str}{v:D9}:∀{P:By} {vs:Da} {i:Nat} {m:Str->Db},P.Nodup->P[i]?=some x->vs[i]?=some v->kindOf x=some .local ->
  bindL kindOf (P.zip vs) m x=some v
 |[],_,_,_,_,h,_,_=>by simp at h
 |_::_,[],_,_,_,_,h,_=>by simp at h
 |p::P,w::vs,0,m,nd,h1,h2,hk=>by
  simp at h1 h2;subst h1;subst h2;show bindL kindOf ((p,w)::P.zip vs) m p=_;unfold bindL;rw[BB λv b=>(Yu.mp nd).1 (VC b).1,ZJ hk];simp
 |p::P,w::vs,i+1,m,nd,h1,h2,hk=>by
  unfold bindL;let:=GX (Yu.mp nd).2 (by simpa using h1) (by simpa using h2) hk
theorem G0 {kindOf:Str->Option LK}{x:Str}{v:D9}:∀{P:By} {vs:Da} {i:Nat} {m:Str->Db},P.Nodup->P[i]?=some x->vs[i]?=some v->kindOf x≠some .local ->
  bindC kindOf (P.zip vs) m x=some v
 |[],_,_,_,_,h,_,_=>by simp at h
 |_::_,[],_,_,_,_,h,_=>by simp at h
 |p::P,w::vs,0,m,nd,h1,h2,hk=>by
  simp at h1 h2;subst h1;subst h2;show bindC kindOf ((p,w)::P.zip vs) m p=_;unfold bindC;rw[Bz λv b=>(Yu.mp nd).1 (VC b).1,ZI hk];simp
 |p::P,w::vs,i+1,m,nd,h1,h2,hk=>by
  unfold bindC;let:=G0 (Yu.mp nd).2 (by simpa using h1) (by simpa using h2) hk
def start (N:By)(vs:Di):St:=vs.map some++Ev (N.length-vs.length) none
def CU (CX:ND)(P:Ea)(w:Ef)(K:Co)(mg:Str->Db)(base:Es)(N:By)(qual:Str)(scope:LJ)(f:D8)(c:D9)(A:Ez)(outer:List Env)(s:Eb)(H:Hp)(E:XK):Cx where
 prog:=P
 w:=w
 K:=K
 mg:=mg
 base:=base
 A:=A.deeper<|envOfC qual scope s.heap.objs.size f c
 N:=N
 s₀:=s
 H₀:=H
 env:=envOfC qual scope s.heap.objs.size f c
 outer:=outer
 stack:=envOfC qual scope s.heap.objs.size f c::outer
 ex:=[]
 calm:=true
 fn:=λ_=>true
 pn:=[]
 xe:=λe g=>Eh (Ej P w) (A.deeper<|envOfC qual scope s.heap.objs.size f c) (leaving (envOfC qual scope s.heap.objs.size f c) e) (λ_ b=>CX outer H s E e b) (λd b=>CX outer H s E d b) g
theorem FR {sc:LJ}{n:Nat}{x:Str}(h:sc.names.lookup x=some .cell):∃c,(cellsFrom n sc.names []).lookup x=some c:=by
 have q:=PySem.W.cellsFrom_some sc.names n []<|.inl h;let:=Ju.mp q
theorem NZ {CX:ND}{P:Ea}{w:Ef}{K:Co}{mg:Str->Db}{base:Es}{N ps:By}{qual:Str}{scope:LJ}{f:D8}{t:D9}{A:Ez}{outer:List Env}{s I:Eb}{H:Hp}{E:XK}{D:Da}{vs:Di}
  (S:zx N ps scope) (hd:A.handled=none) (g:mC P w K mg base A outer s H) (hl:vs.length=ps.length) (r:zb vs D)
  (x:InCallC s s.heap.objs.size (bindL (envOfC qual scope s.heap.objs.size f t).kindOf (ps.zip D) λ_=>none) (cellsFrom (s.heap.objs.size+1) scope.names []) (bindC (envOfC qual scope s.heap.objs.size f t).kindOf (ps.zip D) λ_=>none) I) :
  Inv (CU CX P w K mg base N qual scope f t A outer s H E) [] (start N vs) H I:=by
 have L:ps.length<=N.length:=by have:=congrArg List.length S.pre;rw[ZL]at this;lia
 let#[C,Q,rfl,F]:=x.done;have l:∀b:D8,b∉(CU CX P w K mg base N qual scope f t A outer s H E).ex:=λb z=>absurd (show b∈([]:Dc) from z) (by simp);let:=#[#[g.mod,S.kind,rfl,rfl,Zn _,λy z c C d=>?_,λy j=>?_,λy c _ h=>?_,λ_=>hd,Around.frames_deeper g.frames,.inr #[rfl,rfl],λb z=>absurd z<|l b,g.bs,g.ju,λb _ _=>l b,λb z=>absurd z<|l b,g.rY,g.iW],rfl,g.bare,Un.kept F,#[_,x.toInCall.ns,λi y v C d O=>?_],λy c h=>#[_,x.cell y c h],g.hok.fresh<|Zn _,λy c h=>?_,λp n=>absurd (show p∈([]:Dd) from n) (by simp),g.hok.kept F,?_]
 .let:=name_of_addr x.apart (Jh C) (Jh d)
 .have j:=j
  rcases j with j|j
  .let:=FR j
  .let:=absurd rfl (S.ir _<|Jh j)
 .let:=YC (x.above y c<|Jh h)
 .have B:i<vs.length:=by
   unfold start at d
   by_cases B:i<vs.length
   .let:=B
   .rw[ZU<|by simpa using B]at d;rw[VF]at d
    split at d<;>cases d
  have J:vs[i]?=some v:=by
   unfold start at d;rw[ZT<|by simpa using B,Zz]at d;cases e:vs[i]? with
   |none=>rw[e]at d;cases d
   |some a=>rw[e]at d;cases d;rfl
  let#[u,G,M]:=r.get J;have n:ps[i]?=some y:=by
   rwa[<-S.pre,List.getElem?_take_of_lt<|⋯]
  have o:ps.Nodup:=by rw[<-S.pre];let:=S.nd.sublist<|Vn _ _
  let:=#[u,M,?_]
  rcases S.par y (Zy n) with k|k
  .let:=.inl #[k,GX o n G k]
  .let#[c,e]:=FR k;let:=.inr #[.inl k,c,e,?_];have q:=x.cell y c e;rw[G0 o n G (by show scope.names.lookup y≠_;rw[k];decide)]at q;let:=q
 .let:=g.hok.fresh (YC<|x.above y c<|Jh h)
 .unfold start;show _=N.length;rw[Zq,Zj,Vk];lia
theorem SM {CX:ND}{P:Ea}{w:Ef}{K:Co}{mg:Str->Db}{base:Es}{k:Nat}{f:D8}{name qual:Str}{params:Arguments}{body:List EF}{scope:LJ}{R kV i T c ct oc:D9}{M od:Option D8}
  {D:Array Db} {N ps:By} {sp:Sp} (lk:K.lookup f=some #[oc,od,.func<|EW name qual params body scope R kV i T M c ct,D]) (z:Lp K c qual=true) (S:zx N ps scope)
  (len:∀vs H Q E,sp vs H Q E->vs.length=ps.length)
  (X:∀(A:Ez) (outer:List Env) (s:Eb) (H:Hp) (vs:Di) (Q:VK) (E:XK),wX k (A.deeper<|envOfC qual scope s.heap.objs.size f c)->sp vs H Q E -> ∃t,nZ (CU CX P w K mg base N qual scope f c A outer s H E) body t/\t { nx:=λ_ H'=>Q .non H',rt:=Q } (start N vs) H) :
  zc P w K mg base CX (k+1) f (EW name qual params body scope R kV i T M c ct) ps sp:=by
 let:=#[len,λA outer s H O us vs Q E B j Z r p=>?_];have hl:=len _ _ _ _ p;have L:=j.mod.iV.keeps λb o e=>(j.bs b o e).1;have C:=j.mod.nolimit.keeps λb o e=>(j.bs b o e).1;have g:∀y∈ps.zip us,scope.names.lookup y.1=some .local\/(scope.names.lookup y.1=some .cell/\((cellsFrom (s.heap.objs.size+1) scope.names []).lookup y.1).isSome=true):=λ⟨n,v⟩ hy=>by
  rcases S.par n (VC hy).1 with q|q
  .let:=.inl q
  .let:=.inr #[q,PySem.W.cellsFrom_some _ _ _<|.inl q]
 let:=codeAny_call_function B.depth (L _ _ lk) rfl S.co S.gen rfl (PySem.W.codeRec_of L z)<|Z _ _ _ _ ?_;let:=wpAny_newFunctionEnv_cells S.kind g λenv he U x=>?_;subst he;let:=#[C.keeps x.toInCall.keep,codeAny_func ?_];let#[t,ht,hq]:=X A outer s H vs Q E (B.deeper _) p;have I:Inv (CU CX P w K mg base N qual scope f c A outer s H E) [] (start N vs) H U:=NZ S B.hd j hl r x;let:=YH (ht [] U (start N vs) H _ I hq) (λY G h=>?_) λe G h=>h;have l:∀{d:St} {H':Hp} {v:V} {u:D9},Inv (CU CX P w K mg base N qual scope f c A outer s H E) [] d H' G->yt v u->Q v H'->CE outer P w H s Q u G :=
  λ{d H' v u} J F q=>#[v,H',J.os,J.bare,J.base,J.hok,F,q]
 cases Y with
 |ret u =>
  let#[v,d,H',J,F,q]:=h;let:=l J F q
 |next =>
  let#[d,H',J,q]:=h;let:=l (v:=V.non) J rfl q
 |brk =>
  let#[_,_,_,q]:=h;let:=EC q
 |cont =>
  let#[_,_,_,q]:=h;let:=EC q
section
variable {X:Cx}{x:Str}{p pos:Pos}{e:EE}{es:List EE}{t:TA}{id T:String}{r:Di->Hp->VK->Prop}
def b8 (r:Di->Hp->VK->Prop)(t:TA):TE:=λd H Q=>t d H λc b=>r c b Q
theorem zK (l:xf X (.builtin id) r)(o:Gl X x)(q:X.mg x=none)(v:Lv x=some (.builtin id))(j:PA X (e::es) t)(u:x≠"__name__":=by decide)(b:(x==("__debug__":Str))=false:=by decide)
  (n:Eo (e::es) X.env=(false,ER e X.env)::Eo es X.env:=by rfl) (c:(E9 pos<|Eo es X.env).any (·.1)=false:=by rfl):PE X (.Call (.Name x p) (e::es) [] pos) (b8 r t):=by
 intro d s f H Q I h;let:=Ja<|uQ I o q v ?_ u b;let:=VV (Ct (j pos d s f H _ I h) λA z ⟨B,g,i,y,w⟩=>l d z f g B A Q i y w) n c
theorem zW (l:xf X (.type T) r)(o:Gl X x)(q:X.mg x=none)(v:Lv x=some (.type T))(j:PA X (e::es) t)(u:x≠"__name__":=by decide)(b:(x==("__debug__":Str))=false:=by decide)
  (n:Eo (e::es) X.env=(false,ER e X.env)::Eo es X.env:=by rfl) (c:(E9 pos<|Eo es X.env).any (·.1)=false:=by rfl):PE X (.Call (.Name x p) (e::es) [] pos) (b8 r t):=by
 intro d s f H Q I h;let:=Ja<|uQ I o q v ?_ u b;let:=YT (Ct (j pos d s f H _ I h) λA z ⟨B,g,i,y,w⟩=>l d z f g B A Q i y w) n c
end
end L2
namespace HT
open PySem PyProof.Rows
section
variable {prog:Ea}{w:Ef}{A:Ez}{E:D9->Dg}{s:Eb}
def wC (n d:Nat):Option Int->Nat
 |none=>d
 |some v=>if v<0 then(v+(n:Int)).toNat else min v.toNat n
theorem ni (n d:Nat):wC n d none=d:=rfl
theorem tL (n d k:Nat):wC n d (some (k:Int))=min k n:=by
 show(if(k:Int)<0 then((k:Int)+(n:Int)).toNat else min (k:Int).toNat n)=min k n;rw[ZI<|⋯,Y4]
theorem We (n d:Nat)(hd:d<=n)(o:Option Int):wC n d o<=n:=by
 cases o with
 |none=>let:=hd
 |some v =>
  show(if v<0 then(v+(n:Int)).toNat else min v.toNat n)<=n
  by_cases b:v<0
  .rw[ZJ b];lia
  .rw[ZI b];let:=VW _ _
theorem MW (v:Int)(n d:Nat):(if v<0 then max (v+(n:Int)) 0 else min v (n:Int))=((wC n d (some v):Nat):Int):=by
 show(if v<0 then max (v+(n:Int)) 0 else min v (n:Int))=(((if v<0 then(v+(n:Int)).toNat else min v.toNat n):Nat):Int)
 by_cases b:v<0
 .simp only[ZJ b];lia
 .simp only[ZI b];lia
theorem Ky (lo b:Option Int)(n:Nat):LI lo b 1 (n:Int)=(((wC n 0 lo:Nat):Int),((wC n n b:Nat):Int)):=by
 have c:¬((1:Int)<0):=⋯
 unfold LI;simp only[c,Vs];let:=Prod.ext ?_ ?_
 .cases lo with
  |none=>rfl
  |some v=>let:=MW v n 0
 .cases b with
  |none=>rfl
  |some v=>let:=MW v n n
theorem Mu (i j:Nat):Lg (i:Int) (j:Int) 1=j-i:=by
 unfold Lg;have b:(1:Int)>0:=⋯
 simp only[b,if_true,Int.ediv_one]
 split<;>lia
theorem IZ {v:D9}{o:Option Int}{Q:Option Int->Dg}(p:IsPart v o)(h:Q o s):Eh (Ej prog w) A (Builtin.Slice.slicePartIndex v) Q E s:=by
 cases p with
 |none=>let:=slicePart_none h
 |int i t=>let:=slicePart_int h
theorem jU {e:D8}{f g:D9}{lo c:Option Int}{n:Nat}{Q:Int×Int×Nat->Dg}(j:s.heap.IsSliceOf e f g .none)(pl:IsPart f lo)(l:IsPart g c)
  (h:Q (((wC n 0 lo:Nat):Int),1,wC n n c-wC n 0 lo) s):Eh (Ej prog w) A (Builtin.Slice.sliceApplied (.ref e)<|Le (n:Int)) Q E s:=by
 let#[os,d,i,b]:=id j;unfold Builtin.Slice.sliceApplied Builtin.Slice.sliceFields;let:=Zl<|Zl<|Jx d b rfl<|Zl<|Jx d b rfl<|Zl<|Jx d b rfl<|Zw ?_;let:=Zl<|slicePart_none ?_;rw[ZI<|∅];let:=Zl<|IZ pl<|Zl<|IZ l<|Zl<|Zw ?_;show Eh _ _ (match LI lo c 1 (n:Int) with|(lo,c)=>Le (lo,(1:Int),Lg lo c 1)) _ _ s;rw[Ky lo c n];show Eh _ _ (Le (((wC n 0 lo:Nat):Int),(1:Int),Lg ((wC n 0 lo:Nat):Int) ((wC n n c:Nat):Int) 1)) _ _ s;rw[Mu];let:=Zw h
theorem PV (xs:Array D9)(i k:Nat):((Eu k).filterMap λ(m:Nat)=>xs[((i:Int)+(m:Int)*1).toNat]?).toArray=((xs.toList.drop i).take k).toArray:=by
 have e:(λ(m:Nat)=>xs[((i:Int)+(m:Int)*1).toNat]?)=λm=>xs[i+m]?:=by
  funext m
  have:((i:Int)+(m:Int)*1).toNat=i+m:=⋯
  rw[this]
 rw[e];have:=pick_run xs i k;rw[List.filterMap_map]at this;have b:((λx=>xs[x]?)∘λx=>i+x)=λm=>xs[i+m]?:=rfl;rw[b]at this;rw[this]
theorem uf {t j:D8}{items:Array D9}{n o:D9}{lo c:Option Int}{Q:D9->Dg}(d:IsTup s.heap t items)(l:s.heap.IsSliceOf j n o .none)(pl:IsPart n lo)(v:IsPart o c)
  (u:¬(wC items.size 0 lo=0/\wC items.size items.size c=items.size))
  (h:Q (.ref s.heap.objs.size) { s with heap:=s.heap.push { cls:=.type "tuple",data:=.seq ((items.toList.drop<|wC items.size 0 lo).take<|wC items.size items.size c-wC items.size 0 lo).toArray } })
  (r:items.size<=sizeLine):Eh (Ej prog w) A (Md (.ref t)<|.ref j) Q E s:=by
 have b:sizeOk (.seq ((items.toList.drop<|wC items.size 0 lo).take<|wC items.size items.size c-wC items.size 0 lo).toArray):=by
  show((items.toList.drop<|wC items.size 0 lo).take<|wC items.size items.size c-wC items.size 0 lo).toArray.size<=sizeLine;rw[ZF,ZL,Ym,Z5];lia
 have y:wC items.size items.size c<=items.size:=We _ _ (Zn _) c;let#[os,i,f,p]:=id l;have e:s.TypeIs (.ref j) "slice":=#[os,i,f];unfold Md
 try with_reducible let:=YJ ?_
 first|let:=Zl (Zw ?_)|skip
 let:=Zl (wpAny_sequenceKey d.typeIs ∅ ?_);let:=Zl<|YI d.typeIs Jm<|Yr Jm d.typeIs entry_tuple_getitem ?_<|args_tuple_getitem _ _
 show Eh _ _ (LD (.ref t)>>=_) _ _ s;let:=Zl<|tupleItemsOf_ d ?_;let:=Zl<|Vc e ?_;rw[ZJ<|∅];let:=Zl<|jU l pl v ?_;have g:¬((((wC items.size 0 lo:Nat):Int)==0&&(1:Int)==1&&(wC items.size items.size c-wC items.size 0 lo)==items.size)=true):=by
  intro q;rw[ZB,ZB]at q;have z:=Us q.1.1;have B:=Us q.2;let:=u #[⋯,⋯]
 show Eh _ _ (if(((wC items.size 0 lo:Nat):Int)==0&&(1:Int)==1&&(wC items.size items.size c-wC items.size 0 lo)==items.size)=true then _ else _) _ _ s;rw[ZI g,PV]
 first
  |let:=Zl (Yj (Zw #[_,rfl,Zw h]) b)
  |let:=Zl (Yj (Zl<|Zw<|Zw #[_,rfl,Zw h]) b)
  |let:=Zl (Zl<|Yj (Zw<|Zw #[_,rfl,Zw h]) b)
  |let:=Zl (Zl<|Yj (Zw #[_,rfl,Zw h]) b)
end
end HT
namespace L2
open PySem PySem.Spec PyProof.Rows
abbrev TO:=St->Hp->(Option Int->Hp->Prop)->Prop
def PO (X:Cx)(e:Option EE)(t:TO):Prop :=
 ∀(c:Dd) (s:Eb) (b:St) (H:Hp) (Q:Option Int->Hp->Prop),Inv X c b H s->t b H Q ->
  Eh (Ej X.prog X.w) X.A (evalPart e X.env) (λu f=>∃o d,Inv X c b d f/\IsPart u o/\Q o d) X.xe s
def SE:TO:=λ_ H Q=>Q none H
def ar (t:TE):TO:=λc H Q=>t c H λx b=>∃i,x=.int i/\Q (some i) b
section
variable {X:Cx}{e:EE}{te:TE}{lo hi:Option EE}{tl th:TO}{pos p2:Pos}
theorem jO:PO X none SE:=by
 intro b s c H Q I h;rw[evalPart_none];let:=Zw #[none,H,I,.none,h]
theorem yZ (h:PE X e te):PO X (some e) (ar te):=by
 intro b s l H Q I f;rw[evalPart_some];let:=Ct (h b s l H _ I f) λu n ⟨x,c,d,j,g⟩=>?_;let#[i,rfl,q]:=g;let#[t,rfl]:=j;let:=#[some i,c,d,.int i t,q]
def FH (X:Cx)(r:V->Option Int->Option Int->Hp->VK->Prop):Prop :=
 ∀(b:Dd) (s:Eb) (f:St) (H:Hp) (x:V) (v d e:D9) (lo hi:Option Int) (c:D8) (Q:VK),Inv X b f H s->yt x v->s.heap.IsSliceOf c d e .none->IsPart d lo->IsPart e hi->r x lo hi H Q ->
  ∃T id,typeLookup (.type T) "__getitem__"=Le (some<|.builtin id)/\s.TypeIs v T/\Eh (Ej X.prog X.w) X.A (Md v<|.ref c) (EP X b f Q) X.xe s
def tSl (r:V->Option Int->Option Int->Hp->VK->Prop)(te:TE)(tl th:TO):TE:=λb H Q=>te b H λx c=>tl b c λl d=>th b d λu e=>r x l u e Q
theorem y7 (C:FH X r)(A:PE X e te)(hl:PO X lo tl)(E:PO X hi th):PE X (.Subscript e (.Slice lo hi none p2) pos) (tSl r te tl th):=by
 intro d s f H Q I h;let:=Subscript_<|Ct (A d s f H _ I h) λv M ⟨x,n,p,L,G⟩=>?_;let:=wpAny_Slice<|Ct (hl d M f n _ p G) λg N ⟨l,o,t,pl,J⟩=>Ct (E d N f o _ t J) λi c ⟨u,j,w,F,K⟩=>?_;rw[evalPart_none];let:=Zw ?_;have y:Inv X d f j { c with heap:=c.heap.push { cls:=.type "slice",data:=.fields #v[g,i,.none] } }:=w.kept (t':=c.toks) λb O q=>Zr _ q;let#[T,id,z,D,B]:=C d { c with heap:=c.heap.push { cls:=.type "slice",data:=.fields #v[g,i,.none] } } f j x v g i l u c.heap.objs.size Q y L (Heap.IsSliceOf.new ..) pl F K;let:=tail_any D z B (by with_unfolding_all rfl)
def UX (xs:Di)(lo hi:Option Int):Di:=(xs.drop<|HT.wC xs.length 0 lo).take<|HT.wC xs.length xs.length hi-HT.wC xs.length 0 lo
theorem kX (xs:Di)(lo hi:Option Int):(UX xs lo hi).length<=xs.length:=by
 unfold UX;rw[ZL,Ym];lia
end
def N1 (n:Nat)(i:Int):Option Nat:=if 0<=i then(if i<n then some i.toNat else none) else if -(n:Int)<=i then some (i+n).toNat else none
def CJ {b:Type}(xs:List b)(i:Int):Option b:=(N1 xs.length i).bind λj=>xs[j]?
theorem M7 {j:Nat}(h:N1 n i=some j):seqIndex? i n=some j/\j<n/\-(n:Int)<=i/\i<n:=by
 unfold N1 at h
 by_cases c:0<=i
 .rw[ZJ c]at h
  by_cases b:i<n
  .rw[ZJ b]at h;have e:=Option.some.inj h;let:=#[by rw[seqIndex_of c b,e],⋯,⋯,b]
  .rw[ZI b]at h;cases h
 .rw[ZI c]at h
  by_cases b:-(n:Int)<=i
  .rw[ZJ b]at h;have e:=Option.some.inj h;let:=#[by rw[seqIndex_neg ⋯ b,e],⋯,b,⋯]
  .rw[ZI b]at h;cases h
theorem CP {b:Type}{xs:List b}{v:b}(h:CJ xs i=some v):∃j,seqIndex? i xs.length=some j/\xs[j]?=some v/\j<xs.length/\-(xs.length:Int)<=i/\i<xs.length:=by
 unfold CJ at h;cases e:N1 xs.length i with
 |none=>rw[e]at h;cases h
 |some j =>
  rw[e]at h;let#[c,d,f,g]:=M7 e;let:=#[j,c,h,d,f,g]
theorem xX {b:Type}{xs:List b}{j:Nat}{v:b}(h:xs[j]?=some v):CJ xs (j:Int)=some v:=by
 have c:=(ZC.mp h).1;have e:N1 xs.length (j:Int)=some j:=by
  unfold N1;rw[ZJ<|⋯,ZJ<|⋯];simp
 unfold CJ;rwa[e]
def RD (b:EE):Prop:=∀o i,subscripted b false o i=operate [o,i] (Md o i)
def Cy (X:Cx)(r:R2):Prop :=
 ∀(value b:EE) (c:Dd) (s:Eb) (d:St) (H:Hp) (x y:V) (v u:D9) (Q:VK),Inv X c d H s->yt x v->yt y u->r x y H Q ->
  subscripted b false v u=operate [v,u] (Md v u)->Eh (Ej X.prog X.w) X.A (subscriptTail value b v u) (EP X c d Q) X.xe s
def SK (X:Cx)(id:String)(r:V->Di->Hp->VK->Prop):Prop :=
 ∀(b:Dd) (s:Eb) (e:St) (H:Hp) (x:V) (d:Di) (v:D9) (c:Da) (Q:VK),Inv X b e H s->yt x v->zb d c->r x d H Q ->
  Eh (Ej X.prog X.w) X.A (call (.builtin id) (v::c)) (EP X b e Q) X.xe s
section
variable {X:Cx}{a b:EE}{ta tb:TE}{pos:Pos}
theorem zV (i:Cy X r)(f:PE X a ta)(g:PE X b tb)(j:RD b:=by let:=λ_ _=>rfl):PE X (.Subscript a b pos) (aq r ta tb):=by
 intro c s p H Q I h;let:=Subscript_<|Tm f g I h λv u o x y d e l n q=>i a b c o p d x y v u Q e l n q<|j _ _
inductive tY (K:Co)(x y:V)(H:Hp)(Q:VK):Prop
 |mk (p:D8) (xs:Di) (i:Int) (v:V) (e:x=.ref p) (f:y=.int i) (h:za K H p xs) (a:CJ xs i=some v) (q:Q v H):tY K x y H Q
inductive yr (K:Co)(x y:V)(H:Hp)(Q:VK):Prop
 |mk (p:D8) (xs:Di) (i:Int) (v:V) (e:x=.ref p) (f:y=.int i) (h:yh K H p xs) (a:CJ xs i=some v) (q:Q v H):yr K x y H Q
inductive gj (x y:V)(H:Hp)(Q:VK):Prop
 |mk (z:Str) (i:Int) (c:Nat) (e:x=.str z) (f:y=.int i) (l:z.length<=sizeLine) (a:CJ z.cps.toList i=some c) (q:Q (.str #[#v[c]]) H):gj x y H Q
theorem xu:Cy X (tY X.K):=by
 intro value g A s L H x y v u Q I G J h o;let#[p,P,i,z,rfl,rfl,F,E,q]:=h;cases G;let#[t,rfl]:=J;let#[e,r,pl,O]:=I.list F;let#[j,c,B,M,C,D]:=CP E;let#[w,l,f]:=r.get B;have hl:=r.length;have N:=sU;have b:EP X A L Q w s:=#[z,H,I,f,q]
 by_cases n:0<=i
 .have d:i.toNat=j:=by
   rw[seqIndex_of n D]at c;let:=Option.some.inj c
  let:=item_listR pl.isList n ⋯ (by rw[d];simpa using l) b o
 .have d:(i+(e.toArray.size:Int)).toNat=j:=by
   rw[seqIndex_neg ⋯ C]at c;rw[ZF,<-hl];let:=Option.some.inj c
  let:=subscriptTail_builtinR pl.isList.typeIs slot_list_getitem.lookup
   (wpAny_getItem_list_neg pl.isList ⋯ (by rw[ZF]<;>lia) ⋯ (by rw[d];simpa using l) #[rfl,b]) o
theorem zj:Cy X (yr X.K):=by
 intro value d e s D H x y v u Q I B C h o;let#[p,N,i,z,rfl,rfl,n,l,q]:=h;cases B;let#[t,rfl]:=C;let#[A,r,pl,M]:=I.tuple n;let#[j,E,g,F,G,J]:=CP l;let#[w,f,c]:=r.get g;have hl:=r.length;have L:=sU;have b:EP X e D Q w s:=#[z,H,I,c,q];let:=subscriptTail_builtinR pl.typeIs slot_tuple_getitem.lookup
  (getItem_tuple pl ⋯ ⋯ (by rwa[ZF,<-hl]) (by simpa using f) #[rfl,b]) o
theorem KP:Cy X gj:=by
 intro value b A s F H x y v u Q I r w h p;let#[z,i,c,rfl,rfl,D,o,q]:=h;let#[t,rfl]:=r;let#[E,rfl]:=w;let#[j,d,g,B,l,n]:=CP o;have hl:z.cps.toList.length=z.length:=by simp[Str.length]
 rw[hl]at d l n;have C:=sU;let:=tail_any (VX s z t) slot_str_getitem.lookup (getItem_str (by
  have e:decide (i < -(2 ^ 63:Int))=false:=ZE ⋯;have f:decide (i≥2 ^ 63)=false:=ZE ⋯;rw[e,f,Bool.or_false]) (by rw[d];simpa using g) #[.str #[#v[c]],H,I.tok _,#[_,rfl],q]) p
theorem K1 (b:Da)(n j:Nat)(u:D9):ES (·.setIfInBounds j u) { cls:=.type "list",data:=.seq b.toArray n }={ cls:=.type "list",data:=.seq (b.set j u).toArray n }:=by
 simp[ES]
theorem Inv.lst {p:D8}{xs:Di}(I:Inv X Dn σ H s)(h:H p=some (.lst xs)) :
  ∃(its:Da) (n:Nat),zb xs its/\s.heap.get? p=some { cls:=.type "list",data:=.seq its.toArray n }/\xs.length<=sizeLine:=by
 let#[z,its,n,r,e]:=I.hok p _ h;let:=#[its,n,r,e,z]
theorem Inv.iy {p:D8}{xs ys:Di}{c DD:Da}{n d:Nat}{f:Obj->Obj}(I:Inv X Dn σ H s)(h:H p=some (.lst xs))
  (j:s.heap.get? p=some { cls:=.type "list",data:=.seq c.toArray n }) (g:f { cls:=.type "list",data:=.seq c.toArray n }={ cls:=.type "list",data:=.seq DD.toArray d }) (r:zb ys DD) (l:ys.length<=sizeLine) (t:Nat) :
  Inv X Dn σ (upd H p<|.lst ys) { s with heap:=s.heap.update p f,toks:=t }:=by
 have e:(s.heap.update p f).get? p=some { cls:=.type "list",data:=.seq DD.toArray d }:=by
  rw[Yo f j (by rw[g]<;>rfl),g]
 let:=I.write (by rw[h];trivial) (.inl rfl) (λb u i q=>(Yx _ _<|Er i).trans q) #[_,e] ?_;let:=#[l,DD,d,r,e]
def ac:V->V->V->Hp->(Hp->Prop)->Prop:=λo i v H Q=>∃p b k j,o=.ref p/\i=.int k/\H p=some (.lst b)/\N1 b.length k=some j/\Q (upd H p<|.lst<|b.set j v)
theorem set_list:WF X ac:=by
 intro w s F H o i v M L u Q I C B D h;let#[p,E,k,j,rfl,rfl,l,A,q]:=h;cases C;let#[t,rfl]:=B;let#[b,n,r,e,K]:=I.lst l;let#[c,G,y,z]:=M7 A;have hl:=r.length;have J:=sU;have f:Inv X w F (upd H p<|.lst<|E.set j v) { s with heap:=s.heap.update p (ES (·.setIfInBounds j u)) } :=
  I.iy l e (K1 b n j u) (r.set D j) (by rwa[V4]) s.toks
 by_cases g:0<=k
 .have d:k.toNat=j:=by
   rw[seqIndex_of g z]at c;let:=Option.some.inj c
  let:=PySem.W.ki_setAt e g ⋯ (by rwa[ZF,<-hl]) (by rw[d];let:=#[_,f,q])
 .have d:(k+(b.toArray.size:Int)).toNat=j:=by
   rw[seqIndex_neg ⋯ y]at c;rw[ZF,<-hl];let:=Option.some.inj c
  let:=PySem.W.ki_setBack e ⋯ (by rwa[ZF,<-hl]) ⋯ (by rw[d];let:=#[_,f,q])
theorem Fv (lo b:Option Int)(n:Nat):(LS lo b none n).1=((HT.wC n 0 lo:Nat):Int)/\(LS lo b none n).2.1=((HT.wC n n b:Nat):Int)/\(LS lo b none n).2.2=1:=by
 let:=#[?_,?_,rfl]
 .cases lo with
  |none=>simp[LS,HT.wC]
  |some i =>
   simp only[LS,HT.wC,Option.getD_none,show(1:Int)>0 by decide,if_true]
   by_cases h:i<0
   .simp only[h,if_true]<;>lia
   .simp only[h,Vs]<;>lia
 .cases b with
  |none=>simp[LS,HT.wC]
  |some i =>
   simp only[LS,HT.wC,Option.getD_none,show(1:Int)>0 by decide,if_true]
   by_cases h:i<0
   .simp only[h,if_true]<;>lia
   .simp only[h,Vs]<;>lia
theorem GI (b:Da)(lo c:Option Int):slicePick b.toArray lo c none=((b.drop<|HT.wC b.length 0 lo).take<|HT.wC b.length b.length c-HT.wC b.length 0 lo).toArray:=by
 let#[d,e,f]:=Fv lo c b.toArray.size;unfold slicePick;rw[d,e,f];simp only[sliceRange_one,pick_run,ZF]<;>rfl
def GN (K:Co):V->Option Int->Option Int->Hp->VK->Prop:=λx lo c H Q=>∃a b,x=.ref a/\za K H a b/\∀p,H p=none->Q (.ref p) (upd H p<|.lst<|UX b lo c)
theorem vh:FH X (GN X.K):=by
 intro p s z H x v w y lo d u Q I o g pl n h;let#[a,c,rfl,i,q]:=h;cases o;let#[l,r,e,j]:=I.list i;have f:=r.length;let:=#["list",_,slot_list_getitem.lookup,e.isList.typeIs,?_];let:=wpAny_getItem_list_slice e.isList g pl n .none (by simp) ?_ (by rw[ZF]<;>lia);rw[GI,<-f];let:=#[.ref s.heap.objs.size,_,I.laid (t':=s.toks) (λb t q=>Zr _ q) (Zn _) ?_,rfl,q _<|I.hok.fresh<|Zn _];let:=#[Z2 (kX c lo d) j,_,0,(r.drop<|HT.wC c.length 0 lo).take<|HT.wC c.length c.length d-HT.wC c.length 0 lo,ZG _ rfl]
theorem zN:xf X (.builtin "len") (λxs H Q=>∃p ys,xs=[.ref p]/\(za X.K H p ys\/yh X.K H p ys)/\Q (.int ys.length) H):=by
 intro i s n H xs l Q I r h;let#[p,ys,rfl,b,q]:=h;let#[u,rfl,g]:=wM r;cases g;have j:=sU
 rcases b with b|b
 .let#[d,e,pl,f]:=I.list b;have c:=e.length;let:=Calls.call_len_list pl.isList (by simp only[ZF]<;>lia) #[.int ys.length,H,I.tok _,#[s.toks+1,by rw[ZF,c]],q]
 .let#[d,e,pl,f]:=I.tuple b;have c:=e.length;let:=len_tuple pl (by simp only[ZF]<;>lia) #[.int ys.length,H,I.tok _,#[s.toks+1,by rw[ZF,c]],q]
theorem j8:xf X (.builtin "len") (λxs H Q=>∃z,xs=[.str z]/\z.length<=sizeLine/\Q (.int z.length) H):=by
 intro b s f H xs e Q I r h;let#[z,rfl,d,q]:=h;let#[u,rfl,t,rfl]:=wM r;have c:=sU;let:=len_str ⋯ #[.int z.length,H,I.tok _,#[_,rfl],q]
theorem xf.or (h:xf X f r)(h':xf X f r'):xf X f (λxs H Q=>r xs H Q\/r' xs H Q):=by
 intro b s e H xs d Q I c q
 rcases q with q|q
 .let:=h b s e H xs d Q I c q
 .let:=h' b s e H xs d Q I c q
theorem yI:xf X (.type "list") (λxs H Q=>∃p ys,xs=[.ref p]/\(za X.K H p ys\/yh X.K H p ys)/\∀l,H l=none->Q (.ref l) (upd H l<|.lst ys)):=by
 intro A s D H xs E Q I r h;let#[p,ys,rfl,j,q]:=h;let#[u,rfl,C]:=wM r;cases C;have i:∀(c:Da),zb ys c->ys.length<=sizeLine->∀(d:Es) (f:Nat),(∀b z,s.heap.get? b=some z->d.get? b=some z) ->
   d.get? s.heap.objs.size=some { cls:=.type "list",dict:=none,data:=.seq c.toArray f,slots:=#v[] }->EP X A D Q (.ref s.heap.objs.size) { s with heap:=d }:=λc g t d f kp e =>
  #[.ref s.heap.objs.size,_,I.laid (t':=s.toks) kp (Zn _)<|show yq X.prog X.w _ d _ (.lst ys) from#[t,c,f,g,e],rfl,q _<|I.hok.fresh<|Zn _]
 rcases j with j|j
 .let#[c,g,pl,t]:=I.list j;have B:=g.length;let#[o,y,v,n,hd]:=pl.isList;let:=call_list_seq p (.inl rfl) y v hd (λd f kp e=>i c g t d f kp e) (by simp only[ZF]<;>lia)
 .let#[c,g,pl,t]:=I.tuple j;have B:=g.length;let#[o,y,v,n,hd]:=pl;let:=call_list_seq p (.inr rfl) y v hd (λd f kp e=>i c g t d f kp e) (by simp only[ZF]<;>lia)
theorem xA:xf X (.type "tuple") (λxs H Q=>∃p ys,xs=[.ref p]/\((za X.K H p ys/\∀l,H l=none->Q (.ref l) (upd H l<|.tup ys))\/(yh X.K H p ys/\Q (.ref p) H))):=by
 intro g s n H xs z Q I r h;let#[p,ys,rfl,h]:=h;let#[u,rfl,v]:=wM r;cases v
 rcases h with⟨hq,q⟩|⟨hq,q⟩
 .let#[c,f,pl,j]:=I.list hq;have y:=f.length;let:=call_tuple_list pl.isList (λd kp=>?_) (by simp only[ZF]<;>lia);have i:Inv X g n H { s with heap:=d }:=I.kept (t':=s.toks) kp;have t:Inv X g n (upd H d.objs.size<|.tup ys) { s with heap:=d.push { cls:=.type "tuple",data:=.seq c.toArray } } :=
   i.laid (t':=s.toks) (λb o e=>Zr _ e) (Zn _) (show yq X.prog X.w _ _ _ (.tup ys) from#[j,c,f,TupAt.new _ _])
  let:=#[.ref d.objs.size,_,t,rfl,q _<|i.hok.fresh<|Zn _]
 .let#[c,f,pl,j]:=I.tuple hq;let:=call_tuple_same pl #[.ref p,H,I,rfl,q]
def bY (K:Co)(T:String)(x:V)(H:Hp):Prop:=match x with
 | .str _=>T="str"
 | .int _=>T="int"
 | .ref p=>(T="list"/\∃c,za K H p c)\/(T="tuple"/\∃o,K.lookup p=some o/\o.cls=.type "tuple"/\o.dict=none) \/
   (T="dict"/\((∃b,H p=some (.dK b))\/∃b,H p=some (.dT b)))\/(T="set"/\∃S n,H p=some (.set S n))
 |_=>False
theorem Rv (I:Inv X Dn σ H s)(r:yt x v)(ty:bY X.K T x H) :
  s.TypeIs v T/\∀a,v=.ref a->∃ob,s.heap.get? a=some ob/\ob.dict=none:=by
 cases x with
 |str z =>
  let#[t,rfl]:=r;cases(show T="str" from ty);let:=#[VX s z t,λ_ e=>nomatch e]
 |int i =>
  let#[t,rfl]:=r;cases(show T="int" from ty);let:=#[typeIs_int s i t,λ_ e=>nomatch e]
 |ref p =>
  cases r
  rcases ty with⟨rfl,xs,hq⟩|⟨rfl,o,hk,hc,hd⟩|⟨rfl,hk⟩|⟨rfl,S,n,hk⟩
  .let#[d,_,pl,_]:=I.list hq;let:=#[pl.isList.typeIs,λa e=>?_];cases e;let#[o,n,e,c,hd,_]:=pl;let:=#[o,e,hd]
  .let:=#[#[o,I.sZ p o hk,hc],λa e=>?_];cases e;let:=#[o,I.sZ _ o hk,hd]
  .have z:∃o,s.heap.get? p=some o/\o.ExactDict:=by
    rcases hk with⟨Dl,hk⟩|⟨Dl,hk⟩
    .let#[_,_,_,_,o,_,_,e,ex,_]:=I.hok p _ hk;let:=#[o,e,ex]
    .let#[_,_,_,_,o,_,_,e,ex,_]:=I.hok p _ hk;let:=#[o,e,ex]
   let#[o,e,ex]:=z;let:=#[#[o,e,ex.1],λa b=>?_];cases b;let:=#[o,e,ex.2.1]
  .let#[o,_,_,_,e,ex,_]:=I.hok p _ hk;let:=#[#[o,e,ex.1],λa b=>?_];cases b;let:=#[o,e,ex.2.1]
 |_=>let:=EC ty
def bJ (K:Co)(T:String)(r:V->Di->Hp->VK->Prop)(c:TE):TE:=λd H Q=>c d H λx b=>bY K T x b/\r x [] b Q
def tBM (K:Co)(T:String)(r:V->Di->Hp->VK->Prop)(e:TE)(t:TA):TE:=λc H Q=>e c H λx b=>bY K T x b/\t c b λf d=>r x f d Q
variable {o e:EE}{es:List EE}{to:TE}{t:TA}{name:Str}{Dp Dq:Pos}{T id:String}{r:V->Di->Hp->VK->Prop}
theorem PL (t:PlainAttrs T)(slot:Slot T name id)(b:typeOf (.builtin id)=Le (.type "method_descriptor"))(p:SK X id r)(q:PE X o to)
  (i:Ly o name X.env (ER o X.env)=ER o X.env:=by rfl) (g:(Dp.endLine==Dq.line)=true:=by rfl):PE X (.Call (.Attribute o name Dp) [] [] Dq) (bJ X.K T r to):=by
 intro c s f H Q I h;let:=VG i g<|Ct (q c s f H _ I h) λv w y=>?_;let#[x,j,d,e,ty,u]:=y;let#[l,n]:=Rv d e ty;let:=#[T,id,t,slot,b,l,n,La rfl<|V8<|p c w f j x [] v [] Q d e .nil u]
theorem qW {K:Co}(F:PlainAttrs T)(slot:Slot T name id)(d:typeOf (.builtin id)=Le (.type "method_descriptor"))(C:SK X id r)(D:PE X o to)(B:PA X (e::es) t)
  (p:Ly o name X.env (ER o X.env)=ER o X.env:=by rfl)
  (b:((E9 Dq<|Eo (e::es) X.env).all (λx=>!x.1)&&(backToKw Dq<|LR [] X.env).all (λx=>x.1.isSome) && decide ((e::es).length+([]:List Keyword).length+(if([]:List Keyword).isEmpty then 0 else 1)<30))=true:=by rfl)
  (n:(Dp.endLine==Dq.line)=true:=by rfl) (E:Eo (e::es) X.env=(false,ER e X.env)::Eo es X.env:=by rfl) (l:(E9 Dq<|Eo es X.env).any (·.1)=false:=by rfl) (A:X.K=K:=by rfl) :
  PE X (.Call (.Attribute o name Dp) (e::es) [] Dq) (tBM K T r to t):=by
 subst A;intro c s f H Q I h;let:=wpAny_Call_method_late p b n rfl<|Ct (D c s f H _ I h) λv M R=>?_;let#[x,q,g,j,ty,G]:=R;let#[y,z]:=Rv g j ty;let:=#[T,id,F,slot,d,y,z,?_];have i:=B Dq c M f q _ g G;rw[E]at i ⊢;let:=La (by show(false||(E9 Dq<|Eo es X.env).any (·.1))=false;rw[l]<;>rfl) (Calls.evalArgs_plain ?_);let:=Ct i λO N ⟨P,u,w,L,J⟩=>C c N f u x P v O Q w j L J
end
def WD (X:Cx)(id:String)(r:V->Di->Hp->VK->Prop):Prop :=
 ∀(b:Dd) (s:Eb) (e:St) (H:Hp) (x:V) (d:Di) (v:D9) (c:Da) (Q:VK),Inv X b e H s->yt x v->zb d c->r x d H Q ->
  Eh (Ej X.prog X.w) X.A (call (.builtin id) (v::c)) (EP X b e Q) X.xe s
theorem zb.one {x:V}(h:zb [x] us):∃u,us=[u]/\yt x u:=by
 cases h with
 |cons r t=>cases t;let:=#[_,rfl,r]
theorem zb.two {x y:V}(h:zb [x,y] us):∃u v,us=[u,v]/\yt x u/\yt y v:=by
 cases h with
 |cons r t=>let#[v,rfl,q]:=zb.one t;let:=#[_,v,rfl,r,q]
theorem zb.zero:∀{us:Da},zb [] us->us=[]
 |_,.nil=>rfl
theorem zb.dropLast (h:zb xs us):zb xs.dropLast us.dropLast:=by
 induction h with
 |nil=>let:=.nil
 |cons r t ih =>
  cases t with
  |nil=>let:=.nil
  |cons q t'=>let:=.cons r ih
theorem zb.reverse (h:zb xs us):zb xs.reverse us.reverse:=by
 induction h with
 |nil=>let:=.nil
 |cons r t ih=>rw[Uh,Uh];let:=zb.append ih<|.cons r .nil
theorem zb.rep (h:zb xs us):∀k:Nat,zb (Ev k xs).flatten (Ev k us).flatten
 | 0=>.nil
 |k+1=>by
  rw[Ji,Ji,Vo,Vo];let:=zb.append h<|zb.rep h k
theorem KI {c:Type}(l:List c):l.eraseIdx (l.length-1)=l.dropLast:=by
 induction l with
 |nil=>rfl
 |cons a r ih =>
  cases r with
  |nil=>rfl
  |cons b r =>
   have e:(a::b::r).length-1=((b::r).length-1)+1:=by
    have d:(a::b::r).length=r.length+2:=rfl;have f:(b::r).length=r.length+1:=rfl;lia
   rw[e,List.eraseIdx_cons_succ,ih]
   all_goals rfl
theorem foldl_rep (b:Da):∀(k:Nat) (acc:Da),
  List.foldl (λx1 x2=>x1++x2) acc.toArray (Ev k b.toArray)=(acc++(Ev k b).flatten).toArray
 | 0,acc=>by simp
 |k+1,acc=>by
  have e:acc.toArray++b.toArray=(acc++b).toArray:=by simp
  have c:(acc++b)++(Ev k b).flatten=acc++(Ev (k+1) b).flatten:=by
   rw[Ji,Vo,Yk]
  rw[<-c,<-foldl_rep b k (acc++b),<-e,Ji,JQ]
section
variable {X:Cx}{Dn:Dd}{σ:St}{H:Hp}{s:Eb}{l b:D8}{xs ys zs:Di}
theorem Inv.jr {b DD:Da}{n:Nat}{f:Array D9->Array D9}{t':Nat}(I:Inv X Dn σ H s)(c:H l=some (.lst xs))
  (e:s.heap.get? l=some { cls:=.type "list",data:=.seq b.toArray n }) (g:f b.toArray=DD.toArray) (i:zb ys DD) (j:ys.length<=sizeLine) :
  Inv X Dn σ (upd H l<|.lst ys) { s with heap:=s.heap.update l<|ES f,toks:=t' }:=by
 have q:=PySem.IsL.update e f;rw[g]at q;let:=I.write (by rw[c];let:=trivial) (.inl rfl) (λo u d h=>(Yx s.heap (ES f)<|Er d).trans h) #[_,q] ?_;let:=#[j,DD,_,i,q]
theorem Inv.je {t':Nat}(I:Inv X Dn σ H s)(b:zb ys its)(c:ys.length<=sizeLine) :
  Inv X Dn σ (upd H s.heap.objs.size<|.lst ys) { s with heap:=s.heap.push { cls:=.type "list",data:=.seq its.toArray },toks:=t' } :=
 I.laid (λ_ _ q=>Zr _ q) (Zn _) #[c,its,0,b,ZG _ rfl]
theorem Inv.fresh (I:Inv X Dn σ H s):H s.heap.objs.size=none:=I.hok.fresh<|Zn _
theorem Inv.pI (I:Inv X Dn σ H s)(b:H l=some (.lst xs)):xs.length<=sizeLine/\∃(its:Da) (n:Nat),zb xs its/\xs.length=its.length/\s.heap.get? l=some { cls:=.type "list",data:=.seq its.toArray n }:=by
 let#[z,its,n,r,e]:=I.hok l _ b;let:=#[z,its,n,r,r.length,e]
theorem IX {n:Nat}(h:n<=sizeLine):EU n=false:=by
 unfold EU;let:=ZE ⋯
end
section
variable {X:Cx}
inductive lC (x:V)(vs:Di)(H:Hp)(Q:VK):Prop
 |mk (l:D8) (xs:Di) (y:V) (e:x=.ref l) (f:vs=[y]) (h:H l=some (.lst xs)) (z:xs.length<sizeLine) (q:Q .non<|upd H l<|.lst<|xs++[y]):lC x vs H Q
theorem yU:WD X "list.append" lC:=by
 intro i s w H x p v o Q I g f h;let#[l,t,y,rfl,rfl,c,j,q]:=h;cases g;let#[u,rfl,d]:=f.one;let#[z,b,n,r,hl,e]:=I.pI c;let:=JB F.slot_list_append #[_,e,rfl] F.entry_list_append (F.args_list_append_2 _ _) (PySem.list_append l b.toArray n u (by rw[ZF];lia)) #[e,?_];let:=#[.non,_,I.jr (DD:=b++[u]) c e (by simp) (r.append<|.cons d .nil) ?_,rfl,q];rw[Zq,Yc];lia
def Ss:V->Di->Hp->VK->Prop:=λx e H Q=>∃l b c d,x=.ref l/\e=[.ref b]/\H l=some (.lst c)/\H b=some (.lst d)/\c.length+d.length<=sizeLine/\Q .non (upd H l<|.lst<|c++d)
theorem Of:WD X "list.extend" Ss:=by
 intro B s L H x E v D Q I A y h;let#[l,b,G,K,rfl,rfl,g,o,C,q]:=h;cases A;let#[u,rfl,w]:=y.one;cases w;let#[z,d,n,r,hl,e]:=I.pI g;let#[J,c,n2,t,p,j]:=I.pI o;have f:d.toArray.size+c.toArray.size<=sizeLine:=by rw[ZF,ZF];lia
 have i:¬(!d.toArray.isEmpty&&EU (d.toArray.size+c.toArray.size))=true:=by
  rw[IX f,Vt];let:=Z7
 let:=JB F.slot_list_extend #[_,e,rfl] F.entry_list_extend (F.args_list_extend_2 _ _)
  (AutoSeq1.list_extend_list_list_0 l d.toArray n b c.toArray n2 i (by rw[ZF];lia)<|⋯) #[e,j,?_]
 let:=#[.non,_,I.jr (DD:=d++c) g e (by simp) (r.append t) ?_,rfl,q];rw[Zq];lia
def bA:V->Di->Hp->VK->Prop:=λx c H Q=>∃l b y,x=.ref l/\c=[]/\H l=some (.lst b)/\b[b.length-1]?=some y/\Q y (upd H l<|.lst b.dropLast)
theorem TF:WD X "list.pop" bA:=by
 intro p s C H x A v w Q I o j h;let#[l,B,y,rfl,rfl,f,g,q]:=h;cases o;have c:=j.zero;subst c;let#[z,b,n,r,hl,e]:=I.pI f;let#[u,t,i]:=r.get g;have d:b.toArray[b.toArray.size-1]?=some u:=by
  show b.toArray[b.length-1]?=some u;rwa[<-YE,<-hl]
 let:=JB F.slot_list_pop #[_,e,rfl] F.entry_list_pop (F.args_list_pop_1 _) (MeetsSeq.list_pop_last l b.toArray n u d (by rw[ZF];lia)) #[e,?_];let:=#[y,_,I.jr (DD:=b.dropLast) f e ?_ r.dropLast ?_,i,q]
 .show b.toArray.eraseIdxIfInBounds (b.toArray.size-1)=b.dropLast.toArray;rw[ZF,List.eraseIdxIfInBounds_toArray,KI]
 .rw[List.length_dropLast];lia
def P8:V->Di->Hp->VK->Prop:=λx c H Q=>∃l b,x=.ref l/\c=[]/\H l=some (.lst b)/\Q .non (upd H l<|.lst b.reverse)
theorem K3:WD X "list.reverse" P8:=by
 intro i s t H x o v j Q I g f h;let#[l,p,rfl,rfl,d,q]:=h;cases g;have c:=f.zero;subst c;let#[z,b,n,r,hl,e]:=I.pI d;let:=JB F.slot_list_reverse #[_,e,rfl] F.entry_list_reverse (F.args_list_reverse_1 _) (AutoSeq1.list_reverse_list_0 l b.toArray n (by rw[ZF];lia)) #[e,?_];let:=#[.non,_,I.jr (DD:=b.reverse) d e (by simp) r.reverse ?_,rfl,q];rw[V9];lia
def br:R2:=λx y H Q=>∃l b c d,x=.ref l/\y=.ref b/\H l=some (.lst c)/\H b=some (.lst d)/\c.length+d.length<=sizeLine/\∀p,H p=none->Q (.ref p) (upd H p<|.lst<|c++d)
theorem j6:CH X (L7 .Add) br:=by
 intro A s F H x y v u Q I t w h;let#[l,b,C,E,rfl,rfl,j,i,B,q]:=h;cases t;cases w;let#[z,d,n,r,hl,e]:=I.pI j;let#[D,c,n2,p,o,f]:=I.pI i;let:=PySem.P.add_list e f ?_ (by rw[ZF,ZF];lia);have g:d.toArray++c.toArray=(d++c).toArray:=by simp
 rw[g];let:=#[.ref _,_,I.je (t':=s.toks) (r.append p) (by rw[Zq];lia),rfl,q _ I.fresh]
def bB:R2:=λx y H Q=>∃l k b,x=.ref l/\y=.int k/\H l=some (.lst b)/\-(2 ^ 63)<=k/\k<2 ^ 63/\b.length*k.toNat<=sizeLine /\
 ∀p,H p=none->Q (.ref p) (upd H p<|.lst (Ev k.toNat b).flatten)
theorem len_rep {b:Type}(xs:List b)(k:Nat):(Ev k xs).flatten.length=k*xs.length:=by
 induction k with
 |zero=>simp
 |succ k ih=>rw[Ji,Vo,Zq,ih,Nat.succ_mul,Nat.add_comm]
theorem PH:CH X (L7 .Mult) bB:=by
 intro G s L H x y v u Q I A B h;let#[l,k,K,rfl,rfl,w,o,p,J,q]:=h;cases A;let#[t,rfl]:=B;let#[z,b,n,r,hl,e]:=I.pI w;have i:b.toArray.size*k.toNat<=sizeLine:=by rwa[ZF,<-hl]
 have c:¬b.toArray.size*k.toNat>(2 ^ 63-1) / 8:=by
  have:(sizeLine:Nat)<=(2 ^ 63-1) / 8:=∅
  lia
 have d:¬(!Builtin.List.listFitsIndex k)=true:=by
  rw[fitsIndex_both o p];let:=Z7
 have g:¬EU (b.toArray.size*k.toNat)=true:=by
  rw[IX i];let:=Z7
 have f:List.foldl (λD E=>D++E) #v[] (Ev (if b.toArray.isEmpty=true then 0 else k.toNat) b.toArray)=(Ev k.toNat b).flatten.toArray:=by
  have j:=λm=>by
   have:=foldl_rep b m [];rw[JC]at this;let:=this
  rw[j];cases b with
  |nil=>simp
  |cons a r'=>rw[ZI<|by simp]
 let:=wpAny_binaryOp_repeat_ref ∅ #[_,e,rfl] (λC=>typeIs_int C k t) noFill_list_mul F.fills_int_mul F.slot_int_rmul repeat_list F.slot_int_index.lookup
  (JB F.slot_int_rmul (typeIs_int s k t) F.entry_int_rmul (F.args_int_rmul_2 _ _) (int___rmul___int_list k t l b.toArray n) #[e,rfl,#[_,e,rfl],JB F.slot_list_mul #[_,e,rfl] F.entry_list_mul (F.args_list_mul_2 _ _) (AutoListH.list___mul___list_int_3 l b.toArray n k t d c g) #[e,?_]])
 rw[f];let:=#[.ref _,_,I.je (t':=s.toks) (r.rep k.toNat)<|by rwa[len_rep,Nat.mul_comm],rfl,q _ I.fresh]
end
section
variable {prog:Ea}{w:Ef}{A:Ez}{E:D9->Dg}{s:Eb}
set_option maxRecDepth 100000 in
end
section
variable {κ:Type} [DecidableEq κ]
def UH (b:List<|κ×V)(k:κ):Option V:=(b.find? λc=>decide (c.1=k)).map (·.2)
def yp (c:List<|κ×V)(k:κ)(v:V):List (κ×V) :=
 if(c.any λb=>decide (b.1=k))=true then c.map (λb=>if b.1=k then(b.1,v) else b) else c++[(k,v)]
theorem xS {p:κ×V}{r:List (κ×V)}{k:κ}(e:p.1=k):UH (p::r) k=some p.2:=by simp[UH,Jl,e]
theorem xL {p:κ×V}{r:List (κ×V)}{k:κ}(e:¬p.1=k):UH (p::r) k=UH r k:=by simp[UH,Jl,e]
theorem qF (k:κ):∀Dl:List<|κ×V,(Dl.any λkv=>decide (kv.1=k))=(UH Dl k).isSome
 |[]=>rfl
 |p::r=>by
  rw[List.any_cons]
  by_cases e:p.1=k
  .simp only[xS e,Zm e,Bool.true_or,Option.isSome_some]
  .rw[xL e,ZE e,Ul];let:=qF k r
theorem Ks (k j:κ)(y:V):∀Dl:List<|κ×V,UH (Dl.map λkv=>if kv.1=k then(kv.1,y) else kv) j=(UH Dl j).map λx=>if j=k then y else x
 |[]=>rfl
 |p::r=>by
  have b:=Ks k j y r;rw[ZR]
  by_cases h:p.1=k
  .rw[ZJ h]
   by_cases e:p.1=j
   .rw[xS (p:=(p.1,y)) e,xS e,YZ,ZJ<|e.symm.trans h]
   .rw[xL (p:=(p.1,y)) e,xL e,b]
  .rw[ZI h]
   by_cases e:p.1=j
   .rw[xS e,xS e,YZ,ZI<|λz=>h<|e.trans z]
   .rw[xL e,xL e,b]
theorem Bb (k j:κ)(y:V):∀Dl:List<|κ×V,UH Dl k=none->UH (Dl++[(k,y)]) j=if j=k then some y else UH Dl j
 |[],_=>by
  by_cases e:k=j
  .rw[ZJ e.symm];let:=xS e
  .rw[ZI<|λz=>e z.symm];let:=xL e
 |p::r,hn=>by
  rw[J5];have b:¬p.1=k:=λz=>by rw[xS z]at hn;cases hn
  rw[xL b]at hn;have c:=Bb k j y r hn
  by_cases e:p.1=j
  .rw[xS e,xS e,ZI<|λz=>b<|e.trans z]
  .rw[xL e,xL e,c]
theorem uG (b:List<|κ×V)(k j:κ)(y:V):UH (yp b k y) j=if j=k then some y else UH b j:=by
 unfold yp
 by_cases a:(b.any λd=>decide (d.1=k))=true
 .rw[ZJ a,Ks];rw[qF]at a
  by_cases e:j=k
  .let#[x,c]:=Ju.mp a;rw[ZJ e,e,c,YZ,ZJ rfl]
  .rw[ZI e];cases UH b j with
   |none=>rfl
   |some x=>rw[YZ,ZI e]
 .rw[ZI a];let:=Bb k j y b ?_;rw[qF]at a;cases q:UH b k with
  |none=>rfl
  |some x=>rw[q]at a;let:=(a rfl).elim
theorem xH (b:List<|κ×V)(k:κ)(v:V):(yp b k v).length<=b.length+1:=by
 unfold yp
 split
 .rw[Zj];lia
 .rw[Zq,ZH,YN];lia
theorem HS {b:List (κ×V)}{k:κ}(v:V)(h:UH b k=none):yp b k v=b++[(k,v)]:=by
 unfold yp;rw[qF,h];let:=ZI ∅
theorem tD.tQ (r:tD o u):o.isSome=u.isSome:=by
 cases o with
 |none=>cases u with
  |none=>rfl
  |some _=>let:=(show False from r).elim
 |some _=>cases u with
  |none=>let:=(show False from r).elim
  |some _=>rfl
theorem tD.getD (r:tD o u)(rd:yt d d'):yt (o.getD d) (u.getD d'):=by
 cases o with
 |none=>cases u with
  |none=>let:=rd
  |some _=>let:=(show False from r).elim
 |some _=>cases u with
  |none=>let:=(show False from r).elim
  |some _=>let:=r
theorem KV.val {d:List (κ×V)}{vs:List (κ×D9)}(r:KV d vs)(k:κ):tD (UH d k) (valueAt vs k):=by
 unfold KV at r
 induction r with
 |nil=>let:=Ld
 | @cons p q ps qs h t ih =>
  let#[f,g]:=h
  by_cases e:p.1=k
  .have c:q.1=k:=f.symm.trans e;have b:valueAt (q::qs) k=some q.2:=by simp[valueAt,Jl,c]
   rwa[xS e,b]
  .have c:¬q.1=k:=λz=>e<|f.trans z;have b:valueAt (q::qs) k=valueAt qs k:=by simp[valueAt,Jl,c]
   rwa[xL e,b]
theorem KV.any {b:List (κ×V)}{vs:List (κ×D9)}(r:KV b vs)(k:κ):(b.any λkv=>decide (kv.1=k))=vs.any λkv=>decide (kv.1=k):=by
 unfold KV at r
 induction r with
 |nil=>rfl
 |cons h t ih=>rw[List.any_cons,List.any_cons,ih,h.1]
theorem KV.repl {c:List (κ×V)}{vs:List (κ×D9)}(r:KV c vs)(k:κ){y:V}{u:D9}(f:yt y u) :
  KV (c.map λkv=>if kv.1=k then(kv.1,y) else kv) (vs.map λkv=>if kv.1=k then(kv.1,u) else kv):=by
 unfold KV at r ⊢
 induction r with
 |nil=>let:=.nil
 | @cons p q ps qs h t ih =>
  rw[ZR,ZR];let:=.cons ?_ ih;let#[b,d]:=h
  by_cases e:p.1=k
  .rw[ZJ e,ZJ<|b.symm.trans e];let:=#[b,f]
  .rw[ZI e,ZI<|λz=>e<|b.trans z];let:=#[b,d]
theorem KV.put {b:List (κ×V)}{vs:List (κ×D9)}(r:KV b vs)(k:κ){y:V}{u:D9}(c:yt y u):KV (yp b k y) (stored vs k u):=by
 unfold yp stored;rw[r.any k]
 by_cases e:(vs.any λd=>decide (d.1=k))=true
 .rw[ZJ e,ZJ e];let:=r.repl k c
 .rw[ZI e,ZI e];let:=Paired.snoc r #[rfl,c]
theorem KV.length {b:List (κ×V)}{vs:List (κ×D9)}(r:KV b vs):b.length=vs.length:=Paired.length r
end
theorem XV (r:yt (kV k) u):(yw P w).is k u=true:=by
 cases k with
 |inl i=>let#[t,e]:=(show∃t,u=Value.int i t from r);subst e;let:=HB P w i t
 |inr x=>let#[t,e]:=(show∃t,u=Me x t from r);subst e;let:=HC P w x t
theorem G8:∀{ks:List Key} {us:Da},zb (ks.map kV) us->ItemsAre (yw P w) ks us
 |[],_,r=>by rw[VM]at r;cases r;let:=.nil
 |k::ks,_,r=>by
  rw[ZR]at r;cases r with
  |cons h t=>let:=.cons (XV h)<|G8 t
abbrev KT (H:Hp):List (List Key×V)->List (List Key×D8×D9)->Prop:=E7 λp q=>p.1=q.1/\H q.2.1=some (.tup<|p.1.map kV)/\yt p.2 q.2.2
theorem KT.val (r:KT H Dl xs)(k:List Key):tD (UH Dl k) ((atKey xs k).map (·.2)):=by
 induction r with
 |nil=>let:=Ld
 | @cons p q ps qs h t ih =>
  let#[d,_,f]:=h
  by_cases e:p.1=k
  .have c:q.1=k:=d.symm.trans e;have b:atKey (q::qs) k=some q.2:=by simp[atKey,Jl,c]
   rwa[xS e,b]
  .have c:¬q.1=k:=λz=>e<|d.trans z;have b:atKey (q::qs) k=atKey qs k:=by simp[atKey,Jl,c]
   rwa[xL e,b]
theorem KT.repl (r:KT H Dl xs)(k:List Key){y:V}{u:D9}(f:yt y u) :
  KT H (Dl.map λkv=>if kv.1=k then(kv.1,y) else kv) (xs.map<|putAt k u):=by
 induction r with
 |nil=>let:=.nil
 | @cons p q ps qs h t ih =>
  rw[ZR,ZR];let:=.cons ?_ ih;let#[b,c,d]:=h;unfold putAt
  by_cases e:p.1=k
  .rw[ZJ e,ZJ<|b.symm.trans e];let:=#[b,c,f]
  .rw[ZI e,ZI<|λz=>e<|b.trans z];let:=#[b,c,d]
theorem KT.put (r:KT H Dl xs)(k:List Key){b:D8}{y:V}{u:D9}(d:H b=some (.tup<|k.map kV))(c:yt y u) :
  KT H (yp Dl k y) (storedH xs k b u):=by
 have e:(Dl.any λf=>decide (f.1=k))=(atKey xs k).isSome:=by
  rw[qF,(r.val k).tQ,Ui]
 unfold yp storedH;rw[e]
 by_cases q:(atKey xs k).isSome=true
 .rw[ZJ q,ZJ q];let:=r.repl k c
 .rw[ZI q,ZI q];let:=Paired.snoc r #[rfl,d,c]
theorem KT.keeps {H':Hp}(r:KT H Dl xs)(c:∀b ys,H b=some (.tup ys)->H' b=some (.tup ys)):KT H' Dl xs :=
 Paired.iw r λ_ _ z=>#[z.1,c _ _ z.2.1,z.2.2]
section
variable {P:Ea}{w:Ef}{H:Hp}{h:Es}{a:D8}
theorem SX (ok:sy P w H h)(e:Rd H a u):yq P w H h a u:=e.ok ok
theorem XT {b:Dk}(ok:sy P w H h)(e:Rd H a<|.dK b):b.length<=sizeLine/\(a==EO)=false/\∃vs,KV b vs/\h.DictOf (yw P w) a vs :=
 show yq P w H h a (.dK b) from SX ok e
theorem WJ {b:Dk}(ok:sy P w H h)(e:H a=some (.dK b)):b.length<=sizeLine/\(a==EO)=false/\∃vs,KV b vs/\h.DictOf (yw P w) a vs:=XT ok<|.inl e
theorem Xx {c:List Key}(ok:sy P w H h)(e:H a=some (.tup<|c.map kV)):(tupleKind<|yw P w).is h c a:=by
 let#[_,b,r,o,d,f,n,g,_]:=(show yq P w H h a (.tup<|c.map kV) from ok a _ e);let:=#[o,b.toArray,n,d,f,g,by simpa using G8 r]
theorem IB {c:List (List Key×V)}(ok:sy P w H h)(e:Rd H a<|.dT c):c.length<=sizeLine/\(a==EO)=false /\
  ∃xs,KT H c xs/\h.DictOfH (tupleKind<|yw P w) a xs:=by
 let#[z,y,xs,r,o,f,d,g,i,j,n,s]:=(show yq P w H h a (.dT c) from SX ok e);let:=#[z,y,xs,r,o,f,d,g,i,j,n,λx b=>?_,s];have all:∀{l:List (List Key×V)} {m:List (List Key×D8×D9)},KT H l m->∀x∈m,(tupleKind<|yw P w).is h x.1 x.2.1:=by
  intro l m q
  induction q with
  |nil=>intro x b;let:=nomatch b
  | @cons p q ps qs hq t ih =>
   intro x b
   rcases Zx.mp b with e|b
   .subst e;let:=Xx ok (by rw[<-hq.1];let:=hq.2.1)
   .let:=ih x b
 let:=all r x b
theorem WK {b:List (List Key×V)}(ok:sy P w H h)(e:H a=some (.dT b)):b.length<=sizeLine/\(a==EO)=false /\
  ∃xs,KT H b xs/\h.DictOfH (tupleKind<|yw P w) a xs:=IB ok<|.inl e
end
def wu (H:Hp)(a:D8)(y:V)(r:Option V):Prop :=
 (∃c k,Rd H a (.dK c)/\y=kV k/\r=UH c k)\/∃c k b,Rd H a (.dT c)/\y=.ref b/\H b=some (.tup<|k.map kV)/\r=UH c k
def tW (H:Hp)(a:D8)(y v:V)(H':Hp):Prop :=
 (∃c k,H a=some (.dK c)/\y=kV k/\c.length<sizeLine/\H'=upd H a (.dK<|yp c k v)) \/
 ∃c k b,H a=some (.dT c)/\y=.ref b/\H b=some (.tup<|k.map kV)/\c.length<sizeLine/\H'=upd H a (.dT<|yp c k v)
theorem wu.k {H:Hp}{a:D8}{b:Dk}{k:Key}(e:H a=some (.dK b)):wu H a (kV k) (UH b k):=.inl #[b,k,.inl e,rfl,rfl]
theorem tW.k {H:Hp}{a:D8}{b:Dk}{k:Key}(e:H a=some (.dK b))(hl:b.length<sizeLine):tW H a (kV k) v (upd H a<|.dK<|yp b k v):=.inl #[b,k,e,rfl,hl,rfl]
section
variable {X:Cx}{Dn:Dd}{σ:St}{H:Hp}{s:Eb}{a:D8}{y v:V}{u r:D9}{o:Option V}{A:Ez}{E:D9->Dg}
theorem Inv.big (I:Inv X Dn σ H s):EO<s.heap.objs.size:=by
 have h:=(I.mod.glob.keeps I.bk).lt;let:=Ux ∅ h
theorem NM {Q:D9->Dg}(q:A.units+1<Lc)(I:Inv X Dn σ H s)(g:wu H a y<|some v)(n:yt y u)(h:∀w' s',Inv X Dn σ H s'->yt v w'->Q w' s') :
  Eh (Ej X.prog X.w) A (Md (.ref a) u) Q E s:=by
 rcases g with⟨Dl,k,e,ey,l⟩|⟨Dl,k,b,e,ey,eb,l⟩
 .subst ey;let#[z,hd,r,c,f]:=XT I.hok e;let#[w',j,d]:=tD.some_of (by rw[l];let:=c.val k);let:=wpAny_getItem_of (XV n) f.mapOf j<|h w' _ (I.tok _) d
 .subst ey;cases(show u=Em b from n);let#[z,hd,t,c,f]:=IB I.hok e;let#[w',j,d]:=tD.some_of (by rw[l];let:=c.val k);let#[p,o,i]:=ZO.mp j;let:=wpAny_getItem_heap (Vd q) (Xx I.hok eb) f o ?_;rw[i];let:=h w' _ (I.tok _) d
theorem aW {Q:D9->Dg}(i:A.units+1<Lc)(I:Inv X Dn σ H s)(g:wu H a y o)(f:yt y u)(h:∀s',Inv X Dn σ H s'->Q (.bool o.isSome) s') :
  Eh (Ej X.prog X.w) A (EH .In u<|.ref a) Q E s:=by
 rcases g with⟨Dl,k,e,ey,l⟩|⟨Dl,k,b,e,ey,eb,l⟩
 .subst ey;let#[z,hd,j,c,d]:=XT I.hok e;let:=wpAny_in_of (XV f) hd d.mapOf ?_;rw[<-(c.val k).tQ,<-l];let:=h _<|I.tok _
 .subst ey;cases(show u=Em b from f);let#[z,hd,n,c,d]:=IB I.hok e;let:=wpAny_in_heap (Vd i) (Xx I.hok eb) hd d ?_;have q:=(c.val k).tQ;rw[Ui]at q;rw[<-q,<-l];let:=h _<|I.tok _
theorem RJ {Q:D9->Dg}(i:A.units+1<Lc)(I:Inv X Dn σ H s)(g:wu H a y o)(f:yt y u)(h:∀s',Inv X Dn σ H s'->Q (.bool<|!o.isSome) s') :
  Eh (Ej X.prog X.w) A (EH .NotIn u<|.ref a) Q E s:=by
 rcases g with⟨Dl,k,e,ey,l⟩|⟨Dl,k,b,e,ey,eb,l⟩
 .subst ey;let#[z,hd,j,c,d]:=XT I.hok e;let:=wpAny_notIn_of (XV f) hd d.mapOf ?_;rw[<-(c.val k).tQ,<-l];let:=h _<|I.tok _
 .subst ey;cases(show u=Em b from f);let#[z,hd,n,c,d]:=IB I.hok e;let:=wpAny_notIn_heap (Vd i) (Xx I.hok eb) hd d ?_;have q:=(c.val k).tQ;rw[Ui]at q;rw[<-q,<-l];let:=h _<|I.tok _
theorem CV {h':Es}{t':Nat}(I:Inv X Dn σ H s)(f:S8<|H a)(e:E4 a s.heap h')(d:∃q,h'.get? a=some q)(new:yq X.prog X.w (upd H a ob) h' a ob) :
  Inv X Dn σ (upd H a ob) { s with heap:=h',toks:=t' } :=
 I.write f (.inl rfl) (λb q c z=>(e.2 b c).trans z) d new
theorem OQ {H':Hp}{h':Es}{b:Dk}(z:b.length<=sizeLine)(hd:(a==EO)=false)(c:KV b vs)(dd:h'.DictOf (yw P w) a vs) :
  yq P w H' h' a (.dK b):=#[z,hd,vs,c,dd]
theorem NN {Q:Unit->Dg}(M:A.units+1<Lc)(I:Inv X Dn σ H s)(g:tW H a y v H')(t:yt y u)(p:yt v r)(h:∀s',Inv X Dn σ H' s'->Q () s') :
  Eh (Ej X.prog X.w) A (setItem (.ref a) u r) Q E s:=by
 rcases g with⟨Dl,k,e,ey,l,eH⟩|⟨Dl,k,b,e,ey,eb,l,eH⟩
 .subst ey eH;let#[z,hd,O,d,j]:=WJ I.hok e;have N:O.length<=sizeLine:=by rwa[<-d.length]
  have hl:(yp Dl k v).length<=sizeLine:=by have:=xH Dl k v;lia
  let:=wpAny_setItem_pairs (XV t) j λo f n=>h _ ?_;have L:∃q,o.get? a=some q:=let #[q,_,_,i,_]:=f;#[q,i];let:=CV I (by rw[e];let:=Ld) n L<|OQ hl hd (d.put k p) f
 .subst ey eH;cases(show u=Em b from t);let#[z,hd,P,d,j]:=WK I.hok e;have N:P.length<=sizeLine:=by rwa[<-Paired.length d]
  have hl:(yp Dl k v).length<=sizeLine:=by have:=xH Dl k v;lia
  let:=wpAny_setItem_heap (Vd M) (Xx I.hok eb) j λo f n=>h _ ?_;let#[q,D,C,i,F,G,J,_,K]:=f;let:=CV I (by rw[e];let:=Ld) n #[q,i] #[hl,hd,_,(d.put k eb p).keeps λc R B=>?_,q,D,C,i,F,G,J,K];rwa[zH<|WY B e<|λz=>nomatch z]
end
def RC (i:EE):Prop:=∀c b,subscripted i false c b=operate [c,b] (Md c b)
theorem B1 {prog:Ea}{w:Ef}{A:Ez}{E:D9->Dg}{s:Eb}{env:Env}{value b:EE}{pos:Pos}{T id:String}{Q:D9->Dg}
  (hl:typeLookup (.type T) "__getitem__"=Le (some<|.builtin id)) (l:RC b)
  (h:Eh (Ej prog w) A (ER value env) (λo s₁=>Eh (Ej prog w) A (ER b env) (λi s₂=>s₂.TypeIs o T/\Eh (Ej prog w) A (Md o i) Q E s₂) E s₁) E s) :
  Eh (Ej prog w) A (ER (.Subscript value b pos) env) Q E s:=by
 let:=Subscript_<|YH h (λo s₁ f=>YH f (λi s₂ c=>?_) λ_ _ x=>x) λ_ _ x=>x;let#[j,c]:=c;unfold subscriptTail;let:=Zl ?_;rw[getitemInPython_of_ne j.not_modules];let:=Zl<|JR j hl ?_;have e:Eh (Ej prog w) A (subscripted b false o i) (λr d=>Eh (Ej prog w) A (letTemporaryGo value o r>>=λ_=>Le r) Q E d) E s₂:=by
  rw[l o i];let:=wpAny_operating<|YH c (λr d g=>Zl<|wpAny_letTemporaryGo<|Zw g) λ_ _ x=>x
 first
  |let:=Zw (Zl e)
  |let:=Zl (Zw<|Zl e)
  |let:=Zl e
theorem FX (I:Inv X Dn σ H s)(g:wu H a y o):s.TypeIs (.ref a) "dict":=by
 rcases g with⟨Dl,k,e,_,_⟩|⟨Dl,k,b,e,_,_,_⟩
 .let#[_,_,d,_,c]:=XT I.hok e;let:=c.typeIs
 .let#[_,_,f,_,c]:=IB I.hok e;let:=c.typeIs
inductive DgR (x y:V)(H:Hp)(Q:VK):Prop
 |mk (a:D8) (v:V) (e:x=.ref a) (g:wu H a y<|some v) (q:Q v H):DgR x y H Q
def aj (e ty:TE):TE:=λb H Q=>e b H λx c=>ty b c λy d=>DgR x y d Q
def SY (g ty h:TE):TS:=λD b H=>h b H λv d=>g b d λx e=>ty b e λy f=>∃a c,x=.ref a/\tW f a y v c/\D.nx b c
section
variable {X:Cx}{o i e value:EE}{pos DF tpos:Pos}{td ty tv:TE}
theorem kA (t:X.A.units+1<Lc)(q:PE X o td)(p:PE X i ty)(r:RC i):PE X (.Subscript o i pos) (aj td ty):=by
 intro c s e H Q I h;let:=B1 PySem.F.slot_dict_getitem.lookup r<|Ct (q c s e H _ I h) λu D ⟨x,f,l,B,w⟩=>Ct (p c D e f _ l w) λG J E=>?_;let#[y,j,d,C,a,v,ex,g,z]:=E;subst ex;obtain rfl:u=Em a:=B;let:=#[FX d g,NM t d g C λL K n b=>#[v,j,n,b,z]]
theorem xR (z:X.A.units+1<Lc)(t:PE X o td)(q:PE X i ty)(B:PE X value tv)(w:L4 value (some<|.Subscript o i DF) pos.line X.env=Le false) :
  PS X (.Assign [.Subscript o i DF] value pos) (SY td ty tv):=by
 intro c s b H D I h;let:=wpAny_Assign_Subscript (Ct (B c s b H _ I h) λr L ⟨v,d,j,G,C⟩=>Ct (t c L b d _ j C) λu M ⟨x,e,l,J,E⟩=>Ct (q c M b e _ l E) λP Q N=>?_) w;let#[y,O,n,K,a,f,ex,g,F]:=N;subst ex;obtain rfl:u=Em a:=J;let:=NN z n g K G λR p=>#[b,f,p,F]
end
theorem OP (h:Es)(b:EO<h.objs.size):yq P w H (h.push { cls:=.type "dict",data:=.dict #v[] }) h.objs.size (.dK []) :=
 #[ZP _,Y2.mpr<|Er<|ZZ b,[],.nil,Heap.DictOf.new h]
def Wm:TE:=λ_ H Q=>∀p,H p=none->Q (.ref p) (upd H p<|.dK [])
section
variable {X:Cx}{pos:Pos}
theorem xM:PE X (.Dict [] [] pos) Wm:=λb s c H Q I h =>
 wpAny_Dict_empty #[.ref s.heap.objs.size,_,I.laid (t':=s.toks) (λ_ _ q=>Zr _ q) (Zn _)<|OP s.heap I.big,rfl,h _<|I.hok.fresh<|Zn _]
end
structure M2 (X:Cx)(o:EE)(m:Str)(Dp:Pos)(e f:EE)(Dq:Pos):Prop where
 base:Ly o m X.env (ER o X.env)=ER o X.env
 few:((E9 Dq<|Eo [e,f] X.env).all (λx=>!x.1)&&(backToKw Dq<|LR [] X.env).all (λx=>x.1.isSome) && decide (([e,f]:List EE).length+([]:List Keyword).length+(if([]:List Keyword).isEmpty then 0 else 1)<30))=true
 line:(Dp.endLine==Dq.line)=true
 trees:E9 Dq (Eo [e,f] X.env)=[(false,ER e X.env),(false,ER f X.env)]
def bZ (H:Hp)(a:D8):Prop:=(∃b,Rd H a<|.dK b)\/∃b,Rd H a<|.dT b
theorem Tt (I:Inv X Dn σ H s)(d:bZ H a) :
  s.TypeIs (.ref a) "dict"/\(∀b,Em a=.ref b->∃ob,s.heap.get? b=some ob/\ob.dict=none)/\(a==EO)=false:=by
 rcases d with⟨Dl,e⟩|⟨Dl,e⟩
 .let#[_,hd,h,_,c]:=XT I.hok e;let:=#[c.typeIs,λb q=>?_,hd];cases q;let#[ob,_,_,f,g,_]:=c;let:=#[ob,f,g.2.1]
 .let#[_,hd,i,_,c]:=IB I.hok e;let:=#[c.typeIs,λb q=>?_,hd];cases q;let#[ob,_,_,f,g,_]:=c;let:=#[ob,f,g.2.1]
section
variable {X:Cx}{Dn:Dd}{σ:St}{H:Hp}{s:Eb}{a:D8}{y d:V}{u r:D9}{o:Option V}{A:Ez}{E:D9->Dg}
theorem Tn {Q:D9->Dg}(j:A.units+1<Lc)(I:Inv X Dn σ H s)(g:wu H a y o)(i:yt y u)(rd:yt d r)(h:∀w' s',Inv X Dn σ H s'->yt (o.getD d) w'->Q w' s') :
  Eh (Ej X.prog X.w) A (call (.builtin "dict.get") [.ref a,u,r]) Q E s:=by
 rcases g with⟨Dl,k,e,ey,l⟩|⟨Dl,k,b,e,ey,eb,l⟩
 .subst ey;let#[z,hd,p,c,f]:=XT I.hok e;let:=Uy VR f.typeIs PySem.F.entry_dict_get (PySem.F.args_dict_get_3 _ _ _) (meets_dict_get_default (yw X.prog X.w) a (XV i) hd r) #[_,f.mapOf,h _ _ (I.tok _) ?_];rw[l];let:=(c.val k).getD rd
 .subst ey;cases(show u=Em b from i);let#[z,hd,n,c,f]:=IB I.hok e;let:=Uy VR f.typeIs PySem.F.entry_dict_get (PySem.F.args_dict_get_3 _ _ _) (meetsH_dict_get_default (tupleKind<|yw X.prog X.w) a b hd r) #[Vd j,k,n,Xx I.hok eb,f,h _ _ (I.tok _) ?_];rw[l];let:=(c.val k).getD rd
end
def Wl (f ty g:TE):TE:=λb H Q=>f b H λx c=>∃a,x=.ref a/\bZ c a/\ty b c λy e=>g b e λz d=>∃o,wu d a y o/\Q (o.getD z) d
section
variable {X:Cx}{o e f:EE}{Dp Dq:Pos}{td ty tx:TE}
theorem GG (C:X.A.units+1<Lc)(B:PE X o td)(v:PE X e ty)(w:PE X f tx)(m:M2 X o "get" Dp e f Dq):PE X (.Call (.Attribute o "get" Dp) [e,f] [] Dq) (Wl td ty tx):=by
 intro b s i H Q I h;let:=wpAny_Call_method m.base m.few m.line PySem.F.plainAttrs_dict VR PySem.F.type_dict_get<|Ct (B b s i H _ I h) λu M R=>?_;let#[x,l,j,J,a,ex,d,D]:=R;subst ex;obtain rfl:u=Em a:=J;let#[O,P,_]:=Tt j d;let:=#[O,P,?_];rw[m.trees];let:=La rfl<|Calls.evalArgs_plain<|LP<|Ct (v b M i l _ j D) λT N ⟨y,n,q,K,E⟩ => LP<|Ct (w b N i n _ q E) λS Y ⟨z,p,r,L,U,g,G⟩=>Calls.spliced_nil ?_
 let:=Tn C r g K L λw' Z t c=>#[_,p,t,c,G]
end
end L2
namespace Att
open PySem PySem.W PySem.Calls PyProof.Rows
theorem X9 {P:Params}{h:Es}:∀(ns:List Int) (vs:Da),WellAll P h vs (ns.map WData.int)->IntsAre vs ns:=by
 intro ns
 induction ns with
 |nil =>
  intro vs w;rw[VM]at w;cases w;let:=.nil
 |cons n ns ih =>
  intro vs w;rw[ZR]at w;cases w with
  |cons a b =>
   cases a;let:=.cons _ _<|ih _ b
theorem Oq {l:OpenLaw}{n:Nat}(u:l.most=some n){P:Params}{h:Es}{args:List WData}{c:Da}
  (b:l.row.toRowW.claim.pre args=true) (i:WellAll P h c args) :
  ∃a vs ns,c=[Em a]/\args=[WData.list<|ns.map WData.int]/\h.get? a=some { cls:=.type "list",data:=.seq vs.toArray }/\IntsAre vs ns/\ns.length<=n:=by
 have g:=(pre_splitW b).1;have j:l.pre.holds [] { args:=args }=true:=(pre_splitW b).2;let#[d,r,rfl,p,s]:=hasAllW_cons g;obtain rfl:=hasAllW_nil s;let#[w,rfl,t]:=hasW_list p;let#[ns,rfl]:=items_int t;have o:ns.length<=n:=by
  unfold OpenLaw.pre at j;have e:(WTm.not<|.lt (.lit<|.int (n:Int))<|.len<|.arg 0).holds [] { args:=[.list<|ns.map .int] }=true:=by
   have e:=(holds_andW j).1;rw[u]at e;let:=e
  have f:=condW_of e<|w_not<|w_lt w_lit<|w_len_list<|w_arg rfl;rw[Zj]at f;let:=Nat.le_of_not_lt λq=>?_;have v:(n:Int)<((ns.length:Nat):Int):=⋯
  first
   |(rw[Zm v]at f;let:=absurd f<|∅)
   |(simp at f;lia)
 cases i with
 |cons w1 w2 =>
  cases w2;cases w1 with
  |list ho hall=>let:=#[_,_,ns,rfl,rfl,ho,X9 ns _ hall,o]
theorem Oo (l:OpenLaw)(args:List WData):l.row.toRowW.claim.post args (.bool true) args=true :=
 postW_of
  (show WShape.has [] (.bool true) .bool=true by first|rfl|decide|simp[WShape.has,WShape.arms,WShape.armsAll])
  (show(WTm.eq .res<|.lit<|.bool true).value [] { args:=args,res:=some<|.bool true,after:=args }=some (.bool<|true==true) from w_eq_bool (w_res rfl) w_lit) rfl
theorem nH {l:OpenLaw}{n:Nat}{q:Ea}{b:By}{s:(Str->Db)->Es->Prop}{t:Ef->Es->Prop}{d:DefRec}
  (J:l.most=some n) (i:d.params.defaults=[])
  (call:∀(w:Ef) (s₀ s₁:Eb) (mg mb:Str->Db) (fa:D8) (o:Obj) (pm cd doc:D9) (a:D8) (vs:Da) (ns:List Int),Ground q b [] s w s₀ mg mb s₁.heap->t w s₁.heap -> s₁.heap.get? fa=some o->o.data=.func (docDef d.name d.params d.body d.scope pm cd doc)->s₁.heap.CodeRec cd d.name->mg d.name=some (.ref fa) -> s₁.heap.get? a=some { cls:=.type "list",data:=.seq vs.toArray }->IntsAre vs ns->ns.length<=n->s₁.gens=#v[] -> LN (Ej l.prog w) callerA (.call (.ref fa) #[[.ref a],[]]) (λr s'=>r=.ok (.ret<|.bool true)/\OldK s₁.heap s'.heap/\s'.os=s₁.os/\Ma s'.gens) s₁) :
  WalkO q b s t l.row.toRowW d [] (λf vs=>PySem.call f vs):=by
 intro w s₀ s₁ mg mb G Y fa o pm cd doc B kV K hd h v j F u z N g y M p H;obtain rfl:B=.none:=Dflts.none v i;obtain rfl:kV=.none:=Dflts.noKw v;let#[a,vs,ns,rfl,rfl,e,c,A]:=Oq J g p;let:=enter_call<|JH (call w s₀ s₁ mg mb fa o pm cd doc a vs ns G Y K (fd_plain hd) h j e c A F) λr s' L=>?_;let#[rfl,C,D,E]:=L;let:=#[.inl #[.bool true,.bool true,[],rfl,λ_=>rfl,.bool true,Oo l _,λ_=>#[List.Pairwise.nil,λ_ I=>(nomatch I)]],C,D,E]
end Att
namespace L2
open PySem PySem.Spec PyProof.Rows
theorem Bt:∀{vs:Da} {ns:List Int},IntsAre vs ns->zb (ns.map V.int) vs
 |_,_,.nil=>.nil
 |_,_,.cons n t h=>.cons #[t,rfl]<|Bt h
def Only (H:Hp):Prop:=∀b,H b=none\/∃o c,H b=some (.frz o<|.lst c)
theorem O9 {P:Ea}{w:Ef}{K:Co}{mg Q:Str->Db}{CX:ND}{k:Nat}{J a:D8}{U:Ee}{x:Str}{sp:Sp}{c:Eb}{vs:Da}{ns:List Int}
  (S:K.In c.heap) (B:c.heap.Ns Ek mg) (g:c.heap.Ns builtinsNs Q) (M:∀x:Str,x≠"__name__"->Q x=Lv x) (A:c.heap.NoLimit) (hg:c.gens=#v[])
  (G:c.heap.get? a=some { cls:=.type "list",data:=.seq vs.toArray }) (Z:IntsAre vs ns) (hl:ns.length<=sizeLine) (hr:wX k callerA)
  (F:∀base:Es,K.In base->base.Ns Ek mg->zc P w K mg base CX k J U [x] sp) (l:∀(s:Eb) (u:D9),BindsTo s U #[[u],[]] [(x,u)])
  (O:∀H:Hp,Only H->za K H a (ns.map V.int)->sp [.ref a] H (λv _=>v=.bl true) λ_ _ _=>False)
  (L:∀H e s',CX [] H c (λ_ _ _=>False) e s'->False) :
  LN (Ej P w) callerA (.call (.ref J) #[[.ref a],[]]) (λr s'=>r=.ok (.ret<|.bool true)/\OldK c.heap s'.heap/\s'.os=c.os/\Ma s'.gens) c:=by
 have rv:=Bt Z;have D:=Z.length;have j:∀H:Hp,Only H->za K H a (ns.map V.int)->sy P w H c.heap->(∀b,H b≠none->b=a)->(H a≠none->K.lookup a=none) ->
   LN (Ej P w) callerA (.call (.ref J) #[[.ref a],[]]) (λr s'=>r=.ok (.ret<|.bool true)/\OldK c.heap s'.heap/\s'.os=c.os/\Ma s'.gens) c:=by
  intro H Y hS hok X hK;have f:∀{b:D8} {o:Obj},c.heap.get? b=some o->H b=none->(Hd c.heap H).get? b=some o:=λe n=>OZ e n;have R:∀{b:D8} {o:Obj} {t:Array LU} {p:Nat},c.heap.get? b=some o->o.data=.dict t p->H b=none:=λ{b o t p} e d=>by
   cases q:H b with
   |none=>rfl
   |some u =>
    have I:b=a:=X b (by rw[q];simp);subst I;rw[G]at e;cases e;have d':Data.seq vs.toArray _=Data.dict t p:=d;cases d'
  have i:∀{b:D8} {m:Str->Db},c.heap.Ns b m->(Hd c.heap H).Ns b m:=λ{b m} ⟨o,t,p,e,d,r⟩=>#[o,t,p,f e<|R e d,d,r];have y:=λb o e=>f (S b o e) (by
   cases q:H b with
   |none=>rfl
   |some u =>
    have I:b=a:=X b (by rw[q];simp);subst I;rw[hK (by rw[q];simp)]at e;cases e)
  have hM:Mod K mg (Hd c.heap H):=#[y,i B,#[Q,i g,M],let #[mc,h1,h2]:=A;#[mc,i h1,h2]];have e0:mC P w K mg (Hd c.heap H) callerA [] c H:=#[rfl,hM,λb o e=>R8 e,Vb<|NY _ _,trivial,λb g=>absurd (show b∈([]:Dc) from g) (by simp),hok,.of_eq hg];let:=JH ((F _ y<|i B).run callerA [] c H #[[.ref a],[]] [.ref a] [.ref a] _ _ hr e0 (l c<|.ref a) (.cons rfl .nil)<|O H Y hS) λr s' h=>?_;cases r with
  |error e=>let:=(L H e s' h).elim
  |ok fl =>
   cases fl with
   |next=>let:=EC h
   |brk=>let:=EC h
   |cont=>let:=EC h
   |ret u =>
    let#[v,H',os,bare,un,C,r',q]:=h;have q':v=.bl true:=q;subst q';obtain rfl:u=Mi true:=r';let:=#[rfl,OldK.of_keep λb o e=>?_,os,bare];cases q:H b with
    |none=>let:=un.keep b o e q (by intro z;let:=absurd (show b∈([]:Dc) from z) (by simp)) (by simp)
    |some u =>
     rcases Y b with z|⟨ob,xs,z⟩
     .rw[q]at z;cases z
     .have z2:=un.sX b ob _ z;let#[T,_]:=hok b _ z;let#[e2,_]:=C b _ z2;rw[e]at T;cases T;let:=e2
 cases N:K.lookup a with
 |some o =>
  have e:=S a o N;rw[G]at e;cases e;let:=j (λ_=>none) (λ_=>.inl rfl) (.inr #[_,vs.toArray,_,N,rfl,rfl,rfl,by rw[ZF,D];let:=hl,by simpa using rv]) (λb u z=>by have E:(none:Option HO)=some u:=z;cases E) (λb z=>absurd rfl z) λz=>absurd rfl z
 |none =>
  let:=j (λb=>if b=a then some (.frz { cls:=.type "list",data:=.seq vs.toArray }<|.lst<|ns.map V.int) else none) (λb=>?_) (.inl<|.inr #[{ cls:=.type "list",data:=.seq vs.toArray },ZJ rfl]) (λb u z=>?_) (λb z=>?_) λ_=>N
  .by_cases g:b=a
   .let:=.inr #[_,_,ZJ g]
   .let:=.inl (ZI g)
  .by_cases g:b=a
   .have E:=(ZJ g).symm.trans z;cases E;subst g;let:=#[G,by rw[Zj];let:=hl,vs,_,rv,G]
   .have E:=(ZI g).symm.trans z;cases E
  .by_cases g:b=a
   .let:=g
   .let:=absurd (ZI g) z
theorem iT {l:PySem.W.OpenLaw}{n k:Nat}{q:Ea}{i:By}{E:(Str->Db)->Es->Prop}{D:Ef->Es->Prop}{d:DefRec}{K:Params->Co}{CX:Ef->ND}{sp:Ef->Sp}{x:Str}
  (R:l.most=some n) (z:n<=sizeLine) (t:d.params.defaults=[]) (S:wX k callerA)
  (N:∀(w:Ef) (h:Es),D w h->(K w.params).In h)
  (F:∀(w:Ef) (mg:Str->Db) (fa:D8) (h:Es),(K w.params).In h->h.Ns Ek mg->mg d.name=some (.ref fa) -> ∃fd:Ee,(∀(s:Eb) (u:D9),BindsTo s fd #[[u],[]] [(x,u)]) /\ ∀base:Es,(K w.params).In base->base.Ns Ek mg->zc l.prog w (K w.params) mg base (CX w) k fa fd [x] (sp w))
  (A:∀(w:Ef) (H:Hp) (a:D8) (ns:List Int),ns.length<=n->Only H->za (K w.params) H a (ns.map V.int)->sp w [.ref a] H (λv _=>v=.bl true) λ_ _ _=>False)
  (r:∀(w:Ef) (H:Hp) (s:Eb) (e:D9) (s':Eb),CX w [] H s (λ_ _ _=>False) e s'->False) :
  PySem.W.WalkO q i E D l.row.toRowW d [] (λf vs=>PySem.call f vs):=by
 let:=Att.nH R t λw s₀ p mg Z fa o pm U I a vs ns G Y X hd P y j c B Q=>?_;have C:=N w _ Y;let#[fd,O,J]:=F w mg fa _ C G.T.g y;let:=O9 C G.T.g G.T.b G.T.builtins G.T.nolimit Q j c (Z2 B z) S J O (λH L M=>A w H a ns B L M) λH e s'=>r w H p e s'
def inClass (s:EF)(j:Nat):Stmt:=match s with
 | .ClassDef _ _ _ body _ _ _ _ _ _ _=>body.getD j<|.Pass #[0,0,0,0]
 |_=>.Pass #[0,0,0,0]
def qU (s:EF):Arguments:=match s with
 | .FunctionDef _ a _ _ _ _ _ _ _ _=>a
 |_=>{ posonlyargs:=[],args:=[],vararg:=none,kwonlyargs:=[],kw_defaults:=[],kwarg:=none,defaults:=[] }
def xW (s:EF):List Stmt:=match s with
 | .FunctionDef _ _ b _ _ _ _ _ _ _=>b
 |_=>[]
def zI (s:EF):Scope:=match s with
 | .FunctionDef _ _ _ _ _ _ sc _ _ _=>sc
 |_=>{ kind:=.function,names:=[],isGenerator:=false,isCoroutine:=false }
abbrev CA:ND:=λ_ _ _ _ _ _=>False
abbrev E0:XK:=λ_ _ _=>False
theorem HM:Xf CA X E0:=λ_ _ _ _ _ _ _ h=>h.elim
structure xj (K:Co)(x qual:Str)(st:EF)(f:D8)(fd:Ee):Prop where
 ex:∃(oc:D9) (od:Option D8) (kV doc pm:D9) (an:Option D8) (cdv ct:D9) (osl:Array Db),
  fd=EW x qual (qU st) (xW st) (zI st) .none kV doc pm an cdv ct/\K.lookup f=some #[oc,od,.func fd,osl]/\Lp K cdv qual=true
 kp:EK K (.ref f)=true
section
variable {P:Ea}{w:Ef}{K:Co}{mg:Str->Db}{base:Es}
theorem xj.ok {st:EF}{k:Nat}{sp:Sp}(F:xj K x qual st f fd)(S:zx N ps<|zI st)
  (d:∀(cdv:D9) (A:Ez) (outer:List Env) (s:Eb) (H:Hp) (vs:Di) (Q:VK) (E:XK),wX k (A.deeper<|envOfC qual (zI st) s.heap.objs.size f cdv)->sp vs H Q E -> ∃t,nZ (CU CA P w K mg base N qual (zI st) f cdv A outer s H E).fW (xW st) t/\t { nx:=λ_ H'=>Q .non H',rt:=Q } (start N vs) H)(len:∀vs H Q E,sp vs H Q E->vs.length=ps.length:=by intro _ _ _ _ h;first|(cases h;subst_vars;rfl)|repeat first|(let#[rfl,_]:=h;rfl)|let#[_,h]:=h):zc P w K mg base CA (k+1) f fd ps sp:=by
 let#[n,o,kV,e,p,l,cdv,ct,j,rfl,i,b]:=F.ex;let:=SM i b S len λA outer s H vs Q E g c=>?_;let#[t,h,q]:=d cdv A outer s H vs Q E g c;let:=#[t,h.fW,q]
theorem xj.binds {st:EF}{ps:By}(F:xj K x qual st f fd)
  (h:∀(kV doc pm:D9) (an:Option D8) (cdv ct:D9) (us:Da),us.length=ps.length->bindArgs (EW x qual (qU st) (xW st) (zI st) .none kV doc pm an cdv ct) #[us,[]]=Le (ps.zip us)):wW K fd ps []:=by
 let#[e,g,kV,doc,pm,an,cdv,ct,c,rfl,d,b]:=F.ex;let:=.all<|h kV doc pm an cdv ct
theorem vW {x qual:Str}{st:EF}{f:D8}{i:D9}{j g:Option D8}{e:Array Db}{kV d h b ct:D9}(l:K.lookup f=some #[i,j,.func<|EW x qual (qU st) (xW st) (zI st) .none kV d h g b ct,e])
  (c:Lp K b qual=true) (k:EK K (.ref f)=true):xj K x qual st f (EW x qual (qU st) (xW st) (zI st) .none kV d h g b ct):=#[#[i,j,kV,d,h,g,b,ct,e,rfl,l,c],k]
end
theorem M5 (b:wX k A):A.units+1<cLine:=Ve (Nat.add_le_add_left (∅:1<=64) _) b.units
section
variable {X:Cx}
theorem pv (i:Nat){x:Str}{pos:Pos}(c:X.N[i]?=some x:=by rfl)(d:aI X.env.scope x:=by first|let:=Ew rfl|let:=Or.inr (Ew rfl)|let:=Or.inr (Or.inr rfl))(hd:(x==("__debug__":Str))=false:=by decide)
  (b:(x==("__classdict__":Str))=false:=by decide):PE X (.Name x pos) (Wt i):=T5 c d hd b
end
theorem UB {A B:Prop}(h:B):if false=true then A else B:=by
 rwa[ZI Z7]
theorem UJ {A B:Prop}(h:A):if true=true then A else B:=by
 rwa[ZJ rfl]
theorem UI {c A B:Prop} [Decidable c](h1:c->A)(h2:¬c->B):if c then A else B:=by
 by_cases h:c
 .rw[ZJ h];let:=h1 h
 .rw[ZI h];let:=h2 h
theorem SO {c A B:Prop} [Decidable c](hc:c)(h:B):if(!decide c)=true then A else B:=by
 rw[Zm hc];let:=UB h
def zz (H H':Hp):Prop:=∀b o,H b=some o->H' b=some o
theorem zz.refl (H:Hp):zz H H:=λ_ _ h=>h
theorem zz.trans (a:zz H H1)(b:zz H1 H2):zz H H2:=λc o h=>b c o<|a c o h
theorem zz.free (e:zz H H'){l:D8}(h:H' l=Option.none):H l=Option.none:=by
 cases q:H l with
 |none=>rfl
 |some o =>
  rw[e l o q]at h;cases h
theorem zz.seq {K:Co}(e:zz H H')(h:za K H a xs):za K H' a xs:=by
 rcases h with(h|⟨o,h⟩)|h
 .let:=.inl (.inl<|e _ _ h)
 .let:=.inl (.inr #[o,e _ _ h])
 .let:=.inr h
section
variable {κ:Type} [DecidableEq κ]
theorem Xv {b:List (κ×V)}{k:κ}(h:UH b k=none):¬k∈b.map (·.1):=by
 intro m;let#[p,c,e]:=Zo.mp m;have q:(b.any λd=>decide (d.1=k))=true:=YB.mpr #[p,c,Zm e];rw[qF,h]at q;let:=absurd q (by simp)
theorem k8 {b:List (κ×V)}{k:κ}{v:V}(h:UH b k=some v):k∈b.map (·.1):=by
 have q:(b.any λd=>decide (d.1=k))=true:=by
  rw[qF,h]
  all_goals rfl
 let#[p,c,e]:=YB.mp q;let:=Zo.mpr #[p,c,ZA e]
theorem jN:∀{l:List κ} {k:κ},l.Nodup->¬k∈l->(l++[k]).Nodup
 |[],k,_,_=>by simp
 |a::r,k,h,hk=>by
  let#[b,c]:=Yu.mp h;let:=Yu.mpr #[λm=>?_,jN c λm=>hk<|Zx.mpr<|Or.inr m]
  rcases ZD.mp m with q|q
  .let:=b q
  .let:=hk (Zx.mpr<|Ew (Zk.mp q).symm)
end
theorem jW {d b:Type}{f:d->b->Sem (ForInStep b)}(g:b->d->b):∀(l:List d) (c:b),(∀x∈l,∀c,f x c=Le (.yield<|g c x))->forIn l c f=Le (l.foldl g c)
 |[],c,_=>rfl
 |x::l,c,h=>by
  rw[List.forIn_cons,h x Zt,pure_bind];let:=jW g l (g c x) λy e=>h y<|Zp _ e
def Xt (cells:List<|Str×D8)(c:List<|Str×D8)(x:Str×LK):List (Str×D8) :=
 if x.2==.free then(match cells.lookup x.1 with|some a=>(x.1,a)::c|none=>c) else c
def jT (env:Env)(sc:LJ):List (Str×D8):=sc.names.foldl (Xt env.cells) []
theorem uC {scope:LJ}{env:Env}(h:∀x∈scope.names,x.2=.free->∃c,env.cells.lookup x.1=some c):closureFor scope env=Le (jT env scope):=by
 simp only[closureFor];rw[jW (Xt env.cells) scope.names []<|λx g c=>?_]
 .rfl
 .let#[n,k]:=x;unfold Xt;cases d:(k==NameKind.free) with
  |true =>
   have e:k=.free:=by simpa using d
   let#[a,f]:=h (n,k) g e;have b:env.cells.lookup n=some a:=f;simp only[d,if_true,cellOf,b,pure_bind]
  |false=>simp only[d,Jb,Vs]
theorem qM {c:Type}(x n:Str)(a:c)(l:List<|Str×c):Lu x ((n,a)::l)=if x=n then some a else Lu x l:=by
 by_cases h:x=n
 .have b:=JW.mpr h;simp only[List.lookup_cons,b,ZJ h]
 .have b:=Y2.mpr h;simp only[List.lookup_cons,b,ZI h]
theorem GE {cells:List (Str×D8)}:∀(names:List<|Str×LK) (acc:List<|Str×D8),(∀x c,acc.lookup x=some c->cells.lookup x=some c) ->
  ∀x c,(names.foldl (Xt cells) acc).lookup x=some c->cells.lookup x=some c
 |[],acc,h=>h
 |(n,k)::r,acc,h=>GE r _ λx c e=>by
  unfold Xt at e
  by_cases d:((n,k).2==NameKind.free)=true
  .rw[ZJ d]at e;dsimp only at e;cases q:cells.lookup n with
   |none=>rw[q]at e;let:=h x c e
   |some a =>
    rw[q]at e;dsimp only at e;rw[qM]at e
    by_cases b:x=n
    .rw[ZJ b]at e;rwa[b,q]
    .rw[ZI b]at e;let:=h x c e
  .rw[ZI d]at e;let:=h x c e
theorem Be:∀(names:List<|Str×LK) (acc:List<|Str×D8) (x:Str),(∃c,acc.lookup x=some c)->∃c,(names.foldl (Xt cells) acc).lookup x=some c
 |[],acc,x,h=>h
 | (n,k)::r,acc,x,h=>Be r _ x (by
  let#[c,h]:=h;unfold Xt
  by_cases b:((n,k).2==NameKind.free)=true
  .rw[ZJ b];cases q:cells.lookup n with
   |none=>let:=#[c,h]
   |some a =>
    rw[qM]
    by_cases d:x=n
    .let:=#[a,by rw[ZJ d]]
    .let:=#[c,by rw[ZI d];let:=h]
  .rw[ZI b];let:=#[c,h])
theorem FS {cells:List (Str×D8)}{x:Str}{c:D8}(b:cells.lookup x=some c):∀(names:List<|Str×LK) (acc:List<|Str×D8),(x,NameKind.free)∈names->∃c,(names.foldl (Xt cells) acc).lookup x=some c
 |[],acc,h=>by cases h
 |(n,k)::r,acc,h=>by
  rcases Zx.mp h with e|e
  .cases e;let:=Be r _ x #[c,?_];unfold Xt;rw[ZJ<|by rfl];rw[b];rw[qM,ZJ rfl]
  .let:=FS b r _ e
theorem MX {env:Env}{sc:LJ}{x:Str}{c:D8}(b:env.cells.lookup x=some c)(f:(x,NameKind.free)∈sc.names):(jT env sc).lookup x=some c:=by
 let#[d,h]:=FS b sc.names [] f;have e:=GE sc.names [] (λx c e=>by cases e) x d h;rw[b]at e;cases e;let:=h
theorem k9 {x:Str}{c:D8}(h:(jT env sc).lookup x=some c):env.cells.lookup x=some c :=
 GE sc.names [] (λx c e=>by cases e) x c h
def HY (env:Env)(x:Str)(k:LK):NameKind:=if(k==.free&&env.scope.kind==.function&&env.kindOf x==some .cell) then .cell else k
theorem kO {env:Env}(x:Str):∀names:List<|Str×LK,
  (names.map λ(n,k)=>if(k==NameKind.free&&env.scope.kind==.function&&env.kindOf n==some .cell) then(n,NameKind.cell) else(n,k)).lookup x=(names.lookup x).map (HY env x)
 |[]=>rfl
 |(n,k)::r=>by
  have c:=kO (env:=env) x r;rw[ZR];have e:(if(k==NameKind.free&&env.scope.kind==.function&&env.kindOf n==some .cell)=true then(n,NameKind.cell) else(n,k))=(n,HY env n k):=by
   unfold HY
   split<;>rfl
  dsimp only;rw[e,qM,qM]
  by_cases b:x=n
  .rw[ZJ b,ZJ b,b];rfl
  .rwa[ZI b,ZI b]
theorem XX {env:Env}{scope:LJ}{cl:List (Str×D8)}{C:D8}(x:Str):(L8 scope cl C env).scope.names.lookup x=(scope.names.lookup x).map (HY env x):=kO x scope.names
def UU (src:List<|Option Nat)(σ:St):St:=src.map λo=>o.bind λi=>(σ[i]?).join
structure tX (sc:LJ)(N N':By)(src:List<|Option Nat)(scope:LJ):Prop where
 nd:N'.Nodup
 len:src.length=N'.length
 kind:scope.kind=.function
 nQ:∀y∈scope.names,y.2≠.cell
 names:∀y∈scope.names,y.2=.local->scope.names.lookup y.1=some .local
 free:∀y∈scope.names,y.2=.free->sc.names.lookup y.1=some .cell\/sc.names.lookup y.1=some .free
 srcs:((src.zip N').all λ(o,x)=>match o with|none=>true|some i=>N[i]?==some x&&scope.names.lookup x==some .free)=true
theorem tX.a {sc:LJ}{N N':By}{src:List (Option Nat)}{scope:LJ}(nd:N'.Nodup:=by lk)(len:src.length=N'.length:=by rfl)(kind:scope.kind=.function:=by rfl)(nQ:∀y∈scope.names,y.2≠.cell:=by lk)(names:∀y∈scope.names,y.2=.local->scope.names.lookup y.1=some .local:=by lk)(free:∀y∈scope.names,y.2=.free->sc.names.lookup y.1=some .cell\/sc.names.lookup y.1=some .free:=by lk)(srcs:((src.zip N').all λ(o,x)=>match o with|none=>true|some i=>N[i]?==some x&&scope.names.lookup x==some .free)=true:=by lk):tX sc N N' src scope:=#[nd,len,kind,nQ,names,free,srcs]
theorem tX.at (O:tX sc N N' src scope){j i:Nat}{x:Str}(c:src[j]?=some (some i))(d:N'[j]?=some x):N[i]?=some x/\scope.names.lookup x=some .free:=by
 have e:(src.zip N')[j]?=some (some i,x):=by rw[Jn];let:=#[c,d]
 have q:=ZQ.mp O.srcs _<|Zy e;have b:(N[i]?==some x&&scope.names.lookup x==some .free)=true:=q;rw[ZB]at b;let:=#[Us b.1,Us b.2]
def Cx.comp (X:Cx)(N':By)(scope:LJ)(C:D8)(s:Eb)(H:Hp)(b:Dc):Cx :=
 { X with N:=N',s₀:=s,H₀:=H,env:=L8 scope (jT X.env scope) C X.env,outer:=X.stack,ex:=b,fn:=λ_=>false,pn:=[],xe:=λ_ _=>False }
theorem Un.adopt {D:D8}(u:Un fs ex H H1 h h1)(f:h.get? D=none)(c:H D=none):Un fs ex H (upd H1 D o) h h1 where
 keep:=u.keep
 slot:=u.slot
 free:=λb d q n i=>by
  have g:b≠D:=λz=>by rw[z,f]at q;cases q
  rw[zH g];let:=u.free b d q n i
 there:=u.there
 tups:=λb e q=>by rw[zH<|zL q c];let:=u.tups b e q
 sX:=λb d e q=>by rw[zH<|zL q c];let:=u.sX b d e q
 rQ:=λb j q=>by rw[zH<|zL q c];let:=u.rQ b j q
theorem sy.adopt {D:D8}(x:sy P w H h)(n:H D=none)(new:yq P w (upd H D o) h D o):sy P w (upd H D o) h:=λb u e=>by
 by_cases d:b=D
 .subst d;rw[zB]at e;cases e;let:=new
 .rw[zH d]at e;let:=(x b u e).stay (λc v _ q=>q) (λc q=>by rwa[zH<|zL q n]) λc f q=>by rwa[zH<|zL q n]
def gV (X:Cx)(b:List EE)(f:TT):Prop :=
 ∀(e:Dd) (s:Eb) (d:St) (H:Hp) (Q:Bool->Hp->Prop),Inv X e d H s->f d H Q ->
  Eh (Ej X.prog X.w) X.A (forIn b true λc r=>if r=true then do let ok <-isTrue c X.env (ER c X.env);Le (L9 ok) else Le (L9 r)) (TP X e d Q) X.xe s
def Bc:TT:=λ_ H Q=>Q true H
theorem x5:gV X [] Bc:=by
 intro b s c H Q I h;rw[List.forIn_nil];let:=Zw #[H,I,h]
theorem II (g:PT X c tc):gV X [c] tc:=by
 intro d s j H Q I h;rw[List.forIn_cons];let:=Zl<|Zl<|Ct (g d s j H _ I h) λb l ⟨e,f,i⟩=>Zw ?_;dsimp only;rw[List.forIn_nil];let:=Zw #[e,f,i]
def Xc (src:List<|Option Nat)(J:It)(g:TG)(t:TT)(s:TE)(Q:VK)(σ:St)(H:Hp):Prop :=
 ∃W:Nat->Nat->Di->St->Hp->Prop,(∃m,W 0 m [] (UU src σ) H)/\∀i m f j d,W i m f j d->f.length<=sizeLine /\
 ((J.stop i d/\∀p,d p=none->Q (.ref p) (upd d p<|.lst f)) \/ (J.go i d/\∃l:Di->St->Hp->Prop,(∀h c e,l h c e->∃o,o<m/\W (i+1) o h c e) /\ ∀x e,J.kh i d x e->g x j e λc q=>t c q λb n=>if b=true then s c n λy r=>l (f++[y]) c r else l f c n))
def Rr (src:List<|Option Nat)(f:TI)(g:TG)(e:TT)(d:TE):TE:=λb H Q=>f b H λJ c=>Xc src J g e d Q b c
section
variable {X:Cx}{tg elt iter:EE}{ifs:List EE}{scope sc:LJ}{N N':By}{src:List (Option Nat)}{g:TG}{tf:TT}{te:TE}{wi:TI}{pos:Pos}
theorem Ph {prog:Ea}{w:Ef}{A:Ez}{R:Result->Dg}{s:Eb}{p f:D9}{env:Env}(I:Nat->Dg)
  (o:∀n s,I n s->Eh (Ej prog w) A (LO p) (λr s₁=>match r with
   |none=>R (.ok .next) s₁
   | some v=>Eh (Ej prog w) A (LM tg p v) (λ_ s₂=>Eh (Ej prog w) A (assign tg env v) (λ_ s₃ =>
     Eh (Ej prog w) A (forIn ifs true λc r=>if r=true then do let ok <-isTrue c env (ER c env);Le (L9 ok) else Le (L9 r)) (λok s₄ =>
      if ok=true then Eh (Ej prog w) A (ER elt env) (λx s₅ =>
       Eh (Ej prog w) A (call (.builtin "list.append") [f,x]) (λ_ s₆=>∃m,m<n/\I m s₆) (λ_ _=>False) s₅) (λ_ _=>False) s₄
      else∃m,m<n/\I m s₄) (λ_ _=>False) s₃) (λ_ _=>False) s₂) (λ_ _=>False) s₁) (λ_ _=>False) s)
  (n:Nat) (h:I n s):LN (Ej prog w) A (.compLoop (.ListComp elt [#[tg,iter,ifs,0]] scope pos) 0 p f env) R s:=by
 let:=codeAny_loop rfl I (λn s q=>?_) n h;let:=wpAny_noted ?_;rw[compTurn_list];let:=Zl<|wpAny_standAt<|Zl<|YH (o n s q) (λr s₁ d=>?_) λ_ _ b=>b.elim;cases r with
 |none=>let:=Zw d
 |some v =>
  let:=Zl<|YH d (λ_ s₂ g=>?_) λ_ _ b=>b.elim;let:=Zl<|YH g (λ_ s₃ i=>Zl<|YH i (λok s₄ e=>?_) λ_ _ b=>b.elim) λ_ _ b=>b.elim;cases ok with
  |false=>let:=Zw #[rfl,e]
  |true =>
   let:=Zl<|Zl<|YH e (λx s₅ j=>Zl<|YH j (λ_ s₆ l=>Zw<|Zw #[rfl,l]) λ_ _ b=>b.elim) λ_ _ b=>b.elim
theorem RH {i:Dc}{C:D8}(O:tX sc N N' src scope)(j:X.env.scope=sc)(I:Inv X Dn σ H s)(g:∀b∈i,XN X Dn H b)
  (w:∀b∈i,∃o,s.heap.get? b=some o) (n:s.heap.objs.size<=C):(X.comp N' scope C s H i).Ok:=by
 have v:∀x,((L8 scope (jT X.env scope) C X.env).kindOf x=some .cell\/(L8 scope (jT X.env scope) C X.env).kindOf x=some .free)->(x,NameKind.free)∈scope.names:=λx h=>by
  have h:(L8 scope (jT X.env scope) C X.env).scope.names.lookup x=some .cell\/(L8 scope (jT X.env scope) C X.env).scope.names.lookup x=some .free:=h;rw[XX]at h;cases q:scope.names.lookup x with
  |none=>rw[q]at h;rcases h with h|h<;>cases h
  |some k =>
   have f:=Jh q;rw[q]at h;cases k with
   |free=>let:=f
   |cell=>let:=absurd rfl<|O.nQ _ f
   |_ =>
    exfalso
    rcases h with h|h<;>(have l:=Option.some.inj h;unfold HY at l;simp at l)
 let:=#[I.ok.mod,O.kind,I.ok.glob,I.ok.blt,n,λx y c r t=>I.ok.inj x y c (k9 r)<|k9 t,λx h=>?_,λx c h=>(by cases h),I.ok.hd,I.ok.frames,.inl rfl,λb d=>?_,I.bs,Z2 I.ok.ju I.sz,λb o e d=>?_,λb d z=>?_,I.stack,I.qu]
 .have f:=v x h;have p:=O.free _ f rfl;rw[<-j]at p;let#[c,u]:=I.ok.has x p;let:=#[c,MX u f]
 .let:=#[?_,λx c h=>(g b d).2.2.2.2.1 x c<|k9 h];let#[o,e]:=w b d;let:=ZZ<|Z0 (ZN e) n
 .rcases(g b d).2.2.2.1 with z|z
  .let:=I.ok.nj b o e z
  .let:=absurd (Z0 (Z0 (ZN e) I.ok.ju) z) (YQ _)
 .rcases Zx.mp (I.p7 b z) with e|e
  .let:=(g b d).2.1 e
  .let:=(g b d).2.2.1 e
theorem OL {A:Dc}{C:D8}{h':Es}{R:Nat}(O:tX sc N N' src scope)(n:X.env.scope=sc)(F:X.N=N)(I:Inv X Dn σ H s)(G:∀b∈A,XN X Dn H b)
  (K:∀b∈A,∃o,s.heap.get? b=some o) (B:s.heap.objs.size<=C) (k:∀b o,s.heap.get? b=some o->h'.get? b=some o) {P:Str->Db} (J:h'.Ns C P) :
  Inv (X.comp N' scope C s H A) [] (UU src σ) H { s with heap:=h',toks:=R }:=by
 have cells:∀x c,X.env.cells.lookup x=some c->∀v,s.heap.IsCell c v->h'.IsCell c v:=λx c _ v ⟨o,e,d⟩=>#[o,k c o e,d];let:=#[RH O n I G K B,rfl,I.bare,Un.kept k,#[_,J,λj x v y f S=>?_],λx c e=>?_,I.hok.fresh B,λx c e=>I.wj x c<|k9 e,λp L=>(by cases L),I.hok.kept k,?_]
 .have f:=f;have y:=y;unfold UU at f;rw[Zz]at f;cases q:src[j]? with
  |none=>rw[q]at f;cases f
  |some o =>
   rw[q]at f;have f:=Option.some.inj f;cases o with
   |none=>cases f
   |some i =>
    have f:(σ[i]?).join=some v:=f;let#[U,l]:=O.at q y;have D:=Jh l;have E:σ[i]?=some (some v):=by
     cases r:σ[i]? with
     |none=>rw[r]at f;cases f
     |some w=>rw[r]at f;cases w with
      |none=>cases f
      |some w'=>have:w'=v:=Option.some.inj f;rw[this]
    have h:=O.free _ D rfl;rw[<-n]at h;let#[m,T,hl]:=I.loc;let#[u,Q,M]:=hl i x v (by rwa[F]) E<|.inr h;let:=#[u,Q,.inr ?_];let#[c,t,g]:∃c,X.env.cells.lookup x=some c/\s.heap.IsCell c (some u):=by
     rcases M with⟨z,_⟩|⟨_,c,t,hz⟩
     .exfalso;have z:X.env.scope.names.lookup x=some .local:=z
      rcases h with h|h<;>(rw[h]at z;cases z)
     .let:=#[c,t,hz]
    let:=#[?_,c,MX t D,cells x c t _ g];show(L8 scope (jT X.env scope) C X.env).scope.names.lookup x=some .cell\/(L8 scope (jT X.env scope) C X.env).scope.names.lookup x=some .free;rw[XX,l];show some (HY X.env x .free)=some .cell\/some (HY X.env x .free)=some .free;unfold HY
    split
    .let:=.inl rfl
    .let:=.inr rfl
 .let#[v,z]:=I.cell x c<|k9 e;let:=#[v,cells x c (k9 e) v z]
 .show(UU src σ).length=N'.length;unfold UU;rw[Zj];let:=O.len
theorem IG {Dn:Dd}{σ:St}{H:Hp}{s:Eb}{f:Dc}{it:D8}{tn:Nat->Es->Prop}{J:It}{E:D9->Dg}{RR:D9->D8->Result->Dg}{Fin:Di->Hp->Prop}(O:tX sc N N' src scope)(bl:X.env.scope=sc)(hN:X.N=N){U:Cx->Prop}(hU:∀C s H f,U<|X.comp N' scope C s H f)
  (hg:∀C s H f,PG (X.comp N' scope C s H f) tg g) (bh:∀C s H f,gV (X.comp N' scope C s H f) ifs tf) (he:∀C s H f,PE (X.comp N' scope C s H f) elt te)
  (I:Inv X Dn σ H s) (T:lE U X.prog X.w X.K tg J f it tn) (t0:tn 0 s.heap) (hf:∀b∈f,XN X Dn H b)
  (W:Nat->Nat->Di->St->Hp->Prop) (m0:Nat) (w0:W 0 m0 [] (UU src σ) H)
  (hW:∀i m ys σ' H',W i m ys σ' H'->ys.length<=sizeLine/\((J.stop i H'/\Fin ys H') \/ (J.go i H'/\∃Nx:Di->St->Hp->Prop,(∀ys2 σ2 H2,Nx ys2 σ2 H2->∃m',m'<m/\W (i+1) m' ys2 σ2 H2) /\ ∀x H2,J.kh i H' x H2->g x σ' H2 λσ2 H3=>tf σ2 H3 λb H4=>if b=true then te σ2 H4 λy H5=>Nx (ys++[y]) σ2 H5 else Nx ys σ2 H4)))
  (bf:∀(D C:D8) (s':Eb) (σ':St) (H':Hp) (ys:Di) (its:Da) (n:Nat),s.heap.objs.size<=D->s.heap.objs.size<=C->Inv (X.comp N' scope C s H f) [] σ' H' s'->s'.heap.get? D=some { cls:=.type "list",data:=.seq its.toArray n }->zb ys its->ys.length<=sizeLine -> H' D=none->D≠C->Fin ys H'->RR (.ref D) C (.ok .next) s') :
  Eh (Ej X.prog X.w) X.A (newList []) (λacc s₃=>Eh (Ej X.prog X.w) X.A (newFunctionEnv scope X.env.globals (jT X.env scope) [] X.env.qual none .none<|some X.env) (λcenv s₄ => LN (Ej X.prog X.w) X.A (.compStart (.ListComp elt [#[tg,iter,ifs,0]] scope pos) 0 (.ref it) acc { cenv with scope:=relabel scope X.env }) (RR acc cenv.locals) s₄) E s₃) E s:=by
 let:=Yj (wpAny_newFunctionEnv O.nQ (by intro y hy;cases hy) (λM l j=>?_) O.kind);dsimp only at l j ⊢;generalize ab:s.heap.push { cls:=.type "list",dict:=none,data:=.seq ([]:Da).toArray }=P2 at l j ⊢;have aa:P2.objs.size=s.heap.objs.size+1:=by rw[<-ab,Jy]
 have L:s.heap.objs.size≠P2.objs.size:=by rw[aa];let:=ZZ<|J4 _
 have bx:s.heap.objs.size<=P2.objs.size:=by rw[aa];let:=Jk _
 have below:∀b,b<s.heap.objs.size->b≠P2.objs.size/\b≠s.heap.objs.size:=λb h=>#[by rw[aa];let:=ZZ<|Vp h,ZZ h];have old:=λb o e=>j.extBut b o (below b<|ZN e).1<|Zr _<|ab▸Zr _ e;have DG:M.get? s.heap.objs.size=some { cls:=.type "list",data:=.seq ([]:Da).toArray 0 }:=j.extBut _ _ L<|Zr _<|ab▸ZG _ rfl;have as:∀b∈f,∃o,s.heap.get? b=some o:=λb h=>let ⟨o,e,_⟩:=T.obj 0 _ t0 b h;#[o,e];have G:=λb h=>let ⟨o,e⟩:=as b h;ZN e;generalize hD:s.heap.objs.size=D at *;generalize hC:P2.objs.size=C at *;have a4:∀tk,Inv (X.comp N' scope C s H f) [] (UU src σ) H { s with heap:=M,toks:=tk }:=λtk=>OL O bl hN I hf as (by rwa[hD]) old l;have jd:=(a4 0).ok;have P:∀{H':Hp} {pl:Dd},(∀b∈f,H' b=none)->(∀p∈pl,p.1∉f)->∀b∈f,XN (X.comp N' scope C s H f) pl H' b:=λ{H' pl} hn q b h =>
  #[hn b h,(jd.gQ b h).1,jd.nM b h,.inl h,(jd.gQ b h).2,λp hm=>by
   have hm:p∈pl:=by simpa[Cx.comp] using hm
   let:=λz=>q p hm<|z▸h]
 have an:D∉(X.comp N' scope C s H f).fs:=λh=>by
  let#[_,o,ho,_]:=jd.rY.mem h;have ho:s.heap.get? D=some o:=ho;have h1:=ZN ho;rw[hD]at h1;let:=YQ _ h1
 have Y:∀x c,(X.comp N' scope C s H f).env.cells.lookup x=some c->c≠D:=λx c e z=>by
  let#[v,o,ho,_]:=I.cell x c<|k9 e;have h1:=ZN ho;rw[hD,z]at h1;let:=YQ _ h1
 have loop:∀tk,LN (Ej X.prog X.w) X.A (.compLoop (.ListComp elt [#[tg,iter,ifs,0]] scope pos) 0 (.ref it) (.ref D)<|L8 scope (jT X.env scope) C X.env) (RR (.ref D) C) { s with heap:=M,toks:=tk }:=by
  intro tk;let:=Ph (λn s'=>∃i ys σ' H' its c,Inv (X.comp N' scope C s H f) [] σ' H' s'/\tn i s'.heap/\(∀b∈f,H' b=none)/\s'.heap.get? D=some { cls:=.type "list",data:=.seq (its:Da).toArray c }/\zb ys its/\H' D=none/\W i n ys σ' H') ?_ m0
   #[0,[],UU src σ,H,[],0,a4 tk,T.keep 0 _ _ t0 λb _ o e=>old b o e,λb h=>(hf b h).1,DG,.nil,I.hok.fresh (by rw[hD];let:=Zn _),w0]
  rintro n s3 ⟨i,ys,B,H3,its,F,I3,a6,a0,d3,v3,a2,w3⟩;let#[Do,bd]:=hW i n ys B H3 w3
  rcases bd with⟨stop,fin⟩|⟨go,Nx,hNx,step⟩
  .have Z:Inv (X.comp N' scope C s H f) [(D,{ cls:=.type "list",data:=.seq its.toArray F })] B H3 s3:=I3.tO λp q=>by
    have e:p=(D,{ cls:=.type "list",data:=.seq its.toArray F }):=by simpa using q
    subst e;let:=#[d3,a2,L,an,λv z=>by cases z]
   let:=Ct (T.done (X.comp N' scope C s H f) rfl rfl rfl (hU _ _ _ _) i _ s3 B H3 _ Z (P a0 λp q z=>by
    have e:p=(D,{ cls:=.type "list",data:=.seq its.toArray F }):=by simpa using q
    rw[e]at z;let:=YQ _<|G D z) a6 stop) λr s4 ⟨hr,I4⟩=>?_
   subst hr;let#[d4,bm,_]:=I4.pin (D,{ cls:=.type "list",data:=.seq its.toArray F }) (by simp[Cx.comp]);let:=bf D C s4 B H3 ys its F ⋯ ⋯ (I4.tO λp q=>(by cases q)) d4 v3 Do bm L fin
  .have Z:Inv (X.comp N' scope C s H f) [(D,{ cls:=.type "list",data:=.seq its.toArray F })] B H3 s3:=I3.tO λp q=>by
    have e:p=(D,{ cls:=.type "list",data:=.seq its.toArray F }):=by simpa using q
    subst e;let:=#[d3,a2,L,an,λv z=>by cases z]
   have a1:∀p∈[((D,{ cls:=.type "list",data:=.seq its.toArray F }):D8×Obj)],p.1∉f:=λp q z=>by
    have e:p=(D,{ cls:=.type "list",data:=.seq its.toArray F }):=by simpa using q
    rw[e]at z;let:=YQ _<|G D z
   let:=Ct (T.item (X.comp N' scope C s H f) rfl rfl rfl (hU _ _ _ _) i _ s3 B H3 _ Z (P a0 a1) a6 go) λr s4 ⟨u,hr,h4⟩=>?_;subst hr;let:=Ct h4 λ_ s5 zq=>?_;let#[x,H5,I5,r5,y5,al,be]:=zq;have a8:=I5.pinned (P be a1)<|T.obj _ _ al;have S:(D,({ cls:=.type "list",data:=.seq its.toArray F }:Obj))∈(X.comp N' scope C s H f).pn++([((D,{ cls:=.type "list",data:=.seq its.toArray F }):D8×Obj)]++XO f s5.heap):=by simp[Cx.comp]
   have R:∀{a7:St} {Q:Hp} {s7:Eb},Inv (X.comp N' scope C s H f) ([((D,{ cls:=.type "list",data:=.seq its.toArray F }):D8×Obj)]++XO f s5.heap) a7 Q s7 ->
     tn (i+1) s7.heap/\∀b∈f,Q b=none:=λ{a7 Q s7} I7=>#[T.keep _ _ _ al λb h o e=>(I7.pin (b,o)<|ZM _<|ZM _<|kG h e).1,λb h=>by
    let#[o,e,d]:=T.obj _ _ al b h;let:=(I7.pin (b,o)<|ZM _<|ZM _<|kG h e).2.1]
   let:=Ct (hg C s H f _ s5 B H5 x u _ a8 r5<|step x H5 y5) λ_ s6 ⟨t,H6,I6,q6⟩=>?_;let:=Ct (bh C s H f _ s6 t H6 _ I6 q6) λb s7 ⟨Q,I7,q7⟩=>?_;cases b with
   |false =>
    let#[m',ai,w7]:=hNx ys t Q (by simpa using q7);let#[b1,b2]:=R I7;let#[d7,bo,_]:=I7.pin _ S;let:=#[m',ai,i+1,ys,t,Q,its,F,I7.tO λp q=>(by cases q),b1,b2,d7,v3,bo,w7]
   |true =>
    have q7:te t Q λy H5=>Nx (ys++[y]) t H5:=by simpa using q7
    rw[ZJ rfl];let:=Ct (he C s H f _ s7 t Q _ I7 q7) λu8 s8 ⟨y,H8,I8,r8,n8⟩=>?_;let#[m',ai,w8]:=hNx _ _ _ n8;let#[b1,b2]:=R I8;let#[d8,a3,_]:=I8.pin _ S;have hl:=v3.length;let:=wpAny_list_append_plain #[F,d8] (λh9 ⟨c9,d9⟩ a5=>?_) (by rwa[ZF,<-hl]);have a9:Inv (X.comp N' scope C s H f) [] t H8 s8:=I8.tO λp q=>by cases q
    have I9:Inv (X.comp N' scope C s H f) [] t H8 { s8 with heap:=h9 }:=a9.turned (t':=s8.toks) (λb o h e=>(a5.2 b h).trans e) a3 L (.inr (by show s.heap.objs.size<=D;lia)) Y (λp q=>by
     have q:p∈([]:Dd):=by simpa[Cx.comp] using q
     cases q)
    let:=#[m',ai,i+1,ys++[y],t,H8,its++[u8],c9,I9,T.keep _ _ _ b1 λb h o e=>(a5.2 b<|λz=>YQ _<|z▸G b h).trans e,b2,?_,v3.append<|.cons r8 .nil,a3,w8];rw[d9];simp
 let:=codeAny_compStart_list (loop _)<|T.self _ 0 _ _ _ (T.keep 0 _ _ t0 λb _ o e=>old b o e)<|loop _
theorem comp_back {f:St}{H':Hp}{e:Eb}{g:Dc}{C D:D8}{ys:Di}{c:Da}{n:Nat}(I:Inv X Dn σ H s)(q:∀b∈g,XN X Dn H b)
  (J:Inv (X.comp N' scope C s H g) [] f H' e) (h:s.heap.objs.size<=D) (d:e.heap.get? D=some { cls:=.type "list",data:=.seq c.toArray n }) (v:zb ys c) (hl:ys.length<=sizeLine) (r:H' D=none) :
  Inv X Dn σ (upd H' D<|.lst ys) e:=by
 have u:=J.base;let:=I.call' J.os (u.adopt (V3 h)<|I.hok.fresh h) (J.hok.adopt r #[hl,c,n,v,d]) J.bare λb p=>?_;let#[_,i,_,j,l,o]:=q b p;let:=#[j,i,l,o]
theorem Ba {C:D8}{h':Es}(I:Inv X Dn σ H s)(d:Inv X Dn σ2 H2 s2)(j:s.heap.objs.size<=C)(c:H2 C=none)(n:E4 C s2.heap h'):Inv X Dn σ2 H2 { s2 with heap:=h' }:=by
 let#[_,f,_,g,h,i]:=I.qw (H':=H2) j c;let:=d.turned (t':=s2.toks) (λb o l e=>(n.2 b l).trans e) c f g h i
theorem yS (O:tX sc N N' src scope)(f:X.env.scope=sc)(F:X.N=N)(b:X.calm=true)(L:PI X tg iter wi)
  (K:∀C s H fp,PG (X.comp N' scope C s H fp) tg g) (q:∀C s H fp,gV (X.comp N' scope C s H fp) ifs tf) (G:∀C s H fp,PE (X.comp N' scope C s H fp) elt te)
  (R:∀x,LW iter X.env x=Le x:=by intro _;rfl):PE X (.ListComp elt [#[tg,iter,ifs,0]] scope pos) (Rr src wi g tf te):=by
 intro w s σ H Q I h;rw[eval_ListComp];have c:=uC λx S M=>I.ok.has x.1 (by
  have:=O.free x S M;rw[<-f]at this;let:=this)
 let:=wpAny_comprehension_free rfl R c O.kind O.names<|Ct (L w s σ H _ I h) λv s1 z=>Ct z λY s2 A=>?_;let#[it,fp,tn,J,H2,e,j,T,r,t,W,#[Z,w0],i]:=A;subst e;let:=IG O f F (λ_ _ _ _=>b) K q G j T r t W Z w0 i ?_;intro D C s' aa H' ys U n E B l d vv hl u p o;have y:=comp_back j t l E d vv hl u;let#[m,P,_]:=l.loc;have nC:=l.free;let:=#[m,P,λh' sb=>#[.ref D,_,Ba j y B (by rwa[zH<|Er p]) sb,rfl,o D u]]
theorem PZ {U:Cx->Prop}{k:Nat}{y:Str}{K b:Pos}(O:tX sc N N' src scope)(i:X.env.scope=sc)(Z:X.N=N)(hU:∀C s H fp,U<|X.comp N' scope C s H fp)(hi:b6 U X tg iter wi)
  (hg:∀C s H fp,PG (X.comp N' scope C s H fp) tg g) (t:∀C s H fp,gV (X.comp N' scope C s H fp) ifs tf) (he:∀C s H fp,PE (X.comp N' scope C s H fp) elt te)
  (nd:X.N.Nodup) (u:X.N[k]?=some y) (A:Loc X.env.scope y)
  (w:L4 (.ListComp elt [#[tg,iter,ifs,0]] scope pos) (some<|.Name y K) b.line X.env=Le true:=by rfl)
  (hf:X.fn y=true\/X.env.scope.names.lookup y=some .local:=by first|let:=.inl rfl|let:=.inr rfl|assumption)
  (hs:∀x,LW iter X.env x=Le x:=by intro _;rfl):PS X (.Assign [.Name y K] (.ListComp elt [#[tg,iter,ifs,0]] scope pos) b) (Rq (Rr src wi g tf te)<|XZ k):=by
 intro L s σ H E I h;rw[exec_Assign_Name_used _ _ _ _ w];let:=Zl<|wpAny_standAt<|Zl ?_;have c:=uC λx A u=>I.ok.has x.1 (by
  have:=O.free x A u;rw[<-i]at this;let:=this)
 let:=Zl<|YH (wpAny_comprehension_free rfl hs c O.kind O.names<|Ct (hi L s σ H _ I h) λv s1 R=>Ct R λab s2 S=>?_) (λ_ s' hq=>Zw<|Zw hq) λ_ _ e=>e
 let#[it,fp,tn,J,H2,e,f,T,B,F,W,#[m0,w0],j]:=S;subst e;let:=IG O i Z hU hg t he f T B F W m0 w0 j ?_;intro D C s' ai H' ys aa n Y q l d vv hl G r p;have M:=comp_back f F l Y d vv hl G;let#[m,hm,_]:=l.loc;have nC:=l.free;let:=wpAny_assign_Name<|BD M nd u A (v:=.ref D) rfl (λs4 P ⟨a,sa,ha⟩=>?_) hf;have Q:C≠a:=by
  rcases ha with e|e
  .rw[e];intro z;let:=YQ _<|Z0 f.lt<|z▸q
  .intro z;let#[v,o,ho,_]:=f.cell y a e;let:=YQ _<|Z0 (ZN ho)<|z▸q
 let:=#[m,Heap.Ns.sameBut hm sa Q,λh' sb=>#[_,_,Ba f P q (by rwa[zH<|Er r]) sb,p D G]]
theorem Fn {k:Nat}{y:Str}{h b:Pos}(O:tX sc N N' src scope)(e:X.env.scope=sc)(i:X.N=N)(c:X.calm=true)(o:PI X tg iter wi)
  (n:∀C s H fp,PG (X.comp N' scope C s H fp) tg g) (d:∀C s H fp,gV (X.comp N' scope C s H fp) ifs tf) (j:∀C s H fp,PE (X.comp N' scope C s H fp) elt te)
  (nd:X.N.Nodup) (p:X.N[k]?=some y) (r:Loc X.env.scope y)
  (f:L4 (.ListComp elt [#[tg,iter,ifs,0]] scope pos) (some<|.Name y h) b.line X.env=Le true:=by rfl)
  (l:X.fn y=true\/X.env.scope.names.lookup y=some .local:=by first|let:=.inl rfl|let:=.inr rfl|assumption)
  (q:∀x,LW iter X.env x=Le x:=by intro _;rfl):PS X (.Assign [.Name y h] (.ListComp elt [#[tg,iter,ifs,0]] scope pos) b) (Rq (Rr src wi g tf te)<|XZ k) :=
 PZ O e i (λ_ _ _ _=>c) o n d j nd p r f l q
end
def bK (t u:TS):TS:=λD d H=>∃R:St->Hp->Prop,t { D with nx:=R } d H/\∀b c,R b c->u D b c
theorem xN {st:EF}{b:List EF}(i:PS X st t)(j:nZ X b u):nZ X (st::b) (bK t u):=by
 intro d s o H D I ⟨R,h,l⟩;let:=Ur<|Ct (i d s o H { D with nx:=R } I h) λf n q=>?_;cases f with
 |next =>
  let#[c,e,g,q]:=q;let:=j d n c e D g<|l c e q
 |ret v=>let:=q
 |brk=>let:=q
 |cont=>let:=q
section
variable {K:Co}{src:List (Option Nat)}{g:TG}{tf:TT}{te:TE}{Q:VK}{a:D8}{xs:Di}{σ:St}{H:Hp}
theorem Gk {J:It}(n:Nat)(d:Nat->Di->St->Hp->Prop)(o:d 0 [] (UU src σ) H)(u:n<=sizeLine)(hl:∀i ys σ H,i<=n->d i ys σ H->ys.length<=i)
  (l:∀ys σ H,d n ys σ H->J.stop n H) (j:∀i ys σ H,i<n->d i ys σ H->J.go i H)
  (r:∀i ys σ H,i<n->d i ys σ H->∀x H2,J.kh i H x H2->g x σ H2 λσ2 H3=>tf σ2 H3 λb H4=>if b=true then te σ2 H4 λy H5=>d (i+1) (ys++[y]) σ2 H5 else d (i+1) ys σ2 H4)
  (hd:∀ys σ H,d n ys σ H->∀p,H p=none->Q (.ref p) (upd H p<|.lst ys)):Xc src J g tf te Q σ H:=by
 let:=#[λi m ys σ H=>m=n-i/\i<=n/\d i ys σ H,#[n,by simp,ZP _,o],?_];rintro i m ys c h ⟨rfl,q,p⟩;have t:=hl i ys c h q p;let:=#[⋯,?_]
 by_cases f:i<n
 .let:=.inr #[j i ys c h f p,d<|i+1,λs σ2 H2 z=>#[n-(i+1),⋯,rfl,f,z],λx H2 y=>r i ys c h f p x H2 y]
 .have e:i=n:=⋯
  subst e;let:=.inl #[l ys c h p,hd ys c h p]
theorem j3 (c:Nat->Di->St->Hp->Prop)(f:c 0 [] (UU src σ) H)(j:xs.length<=sizeLine)(hl:∀i ys σ H,i<=xs.length->c i ys σ H->za K H a xs/\ys.length<=i)
  (h:∀i x ys σ H,xs[i]?=some x->c i ys σ H->g x σ H λσ2 H3=>tf σ2 H3 λb H4=>if b=true then te σ2 H4 λy H5=>c (i+1) (ys++[y]) σ2 H5 else c (i+1) ys σ2 H4)
  (hd:∀ys σ H,c xs.length ys σ H->∀p,H p=none->Q (.ref p) (upd H p<|.lst ys)):Xc src (Rz K a) g tf te Q σ H :=
 Gk xs.length c f j (λi ys σ H d p=>(hl i ys σ H d p).2) (λys σ H p=>#[xs,(hl _ ys σ H (Zn _) p).1,Zn _]) (λi ys σ H d p=>#[xs,xs[i],(hl i ys σ H (YC d) p).1,by simp[d]])
  (λi ys σ H d p x l y=>by
   let#[e,y]:=y;subst e;let:=h i x ys σ _ (y xs (hl i ys σ _ (YC d) p).1) p) hd
theorem FT (c:Nat->Di->St->Hp->Prop)(f:c 0 [] (UU src σ) H)(j:xs.length<=sizeLine)(hl:∀i ys σ H,i<=xs.length->c i ys σ H->yh K H a xs/\ys.length<=i)
  (h:∀i x ys σ H,xs[i]?=some x->c i ys σ H->g x σ H λσ2 H3=>tf σ2 H3 λb H4=>if b=true then te σ2 H4 λy H5=>c (i+1) (ys++[y]) σ2 H5 else c (i+1) ys σ2 H4)
  (hd:∀ys σ H,c xs.length ys σ H->∀p,H p=none->Q (.ref p) (upd H p<|.lst ys)):Xc src (S6 K a) g tf te Q σ H :=
 Gk xs.length c f j (λi ys σ H d p=>(hl i ys σ H d p).2) (λys σ H p=>#[xs,(hl _ ys σ H (Zn _) p).1,Zn _]) (λi ys σ H d p=>#[xs,xs[i],(hl i ys σ H (YC d) p).1,by simp[d]])
  (λi ys σ H d p x l y=>by
   let#[e,y]:=y;subst e;let:=h i x ys σ _ (y xs (hl i ys σ _ (YC d) p).1) p) hd
theorem KF {lo:Int}{n:Nat}(c:Nat->Di->St->Hp->Prop)(f:c 0 [] (UU src σ) H)(j:n<=sizeLine)(hl:∀i ys σ H,i<=n->c i ys σ H->ys.length<=i)
  (h:∀i ys σ H,i<n->c i ys σ H->g (.int<|lo+i) σ H λσ2 H3=>tf σ2 H3 λb H4=>if b=true then te σ2 H4 λy H5=>c (i+1) (ys++[y]) σ2 H5 else c (i+1) ys σ2 H4)
  (hd:∀ys σ H,c n ys σ H->∀p,H p=none->Q (.ref p) (upd H p<|.lst ys)):Xc src (RA lo n) g tf te Q σ H :=
 Gk n c f j hl (λ_ _ _ _=>Zn _) (λ_ _ _ _ d _=>d)
  (λi ys σ H d p x l y=>by
   let#[e,y]:=y;subst e y;let:=h i ys σ _ d p) hd
theorem Fg {te:TE}{A:V->St->Hp->Prop}{B:St->Hp->Prop}:(λσ2 H3=>Bc σ2 H3 λb H4=>if b=true then te σ2 H4 (λy H5=>A y σ2 H5) else B σ2 H4)=λ(σ2:St) (H3:Hp)=>te σ2 H3 λy H5=>A y σ2 H5:=by
 funext σ2 H3
 show(if true=true then(te σ2 H3 λy H5=>A y σ2 H5) else B σ2 H3)=_;rw[ZJ rfl]
theorem kE (b:Nat->Di->St->Hp->Prop)(c:b 0 [] (UU src σ) H)(f:xs.length<=sizeLine)(hl:∀i ys σ H,i<=xs.length->b i ys σ H->za K H a xs/\ys.length<=i)
  (d:∀i x ys σ H,xs[i]?=some x->b i ys σ H->g x σ H λσ2 H3=>te σ2 H3 λy H5=>b (i+1) (ys++[y]) σ2 H5)
  (hd:∀ys σ H,b xs.length ys σ H->∀p,H p=none->Q (.ref p) (upd H p<|.lst ys)):Xc src (Rz K a) g Bc te Q σ H :=
 j3 b c f hl (λi x ys σ H e p=>by rw[Fg];let:=d i x ys σ H e p) hd
theorem qR (b:Nat->Di->St->Hp->Prop)(c:b 0 [] (UU src σ) H)(f:xs.length<=sizeLine)(hl:∀i ys σ H,i<=xs.length->b i ys σ H->yh K H a xs/\ys.length<=i)
  (d:∀i x ys σ H,xs[i]?=some x->b i ys σ H->g x σ H λσ2 H3=>te σ2 H3 λy H5=>b (i+1) (ys++[y]) σ2 H5)
  (hd:∀ys σ H,b xs.length ys σ H->∀p,H p=none->Q (.ref p) (upd H p<|.lst ys)):Xc src (S6 K a) g Bc te Q σ H :=
 FT b c f hl (λi x ys σ H e p=>by rw[Fg];let:=d i x ys σ H e p) hd
theorem uB {lo:Int}{n:Nat}(b:Nat->Di->St->Hp->Prop)(c:b 0 [] (UU src σ) H)(f:n<=sizeLine)(hl:∀i ys σ H,i<=n->b i ys σ H->ys.length<=i)
  (d:∀i ys σ H,i<n->b i ys σ H->g (.int<|lo+i) σ H λσ2 H3=>te σ2 H3 λy H5=>b (i+1) (ys++[y]) σ2 H5)
  (hd:∀ys σ H,b n ys σ H->∀p,H p=none->Q (.ref p) (upd H p<|.lst ys)):Xc src (RA lo n) g Bc te Q σ H :=
 KF b c f hl (λi ys σ H e p=>by rw[Fg];let:=d i ys σ H e p) hd
end
mutual
def Dt (K:Co)(H:Hp):Eg->V->Prop
 | .none,v=>v=.non
 | .bool b,v=>v=.bl b
 | .int i,v=>v=.int i
 | .str x,v=>v=.str x
 | .list ds,v=>∃a c,v=.ref a/\za K H a c/\zy K H ds c
 | .tuple ds,v=>∃a c,v=.ref a/\yh K H a c/\zy K H ds c
 | .dict _,_=>False
def zy (K:Co)(H:Hp):De->Di->Prop
 |[],xs=>xs=[]
 |d::ds,xs=>∃x r,xs=x::r/\Dt K H d x/\zy K H ds r
end
theorem zz.yu {K:Co}(e:zz H H')(h:yh K H a xs):yh K H' a xs:=by
 rcases h with(h|⟨o,h⟩)|h
 .let:=.inl (.inl<|e _ _ h)
 .let:=.inl (.inr #[o,e _ _ h])
 .let:=.inr h
mutual
theorem Dt.same {K:Co}(e:zz H H'):∀(d:Eg) (v:V),Dt K H d v->Dt K H' d v
 | .none,_,h=>h
 | .bool _,_,h=>h
 | .int _,_,h=>h
 | .str _,_,h=>h
 | .list ds,_,⟨a,xs,h1,h2,h3⟩=>#[a,xs,h1,e.seq h2,zy.same e ds xs h3]
 | .tuple ds,_,⟨a,xs,h1,h2,h3⟩=>#[a,xs,h1,e.yu h2,zy.same e ds xs h3]
 | .dict _,_,h=>h
theorem zy.same {K:Co}(e:zz H H'):∀(ds:De) (xs:Di),zy K H ds xs->zy K H' ds xs
 |[],_,h=>h
 |d::ds,_,⟨x,r,h1,h2,h3⟩=>#[x,r,h1,Dt.same e d x h2,zy.same e ds r h3]
end
theorem zy.length {K:Co}:∀{ds:De} {xs:Di},zy K H ds xs->xs.length=ds.length
 |[],_,h=>by cases(show _=[] from h);rfl
 |d::ds,_,⟨x,r,h1,h2,h3⟩=>by rw[h1,ZH,ZH,zy.length h3]
theorem zy.append {K:Co}:∀{ds es:De} {xs ys:Di},zy K H ds xs->zy K H es ys->zy K H (ds++es) (xs++ys)
 |[],_,_,_,h,h'=>by cases(show _=[] from h);let:=h'
 |d::ds,_,_,_,⟨x,r,h1,h2,h3⟩,h'=>#[x,r++_,by rw[h1];rfl,h2,zy.append h3 h']
theorem zy.get {K:Co}:∀{ds:De} {xs:Di} {i:Nat} {x:V},zy K H ds xs->xs[i]?=some x->∃d,ds[i]?=some d/\Dt K H d x
 |[],_,_,_,h,e=>by cases(show _=[] from h);simp at e
 |d::ds,_,0,_,⟨x,r,h1,h2,h3⟩,e=>by rw[h1]at e;simp at e;subst e;let:=#[d,rfl,h2]
 |d::ds,_,i+1,_,⟨x,r,h1,h2,h3⟩,e=>by
  rw[h1]at e;let#[b,c,f]:=zy.get h3 (by simpa using e);let:=#[b,by simpa using c,f]
theorem zy.strs {K:Co}:∀(ls:By),zy K H (ls.map Ey) (ls.map V.str)
 |[]=>rfl
 |x::ls=>#[.str x,ls.map V.str,rfl,rfl,zy.strs ls]
theorem zy.vf {K:Co}:∀{ls:By} {xs:Di},zy K H (ls.map Ey) xs->xs=ls.map V.str
 |[],_,h=>h
 |x::ls,_,⟨v,r,h1,b,h3⟩=>by
  have b:=b;rw[h1,b,zy.vf h3];rfl
section
variable {X:Cx}{Dn:Dd}{σ:St}{H:Hp}{s:Eb}
mutual
theorem Dt.xx (I:Inv X Dn σ H s):∀(d:Eg) (v:V) (u:D9),Dt X.K H d v->yt v u->∃as,Reads s.heap u d as
 | .none,_,u,h,r=>by
  cases(show _=V.non from h);cases(show u=EB from r);let:=#[_,.none]
 | .bool b,_,u,h,r=>by
  cases(show _=V.bl b from h);cases(show u=Mi b from r);let:=#[_,.bool b]
 | .int i,_,u,h,r=>by
  cases(show _=V.int i from h);let#[t,e]:=(show∃t,u=Value.int i t from r);cases e;let:=#[_,.int i t]
 | .str x,_,u,h,r=>by
  cases(show _=V.str x from h);let#[t,e]:=(show∃t,u=Me x t from r);cases e;let:=#[_,.str x t]
 | .list ds,_,u,⟨a,xs,h1,h2,h3⟩,r=>by
  subst h1;cases(show u=Em a from r);let#[f,g,#[o,n,e,c,_,d],_]:=I.list h2;let#[as,q]:=zy.xx I ds xs f h3 g;let:=#[_,.list e c d<|by simpa using q]
 | .tuple ds,_,u,⟨a,xs,h1,h2,h3⟩,r=>by
  subst h1;cases(show u=Em a from r);let#[f,g,#[o,e,c,n,d],_]:=I.tuple h2;let#[as,q]:=zy.xx I ds xs f h3 g;let:=#[_,.tuple e c d<|by simpa using q]
 | .dict _,_,_,h,_=>EC h
theorem zy.xx (I:Inv X Dn σ H s):∀(ds:De) (xs:Di) (us:Da),zy X.K H ds xs->zb xs us->∃as,LL s.heap us ds as
 |[],_,us,h,r=>by
  cases(show _=[] from h);cases r;let:=#[_,.nil]
 |d::ds,_,us,⟨x,rr,h1,h2,h3⟩,r=>by
  subst h1;cases r with
  |cons r1 r2 =>
   let#[as,b]:=Dt.xx I d x _ h2 r1;let#[bs,c]:=zy.xx I ds rr _ h3 r2;let:=#[_,.cons b c]
end
end
section
variable {X:Cx}
inductive gF (K:Co)(x y:V)(H:Hp)(Q:VK):Prop
 |mk (d e:Eg) (h:Dt K H d x) (i:Dt K H e y) (s:E5 d=true) (t:E5 e=true) (q:Q (.bl<|EG d e) H):gF K x y H Q
def W8 (K:Co):R2:=λx y H Q=>∃d e,Dt K H d x/\Dt K H e y/\E5 d=true/\E5 e=true/\Q (.bl<|!EG d e) H
theorem PB (i:X.A.units+64<Lc):CH X (EH .Eq) (gF X.K):=by
 intro p s t H x y v u Q I n o h;let#[d,e,b,c,f,g,q]:=h;let#[r,j]:=Dt.xx I d x v b n;let#[bs,l]:=Dt.xx I e y u c o;let:=SeqAt.compareEq_shaped j l f g i #[.bl _,H,I,rfl,q]
theorem vZ (i:X.A.units+64<Lc):CH X (EH .NotEq) (W8 X.K):=by
 intro p s t H x y v u Q I n o h;let#[d,e,b,c,f,g,q]:=h;let#[r,j]:=Dt.xx I d x v b n;let#[bs,l]:=Dt.xx I e y u c o;let:=SeqAt.compareNe_shaped j l f g i #[.bl _,H,I,rfl,q]
theorem vO:∀{ys:By} {us:Da},zb (ys.map V.str) us->StrsAre us ys
 |[],us,r=>by rw[VM]at r;cases r;let:=.nil
 |y::ys,us,r=>by
  rw[ZR]at r;cases r with
  |cons r1 r2 =>
   let#[t,e]:=r1;subst e;let:=.cons y t<|vO r2
theorem Bn:∀{us:Da} {ys:By},StrsAre us ys->zb (ys.map V.str) us
 |_,_,.nil=>.nil
 |_,_,.cons y t r=>.cons #[t,rfl]<|Bn r
def rJoin (K:Co):V->Di->Hp->VK->Prop:=λx d H Q=>∃b p c,x=.str b/\d=[.ref p]/\(za K H p (c.map V.str)\/yh K H p (c.map V.str))/\(c.map (·.length)).sum+c.length*b.length<=16777216/\Q (.str<|Lh b c) H
theorem BY:SK X "str.join" (rJoin X.K):=by
 intro l s y H x o v n Q I g e h;let#[i,p,w,rfl,rfl,b,d,q]:=h;let#[t,rfl]:=g;let#[u,rfl,f]:=wM e;cases f
 rcases b with b|b
 .let#[c,r,pl,_]:=I.list b;let:=join_list pl.isList (by simpa using vO r) d λj k=>#[.str _,H,I.tok _,#[_,rfl],q]
 .let#[c,r,pl,_]:=I.tuple b;let:=join_tuple pl (by simpa using vO r) d λj k=>#[.str _,H,I.tok _,#[_,rfl],q]
end
section
variable {X:Cx}{Dn:Dd}{σ:St}{H:Hp}{s:Eb}{h':Es}
theorem Inv.jy {t':Nat}{ch:Dc}(I:Inv X Dn σ H s)(g:∀b∈ch,XN X Dn H b)(k:∀b o,b∉ch->s.heap.get? b=some o->h'.get? b=some o)(th:∀b∈ch,∃o,h'.get? b=some o):Inv X Dn σ H { s with heap:=h',toks:=t' }:=by
 have f:∀b u,H b=some u->b∉ch:=λb u e z=>by rw[(g b z).1]at e;cases e
 let:=I.step (g':=s.gens) (d':=s.drawn) (λb w=>?_) (λb o _ _ d e _=>k b o d e) (λb o _ _ d e _=>#[o.slots,k b o d e]) (λ_ _ _ _ n=>n)
  (λb o d e=>#[o,k b o d e]) (λ_ _ e=>e) (λ_ _ _ e=>e) (λb B e=>#[#v[],by rw[e];simp]) (λm y=>?_) (λb u e=>?_) I.bare
 .let#[_,j,_,l,p,t]:=g b w;let:=#[l,j,p,t]
 .let#[o,i,h,A,r]:=y;let:=#[o,i,h,k _ o (λz=>(g _ z).2.1 rfl) A,r]
 .let:=(I.hok b u e).stay (λc v d q=>k c v ?_ q) (λ_ q=>q) λ_ _ q=>q
  rcases d with z|z
  .rw[z];let:=f b u e
  .let:=f c _ z
theorem Un.iY {D:D8}(u:Un fs ex H H1 h h1)(g:h.get? D=none)(f:H1 D=none):Un fs ex H (upd H1 D o) h h1 where
 keep:=u.keep
 slot:=u.slot
 free:=λb d q n j=>by
  have i:b≠D:=λz=>by rw[z,g]at q;cases q
  rw[zH i];let:=u.free b d q n j
 there:=u.there
 tups:=λb c q=>by rw[zH<|zL (u.tups b c q) f];let:=u.tups b c q
 sX:=λb d c q=>by rw[zH<|zL (u.sX b d c q) f];let:=u.sX b d c q
 rQ:=λb l q=>by
  let#[m,e]:=u.rQ b l q;let:=#[m,by rw[zH<|zL e f];let:=e]
theorem Inv.ig {T:D8}{o:HO}(I:Inv X Dn σ H s)(n:H T=none)(f:X.s₀.heap.objs.size<=T)(g:T≠X.env.locals)(h:∀x c,X.env.cells.lookup x=some c->c≠T)(i:∀p∈X.pn++Dn,p.1≠T)
  (new:yq X.prog X.w (upd H T o) s.heap T o):Inv X Dn σ (upd H T o) s:=by
 let:=#[I.ok,I.os,I.bare,I.base.iY (V3 f) n,I.loc,I.cell,?_,λx c e=>?_,λp b=>?_,I.hok.adopt n new,I.len]
 .rw[zH<|Er g];let:=I.free
 .rw[zH<|h x c e];let:=I.wj x c e
 .let#[e,j,ne,l,d]:=I.pin p b;let:=#[e,by rw[zH<|i p b];let:=j,ne,l,d]
end
def WC (x:Str):It:=#[λi _=>i<x.length,λi H v b=>b=H/\∃c,x.cps[i]?=some c/\v=.str #[#v[c]],λi _=>i=x.length]
theorem Gu {P:Ea}{w:Ef}{K:Co}{U:EE}{d:D8}{x:Str}{l:Nat->Es->Prop}(G:∀A:Ez,A.handled=none->Walks P w A d [d] [d] x.cps.size (SignAt x) l)
  (ho:∀i h,l i h->∃o,h.get? d=some o/\∀v,o.data≠.cell v) (g:∀(A:Ez) (i:Nat) (s:Eb) (Q:D9->Dg) (E:D9->Dg),l i s.heap->Q (.ref d) s->Eh (Ej P w) A (pyIter<|.ref d) Q E s) :
  Turn P w K U (WC x) [d] d l where
 mem:=by simp
 obj:=λi h st b f=>by
  have e:b=d:=by simpa using f
  subst e;let:=ho i h st
 keep:=λi h j st k=>(G {} rfl).frame i h j st k
 item:=by
  intro X F N D J i p s T H E I n st M;subst F N D;let#[r,t,f2,y,z,B]:=n d (by simp);let:=(G X.A<|I.ok.hd J).item i s _ _ M st λv j S hv R O=>?_;let#[c,u,L,rfl]:=hv;have Z:Inv X p T H { s with heap:=j,toks:=S }:=I.turned (λb o f e=>O b o (by simpa using f) e) r t y z B;let:=#[_,rfl,?_];have C:∃Y q,Inv X p T q { s with heap:=j,toks:=S }/\yt Y (.str #[#v[c]] u)/\(WC x).kh i H Y q/\l (i+1) j/\∀b∈[d],q b=none :=
   #[.str #[#v[c]],H,Z,#[u,rfl],#[rfl,c,L,rfl],R,λb f=>(n b f).1]
  unfold LM;cases U<;>let:=Zw C
 done:=by
  intro X F N D J i p s T H E I n st M;subst F N D;let#[r,t,f2,y,z,B]:=n d (by simp);let:=(G X.A<|I.ok.hd J).done s _ _ (by have e:i=x.length:=M;subst e;let:=st) λj S O=>#[rfl,I.turned (λb o f e=>O b o (by simpa using f) e) r t y z B]
 self:=g
section
variable {X:Cx}{tg:EE}
def bb (c:TE):TI:=λd H R=>c d H λx b=>∃z,x=.str z/\R (WC z) b
theorem Ms (w:PE X e te):PI X tg e (bb te):=by
 intro u s C H R I h;let:=Ct (w u s C H _ I h) λv c ⟨x,n,d,B,y⟩=>?_;let#[z,e,q]:=y;subst e;let#[t,rfl]:=B;have p:=d.hok.fresh<|Zn _;cases r:z.cps.all (·<128)
 .let:=wpAny_pyIter_wide r ?_;let:=#[c.heap.objs.size,[c.heap.objs.size],λi h=>h.IsStrIter c.heap.objs.size "str_iterator" z t i,_,n,rfl,d.kept (t':=c.toks) λb o e=>Zr _ e,Gu (λA f=>Walks.strWide f _ z t) (λi h ⟨o,l,_,hd⟩=>#[o,l,λv z=>by rw[hd]at z;cases z])<|λ_ _ _ _ _ st g=>wpAny_pyIter_striter_wide st g,#[_,ZG _ rfl,rfl,rfl],λb j=>?_,q]
  have e:b=c.heap.objs.size:=by simpa using j
  subst e;let:=d.qw (Zn _) p
 .let:=wpAny_pyIter_ascii r ?_;let:=#[c.heap.objs.size,[c.heap.objs.size],λi h=>h.IsStrIter c.heap.objs.size "str_ascii_iterator" z t i,_,n,rfl,d.kept (t':=c.toks) λb o e=>Zr _ e,Gu (λA f=>Walks.strAscii f _ z t) (λi h ⟨o,l,_,hd⟩=>#[o,l,λv z=>by rw[hd]at z;cases z])<|λ_ _ _ _ _ st g=>wpAny_pyIter_striter_ascii st g,#[_,ZG _ rfl,rfl,rfl],λb j=>?_,q]
  have e:b=c.heap.objs.size:=by simpa using j
  subst e;let:=d.qw (Zn _) p
end
abbrev Kv (J:It)(g:TG)(tb:TS)(D:Ends)(σ:St)(H:Hp):Prop :=
 ∃W:Nat->Nat->St->Hp->Prop,(∃m,W 0 m σ H)/\∀i m σ H,W i m σ H ->
  (J.stop i H/\D.nx σ H)\/(J.go i H/\∃N:St->Hp->Prop,(∀σ' H',N σ' H'->∃m',m'<m/\W (i+1) m' σ' H')/\∀x H',J.kh i H x H'->g x σ H' λσ2 H2=>tb { D with nx:=N,ct:=N,bk:=D.nx } σ2 H2)
theorem BR {J:It}{g:TG}{h:TS}{D:Ends}{σ:St}{H:Hp}(n:Nat)(b:Nat->St->Hp->Prop)(j:b 0 σ H)(f:∀σ H,b n σ H->J.stop n H)(d:∀i σ H,i<n->b i σ H->J.go i H)
  (l:∀i σ H,i<n->b i σ H->∀x H',J.kh i H x H'->g x σ H' λσ2 H2=>h { D with nx:=b<|i+1,ct:=b<|i+1,bk:=D.nx } σ2 H2) (hd:∀σ H,b n σ H->D.nx σ H):Kv J g h D σ H:=by
 let:=#[λi m σ H=>m=n-i/\i<=n/\b i σ H,#[n,by simp,ZP _,j],?_];rintro i m σ H ⟨rfl,r,p⟩
 by_cases c:i<n
 .let:=.inr #[d i σ H c p,b<|i+1,λq H' o=>#[n-(i+1),⋯,rfl,c,o],λx H' y=>l i σ H c p x H' y]
 .have e:i=n:=⋯
  subst e;let:=.inl #[f σ H p,hd σ H p]
theorem RN {x:Str}{g:TG}{f:TS}{D:Ends}{σ:St}{H:Hp}(b:Nat->St->Hp->Prop)(j:b 0 σ H)
  (n:∀i c σ H (E:Ends) (G:Prop),x.cps[i]?=some c->Ed D (b<|i+1) E->(g (.str #[#v[c]]) σ H (λσ2 H2=>f E σ2 H2)->G)->b i σ H->G) (hd:∀σ H,b x.length σ H->D.nx σ H):Kv (WC x) g f D σ H :=
 BR x.length b j (λ_ _ _=>rfl) (λ_ _ _ d _=>d) (λi σ H d p v o y=>by
  let#[e,c,l,h]:=y;subst e h;let:=n i c σ _ _ _ l Ed.me id p) hd
section
variable {X:Cx}{elts:List EE}{x1:Nat}{tpos:Pos}
def Nn (K:Co):V->Option Int->Option Int->Hp->VK->Prop:=λx lo d H Q=>∃a b,x=.ref a/\yh K H a b/\∀v c,(v=.ref a/\c=H/\UX b lo d=b)\/(∃p,H p=none/\v=.ref p/\c=upd H p (.tup<|UX b lo d))->Q v c
end
namespace AxT
variable {prog:Ea}{w:Ef}{A:Ez}{E:D9->Dg}{s:Eb}
open HT
theorem rZ {t i:D8}{items:Array D9}{p q:D9}{lo d:Option Int}{Q:D9->Dg}(b:IsTup s.heap t items)(j:s.heap.IsSliceOf i p q .none)(pl:IsPart p lo)(u:IsPart q d)
  (l:wC items.size 0 lo=0/\wC items.size items.size d=items.size) (h:Q (.ref t) s):Eh (Ej prog w) A (Md (.ref t)<|.ref i) Q E s:=by
 let#[os,g,f,r]:=id j;have e:s.TypeIs (.ref i) "slice":=#[os,g,f];unfold Md
 try with_reducible let:=YJ ?_
 first|let:=Zl (Zw ?_)|skip
 let:=Zl (wpAny_sequenceKey b.typeIs ∅ ?_);let:=Zl<|YI b.typeIs Jm<|Yr Jm b.typeIs entry_tuple_getitem ?_<|args_tuple_getitem _ _
 show Eh _ _ (LD (.ref t)>>=_) _ _ s;let:=Zl<|tupleItemsOf_ b ?_;let:=Zl<|Vc e ?_;rw[ZJ<|∅];let:=Zl<|jU j pl u ?_;have c:(((wC items.size 0 lo:Nat):Int)==0&&(1:Int)==1&&(wC items.size items.size d-wC items.size 0 lo)==items.size)=true:=by
  rw[l.1,l.2];simp
 show Eh _ _ (if(((wC items.size 0 lo:Nat):Int)==0&&(1:Int)==1&&(wC items.size items.size d-wC items.size 0 lo)==items.size)=true then _ else _) _ _ s;rw[ZJ c];let#[o,y,v,n,hd]:=id b;let:=Zl ?_;unfold Builtin.Tuple.tupleIsExact;let:=Zl<|Vc b.typeIs<|Zw ?_;rw[ZJ<|∅];let:=Zl<|Vu<|Zw #[_,rfl,Zw h]
end AxT
section
variable {X:Cx}
theorem oO:FH X (Nn X.K):=by
 intro t s A H x v y z lo g w Q I p j pl l h;let#[a,d,rfl,n,q]:=h;cases p;let#[c,r,i,o]:=I.tuple n;have f:c.toArray.size=d.length:=by rw[ZF];let:=r.length.symm
 let:=#["tuple",_,Jm.lookup,i.typeIs,?_]
 by_cases e:HT.wC c.toArray.size 0 lo=0/\HT.wC c.toArray.size c.toArray.size g=c.toArray.size
 .let:=AxT.rZ i j pl l e #[.ref a,H,I,rfl,q _ _<|.inl #[rfl,rfl,?_]];rw[f]at e;unfold UX;rw[e.1,e.2];simp
 .let:=HT.uf i j pl l e ?_ (by rwa[f]);rw[f];let:=#[.ref s.heap.objs.size,_,I.laid (t':=s.toks) (λb u q=>Zr _ q) (Zn _) ?_,rfl,q _ _<|.inr #[_,I.hok.fresh<|Zn _,rfl,rfl]];let:=#[Z2 (kX d lo g) o,_,(r.drop<|HT.wC d.length 0 lo).take<|HT.wC d.length d.length g-HT.wC d.length 0 lo,TupAt.new _ _]
def SW (K:Co):V->Option Int->Option Int->Hp->VK->Prop:=λx lo c H Q=>∃a y b,x=.ref a/\lo=some 1/\yh K H a (y::b)/\∀p,H p=none->Q (.ref p) (upd H p<|.tup<|UX (y::b) lo c)
theorem iU:FH X (SW X.K):=by
 intro t s B H x v z A lo f w Q I p i pl o h;let#[a,y,c,rfl,rfl,l,q]:=h;cases p;let#[e,r,g,n]:=I.tuple l;have d:e.toArray.size=(y::c).length:=by rw[ZF];let:=r.length.symm
 let:=#["tuple",_,Jm.lookup,g.typeIs,?_];let:=HT.uf g i pl o (λj=>?_) ?_ (by rwa[d])
 .have:=j.1;rw[d,show(1:Int)=((1:Nat):Int) from rfl,HT.tL,ZH]at this;lia
 .rw[d];let:=#[.ref s.heap.objs.size,_,I.laid (t':=s.toks) (λb u q=>Zr _ q) (Zn _) ?_,rfl,q _<|I.hok.fresh<|Zn _];let:=#[Z2 (kX (y::c) (some 1) f) n,_,(r.drop<|HT.wC (y::c).length 0<|some 1).take<|HT.wC (y::c).length (y::c).length f-HT.wC (y::c).length 0 (some 1),TupAt.new _ _]
structure wU (P:Ea)(w:Ef)(K:Co)(mg:Str->Db)(base:Es)(k:Nat)(x:Str)(ps:By)(sp:Sp):Prop where
 ex:∃(f:D8) (fd:Ee),zc P w K mg base CA k f fd ps sp/\mg x=some (.ref f)/\EK K (.ref f)=true/\wW K fd ps []
theorem zJ {e:EE}{b:List EE}{p pos:Pos}(C:wU X.prog X.w X.K X.mg X.base k x ps sp)(o:wX k X.A)(g:PA X (e::b) t)(j:Gl X x:=by rfl)
  (c:(x==("__debug__":Str))=false:=by decide) (i:Eo (e::b) X.env=(false,ER e X.env)::Eo b X.env:=by rfl) (d:(E9 pos<|Eo b X.env).any (·.1)=false:=by rfl) :
  PE X (.Call (.Name x p) (e::b) [] pos) (S2 sp [] E0 t):=by
 let#[f,q,F,n,l,h]:=C.ex;let:=Sd F o j n l h .nil HM g c i d
theorem wU.mk' {K:Co}{st:EF}(F:xj K x qual st f fd)(G:zc P w K mg base CA k f fd ps sp)(c:mg x=some (.ref f))
  (b:wW K fd ps []):wU P w K mg base k x ps sp:=#[f,fd,G,c,F.kp,b]
def KD (P:Ea)(w:Ef)(K:Co)(a:D8)(c:Dk):Prop:=∀h:Es,K.In h->∃b,KV c b/\h.DictOf (yw P w) a b
def am (P:Ea)(w:Ef)(K:Co)(f ty:TE):TE:=λc H Q=>f c H λx d=>ty c d λy e=>∃a b k v,x=.ref a/\y=kV k/\KD P w K a b/\UH b k=some v/\Q v e
theorem Se {pos:Pos}(t:PE X o td)(r:PE X i ty)(z:RC i):PE X (.Subscript o i pos) (am X.prog X.w X.K td ty):=by
 intro d s g H Q I h;let:=B1 PySem.F.slot_dict_getitem.lookup z<|Ct (t d s g H _ I h) λu G ⟨x,j,p,D,B⟩=>Ct (r d G g j _ p B) λM N J=>?_;let#[y,n,e,E,a,L,k,v,ex,q,kd,l,C]:=J;subst ex q;obtain rfl:u=Em a:=D;let#[O,b,f]:=kd _ e.sZ;let#[P,A,c]:=tD.some_of (by rw[<-l];let:=b.val k);let:=#[f.typeIs,wpAny_getItem_of (XV E) f.mapOf A #[v,n,e.tok _,c,C]]
theorem FN:xf X (.builtin "isinstance") (λxs H Q=>∃y T t b,xs=[y,.ty T]/\rP X.K H y t/\E6 X.K t (.type T)=some b/\Q (.bl b) H):=by
 intro g s l H xs j Q I r h;let#[y,T,t,b,rfl,ty,d,q]:=h;let#[u,f,rfl,e,c]:=vals2 r;cases(show f=EJ T from c);let:=jG I e ty d λi=>#[.bl b,H,I.tok _,rfl,q]
end
theorem yq.there (x:yq P w H h a o):∃ob,h.get? a=some ob:=by
 cases o with
 |lst xs=>let#[_,_,_,_,e]:=x;let:=#[_,e]
 |tup xs=>let#[_,_,_,ob,e,_]:=x;let:=#[_,e]
 |dK Dl=>let#[_,_,_,_,ob,_,_,e,_]:=x;let:=#[_,e]
 |dT Dl=>let#[_,_,_,_,ob,_,_,e,_]:=x;let:=#[_,e]
 |set S n=>let#[ob,_,_,_,e,_]:=x;let:=#[_,e]
 |ins C dx fs=>let#[_,_,_,e,_]:=x;let:=#[_,e]
 |own y=>let:=x
 |xd fs=>let#[_,#[_,_,_,e,_],_]:=x;let:=#[_,e]
 |rng lo hi=>let#[_,_,_,e]:=x;let:=#[_,e]
 |frz ob u=>let#[e,_]:=x;let:=#[_,e]
 |tbl ps=>let:=#[_,(show h.get? a=some _ from x)]
 |met f y=>let:=#[_,(show h.get? a=some _ from x)]
 |ext φ=>let#[_,e,_]:=x;let:=e
def ctx0 (vs:Array D9):Prop:=vs[2]?=some .none
theorem XB:BM ctx0:=λb v h=>by
 show(b.setIfInBounds 1 v)[2]?=some .none;rwa[Array.getElem?_setIfInBounds_ne<|∅]
def ExcAt (h:Es)(a T:D8)(cls:D9):Prop :=
 ∃b c d e,h.get? a=some b/\(b.cls=cls/\ctx0 c)/\b.data=.fields c/\c[1]?=some (.ref T)/\T≠a/\h.get? T=some d/\d.data=.fields e/\e[3]?=some .none
def CI (P:Ea)(w:Ef):ND:=λouter H s E e c=>∃a T cls b,e=.ref a/\c.os=s.os/\Ma c.gens/\Un (frs outer) [] H b s.heap c.heap/\sy P w b c.heap /\
 s.heap.get? a=none/\s.heap.get? T=none/\b a=none/\b T=none/\ExcAt c.heap a T cls/\E cls none b
section
variable {X:Cx}{Dn:Dd}{σ:St}{H:Hp}{s:Eb}
theorem Inv.none_of (I:Inv X Dn σ H s){a:D8}(e:s.heap.get? a=none):H a=none:=by
 cases q:H a with
 |none=>rfl
 |some u =>
  let#[b,z]:=(I.hok a u q).there;rw[e]at z;cases z
theorem Inv.uy (I:Inv X Dn σ H s)(b:X.ex=[]){a:D8}(e:s.heap.get? a=none):X.s₀.heap.get? a=none:=by
 cases q:X.s₀.heap.get? a with
 |none=>rfl
 |some o =>
  let#[c,z]:=I.base.there a o q (by rw[b];simp);rw[e]at z;cases z
abbrev Xh (h:Es)(as:Dc)(l:List Env):Heap:=PySem.W.hideAll h<|as++frs l
theorem kT {h:Es}{base:Es}{l:List Env}(f:h.FunFrames base l):h.FunFrames (Xh h as l) l :=
 PySem.W.funFrames_hide f λenv d b c=>ZM _<|Jr.mpr #[env,d,c]
theorem kH:(Xh h as l).StaysIn h:=λ_ _ q=>PySem.W.of_hideAll _ q
theorem OO (D:X.ex=[])(I:Inv X Dn σ H s){a T p:D8}{cls:D9}{t:Es}{E:XK}(M:X.s₀.heap.get? a=none)(Q:X.s₀.heap.get? T=none)(L:H a=none)(O:H T=none)(G:X.s₀.heap.get? p=none)(J:H p=none)(N:ExcAt t a p cls)(q:E cls none H)
  (kp:∀b o,s.heap.get? b=some o->b≠a->b≠T->b∉frs X.stack->t.get? b=some o) (B:∀b o,s.heap.get? b=some o->b∈frs X.stack->∃B,t.get? b=some { o with slots:=B }):CI X.prog X.w X.outer X.H₀ X.s₀ E (.ref a) { s with heap:=t }:=by
 have P:∀b o,X.s₀.heap.get? b=some o->b≠X.env.locals:=λb o e=>ZZ<|Z0 (ZN e) I.ok.above;have f:∀b,b∉X.ex:=λb=>by rw[D];simp
 have F:∀b o,X.s₀.heap.get? b=some o->b≠a:=λb o e z=>by rw[z,M]at e;cases e
 have g:∀b o,X.s₀.heap.get? b=some o->b≠T:=λb o e z=>by rw[z,Q]at e;cases e
 let:=#[a,p,cls,H,rfl,I.os,I.bare,#[λb o d n A _=>?_,λb o d n A _=>?_,λb o d n _=>I.base.free b o d n<|f b,λb o d _=>?_,I.base.tups,I.base.sX,I.base.rQ],λb u d=>?_,M,G,L,J,N,q]
 .let:=kp b o (I.base.keep b o d n A<|f b) (F b o d) (g b o d) λz=>?_
  rcases Zx.mp (I.p7 b z) with r|r
  .let:=P b o d r
  .let:=A r
 .let#[K,h]:=I.base.slot b o d n A<|f b
  by_cases j:b∈frs X.stack
  .let#[l,C]:=B b _ h j;let:=#[l,C]
  .let:=#[K,kp b _ h (F b o d) (g b o d) j]
 .let#[R,h]:=I.base.there b o d<|f b
  by_cases j:b∈frs X.stack
  .let#[l,C]:=B b _ h j;let:=#[_,C]
  .let:=#[R,kp b _ h (F b o d) (g b o d) j]
 .have off:∀c,(c=b\/H c=some (.own b))->H c=none->False:=λc i z=>by
   rcases i with y|y
   .rw[y,d]at z;cases z
   .rw[y]at z;cases z
  let:=(I.hok b u d).stay (λc v i r=>kp c v r (λz=>off c i<|z▸L) (λz=>off c i<|z▸O) λz=>off c i<|I.qu c z) (λ_ r=>r) λ_ _ r=>r
theorem B6 (g:X.stack=X.env::X.outer)(j:X.env.frame=some X.env.locals)(f:X.ex=[])(I:Inv X Dn σ H s){e:D8}{cls:D9}{args:Da}{h':Es}(h:Heap.MadeExcOf s.heap h' e cls args){E:XK}(q:E cls none H)
  {Ex:D9->Dg}:Eh (Ej X.prog X.w) X.A (leaving X.env<|.ref e) (λ_ s''=>CI X.prog X.w X.outer X.H₀ X.s₀ E (.ref e) s'') Ex { s with heap:=h' }:=by
 have r:=kT (as:=[]) I.stack;have C:X.A.frames=some (X.env::X.outer):=by rw[I.ok.frames,g]
 let#[t,D,G,ht]:=h.there;have fresh:∀b,s.heap.get? b=none->(Xh s.heap [] X.stack).get? b=none:=λb c=>by
  cases F:(Xh s.heap [] X.stack).get? b with
  |none=>rfl
  |some n=>have:=kH b n F;rw[c]at this;cases this
 rw[g]at r;let:=Hn XB C ((by rw[g];let:=r:s.heap.FunFrames (Xh s.heap [] X.stack) (X.env::X.outer)).of_keeps λb o c _=>#[o,h.keeps b o c,rfl]) j D (λb o c=>h.keeps b o<|kH b o c) (fresh e h.new) rfl rfl rfl λu k1 k2 L k4=>?_;let#[K,Z,T,J,Y,N,O,P,Q,R,S,y,B,U]:=L;have kp:=λb o e c=>k1 b o (JF _ e<|by simpa using c);have p:∀b o,s.heap.get? b=some o->b∈frs X.stack->∃p,u.get? b=some { o with slots:=p }:=λb o e c=>by
  let#[_,n,d,hd]:=I.stack.mem c;rw[e]at d;cases d;let:=k4 b o (h.keeps b o e) hd
 have i:s.heap.get? T=none:=by
  cases M:s.heap.get? T with
  |none=>rfl
  |some o =>
   exfalso
   by_cases v:T∈frs X.stack
   .have l:u.FunFrames (Xh s.heap [] X.stack) X.stack:=by have z:=k2;rw[<-g]at z;let:=z
    let#[_,n,d,hd]:=l.mem v;rw[y]at d;cases d;let:=hd _ B
   .have z:(Xh s.heap [] X.stack).get? T=some o:=JF _ M (by simpa using v);rw[R]at z;cases z
 let:=OO f I (I.uy f h.new) (I.uy f i) (I.none_of h.new) (I.none_of i) (I.uy f i) (I.none_of i) #[K,Z,J,Y,N,O,P,Q,S,y,B,U] q (λb o e _ _ c=>kp b o e c) p
end
theorem NO {K:Co}{h:Es}{C:D8}{d:Da}{b:String}(X:K.In h)(q:L6 K C d b=true) :
  ∃bm N nm q bs hdct sn sub ab col dd k0 k1 k2 k3 k5 mN,h.get? C=some (excClassObj nm q C N bs bm hdct sn sub ab col dd k0 k1 k2 k3 k5 b)/\h.Ns N mN/\mN "__init__"=none/\OwnTail h d bm:=by
 unfold L6 at q
 split at q
 .rename_i dd o j r
  split at q
  .rename_i u bm k0 k1 k2 k3 n k5 g i;simp only[ZB,JW,YU]at q;let#[#[#[#[#[rfl,rfl],c],s],hok],e]:=q;let#[nm,bs,mro,ns,t,hd,sn,sub,ab,col,p]:=o;dsimp only at g c hok e;subst g c;have f:j=#v[k0,k1,k2,k3,some<|.builtin n,k5]:=by
    let#[l]:=j;simp only at i;rw[i]
   subst f;let:=#[bm,ns,nm,t,bs,hd,sn,sub,ab,col,dd,k0,k1,k2,k3,k5,_,X _ _ r,.of_isNs<|PySem.W.isNs_of_in X hok,PySem.W.nsMap_none_of_in X hok e,PySem.W.tail_of_in X s]
  .cases q
 .cases q
abbrev Ps:Da:=[.type "ValueError",.type "Exception",.type "BaseException",.type "object"]
def Throws (X:Cx)(R:St->Hp->D9->Prop):Prop:=∀(f:Dd) (d:St) (H:Hp) (s:Eb) (e:D8) (cls:D9) (b:Da) (c:Es),Inv X f d H s->Heap.MadeExcOf s.heap c e cls b->R d H cls->X.xe (.ref e) { s with heap:=c }
def Wq (C:D8)(R:St->Hp->D9->Prop)(t:TA):TS:=λ_ b H=>t b H λd c=>d.length<=sizeLine/\R b c (.ref C)
section
variable {X:Cx}
theorem PY {C:D8}{c:EE}{b:List EE}{M g pos:Pos}(E:X.calm=true)(L:Throws X R)(G:Gl X x)(J:X.mg x=some (.ref C))(j:L6 X.K C Ps "ValueError.__new__"=true)(B:PA X (c::b) t)
  (p:Eo (c::b) X.env=(false,ER c X.env)::Eo b X.env:=by rfl) (u:(E9 g<|Eo b X.env).any (·.1)=false:=by rfl) (hd:(x==("__debug__":Str))=false:=by decide) :
  PS X (.Raise (some<|.Call (.Name x M) (c::b) [] g) none pos) (Wq C R t):=by
 intro o s r H D I h;let#[U,N,nm,q,bs,hdct,sn,sub,ab,col,dd,k0,k1,k2,k3,k5,S,z,A,n,T]:=NO I.ok.mod.iV j;let:=wpAny_Raise_call_subU (nm:=nm) (q:=q) (N:=N) (bs:=bs) (hdct:=hdct) (sn:=sn) (sub:=sub) (ab:=ab) (col:=col) (dd:=dd) (k0:=k0) (k1:=k1) (k2:=k2) (k3:=k3) (k5:=k5)
  F.excBase_ValueError (by lk) F.excBase_ValueError (T.hasType F.excBase_ValueError.hasBase) (I.ok.hd E) (by rw[p];show(false||(E9 g<|Eo b X.env).any (·.1))=false;rw[u];rfl) n (k6 I G J #[rfl,?_] hd)
 have d:=B g o s r H _ I h;rw[p]at d ⊢;let:=Calls.evalArgs_plain (YH d (λY f ⟨Z,v,i,P,Q,O⟩=>#[rfl,by rw[<-P.length];let:=Q,i.bk _ _ z,A.keeps i.bk,T.keeps i.bk,λw e l=>L o r v f e _ _ w i l O]) λ_ _ y=>y)
theorem Ov {P:Ea}{w:Ef}{K:Co}{mg:Str->Db}{base:Es}{N:By}{qual:Str}{scope:LJ}{f:D8}{b:D9}{A:Ez}{outer:List Env}{s:Eb}{H:Hp}{E:XK} :
  Throws (CU (CI P w) P w K mg base N qual scope f b A outer s H E) (λ_ H' cls=>E cls none H') :=
 λ_ _ _ _ _ _ _ _ I c q=>B6 rfl rfl rfl I c q
end
def Raises (X:Cx)(R:St->Hp->D9->Prop):Prop:=∀(d:Dd) (c:St) (H:Hp) (s:Eb) (e:D9) (b:Eb),Inv X d c H s->CI X.prog X.w X.stack H s (λcls _ f=>R c f cls) e b->X.xe e b
def Wi (sp:Sp)(R:St->Hp->D9->Prop)(t:TA):TE:=λb H Q=>t b H λe d=>sp e d Q<|λcls _ c=>R b c cls
section
variable {X:Cx}{k:Nat}{f:D8}{fd:Ee}{ps:By}{sp:Sp}{x:Str}{p pos:Pos}{e:EE}{es:List EE}{t:TA}{R:St->Hp->D9->Prop}
theorem Nu {g:Dd}{σ:St}{H:Hp}{s:Eb}{Q:VK}{b:Da}{vs:Di}(F:zc X.prog X.w X.K X.mg X.base (CI X.prog X.w) k f fd ps sp)(j:wX k X.A)(i:wW X.K fd ps [])(l:Raises X R)
  (I:Inv X g σ H s) (r:zb vs b) (h:sp vs H Q<|λcls _ H'=>R σ H' cls):Eh (Ej X.prog X.w) X.A (call (.ref f) b) (EP X g σ Q) X.xe s:=by
 have hl:b.length=ps.length:=by rw[<-r.length];let:=F.len _ _ _ _ h
 have c:=i s b I.sZ (by simpa using hl);rw[ZW]at c;let:=Uw<|JH (F.run X.A X.stack s H #[b,[]] b vs Q _ j I.env0 c r h) λr n d=>?_;cases r with
 |error e=>let:=l g σ H s e n I d
 |ok fl =>
  cases fl with
  |ret u=>let:=I.after d
  |next=>let:=EC d
  |brk=>let:=EC d
  |cont=>let:=EC d
structure pL (P:Ea)(w:Ef)(K:Co)(mg:Str->Db)(base:Es)(k:Nat)(x:Str)(ps:By)(sp:Sp):Prop where
 ex:∃(f:D8) (fd:Ee),zc P w K mg base (CI P w) k f fd ps sp/\mg x=some (.ref f)/\EK K (.ref f)=true/\wW K fd ps []
theorem kD (C:pL X.prog X.w X.K X.mg X.base k x ps sp)(v:wX k X.A)(y:Raises X R)(i:PA X (e::es) t)(n:Gl X x:=by rfl)
  (b:(x==("__debug__":Str))=false:=by decide) (l:Eo (e::es) X.env=(false,ER e X.env)::Eo es X.env:=by rfl) (c:(E9 pos<|Eo es X.env).any (·.1)=false:=by rfl) :
  PE X (.Call (.Name x p) (e::es) [] pos) (Wi sp R t):=by
 let#[f,fd,F,u,o,j]:=C.ex;intro g s z H Q I h;let:=Ja<|k6 I n u ?_ b;let:=Js I.ok.mod.iV o (Ct (i pos g s z H _ I h) λE D ⟨G,B,d,r,q⟩=>#[d.sZ,?_]) l c;let:=Nu F v j y d r q
end
def Wx (X:Cx)(d:Dd)(H:Hp)(b:D8):Prop :=
 H b=none/\X.s₀.heap.get? b=none/\b≠X.env.locals/\(∀x c,X.env.cells.lookup x=some c->c≠b)/\∀p∈X.pn++d,p.1≠b
section
variable {X:Cx}{Dn DU:Dd}{σ:St}{H:Hp}{s:Eb}{h':Es}{R:St->Hp->D9->Prop}
theorem Inv.iD (I:Inv X Dn σ H s)(f:X.ex=[]){H':Hp}{b:D8}(e:s.heap.get? b=none)(n:H' b=none):Wx X Dn H' b:=by
 let:=#[n,I.uy f e,λz=>?_,λx c q z=>?_,λp g z=>?_]
 .let#[m,#[o,_,_,d,_],_]:=I.loc;rw[<-z,e]at d;cases d
 .let#[v,o,d,_]:=I.cell x c q;rw[z,e]at d;cases d
 .have d:=(I.pin p g).1;rw[z,e]at d;cases d
theorem Inv.land {ch:Dc}(I:Inv X Dn σ H s)(j:∀b∈ch,Wx X Dn H b)(k1:(Xh s.heap ch X.stack).StaysIn h')(k2:s.heap.UpToSlots h')(R:Nat):Inv X Dn σ H { s with heap:=h',toks:=R }:=by
 have kp:∀b o,s.heap.get? b=some o->b∉ch->b∉frs X.stack->h'.get? b=some o:=λb o e t g=>k1 b o (JF _ e (by
  intro z
  rcases ZD.mp z with z|z
  .let:=t z
  .let:=g z))
 have any:∀b o,s.heap.get? b=some o->b∉ch->∃F,h'.get? b=some { o with slots:=F }:=λb o e t=>by
  by_cases g:b∈frs X.stack
  .let#[_,Q,B,hd]:=I.stack.mem g;rw[e]at B;cases B;let:=k2 b o e hd
  .let:=#[o.slots,kp b o e t g]
 have D:∀b,b≠X.env.locals->b∉X.fs->b∉frs X.stack:=λb L M z=>(Zx.mp<|I.p7 b z).elim L M;have P:∀b o,X.s₀.heap.get? b=some o->b≠X.env.locals:=λb o e=>ZZ<|Z0 (ZN e) I.ok.above;have q:∀b o,X.s₀.heap.get? b=some o->b∉ch:=λb o e z=>by rw[(j b z).2.1]at e;cases e
 have f:∀c v,s.heap.IsCell c v->h'.IsCell c v:=λc v ⟨o,O,hd⟩=>by
  let#[F,e]:=k2 c o O λS z=>by rw[hd]at z;cases z
  let:=#[_,e,hd]
 let:=#[I.ok,I.os,I.bare,#[λb o e n g C=>?_,λb o e n g C=>?_,I.base.free,λb o e C=>?_,I.base.tups,I.base.sX,I.base.rQ],?_,λx c e=>?_,I.free,I.wj,λp G=>?_,λb u e=>?_,I.len]
 .let:=kp b o (I.base.keep b o e n g C) (q b o e) (D b (P b o e) g)
 .let#[F,w]:=I.base.slot b o e n g C;let#[E,A]:=any b _ w<|q b o e;let:=#[E,A]
 .let#[Q,w]:=I.base.there b o e C;let#[E,A]:=any b _ w<|q b o e;let:=#[_,A]
 .let#[m,N,hl]:=I.loc;let:=#[m,k2.ns N,λi x v w A K=>?_];let#[u,r,l]:=hl i x v w A K;let:=#[u,r,?_]
  rcases l with l|⟨k,c,e,z⟩
  .let:=.inl l
  .let:=.inr #[k,c,e,f c _ z]
 .let#[v,z]:=I.cell x c e;let:=#[v,f c v z]
 .let#[e,n,ne,J,d]:=I.pin p G;let:=#[kp _ _ e (λz=>(j _ z).2.2.2.2 p G rfl) (D _ ne J),n,ne,J,d]
 .let:=(I.hok b u e).stay (λc v t r=>kp c v r (λz=>?_) λz=>?_) (λ_ r=>r) λ_ _ r=>r
  .have h:=(j c z).1
   rcases t with y|y
   .rw[y,e]at h;cases h
   .rw[y]at h;cases h
  .have h:=I.qu c z
   rcases t with y|y
   .rw[y,e]at h;cases h
   .rw[y]at h;cases h
theorem Inv.iQ (I:Inv X Dn σ H s)(f:Wx X Dn H T)(new:yq X.prog X.w (upd H T o) s.heap T o):Inv X Dn σ (upd H T o) s:=by
 let#[n,g,h,i,j]:=f;let:=#[I.ok,I.os,I.bare,I.base.iY g n,I.loc,I.cell,?_,λx c e=>?_,λp b=>?_,I.hok.adopt n new,I.len]
 .rw[zH<|Er h];let:=I.free
 .rw[zH<|i x c e];let:=I.wj x c e
 .let#[e,l,ne,q,d]:=I.pin p b;let:=#[e,by rw[zH<|j p b];let:=l,ne,q,d]
def Cx.jh (X:Cx)(Dn:Dd)(R:St->Hp->D9->Prop):Cx :=
 { X with pn:=X.pn++Dn,xe:=λe b=>∃a T cls σ H,e=.ref a/\Inv X Dn σ H b/\Wx X Dn H a/\Wx X Dn H T/\ExcAt b.heap a T cls/\R σ H cls }
theorem Inv.into (I:Inv X Dn σ H s)(R:St->Hp->D9->Prop):Inv (X.jh Dn R) [] σ H s :=
 #[#[I.ok.mod,I.ok.kind,I.ok.glob,I.ok.blt,I.ok.above,I.ok.inj,I.ok.has,I.ok.cab,I.ok.hd,I.ok.frames,I.ok.stk,I.ok.gQ,I.ok.bs,I.ok.ju,I.ok.nj,I.ok.nM,I.ok.rY,I.ok.iW],I.os,I.bare,I.base,I.loc,I.cell,I.free,I.wj,λp b=>I.pin p (by
  have b:p∈(X.pn++Dn)++[]:=b;simpa using b),I.hok,I.len]
theorem Inv.pZ (I:Inv (X.jh Dn R) DU σ H s):Inv X Dn σ H s :=
 #[#[I.ok.mod,I.ok.kind,I.ok.glob,I.ok.blt,I.ok.above,I.ok.inj,I.ok.has,I.ok.cab,I.ok.hd,I.ok.frames,I.ok.stk,I.ok.gQ,I.ok.bs,I.ok.ju,I.ok.nj,I.ok.nM,I.ok.rY,I.ok.iW],I.os,I.bare,I.base,I.loc,I.cell,I.free,I.wj,λp b=>I.pin p<|Z4 _ b,I.hok,I.len]
theorem SP.pZ (h:SP (X.jh Dn R) DU D f s'):SP X Dn D f s':=by
 cases f with
 |next=>let#[b,c,I,q]:=h;let:=#[b,c,I.pZ,q]
 |brk=>let#[b,c,I,q]:=h;let:=#[b,c,I.pZ,q]
 |cont=>let#[b,c,I,q]:=h;let:=#[b,c,I.pZ,q]
 |ret u=>let#[v,b,c,I,r,q]:=h;let:=#[v,b,c,I.pZ,r,q]
theorem kR (c:X.ex=[]):Raises (X.jh Dn R) R:=by
 intro DU σ H s e p I l;let#[a,T,cls,f,rfl,os,bare,un,hok,o,n,j,i,h,q]:=l;have d:=I.pZ;have g:=d.call' os un hok bare λb z=>absurd z (by simp);let:=#[a,T,cls,σ,f,rfl,g,d.iD c o j,d.iD c n i,h,q]
def Cx.jo (X:Cx)(e:D9):Cx:={ X with A:=X.A.mark<|some e,calm:=false,xe:=λ_ _=>False }
theorem Inv.mark (I:Inv X Dn σ H s)(e:D9):Inv (X.jo e) Dn σ H s :=
 #[#[I.ok.mod,I.ok.kind,I.ok.glob,I.ok.blt,I.ok.above,I.ok.inj,I.ok.has,I.ok.cab,λz=>(by cases z),I.ok.frames,I.ok.stk,I.ok.gQ,I.ok.bs,I.ok.ju,I.ok.nj,I.ok.nM,I.ok.rY,I.ok.iW],I.os,I.bare,I.base,I.loc,I.cell,I.free,I.wj,I.pin,I.hok,I.len]
theorem Inv.unmark {e:D9}(ok:X.Ok)(I:Inv (X.jo e) Dn σ H s):Inv X Dn σ H s :=
 #[ok,I.os,I.bare,I.base,I.loc,I.cell,I.free,I.wj,I.pin,I.hok,I.len]
end
def Gx (a:D8)(cls:D9):HO:=.ext λh=>∃o b,h.get? a=some o/\o.cls=cls/\o.data=.fields b/\ctx0 b
section
variable {X:Cx}
def ax (K:Co)(C:D8)(d:(St->Hp->D9->Prop)->TS)(th:TS):TS:=λD e H=>∃R:St->Hp->D9->Prop,d R D e H /\
 ∀b c cls a,R b c cls->c a=none->PySem.W.exmOne K cls (.ref C)=some true/\th D b (upd c a<|Gx a cls)
theorem BW {body i:List EF}{an:List ExceptHandler}{n:EF}{c:Str}{C:D8}{np J pos:Pos}{tb:(St->Hp->D9->Prop)->TS}{th:TS}(L:X.stack=X.env::X.outer)(ai:X.env.frame=some X.env.locals)(a5:X.ex=[])
  (hb:∀Dn R,nZ (X.jh Dn R) body<|tb R) (hg:Gl X c) (hm:X.mg c=some (.ref C)) (hs:∀e,nZ (X.jo e) (n::i) th)
  (hd:(c==("__debug__":Str))=false:=by decide):PS X (.Try body (.ExceptHandler (some<|.Name c np) none (n::i) J::an) [] [] pos) (ax X.K C tb th):=by
 intro Dn s σ H D I h;let#[R,ab,hh]:=h;let:=wpAny_Try_except<|YH (hb Dn R [] s σ H D (I.into R) ab) (λf g q=>?_) λe g q=>?_
 .have S:SP X Dn D f g:=q.pZ;cases f with
  |next=>let:=VB S
  |brk=>let:=S
  |cont=>let:=S
  |ret u=>let:=S
 .let#[a,T,cls,j,B,rfl,l,fa,fT,#[oe,vs,oT,ts,e1,e2,e3,e4,e5,e6,e7,e8],r1]:=q;let#[hx,a0]:=hh j B cls a r1 fa.1;have hA:X.A.frames=some (X.env::X.outer):=by rw[l.ok.frames,L]
  have F:∀b∈[a,T],Wx X Dn B b:=λb z=>by
   rcases Zx.mp z with z|z
   .rwa[z]
   .rwa[Zk.mp z]
  have Z:g.heap.FunFrames (Xh g.heap [a,T] X.stack) (X.env::X.outer):=by have z:=kT (as:=[a,T]) l.stack;rw[L]at z ⊢;let:=z
  have aa:OF ctx0 g.heap (Xh g.heap [a,T] X.stack) a cls .none:=#[oe,vs,T,oT,ts,e1,e2,e3,e4,Vq _<|by simp,e5,e6,e7,e8];let:=Ng XB hA Z ai aa kH (Vq _<|by simp) λh2 Q g2 y N=>?_;let:=jS Q g2 y λh3 P Y p O=>?_;have I3:Inv X Dn j B { g with heap:=h3 }:=l.land F P (N.trans O) g.toks;let:=wpAny_handleBy_cons (codeAny_handlers_test ?_) (by intro z;cases z);let:=k6 (I3.mark _) hg hm ?_ hd;let#[ob,_,_,_,_,al,#[G,_],_]:=id p;have LT:PySem.W.Looks (Ej X.prog X.w) h3 (typeOf<|.ref a) cls:=G▸(PySem.W.Looks.ld al).andThen .now;let:=(PySem.W.exm_one I3.sZ LT hx).here ?_;let:=codeAny_handlers_suite<|jS P Y p λh4 a2 a4 E a1=>?_;have I4:Inv X Dn j B { g with heap:=h4 }:=l.land F a2 ((N.trans O).trans a1) g.toks;have new:yq X.prog X.w (upd B a<|Gx a cls) h4 a (Gx a cls):=by
   let#[M,a3,_,_,_,Q,#[g2,gc],g3,_]:=E;let:=#[#[M,a3,Q,g2,g3,gc],#[M,Q],λu1 u2 ⟨o,v,z1,z2,z3⟩ k=>#[o,v,k o z1,z2,z3]]
  have I5:Inv X Dn j (upd B a<|Gx a cls) { g with heap:=h4 }:=I4.iQ fa new;let:=YH (hs (.ref a) Dn _ _ _ _ (I5.mark _) a0) (λf s7 U=>?_) λ_ _ z=>z.elim;cases f with
  |ret u=>let#[v,d,r,t,rv,q]:=U;let:=#[v,d,r,t.unmark l.ok,rv,q]
  |next=>let#[d,r,t,q]:=U;let:=#[d,r,t.unmark l.ok,q]
  |brk=>let#[d,r,t,q]:=U;let:=#[d,r,t.unmark l.ok,q]
  |cont=>let#[d,r,t,q]:=U;let:=#[d,r,t.unmark l.ok,q]
end
section
variable {P:Ea}{w:Ef}{K:Co}{mg:Str->Db}{base:Es}
theorem xj.jd {st:EF}{k:Nat}{sp:Sp}(F:xj K x qual st f fd)(S:zx N ps<|zI st)
  (d:∀(cdv:D9) (A:Ez) (outer:List Env) (s:Eb) (H:Hp) (vs:Di) (Q:VK) (E:XK),wX k (A.deeper<|envOfC qual (zI st) s.heap.objs.size f cdv)->sp vs H Q E -> ∃t,nZ (CU (CI P w) P w K mg base N qual (zI st) f cdv A outer s H E) (xW st) t/\t { nx:=λ_ H'=>Q .non H',rt:=Q } (start N vs) H)(len:∀vs H Q E,sp vs H Q E->vs.length=ps.length:=by intro _ _ _ _ h;first|(cases h;subst_vars;rfl)|repeat first|(let#[rfl,_]:=h;rfl)|let#[_,h]:=h):zc P w K mg base (CI P w) (k+1) f fd ps sp:=by
 let#[n,o,kV,e,p,l,cdv,ct,j,rfl,i,b]:=F.ex;let:=SM i b S len λA outer s H vs Q E g c=>?_;let#[t,h,q]:=d cdv A outer s H vs Q E g c;let:=#[t,h,q]
end
section
variable {X:Cx}{a:EE}{ta:TE}{K:Co}
def bT (K:Co)(ta:TE):TT:=λc H Q=>ta c H λx b=>∃k,Tc K x b k/\Q k b
theorem zY (c:PE X a ta)(d:∀whole,isTrue a X.env whole=(do let v <-whole;standAt a.pos;Mb [v] (truthy v)):=by intro _;rfl)(b:X.K=K:=by rfl):PT X a (bT K ta):=by
 subst b;let:=P0 c d
def bv (K:Co):Di->Hp->VK->Prop:=λc H Q=>∃y T t b,c=[y,.ty T]/\rP K H y t/\E6 K t (.type T)=some b/\Q (.bl b) H
theorem j7 (b:X.K=K:=by rfl):xf X (.builtin "isinstance") (bv K):=by
 subst b;let:=FN
end
end L2
namespace An
open PySem L2
abbrev cs (x:Str):List Nat:=x.cps.toList
theorem wO (h:cs x=cs y):x=y:=by
 let#[a]:=x;let#[b]:=y;have:a=b:=by simpa using h
 rw[this]
theorem zf (x y:Str):cs (x++y)=cs x++cs y:=by
 show(x.cps++y.cps).toList=_;simp
theorem yx (x:Str):x.length=(cs x).length:=by simp[Str.length]
theorem yg (x y:Str):(x++y).length=x.length+y.length:=by rw[yx,yx,yx,zf,Zq]
theorem vM:∀xs:By,cs (Ml "" xs)=xs.flatMap cs
 |[]=>rfl
 |[x]=>by show cs x=_;simp
 |x::y::r=>by
  show cs (x++""++Ml "" (y::r))=_;have:cs ("":Str)=[]:=by lk
  rw[zf,zf,vM (y::r),this,ZW];simp
theorem uP:∀(a b:By),EV (a.map .str) (b.map .str)=decide (a=b)
 |[],[]=>rfl
 |[],_::_=>rfl
 |_::_,[]=>rfl
 |x::a,y::b=>by
  show((x==y)&&EV (a.map .str) (b.map .str))=_;rw[uP a b,YY];simp
structure Ok (n:Nat)(x:Str):Prop where
 len:x.length<=n
 ok:Ei x=true
theorem x6 (x:Str):Ei x=true↔∀c∈cs x,c<1114112:=by
 unfold Ei;rw[<-Array.all_toList,ZQ];simp
theorem uR:∀ls:By,(∀p∈ls,Ei p=true)->El (ls.map .str)=true/\EA (ls.map .str)=0
 |[],_=>#[rfl,rfl]
 |x::ls,h=>by
  let#[b,c]:=uR ls λp d=>h p<|Zp _ d;let:=#[?_,?_]
  .show(Ei x&&El (ls.map .str))=true;rw[h x Zt,b];rfl
  .show max 0 (EA<|ls.map .str)=0;rw[c];rfl
theorem yT {ls:By}(h:∀p∈ls,Ei p=true):E5 (.list<|ls.map .str)=true/\E5 (.tuple<|ls.map .str)=true:=by
 let#[b,c]:=uR ls h;let:=#[?_,?_]
 .show(El (ls.map .str)&&decide (EA (ls.map .str)+1<=64))=true;rw[b,c];rfl
 .show(El (ls.map .str)&&decide (EA (ls.map .str)+1<=64))=true;rw[b,c];rfl
theorem zD {H:Hp}{l:D8}(h:H l=none):zz H (upd H l o):=λb u e=>by rwa[zH<|zL e h]
theorem zz.pM {l:D8}(e:zz H H2)(n:H l=none):zz H (upd H2 l o):=λb u q=>by rw[zH<|zL q n];let:=e b u q
theorem rI {c:Type}{xs:List c}{x y:c}{i:Nat}(h:(xs++[x])[i]?=some y):(i<xs.length/\xs[i]?=some y)\/(i=xs.length/\y=x):=by
 by_cases b:i<xs.length
 .rw[ZT b]at h;let:=.inl #[b,h]
 .rw[ZU<|⋯]at h;have:i-xs.length=0:=by
   cases q:i-xs.length with
   |zero=>rfl
   |succ n=>rw[q]at h;simp at h
  rw[this]at h;let:=.inr #[⋯,(Option.some.inj h).symm]
theorem zu {n:Nat}(h:n<=16777216):n<=sizeLine:=by rwa[Y3]
theorem yJ {n:Nat}(h:n<16777216):n<sizeLine:=by rwa[Y3]
theorem uI {b:Type}(x:b)(r:List b):CJ (x::r) 0=some x:=xX rfl
theorem UC (n:Nat)(h:n<=16777216:=by decide):n<=sizeLine:=zu h
theorem O1 {c A B:Prop} [Decidable c](hc:¬c)(h:B):if decide c=true then A else B:=by
 rw[ZE hc];let:=UB h
theorem MJ {n:Nat}:∀(ys:By),(∀y∈ys,y.length<=n)->(ys.map (·.length)).sum<=ys.length*n
 |[],_=>by simp
 |y::ys,h=>by
  have c:=MJ ys λz b=>h z<|Zp _ b;have d:=h y Zt;rw[ZR,Je,ZH,Nat.succ_mul];lia
theorem IV {b:Type}{p:b->Prop}{l:List b}{x:b}(h:∀y∈l,p y)(d:p x):∀y∈l++[x],p y:=λy c=>by
 rcases ZD.mp c with z|z
 .let:=h y z
 .rwa[Zk.mp z]
theorem kP {c:Type}{f:c->V}{xs:List c}{i:Int}(d:0<=i)(e:i<xs.length):∃x,xs[i.toNat]?=some x/\CJ (xs.map f) i=some (f x):=by
 let#[j,rfl]:=Jz d;have b:j<xs.length:=⋯
 let:=#[xs[j],by simp[b],xX ?_];rw[Zz,Zv b];rfl
theorem O3 {n:Nat}{i:Int}(b:0<=i)(c:i<n):N1 n i=some i.toNat:=by
 unfold N1;rw[ZJ b,ZJ c]
theorem CT {i:Int}(b:0<=i):UX xs none (some i)=xs.take i.toNat:=by
 let#[j,rfl]:=Jz b;unfold UX;rw[HT.ni,HT.tL,VN]
 by_cases h:j<=xs.length
 .rw[VD h];rfl
 .rw[Ut<|⋯,Nat.sub_zero,ZS,JI<|⋯]
theorem uK {i:Int}(b:0<=i):UX xs (some i) none=xs.drop i.toNat:=by
 let#[j,rfl]:=Jz b;unfold UX;rw[HT.ni,HT.tL]
 by_cases h:j<=xs.length
 .rw[VD h];let:=JI (by rw[Ym];lia)
 .rw[Ut<|⋯,Vf<|Zn _,Vf<|⋯];simp
def one (c:Nat):Str:=#[#v[c]]
theorem kY:∀l:List Nat,cs (Lh ""<|l.map one)=l:=by
 intro l;have b:Lh "" (l.map one)=Ml "" (l.map one):=EZ _ _;rw[b,vM,List.flatMap_map]
 induction l with
 |nil=>rfl
 |cons c l ih =>
  rw[List.flatMap_cons];rw[ih<|EZ _ _];rfl
theorem Kj:∀l:List Nat,((l.map one).map (·.length)).sum=l.length
 |[]=>rfl
 |c::l=>by
  rw[ZR,ZR,Je,Kj l,ZH];show 1+l.length=_;lia
end An
namespace L2
open PySem PySem.Spec PyProof.Rows
def aQ (lo:Int)(n:Nat):It:=#[λi _=>i<n,λi H x b=>b=H/\x=.int (lo-i),λi _=>n<=i]
theorem Kn {K:Co}(c:D8)(lo:Int)(n:Nat):Turn P w K tg (aQ lo n) [c] c (λi h=>IsRangeIter h c (lo+(i:Nat)*(-1)) ((n:Int)-(i:Nat))<|-1) where
 mem:=by simp
 obj:=λi h st b d=>by
  have e:b=c:=by simpa using d
  subst e;let:=#[_,st,λv z=>by
   have R:Data.fields _=Data.cell v:=z;cases R]
 keep:=λi h u st k=>k c (by simp) _ st
 item:=by
  intro X A D y B i F s G H E I g st C;subst A D y;let#[j,l,M,p,q,r]:=g c (by simp);have W:=Walks.range (prog:=X.prog) (w:=X.w) (I.ok.hd B) c lo (-1) n;let:=W.item i s _ _ C st λv u Q N f O=>?_;let#[t,rfl]:=N;have J:Inv X F G H { s with heap:=u,toks:=Q }:=I.turned (λb o d e=>O b o (by simpa using d) e) j l p q r;let:=#[_,rfl,Gn f rfl rfl ∅ #[.int<|lo-i,H,J,#[t,?_],#[rfl,rfl],f,λb d=>(g b d).1]]
  congr 1
  lia
 done:=by
  intro X A D y B i F s G H E I g st C;subst A D y;let#[j,l,M,p,q,r]:=g c (by simp);let:=wpAny_pyNext_range_end (I.ok.hd B) st (by have:n<=i:=C;lia) λu L=>#[rfl,I.turned (t':=s.toks) (λb o d e=>L b o d e) j l p q r]
 self:=λ_ _ _ _ _ st h=>wpAny_pyIter_rangeiter st h
theorem rangeSize_down (a b:Int):Ln a b (-1)=if a>b then a-b else 0:=by
 unfold Ln;rw[ZI<|∅]
 by_cases h:a>b
 .rw[ZJ h,ZJ h];simp
 .rw[ZI h,ZI h]
theorem small_down {a b:Int}(e:-(2 ^ 62)<=a)(c:a<2 ^ 62)(f:-(2 ^ 62)<=b)(d:b<2 ^ 62):Builtin.Range.small a b (-1)=true:=by
 unfold Builtin.Range.small;rw[rangeSize_down];simp only[Builtin.Range.rangeFitsLong,ZB,V5,Z8,JW,show¬((-1:Int)>0) by decide,Vs]
 split<;>lia
section
variable {X:Cx}{tg:EE}
def WS (c:TA):TI:=λe H R=>c e H λd b=>∃i j:Int,d=[.int i,.int j,.int<|-1]/\(-(2 ^ 28)<=i/\i<2 ^ 28/\-(2 ^ 28)<=j/\j<2 ^ 28)/\R (aQ i (i-j).toNat) b
theorem On {a b c:EE}{p pos:Pos}(E:Gl X "range")(F:X.mg "range"=none)(C:PA X [a,b,c] ta)(G:Eo [a,b,c] X.env=[(false,ER a X.env),(false,ER b X.env),(false,ER c X.env)]:=by rfl)
  (f:Eo [b,c] X.env=[(false,ER b X.env),(false,ER c X.env)]:=by rfl):PI X tg (.Call (.Name "range" p) [a,b,c] [] pos) (WS ta):=by
 intro l s y H R I h;let:=Call_ (uQ I E F boot_range<|YT (Ct (C pos l s y H _ I h) λN d ⟨O,n,z,J,w⟩=>?_) (by rw[G,f]) (by rw[f];rfl));let#[i,j,e,#[w,K,L,M],q]:=w;subst e;cases J with
 |cons r rr =>
  cases rr with
  |cons r' rr =>
   cases rr with
   |cons r'' rr =>
    cases rr;let#[t,rfl]:=r;let#[u,rfl]:=r';let#[v,rfl]:=r'';let:=call_range_3 ∅ ?_ (Ew<|PyProof.noPylong_small<|∅);let:=wpAny_pyIter_range (IsRange.new ..) (small_down ⋯ ⋯ ⋯<|⋯) ?_;have g:Inv X l y n { d with heap:=d.heap.push { cls:=.type "range",data:=.fields #v[.int i t,.int j u,.int (-1) v] },toks:=d.toks }:=z.kept λb o e=>Zr _ e;let:=#[(d.heap.push { cls:=.type "range",data:=.fields #v[.int i t,.int j u,.int (-1) v] }).objs.size,[(d.heap.push { cls:=.type "range",data:=.fields #v[.int i t,.int j u,.int (-1) v] }).objs.size],_,_,n,rfl,g.kept (t':=d.toks) λb o e=>Zr _ e,Kn _ i (i-j).toNat,?_,λb D=>?_,q]
    .have A:i+((0:Nat):Int)*(-1)=i:=by simp
     have B:(((i-j).toNat:Nat):Int)-((0:Nat):Int)=Ln i j (-1):=by rw[rangeSize_down];split<;>lia
     rw[A,B];let:=ZG _ rfl
    .have e:b=(d.heap.push { cls:=.type "range",data:=.fields #v[.int i t,.int j u,.int (-1) v] }).objs.size:=by simpa using D
     subst e;let:=g.qw (Zn _)<|g.hok.fresh<|Zn _
theorem KK {lo:Int}{n:Nat}{g:TG}{d:TS}{D:Ends}{σ:St}{H:Hp}(b:Nat->St->Hp->Prop)(h:b 0 σ H)
  (j:∀i σ H (E:Ends) (G:Prop),i<n->Ed D (b<|i+1) E->(g (.int<|lo-i) σ H (λσ2 H2=>d E σ2 H2)->G)->b i σ H->G) (hd:∀σ H,b n σ H->D.nx σ H):Kv (aQ lo n) g d D σ H :=
 BR n b h (λ_ _ _=>Zn _) (λ_ _ _ c _=>c) (λi σ H c p v l y=>by
  let#[e,f]:=y;subst e f;let:=j i σ _ _ _ c Ed.me id p) hd
end
section
variable {X:Cx}{K:Co}
def bw:R2:=λx y H Q=>∃i j:Str,x=.str i/\y=.str j/\Q (.bl<|!decide (j.cps.toList<i.cps.toList)) H
theorem Fk:CH X (EH .LtE) bw:=by
 intro d s f H x y v u Q I b c h;let#[i,j,rfl,rfl,q]:=h;let#[t,rfl]:=b;let#[e,rfl]:=c;let:=P.le_str #[.bl _,H,I,rfl,q]
theorem FC:∀{bs:List Bool} {us:Da},zb (bs.map V.bl) us->us=bs.map Mi
 |[],us,h=>by cases h;rfl
 |b::bs,us,h=>by
  cases h with
  |cons r1 r2=>rw[FC r2];cases r1;rfl
def bp (K:Co):Di->Hp->VK->Prop:=λb H Q=>∃(a:D8) (bs:List Bool),b=[.ref a]/\za K H a (bs.map V.bl)/\Q (.bl<|bs.all id) H
theorem kM (p:X.calm=true)(n:X.K=K:=by rfl):xf X (.builtin "all") (bp K):=by
 subst n;intro z s M H L J Q I r h;let#[a,bs,rfl,o,q]:=h;let#[u,rfl,w]:=wM r;cases w;let#[c,y,pl,E]:=I.list o;have g:=FC y;have hl:=pl.isList;have f:a<s.heap.objs.size:=by let#[_,e,_]:=hl;let:=ZN e
 let:=call_all_walk<|Vm hl ?_;let:=#[s.heap.objs.size,[s.heap.objs.size,a],[s.heap.objs.size],c.toArray.size,_,_,λi=>(bs[i]?).getD true,rfl,Walks.list (A:=X.A.in1) (I.ok.hd p) _ a (ZZ f) c.toArray,#[#[_,ZG _ rfl,rfl,rfl],hl.push _],λi v F C B d j=>?_,λD G t=>?_]
 .have d:c[i]?=some v:=by simpa using d
  rw[g,Zz]at d;cases e:bs[i]? with
  |none=>rw[e]at d;cases d
  |some b =>
   rw[e]at d;have d:=Option.some.inj d;subst d;simp only[e,VY]at j;let:=Jg j
 .have l:c.length=bs.length:=by rw[g,Zj]
  have e:((Eu c.toArray.size).all λi=>(bs[i]?).getD true)=bs.all id:=by
   rw[ZF,l];let:=PyProof.Rows.LSm.range_all bs
  rw[e];let:=#[.bl _,H,I.kept<|PyProof.Rows.LSm.kept_iter t,rfl,q]
end
mutual
def Dw (K:Co)(H:Hp):Eg->V->Prop
 | .none,v=>v=.non
 | .bool b,v=>v=.bl b
 | .int i,v=>v=.int i
 | .str x,v=>v=.str x
 | .list ds,v=>∃a c,v=.ref a/\za K H a c/\wQ K H ds c
 | .tuple ds,v=>∃a c,v=.ref a/\yh K H a c/\wQ K H ds c
 | .dict _,v=>∃a d,v=.ref a/\H a=some (.dK d)
def wQ (K:Co)(H:Hp):De->Di->Prop
 |[],xs=>xs=[]
 |d::ds,xs=>∃x r,xs=x::r/\Dw K H d x/\wQ K H ds r
end
mutual
theorem Dw.same {K:Co}(e:zz H H'):∀(d:Eg) (v:V),Dw K H d v->Dw K H' d v
 | .none,_,h=>h
 | .bool _,_,h=>h
 | .int _,_,h=>h
 | .str _,_,h=>h
 | .list ds,_,⟨a,xs,h1,h2,h3⟩=>#[a,xs,h1,e.seq h2,wQ.same e ds xs h3]
 | .tuple ds,_,⟨a,xs,h1,h2,h3⟩=>#[a,xs,h1,e.yu h2,wQ.same e ds xs h3]
 | .dict _,_,⟨a,Dl,h1,h2⟩=>#[a,Dl,h1,e _ _ h2]
theorem wQ.same {K:Co}(e:zz H H'):∀(ds:De) (xs:Di),wQ K H ds xs->wQ K H' ds xs
 |[],_,h=>h
 |d::ds,_,⟨x,r,h1,h2,h3⟩=>#[x,r,h1,Dw.same e d x h2,wQ.same e ds r h3]
end
mutual
theorem Dt.dw {K:Co}:∀{d:Eg} {v:V},Dt K H d v->Dw K H d v
 | .none,_,h=>h
 | .bool _,_,h=>h
 | .int _,_,h=>h
 | .str _,_,h=>h
 | .list ds,_,⟨a,xs,h1,h2,h3⟩=>#[a,xs,h1,h2,zy.dw h3]
 | .tuple ds,_,⟨a,xs,h1,h2,h3⟩=>#[a,xs,h1,h2,zy.dw h3]
 | .dict _,_,h=>h.elim
theorem zy.dw {K:Co}:∀{ds:De} {xs:Di},zy K H ds xs->wQ K H ds xs
 |[],_,h=>h
 |d::ds,_,⟨x,r,h1,h2,h3⟩=>#[x,r,h1,Dt.dw h2,zy.dw h3]
end
theorem wQ.length {K:Co}:∀{ds:De} {xs:Di},wQ K H ds xs->xs.length=ds.length
 |[],_,h=>by rw[show _=[] from h];rfl
 |d::ds,_,⟨x,r,h1,h2,h3⟩=>by rw[h1,ZH,ZH,wQ.length h3]
theorem wQ.get {K:Co}:∀{ds:De} {xs:Di} {i:Nat} {x:V},wQ K H ds xs->xs[i]?=some x->∃d,ds[i]?=some d/\Dw K H d x
 |[],_,i,x,h,e=>by rw[show _=[] from h]at e;cases e
 |d::ds,_,0,x,⟨x',r,h1,h2,h3⟩,e=>by
  rw[h1]at e;cases e;let:=#[d,rfl,h2]
 |d::ds,_,i+1,x,⟨x',r,h1,h2,h3⟩,e=>by
  rw[h1]at e;let#[b,c,f]:=wQ.get h3 (by simpa using e);let:=#[b,by simpa using c,f]
theorem wQ.at {K:Co}{i:Nat}{d:Eg}(h:wQ K H ds xs)(e:ds[i]?=some d):∃x,xs[i]?=some x/\Dw K H d x:=by
 have c:i<xs.length:=by rw[h.length];let:=(ZC.mp e).1
 let#[f,b,q]:=h.get<|Zv c;rw[e]at b;cases b;let:=#[_,Zv c,q]
def Xq:Eg->String
 | .none=>"NoneType"
 | .bool _=>"bool"
 | .int _=>"int"
 | .str _=>"str"
 | .list _=>"list"
 | .tuple _=>"tuple"
 | .dict _=>"dict"
section
variable {X:Cx}{Dn:Dd}{σ:St}{H:Hp}{s:Eb}{A:Ez}{E:D9->Dg}{Q:D9->Dg}{c:D9}{b:Bool}{K:Co}
theorem N0 (I:Inv X Dn σ H s)(f:yt x u)(hd:Dw X.K H d x)(e:E6 X.K (.type<|Xq d) c=some b)(h:∀tk,Q (.bool b) { s with toks:=tk }) :
  Eh (Ej X.prog X.w) A (call (.builtin "isinstance") [u,c]) Q E s:=by
 cases d with
 |none=>cases(show x=_ from hd);let:=jG I f .non e h
 |bool y=>cases(show x=_ from hd);let:=jG I f (.bl y) e h
 |int i=>cases(show x=_ from hd);let:=jG I f (.int i) e h
 |str y=>cases(show x=_ from hd);let:=jG I f (.str y) e h
 |dict Dl=>let#[a,v,rfl,r]:=hd;let:=jG I f (.dK r) e h
 |list ds =>
  let#[a,t,rfl,l,_]:=hd;cases(show u=Em a from f);let#[q,_,#[o,n,g,j,_],_]:=I.list l;let:=YA Uf I.sZ #[o,g,j] e (λz=>nomatch z) h
 |tuple ds =>
  let#[a,t,rfl,l,_]:=hd;cases(show u=Em a from f);let#[q,_,p,_]:=I.tuple l;let#[o,g,j,_]:=p;let:=YA PySem.W.kitx_tuple I.sZ #[o,g,j] e (λz=>nomatch z) h
def W6 (K:Co):Di->Hp->VK->Prop:=λc H Q=>∃y T d b,c=[y,.ty T]/\Dw K H d y/\E6 K (.type<|Xq d) (.type T)=some b/\Q (.bl b) H
theorem zZ (e:X.K=K:=by rfl):xf X (.builtin "isinstance") (W6 K):=by
 subst e;intro Dn s σ H n l Q I r h;let#[y,T,d,b,rfl,hd,f,q]:=h;let#[u,i,rfl,g,c]:=vals2 r;cases(show i=EJ T from c);let:=N0 I g hd f λj=>#[.bl b,H,I.tok _,rfl,q]
end
section
variable {src:List (Option Nat)}{g:TG}{te:TE}{Q:VK}{σ:St}{H:Hp}
theorem BS {x:Str}(b:Nat->Di->St->Hp->Prop)(f:b 0 [] (UU src σ) H)(l:x.length<=sizeLine)(hl:∀i ys σ H,i<=x.length->b i ys σ H->ys.length<=i)
  (j:∀i c ys σ H,x.cps[i]?=some c->b i ys σ H->g (.str #[#v[c]]) σ H λσ2 H3=>te σ2 H3 λy H5=>b (i+1) (ys++[y]) σ2 H5)
  (hd:∀ys σ H,b x.length ys σ H->∀p,H p=none->Q (.ref p) (upd H p<|.lst ys)):Xc src (WC x) g Bc te Q σ H :=
 Gk x.length b f l hl (λ_ _ _ _=>rfl) (λ_ _ _ _ d _=>d)
  (λi ys σ H d p o n y=>by
   let#[e,c,h,rfl]:=y;subst e;rw[Fg];let:=j i c ys σ _ h p) hd
end
end L2
namespace L2
open PySem PyProof.Rows
mutual
def aG:Eg->Eg->Bool->Prop
 | .int a,.int b,r=>r=decide (a<b)
 | .str a,.str b,r=>r=decide (a.cps.toList<b.cps.toList)
 | .tuple xs,.tuple ys,r=>Wy xs ys r
 |_,_,_=>False
def Wy:De->De->Bool->Prop
 |[],ys,r=>r=decide (0<ys.length)
 |_::_,[],r=>r=false
 |x::xs,y::ys,r=>(EG x y=true/\Wy xs ys r)\/(EG x y=false/\aG x y r)
end
section
variable {prog:Ea}{w:Ef}
def MU (prog:Ea)(w:Ef)(A:Ez)(r:Bool)(b:Bool)(s:Eb):List (D9×D9)->Prop
 |[]=>b=r
 |p::l=>(∀(Q:Bool->Dg) (E:D9->Dg),Q true s->Eh (Ej prog w) A (eqBool p.1 p.2) Q E s)/\MU prog w A r b s l \/
  (∀(Q:Bool->Dg) (E:D9->Dg),Q false s->Eh (Ej prog w) A (eqBool p.1 p.2) Q E s) /\
  (∀(Q:D9->Dg) (E:D9->Dg),Q (.bool r) s->Eh (Ej prog w) A (richCompare .Lt p.1 p.2) Q E s)
theorem GH {A:Ez}{E:D9->Dg}{s:Eb}{a b:D8}{t g:Obj}{xs ys:Array D9}{z nb:Nat}{r:Bool}{P:Fin->Dg}
  (q:s.heap.get? a=some t) (o:t.data=.seq xs z) (f:s.heap.get? b=some g) (n:g.cls=.type "tuple") (p:g.data=.seq ys nb)
  (y:MU prog w A r (decide (xs.size<ys.size)) s (xs.toList.zip ys.toList)) (h:P (.done<|.ret<|.bool r) s) :
  Eh (Ej prog w) A (Builtin.«tuple.__lt__» #[[.ref a,.ref b],[]]) P E s:=by
 have j:s.TypeIs (.ref b) "tuple":=#[g,f,n];show Eh _ _ (isInstance (.ref b) (.type "tuple")>>=_) _ _ s;let:=Zl<|J6 j isSubtype_tuple_tuple ?_;simp only[Um,Jb,Vs];let:=Zl<|Ub q o<|Zl<|Ub f p<|Zl ?_;let:=Uu _ (λd c i=>c.1=none/\i=s/\MU prog w A r (decide (xs.size<ys.size)) s d) _ ?_ ?_ _ _ #[rfl,rfl,y]
 .rintro⟨u,v⟩ d c i ⟨l,rfl,e⟩
  rcases e with⟨h1,h2⟩|⟨h1,h2⟩
  .let:=Zl (h1 _ _ ?_);simp only[Um,Jb,Vs];let:=Zw #[rfl,rfl,h2]
  .let:=Zl (h1 _ _ ?_);simp only[Bool.not_false,if_true];let:=Zl<|Vu<|Zl<|h2 _ _<|Zl<|Zw<|Zw ?_;let:=Zw h
 .rintro⟨B,C⟩ i ⟨l,rfl,e⟩;simp only at l;subst l;let:=Zw ?_;have e:=e;show P (.done<|.ret<|.bool<|decide (xs.size<ys.size)) i;rwa[e]
def OE (prog:Ea)(w:Ef)(d:Eg):Prop:=∀(e:Eg) (r:Bool) (A:Ez) (s:Eb) (a b:D9) (c bs:Dc),Reads s.heap a d c->Reads s.heap b e bs->d.canLay0=true->e.canLay0=true->A.units+min d.depth e.depth<Lc->aG d e r ->
  ∀(Q:D9->Dg) (E:D9->Dg),Q (.bool r) s->Eh (Ej prog w) A (richCompare .Lt a b) Q E s
def FG (prog:Ea)(w:Ef)(xs:De):Prop:=∀(b:De) (r:Bool) (A:Ez) (s:Eb) (d c:Da) (e bs:Dc),LL s.heap d xs e->LL s.heap c b bs->El xs=true->El b=true->A.units+min (EA xs) (EA b)<Lc->Wy xs b r ->
  ∀k:Nat,MU prog w A r (decide (k+d.length<k+c.length)) s (d.zip c)
theorem Ob (i:Int):OE prog w (.int i):=by
 intro e r A s a b f bs c d _ _ _ h Q E q;cases e with
 |int j =>
  cases c;cases d;cases(show r=_ from h);let:=(lt_int q:Eh _ _ (EH .Lt _ _) _ _ _)
 |_=>let:=EC h
theorem Oc (i:Str):OE prog w (.str i):=by
 intro e r A s a b f bs c d _ _ _ h Q E q;cases e with
 |str j =>
  cases c;cases d;cases(show r=_ from h);let:=(lt_str q:Eh _ _ (EH .Lt _ _) _ _ _)
 |_=>let:=EC h
theorem Od (i:FG prog w xs):OE prog w (.tuple xs):=by
 intro e r A s a b n bs j l f g d h Q E q;cases e with
 |tuple ys =>
  cases j with
  |tuple h1 h2 h3 h4 =>
   cases l with
   |tuple k1 k2 k3 k4 =>
    have c:=i ys r A.in1 s _ _ _ _ h4 k4 f g (SeqAt.room_in d) h 0;rw[Nat.zero_add,Nat.zero_add,Z5,Z5]at c;let:=wpAny_richCompare_same_room #[_,h1,h2] #[_,k1,k2] F.slot_tuple_lt
     (Yr F.slot_tuple_lt #[_,h1,h2] F.entry_tuple_lt (GH h1 h3 k1 k2 k3 c #[_,rfl,(λe=>nomatch e),q])<|F.args_tuple_lt_2 _ _) (SeqAt.room_here d)
 |_=>let:=EC h
theorem R0:FG prog w []:=by
 intro i r A s g d f bs b c _ _ _ h k;cases b;have e:=SeqAt.ReadsAll.length _ _ _ c;rw[List.zip_nil_left];show decide (k+0<k+d.length)=r;rw[show r=_ from h,e];let:=Vx.mpr ⋯
theorem Pm (p:OE prog w x)(t:FG prog w xs):FG prog w (x::xs):=by
 intro f r A s j i C bs n o z B l h k;cases f with
 |nil =>
  cases o;cases n;rw[List.zip_nil_right];show decide (k+_<k+0)=r;rw[show r=_ from h];let:=ZE ⋯
 |cons y f =>
  have b:x.canLay0=true/\El xs=true:=by simpa[El] using z
  have c:y.canLay0=true/\El f=true:=by simpa[El] using B
  have d:=SeqAt.room_head l;have g:=SeqAt.room_tail l;cases n with
  | @cons v j _ _ _ _ p1 p2 =>
   cases o with
   | @cons u i _ _ _ _ q1 q2 =>
    rw[List.zip_cons_cons];have h:=h
    rcases h with⟨e,h⟩|⟨e,h⟩
    .let:=.inl #[λQ E q=>LF prog w A E s _ _ _ _ _ _ Q p1 q1 b.1 c.1 d<|by rwa[e],?_];have D:=t f r A s _ _ _ _ p2 q2 b.2 c.2 g h<|k+1;rwa[ZH,ZH,show k+(j.length+1)=k+1+j.length by lia,show k+(i.length+1)=k+1+i.length by lia]
    .let:=.inr #[λQ E q=>LF prog w A E s _ _ _ _ _ _ Q p1 q1 b.1 c.1 d<|by rwa[e],λQ E q=>p y r A s _ _ _ _ p1 q1 b.1 c.1 d h Q E q]
mutual
theorem Pj:∀d:Eg,OE prog w d
 | .int i=>Ob i
 | .str i=>Oc i
 | .tuple xs=>Od<|Pk xs
 | .none=>λe r A s a b c bs f g _ _ _ h=>EC h
 | .bool _=>λe r A s a b c bs f g _ _ _ h=>EC h
 | .list _=>λe r A s a b c bs f g _ _ _ h=>EC h
 | .dict _=>λe r A s a b c bs f g _ _ _ h=>EC h
theorem Pk:∀xs:De,FG prog w xs
 |[]=>R0
 |x::xs=>Pm (Pj x)<|Pk xs
end
end
end L2
namespace L2
open PySem PySem.Spec PyProof.Rows
section
variable {X:Cx}
def Wh (i:Nat)(f:D8)(sp:Sp)(t:TA):TE:=λb H Q=>b[i]?=some (some<|.ref f)/\t b H λd c=>sp d c Q E0
theorem PM {x:Str}{e:EE}{b:List EE}{p pos:Pos}{f:D8}(C:wU X.prog X.w X.K X.mg X.base k y ps sp)(B:X.mg y=some (.ref f))(T:wX k X.A)(U:PE X (.Name x p)<|Wt i)(N:PA X (e::b) t)
  (P:Eo (e::b) X.env=(false,ER e X.env)::Eo b X.env:=by rfl) (c:(E9 pos<|Eo b X.env).any (·.1)=false:=by rfl) :
  PE X (.Call (.Name x p) (e::b) [] pos) (Wh i f sp t):=by
 let#[g,fd,F,S,R,O]:=C.ex;have J:g=f:=by
  rw[S]at B;injection B with z;injection z
 subst J;intro j s D H Q I ⟨d,h⟩;let:=Ja<|Ct (U j s D H (λv l=>v=.ref g/\l=H) I<|qy.mk d #[rfl,rfl]) λu Z zq=>?_;let#[v0,G,n,Y,M,L]:=zq;subst M L;cases Y;let:=Js (h₀:=X.base) n.ok.mod.iV R (Ct (N pos j Z D G _ n h) λus s1 ⟨vs,l,o,r,q⟩=>#[o.sZ,?_]) P c;let:=Fu (E:=E0) F T O .nil HM o r (by rwa[ZW])
end
end L2
namespace AxT
open PySem PySem.Spec PyProof.Rows PySem.SeqAt
open AutoSeq1 (wpAny_loadPart')
end AxT
namespace AxR
open PySem PySem.Spec PyProof.Rows
open AutoSeq1 (wpAny_loadPart')
theorem BC:Manifest.owners.lookup (String.ofList ['d','e','s','r','e','v','e','r'].reverse)=some Manifest.sig_reversed:=by kernel_rfl
theorem slot_next:Slot "reversed" "__next__" "reversed.__next__" :=
 .of (owner:="reversed") (n:="__next__") (by rw[JS,Y7];kernel_rfl) (by lk) (by lk) (by lk)
  (by first|let:=.inl (by lk)|let:=.inr (by lk)) (by rw[Y9];kernel_rfl)
theorem entry_next:entryFor table "reversed.__next__"=some Builtin.«reversed.__next__»:=entryFor_of_tree (by kernel_rfl)
theorem args_next (a:D9):argsOk "reversed.__next__" #[[a],[]]:=by
 unfold argsOk;rw[Uo (id:="reversed.__next__") (n:=['_','_','t','x','e','n','_','_']) (o:=['d','e','s','r','e','v','e','r']) (by kernel_rfl) BC];kernel_rfl
theorem Bp:Slot "reversed" "__iter__" "reversed.__iter__" :=
 .of (owner:="reversed") (n:="__iter__") (by rw[JS,Y7];kernel_rfl) (by lk) (by lk) (by lk)
  (by first|let:=.inl (by lk)|let:=.inr (by lk)) (by rw[Y9];kernel_rfl)
theorem NF (a:D9):argsOk "reversed.__iter__" #[[a],[]]:=by
 unfold argsOk;rw[Uo (id:="reversed.__iter__") (n:=['_','_','r','e','t','i','_','_']) (o:=['d','e','s','r','e','v','e','r']) (by kernel_rfl) BC];kernel_rfl
theorem vG:entryFor table "reversed.__iter__"=some Builtin.«dict_keyiterator.__iter__» :=
 entryFor_alias (id':="dict_keyiterator.__iter__") (by kernel_rfl) (by first|rfl|lk|(unfold String.splitOn;simp +decide [String.splitOnAux])) (by lk) (by kernel_rfl)
theorem Os:Slot "reversed" "__init__" "object.__init__" :=
 .of (owner:="object") (n:="__init__") (by rw[JS,Y7];kernel_rfl) (by lk) (by lk) (by lk)
  (by first|let:=.inl (by lk)|let:=.inr (by lk)) (by rw[Y9];kernel_rfl)
theorem called:TypeCalled "reversed" "reversed.__new__" "object.__init__":=#[by lk,F.create_reversed,#[_,_,F.mro_reversed],F.made_reversed,F.plain_reversed_new,F.sub_reversed_self,Os]
theorem HF:typeLookup (.type "tuple") "__reversed__"=Le none:=by rw[JS,Y7];kernel_rfl
def Op (l:D8)(i:Int):Obj:={ cls:=.type "reversed",data:=.fields #v[.ref l,EI i] }
def pH (h:Es)(a l:D8)(i:Int):Prop:=h.get? a=some (Op l i)
theorem sub_tuple_dict:Mg (.type "tuple") (.type "dict")=Le false:=by rw[Y9];kernel_rfl
theorem Oe (l:D8)(items:Array D9)(n:items.size<=sizeLine) :
  Meets (Builtin.«reversed.__new__» #[[.type "reversed",.ref l],[]]) (λ_ R s=>IsTup s.heap l items/\∀tk,R (.ok<|.ret<|.ref s.heap.objs.size) { s with heap:=s.heap.push<|Op l<|(items.size:Int)-1,toks:=tk }) :=
 .of_wp λprog w A R s h=>by
  let#[c,h]:=h;unfold Builtin.«reversed.__new__»;let:=Zl<|YW (newClass_reversed _) ?_
  try dsimp only
  let:=Zl (YW (a:=()) (by first|rfl|kernel_rfl) ?_);let:=Zl (YW (a:=()) (by first|rfl|kernel_rfl) ?_)
  try dsimp only
  let:=Zl<|JR c.typeIs HF ?_
  try dsimp only
  have i:s.TypeIs (.ref l) "tuple":=c.typeIs;have f:=sub_tuple_dict;have g:=Jm.lookup;let:=Zl<|YH (Q:=λ(b:Bool) d=>b=true/\d=s) (E:=λ_ _=>False) ?_ (λb d e=>?_) (λ_ _ z=>z.elim)
  .wp_walk
   let:=#[rfl,rfl]
  .let#[rfl,rfl]:=e;rw[ZI<|∅];have j:=L2.sU;let:=Zl (len_tuple c ⋯ ?_);let:=Zl<|YW (a:=some ((items.size:Nat):Int)) rfl ?_
   try dsimp only
   unfold Builtin.SmallTypes.newRecord;let:=Zl<|Yj ?_;let:=Zw #[_,rfl,h _]
section
variable {prog:Ea}{w:Ef}{A:Ez}{E:D9->Dg}{s:Eb}
theorem jm {l:D8}{items:Array D9}(c:items.size<=sizeLine){Q:D9->Dg}(b:IsTup s.heap l items)(h:∀tk,Q (.ref s.heap.objs.size) { s with heap:=s.heap.push<|Op l<|(items.size:Int)-1,toks:=tk }) :
  Eh (Ej prog w) A (call (.type "reversed") [.ref l]) Q E s :=
 callType_new called ∅ (F.typeCall_reversed_1 _) (F.newCall_reversed_1 _) (λobj=>F.args_object_init_2 obj _) F.entry_reversed_new (Oe l items c) #[b,λtk=>#[#[_,ZG _ rfl,rfl],h tk]]
theorem typeIs (x:pH s.heap a l i):s.TypeIs (.ref a) "reversed":=#[_,x,rfl]
theorem next_item {i:Nat}{items:Array D9}{x:D9}{Q:Db->Dg}(b:pH s.heap it l (i:Int))(f:IsTup s.heap l items)(n:l≠it)(q:items.size<=sizeLine)(g:items[i]?=some x)
  (h:∀h' tk,pH h' it l ((i:Int)-1)->E4 it s.heap h'->Q (some x) { s with heap:=h',toks:=tk }):Eh (Ej prog w) A (LO<|.ref it) Q E s:=by
 have c:s.heap.get? it=some (Op l i):=b;have o:i<items.size:=(Jf.mp g).1;unfold LO;let:=Zl<|Vj<|YI (name:=EL "__next__") (typeIs b) slot_next<|Yr slot_next (typeIs b) entry_next ?_<|args_next _
 unfold Builtin.«reversed.__next__»;let:=Zl<|YW (a:=(Em it,[])) rfl ?_
 try dsimp only
 let:=Zl<|Jx c (x:=.ref l) rfl rfl ?_;let:=Zl<|Jx c (x:=EI (i:Int)) rfl rfl ?_;show Eh _ _ (if(i:Int)<0 then _ else _) _ _ s;rw[ZI<|⋯];let:=Zl<|JR f.typeIs Jm.lookup ?_;rw[ZI<|∅];have p:=L2.sU;let:=Zl<|wpAny_mkInt ?_;have d:IsTup ({ s with toks:=s.toks+1 }:Eb).heap l items:=f;let:=Zl (Vj<|getItem_tuple (j:=i) d ⋯ ⋯ (by unfold seqIndex?;simp;lia) g ?_)
 try dsimp only
 let:=Zl<|Jx c (x:=EI (i:Int)) rfl rfl ?_;show Eh _ _ (Mh (.ref it) 1 (EI<|(i:Int)-1)>>=_) _ _ _;let:=Zl (YV c rfl (by simp) ?_);let:=Zw #[x,rfl,Zw<|h _ _ ?_<|EM ..];have e:=Yo (E2 (·.setIfInBounds 1 (EI<|(i:Int)-1))) c rfl;let:=e
theorem next_end {Q:Db->Dg}(h:A.handled=none)(c:pH s.heap it l<|-1)
  (i:∀h',Heap.ExtBut it s.heap h'->Q none { s with heap:=h' }):Eh (Ej prog w) A (LO<|.ref it) Q E s:=by
 have d:s.heap.get? it=some (Op l<|-1):=c;unfold LO;let:=Zl<|Vj<|YI (name:=EL "__next__") (typeIs c) slot_next<|Yr slot_next (typeIs c) entry_next ?_<|args_next _
 unfold Builtin.«reversed.__next__»;let:=Zl<|YW (a:=(Em it,[])) rfl ?_
 try dsimp only
 let:=Zl<|Jx d (x:=.ref l) rfl rfl ?_;let:=Zl<|Jx d (x:=EI<|-1) rfl rfl ?_;show Eh _ _ (if(-1:Int)<0 then _ else _) _ _ s;rw[ZJ<|∅];let:=Zl<|Vu ?_;let:=Zl ?_;show Eh _ _ (Mh (.ref it) 1 (EI<|-1)>>=λ_=>Mh (.ref it) 0 .none) _ _ s;let:=Zl (YV d rfl (by simp) ?_);have f:(s.heap.update it (E2 (·.setIfInBounds 1 (EI<|-1)))).get? it=some (Op l<|-1):=Yo (E2 (·.setIfInBounds 1 (EI<|-1))) d rfl;let:=YV f rfl (by simp) ?_;let:=Zl ?_;unfold Builtin.SmallTypes.stopIteration;let:=Zl ?_;simp only[newExc,newTuple];let:=Zl (Yj ?_<|by size_fits);let:=Zl (m:=LG _ _) (YW (a:=EB) (by first|rfl|(simp only[LG];rfl)) ?_);let:=Yj ?_ (by size_fits);simp only[raiseNew];let:=Zl<|wpAny_handled ?_
 first|rw[show A.in1.handled=none from h]|rw[h]
 let:=Zl<|Zw<|wpAny_throw ?_;let:=Zl<|J6 (T:="StopIteration") (b:=true) #[_,ZG _ rfl,rfl] isSubtype_stop ?_;let:=Zw<|i _ ?_;let:=((Heap.ExtBut.push ?_ _).push _);let:=λb o g e=>by rwa[Yx _ _<|Er g,Yx _ _<|Er g]
theorem pB {Q:D9->Dg}(b:pH s.heap it l i)(h:Q (.ref it) s):Eh (Ej prog w) A (pyIter<|.ref it) Q E s:=by
 let:=Uj (typeIs b) Bp<|Yr Bp (typeIs b) vG ?_<|NF _;show Eh _ _ (ret<|.ref it) _ _ s;let:=Zw #[_,rfl,"reversed",_,typeIs b,slot_next.lookup,h]
end
end AxR
namespace L2
open PySem PySem.Spec PyProof.Rows
def OD (K:Co)(a:D8)(n:Nat):It :=
 #[λi H=>∃b,yh K H a b/\b.length=n/\i<n,λi H v c=>c=H/\∀b,yh K H a b->b[n-1-i]?=some v,λi _=>i=n]
theorem Rt {P:Ea}{w:Ef}{K:Co}{tg:EE}(a d:D8)(n:Nat) :
  Turn P w K tg (OD K a n) [d] d (λi h=>i<=n/\AxR.pH h d a ((n:Int)-1-(i:Int))) where
 mem:=by simp
 obj:=λi h st b f=>by
  have e:b=d:=by simpa using f
  subst e;let:=#[_,st.2,λv z=>by cases z]
 keep:=λi h q st k=>#[st.1,k d (by simp) _ st.2]
 item:=by
  intro X F J D N i M s Y H E I r st l;subst F J D;let#[U,Q,hl,hi]:=l;let#[aa,S,p,hz]:=I.tuple Q;have R:U[n-1-i]?=some (U[n-1-i]'⋯):=Zv ⋯;let#[u,hu,ru]:=S.get R;let#[t,y,f2,A,B,C]:=r d (by simp);have c:=st.2;have e:(n:Int)-1-(i:Int)=((n-1-i:Nat):Int):=⋯
  rw[e]at c;have G:a≠d:=λz=>by
   let#[o,O,g,_]:=p;have L:s.heap.get? d=some _:=c;rw[z,L]at O;cases O;have g:EJ "reversed"=EJ "tuple":=g;let:=absurd g ∅
  let:=AxR.next_item c p G (by rwa[ZF,<-S.length]) (x:=u) (by simpa using hu) λq T j sb=>?_;have Z:Inv X M Y H { s with heap:=q,toks:=T }:=I.turned (λb o f e=>(sb.2 b f).trans e) t y A B C;have e2:((n-1-i:Nat):Int)-1=(n:Int)-1-((i+1:Nat):Int):=⋯
  rw[e2]at j;let:=#[u,rfl,Gn (s:={ s with heap:=q,toks:=T }) (n:="reversed") j rfl rfl ∅ #[_,H,Z,ru,#[rfl,λys hy=>by rw[I.ph hy Q];let:=R],#[hi,j],λb f=>(r b f).1]]
 done:=by
  intro X F J D N i M s Y H E I r st l;subst F J D;have l:i=n:=l;subst l;let#[t,y,f2,A,B,C]:=r d (by simp);have c:=st.2;have e:(i:Int)-1-(i:Int)=-1:=⋯
  rw[e]at c;let:=AxR.next_end (I.ok.hd N) c λq eb=>#[rfl,I.turned (t':=s.toks) (λb o f e=>eb b o f e) t y A B C]
 self:=λ_ _ _ _ _ st h=>AxR.pB st.2 h
section
variable {X:Cx}{tg:EE}
def ba (K:Co)(d:TA):TI:=λf H R=>d f H λe b=>∃a c,e=[.ref a]/\yh K b a c/\R (OD K a c.length) b
theorem boot_reversed:Lv "reversed"=some (.type "reversed"):=by lk
theorem T6 {a:EE}{p pos:Pos}(y:Gl X "reversed")(z:X.mg "reversed"=none)(v:PA X [a] ta)(B:Eo [a] X.env=[(false,ER a X.env)]:=by rfl):PI X tg (.Call (.Name "reversed" p) [a] [] pos) (ba X.K ta):=by
 intro r s J H R I h;let:=Call_<|uQ I y z boot_reversed<|YT (Ct (v pos r s J H _ I h) λM g ⟨N,t,d,E,D⟩=>?_) B rfl;let#[j,f,e,A,q]:=D;subst e;let#[u,rfl,F]:=wM E;cases F;let#[c,n,C,L]:=d.tuple A;let:=AxR.jm (by rwa[ZF,<-n.length]) C λG=>AxR.pB (l:=j) (i:=((c.toArray.size:Nat):Int)-1) (ZG _ rfl) ?_;have hl:c.toArray.size=f.length:=by rw[ZF];let:=n.length.symm
 let:=#[g.heap.objs.size,[g.heap.objs.size],_,_,t,rfl,d.kept (t':=G) λb o e=>Zr _ e,Rt j _ f.length,#[ZP _,?_],λb w=>?_,q]
 .rw[hl];have e:(f.length:Int)-1-((0:Nat):Int)=(f.length:Int)-1:=⋯
  rw[e];let:=ZG _ rfl
 .have e:b=g.heap.objs.size:=by simpa using w
  subst e;let:=d.qw (Zn _)<|d.hok.fresh<|Zn _
theorem RM {K:Co}{xs:Di}{g:TG}{d:TS}{D:Ends}{σ:St}{H:Hp}(b:Nat->St->Hp->Prop)(f:b 0 σ H)(hl:∀i σ H,i<=xs.length->b i σ H->yh K H a xs)
  (h:∀i x σ H (E:Ends) (G:Prop),i<xs.length->xs[xs.length-1-i]?=some x->Ed D (b<|i+1) E->(g x σ H (λσ2 H2=>d E σ2 H2)->G)->b i σ H->G) (hd:∀σ H,b xs.length σ H->D.nx σ H):Kv (OD K a xs.length) g d D σ H :=
 BR xs.length b f (λ_ _ _=>rfl) (λi σ H c p=>#[xs,hl i σ H (YC c) p,rfl,c]) (λi σ H c p v l y=>by
  let#[e,j]:=y;subst e;let:=h i v σ _ _ _ c (j xs<|hl i σ _ (YC c) p) Ed.me id p) hd
end
section
variable {X:Cx}{K:Co}{a b c d:EE}{ta tb tc td:TE}{pos:Pos}
def bz (K:Co):Di->Hp->VK->Prop:=λc H Q=>∃p b,c=[.ref p]/\(za K H p b\/yh K H p b)/\Q (.int ((b.length:Nat):Int)) H
theorem NJ (b:X.K=K:=by rfl):xf X (.builtin "len") (bz K):=by
 subst b;let:=zN
def W5 (K:Co)(tup c:Bool):R2:=λx y H Q=>∃(d:Eg) (b:De),Dt K H d x/\Dt K H (if tup then .tuple b else .list b) y/\El b=true/\d.canLay0=true/\d.depth<=60/\Q (.bl<|c !=b.any λy=>EG y d) H
theorem Kt:∀{ns:List Int} {us:Da},zb (ns.map V.int) us->IntsAre us ns
 |[],us,h=>by cases h;let:=.nil
 |n::ns,us,h=>by
  cases h with
  |cons r1 r2=>let#[t,rfl]:=r1;let:=.cons _ _<|Kt r2
def bE (K:Co):Di->Hp->VK->Prop:=λb H Q=>∃(a:D8) (ns:List Int),b=[.ref a]/\za K H a (ns.map V.int)/\Q (.int ns.sum) H
theorem FQ (n:X.calm=true)(j:X.K=K:=by rfl):xf X (.builtin "sum") (bE K):=by
 subst j;intro v s C H b B Q I r h;let#[a,ns,rfl,l,q]:=h;let#[u,rfl,p]:=wM r;cases p;let#[d,t,pl,y]:=I.list l;have e:=Kt t;let#[b,f]:=e.allInts.items;have c:s.heap.IsList a (intItems b):=f▸pl.isList;let:=sum_intListG (I.ok.hd n) c λw A z o=>?_;have g:ns=b.toList.map (·.1):=by
  rw[<-nums_intItems,<-f];let:=(show numsOf d.toArray.toList=ns from e.numsOf).symm
 have i:preSum (numAt b) b.size=ns.sum:=by
  rw[preSum_eq,JI<|by simp,g]
 rw[i];let:=#[.int _,H,I.kept o,#[_,rfl],q]
end
def Kw (K:Co)(a:D8)(n:Nat):It :=
 #[λi H=>∃b,za K H a b/\b.length=n/\i<n,λi H v c=>c=H/\∀b,za K H a b->b[n-1-i]?=some v,λi _=>i=n]
theorem Oy {P:Ea}{w:Ef}{K:Co}{tg:EE}(a f:D8)(n:Nat) :
  Turn P w K tg (Kw K a n) [f] f (λi h=>i<=n/\h.IsRevIter f a ((n:Int)-1-(i:Int))) where
 mem:=by simp
 obj:=λi h st b d=>by
  have e:b=f:=by simpa using d
  subst e;let#[_,o,ho,_,hd]:=st;let:=#[_,ho,λv z=>by rw[hd]at z;cases z]
 keep:=λi h l st k=>#[st.1,st.2.at λo e=>k f (by simp) _ e]
 item:=by
  intro X D L C N i M s S H E I q st j;subst D L C;let#[R,O,hl,hi]:=j;let#[aa,rv,p,hz]:=I.list O;have Q:R[n-1-i]?=some (R[n-1-i]'⋯):=Zv ⋯;let#[u,hu,ru]:=rv.get Q;let#[r,t,Z,y,A,B]:=q f (by simp);have c:=st.2;have e:(n:Int)-1-(i:Int)=((n-1-i:Nat):Int):=⋯
  rw[e]at c;let:=wpAny_pyNext_rev_item c p.isList (x:=u) (by simpa using hu) λl g sb=>?_;have T:Inv X M S H { s with heap:=l,toks:=s.toks }:=I.turned (λb o d e=>(sb.2 b d).trans e) r t y A B;have U:((n-1-i:Nat):Int)-1=(n:Int)-1-((i+1:Nat):Int):=⋯
  rw[U]at g;let#[o',J,F,G]:=id g;let:=#[u,rfl,Gn (s:={ s with heap:=l,toks:=s.toks }) (n:="list_reverseiterator") J F G ∅ #[_,H,T,ru,#[rfl,λys hy=>by rw[I.mW hy O];let:=Q],#[hi,g],λb d=>(q b d).1]]
 done:=by
  intro X D L C N i M s S H E I q st j;subst D L C;have j:i=n:=j;subst j;let#[r,t,Z,y,A,B]:=q f (by simp);have c:=st.2;have e:(i:Int)-1-(i:Int)=-1:=⋯
  rw[e]at c;let:=wpAny_pyNext_rev_end (I.ok.hd N) c λl Y=>#[rfl,I.turned (t':=s.toks) (λb o d e=>Y b o d e) r t y A B]
 self:=λ_ _ _ _ _ st h=>wpAny_pyIter_revIter st.2 h
section
variable {X:Cx}{tg:EE}
def WP (K:Co)(d:TA):TI:=λf H R=>d f H λe b=>∃a c,e=[.ref a]/\za K b a c/\R (Kw K a c.length) b
theorem Nk {a:EE}{p pos:Pos}(t:Gl X "reversed")(v:X.mg "reversed"=none)(n:PA X [a] ta)(z:Eo [a] X.env=[(false,ER a X.env)]:=by rfl):PI X tg (.Call (.Name "reversed" p) [a] [] pos) (WP X.K ta):=by
 intro j s F H R I h;let:=Call_<|uQ I t v boot_reversed<|YT (Ct (n pos j s F H _ I h) λJ d ⟨L,l,f,C,B⟩=>?_) z rfl;let#[g,i,e,w,q]:=B;subst e;let#[u,rfl,D]:=wM C;cases D;let#[c,E,A,G]:=f.list w;have hl:c.toArray.size=i.length:=by rw[ZF];let:=E.length.symm
 have y:(d.heap.push<|revObj g<|(c.toArray.size:Int)-1).IsRevIter d.heap.objs.size g ((c.toArray.size:Int)-1):=#[_,ZG _ rfl,rfl,rfl];let:=call_reversed_list A.isList<|wpAny_pyIter_revIter y ?_;let:=#[d.heap.objs.size,[d.heap.objs.size],_,_,l,rfl,f.kept (t':=d.toks) λb o e=>Zr _ e,Oy g _ i.length,#[ZP _,?_],λb r=>?_,q]
 .have e:(i.length:Int)-1-((0:Nat):Int)=(c.toArray.size:Int)-1:=by rw[hl];lia
  rwa[e]
 .have e:b=d.heap.objs.size:=by simpa using r
  subst e;let:=f.qw (Zn _)<|f.hok.fresh<|Zn _
theorem F9 {K:Co}{xs:Di}{g:TG}{d:TS}{D:Ends}{σ:St}{H:Hp}(b:Nat->St->Hp->Prop)(f:b 0 σ H)(hl:∀i σ H,i<=xs.length->b i σ H->za K H a xs)
  (h:∀i x σ H (E:Ends) (G:Prop),i<xs.length->xs[xs.length-1-i]?=some x->Ed D (b<|i+1) E->(g x σ H (λσ2 H2=>d E σ2 H2)->G)->b i σ H->G) (hd:∀σ H,b xs.length σ H->D.nx σ H):Kv (Kw K a xs.length) g d D σ H :=
 BR xs.length b f (λ_ _ _=>rfl) (λi σ H c p=>#[xs,hl i σ H (YC c) p,rfl,c]) (λi σ H c p v l y=>by
  let#[e,j]:=y;subst e;let:=h i v σ _ _ _ c (j xs<|hl i σ _ (YC c) p) Ed.me id p) hd
end
section
variable {X:Cx}{Dn:Dd}{σ:St}{H:Hp}{s:Eb}
theorem GK (f:X.stack=X.env::X.outer)(p:X.env.frame=some X.env.locals)(i:X.ex=[])(I:Inv X Dn σ H s){a T:D8}{cls:D9}(U:X.s₀.heap.get? a=none)(S:X.s₀.heap.get? T=none)(R:H a=none)(Q:H T=none)(M:ExcAt s.heap a T cls){E:XK}(q:E cls none H)
  {Ex:D9->Dg}:Eh (Ej X.prog X.w) X.A (leaving X.env<|.ref a) (λ_ s''=>CI X.prog X.w X.outer X.H₀ X.s₀ E (.ref a) s'') Ex s:=by
 have fr:=kT (as:=[a,T]) I.stack;have P:X.A.frames=some (X.env::X.outer):=by rw[I.ok.frames,f]
 have hid:∀b,b=a\/b=T->(Xh s.heap [a,T] X.stack).get? b=none:=λb g=>by
  cases j:(Xh s.heap [a,T] X.stack).get? b with
  |none=>rfl
  |some o =>
   exfalso;have z:=Vq ([a,T]++frs X.stack) (h:=s.heap) (Z4 _<|by simpa using g);rw[z]at j;cases j
 let#[oe,vs,Z,ts,t1,t2,t3,t4,t6,t7,t8,t9]:=M;have tw:OF ctx0 s.heap (Xh s.heap [a,T] X.stack) a cls .none:=#[oe,vs,T,Z,ts,t1,t2,t3,t4,hid T<|.inr rfl,t6,t7,t8,t9];let:=KS XB P (by rwa[<-f]) p tw kH (hid a<|.inl rfl) λn k1 k2 L k4=>?_;let#[y,D,d,t,C,u1,u2,u3,u4,u5,G,J,K,u9]:=L;have kp:∀b o,s.heap.get? b=some o->b≠a->b≠T->b∉frs X.stack->n.get? b=some o:=λb o e N O g=>k1 b o (JF _ e (by
  intro z
  rcases ZD.mp z with z|z
  .have z:b=a\/b=T:=by simpa using z
   let:=z.elim N O
  .let:=g z))
 have B:∀b o,s.heap.get? b=some o->b∈frs X.stack->∃B,n.get? b=some { o with slots:=B }:=λb o e g=>by
  let#[_,Y,c,hd]:=I.stack.mem g;rw[e]at c;cases c;let:=k4 b o e hd
 have l:d=T\/s.heap.get? d=none:=by
  by_cases j:d=T
  .let:=.inl j
  .let:=.inr ?_;cases qT:s.heap.get? d with
   |none=>rfl
   |some o =>
    exfalso
    by_cases F:d∈frs X.stack
    .have r:n.FunFrames (Xh s.heap [a,T] X.stack) X.stack:=by have z:=k2;rw[<-f]at z;let:=z
     let#[_,Y,c,hd]:=r.mem F;rw[J]at c;cases c;let:=hd _ K
    .have z:(Xh s.heap [a,T] X.stack).get? d=some o:=JF _ qT (by
      intro z
      rcases ZD.mp z with z|z
      .have z:d=a\/d=T:=by simpa using z
       let:=z.elim G j
      .let:=F z)
     rw[u5]at z;cases z
 have u:=l.elim (λz=>by rwa[z]) λz=>I.uy i z;have v:=l.elim (λz=>by rwa[z]) λz=>I.none_of z;let:=OO i I U S R Q u v #[y,D,t,C,u1,u2,u3,u4,G,J,K,u9] q kp B
end
theorem x8 {P:Ea}{w:Ef}{K:Co}{mg:Str->Db}{base:Es}{N:By}{qual:Str}{scope:LJ}{f:D8}{d:D9}{A:Ez}{outer:List Env}{s:Eb}{H:Hp}{E:XK} :
  Raises (CU (CI P w) P w K mg base N qual scope f d A outer s H E) (λ_ H' cls=>E cls none H'):=by
 intro o u p t e r I j;let#[a,T,cls,H',rfl,os,bare,un,hok,n,l,i,h,g,q]:=j;have c:=I.call' os un hok bare λb z=>absurd z (by simp);let:=GK rfl rfl rfl c (I.uy rfl n) (I.uy rfl l) i h g q
theorem GL (l b:D8)(items:Array D9)(n:Nat)(c:Array D9)(e:¬(!items.isEmpty&&EU (items.size+c.size))=true)(f:items.size<=sizeLine)(j:items.size+c.size<=sizeLine+1) :
  Meets (Builtin.«list.extend» #[[.ref l,.ref b],[]]) (λ_ R s=>s.heap.get? l=some { cls:=.type "list",data:=.seq items n }/\IsTup s.heap b c/\R (.ok<|.ret .none) { s with heap:=s.heap.update l (ES λx=>x++c) }) :=
 .of_wp λprog w A R s h=>by
  let#[hl,d,h]:=h;have g:=d.typeIs;unfold Builtin.«list.extend» LA;let:=Zl<|YW rfl ?_;let:=Zl<|Vc g ?_;rw[ZJ<|by rw[show(EJ "tuple"==EJ "tuple")=true by lk,Bool.or_true]];let#[o,i,p,m,hd]:=d;let:=Zl<|wpAny_listItems i hd ?_;let:=Zl<|wpAny_listItems hl rfl ?_;rw[ZI e];let:=Zl (Uq hl rfl ?_ f<|by rwa[Array.size_append]);let:=Zw #[_,rfl,h]
section
variable {X:Cx}
def P6 (K:Co):V->Di->Hp->VK->Prop:=λx e H Q=>∃l b c d,x=.ref l/\e=[.ref b]/\H l=some (.lst c)/\yh K H b d/\c.length+d.length<=sizeLine/\Q .non (upd H l<|.lst<|c++d)
theorem vS:WD X "list.extend" (P6 X.K):=by
 intro C s M H x G v E Q I B A h;let#[l,b,J,L,rfl,rfl,g,o,D,q]:=h;cases B;let#[u,rfl,y]:=A.one;cases y;let#[z,d,n,r,hl,e]:=I.pI g;let#[c,i,w,t]:=I.tuple o;have p:=i.length;have f:d.toArray.size+c.toArray.size<=sizeLine:=by rw[ZF,ZF];lia
 have j:¬(!d.toArray.isEmpty&&EU (d.toArray.size+c.toArray.size))=true:=by
  rw[IX f,Vt];let:=Z7
 let:=JB F.slot_list_extend #[_,e,rfl] F.entry_list_extend (F.args_list_extend_2 _ _)
  (GL l b d.toArray n c.toArray j (by rw[ZF];lia)<|⋯) #[e,w,?_]
 let:=#[.non,_,I.jr (DD:=d++c) g e (by simp) (r.append i) ?_,rfl,q];rw[Zq];lia
end
theorem pL.mk' {K:Co}{st:EF}(F:xj K x qual st f fd)(G:zc P w K mg base (CI P w) k f fd ps sp)(c:mg x=some (.ref f))
  (b:wW K fd ps []):pL P w K mg base k x ps sp:=#[f,fd,G,c,F.kp,b]
instance:DecidableEq PyData:=λa b=>decidable_of_iff _<|same_iff (a:=a) (b:=b)
mutual
def U2:Eg->Bool
 | .str x=>Ei x
 | .tuple ds=>xF ds
 | .none=>true
 |_=>false
def xF:De->Bool
 |[]=>true
 |d::ds=>U2 d&&xF ds
end
mutual
def GD:Eg->Nat
 | .tuple ds=>qE ds+1
 |_=>0
def qE:De->Nat
 |[]=>0
 |d::ds=>max (GD d)<|qE ds
end
mutual
def pD (h:Es):Eg->D9->Prop
 | .str x,v=>∃t,v=.str x t
 | .tuple ds,v=>∃a o b n,v=.ref a/\h.get? a=some o/\o.cls=.type "tuple"/\o.data=.seq b n/\wF h ds b.toList
 | .none,v=>v=.none
 |_,_=>False
def wF (h:Es):De->Da->Prop
 |[],vs=>vs=[]
 |d::ds,vs=>∃v r,vs=v::r/\pD h d v/\wF h ds r
end
mutual
def U7 (w:Ef):Eg->Int
 | .str x=>hashStr w x
 | .tuple ds=>reduceHash<|EN<|Xp w ds
 | .none=>reduceHash 0xFCA86420
 |_=>0
def Xp (w:Ef):De->List Int
 |[]=>[]
 |d::ds=>U7 w d::Xp w ds
end
mutual
def Bf:Eg->Nat
 | .tuple ds=>xG ds+1
 |_=>1
def xG:De->Nat
 |[]=>0
 |d::ds=>Bf d+xG ds
end
theorem Gw (w:Ef):∀ds,Xp w ds=ds.map (U7 w)
 |[]=>rfl
 |d::ds=>by rw[Xp,Gw w ds];rfl
theorem XU:∀(a b:De),xG (a++b)=xG a+xG b
 |[],b=>by simp[xG]
 |d::a,b=>by
  show Bf d+xG (a++b)=(Bf d+xG a)+xG b;rw[XU a b];lia
mutual
theorem pD.xx:∀(d:Eg) (v:D9),pD h d v->∃as,Reads h v d as
 | .str x,_,⟨t,e⟩=>by subst e;let:=#[_,.str x t]
 | .tuple ds,_,⟨a,o,vs,n,e,h1,h2,h3,h4⟩=>by
  subst e;let#[as,q]:=wF.xx ds vs.toList h4;let:=#[_,.tuple h1 h2 h3 q]
 | .none,_,e=>by cases(show _=EB from e);let:=#[_,.none]
 | .bool _,_,q=>q.elim
 | .int _,_,q=>q.elim
 | .list _,_,q=>q.elim
 | .dict _,_,q=>q.elim
theorem wF.xx:∀(ds:De) (vs:Da),wF h ds vs->∃as,LL h vs ds as
 |[],vs,e=>by cases(show vs=[] from e);let:=#[_,.nil]
 |d::ds,_,⟨v,r,e,h1,h2⟩=>by
  subst e;let#[as,q]:=pD.xx d v h1;let#[bs,b]:=wF.xx ds r h2;let:=#[_,.cons q b]
end
mutual
theorem pD.inj:∀(d e:Eg) (v:D9),pD h d v->pD h e v->d=e
 | .str x,e,v,⟨t,h1⟩,h2=>by
  subst h1;cases e with
  |str y=>let#[g,q]:=h2;cases q;rfl
  |tuple ds=>let#[a,o,b,n,q,_]:=h2;cases q
  |none=>cases(show _=EB from h2)
  |bool _=>let:=h2.elim
  |int _=>let:=h2.elim
  |list _=>let:=h2.elim
  |dict _=>let:=h2.elim
 | .tuple ds,e,v,⟨a,o,b,n,h1,h3,h4,h5,h6⟩,h2=>by
  subst h1;cases e with
  |str y=>let#[g,q]:=h2;cases q
  |tuple es =>
   let#[l,r,j,p,q,c,s,f,i]:=h2;cases q;rw[h3]at c;cases c;rw[h5]at f;cases f;rw[wF.inj ds es b.toList h6 i]
  |none=>cases(show _=EB from h2)
  |bool _=>let:=h2.elim
  |int _=>let:=h2.elim
  |list _=>let:=h2.elim
  |dict _=>let:=h2.elim
 | .none,e,v,h1,h2=>by
  cases(show v=EB from h1);cases e with
  |str y=>let#[g,q]:=h2;cases q
  |tuple es=>let#[a,o,b,n,q,_]:=h2;cases q
  |none=>rfl
  |bool _=>let:=h2.elim
  |int _=>let:=h2.elim
  |list _=>let:=h2.elim
  |dict _=>let:=h2.elim
 | .bool _,_,_,q,_=>q.elim
 | .int _,_,_,q,_=>q.elim
 | .list _,_,_,q,_=>q.elim
 | .dict _,_,_,q,_=>q.elim
theorem wF.inj:∀(ds es:De) (vs:Da),wF h ds vs->wF h es vs->ds=es
 |[],[],_,_,_=>rfl
 |[],e::es,vs,h1,⟨v,r,q,_⟩=>by rw[show vs=[] from h1]at q;cases q
 |d::ds,[],vs,⟨v,r,q,_⟩,h2=>by rw[show vs=[] from h2]at q;cases q
 |d::ds,e::es,_,⟨v,r,h1,h3,h4⟩,⟨v',r',q1,q3,q4⟩=>by
  subst h1;injection q1 with b c;subst b c;rw[pD.inj d e v h3 q3,wF.inj ds es r h4 q4]
end
mutual
theorem pD.keeps {h h':Es}{dd:D8}{f:Obj}{i:Array LU}{g:Nat}(b:h.get? dd=some f)(hd:f.data=.dict i g)(c:E4 dd h h'):∀(d:Eg) (v:D9),pD h d v->pD h' d v
 | .str x,_,q=>q
 | .tuple ds,_,⟨a,o,vs,n,e,h1,h2,h3,h4⟩=>by
  have ne:a≠dd:=λz=>by
   subst z;rw[h1]at b;cases b;rw[h3]at hd;cases hd
  let:=#[a,o,vs,n,e,(c.2 a ne).trans h1,h2,h3,wF.keeps b hd c ds vs.toList h4]
 | .none,_,q=>q
 | .bool _,_,q=>q.elim
 | .int _,_,q=>q.elim
 | .list _,_,q=>q.elim
 | .dict _,_,q=>q.elim
theorem wF.keeps {h h':Es}{dd:D8}{f:Obj}{i:Array LU}{g:Nat}(b:h.get? dd=some f)(hd:f.data=.dict i g)(c:E4 dd h h'):∀(ds:De) (vs:Da),wF h ds vs->wF h' ds vs
 |[],_,q=>q
 |d::ds,_,⟨v,r,e,h1,h2⟩=>#[v,r,e,pD.keeps b hd c d v h1,wF.keeps b hd c ds r h2]
end
section
variable {prog:Ea}{w:Ef}
def B7 (prog:Ea)(w:Ef)(d:Eg):Prop:=∀(A:Ez) (E:D9->Dg) (s:Eb) (v:D9) (Q:Int->Dg),A.units+GD d<Lc->pD s.heap d v->Q (U7 w d) { s with toks:=s.toks+Bf d }->Eh (Ej prog w) A (pyHash v) Q E s
theorem B2:∀{ds:De} {d:Eg},d∈ds->GD d<=qE ds
 |[],_,h=>nomatch h
 |e::ds,d,h=>by
  show GD d<=max (GD e) (qE ds)
  rcases Zx.mp h with rfl|h
  .lia
  .have:=B2 h;lia
theorem KO {g:De}(N:∀d∈g,B7 prog w d):B7 prog w (.tuple g):=by
 intro A E s v Q L j h;let#[a,o,items,n,rfl,z,I,hd,K]:=j;have t:A.units<cLine:=⋯
 have l:s.TypeIs (.ref a) "tuple":=#[o,z,I];have M:A.units+(qE g+1)<cLine:=L;unfold pyHash
 first|unfold pyHashByItsType|skip
 first|let:=Zl (wpAny_cRoomFor_or (.inr t) ?_)|skip
 let:=Zl<|JR l F.slot_tuple_hash.lookup ?_;rw[ZI (by rw[beq_builtin_none];let:=Z7)];let:=Zl<|JR l F.slot_tuple_hash.lookup ?_;let:=Zl<|wpAny_callSpecialIfBoundUnlessNone?_slot l F.slot_tuple_hash<|Yr F.slot_tuple_hash l F.entry_tuple_hash ?_<|F.args_tuple_hash_1 _;show Eh _ _ (LD (.ref a)>>=_) _ _ s;let:=Zl<|Ub z hd ?_;let:=Zl ?_;rw[<-Array.forIn_toList];let:=Uu _
  (λf (b:Array Int) u=>∃done left,g=done++left/\wF s.heap left f/\b.toList=done.map (U7 w)/\u={ s with toks:=s.toks+xG done })
  _ ?_ ?_ _ _ #[[],g,rfl,K,rfl,by simp[xG]]
 .rintro x f b u ⟨done,left,e,hl,q,rfl⟩;cases left with
  |nil=>cases(show x::f=[] from hl)
  |cons d left =>
   let#[v,r,p,G,H]:=hl;injection p with C D;subst C D;have y:d∈g:=by rw[e];simp
   have J:=B2 y;have B:∃c i,g=c++i/\wF s.heap i f/\(b.push<|U7 w d).toList=c.map (U7 w)/\({ s with toks:=s.toks+xG done+Bf d }:Eb)={ s with toks:=s.toks+xG c } :=
    #[done++[d],left,by simp[e],H,by simp[q],by rw[XU];simp[xG,Nat.add_assoc]]
   let:=Zl (N d y A.in1 _ _ _ _ (by show A.units+1+GD d<Lc;lia) G ?_)
   first
    |let:=Zw B
    |let:=Zl (Zw<|Zw B)
 .rintro b u ⟨done,left,e,hl,q,rfl⟩;cases left with
  |cons d left=>let#[v,r,p,_]:=hl;cases p
  |nil =>
   rw[ZW]at e;subst e;show Eh _ _ (retInt<|EN b.toList) _ _ _;rw[q];have h:Q (reduceHash<|EN<|Xp w g) { s with toks:=s.toks+(xG g+1) }:=h;rw[Gw]at h;let:=wpAny_ret_mkInt ?_;show Eh _ _ (if(decide (-(2:Int) ^ 63<=EN (g.map<|U7 w))&&decide (EN (g.map<|U7 w)<2 ^ 63))=true then _ else _) Q E _;unfold reduceHash at h
   by_cases j:(decide (-(2:Int) ^ 63<=EN (g.map<|U7 w))&&decide (EN (g.map<|U7 w)<2 ^ 63))=true
   .rw[ZJ j];rw[ZJ j]at h;let:=Zw (by simpa[Nat.add_assoc] using h)
   .rw[ZI j];rw[ZI j]at h;let:=Zl (Vu<|Zw<|by simpa[Nat.add_assoc] using h)
mutual
theorem M4:∀d:Eg,B7 prog w d
 | .str x=>λA E s v Q _ b h=>by
  let#[t,rfl]:=b;let:=(strKind prog w).pyHash (by show E3 x (.str x t)=true;simp[E3]) h
 | .tuple ds=>KO<|Hc ds
 | .none=>λA E s v Q c b h=>by
  cases(show v=EB from b);let:=PySem.W.pyHash_slot rfl F.slot_NoneType_hash F.entry_NoneType_hash (F.args_NoneType_hash_1 _) (beq_builtin_none _) (.inr<|⋯)<|Zl<|Zw<|Zl<|wpAny_mkInt<|Zw #[_,_,rfl,h]
 | .bool _=>λ_ _ _ _ _ _ b _=>b.elim
 | .int _=>λ_ _ _ _ _ _ b _=>b.elim
 | .list _=>λ_ _ _ _ _ _ b _=>b.elim
 | .dict _=>λ_ _ _ _ _ _ b _=>b.elim
theorem Hc:∀ds:De,∀d∈ds,B7 prog w d
 |[],_,h=>nomatch h
 |e::ds,d,h=>(Zx.mp h).elim (λz=>z▸M4 e)<|Hc ds d
end
mutual
theorem M3:∀(d e:Eg),U2 d=true->U2 e=true->EG d e=decide (d=e)
 | .str x,.str y,_,_=>by
  show(x==y)=_;rw[YY];simp
 | .str _,.tuple _,_,_=>by rw[ZE<|by simp];rfl
 | .tuple _,.str _,_,_=>by rw[ZE<|by simp];rfl
 | .tuple ds,.tuple es,h1,h2=>by
  show EV ds es=_;rw[FZ ds es h1 h2];let:=Vx.mpr (by simp)
 | .none,.none,_,_=>rfl
 | .none,.str _,_,_=>by rw[ZE<|by simp];rfl
 | .none,.tuple _,_,_=>by rw[ZE<|by simp];rfl
 | .none,.bool _,_,h=>by cases h
 | .none,.int _,_,h=>by cases h
 | .none,.list _,_,h=>by cases h
 | .none,.dict _,_,h=>by cases h
 | .bool _,_,h,_=>by cases h
 | .int _,_,h,_=>by cases h
 | .list _,_,h,_=>by cases h
 | .dict _,_,h,_=>by cases h
 | .str _,.none,_,_=>by rw[ZE<|by simp];rfl
 | .str _,.bool _,_,h=>by cases h
 | .str _,.int _,_,h=>by cases h
 | .str _,.list _,_,h=>by cases h
 | .str _,.dict _,_,h=>by cases h
 | .tuple _,.none,_,_=>by rw[ZE<|by simp];rfl
 | .tuple _,.bool _,_,h=>by cases h
 | .tuple _,.int _,_,h=>by cases h
 | .tuple _,.list _,_,h=>by cases h
 | .tuple _,.dict _,_,h=>by cases h
theorem FZ:∀(ds es:De),xF ds=true->xF es=true->EV ds es=decide (ds=es)
 |[],[],_,_=>rfl
 |[],_::_,_,_=>rfl
 |_::_,[],_,_=>rfl
 |d::ds,e::es,b,c=>by
  have b:(U2 d&&xF ds)=true:=b;have c:(U2 e&&xF es)=true:=c;rw[ZB]at b c;show(EG d e&&EV ds es)=_;rw[M3 d e b.1 c.1,FZ ds es b.2 c.2,<-Bool.decide_and];let:=Vx.mpr (by simp)
end
mutual
theorem FB:∀d:Eg,U2 d=true->d.canLay0=true/\d.depth<=GD d
 | .str x,h=>#[h,Zn _]
 | .tuple ds,h=>by
  let#[b,c]:=Kr ds h;let:=#[b,?_];show EA ds+1<=qE ds+1;lia
 | .none,_=>#[rfl,Zn _]
 | .bool _,h=>by cases h
 | .int _,h=>by cases h
 | .list _,h=>by cases h
 | .dict _,h=>by cases h
theorem Kr:∀ds:De,xF ds=true->El ds=true/\EA ds<=qE ds
 |[],_=>#[rfl,Zn _]
 |d::ds,h=>by
  have h:(U2 d&&xF ds)=true:=h;rw[ZB]at h;let#[b,e]:=FB d h.1;let#[c,f]:=Kr ds h.2;let:=#[?_,?_]
  .show(d.canLay0&&El ds)=true;rw[b,c];rfl
  .show max d.depth (EA ds)<=max (GD d) (qE ds);lia
end
def Ik (prog:Ea)(w:Ef)(d:Eg):Prop:=∀(A:Ez) (E:D9->Dg) (s:Eb) (v:D9) (n:Nat) (Q:Bool->Dg),GD d<=n->pD s.heap d v->Q true s->Eh (Ej prog w) A (eqIsQuiet n v) Q E s
theorem HW {c:De}(I:∀d∈c,Ik prog w d):Ik prog w (.tuple c):=by
 intro A E s v n Q p g h;let#[a,o,items,m,rfl,q,D,hd,H]:=g;have j:s.TypeIs (.ref a) "tuple":=#[o,q,D];have p:qE c+1<=n:=p;let#[n,rfl]:∃k,n=k+1:=#[n-1,⋯];unfold eqIsQuiet;let:=Zl<|JR j F.slot_tuple_eq.lookup ?_;let:=Zl<|J6 j isSubtype_tuple_tuple ?_;simp only[Um,Jb,Vs];let:=Zl<|wpAny_seqItems q hd ?_;let:=Zl ?_;rw[<-Array.forIn_toList];let:=Uu _ (λb r i=>r.1=none/\i=s/\∃left,(∀d∈left,d∈c)/\wF s.heap left b) _ ?_ ?_ _ _ #[rfl,rfl,c,λ_ z=>z,H]
 .rintro v b r i ⟨g,rfl,left,l,hl⟩;cases left with
  |nil=>cases(show v::b=[] from hl)
  |cons d left =>
   let#[M,J,y,B,C]:=hl;injection y with t u;subst t u;have f:=l d Zt;have:=B2 f;let:=Zl (I d f A _ i _ n _ ⋯ B ?_);simp only[Um,Jb,Vs];let:=Zw #[rfl,rfl,left,λe G=>l e<|Zp _ G,C]
 .rintro⟨K,L⟩ i ⟨g,rfl,_⟩;simp only at g;subst g;let:=Zw h
mutual
theorem HV:∀d:Eg,Ik prog w d
 | .str x=>λA E s v n Q _ b h=>by
  let#[t,rfl]:=b;rw[eqIsQuiet_byValue _<|by rfl];let:=Zw h
 | .tuple ds=>HW<|GU ds
 | .none=>λA E s v n Q _ b h=>by
  cases(show v=EB from b);rw[eqIsQuiet_byValue _<|by rfl];let:=Zw h
 | .bool _=>λ_ _ _ _ _ _ _ b _=>b.elim
 | .int _=>λ_ _ _ _ _ _ _ b _=>b.elim
 | .list _=>λ_ _ _ _ _ _ _ b _=>b.elim
 | .dict _=>λ_ _ _ _ _ _ _ b _=>b.elim
theorem GU:∀ds:De,∀d∈ds,Ik prog w d
 |[],_,h=>nomatch h
 |e::ds,d,h=>(Zx.mp h).elim (λz=>z▸HV e)<|GU ds d
end
def yY (prog:Ea)(w:Ef):HeapKind prog w Eg where
 is:=λh d a=>pD h d (.ref a)/\U2 d=true/\GD d<=6
 hash:=U7 w
 draws:=Bf
 room:=λA=>A.units+8<Lc
 inj:=λc g=>pD.inj _ _ _ c.1 g.1
 keeps:=λx j hd l=>#[pD.keeps j hd l _ _ x.1,x.2]
 pyHash:=λn f h=>M4 _ _ _ _ _ _ (by have:=f.2.2;lia) f.1 h
 eqBool:=λ{A E s x y a b Q} n c g h=>by
  let#[i,q]:=pD.xx _ _ c.1;let#[bs,r]:=pD.xx _ _ g.1;let#[o,t]:=FB _ c.2.1;let#[p,u]:=FB _ g.2.1;have e:=SeqAt.eqAt_reads x y A s _ _ i bs q r o p (by have:=c.2.2;lia);rw[M3 _ _ c.2.1 g.2.1]at e;let:=e prog w E Q h
 quiet:=λf h=>HV _ _ _ _ _ _ _ (by have:=f.2.2;lia) f.1 h
end
def BZ (d:D8)(c:List LU):HO:=.ext λh=>∃o b,h.get? d=some o/\o.ExactDict/\o.data=.dict c.toArray b/\(d==EO)=false
theorem No {h:Es}{d:D8}{e:List LU}{o:Obj}{c:Nat}(f:h.get? d=some o)(i:o.ExactDict)(j:o.data=.dict e.toArray c)(l:(d==EO)=false):yq P w H h d (BZ d e) :=
 #[#[o,c,f,i,j,l],#[o,f],λ_ _ ⟨g,b,n,p⟩ k=>#[g,b,k g n,p]]
mutual
theorem Dt.other {K:Co}(n:∀xs,¬Rd H d (.tup xs)):∀(k:Eg) (v:V),U2 k=true->Dt K H k v->Dt K (upd H d o) k v
 | .str x,_,_,h=>h
 | .tuple ds,_,t,⟨a,xs,h1,b,h3⟩=>by
  let:=#[a,xs,h1,?_,zy.other n ds xs t h3]
  rcases b with b|b
  .have ne:a≠d:=λz=>n xs<|z▸b
   left
   unfold Rd;rwa[zH ne]
  .let:=.inr b
 | .none,_,_,h=>h
 | .bool _,_,t,_=>by cases t
 | .int _,_,t,_=>by cases t
 | .list _,_,t,_=>by cases t
 | .dict _,_,t,_=>by cases t
theorem zy.other {K:Co}(n:∀xs,¬Rd H d (.tup xs)):∀(ks:De) (vs:Di),xF ks=true->zy K H ks vs->zy K (upd H d o) ks vs
 |[],_,_,h=>h
 |k::ks,_,t,⟨x,r,h1,h2,h3⟩=>by
  have t:(U2 k&&xF ks)=true:=t;rw[ZB]at t;let:=#[x,r,h1,Dt.other n k x t.1 h2,zy.other n ks r t.2 h3]
end
section
variable {X:Cx}{Dn:Dd}{σ:St}{H:Hp}{s:Eb}
mutual
theorem Dt.gM (I:Inv X Dn σ H s):∀(d:Eg) (v:V) (u:D9),U2 d=true->Dt X.K H d v->yt v u->pD s.heap d u
 | .str x,_,u,_,h,r=>by
  cases(show _=V.str x from h);let:=r
 | .tuple ds,_,u,t,⟨a,xs,h1,h2,h3⟩,r=>by
  subst h1;cases(show u=Em a from r);let#[b,f,#[o,e,c,n,d],_]:=I.tuple h2;let:=#[a,o,b.toArray,n,rfl,e,c,d,by simpa using zy.gM I ds xs b t h3 f]
 | .none,_,u,_,h,r=>by cases(show _=V.non from h);let:=r
 | .bool _,_,_,t,_,_=>by cases t
 | .int _,_,_,t,_,_=>by cases t
 | .list _,_,_,t,_,_=>by cases t
 | .dict _,_,_,t,_,_=>by cases t
theorem zy.gM (I:Inv X Dn σ H s):∀(ds:De) (xs:Di) (us:Da),xF ds=true->zy X.K H ds xs->zb xs us->wF s.heap ds us
 |[],_,us,_,h,r=>by
  cases(show _=[] from h);cases r;let:=rfl
 |d::ds,_,us,t,⟨x,r,h1,h2,h3⟩,rv=>by
  have t:(U2 d&&xF ds)=true:=t;rw[ZB]at t;subst h1;cases rv with
  |cons r1 r2=>let:=#[_,_,rfl,Dt.gM I d x _ t.1 h2 r1,zy.gM I ds r _ t.2 h3 r2]
end
def Xw (k:Eg):Prop:=U2 k=true/\GD k<=6
def wB (K:Co)(H:Hp)(p:Eg×V)(q:Eg×D8×D9):Prop:=p.1=q.1/\Dt K H p.1 (.ref q.2.1)/\yt p.2 q.2.2
def lA (P:Ea)(w:Ef)(K:Co)(H:Hp)(d:D8)(ps:List<|Eg×V):Prop :=
 ps.length<=10000/\(∀p∈ps,Xw p.1)/\(ps.map (·.1)).Nodup/\∃b:List<|Eg×D8×D9,H d=some (BZ d<|b.map<|L1<|yY P w)/\E7 (wB K H) ps b
theorem wB.keys {K:Co}:∀{ps:List (Eg×V)} {xs:List (Eg×D8×D9)},E7 (wB K H) ps xs->xs.map (·.1)=ps.map (·.1)
 |_,_,.nil=>rfl
 |_,_,.cons r t=>by rw[ZR,ZR,wB.keys t,r.1]
theorem wB.at {K:Co}{k:Eg}:∀{ps:List (Eg×V)} {xs:List (Eg×D8×D9)},E7 (wB K H) ps xs->(atKey xs k=none/\UH ps k=none)\/∃p v,atKey xs k=some p/\UH ps k=some v/\yt v p.2
 |_,_,.nil=>.inl #[rfl,rfl]
 |p::ps,q::xs,.cons r t=>by
  unfold atKey UH;rw[Jl,Jl];have e:=r.1
  by_cases h:q.1=k
  .rw[Zm h,Zm<|show p.1=k by rwa[e]];let:=.inr #[q.2,p.2,rfl,rfl,r.2.2]
  .rw[ZE h,ZE<|show¬p.1=k by rwa[e]];let:=wB.at t
theorem wB.is (I:Inv X Dn σ H s):∀{ps:List (Eg×V)} {xs:List (Eg×D8×D9)},(∀p∈ps,Xw p.1)->E7 (wB X.K H) ps xs->∀x∈xs,(yY X.prog X.w).is s.heap x.1 x.2.1
 |_,_,_,.nil,x,h=>nomatch h
 |p::ps,q::xs,hk,.cons r t,x,h=>by
  rcases Zx.mp h with rfl|h
  .let#[k1,k2]:=hk p Zt;rw[<-r.1];let:=#[Dt.gM I _ _ _ k1 r.2.1 rfl,k1,k2]
  .let:=wB.is I (λp b=>hk p<|Zp _ b) t x h
theorem lA.heap (I:Inv X Dn σ H s)(T:lA X.prog X.w X.K H d ps):∃xs,H d=some (BZ d<|xs.map<|L1<|yY X.prog X.w)/\E7 (wB X.K H) ps xs/\s.heap.DictOfH (yY X.prog X.w) d xs/\(d==EO)=false:=by
 let#[hl,i,nd,xs,e,r]:=T;let#[#[o,b,c,f,g,h],_]:(∃o b,s.heap.get? d=some o/\o.ExactDict/\o.data=.dict (xs.map<|L1<|yY X.prog X.w).toArray b/\(d==EO)=false)/\_:=I.hok d _ e;let:=#[xs,e,r,#[o,_,b,c,f,g,by simp,wB.is I i r,by rw[wB.keys r];let:=nd],h]
theorem Re {A:Ez}(b:A.units+64<Lc)(prog:Ea)(w:Ef):(yY prog w).room A.in1:=by
 show A.units+1+8<Lc;lia
theorem key_is (I:Inv X Dn σ H s){k:Eg}{a:D8}(b:Xw k)(h:Dt X.K H k<|.ref a):(yY X.prog X.w).is s.heap k a:=#[Dt.gM I _ _ _ b.1 h rfl,b]
end
section
variable {X:Cx}{K:Co}
def bt (P:Ea)(w:Ef)(K:Co):R2:=λy x H Q=>∃a d b k,y=.ref a/\x=.ref d/\lA P w K H d b/\Xw k/\Dt K H k (.ref a)/\Q (.bl (UH b k).isSome) H
theorem TX (f:X.A.units+64<Lc):CH X (EH .In) (bt X.prog X.w X.K):=by
 intro j s o H y x v u Q I i g h;let#[a,d,l,k,rfl,rfl,T,e,c,q]:=h;cases i;cases g;let#[n,_,r,b,hd]:=T.heap I;let:=wpAny_in_heap (Re f _ _) (key_is I e c) hd b #[.bl _,H,I.tok _,?_,q]
 rcases wB.at r with⟨e1,e2⟩|⟨p,v,e1,e2,_⟩
 .rw[e1,e2];rfl
 .rw[e1,e2];rfl
def au (P:Ea)(w:Ef)(K:Co)(g ty:TE):TE:=λe H Q=>g e H λx f=>ty e f λy b=>∃a d c k v,x=.ref d/\y=.ref a/\lA P w K b d c/\Xw k/\Dt K b k (.ref a)/\UH c k=some v/\Q v b
theorem Sh {pos:Pos}(E:X.A.units+64<Lc)(C:PE X o td)(z:PE X i ty)(D:RC i):PE X (.Subscript o i pos) (au X.prog X.w X.K td ty):=by
 intro c s g H Q I h;let:=B1 PySem.F.slot_dict_getitem.lookup D<|Ct (C c s g H _ I h) λu O ⟨x,j,n,M,J⟩=>Ct (z c O g j _ n J) λG S P=>?_;let#[y,l,b,N,a,d,R,k,v,ex,q,T,B,t,f,L]:=P;subst ex q;obtain rfl:u=Em d:=M;obtain rfl:G=Em a:=N;let#[U,_,r,e,hd]:=T.heap b;let:=#[e.typeIs,?_]
 rcases wB.at r with⟨e1,e2⟩|⟨p,v',e1,e2,rv⟩
 .rw[f]at e2;cases e2
 .rw[f]at e2;cases e2;let:=wpAny_getItem_heap (Re E _ _) (key_is b B t) e e1 #[v,l,b.tok _,rv,L]
def ad (P:Ea)(w:Ef)(K:Co)(i ty j:TE):TS:=λD c H=>j c H λv f=>i c f λx g=>ty c g λy b=>∃a d e k,x=.ref d/\y=.ref a/\lA P w K b d e/\e.length<10000/\Xw k/\Dt K b k (.ref a) /\
 ∀o,lA P w K (upd b d o) d (yp e k v)->(∃h,o=BZ d h)->D.nx c (upd b d o)
theorem uV {b c:Type}{F:b->c->Prop}:∀{l l':List b} {m m':List c},E7 F l m->E7 F l' m'->E7 F (l++l') (m++m')
 |_,_,_,_,.nil,h=>h
 |_,_,_,_,.cons r t,h=>.cons r<|uV t h
theorem wB.repl {K:Co}{k:Eg}(b:yt v u):∀{ps:List (Eg×V)} {xs:List (Eg×D8×D9)},E7 (wB K H) ps xs->E7 (wB K H) (ps.map λp=>if p.1=k then(p.1,v) else p) (xs.map<|putAt k u)
 |_,_,.nil=>.nil
 |p::ps,q::xs,.cons r t=>by
  rw[ZR,ZR];let:=.cons ?_<|wB.repl b t;have e:=r.1;unfold putAt
  by_cases h:q.1=k
  .rw[ZJ h,ZJ<|show p.1=k by rwa[e]];let:=#[r.1,r.2.1,b]
  .rw[ZI h,ZI<|show¬p.1=k by rwa[e]];let:=r
theorem wB.put {K:Co}{a:D8}{ps:List (Eg×V)}{xs:List (Eg×D8×D9)}(r:E7 (wB K H) ps xs)(g:Dt K H k<|.ref a)(f:yt v u):E7 (wB K H) (yp ps k v) (storedH xs k a u):=by
 have e:(ps.any λb=>decide (b.1=k))=(atKey xs k).isSome:=by
  rcases wB.at r with⟨e1,e2⟩|⟨p,v',e1,e2,_⟩
  .rw[e1];let:=JT.mpr λz=>?_;let#[b,d,c]:=YB.mp z;let:=Xv e2<|Zo.mpr #[b,d,ZA c]
  .let#[b,d,c]:=Zo.mp<|k8 e2;rw[e1,YB.mpr #[b,d,Zm c]];rfl
 unfold yp storedH;rw[e]
 split
 .let:=wB.repl f r
 .let:=uV r (.cons #[rfl,g,f] .nil)
theorem P4 {ps:List (Eg×V)}(h:∀p∈ps,Xw p.1)(d:Xw k):∀p∈yp ps k v,Xw p.1:=by
 unfold yp
 split
 .intro p b;let#[q,c,rfl]:=Zo.mp b
  split
  .let:=h q c
  .let:=h q c
 .intro p b
  rcases ZD.mp b with b|b
  .let:=h p b
  .rwa[Zk.mp b]
theorem Sr {ps:List (Eg×V)}(h:(ps.map (·.1)).Nodup):((yp ps k v).map (·.1)).Nodup:=by
 unfold yp
 split
 .have e:(ps.map λb=>if b.1=k then(b.1,v) else b).map (·.1)=ps.map (·.1):=by
   rw[ZK];let:=Yw λp _=>?_;show(if p.1=k then(p.1,v) else p).1=p.1
   split<;>rfl
  rwa[e]
 .rename_i c;rw[Zu];let:=jN h λz=>c ?_;let#[p,d,e]:=Zo.mp z;let:=YB.mpr #[p,d,Zm e]
theorem Sk {pos F:Pos}(hu:X.A.units+64<Lc)(ho:PE X o td)(hi:PE X i ty)(hv:PE X value tv)(hs:L4 value (some<|.Subscript o i F) pos.line X.env=Le false) :
  PS X (.Assign [.Subscript o i F] value pos) (ad X.prog X.w X.K td ty tv):=by
 intro n s l H D I h;let:=wpAny_Assign_Subscript (Ct (hv n s l H _ I h) λr s1 ⟨v,N,P,rv,q1⟩=>Ct (ho n s1 l N _ P q1) λu s2 ⟨x,O,Q,rx,q2⟩=>Ct (hi n s2 l O _ Q q2) λiv s3 zq=>?_) hs;let#[y,f,q,ry,a,d,c,k,ex,Y,T,hl,C,J,q3]:=zq;subst ex Y;obtain rfl:u=Em d:=rx;obtain rfl:iv=Em a:=ry;let#[b,e,j,S,hd]:=T.heap q;have hz:b.length<=sizeLine:=by rw[<-Paired.length j];let:=An.zu ⋯
 let:=wpAny_setItem_heap (Re hu _ _) (key_is q C J) S λh' t E=>?_;let#[M,es,U,G,Z,g3,g4,_,_]:=t;have B:M.data=.dict ((storedH b k a r).map<|L1<|yY X.prog X.w).toArray U:=by rw[g3,<-g4]
 have mu:S8 (f d):=by rw[e];let:=Ld
 have R:=CV (t':=s3.toks+(yY X.prog X.w).draws k) q mu E #[M,G]<|No G Z B hd;have L:∀b,¬Rd f d (.tup b):=λys z=>by
  rcases z with z|⟨o',z⟩
  .rw[e]at z;cases z
  .rw[e]at z;cases z
 let:=#[l,_,R,q3 _ #[?_,P4 T.2.1 C,Sr T.2.2.1,storedH b k a r,zB,?_] #[_,rfl]]
 .have:=xH c k v;lia
 .have r2:E7 (wB X.K<|upd f d<|BZ d<|(storedH b k a r).map<|L1<|yY X.prog X.w) c b:=by
   have key:∀{c:List (Eg×V)} {b:List (Eg×D8×D9)},(∀p∈c,Xw p.1)->E7 (wB X.K f) c b->∀o,E7 (wB X.K<|upd f d o) c b:=by
    intro c b g r
    induction r with
    |nil=>intro _;let:=.nil
    |cons r1 _ ih=>intro o;let:=.cons #[r1.1,Dt.other L _ _ (g _ Zt).1 r1.2.1,r1.2.2]<|ih (λp hp=>g p<|Zp _ hp) o
   let:=key T.2.1 j _
  let:=wB.put r2 (Dt.other L _ _ C.1 J) rv
theorem PN {pos:Pos}:PE X (.Dict [] [] pos) (λ_ H Q=>∀p o,H p=none->lA X.prog X.w X.K (upd H p o) p []->(∃es,o=BZ p es)->Q (.ref p) (upd H p o)):=by
 intro d s e H Q I h;have c:=I.hok.fresh<|Zn _;have b:=Y2.mpr<|Er<|ZZ I.big;let:=wpAny_Dict_empty #[.ref s.heap.objs.size,_,I.laid (t':=s.toks) (λ_ _ q=>Zr _ q) (Zn _)<|No (ZG _ rfl) #[rfl,rfl,rfl] rfl b,rfl,h _ _ c #[ZP _,λ_ z=>(nomatch z),YO,[],zB,.nil] #[_,rfl]]
end
section
variable {X:Cx}{Dn:Dd}{σ:St}{H:Hp}{s:Eb}{d:D8}{Dl:Dk}
theorem Inv.freeze (I:Inv X Dn σ H s)(e:H d=some (.dK Dl)):∃ob:Obj,Inv X Dn σ (upd H d<|.frz ob<|.dK Dl) s:=by
 let#[t,l,c,h,o,j,i,g,r,hd,n,p,f]:Dl.length<=sizeLine/\(d==EO)=false/\∃c,KV Dl c/\s.heap.DictOf (yw X.prog X.w) d c:=I.hok d _ e;let:=#[o,?_];have v:S8 (H d):=by rw[e];trivial
 let:=I.write (h':=s.heap) (t':=s.toks) v (.inl rfl) (λb u _ q=>q) #[o,g] #[g,t,l,c,h,o,j,i,g,r,hd,n,p,f]
theorem Mz {k:Key}{u:D9}(h:(yw P w).is k u=true):yt (kV k) u:=by
 cases k with
 |inl i =>
  have h:Value.isInt i u=true:=h;cases u<;>simp[Value.isInt]at h;subst h;let:=#[_,rfl]
 |inr x =>
  let#[t,rfl]:=J1<|show E3 x u=true from h;let:=#[t,rfl]
theorem uL {c b:Type}{F:c->b->Prop}:∀{l₁:List c} {l₂:List b} {i:Nat} {y:b},E7 F l₁ l₂->l₂[i]?=some y->∃x,l₁[i]?=some x/\F x y
 |_,_,_,_,.nil,h=>by cases h
 |_,_,0,_,.cons r _,h=>by cases h;let:=#[_,rfl,r]
 |_,_,i+1,_,.cons _ t,h=>by
  let#[x,d,e]:=uL t (by simpa using h);let:=#[x,by simpa using d,e]
theorem KL {g:Obj}(z:yq P w H h d<|.frz g<|.dK Dl):∃vs es ep,g.data=.dict es ep/\KV Dl vs/\h.DictAt (yw P w) d vs ep/\(d==EO)=false/\Dl.length<=sizeLine:=by
 let#[j,s,n,vs,i,o,b,e,l,r,c,p,q,f]:=z;rw[j]at l;cases l;let:=#[vs,b,e,c,i,#[g,b,j,r,c,p,q,f],n,s]
theorem Iq {f:Obj}{j:Array LU}{e:Nat}(hd:f.data=.dict j e)(z:yq P w H h d<|.frz f<|.dK Dl):∃vs,KV Dl vs/\h.DictAt (yw P w) d vs e/\(d==EO)=false:=by
 let#[vs,l,i,b,c,g,n,_]:=KL z;rw[hd]at b;cases b;let:=#[vs,c,g,n]
def aF (d:D8)(Dl:Dk)(b:Obj):It where
 go:=λi H=>H d=some (.frz b<|.dK Dl)/\i<Dl.length
 kh:=λi H x c=>c=H/\∃k v,Dl[i]?=some (k,v)/\x=kV k
 stop:=λi H=>H d=some (.frz b<|.dK Dl)/\i=Dl.length
theorem Ow {K:Co}{U:Obj}{es:Array LU}{Q:Nat}(hd:U.data=.dict es Q)(l:D8):Turn P w K tg (aF d Dl U) [l] l (λi h=>h.IsKeyIter l d i Dl.length Q) where
 mem:=by simp
 obj:=λi h st b g=>by
  have e:b=l:=by simpa using g
  subst e;let#[o,e,c,t]:=st;let:=#[o,e,λv z=>by rw[t]at z;cases z]
 keep:=λi h D st k=>by
  let#[o,e,c]:=st;let:=#[o,k l (by simp) o e,c]
 item:=by
  intro X J N G R i Dn s σ H E I q st L;subst J N G;let#[j,S]:=L;let#[p,f,r,hS]:=Iq hd<|I.hok d _ j;have hl:=Paired.length f;rw[hl]at st;have T:p[i]?=some (p[i]'⋯):=Zv ⋯;let#[u,y,f2,A,B,C]:=q l (by simp);let:=wpAny_pyNext_dict_item st r T λkey D Y n sb=>?_;have Z:Inv X Dn σ H { s with heap:=D }:=I.turned (t':=s.toks) (λb o g e=>(sb.2 b g).trans e) u y A B C;rw[<-hl]at n;let#[o,e,c,t]:=id n;have M:∃v,Dl[i]?=some ((p[i]'⋯).1,v):=by
   let#[#[k0,O],h0,F,_]:=uL f T;have F:=F;subst F;let:=#[O,h0]
  let#[O,M]:=M;let:=#[key,rfl,Gn e c t ∅ #[kV (p[i]'⋯).1,H,Z,Mz Y,#[rfl,_,O,M,rfl],n,λb g=>(q b g).1]]
 done:=by
  intro X J N G R i Dn s σ H E I q st L;subst J N G;let#[j,S]:=L;subst S;let#[p,f,r,hS]:=Iq hd<|I.hok d _ j;have hl:=Paired.length f;let#[u,y,f2,A,B,C]:=q l (by simp);rw[hl]at st;let:=wpAny_pyNext_dict_end (I.ok.hd R) st r (Z6<|⋯) λD eb=>#[rfl,I.turned (t':=s.toks) (λb o g e=>eb b o g e) u y A B C]
 self:=λ_ _ _ _ _ st h=>wpAny_pyIter_keyiter st h
def aO (d:D8)(Dl:Dk)(b:Obj):It where
 go:=λi H=>H d=some (.frz b<|.dK Dl)/\i<Dl.length
 kh:=λi H x c=>∃T k v,Dl[i]?=some (k,v)/\H T=none/\x=.ref T/\c=upd H T (.tup [kV k,v])
 stop:=λi H=>H d=some (.frz b<|.dK Dl)/\i=Dl.length
theorem MM {P:Ea}{w:Ef}{K:Co}{l:List EE} {x1}{t:Pos}{ob:Obj}{es:Array LU}{Y:Nat}(hd:ob.data=.dict es Y)(c:D8) :
  Turn P w K (.Tuple l x1 t) (aO d Dl ob) [c] c (λi h=>∃ok ov,IsItemIter h c d i Dl.length Y ok ov) where
 mem:=by simp
 obj:=λi h st b f=>by
  have e:b=c:=by simpa using f
  subst e;let#[ok,ov,e]:=st;let:=#[_,e,λv z=>by cases z]
 keep:=λi h Z st k=>by
  let#[ok,ov,e]:=st;let:=#[ok,ov,k c (by simp) _ e]
 item:=by
  intro X J N G hc i Dn s σ H E I A st M;subst J N G;let#[j,hi]:=M;let#[R,g,C,hS]:=Iq hd<|I.hok d _ j;have hl:=Paired.length g;let#[ok,ov,st]:=st;rw[hl]at st;let#[#[kk,S],hx]:∃p,R[i]?=some p:=#[_,Zv<|show i<R.length by lia];let#[#[n,B],h0,F,Q]:=uL g hx;have F:n=kk:=F;have Q:=Q;have fi:=A c (by simp);have L:=I.hok.fresh<|Zn _;have r:=ZN st;let:=wpAny_pyNext_items_item st C hx λkey Z D0 O tup sz kp=>?_;let:=#[_,rfl,wpAny_letOwnedTupleGo_items O λy U sb=>?_];have u:y.get? s.heap.objs.size=some { cls:=.type "tuple",data:=.seq #v[key,S] }:=(sb.2 _<|VH r).trans tup;have I1:Inv X Dn σ H { s with heap:=y }:=I.jy (t':=s.toks) A (λb o f q=>by
   have T:b≠c:=λz=>f (by simp[z]);let:=(sb.2 b T).trans (kp b o T q)) (λb f=>by
   have z:b=c:=by simpa using f
   subst z;let:=#[_,U])
  have D:=I.qw (Zn _) L;have new:yq X.prog X.w (upd H s.heap.objs.size<|.tup [kV n,B]) y s.heap.objs.size (.tup [kV n,B]) :=
   #[by show 2<=sizeLine;decide,[key,S],.cons (by rw[F];let:=Mz D0)<|.cons Q .nil,#[_,u,rfl,_,rfl,rfl]]
  have I2:Inv X Dn σ (upd H s.heap.objs.size<|.tup [kV n,B]) { s with heap:=y } :=
   I1.ig L (Z2 I.sz<|Zn _) D.2.1 D.2.2.2.2.1 D.2.2.2.2.2 new
  let:=#[.ref s.heap.objs.size,_,I2,rfl,#[_,n,B,h0,L,rfl,rfl],#[key,S,by rw[hl];let:=U],λb f=>?_];have z:b=c:=by simpa using f
  subst z;rw[zH<|ZZ r];let:=fi.1
 done:=by
  intro X J N G hc i Dn s σ H E I A st M;subst J N G;let#[j,hi]:=M;subst hi;let#[R,g,C,hS]:=Iq hd<|I.hok d _ j;have hl:=Paired.length g;let#[f0,f1,f2,f3,f4,f5]:=A c (by simp);let#[ok,ov,st]:=st;rw[hl]at st;let:=wpAny_pyNext_items_end (I.ok.hd hc) st C (Z6<|⋯) λZ eb=>#[rfl,I.turned (t':=s.toks) (λb o f e=>eb b o f e) f0 f1 f3 f4 f5]
 self:=λ_ _ _ _ _ st h=>by
  let#[ok,ov,st]:=st;let:=PySem.W.kcp_self st h
end
section
variable {X:Cx}{tg:EE}
def bN (t:TE):TE:=λf H Q=>t f H λv c=>∃d b,v=.ref d/\c d=some (.dK b)/\∀e,Q v<|upd c d<|.frz e<|.dK b
theorem Gm (h:PE X e t):PE X e (bN t):=by
 intro b s j H Q I q;let:=Ct (h b s j H _ I q) λv o i=>?_;let#[x,n,c,r,d,l,ex,hd,q]:=i;subst ex;let#[g,f]:=c.freeze hd;let:=#[.ref d,_,f,r,q g]
def WN (f:TE):TI:=λg H R=>f g H λv c=>∃d e b,v=.ref d/\c d=some (.frz e<|.dK b)/\R (aF d b e) c
theorem Nj (hl:PE X l tl):PI X tg l (WN tl):=by
 intro j s n H R I h;let:=Ct (hl j s n H _ I h) λv c C=>?_;let#[x,t,g,r,d,F,D,ex,hd,q]:=C;subst ex;cases r;let#[B,E,y,f,i,w,z,_]:=KL<|g.hok d _ hd;have p:=Paired.length i;let:=wpAny_pyIter_dict z w ?_;have u:Inv X j n t { c with heap:=c.heap.push { cls:=.type "dict_keyiterator",data:=.fields #v[.ref d,.int 0 0,.int B.length 0,.int y 0] } }:=g.kept (t':=c.toks) λb o e=>Zr _ e;let:=#[c.heap.objs.size,[c.heap.objs.size],_,_,_,rfl,u,Ow f _,?_,λb A=>?_,q]
 .let:=#[_,ZG _ rfl,rfl,by rw[p];rfl]
 .have e:b=c.heap.objs.size:=by simpa using A
  subst e;let:=g.qw (Zn _)<|g.hok.fresh<|Zn _
def Tr (f:TE):TI:=λg H R=>f g H λv c=>∃d e b,v=.ref d/\c d=some (.frz e<|.dK b)/\R (aO d b e) c
theorem IM {c:List EE}{i z A:Pos}(S:PE X o td)(G:Ly o "items" X.env (ER o X.env)=ER o X.env:=by rfl)(E:(z.endLine==A.line)=true:=by rfl) :
  PI X (.Tuple c x1 i) (.Call (.Attribute o "items" z) [] [] A) (Tr td):=by
 intro y s D H R I h;let:=VG G E<|Ct (S y s D H _ I h) λv g T=>?_;let#[x,K,B,r,d,ob,U,ex,hd,q]:=T;subst ex;cases r;let#[C,Y,L,f,u,n,P,_]:=KL<|B.hok d _ hd;have J:=Paired.length u;have l:=n.dictOf;let#[t,M,N,O,Z]:=id n;let:=#["dict","dict.items",F.plainAttrs_dict,LY,F.type_dict_items,l.typeIs,λb q=>by cases q;let:=#[t,N,O.2.1],La rfl<|V8 ?_];let:=Uy LY l.typeIs F.entry_dict_items (F.args_dict_items_1 _) (meets_dict_items (yw X.prog X.w) d P) #[#[C,l],?_];have j:Inv X y D K { g with heap:=g.heap.push { cls:=.type "dict_items",data:=.fields #v[.ref d] } }:=B.kept (t':=g.toks) λb o e=>Zr _ e;have p:(g.heap.push { cls:=.type "dict_items",data:=.fields #v[.ref d] }).DictAt (yw X.prog X.w) d C L:=n.at' λo e=>Zr _ e;let:=wpAny_pyIter_items #[_,ZG _ rfl,rfl,rfl] p ?_;let:=#[_,[_],_,_,_,rfl,j.kept (t':=g.toks) λb o e=>Zr _ e,MM f _,#[_,_,by rw[J];let:=ZG _ rfl],λb Q=>?_,q];have e:=Zk.mp Q;subst e;let:=j.qw (Zn _)<|j.hok.fresh<|Zn _
section
variable {d:D8}{Dl:Dk}{ob:Obj}{g:TG}{tb:TS}{D:Ends}{σ:St}{H:Hp}
theorem OW (b:Nat->St->Hp->Prop)(h:b 0 σ H)(hl:∀i σ H,i<=Dl.length->b i σ H->H d=some (.frz ob<|.dK Dl))
  (j:∀i k v σ H (E:Ends) (G:Prop),Dl[i]?=some (k,v)->Ed D (b<|i+1) E->(g (kV k) σ H (λσ2 H2=>tb E σ2 H2)->G)->b i σ H->G) (hd:∀σ H,b Dl.length σ H->D.nx σ H):Kv (aF d Dl ob) g tb D σ H :=
 BR Dl.length b h (λσ H p=>#[hl _ σ H (Zn _) p,rfl]) (λi σ H c p=>#[hl i σ H (YC c) p,c]) (λi σ H c p v n y=>by
  let#[e,k,x,l,f]:=y;subst f e;let:=j i k x σ _ _ _ l Ed.me id p) hd
theorem XF (b:Nat->St->Hp->Prop)(h:b 0 σ H)(hl:∀i σ H,i<=Dl.length->b i σ H->H d=some (.frz ob<|.dK Dl))
  (l:∀i k v T σ H (E:Ends) (G:Prop),Dl[i]?=some (k,v)->H T=none->Ed D (b<|i+1) E->(g (.ref T) σ (upd H T<|.tup [kV k,v]) (λσ2 H2=>tb E σ2 H2)->G)->b i σ H->G) (hd:∀σ H,b Dl.length σ H->D.nx σ H):Kv (aO d Dl ob) g tb D σ H :=
 BR Dl.length b h (λσ H p=>#[hl _ σ H (Zn _) p,rfl]) (λi σ H c p=>#[hl i σ H (YC c) p,c]) (λi σ H c p v o y=>by
  let#[T,k,x,n,j,f,e]:=y;subst f e;let:=l i k x T σ H _ _ n j Ed.me id p) hd
end
def bu:R2:=λy x H Q=>∃a o,x=.ref a/\wu H a y o/\Q (.bl o.isSome) H
theorem Gi (f:X.A.units+64<Lc):CH X (EH .In) bu:=by
 intro e s j H y x v u Q I d c h;let#[a,o,rfl,g,q]:=h;cases c;let:=aW ⋯ I g d λi b=>#[.bl _,H,b,rfl,q]
theorem RS {H:Hp}{a:D8}{c:Obj}{b:Dk}(e:H a=some (.frz c<|.dK b)):wu H a (kV k) (UH b k):=.inl #[b,k,.inr #[c,e],rfl,rfl]
theorem GR {b:Da}(h:KV Dl vs)(hl:b.length=vs.length)(c:∀(j:Nat) (v:D9),b[j]?=some v->∃k x,vs[j]?=some (k,x)/\(yw P w).is k v=true):zb (Dl.map λkv=>kV kv.1) b:=by
 induction h generalizing b with
 |nil =>
  cases b with
  |nil=>let:=.nil
  |cons=>cases hl
 |cons r1 r2 ih =>
  cases b with
  |nil=>cases hl
  |cons u b =>
   let#[k,x,e,f]:=c 0 u rfl;cases e;let:=.cons (show yt (kV _) u from r1.1▸Mz f) (ih (Nat.succ.inj hl) λj v d=>c (j+1) v d)
inductive iR (K:Co)(H:Hp)(kb:Dk):Dk->Bool->Prop
 |nil:iR K H kb [] true
 |miss {k:Key} {v:V} {r:Dk}:UH kb k=none->iR K H kb ((k,v)::r) false
 |hit {k:Key} {v y:V} {d e:Eg} {r:Dk} {b:Bool}:UH kb k=some y->Dt K H d v->Dt K H e y->E5 d=true->E5 e=true->iR K H kb r b->iR K H kb ((k,v)::r) (EG d e&&b)
end
structure Met (P:Ea)(w:Ef)(K:Co)(mg:Str->Db)(base:Es)(C:D8)(k:Nat)(m:Str)(ps:By)(sp:Sp):Prop where
 ex:∃(f:D8) (fd:Ee),zc P w K mg base CA k f fd ps sp/\Meth K C m f/\wW K fd ps []
structure ug (P:Ea)(w:Ef)(K:Co)(mg:Str->Db)(base:Es)(C:D8)(k:Nat)(m:Str)(ps:By)(sp:Sp):Prop where
 ex:∃(f:D8) (fd:Ee),zc P w K mg base (CI P w) k f fd ps sp/\Meth K C m f/\wW K fd ps []
inductive iB (C:D8)(m:Str)(sp:Sp)(R:St->Hp->D9->Prop)(t:TA)(σ:St)(Q:VK)(x:V)(H1:Hp):Prop
 |mk (a dx:D8) (fs:List<|Str×V) (e:x=.ref a) (h:H1 a=some (.ins C dx fs)) (n:fs.lookup m=none) (q:t σ H1 λvs H2=>sp (x::vs) H2 Q<|λcls _ H'=>R σ H' cls):iB C m sp R t σ Q x H1
def Wo (C:D8)(m:Str)(sp:Sp)(R:St->Hp->D9->Prop)(d:TE)(t:TA):TE:=λb H Q=>d b H λx c=>iB C m sp R t b Q x c
section
variable {X:Cx}{C:D8}{k:Nat}{m:Str}{ps:By}{sp:Sp}{o e:EE}{es:List EE}{ta:TE}{t:TA}{Dp pos:Pos}{R:St->Hp->D9->Prop}
theorem yK {pl:Sem Bool}(i:PE X o ta)(c:Cls X.K C)(M:Met X.prog X.w X.K X.mg X.base C k m ps sp)(l:wX k X.A)(g:PA X (e::es) t)
  (d:Eo (e::es) X.env=(false,ER e X.env)::Eo es X.env:=by rfl) (b:(E9 pos<|Eo es X.env).any (·.1)=false:=by rfl)
  (n:ER (.Call (.Attribute o m Dp) (e::es) [] pos) X.env=(do
   let ov <-ER o X.env
   standAt Dp.atName
   let (f,first) <-Mb [ov] (Mf ov m pl)
   callWith pos f first (E9 pos<|Eo (e::es) X.env) (backToKw pos<|LR [] X.env)):=by rfl) :
  PE X (.Call (.Attribute o m Dp) (e::es) [] pos) (NA C m sp [] E0 ta t):=by
 let#[f,p,F,j,h]:=M.ex;let:=Sg i c j F l h .nil HM g d b n
theorem y9 {pl:Sem Bool}(d:PE X o ta)(c:Cls X.K C)(M:Met X.prog X.w X.K X.mg X.base C k m ps sp)(g:wX k X.A)
  (h:ER (.Call (.Attribute o m Dp) [] [] pos) X.env=(do
   let ov <-ER o X.env
   standAt Dp.atName
   let (f,first) <-Mb [ov] (Mf ov m pl)
   callWith pos f first (E9 pos<|Eo [] X.env) (backToKw pos<|LR [] X.env)):=by rfl) :
  PE X (.Call (.Attribute o m Dp) [] [] pos) (NA C m sp [] E0 ta X7):=by
 let#[f,i,F,e,b]:=M.ex;let:=PP d c e F g b .nil HM h
theorem qV {pl:Sem Bool}(D:PE X o ta)(c:Cls X.K C)(M:ug X.prog X.w X.K X.mg X.base C k m ps sp)(E:wX k X.A)(J:Raises X R)(z:PA X (e::es) t)
  (d:Eo (e::es) X.env=(false,ER e X.env)::Eo es X.env:=by rfl) (b:(E9 pos<|Eo es X.env).any (·.1)=false:=by rfl)
  (G:ER (.Call (.Attribute o m Dp) (e::es) [] pos) X.env=(do
   let ov <-ER o X.env
   standAt Dp.atName
   let (f,first) <-Mb [ov] (Mf ov m pl)
   callWith pos f first (E9 pos<|Eo (e::es) X.env) (backToKw pos<|LR [] X.env)):=by rfl) :
  PE X (.Call (.Attribute o m Dp) (e::es) [] pos) (Wo C m sp R ta t):=by
 let#[f,U,F,n,B]:=M.ex;intro g s p H Q I h;let:=VQ (Ct (D g s p H _ I h) λu O P=>?_) G;let#[x,v,i,N,a,T,fs,ex,y,l,q]:=P;subst ex;obtain rfl:u=Em a:=N;let:=vE i y c n l ?_;let:=Js I.ok.mod.iV n.kp (Ct (z pos g O p v _ i q) λZ Y ⟨vs,S,j,r,L⟩=>#[j.sZ,?_]) d b;let:=Nu (vs:=.ref a::vs) F E B J j (.cons rfl r) L
end
structure fO (P:Ea)(w:Ef)(K:Co)(mg:Str->Db)(base:Es)(C:D8)(k:Nat)(x:Str)(ps:By)(sp:Sp):Prop where
 ex:∃(f:D8) (fd:Ee),zc P w K mg base CA k f fd ps sp/\Mk K C f/\wW K fd ps []/\mg x=some (.ref C)
theorem Ni {X:Cx}{e:EE}{b:List EE}{p pos:Pos}(M:fO X.prog X.w X.K X.mg X.base C k x ps sp)(n:wX (k+1) X.A)(g:PA X (e::b) t)(j:Gl X x:=by rfl)
  (c:(x==("__debug__":Str))=false:=by decide) (i:Eo (e::b) X.env=(false,ER e X.env)::Eo b X.env:=by rfl) (d:(E9 pos<|Eo b X.env).any (·.1)=false:=by rfl) :
  PE X (.Call (.Name x p) (e::b) [] pos) (S3 C sp [] E0 t):=by
 let#[f,q,F,l,h,o]:=M.ex;let:=Sf l F n j o h .nil HM g c i d
theorem CS (x:Str)(i j:Nat):An.cs (E1 x i j)=((An.cs x).take j).drop i:=by
 show(x.cps.extract i j).toList=_;rw[Array.toList_extract,List.extract_eq_drop_take,List.drop_take]
theorem X6 (x:Str)(c i:Nat)(t u:Tok)(r:List Nat)(d:EQ x #[#v[c]] 0 x.length 1=i::r)(j:x.length<=100000):Meets (Builtin.«str.partition» #[[.str x t,.str #[#v[c]] u],[]])
  (λ_ R s=>R (.ok<|.ret<|.ref s.heap.objs.size) { s with heap:=s.heap.push { cls:=.type "tuple",data:=.seq #v[.str (E1 x 0 i) s.toks,.str #[#v[c]] u,.str (E1 x (i+1) x.length)<|s.toks+1] },toks:=s.toks+1+1 }) :=
 .of_wp λprog w A R s h=>by
  let#[b,e]:=partition_tree x #[#v[c]] t u;rw[e,ZI<|show¬((#[#v[c]]:Str).length==0)=true from(by show¬(1==0)=true;decide),d];have f:(E1 x 0 i).length<=sizeLine:=by
   rw[An.yx,CS,Ym,ZL];let:=An.zu ?_;rw[<-An.yx];lia
  have g:(E1 x (i+(#[#v[c]]:Str).length) x.length).length<=sizeLine:=by
   rw[An.yx,CS,Ym,ZL];let:=An.zu ?_;rw[<-An.yx];lia
  let:=Zl<|wpAny_mkStr ?_ f;let:=Zl<|wpAny_mkStr ?_ g;let:=Zl (wpAny_newTuple ?_ (by show 3<=sizeLine;decide));let:=Zw #[_,rfl,h]
section
variable {X:Cx}
def SV:V->Di->Hp->VK->Prop:=λx b H Q=>∃(u v:Str) (c:Nat),x=.str (u++#[#v[c]]++v)/\b=[.str #[#v[c]]]/\c∉An.cs u/\(u++#[#v[c]]++v).length<=100000/\∀p,H p=none->Q (.ref p) (upd H p<|.tup [.str u,.str #[#v[c]],.str v])
theorem vV:SK X "str.partition" SV:=by
 intro y s C H x B v A Q I u p h;let#[a,b,c,rfl,rfl,n,o,q]:=h;let#[t,rfl]:=u;let#[w,rfl,t',rfl]:=wM p;have d:An.cs (a++#[#v[c]]++b)=An.cs a++c::An.cs b:=by
  rw[An.zf,An.zf];show An.cs a++[c]++An.cs b=_;simp
 have e:(An.cs<|a++#[#v[c]]++b)[(An.cs a).length]?=some c:=by rw[d];simp
 have i:∃r,EQ (a++#[#v[c]]++b) #[#v[c]] 0 (a++#[#v[c]]++b).length 1=(An.cs a).length::r:=by
  rcases StrLaws.occ_head_from (a++#[#v[c]]++b) #[#v[c]] 0 1 (Zn 1) with⟨h0,f⟩|⟨k,r,h0,hlo,hk,f⟩
  .let:=absurd ((LZ _ c _).mpr e) (f _<|ZP _)
  .have g:=(LZ _ c k).mp hk;have g:(An.cs<|a++#[#v[c]]++b)[k]?=some c:=g
   rcases VO k (An.cs a).length with z|z|z
   .rw[d,ZT z]at g;let:=absurd (Zy g) n
   .let:=#[r,by rw[h0,z]]
   .let:=absurd ((LZ _ c _).mpr e) (f _ (ZP _) z)
 let#[r,i]:=i;let:=JB F.slot_str_partition (VX s _ t) F.entry_str_partition (F.args_str_partition_2 _ _) (X6 _ c _ t t' r i o) ?_;have j:E1 (a++#[#v[c]]++b) 0 (An.cs a).length=a:=An.wO (by rw[CS,d,VN,List.take_left]);have l:E1 (a++#[#v[c]]++b) ((An.cs a).length+1) (a++#[#v[c]]++b).length=b:=An.wO (by
  rw[CS,An.yx,ZS,d];rw[show An.cs a++c::An.cs b=(An.cs a++[c])++An.cs b by simp];rw[show(An.cs a).length+1=(An.cs a++[c]).length by simp];let:=List.drop_left)
 rw[j,l];have f:=I.hok.fresh<|Zn _;let:=#[.ref s.heap.objs.size,_,I.laid (t':=s.toks+1+1) (λ_ _ q=>Zr _ q) (Zn _) ?_,rfl,q _ f];let:=#[by show 3<=sizeLine;decide,_,.cons #[_,rfl]<|.cons #[_,rfl]<|.cons #[_,rfl] .nil,#[_,ZG _ rfl,rfl,_,rfl,rfl]]
def UK (n:Nat):Str:=EL<|LB ((n:Nat):Int)
theorem NI:xf X (.type "int") (λxs H Q=>∃n:Nat,xs=[.str<|UK n]/\n<10000000000/\Q (.int n) H):=by
 intro b s e H xs d Q I r h;let#[n,rfl,c,q]:=h;let#[u,rfl,t,rfl]:=wM r;let:=PySem.W.KIN.call_num ⋯ ⋯ #[.int n,H,I.tok _,#[_,rfl],q]
def tF3 (e:TE)(y:Str)(f:TE):TE:=λb H Q=>e b H λv c=>∃x:Str,v=.str x/\x.length<=100000/\y.length<=1000/\f b c λu d=>∃n:Nat,u=.int n/\n<1000000/\Q (.str<|x++y++UK n) d
theorem W3 {y:Str}{k:Nat}{D j E pos:Pos}(B:PE X e1 t1)(C:PE X e2 t2):PE X (.JoinedStr [.FormattedValue e1 (-1) none D,.Constant (.str y) k j,.FormattedValue e2 (-1) none E] pos) (tF3 t1 y t2):=by
 intro d s f H Q I h;let:=JoinedStr_many<|joinParts_cons<|FormattedValue_plain<|Ct (B d s f H _ I h) λv P c=>?_;let#[Z,g,q,G,x,ex,xl,yl,F]:=c;subst ex;let#[t,rfl]:=G;let:=formatField_str (λS N=>#[?_,?_]) (An.zu<|⋯)
 .show(LQ++x).length<=sizeLine;rw[An.yg];let:=An.zu (by show 0+x.length<=_;lia)
 let:=joinParts_cons<|Ct ((zr:PE X (.Constant (.str y) k j) _) d _ f g (λv l=>v=.str y/\l=g) (q.tok N) #[rfl,rfl]) λU L c=>?_;let#[x2,o,r,J,e2,w]:=c;subst e2 w;let#[M,rfl]:=J;let:=#[?_,?_]
 .show(LQ++x++y).length<=sizeLine;rw[An.yg,An.yg];let:=An.zu (by show 0+x.length+y.length<=_;lia)
 let:=joinParts_cons<|FormattedValue_plain<|Ct (C d L f o _ r F) λY R c=>?_;let#[x3,p,u,K,n,A,nl,O]:=c;subst A;let#[T,rfl]:=K;have b:((n:Int)).natAbs.log2<1920:=by
  rw[Uc]
  rcases JL n with z|z
  .subst z;decide
  .have:n.log2<20:=(Nat.log2_lt<|⋯).mpr ⋯;lia
 have i:(LQ++x++y++UK n).length<=sizeLine:=by
  rw[An.yg,An.yg,An.yg];have:=VZ b;let:=An.zu (by show 0+x.length+y.length+(UK n).length<=_;have e:(UK n).length<=1921:=this;lia)
 let:=formatField_int_small b #[i,joinParts_nil #[.str _,p,u.tok _,#[_,rfl],?_] i];have e:LQ++x++y++(EL<|LB (n:Int))=x++y++UK n:=An.wO (by
  rw[An.zf,An.zf,An.zf,An.zf,An.zf];rfl)
 rwa[e]
theorem KB (C:X.calm=true):xf X (.type "list") (λxs H Q=>∃a Dl,xs=[.ref a]/\H a=some (.dK Dl)/\∀l,H l=none->Q (.ref l) (upd H l<|.lst<|Dl.map λkv=>kV kv.1)):=by
 intro N s R H xs P Q I r h;let#[a,Dl,rfl,B,q]:=h;let#[u,rfl,K]:=wM r;cases K;let#[J,A,d,b,o,y,t,E,G,hd,D,F,i]:Dl.length<=sizeLine/\(a==EO)=false/\∃d,KV Dl d/\s.heap.DictOf (yw X.prog X.w) a d:=I.hok a _ B;have p:s.heap.DictAt (yw X.prog X.w) a d t:=#[o,y,E,G,hd,D,F,i];have O:=Paired.length b;let:=PySem.W.kdl_call (PySem.W.kdl_dict A) (I.ok.hd C) p ⋯ λz M f c g hl n=>?_;have L:=GR b (by rw[Z5];let:=n.1) λj v e=>n.2 j v (by rwa[<-YE]);let:=#[.ref s.heap.objs.size,_,I.laid (t':=M) g (Zn _)<|show yq X.prog X.w _ z _ (.lst<|Dl.map λkv=>kV kv.1) from#[by rw[Zj];let:=J,f.toList,c,L,hl],rfl,q _<|I.hok.fresh<|Zn _]
end
section
variable {X:Cx}{K:Co}
theorem Sa (z:X.A.units+64<Lc)(g:X.K=K:=by rfl):CH X (EH .NotIn) (W5 K false true):=by
 subst g;intro p s B H x y v u Q I l n h;let#[d,o,b,c,e,f,t,q]:=h;let#[r,i]:=Dt.xx I d x v b l;let#[bs,j]:=Dt.xx I _ y u c n;have w:min (EA o) d.depth<=d.depth:=VW _ _;let:=SeqAt.notIn_list_reads j i e f ⋯ #[.bl _,H,I,rfl,by simpa using q]
theorem PF (z:X.A.units+64<Lc)(g:X.K=K:=by rfl):CH X (EH .NotIn) (W5 K true true):=by
 subst g;intro p s B H x y v u Q I l n h;let#[d,o,b,c,e,f,t,q]:=h;let#[r,i]:=Dt.xx I d x v b l;let#[bs,j]:=Dt.xx I _ y u c n;have w:min (EA o) d.depth<=d.depth:=VW _ _;let:=SeqAt.notIn_tuple_reads j i e f ⋯ #[.bl _,H,I,rfl,by simpa using q]
end
section
variable {X:Cx}
theorem uS:∀{l:List (Str×Tok)} {ys:By},l.map (·.1)=ys->zb (ys.map V.str) (strValues l)
 |[],_,h=>by rw[<-h];let:=.nil
 |p::l,_,h=>by
  rw[<-h];let:=.cons #[p.2,rfl]<|uS rfl
def Wc:V->Di->Hp->VK->Prop:=λx b H Q=>∃(a:Str) (c:Nat),x=.str a/\b=[.str #[#v[c]]]/\a.length<=100000/\∀l,H l=none->Q (.ref l) (upd H l<|.lst<|(Lq a #[#v[c]]).map V.str)
theorem HD:SK X "str.split" Wc:=by
 intro n s y H x w v r Q I j i h;let#[a,c,rfl,rfl,o,q]:=h;let#[t,rfl]:=j;let#[u,rfl,t',rfl]:=wM i;have g:a.length<=sizeLine:=An.zu ⋯;have f:((#[#v[c]]:Str).length==0)=false:=rfl;have p:(Lj a (EQ a #[#v[c]] 0 a.length<|a.length+1) (#[#v[c]]:Str).length).length<=200000:=by
  unfold Lj;have:=StrLaws.occ_length_le a #[#v[c]] 0 a.length<|a.length+1;simp only[Zj,UA,ZH,Zq,YN];lia
 cases b:(decide (a.length<(#[#v[c]]:Str).length)||decide (Builtin.Str.strKind a<Builtin.Str.strKind #[#v[c]]))
 .cases d:(EQ a #[#v[c]] 0 a.length<|a.length+1).isEmpty
  .have e:Lq a #[#v[c]]=Lj a (EQ a #[#v[c]] 0 a.length<|a.length+1) (#[#v[c]]:Str).length:=(ZI<|Ua b).trans<|ZI<|Ua d;let:=JB F.slot_str_split (VX s a t) F.entry_str_split (F.args_str_split_2 _ _) (meets_str_split_sep a #[#v[c]] t t' b f d g<|An.zu<|⋯) ?_;rw[strsFrom_eq];let:=#[.ref _,_,I.je (uS<|numbered_texts _ _) (by rw[Zj];let:=An.zu<|⋯),rfl,?_];rw[<-e];let:=q _ I.fresh
  .have e:Lq a #[#v[c]]=[a]:=(ZI<|Ua b).trans<|ZJ d;rw[e]at q;let:=JB F.slot_str_split (VX s a t) F.entry_str_split (F.args_str_split_2 _ _) (meets_str_split_not_found a #[#v[c]] t t' b f d) ?_;let:=#[.ref _,_,I.je (t':=s.toks) (uS (l:=[(a,t)]) rfl) (by show 1<=sizeLine;decide),rfl,q _ I.fresh]
 .have e:Lq a #[#v[c]]=[a]:=ZJ b;rw[e]at q;let:=JB F.slot_str_split (VX s a t) F.entry_str_split (F.args_str_split_2 _ _) (meets_str_split_cannot_occur a #[#v[c]] t t' b) ?_;let:=#[.ref _,_,I.je (t':=s.toks) (uS (l:=[(a,t)]) rfl) (by show 1<=sizeLine;decide),rfl,q _ I.fresh]
def bq (K:Co):Di->Hp->VK->Prop:=λb H Q=>∃(a:D8) (bs:List Bool),b=[.ref a]/\za K H a (bs.map V.bl)/\Q (.bl<|bs.any id) H
theorem OK {K:Co}(p:X.calm=true)(n:X.K=K:=by rfl):xf X (.builtin "any") (bq K):=by
 subst n;intro z s M H L J Q I r h;let#[a,bs,rfl,o,q]:=h;let#[u,rfl,w]:=wM r;cases w;let#[c,y,pl,E]:=I.list o;have g:=FC y;have hl:=pl.isList;have f:a<s.heap.objs.size:=by let#[_,e,_]:=hl;let:=ZN e
 let:=call_any_walk<|Vm hl ?_;let:=#[s.heap.objs.size,[s.heap.objs.size,a],[s.heap.objs.size],c.toArray.size,_,_,λi=>(bs[i]?).getD false,rfl,Walks.list (A:=X.A.in1) (I.ok.hd p) _ a (ZZ f) c.toArray,#[#[_,ZG _ rfl,rfl,rfl],hl.push _],λi v F C B d j=>?_,λD G t=>?_]
 .have d:c[i]?=some v:=by simpa using d
  rw[g,Zz]at d;cases e:bs[i]? with
  |none=>rw[e]at d;cases d
  |some b =>
   rw[e]at d;have d:=Option.some.inj d;subst d;simp only[e,VY]at j;let:=Jg j
 .have l:c.length=bs.length:=by rw[g,Zj]
  have e:((Eu c.toArray.size).any λi=>(bs[i]?).getD false)=bs.any id:=by
   rw[ZF,l];let:=PyProof.Rows.LSm.range_any bs
  rw[e];let:=#[.bl _,H,I.kept<|PyProof.Rows.LSm.kept_iter t,rfl,q]
theorem Pu {K:Co}(b:X.K=K:=by rfl):SK X "str.join" (rJoin K):=by
 subst b;let:=BY
def Kl (C D c:D8):Prop:=c=C\/c=D
theorem two {C D:D8}{p:D8->Prop}(b:p C)(d:p D):∀c,Kl C D c->p c:=λc h=>h.elim (λz=>z▸b) λz=>z▸d
theorem ug.imp {K:Co}{k:Nat}{b:Sp}(M:ug P w K mg base C j m ps sp)(l:j<=k)(h:∀vs H Q E,b vs H Q E->sp vs H Q E):ug P w K mg base C k m ps b :=
 let ⟨f,fd,F,a⟩:=M.ex;#[f,fd,(F.mono l).imp h,a]
theorem Met.imp {K:Co}{k:Nat}{b:Sp}(M:Met P w K mg base C j m ps sp)(l:j<=k)(h:∀vs H Q E,b vs H Q E->sp vs H Q E):Met P w K mg base C k m ps b :=
 let ⟨f,fd,F,a⟩:=M.ex;#[f,fd,(F.mono l).imp h,a]
theorem GT {b:Type}{p:b->Prop}{t:b->TE}(h:∀i,p i->PE X e (t i)):PE X e (λσ H Q=>∃i,p i/\t i σ H Q):=λc s σ H Q I ⟨i,q,k⟩=>h i q c s σ H Q I k
structure iM (P:Ea)(w:Ef)(K:Co)(mg:Str->Db)(base:Es)(C:D8)(k:Nat)(x:Str)(ps:By)(sp:Sp):Prop where
 ex:∃(f:D8) (fd:Ee),zc P w K mg base (CI P w) k f fd ps sp/\Mk K C f/\wW K fd ps []/\mg x=some (.ref C)
def Wn (C:D8)(sp:Sp)(R:St->Hp->D9->Prop)(t:TA):TE:=λd H Q=>t d H λg c=>∀x b,c x=none->c b=none->b≠x ->
 sp (.ref x::g) (upd (upd c b<|.own x) x<|.ins C b []) (λv f=>v=.non/\Q (.ref x) f) (λcls _ e=>R d e cls)
theorem kW {X:Cx}{e:EE}{i:List EE}{p pos:Pos}(M:iM X.prog X.w X.K X.mg X.base C k x ps sp)(T:wX (k+1) X.A)(U:Raises X R)(L:PA X (e::i) t)(P:Gl X x:=by rfl)
  (n:(x==("__debug__":Str))=false:=by decide) (O:Eo (e::i) X.env=(false,ER e X.env)::Eo i X.env:=by rfl) (o:(E9 pos<|Eo i X.env).any (·.1)=false:=by rfl) :
  PE X (.Call (.Name x p) (e::i) [] pos) (Wn C sp R t):=by
 let#[f,fd,F,M,N,S]:=M.ex;intro y s D H Q I h;let:=Ja<|k6 I P S ?_ n;let:=Js I.ok.mod.iV M.kp (Ct (L pos y s D H _ I h) λd c ⟨vs,H1,g,r,q⟩=>#[g.sZ,?_]) O o;have z:=q (c.heap.objs.size+1) c.heap.objs.size (g.hok.fresh<|Jk _) (g.hok.fresh<|Zn _)<|ZZ<|J4 _;have l:=Inv.made (C:=C) g;have B:zb (V.ref (c.heap.objs.size+1)::vs) (Em (c.heap.objs.size+1)::d):=.cons rfl r;have hl:(Em (c.heap.objs.size+1)::d).length=ps.length:=by
  have e:=B.length;rw[F.len _ _ _ _ z]at e;let:=e.symm
 have j:=N _ (Em (c.heap.objs.size+1)::d) l.sZ (by rwa[ZW]);rw[ZW]at j;let:=Uw<|Hw g.sZ M.makes M.init (JW.mp M.fn)<|JH (F.run _ X.stack _ _ #[Em (c.heap.objs.size+1)::d,[]] (Em (c.heap.objs.size+1)::d) _ _ _ (T.make C d []) (l.env0.make C d []) j B z) λr s' b=>?_
 cases r with
 |error e=>let:=U y D _ _ e s' l b
 |ok fl =>
  cases fl with
  |ret u =>
   let#[v,E,G,Z,J,Y]:=l.after b;subst J;let:=#[Z,#[V.ref<|c.heap.objs.size+1,E,G,rfl,Y]]
  |next=>let:=EC b
  |brk=>let:=EC b
  |cont=>let:=EC b
theorem Hx (x:Str)(c:Nat)(t u:Tok)(d:EQ x #[#v[c]] 0 x.length 1=[]):Meets (Builtin.«str.partition» #[[.str x t,.str #[#v[c]] u],[]])
  (λ_ R s=>R (.ok<|.ret<|.ref s.heap.objs.size) { s with heap:=s.heap.push { cls:=.type "tuple",data:=.seq #v[.str x t,.str LQ s.toks,.str LQ s.toks] },toks:=s.toks+1 }) :=
 .of_wp λprog w A R s h=>by
  let#[b,e]:=partition_tree x #[#v[c]] t u;rw[e,ZI<|show¬((#[#v[c]]:Str).length==0)=true from(by show¬(1==0)=true;decide),d];let:=Zl<|Vu ?_;let:=Zl<|wpAny_mkStr ?_<|ZP _;let:=Zl (wpAny_newTuple ?_ (by show 3<=sizeLine;decide));let:=Zw #[_,rfl,h]
def P7:V->Di->Hp->VK->Prop:=λx b H Q=>∃(u:Str) (c:Nat),x=.str u/\b=[.str #[#v[c]]]/\c∉An.cs u/\∀p,H p=none->Q (.ref p) (upd H p<|.tup [.str u,.str "",.str ""])
def Wb:V->Di->Hp->VK->Prop:=λx b H Q=>SV x b H Q\/P7 x b H Q
theorem GJ:SK X "str.partition" P7:=by
 intro j s p H x n v l Q I i g h;let#[a,c,rfl,rfl,e,q]:=h;let#[t,rfl]:=i;let#[w,rfl,t',rfl]:=wM g;have f:EQ a #[#v[c]] 0 a.length 1=[]:=by
  rcases StrLaws.occ_head_from a #[#v[c]] 0 1 (Zn 1) with⟨h0,d⟩|⟨k,r,h0,hlo,hk,d⟩
  .let:=h0
  .have b:=(LZ _ c k).mp hk;have b:(An.cs a)[k]?=some c:=b;let:=absurd (Zy b) e
 let:=JB F.slot_str_partition (VX s _ t) F.entry_str_partition (F.args_str_partition_2 _ _) (Hx _ c t t' f) ?_;have d:H s.heap.objs.size=none:=I.hok.fresh<|Zn _;let:=#[.ref s.heap.objs.size,_,I.laid (t':=s.toks+1) (a:=s.heap.objs.size) (o:=.tup [.str a,.str "",.str ""]) (λ_ _ q=>Zr _ q) (Zn _) ?_,rfl,q _ d];let:=#[by show 3<=sizeLine;decide,_,.cons #[_,rfl]<|.cons #[_,rfl]<|.cons #[_,rfl] .nil,#[_,ZG _ rfl,rfl,_,rfl,rfl]]
theorem GM:SK X "str.partition" Wb:=by
 intro b s g H x f v e Q I d c h
 rcases h with h|h
 .let:=vV b s g H x f v e Q I d c h
 .let:=GJ b s g H x f v e Q I d c h
end
theorem picked (r:zb xs its):∀ns:List Nat,zb (ns.filterMap (xs[·]?)) (ns.filterMap (its.toArray[·]?))
 |[]=>.nil
 |n::ns=>by
  have b:=picked r ns;rw[YR,YR,Vl];cases h:xs[n]? with
  |none =>
   rw[Z6 (by rw[<-r.length];let:=JN.mp h)];let:=b
  |some x =>
   let#[v,c,q]:=r.get h;rw[c];let:=.cons q b
def bD (K:Co):V->V->Hp->VK->Prop:=λx y H Q=>∃a b i,x=.ref a/\za K H a b/\y=.int i/\0<i/\∀p c,H p=none->(∀z∈c,z∈b)->c.length<=b.length->Q (.ref p) (upd H p<|.lst c)
theorem Ol {st:EE}{B pos:Pos}(J:PE X e te)(L:PE X st ts):PE X (.Subscript e (.Slice none none (some st) B) pos) (aq (bD X.K) te ts):=by
 intro d s f H Q I h;let:=Subscript_<|Ct (J d s f H _ I h) λv T ⟨x,D,F,R,O⟩=>?_;let:=wpAny_Slice ?_;rw[evalPart_none];let:=Zw<|Zw ?_;let:=Ct (L d T f D _ F O) λvs c ⟨y,E,G,S,P⟩=>?_;let#[a,U,i,rfl,M,rfl,Z,q]:=P;let#[t,rfl]:=S;cases R;have g:Inv X d f E { c with heap:=c.heap.push { cls:=.type "slice",data:=.fields #v[.none,.none,.int i t] } }:=G.kept (t':=c.toks) λb N q=>Zr _ q;let#[j,r,p,u]:=g.list M;have Y:=r.length;show Eh (Ej X.prog X.w) X.A (subscriptTail e (.Slice none none (some st) B) (.ref a)<|.ref c.heap.objs.size) (EP X d f Q) X.xe { c with heap:=c.heap.push { cls:=.type "slice",data:=.fields #v[.none,.none,.int i t] } };let:=tail_any (ops:=[.ref a,.ref c.heap.objs.size]) p.isList.typeIs slot_list_getitem.lookup ?_ (by with_unfolding_all rfl);let:=wpAny_getItem_list_slice p.isList (Heap.IsSliceOf.new ..) .none .none (.int i t) (λz=>by injection z;lia) ?_ (by rw[ZF];lia);have l:=slicePick_size_le j.toArray none none<|some i;unfold slicePick at l ⊢;generalize sliceRange _ _ _=ns at l ⊢;have C:=picked r ns;have l5:=C.length;rw[ZF,ZF]at l;let:=#[.ref (c.heap.push { cls:=.type "slice",data:=.fields #v[.none,.none,.int i t] }).objs.size,_,g.laid (t':=c.toks) (o:=.lst (ns.filterMap (U[·]?))) (λb N q=>Zr _ q) (Zn _) ?_,rfl,q _ _ (g.hok.fresh<|Zn _) (λz u=>?_)<|⋯]
 .let:=#[⋯,_,0,C,ZG _ rfl]
 .let#[n,_,e]:=Jr.mp u;let:=Zy e
end L2
namespace An
open PySem L2
def UQ (c:Nat):Bool:=decide (32<=c)&&decide (c<=126)&&decide (c≠37)
def UG (x:Str):Bool:=decide (x.length<=20)&&(cs x).all UQ
def XE (c:Nat):Bool:=decide (97<=c)&&decide (c<=122)
def yB (x:Str):Bool:=decide (1<=x.length)&&decide (x.length<=8)&&(cs x).all XE
def U1:Eg->Bool
 | .str x=>UG x
 |_=>false
def j5:Eg->Bool
 | .tuple ds=>ds.all U1
 |_=>false
def vT:Eg->Bool
 | .str x=>yB x
 |_=>false
def Xb:Eg->Bool
 | .str _=>true
 |_=>false
def Xe:Eg->Bool
 | .tuple [l,n]=>vT l&&Xb n
 |_=>false
mutual
def small:Eg->Bool
 | .str x=>decide (x.length<=1000)
 | .list ds=>decide (ds.length<=1000)&&yD ds
 | .tuple ds=>decide (ds.length<=1000)&&yD ds
 |_=>true
def yD:De->Bool
 |[]=>true
 |d::ds=>small d&&yD ds
end
theorem xI:∀{ds:De} {i:Nat} {d:Eg},yD ds=true->ds[i]?=some d->small d=true
 |[],_,_,_,h=>by cases h
 |e::ds,0,d,h,q=>by
  have h:(small e&&yD ds)=true:=h;have q:=Option.some.inj q;rw[ZB]at h;rw[<-q];let:=h.1
 |e::ds,i+1,d,h,q=>by
  have h:(small e&&yD ds)=true:=h;rw[ZB]at h;let:=xI h.2 (by simpa using q)
theorem qJ {b:De}(h:small (.tuple b)=true):b.length<=1000/\yD b=true:=by
 have h:(decide (b.length<=1000)&&yD b)=true:=h;rw[ZB]at h;let:=#[ZA h.1,h.2]
theorem Pl (a c:Nat):[a]<[c]↔a<c:=by
 rw[List.cons_lt_cons_iff];constructor
 .rintro(h|⟨_,h⟩)
  .let:=h
  .let:=absurd h (by simp)
 .let:=.inl
theorem Fj {p q:Prop} [Decidable p] [Decidable q](h:¬p↔q):(!decide p)=decide q:=by
 by_cases b:p
 .rw[Zm b,ZE<|λz=>h.mpr z b];rfl
 .rw[ZE b,Zm<|h.mp b];rfl
theorem Pa (c a:Nat)(x:Str)(b:x.cps.toList=[a]):(!decide ((#[#v[c]]:Str).cps.toList<x.cps.toList))=decide (a<=c):=by
 rw[b];let:=Fj (by show¬[c]<[a]↔_;rw[Pl];lia)
theorem one_le (c a:Nat)(x:Str)(b:x.cps.toList=[a]):(!decide (x.cps.toList<(#[#v[c]]:Str).cps.toList))=decide (c<=a):=by
 rw[b];let:=Fj (by show¬[a]<[c]↔_;rw[Pl];lia)
def Rj:Sp:=λb H Q _=>∃c:Nat,b=[.str #[#v[c]]]/\Q (.bl<|UQ c) H
def ME (K:Co):Sp:=λc H Q _=>∃(d:Eg) (v:V),c=[v]/\Dw K H d v/\small d=true/\∀b,zz H b->Q (.bl<|U1 d) b
def Fx (K:Co):Sp:=λc H Q _=>∃(d:Eg) (v:V),c=[v]/\Dw K H d v/\small d=true/\∀b,zz H b->Q (.bl<|j5 d) b
def Fw (K:Co):Sp:=λc H Q _=>∃(d:Eg) (v:V),c=[v]/\Dw K H d v/\small d=true/\∀b,zz H b->Q (.bl<|vT d) b
def SZ (K:Co):Sp:=λc H Q _=>∃(d:Eg) (v:V),c=[v]/\Dw K H d v/\small d=true/\∀b,zz H b->Q (.bl<|Xe d) b
theorem xO {b:Type}{l:List b}{f:b->Bool}{i:Nat}{c:b}(h:l[i]?=some c):(l.take<|i+1).map f=(l.take i).map f++[f c]:=by
 rw[YK,h,Zu];rfl
theorem ON {x:Str}{i c:Nat}(h:x.cps[i]?=some c):(cs x)[i]?=some c:=by rw[<-h];simp
theorem all_map (l:List α)(f:α->Bool):(l.map f).all id=l.all f:=by
 rw[List.all_map];rfl
structure En where
 h:Str
 n:Nat
 d:Eg
abbrev Dh:=List En
def dot:Str:=#[#v[46]]
theorem OR:(".":Str)=dot:=by lk
def En.nm (e:En):Str:=e.h++dot++UK e.n
def xg (S:Dh)(h:Str):Option Nat:=S.foldl (λb e=>if e.h=h then some (max (b.getD 0)<|e.n+1) else b) none
theorem XR (S:Dh)(e:En)(h:Str):xg (S++[e]) h=if e.h=h then some (max ((xg S h).getD 0)<|e.n+1) else xg S h:=by
 unfold xg;rw[Yl];rfl
structure jg (e:En):Prop where
 key:Xw e.d
 free:46∉cs e.h
 num:e.n<1000000
 hl:e.h.length<=100
structure wY (S:Dh):Prop where
 ent:∀e∈S,jg e
 nd:(S.map (·.d)).Nodup
 nn:(S.map En.nm).Nodup
 len:S.length<=2000
theorem wY.nil:wY []:=#[λ_ h=>(nomatch h),YO,YO,ZP _]
theorem wY.snoc (g:wY S)(h:jg e)(b:e.d∉S.map (·.d))(c:e.nm∉S.map En.nm)(f:S.length<2000):wY (S++[e]) :=
 #[IV g.ent h,by rw[Zu];let:=jN g.nd b,by rw[Zu];let:=jN g.nn c,by rw[Zq,Yc];lia]
def Off (c:Dc)(H H':Hp):Prop:=∀b o,b∉c->H b=some o->H' b=some o
theorem Off.refl (b:Dc)(H:Hp):Off b H H:=λ_ _ _ h=>h
theorem Off.trans (a:Off fp H H1)(b:Off fp H1 H2):Off fp H H2:=λc o n h=>b c o n<|a c o n h
theorem Off.of (s:zz H H'):Off fp H H':=λb o _ h=>s b o h
theorem Off.mono {c:Dc}(h:Off fp H H')(s:∀b∈fp,b∈c):Off c H H':=λb o n e=>h b o (λz=>n<|s b z) e
theorem Off.upd {a:D8}{o:HO}(h:Off fp H H')(m:a∈fp):Off fp H (L2.upd H' a o):=λb u n e=>by
 have ne:b≠a:=λz=>n (by rwa[z]);rw[zH ne];let:=h b u n e
def OU (b c d:D8):List (Str×V):=[("thing_by_name",.ref b),("name_by_thing",.ref c),("next_numbers",.ref d)]
def pC (H:Hp)(d:Dc):Prop:=∀b∈d,∃o,H b=some o/\(∀c,o≠.tup c)/\(∀c,o≠.lst c)/\∀u v,o≠.frz u v
structure xr (P:Ea)(w:Ef)(K:Co)(C:D8)(H:Hp)(a:D8)(fp:Dc)(S:Dh):Prop where
 good:wY S
 at_:∃(dx d1 d2 d3:D8) (ts:Dc) (nx:Dk),fp=[a,dx,d1,d2,d3]/\(fp).Nodup/\H a=some (.ins C dx<|OU d1 d2 d3)/\H dx=some (.own a)/\ts.length=S.length /\
  H d1=some (.dK<|(S.zip ts).map λe=>((Ec e.1.nm:Key),V.ref e.2))/\lA P w K H d2 (S.map λe=>(e.d,V.str e.nm)) /\
  H d3=some (.dK nx)/\nx.length<=S.length/\(∀h,UH nx (Ec h:Key)=(xg S h).map λn:Nat=>V.int (n:Int)) /\
  ∀(i:Nat) (e:En) (t:D8),S[i]?=some e->ts[i]?=some t->Dt K H e.d (.ref t)
theorem uW {H:Hp}{b:D8}{o:HO}(h:H b=some o)(c:∀xs,o≠.tup xs)(d:∀u v,o≠.frz u v):∀xs,¬Rd H b (.tup xs):=λxs z=>by
 rcases z with z|⟨u,z⟩
 .rw[h]at z;let:=c xs<|Option.some.inj z
 .rw[h]at z;let:=d u _<|Option.some.inj z
mutual
theorem Dt.off {K:Co}{d:Dc}(n:∀b∈d,∀xs,¬Rd H b (.tup xs))(o:Off d H H'):∀(k:Eg) (v:V),U2 k=true->Dt K H k v->Dt K H' k v
 | .str x,_,_,h=>h
 | .tuple ds,_,t,⟨a,xs,h1,c,h3⟩=>by
  let:=#[a,xs,h1,?_,zy.off n o ds xs t h3]
  rcases c with c|c
  .have ne:=λz=>n a z xs c
   rcases c with c|⟨u,c⟩
   .let:=.inl (.inl<|o a _ ne c)
   .let:=.inl (.inr #[u,o a _ ne c])
  .let:=.inr c
 | .none,_,_,h=>h
 | .bool _,_,t,_=>by cases t
 | .int _,_,t,_=>by cases t
 | .list _,_,t,_=>by cases t
 | .dict _,_,t,_=>by cases t
theorem zy.off {K:Co}{c:Dc}(n:∀b∈c,∀xs,¬Rd H b (.tup xs))(o:Off c H H'):∀(ks:De) (vs:Di),xF ks=true->zy K H ks vs->zy K H' ks vs
 |[],_,_,h=>h
 |k::ks,_,t,⟨x,r,h1,h2,h3⟩=>by
  have t:(U2 k&&xF ks)=true:=t;rw[ZB]at t;let:=#[x,r,h1,Dt.off n o k x t.1 h2,zy.off n o ks r t.2 h3]
end
theorem lA.off {K:Co}{f:Dc}{d:D8}(n:∀b∈f,∀xs,¬Rd H b (.tup xs))(o:Off f H H')(e:H' d=H d)(T:lA P w K H d ps):lA P w K H' d ps:=by
 let#[hl,g,nd,xs,h,r]:=T;let:=#[hl,g,nd,xs,by rw[e];let:=h,?_];have key:∀{ps:List (Eg×V)} {xs:List (Eg×D8×D9)},(∀p∈ps,Xw p.1)->E7 (wB K H) ps xs->E7 (wB K H') ps xs:=by
  intro ps xs c r
  induction r with
  |nil=>let:=.nil
  |cons r1 _ ih=>let:=.cons #[r1.1,Dt.off n o _ _ (c _ Zt).1 r1.2.1,r1.2.2]<|ih λp i=>c p<|Zp _ i
 let:=key g r
theorem xr.off {K:Co}{c gp:Dc}(n:∀b∈gp,∀xs,¬Rd H b (.tup xs))(o:Off gp H H')(r:∀b∈c,b∉gp)(h:xr P w K C H a c S):xr P w K C H' a c S:=by
 let#[g,s,l,p,q,I,nx,rfl,nd,v,y,z,A,f,B,D,E,F]:=h;have k:=λb u m e=>o b u (r b m) e;let#[xs,d,_]:=f.2.2.2;let:=#[g,s,l,p,q,I,nx,rfl,nd,k _ _ (by simp) v,k _ _ (by simp) y,z,k _ _ (by simp) A,lA.off n o ?_ f,k _ _ (by simp) B,D,E,λi e t j G=>Dt.off n o _ _ (g.ent e<|Zy j).key.1<|F i e t j G];rw[d];let:=k _ _ (by simp) d
theorem xr.same {K:Co}(s:zz H H')(h:xr P w K C H a fp S):xr P w K C H' a fp S :=
 h.off (gp:=[]) (λb m=>(nomatch m)) (Off.of s) (λb _=>by simp)
theorem xr.wZ {K:Co}(h:xr P w K C H a fp S):pC H fp:=by
 let#[g,p,l,n,o,u,nx,rfl,nd,d,e,q,f,i,j,r,s,t]:=h;let#[v,c,_]:=i.2.2.2;intro b m;simp only[Zx,Yg,Jo]at m
 rcases m with rfl|rfl|rfl|rfl|rfl
 .let:=#[_,d,λ_ z=>(nomatch z),λ_ z=>(nomatch z),λ_ _ z=>(nomatch z)]
 .let:=#[_,e,λ_ z=>(nomatch z),λ_ z=>(nomatch z),λ_ _ z=>(nomatch z)]
 .let:=#[_,f,λ_ z=>(nomatch z),λ_ z=>(nomatch z),λ_ _ z=>(nomatch z)]
 .let:=#[_,c,λ_ z=>(nomatch z),λ_ z=>(nomatch z),λ_ _ z=>(nomatch z)]
 .let:=#[_,j,λ_ z=>(nomatch z),λ_ z=>(nomatch z),λ_ _ z=>(nomatch z)]
theorem pC.tup (h:pC H fp):∀b∈fp,∀xs,¬Rd H b (.tup xs):=λb m xs=>by
 let#[o,e,n1,_,n2]:=h b m;let:=uW e n1 n2 xs
theorem kZ {κ:Type} [DecidableEq κ]{Dl:List (κ×V)}{k:κ}{v:V}(h:k∉Dl.map (·.1)):yp Dl k v=Dl++[(k,v)]:=by
 unfold yp;rw[ZI];intro z;let#[c,b,e]:=YB.mp z;let:=h<|Zo.mpr #[c,b,ZA e]
theorem vF {κ:Type} [DecidableEq κ]:∀{Dl:List (κ×V)} {k:κ} {v:V},(Dl.map (·.1)).Nodup->(k,v)∈Dl->UH Dl k=some v
 |[],_,_,_,h=>(nomatch h)
 |p::r,k,v,nd,h=>by
  rw[ZR,Yu]at nd;unfold UH;rw[Jl]
  rcases Zx.mp h with e|h
  .subst e;rw[Zm<|show((k,v):κ×V).1=k from rfl];rfl
  .rw[ZE<|show¬p.1=k from λz=>nd.1<|Zo.mpr #[(k,v),h,z.symm]];let:=vF nd.2 h
theorem SS (e:En):cs e.nm=cs e.h++46::cs (UK e.n):=by
 unfold En.nm;rw[zf,zf];show cs e.h++[46]++cs (UK e.n)=_;simp
theorem HH (h:UK m=UK n):m=n:=by
 have b:cs (UK m)=cs (UK n):=by rw[h]
 have e:=VS m;have f:=VS n;have c:=PySem.W.KIN.val_back m;have d:=PySem.W.KIN.val_back n;rw[<-e]at c;rw[<-f]at d;have b:(EL<|LB ((m:Nat):Int)).cps.toList=(EL<|LB ((n:Nat):Int)).cps.toList:=b;rw[b]at c;let:=c.symm.trans d
theorem Ny:∀{a b r s:List Nat},¬(46∈a)->¬(46∈b)->a++46::r=b++46::s->a=b/\r=s
 |[],[],r,s,_,_,h=>#[rfl,by injection h]
 |[],y::b,r,s,_,hb,h=>by
  injection h with c d;let:=absurd (by rw[<-c];let:=Zt) hb
 |x::a,[],r,s,ha,_,h=>by
  injection h with c d;let:=absurd (by rw[c];let:=Zt) ha
 |x::a,y::b,r,s,ha,hb,h=>by
  injection h with c d;let#[e,f]:=Ny (λz=>ha<|Zp _ z) (λz=>hb<|Zp _ z) d;let:=#[by rw[c,e],f]
theorem TN {e f:En}(d:46∉cs e.h)(g:46∉cs f.h)(h:e.nm=f.nm):e.h=f.h/\e.n=f.n:=by
 have:=congrArg cs h;rw[SS,SS]at this;let#[b,c]:=Ny d g this;let:=#[wO b,HH<|wO c]
theorem R1:∀{S:Dh} {e:En},e∈S->e.n<(xg S e.h).getD 0:=by
 have key:∀(S:Dh) (b:Option Nat) (h:Str),b.getD 0<=(S.foldl (λb e=>if e.h=h then some (max (b.getD 0)<|e.n+1) else b) b).getD 0/\∀e∈S,e.h=h->e.n<(S.foldl (λb e=>if e.h=h then some (max (b.getD 0)<|e.n+1) else b) b).getD 0:=by
  intro S
  induction S with
  |nil=>intro b h;let:=#[Zn _,λe c=>(nomatch c)]
  |cons f S ih =>
   intro b h;rw[JQ];let#[g,i]:=ih (if f.h=h then some (max (b.getD 0)<|f.n+1) else b) h;have mono:b.getD 0<=(if f.h=h then some (max (b.getD 0)<|f.n+1) else b).getD 0:=by
    split
    .let:=Nat.le_max_left _ _
    .let:=Zn _
   let:=#[Z2 mono g,λe c d=>?_]
   rcases Zx.mp c with rfl|c
   .rw[ZJ d]at g ⊢;have:e.n+1<=(some<|max (b.getD 0)<|e.n+1).getD 0:=Nat.le_max_right _ _;lia
   .let:=i e c d
 intro S e c;let:=(key S none e.h).2 e c rfl
theorem K4 (g:wY S){h:Str}{d:Eg}(i:46∉cs h):(En.mk h ((xg S h).getD 0) d).nm∉S.map En.nm:=λz=>by
 let#[e,f,q]:=Zo.mp z;let#[b,c]:=TN (g.ent e f).free i q;have:=R1 f;have b:e.h=h:=b;have c:e.n=(xg S h).getD 0:=c;rw[b]at this;lia
def dig (n:Nat):Str:=EL<|LB ((n:Nat):Int)
def enc (p:Str):List Nat:=cs (dig p.length)++58::cs p
inductive Th where
 |leaf (ls:By)
 |tree (Dm:Df)
 |note (t:Str) (ps:By) (w:Str)
def z7:Df->By
 |[]=>[]
 |r::rs=>r.1::r.2::z7 rs
theorem j4:∀(a b:Df),z7 (a++b)=z7 a++z7 b
 |[],_=>rfl
 |(x,y)::a,b=>by
  show x::y::z7 (a++b)=x::y::(z7 a++z7 b);rw[j4 a b]
def Th.word:Th->Str
 | .leaf _=>"leaf"|.tree _=>"tree"|.note _ _ _=>"note"
def Th.letter:Th->Str
 | .leaf _=>"L"|.tree _=>"T"|.note _ _ _=>"N"
def Th.parts:Th->By
 | .leaf ls=>ls
 | .tree Dm=>z7 Dm
 | .note t ps w=>[t,dig ps.length]++ps++[w]
def counted (p:Str):Str:=dig p.length++":"++p
def more (x p:Str):Str:=x++dig p.length++":"++p
def Th.sp (t:Th):Str:=t.parts.foldl more t.letter
theorem FU:cs (":":Str)=[58]:=by lk
theorem KH (p:Str):cs (counted p)=enc p:=by
 unfold counted enc;rw[zf,zf,FU];simp
theorem RI (x p:Str):cs (more x p)=cs x++enc p:=by
 unfold more enc;rw[zf,zf,zf,FU];simp
theorem FV:∀(ps:By) (x:Str),cs (ps.foldl more x)=cs x++ps.flatMap enc
 |[],x=>by simp
 |p::ps,x=>by
  rw[JQ,FV ps,RI,List.flatMap_cons,Yk]
theorem WG (t:Th):cs t.sp=cs t.letter++t.parts.flatMap enc:=FV _ _
theorem af (t:Th):t.letter++Lh "" (t.parts.map counted)=t.sp:=by
 apply wO
 rw[zf,WG];have e:cs (Lh ""<|t.parts.map counted)=t.parts.flatMap enc:=by
  show cs (Builtin.Str.glued ""<|t.parts.map counted)=_;rw[EZ];rw[vM,List.flatMap_map]
  congr 1
  funext p
  let:=KH p
 rw[e]
theorem jL (t:Th):cs t.letter=[match t with|.leaf _=>76|.tree _=>84|.note _ _ _=>78]:=by
 cases t
 .show cs ("L":Str)=[76]
  lk
 .show cs ("T":Str)=[84]
  lk
 .show cs ("N":Str)=[78]
  lk
def WI (n:Int)(c:Nat):Int:=(31*n+c) % 97
def dg (x:Str):Int:=(cs x).foldl WI 0
def zp (r:Str×Str):PyData:=.tuple [.str r.1,.str r.2]
def Th.dat:Th->Eg
 | .leaf ls=>.tuple [.str "leaf",.tuple<|ls.map .str]
 | .tree Dm=>.tuple [.str "tree",.tuple<|Dm.map zp]
 | .note t ps w=>.tuple [.str "note",.str t,.tuple<|ps.map .str,.str w]
theorem FY:∀(a b:Df),EV (a.map zp) (b.map zp)=decide (a=b)
 |[],[]=>rfl
 |[],_::_=>rfl
 |_::_,[]=>rfl
 |(x,y)::a,(z,w)::b=>by
  show(((x==z)&&((y==w)&&true))&&EV (a.map zp) (b.map zp))=_;rw[FY a b,YY];simp[and_assoc]
theorem kB {x y:Str}{xs ys:De}(h:(x==y)=false):EG (.tuple (.str x::xs)) (.tuple (.str y::ys))=false:=by
 show((x==y)&&EV xs ys)=false;rw[h];rfl
theorem M1 (a b:Th):EG a.dat b.dat=true↔a=b:=by
 have c:(("leaf":Str)=="tree")=false:=by lk
 have d:(("leaf":Str)=="note")=false:=by lk
 have e:(("tree":Str)=="leaf")=false:=by lk
 have f:(("tree":Str)=="note")=false:=by lk
 have g:(("note":Str)=="leaf")=false:=by lk
 have h:(("note":Str)=="tree")=false:=by lk
 cases a with
 |leaf ls =>
  cases b with
  |leaf ms =>
   show((("leaf":Str)=="leaf")&&(EV (ls.map .str) (ms.map .str)&&true))=true↔_;rw[uP];simp
  |tree _ =>
   let:=VP (λz=>absurd ((kB c).symm.trans z) Z7) (λz=>by cases z)
  |note _ _ _ =>
   let:=VP (λz=>absurd ((kB d).symm.trans z) Z7) (λz=>by cases z)
 |tree rs =>
  cases b with
  |leaf ms =>
   let:=VP (λz=>absurd ((kB e).symm.trans z) Z7) (λz=>by cases z)
  |tree qs =>
   show((("tree":Str)=="tree")&&(EV (rs.map zp) (qs.map zp)&&true))=true↔_;rw[FY];simp
  |note _ _ _ =>
   let:=VP (λz=>absurd ((kB f).symm.trans z) Z7) (λz=>by cases z)
 |note t ps w =>
  cases b with
  |leaf ms =>
   let:=VP (λz=>absurd ((kB g).symm.trans z) Z7) (λz=>by cases z)
  |tree qs =>
   let:=VP (λz=>absurd ((kB h).symm.trans z) Z7) (λz=>by cases z)
  |note t' ps' w' =>
   show((("note":Str)=="note")&&((t==t')&&(EV (ps.map .str) (ps'.map .str)&&((w==w')&&true))))=true↔_;rw[uP];simp
def Th.Good (t:Th):Prop:=t.parts.length<=1000/\∀p∈t.parts,Ok 1000 p
theorem IQ (x:Str):0<=dg x/\dg x<97:=by
 unfold dg;have:∀(l:List Nat) (n:Int),(0<=n/\n<97)->0<=l.foldl WI n/\l.foldl WI n<97:=by
  intro l
  induction l with
  |nil=>intro n h;let:=h
  |cons c l ih =>
   intro n _;rw[JQ];let:=ih _ ?_;unfold WI;lia
 let:=this _ 0 #[∅,∅]
theorem Py (x:Str):EL (LB<|dg x)=UK (dg x).toNat:=by
 unfold UK;rw[J2 (IQ x).1]
theorem HI {n:Nat}(h:n<97):(UK n).length<=10:=J0 ⋯ ∅ (by
 have:n<10 ^ 9:=⋯
 lia)
theorem snoc_ind {b:Type}{p:List b->Prop}(h0:p [])(h1:∀l x,p l->p (l++[x]))(l:List b):p l:=by
 have:∀l:List b,p l.reverse:=by
  intro l
  induction l with
  |nil=>let:=h0
  |cons x l ih=>rw[Uh];let:=h1 _ _ ih
 have:=this l.reverse
 rwa[List.reverse_reverse]at this
theorem lJ (S:Dh)(h:Str):(xg S h).getD 0=0\/∃e∈S,e.h=h/\e.n+1=(xg S h).getD 0:=by
 induction S using snoc_ind with
 |h0=>let:=.inl rfl
 |h1 S e ih =>
  rw[XR]
  by_cases q:e.h=h
  .rw[ZJ q]
   rcases Nat.le_total ((xg S h).getD 0) (e.n+1) with z|z
   .let:=.inr #[e,by simp,q,(Nat.max_eq_right z).symm]
   .have d:=Nat.max_eq_left z
    rcases ih with i|⟨f,c,h1,b⟩
    .let:=.inl (d.trans i)
    .let:=.inr #[f,by simp[c],h1,b.trans d.symm]
  .rw[ZI q]
   rcases ih with i|⟨f,c,h1,b⟩
   .let:=.inl i
   .let:=.inr #[f,by simp[c],h1,b]
theorem Nd {S:Dh}(b:∀e∈S,e.n<S.length)(h:Str):(xg S h).getD 0<=S.length:=by
 rcases lJ S h with i|⟨f,c,_,d⟩
 .lia
 .have:=b f c;lia
theorem K7 (n:Nat):Ei (UK n)=true:=by
 rw[x6];intro c b;have b:c∈(EL<|LB ((n:Nat):Int)).cps.toList:=b;rw[VS]at b;let#[d,hd,rfl]:=Zo.mp b
 rcases d.valid with h|⟨_,h⟩
 .let:=Ux h ∅
 .let:=h
theorem K8 {x y:Str}(d:Ei x=true)(e:Ei y=true):Ei (x++y)=true:=by
 rw[x6]at *;intro c b;rw[zf,ZD]at b;let:=b.elim (d c)<|e c
theorem OH (xs:By)(x:Str):(xs.map Ey).any (λy=>EG y<|.str x)=decide (x∈xs):=by
 induction xs with
 |nil=>rfl
 |cons y xs ih =>
  show((y==x)||(xs.map Ey).any (λy=>EG y<|.str x))=_;rw[ih,YY,V5,ZY,ZY,Zx,JW];let:=#[λh=>h.elim (λz=>.inl z.symm) .inr,λh=>h.elim (λz=>.inl z.symm) .inr]
theorem TJ {S:Dh}(nd:(S.map (·.d)).Nodup){e f:En}(j:e∈S)(l:f∈S)(h:e.d=f.d):e=f:=by
 induction S with
 |nil=>cases j
 |cons x S ih =>
  rw[ZR,Yu]at nd
  rcases Zx.mp j with i|c
  .rcases Zx.mp l with g|b
   .rw[i,g]
   .let:=absurd (Zo.mpr #[f,b,by rw[<-i];let:=h.symm]) nd.1
  .rcases Zx.mp l with g|b
   .let:=absurd (Zo.mpr #[e,c,by rw[<-g];let:=h]) nd.1
   .let:=ih nd.2 c b
def Ex (H:Hp)(X:Dc):Prop:=∀c∈X,∃o,H c=some o
theorem Ex.not {c:D8}(h:Ex H X)(n:H c=none):c∉X:=λz=>by
 let#[o,e]:=h c z;rw[n]at e;cases e
section
variable {P:Ea}{w:Ef}{K:Co}{C:D8}{H H' H0:Hp}{S:Dh}
theorem xr.ex (h:xr P w K C H a fp S):Ex H fp:=λc b=>by
 let#[o,e,_]:=h.wZ c b;let:=#[o,e]
end
theorem Gq {b:Type}{l:List b}{i:Nat}{x:b}(nd:l.Nodup)(h:l[i]?=some x):x∉l.take i:=λz=>by
 let#[j,f,e]:=Yb.mp z;rw[ZL]at f;rw[List.getElem_take]at e;let#[d,c]:=ZC.mp h;let:=JO.mp nd j i ⋯ d ⋯<|e.trans c.symm
def UN (t:Th):Str:=t.letter++UK (dg t.sp).toNat
def UY (S:Dh)(t:Th):En:=#[UN t,(xg S<|UN t).getD 0,t.dat]
theorem Gp (t:Th):t.letter.length=1:=by rw[yx,jL];rfl
theorem Hr (t:Th):46∉cs t.letter:=by
 rw[jL];cases t
 .show 46∉[76];decide
 .show 46∉[84];decide
 .show 46∉[78];decide
theorem jI (t:Th):46∉cs (UN t):=by
 unfold UN;rw[zf,ZD,not_or];let:=#[Hr t,λh=>(PyProof.Rows.intText_free_46 _).mp h]
theorem uJ (t:Th):(UN t).length<=100:=by
 unfold UN;have b:=HI (n:=(dg t.sp).toNat) (by have:=IQ t.sp;lia);rw[yg,Gp];lia
theorem N9 (t:Th):Ei t.letter=true:=by
 rw[x6,jL];intro c b;rw[Zk.mp b];cases t
 .show 76<1114112;decide
 .show 84<1114112;decide
 .show 78<1114112;decide
theorem IJ:∀{ls:By},(∀l∈ls,Ei l=true)->xF (ls.map .str)=true/\qE (ls.map .str)=0
 |[],_=>#[rfl,rfl]
 |l::ls,h=>by
  let#[b,c]:=IJ λx d=>h x<|Zp _ d;let:=#[?_,?_]
  .show(Ei l&&xF (ls.map .str))=true;rw[h l Zt,b];rfl
  .show max 0 (qE<|ls.map .str)=0;rw[c];rfl
theorem Kq:∀{rs:Df},(∀p∈z7 rs,Ei p=true)->xF (rs.map zp)=true/\qE (rs.map zp)<=1
 |[],_=>#[rfl,ZP _]
 |(x,y)::rs,h=>by
  let#[b,d]:=Kq λp c=>h p<|Zp _<|Zp _ c;let:=#[?_,?_]
  .show((Ei x&&(Ei y&&true))&&xF (rs.map zp))=true;rw[h x Zt,h y<|Zp _ Zt,b];rfl
  .show max (max 0 (max 0 0)+1) (qE<|rs.map zp)<=1;lia
theorem Xj {t:Th}(g:t.Good):Xw t.dat:=by
 have c:=λp e=>(g.2 p e).ok;cases t with
 |leaf ls =>
  let#[b,d]:=IJ (ls:=ls) c;let:=#[?_,?_]
  .show(Ei "leaf"&&(xF (ls.map .str)&&true))=true;rw[b];lk
  .show max 0 (max (qE (ls.map .str)+1) 0)+1<=6;rw[d];decide
 |tree rs =>
  let#[b,d]:=Kq c;let:=#[?_,?_]
  .show(Ei "tree"&&(xF (rs.map zp)&&true))=true;rw[b];lk
  .show max 0 (max (qE (rs.map zp)+1) 0)+1<=6;lia
 |note x ps y =>
  have f:∀p∈ps,Ei p=true:=λp e=>c p (by show p∈[x,dig ps.length]++ps++[y];simp[e]);have h:=c x (by show x∈[x,dig ps.length]++ps++[y];simp);have i:=c y (by show y∈[x,dig ps.length]++ps++[y];simp);let#[b,d]:=IJ f;let:=#[?_,?_]
  .show(Ei "note"&&(Ei x&&(xF (ps.map .str)&&(Ei y&&true))))=true;rw[b,h,i];lk
  .show max 0 (max 0<|max (qE (ps.map .str)+1)<|max 0 0)+1<=6;rw[d];decide
theorem vI {a b:Th}(h:a.dat=b.dat):a=b:=(M1 a b).mp (by
 rw[h];let:=(M1 b b).mpr rfl)
def U5 (e:En):Prop:=∃t:Th,e.d=t.dat/\t.Good/\e.h=UN t
def NC (e:En):Str:=match e.d with|.tuple (.str x::_)=>x|_=>""
theorem Ry (t:Th)(h:Str)(n:Nat):NC #[h,n,t.dat]=t.word:=by cases t<;>rfl
theorem Ip {e:En}{t:Th}(h:e.d=t.dat):NC e=t.word:=by
 let#[a,b,c]:=e;have h:=h;subst h;let:=Ry t a b
def xJ (S:Dh)(x:Str)(b:By):Bool:=S.any λe=>decide (e.nm=x)&&decide (NC e∈b)
def namesOk (S:Dh):Th->Bool
 | .leaf _=>true
 | .tree Dm=>Dm.all λr=>xJ S r.2 ["leaf","tree"]
 | .note t ps _=>xJ S t ["tree"]&&ps.all λp=>xJ S p ["note"]
theorem RP (g:wY S){e:En}(d:e∈S)(n:By):xJ S e.nm n=decide (NC e∈n):=by
 unfold xJ;rw[YY,YB,ZY];constructor
 .rintro⟨f,o,h⟩;rw[ZB,ZY,ZY]at h;let#[i,p,b]:=Yb.mp d;let#[j,q,c]:=Yb.mp o;have:i=j:=by
   have l:=JO.mp g.nn
   rcases VO i j with z|z|z
   .let:=absurd (by rw[Ya,Ya,b,c];let:=h.1.symm) (l i j (by rwa[Zj]) (by rwa[Zj]) z)
   .let:=z
   .let:=absurd (by rw[Ya,Ya,b,c];let:=h.1) (l j i (by rwa[Zj]) (by rwa[Zj]) z)
  subst this;rw[<-b,c];let:=h.2
 .intro h;let:=#[e,d,by rw[Zm rfl,Zm h];rfl]
theorem OX {S:Dh}{x:Str}(h:x∉S.map En.nm)(c:By):xJ S x c=false:=by
 unfold xJ;rw[VL];intro e b z;rw[ZB,ZY]at z;let:=h<|Zo.mpr #[e,b,z.1]
def Wg:Str:=#[#v[47]]
theorem Xy:("/":Str)=Wg:=by lk
def jn:List (List Nat)->List Nat
 |[]=>[]
 |[x]=>x
 |x::y::r=>x++47::jn (y::r)
def CL:List Nat->List (List Nat)
 |[]=>[[]]
 |c::r=>if c=47 then[]::CL r else match CL r with
  |[]=>[[c]]
  |p::ps=>(c::p)::ps
theorem Fy:∀l,CL l≠[]
 |[]=>by simp[CL]
 |c::r=>by
  unfold CL
  split
  .simp
  .split<;>simp
theorem Ig {x:List Nat}{r:List (List Nat)}(h:r≠[]):jn (x::r)=x++47::jn r:=by
 cases r with
 |nil=>let:=absurd rfl h
 |cons y r=>rfl
theorem KQ:∀l,jn (CL l)=l
 |[]=>rfl
 |c::r=>by
  have b:=KQ r;unfold CL
  split
  .rename_i e;rw[Ig<|Fy r,b,e];rfl
  .cases q:CL r with
   |nil=>let:=absurd q<|Fy r
   |cons p ps =>
    rw[q]at b;cases ps with
    |nil=>show c::p=_;rw[show p=r from b]
    |cons y ps =>
     rw[<-b];rfl
theorem Nw:∀(a b:List Nat),CL (a++47::b)=CL a++CL b
 |[],b=>by
  show(if 47=47 then[]::CL b else _)=[[]]++CL b;rw[ZJ rfl];rfl
 |c::a,b=>by
  have d:=Nw a b;show CL (c::(a++47::b))=_;rw[CL,CL,d]
  split
  .rfl
  .cases q:CL a with
   |nil=>let:=absurd q<|Fy a
   |cons p ps=>rfl
theorem Gb:∀{p:List Nat},47∉p->CL p=[p]
 |[],_=>rfl
 |c::p,h=>by
  have b:=Gb λz=>h<|Zp _ z;unfold CL;rw[ZI<|λz=>h (by rw[z];let:=Zt),b]
theorem MH:∀{ps:List (List Nat)},ps≠[]->(∀p∈ps,47∉p)->CL (jn ps)=ps
 |[],h,_=>absurd rfl h
 |[p],_,h=>Gb<|h p Zt
 |p::q::r,_,h=>by
  rw[Ig<|by simp,Nw,Gb<|h p Zt,MH (by simp) λx b=>h x<|Zp _ b];rfl
theorem O4:∀{a b:List (List Nat)},a≠[]->b≠[]->jn (a++b)=jn a++47::jn b
 |[],_,h,_=>absurd rfl h
 |[x],b,_,hb=>Ig hb
 |x::y::r,b,_,hb=>by
  show x++47::jn ((y::r)++b)=(x++47::jn (y::r))++47::jn b;rw[O4 (by simp) hb];simp
theorem O6:∀{ps:List (List Nat)} {p:List Nat},p∈ps->p.length<=(jn ps).length
 |[],_,h=>by cases h
 |[x],p,h=>by rw[Zk.mp h];let:=Zn _
 |x::y::r,p,h=>by
  show _<=(x++47::jn (y::r)).length;rw[Zq,ZH]
  rcases Zx.mp h with rfl|h
  .lia
  .have:=O6 h;lia
theorem O5:∀{ps:List (List Nat)},ps.length<=(jn ps).length+1
 |[]=>by simp
 |[x]=>by simp
 |x::y::r=>by
  show _<=(x++47::jn (y::r)).length+1;have:=O5 (ps:=y::r);have b:(x++47::jn (y::r)).length=x.length+((jn (y::r)).length+1):=by rw[Zq,ZH]
  have c:(x::y::r).length=(y::r).length+1:=ZH;lia
def WB (l:List Nat):Str:=#[l.toArray]
theorem jj (l:List Nat):cs (WB l)=l:=by simp[WB,cs]
theorem iu (x:Str):WB (cs x)=x:=wO<|jj _
theorem jQ:∀ys:By,cs (Lh "/" ys)=jn (ys.map cs):=by
 intro ys;have e:Lh "/" ys=Ml "/" ys:=EZ "/" ys;rw[e];clear e
 induction ys with
 |nil=>rfl
 |cons x r ih =>
  cases r with
  |nil=>rfl
  |cons y r =>
   show cs (x++"/"++Ml "/" (y::r))=cs x++47::jn ((y::r).map cs);have:cs ("/":Str)=[47]:=by lk
   rw[zf,zf,ih,this];simp
theorem Rm (x:Str):Lq x "/"=(CL<|cs x).map WB:=by
 have c:cs (Ml "/"<|Lq x "/")=cs x:=by rw[StrLaws.join_split]
 have e:Lh "/" (Lq x "/")=Ml "/" (Lq x "/"):=EZ "/" _;rw[<-e,jQ]at c;have b:Lq x "/"≠[]:=by
  unfold Lq
  split
  .simp
  .split
   .simp
   .unfold Lj;intro z;have:=congrArg List.length z;simp at this
 have d:=MH (ps:=(Lq x "/").map cs) (by simpa using b) (λp g=>by
  let#[y,f,rfl]:=Zo.mp g;rw[Xy]at f;let:=StrLaws.split_free x 47 y f)
 rw[c]at d;rw[d,ZK];have:(WB∘cs)=(id:Str->Str):=funext iu;rw[this,JK]
def UO (x:Str):By:=Lq x "/"
theorem Ib (x:Str):(UO x).map cs=CL (cs x):=by
 unfold UO;rw[Rm,ZK];have:(cs∘WB)=(id:List Nat->List Nat):=funext jj;rw[this,JK]
theorem Hi {y:Str}(h:y∈UO x):y.length<=x.length:=by
 rw[yx,yx,<-KQ (cs x),<-Ib];let:=O6<|List.mem_map_of_mem h
theorem Hh (x:Str):(UO x).length<=x.length+1:=by
 have:=O5 (ps:=CL<|cs x);rw[KQ,<-Ib,Zj]at this;rwa[yx]
theorem O8 (x:Str):0<(UO x).length:=by
 have:=YS.mpr<|Fy<|cs x;rw[<-Ib,Zj]at this;let:=this
theorem uE {ys:By}(h:ys≠[])(f:∀y∈ys,47∉cs y):UO (Lh "/" ys)=ys:=by
 have:(UO<|Lh "/" ys).map cs=ys.map cs:=by
  rw[Ib,jQ,MH<|by simpa using h];intro p g;let#[y,i,rfl]:=Zo.mp g;let:=f y i
 have inj:∀{a b:By},a.map cs=b.map cs->a=b:=by
  intro a
  induction a with
  |nil =>
   intro b e;cases b with
   |nil=>rfl
   |cons _ _=>cases e
  |cons x a ih =>
   intro b e;cases b with
   |nil=>cases e
   |cons y b =>
    rw[ZR,ZR]at e;injection e with c d;rw[wO c,ih d]
 let:=inj this
def PK (x:Str):Bool:=decide ((UO x).length<=4)&&(UO x).all yB
def HN:Eg->Bool
 | .str x=>PK x
 |_=>false
theorem qI (h:yB y=true):47∉cs y:=by
 unfold yB at h;rw[ZB]at h;intro z;let:=absurd (ZQ.mp h.2 47 z) ∅
theorem Oi {ys:By}(b:ys≠[])(c:ys.length<=4)(h:∀y∈ys,yB y=true):PK (Lh "/" ys)=true:=by
 unfold PK;rw[uE b λy d=>qI<|h y d,Zm c,ZQ.mpr h];rfl
def NQ (x:Str):By:=(Eu<|(UO x).length-1).map λi=>Lh "/"<|(UO x).take<|i+1
def IA (p q:Str):Bool:=Txt.startswith q<|p++"/"
theorem Sb:IA p q=true↔∃t,cs q=cs p++47::t:=by
 unfold IA Txt.startswith;rw[StrLaws.subAt_eq,VN,Nat.zero_add,ZB,Z8,JW];have e:(p++"/":Str).cps.toList=cs p++[47]:=by
  have:cs ("/":Str)=[47]:=by lk
  show cs (p++"/")=_;rw[zf,this]
 have b:(p++"/":Str).length=(cs p).length+1:=by
  rw[yx];rw[show cs (p++"/")=cs p++[47] from e,Zq];rfl
 rw[e,b];constructor
 .rintro⟨d,c⟩;let:=#[(cs q).drop<|(cs p).length+1,?_];have:=Y8 ((cs p).length+1)<|cs q;rw[c,Yk]at this;let:=this.symm
 .rintro⟨t,h⟩;rw[yx,h];let:=#[by simp,?_];show(cs q).take _=_;rw[h];rw[show cs p++47::t=(cs p++[47])++t by simp];rw[List.take_left'<|by simp]
theorem PJ (p t:Str):IA p (p++"/"++t)=true:=by
 rw[Sb];let:=#[cs t,?_];have:cs ("/":Str)=[47]:=by lk
 rw[zf,zf,this];simp
abbrev Fi:=By×By
abbrev Dj:=List Fi
def Cv (ls:By):Str:=Lh "/" ls
structure wK (S:Dh):Prop where
 good:wY S
 th:∀e∈S,U5 e
 num:∀e∈S,e.n<S.length
def At (S:Dh)(x:Str)(t:Th):Prop:=∃e∈S,e.nm=x/\e.d=t.dat
section
variable {S T:Dh}{x y:Str}{t u:Th}
theorem TQ (g:(S.map En.nm).Nodup){e f:En}(b:e∈S)(c:f∈S)(h:e.nm=f.nm):e=f:=by
 let#[i,d,rfl]:=Yb.mp b;let#[j,l,rfl]:=Yb.mp c;have:=(Jq (h₀:=by simpa using d) (h₁:=by simpa using l) g).mp (by rwa[Ya,Ya]);subst this;rfl
theorem At.thing (g:wK S)(h:At S x t)(k:At S x u):t=u:=by
 let#[e,c,rfl,hd]:=h;let#[f,d,fn,b]:=k;have:=TQ g.good.nn d c fn;subst this;let:=vI<|hd.symm.trans b
theorem At.name (g:wK S)(h:At S x t)(k:At S y t):x=y:=by
 let#[e,c,rfl,hd]:=h;let#[f,d,rfl,b]:=k;rw[TJ g.good.nd c d<|hd.trans b.symm]
theorem At.more (h:At S x t):At (S++T) x t:=let #[e,he,a]:=h;#[e,Z4 _ he,a]
theorem At.mem (h:At S x t):x∈S.map En.nm:=let #[e,he,a,_]:=h;Zo.mpr #[e,he,a]
end
noncomputable def OC (S:Dh)(x:Str):Option Th:=open Classical in if h:∃t,At S x t then some (choose h) else none
theorem B5 (g:wK S)(h:At S x t):OC S x=some t:=by
 unfold OC;have ex:∃t,At S x t:=#[t,h];rw[dif_pos ex];let:=congrArg some<|At.thing g (Classical.choose_spec ex) h
noncomputable def xx:Nat->Dh->Str->Dj
 | 0,_,_=>[]
 |d+1,S,x=>match OC S x with
  |some (.leaf ls)=>[([],ls)]
  |some (.tree Dm)=>Dm.flatMap λr=>(xx d S r.2).map λf=>(r.1::f.1,f.2)
  |_=>[]
theorem vA {ls:By}{d:Nat}(g:wK S)(h:At S x<|.leaf ls):xx (d+1) S x=[([],ls)]:=by
 show(match OC S x with|some (.leaf ls)=>[([],ls)]|some (.tree Dm)=>_|_=>_)=_;rw[B5 g h]
theorem vC {b:Df}{d:Nat}(g:wK S)(h:At S x<|.tree b):xx (d+1) S x=b.flatMap λr=>(xx d S r.2).map λf=>(r.1::f.1,f.2):=by
 show(match OC S x with|some (.leaf ls)=>[([],ls)]|some (.tree b)=>_|_=>_)=_;rw[B5 g h]
def aJ (a b:Str):Prop:=cs a<cs b
def Tree:Nat->Dh->Str->Prop
 | 0,_,_=>False
 |d+1,S,x=>(∃c,At S x<|.leaf c)\/∃b,At S x (.tree b)/\(b.map (·.1)).Pairwise aJ/\∀r∈b,yB r.1=true/\Tree d S r.2/\xx d S r.2≠[]
theorem Tree.more {S T:Dh}(g:wK<|S++T)(b:wK S):∀{d:Nat} {x:Str},Tree d S x->Tree d (S++T) x/\xx d (S++T) x=xx d S x
 | 0,_,h=>absurd h<|λz=>z
 |d+1,x,h=>by
  rcases h with⟨ls,h⟩|⟨Dm,h,so,hr⟩
  .let:=#[.inl #[ls,h.more],by rw[vA g h.more,vA b h]]
  .have c:=λr m=>Tree.more g b (hr r m).2.1;let:=#[.inr #[Dm,h.more,so,λr m=>#[(hr r m).1,(c r m).1,by rw[(c r m).2];let:=(hr r m).2.2]],?_];rw[vC g h.more,vC b h];rw[V0,V0]
   congr 1
   let:=Yw λr m=>by rw[(c r m).2]
theorem Tree.mem (h:Tree d S x):x∈S.map En.nm:=by
 cases d with
 |zero=>let:=absurd h<|λz=>z
 |succ d =>
  rcases h with⟨ls,h⟩|⟨Dm,h,_⟩
  .let:=h.mem
  .let:=h.mem
theorem Gs (l:Str){p:By}(h:p≠[]):cs (Cv (l::p))=cs l++47::cs (Cv p):=by
 unfold Cv;rw[jQ,jQ,ZR,Ig<|by simpa using h]
theorem Nm (l:Str):cs (Cv [l])=cs l:=by
 unfold Cv;rw[jQ];rfl
theorem WV (h:aJ a b):a≠b:=λz=>by subst z;let:=List.lt_irrefl _ h
noncomputable def Cr (S:Dh)(t:Th):List En×Str:=open Classical in if h:∃x,At S x t then(S,choose h) else(S++[UY S t],(UY S t).nm)
section
variable {S T:Dh}{x:Str}{t:Th}
theorem Fr (g:wK S)(h:At S x t):Cr S t=(S,x):=by
 unfold Cr;have ex:∃x,At S x t:=#[x,h];rw[dif_pos ex];let:=congrArg (Prod.mk S)<|At.name g (Classical.choose_spec ex) h
theorem HU (h:∀e∈S,e.d≠t.dat):Cr S t=(S++[UY S t],(UY S t).nm):=by
 unfold Cr;rw[dif_neg];rintro⟨x,e,b,_,hd⟩;let:=h e b hd
theorem To {e:En}(h:e.h=UN t)(d:e.n<1000000):Ok 1000 e.nm:=by
 let:=#[?_,?_]
 .have b:=uJ t;have c:(UK e.n).length<=10:=J0 ⋯ ∅ (by
   have:e.n<10 ^ 9:=⋯
   lia)
  unfold En.nm;rw[yg,yg,h];have:dot.length=1:=rfl;lia
 .unfold En.nm;rw[h];let:=K8 (K8 (K8 (N9 t)<|K7 _)<|by lk)<|K7 _
theorem wK.nm (g:wK S){e:En}(b:e∈S):Ok 1000 e.nm:=by
 let#[t,_,_,h]:=g.th e b;let:=To h (g.good.ent e b).num
theorem wK.snoc (g:wK S)(c:t.Good)(l:S.length<2000)(h:∀e∈S,e.d≠t.dat):wK (S++[UY S t]):=by
 have nl:=Nd g.num<|UN t;let:=#[g.good.snoc #[Xj c,jI t,?_,uJ t] (λz=>?_) (K4 g.good<|jI t) l,λe b=>?_,λe b=>?_]
 .show(xg S<|UN t).getD 0<1000000;lia
 .let#[e,b,hd]:=Zo.mp z;let:=h e b hd
 .rcases ZD.mp b with z|z
  .let:=g.th e z
  .rw[Zk.mp z];let:=#[t,rfl,c,rfl]
 .rw[Zq,Yc]
  rcases ZD.mp b with z|z
  .have:=g.num e z;lia
  .rw[Zk.mp z];show(xg S<|UN t).getD 0<_;lia
theorem j0 (g:wK S)(c:t.Good)(l:S.length<2000):wK (Cr S t).1/\At (Cr S t).1 (Cr S t).2 t/\(Cr S t).1.length<=S.length+1/\∃T,(Cr S t).1=S++T/\∀e∈T,e.nm=(Cr S t).2:=by
 by_cases z:∃x,At S x t
 .let#[x,h]:=z;rw[Fr g h];let:=#[g,h,Jk _,[],(ZW _).symm,λe b=>(nomatch b)]
 .have h:=λe b hd=>z #[e.nm,e,b,rfl,hd];rw[HU h];let:=#[g.snoc c l h,#[_,ZM _<|Zk.mpr rfl,rfl,rfl],by rw[Zq];let:=Zn _,[UY S t],rfl,λe b=>by rw[Zk.mp b]]
end
noncomputable def met:Nat->Dh->Str->By
 | 0,_,_=>[]
 |d+1,S,x=>x::match OC S x with
  |some (.tree Dm)=>Dm.flatMap λr=>met d S r.2
  |_=>[]
theorem HA {ls:By}{d:Nat}(g:wK S)(h:At S x<|.leaf ls):met (d+1) S x=[x]:=by
 show x::(match OC S x with|some (.tree Dm)=>_|_=>_)=_;rw[B5 g h]
theorem Gc {b:Df}{d:Nat}(g:wK S)(h:At S x<|.tree b):met (d+1) S x=x::b.flatMap λr=>met d S r.2:=by
 show x::(match OC S x with|some (.tree b)=>_|_=>_)=_;rw[B5 g h]
theorem Pr {x:Str}{d:Nat}:x∈met (d+1) S x:=Zt ..
theorem Tree.pO {S T:Dh}(g:wK<|S++T)(b:wK S):∀{d:Nat} {x:Str},Tree d S x->met d (S++T) x=met d S x
 | 0,_,h=>absurd h<|λz=>z
 |d+1,x,h=>by
  rcases h with⟨ls,h⟩|⟨Dm,h,so,hr⟩
  .rw[HA g h.more,HA b h]
  .rw[Gc g h.more,Gc b h,V0,V0]
   congr 2
   let:=Yw λr m=>Tree.pO g b (hr r m).2.1
def WA (a b:Str×Str):Bool:=!decide (cs b.1<cs a.1)
def U0 (b:Df):Df:=b.mergeSort WA
theorem tG:WA a b=true↔cs a.1<=cs b.1:=by
 unfold WA;rw[YU,Yz];let:=Vv
theorem Kc (d:Df):(U0 d).Pairwise (λa b=>WA a b=true) :=
 List.pairwise_mergeSort (le:=WA) (λa b c e f=>tG.mpr<|List.le_trans (tG.mp e)<|tG.mp f) (λa b=>by
  rw[V5,tG,tG];let:=List.le_total _ _) d
theorem yL (b:Df):(U0 b).Perm b:=List.mergeSort_perm b WA
theorem Kb {c:Df}(nd:(c.map (·.1)).Nodup):((U0 c).map (·.1)).Pairwise aJ:=by
 have d:=((yL c).map _).nodup_iff.mpr nd;have e:((U0 c).map (·.1)).Pairwise (λa b=>cs a<=cs b):=List.pairwise_map.mpr<|(Kc c).imp λ{a b} h=>tG.mp h;let:=(e.and<|JM.mp d).imp λ{a b} h=>by
  by_cases z:cs a<cs b
  .let:=z
  .let:=absurd (wO<|Uv h.1<|Vv.mp z) h.2
theorem Ri {c g:Df}(nd:(c.map (·.1)).Nodup)(p:g.Perm c)(r:g.Pairwise<|λa b=>cs a.1<=cs b.1):g=U0 c:=by
 let:=List.Perm.eq_of_pairwise (λa b d f l n=>?_) r ((Kc c).imp λ{a b} h=>tG.mp h) (p.trans (yL c).symm);have e:=wO<|Uv l n;have d:=p.mem_iff.mp d;have f:=(yL c).mem_iff.mp f;let#[i,o,rfl]:=Yb.mp d;let#[j,q,rfl]:=Yb.mp f;have:=(Jq (h₀:=by simpa using o) (h₁:=by simpa using q) nd).mp (by rwa[Ya,Ya]);subst this;rfl
theorem BK {c d:Type}{f:c->d}{l:List c}(h:(l.map f).Nodup):l.Nodup:=by
 rw[JM]at h ⊢;rw[List.pairwise_map]at h;let:=h.imp λ{a b} n e=>n (by rw[e])
def UR (ls:By):Prop:=ls.length<=63/\∀l∈ls,UG l=true
structure xq (d:Nat)(fs:Dj):Prop where
 ur:∀f∈fs,f.1≠[]/\f.1.length<=d/\(∀l∈f.1,yB l=true)/\UR f.2
 nd:(fs.map (·.1)).Nodup
 pre:∀f∈fs,∀k∈fs,∀t,k.1=f.1++t->t=[]
def CB (fs:Dj):List (Str×By):=fs.filterMap λf=>match f.1 with
 |[a]=>some (a,f.2)
 |_=>none
def Xi (l:Str)(f:Fi):Option Fi:=match f.1 with
 |a::b::r=>if a=l then some (b::r,f.2) else none
 |_=>none
def sub (fs:Dj)(l:Str):Dj:=fs.filterMap<|Xi l
def q9 (L:By)(p:Str):By:=if p∈L then L else L++[p]
def CD (fs:Dj):By:=fs.foldl (λL f=>match f.1 with
 |a::_::_=>q9 L a
 |_=>L) []
theorem K2 {q:Str}:q∈q9 L p↔q∈L\/q=p:=by
 unfold q9
 split
 .rename_i h;let:=#[.inl,λz=>z.elim id<|λz=>z▸h]
 .rw[ZD,Zk]
theorem NE {L:By}(h:L.Nodup):(q9 L p).Nodup:=by
 unfold q9
 split
 .let:=h
 .rename_i z;let:=jN h z
theorem kF (fs:Dj)(f:Fi):CD (fs++[f])=match f.1 with
 |a::_::_=>q9 (CD fs) a
 |_=>CD fs:=by
 unfold CD;rw[Yl];rfl
theorem xB (fs:Dj):(CD fs).Nodup/\∀l,l∈CD fs↔∃f∈fs,∃b r,f.1=l::b::r:=by
 induction fs using snoc_ind with
 |h0=>let:=#[YO,λl=>#[λh=>(nomatch h),λ⟨f,d,_⟩=>(nomatch d)]]
 |h1 fs f ih =>
  rw[kF];have old:∀l,(∃k∈fs++[f],∃b r,k.1=l::b::r)↔(∃k∈fs,∃b r,k.1=l::b::r)\/∃b r,f.1=l::b::r:=λl=>by
   constructor
   .rintro⟨k,c,z⟩
    rcases ZD.mp c with q|q
    .let:=.inl #[k,q,z]
    .rw[Zk.mp q]at z;let:=.inr z
   .rintro(⟨k,c,z⟩|z)
    .let:=#[k,Z4 _ c,z]
    .let:=#[f,ZM _<|Zk.mpr rfl,z]
  match e:f.1 with
  |[]=>let:=#[ih.1,λl=>by rw[old,ih.2,e];let:=#[.inl,λz=>z.elim id λ⟨b,r,z⟩=>(nomatch z)]]
  |[a]=>let:=#[ih.1,λl=>by rw[old,ih.2,e];let:=#[.inl,λz=>z.elim id λ⟨b,r,z⟩=>(nomatch z)]]
  |a::b::r =>
   let:=#[NE ih.1,λl=>?_];rw[K2,ih.2,old,e];let:=or_congr Iff.rfl #[λz=>#[b,r,by rw[z]],λ⟨_,_,z⟩=>(List.cons.inj z).1.symm]
theorem vg {k:Fi}:k∈sub fs l↔k.1≠[]/\(l::k.1,k.2)∈fs:=by
 unfold sub;rw[Jr];constructor
 .rintro⟨f,c,e⟩;unfold Xi at e
  split at e
  .rename_i a b r q
   split at e
   .rename_i z;subst z;cases e;let:=#[Jc _ _,?_];have:f=(a::b::r,f.2):=Prod.ext q rfl;rwa[<-this]
   .cases e
  .cases e
 .rintro⟨d,c⟩;let:=#[_,c,?_];cases q:k.1 with
  |nil=>let:=absurd q d
  |cons b r =>
   unfold Xi;show(if l=l then some ((b::r,k.2):Fi) else none)=some k;rw[ZJ rfl]
   congr 1
   let:=Prod.ext q.symm rfl
theorem wN {a:Str}{ls:By}:(a,ls)∈CB fs↔([a],ls)∈fs:=by
 unfold CB;rw[Jr];constructor
 .rintro⟨f,c,e⟩
  split at e
  .rename_i b q;cases e;have:f=([a],f.2):=Prod.ext q rfl;rwa[<-this]
  .cases e
 .intro h;let:=#[_,h,rfl]
theorem xq.sub {d:Nat}(h:xq (d+1) fs)(l:Str):xq d (sub fs l):=by
 let:=#[λk g=>?_,?_,λk g m s t e=>?_]
 .let#[j,c]:=vg.mp g;let#[_,i,n,o]:=h.ur _ c;have i:k.1.length+1<=d+1:=i;let:=#[j,⋯,λz u=>n z<|Zp _ u,o]
 .have:((An.sub fs l).map λk=>l::k.1).Sublist (fs.map (·.1)):=by
   unfold An.sub;have:∀fs:Dj,((fs.filterMap<|Xi l).map λk=>l::k.1).Sublist (fs.map (·.1)):=by
    intro fs
    induction fs with
    |nil=>let:=List.Sublist.slnil
    |cons f fs ih =>
     rw[YR,ZR];cases q:Xi l f with
     |none=>let:=ih.cons _
     |some k =>
      show((l::k.1)::_).Sublist _;have e:l::k.1=f.1:=by
       unfold Xi at q
       split at q
       .rename_i a b r e
        split at q
        .rename_i z;subst z;cases q;let:=e.symm
        .cases q
       .cases q
      rw[e];let:=ih.cons₂ _
   let:=this fs
  have:=this.nodup h.nd;have e:((An.sub fs l).map λk=>l::k.1)=((An.sub fs l).map (·.1)).map (List.cons l):=by rw[ZK];rfl
  rw[e]at this;let:=BK this
 .let#[_,c]:=vg.mp g;let#[_,p]:=vg.mp s;let:=h.pre _ c _ p t (by show l::m.1=l::k.1++t;rw[e];rfl)
noncomputable def Cp (a:List En×Df)(f:Str×By):List En×Df:=((Cr a.1<|.leaf f.2).1,a.2++[(f.1,(Cr a.1<|.leaf f.2).2)])
noncomputable def UD:Nat->Dh->Dj->List En×Str
 | 0,S,_=>(S,"")
 |d+1,S,fs =>
  let b:=(CD fs).foldl (λa l=>((UD d a.1<|sub fs l).1,a.2++[(l,(UD d a.1<|sub fs l).2)])) ((CB fs).foldl Cp (S,[]))
  Cr b.1 (.tree<|U0 b.2)
structure Fo (d:Nat)(S0 S:Dh)(Dm:Df)(ps:List<|Str×Dj):Prop where
 ok:wK S
 new:∃T,S=S0++T/\∀e∈T,∃r∈Dm,e.nm∈met d S r.2
 ur:Dm.map (·.1)=ps.map (·.1)
 rd:∀(i:Nat) (r:Str×Str) (p:Str×Dj),Dm[i]?=some r->ps[i]?=some p->Tree d S r.2/\∀f,f∈xx d S r.2↔f∈p.2
theorem Fo.nil (g:wK S):Fo d S S [] []:=#[g,#[[],(ZW _).symm,λe b=>(nomatch b)],rfl,λi r p h=>(nomatch h)]
theorem Fo.len (h:Fo d S0 S Dm ps):Dm.length=ps.length:=by
 have:=congrArg List.length h.ur;rw[Zj,Zj]at this;let:=this
theorem Fo.step {T:Dh}(h:Fo d S0 S Dm ps){l n:Str}{g:Dj}(ok:wK<|S++T)(new:∀e∈T,e.nm∈met d (S++T) n)(A:Tree d (S++T) n)(rd:∀f,f∈xx d (S++T) n↔f∈g):Fo d S0 (S++T) (Dm++[(l,n)]) (ps++[(l,g)]):=by
 let#[s,u,v]:=h.new;let:=#[ok,#[s++T,by rw[<-Yk,<-u],λe w=>?_],by rw[Zu,Zu,h.ur];rfl,λi r p b c=>?_]
 .rcases ZD.mp w with z|z
  .let#[r,j,m]:=v e z;let#[i,b]:=YF.mp j;have hl:=(ZC.mp b).1;let#[t,_]:=h.rd i r _ b (Zv<|by rwa[<-h.len]);let:=#[r,Z4 _ j,by rw[t.pO ok h.ok];let:=m]
  .let:=#[(l,n),ZM _<|Zk.mpr rfl,new e z]
 .by_cases z:i<Dm.length
  .rw[ZT z]at b;rw[ZT<|by rwa[<-h.len]]at c;let#[t,k]:=h.rd i r p b c;let#[y,k2]:=t.more ok h.ok;let:=#[y,by rw[k2];let:=k]
  .rw[ZU<|⋯]at b;rw[ZU (by rw[<-h.len];lia)]at c;have o:i-Dm.length=0:=by
    rcases JL (i-Dm.length) with q|q
    .let:=q
    .rw[JN.mpr (by show 1<=_;lia)]at b;cases b
   rw[o]at b;rw[<-h.len,o]at c;cases b;cases c;let:=#[A,rd]
theorem vq:∀rs:Df,(z7 rs).length=2*rs.length
 |[]=>rfl
 |r::rs=>by
  show(z7 rs).length+1+1=2*(rs.length+1);rw[vq rs];lia
theorem Hy:∀{rs:Df} {p:Str},p∈z7 rs->∃r∈rs,p=r.1\/p=r.2
 |r::rs,p,h=>by
  rcases Zx.mp h with q|h
  .let:=#[r,Zt ..,.inl q]
  .rcases Zx.mp h with q|h
   .let:=#[r,Zt ..,.inr q]
   .let#[s,b,q]:=Hy h;let:=#[s,Zp _ b,q]
structure pF (d:Nat)(S:Dh)(fs:Dj)(q:List En×Str):Prop where
 ok:wK q.1
 new:∃T,q.1=S++T/\∀e∈T,e.nm∈met d q.1 q.2
 tree:Tree d q.1 q.2
 rd:∀f,f∈xx d q.1 q.2↔f∈fs
 node:∃Dm,At q.1 q.2<|.tree Dm
theorem BQ (h:yB x=true):Ok 1000 x:=by
 unfold yB at h;rw[ZB,ZB,Z8,Z8]at h;let:=#[⋯,?_];rw[x6];intro c b;have:=ZQ.mp h.2 c b;unfold XE at this;simp only[ZB,Z8]at this;lia
theorem FA (g:wK S){b:Df}(hl:b.length<=63)(h:∀r∈b,yB r.1=true/\r.2∈S.map En.nm):(Th.tree b).Good:=by
 let:=#[by show(z7 b).length<=1000;rw[vq];lia,λp j=>?_];let#[r,l,q]:=Hy j;let#[d,f]:=h r l
 rcases q with q|q
 .rw[q];let:=BQ d
 .let#[e,i,c]:=Zo.mp f;rw[q,<-c];let:=g.nm i
theorem Fo.put (h:Fo d S0 S Dm ps)(hl:Dm.length<=63)(nd:(ps.map (·.1)).Nodup)(y:∀p∈ps,yB p.1=true/\p.2≠[])(ls:S.length<2000):pF (d+1) S0 (ps.flatMap λp=>p.2.map λf=>(p.1::f.1,f.2)) (Cr S<|.tree<|U0 Dm)/\(Cr S<|.tree<|U0 Dm).1.length<=S.length+1:=by
 have at_:∀r∈Dm,∃p∈ps,r.1=p.1/\Tree d S r.2/\∀f,f∈xx d S r.2↔f∈p.2:=λr b=>by
  let#[i,q]:=YF.mp b;have hl:=(ZC.mp q).1;have c:=Zv (by rwa[<-h.len]);have e:=congrArg (λl=>l[i]?) h.ur;simp only[Zz,q,c,YZ]at e;let:=#[_,Ys _,Option.some.inj e,h.rd i r _ q c]
 have H:∀p∈ps,∃r∈Dm,r.1=p.1/\Tree d S r.2/\∀f,f∈xx d S r.2↔f∈p.2:=λp w=>by
  let#[i,c]:=YF.mp w;have hl:=(ZC.mp c).1;have q:=Zv (by rwa[h.len]);have e:=congrArg (λl=>l[i]?) h.ur;simp only[Zz,q,c,YZ]at e;let:=#[_,Ys _,Option.some.inj e,h.rd i _ p q c]
 have s:∀{r},r∈U0 Dm↔r∈Dm:=(yL Dm).mem_iff;have C:=FA h.ok (by rwa[(yL Dm).length_eq]) λr b=>by
  let#[p,c,e,t,_]:=at_ r<|s.mp b;let:=#[by rw[e];let:=(y p c).1,t.mem]
 let#[ok,g,G,T,n,E]:=j0 h.ok C ls;let:=#[?_,G];have ne:∀r∈Dm,xx d S r.2≠[]:=λr b=>by
  let#[p,c,e,t,k]:=at_ r b;intro z;let:=(y p c).2 (J7.mpr λf o=>?_);rw[<-k,z]at o;cases o
 rw[n]at ok g;have u:∀r∈Dm,Tree d (S++T) r.2/\xx d (S++T) r.2=xx d S r.2:=λr b=>by
  let#[p,c,e,t,k]:=at_ r b;let:=t.more ok h.ok
 let#[A,B,D]:=h.new;let:=#[by rw[n];let:=ok,#[A++T,by rw[n,B,Yk],λe F=>?_],?_,λf=>?_,#[_,by rw[n];let:=g]]
 .rw[n,Gc ok g]
  rcases ZD.mp F with z|z
  .let#[r,b,m]:=D e z;let#[p,c,_,t,_]:=at_ r b;let:=Zp _ (V1.mpr #[r,s.mpr b,by rw[t.pO ok h.ok];let:=m])
  .rw[E e z];let:=Zt ..
 .rw[n];let:=.inr #[_,g,Kb<|by rwa[h.ur],λr b=>?_];have b:=s.mp b;let#[p,c,e,t,_]:=at_ r b;let:=#[by rw[e];let:=(y p c).1,(u r b).1,by rw[(u r b).2];let:=ne r b]
 .rw[n,vC ok g,V1,V1];constructor
  .rintro⟨r,b,o⟩;have b:=s.mp b;let#[p,c,e,t,k]:=at_ r b;let#[v,j,rfl]:=Zo.mp o;rw[(u r b).2,k]at j;let:=#[p,c,Zo.mpr #[v,j,by rw[e]]]
  .rintro⟨p,c,o⟩;let#[r,b,e,t,k]:=H p c;let#[v,j,rfl]:=Zo.mp o;let:=#[r,s.mpr b,Zo.mpr #[v,by rw[(u r b).2,k];let:=j,by rw[e]]]
def wt (fs:Dj):Nat:=(fs.map λf=>f.1.length).sum
theorem MT (a b:Dj):wt (a++b)=wt a+wt b:=by
 unfold wt;rw[Zu,VE]
theorem Pf (h:UG x=true):Ok 1000 x:=by
 unfold UG at h;rw[ZB,Z8]at h;let:=#[⋯,?_];rw[x6];intro c b;have:=ZQ.mp h.2 c b;unfold UQ at this;simp only[ZB,Z8]at this;lia
theorem qK (h:UR ls):(Th.leaf ls).Good:=#[by show ls.length<=1000;have:=h.1;lia,λp b=>Pf<|h.2 p b]
theorem Ih {d:Nat}:∀(vs:List<|Str×By) {S:Dh} {Dm:Df} {ps:List (Str×Dj)},Fo (d+1) S0 S Dm ps->(∀v∈vs,UR v.2)->S.length+vs.length<=2000 ->
  Fo (d+1) S0 (vs.foldl Cp (S,Dm)).1 (vs.foldl Cp (S,Dm)).2 (ps++vs.map λv=>(v.1,[([],v.2)]))/\(vs.foldl Cp (S,Dm)).1.length<=S.length+vs.length
 |[],S,Dm,ps,h,_,_=>#[by rw[VM,ZW];let:=h,Zn _]
 |v::vs,S,Dm,ps,h,hv,hl=>by
  have hl:S.length+(vs.length+1)<=2000:=hl;let#[ok,b,p,T,g,c]:=j0 h.ok (qK<|hv v<|Zt ..) ⋯;rw[JQ];show Fo (d+1) S0 (vs.foldl Cp<|Cp (S,Dm) v).1 (vs.foldl Cp<|Cp (S,Dm) v).2 _/\(vs.foldl Cp<|Cp (S,Dm) v).1.length<=S.length+(vs.length+1);have e:Cp (S,Dm) v=((Cr S<|.leaf v.2).1,Dm++[(v.1,(Cr S<|.leaf v.2).2)]):=rfl;rw[e,ZR,show ps++(v.1,[(([],v.2):Fi)])::vs.map (λv=>(v.1,[(([],v.2):Fi)]))=(ps++[(v.1,[(([],v.2):Fi)])])++vs.map (λv=>(v.1,[(([],v.2):Fi)])) by simp];have st:Fo (d+1) S0 (Cr S<|.leaf v.2).1 (Dm++[(v.1,(Cr S<|.leaf v.2).2)]) (ps++[(v.1,[(([],v.2):Fi)])]):=by
   generalize (Cr S<|.leaf v.2).2=n at b c ⊢;rw[g]at ok b ⊢;let:=h.step ok (λe j=>by rw[c e j];let:=Pr) (.inl #[_,b]) (λf=>by rw[vA ok b])
  let#[i,o]:=Ih vs st (λw l=>hv w<|Zp _ l) ⋯;let:=#[i,⋯]
noncomputable def Cw (d:Nat)(fs:Dj)(a:List En×Df)(l:Str):List En×Df:=((UD d a.1<|sub fs l).1,a.2++[(l,(UD d a.1<|sub fs l).2)])
theorem vK (d:Nat)(S:Dh)(fs:Dj):UD (d+1) S fs=Cr ((CD fs).foldl (Cw d fs)<|(CB fs).foldl Cp (S,[])).1 (.tree<|U0 ((CD fs).foldl (Cw d fs)<|(CB fs).foldl Cp (S,[])).2):=rfl
theorem KJ {b:Dh}:∀(ls:By) (H:∀l∈ls,∀S,wK S->S.length+1+wt (sub fs l)<=2000->pF e S (sub fs l) (UD d S<|sub fs l)/\(UD d S<|sub fs l).1.length<=S.length+1+wt (sub fs l)) {S:Dh} {Dm:Df} {ps:List (Str×Dj)},
  Fo e b S Dm ps->S.length+(ls.map λl=>1+wt (sub fs l)).sum<=2000 ->
  Fo e b (ls.foldl (Cw d fs) (S,Dm)).1 (ls.foldl (Cw d fs) (S,Dm)).2 (ps++ls.map λl=>(l,sub fs l))/\(ls.foldl (Cw d fs) (S,Dm)).1.length<=S.length+(ls.map λl=>1+wt (sub fs l)).sum
 |[],_,S,Dm,ps,h,_=>#[by rw[VM,ZW];let:=h,Zn _]
 |l::ls,H,S,Dm,ps,h,hl=>by
  rw[ZR,Je]at hl;let#[pk,q]:=H l (Zt ..) S h.ok ⋯;rw[JQ,ZR,ZR,Je];have g:Cw d fs (S,Dm) l=((UD d S<|sub fs l).1,Dm++[(l,(UD d S<|sub fs l).2)]):=rfl;rw[g,show ps++(l,sub fs l)::ls.map (λl=>(l,sub fs l))=(ps++[(l,sub fs l)])++ls.map (λl=>(l,sub fs l)) by simp];let#[ok,#[T,i,c],f,rd,_]:=pk;have st:Fo e b (UD d S<|sub fs l).1 (Dm++[(l,(UD d S<|sub fs l).2)]) (ps++[(l,sub fs l)]):=by
   generalize (UD d S<|sub fs l).2=n at c f rd ⊢;rw[i]at ok c f rd ⊢;let:=h.step ok c f rd
  let#[j,p]:=KJ ls (λw o=>H w<|Zp _ o) st ⋯;let:=#[j,⋯]
theorem Ki {g g':Str->Nat}{a:Str}{c:Nat}(h:∀l,l≠a->g' l=g l)(b:g' a<=g a+c):∀{L:By},L.Nodup->(L.map g').sum<=(L.map g).sum+c
 |[],_=>ZP _
 |l::L,nd=>by
  rw[Yu]at nd;rw[ZR,ZR,Je,Je]
  by_cases z:l=a
  .subst z;have:L.map g'=L.map g:=Yw λm d=>h m λq=>nd.1<|q▸d;rw[this];lia
  .have:=Ki h b nd.2;rw[h l z];lia
theorem sub_snoc (fs:Dj)(f:Fi)(l:Str):sub (fs++[f]) l=sub fs l++(Xi l f).toList:=by
 unfold sub;rw[List.filterMap_append]
 congr 1
theorem Rp {f:Fi}(h:f.1=[]):Xi l f=none:=by unfold Xi;rw[h]
theorem Kh {f:Fi}{a:Str}(h:f.1=[a]):Xi l f=none:=by unfold Xi;rw[h]
theorem Xl {f:Fi}{a b:Str}{r:By}(h:f.1=a::b::r):Xi l f=if a=l then some (b::r,f.2) else none:=by unfold Xi;rw[h]
theorem Xs (fs:Dj)(f:Fi):CB (fs++[f])=CB fs++(match f.1 with|[a]=>[(a,f.2)]|_=>[]):=by
 unfold CB;rw[List.filterMap_append]
 congr 1
 rw[YR]
 match f.1 with
 |[]=>rfl
 |[a]=>rfl
 |a::b::r=>rfl
theorem many (fs:Dj):(CB fs).length+((CD fs).map λl=>1+wt (sub fs l)).sum<=wt fs:=by
 induction fs using snoc_ind with
 |h0=>let:=Zn _
 |h1 fs f ih =>
  have same:(∀l,Xi l f=none)->∀l,sub (fs++[f]) l=sub fs l:=λh l=>by rw[sub_snoc,h l];let:=ZW _
  rw[MT,Xs,kF,Zq];have o:wt [f]=f.1.length:=by unfold wt;simp
  rw[o]
  match e:f.1 with
  |[] =>
   have:=same λl=>Rp e;rw[show(λl=>1+wt (sub (fs++[f]) l))=λl=>1+wt (sub fs l) from funext λl=>by rw[this l]];let:=Z2 (Vb<|by simp) ih
  |[a] =>
   have:=same λl=>Kh e;rw[show(λl=>1+wt (sub (fs++[f]) l))=λl=>1+wt (sub fs l) from funext λl=>by rw[this l]];show(CB fs).length+1+((CD fs).map λl=>1+wt (sub fs l)).sum<=wt fs+1;lia
  |a::b::r =>
   show(CB fs).length+0+((q9 (CD fs) a).map λl=>1+wt (sub (fs++[f]) l)).sum<=wt fs+(r.length+1+1);have d:∀l,l≠a->1+wt (sub (fs++[f]) l)=1+wt (sub fs l):=λl hl=>by
    rw[sub_snoc,Xl e,ZI<|Er hl];show 1+wt (sub fs l++[])=_;rw[ZW]
   have g:1+wt (sub (fs++[f]) a)=1+wt (sub fs a)+(r.length+1):=by
    rw[sub_snoc,Xl e,ZJ rfl];rw[MT];show 1+(wt (sub fs a)+((b::r).length+0))=_;rw[ZH];lia
   have bump:=Ki (g':=λl=>1+wt (sub (fs++[f]) l)) d (Vb g) (xB fs).1;unfold q9
   split
   .lia
   .rename_i z;rw[Zu,VE];have n:=J7.mpr λk j=>by
     let#[h0,i]:=vg.mp j;let:=z<|((xB fs).2 a).mpr #[_,i,?_];cases q:k.1 with
     |nil=>let:=absurd q h0
     |cons b r=>let:=#[b,r,rfl]
    have c:=Yw λl hl=>d l λq=>z<|q▸hl;rw[c];show(CB fs).length+0+(((CD fs).map λl=>1+wt (sub fs l)).sum+((1+wt (sub (fs++[f]) a))+0))<=_;rw[g,n];show _+(_+(1+0+(r.length+1)+0))<=_;lia
def pieces (fs:Dj):List (Str×Dj):=(CB fs).map (λv=>(v.1,[([],v.2)]))++(CD fs).map λl=>(l,sub fs l)
theorem Mt (g:xq d fs)(f:Fi):f∈((pieces fs).flatMap λp=>p.2.map λk=>(p.1::k.1,k.2))↔f∈fs:=by
 rw[V1];constructor
 .rintro⟨p,n,c⟩;let#[k,i,rfl]:=Zo.mp c
  rcases ZD.mp n with z|z
  .let#[v,o,rfl]:=Zo.mp z;rw[Zk.mp i];let:=wN.mp o
  .let#[l,hl,rfl]:=Zo.mp z;let:=(vg.mp i).2
 .intro c;let#[j,_]:=g.ur f c
  match e:f.1 with
  |[]=>let:=absurd e j
  |[a] =>
   have h:f=([a],f.2):=Prod.ext e rfl;let:=#[(a,[([],f.2)]),Z4 _<|Zo.mpr #[(a,f.2),wN.mpr<|h▸c,rfl],Zo.mpr #[([],f.2),Zk.mpr rfl,h.symm]]
  |a::b::r =>
   have h:f=(a::b::r,f.2):=Prod.ext e rfl;let:=#[(a,sub fs a),ZM _<|Zo.mpr #[a,((xB fs).2 a).mpr #[f,c,b,r,e],rfl],Zo.mpr #[(b::r,f.2),vg.mpr #[Jc _ _,h▸c],h.symm]]
theorem Pp {fs:Dj}(nd:(fs.map (·.1)).Nodup):((CB fs).map (·.1)).Nodup:=by
 have:((CB fs).map λv=>[v.1]).Sublist (fs.map (·.1)):=by
  unfold CB
  induction fs with
  |nil=>let:=List.Sublist.slnil
  |cons f fs ih =>
   rw[ZR,Yu]at nd;rw[YR,ZR]
   match e:f.1 with
   |[]=>let:=(ih nd.2).cons _
   |[a]=>let:=(ih nd.2).cons₂ _
   |a::b::r=>let:=(ih nd.2).cons _
 have:=this.nodup nd;have e:((CB fs).map λv=>[v.1])=((CB fs).map (·.1)).map λa=>[a]:=by rw[ZK];rfl
 rw[e]at this;let:=BK this
theorem XD (g:xq d fs):((pieces fs).map (·.1)).Nodup:=by
 unfold pieces;rw[Zu,ZK,ZK,Y5];let:=#[Pp g.nd,by rw[show((λp:Str×Dj=>p.1)∘λl=>(l,sub fs l))=id from rfl,JK];let:=(xB fs).1,λa i b j z=>?_];subst z;let#[v,c,e]:=Zo.mp i;let#[l,hl,rfl]:=Zo.mp j;have e:v.1=l:=e;let#[f,n,b,r,h]:=((xB fs).2 l).mp hl;have c:=wN.mp c;have:=g.pre _ c f n (b::r) (by rw[h,e];rfl);cases this
theorem GV (g:xq d fs):∀p∈pieces fs,yB p.1=true/\p.2≠[]:=λp h=>by
 rcases ZD.mp h with z|z
 .let#[v,i,rfl]:=Zo.mp z;let:=#[(g.ur _<|wN.mp i).2.2.1 _<|Zk.mpr rfl,Jc _ _]
 .let#[l,hl,rfl]:=Zo.mp z;let#[f,e,b,r,c]:=((xB fs).2 l).mp hl;let:=#[(g.ur f e).2.2.1 _ (by rw[c];let:=Zt ..),List.ne_nil_of_mem (a:=(b::r,f.2))<|vg.mpr #[Jc _ _,?_]];have:f=(l::b::r,f.2):=Prod.ext c rfl;let:=this▸e
theorem sub_len:(sub fs l).length<=fs.length:=List.length_filterMap_le _ _
theorem jH (fs:Dj):(CB fs).length+(CD fs).length<=fs.length:=by
 induction fs using snoc_ind with
 |h0=>let:=Zn _
 |h1 fs f ih =>
  rw[Xs,kF,Zq,Zq]
  match e:f.1 with
  |[]=>show(CB fs).length+0+(CD fs).length<=fs.length+1;lia
  |[a]=>show(CB fs).length+1+(CD fs).length<=fs.length+1;lia
  |a::b::r =>
   show _+0+(q9 (CD fs) a).length<=_+1;unfold q9
   split
   .lia
   .rw[Zq];show _+0+(_+1)<=_+1;lia
theorem HR {d e:Nat}(ok:wK S)(g:xq n fs)(hl:fs.length<=63)(t:S.length+1+wt fs<=2000)
  (H:∀l∈CD fs,∀S,wK S->S.length+1+wt (sub fs l)<=2000->pF (e+1) S (sub fs l) (UD d S<|sub fs l)/\(UD d S<|sub fs l).1.length<=S.length+1+wt (sub fs l)) :
  pF (e+2) S fs (UD (d+1) S fs)/\(UD (d+1) S fs).1.length<=S.length+1+wt fs:=by
 have s:=many fs;have pl:=jH fs;let#[j,r]:=Ih (CB fs) (Fo.nil ok) (λv o=>(g.ur _<|wN.mp o).2.2.2) ⋯;have b:=KJ (CD fs) H j ⋯;let#[c,h]:=b;rw[vK];rw[JC]at c;have i:pieces fs=(CB fs).map (λv=>(v.1,[(([],v.2):Fi)]))++(CD fs).map λl=>(l,sub fs l):=rfl;rw[<-i]at c;have c:=c;have h:=h;generalize (CD fs).foldl (Cw d fs) ((CB fs).foldl Cp (S,[]))=q at c h ⊢;have p:q.2.length<=63:=by
  rw[c.len,i,Zq,Zj,Zj];lia
 let#[pk,pl]:=c.put p (XD g) (GV g) ⋯;let:=#[#[pk.ok,pk.new,pk.tree,λf=>by rw[pk.rd,Mt g],pk.node],⋯]
theorem Xr:∀(d:Nat) {S:Dh} {fs:Dj},wK S->xq (d+1) fs->fs.length<=63->S.length+1+wt fs<=2000->pF (d+2) S fs (UD (d+1) S fs)/\(UD (d+1) S fs).1.length<=S.length+1+wt fs
 | 0,S,fs,ok,g,hl,hs=>HR ok g hl hs λl hl=>by
  let#[f,i,b,r,h]:=((xB fs).2 l).mp hl;have:=(g.ur f i).2.1;rw[h,ZH,ZH]at this;lia
 |d+1,S,fs,ok,g,hl,hs=>HR ok g hl hs λl _ j e c=>Xr d e (g.sub l) (Z2 sub_len hl) c
end An
namespace AxS
open PySem PySem.Spec PyProof.Rows
theorem Ia (t:Li)(n:Nat):(t.orStandIn n).led=t.led/\(t.plain=false->(t.orStandIn n).plain=false):=by
 unfold SetTable.orStandIn
 split
 .let:=#[rfl,id]
 .let:=#[rfl,λ_=>rfl]
theorem BV (t:Li)(b:Array<|Int×D9)(h:Int)(x:D9):(layNew t b h x).2.1.led=t.led/\(t.plain=false->(layNew t b h x).2.1.plain=false):=by
 unfold layNew
 split
 .rename_i slot c _;have m:=Ia (t.put slot).1 (SetTable.insertAt b (t.put slot).2 (h,x)).size;let:=#[m.1,m.2]
 .let:=#[rfl,λ_=>rfl]
theorem KR {d b c:Nat}{led plain:Bool}{e:Array Int}{t:Li}{o:Array Nat}(h:SetTable.laid d b c led plain e=some (t,o)):t.led=led/\t.plain=plain:=by
 unfold SetTable.laid at h;simp only[Option.bind_eq_bind,Option.bind_eq_some_iff,Option.pure_def,Option.some.injEq,Prod.mk.injEq]at h;let#[_,_,h,_]:=h;rw[<-h];let:=#[rfl,rfl]
theorem IP (t:Li)(c:Array<|Int×D9)(n:Nat):(relayAll t c n).2.1.led=t.led/\(t.plain=false->(relayAll t c n).2.1.plain=false):=by
 unfold relayAll
 split
 .rename_i e b d;have m:=KR d;dsimp only
  split
  .let:=#[m.1,λz=>m.2.trans z]
  .let:=#[rfl,λ_=>rfl]
 .let:=#[rfl,λ_=>rfl]
def keyOf (e:Int×D9):Str:=match e.2 with
 | .str k _=>k
 |_=>""
def OG (prog:Ea)(w:Ef)(b:Array<|Int×D9)(t:Li)(c:By):Prop :=
 ElemsOf (strKind prog w) b.toList/\(b.toList.map keyOf).Perm c/\b.size<L5/\t.fits b.size=true/\t.led=!(w.params.followText "set-order")/\(b.size≠0->t.plain=false)
def wD (prog:Ea)(w:Ef)(h:Es)(a:D8)(d:By):Prop:=∃o b c t,h.get? a=some o/\o.ExactSet/\o.data=.set b c t/\OG prog w b t d
section
variable {prog:Ea}{w:Ef}{A:Ez}{E:D9->Dg}{s:Eb}
theorem wD.at {h':Es}(x:wD prog w h a ks)(e:∀o,h.get? a=some o->h'.get? a=some o):wD prog w h' a ks:=by
 let#[o,c,b,t,d,r]:=x;let:=#[o,c,b,t,e _ d,r]
theorem key_is {d:Array (Int×D9)}(h:ElemsOf (strKind prog w) d.toList){e:Int×D9}(i:e∈d.toList)(k:Str):(strKind prog w).is k e.2=true↔keyOf e=k:=by
 let#[#[f,b,_],_]:=h e i;let#[t,g]:=J1 b;have c:keyOf e=f:=by unfold keyOf;rw[g]
 constructor
 .intro z;rw[c];let:=(strKind prog w).inj e.2 f k b z
 .intro z;rwa[<-z,c]
theorem Hz {c:Array (Int×D9)}{d:By}(h:ElemsOf (strKind prog w) c.toList)(p:(c.toList.map keyOf).Perm d)(k:Str):k∈d↔∃e∈c.toList,(strKind prog w).is k e.2=true:=by
 rw[<-p.mem_iff,Zo];let:=#[λ⟨e,b,z⟩=>#[e,b,(key_is h b k).mpr z],λ⟨e,b,z⟩=>#[e,b,(key_is h b k).mp z]]
theorem MQ {b:Array (Int×D9)}{t:Li}{c:By}(x:OG prog w b t c):b.size=c.length:=by
 rw[<-x.2.1.length_eq,Zj,Z5]
theorem Ww {k:Str}{F:Tok}{Q:Bool->Dg}(hS:wD prog w s.heap a ks)(as:ks.length+1<L5)
  (h:∀h' r,E4 a s.heap h'->wD prog w h' a (if k∈ks then ks else ks++[k])->Q r { s with heap:=h' }) :
  Eh (Ej prog w) A (setAddHashed a (.str k F)<|hashStr w k) Q E s:=by
 let#[o,B,Z,t,P,G,hd,X]:=hS;have Do:=MQ X;let#[l,U,hb,hf,n,an]:=X;have D0:(strKind prog w).is k (.str k F)=true:=by show E3 k (.str k F)=true;simp[E3]
 have J:(Me k F).scannable=true:=rfl;have hh:hashStr w k=(strKind prog w).hash k:=rfl;rw[hh];unfold setAddHashed setAddHashedIn;let:=YJ<|Zl<|JU P hd hf ?_;dsimp only;rw[byScan_of J hb l];simp only[↓reduceIte];unfold setAddByScan;let:=Zl<|Zl<|Vu<|Zl<|wpAny_setScan_of D0 P hd hf l ?_;cases hr:List.findIdx? (λe=>(strKind prog w).is k e.2) B.toList with
 |some j =>
  let#[hj,al,_]:=List.findIdx?_eq_some_iff_getElem.mp hr;have hk:=(Hz l U k).mpr #[B.toList[j],Ys hj,al];have:=h s.heap false (Heap.SameBut.refl a s.heap) (by rw[ZJ hk];let:=#[o,B,Z,t,P,G,hd,l,U,hb,hf,n,an]);let:=Zw<|Zw this
 |none =>
  have hk:k∉ks:=λz=>by
   let#[e,he,q]:=(Hz l U k).mp z;have:=List.findIdx?_eq_none_iff.mp hr e he;rw[q]at this;cases this
  rw[ZI hk]at h;have N:∀(b:Bool) {u:Eb} {Y:Unit->Dg},Y () u->Eh (Ej prog w) A (match b with|true=>rule "set.scan.the-table-gave-way"|false=>Le ()) Y E u:=by
   intro b u Y hq;cases b
   .let:=Zw hq
   .let:=Vu hq
  have d:=layNew_perm t B ((strKind prog w).hash k)<|.str k F;have g:=layNew_fits t B ((strKind prog w).hash k)<|.str k F;have y:=BV t B ((strKind prog w).hash k)<|.str k F;generalize layNew t B ((strKind prog w).hash k) (.str k F)=L at d g y ⊢;let#[c,t1,wd,a0]:=L;dsimp only at d g y ⊢;rw[Array.toList_push]at d;have a2:c.size=B.size+1:=by rw[<-Z5,d.length_eq,Zq,Z5];rfl
  have C:=(l.push D0 J).perm d;have R:(c.toList.map keyOf).Perm (ks++[k]):=by
   let:=(d.map keyOf).trans ?_;rw[Zu];let:=U.append<|List.Perm.refl _
  have M:c.size<scanBound:=⋯
  let:=Zl<|N _ ?_;have D:∀(f:Li),f.fits c.size=true->f.led=t.led->f.plain=false->Eh (Ej prog w) A (do
    storeSet a c f
    if(!wd&&f.tooFull)=true then do
      (match(relayAll f c<|Lr c.size).2.2 with|true=>rule "set.scan.the-table-gave-way"|false=>Le ())
      storeSet a (relayAll f c<|Lr c.size).1 (relayAll f c<|Lr c.size).2.1
      Le (some true)
     else Le (some true)) (λr s'=>r=some true/\Q true s') E s:=by
   intro f aa O S;let:=Zl<|wpAny_storeSet_of P hd ?_<|fits_of_scanBound M;have T:=EM s.heap a<|Mm c f;have I:(s.heap.update a<|Mm c f).get? a=some { o with data:=.set c (Z+1) f }:=by
    have:=Yo (Mm c f) P (by rw[putSet_of c f hd];rfl);rw[putSet_of c f hd]at this;let:=this
   split
   .have p:=relayAll_perm f c<|Lr c.size;have H:=relayAll_fits f c<|Lr c.size;have v:=IP f c<|Lr c.size;generalize relayAll f c (Lr c.size)=Rl at p H v ⊢;let#[i,K,gv]:=Rl;dsimp only at p H v ⊢;have a1:i.size=c.size:=by rw[<-Z5,p.length_eq,Z5]
    let:=Zl (N _<|Zl<|wpAny_storeSet_of I rfl ?_<|fits_of_scanBound<|⋯);have ab:((s.heap.update a<|Mm c f).update a<|Mm i K).get? a=some { o with data:=.set i (Z+1+1) K }:=by
     have:=Yo (Mm i K) I (by rw[putSet_of i K rfl];rfl);rw[putSet_of i K rfl]at this;let:=this
    let:=Zw #[rfl,h _ true (T.trans<|EM _ a _) #[_,i,_,K,ab,G,rfl,C.perm p,((p.map keyOf)).trans R,⋯,H,v.1.trans<|O.trans n,λ_=>v.2 S]]
   .let:=Zw #[rfl,h _ true T #[_,c,_,f,I,G,rfl,C,R,M,aa,O.trans n,λ_=>S]]
  split
  .let:=Zl ?_;rw[hashByValue_scannable 8 J];let:=Zw ?_;let:=YH (D { t1 with plain:=false } (SetTable.fits_plain_off g) y.1 rfl) (λr s' q=>?_) λ_ _ z=>z;let#[rfl,q]:=q;let:=Zw q
  .rename_i ai;let:=Zl<|Zw ?_;simp only[↓reduceIte];let:=YH (D t1 g y.1<|by simpa using ai) (λr s' q=>?_) λ_ _ z=>z;let#[rfl,q]:=q;let:=Zw q
def step (b:By)(k:Str):By:=if k∈b then b else b++[k]
def uniq (xs:By):By:=xs.foldl step []
theorem BH (xs:By)(k:Str):uniq (xs++[k])=step (uniq xs) k:=by unfold uniq;rw[Yl];rfl
theorem Rn (b:By)(k:Str):(step b k).length<=b.length+1:=by unfold step;split<;>simp
theorem pQ:∀(n:Nat) (xs:By),xs.length=n->(uniq xs).length<=n
 | 0,xs,h=>by rw[Y6 h];let:=Zn _
 |n+1,xs,h=>by
  have b:xs≠[]:=λz=>by rw[z]at h;cases h
  rw[<-V6 b,BH];have:=pQ n xs.dropLast (by rw[List.length_dropLast];lia);have:=Rn (uniq xs.dropLast)<|xs.getLast b;lia
theorem OA {xs:By}{i:Nat}{k:Str}(h:xs[i]?=some k):uniq (xs.take<|i+1)=if k∈uniq (xs.take i) then uniq (xs.take i) else uniq (xs.take i)++[k]:=by
 have e:xs.take (i+1)=xs.take i++[k]:=by rw[YK,h];rfl
 rw[e,BH];rfl
end
section
variable {prog:Ea}{w:Ef}{A:Ez}{R:Result->Dg}{I:D8}{fp wr:Dc}{G:Array GenState->Array GenState->Prop}{n:Nat}{P:Nat->D9->Prop}{St:Nat->Dg}
theorem SH (W:WalksS prog w A.in1 I fp wr G n P St)(S:D8)(j:S∉fp)(xs:By)(O:xs.length=n)(C:∀i v,P i v->∃k t,xs[i]?=some k/\v=.str k t)(p:n+1<L5) :
  ∀(m i:Nat) (s:Eb),n-i=m->i<=n->St i s->wD prog w s.heap S (uniq<|xs.take i) ->
   (∀s',Moved (S::wr) G s s'->wD prog w s'.heap S (uniq xs)->R (.ok<|.ret .none) s')->LN (Ej prog w) A (.builtin "set.update.loop" #[[.ref S,.ref I],[]]) R s:=by
 have l:=λh=>j<|W.sub _ h;have c:∀b∈wr,b∈S::wr:=λb p=>Zp _ p;intro m
 induction m with
 |zero =>
  intro i s N M d D E;have H:i=n:=⋯
  subst H;let:=JD Vy ?_;rw[EX JG _];let:=Zl<|W.done s _ _ d λs' u=>?_;rw[<-O,ZS]at D;let:=Zw<|E s' (u.mono c)<|D.at λo e=>u.heap S _ l e
 |succ m ih =>
  intro i s N M d D E;have q:i<n:=⋯
  let:=JD Vy ?_;rw[EX JG _];let:=Zl<|W.item i s _ _ q d λv s' L B u=>?_;let#[k,t,J,rfl]:=C i v L;have F:=D.at (h':=s'.heap) λo e=>u.heap S _ l e;let:=Zl<|YJ ?_;unfold setAdd;let:=YJ ?_;let:=Zl ((strKind prog w).pyHash (by show E3 k (.str k t)=true;simp[E3]) ?_);have hl:=pQ _ (xs.take i) rfl;rw[ZL]at hl;let:=Ww F ⋯ λh' r z g=>?_;rw[<-OA J]at g;let:=Zw #[VA JG _,ih (i+1) _ ⋯ q (W.frame _ s' _ _ B (Jk _) λb p o e=>?_) g λK y f=>?_]
  .rw[z.2 b (λh:b=S=>j<|by rwa[<-h])];let:=e
  .let:=E K (Moved.trans W.gtrans ((u.mono c).then_heap (Jk _) λb o p e=>?_) y) f;rw[z.2 b (λh:b=S=>p (by rw[h];let:=Zt))];let:=e
end
section
variable {prog:Ea}{w:Ef}{A:Ez}{E:D9->Dg}{s:Eb}
def yV (w:Ef):Obj:={ cls:=.type "set",dict:=none,data:=.set #v[] 0 (.fresh 0 0<|!(w.params.followText "set-order")) }
theorem Ru {h:Es}{a:D8}{xs:By}(e:h.get? a=some (yV w)):wD prog w h a (uniq<|xs.take 0) :=
 #[_,#v[],0,_,e,#[rfl,rfl,rfl],rfl,λ_ z=>by simp at z,List.Perm.refl _,∅,by rfl,rfl,λz=>absurd rfl z]
theorem Sy (a:D9){Q₁:D9->Dg}(h:Q₁ (.ref s.heap.objs.size) { s with heap:=s.heap.push (yV w) }) :
  LN (Ej prog w) A (.call (.builtin "set.__new__") #[[.type "set",a],[]]) (wants Q₁ E) s:=by
 let:=codeAny_of_tree ?_;let:=Zl<|YW (F.newCall_set_1 a)<|Zw #[VA F.plain_set_new _,JD F.entry_set_new ?_];rw[EX F.plain_set_new _];unfold Builtin.«set.__new__» Builtin.Frozenset.newClass;have b:=sub_set_self;let#[c,g,d,e,os]:=s
 wp_walk
 let:=J8<|Zw ?_;simp only[newObj];let:=Zl<|wpAny_alloc<|Zw ?_;let:=Zw h
theorem sub_list_set:Mg (.type "list") (.type "set")=Le false:=by rw[Y9];kernel_rfl
theorem sub_list_frozenset:Mg (.type "list") (.type "frozenset")=Le false:=by rw[Y9];kernel_rfl
theorem sub_tuple_set:Mg (.type "tuple") (.type "set")=Le false:=by rw[Y9];kernel_rfl
theorem sub_tuple_frozenset:Mg (.type "tuple") (.type "frozenset")=Le false:=by rw[Y9];kernel_rfl
end
section
variable {M:Model}{A:Ez}{E:D9->Dg}{s:Eb}
theorem FD {src:Source}{n:Nat}{Q:Nat->Dg}(b:n≠0)(h:∀i,i<n->Q i { s with drawn:=s.drawn.bump src }):Eh M A (choose src n) Q E s :=
 λc p _=>#[b,h _<|Nat.mod_lt _<|Nat.pos_of_ne_zero b]
theorem GC {b:Type}{xs:List b}{i:Nat}{x:b}(h:xs[i]?=some x):(x::xs.eraseIdx i).Perm xs:=by
 induction xs generalizing i with
 |nil=>cases h
 |cons y ys ih =>
  cases i with
  |zero =>
   have h:=Option.some.inj h;subst h;let:=List.Perm.refl _
  |succ i =>
   have h:ys[i]?=some x:=by simpa using h
   let:=(List.Perm.swap y x _).trans (List.Perm.cons y<|ih h)
theorem j9 {f:Type}:∀(n:Nat) (xs:List f) (s:Eb) {Q:List f->Dg},xs.length<=n->(∀ys d,ys.Perm xs->Q ys { s with drawn:=d })->Eh M A (drawOrder n xs) Q E s
 | 0,xs,s,Q,hl,h=>by
  have e:xs=[]:=Y6 ⋯;subst e;let:=Zw<|h [] s.drawn<|List.Perm.refl _
 |n+1,[],s,Q,hl,h=>Zw<|h [] s.drawn<|List.Perm.refl _
 |n+1,x::xs,s,Q,hl,h=>by
  let:=Zl (FD (by simp) λi b=>?_);have c:=Zv b;have g:=GC c;rw[c];let:=Zl (j9 n _ _ (by rw[List.length_eraseIdx_of_lt b];simp at hl ⊢;lia) λys d j=>?_);let:=Zw<|h _ d<|(List.Perm.cons _ j).trans g
theorem Nl {d:Type}(next:Nat->Nat):∀(fuel k:Nat) (left:List d) (out:Array d),left.length=fuel->(pickOrder.go next fuel k left out).toList.Perm (out.toList++left)
 | 0,k,left,out,h=>by
  rw[Y6 h,ZW];let:=List.Perm.refl _
 |fuel+1,k,left,out,h=>by
  unfold pickOrder.go;have b:next k % left.length<left.length:=Nat.mod_lt _ ⋯;have c:=Zv b;rw[c];let:=(Nl next fuel (k+1) _ _ (by rw[List.length_eraseIdx_of_lt b];lia)).trans ?_;rw[Array.toList_push,Yk];let:=List.Perm.append_left _<|GC c
theorem XM {b:Type}(next:Nat->Nat)(xs:Array b):(LV next xs).toList.Perm xs.toList:=by
 have:=Nl next xs.size 0 xs.toList #v[] (by simp);simpa[LV] using this
end
section
variable {prog:Ea}{w:Ef}{A:Ez}{E:D9->Dg}{s:Eb}
def byText (w:Ef):Bool:=w.params.followText "set-order"
theorem IU {a:D8}{o:Obj}{b:Array (Int×D9)}{c:Nat}{t:Li}{Q:Bool->Dg}(e:s.heap.get? a=some o)(hd:o.data=.set b c t)(d:t.fits b.size=true)
  (h:Q (!byText w&&(!t.plain&&decide (b.size>1))) s):Eh (Ej prog w) A (setDrawn a) Q E s:=by
 unfold setDrawn setsByText;let:=Zl<|JU e hd d ?_;let:=Zl<|Zl<|J8<|Zw ?_;let:=Zw h
theorem vG:entryFor table "set.__iter__"=some Builtin.«frozenset.__iter__» :=
 entryFor_alias (id':="frozenset.__iter__") (by kernel_rfl) (by first|rfl|lk|(unfold String.splitOn;simp +decide [String.splitOnAux])) (by lk) (by kernel_rfl)
theorem HK:Manifest.owners.lookup (String.ofList ['r','o','t','a','r','e','t','i','_','t','e','s'].reverse)=some Manifest.sig_set_iterator:=by kernel_rfl
theorem slot_next:Slot "set_iterator" "__next__" "set_iterator.__next__" :=
 .of (owner:="set_iterator") (n:="__next__") (by rw[JS,Y7];kernel_rfl) (by lk) (by lk) (by lk)
  (by first|let:=.inl (by lk)|let:=.inr (by lk)) (by rw[Y9];kernel_rfl)
theorem entry_next:entryFor table "set_iterator.__next__"=some Builtin.«set_iterator.__next__»:=entryFor_of_tree (by kernel_rfl)
theorem args_next (a:D9):argsOk "set_iterator.__next__" #[[a],[]]:=by
 unfold argsOk;rw[Uo (n:=['_','_','t','x','e','n','_','_']) (by kernel_rfl) HK];kernel_rfl
theorem X4:Slot "set_iterator" "__iter__" "set_iterator.__iter__" :=
 .of (owner:="set_iterator") (n:="__iter__") (by rw[JS,Y7];kernel_rfl) (by lk) (by lk) (by lk)
  (by first|let:=.inl (by lk)|let:=.inr (by lk)) (by rw[Y9];kernel_rfl)
theorem FK (a:D9):argsOk "set_iterator.__iter__" #[[a],[]]:=by
 unfold argsOk;rw[Uo (n:=['_','_','r','e','t','i','_','_']) (by kernel_rfl) HK];kernel_rfl
theorem CY:entryFor table "set_iterator.__iter__"=some Builtin.«dict_keyiterator.__iter__» :=
 entryFor_alias (id':="dict_keyiterator.__iter__") (by kernel_rfl) (by first|rfl|lk|(unfold String.splitOn;simp +decide [String.splitOnAux])) (by lk) (by kernel_rfl)
def M6 (first:D9)(i:Int)(a:D8)(n b:Nat):Obj:={ cls:=.type "set_iterator",data:=.fields #v[first,EI i,.ref a,EI n,EI b] }
theorem O2 {a:D8}{o:Obj}{b:Array (Int×D9)}{g:Nat}{t:Li}{Q:D9->Dg}(c:s.heap.get? a=some o)(r:o.ExactSet)(hd:o.data=.set b g t)(f:t.fits b.size=true)(u:b.size<=1000)
  (n:(!byText w&&(!t.plain&&decide (b.size>1)))=false->Q (.ref s.heap.objs.size) { s with heap:=s.heap.push (M6 (EI 0) 0 a b.size g) })
  (p:(!byText w&&(!t.plain&&decide (b.size>1)))=true->∀(ps:List Nat) d tk,ps.Perm (Eu b.size)->Q (.ref<|s.heap.objs.size+1) { s with heap:=(s.heap.push { cls:=.type "tuple",data:=.seq (ps.map λi=>EI (i:Nat)).toArray }).push (M6 (.ref s.heap.objs.size) 0 a b.size g),drawn:=d,toks:=tk }) :
  Eh (Ej prog w) A (pyIter<|.ref a) Q E s:=by
 have j:s.TypeIs (.ref a) "set":=#[o,c,r.1];let:=Uj j PySem.F.slot_set_iter<|Yr PySem.F.slot_set_iter j vG ?_<|PySem.F.args_set_iter_1 _;unfold Builtin.«frozenset.__iter__»;let:=Zl (m:=Builtin.Frozenset.slot0 _ _)<|YW (a:=a) rfl ?_;unfold Builtin.Frozenset.sizeOf;let:=Zl<|Zl<|J3 c hd f<|Zw ?_;let:=Zl<|IU c hd f ?_;cases q:(!byText w&&(!t.plain&&decide (b.size>1))) with
 |false =>
  rw[ZI<|∅];let:=Zl<|Zw<|Zl<|wpAny_setEpoch_of c hd f ?_;simp only[newFields];let:=Zl<|Yj ?_;let:=Zw #[_,rfl,"set_iterator",_,#[_,ZG _ rfl,rfl],slot_next.lookup,n q]
 |true =>
  rw[ZJ rfl];let:=Zl (j9 b.size (Eu b.size) s (by rw[YL];let:=Zn _) λps d l=>?_);have pl:ps.length=b.size:=by rw[l.length_eq,YL]
  simp only[newTuple];let:=Zl<|Yj ?_ ?_
  .have h:(s.heap.push { cls:=.type "tuple",data:=.seq (ps.map λi=>EI (i:Nat)).toArray }).get? a=some o:=Zr _ c;let:=Zl<|wpAny_setEpoch_of (s:={ s with heap:=s.heap.push { cls:=.type "tuple",data:=.seq (ps.map λi=>EI (i:Nat)).toArray },drawn:=d }) h hd f ?_;simp only[newFields];let:=Zl<|Yj ?_;have e:(s.heap.push { cls:=.type "tuple",data:=.seq (ps.map λi=>EI (i:Nat)).toArray }).objs.size=s.heap.objs.size+1:=Jy _ _;let:=Zw #[_,rfl,"set_iterator",_,#[_,ZG _ rfl,rfl],slot_next.lookup,?_];have:=p q ps d s.toks l;rw[<-e]at this;let:=this
  .show(ps.map λi=>EI (i:Nat)).toArray.size<=sizeLine;rw[ZF,Zj,pl,Y3];lia
theorem qO {b:D8}(h:s.heap.get? b=some (M6 f i a n ep)):s.TypeIs (.ref b) "set_iterator":=#[_,h,rfl]
theorem BL {c a:D8}{o:Obj}{d:Array (Int×D9)}{e:Nat}{t:Li}{slot i DT:Nat}{x:D9}{Q:Db->Dg}(b:s.heap.get? c=some (M6 (EI slot) i a d.size e))(p:a≠c)(q:s.heap.get? a=some o)(hd:o.data=.set d e t)(l:t.fits d.size=true)
  (n:∀(A:Ez) (E:D9->Dg) (Q:Option (D9×Nat)->Dg),Q (some (x,DT)) s->Eh (Ej prog w) A (setNext a slot i e) Q E s)
  (h:∀h',h'.get? c=some (M6 (EI DT) (i+1) a d.size e)->E4 c s.heap h'->Q (some x) { s with heap:=h' }):Eh (Ej prog w) A (LO<|.ref c) Q E s:=by
 unfold LO;let:=Zl<|Vj<|YI (name:=EL "__next__") (qO b) slot_next<|Yr slot_next (qO b) entry_next ?_<|args_next _
 unfold Builtin.«set_iterator.__next__»;let:=Zl<|YW (a:=(Em c,[])) rfl ?_;let:=Zl<|Ud b rfl ?_;show Eh _ _ (setEntries a>>=_) _ _ s;let:=Zl<|J3 q hd l ?_;have g:(((d.size:Nat):Int) !=((d.size:Nat):Int))=false:=by simp
 rw[ZI (by rw[g];decide)];show Eh _ _ (setNext a slot i e>>=_) _ _ s;let:=Zl<|n _ _ _ ?_;show Eh _ _ (Mh (.ref c) 0 (EI DT)>>=_) _ _ s;let:=Zl (YV b rfl (by simp) ?_);have f:=Yo (E2 (·.setIfInBounds 0 (EI (DT:Nat)))) b rfl;let:=Zl (YV f rfl (by simp) ?_);have j:=Yo (E2 (·.setIfInBounds 1 (EI<|(i:Int)+1))) f rfl;let:=Zw #[x,rfl,Zw<|h _ j<|(EM ..).trans<|EM ..]
theorem uN {e a:D8}{o:Obj}{d:Array (Int×D9)}{f:Nat}{t:Li}{slot i:Nat}{Q:Db->Dg}(g:A.handled=none)(c:s.heap.get? e=some (M6 (EI slot) i a d.size f))(p:s.heap.get? a=some o)(hd:o.data=.set d f t)(l:t.fits d.size=true)
  (n:∀(A:Ez) (E:D9->Dg) (Q:Option (D9×Nat)->Dg),Q none s->Eh (Ej prog w) A (setNext a slot i f) Q E s)
  (h:∀h',Heap.ExtBut e s.heap h'->Q none { s with heap:=h' }):Eh (Ej prog w) A (LO<|.ref e) Q E s:=by
 unfold LO;let:=Zl<|Vj<|YI (name:=EL "__next__") (qO c) slot_next<|Yr slot_next (qO c) entry_next ?_<|args_next _
 unfold Builtin.«set_iterator.__next__»;let:=Zl<|YW (a:=(Em e,[])) rfl ?_;let:=Zl<|Ud c rfl ?_;show Eh _ _ (setEntries a>>=_) _ _ s;let:=Zl<|J3 p hd l ?_;have j:(((d.size:Nat):Int) !=((d.size:Nat):Int))=false:=by simp
 rw[ZI (by rw[j];decide)];show Eh _ _ (setNext a slot i f>>=_) _ _ s;let:=Zl<|n _ _ _ ?_;show Eh _ _ (Mh (.ref e) 2 .none>>=_) _ _ s;let:=Zl (YV c rfl (by simp) ?_);let:=Zl ?_;simp only[newExc,newTuple];let:=Zl (Yj ?_<|by size_fits);let:=Zl (m:=LG _ _) (YW (a:=EB) (by first|rfl|(simp only[LG];rfl)) ?_);let:=Yj ?_ (by size_fits);simp only[raiseNew];let:=Zl<|wpAny_handled ?_
 first|rw[show A.in1.handled=none from g]|rw[g]
 let:=Zl<|Zw<|wpAny_throw ?_;let:=Zl<|J6 (T:="StopIteration") (b:=true) #[_,ZG _ rfl,rfl] isSubtype_stop ?_;let:=Zw<|h _ ?_;let:=((Heap.ExtBut.push ?_ _).push _);let:=(EM ..).extBut
def SF (ps:List Nat):Obj:={ cls:=.type "tuple",data:=.seq (ps.map λi=>EI (i:Nat)).toArray }
theorem K5 {f a u:D8}{o:Obj}{c:Array (Int×D9)}{d:Nat}{t:Li}{i p:Nat}{ps:List Nat}{e:Int×D9}{Q:Db->Dg}(b:s.heap.get? f=some (M6 (.ref u) i a c.size d))(z:s.heap.get? u=some (SF ps))(l:s.heap.get? a=some o)(hd:o.data=.set c d t)(j:t.fits c.size=true)
  (y:ps[i]?=some p) (v:c[p]?=some e) (h:∀h',h'.get? f=some (M6 (.ref u) (i+1) a c.size d)->E4 f s.heap h'->Q (some e.2) { s with heap:=h' }):Eh (Ej prog w) A (LO<|.ref f) Q E s:=by
 unfold LO;let:=Zl<|Vj<|YI (name:=EL "__next__") (qO b) slot_next<|Yr slot_next (qO b) entry_next ?_<|args_next _
 unfold Builtin.«set_iterator.__next__»;let:=Zl<|YW (a:=(Em f,[])) rfl ?_;let:=Zl<|Ud b rfl ?_;show Eh _ _ (setEntries a>>=_) _ _ s;let:=Zl<|J3 l hd j ?_;have n:(((c.size:Nat):Int) !=((c.size:Nat):Int))=false:=by simp
 rw[ZI (by rw[n];decide)];show Eh _ _ (seqItems? (.ref u)>>=_) _ _ s;let:=Zl<|wpAny_seqItems z rfl ?_;have g:(ps.map λi=>EI ((i:Nat):Int)).toArray[i]?=some (EI (p:Nat)):=by
  rw[Vl,Zz,y];rfl
 show Eh _ _ (match(ps.map λi=>EI ((i:Nat):Int)).toArray[i]? with|some (.int place _)=>_|some _=>_|none=>_) _ _ s;rw[g];show Eh _ _ (setNextDrawn a p d>>=_) _ _ s;unfold setNextDrawn;let:=Zl<|Zl<|JU l hd j ?_;have q:(d !=d)=false:=by simp
 dsimp only;rw[ZI (by rw[q];decide)];rw[v];let:=Zw ?_;show Eh _ _ (Mh (.ref f) 1 (EI<|(i:Int)+1)>>=_) _ _ s;let:=Zl (YV b rfl (by simp) ?_);have r:=Yo (E2 (·.setIfInBounds 1 (EI<|(i:Int)+1))) b rfl;let:=Zw #[e.2,rfl,Zw<|h _ r<|EM ..]
theorem Gr {e a u:D8}{o:Obj}{d:Array (Int×D9)}{g:Nat}{t:Li}{i:Nat}{ps:List Nat}{Q:Db->Dg}(j:A.handled=none)(c:s.heap.get? e=some (M6 (.ref u) i a d.size g))(v:s.heap.get? u=some (SF ps))(q:s.heap.get? a=some o)(hd:o.data=.set d g t)(p:t.fits d.size=true)
  (r:ps[i]?=none) (h:∀h',Heap.ExtBut e s.heap h'->Q none { s with heap:=h' }):Eh (Ej prog w) A (LO<|.ref e) Q E s:=by
 unfold LO;let:=Zl<|Vj<|YI (name:=EL "__next__") (qO c) slot_next<|Yr slot_next (qO c) entry_next ?_<|args_next _
 unfold Builtin.«set_iterator.__next__»;let:=Zl<|YW (a:=(Em e,[])) rfl ?_;let:=Zl<|Ud c rfl ?_;show Eh _ _ (setEntries a>>=_) _ _ s;let:=Zl<|J3 q hd p ?_;have l:(((d.size:Nat):Int) !=((d.size:Nat):Int))=false:=by simp
 rw[ZI (by rw[l];decide)];show Eh _ _ (seqItems? (.ref u)>>=_) _ _ s;let:=Zl<|wpAny_seqItems v rfl ?_;have f:(ps.map λi=>EI ((i:Nat):Int)).toArray[i]?=none:=by
  rw[Vl,Zz,r];rfl
 show Eh _ _ (match(ps.map λi=>EI ((i:Nat):Int)).toArray[i]? with|some (.int place _)=>_|some _=>_|none=>_) _ _ s;rw[f];show Eh _ _ (Mh (.ref e) 0 (EI 0)>>=_) _ _ s;let:=Zl (YV c rfl (by simp) ?_);have n:=Yo (E2 (·.setIfInBounds 0 (EI 0))) c rfl;let:=Zl (YV n rfl (by simp) ?_);let:=Zl ?_;simp only[newExc,newTuple];let:=Zl (Yj ?_<|by size_fits);let:=Zl (m:=LG _ _) (YW (a:=EB) (by first|rfl|(simp only[LG];rfl)) ?_);let:=Yj ?_ (by size_fits);simp only[raiseNew];let:=Zl<|wpAny_handled ?_
 first|rw[show A.in1.handled=none from j]|rw[j]
 let:=Zl<|Zw<|wpAny_throw ?_;let:=Zl<|J6 (T:="StopIteration") (b:=true) #[_,ZG _ rfl,rfl] isSubtype_stop ?_;let:=Zw<|h _ ?_;let:=((Heap.ExtBut.push ?_ _).push _);let:=((EM ..).trans<|EM ..).extBut
end
section
variable {prog:Ea}{w:Ef}{A:Ez}{E:D9->Dg}{s:Eb}{a:D8}{o:Obj}{es:Array (Int×D9)}{ep:Nat}{t:Li}
theorem vX {slot i:Nat}{Q:Option (D9×Nat)->Dg}(g:byText w=true)(d:s.heap.get? a=some o)(hd:o.data=.set es ep t)(c:t.fits es.size=true)
  (h:Q (((LV (w.params.setOrder a ep) es)[i]?).map λe=>(e.2,slot)) s):Eh (Ej prog w) A (setNext a slot i ep) Q E s:=by
 have b:(Setting.mk (Ej prog w).prog (Ej prog w).w.params).params.followText "set-order"=true:=g;unfold setNext setsByText;let:=Zl<|JU d hd c ?_;let:=Zl<|Zl<|J8<|Zw ?_;rw[ZJ b];have f:(ep !=ep)=false:=by simp
 rw[ZI (by rw[f];decide)];unfold setWalk setsByText;let:=Zl<|Zl<|JU d hd c ?_;let:=Zl<|Zl<|J8<|Zw ?_;rw[ZJ b];let:=Zl<|J8 ?_;let:=Zw<|Zw h
theorem XQ {slot i:Nat}{Q:Option (D9×Nat)->Dg}(e:byText w=false)(hl:t.led=true)(l:es.size<=1)(g:s.heap.get? a=some o)(hd:o.data=.set es ep t)(f:t.fits es.size=true)
  (h:Q (match es[EY t.place slot]?,t.place[EY t.place slot]? with|some (_,x),some j=>some (x,j+1)|_,_=>none) s):Eh (Ej prog w) A (setNext a slot i ep) Q E s:=by
 have b:(Setting.mk (Ej prog w).prog (Ej prog w).w.params).params.followText "set-order"=false:=e;have c:(!t.plain&&decide (es.size>1))=false:=by rw[ZE<|⋯,Vt]
 have d:(!t.led&&!es.isEmpty)=false:=by rw[hl];rfl
 unfold setNext setsByText;let:=Zl<|JU g hd f ?_;let:=Zl<|Zl<|J8<|Zw ?_;rw[ZI (by rw[b];decide)];let:=Zl<|Zw ?_;show Eh _ _ (if(!t.plain&&decide (es.size>1))=true then _ else _) _ _ _;rw[ZI (by rw[c];decide)];let:=Zl ?_;show Eh _ _ (if(!t.led&&!es.isEmpty)=true then _ else _) _ _ _;rw[ZI (by rw[d];decide)];let:=Zw<|Zw h
theorem Fa {c:D8}{Q:D9->Dg}(b:s.heap.get? c=some (M6 f i a n ep))(h:Q (.ref c) s):Eh (Ej prog w) A (pyIter<|.ref c) Q E s:=by
 let:=Uj (qO b) X4<|Yr X4 (qO b) CY ?_<|FK _;let:=Zw #[_,rfl,"set_iterator",_,qO b,slot_next.lookup,h]
theorem aA (z:A.handled=none)(I:D8)(d:a≠I)(c:byText w=true)(hd:o.data=.set es ep t)(f:t.fits es.size=true) :
  Walks prog w A I [I,a] [I] es.size (λi v=>((LV (w.params.setOrder a ep) es).toList.map (·.2))[i]?=some v) (λi h=>h.get? I=some (M6 (EI (0:Nat)) (i:Nat) a es.size ep)/\h.get? a=some o) where
 sub:=λb c=>by simp at c;simp[c]
 frame:=λ_ _ _ st n=>#[n I (by simp) _ st.1,n a (by simp) _ st.2]
 item:=λi s Q E B st j=>by
  have hl:(LV (w.params.setOrder a ep) es).toList.length=es.size:=by rw[(XM _ es).length_eq,Z5]
  have l:(LV (w.params.setOrder a ep) es).toList[i]?=some ((LV (w.params.setOrder a ep) es).toList[i]'⋯):=Zv ⋯;generalize (LV (w.params.setOrder a ep) es).toList[i]'⋯=e at l;let:=BL (DT:=0) (x:=e.2) st.1 d st.2 hd f (λA E Q q=>vX c st.2 hd f ?_) λg y r=>?_
  .rwa[<-YE,l]
  .let:=j _ g s.toks (by rw[Zz,l];rfl) #[y,(r.2 a d).trans st.2] λb p c e=>(r.2 b<|by simpa using c).trans e
 done:=λs Q E st j=>by
  have hl:(LV (w.params.setOrder a ep) es).toList.length=es.size:=by rw[(XM _ es).length_eq,Z5]
  let:=uN z st.1 st.2 hd f (λA E Q q=>vX c st.2 hd f ?_) λg u=>j g s.toks λb p c e=>u b p (by simpa using c) e;rwa[<-YE,Z6<|⋯]
 self:=λ_ _ _ _ st h=>Fa st.1 h
theorem aD (L:A.handled=none)(I u:D8)(y:a≠I)(B:u≠I)(ps:List Nat)(g:ps.Perm<|Eu es.size)(hd:o.data=.set es ep t)(G:t.fits es.size=true) :
  Walks prog w A I [I,a,u] [I] es.size (λi v=>(ps.filterMap λp=>(es[p]?).map (·.2))[i]?=some v) (λi h=>h.get? I=some (M6 (.ref u) (i:Nat) a es.size ep)/\h.get? a=some o/\h.get? u=some (SF ps)) where
 sub:=λb c=>by simp at c;simp[c]
 frame:=λ_ _ _ st r=>#[r I (by simp) _ st.1,r a (by simp) _ st.2.1,r u (by simp) _ st.2.2]
 item:=λi s Q E O st n=>by
  have hl:ps.length=es.size:=by rw[g.length_eq,YL]
  have f:ps[i]?=some (ps[i]'⋯):=Zv ⋯;have M:ps[i]'⋯<es.size:=VI.mp<|g.mem_iff.mp<|Ys _;have F:=Y1 M;have all:ps.filterMap (λp=>(es[p]?).map (·.2))=ps.map λp=>(((es[p]?).map (·.2)).getD .none):=by
   have:∀d:List Nat,(∀q∈d,q<es.size)->d.filterMap (λp=>(es[p]?).map (·.2))=d.map λp=>(((es[p]?).map (·.2)).getD .none):=λd=>by
    induction d with
    |nil=>intro _;rfl
    |cons q d ih =>
     intro j;have C:es[q]?=some (es[q]'(j q Zt)):=Y1 _;rw[YR,ZR,C];simp only[YZ,VY];rw[ih λz N=>j z<|Zp _ N]
   let:=this ps λq j=>VI.mp<|g.mem_iff.mp j
  let:=K5 st.1 st.2.2 st.2.1 hd G f F λl K D=>?_;let:=n _ l s.toks ?_ #[K,(D.2 a y).trans st.2.1,(D.2 u B).trans st.2.2] λb H c e=>(D.2 b<|by simpa using c).trans e;rw[all,Zz,f];simp only[YZ,F,VY]
 done:=λs Q E st n=>by
  have hl:ps.length=es.size:=by rw[g.length_eq,YL]
  let:=Gr L st.1 st.2.2 st.2.1 hd G (Z6<|⋯) λl J=>n l s.toks λb H c e=>J b H (by simpa using c) e
 self:=λ_ _ _ _ st h=>Fa st.1 h
theorem IW (xs:Array Nat)(h:xs.size<=1):EY xs 0=0:=by
 unfold EY;have b:xs.size=0\/xs.size=1:=⋯
 rcases b with e|e
 .rw[e];rfl
 .rw[e];unfold SetTable.below.go;rw[ZJ<|∅];rw[ZI<|⋯];rfl
theorem NH (xs:Array Nat)(h:xs.size=1):EY xs (xs.getD 0 0+1)=1:=by
 unfold EY;rw[h];unfold SetTable.below.go;rw[ZJ<|∅];show(if xs.getD 0 (xs.getD 0 0+1)<xs.getD 0 0+1 then _ else _)=_;have e:∀d,xs.getD 0 d=xs[0]'⋯:=λd=>by
  rw[Yn,Y1<|⋯];rfl
 rw[e,e,ZJ<|⋯];rfl
def gJ (t:Li):Nat->Nat
 | 0=>0
 |_+1=>t.place.getD 0 0+1
theorem aB (H:A.handled=none)(I:D8)(f:a≠I)(d:byText w=false)(hl:t.led=true)(g:es.size<=1)(hd:o.data=.set es ep t)(c:t.fits es.size=true) :
  Walks prog w A I [I,a] [I] es.size (λi v=>(es.toList.map (·.2))[i]?=some v) (λi h=>h.get? I=some (M6 (EI ((gJ t i:Nat):Int)) (i:Nat) a es.size ep)/\h.get? a=some o) where
 sub:=λb d=>by simp at d;simp[d]
 frame:=λ_ _ _ st z=>#[z I (by simp) _ st.1,z a (by simp) _ st.2]
 item:=λi s Q E y st n=>by
  have J:i=0:=⋯
  subst J;have r:t.place.size=es.size:=by
   unfold SetTable.fits at c;rw[ZB]at c;let:=Us c.1
  have u:=Y1 y;have B:t.place[0]?=some (t.place[0]'⋯):=Y1 ⋯;have p:t.place.getD 0 0=t.place[0]'⋯:=by rw[Yn,B];rfl
  let:=BL (slot:=0) (DT:=t.place.getD 0 0+1) (x:=(es[0]'y).2) st.1 f st.2 hd c (λA E Q q=>XQ d hl g st.2 hd c ?_) λl g D=>?_
  .rwa[IW _<|⋯,u,B,<-p]
  .let:=n _ l s.toks ?_ #[g,(D.2 a f).trans st.2] λb C d e=>(D.2 b<|by simpa using d).trans e;rw[Zz,YE,u];rfl
 done:=λs Q E st n=>by
  have r:t.place.size=es.size:=by
   unfold SetTable.fits at c;rw[ZB]at c;let:=Us c.1
  let:=uN H st.1 st.2 hd c (λA E Q q=>XQ d hl g st.2 hd c ?_) λl F=>n l s.toks λb C d e=>F b C (by simpa using d) e;have G:es.size=0\/es.size=1:=⋯
  rcases G with e|e
  .rw[e];show Q (match es[EY t.place 0]?,t.place[EY t.place 0]? with|some (_,x),some j=>some (x,j+1)|_,_=>none) s;rwa[IW _<|⋯,Vg<|⋯]
  .rw[e];show Q (match es[EY t.place<|t.place.getD 0 0+1]?,t.place[EY t.place<|t.place.getD 0 0+1]? with|some (_,x),some j=>some (x,j+1)|_,_=>none) s;rwa[NH _<|⋯,Vg<|⋯]
 self:=λ_ _ _ _ st h=>Fa st.1 h
end
def qY (vs:Da)(b:By):Prop:=vs.length=b.length/\∀(i:Nat) (v:D9),vs[i]?=some v->∃k t,b[i]?=some k/\v=.str k t
section
variable {prog:Ea}{w:Ef}{A:Ez}{E:D9->Dg}{s:Eb}{a:D8}{ks:By}
theorem Gf {l:List (Int×D9)}(h:ElemsOf (strKind prog w) l):qY (l.map (·.2)) (l.map keyOf):=by
 let:=#[by rw[Zj,Zj],λi v e=>?_];rw[Zz]at e;cases q:l[i]? with
 |none=>rw[q]at e;cases e
 |some x =>
  rw[q]at e;have e:=Option.some.inj e;let#[#[k,c,_],_]:=h x<|Zy q;let#[t,b]:=J1 c;let:=#[k,t,by rw[Zz,q];show some (keyOf x)=_;unfold keyOf;rw[b],by rw[<-e];let:=b]
theorem SG {Q:D9->Dg}(T:wD prog w s.heap a ks)(Z:ks.length<=1000)(H:A.handled=none)
  (h:∀(I:D8) (fp:Dc) (h':Es) d tk (vs:Da) (zs:By) (St:Nat->Es->Prop),s.heap.objs.size<=I->(∀b∈fp,b=a\/s.heap.objs.size<=b)->(∀b o,s.heap.get? b=some o->h'.get? b=some o)->zs.Perm ks->qY vs zs -> Walks prog w A I fp [I] ks.length (λi v=>vs[i]?=some v) St->St 0 h'->Q (.ref I) { s with heap:=h',drawn:=d,toks:=tk }):Eh (Ej prog w) A (pyIter<|.ref a) Q E s:=by
 let#[o,c,M,t,B,Y,hd,X]:=T;have j:=MQ X;let#[g,K,F,G,n,L]:=X;have r:=ZN B;have y:=ZZ r;let:=O2 B Y hd G ⋯ (λq=>?_)<|λq D d tk C=>?_
 .have kp:∀b u,s.heap.get? b=some u->(s.heap.push<|M6 (EI 0) 0 a c.size M).get? b=some u:=λb u e=>Zr _ e;have l:∀b∈[s.heap.objs.size,a],b=a\/s.heap.objs.size<=b:=λb F=>by
   rcases Zx.mp F with z|z
   .let:=.inr (Vb z.symm)
   .let:=.inl (Zk.mp z)
  cases f:byText w with
  |true =>
   have W:=aA (prog:=prog) H s.heap.objs.size y f hd G;have O:=XM (w.params.setOrder a M) c;rw[j]at W;let:=h _ _ _ s.drawn s.toks _ _ _ (Zn _) l kp ((O.map keyOf).trans K) (Gf<|g.perm O) W #[by rw[<-j];let:=ZG _ rfl,Zr _ B]
  |false =>
   have S:c.size<=1:=by
    rw[f]at q
    by_cases z:c.size>1
    .rw[L<|⋯,Zm z]at q;cases q
    .lia
   have hl:t.led=true:=by rw[n];show(!byText w)=true;rw[f];rfl
   have W:=aB (prog:=prog) H s.heap.objs.size y f hl S hd G;rw[j]at W;let:=h _ _ _ s.drawn s.toks _ _ _ (Zn _) l kp K (Gf g) W #[by rw[<-j];let:=ZG _ rfl,Zr _ B]
 .have J:=ZZ<|Vp r;have W:=aD (prog:=prog) (w:=w) H (s.heap.objs.size+1) s.heap.objs.size J (ZZ<|J4 _) D C hd G;have N:(D.filterMap λp=>c[p]?).Perm c.toList:=by
   let:=(C.filterMap _).trans ?_;have e:=List.filterMap_getElem?_range_length c.toList;rw[Z5]at e;have P:(Eu c.size).filterMap (λp=>c[p]?)=(Eu c.size).filterMap λi=>c.toList[i]?:=by congr 1;funext p;let:=(YE ..).symm
   rw[P,e]
  have U:(D.filterMap λp=>(c[p]?).map (·.2))=(D.filterMap λp=>c[p]?).map (·.2):=by rw[List.map_filterMap]
  rw[j]at W;rw[U]at W;have R:(s.heap.push<|SF D).objs.size=s.heap.objs.size+1:=Jy _ _;let:=h _ _ _ d tk _ _ _ (Jk _) (λb F=>?_) (λb u e=>Zr _<|Zr _ e) ((N.map keyOf).trans K) (Gf<|g.perm N) W #[?_,Zr _<|Zr _ B,Zr _<|ZG _ rfl]
  .rcases Zx.mp F with z|z
   .let:=.inr (by rw[z];let:=Jk _)
   .rcases Zx.mp z with z|z
    .let:=.inl z
    .let:=.inr (Vb (Zk.mp z).symm)
  .rw[<-R,<-j];let:=ZG _ rfl
theorem O0 (d:s.TypeIs (.ref a) "set"){Q:Bool->Dg}(h:Q false s):Eh (Ej prog w) A (Builtin.List.listLengthHint<|.ref a) Q E s:=by
 unfold Builtin.List.listLengthHint;let:=Zl<|JR d PySem.F.slot_set_len.lookup ?_;generalize hid:("set.__len__":String)=e;wp_delta;rw[show splitId e=some ("set","__len__") from by subst hid;lk];subst hid;let:=Zl (J6 (b:=true) d (by rw[Y9];kernel_rfl) ?_);let:=wpAny_ite_split (λc=>absurd c<|∅) (λ_=>?_);let:=wpAny_ite_split (λ_=>?_) (λc=>absurd (by lk) c);let:=Zl<|Vc d ?_;let:=Zw h
open PySem.Calls PyProof.V in
theorem Oz {R:Result->Dg}(hh:A.handled=none)(y:wD prog w s.heap a ks)(hk:ks.length<=1000)(S:D8)(p:S≠a)(res:D9)(n:Nat)(L:s.heap.get? S=some { cls:=.type "list",data:=.seq #v[] n })
  (Z:∀h' d tk DK c' (zs:By),(∀b o,b≠S->s.heap.get? b=some o->h'.get? b=some o)->h'.get? S=some { cls:=.type "list",dict:=none,data:=.seq DK c',slots:=#v[] }->zs.Perm ks->qY DK.toList zs->R (.ok<|.ret res) { s with heap:=h',drawn:=d,toks:=tk }) :
  Eh (Ej prog w) A.in1 (LA (.ref S) (.ref a) res)
   (λfin s'=>match fin with|.done f=>R (.ok f) s'|.again c'=>c'.quiet=true/\LN (Ej prog w) A c' R s') (λe s'=>R (.error e) s') s:=by
 have r:=ZN L;have ty:s.TypeIs (.ref a) "set":=by let#[o,T,Q,t,D,G,_]:=y;let:=#[o,D,G.1]
 unfold LA;let:=Zl<|Vc ty ?_;have X:Builtin.List.listSameRef (.ref S) (.ref a)=false:=by simp[Builtin.List.listSameRef,p]
 have nl:(EJ "set"==EJ "list")=false:=∅
 have nt:(EJ "set"==EJ "tuple")=false:=∅
 simp only[X,nl,nt,Bool.or_false,Jb,Vs];let:=Zl<|SG y hk hh λI U h' d tk O zs St Y C kp N tx W st=>?_;have J:Shared.TypeIs { s with heap:=h',drawn:=d,toks:=tk } (.ref a) "set":=by let#[o,T,Q,t,D,G,_]:=y;let:=#[o,kp _ _ D,G.1]
 let:=Zl<|YJ<|O0 J ?_;have q:S∉U:=λz=>by
  rcases C S z with e|e
  .let:=p e
  .let:=YQ _ (Z0 r e)
 have c:=kp _ _ L;let:=wpAny_ite_split (λ_=>?_) (λz=>absurd ∅ z);let:=Zl<|Vu ?_;let:=Zl ?_;let:=Zl<|wpAny_updateSeq c rfl ?_;have g:=Yo (ES (·.push EB)) c rfl;let:=wpAny_updateSeq g rfl ?_;have j:=Yo (ES (·.pop)) g rfl;let:=Zw #[VA PySem.F.plain_extend_loop _,?_];have u:∀b o,b≠S->h'.get? b=some o->((h'.update S (ES (·.push EB))).update S (ES (·.pop))).get? b=some o:=λb o l e =>
  (Yx _ _<|Er l).trans ((Yx _ _<|Er l).trans e)
 have H:=W.frame 0 _ _ st λb l o e=>u b o (λz=>q<|z▸l) e;let:=codeAny_extend_loopS W.toS (by rw[Y3];lia) S q res ks.length 0 _ #v[] _ rfl (ZP _) H j (ItemsOf.nil _) λs' DK c' M v K=>?_;rw[Moved.eq_with M];have E:DK.toList=O:=by
  have hl:DK.toList.length=O.length:=by rw[Z5,K.1,tx.1,N.length_eq]
  let:=Uk λi=>?_
  by_cases hi:i<DK.size
  .have e:=Y1 hi;rw[YE,e];let:=(K.2 i _ e).symm
  .rw[Z6 (by rw[Z5];lia),Z6 (by rw[<-hl,Z5];lia)]
 let:=Z s'.heap d s'.toks DK c' zs (λb o l e=>M.heap b o (λh=>?_)<|u b o l<|kp b o e) v N (by rwa[E])
 rcases Zx.mp h with P|h
 .let:=l P
 .have B:=Zk.mp h;let:=absurd (B▸ZN e)<|Nat.not_lt.mpr Y
open PySem.Calls PyProof.V PySem.W in
theorem MP {R:Da->Dg}(D:A.handled=none)(z:wD prog w s.heap a ks)(i:ks.length<=1000)
  (h:∀(h':Es) d (tk:Nat) (vs:Da) (zs:By),(∀b o,s.heap.get? b=some o->h'.get? b=some o)->zs.Perm ks->qY vs zs->R vs { s with heap:=h',drawn:=d,toks:=tk }):Eh (Ej prog w) A (collect<|.ref a) R E s:=by
 have u:a<s.heap.objs.size:=by let#[o,I,H,t,G,_]:=z;let:=ZN G
 unfold collect;let:=Zl<|wpAny_runValue<|JD entry_proto_collect' ?_;rw[EX PySem.F.plain_proto_collect _];let:=Zl<|Yj ?_;let:=Zw #[VA PySem.F.plain_list_iadd _,JD entry_list_iadd' ?_];rw[EX PySem.F.plain_list_iadd _];have g:(s.heap.push { cls:=.type "list",data:=.seq ([]:Da).toArray }).get? s.heap.objs.size=some { cls:=.type "list",data:=.seq #v[] }:=ZG _ rfl;have key:=Oz (s:={ s with heap:=s.heap.push { cls:=.type "list",data:=.seq ([]:Da).toArray } })
  (R:=λ(q:Result) (v:Eb)=>∃(h':Es) (d:Drawn) (tk:Nat) (j:Array D9) (l:Nat) (zs:By),q=.ok (.ret<|.ref s.heap.objs.size)/\v={ s with heap:=h',drawn:=d,toks:=tk } /\ (∀b o,s.heap.get? b=some o->h'.get? b=some o)/\h'.get? s.heap.objs.size=some { cls:=.type "list",dict:=none,data:=.seq j l,slots:=#v[] }/\zs.Perm ks/\qY j.toList zs)
  D (z.at λo e=>Zr _ e) i s.heap.objs.size (VH u) (.ref s.heap.objs.size) 0 g
  (λh' d tk j l zs i c n p=>#[h',d,tk,j,l,zs,rfl,rfl,λb o e=>i b o (ZZ<|ZN e)<|Zr _ e,c,n,p])
 let:=YH key (λr v x=>?_) λe v x=>?_
 .cases r with
  |done f =>
   let#[h',d,tk,j,l,zs,e,rfl,i,c,n,p]:=x;cases e;let:=Zl<|wpAny_load c ?_;let:=Zw<|h h' d tk _ zs i n p
  |again c₁ =>
   let:=#[x.1,JH x.2 λq B y=>?_];let#[h',d,tk,j,l,zs,rfl,rfl,i,c,n,p]:=y;let:=Zl<|wpAny_load c ?_;let:=Zw<|h h' d tk _ zs i n p
 .let#[_,_,_,_,_,_,C,_]:=x;cases C
end
section
variable {prog:Ea}{w:Ef}{A:Ez}{E:D9->Dg}{s:Eb}
set_option maxHeartbeats 6400000 in
theorem vY {T:String}{st:D8->Nat->Es->Prop}{Y:Obj}{l:D8}{items:Array D9}{xs:By}{Q:D9->Dg}(hh:A.handled=none)(hn:∃ol:Obj,s.heap.get? l=some ol/\ol.cls=.type T/\∃n,ol.data=.seq items n)(an:Mg (.type T) (.type "set")=Le false)(al:Mg (.type T) (.type "frozenset")=Le false)(a4:(EJ T==EJ "dict")=false)
  (hp:∀{A:Ez} {E:D9->Dg} {s:Eb} {Q:D9->Dg},(∃ol:Obj,s.heap.get? l=some ol/\ol.cls=.type T/\∃n,ol.data=.seq items n)->Q (.ref s.heap.objs.size) { s with heap:=s.heap.push Y }->Eh (Ej prog w) A (pyIter<|.ref l) Q E s)
  (hw:∀{A:Ez},A.handled=none->∀I,l≠I->Walks prog w A I [I,l] [I] items.size (λi v=>items[i]?=some v) (st I))
  (h0:∀h:Es,(∃ol:Obj,h.get? l=some ol/\ol.cls=.type T/\∃n,ol.data=.seq items n)->st h.objs.size 0 (h.push Y)) (Do:xs.length=items.size) (hi:∀(i:Nat) (v:D9),items[i]?=some v->∃k t,xs[i]?=some k/\v=.str k t) (hb:items.size+1<L5)
  (h:∀(h':Es) (tk:Nat),wD prog w h' s.heap.objs.size (uniq xs)->(∀b o,s.heap.get? b=some o->h'.get? b=some o)->Q (.ref s.heap.objs.size) { s with heap:=h',toks:=tk }):Eh (Ej prog w) A (call (.type "set") [.ref l]) Q E s:=by
 let#[c,tl,ai]:=F.called_set.mro;have S:=F.called_set.made;have as:=F.called_set.sub;have h1:=F.called_set.notType;have h2:=F.called_set.canCreate;have a2:=F.typeCall_set_1<|.ref l;let:=Uw<|codeAny_of_tree ?_;let:=Zw #[Code.quiet_builtin _<|by lk,JD F.entry_type_call ?_];rw[Around.under_plain (weight_type_call_type "set" [.ref l] []) rfl]
 repeat (any_goals (first|assumption|wp_step))
 let:=JH (Sy (.ref l) (E:=E) (Q₁:=λobj f=>obj=.ref s.heap.objs.size/\f={ s with heap:=s.heap.push (yV w) }) #[rfl,rfl]) λr f X=>?_;cases r with
 |error e=>let:=X
 |ok fl =>
  cases fl with
  |ret obj =>
   let#[rfl,rfl]:=X;have K:(s.heap.push<|yV w).get? s.heap.objs.size=some (yV w):=ZG _ rfl;have hT:Shared.TypeIs { s with heap:=s.heap.push (yV w) } (.ref s.heap.objs.size) "set":=#[_,K,rfl];have a3:=F.called_set.init.lookup;have a1:=F.called_set.init.bind<|.ref s.heap.objs.size
   repeat (any_goals (first|assumption|wp_step))
   let:=JH (codeAny_call_builtin (R:=wants (λr g=>r=.none/\∃h' tk,g={ s with heap:=h',toks:=tk }/\wD prog w h' s.heap.objs.size (uniq xs) /\ (∀b o,s.heap.get? b=some o->h'.get? b=some o)) E) F.called_set.init.plain F.entry_set_init (check_set_init_1 hT ?_)) λD g d=>?_
   .have p:∃ol:Obj,(s.heap.push<|yV w).get? l=some ol/\ol.cls=.type T/\∃n,ol.data=.seq items n:=let #[ol,e,r]:=hn;#[ol,Zr _ e,r];let#[ol,U,u,nl,y]:=id p;have B:l<s.heap.objs.size:=by let#[_,e,_]:=hn;let:=ZN e
    let#[a0,aa,Z,H]:=ol;simp only at u y;subst u;subst y;unfold yV at K U;unfold Builtin.«set.__init__» noKeywords Builtin.Frozenset.updateFrom;generalize J:pyIter=PI;unfold yV
    wp_walk
    subst J;let:=hp p ?_;let:=Zl<|wpAny_runValue ?_;have O:A.in1.in1.in1.handled=none:=by simp[hh]
    have C:l≠(s.heap.push<|yV w).objs.size:=by
     rw[Jy];let:=ZZ<|Vp B
    have L:s.heap.objs.size∉[(s.heap.push<|yV w).objs.size,l]:=by
     rw[Jy];simp only[Zx,Zk,Yg,Jo,not_or];let:=#[ZZ<|J4 _,VH B]
    let:=SH ((hw O _ C).toS) s.heap.objs.size L xs Do hi hb (items.size-0) 0 _ ⋯ (ZP _)
     (h0 _ p) ?hS0 ?hR
    case hS0 =>
     have z:((s.heap.push<|yV w).push Y).get? s.heap.objs.size=some (yV w):=Zr _ K;let:=Ru z
    case hR =>
     intro s' G j;let#[h',g',d',ab,a5]:=s';have eg:=G.gens;have ed:=G.drawn;have eo:=G.os;subst eg;subst ed;subst eo;let:=Zw ?_;let:=Zw #[rfl,h',ab,rfl,j,λb o e=>?_];have q:=ZN e;have M:=ZZ q;have N:b≠(s.heap.push<|yV w).objs.size:=by
      rw[Jy];let:=ZZ<|Vp q
     let:=G.heap b o (by simp only[Zx,Zk,Yg,Jo,not_or];let:=#[M,N])<|Zr _<|Zr _ e
   .cases D with
    |error e=>let:=d
    |ok fl₂ =>
     cases fl₂ with
     |ret r =>
      let#[rfl,h',tk,rfl,j,P]:=d
      repeat (any_goals (first|assumption|wp_step))
      let:=h _ _ j P
     |_=>let:=d.elim
  |_=>let:=X.elim
theorem call_set_list {l:D8}{items:Array D9}{xs:By}{Q:D9->Dg}(e:A.handled=none)(hl:s.heap.IsList l items)(c:xs.length=items.size)(f:∀(i:Nat) (v:D9),items[i]?=some v->∃k t,xs[i]?=some k/\v=.str k t)(d:items.size+1<L5)
  (h:∀(h':Es) (tk:Nat),wD prog w h' s.heap.objs.size (uniq xs)->(∀b o,s.heap.get? b=some o->h'.get? b=some o)->Q (.ref s.heap.objs.size) { s with heap:=h',toks:=tk }):Eh (Ej prog w) A (call (.type "set") [.ref l]) Q E s :=
 vY e hl sub_list_set sub_list_frozenset ∅ (λh q=>Vm h q) (λh I n=>Walks.list h I l n items) (λh hl=>#[#[_,ZG _ rfl,rfl,rfl],Heap.IsList.push hl _]) c f d h
theorem Iw {l:D8}{items:Array D9}{xs:By}{Q:D9->Dg}(e:A.handled=none)(hl:s.heap.IsTuple l items)(c:xs.length=items.size)(f:∀(i:Nat) (v:D9),items[i]?=some v->∃k t,xs[i]?=some k/\v=.str k t)(d:items.size+1<L5)
  (h:∀(h':Es) (tk:Nat),wD prog w h' s.heap.objs.size (uniq xs)->(∀b o,s.heap.get? b=some o->h'.get? b=some o)->Q (.ref s.heap.objs.size) { s with heap:=h',toks:=tk }):Eh (Ej prog w) A (call (.type "set") [.ref l]) Q E s :=
 vY e hl sub_tuple_set sub_tuple_frozenset ∅ (λh q=>wpAny_pyIter_tuple h q) (λh I n=>Walks.tuple h I l n items) (λh hl=>#[#[_,ZG _ rfl,rfl,rfl],Heap.IsTuple.push hl _]) c f d h
end
end AxS
namespace L2
open PySem PySem.Spec PyProof.Rows AxS
def FJ (P:Ea)(w:Ef)(a:D8)(b:By):HO:=.ext λh=>wD P w h a b
theorem SI (x:wD P w h a ks):yq P w H h a (FJ P w a ks):=by
 let#[o,d,c,t,b,r]:=id x;let:=#[x,#[o,b],λf g z k=>wD.at z λo e=>k o e]
theorem Ko (x:yq P w H h a<|FJ P w a ks):wD P w h a ks:=x.1
section
variable {X:Cx}{K:Co}
def Su (P:Ea)(w:Ef):Di->Hp->VK->Prop:=λc H Q=>∃(a:D8) (b:By),c=[.ref a]/\H a=some (FJ P w a b)/\Q (.int b.length) H
theorem NK:xf X (.builtin "len") (Su X.prog X.w):=by
 intro n s A H z y Q I r h;let#[a,v,rfl,g,q]:=h;let#[u,rfl,l]:=wM r;cases l;let#[o,f,p,t,j,b,hd,c]:=Ko<|I.hok a _ g;have e:=MQ c;let#[_,_,d,i,_]:=c;have d:f.size<4096:=d;let:=call_len_set j b hd i ⋯ ?_;rw[e];let:=#[.int _,H,I.tok _,#[_,rfl],q]
theorem Inv.drew {d:Drawn}(I:Inv X Dn σ H s):Inv X Dn σ H { s with drawn:=d } :=
 #[I.ok,I.os,I.bare,I.base,I.loc,I.cell,I.free,I.wj,I.pin,I.hok,I.len]
theorem vf:∀{vs:Da} {zs:By},qY vs zs->StrsAre vs zs
 |[],[],_=>.nil
 |[],_::_,h=>by cases h.1
 |_::_,[],h=>by cases h.1
 |v::vs,z::zs,h=>by
  let#[k,t,e,rfl]:=h.2 0 v rfl;have e:=Option.some.inj e;subst e;let:=.cons _ _ (vf #[by have:=h.1;simpa using this,λi v e=>by
   let#[k,t,b,c]:=h.2 (i+1) v (by simpa using e);let:=#[k,t,by simpa using b,c]])
def P9 (P:Ea)(w:Ef):Di->Hp->VK->Prop:=λd H Q=>∃(a:D8) (b:By),d=[.ref a]/\H a=some (FJ P w a b)/\b.length<64/\∀l c,H l=none->c.Perm b->sortedS c=true->Q (.ref l) (upd H l<|.lst<|c.map V.str)
theorem Ou {Q:VK}{u:D9}{r:By}(I:Inv X Dn σ H s)(P:r.length<64)(q:∀l ss,H l=none->ss.Perm r->sortedS ss=true->Q (.ref l) (upd H l<|.lst<|ss.map V.str))
  (col:∀{R:Da->Dg} {E:D9->Dg},(∀(h':Es) d (tk:Nat) (vs:Da) (zs:By),(∀b o,s.heap.get? b=some o->h'.get? b=some o)->zs.Perm r->qY vs zs->R vs { s with heap:=h',drawn:=d,toks:=tk })->Eh (Ej X.prog X.w) X.A.in1 (collect u) R E s) :
  Eh (Ej X.prog X.w) X.A (call (.builtin "sorted") [u]) (EP X Dn σ Q) X.xe s:=by
 let:=Calls.call_function_entry kind_sorted plain_sorted entry_sorted (args_sorted1 _) ?_;unfold Builtin.«sorted»;let:=Zl<|Zw ?_;let:=Zl<|col λh' d tk c zs i j F=>?_;have f:=vf F;have S:c.length<64:=by rwa[F.1,j.length_eq]
 have U:64<=sizeLine:=by rw[Y3];decide
 let:=Zl (wpAny_newList ?_<|⋯);have g:(h'.push<|Ll "list" c.toArray 0).get? h'.objs.size=some (Ll "list" c.toArray 0):=ZG _ rfl;let:=Zl (YJ<|Yr slot_list_sort #[_,g,rfl] entry_list_sort (list_sort_treeK strKind_oneLt g f.keysOf (λG J D e=>keyKind_strs<|by rwa[<-e]) ⋯ λv K L=>#[_,rfl,?_]) (args_list_sort _));let#[h,M,z,N]:=sorted_out_str f K L;let:=Zw #[_,rfl,?_];let#[e,T]:=sortedHeap_at g;have nl:=Bn M;have y:Inv X Dn σ H { s with heap:=h',drawn:=d,toks:=tk }:=(I.kept (t':=tk) i).drew;have p:∀b t,h'.get? b=some t->(sortedHeap (h'.push<|Ll "list" c.toArray 0) h'.objs.size c ((arrOf v).map (·.2))).get? b=some t:=λb t C=>by
  have B:=ZN C;rw[sortedHeap_old (ZZ B) (by rw[Jy];let:=Vp B)];let:=Zr _ C
 have O:=y.hok.fresh<|Zn _;have n:(h.map V.str).length<=sizeLine:=by
  have:=z.length_eq;have:=j.length_eq;rw[Zj];lia
 let:=#[.ref h'.objs.size,_,y.laid (o:=.lst<|h.map V.str) (t':=tk) p (Zn _) #[n,_,e,nl,T],rfl,q _ h O (z.trans j) N]
theorem B0 (d:X.calm=true):xf X (.builtin "sorted") (P9 X.prog X.w):=by
 intro f s l H j i Q I r h;let#[a,g,rfl,c,b,q]:=h;let#[u,rfl,e]:=wM r;cases e;let:=Ou I b q λk=>MP (I.ok.hd d) (Ko<|I.hok a _ c) ⋯ k
def bC (K:Co)(P:Ea)(w:Ef):Di->Hp->VK->Prop:=λc H Q=>∃(a:D8) (b:By),c=[.ref a]/\(za K H a (b.map V.str)\/yh K H a (b.map V.str))/\b.length<=1000/\∀p,H p=none->Q (.ref p) (upd H p<|FJ P w p<|uniq b)
theorem IY {ls:By}(r:zb (ls.map V.str) us):qY us ls:=by
 let:=#[by rw[<-r.length,Zj],λi v e=>?_];have b:i<ls.length:=by have:=(ZC.mp e).1;rw[<-r.length,Zj]at this;let:=this
 let#[u,c,d]:=r.get (show(ls.map V.str)[i]?=some (V.str ls[i]) by rw[Zz,Zv b];rfl);rw[c]at e;cases e;let#[t,rfl]:=d;let:=#[_,t,Zv b,rfl]
theorem FP (p:X.calm=true)(z:X.K=K:=by rfl):xf X (.type "set") (bC K X.prog X.w):=by
 subst z;intro y s C H E D Q I r h;let#[a,A,rfl,f,hl,q]:=h;let#[u,rfl,B]:=wM r;cases B;have d:∀(g:Es) (n:Nat),wD X.prog X.w g s.heap.objs.size (uniq A)->(∀b o,s.heap.get? b=some o->g.get? b=some o)->EP X y C Q (.ref s.heap.objs.size) { s with heap:=g,toks:=n }:=λg n x k =>
  #[.ref s.heap.objs.size,_,I.laid (t':=n) k (Zn _)<|SI x,rfl,q _<|I.hok.fresh<|Zn _]
 have t:L5=4096:=rfl
 rcases f with f|f
 .let#[j,l,pl,_]:=I.list f;have c:=IY l;let:=call_set_list (I.ok.hd p) pl.isList (by rw[ZF];let:=c.1.symm) (λi v e=>c.2 i v<|by simpa using e) (by rw[ZF,c.1,t];lia) d
 .let#[j,l,pl,_]:=I.tuple f;have c:=IY l;let:=Iw (I.ok.hd p) pl (by rw[ZF];let:=c.1.symm) (λi v e=>c.2 i v<|by simpa using e) (by rw[ZF,c.1,t];lia) d
end
end L2
namespace An
open PySem PySem.Spec PyProof.Rows L2
def RZ (a b:Str):Prop:=¬b.cps.toList<a.cps.toList
theorem N6 (d:RZ a b)(e:RZ b c):RZ a c:=by
 have d:=Vv.mp d;have e:=Vv.mp e;let:=Vv.mpr<|List.le_trans d e
theorem Hj (c:RZ a b)(d:RZ b a):a=b:=by
 have e:=Uv (Vv.mp c)<|Vv.mp d;let:=wO e
theorem BP:∀(l:By) (p:Str),risingS p l=true->(p::l).Pairwise RZ
 |[],p,_=>List.pairwise_singleton _ _
 |x::r,p,h=>by
  have h:(!ltCps x.cps.toList p.cps.toList&&risingS x r)=true:=h;rw[ZB,ltCps_eq]at h;have c:RZ p x:=λz=>by rw[Zm z]at h;let:=absurd h.1 ∅
  have d:=BP r x h.2;let:=Ue.mpr #[λy b=>?_,d]
  rcases Zx.mp b with rfl|b
  .let:=c
  .let:=N6 c ((Ue.mp d).1 y b)
theorem Bx:∀{l:By},sortedS l=true->l.Pairwise RZ
 |[],_=>List.Pairwise.nil
 |x::r,h=>BP r x h
def Xu:By->Bool
 |[]=>true
 |x::r=>r.all (λy=>decide (x.cps.toList<y.cps.toList))&&Xu r
theorem qg:∀{l:By},Xu l=true↔l.Pairwise RZ/\l.Nodup
 |[]=>#[λ_=>#[List.Pairwise.nil,YO],λ_=>rfl]
 |x::r=>by
  show(r.all _&&Xu r)=true↔_;rw[ZB,qg,ZQ,Ue,Yu];constructor
  .rintro⟨b,d,e⟩;let:=#[#[λy c=>?_,d],λz=>?_,e]
   .have:=ZA<|b y c;let:=λz=>List.lt_irrefl _<|List.lt_trans this z
   .let:=List.lt_irrefl _ (ZA<|b x z)
  .rintro⟨⟨b,d⟩,e,f⟩;let:=#[λy c=>Zm ?_,d,f]
   by_cases z:x.cps.toList<y.cps.toList
   .let:=z
   .have:=Hj (b y c) z;let:=absurd (this▸c) e
theorem MI {c:By}{k:Str}(h:c.Nodup):(AxS.step c k).Nodup:=by
 unfold AxS.step
 split
 .let:=h
 .rename_i z;rw[Y5];let:=#[h,by simp,λa d b f=>by rw[Zk.mp f];let:=λe=>z<|e▸d]
theorem IN:∀(xs ks:By),ks.Nodup->(xs.foldl AxS.step ks).Nodup
 |[],ks,h=>h
 |x::xs,ks,h=>IN xs _<|MI h
theorem fold_all:∀(xs ks:By),(ks++xs).Nodup->xs.foldl AxS.step ks=ks++xs
 |[],ks,_=>by rw[ZW];rfl
 |x::xs,ks,h=>by
  have e:AxS.step ks x=ks++[x]:=by
   unfold AxS.step;rw[ZI];intro z;let:=(Y5.mp h).2.2 x z x Zt rfl
  rw[JQ,e,fold_all xs (ks++[x])<|by rwa[Yk],Yk];rfl
theorem MS (xs:By):(AxS.uniq xs).Nodup:=IN xs [] YO
theorem GP {xs:By}(h:xs.Nodup):AxS.uniq xs=xs:=fold_all xs [] h
theorem F8:∀(xs ks:By) {x:Str},x∈xs.foldl AxS.step ks->x∈ks\/x∈xs
 |[],ks,x,h=>.inl h
 |y::xs,ks,x,h=>by
  rcases F8 xs _ h with z|z
  .unfold AxS.step at z
   split at z
   .let:=.inl z
   .rcases ZD.mp z with z|z
    .let:=.inl z
    .let:=.inr (Zx.mpr<|.inl<|Zk.mp z)
  .let:=.inr (Zp _ z)
theorem Rw {xs:By}{x:Str}(h:x∈AxS.uniq xs):x∈xs:=(F8 xs [] h).elim (λz=>nomatch z) id
theorem MD {xs d:By}(c:d.Perm<|AxS.uniq xs)(f:sortedS d=true):decide (xs=d)=Xu xs:=by
 rw[YY,ZY,qg];constructor
 .intro e;subst e;let:=#[Bx f,c.nodup_iff.mpr<|MS _]
 .rintro⟨g,h⟩;rw[GP h]at c;let:=(List.Perm.eq_of_pairwise (λa b _ _=>Hj) (Bx f) g c).symm
end An
namespace PySem.SeqAt
open MeetsSeq PyProof.Rows
end PySem.SeqAt
namespace L2
open PySem PySem.Spec PyProof.Rows
section
variable {X:Cx}{K:Co}
theorem TY:CH X (EH .Is) (λx y H Q=>∃a b,x=.bl a/\y=.bl b/\Q (.bl<|a==b) H):=by
 intro e s f H x y v u Q I c d h;let#[a,b,rfl,rfl,q]:=h;cases c;cases d;let:=is_bool #[.bl _,H,I,rfl,q]
theorem Oh:CH X (EH .IsNot) (λx y H Q=>∃a b,x=.bl a/\y=.bl b/\Q (.bl<|a !=b) H):=by
 intro e s f H x y v u Q I c d h;let#[a,b,rfl,rfl,q]:=h;cases c;cases d;let:=isnot_bool #[.bl _,H,I,rfl,q]
end
end L2
namespace PySem.W
open PySem PySem.Spec PySem.Calls PyProof.Rows Builtin Builtin.ObjectAttr Builtin.Getset_descriptor
end PySem.W
namespace AxK
structure TO (β:Type) where
 lt:β->β->Bool
 fX:∀a b,lt a b=true->lt b a=false
 fZ:∀a b c,lt b a=false->lt c b=false->lt c a=false
 gK:∀a b,lt a b=false->lt b a=false->a=b
section
variable {β γ:Type}{O:TO β}
def TO.le (O:TO β)(a b:β):Prop:=O.lt b a=false
theorem TO.refl (O:TO β)(a:β):O.le a a:=by
 show O.lt a a=false;cases h:O.lt a a with
 |false=>rfl
 |true=>let:=h.symm.trans<|O.fX a a h
theorem TO.of_lt {a b:β}(h:O.lt a b=true):O.le a b:=O.fX a b h
theorem TO.trans {a b c:β}(d:O.le a b)(e:O.le b c):O.le a c:=O.fZ a b c d e
def TO.nat:TO Nat:=#[λa b=>decide (a<b),λa b h=>by have:=ZA h;let:=ZE<|⋯,λa b c d e=>by
 have:=YM d;have:=YM e;let:=ZE<|⋯,λa b d e=>by
 have:=YM d;have:=YM e;lia]
def yP (O:TO β):List β->List β->Bool
 |[],[]=>false
 |[],_::_=>true
 |_::_,[]=>false
 |a::as,b::bs=>O.lt a b||(!O.lt b a&&yP O as bs)
theorem Hu (O:TO β):∀a b:List β,yP O a b=true->yP O b a=false
 |[],[],h=>nomatch h
 |[],_::_,_=>rfl
 |_::_,[],h=>nomatch h
 |a::as,b::bs,h=>by
  unfold yP at h ⊢;cases c:O.lt a b with
  |true =>
   rw[O.fX _ _ c];simp
  |false =>
   rw[c]at h;have h:O.lt b a=false/\yP O as bs=true:=by simpa using h
   rw[h.1,Hu O as bs h.2];rfl
theorem Ht (O:TO β):∀a b:List β,yP O a b=false->yP O b a=false->a=b
 |[],[],_,_=>rfl
 |[],_::_,h,_=>nomatch h
 |_::_,[],_,h=>nomatch h
 |a::as,b::bs,c,d=>by
  unfold yP at c d;have c:=JV.mp c;have d:=JV.mp d;have e:=O.gK _ _ c.1 d.1;have f:yP O as bs=false:=by have:=c.2;rw[d.1]at this;simpa using this
  have g:yP O bs as=false:=by have:=d.2;rw[c.1]at this;simpa using this
  rw[e,Ht O as bs f g]
theorem Hv (O:TO β):∀a b c:List β,yP O b a=false->yP O c b=false->yP O c a=false
 |[],[],c,_,h=>h
 |[],_::_,[],_,_=>rfl
 |[],_::_,_::_,_,_=>rfl
 |_::_,[],c,h,_=>nomatch h
 |_::_,_::_,[],_,h=>nomatch h
 |a::as,b::bs,c::cs,d,e=>by
  unfold yP at d e ⊢;have d:=JV.mp d;have e:=JV.mp e;rw[O.fZ _ _ _ d.1 e.1,Ul];cases q:O.lt a c with
  |true=>rfl
  |false =>
   have f:=O.gK _ _ q<|O.fZ _ _ _ d.1 e.1;have g:O.lt a b=false:=by rw[f];let:=e.1
   have i:O.lt b c=false:=by rw[<-f];let:=d.1
   have j:yP O bs as=false:=by have:=d.2;rw[g]at this;simpa using this
   have l:yP O cs bs=false:=by have:=e.2;rw[i]at this;simpa using this
   rw[Hv O as bs cs j l];rfl
def TO.list (O:TO β):TO (List β):=#[yP O,Hu O,Hv O,Ht O]
def TO.by_ (O:TO β)(f:γ->β)(h:∀a b,f a=f b->a=b):TO γ:=#[λa b=>O.lt (f a)<|f b,λa b=>O.fX _ _,λa b c=>O.fZ _ _ _,λa b d e=>h a b<|O.gK _ _ d e]
end
open PySem PySem.W PyProof.Rows
def run {b:Type}(lt:Nat->Nat->Bool):KasT b->b
 | .ret a=>a
 | .ask i j k=>run lt<|k<|lt i j
theorem run_bind {b c:Type}{f:b->KasT c}:∀t:KasT b,run lt (t.bind f)=run lt (f<|run lt t)
 | .ret _=>rfl
 | .ask i j k=>run_bind<|k<|lt i j
section
variable {β:Type}{O:TO β}{key:Nat->β}
def kn (key:Nat->β)(p:Array Nat)(i:Nat):β:=key<|p.getD i 0
def Up (O:TO β)(key:Nat->β)(p:Array Nat)(n:Nat):Prop:=∀i j,i<=j->j<n->O.le (kn key p i) (kn key p j)
def Down (O:TO β)(key:Nat->β)(p:Array Nat)(n:Nat):Prop:=∀i j,i<=j->j<n->O.le (kn key p j) (kn key p i)
theorem He {p q:Array Nat}{i j:Nat}(h:p[i]?=q[j]?):kn key p i=kn key q j:=by
 unfold kn;rw[Yn,Yn,h]
theorem Up.snoc {n:Nat}(c:1<=n)(h:Up O key p n)(hl:O.le (kn key p<|n-1)<|kn key p n):Up O key p (n+1):=λi j b d=>by
 by_cases z:j<n
 .let:=h i j b z
 .have z:j=n:=⋯
  subst z
  by_cases z:i=j
  .subst z;let:=O.refl _
  .let:=TO.trans (h i (j-1) ⋯<|⋯) hl
theorem Down.snoc {n:Nat}(c:1<=n)(h:Down O key p n)(hl:O.le (kn key p n)<|kn key p<|n-1):Down O key p (n+1):=λi j b d=>by
 by_cases z:j<n
 .let:=h i j b z
 .have z:j=n:=⋯
  subst z
  by_cases z:i=j
  .subst z;let:=O.refl _
  .let:=TO.trans hl (h i (j-1) ⋯<|⋯)
theorem one_up (p:Array Nat):Up O key p 1:=λi j b c=>by
 have:i=j:=⋯
 subst this;let:=O.refl _
theorem Kz:∀(f n:Nat),1<=n->Up O key p n->∃m,run (λi j=>O.lt (key i)<|key j) (kas_asc p f n)=m/\n<=m/\m<=n+f/\Up O key p m/\(m=n+f\/O.lt (kn key p m) (kn key p<|m-1)=true)
 | 0,n,_,h=>#[n,rfl,Zn _,Zn _,h,.inl rfl]
 |f+1,n,h1,h=>by
  unfold kas_asc;show∃m,run _ (if O.lt (kn key p n) (kn key p<|n-1)=true then KasT.ret n else kas_asc p f (n+1))=m/\_;cases q:O.lt (kn key p n) (kn key p<|n-1) with
  |true=>let:=#[n,by rw[ZJ rfl];rfl,Zn _,⋯,h,.inr q]
  |false =>
   rw[ZI<|∅];let#[m,e,a,b,c,d]:=Kz f (n+1) ⋯<|h.snoc h1 q;let:=#[m,e,⋯,⋯,c,d.imp (λz=>⋯) id]
theorem MA {p:Array Nat}{i j:Nat}(b:j<=p.size)(k:Nat):kn key (kas_rev p i j) k=if i<=k/\k<j then kn key p (i+j-1-k) else kn key p k:=by
 have e:=getElem?_mirror_all (i:=i) b k;unfold kas_rev
 by_cases z:i<=k/\k<j
 .rw[ZJ z]at e ⊢;let:=He e
 .rw[ZI z]at e ⊢;let:=He e
theorem GB {p:Array Nat}{i j:Nat}(b:j<=p.size)(h:∀k,i<=k->k<j->kn key p k=kn key p (j-1))(k:Nat):kn key (kas_rev p i j) k=kn key p k:=by
 rw[MA b]
 split
 .rw[h _ ⋯<|⋯,h k ⋯<|⋯]
 .rfl
theorem xK (p:Array Nat)(i j:Nat):(kas_rev p i j).Perm p:=mirror_perm _ _ _ _
theorem Down.jc (h:Down O key p n)(e:∀k,kn key q k=kn key p k):Down O key q n:=λi j b c=>by
 rw[e,e];let:=h i j b c
def Flat (key:Nat->β)(p:Array Nat)(n q:Nat):Prop:=q+1<=n/\∀i,n-(q+1)<=i->i<n->kn key p i=kn key p (n-1)
theorem Iy {n:Nat}(h:1<=n):Flat key p n 0:=#[h,λi b c=>by
 have:i=n-1:=⋯
 rw[this]]
theorem Ie:∀(f:Nat) (p:Array Nat) (n q:Nat),1<=n->n+f<=p.size->Down O key p n->Flat key p n q ->
  ∃p' n' q',run (λi j=>O.lt (key i)<|key j) (kas_desc f p n q)=(p',n',q')/\p'.Perm p/\n<=n'/\n'<=n+f/\Down O key p' n'/\Flat key p' n' q'
 | 0,p,n,q,_,_,h,hq=>#[p,n,q,rfl,Array.Perm.refl _,Zn _,Zn _,h,hq]
 |f+1,p,n,q,h1,hz,h,hq=>by
  unfold kas_desc;show∃p' n' q',run (λi j=>O.lt (key i)<|key j) (if O.lt (kn key p n) (kn key p<|n-1)=true then(if q>0 then kas_desc f (kas_rev p (n-(q+1)) n) (n+1) 0 else kas_desc f p (n+1) 0)
   else .ask (p.getD (n-1) 0) (p.getD n 0) λd=>if d=true then .ret (p,n,q) else kas_desc f p (n+1) (q+1))=(p',n',q')/\_
  cases c:O.lt (kn key p n) (kn key p<|n-1) with
  |true =>
   rw[ZJ rfl];have hd:=h.snoc h1<|TO.of_lt c
   by_cases z:q>0
   .rw[ZJ z];have o:=GB ⋯ hq.2;let#[p',n',q',e,a,b,d,g,k]:=Ie f (kas_rev p (n-(q+1)) n) (n+1) 0 ⋯ (by rw[(xK p _ _).size_eq];lia) (hd.jc o) (Iy<|⋯);let:=#[p',n',q',e,a.trans<|xK _ _ _,⋯,⋯,g,k]
   .rw[ZI z];let#[p',n',q',e,a,b,d,g,k]:=Ie f p (n+1) 0 ⋯ ⋯ hd (Iy<|⋯);let:=#[p',n',q',e,a,⋯,⋯,g,k]
  |false =>
   rw[ZI<|∅];show∃p' n' q',run (λi j=>O.lt (key i)<|key j) (if O.lt (kn key p<|n-1) (kn key p n)=true then KasT.ret (p,n,q) else kas_desc f p (n+1) (q+1))=(p',n',q')/\_;cases d:O.lt (kn key p<|n-1) (kn key p n) with
   |true=>let:=#[p,n,q,by rw[ZJ rfl];rfl,Array.Perm.refl _,Zn _,⋯,h,hq]
   |false =>
    rw[ZI<|∅];have eq:=O.gK _ _ c d;have o:Flat key p (n+1) (q+1):=#[by have:=hq.1;lia,λi r s=>by
     rw[show n+1-1=n by lia]
     by_cases z:i=n
     .rw[z]
     .rw[eq];let:=hq.2 i ⋯<|⋯]
    let#[p',n',q',e,a,b,g,k,l]:=Ie f p (n+1) (q+1) ⋯ ⋯ (h.snoc h1 d) o;let:=#[p',n',q',e,a,⋯,⋯,k,l]
theorem Kk {p:Array Nat}{n Dv:Nat}(d:1<=n)(o:n<=Dv)(q:Dv<=p.size)(h:Down O key p n) :
  ∃m p',run (λi j=>O.lt (key i)<|key j) (kas_tail3 n Dv p)=(m,p')/\p'.Perm p/\1<=m/\m<=Dv/\Up O key p' m:=by
 have g:Up O key (kas_rev p 0 n) n:=λi j f l=>by
  rw[MA<|⋯,MA<|⋯,ZJ<|⋯,ZJ<|⋯];let:=h _ _ ⋯ ⋯
 let#[m,e,a,b,c,_]:=Kz (Dv-n) n d g;let:=#[m,kas_rev p 0 n,?_,xK _ _ _,⋯,⋯,c];unfold kas_tail3;rw[run_bind,e];rfl
theorem X5 {p:Array Nat}{n Dv:Nat}(w:n+1<=Dv)(y:Dv<=p.size)(h:Down O key p<|n+1) :
  ∃m p',run (λi j=>O.lt (key i)<|key j) (kas_descPart n Dv p)=(m,p')/\p'.Perm p/\1<=m/\m<=Dv/\Up O key p' m:=by
 let#[p',A,v,e,a,b,c,d,t]:=Ie (Dv-(n+1)) p (n+1) 0 ⋯ ⋯ h (Iy<|⋯);have s:Dv<=p'.size:=by rwa[a.size_eq]
 unfold kas_descPart;rw[run_bind,e]
 by_cases z:v>0
 .rw[ZJ z];have u:=GB ⋯ t.2;let#[m,f,r,g,l,o,q]:=Kk (Dv:=Dv) ⋯ ⋯ (by rwa[(xK p' _ _).size_eq]) (d.jc u);let:=#[m,f,r,(g.trans<|xK _ _ _).trans a,l,o,q]
 .rw[ZI z];let#[m,f,r,g,l,o,q]:=Kk ⋯ ⋯ s d;let:=#[m,f,r,g.trans a,l,o,q]
theorem OM {p:Array Nat}{Dv:Nat}(C:1<=Dv)(B:Dv<=p.size) :
  ∃m p',run (λi j=>O.lt (key i)<|key j) (kas_count Dv p)=(m,p')/\p'.Perm p/\1<=m/\m<=Dv/\Up O key p' m:=by
 let#[n,e,a,b,c,d]:=Kz (Dv-1) 1 (Zn _)<|one_up p;unfold kas_count;rw[run_bind,e]
 by_cases z:n=Dv
 .rw[ZJ<|by simpa using z];let:=#[n,p,rfl,Array.Perm.refl _,a,⋯,c]
 rw[ZI<|by simpa using z];have h:=d.resolve_left ⋯
 by_cases g:n>1
 .rw[ZJ g];show∃m p',run _ (if O.lt (kn key p 0) (kn key p<|n-1)=true then KasT.ret (n,p) else kas_descPart n Dv (kas_rev p 0 n))=(m,p')/\_;cases q:O.lt (kn key p 0) (kn key p<|n-1) with
  |true =>
   rw[ZJ rfl];let:=#[n,p,rfl,Array.Perm.refl _,a,⋯,c]
  |false =>
   rw[ZI<|∅];have f:∀k,0<=k->k<n->kn key p k=kn key p (n-1):=λk _ A =>
    O.gK _ _ (TO.trans q<|c 0 k ⋯ A) (c k (n-1) ⋯<|⋯)
   have y:=GB ⋯ f;have v:Down O key p n:=λi j l o=>by
    rw[f i ⋯<|⋯,f j ⋯ o];let:=O.refl _
   let#[m,p',w,r,s,t,u]:=X5 (Dv:=Dv) ⋯ (by rwa[(xK p _ _).size_eq]) ((v.snoc a<|TO.of_lt h).jc y);let:=#[m,p',w,r.trans<|xK _ _ _,s,t,u]
 .rw[ZI g];have g:n=1:=⋯
  subst g;let:=X5 ⋯ B (Down.snoc (Zn _) (λi j l o=>by
   have:i=j:=⋯
   subst this;let:=O.refl _)<|TO.of_lt h)
theorem Gh (c:Up O key p k):∀(f l r:Nat),l<=r->r<=k->r-l<=f->(∀i,i<l->O.le (kn key p i) (kn key p k))->(∀i,r<=i->i<k->O.lt (kn key p k) (kn key p i)=true) ->
  ∃m,run (λi j=>O.lt (key i)<|key j) (kas_place p k f l r)=m/\m<=k/\(∀i,i<m->O.le (kn key p i) (kn key p k))/\(∀i,m<=i->i<k->O.lt (kn key p k) (kn key p i)=true)
 | 0,l,r,h1,h2,h3,h4,h5=>#[l,rfl,⋯,h4,λi d b=>h5 i ⋯ b]
 |f+1,l,r,h1,h2,h3,h4,h5=>by
  unfold kas_place
  by_cases z:l≥r
  .rw[ZJ z];let:=#[l,rfl,⋯,h4,λi d b=>h5 i ⋯ b]
  rw[ZI z];show∃m,run _ (if O.lt (kn key p k) (kn key p<|(l+r) / 2)=true then kas_place p k f l ((l+r) / 2) else kas_place p k f ((l+r) / 2+1) r)=m/\_;cases q:O.lt (kn key p k) (kn key p<|(l+r) / 2) with
  |true =>
   rw[ZJ rfl];let:=Gh c f l ((l+r) / 2) ⋯ ⋯ ⋯ h4 λi d b=>?_;cases w:O.lt (kn key p k) (kn key p i) with
   |true=>rfl
   |false =>
    have:=O.fZ _ _ _ (c _ _ d b) w;rw[q]at this;let:=this.symm
  |false =>
   rw[ZI<|∅];let:=Gh c f ((l+r) / 2+1) r ⋯ ⋯ ⋯ (λi d=>TO.trans (c i ((l+r) / 2) ⋯<|⋯) q) h5
theorem Bw {p:Array Nat}{k l:Nat}(b:k<p.size)(hl:l<=k)(i:Nat):kn key (bubble p k<|k-l) i=if i=l then kn key p k else if l<i/\i<=k then kn key p (i-1) else kn key p i:=by
 have e:=getElem?_bubble b (k-l) ⋯ i;rw[show k-(k-l)=l by lia]at e
 by_cases z:i=l
 .rw[ZJ z]at e ⊢;let:=He e
 .rw[ZI z]at e ⊢
  by_cases z:l<i/\i<=k
  .rw[ZJ z]at e ⊢;let:=He e
  .rw[ZI z]at e ⊢;let:=He e
theorem OJ:∀(f:Nat) (p:Array Nat) (k:Nat),k+f<=p.size->Up O key p k->∃p',run (λi j=>O.lt (key i)<|key j) (kas_bin f p k)=p'/\p'.Perm p/\Up O key p' (k+f)
 | 0,p,k,_,h=>#[p,rfl,Array.Perm.refl _,h]
 |f+1,p,k,hz,h=>by
  let#[m,e,a,b,c]:=Gh h k 0 k ⋯ (Zn _) ⋯ (λi q=>⋯) (λi s t=>⋯);have o:Up O key (bubble p k<|k-m) (k+1):=λi j n r=>by
   rw[Bw ⋯ a,Bw ⋯ a]
   repeat' split
   all_goals first
    |(exfalso;lia)
    |let:=O.refl _
    |let:=b _ ⋯
    |let:=TO.of_lt (c _ ⋯<|⋯)
    |let:=h _ _ ⋯ ⋯
  let#[p',l,d,g]:=OJ f (bubble p k<|k-m) (k+1) (by rw[bubble_size];lia) o;unfold kas_bin;rw[run_bind,e];let:=#[p',l,d.trans<|bubble_perm _ _ _,by rw[show k+(f+1)=k+1+f by lia];let:=g]
theorem SA {n:Nat}(p:1<=n):∃p',run (λi j=>O.lt (key i)<|key j) (kas_sort n)=p'/\p'.Perm (Lb<|Eu n)/\Up O key p' n:=by
 have h:(Lb<|Eu n).size=n:=by simp
 let#[m,p',e,a,b,c,d]:=OM p<|Vb h.symm;unfold kas_sort;rw[run_bind,e];have em:max m 1=m:=⋯
 rw[em]
 by_cases z:m<n
 .rw[ZJ z];let#[f,o,l,g]:=OJ (n-m) p' m (by rw[a.size_eq,h];lia) d;let:=#[f,o,l.trans a,by rw[show m+(n-m)=n by lia]at g;let:=g]
 .rw[ZI z];have z:m=n:=⋯
  rw[z]at d;let:=#[p',rfl,a,d]
end
def Asks (n:Nat){c:Type}(R:c->Prop):KasT c->Prop
 | .ret a=>R a
 | .ask i j k=>i<n/\j<n/\∀b,Asks n R<|k b
theorem Asks.bind {c g:Type}{R:c->Prop}{d:g->Prop}{f:c->KasT g}(e:∀a,R a->Asks n d (f a)):∀{t:KasT c},Asks n R t->Asks n d (t.bind f)
 | .ret a,h=>e a h
 | .ask i j k,h=>#[h.1,h.2.1,λb=>Asks.bind e<|h.2.2 b]
theorem Asks.wp {n:Nat}{c:Type}{R:c->Prop}{b:Nat->Nat->(Bool->Dg)->Dg}{lt:Nat->Nat->Bool}{s:Eb}(d:∀i j,i<n->j<n->∀C:Bool->Dg,C (lt i j) s->b i j C s){Q:c->Dg} :
  ∀{t:KasT c},Asks n R t->Q (run lt t) s->t.kasWp b Q s
 | .ret _,_,q=>q
 | .ask i j k,h,q=>d i j h.1 h.2.1 _<|Asks.wp d (h.2.2 _) q
def Bd (n:Nat)(p:Array Nat):Prop:=∀i:Nat,p.getD i 0<n
theorem Bd.perm {q:Array Nat}(h:Bd n p)(e:q.Perm p):Bd n q:=λi=>by
 rw[Yn]
 rcases Jw i q.size with z|z
 .rw[Uz q i z];have d:=e.mem_iff.mp<|Array.getElem_mem z;let#[j,c,b]:=Array.getElem_of_mem d;have:=h j;rw[Yn,Uz p j c,b]at this;let:=this
 .rw[Vg z];have:=h p.size;rw[Yn,Vg<|Zn _]at this;let:=this
theorem IF (h:Bd n p):∀f m:Nat,Asks n (λ_=>True) (kas_asc p f m)
 | 0,m=>trivial
 | f+1,m=>#[h _,h _,λc=>by
  show Asks n _ (if c=true then KasT.ret m else kas_asc p f (m+1))
  split
  .trivial
  .let:=IF h f (m+1)]
theorem uZ:∀(f:Nat) (p:Array Nat) (m q:Nat),Bd n p->Asks n (λr=>Bd n r.1) (kas_desc f p m q)
 | 0,p,m,q,h=>h
 | f+1,p,m,q,h=>#[h _,h _,λc=>by
  cases c with
  |true =>
   split
   .let:=uZ f _ _ _ (h.perm<|xK _ _ _)
   .let:=uZ f _ _ _ h
  |false =>
   let:=#[h _,h _,λd=>?_];cases d with
   |true=>let:=h
   |false=>let:=uZ f _ _ _ h]
theorem Iv {m r:Nat}(h:Bd n p):Asks n (λr=>Bd n r.2) (kas_tail3 m r p):=by
 have b:Bd n (kas_rev p 0 m):=h.perm<|xK _ _ _;unfold kas_tail3;let:=Asks.bind (λa _=>?_)<|IF b _ _;let:=b
theorem uO {m r:Nat}(h:Bd n p):Asks n (λr=>Bd n r.2) (kas_descPart m r p):=by
 let:=Asks.bind (λa b=>?_)<|uZ _ _ _ _ h
 split
 .let:=Iv (Bd.perm b<|xK _ _ _)
 .let:=Iv b
theorem KG {r:Nat}(h:Bd n p):Asks n (λr=>Bd n r.2) (kas_count r p):=by
 let:=Asks.bind (λa _=>?_)<|IF h _ _
 split
 .let:=h
 .split
  .let:=#[h _,h _,λc=>?_];cases c with
   |true=>let:=h
   |false=>let:=uO<|h.perm<|xK _ _ _
  .let:=uO h
theorem vH {k:Nat}(h:Bd n p):∀f l r:Nat,Asks n (λ_=>True) (kas_place p k f l r)
 | 0,l,r=>trivial
 |f+1,l,r=>by
  unfold kas_place
  split
  .trivial
  .let:=#[h _,h _,λc=>?_];cases c with
   |true=>let:=vH h f _ _
   |false=>let:=vH h f _ _
theorem FM:∀(f:Nat) (p:Array Nat) (k:Nat),Bd n p->Asks n (λr=>Bd n r) (kas_bin f p k)
 | 0,p,k,h=>h
 |f+1,p,k,h=>Asks.bind (λl _=>FM f _ _<|h.perm<|bubble_perm _ _ _) (vH h _ _ _)
theorem Ot {n:Nat}(c:1<=n):Asks n (λr=>Bd n r) (kas_sort n):=by
 have h:Bd n (Lb<|Eu n):=λi=>by
  rw[Yn,Vl]
  rcases Jw i n with z|z
  .rwa[Vz z]
  .rw[Z6<|by rwa[YL]];let:=c
 let:=Asks.bind (λa b=>?_)<|KG h
 split
 .let:=FM _ _ _ b
 .let:=b
end AxK
namespace L2
open PySem PySem.Spec PyProof.Rows PySem.W AxK
section
variable {prog:Ea}{w:Ef}{A:Ez}{E:D9->Dg}{s:Eb}
theorem MC {a:D8}{vs:Da}{n:Nat}{κ:SortKind}{lt:Nat->Nat->Bool}{P:PySem.Fin->Dg}(y:s.heap.get? a=some (Ll "list" vs.toArray n))(z:vs.length<64)
  (N:2<=vs.length->∀s1:Eb,(∀b o,b≠a->s.heap.get? b=some o->s1.heap.get? b=some o)->(∀(Q:SortKind->Dg) (E':D9->Dg),Q κ s1->Eh (Ej prog w) A (keyKind' vs.toArray) Q E' s1) /\ ∀i j,i<vs.length->j<vs.length->∀C:Bool->Dg,C (lt i j) s1->kas_ask prog w A κ vs i j C s1)
  (h:∀p:Array Nat,(vs.length<2/\p=Lb (Eu vs.length))\/(2<=vs.length/\p=run lt (kas_sort vs.length))->P (.done<|.ret .none) { s with heap:=sortedHeap s.heap a vs (Lb<|p.toList.map λi=>vs.getD i EB) }) :
  Eh (Ej prog w) A (Builtin.«list.sort» #[[.ref a],[]]) P E s:=by
 have S:=ZN y;have R:=EM s.heap a<|ES λ_=>(#v[]:Array D9);let#[n1,t]:∃I,(s.heap.update a<|ES λ_=>(#v[]:Array D9)).get? a=some (Ll "list" #v[] I):=#[_,get?_update_seq y λ_=>#v[]];have d:(((s.heap.update a<|ES λ_=>(#v[]:Array D9)).push (Ll "tuple" vs.toArray 0)).push (Ll "list" #v[] 0)).get? a=some (Ll "list" #v[] n1):=Zr _<|Zr _ t;have keep:∀b o,b≠a->s.heap.get? b=some o->(((s.heap.update a<|ES λ_=>(#v[]:Array D9)).push (Ll "tuple" vs.toArray 0)).push (Ll "list" #v[] 0)).get? b=some o:=λb o L q =>
  Zr _ (Zr _<|by rwa[Heap.get?_update_ne _ _ _ _ L])
 have c:vs.toArray.size=vs.length:=by simp
 rw[list_sort_plain];let:=Zl (listItems_at y rfl<|Zl<|Uq y rfl (Zl<|seqEpoch_at t rfl<|Zl<|wpAny_newTuple (Zl<|wpAny_newList (YJ ?_)<|ZP _) (by show vs.length<=_;rw[Y3];lia)) (by rw[ZF,Y3];lia)<|ZP _);dsimp only
 by_cases K:vs.length<2
 .have r:=h (Lb<|Eu vs.length)<|.inl #[K,rfl];have J:(Lb<|(Lb<|Eu vs.length).toList.map λi=>vs.getD i EB)=(vs.toArray.zip vs.toArray).map (·.2):=by
   have e:=kas_range<|vs.toArray.zip vs.toArray;rw[show(vs.toArray.zip vs.toArray).size=vs.length by simp]at e;let:=(kat_snds (st:=SortSt.mk' general' (vs.toArray.zip vs.toArray) #v[] 7 none) rfl e.symm).symm
  rw[J]at r;rw[ZJ<|by rwa[c],ZJ<|by rwa[c]];let:=Zl<|Zw ?_;rw[StateT.run_pure];let:=Zl<|Zw ?_;let:=Zl (seqEpoch_at d rfl<|Zl<|Uq d rfl ?_ (ZP _) (by rw[Array.size_map,Array.size_zip,c,Nat.min_self,Y3];lia));simp only[bne_self_eq_false,Jb,Vs];let:=Zw r
 .have l:2<=vs.length:=⋯
  rw[ZI<|by rwa[c],ZI<|by rwa[c]];let#[k1,k2]:=N l { s with heap:=((s.heap.update a<|ES λ_=>(#v[]:Array D9)).push (Ll "tuple" vs.toArray 0)).push (Ll "list" #v[] 0) } keep;let:=Zl<|k1 _ _ ?_;have g:(kas_sort vs.length).kasWp (kas_ask prog w A κ vs) (λp v=>p=run lt (kas_sort vs.length)/\v={ s with heap:=((s.heap.update a<|ES λ_=>(#v[]:Array D9)).push (Ll "tuple" vs.toArray 0)).push (Ll "list" #v[] 0) })
    { s with heap:=((s.heap.update a<|ES λ_=>(#v[]:Array D9)).push (Ll "tuple" vs.toArray 0)).push (Ll "list" #v[] 0) }:=(Ot<|⋯).wp k2 #[rfl,rfl]
  let:=Zl (YH (kat_run (Q:=λf v=>arrOf f=(run lt<|kas_sort vs.length).map (kas_item<|vs.toArray.zip vs.toArray)/\failedOf f=none/\(run lt<|kas_sort vs.length).size=vs.length/\v={ s with heap:=((s.heap.update a<|ES λ_=>(#v[]:Array D9)).push (Ll "tuple" vs.toArray 0)).push (Ll "list" #v[] 0) }) rfl l z (λT f v D F G H=>by let#[rfl,rfl]:=H;let:=#[F,G,D,rfl]) g) ?_ λ_ _ e=>e)
  rintro⟨⟨⟩,f⟩ v ⟨B,M,O,rfl⟩;have u:=kat_snds rfl B;rw[u];let:=Zl (seqEpoch_at d rfl<|Zl<|Uq d rfl ?_ (ZP _) (by rw[ZF,Zj,Z5,O,Y3];lia));rw[M];simp only[bne_self_eq_false,Jb,Vs];let:=Zw<|h _<|.inr #[l,rfl]
def FF (T:String)(d:Eg):Prop:=T="str"/\∃z b,d=.tuple (.str z::b)
def S7 (h h':Es)(d:Eg):Prop:=∀(v:D9) (b:Dc),d.canLay0=true->Reads h v d b->Reads h' v d b
def RB (h h':Es)(b:De):Prop:=∀(d:Da) (c:Dc),El b=true->LL h d b c->LL h' d b c
mutual
theorem My {h h':Es}(k:∀b o,h.get? b=some o->h'.get? b=some o):∀d:Eg,S7 h h' d
 | .none=>λv c _ r=>by cases r;let:=.none
 | .bool _=>λv c _ r=>by cases r;let:=.bool _
 | .int _=>λv c _ r=>by cases r;let:=.int _ _
 | .str _=>λv c _ r=>by cases r;let:=.str _ _
 | .list xs=>λv c l r=>by
  have e:=qH k xs;cases r with
  |list h1 h2 h3 h4=>let:=.list (k _ _ h1) h2 h3<|e _ _ l h4
 | .tuple xs=>λv c l r=>by
  have e:=qH k xs;cases r with
  |tuple h1 h2 h3 h4=>let:=.tuple (k _ _ h1) h2 h3<|e _ _ l h4
 | .dict Dl=>λv c l r=>nomatch l
theorem qH {h h':Es}(k:∀b o,h.get? b=some o->h'.get? b=some o):∀ds:De,RB h h' ds
 |[]=>λg c _ r=>by cases r;let:=.nil
 |d::ds=>λg c l r=>by
  have e:=My k d;have f:=qH k ds;have l:d.canLay0=true/\El ds=true:=by simpa[El] using l
  cases r with
  |cons h1 h2=>let:=.cons (e _ _ l.1 h1)<|f _ _ l.2 h2
end
theorem NP {h:Es}{b:De}{e:Da}{as:Dc}(r:LL h e b as)(g:∀d∈b,FF T d):∃fs:Da,fs.length=b.length/\KatTups h e fs/\∀v∈fs,T="str"/\∃i t,v=.str i t:=by
 induction b generalizing e as with
 |nil =>
  cases r;let:=#[[],rfl,KatTups.nil,λv c=>(nomatch c)]
 |cons d b ih =>
  cases r with
  |cons r1 r2 =>
   let#[fs,j,n,o]:=ih r2 λx s=>g x<|Zp _ s;let#[p,z,u,rfl]:=g d Zt;cases r1 with
   |tuple h1 h2 h3 h4 =>
    rename_i f nx;generalize q:f.toList=l at h4;cases h4 with
    |cons g1 g2 =>
     cases g1;let:=#[_::fs,congrArg Nat.succ j,KatTups.cons h1 h2 h3 (by rw[<-YE,q];rfl) n,λv c=>?_]
     rcases Zx.mp c with rfl|c
     .let:=#[p,_,_,rfl]
     .let:=o v c
theorem RY {b:De}{c:Da}{as:Dc}(r:LL s.heap c b as)(g:∀d∈b,FF T d)(l:0<b.length){Q:SortKind->Dg}(q:Q (tuples'<|EJ T !=EJ "tuple") s) :
  Eh (Ej prog w) A (keyKind' c.toArray) Q E s:=by
 let#[fs,j,e,f]:=NP r g;let:=kat_kind e ⋯ (λv h=>?_) (by simp) q;let#[rfl,i,t,rfl]:=f v h;let:=.now
def S9 (x y:Eg):Prop:=∃i j,x=.str i/\y=.str j
theorem TB {b:Bool}{Q:Bool->Dg}{r:Bool}(q:Q r s)(xs:De):∀(ys:De) (vs us:Da) (as bs:Dc) (i k:Nat),LL s.heap vs xs as->LL s.heap us ys bs->El xs=true->El ys=true->A.units+min (EA xs) (EA ys)<Lc ->
  Wy xs ys r->(b=true->i=0->∀x xs' y ys',xs=x::xs'->ys=y::ys'->S9 x y)->KatLex prog w A b (decide (k+vs.length<k+us.length)) Q (vs.zip us) i s:=by
 induction xs with
 |nil =>
  intro ys vs us as bs i k j l _ _ _ h _;cases j;have e:=SeqAt.ReadsAll.length _ _ _ l;rw[List.zip_nil_left];show Q (decide (k+0<k+us.length)) s;rw[show decide (k+0<k+us.length)=r by rw[show r=_ from h,e];let:=Vx.mpr<|⋯];let:=q
 |cons x xs t =>
  intro ys vs us as bs i k j l C D p h B;cases ys with
  |nil =>
   cases l;cases j with
   | @cons v vs _ _ _ _ p1 p2 =>
    rw[List.zip_nil_right];show Q (decide (k+(vs.length+1)<k+0)) s;rw[show decide (k+(vs.length+1)<k+0)=r by rw[show r=_ from h];let:=ZE<|⋯];let:=q
  |cons y ys =>
   have d:x.canLay0=true/\El xs=true:=by simpa[El] using C
   have f:y.canLay0=true/\El ys=true:=by simpa[El] using D
   have g:=SeqAt.room_head p;have n:=SeqAt.room_tail p;cases j with
   | @cons v vs _ _ _ _ p1 p2 =>
    cases l with
    | @cons u us _ _ _ _ q1 q2 =>
     rw[List.zip_cons_cons];let:=kat_cons ?_;have h:=h
     rcases h with⟨e,h⟩|⟨e,h⟩
     .let:=LF prog w A _ s _ _ _ _ _ _ _ p1 q1 d.1 f.1 g ?_;rw[e];let:=kat_yes ?_;have t:=t ys vs us _ _ (i+1) (k+1) p2 q2 d.2 f.2 n h (λ_ z=>⋯);rwa[ZH,ZH,show k+(vs.length+1)=k+1+vs.length by lia,show k+(us.length+1)=k+1+us.length by lia]
     .let:=LF prog w A _ s _ _ _ _ _ _ _ p1 q1 d.1 f.1 g ?_;rw[e];let:=kat_no ?_;cases c:(b&&i==0) with
      |true =>
       have o:b=true/\i=0:=by simpa using c
       let#[E,F,rfl,rfl]:=B o.1 o.2 x xs y ys rfl rfl;cases p1;cases q1;let:=kas_lt_str ?_;rwa[<-(show r=_ from h)]
      |false=>let:=kat_one _ _<|Pj x y r A s _ _ _ _ p1 q1 d.1 f.1 g h _ _ q
theorem N3 {d e:Eg}{u v:D9}{as bs:Dc}{C:Bool->Dg}(p:Reads s.heap u d as)(q:Reads s.heap v e bs)(l:FF T d)(n:FF T e)(ld:d.canLay0=true)(le:e.canLay0=true)(o:A.units+min d.depth e.depth<Lc)(h:aG d e r)(c:C r s) :
  Eh (Ej prog w) A (keyLt' (tuples'<|EJ T !=EJ "tuple") u v) C (λ_ _=>False) s:=by
 let#[D,z,f,rfl]:=l;let#[_,i,g,rfl]:=n;cases p with
 |tuple h1 h2 h3 h4 =>
  cases q with
  |tuple k1 k2 k3 k4 =>
   let:=kat_lt h1 h3 k1 k3 ?_;have:=TB (prog:=prog) (w:=w) (A:=A) (b:=(EJ T !=EJ "tuple")) c _ _ _ _ _ _ 0 0 h4 k4 ld le (by
    rw[show(PyData.tuple (.str z::f)).depth=EA (.str z::f)+1 from rfl,show(PyData.tuple (.str i::g)).depth=EA (.str i::g)+1 from rfl]at o;lia) h λ_ _ x t y B ex j=>by
    cases ex;cases j;let:=#[_,_,rfl,rfl]
   simpa using this
end
section
variable {X:Cx}{K:Co}
theorem Bq:∀{vs:Di} {us:Da},zb vs us->∀(p:List Nat),(∀i∈p,i<vs.length)->zb (p.map λi=>vs.getD i .non) (p.map λi=>us.getD i EB)
 |vs,us,r,[],_=>.nil
 |vs,us,r,i::p,h=>by
  let:=.cons ?_<|Bq r p λj d=>h j<|Zp _ d;have c:=h i<|Zt ..;have go:∀{vs:Di} {us:Da} (i:Nat),zb vs us->i<vs.length->yt (vs.getD i .non) (us.getD i EB):=λ{vs us} i r c=>by
   induction i generalizing vs us with
   |zero =>
    cases r with
    |nil=>let:=absurd c<|Nat.not_lt_zero _
    |cons a b=>let:=a
   |succ i ih =>
    cases r with
    |nil=>let:=absurd c<|Nat.not_lt_zero _
    |cons a b=>let:=ih b (by simpa using c)
  let:=go i r c
theorem M0 (h:zy K H ds vs):∀(p:List Nat),(∀i∈p,i<vs.length)->zy K H (p.map λi=>ds.getD i .none) (p.map λi=>vs.getD i .non)
 |[],_=>rfl
 |i::p,hp=>by
  have b:=hp i<|Zt ..;let#[d,c,f]:=h.get<|Zv b;let:=#[vs.getD i .non,_,rfl,?_,M0 h p λj e=>hp j<|Zp _ e];show Dt K H (ds.getD i .none) (vs.getD i .non);rwa[Yy,Yy,c,Zv b]
theorem XI {h:Es}:∀{ds:De} {us:Da} {as:Dc} (i:Nat),LL h us ds as->i<ds.length->∃bs,Reads h (us.getD i EB) (ds.getD i .none) bs
 |[],_,_,i,_,hi=>absurd hi<|Nat.not_lt_zero _
 |d::ds,_,_,0,r,_=>by
  cases r with
  |cons r1 r2=>let:=#[_,r1]
 |d::ds,_,_,i+1,r,hi=>by
  cases r with
  |cons r1 r2=>let:=XI i r2 (by simpa using hi)
theorem PU {b:Type}{l:List b}{z:b}:(Eu l.length).map (λi=>l.getD i z)=l:=by
 apply Uk
 intro i;rw[Zz]
 rcases Jw i l.length with q|q
 .rw[Vz q,Zv q];simp[Yy,Zv q]
 .rw[Z6<|by rwa[YL],Z6 q];rfl
end
end L2
namespace L2
open PySem PySem.Spec PyProof.Rows AxS
section
variable {X:Cx}{Dn:Dd}{σ:St}{H:Hp}{s:Eb}{d:D8}{Dl:Dk}
theorem Ra (I:Inv X Dn σ H s)(e:Rd H d<|.dK Dl):∃vs ep,KV Dl vs/\s.heap.DictAt (yw X.prog X.w) d vs ep/\(d==EO)=false/\Dl.length<=sizeLine:=by
 let#[z,hd,vs,f,o,g,ep,i,l,b,h,j,c]:=XT I.hok e;let:=#[vs,ep,f,#[o,g,i,l,b,h,j,c],hd,z]
theorem Gd {c d:Type}{F G:c->d->Prop}(h:∀a b,F a b->G a b):∀{l:List c} {m:List d},E7 F l m->E7 G l m
 |_,_,.nil=>.nil
 |_,_,.cons r t=>.cons (h _ _ r)<|Gd h t
theorem yq.iG {t:Obj}{x:HO}(hd:H d=some (.frz t x)){y:HO}(ok:yq P w H h b u):yq P w (upd H d y) h b u:=by
 have keep:∀{c:D8} {z:HO},H c=some z->(∀o v,z≠.frz o v)->upd H d y c=some z:=λ{c z} e n=>by
  rw[zH λq=>by rw[q,hd]at e;let:=n _ _ (Option.some.inj e).symm];let:=e
 induction u generalizing b with
 |lst g=>let:=ok
 |tup g=>let:=ok
 |dK Dl=>let:=ok
 |dT Dl =>
  let#[i,j,g,s,l]:=ok;let:=#[i,j,g,Gd (λp q r=>#[r.1,keep r.2.1 (λo v z=>(nomatch z)),r.2.2]) s,l]
 |set S n=>let:=ok
 |ins C dx fs=>let:=#[keep ok.1 (λo v z=>(nomatch z)),ok.2]
 |own x=>let:=ok
 |xd fs=>let:=ok
 |rng lo hi=>let:=ok
 |frz o u ih=>let:=#[ok.1,ih ok.2]
 |tbl ps=>let:=ok
 |met f x=>let:=ok
 |ext φ=>let:=ok
theorem Inv.iG {y:Obj}(I:Inv X Dn σ H s)(hd:H d=some (.frz y<|.dK Dl))(w:∀o u,X.H₀ d≠some (.frz o u)):Inv X Dn σ (upd H d<|.dK Dl) s:=by
 have ne:∀{b:D8},H b=none->b≠d:=λ{b} e z=>by rw[z,hd]at e;cases e
 have h:∀{b:D8} {z:HO},H b=some z->(∀o v,z≠.frz o v)->b≠d:=λ{b z} e n q=>by rw[q,hd]at e;let:=n _ _ (Option.some.inj e).symm
 let:=#[I.ok,I.os,I.bare,#[I.base.keep,I.base.slot,λb o f l r=>?_,I.base.there,λb B f=>?_,λb o u f=>?_,λb A f=>?_],I.loc,I.cell,?_,λx c f=>?_,λp t=>?_,λb u f=>?_,I.len]
 .have:=I.base.free b o f l r;rwa[zH<|ne this]
 .have:=I.base.tups b B f;rwa[zH<|h this λo v z=>(nomatch z)]
 .have:=I.base.sX b o u f;rw[zH λz=>w o u<|by rwa[<-z]];let:=this
 .let#[more,this]:=I.base.rQ b A f;let:=#[more,by rw[zH<|h this λo v z=>(nomatch z)];let:=this]
 .rw[zH<|ne I.free];let:=I.free
 .have:=I.wj x c f;rwa[zH<|ne this]
 .let#[i,g,j]:=I.pin p t;let:=#[i,by rw[zH<|ne g];let:=g,j]
 .by_cases z:b=d
  .rw[z,zB]at f;cases f;rw[z];let:=(I.hok d _ hd).2
  .rw[zH z]at f;let:=(I.hok b u f).iG hd
end
section
variable {X:Cx}{tg:EE}
def aw (H₀:Hp)(t:TE):TE:=λf H Q=>t f H λv c=>∃d e b,c d=some (.frz e<|.dK b)/\(∀o u,H₀ d≠some (.frz o u))/\Q v (upd c d<|.dK b)
theorem Si (h:PE X e t):PE X e (aw X.H₀ t):=by
 intro b s i H Q I q;let:=Ct (h b s i H _ I q) λv o g=>?_;let#[x,l,c,r,d,n,j,hd,f,q]:=g;let:=#[x,_,c.iG hd f,r,q]
def Wa:Di->Hp->VK->Prop:=λd H Q=>∃a b,d=[.ref a]/\Rd H a (.dK b)/\∀l,H l=none->Q (.ref l) (upd H l<|.lst<|b.map λc=>kV c.1)
theorem KC (t:X.calm=true):xf X (.type "list") Wa:=by
 intro D s L H K G Q I r h;let#[a,i,rfl,p,q]:=h;let#[u,rfl,A]:=wM r;cases A;let#[J,F,b,l,o,y]:=Ra I p;have E:=Paired.length b;let:=PySem.W.kdl_call (PySem.W.kdl_dict o) (I.ok.hd t) l ⋯ λn C d c f hl g=>?_;have B:=GR b (by rw[Z5];let:=g.1) λj v e=>g.2 j v (by rwa[<-YE]);let:=#[.ref s.heap.objs.size,_,I.laid (t':=C) f (Zn _)<|show yq X.prog X.w _ n _ (.lst<|i.map λz=>kV z.1) from#[by rw[Zj];let:=y,d.toList,c,B,hl],rfl,q _<|I.hok.fresh<|Zn _]
def RX (b:Key×V):Str:=match b.1 with
 | .inr x=>x
 | .inl _=>""
def putAll (d more:Dk):Dk:=more.foldl (λb c=>yp b c.1 c.2) d
theorem KV.putAll:∀{more:Dk} {um:List (Key×D9)} {Dl:Dk} {vs:List (Key×D9)},KV Dl vs->KV more um->KV (putAll Dl more) (merged vs um)
 |[],_,_,_,r,.nil=>r
 |p::more,q::um,Dl,vs,r,.cons h t=>by
  have e:=h.1;have:=KV.putAll (vs:=stored vs q.1 q.2) (by rw[<-e];let:=r.put p.1 h.2) t;let:=this
theorem uF:∀(more Dl:Dk),(putAll Dl more).length<=Dl.length+more.length
 |[],Dl=>Zn _
 |p::more,Dl=>by
  have:=uF more<|yp Dl p.1 p.2;have:=xH Dl p.1 p.2;show(putAll (yp Dl p.1 p.2) more).length<=_;rw[ZH];lia
end
open PySem.W
section
variable {X:Cx}
def Ws (H₀:Hp)(t:TS):TS:=λD g H=>t { D with nx:=λb e=>∃d f c,e d=some (.frz f<|.dK c)/\(∀o u,H₀ d≠some (.frz o u))/\D.nx b (upd e d<|.dK c) } g H
theorem Iu {st:EF}(h:PS X st t):PS X st (Ws X.H₀ t):=by
 intro c s i H D I q;let:=Ct (h c s i H _ I q) λf o z=>?_;cases f with
 |next =>
  let#[b,l,e,d,n,j,hd,g,q]:=z;let:=#[b,_,e.iG hd g,q]
 |ret v=>let:=z
 |brk=>let:=z
 |cont=>let:=z
def W7 (K:Co):Di->Hp->VK->Prop:=λd H Q=>∃a T c b,d=[.ref a,.ty T]/\Rd H a (.dK c)/\E6 K (.type "dict") (.type T)=some b/\Q (.bl b) H
theorem CQ {K:Co}(e:X.K=K:=by rfl):xf X (.builtin "isinstance") (W7 K):=by
 subst e;intro o s B H A w Q I r h;let#[a,T,n,b,rfl,f,g,q]:=h;let#[u,l,rfl,j,c]:=vals2 r;cases(show l=EJ T from c);cases j;let#[y,p,i,d,t,_]:=Ra I f;let:=YA Ug I.sZ d.dictOf.typeIs g (λz=>nomatch z) λv=>#[.bl b,H,I.tok _,rfl,q]
end
end L2
namespace An10
def CM {b:Type} [DecidableEq b]:List b->List b->Nat
 |[],_=>0
 |_::_,[]=>0
 |x::xs,y::ys=>if x=y then 1+CM xs ys else max (CM xs (y::ys)) (CM (x::xs) ys)
termination_by xs ys=>xs.length+ys.length
section
variable {α:Type} [DecidableEq α]
theorem qL (ys:List α):CM [] ys=0:=by unfold CM;rfl
theorem qX (xs:List α):CM xs []=0:=by cases xs<;>(unfold CM;rfl)
theorem jA (x y:α)(xs ys:List α):CM (x::xs) (y::ys)=if x=y then 1+CM xs ys else max (CM xs (y::ys)) (CM (x::xs) ys):=by rw[CM]
theorem jP:∀(n:Nat) (xs ys:List α),xs.length+ys.length<=n->(∀x,CM xs ys<=CM (x::xs) ys)/\(∀y,CM xs ys<=CM xs (y::ys))/\(∀x,CM (x::xs) ys<=1+CM xs ys)/\(∀y,CM xs (y::ys)<=1+CM xs ys)
 |n,[],ys,h=>by
  let:=#[λx=>by rw[qL];let:=ZP _,λy=>by rw[qL];let:=ZP _,λx=>?_,λy=>by rw[qL];let:=ZP _]
  induction ys with
  |nil=>rw[qX,qL];let:=ZP _
  |cons y ys ih =>
   rw[jA]
   split
   .rw[qL,qL];let:=Zn _
   .have:=ih (by simp at h ⊢;lia);rw[qL]at this ⊢
    try rw[qL]
    lia
 |n,x'::xs,[],h=>by
  let:=#[λx=>by rw[qX];let:=ZP _,λy=>by rw[qX];let:=ZP _,λx=>by rw[qX];let:=ZP _,λy=>?_];have:∀l:List α,CM l [y]<=1:=by
   intro l
   induction l with
   |nil=>rw[qL];let:=ZP _
   |cons a l ih =>
    rw[jA]
    split
    .rw[qX];let:=Zn _
    .rw[qX];lia
  rw[qX];let:=this _
 | 0,x'::xs,y'::ys,h=>by simp at h
 |n+1,x'::xs,y'::ys,h=>by
  simp only[ZH]at h;let#[b,d,g,j]:=jP n xs ys ⋯;let#[p,D,r,t]:=jP n xs (y'::ys) (by simp;lia);let#[E,v,z,B]:=jP n (x'::xs) ys (by simp;lia);have e:=jA x' y' xs ys;have s:=r x';have C:=B y';have q:=p x';have w:=v y';have c:=b x';have f:=d y';have i:=g x';have o:=j y';let:=#[λx=>?_,λy=>?_,λx=>?_,λy=>?_]
  .rw[jA x y' (x'::xs) ys]
   split
   .lia
   .lia
  .rw[jA x' y xs (y'::ys)]
   split
   .lia
   .lia
  .have A:=z x;rw[jA x y' (x'::xs) ys]
   split
   .lia
   .lia
  .have u:=t y;rw[jA x' y xs (y'::ys)]
   split
   .lia
   .lia
def tab (xs ys:List α)(i k:Nat):Nat:=CM (xs.drop i)<|ys.drop k
theorem rF {xs ys:List α}{i:Nat}(h:xs.length<=i):tab xs ys i k=0:=by unfold tab;rw[Vf h,qL]
theorem rE {xs ys:List α}{k:Nat}(h:ys.length<=k):tab xs ys i k=0:=by unfold tab;rw[Vf h,qX]
theorem m8 {xs ys:List α}{i k:Nat}{x y:α}(d:xs[i]?=some x)(f:ys[k]?=some y):tab xs ys i k=if x=y then 1+tab xs ys (i+1) (k+1) else max (tab xs ys (i+1) k) (tab xs ys i<|k+1):=by
 have b:xs.drop i=x::xs.drop (i+1):=by
  let#[h,e]:=ZC.mp d;rw[Yv h,e]
 have c:ys.drop k=y::ys.drop (k+1):=by
  let#[h,e]:=ZC.mp f;rw[Yv h,e]
 unfold tab;rw[b,c,jA,<-b,<-c]
theorem iZ {xs ys:List α}:∀{i k:Nat},tab xs ys i k<=xs.length-i:=by
 intro i k;unfold tab;generalize c:xs.drop i=b;have hl:b.length=xs.length-i:=by rw[<-c,Ym]
 rw[<-hl];clear c hl
 induction b generalizing k with
 |nil=>rw[qL];let:=Zn _
 |cons z b ih =>
  have:=(jP _ b (ys.drop k)<|Zn _).2.2.1 z;have:=ih (k:=k);rw[ZH];lia
def path (xs ys:List α):Nat->Nat->Nat->List (Nat×Nat)
 | 0,_,_=>[]
 |f+1,i,k=>match xs[i]?,ys[k]? with
  |some x,some y=>if x=y then(i,k)::path xs ys f (i+1) (k+1) else if tab xs ys i (k+1)<=tab xs ys (i+1) k then path xs ys f (i+1) k else path xs ys f i (k+1)
  |_,_=>[]
theorem tR {xs ys:List α}{i k:Nat}(h:xs.length<=i\/ys.length<=k):path xs ys f i k=[]:=by
 cases f with
 |zero=>rfl
 |succ f =>
  unfold path
  rcases h with h|h
  .rw[Z6 h]
  .rw[Z6 h];cases xs[i]?<;>rfl
theorem rD {xs ys:List α}{f i k:Nat}{x y:α}(b:xs[i]?=some x)(c:ys[k]?=some y) :
  path xs ys (f+1) i k=if x=y then(i,k)::path xs ys f (i+1) (k+1) else if tab xs ys i (k+1)<=tab xs ys (i+1) k then path xs ys f (i+1) k else path xs ys f i (k+1):=by
 rw[path,b,c]
theorem sJ {xs ys:List α}:∀(f i k:Nat),(xs.length-i)+(ys.length-k)<=f->(path xs ys f i k).length=tab xs ys i k
 | 0,i,k,h=>by
  rw[tR<|⋯]
  by_cases d:xs.length<=i
  .rw[rF d];rfl
  .rw[rE<|⋯];rfl
 |f+1,i,k,h=>by
  by_cases d:i<xs.length
  .by_cases j:k<ys.length
   .have e:=Zv d;have g:=Zv j;have a:=sJ (xs:=xs) (ys:=ys) f (i+1) (k+1) ⋯;have b:=sJ (xs:=xs) (ys:=ys) f (i+1) k ⋯;have c:=sJ (xs:=xs) (ys:=ys) f i (k+1) ⋯;rw[rD e g,m8 e g]
    split
    .rw[ZH,a];lia
    .split
     .rw[b];lia
     .rw[c];lia
   .rw[tR<|.inr<|⋯,rE<|⋯];rfl
  .rw[tR<|.inl<|⋯,rF<|⋯];rfl
def pJ (xs ys:List α):Nat->Nat->List (Nat×Nat)->Prop
 |_,_,[]=>True
 |i,k,p::ps=>i<=p.1/\k<=p.2/\(∃x,xs[p.1]?=some x/\ys[p.2]?=some x)/\pJ xs ys (p.1+1) (p.2+1) ps
theorem pJ.mono {xs ys:List α}:∀{ps:List (Nat×Nat)} {i k i' k':Nat},pJ xs ys i k ps->i'<=i->k'<=k->pJ xs ys i' k' ps
 |[],_,_,_,_,_,_,_=>trivial
 |p::ps,_,_,_,_,⟨h1,h2,h3⟩,hi,hk=>#[Z2 hi h1,Z2 hk h2,h3]
theorem uz {xs ys:List α}:∀(f i k:Nat),pJ xs ys i k (path xs ys f i k)
 | 0,i,k=>trivial
 |f+1,i,k=>by
  by_cases d:i<xs.length
  .by_cases g:k<ys.length
   .have b:=Zv d;have c:=Zv g;rw[rD b c]
    split
    .rename_i e;let:=#[Zn _,Zn _,#[xs[i],b,by rw[e];let:=c],uz f (i+1)<|k+1]
    .split
     .let:=(uz f (i+1) k).mono (Jk _) (Zn _)
     .let:=(uz f i<|k+1).mono (Zn _) (Jk _)
   .rw[tR<|.inr<|⋯];trivial
  .rw[tR<|.inl<|⋯];trivial
end
open PySem L2 An
def rW (xs ys:By)(i:Nat):Di:=(Eu<|ys.length+1).map λk=>V.int<|tab xs ys i k
structure TabAt (H:Hp)(xs ys:By)(t:D8)(as:Dc):Prop where
 at_:H t=some (.lst<|as.map V.ref)
 len:as.length=xs.length+1
 row:∀i a,as[i]?=some a->H a=some (.lst<|rW xs ys i)
def lw (K:Co):Sp:=λg H Q _=>∃(a b:D8) (e f:By),g=[.ref a,.ref b]/\yh K H a (e.map V.str)/\yh K H b (f.map V.str)/\e.length<=100/\f.length<=140 /\
 ∀(t:D8) (d:Dc) c,zz H c->TabAt c e f t d->(t::d).Nodup->(∀b∈t::d,H b=none)->Q (.ref t) c
theorem rH {ys:By}{k:Int}(b:0<=k)(c:k<=ys.length):CJ (rW xs ys i) k=some (V.int<|tab xs ys i k.toNat):=by
 let#[j,rfl]:=Jz b;let:=xX ?_;unfold rW;rw[Zz,Vz<|⋯];rfl
theorem Rf:(rW xs ys i).length=ys.length+1:=by unfold rW;rw[Zj,YL]
theorem nF {ys:By}{b:Di}(hl:b.length=ys.length+1)(h:∀m,m<=ys.length->b[m]?=some (V.int<|tab xs ys i m)):b=rW xs ys i:=by
 let:=Uk λm=>?_
 rcases Jw m (ys.length+1) with c|c
 .rw[h m<|⋯];unfold rW;rw[Zz,Vz c];rfl
 .rw[Z6<|⋯,Z6 (by rw[Rf];lia)]
def jf (K:Co):Sp:=λf H Q _=>∃(x:Str) (b p:D8) (e c:By) (i:Nat),f=[.str x,.ref b,.ref p]/\yh K H b (c.map V.str)/\H p=some (.lst<|rW e c<|i+1)/\e[i]?=some x/\c.length<=140 /\
 ∀(l:D8) d,zz H d->H l=none->d l=some (.lst<|rW e c i)->Q (.ref l) d
theorem m5 {b:Type}(x:b)(n:Nat):(Ev n [x]).flatten=Ev n x:=by
 induction n with
 |zero=>rfl
 |succ n ih=>rw[Ji,Ji,Vo,ih];rfl
theorem oU {n k:Nat}(h:k<n):N1 n (k:Int)=some k:=by
 unfold N1;rw[ZJ<|⋯,ZJ<|⋯];rfl
theorem mU {xs:Di}{n:Nat}{i:Int}{v:V}(e:i=(n:Int))(h:xs[n]?=some v):CJ xs i=some v:=by
 subst e;let:=xX h
theorem tE {b:Type}{x c:b}{m:Nat}(h:[x][m]?=some c):m=0/\c=x:=by
 match m,h with
 | 0,h=>let:=#[rfl,(Option.some.inj h).symm]
def tH (H:Hp)(l:D8)(ps:List<|Nat×Nat):Prop:=∃b:Dc,H l=some (.lst<|b.map V.ref)/\b.length=ps.length/\∀(i:Nat) (t:D8) (p:Nat×Nat),b[i]?=some t->ps[i]?=some p->H t=some (.tup [V.int p.1,V.int p.2])
def jq (K:Co):Sp:=λf H Q _=>∃(a b:D8) (c d:By),f=[.ref a,.ref b]/\yh K H a (c.map V.str)/\yh K H b (d.map V.str)/\c.length<=100/\d.length<=140/\(∀x∈c,Ok 200 x)/\(∀y∈d,Ok 200 y) /\
 ∀(l:D8) e,zz H e->H l=none->tH e l (path c d (c.length+d.length) 0 0)->Q (.ref l) e
end An10
namespace An12
open PySem L2 An An10
abbrev Row:=Int×Int×Eg
def zp (r:Row):PyData:=.tuple [.int r.1,.int r.2.1,r.2.2]
def SB:Eg->Str
 | .str x=>x
 |_=>""
def linesOf:Eg->By
 | .tuple ds=>ds.map SB
 |_=>[]
theorem wA (ls:By):linesOf (.tuple<|ls.map .str)=ls:=by
 show(ls.map Ey).map SB=ls;rw[ZK];let:=(Yw λ_ _=>rfl).trans (JK _)
theorem uU:∀{ds:De},ds.all U1=true->ds=(ds.map SB).map .str
 |[],_=>rfl
 | .str x::ds,h=>by
  rw[List.all_cons,ZB]at h;show _=Ey x::_;rw[<-uU h.2]
 | .none::_,h=>by cases h
 | .bool _::_,h=>by cases h
 | .int _::_,h=>by cases h
 | .list _::_,h=>by cases h
 | .tuple _::_,h=>by cases h
 | .dict _::_,h=>by cases h
def Nf:Eg->Bool
 | .tuple []=>true
 |_=>false
def vQ (n:Nat)(last:Int)(r:Row):Bool:=decide (last<r.1)&&decide (r.1<=r.2.1)&&decide (r.2.1<=n)&&j5 r.2.2&&!(decide (r.1=r.2.1)&&Nf r.2.2)
def kI (n:Nat):Int->List Row->Bool
 |_,[]=>true
 |last,r::rs=>vQ n last r&&kI n r.2.1 rs
def wI (xs:By):Nat->List Row->By
 |e,[]=>xs.drop e
 |e,r::rs=>(xs.drop e).take (r.1.toNat-e)++linesOf r.2.2++wI xs r.2.1.toNat rs
def From (e:Nat):List Row->Prop
 |[]=>True
 |r::_=>(e:Int)<=r.1
theorem Mq {d e:Nat}(h:d<=e):∀{rs:List Row},From e rs->wI xs d rs=(xs.drop d).take (e-d)++wI xs e rs
 |[],_=>by
  show xs.drop d=(xs.drop d).take (e-d)++xs.drop e;have:xs.drop e=(xs.drop d).drop (e-d):=by rw[List.drop_drop];congr 1;lia
  rw[this,Y8]
 |r::rs,f=>by
  have f:(e:Int)<=r.1:=f;show(xs.drop d).take (r.1.toNat-d)++linesOf r.2.2++_=(xs.drop d).take (e-d)++((xs.drop e).take (r.1.toNat-e)++linesOf r.2.2++_);have b:r.1.toNat-d=(e-d)+(r.1.toNat-e):=⋯
  have c:xs.drop e=(xs.drop d).drop (e-d):=by rw[List.drop_drop];congr 1;lia
  rw[b,List.take_add,c];simp only[Yk]
structure GoodR (n:Nat)(last:Int)(r:Row):Prop where
 lt:last<r.1
 le:r.1<=r.2.1
 top:r.2.1<=n
 lines:j5 r.2.2=true
 some:¬(r.1=r.2.1/\Nf r.2.2=true)
theorem sV:vQ n last r=true↔GoodR n last r:=by
 unfold vQ;constructor
 .intro h;simp only[ZB,Z8,YU,Bool.and_eq_false_iff,Yz]at h;let#[#[#[#[b,c],d],e],f]:=h;let:=#[b,c,d,e,λz=>f.elim (λy=>y z.1) (λy=>by rw[z.2]at y;cases y)]
 .rintro⟨b,c,d,e,f⟩;simp only[ZB,Z8,YU,Bool.and_eq_false_iff,Yz];let:=#[#[#[#[b,c],d],e],?_]
  by_cases z:r.1=r.2.1
  .let:=.inr ?_;cases q:Nf r.2.2 with
   |false=>rfl
   |true=>let:=absurd #[z,q] f
  .let:=.inl z
theorem From.mono {d e:Nat}(h:d<=e):∀{rs:List Row},From e rs->From d rs
 |[],_=>trivial
 |r::rs,f=>by
  have f:(e:Int)<=r.1:=f;show(d:Int)<=r.1;lia
def qz (lo b:Nat)(ls:By):Row:=(lo,b,.tuple<|ls.map .str)
def wV (xs ys:By):Nat->Nat->List (Nat×Nat)->List Row
 |lo,fi,[]=>if lo<xs.length\/fi<ys.length then[qz lo xs.length<|ys.drop fi] else[]
 |lo,fi,p::ps=>(if lo<p.1\/fi<p.2 then[qz lo p.1<|(ys.drop fi).take<|p.2-fi] else[])++wV xs ys (p.1+1) (p.2+1) ps
def spans (xs ys:By):List Row:=wV xs ys 0 0<|path xs ys (xs.length+ys.length) 0 0
theorem G7:∀{ps:List (Nat×Nat)} {lo fi:Nat},pJ xs ys lo fi ps->From lo (wV xs ys lo fi ps)
 |[],lo,fi,_=>by
  unfold wV
  split
  .let:=Int.le_refl _
  .trivial
 |p::ps,lo,fi,⟨h1,h2,_,h4⟩=>by
  unfold wV
  split
  .let:=Int.le_refl _
  .let:=(G7 h4).mono ⋯
theorem Gz:∀{ps:List (Nat×Nat)} {lo fi:Nat},pJ xs ys lo fi ps->wI xs lo (wV xs ys lo fi ps)=ys.drop fi
 |[],lo,fi,_=>by
  unfold wV
  split
  .show(xs.drop lo).take (((lo:Nat):Int).toNat-lo)++linesOf (.tuple<|(ys.drop fi).map .str)++xs.drop ((xs.length:Nat):Int).toNat=_;rw[wA,Y4,Vh,Y4,List.take_zero,List.drop_length,JC,ZW]
  .rename_i h;show xs.drop lo=ys.drop fi;rw[Vi<|⋯,Vi<|⋯]
 |p::ps,lo,fi,⟨h1,h2,⟨x,hx,hy⟩,h4⟩=>by
  have f:=Gz h4;have e:=G7 h4;let#[g,xe]:=ZC.mp hx;let#[j,i]:=ZC.mp hy;have one:wI xs p.1 (wV xs ys (p.1+1) (p.2+1) ps)=ys.drop p.2:=by
   rw[Mq (Jk p.1) e,f];have d:p.1.succ-p.1=1:=⋯
   rw[d,Yv g,Yv j,xe,i];rfl
  unfold wV
  split
  .show(xs.drop lo).take (((lo:Nat):Int).toNat-lo)++linesOf (.tuple<|((ys.drop fi).take<|p.2-fi).map .str)++wI xs ((p.1:Nat):Int).toNat (wV xs ys (p.1+1) (p.2+1) ps)=_;rw[wA,Y4,Vh,Y4,List.take_zero,JC,one];have:ys.drop p.2=(ys.drop fi).drop (p.2-fi):=by rw[List.drop_drop];congr 1;lia
   rw[this,Y8]
  .rename_i h;have b:lo=p.1:=⋯
   have c:fi=p.2:=⋯
   subst b c;let:=one
theorem X3 {ls:By}(h:∀x∈ls,UG x=true):j5 (.tuple<|ls.map .str)=true:=by
 show(ls.map Ey).all U1=true;rwa[List.all_map,ZQ]
theorem IL {ls:By}(h:Nf (.tuple<|ls.map .str)=true):ls=[]:=by
 cases ls with
 |nil=>rfl
 |cons x xs=>cases h
theorem XA {ys:By}(e:∀y∈ys,UG y=true):∀{ps:List (Nat×Nat)} {lo fi:Nat} {last:Int},pJ xs ys lo fi ps->last<lo->lo<=xs.length->kI xs.length last (wV xs ys lo fi ps)=true
 |[],lo,fi,last,_,h1,h2=>by
  unfold wV
  split
  .rename_i h;show(vQ _ _ _&&true)=true;rw[Bool.and_true,sV];let:=#[h1,(by show(lo:Int)<=(xs.length:Int);lia),Int.le_refl _,X3 λx c=>e x<|YD c,?_];rintro⟨d,b⟩;have d:(lo:Int)=(xs.length:Int):=d;have b:=List.drop_eq_nil_iff.mp<|IL b;lia
  .rfl
 |p::ps,lo,fi,last,⟨a1,a2,⟨x,c,hy'⟩,a4⟩,h1,h2=>by
  let#[f,xe]:=ZC.mp c;let#[i,g]:=ZC.mp hy';unfold wV
  split
  .rename_i h;show(vQ _ _ _&&kI _ ((p.1:Nat):Int) _)=true;rw[ZB,sV];let:=#[#[h1,(by show(lo:Int)<=(p.1:Int);lia),(by show(p.1:Int)<=(xs.length:Int);lia),X3 λx c=>e x<|YD<|Yf c,?_],XA e a4 ⋯ f];rintro⟨d,b⟩;have d:(lo:Int)=(p.1:Int):=d;have b:=congrArg List.length<|IL b;rw[ZL,Ym,YN]at b;lia
  .let:=XA e a4 ⋯ f
theorem rA (xs ys:By):wI xs 0 (spans xs ys)=ys:=Gz<|uz _ 0 0
theorem lX {xs ys:By}(b:∀y∈ys,UG y=true):kI xs.length (-1) (spans xs ys)=true:=XA b (uz _ 0 0) ∅<|ZP _
def IK:List Row->Int
 |[]=>0
 |r::rs=>2+(linesOf r.2.2).length+IK rs
def hide (H:Hp)(o:D8):Hp:=λb=>if b=o then none else H b
theorem hide_ne {o b:D8}(h:b≠o):hide H o b=H b:=ZI h
theorem tV (H:Hp)(o:D8):zz (hide H o) H:=λb u e=>by
 by_cases h:b=o
 .rw[h]at e;have:hide H o o=none:=ZJ rfl;rw[this]at e;cases e
 .rwa[hide_ne h]at e
theorem oZ (o:D8)(e:zz H H'):zz (hide H o) (hide H' o):=λb u q=>by
 by_cases h:b=o
 .rw[h]at q;have:hide H o o=none:=ZJ rfl;rw[this]at q;cases q
 .rw[hide_ne h]at q ⊢;let:=e b u q
theorem mV:hide (upd H o x) o=hide H o:=by
 funext b
 by_cases h:b=o
 .rw[h];let:=(ZJ rfl).trans (ZJ rfl).symm
 .rw[hide_ne h,hide_ne h,zH h]
theorem qp {K:Co}{H:Hp}{o:D8}{b:Di}(h:H o=some (.lst b))(t:yh K H a ys):yh K (hide H o) a ys:=by
 rcases t with(t|⟨ob,t⟩)|t
 .let:=.inl (.inl ?_);have t:H a=some (.tup ys):=t;have:a≠o:=λz=>by rw[z,h]at t;cases t
  let:=(hide_ne this).trans t
 .let:=.inl (.inr #[ob,?_]);have t:H a=some (.frz ob<|.tup ys):=t;have:a≠o:=λz=>by rw[z,h]at t;cases t
  let:=(hide_ne this).trans t
 .let:=.inr t
theorem oN {K:Co}{H':Hp}{lo:Option Int}{v:V}(b:yh K H a xs)(h:(v=.ref a/\H'=H/\UX xs lo hi=xs)\/(∃p,H p=none/\v=.ref p/\H'=upd H p (.tup<|UX xs lo hi))) :
  ∃p:D8,v=.ref p/\zz H H'/\yh K H' p (UX xs lo hi):=by
 rcases h with⟨rfl,rfl,e2⟩|⟨p,np,rfl,rfl⟩
 .let:=#[a,rfl,zz.refl _,by rw[e2];let:=b]
 .let:=#[p,rfl,zD np,yh.of zB]
theorem lg {ys:By}{f k:Nat}(b:f<=ys.length)(c:k<=ys.length):UX (ys.map V.str) (some (f:Int)) (some (k:Int))=((ys.drop f).take<|k-f).map V.str:=by
 unfold UX;rw[HT.tL,HT.tL,Zj,JX,V2,VD b,VD c]
def rK (ys:By):Nat->Nat->List (Nat×Nat)->List Row
 |_,_,[]=>[]
 |lo,fi,p::ps=>(if lo<p.1\/fi<p.2 then[qz lo p.1<|(ys.drop fi).take<|p.2-fi] else[])++rK ys (p.1+1) (p.2+1) ps
theorem rC {xs:By}:∀{ps:List (Nat×Nat)} {lo fi:Nat},rK ys lo fi (ps++[(xs.length,ys.length)])=wV xs ys lo fi ps
 |[],lo,fi=>by
  show(if lo<xs.length\/fi<ys.length then[qz lo xs.length<|(ys.drop fi).take<|ys.length-fi] else[])++[]=_;rw[ZW,JI (by rw[Ym];lia)];rfl
 |p::ps,lo,fi=>by
  show _++rK ys (p.1+1) (p.2+1) (ps++[(xs.length,ys.length)])=_;rw[rC];rfl
theorem lB:∀{ps:List (Nat×Nat)} {i k:Nat},pJ xs ys i k ps->∀p∈ps,p.1<xs.length/\p.2<ys.length
 |[],_,_,_,_,h=>by cases h
 |q::ps,i,k,⟨_,_,⟨x,h1,h2⟩,h4⟩,p,h=>by
  rcases Zx.mp h with rfl|h
  .let:=#[(ZC.mp h1).1,(ZC.mp h2).1]
  .let:=lB h4 p h
theorem pA:∀{ps:List (Nat×Nat)} {lo fi:Nat},(rK ys lo fi ps).length<=ps.length
 |[],_,_=>Zn _
 |p::ps,lo,fi=>by
  have:=pA (ys:=ys) (ps:=ps) (lo:=p.1+1) (fi:=p.2+1);unfold rK;rw[Zq,ZH]
  split<;>simp<;>lia
theorem Pd (h:UG x=true):Ei x=true:=by
 unfold UG at h;rw[ZB]at h;rw[x6];intro c b;have:=ZQ.mp h.2 c b;unfold UQ at this;simp only[ZB,Z8]at this;lia
theorem sS {K:Co}{rs:List Row}{i:Nat}{x:V}(h:zy K H (rs.map zp) vs)(e:vs[i]?=some x):∃(r:Row) (t:D8) (v:V),rs[i]?=some r/\x=.ref t/\yh K H t [V.int r.1,V.int r.2.1,v]/\Dt K H r.2.2 v:=by
 let#[d,b,hd]:=h.get e;rw[Zz]at b;cases q:rs[i]? with
 |none=>rw[q]at b;cases b
 |some r =>
  rw[q]at b;have b:zp r=d:=Option.some.inj b;subst b;let#[t,y,rfl,l,o,u,rfl,f,p,w,rfl,g,s,n,rfl,j,c]:=hd;have f:o=V.int r.1:=f;have g:p=V.int r.2.1:=g;have c:n=[]:=c;subst f g c;let:=#[r,t,s,rfl,rfl,l,j]
def oJ (K:Co):Sp:=λe H Q _=>∃(l:D8) (b:List Row),e=[.ref l]/\Dt K H (.list<|b.map zp) (.ref l)/\b.length<=200/\(∀r∈b,∃d:By,r.2.2=.tuple (d.map .str)/\d.length<=200)/\∀c,zz H c->Q (.int<|IK b) c
theorem uM:∀{ls:By},(∀l∈ls,l.length<=1000)->yD (ls.map .str)=true
 |[],_=>rfl
 |x::ls,h=>by
  show(decide (x.length<=1000)&&yD (ls.map .str))=true;rw[Zm<|h x Zt,uM λl hl=>h l<|Zp _ hl];rfl
theorem GY (h:UG x=true):x.length<=20:=by
 unfold UG at h;rw[ZB]at h;let:=ZA h.1
theorem mX {ls:By}(b:ls.length<=1000)(h:∀l∈ls,UG l=true):small (.tuple<|ls.map .str)=true:=by
 show(decide ((ls.map Ey).length<=1000)&&yD (ls.map .str))=true;rw[Zm<|by rwa[Zj],uM λl hl=>by have:=GY<|h l hl;lia];rfl
theorem m9 (h:UG x=true):Ok 200 x:=#[by have:=GY h;lia,Pd h]
theorem uc:∀{ps:List (Nat×Nat)} {lo fi:Nat},∀r∈wV xs ys lo fi ps,∃(i k:Nat) (ls:By),r=qz i k ls/\ls.length<=ys.length/\∀l∈ls,l∈ys
 |[],lo,fi,r,h=>by
  unfold wV at h
  split at h
  .rw[Zk]at h;let:=#[lo,xs.length,ys.drop fi,h,by rw[Ym];lia,λl hl=>YD hl]
  .cases h
 |p::ps,lo,fi,r,h=>by
  unfold wV at h
  rcases ZD.mp h with h|h
  .split at h
   .rw[Zk]at h;let:=#[lo,p.1,_,h,by rw[ZL,Ym];lia,λl hl=>YD<|Yf hl]
   .cases h
  .let:=uc r h
theorem su {K:Co}{Q:VK}(c:Dt K H d x)(e:Dt K H d y)(b:E5 d=true)(f:EG d d=true)(q:Q (.bl false) H):W8 K x y H Q:=#[d,d,c,e,b,b,by rw[f];let:=q]
theorem mY:∀rs:List Row,(rs.map λr=>2+((linesOf r.2.2).length:Int)).sum=IK rs
 |[]=>rfl
 |r::rs=>by
  rw[ZR,Je,mY rs];rfl
def Ends (n:Nat):Nat->List Row->Prop
 |_,[]=>True
 |e,r::rs=>(e:Int)<=r.1/\r.1<=r.2.1/\r.2.1<=n/\(∃b:By,r.2.2=.tuple (b.map .str)/\b.length<=1000)/\Ends n r.2.1.toNat rs
theorem Ends.mono {d e:Nat}(h:d<=e):∀{rs:List Row},Ends n e rs->Ends n d rs
 |[],_=>trivial
 |r::rs,⟨h1,h2⟩=>#[⋯,h2]
theorem KW (h:j5 d=true):∃ls:By,d=.tuple (ls.map .str)/\∀l∈ls,UG l=true:=by
 cases d with
 |tuple ds =>
  have h:ds.all U1=true:=h;have e:=uU h;let:=#[ds.map SB,by rw[<-e],λl hl=>?_];rw[e]at h;let:=ZQ.mp h _<|List.mem_map_of_mem hl
 |none=>cases h
 |bool _=>cases h
 |int _=>cases h
 |list _=>cases h
 |str _=>cases h
 |dict _=>cases h
theorem oY:∀{rs:List Row} {last:Int},-1<=last->kI n last rs=true->(∀r∈rs,small r.2.2=true)->Ends n (last+1).toNat rs
 |[],_,_,_,_=>trivial
 |r::rs,last,h0,h,sm=>by
  have h:(vQ n last r&&kI n r.2.1 rs)=true:=h;rw[ZB]at h;have g:=sV.mp h.1;have i:=g.lt;have d:=g.le;let#[f,c,_]:=KW g.lines;have b:=sm r Zt;rw[c]at b;have b:=(qJ b).1;rw[Zj]at b;let:=#[⋯,d,g.top,#[f,c,b],(oY (last:=r.2.1) ⋯ h.2 λq e=>sm q<|Zp _ e).mono ⋯]
def mH (K:Co):Sp:=λe H Q _=>∃(a l:D8) (c:By) (b:List Row),e=[.ref a,.ref l]/\yh K H a (c.map V.str)/\Dt K H (.list<|b.map zp) (.ref l)/\c.length<=1000/\b.length<=200/\Ends c.length 0 b /\
 ∀(p:D8) d,zz H d->H p=none->yh K d p ((wI c 0 b).map V.str)->Q (.ref p) d
theorem jt {ys:By}{f:Nat}(b:f<=ys.length):UX (ys.map V.str) (some (f:Int)) none=(ys.drop f).map V.str:=by
 rw[uK<|⋯,Y4,V2]
end An12
namespace AnJ
section
variable {α:Type}
inductive Pt (α:Type) where
 |same (ls:List α)
 |clash (b m y:List α)
end
open An10
open AxK
open PySem L2 An An12
def yu (ls:By):PyData:=.tuple<|ls.map .str
theorem Nc:∀a b:List Nat,decide (a<b)=yP TO.nat a b
 |[],[]=>∅
 |[],_::_=>by simp[yP]
 |_::_,[]=>by simp[yP]
 |a::as,b::bs=>by
  have d:=Nc as bs;unfold yP;rw[<-d,YY,ZY,List.cons_lt_cons_iff];show _↔(decide (a<b)||(!decide (b<a)&&decide (as<bs)))=true;rw[V5,ZB,ZY,ZY,YU,Yz];constructor
  .rintro(h|⟨h,c⟩)
   .let:=.inl h
   .let:=.inr #[⋯,c]
  .rintro(h|⟨h,c⟩)
   .let:=.inl h
   .by_cases z:a<b
    .let:=.inl z
    .let:=.inr #[⋯,c]
def tu:TO Str:=TO.by_ (TO.list TO.nat) cs λa b h=>wO h
theorem lD (a b:Str):tu.lt a b=decide (a.cps.toList<b.cps.toList):=(Nc _ _).symm
theorem lK:∀a b:By,Wy (a.map .str) (b.map .str) ((TO.list tu).lt a b)
 |[],[]=>by
  show false=decide (0<0);rfl
 |[],_::_=>by
  show true=decide (0<_);simp
 |_::_,[]=>rfl
 |x::a,y::b=>by
  show((x==y)=true/\Wy (a.map .str) (b.map .str) (yP tu (x::a) (y::b)))\/((x==y)=false/\yP tu (x::a) (y::b)=decide (x.cps.toList<y.cps.toList))
  by_cases e:x=y
  .subst e;let:=.inl #[by simp,?_];unfold yP;have:tu.lt x x=false:=tu.refl x;rw[this];let:=lK a b
  .let:=.inr #[by simpa using e,?_];unfold yP;rw[<-lD];cases q:tu.lt x y with
   |true=>rfl
   |false =>
    cases c:tu.lt y x with
    |true=>rfl
    |false=>let:=absurd (tu.gK _ _ q c) e
end AnJ
namespace L2
open PySem PySem.Spec PyProof.Rows PySem.W AxK An
def lays:Hp->List (D8×Di)->Hp
 |H,[]=>H
 |H,p::r=>lays (upd H p.1<|.tup p.2) r
theorem uX:∀{l:List (D8×Di)} {H:Hp} {b:D8},b∉l.map (·.1)->lays H l b=H b
 |[],_,_,_=>rfl
 |p::r,H,b,h=>by
  rw[ZR,Zx,not_or]at h;show lays (upd H p.1<|.tup p.2) r b=_;rw[uX h.2,zH h.1]
theorem Fd:∀{l:List (D8×Di)} {H:Hp} {p:D8×Di},(l.map (·.1)).Nodup->p∈l->lays H l p.1=some (.tup p.2)
 |q::r,H,p,nd,h=>by
  rw[ZR,Yu]at nd;show lays (upd H q.1<|.tup q.2) r p.1=_
  rcases Zx.mp h with rfl|h
  .rw[uX nd.1,zB]
  .let:=Fd nd.2 h
theorem jx:∀{l:List (D8×Di)} {H:Hp} {b:D8} {o:HO},(l.map (·.1)).Nodup->lays H l b=some o->H b=some o\/∃xs,(b,xs)∈l/\o=.tup xs:=λ{l H b o} nd h=>by
 by_cases z:b∈l.map (·.1)
 .let#[p,c,rfl]:=Zo.mp z;rw[Fd nd c]at h;let:=.inr #[p.2,c,(Option.some.inj h).symm]
 .rw[uX z]at h;let:=.inl h
theorem GO {l:List (D8×Di)}{H:Hp}(f:∀p∈l,H p.1=none):zz H (lays H l):=λb o e=>by
 rw[uX]
 .let:=e
 .intro z;let#[p,c,rfl]:=Zo.mp z;rw[f p c]at e;cases e
section
variable {X:Cx}{Dn:Dd}{σ:St}{H:Hp}{s:Eb}{h':Es}{K:Co}
theorem Inv.lays {t':Nat}(I:Inv X Dn σ H s){l:List (D8×Di)}(nd:(l.map (·.1)).Nodup)(k:∀b u,s.heap.get? b=some u->h'.get? b=some u)(g:∀p∈l,s.heap.objs.size<=p.1)(new:∀p∈l,yq X.prog X.w (lays H l) h' p.1<|.tup p.2) :
  Inv X Dn σ (lays H l) { s with heap:=h',toks:=t' }:=by
 have h:=λp m=>I.hok.fresh<|g p m;have d:=GO h;have nx:∀b u,s.heap.get? b=some u->b∉l.map (·.1):=λb u q z=>by
  let#[p,m,rfl]:=Zo.mp z;let:=absurd (ZN q)<|Nat.not_lt.mpr<|g p m
 let:=I.un #[λb u q _ _ _=>k b u q,λb u q _ _ _=>#[u.slots,k b u q],λb u q n _=>by rw[uX<|nx b u q];let:=n,λb u q _=>#[u,k b u q],λb f q=>d _ _ q,λb u f q=>d _ _ q,λb i q=>#[#v[],by rw[d _ _ q];simp]] λb u e=>?_
 rcases jx nd e with z|⟨f,m,rfl⟩
 .let:=(I.hok b u z).stay (λc v _ q=>k c v q) (λc q=>d _ _ q) λc f q=>d _ _ q
 .let:=new _ m
theorem IT:∀{ps:Df},(∀p∈ps,Ei p.1=true/\Ei p.2=true)->El (ps.map An.zp)=true
 |[],_=>rfl
 |p::ps,h=>by
  let#[b,c]:=h p<|Zt ..;show(((Ei p.1)&&((Ei p.2)&&true))&&El (ps.map An.zp))=true;rw[b,c,IT λq d=>h q<|Zp _ d];rfl
def Fb:Eg->By
 | .tuple xs=>xs.map λd=>match d with
  | .str x=>x
  |_=>""
 |_=>[]
theorem Ix {ps:Df}{i:Nat}(h:i<ps.length):(ps.map An.zp).getD i .none=An.zp (ps.getD i ("","")):=by
 rw[Yy,Yy,Zz,Zv h];rfl
theorem Wd {a b:Str×Str}(h:(TO.list AnJ.tu).le (Fb<|An.zp a)<|Fb<|An.zp b):cs a.1<=cs b.1:=by
 have h:=h;have h:(AnJ.tu.lt b.1 a.1||(!AnJ.tu.lt a.1 b.1&&yP AnJ.tu [b.2] [a.2]))=false:=h;rw[JV,AnJ.lD,Yz]at h;let:=Vv.mp h.1
def Wr (K:Co)(i:TE):TE:=λσ H Q=>i σ H λv f=>∃(d:D8) (e:Df),v=.ref d/\Rd f d (.dK<|e.map λp=>((.inr p.1:Key),V.str p.2))/\e.length<64/\(∀p∈e,Ei p.1=true/\Ei p.2=true) /\
 ∀(l:D8) (g:Df) (h:Di) (c:Hp),g.Perm e->(g.Pairwise λa b=>cs a.1<=cs b.1)->zz f c->f l=none->c l=some (.lst h)->zy K c (g.map An.zp) h->Q (.ref l) c
theorem PQ {p Dp Dq pos:Pos}(hc:X.calm=true)(hu:X.A.units+64<Lc)(hg:Gl X x)(hm:X.mg x=none)(hv:Lv x=some (.builtin "sorted"))(ho:PE X o td)
  (DR:Ly o "items" X.env (ER o X.env)=ER o X.env:=by rfl) (DJ:(Dp.endLine==Dq.line)=true:=by rfl) (hn:x≠"__name__":=by decide) (a6:(x==("__debug__":Str))=false:=by decide)
  (he:Eo [.Call (.Attribute o "items" Dp) [] [] Dq] X.env=(false,ER (.Call (.Attribute o "items" Dp) [] [] Dq) X.env)::Eo [] X.env:=by rfl) (bd:(E9 pos<|Eo [] X.env).any (·.1)=false:=by rfl) (hK:X.K=K:=by rfl) :
  PE X (.Call (.Name x p) [.Call (.Attribute o "items" Dp) [] [] Dq] [] pos) (Wr K td):=by
 subst hK;intro Dn s σ H Q I h;let:=Ja<|uQ I hg hm hv ?_ hn a6;let:=VV ?_ he bd;rw[he];let:=LP ?_;let:=VG DR DJ<|Ct (ho Dn s σ H _ I h) λv L zq=>?_;let#[x,M,I1,r,d,f,ex,hd,a4,hok,q]:=zq;subst ex;cases r;let#[vs,ep,U,da,hS,bh]:=Ra I1 hd;have dO:=da.dictOf;let#[bo,b0,h1,h2,h3]:=id da;let:=#["dict","dict.items",F.plainAttrs_dict,LY,F.type_dict_items,dO.typeIs,λb q=>by cases q;let:=#[bo,h1,h2.2.1],La rfl<|V8 ?_];let:=Uy LY dO.typeIs F.entry_dict_items (F.args_dict_items_1 _) (meets_dict_items (yw X.prog X.w) d hS) #[#[vs,dO],?_];let:=Calls.spliced_nil ?_;have I2:Inv X Dn σ M { L with heap:=L.heap.push { cls:=.type "dict_items",data:=.fields #v[.ref d] } }:=I1.kept (t':=L.toks) λb o e=>Zr _ e;have a0:(L.heap.push { cls:=.type "dict_items",data:=.fields #v[.ref d] }).DictAt (yw X.prog X.w) d vs ep:=da.at' λo e=>Zr _ e;have bf:(L.heap.push { cls:=.type "dict_items",data:=.fields #v[.ref d] }).IsItemsView L.heap.objs.size d:=#[_,ZG _ rfl,rfl,rfl];have Do:=Paired.length U;rw[Zj]at Do;have DJ:64<=sizeLine:=by rw[Y3];decide
 let:=Calls.call_function_entry kind_sorted plain_sorted entry_sorted (args_sorted1 _) ?_;unfold Builtin.«sorted»;let:=Zl<|Zw ?_;let:=Zl (kdx_collect (I.ok.hd hc) bf a0 ⋯ λh' tk l a8 hl P=>?_);have N:∀b o,(L.heap.push { cls:=.type "dict_items",data:=.fields #v[.ref d] }).get? b=some o->h'.get? b=some o:=a8;generalize L.heap.push { cls:=.type "dict_items",data:=.fields #v[.ref d] }=h0 at I2 P N;have ln:l.length=f.length:=by rw[hl,<-Do]
 have al:=JM.mpr<|P.rise.imp λ{a b} z=>ZZ z;have z1:((l.zip f).map λ(q:D8×(Str×Str))=>(q.1,[V.str q.2.1,V.str q.2.2])).map (·.1)=l:=by
  rw[ZK];let:=J9 ⋯
 have Z:Inv X Dn σ (lays M<|(l.zip f).map λ(q:D8×(Str×Str))=>(q.1,[V.str q.2.1,V.str q.2.2])) { L with heap:=h',toks:=tk }:=by
  let:=Inv.lays I2 (by rwa[z1]) N (λp y=>?_)<|λp y=>?_
  .let#[c,B,rfl]:=Zo.mp y;let:=YC<|P.above _ (VC B).1
  .let#[c,B,rfl]:=Zo.mp y;let#[j,u]:=YF.mp B;rw[Jn]at u;let#[key,k,x,e1,hk,e2]:=P.pairs j _ u.1;let#[p,G,O,rx]:=uL U e1;rw[Zz,u.2]at G;have G:=(Option.some.inj G).symm;subst G;have O:(Ec c.2.1:Key)=k:=O;rw[<-O]at hk;let#[t,et]:=J1<|show E3 c.2.1 key=true from hk;let:=#[by show 2<=_;lia,[key,x],.cons #[t,et]<|.cons rx .nil,_,e2,rfl,0,rfl,rfl]
 have sm:zz M (lays M<|(l.zip f).map λ(q:D8×(Str×Str))=>(q.1,[V.str q.2.1,V.str q.2.2])):=GO λp y=>by
  let#[c,B,rfl]:=Zo.mp y;let:=I2.hok.fresh<|YC<|P.above _ (VC B).1
 have D:zy X.K (lays M<|(l.zip f).map λ(q:D8×(Str×Str))=>(q.1,[V.str q.2.1,V.str q.2.2])) (f.map An.zp) (l.map V.ref):=by
  have at_:∀(j:Nat) (a:D8) (p:Str×Str),l[j]?=some a->f[j]?=some p->lays M ((l.zip f).map λ(q:D8×(Str×Str))=>(q.1,[V.str q.2.1,V.str q.2.2])) a=some (.tup [V.str p.1,V.str p.2]):=λj a p ha y =>
   Fd (by rwa[z1]) (Zo.mpr #[(a,p),Zy<|Jn.mpr #[ha,y],rfl])
  generalize lays M ((l.zip f).map λ(q:D8×(Str×Str))=>(q.1,[V.str q.2.1,V.str q.2.2]))=Hs at at_;clear Z sm z1 al P hl hok q hd U a4 Do bh
  induction l generalizing f with
  |nil =>
   cases f with
   |nil=>rfl
   |cons p f=>cases ln
  |cons a l ih =>
   cases f with
   |nil=>cases ln
   |cons p f =>
    have h0:=at_ 0 a p rfl rfl;let:=#[.ref a,l.map V.ref,rfl,#[a,[V.str p.1,V.str p.2],rfl,yh.of h0,_,_,rfl,rfl,_,_,rfl,rfl,rfl],ih f (by simpa using ln) λj b q' hb be=>at_ (j+1) b q' hb be]
 generalize lays M ((l.zip f).map λ(q:D8×(Str×Str))=>(q.1,[V.str q.2.1,V.str q.2.2]))=Hs at Z sm D;have rv:zb (l.map V.ref) (l.map Em):=by
  clear P hl al ln z1 D Z
  induction l with
  |nil=>let:=.nil
  |cons a l ih=>let:=.cons rfl ih
 let#[bx,rd]:=zy.xx Z _ _ _ D rv;have rd:=rd;have bm:=IT hok;have l1:(l.map V.ref).length=(f.map An.zp).length:=by rwa[Zj,Zj]
 have l2:(l.map Em).length=(f.map An.zp).length:=by rwa[Zj,Zj]
 have l3:(f.map An.zp).length<64:=by rwa[Zj]
 have R:∀d∈f.map An.zp,FF "str" d/\d.canLay0=true/\d.depth<=60:=λd hd=>by
  let#[p,y,rfl]:=Zo.mp hd;let#[h1,h2]:=hok p y;let:=#[#[rfl,_,_,rfl],?_,by show max 0 (max 0 0)+1<=60;decide];show(Ei p.1&&(Ei p.2&&true))=true;rw[h1,h2];rfl
 have a9:∀d∈f.map An.zp,∀e∈f.map An.zp,aG d e ((TO.list AnJ.tu).lt (Fb d)<|Fb e):=λd hd e he=>by
  let#[p,y,rfl]:=Zo.mp hd;let#[p',b3,rfl]:=Zo.mp he;let:=AnJ.lK [p.1,p.2] [p'.1,p'.2]
 generalize l.map Em=g at rd rv l2;generalize l.map V.ref=Y at rv D l1;let:=Zl (wpAny_newList ?_ (by rw[l2];lia));have J:(h'.push<|Ll "list" g.toArray 0).get? h'.objs.size=some (Ll "list" g.toArray 0):=ZG _ rfl;have kp:∀b o,h'.get? b=some o->(h'.push<|Ll "list" g.toArray 0).get? b=some o:=λb o z=>Zr _ z;generalize h'.push (Ll "list" g.toArray 0)=a3 at J kp;let:=Zl<|YJ<|Yr slot_list_sort #[_,J,rfl] entry_list_sort ?body<|args_list_sort _;let:=MC (κ:=tuples'<|EJ "str" !=EJ "tuple") (lt:=λi j=>(TO.list AnJ.tu).lt (Fb<|(f.map An.zp).getD i .none)<|Fb<|(f.map An.zp).getD j .none) J ⋯ (λh2 s2 k1=>?_) λp y=>#[_,rfl,Zw #[_,rfl,?_]]
 .have T:=qH (λb o z=>k1 b o (ZZ<|ZN z)<|kp b o z) _ _ _ bm rd;let:=#[λQ' E' z=>RY T (λd a5=>(R d a5).1) ⋯ z,λi j E u C c=>?_];let#[b1,r1]:=XI i T ⋯;let#[b2,r2]:=XI j T ⋯;have m:∀k,k<g.length->(f.map An.zp).getD k .none∈f.map An.zp:=λk hk=>by
   rw[Yy,Zv<|⋯];let:=Ys _
  have d1:=R _<|m i E;have d2:=R _<|m j u;let:=N3 r1 r2 d1.1 d2.1 d1.2.1 d2.2.1 (by show X.A.units+1+1+_<_;lia) (a9 _ (m i E) _<|m j u) c
 .have pp:p.Perm (Lb<|Eu g.length)/\Up (TO.list AnJ.tu) (λi=>Fb<|(f.map An.zp).getD i .none) p g.length:=by
   rcases y with⟨n2,rfl⟩|⟨n2,rfl⟩
   .let:=#[Array.Perm.refl _,λ(i j:Nat) (ab:i<=j) (u:j<g.length)=>?_];have:i=j:=⋯
    subst this;let:=(TO.list AnJ.tu).refl _
   .let#[p',e,a1,a2]:=SA (n:=g.length) ⋯;rw[e];let:=#[a1,a2]
  let#[pp,up]:=pp;have S:p.toList.Perm (Eu g.length):=by simpa using Array.perm_iff_toList_perm.mp pp
  have pm:∀i∈p.toList,i<Y.length:=λi E=>by
   have:=VI.mp<|S.mem_iff.mp E;lia
  let#[e,a7]:=sortedHeap_at J;have nl:=Bq rv p.toList pm;have bl:∀b ob,h'.get? b=some ob->(sortedHeap a3 h'.objs.size g<|Lb<|p.toList.map λi=>g.getD i EB).get? b=some ob:=λb ob q1=>by
   have hb:=ZN q1;rw[sortedHeap_old (ZZ hb)<|ZN<|kp b ob q1];let:=kp b ob q1
  have ai:p.toList.length=g.length:=by rw[S.length_eq,YL]
  have aa:=Z.hok.fresh<|Zn _;have iD:=sm.free aa;have an:=zD (o:=.lst<|p.toList.map λi=>Y.getD i .non) aa;let:=#[.ref h'.objs.size,_,Z.laid (o:=.lst<|p.toList.map λi=>Y.getD i .non) (t':=tk) bl (Zn _) #[by rw[Zj,ai,Y3];lia,_,e,nl,a7],rfl,q _ (p.toList.map λi=>f.getD i ("","")) _ _ ?_ ?_ (sm.trans an) iD zB ?_]
  .have:=S.map λi=>f.getD i ("","");rw[show g.length=f.length by rw[l2,Zj],PU]at this;let:=this
  .rw[JO];intro i j E u ab;rw[Ya,Ya];have:=up i j (YC ab) (by rw[Zj,ai]at u;let:=u);unfold kn at this;rw[Zj,Z5]at E u;rw[Yn,Yn,Uz p i E,Uz p j u]at this;have pi:p[i]<f.length:=by
    have:=pm p[i] (by rw[<-Vw E];let:=Ys _);rw[l1,Zj]at this;let:=this
   have pj:p[j]<f.length:=by
    have:=pm p[j] (by rw[<-Vw u];let:=Ys _);rw[l1,Zj]at this;let:=this
   rw[Vw E,Vw u];have this:(TO.list AnJ.tu).le (Fb<|(f.map An.zp).getD p[i] .none) (Fb<|(f.map An.zp).getD p[j] .none):=by simpa using this
   rw[Ix pi,Ix pj]at this;let:=Wd this
  .have:=zy.same an _ _<|M0 D p.toList pm;rw[show(p.toList.map λi=>(f.map An.zp).getD i .none)=(p.toList.map λi=>f.getD i ("","")).map An.zp by
    rw[ZK];let:=Yw λi E=>Ix ?_;have:=pm i E;rw[l1,Zj]at this;let:=this]at this
   let:=this
end
end L2
namespace AnP
open PySem L2 An An12
def CN:Eg->Option By
 | .tuple [.str w,x]=>if w="leaf" then some (linesOf x) else none
 |_=>none
theorem Ir (ls:By):CN (Th.leaf ls).dat=some ls:=by
 show(if("leaf":Str)="leaf" then some (linesOf<|.tuple<|ls.map .str) else none)=_;rw[ZJ rfl,wA]
theorem Im (rs:Df):CN (Th.tree rs).dat=none:=by
 show(if("tree":Str)="leaf" then some (linesOf<|.tuple<|rs.map An.zp) else none)=_;let:=ZI (by lk)
abbrev Bs:=Str×By×Nat
structure Pe where
 e:En
 b:Option Bs
def Pe.st (p:Pe):Nat:=match p.b with
 |none=>0
 |some x=>x.2.2+1
def cst (ls:By)(x:Bs):Int:=IK<|spans x.2.1 ls
def pick (ls:By)(x:Bs)(a:Option Bs×Int):Option Bs×Int:=if cst ls x<a.2 then(some x,cst ls x) else a
def best (B:List Bs)(ls:By):Option Bs×Int:=B.foldr (pick ls) (none,ls.length)
def UE (B:List Bs)(e:En):Pe:=#[e,(CN e.d).bind λb=>(best B b).1]
def Xa (p:Pe):List Bs:=match CN p.e.d with
 |some ls=>if p.st<4 then[(p.e.nm,ls,p.st)] else[]
 |none=>[]
def Cq (T:Dh):List Pe×List Bs:=T.foldl (λs e=>(s.1++[UE s.2 e],s.2++Xa (UE s.2 e))) ([],[])
theorem qB (T:Dh)(e:En):Cq (T++[e])=((Cq T).1++[UE (Cq T).2 e],(Cq T).2++Xa (UE (Cq T).2 e)):=by
 unfold Cq;rw[Yl];rfl
theorem HP (T:Dh):(Cq T).1.map (·.e)=T:=by
 induction T using snoc_ind with
 |h0=>rfl
 |h1 T e ih=>rw[qB,Zu,ih];rfl
theorem jY (T:Dh):(Cq T).1.length=T.length:=by
 have:=congrArg List.length<|HP T;rw[Zj]at this;let:=this
theorem W4 (T:Dh):(Cq T).2.length<=T.length:=by
 induction T using snoc_ind with
 |h0=>let:=Zn _
 |h1 T e ih =>
  rw[qB,Zq,Zq];let:=Nat.add_le_add ih ?_;unfold Xa
  split
  .split<;>simp
  .simp
def Has (G:List Pe)(x:Bs):Prop:=∃q∈G,q.e.nm=x.1/\CN q.e.d=some x.2.1/\q.st=x.2.2/\x.2.2<4
theorem Has.mono {p:Pe}(h:Has G x):Has (G++[p]) x:=let #[q,m,r]:=h;#[q,Z4 _ m,r]
theorem FL {x:Bs}:∀{B:List Bs},(best B ls).1=some x->x∈B
 |[],h=>by cases h
 |y::B,h=>by
  have h:(pick ls y<|best B ls).1=some x:=h;unfold pick at h
  split at h
  .rw[<-Option.some.inj h];let:=Zt
  .let:=Zp _ (FL h)
theorem Bh (T:Dh):(∀x∈(Cq T).2,Has (Cq T).1 x)/\∀p∈(Cq T).1,∀x,p.b=some x->Has (Cq T).1 x/\∃ls,CN p.e.d=some ls:=by
 induction T using snoc_ind with
 |h0=>let:=#[λ_ h=>(nomatch h),λ_ h=>(nomatch h)]
 |h1 T e ih =>
  rw[qB];let:=#[λx c=>?_,λp g x c=>?_]
  .rcases ZD.mp c with h|h
   .let:=(ih.1 x h).mono
   .unfold Xa at h
    split at h
    .rename_i ls hl
     split at h
     .rename_i i;rw[Zk.mp h];let:=#[_,ZM _<|Zk.mpr rfl,rfl,hl,rfl,i]
     .cases h
    .cases h
  .rcases ZD.mp g with h|h
   .let:=#[(ih.2 p h x c).1.mono,(ih.2 p h x c).2]
   .rw[Zk.mp h]at c ⊢;let#[ls,hl,f]:=Option.bind_eq_some_iff.mp c;let:=#[(ih.1 x<|FL f).mono,ls,hl]
theorem PX {p:Pe}(h:p∈(Cq T).1):p.st<5:=by
 unfold Pe.st
 split
 .decide
 .rename_i x b;let#[#[_,_,_,_,_,l],_]:=(Bh T).2 p h x b;lia
def Mx (p:Pe):Int:=match CN p.e.d,p.b with
 |some ls,some x=>cst ls x
 |some ls,none=>ls.length
 |none,_=>0
def least (ls:By)(o:Option Bs)(x:Bs):Option Bs:=match o with
 |none=>some x
 |some y=>if cst ls x<=cst ls y then some x else o
theorem OI (ls:By)(B:List Bs):∀a:Option Bs×Int,B.foldr (pick ls) a=match B.foldl (least ls) none with
  |none=>a
  |some x=>if cst ls x<a.2 then(some x,cst ls x) else a:=by
 induction B using snoc_ind with
 |h0=>let:=λa=>rfl
 |h1 B x ih =>
  intro a;rw[List.foldr_append,Yl,ih];show(match B.foldl (least ls) none with
   |none=>pick ls x a
   |some y=>if cst ls y<(pick ls x a).2 then(some y,cst ls y) else pick ls x a)=match least ls (B.foldl (least ls) none) x with
   |none=>a
   |some y=>if cst ls y<a.2 then(some y,cst ls y) else a
  cases B.foldl (least ls) none with
  |none=>rfl
  |some y =>
   show(if cst ls y<(pick ls x a).2 then(some y,cst ls y) else pick ls x a)=match(if cst ls x<=cst ls y then some x else some y) with
    |none=>a
    |some y=>if cst ls y<a.2 then(some y,cst ls y) else a
   unfold pick
   by_cases h:cst ls x<=cst ls y
   .rw[ZJ h];show _=if cst ls x<a.2 then(some x,cst ls x) else a
    by_cases b:cst ls x<a.2
    .rw[ZJ b];let:=ZI (by show¬cst ls y<cst ls x;lia)
    .rw[ZI b];let:=ZI ⋯
   .rw[ZI h];show _=if cst ls y<a.2 then(some y,cst ls y) else a
    by_cases b:cst ls x<a.2
    .rw[ZJ b,ZJ<|show cst ls y<a.2 by lia];let:=ZJ (by show cst ls y<cst ls x;lia)
    .rw[ZI b]
def lack (xs ys:By):By:=ys.filter λy=>decide (y∉xs)
theorem Na:∀{rs:List Row} {e:Nat},((lack xs<|wI xs e rs).length:Int)+(if rs=[] then 0 else 2)<=IK rs
 |[],e=>by
  have:lack xs (wI xs e [])=[]:=JJ.mpr λy b=>by
   have b:=b;rw[ZY,L0];let:=YD b
  rw[this];decide
 |r::rs,e=>by
  have f:=Na (xs:=xs) (rs:=rs) (e:=r.2.1.toNat);have c:lack xs ((xs.drop e).take<|r.1.toNat-e)=[]:=JJ.mpr λy b=>by
   rw[ZY,L0];let:=YD<|Yf b
  have g:(lack xs<|linesOf r.2.2).length<=(linesOf r.2.2).length:=YG _ _;have d:lack xs (wI xs e (r::rs))=lack xs ((xs.drop e).take<|r.1.toNat-e)++lack xs (linesOf r.2.2)++lack xs (wI xs r.2.1.toNat rs):=by
   show List.filter _ (_++_++_)=_;rw[YX,YX];rfl
  rw[d,c,JC,Zq,ZI<|λz=>nomatch z];show _<=2+((linesOf r.2.2).length:Int)+IK rs
  split at f<;>lia
theorem N4 (ls:By)(x:Bs):(if 0<(lack x.2.1 ls).length then 2+((lack x.2.1 ls).length:Int) else 0)<=cst ls x:=by
 have:=Na (xs:=x.2.1) (rs:=spans x.2.1 ls) (e:=0);rw[rA]at this;unfold cst
 split
 .rename_i h;have b:spans x.2.1 ls≠[]:=λz=>by
   rw[z]at this;have:((lack x.2.1 ls).length:Int)<=0:=by simpa[IK] using this
   lia
  rw[ZI b]at this;lia
 .split at this<;>lia
section
variable {P:Ea}{w:Ef}{K:Co}{H H':Hp}{gp fp:Dc}
theorem jC {xs:Di}(n:∀b∈gp,∀xs,¬Rd H b (.tup xs))(o:Off gp H H')(h:yh K H a xs):yh K H' a xs:=by
 rcases h with h|h
 .have ne:=λz=>n a z xs h
  rcases h with h|⟨u,h⟩
  .let:=.inl (.inl<|o a _ ne h)
  .let:=.inl (.inr #[u,o a _ ne h])
 .let:=.inr h
theorem B3 {a:D8}(ne:a∉gp)(o:Off gp H H')(h:za K H a xs):za K H' a xs:=by
 rcases h with(h|⟨u,h⟩)|h
 .let:=.inl (.inl<|o a _ ne h)
 .let:=.inl (.inr #[u,o a _ ne h])
 .let:=.inr h
def S1 (r:Row):Prop:=∃b:By,r.2.2=.tuple (b.map .str)
theorem HZ (n:∀b∈gp,∀xs,¬Rd H b (.tup xs))(o:Off gp H H'):∀{rs:List Row} {vs:Di},(∀r∈rs,S1 r)->zy K H (rs.map An12.zp) vs->zy K H' (rs.map An12.zp) vs
 |[],_,_,h=>h
 |r::rs,_,g,z=>by
  let#[x,q,e,#[a,xs,f,t,u,G,l,E,v,I,p,F,y,J,s,d,B],C]:=z;let:=#[x,q,e,#[a,xs,f,jC n o t,u,G,l,E,v,I,p,F,y,J,s,?_,B],HZ n o (λr D=>g r<|Zp _ D) C];let#[L,j]:=g r Zt;rw[j]at d ⊢;let#[b,M,i,w,A]:=d;have c:=zy.vf A;subst c;let:=#[b,_,i,jC n o w,zy.strs _]
theorem MG (xs ys:By):∀r∈spans xs ys,S1 r:=λr b=>by
 let#[i,k,c,rfl,_]:=uc r b;let:=#[c,rfl]
def wG (K:Co)(H:Hp)(c:Dc)(p:Pe)(t:D8):Prop:=match p.b with
 |none=>Dt K H p.e.d<|.ref t
 |some x=>t∈c/\∃f,CN p.e.d=some f/\Dt K H (.list<|(spans x.2.1 f).map An12.zp) (.ref t)
def bV (p:Pe):V:=match p.b with
 |none=>.non
 |some x=>.str x.1
def CG (G:List Pe):Dk:=G.map λp=>((Ec p.e.nm:Key),bV p)
def M9 (G:List Pe)(b:Dc):Dk:=(G.zip b).map λq=>((Ec q.1.e.nm:Key),V.ref q.2)
def F7 (b c:D8):List (Str×V):=[("base_by_name",.ref b),("part_by_name",.ref c)]
def Lf (T:Dh):Prop:=∀e∈T,∃t:Th,e.d=t.dat/\∀b,t=.leaf b->UR b
theorem Lf.ln (h:Lf T){e:En}(c:e∈T){ls:By}(hl:CN e.d=some ls):e.d=(Th.leaf ls).dat/\UR ls:=by
 let#[t,b,k]:=h e c;rw[b]at hl ⊢;cases t with
 |leaf l =>
  rw[Ir]at hl;cases hl;let:=#[rfl,k ls rfl]
 |tree rs=>rw[Im]at hl;cases hl
 |note x y z=>cases hl
structure vz (K:Co)(D:D8)(H:Hp)(a:D8)(fp:Dc)(T:Dh):Prop where
 good:wY T
 lf:Lf T
 at_:∃(dx d1 d2:D8) (lts ts:Dc),fp=a::dx::d1::d2::lts/\d1≠d2/\H a=some (.ins D dx<|F7 d1 d2)/\H dx=some (.own a)/\H d1=some (.dK<|CG (Cq T).1)/\H d2=some (.dK<|M9 (Cq T).1 ts)/\ts.length=T.length/\(∀b∈lts,∃xs,H b=some (.lst xs)) /\
  ∀(i:Nat) (p:Pe) (t:D8),(Cq T).1[i]?=some p->ts[i]?=some t->wG K H lts p t
theorem q8 {p:Pe}(h:p∈(Cq T).1):p.e∈T:=by
 rw[<-HP T];let:=Zo.mpr #[p,h,rfl]
theorem wG.off {c:Dc}{p:Pe}{t:D8}(n:∀b∈gp,∀xs,¬Rd H b (.tup xs))(o:Off gp H H')(i:t∈c->t∉gp)(g:U2 p.e.d=true)(pt:wG K H c p t):wG K H' c p t:=by
 unfold wG at pt ⊢
 split
 .rename_i e;rw[e]at pt;let:=Dt.off n o _ _ g pt
 .rename_i x e;rw[e]at pt;let#[h,q,hl,b,xs,f,j,l]:=pt;injection f with f;subst f;let:=#[h,q,hl,t,xs,rfl,B3 (i h) o j,HZ n o (MG _ _) l]
theorem vz.off (n:∀b∈gp,∀xs,¬Rd H b (.tup xs))(o:Off gp H H')(d:∀b∈fp,b∉gp)(h:vz K D H a fp T):vz K D H' a fp T:=by
 let#[g,lf,r,l,q,c,F,rfl,nd,s,v,w,y,A,B,C]:=h;have k:=λb u m e=>o b u (d b m) e;let:=#[g,lf,r,l,q,c,F,rfl,nd,k _ _ (by simp) s,k _ _ (by simp) v,k _ _ (by simp) w,k _ _ (by simp) y,A,λb f=>?_,λi p t j E=>?_]
 .let#[xs,e]:=B b f;let:=#[xs,k _ _ (by simp[f]) e]
 .let:=(C i p t j E).off n o (λz=>d t<|by simp[z]) (g.ent _<|q8<|Zy j).key.1
theorem vz.ex (h:vz K D H a fp T):Ex H fp:=λc b=>by
 let#[g,lf,q,o,p,n,t,rfl,nd,d,f,i,j,r,l,s]:=h;simp only[Zx]at b
 rcases b with rfl|rfl|rfl|rfl|b
 .let:=#[_,d]
 .let:=#[_,f]
 .let:=#[_,i]
 .let:=#[_,j]
 .let#[u,e]:=l c b;let:=#[_,e]
inductive wz (P:Ea)(w:Ef)(K:Co)(C D c:D8)(H:Hp)(a:D8)(fp:Dc)(S:Dh):Prop
 |sh (e:c=C) (h:xr P w K C H a fp S):wz P w K C D c H a fp S
 |pk (e:c=D) (h:vz K D H a fp S):wz P w K C D c H a fp S
variable {C D c a:D8}{S:Dh}
theorem wz.kl (h:wz P w K C D c H a fp S):Kl C D c:=by
 cases h with
 |sh e _=>let:=.inl e
 |pk e _=>let:=.inr e
theorem wz.good (h:wz P w K C D c H a fp S):wY S:=by
 cases h with
 |sh _ h=>let:=h.good
 |pk _ h=>let:=h.good
theorem wz.ex (h:wz P w K C D c H a fp S):Ex H fp:=by
 cases h with
 |sh _ h=>let:=h.ex
 |pk _ h=>let:=h.ex
theorem wz.off (n:∀b∈gp,∀xs,¬Rd H b (.tup xs))(o:Off gp H H')(d:∀b∈fp,b∉gp)(h:wz P w K C D c H a fp S):wz P w K C D c H' a fp S:=by
 cases h with
 |sh e h=>let:=.sh e<|h.off n o d
 |pk e h=>let:=.pk e<|h.off n o d
theorem wz.same (s:zz H H')(h:wz P w K C D c H a fp S):wz P w K C D c H' a fp S:=h.off (gp:=[]) (λb m=>(nomatch m)) (Off.of s) (λb _=>by simp)
theorem vz.same (s:zz H H')(h:vz K D H a fp T):vz K D H' a fp T:=h.off (gp:=[]) (λb m=>(nomatch m)) (Off.of s) (λb _=>by simp)
theorem wz.ins (h:wz P w K C D c H a fp S):∃dx fs,H a=some (.ins c dx fs)/\fs.lookup ("has":Str)=none/\fs.lookup ("thing":Str)=none/\fs.lookup ("names":Str)=none:=by
 cases h with
 |sh e h =>
  let#[_,dx,d,f,g,_,_,_,_,b,_]:=h;let:=#[dx,_,e▸b,rfl,rfl,rfl]
 |pk e h =>
  let#[_,_,dx,d,f,_,_,_,_,b,_]:=h;let:=#[dx,_,e▸b,rfl,rfl,rfl]
def nl (p:Pe)(u:D8):Dc:=match p.b with
 |none=>[]
 |some _=>[u]
theorem jZ {b:D8}{c:Dk}(h:H b=some (.dK c)):∀xs,¬Rd H b (.tup xs):=λxs z=>by
 rcases z with z|⟨u,z⟩
 .rw[h]at z;cases z
 .rw[h]at z;cases z
theorem vz.snoc {T:Dh}{e:En}{s f h u:D8}{d l:Dc}(g:wY<|T++[e])(lf:Lf<|T++[e])(nd:f≠h)(A:H a=some (.ins D s<|F7 f h))(B:H s=some (.own a))(C:H f=some (.dK<|CG (Cq T).1))(E:H h=some (.dK<|M9 (Cq T).1 l))(w:l.length=T.length)(F:∀b∈d,∃xs,H b=some (.lst xs))
  (G:∀(i:Nat) (p:Pe) (t:D8),(Cq T).1[i]?=some p->l[i]?=some t->wG K H d p t) (I:wG K H (d++nl (UE (Cq T).2 e) u) (UE (Cq T).2 e) u) (hl:∀b∈nl (UE (Cq T).2 e) u,∃xs,H b=some (.lst xs)) :
  vz K D (upd (upd H f<|.dK<|CG (Cq T).1++[(.inr e.nm,bV<|UE (Cq T).2 e)]) h<|.dK<|M9 (Cq T).1 l++[(.inr e.nm,.ref u)]) a (a::s::f::h::(d++nl (UE (Cq T).2 e) u)) (T++[e]):=by
 have o:Off [f,h] H (upd (upd H f<|.dK<|CG (Cq T).1++[(.inr e.nm,bV<|UE (Cq T).2 e)]) h<|.dK<|M9 (Cq T).1 l++[(.inr e.nm,.ref u)]):=((Off.refl _ _).upd<|by simp).upd (by simp);have n:∀b∈[f,h],∀xs,¬Rd H b (.tup xs):=λb c=>by
  simp only[Zx,Yg,Jo]at c
  rcases c with rfl|rfl
  .let:=jZ C
  .let:=jZ E
 have nb:∀{b:D8} {u:HO},H b=some u->(∀J,u≠.dK J)->b∉[f,h]:=λ{b u} c q z=>by
  simp only[Zx,Yg,Jo]at z
  rcases z with rfl|rfl
  .rw[C]at c;let:=q _ (Option.some.inj c).symm
  .rw[E]at c;let:=q _ (Option.some.inj c).symm
 have all:=λb c=>(ZD.mp c).elim (F b)<|hl b;let:=#[g,lf,s,f,h,_,l++[u],rfl,nd,o _ _ (nb A λ_ z=>nomatch z) A,o _ _ (nb B λ_ z=>nomatch z) B,?_,?_,by rw[Zq,Zq,w];rfl,λb c=>?_,λi p t r v=>?_]
 .rw[zH nd,zB,qB];unfold CG;rw[Zu];rfl
 .rw[zB,qB];unfold M9;rw[List.zip_append<|by rw[jY,w],Zu];rfl
 .let#[xs,j]:=all b c;let:=#[xs,o _ _ (nb j λ_ z=>nomatch z) j]
 .have key:wG K H (d++nl (UE (Cq T).2 e) u) p t:=by
   rw[qB]at r
   rcases Jw i l.length with y|y
   .rw[ZT (by rw[jY];lia)]at r;rw[ZT y]at v;have:=G i p t r v;unfold wG at this ⊢
    split
    .rename_i j;rw[j]at this;let:=this
    .rename_i x j;rw[j]at this;let:=#[Z4 _ this.1,this.2]
   .rw[ZU (by rw[jY];lia),jY,<-w]at r;rw[ZU y]at v;let#[_,rfl]:=An10.tE r;let#[_,rfl]:=An10.tE v;let:=I
  let:=key.off n o (λz=>?_) (g.ent _<|q8<|Zy r).key.1;let#[xs,j]:=all t z;let:=nb j λ_ z=>nomatch z
end
end AnP
namespace An
open PySem L2 AnJ
theorem v8 (h:UR ls):U2 (yu ls)=true:=(Xj<|qK h).1 |> λz=>by
 have z:(U2 (.str "leaf")&&(U2 (yu ls)&&true))=true:=z;rw[ZB,ZB]at z;let:=z.2.1
structure wL (K:Co)(H:Hp)(fs:Dj)(Dl:Dk):Prop where
 keys:Dl.map (·.1)=fs.map λf=>(.inr (Cv f.1):Key)
 val:∀(i:Nat) (f:Fi) (kv:Key×V),fs[i]?=some f->Dl[i]?=some kv->Dt K H (yu f.2) kv.2/\UR f.2
section
variable {K:Co}{H H':Hp}{fs:Dj}{Dl:Dk}
theorem wL.nil:wL K H [] []:=#[rfl,λi f b h=>(nomatch h)]
theorem wL.len (h:wL K H fs Dl):Dl.length=fs.length:=by
 have:=congrArg List.length h.keys;rw[Zj,Zj]at this;let:=this
theorem wL.same (h:wL K H fs Dl)(e:zz H H'):wL K H' fs Dl:=#[h.keys,λi f c a b=>#[Dt.same e _ _ (h.val i f c a b).1,(h.val i f c a b).2]]
theorem wL.off {X:Dc}(h:wL K H fs Dl)(n:∀b∈X,∀xs,¬Rd H b (.tup xs))(o:Off X H H'):wL K H' fs Dl:=#[h.keys,λi f c a b=>#[Dt.off n o _ _ (v8 (h.val i f c a b).2) (h.val i f c a b).1,(h.val i f c a b).2]]
theorem wL.get (h:wL K H fs Dl){i:Nat}{k:Key}{v:V}(e:Dl[i]?=some (k,v)):∃f,fs[i]?=some f/\k=.inr (Cv f.1)/\Dt K H (yu f.2) v/\UR f.2:=by
 have hl:=(ZC.mp e).1;have c:=Zv (by rwa[<-h.len]);have d:=congrArg (λl=>l[i]?) h.keys;simp only[Zz,e,c,YZ]at d;let#[a,b]:=h.val i _ _ c e;let:=#[_,c,Option.some.inj d,a,b]
theorem wL.snoc (h:wL K H fs Dl){f:Fi}{v:V}(d:Dt K H (yu f.2) v)(hl:UR f.2):wL K H (fs++[f]) (Dl++[(.inr<|Cv f.1,v)]):=by
 let:=#[by rw[Zu,Zu,h.keys];rfl,λi g e a b=>?_]
 by_cases z:i<fs.length
 .rw[ZT z]at a;rw[ZT<|by rwa[h.len]]at b;let:=h.val i g e a b
 .rw[ZU<|⋯]at a;rw[ZU (by rw[h.len];lia)]at b;have c:i-fs.length=0:=by
   rcases JL (i-fs.length) with q|q
   .let:=q
   .rw[JN.mpr (by show 1<=_;lia)]at a;cases a
  rw[c]at a;rw[h.len,c]at b;cases a;cases b;let:=#[d,hl]
end
theorem Fp {d:Nat}{a b:By}(h:a≠[])(i:b≠[])(j:∀l∈a,yB l=true)(n:∀l∈b,yB l=true)(e:Cv a=Cv b):a=b:=by
 have f:=uE h λy c=>qI<|j y c;have g:=uE i λy c=>qI<|n y c;unfold Cv at e;rw[<-f,<-g,e]
def Ku (b:Df):Dk:=b.map λp=>((.inr p.1:Key),V.str p.2)
theorem Rb (b:Df):(Ku b).map (·.1)=b.map λp=>(.inr p.1:Key):=by unfold Ku;rw[ZK];rfl
theorem Nq {b:Df}{l n:Str}(h:l∉b.map (·.1)):yp (Ku b) (.inr l) (.str n)=Ku (b++[(l,n)]):=by
 rw[kZ]
 .unfold Ku;rw[Zu];rfl
 .rw[Rb];intro z;let#[p,c,e]:=Zo.mp z;cases e;let:=h<|Zo.mpr #[p,c,rfl]
def CF (b:List<|Str×D8):Dk:=b.map λp=>((.inr p.1:Key),V.ref p.2)
theorem F4 (b:List<|Str×D8):(CF b).map (·.1)=b.map λp=>(.inr p.1:Key):=by unfold CF;rw[ZK];rfl
theorem Tp {c:List (Str×D8)}(nd:(c.map (·.1)).Nodup):((CF c).map (·.1)).Nodup:=by
 rw[F4];have:(c.map λp=>(.inr p.1:Key))=(c.map (·.1)).map Sum.inr:=by rw[ZK];rfl
 rw[this];let:=List.Pairwise.map _ (λa b n e=>by cases e;let:=n rfl) nd
theorem vL {b:List (Str×D8)}(nd:(b.map (·.1)).Nodup){p:Str×D8}(h:p∈b):UH (CF b) (.inr p.1)=some (.ref p.2):=vF (Tp nd)<|Zo.mpr #[p,h,rfl]
theorem OT {b:List (Str×D8)}{l:Str}(h:l∉b.map (·.1)):UH (CF b) (.inr l)=none:=by
 cases e:UH (CF b) (.inr l) with
 |none=>rfl
 |some v =>
  have:=k8 e;rw[F4]at this;let#[p,c,z]:=Zo.mp this;cases z;let:=absurd (Zo.mpr #[p,c,rfl]) h
theorem F5 {c:List (Str×D8)}{l:Str}{b:D8}(h:l∉c.map (·.1)):yp (CF c) (.inr l) (.ref b)=CF (c++[(l,b)]):=by
 rw[HS _<|OT h];unfold CF;rw[Zu];rfl
theorem F6 {b:List (Str×D8)}(nd:(b.map (·.1)).Nodup){p:Str×D8}(h:p∈b):yp (CF b) (.inr p.1) (.ref p.2)=CF b:=by
 unfold yp;rw[ZJ (by rw[qF,vL nd h];rfl)];unfold CF;rw[ZK];let:=Yw λq d=>?_;show(if(.inr q.1:Key)=.inr p.1 then((.inr q.1:Key),V.ref p.2) else(.inr q.1,V.ref q.2))=(.inr q.1,V.ref q.2)
 split
 .rename_i e;have e:=Sum.inr.inj e;have:V.ref q.2=V.ref p.2:=by
   have c:=vL nd d;rw[e,vL nd h]at c;let:=(Option.some.inj c).symm
  rw[this]
 .rfl
structure vm (K:Co)(H1 H:Hp)(fs:Dj)(fa:List<|Str×D8):Prop where
 ur:fa.map (·.1)=CD fs
 nd:(fa.map (·.2)).Nodup
 new:∀p∈fa,H1 p.2=none
 at_:∀p∈fa,∃Dl,H p.2=some (.dK Dl)/\wL K H (sub fs p.1) Dl
section
variable {K:Co}{H1 H H':Hp}{fs:Dj}{fa:List (Str×D8)}
theorem vm.nil:vm K H1 H [] []:=#[rfl,YO,λp h=>(nomatch h),λp h=>(nomatch h)]
theorem vm.off {X:Dc}(h:vm K H1 H fs fa)(ex:∀c∈X,∃o,H1 c=some o)(n:∀b∈X,∀xs,¬Rd H b (.tup xs))(o:Off X H H'):vm K H1 H' fs fa:=#[h.ur,h.nd,h.new,λp d=>by
 let#[f,a,b]:=h.at_ p d;let:=#[f,o _ _ (λz=>?_) a,b.off n o];let#[q,e]:=ex _ z;rw[h.new p d]at e;cases e]
theorem vm.same (h:vm K H1 H fs fa)(e:zz H H'):vm K H1 H' fs fa:=#[h.ur,h.nd,h.new,λp d=>by
 let#[c,a,b]:=h.at_ p d;let:=#[c,e _ _ a,b.same e]]
theorem vm.one (h:vm K H1 H fs fa){f:Fi}{a:Str}(e:f.1=[a]):vm K H1 H (fs++[f]) fa:=#[by rw[kF,e];let:=h.ur,h.nd,h.new,λp c=>by
 rw[sub_snoc,Kh e];show∃b,_/\wL K H (sub fs p.1++[]) b;rw[ZW];let:=h.at_ p c]
theorem vm.qt (h:vm K H1 H fs fa):(fa.map (·.1)).Nodup:=by rw[h.ur];let:=(xB fs).1
theorem z6 {c:D8}:Off [c] H (upd H c o):=(Off.refl _ _).upd<|Zk.mpr rfl
theorem yC {c:D8}{d:Dk}(h:H c=some (.dK d)):∀b∈[c],∀xs,¬Rd H b (.tup xs):=λb e xs=>by
 rw[Zk.mp e];let:=uW h (λ_ z=>(nomatch z)) (λ_ _ z=>(nomatch z)) xs
theorem vm.old (h:vm K H1 H fs fa){p:Str×D8}(g:p∈fa){c:Dk}(E:H p.2=some (.dK c))(B:wL K H (sub fs p.1) c){f:Fi}{b:Str}{r:By}(e:f.1=p.1::b::r){v:V}(F:Dt K H (yu f.2) v)(hl:UR f.2) :
  vm K H1 (upd H p.2<|.dK<|c++[(.inr<|Cv (b::r),v)]) (fs++[f]) fa:=by
 have n:=yC E;have o:Off [p.2] H (upd H p.2<|.dK<|c++[((.inr (Cv (b::r)):Key),v)]):=z6;have inl:p.1∈CD fs:=by rw[<-h.ur];let:=Zo.mpr #[p,g,rfl]
 let:=#[?_,h.nd,h.new,λq l=>?_]
 .rw[kF,e];show _=q9 (CD fs) p.1;unfold q9;rw[ZJ inl];let:=h.ur
 .rw[sub_snoc,Xl e]
  by_cases z:p.1=q.1
  .rw[ZJ z];have eq:p.2=q.2:=by
    have t:=vL h.qt l;rw[<-z,vL h.qt g]at t;injection (Option.some.inj t)
   let:=#[_,by rw[<-eq];let:=zB,?_];rw[<-z];let:=(B.off n o).snoc (Dt.off n o _ _ (v8 hl) F) hl
  .rw[ZI z];let#[u,w,A]:=h.at_ q l;have ne:q.2≠p.2:=λy=>by
    let#[i,C,s]:=Yb.mp g;let#[j,D,d]:=Yb.mp l;have:=(Jq (h₀:=by simpa using C) (h₁:=by simpa using D) h.nd).mp (by rw[Ya,Ya,s,d];let:=y.symm);subst this;rw[s]at d;let:=z (by rw[d])
   let:=#[u,by rw[zH ne];let:=w,?_];show wL K _ (sub fs q.1++[]) u;rw[ZW];let:=A.off n o
theorem vm.gZ (h:vm K H1 H fs fa){l b:Str}{r:By}(nl:l∉CD fs){c:D8}(t:H c=some (.dK []))(n1:H1 c=none)(i:∀p∈fa,p.2≠c){f:Fi}(e:f.1=l::b::r){v:V}(A:Dt K H (yu f.2) v)(hl:UR f.2) :
  vm K H1 (upd H c<|.dK [(.inr<|Cv (b::r),v)]) (fs++[f]) (fa++[(l,c)]):=by
 have j:=yC t;have o:Off [c] H (upd H c<|.dK [((.inr (Cv (b::r)):Key),v)]):=z6;have B:=J7.mpr λk w=>by
  let#[s,u]:=vg.mp w;let:=nl<|((xB fs).2 l).mpr #[_,u,?_];cases q:k.1 with
  |nil=>let:=absurd q s
  |cons b r=>let:=#[b,r,rfl]
 let:=#[?_,?_,λp d=>?_,λp d=>?_]
 .rw[kF,e,Zu,h.ur];show _=q9 (CD fs) l;unfold q9;rw[ZI nl];rfl
 .rw[Zu];let:=jN h.nd λz=>?_;let#[p,d,n]:=Zo.mp z;let:=i p d n
 .rcases ZD.mp d with z|z
  .let:=h.new p z
  .rwa[Zk.mp z]
 .rw[sub_snoc,Xl e]
  rcases ZD.mp d with z|z
  .have ne:l≠p.1:=λy=>nl (by rw[y,<-h.ur];let:=Zo.mpr #[p,z,rfl]);rw[ZI ne];let#[g,a,b]:=h.at_ p z;let:=#[g,by rw[zH<|i p z];let:=a,?_];show wL K _ (sub fs p.1++[]) g;rw[ZW];let:=b.off j o
  .rw[Zk.mp z,ZJ rfl,B];let:=#[_,zB,wL.snoc wL.nil (Dt.off j o _ _ (v8 hl) A) hl]
end
theorem SJ (fs:Dj)(i:Nat):wt (fs.take i)<=wt fs:=by
 have:=MT (fs.take i)<|fs.drop i;rw[Y8]at this;lia
theorem Pq {fs:Dj}{i:Nat}{v:Str×By}(h:v∈CB (fs.take i)):v∈CB fs:=by
 let#[a,b]:=v;let:=wN.mpr<|Yf<|wN.mp h
theorem WX (ok:wK S)(g:xq n fs)(h:S.length+1+wt fs<=2000)(i:Nat) :
  wK ((CB<|fs.take i).foldl Cp (S,[])).1/\((CB<|fs.take i).foldl Cp (S,[])).1.length<2000/\((CB<|fs.take i).foldl Cp (S,[])).2.map (·.1)=(CB<|fs.take i).map (·.1):=by
 have f:=many<|fs.take i;have j:=SJ fs i;let#[b,e]:=Ih (d:=0) (CB<|fs.take i) (Fo.nil ok) (λv c=>(g.ur _<|wN.mp<|Pq c).2.2.2) ⋯;let:=#[b.ok,⋯,?_];rw[b.ur,JC,ZK];rfl
theorem SL {d:Nat}(ok:wK S)(g:xq (d+1) fs)(hl:fs.length<=63)(z:S.length+1+wt fs<=2000)(ls c:By)(e:ls++c=CD fs) :
  Fo (d+1) S (ls.foldl (Cw d fs)<|(CB fs).foldl Cp (S,[])).1 (ls.foldl (Cw d fs)<|(CB fs).foldl Cp (S,[])).2 ((CB fs).map (λv=>(v.1,[(([],v.2):Fi)]))++ls.map λl=>(l,sub fs l)) /\
  (ls.foldl (Cw d fs)<|(CB fs).foldl Cp (S,[])).1.length+(c.map λl=>1+wt (sub fs l)).sum<=S.length+wt fs:=by
 have t:=many fs;rw[<-e,Zu,VE]at t;let#[n,y]:=Ih (d:=d) (CB fs) (Fo.nil ok) (λv u=>(g.ur _<|wN.mp u).2.2.2) ⋯;rw[JC]at n;have H:∀l∈ls,∀S,wK S->S.length+1+wt (sub fs l)<=2000->pF (d+1) S (sub fs l) (UD d S<|sub fs l)/\(UD d S<|sub fs l).1.length<=S.length+1+wt (sub fs l):=λl h w j i=>by
  cases d with
  |zero =>
   let#[f,s,b,r,q]:=((xB fs).2 l).mp (by rw[<-e];let:=Z4 _ h);have:=(g.ur f s).2.1;rw[q,ZH,ZH]at this;lia
  |succ d=>let:=Xr d j (g.sub l) (Z2 sub_len hl) i
 let#[p,o]:=KJ ls H n ⋯;let:=#[p,?_];have o:(ls.foldl (Cw d fs)<|(CB fs).foldl Cp (S,[])).1.length<=_:=o;lia
theorem aX {d:Nat}(ok:wK S)(g:xq (d+1) fs)(hl:fs.length<=63)(f:S.length+1+wt fs<=2000){j:Nat}{l:Str}(e:(CD fs)[j]?=some l) :
  wK (((CD fs).take j).foldl (Cw d fs)<|(CB fs).foldl Cp (S,[])).1/\(((CD fs).take j).foldl (Cw d fs)<|(CB fs).foldl Cp (S,[])).1.length+1+wt (sub fs l)<=2000 /\
  (((CD fs).take j).foldl (Cw d fs)<|(CB fs).foldl Cp (S,[])).2.map (·.1)=(CB fs).map (·.1)++(CD fs).take j:=by
 let#[b,c]:=SL ok g hl f ((CD fs).take j) ((CD fs).drop j)<|Y8 _ _;have hd:(CD fs).drop j=l::(CD fs).drop (j+1):=by
  have:=(ZC.mp e);rw[<-this.2];let:=Yv this.1
 rw[hd,ZR,Je]at c;let:=#[b.ok,⋯,?_];rw[b.ur,Zu,ZK,ZK]
 congr 1
 let:=JK _
theorem OS {d:Nat}(ok:wK S)(g:xq (d+1) fs)(hl:fs.length<=63)(n:S.length+1+wt fs<=2000){q:List En×Df}(e:q=(CD fs).foldl (Cw d fs) ((CB fs).foldl Cp (S,[]))) :
  wK q.1/\q.1.length<2000/\(q.2.map (·.1)).Nodup/\(∀r∈q.2,yB r.1=true/\∃e,Tree e q.1 r.2)/\q.2.length<=63:=by
 subst e;let#[b,f]:=SL ok g hl n (CD fs) []<|ZW _;have b:Fo (d+1) S _ _ (pieces fs):=b;have f:=f;have pl:=jH fs;let:=#[b.ok,⋯,by rw[b.ur];let:=XD g,λr j=>?_,?_]
 .let#[i,c]:=YF.mp j;have o:=(ZC.mp c).1;have h:=Zv (by rwa[<-b.len]);have e:=congrArg (λl=>l[i]?) b.ur;simp only[Zz,c,h,YZ]at e;let:=#[by rw[Option.some.inj e];let:=(GV g _<|Ys _).1,d+1,(b.rd i r _ c h).1]
 .rw[b.len];unfold pieces;rw[Zq,Zj,Zj];lia
theorem P1 (l:Str):Cv [l]=l:=wO<|Nm l
theorem Sn (l b:Str)(r:By):Cv (l::b::r)=l++#[#v[47]]++Cv (b::r):=wO (by
 rw[Gs l<|Jc _ _,zf,zf];show _=cs l++[47]++_;simp)
theorem T8 (l b:Str)(r:By):l≠Cv (l::b::r):=λz=>by
 have:=congrArg (λx=>(cs x).length) z;simp only[Gs l<|Jc b r,Zq,ZH]at this;lia
theorem Fq:∀{p:By},(∀l∈p,yB l=true)->(cs<|Cv p).length<=9*p.length
 |[],_=>by
  show(cs<|Lh "/" []).length<=0;rw[jQ];let:=Zn _
 |[l],h=>by
  have:=h l<|Zk.mpr rfl;rw[Nm];unfold yB at this;rw[ZB,ZB,Z8,Z8,yx]at this;show _<=9;lia
 |l::b::r,h=>by
  have c:=h l<|Zt ..;have e:=Fq λx d=>h x<|Zp _ d;rw[Gs l<|Jc _ _,Zq,ZH];unfold yB at c;rw[ZB,ZB,Z8,Z8,yx]at c;rw[ZH]at e ⊢;rw[ZH];lia
theorem SD (g:xq n fs){i:Nat}{f:Fi}{l b:Str}{r:By}(p:fs[i]?=some f)(e:f.1=l::b::r):(.inr (Cv (b::r)):Key)∉(sub (fs.take i) l).map λk=>(.inr (Cv k.1):Key):=λz=>by
 let#[k,h,q]:=Zo.mp z;have q:=Sum.inr.inj q;let#[w,h]:=vg.mp h;have y:=(g.ur _<|Yf h).2.2.1;have lf:=(g.ur _<|Zy p).2.2.1;have q:=Fp (d:=0) w (Jc _ _) (λx o=>y x<|Zp _ o) (λx o=>lf x (by rw[e];let:=Zp _ o)) q;let#[j,c]:=YF.mp h;rw[List.getElem?_take]at c
 split at c
 .rename_i C;have u:(fs.map (·.1))[j]?=some f.1:=by rw[Zz,c];show some (l::k.1)=_;rw[q,e]
  have v:(fs.map (·.1))[i]?=some f.1:=by rw[Zz,p];rfl
  let#[A,s]:=ZC.mp u;let#[B,t]:=ZC.mp v;have:=(Jq g.nd).mp<|s.trans t.symm;lia
 .cases c
end An
namespace AxS
open PySem PySem.Spec PyProof.Rows
section
variable {prog:Ea}{w:Ef}{A:Ez}{E:D9->Dg}{s:Eb}
set_option maxHeartbeats 6400000 in
end
section
variable {prog:Ea}{w:Ef}{A:Ez}{E:D9->Dg}{s:Eb}
theorem jR:plainId "dict.update.loop"=true:=by lk
theorem X1:entryFor table "dict.update.loop"=some Builtin.«dict.update.loop»:=entryFor_of_fast (by kernel_rfl)
theorem Ff:typeLookup (.type "list") "keys"=Le none:=by rw[JS,Y7];kernel_rfl
theorem R3 {a:D8}{xs:Array D9}{n:Nat}{l:Array Db}{Q:Db->Dg}(j:s.heap.get? a=some { cls:=.type "list",dict:=none,data:=.seq xs n,slots:=l })(p:A.handled=none)
  (h:∀h' tk,(∀b o,s.heap.get? b=some o->h'.get? b=some o)->Q none { s with heap:=h',toks:=tk }):Eh (Ej prog w) A (getAttr? (.ref a) "keys") Q E s:=by
 let#[q,g,d,tk,os]:=s;have i:∀c,(#[q,g,d,c,os]:Eb).TypeIs (.ref a) "list":=λ_=>#[_,j,rfl];have r:=sub_AttributeError;have t:=F.slot_list_getattribute.lookup;have u:=F.slot_list_getattribute.bind<|.ref a;have v:=am_list_getattr_none;unfold getAttr? getAttrBy? getAttrBy
 repeat (any_goals (first|assumption|let:=i _|((with_reducible show Eh _ _ (call (Value.builtin "list.__getattribute__") _ _) _ _ _);let:=JB F.slot_list_getattribute (i _) am_entry_list_getattribute (F.args_list_getattribute_2 _ _) (meets_getattribute_miss_list a xs n l "keys" _ Ff<|by lk) ⟨j,p,λh' c e f=>?_⟩)|wp_step))
 let#[z,B,y]:=f.there;unfold getattributeRaised
 repeat (any_goals (first|assumption|wp_step))
 let:=h h' c f.of.keeps
def tH (prog:Ea)(w:Ef)(h:Es)(items:Array D9)(b:List<|L2.Key×D9):Prop:=b.length=items.size/\∀(i:Nat) (v:D9),items[i]?=some v->∃(T:D8) (k:L2.Key) (key x:D9),v=.ref T/\h.IsTuple T #v[key,x]/\(L2.yw prog w).is k key=true/\b[i]?=some (k,x)
theorem tH.at {h':Es}(p:tH prog w h items Dl)(e:∀T o,(∃xs,h.IsTuple T xs)->h.get? T=some o->h'.get? T=some o):tH prog w h' items Dl:=by
 let:=#[p.1,λi v g=>?_];let#[T,k,key,x,c,b,d,j]:=p.2 i v g;let#[o,f,r]:=id b;let:=#[T,k,key,x,c,#[o,e T o #[_,b] f,r],d,j]
theorem Mo {d I l:D8}{items:Array D9}{n:List (L2.Key×D9)}{R:Result->Dg}{res:D9}(hh:A.in1.handled=none)(M:l≠I)(H:d≠I)(U:d≠l)(hz:n.length<=sizeLine) :
  ∀(m i:Nat) (s:Eb),items.size-i=m->i<=items.size->(s.heap.IsListIter I l i/\s.heap.IsList l items)->s.heap.DictOf (L2.yw prog w) d (merged []<|n.take i)->tH prog w s.heap items n ->
   (∀h' tk,h'.DictOf (L2.yw prog w) d (merged [] n)->(∀b o,b≠d->b≠I->s.heap.get? b=some o->h'.get? b=some o)->R (.ok<|.ret res) { s with heap:=h',toks:=tk }) ->
   LN (Ej prog w) A (.builtin "dict.update.loop" #[[.ref d,.ref I,EI i,res],[]]) R s:=by
 have W:=Walks.list (prog:=prog) (w:=w) hh I l M items;intro m
 induction m with
 |zero =>
  intro i s hm hi st t G k;have X:i=items.size:=⋯
  subst X;let:=JD X1 ?_;rw[EX jR _];let:=Zl<|W.done s _ _ st λh' tk kp=>?_;rw[JI (by rw[G.1];let:=Zn _)]at t;let:=Zl (Zw<|Zw<|k h' tk (t.at λo e=>kp d o (by simp[H]) e) λb o u r e=>kp b o (by simp[r]) e)
 |succ m ih =>
  intro i s hm hi st t G k;have D:i<items.size:=⋯
  let:=JD X1 ?_;rw[EX jR _];let:=Zl<|W.item i s _ _ D st λv h' tk hv F kp=>?_;let#[T,k1,key,x,rfl,L,Q,hx]:=G.2 i v hv;have TI:T≠I:=λz=>by
   let#[o,p,j,_]:=L;let#[O,g,f,_]:=st.1;rw[z,g]at p;cases p;rw[f]at j;let:=absurd j ∅
  have Td:T≠d:=λz=>by
   let#[o,p,j,_]:=L;let#[O,_,_,g,f,_]:=t;rw[z,g]at p;cases p;rw[f.1]at j;let:=absurd j ∅
  have J:=t.at λo e=>kp d o (by simp[H]) e;let#[#[oc,od,aa,ab],p,j,n1,C]:=id L;have c:=kp T _ (by simp[TI]) p;simp only at j C;subst j C;let:=Zl<|YJ<|Zl<|wpAny_tryCatch ?_;have ty:Shared.TypeIs { s with heap:=h',toks:=tk } (.ref T) "tuple":=#[_,c,rfl];unfold Builtin.Dict.pairItems;let:=Zl<|Vc ty ?_;rw[ZJ<|∅];let:=Zl ?_;unfold seqItems?;let:=Zl<|wpAny_load c<|Zw<|Zw ?_;dsimp only[Option.getD];let:=YJ ?_;unfold dictSet;let:=YJ<|Zl<|(L2.yw prog w).pyHash Q ?_;have ml:(merged ([]:List<|L2.Key×D9)<|n.take i).length<=sizeLine:=by
   have:=merged_length_le ([]:List<|L2.Key×D9)<|n.take i;rw[ZL]at this;simp at this;lia
  let:=wpAny_dictSetHashed_pairs Q J λY y q=>?_;rw[<-merged_take_succ [] n i (k1,x) hx]at y;let:=Zw #[VA jR _,?_];rw[show((i:Nat):Int)+1=((i+1:Nat):Int) by push_cast;rfl];have E:∀b o,b≠d->b≠I->s.heap.get? b=some o->Y.get? b=some o:=λb o u r e=>(q.2 b u).trans (kp b o (by simp[r]) e);let:=ih (i+1) _ ⋯ D #[?_,?_] y (G.at λS o ⟨xs,B⟩ e=>E S o (λz=>?_) (λz=>?_) e) λZ P K N=>k Z P K λb o u r e=>N b o u r<|E b o u r e
  .let:=F.1.at λo e=>(q.2 I H.symm).trans e
  .let:=F.2.at λo e=>(q.2 l U.symm).trans e
  .let#[o1,c,h,_]:=B;let#[O,_,_,g,f,_]:=t;rw[z,g]at c;cases c;rw[f.1]at h;let:=absurd h ∅
  .let#[o1,c,h,_]:=B;let#[O,g,f,_]:=st.1;rw[z,g]at c;cases c;rw[f]at h;let:=absurd h ∅
theorem X8 {l:D8}{items:Array D9}{n:Nat}{r:List (L2.Key×D9)}{Q:D9->Dg}(B:A.handled=none)(hl:s.heap.get? l=some { cls:=.type "list",data:=.seq items n })(D:tH prog w s.heap items r)(G:r.length<=sizeLine)
  (h:∀h' tk,h'.DictOf (L2.yw prog w) s.heap.objs.size (merged [] r)->(∀b o,s.heap.get? b=some o->h'.get? b=some o)->Q (.ref s.heap.objs.size) { s with heap:=h',toks:=tk }):Eh (Ej prog w) A (call (.type "dict") [.ref l]) Q E s:=by
 let:=callType_codes (Q₁:=λobj f=>obj=.ref s.heap.objs.size/\f={ s with heap:=s.heap.push { cls:=.type "dict",data:=.dict #v[] } }) F.kt_called_dict (F.kt_typeCall_dict_1 _) F.entry_dict_init (kt_code_dict_new _ #[rfl,rfl]) ?_;rintro obj f ⟨rfl,rfl⟩;have c:(s.heap.push { cls:=.type "dict",data:=.dict #v[] }).DictOf (L2.yw prog w) s.heap.objs.size []:=Heap.DictOf.new s.heap;have q:=ZN hl;have g:(s.heap.push { cls:=.type "dict",data:=.dict #v[] }).get? l=some { cls:=.type "list",data:=.seq items n }:=Zr _ hl;let:=#[c.typeIs,F.args_dict_init_2 _ _,?_];unfold Builtin.«dict.__init__»;let:=Zl ?_;unfold Builtin.Dict.selfAndRest;let:=Zl<|wpAny_notOrdered_dict c.typeIs ?_;let:=Zw ?_;show Eh _ _ (Builtin.Dict.updateFrom "dict.__init__" s.heap.objs.size (.ref l) [] .none) _ _ _;unfold Builtin.Dict.updateFrom;have z:Shared.TypeIs { s with heap:=s.heap.push { cls:=.type "dict",data:=.dict #v[] } } (.ref l) "list":=#[_,g,rfl];let:=Zl<|Vc z ?_;rw[ZJ<|∅];let:=Zl (R3 g (by simp[B]) λt H d=>?_);simp only[Option.isNone_none,↓reduceIte];let:=Zl<|Vu ?_;have j:t.IsList l items:=#[_,d l _ g,rfl,n,rfl];have i:s.heap.objs.size<t.objs.size:=by
  let#[o,_,_,e,_]:=c;let:=ZN<|d _ _ e
 let:=Zl<|Vm j ?_;let:=Zw #[VA jR _,?_];have p:∀b o,s.heap.get? b=some o->(t.push { cls:=.type "list_iterator",data:=.fields #v[.ref l,.int 0 0] }).get? b=some o:=λb o e=>Zr _<|d b o<|Zr _ e;let:=Mo (by simp[B]) (ZZ<|Ux q i) (ZZ i) (VH q) G (items.size-0) 0 _ ⋯ (ZP _) #[#[_,ZG _ rfl,rfl,rfl],j.push _] ?_ (D.at λT o _ e=>p T o e) λC y u v=>?_
 .rw[List.take_zero];let:=(c.at λo e=>d _ o e).push _
 .let:=#[rfl,h C y u λb o e=>v b o (ZZ<|ZN e) (ZZ<|Ux (ZN e) i)<|p b o e]
end
end AxS
namespace L2
open PySem PySem.Spec PyProof.Rows AxS
section
variable {X:Cx}{K:Co}
def Kx (K:Co)(H:Hp)(xs:Di)(b:Dk):Prop:=xs.length=b.length/\∀(i:Nat) (x:V),xs[i]?=some x->∃(T:D8) (k:Key) (v:V),x=.ref T/\yh K H T [kV k,v]/\b[i]?=some (k,v)
def T9 (K:Co):Di->Hp->VK->Prop:=λd H Q=>∃(a:D8) (c:Di) (b:Dk),d=[.ref a]/\H a=some (.lst c)/\Kx K H c b/\∀l,H l=none->Q (.ref l) (upd H l<|.dK<|putAll [] b)
theorem Mp (I:Inv X Dn σ H s){vs:Di}{b:Da}{c:Dk}(o:zb vs b)(p:Kx X.K H vs c):∃um:List<|Key×D9,KV c um/\um.length=b.length/\∀(i:Nat) (v:D9),b[i]?=some v->∃(T:D8) (k:Key) (key x:D9),v=.ref T/\s.heap.IsTuple T #v[key,x]/\(yw X.prog X.w).is k key=true/\um[i]?=some (k,x):=by
 induction o generalizing c with
 |nil =>
  obtain rfl:c=[]:=Y6 p.1.symm;let:=#[[],.nil,rfl,λi v z=>(nomatch z)]
 |cons r1 r2 ih =>
  let#[T,k,y,rfl,g,e]:=p.2 0 _ rfl;cases c with
  |nil=>cases e
  |cons kv c =>
   cases e;let#[um,d,len,all]:=ih #[Nat.succ.inj p.1,λi z j=>p.2 (i+1) z j];cases r1;let#[r,q,h,_]:=I.tuple g;let#[key,val,rfl,l,n]:=zb.two q;let:=#[(k,val)::um,.cons #[rfl,n] d,congrArg Nat.succ len,λi v f=>?_];cases i with
   |zero =>
    cases f;let:=#[T,k,key,val,rfl,h,XV l,rfl]
   |succ i=>let:=all i v f
theorem KA (l:X.calm=true)(g:X.K=K:=by rfl):xf X (.type "dict") (T9 K):=by
 subst g;intro A s J H G D Q I r h;let#[a,F,d,rfl,j,pv,q]:=h;let#[u,rfl,t]:=wM r;cases t;let#[z,p,n,c,hl,e]:=I.pI j;let#[C,b,len,all]:=Mp I c pv;have E:=c.length;have kl:=Paired.length b;let:=X8 (I.ok.hd l) e #[by rw[ZF];let:=len,λi v o=>all i v<|by simpa using o] ⋯ λB w f kp=>?_;have y:=uF d [];let:=#[.ref s.heap.objs.size,_,I.laid (t':=w) kp (Zn _)<|OQ (by rw[YN]at y;lia) (Y2.mpr<|Er<|ZZ I.big) (KV.putAll .nil b) f,rfl,q _<|I.hok.fresh<|Zn _]
end
theorem wX.wH (r:wX k A):A.units+1<cLine:=by have:=r.un;lia
section
variable {d:D8}{Dl:Dk}{ob:Obj}{src:List (Option Nat)}{g:TG}{tf:St->Hp->(Bool->Hp->Prop)->Prop}{te:TE}{Q:VK}{σ:St}{H:Hp}
theorem NL (c:Nat->Di->St->Hp->Prop)(j:c 0 [] (UU src σ) H)(o:Dl.length<=sizeLine)(hl:∀i ys σ H,i<=Dl.length->c i ys σ H->H d=some (.frz ob<|.dK Dl)/\ys.length<=i)
  (l:∀i k v ys σ H,Dl[i]?=some (k,v)->c i ys σ H->g (kV k) σ H λσ2 H3=>tf σ2 H3 λb H4=>if b=true then te σ2 H4 λy H5=>c (i+1) (ys++[y]) σ2 H5 else c (i+1) ys σ2 H4)
  (hd:∀ys σ H,c Dl.length ys σ H->∀p,H p=none->Q (.ref p) (upd H p<|.lst ys)):Xc src (aF d Dl ob) g tf te Q σ H :=
 Gk Dl.length c j o (λi ys σ H e p=>(hl i ys σ H e p).2) (λys σ H p=>#[(hl _ ys σ H (Zn _) p).1,rfl]) (λi ys σ H e p=>#[(hl i ys σ H (YC e) p).1,e])
  (λi ys σ H e p x q y=>by
   let#[f,k,v,n,h]:=y;subst h f;let:=l i k v ys σ _ n p) hd
end
section
variable {X:Cx}
def W9:R2:=λy x H Q=>∃a o,x=.ref a/\wu H a y o/\Q (.bl<|!o.isSome) H
theorem Nh (f:X.A.units+64<Lc):CH X (EH .NotIn) W9:=by
 intro e s j H y x v u Q I d c h;let#[a,o,rfl,g,q]:=h;cases c;let:=RJ ⋯ I g d λi b=>#[.bl _,H,b,rfl,q]
end
end L2
namespace AnS
open PySem L2 An AnJ
structure yj (K:Co)(H:Hp)(Dl:Dk)(L:By)(g:Str->Eg):Prop where
 keys:Dl.map (·.1)=L.map Ec
 nd:L.Nodup
 val:∀p∈L,∃v,UH Dl (.inr p)=some v/\Dt K H (g p) v
section
variable {K:Co}{H H':Hp}{Dl more:Dk}{L M:By}{g:Str->Eg}
theorem yj.nil:yj K H [] [] g:=#[rfl,YO,λ_ h=>(nomatch h)]
theorem yj.len (h:yj K H Dl L g):Dl.length=L.length:=by
 have:=congrArg List.length h.keys;rw[Zj,Zj]at this;let:=this
theorem yj.iI {g':Str->Eg}(h:yj K H Dl L g)(e:∀p∈L,g p=g' p):yj K H Dl L g':=#[h.keys,h.nd,λp c=>let ⟨v,a,b⟩:=h.val p c;#[v,a,e p c▸b]]
theorem yj.mem (h:yj K H Dl L g){p:Str}:(.inr p:Key)∈Dl.map (·.1)↔p∈L:=by
 rw[h.keys,Zo];let:=#[λ⟨q,b,e⟩=>by cases e;let:=b,λz=>#[p,z,rfl]]
theorem yj.no (h:yj K H Dl L g){p:Str}(n:p∉L):UH Dl (.inr p)=none:=by
 cases e:UH Dl (.inr p) with
 |none=>rfl
 |some v=>let:=absurd (h.mem.mp<|k8 e) n
theorem yj.isSome (h:yj K H Dl L g)(p:Str):(UH Dl<|.inr p).isSome=decide (p∈L):=by
 by_cases z:p∈L
 .let#[v,e,_]:=h.val p z;rw[e,Zm z];rfl
 .rw[h.no z,ZE z];rfl
def sY (L:By)(p:Str):By:=if p∈L then L else L++[p]
theorem vo {q:Str}:q∈sY L p↔q∈L\/q=p:=by
 unfold sY
 by_cases z:p∈L
 .rw[ZJ z];let:=#[.inl,λh=>h.elim id λe=>e▸z]
 .rw[ZI z,ZD,Zk]
theorem yj.put (h:yj K H Dl L g)(p:Str){v:V}{d:Eg}(j:Dt K H d v):yj K H (yp Dl (.inr p) v) (sY L p) (λq=>if q=p then d else g q):=by
 let:=#[?_,?_,λq i=>?_]
 .unfold sY
  by_cases z:p∈L
  .rw[ZJ z];unfold yp;rw[ZJ<|by rw[qF,h.isSome,Zm z],ZK,<-h.keys];let:=Yw λc _=>?_;show(if c.1=.inr p then(c.1,v) else c).1=c.1
   split<;>rfl
  .rw[ZI z,HS v<|h.no z,Zu,Zu,h.keys];rfl
 .unfold sY
  by_cases z:p∈L
  .rw[ZJ z];let:=h.nd
  .rw[ZI z];let:=jN h.nd z
 .rw[uG]
  by_cases e:q=p
  .subst e;rw[ZJ rfl];let:=#[v,rfl,by show Dt K H (if q=q then d else g q) v;rw[ZJ rfl];let:=j]
  .have f:¬((.inr q:Key)=.inr p):=λz=>by cases z;let:=e rfl
   rw[ZI f];let#[w,a,b]:=h.val q<|(vo.mp i).resolve_right e;let:=#[w,a,by show Dt K H (if q=p then d else g q) w;rw[ZI e];let:=b]
theorem pG {d:Eg}:∀{more Dl:Dk} {L:By},yj K H Dl L (λ_=>d)->(∀kv∈more,kv.1=.inr (RX kv)/\Dt K H d kv.2)->∃L',yj K H (putAll Dl more) L' (λ_=>d)/\∀p,p∈L'↔p∈L\/p∈more.map RX
 |[],Dl,L,h,_=>#[L,h,λp=>by simp]
 |kv::more,Dl,L,h,al=>by
  let#[e,hd]:=al kv<|Zt ..;have b:=(h.put (RX kv) hd).iI (g':=λ_=>d) λp _=>by show(if p=RX kv then d else d)=d;rw[ite_self]
  rw[<-e]at b;let#[L',c,m]:=pG b λx f=>al x<|Zp _ f;let:=#[L',c,λp=>?_];rw[m,vo,ZR,Zx,or_assoc]
end
theorem len_sub {l m:List PySem.Str}(n1:l.Nodup)(n2:m.Nodup)(h:∀p∈l,p∈m):l.length<=m.length:=by
 have:=(List.perm_ext_iff_of_nodup n1<|n2.filter<|λp=>decide (p∈l)).mpr λp=>by
  rw[Jj,ZY];let:=#[λz=>#[h p z,z],λz=>z.2]
 rw[this.length_eq];let:=YG _ _
end AnS
namespace An
open PySem L2
def Ro (b:De):By:=b.filterMap λd=>match d with
 | .str x=>some x
 |_=>none
theorem GW:∀ps:By,Ro (ps.map .str)=ps
 |[]=>rfl
 |p::ps=>by
  show p::Ro (ps.map .str)=_;rw[GW ps]
inductive pP (par:Str->By)(rs:By):Str->Prop
 |root {x:Str}:x∈rs->pP par rs x
 |step {x y:Str}:pP par rs x->y∈par x->pP par rs y
theorem RL {S:Dh}(g:(S.map En.nm).Nodup){e:En}(h:e∈S):S.find? (λf=>decide (f.nm=e.nm))=some e:=by
 cases q:S.find? (λf=>decide (f.nm=e.nm)) with
 |none =>
  rw[List.find?_eq_none]at q;let:=absurd (Zm rfl)<|q e h
 |some f =>
  have b:=List.find?_some q;have l:=List.mem_of_find?_eq_some q;have b:f.nm=e.nm:=ZA b;let#[i,n,c]:=Yb.mp h;let#[j,o,d]:=Yb.mp l;have:(S.map En.nm)[i]'(by simpa using n)=(S.map En.nm)[j]'(by simpa using o):=by
   rw[Ya,Ya,c,d,b]
  have:=(Jq g).mp this;subst this;rw[<-c,d]
theorem Np {par:Str->By}{rs F:By}(c:∀r∈rs,r∈F)(d:∀x∈F,∀y∈par x,y∈F){x:Str}(h:pP par rs x):x∈F:=by
 induction h with
 |root h=>let:=c _ h
 |step _ b ih=>let:=d _ ih _ b
def namesW:Th->By
 | .leaf _=>[]
 | .tree Dm=>Dm.map (·.2)
 | .note x ps _=>x::ps
def Nt (b:De):By:=b.filterMap λd=>match d with
 | .tuple [_,.str n]=>some n
 |_=>none
def inD:Eg->By
 | .tuple [_,.tuple ds]=>Nt ds
 | .tuple [_,.str t,.tuple ds,_]=>t::Ro ds
 |_=>[]
theorem IC:∀ls:By,Nt (ls.map .str)=[]
 |[]=>rfl
 |l::ls=>by
  let:=IC ls
theorem IS:∀Dm:Df,Nt (Dm.map zp)=Dm.map (·.2)
 |[]=>rfl
 |r::Dm=>by
  show r.2::Nt (Dm.map zp)=_;rw[IS Dm];rfl
theorem CZ:∀t:Th,inD t.dat=namesW t
 | .leaf ls=>IC ls
 | .tree Dm=>IS Dm
 | .note x ps y=>congrArg (x::·)<|GW ps
def CK (S:Dh)(x:Str):By:=match S.find? (λe=>decide (e.nm=x)) with
 |some e=>inD e.d
 |none=>[]
theorem X2 {S:Dh}(g:(S.map En.nm).Nodup){e:En}(b:e∈S):CK S e.nm=inD e.d:=by
 unfold CK;rw[RL g b]
def Cl (S:Dh):Prop:=∀(i:Nat) (e:En),S[i]?=some e->∀n∈inD e.d,∃j f,j<i/\S[j]?=some f/\f.nm=n
theorem Cl.snoc {e:En}(c:Cl S)(h:∀n∈inD e.d,n∈S.map En.nm):Cl (S++[e]):=λi f b n o=>by
 rcases Jw i S.length with z|z
 .rw[ZT z]at b;let#[j,g,r,s,t]:=c i f b n o;let:=#[j,g,r,by rw[ZT<|⋯];let:=s,t]
 .rw[ZU z]at b;have:i-S.length=0:=by
   rcases JL (i-S.length) with q|q
   .let:=q
   .rw[Z6 (by show 1<=_;lia)]at b;cases b
  rw[this]at b;cases b;let#[g,u,p]:=Zo.mp<|h n o;let#[j,l]:=YF.mp u;have v:=(ZC.mp l).1;let:=#[j,g,⋯,by rw[ZT v];let:=l,p]
theorem Cl.mem (c:Cl S){e:En}(g:e∈S){n:Str}(o:n∈inD e.d):n∈S.map En.nm:=by
 let#[i,h]:=YF.mp g;let#[j,f,_,l,b]:=c i e h n o;let:=Zo.mpr #[f,Zy l,b]
theorem vN {t:Th}(g:wK S)(f:t.Good)(l:S.length<2000)(c:Cl S)(h:∀n∈namesW t,n∈S.map En.nm):Cl (Cr S t).1/\(Cr S t).2∈(Cr S t).1.map En.nm/\∀n∈S.map En.nm,n∈(Cr S t).1.map En.nm:=by
 let#[_,at_,_,T,e,_]:=j0 g f l;let:=#[?_,at_.mem,λn b=>by rw[e,Zu];let:=Z4 _ b];unfold Cr
 split
 .let:=c
 .let:=c.snoc λn b=>?_;have:inD (UY S t).d=namesW t:=CZ t;rw[this]at b;let:=h n b
theorem Pn:∀(vs:List<|Str×By) {a:List En×Df},wK a.1->Cl a.1->(∀r∈a.2,r.2∈a.1.map En.nm)->(∀v∈vs,UR v.2)->a.1.length+vs.length<2000->wK (vs.foldl Cp a).1/\Cl (vs.foldl Cp a).1/\(∀r∈(vs.foldl Cp a).2,r.2∈(vs.foldl Cp a).1.map En.nm)/\(vs.foldl Cp a).1.length<=a.1.length+vs.length
 |[],a,ok,c,h,_,_=>#[ok,c,h,by simp]
 |v::vs,a,ok,c,h,ln,hl=>by
  rw[ZH]at hl;have d:=ln v Zt;let#[b,e,o,_]:=j0 ok (qK d) ⋯;let#[f,m1,l]:=vN ok (qK d) ⋯ c<|λn g=>(nomatch g);have:=Pn vs (a:=Cp a v) b f (λr i=>by
   rcases ZD.mp i with z|z
   .let:=l _ (h r z)
   .rwa[Zk.mp z]) (λv j=>ln v<|Zp _ j) (by
   show(Cr a.1<|.leaf v.2).1.length+_<2000;lia)
  let:=#[this.1,this.2.1,this.2.2.1,Z2 this.2.2.2 ?_];show(Cr a.1<|.leaf v.2).1.length+_<=_;rw[ZH];lia
theorem WL:∀(ls:By),(∀l∈ls,∀S,wK S->Cl S->S.length+1+wt (sub fs l)<=2000->(wK (UD d S<|sub fs l).1/\Cl (UD d S<|sub fs l).1/\(UD d S<|sub fs l).2∈(UD d S<|sub fs l).1.map En.nm/\(∀n∈S.map En.nm,n∈(UD d S<|sub fs l).1.map En.nm))/\(UD d S<|sub fs l).1.length<=S.length+1+wt (sub fs l)) ->
  ∀{a:List En×Df},wK a.1->Cl a.1->(∀r∈a.2,r.2∈a.1.map En.nm)->a.1.length+(ls.map λl=>1+wt (sub fs l)).sum<=2000->wK (ls.foldl (Cw d fs) a).1/\Cl (ls.foldl (Cw d fs) a).1/\(∀r∈(ls.foldl (Cw d fs) a).2,r.2∈(ls.foldl (Cw d fs) a).1.map En.nm)
 |[],_,a,ok,c,h,_=>#[ok,c,h]
 |l::ls,H,a,ok,c,h,hl=>by
  rw[ZR,Je]at hl;let#[#[e,f,m1,i],j]:=H l Zt a.1 ok c ⋯;let:=WL ls (λl b=>H l<|Zp _ b) e f (λr g=>?_) ?_
  .rcases ZD.mp g with z|z
   .let:=i _ (h r z)
   .rwa[Zk.mp z]
  .show(UD d a.1<|sub fs l).1.length+_<=2000;lia
theorem So:∀(d:Nat) {S:Dh} {fs:Dj},wK S->Cl S->xq (d+1) fs->fs.length<=63->S.length+1+wt fs<=2000->Cl (UD (d+1) S fs).1:=λd=>by
 induction d with
 |zero =>
  intro S fs ok c g hl w;have D:CD fs=[]:=by
   cases q:CD fs with
   |nil=>rfl
   |cons l r =>
    let#[f,J,b,N,I]:=((xB fs).2 l).mp (by rw[q];let:=Zt);have:=(g.ur f J).2.1;rw[I,ZH,ZH]at this;lia
  have L:=many fs;let#[j,u,m1,z]:=Pn (CB fs) (a:=(S,[])) ok c (λr h=>(nomatch h)) (λv y=>(g.ur _<|wN.mp y).2.2.2) (by show S.length+_<2000;lia);let#[C,A,B,i,n2]:=OS ok g hl w (q:=(CB fs).foldl Cp (S,[])) (by rw[D];rfl);rw[vK,D];let:=(vN j (FA j (by rwa[(yL _).length_eq]) λr h=>?_) A u λn o=>?_).1
  .have h:=(yL _).mem_iff.mp h;let:=#[(i r h).1,m1 r h]
  .let#[r,h,e]:=Zo.mp o;rw[<-e];let:=m1 r<|(yL _).mem_iff.mp h
 |succ d ih =>
  intro S fs ok c g hl w;have L:=many fs;let#[j,u,m1,z]:=Pn (CB fs) (a:=(S,[])) ok c (λr h=>(nomatch h)) (λv y=>(g.ur _<|wN.mp y).2.2.2) (by show S.length+_<2000;lia);have z:((CB fs).foldl Cp (S,[])).1.length<=S.length+(CB fs).length:=z;let#[t,G,E]:=WL (CD fs) (λl K M s F p=>by
   let#[pk,pl]:=Xr d s (g.sub l) (Z2 sub_len hl) p;let#[T,H,_]:=pk.new;let:=#[#[pk.ok,ih s F (g.sub l) (Z2 sub_len hl) p,pk.tree.mem,λn o=>by rw[H,Zu];let:=Z4 _ o],pl]) j u m1 ⋯
  let#[C,A,B,i,n2]:=OS ok g hl w rfl;rw[vK];let:=(vN t (FA t (by rwa[(yL _).length_eq]) λr h=>?_) A G λn o=>?_).1
  .have h:=(yL _).mem_iff.mp h;let:=#[(i r h).1,E r h]
  .let#[r,h,e]:=Zo.mp o;rw[<-e];let:=E r<|(yL _).mem_iff.mp h
def jD (x:Str)(F:By)(o:Str):By:=if x∈F then AnS.sY F o else F
theorem Xo (x:Str):∀(ws F:By),(∀y,y∈ws.foldl (jD x) F↔y∈F\/(x∈F/\y∈ws))
 |[],F,y=>#[.inl,λh=>h.elim id λz=>(nomatch z.2)]
 |w::ws,F,y=>by
  show y∈ws.foldl (jD x) (jD x F w)↔_;rw[Xo x ws];have e:∀z,z∈jD x F w↔z∈F\/(x∈F/\z=w):=λz=>by
   unfold jD
   split
   .rename_i d;rw[AnS.vo];let:=#[λh=>h.imp id λq=>#[d,q],λh=>h.imp id λq=>q.2]
   .rename_i d;let:=#[.inl,λh=>h.elim id λq=>absurd q.1 d]
  rw[e,e,Zx];constructor
  .rintro((h|⟨b,c⟩)|⟨b|b,c⟩)
   .let:=.inl h
   .let:=.inr #[b,.inl c]
   .let:=.inr #[b,.inr c]
   .let:=.inr #[b.1,.inr c]
  .rintro(h|⟨b,c|c⟩)
   .let:=.inl (.inl h)
   .let:=.inl (.inr #[b,c])
   .let:=.inr #[.inl b,c]
structure Bk (S:Dh)(rs F:By)(i:Nat):Prop where
 lQ:∀x∈F,pP (CK S) rs x
 root:∀r∈rs,r∈F
 par:∀(k:Nat) (e:En),i<=k->S[k]?=some e->e.nm∈F->∀y∈inD e.d,y∈F
theorem WZ {S:Dh}(g:(S.map En.nm).Nodup){j k:Nat}{e f:En}(b:S[j]?=some e)(c:S[k]?=some f)(h:e.nm=f.nm):j=k:=by
 let#[i,d]:=ZC.mp b;let#[k1,k2]:=ZC.mp c;have:(S.map En.nm)[j]'(by rwa[Zj])=(S.map En.nm)[k]'(by rwa[Zj]):=by
  rw[Ya,Ya,d,k2,h]
 let:=(Jq g).mp this
theorem Bk.step {i:Nat}{e:En}(b:Bk S rs F<|i+1)(g:(S.map En.nm).Nodup)(c:Cl S)(n:S[i]?=some e):Bk S rs ((inD e.d).foldl (jD e.nm) F) i:=by
 have em:=Zy n;let:=#[λx z=>?_,λr w=>(Xo _ _ _ _).mpr<|.inl<|b.root r w,λk f v l p y s=>?_]
 .rcases(Xo _ _ _ _).mp z with h|⟨h1,t⟩
  .let:=b.lQ x h
  .let:=.step (b.lQ _ h1) (by rwa[X2 g em])
 .rw[Xo]at p ⊢
  rcases Nat.eq_or_lt_of_le v with q|q
  .subst q;rw[n]at l;cases l
   rcases p with h|⟨h,_⟩
   .let:=.inr #[h,s]
   .let:=.inr #[h,s]
  .rcases p with h|⟨_,t⟩
   .let:=.inl (b.par k f q l h y s)
   .let#[j,A,B,o,u]:=c i e n _ t;have:=WZ g o l u;lia
theorem Bk.all (b:Bk S rs F 0)(g:(S.map En.nm).Nodup)(c:Cl S)(n:∀r∈rs,r∈S.map En.nm):∀x,x∈F↔pP (CK S) rs x:=λx=>by
 let:=#[b.lQ x,λh=>Np b.root (λy f z i=>?_) h];have:y∈S.map En.nm:=by
  have:=b.lQ y f;clear i f h
  induction this with
  |root h=>let:=n _ h
  |step h1 h2 ih =>
   let#[e,d,j]:=Zo.mp ih;rw[<-j,X2 g d]at h2;let:=c.mem d h2
 let#[e,d,rfl]:=Zo.mp this;let#[k,l]:=YF.mp d;rw[X2 g d]at i;let:=b.par k e (ZP _) l f z i
def k7 (e:En):Prop:=∃b,e.d=(Th.tree b).dat
theorem Po:∀(vs:List<|Str×By) {a:List En×Df},wK a.1->(∀v∈vs,∃x,At a.1 x<|.leaf v.2)->(vs.foldl Cp a).1=a.1
 |[],a,_,_=>rfl
 |v::vs,a,ok,h=>by
  let#[x,d]:=h v Zt;have e:=Fr ok d;have b:(Cp a v).1=a.1:=by show(Cr a.1<|.leaf v.2).1=a.1;rw[e]
  show(vs.foldl Cp<|Cp a v).1=a.1;rw[Po vs (by rw[b];let:=ok) (λv c=>by rw[b];let:=h v<|Zp _ c),b]
theorem vU (S:Dh)(c:Df):∀e∈(Cr S<|.tree c).1,e∈S\/k7 e:=λe b=>by
 unfold Cr at b
 split at b
 .let:=.inl b
 .rcases ZD.mp b with z|z
  .let:=.inl z
  .rw[Zk.mp z];let:=.inr #[c,rfl]
theorem WM {fs:Dj}:∀(ls:By),(∀l∈ls,∀S,wK S->(∀f∈fs,∃x,At S x<|.leaf f.2)->S.length+1+wt (sub fs l)<=2000->(wK (UD d S<|sub fs l).1/\(∀e∈(UD d S<|sub fs l).1,e∈S\/k7 e)/\∃T,(UD d S<|sub fs l).1=S++T)/\(UD d S<|sub fs l).1.length<=S.length+1+wt (sub fs l)) ->
  ∀{a:List En×Df},wK a.1->(∀f∈fs,∃x,At a.1 x<|.leaf f.2)->a.1.length+(ls.map λl=>1+wt (sub fs l)).sum<=2000->∀e∈(ls.foldl (Cw d fs) a).1,e∈a.1\/k7 e
 |[],_,a,_,_,_=>λe b=>.inl b
 |l::ls,H,a,ok,h,hl=>λe b=>by
  rw[ZR,Je]at hl;let#[#[g,n1,T,i],o]:=H l Zt a.1 ok h ⋯;have b:=b
  rcases WM ls (λl c=>H l<|Zp _ c) g (λf j=>by
   let#[x,n]:=h f j;let:=#[x,?_];show At (UD d a.1<|sub fs l).1 x (.leaf f.2);rw[i];let:=n.more) (by
   show(UD d a.1<|sub fs l).1.length+_<=2000;lia) e b with z|z
  .let:=n1 e z
  .let:=.inr z
theorem SC {f:Fi}(h:f∈sub fs l):∃g∈fs,g.2=f.2:=by
 unfold sub at h;let#[g,b,e]:=Jr.mp h;let:=#[g,b,?_];unfold Xi at e
 split at e
 .split at e
  .cases e;rfl
  .cases e
 .cases e
theorem Sq:∀(d:Nat) {S:Dh} {fs:Dj},wK S->xq (d+1) fs->fs.length<=63->S.length+1+wt fs<=2000->(∀f∈fs,∃x,At S x<|.leaf f.2)->∀e∈(UD (d+1) S fs).1,e∈S\/k7 e:=λd=>by
 induction d with
 |zero =>
  intro S fs ok g hl D h e c;have y:CD fs=[]:=by
   cases q:CD fs with
   |nil=>rfl
   |cons l r =>
    let#[f,o,b,G,w]:=((xB fs).2 l).mp (by rw[q];let:=Zt);have:=(g.ur f o).2.1;rw[w,ZH,ZH]at this;lia
  rw[vK,y]at c;have i:=Po (CB fs) (a:=(S,[])) ok<|λv s=>h _<|wN.mp s;have c:e∈(Cr ((CB fs).foldl Cp (S,[])).1 _).1:=c;rw[i]at c;let:=vU _ _ e c
 |succ d ih =>
  intro S fs ok g hl D h e c;have F:=many fs;rw[vK]at c
  rcases vU _ _ e c with z|z
  .have i:=Po (CB fs) (a:=(S,[])) ok<|λv s=>h _<|wN.mp s;have i:((CB fs).foldl Cp (S,[])).1=S:=i
   rcases WM (CD fs) (λl C E n B j=>by
    let#[pk,pl]:=Xr d n (g.sub l) (Z2 sub_len hl) j;let#[T,u,_]:=pk.new;let:=#[#[pk.ok,ih n (g.sub l) (Z2 sub_len hl) j<|λf o=>?_,T,u],pl];let#[A,p,t]:=SC o;rw[<-t];let:=B A p) (by rw[i];let:=ok) (by rwa[i]) (by rw[i];lia) e z with q|q
   .rw[i]at q;let:=.inl q
   .let:=.inr q
  .let:=.inr z
def Pb (h:Str):Nat:=((cs h).head?).getD 0
def UZ (e:En):Bool:=decide (Pb e.h=76)
def UF (S:Dh):Nat:=(S.filter UZ).length
def LC (S:Dh):Prop:=∀e∈S,UZ e=true->e.n<UF S
theorem jE (S T:Dh):UF (S++T)=UF S+UF T:=by
 unfold UF;rw[YX,Zq]
theorem Bi (t:Th):Pb (UN t)=(match t with|.leaf _=>76|.tree _=>84|.note _ _ _=>78):=by
 unfold Pb UN;rw[zf,jL];cases t<;>rfl
theorem BE (g:wK S){e:En}(b:e∈S):UZ e=true->∃L,e.d=(Th.leaf L).dat:=λh=>by
 let#[t,c,_,th]:=g.th e b;unfold UZ at h;rw[th,Bi]at h;have h:=ZA h;cases t with
 |leaf L=>let:=#[L,c]
 |tree Dm=>cases h
 |note x ps y=>cases h
theorem LC.nil:LC []:=λe b=>(nomatch b)
theorem LC.snoc (h:LC S)(t:Th):LC (S++[UY S t]):=λe g hl=>by
 rw[jE]
 rcases ZD.mp g with z|z
 .have:=h e z hl;lia
 .have f:=Zk.mp z;subst f;have j:UF [UY S t]=1:=by
   unfold UF;rw[Jt,ZJ hl];rfl
  rw[j];show(xg S<|UN t).getD 0<_
  rcases lJ S (UN t) with q|⟨d,b,i,q⟩
  .rw[q];lia
  .have c:UZ d=true:=by
    unfold UZ at hl ⊢;rwa[i]
   have:=h d b c;lia
theorem Fs (h:LC S)(t:Th):LC (Cr S t).1/\UF (Cr S t).1<=UF S+1:=by
 unfold Cr
 split
 .let:=#[h,Jk _]
 .let:=#[h.snoc t,?_];rw[jE];have:UF [UY S t]<=1:=YG _ _;lia
theorem Bj (S:Dh)(t:Th):UF (Cr S t).1<=UF S+1:=by
 unfold Cr
 split
 .let:=Jk _
 .rw[jE];have:UF [UY S t]<=1:=YG _ _;lia
theorem P3 (b:UZ (UY S t)=false):UF (Cr S t).1=UF S:=by
 unfold Cr
 split
 .rfl
 .rw[jE];have:UF [UY S t]=0:=by
   unfold UF;rw[Jt,b];rfl
  lia
theorem R6 (x:Str)(ps:By)(y:Str):UF (Cr S<|.note x ps y).1=UF S:=P3 (by
 unfold UZ;show decide (Pb (UN<|.note x ps y)=76)=false;rw[Bi];rfl)
theorem Hl {S T:Dh}(g:wK<|S++T)(n:∀e∈T,k7 e\/e∈S)(nd:((S++T).map En.nm).Nodup):UF (S++T)=UF S:=by
 have f:∀e∈T,UZ e=false:=λe b=>by
  cases q:UZ e with
  |false=>rfl
  |true =>
   let#[L,c]:=BE g (ZM _ b) q
   rcases n e b with⟨Dm,hr⟩|z
   .have:=vI<|c.symm.trans hr;cases this
   .rw[Zu,Y5]at nd;let:=absurd rfl<|nd.2.2 e.nm (Zo.mpr #[e,z,rfl]) e.nm<|Zo.mpr #[e,b,rfl]
 have d:UF T=0:=by
  unfold UF;rw[JJ.mpr (λe b=>by rw[f e b];decide)];rfl
 have le:UF (S++T)=UF S:=by rw[jE,d];rfl
 let:=le
theorem LC.trees {T:Dh}(h:LC S)(g:wK<|S++T)(n:∀e∈T,k7 e\/e∈S)(nd:((S++T).map En.nm).Nodup):LC (S++T)/\UF (S++T)=UF S:=by
 have c:∀e∈T,UZ e=false:=λe b=>by
  cases q:UZ e with
  |false=>rfl
  |true =>
   let#[L,d]:=BE g (ZM _ b) q
   rcases n e b with⟨Dm,hr⟩|z
   .have:=vI<|d.symm.trans hr;cases this
   .rw[Zu,Y5]at nd;let:=absurd rfl<|nd.2.2 e.nm (Zo.mpr #[e,z,rfl]) e.nm<|Zo.mpr #[e,b,rfl]
 have f:UF T=0:=by
  unfold UF;rw[JJ.mpr (λe b=>by rw[c e b];decide)];rfl
 have le:UF (S++T)=UF S:=by rw[jE,f];rfl
 let:=#[λe b hl=>?_,le];rw[le]
 rcases ZD.mp b with z|z
 .let:=h e z hl
 .rw[c e z]at hl;cases hl
theorem TR {S:Dh}(h:46∉cs x):x∉S.map En.nm:=λz=>by
 let#[e,b,rfl]:=Zo.mp z;let:=h ?_;unfold En.nm;rw[zf,zf];let:=Z4 _<|ZM _<|Zk.mpr rfl
theorem R4 (g:wK S)(lc:LC S)(n:UF S<=99):("L1.99":Str)∉S.map En.nm:=λz=>by
 let#[e,l,o]:=Zo.mp z;have d:=(g.good.ent e l).free;have h:cs e.h++[46]++cs (UK e.n)=[76,49,46,57,57]:=by
  have:=congrArg cs o;unfold En.nm at this;rw[zf,zf]at this;rw[show cs ("L1.99":Str)=[76,49,46,57,57] by lk]at this;let:=this
 have key:cs e.h=[76,49]/\cs (UK e.n)=[57,57]:=by
  match q:cs e.h,h,d with
  |[],h,_=>cases h
  |[a],h,_=>cases h
  |[a,b],h,_ =>
   injection h with f h;injection h with i h;injection h with j h;let:=#[by rw[f,i],h]
  |a::b::c::r,h,d =>
   exfalso;injection h with f h;injection h with i h;injection h with j h;rw[j]at d;let:=d<|Zp _<|Zp _ Zt
 have p:e.n=99:=by
  let:=HH<|wO ?_;rw[key.2]
  lk
 have hl:UZ e=true:=by
  unfold UZ Pb;rw[key.1];rfl
 have:=lc e l hl;lia
open AnJ
def UL (fs:Dj)(f:Fi):Dj:=if f.1∈fs.map (·.1) then fs.map (λg=>if g.1=f.1 then f else g) else fs++[f]
theorem Mw (fs:Dj)(f:Fi):(UL fs f).map (·.1)=if f.1∈fs.map (·.1) then fs.map (·.1) else fs.map (·.1)++[f.1]:=by
 unfold UL
 split
 .rw[ZK];let:=Yw λg _=>?_;show(if g.1=f.1 then f else g).1=g.1
  split
  .rename_i z;let:=z.symm
  .rfl
 .rw[Zu];rfl
theorem XH {k:Fi}(h:k∈UL fs f):k∈fs\/k=f:=by
 unfold UL at h
 split at h
 .let#[g,b,e]:=Zo.mp h
  split at e
  .let:=.inr e.symm
  .let:=.inl (e▸b)
 .rcases ZD.mp h with z|z
  .let:=.inl z
  .let:=.inr (Zk.mp z)
theorem Sm {a t:By}(b:a≠[])(c:t≠[]):Cv (a++t)=Cv a++"/"++Cv t:=wO (by
 have e:cs ("/":Str)=[47]:=by lk
 unfold Cv;rw[jQ,Zu,O4 (by simpa using b)<|by simpa using c,zf,zf,jQ,jQ,e];simp)
theorem xq.put (g:xq 4 fs){f:Fi}(h:f.1≠[])(j:f.1.length<=4)(hl:∀l∈f.1,yB l=true)(p:UR f.2)(d:∀k∈fs,IA (Cv k.1) (Cv f.1)=false/\IA (Cv f.1) (Cv k.1)=false):xq 4 (UL fs f):=by
 have i:∀{a b t:By},a≠[]->b=a++t->IA (Cv a) (Cv b)=false->t=[]:=λ{a b t} n e z=>by
  rcases Classical.em (t=[]) with q|q
  .let:=q
  .rw[e,Sm n q,PJ]at z;cases z
 let:=#[λk c=>?_,?_,λk c m o t e=>?_]
 .rcases XH c with z|z
  .let:=g.ur k z
  .rw[z];let:=#[h,j,hl,p]
 .rw[Mw]
  split
  .let:=g.nd
  .rename_i z;let:=jN g.nd z
 .rcases XH c with z|z<;>rcases XH o with y|y
  .let:=g.pre k z m y t e
  .rw[y]at e;let:=i (g.ur k z).1 e (d k z).1
  .rw[z]at e;let:=i h e (d m y).2
  .rw[z,y]at e;have:=congrArg List.length e;rw[Zq]at this;let:=Y6 ⋯
theorem wL.put {K:Co}(h:wL K H fs Dl){n:Nat}(g:xq n fs){f:Fi}{v:V}(F:f.1≠[])(hl:∀l∈f.1,yB l=true)(D:Dt K H (yu f.2) v)(C:UR f.2):wL K H (UL fs f) (yp Dl (.inr<|Cv f.1) v):=by
 have key:∀k∈fs,((.inr (Cv k.1):Key)=.inr (Cv f.1))↔k.1=f.1:=λk o=>#[λz=>Fp (d:=0) (g.ur k o).1 F (g.ur k o).2.2.1 hl<|Sum.inr.inj z,λz=>by rw[z]]
 by_cases z:f.1∈fs.map (·.1)
 .have B:∃k∈fs,k.1=f.1:=let #[k,o,e]:=Zo.mp z;#[k,o,e];have G:(Dl.any λc=>decide (c.1=.inr (Cv f.1)))=true:=by
   let#[k,o,e]:=B;have:(.inr (Cv f.1):Key)∈Dl.map (·.1):=by rw[h.keys];let:=Zo.mpr #[k,o,by rw[e]]
   let#[c,m,E]:=Zo.mp this;let:=YB.mpr #[c,m,Zm E]
  unfold yp UL;rw[ZJ G,ZJ z];let:=#[?_,λi k c a b=>?_]
  .rw[ZK,ZK];have s:Dl.map ((λp=>p.1)∘λc=>if c.1=.inr (Cv f.1) then(c.1,v) else c)=Dl.map (·.1):=Yw λc _=>by
    show(if c.1=.inr (Cv f.1) then(c.1,v) else c).1=c.1
    split<;>rfl
   rw[s,h.keys];let:=Yw λk _=>?_;show(Ec (Cv k.1):Key)=.inr (Cv (if k.1=f.1 then f else k).1)
   split
   .rename_i q;rw[q]
   .rfl
  .rw[Zz]at a b;let#[A,t,w]:=ZO.mp a;let#[u,r,j]:=ZO.mp b;have s:=congrArg (λl=>l[i]?) h.keys;simp only[Zz,t,r,YZ]at s;have s:u.1=.inr (Cv A.1):=Option.some.inj s
   by_cases q:A.1=f.1
   .rw[ZJ q]at w;rw[ZJ<|by rw[s,q]]at j;rw[<-w,<-j];let:=#[D,C]
   .rw[ZI q]at w;rw[ZI<|λy=>q<|(key A<|Zy t).mp<|s.symm.trans y]at j;rw[<-w,<-j];let:=h.val i A u t r
 .have I:(.inr (Cv f.1):Key)∉Dl.map (·.1):=λy=>by
   rw[h.keys]at y;let#[k,o,e]:=Zo.mp y;let:=z<|Zo.mpr #[k,o,(key k o).mp e]
  rw[kZ I];unfold UL;rw[ZI z];let:=h.snoc D C
theorem aE {n:Nat}{fs:Dj}(g:∀f∈fs,f.1.length<=n):wt fs<=n*fs.length:=by
 unfold wt
 induction fs with
 |nil=>let:=ZP _
 |cons f fs ih =>
  have c:=g f<|Zt ..;have d:=ih λk b=>g k<|Zp _ b;rw[ZR,Je,ZH,Nat.mul_succ];lia
theorem xq.wt (g:xq n fs):wt fs<=n*fs.length:=aE λf b=>(g.ur f b).2.1
end An
namespace An29
open PySem L2 An AnP
seal L2.PS L2.nZ L2.PE L2.PT L2.PW L2.PA L2.PG L2.gH L2.PI L2.gV L2.PC
abbrev xj0 (K)(x)(st)(f)(fd):=xj K x x st f fd
def top (i:Nat):Stmt:=PySem.Challenge.pw_annals_k29_how_packed.main.body.getD i<|.Pass #[0,0,0,0]
def kinds:List String:=["NoneType","bool","int","str","list","tuple","dict"]
theorem zT {i:Nat}{v:V}{σ:St}{H:Hp}{Q:St->Hp->Prop}(h:Q (σ.set i (some v)) H):XZ i v σ H Q:=h
theorem hid {B:Prop}(k:∀G:Prop,(B->G)->G):B:=k B id
theorem Sw {t u:TS}{D:Ends}{σ:St}{H:Hp}(h:∀N:St->Hp->Prop,(∀σ H,u D σ H->N σ H)->t { D with nx:=N } σ H):MK t u D σ H:=h _ λ_ _ z=>z
theorem nS {σ:St}{H:Hp}{M:St->Hp->Prop}(m:∀σ H,MK t u D σ H->M σ H)(h:∀N:St->Hp->Prop,(∀σ H,u D σ H->N σ H)->t { D with nx:=N } σ H):M σ H:=m _ _<|h _ λ_ _ z=>z
theorem nG {i:Nat}{v:V}{σ:St}{H:Hp}{M:St->Hp->Prop}(m:∀σ H,MK t u D σ H->M σ H)(h:∀N:St->Hp->Prop,(∀σ H,u D σ H->N σ H)->t { D with nx:=N } (σ.set i (some v)) H):XZ i v σ H M:=m _ _<|h _ λ_ _ z=>z
def xV:Dk:=[(Ec "leaf",.str "L"),(Ec "tree",.str "T"),(Ec "note",.str "N")]
theorem KU (t:Th):UH xV (Ec t.word:Key)=some (.str t.letter):=by
 cases t
 .show UH xV (Ec "leaf":Key)=some (.str "L")
  lk
 .show UH xV (Ec "tree":Key)=some (.str "T")
  lk
 .show UH xV (Ec "note":Key)=some (.str "N")
  lk
section
variable {K:Co}{H:Hp}
theorem xU {ls:By}{v:V}(h:Dt K H (Th.leaf ls).dat v):∃a b,v=.ref a/\yh K H a [.str "leaf",.ref b]/\yh K H b (ls.map V.str):=by
 let#[a,o,rfl,f,j,l,rfl,c,n,i,rfl,#[b,p,rfl,e,g],d]:=h;have c:j=.str "leaf":=c;have d:i=[]:=d;subst c d;rw[zy.vf g]at e;let:=#[a,b,rfl,f,e]
theorem kU {rs:Df}{v:V}(h:Dt K H (Th.tree rs).dat v):∃a b,v=.ref a/\yh K H a [.str "tree",.ref b]/\Dt K H (.tuple<|rs.map zp) (.ref b):=by
 let#[a,p,rfl,f,j,n,rfl,c,o,i,rfl,#[b,l,rfl,e,g],d]:=h;have c:j=.str "tree":=c;have d:i=[]:=d;subst c d;let:=#[a,b,rfl,f,b,l,rfl,e,g]
theorem uA {t:Str}{ps:By}{w:Str}{v:V}(h:Dt K H (Th.note t ps w).dat v):∃a b,v=.ref a/\yh K H a [.str "note",.str t,.ref b,.str w]/\yh K H b (ps.map V.str):=by
 let#[a,y,rfl,i,n,q,rfl,c,o,r,rfl,d,u,s,rfl,#[b,z,rfl,g,j],p,l,rfl,e,f]:=h;have c:n=.str "note":=c;have d:o=.str t:=d;have e:p=.str w:=e;have f:l=[]:=f;subst c d e f;rw[zy.vf j]at g;let:=#[a,b,rfl,i,g]
theorem kC {t:Th}(h:Dt K H t.dat v):∃a r,v=.ref a/\yh K H a (.str t.word::r):=by
 cases t with
 |leaf ls=>let#[a,b,e,c,_]:=xU h;let:=#[a,_,e,c]
 |tree rs=>let#[a,b,e,c,_]:=kU h;let:=#[a,_,e,c]
 |note t ps w=>let#[a,b,e,c,_]:=uA h;let:=#[a,_,e,c]
theorem rH (h:Dt K H (zp r) v):∃a,v=.ref a/\yh K H a [.str r.1,.str r.2]:=by
 let#[a,l,rfl,e,g,j,rfl,b,i,f,rfl,c,d]:=h;have b:g=.str r.1:=b;have c:i=.str r.2:=c;have d:f=[]:=d;subst b c d;let:=#[a,rfl,e]
theorem sS {rs:Df}{i:Nat}{x:V}(h:zy K H (rs.map zp) xs)(e:xs[i]?=some x):∃r a,rs[i]?=some r/\x=.ref a/\yh K H a [.str r.1,.str r.2]:=by
 let#[d,b,c]:=h.get e;rw[Zz]at b;cases q:rs[i]? with
 |none=>rw[q]at b;cases b
 |some r =>
  rw[q]at b;have b:zp r=d:=Option.some.inj b;subst b;let#[a,f,g]:=rH c;let:=#[r,a,rfl,f,g]
end
def IE (K:Co):Sp:=λb H Q _=>∃v t,b=[v]/\Dt K H (Th.dat t) v/\Q (.str t.letter) H
def XS (K:Co):Sp:=λc H Q _=>∃v b,c=[v]/\Dt K H (.tuple<|b.map zp) v/\b.length<=1000/\∀l,H l=none->Q (.ref l) (upd H l<|.lst<|(z7 b).map V.str)
def Nv (K:Co):Sp:=λc H Q _=>∃v t,c=[v]/\Dt K H (Th.dat t) v/\t.Good/\∀l b,zz H b->H l=none->b l=some (.lst<|t.parts.map V.str)->Q (.ref l) b
def Bm:Sp:=λb H Q _=>∃x,b=[.str x]/\x.length<=1000/\Q (.str<|counted x) H
def GQ (K:Co):Sp:=λc H Q _=>∃v t,c=[v]/\Dt K H (Th.dat t) v/\t.Good/\∀b,zz H b->Q (.str t.sp) b
def Kd (K:Co):Sp:=λc H Q _=>∃v t,c=[v]/\Dt K H (Th.dat t) v/\t.Good/\∀b,zz H b->Q (.int<|dg t.sp) b
structure Txt (P:Ea)(w:Ef)(K:Co)(mg:Str->Db)(t1 t2 t3 t4 t5 t6 t7 t8 t9:Tok)(aL aC aN aP fI:D8):Prop where
 len:mg "len"=none
 all:mg "all"=none
 ord:mg "ord"=none
 isinstance:mg "isinstance"=none
 str:mg "str"=none
 set:mg "set"=none
 sorted:mg "sorted"=none
 tuple:mg "tuple"=none
 list:mg "list"=none
 max:mg "max"=none
 int:mg "int"=none
 bool:mg "bool"=none
 range:mg "range"=none
 dict:mg "dict"=none
 any:mg "any"=none
 oE:mg "LONGEST_LINE"=some (.int 20 t1)
 pN:mg "LONGEST_LABEL"=some (.int 8 t2)
 nY:mg "MOST_PARENTS"=some (.int 2 t3)
 PERCENT:mg "PERCENT"=some (.int 37 t4)
 mO:mg "MOST_LABELS"=some (.int 4 t7)
 pK:mg "DIGEST_FACTOR"=some (.int 31 t5)
 oK:mg "DIGEST_BOUND"=some (.int 97 t6)
 reversed:mg "reversed"=none
 sum:mg "sum"=none
 sO:mg "COST_OF_A_SPAN"=some (.int 2 t8)
 mL:mg "MOST_STEPS"=some (.int 4 t9)
 nO:mg "names_in"=some (.ref fI)
 oV:mg "NoName"=some (.ref aN)
 iH:L6 K aN Ps "ValueError.__new__"=true
 gR:PySem.W.exmOne K (.ref aN) (.ref aN)=some true
 LETTERS:mg "LETTERS"=some (.ref aL)
 Pack:mg "Pack"=some (.ref aP)
 fY:mg "Shelf"=some (.ref aC)
 wR:Cls K aP
 ne:aC≠aP
 m1:uw K aP "base_by_name"
 m2:uw K aP "part_by_name"
 kd:KD P w K aL xV
 cls:Cls K aC
 n1:uw K aC "thing_by_name"
 n2:uw K aC "name_by_thing"
 n3:uw K aC "next_numbers"
 kit:∀a∈kinds,∀b∈kinds,E6 K (.type a) (.type b)=some (a==b||(a=="bool"&&b=="int"))
theorem Pw (d:Eg):Xq d∈kinds:=by cases d<;>simp[Xq,kinds]
def Kp:Eg->Str
 | .str x=>x
 |_=>""
def HL:Eg->Bool
 | .tuple ds=>ds.all Xb&&(decide (ds.length<=2)&&decide ((AxS.uniq<|ds.map Kp).length=ds.length))
 |_=>false
inductive mK (K:Co)(vs:Di)(H:Hp)(Q:VK)(e3:XK):Prop
 |mk (d:Eg) (v:V) (h0:vs=[v]) (h1:Dw K H d v) (h2:small d=true) (h3:∀H',zz H H'->Q (.bl<|HL d) H'):mK K vs H Q e3
theorem Km {K:Co}:∀{ds:De} {xs:Di},wQ K H ds xs->ds.all Xb=true->xs=(ds.map Kp).map V.str
 |[],_,h,_=>by rw[show _=[] from h];rfl
 | .str x::ds,_,⟨v,r,e,hv,hr⟩,h=>by
  rw[List.all_cons,ZB]at h;rw[e,Km hr h.2,show v=V.str x from hv];rfl
 | .none::_,_,_,h=>by cases h
 | .bool _::_,_,_,h=>by cases h
 | .int _::_,_,_,h=>by cases h
 | .list _::_,_,_,h=>by cases h
 | .tuple _::_,_,_,h=>by cases h
 | .dict _::_,_,_,h=>by cases h
def U8:Eg->Str
 | .tuple (.str l::_)=>l
 |_=>""
def BN:Eg->Bool
 | .tuple ds=>ds.all Xe&&Xu (ds.map U8)
 |_=>false
inductive lO (K:Co)(vs:Di)(H:Hp)(Q:VK)(e3:XK):Prop
 |mk (d:Eg) (v:V) (h0:vs=[v]) (h1:Dw K H d v) (h2:small d=true) (h3:(∀ds,d=.tuple ds->ds.length<=63)) (h4:∀H',zz H H'->Q (.bl<|BN d) H'):lO K vs H Q e3
theorem Nr {K:Co}(h:Dw K H d v)(r:Xe d=true):∃(t:D8) (y:V),v=.ref t/\yh K H t [.str<|U8 d,y]/\yB (U8 d)=true:=by
 match d,r with
 | .tuple [l,n],r =>
  have r:(vT l&&Xb n)=true:=r;rw[ZB]at r;let#[t,p,rfl,c,g,o,rfl,b,i,f,rfl,j,e]:=h;have e:f=[]:=e;subst e;cases l with
  |str x=>cases(show g=_ from b);let:=#[t,i,rfl,c,r.1]
  |none=>cases r.1
  |bool _=>cases r.1
  |int _=>cases r.1
  |list _=>cases r.1
  |tuple _=>cases r.1
  |dict _=>cases r.1
theorem Bv (h:yB x=true):Ei x=true:=by
 unfold yB at h;rw[ZB]at h;rw[x6];intro c b;have:=ZQ.mp h.2 c b;unfold XE at this;rw[ZB]at this;have:=ZA this.2;lia
def NG (b:De)(i:Nat):PyData:=(b[i]?).getD .none
def U6 (word:Str)(b:De):Bool:=decide (word="leaf")&&(decide (b.length=1)&&j5 (NG b 0))
def U9 (word:Str)(b:De):Bool:=decide (word="tree")&&(decide (b.length=1)&&BN (NG b 0))
inductive qm (K:Co)(b:Str->De->Bool)(vs:Di)(H:Hp)(Q:VK)(e3:XK):Prop
 |mk (word:Str) (a:D8) (ds:De) (xs:Di) (h0:vs=[.str word,.ref a]) (h1:yh K H a xs) (h2:wQ K H ds xs) (h3:yD ds=true) (h4:ds.length<=63) (h5:(∀e∈ds,∀es,e=.tuple es->es.length<=63)) (h6:∀H',zz H H'->Q (.bl<|b word ds) H'):qm K b vs H Q e3
def Px (word:Str)(b:De):Bool:=decide (word="note")&&(decide (b.length=3)&&(Xb (NG b 0)&&(HL (NG b 1)&&U1 (NG b 2))))
def Wu:Eg->Bool
 | .tuple (.str word::ds)=>U6 word ds||(U9 word ds||Px word ds)
 |_=>false
def narrow (d:Eg):Prop:=∀b,d=.tuple b->b.length<=63/\∀e∈b,∀c,e=.tuple c->c.length<=63
def uY (t:Th):Prop:=t.Good/\Wu t.dat=true/\small t.dat=true/\narrow t.dat
inductive pR (K:Co)(vs:Di)(H:Hp)(Q:VK)(e3:XK):Prop
 |mk (t:Th) (v:V) (h0:vs=[v]) (h1:Dt K H t.dat v) (h2:uY t) (h3:∀H',zz H H'->Q (.bl true) H'):pR K vs H Q e3
inductive lY (K:Co)(vs:Di)(H:Hp)(Q:VK)(e3:XK):Prop
 |mk (t:Th) (v:V) (h0:vs=[v]) (h1:Dt K H t.dat v) (h2:uY t) (h3:∀H',zz H H'->Q v H'):lY K vs H Q e3
inductive jk (K:Co)(vs:Di)(H:Hp)(Q:VK)(e3:XK):Prop
 |mk (a:D8) (ps:By) (h0:vs=[.ref a]) (h1:yh K H a<|ps.map V.str) (h2:ps.length<=2) (h3:(AxS.uniq ps).length=ps.length) (h4:∀H',zz H H'->Q (.bl true) H'):jk K vs H Q e3
inductive nU (K:Co)(vs:Di)(H:Hp)(Q:VK)(e3:XK):Prop
 |mk (a b:D8) (x:Str) (ps:By) (y:Str) (h0:vs=[.str "note",.ref a]) (h1:yh K H a [.str x,.ref b,.str y]) (h2:yh K H b<|ps.map V.str) (h3:ps.length<=2) (h4:(AxS.uniq ps).length=ps.length) (h5:UG y=true) (h6:∀H',zz H H'->Q (.bl true) H'):nU K vs H Q e3
inductive iJ (e0:Di)(e1:Hp)(e2:VK)(e3:XK):Prop
 |mk  (h0:False):iJ e0 e1 e2 e3
def UT (S:Dh):Eg->Bool
 | .str x=>decide (x∈S.map En.nm)
 |_=>false
inductive oM (P:Ea)(w:Ef)(K:Co)(C:D8)(vs:Di)(H:Hp)(Q:VK)(e3:XK):Prop
 |mk (a:D8) (fp:Dc) (S:Dh) (e:En) (t:D8) (h0:vs=[.ref a,.str e.nm,.ref t]) (h1:xr P w K C H a fp S) (h2:jg e) (h3:Dt K H e.d<|.ref t) (h4:e.d∉S.map (·.d)) (h5:e.nm∉S.map En.nm) (h6:S.length<2000) (h7:∀H',Off fp H H'->xr P w K C H' a fp (S++[e])->Q .non H'):oM P w K C vs H Q e3
inductive tM (P:Ea)(w:Ef)(K:Co)(C:D8)(vs:Di)(H:Hp)(Q:VK)(e3:XK):Prop
 |mk (a:D8) (fp:Dc) (S:Dh) (h0:vs=[.ref a]) (h1:xr P w K C H a fp S) (h2:∀l,H l=none->Q (.ref l) (upd H l<|.lst<|S.map λe=>V.str e.nm)):tM P w K C vs H Q e3
def Tq (b:Dk):Eg->Bool
 | .str x=>(UH b (Ec x:Key)).isSome
 |_=>false
inductive lH (K:Co)(vs:Di)(H:Hp)(Q:VK)(e3:XK):Prop
 |mk (d1:D8) (Dl:Dk) (d:Eg) (v:V) (h0:vs=[.ref d1,v]) (h1:H d1=some (.dK Dl)) (h2:Dw K H d v) (h3:Q (.bl<|Tq Dl d) H):lH K vs H Q e3
inductive uv (P:Ea)(w:Ef)(K:Co)(C D aN:D8)(vs:Di)(H:Hp)(Q:VK)(E:XK):Prop
 |mk (c a:D8) (fp:Dc) (S:Dh) (d:Eg) (v:V) (h0:vs=[.ref a,v]) (h1:wz P w K C D c H a fp S) (h2:Dw K H d v) (h3:(UT S d=true->Q .non H)) (h4:(UT S d=false->E (.ref aN) none H)):uv P w K C D aN vs H Q E
inductive kj (P:Ea)(w:Ef)(K:Co)(C:D8)(vs:Di)(H:Hp)(Q:VK)(e3:XK):Prop
 |mk (a:D8) (fp:Dc) (S:Dh) (d:Eg) (v:V) (h0:vs=[.ref a,v]) (h1:xr P w K C H a fp S) (h2:Dw K H d v) (h3:Q (.bl<|UT S d) H):kj P w K C vs H Q e3
inductive vy (P:Ea)(w:Ef)(K:Co)(C:D8)(vs:Di)(H:Hp)(Q:VK)(e3:XK):Prop
 |mk (a:D8) (fp:Dc) (S:Dh) (d:Eg) (v:V) (h0:vs=[.ref a,v]) (h1:xr P w K C H a fp S) (h2:Dw K H d v) (h3:UT S d=true) (h4:∀e∈S,d=.str e.nm->∀t,Dt K H e.d (.ref t)->Q (.ref t) H):vy P w K C vs H Q e3
inductive nP (P:Ea)(w:Ef)(K:Co)(C D c:D8)(vs:Di)(H:Hp)(Q:VK)(e3:XK):Prop
 |mk (a:D8) (fp:Dc) (S:Dh) (d:Eg) (v:V) (h0:vs=[.ref a,v]) (h1:wz P w K C D c H a fp S) (h2:Dw K H d v) (h3:Q (.bl<|UT S d) H):nP P w K C D c vs H Q e3
inductive nJ (P:Ea)(w:Ef)(K:Co)(C D c:D8)(vs:Di)(H:Hp)(Q:VK)(e3:XK):Prop
 |mk (a:D8) (fp:Dc) (S:Dh) (h0:vs=[.ref a]) (h1:wz P w K C D c H a fp S) (h2:∀l,H l=none->Q (.ref l) (upd H l<|.lst<|S.map λe=>V.str e.nm)):nJ P w K C D c vs H Q e3
inductive mQ (P:Ea)(w:Ef)(K:Co)(C D c:D8)(vs:Di)(H:Hp)(Q:VK)(e3:XK):Prop
 |mk (a:D8) (fp:Dc) (S:Dh) (e:En) (h0:vs=[.ref a,.str e.nm]) (h1:wz P w K C D c H a fp S) (h2:e∈S) (h3:∀t H',zz H H'->Dt K H' e.d (.ref t)->Q (.ref t) H'):mQ P w K C D c vs H Q e3
inductive rR (K:Co)(D:D8)(vs:Di)(H:Hp)(Q:VK)(e3:XK):Prop
 |mk (a:D8) (fp:Dc) (S:Dh) (d:Eg) (v:V) (h0:vs=[.ref a,v]) (h1:vz K D H a fp S) (h2:Dw K H d v) (h3:Q (.bl<|UT S d) H):rR K D vs H Q e3
inductive ut (K:Co)(D:D8)(vs:Di)(H:Hp)(Q:VK)(e3:XK):Prop
 |mk (a:D8) (fp:Dc) (S:Dh) (h0:vs=[.ref a]) (h1:vz K D H a fp S) (h2:∀l,H l=none->Q (.ref l) (upd H l<|.lst<|S.map λe=>V.str e.nm)):ut K D vs H Q e3
inductive nR (P:Ea)(w:Ef)(K:Co)(C:D8)(vs:Di)(H:Hp)(Q:VK)(e3:XK):Prop
 |mk (a f:D8) (fp:Dc) (S:Dh) (x:Str) (ws:By) (h0:vs=[.ref a,.str x,.ref f]) (h1:xr P w K C H a fp S) (h2:(∀e∈S,U5 e)) (h3:yh K H f<|ws.map V.str) (h4:(∀y∈ws,Ei y=true)) (h5:xJ S x ws=true) (h6:Q .non H):nR P w K C vs H Q e3
inductive ou (P:Ea)(w:Ef)(K:Co)(C:D8)(vs:Di)(H:Hp)(Q:VK)(e3:XK):Prop
 |mk (a:D8) (fp:Dc) (S:Dh) (t:Th) (v:V) (h0:vs=[.ref a,v]) (h1:xr P w K C H a fp S) (h2:(∀e∈S,U5 e)) (h3:Dt K H t.dat v) (h4:namesOk S t=true) (h5:∀H',zz H H'->Q .non H'):ou P w K C vs H Q e3
def Ta (P:Ea)(w:Ef)(K:Co)(C:D8)(H:Hp)(a:D8)(f:Dc)(S:Dh)(t:Th)(c:Hp)(b:Dh)(e:En):Prop :=
 Off f H c/\xr P w K C c a f b/\e∈b/\e.d=t.dat/\(b=S\/(b=S++[e]/\e=UY S t/\t.dat∉S.map (·.d)))
inductive tZ (P:Ea)(w:Ef)(K:Co)(C:D8)(vs:Di)(H:Hp)(Q:VK)(e3:XK):Prop
 |mk (a:D8) (fp:Dc) (S:Dh) (t:Th) (v:V) (h0:vs=[.ref a,v]) (h1:xr P w K C H a fp S) (h2:(∀e∈S,U5 e)) (h3:Dt K H t.dat v) (h4:uY t) (h5:S.length<2000) (h6:(∀h,(xg S h).getD 0<1000000)) (h7:namesOk S t=true) (h8:∀H2 S' e,Ta P w K C H a fp S t H2 S' e->Q (.str e.nm) H2):tZ P w K C vs H Q e3
inductive lW (P:Ea)(w:Ef)(K:Co)(C D:D8)(vs:Di)(H:Hp)(Q:VK)(e3:XK):Prop
 |mk (x dx:D8) (b:V) (S:Dh) (h0:vs=[.ref x,b]) (h1:H x=some (.ins C dx [])) (h2:H dx=some (.own x)) (h3:dx≠x) (h4:((b=.non/\S=[])\/∃c a fp0,b=.ref a/\wz P w K C D c H a fp0 S/\x∉fp0/\dx∉fp0/\S.length<2000)) (h5:∀fp H',(∀c∈fp,c=x\/c=dx\/H c=none)->Off [x] H H'->xr P w K C H' x fp S->Q .non H'):lW P w K C D vs H Q e3
section
variable {P:Ea}{w:Ef}{K:Co}{mg:Str->Db}{base:Es}{t1 t2 t3 t4 t5 t6 t7 t8 t9:Tok}{aL aC aN aP fI:D8}(T:Txt P w K mg t1 t2 t3 t4 t5 t6 t7 t8 t9 aL aC aN aP fI)
theorem Txt.is {T:String}(t:Txt P w K mg t1 t2 t3 t4 t5 t6 t7 t8 t9 aL aC aN aP fI)(b:T∈kinds):E6 K (.type<|Xq d) (.type T)=some (Xq d==T||(Xq d=="bool"&&T=="int")):=t.kit _ (Pw d) _ b
namespace Aa
abbrev st:Stmt:=top 13
theorem sc:zx ["sign"] ["sign"] (zI st):=CC
include T in
theorem ok (F:xj0 K "is_sign" st f fd):zc P w K mg base CA 1 f fd ["sign"] Rj:=by
 let:=F.ok sc λ_ _ _ _ H i Q E g h=>?_;let#[c,rfl,k]:=h;let:=#[_,(zF<|zQ<|xD (ID Fk Fk zr (pv 0) zr)<|qS<|xC PD (zK FO (by rfl) T.ord PyProof.Rows.boot_ord<|zA (pv 0) zC) (qD (v:=.int 37) rfl T.PERCENT #[_,rfl])<|zS _),?_];let:=#[_,_,rfl,rfl,_,rfl,?_];rw[Pa c 32 " "<|by lk];let:=UI (λb=>?_)<|λb=>?_
 .let:=#[_,_,rfl,rfl,_,rfl,?_];rw[one_le c 126 "~"<|by lk];let:=UI (λd=>?_)<|λd=>?_
  .let:=#[_,rfl,rfl,rfl,?_];have e:UQ c=!decide (V.int (((#[#v[c]]:Str).cps.getD 0 0:Nat):Int)=V.int 37):=by
    unfold UQ;rw[b,d];show decide (c≠37)=!decide (V.int (c:Int)=V.int 37);rw[eq_comm];let:=Fj #[λh z=>h (by rw[z];rfl),λh z=>h (by injection z with z;lia)]
   rw[e]at k;let:=k
  .have e:UQ c=false:=by
    unfold UQ;rw[b,JT.mpr d];rfl
   rw[e]at k;let:=k
 .have e:UQ c=false:=by
   unfold UQ;rw[JT.mpr b];rfl
  rw[e]at k;let:=#[_,rfl,k]
end Aa
namespace Ab
abbrev st:Stmt:=top 14
theorem sc:zx ["thing"] ["thing"] (zI st):=CC
include T in
theorem ok (F:xj0 K "is_line" st f fd)(q:wU P w K mg base 1 "is_sign" ["sign"] Rj):zc P w K mg base CA 2 f fd ["thing"] (ME K):=by
 let:=F.ok sc λ_ _ _ _ H A Q E s h=>?_;let#[d,v,rfl,hd,u,k]:=h;let:=#[_,(zF<|zQ<|xD (zK (zZ (K:=K)) (by rfl) T.isinstance ZX<|zA (pv 0)<|zA (y6 (v:=.ty "str") rfl T.str Yq rfl) zC)<|xD (xC GS (zK j8 (by rfl) T.len ZV<|zA (pv 0) zC) (qD (v:=.int 20) rfl T.oE #[_,rfl])<|zS _)<|qS<|zK (kM rfl) (by rfl) T.all Jp<|zA (yS (sc:=zI st) (N:=["thing"]) (N':=["sign"]) (src:=[none]) .a rfl rfl rfl (Ms<|pv 0) (λ_ _ _ _=>(zR (i:=0) (show(["sign"]:By).Nodup by lk) rfl (Ew rfl))) (λ_ _ _ _=>x5) (λ_ _ _ _=>(zJ q s.m<|zA (pv 0) zC))) zC),?_];let:=#[_,_,d,_,rfl,hd,T.is<|by simp[kinds],_,rfl,?_];cases d with
 |str x =>
  cases(show v=_ from hd);have B:x.length<=1000:=ZA u;let:=UJ #[x,rfl,zu<|⋯,_,rfl,UI (λg=>?_)<|λg=>?_]
  .have g:x.length<=20:=by have:=ZA g;lia
   let:=#[_,rfl,BS (λi l n j=>∃o,n=[o]/\j=H/\l=(((cs x).take i).map UQ).map V.bl) #[none,rfl,rfl,rfl] (zu<|⋯) ?_ ?_ ?_]
   .rintro i l n j y ⟨o,rfl,rfl,rfl⟩;rw[Zj,Zj,ZL];lia
   .rintro i c l n j r ⟨o,rfl,rfl,rfl⟩;let:=#[c,rfl,_,rfl,rfl,?_];rw[xO<|ON r,Zu];rfl
   .rintro l n j ⟨o,rfl,rfl,rfl⟩ p t;let:=#[p,_,rfl,za.of zB,?_];rw[yx,ZS,all_map];have e:U1 (.str x)=(cs x).all UQ:=by
     show(decide (x.length<=20)&&(cs x).all UQ)=_;rw[Zm g];rfl
    rw[e]at k;let:=k _<|zD t
  .have e:U1 (.str x)=false:=by
    show(decide (x.length<=20)&&(cs x).all UQ)=_;rw[ZE<|λz=>g<|Zm<|⋯];rfl
   rw[e]at k;let:=k _<|zz.refl _
 |none=>let:=UB<|k _<|zz.refl _
 |bool b=>let:=UB<|k _<|zz.refl _
 |int i=>let:=UB<|k _<|zz.refl _
 |list ds=>let:=UB<|k _<|zz.refl _
 |tuple ds=>let:=UB<|k _<|zz.refl _
 |dict Dl=>let:=UB<|k _<|zz.refl _
end Ab
namespace Ac
abbrev st:Stmt:=top 15
theorem sc:zx ["thing"] ["thing"] (zI st):=CC
include T in
theorem ok (F:xj0 K "is_lines" st f fd)(r:wU P w K mg base 2 "is_line" ["thing"]<|ME K):zc P w K mg base CA 3 f fd ["thing"] (Fx K):=by
 let:=F.ok sc λ_ _ _ _ H G Q E u h=>?_;let#[d,v,rfl,hd,A,k]:=h;let:=#[_,(zF<|zQ<|xD (zK (zZ (K:=K)) (by rfl) T.isinstance ZX<|zA (pv 0)<|zA (y6 (v:=.ty "tuple") rfl T.tuple Yp rfl) zC)<|qS<|zK (kM rfl) (by rfl) T.all Jp<|zA (yS (sc:=zI st) (N:=["thing"]) (N':=["line"]) (src:=[none]) .a rfl rfl rfl (jV<|pv 0) (λ_ _ _ _=>(zR (i:=0) (show(["line"]:By).Nodup by lk) rfl (Ew rfl))) (λ_ _ _ _=>x5) (λ_ _ _ _=>(zJ r u.m<|zA (pv 0) zC))) zC),?_];let:=#[_,_,d,_,rfl,hd,T.is<|by simp[kinds],_,rfl,?_];cases d with
 |tuple ds =>
  let#[a,xs,rfl,n,l]:=hd;let#[D,sa]:=qJ A;have q:=l.length;let:=UJ #[a,rfl,#[_,n],qR (K:=K) (a:=a) (xs:=xs) (λi g j e=>∃o,j=[o]/\zz H e/\g=((ds.take i).map U1).map V.bl) #[none,rfl,zz.refl _,rfl] (zu<|⋯) ?_ ?_ ?_]
  .rintro i g j e C ⟨o,rfl,c,rfl⟩;let:=#[c.yu n,?_];rw[Zj,Zj,ZL];lia
  .rintro i x g j e y ⟨o,rfl,c,rfl⟩;let#[d,hd,s]:=l.get y;let:=#[d,x,rfl,s.same c,xI sa hd,λB t=>#[_,rfl,c.trans t,?_]];rw[xO hd,Zu];rfl
  .rintro g j e ⟨o,rfl,c,rfl⟩ p z;let:=#[p,_,rfl,za.of zB,?_];rw[q,ZS,all_map];let:=k _<|c.trans<|zD z
 |none=>let:=UB<|k _<|zz.refl _
 |bool b=>let:=UB<|k _<|zz.refl _
 |int i=>let:=UB<|k _<|zz.refl _
 |list ds=>let:=UB<|k _<|zz.refl _
 |str x=>let:=UB<|k _<|zz.refl _
 |dict Dl=>let:=UB<|k _<|zz.refl _
end Ac
namespace Ad
abbrev st:Stmt:=top 16
theorem sc:zx ["thing"] ["thing"] (zI st):=CC
include T in
theorem ok (F:xj0 K "is_label" st f fd):zc P w K mg base CA 1 f fd ["thing"] (Fw K):=by
 let:=F.ok sc λ_ _ _ _ H B Q E A h=>?_;let#[d,v,rfl,hd,u,k]:=h;let:=#[_,(zE (yG (xE<|zY (K:=K)<|zK (zZ (K:=K)) (by rfl) T.isinstance ZX<|zA (pv 0)<|zA (y6 (v:=.ty "str") rfl T.str Yq rfl) zC) (zF<|zQ xT) zU)<|zF<|zQ<|xD (ID GS GS zG (zK j8 (by rfl) T.len ZV<|zA (pv 0) zC)<|qD (v:=.int 8) rfl T.pN #[_,rfl])<|qS<|zK (kM rfl) (by rfl) T.all Jp<|zA (yS (sc:=zI st) (N:=["thing"]) (N':=["sign"]) (src:=[none]) .a rfl rfl rfl (Ms<|pv 0) (λ_ _ _ _=>(zR (i:=0) (show(["sign"]:By).Nodup by lk) rfl (Ew rfl))) (λ_ _ _ _=>x5) (λ_ _ _ _=>(ID Fk Fk zr (pv 0) zr))) zC),?_]
 let:=#[_,_,d,_,rfl,hd,T.is<|by simp[kinds],_,rfl,?_];cases d with
 |str x =>
  cases(show v=_ from hd);have C:x.length<=1000:=ZA u;let:=UB ?_;let:=#[x,rfl,zu<|⋯,_,rfl,UI (λg=>?_)<|λg=>?_]
  .let:=#[_,rfl,UI (λj=>?_)<|λj=>?_]
   .have g:1<=x.length:=by have:=ZA g;lia
    have j:x.length<=8:=by have:=ZA j;lia
    let:=#[_,rfl,BS (λi n q l=>∃o,q=[o]/\l=H/\n=(((cs x).take i).map XE).map V.bl) #[none,rfl,rfl,rfl] (zu<|⋯) ?_ ?_ ?_]
    .rintro i n q l y ⟨o,rfl,rfl,rfl⟩;rw[Zj,Zj,ZL];lia
    .rintro i c n q l s ⟨o,rfl,rfl,rfl⟩;rw[xO<|ON s,Zu];let:=#[_,_,rfl,rfl,_,rfl,?_];rw[Pa c 97 "a"<|by lk];let:=UI (λr=>?_)<|λr=>?_
     .let:=#[_,_,rfl,rfl,?_];rw[one_le c 122 "z"<|by lk];have e:XE c=decide (c<=122):=by unfold XE;rw[r];rfl
      rw[e];let:=#[_,rfl,rfl,rfl]
     .have e:XE c=false:=by unfold XE;rw[JT.mpr r];rfl
      rw[e];let:=#[_,rfl,rfl,rfl]
    .rintro n q l ⟨o,rfl,rfl,rfl⟩ p t;let:=#[p,_,rfl,za.of zB,?_];rw[yx,ZS,all_map];have e:vT (.str x)=(cs x).all XE:=by
      show(decide (1<=x.length)&&decide (x.length<=8)&&(cs x).all XE)=_;rw[Zm g,Zm j];rfl
     rw[e]at k;let:=k _<|zD t
   .have e:vT (.str x)=false:=by
     show(decide (1<=x.length)&&decide (x.length<=8)&&(cs x).all XE)=_;rw[ZE (p:=x.length<=8)<|λz=>j<|Zm<|⋯,Vt];rfl
    rw[e]at k;let:=k _<|zz.refl _
  .have e:vT (.str x)=false:=by
    show(decide (1<=x.length)&&decide (x.length<=8)&&(cs x).all XE)=_;rw[ZE (p:=1<=x.length)<|λz=>g<|Zm<|⋯];rfl
   rw[e]at k;let:=#[_,rfl,k _<|zz.refl _]
 |none=>let:=UJ<|k _<|zz.refl _
 |bool b=>let:=UJ<|k _<|zz.refl _
 |int i=>let:=UJ<|k _<|zz.refl _
 |list ds=>let:=UJ<|k _<|zz.refl _
 |tuple ds=>let:=UJ<|k _<|zz.refl _
 |dict Dl=>let:=UJ<|k _<|zz.refl _
end Ad
namespace Ae
abbrev st:Stmt:=top 17
theorem sc:zx ["thing"] ["thing"] (zI st):=CC
include T in
theorem ok (F:xj0 K "is_row" st f fd)(s:wU P w K mg base 1 "is_label" ["thing"]<|Fw K):zc P w K mg base CA 2 f fd ["thing"] (SZ K):=by
 let:=F.ok sc λ_ _ _ _ H C Q E t h=>?_;let#[d,v,rfl,hd,u,k]:=h;let:=#[_,(zF<|zQ<|xD (zK (zZ (K:=K)) (by rfl) T.isinstance ZX<|zA (pv 0)<|zA (y6 (v:=.ty "tuple") rfl T.tuple Yp rfl) zC)<|xD (xC yX (zK zN (by rfl) T.len ZV<|zA (pv 0) zC) zG<|zS _)<|xD (zJ s t.m<|zA (zV (zj:Cy _<|yr K) (pv 0) zG) zC)<|qS<|zK (zZ (K:=K)) (by rfl) T.isinstance ZX<|zA (zV (zj:Cy _<|yr K) (pv 0) zG)<|zA (y6 (v:=.ty "str") rfl T.str Yq rfl) zC),?_];let:=#[_,_,d,_,rfl,hd,T.is<|by simp[kinds],_,rfl,?_];cases d with
 |tuple ds =>
  let#[a,y,rfl,p,r]:=hd;let#[B,sa]:=qJ u;have q:=r.length;let:=UJ #[a,_,rfl,.inr p,rfl,_,rfl,UI (λc=>?_)<|λc=>?_]
  .have c:y.length=2:=by have:=ZA c;injection this with z;lia
   match ds,r,q,sa,k with
   |[l,n],⟨x0,r0,e0,d0,x1,r1,e1,d1,j⟩,_,sa,k =>
    have j:r1=[]:=j;subst j e1 e0;let:=#[a,_,_,_,rfl,rfl,p,rfl,l,_,rfl,d0,xI (i:=0) sa rfl,λA g=>#[_,rfl,UI (λo=>?_)<|λo=>?_]]
    .let:=#[a,_,_,_,rfl,rfl,g.yu p,rfl,_,_,n,_,rfl,d1.same g,T.is<|by simp[kinds],?_];have e:Xe (.tuple [l,n])=(Xq n=="str"||(Xq n=="bool"&&"str"=="int")):=by
      show(vT l&&Xb n)=_;rw[o];cases n<;>rfl
     rw[e]at k;let:=k _ g
    .have e:Xe (.tuple [l,n])=false:=by
      show(vT l&&Xb n)=_;rw[JT.mpr o];rfl
     rw[e]at k;let:=k _ g
   |[],_,hl,_,_=>let:=absurd (hl.symm.trans c) (by simp)
   |[_],_,hl,_,_=>let:=absurd (hl.symm.trans c) (by simp)
   |_::_::_::_,_,hl,_,_=>let:=absurd (hl.symm.trans c) (by simp)
  .have e:Xe (.tuple ds)=false:=by
    match ds,q with
    |[_,_],hl=>let:=absurd (Zm (by rw[hl];rfl)) c
    |[],_=>rfl
    |[_],_=>rfl
    |_::_::_::_,_=>rfl
   rw[e]at k;let:=k _<|zz.refl _
 |none=>let:=UB<|k _<|zz.refl _
 |bool b=>let:=UB<|k _<|zz.refl _
 |int i=>let:=UB<|k _<|zz.refl _
 |list ds=>let:=UB<|k _<|zz.refl _
 |str x=>let:=UB<|k _<|zz.refl _
 |dict Dl=>let:=UB<|k _<|zz.refl _
end Ae
namespace Af
abbrev st:Stmt:=top 19
theorem sc:zx ["thing"] ["thing"] (zI st):=CC
include T in
theorem ok (F:xj0 K "is_parents" st f fd):zc P w K mg base CA 1 f fd ["thing"] (jk K):=by
 let:=F.ok sc λ_ _ _ _ H D Q E B h=>?_;let#[a,c,rfl,d,C,un,k]:=h;let:=#[_,(zE (yG (PW.pt<|vD (xE<|zY (K:=K)<|zK (zZ (K:=K)) (by rfl) T.isinstance ZX<|zA (pv 0)<|zA (y6 (v:=.ty "tuple") rfl T.tuple Yp rfl) zC)<|kN<|xE<|zY (K:=K)<|zK (kM rfl) (by rfl) T.all Jp<|zA (yS (sc:=zI st) (N:=["thing"]) (N':=["name"]) (src:=[none]) .a rfl rfl rfl (jV<|pv 0) (λ_ _ _ _=>(zR (i:=0) (show(["name"]:By).Nodup by lk) rfl (Ew rfl))) (λ_ _ _ _=>x5) (λ_ _ _ _=>(zK (zZ (K:=K)) (by rfl) T.isinstance ZX<|zA (pv 0)<|zA (y6 (v:=.ty "str") rfl T.str Yq rfl) zC))) zC) (zF<|zQ xT) zU) (zF<|zQ<|xD (xC GS (zK zN (by rfl) T.len ZV<|zA (pv 0) zC) (qD (v:=.int 2) rfl T.nY #[_,rfl])<|zS _)<|qS<|xC yX (zK NK (by rfl) T.len ZV<|zA (zW (FP (K:=K) rfl) (by rfl) T.set PyProof.Rows.boot_set (zA (pv 0) zC)) zC) (zK zN (by rfl) T.len ZV<|zA (pv 0) zC) (zS _))),?_]
 let:=#[_,_,.tuple<|c.map .str,_,rfl,Dt.dw #[a,_,rfl,d,zy.strs _],T.is<|by simp[kinds],_,rfl,UB ?_];let:=#[a,rfl,#[_,d],qR (K:=K) (a:=a) (xs:=c.map V.str) (λi g j e=>∃o,j=[o]/\e=H/\g=Ev i (V.bl true)) #[none,rfl,rfl,rfl] (zu (by rw[Zj];lia)) ?_ ?_ ?_]
 .rintro i g j e z ⟨o,rfl,rfl,rfl⟩;let:=#[d,Vb Vk]
 .rintro i x g j e l ⟨o,rfl,rfl,rfl⟩;rw[Zz]at l;let#[p,A,rfl]:=ZO.mp l;let:=#[_,_,.str p,_,rfl,rfl,T.is<|by simp[kinds],_,rfl,rfl,?_];let:=(List.replicate_succ' (n:=i) (a:=V.bl true)).symm
 .rintro g j e ⟨o,rfl,rfl,rfl⟩ p y;rw[Zj,show Ev c.length (V.bl true)=(Ev c.length true).map V.bl by rw[List.map_replicate]];let:=#[p,_,rfl,za.of zB,?_];have u:=zD (o:=.lst<|(Ev c.length true).map V.bl) y;have s:(Ev c.length true).all id=true:=by rw[ZQ];intro b t;let:=List.eq_of_mem_replicate t
  rw[s];let:=#[_,rfl,UB #[a,_,rfl,.inr<|u.yu d,_,rfl,?_]];rw[Zj,show decide (((c.length:Nat):Int)<=2)=true from Zm ⋯];let:=UJ #[a,c,rfl,.inr<|u.yu d,⋯,λq n2=>?_];have r:=zD (o:=FJ P w q<|AxS.uniq c) n2;let:=#[q,_,rfl,zB,a,_,rfl,.inr<|(u.trans r).yu d,rfl,?_];rw[un,Zj,Zm rfl];let:=k _<|u.trans r
end Af
namespace Ag
abbrev st:Stmt:=top 18
theorem sc:zx ["thing","labels"] ["thing"] (zI st):=CC
include T in
theorem ok (F:xj0 K "is_rows" st f fd)(Z:wU P w K mg base 2 "is_row" ["thing"]<|SZ K):zc P w K mg base CA 3 f fd ["thing"] (lO K):=by
 let:=F.ok sc λ_ _ _ _ H vs Q E Y h=>?_;let#[d,v,rfl,hd,sm,B,k]:=h;let:=#[_,(zE (yG (PW.pt<|vD (xE<|zY (K:=K)<|zK (zZ (K:=K)) (by rfl) T.isinstance ZX<|zA (pv 0)<|zA (y6 (v:=.ty "tuple") rfl T.tuple Yp rfl) zC)<|kN<|xE<|zY (K:=K)<|zK (kM rfl) (by rfl) T.all Jp<|zA (yS (sc:=zI st) (N:=["thing","labels"]) (N':=["row"]) (src:=[none]) .a rfl rfl rfl (jV<|pv 0) (λ_ _ _ _=>(zR (i:=0) (show(["row"]:By).Nodup by lk) rfl (Ew rfl))) (λ_ _ _ _=>x5) (λ_ _ _ _=>(zJ Z Y.m<|zA (pv 0) zC))) zC) (zF<|zQ xT) zU) (zE (Fn (sc:=zI st) (N:=["thing","labels"]) (N':=["row"]) (src:=[none]) .a rfl rfl rfl (jV<|pv 0) (λ_ _ _ _=>(zR (i:=0) (show(["row"]:By).Nodup by lk) rfl (Ew rfl))) (λ_ _ _ _=>x5) (λ_ _ _ _=>(zV (zj:Cy _<|yr K) (pv 0) zG)) sc.nd rfl (Ew rfl) (k:=1)) (zF<|zQ<|xC (PB Y.units) (pv 1) (zK (B0 rfl) (by rfl) T.sorted PyProof.Rows.boot_sorted<|zA (zW (FP (K:=K) rfl) (by rfl) T.set PyProof.Rows.boot_set (zA (pv 1) zC)) zC) (zS _)))),?_]
 let:=#[_,_,d,_,rfl,hd,T.is<|by simp[kinds],_,rfl,?_];cases d with
 |tuple ds =>
  have B:=B ds rfl;let#[a,xs,rfl,I,L]:=hd;let#[sl,sa]:=qJ sm;have U:=L.length;let:=UB #[a,rfl,#[_,I],qR (K:=K) (a:=a) (xs:=xs) (λi g n c=>∃o,n=[o]/\zz H c/\g=((ds.take i).map Xe).map V.bl) #[none,rfl,zz.refl _,rfl] (zu<|⋯) ?_ ?_ ?_]
  .rintro i g n c hi ⟨o,rfl,s,rfl⟩;let:=#[s.yu I,?_];rw[Zj,Zj,ZL];lia
  .rintro i x g n c r ⟨o,rfl,s,rfl⟩;let#[d,hd,J]:=L.get r;let:=#[d,x,rfl,J.same s,xI sa hd,λH3 e3=>#[_,rfl,s.trans e3,?_]];rw[xO hd,Zu];rfl
  .rintro g n c ⟨o,rfl,s,rfl⟩ p np;let:=#[p,_,rfl,za.of zB,?_];rw[U,ZS,all_map];have u:=s.trans<|zD (o:=.lst<|(ds.map Xe).map V.bl) np;cases q:ds.all Xe with
   |false =>
    have e:BN (.tuple ds)=false:=by show(ds.all Xe&&_)=false;rw[q];rfl
    rw[e]at k;let:=#[_,rfl,UJ<|k _ u]
   |true =>
    let:=#[_,rfl,UB ?_];show MK _ _ _ _ (upd c p<|.lst<|(ds.map Xe).map V.bl);generalize upd c p (.lst<|(ds.map Xe).map V.bl)=G at u;have C:=wQ.same u _ _ L;let:=#[a,rfl,#[_,u.yu I],qR (K:=K) (a:=a) (xs:=xs) (λi g n c=>∃o,n=[o]/\c=G/\g=((ds.take i).map U8).map V.str) #[none,rfl,rfl,rfl] (zu<|⋯) ?_ ?_ ?_]
    .rintro i g n c hi ⟨o,rfl,rfl,rfl⟩;let:=#[u.yu I,?_];rw[Zj,Zj,ZL];lia
    .rintro i x g n c r ⟨o,rfl,rfl,rfl⟩;let#[d,hd,J]:=C.get r;let#[t,y,rfl,ht,_]:=Nr J<|ZQ.mp q d<|Zy hd;let:=#[t,_,_,_,rfl,rfl,ht,rfl,_,rfl,rfl,?_];have e1:ds.take (i+1)=ds.take i++[d]:=by rw[YK,hd];rfl
     rw[e1,Zu,Zu];rfl
    .rintro g n c ⟨o,rfl,rfl,rfl⟩ l nl;rw[U,ZS];have v1:=zD (o:=.lst<|(ds.map U8).map V.str) nl;have ul:=AxS.pQ _ (ds.map U8) rfl;rw[Zj]at ul;let:=#[l,ds.map U8,rfl,.inl<|za.of zB,by rw[Zj];lia,λS n2=>?_];have v2:=v1.trans<|zD (o:=FJ P w S<|AxS.uniq<|ds.map U8) n2;let:=#[S,_,rfl,zB,⋯,λl3 A n3 X O=>?_];have v3:=v2.trans<|zD (o:=.lst<|A.map V.str) n3;have D:∀x∈ds.map U8,Ei x=true:=λx r=>by
      let#[d,hd,rfl]:=Zo.mp r;let#[j,hj]:=List.getElem?_of_mem hd;let#[z,hz,dz]:=C.at hj;let#[_,_,_,_,hl]:=Nr dz<|ZQ.mp q d hd;let:=Bv hl
     have R:∀x∈A,Ei x=true:=λx r=>D x<|Rw<|X.mem_iff.mp r;have M:=(((zD (o:=FJ P w S<|AxS.uniq<|ds.map U8) n2).trans<|zD (o:=.lst<|A.map V.str) n3)) _ _<|zB (H:=c) (a:=l) (o:=.lst<|(ds.map U8).map V.str);let:=#[.list<|(ds.map U8).map .str,.list<|A.map .str,#[l,_,rfl,za.of M,zy.strs _],#[l3,_,rfl,za.of zB,zy.strs _],(yT D).1,(yT R).1,?_];have ev:EG (.list<|(ds.map U8).map .str) (.list<|A.map .str)=decide (ds.map U8=A):=uP _ _;rw[ev,MD X O];have e:BN (.tuple ds)=Xu (ds.map U8):=by show(ds.all Xe&&_)=_;rw[q];rfl
     rw[e]at k;let:=k _<|u.trans v3
 |none=>let:=UJ<|k _<|zz.refl _
 |bool b=>let:=UJ<|k _<|zz.refl _
 |int i=>let:=UJ<|k _<|zz.refl _
 |list ds=>let:=UJ<|k _<|zz.refl _
 |str x=>let:=UJ<|k _<|zz.refl _
 |dict Dl=>let:=UJ<|k _<|zz.refl _
end Ag
namespace Ah
abbrev st:Stmt:=top 20
theorem sc:zx ["word","parts"] ["word","parts"] (zI st):=CC
include T in
theorem ok (F:xj0 K "is_leaf" st f fd)(o:wU P w K mg base 3 "is_lines" ["thing"]<|Fx K):zc P w K mg base CA 4 f fd ["word","parts"] (qm K U6):=by
 let:=F.ok sc λ_ _ _ _ H B Q E t h=>?_;let#[word,a,b,y,rfl,l,i,sa,q,s,k]:=h;let:=#[_,(zF<|zQ<|xD (xC yX (pv 0) zr<|zS _)<|xD (xC yX (zK zN (by rfl) T.len ZV<|zA (pv 1) zC) zG<|zS _)<|qS<|zJ o t.m<|zA (zV (zj:Cy _<|yr K) (pv 1) zG) zC),?_];have n:=i.length;let:=#[rfl,_,rfl,UI (λc=>?_)<|λc=>?_]
 .have c:V.str word=V.str "leaf":=ZA c;have c:word="leaf":=by injection c
  let:=#[a,_,rfl,.inr l,rfl,_,rfl,UI (λg=>?_)<|λg=>?_]
  .have g:y.length=1:=by have:=ZA g;injection this with z;lia
   have d:b[0]?=some (NG b 0):=by
    have:b[0]?=some (b[0]'⋯):=Zv _;unfold NG;rw[this];rfl
   let#[x,u,r]:=i.at d;let:=#[a,_,_,_,rfl,rfl,l,xX (j:=0) u,NG b 0,_,rfl,r,xI sa d,λA v=>?_];have e:U6 word b=j5 (NG b 0):=by
    unfold U6;rw[Zm c,Zm<|show b.length=1 by lia];rfl
   rw[e]at k;let:=k _ v
  .have e:U6 word b=false:=by
    unfold U6;rw[ZE (p:=b.length=1)<|λz=>g<|Zm (by rw[n,z];rfl),VJ,Vt]
   rw[e]at k;let:=k _<|zz.refl _
 .have e:U6 word b=false:=by
   unfold U6;rw[ZE (p:=word="leaf")<|λz=>c<|Zm<|by rw[z],VJ]
  rw[e]at k;let:=k _<|zz.refl _
end Ah
namespace Ai
abbrev st:Stmt:=top 21
theorem sc:zx ["word","parts"] ["word","parts"] (zI st):=CC
include T in
theorem ok (F:xj0 K "is_tree" st f fd)(q:wU P w K mg base 3 "is_rows" ["thing"]<|lO K):zc P w K mg base CA 4 f fd ["word","parts"] (qm K U9):=by
 let:=F.ok sc λ_ _ _ _ H D Q E v h=>?_;let#[word,a,b,B,rfl,n,l,sa,r,i,k]:=h;let:=#[_,(zF<|zQ<|xD (xC yX (pv 0) zr<|zS _)<|xD (xC yX (zK zN (by rfl) T.len ZV<|zA (pv 1) zC) zG<|zS _)<|qS<|zJ q v.m<|zA (zV (zj:Cy _<|yr K) (pv 1) zG) zC),?_];have o:=l.length;let:=#[rfl,_,rfl,UI (λc=>?_)<|λc=>?_]
 .have c:V.str word=V.str "tree":=ZA c;have c:word="tree":=by injection c
  let:=#[a,_,rfl,.inr n,rfl,_,rfl,UI (λg=>?_)<|λg=>?_]
  .have g:B.length=1:=by have:=ZA g;injection this with z;lia
   have d:b[0]?=some (NG b 0):=by
    have:b[0]?=some (b[0]'⋯):=Zv _;unfold NG;rw[this];rfl
   let#[x,y,s]:=l.at d;let:=#[a,_,_,_,rfl,rfl,n,xX (j:=0) y,NG b 0,_,rfl,s,xI sa d,λt u=>i _ (Zy d) t u,λC A=>?_];have e:U9 word b=BN (NG b 0):=by
    unfold U9;rw[Zm c,Zm<|show b.length=1 by lia];rfl
   rw[e]at k;let:=k _ A
  .have e:U9 word b=false:=by
    unfold U9;rw[ZE (p:=b.length=1)<|λz=>g<|Zm (by rw[o,z];rfl),VJ,Vt]
   rw[e]at k;let:=k _<|zz.refl _
 .have e:U9 word b=false:=by
   unfold U9;rw[ZE (p:=word="tree")<|λz=>c<|Zm<|by rw[z],VJ]
  rw[e]at k;let:=k _<|zz.refl _
end Ai
namespace Aj
abbrev st:Stmt:=top 22
theorem sc:zx ["word","parts"] ["word","parts"] (zI st):=CC
include T in
theorem ok (F:xj0 K "is_note" st f fd)(i:wU P w K mg base 1 "is_parents" ["thing"]<|jk K)(l:wU P w K mg base 2 "is_line" ["thing"]<|ME K):zc P w K mg base CA 3 f fd ["word","parts"] (nU K):=by
 let:=F.ok sc λ_ _ _ _ H t Q E d h=>?_;let#[a,b,x,p,y,rfl,c,n,o,un,e,k]:=h;let:=#[_,(zE (yG (PW.pt<|vD (zO PD (pv 0) zr<|zS _)<|kN<|zO PD (zK zN (by rfl) T.len ZV<|zA (pv 1) zC) zG<|zS _) (zF<|zQ xT) zU)<|zF<|zQ<|xD (zK (zZ (K:=K)) (by rfl) T.isinstance ZX<|zA (zV (zj:Cy _<|yr K) (pv 1) zG)<|zA (y6 (v:=.ty "str") rfl T.str Yq rfl) zC)<|xD (zJ i d.m<|zA (zV (zj:Cy _<|yr K) (pv 1) zG) zC)<|qS<|zJ l d.m<|zA (zV (zj:Cy _<|yr K) (pv 1) zG) zC),?_]
 let:=#[rfl,_,rfl,SO rfl ?_];let:=#[a,_,rfl,.inr c,rfl,_,rfl,SO rfl ?_];let:=#[a,_,_,_,rfl,rfl,c,xX (j:=0) rfl,_,_,.str x,_,rfl,rfl,T.is<|by simp[kinds],_,rfl,UJ ?_];let:=#[a,_,_,_,rfl,rfl,c,xX (j:=1) rfl,b,p,rfl,n,o,un,λr g=>#[_,rfl,UJ ?_]];have ll:y.length<=1000:=by
  have z:(decide (y.length<=20)&&(cs y).all UQ)=true:=e;rw[ZB]at z;have:=ZA z.1;lia
 let:=#[a,_,_,_,rfl,rfl,g.yu c,xX (j:=2) rfl,.str y,_,rfl,rfl,Zm ll,λs q=>?_];rw[show U1 (.str y)=true from e];let:=k _<|g.trans q
end Aj
namespace Ak
abbrev st:Stmt:=top 23
theorem sc:zx ["thing","word","parts"] ["thing"] (zI st):=CC
include T in
theorem ok (F:xj0 K "is_thing" st f fd)(Z:wU P w K mg base 4 "is_leaf" ["word","parts"]<|qm K U6)(QJ:wU P w K mg base 4 "is_tree" ["word","parts"]<|qm K U9)(QK:wU P w K mg base 3 "is_note" ["word","parts"]<|nU K) :
  zc P w K mg base CA 5 f fd ["thing"] (pR K):=by
 let:=F.ok sc λ_ _ _ _ H vs Q E M h=>?_;let#[t,v,rfl,hd,#[_,g,X,B],k]:=h;have N:=Dt.dw hd;let#[a,r0,rfl,aa]:=kC hd;have p:∃c,t.dat=.tuple (.str t.word::c):=by cases t<;>let:=#[_,rfl]
 let#[c,S]:=p;rw[S]at X B N g;let#[n1,n2]:=B _ rfl;let#[a',xs,e,G,ha]:=id N;let:=#[_,(zE (yG (PW.pt<|vD (xE<|zY (K:=K)<|zK (zZ (K:=K)) (by rfl) T.isinstance ZX<|zA (pv 0)<|zA (y6 (v:=.ty "tuple") rfl T.tuple Yp rfl) zC)<|vD (zO yX (zK zN (by rfl) T.len ZV<|zA (pv 0) zC) zG<|zS _)<|kN<|xE<|zY (K:=K)<|zK (zZ (K:=K)) (by rfl) T.isinstance ZX<|zA (zV (zj:Cy _<|yr K) (pv 0) zG)<|zA (y6 (v:=.ty "str") rfl T.str Yq rfl) zC) (zF<|zQ xT) zU)<|zE (Cu (i:=1) sc.nd<|zV (zj:Cy _<|yr K) (pv 0) zG)<|zE (Cu (i:=2) sc.nd<|y7 (iU:FH _<|SW K) (pv 0) (yZ zG) jO)<|zF<|zQ<|SU (zJ Z M.m<|zA (pv 1)<|zA (pv 2) zC)<|SU (zJ QJ M.m<|zA (pv 1)<|zA (pv 2) zC)<|qS<|zJ QK M.m<|zA (pv 1)<|zA (pv 2) zC),?_]
 cases e;let#[sl,sa]:=qJ X;let#[x0,r,rfl,s,l]:=ha;let:=#[_,_,_,_,rfl,N,T.is<|by simp[kinds],_,rfl,UB ?_];let:=#[a,_,rfl,.inr G,rfl,_,rfl,O1 (λz=>by injection z with z;simp at z;lia) ?_];let:=#[a,_,_,_,rfl,rfl,G,xX (j:=0) rfl,_,_,.str t.word,_,rfl,s,T.is<|by simp[kinds],_,rfl,UB ?_];cases(show x0=_ from s);let:=#[a,_,_,_,rfl,rfl,G,xX (j:=0) rfl,?_];let:=#[_,rfl,a,_,_,rfl,rfl,G,λq nq=>?_];rw[uK<|∅];have I:=zD (o:=.tup r) nq;have D:=yh.of (K:=K)<|zB (H:=H) (a:=q) (o:=.tup r);show XZ 2 (.ref q) _ (upd H q<|.tup r) _;generalize upd H q (.tup r)=H1 at I D ⊢;have C:yD c=true:=by
  have sa:(small (.str t.word)&&yD c)=true:=sa;rw[ZB]at sa;let:=sa.2
 have u:c.length<=63:=by have:=n1;simp at this;lia
 have A:∀e∈c,∀R,e=.tuple R->R.length<=63:=λe he=>n2 e<|Zp _ he;let:=#[t.word,q,c,r,rfl,D,wQ.same I _ _ l,C,u,A,λH2 J=>#[_,rfl,?_]];have g:(U6 t.word c||(U9 t.word c||Px t.word c))=true:=g;cases q0:U6 t.word c with
 |true=>let:=UJ<|k _<|I.trans J
 |false =>
  rw[q0,Ul]at g;have d:=I.trans J;let:=UB #[t.word,q,c,r,rfl,J.yu D,wQ.same d _ _ l,C,u,A,λH3 L=>#[_,rfl,?_]];cases q1:U9 t.word c with
  |true=>let:=UJ<|k _<|d.trans L
  |false =>
   rw[q1,Ul]at g;unfold Px at g;simp only[ZB,Z8]at g;let#[Y,_,_,n,ld]:=g;cases t with
   |leaf ls=>let:=absurd Y (by show("leaf":Str)≠"note";lk)
   |tree rs=>let:=absurd Y (by show("tree":Str)≠"note";lk)
   |note x ps y =>
    have ed:[Ey x,.tuple<|ps.map .str,.str y]=c:=by injection S with z;injection z
    subst ed;let#[v1,r1,rfl,h1,v2,r2,rfl,#[b,ys,rfl,hb,hy],v3,r3,rfl,h3,e]:=l;cases(show v1=_ from h1);cases(show v3=_ from h3);cases(show r3=[] from e);have n:((ps.map Ey).all Xb&&(decide ((ps.map Ey).length<=2)&&decide ((AxS.uniq<|(ps.map Ey).map Kp).length=(ps.map Ey).length)))=true:=n;have O:(ps.map Ey).map Kp=ps:=by rw[ZK];let:=JK _
    rw[O,Zj]at n;simp only[ZB,Z8]at n;have U:=Km hy (by rw[List.all_map,ZQ];let:=λ_ _=>rfl);rw[O]at U;subst U;let:=UB #[q,b,x,ps,y,rfl,(J.trans L).yu D,(d.trans L).yu hb,n.2.1,n.2.2,ld,λH4 s4=>k _<|(d.trans L).trans s4]
end Ak
namespace Al
abbrev st:Stmt:=top 24
theorem sc:zx ["thing"] ["thing"] (zI st):=CC
include T in
theorem ok (F:xj0 K "need_thing" st f fd)(b:wU P w K mg base 5 "is_thing" ["thing"]<|pR K):zc P w K mg base CA 6 f fd ["thing"] (lY K):=by
 let:=F.ok sc λ_ _ _ _ H i Q E c h=>?_;let#[t,v,rfl,hd,g,k]:=h;let:=#[_,(zE (yG (xE<|zY (K:=K)<|zJ b c.m<|zA (pv 0) zC) (zF uH) zU)<|zF<|zQ<|pv 0),?_]
 let:=#[t,v,rfl,hd,g,λe d=>#[_,rfl,UB<|k _ d]]
end Al
namespace Am
abbrev st:Stmt:=top 25
theorem sc:zx ["thing"] ["thing"] (zI st):=CC
include T in
theorem ok (F:xj0 K "letter_of" st f fd):zc P w K mg base CA 1 f fd ["thing"] (IE K):=by
 let:=F.ok sc λ_ _ _ _ H d Q E c h=>?_;let#[v,t,rfl,hd,k]:=h;let#[a,r,rfl,b]:=kC hd;let:=#[_,(zF<|zQ<|Se (qD (v:=.ref aL) rfl T.LETTERS rfl) (zV (zj:Cy _<|yr K) (pv 0) zG)<|λ_ _=>rfl),?_];let:=#[a,_,_,_,rfl,rfl,b,uI _ _,_,_,Ec t.word,_,rfl,rfl,T.kd,KU t,k]
end Am
namespace Ao
abbrev st:Stmt:=top 26
theorem sc:zx ["rows","parts","label","name"] ["rows"] (zI st):=CC
theorem vq:∀rs:Df,(z7 rs).length=2*rs.length
 |[]=>rfl
 |r::rs=>by
  show(z7 rs).length+2=2*(rs.length+1);rw[vq rs];lia
include T in
theorem ok (F:xj0 K "tree_parts" st f fd):zc P w K mg base CA 1 f fd ["rows"] (XS K):=by
 let:=F.ok sc λ_ _ _ _ H J Q E I h=>?_;let#[v,c,rfl,hd,hl,k]:=h;let#[a,xs,rfl,p,q]:=hd;have n:xs.length=c.length:=by rw[q.length,Zj]
 let:=#[_,(zE (Cu (i:=1) sc.nd<|yA zC)<|zE (yM Ep rfl (jV<|pv 0) (Xg rfl<|yO (zR (i:=2) sc.nd rfl<|Ew rfl)<|yO (zR (i:=3) sc.nd rfl<|Ew rfl) kS)<|zE (zX<|qW Z1 Yh Yi yU (pv 1)<|zA (pv 2) zC)<|zF<|zX<|qW Z1 Yh Yi yU (pv 1)<|zA (pv 3) zC)<|zF<|zQ<|pv 1),?_]
 let:=#[ZP _,λl nl=>?_];let:=#[a,rfl,#[_,(zD nl).yu p],Io (K:=K) (a:=a) (xs:=xs) (λi j g=>∃(x y:Option V),j=[some<|.ref a,some<|.ref l,x,y]/\g=upd H l (.lst<|(z7<|c.take i).map V.str)) #[none,none,rfl,rfl] (λi j g _ ⟨_,_,_,e⟩=>by rw[e];let:=(zD nl).yu p) ?_ ?_]
 .rintro i x j g D B z t s ⟨C,G,rfl,rfl⟩;let#[r,b,o,rfl,u]:=sS q z;have A:i<c.length:=(ZC.mp o).1;have d:((z7<|c.take i).map V.str).length<=2000:=by
   rw[Zj,vq,ZL];lia
  let:=s #[b,_,rfl,(zD nl).yu u,rfl,_,_,rfl,_,_,rfl,rfl,?_];let:=#[.inl #[rfl,_,za.of zB],l,_,_,rfl,rfl,zB,Ve d (by rw[Y3];decide),?_];let:=#[.inl #[rfl,_,za.of zB],l,_,_,rfl,rfl,zB,?_,?_]
  .rw[Zq,Yc];let:=Ve (Jd d) (by rw[Y3];decide)
  .let:=t.nx _ _ #[_,_,rfl,?_];rw[Xm,Xm]
   congr 2
   rw[YK,o];show _=(z7<|c.take i++[r]).map V.str;rw[j4,Zu];show _=(z7<|c.take i).map V.str++[V.str r.1,V.str r.2];rw[Yk];rfl
 .rintro j g ⟨C,G,rfl,rfl⟩;let:=?_;rw[n,ZS];let:=k l nl
end Ao
theorem WT {c A B:Prop} [Decidable c](hc:c)(h:A):if decide c=true then A else B:=by
 rw[Zm hc];let:=UJ h
theorem O1 {c A B:Prop} [Decidable c](hc:¬c)(h:B):if decide c=true then A else B:=by
 rw[ZE hc];let:=UB h
theorem CW {n:Nat}(h:n<=100000):(dig n).length<=10:=J0 ⋯ ∅ (by
 have:(10:Int) ^ 10=10000000000:=∅
 rw[this];lia)
theorem Bg {n:Nat}(h:n<=1900):((n:Int)).natAbs.log2<1920:=by
 rw[Uc];let:=Ve (Nat.log2_le_self n) ⋯
theorem NV {rs:Df}(g:(Th.tree rs).Good):rs.length<=1000:=by
 have h:=g.1;have e:(z7 rs).length<=1000:=h;rw[Ao.vq]at e;lia
theorem NU {x:Str}{ps:By}{w:Str}(g:(Th.note x ps w).Good):ps.length<=1000:=by
 have h:=g.1;have e:([x,dig ps.length]++ps++[w]).length<=1000:=h;simp at e;lia
namespace Ap
abbrev st:Stmt:=top 27
theorem sc:zx ["thing","parents"] ["thing"] (zI st):=CC
include T in
theorem ok (F:xj0 K "parts_of" st f fd)(B:wU P w K mg base 1 "tree_parts" ["rows"]<|XS K):zc P w K mg base CA 2 f fd ["thing"] (Nv K):=by
 let:=F.ok sc λ_ _ _ _ H I Q E C h=>?_;let#[v,t,rfl,hd,g,k]:=h;let:=#[_,(zE (yG (zO yX (zV (zj:Cy _<|yr K) (pv 0) zG) zr<|zS _) (zF<|zQ<|zW yI (by rfl) T.list Yd<|zA (zV (zj:Cy _<|yr K) (pv 0) zG) zC) zU)<|zE (yG (zO yX (zV (zj:Cy _<|yr K) (pv 0) zG) zr<|zS _) (zF<|zQ<|zJ B C.m<|zA (zV (zj:Cy _<|yr K) (pv 0) zG) zC) zU)<|zE (Cu (i:=1) sc.nd<|zV (zj:Cy _<|yr K) (pv 0) zG)<|zF<|zQ<|zP j6 (zP j6 (yA<|zA (zV (zj:Cy _<|yr K) (pv 0) zG)<|zA (zW qZ (by rfl) T.str Yq<|zA (zK zN (by rfl) T.len ZV<|zA (pv 1) zC) zC) zC)<|zW yI (by rfl) T.list Yd<|zA (pv 1) zC)<|yA<|zA (zV (zj:Cy _<|yr K) (pv 0) zG) zC),?_]
 cases t with
 |leaf ls =>
  let#[a,b,rfl,c,d]:=xU hd;let:=#[a,_,_,_,rfl,rfl,c,rfl,rfl,_,rfl,WT rfl ?_];let:=#[a,_,_,_,rfl,rfl,c,rfl,b,_,rfl,.inr d,λl nl=>k l _ (zD nl) nl zB]
 |tree rs =>
  let#[a,b,rfl,c,d]:=kU hd;let:=#[a,_,_,_,rfl,rfl,c,rfl,rfl,_,rfl,O1 (by lk) ?_];let:=#[a,_,_,_,rfl,rfl,c,rfl,rfl,_,rfl,WT rfl ?_];let:=#[a,_,_,_,rfl,rfl,c,rfl,_,rs,rfl,d,NV g,λl nl=>k l _ (zD nl) nl zB]
 |note x ps y =>
  let#[a,b,rfl,c,d]:=uA hd;have G:=NU g;let:=#[a,_,_,_,rfl,rfl,c,rfl,rfl,_,rfl,O1 (by lk) ?_];let:=#[a,_,_,_,rfl,rfl,c,rfl,rfl,_,rfl,O1 (by lk) ?_];let:=#[a,_,_,_,rfl,rfl,c,rfl,?_];let:=#[a,_,_,_,rfl,rfl,c,rfl,b,_,rfl,.inr d,_,rfl,?_,UC 2,λn n1=>?_]
  .rw[Zj];let:=Bg ⋯
  have u:=zD (o:=.lst [V.str x,V.str<|EL<|LB (((ps.map V.str).length:Nat):Int)]) n1;let:=#[b,_,rfl,.inr<|u.yu d,λp n2=>?_];have D:=u.trans<|zD (o:=.lst<|ps.map V.str) n2;have e:n≠p:=zL zB n2;let:=#[n,p,_,_,rfl,rfl,(by rw[zH e];let:=zB),zB,(by rw[Zj];let:=zu (by simp only[ZH,YN];lia)),λq n3=>?_];have z:=D.trans<|zD (o:=.lst<|[V.str x,V.str<|EL<|LB (((ps.map V.str).length:Nat):Int)]++ps.map V.str) n3;let:=#[a,_,_,_,rfl,rfl,z.yu c,rfl,UC 1,λr s=>?_];have A:=z.trans<|zD (o:=.lst [V.str y]) s;have j:q≠r:=zL zB s;let:=#[q,r,_,_,rfl,rfl,(by rw[zH j];let:=zB),zB,?_,λl5 n5=>?_]
  .rw[Zq,Zj];let:=zu (by simp only[ZH,YN];lia)
  .let:=k l5 _ (A.trans<|zD n5) (A.free n5) ?_;rw[zB]
   congr 2
   show _=([x,dig ps.length]++ps++[y]).map V.str;rw[Zu,Zu];show([V.str x,V.str<|EL<|LB (((ps.map V.str).length:Nat):Int)]++ps.map V.str)++[V.str y]=_;rw[Zj];rfl
end Ap
namespace Aq
abbrev st:Stmt:=top 28
theorem sc:zx ["part"] ["part"] (zI st):=CC
include T in
theorem ok (F:xj0 K "counted" st f fd):zc P w K mg base CA 1 f fd ["part"] Bm:=by
 let:=F.ok sc λ_ _ _ _ H e Q E c h=>?_;let#[x,rfl,hl,k]:=h;let:=#[_,(zF<|zQ<|zP jJ (zP jJ (zW qZ (by rfl) T.str Yq<|zA (zK j8 (by rfl) T.len ZV<|zA (pv 0) zC) zC) zr)<|pv 0),?_];have d:=CW (n:=x.length) ⋯;have b:(":":Str).length=1:=by lk
 let:=#[x,rfl,zu<|⋯,_,rfl,Bg<|⋯,_,_,rfl,rfl,zu (by rw[b];let:=Z2 (Nat.add_le_add_right d 1)<|∅),_,_,rfl,rfl,zu ?_,k];show(dig x.length++":").length+x.length<=_;rw[yg,b];lia
end Aq
namespace Ar
abbrev st:Stmt:=top 29
theorem sc:zx ["thing"] ["thing"] (zI st):=CC
theorem Ho {x:Str}(h:x.length<=1000):(counted x).length<=1011:=by
 have d:=CW (n:=x.length) ⋯;have b:(":":Str).length=1:=by lk
 show(dig x.length++":"++x).length<=_;rw[yg,yg,b];lia
include T in
theorem ok (F:xj0 K "spelled" st f fd)(A:wU P w K mg base 1 "letter_of" ["thing"]<|IE K)(s:wU P w K mg base 2 "parts_of" ["thing"]<|Nv K)
  (u:wU P w K mg base 1 "counted" ["part"] Bm):zc P w K mg base CA 3 f fd ["thing"] (GQ K):=by
 let:=F.ok sc λ_ _ _ _ H Y Q E n h=>?_;let#[v,t,rfl,hd,g,k]:=h;let:=#[_,(zF<|zQ<|zP jJ (zJ A n.m<|zA (pv 0) zC)<|qW Y0 VT VU BY zr<|zA (yS (sc:=zI st) (N:=["thing"]) (N':=["part"]) (src:=[none]) .a rfl rfl rfl (yR<|zJ s n.m<|zA (pv 0) zC) (λ_ _ _ _=>(zR (i:=0) (show(["part"]:By).Nodup by lk) rfl (Ew rfl))) (λ_ _ _ _=>x5) (λ_ _ _ _=>(zJ u n.m<|zA (pv 0) zC))) zC),?_];let:=#[v,t,rfl,hd,rfl,v,t,rfl,hd,g,λl r M nl hl=>?_];have R:(t.parts.map V.str).length<=1000:=by rw[Zj];let:=g.1
 let:=#[l,rfl,#[_,za.of hl],kE (K:=K) (a:=l) (xs:=t.parts.map V.str) (λi d j c=>∃x,j=[x]/\c=r/\d=((t.parts.take i).map counted).map V.str) #[none,rfl,rfl,rfl] (zu<|⋯) (λi d j c b ⟨x,_,e,D⟩=>#[by rw[e];let:=za.of hl,?_]) ?_ ?_]
 .rw[D,Zj,Zj,ZL];let:=Nat.min_le_left _ _
 .rintro i x d j c b ⟨O,rfl,rfl,rfl⟩;rw[Zz]at b;cases q:t.parts[i]? with
  |none=>rw[q]at b;cases b
  |some p =>
   rw[q]at b;have b:V.str p=x:=Option.some.inj b;subst b;have G:=g.2 p<|Zy q;let:=#[p,rfl,G.len,_,rfl,rfl,?_];rw[YK,q,Zu,Zu];rfl
 .rintro d j c ⟨O,rfl,rfl,rfl⟩ p L;have e:(t.parts.take (t.parts.map V.str).length)=t.parts:=by rw[Zj,ZS]
  rw[e];have B:∀y∈t.parts.map counted,y.length<=1011:=λy I=>by
   let#[z,J,rfl]:=Zo.mp I;let:=Ho (g.2 z J).len
  have S:=MJ _ B;have U:(t.parts.map counted).length<=1000:=by rw[Zj];let:=g.1
  have o:("":Str).length=0:=by lk
  have X:t.letter.length=1:=by rw[yx,jL];rfl
  let:=#[_,p,t.parts.map counted,rfl,rfl,.inl<|za.of zB,by rw[o];lia,_,_,rfl,rfl,?_,?_]
  .have:=StrLaws.join_length_le ""<|t.parts.map counted;have C:Lh "" (t.parts.map counted)=Ml "" (t.parts.map counted):=EZ _ _;rw[C];rw[o]at this;let:=zu ⋯
  .rw[af];let:=k _<|M.trans<|zD L
end Ar
namespace As
abbrev st:Stmt:=top 30
theorem sc:zx ["thing","number","sign"] ["thing"] (zI st):=CC
include T in
theorem ok (F:xj0 K "digest" st f fd)(l:wU P w K mg base 3 "spelled" ["thing"]<|GQ K):zc P w K mg base CA 4 f fd ["thing"] (Kd K):=by
 let:=F.ok sc λ_ _ _ _ H s Q E q h=>?_;let#[v,t,rfl,hd,g,k]:=h;let:=#[_,(zE (Cu (i:=1) sc.nd zG)<|zE (yM Ep rfl (Ms<|zJ l q.m<|zA (pv 0) zC) (zR (i:=2) sc.nd rfl<|Ew rfl)<|zF<|Cu (i:=1) sc.nd<|zP yH (zP z8 (zP v7 (qD (v:=.int 31) rfl T.pK #[_,rfl])<|pv 1)<|zK FO (by rfl) T.ord PyProof.Rows.boot_ord<|zA (pv 2) zC)<|qD (v:=.int 97) rfl T.oK #[_,rfl])<|zF<|zQ<|pv 1),?_]
 let:=#[v,t,rfl,hd,g,λj r=>#[_,rfl,RN (λi e b=>∃x,e=[some v,some<|.int<|((cs t.sp).take i).foldl WI 0,x]/\b=j) #[none,rfl,rfl] ?_ ?_]]
 .rintro i c e b D B p o n ⟨x,rfl,rfl⟩;let:=n #[.inl #[∅,∅],_,rfl,rfl,(by show(0:Int)<97;decide),o.nx _ _ #[some<|.str #[#v[c]],?_,rfl]];have d:(cs t.sp)[i]?=some c:=by rw[<-p];simp
  rw[YK,d,Yl];rfl
 .rintro e b ⟨x,rfl,rfl⟩;let:=?_;rw[yx,ZS];let:=k _ r
end As
namespace Au
abbrev st:Stmt:=inClass (top 54) 7
theorem sc:zx ["self"] ["self"] (zI st):=CC
include T in
theorem ok (F:xj K "names" "Shelf.names" st f fd):zc P w K mg base CA 1 f fd ["self"] (tM P w K aC):=by
 let:=F.ok sc λ_ _ _ _ H B Q E A h=>?_;let#[a,q,S,rfl,sh,k]:=h;let#[g,d,c,o,p,b,nx,rfl,nd,i,r,s,j,t,u,v,y,z]:=sh;let:=#[_,(zF<|zQ<|zW (KB rfl) (by rfl) T.list Yd<|zA (xP (pv 0) rfl) zC),?_];let:=#[a,aC,d,_,_,rfl,i,T.cls,T.n1,rfl,c,_,rfl,j,λl nl=>?_];have e:(((S.zip b).map λe=>((Ec e.1.nm:Key),V.ref e.2)).map λn=>kV n.1)=S.map λe=>V.str e.nm:=by
  rw[ZK];have:(S.zip b).map (·.1)=S:=J9 ⋯
  conv=>rhs;rw[<-this]
  rw[ZK];rfl
 rw[e];let:=k l nl
end Au
namespace Av
abbrev st:Stmt:=inClass (top 54) 1
theorem sc:zx ["self","name","thing","halves","head"] ["self","name","thing"] (zI st):=CC
include T in
theorem ok (F:xj K "take" "Shelf.take" st f fd):zc P w K mg base CA 1 f fd ["self","name","thing"] (oM P w K aC):=by
 let:=F.ok sc λ_ _ _ _ H vs Q E hr h=>?_;let#[a,fp,S,e,t,rfl,sh,u,ht,hd,hn,hl,k]:=h;have hu:=M5 hr;let#[g,r,c,l,b,j,nx,rfl,nd,h1,h2,h3,h4,h5,h6,h7,h8,h9]:=id sh;let:=#[_,(zE (Cu (i:=3) sc.nd<|qW Y0 PySem.F.slot_str_partition PySem.F.type_str_partition vV (pv 1)<|zA zr zC)<|zE (Cu (i:=4) sc.nd<|zV (zj:Cy _<|yr K) (pv 3) zG)<|zE (xR hu (xP (pv 0) rfl) (pv 4) (zK (BT rfl) (by rfl) T.max PyProof.Rows.boot_max<|zA (GG hu (xP (pv 0) rfl) (pv 4) zG #[rfl,rfl,rfl,rfl])<|zA (zP z8 (zW NI (by rfl) T.int PyProof.Rows.boot_int<|zA (zV (zj:Cy _<|yr K) (pv 3) zG) zC) zG) zC) rfl)<|zE (xR hu (xP (pv 0) rfl) (pv 1) (pv 2) rfl)<|zF<|Sk hr.units (xP (pv 0) rfl) (pv 2) (pv 1) rfl),?_]
 have wZ:=sh.wZ.tup;have nl:(UK e.n).length<=2000:=by
  have X:((e.n:Int)).natAbs.log2<1920:=by
   have:=u.num;rw[Uc]
   rcases JL e.n with z|z
   .rw[z];decide
   .have:e.n.log2<20:=(Nat.log2_lt<|⋯).mpr ⋯;lia
  have:=VZ X;have I:(UK e.n).length<=1921:=this;lia
 have a5:e.nm.length<=100000:=by
  have:=u.hl;have e1:dot.length=1:=rfl;unfold En.nm;rw[yg,yg,e1];lia
 simp only[Yu,Zx,Yg,Jo,not_or,YO,and_true,not_false_eq_true]at nd;let#[#[a4,Y,Z,aa],#[ab,ai,al],#[A,B],C]:=nd;let:=#[rfl,e.h,UK e.n,46,rfl,by rw[OR];rfl,u.free,a5,λp np=>?_];have G:=zD (o:=.tup [V.str e.h,V.str #[#v[46]],V.str<|UK e.n]) np;have hp:yh K (upd H p<|.tup [V.str e.h,V.str #[#v[46]],V.str<|UK e.n]) p [V.str e.h,V.str #[#v[46]],V.str<|UK e.n]:=yh.of zB;show MK _ _ _ _ (upd H p<|.tup [V.str e.h,V.str #[#v[46]],V.str<|UK e.n]);generalize upd H p (.tup [V.str e.h,V.str #[#v[46]],V.str<|UK e.n])=s at G hp;have g1:=G _ _ h1;have g4:=G _ _ h4;have g6:=G _ _ h6;let:=#[p,_,_,_,rfl,rfl,hp,rfl,?_];let:=#[a,aC,r,_,_,rfl,g1,T.cls,T.n3,rfl,b,rfl,.inl #[_,.inl g6],_,wu.k (k:=(Ec e.h:Key)) g6,?_];let#[m,em,en]:∃m:Nat,(UH nx (Ec e.h:Key)).getD (V.int 0)=V.int (m:Int)/\m=(xg S e.h).getD 0:=by
  rw[h8];cases xg S e.h with
  |none=>let:=#[0,rfl,rfl]
  |some m=>let:=#[m,rfl,rfl]
 rw[em];let:=#[p,_,_,_,rfl,rfl,hp,rfl,e.n,rfl,by have:=u.num;lia,_,_,rfl,?_];have J:(if(e.n:Int)+1>(m:Int) then(e.n:Int)+1 else(m:Int))=((max m (e.n+1):Nat):Int):=by
  split<;>lia
 rw[J];have a6:nx.length<2000:=⋯
 let:=#[a,aC,r,_,_,rfl,g1,T.cls,T.n3,rfl,b,_,rfl,tW.k (k:=(Ec e.h:Key)) g6<|yJ<|⋯,?_];have o1:Off [a,r,c,l,b] H (upd s b<|.dK<|yp nx (Ec e.h:Key)<|V.int ((max m (e.n+1):Nat):Int)):=(Off.of G).upd (by simp);have L:upd s b (.dK<|yp nx (Ec e.h:Key)<|V.int ((max m (e.n+1):Nat):Int)) a=some (.ins aC r<|OU c l b):=by rwa[zH aa]
 have N:upd s b (.dK<|yp nx (Ec e.h:Key)<|V.int ((max m (e.n+1):Nat):Int)) c=some (.dK<|(S.zip j).map λe=>((Ec e.1.nm:Key),V.ref e.2)):=by rwa[zH B]
 have a0:upd s b (.dK<|yp nx (Ec e.h:Key)<|V.int ((max m (e.n+1):Nat):Int)) b=some (.dK<|yp nx (Ec e.h:Key)<|V.int ((max m (e.n+1):Nat):Int)):=zB;have an:upd s b (.dK<|yp nx (Ec e.h:Key)<|V.int ((max m (e.n+1):Nat):Int)) r=some (.own a):=by rw[zH al];let:=G _ _ h2
 let#[a7,e5,_]:=h5.2.2.2;have as:upd s b (.dK<|yp nx (Ec e.h:Key)<|V.int ((max m (e.n+1):Nat):Int)) l=H l:=by rw[zH C,e5];let:=G _ _ e5
 show MK _ _ _ _ (upd s b<|.dK<|yp nx (Ec e.h:Key)<|V.int ((max m (e.n+1):Nat):Int));generalize upd s b (.dK<|yp nx (Ec e.h:Key)<|V.int ((max m (e.n+1):Nat):Int))=v at o1 L N a0 an as;have zl:((S.zip j).map λe=>((Ec e.1.nm:Key),V.ref e.2)).length<=2000:=by rw[Zj,UA];lia
 let:=#[a,aC,r,_,_,rfl,L,T.cls,T.n1,rfl,c,_,rfl,tW.k (k:=(Ec e.nm:Key)) N<|yJ<|⋯,?_];have ek:((S.zip j).map λe=>((Ec e.1.nm:Key),V.ref e.2)).map (·.1)=S.map λe=>(Ec e.nm:Key):=by
  rw[ZK];have:(S.zip j).map (·.1)=S:=J9 ⋯
  conv=>rhs;rw[<-this]
  rw[ZK];rfl
 have hk:(Ec e.nm:Key)∉((S.zip j).map λe=>((Ec e.1.nm:Key),V.ref e.2)).map (·.1):=λz=>by
  rw[ek]at z;let#[I,a1,q]:=Zo.mp z;let:=hn<|Zo.mpr #[I,a1,Sum.inr.inj q]
 rw[kZ hk];have o2:Off [a,r,c,l,b] H (upd v c<|.dK<|(S.zip j).map (λe=>((Ec e.1.nm:Key),V.ref e.2))++[(Ec e.nm,V.ref t)]):=o1.upd (by simp);have y:upd v c (.dK<|(S.zip j).map (λe=>((Ec e.1.nm:Key),V.ref e.2))++[(Ec e.nm,V.ref t)]) a=some (.ins aC r<|OU c l b):=by rwa[zH Y]
 have M:upd v c (.dK<|(S.zip j).map (λe=>((Ec e.1.nm:Key),V.ref e.2))++[(Ec e.nm,V.ref t)]) r=some (.own a):=by rwa[zH ab]
 have O:upd v c (.dK<|(S.zip j).map (λe=>((Ec e.1.nm:Key),V.ref e.2))++[(Ec e.nm,V.ref t)]) c=some (.dK<|(S.zip j).map (λe=>((Ec e.1.nm:Key),V.ref e.2))++[(Ec e.nm,V.ref t)]):=zB;have R:upd v c (.dK<|(S.zip j).map (λe=>((Ec e.1.nm:Key),V.ref e.2))++[(Ec e.nm,V.ref t)]) l=H l:=by rwa[zH<|Er A]
 have U:upd v c (.dK<|(S.zip j).map (λe=>((Ec e.1.nm:Key),V.ref e.2))++[(Ec e.nm,V.ref t)]) b=some (.dK<|yp nx (Ec e.h:Key)<|V.int ((max m (e.n+1):Nat):Int)):=by rwa[zH<|Er B]
 generalize upd v c (.dK<|(S.zip j).map (λe=>((Ec e.1.nm:Key),V.ref e.2))++[(Ec e.nm,V.ref t)])=H3 at o2 y M O R U;have T3:lA P w K H3 l (S.map λe=>(e.d,V.str e.nm)):=lA.off wZ o2 R h5;have a3:Dt K H3 e.d (.ref t):=Dt.off wZ o2 _ _ u.key.1 ht;let:=#[a,aC,r,_,_,rfl,y,T.cls,T.n2,rfl,t,l,_,e.d,rfl,rfl,T3,by rw[Zj];lia,u.key,a3,λo T4 ⟨es,eo⟩=>?_];have a2:e.d∉(S.map λe=>(e.d,V.str e.nm)).map (·.1):=by rwa[ZK]
 rw[kZ a2]at T4;have o3:Off [a,r,c,l,b] H (upd H3 l o):=o2.upd (by simp);let:=k _ o3 #[g.snoc u hd hn<|⋯,r,c,l,b,j++[t],_,rfl,by simp[a4,Y,Z,aa,ab,ai,al,A,B,C],by rw[zH Z];let:=y,by rw[zH ai];let:=M,by rw[Zq,Zq,h3];rfl,?_,?_,by rw[zH<|Er C];let:=U,?_,?_,?_]
 .rw[zH A,O,List.zip_append h3.symm,Zu];rfl
 .rw[Zu];let:=T4
 .have:=xH nx (Ec e.h:Key)<|V.int ((max m (e.n+1):Nat):Int);rw[Zq,Yc];lia
 .intro h;rw[uG,XR]
  by_cases q:e.h=h
  .rw[ZJ<|by rw[q],ZJ q,<-q,<-en];rfl
  .rw[ZI<|λz=>q (Sum.inr.inj z).symm,ZI q];let:=h8 h
 .intro i I t' D q2
  rcases VO i S.length with z|z|z
  .rw[ZT z]at D;rw[ZT<|⋯]at q2;let:=Dt.off wZ o3 _ _ (g.ent I<|Zy D).key.1<|h9 i I t' D q2
  .subst z;rw[ZU<|Zn _,Vh]at D;rw[ZU<|⋯,h3,Vh]at q2;cases D;cases q2;let:=Dt.off wZ o3 _ _ u.key.1 ht
  .rw[Z6 (by rw[Zq,Yc];lia)]at D;cases D
end Av
theorem yE:Raises X (λ_ _ _=>False):=by
 intro c f H s e d I b;let#[_,_,_,_,_,_,_,_,_,_,_,_,_,_,q]:=b;let:=q.elim
theorem M8 {S:Dh}{b:Dc}(h:b.length=S.length):((S.zip b).map λe=>((Ec e.1.nm:Key),V.ref e.2)).map (·.1)=S.map λe=>(Ec e.nm:Key):=by
 rw[ZK];have:(S.zip b).map (·.1)=S:=J9 ⋯
 conv=>rhs;rw[<-this]
 rw[ZK];rfl
theorem RW {S:Dh}{d:Dc}(h:d.length=S.length)(x:Str):(UH ((S.zip d).map λe=>((Ec e.1.nm:Key),V.ref e.2)) (Ec x:Key)).isSome=decide (x∈S.map En.nm):=by
 have f:=M8 h;rw[YY,ZY];constructor
 .intro z;let#[v,c]:=Ju.mp z;have:=k8 c;rw[f]at this;let#[e,b,q]:=Zo.mp this;let:=Zo.mpr #[e,b,Sum.inr.inj q]
 .intro z;let#[e,b,q]:=Zo.mp z;cases c:UH ((S.zip d).map λe=>((.inr e.1.nm),V.ref e.2)) (Ec x:Key) with
  |some v=>rfl
  |none =>
   let:=absurd ?_<|Xv c;rw[f];let:=Zo.mpr #[e,b,by rw[q]]
theorem Tf {c:Dc}(g:wY S)(h:c.length=S.length){i:Nat}{e:En}{t:D8}(j:S[i]?=some e)(l:c[i]?=some t):UH ((S.zip c).map λe=>((Ec e.1.nm:Key),V.ref e.2)) (Ec e.nm:Key)=some (V.ref t):=by
 have d:(((S.zip c).map λe=>((Ec e.1.nm:Key),V.ref e.2)).map (·.1)).Nodup:=by
  rw[M8 h];have:=List.Pairwise.map (S:=λa b:Key=>a≠b) (λx=>(.inr x)) (λa b h z=>h<|Sum.inr.inj z) g.nn;rw[ZK]at this;let:=this
 have f:((.inr e.nm),V.ref t)∈(S.zip c).map λe=>((Ec e.1.nm:Key),V.ref e.2) :=
  Zo.mpr #[(e,t),Zy (by rw[Jn];let:=#[j,l]),rfl]
 let:=vF d f
theorem RU (d:Eg):Tq (CG (Cq Ts).1) d=UT Ts d:=by
 cases d with
 |str x =>
  show(UH (CG (Cq Ts).1) (Ec x:Key)).isSome=decide (x∈Ts.map En.nm);have g:(CG (Cq Ts).1).map (·.1)=Ts.map λe=>(.inr e.nm):=by
   conv=>rhs;rw[<-HP Ts]
   unfold CG;rw[ZK,ZK];rfl
  rw[YY,ZY];constructor
  .intro z;let#[v,f]:=Ju.mp z;have:=k8 f;rw[g]at this;let#[e,c,q]:=Zo.mp this;let:=Zo.mpr #[e,c,Sum.inr.inj q]
  .intro z;let#[e,c,q]:=Zo.mp z;cases f:UH (CG (Cq Ts).1) (.inr x) with
   |some v=>rfl
   |none =>
    let:=absurd ?_<|Xv f;rw[g];let:=Zo.mpr #[e,c,by rw[q]]
 |none=>rfl
 |bool b=>rfl
 |int i=>rfl
 |list ds=>rfl
 |tuple ds=>rfl
 |dict Dl=>rfl
theorem Wf (ne:aC≠aP):∀vs H Q E,nP P w K aC aP aC vs H Q E->kj P w K aC vs H Q E:=λvs H Q E ⟨a,b,S,d,v,e,st,hd,k⟩=>by
 cases st with
 |sh _ h=>let:=#[a,b,S,d,v,e,h,hd,k]
 |pk z h=>let:=absurd z ne
theorem T7 (ne:aC≠aP):∀vs H Q E,nP P w K aC aP aP vs H Q E->rR K aP vs H Q E:=λvs H Q E ⟨a,b,S,d,v,e,st,hd,k⟩=>by
 cases st with
 |sh z h=>let:=absurd z.symm ne
 |pk _ h=>let:=#[a,b,S,d,v,e,h,hd,k]
namespace Aw
abbrev st:Stmt:=top 41
theorem sc:zx ["table","thing"] ["table","thing"] (zI st):=CC
include T in
theorem ok (F:xj0 K "is_key" st f fd):zc P w K mg base CA 1 f fd ["table","thing"] (lH K):=by
 let:=F.ok sc λ_ _ _ _ H l Q E j h=>?_;let#[e,c,d,v,rfl,g,hd,k]:=h;let:=#[_,(zF<|zQ<|xD (zK (zZ (K:=K)) (by rfl) T.isinstance ZX<|zA (pv 1)<|zA (y6 (v:=.ty "str") rfl T.str Yq rfl) zC)<|qS<|xC (Gi j.units) (pv 1) (pv 0)<|by with_unfolding_all rfl),?_];let:=#[_,_,d,_,rfl,hd,T.is<|by simp[kinds],_,rfl,?_];cases d with
 |str x =>
  cases(show v=_ from hd);let:=UJ #[e,_,rfl,wu.k (k:=(Ec x:Key)) g,k]
 |none=>let:=UB k
 |bool b=>let:=UB k
 |int i=>let:=UB k
 |list ds=>let:=UB k
 |tuple ds=>let:=UB k
 |dict c=>let:=UB k
end Aw
theorem RV {S:Dh}{c:Dc}(h:c.length=S.length)(d:Eg):Tq ((S.zip c).map λe=>((Ec e.1.nm:Key),V.ref e.2)) d=UT S d:=by
 cases d with
 |str x=>let:=RW h x
 |none=>rfl
 |bool b=>rfl
 |int i=>rfl
 |list ds=>rfl
 |tuple ds=>rfl
 |dict Dl=>rfl
namespace Ax
abbrev st:Stmt:=inClass (top 54) 5
theorem sc:zx ["self","name"] ["self","name"] (zI st):=CC
include T in
theorem ok (F:xj K "has" "Shelf.has" st f fd)(b:wU P w K mg base 1 "is_key" ["table","thing"]<|lH K):zc P w K mg base CA 2 f fd ["self","name"] (kj P w K aC):=by
 let:=F.ok sc λ_ _ _ _ H B Q E n h=>?_;let#[a,q,S,d,v,rfl,sh,hd,k]:=h;let#[g,e,c,o,p,A,nx,rfl,nd,i,r,j,l,s,t,u,y,z]:=sh;let:=#[_,(zF<|zQ<|zJ b n.m<|zA (xP (pv 0) rfl)<|zA (pv 1) zC),?_];let:=#[a,aC,e,_,_,rfl,i,T.cls,T.n1,rfl,c,_,d,v,rfl,l,hd,?_];rwa[RV j d]
end Ax
namespace Ay
abbrev st:Stmt:=inClass (top 52) 3
theorem sc:zx ["self","name"] ["self","name"] (zI st):=CC
include T in
theorem ok (F:xj K "has" "Pack.has" st f fd)(b:wU P w K mg base 1 "is_key" ["table","thing"]<|lH K):zc P w K mg base CA 2 f fd ["self","name"] (rR K aP):=by
 let:=F.ok sc λ_ _ _ _ H s Q E l h=>?_;let#[a,p,S,d,v,rfl,sh,hd,k]:=h;let#[g,lf,e,c,o,n,r,rfl,nd,i,q,j,_]:=sh;let:=#[_,(zF<|zQ<|zJ b l.m<|zA (xP (pv 0) rfl)<|zA (pv 1) zC),?_];let:=#[a,aP,e,_,_,rfl,i,T.wR,T.m1,rfl,c,_,d,v,rfl,j,hd,?_];rwa[RU]
end Ay
namespace Az
abbrev st:Stmt:=top 42
theorem sc:zx ["store","name"] ["store","name"] (zI st):=CC
include T in
theorem ok (F:xj0 K "need_name" st f fd)(g:Met P w K mg base aC 2 "has" ["self","name"]<|kj P w K aC)(i:Met P w K mg base aP 2 "has" ["self","name"]<|rR K aP):zc P w K mg base (CI P w) 3 f fd ["store","name"] (uv P w K aC aP aN):=by
 let:=F.jd sc λ_ _ _ _ H s Q E n h=>?_;let#[c,a,r,S,d,v,rfl,sh,hd,k1,k2]:=h;have kl:=two T.cls T.wR;have b:∀c,Kl aC aP c->Met P w K mg base c 2 "has" ["self","name"] (nP P w K aC aP c):=two (g.imp (Zn _)<|Wf T.ne)<|i.imp (Zn _)<|T7 T.ne;let#[j,fs,l,o,_]:=sh.ins;let:=#[_,(zF<|yG (xE<|zY (K:=K)<|GT (p:=Kl aC aP) λc e=>yK (pv 0) (kl c e) (b c e) n.m<|zA (pv 1) zC) (zF<|PY rfl Ov rfl T.oV T.iH<|zA zr zC) zU),?_]
 let:=#[c,sh.kl,a,j,_,rfl,l,o,a,_,S,d,v,rfl,sh,hd,_,rfl,?_];cases q:UT S d with
 |false=>let:=UJ #[UC 1,k2 q]
 |true=>let:=UB<|k1 q
end Az
namespace AA
abbrev st:Stmt:=inClass (top 54) 6
theorem sc:zx ["self","name"] ["self","name"] (zI st):=CC
include T in
theorem ok (F:xj K "thing" "Shelf.thing" st f fd)(p:pL P w K mg base 3 "need_name" ["store","name"]<|uv P w K aC aP aN):zc P w K mg base CA 4 f fd ["self","name"] (vy P w K aC):=by
 let:=F.ok sc λ_ _ _ _ H Z Q E l h=>?_;let#[a,N,S,d,v,rfl,sh,hd,q,k1]:=h;have G:=M5 l;let#[g,s,r,L,M,J,nx,t,nd,y,O,A,B,R,U,X,Y,C]:=id sh;let:=#[_,(zE (zX<|kD p l.m yE<|zA (pv 0)<|zA (pv 1) zC)<|zF<|zQ<|kA G (xP (pv 0) rfl) (pv 1)<|λ_ _=>rfl),?_]
 let:=#[aC,a,_,S,d,v,rfl,.sh rfl sh,hd,λ_=>?_,λz=>by rw[q]at z;cases z];cases d with
 |str x =>
  cases(show v=_ from hd);have q:=ZA q;let#[e,j,rfl]:=Zo.mp q;let#[i,D,u]:=Yb.mp j;have c:i<J.length:=⋯
  have n:S[i]?=some e:=by rw[Zv D,u]
  have o:=Zv c;have I:=Tf g A n o;let:=#[a,aC,s,_,_,rfl,y,T.cls,T.n1,rfl,r,_,rfl,by rw[<-I];let:=wu.k (k:=(Ec e.nm:Key)) B,k1 e j rfl _<|C i e _ n o]
 |none=>cases q
 |bool b=>cases q
 |int i=>cases q
 |list ds=>cases q
 |tuple ds=>cases q
 |dict Dl=>cases q
end AA
namespace AB
abbrev st:Stmt:=inClass (top 54) 4
theorem sc:zx ["self","name","forms"] ["self","name","forms"] (zI st):=CC
include T in
theorem ok (F:xj K "need_form" "Shelf.need_form" st f fd)(s:Met P w K mg base aC 4 "thing" ["self","name"]<|vy P w K aC):zc P w K mg base CA 5 f fd ["self","name","forms"] (nR P w K aC):=by
 let:=F.ok sc λ_ _ _ _ H O Q E p h=>?_;let#[a,z,L,S,x,b,rfl,sh,th,C,l,j,k]:=h;let#[g,u,G,I,J,N,nx,y,nd,A,_]:=id sh;let:=#[_,(zF<|yG (zO (PF (K:=K) p.units) (zV (zj:Cy _<|yr K) (yK (pv 0) T.cls s p.m<|zA (pv 1) zC) zG) (pv 2)<|by with_unfolding_all rfl) (zF uH) zU),?_]
 let:=#[a,u,_,rfl,A,rfl,a,_,S,.str x,.str x,rfl,sh,rfl,?_,λe o ex t q=>?_]
 .cases no:UT S (.str x) with
  |true=>rfl
  |false =>
   have no:=YM no;rw[OX no b]at j;cases j
 .have ex:x=e.nm:=by injection ex
  let#[d,n,M,_]:=th e o;rw[n]at q;let#[c,r,v,B]:=kC q;cases v;have D:=Ip n;have i:=RP g o b;rw[<-ex,D]at i;let:=#[t,_,_,_,rfl,rfl,B,uI _ _,.str d.word,b.map .str,rfl,#[z,_,rfl,C,zy.strs b],(uR b l).1,?_,(show 0<=60 by decide),!decide (d.word∈b),?_,?_]
  .cases d
   .show Ei "leaf"=true;lk
   .show Ei "tree"=true;lk
   .show Ei "note"=true;lk
  .rw[OH];cases decide (d.word∈b)<;>rfl
  .rw[j]at i;rw[<-i];let:=UB k
end AB
theorem WW:∀y∈(["leaf","tree"]:By),Ei y=true:=λy b=>by
 rcases Zx.mp b with rfl|b
 .lk
 .rw[Zk.mp b];lk
theorem bW:∀y∈(["tree"]:By),Ei y=true:=λy b=>by
 rw[Zk.mp b];lk
theorem bj:∀y∈(["note"]:By),Ei y=true:=λy b=>by
 rw[Zk.mp b];lk
namespace AC
abbrev st:Stmt:=inClass (top 54) 3
theorem sc:zx ["self","thing","row","parent"] ["self","thing"] (zI st):=CC
include T in
theorem ok (F:xj K "need_names" "Shelf.need_names" st f fd)(M:Met P w K mg base aC 5 "need_form" ["self","name","forms"]<|nR P w K aC):zc P w K mg base CA 6 f fd ["self","thing"] (ou P w K aC):=by
 let:=F.ok sc λ_ _ _ _ H vs Q E Z h=>?_;let#[a,R,S,t,v,rfl,sh,th,hd,d,k]:=h;let#[g,N,d1,d2,d3,ts,nx,ab,nd,U,_]:=id sh;let:=#[_,(xN (yG (zO yX (zV (zj:Cy _<|yr K) (pv 1) zG) zr<|zS _) (zF<|yM Ep rfl (jV<|zV (zj:Cy _<|yr K) (pv 1) zG) (zR (i:=2) sc.nd rfl<|Ew rfl)<|zF<|zX<|yK (pv 0) T.cls M Z.m<|zA (zV (zj:Cy _<|yr K) (pv 2) zG)<|zA (yW<|zA zr<|zA zr zC) zC) zU)<|zF<|yG (zO yX (zV (zj:Cy _<|yr K) (pv 1) zG) zr<|zS _) (zE (zX<|yK (pv 0) T.cls M Z.m<|zA (zV (zj:Cy _<|yr K) (pv 1) zG)<|zA (yW<|zA zr zC) zC)<|zF<|yM Ep rfl (jV<|zV (zj:Cy _<|yr K) (pv 1) zG) (zR (i:=3) sc.nd rfl<|Ew rfl)<|zF<|zX<|yK (pv 0) T.cls M Z.m<|zA (pv 3)<|zA (yW<|zA zr zC) zC) zU),?_]
 cases t with
 |leaf ls =>
  let#[p,b,rfl,l,I]:=xU hd;let:=#[λj s=>j=[some<|.ref a,some<|.ref p,none,none]/\s=H,#[p,_,_,_,rfl,rfl,l,rfl,rfl,false,congrArg V.bl<|by lk,UB #[rfl,rfl]],?_];rintro j s ⟨rfl,rfl⟩;let:=#[p,_,_,_,rfl,rfl,l,rfl,rfl,false,congrArg V.bl<|by lk,UB<|k _<|zz.refl _]
 |tree rs =>
  let#[p,b,rfl,l,I]:=kU hd;let#[b',xs,e,J,hx]:=I;cases e;have d:=d;let:=#[λj s=>∃o,j=[some<|.ref a,some<|.ref p,o,none]/\zz H s,?_,?_]
  .let:=#[p,_,_,_,rfl,rfl,l,rfl,rfl,true,congrArg V.bl<|Zm rfl,UJ ?_];let:=#[p,_,_,_,rfl,rfl,l,rfl,b,rfl,#[_,J],Io (λi C u=>∃o,C=[some<|.ref a,some<|.ref p,o,none]/\zz H u) #[none,rfl,zz.refl _] (λi C u _ ⟨_,_,e⟩=>e.yu J) ?_ λ_ _ z=>z];rintro i x C u D B L Y X ⟨o,rfl,n⟩;let#[r,c,O,rfl,hc]:=sS hx L;let:=X #[a,N,_,rfl,n _ _ U,rfl,c,_,_,_,rfl,rfl,n.yu hc,rfl,UC 2,λq nq=>?_];have A:=n.trans<|zD (o:=.tup [V.str "leaf",V.str "tree"]) nq;let:=#[a,q,R,S,r.2,["leaf","tree"],rfl,sh.same A,th,yh.of zB,WW,ZQ.mp d r<|Zy O,Y.nx _ _ #[_,rfl,A]]
  .rintro j s ⟨o,rfl,n⟩;let:=#[p,_,_,_,rfl,rfl,n.yu l,rfl,rfl,false,congrArg V.bl<|by lk,UB<|k _ n]
 |note x ps y =>
  let#[p,b,rfl,l,I]:=uA hd;have d:(xJ S x ["tree"]&&ps.all λp=>xJ S p ["note"])=true:=d;rw[ZB]at d;let:=#[λj s=>j=[some<|.ref a,some<|.ref p,none,none]/\s=H,#[p,_,_,_,rfl,rfl,l,rfl,rfl,false,congrArg V.bl<|by lk,UB #[rfl,rfl]],?_];rintro j s ⟨rfl,rfl⟩;let:=#[p,_,_,_,rfl,rfl,l,rfl,rfl,true,congrArg V.bl<|Zm rfl,UJ ?_];let:=#[a,N,_,rfl,U,rfl,p,_,_,_,rfl,rfl,l,rfl,UC 1,λq nq=>?_];have A:=zD (o:=.tup [V.str "tree"]) nq;let:=#[a,q,R,S,x,["tree"],rfl,sh.same A,th,yh.of zB,bW,d.1,?_];generalize upd s q (.tup [V.str "tree"])=G at A;let:=#[p,_,_,_,rfl,rfl,A.yu l,rfl,b,rfl,#[_,A.yu I],Io (λi C u=>∃o,C=[some<|.ref a,some<|.ref p,none,o]/\zz s u) #[none,rfl,A] (λi C u _ ⟨_,_,e⟩=>e.yu I) ?_ ?_]
  .rintro i z C u D B L Y X ⟨o,rfl,n⟩;rw[Zz]at L;let#[r,O,rfl]:=ZO.mp L;let:=X #[a,N,_,rfl,n _ _ U,rfl,UC 1,λq2 aa=>?_];have s4:=n.trans<|zD (o:=.tup [V.str "note"]) aa;let:=#[a,q2,R,S,r,["note"],rfl,sh.same s4,th,yh.of zB,bj,ZQ.mp d.2 r<|Zy O,Y.nx _ _ #[_,rfl,s4]]
  .rintro C u ⟨o,rfl,n⟩;let:=k _ n
end AC
theorem Il (g:wY S){e f:En}(l:e∈S)(n:f∈S)(h:e.nm=f.nm):e=f:=by
 let#[i,o,b]:=Yb.mp l;let#[j,p,c]:=Yb.mp n;have d:=JO.mp g.nn;have:i=j:=by
  rcases VO i j with z|z|z
  .let:=absurd (by rwa[Ya,Ya,b,c]) (d i j (by rwa[Zj]) (by rwa[Zj]) z)
  .let:=z
  .let:=absurd (by rw[Ya,Ya,b,c];let:=h.symm) (d j i (by rwa[Zj]) (by rwa[Zj]) z)
 subst this;rw[<-b,c]
namespace AD
abbrev st:Stmt:=inClass (top 54) 2
theorem sc:zx ["self","thing","head","number","name"] ["self","thing"] (zI st):=CC
include T in
theorem ok (F:xj K "put" "Shelf.put" st f fd)(QR:wU P w K mg base 6 "need_thing" ["thing"]<|lY K)(QS:Met P w K mg base aC 6 "need_names" ["self","thing"]<|ou P w K aC)
  (Qt:wU P w K mg base 1 "letter_of" ["thing"]<|IE K) (QT:wU P w K mg base 4 "digest" ["thing"]<|Kd K) (Qw:Met P w K mg base aC 1 "take" ["self","name","thing"]<|oM P w K aC):zc P w K mg base CA 7 f fd ["self","thing"] (tZ P w K aC):=by
 let:=F.ok sc λ_ _ _ _ H vs Q E j h=>?_;let#[a,fp,S,t,v,rfl,sh,th,hd,g,hl,hn,Y,k3]:=h;have gt:=g.1;have hu:=M5 j;let:=#[_,(zE (zX<|zJ QR j.m<|zA (pv 1) zC)<|zE (zX<|yK (pv 0) T.cls QS j.m<|zA (pv 1) zC)<|zE (yG (zO (TX j.units) (pv 1) (xP (pv 0) rfl)<|by with_unfolding_all rfl) (zF<|zQ<|Sh j.units (xP (pv 0) rfl) (pv 1)<|λ_ _=>rfl) zU)<|zE (Cu (i:=2) sc.nd<|zP jJ (zJ Qt j.m<|zA (pv 1) zC)<|zW qZ (by rfl) T.str Yq<|zA (zJ QT j.m<|zA (pv 1) zC) zC)<|zE (Cu (i:=3) sc.nd<|GG hu (xP (pv 0) rfl) (pv 2) zG #[rfl,rfl,rfl,rfl])<|zE (Cu (i:=4) sc.nd<|W3 (pv 2)<|pv 3)<|zE (zX<|yK (pv 0) T.cls Qw j.m<|zA (pv 4)<|zA (pv 1) zC)<|zF<|zQ<|pv 4),?_]
 let:=#[t,v,rfl,hd,g,λH1 Z=>?_];let#[y,ev]:∃t,v=.ref t:=by
  let#[c,r,e,_]:=kC hd;let:=#[c,e]
 subst ev;have l:=sh.same Z;have A:=Dt.same Z _ _ hd;let#[O,q,d1,L,d3,ts,nx,M,nd,s,h2,h3,h4,R,h6,h7,h8,h9]:=id l;let:=#[a,q,_,rfl,s,rfl,a,fp,S,t,.ref y,rfl,l,th,A,Y,λH2 s2=>?_];have G:=Z.trans s2;have o:=l.same s2;have b:=Dt.same s2 _ _ A;let#[O,q,d1,L,d3,ts,nx,M,nd,s,h2,h3,h4,R,h6,h7,h8,h9]:=id o;have X:=Xj gt;let:=#[a,aC,q,_,_,rfl,s,T.cls,T.n2,rfl,y,L,_,t.dat,rfl,rfl,R,X,b,_,rfl,?_];cases hv:UH (S.map λe=>(e.d,V.str e.nm)) t.dat with
 |some u =>
  let#[p,hp,e]:=Zo.mp<|k8 hv;let#[J,B,rfl]:=Zo.mp hp;have e:J.d=t.dat:=e;have U:UH (S.map λe=>(e.d,V.str e.nm)) t.dat=some (V.str J.nm):=vF (by rw[ZK];let:=O.nd) (Zo.mpr #[J,B,by rw[e]]);let:=UJ #[a,aC,q,_,_,rfl,s,T.cls,T.n2,rfl,y,L,_,t.dat,_,rfl,rfl,R,X,b,U,k3 _ S J #[Off.of G,o,B,e,.inl rfl]]
 |none =>
  have C:=λz=>by
   have:=Xv hv;rw[ZK]at this;let:=this z
  let:=UB ?_;have db:=IQ t.sp;have D:=hn<|UN t;let:=#[.ref y,t,rfl,b,.ref y,t,rfl,b,gt,λH3 I=>#[_,rfl,?_,_,_,rfl,rfl,?_,?_]]
  .have hz:(dg t.sp).natAbs<97:=⋯
   rcases JL (dg t.sp).natAbs with z|z
   .rw[z];decide
   .have:(dg t.sp).natAbs.log2<7:=(Nat.log2_lt<|⋯).mpr ⋯;lia
  .rw[Py];have s:=HI (n:=(dg t.sp).toNat) ⋯;have h2:=Gp t;let:=zu ⋯
  rw[Py];show XZ 2 (V.str<|UN t) _ H3 _;have aa:=o.same I;have g1:=I _ _ s;have g6:=I _ _ h6;let:=#[a,aC,q,_,_,rfl,g1,T.cls,T.n3,rfl,d3,rfl,.inl #[_,.inl g6],_,wu.k (k:=(Ec (UN t):Key)) g6,?_];have em:(UH nx (Ec (UN t):Key)).getD (V.int 0)=V.int (((xg S<|UN t).getD 0:Nat):Int):=by
   rw[h8];cases xg S (UN t) with
   |none=>rfl
   |some m=>rfl
  rw[em];have dl:(".":Str).length=1:=by lk
  let:=#[_,rfl,by have:=uJ t;lia,by rw[dl];decide,_,rfl,D,?_];have N:UN t++"."++UK ((xg S<|UN t).getD 0)=(UY S t).nm:=by unfold En.nm UY;rw[OR]
  rw[N];let:=#[a,q,_,rfl,g1,rfl,a,fp,S,UY S t,y,rfl,aa,#[X,jI t,D,uJ t],Dt.same I _ _ b,C,K4 O<|jI t,hl,λH4 o4 ab=>?_];let:=(k3 _ _ _ #[(Off.of<|G.trans I).trans o4,ab,by simp,rfl,.inr #[rfl,rfl,C]])
end AD
inductive lZ (K:Co)(vs:Di)(H:Hp)(Q:VK)(e3:XK):Prop
 |mk (d:Eg) (v:V) (h0:vs=[v]) (h1:Dw K H d v) (h2:small d=true) (h3:∀H',zz H H'->Q (.bl<|HN d) H'):lZ K vs H Q e3
inductive mq (K:Co)(vs:Di)(H:Hp)(Q:VK)(e3:XK):Prop
 |mk (x:Str) (h0:vs=[.str x]) (h1:x.length<=1000) (h2:∀p H',zz H H'->za K H' p ((NQ x).map V.str)->Q (.ref p) H'):mq K vs H Q e3
inductive mF (K:Co)(vs:Di)(H:Hp)(Q:VK)(e3:XK):Prop
 |mk (d e:Eg) (v u:V) (h0:vs=[v,u]) (h1:Dw K H d v) (h2:Dw K H e u) (h3:small d=true) (h4:small e=true) (h5:∀H',zz H H'->Q (.bl<|HN d&&j5 e) H'):mF K vs H Q e3
theorem Sz:[V.str "/"]=[V.str #[#v[47]]]:=by rw[Xy];rfl
theorem O7 (x:Str):PySem.Txt.split x #[#v[47]]=UO x:=by unfold UO;rw[Xy];rfl
theorem qj:UG x=true↔x.length<=20/\(cs x).all UQ=true:=by
 unfold UG;rw[ZB,Z8]
theorem m6:yB x=true↔1<=x.length/\x.length<=8/\(cs x).all XE=true:=by
 unfold yB;rw[ZB,ZB,Z8,Z8,and_assoc]
theorem vP (h:UG x=true):Ok 1000 x:=by
 let#[e,b]:=qj.mp h;let:=#[⋯,?_];rw[x6];intro c d;have:=ZQ.mp b c d;unfold UQ at this;simp only[ZB,Z8]at this;lia
theorem Hg (h:yB x=true):Ok 1000 x:=#[by have:=(m6.mp h).2.1;lia,Bv h]
theorem kJ:∀{ls:By},(∀l∈ls,l.length<=1000)->yD (ls.map .str)=true
 |[],_=>rfl
 |l::ls,h=>by
  show(decide (l.length<=1000)&&yD (ls.map .str))=true;rw[Zm<|h l Zt,kJ λx b=>h x<|Zp _ b];rfl
theorem GA:∀{rs:Df},(∀r∈rs,r.1.length<=1000/\r.2.length<=1000)->yD (rs.map zp)=true
 |[],_=>rfl
 |r::rs,h=>by
  let#[b,c]:=h r Zt;show((decide (2<=1000)&&(decide (r.1.length<=1000)&&(decide (r.2.length<=1000)&&true)))&&yD (rs.map zp))=true;rw[Zm b,Zm c,GA λx d=>h x<|Zp _ d];rfl
theorem uD {ls:By}(h:∀l∈ls,UG l=true)(hl:ls.length<=63):uY (.leaf ls):=by
 have d:=λl hl=>(vP<|h l hl).len;let:=#[#[by show ls.length<=1000;lia,λp g=>vP<|h p g],?_,?_,λc e=>?_]
 .show((decide (("leaf":Str)="leaf")&&(decide (1=1)&&((ls.map Ey).all U1)))||_)=true;have:(ls.map Ey).all U1=true:=by rwa[List.all_map,ZQ]
  rw[this,Zm rfl];rfl
 .show(decide (2<=1000)&&(decide (("leaf":Str).length<=1000)&&((decide ((ls.map Ey).length<=1000)&&yD (ls.map .str))&&true)))=true;rw[kJ d,Zj,Zm<|show ls.length<=1000 by lia,Zm<|show("leaf":Str).length<=1000 by lk];rfl
 .have e:[Ey "leaf",.tuple<|ls.map .str]=c:=by injection e
  subst e;let:=#[by show 2<=63;decide,λe f i b=>?_]
  rcases Zx.mp f with q|q
  .rw[q]at b;cases b
  .rw[Zk.mp q]at b;cases b;rwa[Zj]
theorem NW {rs:Df}(h:∀r∈rs,yB r.1=true/\Ok 1000 r.2)(c:Xu (rs.map (·.1))=true)(hl:rs.length<=63):uY (.tree rs):=by
 have j:∀rs:Df,(∀r∈rs,yB r.1=true/\Ok 1000 r.2)->∀p∈z7 rs,Ok 1000 p:=by
  intro rs
  induction rs with
  |nil=>intro _ p b;cases b
  |cons r rs ih =>
   intro h p b
   rcases Zx.mp b with q|b
   .rw[q];let:=Hg (h r Zt).1
   .rcases Zx.mp b with q|b
    .rw[q];let:=(h r Zt).2
    .let:=ih (λx n=>h x<|Zp _ n) p b
 let:=#[#[?_,j rs h],?_,?_,λf e=>?_]
 .show(z7 rs).length<=1000;rw[Ao.vq];lia
 .show((decide (("tree":Str)="leaf")&&(decide (1=1)&&j5 (.tuple<|rs.map zp)))||((decide (("tree":Str)="tree")&&(decide (1=1)&&((rs.map zp).all Xe&&Xu ((rs.map zp).map U8))))||_))=true;have g:(rs.map zp).all Xe=true:=by
   rw[List.all_map,ZQ];intro r c;show(yB r.1&&true)=true;rw[(h r c).1];rfl
  have i:(rs.map zp).map U8=rs.map (·.1):=by rw[ZK];rfl
  rw[g,i,c,ZE<|show¬("tree":Str)="leaf" by lk,Zm<|show("tree":Str)="tree" from rfl];rfl
 .show(decide (2<=1000)&&(decide (("tree":Str).length<=1000)&&((decide ((rs.map zp).length<=1000)&&yD (rs.map zp))&&true)))=true;rw[GA λr c=>#[(Hg (h r c).1).len,(h r c).2.len],Zj,Zm<|show rs.length<=1000 by lia,Zm<|show("tree":Str).length<=1000 by lk];rfl
 .have e:[Ey "tree",.tuple<|rs.map zp]=f:=by injection e
  subst e;let:=#[by show 2<=63;decide,λe l o d=>?_]
  rcases Zx.mp l with q|q
  .rw[q]at d;cases d
  .rw[Zk.mp q]at d;cases d;rwa[Zj]
theorem NT {ps:By}(l:Ok 1000 x)(c:UG y=true)(f:∀p∈ps,Ok 1000 p)(nd:ps.Nodup)(hl:ps.length<=2):uY (.note x ps y):=by
 let:=#[#[?_,λp h=>?_],?_,?_,λg e=>?_]
 .show([x,dig ps.length]++ps++[y]).length<=1000;simp;lia
 .have h:p∈[x,dig ps.length]++ps++[y]:=h;simp at h
  rcases h with z|z|z|z
  .rwa[z]
  .rw[z];let:=#[Z2 (CW<|⋯)<|∅,K7 _]
  .let:=f p z
  .rw[z];let:=vP c
 .show((decide (("note":Str)="leaf")&&(decide (3=1)&&j5 (.str x)))||((decide (("note":Str)="tree")&&(decide (3=1)&&BN (.str x)))||(decide (("note":Str)="note")&&(decide (3=3)&&(true&&(((ps.map Ey).all Xb&&(decide ((ps.map Ey).length<=2)&&decide ((AxS.uniq<|(ps.map Ey).map Kp).length=(ps.map Ey).length)))&&UG y))))))=true;have i:(ps.map Ey).all Xb=true:=by rw[List.all_map,ZQ];let:=λ_ _=>rfl
  have j:(ps.map Ey).map Kp=ps:=by rw[ZK];let:=JK _
  rw[i,j,GP nd,Zj,c,Zm hl,Zm<|show ps.length=ps.length from rfl,ZE<|show¬("note":Str)="leaf" by lk,ZE<|show¬("note":Str)="tree" by lk,Zm<|show("note":Str)="note" from rfl];rfl
 .show(decide (4<=1000)&&(decide (("note":Str).length<=1000)&&(decide (x.length<=1000)&&((decide ((ps.map Ey).length<=1000)&&yD (ps.map .str))&&(decide (y.length<=1000)&&true)))))=true;rw[kJ λp h=>(f p h).len,Zj,Zm<|show ps.length<=1000 by lia,Zm l.len,Zm (vP c).len,Zm<|show("note":Str).length<=1000 by lk];rfl
 .have e:[Ey "note",.str x,.tuple<|ps.map .str,.str y]=g:=by injection e
  subst e;let:=#[by show 4<=63;decide,λe d n b=>?_];simp only[Zx,Yg,Jo]at d
  rcases d with q|q|q|q
  .rw[q]at b;cases b
  .rw[q]at b;cases b
  .rw[q]at b;cases b;rw[Zj];lia
  .rw[q]at b;cases b
theorem Sv {l:By}(h:l.Pairwise aJ):Xu l=true:=qg.mpr #[h.imp λ{a b} z q=>List.lt_asymm z q,JM.mpr<|h.imp λ{a b} z=>WV z]
theorem RO (h:xJ S x ws=true):x∈S.map En.nm:=by
 unfold xJ at h;let#[e,b,q]:=YB.mp h;rw[ZB,Z8]at q;let:=Zo.mpr #[e,b,q.1]
theorem NR {ls:By}(h:At S x<|.leaf ls):xJ S x ["leaf","tree"]=true:=by
 let#[e,b,rfl,hd]:=h;let:=YB.mpr #[e,b,?_];rw[ZB,ZY,ZY,Ip hd];let:=#[rfl,Zt ..]
theorem NS {b:Df}(h:At S x<|.tree b):xJ S x ["leaf","tree"]=true:=by
 let#[e,c,rfl,hd]:=h;let:=YB.mpr #[e,c,?_];rw[ZB,ZY,ZY,Ip hd];let:=#[rfl,Zp _<|Zt ..]
theorem RQ (h:Tree d S x):xJ S x ["leaf","tree"]=true:=by
 cases d with
 |zero=>let:=absurd h<|λz=>z
 |succ d =>
  rcases h with⟨ls,h⟩|⟨Dm,h,_⟩
  .let:=NR h
  .let:=NS h
theorem Bl {K:Co}{Q:VK}{E:XK}(sh:xr P w K C H a fp S)(ok:wK S)(g:uY t)(d:namesOk S t=true)(l:S.length<2000)(p:Dt K H t.dat v)
  (k:∀H2,Off fp H H2->xr P w K C H2 a fp (Cr S t).1->Q (.str (Cr S t).2) H2):tZ P w K C [.ref a,v] H Q E:=by
 let:=#[a,fp,S,t,v,rfl,sh,ok.th,p,g,l,λh=>by have:=Nd ok.num h;lia,d,λH2 u j r=>?_]
 .skip
  let#[of,b,c,n,q]:=r
  rcases q with q|⟨q,i,s⟩
  .rw[q]at c b;have f:=Fr ok #[j,c,rfl,n];rw[f]at k;let:=k H2 of b
  .have f:=HU λe o hd=>s<|Zo.mpr #[e,o,hd];rw[f]at k;rw[i]at q;rw[q]at b;rw[i];let:=k H2 of b
inductive sI (P:Ea)(w:Ef)(K:Co)(C:D8)(vs:Di)(H:Hp)(Q:VK)(e3:XK):Prop
 |mk (a d:D8) (fp:Dc) (S:Dh) (Dm:Df) (h0:vs=[.ref a,.ref d]) (h1:xr P w K C H a fp S) (h2:wK S) (h3:Rd H d<|.dK<|Ku Dm) (h4:(Dm.map (·.1)).Nodup) (h5:(∀r∈Dm,yB r.1=true/\xJ S r.2 ["leaf","tree"]=true)) (h6:Dm.length<=63) (h7:S.length<2000) (h8:∀H',Off fp H H'->xr P w K C H' a fp (Cr S<|.tree<|U0 Dm).1->Q (.str (Cr S<|.tree<|U0 Dm).2) H'):sI P w K C vs H Q e3
theorem qQ (h:xr P w K C H a fp S):∃dx d1 d2 d3,H a=some (.ins C dx<|OU d1 d2 d3):=by
 let#[_,dx,d1,d2,d3,_,_,_,_,b,_]:=h;let:=#[dx,d1,d2,d3,b]
namespace AE
abbrev st:Stmt:=top 57
theorem sc:zx ["thing","labels"] ["thing"] (zI st):=CC
include T in
theorem ok (F:xj0 K "is_path" st f fd)(t:wU P w K mg base 1 "is_label" ["thing"]<|Fw K):zc P w K mg base CA 2 f fd ["thing"] (lZ K):=by
 let:=F.ok sc λ_ _ _ _ H J Q E A h=>?_;let#[d,v,rfl,hd,D,k]:=h;let:=#[_,(zE (yG (xE<|zY (K:=K)<|zK (zZ (K:=K)) (by rfl) T.isinstance ZX<|zA (pv 0)<|zA (y6 (v:=.ty "str") rfl T.str Yq rfl) zC) (zF<|zQ xT) zU)<|zE (Cu (i:=1) sc.nd<|qW Y0 PySem.F.slot_str_split PySem.F.type_str_split HD (pv 0)<|zA zr zC)<|zF<|zQ<|xD (xC GS (zK zN (by rfl) T.len ZV<|zA (pv 1) zC) (qD (v:=.int 4) rfl T.mO #[_,rfl])<|zS _)<|qS<|zK (kM rfl) (by rfl) T.all Jp<|zA (yS (sc:=zI st) (N:=["thing","labels"]) (N':=["label"]) (src:=[none]) .a rfl rfl rfl (yR<|pv 1) (λ_ _ _ _=>(zR (i:=0) (show(["label"]:By).Nodup by lk) rfl (Ew rfl))) (λ_ _ _ _=>x5) (λ_ _ _ _=>(zJ t A.m<|zA (pv 0) zC))) zC),?_]
 let:=#[_,_,d,_,rfl,hd,T.is<|by simp[kinds],_,rfl,?_];cases d with
 |str x =>
  cases(show v=_ from hd);have L:=ZA D;let:=UB #[rfl,x,47,rfl,Sz,⋯,λl nl=>?_];rw[O7];have u:=zD (o:=.lst<|(UO x).map V.str) nl;let:=#[l,_,rfl,.inl<|za.of zB,_,rfl,UI (λj=>?_)<|λj=>?_]
  .have j:(UO x).length<=4:=by have:=ZA j;rw[Zj]at this;lia
   let:=#[l,rfl,#[_,za.of zB],kE (xs:=(UO x).map V.str) (λi r s n=>∃o,s=[o]/\zz (upd H l<|.lst<|(UO x).map V.str) n/\r=(((UO x).take i).map yB).map V.bl) #[none,rfl,zz.refl _,rfl] (zu (by rw[Zj];lia)) ?_ ?_ ?_]
   .rintro i r s n I ⟨o,rfl,g,rfl⟩;let:=#[za.of<|g _ _ zB,?_];rw[Zj,Zj,ZL];lia
   .rintro i y r s n c ⟨o,rfl,g,rfl⟩;rw[Zz]at c;cases q:(UO x)[i]? with
    |none=>rw[q]at c;cases c
    |some z =>
     rw[q]at c;have c:=Option.some.inj c;subst c;have M:=Hi<|Zy q;let:=#[.str z,_,rfl,rfl,Zm<|⋯,λG C=>#[_,rfl,g.trans C,?_]];rw[xO q,Zu];rfl
   .rintro r s n ⟨o,rfl,g,rfl⟩ p B;let:=#[p,_,rfl,za.of zB,?_];rw[Zj,ZS,all_map];have e:HN (.str x)=(UO x).all yB:=by
     show(decide ((UO x).length<=4)&&(UO x).all yB)=_;rw[Zm j];rfl
    rw[e]at k;let:=k _<|(u.trans g).trans<|zD B
  .have e:HN (.str x)=false:=by
    show(decide ((UO x).length<=4)&&(UO x).all yB)=_;rw[ZE<|λz=>j<|Zm (by rw[Zj];lia)];rfl
   rw[e]at k;let:=k _ u
 |none=>let:=UJ<|k _<|zz.refl _
 |bool b=>let:=UJ<|k _<|zz.refl _
 |int i=>let:=UJ<|k _<|zz.refl _
 |list ds=>let:=UJ<|k _<|zz.refl _
 |tuple ds=>let:=UJ<|k _<|zz.refl _
 |dict Dl=>let:=UJ<|k _<|zz.refl _
end AE
namespace AF
abbrev st:Stmt:=top 58
theorem sc:zx ["path","labels"] ["path"] (zI st):=CC
include T in
theorem ok (F:xj0 K "folders_of" st f fd):zc P w K mg base CA 1 f fd ["path"] (mq K):=by
 let:=F.ok sc λ_ _ _ _ H C Q E B h=>?_;let#[x,rfl,D,k]:=h;let:=#[_,(zE (Cu (i:=1) sc.nd<|qW Y0 PySem.F.slot_str_split PySem.F.type_str_split HD (pv 0)<|zA zr zC)<|zF<|zQ<|yS (sc:=zI st) (N:=["path","labels"]) (N':=["count","labels"]) (src:=[none,some 1]) .a rfl rfl rfl (Om rfl T.range<|zA zG<|zA (zK zN (by rfl) T.len ZV<|zA (pv 1) zC) zC) (λ_ _ _ _=>(zR (i:=0) (show(["count","labels"]:By).Nodup by lk) rfl (Ew rfl))) (λ_ _ _ _=>x5) (λ_ _ _ _=>(qW (K:=K) Y0 VT VU (Pu (K:=K)) zr<|zA (y7 (vh:FH _<|GN K) (pv 1) jO<|yZ<|pv 0) zC))),?_]
 have cl:=Hh x;have v:=O8 x;have j:("/":Str).length=1:=by lk
 let:=#[rfl,x,47,rfl,Sz,⋯,λl nl=>?_];rw[O7];have u:=zD (o:=.lst<|(UO x).map V.str) nl;let:=#[l,_,rfl,.inl<|za.of zB,1,(((UO x).map V.str).length:Int),rfl,#[∅,∅,⋯,by rw[Zj];lia],?_];have q:((((UO x).map V.str).length:Int)-1).toNat=(UO x).length-1:=by rw[Zj];lia
 rw[q];let:=uB (λi d e c=>∃o,e=[o,some<|.ref l]/\zz (upd H l<|.lst<|(UO x).map V.str) c/\d=((Eu i).map λi=>PySem.Txt.join "/"<|(UO x).take<|i+1).map V.str) #[none,rfl,zz.refl _,rfl] (zu<|⋯) ?_ ?_ ?_
 .rintro i d e c s ⟨o,rfl,b,rfl⟩;rw[Zj,Zj,YL];let:=Zn _
 .rintro i d e c s ⟨o,rfl,b,rfl⟩;let:=#[rfl,_,rfl,l,_,rfl,za.of<|b _ _ zB,λp g=>?_];have r:UX ((UO x).map V.str) none (some<|1+(i:Int))=((UO x).take<|i+1).map V.str:=by
   rw[CT<|⋯,JX]
   congr 1
   lia
  rw[r];let:=#["/",p,(UO x).take<|i+1,rfl,rfl,.inl<|za.of zB,?_,_,rfl,b.trans<|zD g,?_]
  .have z:=MJ (n:=1000) ((UO x).take<|i+1) (λy t=>by have:=Hi<|Yf t;lia);have A:((UO x).take<|i+1).length<=1001:=by rw[ZL];lia
   let:=zu ?_;rw[j];lia
  .rw[JE,Zu,Zu];rfl
 .rintro d e c ⟨o,rfl,b,rfl⟩ p g;let:=k p _ ((u.trans b).trans<|zD g)<|za.of zB
end AF
namespace AG
abbrev st:Stmt:=top 59
theorem sc:zx ["path","lines"] ["path","lines"] (zI st):=CC
include T in
theorem ok (F:xj0 K "is_file" st f fd)(i:wU P w K mg base 2 "is_path" ["thing"]<|lZ K)(j:wU P w K mg base 3 "is_lines" ["thing"]<|Fx K):zc P w K mg base CA 4 f fd ["path","lines"] (mF K):=by
 let:=F.ok sc λ_ _ _ _ H s Q E g h=>?_;let#[d,e,v,u,rfl,hd,l,o,p,k]:=h;let:=#[_,(zF<|zQ<|xD (zJ i g.m<|zA (pv 0) zC)<|qS<|zJ j g.m<|zA (pv 1) zC),?_];let:=#[d,v,rfl,hd,o,λq c=>#[_,rfl,UI (λb=>?_)<|λb=>?_]]
 .rw[b,Bool.true_and]at k;let:=#[e,u,rfl,Dw.same c _ _ l,p,λr n=>k _<|c.trans n]
 .have b:=JT.mpr b;rw[b]at k;let:=k _ c
end AG
namespace AH
abbrev st:Stmt:=top 62
theorem sc:zx ["shelf","rows"] ["shelf","rows"] (zI st):=CC
include T in
theorem ok (F:xj0 K "put_rows" st f fd)(L:Met P w K mg base aC 7 "put" ["self","thing"]<|tZ P w K aC):zc P w K mg base CA 8 f fd ["shelf","rows"] (sI P w K aC):=by
 let:=F.ok sc λ_ _ _ _ H vs Q E C h=>?_;let#[a,d,fp,S,i,rfl,sh,ok,hd,nd,j,rl,sl,k]:=h;let#[X,i1,i2,i3,s]:=qQ sh;let:=#[_,(zF<|zQ<|yK (pv 0) T.cls L C.m<|zA (yW<|zA zr<|zA (zW xA (by rfl) T.tuple Yp<|zA (PQ (K:=K) rfl C.units (by rfl) T.sorted PyProof.Rows.boot_sorted<|pv 1) zC) zC) zC),?_];have n:∀r∈i,yB r.1=true/\Ok 1000 r.2:=λr m=>by
  let#[e,U,O]:=Zo.mp<|RO (j r m).2;let:=#[(j r m).1,by rw[<-O];let:=ok.nm U]
 let:=#[a,X,_,rfl,s,rfl,d,i,rfl,hd,⋯,λp B=>#[(BQ (n p B).1).ok,(n p B).2.ok],λl ss z I Z so sm nl hl N=>?_];have R:=Ri nd Z so;subst R;let:=#[l,_,rfl,.inl #[za.of hl,λq n2=>?_]];have G:=zD (o:=.tup z) n2;let:=#[UC 2,λv Y=>?_];have A:=zD (o:=.tup [V.str "tree",V.ref q]) Y;have c:=(sm.trans G).trans A;have M:Dt K (upd (upd I q<|.tup z) v<|.tup [V.str "tree",V.ref q]) (Th.tree<|U0 i).dat (.ref v):=#[v,_,rfl,yh.of zB,_,_,rfl,rfl,_,_,rfl,#[q,z,rfl,yh.of<|A _ _ zB,zy.same (G.trans A) _ _ N],rfl];have D:∀{r},r∈U0 i↔r∈i:=(yL i).mem_iff;have g:=NW (λr m=>n r<|D.mp m) (Sv<|Kb nd) (by rwa[(yL i).length_eq]);have t:=ZQ.mpr λr m=>(j r<|D.mp m).2;delta X7;let:=Bl (sh.same c) ok g t sl M λJ u y=>k J (λb o nb e=>u b o nb<|c _ _ e) y
end AH
def IR (P:Ea)(w:Ef)(K:Co)(C:D8):Nat->Sp
 | 0=>λ_ _ _ _=>False
 |d+1=>λg H Q _=>∃(a c:D8) (b:Dc) (S:Dh) (fs:Dj) (f:Dk),g=[.ref a,.ref c]/\xr P w K C H a b S/\wK S/\H c=some (.dK f)/\c∉b/\wL K H fs f/\xq (d+1) fs/\fs.length<=63/\S.length+1+wt fs<=2000 /\
  ∀e,Off b H e->xr P w K C e a b (UD (d+1) S fs).1->Q (.str (UD (d+1) S fs).2) e
theorem yc {b:Type}{l:List b}{i:Nat}{x:b}(h:l[i]?=some x):l.take (i+1)=l.take i++[x]:=by rw[YK,h];rfl
inductive PfI (P:Ea)(w:Ef)(K:Co)(aC:D8)(H1:Hp)(a c rw' fo:D8)(fp:Dc)(fs:Dj)(S:Dh)(i:Nat)(σ:St)(H':Hp):Prop
 |mk (o4 o5 o6 o7 o8:Option V) (fa:List<|Str×D8) (h0:σ=[some<|.ref a,some<|.ref c,some<|.ref rw',some<|.ref fo,o4,o5,o6,o7,o8]) (h1:xr P w K aC H' a fp ((CB<|fs.take i).foldl Cp (S,[])).1) (h2:H' rw'=some (.dK<|Ku ((CB<|fs.take i).foldl Cp (S,[])).2)) (h3:H' fo=some (.dK<|CF fa)) (h4:vm K H1 H' (fs.take i) fa) (h5:Off (rw'::fo::fp) H1 H'):PfI P w K aC H1 a c rw' fo fp fs S i σ H'
inductive PgI (P:Ea)(w:Ef)(K:Co)(aC:D8)(H1 H:Hp)(a c rw' fo:D8)(fp:Dc)(d:Nat)(fs:Dj)(S:Dh)(fa:List<|Str×D8)(ob2:Obj)(j:Nat)(σ:St)(H':Hp):Prop
 |mk (o4 o5 o6 o7 o8:Option V) (h0:σ=[some<|.ref a,some<|.ref c,some<|.ref rw',some<|.ref fo,o4,o5,o6,o7,o8]) (h1:xr P w K aC H' a fp (((CD fs).take j).foldl (Cw d fs)<|(CB fs).foldl Cp (S,[])).1) (h2:H' rw'=some (.dK<|Ku (((CD fs).take j).foldl (Cw d fs)<|(CB fs).foldl Cp (S,[])).2)) (h3:H' fo=some (.frz ob2<|.dK<|CF fa)) (h4:vm K H1 H' fs fa) (h5:Off fp H H'):PgI P w K aC H1 H a c rw' fo fp d fs S fa ob2 j σ H'
namespace AI
abbrev st:Stmt:=top 64
theorem sc:zx ["shelf","files","rows","folders","path","lines","parts","label","beneath"] ["shelf","files"] (zI st):=CC
theorem step {L d:Nat}(F:xj0 K "put_files" st f fd)(T:Txt P w K mg t1 t2 t3 t4 t5 t6 t7 t8 t9 aL aC aN aP fI)(Qa:Met P w K mg base aC 7 "put" ["self","thing"]<|tZ P w K aC)(Qk:wU P w K mg base 8 "put_rows" ["shelf","rows"]<|sI P w K aC)(hL:8<=L)(hd:d<=100)(Qx:wU P w K mg base L "put_files" ["shelf","files"]<|IR P w K aC d):zc P w K mg base CA (L+1) f fd ["shelf","files"] (IR P w K aC<|d+1):=by
 let:=F.ok sc λ_ _ _ _ H vs Q E hr h=>?_;let#[a,c,A,S,fs,Dl,rfl,sh,ok,hc,c1,ff,gf,fl,sl,k]:=h;have hu:=M5 hr;let:=#[_,(zE (Cu (i:=2) sc.nd xM)<|zE (Cu (i:=3) sc.nd xM)<|zE (Iu<|yM Ep rfl (IM<|Gm<|pv 1) (Xg rfl<|yO (zR (i:=4) sc.nd rfl<|Ew rfl)<|yO (zR (i:=5) sc.nd rfl<|Ew rfl) kS)<|zE (Cu (i:=6) sc.nd<|qW Y0 PySem.F.slot_str_partition PySem.F.type_str_partition GM (pv 4)<|zA zr zC)<|zE (Cu (i:=7) sc.nd<|zV (zj:Cy _<|yr K) (pv 6) zG)<|zF<|yG (zO yX (pv 7) (pv 4)<|zS _) (zF<|xR hu (pv 2) (pv 7) (yK (pv 0) T.cls Qa (hr.mono<|⋯)<|zA (yW<|zA zr<|zA (pv 5) zC) zC) rfl)<|zE (Cu (i:=8) sc.nd<|GG hu (pv 3) (pv 7) xM #[rfl,rfl,rfl,rfl])<|zE (xR hu (pv 8) (zV (zj:Cy _<|yr K) (pv 6) zG) (pv 5) rfl)<|zF<|xR hu (pv 3) (pv 7) (pv 8) rfl)<|zE (Iu<|yM Ep rfl (IM<|Gm<|pv 3) (Xg rfl<|yO (zR (i:=7) sc.nd rfl<|Ew rfl)<|yO (zR (i:=8) sc.nd rfl<|Ew rfl) kS)<|zF<|xR hu (pv 2) (pv 7) (zJ Qx (hr.mono<|⋯)<|zA (pv 0)<|zA (pv 8) zC) rfl)<|zF<|zQ<|zJ Qk (hr.mono<|⋯)<|zA (pv 0)<|zA (pv 2) zC),?_]
 let:=λg dd=>?_;have u1:=zD (o:=.dK []) dd;let:=λn c2=>?_;have u2:=zD (o:=.dK []) c2;have sb:=u1.trans u2;have dk:upd (upd H g (.dK [])) n (.dK []) g=some (.dK<|Ku []):=u2 _ _ zB;have di:upd (upd H g (.dK [])) n (.dK []) n=some (.dK<|CF []):=zB;have de:=sh.same sb;have ci:=sb _ _ hc;have c6:=ff.same sb;have bm:H g=none:=dd;have a0:H n=none:=u1.free c2;have rf:g≠n:=zL (zB (H:=H) (a:=g) (o:=.dK [])) c2;generalize upd (upd H g (.dK [])) n (.dK [])=Hb at sb dk di de ci c6 ⊢;have cr:c≠g:=zL hc bm;have cf:c≠n:=zL hc a0;let:=#[c,Dl,rfl,ci,λob=>?_];have bx:upd Hb c (.frz ob<|.dK Dl) c=some (.frz ob<|.dK Dl):=zB;have nz:∀{b:D8},b≠c->upd Hb c (.frz ob<|.dK Dl) b=Hb b:=λ{b} z=>zH z;have oz:Off [c] Hb (upd Hb c<|.frz ob<|.dK Dl):=z6;have b4:xr P w K aC (upd Hb c<|.frz ob<|.dK Dl) a A S:=de.off (yC ci) oz λb M z=>c1<|Zk.mp z▸M;have c7:=c6.off (yC ci) oz;have b2:upd Hb c (.frz ob<|.dK Dl) g=some (.dK<|Ku []):=by rwa[nz<|Er cr]
 have bd:upd Hb c (.frz ob<|.dK Dl) n=some (.dK<|CF []):=by rwa[nz<|Er cf]
 generalize upd Hb c (.frz ob<|.dK Dl)=H1 at bx nz oz b4 c7 b2 bd ⊢;have c5:∀b∈g::n::A,∃o,H1 b=some o:=λb M=>by
  rcases Zx.mp M with z|M
  .rw[z];let:=#[_,b2]
  .rcases Zx.mp M with z|M
   .rw[z];let:=#[_,bd]
   .let:=b4.ex b M
 have cm:g∉A:=λz=>by
  let#[o,e]:=sh.ex _ z;rw[bm]at e;cases e
 have bo:n∉A:=λz=>by
  let#[o,e]:=sh.ex _ z;rw[a0]at e;cases e
 have cX:c∉g::n::A:=λz=>by
  rcases Zx.mp z with z|z
  .let:=cr z
  .rcases Zx.mp z with z|z
   .let:=cf z
   .let:=c1 z
 have kl:Dl.length=fs.length:=ff.len;have dm:∀b∈g::n::A,∀xs,¬Rd H1 b (.tup xs):=λb M=>by
  rcases Zx.mp M with z|M
  .let:=yC b2 b (Zk.mpr z)
  .rcases Zx.mp M with z|M
   .let:=yC bd b (Zk.mpr z)
   .let:=b4.wZ.tup b M
 let:=#[c,ob,Dl,rfl,bx,XF (PfI P w K aC H1 a c g n A fs S) #[none,none,none,none,none,[],rfl,b4,b2,bd,vm.nil,Off.refl _ _] (λi σ H' hi h=>?_) ?_ ?_]
 .let#[_,_,_,_,_,_,_,_,_,_,_,o]:=h;let:=o _ _ cX bx
 .rintro i kk v T0 σ H' D' B hi nT hD hB ⟨o4,o5,o6,o7,o8,s,rfl,N,Z,an,Fl,G⟩;let#[f,cw,rfl,dv,a4]:=c7.get hi;let#[cg,ce,b3]:=WX ok gf sl i;have cc:=yc cw;have c8:=gf.ur f<|Zy cw;have c4:Dt K H' (AnJ.yu f.2) v:=Dt.off dm G _ _ (v8 a4) dv;have uT:=zD (o:=.tup [kV<|.inr<|Cv f.1,v]) nT;let:=hB #[T0,_,rfl,yh.of zB,rfl,_,_,rfl,_,_,rfl,rfl,hid λB hB=>?_];have bh:=N.same uT;have b0:=uT _ _ Z;have a1:=uT _ _ an;have a7:=Fl.same uT;have bf:=G.trans<|Off.of uT;have co:=Dt.same uT _ _ c4;generalize upd H' T0 (.tup [kV<|.inr<|Cv f.1,v])=H2 at bh b0 a1 a7 bf co hB;clear N Z an Fl G c4 nT uT;have go:∀{Y:Hp},zz H2 Y->xr P w K aC Y a A ((CB<|fs.take i).foldl Cp (S,[])).1/\Y g=some (.dK<|Ku ((CB<|fs.take i).foldl Cp (S,[])).2)/\Y n=some (.dK<|CF s)/\vm K H1 Y (fs.take i) s/\Off (g::n::A) H1 Y/\Dt K Y (AnJ.yu f.2) v:=λ{Y} e=>#[bh.same e,e _ _ b0,e _ _ a1,a7.same e,bf.trans<|Off.of e,Dt.same e _ _ co];have a9:∀{Y:Hp} {b:D8},xr P w K aC Y a A ((CB<|fs.take i).foldl Cp (S,[])).1->Y g=some (.dK<|Ku ((CB<|fs.take i).foldl Cp (S,[])).2)->Y n=some (.dK<|CF s)->Off (g::n::A) H1 Y->Y b=none->H1 b=none:=λ{Y b} h1 h2 h3 o z=>by
   cases q:H1 b with
   |none=>rfl
   |some x =>
    by_cases m:b∈g::n::A
    .rcases Zx.mp m with y|m
     .rw[y,h2]at z;cases z
     .rcases Zx.mp m with y|m
      .rw[y,h3]at z;cases z
      .let#[o',e']:=h1.ex b m;rw[e']at z;cases z
    .rw[o b x m q]at z;cases z
  have ql:((CB<|fs.take i).foldl Cp (S,[])).2.length<=63:=by
   have:=congrArg List.length b3;rw[Zj,Zj]at this;have h2:=jH<|fs.take i;rw[ZL]at h2;lia
  match e1:f.1,c8 with
  |[],gl=>let:=absurd rfl gl.1
  |[l],gl =>
   have ep:Cv [l]=l:=P1 l;rw[e1,ep]at hB;have cz:yB l=true:=gl.2.2.1 l<|Zk.mpr rfl;let:=hB #[rfl,.inr #[l,47,rfl,Sz,qI cz,λp np=>?_]];have up:=zD (o:=.tup [V.str l,V.str "",V.str ""]) np;let#[O,aa,C,J,al,a8]:=go up;let:=#[p,_,_,_,rfl,rfl,yh.of zB,rfl,?_];let:=#[rfl,true,?_,UJ ?_]
   .show V.bl (decide (V.str l=V.str l))=V.bl true;rw[Zm rfl]
   generalize upd H2 p (.tup [V.str l,V.str "",V.str ""])=Y at O aa C J al a8 ⊢;let#[ix,i1,i2,i3,dj]:=qQ O;let:=#[a,ix,_,rfl,dj,rfl,UC 2,λp4 n4=>?_];have v4:=zD (o:=.tup [V.str "leaf",v]) n4;let#[vp,du,rfl,vt,vd]:=id a8;have d0:Dt K (upd Y p4<|.tup [V.str "leaf",V.ref vp]) (Th.leaf f.2).dat (.ref p4):=#[p4,_,rfl,yh.of zB,_,_,rfl,rfl,_,_,rfl,Dt.same v4 _ _ a8,rfl];have a6:=O.same v4;have be:=v4 _ _ aa;have a2:=v4 _ _ C;have U:=J.same v4;have as:=al.trans<|Off.of v4;delta X7;dsimp only;show tZ P w K aC [V.ref a,V.ref p4] (upd Y p4<|.tup [V.str "leaf",V.ref vp]) _ _;generalize upd Y p4 (.tup [V.str "leaf",V.ref vp])=H4 at d0 a6 be a2 U as ⊢;have el:CB (fs.take<|i+1)=CB (fs.take i)++[(l,f.2)]:=by rw[cc,Xs,e1]
   have ef:(CB<|fs.take<|i+1).foldl Cp (S,[])=Cp ((CB<|fs.take i).foldl Cp (S,[])) (l,f.2):=by rw[el,Yl];rfl
   have nl:l∉((CB<|fs.take i).foldl Cp (S,[])).2.map (·.1):=λz=>by
    rw[b3]at z;have nd:=Pp (fs:=fs.take<|i+1) (by rw[JX];let:=gf.nd.sublist<|Vn _ _);rw[el,Zu,Y5]at nd;let:=nd.2.2 l z l (Zk.mpr rfl) rfl
   have c3:=U.one (f:=f) e1;rw[<-cc]at c3;clear a9 go b3;generalize (CB<|fs.take i).foldl Cp (S,[])=q at a6 be cg ce ef nl ql;let:=Bl a6 cg (uD a4.2 a4.1) rfl ce d0 λH5 I R=>?_;have ab:H5 g=_:=I _ _ cm be;have D:H5 n=_:=I _ _ bo a2;have t:=c3.off (X:=A) (λc hc=>c5 c<|Zp _<|Zp _ hc) a6.wZ.tup I;have a5:Off (g::n::A) H1 H5:=λb o nb e=>I b o (λz=>nb<|Zp _<|Zp _ z) (as b o nb e);let:=#[g,_,rfl,tW.k (k:=.inr l) ab<|yJ (by unfold Ku;rw[Zj];lia),hD.nx _ _ #[_,_,_,_,_,s,rfl,?_,?_,?_,?_,?_]]
   .rw[ef];let:=R.off (yC ab) z6 λb M z=>cm<|Zk.mp z▸M
   .rw[ef,zB,Nq nl];rfl
   .rwa[zH<|Er rf]
   .let:=t.off (X:=[g]) (λc hc=>by rw[Zk.mp hc];let:=#[_,b2]) (yC ab) z6
   .let:=a5.upd (Zt ..)
  |l::b::r,gl =>
   have ep:Cv (l::b::r)=l++#[#v[47]]++Cv (b::r):=Sn l b r;have cz:yB l=true:=gl.2.2.1 l<|Zt ..;have pl:(Cv (l::b::r)).length<=100000:=by
    have:=Fq gl.2.2.1;rw[yx];lia
   have el:CB (fs.take<|i+1)=CB (fs.take i):=by rw[cc,Xs,e1];let:=ZW _
   have dt:=SD gf cw e1;rw[e1]at hB;let:=hB #[rfl,.inl #[l,Cv (b::r),47,by rw[ep];rfl,Sz,qI cz,by rw[<-ep];let:=pl,λp np=>?_]];have up:=zD (o:=.tup [V.str l,V.str #[#v[47]],V.str<|Cv (b::r)]) np;let#[O,aa,C,J,al,a8]:=go up;have cx:upd H2 p (.tup [V.str l,V.str #[#v[47]],V.str<|Cv (b::r)]) p=some (.tup [V.str l,V.str #[#v[47]],V.str<|Cv (b::r)]):=zB;let:=#[p,_,_,_,rfl,rfl,yh.of zB,rfl,?_];let:=#[rfl,false,?_,UB ?_]
   .show V.bl (decide (V.str l=V.str (Cv (l::b::r))))=V.bl false;rw[ZE λz=>T8 l b r<|by injection z]
   generalize upd H2 p (.tup [V.str l,V.str #[#v[47]],V.str<|Cv (b::r)])=Y at O aa C J al a8 cx ⊢;let:=#[n,rfl,.inl #[_,.inl C],λe ne=>?_];have ue:=zD (o:=.dK []) ne;have cq:H1 e=none:=a9 O aa C al ne;have a6:=O.same ue;have be:=ue _ _ aa;have a2:=ue _ _ C;have U:=J.same ue;have as:=al.trans<|Off.of ue;have cp:=Dt.same ue _ _ a8;have cy:=ue _ _ cx;have cj:upd Y e (.dK []) e=some (.dK []):=zB;have dl:∀q∈s,q.2≠e:=λq hq z=>by
    let#[kq,db,_]:=J.at_ q hq;rw[z,ne]at db;cases db
   generalize upd Y e (.dK [])=H4 at a6 be a2 U as cp cy cj ⊢;clear bh b0 a1 a7 bf co go a9 O aa C J al a8 cx up np;have c0:s.map (·.1)=CD (fs.take i):=U.ur;have cu:s.length<=63:=by
    have:=congrArg List.length c0;rw[Zj]at this;have h2:=jH<|fs.take i;rw[ZL]at h2;lia
   have dc:∀{x:D8},H1 x=none->x∉g::n::A:=λ{x} hx z=>by
    let#[o',e']:=c5 x z;rw[hx]at e';cases e'
   by_cases inl:l∈CD (fs.take i)
   .have cl:l∈s.map (·.1):=by rwa[c0]
    let#[pr,a3,ct]:=Zo.mp cl;let#[ch,pb]:=pr;have ct:ch=l:=ct;subst ct;have vv:=vL U.qt a3;let:=#[_,wu.k (k:=.inr ch) a2,?_];rw[vv];let#[kb,M,fb]:=U.at_ _ a3;have M:H4 pb=some (.dK kb):=M;have fb:wL K H4 (sub (fs.take i) ch) kb:=fb;have nb:H1 pb=none:=U.new _ a3;have ds:kb.length<=63:=by
     have:=fb.len;have h2:=sub_len (fs:=fs.take i) (l:=ch);rw[ZL]at h2;lia
    let:=#[p,_,_,_,rfl,rfl,yh.of cy,rfl,pb,_,rfl,tW.k (k:=.inr<|Cv (b::r)) M<|yJ<|⋯,?_];have pn:yp kb (.inr<|Cv (b::r)) v=kb++[(.inr<|Cv (b::r),v)]:=kZ (by rwa[fb.keys]);rw[pn];have t:=U.old a3 M fb e1 cp a4;rw[<-cc]at t;have bX:=dc nb;have cb:g≠pb:=λz=>bX (by rw[<-z];let:=Zt ..);have b5:n≠pb:=λz=>bX (by rw[<-z];let:=Zp _<|Zt ..);have ca:pb∉A:=λz=>bX<|Zp _<|Zp _ z;have I:Off (g::n::A) H1 (upd H4 pb<|.dK<|kb++[((.inr (Cv (b::r)):Key),v)]):=λx o nx ex=>by
     rw[zH (λz=>by rw[z,nb]at ex;cases ex)];let:=as x o nx ex
    have R:=a6.off (yC M) (z6 (o:=.dK<|kb++[((.inr (Cv (b::r)):Key),v)])) λx hx z=>ca (by rwa[<-Zk.mp z]);have ab:=(zH (o:=.dK<|kb++[((.inr (Cv (b::r)):Key),v)]) cb).trans be;have D:=(zH (o:=.dK<|kb++[((.inr (Cv (b::r)):Key),v)]) b5).trans a2;generalize upd H4 pb (.dK<|kb++[((.inr (Cv (b::r)):Key),v)])=H5 at t I R ab D ⊢;let:=#[n,_,rfl,tW.k (k:=.inr ch) D<|yJ (by unfold CF;rw[Zj];lia),hD.nx _ _ #[_,_,_,_,_,s,rfl,?_,?_,?_,?_,?_]]
    .rw[el];let:=R.off (yC D) z6 λx hx z=>bo<|Zk.mp z▸hx
    .rwa[el,zH rf]
    .rw[zB];let:=congrArg (λz=>some<|HO.dK z) (F6 U.qt a3)
    .let:=t.off (X:=[n]) (λc hc=>by rw[Zk.mp hc];let:=#[_,bd]) (yC D) z6
    .let:=I.upd (Zp _<|Zt ..)
   .have cl:l∉s.map (·.1):=by rwa[c0]
    have vv:=OT cl;let:=#[_,wu.k (k:=.inr l) a2,?_];rw[vv];let:=#[p,_,_,_,rfl,rfl,yh.of cy,rfl,e,_,rfl,tW.k (k:=.inr<|Cv (b::r)) cj<|yJ (by show 0<16777216;decide),?_];have bX:=dc cq;have cb:g≠e:=λz=>bX (by rw[<-z];let:=Zt ..);have b5:n≠e:=λz=>bX (by rw[<-z];let:=Zp _<|Zt ..);have ca:e∉A:=λz=>bX<|Zp _<|Zp _ z;have pn:yp ([]:Dk) (.inr<|Cv (b::r)) v=[(.inr<|Cv (b::r),v)]:=rfl;rw[pn];have t:=U.gZ inl cj cq dl e1 cp a4;rw[<-cc]at t;have I:Off (g::n::A) H1 (upd H4 e<|.dK [((.inr (Cv (b::r)):Key),v)]):=λx o nx ex=>by
     rw[zH (λz=>by rw[z,cq]at ex;cases ex)];let:=as x o nx ex
    have R:=a6.off (yC cj) (z6 (o:=.dK [((.inr (Cv (b::r)):Key),v)])) λx hx z=>ca (by rwa[<-Zk.mp z]);have ab:=(zH (o:=.dK [((.inr (Cv (b::r)):Key),v)]) cb).trans be;have D:=(zH (o:=.dK [((.inr (Cv (b::r)):Key),v)]) b5).trans a2;generalize upd H4 e (.dK [((.inr (Cv (b::r)):Key),v)])=H5 at t I R ab D ⊢;let:=#[n,_,rfl,tW.k (k:=.inr l) D<|yJ (by unfold CF;rw[Zj];lia),hD.nx _ _ #[_,_,_,_,_,s++[(l,e)],rfl,?_,?_,?_,?_,?_]]
    .rw[el];let:=R.off (yC D) z6 λx hx z=>bo<|Zk.mp z▸hx
    .rwa[el,zH rf]
    .rw[zB];let:=congrArg (λz=>some<|HO.dK z) (F5 cl)
    .let:=t.off (X:=[n]) (λc hc=>by rw[Zk.mp hc];let:=#[_,bd]) (yC D) z6
    .let:=I.upd (Zp _<|Zt ..)
 .rintro σ H' ⟨o4,o5,o6,o7,o8,s,rfl,N,Z,an,Fl,G⟩;rw[kl,ZS]at N Z Fl;let:=#[c,ob,Dl,G _ _ cX bx,λo u z=>?_,?_]
  .have z:H c=some (.frz o u):=z;rw[hc]at z;cases z
  have c9:=G _ _ cX bx;have cd:∀x∈[c],∀xs,¬Rd H' x (.tup xs):=λx hx xs z=>by
   rw[Zk.mp hx]at z
   rcases z with z|⟨o,z⟩<;>rw[c9]at z<;>cases z
  have oc:Off [c] H' (upd H' c<|.dK Dl):=z6;have bh:xr P w K aC (upd H' c<|.dK Dl) a A ((CB fs).foldl Cp (S,[])).1:=N.off cd oc λx hx z=>c1<|Zk.mp z▸hx;have b0:upd H' c (.dK Dl) g=some (.dK<|Ku ((CB fs).foldl Cp (S,[])).2):=by rwa[zH<|Er cr]
  have a1:upd H' c (.dK Dl) n=some (.dK<|CF s):=by rwa[zH<|Er cf]
  have a7:vm K H1 (upd H' c<|.dK Dl) fs s:=Fl.off (X:=[c]) (λx hx=>by rw[Zk.mp hx];let:=#[_,bx]) cd oc;have bf:Off A H (upd H' c<|.dK Dl):=λx o nx ex=>by
   by_cases z:x=c
   .rw[z,zB];rw[z,hc]at ex;let:=ex
   .rw[zH z];let:=G x o (λq=>?_) (by rw[nz z];let:=sb _ _ ex)
    rcases Zx.mp q with q|q
    .rw[q,bm]at ex;cases ex
    .rcases Zx.mp q with q|q
     .rw[q,a0]at ex;cases ex
     .let:=nx q
  generalize upd H' c (.dK Dl)=H2 at bh b0 a1 a7 bf ⊢;clear N Z an Fl G c9 cd oc;let:=#[n,CF s,rfl,a1,λai=>?_];have al:Off [n] H2 (upd H2 n<|.frz ai<|.dK<|CF s):=z6;have C:upd H2 n (.frz ai<|.dK<|CF s) n=some (.frz ai<|.dK<|CF s):=zB;have O:xr P w K aC (upd H2 n<|.frz ai<|.dK<|CF s) a A ((CB fs).foldl Cp (S,[])).1:=bh.off (yC a1) al λx hx z=>bo<|Zk.mp z▸hx;have aa:upd H2 n (.frz ai<|.dK<|CF s) g=some (.dK<|Ku ((CB fs).foldl Cp (S,[])).2):=by rwa[zH rf]
  have J:vm K H1 (upd H2 n<|.frz ai<|.dK<|CF s) fs s:=a7.off (X:=[n]) (λx hx=>by rw[Zk.mp hx];let:=#[_,bd]) (yC a1) al;have as:Off A H (upd H2 n<|.frz ai<|.dK<|CF s):=λx o nx ex=>by
   rw[zH (λz=>by rw[z,a0]at ex;cases ex)];let:=bf x o nx ex
  generalize upd H2 n (.frz ai<|.dK<|CF s)=Y at al C O aa J as ⊢;have cu:s.map (·.1)=CD fs:=J.ur;have cv:(CF s).length=(CD fs).length:=by rw[<-cu,Zj];unfold CF;rw[Zj]
  have dq:(CB fs).length+(CD fs).length<=63:=by have:=jH fs;lia
  let:=#[n,ai,CF s,rfl,C,XF (PgI P w K aC H1 H a c g n A d fs S s ai) #[o4,o5,o6,o7,o8,rfl,O,aa,C,J,as] (λj σ H' hj h=>?_) ?_ ?_]
  .let#[_,_,_,_,_,_,_,_,hf,_]:=h;let:=hf
  .clear O aa C J as bh b0 a1 a7 bf;rintro j kk v T0 σ H' D' B hj nT hD hB ⟨o4,o5,o6,o7,o8,rfl,N,Z,an,Fl,G⟩;unfold CF at hj;rw[Zz]at hj;let#[pr,da,hj]:=ZO.mp hj;let#[l,b]:=pr;have hj:((.inr l:Key),V.ref b)=(kk,v):=hj;cases hj;have a3:=Zy da;have ck:(CD fs)[j]?=some l:=by rw[<-cu,Zz,da];rfl
   let#[cg,ce,b3]:=aX ok gf fl sl ck;have uT:=zD (o:=.tup [V.str l,V.ref b]) nT;let:=hB #[T0,_,rfl,yh.of zB,rfl,_,_,rfl,_,_,rfl,rfl,?_];have R:=N.same uT;have ab:=uT _ _ Z;have D:=uT _ _ an;have t:=Fl.same uT;have I:=G.trans<|Off.of uT;show SY _ _ _ _ _ (upd H' T0<|.tup [V.str l,V.ref b]);generalize upd H' T0 (.tup [V.str l,V.ref b])=H5 at R ab D t I ⊢;clear N Z an Fl G uT nT;let#[kb,M,fb]:=t.at_ _ a3;have M:H5 b=some (.dK kb):=M;have fb:wL K H5 (sub fs l) kb:=fb;have nb:H1 b=none:=t.new _ a3;have dh:b∉A:=λz=>by
    let#[o',e']:=b4.ex b z;rw[nb]at e';cases e'
   cases d with
   |zero =>
    let#[f,hf,b,r,ef]:=((xB fs).2 l).mp<|Zy ck;have:=(gf.ur f hf).2.1;rw[ef,ZH,ZH]at this;lia
   |succ d =>
    have el:(CD fs).take (j+1)=(CD fs).take j++[l]:=yc ck;have ef:((CD fs).take<|j+1).foldl (Cw (d+1) fs) ((CB fs).foldl Cp (S,[]))=Cw (d+1) fs (((CD fs).take j).foldl (Cw (d+1) fs)<|(CB fs).foldl Cp (S,[])) l:=by rw[el,Yl];rfl
    have nl:l∉(((CD fs).take j).foldl (Cw (d+1) fs)<|(CB fs).foldl Cp (S,[])).2.map (·.1):=λz=>by
     rw[b3]at z;have nd:=XD gf;have e0:(pieces fs).map (·.1)=(CB fs).map (·.1)++CD fs:=by
      unfold pieces;rw[Zu,ZK,ZK]
      congr 1
      let:=JK _
     rw[e0,<-Y8 j (CD fs),<-Yk,Y5]at nd;have hd:(CD fs).drop j=l::(CD fs).drop (j+1):=by
      have:=(ZC.mp ck);rw[<-this.2];let:=Yv this.1
     let:=nd.2.2 l z l (by rw[hd];let:=Zt ..) rfl
    have ql:(((CD fs).take j).foldl (Cw (d+1) fs)<|(CB fs).foldl Cp (S,[])).2.length<=63:=by
     have:=congrArg List.length b3;rw[Zj,Zq,Zj,ZL]at this;lia
    generalize ((CD fs).take j).foldl (Cw (d+1) fs) ((CB fs).foldl Cp (S,[]))=q at R ab cg ce ef nl ql;let:=#[a,b,A,q.1,sub fs l,kb,rfl,R,cg,M,dh,fb,gf.sub l,Z2 sub_len fl,ce,λH6 a5 cn=>?_];have b1:H6 g=_:=a5 _ _ cm ab;have dr:H6 n=_:=a5 _ _ bo D;have df:=t.off (X:=A) (λc hc=>b4.ex c hc) R.wZ.tup a5;let:=#[g,_,rfl,tW.k (k:=.inr l) b1<|yJ (by unfold Ku;rw[Zj];lia),hD.nx _ _ #[_,_,_,_,_,rfl,?_,?_,?_,?_,?_]]
    .rw[ef];let:=cn.off (yC b1) z6 λx hx z=>cm<|Zk.mp z▸hx
    .rw[ef,zB,Nq nl];rfl
    .rwa[zH<|Er rf]
    .let:=df.off (X:=[g]) (λc hc=>by rw[Zk.mp hc];let:=#[_,b2]) (yC b1) z6
    .intro x o nx ex;rw[zH (λz=>by rw[z,bm]at ex;cases ex)];let:=a5 x o nx<|I x o nx ex
  .rintro σ H' ⟨o4,o5,o6,o7,o8,rfl,N,Z,an,Fl,G⟩;rw[cv,ZS]at N Z;let:=#[n,ai,CF s,an,λo u z=>?_,?_]
   .have z:H n=some (.frz o u):=z;rw[a0]at z;cases z
   have cd:∀x∈[n],∀xs,¬Rd H' x (.tup xs):=λx hx xs z=>by
    rw[Zk.mp hx]at z
    rcases z with z|⟨o,z⟩<;>rw[an]at z<;>cases z
   have cn:=N.off cd (z6 (o:=.dK<|CF s)) λx hx z=>bo<|Zk.mp z▸hx;have b1:=(zH (o:=.dK<|CF s) rf).trans Z;have a5:Off A H (upd H' n<|.dK<|CF s):=λx o nx ex=>by
    rw[zH (λz=>by rw[z,a0]at ex;cases ex)];let:=G x o nx ex
   have fe:=OS ok gf fl sl (q:=(CD fs).foldl (Cw d fs)<|(CB fs).foldl Cp (S,[])) rfl;have pf:=vK d S fs;rw[pf]at k;generalize (CD fs).foldl (Cw d fs) ((CB fs).foldl Cp (S,[]))=q at cn b1 fe k;let#[g1,g2,g3,g4,g5]:=fe;let:=#[a,g,A,q.1,q.2,rfl,cn,g1,.inl b1,g3,λr hr=>#[(g4 r hr).1,let #[e,te]:=(g4 r hr).2;RQ te],g5,g2,λH7 dn dp=>k H7 (a5.trans dn) dp]
end AI
theorem OV (g:xq n fs){f:Fi}(l:f∈fs){z:Str}(p:z∈NQ (Cv f.1)):∀k∈fs,z≠Cv k.1:=λk o e=>by
 let#[s,_,j,_]:=g.ur f l;let#[t,_,kl,_]:=g.ur k o;have lf:UO (Cv f.1)=f.1:=uE s λy h=>qI<|j y h;unfold NQ at p;let#[i,c,b]:=Zo.mp p;rw[lf]at c b;have c:=VI.mp c;have b:Cv (f.1.take<|i+1)=z:=b;have u:f.1.take (i+1)≠[]:=by
  intro q;have:=congrArg List.length q;rw[ZL,YN]at this;lia
 have:=Fp (d:=0) u t (λy h=>j y<|Yf h) kl (b.trans e);have r:f.1=k.1++f.1.drop (i+1):=by rw[<-this,Y8]
 have:=congrArg List.length<|g.pre k o f l _ r;rw[Ym,YN]at this;lia
theorem BF {f:Fi}{n:Nat}(h:n<=4){fs:Dj}(g:xq n fs)(d:f∈fs):HN (.str<|Cv f.1)=true/\j5 (AnJ.yu f.2)=true/\small (.str<|Cv f.1)=true/\small (AnJ.yu f.2)=true:=by
 let#[c,e,b,fn]:=g.ur f d;let:=#[Oi c ⋯ b,?_,?_,?_]
 .show(f.2.map Ey).all U1=true;rw[List.all_map,ZQ];let:=fn.2
 .let:=Zm ?_;have:=Fq b;rw[yx];lia
 .show(decide ((f.2.map Ey).length<=1000)&&yD (f.2.map .str))=true;rw[kJ λl hl=>(vP<|fn.2 l hl).len,Zj,Zm (show f.2.length<=1000 by have:=fn.1;lia)];rfl
inductive oA (K:Co)(vs:Di)(H:Hp)(Q:VK)(e3:XK):Prop
 |mk (c:D8) (Dl:Dk) (fs:Dj) (h0:vs=[.ref c]) (h1:H c=some (.dK Dl)) (h2:wL K H fs Dl) (h3:xq 4 fs) (h4:fs.length<=63) (h5:∀H',zz H H'->Q .non H'):oA K vs H Q e3
theorem Iz {H:Hp}{c:D8}{g:Obj}{d:Dk}(f:H c=some (.dK d))(e:zz (upd H c<|.frz g<|.dK d) H2):zz H (upd H2 c<|.dK d):=λb o h=>by
 by_cases z:b=c
 .rw[z,zB];rw[z,f]at h;let:=h
 .rw[zH z];let:=e _ _ (by rwa[zH z])
namespace AI
theorem ok0 (F:xj0 K "put_files" st f fd):zc P w K mg base CA 8 f fd ["shelf","files"] (IR P w K aC 0) :=
 F.ok sc (λ_ _ _ _ _ _ _ _ _ h=>EC h) (λ_ _ _ _ h=>EC h)
include T in
theorem ok (F:xj0 K "put_files" st f fd)(d:Met P w K mg base aC 7 "put" ["self","thing"]<|tZ P w K aC)(e:wU P w K mg base 8 "put_rows" ["shelf","rows"]<|sI P w K aC)(c:mg "put_files"=some (.ref f))(b:wW K fd ["shelf","files"] []):zc P w K mg base CA 12 f fd ["shelf","files"] (IR P w K aC 4):=by
 have g:=wU.mk' F (ok0 (P:=P) (w:=w) (mg:=mg) (base:=base) (aC:=aC) F) c b;have h:=wU.mk' F (step F T d e ∅ ∅ g) c b;have i:=wU.mk' F (step F T d e ∅ ∅ h) c b;have j:=wU.mk' F (step F T d e ∅ ∅ i) c b;let:=step F T d e ∅ ∅ j
end AI
namespace AJ
abbrev st:Stmt:=top 60
theorem sc:zx ["files","path","lines"] ["files"] (zI st):=CC
include T in
theorem ok (F:xj0 K "need_files" st f fd)(QV:wU P w K mg base 4 "is_file" ["path","lines"]<|mF K)(QW:wU P w K mg base 1 "folders_of" ["path"]<|mq K):zc P w K mg base CA 5 f fd ["files"] (oA K):=by
 let:=F.ok sc λ_ _ _ _ H vs Q E hr h=>?_;let#[c,d,fs,rfl,L,ff,gf,fl,k]:=h;let:=#[_,(zE (yG (xE<|zY (K:=K)<|zK (xf.or (zZ (K:=K))<|CQ (K:=K)) (by rfl) T.isinstance ZX<|zA (pv 0)<|zA (y6 (v:=.ty "dict") rfl T.dict PyProof.Rows.boot_dict rfl) zC) (zF uH) zU)<|zE (Iu<|yM Ep rfl (IM<|Gm<|pv 0) (Xg rfl<|yO (zR (i:=1) sc.nd rfl<|Ew rfl)<|yO (zR (i:=2) sc.nd rfl<|Ew rfl) kS)<|zF<|yG (xE<|zY (K:=K)<|zJ QV hr.m<|zA (pv 1)<|zA (pv 2) zC) (zF uH) zU)<|zF<|Iu<|yM Ep rfl (Nj<|Gm<|pv 0) (zR (i:=1) sc.nd rfl<|Ew rfl)<|zF<|yG (zY (K:=K)<|zK (OK rfl) (by rfl) T.any PyProof.Rows.boot_any<|zA (yS (sc:=zI st) (N:=["files","path","lines"]) (N':=["folder","files"]) (src:=[none,some 0]) .a rfl rfl rfl (yR<|zJ QW hr.m<|zA (pv 1) zC) (λ_ _ _ _=>(zR (i:=0) (show(["folder","files"]:By).Nodup by lk) rfl (Ew rfl))) (λ_ _ _ _=>x5) (λ_ _ _ _=>(xC (Gi hr.units) (pv 0) (pv 1)<|by with_unfolding_all rfl))) zC) (zF uH) zU),?_]
 let:=(.inr #[c,"dict",d,_,rfl,.inl L,T.kit _ (by simp[kinds]) _<|by simp[kinds],_,rfl,UB ?_]);let:=#[c,d,rfl,L,λj=>?_];have b:upd H c (.frz j<|.dK d) c=some (.frz j<|.dK d):=zB;have R:=ff.off (yC L)<|z6 (o:=.frz j<|.dK d);let:=#[c,j,d,rfl,b,XF (λi s n=>∃A C,s=[some<|.ref c,A,C]/\zz (upd H c<|.frz j<|.dK d) n) #[none,none,rfl,zz.refl _] (λi s n U ⟨_,_,_,l⟩=>l _ _ b) ?_ ?_]
 .rintro i kk v T0 s n D B U nT hD hB ⟨A,C,rfl,l⟩;let#[f,I,rfl,dv,ln]:=(R.same l).get U;let#[g1,g2,g3,g4]:=BF (Zn 4) gf<|Zy I;have uT:=zD (o:=.tup [kV<|.inr<|Cv f.1,v]) nT;let:=hB #[T0,_,rfl,yh.of zB,rfl,_,_,rfl,_,_,rfl,rfl,?_];let:=#[.str<|Cv f.1,AnJ.yu f.2,_,_,rfl,rfl,Dt.dw<|Dt.same uT _ _ dv,g3,g4,λZ s3=>#[_,rfl,?_]];rw[g1,g2];let:=UB<|hD.nx _ _ #[_,_,rfl,(l.trans uT).trans s3]
 .rintro s n ⟨A,C,rfl,l⟩;let:=#[c,j,d,l _ _ b,λo u z=>?_,?_]
  .have z:H c=some (.frz o u):=z;rw[L]at z;cases z
  have e3:=Iz L l;have G:upd n c (.dK d) c=some (.dK d):=zB;generalize upd n c (.dK d)=Z at e3 G ⊢;clear l R b;let:=#[c,d,rfl,G,λj=>?_];have b:upd Z c (.frz j<|.dK d) c=some (.frz j<|.dK d):=zB;let:=#[c,j,d,rfl,b,OW (λi s n=>∃A C,s=[some<|.ref c,A,C]/\zz (upd Z c<|.frz j<|.dK d) n) #[A,C,rfl,zz.refl _] (λi s n U ⟨_,_,_,l⟩=>l _ _ b) ?_ ?_]
  .rintro i kk v s H4 D B U hD hB ⟨A,C,rfl,O⟩;let#[f,I,rfl,_,_]:=ff.get U;have S:=Zy I;let#[_,_,g3,_]:=BF (Zn 4) gf S;have xl:(Cv f.1).length<=1000:=ZA g3;let:=hB #[Cv f.1,rfl,xl,λlp H5 s5 X=>?_];have aa:(NQ<|Cv f.1).length<=1001:=by
    unfold NQ;rw[Zj,YL];have:=Hh<|Cv f.1;lia
   let:=#[lp,rfl,#[_,X],kE (K:=K) (a:=lp) (xs:=(NQ<|Cv f.1).map V.str) (λi r t Y=>∃o,t=[o,some<|.ref c]/\zz H5 Y/\r.length=i/\∀y∈r,y=V.bl false) #[none,rfl,zz.refl _,rfl,λy M=>(nomatch M)] (zu (by rw[Zj];lia)) ?_ ?_ ?_]
   .rintro i r t Y ab ⟨o,rfl,J,yl,_⟩;let:=#[J.seq X,⋯]
   .rintro i y r t Y M ⟨o,rfl,J,yl,yf⟩;rw[Zz]at M;let#[z,hz,rfl]:=ZO.mp M;let:=#[c,_,rfl,RS (k:=.inr z)<|((O.trans s5).trans J) _ _ b,_,rfl,J,by rw[Zq,yl];rfl,λy M=>?_]
    rcases ZD.mp M with q|q
    .let:=yf y q
    .rw[Zk.mp q]
     congr 1
     cases q:UH d (.inr z) with
     |none=>rfl
     |some v =>
      have:=k8 q;rw[ff.keys]at this;let#[g,hg,e]:=Zo.mp this;let:=absurd (Sum.inr.inj e).symm<|OV gf S (Zy hz) g hg
   .rintro r t Y ⟨o,rfl,J,yl,yf⟩ p np;have ey:r=(Ev r.length false).map V.bl:=by
     rw[List.map_replicate];let:=List.eq_replicate_iff.mpr #[rfl,yf]
    let:=#[p,Ev r.length false,rfl,za.of (by rw[zB];let:=congrArg (λz=>some<|HO.lst z) ey),_,rfl,?_];have ea:(Ev r.length false).any id=false:=by
     rw[VL];intro x hx;rw[List.eq_of_mem_replicate hx]
     decide
    rw[ea];let:=UB<|hD.nx _ _ #[_,_,rfl,((O.trans s5).trans J).trans<|zD np]
  .rintro s H4 ⟨A,C,rfl,O⟩;let:=#[c,j,d,O _ _ b,λo u z=>?_,?_]
   .have z:H c=some (.frz o u):=z;rw[L]at z;cases z
   let:=k _<|e3.trans<|Iz G O
end AJ
theorem wh {W:Nat->St->Hp->Prop}{m:Nat}{t:(St->Hp->Prop)->Prop}(h:∀N,(∀σ H m',m'<m->W m' σ H->N σ H)->t N):∃N:St->Hp->Prop,(∀σ' H',N σ' H'->∃m',m'<m/\W m' σ' H')/\t N:=#[_,λ_ _ z=>z,h _ λ_ _ m a b=>#[m,a,b]]
inductive rM (K:Co)(vs:Di)(H:Hp)(Q:VK)(e3:XK):Prop
 |mk (a b:D8) (xs ys:By) (h0:vs=[.ref a,.ref b]) (h1:yh K H a<|xs.map V.str) (h2:yh K H b<|ys.map V.str) (h3:xs.length<=100) (h4:ys.length<=140) (h5:(∀x∈xs,UG x=true)) (h6:(∀y∈ys,UG y=true)) (h7:∀(l:D8) H',zz H H'->H l=none->(∃vs,H' l=some (.lst vs))->Dt K H' (.list<|(An12.spans xs ys).map An12.zp) (.ref l)->Q (.ref l) H'):rM K vs H Q e3
namespace AK
abbrev st:Stmt:=top 35
theorem sc:zx ["line","new","behind","row","k"] ["line","new","behind"] (zI st):=CC
include T in
theorem ok (F:xj0 K "table_row" st f fd):zc P w K mg base CA 1 f fd ["line","new","behind"] (An10.jf K):=by
 let:=F.ok sc λ_ _ _ _ H vs Q E hr h=>?_;let#[x,b,p,xs,d,i,rfl,J,Y,hx,y1,k]:=h;let:=#[_,(zE (Cu (i:=3) sc.nd<|zP PH (yA<|zA zG zC)<|zP z8 (zK zN (by rfl) T.len ZV<|zA (pv 1) zC) zG)<|zE (yM Ep rfl (On rfl T.range<|zA (zP Mn (zK zN (by rfl) T.len ZV<|zA (pv 1) zC) zG)<|zA (PR MR zG)<|zA (PR MR zG) zC) (zR (i:=4) sc.nd rfl<|Ew rfl)<|zF<|yG (zO yX (pv 0) (zV (zj:Cy _<|yr K) (pv 1)<|pv 4)<|zS _) (zF<|Mv (zP z8 (zV (xu:Cy _<|tY K) (pv 2)<|zP z8 (pv 4) zG) zG)<|Mr (pv 3) (pv 4) set_list)<|zF<|Mv (zK (BT rfl) (by rfl) T.max PyProof.Rows.boot_max<|zA (zV (xu:Cy _<|tY K) (pv 2)<|pv 4)<|zA (zV (xu:Cy _<|tY K) (pv 3)<|zP z8 (pv 4) zG) zC)<|Mr (pv 3) (pv 4) set_list)<|zF<|zQ<|pv 3),?_]
 let:=#[UC 1,λZ n0=>?_];have n:=zD (o:=.lst [V.int 0]) n0;let:=#[b,_,rfl,.inr<|n.yu J,Z,_,_,rfl,rfl,zB,by rw[Zj];lia,by rw[Zj];lia,zu ?_,λl nl=>?_]
 .rw[Zj];simp only[ZH,YN];lia
 have N:=n.trans<|zD (o:=.lst (Ev ((((d.map V.str).length:Nat):Int)+1).toNat [V.int 0]).flatten) nl;have lz:(Ev ((((d.map V.str).length:Nat):Int)+1).toNat [V.int 0]).flatten=Ev (d.length+1) (V.int 0):=by
  rw[Zj];have e:Int.toNat ((d.length:Int)+1)=d.length+1:=⋯
  rw[e];let:=An10.m5 _ _
 rw[lz]at N ⊢;generalize upd H Z (.lst [V.int 0])=R at n nl N ⊢;let:=#[b,_,rfl,.inr<|N.yu J,_,rfl,_,rfl,_,_,rfl,#[by rw[Zj];lia,by rw[Zj];lia,⋯,⋯],?_];rw[Zj];have en:((d.length:Int)-1-(-1)).toNat=d.length:=⋯
 rw[en];let:=KK (λj O I=>∃(M:Option V) (s:Di),O=[some<|.str x,some<|.ref b,some<|.ref p,some<|.ref l,M]/\I=upd R l (.lst s)/\s.length=d.length+1/\∀m,d.length<=m+j->m<=d.length->s[m]?=some (V.int<|An10.tab xs d i m)) #[none,_,rfl,rfl,Vk,λm S C=>?_] ?_ ?_
 .rw[VF,ZJ<|⋯,An10.rE<|⋯];rfl
 .rintro j O I D B hj X U ⟨M,s,rfl,rfl,G,A⟩;have r:zz H (upd R l<|.lst s):=λc u q=>(by rw[zH<|zL (n c u q) nl];let:=n c u q);let#[q,eq]:∃q:Nat,(d.length:Int)-1-(j:Int)=(q:Int):=#[d.length-1-j,⋯];rw[eq]at U;have q1:q+j+1=d.length:=⋯
  let#[y,L,v]:=kP (xs:=d) (i:=(q:Int)) ⋯ ⋯;have L:d[q]?=some y:=by rw[<-L];congr 1
  have st:=An10.m8 hx L;let:=U #[b,_,_,_,rfl,rfl,r.yu J,v,rfl,_,rfl,UI (λg=>?_)<|λg=>?_]
  .have g:=ZA g;injection g with g;let:=#[p,_,_,_,rfl,rfl,za.of<|r _ _ Y,An10.rH ⋯<|⋯,l,_,_,q,rfl,rfl,zB,An10.oU<|⋯,X.nx _ _ #[_,_,rfl,by rw[Xm],by rw[V4];let:=G,λm S C=>?_]]
   rcases Jw q m with t|t
   .rw[Vr<|⋯];let:=A m ⋯ C
   .have:m=q:=⋯
    subst this;rw[Va<|⋯,st,ZJ g];have e2:Int.toNat ((m:Int)+1)=m+1:=⋯
    rw[e2]
    congr 2
    lia
  .have g:¬x=y:=λz=>g (Zm<|by rw[z]);let:=#[p,_,_,_,rfl,rfl,za.of<|r _ _ Y,An10.rH ⋯<|⋯,l,_,_,_,rfl,rfl,za.of zB,An10.mU ⋯<|A (q+1) ⋯<|⋯,_,_,rfl,?_];let:=#[l,_,_,q,rfl,rfl,zB,An10.oU<|⋯,X.nx _ _ #[_,_,rfl,by rw[Xm],by rw[V4];let:=G,λm S C=>?_]]
   rcases Jw q m with t|t
   .rw[Vr<|⋯];let:=A m ⋯ C
   .have:m=q:=⋯
    subst this;rw[Va<|⋯,st,ZI g];have e1:Int.toNat (m:Int)=m:=⋯
    rw[e1];have em:(if((An10.tab xs d i (m+1):Nat):Int)>((An10.tab xs d (i+1) m:Nat):Int) then((An10.tab xs d i (m+1):Nat):Int) else((An10.tab xs d (i+1) m:Nat):Int))=((max (An10.tab xs d (i+1) m) (An10.tab xs d i<|m+1):Nat):Int):=by
     split<;>lia
    rw[<-em]
 .rintro O I ⟨M,s,rfl,rfl,G,A⟩;have e:=An10.nF G λm t=>A m ⋯ t;subst e;let:=(k l _ (λc u q=>(by rw[zH<|zL (n c u q) nl];let:=n c u q)) (n.free nl) zB)
end AK
inductive CtI (H:Hp)(a b t:D8)(xs ys:By)(j:Nat)(σ:St)(H2:Hp):Prop
 |mk (as:Dc) (bh:D8) (o4:Option V) (h0:σ=[some<|.ref a,some<|.ref b,some<|.ref bh,some<|.ref t,o4]) (h1:zz H H2) (h2:H2 t=some (.lst<|as.map V.ref)) (h3:as.length=j+1) (h4:as[j]?=some bh) (h5:(∀m c,as[m]?=some c->H2 c=some (.lst<|An10.rW xs ys<|xs.length-m))) (h6:(t::as).Nodup) (h7:∀c∈t::as,H c=none):CtI H a b t xs ys j σ H2
namespace AL
abbrev st:Stmt:=top 34
theorem sc:zx ["old","new","behind","table","line"] ["old","new"] (zI st):=CC
include T in
theorem ok (F:xj0 K "common_table" st f fd)(QX:wU P w K mg base 1 "table_row" ["line","new","behind"]<|An10.jf K):zc P w K mg base CA 4 f fd ["old","new"] (An10.lw K):=by
 let:=F.ok sc λ_ _ _ _ H vs Q E hr h=>?_;let#[a,b,n,u,rfl,ha,hb,x1,y1,k]:=h;let:=#[_,(zE (Cu (i:=2) sc.nd<|zP PH (yA<|zA zG zC)<|zP z8 (zK zN (by rfl) T.len ZV<|zA (pv 1) zC) zG)<|zE (Cu (i:=3) sc.nd<|yA<|zA (pv 2) zC)<|zE (yM Ep rfl (T6 rfl T.reversed<|zA (pv 0) zC) (zR (i:=4) sc.nd rfl<|Ew rfl)<|zE (Cu (i:=2) sc.nd<|zJ QX hr.m<|zA (pv 4)<|zA (pv 1)<|zA (pv 2) zC)<|zF<|zX<|qW Z1 Yh Yi yU (pv 3)<|zA (pv 2) zC)<|zE (zX<|PL Z1 PySem.F.slot_list_reverse PySem.F.type_list_reverse K3<|pv 3)<|zF<|zQ<|pv 3),?_]
 let:=#[UC 1,λX n0=>?_];have s0:=zD (o:=.lst [V.int 0]) n0;let:=#[b,_,rfl,.inr<|s0.yu hb,X,_,_,rfl,rfl,zB,by rw[Zj];lia,by rw[Zj];lia,zu ?_,λl nl=>?_]
 .rw[Zj];simp only[ZH,YN];lia
 have lz:(Ev ((((u.map V.str).length:Nat):Int)+1).toNat [V.int 0]).flatten=An10.rW n u n.length:=by
  rw[Zj];have e:Int.toNat ((u.length:Int)+1)=u.length+1:=⋯
  rw[e,An10.m5];let:=An10.nF Vk λm s=>?_;rw[VF,ZJ<|⋯,An10.rF<|Zn _];rfl
 rw[lz];have s1:=s0.trans<|zD (o:=.lst<|An10.rW n u n.length) nl;have Y:=s0.free nl;let:=#[UC 1,λt S=>?_];have M:upd (upd H X<|.lst [V.int 0]) l (.lst<|An10.rW n u n.length) l=some (.lst<|An10.rW n u n.length):=zB;have ab:=s1.free S;have lt:=zL M S;generalize upd (upd H X<|.lst [V.int 0]) l (.lst<|An10.rW n u n.length)=H1 at s1 S M ⊢;have s2:=s1.trans<|zD (o:=.lst [V.ref l]) S;let:=#[a,_,rfl,s2.yu ha,RM (CtI H a b t n u) #[[l],l,none,rfl,s2,zB,rfl,rfl,?_,?_,?_] (λj σ H2 _ z=>by let#[_,_,_,_,e,_,_,_,_,_,_]:=z;let:=e.yu ha) ?_ ?_]
 .intro m c s;let#[rfl,rfl]:=An10.tE s;rwa[zH lt]
 .simp[Er lt]
 .intro c g;have g:c=t\/c=l:=by simpa using g
  rcases g with rfl|rfl
  .let:=ab
  .let:=Y
 .rintro j v σ H2 D B hj y hD hB ⟨A,U,o4,rfl,R,N,p,J,I,nd,C⟩;rw[Zj]at hj y;rw[Zz]at y;cases q:n[n.length-1-j]? with
  |none=>rw[q]at y;cases y
  |some x =>
   rw[q]at y;have y:=Option.some.inj y;subst y;have L:=I j U J;have ej:n.length-j=n.length-1-j+1:=⋯
   rw[ej]at L;let:=hB #[x,b,U,n,u,_,rfl,R.yu hb,L,q,y1,λr H3 s4 Z ai=>?_];have O:=s4 _ _ N;have rt:r≠t:=λz=>zL N Z z.symm;let:=#[.inl #[rfl,_,za.of O],t,_,_,rfl,rfl,O,yJ (by rw[Zj];lia),hD.nx _ _ #[A++[r],r,_,rfl,?_,?_,?_,?_,?_,?_,?_]]
   .let:=An.zz.pM (R.trans s4) (C t Zt)
   .rw[zB,Zu];rfl
   .rw[Zq,p];rfl
   .rw[ZU<|⋯,p,Vh];rfl
   .intro m c s
    rcases Jw m A.length with G|G
    .rw[ZT G]at s;have ct:c≠t:=λz=>(Yu.mp nd).1<|z▸Zy s;rw[zH ct];let:=s4 _ _<|I m c s
    .rw[ZU G]at s;let#[e0,rfl]:=An10.tE s;have em:n.length-m=n.length-1-j:=⋯
     rwa[zH rt,em]
   .have aa:r∉A:=λz=>by
     let#[m,s]:=List.getElem?_of_mem z;let:=zL (I m r s) Z rfl
    rw[<-J5];let:=Y5.mpr #[nd,by simp,?_];intro c g d hd;rw[Zk.mp hd]
    rcases Zx.mp g with rfl|g
    .let:=Er rt
    .let:=λz=>aa<|z▸g
   .intro c g
    rcases Zx.mp g with rfl|g
    .let:=C _ Zt
    .rcases ZD.mp g with g|g
     .let:=C c (Zp _ g)
     .rw[Zk.mp g];let:=R.free Z
 .rintro σ H2 ⟨A,U,o4,rfl,R,N,p,J,I,nd,C⟩;rw[Zj]at p;let:=#[.inl #[rfl,_,za.of N],t,_,rfl,rfl,N,k t A.reverse _ (An.zz.pM R<|C t Zt) #[?_,by rw[V9];let:=p,?_] ?_ ?_]
  .rw[zB,List.map_reverse]
  .intro i c g;have hi:i<A.length:=by
    have:=(ZC.mp g).1
    rwa[V9]at this
   rw[List.getElem?_reverse hi]at g;have ct:c≠t:=λz=>(Yu.mp nd).1<|z▸Zy g;rw[zH ct,I _ c g];have e:n.length-(A.length-1-i)=i:=⋯
   rw[e]
  .rw[Yu]at nd ⊢;let:=#[λz=>nd.1<|List.mem_reverse.mp z,List.pairwise_reverse.mpr<|nd.2.imp λh=>Er h]
  .intro c g
   rcases Zx.mp g with rfl|g
   .let:=C _ Zt
   .let:=C c (Zp _<|List.mem_reverse.mp g)
end AL
inductive KpI (H:Hp)(a b t l:D8)(as:Dc)(xs ys:By)(m:Nat)(σ:St)(H2:Hp):Prop
 |mk (i j f:Nat) (ts:Dc) (ps:List<|Nat×Nat) (h0:m=(xs.length-i)+(ys.length-j)) (h1:σ=[some<|.ref a,some<|.ref b,some<|.ref t,some<|.ref l,some<|.int i,some<|.int j]) (h2:zz H H2) (h3:An10.TabAt H2 xs ys t as) (h4:H2 l=some (.lst<|ts.map V.ref)) (h5:ts.length=ps.length) (h6:(∀(m:Nat) (c:D8) (p:Nat×Nat),ts[m]?=some c->ps[m]?=some p->H2 c=some (.tup [V.int p.1,V.int p.2]))) (h7:ps.length<=i) (h8:i<=xs.length) (h9:j<=ys.length) (h10:(xs.length-i)+(ys.length-j)<=f) (h11:ps++An10.path xs ys f i j=An10.path xs ys (xs.length+ys.length) 0 0):KpI H a b t l as xs ys m σ H2
namespace AM
abbrev st:Stmt:=top 36
theorem sc:zx ["old","new","table","pairs","i","k"] ["old","new"] (zI st):=CC
include T in
theorem ok (F:xj0 K "kept_pairs" st f fd)(QY:wU P w K mg base 4 "common_table" ["old","new"]<|An10.lw K):zc P w K mg base CA 5 f fd ["old","new"] (An10.jq K):=by
 let:=F.ok sc λ_ _ _ _ H vs Q E C h=>?_;let#[a,b,xs,e,rfl,ha,hb,x1,y1,_,_,k]:=h;let:=#[_,(zE (Cu (i:=2) sc.nd<|zJ QY C.m<|zA (pv 0)<|zA (pv 1) zC)<|zE (Cu (i:=3) sc.nd<|yA zC)<|zE (Cu (i:=4) sc.nd zG)<|zE (Cu (i:=5) sc.nd zG)<|zE (HQ Ep (PW.pt<|jX (zO Xd (pv 4) (zK zN (by rfl) T.len ZV<|zA (pv 0) zC)<|zS _)<|qA<|zO Xd (pv 5) (zK zN (by rfl) T.len ZV<|zA (pv 1) zC)<|zS _)<|zF<|yG (zO yX (zV (zj:Cy _<|yr K) (pv 0)<|pv 4) (zV (zj:Cy _<|yr K) (pv 1)<|pv 5)<|zS _) (zE (zX<|qW Z1 Yh Yi yU (pv 3)<|zA (yW<|zA (pv 4)<|zA (pv 5) zC) zC)<|zE (B9 (i:=4) sc.nd rfl (Ew rfl) zG DE)<|zF<|B9 (i:=5) sc.nd rfl (Ew rfl) zG DE)<|zF<|yG (zO W2 (zV (xu:Cy _<|tY K) (zV (xu:Cy _<|tY K) (pv 2)<|zP z8 (pv 4) zG)<|pv 5) (zV (xu:Cy _<|tY K) (zV (xu:Cy _<|tY K) (pv 2)<|pv 4)<|zP z8 (pv 5) zG)<|zS _) (zF<|B9 (i:=4) sc.nd rfl (Ew rfl) zG DE)<|zF<|B9 (i:=5) sc.nd rfl (Ew rfl) zG DE)<|zF<|zQ<|pv 3),?_]
 let:=#[a,b,xs,e,rfl,ha,hb,x1,y1,λt Z H1 s1 M _ _=>#[ZP _,λl nl=>?_]];have I:=M.len;have X:=s1.free nl;have s0:=s1.trans<|zD (o:=.lst []) nl;have ab:An10.TabAt (upd H1 l<|.lst []) xs e t Z:=#[zD nl _ _ M.at_,I,λi c hc=>zD nl _ _<|M.row i c hc];have an:=zL M.at_ nl;let:=#[(KpI H a b t l Z xs e),#[_,0,0,xs.length+e.length,[],[],rfl,rfl,s0,ab,zB,rfl,λm c p h=>(by simp at h),ZP _,ZP _,ZP _,⋯,rfl],?_]
 rintro m σ H2 ⟨i,j,f,ts,ps,rfl,rfl,v,n,hl,tl,Y,pl,il,jl,fl,eq⟩;have L:=λhd=>by
  rw[An10.tR hd,ZW]at eq;rw[<-eq]at k;let:=k l _ v X #[ts,hl,tl,Y]
 let:=#[a,_,rfl,.inr<|v.yu ha,_,rfl,UI (λd=>?_)<|λd=>?_]
 .have d:i<xs.length:=by rw[Zj]at d;have:=ZA d;lia
  let:=#[b,_,rfl,.inr<|v.yu hb,_,rfl,UI (λq=>?_)<|λq=>?_]
  .have q:j<e.length:=by rw[Zj]at q;have:=ZA q;lia
   let:=wh λN hN=>?_;let#[f,rfl]:∃g,f=g+1:=#[f-1,⋯];let#[x,hx,S]:=kP (xs:=xs) (i:=((i:Nat):Int)) ⋯ ⋯;let#[y,hy,U]:=kP (xs:=e) (i:=((j:Nat):Int)) ⋯ ⋯;have hx:xs[i]?=some x:=hx;have hy:e[j]?=some y:=hy;have u:=An10.rD (f:=f) hx hy;let:=#[a,_,_,_,rfl,rfl,v.yu ha,S,b,_,_,_,rfl,rfl,v.yu hb,U,rfl,_,rfl,UI (λs=>?_)<|λs=>?_]
   .have s:=ZA s;injection s with s;rw[ZJ s]at u;rw[u]at eq;let:=#[.inl #[rfl,_,za.of hl],UC 2,λc nc=>?_];have lc:=zL hl nc;have G:=zD (o:=.tup [V.int i,V.int j]) nc;let:=#[l,_,_,rfl,rfl,by rw[zH lc];let:=hl,yJ (by rw[Zj];lia),_,rfl,_,_,rfl,rfl,_,rfl,_,_,rfl,rfl,hN _ _ _ ?_ #[i+1,j+1,f,ts++[c],ps++[(i,j)],rfl,rfl,An.zz.pM (v.trans G) X,#[?_,I,?_],?_,by simp[tl],?_,by simp;lia,⋯,⋯,⋯,?_]]
    .lia
    .rw[zH an];let:=G _ _ n.at_
    .intro i' J O;have C:=n.row i' J O;have cl:=zL (M.row i' J O) nl;rw[zH cl];let:=G _ _ C
    .rw[zB,Zu];rfl
    .intro m J p hc hp
     rcases An.rI hc with⟨m1,hc1⟩|⟨m1,hc1⟩
     .rcases An.rI hp with⟨m2,hp1⟩|⟨m2,hp1⟩
      .have C:=Y m J p hc1 hp1;have d1:=zL C nc;have d2:J≠l:=λz=>by rw[z,hl]at C;cases C
       rwa[zH d2,zH d1]
      .lia
     .rcases An.rI hp with⟨m2,hp1⟩|⟨m2,hp1⟩
      .lia
      .rw[hc1,hp1,zH<|Er lc];let:=zB
    .rwa[Yk]
   .have s:¬x=y:=λz=>s (Zm<|by rw[z]);rw[ZI s]at u;rw[u]at eq;have tb:∀{i:Nat},i<=xs.length->∃A,CJ (Z.map V.ref) ((i:Nat):Int)=some (.ref A)/\H2 A=some (.lst<|An10.rW xs e i):=λ{i} hi=>by
     let#[A,d,q]:=kP (xs:=Z) (i:=((i:Nat):Int)) ⋯ ⋯;have d:=d;let:=#[A,q,n.row i A d]
    let#[A,al,R]:=tb il;let#[aa,r,D]:=tb d;have r:=r;have T0:=za.of (K:=K) n.at_;let:=#[t,_,_,_,rfl,rfl,T0,r,aa,_,_,_,rfl,rfl,za.of D,An10.rH ⋯<|⋯,t,_,_,_,rfl,rfl,T0,al,A,_,_,_,rfl,rfl,za.of R,An10.rH ⋯<|⋯,_,rfl,UI (λB=>?_)<|λB=>?_]
    .have B:An10.tab xs e i (j+1)<=An10.tab xs e (i+1) j:=Int.ofNat_le.mp<|ZA B;rw[ZJ B]at eq;let:=#[_,rfl,_,_,rfl,rfl,hN _ _ _ ⋯ #[i+1,j,f,ts,ps,rfl,rfl,v,n,hl,tl,Y,⋯,d,jl,⋯,eq]]
    .have B:¬An10.tab xs e i (j+1)<=An10.tab xs e (i+1) j:=λz=>B<|Zm<|Int.ofNat_le.mpr z;rw[ZI B]at eq;let:=#[_,rfl,_,_,rfl,rfl,hN _ _ _ ⋯ #[i,j+1,f,ts,ps,rfl,rfl,v,n,hl,tl,Y,⋯,il,q,⋯,eq]]
  .have q:e.length<=j:=by rw[Zj]at q;have a1:¬((j:Int))<e.length:=λz=>q<|Zm z;lia
   let:=(L<|.inr q)
 .have d:xs.length<=i:=by rw[Zj]at d;have a0:¬((i:Int))<xs.length:=λz=>d<|Zm z;lia
  let:=(L<|.inl d)
end AM
inductive SoI (K:Co)(H3:Hp)(a b o:D8)(xs ys:By)(ps all:List<|Nat×Nat)(j:Nat)(σ:St)(H2:Hp):Prop
 |mk (lo fi:Nat) (acc:List An12.Row) (vs:Di) (o6 o7:Option V) (h0:σ=[some<|.ref a,some<|.ref b,some<|.ref o,some<|.int lo,some<|.int fi,o6,o7]) (h1:zz (An12.hide H3 o)<|An12.hide H2 o) (h2:H2 o=some (.lst vs)) (h3:zy K (An12.hide H2 o) (acc.map An12.zp) vs) (h4:acc.length<=j) (h5:(j<=ps.length->fi<=ys.length)) (h6:acc++An12.rK ys lo fi (all.drop j)=An12.wV xs ys 0 0 ps):SoI K H3 a b o xs ys ps all j σ H2
namespace AN
abbrev st:Stmt:=top 37
theorem sc:zx ["old","new","spans","low","start","high","end"] ["old","new"] (zI st):=CC
include T in
theorem ok (F:xj0 K "spans_of" st f fd)(QZ:wU P w K mg base 5 "kept_pairs" ["old","new"]<|An10.jq K):zc P w K mg base CA 6 f fd ["old","new"] (rM K):=by
 let:=F.ok sc λ_ _ _ _ H A Q E hr h=>?_;let#[a,b,xs,ys,rfl,ha,hb,x1,y1,bh,bl,k]:=h;let:=#[_,(zE (Cu (i:=2) sc.nd<|yA zC)<|zE (Cu (i:=3) sc.nd zG)<|zE (Cu (i:=4) sc.nd zG)<|zE (yM Ep rfl (yR<|zP j6 (zJ QZ hr.m<|zA (pv 0)<|zA (pv 1) zC)<|yA<|zA (yW<|zA (zK zN (by rfl) T.len ZV<|zA (pv 0) zC)<|zA (zK zN (by rfl) T.len ZV<|zA (pv 1) zC) zC) zC) (Xg rfl<|yO (zR (i:=5) sc.nd rfl<|Ew rfl)<|yO (zR (i:=6) sc.nd rfl<|Ew rfl) kS)<|xN (yG (PW.pt<|vD (zO Xd (pv 3) (pv 5)<|zS _)<|kN<|zO Xd (pv 4) (pv 6)<|zS _) (zF<|zX<|qW Z1 Yh Yi yU (pv 2)<|zA (yW<|zA (pv 3)<|zA (pv 5)<|zA (y7 (oO:FH _<|Nn K) (pv 1) (yZ<|pv 4)<|yZ<|pv 6) zC) zC) zU)<|zE (Cu (i:=3) sc.nd<|zP z8 (pv 5) zG)<|zF<|Cu (i:=4) sc.nd<|zP z8 (pv 6) zG)<|zF<|zQ<|pv 2),?_]
 let:=#[ZP _,λo no=>?_];have aa:=zD (o:=.lst []) no;let:=#[a,b,xs,ys,rfl,aa.yu ha,aa.yu hb,x1,y1,λx hx=>An12.m9<|bh x hx,λy hy=>An12.m9<|bl y hy,λl Hk sk nl hp=>?_];have s0:=aa.trans sk;have hok:=sk _ _<|zB;have rise:An10.pJ xs ys 0 0 (An10.path xs ys (xs.length+ys.length) 0 0):=An10.uz _ 0 0;have p1:(An10.path xs ys (xs.length+ys.length) 0 0).length<=xs.length:=by
  rw[An10.sJ _ 0 0<|⋯];have:=An10.iZ (xs:=xs) (ys:=ys) (i:=0) (k:=0);lia
 generalize bd:An10.path xs ys (xs.length+ys.length) 0 0=s at hp rise p1;have k:∀(l:D8) I,zz H I->H l=none->(∃A,I l=some (.lst A))->Dt K I (.list<|(An12.wV xs ys 0 0 s).map An12.zp) (.ref l)->Q (.ref l) I:=by rwa[<-bd]
 let#[M,bf,tl,Dm]:=hp;let:=#[a,_,rfl,.inr<|s0.yu ha,b,_,rfl,.inr<|s0.yu hb,UC 2,λg n0=>?_];have u0:=zD (o:=.tup [V.int ((xs.map V.str).length:Nat),V.int ((ys.map V.str).length:Nat)]) n0;let:=#[UC 1,λl1 n1=>?_];have u1:=zD (o:=.lst [V.ref g]) n1;let:=#[l,l1,_,_,rfl,rfl,(u0.trans u1) _ _ bf,zB,zu (by rw[Zj];simp;lia),λl2 n2=>?_];have u2:=zD (o:=.lst<|M.map V.ref++[V.ref g]) n2;have v3:=(u0.trans u1).trans u2;have s3:=s0.trans v3;have L:=v3 _ _ hok;have G:upd (upd (upd Hk g<|.tup [V.int ((xs.map V.str).length:Nat),V.int ((ys.map V.str).length:Nat)]) l1<|.lst [V.ref g]) l2 (.lst<|M.map V.ref++[V.ref g]) g=some (.tup [V.int ((xs.length:Nat):Int),V.int ((ys.length:Nat):Int)]):=by
  have e:=(u1.trans u2) _ _ zB;rw[e,Zj,Zj]
 have X:upd (upd (upd Hk g<|.tup [V.int ((xs.map V.str).length:Nat),V.int ((ys.map V.str).length:Nat)]) l1<|.lst [V.ref g]) l2 (.lst<|M.map V.ref++[V.ref g]) l2=some (.lst<|(M++[g]).map V.ref):=by
  rw[zB,Zu];rfl
 have a3:=(zL ((u0.trans u1) _ _ hok) n2).symm;generalize upd (upd (upd Hk g<|.tup [V.int ((xs.map V.str).length:Nat),V.int ((ys.map V.str).length:Nat)]) l1<|.lst [V.ref g]) l2 (.lst<|M.map V.ref++[V.ref g])=H3 at v3 s3 L G X;let#[all,n]:∃all,all=s++[(xs.length,ys.length)]:=#[_,rfl];have al:all.length=s.length+1:=by rw[n];simp
 have Z:∀(i:Nat) (t:D8),(M++[g])[i]?=some t->∃p:Nat×Nat,all[i]?=some p/\p.2<=ys.length/\(i<s.length->p.2<ys.length)/\t≠o/\H3 t=some (.tup [V.int p.1,V.int p.2]):=λi t ht=>by
  rcases An.rI ht with⟨hi,q⟩|⟨hi,rfl⟩
  .have S:i<s.length:=by rwa[<-tl]
   have a0:=Zv S;have hq:=Dm i t _ q a0;have as:=(An12.lB rise s[i] (Ys S)).2;have ab:t≠o:=λz=>by rw[z,hok]at hq;cases hq
   let:=#[s[i],by rw[n,ZT S];let:=a0,YC as,λ_=>as,ab,v3 _ _ hq]
  .let:=#[(xs.length,ys.length),by rw[n,hi,tl,ZU<|Zn _];simp,Zn _,λz=>⋯,λz=>?_,G];rw[z]at G;rw[L]at G;cases G
 have k3:zz (An12.hide H3 o) (An12.hide H3 o):=zz.refl _;let:=#[l2,rfl,#[_,za.of X],xQ (SoI K H3 a b o xs ys s all) #[0,0,[],[],none,none,rfl,k3,L,rfl,Zn _,λ_=>ZP _,by rw[VN,JC,n,An12.rC]] (λj σ J _ ⟨_,_,_,_,_,_,_,e,_,_,_,_,_⟩=>za.of<|(An12.tV J o) _ _<|e _ _<|(An12.hide_ne a3).trans X) ?_ ?_]
 .rintro j x σ J D B U hD hB ⟨lo,C,d,A,o6,o7,rfl,e2,r,DG,ai,O,eq⟩;rw[Zz]at U;cases q:(M++[g])[j]? with
  |none=>rw[q]at U;cases U
  |some t =>
   rw[q]at U;have U:=Option.some.inj U;subst U;let#[p,hp,a8,a9,ab,be]:=Z j t q;have bm:=(ZC.mp hp).1;have hd:all.drop j=p::all.drop (j+1):=by
    let#[a6,ej]:=ZC.mp hp;rw[Yv a6,ej]
   have O:=O ⋯;have keep:∀{b u},b≠o->H3 b=some u->J b=some u:=λ{b u} hb h=>(An12.tV J o) _ _<|e2 _ _<|(An12.hide_ne hb).trans h;have an:=(An12.tV J o).yu<|e2.yu<|An12.qp L<|s3.yu hb;rw[hd]at eq;let:=hB #[t,_,rfl,yh.of<|keep ab be,rfl,_,_,rfl,_,_,rfl,rfl,?_];let:=#[λa2 I=>∃(d:List An12.Row) (A:Di),a2=[some<|.ref a,some<|.ref b,some<|.ref o,some<|.int lo,some<|.int C,some<|.int p.1,some<|.int p.2]/\zz (An12.hide H3 o) (An12.hide I o)/\I o=some (.lst A)/\zy K (An12.hide I o) (d.map An12.zp) A/\d.length<=j+1/\d++An12.rK ys (p.1+1) (p.2+1) (all.drop<|j+1)=An12.wV xs ys 0 0 s,?_,?_]
   .let:=#[_,rfl,UI (λh1=>UJ ?b)<|λh1=>#[_,rfl,UI (λh2=>?c)<|λh2=>?_]]
    case b|c =>
     have hc:lo<p.1\/C<p.2:=by
      first
       |let:=.inl (by have:=ZA h1;lia)
       |let:=.inr (by have:=ZA h2;lia)
     have eq:d++((if lo<p.1\/C<p.2 then[An12.qz lo p.1<|(ys.drop C).take<|p.2-C] else[])++An12.rK ys (p.1+1) (p.2+1) (all.drop<|j+1))=An12.wV xs ys 0 0 s:=eq;rw[ZJ hc]at eq;have vl:=DG.length;rw[Zj]at vl;let:=#[.inl #[rfl,_,za.of r],_,rfl,_,rfl,b,_,rfl,an,λv H4 hv=>?_];let#[q4,rfl,s4,a1]:=An12.oN an hv;rw[An12.lg O a8]at a1;let:=#[UC 3,λt1 n1=>?_];have s5:=s4.trans<|zD (o:=.tup [V.int lo,V.int p.1,V.ref q4]) n1;have Y:=s5 _ _ r;let:=#[o,_,_,rfl,rfl,Y,yJ<|⋯,d++[An12.qz lo p.1<|(ys.drop C).take<|p.2-C],A++[V.ref t1],rfl,?_,zB,?_,by rw[Zq,Yc];lia,by rw[Yk];let:=eq]
     .rw[An12.mV];let:=e2.trans<|An12.oZ o s5
     .rw[An12.mV,Zu];let:=zy.append (zy.same (An12.oZ o s5) _ _ DG) #[.ref t1,[],rfl,#[t1,_,rfl,An12.qp Y<|yh.of zB,_,_,rfl,rfl,_,_,rfl,rfl,_,_,rfl,#[q4,_,rfl,An12.qp Y<|(zD n1).yu a1,zy.strs _],rfl],rfl]
    have eq:d++((if lo<p.1\/C<p.2 then[An12.qz lo p.1<|(ys.drop C).take<|p.2-C] else[])++An12.rK ys (p.1+1) (p.2+1) (all.drop<|j+1))=An12.wV xs ys 0 0 s:=eq;rw[ZI<|λz=>z.elim (λz=>h1<|Zm<|⋯) λz=>h2<|Zm<|⋯]at eq;let:=#[d,A,rfl,e2,r,DG,⋯,eq]
   .rintro a2 I ⟨d,A,rfl,e3,a7,R,N,a4⟩;let:=(hD.nx _ _ #[p.1+1,p.2+1,d,A,_,_,rfl,e3,a7,R,N,λz=>?_,a4]);have:=a9 ⋯;lia
 .rintro σ J ⟨lo,C,d,A,o6,o7,rfl,e2,r,DG,ai,_,eq⟩;have e0:all.drop ((M++[g]).map V.ref).length=[]:=Vi (by rw[Zj,Zq,tl,al];let:=Zn _);rw[e0]at eq;have eq:d++[]=An12.wV xs ys 0 0 s:=eq;rw[ZW]at eq;let:=(k o J (λc u hc=>?_) no #[_,r] ?_)
  .have a5:=zL hc no;let:=(An12.tV J o) _ _ (e2 _ _<|(An12.hide_ne a5).trans<|s3 _ _ hc)
  .rw[<-eq];let:=#[o,A,rfl,za.of r,zy.same (An12.tV J o) _ _ DG]
end AN
inductive SdI (H:Hp)(a l o:D8)(xs:By)(rs:List An12.Row)(i:Nat)(σ:St)(H2:Hp):Prop
 |mk (pl:Nat) (fr:By) (o4 o5 o6:Option V) (h0:σ=[some<|.ref a,some<|.ref l,some<|.ref o,some<|.int pl,o4,o5,o6]) (h1:zz H H2) (h2:H2 o=some (.lst<|fr.map V.str)) (h3:fr.length<=2000*i) (h4:pl<=xs.length) (h5:An12.Ends xs.length pl<|rs.drop i) (h6:fr++An12.wI xs pl (rs.drop i)=An12.wI xs 0 rs):SdI H a l o xs rs i σ H2
namespace AO
abbrev st:Stmt:=top 38
theorem sc:zx ["old","rows","done","place","low","high","lines"] ["old","rows"] (zI st):=CC
include T in
theorem ok (F:xj0 K "spans_done" st f fd):zc P w K mg base CA 1 f fd ["old","rows"] (An12.mH K):=by
 let:=F.ok sc λ_ _ _ _ H vs Q E hr h=>?_;let#[a,l,u,L,rfl,ha,hd,x1,r1,C,k]:=h;let#[l',vs,A,hl,J]:=hd;have A:l=l':=by injection A
 subst A;have vl:=J.length;rw[Zj]at vl;let:=#[_,(zE (Cu (i:=2) sc.nd<|yA zC)<|zE (Cu (i:=3) sc.nd zG)<|zE (yM Ep rfl (yR<|pv 1) (Xg rfl<|yO (zR (i:=4) sc.nd rfl<|Ew rfl)<|yO (zR (i:=5) sc.nd rfl<|Ew rfl)<|yO (zR (i:=6) sc.nd rfl<|Ew rfl) kS)<|zE (zX<|qW Z1 JY JZ vS (pv 2)<|zA (y7 (oO:FH _<|Nn K) (pv 0) (yZ<|pv 3)<|yZ<|pv 4) zC)<|zE (zX<|qW Z1 JY JZ vS (pv 2)<|zA (pv 6) zC)<|zF<|Cu (i:=3) sc.nd<|pv 5)<|zE (zX<|qW Z1 JY JZ vS (pv 2)<|zA (y7 (oO:FH _<|Nn K) (pv 0) (yZ<|pv 3) jO) zC)<|zF<|zQ<|zW xA (by rfl) T.tuple Yp<|zA (pv 2) zC),?_]
 let:=#[ZP _,λo no=>?_];have s0:=zD (o:=.lst []) no;let:=#[l,rfl,#[_,s0.seq hl],xQ (SdI H a l o u L) #[0,[],none,none,none,rfl,s0,zB,ZP _,ZP _,C,rfl] (λi σ H2 _ z=>by let#[_,_,_,_,_,_,e,_,_,_,_,_]:=z;let:=e.seq hl) ?_ ?_]
 .rintro i x σ H2 D B hi hD hB ⟨pl,G,o4,o5,o6,rfl,y,d,R,s,b,eq⟩;have aa:=(ZC.mp hi).1;let#[r,t,v,er,rfl,ht,hd]:=An12.sS J hi;have S:L.drop i=r::L.drop (i+1):=by
   let#[X,ej]:=ZC.mp er;rw[Yv X,ej]
  rw[S]at b eq;let#[g1,g2,g3,#[ls,el,ll],g5]:=b;rw[el]at hd;let#[tl,ab,rfl,Y,j]:=hd;have j:=zy.vf j;subst j;let#[lo,I]:∃n:Nat,r.1=n:=#[r.1.toNat,⋯];let#[U,q]:∃n:Nat,r.2.1=n:=#[r.2.1.toNat,⋯];rw[I,q]at ht;have c:=y.yu ha;let:=hB #[t,_,rfl,y.yu ht,rfl,_,_,rfl,_,_,rfl,_,_,rfl,rfl,?_];let:=#[.inl #[rfl,_,za.of d],_,rfl,_,rfl,a,_,rfl,c,λv O Z=>?_];let#[q4,rfl,M,g]:=An12.oN c Z;rw[An12.lg s<|⋯]at g;have cl:((u.drop pl).take<|lo-pl).length<=1000:=by rw[ZL,Ym];lia
  let:=#[o,q4,_,_,rfl,rfl,M _ _ d,g,zu (by rw[Zj,Zj];lia),?_];have N:zz H (upd O o<|.lst<|G.map V.str++((u.drop pl).take<|lo-pl).map V.str):=An.zz.pM (y.trans M) no;let:=#[.inl #[rfl,_,za.of zB],o,tl,_,_,rfl,rfl,zB,N.yu Y,zu (by rw[Zq,Zj,Zj,Zj];lia),?_];let:=(hD.nx _ _ #[U,G++(u.drop pl).take (lo-pl)++ls,_,_,_,rfl,An.zz.pM N no,?_,?_,⋯,?_,?_])
  .rw[Xm,zB,Zu,Zu]
  .rw[Zq,Zq];lia
  .rw[q,Y4]at g5;let:=g5
  .have eq:G++((u.drop pl).take (r.1.toNat-pl)++An12.linesOf r.2.2++An12.wI u r.2.1.toNat (L.drop<|i+1))=_:=eq;rw[el,An12.wA,I,q,Y4,Y4]at eq;rw[<-eq];simp only[Yk]
 .rintro σ H2 ⟨pl,G,o4,o5,o6,rfl,y,d,R,s,b,eq⟩;have A:L.drop vs.length=[]:=Vi ⋯;rw[A]at eq;have c:=y.yu ha;let:=#[.inl #[rfl,_,za.of d],_,rfl,a,_,rfl,c,λv O Z=>?_];let#[q4,rfl,M,g]:=An12.oN c Z;rw[An12.jt s]at g;let:=#[o,q4,_,_,rfl,rfl,M _ _ d,g,zu (by rw[Zj,Zj,Ym];lia),?_];have N:zz H (upd O o<|.lst<|G.map V.str++(u.drop pl).map V.str):=An.zz.pM (y.trans M) no;let:=#[o,_,rfl,.inl #[za.of zB,λp np=>k p _ (N.trans<|zD np) (N.free np)<|yh.of ?_]];rw[zB,<-eq,Zu];rfl
end AO
namespace AQ
abbrev st:Stmt:=top 39
theorem sc:zx ["rows"] ["rows"] (zI st):=CC
include T in
theorem ok (F:xj0 K "cost_of" st f fd):zc P w K mg base CA 5 f fd ["rows"] (An12.oJ K):=by
 let:=F.ok sc λ_ _ _ _ H z Q E L h=>?_;let#[l,D,rfl,hd,O,I,k]:=h;let#[B,z,j,hl,c]:=hd;have j:l=B:=by injection j
 subst j;have y:=c.length;rw[Zj]at y;let:=#[_,(zF<|zQ<|zK (FQ rfl) (by rfl) T.sum PyProof.Rows.boot_sum<|zA (yS (sc:=zI st) (N:=["rows"]) (N':=["row"]) (src:=[none]) .a rfl rfl rfl (yR<|pv 0) (λ_ _ _ _=>(zR (i:=0) (show(["row"]:By).Nodup by lk) rfl (Ew rfl))) (λ_ _ _ _=>x5) (λ_ _ _ _=>(zP z8 (qD (v:=.int 2) rfl T.sO #[_,rfl])<|zK (NJ (K:=K)) (by rfl) T.len ZV<|zA (zV (zj:Cy _<|yr K) (pv 0) zG) zC))) zC),?_];let:=#[l,rfl,#[_,hl],kE (xs:=z) (λi e g d=>∃o,g=[o]/\d=H/\e=((D.take i).map λr=>2+((An12.linesOf r.2.2).length:Int)).map V.int) #[none,rfl,rfl,rfl] (zu<|⋯) ?_ ?_ ?_]
 .rintro i e g d u ⟨o,rfl,rfl,rfl⟩;let:=#[hl,by rw[Zj,Zj,ZL];lia]
 .rintro i x e g d u ⟨o,rfl,rfl,rfl⟩;let#[r,t,v,s,rfl,A,hd]:=An12.sS c u;let#[M,q,ll]:=I r<|Zy s;rw[q]at hd;let#[G,J,rfl,n,b]:=hd;have b:=zy.vf b;subst b;let:=#[t,_,_,_,rfl,rfl,A,rfl,G,_,rfl,.inr n,_,rfl,rfl,?_];rw[YK,s,Zu,Zu];show _=_++[V.int<|2+((An12.linesOf r.2.2).length:Int)];rw[q,An12.wA,Zj]
 .rintro e g d ⟨o,rfl,rfl,rfl⟩ p C;let:=#[p,_,rfl,za.of zB,?_];rw[y,ZS,An12.mY];let:=k _<|zD C
end AQ
def mj (K:Co)(H:Hp)(m:D8)(ls:By):Prop:=∃b F,H m=some (.dK b)/\AnS.yj K H b F (λ_=>.bool true)/\∀x,x∈F↔x∈ls
inductive pU (K:Co)(vs:Di)(H:Hp)(Q:VK)(e3:XK):Prop
 |mk (b:D8) (ls:By) (h0:vs=[.ref b]) (h1:yh K H b<|ls.map V.str) (h2:ls.length<=63) (h3:∀m H',zz H H'->H m=none->mj K H' m ls->Q (.ref m) H'):pU K vs H Q e3
inductive oH (K:Co)(vs:Di)(H:Hp)(Q:VK)(e3:XK):Prop
 |mk (m b:D8) (xs ls:By) (h0:vs=[.ref m,.ref b]) (h1:mj K H m xs) (h2:yh K H b<|ls.map V.str) (h3:ls.length<=63) (h4:∀H',zz H H'->Q (.int<|if 0<(lack xs ls).length then 2+((lack xs ls).length:Int) else 0) H'):oH K vs H Q e3
def oG (K:Co)(H:Hp)(b:Dc)(vs:Di)(B:List Bs):Prop:=vs.length=B.length/\∀(i:Nat) (x:Bs) (v:V),B[i]?=some x->vs[i]?=some v->∃t o m,v=.ref t/\m∉b/\yh K H t [.str x.1,.ref o,.ref m]/\yh K H o (x.2.1.map V.str)/\mj K H m x.2.1
def rm (K:Co)(H H':Hp)(ls:By)(r:Option Bs)(u:D8):Prop:=match r with
 |none=>Dt K H' (Th.leaf ls).dat<|.ref u
 |some x=>H u=none/\(∃b,H' u=some (.lst b))/\Dt K H' (.list<|(An12.spans x.2.1 ls).map An12.zp) (.ref u)
def oB:Option Bs->V
 |none=>.non
 |some x=>.str x.1
inductive mD (K:Co)(vs:Di)(H:Hp)(Q:VK)(e3:XK):Prop
 |mk (l b:D8) (ds:Dc) (ws:Di) (B:List Bs) (ls:By) (h0:vs=[.ref l,.ref b]) (h1:za K H l ws) (h2:oG K H ds ws B) (h3:yh K H b<|ls.map V.str) (h4:UR ls) (h5:(∀x∈B,UR x.2.1)) (h6:∀t u H',zz H H'->yh K H' t [oB (best B ls).1,.ref u]->rm K H H' ls (best B ls).1 u->Q (.ref t) H'):mD K vs H Q e3
theorem mj.off {m:D8}(o:Off gp H H')(n:m∉gp)(h:mj K H m ls):mj K H' m ls :=
 let ⟨kv,F,h1,h2,h3⟩:=h;#[kv,F,o _ _ n h1,#[h2.keys,h2.nd,h2.val],h3]
theorem oG.off {gp c:Dc}(n:∀b∈gp,∀xs,¬Rd H b (.tup xs))(o:Off gp H H')(q:∀b∈gp,b∈c\/∃xs,H b=some (.lst xs))(h:oG K H c vs B):oG K H' c vs B :=
 #[h.1,λi x v a b=>let ⟨t,u,m,e,h0,h1,h2,h3⟩:=h.2 i x v a b;#[t,u,m,e,h0,jC n o h1,jC n o h2,h3.off o λz=>by
  let#[f,_,d,_]:=h3
  rcases q m z with y|⟨xs,y⟩
  .let:=h0 y
  .rw[d]at y;cases y]]
theorem oG.same (s:zz H H')(h:oG K H ds vs B):oG K H' ds vs B:=h.off (gp:=[]) (λb m=>(nomatch m)) (Off.of s) λb m=>(nomatch m)
namespace AR
abbrev st:Stmt:=top 49
theorem sc:zx ["lines"] ["lines"] (zI st):=CC
include T in
theorem ok (F:xj0 K "marked" st f fd):zc P w K mg base CA 1 f fd ["lines"] (pU K):=by
 let:=F.ok sc λ_ _ _ _ H vs Q E hr h=>?_;let#[b,n,rfl,I,ll,k]:=h;let:=#[_,(zF<|zQ<|zW (KA (K:=K) rfl) (by rfl) T.dict PyProof.Rows.boot_dict<|zA (yS (sc:=zI st) (N:=["lines"]) (N':=["line"]) (src:=[none]) .a rfl rfl rfl (jV<|pv 0) (λ_ _ _ _=>(zR (i:=0) (show(["line"]:By).Nodup by lk) rfl (Ew rfl))) (λ_ _ _ _=>x5) (λ_ _ _ _=>(yW<|zA (pv 0)<|zA xT zC))) zC),?_];let:=#[b,rfl,#[_,I],qR (K:=K) (a:=b) (xs:=n.map V.str) (λi c A g=>∃o,A=[o]/\zz H g/\Kx K g c ((n.take i).map λx=>((Ec x:Key),V.bl true))) #[none,rfl,zz.refl _,rfl,λi x z=>(nomatch z)] (zu (by rw[Zj];lia)) ?_ ?_ ?_]
 .rintro i c A g Z ⟨o,rfl,l,pv,_⟩;let:=#[l.yu I,?_];rw[pv,Zj,ZL];lia
 .rintro i v c A g J ⟨o,rfl,l,pl,pv⟩;rw[Zz]at J;let#[x,r,rfl]:=ZO.mp J;let:=#[UC 2,λt M=>#[_,rfl,l.trans<|zD M,?_,λj y s=>?_]]
  .rw[yc r,Zu,Zq,Zq,pl];rfl
  .rw[yc r,Zu]
   rcases Jw j c.length with D|D
   .rw[ZT D]at s;let#[X,S,Y,e,B,C]:=pv j y s;let:=#[X,S,Y,e,(zD M).yu B,by rw[ZT<|⋯];let:=C]
   .rw[ZU D]at s;let#[O,rfl]:=An10.tE s;let:=#[t,.inr x,.bl true,rfl,yh.of zB,by rw[ZU<|⋯,<-pl,O];rfl]
 .rintro c A g ⟨o,rfl,l,pv⟩ p U;rw[Zj,ZS]at pv;have u:=zD (o:=.lst c) U;let:=#[p,c,_,rfl,zB,#[pv.1,λi x r=>let ⟨t,k,v,e,B,C⟩:=pv.2 i x r;#[t,k,v,e,u.yu B,C]],λm nm=>?_];let:=k m _ ((l.trans u).trans<|zD nm) ((l.trans u).free nm) ?_;let#[L,d,R]:=AnS.pG (K:=K) (H:=upd (upd g p<|.lst c) m<|.dK<|putAll []<|n.map λx=>((Ec x:Key),V.bl true)) (d:=.bool true) (more:=n.map λx=>((Ec x:Key),V.bl true)) AnS.yj.nil (λkv G=>by
   let#[x,_,rfl]:=Zo.mp G;let:=#[rfl,rfl])
  let:=#[_,L,zB,d,λx=>?_];rw[R,ZK];show _\/x∈n.map id↔_;rw[JK];let:=#[λz=>z.resolve_left (λq=>nomatch q),.inr]
end AR
namespace AS
abbrev st:Stmt:=top 50
theorem sc:zx ["marks","lines","lacking"] ["marks","lines"] (zI st):=CC
include T in
theorem ok (F:xj0 K "least_cost" st f fd):zc P w K mg base CA 1 f fd ["marks","lines"] (oH K):=by
 let:=F.ok sc λ_ _ _ _ H I Q E A h=>?_;let#[m,b,xs,d,rfl,#[G,L,y,n,r],s,ll,k]:=h;let:=#[_,(zE (Cu (i:=2) sc.nd<|zK zN (by rfl) T.len ZV<|zA (yS (sc:=zI st) (N:=["marks","lines","lacking"]) (N':=["line","marks"]) (src:=[none,some 0]) .a rfl rfl rfl (jV<|pv 1) (λ_ _ _ _=>(zR (i:=0) (show(["line","marks"]:By).Nodup by lk) rfl (Ew rfl))) (λ_ _ _ _=>(II<|zO (Nh A.units) (pv 0) (pv 1)<|by with_unfolding_all rfl)) (λ_ _ _ _=>(pv 0))) zC) (zF<|zQ<|jB (zO HJ (pv 2) zG<|zS _) (zP z8 (qD (v:=.int 2) rfl T.sO #[_,rfl])<|pv 2) zG)),?_]
 let:=#[b,rfl,#[_,s],FT (K:=K) (a:=b) (xs:=d.map V.str) (λi g l j=>∃o,l=[o,some<|.ref m]/\j=H/\g.length<=i/\g=(lack xs<|d.take i).map V.str) #[none,rfl,rfl,Zn _,rfl] (zu (by rw[Zj];lia)) ?_ ?_ ?_]
 .rintro i g l j D ⟨o,rfl,rfl,e,_⟩;let:=#[s,e]
 .rintro i v g l j t ⟨o,rfl,rfl,e,rfl⟩;rw[Zz]at t;let#[x,B,rfl]:=ZO.mp t;have u:lack xs (d.take<|i+1)=lack xs (d.take i)++(if x∈xs then[] else[x]):=by
   unfold lack;rw[yc B,YX];show _++[x].filter _=_;rw[Jt]
   by_cases z:x∈xs
   .rw[ZI<|λq=>(show x∉xs from ZA q) z,ZJ z];rfl
   .rw[ZJ<|Zm z,ZI z];rfl
  let:=#[m,_,rfl,wu.k (k:=.inr x) y,_,rfl,UI (λc=>#[_,rfl,rfl,?_,?_])<|λc=>#[_,rfl,rfl,JA e,?_]]
  .rw[Zq];let:=Jd e
  .rw[n.isSome,YU,Yz,r]at c;rw[u,ZI c,Zu];rfl
  .rw[n.isSome,YU,Yz,L0,r]at c;rw[u,ZJ c,ZW]
 .rintro g l j ⟨o,rfl,rfl,e,rfl⟩ p C;rw[Zj,ZS];have q:=k _<|zD (o:=.lst<|(lack xs d).map V.str) C;let:=#[p,_,rfl,.inl<|za.of zB,zT ?_];rw[Zj];let:=#[_,rfl,UI (λc=>?_)<|λc=>?_]
  .rw[ZJ (by have:=ZA c;lia)]at q;let:=q
  .rw[ZI<|λz=>c<|Zm<|⋯]at q;let:=q
end AS
theorem Rk (xs ys:By):(An12.spans xs ys).length<=xs.length+1:=by
 have h:=An10.sJ (xs:=xs) (ys:=ys) (xs.length+ys.length) 0 0 ⋯;have b:=An10.iZ (xs:=xs) (ys:=ys) (i:=0) (k:=0);have e:=An12.rC (xs:=xs) (ys:=ys) (ps:=An10.path xs ys (xs.length+ys.length) 0 0) (lo:=0) (fi:=0);have l:=An12.pA (ys:=ys) (ps:=An10.path xs ys (xs.length+ys.length) 0 0++[(xs.length,ys.length)]) (lo:=0) (fi:=0);rw[e,Zq,Yc]at l;show(An12.wV xs ys 0 0 _).length<=_;lia
theorem kK {xs ys:By}(c:xs.length<=63)(d:ys.length<=63):(An12.spans xs ys).length<=200/\∀r∈An12.spans xs ys,∃ls:By,r.2.2=.tuple (ls.map .str)/\ls.length<=200:=by
 let:=#[Z2 (Rk xs ys)<|⋯,λr b=>?_];let#[i,k,ls,rfl,hl,_]:=An12.uc r b;let:=#[ls,rfl,⋯]
theorem rm.same (s:zz H1 H2)(h:rm K H H1 ls r u):rm K H H2 ls r u:=by
 cases r with
 |none=>let:=Dt.same s _ _ h
 |some x =>
  let#[n,#[b,e],d]:=h;let:=#[n,#[b,s _ _ e],Dt.same s _ _ d]
inductive BbI (K:Co)(H:Hp)(l b:D8)(ls:By)(y:Option Bs×Int)(σ:St)(H2:Hp):Prop
 |mk (o4 o5 o6 o7 o8:Option V) (t u:D8) (z:Option Bs×Int) (h0:σ=[some<|.ref l,some<|.ref b,some<|.ref t,some<|.int z.2,o4,o5,o6,o7,o8]) (h1:zz H H2) (h2:yh K H2 t [oB z.1,.ref u]) (h3:rm K H H2 ls z.1 u) (h4:z=y):BbI K H l b ls y σ H2
namespace AT
abbrev st:Stmt:=top 51
theorem sc:zx ["bases","lines","best","least","name","old","marks","spans","cost"] ["bases","lines"] (zI st):=CC
include T in
theorem ok (F:xj0 K "best_base" st f fd)(Q0:wU P w K mg base 1 "least_cost" ["marks","lines"]<|oH K)(Qy:wU P w K mg base 6 "spans_of" ["old","new"]<|rM K)(Qm:wU P w K mg base 5 "cost_of" ["rows"]<|An12.oJ K):zc P w K mg base CA 7 f fd ["bases","lines"] (mD K):=by
 let:=F.ok sc λ_ _ _ _ H vs Q E O h=>?_;let#[l,b,ds,ws,B,c,rfl,hl,bs,I,lo,bo,k]:=h;let:=#[_,(zE (Cu (i:=2) sc.nd<|yW<|zA jM<|zA (yW<|zA zr<|zA (pv 1) zC) zC)<|zE (Cu (i:=3) sc.nd<|zK zN (by rfl) T.len ZV<|zA (pv 1) zC)<|zE (yM Ep rfl (Nk rfl T.reversed<|zA (pv 0) zC) (Xg rfl<|yO (zR (i:=4) sc.nd rfl<|Ew rfl)<|yO (zR (i:=5) sc.nd rfl<|Ew rfl)<|yO (zR (i:=6) sc.nd rfl<|Ew rfl) kS)<|zF<|yG (zO Xd (zJ Q0 O.m<|zA (pv 6)<|zA (pv 1) zC) (pv 3)<|zS _) (zE (Cu (i:=7) sc.nd<|zJ Qy O.m<|zA (pv 5)<|zA (pv 1) zC)<|zE (Cu (i:=8) sc.nd<|zJ Qm O.m<|zA (pv 7) zC)<|zF<|yG (zO Xd (pv 8) (pv 3)<|zS _) (zE (Cu (i:=2) sc.nd<|yW<|zA (pv 4)<|zA (pv 7) zC)<|zF<|Cu (i:=3) sc.nd<|pv 8) zU) zU)<|zF<|zQ<|pv 2),?_]
 let:=#[UC 2,λu nu=>#[UC 2,λt nt=>zT ?_]];have s1:=zD (o:=.tup [V.str "leaf",V.ref b]) nu;have C:=s1.trans<|zD (o:=.tup [V.non,V.ref u]) nt;have hu:yh K (upd (upd H u<|.tup [V.str "leaf",V.ref b]) t<|.tup [V.non,V.ref u]) u [V.str "leaf",V.ref b]:=(zD nt).yu<|yh.of zB;have p:yh K (upd (upd H u<|.tup [V.str "leaf",V.ref b]) t<|.tup [V.non,V.ref u]) t [V.non,V.ref u]:=yh.of zB;generalize upd (upd H u<|.tup [V.str "leaf",V.ref b]) t (.tup [V.non,V.ref u])=H1 at C hu p ⊢;let:=#[b,_,rfl,.inr<|C.yu I,zT ?_];rw[Zj];have s:rm K H H1 c none u:=#[u,_,rfl,hu,_,_,rfl,rfl,_,_,rfl,#[b,_,rfl,C.yu I,zy.strs c],rfl];let:=#[l,ws,rfl,C.seq hl,F9 (K:=K) (a:=l) (xs:=ws) (λi=>BbI K H l b c<|(B.drop<|B.length-i).foldr (pick c) (none,c.length)) #[none,none,none,none,none,t,u,(none,c.length),rfl,C,p,s,by rw[Nat.sub_zero,List.drop_length];rfl] (λi σ M _ z=>by let#[_,_,_,_,_,_,_,_,_,e,_,_,_]:=z;let:=e.seq hl) ?_ ?_]
 .rintro i v σ M D J hi hv A hJ ⟨o4,o5,o6,o7,o8,t,u,z,rfl,g,p,s,n⟩;rw[bs.1]at hi hv;have hx:B[B.length-1-i]?=some B[B.length-1-i]:=Zv ⋯;let#[tt,o,m,rfl,_,h1,h2,h3]:=bs.2 _ _ v hx hv;have L:=bo _<|Zy hx;have ed:(B.drop<|B.length-(i+1)).foldr (pick c) (none,(c.length:Int))=pick c B[B.length-1-i] z:=by
   rw[n,show B.length-(i+1)=B.length-1-i by lia,Yv<|⋯,List.foldr_cons,show B.length-1-i+1=B.length-i by lia]
  rw[ed]at A;generalize B[B.length-1-i]=x at h1 h2 h3 L A;clear n ed;have lc:=N4 c x;let:=hJ #[tt,_,rfl,g.yu h1,rfl,_,_,rfl,_,_,rfl,_,_,rfl,rfl,?_];let:=#[m,b,x.2.1,c,rfl,h3.off (gp:=[]) (Off.of g) (λz=>nomatch z),g.yu I,lo.1,λH3 G=>#[_,rfl,UI (λZ=>?_)<|λZ=>?_]]
  .have d:=g.trans G;have Y:=kK L.1 lo.1;let:=#[o,b,x.2.1,c,rfl,d.yu h2,d.yu I,by have:=L.1;lia,by have:=lo.1;lia,L.2,lo.2,λsp H4 s5 R X y=>zT #[sp,_,rfl,y,Y.1,Y.2,λH5 s6=>zT #[_,rfl,UI (λj=>?_)<|λj=>?_]]]
   .have j:cst c x<z.2:=ZA j;let:=#[UC 2,λt' S=>zT<|zT ?_];have r:=s6.trans<|zD (o:=.tup [V.str x.1,V.ref sp]) S;let#[U,N]:=X;let:=A.nx _ _ #[_,_,_,_,_,t',sp,(some x,cst c x),rfl,d.trans<|s5.trans r,yh.of zB,#[d.free R,#[U,r _ _ N],Dt.same r _ _ y],?_];unfold pick;rw[ZJ j]
   .have j:¬cst c x<z.2:=λq=>j<|Zm q;have r:=(G.trans s5).trans s6;let:=A.nx _ _ #[_,_,_,_,_,t,u,z,rfl,g.trans r,r.yu p,s.same r,?_];unfold pick;rw[ZI j]
  .let:=A.nx _ _ #[_,_,_,_,_,t,u,z,rfl,g.trans G,G.yu p,s.same G,?_];unfold pick;rw[ZI<|λq=>Z<|Zm<|Int.lt_of_le_of_lt lc q]
 .rintro σ M ⟨o4,o5,o6,o7,o8,t,u,z,rfl,g,p,s,n⟩;rw[bs.1,Vh,VN]at n;have n:z=best B c:=n;subst n;let:=(k t u M g p s)
end AT
theorem Fm (g:wY Ts){p q:Pe}(d:p∈(Cq Ts).1)(f:q∈(Cq Ts).1)(h:p.e.nm=q.e.nm):p=q:=by
 have n:((Cq Ts).1.map λp=>p.e.nm).Nodup:=by
  have:=g.nn;rw[<-HP Ts,ZK]at this;let:=this
 let#[i,l,b]:=Yb.mp d;let#[j,o,c]:=Yb.mp f;have:i=j:=(Jq (h₀:=by rwa[Zj]) (h₁:=by rwa[Zj]) n).mp (by rwa[Ya,Ya,b,c]);subst this;rw[<-b,c]
theorem SR (g:wY Ts):((CG (Cq Ts).1).map (·.1)).Nodup:=by
 have c:(CG (Cq Ts).1).map (·.1)=(Ts.map En.nm).map λx=>(.inr x):=by
  conv=>rhs;rw[<-HP Ts]
  unfold CG;rw[ZK,ZK,ZK];rfl
 rw[c];let:=List.Pairwise.map (λx=>(Ec x:Key)) (λa b h z=>h<|Sum.inr.inj z) g.nn
theorem ay (g:wY Ts){p:Pe}(b:p∈(Cq Ts).1):UH (CG (Cq Ts).1) (Ec p.e.nm:Key)=some (bV p) :=
 vF (SR g) (Zo.mpr #[p,b,rfl])
theorem az (g:wY Ts){b:Dc}(h:b.length=Ts.length){p:Pe}(n:p∈(Cq Ts).1):∃(i:Nat) (t:D8),(Cq Ts).1[i]?=some p/\b[i]?=some t/\UH (M9 (Cq Ts).1 b) (Ec p.e.nm:Key)=some (V.ref t):=by
 let#[i,l,j]:=Yb.mp n;have c:i<b.length:=by rwa[h,<-jY]
 have d:(Cq Ts).1[i]?=some p:=by rw[Zv l,j]
 have f:=Zv c;let:=#[i,_,d,f,vF ?_<|Zo.mpr #[(p,b[i]),Zy (by rw[Jn];let:=#[d,f]),rfl]];have:(M9 (Cq Ts).1 b).map (·.1)=(CG (Cq Ts).1).map (·.1):=by
  unfold M9 CG;have z:((Cq Ts).1.zip b).map (·.1)=(Cq Ts).1:=J9 (by rw[jY,h];let:=Zn _)
  conv=>rhs;rw[<-z]
  rw[ZK,ZK,ZK];rfl
 rw[this];let:=SR g
theorem Sj (h:UT Ts d=true):∃p∈(Cq Ts).1,d=.str p.e.nm:=by
 cases d with
 |str x =>
  have h:=ZA h;rw[<-HP Ts,ZK]at h;let#[p,c,rfl]:=Zo.mp h;let:=#[p,c,rfl]
 |none=>cases h
 |bool b=>cases h
 |int i=>cases h
 |list ds=>cases h
 |tuple ds=>cases h
 |dict Dl=>cases h
theorem KN {p:Pe}(h:p∈(Cq Ts).1):UT Ts (.str p.e.nm)=true:=Zm<|Zo.mpr #[p.e,q8 h,rfl]
inductive sH (K:Co)(D aN:D8)(vs:Di)(H:Hp)(Q:VK)(E:XK):Prop
 |mk (a:D8) (fp:Dc) (Ts:Dh) (d:Eg) (v:V) (h0:vs=[.ref a,v]) (h1:vz K D H a fp Ts) (h2:Dw K H d v) (h3:(∀p∈(Cq Ts).1,d=.str p.e.nm->Q (bV p) H)) (h4:(UT Ts d=false->E (.ref aN) none H)):sH K D aN vs H Q E
inductive ux (K:Co)(D aN:D8)(n:Nat)(vs:Di)(H:Hp)(Q:VK)(E:XK):Prop
 |mk (a:D8) (fp:Dc) (Ts:Dh) (d:Eg) (v:V) (h0:vs=[.ref a,v]) (h1:0<n) (h2:vz K D H a fp Ts) (h3:Dw K H d v) (h4:(∀p∈(Cq Ts).1,d=.str p.e.nm->p.st<n/\Q (.int p.st) H)) (h5:(UT Ts d=false->E (.ref aN) none H)):ux K D aN n vs H Q E
inductive wg (K:Co)(D aN:D8)(n:Nat)(vs:Di)(H:Hp)(Q:VK)(E:XK):Prop
 |mk (a:D8) (fp:Dc) (Ts:Dh) (d:Eg) (v:V) (h0:vs=[.ref a,v]) (h1:0<n) (h2:vz K D H a fp Ts) (h3:Dw K H d v) (h4:(∀p∈(Cq Ts).1,d=.str p.e.nm->p.st<n/\∀t H',zz H H'->Dt K H' p.e.d (.ref t)->Q (.ref t) H')) (h5:(UT Ts d=false->E (.ref aN) none H)):wg K D aN n vs H Q E
namespace AU
abbrev st:Stmt:=inClass (top 52) 4
theorem sc:zx ["self","name"] ["self","name"] (zI st):=CC
include T in
theorem ok (F:xj K "base_at" "Pack.base_at" st f fd)(i:pL P w K mg base 3 "need_name" ["store","name"]<|uv P w K aC aP aN):zc P w K mg base (CI P w) 4 f fd ["self","name"] (sH K aP aN):=by
 let:=F.jd sc λ_ _ _ _ H A Q E c h=>?_;let#[a,n,S,d,v,rfl,pk,hd,k1,k2]:=h;let:=#[_,(zE (zX<|kD i (c.mono<|⋯) x8<|zA (pv 0)<|zA (pv 1) zC)<|zF<|zQ<|kA c.wH (xP (pv 0) rfl) (pv 1)<|λ_ _=>rfl),?_]
 let:=#[aP,a,n,S,d,v,rfl,.pk rfl pk,hd,λq=>?_,k2];let#[p,b,rfl]:=Sj q;cases(show v=_ from hd);have k1:=k1 p b rfl;have s:=ay pk.good b;let#[g,lf,l,j,u,t,z,rfl,nd,o,y,r,_]:=pk;let:=#[a,aP,l,_,_,rfl,o,T.wR,T.m1,rfl,j,_,rfl,by rw[<-s];let:=wu.k (k:=(Ec p.e.nm:Key)) r,k1]
end AU
namespace AV
abbrev st:Stmt:=inClass (top 52) 7
theorem sc:zx ["self","name","base"] ["self","name"] (zI st):=CC
theorem step {L:Nat}(X:4<=L){f:D8}{r:Ee}(F:xj K "steps" "Pack.steps" st f r)(T:Txt P w K mg t1 t2 t3 t4 t5 t6 t7 t8 t9 aL aC aN aP fI)(B:ug P w K mg base aP 4 "base_at" ["self","name"]<|sH K aP aN)(C:ug P w K mg base aP L "steps" ["self","name"]<|ux K aP aN n):zc P w K mg base (CI P w) (L+1) f r ["self","name"] (ux K aP aN<|n+1):=by
 let:=F.jd sc λ_ _ _ _ H Z Q E u h=>?_;let#[a,U,S,d,v,rfl,_,pk,hd,k1,k2]:=h;let#[g,lf,l,N,O,M,Y,rfl,nd,s,_]:=id pk;let:=#[_,(zE (Cu (i:=2) sc.nd<|qV (pv 0) T.wR B (u.mono<|⋯) x8<|zA (pv 1) zC)<|zF<|zQ<|jB (zO K9 (pv 2) jM<|zS _) zG<|zP z8 zG<|qV (pv 0) T.wR C (u.mono<|⋯) x8<|zA (pv 2) zC),?_]
 let:=#[a,l,_,rfl,s,rfl,a,_,S,d,v,rfl,pk,hd,λp t I=>zT ?_,k2];let#[pl,q]:=k1 p t I;have c:p.st=match p.b with
  |none=>0
  |some x=>x.2.2+1:=rfl
 let:=#[rfl,p.b.isNone,?_,?_]
 .unfold bV;cases p.b with
  |none=>let:=congrArg V.bl<|Zm rfl
  |some x=>let:=congrArg V.bl<|ZE<|λz=>nomatch z
 .cases e:p.b with
  |none =>
   rw[e]at c;rw[c]at q;let:=UJ q
  |some x =>
   rw[e]at c;let#[#[y,A,o,R,G,_],_]:=(Bh S).2 p t x e;have D:bV p=.str x.1:=by unfold bV;rw[e]
   rw[D];have c:p.st=x.2.2+1:=c;let:=UB #[a,l,_,rfl,s,rfl,a,_,S,.str x.1,.str x.1,rfl,⋯,pk,rfl,λz J j=>?_,λno=>?_]
   .have:z=y:=Fm g J A (by rw[o];injection j with j;let:=j.symm);subst this;let:=#[⋯,?_];rw[G];rw[c]at q;have:(1:Int)+((x.2.2:Nat):Int)=((x.2.2+1:Nat):Int):=⋯
    rw[<-this]at q;let:=q
   .rw[<-o,KN A]at no;cases no
end AV
namespace AW
abbrev st:Stmt:=inClass (top 52) 5
theorem sc:zx ["self","name","base","part"] ["self","name"] (zI st):=CC
theorem step {L:Nat}(l4:4<=L){f:D8}{O:Ee}(F:xj K "thing" "Pack.thing" st f O)(T:Txt P w K mg t1 t2 t3 t4 t5 t6 t7 t8 t9 aL aC aN aP fI)(Z:ug P w K mg base aP 4 "base_at" ["self","name"]<|sH K aP aN)(Qo:wU P w K mg base 1 "spans_done" ["old","rows"]<|An12.mH K)(Qe:ug P w K mg base aP L "thing" ["self","name"]<|wg K aP aN n):zc P w K mg base (CI P w) (L+1) f O ["self","name"] (wg K aP aN<|n+1):=by
 let:=F.jd sc λ_ _ _ _ H vs Q E j h=>?_;let#[a,fp,S,d,v,rfl,_,pk,hd,k1,k2]:=h;let#[g,lf,C,d1,d2,ab,ts,rfl,nd,G,h2,h3,h4,h5,h6,h7]:=id pk;let:=#[_,(zE (Cu (i:=2) sc.nd<|qV (pv 0) T.wR Z (j.mono<|⋯) x8<|zA (pv 1) zC)<|zE (Cu (i:=3) sc.nd<|kA j.wH (xP (pv 0) rfl) (pv 1)<|λ_ _=>rfl)<|zF<|zQ<|jB (zO K9 (pv 2) jM<|zS _) (pv 3)<|yW<|zA zr<|zA (zJ Qo (j.mono<|⋯)<|zA (zV (zj:Cy _<|yr K) (qV (pv 0) T.wR Qe (j.mono<|⋯) x8<|zA (pv 2) zC) zG)<|zA (pv 3) zC) zC),?_]
 let:=#[a,C,_,rfl,G,rfl,a,_,S,d,v,rfl,pk,hd,λp B N=>zT ?_,k2];let#[pl,q]:=k1 p B N;subst N;cases(show v=_ from hd);let#[i,t,q1,q2,hv]:=az g h5 B;have pt:=h7 i p t q1 q2;let:=#[a,aP,C,_,_,rfl,G,T.wR,T.m2,rfl,d2,_,rfl,by rw[<-hv];let:=wu.k (k:=(Ec p.e.nm:Key)) h4,zT ?_];let:=#[rfl,p.b.isNone,?_,?_]
 .unfold bV;cases p.b with
  |none=>let:=congrArg V.bl<|Zm rfl
  |some x=>let:=congrArg V.bl<|ZE<|λz=>nomatch z
 .unfold wG at pt;cases s:p.b with
  |none =>
   rw[s]at pt;let:=UJ<|q t H (zz.refl _) pt
  |some x =>
   rw[s]at pt;let#[_,ls,hl,hs]:=pt;have ep:p.st=x.2.2+1:=by unfold Pe.st;rw[s]
   let#[#[y,I,M,e2,e3,_],_]:=(Bh S).2 p B x s;have bx:bV p=.str x.1:=by unfold bV;rw[s]
   rw[bx];let#[pd,lo]:=lf.ln (q8 B) hl;let#[yd,Y]:=lf.ln (q8 I) e2;let:=UB #[a,C,_,rfl,G,rfl,a,_,S,.str x.1,.str x.1,rfl,⋯,pk,rfl,λz hz D=>?_,λno=>?_]
   .have:z=y:=Fm g hz I (by rw[M];injection D with D;let:=D.symm);subst this;let:=#[⋯,λtt H1 R u=>?_];rw[yd]at u;let#[c,b,ec,hc,hb]:=xU u;cases ec;have en:=An12.oY ∅ (An12.lX (xs:=x.2.1) lo.2) (λr j=>by
     let#[i,k,l2,rfl,aa,m2]:=An12.uc r j;let:=An12.mX (by have:=lo.1;lia) λl hl=>lo.2 l<|m2 l hl)
    let:=#[tt,_,_,_,rfl,rfl,hc,rfl,b,t,x.2.1,_,rfl,hb,Dt.same R _ _ hs,by have:=Y.1;lia,(kK Y.1 lo.1).1,en,λr H2 s2 nr A=>#[UC 2,λX J=>?_]];rw[An12.rA]at A;rw[pd]at q;have U:=zD (o:=.tup [V.str "leaf",V.ref r]) J;let:=q X _ ((R.trans s2).trans U) #[X,_,rfl,yh.of zB,_,_,rfl,rfl,_,_,rfl,#[r,_,rfl,U.yu A,zy.strs ls],rfl]
   .rw[<-M,KN I]at no;cases no
end AW
theorem BJ (F:xj K "steps" "Pack.steps" AV.st f fd)(T:Txt P w K mg t1 t2 t3 t4 t5 t6 t7 t8 t9 aL aC aN aP fI)(b:ug P w K mg base aP 4 "base_at" ["self","name"]<|sH K aP aN)(e:Meth K aP "steps" f)(d:wW K fd ["self","name"] []):∀n,zc P w K mg base (CI P w) (4+n) f fd ["self","name"] (ux K aP aN n)
 | 0=>#[λg H Q E ⟨_,_,_,_,_,_,z,_,_,_,_⟩=>absurd z<|∅,λA outer s H c h g Q E _ _ _ _ ⟨_,_,_,_,_,_,z,_,_,_,_⟩=>absurd z<|∅]
 |n+1=>AV.step (Nat.le_add_right 4 n) F T b #[#[_,_,BJ F T b e d n,e,d]]
theorem BG (F:xj K "thing" "Pack.thing" AW.st f fd)(T:Txt P w K mg t1 t2 t3 t4 t5 t6 t7 t8 t9 aL aC aN aP fI)(b:ug P w K mg base aP 4 "base_at" ["self","name"]<|sH K aP aN)(c:wU P w K mg base 1 "spans_done" ["old","rows"]<|An12.mH K)(g:Meth K aP "thing" f)(e:wW K fd ["self","name"] []):∀n,zc P w K mg base (CI P w) (4+n) f fd ["self","name"] (wg K aP aN n)
 | 0=>#[λh H Q E ⟨_,_,_,_,_,_,z,_,_,_,_⟩=>absurd z<|∅,λA outer s H d i h Q E _ _ _ _ ⟨_,_,_,_,_,_,z,_,_,_,_⟩=>absurd z<|∅]
 |n+1=>AW.step (Nat.le_add_right 4 n) F T b c #[#[_,_,BG F T b c g e n,g,e]]
inductive jb (K:Co)(D:D8)(vs:Di)(H:Hp)(Q:VK)(e3:XK):Prop
 |mk (a dx d1 d2:D8) (lts ts:Dc) (Ts:Dh) (p:Pe) (h0:vs=[.ref a,.str p.e.nm]) (h1:wY Ts) (h2:Lf Ts) (h3:H a=some (.ins D dx<|F7 d1 d2)) (h4:Rd H d1<|.dK<|CG (Cq Ts).1) (h5:H d2=some (.dK<|M9 (Cq Ts).1 ts)) (h6:ts.length=Ts.length) (h7:(∀(i:Nat) (p:Pe) (t:D8),(Cq Ts).1[i]?=some p->ts[i]?=some t->wG K H lts p t)) (h8:p∈(Cq Ts).1) (h9:∀H',zz H H'->Q (.int<|Mx p) H'):jb K D vs H Q e3
inductive sE (K:Co)(D:D8)(vs:Di)(H:Hp)(Q:VK)(e3:XK):Prop
 |mk (a:D8) (fp:Dc) (Ts:Dh) (h0:vs=[.ref a]) (h1:vz K D H a fp Ts) (h2:∀H',zz H H'->Q (.int ((Cq Ts).1.map Mx).sum) H'):sE K D vs H Q e3
namespace AX
abbrev st:Stmt:=inClass (top 52) 6
theorem sc:zx ["self"] ["self"] (zI st):=CC
include T in
theorem ok (F:xj K "names" "Pack.names" st f fd):zc P w K mg base CA 1 f fd ["self"] (ut K aP):=by
 let:=F.ok sc λ_ _ _ _ H t Q E r h=>?_;let#[a,p,S,rfl,sh,k]:=h;let#[g,lf,c,b,o,n,s,rfl,nd,d,q,i,_]:=sh;let:=#[_,(zF<|zQ<|zW (KC rfl) (by rfl) T.list Yd<|zA (xP (pv 0) rfl) zC),?_];let:=#[a,aP,c,_,_,rfl,d,T.wR,T.m1,rfl,b,_,rfl,.inl i,λl nl=>?_];have e:((CG (Cq S).1).map λj=>kV j.1)=S.map λe=>V.str e.nm:=by
  conv=>rhs;rw[<-HP S]
  unfold CG;rw[ZK,ZK];rfl
 rw[e];let:=k l nl
end AX
namespace AY
abbrev st:Stmt:=inClass (top 52) 8
theorem sc:zx ["self","name","part"] ["self","name"] (zI st):=CC
include T in
theorem ok (F:xj K "weight_at" "Pack.weight_at" st f fd)(v:wU P w K mg base 5 "cost_of" ["rows"]<|An12.oJ K):zc P w K mg base CA 6 f fd ["self","name"] (jb K aP):=by
 let:=F.ok sc λ_ _ _ _ H vs Q E q h=>?_;let#[a,s,A,B,U,Z,S,p,rfl,g,lf,u,G,I,J,L,n,k]:=h;let#[i,t,X,Y,N]:=az g J n;let:=#[_,(zE (Cu (i:=2) sc.nd<|kA q.wH (xP (pv 0) rfl) (pv 1)<|λ_ _=>rfl)<|zE (yG (zO B8 (kA q.wH (xP (pv 0) rfl) (pv 1)<|λ_ _=>rfl) jM<|zS _) (zF<|zQ<|zJ v q.m<|zA (pv 2) zC) zU)<|zF<|zQ<|jB (zO yX (zV (zj:Cy _<|yr K) (pv 2) zG) zr<|zS _) (zK zN (by rfl) T.len ZV<|zA (zV (zj:Cy _<|yr K) (pv 2) zG) zC) zG),?_]
 have l:=ay g n;have pt:=L i p t X Y;let:=#[a,aP,s,_,_,rfl,u,T.wR,T.m2,rfl,B,_,rfl,by rw[<-N];let:=wu.k (k:=(Ec p.e.nm:Key)) I,zT ?_];let:=#[a,aP,s,_,_,rfl,u,T.wR,T.m1,rfl,A,_,rfl,.inl #[_,(Ec p.e.nm:Key),G,rfl,l.symm],rfl,p.b.isSome,?_,?_]
 .unfold bV;cases p.b with
  |none=>let:=congrArg V.bl (by rw[Zm rfl];rfl)
  |some x=>let:=congrArg V.bl (by rw[ZE<|λz=>nomatch z];rfl)
 .unfold wG at pt;unfold Mx at k;cases o:p.b with
  |none =>
   rw[o]at pt k;let:=UB ?_;let#[th,D,lo]:=lf _<|q8 n;rw[D]at pt k;cases th with
   |leaf R =>
    let#[c,b,j,d,l]:=xU pt;cases j;rw[Ir]at k;let:=#[t,_,_,_,rfl,rfl,d,rfl,rfl,true,congrArg V.bl<|Zm rfl,UJ #[t,_,_,_,rfl,rfl,d,rfl,b,_,rfl,.inr l,?_]];rw[Zj];let:=k H<|zz.refl _
   |tree rs =>
    let#[c,b,j,d,l]:=kU pt;cases j;rw[Im]at k;let:=#[t,_,_,_,rfl,rfl,d,rfl,rfl,false,congrArg V.bl<|by lk,UB<|k H<|zz.refl _]
   |note x y z =>
    let#[c,b,j,d,l]:=uA pt;cases j;let:=#[t,_,_,_,rfl,rfl,d,rfl,rfl,false,congrArg V.bl<|by lk,UB<|k H<|zz.refl _]
  |some x =>
   rw[o]at pt k;let#[_,R,hl,M]:=pt;rw[hl]at k;let#[#[y,O,_,C,_],_]:=(Bh S).2 p n x o;have r:=kK (lf.ln (q8 O) C).2.1 (lf.ln (q8 n) hl).2.1;let:=UJ #[t,_,rfl,M,r.1,r.2,k]
end AY
namespace AZ
abbrev st:Stmt:=inClass (top 52) 9
theorem sc:zx ["self"] ["self"] (zI st):=CC
include T in
theorem ok (F:xj K "weight" "Pack.weight" st f fd)(Q1:Met P w K mg base aP 6 "weight_at" ["self","name"]<|jb K aP):zc P w K mg base CA 7 f fd ["self"] (sE K aP):=by
 let:=F.ok sc λ_ _ _ _ H vs Q E hr h=>?_;let#[a,fp,S,rfl,pk,k]:=h;let#[g,lf,G,c,X,n,U,rfl,nd,A,h2,r,h4,h5,h6,h7]:=pk;let:=#[_,(zF<|zQ<|zK (FQ rfl) (by rfl) T.sum PyProof.Rows.boot_sum<|zA (Si<|yS (sc:=zI st) (N:=["self"]) (N':=["name","self"]) (src:=[none,some 0]) .a rfl rfl rfl (Nj<|Gm<|xP (pv 0) rfl) (λ_ _ _ _=>(zR (i:=0) (show(["name","self"]:By).Nodup by lk) rfl (Ew rfl))) (λ_ _ _ _=>x5) (λ_ _ _ _=>(yK (pv 1) T.wR Q1 hr.m<|zA (pv 0) zC))) zC),?_];have gl:=g.len;let:=#[a,aP,G,_,_,rfl,A,T.wR,T.m1,rfl,c,_,rfl,r,λl=>?_];have n0:∀o u,H c≠some (.frz o u):=λo u z=>by rw[r]at z;cases z
 have s:(upd H c<|.frz l<|.dK<|CG (Cq S).1) c=some (.frz l<|.dK<|CG (Cq S).1):=zB;have O:Off [c] H (upd H c<|.frz l<|.dK<|CG (Cq S).1):=(Off.refl _ _).upd<|Zk.mpr rfl;have nt:∀b∈[c],∀xs,¬Rd H b (.tup xs):=λb hb=>by rw[Zk.mp hb];let:=jZ r
 have L:=O a _ (λz=>by rw[Zk.mp z,r]at A;cases A) A;have Y:=O X _ (λz=>nd (Zk.mp z).symm) h4;have Z:∀(i:Nat) (p:Pe) (t:D8),(Cq S).1[i]?=some p->U[i]?=some t->wG K (upd H c<|.frz l<|.dK<|CG (Cq S).1) n p t:=λi p t y R=>(h7 i p t y R).off nt O (λz=>by
  let#[xs,e]:=h6 t z;intro q;rw[Zk.mp q,r]at e;cases e) (g.ent _<|q8<|Zy y).key.1
 have bk:∀{j:Hp},zz (upd H c<|.frz l<|.dK<|CG (Cq S).1) j->zz H (upd j c<|.dK<|CG (Cq S).1):=λ{j} e=>Iz r e;generalize upd H c (.frz l<|.dK<|CG (Cq S).1)=Hf at s L Y Z bk ⊢;have kl:(CG (Cq S).1).length=S.length:=by unfold CG;rw[Zj,jY]
 let:=#[c,l,_,rfl,s,NL (λi C D j=>∃o,D=[o,some<|.ref a]/\zz Hf j/\C=(((Cq S).1.take i).map Mx).map V.int) #[none,rfl,zz.refl _,rfl] (zu<|⋯) ?_ ?_ ?_]
 .rintro i C D j B ⟨o,rfl,d,rfl⟩;let:=#[d _ _ s,?_];rw[Zj,Zj,ZL];lia
 .rintro i kk v C D j B ⟨o,rfl,d,rfl⟩;unfold CG at B;rw[Zz]at B;let#[p,hp,eq]:=ZO.mp B;injection eq with I J;subst I J;have gp:∀(i:Nat) (p:Pe) (t:D8),(Cq S).1[i]?=some p->U[i]?=some t->wG K j n p t:=λi p t y R=>(Z i p t y R).off (gp:=[]) (λb m=>(nomatch m)) (Off.of d) (λ_ z=>nomatch z) (g.ent _<|q8<|Zy y).key.1;let:=zT #[a,G,_,rfl,d _ _ L,rfl,a,G,c,X,n,U,S,p,rfl,g,lf,d _ _ L,.inr #[l,d _ _ s],d _ _ Y,h5,gp,Zy hp,λH3 s3=>?_];let:=#[_,rfl,d.trans s3,?_];rw[yc hp,Zu,Zu];rfl
 .rintro C D j ⟨o,rfl,d,rfl⟩ p M;have up:=zD (o:=.lst<|(((Cq S).1.take (CG (Cq S).1).length).map Mx).map V.int) M;let:=#[c,l,_,up _ _<|d _ _ s,n0,p,((Cq S).1.take (CG (Cq S).1).length).map Mx,rfl,za.of ?_,?_]
  .rw[zH (λz=>by rw[z,d _ _ s]at M;cases M)];let:=zB
  .have:=k _<|bk<|d.trans up;rw[kl,<-jY,ZS];rw[kl,<-jY,ZS]at this;let:=this
end AZ
def Cs (S:Dh):Prop:=∀e∈S,∀n∈inD e.d,n∈S.map En.nm
theorem Ii (c:Cs S)(g:(S.map En.nm).Nodup){rs:By}(d:∀r∈rs,r∈S.map En.nm){x:Str}(h:pP (CK S) rs x):x∈S.map En.nm:=by
 induction h with
 |root h=>let:=d _ h
 |step h1 h2 ih =>
  let#[e,b,rfl]:=Zo.mp ih;rw[X2 g b]at h2;let:=c e b _ h2
theorem vB {t:Th}(g:t.Good):(namesW t).length<=1000:=by
 have h:=g.1;cases t with
 |leaf ls=>let:=ZP _
 |tree Dm =>
  have h:(z7 Dm).length<=1000:=h;rw[vq]at h;show(Dm.map (·.2)).length<=1000;rw[Zj];lia
 |note x ps y =>
  have h:(x::UK ps.length::(ps++[y])).length<=1000:=h;rw[ZH,ZH,Zq]at h;show ps.length+1<=1000;simp at h;lia
inductive rB (K:Co)(vs:Di)(H:Hp)(Q:VK)(e3:XK):Prop
 |mk (a:D8) (t:Th) (h0:vs=[.ref a]) (h1:Dt K H t.dat<|.ref a) (h2:t.Good) (h3:∀l H',zz H H'->H l=none->H' l=some (.lst<|(namesW t).map V.str)->Q (.ref l) H'):rB K vs H Q e3
inductive lV (P:Ea)(w:Ef)(K:Co)(C D fI:D8)(vs:Di)(H:Hp)(Q:VK)(e3:XK):Prop
 |mk (c a fo rl:D8) (fp:Dc) (S:Dh) (rs:By) (h0:vs=[.ref a,.ref fo,.ref rl,.ref fI]) (h1:wz P w K C D c H a fp S) (h2:(∀e∈S,U5 e)) (h3:Cs S) (h4:H fo=some (.dK [])) (h5:fo∉fp) (h6:za K H rl<|rs.map V.str) (h7:rs.length<=1000) (h8:(∀r∈rs,r∈S.map En.nm)) (h9:∀H',Off [fo] H H'->(∃ke F,H' fo=some (.dK ke)/\AnS.yj K H' ke F (λ_=>.bool true)/\(∀x,x∈F↔pP (CK S) rs x))->Q .non H'):lV P w K C D fI vs H Q e3
inductive oW (P:Ea)(w:Ef)(K:Co)(C D:D8)(vs:Di)(H:Hp)(Q:VK)(e3:XK):Prop
 |mk (c a fo:D8) (fp:Dc) (S:Dh) (ke:Dk) (F:By) (h0:vs=[.ref a,.ref fo]) (h1:wz P w K C D c H a fp S) (h2:H fo=some (.dK ke)) (h3:AnS.yj K H ke F<|λ_=>.bool true) (h4:∀l H',zz H H'->H l=none->H' l=some (.lst<|((S.map En.nm).filter λx=>decide (x∈F)).map V.str)->Q (.ref l) H'):oW P w K C D vs H Q e3
inductive tU (P:Ea)(w:Ef)(K:Co)(C D aN:D8)(vs:Di)(H:Hp)(Q:VK)(E:XK):Prop
 |mk (c a rl:D8) (fp:Dc) (S:Dh) (ds:De) (xs:Di) (h0:vs=[.ref a,.ref rl]) (h1:wz P w K C D c H a fp S) (h2:(∀e∈S,U5 e)) (h3:Cs S) (h4:za K H rl xs) (h5:zy K H ds xs) (h6:ds.length<=1000) (h7:(∀rs,ds=rs.map .str->(∀r∈rs,r∈S.map En.nm)->∀l H',zz H H'->H l=none->(∃F:By,(∀x,x∈F↔pP (CK S) rs x)/\H' l=some (.lst<|((S.map En.nm).filter λx=>decide (x∈F)).map V.str))->Q (.ref l) H')) (h8:((∃d∈ds,UT S d=false)->E (.ref aN) none H)):tU P w K C D aN vs H Q E
structure Wk (S:Dh)(rs F L:By):Prop where
 nd:F.Nodup
 lQ:∀x,x∈F\/x∈L->pP (CK S) rs x
 roots:∀r∈rs,r∈F\/r∈L
 par:∀x∈F,∀y∈CK S x,y∈F\/y∈L
theorem Wk.len (h:Wk S rs F L)(c:Cs S)(d:∀r∈rs,r∈S.map En.nm)(g:(S.map En.nm).Nodup):F.length<=S.length:=by
 have:=AnS.len_sub h.nd g λp b=>Ii c g d<|h.lQ p<|.inl b;rw[Zj]at this;let:=this
theorem Wk.skip {L:By}{x:Str}(h:Wk S rs F<|L++[x])(d:x∈F):Wk S rs F L:=by
 have sub:∀y,y∈F\/y∈L++[x]->y∈F\/y∈L:=λy b=>by
  rcases b with z|z
  .let:=.inl z
  .rcases ZD.mp z with z|z
   .let:=.inr z
   .rw[Zk.mp z];let:=.inl d
 let:=#[h.nd,λy b=>h.lQ y<|b.imp id λz=>Z4 _ z,λr c=>sub r<|h.roots r c,λy b z e=>sub z<|h.par y b z e]
theorem Wk.take {L:By}{x:Str}(h:Wk S rs F<|L++[x])(d:x∉F):Wk S rs (AnS.sY F x) (L++CK S x):=by
 have f:=h.lQ x<|.inr<|ZM _<|Zk.mpr rfl;have sub:∀y,y∈F\/y∈L++[x]->y∈AnS.sY F x\/y∈L++CK S x:=λy b=>by
  rcases b with z|z
  .let:=.inl (AnS.vo.mpr<|.inl z)
  .rcases ZD.mp z with z|z
   .let:=.inr (Z4 _ z)
   .rw[Zk.mp z];let:=.inl<|AnS.vo.mpr<|.inr rfl
 let:=#[?_,λy b=>?_,λr e=>sub r<|h.roots r e,λy b z c=>?_]
 .unfold AnS.sY;rw[ZI d];let:=jN h.nd d
 .rcases b with z|z
  .rcases AnS.vo.mp z with z|z
   .let:=h.lQ y (.inl z)
   .rwa[z]
  .rcases ZD.mp z with z|z
   .let:=h.lQ y (.inr<|Z4 _ z)
   .let:=.step f z
 .rcases AnS.vo.mp b with q|q
  .let:=sub z (h.par y q z c)
  .rw[q]at c;let:=.inr<|ZM _ c
theorem R5 {H:Hp}{c:D8}{e:Dk}(h:H c=some (.dK e)):∀b∈[c],∀xs,¬Rd H b (.tup xs):=λb d xs z=>by
 rw[Zk.mp d]at z
 rcases z with z|⟨u,z⟩
 .rw[h]at z;cases z
 .rw[h]at z;cases z
theorem Rg {j:Df}(h:zy K H (j.map zp) rs){i:Nat}{v:V}(e:rs[i]?=some v):∃r c,j[i]?=some r/\v=.ref c/\yh K H c [V.str r.1,V.str r.2]:=by
 let#[d,hd,q]:=h.get e;rw[Zz]at hd;let#[r,p,rfl]:=ZO.mp hd;let#[c,u,rfl,o,x,s,l,b,y,t,n,f,g]:=q;have b:=b;have f:=f;have g:=g;subst l n b f g;let:=#[r,c,p,rfl,o]
theorem Kf (e:zz H H')(h:yh K H c xs):yh K H' c xs:=by
 rcases h with(h|⟨o,h⟩)|h
 .let:=.inl (.inl<|e _ _ h)
 .let:=.inl (.inr #[o,e _ _ h])
 .let:=.inr h
theorem BO (ne:aC≠aP)(M:Met P w K mg base aC 1 "names" ["self"]<|tM P w K aC)(N:Met P w K mg base aP 1 "names" ["self"]<|ut K aP):∀c,Kl aC aP c->Met P w K mg base c 1 "names" ["self"] (nJ P w K aC aP c) :=
 two (M.imp (Zn _) λd H Q E ⟨a,b,S,e,st,k⟩=>by
  cases st with
  |sh _ h=>let:=#[a,b,S,e,h,k]
  |pk z h=>let:=absurd z ne) (N.imp (Zn _) λd H Q E ⟨a,b,S,e,st,k⟩=>by
  cases st with
  |sh z h=>let:=absurd z.symm ne
  |pk _ h=>let:=#[a,b,S,e,h,k])
theorem Met.x (M:Met P w K mg base C k m ps sp):ug P w K mg base C k m ps sp :=
 let ⟨f,fd,F,a⟩:=M.ex
 #[f,fd,#[F.len,λA outer s H b l n Q E g d c j i=>JH (F.run A outer s H b l n Q E g d c j i) λr o h=>by
  cases r with
  |error e=>let:=absurd h id
  |ok fl=>cases fl<;>let:=h],a]
theorem Xz (ne:aC≠aP)(M:Met P w K mg base aC 4 "thing" ["self","name"]<|vy P w K aC)(N:ug P w K mg base aP 9 "thing" ["self","name"]<|wg K aP aN 5):∀c,Kl aC aP c->ug P w K mg base c 9 "thing" ["self","name"] (mQ P w K aC aP c) :=
 two ((Met.x M).imp ∅ λo H Q E ⟨a,g,S,e,f,st,d,k⟩=>by
  cases st with
  | sh _ h=>let:=#[a,g,S,.str e.nm,.str e.nm,f,h,rfl,Zm<|Zo.mpr #[e,d,rfl],λl i b t n=>by
    have:e=l:=Il h.good d i (by injection b);subst this;let:=k t H (zz.refl _) n]
  |pk z h=>let:=absurd z ne) (N.imp (Zn _) λo H Q E ⟨a,g,S,e,f,st,d,k⟩=>by
  cases st with
  |sh z h=>let:=absurd z.symm ne
  | pk _ h=>let:=#[a,g,S,.str e.nm,.str e.nm,f,∅,h,rfl,λp j b=>by
    have:p.e=e:=Il h.good (q8 j) d (by injection b with b;let:=b.symm);subst this;let:=#[PX j,k],λno=>absurd (Zo.mpr #[e,d,rfl])<|YM no])
namespace A0
abbrev st:Stmt:=top 31
theorem sc:zx ["thing"] ["thing"] (zI st):=CC
include T in
theorem ok (F:xj0 K "names_in" st f fd):zc P w K mg base CA 1 f fd ["thing"] (rB K):=by
 let:=F.ok sc λ_ _ _ _ H vs Q E hr h=>?_;let#[a,t,rfl,I,tg,k]:=h;have q:=vB tg;let:=#[_,(zE (yG (zO yX (zV (zj:Cy _<|yr K) (pv 0) zG) zr<|zS _) (zF<|zQ<|yA zC) zU)<|zE (yG (zO yX (zV (zj:Cy _<|yr K) (pv 0) zG) zr<|zS _) (zF<|zQ<|yS (sc:=zI st) (N:=["thing"]) (N':=["row"]) (src:=[none]) .a rfl rfl rfl (jV<|zV (zj:Cy _<|yr K) (pv 0) zG) (λ_ _ _ _=>(zR (i:=0) (show(["row"]:By).Nodup by lk) rfl (Ew rfl))) (λ_ _ _ _=>x5) (λ_ _ _ _=>(zV (zj:Cy _<|yr K) (pv 0) zG))) zU) (zF<|zQ<|zP j6 (yA<|zA (zV (zj:Cy _<|yr K) (pv 0) zG) zC)<|zW yI (by rfl) T.list Yd<|zA (zV (zj:Cy _<|yr K) (pv 0) zG) zC)),?_]
 cases t with
 |leaf ls =>
  let#[c,b,e,d,u]:=xU I;cases e;let:=#[a,_,_,_,rfl,rfl,d,rfl,rfl,true,?_,UJ #[UC 0,λl nl=>k l _ (zD nl) nl zB]];rw[Zm rfl]
 |tree Dm =>
  let#[c,b,e,d,u]:=kU I;cases e;let#[b',rs,Z,S,g]:=u;cases Z;have X:=g.length;rw[Zj]at X;have q:(Dm.map (·.2)).length<=1000:=q;rw[Zj]at q;let:=#[a,_,_,_,rfl,rfl,d,rfl,rfl,false,?_,UB #[a,_,_,_,rfl,rfl,d,rfl,rfl,true,?_,UJ ?_]]
  .show V.bl (decide (V.str "tree"=V.str "leaf"))=V.bl false;rw[ZE (by intro z;let:=absurd (V.str.inj z)<|by lk)]
  .show V.bl (decide (V.str "tree"=V.str "tree"))=V.bl true;rw[Zm rfl]
  let:=#[a,_,_,_,rfl,rfl,d,rfl,b,rfl,#[_,S],qR (xs:=rs) (λj B C s=>∃o,C=[o]/\s=H/\B=((Dm.take j).map (·.2)).map V.str) #[none,rfl,rfl,rfl] (zu<|⋯) ?_ ?_ ?_]
  .rintro j B C s hj ⟨o,rfl,rfl,rfl⟩;let:=#[S,?_];rw[Zj,Zj,ZL];lia
  .rintro j v B C s hv ⟨o,rfl,rfl,rfl⟩;let#[r,Y,L,rfl,J]:=Rg g hv;let:=#[Y,_,_,_,rfl,rfl,J,rfl,_,rfl,rfl,?_];rw[yc L,Zu,Zu];rfl
  .rintro B C s ⟨o,rfl,rfl,rfl⟩ p U;rw[X,ZS];let:=k p _ (zD U) U zB
 |note x ps y =>
  let#[c,b,e,d,u]:=uA I;cases e;let:=#[a,_,_,_,rfl,rfl,d,rfl,rfl,false,?_,UB #[a,_,_,_,rfl,rfl,d,rfl,rfl,false,?_,UB ?_]]
  .show V.bl (decide (V.str "note"=V.str "leaf"))=V.bl false;rw[ZE (by intro z;let:=absurd (V.str.inj z)<|by lk)]
  .show V.bl (decide (V.str "note"=V.str "tree"))=V.bl false;rw[ZE (by intro z;let:=absurd (V.str.inj z)<|by lk)]
  let:=#[a,_,_,_,rfl,rfl,d,rfl,UC 1,λl1 M=>?_];have A:=zD (o:=.lst [V.str x]) M;have G:=Kf A u;have D:=Kf A d;have q:ps.length+1<=1000:=q;let:=#[a,_,_,_,rfl,rfl,D,rfl,b,_,rfl,.inr G,λl2 O=>?_];have R:=zD (o:=.lst<|ps.map V.str) O;let:=#[l1,l2,_,_,rfl,rfl,R _ _ zB,zB,zu (by rw[Zj];show 1+_<=_;lia),λl3 n=>?_];let:=k l3 _ ((A.trans R).trans<|zD n) ((A.trans R).free n) zB
end A0
inductive AfI (K:Co)(H:Hp)(a fo rl fI lf:D8)(S:Dh)(rs:By)(σ:St)(H2:Hp):Prop
 |mk (o5:Option V) (kv:Dk) (F L:By) (h0:σ=[some<|.ref a,some<|.ref fo,some<|.ref rl,some<|.ref fI,some<|.ref lf,o5]) (h1:Off [fo] H H2) (h2:H2 fo=some (.dK kv)) (h3:AnS.yj K H2 kv F<|λ_=>.bool true) (h4:H2 lf=some (.lst<|L.map V.str)) (h5:Wk S rs F L) (h6:L.length<=1000+1000*F.length):AfI K H a fo rl fI lf S rs σ H2
namespace A1
abbrev st:Stmt:=top 44
theorem sc:zx ["store","found","roots","names_behind","left","name"] ["store","found","roots","names_behind"] (zI st):=CC
include T in
theorem ok (F:xj0 K "add_found" st f fd)(Qb:Met P w K mg base aC 4 "thing" ["self","name"]<|vy P w K aC)(Qe:ug P w K mg base aP 9 "thing" ["self","name"]<|wg K aP aN 5)(Q2:wU P w K mg base 1 "names_in" ["thing"]<|rB K):zc P w K mg base CA 10 f fd ["store","found","roots","names_behind"] (lV P w K aC aP fI):=by
 let:=F.ok sc λ_ _ _ _ H vs Q E R h=>?_;let#[cc,a,s,rl,fp,S,rs,rfl,sh,ok,vc,X,a9,a8,bh,rn,k]:=h;have kl:=two T.cls T.wR;have A:=Xz T.ne Qb Qe;let:=#[_,(zE (Cu (i:=4) sc.nd<|zW yI (by rfl) T.list Yd<|zA (pv 2) zC)<|zF<|HQ Ep (zO HJ (zK zN (by rfl) T.len ZV<|zA (pv 4) zC) zG<|zS _)<|zE (Cu (i:=5) sc.nd<|PL Z1 PySem.F.slot_list_pop PySem.F.type_list_pop TF<|pv 4)<|zF<|yG (zO (Nh R.units) (pv 5) (pv 1)<|by with_unfolding_all rfl) (zE (xR R.wH (pv 1) (pv 5) xT rfl)<|zF<|zX<|qW Z1 JY JZ Of (pv 4)<|zA (PM Q2 T.nO R.m (pv 3)<|zA (GT (p:=Kl aC aP) λc kc=>qV (pv 0) (kl c kc) (A c kc) R.m yE<|zA (pv 5) zC) zC) zC) zU),?_]
 have gn:=sh.good.nn;have gl:=sh.good.len;let:=#[rl,_,rfl,.inl a8,λlf N=>?_];have M:=zL X N
 let μ:St->Hp->Nat:=λσ j=>match j s,j lf with
  |some (.dK g),some (.lst O)=>1001*(S.length-g.length)+O.length
  |_,_=>0
 have t:∀{σ j g O},j s=some (.dK g)->j lf=some (.lst O)->μ σ j=1001*(S.length-g.length)+O.length:=λ{σ j g O} h1 h2=>by
  show(match j s,j lf with
   |some (.dK g),some (.lst O)=>1001*(S.length-g.length)+O.length
   |_,_=>0)=_
  rw[h1,h2]
 let:=zT ?_;let:=Rx (AfI K H a s rl fI lf S rs) μ ?_ ?_ ?_
 .let:=#[none,[],[],rs,rfl,Off.of<|zD N,by rw[zH M];let:=X,AnS.yj.nil,zB,#[YO,λx hx=>.root (hx.resolve_left<|λz=>nomatch z),λr R=>.inr R,λx hx=>(nomatch hx)],by rw[YN];lia]
 .rintro σ j ⟨o5,g,U,L,rfl,a6,as,J,Y,wk,bd⟩;let:=#[lf,_,rfl,.inl<|za.of Y,_,rfl,UI (λc=>?_)<|λc=>?_]
  .have c:0<L.length:=by
    have c:=c;have:=ZA c;rw[Zj]at this;lia
   let#[n,x,rfl]:∃n x,L=n++[x]:=#[L.dropLast,L.getLast (by intro z;rw[z]at c;let:=absurd c<|∅),(V6 _).symm];rw[Zq,Yc]at bd;have ml:(n++[x]).map V.str=n.map V.str++[V.str x]:=by rw[Zu];rfl
   let:=#[.inl #[rfl,_,za.of Y],lf,_,V.str x,rfl,rfl,Y,by rw[ml,Zq,Yc,Nat.add_sub_cancel,ZU<|Zn _,Vh];rfl,?_];rw[ml,List.dropLast_concat];have a1:j lf=some (.lst<|n.map V.str++[V.str x]):=by rwa[<-ml]
   have C:upd j lf (.lst<|n.map V.str) s=some (.dK g):=by rwa[zH M]
   have aa:Off [s] H (upd j lf<|.lst<|n.map V.str):=λb o nb e=>by
    rw[zH (λz=>by rw[z,N]at e;cases e)];let:=a6 b o nb e
   have Z:upd j lf (.lst<|n.map V.str) lf=some (.lst<|n.map V.str):=zB;have u:AnS.yj K (upd j lf<|.lst<|n.map V.str) g U (λ_=>.bool true):=#[J.keys,J.nd,J.val];have m0:=t (σ:=[some<|.ref a,some<|.ref s,some<|.ref rl,some<|.ref fI,some<|.ref lf,o5]) as a1;rw[Zq,Zj,Yc]at m0;generalize upd j lf (.lst<|n.map V.str)=H3 at C aa Z u ⊢;have kl:=u.len;let:=#[s,_,rfl,wu.k (k:=.inr x) C,_,rfl,UI (λc2=>?_)<|λc2=>?_]
   .rw[u.isSome,YU,Yz]at c2;have ai:=wk.take c2;have a7:=ai.len vc rn gn;have ea:AnS.sY U x=U++[x]:=by unfold AnS.sY;rw[ZI c2]
    rw[ea,Zq,Yc]at a7;have nx:=Ii vc gn rn<|wk.lQ x<|.inr<|ZM _<|Zk.mpr rfl;let#[e,he,rfl]:=Zo.mp nx;let#[th,an,tg,_]:=ok e he;have ep:CK S e.nm=namesW th:=by rw[X2 gn he,an,CZ]
    have pl:=vB tg;let:=#[s,_,rfl,tW.k (k:=.inr e.nm) C<|Z0 (⋯:g.length<16777216)<|zu<|Zn _,?_];have p1:=(u.put e.nm (d:=.bool true) rfl).iI (g':=λ_=>.bool true) λp _=>by show(if p=e.nm then PyData.bool true else .bool true)=_;rw[ite_self]
    have a4:=p1.len;have D:upd H3 s (.dK<|yp g (.inr e.nm)<|.bl true) s=some (.dK<|yp g (.inr e.nm)<|.bl true):=zB;have G:upd H3 s (.dK<|yp g (.inr e.nm)<|.bl true) lf=some (.lst<|n.map V.str):=by rwa[zH<|Er M]
    have I:Off [s] H (upd H3 s<|.dK<|yp g (.inr e.nm)<|.bl true):=aa.upd<|Zk.mpr rfl;have B:AnS.yj K (upd H3 s<|.dK<|yp g (.inr e.nm)<|.bl true) (yp g (.inr e.nm)<|.bl true) (AnS.sY U e.nm) (λ_=>.bool true):=#[p1.keys,p1.nd,p1.val];generalize upd H3 s (.dK<|yp g (.inr e.nm)<|.bl true)=H4 at D G I B ⊢;generalize yp g (.inr e.nm) (.bl true)=a5 at D B a4;have ab:=sh.off (R5 X) I<|λb hb z=>a9<|Zk.mp z▸hb;let#[dx,fs,h1,_,l2,_]:=ab.ins;let:=#[.inl #[rfl,_,za.of G],rfl,cc,ab.kl,a,dx,_,rfl,h1,l2,a,fp,S,e,rfl,ab,he,λtt bf s4 ht=>?_]
    .rw[an]at ht;have G:=s4 _ _ G;have D:=s4 _ _ D;have I:=I.trans<|Off.of s4;let:=#[tt,th,rfl,ht,tg,λb al s5 nb hb=>?_];have a3:=s5 _ _ G;have be:=s5 _ _ D;let:=#[lf,b,_,_,rfl,rfl,a3,hb,zu (by rw[Zj,Zj];lia),?_];have a2:upd al lf (.lst<|n.map V.str++(namesW th).map V.str) lf=some (.lst<|(n++namesW th).map V.str):=by rw[zB,Zu]
     have a0:upd al lf (.lst<|n.map V.str++(namesW th).map V.str) s=some (.dK a5):=by rwa[zH M]
     let:=#[#[_,a5,AnS.sY U e.nm,n++namesW th,rfl,λb o nb q=>?_,a0,#[B.keys,B.nd,B.val],a2,?_,?_],?_]
     .rw[zH (λz=>by rw[z,N]at q;cases q)];let:=s5 _ _<|I b o nb q
     .rw[ep]at ai;let:=ai
     .rw[ea,Zq,Zq,Yc];lia
     .rw[m0,t (σ:=[]) a0 a2,a4,ea,Zq,Zj,Zq,Yc];lia
   .rw[u.isSome,YU,Yz,L0]at c2;let:=#[#[_,g,U,n,rfl,aa,C,u,Z,wk.skip c2,⋯],?_];rw[m0,t (σ:=[]) C Z,Zj];lia
  .have e0:L=[]:=by
    cases L with
    |nil=>rfl
    |cons x l=>let:=absurd (show decide ((0:Int)<((((x::l).map V.str).length:Nat):Int))=true from Zm (by rw[Zj,ZH];lia)) c
   subst e0;let:=k j a6 #[g,U,as,J,λx=>#[λhx=>wk.lQ x<|.inl hx,λhx=>Np (λr R=>(wk.roots r R).resolve_right<|λz=>nomatch z) (λy hy z hz=>(wk.par y hy z hz).resolve_right<|λq=>nomatch q) hx]]
 .intro σ H Q Q' hq hc;let#[v,e1,l,O,e2,e3,b,e6,q]:=qy.ex hc;let:=qy.mk e1 #[l,O,e2,e3,b,e6,hq _ _ q]
end A1
namespace A2
abbrev st:Stmt:=top 45
theorem sc:zx ["store","found"] ["store","found"] (zI st):=CC
include T in
theorem ok (F:xj0 K "in_order" st f fd)(O:Met P w K mg base aC 1 "names" ["self"]<|tM P w K aC)(R:Met P w K mg base aP 1 "names" ["self"]<|ut K aP):zc P w K mg base CA 2 f fd ["store","found"] (oW P w K aC aP):=by
 let:=F.ok sc λ_ _ _ _ H vs Q E D h=>?_;let#[c,a,C,X,S,ke,g,rfl,sh,A,B,k]:=h;have kl:=two T.cls T.wR;have b:=BO T.ne O R;have Y:=sh.good;let#[U,fs,Z,_,_,l3]:=sh.ins;let:=#[_,(zF<|zQ<|yS (sc:=zI st) (N:=["store","found"]) (N':=["name","found"]) (src:=[none,some 1]) .a rfl rfl rfl (yR<|GT (p:=Kl aC aP) λc I=>y9 (pv 0) (kl c I) (b c I) D.m) (λ_ _ _ _=>(zR (i:=0) (show(["name","found"]:By).Nodup by lk) rfl (Ew rfl))) (λ_ _ _ _=>(II<|zO (Gi D.units) (pv 0) (pv 1)<|by with_unfolding_all rfl)) (λ_ _ _ _=>(pv 0))),?_];let:=#[c,sh.kl,a,U,_,rfl,Z,l3,a,X,S,rfl,sh,λl nl=>#[l,rfl,#[_,za.of zB],?_]];have em:(S.map λe=>V.str e.nm)=(S.map En.nm).map V.str:=by rw[ZK];rfl
 rw[em];have u:=zD (o:=.lst<|(S.map En.nm).map V.str) nl;have hl:za K (upd H l<|.lst<|(S.map En.nm).map V.str) l ((S.map En.nm).map V.str):=za.of zB;have j:=u _ _ A;generalize upd H l (.lst<|(S.map En.nm).map V.str)=M at u hl j ⊢;have gl:=Y.len;let:=j3 (xs:=(S.map En.nm).map V.str) (λi s v t=>∃o,v=[o,some<|.ref C]/\zz M t/\s.length<=i/\s=(((S.map En.nm).take i).filter λx=>decide (x∈g)).map V.str) #[none,rfl,zz.refl _,Zn _,rfl] (zu (by rw[Zj,Zj];lia)) ?_ ?_ ?_
 .rintro i s v t hi ⟨o,rfl,d,n,_⟩;let:=#[d.seq hl,n]
 .rintro i y s v t G ⟨o,rfl,d,n,rfl⟩;rw[Zz]at G;let#[x,hx,ex]:=ZO.mp G;subst ex;have L:((S.map En.nm).take<|i+1).filter (λx=>decide (x∈g))=((S.map En.nm).take i).filter (λx=>decide (x∈g))++(if x∈g then[x] else[]):=by
   rw[YK,hx,YX];show _++[x].filter _=_;rw[Jt]
   by_cases z:x∈g
   .rw[ZJ<|Zm z,ZJ z];rfl
   .rw[ZI<|λq=>z<|ZA q,ZI z];rfl
  let:=#[C,_,rfl,wu.k (k:=.inr x)<|d _ _ j,_,rfl,UI (λc=>#[_,rfl,d,?_,?_])<|λc=>#[_,rfl,d,JA n,?_]]
  .rw[Zq];let:=Jd n
  .rw[B.isSome]at c;rw[L,ZJ<|ZA c,Zu];rfl
  .rw[B.isSome]at c;rw[L,ZI<|λz=>c<|Zm z,ZW]
 .rintro s v t ⟨o,rfl,d,n,rfl⟩ r J;rw[Zj,ZS];let:=k r _ ((u.trans d).trans<|zD J) ((u.trans d).free J) zB
end A2
theorem HE:∀{ds:De},(∀d∈ds,UT S d=true)->∃rs:By,ds=rs.map .str/\∀r∈rs,r∈S.map En.nm
 |[],_=>#[[],rfl,λr f=>(nomatch f)]
 |d::ds,h=>by
  let#[rs,e,f]:=HE λd hd=>h d<|Zp _ hd;have c:=h d Zt;cases d with
  |str x =>
   have c:=c;let:=#[x::rs,by rw[e];rfl,λr g=>?_]
   rcases Zx.mp g with z|z
   .rw[z];let:=ZA c
   .let:=f r z
  |none=>cases c
  |bool b=>cases c
  |int i=>cases c
  |list ds=>cases c
  |tuple ds=>cases c
  |dict Dl=>cases c
theorem Fz:∀{rs:By} {xs:Di},zy K H (rs.map .str) xs->xs=rs.map V.str
 |[],xs,h=>h
 |r::rs,xs,h=>by
  let#[v,d,e,b,c]:=h;rw[e,Fz c];have b:=b;rw[b];rfl
namespace A3
abbrev st:Stmt:=top 46
theorem sc:zx ["store","roots","root","found"] ["store","roots"] (zI st):=CC
include T in
theorem ok (F:xj0 K "reached" st f fd)(Ql:pL P w K mg base 3 "need_name" ["store","name"]<|uv P w K aC aP aN)(Q3:wU P w K mg base 10 "add_found" ["store","found","roots","names_behind"]<|lV P w K aC aP fI)(Q4:wU P w K mg base 2 "in_order" ["store","found"]<|oW P w K aC aP):zc P w K mg base (CI P w) 11 f fd ["store","roots"] (tU P w K aC aP aN):=by
 let:=F.jd sc λ_ _ _ _ H vs Q E I h=>?_;let#[c,a,M,C,S,ds,xs,rfl,sh,ok,cl,r,g,t,k1,k2]:=h;let:=#[_,(zE (yM PassesOwn.leaving rfl (yR<|pv 1) (zR (i:=2) sc.nd rfl<|Ew rfl)<|zF<|zX<|kD Ql I.m x8<|zA (pv 0)<|zA (pv 2) zC)<|zE (Cu (i:=3) sc.nd xM)<|zE (zX<|zJ Q3 I.m<|zA (pv 0)<|zA (pv 3)<|zA (pv 1)<|zA (qD (v:=.ref fI) rfl T.nO rfl) zC)<|zF<|zQ<|zJ Q4 I.m<|zA (pv 0)<|zA (pv 3) zC),?_]
 have xl:=g.length;let:=#[M,rfl,#[_,r],xQ (λi y n=>∃J,y=[some<|.ref a,some<|.ref M,J,none]/\n=H/\∀d∈ds.take i,UT S d=true) #[none,rfl,rfl,λd hd=>(nomatch hd)] (λi y n _ ⟨_,_,e2,_⟩=>by rwa[e2]) ?_ ?_]
 .rintro i v y n D B hv hD hB ⟨J,rfl,rfl,u⟩;let#[d,hd,dv]:=g.get hv;let:=hB<|zT #[c,a,C,S,d,v,rfl,sh,Dt.dw dv,λz=>hD.nx _ _ #[_,rfl,rfl,λd' p=>?_],λz=>k2 #[d,Zy hd,z]];rw[yc hd]at p
  rcases ZD.mp p with q|q
  .let:=u d' q
  .rwa[Zk.mp q]
 .rintro y n ⟨J,rfl,rfl,u⟩;rw[xl,ZS]at u;let#[X,rfl,s]:=HE u;have ex:=Fz g;subst ex;rw[Zj]at t;let:=λU j=>?_;have O:=zD (o:=.dK []) j;let:=#[c,a,U,M,C,S,X,rfl,sh.same O,ok,cl,zB,sh.ex.not j,O.seq r,t,s,λY L ⟨ke,R,G,A,hF⟩=>?_];have N:zz n Y:=λb o e=>L b o (λz=>by rw[Zk.mp z,j]at e;cases e)<|O _ _ e;let:=#[c,a,U,C,S,ke,R,rfl,sh.same N,G,A,λl Z s3 nl hl=>?_];let:=k1 X rfl s l Z (N.trans s3) (N.free nl) #[R,hF,hl]
end A3
inductive rO (K:Co)(D:D8)(vs:Di)(H:Hp)(Q:VK)(e3:XK):Prop
 |mk (a t dx d1 d2 u:D8) (x:Str) (v:V) (k1 k2:Dk) (h0:vs=[.ref a,.str x,.ref t]) (h1:H a=some (.ins D dx<|F7 d1 d2)) (h2:H d1=some (.dK k1)) (h3:H d2=some (.dK k2)) (h4:d1≠d2) (h5:yh K H t [v,.ref u]) (h6:k1.length<2000) (h7:k2.length<2000) (h8:(Ec x:Key)∉k1.map (·.1)) (h9:(Ec x:Key)∉k2.map (·.1)) (h10:Q .non<|upd (upd H d1<|.dK<|k1++[(.inr x,v)]) d2<|.dK<|k2++[(.inr x,.ref u)]):rO K D vs H Q e3
structure Pi (K:Co)(D:D8)(H:Hp)(a bl:D8)(fp:Dc)(Ts:Dh):Prop where
 pk:vz K D H a fp Ts
 nb:bl∉fp
 bs:∃ws,H bl=some (.lst ws)/\oG K H (fp.take 4) ws (Cq Ts).2
inductive oR (K:Co)(D:D8)(vs:Di)(H:Hp)(Q:VK)(e3:XK):Prop
 |mk (a b bl:D8) (fp:Dc) (Ts:Dh) (e:En) (ls:By) (h0:vs=[.ref a,.str e.nm,.ref b,.ref bl]) (h1:Pi K D H a bl fp Ts) (h2:wY<|Ts++[e]) (h3:Lf<|Ts++[e]) (h4:e.d=(Th.leaf ls).dat) (h5:yh K H b<|ls.map V.str) (h6:∀fp' H',Off (bl::fp) H H'->(∀c∈fp',c∈fp\/H c=none)->fp'.take 4=fp.take 4->Pi K D H' a bl fp' (Ts++[e])->Q .non H'):oR K D vs H Q e3
inductive rN (P:Ea)(w:Ef)(K:Co)(C D aN:D8)(vs:Di)(H:Hp)(Q:VK)(E:XK):Prop
 |mk (x dx c a rl:D8) (fp0:Dc) (S:Dh) (ds:De) (xs:Di) (h0:vs=[.ref x,.ref a,.ref rl]) (h1:H x=some (.ins D dx [])) (h2:H dx=some (.own x)) (h3:dx≠x) (h4:(∀H',Off [x] H H'->wz P w K C D c H' a fp0 S/\za K H' rl xs/\zy K H' ds xs)) (h5:(∀e∈S,U5 e)) (h6:Cs S) (h7:Lf S) (h8:ds.length<=1000) (h9:(∀rs,ds=rs.map .str->(∀r∈rs,r∈S.map En.nm)->∀(fp:Dc) (H':Hp) (F:By),(∀y,y∈F↔pP (CK S) rs y)->(∀c∈fp,c=x\/c=dx\/H c=none)->Off [x] H H'->vz K D H' x fp (S.filter λe=>decide (e.nm∈F))->Q .non H')) (h10:((∃d∈ds,UT S d=false)->∀H',Off [x] H H'->E (.ref aN) none H')):rN P w K C D aN vs H Q E
theorem B4 {Ts:Dh}(g:wY S)(h:Ts.Sublist S):wY Ts:=#[λe b=>g.ent e<|h.subset b,g.nd.sublist<|h.map _,g.nn.sublist<|h.map _,Z2 h.length_le g.len]
theorem Fe {Ts:Dh}(g:Lf S)(h:Ts.Sublist S):Lf Ts:=λe b=>g e<|h.subset b
theorem SQ (Ts:Dh):(CG (Cq Ts).1).map (·.1)=Ts.map λe=>(Ec e.nm:Key):=by
 conv=>rhs;rw[<-HP Ts]
 unfold CG;rw[ZK,ZK];rfl
theorem WU {Ts:Dh}{b:Dc}(h:b.length=Ts.length):(M9 (Cq Ts).1 b).map (·.1)=Ts.map λe=>(Ec e.nm:Key):=by
 rw[<-SQ];unfold M9 CG;have z:((Cq Ts).1.zip b).map (·.1)=(Cq Ts).1:=J9 (by rw[jY,h];let:=Zn _)
 conv=>rhs;rw[<-z]
 rw[ZK,ZK,ZK];rfl
theorem Fc {Ts:Dh}{e:En}(g:wY<|Ts++[e]):(Ec e.nm:Key)∉Ts.map λe=>(Ec e.nm:Key):=λz=>by
 let#[f,b,q]:=Zo.mp z;have n:=g.nn;rw[Zu,Y5]at n;let:=n.2.2 _ (Zo.mpr #[f,b,rfl]) _ (Zk.mpr rfl)<|Sum.inr.inj q
theorem Pi.same (s:zz H H')(h:Pi K D H a bl fp Ts):Pi K D H' a bl fp Ts :=
 #[h.pk.same s,h.nb,let #[ws,e,b]:=h.bs;#[ws,s _ _ e,b.same s]]
theorem NB {u:D8}{e:En}{v:V}{Q:VK}{E:XK}(h:Pi K D H a bl fp Ts)(g:wY<|Ts++[e])(lf:Lf<|Ts++[e])(I:v=bV (UE (Cq Ts).2 e))(O:yh K H t [v,.ref u])
  (i:match(UE (Cq Ts).2 e).b with
   |none=>Dt K H e.d<|.ref u
   |some x=>(u∉bl::fp/\∃vs,H u=some (.lst vs))/\∃ls,CN e.d=some ls/\Dt K H (.list<|(An12.spans x.2.1 ls).map An12.zp) (.ref u))
  (k:∀fp' H',Off fp H H'->(∀c∈fp',c∈fp\/c=u/\(UE (Cq Ts).2 e).b.isSome=true)->fp'.take 4=fp.take 4->vz K D H' a fp' (Ts++[e])->bl∉fp'->(∃ws,H' bl=some (.lst ws)/\oG K H' (fp.take 4) ws (Cq Ts).2)->Q .non H'):rO K D [.ref a,.str e.nm,.ref t] H Q E:=by
 let#[pk,nb,ws,A,bs]:=h;let#[_,_,s,j,l,r,G,rfl,nd,B,L,w,y,C,M,N]:=pk;have J:=g.len;rw[Zq,Yc]at J;have S:(CG (Cq Ts).1).length=Ts.length:=by unfold CG;rw[Zj,jY]
 have T:(M9 (Cq Ts).1 G).length<=Ts.length:=by unfold M9;rw[Zj,UA];lia
 subst I;let:=#[a,t,s,j,l,u,e.nm,_,_,_,rfl,B,w,y,nd,O,⋯,⋯,by rw[SQ];let:=Fc g,by rw[WU C];let:=Fc g,?_];have p:∀b∈nl (UE (Cq Ts).2 e) u,b=u/\(UE (Cq Ts).2 e).b.isSome=true/\u∉bl::a::s::j::l::r/\∃R,H u=some (.lst R):=λb f=>by
  unfold nl at f;cases n:(UE (Cq Ts).2 e).b with
  |none=>rw[n]at f;cases f
  |some x =>
   rw[n]at f i;let:=#[Zk.mp f,rfl,i.1]
 have P:=vz.snoc g lf nd B L w y C M N (by
  unfold wG nl;cases n:(UE (Cq Ts).2 e).b with
  |none=>rw[n]at i;let:=i
  |some x=>rw[n]at i;let:=#[ZM _<|Zk.mpr rfl,i.2]) (λb f=>by
  let#[rfl,_,_,q]:=p b f;let:=q)
 have o:Off [j,l] H (upd (upd H j<|.dK<|CG (Cq Ts).1++[(.inr e.nm,bV<|UE (Cq Ts).2 e)]) l<|.dK<|M9 (Cq Ts).1 G++[(.inr e.nm,.ref u)]):=((Off.refl _ _).upd<|by simp).upd (by simp);let:=k (a::s::j::l::(r++nl (UE (Cq Ts).2 e) u)) _ (o.mono λb f=>?_) (λc F=>?_) (by rfl) P (λz=>?_) #[ws,o _ _ (λz=>nb ?_) A,bs.off (λb f=>?_) o λb f=>.inl ?_]
 .simp only[Zx,Yg,Jo]at f ⊢;let:=.inr<|.inr<|f.imp id .inl
 .simp only[Zx,ZD]at F ⊢
  rcases F with h|h|h|h|h|h
  .let:=.inl (.inl h)
  .let:=.inl (.inr<|.inl h)
  .let:=.inl (.inr<|.inr<|.inl h)
  .let:=.inl (.inr<|.inr<|.inr<|.inl h)
  .let:=.inl (.inr<|.inr<|.inr<|.inr h)
  .let:=.inr #[(p c h).1,(p c h).2.1]
 .rw[<-J5,<-J5,<-J5,<-J5]at z
  rcases ZD.mp z with z|z
  .let:=nb z
  .let:=(p bl z).2.2.1 (by rw[<-(p bl z).1];let:=Zt)
 .simp only[Zx,Yg,Jo]at z ⊢;let:=.inr<|.inr<|z.imp id .inl
 .simp only[Zx,Yg,Jo]at f
  rcases f with rfl|rfl
  .let:=jZ w
  .let:=jZ y
 .simp only[Zx,Yg,Jo,List.take]at f ⊢;let:=.inr<|.inr f
namespace A4
abbrev st:Stmt:=inClass (top 52) 1
theorem sc:zx ["self","name","packed"] ["self","name","packed"] (zI st):=CC
include T in
theorem ok (F:xj K "take" "Pack.take" st f fd):zc P w K mg base CA 1 f fd ["self","name","packed"] (rO K aP):=by
 let:=F.ok sc λ_ _ _ _ H C Q E p h=>?_;let#[a,t,i,c,g,u,x,v,k1,k2,rfl,d,e,r,nd,q,A,B,n1,n2,k]:=h;let:=#[_,(zE (xR p.wH (xP (pv 0) rfl) (pv 1) (zV (zj:Cy _<|yr K) (pv 2) zG) rfl)<|zF<|xR p.wH (xP (pv 0) rfl) (pv 1) (zV (zj:Cy _<|yr K) (pv 2) zG) rfl),?_]
 let:=#[t,_,_,_,rfl,rfl,q,rfl,a,aP,i,_,_,rfl,d,T.wR,T.m1,rfl,c,_,rfl,tW.k (k:=(Ec x:Key)) e<|yJ<|⋯,?_];rw[kZ n1];have o:Off [c] H (upd H c<|.dK<|k1++[(.inr x,v)]):=(Off.refl _ _).upd<|Zk.mpr rfl;have j:=o a _ (λz=>by rw[Zk.mp z,e]at d;cases d) d;have l:=o g _ (λz=>nd (Zk.mp z).symm) r;have n:=jC (λb s=>by rw[Zk.mp s];let:=jZ e) o q;generalize upd H c (.dK<|k1++[(.inr x,v)])=y at j l n k ⊢;let:=#[t,_,_,_,rfl,rfl,n,rfl,a,aP,i,_,_,rfl,j,T.wR,T.m2,rfl,g,_,rfl,tW.k (k:=(Ec x:Key)) l<|yJ<|⋯,?_];rwa[kZ n2]
end A4
namespace A5
abbrev st:Stmt:=inClass (top 52) 2
theorem sc:zx ["self","name","lines","bases"] ["self","name","lines","bases"] (zI st):=CC
include T in
theorem ok (F:xj K "take_leaf" "Pack.take_leaf" st f fd)(Qz:Met P w K mg base aP 1 "take" ["self","name","packed"]<|rO K aP)(Q5:wU P w K mg base 7 "best_base" ["bases","lines"]<|mD K)(Qi:ug P w K mg base aP 9 "steps" ["self","name"]<|ux K aP aN 5)(Q6:wU P w K mg base 1 "marked" ["lines"]<|pU K):zc P w K mg base CA 10 f fd ["self","name","lines","bases"] (oR K aP):=by
 let:=F.ok sc λ_ _ _ _ H vs Q E hr h=>?_;let#[a,b,bl,fp,S,e,r,rfl,pi,g,lf,ed,O,k]:=h;have n:CN e.d=some r:=by rw[ed,Ir]
 have lo:=(lf.ln (ZM _<|Zk.mpr rfl) n).2;have pb:(UE (Cq S).2 e).b=(best (Cq S).2 r).1:=by
  show(CN e.d).bind _=_;rw[n];rfl
 let#[A,fs,Z,l1]:∃A fs,H a=some (.ins aP A fs)/\fs.lookup ("take":Str)=none/\fs.lookup ("steps":Str)=none:=by
  let#[_,_,A,d1,d2,_,_,_,_,Z,_]:=pi.pk;let:=#[A,_,Z,rfl,rfl]
 let#[ws,ab,bs]:=pi.bs;let:=#[_,(zE (zX<|yK (pv 0) T.wR Qz hr.m<|zA (pv 1)<|zA (zJ Q5 hr.m<|zA (pv 3)<|zA (pv 2) zC) zC)<|zF<|yG (zO Xd (qV (pv 0) T.wR Qi hr.m yE<|zA (pv 1) zC) (qD (v:=.int 4) rfl T.mL #[_,rfl])<|zS _) (zF<|zX<|qW Z1 Yh Yi yU (pv 3)<|zA (yW<|zA (pv 1)<|zA (pv 2)<|zA (zJ Q6 hr.m<|zA (pv 2) zC) zC) zC) zU),?_]
 have bo:∀x∈(Cq S).2,UR x.2.1:=λx hx=>by
  let#[q,hq,_,e2,_]:=(Bh S).1 x hx;let:=(lf.ln (Z4 _<|q8 hq) e2).2
 let:=#[a,A,_,rfl,Z,l1.1,bl,b,_,ws,_,r,rfl,za.of ab,bs,O,lo,bo,λt u H1 s1 ht M=>?_];have ev:oB (best (Cq S).2 r).1=bV (UE (Cq S).2 e):=by unfold bV;rw[pb];rfl
 delta X7;let:=NB (pi.same s1) g lf ev ht ?_ λD H2 o2 new Y s L ⟨G,l,U⟩=>?_
 .rw[pb];unfold rm at M;cases C:(best (Cq S).2 r).1 with
  |none=>rw[C]at M;rwa[ed]
  |some x =>
   rw[C]at M;let#[nu,a0,dd]:=M;let:=#[#[λz=>?_,a0],r,n,dd]
   rcases Zx.mp z with z|z
   .rw[z,ab]at nu;cases nu
   .let#[o,X]:=pi.pk.ex u z;rw[X]at nu;cases nu
 have pm:UE (Cq S).2 e∈(Cq<|S++[e]).1:=by rw[qB];let:=ZM _<|Zk.mpr rfl
 have ai:Off (bl::fp) H H2:=(Off.of s1).trans<|o2.mono λc B=>Zp _ B;have I:∀c∈D,c∈fp\/H c=none:=λc B=>(new c B).imp id λ⟨z,y⟩=>by
  rw[z];unfold rm at M;rw[pb]at y;cases C:(best (Cq S).2 r).1 with
  |none=>rw[C]at y;cases y
  |some x=>rw[C]at M;let:=M.1
 let#[al,a2,an,as]:∃A fs,H2 a=some (.ins aP A fs)/\fs.lookup ("steps":Str)=none:=by
  let#[_,_,A,d1,d2,_,_,_,_,Z,_]:=s;let:=#[A,_,Z,rfl]
 have aa:yh K H2 b (r.map V.str):=by
  let:=jC ?_ o2<|s1.yu O;intro c B N z;let#[_,_,A,d1,d2,a3,_,rfl,_,g1,g2,g3,g4,_,g6,_]:=(pi.same s1).pk;have key:∀{o:HO},H1 c=some o->(∀y,o≠.tup y)->(∀u y,o≠.frz u y)->False:=λX n1 n2=>uW X n1 n2 N z;simp only[Zx]at B
  rcases B with rfl|rfl|rfl|rfl|B
  .let:=key g1 (λ_ z=>nomatch z) λ_ _ z=>nomatch z
  .let:=key g2 (λ_ z=>nomatch z) λ_ _ z=>nomatch z
  .let:=key g3 (λ_ z=>nomatch z) λ_ _ z=>nomatch z
  .let:=key g4 (λ_ z=>nomatch z) λ_ _ z=>nomatch z
  .let#[ys,e]:=g6 c B;let:=key e (λ_ z=>nomatch z) λ_ _ z=>nomatch z
 let:=#[a,al,_,rfl,an,as,a,D,_,.str e.nm,.str e.nm,rfl,∅,s,rfl,λp hp ep=>?_,λno=>?_]
 .have:p=UE (Cq S).2 e:=Fm g hp pm (by injection ep with ep;let:=ep.symm);subst this;let:=#[PX pm,_,rfl,UI (λc=>?_)<|λc=>?_]
  .have c:(UE (Cq S).2 e).st<4:=by have:=ZA c;lia
   let:=#[.inl #[rfl,_,za.of l],b,r,rfl,aa,lo.1,λm H3 s3 nm mk=>#[UC 3,λt3 n3=>?_]];have R:=s3.trans<|zD (o:=.tup [V.str e.nm,V.ref b,V.ref m]) n3;have j:=R _ _ l;have wl:=U.1;have a1:(Cq S).2.length<=2000:=by
    have:=g.len;rw[Zq]at this;let:=Z2 (W4 S) ⋯
   have t4:yh K (upd H3 t3<|.tup [V.str e.nm,V.ref b,V.ref m]) t3 [V.str e.nm,V.ref b,V.ref m]:=yh.of zB;have J:mj K (upd H3 t3<|.tup [V.str e.nm,V.ref b,V.ref m]) m r:=mk.off (gp:=[]) (Off.of<|zD n3)<|λz=>nomatch z;let:=#[bl,_,_,rfl,rfl,j,yJ<|⋯,?_];generalize upd H3 t3 (.tup [V.str e.nm,V.ref b,V.ref m])=H4 at R j t4 J ⊢;have o5:Off [bl] H4 (upd H4 bl<|.lst<|G++[V.ref t3]):=(Off.refl _ _).upd<|Zk.mpr rfl;have n5:∀b∈[bl],∀N,¬Rd H4 b (.tup N):=λb O N=>by
    rw[Zk.mp O];let:=uW j (λ_ z=>nomatch z) (λ_ _ z=>nomatch z) N
   have q5:∀b∈[bl],b∈fp.take 4\/∃N,H4 b=some (.lst N):=λb O=>.inr #[G,by rw[Zk.mp O];let:=j];let:=k D _ ((ai.trans<|Off.of R).upd Zt) I Y #[(s.same R).off n5 o5<|λc B z=>L<|Zk.mp z▸B,L,_,zB,?_];have mn:m∉fp.take 4:=λz=>by
    rw[<-Y]at z;let#[o,X]:=s.ex m<|Yf z;rw[X]at nm;cases nm
   have C:(Cq<|S++[e]).2=(Cq S).2++[(e.nm,r,(UE (Cq S).2 e).st)]:=by
    rw[qB];unfold Xa;rw[show(UE (Cq S).2 e).e=e from rfl,n];show _++(if _ then _ else _)=_;rw[ZJ c]
   have b5:=(U.same R).off n5 o5 q5;rw[Y,C];let:=#[by rw[Zq,Zq,wl];rfl,λi x v q1 q2=>?_]
   rcases Jw i G.length with z|z
   .rw[ZT<|⋯]at q1;rw[ZT z]at q2;let:=b5.2 i x v q1 q2
   .rw[ZU<|⋯]at q1;rw[ZU z]at q2;let#[_,rfl]:=An10.tE q1;let#[_,rfl]:=An10.tE q2;let:=#[t3,b,m,rfl,mn,jC n5 o5 t4,jC n5 o5<|R.yu aa,J.off o5 λz=>by
     let#[kv,_,e4,_]:=J;rw[Zk.mp z,j]at e4;cases e4]
  .have c:¬(UE (Cq S).2 e).st<4:=λz=>c (Zm<|⋯);have C:(Cq<|S++[e]).2=(Cq S).2:=by
    rw[qB];unfold Xa;rw[show(UE (Cq S).2 e).e=e from rfl,n];show _++(if _ then _ else _)=_;rw[ZI c,ZW]
   let:=k D H2 ai I Y #[s,L,G,l,?_];rwa[Y,C]
 .let:=absurd (Zo.mpr #[e,ZM _<|Zk.mpr rfl,rfl]) (YM no)
end A5
namespace A6
abbrev st:Stmt:=inClass (top 54) 0
theorem sc:zx ["self","base","name"] ["self","base"] (zI st):=CC
include T in
theorem ok (F:xj K "__init__" "Shelf.__init__" st f fd)(Qc:Met P w K mg base aC 1 "names" ["self"]<|tM P w K aC)(Qf:Met P w K mg base aP 1 "names" ["self"]<|ut K aP)(Qw:Met P w K mg base aC 1 "take" ["self","name","thing"]<|oM P w K aC)
  (Qb:Met P w K mg base aC 4 "thing" ["self","name"]<|vy P w K aC) (Qe:ug P w K mg base aP 9 "thing" ["self","name"]<|wg K aP aN 5):zc P w K mg base CA 10 f fd ["self","base"] (lW P w K aC aP):=by
 let:=F.ok sc λ_ _ _ _ H vs Q E hr h=>?_;let#[x,n,b,S,rfl,hx,O,ne,hb,k]:=h;have kl:=two T.cls T.wR;have G:=BO T.ne Qc Qf;have I:=Xz T.ne Qb Qe;let:=#[_,(zE (IH (pv 0) xM rfl)<|zE (IH (pv 0) PN rfl)<|zE (IH (pv 0) xM rfl)<|zF<|yG (zO B8 (pv 1) jM<|zS _) (zF<|yM Ep rfl (yR<|GT (p:=Kl aC aP) λc kc=>y9 (pv 1) (kl c kc) (G c kc) hr.m) (zR (i:=2) sc.nd rfl<|Ew rfl) (zF<|zX<|yK (pv 0) T.cls Qw hr.m<|zA (pv 2)<|zA (GT (p:=Kl aC aP) λc kc=>qV (pv 1) (kl c kc) (I c kc) hr.m yE<|zA (pv 2) zC) zC)) zU),?_]
 let:=Sw λN hN=>λg n1=>#[x,aC,n,_,rfl,(zD n1) _ _ hx,T.cls,T.n1,∅,?_];have U:=zL hx n1;have a4:=zL O n1;let:=nS hN λN hN=>λd o2 n2 T2 e2=>?_;let#[es,rfl]:=e2;have bm:d≠x/\d≠g/\H d=none:=by
  let:=#[λz=>?_,λz=>?_,?_]
  .rw[z,zB]at n2;cases n2
  .rw[z,zH<|Er U,zB]at n2;cases n2
  .have a1:d≠x:=λz=>by rw[z,zB]at n2;cases n2
   have a2:d≠g:=λz=>by rw[z,zH<|Er U,zB]at n2;cases n2
   rw[zH a1,zH a2]at n2;let:=n2
 let#[J,X,Y]:=bm;have a5:=zL O Y;let:=#[x,aC,n,[("thing_by_name",V.ref g)],rfl,by rw[zH<|Er J,zB];rfl,T.cls,T.n2,(show 1<1000 by decide),?_];let:=nS hN λN hN=>λj n3=>?_;have bo:j≠x/\j≠d/\j≠g/\H j=none:=by
  have a1:j≠x:=λz=>by rw[z,zB]at n3;cases n3
  have a2:j≠d:=λz=>by rw[z,zH J,zB]at n3;cases n3
  have a3:j≠g:=λz=>by rw[z,zH<|Er U,zH<|Er X,zH<|Er U,zB]at n3;cases n3
  let:=#[a1,a2,a3,?_];rw[zH a1,zH a2,zH a1,zH a3]at n3;let:=n3
 let#[aa,a0,as,Z]:=bo;have a6:=zL O Z;let:=#[x,aC,n,[("thing_by_name",V.ref g),("name_by_thing",V.ref d)],rfl,by rw[zH<|Er aa,zB];rfl,T.cls,T.n3,(show 2<1000 by decide),hN _ _<|hid λB hB=>?_];let#[A,e4]:∃A,A=upd (upd (upd (upd (upd (upd H g<|.dK []) x<|.ins aC n<|UD "thing_by_name" (V.ref g) []) d<|BZ d es) x<|.ins aC n<|UD "name_by_thing" (V.ref d) [("thing_by_name",V.ref g)]) j<|.dK []) x (.ins aC n<|UD "next_numbers" (V.ref j) [("thing_by_name",V.ref g),("name_by_thing",V.ref d)]):=#[_,rfl];have q0:A x=some (.ins aC n<|OU g d j):=by rw[e4,zB];rfl
 have q1:A g=some (.dK []):=by rw[e4,zH<|Er U,zH<|Er as,zH<|Er U,zH<|Er X,zH<|Er U,zB]
 have q2:A d=some (BZ d es):=by rw[e4,zH J,zH<|Er a0,zH J,zB]
 have q3:A j=some (.dK []):=by rw[e4,zH aa,zB]
 have qx:A n=some (.own x):=by rwa[e4,zH ne,zH a6,zH ne,zH a5,zH ne,zH a4]
 have ai:Off [x] H A:=λc o C e=>by
  have cx:c≠x:=λz=>C (by rw[z];let:=Zt);rwa[e4,zH cx,zH<|zL e Z,zH cx,zH<|zL e Y,zH cx,zH<|zL e n1]
 have M:∀c∈[x,n,g,d,j],c=x\/c=n\/H c=none:=λc C=>by
  simp only[Zx,Yg,Jo]at C
  rcases C with rfl|rfl|rfl|rfl|rfl
  .let:=.inl rfl
  .let:=.inr (.inl rfl)
  .let:=.inr (.inr n1)
  .let:=.inr (.inr Y)
  .let:=.inr (.inr Z)
 have al:xr P w K aC A x [x,n,g,d,j] []:=by
  let#[_,_,_,xs,a9,r]:=T2;cases r;rw[zB]at a9;have b0:A d=some (BZ d<|List.map (L1<|yY P w) []):=q2.trans a9;let:=#[wY.nil,n,g,d,j,[],[],rfl,by simp[Er ne,U,Er J,Er aa,a4,a5,a6,Er X,Er as,Er a0],q0,qx,rfl,q1,#[ZP _,λ_ z=>(nomatch z),YO,[],b0,.nil],q3,ZP _,λh=>rfl,λi e t z=>by cases z]
 rw[<-e4]at hB
 rcases hb with⟨rfl,rfl⟩|⟨c,a,fp0,rfl,sh0,x0,dx0,Sl⟩
 .let:=hB #[rfl,false,congrArg V.bl (by rw[Zm rfl];rfl),UB<|k _ _ M ai al]
 .let:=hB #[rfl,true,congrArg V.bl (by rw[ZE<|λz=>by cases z];rfl),UJ<|hid λB hB=>?_];have dj:∀c∈fp0,c∉[x,n,g,d,j]:=λc C z=>by
   let#[o,eo]:=sh0.ex c C
   rcases M c z with rfl|rfl|q
   .let:=x0 C
   .let:=dx0 C
   .rw[eo]at q;cases q
  have s:=sh0.off (λb hb xs z=>by
   rw[Zk.mp hb]at z
   rcases z with z|⟨u,z⟩
   .rw[hx]at z;cases z
   .rw[hx]at z;cases z) ai (λc C z=>x0<|by rwa[<-Zk.mp z])
  have gS:=s.good;let#[dy,fs,h1,_,_,l3]:=s.ins;let:=hB #[c,s.kl,a,dy,_,rfl,h1,l3,a,fp0,S,rfl,s,λl nl=>?_];have ul:=zD (o:=.lst<|S.map λe=>V.str e.nm) nl;have ab:upd A l (.lst<|S.map λe=>V.str e.nm) l=some (.lst<|S.map λe=>V.str e.nm):=zB;have an:=al.same ul;have R:=s.same ul;have bh:l∉[x,n,g,d,j]:=λz=>by
   let#[o,eo,_]:=al.wZ l z;rw[eo]at nl;cases nl
  have bd:=ai.trans<|Off.of ul;let:=#[l,rfl,#[_,za.of ab],?_];generalize upd A l (.lst<|S.map λe=>V.str e.nm)=H5 at ul ab an R bd;have bx:=an.wZ.tup;let:=xQ (λi σ H6=>∃o,σ=[some<|.ref x,some<|.ref a,o]/\Off [x,n,g,d,j] H5 H6/\xr P w K aC H6 x [x,n,g,d,j] (S.take i)) #[none,rfl,Off.refl _ _,an] (λi σ H6 hi ⟨_,_,o6,_⟩=>za.of<|o6 _ _ bh ab) ?_ ?_
  .rintro i v σ H6 D B hv hD hB ⟨o,rfl,o6,y⟩;rw[Zz]at hv;cases q:S[i]? with
   |none=>rw[q]at hv;cases hv
   |some e =>
    rw[q]at hv;have hv:=Option.some.inj hv;subst hv;have he:=Zy q;have L:=R.off bx o6 dj;let#[bf,b2,k1,_,l2,_]:=L.ins;let#[_,a7,_,_,_,_,_,_,_,z1,_]:=id y;let:=hB #[x,a7,_,rfl,z1,rfl,c,L.kl,a,bf,_,rfl,k1,l2,a,fp0,S,e,rfl,L,he,λt b1 be ht=>?_];have y:=y.same be;let:=#[x,_,S.take i,e,t,rfl,y,gS.ent e he,ht,?_,?_,by rw[ZL];lia,λH7 o7 b3=>?_]
    .rw[JX];let:=Gq gS.nd (by rw[Zz,q];rfl)
    .rw[JX];let:=Gq gS.nn (by rw[Zz,q];rfl)
    .let:=hD.nx _ _ #[_,rfl,(o6.trans<|Off.of be).trans o7,?_];rwa[YK,q]
  .rintro σ H6 ⟨o,rfl,o6,y⟩;rw[Zj,ZS]at y;let:=k _ _ M (λc u C e=>?_) y;have e5:=bd c u C e
   by_cases z:c∈[x,n,g,d,j]
   .rcases M c z with q|q|q
    .let:=absurd (by rw[q];let:=Zt) C
    .subst q;let#[_,a7,y1,y2,y3,_,_,a8,_,_,z2,_]:=id y;injection a8 with w1 w2;injection w2 with w2 w3;subst w2;rw[O]at e;cases e;let:=z2
    .rw[e]at q;cases q
   .let:=o6 c u z e5
end A6
inductive fQ (K:Co)(aP:D8)(H:Hp)(x dx d1 d2 a rl bl l:D8)(U:Dh)(i:Nat)(σ:St)(H6:Hp):Prop
 |mk (o4 o5:Option V) (fp:Dc) (h0:σ=[some<|.ref x,some<|.ref a,some<|.ref rl,some<|.ref bl,o4,o5]) (h1:Off [x] H H6) (h2:H6 l=some (.lst<|(U.map En.nm).map V.str)) (h3:l∉fp) (h4:(∀b∈fp,b=x\/b=dx\/H b=none)) (h5:fp.take 4=[x,dx,d1,d2]) (h6:Pi K aP H6 x bl fp<|U.take i):fQ K aP H x dx d1 d2 a rl bl l U i σ H6
namespace A7
abbrev st:Stmt:=inClass (top 52) 0
theorem sc:zx ["self","store","roots","bases","name","thing"] ["self","store","roots"] (zI st):=CC
include T in
theorem ok (F:xj K "__init__" "Pack.__init__" st f fd)(Qp:pL P w K mg base 11 "reached" ["store","roots"]<|tU P w K aC aP aN)(Qb:Met P w K mg base aC 4 "thing" ["self","name"]<|vy P w K aC)(Qe:ug P w K mg base aP 9 "thing" ["self","name"]<|wg K aP aN 5)(Q7:Met P w K mg base aP 10 "take_leaf" ["self","name","lines","bases"]<|oR K aP)(Qz:Met P w K mg base aP 1 "take" ["self","name","packed"]<|rO K aP):zc P w K mg base (CI P w) 12 f fd ["self","store","roots"] (rN P w K aC aP aN):=by
 let:=F.jd sc λ_ _ _ _ H vs Q E hr h=>?_;let#[x,j,c,a,rl,an,S,ds,xs,rfl,hx,Z,ne,hs,th,cs,lf,dl,k1,k2]:=h;have kl:=two T.cls T.wR;have I:=Xz T.ne Qb Qe;let:=#[_,(zE (IH (pv 0) xM rfl)<|zE (IH (pv 0) xM rfl)<|zE (Cu (i:=3) sc.nd<|yA zC)<|zF<|yM PassesOwn.leaving rfl (yR<|kD Qp hr.m x8<|zA (pv 1)<|zA (pv 2) zC) (zR (i:=4) sc.nd rfl<|Ew rfl)<|zE (Cu (i:=5) sc.nd<|GT (p:=Kl aC aP) λc kc=>qV (pv 1) (kl c kc) (I c kc) hr.m x8<|zA (pv 4) zC) (zF<|yG (zO yX (zV (zj:Cy _<|yr K) (pv 5) zG) zr<|zS _) (zF<|zX<|yK (pv 0) T.wR Q7 hr.m<|zA (pv 4)<|zA (zV (zj:Cy _<|yr K) (pv 5) zG)<|zA (pv 3) zC)<|zF<|zX<|yK (pv 0) T.wR Qz hr.m<|zA (pv 4)<|zA (yW<|zA jM<|zA (pv 5) zC) zC)),?_]
 let:=Sw λN hN=>λs n1=>#[x,aP,j,_,rfl,(zD n1) _ _ hx,T.wR,T.m1,∅,?_];have x1:=zL hx n1;let:=nS hN λN hN=>λu n2=>?_;have a1:u≠x:=λz=>by rw[z,zB]at n2;cases n2
 have a2:u≠s:=λz=>by rw[z,zH<|Er x1,zB]at n2;cases n2
 have a5:H u=none:=by rw[zH a1,zH a2]at n2;let:=n2
 let:=#[x,aP,j,[("base_by_name",V.ref s)],rfl,by rw[zH<|Er a1,zB];rfl,T.wR,T.m2,(show 1<1000 by decide),nS hN λN hN=>#[UC 0,λbl n=>zT<|hN _ _<|hid λB Y=>?_]];have b1:bl≠x:=λz=>by rw[z,zB]at n;cases n
 have b2:bl≠u:=λz=>by rw[z,zH a1,zB]at n;cases n
 have b3:bl≠s:=λz=>by rw[z,zH<|Er x1,zH<|Er a2,zH<|Er x1,zB]at n;cases n
 have C:H bl=none:=by rw[zH b1,zH b2,zH b1,zH b3]at n;let:=n
 let#[J,e4]:∃J,J=upd (upd (upd (upd (upd H s<|.dK []) x<|.ins aP j<|UD "base_by_name" (V.ref s) []) u<|.dK []) x<|.ins aP j<|UD "part_by_name" (V.ref u) [("base_by_name",V.ref s)]) bl (.lst []):=#[_,rfl];have q0:J x=some (.ins aP j<|F7 s u):=by rw[e4,zH<|Er b1,zB];rfl
 have q1:J s=some (.dK []):=by rw[e4,zH<|Er b3,zH<|Er x1,zH<|Er a2,zH<|Er x1,zB]
 have q2:J u=some (.dK []):=by rw[e4,zH<|Er b2,zH a1,zB]
 have qb:J bl=some (.lst []):=by rw[e4,zB]
 have M:Off [x] H J:=λb o A e=>by
  have bx:b≠x:=λz=>A (by rw[z];let:=Zt);rwa[e4,zH<|zL e C,zH bx,zH<|zL e a5,zH bx,zH<|zL e n1]
 rw[<-e4]at Y;have qx:=M _ _ (λz=>ne<|Zk.mp z) Z;have a6:Pi K aP J x bl [x,j,s,u] []:=by
  let:=#[#[wY.nil,λe z=>(nomatch z),j,s,u,[],[],rfl,Er a2,q0,qx,q1,q2,rfl,λb z=>(nomatch z),λi p t z=>(nomatch z)],λz=>?_,[],qb,rfl,λi x v z=>(nomatch z)];simp only[Zx,Yg,Jo]at z
  rcases z with z|z|z|z
  .let:=b1 z
  .rw[z,Z]at C;cases C
  .let:=b3 z
  .let:=b2 z
 have bf:∀b∈[x,j,s,u],b=x\/b=j\/H b=none:=λb A=>by
  simp only[Zx,Yg,Jo]at A
  rcases A with z|z|z|z
  .let:=.inl z
  .let:=.inr (.inl z)
  .rw[z];let:=.inr<|.inr n1
  .rw[z];let:=.inr<|.inr a5
 let#[a7,b4,a9]:=hs J M;let:=Y #[c,a,rl,an,S,ds,xs,rfl,a7,th,cs,b4,a9,dl,λrs er bh l H5 s5 nl ⟨F',hF,hl⟩=>?_,λno=>k2 no J M];have k1:=k1 rs er bh;have sub:(S.filter λe=>decide (e.nm∈F')).Sublist S:=List.filter_sublist;have em:((S.map En.nm).filter λy=>decide (y∈F'))=(S.filter λe=>decide (e.nm∈F')).map En.nm:=by rw[List.filter_map];rfl
 rw[em]at hl;have k1:=λO H'=>k1 O H' F' hF;have gS:=B4 a7.good sub;have lS:=Fe lf sub;have OC:∀e∈S.filter (λe=>decide (e.nm∈F')),e∈S:=λe he=>sub.subset he;generalize S.filter (λe=>decide (e.nm∈F'))=U at hl k1 gS lS OC;have lb:l≠bl:=λz=>by rw[z,qb]at nl;cases nl
 have bo:l∉[x,j,s,u]:=λz=>by
  let#[o,eo]:=a6.pk.ex l z;rw[eo]at nl;cases nl
 let:=#[l,rfl,#[_,za.of hl],xQ (fQ K aP H x j s u a rl bl l U) #[none,none,_,rfl,M.trans<|Off.of s5,hl,bo,bf,rfl,a6.same s5] (λi σ H6 _ z=>by let#[_,_,_,_,_,h,_,_,_,_]:=z;let:=za.of h) ?_ ?_]
 .rintro i v σ H6 D B hv hD Y ⟨o4,o5,O,rfl,o6,a0,aa,L,f4,pi⟩;rw[Zz,Zz]at hv;let#[y,hy,rfl]:=ZO.mp hv;let#[e,he,rfl]:=ZO.mp hy;have as:=Zy he;let#[ai,_,_]:=hs H6 o6;let#[dy,fs,h1,_,l2,_]:=ai.ins;let:=Y<|zT #[c,ai.kl,a,dy,_,rfl,h1,l2,a,an,S,e,rfl,ai,OC e as,λt H7 s7 ht=>zT<|hid λB Y=>?_];have ab:=pi.same s7;have tk:=yc he;have g7:wY (U.take i++[e]):=by rw[<-tk];let:=B4 gS<|Vn _ _
  have a4:Lf (U.take i++[e]):=by rw[<-tk];let:=Fe lS<|Vn _ _
  have o7:=o6.trans<|Off.of s7;have a3:=s7 _ _ a0;let#[dz,cd,z1,z2,z3]:∃j fs,H7 x=some (.ins aP j fs)/\fs.lookup ("take":Str)=none/\fs.lookup ("take_leaf":Str)=none:=by
   let#[_,_,j,s,u,_,_,_,_,h1,_]:=ab.pk;let:=#[j,_,h1,rfl,rfl]
  have al:∀{o4 o5:Option V} g R,Off (bl::O) H7 R->(∀b∈g,b∈O\/H7 b=none)->g.take 4=O.take 4->Pi K aP R x bl g (U.take i++[e])->fQ K aP H x j s u a rl bl l U (i+1) [some<|.ref x,some<|.ref a,some<|.ref rl,some<|.ref bl,o4,o5] R:=λg R o8 nw G p8=>by
   let:=#[_,_,g,rfl,λb o A X=>?_,o8 _ _ (λz=>(Zx.mp z).elim lb aa) a3,λz=>?_,λb A=>?_,G.trans f4,by rw[tk];let:=p8]
   .by_cases bd:b=j
    .rw[bd,Z]at X;cases X;let#[_,_,cc,ca,cb,b5,_,ef,_,_,y2,_]:=p8.pk;have G:=G.trans f4;rw[ef]at G;have G:=G;injection G with _ G;injection G with G;rwa[bd,<-G]
    .let:=o8 _ _ (λz=>?_) (o7 _ _ A X)
     rcases Zx.mp z with z|z
     .rw[z,C]at X;cases X
     .rcases L b z with y|y|y
      .let:=A (by rw[y];let:=Zt)
      .let:=bd y
      .rw[y]at X;cases X
   .rcases nw l z with y|y
    .let:=aa y
    .rw[a3]at y;cases y
   .rcases nw b A with y|y
    .let:=L b y
    .let:=.inr (.inr ?_);cases q:H b with
     |none=>rfl
     |some o =>
      by_cases bx:b=x
      .rw[bx,z1]at y;cases y
      .rw[o7 _ _ (λz=>bx<|Zk.mp z) q]at y;cases y
  let#[t',ed,_,_]:=th e<|OC e as;have bm:=ht;rw[ed]at ht;let#[c',r,ec,hc]:=kC ht;cases ec
  by_cases wl:t'.word="leaf"
  .let#[ls,rfl]:∃ls,t'=.leaf ls:=by
    cases t' with
    |leaf ls=>let:=#[ls,rfl]
    |tree rs=>let:=absurd wl (show("tree":Str)≠"leaf" by lk)
    |note y1 y2 y3=>let:=absurd wl (show("note":Str)≠"leaf" by lk)
   let#[c',b,ec,hc,A]:=xU ht;cases ec;let:=Y #[t,_,_,_,rfl,rfl,hc,rfl,rfl,true,congrArg V.bl<|Zm rfl,UJ #[x,dz,_,rfl,z1,z3,t,_,_,_,rfl,rfl,hc,rfl,x,b,bl,O,_,e,ls,rfl,ab,g7,a4,ed,A,λg R o8 nw G p8=>?_]];let:=hD.nx _ _<|al g R o8 nw G p8
  .let:=Y #[t,_,_,_,rfl,rfl,hc,uI _ _,rfl,false,congrArg V.bl<|ZE λz=>wl<|V.str.inj z,UB #[x,dz,_,rfl,z1,z2,UC 2,λt2 n2=>?_]];have s8:=zD (o:=.tup [V.non,V.ref t]) n2;have t8:yh K (upd H7 t2<|.tup [V.non,V.ref t]) t2 [V.non,V.ref t]:=yh.of zB;delta X7;generalize upd H7 t2 (.tup [V.non,V.ref t])=R at s8 t8 ⊢;have ln:CN e.d=none:=by
    rw[ed];cases t' with
    |leaf ls=>let:=absurd rfl wl
    |tree rs=>let:=Im rs
    |note y1 y2 y3=>rfl
   have pb:(UE (Cq<|U.take i).2 e).b=none:=by
    show(CN e.d).bind _=_;rw[ln];rfl
   have be:(Cq<|U.take i++[e]).2=(Cq<|U.take i).2:=by
    rw[qB];unfold Xa;rw[show(UE (Cq<|U.take i).2 e).e=e from rfl,ln];let:=ZW _
   let:=NB (ab.same s8) g7 a4 (by unfold bV;rw[pb]) t8 (by rw[pb];let:=Dt.same s8 _ _ bm) λg H9 o9 nw f9 p9 b0 a8=>hD.nx _ _ (al g H9 ((Off.of s8).trans<|o9.mono λb A=>Zp _ A) (λb A=>(nw b A).imp id λz=>by rw[pb]at z;cases z.2) f9 #[p9,b0,by rw[f9,be];let:=a8])
 .rintro σ H6 ⟨o4,o5,O,rfl,o6,a0,aa,L,f4,pi⟩;rw[Zj,Zj,ZS]at pi;let:=k1 O H6 L o6 pi.pk
end A7
def mZ (p:Nat->Bool)(n:Nat)(x:Str):Prop:=(cs x).length=n/\(cs x).all p=true
theorem mZ.at (h:mZ p n x){i:Int}(d:0<=i)(e:i<n):∃c,CJ x.cps.toList i=some c/\p c=true:=by
 let#[j,rfl]:=Jz d;have b:j<(cs x).length:=by rw[h.1];lia
 let:=#[(cs x)[j],xX<|Zv b,ZQ.mp h.2 _<|Ys b]
theorem mZ.len (h:mZ p n x)(b:n<=1000):x.length<=sizeLine:=zu (by rw[yx,h.1];lia)
def UW (ns:List Int)(k:Int):Int:=ns.getD k.toNat 0
inductive oh (K:Co)(vs:Di)(H:Hp)(Q:VK)(e3:XK):Prop
 |mk (a:D8) (ns:List Int) (k:Int) (h0:vs=[.ref a,.int k]) (h1:za K H a<|ns.map V.int) (h2:0<=k) (h3:Q (.int<|UW ns k) H):oh K vs H Q e3
def iz:Str:=" !\"#$&'()*+,-./0123456789:;<=>?@ABCDEFGHIJKLMNOPQRSTUVWXYZ[\\]^_`"++"abcdefghijklmnopqrstuvwxyz{|}~"
def sizeZ (c:Int):Int:=if c / 4 % 9=1 then 17+c / 36 % 4 else c % 4
def bG (c:Int)(i:Nat):Nat:=(CJ iz.cps.toList<|(c / 4*(0+(i:Int)+1)+c / 7+5*(0+(i:Int))) % 94).getD 0
def TD (c:Int)(n:Nat):List Nat:=(Eu n).map<|bG c
def Nb (c:Int):Str:=#[(TD c (sizeZ c).toNat).toArray]
theorem Pg (c:Int)(n:Nat):TD c (n+1)=TD c n++[bG c n]:=by
 unfold TD;rw[JE,Zu];rfl
theorem FW (c:Int):cs (Nb c)=TD c (sizeZ c).toNat:=rfl
def Ke:Sp:=λd H Q _=>∃c,d=[.int c]/\∀x b,UG x=true->x=Nb c->zz H b->Q (.str x) b
def KY (c:Int)(t:Nat):Str:=([("a":Str),"b","","cd","zz",Nb<|c / 7][((c / 11+(0+(t:Int))) % 6).toNat]?).getD ""
def xZ (c:Int)(row:By)(t:Nat):By :=
 if c / 2 % 2=(0+(t:Int)) % 2 then row.take ((c / 3+5*(0+(t:Int))) % ((row.length:Int)+1)).toNat++[KY c t]++row.drop ((c / 3+5*(0+(t:Int))) % ((row.length:Int)+1)).toNat
 else row.take ((c / 3+5*(0+(t:Int))) % ((row.length:Int)+1)).toNat++row.drop (((c / 3+5*(0+(t:Int))) % ((row.length:Int)+1)).toNat+1)
def Xn (c:Int)(L:By):By:=(Eu (c % 3).toNat).foldl (xZ c) L
inductive mJ (K:Co)(vs:Di)(H:Hp)(Q:VK)(e3:XK):Prop
 |mk (v:V) (c:Int) (L:By) (h0:vs=[v,.int c]) (h1:Dt K H (AnJ.yu L) v) (h2:(∀l∈L,UG l=true)) (h3:L.length<=500) (h4:∀p H',zz H H'->H' p=some (.tup<|(Xn c L).map V.str)->(∀l∈Xn c L,UG l=true)->(Xn c L).length<=L.length+2->Q (.ref p) H'):mJ K vs H Q e3
theorem TL {H:Hp}{a:D8}(n:H a=none):zz H (upd H a o)/\upd H a o a=some o:=#[zD n,zB]
def Ka:By:=["a","b","","cd"]
def UM (c:Int)(Ls:List By):By:=if c % 4=0\/Ls=[] then(Eu (c / 4 % 7).toNat).map (λ(k:Nat)=>(Ka[((c / 4+(0+(k:Int))*(c / 28 % 4)) % 4).toNat]?).getD "") else Xn (c / 5) ((Ls[(c / 4 % (Ls.length:Int)).toNat]?).getD [])
def US (L:By):PyData:=(Th.leaf L).dat
theorem Gg:∀Ls:List By,(∀L∈Ls,∀l∈L,UG l=true)->El (Ls.map US)=true/\EA (Ls.map US)<=10
 |[],_=>#[rfl,ZP _]
 |L::Ls,h=>by
  let#[d,f]:=Gg Ls λL e=>h L<|Zp _ e;let#[b,c]:=uR L λl hl=>(vP<|h L Zt l hl).ok;constructor
  .show((Ei "leaf"&&(El (L.map .str)&&true))&&El (Ls.map US))=true;rw[b,d]
   lk
  .show max (max 0 (max (EA (L.map .str)+1) 0)+1) (EA<|Ls.map US)<=10;rw[c];lia
theorem y8 {Ls:List By}(h:∀L∈Ls,∀l∈L,UG l=true):E5 (.list<|Ls.map US)=true:=by
 let#[b,c]:=Gg Ls h;unfold E5;rw[ZB,ZY];let:=#[b,by show EA (Ls.map US)+1<=64;lia]
theorem Ic (Ls:List By):EG (.list<|Ls.map US) (.list [])=decide (Ls=[]):=by
 cases Ls with
 |nil=>rfl
 |cons L Ls=>rw[ZE<|Jc _ _];rfl
inductive pX (K:Co)(vs:Di)(H:Hp)(Q:VK)(e3:XK):Prop
 |mk (a:D8) (c:Int) (Ls:List By) (n:Nat) (xs:Di) (h0:vs=[.ref a,.int c]) (h1:H a=some (.lst xs)) (h2:zy K H (Ls.map US) xs) (h3:(∀L∈Ls,∀l∈L,UG l=true)) (h4:(∀L∈Ls,L.length<=n)) (h5:n<=400) (h6:Ls.length<=100) (h7:∀v H',zz H H'->Dt K H' (US<|UM c Ls) v->(∀l∈UM c Ls,UG l=true)->(UM c Ls).length<=max 6 (n+2)->Q v H'):pX K vs H Q e3
namespace A8
abbrev st:Stmt:=top 66
theorem sc:zx ["_law_script","_law_k"] ["_law_script","_law_k"] (zI st):=CC
include T in
theorem ok (F:xj0 K "_law_cell_at" st f fd):zc P w K mg base CA 1 f fd ["_law_script","_law_k"] (oh K):=by
 let:=F.ok sc λ_ _ _ _ H l Q E j h=>?_;let#[a,ns,k,rfl,c,d,q]:=h;let:=#[_,(zE (yG (zO Xd (pv 1) (zK zN (by rfl) T.len ZV<|zA (pv 0) zC)<|zS _) (zF<|zQ<|zV (xu:Cy _<|tY K) (pv 0)<|pv 1) zU)<|zF<|zQ zG),?_]
 let:=#[a,_,rfl,.inl c,_,rfl,UI (λh=>?_)<|λh=>?_]
 .have g:k<ns.length:=by simpa using h
  have b:k.toNat<ns.length:=⋯
  have i:CJ (ns.map V.int) k=some (.int<|UW ns k):=by
   have e:=J2 d
   conv=>lhs;rw[<-e]
   let:=xX ?_;rw[Zz,Zv b];unfold UW;rw[Yy,Zv b];rfl
  let:=#[a,_,_,_,rfl,rfl,c,i,q]
 .have g:¬k<ns.length:=by simpa using h
  have e:UW ns k=0:=by
   unfold UW;rw[Yy,JN.mpr<|⋯];rfl
  rw[e]at q;let:=q
end A8
namespace A9
abbrev st:Stmt:=top 67
theorem sc:zx ["_law_cell","_law_some","_law_size"] ["_law_cell"] (zI st):=CC
include T in
theorem ok (F:xj0 K "_law_line_by" st f fd):zc P w K mg base CA 1 f fd ["_law_cell"] Ke:=by
 let:=F.ok sc λ_ _ _ _ H M Q E L h=>?_;let#[c,rfl,k]:=h;let:=#[_,(zE (Cu (i:=1) sc.nd zr)<|zE (Cu (i:=1) sc.nd<|zP jJ (pv 1) zr)<|zE (Cu (i:=2) sc.nd<|zP yH (pv 0) zG)<|xN (yG (zO yX (zP yH (zP z9 (pv 0) zG) zG) zG<|zS _) (zF<|Cu (i:=2) sc.nd<|zP z8 zG<|zP yH (zP z9 (pv 0) zG) zG) zU)<|zF<|zQ<|qW Y0 VT VU BY zr<|zA (yS (sc:=zI st) (N:=["_law_cell","_law_some","_law_size"]) (N':=["_law_k","_law_some","_law_cell"]) (src:=[none,some 1,some 0]) .a rfl rfl rfl (x4 rfl T.range<|zA (pv 2) zC) (λ_ _ _ _=>(zR (i:=0) (show(["_law_k","_law_some","_law_cell"]:By).Nodup by lk) rfl (Ew rfl))) (λ_ _ _ _=>x5) (λ_ _ _ _=>(zV KP (pv 1)<|zP yH (zP z8 (zP z8 (zP v7 (zP z9 (pv 2) zG)<|zP z8 (pv 0) zG)<|zP z9 (pv 2) zG)<|zP v7 zG<|pv 0) zG))) zC),?_]
 let:=#[_,_,rfl,rfl,zu<|by lk,(by show(0:Int)<4;decide),λe q=>∃n S,e=[some<|.int c,some<|.str S,some<|.int n]/\q=H/\0<=n/\n<=20/\n=sizeZ c/\S=iz/\mZ UQ 94 S,?_,?_]
 .let:=#[#[∅,∅],(by show(0:Int)<9;decide),rfl,_,rfl,UI (λz=>?_)<|λz=>?_]
  .have z:c / 4 % 9=1:=by simpa using z
   let:=#[#[∅,∅],(by show(0:Int)<4;decide),_,_,rfl,rfl,⋯,⋯,by unfold sizeZ;rw[ZJ z],rfl,by lk,by lk]
  .have z:¬c / 4 % 9=1:=by simpa using z
   let:=#[_,_,rfl,rfl,⋯,⋯,by unfold sizeZ;rw[ZI z],rfl,by lk,by lk]
 .rintro e q ⟨n,S,rfl,rfl,J,C,A,y,u⟩;let:=#[rfl,n,rfl,⋯,⋯,uB (λi j o g=>∃x l,o=[x,some<|.str S,some<|.int c]/\g=q/\j=(l.map one).map V.str/\l.length=i/\l=TD c i/\∀c∈l,UQ c=true) #[none,[],rfl,rfl,rfl,rfl,rfl,λc D=>nomatch D] (zu<|⋯)
   (λi j o g G ⟨x,l,_,_,B,t,_,_⟩=>by rw[B,Zj,Zj,t];let:=Zn _) ?_ ?_]
  .rintro i j o g G ⟨x,l,rfl,rfl,rfl,rfl,lz,s⟩;let:=#[#[∅,∅],.inr #[⋯,⋯],#[∅,∅],.inl #[∅,∅],(by show(0:Int)<94;decide),?_];let#[d,b,r]:=u.at (i:=(c / 4*(0+((l.length:Nat):Int)+1)+c / 7+5*(0+((l.length:Nat):Int))) % 94) ⋯ ⋯;let:=#[S,_,d,rfl,rfl,u.len<|∅,b,_,l++[d],rfl,rfl,?_,by simp,?_,IV s r]
   .rw[Zu,Zu];rfl
   .rw[Pg,<-lz]
    congr 2
    unfold bG;rw[<-y,b];rfl
  .rintro j o g ⟨x,l,rfl,rfl,rfl,t,lz,s⟩ p I;have v:("":Str).length=0:=by lk
   let:=#[_,p,l.map one,rfl,rfl,.inl<|za.of zB,by rw[Kj,v];lia,k _ _ (qj.mpr #[?_,?_]) (wO<|by rwa[kY,FW,<-A])<|zD I]
   .rw[yx,kY];lia
   .rwa[kY,ZQ]
end A9
inductive NeI (H:Hp)(b:D8)(c:Int)(n:Nat)(row:By)(t:Nat)(σ:St)(H':Hp):Prop
 |mk (l:D8) (o3 o4 o5:Option V) (h0:σ=[some<|.ref b,some<|.int c,some<|.ref l,o3,o4,o5]) (h1:zz H H') (h2:H' l=some (.lst<|row.map V.str)) (h3:(∀y∈row,UG y=true)) (h4:row.length<=n+t):NeI H b c n row t σ H'
namespace Ca
abbrev st:Stmt:=top 68
theorem sc:zx ["_law_lines","_law_cell","_law_row","_law_turn","_law_at","_law_line"] ["_law_lines","_law_cell"] (zI st):=CC
include T in
theorem ok (F:xj0 K "_law_lines_near" st f fd)(Q8:wU P w K mg base 1 "_law_line_by" ["_law_cell"] Ke):zc P w K mg base CA 2 f fd ["_law_lines","_law_cell"] (mJ K):=by
 let:=F.ok sc λ_ _ _ _ H vs Q E hr h=>?_;let#[v,c,L,rfl,dv,lb,ll,k]:=h;let#[b,xs,rfl,hb,hx]:=dv;have ex:=Fz hx;subst ex;let:=#[_,(zE (Cu (i:=2) sc.nd<|zW yI (by rfl) T.list Yd<|zA (pv 0) zC)<|zE (yM Ep rfl (x4 rfl T.range<|zA (zP yH (pv 1) zG) zC) (zR (i:=3) sc.nd rfl<|Ew rfl)<|zE (Cu (i:=4) sc.nd<|zP yH (zP z8 (zP z9 (pv 1) zG)<|zP v7 zG<|pv 3)<|zP z8 (zK zN (by rfl) T.len ZV<|zA (pv 2) zC) zG)<|zE (Cu (i:=5) sc.nd<|zV (xu:Cy _<|tY K) (yA<|zA zr<|zA zr<|zA zr<|zA zr<|zA zr<|zA (zJ Q8 hr.m<|zA (zP z9 (pv 1) zG) zC) zC)<|zP yH (zP z8 (zP z9 (pv 1) zG)<|pv 3) zG)<|zF<|yG (zO yX (zP yH (zP z9 (pv 1) zG) zG) (zP yH (pv 3) zG)<|zS _) (zF<|Cu (i:=2) sc.nd<|zP j6 (zP j6 (y7 (vh:FH _<|GN K) (pv 2) jO<|yZ<|pv 4)<|yA<|zA (pv 5) zC)<|y7 (vh:FH _<|GN K) (pv 2) (yZ<|pv 4) jO)<|zF<|Cu (i:=2) sc.nd<|zP j6 (y7 (vh:FH _<|GN K) (pv 2) jO<|yZ<|pv 4)<|y7 (vh:FH _<|GN K) (pv 2) (yZ<|zP z8 (pv 4) zG) jO)<|zF<|zQ<|zW xA (by rfl) T.tuple Yp<|zA (pv 2) zC),?_]
 let:=#[b,_,rfl,.inr hb,λl0 n0=>?_];have u0:=zD (o:=.lst<|L.map V.str) n0;have m3:0<=c % 3/\c % 3<3:=#[Z9 _<|∅,Z3 _<|∅];let:=zT #[(∅:(0:Int)<3),_,rfl,⋯,⋯,jK (λt=>NeI H b c L.length ((Eu t).foldl (xZ c) L) t) #[l0,none,none,none,rfl,u0,zB,lb,Zn _] ?_ ?_]
 .rintro t σ H' D B ht g hB ⟨l,o3,o4,o5,rfl,s',hl,d,r⟩;have ht:t<3:=⋯
  have ef:(Eu<|t+1).foldl (xZ c) L=xZ c ((Eu t).foldl (xZ c) L) t:=by rw[JE,Yl];rfl
  rw[ef]at g;generalize (Eu t).foldl (xZ c) L=row at hl d r g;have rl:(row.map V.str).length=row.length:=Zj _;have C:0<=(c / 3+5*(0+(t:Int))) % ((row.length:Int)+1):=Z9 _ ⋯;have a1:(c / 3+5*(0+(t:Int))) % ((row.length:Int)+1)<(row.length:Int)+1:=Z3 _ ⋯;let:=hB (zT #[#[∅,∅],.inl #[∅,∅],l,_,rfl,.inl<|za.of hl,(show(0:Int)<(((row.map V.str).length:Nat):Int)+1 by lia),?_]);rw[rl];let:=#[#[∅,∅],_,rfl,λx H1 lx ex s1=>#[UC 6,λl6 n6=>?_]];have b0:0<=(c / 11+(0+(t:Int))) % 6:=Z9 _ ∅;have b1:(c / 11+(0+(t:Int))) % 6<6:=Z3 _ ∅;let#[y,j,ey]:=kP (xs:=[("a":Str),"b","","cd","zz",x]) b0 b1;have yl:y=KY c t:=by
   unfold KY;rw[<-ex,j];rfl
  have yb:UG y=true:=by
   have:=Zy j
   rcases Zx.mp this with z|z
   .rw[z];lk
   rcases Zx.mp z with z|z
   .rw[z];lk
   rcases Zx.mp z with z|z
   .rw[z];lk
   rcases Zx.mp z with z|z
   .rw[z];lk
   rcases Zx.mp z with z|z
   .rw[z];lk
   rwa[Zk.mp z]
  have u6:=zD (o:=.lst [V.str "a",V.str "b",V.str "",V.str "cd",V.str "zz",V.str x]) n6;let:=#[#[∅,∅],(∅:(0:Int)<6),l6,_,_,_,rfl,rfl,za.of zB,ey,?_];have s6:=(s'.trans s1).trans u6;have e:=u6 _ _<|s1 _ _ hl;rw[yl]at yb ⊢;generalize upd H1 l6 (.lst [V.str "a",V.str "b",V.str "",V.str "cd",V.str "zz",V.str x])=H6 at s6 e ⊢;unfold xZ at g;generalize (c / 3+5*(0+(t:Int))) % ((row.length:Int)+1)=at_ at C a1 g ⊢;have tk:∀(n:Nat),(row.map V.str).take n=(row.take n).map V.str:=λn=>JX.symm;have dp:∀(n:Nat),(row.map V.str).drop n=(row.drop n).map V.str:=λn=>V2.symm;have tl:(row.take at_.toNat).length<=row.length:=by rw[ZL];lia
  have I:∀n,(row.drop n).length<=row.length:=λn=>by rw[Ym];lia
  let:=#[#[∅,∅],(∅:(0:Int)<2),(∅:(0:Int)<2),rfl,_,rfl,UI (λz=>?_)<|λz=>?_]
  .have z:c / 2 % 2=(0+(t:Int)) % 2:=by
    have:=ZA z;let:=V.int.inj this
   rw[ZJ z]at g;let:=#[at_,rfl,l,_,rfl,za.of e,λO Y=>?_];rw[CT C,tk];have G:=zD (o:=.lst<|(row.take at_.toNat).map V.str) Y;let:=#[UC 1,λR Z=>?_];have A:=zD (o:=.lst [V.str<|KY c t]) Z;let:=#[O,R,_,_,rfl,rfl,A _ _ zB,zB,zu (by rw[Zj];show _+1<=_;lia),λS n9=>?_];have e9:(row.take at_.toNat).map V.str++[V.str<|KY c t]=(row.take at_.toNat++[KY c t]).map V.str:=by rw[Zu];rfl
   rw[e9];have u9:=zD (o:=.lst<|(row.take at_.toNat++[KY c t]).map V.str) n9;have u:=(G.trans A).trans u9;let:=#[at_,rfl,l,_,rfl,za.of<|u _ _ e,λM U=>?_];rw[uK C,dp];have s:=zD (o:=.lst<|(row.drop at_.toNat).map V.str) U;let:=#[S,M,_,_,rfl,rfl,s _ _ zB,zB,zu (by have:=I at_.toNat;rw[Zj,Zj,Zq];show _+1+_<=_;lia),λN X=>?_];rw[<-Zu];have J:=I at_.toNat;let:=g.nx _ _ #[N,_,_,_,rfl,((s6.trans u).trans s).trans<|zD X,zB,λy j=>?_,?_]
   .rcases ZD.mp j with q|q
    .rcases ZD.mp q with q|q
     .let:=d y (Yf q)
     .rwa[Zk.mp q]
    .let:=d y (YD q)
   .rw[Zq,Zq,ZL,Ym];show _+1+_<=_;lia
  .have z:=λq=>z<|Zm<|congrArg V.int q;rw[ZI z]at g;let:=#[at_,rfl,l,_,rfl,za.of e,λO Y=>?_];rw[CT C,tk];have G:=zD (o:=.lst<|(row.take at_.toNat).map V.str) Y;let:=#[at_+1,rfl,l,_,rfl,za.of<|G _ _ e,λR Z=>?_];have e8:(at_+1).toNat=at_.toNat+1:=⋯
   rw[uK<|⋯,e8,dp];have A:=zD (o:=.lst<|(row.drop<|at_.toNat+1).map V.str) Z;have J:=I<|at_.toNat+1;let:=#[O,R,_,_,rfl,rfl,A _ _ zB,zB,zu (by rw[Zj,Zj];lia),λS n9=>?_];rw[<-Zu];let:=g.nx _ _ #[S,_,_,_,rfl,((s6.trans G).trans A).trans<|zD n9,zB,λy j=>?_,?_]
   .rcases ZD.mp j with q|q
    .let:=d y (Yf q)
    .let:=d y (YD q)
   .rw[Zq,ZL,Ym];lia
 .rintro σ H' ⟨l,o3,o4,o5,rfl,s',hl,d,r⟩;let:=#[l,_,rfl,.inl #[za.of hl,λp np=>?_]];let:=k p _ (s'.trans<|zD np) zB d (by show(Xn c L).length<=_;unfold Xn;lia)
end Ca
namespace Cb
abbrev st:Stmt:=top 69
theorem sc:zx ["_law_leaves","_law_cell","_law_some"] ["_law_leaves","_law_cell"] (zI st):=CC
include T in
theorem ok (F:xj0 K "_law_leaf_by" st f fd)(Q9:wU P w K mg base 2 "_law_lines_near" ["_law_lines","_law_cell"]<|mJ K):zc P w K mg base CA 3 f fd ["_law_leaves","_law_cell"] (pX K):=by
 let:=F.ok sc λ_ _ _ _ H vs Q E hr h=>?_;let#[a,c,Ls,n,xs,rfl,ha,U,lb,ll,n4,aa,k]:=h;have C:=U.length;rw[Zj]at C;let:=#[_,(zE (yG (PW.pt<|vD (zO yX (zP yH (pv 1) zG) zG<|zS _)<|kN<|zO (PB hr.units) (pv 0) (yA zC)<|zS _) (zE (Cu (i:=2) sc.nd<|yA<|zA zr<|zA zr<|zA zr<|zA zr zC)<|zF<|zQ<|yW<|zA zr<|zA (zW xA (by rfl) T.tuple Yp<|zA (yS (sc:=zI st) (N:=["_law_leaves","_law_cell","_law_some"]) (N':=["_law_k","_law_some","_law_cell"]) (src:=[none,some 2,some 1]) .a rfl rfl rfl (x4 rfl T.range<|zA (zP yH (zP z9 (pv 1) zG) zG) zC) (λ_ _ _ _=>(zR (i:=0) (show(["_law_k","_law_some","_law_cell"]:By).Nodup by lk) rfl (Ew rfl))) (λ_ _ _ _=>x5) (λ_ _ _ _=>(zV (xu:Cy _<|tY K) (pv 1)<|zP yH (zP z8 (zP z9 (pv 2) zG)<|zP v7 (pv 0)<|zP yH (zP z9 (pv 2) zG) zG) zG))) zC) zC) zU) (zF<|zQ<|yW<|zA zr<|zA (zJ Q9 hr.m<|zA (zV (zj:Cy _<|yr K) (zV (xu:Cy _<|tY K) (pv 0)<|zP yH (zP z9 (pv 1) zG)<|zK zN (by rfl) T.len ZV<|zA (pv 0) zC) zG)<|zA (zP z9 (pv 1) zG) zC) zC)),?_]
 have m7:0<=c / 4 % 7/\c / 4 % 7<7:=#[Z9 _<|∅,Z3 _<|∅];have A:∀L∈([]:List By),∀l∈L,UG l=true:=λL s=>(nomatch s);let:=#[(∅:(0:Int)<4),rfl,_,rfl,UI (λR=>?b)<|λR=>#[UC 0,λX G=>#[.list<|Ls.map US,.list [],#[a,xs,rfl,za.of<|zD G _ _ ha,zy.same (zD G) _ _ U],#[X,[],rfl,za.of zB,rfl],y8 lb,y8 A,_,rfl,UI (λD=>?c)<|λD=>?d]]]
 case' b =>
  have Z:=zz.refl H;have hz:c % 4=0\/Ls=[]:=.inl<|V.int.inj<|ZA R
 case' c =>
  have Z:=zD (o:=.lst []) G;have hz:c % 4=0\/Ls=[]:=.inr (by rw[Ic]at D;let:=ZA D);generalize upd H X (.lst [])=H1 at Z ⊢
 case b|c =>
  let:=#[UC 4,λl1 n1=>?_];let#[u1,S]:=TL n1;have s2:=Z.trans u1;have g:UM c Ls=(Eu (c / 4 % 7).toNat).map (λ(k:Nat)=>(Ka[((c / 4+(0+(k:Int))*(c / 28 % 4)) % 4).toNat]?).getD ""):=by
   unfold UM;rw[ZJ hz]
  let:=zT #[#[∅,∅],(∅:(0:Int)<7),_,rfl,⋯,⋯,uB (λi J M r=>∃o e,M=[o,some<|.ref l1,some<|.int c]/\r=_/\J=e.map V.str/\e.length=i/\e=(Eu i).map (λ(k:Nat)=>(Ka[((c / 4+(0+(k:Int))*(c / 28 % 4)) % 4).toNat]?).getD "")/\∀l∈e,UG l=true) #[none,[],rfl,rfl,rfl,rfl,rfl,λl hl=>(nomatch hl)] (zu<|⋯) ?_ ?_ ?_]
  .rintro i J M r hi ⟨o,e,rfl,rfl,rfl,ll,_,_⟩;rw[Zj,ll];let:=Zn _
  .rintro i J M r hi ⟨o,e,rfl,rfl,rfl,ll,lz,lo⟩;have b0:0<=(c / 4+(0+(i:Int))*(c / 28 % 4)) % 4:=Z9 _ ∅;have b1:(c / 4+(0+(i:Int))*(c / 28 % 4)) % 4<4:=Z3 _ ∅;let#[y,hy,ey]:=kP (xs:=Ka) b0 b1;have yb:UG y=true:=by
    rcases Zx.mp (Zy hy) with z|z
    .rw[z];lk
    rcases Zx.mp z with z|z
    .rw[z];lk
    rcases Zx.mp z with z|z
    .rw[z];lk
    rw[Zk.mp z];lk
   let:=#[#[∅,∅],#[∅,∅],(∅:(0:Int)<4),.inr #[by have:(0:Int)<=c / 28 % 4:=Z9 _ ∅;lia,by have:c / 28 % 4<4:=Z3 _ ∅;lia],(∅:(0:Int)<4),l1,_,_,_,rfl,rfl,za.of S,ey,_,e++[y],rfl,rfl,by rw[Zu];rfl,by rw[Zq,ll];rfl,by rw[JE,Zu,<-lz,ZR,VM,hy];rfl,IV lo yb]
  .rintro J M r ⟨o,e,rfl,rfl,rfl,ll,lz,lo⟩ p np;have up:=zD (o:=.lst<|e.map V.str) np;let:=#[p,_,rfl,.inl #[za.of zB,λp2 n2=>#[UC 2,λY n3=>?_]]];have u2:=zD (o:=.tup<|e.map V.str) n2;have B:=zD (o:=.tup [V.str "leaf",V.ref p2]) n3;let:=k _ _ (((s2.trans up).trans u2).trans B) ?_ (by rwa[g,<-lz]) (by rw[g,<-lz,ll];lia);rw[g,<-lz];let:=#[Y,_,rfl,yh.of zB,_,_,rfl,rfl,_,_,rfl,#[p2,_,rfl,yh.of<|B _ _ zB,zy.strs e],rfl]
 case d =>
  have I:=zD (o:=.lst []) G;have ne:=λz=>D (by rw[Ic,Zm z]);have lp:=YS.mpr ne;have n1:¬(c % 4=0\/Ls=[]):=λz=>z.elim (λq=>R<|Zm<|congrArg V.int q) ne;have a0:0<=c / 4 % (Ls.length:Int):=Z9 _ ⋯;have a1:c / 4 % (Ls.length:Int)<(Ls.length:Int):=Z3 _ ⋯;let#[L,s]:∃L,Ls[(c / 4 % (Ls.length:Int)).toNat]?=some L:=#[_,Zv<|⋯];have g:UM c Ls=Xn (c / 5) L:=by
   unfold UM;rw[ZI n1,s];rfl
  have O:=Zy s;let#[v,hv]:∃v,xs[(c / 4 % (xs.length:Int)).toNat]?=some v:=#[_,Zv (by rw[C];lia)];have ev:CJ xs (c / 4 % (xs.length:Int))=some v:=by
   unfold CJ;rw[O3 (by rwa[C])<|by rwa[C]];let:=hv
  let#[dd,u,dv]:=(zy.same I _ _ U).get hv;rw[Zz,C,s]at u;cases u;let#[t,b,rfl,ht,hb]:=xU dv;have j:=I _ _ ha;generalize upd H X (.lst [])=H1 at I j ht hb ⊢;let:=#[#[∅,∅],a,_,rfl,.inl<|za.of j,(show(0:Int)<(xs.length:Int) by lia),a,_,_,_,rfl,rfl,za.of j,ev,t,_,_,_,rfl,rfl,ht,rfl,#[∅,∅],_,c / 5,L,rfl,#[b,_,rfl,hb,zy.strs L],lb L O,by have:=ll L O;lia,λp r s2 hp ab ai=>#[UC 2,λY n3=>?_]];have B:=zD (o:=.tup [V.str "leaf",V.ref p]) n3;let:=k _ _ ((I.trans s2).trans B) ?_ (by rwa[g]) (by rw[g];have:=ll L O;lia);rw[g];let:=#[Y,_,rfl,yh.of zB,_,_,rfl,rfl,_,_,rfl,#[p,_,rfl,yh.of<|B _ _ hp,zy.strs _],rfl]
end Cb
def TH:Th->By
 | .leaf _=>[]
 | .tree Dm=>Dm.map (·.2)
 | .note t _ _=>[t]
inductive qe (P:Ea)(w:Ef)(K:Co)(C:D8)(vs:Di)(H:Hp)(Q:VK)(e3:XK):Prop
 |mk (a rl:D8) (fp:Dc) (S:Dh) (rs:By) (h0:vs=[.ref a,.ref rl]) (h1:xr P w K C H a fp S) (h2:wK S) (h3:Cl S) (h4:za K H rl<|rs.map V.str) (h5:rs.length<=1000) (h6:(∀r∈rs,r∈S.map En.nm)) (h7:∀l H',zz H H'->H l=none->(∃F:By,(∀x,x∈F↔pP (CK S) rs x)/\H' l=some (.lst<|((S.map En.nm).filter λx=>decide (x∈F)).map V.str))->Q (.ref l) H'):qe P w K C vs H Q e3
inductive CwI (K:Co)(H:Hp)(a rl fo l:D8)(o3:Option V)(S:Dh)(rs:By)(i:Nat)(σ:St)(H3:Hp):Prop
 |mk (o4 o5 o6 o7:Option V) (kv:Dk) (F:By) (h0:σ=[some<|.ref a,some<|.ref rl,some<|.ref fo,o3,o4,o5,o6,o7]) (h1:Off [fo] H H3) (h2:H3 l=some (.lst<|(S.map En.nm).map V.str)) (h3:H3 fo=some (.dK kv)) (h4:AnS.yj K H3 kv F<|λ_=>.bool true) (h5:Bk S rs F<|S.length-i):CwI K H a rl fo l o3 S rs i σ H3
namespace Cc
abbrev st:Stmt:=top 72
theorem sc:zx ["_law_store","_law_roots","_law_found","_law_root","_law_name","_law_thing","_law_within","_law_other"] ["_law_store","_law_roots"] (zI st):=CC
include T in
theorem ok (F:xj0 K "_law_closed" st f fd)(Qc:Met P w K mg base aC 1 "names" ["self"]<|tM P w K aC)(Qb:Met P w K mg base aC 4 "thing" ["self","name"]<|vy P w K aC):zc P w K mg base CA 5 f fd ["_law_store","_law_roots"] (qe P w K aC):=by
 let:=F.ok sc λ_ _ _ _ H vs Q E O h=>?_;let#[a,rl,fp,S,rs,rfl,sh,ok,cl,be,cg,bf,k]:=h;let:=#[_,(zE (Cu (i:=2) sc.nd xM)<|zE (yM Ep rfl (yR<|pv 1) (zR (i:=3) sc.nd rfl<|Ew rfl)<|zF<|xR O.wH (pv 2) (pv 3) xT rfl)<|zE (yM Ep rfl (Nk rfl T.reversed<|zA (y9 (pv 0) T.cls Qc O.m) zC) (zR (i:=4) sc.nd rfl<|Ew rfl)<|zE (Cu (i:=5) sc.nd<|yK (pv 0) T.cls Qb O.m<|zA (pv 4) zC)<|xN (Cu (i:=6) sc.nd<|jB (zO yX (zV (zj:Cy _<|yr K) (pv 5) zG) zr<|zS _) (yA zC)<|jB (zO yX (zV (zj:Cy _<|yr K) (pv 5) zG) zr<|zS _) (yS (sc:=zI st) (N:=["_law_store","_law_roots","_law_found","_law_root","_law_name","_law_thing","_law_within","_law_other"]) (N':=["_law_row"]) (src:=[none]) .a rfl rfl rfl (jV<|zV (zj:Cy _<|yr K) (pv 5) zG) (λ_ _ _ _=>(zR (i:=0) (show(["_law_row"]:By).Nodup by lk) rfl (Ew rfl))) (λ_ _ _ _=>x5) (λ_ _ _ _=>(zV (zj:Cy _<|yr K) (pv 0) zG))) (yA<|zA (zV (zj:Cy _<|yr K) (pv 5) zG) zC)) (xN (yG (zO yX (zV (zj:Cy _<|yr K) (pv 5) zG) zr<|zS _) (zF<|Cu (i:=6) sc.nd<|zP j6 (pv 6)<|zW yI (by rfl) T.list Yd<|zA (zV (zj:Cy _<|yr K) (pv 5) zG) zC) zU)<|zF<|yM Ep rfl (yR<|pv 6) (zR (i:=7) sc.nd rfl<|Ew rfl)<|zF<|yG (zO (Gi O.units) (pv 4) (pv 2)<|by with_unfolding_all rfl) (zF<|xR O.wH (pv 2) (pv 7) xT rfl) zU)) (zF<|zQ<|yS (sc:=zI st) (N:=["_law_store","_law_roots","_law_found","_law_root","_law_name","_law_thing","_law_within","_law_other"]) (N':=["_law_name","_law_found"]) (src:=[none,some 2]) .a rfl rfl rfl (yR<|y9 (pv 0) T.cls Qc O.m) (λ_ _ _ _=>(zR (i:=0) (show(["_law_name","_law_found"]:By).Nodup by lk) rfl (Ew rfl))) (λ_ _ _ _=>(II<|zO (Gi O.units) (pv 0) (pv 1)<|by with_unfolding_all rfl)) (λ_ _ _ _=>(pv 0)))),?_]
 have gn:=sh.good.nn;have gl:=sh.good.len;let:=λA bm=>?_;have u0:=zD (o:=.dK []) bm;have a8:∀{F:By} {y:Str},AnS.sY F y=F\/AnS.sY F y=F++[y]:=λ{F y}=>by
  unfold AnS.sY
  split
  .let:=.inl rfl
  .let:=.inr rfl
 have sm:∀{g:Hp},Off [A] H g->zz H g:=λ{g} o b x e=>o b x (λz=>by rw[Zk.mp z,bm]at e;cases e) e;let:=zT #[rl,rfl,#[_,u0.seq be],xQ (xs:=rs.map V.str) (λi n g=>∃o3 Z F,n=[some<|.ref a,some<|.ref rl,some<|.ref A,o3,none,none,none,none]/\Off [A] H g/\g A=some (.dK Z)/\AnS.yj K g Z F (λ_=>.bool true)/\(∀x,x∈F↔x∈rs.take i)/\F.length<=i) #[none,[],[],rfl,Off.of u0,zB,AnS.yj.nil,λx=>Iff.rfl,Zn _] (λi n g _ ⟨_,_,_,_,o',_⟩=>?_) ?_ ?_]
 .let:=(sm o').seq be
 .rintro i v n g D B Y hD hB ⟨o3,Z,G,rfl,ab,al,u,hF,fl⟩;rw[Zz]at Y;let#[r,O,rfl]:=ZO.mp Y;have il:=(ZC.mp O).1;have kl:=u.len;let:=hB (zT #[A,_,rfl,tW.k (k:=.inr r) al<|yJ<|⋯,?_]);have p1:=(u.put r (d:=.bool true) rfl).iI (g':=λ_=>.bool true) λp _=>by show(if p=r then PyData.bool true else .bool true)=_;rw[ite_self]
  let:=hD.nx _ _ #[_,_,AnS.sY G r,rfl,ab.upd<|Zk.mpr rfl,zB,#[p1.keys,p1.nd,p1.val],λx=>?_,?_]
  .rw[AnS.vo,hF,yc O,ZD,Zk]
  .rcases a8 with e|e
   .rw[e];lia
   .rw[e,Zq];show _+1<=_;lia
 .let:=λn g z=>hid λB hB=>?_;let#[o3,Z,G,rfl,ab,al,u,hF,fl]:=z;rw[Zj]at hF fl;have s1:=sm ab;let#[ix,i1,i2,i3,L]:=qQ<|sh.same s1;have em:(S.map λe=>V.str e.nm)=(S.map En.nm).map V.str:=by rw[ZK];rfl
  let:=hB #[a,ix,_,rfl,L,rfl,a,fp,S,rfl,sh.same s1,λl nl=>?_];rw[em];have ul:=zD (o:=.lst<|(S.map En.nm).map V.str) nl;have hl:=zB (H:=g) (a:=l) (o:=.lst<|(S.map En.nm).map V.str);have a7:=ab.trans<|Off.of ul;have a4:=ul _ _ al;have a3:AnS.yj K (upd g l<|.lst<|(S.map En.nm).map V.str) Z G (λ_=>.bool true):=#[u.keys,u.nd,u.val];generalize upd g l (.lst<|(S.map En.nm).map V.str)=H2 at ul hl a7 a4 a3 ⊢;have b0:Bk S rs G S.length:=#[λx hx=>.root (by rw[hF]at hx;let:=Yf hx),λr O=>by rw[hF,ZS];let:=O,λk e hk he=>by rw[Z6 hk]at he;cases he];let:=#[l,_,rfl,za.of hl,F9 (CwI K H a rl A l o3 S rs) #[none,none,none,none,Z,G,rfl,a7,hl,a4,a3,b0] (λi n H3 _ z=>by let#[_,_,_,_,_,_,_,_,h3,_,_,_]:=z;let:=za.of h3) ?_ ?_]
  .clear b0 hF fl ab al u s1 a7 a4 a3 hl ul L;rintro i v n H3 D B hi Y hD hB ⟨o4,o5,o6,o7,Z,G,rfl,a0,an,U,I,bk⟩;rw[Zj,Zj]at hi Y;rw[Zz,Zz]at Y;let#[x,hx,rfl]:=ZO.mp Y;let#[e,he,rfl]:=ZO.mp hx;have em:=Zy he;have s3:=sm a0;have bx:=sh.same s3;let#[th,ed,tg,_]:=ok.th e em;have fS:=λy hy=>Ii (λe he _ hn=>cl.mem he hn) gn bf<|bk.lQ y hy;let#[ix,i1,i2,i3,L]:=qQ bx;let:=hB<|zT #[a,ix,_,rfl,L,rfl,a,fp,S,.str e.nm,.str e.nm,rfl,bx,rfl,Zm<|Zo.mpr #[e,em,rfl],λe2 b4 b2 C ht=>?_];have:e=e2:=Il sh.good em b4 (by injection b2);subst this;rw[ed]at ht;have wl:=vB tg;have wS:∀y∈namesW th,y∈S.map En.nm:=λy hy=>cl.mem em (by rwa[ed,CZ]);let:=#[λai g=>∃M,ai=[some<|.ref a,some<|.ref rl,some<|.ref A,o3,some<|.str e.nm,some<|.ref C,some<|.ref M,o7]/\zz H3 g/\g M=some (.lst<|(TH th).map V.str),?_,?_]
   .cases th with
    |leaf ls =>
     let#[c,b,R,t,h2]:=xU ht;cases R;let:=#[C,_,_,_,rfl,rfl,t,rfl,rfl,true,?_,UJ #[UC 0,λM n6=>#[M,rfl,zD n6,zB]]];rw[Zm rfl]
    |tree Dm =>
     let#[c,b,R,t,h2]:=kU ht;cases R;let#[b',cd,eb,hb,a2]:=h2;cases eb;have bo:=a2.length;rw[Zj]at bo;have wl:(Dm.map (·.2)).length<=1000:=wl;rw[Zj]at wl;let:=#[C,_,_,_,rfl,rfl,t,rfl,rfl,false,?_,UB #[C,_,_,_,rfl,rfl,t,rfl,rfl,true,?_,UJ ?_]]
     .show V.bl (decide (V.str "tree"=V.str "leaf"))=V.bl false;rw[ZE (by intro z;let:=absurd (V.str.inj z)<|by lk)]
     .show V.bl (decide (V.str "tree"=V.str "tree"))=V.bl true;rw[Zm rfl]
     let:=#[C,_,_,_,rfl,rfl,t,rfl,b,rfl,#[_,hb],qR (xs:=cd) (λj ys n H5=>∃o,n=[o]/\H5=H3/\ys=((Dm.take j).map (·.2)).map V.str) #[none,rfl,rfl,rfl] (zu<|⋯) ?_ ?_ ?_]
     .rintro j ys n H5 hj ⟨o,rfl,rfl,rfl⟩;let:=#[hb,?_];rw[Zj,Zj,ZL];lia
     .rintro j v ys n H5 Y ⟨o,rfl,rfl,rfl⟩;let#[r,c',b5,rfl,b3]:=Rg a2 Y;let:=#[c',_,_,_,rfl,rfl,b3,rfl,_,rfl,rfl,?_];rw[yc b5,Zu,Zu];rfl
     .rintro ys n H5 ⟨o,rfl,rfl,rfl⟩ p np;rw[bo,ZS];let:=#[p,rfl,zD np,zB]
    |note x ps y =>
     let#[c,b,R,t,h2]:=uA ht;cases R;let:=#[C,_,_,_,rfl,rfl,t,rfl,rfl,false,?_,UB #[C,_,_,_,rfl,rfl,t,rfl,rfl,false,?_,UB ?_]]
     .show V.bl (decide (V.str "note"=V.str "leaf"))=V.bl false;rw[ZE (by intro z;let:=absurd (V.str.inj z)<|by lk)]
     .show V.bl (decide (V.str "note"=V.str "tree"))=V.bl false;rw[ZE (by intro z;let:=absurd (V.str.inj z)<|by lk)]
     let:=#[C,_,_,_,rfl,rfl,t,rfl,UC 1,λM n6=>#[M,rfl,zD n6,zB]]
   rintro ai H4 ⟨M,rfl,s4,a5⟩;let:=#[λai g=>∃M,ai=[some<|.ref a,some<|.ref rl,some<|.ref A,o3,some<|.str e.nm,some<|.ref C,some<|.ref M,o7]/\zz H4 g/\g M=some (.lst<|(namesW th).map V.str),?_,?_]
   .have a6:=Dt.same s4 _ _ ht;cases th with
    |leaf ls =>
     let#[c,b,R,t,h2]:=xU a6;cases R;let:=#[C,_,_,_,rfl,rfl,t,rfl,rfl,false,?_,UB #[M,rfl,zz.refl _,a5]];rw[ZE (by intro z;let:=absurd (V.str.inj z)<|by lk)]
    |tree Dm =>
     let#[c,b,R,t,h2]:=kU a6;cases R;let:=#[C,_,_,_,rfl,rfl,t,rfl,rfl,false,?_,UB #[M,rfl,zz.refl _,a5]];rw[ZE (by intro z;let:=absurd (V.str.inj z)<|by lk)]
    |note x ps y =>
     let#[c,b,R,t,h2]:=uA a6;cases R;have wl:ps.length+1<=1000:=wl;let:=#[C,_,_,_,rfl,rfl,t,rfl,rfl,true,?_,UJ ?_]
     .show V.bl (decide (V.str "note"=V.str "note"))=V.bl true;rw[Zm rfl]
     let:=#[C,_,_,_,rfl,rfl,t,rfl,b,_,rfl,.inr h2,λl2 ca=>?_];have u2:=zD (o:=.lst<|ps.map V.str) ca;let:=#[M,l2,_,_,rfl,rfl,u2 _ _ a5,zB,zu (by rw[Zj,Zj];show 1+ps.length<=_;lia),λl3 cb=>?_];let:=#[l3,rfl,u2.trans<|zD cb,zB]
   rintro ai H5 ⟨l7,rfl,s5,as⟩;have a1:=s4.trans s5;have cc:=a0.trans<|Off.of a1;let:=#[l7,rfl,#[_,za.of as],xQ (xs:=(namesW th).map V.str) (λj n g=>∃o7 Z F,n=[some<|.ref a,some<|.ref rl,some<|.ref A,o3,some<|.str e.nm,some<|.ref C,some<|.ref l7,o7]/\Off [A] H5 g/\g A=some (.dK Z)/\AnS.yj K g Z F (λ_=>.bool true)/\F=((namesW th).take j).foldl (jD e.nm) G) #[o7,Z,G,rfl,Off.refl _ _,a1 _ _ U,#[I.keys,I.nd,I.val],rfl] (λj n g _ ⟨_,_,_,_,o',_⟩=>?_) ?_ ?_]
   .let:=za.of (o' _ _ (λz=>by rw[Zk.mp z,a1 _ _ U]at as;cases as) as)
   .rintro j v n g E J Y hE hJ ⟨o7,bh,F2,rfl,aa,X,s,rfl⟩;rw[Zz]at Y;let#[y,hy,rfl]:=ZO.mp Y;have ef:((namesW th).take<|j+1).foldl (jD e.nm) G=jD e.nm (((namesW th).take j).foldl (jD e.nm) G) y:=by rw[yc hy,Yl];rfl
    have fm:∀z∈((namesW th).take j).foldl (jD e.nm) G,z∈S.map En.nm:=λz hz=>by
     rcases(Xo _ _ _ _).mp hz with q|⟨_,q⟩
     .let:=fS z q
     .let:=wS z (Yf q)
    rw[ef]at hE;generalize ((namesW th).take j).foldl (jD e.nm) G=F2 at s fm hE;have kl:=s.len;have ce:F2.length<=S.length:=by
     have:=AnS.len_sub s.nd gn fm;rw[Zj]at this;let:=this
    unfold jD at hE;let:=hJ<|zT #[A,_,rfl,wu.k (k:=.inr e.nm) X,_,rfl,UI (λc=>?_)<|λc=>?_]
    .rw[s.isSome]at c;rw[ZJ<|ZA c]at hE;let:=#[A,_,rfl,tW.k (k:=.inr y) X<|yJ<|⋯,?_];have p1:=(s.put y (d:=.bool true) rfl).iI (g':=λ_=>.bool true) λp _=>by show(if p=y then PyData.bool true else .bool true)=_;rw[ite_self]
     let:=hE.nx _ _ #[_,_,_,rfl,aa.upd<|Zk.mpr rfl,zB,#[p1.keys,p1.nd,p1.val],rfl]
    .rw[s.isSome]at c;rw[ZI<|λz=>c<|Zm z]at hE;let:=hE.nx _ _ #[_,_,_,rfl,aa,X,s,rfl]
   .rintro n g ⟨o7,bh,F2,rfl,aa,X,s,rfl⟩;have b1:Bk S rs G (S.length-1-i+1):=by
     have:S.length-1-i+1=S.length-i:=⋯
     rwa[this]
    have bs:=b1.step gn cl he;rw[ed,CZ]at bs;rw[Zj,ZS]at s;let:=hD.nx _ _ #[_,_,_,_,bh,_,rfl,cc.trans aa,aa _ _ (λz=>by rw[Zk.mp z,U]at an;cases an)<|a1 _ _ an,X,s,?_];have:S.length-(i+1)=S.length-1-i:=⋯
    rwa[this]
  .let:=λn H3 z=>hid λB hB=>?_;let#[o4,o5,o6,o7,cf,F3,rfl,a0,an,U,I,bk]:=z;rw[Zj,Zj,Vh]at bk;have s3:=sm a0;let#[ix,i1,i2,i3,L]:=qQ<|sh.same s3;let:=hB #[a,ix,_,rfl,L,rfl,a,fp,S,rfl,sh.same s3,λl9 n9=>#[l9,rfl,#[_,za.of zB],?_]];rw[em];have u9:=zD (o:=.lst<|(S.map En.nm).map V.str) n9;have bd:za K (upd H3 l9<|.lst<|(S.map En.nm).map V.str) l9 ((S.map En.nm).map V.str):=za.of zB;have a9:=u9 _ _ U;generalize upd H3 l9 (.lst<|(S.map En.nm).map V.str)=H9 at u9 bd a9 ⊢;let:=j3 (xs:=(S.map En.nm).map V.str) (λi ys n H2=>∃o,n=[o,some<|.ref A]/\zz H9 H2/\ys.length<=i/\ys=(((S.map En.nm).take i).filter λx=>decide (x∈F3)).map V.str) #[none,rfl,zz.refl _,Zn _,rfl] (zu (by rw[Zj,Zj];lia)) ?_ ?_ ?_
   .rintro i ys n H2 hi ⟨o,rfl,e2,yl,_⟩;let:=#[e2.seq bd,yl]
   .rintro i y ys n H2 hy ⟨o,rfl,e2,yl,rfl⟩;rw[Zz]at hy;let#[x,hx,ex]:=ZO.mp hy;subst ex;have tk:((S.map En.nm).take<|i+1).filter (λx=>decide (x∈F3))=((S.map En.nm).take i).filter (λx=>decide (x∈F3))++(if x∈F3 then[x] else[]):=by
     rw[YK,hx,YX];show _++[x].filter _=_;rw[Jt]
     by_cases z:x∈F3
     .rw[ZJ<|Zm z,ZJ z];rfl
     .rw[ZI<|λq=>z<|ZA q,ZI z];rfl
    let:=#[A,_,rfl,wu.k (k:=.inr x)<|e2 _ _ a9,_,rfl,UI (λc=>#[_,rfl,e2,?_,?_])<|λc=>#[_,rfl,e2,JA yl,?_]]
    .rw[Zq];let:=Jd yl
    .rw[I.isSome]at c;rw[tk,ZJ<|ZA c,Zu];rfl
    .rw[I.isSome]at c;rw[tk,ZI<|λz=>c<|Zm z,ZW]
   .rintro ys n H2 ⟨o,rfl,e2,yl,rfl⟩ r nr;rw[Zj,ZS];have s9:=(s3.trans u9).trans e2;let:=k r _ (s9.trans<|zD nr) (s9.free nr) #[F3,bk.all gn cl bf,zB]
end Cc
def UV (x:Str):Nat:=((cs x).head?).getD 0
structure Zs where
 S:Dh
 ns:By
 Ls:List By
def wJ:List By:=[["a"],["b","c"],["b","d"],["ab","a","a"]]
def UP (c:Int)(Ls:List By)(k:Nat):Fi:=((wJ[((c / 28+(0+(k:Int))) % 4).toNat]?).getD [],(Ls[((c / 11+(0+(k:Int))) % (Ls.length:Int)).toNat]?).getD [])
def qP (c:Int)(Ls:List By):Dj:=(Eu (c / 7 % 4).toNat).foldl (λfs k=>UL fs<|UP c Ls k) []
def yF (ns:By):By:=ns.filter λx=>decide (UV x=84)
def yN (ns:By):By:=ns.filter λx=>decide (UV x=78)
def U4 (c:Int)(b:By):By:=if b≠[]/\c / 14 % 3>0 then[(b[(c / 7 % (b.length:Int)).toNat]?).getD ""] else[]
def U3 (c:Int)(ns:By):Th:=.note (((yF ns)[(c / 11 % ((yF ns).length:Int)).toNat]?).getD "") (U4 c<|yN ns) "w"
noncomputable def Cz (z:Zs)(c:Int):Zs :=
 if c % 7>4/\z.Ls≠[] then#[(UD 4 z.S<|qP c z.Ls).1,z.ns++[(UD 4 z.S<|qP c z.Ls).2],z.Ls]
 else if c % 7=4/\yF z.ns≠[] then#[(Cr z.S<|U3 c z.ns).1,z.ns++[(Cr z.S<|U3 c z.ns).2],z.Ls]
 else#[(Cr z.S<|.leaf<|UM (c / 7) z.Ls).1,z.ns++[(Cr z.S<|.leaf<|UM (c / 7) z.Ls).2],z.Ls++[UM (c / 7) z.Ls]]
noncomputable def CO (S:Dh)(cs:List Int):Zs:=cs.foldl Cz #[S,[],[]]
def N5 (L:By):Prop:=∀l∈L,l.length≠5
def Ns (S:Dh):Prop:=∀e∈S,∀b,e.d=(Th.leaf b).dat->N5 b
theorem TC (c:Int):(Nb c).length≠5:=by
 rw[yx,FW];unfold TD sizeZ;rw[Zj,YL]
 split<;>lia
theorem SN {n:Nat}(h:N5 ls):((ls[n]?).getD "").length≠5:=by
 cases e:ls[n]? with
 |none=>lk
 |some x=>let:=h x<|Zy e
theorem TK (h:N5 L):N5 (Xn c L):=by
 unfold Xn;generalize (c % 3).toNat=n
 induction n with
 |zero=>let:=h
 |succ n ih =>
  rw[JE,Yl];show N5 (xZ c _ n);generalize (Eu n).foldl (xZ c) L=R at ih;intro l hl;unfold xZ at hl
  split at hl
  .rcases ZD.mp hl with z|z
   .rcases ZD.mp z with z|z
    .let:=ih l (Yf z)
    .rw[Zk.mp z];let:=SN λy b=>?_;simp only[Zx,Yg,Jo]at b
     rcases b with rfl|rfl|rfl|rfl|rfl|rfl
     .lk
     .lk
     .lk
     .lk
     .lk
     .let:=TC _
   .let:=ih l (YD z)
  .rcases ZD.mp hl with z|z
   .let:=ih l (Yf z)
   .let:=ih l (YD z)
theorem Tz {Ls:List By}(h:∀L∈Ls,N5 L):N5 (UM c Ls):=by
 unfold UM
 split
 .intro l hl;let#[k,_,rfl]:=Zo.mp hl;let:=SN λy b=>by
   have:∀y∈Ka,y.length≠5:=by lk
   let:=this y b
 .let:=TK ?_;cases e:Ls[(c / 4 % (Ls.length:Int)).toNat]? with
  |none=>let:=λl hl=>(nomatch hl)
  |some L=>let:=h L<|Zy e
structure jw (z:Zs)(S0:Dh)(i:Nat):Prop where
 ok:wK z.S
 cl:Cl z.S
 ext:∃T,z.S=S0++T
 len:z.S.length<=S0.length+13*i
 nm:∀x∈z.ns,x∈z.S.map En.nm
 nl:z.ns.length<=i
 ln:∀L∈z.Ls,∀l∈L,UG l=true
 ll:∀L∈z.Ls,L.length<=6+2*i
 lz:z.Ls.length<=i
 lf:∀L∈z.Ls,∃x,At z.S x<|.leaf L
 lc:LC S0->LC z.S
 lo:Lf S0->Lf z.S
 l5:∀L∈z.Ls,N5 L
 n5:Ns S0->Ns z.S
 ct:UF z.S<=UF S0+i
def bi:Th->Nat
 | .leaf _=>76
 | .tree _=>84
 | .note _ _ _=>78
theorem BI (g:wK S){e:En}(b:e∈S){t:Th}(hd:e.d=t.dat):UV e.nm=bi t:=by
 let#[c,f,_,th]:=g.th e b;have:=vI<|f.symm.trans hd;subst this;unfold UV En.nm;rw[th];unfold UN;rw[zf,zf,zf,jL];cases c<;>rfl
theorem Ha (g:wK S){x:Str}(d:x∈S.map En.nm):(UV x=84->∃Dm,At S x<|.tree Dm)/\(UV x=78->∃t ps y,At S x<|.note t ps y):=by
 let#[e,b,rfl]:=Zo.mp d;let#[t,c,_,th]:=g.th e b;have:=BI g b c;rw[this];cases t with
 |leaf L=>let:=#[λz=>absurd (show(76:Nat)=84 from z) ∅,λz=>absurd (show(76:Nat)=78 from z) ∅]
 |tree Dm=>let:=#[λ_=>#[Dm,e,b,rfl,c],λz=>absurd (show(84:Nat)=78 from z) ∅]
 |note t ps y=>let:=#[λz=>absurd (show(78:Nat)=84 from z) ∅,λ_=>#[t,ps,y,e,b,rfl,c]]
inductive pW (P:Ea)(w:Ef)(K:Co)(C:D8)(vs:Di)(H:Hp)(Q:VK)(e3:XK):Prop
 |mk (a cl:D8) (fp:Dc) (S:Dh) (cs:List Int) (h0:vs=[.ref a,.ref cl]) (h1:xr P w K C H a fp S) (h2:wK S) (h3:Cl S) (h4:za K H cl<|cs.map V.int) (h5:cs.length<=24) (h6:S.length<=500) (h7:∀l H',Off fp H H'->xr P w K C H' a fp (CO S cs).S->jw (CO S cs) S cs.length->Q (.ref l) H'):pW P w K C vs H Q e3
theorem Gv:(wJ.all λa=>wJ.all λb=>!IA (Cv a) (Cv b))=true:=by lk
theorem Br:(wJ.all λa=>decide (a≠[])&&decide (a.length<=4)&&a.all yB)=true:=by lk
theorem Sc (c:Int)(k:Nat):(wJ[((c / 28+(0+(k:Int))) % 4).toNat]?).getD []∈wJ:=by
 have b:0<=(c / 28+(0+(k:Int))) % 4:=Z9 _ ∅;have d:(c / 28+(0+(k:Int))) % 4<4:=Z3 _ ∅;have:((c / 28+(0+(k:Int))) % 4).toNat<wJ.length:=by show _<4;lia
 rw[Zv this];let:=Ys this
theorem Bu {g:Fi}(h:g∈UL fs f):g∈fs\/g=f:=by
 unfold UL at h
 split at h
 .let#[k,b,e]:=Zo.mp h
  split at e
  .let:=.inr e.symm
  .let:=.inl (by rwa[<-e])
 .rcases ZD.mp h with z|z
  .let:=.inl z
  .let:=.inr (Zk.mp z)
theorem N8 (fs:Dj)(f:Fi):(UL fs f).length<=fs.length+1:=by
 unfold UL
 split
 .rw[Zj];lia
 .rw[Zq];let:=Zn _
theorem vR {Ls:List By}{n:Nat}(ne:Ls≠[])(ln:∀L∈Ls,∀l∈L,UG l=true)(ll:∀L∈Ls,L.length<=n)(d:n<=63):∀t:Nat,xq 4 ((Eu t).foldl (λfs k=>UL fs<|UP c Ls k) [])/\((Eu t).foldl (λfs k=>UL fs<|UP c Ls k) []).length<=t/\∀f∈(Eu t).foldl (λfs k=>UL fs<|UP c Ls k) [],f.1∈wJ
 | 0=>#[#[λf b=>(nomatch b),YO,λf b=>(nomatch b)],Zn _,λf b=>(nomatch b)]
 |t+1=>by
  let#[g,l,m]:=vR ne ln ll d t (c:=c);rw[JE,Yl];show xq 4 (UL _<|UP c Ls t)/\(UL _<|UP c Ls t).length<=t+1/\∀f∈UL _ (UP c Ls t),_;generalize (Eu t).foldl (λfs k=>UL fs<|UP c Ls k) []=fs at g l m ⊢;have e:(UP c Ls t).1∈wJ:=Sc c t;have pl:=ZQ.mp Br _ e;rw[ZB,ZB,ZY,ZY,ZQ]at pl;have s:0<Ls.length:=YS.mpr ne;have q:0<=(c / 11+(0+(t:Int))) % (Ls.length:Int):=Z9 _ ⋯;have r:(c / 11+(0+(t:Int))) % (Ls.length:Int)<(Ls.length:Int):=Z3 _ ⋯;have o:(UP c Ls t).2∈Ls:=by
   show(Ls[_]?).getD []∈Ls;rw[Zv<|show((c / 11+(0+(t:Int))) % (Ls.length:Int)).toNat<Ls.length by lia];let:=Ys _
  have p:UR (UP c Ls t).2:=#[Z2 (ll _ o) d,ln _ o];let:=#[g.put pl.1.1 pl.1.2 pl.2 p λk j=>?_,Z2 (N8 _ _)<|⋯,λf b=>?_]
  .have h:=ZQ.mp (ZQ.mp Gv _<|m k j) _ e;have i:=ZQ.mp (ZQ.mp Gv _ e) _<|m k j;rw[YU]at h i;let:=#[h,i]
  .rcases Bu b with z|z
   .let:=m f z
   .rwa[z]
theorem GZ (h:At S n t):xJ S n [t.word]=true:=by
 let#[e,b,rfl,hd]:=h;unfold xJ;rw[YB];let:=#[e,b,?_];rw[ZB,ZY,ZY,Ip hd];let:=#[rfl,Zk.mpr rfl]
theorem XY {Ls:List By}(ne:Ls≠[]):∀t:Nat,∀f∈(Eu t).foldl (λfs k=>UL fs<|UP c Ls k) [],f.2∈Ls
 | 0=>λf b=>(nomatch b)
 |t+1=>λf b=>by
  rw[JE,Yl]at b;have b:f∈UL _ (UP c Ls t):=b
  rcases Bu b with z|z
  .let:=XY ne t f z
  .rw[z];have g:0<Ls.length:=YS.mpr ne;have d:0<=(c / 11+(0+(t:Int))) % (Ls.length:Int):=Z9 _ ⋯;have e:(c / 11+(0+(t:Int))) % (Ls.length:Int)<(Ls.length:Int):=Z3 _ ⋯;show(Ls[_]?).getD []∈Ls;rw[Zv<|show((c / 11+(0+(t:Int))) % (Ls.length:Int)).toNat<Ls.length by lia];let:=Ys _
theorem Ft {t:Th}(h:Ns S)(k:∀ls,t=.leaf ls->N5 ls):Ns (Cr S t).1:=by
 unfold Cr
 split
 .let:=h
 .intro e c ls b
  rcases ZD.mp c with z|z
  .let:=h e z ls b
  .rw[Zk.mp z]at b;let:=k ls<|vI b
theorem BU {t:Th}(h:Lf S)(k:∀ls,t=.leaf ls->UR ls):Lf (Cr S t).1:=by
 unfold Cr
 split
 .let:=h
 .intro e b
  rcases ZD.mp b with z|z
  .let:=h e z
  .rw[Zk.mp z];let:=#[t,rfl,k]
section
variable {z:Zs}{S0:Dh}{i:Nat}{c:Int}
theorem jw.leaf (h:jw z S0 i)(w:i<24)(C:S0.length<=500)(l5:N5<|UM (c / 7) z.Ls)(r:∀l∈UM (c / 7) z.Ls,UG l=true)(ll:(UM (c / 7) z.Ls).length<=max 6 (6+2*i+2)):UR (UM (c / 7) z.Ls)/\jw #[(Cr z.S<|.leaf<|UM (c / 7) z.Ls).1,z.ns++[(Cr z.S<|.leaf<|UM (c / 7) z.Ls).2],z.Ls++[UM (c / 7) z.Ls]] S0 (i+1):=by
 generalize UM (c / 7) z.Ls=L at l5 r ll ⊢;have f:UR L:=#[⋯,r];have hl:=h.len;let#[o,g,B,T,p,_]:=j0 h.ok (qK f) ⋯;let#[t,m1,A]:=vN h.ok (qK f) ⋯ h.cl<|λn v=>(nomatch v);let#[s,u]:=h.ext;let:=#[f,o,t,#[s++T,by rw[p,u,Yk]],by show(Cr _ _).1.length<=_;lia,λx j=>?_,by rw[Zq];let:=Jd h.nl,λd b=>?_,λd b=>?_,by rw[Zq];let:=Jd h.lz,λd b=>?_,λq=>(Fs (h.lc q) _).1,λq=>BU (h.lo q) λy e=>by cases e;let:=f,λd b=>?_,λq=>Ft (h.n5 q) λy e=>by cases e;let:=l5,Z2 (Bj _ _)<|Jd h.ct]
 .rcases ZD.mp j with q|q
  .let:=A _ (h.nm x q)
  .rwa[Zk.mp q]
 .rcases ZD.mp b with q|q
  .let:=h.ln d q
  .rwa[Zk.mp q]
 .rcases ZD.mp b with q|q
  .have:=h.ll d q;lia
  .rw[Zk.mp q];lia
 .rcases ZD.mp b with q|q
  .let#[x,j]:=h.lf d q;let:=#[x,by show At (Cr z.S<|.leaf L).1 x _;rw[p];let:=j.more]
  .rw[Zk.mp q];let:=#[_,g]
 .rcases ZD.mp b with q|q
  .let:=h.l5 d q
  .rwa[Zk.mp q]
theorem jw.files (h:jw z S0 i)(D:i<24)(H:S0.length<=500)(ne:z.Ls≠[]):jw #[(UD 4 z.S<|qP c z.Ls).1,z.ns++[(UD 4 z.S<|qP c z.Ls).2],z.Ls] S0 (i+1):=by
 have G:c / 7 % 4<4:=Z3 _ ∅;let#[g,l,_]:=vR (c:=c) ne h.ln h.ll ⋯ (c / 7 % 4).toNat;have g:xq 4 (qP c z.Ls):=g;have o:=XY (c:=c) ne (c / 7 % 4).toNat;have o:∀f∈qP c z.Ls,f.2∈z.Ls:=o;have l:(qP c z.Ls).length<=3:=by have:(qP c z.Ls).length<=(c / 7 % 4).toNat:=l;lia
 generalize qP c z.Ls=fs at g l o ⊢;have hl:=h.len;have E:=g.wt;let#[pk,pl]:=Xr 3 (S:=z.S) h.ok g ⋯ ⋯;have A:=So 3 h.ok h.cl g ⋯ ⋯;let#[T,b,_]:=pk.new;have u:=Sq 3 h.ok g ⋯ ⋯<|λf C=>h.lf _<|o f C;have j:=pk.ok;have d:=pk.ok.good.nn;have p:∀e∈T,k7 e\/e∈z.S:=λe n=>(u e (by show e∈(UD 4 z.S fs).1;rw[b];let:=ZM _ n)).symm;rw[b]at j d;let#[y,B]:=h.ext;let:=#[pk.ok,A,#[y++T,by rw[b,B,Yk]],by show(UD 4 z.S fs).1.length<=_;have:(UD 4 z.S fs).1.length<=z.S.length+1+wt fs:=pl;lia,λx t=>?_,by rw[Zq];let:=Jd h.nl,h.ln,λL s=>by have:=h.ll L s;lia,JA h.lz,λL s=>?_,λq=>by show LC (UD 4 z.S fs).1;rw[b];let:=((h.lc q).trees j p d).1,λq=>by show Lf (UD 4 z.S fs).1;rw[b];let:=λe n=>(ZD.mp n).elim (h.lo q e) λz=>(p e z).elim (λ⟨v,r⟩=>#[.tree v,r,λ_ z=>nomatch z])<|h.lo q e,h.l5,λq=>by show Ns (UD 4 z.S fs).1;rw[b];let:=λe n=>(ZD.mp n).elim (h.n5 q e) λz=>(p e z).elim (λ⟨v,r⟩ F w=>by rw[r]at w;cases vI w)<|h.n5 q e,by show UF (UD 4 z.S fs).1<=_;rw[b,Hl j p d];let:=JA h.ct]
 rotate_left
 .let#[x,t]:=h.lf L s;let:=#[x,by show At (UD 4 z.S fs).1 x _;rw[b];let:=t.more]
 rcases ZD.mp t with q|q
 .show x∈(UD 4 z.S fs).1.map En.nm;rw[b,Zu];let:=Z4 _<|h.nm x q
 .rw[Zk.mp q];let:=pk.tree.mem
theorem TZ (S:Dh)(g:wK S){b:By}(i:∀x∈b,x∈S.map En.nm/\UV x=78):(∀p∈U4 c b,p∈b)/\(U4 c b).Nodup/\(U4 c b).length<=2:=by
 unfold U4
 split
 .rename_i e;have j:0<b.length:=YS.mpr e.1;have f:0<=c / 7 % (b.length:Int):=Z9 _ ⋯;have h:c / 7 % (b.length:Int)<(b.length:Int):=Z3 _ ⋯;rw[Zv<|show(c / 7 % (b.length:Int)).toNat<b.length by lia];let:=#[λp d=>?_,by simp,(∅:1<=2)];rw[Zk.mp d];let:=Ys _
 .let:=#[λp d=>(nomatch d),YO,ZP _]
theorem jw.note (h:jw z S0 i)(I:i<24)(X:S0.length<=500)(ne:yF z.ns≠[]):uY (U3 c z.ns)/\namesOk z.S (U3 c z.ns)=true/\z.S.length<2000/\jw #[(Cr z.S<|U3 c z.ns).1,z.ns++[(Cr z.S<|U3 c z.ns).2],z.Ls] S0 (i+1):=by
 have hl:=h.len;have g:∀x∈yN z.ns,x∈z.S.map En.nm/\UV x=78:=λx b=>by
  unfold yN at b;rw[Jj]at b;let:=#[h.nm x b.1,ZA b.2]
 have r:∀x∈yF z.ns,x∈z.S.map En.nm/\UV x=84:=λx b=>by
  unfold yF at b;rw[Jj]at b;let:=#[h.nm x b.1,ZA b.2]
 let#[J,pn,pl]:=TZ z.S h.ok g (c:=c);have U:0<(yF z.ns).length:=YS.mpr ne;have P:0<=c / 11 % ((yF z.ns).length:Int):=Z9 _ ⋯;have Q:c / 11 % ((yF z.ns).length:Int)<((yF z.ns).length:Int):=Z3 _ ⋯;have B:(((yF z.ns)[(c / 11 % ((yF z.ns).length:Int)).toNat]?).getD "")∈yF z.ns:=by
  rw[Zv<|show(c / 11 % ((yF z.ns).length:Int)).toNat<(yF z.ns).length by lia];let:=Ys _
 unfold U3;generalize ((yF z.ns)[(c / 11 % ((yF z.ns).length:Int)).toNat]?).getD ""=t at B ⊢;have j:∀p∈U4 c (yN z.ns),p∈z.S.map En.nm/\UV p=78:=λp f=>g p<|J p f;generalize U4 c (yN z.ns)=l at pn pl j ⊢;have d:∀{x:Str},x∈z.S.map En.nm->Ok 1000 x:=λ{x} b=>by
  let#[e,G,rfl]:=Zo.mp b;let:=h.ok.nm G
 let#[A,N]:=r t B;have y:uY (.note t l "w"):=NT (d A) (by lk) (λp f=>d (j p f).1) pn pl;have s:namesOk z.S (.note t l "w")=true:=by
  show(xJ z.S t ["tree"]&&l.all λp=>xJ z.S p ["note"])=true;rw[ZB,ZQ];let:=#[?_,λp f=>?_]
  .let#[O,at_]:=(Ha h.ok A).1 N;let:=GZ at_
  .let#[Y,K,Z,at_]:=(Ha h.ok (j p f).1).2 (j p f).2;let:=GZ at_
 have w:(Th.note t l "w").Good:=y.1;let:=#[y,s,⋯,?_];let#[u,D,R,T,v,_]:=j0 h.ok w ⋯;let#[E,m1,M]:=vN h.ok w ⋯ h.cl (λn H=>by
  rcases Zx.mp H with q|q
  .rwa[q]
  .let:=(j n q).1)
 let#[C,F]:=h.ext;let:=#[u,E,#[C++T,by rw[v,F,Yk]],by show(Cr _ _).1.length<=_;lia,λx b=>?_,by rw[Zq];let:=Jd h.nl,h.ln,λL o=>by have:=h.ll L o;lia,JA h.lz,λL o=>?_,λq=>(Fs (h.lc q) _).1,λq=>BU (h.lo q) λ_ z=>(nomatch z),h.l5,λq=>Ft (h.n5 q) λ_ z=>(nomatch z),by show UF (Cr z.S _).1<=_;rw[R6];let:=JA h.ct]
 rotate_left
 .let#[x,b]:=h.lf L o;let:=#[x,by show At (Cr z.S _).1 x _;rw[v];let:=b.more]
 rcases ZD.mp b with q|q
 .let:=M _ (h.nm x q)
 .rwa[Zk.mp q]
end
theorem Fh (n:pC H fp):∀b∈fp,∀xs,¬Rd H b (.tup xs):=λb f xs=>by
 let#[o,e,c,_,d]:=n b f;let:=uW e c d xs
theorem qC (n:pC H fp){c:D8}{xs:Di}(h:H c=some (.lst xs)):c∉fp:=λz=>by
 let#[o,e,_,b,_]:=n c z;rw[h]at e;let:=b xs (Option.some.inj e).symm
theorem jF {H:Hp}{a:D8}{xs:Di}(h:H a=some (.lst xs)):∀ys,¬Rd H a (.tup ys):=λys z=>by
 rcases z with z|⟨o,z⟩
 .rw[h]at z;cases z
 .rw[h]at z;cases z
theorem F1 (h:UV x≠0):CJ x.cps.toList 0=some (UV x):=by
 have h:((cs x).head?).getD 0≠0:=h;show CJ (cs x) 0=some (((cs x).head?).getD 0);cases q:cs x with
 |nil=>rw[q]at h;let:=absurd rfl h
 |cons a r=>let:=uI _ _
theorem aS (n:Nat):(V.str #[#v[n]]=V.str "T")↔n=84:=by
 have e:("T":Str)=#[#v[84]]:=by lk
 rw[e];let:=#[λh=>by injection h with h;injection h with h;injection h with h;injection h,λh=>by rw[h]]
theorem aR (n:Nat):(V.str #[#v[n]]=V.str "N")↔n=78:=by
 have e:("N":Str)=#[#v[78]]:=by lk
 rw[e];let:=#[λh=>by injection h with h;injection h with h;injection h with h;injection h,λh=>by rw[h]]
theorem Pc (g:wK S){x:Str}(c:x∈S.map En.nm):UV x≠0/\x.length<=1000:=by
 let#[e,b,rfl]:=Zo.mp c;let#[t,d,_,th]:=g.th e b;let:=#[?_,(g.nm b).len];rw[BI g b d];cases t with
 |leaf _=>let:=(∅:(76:Nat)≠0)
 |tree _=>let:=(∅:(84:Nat)≠0)
 |note _ _ _=>let:=(∅:(78:Nat)≠0)
theorem xY {K:Co}{X:Dc}(n:∀b∈X,∀xs,¬Rd H b (.tup xs))(o:Off X H H'):∀{Ls:List By} {xs:Di},(∀L∈Ls,UR L)->zy K H (Ls.map US) xs->zy K H' (Ls.map US) xs
 |[],xs,_,h=>h
 |L::Ls,xs,lb,h=>by
  let#[v,g,e,f,d]:=h;let:=#[v,g,e,?_,xY n o (λL c=>lb L<|Zp _ c) d];let:=Dt.off n o _ _ (Xj<|qK<|lb L Zt).1 f
inductive mG (P:Ea)(w:Ef)(K:Co)(C:D8)(vs:Di)(H:Hp)(Q:VK)(e3:XK):Prop
 |mk (a c:D8) (fp:Dc) (S:Dh) (fs:Dj) (Dl:Dk) (h0:vs=[.ref a,.ref c]) (h1:xr P w K C H a fp S) (h2:wK S) (h3:H c=some (.dK Dl)) (h4:c∉fp) (h5:wL K H fs Dl) (h6:xq 4 fs) (h7:fs.length<=63) (h8:S.length+1+wt fs<=2000) (h9:∀H',Off fp H H'->xr P w K C H' a fp (UD 4 S fs).1->Q (.str (UD 4 S fs).2) H'):mG P w K C vs H Q e3
theorem B3 (n:pC H fp)(o:Off fp H H')(h:za K H l xs):za K H' l xs:=by
 rcases h with(h|⟨ob,h⟩)|h
 .let:=.inl (.inl<|o _ _ (qC n h) h)
 .let:=.inl (.inr #[ob,o _ _ (λz=>?_) h]);let#[o,e,_,_,b]:=n l z;rw[h]at e;let:=b _ _ (Option.some.inj e).symm
 .let:=.inr h
theorem RE {xs:Di}{v:V}(h:xs.getLast?=some v):CJ xs (-1)=some v:=by
 have hl:0<xs.length:=by
  cases xs with
  |nil=>cases h
  |cons a b=>let:=Nat.succ_pos _
 have e:(-1:Int)+(xs.length:Int)=((xs.length-1:Nat):Int):=⋯
 rw[List.getLast?_eq_getElem?]at h;have c:N1 xs.length (-1)=some (xs.length-1):=by
  unfold N1;rw[ZI<|∅,ZJ<|⋯]
  congr 1
  lia
 unfold CJ;rwa[c]
theorem Oj:wJ.map (λp=>V.str<|Cv p)=[V.str "a",V.str "b/c",V.str "b/d",V.str "ab/a/a"]:=by
 have:wJ.map Cv=([("a":Str),"b/c","b/d","ab/a/a"]:By):=by lk
 have e:wJ.map (λp=>V.str<|Cv p)=(wJ.map Cv).map V.str:=by rw[ZK];rfl
 rw[e,this];rfl
theorem Hq (g:wK S){L:Nat}{w:Str}(b:∀n,(V.str #[#v[n]]=V.str w)↔n=L){ns:By}(nm:∀x∈ns,x∈S.map En.nm){i:Nat}{x:Str}(c:ns[i]?=some x):((ns.take<|i+1).filter λx=>decide (UV x=L))=((ns.take i).filter λx=>decide (UV x=L))++(if decide (V.str #[#v[UV x]]=V.str w)=true then[x] else[]):=by
 rw[yc c,YX,Jt]
 by_cases q:UV x=L
 .rw[ZJ<|Zm q,ZJ<|Zm<|(b _).mpr q];rfl
 .rw[ZI<|λz=>q<|ZA z,ZI<|λz=>q<|(b _).mp<|ZA z];rfl
namespace Cd
abbrev st:Stmt:=top 63
theorem sc:zx ["shelf","files"] ["shelf","files"] (zI st):=CC
include T in
theorem ok (F:xj0 K "keep_files" st f fd)(u:wU P w K mg base 5 "need_files" ["files"]<|oA K)(t:wU P w K mg base 12 "put_files" ["shelf","files"]<|IR P w K aC 4):zc P w K mg base CA 13 f fd ["shelf","files"] (mG P w K aC):=by
 let:=F.ok sc λ_ _ _ _ H B Q E r h=>?_;let#[a,c,v,S,fs,j,rfl,sh,ok,q,y,l,p,n,z,k]:=h;let:=#[_,(zE (zX<|zJ u r.m<|zA (pv 1) zC)<|zF<|zQ<|zJ t r.m<|zA (pv 0)<|zA (pv 1) zC),?_]
 let:=#[c,j,fs,rfl,q,l,p,n,λA d=>?_];let:=#[a,c,v,S,fs,j,rfl,sh.same d,ok,d _ _ q,y,l.same d,p,n,z,λs g i=>k s (λb o nb e=>g b o nb<|d _ _ e) i]
end Cd
inductive FI (P:Ea)(w:Ef)(K:Co)(C:D8)(H:Hp)(fp:Dc)(a cl ln ll:D8)(S:Dh)(z:Zs)(i:Nat):St->Hp->Prop
 |mk {H':Hp} (xs:Di) (o4 o5 o6 o7 o8 o9 o10 o11 o12:Option V):Off fp H H'->xr P w K C H' a fp z.S->jw z S i->H' ln=some (.lst<|z.ns.map V.str)->H' ll=some (.lst xs)->zy K H' (z.Ls.map US) xs->FI P w K C H fp a cl ln ll S z i [some<|.ref a,some<|.ref cl,some<|.ref ln,some<|.ref ll,o4,o5,o6,o7,o8,o9,o10,o11,o12] H'
theorem FI.off {K:Co}:FI P w K C H fp a cl ln ll S z i σ H'->Off fp H H'
 | .mk _ _ _ _ _ _ _ _ _ _ h _ _ _ _ _=>h
namespace Ce
abbrev st:Stmt:=top 70
theorem sc:zx ["_law_shelf","_law_cells","_law_names","_law_leaves","_law_cell","_law_form","_law_trees","_law_notes","_law_files","_law_k","_law_path","_law_parents","_law_thing"] ["_law_shelf","_law_cells"] (zI st):=CC
include T in
theorem ok (F:xj0 K "_law_filled" st f fd)(Zb:wU P w K mg base 13 "keep_files" ["shelf","files"]<|mG P w K aC)(Qa:Met P w K mg base aC 7 "put" ["self","thing"]<|tZ P w K aC)(Zc:wU P w K mg base 3 "_law_leaf_by" ["_law_leaves","_law_cell"]<|pX K):zc P w K mg base CA 14 f fd ["_law_shelf","_law_cells"] (pW P w K aC):=by
 let:=F.ok sc λ_ _ _ _ H vs Q E hr h=>?_;let#[a,cl,fp,S,cs,rfl,sh,ok,ej,dp,eg,s5,k]:=h;let:=#[_,(zE (Cu (i:=2) sc.nd<|yA zC)<|zE (Cu (i:=3) sc.nd<|yA zC)<|zE (yM Ep rfl (yR<|pv 1) (zR (i:=4) sc.nd rfl<|Ew rfl)<|zE (Cu (i:=5) sc.nd<|zP yH (pv 4) zG)<|xN (Fn (sc:=zI st) (N:=["_law_shelf","_law_cells","_law_names","_law_leaves","_law_cell","_law_form","_law_trees","_law_notes","_law_files","_law_k","_law_path","_law_parents","_law_thing"]) (N':=["_law_name"]) (src:=[none]) .a rfl rfl rfl (yR<|pv 2) (λ_ _ _ _=>(zR (i:=0) (show(["_law_name"]:By).Nodup by lk) rfl (Ew rfl))) (λ_ _ _ _=>(II<|zO yX (zV KP (pv 0) zG) zr<|zS _)) (λ_ _ _ _=>(pv 0)) sc.nd rfl (Ew rfl) (k:=6)) (xN (Fn (sc:=zI st) (N:=["_law_shelf","_law_cells","_law_names","_law_leaves","_law_cell","_law_form","_law_trees","_law_notes","_law_files","_law_k","_law_path","_law_parents","_law_thing"]) (N':=["_law_name"]) (src:=[none]) .a rfl rfl rfl (yR<|pv 2) (λ_ _ _ _=>(zR (i:=0) (show(["_law_name"]:By).Nodup by lk) rfl (Ew rfl))) (λ_ _ _ _=>(II<|zO yX (zV KP (pv 0) zG) zr<|zS _)) (λ_ _ _ _=>(pv 0)) sc.nd rfl (Ew rfl) (k:=7)) (zF<|yG (PW.pt<|jX (zO HJ (pv 5) zG<|zS _)<|qA<|zO (vZ hr.units) (pv 3) (yA zC)<|zS _) (zE (Cu (i:=8) sc.nd xM)<|zE (yM Ep rfl (x4 rfl T.range<|zA (zP yH (zP z9 (pv 4) zG) zG) zC) (zR (i:=9) sc.nd rfl<|Ew rfl)<|zE (Cu (i:=10) sc.nd<|zV (xu:Cy _<|tY K) (yA<|zA zr<|zA zr<|zA zr<|zA zr zC)<|zP yH (zP z8 (zP z9 (pv 4) zG)<|pv 9) zG)<|zF<|xR hr.wH (pv 8) (pv 10) (zV (zj:Cy _<|yr K) (zV (xu:Cy _<|tY K) (pv 3)<|zP yH (zP z8 (zP z9 (pv 4) zG)<|pv 9)<|zK zN (by rfl) T.len ZV<|zA (pv 3) zC) zG) rfl)<|zF<|zX<|qW Z1 Yh Yi yU (pv 2)<|zA (zJ Zb hr.m<|zA (pv 0)<|zA (pv 8) zC) zC)<|zF<|yG (PW.pt<|jX (zO yX (pv 5) zG<|zS _)<|qA<|zO (vZ hr.units) (pv 6) (yA zC)<|zS _) (xN (Cu (i:=11) sc.nd<|jB (PW.pt<|jX (zO (vZ hr.units) (pv 7) (yA zC)<|zS _)<|qA<|zO HJ (zP yH (zP z9 (pv 4) zG) zG) zG<|zS _) (yA<|zA (zV (xu:Cy _<|tY K) (pv 7)<|zP yH (zP z9 (pv 4) zG)<|zK zN (by rfl) T.len ZV<|zA (pv 7) zC) zC)<|yA zC)<|zE (Cu (i:=12) sc.nd<|yW<|zA zr<|zA (zV (xu:Cy _<|tY K) (pv 6)<|zP yH (zP z9 (pv 4) zG)<|zK zN (by rfl) T.len ZV<|zA (pv 6) zC)<|zA (zW xA (by rfl) T.tuple Yp<|zA (pv 11) zC)<|zA zr zC)<|zF<|zX<|qW Z1 Yh Yi yU (pv 2)<|zA (yK (pv 0) T.cls Qa hr.m<|zA (pv 12) zC) zC)<|zE (zX<|qW Z1 Yh Yi yU (pv 3)<|zA (zJ Zc hr.m<|zA (pv 3)<|zA (zP z9 (pv 4) zG) zC) zC)<|zF<|zX<|qW Z1 Yh Yi yU (pv 2)<|zA (yK (pv 0) T.cls Qa hr.m<|zA (zV (xu:Cy _<|tY K) (pv 3)<|PR MR zG) zC) zC))) (zF<|zQ<|pv 2)),?_]
 let:=#[UC 0,λln ck=>?_];have un:=zD (o:=.lst []) ck;let:=zT #[UC 0,λll dc=>?_];have ul:=zD (o:=.lst []) dc;have eo:=ul _ _<|zB (H:=H) (a:=ln) (o:=.lst []);have ci:ln≠ll:=zL (zB (H:=H) (a:=ln) (o:=.lst [])) dc;have em:=zB (H:=upd H ln<|.lst []) (a:=ll) (o:=.lst []);have s0:=un.trans ul;have e1:=sh.wZ;have z0:jw (((cs.take 0).foldl Cz #[S,[],[]])) S 0:=#[ok,ej,#[[],(ZW S).symm],Zn _,λx hx=>(nomatch hx),Zn _,λL X=>(nomatch X),λL X=>(nomatch X),Zn _,λL X=>(nomatch X),λq=>q,λq=>q,λL X=>(nomatch X),λq=>q,Zn _];let:=zT #[cl,rfl,#[_,s0.seq dp],xQ (K:=K) (a:=cl) (xs:=cs.map V.int) (λi Y H'=>FI P w K aC H fp a cl ln ll S ((cs.take i).foldl Cz #[S,[],[]]) i Y H') #[[],none,none,none,none,none,none,none,none,none,Off.of s0,sh.same s0,z0,eo,em,rfl] (λi Y H' _ h=>B3 e1 h.off dp) ?_ ?_]
 .rintro i v Y H' D B hv hD hB ⟨xs,o4,o5,o6,o7,o8,o9,ab,cn,b2,co,a6,g,a3,c8,cd⟩;rw[Zz]at hv;let#[c,hc,rfl]:=ZO.mp hv;have il:=(ZC.mp hc).1;have da:i<24:=Z0 il eg;have ez:(cs.take<|i+1).foldl Cz #[S,[],[]]=Cz ((cs.take i).foldl Cz #[S,[],[]]) c:=by rw[yc hc,Yl];rfl
  rw[ez]at hD;generalize (cs.take i).foldl Cz #[S,[],[]]=z at a6 g a3 cd hD;have zn:=g.nl;have lk:∀L∈z.Ls,UR L:=λL X=>#[by have:=g.ll L X;lia,g.ln L X];let:=hB (zT #[(∅:(0:Int)<7),?_]);let:=#[λa7 G=>∃l6,a7=[some<|.ref a,some<|.ref cl,some<|.ref ln,some<|.ref ll,some<|.int c,some<|.int<|c % 7,some<|.ref l6,o7,o8,o9,ab,cn,b2]/\zz H' G/\G l6=some (.lst<|(yF z.ns).map V.str),?_,?_]
  .let:=#[ln,rfl,#[_,za.of a3],j3 (K:=K) (a:=ln) (xs:=z.ns.map V.str) (λj u Y H2=>∃o,Y=[o]/\H2=H'/\u=(((z.ns.take j).filter λx=>decide (UV x=84))).map V.str) #[none,rfl,rfl,rfl] (zu (by rw[Zj];lia)) ?_ ?_ ?_]
   .rintro j u Y H2 hj ⟨o,rfl,rfl,rfl⟩;let:=#[za.of a3,?_];rw[Zj];have:=YG (λx=>decide (UV x=84)) (z.ns.take j);rw[ZL]at this;lia
   .rintro j y u Y H2 hy ⟨o,rfl,rfl,rfl⟩;rw[Zz]at hy;let#[x,hx,rfl]:=ZO.mp hy;let#[x0,xl]:=Pc g.ok<|g.nm x<|Zy hx;have lc:=Hq g.ok aS g.nm hx;let:=#[x,0,UV x,rfl,rfl,zu<|⋯,F1 x0,rfl,_,rfl,UI (λq=>#[_,rfl,rfl,?_])<|λq=>#[_,rfl,rfl,?_]]
    .rw[lc,ZJ q,Zu];rfl
    .rw[lc,ZI q,ZW]
   rintro u Y H2 ⟨o,rfl,rfl,rfl⟩ l6 n6;have e6:(z.ns.take (z.ns.map V.str).length).filter (λx=>decide (UV x=84))=yF z.ns:=by rw[Zj,ZS];rfl
   rw[e6];let:=#[l6,rfl,zD n6,zB]
  rintro fa H6 ⟨l6,rfl,u6,dk⟩;have cg:=u6 _ _ a3;have d9:=a6.same u6;have d7:=co.trans<|Off.of u6;have dy:=u6 _ _ c8;have ds:=zy.same u6 _ _ cd;clear u6 a6 co a3 c8 cd;let:=#[λa7 G=>∃l7,a7=[some<|.ref a,some<|.ref cl,some<|.ref ln,some<|.ref ll,some<|.int c,some<|.int<|c % 7,some<|.ref l6,some<|.ref l7,o8,o9,ab,cn,b2]/\zz H6 G/\G l7=some (.lst<|(yN z.ns).map V.str),?_,?_]
  .let:=#[ln,rfl,#[_,za.of cg],j3 (K:=K) (a:=ln) (xs:=z.ns.map V.str) (λj u Y H2=>∃o,Y=[o]/\H2=H6/\u=(((z.ns.take j).filter λx=>decide (UV x=78))).map V.str) #[none,rfl,rfl,rfl] (zu (by rw[Zj];lia)) ?_ ?_ ?_]
   .rintro j u Y H2 hj ⟨o,rfl,rfl,rfl⟩;let:=#[za.of cg,?_];rw[Zj];have:=YG (λx=>decide (UV x=78)) (z.ns.take j);rw[ZL]at this;lia
   .rintro j y u Y H2 hy ⟨o,rfl,rfl,rfl⟩;rw[Zz]at hy;let#[x,hx,rfl]:=ZO.mp hy;let#[x0,xl]:=Pc g.ok<|g.nm x<|Zy hx;have lc:=Hq g.ok aR g.nm hx;let:=#[x,0,UV x,rfl,rfl,zu<|⋯,F1 x0,rfl,_,rfl,UI (λq=>#[_,rfl,rfl,?_])<|λq=>#[_,rfl,rfl,?_]]
    .rw[lc,ZJ q,Zu];rfl
    .rw[lc,ZI q,ZW]
   rintro u Y H2 ⟨o,rfl,rfl,rfl⟩ l7 n7;have e7:(z.ns.take (z.ns.map V.str).length).filter (λx=>decide (UV x=78))=yN z.ns:=by rw[Zj,ZS];rfl
   rw[e7];let:=#[l7,rfl,zD n7,zB]
  rintro fb H7 ⟨l7,rfl,u7,c3⟩;have ch:=u7 _ _ cg;have cb:=u7 _ _ dk;have cr:=d9.same u7;have cp:=d7.trans<|Off.of u7;have bh:=u7 _ _ dy;have bd:=zy.same u7 _ _ ds;clear u7 d9 d7 cg dy ds dk;have bo:∀L∈([]:List By),∀l∈L,UG l=true:=λL X=>(nomatch X);have b5:S.length<=500:=s5;let:=#[_,rfl,UI (λh1=>#[UC 0,λl8 n8=>#[.list<|z.Ls.map US,.list [],#[ll,xs,rfl,za.of<|zD n8 _ _ bh,zy.same (zD n8) _ _ bd],#[l8,[],rfl,za.of zB,rfl],y8 g.ln,y8 bo,_,rfl,UI (λh2=>?x)<|λh2=>?y]]) (λh1=>UB ?w)]
  case x =>
   have u8:=zD (o:=.lst []) n8;have ne:z.Ls≠[]:=λq=>by
    have h2:(!EG (.list<|z.Ls.map US) (.list []))=true:=h2;rw[Ic,Zm q]at h2;cases h2
   have c5:c % 7>4:=ZA h1;have fz:Cz z c=#[(UD 4 z.S<|qP c z.Ls).1,z.ns++[(UD 4 z.S<|qP c z.Ls).2],z.Ls]:=by
    unfold Cz;rw[ZJ #[c5,ne]]
   have c9:=u8 _ _ ch;have df:=cr.same u8;have de:=cp.trans<|Off.of u8;have cf:=u8 _ _ bh;have ce:=zy.same u8 _ _ bd;generalize upd H7 l8 (.lst [])=H8 at c9 df de cf ce ⊢;clear ch cr cp bh bd u8 cb c3;let:=λd nd=>?_;have ud:=zD (o:=.dK []) nd;have c2:=df.ex.not nd;have ew:H d=none:=by
    cases q:H d with
    |none=>rfl
    |some o=>rw[de d o c2 q]at nd;cases nd
   have m4:0<=c / 7 % 4/\c / 7 % 4<4:=#[Z9 _<|∅,Z3 _<|∅];have fg:=vR (c:=c) ne g.ln g.ll (show 6+2*i<=63 by lia);have e9:=g.lz;have xl:xs.length=z.Ls.length:=by rw[ce.length,Zj]
   have lp:0<z.Ls.length:=YS.mpr ne;have ec:=g.len;have dl:d≠ll:=λq=>by rw[q,cf]at nd;cases nd
   have dn:d≠ln:=λq=>by rw[q,c9]at nd;cases nd
   let:=zT #[#[∅,∅],(∅:(0:Int)<4),_,rfl,⋯,⋯,jK (lo:=0) (n:=(c / 7 % 4).toNat) (λt Y H'=>∃o9 ab kv,Y=[some<|.ref a,some<|.ref cl,some<|.ref ln,some<|.ref ll,some<|.int c,some<|.int<|c % 7,some<|.ref l6,some<|.ref l7,some<|.ref d,o9,ab,cn,b2]/\Off [d] (upd H8 d<|.dK []) H'/\H' d=some (.dK kv)/\wL K H' ((Eu t).foldl (λfs k=>UL fs<|UP c z.Ls k) []) kv) #[_,_,[],rfl,Off.refl _ _,zB,wL.nil] ?_ ?_]
   .rintro t Y H' E J ht hE hJ ⟨o9,ab,kv,rfl,od,ek,ff⟩;let#[g1,l1,_]:=fg t;have kl:=ff.len;have eP:(Eu<|t+1).foldl (λfs k=>UL fs<|UP c z.Ls k) []=UL ((Eu t).foldl (λfs k=>UL fs<|UP c z.Ls k) []) (UP c z.Ls t):=by rw[JE,Yl];rfl
    rw[eP]at hE;generalize (Eu t).foldl (λfs k=>UL fs<|UP c z.Ls k) []=fs at g1 l1 ff kl hE;have nt:∀b∈[d],∀u,¬Rd (upd H8 d<|.dK []) b (.tup u):=yC zB;have el:=od _ _ (λq=>dl (Zk.mp q).symm) (ud _ _ cf);have c6:=xY nt od lk<|zy.same ud _ _ ce;let:=hJ<|zT #[UC 4,λl9 n9=>hid λJ hJ=>?_];have u9:=zD (o:=.lst [V.str "a",V.str "b/c",V.str "b/d",V.str "ab/a/a"]) n9;have b0:0<=(c / 28+(0+(t:Int))) % 4:=Z9 _ ∅;have b1:(c / 28+(0+(t:Int))) % 4<4:=Z3 _ ∅;let#[p,hp,ep]:=kP (f:=λp=>V.str<|Cv p) (xs:=wJ) (i:=(c / 28+(0+(t:Int))) % 4) b0 b1;rw[Oj]at ep;have p1:(UP c z.Ls t).1=p:=by show(wJ[_]?).getD []=p;rw[hp];rfl
    have pm:=Zy hp;have pl:=ZQ.mp Br _ pm;rw[ZB,ZB,ZY,ZY,ZQ]at pl;let:=hJ #[#[∅,∅],(∅:(0:Int)<4),l9,_,_,_,rfl,rfl,za.of zB,ep,hid λJ hJ=>?_];have d0:0<=(c / 11+(0+(t:Int))) % (z.Ls.length:Int):=Z9 _ ⋯;have d1:(c / 11+(0+(t:Int))) % (z.Ls.length:Int)<(z.Ls.length:Int):=Z3 _ ⋯;let#[L,X]:∃L,z.Ls[((c / 11+(0+(t:Int))) % (z.Ls.length:Int)).toNat]?=some L:=#[_,Zv<|⋯];have p2:(UP c z.Ls t).2=L:=by show(z.Ls[_]?).getD []=L;rw[X];rfl
    let#[v,hv]:∃v,xs[((c / 11+(0+(t:Int))) % (xs.length:Int)).toNat]?=some v:=#[_,Zv (by rw[xl];lia)];have ev:CJ xs ((c / 11+(0+(t:Int))) % (xs.length:Int))=some v:=by
     unfold CJ;rw[O3 (by rwa[xl])<|by rwa[xl]];let:=hv
    have s:=u9 _ _ el;have A:=u9 _ _ ek;let#[dd,dt,dv]:=(zy.same u9 _ _ c6).get hv;rw[Zz,xl,X]at dt;cases dt;let#[tt,b,rfl,d2,I]:=xU dv;have Lk:=lk L<|Zy X;have a2:=ff.same u9;have d5:=od.trans<|Off.of u9;generalize upd H' l9 (.lst [V.str "a",V.str "b/c",V.str "b/d",V.str "ab/a/a"])=H9 at s A d2 I a2 d5 hJ;let:=hJ #[#[∅,∅],ll,_,rfl,.inl<|za.of s,(show(0:Int)<(xs.length:Int) by lia),ll,_,_,_,rfl,rfl,za.of s,ev,tt,_,_,_,rfl,rfl,d2,rfl,d,_,rfl,tW.k (k:=.inr<|Cv p) A<|yJ<|⋯,?_];have dj:=(a2.put g1 (f:=UP c z.Ls t) (v:=.ref b) (by rw[p1];let:=pl.1.1) (by rw[p1];let:=pl.2) (by rw[p2];let:=#[b,_,rfl,I,zy.strs L]) (by rw[p2];let:=Lk)).off (yC A)<|z6 (c:=d) (o:=.dK<|yp kv (.inr<|Cv (UP c z.Ls t).1)<|.ref b);rw[p1]at dj;let:=hE.nx _ _ #[_,_,_,rfl,d5.upd<|Zk.mpr rfl,zB,dj]
   .rintro Y H9 ⟨o9,ab,kv,rfl,od,A,a2⟩;have ca:=g.files (c:=c) da b5 ne;let#[g1,l1,_]:=fg (c / 7 % 4).toNat;have g1:xq 4 (qP c z.Ls):=g1;have l1:(qP c z.Ls).length<=(c / 7 % 4).toNat:=l1;have a2:wL K H9 (qP c z.Ls) kv:=a2;have wf:=g1.wt;have nt:∀b∈[d],∀u,¬Rd (upd H8 d<|.dK []) b (.tup u):=yC zB;have M:=(df.same ud).off (gp:=[d]) nt od<|λb I q=>c2<|Zk.mp q▸I;have Z:=od _ _ (λq=>dn (Zk.mp q).symm) (ud _ _ c9);have s:=od _ _ (λq=>dl (Zk.mp q).symm) (ud _ _ cf);have c6:=xY nt od lk<|zy.same ud _ _ ce;let:=#[.inl #[rfl,_,za.of Z],a,d,fp,z.S,qP c z.Ls,kv,rfl,M,g.ok,A,c2,a2,g1,⋯,⋯,λc1 DY DS=>?_];have C:=DY _ _ (qC M.wZ Z) Z;have be:=DY _ _ (qC M.wZ s) s;have a9:=xY (Fh M.wZ) DY lk c6;let:=#[ln,_,_,rfl,rfl,C,yJ (by rw[Zj];lia),?_];have aa:∀b∈[ln],∀u,¬Rd c1 b (.tup u):=λb I u=>by rw[Zk.mp I];let:=jF C u
    rw[fz]at hD;let:=hD.nx _ _ #[xs,_,_,_,_,_,_,_,_,_,λb o nb U=>?_,DS.off (gp:=[ln]) aa z6<|λb I q=>qC DS.wZ C<|Zk.mp q▸I,ca,by rw[zB,Zu];rfl,by rw[zH<|Er ci];let:=be,xY aa z6 lk a9];rw[zH (λq=>by rw[q,ck]at U;cases U)];let:=DY b o nb (od b o (λq=>by rw[Zk.mp q,ew]at U;cases U)<|ud _ _<|de b o nb U)
  case' w =>
   have s1:=zz.refl H7;have nA:¬(c % 7>4/\z.Ls≠[]):=λq=>h1<|Zm q.1
  case' y =>
   have s1:=zD (o:=.lst []) n8;have nA:¬(c % 7>4/\z.Ls≠[]):=λq=>h2 (by
    show(!EG (.list<|z.Ls.map US) (.list []))=true;rw[Ic,ZE q.2];rfl)
   generalize upd H7 l8 (.lst [])=H8 at s1 ⊢
  case w|y =>
   have ei:=s1 _ _ cb;have c0:∀p∈yF z.ns,Ei p=true:=λp hp=>by
    unfold yF at hp;let#[e,he,rfl]:=Zo.mp<|g.nm p (Jj.mp hp).1;let:=(g.ok.nm he).ok
   let:=#[rfl,_,rfl,UI (λh3=>#[UC 0,λl9 n9=>#[.list<|(yF z.ns).map .str,.list [],#[l6,_,rfl,za.of<|zD n9 _ _ ei,zy.strs _],#[l9,[],rfl,za.of zB,rfl],(yT c0).1,y8 bo,_,rfl,UI (λh4=>?_)<|λh4=>?_]]) (λh3=>UB ?_)]
   .have s3:=s1.trans<|zD (o:=.lst []) n9;have h4:(!EG (.list<|(yF z.ns).map .str) (.list []))=true:=h4;have ne:yF z.ns≠[]:=λq=>by
     rw[q]at h4;cases h4
    have c4:c % 7=4:=V.int.inj<|ZA h3;have fz:Cz z c=#[(Cr z.S<|U3 c z.ns).1,z.ns++[(Cr z.S<|U3 c z.ns).2],z.Ls]:=by
     unfold Cz;rw[ZI nA,ZJ #[c4,ne]]
    have Z:=s3 _ _ ch;have dm:=s3 _ _ cb;have cc:=s3 _ _ c3;have M:=cr.same s3;have cq:=cp.trans<|Off.of s3;have s:=s3 _ _ bh;have A:=zy.same s3 _ _ bd;generalize upd _ l9 (.lst [])=H9 at s3 Z dm cc M cq s A ⊢;let#[gt,e0,e3,ca]:=g.note (c:=c) da b5 ne;have d4:∀p∈yN z.ns,Ei p=true:=λp hp=>by
     unfold yN at hp;let#[e,he,rfl]:=Zo.mp<|g.nm p (Jj.mp hp).1;let:=(g.ok.nm he).ok
    have cm:(yN z.ns).length<=24:=Z2 (YG _ _) ⋯;have e8:(yF z.ns).length<=24:=Z2 (YG _ _) ⋯;let:=#[λa7 H'=>∃lp,a7=[some<|.ref a,some<|.ref cl,some<|.ref ln,some<|.ref ll,some<|.int c,some<|.int<|c % 7,some<|.ref l6,some<|.ref l7,o8,o9,ab,some<|.ref lp,b2]/\zz H9 H'/\H' lp=some (.lst<|(U4 c<|yN z.ns).map V.str),?_,?_]
    .let:=#[UC 0,λeq cj=>#[.list<|(yN z.ns).map .str,.list [],#[l7,_,rfl,za.of<|zD cj _ _ cc,zy.strs _],#[eq,[],rfl,za.of zB,rfl],(yT d4).1,y8 bo,_,rfl,UI (λh5=>#[#[∅,∅],(∅:(0:Int)<3),_,rfl,UI (λh6=>?_)<|λh6=>?_]) (λh5=>UB ?_)]]
     .have h5:(!EG (.list<|(yN z.ns).map .str) (.list []))=true:=h5;have nn:yN z.ns≠[]:=λq=>by rw[q]at h5;cases h5
      have e4:0<(yN z.ns).length:=YS.mpr nn;have dh:=zD (o:=.lst []) cj;have b0:0<=c / 7 % ((yN z.ns).length:Int):=Z9 _ ⋯;have b1:c / 7 % ((yN z.ns).length:Int)<((yN z.ns).length:Int):=Z3 _ ⋯;let#[y,hy,ey]:=kP (f:=V.str) (xs:=yN z.ns) (i:=c / 7 % (((yN z.ns).map V.str).length:Int)) (by rwa[Zj]) (by rwa[Zj]);rw[Zj]at hy;have ep:U4 c (yN z.ns)=[y]:=by
       unfold U4;rw[ZJ #[nn,ZA h6],hy];rfl
      rw[ep];let:=#[#[∅,∅],l7,_,rfl,.inl<|za.of<|dh _ _ cc,(show(0:Int)<(((yN z.ns).map V.str).length:Int) by rw[Zj];lia),l7,_,_,_,rfl,rfl,za.of<|dh _ _ cc,ey,UC 1,λbm bx=>#[bm,rfl,dh.trans<|zD bx,zB]]
     .have ep:U4 c (yN z.ns)=[]:=by
       unfold U4;rw[ZI<|λq=>h6<|Zm q.2]
      rw[ep];let:=#[UC 0,λbm bx=>#[bm,rfl,(zD cj).trans<|zD bx,zB]]
     .have ep:U4 c (yN z.ns)=[]:=by
       unfold U4;rw[ZI (λq=>h5 (by
        show(!EG (.list<|(yN z.ns).map .str) (.list []))=true;cases e:yN z.ns with
        |nil=>let:=absurd e q.1
        |cons x r=>rfl))]
      rw[ep];let:=#[UC 0,λbm bx=>#[bm,rfl,(zD cj).trans<|zD bx,zB]]
    rintro a7 di ⟨er,rfl,a5,eh⟩;have dz:=a5 _ _ Z;have ct:=a5 _ _ dm;have d8:=M.same a5;have d6:=cq.trans<|Off.of a5;have du:=a5 _ _ s;have dq:=zy.same a5 _ _ A;have e5:0<(yF z.ns).length:=YS.mpr ne;have b0:0<=c / 11 % ((yF z.ns).length:Int):=Z9 _ ⋯;have b1:c / 11 % ((yF z.ns).length:Int)<((yF z.ns).length:Int):=Z3 _ ⋯;let#[y,hy,ey]:=kP (f:=V.str) (xs:=yF z.ns) (i:=c / 11 % (((yF z.ns).map V.str).length:Int)) (by rwa[Zj]) (by rwa[Zj]);rw[Zj]at hy;have en:U3 c z.ns=.note y (U4 c<|yN z.ns) "w":=by
     unfold U3;rw[hy];rfl
    let:=#[#[∅,∅],l6,_,rfl,.inl<|za.of ct,(show(0:Int)<(((yF z.ns).map V.str).length:Int) by rw[Zj];lia),l6,_,_,_,rfl,rfl,za.of ct,ey,er,_,rfl,.inl #[za.of eh,λa4 et=>#[UC 4,λb3 eu=>?_]]];have e2:=zD (o:=.tup<|(U4 c<|yN z.ns).map V.str) et;have ea:=zD (o:=.tup [V.str "note",V.str y,V.ref a4,V.str "w"]) eu;have b4:=e2.trans ea;have dv:Dt K (upd (upd di a4<|.tup<|(U4 c<|yN z.ns).map V.str) b3<|.tup [V.str "note",V.str y,V.ref a4,V.str "w"]) (U3 c z.ns).dat (.ref b3):=by
     rw[en];let:=#[b3,_,rfl,yh.of zB,_,_,rfl,rfl,_,_,rfl,rfl,_,_,rfl,#[a4,_,rfl,yh.of<|ea _ _ zB,zy.strs _],_,_,rfl,rfl,rfl]
    have as:=b4 _ _ dz;have R:=d8.same b4;have cy:=d6.trans<|Off.of b4;have bf:=b4 _ _ du;have cv:=zy.same b4 _ _ dq;generalize upd (upd di a4<|.tup<|(U4 c<|yN z.ns).map V.str) b3 (.tup [V.str "note",V.str y,V.ref a4,V.str "w"])=ee at dv as R cy bf cv ⊢;let#[ix,i1,i2,i3,c7]:=qQ R;let:=zT #[.inl #[rfl,_,za.of as],a,ix,_,rfl,c7,rfl,?_];delta X7;dsimp only;show tZ P w K aC [V.ref a,V.ref b3] ee _ _;let:=Bl R g.ok gt e0 e3 dv λef a0 cz=>?_;have bl:=a0 _ _ (qC R.wZ as) as;have dx:=a0 _ _ (qC R.wZ bf) bf;have dr:=xY (Fh R.wZ) a0 lk cv;let:=#[ln,_,_,rfl,rfl,bl,yJ (by rw[Zj];lia),?_];have aa:∀b∈[ln],∀u,¬Rd ef b (.tup u):=λb I u=>by rw[Zk.mp I];let:=jF bl u
    rw[fz]at hD;let:=hD.nx _ _ #[xs,_,_,_,_,_,_,_,_,_,λb o nb U=>?_,cz.off (gp:=[ln]) aa z6<|λb I q=>qC cz.wZ bl<|Zk.mp q▸I,ca,by rw[zB,Zu];rfl,by rw[zH<|Er ci];let:=dx,xY aa z6 lk dr];rw[zH (λq=>by rw[q,ck]at U;cases U)];let:=a0 b o nb<|cy b o nb U
   have s2:=s1.trans<|zD (o:=.lst []) n9;have nB:¬(c % 7=4/\yF z.ns≠[]):=λq=>h4 (by
    show(!EG (.list<|(yF z.ns).map .str) (.list []))=true;cases e:yF z.ns with
    |nil=>let:=absurd e q.2
    |cons x r=>rfl)
   generalize upd _ l9 (.lst [])=H9 at s2 ⊢
   rotate_left
   have s2:=s1;have nB:¬(c % 7=4/\yF z.ns≠[]):=λq=>h3<|Zm<|congrArg V.int q.1
   all_goals
    have fz:Cz z c=#[(Cr z.S<|.leaf<|UM (c / 7) z.Ls).1,z.ns++[(Cr z.S<|.leaf<|UM (c / 7) z.Ls).2],z.Ls++[UM (c / 7) z.Ls]]:=by
     unfold Cz;rw[ZI nA,ZI nB]
    clear c0 cb c3;have Z:=s2 _ _ ch;have M:=cr.same s2;have cq:=cp.trans<|Off.of s2;have s:=s2 _ _ bh;have A:=zy.same s2 _ _ bd;have zl:=g.lz;have ec:=g.len;have xl:xs.length<=24:=by rw[A.length,Zj];lia
    let:=#[.inl #[rfl,_,za.of s],#[∅,∅],ll,c / 7,z.Ls,6+2*i,xs,rfl,s,A,g.ln,g.ll,⋯,⋯,λv a1 ai dv lb es=>#[ll,xs,v,rfl,rfl,ai _ _ s,yJ<|⋯,?_]];let#[db,ca]:=g.leaf da b5 (Tz g.l5) lb es;have cw:=ai _ _ s;have cm:∀b∈[ll],∀u,¬Rd a1 b (.tup u):=λb I u=>by rw[Zk.mp I];let:=jF cw u
    have O:=(M.same ai).off (gp:=[ll]) cm (z6 (c:=ll) (o:=.lst<|xs++[v]))<|λb I q=>qC (M.same ai).wZ cw<|Zk.mp q▸I;have an:upd a1 ll (.lst<|xs++[v]) ln=some (.lst<|z.ns.map V.str):=by rw[zH ci];let:=ai _ _ Z
    have al:=zB (H:=a1) (a:=ll) (o:=.lst<|xs++[v]);have d3:∀L∈z.Ls++[UM (c / 7) z.Ls],UR L:=λL X=>by
     rcases ZD.mp X with q|q
     .let:=lk L q
     .rwa[Zk.mp q]
    have a8:=Dt.off cm (z6 (c:=ll) (o:=.lst<|xs++[v])) _ _ (Xj<|qK db).1 dv;have cu:zy K (upd a1 ll<|.lst<|xs++[v]) ((z.Ls++[UM (c / 7) z.Ls]).map US) (xs++[v]):=by
     rw[Zu];let:=zy.append (xY cm (z6 (c:=ll) (o:=.lst<|xs++[v])) lk<|zy.same ai _ _ A) #[v,[],rfl,a8,rfl]
    have cx:Off fp H (upd a1 ll<|.lst<|xs++[v]):=λb o nb U=>by
     have I:=(cq.trans<|Off.of ai) b o nb U;rw[zH (λq=>by rw[q]at U;rw[(un.free dc)]at U;cases U)];let:=I
    generalize upd a1 ll (.lst<|xs++[v])=ed at O an al cu a8 cx ⊢;let#[ix,i1,i2,i3,c7]:=qQ O;let:=#[.inl #[rfl,_,za.of an],a,ix,_,rfl,c7,rfl,1,rfl,ll,_,_,_,rfl,rfl,za.of al,RE (xs:=xs++[v]) (v:=v)<|by simp,?_];delta X7;dsimp only;show tZ P w K aC [V.ref a,v] ed _ _;let:=Bl O g.ok (uD db.2 db.1) rfl ⋯ a8 λc1 DY DS=>?_;have C:=DY _ _ (qC O.wZ an) an;have be:=DY _ _ (qC O.wZ al) al;have a9:=xY (Fh O.wZ) DY d3 cu;let:=#[ln,_,_,rfl,rfl,C,yJ (by rw[Zj];lia),?_];have aa:∀b∈[ln],∀u,¬Rd c1 b (.tup u):=λb I u=>by rw[Zk.mp I];let:=jF C u
    rw[fz]at hD;let:=hD.nx _ _ #[xs++[v],_,_,_,_,_,_,_,_,_,λb o nb U=>?_,DS.off (gp:=[ln]) aa z6<|λb I q=>qC DS.wZ C<|Zk.mp q▸I,ca,by rw[zB,Zu];rfl,by rw[zH<|Er ci];let:=be,xY aa z6 d3 a9];rw[zH (λq=>by rw[q,ck]at U;cases U)];let:=DY b o nb<|cx b o nb U
 .rintro Y H' ⟨xs,o4,o5,o6,o7,o8,o9,ab,cn,b2,co,a6,g,a3,c8,cd⟩;rw[Zj,ZS]at a6 g;let:=(k ln H' co a6 g)
end Ce
structure iK (S:Dh):Prop where
 ok:wK S
 cl:Cl S
 lc:LC S
 lf:Lf S
theorem iK.leaf (h:iK S)(l:S.length<2000)(lo:UR ls):iK (Cr S<|.leaf ls).1 :=
 #[(j0 h.ok (qK lo) l).1,(vN h.ok (qK lo) l h.cl<|λn b=>(nomatch b)).1,(Fs h.lc _).1,BU h.lf λ_ e=>by cases e;let:=lo]
inductive oX (P:Ea)(w:Ef)(K:Co)(C:D8)(vs:Di)(H:Hp)(Q:VK)(e3:XK):Prop
 |mk (a:D8) (c:Int) (fp:Dc) (S:Dh) (h0:vs=[.ref a,.int c]) (h1:xr P w K C H a fp S) (h2:iK S) (h3:Ns S) (h4:S.length<=100) (h5:∀H' S',Off fp H H'->xr P w K C H' a fp S'->iK S'->Ns S'->S'.length<=S.length+18->UF S'<=UF S+18->Q .non H'):oX P w K C vs H Q e3
inductive p6 (K:Co)(D:D8)(vs:Di)(H:Hp)(Q:VK)(e3:XK):Prop
 |mk (a:D8) (fp:Dc) (Ts:Dh) (d:Eg) (v:V) (h0:vs=[.ref a,v]) (h1:vz K D H a fp Ts) (h2:Dw K H d v) (h3:UT Ts d=false) (h4:(∀H',zz H H'->Dw K H' d v)) (h5:∀H',zz H H'->Q (.bl true) H'):p6 K D vs H Q e3
inductive rG (P:Ea)(w:Ef)(K:Co)(C D:D8)(vs:Di)(H:Hp)(Q:VK)(e3:XK):Prop
 |mk (c a rl:D8) (fp:Dc) (S:Dh) (ds:De) (xs:Di) (h0:vs=[.ref a,.ref rl]) (h1:wz P w K C D c H a fp S) (h2:za K H rl xs) (h3:zy K H ds xs) (h4:(∀e∈S,U5 e)) (h5:Cs S) (h6:Lf S) (h7:ds.length<=1000) (h8:(∃d∈ds,UT S d=false)) (h9:∀H',zz H H'->Q (.bl true) H'):rG P w K C D vs H Q e3
inductive rJ (vs:Di)(H:Hp)(Q:VK)(e3:XK):Prop
 |mk (n:Int) (h0:vs=[.int n,.int n]) (h1:Q (.bl true) H):rJ vs H Q e3
theorem Pz {n:Nat}(h:n<18):UG (UK n)=true:=by
 have:∀m:Fin 18,UG (UK m.1)=true:=by lk
 let:=this #[n,h]
theorem W0 {n:Nat}(h:n<18):(UK n).length≠5:=by
 have:∀m:Fin 18,(UK m.1).length≠5:=by lk
 let:=this #[n,h]
theorem XL {H:Hp}{x c C:D8}(n1:H x=none)(n2:H c=none)(o:Off [x] (upd (upd H c<|.own x) x<|.ins C c []) H'):zz H H':=λb u e=>by
 have d:b≠x:=zL e n1;let:=o b u (λz=>d<|Zk.mp z) (by rwa[zH d,zH<|zL e n2])
namespace Cf
abbrev st:Stmt:=top 76
theorem sc:zx ["_law_found","_law_due"] ["_law_found","_law_due"] (zI st):=CC
include T in
theorem ok (F:xj0 K "_law_whole" st f fd):zc P w K mg base CA 1 f fd ["_law_found","_law_due"] rJ:=by
 let:=F.ok sc λ_ _ _ _ H c Q E b h=>?_;let#[n,rfl,k]:=h;have e:decide (V.int n=V.int n)=true:=Zm rfl;rw[<-e]at k;let:=#[_,(zF<|zQ<|xD (zK (j7 (K:=K)) (by rfl) T.isinstance ZX<|zA (pv 0)<|zA (y6 (v:=.ty "int") rfl T.int PyProof.Rows.boot_int rfl) zC)<|xD (T1<|zK (j7 (K:=K)) (by rfl) T.isinstance ZX<|zA (pv 0)<|zA (y6 (v:=.ty "bool") rfl T.bool PyProof.Rows.boot_bool rfl) zC)<|qS<|xC yX (pv 0) (pv 1)<|zS _),?_];let:=#[_,_,_,true,rfl,.int n,rfl,true,rfl,UJ #[_,_,_,false,rfl,.int n,(T.kit "int" (by simp[kinds]) "bool"<|by simp[kinds]).trans<|∅,false,rfl,true,rfl,UJ #[rfl,k]]]
end Cf
namespace Cg
abbrev st:Stmt:=top 74
theorem sc:zx ["_law_pack","_law_name","_law_missed_here"] ["_law_pack","_law_name"] (zI st):=CC
include T in
theorem ok (F:xj0 K "_law_missed" st f fd)(G:ug P w K mg base aP 9 "thing" ["self","name"]<|wg K aP aN 5)(J:ug P w K mg base aP 9 "steps" ["self","name"]<|ux K aP aN 5)(I:Met P w K mg base aP 2 "has" ["self","name"]<|rR K aP):zc P w K mg base CA 10 f fd ["_law_pack","_law_name"] (p6 K aP):=by
 let:=F.ok sc λ_ _ _ _ H O Q E z h=>?_;let#[a,t,S,d,v,rfl,pk,hd,no,l,k]:=h;let#[_,_,s,M,N,_,_,_,_,B,_]:=id pk;let:=#[_,(zE (Cu (i:=2) sc.nd zG)<|zE (BW rfl rfl rfl (λ_ _=>(zF<|zX<|qV (pv 0) T.wR G z.m (kR rfl)<|zA (pv 1) zC)) rfl T.oV (λ_=>(zF<|Cu (i:=2) sc.nd<|zP z8 (pv 2) zG))) (zE (BW rfl rfl rfl (λ_ _=>(zF<|zX<|qV (pv 0) T.wR J z.m (kR rfl)<|zA (pv 1) zC)) rfl T.oV (λ_=>(zF<|Cu (i:=2) sc.nd<|zP z8 (pv 2) zG))) (zF<|zQ<|xD (xC yX (pv 2) zG<|zS _)<|qS<|xC TY (yK (pv 0) T.wR I z.m<|zA (pv 1) zC) xT<|zS _))),?_]
 have C:∀p∈(Cq S).1,d=.str p.e.nm->False:=λp n e=>by rw[e,KN n]at no;cases no
 let:=#[λb g cls=>b=[some<|.ref a,some v,some<|.int 0]/\g=H/\cls=.ref aN,#[a,s,_,rfl,B,rfl,a,t,S,d,v,rfl,∅,pk,hd,λp n e=>(C p n e).elim,λ_=>#[rfl,rfl,rfl]],?_];rintro b g cls x ⟨rfl,rfl,rfl⟩ nx;let:=#[T.gR,?_];have q:=zD (o:=Gx x<|.ref aN) nx;have c:=pk.same q;have j:=l _ q;have u:=q _ _ B;generalize upd g x (Gx x<|.ref aN)=D at q c j u ⊢;let:=#[λb g cls=>b=[some<|.ref a,some v,some<|.int<|0+1]/\g=D/\cls=.ref aN,#[a,s,_,rfl,u,rfl,a,t,S,d,v,rfl,∅,c,j,λp n e=>(C p n e).elim,λ_=>#[rfl,rfl,rfl]],?_];rintro b g cls y ⟨rfl,rfl,rfl⟩ L;let:=#[T.gR,?_];have A:=zD (o:=Gx y<|.ref aN) L;have r:=q.trans A;let:=#[rfl,_,rfl,UJ #[a,s,_,rfl,A _ _ u,rfl,a,t,S,d,v,rfl,c.same A,l _ r,_,_,rfl,rfl,?_]];rw[no];let:=k _ r
end Cg
namespace Ch
abbrev st:Stmt:=top 75
theorem sc:zx ["_law_store","_law_roots"] ["_law_store","_law_roots"] (zI st):=CC
include T in
theorem ok (F:xj0 K "_law_refused" st f fd)(p:iM P w K mg base aP 12 "Pack" ["self","store","roots"]<|rN P w K aC aP aN):zc P w K mg base CA 14 f fd ["_law_store","_law_roots"] (rG P w K aC aP):=by
 let:=F.ok sc λ_ _ _ s H I Q E A h=>?_;let#[c,a,B,z,S,u,D,rfl,l,hl,hd,th,cs,lf,t,no,k]:=h;let:=#[_,(zE (BW rfl rfl rfl (λ_ _=>(zF<|zX<|kW p A.m (kR rfl)<|zA (pv 0)<|zA (pv 1) zC)) rfl T.oV (λ_=>(zF<|zQ xT))) (zF<|zQ xT)),?_]
 let:=#[λn g cls=>zz H g/\cls=.ref aN,(λx v nx e ne=>?_),?_]
 .let:=#[x,v,c,a,B,z,S,u,D,rfl,zB,by rw[zH ne];let:=zB,ne,λg o=>?_,th,cs,lf,t,λG y j=>?_,λ_ g o=>#[XL nx e o,rfl]]
  .have s:=XL nx e o;let:=#[l.same s,s.seq hl,zy.same s _ _ hd]
  .let#[d,b,q]:=no;rw[y]at b;let#[r,i,rfl]:=Zo.mp b;let:=absurd (j r i)<|YM q
 .rintro n g cls x ⟨C,rfl⟩ nx;let:=#[T.gR,k _<|C.trans<|zD nx]
end Ch
inductive ChI (H:Hp)(fp:Dc)(a lr:D8)(c:Int)(m:Nat)(S:Dh)(i:Nat)(σ:St)(H2:Hp):Prop
 |mk (o4:Option V) (L:By) (S':Dh) (h0:σ=[some<|.ref a,some<|.int c,some<|.ref lr,some<|.int m,o4]) (h1:Off fp H H2) (h2:H2 lr=some (.lst<|L.map V.str)) (h3:L.length=5) (h4:(∀l∈L,UG l=true)) (h5:N5 L) (h6:xr P w K aC H2 a fp S') (h7:iK S') (h8:Ns S') (h9:S'.length<=S.length+i) (h10:UF S'<=UF S+i):ChI H fp a lr c m S i σ H2
namespace Ci
abbrev st:Stmt:=top 71
theorem sc:zx ["_law_shelf","_law_cell","_law_row","_law_many","_law_k"] ["_law_shelf","_law_cell"] (zI st):=CC
include T in
theorem ok (F:xj0 K "_law_chain" st f fd)(Qa:Met P w K mg base aC 7 "put" ["self","thing"]<|tZ P w K aC):zc P w K mg base CA 8 f fd ["_law_shelf","_law_cell"] (oX P w K aC):=by
 let:=F.ok sc λ_ _ _ _ H vs Q E hr h=>?_;let#[a,c,fp,S,rfl,sh,Z,n5,sl,k]:=h;let:=#[_,(zE (Cu (i:=2) sc.nd<|yA<|zA zr<|zA zr<|zA zr<|zA zr<|zA zr zC)<|xN (Cu (i:=3) sc.nd<|jB (zO yX (zP yH (zP z9 (pv 1) zG) zG) zG<|zS _) zG<|zP yH (pv 1) zG)<|zF<|yM Ep rfl (x4 rfl T.range<|zA (pv 3) zC) (zR (i:=4) sc.nd rfl<|Ew rfl)<|zE (Mv (zW qZ (by rfl) T.str Yq<|zA (pv 4) zC)<|Mr (pv 2) (zP yH (zP z8 (zP z9 (pv 1) zG)<|pv 4) zG) set_list)<|zF<|zX<|yK (pv 0) T.cls Qa hr.m<|zA (yW<|zA zr<|zA (zW xA (by rfl) T.tuple Yp<|zA (pv 2) zC) zC) zC),?_]
 let:=#[UC 5,λd nr=>zT ?_];have s1:=zD (o:=.lst [V.str "a",V.str "b",V.str "c",V.str "d",V.str "e"]) nr;have J:upd H d (.lst [V.str "a",V.str "b",V.str "c",V.str "d",V.str "e"]) d=some (.lst<|(["a","b","c","d","e"]:By).map V.str):=zB;generalize upd H d (.lst [V.str "a",V.str "b",V.str "c",V.str "d",V.str "e"])=H1 at s1 J ⊢;let:=#[λU H'=>∃m:Nat,U=[some<|.ref a,some<|.int c,some<|.ref d,some<|.int m,none]/\H'=H1/\m<=18,?_,?_]
 .let:=#[#[∅,∅],(∅:(0:Int)<8),rfl,_,rfl,UI (λ_=>#[18,rfl,rfl,Zn _])<|λ_=>#[(∅:(0:Int)<8),(c % 8).toNat,?_,rfl,?_]]
  .have:=Z9 c (∅:(8:Int)≠0);rw[J2 this];rfl
  .have:=Z3 c (∅:(0:Int)<8);lia
 rintro U H' ⟨m,rfl,rfl,as⟩;let:=#[_,rfl,⋯,⋯,jK (lo:=0) (n:=(m:Int).toNat) (ChI H fp a d c m S)
  #[none,_,S,rfl,Off.of s1,J,rfl,?_,?_,sh.same s1,Z,n5,Zn _,Zn _] ?_ ?_]
 .lk
 .unfold N5;lk
 .rintro i σ G D B hi hD hB ⟨o4,L,Y,rfl,y,u,ll,lb,l5,C,I,ns,an,ab⟩;have M:i<18:=⋯
  have q0:0<=(c / 8+(0+(i:Int))) % 5:=Z9 _ ∅;let#[q,eq]:∃q:Nat,(c / 8+(0+(i:Int))) % 5=q:=#[_,(J2 q0).symm];let:=hB<|zT #[_,rfl,?_,?_]
  .have:((0:Int)+(i:Int)).natAbs=i:=⋯
   rw[this];let:=Ve (Nat.log2_le_self i) ⋯
  let:=#[#[∅,∅],(∅:(0:Int)<5),d,_,_,q,rfl,rfl,u,?_,?_]
  .rw[eq,Zj,ll];let:=An10.oU ⋯
  have ev:V.str (EL<|LB<|(0:Int)+(i:Int))=V.str (UK i):=by rw[Int.zero_add];rfl
  rw[ev,<-List.map_set];have j:∀l∈L.set q (UK i),UG l=true:=λl hl=>(List.mem_or_eq_of_mem_set hl).elim (lb l) λz=>z▸Pz M;have v:N5 (L.set q (UK i)):=λl hl=>(List.mem_or_eq_of_mem_set hl).elim (l5 l) λz=>z▸W0 M;have N:(L.set q (UK i)).length=5:=by rwa[V4]
  have ai:∀b∈[d],∀ys,¬Rd G b (.tup ys):=λb hb ys=>by rw[Zk.mp hb];let:=jF u ys
  have O:d∉fp:=sh.ex.not nr;have r:=C.off (gp:=[d]) ai (z6 (c:=d) (o:=.lst<|(L.set q (UK i)).map V.str)) (λb hb z=>O<|Zk.mp z▸hb);have A:Off fp H (upd G d<|.lst<|(L.set q (UK i)).map V.str):=λb o nb e=>by
   rw[zH<|zL e nr];let:=y b o nb e
  have g:upd G d (.lst<|(L.set q (UK i)).map V.str) d=some (.lst<|(L.set q (UK i)).map V.str):=zB;generalize L.set q (UK i)=s at j v N r A g ⊢;generalize upd G d (.lst<|s.map V.str)=H3 at r A g ⊢;let#[ix,i1,i2,i3,aa]:=qQ r;let:=#[a,ix,_,rfl,aa,rfl,d,_,rfl,.inl #[za.of g,λp np=>#[UC 2,λt nt=>?_]]];have u1:=zD (o:=.tup<|s.map V.str) np;have u2:=zD (o:=.tup [V.str "leaf",V.ref p]) nt;have dv:Dt K (upd (upd H3 p<|.tup<|s.map V.str) t<|.tup [V.str "leaf",V.ref p]) (Th.leaf s).dat (.ref t):=#[t,_,rfl,yh.of zB,_,_,rfl,rfl,_,_,rfl,#[p,_,rfl,yh.of<|u2 _ _ zB,zy.strs _],rfl];have X:=u1.trans u2;delta X7;dsimp only;generalize upd (upd H3 p<|.tup<|s.map V.str) t (.tup [V.str "leaf",V.ref p])=H4 at dv X ⊢;have lo:UR s:=#[⋯,j];show tZ P w K aC [V.ref a,V.ref t] H4 _ _;let:=Bl (r.same X) I.ok (uD j lo.1) rfl ⋯ dv λH5 R al=>?_;have pl:=(j0 I.ok (qK lo)<|⋯).2.2.1;have pn:=Bj Y<|.leaf s;let:=hD.nx _ _ #[_,s,_,rfl,(A.trans<|Off.of X).trans R,R _ _ O<|X _ _ g,N,j,v,al,I.leaf ⋯ lo,Ft ns (λls e=>by cases e;let:=v),⋯,⋯]
 .rintro σ G ⟨o4,L,Y,rfl,y,u,ll,lb,l5,C,I,ns,an,ab⟩;let:=k G Y y C I ns ⋯ ⋯
end Ci
def OB (G:List Pe):List Pe:=G.filter λp=>(CN p.e.d).isSome
theorem RG (Ts:Dh):(Cq Ts).2=(OB (Cq Ts).1).flatMap Xa:=by
 induction Ts using snoc_ind with
 |h0=>rfl
 |h1 Ts e ih =>
  rw[qB];unfold OB at ih ⊢;rw[YX,List.flatMap_append,<-ih];show _++Xa _=_
  congr 1
  rw[Jt];cases h:CN (UE (Cq Ts).2 e).e.d with
  |none=>unfold Xa;rw[h];rfl
  |some ls=>let:=(ZW<|Xa _).symm
theorem N7 {x:Bs}{B:List Bs}(h:B.foldl (least ls) none=some x):x∈B:=by
 induction B using snoc_ind generalizing x with
 |h0=>cases h
 |h1 B y ih =>
  rw[Yl]at h;have h:least ls (B.foldl (least ls) none) y=some x:=h;unfold least at h
  split at h
  .rw[<-Option.some.inj h];let:=ZM _<|Zk.mpr rfl
  .rename_i z b
   split at h
   .rw[<-Option.some.inj h];let:=ZM _<|Zk.mpr rfl
   .let:=Z4 _ (ih h)
def gO (b:Dk)(G:List Pe):Prop:=∀p∈G,UH b (Ec p.e.nm:Key)=some (.int p.st)
def jz (K:Co)(H:Hp)(ls:By)(z:Option Bs)(v:V):Prop:=match z with
 |none=>v=.non
 |some x=>∃t,v=.ref t/\yh K H t [.int<|cst ls x,.str x.1]
def nW (K:Co)(H:Hp)(Ts:Dh)(t:D8)(d:Dc):Prop:=∃b c,b∉d/\yh K H t [.ref b,.int ((Cq Ts).1.map Mx).sum]/\H b=some (.dK c)/\gO c (Cq Ts).1
inductive lM (P:Ea)(w:Ef)(K:Co)(C:D8)(vs:Di)(H:Hp)(Q:VK)(e3:XK):Prop
 |mk (a l:D8) (fp:Dc) (S Ts:Dh) (h0:vs=[.ref a,.ref l]) (h1:xr P w K C H a fp S) (h2:Lf S) (h3:Ts.Sublist S) (h4:za K H l<|(Ts.map En.nm).map V.str) (h5:∀t H',zz H H'->nW K H' Ts t fp->Q (.ref t) H'):lM P w K C vs H Q e3
theorem jz.same (s:zz H H')(h:jz K H ls z v):jz K H' ls z v:=by
 cases z with
 |none=>let:=h
 |some x=>let#[t,e,q]:=h;let:=#[t,e,s.yu q]
theorem gO.put {x:Str}(h:gO kv G)(n:∀p∈G,p.e.nm≠x):gO (yp kv (Ec x:Key) v) G:=λp b=>by
 rw[uG,ZI<|λz=>n p b<|Sum.inr.inj z];let:=h p b
inductive PlI (H:Hp)(a l fo al:D8)(z:List Pe)(i:Nat)(σ:St)(H2:Hp):Prop
 |mk (o5 o6 o7 o8 o9:Option V) (kv:Dk) (h0:σ=[some<|.ref a,some<|.ref l,some<|.ref fo,some<|.int (z.map Mx).sum,some<|.ref al,o5,o6,o7,o8,o9]) (h1:zz H H2) (h2:H2 fo=some (.dK kv)) (h3:kv.length<=2*i) (h4:H2 al=some (.lst<|((OB z).map λp=>p.e.nm).map V.str)) (h5:gO kv z):PlI H a l fo al z i σ H2
namespace Cj
abbrev st:Stmt:=top 73
theorem sc:zx ["_law_shelf","_law_names","_law_found","_law_weight","_law_ahead","_law_name","_law_thing","_law_least","_law_other","_law_cost"] ["_law_shelf","_law_names"] (zI st):=CC
include T in
theorem ok (F:xj0 K "_law_plan" st f fd)(Qb:Met P w K mg base aC 4 "thing" ["self","name"]<|vy P w K aC)(Qm:wU P w K mg base 5 "cost_of" ["rows"]<|An12.oJ K)(Qy:wU P w K mg base 6 "spans_of" ["old","new"]<|rM K):zc P w K mg base CA 7 f fd ["_law_shelf","_law_names"] (lM P w K aC):=by
 let:=F.ok sc λ_ _ _ _ H vs Q E hr h=>?_;let#[a,l,fp,S,U,rfl,sh,lf,sub,hl,k]:=h;let:=#[_,(zE (Cu (i:=2) sc.nd xM)<|zE (Cu (i:=3) sc.nd zG)<|zE (Cu (i:=4) sc.nd<|yA zC)<|zE (yM Ep rfl (yR<|pv 1) (zR (i:=5) sc.nd rfl<|Ew rfl)<|zE (Cu (i:=6) sc.nd<|yK (pv 0) T.cls Qb hr.m<|zA (pv 5) zC)<|zE (xR hr.wH (pv 2) (pv 5) zG rfl)<|zF<|yG (zO yX (zV (zj:Cy _<|yr K) (pv 6) zG) zr<|zS _) (zE (Cu (i:=7) sc.nd jM)<|zE (yM Ep rfl (yR<|pv 4) (zR (i:=8) sc.nd rfl<|Ew rfl)<|zE (Cu (i:=9) sc.nd<|zJ Qm hr.m<|zA (zJ Qy hr.m<|zA (zV (zj:Cy _<|yr K) (yK (pv 0) T.cls Qb hr.m<|zA (pv 8) zC) zG)<|zA (zV (zj:Cy _<|yr K) (pv 6) zG) zC) zC)<|zF<|yG (PW.pt<|jX (zO Xd (kA hr.wH (pv 2) (pv 8)<|λ_ _=>rfl) zG<|zS _)<|qA<|PW.pt<|vD (zO K9 (pv 7) jM<|zS _)<|kN<|zO GS (pv 9) (zV (zj:Cy _<|yr K) (pv 7) zG)<|zS _) (zF<|Cu (i:=7) sc.nd<|yW<|zA (pv 9)<|zA (pv 8) zC) zU)<|xN (yG (PW.pt<|jX (zO B8 (pv 7) jM<|zS _)<|qA<|zO Xd (zV (zj:Cy _<|yr K) (pv 7) zG) (zK zN (by rfl) T.len ZV<|zA (zV (zj:Cy _<|yr K) (pv 6) zG) zC)<|zS _) (zE (xR hr.wH (pv 2) (pv 5) (zP z8 (kA hr.wH (pv 2) (zV (zj:Cy _<|yr K) (pv 7) zG)<|λ_ _=>rfl) zG) rfl)<|zF<|Cu (i:=3) sc.nd<|zP z8 (pv 3)<|zV (zj:Cy _<|yr K) (pv 7) zG)<|zF<|Cu (i:=3) sc.nd<|zP z8 (pv 3)<|zK zN (by rfl) T.len ZV<|zA (zV (zj:Cy _<|yr K) (pv 6) zG) zC)<|zF<|zX<|qW Z1 Yh Yi yU (pv 4)<|zA (pv 5) zC) zU)<|zF<|zQ<|yW<|zA (pv 2)<|zA (pv 3) zC),?_]
 have gS:=sh.good;have gU:=B4 gS sub;have lU:=Fe lf sub;have gl:=gU.len;have thing:∀{M:Hp} {e:En} {Q':VK} {E':XK},zz H M->e∈S->(∀t,Dt K M e.d (.ref t)->Q' (.ref t) M)->vy P w K aC [.ref a,.str e.nm] M Q' E':=λ{M e Q' E'} s2 he kk=>#[a,fp,S,.str e.nm,.str e.nm,rfl,sh.same s2,rfl,Zm<|Zo.mpr #[e,he,rfl],λe2 bm ed t ht=>by
  have:e=e2:=Il gS he bm (by injection ed);subst this;let:=kk t ht]
 let:=λn R=>zT #[UC 0,λG ai=>zT ?_];have s1:=(zD (o:=.dK []) R).trans<|zD (o:=.lst []) ai;have a4:upd (upd H n<|.dK []) G (.lst []) n=some (.dK []):=(zD ai) _ _ zB;have a1:upd (upd H n<|.dK []) G (.lst []) G=some (.lst []):=zB;have fa:n≠G:=zL (zB (H:=H) (a:=n) (o:=.dK [])) ai;have a8:H G=none:=(zD (o:=.dK []) R).free ai;generalize upd (upd H n<|.dK []) G (.lst [])=H1 at s1 a4 a1 ⊢;let:=#[l,rfl,#[_,s1.seq hl],xQ (K:=K) (a:=l) (xs:=(U.map En.nm).map V.str) (λi=>PlI H a l n G (Cq<|U.take i).1 i) #[none,none,none,none,none,[],rfl,s1,a4,Zn _,a1,λp hp=>(nomatch hp)] (λi σ M _ z=>by let#[_,_,_,_,_,_,_,e,_,_,_,_]:=z;let:=e.seq hl) ?_ ?_]
 .rintro i v σ M D B Y hD hB ⟨o5,o6,o7,o8,o9,Z,rfl,s2,O,kl,a2,sd⟩;rw[Zz,Zz]at Y;let#[y,hy,rfl]:=ZO.mp Y;let#[e,he,rfl]:=ZO.mp hy;have il:=(ZC.mp he).1;have an:=Zy he;have tk:U.take (i+1)=U.take i++[e]:=yc he;have gk:=Fc (Ts:=U.take i) (e:=e) (by rw[<-tk];let:=B4 gU<|Vn _ _);have nn:∀q∈(Cq<|U.take i).1,q.e.nm≠e.nm:=λq hq z=>gk (Zo.mpr #[q.e,q8 hq,by rw[z]]);have gG:∀q∈(Cq<|U.take i).1,q.e∈S:=λq hq=>sub.subset<|Yf<|q8 hq;have b1:=(Bh<|U.take i).1;have bf:=RG<|U.take i;have lG:(OB (Cq<|U.take i).1).length<=i:=Z2 (YG _ _) (by rw[jY,ZL];lia);rw[tk,qB]at hD;have lv:OB ((Cq<|U.take i).1++[UE (Cq<|U.take i).2 e])=OB (Cq<|U.take i).1++(if(CN e.d).isSome then[UE (Cq<|U.take i).2 e] else[]):=by
   unfold OB;rw[YX,Jt];rfl
  clear tk gk;let#[ix,i1,i2,i3,aa]:=qQ<|sh.same s2;let:=hB<|zT #[a,ix,_,rfl,aa,rfl,?_];delta X7;dsimp only;let:=thing s2 (sub.subset an) λtt ht=>zT ?_;let:=#[n,_,rfl,tW.k (k:=(Ec e.nm:Key)) O<|yJ<|⋯,hid λB hB=>?_];have s3:zz H (upd M n<|.dK<|yp Z (Ec e.nm:Key)<|V.int 0):=An.zz.pM s2 R;have u:upd M n (.dK<|yp Z (Ec e.nm:Key)<|V.int 0) n=some (.dK<|yp Z (Ec e.nm:Key)<|V.int 0):=zB;have A:upd M n (.dK<|yp Z (Ec e.nm:Key)<|V.int 0) G=some (.lst<|((OB (Cq<|U.take i).1).map λp=>p.e.nm).map V.str):=by rwa[zH<|Er fa]
  have a0:=Dt.off (λb hb=>by rw[Zk.mp hb];let:=jZ O) (z6 (c:=n) (o:=.dK<|yp Z (Ec e.nm:Key)<|V.int 0)) _ _ (gU.ent e an).key.1 ht;have bx:=xH Z (Ec e.nm:Key)<|V.int 0;have C:=sd.put (x:=e.nm) (v:=.int 0) nn;have v3:UH (yp Z (Ec e.nm:Key)<|V.int 0) (Ec e.nm:Key)=some (.int 0):=by rw[uG,ZJ rfl]
  generalize yp Z (Ec e.nm:Key) (V.int 0)=I at s3 u A a0 bx C v3 hB;generalize upd M n (.dK I)=H3 at s3 u A a0 hB;clear ht a2 O s2 sd aa;let#[t',ed,lo]:=lU e an;have ht:=a0;rw[ed]at ht;let#[c',r,ec,hc]:=kC ht;cases ec
  by_cases wl:t'.word="leaf"
  .let#[g,rfl]:∃g,t'=.leaf g:=by
    cases t' with
    |leaf g=>let:=#[g,rfl]
    |tree rs=>let:=absurd wl (show("tree":Str)≠"leaf" by lk)
    |note y1 y2 y3=>let:=absurd wl (show("note":Str)≠"leaf" by lk)
   have lo:=lo g rfl;have as:CN e.d=some g:=by rw[ed,Ir]
   let#[c',b,ec,hc,hb]:=xU ht;cases ec;let:=hB #[tt,_,_,_,rfl,rfl,hc,rfl,rfl,true,congrArg V.bl<|Zm rfl,UJ ?_];let:=zT #[G,rfl,#[_,za.of A],xQ (K:=K) (a:=G) (xs:=((OB (Cq<|U.take i).1).map λp=>p.e.nm).map V.str) (λj σ H4=>∃(o8 o9:Option V) (v:V),σ=[some<|.ref a,some<|.ref l,some<|.ref n,some<|.int ((Cq<|U.take i).1.map Mx).sum,some<|.ref G,some<|.str e.nm,some<|.ref tt,some v,o8,o9]/\zz H3 H4/\jz K H4 g ((((OB (Cq<|U.take i).1).take j).flatMap Xa).foldl (least g) none) v) #[o8,o9,.non,rfl,zz.refl _,rfl] (λj σ H4 _ z=>by let#[_,_,_,_,e,_]:=z;let:=za.of<|e _ _ A) ?_ ?_]
   .rintro j v σ H4 E J Y hE hJ ⟨p8,p9,v,rfl,s,la⟩;rw[Zz,Zz]at Y;let#[y,hy,rfl]:=ZO.mp Y;let#[q,hq,rfl]:=ZO.mp hy;rw[yc hq,List.flatMap_append,Yl]at hE;let#[qG,qs]:=Jj.mp<|Zy hq;let#[old,ho]:=Ju.mp qs;let#[qd,qo]:=lf.ln (gG q qG) ho;have L:=s3.trans s;have fb:[q].flatMap Xa=if q.st<4 then[(q.e.nm,old,q.st)] else[]:=by
     show Xa q++[]=_;rw[ZW];unfold Xa;rw[ho]
    rw[fb]at hE;generalize (((OB (Cq<|U.take i).1).take j).flatMap Xa).foldl (least g) none=z at la hE;let#[ix,i1,i2,i3,aa]:=qQ<|sh.same L;let:=hJ<|zT #[a,ix,_,rfl,aa,rfl,?_];let:=thing L (gG q qG) λt2 h2=>?_;rw[qd]at h2;let#[c2,b2,ec,bh,be]:=xU h2;cases ec;have c0:=kK qo.1 lo.1;let:=#[t2,_,_,_,rfl,rfl,bh,rfl,tt,_,_,_,rfl,rfl,s.yu hc,rfl,b2,b,old,g,rfl,be,s.yu hb,by have:=qo.1;lia,by have:=lo.1;lia,qo.2,lo.2,λsp H5 s5 b4 b5 bd=>#[sp,_,rfl,bd,c0.1,c0.2,λH6 s6=>zT ?_]];have X:=(s.trans s5).trans s6;have a7:=la.same<|s5.trans s6;have Y:=C q qG;let:=#[n,.int q.st,rfl,by rw[<-Y];let:=wu.k (k:=(Ec q.e.nm:Key))<|X _ _ u,_,rfl,UI (λc1=>?_)<|λc1=>UB<|hE.nx _ _ #[_,_,v,rfl,X,?_]]
    .have c1:q.st<4:=by have:=ZA c1;lia
     rw[ZJ c1]at hE;show b9 _ _ _ _ _;cases z with
     |none =>
      cases(show v=.non from a7);let:=#[rfl,true,congrArg V.bl<|Zm rfl,UJ<|UJ #[UC 2,λt nt=>zT<|hE.nx _ _ #[_,_,_,rfl,X.trans<|zD nt,t,rfl,yh.of zB]]]
     |some y =>
      let#[ty,rfl,a5]:=a7;let:=#[rfl,false,congrArg V.bl (ZE<|λz=>nomatch z),UB #[ty,_,_,_,rfl,rfl,a5,rfl,_,rfl,UI (λc2=>?_)<|λc2=>?_]]
      .have e2:least g (some y) (q.e.nm,old,q.st)=some (q.e.nm,old,q.st):=ZJ<|ZA c2;let:=#[UC 2,λt nt=>zT<|hE.nx _ _ #[_,_,_,rfl,X.trans<|zD nt,?_]];show jz K _ g (least g (some y) (q.e.nm,old,q.st)) _;rw[e2];let:=#[t,rfl,yh.of zB]
      .have e2:least g (some y) (q.e.nm,old,q.st)=some y:=ZI λz=>c2<|Zm z;let:=hE.nx _ _ #[_,_,_,rfl,X,?_];show jz K _ g (least g (some y) (q.e.nm,old,q.st)) _;rw[e2];let:=#[ty,rfl,a5]
    .rwa[ZI<|λy=>c1<|Zm<|⋯]
   .rintro σ H4 ⟨p8,p9,v,rfl,s,la⟩;rw[Zj,Zj,ZS,<-bf]at la;have bl:=OI g (Cq<|U.take i).2 (none,(g.length:Int));have pb:(UE (Cq<|U.take i).2 e).b=(best (Cq<|U.take i).2 g).1:=by
     show(CN e.d).bind _=_;rw[as];rfl
    have N:∀o,(UE (Cq<|U.take i).2 e).b=o->Mx (UE (Cq<|U.take i).2 e)=(match o with
      |some x=>cst g x
      |none=>(g.length:Int))/\(UE (Cq<|U.take i).2 e).st=match o with
      |none=>0
      |some x=>x.2.2+1:=λo h=>by
     unfold Mx Pe.st;rw[show(UE (Cq<|U.take i).2 e).e=e from rfl,as,h];cases o<;>let:=#[rfl,rfl]
    have zm:∀x,(Cq<|U.take i).2.foldl (least g) none=some x->x∈(Cq<|U.take i).2:=λx=>N7;generalize (Cq<|U.take i).2.foldl (least g) none=z at la bl zm;have L:=s3.trans s;let:=#[λa9 H'=>∃ab,a9=[some<|.ref a,some<|.ref l,some<|.ref n,some<|.int<|((Cq<|U.take i).1.map Mx).sum+Mx (UE (Cq<|U.take i).2 e),some<|.ref G,some<|.str e.nm,some<|.ref tt,some v,p8,p9]/\zz H H'/\H' n=some (.dK ab)/\ab.length<=2*(i+1)/\H' G=some (.lst<|((OB (Cq<|U.take i).1).map λp=>p.e.nm).map V.str)/\UH ab (Ec e.nm:Key)=some (.int (UE (Cq<|U.take i).2 e).st)/\gO ab (Cq<|U.take i).1,?_,?_]
    .have bl:(UE (Cq<|U.take i).2 e).b=_:=pb.trans<|congrArg Prod.fst bl;cases z with
     |none =>
      cases(show v=.non from la);have N:=N none bl;rw[N.1,N.2];let:=#[rfl,false,congrArg V.bl (by rw[Zm rfl];rfl),UB<|UB #[tt,_,_,_,rfl,rfl,s.yu hc,rfl,b,_,rfl,.inr<|s.yu hb,?_]];rw[Zj];let:=#[I,rfl,L,s _ _ u,⋯,s _ _ A,v3,C]
     |some x =>
      let#[tz,rfl,hz]:=la;let:=#[rfl,true,congrArg V.bl (by rw[ZE<|λz=>nomatch z];rfl),UJ #[tz,_,_,_,rfl,rfl,hz,rfl,tt,_,_,_,rfl,rfl,s.yu hc,rfl,b,_,rfl,.inr<|s.yu hb,_,rfl,UI (λc=>?_)<|λc=>?_]]
      .rw[Zj]at c;have c:cst g x<(g.length:Int):=ZA c;have N:=N (some x)<|bl.trans<|congrArg Prod.fst<|ZJ c;rw[N.1,N.2];let#[y,hy,y1,_,y3,_]:=b1 x<|zm x rfl;have Y:=C y hy;rw[y1,y3]at Y;let:=#[tz,_,_,_,rfl,rfl,hz,rfl,n,.int x.2.2,rfl,by rw[<-Y];let:=wu.k (k:=(Ec x.1:Key))<|s _ _ u,n,_,rfl,tW.k (k:=(Ec e.nm:Key)) (s _ _ u)<|yJ<|⋯,?_];have z5:=jC (K:=K) (λb hb=>by rw[Zk.mp hb];let:=jZ<|s _ _ u) (z6 (c:=n) (o:=.dK<|yp I (Ec e.nm:Key)<|V.int<|(x.2.2:Int)+1)) hz;have a6:=xH I (Ec e.nm:Key)<|V.int<|(x.2.2:Int)+1;dsimp only;let:=#[tz,_,_,_,rfl,rfl,z5,rfl,#[_,rfl,An.zz.pM L R,zB,⋯,by rw[zH<|Er fa];let:=s _ _ A,by rw[uG,ZJ rfl];rfl,C.put nn]]
      .rw[Zj]at c;have c:¬cst g x<(g.length:Int):=λz=>c<|Zm z;have N:=N none<|bl.trans<|congrArg Prod.fst<|ZI c;rw[N.1,N.2];let:=#[tt,_,_,_,rfl,rfl,s.yu hc,rfl,b,_,rfl,.inr<|s.yu hb,?_];rw[Zj];let:=#[I,rfl,L,s _ _ u,⋯,s _ _ A,v3,C]
    .rintro a9 H5 ⟨b0,rfl,s5,bo,a6,a3,v5,b3⟩;rw[as,ZJ<|show(some g).isSome=true from rfl]at lv;let:=#[.inl #[rfl,_,za.of a3],G,_,_,rfl,rfl,a3,yJ (by rw[Zj,Zj];lia),hD.nx _ _ #[some<|.str e.nm,some<|.ref tt,some v,p8,p9,b0,by rw[Zu,VE,List.map_singleton,List.sum_singleton],An.zz.pM s5 a8,by rw[zH fa];let:=bo,a6,by rw[lv,Zu,Zu];let:=zB,λp hp=>?_]]
     rcases ZD.mp hp with z|z
     .let:=b3 p z
     .rwa[Zk.mp z]
  .have ln:CN e.d=none:=by
    rw[ed];cases t' with
    |leaf g=>let:=absurd rfl wl
    |tree rs=>let:=Im rs
    |note y1 y2 y3=>rfl
   have pb:(UE (Cq<|U.take i).2 e).b=none:=by
    show(CN e.d).bind _=_;rw[ln];rfl
   have e0:([UE (Cq<|U.take i).2 e].map Mx).sum=0:=by
    rw[List.map_singleton,List.sum_singleton];unfold Mx;rw[show(UE (Cq<|U.take i).2 e).e=e from rfl,ln]
   rw[ln,ZI (λz=>nomatch z),ZW]at lv;let:=hB #[tt,_,_,_,rfl,rfl,hc,uI _ _,rfl,false,congrArg V.bl<|ZE λz=>wl<|V.str.inj z,UB<|hD.nx _ _ #[some<|.str e.nm,some<|.ref tt,o7,o8,o9,I,by rw[Zu,VE,e0,Int.add_zero];rfl,s3,u,⋯,by rw[lv];let:=A,λp hp=>?_]]
   .rcases ZD.mp hp with z|z
    .let:=C p z
    .rw[Zk.mp z];have:(UE (Cq<|U.take i).2 e).st=0:=by unfold Pe.st;rw[pb]
     rwa[this]
 .rintro σ M ⟨o5,o6,o7,o8,o9,Z,rfl,s2,O,kl,a2,sd⟩;rw[Zj,Zj,ZS]at sd ⊢;let:=#[UC 2,λt nt=>?_];let:=k t _ (s2.trans<|zD nt) #[n,Z,sh.ex.not R,yh.of zB,(zD nt) _ _ O,sd]
end Cj
inductive pY (K:Co)(D:D8)(vs:Di)(H:Hp)(Q:VK)(e3:XK):Prop
 |mk (a l t:D8) (c:Int) (fp gp:Dc) (Ts:Dh) (h0:vs=[.ref a,.ref l,.ref t,.int c]) (h1:vz K D H a fp Ts) (h2:za K H l<|(Ts.map En.nm).map V.str) (h3:nW K H Ts t gp) (h4:(∀y∈Ts.map En.nm,Ei y=true)) (h5:∀H',zz H H'->Q (.bl true) H'):pY K D vs H Q e3
theorem Xk (ls:By):EG (.list<|ls.map .str) (.list<|ls.map .str)=true:=by
 show EV _ _=true;rw[uP];let:=Zm rfl
theorem nW.same (s:zz H H')(h:nW K H Ts t fp):nW K H' Ts t fp :=
 let ⟨fo,kv,h0,h1,h2,h3⟩:=h;#[fo,kv,h0,s.yu h1,s _ _ h2,h3]
theorem nW.off {c:Dc}(n:∀b∈c,∀xs,¬Rd H b (.tup xs))(o:Off c H H')(h:nW K H Ts t c):nW K H' Ts t c :=
 let ⟨fo,kv,h0,h1,h2,h3⟩:=h;#[fo,kv,h0,jC n o h1,o _ _ h0 h2,h3]
namespace Ck
abbrev st:Stmt:=top 78
theorem sc:zx ["_law_pack","_law_names","_law_plan_here","_law_cell","_law_k","_law_step","_law_name","_law_turn","_law_ask"] ["_law_pack","_law_names","_law_plan_here","_law_cell"] (zI st):=CC
include T in
theorem ok (F:xj0 K "_law_names_like" st f fd)(Qh:Met P w K mg base aP 2 "has" ["self","name"]<|rR K aP)(Qi:ug P w K mg base aP 9 "steps" ["self","name"]<|ux K aP aN 5)(Qn:wU P w K mg base 1 "_law_whole" ["_law_found","_law_due"] rJ):zc P w K mg base CA 10 f fd ["_law_pack","_law_names","_law_plan_here","_law_cell"] (pY K aP):=by
 let:=F.ok sc λ_ _ _ _ H vs Q E v h=>?_;let#[a,l,t,c,O,gp,U,rfl,pk,hl,pl,ab,k]:=h;have ul:=pk.good.len;let#[g,lf,N,d1,d2,aa,ts,_,nd,R,_]:=id pk;let#[fo,kv,_,ht,C,sd]:=pl;let:=#[_,(zE (yM Ep rfl (x4 rfl T.range<|zA (zK zN (by rfl) T.len ZV<|zA (pv 1) zC) zC) (zR (i:=4) sc.nd rfl<|Ew rfl)<|zE (Cu (i:=5) sc.nd<|zP z8 zG<|zP v7 (zP yH (pv 3) zG)<|zP Mn (zK zN (by rfl) T.len ZV<|zA (pv 1) zC) zG)<|zE (Cu (i:=6) sc.nd<|zV (xu:Cy _<|tY K) (pv 1)<|zP yH (zP z8 (zP v7 (pv 4)<|pv 5)<|zP z9 (pv 3) zG)<|zK zN (by rfl) T.len ZV<|zA (pv 1) zC)<|zF<|yM Ep rfl (x4 rfl T.range<|zA zG zC) (zR (i:=7) sc.nd rfl<|Ew rfl)<|zE (Cu (i:=8) sc.nd<|zP yH (zP z8 (zP z8 (zP z9 (pv 3) zG)<|pv 4)<|pv 7) zG)<|xN (yG (PW.pt<|jX (zO yX (pv 8) zG<|zS _)<|qA<|zO Oh (yK (pv 0) T.wR Qh v.m<|zA (pv 6) zC) xT<|zS _) (zF<|zQ xT) zU)<|zF<|yG (PW.pt<|jX (zO yX (pv 8) zG<|zS _)<|qA<|xE<|zY (K:=K)<|zJ Qn v.m<|zA (qV (pv 0) T.wR Qi v.m yE<|zA (pv 6) zC)<|zA (kA v.wH (zV (zj:Cy _<|yr K) (pv 2) zG) (pv 6)<|λ_ _=>rfl) zC) (zF<|zQ xT) zU)<|zF<|zQ xT),?_]
 let:=#[l,_,rfl,.inl hl,_,rfl,⋯,by rw[Zj,Zj];lia,jK (lo:=0) (n:=((((U.map En.nm).map V.str).length:Nat):Int).toNat) (λi o r=>∃(G I L b d:Option V),o=[some<|.ref a,some<|.ref l,some<|.ref t,some<|.int c,G,I,L,b,d]/\r=H)
  #[none,none,none,none,none,rfl,rfl] ?_ ?_]
 .rintro i o r D B hi hD hB ⟨G,I,L,b,d,rfl,rfl⟩;rw[Zj,Zj]at hi;have n0:0<U.length:=⋯
  have c0:=Z9 c (∅:(2:Int)≠0);have u:=Z3 c (∅:(0:Int)<2);let:=hB (zT #[(∅:(0:Int)<2),l,_,rfl,.inl hl,?_,?_])
  .let:=.inl #[⋯,⋯]
  rw[Zj,Zj];let:=#[.inl #[⋯,⋯],#[∅,∅],l,_,rfl,.inl hl,?_,?_]
  .rw[Zj,Zj];lia
  rw[Zj,Zj];generalize (0+(i:Int))*(1+c % 2*((U.length:Int)-2))+c / 2=z;have z0:=Z9 z (show(U.length:Int)≠0 by lia);have z1:=Z3 z (show(0:Int)<(U.length:Int) by lia);let#[y,Z,ey]:=kP (f:=V.str) (xs:=U.map En.nm) (i:=z % (U.length:Int)) z0 (by rwa[Zj]);rw[Zz]at Z;let#[e,he,rfl]:=ZO.mp Z;have hd:UT U (.str e.nm)=true:=Zm<|Zo.mpr #[e,Zy he,rfl];let:=#[l,_,_,_,rfl,rfl,hl,ey,zT #[_,rfl,∅,∅,jK (lo:=0) (n:=(2:Int).toNat) (λj o s=>∃(b d:Option V),o=[some<|.ref a,some<|.ref l,some<|.ref t,some<|.int c,some<|.int<|0+(i:Int),some<|.int<|1+c % 2*((U.length:Int)-2),some<|.str e.nm,b,d]/\s=r) #[b,d,rfl,rfl] ?_ ?_]]
  .rintro j o s E J hj S hJ ⟨b,d,rfl,rfl⟩;let:=hJ (zT #[#[∅,∅],(∅:(0:Int)<2),zT ?_]);let:=#[λq M=>q=[some<|.ref a,some<|.ref l,some<|.ref t,some<|.int c,some<|.int<|0+(i:Int),some<|.int<|1+c % 2*((U.length:Int)-2),some<|.str e.nm,some<|.int<|0+(j:Int),some<|.int<|(c / 2+(0+(i:Int))+(0+(j:Int))) % 2]/\M=s,?_,?_]
   .let:=#[rfl,_,rfl,UI (λu=>#[a,N,_,rfl,R,rfl,a,O,U,.str e.nm,.str e.nm,rfl,pk,rfl,_,_,rfl,rfl,false,?_,UB #[rfl,rfl]])<|λu=>UB #[rfl,rfl]];rw[hd];rfl
   .rintro q M ⟨rfl,rfl⟩;let:=#[rfl,_,rfl,UI (λu=>#[a,N,_,rfl,R,rfl,a,O,U,.str e.nm,.str e.nm,rfl,∅,pk,rfl,λp X A=>#[PX X,?_],λno=>by rw[hd]at no;cases no])<|λu=>UB<|S.nx _ _ #[_,_,rfl,rfl]];have Y:=sd p X;have A:e.nm=p.e.nm:=by injection A
    rw[<-A]at Y;let:=#[t,_,_,_,rfl,rfl,ht,rfl,fo,_,rfl,by rw[<-Y];let:=wu.k (k:=(Ec e.nm:Key)) C,_,rfl,true,rfl,UB<|S.nx _ _ #[_,_,rfl,rfl]]
  .rintro o s ⟨b,d,rfl,rfl⟩;let:=hD.nx _ _ #[_,_,_,_,_,rfl,rfl]
 .rintro o r ⟨G,I,L,b,d,rfl,rfl⟩;let:=k _<|zz.refl _
end Ck
namespace Cm
abbrev st:Stmt:=top 77
theorem sc:zx ["_law_pack","_law_names","_law_plan_here","_law_cell","_law_turn","_law_ask"] ["_law_pack","_law_names","_law_plan_here","_law_cell"] (zI st):=CC
include T in
theorem ok (F:xj0 K "_law_like" st f fd)(R:Met P w K mg base aP 1 "names" ["self"]<|ut K aP)(Qn:wU P w K mg base 1 "_law_whole" ["_law_found","_law_due"] rJ)(Z:Met P w K mg base aP 7 "weight" ["self"]<|sE K aP)(Zd:wU P w K mg base 10 "_law_names_like" ["_law_pack","_law_names","_law_plan_here","_law_cell"]<|pY K aP):zc P w K mg base CA 11 f fd ["_law_pack","_law_names","_law_plan_here","_law_cell"] (pY K aP):=by
 let:=F.ok sc λ_ _ _ _ H vs Q E p h=>?_;let#[a,l,t,c,y,gp,U,rfl,pk,hl,pl,u,k]:=h;let#[g,lf,I,d1,d2,ab,ts,_,nd,J,_]:=id pk;let:=#[_,(zE (yM Ep rfl (x4 rfl T.range<|zA zG zC) (zR (i:=4) sc.nd rfl<|Ew rfl)<|zE (Cu (i:=5) sc.nd<|zP yH (zP z8 (pv 3)<|zP v7 (pv 4)<|zP z8 zG<|zP yH (zP z9 (pv 3) zG) zG) zG)<|xN (yG (PW.pt<|jX (zO yX (pv 5) zG<|zS _)<|qA<|PW.pt<|vD (xE<|zY (K:=K)<|zK (j7 (K:=K)) (by rfl) T.isinstance ZX<|zA (y9 (pv 0) T.wR R p.m)<|zA (y6 (v:=.ty "list") rfl T.list Yd rfl) zC)<|kN<|zO (vZ p.units) (y9 (pv 0) T.wR R p.m) (pv 1)<|zS _) (zF<|zQ xT) zU)<|xN (yG (PW.pt<|jX (zO yX (pv 5) zG<|zS _)<|qA<|xE<|zY (K:=K)<|zJ Qn p.m<|zA (y9 (pv 0) T.wR Z p.m)<|zA (zV (zj:Cy _<|yr K) (pv 2) zG) zC) (zF<|zQ xT) zU)<|zF<|yG (PW.pt<|jX (zO yX (pv 5) zG<|zS _)<|qA<|xE<|zY (K:=K)<|zJ Zd p.m<|zA (pv 0)<|zA (pv 1)<|zA (pv 2)<|zA (zP z9 (pv 3) zG) zC) (zF<|zQ xT) zU)<|zF<|zQ xT),?_]
 have em:(U.map λe=>V.str e.nm)=(U.map En.nm).map V.str:=by rw[ZK];rfl
 let:=#[_,rfl,∅,∅,jK (lo:=0) (n:=(3:Int).toNat) (λi O G=>∃(L M:Option V),O=[some<|.ref a,some<|.ref l,some<|.ref t,some<|.int c,L,M]/\zz H G) #[none,none,rfl,zz.refl _] ?_ ?_]
 .rintro i O G D B hi S hB ⟨L,M,rfl,q⟩;have i3:i<3:=hi;let:=hB (zT #[#[∅,∅],(∅:(0:Int)<2),.inl #[⋯,⋯],(∅:(0:Int)<3),zT ?_]);generalize (c+(0+(i:Int))*(1+c / 3 % 2)) % 3=z;let:=#[λb C=>b=[some<|.ref a,some<|.ref l,some<|.ref t,some<|.int c,some<|.int<|0+(i:Int),some<|.int z]/\zz H C,?_,?_]
  .let:=#[rfl,_,rfl,UI (λr=>?_)<|λr=>UB #[rfl,q]];let:=#[a,I,_,rfl,q _ _ J,rfl,a,y,U,rfl,pk.same q,λl1 n1=>?_];rw[em];have N:=q.trans<|zD (o:=.lst<|(U.map En.nm).map V.str) n1;let:=#[_,_,_,true,rfl,.lst zB,(T.kit "list" (by simp[kinds]) "list"<|by simp[kinds]).trans<|∅,true,rfl,UB #[a,I,_,rfl,N _ _ J,rfl,a,y,U,rfl,pk.same N,λl2 n2=>?_]];rw[em];have X:=N.trans<|zD (o:=.lst<|(U.map En.nm).map V.str) n2;let:=qy.mk rfl<|An12.su (d:=.list<|(U.map En.nm).map .str) #[l2,_,rfl,za.of zB,zy.strs _] #[l,_,rfl,X.seq hl,zy.strs _] (yT u).1 (Xk _) #[false,rfl,UB #[rfl,X]]
  rintro b H3 ⟨rfl,A⟩;let:=#[λb C=>b=[some<|.ref a,some<|.ref l,some<|.ref t,some<|.int c,some<|.int<|0+(i:Int),some<|.int z]/\zz H C,?_,?_]
  .let:=#[rfl,_,rfl,UI (λr=>?_)<|λr=>UB #[rfl,A]];let#[fo,kv,_,ht,aa,sd]:=pl;let:=#[a,I,_,rfl,A _ _ J,rfl,a,y,U,rfl,pk.same A,λY j=>?_];have s:=A.trans j;let:=#[t,_,_,_,rfl,rfl,s.yu ht,rfl,_,rfl,true,rfl,UB #[rfl,s]]
  rintro b Y ⟨rfl,j⟩;let:=#[rfl,_,rfl,UI (λr=>?_)<|λr=>UB<|S.nx _ _ #[_,_,rfl,j]];let:=#[#[∅,∅],a,l,t,c / 6,y,gp,U,rfl,pk.same j,j.seq hl,pl.same j,u,λH5 s5=>#[true,rfl,UB<|S.nx _ _ #[_,_,rfl,j.trans s5]]]
 .rintro O G ⟨L,M,rfl,q⟩;let:=k _ q
end Cm
inductive mR (K:Co)(vs:Di)(H:Hp)(Q:VK)(e3:XK):Prop
 |mk (a:D8) (ns:List Int) (h0:vs=[.ref a]) (h1:za K H a<|ns.map V.int) (h2:ns.length<=63) (h3:∀H',Q (.bl true) H'):mR K vs H Q e3
theorem v9 {b:Dc}(s:zz H0 H)(d:∀c∈b,H0 c=none)(o:Off b H H'):zz H0 H':=λc x e=>o c x (λz=>by rw[d c z]at e;cases e)<|s c x e
theorem XJ {H:Hp}{x b:D8}{g h:HO}{i:Dc}(nx:H x=none)(f:H b=none)(ne:b≠x)(d:∀c∈i,c=x\/c=b\/(L2.upd (L2.upd H b g) x h) c=none)(o:Off [x] (L2.upd (L2.upd H b g) x h) H'):zz H H'/\∀c∈i,H c=none:=by
 have j:zz H (L2.upd (L2.upd H b g) x h):=(zD f).trans (zD<|by rwa[zH<|Er ne]);let:=#[λc u e=>o c u (λz=>?_)<|j c u e,λc l=>?_]
 .rw[Zk.mp z,nx]at e;cases e
 .rcases d c l with z|z|z
  .rwa[z]
  .rwa[z]
  .let:=j.free z
theorem WH (ns:List Int)(a b:Nat):∃ms:List Int,UX (ns.map V.int) (some (a:Int)) (some (b:Int))=ms.map V.int/\ms.length<=b-a:=by
 have e:UX (ns.map V.int) (some (a:Int)) (some (b:Int))=((ns.map V.int).drop<|min a (ns.map V.int).length).take (min b (ns.map V.int).length-min a (ns.map V.int).length):=by
  unfold UX;rw[HT.tL,HT.tL]
 let:=#[(ns.drop<|min a (ns.map V.int).length).take<|min b (ns.map V.int).length-min a (ns.map V.int).length,?_,?_]
 .rw[e,JX,V2]
 .rw[ZL];let:=Z2 (Nat.min_le_left _ _) ?_;generalize (ns.map V.int).length=n
  rcases Nat.le_total a n with h|h
  .rw[VD h];let:=Nat.sub_le_sub_right (Nat.min_le_left _ _) _
  .rw[Ut h,Nat.sub_eq_zero_of_le<|VW _ _];let:=ZP _
theorem Nz {L:By}:∀{ys:Di},(∀z∈ys,z∈L.map V.str)->∃rs:By,ys=rs.map V.str/\∀r∈rs,r∈L
 |[],_=>#[[],rfl,λr b=>(nomatch b)]
 |y::ys,h=>by
  let#[rs,rfl,b]:=Nz λz e=>h z<|Zp _ e;let#[r,c,rfl]:=Zo.mp<|h y Zt;let:=#[r::rs,rfl,λq d=>(Zx.mp d).elim (λz=>z▸c)<|b q]
theorem Kg {a b:By}(h:a.map Ey=b.map .str):a=b:=by
 have:=congrArg (List.map Kp) h;rw[ZK,ZK]at this;have i:Kp∘Ey=id:=rfl;rw[i,JK,JK]at this;let:=this
theorem Te (xs:By)(x:Str):(xs.map Ey).any (λy=>EG y<|.str x)=decide (x∈xs):=by
 rw[List.any_map];show xs.any (λy=>decide (y=x))=_
 by_cases h:x∈xs
 .rw[Zm h,YB];let:=#[x,h,Zm rfl]
 .rw[ZE h,VL];let:=λy b z=>h<|ZA z▸b
theorem TM {U:Dh}{d:Eg}(h:(true !=(((U.map En.nm).map Ey).any λy=>EG y d))=true):UT U d=false:=by
 cases d with
 |str x =>
  rw[Te]at h;show decide (x∈U.map En.nm)=false;cases q:decide (x∈U.map En.nm) with
  |false=>rfl
  |true=>rw[q]at h;cases h
 |none=>rfl
 |bool b=>rfl
 |int i=>rfl
 |list ds=>rfl
 |tuple ds=>rfl
 |dict Dl=>rfl
def TV:De:=[.none,.str "",.str "L1.99",.int 5,.list [.str "a"]]
theorem TW (g:wK S)(lc:LC S)(n:UF S<=99){d:Eg}(h:d∈TV):UT S d=false:=by
 have b:∀x:Str,x∉S.map En.nm->UT S (.str x)=false:=λx c=>ZE c;unfold TV at h;simp only[Zx,Yg,Jo]at h
 rcases h with rfl|rfl|rfl|rfl|rfl
 .rfl
 .let:=b _ (TR<|by lk)
 .let:=b _ (R4 g lc n)
 .rfl
 .rfl
def tB:By:=["later","and","more"]
theorem oF:UR tB:=#[∅,by
 have:tB.all UG=true:=by lk
 let:=ZQ.mp this]
theorem P5 (n:Ns S):Cr S (.leaf tB)=(S++[UY S<|.leaf tB],(UY S<|.leaf tB).nm):=by
 unfold Cr;let:=dif_neg λ⟨x,e,c,_,b⟩=>n e c tB b "later" Zt (by lk)
theorem RK {S:Dh}{F G:By}{p:Str->Prop}(h:∀x,x∈F↔p x)(g:∀x,x∈G↔p x):(S.filter λe=>decide (e.nm∈F))=S.filter λe=>decide (e.nm∈G) :=
 List.filter_congr λe _=>by rw[Vx,h,g]
structure Rc (S:Dh)(rs:By)(Ts:Dh):Prop where
 sub:Ts.Sublist S
 mem:∀e,e∈Ts↔e∈S/\pP (CK S) rs e.nm
theorem Rc.mk' {F:By}(h:∀x,x∈F↔pP (CK S) rs x):Rc S rs (S.filter λe=>decide (e.nm∈F)):=#[List.filter_sublist,λe=>by rw[Jj,ZY,h]]
section
variable {S Ts:Dh}{rs:By}
theorem Rc.cs (h:Rc S rs Ts)(c:Cs S)(g:(S.map En.nm).Nodup):Cs Ts:=λe d n j=>by
 let#[b,r]:=(h.mem e).mp d;have l:pP (CK S) rs n:=.step r (by rwa[X2 g b]);let#[f,i,rfl]:=Zo.mp<|c e b n j;let:=Zo.mpr #[f,(h.mem f).mpr #[i,l],rfl]
theorem Rc.roots (h:Rc S rs Ts)(d:∀r∈rs,r∈S.map En.nm):∀r∈rs,r∈Ts.map En.nm:=λr b=>by
 let#[e,c,rfl]:=Zo.mp<|d r b;let:=Zo.mpr #[e,(h.mem e).mpr #[c,.root b],rfl]
theorem Rc.lQ (h:Rc S rs Ts)(c:Cs S)(g:(S.map En.nm).Nodup)(d:∀r∈rs,r∈S.map En.nm){x:Str}(r:pP (CK S) rs x):pP (CK Ts) rs x:=by
 induction r with
 |root h=>let:=.root h
 |step h1 h2 ih =>
  let:=.step ih ?_;let#[e,b,rfl]:=Zo.mp<|Ii c g d h1;rw[X2 g b]at h2;rwa[X2 (g.sublist<|h.sub.map _)<|(h.mem e).mpr #[b,h1]]
theorem Rc.again (h:Rc S rs Ts)(c:Cs S)(g:(S.map En.nm).Nodup)(f:∀r∈rs,r∈S.map En.nm){F:By}(b:∀x,x∈F↔pP (CK Ts) rs x):(Ts.filter λe=>decide (e.nm∈F))=Ts :=
 List.filter_eq_self.mpr λe d=>Zm<|(b _).mpr<|h.lQ c g f ((h.mem e).mp d).2
theorem TU (h:pP (CK S) [] x):False:=by
 induction h with
 |root h=>cases h
 |step _ _ ih=>let:=ih
theorem MV {F:By}(b:∀x,x∈F↔pP (CK S) (S.map En.nm) x):(S.filter λe=>decide (e.nm∈F))=S :=
 List.filter_eq_self.mpr λe c=>Zm<|(b _).mpr<|.root<|Zo.mpr #[e,c,rfl]
end
theorem vJ {rs:By}{Q:D8->Hp->Prop}{E:XK}(st:wz P w K aC aP c H a fp0 S)(th:∀e∈S,U5 e)(cs:Cs S)(lf:Lf S)(hl:za K H rl<|rs.map V.str)(p:∀r∈rs,r∈S.map En.nm)(i:rs.length<=1000)
  (k:∀(x:D8) (fp:Dc) (H':Hp) (F:By),zz H H'->(∀y,y∈F↔pP (CK S) rs y)->vz K aP H' x fp (S.filter λe=>decide (e.nm∈F))->(∀b∈fp,H b=none)->Q x H'):∀x dx,H x=none->H dx=none->dx≠x->rN P w K aC aP aN [.ref x,.ref a,.ref rl] (upd (upd H dx<|.own x) x<|.ins aP dx []) (λv H2=>v=.non/\Q x H2) E:=λx dx nx f ne=>by
 let:=#[x,dx,c,a,rl,fp0,S,rs.map .str,rs.map V.str,rfl,zB,by rw[zH ne];let:=zB,ne,λH' o=>?_,th,cs,lf,by rw[Zj];let:=i,λt j q fp H' F n g o pk=>#[rfl,?_],λ⟨d,hd,no⟩=>?_]
 .have s:=XL nx f o;let:=#[st.same s,s.seq hl,zy.strs rs]
 .have:=Kg j;subst this;let#[s,l]:=XJ nx f ne g o;let:=k x fp H' F s n pk l
 .let#[r,h,rfl]:=Zo.mp hd;let:=absurd (p r h)<|YM no
theorem Gj {rs:By}{Q:VK}{E:XK}(st:wz P w K aC aP c H a fp0 S)(th:∀e∈S,U5 e)(cs:Cs S)(hl:za K H rl<|rs.map V.str)(i:∀r∈rs,r∈S.map En.nm)(f:rs.length<=1000)
  (k:∀(l:D8) (H':Hp) (F:By),zz H H'->(∀y,y∈F↔pP (CK S) rs y)->H' l=some (.lst<|((S.filter λe=>decide (e.nm∈F)).map En.nm).map V.str)->Q (.ref l) H'):tU P w K aC aP aN [.ref a,.ref rl] H Q E:=by
 let:=#[c,a,rl,fp0,S,rs.map .str,rs.map V.str,rfl,st,th,cs,hl,zy.strs rs,by rw[Zj];let:=f,λn g j l H' s nl ⟨F,h,hl⟩=>?_,λ⟨d,hd,no⟩=>?_]
 .have:=Kg g;subst this;let:=k l H' F s h ?_;rw[hl,List.filter_map];rfl
 .let#[r,b,rfl]:=Zo.mp hd;let:=absurd (i r b)<|YM no
theorem FE {H G:Hp}{l:D8}(n:H l=none)(e:upd H l o=G):zz H G/\G l=some o:=e▸#[zD n,zB]
structure Lw (P:Ea)(w:Ef)(K:Co)(C D:D8)(H0 H:Hp)(S U:Dh)(x ln tp p1 p2 p4:D8)(fp f1 f2 f4:Dc):Prop where
 s:zz H0 H
 sh:xr P w K C H x fp S
 hl:H ln=some (.lst<|(U.map En.nm).map V.str)
 pl:nW K H U tp fp
 k1:vz K D H p1 f1 U
 k2:vz K D H p2 f2 U
 k4:vz K D H p4 f4 U
theorem Lw.same (h:Lw P w K aC aP H0 H S U x ln tp p1 p2 p4 fp f1 f2 f4)(s:zz H G):Lw P w K aC aP H0 G S U x ln tp p1 p2 p4 fp f1 f2 f4 :=
 #[h.s.trans s,h.sh.same s,s _ _ h.hl,h.pl.same s,h.k1.same s,h.k2.same s,h.k4.same s]
namespace Cn
abbrev st:Stmt:=top 79
theorem sc:zx ["_law_script","_law_shelf","_law_every","_law_roots","_law_names","_law_plan_here","_law_handed","_law_pack","_law_again","_law_thinned","_law_odd","_law_at","_law_later","_law_bare","_law_told","_law_name"] ["_law_script"] (zI st):=CC
include T in
theorem ok (F:xj0 K "law" st f fd)(QB:fO P w K mg base aC 10 "Shelf" ["self","base"]<|lW P w K aC aP)(Ze:wU P w K mg base 8 "_law_chain" ["_law_shelf","_law_cell"]<|oX P w K aC)(QC:wU P w K mg base 14 "_law_filled" ["_law_shelf","_law_cells"]<|pW P w K aC)(Qj:wU P w K mg base 1 "_law_cell_at" ["_law_script","_law_k"]<|oh K)
  (Qc:Met P w K mg base aC 1 "names" ["self"]<|tM P w K aC) (Zf:wU P w K mg base 5 "_law_closed" ["_law_store","_law_roots"]<|qe P w K aC) (Zg:wU P w K mg base 7 "_law_plan" ["_law_shelf","_law_names"]<|lM P w K aC) (Qg:iM P w K mg base aP 12 "Pack" ["self","store","roots"]<|rN P w K aC aP aN) (Qp:pL P w K mg base 11 "reached" ["store","roots"]<|tU P w K aC aP aN)
  (QD:wU P w K mg base 14 "_law_refused" ["_law_store","_law_roots"]<|rG P w K aC aP) (Qa:Met P w K mg base aC 7 "put" ["self","thing"]<|tZ P w K aC) (Qf:Met P w K mg base aP 1 "names" ["self"]<|ut K aP) (Qn:wU P w K mg base 1 "_law_whole" ["_law_found","_law_due"] rJ) (QA:Met P w K mg base aP 7 "weight" ["self"]<|sE K aP) (Qh:Met P w K mg base aP 2 "has" ["self","name"]<|rR K aP)
  (Zh:wU P w K mg base 11 "_law_like" ["_law_pack","_law_names","_law_plan_here","_law_cell"]<|pY K aP) (Zi:wU P w K mg base 10 "_law_missed" ["_law_pack","_law_name"]<|p6 K aP):zc P w K mg base CA 15 f fd ["_law_script"] (mR K):=by
 let:=F.ok sc λ_ _ _ s H vs Q E p h=>?_;let#[sa,A,rfl,X,Do,kQ]:=h;let#[m1,cv,gi]:=WH A 2 6;let#[m2,cw,gk]:=WH A 6 9;let:=#[_,(zE (Cu (i:=1) sc.nd<|Ni QB p.m<|zA jM zC)<|zE (zX<|zJ Ze p.m<|zA (pv 1)<|zA (zJ Qj p.m<|zA (pv 0)<|zA zG zC) zC)<|zE (zX<|zJ QC p.m<|zA (pv 1)<|zA (y7 (vh:FH _<|GN K) (pv 0) (yZ zG)<|yZ zG) zC)<|xN (yG (zO HJ (zP yH (zP z9 (zJ Qj p.m<|zA (pv 0)<|zA zG zC) zG) zG) zG<|zS _) (zF<|Cu (i:=1) sc.nd<|Ni QB p.m<|zA (zV (xu:Cy _<|tY K) (yA<|zA (pv 1)<|zA (kW Qg p.m yE<|zA (pv 1)<|zA (y9 (pv 1) T.cls Qc p.m) zC) zC)<|zP Mn (zP yH (zP z9 (zJ Qj p.m<|zA (pv 0)<|zA zG zC) zG) zG) zG) zC) zU)<|zE (zX<|zJ QC p.m<|zA (pv 1)<|zA (y7 (vh:FH _<|GN K) (pv 0) (yZ zG)<|yZ zG) zC)<|zE (Cu (i:=2) sc.nd<|zP z8 zG<|zP yH (zJ Qj p.m<|zA (pv 0)<|zA zG zC) zG)<|zE (Cu (i:=3) sc.nd<|Ol (y9 (pv 1) T.cls Qc p.m)<|pv 2)<|zE (Cu (i:=4) sc.nd<|zJ Zf p.m<|zA (pv 1)<|zA (pv 3) zC)<|zE (Cu (i:=5) sc.nd<|zJ Zg p.m<|zA (pv 1)<|zA (pv 4) zC)<|zE (Cu (i:=6) sc.nd<|zW yI (by rfl) T.list Yd<|zA (pv 3) zC)<|zE (Cu (i:=7) sc.nd<|kW Qg p.m yE<|zA (pv 1)<|zA (pv 6) zC)<|zE (yG (zO (vZ p.units) (pv 6) (pv 3)<|zS _) (zF<|zQ xT) zU)<|zE (zX<|qW Z1 Yh Yi yU (pv 6)<|zA jM zC)<|zE (Cu (i:=8) sc.nd<|kW Qg p.m yE<|zA (pv 7)<|zA (zW yI (by rfl) T.list Yd<|zA (pv 3) zC) zC)<|zE (Cu (i:=2) sc.nd<|kW Qg p.m yE<|zA (pv 1)<|zA (y9 (pv 1) T.cls Qc p.m) zC)<|zE (Cu (i:=9) sc.nd<|kW Qg p.m yE<|zA (pv 2)<|zA (zW yI (by rfl) T.list Yd<|zA (pv 3) zC) zC)<|zE (yG (PW.pt<|vD (zO (vZ p.units) (kD Qp p.m yE<|zA (pv 7)<|zA (zW yI (by rfl) T.list Yd<|zA (pv 3) zC) zC) (pv 4)<|zS _)<|kN<|zO (vZ p.units) (kD Qp p.m yE<|zA (pv 2)<|zA (zW yI (by rfl) T.list Yd<|zA (pv 3) zC) zC) (pv 4)<|zS _) (zF<|zQ xT) zU)<|zE (Cu (i:=10) sc.nd<|zV (xu:Cy _<|tY K) (yA<|zA jM<|zA zr<|zA zr<|zA zG<|zA (yA<|zA zr zC) zC)<|zP yH (zJ Qj p.m<|zA (pv 0)<|zA zG zC) zG)<|zE (Cu (i:=11) sc.nd<|zP yH (zJ Qj p.m<|zA (pv 0)<|zA zG zC)<|zP z8 (zK zN (by rfl) T.len ZV<|zA (pv 3) zC) zG)<|zE (yG (xE<|zY (K:=K)<|zJ QD p.m<|zA (pv 1)<|zA (zP j6 (zP j6 (y7 (vh:FH _<|GN K) (pv 3) jO<|yZ<|pv 11)<|yA<|zA (pv 10) zC)<|y7 (vh:FH _<|GN K) (pv 3) (yZ<|pv 11) jO) zC) (zF<|zQ xT) zU)<|zE (Cu (i:=12) sc.nd<|yK (pv 1) T.cls Qa p.m<|zA (yW<|zA zr<|zA (yW<|zA zr<|zA zr<|zA zr zC) zC) zC)<|zE (Cu (i:=13) sc.nd<|kW Qg p.m yE<|zA (pv 1)<|zA (yA zC) zC)<|zE (yG (PW.pt<|vD (xE<|zY (K:=K)<|zJ QD p.m<|zA (pv 7)<|zA (yA<|zA (pv 12) zC) zC)<|vD (zO (vZ p.units) (y9 (pv 13) T.wR Qf p.m) (yA zC)<|zS _)<|vD (xE<|zY (K:=K)<|zJ Qn p.m<|zA (y9 (pv 13) T.wR QA p.m)<|zA zG zC)<|kN<|zY (K:=K)<|yK (pv 13) T.wR Qh p.m<|zA (pv 12) zC) (zF<|zQ xT) zU)<|zE (yM Ep rfl (jV<|yW<|zA (pv 7)<|zA (pv 8)<|zA (pv 9)<|zA (pv 7) zC) (zR (i:=14) sc.nd rfl<|Ew rfl)<|zE (yG (xE<|zY (K:=K)<|zJ Zh p.m<|zA (pv 14)<|zA (pv 4)<|zA (pv 5)<|zA (zP z9 (zJ Qj p.m<|zA (pv 0)<|zA zG zC) zG) zC) (zF<|zQ xT) zU)<|zF<|yM Ep rfl (yR<|zP j6 (yA<|zA (pv 12)<|zA jM<|zA zG<|zA (yA<|zA zr zC)<|zA zr zC)<|y9 (pv 1) T.cls Qc p.m) (zR (i:=15) sc.nd rfl<|Ew rfl)<|zF<|yG (PW.pt<|jX (zO (Sa (K:=K) p.units) (pv 15) (pv 4)<|by with_unfolding_all rfl)<|qA<|xE<|zY (K:=K)<|zJ Zi p.m<|zA (pv 14)<|zA (pv 15) zC) (zF<|zQ xT) zU)<|zF<|zQ xT),?_]
 have cv:UX (A.map V.int) (some 2) (some 6)=m1.map V.int:=cv;have cw:UX (A.map V.int) (some 6) (some 9)=m2.map V.int:=cw;delta X7;dsimp only;let:=Sw λN u=>?_;let:=λx dx nx eq ne=>#[x,dx,.non,[],rfl,zB,by rw[zH ne];let:=zB,ne,.inl #[rfl,rfl],λR H3 eb a6 dh=>#[rfl,?_]];let#[s3,ci]:=XJ nx eq ne eb a6;have d6:iK []:=#[#[dh.good,λe M=>(nomatch M),λe M=>(nomatch M)],λi e h=>(nomatch h),LC.nil,λe M=>(nomatch M)];clear a6 eb nx eq ne;let:=nG u λN u=>#[sa,A,1,rfl,s3.seq X,∅,x,_,R,[],rfl,dh,d6,λe M=>(nomatch M),∅,λH4 S4 et fb b0 en l4 c4=>?_];have s4:=v9 s3 ci et;let:=nS u λN u=>?_;let:=#[2,rfl,6,rfl,sa,_,rfl,s4.seq X,λp1 b1=>?_];rw[cv];have u1:=zD (o:=.lst<|m1.map V.int) b1;rw[YN]at l4;let:=#[x,p1,R,S4,m1,rfl,fb.same u1,b0.ok,b0.cl,za.of zB,⋯,⋯,λl5 H5 eu Y zk=>?_];have s5:=v9 (s4.trans u1) ci eu;have ai:iK (CO S4 m1).S:=#[zk.ok,zk.cl,zk.lc b0.lc,zk.lo b0.lf];have c7:=zk.n5 en;have c0:=zk.len;have c5:=zk.ct;have z0:UF []=0:=rfl;rw[z0]at c4;clear zk;generalize (CO S4 m1).S=S5 at Y ai c7 c0 c5;have c0:S5.length<=200:=⋯
 have c5:UF S5<=30:=⋯
 clear s3 s4 et eu dh fb b0 en l4 c4 u1 b1 d6;have cell:∀{H':Hp} (k:Nat),zz H H'->za K H' sa (A.map V.int):=λk s=>s.seq X;let:=u _ _ ?_;let:=#[λfc H'=>∃x R,fc=[some<|.ref sa,some<|.ref x,none,none,none,none,none,none,none,none,none,none,none,none,none,none]/\zz H H'/\xr P w K aC H' x R S5/\∀c∈R,H c=none,?_,?_]
 .let:=#[sa,A,0,rfl,s5.seq X,∅,#[∅,∅],(∅:(0:Int)<3),_,rfl,UI (λc=>?_)<|λ_=>#[x,R,rfl,s5,Y,ci]];let#[ix,i1,i2,i3,I]:=qQ Y;have em:(S5.map λe=>V.str e.nm)=(S5.map En.nm).map V.str:=by rw[ZK];rfl
  let:=#[x,ix,_,rfl,I,rfl,x,R,S5,rfl,Y,λl nl=>?_];rw[em];have u1:=zD (o:=.lst<|(S5.map En.nm).map V.str) nl;dsimp only;let:=vJ (.sh rfl<|Y.same u1) ai.ok.th (λe M n hn=>ai.cl.mem M hn) ai.lf (za.of zB) (λr p=>p) (by rw[Zj];lia) λy fy H6 F' s6 hF pk _=>?_;rw[MV hF]at pk;have fz:=(s5.trans u1).trans s6;let:=#[UC 2,λq nq=>?_];generalize e7:upd _ q (.lst [V.ref x,V.ref y])=H7;let#[uq,hq]:=FE nq e7;have s7:=fz.trans uq;have ce:=Y.same<|(u1.trans s6).trans uq;have fw:=pk.same uq;let:=#[sa,A,0,rfl,s7.seq X,∅,#[∅,∅],(∅:(0:Int)<3),?_];have c:0<UW A 0 / 2 % 3:=ZA c;have c3:=Z3 (UW A 0 / 2) (∅:(0:Int)<3);generalize UW A 0 / 2 % 3=m at c c3;let#[cc,aa,ff,cj,st]:∃cc aa ff,CJ [V.ref x,V.ref y] (m-1)=some (V.ref aa)/\wz P w K aC aP cc H7 aa ff S5:=by
   rcases(show m=1\/m=2 by lia) with rfl|rfl
   .let:=#[aC,x,R,rfl,.sh rfl ce]
   .let:=#[aP,y,fy,rfl,.pk rfl fw]
  let:=#[q,_,_,_,rfl,rfl,za.of hq,cj,λz dz nz c8 ne=>#[z,dz,.ref aa,S5,rfl,zB,by rw[zH ne];let:=zB,ne,.inr #[cc,aa,ff,rfl,st.same<|(zD c8).trans<|zD<|by rwa[zH<|Er ne],st.ex.not nz,st.ex.not c8,⋯],λfr H8 fq a6 sh=>#[rfl,zT ?_]]];let#[s8,fk]:=XJ nz c8 ne fq a6;let:=#[z,fr,rfl,s7.trans s8,sh,λc hc=>s7.free<|fk c hc]
 clear s5 Y ci x R H3 H4;rintro fc H5 ⟨x,R,rfl,s5,Y,fr⟩;let:=Sw λN u=>?_;let:=#[6,rfl,9,rfl,sa,_,rfl,s5.seq X,λp1 b1=>?_];rw[cw];have u1:=zD (o:=.lst<|m2.map V.int) b1;let:=#[x,p1,R,S5,m2,rfl,Y.same u1,ai.ok,ai.cl,za.of zB,⋯,⋯,λl6 H6 ev cd zk=>?_];have s6:=v9 (s5.trans u1) fr ev;have t:iK (CO S5 m2).S:=#[zk.ok,zk.cl,zk.lc ai.lc,zk.lo ai.lf];have ep:=zk.n5 c7;have eg:=zk.len;have c6:=zk.ct;clear zk;generalize (CO S5 m2).S=S at cd t ep eg c6;have eg:S.length<=400:=⋯
 have c6:UF S<=40:=⋯
 clear s5 Y ev u1 b1 ai c7 c0 c5;have cs:=λe (M:e∈S) n hn=>t.cl.mem M (n:=n) hn;have gn:=t.ok.good.nn;let:=nS u λN u=>?_;let:=#[sa,A,0,rfl,s6.seq X,∅,(∅:(0:Int)<2),nG u λN u=>?_];have m0:=Z9 (UW A 0) (∅:(2:Int)≠0);have em:(S.map λe=>V.str e.nm)=(S.map En.nm).map V.str:=by rw[ZK];rfl
 let#[ix,i1,i2,i3,I]:=qQ cd;let:=#[x,ix,_,rfl,I,rfl,x,R,S,rfl,cd,λl nl=>?_];rw[em];generalize e1:upd _ l (.lst<|(S.map En.nm).map V.str)=G1;let#[u1,g1]:=FE nl e1;let:=#[l,_,_,rfl,za.of g1,rfl,⋯,λrl ys es ef yl=>nG u λN u=>?_];let#[rs,rfl,an]:=Nz ef;generalize e7:upd _ rl (.lst<|rs.map V.str)=H7;let#[u2,cz]:=FE es e7;have s7:=(s6.trans u1).trans u2;have ce:=cd.same<|u1.trans u2;have fx:rs.length<=400:=by rw[Zj,Zj,Zj]at yl;lia
 have bl:rs.length<=1000:=Z2 fx ∅;clear s6 cd I u1 u2 nl es ef yl e1 e7 g1;let:=#[x,rl,R,S,rs,rfl,ce,t.ok,t.cl,za.of cz,bl,an,λln H8 s8 gr ⟨F0,cx,al⟩=>nG u λN u=>?_];have rc:=Rc.mk' cx;have eT:((S.map En.nm).filter λy=>decide (y∈F0))=(S.filter λe=>decide (e.nm∈F0)).map En.nm:=by rw[List.filter_map];rfl
 rw[eT]at al;have ck:∀{G:By},(∀x,x∈G↔pP (CK S) rs x)->(S.filter λe=>decide (e.nm∈G))=S.filter λe=>decide (e.nm∈F0):=λhG=>RK hG cx;generalize S.filter (λe=>decide (e.nm∈F0))=U at rc al ck;clear eT cx;have di:=ce.same s8;let:=#[x,ln,R,S,U,rfl,di,t.lf,rc.sub,za.of al,λtp H9 s9 pl=>nG u λN u=>?_];have fa:=(s7.trans s8).trans s9;have bx:=di.same s9;have ec:=s9 _ _ al;have bd:=s9 _ _<|s8 _ _ cz;clear s7 ce di al cz s8 s9;let:=#[rl,_,rfl,.inl<|za.of bd,λlh c9=>nG u λN u=>?_];generalize e9:upd _ lh (.lst<|rs.map V.str)=G9;let#[uh,hh]:=FE c9 e9;let:=?_;dsimp only;let:=vJ (.sh rfl<|bx.same uh) t.ok.th cs t.lf (za.of hh) an bl λp1 f1 dk G1 a1 hG be iD=>nG u λN u=>?_;rw[ck hG]at be;have er:∀y∈S.map En.nm,Ei y=true:=λy hy=>by
  let#[e,M,rfl]:=Zo.mp hy;let:=(t.ok.nm M).ok
 have ew:∀r∈rs,Ei r=true:=λr p=>er r<|an r p;let:=#[.list<|rs.map .str,.list<|rs.map .str,#[lh,_,rfl,za.of<|a1 _ _ hh,zy.strs _],#[rl,_,rfl,za.of<|a1 _ _<|uh _ _ bd,zy.strs _],(yT ew).1,(yT ew).1,?_];rw[Xk];let:=#[false,rfl,UB<|nS u λN u=>?_];let:=#[.inl #[rfl,_,za.of<|a1 _ _ hh],lh,_,_,rfl,rfl,a1 _ _ hh,yJ (by rw[Zj];lia),nS u λN u=>?_];have b3:zz H9 (upd dk lh<|.lst<|rs.map V.str++[V.non]):=An.zz.pM (uh.trans a1) c9;have a7:=be.off (gp:=[lh]) (λb hb ys=>by rw[Zk.mp hb];let:=jF (a1 _ _ hh) ys) (z6 (c:=lh) (o:=.lst<|rs.map V.str++[V.non])) (λb hb z=>by
  have:=iD b hb;rw[Zk.mp z,hh]at this;cases this)
 have dr:∀b∈f1,b∉R:=λb hb z=>by
  let#[o,eo]:=bx.ex b z;have:=iD b hb;rw[uh _ _ eo]at this;cases this
 generalize upd dk lh (.lst<|rs.map V.str++[V.non])=f0 at b3 a7 ⊢;clear a1 be iD hh uh c9;have dj:∀e∈U,U5 e:=λe M=>t.ok.th e<|rc.sub.subset M;have cu:=rc.cs cs gn;have ek:=Fe t.lf rc.sub;have ee:=rc.roots an;let:=#[rl,_,rfl,.inl<|za.of<|b3 _ _ bd,λl2 n2=>?_];have u2:=zD (o:=.lst<|rs.map V.str) n2;dsimp only;let:=vJ (.pk rfl<|a7.same u2) dj cu ek (za.of zB) ee bl λp2 f2 f6 G2 dd fl b2 d3=>nG u λN u=>?_;rw[rc.again cs gn an fl]at b2;have b4:=b3.trans<|u2.trans dd;have cq:=a7.same<|u2.trans dd;have nf:∀{G:Hp} {f:Dc},zz H9 G->(∀b∈f,G b=none)->∀b∈f,b∉R:=λ{G f} sG fr b hb z=>by
  let#[o,eo]:=bx.ex b z;have:=fr b hb;rw[sG _ _ eo]at this;cases this
 have dt:=nf (b3.trans u2) d3;clear a7 dd n2 u2 d3;have DS:=bx.same b4;let#[ix,i1,i2,i3,I]:=qQ DS;let:=#[x,ix,_,rfl,I,rfl,x,R,S,rfl,DS,λl3 n3=>?_];rw[em];have u3:=zD (o:=.lst<|(S.map En.nm).map V.str) n3;dsimp only;let:=vJ (.sh rfl<|DS.same u3) t.ok.th cs t.lf (za.of zB) (λr p=>p) (by rw[Zj];lia) λp3 f3 f7 G3 cm fm bf _=>nG u λN u=>?_;rw[MV fm]at bf;have a8:=b4.trans<|u3.trans cm;let:=#[rl,_,rfl,.inl<|za.of<|a8 _ _ bd,λl4 n4=>?_];have u4:=zD (o:=.lst<|rs.map V.str) n4;dsimp only;let:=vJ (.pk rfl<|bf.same u4) t.ok.th cs t.lf (za.of zB) an bl λp4 f4 fe G4 b5 fn dc d4=>nG u λN u=>?_;rw[ck fn]at dc;have ab:=a8.trans<|u4.trans b5;have du:=nf (a8.trans u4) d4;have be:=cq.same<|(u3.trans cm).trans<|u4.trans b5;have b2:=b2.same<|(u3.trans cm).trans<|u4.trans b5;have bf:=bf.same<|u4.trans b5;clear DS I u3 n3 cm a8 u4 n4 b5 cq b4 b3 d4;have a4:=ab _ _ bd;have L:Lw P w K aC aP H fe S U x ln tp p1 p2 p4 R f1 f2 f4:=#[fa.trans ab,bx.same ab,ab _ _ ec,pl.same ab,be,b2,dc];clear fa ab bx ec bd pl nf be b2 dc;have ch:∀y∈U.map En.nm,Ei y=true:=λy hy=>by
  let#[e,M,rfl]:=Zo.mp hy;let:=er _<|Zo.mpr #[e,rc.sub.subset M,rfl]
 let:=#[rl,_,rfl,.inl<|za.of a4,λl5 n5=>?_];have u5:=zD (o:=.lst<|rs.map V.str) n5;dsimp only;let:=Gj (.pk rfl<|L.k1.same u5) dj cu (za.of zB) ee bl λl6 f8 G5 a2 d7 cy=>?_;rw[rc.again cs gn an d7]at cy;have a2:=u5.trans a2;let:=qy.mk rfl<|An12.su (d:=.list<|(U.map En.nm).map .str) #[l6,_,rfl,za.of cy,zy.strs _] #[ln,_,rfl,za.of<|a2 _ _ L.hl,zy.strs _] (yT ch).1 (Xk _) #[false,rfl,UB ?_];let:=#[rl,_,rfl,.inl<|za.of<|a2 _ _ a4,λl7 n7=>?_];have u7:=zD (o:=.lst<|rs.map V.str) n7;dsimp only;let:=Gj (.pk rfl<|(bf.same a2).same u7) t.ok.th cs (za.of zB) an bl λl8 f9 G6 ca d8 al=>?_;rw[ck d8]at al;have ca:=a2.trans<|u7.trans ca;let:=qy.mk rfl<|An12.su (d:=.list<|(U.map En.nm).map .str) #[l8,_,rfl,za.of al,zy.strs _] #[ln,_,rfl,za.of<|ca _ _ L.hl,zy.strs _] (yT ch).1 (Xk _) #[false,rfl,UB<|nS u λN u=>?_];clear a2 u7 n7 al cy u5 n5 d7 d8;let:=#[UC 1,λla na=>?_];generalize ea:upd _ la (.lst [V.str "a"])=Ga;let#[ua,ga]:=FE na ea;let:=#[UC 5,λlo no=>?_];generalize d0:upd _ lo (.lst [V.non,V.str "",V.str "L1.99",V.int 5,V.ref la])=fg;let#[uo,ho]:=FE no d0;have da:zy K fg TV [V.non,V.str "",V.str "L1.99",V.int 5,V.ref la]:=#[_,_,rfl,rfl,_,_,rfl,rfl,_,_,rfl,rfl,_,_,rfl,rfl,_,_,rfl,#[la,_,rfl,za.of<|uo _ _ ga,zy.strs ["a"]],rfl];have de:=ca.trans<|ua.trans uo;clear ca ua uo na no ea d0 ga;have q0:=Z9 (UW A 1) (∅:(5:Int)≠0);have q5:=Z3 (UW A 1) (∅:(0:Int)<5);let#[v,hv]:∃v,[V.non,V.str "",V.str "L1.99",V.int 5,V.ref la][(UW A 1 % 5).toNat]?=some v:=#[_,Zv<|show _<5 by lia];let#[d,hd,dv]:=da.get hv;have cj:CJ [V.non,V.str "",V.str "L1.99",V.int 5,V.ref la] (UW A 1 % 5)=some v:=An10.mU (J2 q0).symm hv;have dy:=TW t.ok t.lc ⋯<|Zy hd;have a5:=de _ _ a4;have L:=L.same de;let:=#[sa,A,1,rfl,L.s.seq X,∅,(∅:(0:Int)<5),lo,_,_,v,rfl,rfl,za.of ho,cj,nG u λN u=>?_];clear ho cj hv hd da q0 q5 a4 bf de;let:=#[sa,A,1,rfl,L.s.seq X,∅,rl,_,rfl,.inl<|za.of a5,(show(0:Int)<((rs.map V.str).length:Int)+1 by lia),nG u λN u=>?_];rw[Zj];have z0:=Z9 (UW A 1) (show(rs.length:Int)+1≠0 by lia);generalize UW A 1 % ((rs.length:Int)+1)=z at z0;let:=#[_,rfl,rl,_,rfl,za.of a5,λc1 n1=>?_];rw[CT z0,<-JX];generalize e1:upd _ c1 (.lst<|(rs.take z.toNat).map V.str)=G1;let#[v1,g1]:=FE n1 e1;let:=#[UC 1,λc2 n2=>?_];generalize e2:upd _ c2 (.lst [v])=G2;let#[v2,g2]:=FE n2 e2;let:=#[c1,c2,_,_,rfl,rfl,v2 _ _ g1,g2,zu (by rw[Zj,ZL];show _+1<=_;lia),λc3 n3=>?_];generalize e3:upd _ c3 (.lst<|(rs.take z.toNat).map V.str++[v])=G3;let#[v3,g3]:=FE n3 e3;let:=#[_,rfl,rl,rs.map V.str,rfl,za.of<|v3 _ _<|v2 _ _<|v1 _ _ a5,λc4 n4=>?_];rw[uK z0,<-V2];generalize e4:upd _ c4 (.lst<|(rs.drop z.toNat).map V.str)=G4;let#[v4,g4]:=FE n4 e4;let:=#[c3,c4,_,_,rfl,rfl,v4 _ _ g3,g4,zu (by rw[Zq,Zj,Zj,ZL,Ym];show _+1+_<=_;lia),λc5 n5=>?_];generalize e5:upd _ c5 (.lst<|(rs.take z.toNat).map V.str++[v]++(rs.drop z.toNat).map V.str)=G5;let#[v5,g5]:=FE n5 e5;have w5:=(((v1.trans v2).trans v3).trans v4).trans v5;let:=#[aC,x,c5,R,S,(rs.take z.toNat).map .str++[d]++(rs.drop z.toNat).map .str,_,rfl,.sh rfl<|L.sh.same w5,za.of g5,zy.append (zy.append (zy.strs _) #[v,[],rfl,Dt.same w5 _ _ dv,rfl])<|zy.strs _,t.ok.th,cs,t.lf,?_,#[d,by simp,dy],λgb ey=>#[true,rfl,UB<|nS u λN u=>?_]]
 .rw[Zq,Zq,Zj,Zj,ZL,Ym];show _+1+_<=_;lia
 have L:=L.same<|w5.trans ey;clear a5 v1 v2 v3 v4 v5 w5 n1 n2 n3 n4 n5 dv dy e1 e2 e3 e4 e5 g1 g2 g3 g4 g5 ey;let#[ix,i1,i2,i3,I]:=qQ L.sh;let:=#[x,ix,_,rfl,I,rfl,UC 3,λc1 n1=>?_];rw[show[V.str "later",V.str "and",V.str "more"]=tB.map V.str from rfl];generalize e1:upd _ c1 (.tup<|tB.map V.str)=G1;let#[v1,g1]:=FE n1 e1;let:=#[UC 2,λc2 n2=>?_];generalize e2:upd _ c2 (.tup [V.str "leaf",V.ref c1])=G2;let#[v2,g2]:=FE n2 e2;have dv:Dt K G2 (Th.leaf tB).dat (.ref c2):=#[c2,_,rfl,yh.of g2,_,_,rfl,rfl,_,_,rfl,#[c1,_,rfl,yh.of<|v2 _ _ g1,zy.strs _],rfl];show tZ P w K aC [V.ref x,V.ref c2] G2 _ _;have L:=L.same<|v1.trans v2;let:=Bl L.sh t.ok (uD oF.2 oF.1) rfl ⋯ dv λfh O a9=>nG u λN u=>?_;have Z:=t.leaf ⋯ oF;rw[P5 ep]at a9 Z ⊢;have ed:(UY S<|.leaf tB).nm∉S.map En.nm:=K4 t.ok.good<|jI _;have eh:Ei (UY S<|.leaf tB).nm=true:=(Z.ok.nm<|ZM _<|Zk.mpr rfl).ok;generalize UY S (.leaf tB)=C at a9 Z ed eh ⊢;have sq:=L.sh.wZ;have L:Lw P w K aC aP H fh (S++[C]) U x ln tp p1 p2 p4 R f1 f2 f4:=#[v9 L.s fr O,a9,O _ _ (qC sq L.hl) L.hl,L.pl.off sq.tup O,L.k1.off sq.tup O dr,L.k2.off sq.tup O dt,L.k4.off sq.tup O du];clear v1 v2 n1 n2 dv sq O I dr dt du e1 e2 g1 g2 a9;have dp:=λe (M:e∈S++[C]) n hn=>Z.cl.mem M (n:=n) hn;have gg:(S++[C]).length<=401:=by rw[Zq];show _+1<=_;lia
 have fj:UT U (.str C.nm)=false:=ZE λz=>ed (by
  let#[e,M,q]:=Zo.mp z;let:=Zo.mpr #[e,rc.sub.subset M,q])
 have cp:=Z.ok;have ej:=Z.lf;let:=#[UC 0,λc3 n3=>?_];have v3:=zD (o:=.lst []) n3;dsimp only;let:=vJ (rs:=[]) (.sh rfl<|L.sh.same v3) cp.th dp ej (za.of zB) (λr p=>(nomatch p)) ∅ λp5 f5 gc G ez hG bh _=>nG u λN u=>?_;have e5:((S++[C]).filter λe=>decide (e.nm∈G))=[]:=JJ.mpr λe _ z=>TU<|(hG _).mp<|ZA z;rw[e5]at bh;have L:=L.same<|v3.trans ez;clear v3 n3 hG e5 ez;let:=#[UC 1,λc4 n4=>?_];have v4:=zD (o:=.lst [V.str C.nm]) n4;let:=#[aP,p1,c4,f1,U,[.str C.nm],[V.str C.nm],rfl,.pk rfl<|L.k1.same v4,za.of zB,zy.strs [C.nm],dj,cu,ek,(show 1<=1000 by decide),#[_,Zt,fj],λgd bm=>#[true,rfl,UB ?_]];have bm:=v4.trans bm;let#[_,_,d5,_,_,_,_,_,_,g5,_]:=id bh;let:=#[p5,d5,_,rfl,bm _ _ g5,rfl,p5,f5,[],rfl,bh.same bm,λc5 n5=>#[UC 0,λc6 n6=>?_]];have v5:=zD (o:=.lst ([]:Di)) n5;have v6:=zD (o:=.lst ([]:Di)) n6;let:=An12.su (d:=.list []) #[c5,[],rfl,za.of<|v6 _ _ zB,rfl] #[c6,[],rfl,za.of zB,rfl] ∅ rfl #[false,rfl,UB ?_];have cn:=bm.trans<|v5.trans v6;let:=#[p5,d5,_,rfl,cn _ _ g5,rfl,p5,f5,[],rfl,bh.same cn,λge bo=>#[0,rfl,true,rfl,UB ?_]];have bo:=cn.trans bo;let:=#[p5,d5,_,rfl,bo _ _ g5,rfl,p5,f5,[],.str C.nm,.str C.nm,rfl,bh.same bo,rfl,false,rfl,UB<|nS u λN u=>?_];have L:=L.same bo;clear v4 n4 bm v5 v6 n5 n6 cn bh g5 bo;let:=#[UC 4,λct nt=>?_];generalize d1:upd _ ct (.tup [V.ref p1,V.ref p2,V.ref p4,V.ref p1])=dl;let#[vt,d9]:=FE nt d1;have L:=L.same vt;have dn:∀v∈[V.ref p1,V.ref p2,V.ref p4,V.ref p1],∃q g,v=.ref q/\vz K aP dl q g U:=λv hv=>by
  simp only[Zx,Yg,Jo]at hv
  rcases hv with rfl|rfl|rfl|rfl
  .let:=#[p1,f1,rfl,L.k1]
  .let:=#[p2,f2,rfl,L.k2]
  .let:=#[p4,f4,rfl,L.k4]
  .let:=#[p1,f1,rfl,L.k1]
 clear vt nt d1;let:=#[ct,rfl,#[_,yh.of d9],Io (K:=K) (a:=ct) (xs:=[V.ref p1,V.ref p2,V.ref p4,V.ref p1]) (λi σ cf=>∃db as,σ=[some<|.ref sa,some<|.ref x,some<|.ref p3,some<|.ref rl,some<|.ref ln,some<|.ref tp,some<|.ref lh,some<|.ref p1,some<|.ref p2,some<|.ref p4,some v,some<|.int z,some<|.str C.nm,some<|.ref p5,db,as]/\zz dl cf) #[none,none,rfl,zz.refl _] (λi σ cf _ ⟨_,_,_,e⟩=>yh.of<|e _ _ d9) ?_ ?_]
 .rintro i y σ cf D B hy hD hB ⟨db,as,rfl,a3⟩;let#[q,gq,rfl,pq]:=dn y<|Zy hy;let:=hB (zT #[sa,A,0,rfl,(L.s.trans a3).seq X,∅,#[∅,∅],q,ln,tp,_,gq,R,U,rfl,pq.same a3,za.of<|a3 _ _ L.hl,L.pl.same a3,ch,λgf co=>#[true,rfl,UB ?_]]);have co:=a3.trans co;have cr:=L.sh.same co;let:=#[UC 1,λla na=>?_];generalize ea:upd _ la (.lst [V.str "a"])=Ga;let#[ua,ga]:=FE na ea;let:=#[UC 5,λlo no=>?_];generalize eo:upd _ lo (.lst [V.str C.nm,V.non,V.int 5,V.ref la,V.str ""])=Go;let#[uo,go]:=FE no eo;have cb:=cr.same<|ua.trans uo;let#[ix,i1,i2,i3,I]:=qQ cb;let:=#[x,ix,_,rfl,I,rfl,x,R,S++[C],rfl,cb,λl nl=>?_];rw[show((S++[C]).map λe=>V.str e.nm)=((S++[C]).map En.nm).map V.str by rw[ZK];rfl];generalize el:upd _ l (.lst<|((S++[C]).map En.nm).map V.str)=Gl;let#[ul,gl]:=FE nl el;let:=#[lo,l,_,_,rfl,rfl,ul _ _ go,gl,zu (by rw[Zj,Zj];show 5+_<=_;lia),λlq nq=>?_];generalize d2:upd _ lq (.lst<|[V.str C.nm,V.non,V.int 5,V.ref la,V.str ""]++((S++[C]).map En.nm).map V.str)=dm;let#[uq,hq]:=FE nq d2;have dq:zy K dm ([Ey C.nm,.none,.int 5,.list [.str "a"],.str ""]++((S++[C]).map En.nm).map .str) ([V.str C.nm,V.non,V.int 5,V.ref la,V.str ""]++((S++[C]).map En.nm).map V.str) :=
   zy.append #[_,_,rfl,rfl,_,_,rfl,rfl,_,_,rfl,rfl,_,_,rfl,#[la,_,rfl,za.of<|uq _ _<|ul _ _<|uo _ _ ga,zy.strs ["a"]],_,_,rfl,rfl,rfl] (zy.strs _)
  have e6:=co.trans<|(ua.trans uo).trans<|ul.trans uq;have ei:∀d∈[Ey C.nm,.none,.int 5,.list [.str "a"],.str ""]++((S++[C]).map En.nm).map .str,d.canLay0=true/\d.depth<=60:=λd hd=>by
   rcases ZD.mp hd with y|y
   .simp only[Zx,Yg,Jo]at y
    rcases y with rfl|rfl|rfl|rfl|rfl
    .let:=#[eh,ZP _]
    .let:=#[rfl,ZP _]
    .let:=#[rfl,ZP _]
    .let:=#[by lk,by lk]
    .let:=#[by lk,ZP _]
   .let#[r,ft,rfl]:=Zo.mp y;let#[e,M,rfl]:=Zo.mp ft;let:=#[(cp.nm M).ok,ZP _]
  generalize [Ey C.nm,.none,.int 5,.list [.str "a"],.str ""]++((S++[C]).map En.nm).map .str=ds at dq ei;generalize [V.str C.nm,V.non,V.int 5,V.ref la,V.str ""]++((S++[C]).map En.nm).map V.str=xs at dq hq;clear ua uo ul uq nl nq I na no a3 ea eo el d2 ga go gl cr cb;let:=#[lq,rfl,#[_,za.of hq],xQ (K:=K) (a:=lq) (xs:=xs) (λj σ cg=>∃as,σ=[some<|.ref sa,some<|.ref x,some<|.ref p3,some<|.ref rl,some<|.ref ln,some<|.ref tp,some<|.ref lh,some<|.ref p1,some<|.ref p2,some<|.ref p4,some v,some<|.int z,some<|.str C.nm,some<|.ref p5,some<|.ref q,as]/\zz dm cg) #[as,rfl,zz.refl _] (λj σ cg _ ⟨_,_,e⟩=>za.of<|e _ _ hq) ?_ ?_]
  .rintro j y σ cg E J hy hE hJ ⟨as,rfl,a0⟩;let#[d',fo,dv]:=dq.get hy;let#[fu,fv]:=ei d'<|Zy fo;have e8:=e6.trans a0;let:=hJ<|zT #[d',(U.map En.nm).map .str,Dt.same a0 _ _ dv,#[ln,_,rfl,za.of<|e8 _ _ L.hl,zy.strs _],(uR _ ch).1,fu,fv,_,rfl,UI (λc1=>?_)<|λc1=>UB<|hE.nx _ _ #[_,rfl,a0]];let:=#[q,gq,U,d',y,rfl,pq.same e8,Dt.dw<|Dt.same a0 _ _ dv,TM c1,λfi df=>Dt.dw<|Dt.same (a0.trans df) _ _ dv,λfi df=>#[true,rfl,UB<|hE.nx _ _ #[_,rfl,a0.trans df]]]
  .rintro σ cg ⟨as,rfl,a0⟩;let:=hD.nx _ _ #[_,_,rfl,e6.trans a0]
 .rintro σ cf ⟨db,as,rfl,a3⟩;let:=u _ _<|kQ _
end Cn
end
end An29
/-! the evaluating tactics look for a twin of each of these constants under these names;names that are taken keep them from laying one,for the twins' equations make the compiled file too large -/
structure PySem.W.Fast:Prop where(tw9709032348885934845 tw9118963246760517489 tw17903706624272692545 tw71482400273924885 tw13001013453166784382 tw13272738618403253390 tw1321056831729785706 tw9864987949997834066 tw13094770898442125631 tw4281903629288537973 tw13996266036390085880 tw12482242894493338672 tw2640254995810169928 tw11802333307873157319 tw5558027144281337414 tw4495478067429200966 tw11873839476172769907 tw8462128523630270770 tw5571965120081924536 tw16855960469104194268 tw5276471584203778457 tw135042588658826600 tw2452188598165109716 tw17987241982339139730 tw7226924152407322234 tw8427028277397539770 tw1616594306807401655 tw5984181673106558349 tw4895203785515266109 tw4221621143319287119 tw12935112501549755139 tw11557131307823772569 tw4032590339531885445 tw6928459464151408616 tw9300269971504276619 tw15191897913544614301 tw9124820686677224644 tw14427283385996918386 tw9778004290895252321 tw13822783778047637612 tw4765414655223300773 tw17238133764443584946 tw11925133959112518449 tw2839440049346910648 tw15163563487222108264 tw14297683109060419521 tw10696657107561095597 tw13484715461599955920 tw16228414057635899517 tw882458713508025255 tw2153764280198838040 tw18072083463825197953 tw11828022752825144763 tw5184537986872749007 tw17710848756258063092 tw1401539214402201976 tw3022208185450555422 tw13344750885878463933 tw8790243399247348228 tw18369163445665119071 tw6710621462465583954 tw14004459946039905364 tw6881725090258029932 tw15132279345427387791 tw4642568666527034093 tw9347314413396982481 tw8252635563797319155 tw6826904197721708791 tw18206445798258034951 tw8804416274276485776 tw12890079890222630064 tw14174822960978898989 tw5075611804340406526 tw16339064955710360755 tw17738781285601662629 tw18182206729543460925 tw3377097402803473432 tw1713807397900837187 tw16955767897995653085 tw371172899840470314 tw11508274523823641615 tw6333996651996127427 tw17863128717087033228 tw10804200393445884739 tw15526788147774213888 tw5742120244844900274 tw105758313341960636 tw6592894411410291151 tw1622012910192213678 tw657431024020172412 tw6732403117701229762 tw14853368986099266281 tw12858461382781204097 tw6154293789147232497 tw7473932131433394725 tw1910905992262275775 tw17628827396720953146 tw9284319093784152402 tw14691316197056204771 tw17145704741153276466 tw6695421407549878438 tw3018663981362685843 tw180831125975619834 tw9808144412631913240 tw12920588826088526744 tw17576041775032620139 tw16933434978940373462 tw9136983367955412894 tw8255694830073219470 tw15230997243982851401 tw5819381147816194887 tw1367505278571714229 tw13941793735756661618 tw8839407292665552899 tw5432275238820390528 tw8232400160525154940 tw11393417915142190845 tw3521248955937646230 tw12976110442834813960 tw15935439837486075775 tw1547835145649040669 tw6496446729605023292 tw2871521360452798127 tw4272857646469996041 tw17899370290632523066 tw11793001561326483943 tw14261844719617736518 tw12983149856169107587 tw12316395242294886247 tw11859852760049697251 tw6264945303649313120 tw7208513520426473950 tw6116676347543696080 tw846877118800008840 tw14702990906666098139 tw9786025824357291979 tw10408343675314871602 tw5540734255391969359 tw3204995163267409232 tw349140925875546422 tw5824631552584207238 tw14610557018573037523 tw3037860081221319240 tw8537568868454530685 tw9630456400805347046 tw13346974580453029492 tw15930303118094749740 tw12020011638993032514 tw294963668703413079 tw10785066759872983168 tw13618986000196049018 tw3785074471310727100 tw12161081425358027120 tw18208534543999215132 tw13725300365624461021 tw4327606064146937748 tw11539827118671731302 tw13522991231391123236 tw936955183651598761 tw8234692347401277146 tw9500937898303308585 tw11739037725393916916 tw5075839931583001233 tw17067411044045931819 tw17363169827031983663 tw15157639492069555116 tw13437865314150316636 tw14297941956542092598 tw16111510138892019156 tw14600706591189164930 tw8639020237216700801 tw3337246911964355209 tw12499178731377132395 tw15107128178330593437 tw13020863984035109786 tw6272033194542787846 tw6330068774921384398 tw9150141022431941386 tw8921750961879817259 tw452673932757683008 tw193036735709275307 tw14290351056336945694 tw6322642725290320689 tw5825638253864614387 tw4974478722280149915 tw15242009420679704179 tw10396681056684806400 tw16317109293460256683 tw10716726653184988089 tw13838512973719583336 tw12110725376422864496 tw10092485833484241053 tw5054116706303583467 tw2853672448232367217 tw13775259322694598035 tw10960505285738246423 tw4245641630112488934 tw9621039893362460986 tw16789861883931172949 tw3930565172462617 tw6024080849181779997 tw16093333110485226886 tw1976400896401399696 tw11099836193198352906 tw897941327414430904 tw4270647697502556938 tw15498601568399462853 tw16563748545333458528 tw10722494693716590220 tw8418168792997761519 tw4833644041744490914 tw14484373901240680965 tw10316958504697846974 tw16195617362219197851 tw3623973762490248031 tw3631538388534504212 tw14469187002442626552 tw2095343595900229317 tw16141162141873833082 tw10468850768692693785 tw11243517535802156293 tw16356995121272016398 tw7640609125089712107 tw16695805099009431913 tw15777962620632027006 tw17367273343345059236 tw8225933269809366190 tw18046596487670875875 tw15885449533383587048 tw10374960867069653449 tw12371735752675428120 tw254372728884766321 tw12379550845679714596 tw4858345469258907686 tw16411086502776826581 tw13434899931590576872 tw9407291163053689636 tw5840700900040631433 tw16171387749173104564 tw2337644723308278536 tw10904952381100397807 tw2214197446116214109 tw13572688105874782028 tw7156721594340154843 tw16868200714904164982 tw13978367393128848847 tw2536448582470667341 tw6935821940166979338 tw4075592480206881461 tw17703426821801136709 tw10320362542439501604 tw1536858133931221617 tw17276963166154387989 tw10435650056595455071 tw15865636457639040317 tw14864416813823412330 tw12540969804050393779 tw13945024821904160527 tw12058824290449881430 tw17383093464406487265 tw16135559087169758613 tw14912892319669171845 tw3460926617152038108 tw14821031987486139043 tw17038284668275872633 tw15776781709755157085 tw14320062412291097690 tw7712225518872696821 tw8041110771344694124 tw5776071848345943687 tw7267043483029309229 tw7576964417447018950 tw14236237879643961032 tw4263244939713026703 tw10686014088488857088 tw13680554148165963438 tw9101420690243150535 tw298479463808451260 tw1800711378524910124 tw10465097217200360950 tw4699498818521747054 tw5654640042764257643 tw1795493787777296462 tw7394960665710788701 tw14417301695980427271 tw3437023804178114120 tw2636180101383068883 tw10607301324136416337 tw8646522873848749339 tw13527705880506033013 tw1505716063178431433 tw1786813945107007653 tw2948164010143200181 tw4463947869348119592 tw16879776336799423851 tw13596444686649004934 tw15447916491501280676 tw9021990407564639067 tw17524849465094040503 tw5923468242030746032 tw7810939702966293720 tw9944705105089576616 tw14835622892385889188 tw2907511014105230549 tw3877372051474667896 tw3853653281588668183 tw10699534098051798728 tw4609018825030287004 tw835769523619837149 tw1541252710901433836 tw5474505781759580480 tw2062073728616375330 tw8212422829981122213 tw13623438713088962996 tw6985077362336278507 tw16391718683251109487 tw3616239909296858788 tw4539755008053835069 tw3782706484616770472 tw454912391449985850 tw10845381659130689752 tw1766526486307249475 tw12484797026802450964 tw951793690895250507 tw5198415415278604687 tw6402790835106184352 tw13741478485270947123 tw3584197720355018611 tw11315515743150730234 tw10135824505186712301 tw11282508775676533986 tw5532317400360459779 tw15026489006901486063 tw3007338593142773887 tw8715806450896233342 tw10654895453376116401 tw6590842720494787266 tw14038671748739294037 tw3129984256522379414 tw17247187990624744248 tw1806028302476427636 tw9094952167315753357 tw11007246912992279437 tw6603210514858803370 tw7239620590186340989 tw9839631009468644987 tw8896962596929584982 tw8936112553752942303 tw12999845178918224812 tw17916004002765088005 tw15698147277599239609 tw528149255367684597 tw7975265809490659936 tw12216272328378638181 tw16114129238792373301 tw9376882813104868458 tw17476071593433463094 tw10355657686812525681 tw12030222987294129624 tw10625375733295627078 tw14726216653097789585 tw11830249502324495361:True)
namespace An29
open PySem L2 An
theorem gB {P:Ea}{w:Ef}{K:Co}{a:D8}{b f c g d i:Tok}{n:Nat}(h:K.lookup a=some { cls:=.type "dict",data:=.dict #v[#[LH w.params "leaf",.str "leaf" b,.str "L" f],#[LH w.params "tree",.str "tree" c,.str "T" g],#[LH w.params "note",.str "note" d,.str "N" i]] n }) :
  KD P w K a xV:=by
 intro l X;let:=#[[(Ec "leaf",.str "L" f),(Ec "tree",.str "T" g),(Ec "note",.str "N" i)],.cons #[rfl,f,rfl]<|.cons #[rfl,g,rfl]<|.cons #[rfl,i,rfl] .nil,_,_,n,X a _ h,#[rfl,rfl,rfl],rfl,?_,?_,?_]
 .intro e j;have j:e∈[(#[LH w.params "leaf",.str "leaf" b,.str "L" f]:LU),#[LH w.params "tree",.str "tree" c,.str "T" g],#[LH w.params "note",.str "note" d,.str "N" i]]:=by simpa using j
  rcases Zx.mp j with z|z
  .subst z;let:=#[Ec "leaf",qN _ b,rfl]
  .rcases Zx.mp z with z|z
   .subst z;let:=#[Ec "tree",qN _ c,rfl]
   .rw[Zk.mp z];let:=#[Ec "note",qN _ d,rfl]
 .let:=.cons (qN _ b) rfl (.cons (qN _ c) rfl<|.cons (qN _ d) rfl .nil)
 .show([Ec "leaf",Ec "tree",Ec "note"]:List Key).Nodup
  lk
def GF (K:Co)(x:Str)(st:EF)(f:D8):Prop:=Et K Ek x=some (some<|.ref f)/\∃(e:D9) (g c:Option D8) (i:Array Db) (kV d h b ct:D9),K.lookup f=some #[e,g,.func<|EW x x (qU st) (xW st) (zI st) .none kV d h c b ct,i]/\Lp K b x=true/\EK K (.ref f)=true
def MF (K:Co)(C:D8)(x q:Str)(st:EF)(f:D8):Prop:=ED K (.ref C) x=some (some<|.ref f)/\Mc K (.ref f)=true/\∃(e:D9) (g c:Option D8) (i:Array Db) (kV d h b ct:D9),K.lookup f=some #[e,g,.func<|EW x q (qU st) (xW st) (zI st) .none kV d h c b ct,i]/\Lp K b q=true/\EK K (.ref f)=true
section
variable {P:Ea}{w:Ef}{K:Co}{h:Es}{mg:Str->Db}{k:Nat}{x q:Str}{st:EF}{f C:D8}{ps:By}{sp:Sp}{oc:D9}{od an:Option D8}{sl:Array Db}{kV dc pm cd ct:D9}
theorem GF.mk (a:Et K Ek x=some (some<|.ref f))(l:K.lookup f=some #[oc,od,.func<|EW x x (qU st) (xW st) (zI st) .none kV dc pm an cd ct,sl])(c:Lp K cd x=true)(k:EK K (.ref f)=true):GF K x st f:=#[a,_,_,_,_,_,_,_,_,_,l,c,k]
theorem MF.mk (a:ED K (.ref C) x=some (some<|.ref f))(i:Mc K (.ref f)=true)(l:K.lookup f=some #[oc,od,.func<|EW x q (qU st) (xW st) (zI st) .none kV dc pm an cd ct,sl])(c:Lp K cd q=true)(k:EK K (.ref f)=true):MF K C x q st f:=#[a,i,_,_,_,_,_,_,_,_,_,l,c,k]
abbrev BA (x q:Str)(st:EF)(ps:By):Prop:=∀(kV doc pm:D9) (an:Option D8) (cdv ct:D9) (us:Da),us.length=ps.length->bindArgs (EW x q (qU st) (xW st) (zI st) .none kV doc pm an cdv ct) #[us,[]]=Le (ps.zip us)
abbrev BX (x q:Str)(st:EF)(ps:By)(kV doc pm:D9)(an:Option D8)(cdv ct:D9)(us:Da):Prop:=bindArgs (EW x q (qU st) (xW st) (zI st) .none kV doc pm an cdv ct) #[us,[]]=Le (ps.zip us)
theorem lC9{f:List PySem.Value}{n:Nat}(z:f.length=n+1):∃a t,f=a::t/\t.length=n:=by cases f with|nil=>cases z|cons a t=>let:=#[a,t,rfl,Nat.succ.inj z]
theorem Tg (h:∀kV i j an c' ct a,BX x q st ps kV i j an c' ct [a])(l:ps.length=1):BA x q st ps:=by intro kV i j an c' ct f z;let#[_,f,rfl,m]:=lC9 (z.trans l);cases f;let:=h ..;cases m
theorem Ti (h:∀kV i j an c' ct a b,BX x q st ps kV i j an c' ct [a,b])(l:ps.length=2):BA x q st ps:=by intro kV i j an c' ct f z;let#[_,f,rfl,m]:=lC9 (z.trans l);let#[_,f,rfl,n]:=lC9 m;cases f;let:=h ..;cases n
theorem Tj (h:∀kV i j an c' ct a b c,BX x q st ps kV i j an c' ct [a,b,c])(l:ps.length=3):BA x q st ps:=by intro kV i j an c' ct f z;let#[_,f,rfl,m]:=lC9 (z.trans l);let#[_,f,rfl,n]:=lC9 m;let#[_,f,rfl,o]:=lC9 n;cases f;let:=h ..;cases o
theorem Tk (h:∀kV i j an c' ct a b c d,BX x q st ps kV i j an c' ct [a,b,c,d])(l:ps.length=4):BA x q st ps:=by intro kV i j an c' ct f z;let#[_,f,rfl,m]:=lC9 (z.trans l);let#[_,f,rfl,n]:=lC9 m;let#[_,f,rfl,o]:=lC9 n;let#[_,f,rfl,p]:=lC9 o;cases f;let:=h ..;cases p
theorem Tl (h:∀kV i j an c' ct a b c d e,BX x q st ps kV i j an c' ct [a,b,c,d,e])(l:ps.length=5):BA x q st ps:=by intro kV i j an c' ct f z;let#[_,f,rfl,m]:=lC9 (z.trans l);let#[_,f,rfl,n]:=lC9 m;let#[_,f,rfl,o]:=lC9 n;let#[_,f,rfl,p]:=lC9 o;let#[_,f,rfl,r]:=lC9 p;cases f;let:=h ..;cases r
theorem GF.cal (X:K.In h)(G:h.Ns Ek mg)(a:GF K x st f)(b:Es)(g:∀fd,xj K x x st f fd->mg x=some (.ref f)->wW K fd ps []->zc P w K mg b CA k f fd ps sp)(e:BA x x st ps:=by first|let:=Tg (λ_ _ _ _ _ _ _=>rfl) rfl|let:=Ti (λ_ _ _ _ _ _ _ _=>rfl) rfl|let:=Tj (λ_ _ _ _ _ _ _ _ _=>rfl) rfl|let:=Tk (λ_ _ _ _ _ _ _ _ _ _=>rfl) rfl|let:=Tl (λ_ _ _ _ _ _ _ _ _ _ _=>rfl) rfl):wU P w K mg b k x ps sp:=by
 let#[d,_,_,_,_,_,_,_,_,_,l,c,kp]:=a;have F:=vW l c kp;let:=wU.mk' F (g _ F (Yt X G d)<|F.binds e) (Yt X G d)<|F.binds e
theorem GF.gA (X:K.In h)(G:h.Ns Ek mg)(a:GF K x st f)(b:Es)(g:∀fd,xj K x x st f fd->mg x=some (.ref f)->wW K fd ps []->zc P w K mg b (CI P w) k f fd ps sp)(e:BA x x st ps:=by first|let:=Tg (λ_ _ _ _ _ _ _=>rfl) rfl|let:=Ti (λ_ _ _ _ _ _ _ _=>rfl) rfl|let:=Tj (λ_ _ _ _ _ _ _ _ _=>rfl) rfl|let:=Tk (λ_ _ _ _ _ _ _ _ _ _=>rfl) rfl|let:=Tl (λ_ _ _ _ _ _ _ _ _ _ _=>rfl) rfl):pL P w K mg b k x ps sp:=by
 let#[d,_,_,_,_,_,_,_,_,_,l,c,kp]:=a;have F:=vW l c kp;let:=pL.mk' F (g _ F (Yt X G d)<|F.binds e) (Yt X G d)<|F.binds e
theorem MF.met (a:MF K C x q st f)(b:Es)(g:∀fd,xj K x q st f fd->zc P w K mg b CA k f fd ps sp)(e:BA x q st ps:=by first|let:=Tg (λ_ _ _ _ _ _ _=>rfl) rfl|let:=Ti (λ_ _ _ _ _ _ _ _=>rfl) rfl|let:=Tj (λ_ _ _ _ _ _ _ _ _=>rfl) rfl|let:=Tk (λ_ _ _ _ _ _ _ _ _ _=>rfl) rfl|let:=Tl (λ_ _ _ _ _ _ _ _ _ _ _=>rfl) rfl):Met P w K mg b C k x ps sp:=by
 let#[d,i,_,_,_,_,_,_,_,_,_,l,c,kp]:=a;have F:=vW l c kp;let:=#[#[_,_,g _ F,#[d,i,kp],F.binds e]]
theorem MF.fV (a:MF K C x q st f)(b:Es)(g:∀fd,xj K x q st f fd->zc P w K mg b (CI P w) k f fd ps sp)(e:BA x q st ps:=by first|let:=Tg (λ_ _ _ _ _ _ _=>rfl) rfl|let:=Ti (λ_ _ _ _ _ _ _ _=>rfl) rfl|let:=Tj (λ_ _ _ _ _ _ _ _ _=>rfl) rfl|let:=Tk (λ_ _ _ _ _ _ _ _ _ _=>rfl) rfl|let:=Tl (λ_ _ _ _ _ _ _ _ _ _ _=>rfl) rfl):ug P w K mg b C k x ps sp:=by
 let#[d,i,_,_,_,_,_,_,_,_,_,l,c,kp]:=a;have F:=vW l c kp;let:=#[#[_,_,g _ F,#[d,i,kp],F.binds e]]
theorem MF.gm (a:MF K C x q st f)(b:Es)(g:∀fd,xj K x q st f fd->Meth K C x f->wW K fd ps []->zc P w K mg b (CI P w) k f fd ps sp)(e:BA x q st ps:=by first|let:=Tg (λ_ _ _ _ _ _ _=>rfl) rfl|let:=Ti (λ_ _ _ _ _ _ _ _=>rfl) rfl|let:=Tj (λ_ _ _ _ _ _ _ _ _=>rfl) rfl|let:=Tk (λ_ _ _ _ _ _ _ _ _ _=>rfl) rfl|let:=Tl (λ_ _ _ _ _ _ _ _ _ _ _=>rfl) rfl):ug P w K mg b C k x ps sp:=by
 let#[d,i,_,_,_,_,_,_,_,_,_,l,c,kp]:=a;have F:=vW l c kp;let:=#[#[_,_,g _ F #[d,i,kp]<|F.binds e,#[d,i,kp],F.binds e]]
theorem MF.mak (a:MF K C "__init__" q st f)(b:Es)(m:Lx K C=true)(j:EK K (.ref C)=true)(h:mg x=some (.ref C))(g:∀fd,xj K "__init__" q st f fd->zc P w K mg b CA k f fd ps sp)(e:BA "__init__" q st ps:=by first|let:=Tg (λ_ _ _ _ _ _ _=>rfl) rfl|let:=Ti (λ_ _ _ _ _ _ _ _=>rfl) rfl|let:=Tj (λ_ _ _ _ _ _ _ _ _=>rfl) rfl|let:=Tk (λ_ _ _ _ _ _ _ _ _ _=>rfl) rfl|let:=Tl (λ_ _ _ _ _ _ _ _ _ _ _=>rfl) rfl):fO P w K mg b C k x ps sp:=by
 let#[d,i,_,_,_,_,_,_,_,_,_,l,c,kp]:=a;have F:=vW l c kp;let:=#[#[_,_,g _ F,#[m,d,i,j],F.binds e,h]]
theorem MF.fM (a:MF K C "__init__" q st f)(b:Es)(m:Lx K C=true)(j:EK K (.ref C)=true)(h:mg x=some (.ref C))(g:∀fd,xj K "__init__" q st f fd->zc P w K mg b (CI P w) k f fd ps sp)(e:BA "__init__" q st ps:=by first|let:=Tg (λ_ _ _ _ _ _ _=>rfl) rfl|let:=Ti (λ_ _ _ _ _ _ _ _=>rfl) rfl|let:=Tj (λ_ _ _ _ _ _ _ _ _=>rfl) rfl|let:=Tk (λ_ _ _ _ _ _ _ _ _ _=>rfl) rfl|let:=Tl (λ_ _ _ _ _ _ _ _ _ _ _=>rfl) rfl):iM P w K mg b C k x ps sp:=by
 let#[d,i,_,_,_,_,_,_,_,_,_,l,c,kp]:=a;have F:=vW l c kp;let:=#[#[_,_,g _ F,#[m,d,i,j],F.binds e,h]]
end
set_option maxHeartbeats 0 in
theorem all_mk {l:PySem.W.OpenLaw}{w:Ef}{K:Co}{h:Es}{mg:Str->Db}{fa:D8}{t1 t2 t3 t4 t5 t6 t7 t8 t9:Tok}{aL aC aN c fI:D8}(X:K.In h)(G:h.Ns Ek mg)(hk:mg "law"=some (.ref fa))
  (J:Et K Ek "len"=some none)
  (E:Et K Ek "all"=some none)
  (M:Et K Ek "ord"=some none)
  (DB:Et K Ek "isinstance"=some none)
  (O:Et K Ek "str"=some none)
  (N:Et K Ek "set"=some none)
  (DO:Et K Ek "sorted"=some none)
  (DV:Et K Ek "tuple"=some none)
  (D2:Et K Ek "list"=some none)
  (L:Et K Ek "max"=some none)
  (I:Et K Ek "int"=some none)
  (D4:Et K Ek "bool"=some none)
  (DW:Et K Ek "range"=some none)
  (D3:Et K Ek "dict"=some none)
  (H:Et K Ek "any"=some none)
  (Dy:Et K Ek "LONGEST_LINE"=some (some<|.int 20 t1))
  (Ds:Et K Ek "LONGEST_LABEL"=some (some<|.int 8 t2))
  (Dx:Et K Ek "MOST_PARENTS"=some (some<|.int 2 t3))
  (DL:Et K Ek "PERCENT"=some (some<|.int 37 t4))
  (DA:Et K Ek "MOST_LABELS"=some (some<|.int 4 t7))
  (Du:Et K Ek "DIGEST_FACTOR"=some (some<|.int 31 t5))
  (Dz:Et K Ek "DIGEST_BOUND"=some (some<|.int 97 t6))
  (DH:Et K Ek "reversed"=some none)
  (P:Et K Ek "sum"=some none)
  (Dr:Et K Ek "COST_OF_A_SPAN"=some (some<|.int 2 t8))
  (DC:Et K Ek "MOST_STEPS"=some (some<|.int 4 t9))
  (DI:Et K Ek "names_in"=some (some<|.ref fI))
  (DP:Et K Ek "NoName"=some (some<|.ref aN))
  (DN:L6 K aN Ps "ValueError.__new__"=true)
  (D6:PySem.W.exmOne K (.ref aN) (.ref aN)=some true)
  (DM:Et K Ek "LETTERS"=some (some<|.ref aL))
  (D5:Et K Ek "Pack"=some (some<|.ref c))
  (DX:Et K Ek "Shelf"=some (some<|.ref aC))
  (y:Lo K c LQ=true)
  (o:Lz K c=true)
  (A:LX K c=true)
  (D:ED K (.ref c) "__setattr__"=some (some<|.builtin "object.__setattr__"))
  (t:Lx K c=true)
  (q:EK K (.ref c)=true)
  (bm:aC≠c)
  (bd:ED K (.ref c) "base_by_name"=some none)
  (be:ED K (.ref c) "part_by_name"=some none)
  (as:KD l.prog w K aL xV)
  (u:Lo K aC LQ=true)
  (n:Lz K aC=true)
  (z:LX K aC=true)
  (C:ED K (.ref aC) "__setattr__"=some (some<|.builtin "object.__setattr__"))
  (r:Lx K aC=true)
  (p:EK K (.ref aC)=true)
  (bf:ED K (.ref aC) "thing_by_name"=some none)
  (bh:ED K (.ref aC) "name_by_thing"=some none)
  (bl:ED K (.ref aC) "next_numbers"=some none)
  (B:∀a∈kinds,∀b∈kinds,E6 K (.type a) (.type b)=some (a==b||(a=="bool"&&b=="int")))
  {f0 f1 f2 f3 f4 f5 f6 f7 f8 f9 fc fe ff fg fh fi fj fk fl fm fn fo fp fq fr ft fu fv fw fx fy fz ga gb gc gd ge gf gg gi gk gl gn go gp gq gr gs gt gu gv gx gy gz g0 g1 g2 g3 g4 g5 g6 g7 g9 ha hc hd he hf hg hh hi hj:D8}
  (a0:MF K aC "names" "Shelf.names" Au.st f0)
  (a1:MF K c "names" "Pack.names" AX.st f1)
  (a2:MF K aC "take" "Shelf.take" Av.st f2)
  (a3:GF K "is_key" Aw.st f3)
  (a4:MF K aC "has" "Shelf.has" Ax.st f4)
  (a5:MF K c "has" "Pack.has" Ay.st f5)
  (a6:GF K "need_name" Az.st f6)
  (a7:MF K aC "thing" "Shelf.thing" AA.st f7)
  (a8:MF K c "base_at" "Pack.base_at" AU.st f8)
  (a9:GF K "spans_done" AO.st f9)
  (di:MF K c "thing" "Pack.thing" AW.st fc)
  (dj:MF K aC "__init__" "Shelf.__init__" A6.st fe)
  (dk:GF K "is_sign" Aa.st ff)
  (dl:GF K "is_line" Ab.st fg)
  (dm:GF K "is_lines" Ac.st fh)
  (dn:GF K "is_leaf" Ah.st fi)
  (dp:GF K "is_label" Ad.st fj)
  (dq:GF K "is_row" Ae.st fk)
  (dr:GF K "is_rows" Ag.st fl)
  (ds:GF K "is_tree" Ai.st fm)
  (dt:GF K "is_parents" Af.st fn)
  (du:GF K "is_note" Aj.st fo)
  (dv:GF K "is_thing" Ak.st fp)
  (dx:GF K "need_thing" Al.st fq)
  (dy:MF K aC "need_form" "Shelf.need_form" AB.st fr)
  (dz:MF K aC "need_names" "Shelf.need_names" AC.st ft)
  (d0:GF K "letter_of" Am.st fu)
  (d1:GF K "tree_parts" Ao.st fv)
  (d2:GF K "parts_of" Ap.st fw)
  (d3:GF K "counted" Aq.st fx)
  (d4:GF K "spelled" Ar.st fy)
  (d5:GF K "digest" As.st fz)
  (d6:MF K aC "put" "Shelf.put" AD.st ga)
  (d7:GF K "_law_chain" Ci.st gb)
  (d8:GF K "is_path" AE.st gc)
  (d9:GF K "is_file" AG.st gd)
  (ea:GF K "folders_of" AF.st ge)
  (eb:GF K "need_files" AJ.st gf)
  (ec:GF K "put_rows" AH.st gg)
  (ed:GF K "put_files" AI.st gi)
  (ee:GF K "keep_files" Cd.st gk)
  (ef:GF K "_law_line_by" A9.st gl)
  (eg:GF K "_law_lines_near" Ca.st gn)
  (eh:GF K "_law_leaf_by" Cb.st go)
  (ei:GF K "_law_filled" Ce.st gp)
  (ej:GF K "_law_cell_at" A8.st gq)
  (ek:GF K "_law_closed" Cc.st gr)
  (el:GF K "cost_of" AQ.st gs)
  (em:GF K "table_row" AK.st gt)
  (en:GF K "common_table" AL.st gu)
  (eo:GF K "kept_pairs" AM.st gv)
  (ep:GF K "spans_of" AN.st gx)
  (eq:GF K "_law_plan" Cj.st gy)
  (er:GF K "names_in" A0.st gz)
  (es:GF K "add_found" A1.st g0)
  (et:GF K "in_order" A2.st g1)
  (eu:GF K "reached" A3.st g2)
  (ev:MF K c "take" "Pack.take" A4.st g3)
  (ew:GF K "least_cost" AS.st g4)
  (ey:GF K "best_base" AT.st g5)
  (ez:MF K c "steps" "Pack.steps" AV.st g6)
  (e0:GF K "marked" AR.st g7)
  (e1:MF K c "take_leaf" "Pack.take_leaf" A5.st g9)
  (e2:MF K c "__init__" "Pack.__init__" A7.st ha)
  (e3:GF K "_law_refused" Ch.st hc)
  (e4:GF K "_law_whole" Cf.st hd)
  (e5:MF K c "weight_at" "Pack.weight_at" AY.st he)
  (e6:MF K c "weight" "Pack.weight" AZ.st hf)
  (e7:GF K "_law_names_like" Ck.st hg)
  (e8:GF K "_law_like" Cm.st hh)
  (e9:GF K "_law_missed" Cg.st hi)
  (fb:GF K "law" Cn.st hj) :
  ∃fd:Ee,(∀(s:Eb) (v:D9),BindsTo s fd #[[v],[]] [("_law_script",v)])/\∀base:Es,K.In base->base.Ns Ek mg->zc l.prog w K mg base CA 15 fa fd ["_law_script"] (mR K):=by
 have T:Txt l.prog w K mg t1 t2 t3 t4 t5 t6 t7 t8 t9 aL aC aN c fI:=#[Ye X G J,Ye X G E,Ye X G M,Ye X G DB,Ye X G O,Ye X G N,Ye X G DO,Ye X G DV,Ye X G D2,Ye X G L,Ye X G I,Ye X G D4,Ye X G DW,Ye X G D3,Ye X G H,Yt X G Dy,Yt X G Ds,Yt X G Dx,Yt X G DL,Yt X G DA,Yt X G Du,Yt X G Dz,Ye X G DH,Ye X G P,Yt X G Dr,Yt X G DC,Yt X G DI,Yt X G DP,DN,D6,Yt X G DM,Yt X G D5,Yt X G DX,#[y,o,A,D],bm,bd,be,as,#[u,n,z,C],bf,bh,bl,B];let#[hL,oc,od,an,sl,kV,dc,pm,cd,ct,lL,cL,kL]:=fb;have e:=hk.symm.trans<|Yt X G hL;cases e;let:=#[EW "law" "law" (qU Cn.st) (xW Cn.st) (zI Cn.st) .none kV dc pm an cd ct,λs v=>.of_eq rfl,λb _ _=>?_];have C0:=a0.met (mg:=mg) b λ_ F=>Au.ok T F;have C1:=a1.met (mg:=mg) b λ_ F=>AX.ok T F;have C2:=a2.met (mg:=mg) b λ_ F=>Av.ok T F;have C3:=a3.cal X G b λ_ F _ _=>Aw.ok T F;have C4:=a4.met (mg:=mg) b λ_ F=>Ax.ok T F C3;have C5:=a5.met (mg:=mg) b λ_ F=>Ay.ok T F C3;have C6:=a6.gA X G b λ_ F _ _=>Az.ok T F C4 C5;have Q:=a7.met (mg:=mg) b λ_ F=>AA.ok T F C6;have C8:=a8.fV (mg:=mg) b λ_ F=>AU.ok T F C6;have C9:=a9.cal X G b λ_ F _ _=>AO.ok T F;have f:=di.gm (mg:=mg) b λ_ F hm hb=>BG F T C8 C9 hm hb 5;have bo:=dj.mak b r p T.fY λ_ F=>A6.ok T F C0 C1 C2 Q f;have bx:=dk.cal X G b λ_ F _ _=>Aa.ok T F;have R:=dl.cal X G b λ_ F _ _=>Ab.ok T F bx;have S:=dm.cal X G b λ_ F _ _=>Ac.ok T F R;have b0:=dn.cal X G b λ_ F _ _=>Ah.ok T F S;have U:=dp.cal X G b λ_ F _ _=>Ad.ok T F;have b1:=dq.cal X G b λ_ F _ _=>Ae.ok T F U;have b2:=dr.cal X G b λ_ F _ _=>Ag.ok T F b1;have b3:=ds.cal X G b λ_ F _ _=>Ai.ok T F b2;have b4:=dt.cal X G b λ_ F _ _=>Af.ok T F;have b5:=du.cal X G b λ_ F _ _=>Aj.ok T F b4 R;have ca:=dv.cal X G b λ_ F _ _=>Ak.ok T F b0 b3 b5;have cb:=dx.cal X G b λ_ F _ _=>Al.ok T F ca;have cc:=dy.met (mg:=mg) b λ_ F=>AB.ok T F Q;have ce:=dz.met (mg:=mg) b λ_ F=>AC.ok T F cc;have Y:=d0.cal X G b λ_ F _ _=>Am.ok T F;have cf:=d1.cal X G b λ_ F _ _=>Ao.ok T F;have cg:=d2.cal X G b λ_ F _ _=>Ap.ok T F cf;have ch:=d3.cal X G b λ_ F _ _=>Aq.ok T F;have ci:=d4.cal X G b λ_ F _ _=>Ar.ok T F Y cg ch;have cj:=d5.cal X G b λ_ F _ _=>As.ok T F ci;have d:=d6.met (mg:=mg) b λ_ F=>AD.ok T F cb ce Y cj C2;have ck:=d7.cal X G b λ_ F _ _=>Ci.ok T F d;have cl:=d8.cal X G b λ_ F _ _=>AE.ok T F U;have cm:=d9.cal X G b λ_ F _ _=>AG.ok T F cl S;have cn:=ea.cal X G b λ_ F _ _=>AF.ok T F;have co:=eb.cal X G b λ_ F _ _=>AJ.ok T F cm cn;have cp:=ec.cal X G b λ_ F _ _=>AH.ok T F d;have cq:=ed.cal X G b λ_ F m h=>AI.ok T F d cp m h;have cr:=ee.cal X G b λ_ F _ _=>Cd.ok T F co cq;have cu:=ef.cal X G b λ_ F _ _=>A9.ok T F;have cv:=eg.cal X G b λ_ F _ _=>Ca.ok T F cu;have cw:=eh.cal X G b λ_ F _ _=>Cb.ok T F cv;have cx:=ei.cal X G b λ_ F _ _=>Ce.ok T F cr d cw;have cy:=ej.cal X G b λ_ F _ _=>A8.ok T F;have cz:=ek.cal X G b λ_ F _ _=>Cc.ok T F C0 Q;have g:=el.cal X G b λ_ F _ _=>AQ.ok T F;have c0:=em.cal X G b λ_ F _ _=>AK.ok T F;have c1:=en.cal X G b λ_ F _ _=>AL.ok T F c0;have c2:=eo.cal X G b λ_ F _ _=>AM.ok T F c1;have Z:=ep.cal X G b λ_ F _ _=>AN.ok T F c2;have c3:=eq.cal X G b λ_ F _ _=>Cj.ok T F Q g Z;have c4:=er.cal X G b λ_ F _ _=>A0.ok T F;have c5:=es.cal X G b λ_ F _ _=>A1.ok T F Q f c4;have c6:=et.cal X G b λ_ F _ _=>A2.ok T F C0 C1;have aa:=eu.gA X G b λ_ F _ _=>A3.ok T F C6 c5 c6;have ab:=ev.met (mg:=mg) b λ_ F=>A4.ok T F;have c7:=ew.cal X G b λ_ F _ _=>AS.ok T F;have c8:=ey.cal X G b λ_ F _ _=>AT.ok T F c7 Z g;have i:=ez.gm (mg:=mg) b λ_ F hm hb=>BJ F T C8 hm hb 5;have c9:=e0.cal X G b λ_ F _ _=>AR.ok T F;have da:=e1.met (mg:=mg) b λ_ F=>A5.ok T F ab c8 i c9;have ai:=e2.fM b t q T.Pack λ_ F=>A7.ok T F aa Q f da ab;have db:=e3.cal X G b λ_ F _ _=>Ch.ok T F ai;have j:=e4.cal X G b λ_ F _ _=>Cf.ok T F;have dd:=e5.met (mg:=mg) b λ_ F=>AY.ok T F g;have al:=e6.met (mg:=mg) b λ_ F=>AZ.ok T F dd;have de:=e7.cal X G b λ_ F _ _=>Ck.ok T F C5 i j;have df:=e8.cal X G b λ_ F _ _=>Cm.ok T F C1 j al de;have dh:=e9.cal X G b λ_ F _ _=>Cg.ok T F f i C5;let:=Cn.ok T (vW (st:=Cn.st) lL cL kL) bo ck cx cy C0 cz c3 ai aa db d C1 j al C5 df dh
theorem walk {l:PySem.W.OpenLaw}{q:Ea}{b:By}{g:(Str->Db)->Es->Prop}{e:Ef->Es->Prop}{d:DefRec}{K:Params->Co}(o:l.most=some 63)(c:d.params.defaults=[])
  (j:∀(w:Ef) (h:Es),e w h->(K w.params).In h)
  (F:∀(w:Ef) (mg:Str->Db) (fa:D8) (h:Es),(K w.params).In h->h.Ns Ek mg->mg d.name=some (.ref fa) -> ∃fd:Ee,(∀(s:Eb) (u:D9),BindsTo s fd #[[u],[]] [("_law_script",u)])/\∀base:Es,(K w.params).In base->base.Ns Ek mg->zc l.prog w (K w.params) mg base CA 15 fa fd ["_law_script"] (mR<|K w.params)) :
  PySem.W.WalkO q b g e l.row.toRowW d [] (λf vs=>PySem.call f vs) :=
 L2.iT (n:=63) (k:=15) (x:="_law_script") (CX:=λ_=>CA) (sp:=λw=>mR<|K w.params) o ∅ c #[rfl,∅,∅] j F (λ_ _ a ns hl _ i=>#[a,ns,rfl,i,hl,λ_=>rfl]) λ_ _ _ _ _ z=>z
end An29
end
open PySem PySem.W PyProof.Rows
set_option maxRecDepth 100000 in
set_option maxHeartbeats 0 in
theorem PySem.Challenge.cw_annals_k29_how_packed_holds : PySem.Challenge.rw_annals_k29_how_packed.Holds := by
 w_on;o_law;k_head;(case hw=>w_witness2)
 k_fill
 let:=An29.walk (l:=PySem.Challenge.rw_annals_k29_how_packed) rfl rfl (λw h Y=>PySem.W.kIn_of Y) ?F
 case F =>
  intro w mg fa h KX G hmg;refine' An29.all_mk KX G hmg ?z_len ?z_all ?z_ord ?DB ?z_str ?z_set ?DO ?DV ?D2 ?z_max ?z_int ?D4 ?DW ?D3 ?z_any ?Dy ?Ds ?Dx ?DL ?DA ?Du ?Dz ?DH ?z_sum ?Dr ?DC ?DI ?DP ?DN ?D6 ?DM ?D5 ?DX ?pg_aP ?hd_aP ?po_aP ?sa_aP ?mk_aP ?kc_aP ?s_ne ?s_m1 ?s_m2 ?s_kd ?pg_aC ?hd_aC ?po_aC ?sa_aC ?mk_aC ?kc_aC ?s_n1 ?s_n2 ?s_n3 ?s_kit ?a0 ?a1 ?a2 ?a3 ?a4 ?a5 ?a6 ?a7 ?a8 ?a9 ?a10 ?a11 ?a12 ?a13 ?a14 ?a15 ?a16 ?a17 ?a18 ?a19 ?a20 ?a21 ?a22 ?a23 ?a24 ?a25 ?a26 ?a27 ?a28 ?a29 ?a30 ?a31 ?a32 ?a33 ?a34 ?a35 ?a36 ?a37 ?a38 ?a39 ?a40 ?a41 ?a42 ?a43 ?a44 ?a45 ?a46 ?a47 ?a48 ?a49 ?a50 ?a51 ?a52 ?a53 ?a54 ?a55 ?a56 ?a57 ?a58 ?a59 ?a60 ?a61 ?a62 ?a63 ?a64 ?a65 ?a66 ?a67 ?a68 ?a69 ?a70 ?a71
  case z_len|z_all|z_ord|DB|z_str|z_set|DO|DV|D2|z_max|z_int|D4|DW|D3|z_any|Dy|Ds|Dx|DL|DA|Du|Dz|DH|z_sum|Dr|DC|DI|DP|DM|D5|DX=>k_is
  case a0|a1|a2=>(apply An29.MF.mk;k_is;k_is;k_is;k_is;k_is)
  case a3=>(apply An29.GF.mk;k_is;k_is;k_is;k_is)
  case a4|a5=>(apply An29.MF.mk;k_is;k_is;k_is;k_is;k_is)
  case a6=>(apply An29.GF.mk;k_is;k_is;k_is;k_is)
  case a7|a8=>(apply An29.MF.mk;k_is;k_is;k_is;k_is;k_is)
  case a9=>(apply An29.GF.mk;k_is;k_is;k_is;k_is)
  case a10|a11=>(apply An29.MF.mk;k_is;k_is;k_is;k_is;k_is)
  case a12|a13|a14|a15|a16|a17|a18|a19|a20|a21|a22|a23=>(apply An29.GF.mk;k_is;k_is;k_is;k_is)
  case a24|a25=>(apply An29.MF.mk;k_is;k_is;k_is;k_is;k_is)
  case a26|a27|a28|a29|a30|a31=>(apply An29.GF.mk;k_is;k_is;k_is;k_is)
  case a32=>(apply An29.MF.mk;k_is;k_is;k_is;k_is;k_is)
  case a33|a34|a35|a36|a37|a38|a39|a40|a41|a42|a43|a44|a45|a46|a47|a48|a49|a50|a51|a52|a53|a54|a55|a56=>(apply An29.GF.mk;k_is;k_is;k_is;k_is)
  case a57=>(apply An29.MF.mk;k_is;k_is;k_is;k_is;k_is)
  case a58|a59=>(apply An29.GF.mk;k_is;k_is;k_is;k_is)
  case a60=>(apply An29.MF.mk;k_is;k_is;k_is;k_is;k_is)
  case a61=>(apply An29.GF.mk;k_is;k_is;k_is;k_is)
  case a62|a63=>(apply An29.MF.mk;k_is;k_is;k_is;k_is;k_is)
  case a64|a65=>(apply An29.GF.mk;k_is;k_is;k_is;k_is)
  case a66|a67=>(apply An29.MF.mk;k_is;k_is;k_is;k_is;k_is)
  case a68|a69|a70|a71=>(apply An29.GF.mk;k_is;k_is;k_is;k_is)
  case DN|D6=>first|k_is|kernel_rfl|rfl|(with_unfolding_all rfl)|decide+kernel +revert
  case pg_aP|hd_aP|po_aP|sa_aP|mk_aP|kc_aP=>k_is
  case s_ne=>first|k_is|kernel_rfl|rfl|(with_unfolding_all rfl)|decide+kernel +revert
  case s_m1|s_m2=>k_is
  case s_kd=>let:=An29.gB (by k_is)
  case pg_aC|hd_aC|po_aC|sa_aC|mk_aC|kc_aC|s_n1|s_n2|s_n3=>k_is
  case s_kit=>(intro a ha b hb;simp only[An29.kinds,Zx,Yg,Jo]at ha hb;rcases ha with rfl|rfl|rfl|rfl|rfl|rfl|rfl<;>rcases hb with rfl|rfl|rfl|rfl|rfl|rfl|rfl<;>rfl)
