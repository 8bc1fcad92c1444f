import PyProof.Rows.All
import Wide.All
import OpenK.AllK
import PySem.Challenge.RW_annals_k25_one_carried
set_option Elab.async false
set_option linter.all false
set_option compiler.extract_closed false
set_option genSizeOf false
set_option maxRecDepth 100000
def hB (t:Lean.Syntax):(Lean.MacroM Lean.Syntax):=let t:Lean.TSyntax `tactic:=⟨t⟩;`(tactic|first|(refine Classical.byContradiction λg=>?_;$t:tactic;all_goals(refine g ?_;clear g))|$t:tactic)
local macro_rules|`(universe $x*)=>return Lean.mkNullNode ((←x.mapM λi=>let j:=Lean.mkIdent (`PySem.W.Fast++i.getId);`(theorem $j:ident:True:=⟨⟩)).map (·.1))
local macro_rules(kind:=Lean.Parser.Command.declaration)|s=>do
 if s.getPos?.isNone then Lean.Macro.throwUnsupported
 let k:=s[1].getKind;let s:=s.rewriteBottomUp λt=>match t with|.node _ k a=>.node .none k a|.atom _ v=>.atom .none v|.ident _ r n p=>.ident .none r n p|t=>t
 if k==`Lean.Parser.Command.definition&&s[0][4].getNumArgs==0&&s[1][2][1].getNumArgs>0&&s[1][2][1][0][1].getKind !=`Lean.Parser.Term.paren then return s.setArg 1<|Lean.mkNode `Lean.Parser.Command.theorem #[Lean.mkAtom "theorem",s[1][1],Lean.mkNode `Lean.Parser.Command.declSig #[s[1][2][0],s[1][2][1][0]],s[1][3]]
 return if (k==`Lean.Parser.Command.definition||k==`Lean.Parser.Command.abbrev)&&s[0][4].getNumArgs==0 then s.setArg 0<|s[0].setArg 4<|Lean.mkNullNode #[Lean.mkNode `Lean.Parser.Command.noncomputable #[Lean.mkAtom "noncomputable"]] else s
local macro_rules(kind:=Lean.Parser.Tactic.rcases)|s=>do
 if s[1].getNumArgs !=1||s[1][0][0].getNumArgs !=0||s[2].getNumArgs==0 then Lean.Macro.throwUnsupported
 let a:=Lean.mkAtom;let o x:=Lean.mkNullNode x;hB<|Lean.mkNode `Lean.Parser.Tactic.obtain #[a "obtain",o #[s[2][1][0]],s[2][1][1],o #[a ":=",o #[s[1][0][1]]]]
local macro_rules(kind:=Lean.Parser.Tactic.rintro)|s=>do
 let q:=s[1].getArgs;let l:=q.back!
 if l[0].getKind !=`Lean.Parser.Tactic.rcasesPat.tuple||s[2].getNumArgs !=0 then Lean.Macro.throwUnsupported
 let h←`(rintroPat|h);let r:Lean.TSyntax `tactic:=⟨s.setArg 1<|Lean.mkNullNode<|q.pop.push h⟩;let t:Lean.TSyntax `Lean.Parser.Tactic.rcasesPatMed:=⟨Lean.mkNode `Lean.Parser.Tactic.rcasesPatMed #[Lean.mkNullNode #[l[0]]]⟩
 let t:Lean.TSyntax `tactic:=⟨←hB (←`(tactic|obtain $t := h))⟩;`(tactic|($r:tactic;$t:tactic))
local macro_rules(kind:=Lean.Parser.Tactic.tacticLet__)|s=>do
 let d:=s[2][0];let o x:=Lean.mkNullNode x;let n k a:=Lean.mkNode (`Lean.Parser.Tactic++k) a;let m x:=n `rcasesPatMed #[o #[x]];let a:=Lean.mkAtom;if d.getKind==`Lean.Parser.Term.letPatDecl then
  let p:=d[0].rewriteBottomUp λt=>match t.getKind with
   |`ident=>n `rcasesPat.one #[t]
   |`Lean.Parser.Term.hole=>n `rcasesPat.ignore #[t[0]]
   |`«term#[_,]»=>n `rcasesPat.tuple #[a "⟨",o<|t[1].getArgs.map λx=>if x.isAtom then x else n `rcasesPatLo #[m x,o #[]],a "⟩"]
   |_=>t
  let t:=n `obtain #[a "obtain",o #[m p],o d[2][0].getArgs,o #[a ":=",o #[d[4]]]];if d[0][1].getNumArgs<5 then return t else hB t
 else return if d[0][0].getKind==`hygieneInfo then n `refine #[a "refine",d[4]] else n `tacticHave__ #[a "have",s[1],s[2]]
local macro_rules|`(#v[$xs,*])=>`(List.toArray [$xs,*])
local macro_rules(kind:=«term#[_,]»)|s=>return Lean.mkNode `Lean.Parser.Term.anonymousCtor #[Lean.mkAtom "⟨",s[1],Lean.mkAtom "⟩"]
local macro_rules|`(tactic|lk)=>`(tactic|decide+kernel)
local macro_rules|`(⋯)=>`(by lia)
local macro_rules|`(∅)=>`(by decide)
local macro_rules|`(⇑$x)=>`(($x).heap.objs.size)
local macro_rules|`(↑$x)=>`(($x).length)
local macro_rules(kind:=Lean.Parser.Term.quotedName)|s=>return Lean.mkIdent<|s[0].isNameLit?.get!++`length
abbrev By:=List PySem.Str
abbrev Da:=List PySem.Value
abbrev Db:=Option PySem.Value
abbrev Dc:=List PySem.Addr
abbrev Dd:=List<|PySem.Addr×PySem.Obj
abbrev De:=List PySem.PyData
abbrev Df:=List<|PySem.Str×PySem.Str
abbrev Dg:=PySem.Shared->Prop
abbrev CK:=PySem.W.Frag
open PySem renaming wpAny_bind->Zz,wpAny_pure->ZF,boot_len->Yh,wpAny_holding->Ys,wpAny_setState_of->Yu,wpAny_call_entry->Yw,wpAny_newObj_type->YA,wpAny_callSpecial?_slot->YJ,wpAny_mono->YO,wpAny_setField->YW,wpAny_isInstance->YX,sizeLine_eq->Y2,isSubtype_type->Y5,wpAny_ite_split->Y6,wpAny_field->Jb,wpAny_of_eq->Jc,codeAny_builtin->Jg,wpAny_Call_Name_kw->Jo,wpAny_attempt->Ju,mem_of_lookup->JC,wpAny_rule->JK,wpAny_askSetting->JL,codeAny_mono->JN,wpAny_truthy_bool->JP,wpAny_specialOf->JS,call_meets->JZ,tupleKind_room_in1->J0,wpAny_passesOwn->J5,wpAny_pyIter_list->J7,wpAny_typeOf->J9,wpAny_setEntries_of->Vi,call_meetsIn->Vq,typeLookup_type->Vt,wpAny_storeSet_of->VB,codeAny_call_builtin->VG,wpAny_forIn_list->VJ,plainId_quiet->VU,wpAny_execs_nil->VW,wpAny_call->VZ,typeIs_str->V0,wpAny_Call_method0_late->V4,isSubtype_stop->Ub,wpAny_seqItems->Uc,fits_of_scanBound->Uf,wpAny_standAt->Us,evalArgs_none->Uz,wpAny_richCompare_same_room->UB,wpAny_tupleItemsOf->UD,entryFor_alias->UE,wpAny_fieldsOf->UJ,wpAny_Call_method->UP,wpAny_pyIter_slot->UQ,wpAny_dictEntries->UT,signature?_of->UU,wpAny_handled->UV
open List renaming length_map->ZA,mem_cons_of_mem->ZB,mem_singleton->ZC,mem_cons_self->ZD,mem_map->ZH,mem_of_getElem?->ZI,mem_cons->ZJ,map_append->ZM,getElem?_map->ZN,getElem?_eq_getElem->ZO,length_append->ZS,map_map->ZV,getElem?_eq_some_iff->ZW,mem_append->ZY,size_toArray->Z7,length_take->Z8,map_cons->Z9,nodup_iff_pairwise_ne->Ya,mem_append_right->Yb,all_eq_true->Yc,not_mem_nil->Yd,take_length->Yg,append_nil->Yi,length_cons->Yj,mem_iff_getElem->Ym,map_congr_left->Yp,getElem?_append_left->Yr,getElem?_append_right->Yy,mem_append_left->YB,nodup_cons->YC,take_add_one->YE,any_eq_true->YH,eq_nil_of_length_eq_zero->YI,mem_filter->YK,nodup_nil->YM,mem_range->YQ,pairwise_map->YR,nodup_append->YS,length_range->YT,mem_flatMap->YZ,cons_ne_nil->Y0,append_assoc->Y1,getElem_mem->Y8,getElem?_eq_none->Jd,cons_lt_cons_iff->Je,getD_eq_getElem?_getD->Jf,mem_of_find?_eq_some->Ji,filterMap_cons->Jj,take_append_drop->Jk,mem_iff_getElem?->Jm,perm_ext_iff_of_nodup->Jz,find?_cons->JD,pairwise_iff_getElem->JF,length_singleton->JH,getElem_inj->JJ,mem_of_mem_take->JO,flatMap_cons->JQ,take_of_length_le->JW,mem_filterMap->JX,length_filter_le->J2,getElem?_zip_eq_some->J4,sum_cons->Vd,length_drop->Vk,pairwise_singleton->Vl,eq_nil_iff_forall_not_mem->Vn,of_mem_zip->Vs,length_nil->Vu,find?_some->Vv,ext_getElem?->VC,getElem?_set_ne->VE,getElem?_eq_none_iff->VM,drop_eq_getElem_cons->VO,length_pos_iff->VP,getElem?_range->VS,nil_append->VX,foldl_cons->VY,append_cancel_left->V6,take_sublist->V8,foldl_append->Ue,filterMap_append->Ui,getElem?_toArray->Uj,map_fst_zip->Uo,filter_cons->Uq,map_take->Ut,map_id->Uw,drop_zero->UF,lt_irrefl->UG,pairwise_cons->UH,filter_append->UI,map_replicate->UL,any_eq_false->UM,getElem_take->UR,not_lt->US
open Option.some renaming inj->dI
open Sum.inr renaming inj->dV
open Option renaming some->A0,none->Ee
open Bool renaming true->Eg,false->Ei
def Ej.{u}{α:Sort u}{a:α}:a=a:=rfl
open PySem.Heap renaming get?_push_of_some->ZE,get?_push_size->ZL,lt_size->ZP,get?_update_other->Yq,get?_update_self->Yt,size_push->JY,get?_none_of_le->Uu
open Nat renaming le_refl->ZG,ne_of_lt->ZU,lt_of_lt_of_le->Z0,zero_le->Yk,le_trans->Yz,le_of_lt->Y3,lt_irrefl->Y7,lt_succ_of_lt->Jw,ne_of_gt->JV,eq_zero_or_pos->J1,le_succ->J8,le_of_eq->Va,lt_succ_self->Vj,succ_le_succ->Vo,lt_trichotomy->VA,lt_or_ge->VL,lt_of_le_of_lt->V1
abbrev ZK:=@decide_eq_true
abbrev ZT:=@of_decide_eq_true
abbrev ZX:=@if_neg
abbrev ZZ:=@decide_eq_false
abbrev Z4:=@if_pos
abbrev Z6:=@decide_eq_true_iff
abbrev YF:=@decide_eq_true_eq
abbrev YY:=@or_false
abbrev Jr:=@decide_eq_decide
abbrev JB:=@beq_eq_false_iff_ne
abbrev JM:=@of_decide_eq_false
abbrev Vc:=@beq_iff_eq
abbrev Vm:=@decide_eq_false_iff_not
abbrev Ud:=@iff_of_false
abbrev UA:=@ne_true_of_eq_false
open Bool renaming and_eq_true->ZQ,false_ne_true->Yf,eq_iff_iff->YV,and_false->Jy,or_eq_false_iff->Vb,eq_false_iff->Vz,false_eq_true->V2,not_eq_true'->Ua,false_and->Ug,or_eq_true->Ux,or_false->UX
open PyProof.Rows renaming boot_isinstance->ZR,boot_str->YD,boot_tuple->YN,boot_sorted->Y9,callWith_type1->Jt,boot_list->JA,slot_tuple_getitem->JE,boot_all->JI,boot_set->J3,toString_length_le->Vh,boot_max->Uk,callWith_builtin1->Ul,int_text_len_1921->Um,slice_closes_toL->Uv,assignInOrder_cons->UC,listUpdate_at->UW
open PySem.F renaming plainAttrs_list->Z1,slot_list_append->Yn,type_list_append->Yo,plainAttrs_str->Y4,slot_dict_get->JG,slot_list_extend->Vf,type_list_extend->Vg,entry_dict_get->Vr,slot_str_join->Vw,type_str_join->Vx,args_tuple_add_2->VT,entry_tuple_add->V3,plainAttrs_dict->V5,slot_tuple_add->V9
open Option renaming map_eq_some_iff->Z2,isSome_iff_exists->Yx,bind_eq_some_iff->JR,map_some->J6,isSome_map->Vy,ne_none_iff_exists'->VI,isNone_iff_eq_none->VN
open Array renaming length_toList->Ye,getD_eq_getD_getElem?->YG,getElem?_toList->YU,getElem?_eq_getElem->Jh,getElem?_eq_some_iff->Jx,getElem_toList->VH,size_map->UK
open PySem.W renaming mg_of->Yl,mg_none_of->Yv,kia_one->YL,hideAll_get->JT,callWith_K->Vp,hideAll_none->VD,cellsFrom_some->V7,plainGet_of->Uy,kitx_list->UN,kitx_dict->UO
open PySem.Value renaming isStrOf_shape->Ja
open Int renaming eq_ofNat_of_zero_le->Jp
open PyProof.Rows.F renaming plain_set_update_loop->JU,entry_set_update_loop->VQ
open List.Perm renaming eq_of_pairwise->Ve
open PySem.List renaming filterMap_getElem?_range_length->VR
open PySem.W.KIN renaming signs_num->Uh
open List.Nodup renaming length_le_of_subset->Ur
open PySem renaming Addr->Er,Value->Es,Program->Et,Shared->Eu,FuncData->Ew,World->Ey,wpAny->EA,PyData->EB,model->EC,mainGlobals->ED,Heap->EH,starEach->EI,Around->EL,Expr->ER,Stmt->ES,compareOp->EZ,sysModules->E6,eval->E8,rawInt->La,SetTable->Lc,cLine->Ld,Paired->Lo,assignEach->Lr,backTo->Lu,attributeBase->Lx,bootBuiltins->LO,codeAny->LP,binaryOp->LS,pyNext->L6,Scope->Ma,foldedSetIterable->Mb,swapsWith->Mj,scanBound->Ml,behindInMarks->Mo,NameKind->Mq,ReadsAll->Ms,keywordEach->Mv,sliceBounds->Mw,DictEntry->Mx,isSubtype->My,compEnvC->MM,getItem->MS,pickOrder->MU,entryFor->MV,holding->MW,ElemsOf->MX,IsPart->MY
open PySem.PyData renaming strOk->Ez,canLayAll0->EJ,eqv->EX,depthAll->E2,eqvAll->E7,str->E9,keyHash->Mi
open Sum renaming inr->EE
open PySem.W renaming nsIn->EF,findIn->EV,kitOne->E3,keepIn->E5,fnOf->Le,plainGet->LK,codeIn->LL,instObj->LR,excIn->LU,hasDictIn->Mc,makesIn->Mt,plainOver->Mz,emptyDict->MA,isFn->MR
open Ne renaming symm->EG
open List renaming range->EK,replicate->EN,toArray->LQ,lookup->ML
open PySem.PassesOwn renaming never->EM
open PySem.Value renaming ref->EO,none->EY,isStrOf->Lk,isInt->MK
open PySem.SetTable renaming sizeAbove->EQ,below->Lz,grown->LN,bits->LZ,runEnd->MP
open PySem.Heap.SameBut renaming update->ET
open PySem.SeqAt renaming shaped->EU,eqBoolOverData->Mh
open PySem.Heap renaming SameBut->EW,ExtBut->MN
open False renaming elim->E4
open PySem.Calls renaming callWith_builtin->Lb,spliced_cons->Ly,evalArgs_plain->LH,spliced_nil->Me,call_function_entry->Mn
open PySem.Builtin.Frozenset renaming updateFrom->Lf
open PySem.Obj renaming mapSeq->Lg,mapFields->Ln,data_mapFields->Mu,putSet->MJ
open PySem.Builtin.Str renaming occurrences->Lh,strSub->Lj,partsBetween->LI
open PySem.StrLaws renaming glued_eq_join->Li,subAt_one->MC
open Pure renaming pure->Lm
open PySem.Around renaming under_plainId->Lp
open PyProof.Rows renaming seqObj->Lq,envOfC->MI,AllBare->MQ
open True renaming intro->Ls
open PySem.Str renaming ofString->Lv,length_append->MG,empty->MT
open PySem.Builtin.Tuple renaming tupleHashOf->LA,tupleItemsOf->Mg
open Classical renaming byContradiction->LD
open PySem.Txt renaming slice->LG,split->LV
open PySem.Builtin.Range renaming rangeSize->LJ
open PySem.Shared renaming TypeIs->LW
open Prod renaming ext->Mf
open PySem.Builtin.Slice renaming slicePlaces->Mm
open ToString renaming toString->Mp
open PySem.Builtin.List renaming listTooLong->Mr
open String renaming splitOnAux->MB
open PySem.F renaming slot_dict_items->MD
open List.Pairwise renaming map->ME
open Or renaming inl->MH
open ForInStep renaming yield->MO
variable{g':Array GenState}{ps:By}{K:CK}{op:CmpOp}{fp ch:Dc}{Dp:Dd}{dX h':EH}{A:EL}{tg iter:ER}{env:Env}{z:Er}{cls:Es}{E Q:Es->Dg}{prog P:Et}{s:Eu}{w:Ey}{src:List<|Option Nat}{pl:List By}{es ifs:List ER}{body:List ES}{outer:List Env}{ns:List Int}{scope:Ma}{DA n slot mask i t':Nat}{lo:Option Int}{Ds pos tpos:Pos}{R:Result->Dg}{qual x y:Str}{mg:Str->Db}
namespace L2
open PySem PySem.Spec PyProof.Rows
abbrev Key:=Sum Int Str
def Fp:(Key->Es->Bool)|.inl k,v=>MK k v|.inr x,v=>Lk x v
def iS(w:Ey):(Key->Int)|.inl k=>hashInt k|.inr x=>hashStr w x
def yL:∀{k:Key}{v:Es},Fp k v=Eg->(∃i t,k=Sum.inl i/\v=Value.int i t)\/∃x t,k=EE x/\v=Value.str x t|.inl i,v,h=>by let#[t,e]:=Value.isInt_shape h;let:=.inl #[i,t,Ej,e]|.inr x,v,h=>by let#[t,e]:=Ja h;let:=.inr #[x,t,Ej,e]
def Rg(i:Int)(t:Tok):Fp (.inl i) (.int i t)=Eg:=by simp[Fp,MK]
def qA(x:Str)(t:Tok):Fp (.inr x) (.str x t)=Eg:=by simp[Fp,Lk]
def cN(a b:Int):decide ((Sum.inl a:Key)=Sum.inl b)=(a==b):=by
 by_cases e:a=b;.subst e;simp
 simp_all
def cQ(a b:Str):decide ((EE a:Key)=EE b)=decide (a=b):=by simp
def cO(a:Int)(b:Str):decide ((Sum.inl a:Key)=EE b)=Ei:=rfl
def cP(a:Str)(b:Int):decide ((EE a:Key)=Sum.inl b)=Ei:=rfl
def yx(prog:Et)(w:Ey):(PySem.KeyKind prog w Key) where
 is:=Fp
 hash:=iS w
 inj:=λv a b ha hb=>by
  rcases yL ha with⟨i,t,rfl,rfl⟩|⟨x,t,rfl,rfl⟩
  .rcases yL hb with⟨j,u,rfl,e⟩|⟨y,u,rfl,e⟩;.injection e with c _;rw[c]
   .let:=nomatch e
  .rcases yL hb with⟨j,u,rfl,e⟩|⟨y,u,rfl,e⟩;.let:=nomatch e
   .injection e with c _;rw[c]
 byValue:=λk v h=>by rcases yL h with⟨i,t,rfl,rfl⟩|⟨x,t,rfl,rfl⟩<;>rfl
 pyHash:=λhv h=>by
  rcases yL hv with⟨i,t,rfl,rfl⟩|⟨x,t,rfl,rfl⟩;.let:=wpAny_pyHash_int h
  .let:=wpAny_pyHash_str h
 eqBool:=λf hv h=>by
  rcases yL f with⟨i,t,rfl,rfl⟩|⟨x,t,rfl,rfl⟩
  .rcases yL hv with⟨j,u,rfl,rfl⟩|⟨y,u,rfl,rfl⟩;.rw[cN]at h;let:=wpAny_eqBool_int h
   .rw[cO]at h;let:=SeqAt.EqAt.int_str i t y u _ _ _ _ h
  .rcases yL hv with⟨j,u,rfl,rfl⟩|⟨y,u,rfl,rfl⟩;.rw[cP]at h;let:=SeqAt.EqAt.str_int x t j u _ _ _ _ h
   .rw[cQ]at h;let:=wpAny_eqBool_str h
 «strs»:=λk x t v h=>by
  rcases yL h with⟨i,u,rfl,e⟩|⟨y,u,rfl,e⟩;.let:=nomatch e
  .injection e with c _;subst c;cases v<;>rfl
def KP(prog:Et)(w:Ey)(i:Int)(t:Tok):(yx prog w).is (.inl i) (.int i t)=Eg:=Rg i t
def KQ(prog:Et)(w:Ey)(x:Str)(t:Tok):(yx prog w).is (.inr x) (.str x t)=Eg:=qA x t
inductive V where|non|bl(b:Bool)|int(i:Int)|str(x:Str)|byt(b:Array UInt8)|flt(b:UInt64)|ref(a:Er)|ty(n:String)deriving DecidableEq
abbrev Dk:=List<|Key×V
abbrev Di:=List V
def yu:(V->Es->Prop)|.non,u=>u=EY|.bl b,u=>u=Value.bool b|.int i,u=>∃t,u=Value.int i t|.str x,u=>∃t,u=Value.str x t|.byt b,u=>∃t,u=Value.bytes b t|.flt b,u=>∃t,u=Value.float b t|.ref a,u=>u=EO a|.ty n,u=>u=Value.type n
abbrev zb:Di->Da->Prop:=Lo yu
def zb.length(r:zb xs us):`xs=`us:=`Paired r
def zb.get:∀{xs:Di}{us:Da}{i:Nat}{x:V},zb xs us->xs[i]?=A0 x->∃u,us[i]?=A0 u/\yu x u|_,_,_,_,.nil,e=>by simp at e|_,_,0,_,.cons r _,e=>by simp at e;subst e;let:=#[_,Ej,r]|_,_,i+1,x,.cons _ t,e=>by let#[u,h1,h2]:=zb.get t (by trivial);let:=#[u,by trivial]
def zb.set{x:V}(r:yu x u):∀{xs:Di}{us:Da}(i:Nat),zb xs us->zb (xs.set i x) (us.set i u)|_,_,_,.nil=>.nil|_,_,0,.cons _ t=>.cons r t|_,_,i+1,.cons q t=>.cons q<|zb.set r i t
def zb.append:∀{xs ys:Di}{us ws:Da},zb xs us->zb ys ws->zb (xs++ys) (us++ws)|_,_,_,_,.nil,s=>s|_,_,_,_,.cons r t,s=>.cons r<|zb.append t s
def zb.take:∀{xs:Di}{us:Da}(n:Nat),zb xs us->zb (xs.take n) (us.take n)|_,_,0,_=>.nil|_,_,_+1,.nil=>.nil|_,_,n+1,.cons r t=>.cons r<|zb.take n t
def zb.drop:∀{xs:Di}{us:Da}(n:Nat),zb xs us->zb (xs.drop n) (us.drop n)|_,_,0,r=>r|_,_,_+1,.nil=>.nil|_,_,n+1,.cons _ t=>zb.drop n t
def sU:(Option V->Db->Prop)|some v,A0 u=>yu v u|none,Ee=>True|_,_=>False
def KV{κ:Type}:(List (κ×V)->List (κ×Es)->Prop):=Lo λ(p:κ×V)(q:κ×Es)=>p.1=q.1/\yu p.2 q.2
def kV:(Key->V)|.inl i=>.int i|.inr x=>.str x
inductive HO where|lst(xs:Di)|tup(xs:Di)|dK(Dl:Dk)|dT(Dl:List<|List Key×V)|set(S:Int->Bool)(n:Nat)|ins(C dx:Er)(fs:List<|Str×V)|own(x:Er)|xd(fs:List<|Str×V)|met(f x:Er)|rng(lo hi:Int)|frz(o:Obj)(u:HO)|tbl(ps:Array Es)|ext(φ:EH->Prop)
abbrev Hp:=Er->Option HO
def upd(H:Hp)(a:Er)(o:HO):(Hp):=λb=>if b=a then A0 o else H b
def zD:upd H a o a=A0 o:=by unfold upd;simp
def zH{a b:Er}(h:b≠a):upd H a o b=H b:=by unfold upd;rw[ZX h]
def PD:upd (upd H a o) a u=upd H a u:=by funext b;simp_all[upd]
def gz{H:Hp}{a b:Er}{o u:HO}(h:H a=A0 o)(c:H b=A0 u)(d:o≠u):a≠b:=by intro e;simp_all
def zL{H:Hp}{a b:Er}{o:HO}(h:H a=A0 o)(c:H b=Ee):a≠b:=⋯
def TupAt(h:EH)(a:Er)(b:Array Es):(Prop):=∃o,h.get? a=A0 o/\o.cls=.type "tuple"/\∃n,o.data=.seq b n/\o.dict=Ee
def TupAt.is(t:TupAt h a Dm):IsTup h a Dm:=by let#[o,h1,h2,n,h3,_]:=t;let:=#[o,h1,h2,n,h3]
def TupAt.lt(t:TupAt h a Dm):a<h.objs.size:=t.is.lt
def TupAt.new(h:EH)(b:Array Es):TupAt (h.push {cls:=.type "tuple",data:=.seq b}) h.objs.size b:=#[_,ZL _ rfl,Ej,_,Ej,Ej]
section
variable(P:Et)(w:Ey)
def xx(H:Hp)(h:EH)(a:Er):(HO->Prop)|.lst xs=>`xs<=sizeLine/\∃(b:Da)(n:Nat),zb xs b/\h.get? a=A0 {cls:=.type "list",data:=.seq b.toArray n}|.tup xs=>`xs<=sizeLine/\∃b:Da,zb xs b/\TupAt h a b.toArray|.dK Dl=>`Dl<=sizeLine/\(a==E6)=Ei/\∃e,KV Dl e/\h.DictOf (yx P w) a e|.dT Dl=>`Dl<=sizeLine/\(a==E6)=Ei/\∃xs:List<|List Key×Er×Es,Lo (λ(p:List Key×V)(q:List Key×Er×Es)=>p.1=q.1/\H q.2.1=A0 (.tup<|p.1.map kV)/\yu p.2 q.2.2) Dl xs/\∃o c g,h.get? a=A0 o/\o.ExactDict/\o.data=.dict c g/\c.toList=xs.map (entryOfKey<|tupleKind<|yx P w)/\(xs.map (·.1)).Nodup|.set S n=>h.SetOf (intKind P w) a S n|.ins C dx fs=>H dx=A0 (.own a)/\`fs<=1000/\dx≠a/\h.get? a=A0 (LR C dx)/\∃mA,h.Ns1 dx mA/\(∀f,sU (fs.lookup f)<|mA f)/\PySem.Within mA (fs.map (·.1))|.own _=>∃o,h.get? a=A0 o|.xd fs=>∃mA,h.Ns1 a mA/\∀f,sU (fs.lookup f)<|mA f|.rng lo hi=>∃t u v,h.get? a=A0 {cls:=.type "range",data:=.fields #v[.int lo t,.int hi u,.int 1 v]}|.frz o u=>h.get? a=A0 o/\xx H h a u|.tbl ps=>h.get? a=A0 {cls:=.none,data:=.fields ps}|.met f x=>h.get? a=A0 (PySem.W.methodObj (.ref f)<|.ref x)|.ext φ=>φ h/\(∃o,h.get? a=A0 o)/\∀h1 h2:EH,φ h1->(∀o,h1.get? a=A0 o->h2.get? a=A0 o)->φ h2
def rK(H:Hp)(h:EH):(Prop):=∀a o,H a=A0 o->xx P w H h a o
end
section
variable{H H':Hp}{h:EH}{a:Er}{o:HO}
def xx.lt(x:xx P w H h a o):a<h.objs.size:=by cases o with|lst xs=>let#[_,_,_,_,e]:=x;let:=ZP e|tup xs=>let#[_,_,_,p]:=x;let:=p.lt|dK Dl=>let#[_,_,_,_,o,_,_,e,_]:=x;let:=ZP e|dT Dl=>let#[_,_,_,_,o,_,_,e,_]:=x;let:=ZP e|set S n=>let#[o,_,_,_,e,_]:=x;let:=ZP e|ins C dx fs=>let#[_,_,_,e,_]:=x;let:=ZP e|own y=>let#[_,e]:=x;let:=ZP e|xd fs=>let#[_,#[_,_,_,e,_],_]:=x;let:=ZP e|rng lo hi=>let#[_,_,_,e]:=x;let:=ZP e|frz ob u=>let#[e]:=x;let:=ZP e|tbl ps=>let:=ZP x|met f y=>let:=ZP x|ext φ=>let#[_,#[_,e],_]:=x;let:=ZP e
def Paired.zwG{α c:Type}{F G:α->c->Prop}:∀{l₁:List α}{l₂:List c},Lo F l₁ l₂->(∀a b,F a b->G a b)->Lo G l₁ l₂|_,_,.nil,_=>.nil|_,_,.cons r t,f=>.cons (f _ _ r)<|Paired.zwG t f
def xx.stay(x:xx P w H h a o)(k:∀b u,b=a\/H b=A0 (.own a)->h.get? b=A0 u->h'.get? b=A0 u)(A:∀b,H b=A0 (.own a)->H' b=A0 (.own a))(B:∀b xs,H b=A0 (.tup xs)->H' b=A0 (.tup xs)):xx P w H' h' a o:=by induction o with|lst xs=>let#[z,j,n,r,e]:=x;let:=#[z,j,n,r,k _ _ (.inl rfl) e]|tup xs=>let#[z,j,r,ob,e,c]:=x;let:=#[z,j,r,ob,k _ _ (.inl rfl) e,c]|dK Dl=>let#[z,y,D,r,ob,i,g,e,c]:=x;let:=#[z,y,D,r,ob,i,g,k _ _ (.inl rfl) e,c]|dT Dl=>let#[z,y,xs,r,ob,i,g,e,c]:=x;let:=#[z,y,xs,Paired.zwG r λp q z=>#[z.1,B _ _ z.2.1,z.2.2],ob,i,g,k _ _ (.inl rfl) e,c]|set S n=>let#[ob,i,g,t,e,c]:=x;let:=#[ob,i,g,t,k _ _ (.inl rfl) e,c]|ins C dx fs=>let#[d,z,ne,e,mA,#[l,i,g,s,c],r]:=x;let:=#[A _ d,z,ne,k _ _ (.inl rfl) e,mA,#[l,i,g,k _ _ (.inr d) s,c],r]|own y=>let#[ob,e]:=x;let:=#[ob,k _ _ (.inl rfl) e]|xd fs=>let#[mA,#[l,i,g,e,c],r]:=x;let:=#[mA,#[l,i,g,k _ _ (.inl rfl) e,c],r]|rng lo hi=>let#[t,u,v,e]:=x;let:=#[t,u,v,k _ _ (.inl rfl) e]|frz ob u ih=>let#[e,q]:=x;let:=#[k _ _ (.inl rfl) e,ih q]|tbl ps=>let e:=x;let:=k a _ (.inl rfl) e|met f y=>let e:=x;let:=k a _ (.inl rfl) e|ext φ=>let#[p,#[o,e],st]:=x;let:=#[st _ _ p λo q=>k _ _ (.inl rfl) q,#[o,k _ _ (.inl rfl) e],st]
def rK.lt(x:rK P w H h)(e:H a=A0 o):a<h.objs.size:=(x a o e).lt
def rK.fresh(x:rK P w H h)(e:h.objs.size<=a):H a=Ee:=by cases q:H a with|none=>rfl|some u=>let:=absurd (Z0 (x.lt q) e)<|Y7 _
def rK.kept(x:rK P w H h)(k:∀b u,h.get? b=A0 u->h'.get? b=A0 u):rK P w H h':=λa o e=>(x a o e).stay (λb u _ q=>k b u q) (λ_ q=>q) λ_ _ q=>q
def rK.laid(x:rK P w H h)(k:∀b u,h.get? b=A0 u->h'.get? b=A0 u)(f:h.objs.size<=a)(new:xx P w (upd H a o) h' a o):rK P w (upd H a o) h':=λb u e=>by
 let hn:=x.fresh f;by_cases hb:b=a;.simp_all[zD]
 .rw[zH hb]at e;let:=(x b u e).stay (λc v _ q=>k c v q) (λc q=>(zH<|zL q hn)▸q) λc xs q=>(zH<|zL q hn)▸q
end
def Rd(H:Hp)(a:Er)(u:HO):(Prop):=H a=A0 u\/∃o,H a=A0 (.frz o u)
def Rd.ok(r:Rd H a u)(x:rK P w H h):xx P w H h a u:=by
 rcases r with r|⟨o,r⟩;.let:=x a u r
 .let#[_,q]:=x a _ r;let:=q
def bW:(Option HO->Prop)|some<|.lst _=>True|some<|.dK _=>True|some<|.dT _=>True|some<|.set _ _=>True|some<|.ins _ _ _=>True|some<|.ext _=>True|_=>False
section
variable{H:Hp}{h:EH}{x e:Er}{o':HO}
def rK.write(ok:rK P w H h)(i:bW<|H x)(p:e=x\/H e=A0 (.own x))(k:∀b u,b≠e->h.get? b=A0 u->h'.get? b=A0 u)(l:∃u,h'.get? e=A0 u)(new:xx P w (upd H x o') h' x o'):rK P w (upd H x o') h':=λb u q=>by
 let f:∀c y,H c=A0 (.own y)->c≠x:=λc y r z=>by subst z;rw[r]at i;let:=i
 let g:∀c xs,H c=A0 (.tup xs)->c≠x:=λc xs r z=>by subst z;rw[r]at i;let:=i
 by_cases hb:b=x;.simp_all[zD]
 .rw[zH hb]at q;by_cases j:b=e
  .let n:H b=A0 (.own x):=by simp_all
   rw[q]at n;cases n;let#[v,hv]:=l;let:=#[v,j▸hv]
  .let:=(ok b u q).stay (λc v o r=>k c v ?_ r) (λc r=>(zH<|f c b r)▸r) λc xs r=>(zH<|g c xs r)▸r;grind
end
structure Un(fs ex:Dc)(H H':Hp)(h h':EH):Prop where
 keep:∀b o,h.get? b=A0 o->H b=Ee->b∉fs->b∉ex->h'.get? b=A0 o
 slot:∀b o,h.get? b=A0 o->H b=Ee->b∈fs->b∉ex->∃sl,h'.get? b=A0 {o with slots:=sl}free:∀b o,h.get? b=A0 o->H b=Ee->b∉ex->H' b=Ee
 there:∀b o,h.get? b=A0 o->b∉ex->∃o',h'.get? b=A0 o'
 tups:∀b xs,H b=A0 (.tup xs)->H' b=A0 (.tup xs)sO:∀b o u,H b=A0 (.frz o u)->H' b=A0 (.frz o u)rD:∀b ps,H b=A0 (.tbl ps)->∃more,H' b=A0 (.tbl<|ps++more)
section
variable{fs fs' ex ex':Dc}{H H1 H2:Hp}{h h1 h2:EH}{a x e:Er}{o:HO}
def Un.any(u:Un fs ex H H1 h h1){b:Er}{ob:Obj}(q:h.get? b=A0 ob)(n:H b=Ee)(c:b∉ex):∃sl,h1.get? b=A0 {ob with slots:=sl}:=by
 by_cases hb:b∈fs;.let:=u.slot b ob q n hb c
 .let:=#[_,u.keep b ob q n hb c]
def Un.kept(k:∀b u,h.get? b=A0 u->h'.get? b=A0 u):Un fs ex H H h h':=#[λb ob q _ _ _=>k b ob q,λb ob q _ _ _=>#[_,k b ob q],λ_ _ _ n _=>n,λb ob q _=>#[ob,k b ob q],λ_ _ q=>q,λ_ _ _ q=>q,λ_ c q=>#[#v[],by rw[q];simp]]
def Un.refl:Un fs ex H H h h:=Un.kept λ_ _ q=>q
def Un.laid(k:∀b u,h.get? b=A0 u->h'.get? b=A0 u)(c:h.objs.size<=a)(hn:H a=Ee):Un fs ex H (upd H a o) h h' where
 keep:=λb u q _ _ _=>k b u q
 slot:=λb u q _ _ _=>#[_,k b u q]
 free:=λb u q n _=>(zH<|ZU<|Z0 (ZP q) c)▸n
 there:=λb u q _=>#[u,k b u q]
 tups:=λb xs q=>(zH<|zL q hn)▸q
 sO:=λb u xs q=>(zH<|zL q hn)▸q
 rD:=λb e q=>#[#v[],by rw[zH<|zL q hn,q];simp]
def Un.write(f:bW<|H x)(j:e=x\/H e=A0 (.own x))(k:∀b u,b≠e->h.get? b=A0 u->h'.get? b=A0 u)(g:∃u,h'.get? e=A0 u):Un fs ex H (upd H x o) h h':=by
 let i:∀b,H b=Ee->b≠x:=λb n z=>by subst z;rw[n]at f;let:=f
 let hb:∀b,H b=Ee->b≠e:=λb n z=>by simp_all
 let hm:∀b u,H b=A0 u->¬bW (A0 u)->b≠x:=λb u q nm z=>by simp_all
 let:=#[λb u q n _ _=>k b u (hb b n) q,λb u q n _ _=>#[_,k b u (hb b n) q],λb u q n _=>(zH<|i b n)▸n,λb u q _=>?_,λb xs q=>(zH<|hm b _ q λz=>z)▸q,λb u xs q=>(zH<|hm b _ q λz=>z)▸q,λb l q=>#[#v[],by rw[zH<|hm b _ q λz=>z,q];simp]];by_cases c:b=e;.simp_all
 .let:=#[u,k b u c q]
end
def kh(h:EH)(H:Hp):(Dc):=(EK h.objs.size).filter λa=>(H a).isSome
def Kx(h:EH)(H:Hp):(Heap):=PySem.W.hideAll h<|kh h H
def Re(h:EH)(H:Hp):(Kx h H).objs.size=h.objs.size:=PySem.W.hideAll_size ..
def Sy{h:EH}{H:Hp}{b:Er}{o:Obj}(e:h.get? b=A0 o)(n:H b=Ee):(Kx h H).get? b=A0 o:=JT _ e λhm=>by let q:=(YK.mp hm).2;simp_all
def aa{b:Er}{o:Obj}(e:(Kx h H).get? b=A0 o):h.get? b=A0 o/\H b=Ee:=by let c:=PySem.W.of_hideAll _ e;let:=#[c,?_];cases q:H b with|none=>rfl|some x=>let hm:b∈kh h H:=YK.mpr #[YQ.mpr<|ZP c,by simp[q]];let z:(Kx h H).get? b=Ee:=VD _ hm;simp_all
structure Mod(K:CK)(mg:Str->Db)(dX:EH):Prop where
 kin:K.In dX
 glob:dX.Ns ED mg
 blt:∃mb,dX.Ns builtinsNs mb/\∀x:Str,x≠"__name__"->mb x=LO x
 nolimit:dX.NoLimit
structure Cx where
 prog:Et
 w:Ey
 K:CK
 mg:Str->Db
 dX:EH
 A:EL
 N:By
 s₀:Eu
 H₀:Hp
 env:Env
 outer:List Env
 stack:List Env
 ex:Dc
 fn:Str->Bool
 calm:Bool
 pn:Dd
 xe:Es->Dg
def frs(l:List Env):(Dc):=l.filterMap (·.frame)
abbrev Cx.fs(X:Cx):Dc:=frs X.outer
def fw(sc:Ma)(x:Str):(Prop):=sc.names.lookup x=A0 .local\/sc.names.lookup x=A0 .cell\/sc.names.lookup x=A0 .free
def Loc(sc:Ma)(x:Str):(Prop):=sc.names.lookup x=A0 .local\/sc.names.lookup x=A0 .cell
def Look(env:Env)(h:EH)(m:Str->Db)(x:Str)(u:Es):(Prop):=env.kindOf x=A0 .local/\m x=A0 u\/(env.kindOf x=A0 .cell\/env.kindOf x=A0 .free)/\∃c,env.cells.lookup x=A0 c/\h.IsCell c (A0 u)
structure Cx.Ok(X:Cx):Prop where
 mod:Mod X.K X.mg X.dX
 kind:X.env.scope.kind=.function
 glob:X.env.globals=ED
 blt:X.env.builtins=builtinsNs
 above:X.s₀.heap.objs.size<=X.env.locals
 inj:∀x y c,X.env.cells.lookup x=A0 c->X.env.cells.lookup y=A0 c->x=y
 has:∀x,X.env.kindOf x=A0 .cell\/X.env.kindOf x=A0 .free->∃c,X.env.cells.lookup x=A0 c
 cab:∀x c,X.fn x=Eg->X.env.cells.lookup x=A0 c->X.s₀.heap.objs.size<=c
 hd:X.calm=Eg->X.A.handled=Ee
 frames:X.A.frames=A0 X.stack
 stk:X.stack=X.outer\/X.stack=X.env::X.outer/\X.env.frame=A0 X.env.locals
 exf:∀b∈X.ex,b≠X.env.locals/\∀x c,X.env.cells.lookup x=A0 c->c≠b
 bs:∀b o,X.dX.get? b=A0 o->X.s₀.heap.get? b=A0 o/\X.H₀ b=Ee
 bsz:X.dX.objs.size<=X.s₀.heap.objs.size
 mQ:∀b o,X.dX.get? b=A0 o->b∉X.ex
 mj:∀b∈X.ex,b∉X.fs
 sW:X.s₀.heap.FunFrames X.dX X.outer
 frf:∀b∈X.fs,X.H₀ b=Ee
structure Inv(X:Cx)(Dp:Dd)(σ:List<|Option V)(H:Hp)(s:Eu):Prop where
 ok:X.Ok
 os:s.os=X.s₀.os
 bare:MQ s.gens
 dX:Un X.fs X.ex X.H₀ H X.s₀.heap s.heap
 loc:∃m,s.heap.Ns X.env.locals m/\∀(i:Nat)(x:Str)(v:V),X.N[i]?=A0 x->σ[i]?=A0 (A0 v)->fw X.env.scope x->∃u,yu v u/\Look X.env s.heap m x u
 cell:∀x c,X.env.cells.lookup x=A0 c->∃v,s.heap.IsCell c v
 free:H X.env.locals=Ee
 wJ:∀x c,X.env.cells.lookup x=A0 c->H c=Ee
 pin:∀p∈X.pn++Dp,s.heap.get? p.1=A0 p.2/\H p.1=Ee/\p.1≠X.env.locals/\p.1∉X.fs/\∀v,p.2.data≠.cell v
 hok:rK X.prog X.w H s.heap
 len:`σ=`X.N
section
variable{X:Cx}{σ:List<|Option V}{H H':Hp}
def Cx.Ok.zvB(ok:X.Ok){b:Er}{o:Obj}(e:X.dX.get? b=A0 o):b∉X.fs:=λhb=>by have:=(ok.sW.mem hb).1;lia
def Inv.bs(I:Inv X Dp σ H s):∀b o,X.dX.get? b=A0 o->s.heap.get? b=A0 o/\H b=Ee:=λb o e=>#[I.dX.keep b o (I.ok.bs b o e).1 (I.ok.bs b o e).2 (I.ok.zvB e)<|I.ok.mQ b o e,I.dX.free b o (I.ok.bs b o e).1 (I.ok.bs b o e).2<|I.ok.mQ b o e]
def Inv.bk(I:Inv X Dp σ H s):∀b o,X.dX.get? b=A0 o->s.heap.get? b=A0 o:=λb o e=>(I.bs b o e).1
def Inv.mod(I:Inv X Dp σ H s):Mod X.K X.mg X.dX:=I.ok.mod
def Inv.sJ(I:Inv X Dp σ H s):X.K.In s.heap:=I.ok.mod.kin.keeps I.bk
def Inv.lt(I:Inv X Dp σ H s):X.env.locals<⇑s:=let#[_,hn,_]:=I.loc;hn.lt
def Inv.sz(I:Inv X Dp σ H s):X.s₀.heap.objs.size<=⇑s:=Yz I.ok.above<|Y3 I.lt
def Inv.zvC(I:Inv X Dp σ H s){a:Er}(h:⇑s<=a):a∉X.fs:=λhb=>by let#[_,o,b,_]:=I.ok.sW.mem hb;let:=absurd (Z0 (ZP b)<|Yz I.sz h)<|Y7 _
def Inv.cne(I:Inv X Dp σ H s):∀x c,X.env.cells.lookup x=A0 c->c≠X.env.locals:=λx c e z=>by let#[v,o,j,hd]:=I.cell x c e;let#[m,#[l,i,g,f,b,_],_]:=I.loc;lia
def Inv.sW(I:Inv X Dp σ H s):s.heap.FunFrames X.dX X.outer:=by
 let all:∀l,(∀b∈frs l,b∈X.fs)->X.s₀.heap.FunFrames X.dX l->s.heap.FunFrames X.dX l:=by intro l;induction l with|nil=>intro _ _;trivial|cons env r ih=>intro g hl;let#[hk,#[L,o,f,hn,i,hd],j]:=hl;let c:=g L (by unfold frs;rw[Jj,f];let:=ZD);let#[sl,e]:=I.dX.slot L o i (I.ok.frf L c) c λz=>I.ok.mj L z c;let:=#[hk,#[L,_,f,hn,e,hd],ih (λb hb=>g b<|by unfold frs;rw[Jj,f];let:=ZB _ hb) j]
 let:=all _ (λ_ hb=>hb) I.ok.sW
def Inv.stack(I:Inv X Dp σ H s):s.heap.FunFrames X.dX X.stack:=by
 rcases I.ok.stk with e|⟨e,b⟩;.rw[e];let:=I.sW
 .rw[e];let#[m,hn,_]:=I.loc;let:=.cons (by rw[I.ok.kind];decide) b hn (Uu<|Yz I.ok.bsz I.ok.above) I.sW
def Inv.oM(I:Inv X Dp σ H s):∀b∈frs X.stack,b∈X.env.locals::X.fs:=λb hb=>by
 rcases I.ok.stk with e|⟨e,c⟩;.simp_all
 .rw[e]at hb;unfold frs at hb;rw[Jj,c]at hb;let:=hb
def Inv.oW(I:Inv X Dp σ H s):∀b∈frs X.stack,H b=Ee:=λb hb=>by
 rcases ZJ.mp<|I.oM b hb with e|hb;.rw[e];let:=I.free
 .let#[_,o,c,_]:=I.ok.sW.mem hb;let:=I.dX.free b o c (I.ok.frf b hb) λz=>I.ok.mj b z hb
def Inv.step{L:Drawn}(I:Inv X Dp σ H s)(j:∀b∈ch,(b∈X.ex\/X.s₀.heap.objs.size<=b)/\b≠X.env.locals/\(∀x c,X.env.cells.lookup x=A0 c->c≠b)/\∀p∈X.pn++Dp,p.1≠b)(keep:∀b o,b≠X.env.locals->b∉X.fs->b∉ch->s.heap.get? b=A0 o->H b=Ee->h'.get? b=A0 o)(slot:∀b o,b≠X.env.locals->b∈X.fs->b∉ch->s.heap.get? b=A0 o->H b=Ee->∃sl,h'.get? b=A0 {o with slots:=sl})(free:∀b o,b∉ch->s.heap.get? b=A0 o->H b=Ee->H' b=Ee)(there:∀b o,b∉ch->s.heap.get? b=A0 o->∃o',h'.get? b=A0 o')(tups:∀b xs,H b=A0 (.tup xs)->H' b=A0 (.tup xs))(sO:∀b o u,H b=A0 (.frz o u)->H' b=A0 (.frz o u))(rD:∀b ps,H b=A0 (.tbl ps)->∃more,H' b=A0 (.tbl<|ps++more))(ns:∀m,s.heap.Ns X.env.locals m->h'.Ns X.env.locals m)(hok:rK X.prog X.w H' h')(P:MQ g'):Inv X Dp σ H' {s with heap:=h',gens:=g',drawn:=L,toks:=t'}:=by
 let E:∀b o,X.s₀.heap.get? b=A0 o->b≠X.env.locals:=λb o e=>ZU<|Z0 (ZP e) I.ok.above;let A:∀b o,X.s₀.heap.get? b=A0 o->b∉X.ex->b∉ch:=λb o e f hb=>by
  rcases(j b hb).1 with z|z;.let:=f z
  .let:=absurd (Z0 (ZP e) z)<|Y7 _
 let g:∀x c,X.env.cells.lookup x=A0 c->∀v,s.heap.IsCell c v->h'.IsCell c v:=λx c e v ⟨o,B,hd⟩=>by
  let t:=λz=>(j c z).2.2.1 x c e rfl;by_cases G:c∈X.fs;.let#[sl,q]:=slot c o (I.cne x c e) G t B<|I.wJ x c e;let:=#[_,q,hd]
  .let:=#[o,keep c o (I.cne x c e) G t B<|I.wJ x c e,hd]
 let:=#[I.ok,I.os,P,#[λb o e n hb f=>?_,λb o e n hb f=>?_,λb o e n f=>?_,λb o e f=>?_,λb xs e=>tups b xs<|I.dX.tups b xs e,λb o xs e=>sO b o xs<|I.dX.sO b o xs e,λb ps e=>?_],?_,λx c e=>?_,?_,λx c e=>?_,λp J=>?_,hok,I.len];.let:=keep b o (E b o e) hb (A b o e f) (I.dX.keep b o e n hb f)<|I.dX.free b o e n f
 .let#[sl,y]:=I.dX.slot b o e n hb f;let#[F,D]:=slot b _ (E b o e) hb (A b o e f) y<|I.dX.free b o e n f;let:=#[F,D]
 .let#[o',y]:=I.dX.there b o e f;let:=free b o' (A b o e f) y<|I.dX.free b o e n f
 .let#[o',y]:=I.dX.there b o e f;let:=there b o' (A b o e f) y
 .let#[m1,y]:=I.dX.rD b ps e;let#[m2,D]:=rD b _ y;let:=#[m1++m2,by rw[D,Array.append_assoc]]
 .let#[m,hn,hl]:=I.loc;let:=#[m,ns m hn,λi x v y D N=>?_];let#[u,r,l]:=hl i x v y D N;let:=#[u,r,?_];rcases l with l|⟨k,c,e,z⟩;.let:=.inl l
  .let:=.inr #[k,c,e,g x c e _ z]
 .let#[v,z]:=I.cell x c e;let:=#[v,g x c e v z]
 .let#[m,#[o,_,_,B,_],_]:=I.loc;let:=free _ o (λz=>(j _ z).2.1 rfl) B I.free
 .let#[v,o,B,hd]:=I.cell x c e;let:=free c o (λz=>(j c z).2.2.1 x c e rfl) B<|I.wJ x c e
 .let#[e,n,ne,K,d]:=I.pin p J;let t:=λz=>(j p.1 z).2.2.2 p J rfl;let:=#[keep p.1 p.2 ne K t e n,free p.1 p.2 t e n,ne,K,d]
def Inv.un(I:Inv X Dp σ H s)(u:Un X.fs [] H H' s.heap h')(hok:rK X.prog X.w H' h'):Inv X Dp σ H' {s with heap:=h',toks:=t'}:=by let#[m,#[o,q,p,i,r],_]:=id I.loc;let#[sl,j]:=u.any i I.free (by simp);let:=I.step (ch:=[]) (λ_ z=>nomatch z) λb o _ hb _ e n=>u.keep b o e n hb<|by simp λb o _ hb _ e n=>u.slot b o e n hb<|by simp λb o _ e n=>u.free b o e n<|by simp λb o _ e=>u.there b o e<|by simp u.tups u.sO u.rD (λt hm=>by let#[v,g,f,c,l]:=hm;rw[i]at c;cases c;let:=#[_,g,f,j,l]) hok I.bare
def Inv.call{v:Drawn}(I:Inv X Dp σ H s)(u:Un (frs X.stack) ch H H' s.heap h')(hok:rK X.prog X.w H' h')(y:MQ g')(g:∀b∈ch,(b∈X.ex\/X.s₀.heap.objs.size<=b)/\b≠X.env.locals/\(∀x c,X.env.cells.lookup x=A0 c->c≠b)/\∀p∈X.pn++Dp,p.1≠b):Inv X Dp σ H' {s with heap:=h',gens:=g',drawn:=v,toks:=t'}:=by let#[m,#[o,D,B,t,r],_]:=id I.loc;let#[sl,q]:=u.any t I.free λz=>(g _ z).2.1 rfl;let:=I.step g (λb o q hb f e n=>u.keep b o e n (λz=>(ZJ.mp<|I.oM b z).elim q hb) f) (λb o _ _ f e n=>u.any e n f) (λb o f e n=>u.free b o e n f) (λb o f e=>u.there b o e f) u.tups u.sO u.rD (λE hm=>by let#[F,l,j,i,A]:=hm;rw[t]at i;cases i;let:=#[_,l,j,q,A]) hok y
def Inv.turned{f:Er}(I:Inv X Dp σ H s)(k:∀b o,b≠f->s.heap.get? b=A0 o->h'.get? b=A0 o)(hn:H f=Ee)(t:f≠X.env.locals)(h1:f∈X.ex\/X.s₀.heap.objs.size<=f)(h2:∀x c,X.env.cells.lookup x=A0 c->c≠f)(h3:∀p∈X.pn++Dp,p.1≠f):Inv X Dp σ H {s with heap:=h',toks:=t'}:=by
 let i:∀b u,H b=A0 u->b≠f:=λb u e z=>⋯;let:=I.step (ch:=[f]) (λb hb=>?_) (λb o _ _ g e _=>k b o λz=>g<|by simp[z] e) (λb o _ _ g e _=>#[_,k b o λz=>g<|by simp[z] e]) (λ_ _ _ _ n=>n) (λb o g e=>#[o,k b o λz=>g<|by simp[z] e]) (λ_ _ e=>e) (λ_ _ _ e=>e) (λb y e=>#[#v[],by rw[e];simp]) (λm hm=>?_) (λb u e=>?_) I.bare
 .let e:=by simpa using hb
  subst e;trivial
 .let#[o,l,j,w,r]:=hm;let:=#[o,l,j,k _ o (EG t) w,r]
 .let:=(I.hok b u e).stay (λc v g q=>k c v ?_ q) (λ_ q=>q) λ_ _ q=>q;rcases g with z|z;.rw[z];let:=i b u e
  .let:=i c _ z
def Inv.tok(I:Inv X Dp σ H s)(t:Nat):Inv X Dp σ H {s with toks:=t}:=I.un Un.refl I.hok
def Inv.kept(I:Inv X Dp σ H s)(k:∀b u,s.heap.get? b=A0 u->h'.get? b=A0 u):Inv X Dp σ H {s with heap:=h',toks:=t'}:=I.un (Un.kept k)<|I.hok.kept k
def Inv.laid{a:Er}(I:Inv X Dp σ H s)(k:∀b u,s.heap.get? b=A0 u->h'.get? b=A0 u)(c:⇑s<=a)(new:xx X.prog X.w (upd H a o) h' a o):Inv X Dp σ (upd H a o) {s with heap:=h',toks:=t'}:=I.un (Un.laid k c<|I.hok.fresh c)<|I.hok.laid k c new
def Inv.write{x e:Er}{o:HO}(I:Inv X Dp σ H s)(g:bW<|H x)(f:e=x\/H e=A0 (.own x))(k:∀b u,b≠e->s.heap.get? b=A0 u->h'.get? b=A0 u)(c:∃u,h'.get? e=A0 u)(new:xx X.prog X.w (upd H x o) h' x o):Inv X Dp σ (upd H x o) {s with heap:=h',toks:=t'}:=I.un (Un.write g f k c)<|I.hok.write g f k c new
def Inv.tL{b:Dd}(I:Inv X Dp σ H s)(h:∀p∈b,s.heap.get? p.1=A0 p.2/\H p.1=Ee/\p.1≠X.env.locals/\p.1∉X.fs/\∀v,p.2.data≠.cell v):Inv X b σ H s:=#[I.ok,I.os,I.bare,I.dX,I.loc,I.cell,I.free,I.wJ,λp c=>(ZY.mp c).elim (λz=>I.pin p<|YB _ z)<|h p,I.hok,I.len]
def Gv{N:By}(f:N.Nodup){j:Nat}(a:N[i]?=A0 x)(b:N[j]?=A0 x):i=j:=by let#[h1,c]:=ZW.mp a;let#[h2,e]:=ZW.mp b;let:=(JJ f).mp<|c.trans e.symm
def BJ{M:Model}{Q:Unit->Dg}(I:Inv X Dp σ H s)(hN:X.N.Nodup)(S:X.N[i]?=A0 x)(B:Loc X.env.scope x)(r:yu v u)(h:∀s',Inv X Dp (σ.set i<|A0 v) H s'->(∃a,EW a s.heap s'.heap/\(a=X.env.locals\/X.env.cells.lookup x=A0 a))->Q () s')(hf:X.fn x=Eg\/X.env.scope.names.lookup x=A0 .local:=by first|let:=.inl rfl|let:=.inr rfl|assumption):EA M A (storeName X.env x u) Q E s:=by
 let#[m,hn,hl]:=id I.loc;let R:(X.env.scope.kind==.class||X.env.scope.kind==.module&&X.env.locals !=X.env.globals)=Ei:=by rw[I.ok.kind];rfl
 let G:=I.len▸(ZW.mp S).1;let cne:=I.cne;let l:∀{a:Er}{h':EH},(∃o,s.heap.get? a=A0 o/\H a=Ee)->EW a s.heap h'->rK X.prog X.w H h':=λ{a h'}ha f b ob e=>by
  let#[_,_,D]:=ha;let:=(I.hok b ob e).stay (λc Z t q=>(f.2 c ?_).trans q) (λ_ q=>q) λ_ _ q=>q;rintro rfl;rcases t with rfl|t;.rw[D]at e;cases e
  .rw[D]at t;cases t
 rcases B with hk|hk
 .let:=wpAny_storeName_local hk hn (λh' ab f=>?_) R;let#[oL,_,_,ac,_]:=id hn;let:=h _ #[I.ok,I.os,I.bare,#[λb o e n hb B=>?_,λb o e n hb B=>?_,I.dX.free,λb o e B=>?_,I.dX.tups,I.dX.sO,I.dX.rD],#[_,ab,λj y v' g F e3=>?_],λy c e=>?_,I.free,I.wJ,λp hp=>?_,l #[oL,ac,I.free] f,by simpa using I.len] #[_,f,.inl rfl];.let:=(f.2 b<|ZU<|Z0 (ZP e) I.ok.above).trans<|I.dX.keep b o e n hb B
  .let#[sl,g]:=I.dX.slot b o e n hb B;let:=#[sl,(f.2 b<|ZU<|Z0 (ZP e) I.ok.above).trans g]
  .let#[o',g]:=I.dX.there b o e B;let:=#[o',(f.2 b<|ZU<|Z0 (ZP e) I.ok.above).trans g]
  .by_cases K:j=i;.subst K;rw[S]at g;cases g;rw[List.getElem?_set_self G]at F;cases F;let:=#[u,r,.inl #[hk,by simp]]
   .rw[VE<|EG K]at F;let#[u',r',q]:=hl j y v' g F e3;let:=#[u',r',?_];rcases q with⟨k,e⟩|⟨k,c,e,z⟩;.let:=.inl #[k,?_];have:y≠x:=λe=>K<|Gv hN g<|e▸S;simp[this,e]
    .let:=.inr #[k,c,e,z.sameBut f<|cne y c e]
  .let#[Z,z]:=I.cell y c e;let:=#[Z,z.sameBut f<|cne y c e]
  .let#[e,n,ne,nf,d]:=I.pin p hp;let:=#[(f.2 p.1 ne).trans e,n,ne,nf,d]
 .let J:X.fn x=Eg:=by
   rcases hf with z|z;.let:=z
   .rw[z]at hk;cases hk
  let#[c,t]:=I.ok.has x<|.inl hk;let#[Z,z]:=I.cell x c t;let:=wpAny_storeName_cell I.ok.kind hk t z<|λh' L f=>?_;let#[oc,T,U]:=id z;let:=h {s with heap:=h'} #[I.ok,I.os,I.bare,#[λb o e n hb B=>?_,λb o e n hb B=>?_,I.dX.free,λb o e B=>?_,I.dX.tups,I.dX.sO,I.dX.rD],#[m,hn.sameBut f<|EG<|cne x c t,λj y v' g F e3=>?_],λy Y e=>?_,I.free,I.wJ,λp hp=>?_,l #[oc,T,I.wJ x c t] f,by simpa using I.len] #[c,f,.inr t];.let:=(f.2 b<|ZU<|Z0 (ZP e)<|I.ok.cab x c J t).trans<|I.dX.keep b o e n hb B
  .let#[sl,g]:=I.dX.slot b o e n hb B;let:=#[sl,(f.2 b<|ZU<|Z0 (ZP e)<|I.ok.cab x c J t).trans g]
  .let#[o',g]:=I.dX.there b o e B;let:=#[o',(f.2 b<|ZU<|Z0 (ZP e)<|I.ok.cab x c J t).trans g]
  .by_cases K:j=i;.subst K;rw[S]at g;cases g;rw[List.getElem?_set_self G]at F;cases F;let:=#[u,r,.inr #[.inl hk,c,t,L]]
   .rw[VE<|EG K]at F;let#[u',r',q]:=hl j y v' g F e3;let:=#[u',r',?_];rcases q with q|⟨k,Y,e,z'⟩;.let:=.inl q
    .let:=.inr #[k,Y,e,z'.sameBut f ?_];rintro rfl;let:=K<|Gv hN g<|I.ok.inj _ _ _ e t▸S
  .by_cases P:Y=c;.subst P;let:=#[_,L]
   .let#[w2,z2]:=I.cell y Y e;let:=#[w2,z2.sameBut f P]
  .let#[e,n,ne,nf,d]:=I.pin p hp;let:=#[(f.2 p.1 ?_).trans e,n,ne,nf,d];intro q;rw[q,T]at e;let q':=dI e;let:=d Z<|q'▸U
def j9{M:Model}{Q:Unit->Dg}(I:Inv X Dp σ H s)(c:X.N.Nodup)(f:X.N[i]?=A0 x)(g:Loc X.env.scope x)(r:yu v u)(h:∀s',Inv X Dp (σ.set i<|A0 v) H s'->Q () s')(e:X.fn x=Eg\/X.env.scope.names.lookup x=A0 .local:=by first|let:=.inl rfl|let:=.inr rfl|assumption):EA M A (storeName X.env x u) Q E s:=BJ I c f g r (λs' b _=>h s' b) e
def Inv.call'{f:Eu}(I:Inv X Dp σ H s)(j:f.os=s.os)(u:Un (frs X.stack) ch H H' s.heap f.heap)(hok:rK X.prog X.w H' f.heap)(i:MQ f.gens)(g:∀b∈ch,(b∈X.ex\/X.s₀.heap.objs.size<=b)/\b≠X.env.locals/\(∀x c,X.env.cells.lookup x=A0 c->c≠b)/\∀p∈X.pn++Dp,p.1≠b):Inv X Dp σ H' f:=by let#[h']:=f;let e:=j;subst e;let:=I.call u hok i g
end
abbrev XK:=Es->Option Er->Hp->Prop
abbrev St:=List<|Option V
abbrev VK:=V->Hp->Prop
abbrev TE:=St->Hp->VK->Prop
abbrev TT:=St->Hp->(Bool->Hp->Prop)->Prop
abbrev TA:=St->Hp->(Di->Hp->Prop)->Prop
structure Ends where
 nx:St->Hp->Prop
 rt:VK
 bk:St->Hp->Prop:=λ_ _=>False
 ct:St->Hp->Prop:=λ_ _=>False
abbrev TS:=Ends->St->Hp->Prop
inductive EP(X:Cx)(Dp:Dd)(σ:St)(Q:VK)(u:Es)(s':Eu):Prop|mk(v:V)(H':Hp)(i:Inv X Dp σ H' s')(r:yu v u)(q:Q v H'):EP X Dp σ Q u s'
inductive TP(X:Cx)(Dp:Dd)(σ:St)(Q:Bool->Hp->Prop)(b:Bool)(s':Eu):Prop|mk(H':Hp)(i:Inv X Dp σ H' s')(q:Q b H'):TP X Dp σ Q b s'
inductive AP(X:Cx)(Dp:Dd)(σ:St)(Q:Di->Hp->Prop)(us:Da)(s':Eu):Prop|mk(vs:Di)(H':Hp)(i:Inv X Dp σ H' s')(r:zb vs us)(q:Q vs H'):AP X Dp σ Q us s'
def SP(X:Cx)(e:Dd)(D:Ends)(f:Flow)(g:Eu):(Prop):=match f with|.next=>∃b c,Inv X e b c g/\D.nx b c|.brk=>∃b c,Inv X e b c g/\D.bk b c|.cont=>∃b c,Inv X e b c g/\D.ct b c|.ret u=>∃v b c,Inv X e b c g/\yu v u/\D.rt v c
def PE(X:Cx)(e:ER)(t:TE):(Prop):=∀(c:Dd)(s:Eu)(b:St)(H:Hp)(Q:VK),Inv X c b H s->t b H Q->EA (EC X.prog X.w) X.A (E8 e X.env) (EP X c b Q) X.xe s
def PT(X:Cx)(e:ER)(t:TT):(Prop):=∀(c:Dd)(s:Eu)(b:St)(H:Hp)(Q:Bool->Hp->Prop),Inv X c b H s->t b H Q->EA (EC X.prog X.w) X.A (isTrue e X.env<|E8 e X.env) (TP X c b Q) X.xe s
def PW(X:Cx)(e:ER)(t:TT):(Prop):=∀(b:Sem Es)(f:Dd)(s:Eu)(c:St)(H:Hp)(Q:Bool->Hp->Prop),Inv X f c H s->t c H Q->EA (EC X.prog X.w) X.A (isTrue e X.env b) (TP X f c Q) X.xe s
def PW.pt(h:PW X e t):PT X e t:=h _
def PA(X:Cx)(e:List ER)(t:TA):(Prop):=∀(pos:Pos)(c:Dd)(s:Eu)(b:St)(H:Hp)(Q:Di->Hp->Prop),Inv X c b H s->t b H Q->EA (EC X.prog X.w) X.A (spliced<|Lu pos<|EI e X.env) (AP X c b Q) X.xe s
def PS(X:Cx)(st:ES)(t:TS):(Prop):=∀(b:Dd)(s:Eu)(c:St)(H:Hp)(D:Ends),Inv X b c H s->t D c H->EA (EC X.prog X.w) X.A (exec st X.env) (SP X b D) X.xe s
def pB(X:Cx)(st:List ES)(t:TS):(Prop):=∀(b:Dd)(s:Eu)(c:St)(H:Hp)(D:Ends),Inv X b c H s->t D c H->EA (EC X.prog X.w) X.A (execs st X.env) (SP X b D) X.xe s
def CN{α:Type}{t:Sem α}{Q b:α->Dg}{M:Model}(h:EA M A t Q E s)(c:∀a s,Q a s->b a s):EA M A t b E s:=YO h c λ_ _ x=>x
section
variable{X:Cx}
def pK(o:Option<|Option V)(H:Hp)(Q:VK):(Prop):=match o with|some<|A0 v=>Q v H|_=>False
def pK.ex{Q:VK}(h:pK o H Q):∃v,o=A0 (A0 v)/\Q v H:=match o,h with|some<|A0 v,h=>#[v,Ej,h]
def pK.mk{o:Option<|Option V}{H:Hp}{Q:VK}{v:V}(e:o=A0 (A0 v))(q:Q v H):pK o H Q:=e▸q
def Bg(i:Nat):(TE):=λb H Q=>pK b[i]? H Q
def uf(x:V)(k:Int->Prop):(Prop):=match x with|.int i=>k i|_=>False
def uf.ex{x:V}(h:uf x k):∃i,x=.int i/\k i:=match x,h with|.int i,h=>#[i,Ej,h]
def tC(v:V):(TE):=λ_ H Q=>Q v H
def dE(g:X.N[i]?=A0 x)(hv:fw X.env.scope x)(hd:(x==("__debug__":Str))=Ei:=by decide)(f:(x==("__classdict__":Str))=Ei:=by decide):PE X (.Name x pos)<|Bg i:=by
 intro n s j H Q I h;let#[v,e,h]:=pK.ex h;let#[m,hn,hl]:=I.loc;let#[u,r,l]:=hl i x v g e hv;let b:EP X _ j Q u s:=#[v,H,I,r,h];rcases l with⟨hk,hm⟩|⟨hk,c,hc,hcell⟩;.let:=wpAny_Name (wpAny_loadName_local I.ok.kind hk hn hm b) hd
 .rcases hk with hk|hk;.let:=wpAny_Name (wpAny_loadName_cell I.ok.kind hk hc hcell b) hd
  .let:=wpAny_Name (wpAny_loadName_free I.ok.kind hk hc hcell b f) hd
def zG{i j pos}:PE X (.Constant (.int i) j pos)<|tC<|.int i:=λ_ _ _ H _ I h=>wpAny_Constant_int #[.int i,H,I.tok _,#[_,Ej],h]
def jS{b j pos}:PE X (.Constant (.bool b) j pos)<|tC<|.bl b:=λ_ _ _ H _ I h=>Constant_bool #[.bl b,H,I,Ej,h]
def yH{j pos}:PE X (.Constant .none j pos)<|tC .non:=λ_ _ _ H _ I h=>Constant_none #[.non,H,I,Ej,h]
def zK{x j pos}:PE X (.Constant (.str x) j pos)<|tC<|.str x:=λ_ _ _ H _ I h=>Calls.Constant_str #[.str x,H,I.tok _,#[_,Ej],h]
def Gl(X:Cx)(x:Str):(Prop):=X.env.kindOf x=A0 .globalImplicit
def jT{u:Es}(I:Inv X Dp σ H s)(b:Gl X x)(hm:X.mg x=A0 u)(h:Q u s)(hd:(x==("__debug__":Str))=Ei:=by decide):EA (EC X.prog X.w) X.A (E8 (.Name x pos) X.env) Q E s:=Calls.Name_function_global I.ok.kind b (Calls.loadGlobal_global (I.ok.glob▸I.mod.glob.keeps I.bk) hm h) hd
def uZ{u:Es}(I:Inv X Dp σ H s)(b:Gl X x)(hm:X.mg x=Ee)(hv:LO x=A0 u)(h:Q u s)(hn:x≠"__name__":=by decide)(hd:(x==("__debug__":Str))=Ei:=by decide):EA (EC X.prog X.w) X.A (E8 (.Name x pos) X.env) Q E s:=by let#[c,h1,h2]:=I.mod.blt;let:=Calls.Name_function_global I.ok.kind b (Calls.loadGlobal_builtin (I.ok.glob▸I.mod.glob.keeps I.bk) hm (I.ok.blt▸h1.keeps I.bk) ((h2 x hn).trans hv) h) hd
def yI{u:Es}(b:Gl X x)(hm:X.mg x=A0 u)(r:yu v u)(hd:(x==("__debug__":Str))=Ei:=by decide):PE X (.Name x pos)<|tC v:=λ_ _ _ H _ I h=>jT I b hm #[v,H,I,r,h] hd
def yY{u:Es}(b:Gl X x)(hm:X.mg x=Ee)(hv:LO x=A0 u)(r:yu v u)(hn:x≠"__name__":=by decide)(hd:(x==("__debug__":Str))=Ei:=by decide):PE X (.Name x pos)<|tC v:=λ_ _ _ H _ I h=>uZ I b hm hv #[v,H,I,r,h] hn hd
variable{a b:ER}{ta tb:TE}
def PC(X:Cx)(op:CmpOp)(a b:ER)(t:TE):(Prop):=∀(g:Dd)(s:Eu)(f:St)(H:Hp)(Q:VK),Inv X g f H s->t f H Q->EA (EC X.prog X.w) X.A (E8 a X.env) (λv c=>EA (EC X.prog X.w) X.A (E8 b X.env) (λu e=>EA (EC X.prog X.w) X.A (EZ op v u) (EP X g f Q) X.xe e) X.xe c) X.xe s
variable{tA tB':TT}{rest:List ER}
def gR(t u:TT):(TT):=λe H Q=>t e H λc b=>if c=Eg then u e b Q else Q Ei b
def jy(t u:TT):(TT):=λe H Q=>t e H λc b=>if c=Eg then Q Eg b else u e b Q
def g9(t:TT):(TT):=λe H Q=>t e H λc b=>Q (!c) b
def uS(ha:PT X a tA):PW X (.BoolOp .And [a] pos) tA:=by intro i f s b H Q I h;let:=isTrue_and<|CN (ha _ s b H Q I h) λc g e=>?_;cases c with|true=>let:=isTrue_and_nil e|false=>let:=e
def qO(ha:PT X a tA):PW X (.BoolOp .Or [a] pos) tA:=by intro i f s b H Q I h;let:=isTrue_or<|CN (ha _ s b H Q I h) λc g e=>?_;cases c with|false=>let:=isTrue_or_nil e|true=>let:=e
def vQ(ha:PT X a tA)(hb:PW X (.BoolOp .And (b::rest) pos) tB'):PW X (.BoolOp .And (a::b::rest) pos)<|gR tA tB':=by intro l n s i H Q I h;let:=isTrue_and<|CN (ha _ s i H _ I h) λc j ⟨e,f,g⟩=>?_;cases c with|true=>let:=hb l _ j i e Q f g|false=>let:=#[e,f,g]
def kA(ha:PT X a tA)(hb:PW X (.BoolOp .Or (b::rest) pos) tB'):PW X (.BoolOp .Or (a::b::rest) pos)<|jy tA tB':=by intro l n s i H Q I h;let:=isTrue_or<|CN (ha _ s i H _ I h) λc j ⟨e,f,g⟩=>?_;cases c with|true=>let:=#[e,f,g]|false=>let:=hb l _ j i e Q f g
def yR(ha:PT X a tA):PT X (.UnaryOp .Not a pos)<|g9 tA:=by intro f s e H Q I h;let:=isTrue_not<|CN (ha _ s e H _ I h) λc g z=>z.casesOn λb i q=>#[b,i,q]
def bL(ta tb:TE):(TE):=λe H Q=>ta e H λx b=>∃c,x=.bl c/\if c=Eg then tb e b Q else Q (.bl Ei) b
def jd(ta tb:TE):(TE):=λe H Q=>ta e H λx b=>∃c,x=.bl c/\if c=Eg then Q (.bl Eg) b else tb e b Q
def xW{op:BoolOp}(h:PE X a t):PE X (.BoolOp op [a] pos) t:=λe s c H Q I b=>BoolOp_one<|h _ s c H Q I b
def yX(ha:PE X a ta)(hb:PE X (.BoolOp .And (b::rest) pos) tb):PE X (.BoolOp .And (a::b::rest) pos)<|bL ta tb:=by intro n s i H Q I h;let:=BoolOp_and<|CN (ha _ s i H _ I h) λv l ⟨x,f,g,j,e⟩=>?_;let#[c,rfl,e]:=e;cases j;let:=JP ?_;cases c with|true=>let:=hb _ l i f Q g e|false=>let:=#[.bl _,f,g,Ej,e]
def bH(ha:PE X a ta)(hb:PE X (.BoolOp .Or (b::rest) pos) tb):PE X (.BoolOp .Or (a::b::rest) pos)<|jd ta tb:=by intro n s i H Q I h;let:=BoolOp_or<|CN (ha _ s i H _ I h) λv l ⟨x,f,g,j,e⟩=>?_;let#[c,rfl,e]:=e;cases j;let:=JP ?_;cases c with|false=>let:=hb _ l i f Q g e|true=>let:=#[.bl _,f,g,Ej,e]
def jc(t:TT)(ta tb:TE):(TE):=λb H Q=>t b H λc e=>if c=Eg then ta b e Q else tb b e Q
def vK(l:PT X c tA)(ha:PE X a ta)(hb:PE X b tb):PE X (.IfExp c a b pos)<|jc tA ta tb:=by intro n s e H Q I h;let:=wpAny_IfExp<|CN (l _ s e H _ I h) λd j ⟨f,g,i⟩=>?_;cases d with|true=>let:=ha _ j e f Q g i|false=>let:=hb _ j e f Q g i
end
def yp(K:CK)(H:Hp)(a:Er)(xs:Di):(Prop):=Rd H a (.lst xs)\/∃(o:Obj)(b:Array Es)(n:Nat),K.lookup a=A0 o/\o.cls=.type "list"/\o.dict=Ee/\o.data=.seq b n/\b.size<=sizeLine/\zb xs b.toList
def yq(K:CK)(H:Hp)(a:Er)(xs:Di):(Prop):=Rd H a (.tup xs)\/∃(o:Obj)(b:Array Es)(n:Nat),K.lookup a=A0 o/\o.cls=.type "tuple"/\o.dict=Ee/\o.data=.seq b n/\b.size<=sizeLine/\zb xs b.toList
def iM:(Es->Option V)|.none=>A0 .non|.bool b=>A0<|.bl b|.int i _=>A0<|.int i|.str x _=>A0<|.str x|.bytes b _=>A0<|.byt b|.float b _=>A0<|.flt b|.ref a=>A0<|.ref a|.type n=>A0<|.ty n|_=>Ee
def yu.abs{x:V}(r:yu x u):iM u=A0 x:=by cases x with|non=>cases r;rfl|bl _=>cases r;rfl|int _=>let#[t,rfl]:=r;rfl|str _=>let#[t,rfl]:=r;rfl|byt _=>let#[t,rfl]:=r;rfl|flt _=>let#[t,rfl]:=r;rfl|ref _=>cases r;rfl|ty _=>cases r;rfl
def yu.inj{x:V}{y:V}(r:yu x u)(q:yu y u):x=y:=dI<|r.abs.symm.trans q.abs
def zb.inj:∀{xs ys:Di}{us:Da},zb xs us->zb ys us->xs=ys|_,_,_,.nil,.nil=>rfl|_,_,_,.cons r t,.cons r' t'=>by rw[r.inj r',zb.inj t t']
section
variable{X:Cx}{σ:St}{H:Hp}{a:Er}{xs ys:Di}
def yp.of(h:H a=A0 (.lst xs)):yp K H a xs:=.inl<|.inl h
def yq.of(h:H a=A0 (.tup xs)):yq K H a xs:=.inl<|.inl h
def Inv.list(I:Inv X Dp σ H s)(h:yp X.K H a xs):∃its:Da,zb xs its/\PlainL s.heap a its.toArray/\`xs<=sizeLine:=by
 rcases h with h|⟨o,its,n,hk,b,hd,c,f,r⟩;.let#[z,its,n,r,e]:=h.ok I.hok;let:=#[its,r,#[_,n,e,Ej,Ej,Ej],z]
 .let:=#[_,r,#[o,n,I.sJ a o hk,by trivial],?_];let e:=`r;grind
def Inv.zwK(I:Inv X Dp σ H s)(h:yq X.K H a xs):∃its:Da,zb xs its/\TupAt s.heap a its.toArray/\`xs<=sizeLine:=by
 rcases h with h|⟨o,its,n,hk,b,c,f,g,r⟩;.let#[z,its,r,p]:=h.ok I.hok;let:=#[its,r,p,z]
 .let:=#[_,r,#[o,I.sJ a o hk,b,n,by trivial],?_];let e:=`r;simp_all
def Inv.tuple(I:Inv X Dp σ H s)(h:yq X.K H a xs):∃its:Da,zb xs its/\IsTup s.heap a its.toArray/\`xs<=sizeLine:=by let#[its,r,p,z]:=I.zwK h;let:=#[its,r,p.is,z]
def Inv.zyG(I:Inv X Dp σ H s)(h:yp X.K H a xs)(g:yp X.K H a ys):xs=ys:=by
 let#[i,r,#[o,n,e,_,_,d],_]:=I.list h;let#[l,j,#[q,p,c,_,_,b],_]:=I.list g;rw[e]at c;cases c;rw[d]at b;injection b with f _;have:=by simpa using congrArg Array.toList f
 subst this;let:=r.inj j
def Inv.ni(I:Inv X Dp σ H s)(h:yq X.K H a xs)(g:yq X.K H a ys):xs=ys:=by
 let#[i,r,#[o,e,_,n,d],_]:=I.tuple h;let#[l,j,#[q,c,_,p,b],_]:=I.tuple g;rw[e]at c;cases c;rw[d]at b;injection b with f _;have:=by simpa using congrArg Array.toList f
 subst this;let:=r.inj j
end
abbrev Cx.wish(X:Cx)(E:Es->Dg):Cx:={X with xe:=E}
abbrev Cx.nox(X:Cx):Cx:=X.wish λ_ _=>False
def Cx.Ok.wish{X:Cx}(ok:X.Ok)(E:Es->Dg):(X.wish E).Ok:=#[ok.mod,ok.kind,ok.glob,ok.blt,ok.above,ok.inj,ok.has,ok.cab,ok.hd,ok.frames,ok.stk,ok.exf,ok.bs,ok.bsz,ok.mQ,ok.mj,ok.sW,ok.frf]
def Cx.Ok.rZ{X:Cx}(ok:(X.wish E).Ok):X.Ok:=#[ok.mod,ok.kind,ok.glob,ok.blt,ok.above,ok.inj,ok.has,ok.cab,ok.hd,ok.frames,ok.stk,ok.exf,ok.bs,ok.bsz,ok.mQ,ok.mj,ok.sW,ok.frf]
section
variable{X:Cx}{σ:St}{H:Hp}
def Inv.wish(I:Inv X Dp σ H s)(E:Es->Dg):Inv (X.wish E) Dp σ H s:=#[I.ok.wish E,I.os,I.bare,I.dX,I.loc,I.cell,I.free,I.wJ,I.pin,I.hok,I.len]
def Inv.rZ(I:Inv (X.wish E) Dp σ H s):Inv X Dp σ H s:=#[I.ok.rZ,I.os,I.bare,I.dX,I.loc,I.cell,I.free,I.wJ,I.pin,I.hok,I.len]
def SP.rZ(h:SP (X.wish E) Dp D f s'):SP X Dp D f s':=by cases f with|next=>let#[b,c,I,q]:=h;let:=#[b,c,I.rZ,q]|brk=>let#[b,c,I,q]:=h;let:=#[b,c,I.rZ,q]|cont=>let#[b,c,I,q]:=h;let:=#[b,c,I.rZ,q]|ret u=>let#[v,b,c,I,r,q]:=h;let:=#[v,b,c,I.rZ,r,q]
def pB.nox{st:List ES}(h:pB X.nox st t):pB X st t:=λDp s σ H D I b=>YO (h _ s σ H D (I.wish _) b) (λ_ _ q=>q.rZ) λ_ _ z=>E4 z
end
section
variable{X:Cx}{st:ES}{rest:List ES}{t u:TS}{e:ER}{te:TE}
def Wk:(TS):=λD b H=>D.nx b H
def No(t u:TS):(TS):=λD b H=>t {D with nx:=u D} b H
def zM:pB X [] Wk:=λ_ _ b H _ I h=>VW #[b,H,I,h]
def zC(h1:PS X st t)(h2:pB X rest u):pB X (st::rest)<|No t u:=by intro j s i H D I h;let:=wpAny_execs_cons<|CN (h1 _ s i H _ I h) λf g q=>?_;cases f with|next=>let#[b,c,e,q]:=q;let:=h2 _ g b c D e q|ret v=>let:=q|brk=>let:=q|cont=>let:=q
def zE(h1:PS X st t):pB X [st] t:=by intro c s b H D I h;let:=wpAny_execs_cons<|CN (h1 _ s b H D I h) λf e q=>?_;cases f with|next=>let:=VW q|ret v=>let:=q|brk=>let:=q|cont=>let:=q
def Inv.quiet(I:Inv X Dp σ H s):interactive X.env=Ei:=by simp[interactive,I.ok.kind]
def bM(te:TE):(TS):=λD b H=>te b H λ_ c=>D.nx b c
def zS(g:PE X e te)(hs:Mj e Ee pos.line X.env=Lm Ei:=by rfl):PS X (.Expr e pos)<|bM te:=by intro j s b H D I h;let:=wpAny_Expr_any (CN (g _ s b H _ I h) λv n ⟨x,c,f,l,i⟩=>#[b,c,f,i]) I.quiet hs
def hJ(te:TE):(TS):=λD b H=>te b H D.rt
def zJ(g:PE X e te):PS X (.Return (A0 e) pos)<|hJ te:=by intro l s b H D I h;let:=wpAny_Return_some<|CN (g _ s b H _ I h) λv n ⟨x,c,f,j,i⟩=>#[x,b,c,f,j,i]
def eI(c:TT)(t u:TS):(TS):=λD e H=>c e H λb f=>if b=Eg then t D e f else u D e f
def zX(l:PT X c tc)(ha:pB X a t)(hb:pB X b u):PS X (.If c a b pos)<|eI tc t u:=by intro n s e H D I h;let:=wpAny_If<|CN (l _ s e H _ I h) λd j ⟨f,g,i⟩=>?_;cases d with|true=>let:=ha _ j e f D g i|false=>let:=hb _ j e f D g i
def Wj:(TS):=λ_ _ _=>False
def xS:PS X st Wj:=λ_ _ _ _ _ _ h=>h.elim
def Rv:pB X sts Wj:=λ_ _ _ _ _ _ h=>h.elim
end
abbrev TG:=V->St->Hp->(St->Hp->Prop)->Prop
abbrev RG:=Di->St->Hp->(St->Hp->Prop)->Prop
def PG(X:Cx)(b:ER)(t:TG):(Prop):=∀(e:Dd)(s:Eu)(g:St)(H:Hp)(v:V)(u:Es)(Q:St->Hp->Prop),Inv X e g H s->yu v u->t v g H Q->EA (EC X.prog X.w) X.A (assign b X.env u) (λ_ i=>∃c f,Inv X e c f i/\Q c f) X.xe s
def PGs(X:Cx)(ts:List ER)(t:RG):(Prop):=∀(c:Dd)(s:Eu)(i:St)(H:Hp)(g:Di)(f:Da)(Q:St->Hp->Prop),Inv X c i H s->zb g f->t g i H Q->EA (EC X.prog X.w) X.A (assignInOrder ((Lr ts X.env).map (·.2)) f) (λ_ j=>∃b e,Inv X c b e j/\Q b e) X.xe s
abbrev b9:=V->V->V->Hp->(Hp->Prop)->Prop
def fu(X:Cx)(t:b9):(Prop):=∀(b:Dd)(s:Eu)(g:St)(H:Hp)(o i v:V)(f e u:Es)(Q:Hp->Prop),Inv X b g H s->yu o f->yu i e->yu v u->t o i v H Q->EA (EC X.prog X.w) X.A (setItem f e u) (λ_ j=>∃c,Inv X b g c j/\Q c) X.xe s
abbrev iz:=V->V->Hp->VK->Prop
def jh(X:Cx)(op:Operator)(t:iz):(Prop):=∀(b:Dd)(s:Eu)(c:St)(H:Hp)(x y:V)(v u:Es)(Q:VK),Inv X b c H s->yu x v->yu y u->t x y H Q->EA (EC X.prog X.w) X.A (inplaceOp op v u) (EP X b c Q) X.xe s
section
variable{X:Cx}
def Xh(i:Nat):(TG):=λv b H Q=>Q (b.set i<|A0 v) H
def aE(c:X.N.Nodup)(f:X.N[i]?=A0 x)(g:Loc X.env.scope x)(e:X.fn x=Eg\/X.env.scope.names.lookup x=A0 .local:=by first|let:=.inl rfl|let:=.inr rfl|assumption):PG X (.Name x pos)<|Xh i:=by intro j s n H v u Q I r h;let:=wpAny_assign_Name<|j9 I c f g r (λl b=>#[_,H,b,h]) e
def fQ:(RG):=λb c H Q=>b=[]/\Q c H
inductive zyB(t:TG)(u:RG)(vs:Di)(σ:St)(H:Hp)(Q:St->Hp->Prop):Prop|mk(v:V)(r:Di)(e:vs=v::r)(q:t v σ H λσ' H'=>u r σ' H' Q):zyB t u vs σ H Q
def xO:PGs X [] fQ:=by intro c s b H g f Q I r h;let#[e,h]:=h;let:=assignInOrder_nil #[b,H,I,h]
def zT(h1:PG X e t)(h2:PGs X es u)(hs:(Lr (e::es) X.env).map (·.2)=assign e X.env::(Lr es X.env).map (·.2):=by rfl):PGs X (e::es)<|zyB t u:=by intro n s l H q o Q I r h;let#[v,p,g,h]:=h;subst g;cases r with|cons r rr=>rw[hs];let:=UC<|CN (h1 _ s l H _ _ _ I r h) λ_ j ⟨b,c,f,i⟩=>h2 _ j b c _ _ Q f rr i
inductive zxI(K:CK)(n:Nat)(t:RG)(v:V)(σ:St)(H:Hp)(Q:St->Hp->Prop):Prop|mk(a:Er)(xs:Di)(e:v=.ref a)(h:yq K H a xs)(l:`xs=n)(q:t xs σ H Q):zxI K n t v σ H Q
def jF{k:Nat}(j:X.calm=Eg)(h:PGs X es t)(hn:↑(Lr es X.env)=n:=by rfl)(c:(Lr es X.env).findIdx? (·.1)=Ee:=by rfl):PG X (.Tuple es k pos)<|zxI X.K n t:=by intro y s x H v u Q I r f;let#[a,xs,i,hq,hl,f]:=f;subst i;cases r;let#[q,w,l,A]:=I.tuple hq;let:=assign_Tuple_tuple (I.ok.hd j) l (by simp[hn,<-hl,`w]) c λz p=>?_;let g:=I.kept (t':=s.toks) λb o e=>p b o (ZU<|ZP e) e;let:=h _ _ x H xs _ Q g (by trivial) f
def fR(j g:TE)(t:b9):(TG):=λv b H Q=>j b H λo c=>g b c λi e=>t o i v e λf=>Q b f
def TM{i:ER}(p:PE X o to)(n:PE X i ti)(hs:fu X t)(ha:∀v,assign (.Subscript o i pos) X.env v=(do
   let ov<-MW [v]<|E8 o X.env let iv<-MW [v,ov]<|E8 i X.env
   standAt pos
   MW [v,ov,iv]<|setItem ov iv v
   release [v,ov,iv] []):=by intro _;rfl):PG X (.Subscript o i pos)<|fR to ti t:=by intro E s b H v u Q I r h;rw[ha];let:=Zz<|Ys<|CN (p _ s b H _ I h) λov D ⟨x,c,g,A,q⟩=>Zz<|Ys<|CN (n _ D b c _ g q) λiv s2 ⟨y,e,j,B,w⟩=>Zz<|Us<|Zz<|Ys<|CN (hs _ s2 b e x y v ov iv u _ j A B r w) λ_ F ⟨f,l,z⟩=>wpAny_release #[b,f,l,z]
def HD(e:TE)(g:TG):(TS):=λD b H=>e b H λx c=>g x b c D.nx
def Hq(i:PE X e te)(j:PG X tg g)(hs:swapsWithSole [tg] e pos.line X.env=Lm Ei:=by rfl)(l:swappedStores [tg] e X.env=Lm Ee:=by rfl)(h1:(Lr [tg] X.env).map (·.2)=[assign tg X.env]:=by rfl):PS X (.Assign [tg] e pos)<|HD te g:=by intro r s b H D I h;let:=wpAny_Assign_stores (CN (i _ s b H _ I h) λv p ⟨x,c,f,o,n⟩=>?_) hs l;rw[h1];let:=CN (j _ p b c x v _ f o n) λ_ s2 q=>q
def XW{b:Pos}(j:X.N.Nodup)(o:X.N[i]?=A0 x)(p:Loc X.env.scope x)(l:PE X e te)(hs:Mj e (A0<|.Name x b) pos.line X.env=Lm Ei:=by rfl)(n:X.fn x=Eg\/X.env.scope.names.lookup x=A0 .local:=by first|let:=.inl rfl|let:=.inr rfl|assumption):PS X (.Assign [.Name x b] e pos)<|HD te<|Xh i:=by intro u s t H D I h;let:=wpAny_Assign_Name (CN (l _ s t H _ I h) λv w ⟨y,c,f,r,q⟩=>j9 f j o p r (λs2 g=>#[_,c,g,q]) n) hs
def fz{b:Pos}(c:X.N.Nodup)(f:PE X e te)(j:X.N[i]?=A0 x:=by rfl)(l:Loc X.env.scope x:=by first|let:=MH rfl|let:=Or.inr rfl)(hs:Mj e (A0<|.Name x b) pos.line X.env=Lm Ei:=by rfl)(g:X.fn x=Eg\/X.env.scope.names.lookup x=A0 .local:=by first|let:=.inl rfl|let:=.inr rfl|assumption):PS X (.Assign [.Name x b] e pos)<|HD te<|Xh i:=XW c j l f hs g
def je(i j:Nat)(e:TA):(TS):=λD b H=>e b H λf c=>∃v w,f=[v,w]/\D.nx ((b.set i<|A0 v).set j<|A0 w) c
def dH{j:Nat}{a b:ER}{K:TA}{n r pt:Pos}{kt k2 pt2}(U:X.calm=Eg)(F:X.N.Nodup)(Y:X.N[i]?=A0 x)(Z:X.N[j]?=A0 y)(g:i≠j)(G:X.env.scope.names.lookup x=A0 .local)(J:X.env.scope.names.lookup y=A0 .local)(ha:PA X [a,b] K)(hw:swappedStores [.Tuple [.Name x n,.Name y r] kt pt] (.Tuple [a,b] k2 pt2) X.env=Lm (A0 [x,y]))(hs:swapsWithSole [.Tuple [.Name x n,.Name y r] kt pt] (.Tuple [a,b] k2 pt2) pos.line X.env=Lm Ei:=by rfl):PS X (.Assign [.Tuple [.Name x n,.Name y r] kt pt] (.Tuple [a,b] k2 pt2) pos)<|je i j K:=by
 intro A s L H D I h;rw[exec_Assign_arm];let:=Zz<|Us ?_;rw[hs];let:=Zz<|ZF<|Zz<|Tuple_<|CN (ha _ A s L H _ I h) λus z ⟨vs,B,P,r1,t⟩=>?_;let#[v,w,T,t]:=t;subst T;let#[c,f,rfl,rv,u]:∃c f,us=[c,f]/\yu v c/\yu w f:=by cases r1 with|cons p q=>cases q with|cons p' q'=>cases q';let:=#[_,_,Ej,p,p']
 let:=YA ?_ (by show 2<=sizeLine;decide);let Q:Inv X A L B {z with heap:=z.heap.push {cls:=.type "tuple",data:=.seq [c,f].toArray}}:=P.kept λb o e=>ZE _ e;rw[hw];let:=Zz<|ZF<|Zz<|JK<|Zz<|unpackItems_tuple (items:=#v[c,f]) (I.ok.hd U) (IsTup.new _ _) λh' l=>?_;let R:=Q.kept (t':=z.toks) λb o e=>l b o (ZU<|ZP e) e;let:=Zz<|UC<|wpAny_bindName<|j9 R F Z (.inl J) u (λs2 S=>UC<|wpAny_bindName<|j9 S F Y (.inl G) rv (λs3 E=>assignInOrder_nil<|ZF ?_)<|.inr G)<|.inr J;rw[List.set_comm _ _<|EG g]at E;let:=#[_,B,E,t]
def gT(i:Nat)(f:TE)(g:iz):(TS):=λD b H=>∃x,b[i]?=A0 (A0 x)/\f b H λy c=>g x y c λz e=>D.nx (b.set i<|A0 z) e
def Hr{op:Operator}{q:Pos}(K:X.N.Nodup)(o:X.N[i]?=A0 x)(j:Loc X.env.scope x)(L:PE X e te)(Q:jh X op ti)(P:X.fn x=Eg\/X.env.scope.names.lookup x=A0 .local:=by first|let:=.inl rfl|let:=.inr rfl|assumption):PS X (.AugAssign (.Name x q) op e pos)<|gT i te ti:=by
 intro g s p H D I h;let#[v,J,h]:=h;let#[m,hn,hl]:=I.loc;let n:fw X.env.scope x:=by rcases j with k|k;let:=.inl k;let:=.inr<|.inl k
 let#[u,r,l]:=hl i x v o J n;let:=wpAny_AugAssign_Name ?_;let go:EA _ X.A _ (λw b=>EA _ X.A _ (λr f=>EA (EC X.prog X.w) X.A _ (λ_=>SP X g D .next) X.xe f) X.xe b) X.xe s:=CN (L g s p H _ I h) λw Y ⟨y,t,E,T,R⟩=>CN (Q g Y p t v y u w _ E r T R) λz s2 ⟨zv,B,F,U,S⟩=>j9 F K o j U (λZ G=>#[_,B,G,S]) P;rcases l with⟨hk,hm⟩|⟨hk,c,hc,hcell⟩;.let:=wpAny_loadName_local I.ok.kind hk hn hm go
 .rcases hk with hk|hk;.let:=wpAny_loadName_cell I.ok.kind hk hc hcell go
  .rcases j with k|k;.have:X.env.scope.names.lookup x=A0 .free:=hk;rw[k]at this;cases this
   .have:X.env.scope.names.lookup x=A0 .free:=hk;simp_all
def jj(f:Int->Int->Int):(iz):=λx y H Q=>∃i j,x=.int i/\y=.int j/\Q (.int<|f i j) H
def F2:jh X .Add<|jj λi j=>i+j:=by intro g s n H x y v u Q I e f h;let#[i,j,b,c,q]:=h;subst b;subst c;let#[t,rfl]:=e;let#[l,rfl]:=f;let:=iadd_int #[.int _,H,I.tok _,#[_,Ej],q]
def Wl(c:TT)(tb:TS):(TS):=λD e H=>∃W:Nat->St->Hp->Prop,(∃m,W m e H)/\∀m e H,W m e H->c e H λb i=>if b=Eg then∃N:St->Hp->Prop,(∀f g,N f g->∃j,j<m/\W j f g)/\tb {D with nx:=N,ct:=N,bk:=D.nx} e i else D.nx e i
def TW(E:PassesOwn (EC X.prog X.w) X.A X.env X.xe)(G:PT X c tc)(hb:pB X body tb):PS X (.While c body [] pos)<|Wl tc tb:=by intro p s R H D I h;let#[W,#[J,P],turn]:=h;let:=wpAny_While<|codeAny_whileLoop (λn K=>∃j u,Inv X p j u K/\W n j u) ?_ J #[R,H,I,P];rintro n L ⟨g,x,F,Q⟩;let:=J5 E<|CN (G p L g x _ F<|turn n g x Q) λb s2 ⟨y,z,l⟩=>?_;cases b with
 |true=>let#[N,B,l]:=l;let:=J5 E<|CN (hb p s2 g y _ z l) λf S o=>?_;cases f with|next=>let#[e,i,q,n3]:=o;let#[r,hm,t]:=B e i n3;let:=#[r,hm,e,i,q,t]|cont=>let#[e,i,q,n3]:=o;let#[r,hm,t]:=B e i n3;let:=#[r,hm,e,i,q,t]|brk=>let:=o|ret v=>let:=o
 |false=>let:=VW #[g,y,z,l]
end
structure It where
 go:Nat->Hp->Prop
 yld:Nat->Hp->V->Hp->Prop
 stop:Nat->Hp->Prop
def X4(X:Cx)(e:Dd)(H:Hp)(b:Er):(Prop):=H b=Ee/\b≠X.env.locals/\b∉X.fs/\(b∈X.ex\/X.s₀.heap.objs.size<=b)/\(∀x c,X.env.cells.lookup x=A0 c->c≠b)/\∀p∈X.pn++e,p.1≠b
def Inv.pC{f:Hp}{b:Er}(I:Inv X Dp σ H s)(hb:⇑s<=b)(hn:f b=Ee):X4 X Dp f b:=by
 let:=#[hn,JV<|Z0 I.lt hb,I.zvC hb,.inr<|Yz I.sz hb,λx c e z=>?_,λp g z=>?_];.let#[v,q]:=I.cell x c e;let:=absurd (Z0 q.lt<|by simp_all)<|Y7 _
 .let:=absurd (Z0 (ZP (I.pin p g).1)<|by simp_all)<|Y7 _
structure lM(U:Cx->Prop)(P:Et)(w:Ey)(K:CK)(tg:ER)(J:It)(fp:Dc)(it:Er)(tn:Nat->EH->Prop):Prop where
 mem:it∈fp
 obj:∀i h,tn i h->∀b∈fp,∃o,h.get? b=A0 o/\∀v,o.data≠.cell v
 keep:∀i h h',tn i h->(∀b∈fp,∀o,h.get? b=A0 o->h'.get? b=A0 o)->tn i h'
 item:∀(X:Cx),X.prog=P->X.w=w->X.K=K->U X->∀(i:Nat)(Dp:Dd)(s:Eu)(σ:St)(H:Hp)(E:Es->Dg),Inv X Dp σ H s->(∀b∈fp,X4 X Dp H b)->tn i s.heap->J.go i H->EA (EC P w) X.A (L6<|.ref it) (λr s1=>∃u,r=A0 u/\EA (EC P w) X.A (letOwnedTupleGo tg (.ref it) u) (λ_ s2=>∃x H',Inv X Dp σ H' s2/\yu x u/\J.yld i H x H'/\tn (i+1) s2.heap/\∀b∈fp,H' b=Ee) E s1) E s
 done:∀(X:Cx),X.prog=P->X.w=w->X.K=K->U X->∀(i:Nat)(Dp:Dd)(s:Eu)(σ:St)(H:Hp)(E:Es->Dg),Inv X Dp σ H s->(∀b∈fp,X4 X Dp H b)->tn i s.heap->J.stop i H->EA (EC P w) X.A (L6<|.ref it) (λr s1=>r=Ee/\Inv X Dp σ H s1) E s
 self:∀(A:EL)(i:Nat)(s:Eu)(Q:Es->Dg)(E:Es->Dg),tn i s.heap->Q (.ref it) s->EA (EC P w) A (pyIter<|.ref it) Q E s
abbrev Turn:=lM λX=>X.calm=Eg
abbrev TI:=St->Hp->(It->Hp->Prop)->Prop
def fq(U:Cx->Prop)(X:Cx)(f:Dd)(n:St)(l:ER)(R:It->Hp->Prop)(e:Es)(s2:Eu):(Prop):=∃(i:Er)(g:Dc)(j:Nat->EH->Prop)(J:It)(c:Hp),e=.ref i/\Inv X f n c s2/\lM U X.prog X.w X.K l J g i j/\j 0 s2.heap/\(∀b∈g,X4 X f c b)/\R J c
abbrev PIE:=fq λX=>X.calm=Eg
def iJ(U:Cx->Prop)(X:Cx)(g b:ER)(i:TI):(Prop):=∀(e:Dd)(s:Eu)(c:St)(H:Hp)(R:It->Hp->Prop),Inv X e c H s->i c H R->EA (EC X.prog X.w) X.A (E8 b X.env) (λv f=>EA (EC X.prog X.w) X.A (pyIter v) (fq U X e c g R) X.xe f) X.xe s
def PI(X:Cx)(c b:ER)(e:TI):(Prop):=iJ (λX=>X.calm=Eg) X c b e
def Fm{M:Model}{e:ER}{c:Er}{u:Es}{o:Obj}{n:String}{vs:Array Es}{Q:Unit->Dg}(g:s.heap.get? c=A0 o)(f:o.cls=.type n)(hd:o.data=.fields vs)(hn:["enumerate","zip","dict_itemiterator","dict_reverseitemiterator","odict_iterator","itertools.zip_longest","itertools.pairwise"].contains n=Ei)(b:Q () s):EA M A (letOwnedTupleGo e (.ref c) u) Q E s:=by cases e<;>first|let:=ZF b|(cases u<;>first|let:=ZF b|(let:=Zz<|wpAny_load g ?_;rw[f,hd];show EA M A (if(["enumerate","zip","dict_itemiterator","dict_reverseitemiterator","odict_iterator","itertools.zip_longest","itertools.pairwise"].contains n&&vs[0]?==A0 (La _))=Eg then _ else _) Q E s;rw[ZX<|by intro h;rw[hn]at h;cases h];let:=ZF b))
def WA(K:CK)(a:Er):(It):=#[λi H=>∃xs x,yp K H a xs/\xs[i]?=A0 x,λi H x b=>b=H/\∀xs,yp K H a xs->xs[i]?=A0 x,λi H=>∃xs,yp K H a xs/\`xs<=i]
def fh(K:CK)(a:Er):(It):=#[λi H=>∃xs x,yq K H a xs/\xs[i]?=A0 x,λi H x b=>b=H/\∀xs,yq K H a xs->xs[i]?=A0 x,λi H=>∃xs,yq K H a xs/\`xs<=i]
def bS(lo:Int)(n:Nat):(It):=#[λi _=>i<n,λi H x b=>b=H/\x=.int (lo+i),λi _=>n<=i]
def Gq{U:Cx->Prop}{stop:Nat->Hp->Prop}(a f:Er)(q:∀(X:Cx),X.prog=P->X.w=w->X.K=K->U X->∀(i:Nat)(Dp:Dd)(s:Eu)(σ:St)(H:Hp)(E:Es->Dg),Inv X Dp σ H s->(∀b∈[f],X4 X Dp H b)->s.heap.IsListIter f a i->stop i H->EA (EC P w) X.A (L6<|.ref f) (λr s1=>r=Ee/\Inv X Dp σ H s1) E s):lM U P w K tg #[(WA K a).go,(WA K a).yld,stop] [f] f λi h=>h.IsListIter f a i where
 mem:=by simp
 obj:=λi h st b hb=>by let#[o,e,c,d]:=st;simp_all
 keep:=λi h B st k=>st.at<|k f<|by simp
 item:=by intro X F L D Y i Dp s σ H E I j st G;subst F L D;let#[xs,x,hq,l]:=G;let#[Q,S,p,Z]:=I.list hq;let#[u,J,R]:=S.get l;let#[t,v,T,y,z,f5]:=j f (by simp);let:=wpAny_pyNext_list_item st p.isList (by simpa using J) λB g sb=>?_;let n:=I.turned (t':=s.toks) (λb o hb e=>(sb.2 b hb).trans e) t v y z f5;let#[o,e,c,d]:=id g;let:=#[u,Ej,Fm e c d ∅ #[x,H,n,R,#[Ej,λys N=>I.zyG N hq▸l],g,λb hb=>(j b hb).1]]
 done:=q
 self:=λ_ _ _ _ _ st h=>wpAny_pyIter_listiter st h
def RC(a b:Er):Turn P w K tg (WA K a) [b] b λi h=>h.IsListIter b a i:=Gq a b<|by intro X n t l o i x s D H E I q st r;subst n t l;let#[xs,hq,A]:=r;let#[u,v,p,B]:=I.list hq;let#[e,f,y,g,j,f5]:=q b (by simp);let hl:=`v;let:=wpAny_pyNext_list_end (I.ok.hd o) st p.isList (by simp;lia) λz c=>#[Ej,I.turned c e f g j f5]
def Ox(a f:Er):Turn P w K tg (fh K a) [f] f λi h=>h.IsTupleIter f a i where
 mem:=by simp
 obj:=λi h st b hb=>by
  let e:=by simpa using hb
  subst e;let#[o,e,c,d]:=st;simp_all
 keep:=λi h F st k=>st.at<|k f<|by simp
 item:=by intro X v z t G i J s Y H E I j st y;subst v z t;let#[xs,x,hq,A]:=y;let#[B,D,p,T]:=I.tuple hq;let#[u,R,U]:=D.get A;let#[l,n,Q,q,r,f5]:=j f (by simp);let:=wpAny_pyNext_tuple_item st p (by simpa using R) λF g sb=>?_;let L:=I.turned (t':=s.toks) (λb o hb e=>(sb.2 b hb).trans e) l n q r f5;let#[o,e,c,d]:=id g;let:=#[u,Ej,Fm e c d ∅ #[x,H,L,U,#[Ej,λZ S=>I.ni S hq▸A],g,λb hb=>(j b hb).1]]
 done:=by intro X v z t G i J s Y H E I j st y;subst v z t;let#[xs,hq,A]:=y;let#[B,D,p,T]:=I.tuple hq;let#[l,n,Q,q,r,f5]:=j f (by simp);let hl:=`D;let:=wpAny_pyNext_tuple_end (I.ok.hd G) st p (by simp;lia) λF N=>#[Ej,I.turned N l n q r f5]
 self:=λ_ _ _ _ _ st h=>wpAny_pyIter_tupleiter st h
def Ow(c:Er)(lo:Int)(n:Nat):Turn P w K tg (bS lo n) [c] c λi h=>IsRangeIter h c (lo+(i:Nat)*1) ((n:Int)-(i:Nat)) 1 where
 mem:=by simp
 obj:=λi h st b hb=>by simp_all
 keep:=λi h r st k=>k c (by simp) _ st
 item:=by intro X A B z u i y s D H E I g st x;subst A B z;let#[j,l,J,p,q,f5]:=g c (by simp);let W:=Walks.range (prog:=X.prog) (w:=X.w) (I.ok.hd u) c lo 1 n;let:=W.item i s _ _ x st λv r N hv f L=>?_;let#[t,rfl]:=hv;let F:Inv X y D H {s with heap:=r,toks:=N}:=I.turned (λb o hb e=>L b o (by simpa using hb) e) j l p q f5;let:=#[_,Ej,Fm f rfl rfl ∅ #[.int _,H,F,#[t,?_],#[Ej,Ej],f,λb hb=>(g b hb).1]];rw[Int.mul_one]
 done:=by intro X A B z u i y s D H E I g st x;let#[j,l,J,p,q,f5]:=g c (by simp);let:=wpAny_pyNext_range_end (I.ok.hd u) st (by have:n<=i:=x;lia) λr G=>#[Ej,I.turned G j l p q f5]
 self:=λ_ _ _ _ _ st h=>wpAny_pyIter_rangeiter st h
section
variable{X:Cx}
inductive ItR(S:Er->Di->Prop)(J:Er->It)(R:It->Hp->Prop)(x:V)(H1:Hp):Prop|mk(a:Er)(h1:x=.ref a)(h2:∃xs,S a xs)(h3:R (J a) H1):ItR S J R x H1
def bB(K:CK)(c:TE):(TI):=λe H R=>c e H λx b=>ItR (yp K b) (WA K) R x b
def iR(K:CK)(c:TE):(TI):=λe H R=>c e H λx b=>ItR (yq K b) (fh K) R x b
def yN(hl:PE X l tl):PI X tg l<|bB X.K tl:=by
 intro r s n H R I h;let:=CN (hl _ s n H _ I h) λv w ⟨x,f,c,j,i⟩=>?_;let#[a,e,#[xs,hq],q]:=i;subst e;cases j;let#[g,u,p,t]:=c.list hq;let:=J7 p.isList<|#[_,_,_,_,f,Ej,c.kept λb o e=>ZE _ e,RC a _,#[_,ZL _ rfl,Ej,Ej],λb hb=>?_,q];let e:=by simpa using hb
 subst e;let:=c.pC (ZG _)<|c.hok.fresh<|ZG _
def kN(hl:PE X l tl):PI X tg l<|iR X.K tl:=by
 intro r s n H R I h;let:=CN (hl _ s n H _ I h) λv w ⟨x,f,c,j,i⟩=>?_;let#[a,e,#[xs,hq],q]:=i;subst e;cases j;let#[g,u,p,t]:=c.tuple hq;let:=wpAny_pyIter_tuple p<|#[_,_,_,_,f,Ej,c.kept λb o e=>ZE _ e,Ox a _,#[_,ZL _ rfl,Ej,Ej],λb hb=>?_,q];let e:=by simpa using hb
 subst e;let:=c.pC (ZG _)<|c.hok.fresh<|ZG _
def M7{R:It->Hp->Prop}{lo c:Int}{t u v:Tok}{j:Nat}(I:Inv X Dp σ H s)(h1:-2^62<=lo)(h2:lo<2^62)(h3:-2^62<=c)(h4:c<2^62)(q:R (bS lo (c-lo).toNat) H):EA (EC X.prog X.w) X.A (pyIter<|.ref ⇑s) (PIE X Dp σ tg R) E {s with heap:=s.heap.push {cls:=.type "range",data:=.fields #v[.int lo t,.int c u,.int 1 v]},toks:=j}:=by
 let:=wpAny_pyIter_range (IsRange.new ..) (small_one h1 h2 h3 h4) ?_;let f:Inv X _ σ H {s with heap:=s.heap.push {cls:=.type "range",data:=.fields #v[.int lo t,.int c u,.int 1 v]}}:=I.kept λb o e=>ZE _ e;let:=#[_,_,_,_,H,Ej,f.kept λb o e=>ZE _ e,Ow _ lo _,?_,λb hb=>?_,q]
 .let g:lo+(0:Nat)*1=lo:=by simp
  let i:(c-lo).toNat-(0:Nat)=LJ lo c 1:=by grind[rangeSize_one]
  rw[g,i];let:=ZL _ rfl
 .let e:b=(s.heap.push {cls:=.type "range",data:=.fields #v[.int lo t,.int c u,.int 1 v]}).objs.size:=by simpa using hb
  subst e;let:=f.pC (ZG _)<|f.hok.fresh<|ZG _
def fY(c:TA):(TI):=λf H R=>c f H λe b=>∃j:Int,e=[.int j]/\-2^62<=j/\j<2^62/\R (bS 0 j.toNat) b
def fZ(c:TA):(TI):=λf H R=>c f H λe b=>∃i j:Int,e=[.int i,.int j]/\(-2^62<=i/\i<2^62/\-2^62<=j/\j<2^62)/\R (bS i (j-i).toNat) b
def XN{a:ER}{p:Pos}(f:Gl X "range")(hm:X.mg "range"=Ee)(ha:PA X [a] ta)(hs:EI [a] X.env=[(Ei,E8 a X.env)]:=by rfl):PI X tg (.Call (.Name "range" p) [a] [] pos)<|fY ta:=by intro n s l H R I h;let:=Call_<|uZ I f hm boot_range<|Jt (CN (ha pos _ s l H _ I h) λv u ⟨w,o,c,i,b⟩=>?_) hs rfl;let#[j,e,b,g,q]:=b;subst e;cases i with|cons r rr=>cases rr;let#[t,rfl]:=r;let:=call_range_1<|M7 c ⋯ ⋯ b g<|by simpa using q
def Rr{a b:ER}{p:Pos}(l:Gl X "range")(hm:X.mg "range"=Ee)(ha:PA X [a,b] ta)(hs:EI [a,b] X.env=[(Ei,E8 a X.env),(Ei,E8 b X.env)]:=by rfl)(c:EI [b] X.env=[(Ei,E8 b X.env)]:=by rfl):PI X tg (.Call (.Name "range" p) [a,b] [] pos)<|fZ ta:=by intro x s w H R I h;let:=Call_ (uZ I l hm boot_range<|Jt (CN (ha pos _ s w H _ I h) λB z ⟨D,y,g,v,f⟩=>?_) (by rw[hs,c])<|by rw[c];rfl);let#[i,j,e,#[f,n,o,u],q]:=f;subst e;cases v with|cons r rr=>cases rr with|cons r' rr=>cases rr;let#[t,rfl]:=r;let#[A,rfl]:=r';let:=call_range_2<|M7 g f n o u q
inductive zyZ(J:It)(g:TG)(tb:TS)(D:Ends)(σ:St)(H1:Hp):Prop|mk(W:Nat->Nat->St->Hp->Prop)(h1:∃m,W 0 m σ H1)(h2:∀i m σ H,W i m σ H->J.stop i H/\D.nx σ H\/J.go i H/\∃N:St->Hp->Prop,(∀σ' H',N σ' H'->∃m',m'<m/\W (i+1) m' σ' H')/\∀x H',J.yld i H x H'->g x σ H' λσ2 H2=>tb {D with nx:=N,ct:=N,bk:=D.nx} σ2 H2):zyZ J g tb D σ H1
def g7(e:TI)(g:TG)(tb:TS):(TS):=λD b H=>e b H λJ c=>zyZ J g tb D b c
def Gz(fp:Dc)(h:EH):(Dd):=fp.filterMap λb=>(h.get? b).map λo=>(b,o)
def j8{h:EH}{b:Er}{o:Obj}(hb:b∈fp)(e:h.get? b=A0 o):(b,o)∈Gz fp h:=JX.mpr #[b,hb,by rw[e];rfl]
def Rp{p:Er×Obj}(f:p∈Gz fp h):p.1∈fp/\h.get? p.1=A0 p.2:=by let#[b,hb,e]:=JX.mp f;cases q:h.get? b with|none=>simp_all|some o=>rw[q]at e;let c:=dI e;subst c;trivial
def Inv.pinned(I:Inv X Dp σ H s)(c:∀b∈fp,X4 X Dp H b)(e:∀b∈fp,∃o,s.heap.get? b=A0 o/\∀v,o.data≠.cell v):Inv X (Dp++Gz fp s.heap) σ H s:=I.tL λp f=>(ZY.mp f).elim (λz=>I.pin p<|Yb _ z) λz=>by let#[hb]:=Rp z;let#[i,j,l,_]:=c p.1 hb;let#[o,g,d]:=e p.1 hb;simp_all
def Inv.oN{b e:Dd}(I:Inv X (b++e) σ H s):Inv X b σ H s:=I.tL λp c=>I.pin p<|Yb _<|YB _ c
def yQ(G:PassesOwn (EC X.prog X.w) X.A X.env X.xe)(hc:X.calm=Eg)(hi:PI X tg iter wi)(hg:PG X tg g)(hb:pB X body tb)(hs:∀x,Mb iter X.env x=Lm x:=by intro _;rfl):PS X (.For tg iter body [] pos)<|g7 wi g tb:=by
 intro E s σ H D I h;let:=wpAny_For (CN (hi E s σ H _ I h) λv s1 h1=>CN h1 λac s2 h2=>?_) hs;let#[it,Q,tn,J,H2,e,I2,T,Z,f2,W,#[m0,w0],turn]:=h2;subst e;let p:∀{y:Hp},(∀b∈Q,y b=Ee)->∀b∈Q,X4 X E y b:=λhn b hb=>#[hn b hb,(f2 b hb).2];let:=codeAny_forLoop_any (λn s'=>∃i q y,Inv X E q y s'/\tn i s'.heap/\(∀b∈Q,y b=Ee)/\W i n q y) ?_ m0 #[0,σ,H2,I2,Z,λb hb=>(f2 b hb).1,w0];rintro n s3 ⟨i,t,P,I3,L,F,w3⟩;rcases turn i n t P w3 with⟨stop,qn⟩|⟨go,N,hN,step⟩;.let:=J5 G<|CN (T.done X rfl rfl rfl hc i E s3 t P X.xe I3 (p F) L stop) λr s4 ⟨U,I4⟩=>?_;subst U;let:=VW #[t,P,I4,qn]
 .let:=J5 G<|CN (T.item X rfl rfl rfl hc i E s3 t P X.xe I3 (p F) L go) λr s4 ⟨u,U,h4⟩=>?_;subst U;let:=J5 G<|CN h4 λ_ s5 zq=>?_;let#[x,H5,I5,r5,y5,B,S]:=zq;let R:=I5.pinned (p S)<|T.obj _ _ B;let:=J5 G<|CN (hg _ s5 t H5 x u _ R r5<|step x H5 y5) λ_ s6 ⟨ab,H6,I6,q6⟩=>J5 G<|CN (hb _ s6 ab H6 _ I6 q6) λf Y z=>?_;let again:∀{c:St}{j:Hp},Inv X _ c j Y->N c j->∃m,m<n/\∃i q y,Inv X E q y Y/\tn i Y.heap/\(∀b∈Q,y b=Ee)/\W i m q y:=λ{c j}l K=>by let#[m',hm,w7]:=hN c j K;let:=#[m',hm,i+1,c,j,l.oN,T.keep _ _ _ B λb hb o e=>(l.pin (b,o)<|Yb _<|Yb _<|j8 hb e).1,λb hb=>?_,w7];let#[o,e,d]:=T.obj _ _ B b hb;let:=(l.pin (b,o)<|Yb _<|Yb _<|j8 hb e).2.1
  cases f with|next=>let#[c,j,l,K]:=z;let:=again l K|cont=>let#[c,j,l,K]:=z;let:=again l K|brk=>let#[c,j,l,z]:=z;let:=#[c,j,l.oN,z]|ret v=>let#[x7,c,j,l,r7,z]:=z;let:=#[x7,c,j,l.oN,r7,z]
end
structure Ed(D:Ends)(N:St->Hp->Prop)(E:Ends):Prop where
 nx:∀σ H,N σ H->E.nx σ H
 ct:∀σ H,N σ H->E.ct σ H
 bk:∀σ H,D.nx σ H->E.bk σ H
 rt:∀v H,D.rt v H->E.rt v H
def Ed.me:Ed D N {D with nx:=N,ct:=N,bk:=D.nx}:=#[λ_ _ z=>z,λ_ _ z=>z,λ_ _ z=>z,λ_ _ z=>z]
def kS{xs:Di}{g:TG}{tb:TS}{D:Ends}{b:St}{H:Hp}(c:Nat->St->Hp->Prop)(l:c 0 b H)(hl:∀i b H,i<=`xs->c i b H->yp K H a xs)(hs:∀i x b H(E:Ends)(G:Prop),xs[i]?=A0 x->Ed D (c<|i+1) E->(g x b H (λσ2 H2=>tb E σ2 H2)->G)->c i b H->G)(hd:∀b H,c `xs b H->D.nx b H):zyZ (WA K a) g tb D b H:=by
 let:=#[λi m b H=>m=`xs-i/\i<=`xs/\c i b H,#[`xs,by simp,Yk _,l],?_];rintro i m b H ⟨rfl,n,p⟩;let q:=hl i b H n p;by_cases f:i<`xs;.let:=.inr #[#[xs,xs[i],q,by simp],_,λr j o=>#[_,⋯,Ej,f,o],λx j y=>?_];let#[e,y]:=y;subst e;let:=hs i x b _ _ _ (y xs q) Ed.me id p
 .let e:i=`xs:=⋯;subst e;let:=.inl #[#[xs,q,ZG _],hd b H p]
def vU{xs:Di}{g:TG}{tb:TS}{D:Ends}{b:St}{H:Hp}(c:Nat->St->Hp->Prop)(l:c 0 b H)(hl:∀i b H,i<=`xs->c i b H->yq K H a xs)(hs:∀i x b H(E:Ends)(G:Prop),xs[i]?=A0 x->Ed D (c<|i+1) E->(g x b H (λσ2 H2=>tb E σ2 H2)->G)->c i b H->G)(hd:∀b H,c `xs b H->D.nx b H):zyZ (fh K a) g tb D b H:=by
 let:=#[λi m b H=>m=`xs-i/\i<=`xs/\c i b H,#[`xs,by simp,Yk _,l],?_];rintro i m b H ⟨rfl,n,p⟩;let q:=hl i b H n p;by_cases f:i<`xs;.let:=.inr #[#[xs,xs[i],q,by simp],_,λr j o=>#[_,⋯,Ej,f,o],λx j y=>?_];let#[e,y]:=y;subst e;let:=hs i x b _ _ _ (y xs q) Ed.me id p
 .let e:i=`xs:=⋯;subst e;let:=.inl #[#[xs,q,ZG _],hd b H p]
def P0{lo:Int}{g:TG}{tb:TS}{D:Ends}{b:St}{H:Hp}(f:Nat->St->Hp->Prop)(l:f 0 b H)(hs:∀i b H(E:Ends)(G:Prop),i<n->Ed D (f<|i+1) E->(g (.int<|lo+i) b H (λσ2 H2=>tb E σ2 H2)->G)->f i b H->G)(hd:∀b H,f n b H->D.nx b H):zyZ (bS lo n) g tb D b H:=by
 let:=#[λi m b H=>m=n-i/\i<=n/\f i b H,#[n,by simp,Yk _,l],?_];rintro i m b H ⟨rfl,r,p⟩;by_cases c:i<n;.let:=.inr #[c,_,λq j o=>#[_,⋯,Ej,c,o],λx j y=>?_];let#[e,y]:=y;subst e y;let:=hs i b _ _ _ c Ed.me id p
 .let e:i=n:=⋯;subst e;let:=.inl #[ZG _,hd b H p]
abbrev R2:=V->V->Hp->VK->Prop
def CW(X:Cx)(f:Es->Es->Sem Es)(r:R2):(Prop):=∀(b:Dd)(s:Eu)(c:St)(H:Hp)(x y:V)(v u:Es)(Q:VK),Inv X b c H s->yu x v->yu y u->r x y H Q->EA (EC X.prog X.w) X.A (f v u) (EP X b c Q) X.xe s
def iL(X:Cx)(f:Es->Sem Es)(r:V->Hp->VK->Prop):(Prop):=∀(b:Dd)(s:Eu)(c:St)(H:Hp)(x:V)(v:Es)(Q:VK),Inv X b c H s->yu x v->r x H Q->EA (EC X.prog X.w) X.A (f v) (EP X b c Q) X.xe s
def xq(X:Cx)(f:Es)(r:Di->Hp->VK->Prop):(Prop):=∀(b:Dd)(s:Eu)(e:St)(H:Hp)(xs:Di)(c:Da)(Q:VK),Inv X b e H s->zb xs c->r xs H Q->EA (EC X.prog X.w) X.A (call f c) (EP X b e Q) X.xe s
def iK(X:Cx)(r:V->Hp->(Bool->Hp->Prop)->Prop):(Prop):=∀(b:Dd)(s:Eu)(c:St)(H:Hp)(x:V)(v:Es)(Q:Bool->Hp->Prop),Inv X b c H s->yu x v->r x H Q->EA (EC X.prog X.w) X.A (truthy v) (TP X b c Q) X.xe s
def Pw(r:R2)(f tb:TE):(TE):=λb H Q=>f b H λx c=>tb b c λy e=>r x y e Q
def kg(r:V->Hp->VK->Prop)(c:TE):(TE):=λe H Q=>c e H λx b=>r x b Q
inductive rU(g:Int->V)(x:V)(H:Hp)(Q:VK):Prop|mk(i:_)(h0:x=.int i)(h1:Q (g i) H):rU g x H Q
section
variable{X:Cx}{a b c:ER}{ta tb tc:TE}
def ci(ha:PE X a ta)(hb:PE X b tb){e:Dd}{c:St}{H:Hp}{R:V->V->Hp->Prop}(I:Inv X e c H s)(h:ta c H λx H1=>tb c H1 λy H2=>R x y H2){f:Es->Es->Sem Es}(j:∀v u s2 x y H2,Inv X e c H2 s2->yu x v->yu y u->R x y H2->EA (EC X.prog X.w) X.A (f v u) Q X.xe s2):EA (EC X.prog X.w) X.A (E8 a X.env) (λv s₁=>EA (EC X.prog X.w) X.A (E8 b X.env) (λu s₂=>EA (EC X.prog X.w) X.A (f v u) Q X.xe s₂) X.xe s₁) X.xe s:=CN (ha _ s c H _ I h) λv q ⟨x,H1,g,o,l⟩=>CN (hb _ q c H1 _ g l) λu s2 ⟨y,H2,i,p,n⟩=>j v u s2 x y H2 i o p n
def zP{op:Operator}(f:CW X (LS op) r)(ha:PE X a ta)(hb:PE X b tb):PE X (.BinOp a op b pos)<|Pw r ta tb:=by intro l s j H Q I h;let:=wpAny_BinOp<|ci ha hb I h λv u s2 x y c e g i q=>f _ s2 j c x y v u Q e g i q
def O8{op:UnaryOp}(f:iL X (unaryOp op) r)(ha:PE X a ta):PE X (.UnaryOp op a pos)<|kg r ta:=by intro l s b H Q I h;let:=UnaryOp_<|CN (ha _ s b H _ I h) λv j ⟨x,c,e,i,g⟩=>f _ j b c x v Q e i g
def iY{f:Es->Es->Sem Es}{C:Int->Int->Prop}{g:Int->Int->Int}(b:∀(i j:Int)(t u:Tok)(s:Eu)(Q:Es->Dg)(E:Es->Dg),C i j->Q (.int (g i j) s.toks) {s with toks:=s.toks+1}->EA (EC X.prog X.w) X.A (f (.int i t)<|.int j u) Q E s):CW X f λx y H Q=>uf x λi=>uf y λj=>C i j/\Q (.int<|g i j) H:=by intro o s p H x y v u Q I e l h;let#[i,rfl,k]:=uf.ex h;let#[j,rfl,c,q]:=uf.ex k;let#[t,rfl]:=e;let#[n,rfl]:=l;let:=b i j t n s _ _ c #[.int _,H,I.tok _,#[_,Ej],q]
def gB{f:Es->Es->Sem Es}{g:Int->Int->Int}(b:∀(i j:Int)(t u:Tok)(s:Eu)(Q:Es->Dg)(E:Es->Dg),Q (.int (g i j) s.toks) {s with toks:=s.toks+1}->EA (EC X.prog X.w) X.A (f (.int i t)<|.int j u) Q E s):CW X f λx y H Q=>uf x λi=>uf y λj=>Q (.int<|g i j) H:=by intro n s o H x y v u Q I c e h;let#[i,rfl,k]:=uf.ex h;let#[j,rfl,q]:=uf.ex k;let#[t,rfl]:=c;let#[l,rfl]:=e;let:=b i j t l s _ _ #[.int _,H,I.tok _,#[_,Ej],q]
def ae{f:Es->Es->Sem Es}{g:Int->Int->Bool}(b:∀(i j:Int)(t u:Tok)(s:Eu)(Q:Es->Dg)(E:Es->Dg),Q (.bool<|g i j) s->EA (EC X.prog X.w) X.A (f (.int i t)<|.int j u) Q E s):CW X f λx y H Q=>uf x λi=>uf y λj=>Q (.bl<|g i j) H:=by intro n s o H x y v u Q I c e h;let#[i,rfl,k]:=uf.ex h;let#[j,rfl,q]:=uf.ex k;let#[t,rfl]:=c;let#[l,rfl]:=e;let:=b i j t l s _ _ #[.bl _,H,I,Ej,q]
def iG(i j:Int):(Prop):=0<j/\j<1073741824
def zwM(i j:Int):(Prop):=-2^64<i/\i<2^64\/-2^64<j/\j<2^64
def zwM.ok{i:Int}(h:zwM i j):IntMulOk i j:=by
 rcases h with⟨h1,h2⟩|⟨h1,h2⟩;.let:=.of_left<|intBits_le_64 h1 h2
 .let:=.of_right<|intBits_le_64 h1 h2
def xE:CW X (LS .Add) λx y H Q=>uf x λi=>uf y λj=>Q (.int<|i+j) H:=gB λ_ _ _ _ _ _ _ q=>add_int q
def N9:CW X (LS .Sub) λx y H Q=>uf x λi=>uf y λj=>Q (.int<|i-j) H:=gB λ_ _ _ _ _ _ _ q=>sub_int q
def Ho:CW X (LS .Mult) λx y H Q=>uf x λi=>uf y λj=>zwM i j/\Q (.int<|i*j) H:=iY λ_ _ _ _ _ _ _ b q=>mul_int q b.ok
def jH:CW X (LS .FloorDiv) λx y H Q=>uf x λi=>uf y λj=>iG i j/\Q (.int<|i/j) H:=iY λi j _ _ _ _ _ b q=>by let h1:=b.1;let h2:=b.2;let:=floordiv_int ⋯ (by rwa[Int.fdiv_eq_ediv_of_nonneg i<|⋯])<|.inl<|PyProof.noPylong_small<|⋯
def xY:CW X (LS .Mod) λx y H Q=>uf x λi=>uf y λj=>0<j/\Q (.int<|i%j) H:=iY λi j _ _ _ _ _ b q=>mod_int' ⋯<|by rwa[Int.fmod_eq_emod_of_nonneg i<|⋯]
def unI{f:Es->Sem Es}{g:Int->Int}(b:∀(i:Int)(t:Tok)(s:Eu)(Q:Es->Dg)(E:Es->Dg),Q (.int (g i) s.toks) {s with toks:=s.toks+1}->EA (EC X.prog X.w) X.A (f<|.int i t) Q E s):iL X f<|rU λi=>.int<|g i:=by intro e s j H x v Q I c h;let#[i,rfl,q]:=h;let#[t,rfl]:=c;let:=b i t s _ _ #[.int _,H,I.tok _,#[_,Ej],q]
def HJ:iL X (unaryOp .USub)<|rU λi=>.int<|-i:=unI λ_ _ _ _ _ q=>neg_int q
def gJ(x y:V):(Bool):=match x with
 |.int _=>match y with|.int _=>Eg|_=>Ei
 |.str _=>match y with|.str _=>Eg|_=>Ei
 |_=>Ei
def jr:(R2):=λx y H Q=>gJ x y=Eg/\Q (.bl<|decide<|x=y) H
def rNe:(R2):=λx y H Q=>gJ x y=Eg/\Q (.bl<|!decide (x=y)) H
def OH{i j:Int}:decide (V.int i=V.int j)=(i==j):=by rw[YV];simp
def OI{i j:Str}:decide (V.str i=V.str j)=(i==j):=by rw[YV];simp
def X1{Q:VK}{k b:Bool}(I:Inv X Dp σ H s)(q:Q (.bl k) H)(e:k=b):EP X Dp σ Q (.bool b) s:=by subst e;let:=#[.bl k,H,I,Ej,q]
def yK:CW X (EZ .Eq) jr:=by intro g s l H x y v u Q I c e h;let#[b,q]:=h;cases x with
 |int i=>let#[t,rfl]:=c;cases y with|int j=>let#[f,rfl]:=e;let:=eq_int<|X1 I q OH|_=>let:=absurd (show Ei=Eg from b) Yf
 |str i=>let#[t,rfl]:=c;cases y with|str j=>let#[f,rfl]:=e;let:=eq_str<|X1 I q OI|_=>let:=absurd (show Ei=Eg from b) Yf
 |_=>let:=absurd (show Ei=Eg from b) Yf
def GJ:CW X (EZ .NotEq) rNe:=by intro g s l H x y v u Q I c e h;let#[b,q]:=h;cases x with
 |int i=>let#[t,rfl]:=c;cases y with|int j=>let#[f,rfl]:=e;let:=ne_int<|X1 I q<|congrArg not OH|_=>let:=absurd (show Ei=Eg from b) Yf
 |str i=>let#[t,rfl]:=c;cases y with|str j=>let#[f,rfl]:=e;let:=ne_str<|X1 I q<|congrArg not OI|_=>let:=absurd (show Ei=Eg from b) Yf
 |_=>let:=absurd (show Ei=Eg from b) Yf
def K0:CW X (EZ .Lt) λx y H Q=>uf x λi=>uf y λj=>Q (.bl<|decide<|i<j) H:=ae λ_ _ _ _ _ _ _ q=>lt_int q
def G1:CW X (EZ .LtE) λx y H Q=>uf x λi=>uf y λj=>Q (.bl<|decide<|i<=j) H:=ae λ_ _ _ _ _ _ _ q=>le_int q
def O5:CW X (EZ .Gt) λx y H Q=>uf x λi=>uf y λj=>Q (.bl<|decide<|j<i) H:=ae λ_ _ _ _ _ _ _ q=>gt_int q
def gC:CW X (EZ .GtE) λx y H Q=>uf x λi=>uf y λj=>Q (.bl<|decide<|j<=i) H:=ae λ_ _ _ _ _ _ _ q=>ge_int q
def vX:CW X (EZ .Is) λx y H Q=>y=.non/\Q (.bl<|decide<|x=.non) H:=by intro e s f H x y v u Q I b c h;let#[rfl,q]:=h;cases c;let:=is_none_gen<|X1 I q ?_;cases x<;>first|(rfl)|(let#[t,rfl]:=b;rfl)
def kK:CW X (EZ .IsNot) λx y H Q=>y=.non/\Q (.bl<|!decide (x=.non)) H:=by intro e s f H x y v u Q I b c h;let#[rfl,q]:=h;cases c;let:=isnot_none_gen<|X1 I q ?_;cases x<;>first|(rfl)|(let#[t,rfl]:=b;rfl)
def Tr(b:ER)(h:op≠.In:=by decide)(h2:op≠.NotIn:=by decide):Mo op b=Ei:=by let c:(op==CmpOp.In)=Ei:=⋯;let e:(op==CmpOp.NotIn)=Ei:=⋯;cases b<;>simp[Mo,c,e]
def aq(f:CW X (EZ op) r)(ha:PE X a ta)(hb:PE X b tb)(hm:Mo op b=Ei):PE X (.Compare a [op] [b] pos)<|Pw r ta tb:=by intro l s j H Q I h;let:=wpAny_Compare1 (ci ha hb I h λv u s2 x y c e g i q=>f _ s2 j c x y v u Q e g i q) hm
inductive zxP(x:V)(H:Hp)(Q:Bool->Hp->Prop):Prop|mk(k:Bool)(e:x=.bl k)(q:Q k H):zxP x H Q
def BM(t:TE):(TT):=λc H Q=>t c H λx b=>zxP x b Q
def aM(p:CW X (EZ op) r)(ha:PE X a ta)(hb:PE X b tb)(hm:Mo op b=Ei):PT X (.Compare a [op] [b] pos)<|BM<|Pw r ta tb:=by intro F s f H Q I h;let:=wpAny_isTrue_Compare1 (CN (ha _ s f H _ I h) λv E ⟨x,g,l,A,q⟩=>CN (hb _ E f g _ l q) λu s2 ⟨y,i,n,B,t⟩=>CN (p _ s2 f i x y v u _ n A B t) λc G q9=>?_) hm;let#[z,j,o,D,k,e,w]:=q9;subst e;cases D;let:=JP #[j,o,w]
def eB(r i:R2)(ta tb tc:TE):(TE):=λb H Q=>ta b H λx e=>tb b e λy f=>r x y f λz c=>∃k,z=.bl k/\if k=Eg then tc b c λj g=>i y j g Q else Q (.bl Ei) c
def GM{f:CmpOp}(E:CW X (EZ op) r)(i:CW X (EZ f) r')(ha:PE X a ta)(hb:PE X b tb)(D:PE X c tc)(hm:lastMarks [op,f] [b,c]=Ei:=by with_unfolding_all rfl):PE X (.Compare a [op,f] [b,c] pos)<|eB r r' ta tb tc:=by intro Y s g H Q I h;let:=Compare_chain (CN (ha _ s g H _ I h) λv P ⟨x,p,w,K,F⟩=>chain_link<|CN (hb _ P g p _ w F) λu s2 ⟨y,q,A,o,G⟩=>CN (E _ s2 g q x y v u _ A K o G) λd R q9=>?_) hm;let#[z,j,l,L,k,e,n]:=q9;subst e;cases L;let:=JP ?_;cases k with|false=>let:=ite_ff #[.bl _,j,l,Ej,n]|true=>let:=ite_tt<|chain_last<|CN (D _ R g j _ l n) λT S ⟨U,t,B,N,J⟩=>i _ S g t y U u T Q B o N J
def RP(K:CK)(x:V)(H:Hp)(k:Bool):(Prop):=match x with|.bl b=>k=b|_=>False
def sG:(sizeLine:Nat)<2^63:=∅
def eN:iK X λx H Q=>∃k,RP X.K x H k/\Q k H:=by intro g s i H x v Q I f h;let#[k,e,q]:=h;cases x with|bl b=>cases f;let c:=e;subst c;let:=JP #[H,I,q]|_=>let:=e.elim
def TX(ha:PE X a ta)(e:∀whole,isTrue a X.env whole=do let v<-whole;standAt a.pos;MW [v]<|truthy v):PT X a λσ H Q=>ta σ H λx H'=>∃k,RP X.K x H' k/\Q k H':=by intro j s σ H Q I h;let:=isTrue_plain (CN (ha _ s σ H _ I h) λv i ⟨x,b,c,g,f⟩=>eN _ i σ b x v Q c g f)<|e _
def zO:CW X (LS .Add) λx y H Q=>∃i j,x=.str i/\y=.str j/\`i+`j<=sizeLine/\Q (.str<|i++j) H:=by intro g s n H x y v u Q I c e h;let#[i,j,rfl,rfl,b,q]:=h;let#[t,rfl]:=c;let#[f,rfl]:=e;let:=add_str (λf l=>#[.str<|i++j,H,I.tok _,#[_,Ej],q]) b
def wW{x:V}(r:zb [x] us):∃u,us=[u]/\yu x u:=by cases r with|cons r1 r2=>cases r2;let:=#[_,Ej,r1]
def vals2{x y:V}(r:zb [x,y] us):∃u w',us=[u,w']/\yu x u/\yu y w':=by cases r with|cons r1 r2=>cases r2 with|cons r3 r4=>cases r4;let:=#[_,_,Ej,r1,r3]
def XL(c:X.calm=Eg):xq X (.builtin "max") λxs H Q=>∃i j,xs=[.int i,.int j]/\Q (.int<|if j>i then j else i) H:=by
 intro e s p H xs n Q I r h;let#[i,j,rfl,q]:=h;let#[u,o,rfl,#[t,rfl],#[g,rfl]]:=vals2 r;let:=max_two_ints (I.ok.hd c) λf l k=>#[_,H,I.kept k,?_,q];by_cases b:j>i;.rw[Z4 b,Z4 b];let:=#[_,Ej]
 .rw[ZX b,ZX b];let:=#[_,Ej]
def PN:xq X (.type "int") λxs H Q=>(∃i,xs=[.int i]/\Q (.int i) H)\/∃k,xs=[.bl k]/\Q (.int<|if k then 1 else 0) H:=by
 intro c s f H xs e Q I r h;rcases h with⟨i,rfl,q⟩|⟨k,rfl,q⟩;.let#[u,rfl,t,rfl]:=wW r;let:=call_int_int #[.int i,H,I,#[_,Ej],q]
 .let#[u,rfl,b]:=wW r;cases b;let:=call_int_bool #[.int _,H,I.tok _,#[_,Ej],q]
def qF:xq X (.type "str") λxs H Q=>∃i,xs=[.int i]/\i.natAbs.log2<1920/\Q (.str<|Mp i) H:=by intro c s f H xs e Q I r h;let#[i,rfl,b,q]:=h;let#[u,rfl,t,rfl]:=wW r;let:=PySem.P.str_of_int b #[.str _,H,I.tok _,#[_,Ej],q]
def HZ:xq X (.builtin "ord") λxs H Q=>∃x,xs=[.str x]/\`x=1/\Q (.int (x.cps.getD 0 0:Nat)) H:=by intro c s f H xs e Q I r h;let#[x,rfl,b,q]:=h;let#[u,rfl,t,rfl]:=wW r;let:=ord_of_one b #[.int _,H,I.tok _,#[_,Ej],q]
end
structure zzU(h:EH)(x dx C:Er)(mA:Str->Db):Prop where
 obj:h.get? x=A0 (LR C dx)ns:h.Ns1 dx mA
 ne:dx≠x
def Rj{h:EH}{b:Er}{mA:Str->Db}(n:h.Ns1 b mA):∃od,h.get? b=A0 od/\∀name,PySem.W.lookIn name od=A0 (mA name):=by
 let#[o,c,j,i,hd,hk,_,hm]:=n;let:=#[o,i,λname=>?_];let e:=hm name;unfold nsFind findBy at e;rw[<-Array.find?_toList]at e;unfold PySem.W.lookIn;rw[hd];dsimp only;split;.simp_all
 .rename_i q;rw[q]at e;let a:c.toList.any (·.refKey)=Ei:=by rw[UM];intro y l;let#[z,t,f]:=hk y (by simp_all);simp[DictEntry.refKey,f]
  let g:¬c.toList.any (·.refKey)=Eg:=by rw[a];simp
  rw[ZX g];let:=congrArg A0 e
def zzU.look{x:Er}(I:zzU h x dx C mA):∃od,PySem.W.InstAt h x (LR C dx) C (A0 od)/\∀name,PySem.W.lookIn name od=A0 (mA name):=let ⟨od,ho,hl⟩:=Rj I.ns
 #[od,#[I.obj,Ej,Ej,ho],hl]
section
variable{x dx C f:Er}{mA:Str->Db}{name:Str}{v:Es}
def WS{b:Bool}(X:K.In s.heap)(I:zzU s.heap x dx C mA)(e:LK K C name=Eg)(f:Mc K C=Eg)(ha:EV K (.ref C) name=A0 Ee)(hv:mA name=A0 v)(c:PySem.W.handedIn v=Eg)(h:Q v {s with toks:=s.toks+1}):EA (EC prog w) A (getAttr (.ref x) name b) Q E s:=by let#[g,J,hl]:=I.look;let:=PySem.W.get_value X J (Uy e).1 (PySem.W.findObj_own f ha rfl<|by rw[hl,hv]) c h
def Sv{i:Sem Bool}{Q:Es×Da->Dg}(X:K.In s.heap)(I:zzU s.heap x dx C mA)(b:LK K C name=Eg)(c:EV K (.ref C) name=A0 (A0<|.ref f))(e:MR K (.ref f)=Eg)(hv:mA name=Ee)(h:Q (.ref f,[.ref x]) s):EA (EC prog w) A (getMethod (.ref x) name i) Q E s:=by let#[g,J,hl]:=I.look;let:=PySem.W.method_fn X J (Uy b).1 (Uy b).2 c (Vc.mp e) (by show(PySem.W.lookIn _ g).map _=A0 _;simp_all) h
def aX{ns:By}{Q:Unit->Dg}(X:K.In s.heap)(I:zzU s.heap x dx C mA)(hs:EV K (.ref C) "__setattr__"=A0 (A0<|.builtin "object.__setattr__"))(q:Mz K C=Eg)(r:PySem.W.takerIn K C name=A0 Ee)(p:Mc K C=Eg)(t:PySem.Within mA ns)(hsz:`ns<=sizeLine)(h:∀h',zzU h' x dx C (λy=>if y=name then A0 v else mA y)->EW dx s.heap h'->Q () {s with heap:=h',toks:=s.toks+2}):EA (EC prog w) A (setAttr (.ref x) name v) Q E s:=by let#[B,J,hl]:=I.look;let:=PySem.W.set_plain X J hs<|PySem.W.osa_open X J q r λb=>?_;let#[z,o,g]:=PySem.W.any_some p;let u:=I.obj;let:=Zz<|ZF<|Zz<|Zz<|wpAny_loadPart u<|Zz<|PySem.W.Looks.here (PySem.W.looks_clsIn X o) ?_;rw[g];let:=ZF<|Zz<|ZF<|Zz<|wpAny_nsSet1 I.ns λh' c e=>?_;let#[oD,n,l,j,i,f]:=c.count<|PySem.Within.cons _ v t;let:=Zz<|wpAny_lookBehind j (i▸pastItsLine_dict (Yz f<|by grind))<|ZF<|h _ #[(e.2 _<|EG I.ne).trans I.obj,c,I.ne] e
def Te{vs:Da}{b:List<|Str×Es}(X:K.In s.heap)(hm:Mt K C=Eg)(e:EV K (.ref C) "__init__"=A0 (A0<|.ref f))(c:PySem.W.typeIn K (.ref f)=A0 (.type "function"))(h:LP (EC prog w) (A.under<|.builtin "type.__call__" #[.ref C::vs,b]) (.call (.ref f) #[.ref (⇑s+1)::vs,b]) (PySem.W.InitBack (⇑s+1) R) {s with heap:=(s.heap.push MA).push<|LR C ⇑s}):LP (EC prog w) A (.call (.ref C) #[vs,b]) R s:=PySem.W.make_core (PySem.W.makes_of X hm) (PySem.W.looks_findIn X e) (λself=>PySem.W.bind_fn X _ c) (.inl rfl) h
end
def U2(f:Str)(v:V):(List (Str×V)->List (Str×V))|[]=>[(f,v)]|(g,x)::r=>if g=f then(g,v)::r else(g,x)::U2 f v r
def Ib(f g:Str)(v:V):∀fs:List<|Str×V,(U2 f v fs).lookup g=if g=f then A0 v else fs.lookup g
 |[]=>by
  show ML g [(f,v)]=_;by_cases h:g=f;.simp_all
  .let hb:=JB.mpr h;simp only[ML,hb,ZX h]|(k,x)::r=>by
  let b:=Ib f g v r;rw[show U2 f v _=if k=f then(k,v)::r else(k,x)::U2 f v r from rfl];by_cases hk:k=f
  .rw[Z4 hk];by_cases h:g=k;.simp_all
   .let hb:=JB.mpr h;simp only[ML,hb,ZX λe:g=f=>h<|e.trans hk.symm]
  .rw[ZX hk];by_cases h:g=k;.simp_all
   .let hb:=JB.mpr h;simp only[ML,hb];let:=b
def XR(f:Str)(v:V):∀fs:List<|Str×V,f∈(U2 f v fs).map (·.1)/\∀g,g∈fs.map (·.1)->g∈(U2 f v fs).map (·.1)|[]=>#[by simp[U2],λg h=>by simp at h]|(k,x)::r=>by let#[b]:=XR f v r;rw[show U2 f v _=if k=f then(k,v)::r else(k,x)::U2 f v r from rfl];grind
def Ie(f:Str)(v:V):∀fs:List<|Str×V,↑(U2 f v fs)<=`fs+1|[]=>by simp[U2]|(k,x)::r=>by let b:=Ie f v r;rw[show U2 f v _=if k=f then(k,v)::r else(k,x)::U2 f v r from rfl];grind
def sU.some_of{v:V}(r:sU (A0 v) o):∃u,o=A0 u/\yu v u:=by cases o with|none=>let:=r.elim|some u=>let:=#[u,Ej,r]
def sU.none_of(r:sU Ee o):o=Ee:=by cases o with|none=>rfl|some u=>let:=r.elim
def Rc(r:yu v u):PySem.W.handedIn u=Eg:=by cases v with|non=>cases r;rfl|bl b=>cases r;rfl|int i=>let#[t,e]:=r;cases e;rfl|str x=>let#[t,e]:=r;cases e;rfl|byt b=>let#[t,e]:=r;cases e;rfl|flt b=>let#[t,e]:=r;cases e;rfl|ref a=>cases r;rfl|ty n=>cases r;rfl
section
variable{H H':Hp}{h:EH}{a C dx:Er}{fs fs':List<|Str×V}
def ID(hok:rK P w H h)(e:H a=A0 (.ins C dx fs)):∃mA,zzU h a dx C mA/\(∀f,sU (fs.lookup f)<|mA f)/\PySem.Within mA (fs.map (·.1))/\`fs<=1000/\H dx=A0 (.own a):=by let#[d,z,ne,ob,mA,n,r,q]:=hok a _ e;let:=#[mA,#[ob,n,ne],r,q,z,d]
end
structure Cls(K:CK)(C:Er):Prop where
 pg:LK K C MT=Eg
 hd:Mc K C=Eg
 po:Mz K C=Eg
 sa:EV K (.ref C) "__setattr__"=A0 (A0<|.builtin "object.__setattr__")
def Cls.get(c:Cls K C)(f:Str):LK K C f=Eg:=c.pg
def ug(K:CK)(C:Er)(f:Str):(Prop):=EV K (.ref C) f=A0 Ee
def ug.taker(n:ug K C f):PySem.W.takerIn K C f=A0 Ee:=by unfold PySem.W.takerIn;rw[n];rfl
structure Meth(K:CK)(C:Er)(m:Str)(f:Er):Prop where
 at_:EV K (.ref C) m=A0 (A0<|.ref f)fn:MR K (.ref f)=Eg
 kp:E5 K (.ref f)=Eg
section
variable{X:Cx}{σ:St}{H:Hp}{a C dx:Er}{fs:List<|Str×V}{f:Str}{v:V}
def NN{b:Bool}(I:Inv X Dp σ H s)(e:H a=A0 (.ins C dx fs))(c:Cls X.K C)(n:ug X.K C f)(l:fs.lookup f=A0 v)(h:∀u s',Inv X Dp σ H s'->yu v u->Q u s'):EA (EC X.prog X.w) A (getAttr (.ref a) f b) Q E s:=by let#[mA,O,r,_]:=ID I.hok e;let#[u,i,g]:=sU.some_of<|l▸r f;let:=WS I.sJ O (c.get f) c.hd n i (Rc g)<|h u _ (I.tok _) g
def Gb{b:Sem Bool}{Q:Es×Da->Dg}(I:Inv X Dp σ H s)(e:H a=A0 (.ins C dx fs))(c:Cls X.K C)(k:Meth X.K C m g)(l:fs.lookup m=Ee)(h:Q (.ref g,[.ref a]) s):EA (EC X.prog X.w) A (getMethod (.ref a) m b) Q E s:=by let#[mA,O,r,_]:=ID I.hok e;let hn:=sU.none_of<|l▸r m;let:=Sv I.sJ O (c.get m) k.at_ k.fn hn h
def Om{y:V}{Q:Unit->Dg}(I:Inv X Dp σ H s)(e:H a=A0 (.ins C dx fs))(c:Cls X.K C)(n:ug X.K C f)(hl:`fs<1000)(x:yu y u)(h:∀s',Inv X Dp σ (upd H a<|.ins C dx<|U2 f y fs) s'->Q () s'):EA (EC X.prog X.w) A (setAttr (.ref a) f u) Q E s:=by
 let#[mA,O,r,l,_,j]:=ID I.hok e;let v:↑(fs.map (·.1))<=sizeLine:=by rw[ZA,Y2];lia
 let:=aX I.sJ O c.sa c.po n.taker c.hd l v λp i sb=>h _ ?_;let hd:∃o,p.get? dx=A0 o:=let#[o,_,_,e',_]:=i.ns;#[o,e'];let:=I.write (e▸Ls) (.inr j) (λb q hb z=>(sb.2 b hb).trans z) hd #[zH O.ne▸j,?_,O.ne,i.obj,_,i.ns,λg=>?_,λg t=>?_];.have:=Ie f y fs;lia
 .rw[Ib];by_cases q:g=f;.rwa[Z4 q,Z4 q]
  simp_all
 .by_cases q:g=f;.rw[q];let:=(XR f y fs).1
  .let:=(XR f y fs).2 g<|l g λz=>t ?_;simp_all
def Inv.made(I:Inv X Dp σ H s):Inv X Dp σ (upd (upd H ⇑s<|.own<|⇑s+1) (⇑s+1)<|.ins C ⇑s []) {s with heap:=(s.heap.push MA).push<|LR C ⇑s}:=by
 let c:(s.heap.push _).get? _=A0 PySem.W.emptyDict:=ZL _ rfl;let g:=by have:=ZL (s.heap.push MA) (o:=LR C ⇑s) rfl;rwa[JY]at this
 let i:(s.heap.push _).Ns ..:=#[_,#v[],_,c,Ej,λe j=>absurd j<|by simp,λ_=>rfl];let f:=I.laid (o:=.own<|⇑s+1) (t':=s.toks) (λb u q=>ZE _ q) (ZG _) #[_,c];let:=f.laid (λb u q=>ZE _ q) (by simp_all) ?_;let ne:⇑s≠⇑s+1:=ZU<|Vj _;let:=#[by rw[zH ne,zD],Yk _,ne,g,λ_=>Ee,(Heap.Ns1.of_empty i).at λo q=>ZE _ q,λ_=>Ls,λy l=>absurd rfl l]
def WF{e:ER}{f:Str}(hb:Lx e f env (E8 e env)=E8 e env)(h:EA (EC prog w) A (E8 e env) (λo s₁=>EA (EC prog w) A (getAttr o f Eg) Q E s₁) E s):EA (EC prog w) A (E8 (.Attribute e f pos) env) Q E s:=Attribute_any_ h<|by rw[arm_eval_Attribute,hb]
end
inductive zw9(K:CK)(f:Str)(x:V)(H1:Hp)(Q:VK):Prop|mk(a C dx:Er)(fs:List<|Str×V)(v:V)(e:x=.ref a)(h:H1 a=A0 (.ins C dx fs))(c:Cls K C)(n:ug K C f)(l:fs.lookup f=A0 v)(q:Q v H1):zw9 K f x H1 Q
def gZ(K:CK)(c:TE)(f:Str):(TE):=λe H Q=>c e H λx b=>zw9 K f x b Q
def i5(K:CK)(i j:TE)(f:Str):(TS):=λD b H=>j b H λy g=>i b g λx c=>∃a C e fs,x=.ref a/\c a=A0 (.ins C e fs)/\Cls K C/\ug K C f/\`fs<1000/\D.nx b (upd c a<|.ins C e<|U2 f y fs)
section
variable{X:Cx}{o e value:ER}{f:Str}{DH:Pos}{ta tv:TE}
def yE(o:PE X e ta)(hb:Lx e f X.env (E8 e X.env)=E8 e X.env):PE X (.Attribute e f pos)<|gZ X.K ta f:=by intro y s w H Q I h;let:=WF hb<|CN (o _ s w H _ I h) λu A t=>?_;let#[x,b,g,r,a,C,z,fs,v,ex,j,c,n,l,q]:=t;subst ex;obtain rfl:u=EO a:=r;let:=NN g j c n l λB s2 i p=>#[v,b,i,p,q]
def GU(ha:PE X o ta)(hv:PE X value tv)(hs:Mj value (A0<|.Attribute o f DH) pos.line X.env=Lm Ei):PS X (.Assign [.Attribute o f DH] value pos)<|i5 X.K ta tv f:=by intro B s b H D I h;let:=plainObj_wpAny_Assign_Attribute (CN (hv _ s b H _ I h) λu z ⟨y,e,g,w,q⟩=>CN (ha _ z b e _ g q) λr s2 A=>?_) hs;let#[x,E,i,v,a,C,F,fs,ex,p,c,n,l,t]:=A;subst ex;obtain rfl:r=EO a:=v;let:=Om i p c n l w λG j=>#[b,_,j,t]
end
section
variable{X:Cx}{σ:St}{H:Hp}{c:Es}{b:Bool}
inductive qe(K:CK)(H:Hp):V->Es->Prop where|non:qe K H .non<|.type "NoneType"|bl(x:Bool):qe K H (.bl x)<|.type "bool"|int(i:Int):qe K H (.int i)<|.type "int"|str(x:Str):qe K H (.str x)<|.type "str"|flt(x:UInt64):qe K H (.flt x)<|.type "float"|lst{a:Er}{xs:Di}(e:H a=A0 (.lst xs)):qe K H (.ref a)<|.type "list"|frz{a:Er}{o:Obj}{xs:Di}(e:H a=A0 (.frz o<|.lst xs)):qe K H (.ref a)<|.type "list"|tup{a:Er}{xs:Di}(e:H a=A0 (.tup xs)):qe K H (.ref a)<|.type "tuple"|dK{a:Er}{Dl:Dk}(e:H a=A0 (.dK Dl)):qe K H (.ref a)<|.type "dict"|dT{a:Er}{Dl:List<|List Key×V}(e:H a=A0 (.dT Dl)):qe K H (.ref a)<|.type "dict"|ins{a C dx:Er}{fs:List<|Str×V}(e:H a=A0 (.ins C dx fs))(cl:Cls K C)(ha:EV K (.ref C) "__class__"=A0 (A0<|.builtin "object.__class__"))(hn:PySem.W.specialIn K (.builtin "object.__class__") "__get__"=A0 (A0<|.builtin "getset_descriptor.__get__"))(htk:PySem.W.takesIn K (.builtin "object.__class__")=A0 Eg)(hm:PySem.W.mroIn K C (.type "object")=A0 Eg):qe K H (.ref a)<|.ref C
def qN{x:V}(I:Inv X Dp σ H s)(f:yu x u)(ty:qe X.K H x t)(e:E3 X.K t c=A0 b)(h:∀tk,Q (.bool b) {s with toks:=tk}):EA (EC X.prog X.w) A (call (.builtin "isinstance") [u,c]) Q E s:=by cases ty with|non=>cases f;let:=YL PySem.W.kitx_none I.sJ Ls e (λz=>nomatch z) h|bl y=>cases f;let:=YL PySem.W.kitx_bool I.sJ Ls e (λz=>nomatch z) h|int i=>let#[t,q]:=f;cases q;let:=YL PySem.W.kitx_int I.sJ Ls e (λz=>nomatch z) h|str y=>let#[t,q]:=f;cases q;let:=YL PySem.W.kitx_str I.sJ Ls e (λz=>nomatch z) h|flt y=>let#[t,q]:=f;cases q;let:=YL PySem.W.kitx_float I.sJ Ls e (λz=>nomatch z) h|@lst a xs ea=>cases show u=EO a from f;let#[_,_,n,_,h1]:=I.hok a _ ea;let:=YL UN I.sJ #[_,h1,Ej] e (λz=>nomatch z) h|@frz a ob xs ea=>cases show u=EO a from f;let#[_,_,_,n,_,h1]:=I.hok a _ ea;let:=YL UN I.sJ #[_,h1,Ej] e (λz=>nomatch z) h|@tup a xs ea=>cases f;let#[_,_,_,p]:=I.hok a _ ea;let#[o,h1,h2,_]:=p;let:=YL PySem.W.kitx_tuple I.sJ #[o,h1,h2] e (λz=>nomatch z) h|@dK a Dl ea=>cases show u=EO a from f;let#[_,_,r,_,p]:=I.hok a _ ea;let#[o,j,g,h1,h2,_]:=p;let:=YL UO I.sJ #[o,h1,h2.1] e (λz=>nomatch z) h|@dT a Dl ea=>cases show u=EO a from f;let#[_,_,xs,_,o,j,g,h1,h2,_]:=I.hok a _ ea;let:=YL UO I.sJ #[o,h1,h2.1] e (λz=>nomatch z) h|@ins a C dx fs ea cl ha hn htk hm=>cases show u=EO a from f;let#[mA,O,_]:=ID I.hok ea;let#[l,J,_]:=O.look;let:=YL (PySem.W.kitx_own (cl.get _) cl.hd ha hn htk hm) I.sJ J e (λz=>nomatch z) h
end
structure xj(k:Nat)(A:EL):Prop where
 hd:A.handled=Ee
 dp:A.depth+3*k+5<recursionLimit
 un:A.units+16*k+200<Ld
def xj.mono{j:Nat}(r:xj k A)(h:j<=k):xj j A:=#[r.hd,by have:=r.dp;lia,by have:=r.un;lia]
def xj.m{j:Nat}(r:xj k A)(h:j<=k:=by decide):xj j A:=r.mono h
def xj.deeper{k:Nat}(r:xj (k+1) A)(env:Env):xj k<|A.deeper env:=#[r.hd,by have:=r.dp;show A.depth+1+3*k+5<_;lia,by have:=r.un;show A.units+3+16*k+200<_;lia]
def NY{C:Er}{c:Da}{b:List<|Str×Es}:(A.under<|.builtin "type.__call__" #[.ref C::c,b]).depth=A.depth+1:=rfl
def NZ{C:Er}{c:Da}{b:List<|Str×Es}:(A.under<|.builtin "type.__call__" #[.ref C::c,b]).units=A.units+1:=rfl
def xj.make{k:Nat}(r:xj (k+1) A)(C:Er)(c:Da)(b:List<|Str×Es):xj k<|A.under<|.builtin "type.__call__" #[.ref C::c,b]:=#[r.hd,by have:=r.dp;rw[NY];lia,by have:=r.un;rw[NZ];lia]
def xj.depth(r:xj k A):A.depth<recursionLimit:=by have:=r.dp;lia
def xj.units(r:xj k A):A.units+64<cLine:=by have:=r.un;lia
def XG:(TA):=λ_ H Q=>Q [] H
def Xk(f:TE)(tr:TA):(TA):=λb H Q=>f b H λx c=>tr b c λxs e=>Q (x::xs) e
section
variable{X:Cx}{e:ER}{te:TE}{t:TA}
def zB:PA X [] XG:=λ_ _ _ _ H Q I h=>Me #[[],H,I,.nil,h]
def zA(ha:PE X e te)(j:PA X es t)(hs:EI (e::es) X.env=(Ei,E8 e X.env)::EI es X.env:=by rfl):PA X (e::es)<|Xk te t:=by intro pos r s b H Q I h;rw[hs];let:=Ly<|CN (ha _ s b H _ I h) λu q ⟨x,c,g,o,l⟩=>CN (j pos _ q b c _ g l) λv s2 ⟨xs,f,i,p,n⟩=>#[_,f,i,.cons o p,n]
inductive zzL(o:Di->HO)(Q:VK)(xs:Di)(H1:Hp):Prop|mk(l:`xs<=sizeLine)(q:∀p,H1 p=Ee->Q (.ref p) (upd H1 p<|o xs)):zzL o Q xs H1
def bc(t:TA):(TE):=λc H Q=>t c H λxs b=>zzL .tup Q xs b
def Oq(t:TA):(TE):=λc H Q=>t c H λxs b=>zzL .lst Q xs b
def zQ{x1}(h:PA X es t):PE X (.Tuple es x1 pos)<|bc t:=by intro j s i H Q I hq;let:=wpAny_Tuple_spliced<|CN (h pos _ s i H _ I hq) λg n ⟨xs,l,c,r,z,q⟩=>#[`r▸z,?_];let f:=c.hok.fresh<|ZG _;let:=#[.ref _,_,c.laid (λb u e=>ZE _ e) (ZG _) ?_,Ej,q _ f];let:=#[z,g,r,TupAt.new ..]
def yD(h:PA X es t):PE X (.List es pos)<|Oq t:=by intro j s i H Q I hq;let:=wpAny_List_spliced<|CN (h pos _ s i H _ I hq) λg n ⟨xs,l,c,r,z,q⟩=>#[`r▸z,?_];let f:=c.hok.fresh<|ZG _;let:=#[.ref _,_,c.laid (λb u e=>ZE _ e) (ZG _) ?_,Ej,q _ f];let:=#[z,g,0,r,ZL _ rfl]
end
abbrev Sp:=Di->Hp->VK->XK->Prop
abbrev RM:=List Env->Hp->Eu->XK->Es->Dg
structure oE(P:Et)(w:Ey)(K:CK)(mg:Str->Db)(dX:EH)(A:EL)(outer:List Env)(s:Eu)(H:Hp):Prop where
 frames:A.frames=A0 outer
 mod:Mod K mg dX
 bs:∀b o,dX.get? b=A0 o->s.heap.get? b=A0 o/\H b=Ee
 bsz:dX.objs.size<=⇑s
 sW:s.heap.FunFrames dX outer
 frf:∀b∈frs outer,H b=Ee
 hok:rK P w H s.heap
 bare:MQ s.gens
def CE(outer:List Env)(P:Et)(w:Ey)(H:Hp)(s:Eu)(Q:VK)(u:Es)(b:Eu):(Prop):=∃v c,b.os=s.os/\MQ b.gens/\Un (frs outer) [] H c s.heap b.heap/\rK P w c b.heap/\yu v u/\Q v c
def CR(CX:RM)(outer:List Env)(P:Et)(w:Ey)(H:Hp)(s:Eu)(Q:VK)(E:XK)(r:Result)(b:Eu):(Prop):=match r with|.ok<|.ret u=>CE outer P w H s Q u b|.ok _=>False|.error e=>CX outer H s E e b
structure zj(P:Et)(w:Ey)(K:CK)(mg:Str->Db)(dX:EH)(CX:RM)(k:Nat)(f:Er)(fd:Ew)(ps:By)(sp:Sp):Prop where
 len:∀vs H Q E,sp vs H Q E->`vs=`ps
 run:∀(A:EL)(outer:List Env)(s:Eu)(H:Hp)(args:Args)(us:Da)(vs:Di)(Q:VK)(E:XK),xj k A->oE P w K mg dX A outer s H->BindsTo s fd args (ps.zip us)->zb vs us->sp vs H Q E->LP (EC P w) A (.call (.ref f) args) (CR CX outer P w H s Q E) s
def oE.make(e:oE P w K mg dX A outer s H)(C:Er)(c:Da)(b:List<|Str×Es):oE P w K mg dX (A.under<|.builtin "type.__call__" #[.ref C::c,b]) outer s H:=#[by first|let:=e.frames|lia,e.mod,e.bs,e.bsz,e.sW,e.frf,e.hok,e.bare]
section
variable{X:Cx}{σ:St}{H:Hp}{s':Eu}
def Inv.env0(I:Inv X Dp σ H s):oE X.prog X.w X.K X.mg X.dX X.A X.stack s H:=#[I.ok.frames,I.ok.mod,I.bs,Yz I.ok.bsz I.sz,I.stack,I.oW,I.hok,I.bare]
def Inv.after{Q:VK}(I:Inv X Dp σ H s)(h:CE X.stack X.prog X.w H s Q u s'):EP X Dp σ Q u s':=by let#[v,e,os,bare,un,hok,r,q]:=h;let#[f,g,d,t,c]:=s';obtain rfl:c=s.os:=os;let:=#[v,e,I.call un hok bare<|λb z=>absurd z<|by simp,r,q]
end
def Nm(sp:Sp)(b:Di)(E:XK)(t:TA):(TE):=λf H Q=>t f H λe c=>sp (e++b) c Q E
inductive zvM(C:Er)(m:Str)(sp:Sp)(dvs:Di)(E:XK)(t:TA)(σ:St)(Q:VK)(x:V)(H1:Hp):Prop|mk(a dx:Er)(fs:List<|Str×V)(e:x=.ref a)(h:H1 a=A0 (.ins C dx fs))(n:fs.lookup m=Ee)(q:t σ H1 λvs H2=>sp (x::(vs++dvs)) H2 Q E):zvM C m sp dvs E t σ Q x H1
def Pt(C:Er)(m:Str)(sp:Sp)(b:Di)(E:XK)(f:TE)(t:TA):(TE):=λc H Q=>f c H λx e=>zvM C m sp b E t c Q x e
def Ps(C:Er)(sp:Sp)(e:Di)(E:XK)(t:TA):(TE):=λi H Q=>t i H λg c=>∀x b,c x=Ee->c b=Ee->b≠x->sp (.ref x::(g++e)) (upd (upd c b<|.own x) x<|.ins C b []) (λv f=>v=.non/\Q (.ref x) f) E
def wV(K:CK)(e:Ew)(ps:By)(c:Da):(Prop):=∀(s:Eu)(b:Da),K.In s.heap->↑(b++c)=`ps->BindsTo s e #[b,[]] (ps.zip<|b++c)
def wV.all{b:Ew}(h:∀us:Da,`us=`ps->bindArgs b #[us,[]]=Lm (ps.zip us)):wV K b ps []:=λs us _ hl=>by rw[Yi]at hl ⊢;let:=.of_eq<|h us hl
def vB(CX:RM)(X:Cx)(E:XK):(Prop):=∀(c:Dd)(f:St)(H:Hp)(s:Eu)(e:Es)(b:Eu),Inv X c f H s->CX X.stack H s E e b->X.xe e b
section
variable{X:Cx}{CX:RM}{k:Nat}{f C:Er}{fd:Ew}{sp:Sp}{dvs:Di}{ds:Da}{E:XK}{m:Str}{p:Pos}{e o:ER}{ta:TE}{t:TA}
def Ol{g:Dd}{c:St}{H:Hp}{Q:VK}{b:Da}{vs:Di}(F:zj X.prog X.w X.K X.mg X.dX CX k f fd ps sp)(j:xj k X.A)(hb:wV X.K fd ps ds)(hd:zb dvs ds)(l:vB CX X E)(I:Inv X g c H s)(r:zb vs b)(h:sp (vs++dvs) H Q E):EA (EC X.prog X.w) X.A (call (.ref f) b) (EP X g c Q) X.xe s:=by let i:=r.append hd;let hl:=`i▸F.len _ _ _ _ h;let:=VZ<|JN (F.run X.A _ s H _ _ _ Q E j I.env0 (hb s b I.sJ hl) i h) λr n hq=>?_;cases r with|error e=>let:=l _ c H s e n I hq|ok fl=>cases fl with|ret u=>let:=I.after hq|next=>trivial|brk=>trivial|cont=>trivial
def ao(F:zj X.prog X.w X.K X.mg X.dX CX k f fd ps sp)(l:xj k X.A)(j:Gl X x)(hm:X.mg x=A0 (.ref f))(hk:E5 X.K (.ref f)=Eg)(hb:wV X.K fd ps ds)(hd:zb dvs ds)(n:vB CX X E)(ha:PA X (e::es) t)(b:(x==("__debug__":Str))=Ei:=by decide)(i:EI (e::es) X.env=(Ei,E8 e X.env)::EI es X.env:=by rfl)(c:(Lu pos<|EI es X.env).any (·.1)=Ei:=by rfl):PE X (.Call (.Name x p) (e::es) [] pos)<|Nm sp dvs E t:=by intro u s o H Q I h;let:=Jo<|jT I j hm (Vp I.ok.mod.kin hk (CN (ha pos _ s o H _ I h) λz y ⟨B,v,g,r,q⟩=>#[g.sJ,Ol F l hb hd n g r q]) i c) b
def az{G:Sem Bool}(y:PE X o ta)(c:Cls X.K C)(hm:Meth X.K C m f)(F:zj X.prog X.w X.K X.mg X.dX CX k f fd ps sp)(z:xj k X.A)(hb:wV X.K fd ps ds)(hd:zb dvs ds)(D:vB CX X E)(ha:PA X (e::es) t)(g:EI (e::es) X.env=(Ei,E8 e X.env)::EI es X.env:=by rfl)(b:(Lu pos<|EI es X.env).any (·.1)=Ei:=by rfl)(B:E8 (.Call (.Attribute o m Ds) (e::es) [] pos) X.env=(do
   let ov<-E8 o X.env
   standAt Ds.atName let(f,first)<-MW [ov]<|getMethod ov m G
   callWith pos f first (Lu pos<|EI (e::es) X.env)<|backToKw pos<|Mv [] X.env):=by rfl):PE X (.Call (.Attribute o m Ds) (e::es) [] pos)<|Pt C m sp dvs E ta t:=by intro R s n H Q I h;let:=PySem.W.methodCall_KW (CN (y _ s n H _ I h) λu N P=>?_) B;let#[x,p,i,L,a,T,fs,ex,v,l,q]:=P;subst ex;obtain rfl:u=EO a:=L;let:=Gb i v c hm l<|Vp I.ok.mod.kin hm.kp (CN (ha pos _ N n p _ i q) λU s2 ⟨vs,S,j,r,J⟩=>#[j.sJ,Ol (vs:=.ref a::vs) F z hb hd D j (.cons rfl r) J]) g b
def TK{p:Sem Bool}(g:PE X o ta)(c:Cls X.K C)(hm:Meth X.K C m f)(F:zj X.prog X.w X.K X.mg X.dX CX k f fd ps sp)(i:xj k X.A)(hb:wV X.K fd ps ds)(hd:zb dvs ds)(n:vB CX X E)(j:E8 (.Call (.Attribute o m Ds) [] [] pos) X.env=(do
   let ov<-E8 o X.env
   standAt Ds.atName let(f,first)<-MW [ov]<|getMethod ov m p
   callWith pos f first (Lu pos<|EI [] X.env)<|backToKw pos<|Mv [] X.env):=by rfl):PE X (.Call (.Attribute o m Ds) [] [] pos)<|Pt C m sp dvs E ta XG:=by intro y s v H Q I h;let:=PySem.W.methodCall_KW (CN (g _ s v H _ I h) λu D t=>?_) j;let#[x,z,b,r,a,B,fs,ex,e,l,q]:=t;subst ex;obtain rfl:u=EO a:=r;let:=Gb b e c hm l<|PySem.W.callWith_K0 b.sJ hm.kp<|Ol (vs:=[.ref a]) F i hb hd n b (.cons rfl .nil) q
structure Mk(K:CK)(C f:Er):Prop where
 makes:Mt K C=Eg
 init:EV K (.ref C) "__init__"=A0 (A0<|.ref f)fn:MR K (.ref f)=Eg
 kp:E5 K (.ref C)=Eg
def Na{i:Dd}{j:St}{H:Hp}{Q:VK}{g:Da}{vs:Di}(M:Mk X.K C f)(F:zj X.prog X.w X.K X.mg X.dX CX k f fd ps sp)(q:xj (k+1) X.A)(hb:wV X.K fd ps ds)(hd:zb dvs ds)(t:vB CX X E)(I:Inv X i j H s)(r:zb vs g)(h:∀x dx,H x=Ee->H dx=Ee->dx≠x->sp (.ref x::(vs++dvs)) (upd (upd H dx<|.own x) x<|.ins C dx []) (λv H2=>v=.non/\Q (.ref x) H2) E):EA (EC X.prog X.w) X.A (call (.ref C) g) (EP X i j Q) X.xe s:=by
 let hq:=h _ _ (I.hok.fresh<|J8 _) (I.hok.fresh<|ZG _)<|ZU<|Vj _;let c:=Inv.made (C:=C) I;let l:zb (V.ref (⇑s+1)::(vs++dvs)) _:=.cons rfl<|r.append hd;let hl:=by let e:=`l;rw[F.len _ _ _ _ hq]at e;let:=e.symm
 let:=VZ<|Te I.sJ M.makes M.init (Vc.mp M.fn)<|JN (F.run _ _ _ _ _ _ _ _ E (q.make C g []) (c.env0.make C g []) (hb _ _ c.sJ hl) l hq) λr B b=>?_;cases r with|error e=>let:=t i j _ _ e B c b|ok fl=>cases fl with|ret u=>let#[v,n,o,z,p,y]:=c.after b;subst p;let:=#[z,#[V.ref _,n,o,Ej,y]]|next=>trivial|brk=>trivial|cont=>trivial
def ax(M:Mk X.K C f)(F:zj X.prog X.w X.K X.mg X.dX CX k f fd ps sp)(l:xj (k+1) X.A)(j:Gl X x)(hm:X.mg x=A0 (.ref C))(hb:wV X.K fd ps ds)(hd:zb dvs ds)(n:vB CX X E)(ha:PA X (e::es) t)(b:(x==("__debug__":Str))=Ei:=by decide)(i:EI (e::es) X.env=(Ei,E8 e X.env)::EI es X.env:=by rfl)(c:(Lu pos<|EI es X.env).any (·.1)=Ei:=by rfl):PE X (.Call (.Name x p) (e::es) [] pos)<|Ps C sp dvs E t:=by intro u s o H Q I h;let:=Jo<|jT I j hm (Vp I.ok.mod.kin M.kp (CN (ha pos _ s o H _ I h) λz y ⟨B,v,g,r,q⟩=>#[g.sJ,Na M F l hb hd n g r q]) i c) b
def TJ(M:Mk X.K C f)(F:zj X.prog X.w X.K X.mg X.dX CX k f fd ps sp)(e:xj (k+1) X.A)(c:Gl X x)(hm:X.mg x=A0 (.ref C))(hb:wV X.K fd ps ds)(hd:zb dvs ds)(g:vB CX X E)(b:(x==("__debug__":Str))=Ei:=by decide):PE X (.Call (.Name x p) [] [] pos)<|Ps C sp dvs E XG:=by intro i s j H Q I h;let:=Jo<|jT I c hm (PySem.W.callWith_K0 I.sJ M.kp<|Na M F e hb hd g I .nil h) b
end
structure zy(N P:By)(sc:Ma):Prop where
 kind:sc.kind=.function
 co:sc.isCoroutine=Ei
 gen:sc.isGenerator=Ei
 nd:N.Nodup
 pre:N.take `P=P
 par:∀x∈P,sc.names.lookup x=A0 .local\/sc.names.lookup x=A0 .cell
 zwY:∀y∈sc.names,y.2≠.free
def CP{N P:By}{sc:Ma}(a:sc.kind=.function:=by rfl)(b:sc.isCoroutine=Ei:=by rfl)(c:sc.isGenerator=Ei:=by rfl)(d:N.Nodup:=by lk)(e:N.take `P=P:=by rfl)(f:∀x∈P,sc.names.lookup x=A0 .local\/sc.names.lookup x=A0 .cell:=by lk)(g:∀y∈sc.names,y.2≠.free:=by lk):zy N P sc:=#[a,b,c,d,e,f,g]
def BL{kindOf:Str->Option Mq}{x:Str}:∀{binds:List<|Str×Es}{m:Str->Db},(∀v,(x,v)∉binds)->bindL kindOf binds m x=m x
 |[],_,_=>rfl|(n,v)::r,m,h=>by
  unfold bindL;rw[BL λw b=>h w<|ZB _ b];split
  .have:x≠n:=by rintro rfl;let:=h v ZD
   simp[this]
  .rfl
def Fg{kindOf:Str->Option Mq}{x:Str}:∀{binds:List<|Str×Es}{m:Str->Db},(∀v,(x,v)∉binds)->bindC kindOf binds m x=m x
 |[],_,_=>rfl|(n,v)::r,m,h=>by
  unfold bindC;rw[Fg λw b=>h w<|ZB _ b];split;.rfl
  .have:x≠n:=by rintro rfl;let:=h v ZD
   simp[this]
def BP{kindOf:Str->Option Mq}{x:Str}{v:Es}:∀{P:By}{vs:Da}{i:Nat}{m:Str->Db},P.Nodup->P[i]?=A0 x->vs[i]?=A0 v->kindOf x=A0 .local->bindL kindOf (P.zip vs) m x=A0 v|[],_,_,_,_,h,_,_=>by simp at h|_::_,[],_,_,_,_,h,_=>by simp at h|p::P,w::vs,0,m,nd,h1,h2,hk=>by simp at h1 h2;subst h1;subst h2;show bindL _ ((p,w)::P.zip vs) m p=_;unfold bindL;rw[BL λv hv=>(YC.mp nd).1 (Vs hv).1,Z4 hk];simp|p::P,w::vs,i+1,m,nd,h1,h2,hk=>by unfold bindL;let:=BP (by simp_all) (by trivial) (by trivial) hk
def Fe{kindOf:Str->Option Mq}{x:Str}{v:Es}:∀{P:By}{vs:Da}{i:Nat}{m:Str->Db},P.Nodup->P[i]?=A0 x->vs[i]?=A0 v->kindOf x≠A0 .local->bindC kindOf (P.zip vs) m x=A0 v|[],_,_,_,_,h,_,_=>by simp at h|_::_,[],_,_,_,_,h,_=>by simp at h|p::P,w::vs,0,m,nd,h1,h2,hk=>by simp at h1 h2;subst h1;subst h2;show bindC _ ((p,w)::P.zip vs) m p=_;unfold bindC;rw[Fg λv hv=>(YC.mp nd).1 (Vs hv).1,ZX hk];simp|p::P,w::vs,i+1,m,nd,h1,h2,hk=>by unfold bindC;let:=Fe (by simp_all) (by trivial) (by trivial) hk
def start(N:By)(vs:Di):(St):=vs.map A0++EN (`N-`vs) Ee
def GX(CX:RM)(P:Et)(w:Ey)(K:CK)(mg:Str->Db)(dX:EH)(N:By)(qual:Str)(scope:Ma)(f:Er)(c:Es)(A:EL)(outer:List Env)(s:Eu)(H:Hp)(E:XK):(Cx) where
 prog:=P
 w:=w
 K:=K
 mg:=mg
 dX:=dX
 A:=A.deeper<|MI qual scope ⇑s f c
 N:=N
 s₀:=s
 H₀:=H
 env:=MI qual scope ⇑s f c
 outer:=outer
 stack:=MI qual scope ⇑s f c::outer
 ex:=[]
 calm:=Eg
 fn:=λ_=>Eg
 pn:=[]
 xe:=λe i=>EA (EC P w) (A.deeper<|MI qual scope ⇑s f c) (leaving (MI qual scope ⇑s f c) e) (λ_ b=>CX outer H s E e b) (λg b=>CX outer H s E g b) i
def Kb{sc:Ma}(h:sc.names.lookup x=A0 .cell):∃c,(cellsFrom n sc.names []).lookup x=A0 c:=by let q:=V7 _ n []<|.inl h;let:=Yx.mp q
def BN{CX:RM}{N:By}{f:Er}{t:Es}{G:Eu}{H:Hp}{E:XK}{D:Da}{vs:Di}(S:zy N ps scope)(hd:A.handled=Ee)(g:oE P w K mg dX A outer s H)(hl:`vs=`ps)(r:zb vs D)(x:InCallC s ⇑s (bindL (MI qual scope ⇑s f t).kindOf (ps.zip D) λ_=>Ee) (cellsFrom (⇑s+1) scope.names []) (bindC (MI qual scope ⇑s f t).kindOf (ps.zip D) λ_=>Ee) G):Inv (GX CX P w K mg dX N qual scope f t A outer s H E) [] (start N vs) H G:=by
 let J:`ps<=`N:=by have:=congrArg List.length S.pre;rw[Z8]at this;lia
 let#[h1,Q,rfl,hk]:=x.done;let j:∀b,b∉(GX CX P w K mg dX N qual scope f t A outer s H E).ex:=λb z=>absurd (show b∈[]from z) (by simp);let:=#[#[g.mod,S.kind,Ej,Ej,ZG _,λy z c h1 h2=>?_,λy n=>?_,λy c _ h=>?_,λ_=>hd,Around.frames_deeper g.frames,.inr #[Ej,Ej],λb z=>absurd z<|j b,g.bs,g.bsz,λb _ _=>j b,λb z=>absurd z<|j b,g.sW,g.frf],Ej,g.bare,Un.kept hk,#[_,x.toInCall.ns,λi y v h1 h2 h3=>?_],λy c h=>#[_,x.cell y c h],g.hok.fresh<|ZG _,λy c h=>?_,λp l=>absurd (show p∈[]from l)<|by simp,g.hok.kept hk,?_];.let:=name_of_addr x.apart (JC h1)<|JC h2
 .rcases n with n|n;.let:=Kb n
  .let:=absurd rfl<|S.zwY _<|JC n
 .let:=Y3<|x.above y c<|JC h
 .let B:i<`vs:=by
   unfold start at h2;by_cases B:i<`vs;.let:=B
   simp_all[Yy,List.getElem?_replicate]
  let ha:vs[i]?=A0 v:=by unfold start at h2;rw[Yr<|by simpa using B]at h2;simp_all
  let#[u,F,L]:=r.get ha;let l:ps[i]?=A0 y:=by rwa[<-S.pre,List.getElem?_take_of_lt<|⋯]
  let o:=S.pre▸S.nd.sublist (V8 ..);let:=#[u,L,?_];rcases S.par y<|ZI l with k|k;.let:=.inl #[k,BP o l F k]
  .let#[c,e]:=Kb k;let:=.inr #[.inl k,c,e,?_];let q:=x.cell y c e;rw[Fe o l F<|by show scope.names.lookup y≠_;rw[k];decide]at q;let:=q
 .let:=g.hok.fresh<|Y3<|x.above y c<|JC h
 .unfold start;show _=`N;rw[ZS,ZA,List.length_replicate];lia
def bz{CX:RM}{k:Nat}{f:Er}{name:Str}{params:Arguments}{Z kV l pm c ct oc:Es}{X od:Option Er}{L:Array Db}{N:By}{sp:Sp}(lk:K.lookup f=A0 #[oc,od,.func<|Le name qual params body scope Z kV l pm X c ct,L])(D:LL K c qual=Eg)(S:zy N ps scope)(len:∀vs H Q E,sp vs H Q E->`vs=`ps)(DV:∀(A:EL)(outer:List Env)(s:Eu)(H:Hp)(vs:Di)(Q:VK)(E:XK),xj k (A.deeper<|MI qual scope ⇑s f c)->sp vs H Q E->∃t,pB (GX CX P w K mg dX N qual scope f c A outer s H E) body t/\t {nx:=λ_ H'=>Q .non H',rt:=Q} (start N vs) H):zj P w K mg dX CX (k+1) f (Le name qual params body scope Z kV l pm X c ct) ps sp:=by
 let:=#[len,λA outer s H Y us vs Q E F p hb r B=>?_];let hl:=len _ _ _ _ B;let U:=p.mod.kin.keeps λb o e=>(p.bs b o e).1;let G:=p.mod.nolimit.keeps λb o e=>(p.bs b o e).1;let i:∀y∈ps.zip us,scope.names.lookup y.1=A0 _\/scope.names.lookup y.1=A0 _/\((cellsFrom (⇑s+1) _ []).lookup y.1).isSome=Eg:=λ⟨n,v⟩ hy=>by
  rcases S.par n (Vs hy).1 with q|q;.let:=.inl q
  .let:=.inr #[q,V7 _ _ _<|.inl q]
 let:=codeAny_call_function F.depth (U _ _ lk) rfl S.co S.gen rfl (PySem.W.codeRec_of U D)<|hb _ _ _ _<|wpAny_newFunctionEnv_cells S.kind i λenv he s1 x=>?_;subst he;let:=#[G.keeps x.toInCall.keep,codeAny_func ?_];let#[t,ht,hq]:=DV A _ s H vs Q E (F.deeper _) B;let I:Inv (GX CX P w K mg _ N qual _ f c A _ s H E) [] _ H s1:=BN S F.hd p hl r x;let:=YO (ht [] s1 _ H _ I hq) (λfl T j=>?_) λe T j=>j;let z:∀{g:St}{H':Hp}{v:V}{u:Es},Inv (GX CX P w K mg dX N qual scope f c A _ s H E) [] g H' T->yu v u->Q v H'->CE outer P w H s Q u T:=λ{g H' v u}J R q=>#[v,H',J.os,J.bare,J.dX,J.hok,R,q];cases fl with|ret u=>let#[v,g,H',J,R,q]:=j;let:=z J R q|next=>let#[g,H',J,q]:=j;let:=z (v:=V.non) J rfl q|brk=>let#[_,_,_,q]:=j;trivial|cont=>let#[_,_,_,q]:=j;trivial
section
variable{X:Cx}{p:Pos}{e:ER}{t:TA}{id T:String}{r:Di->Hp->VK->Prop}
def gV(r:Di->Hp->VK->Prop)(t:TA):(TE):=λe H Q=>t e H λc b=>r c b Q
def zI(j:xq X (.builtin id) r)(n:Gl X x)(hm:X.mg x=Ee)(hv:LO x=A0 (.builtin id))(ha:PA X (e::es) t)(hn:x≠"__name__":=by decide)(b:(x==("__debug__":Str))=Ei:=by decide)(l:EI (e::es) X.env=(Ei,E8 e X.env)::EI es X.env:=by rfl)(c:(Lu pos<|EI es X.env).any (·.1)=Ei:=by rfl):PE X (.Call (.Name x p) (e::es) [] pos)<|gV r t:=by intro y s f H Q I h;let:=Jo<|uZ I n hm hv (Ul (CN (ha pos _ s f H _ I h) λv u ⟨w,g,i,q,o⟩=>j _ u f g w v Q i q o) l c) hn b
def zY(j:xq X (.type T) r)(n:Gl X x)(hm:X.mg x=Ee)(hv:LO x=A0 (.type T))(ha:PA X (e::es) t)(hn:x≠"__name__":=by decide)(b:(x==("__debug__":Str))=Ei:=by decide)(l:EI (e::es) X.env=(Ei,E8 e X.env)::EI es X.env:=by rfl)(c:(Lu pos<|EI es X.env).any (·.1)=Ei:=by rfl):PE X (.Call (.Name x p) (e::es) [] pos)<|gV r t:=by intro y s f H Q I h;let:=Jo<|uZ I n hm hv (Jt (CN (ha pos _ s f H _ I h) λv u ⟨w,g,i,q,o⟩=>j _ u f g w v Q i q o) l c) hn b
end
end L2
variable{X:L2.Cx}{Dl:L2.Dk}{te:L2.TE}{g:L2.TG}{wi:L2.TI}{tb:L2.TS}{tf:L2.TT}
namespace HT
open PySem PyProof.Rows
def zxX{t b:Er}{vs f:Da}(x:IsTup s.heap t vs.toArray)(hb:IsTup s.heap b f.toArray)(hv:vs≠[])(h1:f=[]->Q (.ref t) s)(h2:f≠[]->Q (.ref ⇑s) {s with heap:=s.heap.push {cls:=.type "tuple",data:=.seq (vs++f).toArray}})(hsz:`vs+`f<=sizeLine):EA (EC prog w) A (LS .Add (.ref t)<|.ref b) Q E s:=by
 let#[#[cls,u,data,sl],o,v,n,hd]:=id x;let#[#[r,g,p,l],c,i,n2,j]:=id hb;simp only at v hd i j;subst v hd i j;let e:vs.toArray++f.toArray=(vs++f).toArray:=by simp
 by_cases q:f=[];.let:=concat_meets #[_,o,Ej] #[_,c,Ej] noFill_tuple_add seq_tuple_add V9 V3 (VT ..) (tuple_addW1 t b _ _ n n2 u g sl l (by simpa using hv)<|by simp[q]) #[o,c,h1 q]
 .let:=concat_meets #[_,o,Ej] #[_,c,Ej] noFill_tuple_add seq_tuple_add V9 V3 (VT ..) (tuple_addW2 t b _ _ n n2 u g sl l (by simpa using hv) (by simp_all)<|Z7▸hsz) #[o,c,?_];rw[e];let:=h2 q
def ux(n d:Nat):(Option Int->Nat)|none=>d|some v=>if v<0 then(v+(n:Int)).toNat else min v.toNat n
def lG(n d:Nat):ux n d Ee=d:=rfl
def lU(n d k:Nat):ux n d (A0 (k:Int))=min k n:=rfl
def i6(n d:Nat)(hd:d<=n)(o:Option Int):ux n d o<=n:=by cases o with|none=>let:=hd|some v=>show(if v<0 then(v+n).toNat else min _ n)<=n;lia
def OF(v:Int)(n d:Nat):(if v<0 then max (v+(n:Int)) 0 else min v (n:Int))=((ux n d<|A0 v:Nat):Int):=by show(if v<0 then max _ 0 else min v n)=if v<0 then(v+n).toNat else min _ n;lia
def NA(lo b:Option Int)(n:Nat):Builtin.Slice.sliceAdjust lo b 1 (n:Int)=(((ux n 0 lo:Nat):Int),((ux n n b:Nat):Int)):=by
 let:=Mf ?_ ?_;.cases lo with|none=>rfl|some v=>let:=OF v n 0
 .cases b with|none=>rfl|some v=>let:=OF v n n
def Og(i j:Nat):Mm (i:Int) (j:Int) 1=j-i:=by unfold Mm;lia
def G5{v:Es}{o:Option Int}{Q:Option Int->Dg}(p:MY v o)(h:Q o s):EA (EC prog w) A (Builtin.Slice.slicePartIndex v) Q E s:=by cases p with|none=>let:=slicePart_none h|int i t=>let:=slicePart_int h
def jD{sl:Er}{f g:Es}{e:Option Int}{Q:Int×Int×Nat->Dg}(hs:s.heap.IsSliceOf sl f g .none)(j:MY f lo)(l:MY g e)(h:Q (((ux n 0 lo:Nat):Int),1,ux n n e-ux n 0 lo) s):EA (EC prog w) A (Builtin.Slice.sliceApplied (.ref sl)<|Lm (n:Int)) Q E s:=by let#[os,c,i,b]:=id hs;let:=Zz<|Zz<|Jb c b rfl<|Zz<|Jb c b rfl<|Zz<|Jb c b rfl<|ZF<|Zz<|slicePart_none<|Zz<|G5 j<|Zz<|G5 l<|Zz<|ZF ?_;show EA _ _ (match Builtin.Slice.sliceAdjust lo e 1 n with|(lo,e)=>Lm (lo,(1:Int),Mm lo e 1)) _ _ s;rw[NA lo e n];show EA _ _ (Lm _) _ _ s;rw[Og];let:=ZF h
def TR(xs:Array Es)(i k:Nat):((EK k).filterMap λ(m:Nat)=>xs[((i:Int)+(m:Int)*1).toNat]?).toArray=((xs.toList.drop i).take k).toArray:=by
 let e:(λ(m:Nat)=>xs[(i+(m:Int)*1).toNat]?)=λm=>xs[i+m]?:=by funext m;have:((i:Int)+m*1).toNat=i+m:=⋯;rw[this]
 rw[e];have:=pick_run xs i k;rw[List.filterMap_map]at this;let b:((λx=>xs[x]?)∘λx=>i+x)=λm=>xs[i+m]?:=rfl;simp_all
def tY{t sl:Er}{b:Array Es}{n o:Es}{e:Option Int}(f:IsTup s.heap t b)(hs:s.heap.IsSliceOf sl n o .none)(q:MY n lo)(r:MY o e)(u:¬(ux b.size 0 lo=0/\ux b.size b.size e=b.size))(h:Q (.ref ⇑s) {s with heap:=s.heap.push {cls:=.type "tuple",data:=.seq ((b.toList.drop<|ux b.size 0 lo).take<|ux b.size b.size e-ux b.size 0 lo).toArray}})(hsz:b.size<=sizeLine):EA (EC prog w) A (MS (.ref t)<|.ref sl) Q E s:=by
 let c:sizeOk<|.seq ((b.toList.drop<|ux b.size 0 lo).take<|ux b.size b.size e-ux b.size 0 lo).toArray:=by show((b.toList.drop _).take _).toArray.size<=sizeLine;rw[Z7,Z8,Vk,Ye];lia
 let#[os,l,i,p]:=id hs;let g:s.TypeIs (.ref sl) "slice":=#[os,l,i];unfold MS;try with_reducible let:=Ys ?_
 let:=Zz<|wpAny_sequenceKey f.typeIs ∅<|Zz<|YJ f.typeIs JE<|Yw JE f.typeIs entry_tuple_getitem ?_<|args_tuple_getitem _ _;show EA _ _ (Mg (.ref t)>>=_) _ _ s;let:=Zz<|tupleItemsOf_ f<|Zz<|J9 g ?_;rw[Z4<|∅];let:=Zz<|jD hs q r ?_;let j:¬(((ux b.size 0 lo:Nat):Int)==0&&(1:Int)==1&&ux b.size b.size e-ux b.size 0 lo==b.size)=Eg:=by simp_all[ZQ]
 show EA _ _ (if(((ux b.size 0 lo:Nat):Int)==0&&(1:Int)==1&&ux b.size b.size e-ux _ 0 lo==b.size)=Eg then _ else _) _ _ s;rw[ZX j,TR];first|let:=Zz<|YA (ZF #[_,Ej,ZF h]) c|let:=Zz _|let:=Zz _|let:=Zz _
end HT
namespace L2
open PySem PySem.Spec PyProof.Rows
abbrev TO:=St->Hp->(Option Int->Hp->Prop)->Prop
def PO(X:Cx)(e:Option ER)(t:TO):(Prop):=∀(c:Dd)(s:Eu)(b:St)(H:Hp)(Q:Option Int->Hp->Prop),Inv X c b H s->t b H Q->EA (EC X.prog X.w) X.A (evalPart e X.env) (λu g=>∃o f,Inv X c b f g/\MY u o/\Q o f) X.xe s
def Pu:(TO):=λ_ H Q=>Q Ee H
def bN(t:TE):(TO):=λc H Q=>t c H λx b=>∃i,x=.int i/\Q (A0 i) b
section
variable{e:ER}{lo hi:Option ER}{tl th:TO}{p2:Pos}
def xA:PO X Ee Pu:=by intro b s c H Q I h;let:=ZF #[_,H,I,.none,h]
def yC(h:PE X e te):PO X (A0 e)<|bN te:=by intro n s l H Q I f;let:=CN (h _ s l H _ I f) λu o ⟨x,b,c,j,g⟩=>?_;let#[i,rfl,q]:=g;let#[t,rfl]:=j;let:=#[_,b,c,.int i t,q]
def FD(X:Cx)(r:V->Option Int->Option Int->Hp->VK->Prop):(Prop):=∀(b:Dd)(s:Eu)(f:St)(H:Hp)(x:V)(v c e:Es)(lo hi:Option Int)(sl:Er)(Q:VK),Inv X b f H s->yu x v->s.heap.IsSliceOf sl c e .none->MY c lo->MY e hi->r x lo hi H Q->∃T id,typeLookup (.type T) "__getitem__"=Lm (A0<|.builtin id)/\s.TypeIs v T/\EA (EC X.prog X.w) X.A (MS v<|.ref sl) (EP X b f Q) X.xe s
def jz(r:V->Option Int->Option Int->Hp->VK->Prop)(te:TE)(tl th:TO):(TE):=λb H Q=>te b H λx c=>tl b c λl e=>th b e λu f=>r x l u f Q
def yA(E:FD X r)(B:PE X e te)(hl:PO X lo tl)(G:PO X hi th):PE X (.Subscript e (.Slice lo hi Ee p2) pos)<|jz r te tl th:=by intro f s c H Q I h;let:=Subscript_<|CN (B _ s c H _ I h) λv S ⟨x,o,t,R,L⟩=>wpAny_Slice<|CN (hl _ S c o _ t L) λj s2 ⟨l,p,w,J,N⟩=>CN (G f s2 c p _ w N) λn i ⟨u,g,y,K,P⟩=>ZF ?_;let z:Inv X f c g {i with heap:=i.heap.push {cls:=.type "slice",data:=.fields #v[j,n,.none]}}:=y.kept λb ob q=>ZE _ q;let#[T,id,A,F,D]:=E f _ c g x v j n l u _ Q z R (Heap.IsSliceOf.new ..) J K P;let:=tail_any F A D<|by rfl
def Xn(xs:Di)(lo hi:Option Int):(Di):=(xs.drop<|HT.ux `xs 0 lo).take<|HT.ux `xs `xs hi-HT.ux `xs 0 lo
def kD(xs:Di)(lo hi:Option Int):↑(Xn xs lo hi)<=`xs:=by unfold Xn;rw[Z8,Vk];lia
inductive zx9(K:CK)(x:V)(y:V)(H:Hp)(Q:VK):Prop|mk(a:_)(b:_)(xs:_)(ys:_)(h0:x=.ref a)(h1:y=.ref b)(h2:yq K H a xs)(h3:yq K H b ys)(h4:xs≠[])(h5:`xs+`ys<=sizeLine)(h6:ys=[]->Q (.ref a) H)(h7:ys≠[]->∀p,H p=Ee->Q (.ref p) (upd H p<|.tup<|xs++ys)):zx9 K x y H Q
def zb.oX(r:zb xs us):us=[]↔xs=[]:=by cases r<;>simp_all
def ag:CW X (LS .Add)<|zx9 X.K:=by intro t s B H x y v u Q I p r h;let#[a,b,xs,A,rfl,rfl,ha,hb,g,i,n,o]:=h;cases p;cases r;let#[j,e,l,_]:=I.tuple ha;let#[f,c,p2,_]:=I.tuple hb;let:=HT.zxX l p2 (λz=>g<|e.oX.mp z) (λz=>#[.ref a,H,I,Ej,n<|c.oX.mp z]) (λz=>#[.ref _,_,I.laid (λb ob q=>ZE _ q) (ZG _) ?_,Ej,o (λw=>z<|c.oX.mpr w) _<|I.hok.fresh<|ZG _]) (by rwa[<-`e,<-`c]);let:=#[ZS▸i,_,e.append c,TupAt.new ..]
end
def bE(n:Nat)(i:Int):(Option Nat):=if 0<=i then if i<n then A0 i.toNat else Ee else if-(n:Int)<=i then A0 (i+n).toNat else Ee
def FG{α:Type}(xs:List α)(i:Int):(Option α):=(bE `xs i).bind λj=>xs[j]?
def OU{i:Int}{j:Nat}(h:bE n i=A0 j):seqIndex? i n=A0 j/\j<n/\-(n:Int)<=i/\i<n:=by
 unfold bE at h;by_cases b:0<=i
 .rw[Z4 b]at h;by_cases h1:i<n;.rw[Z4 h1]at h;grind[seqIndex_of]
  simp_all[ZX]
 .rw[ZX b]at h;by_cases h1:-n<=i;.rw[Z4 h1]at h;grind[seqIndex_neg]
  .simp_all[ZX]
def FH{i:Int}{α:Type}{xs:List α}{v:α}(h:FG xs i=A0 v):∃j,seqIndex? i `xs=A0 j/\xs[j]?=A0 v/\j<`xs/\-(`xs:Int)<=i/\i<`xs:=by unfold FG at h;cases e:bE _ i with|none=>rw[e]at h;cases h|some j=>rw[e]at h;let#[h1,h2,h3,h4]:=OU e;let:=#[j,h1,h,h2,h3,h4]
def xB{α:Type}{xs:List α}{j:Nat}{v:α}(h:xs[j]?=A0 v):FG xs (j:Int)=A0 v:=by
 let b:=(ZW.mp h).1;let e:bE `xs j=A0 j:=by unfold bE;simp_all
 unfold FG;rwa[e]
def FB(b:ER):(Prop):=∀o i,subscripted b Ei o i=operate [o,i] (MS o i)
def ip(X:Cx)(r:R2):(Prop):=∀(c b:ER)(e:Dd)(s:Eu)(f:St)(H:Hp)(x y:V)(v u:Es)(Q:VK),Inv X e f H s->yu x v->yu y u->r x y H Q->subscripted b Ei v u=operate [v,u] (MS v u)->EA (EC X.prog X.w) X.A (subscriptTail c b v u) (EP X e f Q) X.xe s
def bt(X:Cx)(id:String)(r:V->Di->Hp->VK->Prop):(Prop):=∀(b:Dd)(s:Eu)(e:St)(H:Hp)(x:V)(xs:Di)(v:Es)(c:Da)(Q:VK),Inv X b e H s->yu x v->zb xs c->r x xs H Q->EA (EC X.prog X.w) X.A (call (.builtin id)<|v::c) (EP X b e Q) X.xe s
section
variable{a b:ER}{ta tb:TE}
def Fu(f:ip X r)(ha:PE X a ta)(hb:PE X b tb)(hs:FB b:=by let:=λ_ _=>rfl):PE X (.Subscript a b pos)<|Pw r ta tb:=by intro l s j H Q I h;let:=Subscript_<|ci ha hb I h λv u s2 x y c e g i q=>f a b _ s2 j c x y v u Q e g i q<|hs ..
inductive zxR(K:CK)(x y:V)(H:Hp)(Q:VK):Prop|mk(p:Er)(xs:Di)(i:Int)(v:V)(e:x=.ref p)(f:y=.int i)(h:yp K H p xs)(a:FG xs i=A0 v)(q:Q v H):zxR K x y H Q
inductive zxL(K:CK)(x y:V)(H:Hp)(Q:VK):Prop|mk(p:Er)(xs:Di)(i:Int)(v:V)(e:x=.ref p)(f:y=.int i)(h:yq K H p xs)(a:FG xs i=A0 v)(q:Q v H):zxL K x y H Q
inductive zvW(x y:V)(H:Hp)(Q:VK):Prop|mk(z:Str)(i:Int)(c:Nat)(e:x=.str z)(f:y=.int i)(l:`z<=sizeLine)(a:FG z.cps.toList i=A0 c)(q:Q (.str #[#v[c]]) H):zvW x y H Q
def WW:ip X<|zxR X.K:=by
 intro n l D s J H x y v u Q I F G h B;let#[p,xs,i,z,rfl,rfl,hq,E,q]:=h;cases F;let#[t,rfl]:=G;let#[e,r,f,L]:=I.list hq;let#[j,h1,h2,h3,h4,h5]:=FH E;let#[w,o,g]:=r.get h2;let hl:=`r;let hn:=sG;let b:EP X D J Q w s:=#[z,H,I,g,q];by_cases A:0<=i
 .let c:=by rw[seqIndex_of A h5]at h1;let:=dI h1
  let:=item_listR f.isList A ⋯ (by rw[c];simpa using o) b B
 .let c:(i+e.toArray.size).toNat=j:=by simp_all[seqIndex_neg]
  let:=subscriptTail_builtinR f.isList.typeIs slot_list_getitem.lookup (wpAny_getItem_list_neg f.isList ⋯ (by rw[Z7]<;>lia) ⋯ (by rw[c];simpa using o) #[Ej,b]) B
def cM:ip X<|zxL X.K:=by intro f e F s E H x y v u Q I B D h o;let#[p,xs,i,z,rfl,rfl,hq,n,q]:=h;cases B;let#[t,rfl]:=D;let#[A,r,g,G]:=I.tuple hq;let#[j,h1,h2,h3,h4,h5]:=FH n;let#[w,l,c]:=r.get h2;let hl:=`r;let hn:=sG;let b:EP X _ E Q w s:=#[z,H,I,c,q];let:=subscriptTail_builtinR g.typeIs slot_tuple_getitem.lookup (getItem_tuple g ⋯ ⋯ (by rwa[Z7,<-hl]) (by simpa using l) #[Ej,b]) o
def F5:ip X zvW:=by
 intro e b o s w H x y v u Q I l n h g;let#[z,i,c,rfl,rfl,p,f,q]:=h;let#[t,rfl]:=l;let#[r,rfl]:=n;let#[j,h1,h2,h3,h4,h5]:=FH f;let hl:`z.cps.toList=`z:=by simp[Str.length]
 rw[hl]at h1 h4 h5;let hn:=sG;let:=tail_any (V0 s z t) slot_str_getitem.lookup (getItem_str ⋯ (by rw[h1];simpa using h2) #[.str _,H,I.tok _,#[_,Ej],q]) g
def N0(b:Da)(n j:Nat)(u:Es):Lg (·.setIfInBounds j u) {cls:=.type "list",data:=.seq b.toArray n}={cls:=.type "list",data:=.seq (b.set j u).toArray n}:=by simp[Lg]
def Inv.lst{p:Er}{xs:Di}(I:Inv X Dp σ H s)(h:H p=A0 (.lst xs)):∃(its:Da)(n:Nat),zb xs its/\s.heap.get? p=A0 {cls:=.type "list",data:=.seq its.toArray n}/\`xs<=sizeLine:=by let#[z,its,n,r,e]:=I.hok p _ h;let:=#[its,n,r,e,z]
def Inv.zx1{p:Er}{xs ys:Di}{c g:Da}{f:Obj->Obj}(I:Inv X Dp σ H s)(h:H p=A0 (.lst xs))(l:s.heap.get? p=A0 {cls:=.type "list",data:=.seq c.toArray n})(j:f {cls:=.type "list",data:=.seq c.toArray n}={cls:=.type "list",data:=.seq g.toArray i})(r:zb ys g)(o:`ys<=sizeLine)(t:Nat):Inv X Dp σ (upd H p<|.lst ys) {s with heap:=s.heap.update p f,toks:=t}:=by
 let e:(s.heap.update p f).get? p=A0 {cls:=.type "list",data:=.seq g.toArray i}:=by rw[Yt f l<|by rw[j]<;>rfl,j]
 let:=I.write (by rw[h];trivial) (.inl rfl) (λb u hb q=>(Yq _ _<|EG hb).trans q) #[_,e] #[o,_,i,r,e]
inductive zz6(o:V)(i:V)(v:V)(H:Hp)(Q:Hp->Prop):Prop|mk(p:_)(xs:_)(k:_)(j:_)(h0:o=.ref p)(h1:i=.int k)(h2:H p=A0 (.lst xs))(h3:bE `xs k=A0 j)(h4:Q<|upd H p<|.lst<|xs.set j v):zz6 o i v H Q
def set_list:fu X zz6:=by
 intro z s E H o i v D B u Q I x w y h;let#[p,xs,k,j,rfl,rfl,g,l,q]:=h;cases x;let#[t,rfl]:=w;let#[b,n,r,c,A]:=I.lst g;let#[h1,h2,h3,h4]:=OU l;let hl:=`r;let hn:=sG;let e:=I.zx1 g c (N0 b n j u) (r.set y j) (by rwa[List.length_set]) s.toks;by_cases f:0<=k
 .let hk:=by rw[seqIndex_of f h4]at h1;let:=dI h1
  let:=PySem.W.ki_setAt c f ⋯ (by simp_all[Z7])<|hk▸#[_,e,q]
 .let hk:(k+b.toArray.size).toNat=j:=by simp_all[seqIndex_neg]
  let:=PySem.W.ki_setBack c ⋯ (by simp_all[Z7]) ⋯<|hk▸#[_,e,q]
def Hy(lo b:Option Int)(n:Nat):(Mw lo b Ee n).1=((HT.ux n 0 lo:Nat):Int)/\(Mw lo b Ee n).2.1=((HT.ux n n b:Nat):Int)/\(Mw lo b Ee n).2.2=1:=by
 let:=#[?_,?_,Ej];.cases lo with|none=>simp[Mw,HT.ux]|some i=>
   simp only[Mw,HT.ux,Option.getD_none,show(1:Int)>0 by decide,if_true];by_cases h:i<0;.simp only[h,if_true]<;>lia
   .simp only[h,if_false]<;>lia
 .cases b with|none=>simp[Mw,HT.ux]|some i=>
   simp only[Mw,HT.ux,Option.getD_none,show(1:Int)>0 by decide,if_true];by_cases h:i<0;.simp only[h,if_true]<;>lia
   .simp only[h,if_false]<;>lia
def Be(b:Da)(lo c:Option Int):slicePick b.toArray lo c Ee=((b.drop<|HT.ux `b 0 lo).take<|HT.ux `b `b c-HT.ux `b 0 lo).toArray:=by let#[h1,h2,h3]:=Hy lo c _;unfold slicePick;rw[h1,h2,h3];simp only[sliceRange_one,pick_run]<;>rfl
inductive zwP(K:CK)(x:V)(lo:Option Int)(hi:Option Int)(H:Hp)(Q:VK):Prop|mk(a:_)(xs:_)(h0:x=.ref a)(h1:yp K H a xs)(h2:∀p,H p=Ee->Q (.ref p) (upd H p<|.lst<|Xn xs lo hi)):zwP K x lo hi H Q
def zxK:FD X<|zwP X.K:=by intro t s y H x v u w lo f sl Q I p g n o h;let#[a,xs,rfl,i,q]:=h;cases p;let#[l,r,c,j]:=I.list i;let e:=`r;let:=#["list",_,slot_list_getitem.lookup,c.isList.typeIs,wpAny_getItem_list_slice c.isList g n o .none (by simp) ?_<|by grind];rw[Be,<-e];let:=#[.ref _,_,I.laid (λb ob q=>ZE _ q) (ZG _) ?_,Ej,q _<|I.hok.fresh<|ZG _];let:=#[Yz (kD xs lo f) j,_,0,(r.drop _).take _,ZL _ rfl]
def zN:xq X (.builtin "len") λxs H Q=>∃p ys,xs=[.ref p]/\(yp X.K H p ys\/yq X.K H p ys)/\Q (.int `ys) H:=by
 intro j s n H xs l Q I r h;let#[p,ys,rfl,hq,q]:=h;let#[u,rfl,i]:=wW r;cases i;let hn:=sG;rcases hq with hq|hq;.let#[c,f,e,g]:=I.list hq;let b:=`f;let:=Calls.call_len_list e.isList (by simp only[Z7]<;>lia) #[.int _,H,I.tok _,#[_,by rw[Z7,b]],q]
 .let#[c,f,e,g]:=I.tuple hq;let b:=`f;let:=len_tuple e (by simp only[Z7]<;>lia) #[.int _,H,I.tok _,#[_,by rw[Z7,b]],q]
def jJ:xq X (.builtin "len") λxs H Q=>∃z,xs=[.str z]/\`z<=sizeLine/\Q (.int `z) H:=by intro b s f H xs e Q I r h;let#[z,rfl,c,q]:=h;let#[u,rfl,t,rfl]:=wW r;let hn:=sG;let:=len_str ⋯ #[.int _,H,I.tok _,#[_,Ej],q]
def xq.or(h:xq X f r)(g:xq X f r'):xq X f λxs H Q=>r xs H Q\/r' xs H Q:=by
 intro i s e H xs c Q I b q;rcases q with q|q;.let:=h _ s e H xs c Q I b q
 .let:=g _ s e H xs c Q I b q
def xX:xq X (.type "list") λxs H Q=>∃p ys,xs=[.ref p]/\(yp X.K H p ys\/yq X.K H p ys)/\∀l,H l=Ee->Q (.ref l) (upd H l<|.lst ys):=by
 intro A s E H xs F Q I r h;let#[p,ys,rfl,hq,q]:=h;let#[u,rfl,D]:=wW r;cases D;let g:∀c,zb ys c->`ys<=sizeLine->∀i y,(∀b z,s.heap.get? b=A0 z->i.get? b=A0 z)->i.get? ⇑s=A0 _->EP X A E Q _ {s with heap:=i}:=λc f j i y kp e=>#[.ref _,_,I.laid kp (ZG _)<|show xx X.prog X.w _ i _<|.lst ys from#[j,c,y,f,e],Ej,q _<|I.hok.fresh<|ZG _];rcases hq with hq|hq;.let#[c,f,x,j]:=I.list hq;let B:=`f;let#[o,v,t,n,hd]:=x.isList;let:=call_list_seq p (.inl rfl) v t hd (g c f j)<|by simp only[Z7]<;>lia
 .let#[c,f,x,j]:=I.tuple hq;let B:=`f;let#[o,v,t,n,hd]:=x;let:=call_list_seq p (.inr rfl) v t hd (g c f j)<|by grind
def xZ:xq X (.type "tuple") λxs H Q=>∃p ys,xs=[.ref p]/\((yp X.K H p ys/\∀l,H l=Ee->Q (.ref l) (upd H l<|.tup ys))\/yq X.K H p ys/\Q (.ref p) H):=by
 intro v s A H xs z Q I r h;let#[p,ys,rfl,h]:=h;let#[u,rfl,t]:=wW r;cases t;rcases h with⟨hq,q⟩|⟨hq,q⟩;.let#[c,g,f,j]:=I.list hq;let x:=`g;let:=call_tuple_list f.isList (λy kp=>?_) (by simp_all);let i:=I.kept (t':=s.toks) kp;let n:=i.laid (t':=s.toks) (λb o e=>ZE _ e) (ZG _)<|show xx _ X.w _ _ _<|.tup ys from#[j,c,g,TupAt.new ..];let:=#[.ref _,_,n,Ej,q _<|i.hok.fresh<|ZG _]
 .let#[c,g,f,j]:=I.tuple hq;let:=call_tuple_same f #[.ref p,H,I,Ej,q]
def iE(K:CK)(T:String)(x:V)(H:Hp):(Prop):=match x with|.str _=>T="str"|.int _=>T="int"|.ref p=>(T="list"/\∃xs,yp K H p xs)\/(T="tuple"/\∃o,K.lookup p=A0 o/\o.cls=.type "tuple"/\o.dict=Ee)\/T="dict"/\((∃b,H p=A0 (.dK b))\/∃b,H p=A0 (.dT b))\/T="set"/\∃S n,H p=A0 (.set S n)|_=>False
def Wr{x:V}(I:Inv X Dp σ H s)(r:yu x v)(ty:iE X.K T x H):
  s.TypeIs v T/\∀a,v=.ref a->∃ob,s.heap.get? a=A0 ob/\ob.dict=Ee:=by cases x with|str z=>let#[t,rfl]:=r;cases ty;let:=#[V0 s z t,λ_ e=>nomatch e]|int i=>let#[t,rfl]:=r;cases ty;let:=#[typeIs_int s i t,λ_ e=>nomatch e]|ref p=>
  cases r;rcases ty with⟨rfl,xs,hq⟩|⟨rfl,o,hk,hc,hd⟩|⟨rfl,hk⟩|⟨rfl,S,n,hk⟩;.let#[g,_,f,_]:=I.list hq;let:=#[f.isList.typeIs,λa e=>?_];cases e;let#[o,n,e,c,hd,_]:=f;let:=#[o,e,hd]
  .let:=#[#[o,I.sJ p o hk,hc],λa e=>?_];cases e;let:=#[o,I.sJ _ o hk,hd]
  .let z:∃o,s.heap.get? p=A0 o/\o.ExactDict:=by
    rcases hk with⟨Dl,hk⟩|⟨Dl,hk⟩;.let#[_,_,_,_,o,_,_,e,ex,_]:=I.hok p _ hk;let:=#[o,e,ex]
    .let#[_,_,_,_,o,_,_,e,ex,_]:=I.hok p _ hk;let:=#[o,e,ex]
   let#[o,e,ex]:=z;let:=#[#[o,e,ex.1],λa b=>?_];cases b;let:=#[o,e,ex.2.1]
  .let#[o,_,_,_,e,ex,_]:=I.hok p _ hk;let:=#[#[o,e,ex.1],λa b=>?_];cases b;let:=#[o,e,ex.2.1]|_=>let:=E4 ty
def gU(K:CK)(T:String)(r:V->Di->Hp->VK->Prop)(c:TE):(TE):=λe H Q=>c e H λx b=>iE K T x b/\r x [] b Q
def jx(K:CK)(T:String)(r:V->Di->Hp->VK->Prop)(f:TE)(t:TA):(TE):=λc H Q=>f c H λx b=>iE K T x b/\t c b λxs e=>r x xs e Q
variable{o e:ER}{to:TE}{t:TA}{name:Str}{Dr:Pos}{T id:String}{r:V->Di->Hp->VK->Prop}
def Oc(n:PlainAttrs T)(slot:Slot T name id)(b:typeOf (.builtin id)=Lm (.type "method_descriptor"))(hm:bt X id r)(l:PE X o to)(g:Lx o name X.env (E8 o X.env)=E8 o X.env:=by rfl)(i:(Ds.endLine==Dr.line)=Eg:=by rfl):PE X (.Call (.Attribute o name Ds) [] [] Dr)<|gU X.K T r to:=by intro u s f H Q I h;let:=V4 g i<|CN (l _ s f H _ I h) λv q t=>?_;let#[x,j,c,e,ty,p]:=t;let#[h1,h2]:=Wr c e ty;let:=#[T,id,n,slot,b,h1,h2,Lb rfl<|Uz<|hm _ q f j x [] v [] Q c e .nil p]
def xV(B:PlainAttrs T)(slot:Slot T name id)(f:typeOf (.builtin id)=Lm (.type "method_descriptor"))(hm:bt X id r)(A:PE X o to)(ha:PA X (e::es) t)(n:Lx o name X.env (E8 o X.env)=E8 o X.env:=by rfl)(b:((Lu Dr<|EI (e::es) X.env).all (λx=>!x.1)&&(backToKw Dr<|Mv [] X.env).all (λx=>x.1.isSome)&&decide (↑(e::es)+↑([]:List Keyword)+(if([]:List Keyword).isEmpty then 0 else 1)<30))=Eg:=by rfl)(p:(Ds.endLine==Dr.line)=Eg:=by rfl)(hs:EI (e::es) X.env=(Ei,E8 e X.env)::EI es X.env:=by rfl)(c:(Lu Dr<|EI es X.env).any (·.1)=Ei:=by rfl)(z:X.K=K:=by rfl):PE X (.Call (.Attribute o name Ds) (e::es) [] Dr)<|jx K T r to t:=by subst z;intro q s g H Q I h;let:=wpAny_Call_method_late n b p rfl<|CN (A _ s g H _ I h) λv G N=>?_;let#[x,u,i,l,ty,D]:=N;let#[h1,h2]:=Wr i l ty;let:=#[T,id,B,slot,f,h1,h2,?_];let j:=ha Dr _ G g u _ i D;rw[hs]at j ⊢;let:=Lb (by trivial)<|LH<|CN j λJ s2 ⟨L,w,y,F,E⟩=>hm q s2 g w x L v J Q y l F E
end
def iq(X:Cx)(id:String)(r:V->Di->Hp->VK->Prop):(Prop):=∀(b:Dd)(s:Eu)(e:St)(H:Hp)(x:V)(xs:Di)(v:Es)(c:Da)(Q:VK),Inv X b e H s->yu x v->zb xs c->r x xs H Q->EA (EC X.prog X.w) X.A (call (.builtin id)<|v::c) (EP X b e Q) X.xe s
def zb.one{x:V}(h:zb [x] us):∃u,us=[u]/\yu x u:=by cases h with|cons r t=>cases t;let:=#[_,Ej,r]
def zb.zero:∀{us:Da},zb [] us->us=[]|_,.nil=>rfl
def zb.dropLast(h:zb xs us):zb xs.dropLast us.dropLast:=by induction h with|nil=>let:=.nil|cons r t ih=>cases t with|nil=>let:=.nil|cons q t'=>let:=.cons r ih
def zb.reverse(h:zb xs us):zb xs.reverse us.reverse:=by induction h with|nil=>let:=.nil|cons r t ih=>rw[List.reverse_cons,List.reverse_cons];let:=zb.append ih<|.cons r .nil
def zb.rep(h:zb xs us):∀k:Nat,zb (EN k xs).flatten (EN k us).flatten|0=>.nil|k+1=>zb.append h<|zb.rep h k
def cA{α:Type}(l:List α):l.eraseIdx (`l-1)=l.dropLast:=by simp
def foldl_rep(b:Da):∀(k:Nat)(acc:Da),List.foldl (λx1 x2=>x1++x2) acc.toArray (EN k b.toArray)=(acc++(EN k b).flatten).toArray|0,acc=>by simp|k+1,acc=>by simp[List.replicate_succ,foldl_rep]
section
variable{σ:St}{H:Hp}{l b:Er}{xs ys zs:Di}
def Inv.zy2{b c:Da}{f:Array Es->Array Es}(I:Inv X Dp σ H s)(g:H l=A0 (.lst xs))(e:s.heap.get? l=A0 {cls:=.type "list",data:=.seq b.toArray n})(i:f b.toArray=c.toArray)(hv:zb ys c)(o:`ys<=sizeLine):Inv X Dp σ (upd H l<|.lst ys) {s with heap:=s.heap.update l<|Lg f,toks:=t'}:=by let q:=PySem.IsL.update e f;rw[i]at q;let:=I.write (by rw[g];trivial) (.inl rfl) (λp u hb j=>(Yq _ _<|EG hb).trans j) #[_,q] #[o,_,_,hv,q]
def Inv.zy6(I:Inv X Dp σ H s)(hv:zb ys its)(b:`ys<=sizeLine):Inv X Dp σ (upd H ⇑s<|.lst ys) {s with heap:=s.heap.push {cls:=.type "list",data:=.seq its.toArray},toks:=t'}:=I.laid (λ_ _ q=>ZE _ q) (ZG _) #[b,its,0,hv,ZL _ rfl]
def Inv.fresh(I:Inv X Dp σ H s):H ⇑s=Ee:=I.hok.fresh<|ZG _
def Inv.lC(I:Inv X Dp σ H s)(b:H l=A0 (.lst xs)):`xs<=sizeLine/\∃(its:Da)(n:Nat),zb xs its/\`xs=`its/\s.heap.get? l=A0 {cls:=.type "list",data:=.seq its.toArray n}:=by let#[z,its,n,r,e]:=I.hok l _ b;let:=#[z,its,n,r,`r,e]
def KW(h:n<=sizeLine):Mr n=Ei:=ZZ ⋯
end
inductive mD(x:V)(vs:Di)(H:Hp)(Q:VK):Prop|mk(l:Er)(xs:Di)(y:V)(e:x=.ref l)(f:vs=[y])(h:H l=A0 (.lst xs))(z:`xs<sizeLine)(q:Q .non<|upd H l<|.lst<|xs++[y]):mD x vs H Q
def yJ:iq X "list.append" mD:=by intro j s w H x t v p Q I i g h;let#[l,xs,y,rfl,rfl,b,o,q]:=h;cases i;let#[u,rfl,f]:=g.one;let#[z,c,n,r,hl,e]:=I.lC b;let:=JZ F.slot_list_append #[_,e,Ej] F.entry_list_append (F.args_list_append_2 ..) (PySem.list_append l _ n u<|by grind) #[e,.non,_,I.zy2 b e (by simp) (r.append<|.cons f .nil) ?_,Ej,q];grind
inductive zwV(x:V)(vs:Di)(H:Hp)(Q:VK):Prop|mk(l:_)(xs:_)(y:_)(h0:x=.ref l)(h1:vs=[])(h2:H l=A0 (.lst xs))(h3:xs[`xs-1]?=A0 y)(h4:Q y<|upd H l<|.lst xs.dropLast):zwV x vs H Q
def Tj:iq X "list.pop" zwV:=by
 intro t s D H x B v A Q I p o h;let#[l,xs,y,rfl,rfl,g,i,q]:=h;cases p;let c:=o.zero;subst c;let#[z,b,n,r,hl,e]:=I.lC g;let#[u,w,j]:=r.get i;let f:=by show b.toArray[`b-1]?=A0 u;simp_all[YU]
 let:=JZ F.slot_list_pop #[_,e,Ej] F.entry_list_pop (F.args_list_pop_1 _) (MeetsSeq.list_pop_last l _ n u f<|by rw[Z7];lia) #[e,y,_,I.zy2 g e ?_ r.dropLast ?_,j,q];.simp
 .rw[List.length_dropLast];lia
inductive nQ(x:V)(vs:Di)(H:Hp)(Q:VK):Prop|mk(l:_)(xs:_)(h0:x=.ref l)(h1:vs=[])(h2:H l=A0 (.lst xs))(h3:Q .non<|upd H l<|.lst xs.reverse):nQ x vs H Q
def N2:iq X "list.reverse" nQ:=by intro j s t H x p v o Q I i g h;let#[l,xs,rfl,rfl,c,q]:=h;cases i;let b:=g.zero;subst b;let#[z,f,n,r,hl,e]:=I.lC c;let:=JZ F.slot_list_reverse #[_,e,Ej] F.entry_list_reverse (F.args_list_reverse_1 _) (AutoSeq1.list_reverse_list_0 l _ n<|by grind) #[e,.non,_,I.zy2 c e (by simp) r.reverse ?_,Ej,q];simp_all
inductive zy3(x:V)(y:V)(H:Hp)(Q:VK):Prop|mk(l:_)(b:_)(xs:_)(zs:_)(h0:x=.ref l)(h1:y=.ref b)(h2:H l=A0 (.lst xs))(h3:H b=A0 (.lst zs))(h4:`xs+`zs<=sizeLine)(h5:∀p,H p=Ee->Q (.ref p) (upd H p<|.lst<|xs++zs)):zy3 x y H Q
def v5:CW X (LS .Add) zy3:=by
 intro B s G H x y v u Q I w A h;let#[l,b,xs,F,rfl,rfl,o,j,D,q]:=h;cases w;cases A;let#[z,f,n,r,hl,e]:=I.lC o;let#[E,c,n2,t,p,g]:=I.lC j;let:=PySem.P.add_list e g ?_ (by grind);let i:f.toArray++c.toArray=(f++c).toArray:=by simp
 rw[i];let:=#[.ref _,_,I.zy6 (r.append t)<|by rw[ZS];lia,Ej,q _ I.fresh]
inductive zx0(x:V)(y:V)(H:Hp)(Q:VK):Prop|mk(l:_)(k:_)(xs:_)(h0:x=.ref l)(h1:y=.int k)(h2:H l=A0 (.lst xs))(h3:-2^63<=k)(h4:k<2^63)(h5:`xs*k.toNat<=sizeLine)(h6:∀p,H p=Ee->Q (.ref p) (upd H p<|.lst (EN k.toNat xs).flatten)):zx0 x y H Q
def len_rep{α:Type}(xs:List α)(k:Nat):(EN k xs).flatten.length=k*`xs:=by simp
def N8:CW X (LS .Mult) zx0:=by
 intro G s K H x y v u Q I w A h;let#[l,k,xs,rfl,rfl,p,h1,h2,J,q]:=h;cases w;let#[t,rfl]:=A;let#[z,b,n,r,hl,e]:=I.lC p;let i:b.toArray.size*k.toNat<=sizeLine:=by rwa[Z7,<-hl]
 let c:¬b.toArray.size*k.toNat>(2^63-1)/8:=by have:sizeLine<=(2^63-1)/8:=∅;lia
 let f:¬(!Builtin.List.listFitsIndex k)=Eg:=by simp_all[fitsIndex_both]
 let j:=KW i▸Yf;let g:List.foldl (λD E=>D++E) #v[] (EN (if b.toArray.isEmpty=Eg then 0 else k.toNat) b.toArray)=(EN k.toNat b).flatten.toArray:=by
  let o:=λm=>by have:=foldl_rep b m [];rw[VX]at this;let:=this
  rw[o];cases b<;>simp_all
 let:=wpAny_binaryOp_repeat_ref ∅ #[_,e,Ej] (λB=>typeIs_int B k t) noFill_list_mul F.fills_int_mul F.slot_int_rmul repeat_list F.slot_int_index.lookup<|JZ F.slot_int_rmul (typeIs_int s k t) F.entry_int_rmul (F.args_int_rmul_2 ..) (int___rmul___int_list k t l b.toArray n) #[e,Ej,#[_,e,Ej],JZ F.slot_list_mul #[_,e,Ej] F.entry_list_mul (F.args_list_mul_2 ..) (AutoListH.list___mul___list_int_3 l _ n k t f c j) #[e,?_]];rw[g];let:=#[.ref _,_,I.zy6 (r.rep k.toNat)<|by rwa[len_rep,Nat.mul_comm],Ej,q _ I.fresh]
section
variable{κ:Type}[DecidableEq κ]
def U0(Dl:List<|κ×V)(k:κ):(Option V):=(Dl.find? λkv=>decide<|kv.1=k).map (·.2)
def yh(Dl:List<|κ×V)(k:κ)(v:V):(List<|κ×V):=if Dl.any λkv=>decide<|kv.1=k=Eg then Dl.map λkv=>if kv.1=k then(kv.1,v)else kv else Dl++[(k,v)]
def y7{p:κ×V}{r:List<|κ×V}{k:κ}(e:p.1=k):U0 (p::r) k=A0 p.2:=by simp[U0,e]
def y9{p:κ×V}{r:List<|κ×V}{k:κ}(e:¬p.1=k):U0 (p::r) k=U0 r k:=by simp[U0,e]
def x9(k:κ):∀Dl:List<|κ×V,Dl.any λkv=>decide<|kv.1=k=(U0 Dl k).isSome
 |[]=>rfl|p::r=>by
  rw[List.any_cons];by_cases e:p.1=k;.simp only[y7 e,ZK e,Bool.true_or,Option.isSome_some]
  .rw[y9 e,ZZ e];let:=x9 k r
def Nw(k j:κ)(y:V):∀Dl:List<|κ×V,U0 (Dl.map λkv=>if kv.1=k then(kv.1,y)else kv) j=(U0 Dl j).map λx=>if j=k then y else x
 |[]=>rfl|p::r=>by
  let b:=Nw k j y r;rw[Z9];by_cases h:p.1=k
  .rw[Z4 h];by_cases e:p.1=j;.rw[y7 (p:=(p.1,y)) e,y7 e,J6,Z4<|e.symm.trans h]
   .rw[y9 (p:=(p.1,y)) e,y9 e,b]
  .rw[ZX h];by_cases e:p.1=j;.rw[y7 e,y7 e,J6,ZX<|λz=>h<|e.trans z]
   .rw[y9 e,y9 e,b]
def BZ(k j:κ)(y:V):∀Dl:List<|κ×V,U0 Dl k=Ee->U0 (Dl++[(k,y)]) j=if j=k then A0 y else U0 Dl j
 |[],_=>by
  by_cases e:k=j;.rw[Z4 e.symm];let:=y7 e
  .rw[ZX<|λz=>e z.symm];let:=y9 e|p::r,hn=>by
  let hk:¬p.1=k:=λz=>by simp_all[y7]
  rw[y9 hk]at hn;let b:=BZ k j y r hn;by_cases e:p.1=j;.simp_all[y7]
  simp_all[y9]
def Ny(Dl:List<|κ×V)(k j:κ)(y:V):U0 (yh Dl k y) j=if j=k then A0 y else U0 Dl j:=by
 unfold yh;by_cases a:Dl.any λkv=>decide<|kv.1=k=Eg
 .rw[Z4 a,Nw];rw[x9]at a;by_cases e:j=k;.let#[x]:=Yx.mp a;simp_all
  simp_all
 .rw[ZX a];let:=BZ k j y Dl ?_;simp_all[x9]
def xD(Dl:List<|κ×V)(k:κ)(v:V):↑(yh Dl k v)<=`Dl+1:=by unfold yh;grind
def Gj{Dl:List<|κ×V}{k:κ}(v:V)(h:U0 Dl k=Ee):yh Dl k v=Dl++[(k,v)]:=by unfold yh;rw[x9,h];rfl
def sU.tQ(r:sU o u):o.isSome=u.isSome:=by cases o with
 |none=>cases u with|none=>rfl|some _=>let:=r.elim
 |some _=>cases u with|none=>let:=r.elim|some _=>rfl
def sU.getD(r:sU o u)(rd:yu d d'):yu (o.getD d)<|u.getD d':=by cases o with
 |none=>cases u with|none=>let:=rd|some _=>let:=r.elim
 |some _=>cases u with|none=>let:=r.elim|some _=>let:=r
def KV.val{Dl:List<|κ×V}{vs:List<|κ×Es}(r:KV Dl vs)(k:κ):sU (U0 Dl k)<|valueAt vs k:=by induction r with|nil=>trivial|@cons p q ps qs h t ih=>
  let#[h1,h2]:=h;by_cases e:p.1=k
  .let c:=h1.symm.trans e;let b:valueAt (q::qs) k=A0 q.2:=by simp[valueAt,c]
   rwa[y7 e,b]
  simp_all[valueAt,y9]
def KV.any{Dl:List<|κ×V}{vs:List<|κ×Es}(r:KV Dl vs)(k:κ):Dl.any λkv=>decide<|kv.1=k=vs.any λkv=>decide<|kv.1=k:=by induction r<;>simp_all
def KV.repl{Dl:List<|κ×V}{vs:List<|κ×Es}(r:KV Dl vs)(k:κ){y:V}{u:Es}(b:yu y u):KV (Dl.map λkv=>if kv.1=k then(kv.1,y)else kv)<|vs.map λkv=>if kv.1=k then(kv.1,u)else kv:=by induction r with|nil=>let:=.nil|@cons p q ps qs h t ih=>
  rw[Z9,Z9];let:=.cons ?_ ih;let#[h1]:=h;by_cases e:p.1=k;.rw[Z4 e,Z4<|h1.symm.trans e];trivial
  .rw[ZX e,ZX<|λz=>e<|h1.trans z];trivial
def KV.put{Dl:List<|κ×V}{vs:List<|κ×Es}(r:KV Dl vs)(k:κ){y:V}{u:Es}(b:yu y u):KV (yh Dl k y)<|stored vs k u:=by
 unfold yh stored;rw[r.any k];by_cases e:vs.any λkv=>decide<|kv.1=k=Eg;.rw[Z4 e,Z4 e];let:=r.repl k b
 .rw[ZX e,ZX e];let:=Paired.snoc r #[Ej,b]
def KV.length{Dl:List<|κ×V}{vs:List<|κ×Es}(r:KV Dl vs):`Dl=`vs:=`Paired r
end
def v9(r:yu (kV k) u):(yx P w).is k u=Eg:=by cases k with|inl i=>let#[t,e]:=r;subst e;let:=KP P w i t|inr x=>let#[t,e]:=r;subst e;let:=KQ P w x t
def BF{P:Et}{w:Ey}:∀{ks:List Key}{us:Da},zb (ks.map kV) us->ItemsAre (yx P w) ks us|[],_,r=>by cases r;let:=.nil|k::ks,_,r=>by cases r with|cons h t=>let:=.cons (v9 h)<|BF t
abbrev KT(H:Hp):List (List Key×V)->List (List Key×Er×Es)->Prop:=Lo λp q=>p.1=q.1/\H q.2.1=A0 (.tup<|p.1.map kV)/\yu p.2 q.2.2
def KT.val{Dl:List<|List Key×V}(r:KT H Dl xs)(k:List Key):sU (U0 Dl k) ((atKey xs k).map (·.2)):=by induction r with|nil=>trivial|@cons p q ps qs h t ih=>
  let#[h1,_,h2]:=h;by_cases e:p.1=k
  .let c:=h1.symm.trans e;let b:atKey (q::qs) k=A0 q.2:=by simp[atKey,c]
   rwa[y7 e,b]
  simp_all[atKey,y9]
def KT.repl{Dl:List<|List Key×V}(r:KT H Dl xs)(k:List Key){y:V}{u:Es}(b:yu y u):KT H (Dl.map λkv=>if kv.1=k then(kv.1,y)else kv)<|xs.map<|putAt k u:=by induction r with|nil=>let:=.nil|@cons p q ps qs h t ih=>
  rw[Z9];let:=.cons ?_ ih;let#[h1,h2,h3]:=h;unfold putAt;by_cases e:p.1=k;.rw[Z4 e,Z4<|h1.symm.trans e];trivial
  .rw[ZX e,ZX<|λz=>e<|h1.trans z];trivial
def KT.put{Dl:List<|List Key×V}(r:KT H Dl xs)(k:List Key){b:Er}{y:V}{u:Es}(hb:H b=A0 (.tup<|k.map kV))(c:yu y u):KT H (yh Dl k y)<|storedH xs k b u:=by
 let e:Dl.any λkv=>decide<|kv.1=k=(atKey xs k).isSome:=by rw[x9,(r.val k).tQ,Vy]
 unfold yh storedH;rw[e];by_cases q:(atKey xs k).isSome=Eg;.rw[Z4 q,Z4 q];let:=r.repl k c
 .rw[ZX q,ZX q];let:=Paired.snoc r #[Ej,hb,c]
def KT.keeps{Dl:List<|List Key×V}{c:Hp}(r:KT H Dl xs)(e:∀b ys,H b=A0 (.tup ys)->c b=A0 (.tup ys)):KT c Dl xs:=Paired.zwG r λ_ _ z=>#[z.1,e _ _ z.2.1,z.2.2]
section
variable{H:Hp}{h:EH}{a:Er}
def bI(ok:rK P w H h)(e:Rd H a u):xx P w H h a u:=e.ok ok
def v8(ok:rK P w H h)(e:Rd H a<|.dK Dl):`Dl<=sizeLine/\(a==E6)=Ei/\∃vs,KV Dl vs/\h.DictOf (yx P w) a vs:=bI ok e
def R8(ok:rK P w H h)(e:H a=A0 (.dK Dl)):`Dl<=sizeLine/\(a==E6)=Ei/\∃vs,KV Dl vs/\h.DictOf (yx P w) a vs:=v8 ok<|.inl e
def vP{b:List Key}(ok:rK P w H h)(e:H a=A0 (.tup<|b.map kV)):(tupleKind<|yx P w).is h b a:=by let#[_,c,r,o,h1,h2,n,h3,_]:=ok a _ e;let:=#[o,_,n,h1,h2,h3,by simpa using BF r]
def Ia{Dl:List<|List Key×V}(ok:rK P w H h)(e:Rd H a<|.dT Dl):`Dl<=sizeLine/\(a==E6)=Ei/\∃xs,KT H Dl xs/\h.DictOfH (tupleKind<|yx P w) a xs:=by
 let#[z,y,xs,r,o,f,c,h1,h2,h3,h4,h5]:=bI ok e;let:=#[z,y,xs,r,o,f,c,h1,h2,h3,h4,λx b=>?_,h5];let all:∀{l:List _}{m:List _},KT H l m->∀x∈m,(tupleKind<|yx P w).is h x.1 x.2.1:=by intro l m q;induction q with|nil=>simp|@cons p q ps qs hq t ih=>
   intro x b;rcases ZJ.mp b with e|b;.let:=vP ok<|by simp_all
   .let:=ih x b
 let:=all r x b
def fL{Dl:List<|List Key×V}(ok:rK P w H h)(e:H a=A0 (.dT Dl)):`Dl<=sizeLine/\(a==E6)=Ei/\∃xs,KT H Dl xs/\h.DictOfH (tupleKind<|yx P w) a xs:=Ia ok<|.inl e
end
def wu(H:Hp)(a:Er)(y:V)(r:Option V):(Prop):=(∃c k,Rd H a (.dK c)/\y=kV k/\r=U0 c k)\/∃c k b,Rd H a (.dT c)/\y=.ref b/\H b=A0 (.tup<|k.map kV)/\r=U0 c k
def tV(H:Hp)(a:Er)(y v:V)(e:Hp):(Prop):=(∃c k,H a=A0 (.dK c)/\y=kV k/\`c<sizeLine/\e=upd H a (.dK<|yh c k v))\/∃c k b,H a=A0 (.dT c)/\y=.ref b/\H b=A0 (.tup<|k.map kV)/\`c<sizeLine/\e=upd H a (.dT<|yh c k v)
def wu.k{H:Hp}{a:Er}{Dl:Dk}{k:Key}(e:H a=A0 (.dK Dl)):wu H a (kV k)<|U0 Dl k:=.inl #[Dl,k,.inl e,Ej,Ej]
def tV.k{H:Hp}{a:Er}{Dl:Dk}{k:Key}(e:H a=A0 (.dK Dl))(hl:`Dl<sizeLine):tV H a (kV k) v<|upd H a<|.dK<|yh Dl k v:=.inl #[Dl,k,e,Ej,hl,Ej]
section
variable{σ:St}{H:Hp}{a:Er}{y v:V}{u r:Es}{o:Option V}
def Inv.big(I:Inv X Dp σ H s):E6<⇑s:=by let h:=(I.mod.glob.keeps I.bk).lt;let:=Nat.lt_trans ∅ h
def PR(r:A.units+1<Ld)(I:Inv X Dp σ H s)(g:wu H a y<|some v)(o:yu y u)(h:∀w' s',Inv X Dp σ H s'->yu v w'->Q w' s'):EA (EC X.prog X.w) A (MS (.ref a) u) Q E s:=by
 rcases g with⟨Dl,k,e,ey,l⟩|⟨Dl,k,b,e,ey,eb,l⟩;.subst ey;let#[z,hd,t,c,i]:=v8 I.hok e;let#[w',n,f]:=sU.some_of<|l▸c.val k;let:=wpAny_getItem_of (v9 o) i.mapOf n<|h w' _ (I.tok _) f
 .subst ey;cases o;let#[z,hd,xs,c,i]:=Ia I.hok e;let#[w',n,f]:=sU.some_of<|l▸c.val k;let#[p,q,j]:=Z2.mp n;let:=wpAny_getItem_heap (J0 r) (vP I.hok eb) i q ?_;rw[j];let:=h w' _ (I.tok _) f
def iN(j:A.units+1<Ld)(I:Inv X Dp σ H s)(g:wu H a y o)(i:yu y u)(h:∀s',Inv X Dp σ H s'->Q (.bool o.isSome) s'):EA (EC X.prog X.w) A (EZ .In u<|.ref a) Q E s:=by
 rcases g with⟨Dl,k,e,ey,l⟩|⟨Dl,k,b,e,ey,eb,l⟩;.subst ey;let#[z,hd,n,c,f]:=v8 I.hok e;let:=wpAny_in_of (v9 i) hd f.mapOf ?_;rw[<-(c.val k).tQ,<-l];let:=h _<|I.tok _
 .subst ey;cases i;let#[z,hd,xs,c,f]:=Ia I.hok e;let:=wpAny_in_heap (J0 j) (vP I.hok eb) hd f ?_;let q:=(c.val k).tQ;rw[Vy]at q;rw[<-q,<-l];let:=h _<|I.tok _
def WL(j:A.units+1<Ld)(I:Inv X Dp σ H s)(g:wu H a y o)(i:yu y u)(h:∀s',Inv X Dp σ H s'->Q (.bool<|!o.isSome) s'):EA (EC X.prog X.w) A (EZ .NotIn u<|.ref a) Q E s:=by
 rcases g with⟨Dl,k,e,ey,l⟩|⟨Dl,k,b,e,ey,eb,l⟩;.subst ey;let#[z,hd,n,c,f]:=v8 I.hok e;let:=wpAny_notIn_of (v9 i) hd f.mapOf ?_;rw[<-(c.val k).tQ,<-l];let:=h _<|I.tok _
 .subst ey;cases i;let#[z,hd,xs,c,f]:=Ia I.hok e;let:=wpAny_notIn_heap (J0 j) (vP I.hok eb) hd f ?_;let q:=(c.val k).tQ;rw[Vy]at q;rw[<-q,<-l];let:=h _<|I.tok _
def vT{c:EH}(I:Inv X Dp σ H s)(f:bW<|H a)(hs:EW a s.heap c)(e:∃q,c.get? a=A0 q)(new:xx X.prog X.w (upd H a ob) c a ob):Inv X Dp σ (upd H a ob) {s with heap:=c,toks:=t'}:=I.write f (.inl rfl) (λb q hb z=>(hs.2 b hb).trans z) e new
def FV{e:Hp}{c:EH}(z:`Dl<=sizeLine)(hd:(a==E6)=Ei)(b:KV Dl vs)(dd:c.DictOf (yx P w) a vs):xx P w e c a<|.dK Dl:=#[z,hd,vs,b,dd]
def PU{Q:Unit->Dg}(G:A.units+1<Ld)(I:Inv X Dp σ H s)(g:tV H a y v H')(t:yu y u)(p:yu v r)(h:∀s',Inv X Dp σ H' s'->Q () s'):EA (EC X.prog X.w) A (setItem (.ref a) u r) Q E s:=by
 rcases g with⟨Dl,k,e,ey,l,eH⟩|⟨Dl,k,b,e,ey,eb,l,eH⟩
 .subst ey eH;let#[z,hd,K,f,j]:=R8 I.hok e;let J:=`f▸z;let hl:↑(yh Dl k v)<=sizeLine:=by have:=xD Dl k v;lia
  let:=wpAny_setItem_pairs (v9 t) j λo i n=>h _ ?_;let F:∃q,o.get? a=A0 q:=let#[q,_,_,hq,_]:=i;#[q,hq];let:=vT I (e▸Ls) n F<|FV hl hd (f.put k p) i
 .subst ey eH;cases t;let#[z,hd,xs,f,j]:=fL I.hok e;let J:=`Paired f▸z;let hl:↑(yh Dl k v)<=sizeLine:=by have:=xD Dl k v;lia
  let:=wpAny_setItem_heap (J0 G) (vP I.hok eb) j λo i n=>h _ ?_;let#[q,D,B,hq,h2,h3,h4,_,h5]:=i;let:=vT I (e▸Ls) n #[q,hq] #[hl,hd,_,(f.put k eb p).keeps λc L x=>?_,q,D,B,hq,h2,h3,h4,h5];rwa[zH<|gz x e<|λz=>nomatch z]
end
def WC(i:ER):(Prop):=∀c b,subscripted i Ei c b=operate [c,b] (MS c b)
def HC{c b:ER}{T id:String}(hl:typeLookup (.type T) "__getitem__"=Lm (A0<|.builtin id))(hs:WC b)(h:EA (EC prog w) A (E8 c env) (λo s₁=>EA (EC prog w) A (E8 b env) (λi s₂=>s₂.TypeIs o T/\EA (EC prog w) A (MS o i) Q E s₂) E s₁) E s):EA (EC prog w) A (E8 (.Subscript c b pos) env) Q E s:=by let:=Subscript_<|YO h (λo s₁ g=>YO g (λi s₂ e=>?_) λ_ _ x=>x) λ_ _ x=>x;let#[n,e]:=e;let:=Zz<|Zz<|JS n hl ?_;let l:EA (EC prog w) A (subscripted b Ei o i) (λr f=>EA (EC prog w) A (letTemporaryGo c o r>>=λ_=>Lm r) Q E f) E s₂:=hs o i▸wpAny_operating (YO e (λr f j=>Zz<|wpAny_letTemporaryGo<|ZF j) λ_ _ x=>x);first|let:=ZF<|Zz l|rfl|rfl
def Ki{y:V}(I:Inv X Dp σ H s)(g:wu H a y o):s.TypeIs (.ref a) "dict":=by
 rcases g with⟨Dl,k,e,_,_⟩|⟨Dl,k,b,e,_⟩;.let#[_,_,f,_,c]:=v8 I.hok e;let:=c.typeIs
 .let#[_,_,xs,_,c]:=Ia I.hok e;let:=c.typeIs
inductive DgR(x y:V)(H:Hp)(Q:VK):Prop|mk(a:Er)(v:V)(e:x=.ref a)(g:wu H a y<|some v)(q:Q v H):DgR x y H Q
def gW(f ty:TE):(TE):=λb H Q=>f b H λx c=>ty b c λy e=>DgR x y e Q
def bJ(i ty j:TE):(TS):=λD b H=>j b H λv e=>i b e λx f=>ty b f λy g=>∃a c,x=.ref a/\tV g a y v c/\D.nx b c
section
variable{o i e value:ER}{DH:Pos}{td ty tv:TE}
def IH(r:X.A.units+1<Ld)(q:PE X o td)(p:PE X i ty)(hs:WC i):PE X (.Subscript o i pos)<|gW td ty:=by intro G s e H Q I h;let:=HC PySem.F.slot_dict_getitem.lookup hs<|CN (q _ s e H _ I h) λu D ⟨x,f,l,z,t⟩=>CN (p _ D e f _ l t) λJ s2 E=>?_;let#[y,j,c,B,a,v,ex,g,w]:=E;subst ex;obtain rfl:u=EO a:=z;let:=#[Ki c g,PR r c g B λL K n b=>#[v,j,n,b,w]]
def y6(w:X.A.units+1<Ld)(t:PE X o td)(q:PE X i ty)(hv:PE X value tv)(hs:Mj value (A0<|.Subscript o i DH) pos.line X.env=Lm Ei):PS X (.Assign [.Subscript o i DH] value pos)<|bJ td ty tv:=by intro N s b H D I h;let:=wpAny_Assign_Subscript (CN (hv _ s b H _ I h) λr K ⟨v,c,j,F,z⟩=>CN (t _ K b c _ j z) λu s2 ⟨x,e,l,G,B⟩=>CN (q _ s2 b e _ l B) λQ R L=>?_) hs;let#[y,P,n,J,a,f,ex,g,E]:=L;subst ex;obtain rfl:u=EO a:=G;let:=PU w n g J F λS p=>#[b,f,p,E]
end
def Kk(h:EH)(hb:E6<h.objs.size):xx P w H (h.push {cls:=.type "dict",data:=.dict #v[]}) h.objs.size<|.dK []:=#[Yk _,JB.mpr<|EG<|ZU hb,[],.nil,Heap.DictOf.new h]
def eG:(TE):=λ_ H Q=>∀p,H p=Ee->Q (.ref p) (upd H p<|.dK [])
def yU:PE X (.Dict [] [] pos) eG:=λb s c H Q I h=>wpAny_Dict_empty #[.ref _,_,I.laid (λ_ _ q=>ZE _ q) (ZG _)<|Kk _ I.big,Ej,h _<|I.hok.fresh<|ZG _]
def Os:(List (TE×TE)->St->Hp->(List (V×V)->Hp->Prop)->Prop)|[],_,H,Q=>Q [] H|(tk,tv)::r,σ,H,Q=>tk σ H λx b=>tv σ b λy c=>Os r σ c λf e=>Q ((x,y)::f) e
abbrev VV:List (V×V)->List (Es×Es)->Prop:=Lo λp q=>yu p.1 q.1/\yu p.2 q.2
def iu(X:Cx)(pos:Pos)(keys:List<|Option ER)(b:List ER)(c:List<|TE×TE):(Prop):=∀(f:Dd)(s:Eu)(e:St)(H:Hp)(Q:List (V×V)->Hp->Prop),Inv X f e H s->Os c e H Q->EA (EC X.prog X.w) X.A (evalPairs<|pairTrees keys b X.env pos) (λl j=>∃i g,Inv X f e g j/\VV i l/\Q i g) X.xe s
def aI:iu X pos [] [] []:=λb s c H Q I h=>pairTrees_nil_walk #[[],H,I,.nil,h]
def TU(hk:PE X k tk)(hv:PE X v tv)(n:iu X pos ks vs trs):iu X pos (A0 k::ks) (v::vs)<|(tk,tv)::trs:=λz s c H Q I h=>pairTrees_cons_walk<|CN (hk _ s c H _ I h) λu w ⟨x,e,i,r,o⟩=>CN (hv _ w c e _ i o) λD s2 ⟨y,f,j,t,p⟩=>CN (n _ s2 c f _ j p) λE B ⟨A,g,l,b,q⟩=>#[_,g,l,.cons #[r,t] b,q]
def GG(Dl more:Dk):(Dk):=more.foldl (λb kv=>yh b kv.1 kv.2) Dl
def KV.merge:∀{more:Dk}{rs:List<|Key×Es}{Dl:Dk}{vs:List<|Key×Es},KV more rs->KV Dl vs->KV (GG Dl more) (merged vs rs):=by intro more rs Dl vs r;induction r generalizing Dl vs with|nil=>intro q;let:=q|@cons p q ps qs h t ih=>
  intro b;let e:KV (yh Dl p.1 p.2)<|stored vs q.1 q.2:=by have:=b.put p.1 h.2;rwa[<-h.1]
  let:=ih e
def kM:∀(more Dl:Dk),↑(GG Dl more)<=`Dl+`more|[],Dl=>by show`Dl<=`Dl+0;lia|p::r,Dl=>by let h1:=kM r<|yh Dl p.1 p.2;let h2:=xD Dl p.1 p.2;show(GG _ r).length<=_;grind
def GE{P:Et}{w:Ey}:∀{Dl:Dk}{ws:List<|Es×Es},VV (Dl.map λkv=>(kV kv.1,kv.2)) ws->∃rs,Carries (yx P w) ws rs/\KV Dl rs|[],_,r=>by cases r;let:=#[[],Ls,.nil]|p::Dl,_,r=>by cases r with|@cons a b as bs h t=>let#[rs,c,q]:=GE (P:=P) (w:=w) t;let#[f,e]:=b;let:=#[(p.1,e)::rs,#[v9 h.1,Ej,c],.cons #[Ej,h.2] q]
def gY(c:List<|TE×TE):(TE):=λg H Q=>∀p,H p=Ee->Os c g (upd H p<|.dK []) λf e=>e p=A0 (.dK [])/\∃b:Dk,f=b.map (λkv=>(kV kv.1,kv.2))/\`b<=15/\Q (.ref p) (upd e p<|.dK<|GG [] b)
def ar(h:iu X pos keys values trs)(f:keys.all (·.isSome)=Eg)(hl:`keys=`values)(u:keys≠[])(g:`keys<=15):PE X (.Dict keys values pos)<|gY trs:=by
 intro n s G H Q I q;let hn:=I.hok.fresh<|ZG _;let o:=I.laid (t':=s.toks) (λ_ _ q=>ZE _ q) (ZG _)<|Kk _ I.big;let:=wpAny_Dict_walk (knd:=yx _ X.w) f hl u g<|CN (h n _ G _ _ o<|q _ hn) λN s2 F=>?_;let#[L,J,l,i,e,j,r,K,A]:=F;subst r;let#[D,c,rk]:=GE i;let#[z,hd,E,B,p]:=R8 l.hok e;cases B;let:=#[D,c,p,λt b x=>#[.ref _,_,?_,Ej,A]];let y:↑(GG [] j)<=sizeLine:=by let h1:=kM j [];grind[Y2]
 let v:∃q,t.get? _=A0 q:=let#[q,_,_,hq,_]:=b;#[q,hq];let:=vT l (e▸Ls) x v<|FV y hd (rk.merge .nil) b
structure M1(X:Cx)(o:ER)(m:Str)(Ds:Pos)(e:ER)(Dr:Pos):Prop where
 dX:Lx o m X.env (E8 o X.env)=E8 o X.env
 few:((Lu Dr<|EI [e] X.env).all (λx=>!x.1)&&(backToKw Dr<|Mv [] X.env).all (λx=>x.1.isSome)&&decide (↑([e]:List ER)+↑([]:List Keyword)+(if([]:List Keyword).isEmpty then 0 else 1)<30))=Eg
 line:(Ds.endLine==Dr.line)=Eg
 trees:Lu Dr (EI [e] X.env)=[(Ei,E8 e X.env)]
structure M2(X:Cx)(o:ER)(m:Str)(Ds:Pos)(e f:ER)(Dr:Pos):Prop where
 dX:Lx o m X.env (E8 o X.env)=E8 o X.env
 few:((Lu Dr<|EI [e,f] X.env).all (λx=>!x.1)&&(backToKw Dr<|Mv [] X.env).all (λx=>x.1.isSome)&&decide (↑([e,f]:List ER)+↑([]:List Keyword)+(if([]:List Keyword).isEmpty then 0 else 1)<30))=Eg
 line:(Ds.endLine==Dr.line)=Eg
 trees:Lu Dr (EI [e,f] X.env)=[(Ei,E8 e X.env),(Ei,E8 f X.env)]
def im(H:Hp)(a:Er):(Prop):=(∃b,Rd H a<|.dK b)\/∃b,Rd H a<|.dT b
def NQ(I:Inv X Dp σ H s)(d:im H a):s.TypeIs (.ref a) "dict"/\(∀b,EO a=.ref b->∃ob,s.heap.get? b=A0 ob/\ob.dict=Ee)/\(a==E6)=Ei:=by
 rcases d with⟨Dl,e⟩|⟨Dl,e⟩;.let#[_,hd,f,_,c]:=v8 I.hok e;let:=#[c.typeIs,λb q=>?_,hd];cases q;let#[ob,_,_,h1,h2,_]:=c;let:=#[ob,h1,h2.2.1]
 .let#[_,hd,xs,_,c]:=Ia I.hok e;let:=#[c.typeIs,λb q=>?_,hd];cases q;let#[ob,_,_,h1,h2,_]:=c;let:=#[ob,h1,h2.2.1]
section
variable{σ:St}{H:Hp}{a:Er}{y d:V}{u r:Es}{o:Option V}
def cp(j:A.units+1<Ld)(I:Inv X Dp σ H s)(g:wu H a y o)(i:yu y u)(h:∀w' s',Inv X Dp σ H s'->yu (o.getD .non) w'->Q w' s'):EA (EC X.prog X.w) A (call (.builtin "dict.get") [.ref a,u]) Q E s:=by
 rcases g with⟨Dl,k,e,ey,l⟩|⟨Dl,k,b,e,ey,eb,l⟩;.subst ey;let#[z,hd,n,c,f]:=v8 I.hok e;let:=Vq JG f.typeIs Vr (PySem.F.args_dict_get_2 _ _) (meets_dict_get _ a (v9 i) hd) #[_,f.mapOf,h _ _ (I.tok _) ?_];rw[l];let:=(c.val k).getD rfl
 .subst ey;cases i;let#[z,hd,xs,c,f]:=Ia I.hok e;let:=Vq JG f.typeIs Vr (PySem.F.args_dict_get_2 _ _) (meetsH_dict_get _ a b hd) #[J0 j,k,xs,vP I.hok eb,f,h _ _ (I.tok _) ?_];rw[l];let:=(c.val k).getD rfl
def cq(j:A.units+1<Ld)(I:Inv X Dp σ H s)(g:wu H a y o)(i:yu y u)(rd:yu d r)(h:∀w' s',Inv X Dp σ H s'->yu (o.getD d) w'->Q w' s'):EA (EC X.prog X.w) A (call (.builtin "dict.get") [.ref a,u,r]) Q E s:=by
 rcases g with⟨Dl,k,e,ey,l⟩|⟨Dl,k,b,e,ey,eb,l⟩;.subst ey;let#[z,hd,n,c,f]:=v8 I.hok e;let:=Vq JG f.typeIs Vr (PySem.F.args_dict_get_3 ..) (meets_dict_get_default _ a (v9 i) hd r) #[_,f.mapOf,h _ _ (I.tok _) ?_];rw[l];let:=(c.val k).getD rd
 .subst ey;cases i;let#[z,hd,xs,c,f]:=Ia I.hok e;let:=Vq JG f.typeIs Vr (PySem.F.args_dict_get_3 ..) (meetsH_dict_get_default _ a b hd r) #[J0 j,k,xs,vP I.hok eb,f,h _ _ (I.tok _) ?_];rw[l];let:=(c.val k).getD rd
end
def eE(f ty:TE):(TE):=λe H Q=>f e H λx b=>∃a,x=.ref a/\im b a/\ty e b λy c=>∃o,wu c a y o/\Q (o.getD .non) c
def eF(g ty i:TE):(TE):=λb H Q=>g b H λx c=>∃a,x=.ref a/\im c a/\ty b c λy f=>i b f λz e=>∃o,wu e a y o/\Q (o.getD z) e
section
variable{o e f:ER}{Dr:Pos}{td ty tx:TE}
def j0(r:X.A.units+1<Ld)(q:PE X o td)(p:PE X e ty)(m:M1 X o "get" Ds e Dr):PE X (.Call (.Attribute o "get" Ds) [e] [] Dr)<|eE td ty:=by intro J s f H Q I h;let:=UP m.dX m.few m.line V5 JG PySem.F.type_dict_get<|CN (q _ s f H _ I h) λu B G=>?_;let#[x,i,c,w,a,ex,d,t]:=G;subst ex;obtain rfl:u=EO a:=w;let#[D,E,_]:=NQ c d;let:=#[D,E,?_];rw[m.trees];let:=Lb rfl<|LH<|Ly<|CN (p _ B f i _ c t) λK s2 ⟨y,j,l,z,L,g,v⟩=>Me<|cp r l g z λP N n b=>#[_,j,n,b,v]
def GA(B:X.A.units+1<Ld)(w:PE X o td)(t:PE X e ty)(v:PE X f tx)(m:M2 X o "get" Ds e f Dr):PE X (.Call (.Attribute o "get" Ds) [e,f] [] Dr)<|eF td ty tx:=by intro T s c H Q I h;let:=UP m.dX m.few m.line V5 JG PySem.F.type_dict_get<|CN (w _ s c H _ I h) λu N S=>?_;let#[x,j,i,J,a,ex,d,D]:=S;subst ex;obtain rfl:u=EO a:=J;let#[P,R,_]:=NQ i d;let:=#[P,R,?_];rw[m.trees];let:=Lb rfl<|LH<|Ly<|CN (t _ N c j _ i D) λY s2 ⟨y,l,p,K,E⟩=>Ly<|CN (v _ s2 c l _ p E) λU s3 ⟨z,n,q,L,Z,g,G⟩=>Me<|cq B q g K L λw' s4 r b=>#[_,n,r,b,G]
end
end L2
namespace Att
open PySem PySem.W PySem.Calls PyProof.Rows
def Ix{P:Params}{h:EH}:∀(ns:List Int)(vs:Da),WellAll P h vs (ns.map WData.int)->IntsAre vs ns:=by intro ns;induction ns with|nil=>intro vs w;cases w;let:=.nil|cons n ns ih=>intro vs w;cases w with|cons a b=>cases a;let:=.cons _ _<|ih _ b
def Rw{l:OpenLaw}(hn:l.most=A0 n){P:Params}{h:EH}{args:List WData}{c:Da}(b:l.row.toRowW.claim.pre args=Eg)(f:WellAll P h c args):∃a vs ns,c=[EO a]/\args=[WData.list<|ns.map WData.int]/\h.get? a=A0 {cls:=.type "list",data:=.seq vs.toArray}/\IntsAre vs ns/\`ns<=n:=by
 let e:=(pre_splitW b).1;let i:=(pre_splitW b).2;let#[d,r,rfl,h1,h2]:=hasAllW_cons e;obtain rfl:=hasAllW_nil h2;let#[xs,rfl,h3]:=hasW_list h1;let#[ns,rfl]:=items_int h3;let g:`ns<=n:=by
  let h4:=by let h4:=(holds_andW i).1;rw[hn]at h4;let:=h4
  let h5:=condW_of h4<|w_not<|w_lt w_lit<|w_len_list<|w_arg rfl;grind
 cases f with|cons w1 w2=>cases w2;cases w1 with|list ho hall=>let:=#[_,_,ns,Ej,Ej,ho,Ix ns _ hall,g]
def Ru(l:OpenLaw)(args:List WData):l.row.toRowW.claim.post args (.bool Eg) args=Eg:=postW_of (by rfl) (w_eq_bool (w_res rfl) w_lit) rfl
def zzY{l:OpenLaw}{q:Et}{b:By}{t:(Str->Db)->EH->Prop}{u:Ey->EH->Prop}{d:DefRec}(hn:l.most=A0 n)(j:d.params.defaults=[])(call:∀(w:Ey)(s₀ s₁:Eu)(mg mb:Str->Db)(fa:Er)(o:Obj)(pm cd doc:Es)(a:Er)(vs:Da)(ns:List Int),Ground q b [] t w s₀ mg mb s₁.heap->u w s₁.heap->s₁.heap.get? fa=A0 o->o.data=.func (docDef d.name d.params d.body d.scope pm cd doc)->s₁.heap.CodeRec cd d.name->mg d.name=A0 (.ref fa)->s₁.heap.get? a=A0 {cls:=.type "list",data:=.seq vs.toArray}->IntsAre vs ns->`ns<=n->s₁.gens=#v[]->LP (EC l.prog w) callerA (.call (.ref fa) #[[.ref a],[]]) (λr s'=>r=.ok (.ret<|.bool Eg)/\OldK s₁.heap s'.heap/\s'.os=s₁.os/\MQ s'.gens) s₁):WalkO q b t u l.row.toRowW d [] λf vs=>PySem.call f vs:=by intro w s₀ s₁ mg mb G Y fa o pm cd doc B kV F hd i x p D v z J g y H s E;obtain rfl:B=.none:=Dflts.none x j;obtain rfl:kV=.none:=Dflts.noKw x;let#[a,vs,ns,rfl,rfl,e,c,A]:=Rw hn g s;let:=enter_call<|JN (call w _ _ mg mb fa o pm cd doc a vs ns G Y F (fd_plain hd) i p e c A D) λr s' hq=>?_;let#[rfl,h2,h3,h4]:=hq;let:=#[.inl #[_,_,[],Ej,λ_=>rfl,.bool _,Ru l _,λ_=>#[List.Pairwise.nil,λ_ hm=>nomatch hm]],h2,h3,h4]
end Att
namespace L2
open PySem PySem.Spec PyProof.Rows
def Fy:∀{vs:Da}{ns:List Int},IntsAre vs ns->zb (ns.map V.int) vs|_,_,.nil=>.nil|_,_,.cons n t h=>.cons #[t,Ej]<|Fy h
def Only(H:Hp):(Prop):=∀b,H b=Ee\/∃o xs,H b=A0 (.frz o<|.lst xs)
def SO{N:Str->Db}{CX:RM}{k:Nat}{E a:Er}{T:Ew}{sp:Sp}{c:Eu}{vs:Da}(R:K.In c.heap)(p:c.heap.Ns ED mg)(hb:c.heap.Ns builtinsNs N)(J:∀x:Str,x≠"__name__"->N x=LO x)(n:c.heap.NoLimit)(hg:c.gens=#v[])(ha:c.heap.get? a=A0 {cls:=.type "list",data:=.seq vs.toArray})(X:IntsAre vs ns)(hl:`ns<=sizeLine)(hr:xj k callerA)(F:∀dX:EH,K.In dX->dX.Ns ED mg->zj P w K mg dX CX k E T [x] sp)(j:∀(s:Eu)(u:Es),BindsTo s T #[[u],[]] [(x,u)])(L:∀H:Hp,Only H->yp K H a (ns.map V.int)->sp [.ref a] H (λv _=>v=.bl Eg) λ_ _ _=>False)(G:∀H e s',CX [] H c (λ_ _ _=>False) e s'->False):LP (EC P w) callerA (.call (.ref E) #[[.ref a],[]]) (λr s'=>r=.ok (.ret<|.bool Eg)/\OldK c.heap s'.heap/\s'.os=c.os/\MQ s'.gens) c:=by
 let Y:=Fy X;let y:=`X;let i:∀H:Hp,Only H->yp K H a (ns.map V.int)->rK P w H c.heap->(∀b,H b≠Ee->b=a)->(H a≠Ee->K.lookup a=Ee)->LP (EC P w) callerA (.call (.ref E) #[[.ref a],[]]) (λr s'=>r=.ok (.ret<|.bool Eg)/\OldK c.heap s'.heap/\s'.os=c.os/\MQ s'.gens) c:=by
  intro H U hS hok hA hK;let f:∀{b:Er}{o:Obj},c.heap.get? b=A0 o->H b=Ee->(Kx c.heap H).get? b=A0 o:=Sy;let Q:∀{b:Er}{o:Obj}{D:Array Mx}{B:Nat},c.heap.get? b=A0 o->o.data=.dict D B->H b=Ee:=λ{b o D B}e d=>by grind
  let g:∀{b:Er}{m:Str->Db},c.heap.Ns b m->(Kx c.heap H).Ns b m:=λ{b m}⟨o,D,B,e,d,r⟩=>#[o,D,B,f e<|Q e d,d,r];let l:=λb o e=>f (R b o e)<|by grind
  let hM:Mod K mg<|Kx c.heap H:=#[l,g p,#[N,g hb,J],let#[mc,h1,h2]:=n;#[mc,g h1,h2]];let Z:oE P w K mg (Kx c.heap H) callerA [] c H:=#[Ej,hM,λb o e=>aa e,Va<|Re ..,trivial,λb hb=>absurd (show b∈[]from hb)<|by simp,hok,.of_eq hg];let:=JN ((F _ l<|g p).run callerA [] c H #[[.ref a],[]] [.ref a] [.ref a] _ _ hr Z (j c<|.ref a) (.cons rfl .nil)<|L H U hS) λr s' h=>?_;cases r with|error e=>let:=(G H e s' h).elim|ok fl=>cases fl with|next=>let:=E4 h|brk=>let:=E4 h|cont=>let:=E4 h|ret u=>let#[v,H',os,bare,un,t,r',q]:=h;let q':=q;subst q';obtain rfl:u=Value.bool Eg:=r';let:=#[Ej,OldK.of_keep λb o e=>?_,os,bare];cases q:H b with|none=>let:=un.keep b o e q (by intro z;let:=absurd (show b∈[]from z)<|by simp)<|by simp|some u=>
     rcases U b with z|⟨ob,xs,z⟩;.rw[q]at z;cases z
     .let z2:=un.sO b ob _ z;let#[S,_]:=hok b _ z;let#[e2,_]:=t b _ z2;rw[e]at S;cases S;let:=e2
 cases hk:K.lookup a with|some o=>let e:=R a o hk;rw[ha]at e;cases e;let:=i (λ_=>Ee) (λ_=>.inl rfl) (.inr #[_,vs.toArray,_,hk,Ej,Ej,Ej,by rw[Z7,y];let:=hl,by simpa using Y]) (λb u z=>by let A:=z;cases A) (λb z=>absurd rfl z) λz=>absurd rfl z|none=>
  let:=i (λb=>if b=a then A0 _ else Ee) (λb=>?_) (.inl<|.inr #[{cls:=.type "list",data:=.seq vs.toArray},Z4 rfl]) (λb u z=>?_) (λb z=>?_) λ_=>hk
  .by_cases hb:b=a;.let:=.inr #[_,_,Z4 hb]
   .let:=.inl<|ZX hb
  .by_cases hb:b=a;.let A:=(Z4 hb).symm.trans z;cases A;subst hb;let:=#[ha,by rw[ZA];let:=hl,vs,_,Y,ha]
   .let A:=(ZX hb).symm.trans z;cases A
  .by_cases hb:b=a;.let:=hb
   .let:=absurd (ZX hb) z
def zxU{l:PySem.W.OpenLaw}{k:Nat}{q:Et}{i:By}{J:(Str->Db)->EH->Prop}{D:Ey->EH->Prop}{d:DefRec}{K:Params->CK}{CX:Ey->RM}{sp:Ey->Sp}(hn:l.most=A0 n)(y:n<=sizeLine)(r:d.params.defaults=[])(X:xj k callerA)(R:∀(w:Ey)(h:EH),D w h->(K w.params).In h)(F:∀(w:Ey)(mg:Str->Db)(fa:Er)(h:EH),(K w.params).In h->h.Ns ED mg->mg d.name=A0 (.ref fa)->∃fd:Ew,(∀(s:Eu)(u:Es),BindsTo s fd #[[u],[]] [(x,u)])/\∀dX:EH,(K w.params).In dX->dX.Ns ED mg->zj l.prog w (K w.params) mg dX (CX w) k fa fd [x] (sp w))(z:∀(w:Ey)(H:Hp)(a:Er)(ns:List Int),`ns<=n->Only H->yp (K w.params) H a (ns.map V.int)->sp w [.ref a] H (λv _=>v=.bl Eg) λ_ _ _=>False)(p:∀(w:Ey)(H:Hp)(s:Eu)(e:Es)(s':Eu),CX w [] H s (λ_ _ _=>False) e s'->False):PySem.W.WalkO q i J D l.row.toRowW d [] λf vs=>PySem.call f vs:=by let:=Att.zzY hn r λw s₀ E mg mb fa o pm Z L a vs ns G Y ho hd S t j c A U=>?_;let B:=R w _ Y;let#[fd,hb,N]:=F w mg fa _ B G.T.g t;let:=SO B G.T.g G.T.b G.T.builtins G.T.nolimit U j c (Yz A y) X N hb (λH P Q=>z w H a ns A P Q) λH e s'=>p w H _ e s'
def inClass(s:ES)(j:Nat):(Stmt):=match s with|.ClassDef _ _ _ body _ _ _ _ _ _ _=>body.getD j<|.Pass #[0,0,0,0]|_=>.Pass #[0,0,0,0]
def qE(s:ES):(Arguments):=match s with|.FunctionDef _ a _ _ _ _ _ _ _ _=>a|_=>{posonlyargs:=[],args:=[],vararg:=Ee,kwonlyargs:=[],kw_defaults:=[],kwarg:=Ee,defaults:=[]}
def yZ(s:ES):(List Stmt):=match s with|.FunctionDef _ _ b _ _ _ _ _ _ _=>b|_=>[]
def zF(s:ES):(Scope):=match s with|.FunctionDef _ _ _ _ _ _ sc _ _ _=>sc|_=>{kind:=.function,names:=[],isGenerator:=Ei,isCoroutine:=Ei}
abbrev CO:RM:=λ_ _ _ _ _ _=>False
abbrev E0:XK:=λ_ _ _=>False
def K4:vB CO X E0:=λ_ _ _ _ _ _ _ h=>h.elim
structure yd(K:CK)(x qual:Str)(st:ES)(f:Er)(fd:Ew):Prop where
 ex:∃(oc:Es)(od:Option Er)(kV doc pm:Es)(an:Option Er)(cdv ct:Es)(osl:Array Db),fd=Le x qual (qE st) (yZ st) (zF st) .none kV doc pm an cdv ct/\K.lookup f=A0 #[oc,od,.func fd,osl]/\LL K cdv qual=Eg
 kp:E5 K (.ref f)=Eg
def yd.ok{st:ES}{k:Nat}{sp:Sp}(F:yd K x qual st f fd)(S:zy N ps<|zF st)(e:∀(cdv:Es)(A:EL)(outer:List Env)(s:Eu)(H:Hp)(vs:Di)(Q:VK)(E:XK),xj k (A.deeper<|MI qual (zF st) ⇑s f cdv)->sp vs H Q E->∃t,pB (GX CO P w K mg dX N qual (zF st) f cdv A outer s H E).nox (yZ st) t/\t {nx:=λ_ H'=>Q .non H',rt:=Q} (start N vs) H)(len:∀vs H Q E,sp vs H Q E->`vs=`ps:=by intro _ _ _ _ h;first|(cases h;subst_vars;rfl)|repeat first|(let#[rfl,_]:=h;rfl)|let#[_,h]:=h):zj P w K mg dX CO (k+1) f fd ps sp:=by let#[o,p,kV,g,pm,n,cdv,ct,l,rfl,j,b]:=F.ex;let:=bz j b S len λA outer s H vs Q E i c=>?_;let#[t,h,q]:=e cdv A _ s H vs Q E i c;let:=#[t,h.nox,q]
def yd.binds{st:ES}(F:yd K x qual st f fd)(h:∀(kV doc pm:Es)(an:Option Er)(cdv ct:Es)(us:Da),`us=`ps->bindArgs (Le x qual (qE st) (yZ st) (zF st) .none kV doc pm an cdv ct) #[us,[]]=Lm (ps.zip us)):wV K fd ps []:=by let#[e,g,kV,doc,pm,an,cdv,ct,b,rfl,c]:=F.ex;let:=.all<|h kV doc pm an cdv ct
def XX{st:ES}{f:Er}{j:Es}{n i:Option Er}{g:Array Db}{kV e pm b ct:Es}(l:K.lookup f=A0 #[j,n,.func<|Le x qual (qE st) (yZ st) (zF st) .none kV e pm i b ct,g])(c:LL K b qual=Eg)(k:E5 K (.ref f)=Eg):yd K x qual st f<|Le x qual (qE st) (yZ st) (zF st) .none kV e pm i b ct:=#[#[j,n,kV,e,pm,i,b,ct,g,Ej,l,c],k]
def Ky(b:xj k A):A.units+1<cLine:=V1 (by simp_all) b.units
def pv(i:Nat)(c:X.N[i]?=A0 x:=by rfl)(hv:fw X.env.scope x:=by first|let:=MH rfl|let:=Or.inr<|MH rfl|let:=Or.inr<|Or.inr rfl)(hd:(x==("__debug__":Str))=Ei:=by decide)(b:(x==("__classdict__":Str))=Ei:=by decide):PE X (.Name x pos)<|Bg i:=dE c hv hd b
def UZ{A B:Prop}(h:B):if Ei=Eg then A else B:=h
def U1{A B:Prop}(h:A):if Eg=Eg then A else B:=h
def U3{c A B:Prop}[Decidable c](h1:c->A)(h2:¬c->B):if c then A else B:=by simp_all
def bD{c A B:Prop}[Decidable c](hc:c)(h:B):if(!decide c)=Eg then A else B:=by simp_all
def zx(H c:Hp):(Prop):=∀b o,H b=A0 o->c b=A0 o
def zx.refl(H:Hp):zx H H:=λ_ _ h=>h
def zx.trans(a:zx H H1)(b:zx H1 H2):zx H H2:=λc o h=>b c o<|a c o h
def zx.free(e:zx H H'){l:Er}(h:H' l=Option.none):H l=Option.none:=by cases q:H l with|none=>rfl|some o=>rw[e l o q]at h;cases h
def zx.seq(e:zx H H')(h:yp K H a xs):yp K H' a xs:=by
 rcases h with(h|⟨o,h⟩)|h;.let:=.inl<|.inl<|e _ _ h
 .let:=.inl<|.inr #[o,e _ _ h]
 .let:=.inr h
section
variable{κ:Type}[DecidableEq κ]
def Gn{Dl:List<|κ×V}{k:κ}(h:U0 Dl k=Ee):¬k∈Dl.map (·.1):=by intro m;let#[p,b,e]:=ZH.mp m;let q:Dl.any λkv=>decide<|kv.1=k=Eg:=YH.mpr #[p,b,ZK e];rw[x9,h]at q;trivial
def qX{Dl:List<|κ×V}{k:κ}{v:V}(h:U0 Dl k=A0 v):k∈Dl.map (·.1):=by
 let q:Dl.any λkv=>decide<|kv.1=k=Eg:=by rw[x9,h];rfl
 let#[p,b,e]:=YH.mp q;let:=ZH.mpr #[p,b,ZT e]
def jN:∀{l:List κ}{k:κ},l.Nodup->¬k∈l->(l++[k]).Nodup|[],k,_,_=>by simp|a::r,k,h,hk=>by let#[h1,h2]:=YC.mp h;let:=YC.mpr #[λm=>?_,jN h2 λm=>hk<|ZJ.mpr<|Or.inr m];simp_all
end
end L2
set_option maxHeartbeats 0
noncomputable section
namespace L2
open PySem PySem.Spec PyProof.Rows
def jC{α b:Type}{f:α->b->Sem (ForInStep b)}(g:b->α->b):∀(l:List α)(c:b),(∀x∈l,∀c,f x c=Lm (.yield<|g c x))->forIn l c f=Lm (l.foldl g c)|[],c,_=>rfl|x::l,c,h=>by rw[List.forIn_cons,h x ZD];let:=jC g l _ λy e=>h y<|ZB _ e
def Ik(cells:List<|Str×Er)(c:List<|Str×Er)(x:Str×Mq):(List<|Str×Er):=if x.2==.free then match cells.lookup x.1 with|some a=>(x.1,a)::c|none=>c else c
def vV(env:Env)(sc:Ma):(List<|Str×Er):=sc.names.foldl (Ik env.cells) []
def uE(h:∀x∈scope.names,x.2=.free->∃c,env.cells.lookup x.1=A0 c):closureFor scope env=Lm (vV env scope):=by
 simp only[closureFor];rw[jC _ _ []<|λx b c=>?_];.rfl
 .let#[n,k]:=x;unfold Ik;cases hk:k==NameKind.free with
  |true=>
   let e:=by simpa using hk
   let#[a]:=h _ b e;simp_all[cellOf]|false=>rfl
def jB{b:Type}(x n:Str)(a:b)(l:List<|Str×b):ML x ((n,a)::l)=if x=n then A0 a else ML x l:=by
 by_cases h:x=n;.simp_all
 .let hb:=JB.mpr h;simp only[List.lookup_cons,hb,ZX h]
def Gy{cells:List<|Str×Er}:∀(names:List<|Str×Mq)(acc:List<|Str×Er),(∀x c,acc.lookup x=A0 c->cells.lookup x=A0 c)->∀x c,(names.foldl (Ik cells) acc).lookup x=A0 c->cells.lookup x=A0 c
 |[],acc,h=>h|(n,k)::r,acc,h=>Gy r _ λx c e=>by
  unfold Ik at e;by_cases hk:((n,k).2==NameKind.free)=Eg;.rw[Z4 hk]at e;cases q:cells.lookup n with|none=>rw[q]at e;let:=h x c e|some a=>
    rw[q]at e;rw[jB]at e;by_cases b:x=n;.rw[Z4 b]at e;rwa[b,q]
    .rw[ZX b]at e;let:=h x c e
  .rw[ZX hk]at e;let:=h x c e
def Fh:∀(names:List<|Str×Mq)(acc:List<|Str×Er)(x:Str),(∃c,acc.lookup x=A0 c)->∃c,(names.foldl (Ik cells) acc).lookup x=A0 c
 |[],acc,x,h=>h|(n,k)::r,acc,x,h=>Fh r _ x<|by
  let#[c,h]:=h;unfold Ik;by_cases hk:((n,k).2==NameKind.free)=Eg;.rw[Z4 hk];cases q:cells.lookup n with|none=>let:=#[c,h]|some a=>
    rw[jB];by_cases b:x=n;.let:=#[a,by rw[Z4 b]]
    .let:=#[c,ZX b▸h]
  .rw[ZX hk];let:=#[c,h]
def Kc{cells:List<|Str×Er}{x:Str}{c:Er}(b:cells.lookup x=A0 c):∀(names:List<|Str×Mq)(acc:List<|Str×Er),(x,NameKind.free)∈names->∃c,(names.foldl (Ik cells) acc).lookup x=A0 c
 |[],acc,h=>by cases h|(n,k)::r,acc,h=>by
  rcases ZJ.mp h with e|e;.let:=Fh r _ x #[c,?_];unfold Ik;simp_all
  .let:=Kc b r _ e
def OG{sc:Ma}{c:Er}(b:env.cells.lookup x=A0 c)(hm:(x,NameKind.free)∈sc.names):(vV env sc).lookup x=A0 c:=by let#[f,h]:=Kc b _ [] hm;let e:=Gy _ [] (by simp_all) x f h;rw[b]at e;cases e;let:=h
def kC{c:Er}(h:(vV env sc).lookup x=A0 c):env.cells.lookup x=A0 c:=Gy _ [] (by simp_all) x c h
def Oi(env:Env)(x:Str)(k:Mq):(NameKind):=if k==.free&&env.scope.kind==.function&&env.kindOf x==A0 .cell then .cell else k
def kB{env:Env}(x:Str):∀names:List<|Str×Mq,(names.map λ(n,k)=>if k==NameKind.free&&env.scope.kind==.function&&env.kindOf n==A0 .cell then(n,NameKind.cell)else(n,k)).lookup x=(names.lookup x).map (Oi env x)
 |[]=>rfl|(n,k)::r=>by
  let c:=kB (env:=env) x r;rw[Z9];let e:(if(k==NameKind.free&&env.scope.kind==.function&&env.kindOf n==A0 .cell)=Eg then(n,NameKind.cell)else(n,k))=(n,Oi env n k):=by unfold Oi;split<;>rfl
  dsimp only;rw[e,jB,jB];by_cases b:x=n;.simp_all
  .rwa[ZX b,ZX b]
def Ii{cl:List<|Str×Er}{C:Er}(x:Str):(MM scope cl C env).scope.names.lookup x=(scope.names.lookup x).map (Oi env x):=kB x _
def U9(src:List<|Option Nat)(b:St):(St):=src.map λo=>o.bind λi=>b[i]?.join
structure ur(sc:Ma)(N N':By)(src:List<|Option Nat)(scope:Ma):Prop where
 nd:N'.Nodup
 len:`src=`N'
 kind:scope.kind=.function
 lR:∀y∈scope.names,y.2≠.cell
 names:∀y∈scope.names,y.2=.local->scope.names.lookup y.1=A0 .local
 free:∀y∈scope.names,y.2=.free->sc.names.lookup y.1=A0 .cell\/sc.names.lookup y.1=A0 .free
 srcs:((src.zip N').all λ(o,x)=>match o with|none=>Eg|some i=>N[i]?==A0 x&&scope.names.lookup x==A0 .free)=Eg
def ur.a{sc:Ma}{N N':By}(nd:N'.Nodup:=by lk)(len:`src=`N':=by rfl)(kind:scope.kind=.function:=by rfl)(lR:∀y∈scope.names,y.2≠.cell:=by lk)(names:∀y∈scope.names,y.2=.local->scope.names.lookup y.1=A0 .local:=by lk)(free:∀y∈scope.names,y.2=.free->sc.names.lookup y.1=A0 .cell\/sc.names.lookup y.1=A0 .free:=by lk)(srcs:((src.zip N').all λ(o,x)=>match o with|none=>Eg|some i=>N[i]?==A0 x&&scope.names.lookup x==A0 .free)=Eg:=by lk):ur sc N N' src scope:=#[nd,len,kind,lR,names,free,srcs]
def ur.at(O:ur sc N N' src scope){j:Nat}(h1:src[j]?=A0 (A0 i))(h2:N'[j]?=A0 x):N[i]?=A0 x/\scope.names.lookup x=A0 .free:=by
 let b:(src.zip N')[j]?=A0 (A0 i,x):=by rw[J4];trivial
 let q:=Yc.mp O.srcs _<|ZI b;simp_all
def Cx.comp(X:Cx)(N':By)(scope:Ma)(C:Er)(s:Eu)(H:Hp)(fp:Dc):(Cx):={X with N:=N',s₀:=s,H₀:=H,env:=MM scope (vV X.env scope) C X.env,outer:=X.stack,ex:=fp,fn:=λ_=>Ei,pn:=[],xe:=λ_ _=>False}
def Un.adopt{D:Er}(u:Un fs ex H H1 h h1)(g:h.get? D=Ee)(c:H D=Ee):Un fs ex H (upd H1 D o) h h1 where
 keep:=u.keep
 slot:=u.slot
 free:=λb ob q n e=>by let hb:b≠D:=λz=>⋯;rw[zH hb];let:=u.free b ob q n e
 there:=u.there
 tups:=λb xs q=>(zH<|zL q c)▸u.tups b xs q
 sO:=λb ob xs q=>(zH<|zL q c)▸u.sO b ob xs q
 rD:=λb f q=>(zH<|zL q c)▸u.rD b f q
def rK.adopt{D:Er}(x:rK P w H h)(n:H D=Ee)(new:xx P w (upd H D o) h D o):rK P w (upd H D o) h:=λb u e=>by
 by_cases hb:b=D;.simp_all[zD]
 .rw[zH hb]at e;let:=(x b u e).stay (λc v _ q=>q) (λc q=>(zH<|zL q n)▸q) λc xs q=>(zH<|zL q n)▸q
def PFi(X:Cx)(b:List ER)(g:TT):(Prop):=∀(f:Dd)(s:Eu)(e:St)(H:Hp)(Q:Bool->Hp->Prop),Inv X f e H s->g e H Q->EA (EC X.prog X.w) X.A (forIn b Eg λc r=>if r=Eg then do let ok<-isTrue c X.env<|E8 c X.env;Lm<|MO ok else Lm<|MO r) (TP X f e Q) X.xe s
def Ir:(TT):=λ_ H Q=>Q Eg H
def xU:PFi X [] Ir:=by intro b s c H Q I h;let:=ZF #[H,I,h]
def Od(g:PT X c tc):PFi X [c] tc:=by intro l s j H Q I h;rw[List.forIn_cons];let:=Zz<|Zz<|CN (g _ s j H _ I h) λb n ⟨e,f,i⟩=>ZF<|ZF #[e,f,i]
def Xr(src:List<|Option Nat)(J:It)(g:TG)(u:TT)(t:TE)(Q:VK)(v:St)(H:Hp):(Prop):=∃W:Nat->Nat->Di->St->Hp->Prop,(∃m,W 0 m [] (U9 src v) H)/\∀i m j n e,W i m j n e->`j<=sizeLine/\((J.stop i e/\∀p,e p=Ee->Q (.ref p) (upd e p<|.lst j))\/J.go i e/\∃Nx:Di->St->Hp->Prop,(∀l c f,Nx l c f->∃q,q<m/\W (i+1) q l c f)/\∀x f,J.yld i e x f->g x n f λc r=>u c r λb o=>if b=Eg then t c o λy s=>Nx (j++[y]) c s else Nx j c o)
def Nn(src:List<|Option Nat)(i:TI)(g:TG)(f:TT)(e:TE):(TE):=λb H Q=>i b H λJ c=>Xr src J g f e Q b c
section
variable{elt:ER}{sc:Ma}{N N':By}
def SY{p g:Es}(I:Nat->Dg)(turn:∀n s,I n s->EA (EC prog w) A (L6 p) (λr s₁=>match r with|none=>R (.ok .next) s₁|A0 v=>EA (EC prog w) A (letOwnedTupleGo tg p v) (λ_ s₂=>EA (EC prog w) A (assign tg env v) (λ_ s₃=>EA (EC prog w) A (forIn ifs Eg λc r=>if r=Eg then do let ok<-isTrue c env<|E8 c env;Lm<|MO ok else Lm<|MO r) (λok s₄=>if ok=Eg then EA (EC prog w) A (E8 elt env) (λx s₅=>EA (EC prog w) A (call (.builtin "list.append") [g,x]) (λ_ s₆=>∃m,m<n/\I m s₆) (λ_ _=>False) s₅) (λ_ _=>False) s₄ else∃m,m<n/\I m s₄) (λ_ _=>False) s₃) (λ_ _=>False) s₂) (λ_ _=>False) s₁) (λ_ _=>False) s)(n:Nat)(h:I n s):LP (EC prog w) A (.compLoop (.ListComp elt [#[tg,iter,ifs,0]] scope pos) 0 p g env) R s:=by let:=codeAny_loop rfl I (λn s q=>wpAny_noted ?_) n h;rw[compTurn_list];let:=Zz<|Us<|Zz<|YO (turn n s q) (λr s₁ e=>?_) λ_ _ b=>b.elim;cases r with|none=>let:=ZF e|some v=>let:=Zz<|YO e (λ_ s₂ i=>Zz<|YO i (λ_ s₃ j=>Zz<|YO j (λok s₄ f=>?_) λ_ _ b=>b.elim) λ_ _ b=>b.elim) λ_ _ b=>b.elim;cases ok with|false=>let:=ZF #[Ej,f]|true=>let:=Zz<|Zz<|YO f (λx s₅ l=>Zz<|YO l (λ_ s₆ o=>ZF<|ZF #[Ej,o]) λ_ _ b=>b.elim) λ_ _ b=>b.elim
def WJ{C:Er}(O:ur sc N N' src scope)(g:X.env.scope=sc)(I:Inv X Dp σ H s)(f:∀b∈fp,X4 X Dp H b)(n:∀b∈fp,∃o,s.heap.get? b=A0 o)(i:⇑s<=C):(X.comp N' scope C s H fp).Ok:=by
 let hk:∀x,(MM _ (vV X.env scope) C _).kindOf x=A0 _\/(MM scope _ C _).kindOf x=A0 _->(x,NameKind.free)∈scope.names:=λx h=>by let h:(MM _ _ C X.env).scope.names.lookup x=A0 .cell\/(MM _ _ C _).scope.names.lookup x=A0 .free:=h;rw[Ii]at h;cases q:scope.names.lookup x with|none=>simp_all|some k=>let hm:=JC q;rw[q]at h;cases k with|free=>let:=hm|cell=>let:=absurd rfl<|O.lR _ hm|_=>rcases h with h|h<;>(let p:=dI h;trivial)
 let:=#[I.ok.mod,O.kind,I.ok.glob,I.ok.blt,i,λx y c h1 h2=>I.ok.inj x y c (kC h1)<|kC h2,λx h=>?_,λx c h=>(by cases h),I.ok.hd,I.ok.frames,.inl rfl,λb hb=>?_,I.bs,Yz I.ok.bsz I.sz,λb o e hb=>?_,λb hb z=>?_,I.stack,I.oW];.let hm:=hk x h;let j:=O.free _ hm rfl;rw[<-g]at j;let#[c,l]:=I.ok.has x j;let:=#[c,OG l hm]
 .let:=#[?_,λx c h=>(f b hb).2.2.2.2.1 x c<|kC h];let#[o,e]:=n b hb;let:=ZU<|Z0 (ZP e) i
 .rcases(f b hb).2.2.2.1 with z|z;.let:=I.ok.mQ b o e z
  .let:=absurd (Z0 (Z0 (ZP e) I.ok.bsz) z)<|Y7 _
 .rcases ZJ.mp<|I.oM b z with e|e;.let:=(f b hb).2.1 e
  .let:=(f b hb).2.2.1 e
def RW{C:Er}{t:EH}{R:Nat}(O:ur sc N N' src scope)(n:X.env.scope=sc)(F:X.N=N)(I:Inv X Dp σ H s)(G:∀b∈fp,X4 X Dp H b)(J:∀b∈fp,∃o,s.heap.get? b=A0 o)(y:⇑s<=C)(k:∀b o,s.heap.get? b=A0 o->t.get? b=A0 o){P:Str->Db}(hn:t.Ns C P):Inv (X.comp N' scope C s H fp) [] (U9 src σ) H {s with heap:=t,toks:=R}:=by
 let cells:∀x c,X.env.cells.lookup x=A0 c->∀v,s.heap.IsCell c v->t.IsCell c v:=λx c _ v ⟨o,e,d⟩=>#[o,k c o e,d];let:=#[WJ O n I G J y,Ej,I.bare,Un.kept k,#[_,hn,λj x v D f T=>?_],λx c e=>?_,I.hok.fresh y,λx c e=>I.wJ x c<|kC e,λp K=>(by cases K),I.hok.kept k,?_];.unfold U9 at f;rw[ZN]at f;cases q:src[j]?with|none=>rw[q]at f;cases f|some o=>rw[q]at f;let f:=dI f;cases o with|none=>cases f|some i=>
    let#[S,l]:=O.at q D;let B:=JC l;let E:σ[i]?=A0 (A0 v):=by cases r:σ[i]?<;>simp_all
    let A:=O.free _ B rfl;rw[<-n]at A;let#[m,hm,hl]:=I.loc;let#[u,Q,L]:=hl i x v (F▸S) E<|.inr A;let:=#[u,Q,.inr ?_];let#[c,w,g]:∃c,X.env.cells.lookup x=A0 c/\s.heap.IsCell c _:=by
     rcases L with⟨z,_⟩|⟨_,c,w,hz⟩;.let z:X.env.scope.names.lookup x=A0 .local:=z;simp_all
     .let:=#[c,w,hz]
    let:=#[?_,c,OG w B,cells x c w _ g];show(MM scope _ C X.env).scope.names.lookup x=A0 .cell\/(MM scope _ C X.env).scope.names.lookup x=A0 .free;rw[Ii,l];show A0 (Oi X.env x .free)=A0 .cell\/A0 (Oi X.env x .free)=A0 .free;unfold Oi;split;.let:=.inl rfl
    .let:=.inr rfl
 .let#[v,z]:=I.cell x c<|kC e;let:=#[v,cells x c (kC e) v z]
 .unfold U9;rw[ZA];let:=O.len
def Bb{σ:St}{H:Hp}{it:Er}{tn:Nat->EH->Prop}{J:It}{RR:Es->Er->Result->Dg}{Fin:Di->Hp->Prop}(O:ur sc N N' src scope)(bm:X.env.scope=sc)(hN:X.N=N){U:Cx->Prop}(hU:∀C s H fp,U<|X.comp N' scope C s H fp)(hg:∀C s H fp,PG (X.comp N' scope C s H fp) tg g)(be:∀C s H fp,PFi (X.comp N' scope C s H fp) ifs tf)(he:∀C s H fp,PE (X.comp N' scope C s H fp) elt te)(I:Inv X Dp σ H s)(T:lM U X.prog X.w X.K tg J fp it tn)(t0:tn 0 s.heap)(hf:∀b∈fp,X4 X Dp H b)(W:Nat->Nat->Di->St->Hp->Prop)(m0:Nat)(w0:W 0 m0 [] (U9 src σ) H)(hW:∀i m ys σ' H',W i m ys σ' H'->`ys<=sizeLine/\(J.stop i H'/\Fin ys H'\/J.go i H'/\∃Nx:Di->St->Hp->Prop,(∀ys2 σ2 H2,Nx ys2 σ2 H2->∃m',m'<m/\W (i+1) m' ys2 σ2 H2)/\∀x H2,J.yld i H' x H2->g x σ' H2 λσ2 H3=>tf σ2 H3 λb H4=>if b=Eg then te σ2 H4 λy H5=>Nx (ys++[y]) σ2 H5 else Nx ys σ2 H4))(a9:∀(D C:Er)(s':Eu)(σ':St)(H':Hp)(ys:Di)(its:Da)(n:Nat),⇑s<=D->⇑s<=C->Inv (X.comp N' scope C s H fp) [] σ' H' s'->s'.heap.get? D=A0 {cls:=.type "list",data:=.seq its.toArray n}->zb ys its->`ys<=sizeLine->H' D=Ee->D≠C->Fin ys H'->RR (.ref D) C (.ok .next) s'):EA (EC X.prog X.w) X.A (newList []) (λacc s₃=>EA (EC X.prog X.w) X.A (newFunctionEnv scope X.env.globals (vV X.env scope) [] X.env.qual Ee .none<|some X.env) (λcenv s₄=>LP (EC X.prog X.w) X.A (.compStart (.ListComp elt [#[tg,iter,ifs,0]] scope pos) 0 (.ref it) acc {cenv with scope:=relabel scope X.env}) (RR acc cenv.locals) s₄) E s₃) E s:=by
 let:=YA<|wpAny_newFunctionEnv O.lR (by intro y hy;cases hy) (λQ j f=>?_) O.kind;dsimp only at j f ⊢;generalize ad:s.heap.push {cls:=.type "list",dict:=Ee,data:=.seq ([]:Da).toArray}=P2 at j f ⊢;let ac:P2.objs.size=⇑s+1:=by rw[<-ad,JY]
 let G:⇑s≠P2.objs.size:=ac▸ZU (Vj _);let ap:⇑s<=P2.objs.size:=ac▸J8 _;let ab:∀b,b<⇑s->b≠P2.objs.size/\b≠⇑s:=λb hb=>#[ac▸ZU (Jw hb),ZU hb];let old:=λb o e=>f.extBut b o (ab b<|ZP e).1<|ZE _<|ad▸ZE _ e;let D6:=f.extBut _ _ G<|ZE _<|ad▸ZL _ rfl;let am:∀b∈fp,∃o,s.heap.get? b=A0 o:=λb hb=>let ⟨o,e,_⟩:=T.obj 0 _ t0 b hb;#[o,e];let F:=λb hb=>let ⟨o,e⟩:=am b hb;ZP e;generalize hD:⇑s=D at*;generalize hC:P2.objs.size=C at*;let a1:∀tk,Inv (X.comp N' scope C s H fp) [] (U9 src σ) H {s with heap:=Q,toks:=tk}:=λtk=>RW O bm hN I hf am (hD▸ap) old j;let okX:=(a1 0).ok;let L:∀{H':Hp}{pl:Dd},(∀b∈fp,H' b=Ee)->(∀p∈pl,p.1∉fp)->∀b∈fp,X4 (X.comp N' scope C s H fp) pl H' b:=λ{H' pl}hn l b hb=>#[hn b hb,(okX.exf b hb).1,okX.mj b hb,.inl hb,(okX.exf b hb).2,λp hm=>by
   let hm:p∈pl:=by simpa[Cx.comp]using hm
   let:=λz=>l p hm<|z▸hb];let al:D∉(X.comp N' scope C s H fp).fs:=λhb=>by let#[_,o,ho,_]:=okX.sW.mem hb;let ho:s.heap.get? D=A0 o:=ho;let h1:=ZP ho;rw[hD]at h1;let:=Y7 _ h1
 let S:∀x c,(X.comp N' scope C s H fp).env.cells.lookup x=A0 c->c≠D:=λx c e z=>by let#[v,o,ho,_]:=I.cell x c<|kC e;let h1:=ZP ho;rw[hD,z]at h1;let:=Y7 _ h1
 let loop:∀tk,LP (EC X.prog X.w) X.A (.compLoop (.ListComp elt [#[tg,iter,ifs,0]] scope pos) 0 (.ref it) (.ref D)<|MM scope (vV X.env scope) C X.env) (RR (.ref D) C) {s with heap:=Q,toks:=tk}:=by
  intro tk;let:=SY (λn s'=>∃i ys σ' H' its c,Inv (X.comp N' scope C s H fp) [] σ' H' s'/\tn i s'.heap/\(∀b∈fp,H' b=Ee)/\s'.heap.get? D=A0 {cls:=.type "list",data:=.seq (its:Da).toArray c}/\zb ys its/\H' D=Ee/\W i n ys σ' H') ?_ m0 #[0,[],U9 src σ,H,[],0,a1 tk,T.keep 0 _ _ t0 λb _ o e=>old b o e,λb hb=>(hf b hb).1,D6,.nil,I.hok.fresh<|hD▸ZG _,w0];rintro n s3 ⟨i,ys,q,H3,its,B,I3,a3,an,d3,v3,ay,w3⟩;let#[Dq,a7]:=hW i n ys q H3 w3;rcases a7 with⟨stop,fin⟩|⟨go,Nx,hNx,step⟩
  .let Z:Inv (X.comp N' scope C s H fp) [(D,{cls:=.type "list",data:=.seq its.toArray B})] q H3 s3:=I3.tL λp l=>by
    let e:p=(D,{cls:=.type "list",data:=.seq its.toArray B}):=by simpa using l
    subst e;let:=#[d3,ay,G,al,λv z=>by cases z]
   let:=CN (T.done (X.comp N' scope C s H fp) rfl rfl rfl (hU _ _ _ _) i _ s3 q H3 _ Z (L an λp l z=>by
    let e:p=(D,{cls:=.type "list",data:=.seq its.toArray B}):=by simpa using l
    rw[e]at z;let:=Y7 _<|F D z) a3 stop) λr s4 ⟨hr,I4⟩=>?_;subst hr;let#[d4,bo,_]:=I4.pin (D,{cls:=.type "list",data:=.seq its.toArray B}) (by simp[Cx.comp]);let:=a9 D C s4 q H3 ys its B ⋯ ⋯ (I4.tL λp l=>by cases l) d4 v3 Dq bo G fin
  .let Z:Inv (X.comp N' scope C s H fp) [(D,{cls:=.type "list",data:=.seq its.toArray B})] q H3 s3:=I3.tL λp l=>by
    let e:p=(D,{cls:=.type "list",data:=.seq its.toArray B}):=by simpa using l
    subst e;let:=#[d3,ay,G,al,λv z=>by cases z]
   let as:∀p∈[((D,{cls:=.type "list",data:=.seq its.toArray B}):Er×Obj)],p.1∉fp:=λp l z=>by
    let e:p=(D,{cls:=.type "list",data:=.seq its.toArray B}):=by simpa using l
    rw[e]at z;let:=Y7 _<|F D z
   let:=CN (T.item (X.comp N' scope C s H fp) rfl rfl rfl (hU _ _ _ _) i _ s3 q H3 _ Z (L an as) a3 go) λr s4 ⟨u,hr,h4⟩=>?_;subst hr;let:=CN h4 λ_ s5 q9=>?_;let#[x,H5,I5,r5,y5,ah,a8]:=q9;let a5:=I5.pinned (L a8 as)<|T.obj _ _ ah;let R:(D,({cls:=.type "list",data:=.seq its.toArray B}:Obj))∈(X.comp N' scope C s H fp).pn++([((D,{cls:=.type "list",data:=.seq its.toArray B}):Er×Obj)]++Gz fp s5.heap):=by simp[Cx.comp]
   let P:∀{a4:St}{Y:Hp}{s7:Eu},Inv (X.comp N' scope C s H fp) ([((D,{cls:=.type "list",data:=.seq its.toArray B}):Er×Obj)]++Gz fp s5.heap) a4 Y s7->tn (i+1) s7.heap/\∀b∈fp,Y b=Ee:=λ{a4 Y s7}I7=>#[T.keep _ _ _ ah λb hb o e=>(I7.pin (b,o)<|Yb _<|Yb _<|j8 hb e).1,λb hb=>by let#[o,e,d]:=T.obj _ _ ah b hb;let:=(I7.pin (b,o)<|Yb _<|Yb _<|j8 hb e).2.1];let:=CN (hg C s H fp _ s5 q H5 x u _ a5 r5<|step x H5 y5) λ_ s6 ⟨t,H6,I6,q6⟩=>CN (be C s H fp _ s6 t H6 _ I6 q6) λb s7 ⟨Y,I7,q7⟩=>?_;cases b with|false=>let#[m',af,w7]:=hNx ys t Y (by simpa using q7);let#[b1,b2]:=P I7;let#[d7,b3,_]:=I7.pin _ R;let:=#[m',af,i+1,ys,t,Y,its,B,I7.tL λp l=>(by cases l),b1,b2,d7,v3,b3,w7]|true=>
    rw[Z4 rfl];let:=CN (he C s H fp _ s7 t Y _ I7 q7) λu8 s8 ⟨y,H8,I8,r8,n8⟩=>?_;let#[m',af,w8]:=hNx _ _ _ n8;let#[b1,b2]:=P I8;let#[d8,a0,_]:=I8.pin _ R;let hl:=`v3;let:=wpAny_list_append_plain #[B,d8] (λh9 ⟨c9,d9⟩ a2=>?_) (by rwa[Z7,<-hl]);let a6:Inv (X.comp N' scope C s H fp) [] t H8 s8:=I8.tL λp l=>by cases l
    let I9:Inv (X.comp N' scope C s H fp) [] t H8 {s8 with heap:=h9}:=a6.turned (t':=s8.toks) (λb o hb e=>(a2.2 b hb).trans e) a0 G (.inr<|by show ⇑s<=D;lia) S λp l=>by cases l
    let:=#[m',af,i+1,ys++[y],t,H8,its++[u8],c9,I9,T.keep _ _ _ b1 λb hb o e=>(a2.2 b<|λz=>Y7 _<|z▸F b hb).trans e,b2,?_,v3.append<|.cons r8 .nil,a0,w8];rw[d9];simp
 let:=codeAny_compStart_list (loop _)<|T.self _ 0 _ _ _ (T.keep 0 _ _ t0 λb _ o e=>old b o e)<|loop _
def comp_back{g:St}{e:Hp}{f:Eu}{C D:Er}{ys:Di}{c:Da}(I:Inv X Dp σ H s)(j:∀b∈fp,X4 X Dp H b)(J:Inv (X.comp N' scope C s H fp) [] g e f)(i:⇑s<=D)(d:f.heap.get? D=A0 {cls:=.type "list",data:=.seq c.toArray n})(v:zb ys c)(hl:`ys<=sizeLine)(l:e D=Ee):Inv X Dp σ (upd e D<|.lst ys) f:=by let u:=J.dX;let:=I.call' J.os (u.adopt (Uu i)<|I.hok.fresh i) (J.hok.adopt l #[hl,c,n,v,d]) J.bare λb hb=>?_;let#[_,o,_,p,q]:=j b hb;trivial
def Fj{C:Er}{c:EH}(I:Inv X Dp σ H s)(g:Inv X Dp σ2 H2 s2)(n:⇑s<=C)(f:H2 C=Ee)(sb:EW C s2.heap c):Inv X Dp σ2 H2 {s2 with heap:=c}:=by let#[_,i,_,j,l,f5]:=I.pC n f;let:=g.turned (λb o hb e=>(sb.2 b hb).trans e) f i j l f5
def yS(O:ur sc N N' src scope)(f:X.env.scope=sc)(z:X.N=N)(b:X.calm=Eg)(E:PI X tg iter wi)(B:∀C s H fp,PG (X.comp N' scope C s H fp) tg g)(p:∀C s H fp,PFi (X.comp N' scope C s H fp) ifs tf)(A:∀C s H fp,PE (X.comp N' scope C s H fp) elt te)(hs:∀x,Mb iter X.env x=Lm x:=by intro _;rfl):PE X (.ListComp elt [#[tg,iter,ifs,0]] scope pos)<|Nn src wi g tf te:=by
 intro Z s U H Q I h;let c:=uE λx F hk=>I.ok.has x.1<|by have:=O.free x F hk;rw[<-f]at this;let:=this
 let:=wpAny_comprehension_free rfl hs c O.kind O.names<|CN (E _ s U H _ I h) λv s1 h1=>CN h1 λK s2 h2=>?_;let#[it,fp,tn,J,H2,e,i,T,q,r,W,#[L,S],turn]:=h2;subst e;let:=Bb O f z (λ_ _ _ _=>b) B p A i T q r W L S turn ?_;intro D C s' Y H' ys G n y w j d R hl t o l;let u:=comp_back i r j y d R hl t;let#[m,hm,_]:=j.loc;let P:=j.free;let:=#[m,hm,λh' sb=>#[.ref D,_,Fj i u w ((zH<|EG o)▸P) sb,Ej,l D t]]
def K7{U:Cx->Prop}{k:Nat}{F A:Pos}(O:ur sc N N' src scope)(f:X.env.scope=sc)(Q:X.N=N)(R:∀C s H fp,U<|X.comp N' scope C s H fp)(hi:iJ U X tg iter wi)(Z:∀C s H fp,PG (X.comp N' scope C s H fp) tg g)(q:∀C s H fp,PFi (X.comp N' scope C s H fp) ifs tf)(S:∀C s H fp,PE (X.comp N' scope C s H fp) elt te)(nd:X.N.Nodup)(hk:X.N[k]?=A0 y)(t:Loc X.env.scope y)(r:Mj (.ListComp elt [#[tg,iter,ifs,0]] scope pos) (A0<|.Name y F) A.line X.env=Lm Eg:=by rfl)(Y:X.fn y=Eg\/X.env.scope.names.lookup y=A0 .local:=by first|let:=.inl rfl|let:=.inr rfl|assumption)(hs:∀x,Mb iter X.env x=Lm x:=by intro _;rfl):PS X (.Assign [.Name y F] (.ListComp elt [#[tg,iter,ifs,0]] scope pos) A)<|HD (Nn src wi g tf te)<|Xh k:=by
 intro Dp s σ H w I h;rw[exec_Assign_Name_used _ _ _ _ r];let:=Zz<|Us<|Zz ?_;let b:=uE λx t hk=>I.ok.has x.1<|by have:=O.free x t hk;rw[<-f]at this;let:=this
 let:=Zz<|YO (wpAny_comprehension_free rfl hs b O.kind O.names<|CN (hi _ s σ H _ I h) λv s1 h1=>CN h1 λac s2 h2=>?_) (λ_ s' hq=>ZF<|ZF hq) λ_ _ e=>e;let#[it,fp,tn,J,H2,e,c,T,u,B,W,#[m0,w0],turn]:=h2;subst e;let:=Bb O f Q R Z q S c T u B W m0 w0 turn ?_;intro D C s' ad H' ys ab n P l i d vv hl E p j;let G:=comp_back c B i P d vv hl E;let#[m,hm,_]:=i.loc;let nC:=i.free;let:=wpAny_assign_Name<|BJ G nd hk t (v:=.ref D) rfl (λs4 K ⟨a,sa,ha⟩=>?_) Y;let L:C≠a:=by
  rcases ha with e|e;.rw[e];intro z;let:=Y7 _<|Z0 c.lt<|z▸l
  .intro z;let#[v,o,ho,_]:=c.cell y a e;let:=Y7 _<|Z0 (ZP ho)<|z▸l
 let:=#[m,Heap.Ns.sameBut hm sa L,λh' sb=>#[_,_,Fj c K l ((zH<|EG p)▸nC) sb,j D E]]
def Pc{k:Nat}{j i:Pos}(O:ur sc N N' src scope)(e:X.env.scope=sc)(l:X.N=N)(b:X.calm=Eg)(q:PI X tg iter wi)(p:∀C s H fp,PG (X.comp N' scope C s H fp) tg g)(c:∀C s H fp,PFi (X.comp N' scope C s H fp) ifs tf)(n:∀C s H fp,PE (X.comp N' scope C s H fp) elt te)(nd:X.N.Nodup)(hk:X.N[k]?=A0 y)(r:Loc X.env.scope y)(f:Mj (.ListComp elt [#[tg,iter,ifs,0]] scope pos) (A0<|.Name y j) i.line X.env=Lm Eg:=by rfl)(o:X.fn y=Eg\/X.env.scope.names.lookup y=A0 .local:=by first|let:=.inl rfl|let:=.inr rfl|assumption)(hs:∀x,Mb iter X.env x=Lm x:=by intro _;rfl):PS X (.Assign [.Name y j] (.ListComp elt [#[tg,iter,ifs,0]] scope pos) i)<|HD (Nn src wi g tf te)<|Xh k:=K7 O e l (λ_ _ _ _=>b) q p c n nd hk r f o hs
end
def eD(t u:TS):(TS):=λD e H=>∃R:St->Hp->Prop,t {D with nx:=R} e H/\∀b c,R b c->u D b c
def xR{st:ES}(h1:PS X st t)(h2:pB X rest u):pB X (st::rest)<|eD t u:=by intro l s j H D I ⟨R,h,g⟩;let:=wpAny_execs_cons<|CN (h1 _ s j H _ I h) λf i q=>?_;cases f with|next=>let#[b,c,e,q]:=q;let:=h2 _ i b c D e<|g b c q|ret v=>let:=q|brk=>let:=q|cont=>let:=q
section
variable{Q:VK}{a:Er}{xs:Di}{σ:St}{H:Hp}
def X7{J:It}(n:Nat)(f:Nat->Di->St->Hp->Prop)(r:f 0 [] (U9 src σ) H)(v:n<=sizeLine)(hl:∀i ys σ H,i<=n->f i ys σ H->`ys<=i)(q:∀ys σ H,f n ys σ H->J.stop n H)(o:∀i ys σ H,i<n->f i ys σ H->J.go i H)(hs:∀i ys σ H,i<n->f i ys σ H->∀x H2,J.yld i H x H2->g x σ H2 λσ2 H3=>tf σ2 H3 λb H4=>if b=Eg then te σ2 H4 λy H5=>f (i+1) (ys++[y]) σ2 H5 else f (i+1) ys σ2 H4)(hd:∀ys σ H,f n ys σ H->∀p,H p=Ee->Q (.ref p) (upd H p<|.lst ys)):Xr src J g tf te Q σ H:=by
 let:=#[λi m ys σ H=>m=n-i/\i<=n/\f i ys σ H,#[n,by simp,Yk _,r],?_];rintro i m ys c l ⟨rfl,s,p⟩;let u:=hl i ys c l s p;let:=#[⋯,?_];by_cases j:i<n;.let:=.inr #[o i ys c l j p,_,λt σ2 H2 z=>#[_,⋯,Ej,j,z],hs i ys c l j p]
 .let e:i=n:=⋯;subst e;let:=.inl #[q ys c l p,hd ys c l p]
def BK(c:Nat->Di->St->Hp->Prop)(j:c 0 [] (U9 src σ) H)(l:`xs<=sizeLine)(hl:∀i ys σ H,i<=`xs->c i ys σ H->yp K H a xs/\`ys<=i)(hs:∀i x ys σ H,xs[i]?=A0 x->c i ys σ H->g x σ H λσ2 H3=>tf σ2 H3 λb H4=>if b=Eg then te σ2 H4 λy H5=>c (i+1) (ys++[y]) σ2 H5 else c (i+1) ys σ2 H4)(hd:∀ys σ H,c `xs ys σ H->∀p,H p=Ee->Q (.ref p) (upd H p<|.lst ys)):Xr src (WA K a) g tf te Q σ H:=X7 _ c j l (λi ys σ H f p=>(hl i ys σ H f p).2) (λys σ H p=>#[xs,(hl _ ys σ H (ZG _) p).1,ZG _]) (λi ys σ H f p=>#[xs,xs[i],(hl i ys σ H (Y3 f) p).1,by simp[f]]) (λi ys σ H f p x n y=>by let#[e,y]:=y;subst e;let:=hs i x ys σ _ (y xs (hl i ys σ _ (Y3 f) p).1) p) hd
def RX(c:Nat->Di->St->Hp->Prop)(j:c 0 [] (U9 src σ) H)(l:`xs<=sizeLine)(hl:∀i ys σ H,i<=`xs->c i ys σ H->yq K H a xs/\`ys<=i)(hs:∀i x ys σ H,xs[i]?=A0 x->c i ys σ H->g x σ H λσ2 H3=>tf σ2 H3 λb H4=>if b=Eg then te σ2 H4 λy H5=>c (i+1) (ys++[y]) σ2 H5 else c (i+1) ys σ2 H4)(hd:∀ys σ H,c `xs ys σ H->∀p,H p=Ee->Q (.ref p) (upd H p<|.lst ys)):Xr src (fh K a) g tf te Q σ H:=X7 _ c j l (λi ys σ H f p=>(hl i ys σ H f p).2) (λys σ H p=>#[xs,(hl _ ys σ H (ZG _) p).1,ZG _]) (λi ys σ H f p=>#[xs,xs[i],(hl i ys σ H (Y3 f) p).1,by simp[f]]) (λi ys σ H f p x n y=>by let#[e,y]:=y;subst e;let:=hs i x ys σ _ (y xs (hl i ys σ _ (Y3 f) p).1) p) hd
def NH{lo:Int}(c:Nat->Di->St->Hp->Prop)(j:c 0 [] (U9 src σ) H)(l:n<=sizeLine)(hl:∀i ys σ H,i<=n->c i ys σ H->`ys<=i)(hs:∀i ys σ H,i<n->c i ys σ H->g (.int<|lo+i) σ H λσ2 H3=>tf σ2 H3 λb H4=>if b=Eg then te σ2 H4 λy H5=>c (i+1) (ys++[y]) σ2 H5 else c (i+1) ys σ2 H4)(hd:∀ys σ H,c n ys σ H->∀p,H p=Ee->Q (.ref p) (upd H p<|.lst ys)):Xr src (bS lo n) g tf te Q σ H:=X7 n c j l hl (λ_ _ _ _=>ZG _) (λ_ _ _ _ f _=>f) (λi ys σ H f p x o y=>by let#[e,y]:=y;subst e y;let:=hs i ys σ _ f p) hd
def iW{A:V->St->Hp->Prop}{B:St->Hp->Prop}:(λσ2 H3=>Ir σ2 H3 λb H4=>if b=Eg then te σ2 H4 λy H5=>A y σ2 H5 else B σ2 H4)=λ(σ2:St)(H3:Hp)=>te σ2 H3 λy H5=>A y σ2 H5:=rfl
def qR(b:Nat->Di->St->Hp->Prop)(c:b 0 [] (U9 src σ) H)(e:`xs<=sizeLine)(hl:∀i ys σ H,i<=`xs->b i ys σ H->yp K H a xs/\`ys<=i)(hs:∀i x ys σ H,xs[i]?=A0 x->b i ys σ H->g x σ H λσ2 H3=>te σ2 H3 λy H5=>b (i+1) (ys++[y]) σ2 H5)(hd:∀ys σ H,b `xs ys σ H->∀p,H p=Ee->Q (.ref p) (upd H p<|.lst ys)):Xr src (WA K a) g Ir te Q σ H:=BK b c e hl hs hd
def kU(b:Nat->Di->St->Hp->Prop)(c:b 0 [] (U9 src σ) H)(e:`xs<=sizeLine)(hl:∀i ys σ H,i<=`xs->b i ys σ H->yq K H a xs/\`ys<=i)(hs:∀i x ys σ H,xs[i]?=A0 x->b i ys σ H->g x σ H λσ2 H3=>te σ2 H3 λy H5=>b (i+1) (ys++[y]) σ2 H5)(hd:∀ys σ H,b `xs ys σ H->∀p,H p=Ee->Q (.ref p) (upd H p<|.lst ys)):Xr src (fh K a) g Ir te Q σ H:=RX b c e hl hs hd
def kG{lo:Int}(b:Nat->Di->St->Hp->Prop)(c:b 0 [] (U9 src σ) H)(e:n<=sizeLine)(hl:∀i ys σ H,i<=n->b i ys σ H->`ys<=i)(hs:∀i ys σ H,i<n->b i ys σ H->g (.int<|lo+i) σ H λσ2 H3=>te σ2 H3 λy H5=>b (i+1) (ys++[y]) σ2 H5)(hd:∀ys σ H,b n ys σ H->∀p,H p=Ee->Q (.ref p) (upd H p<|.lst ys)):Xr src (bS lo n) g Ir te Q σ H:=NH b c e hl hs hd
end
mutual
def Dt(K:CK)(H:Hp):(EB->V->Prop)|.none,v=>v=.non|.bool b,v=>v=.bl b|.int i,v=>v=.int i|.str x,v=>v=.str x|.list ds,v=>∃a xs,v=.ref a/\yp K H a xs/\zu K H ds xs|.tuple ds,v=>∃a xs,v=.ref a/\yq K H a xs/\zu K H ds xs|.dict _,_=>False
def zu(K:CK)(H:Hp):(De->Di->Prop)|[],xs=>xs=[]|d::ds,xs=>∃x r,xs=x::r/\Dt K H d x/\zu K H ds r
end
def zx.yr(e:zx H H')(h:yq K H a xs):yq K H' a xs:=by
 rcases h with(h|⟨o,h⟩)|h;.let:=.inl<|.inl<|e _ _ h
 .let:=.inl<|.inr #[o,e _ _ h]
 .let:=.inr h
mutual
theorem Dt.same{K:CK}(e:zx H H'):∀(d:EB)(v:V),Dt K H d v->Dt K H' d v|.none,_,h=>h|.bool _,_,h=>h|.int _,_,h=>h|.str _,_,h=>h|.list ds,_,⟨a,xs,h1,h2,h3⟩=>#[a,xs,h1,e.seq h2,zu.same e ds xs h3]|.tuple ds,_,⟨a,xs,h1,h2,h3⟩=>#[a,xs,h1,e.yr h2,zu.same e ds xs h3]|.dict _,_,h=>h
theorem zu.same{K:CK}(e:zx H H'):∀(ds:De)(xs:Di),zu K H ds xs->zu K H' ds xs|[],_,h=>h|d::ds,_,⟨x,r,h1,h2,h3⟩=>#[x,r,h1,Dt.same e d x h2,zu.same e ds r h3]end
def zu.length:∀{ds:De}{xs:Di},zu K H ds xs->`xs=`ds|[],_,h=>by cases h;rfl|d::ds,_,⟨x,r,h1,h2,h3⟩=>by rw[h1,Yj,Yj,`zu h3]
def zu.append{K:CK}:∀{ds es:De}{xs ys:Di},zu K H ds xs->zu K H es ys->zu K H (ds++es) (xs++ys)|[],_,_,_,h,h'=>by cases h;let:=h'|d::ds,_,_,_,⟨x,r,h1,h2,h3⟩,h'=>#[x,_,by rw[h1];rfl,h2,zu.append h3 h']
def zu.get{K:CK}:∀{ds:De}{xs:Di}{i:Nat}{x:V},zu K H ds xs->xs[i]?=A0 x->∃d,ds[i]?=A0 d/\Dt K H d x|[],_,_,_,h,e=>by cases h;simp at e|d::ds,_,0,_,⟨x,r,h1,h2,h3⟩,e=>by rw[h1]at e;simp at e;subst e;let:=#[d,Ej,h2]|d::ds,_,i+1,_,⟨x,r,h1,h2,h3⟩,e=>by rw[h1]at e;let#[b,c,f]:=zu.get h3 (by trivial);let:=#[b,by trivial]
def zu.strs{K:CK}:∀(ls:By),zu K H (ls.map E9)<|ls.map V.str|[]=>rfl|x::ls=>#[_,_,Ej,Ej,zu.strs ls]
def zu.tu{K:CK}:∀{ls:By}{xs:Di},zu K H (ls.map E9) xs->xs=ls.map V.str|[],_,h=>h|x::ls,_,⟨v,r,h1,h2,h3⟩=>by rw[h1,h2,zu.tu h3];rfl
section
variable{σ:St}{H:Hp}
mutual
theorem Dt.zp(I:Inv X Dp σ H s):∀(d:EB)(v:V)(u:Es),Dt X.K H d v->yu v u->∃as,Reads s.heap u d as|.none,_,u,h,r=>by cases show _=V.non from h;cases show u=EY from r;let:=#[_,.none]|.bool b,_,u,h,r=>by cases show _=V.bl b from h;cases show u=Value.bool b from r;let:=#[_,.bool b]|.int i,_,u,h,r=>by cases show _=V.int i from h;let#[t,e]:=show∃t,u=Value.int i t from r;cases e;let:=#[_,.int i t]|.str x,_,u,h,r=>by cases show _=V.str x from h;let#[t,e]:=show∃t,u=Value.str x t from r;cases e;let:=#[_,.str x t]|.list ds,_,u,⟨a,xs,h1,h2,h3⟩,r=>by subst h1;cases show u=EO a from r;let#[f,g,#[o,n,e,c,_,d],_]:=I.list h2;let#[as,q]:=zu.zp I ds xs f h3 g;let:=#[_,.list e c d<|by simpa using q]|.tuple ds,_,u,⟨a,xs,h1,h2,h3⟩,r=>by subst h1;cases show u=EO a from r;let#[f,g,#[o,e,c,n,d],_]:=I.tuple h2;let#[as,q]:=zu.zp I ds xs f h3 g;let:=#[_,.tuple e c d<|by simpa using q]|.dict _,_,_,h,_=>E4 h
theorem zu.zp(I:Inv X Dp σ H s):∀(ds:De)(xs:Di)(us:Da),zu X.K H ds xs->zb xs us->∃as,Ms s.heap us ds as|[],_,us,h,r=>by cases show _=[]from h;cases r;let:=#[_,.nil]|d::ds,_,us,⟨x,rr,h1,h2,h3⟩,r=>by subst h1;cases r with|cons r1 r2=>let#[as,b]:=Dt.zp I d x _ h2 r1;let#[bs,c]:=zu.zp I ds rr _ h3 r2;let:=#[_,.cons b c]end
end
inductive zxM(K:CK)(x y:V)(H:Hp)(Q:VK):Prop|mk(d e:EB)(h:Dt K H d x)(i:Dt K H e y)(s:EU d=Eg)(t:EU e=Eg)(q:Q (.bl<|EX d e) H):zxM K x y H Q
inductive zwW(K:CK)(x:V)(y:V)(H:Hp)(Q:VK):Prop|mk(d:_)(e:_)(h0:Dt K H d x)(h1:Dt K H e y)(h2:EU d=Eg)(h3:EU e=Eg)(h4:Q (.bl<|!EX d e) H):zwW K x y H Q
def kR(b:X.A.units+64<Ld):CW X (EZ .Eq)<|zxM X.K:=by intro j s n H x y v u Q I g i h;let#[d,e,h1,h2,h3,h4,q]:=h;let#[l,c]:=Dt.zp I d x v h1 g;let#[bs,f]:=Dt.zp I e y u h2 i;let:=SeqAt.compareEq_shaped c f h3 h4 b #[.bl _,H,I,Ej,q]
def G8(b:X.A.units+64<Ld):CW X (EZ .NotEq)<|zwW X.K:=by intro j s n H x y v u Q I g i h;let#[d,e,h1,h2,h3,h4,q]:=h;let#[l,c]:=Dt.zp I d x v h1 g;let#[bs,f]:=Dt.zp I e y u h2 i;let:=SeqAt.compareNe_shaped c f h3 h4 b #[.bl _,H,I,Ej,q]
def uV:∀{ys:By}{us:Da},zb (ys.map V.str) us->StrsAre us ys|[],us,r=>by cases r;let:=.nil|y::ys,us,r=>by cases r with|cons r1 r2=>let#[t,e]:=r1;subst e;let:=.cons y t<|uV r2
def BV:∀{us:Da}{ys:By},StrsAre us ys->zb (ys.map V.str) us|_,_,.nil=>.nil|_,_,.cons y t r=>.cons #[t,Ej]<|BV r
inductive rJoin(K:CK)(x:V)(vs:Di)(H:Hp)(Q:VK):Prop|mk(sep:_)(p:_)(ys:_)(h0:x=.str sep)(h1:vs=[.ref p])(h2:yp K H p (ys.map V.str)\/yq K H p (ys.map V.str))(h3:(ys.map (·.length)).sum+`ys*`sep<=16777216)(h4:Q (.str<|Txt.join sep ys) H):rJoin K x vs H Q
def IF:bt X "str.join"<|rJoin X.K:=by
 intro n s y H x xs v o Q I i f h;let#[j,p,w,rfl,rfl,hq,e,q]:=h;let#[t,rfl]:=i;let#[u,rfl,g]:=wW f;cases g;rcases hq with hq|hq;.let#[b,r,c,_]:=I.list hq;let:=join_list c.isList (by simpa using uV r) e λl k=>#[.str _,H,I.tok _,#[_,Ej],q]
 .let#[b,r,c,_]:=I.tuple hq;let:=join_tuple c (by simpa using uV r) e λl k=>#[.str _,H,I.tok _,#[_,Ej],q]
def Il{b:Es}(h:MY b lo):∃o:Option<|Int×Tok,b=partValue o/\lo=o.map (·.1):=by cases h with|none=>let:=#[Ee,Ej,Ej]|int i t=>let:=#[A0 (i,t),Ej,Ej]
inductive zw5(x:V)(lo:Option Int)(hi:Option Int)(H:Hp)(Q:VK):Prop|mk(z:_)(h0:x=.str z)(h1:`z<=sizeLine)(h2:Q (.str<|LG z lo hi) H):zw5 x lo hi H Q
def XY:FD X zw5:=by intro i s u H x v p r lo j sl Q I g b e f h;let#[z,rfl,c,q]:=h;let#[t,rfl]:=g;let#[l,rfl,rfl]:=Il e;let#[n,rfl,rfl]:=Il f;let:=#["str",_,F.slot_str_getitem.lookup,V0 _ _ _,wpAny_getItem_str_slice (st:=Ee) b rfl<|post_val_or_str #[Yz (Txt.slice_le z _ _) c,λo k=>#[.str _,H,I.tok _,#[_,Ej],q]]]
section
variable{σ:St}{H:Hp}
def Inv.zz0(I:Inv X Dp σ H s)(i:∀b∈ch,X4 X Dp H b)(k:∀b o,b∉ch->s.heap.get? b=A0 o->h'.get? b=A0 o)(th:∀b∈ch,∃o,h'.get? b=A0 o):Inv X Dp σ H {s with heap:=h',toks:=t'}:=by
 let g:∀b u,H b=A0 u->b∉ch:=λb u e z=>by rw[(i b z).1]at e;cases e
 let:=I.step (λb hb=>?_) (λb o _ _ f e _=>k b o f e) (λb o _ _ f e _=>#[_,k b o f e]) (λ_ _ _ _ n=>n) (λb o f e=>#[o,k b o f e]) (λ_ _ e=>e) (λ_ _ _ e=>e) (λb x e=>#[#v[],by rw[e];simp]) (λm hm=>?_) (λb u e=>?_) I.bare;.let#[_,t,_,w,f5]:=i b hb;trivial
 .let#[o,l,j,p,r]:=hm;let:=#[o,l,j,k _ o (λz=>(i _ z).2.1 rfl) p,r]
 .let:=(I.hok b u e).stay (λc v f q=>k c v ?_ q) (λ_ q=>q) λ_ _ q=>q;rcases f with z|z;.rw[z];let:=g b u e
  .let:=g c _ z
def Un.zyI{D:Er}(u:Un fs ex H H1 h h1)(i:h.get? D=Ee)(c:H1 D=Ee):Un fs ex H (upd H1 D o) h h1 where
 keep:=u.keep
 slot:=u.slot
 free:=λb ob q n f=>by let hb:b≠D:=λz=>⋯;rw[zH hb];let:=u.free b ob q n f
 there:=u.there
 tups:=λb xs q=>(zH<|zL (u.tups b xs q) c)▸u.tups b xs q
 sO:=λb ob xs q=>(zH<|zL (u.sO b ob xs q) c)▸u.sO b ob xs q
 rD:=λb g q=>by let#[m,e]:=u.rD b g q;let:=#[m,(zH<|zL e c)▸e]
def Inv.zx4{T:Er}{o:HO}(I:Inv X Dp σ H s)(n:H T=Ee)(f:X.s₀.heap.objs.size<=T)(g:T≠X.env.locals)(i:∀x c,X.env.cells.lookup x=A0 c->c≠T)(j:∀p∈X.pn++Dp,p.1≠T)(new:xx X.prog X.w (upd H T o) s.heap T o):Inv X Dp σ (upd H T o) s:=by
 let:=#[I.ok,I.os,I.bare,I.dX.zyI (Uu f) n,I.loc,I.cell,?_,λx c e=>?_,λp b=>?_,I.hok.adopt n new,I.len];.rw[zH<|EG g];let:=I.free
 .rw[zH<|i x c e];let:=I.wJ x c e
 .let#[e,l,ne,q,d]:=I.pin p b;let:=#[e,(zH<|j p b)▸l,ne,q,d]
end
def fg(x:Str):(It):=#[λi _=>i<`x,λi H v b=>b=H/\∃c,x.cps[i]?=A0 c/\v=.str #[#v[c]],λi _=>i=`x]
def Gu{U:ER}{f:Er}{j:Nat->EH->Prop}(F:∀A:EL,A.handled=Ee->Walks P w A f [f] [f] x.cps.size (SignAt x) j)(ho:∀i h,j i h->∃o,h.get? f=A0 o/\∀v,o.data≠.cell v)(g:∀(A:EL)(i:Nat)(s:Eu)(Q:Es->Dg)(E:Es->Dg),j i s.heap->Q (.ref f) s->EA (EC P w) A (pyIter<|.ref f) Q E s):Turn P w K U (fg x) [f] f j where
 mem:=by simp
 obj:=λi h st b hb=>by
  let e:=by simpa using hb
  subst e;let:=ho i h st
 keep:=(F {} rfl).frame
 item:=by intro X D N B G i Dp s T H E I l st L;subst D N B;let#[p,q,f2,r,t,f5]:=l f (by simp);let:=(F X.A<|I.ok.hd G).item i s _ _ L st λv z Y hv S R=>?_;let#[c,u,J,rfl]:=hv;let I1:Inv X _ T H {s with heap:=z,toks:=Y}:=I.turned (λb o hb e=>R b o (by simpa using hb) e) p q r t f5;let:=#[_,Ej,?_];let y:∃Z n,Inv X _ T n _/\yu Z _/\(fg x).yld i H Z n/\j _ z/\∀b∈[f],n b=Ee:=#[.str _,H,I1,#[u,Ej],#[Ej,c,J,Ej],S,λb hb=>(l b hb).1];cases U<;>let:=ZF y
 done:=by intro X D N B G i Dp s T H E I l st L;subst D N B;let#[p,q,f2,r,t,f5]:=l f (by simp);let:=(F X.A<|I.ok.hd G).done s _ _ (by let e:=L;subst e;let:=st) λz Y R=>#[Ej,I.turned (λb o hb e=>R b o (by simpa using hb) e) p q r t f5]
 self:=g
def iQ(c:TE):(TI):=λe H R=>c e H λx b=>∃z,x=.str z/\R (fg z) b
def Oe(u:PE X e te):PI X tg e<|iQ te:=by
 intro r s B H R I h;let:=CN (u r s B H _ I h) λv c ⟨x,n,f,y,w⟩=>?_;let#[z,e,q]:=w;subst e;let#[t,rfl]:=y;let p:=f.hok.fresh<|ZG _;cases ha:z.cps.all (·<128)
 .let:=wpAny_pyIter_wide ha #[⇑c,[⇑c],λi h=>h.IsStrIter ⇑c "str_iterator" z t i,_,n,Ej,f.kept (t':=c.toks) λb o e=>ZE _ e,Gu (λA g=>Walks.strWide g _ z t) (λi h ⟨o,l,_,hd⟩=>#[o,l,λv z=>by rw[hd]at z;cases z])<|λ_ _ _ _ _ st j=>wpAny_pyIter_striter_wide st j,#[_,ZL _ rfl,Ej,Ej],λb hb=>?_,q];let e:=by simpa using hb
  subst e;let:=f.pC (ZG _) p
 .let:=wpAny_pyIter_ascii ha #[⇑c,[⇑c],λi h=>h.IsStrIter ⇑c "str_ascii_iterator" z t i,_,n,Ej,f.kept λb o e=>ZE _ e,Gu (λA g=>Walks.strAscii g _ z t) (λi h ⟨o,l,_,hd⟩=>#[o,l,λv z=>by rw[hd]at z;cases z])<|λ_ _ _ _ _ st j=>wpAny_pyIter_striter_ascii st j,#[_,ZL _ rfl,Ej,Ej],λb hb=>?_,q];let e:=by simpa using hb
  subst e;let:=f.pC (ZG _) p
abbrev Wz(J:It)(g:TG)(tb:TS)(D:Ends)(σ:St)(H:Hp):Prop:=zyZ J g tb D σ H
def So{J:It}{D:Ends}{b:St}{H:Hp}(n:Nat)(c:Nat->St->Hp->Prop)(o:c 0 b H)(l:∀b H,c n b H->J.stop n H)(j:∀i b H,i<n->c i b H->J.go i H)(hs:∀i b H,i<n->c i b H->∀x H',J.yld i H x H'->g x b H' λσ2 H2=>tb {D with nx:=c<|i+1,ct:=c<|i+1,bk:=D.nx} σ2 H2)(hd:∀b H,c n b H->D.nx b H):Wz J g tb D b H:=by
 let:=#[λi m b H=>m=n-i/\i<=n/\c i b H,#[n,by simp,Yk _,o],?_];rintro i m b H ⟨rfl,s,p⟩;by_cases f:i<n;.let:=.inr #[j i b H f p,_,λr H' q=>#[_,⋯,Ej,f,q],hs i b H f p]
 .let e:i=n:=⋯;subst e;let:=.inl #[l b H p,hd b H p]
def WN{D:Ends}{b:St}{H:Hp}(f:Nat->St->Hp->Prop)(n:f 0 b H)(hs:∀i c b H(E:Ends)(G:Prop),x.cps[i]?=A0 c->Ed D (f<|i+1) E->(g (.str #[#v[c]]) b H (λσ2 H2=>tb E σ2 H2)->G)->f i b H->G)(hd:∀b H,f `x b H->D.nx b H):Wz (fg x) g tb D b H:=So _ f n (λ_ _ _=>rfl) (λ_ _ _ j _=>j) (λi b H j p v q y=>by let#[e,c,o,l]:=y;subst e l;let:=hs i c b _ _ _ o Ed.me id p) hd
section
variable{Ef:List ER}{x1:Nat}
inductive vh(K:CK)(x:V)(lo:Option Int)(hi:Option Int)(H:Hp)(Q:VK):Prop|mk(a:_)(xs:_)(h0:x=.ref a)(h1:yq K H a xs)(h2:∀v H',v=.ref a/\H'=H/\Xn xs lo hi=xs\/(∃p,H p=Ee/\v=.ref p/\H'=upd H p (.tup<|Xn xs lo hi))->Q v H'):vh K x lo hi H Q
end
namespace AxT
open HT
def rF{t sl:Er}{b:Array Es}{n o:Es}{f:Option Int}(c:IsTup s.heap t b)(hs:s.heap.IsSliceOf sl n o .none)(q:MY n lo)(r:MY o f)(l:ux b.size 0 lo=0/\ux b.size b.size f=b.size)(h:Q (.ref t) s):EA (EC prog w) A (MS (.ref t)<|.ref sl) Q E s:=by
 let#[os,j,i,p]:=id hs;let g:s.TypeIs (.ref sl) "slice":=#[os,j,i];unfold MS;try with_reducible let:=Ys ?_
 let:=Zz<|wpAny_sequenceKey c.typeIs ∅<|Zz<|YJ c.typeIs JE<|Yw JE c.typeIs entry_tuple_getitem ?_<|args_tuple_getitem ..;show EA _ _ (Mg (.ref t)>>=_) _ _ s;let:=Zz<|tupleItemsOf_ c<|Zz<|J9 g ?_;rw[Z4<|∅];let:=Zz<|jD hs q r ?_;let e:((ux b.size 0 lo:Int)==0&&(1:Int)==1&&ux b.size b.size f-ux b.size 0 lo==b.size)=Eg:=by rw[l.1,l.2];simp
 show EA _ _ (if((ux _ 0 lo:Int)==0&&1==1&&ux b.size b.size f-ux b.size 0 lo==b.size)=Eg then _ else _) _ _ s;rw[Z4 e];let:=Zz<|Zz<|J9 c.typeIs<|ZF ?_;rw[Z4<|∅];let:=Zz<|JK<|ZF #[_,Ej,ZF h]
end AxT
def wH:FD X<|vh X.K:=by
 intro u s z H x v w y lo i sl Q I t j n o h;let#[a,xs,rfl,p,q]:=h;cases t;let#[c,r,g,l]:=I.tuple p;let f:c.toArray.size=`xs:=Z7▸r.length.symm;let:=#["tuple",_,JE.lookup,g.typeIs,?_];by_cases e:HT.ux c.toArray.size 0 lo=0/\HT.ux c.toArray.size c.toArray.size i=c.toArray.size;.let:=AxT.rF g j n o e #[.ref a,H,I,Ej,q _ _<|.inl #[Ej,Ej,?_]];rw[f]at e;unfold Xn;rw[e.1,e.2];simp
 .let:=HT.tY g j n o e ?_<|f▸l;rw[f];let:=#[.ref _,_,I.laid (λb ob q=>ZE _ q) (ZG _) ?_,Ej,q _ _<|.inr #[_,I.hok.fresh<|ZG _,Ej,Ej]];let:=#[Yz (kD xs lo i) l,_,(r.drop _).take _,TupAt.new ..]
inductive zyE(K:CK)(x:V)(lo:Option Int)(hi:Option Int)(H:Hp)(Q:VK):Prop|mk(a:_)(y:_)(xs:_)(h0:x=.ref a)(h1:lo=A0 1)(h2:yq K H a<|y::xs)(h3:∀p,H p=Ee->Q (.ref p) (upd H p<|.tup<|Xn (y::xs) lo hi)):zyE K x lo hi H Q
def zxO:FD X<|zyE X.K:=by
 intro u s A H x v w z lo i sl Q I t j o p h;let#[a,y,xs,rfl,rfl,n,q]:=h;cases t;let#[e,r,f,g]:=I.tuple n;let c:e.toArray.size=↑(y::xs):=r.length.symm;let:=#["tuple",_,JE.lookup,f.typeIs,HT.tY f j o p (λl=>?_) ?_<|c▸g];.have:=l.1;rw[c,show 1=((1:Nat):Int)from rfl,HT.lU,Yj]at this;lia
 .rw[c];let:=#[.ref _,_,I.laid (λb ob q=>ZE _ q) (ZG _) ?_,Ej,q _<|I.hok.fresh<|ZG _];let:=#[Yz (kD _ (A0 1) i) g,_,(r.drop _).take _,TupAt.new ..]
structure xu(P:Et)(w:Ey)(K:CK)(mg:Str->Db)(dX:EH)(k:Nat)(x:Str)(ps:By)(sp:Sp):Prop where ex:∃(f:Er)(fd:Ew),zj P w K mg dX CO k f fd ps sp/\mg x=A0 (.ref f)/\E5 K (.ref f)=Eg/\wV K fd ps []
def vF{e:ER}{b:List ER}{p:Pos}(C:xu X.prog X.w X.K X.mg X.dX k x ps sp)(l:xj k X.A)(ha:PA X (e::b) t)(j:Gl X x:=by rfl)(c:(x==("__debug__":Str))=Ei:=by decide)(i:EI (e::b) X.env=(Ei,E8 e X.env)::EI b X.env:=by rfl)(g:(Lu pos<|EI b X.env).any (·.1)=Ei:=by rfl):PE X (.Call (.Name x p) (e::b) [] pos)<|Nm sp [] E0 t:=by let#[f,n,F,hm,hk,hb]:=C.ex;let:=ao F l j hm hk hb .nil K4 ha c i g
def xu.mk'{st:ES}(F:yd K x qual st f fd)(G:zj P w K mg dX CO k f fd ps sp)(hm:mg x=A0 (.ref f))(b:wV K fd ps []):xu P w K mg dX k x ps sp:=#[f,fd,G,hm,F.kp,b]
def KD(P:Et)(w:Ey)(K:CK)(a:Er)(Dl:Dk):(Prop):=∀h:EH,K.In h->∃b,KV Dl b/\h.DictOf (yx P w) a b
def g8(P:Et)(w:Ey)(K:CK)(g ty:TE):(TE):=λc H Q=>g c H λx e=>ty c e λy f=>∃a b k v,x=.ref a/\y=kV k/\KD P w K a b/\U0 b k=A0 v/\Q v f
def av{i:ER}(t:PE X o td)(r:PE X i ty)(hs:WC i):PE X (.Subscript o i pos)<|g8 X.prog X.w X.K td ty:=by intro L s g H Q I h;let:=HC PySem.F.slot_dict_getitem.lookup hs<|CN (t _ s g H _ I h) λu G ⟨x,j,p,D,A⟩=>CN (r _ G g j _ p A) λN s2 q9=>?_;let#[y,n,e,E,a,J,k,v,ex,q,kd,l,B]:=q9;subst ex q;obtain rfl:u=EO a:=D;let#[P,b,f]:=kd _ e.sJ;let#[R,z,c]:=sU.some_of<|l▸b.val k;let:=#[f.typeIs,wpAny_getItem_of (v9 E) f.mapOf z #[v,n,e.tok _,c,B]]
def HY:xq X (.builtin "isinstance") λxs H Q=>∃y T t b,xs=[y,.ty T]/\qe X.K H y t/\E3 X.K t (.type T)=A0 b/\Q (.bl b) H:=by intro g s n H xs j Q I r h;let#[y,T,t,b,rfl,ty,e,q]:=h;let#[u,l,rfl,f,c]:=vals2 r;cases c;let:=qN I f ty e λi=>#[.bl b,H,I.tok _,Ej,q]
section
variable{a:ER}{ta:TE}
def hX(K:CK)(ta:TE):(TT):=λc H Q=>ta c H λx b=>∃k,RP K x b k/\Q k b
def zU(ha:PE X a ta)(b:∀whole,isTrue a X.env whole=(do let v<-whole;standAt a.pos;MW [v]<|truthy v):=by intro _;rfl)(c:X.K=K:=by rfl):PT X a<|hX K ta:=TX ha b
def iZ(K:CK):(Di->Hp->VK->Prop):=λxs H Q=>∃y T t b,xs=[y,.ty T]/\qe K H y t/\E3 K t (.type T)=A0 b/\Q (.bl b) H
def FL(b:X.K=K:=by rfl):xq X (.builtin "isinstance")<|iZ K:=by subst b;let:=HY
end
end L2
namespace An
open PySem L2
abbrev cs(x:Str):List Nat:=x.cps.toList
def wR(h:cs x=cs y):x=y:=by let#[a]:=x;simp_all
def zf(x y:Str):cs (x++y)=cs x++cs y:=by show(x.cps++y.cps).toList=_;simp
def za(x:Str):`x=↑(cs x):=rfl
def yo(x y:Str):↑(x++y)=`x+`y:=by simp[za,zf,ZS]
def uL:∀xs:By,cs (Str.join "" xs)=xs.flatMap cs
 |[]=>rfl|[x]=>by show cs x=_;simp|x::y::r=>by
  show cs (x++""++Str.join "" _)=_;have:cs ""=[]:=by rfl
  simp_all[zf,uL]
def qJ:∀(a b:By),E7 (a.map .str) (b.map .str)=decide (a=b)|[],[]=>rfl|[],_::_=>rfl|_::_,[]=>rfl|x::a,y::b=>by show(x==y&&E7 ..)=_;rw[qJ a b,YV];simp
structure Ok(n:Nat)(x:Str):Prop where
 len:`x<=n
 ok:Ez x=Eg
def yT(x:Str):Ez x=Eg↔∀c∈cs x,c<1114112:=by unfold Ez;rw[<-Array.all_toList,Yc];simp
def vH:∀ls:By,(∀p∈ls,Ez p=Eg)->EJ (ls.map .str)=Eg/\E2 (ls.map .str)=0
 |[],_=>#[Ej,Ej]|x::ls,h=>by
  let#[h1]:=vH ls λp b=>h p<|ZB _ b;let:=#[?_,?_];.show(Ez x&&EJ _)=Eg;rw[h x ZD,h1];rfl
  trivial
def xM{ls:By}(h:∀p∈ls,Ez p=Eg):EU (.list<|ls.map .str)=Eg/\EU (.tuple<|ls.map .str)=Eg:=by
 let#[h1,h2]:=vH ls h;let:=#[?_,?_];.show(EJ _&&decide (E2 _+1<=64))=Eg;rw[h1,h2];rfl
 .show(EJ _&&decide (E2 _+1<=64))=Eg;rw[h1,h2];rfl
def zz{H:Hp}{l:Er}(h:H l=Ee):zx H<|upd H l o:=λb u e=>(zH<|zL e h)▸e
def zx.qi{l:Er}(e:zx H H2)(n:H l=Ee):zx H<|upd H2 l o:=λb u q=>(zH<|zL q n)▸e b u q
def zr(h:n<=16777216):n<=sizeLine:=h
def yM(h:n<16777216):n<sizeLine:=h
def GV{α:Type}(x:α)(r:List α):FG (x::r) 0=A0 x:=xB rfl
def UY(n:Nat)(h:n<=16777216:=by decide):n<=sizeLine:=zr h
def F4{c A B:Prop}[Decidable c](hc:¬c)(h:B):if decide c=Eg then A else B:=by simp_all
def Op{n:Nat}:∀(ys:By),(∀y∈ys,`y<=n)->(ys.map (·.length)).sum<=`ys*n|[],_=>by simp|y::ys,h=>by let h1:=Op ys λz b=>h z<|ZB _ b;let h2:=h y ZD;grind[Z9,Vd,Yj,Nat.succ_mul]
def kW{α:Type}{p:α->Prop}{l:List α}{x:α}(h:∀y∈l,p y)(c:p x):∀y∈l++[x],p y:=λy b=>by rcases ZY.mp b with z|z<;>simp_all
def ce{α:Type}{f:α->V}{xs:List α}{i:Int}(b:0<=i)(h1:i<`xs):∃x,xs[i.toNat]?=A0 x/\FG (xs.map f) i=A0 (f x):=by let#[j,rfl]:=Jp b;let c:j<`xs:=⋯;let:=#[xs[j],by simp[c],xB ?_];simp_all
def cn{i:Int}(b:0<=i):Xn xs Ee (A0 i)=xs.take i.toNat:=by let#[j,rfl]:=Jp b;simp[Xn,HT.lG,HT.lU]
def R3{i:Int}(b:0<=i):Xn xs (A0 i) Ee=xs.drop i.toNat:=by
 let#[j,rfl]:=Jp b;unfold Xn;rw[HT.lG,HT.lU];by_cases h:j<=`xs;.rw[Nat.min_eq_left h];let:=JW<|by simp
 .rw[Nat.min_eq_right<|⋯,List.drop_eq_nil_of_le<|ZG _,List.drop_eq_nil_of_le<|⋯];simp
def pX(H c:Hp):(Prop):=∀b o,H b=A0 o->(∀xs,o≠.lst xs)->c b=A0 o
def pX.upd{H:Hp}{l:Er}{xs ys:Di}(h:H l=A0 (.lst xs)):pX H<|L2.upd H l<|.lst ys:=λb o e n=>by grind[zH]
def pX.tup(e:pX H H')(h:yq K H a xs):yq K H' a xs:=by
 rcases h with(h|⟨o,h⟩)|h;.let:=.inl<|.inl<|e _ _ h λxs z=>nomatch z
 .let:=.inl<|.inr #[o,e _ _ h λxs z=>nomatch z]
 .let:=.inr h
def OT{A B:Prop}(h:B):if(!Eg)=Eg then A else B:=UZ h
def gh{A B:Prop}(h:A):if(!Ei)=Eg then A else B:=U1 h
def one(c:Nat):(Str):=#[#v[c]]
def kH:∀l:List Nat,cs (Txt.join ""<|l.map one)=l:=by intro l;let b:Txt.join "" _=Str.join "" (l.map one):=Li ..;rw[b,uL,List.flatMap_map];induction l with|nil=>rfl|cons c l ih=>rw[JQ];rw[ih<|Li ..];rfl
def GN:∀l:List Nat,((l.map one).map (·.length)).sum=`l|[]=>rfl|c::l=>by rw[Z9,Z9,Vd,GN l,Yj];show 1+`l=_;lia
end An
namespace L2
open PySem PySem.Spec PyProof.Rows
def n1:[x].Nodup:=Vl _ _
section
variable{a b e elt:ER}{ta tb:TE}{DH:Pos}
def wS(i:Nat)(b:X.N.Nodup)(c:PE X e te)(g:X.N[i]?=A0 x:=by rfl)(j:Loc X.env.scope x:=by let:=MH rfl)(hs:Mj e (A0<|.Name x DH) pos.line X.env=Lm Ei:=by rfl)(f:X.fn x=Eg\/X.env.scope.names.lookup x=A0 .local:=by first|let:=.inl rfl|let:=.inr rfl):PS X (.Assign [.Name x DH] e pos)<|HD te<|Xh i:=XW b g j c hs f
def wN(i:Nat)(b:X.N.Nodup)(e:X.N[i]?=A0 x:=by rfl)(f:Loc X.env.scope x:=by let:=MH rfl)(c:X.fn x=Eg\/X.env.scope.names.lookup x=A0 .local:=by first|let:=.inl rfl|let:=.inr rfl):PG X (.Name x pos)<|Xh i:=aE b e f c
def wT(c:CW X (EZ op) r)(ha:PE X a ta)(hb:PE X b tb)(hm:Mo op b=Ei:=by let:=Tr _):PT X (.Compare a [op] [b] pos)<|BM<|Pw r ta tb:=aM c ha hb hm
def wC(c:CW X (EZ op) r)(ha:PE X a ta)(hb:PE X b tb)(hm:Mo op b=Ei:=by let:=Tr _):PE X (.Compare a [op] [b] pos)<|Pw r ta tb:=aq c ha hb hm
def wI(K:CK)(ha:PE X a ta)(hb:PE X b tb)(hs:FB b:=by let:=λ_ _=>rfl)(c:X.K=K:=by rfl):PE X (.Subscript a b pos)<|Pw (zxL K) ta tb:=by subst c;let:=Fu cM ha hb hs
def wL(K:CK)(ha:PE X a ta)(hb:PE X b tb)(hs:FB b:=by let:=λ_ _=>rfl)(c:X.K=K:=by rfl):PE X (.Subscript a b pos)<|Pw (zxR K) ta tb:=by subst c;let:=Fu WW ha hb hs
def wc{p:Pos}(C:xu X.prog X.w X.K X.mg X.dX k x ps sp)(i:xj n X.A)(ha:PA X (e::es) t)(hk:k<=n:=by decide)(g:Gl X x:=by rfl)(b:(x==("__debug__":Str))=Ei:=by decide)(f:EI (e::es) X.env=(Ei,E8 e X.env)::EI es X.env:=by rfl)(c:(Lu pos<|EI es X.env).any (·.1)=Ei:=by rfl):PE X (.Call (.Name x p) (e::es) [] pos)<|Nm sp [] E0 t:=vF C (i.mono hk) ha g b f c
def pZ{s:St}{H:Hp}(X:Cx)(D:Ends)(p:pB X ss t)(q:t D s H):∃t,pB X ss t/\t D s H:=#[_,p,q]
end
section
variable{M:Model}{q:Array Es->Prop}{L x:Er}
def Bx(q:Array Es->Prop):(Prop):=∀(b:Array Es)(v:Es),q b->q (b.setIfInBounds 1 v)
def RO(q:Array Es->Prop)(h dX:EH)(x:Er)(c f:Es):(Prop):=∃ob b T e ts,h.get? x=A0 ob/\(ob.cls=c/\q b)/\ob.data=.fields b/\b[1]?=A0 (.ref T)/\dX.get? T=Ee/\T≠x/\h.get? T=A0 e/\e.data=.fields ts/\ts[3]?=A0 f
def W9{h:EH}{y:Er}{c:Obj}{vs:Array Es}(e:h.get? y=A0 c)(hd:c.data=.fields vs):∀b o,h.get? b=A0 o->(∀ws,o.data≠.fields ws)->b≠y:=λb o hb f z=>by simp_all
def GZ(hq:Bx q){ob:Obj}{vs:Array Es}{head:Es}{nx:Bool}{Q:Unit->Dg}(y:A.frames=A0 (env::outer))(f:s.heap.FunFrames dX<|env::outer)(B:env.frame=A0 L)(j:s.heap.get? x=A0 ob)(D:dX.StaysIn s.heap)(G:dX.get? x=Ee)(hd:ob.data=.fields vs)(sz:1<vs.size)(hv:q vs)(k:∀h',dX.StaysIn h'->h'.FunFrames dX (env::outer)->RO q h' dX x ob.cls (La L)->s.heap.UpToSlots h'->Q () {s with heap:=h'}):EA M A (do let fo<-frameOf env;let pl<-entryPlaceOf L nx;let en<-EntryCells.newEntry head fo .none (La L) .none pl;setField (.ref x) 1 en) Q E s:=by
 let F:x∉(env::outer).filterMap _:=λz=>by let#[_,o,v,hn]:=f.mem z;rw[j]at v;cases v;let:=hn vs hd
 let:=Zz<|wpAny_frameOf_fun y f B λg i=>Zz<|wpAny_entryPlaceOf λpl p=>Zz<|YA ?_<|p.sizeOk5 ..;let u:g.get? x=A0 ob:=j▸i.2.1 x F;let t:dX.StaysIn g:=λb o e=>(i.2.1 b λz=>by rw[(f.mem z).1]at e;cases e)▸D b o e;let#[row,n]:∃row:Obj,row={cls:=.type "traceback",data:=.fields ([head,.ref L,.none,La L,.none]++if pl.isEmpty then EN 6 EY else pl).toArray}:=#[_,Ej];let w:=ZE row u;let c:=JV<|ZP u;rw[<-n];let keep:∀b o,b≠x->g.get? b=A0 o->((g.push row).update x (Ln (·.setIfInBounds 1<|EO g.objs.size))).get? b=A0 o:=λb o nb e=>by rw[Yq _ _<|EG nb];let:=ZE _ e
 let:=YW w hd sz<|k _ ?_ ?_ ?_ ?_;.intro b o e;let:=keep b o (λz=>by simp_all)<|t b o e
 .let:=f.of_keeps λb o e hn=>?_;let#[sl,l]:=i.2.2 b o e;let:=#[_,keep b _ (W9 j hd b o e hn) l,Ej]
 .let r:=Mu hd (·.setIfInBounds 1<|EO g.objs.size);let:=#[_,_,g.objs.size,row,_,Yt _ w<|Obj.isFreed_of_fields r,#[Obj.cls_mapFields ..,hq _ _ hv],r,by simp[sz],t.fresh,c,?_,by rw[n],?_];.rw[Yq _ _<|EG c];let:=ZL g<|by rw[n];rfl
  .simp
 .intro b o e hn;let#[sl,l]:=i.2.2 b o e;let:=#[sl,keep b _ (W9 j hd b o e hn) l]
def N4(hq:Bx q){ob:Obj}{vs:Array Es}{Q:Unit->Dg}(g:A.frames=A0 (env::outer))(f:s.heap.FunFrames dX<|env::outer)(c:env.frame=A0 L)(e:s.heap.get? x=A0 ob)(i:dX.StaysIn s.heap)(b:dX.get? x=Ee)(hd:ob.data=.fields vs)(h1:vs[1]?=A0 .none)(hv:q vs)(k:∀h',dX.StaysIn h'->h'.FunFrames dX (env::outer)->RO q h' dX x ob.cls (La L)->s.heap.UpToSlots h'->Q () {s with heap:=h'}):EA M A (noteFrame (.ref x) env) Q E s:=by unfold noteFrame;simp only[c];let:=Zz<|Jb e hd h1<|GZ hq g f c e i b hd (Jx.mp h1).1 hv k
def O4(hq:Bx q){c:Es}{Q:Unit->Dg}(u:A.frames=A0 (env::outer))(r:s.heap.FunFrames dX<|env::outer)(j:env.frame=A0 L)(t:RO q s.heap dX x c .none)(w:dX.StaysIn s.heap)(i:dX.get? x=Ee)(k:∀h',dX.StaysIn h'->h'.FunFrames dX (env::outer)->RO q h' dX x c (La L)->s.heap.UpToSlots h'->Q () {s with heap:=h'}):EA M A (noteFrame (.ref x) env) Q E s:=by
 let#[ob,J,T,H,ts,l,#[v,hv],hd,h1,G,p,g,dT,h3]:=t;subst v;unfold noteFrame;simp only[j];let:=Zz<|Jb l hd h1<|Zz<|Jb g dT h3 ?_;let f:∀b,b≠T->(s.heap.update T (Ln (·.setIfInBounds 3 EY))).get? b=s.heap.get? b:=λb nb=>Yq _ _<|EG nb;let n:=W9 g dT;let:=Zz<|YW g dT (Jx.mp h3).1<|GZ hq u (r.of_keeps λb o e hn=>#[o,(f b<|n b o e hn)▸e,Ej]) j ((f x<|EG p)▸l) (λb o e=>?_) i hd (Jx.mp h1).1 hv λh' y B D F=>k h' y B D λb o e hn=>?_;.rw[f b λz=>⋯];let:=w b o e
 .let:=F b o ((f b<|n b o e hn)▸e) hn
def qV{l:List Env}{Q:Unit->Dg}(v:dX.StaysIn s.heap)(u:s.heap.FunFrames dX l)(t:RO q s.heap dX x c fl)(k:∀h',dX.StaysIn h'->h'.FunFrames dX l->RO q h' dX x c .none->s.heap.UpToSlots h'->Q () {s with heap:=h'}):EA M A (setFlight (.ref x) Ee) Q E s:=by
 let#[ob,y,T,B,ts,n,hv,hd,h1,w,j,i,dT,h3]:=t;let r:=(Jx.mp h3).1;let p:=W9 i dT;let g:∀b,b≠T->(s.heap.update T (Ln (·.setIfInBounds 3<|(Ee:Option Er).elim EY λf=>La f))).get? b=s.heap.get? b:=λb nb=>Yq _ _<|EG nb;let:=Zz<|Jb n hd h1<|YW i dT r<|k _ (λb o e=>?_) (u.of_keeps λb o e hn=>#[o,(g b<|p b o e hn)▸e,Ej]) ?_ λb o e hn=>#[_,(g b<|p b o e hn)▸e];.rw[g b λz=>⋯];let:=v b o e
 .let:=#[ob,y,T,_,_,by rw[g x<|EG j];let:=n,hv,hd,h1,w,j,Yt _ i<|Obj.isFreed_of_fields<|Mu dT _,Mu dT _,?_];simp[r]
def KB(hq:Bx q){ob:Obj}{vs:Array Es}{Q:Unit->Dg}(e:A.frames=A0 (env::outer))(c:s.heap.FunFrames dX<|env::outer)(f:env.frame=A0 L)(i:s.heap.get? x=A0 ob)(j:dX.StaysIn s.heap)(b:dX.get? x=Ee)(hd:ob.data=.fields vs)(h1:vs[1]?=A0 .none)(hv:q vs)(k:∀h',dX.StaysIn h'->h'.FunFrames dX (env::outer)->RO q h' dX x ob.cls .none->s.heap.UpToSlots h'->Q () {s with heap:=h'}):EA M A (leaving env<|.ref x) Q E s:=Zz<|N4 hq e c f i j b hd h1 hv λg l n o p=>qV l n o λh' r t u v=>k h' r t u<|p.trans v
def NV(hq:Bx q){c:Es}{Q:Unit->Dg}(f:A.frames=A0 (env::outer))(e:s.heap.FunFrames dX<|env::outer)(i:env.frame=A0 L)(t:RO q s.heap dX x c .none)(j:dX.StaysIn s.heap)(b:dX.get? x=Ee)(k:∀h',dX.StaysIn h'->h'.FunFrames dX (env::outer)->RO q h' dX x c .none->s.heap.UpToSlots h'->Q () {s with heap:=h'}):EA M A (leaving env<|.ref x) Q E s:=Zz<|O4 hq f e i t j b λg l n o p=>qV l n o λh' r u v w=>k h' r u v<|p.trans w
end
def xx.there(x:xx P w H h a o):∃ob,h.get? a=A0 ob:=by cases o with|lst xs=>let#[_,_,_,_,e]:=x;let:=#[_,e]|tup xs=>let#[_,_,_,ob,e,_]:=x;let:=#[_,e]|dK Dl=>let#[_,_,_,_,ob,_,_,e,_]:=x;let:=#[_,e]|dT Dl=>let#[_,_,_,_,ob,_,_,e,_]:=x;let:=#[_,e]|set S n=>let#[ob,_,_,_,e,_]:=x;let:=#[_,e]|ins C dx fs=>let#[_,_,_,e,_]:=x;let:=#[_,e]|own y=>let:=x|xd fs=>let#[_,#[_,_,_,e,_],_]:=x;let:=#[_,e]|rng lo hi=>let#[_,_,_,e]:=x;let:=#[_,e]|frz ob u=>let#[e]:=x;let:=#[_,e]|tbl ps=>let:=#[_,x]|met f y=>let:=#[_,x]|ext φ=>let#[_,e,_]:=x;let:=e
def ctx0(vs:Array Es):(Prop):=vs[2]?=A0 .none
def XO:Bx ctx0:=λb v h=>by show(b.setIfInBounds 1 v)[2]?=A0 _;rwa[Array.getElem?_setIfInBounds_ne<|∅]
def ExcAt(h:EH)(a T:Er)(cls:Es):(Prop):=∃b c e ts,h.get? a=A0 b/\(b.cls=cls/\ctx0 c)/\b.data=.fields c/\c[1]?=A0 (.ref T)/\T≠a/\h.get? T=A0 e/\e.data=.fields ts/\ts[3]?=A0 .none
def HN(P:Et)(w:Ey):(RM):=λouter H s E e c=>∃a T cls b,e=.ref a/\c.os=s.os/\MQ c.gens/\Un (frs outer) [] H b s.heap c.heap/\rK P w b c.heap/\s.heap.get? a=Ee/\s.heap.get? T=Ee/\b a=Ee/\b T=Ee/\ExcAt c.heap a T cls/\E cls Ee b
section
variable{σ:St}{H:Hp}
def Inv.none_of(I:Inv X Dp σ H s){a:Er}(e:s.heap.get? a=Ee):H a=Ee:=by cases q:H a with|none=>rfl|some u=>let#[z]:=(I.hok a u q).there;simp_all
def Inv.uo(I:Inv X Dp σ H s)(b:X.ex=[]){a:Er}(e:s.heap.get? a=Ee):X.s₀.heap.get? a=Ee:=by cases q:X.s₀.heap.get? a with|none=>rfl|some o=>
  let#[ob]:=I.dX.there a o q<|by simp_all
  simp_all
abbrev Iz(h:EH)(as:Dc)(l:List Env):Heap:=PySem.W.hideAll h<|as++frs l
def kI{h:EH}{l:List Env}(f:h.FunFrames dX l):h.FunFrames (Iz h as l) l:=PySem.W.funFrames_hide f λenv c b hb=>Yb _<|JX.mpr #[env,c,hb]
def jY:(Iz h as l).StaysIn h:=λ_ _ q=>PySem.W.of_hideAll _ q
def R4(A:X.ex=[])(I:Inv X Dp σ H s){a T t:Er}{h2:EH}{E:XK}(N:X.s₀.heap.get? a=Ee)(Q:X.s₀.heap.get? T=Ee)(ha:H a=Ee)(K:H T=Ee)(D:X.s₀.heap.get? t=Ee)(F:H t=Ee)(J:ExcAt h2 a t cls)(q:E cls Ee H)(kp:∀b o,s.heap.get? b=A0 o->b≠a->b≠T->b∉frs X.stack->h2.get? b=A0 o)(sl:∀b o,s.heap.get? b=A0 o->b∈frs X.stack->∃sl,h2.get? b=A0 {o with slots:=sl}):HN X.prog X.w X.outer X.H₀ X.s₀ E (.ref a) {s with heap:=h2}:=by
 let L:∀b o,X.s₀.heap.get? b=A0 o->b≠X.env.locals:=λb o e=>ZU<|Z0 (ZP e) I.ok.above;let g:∀b,b∉X.ex:=λb=>by rw[A];simp
 let B:∀b o,X.s₀.heap.get? b=A0 o->b≠a:=λb o e z=>by simp_all
 let i:∀b o,X.s₀.heap.get? b=A0 o->b≠T:=λb o e z=>⋯;let:=#[a,t,cls,H,Ej,I.os,I.bare,#[λb o f n hb _=>?_,λb o f n hb _=>?_,λb o f n _=>I.dX.free b o f n<|g b,λb o f _=>?_,I.dX.tups,I.dX.sO,I.dX.rD],λb u f=>?_,N,D,ha,F,J,q]
 .let:=kp b o (I.dX.keep b o f n hb<|g b) (B b o f) (i b o f) λz=>?_;rcases ZJ.mp<|I.oM b z with r|r;.let:=L b o f r
  trivial
 .let#[G,j]:=I.dX.slot b o f n hb<|g b;by_cases l:b∈frs X.stack;.let#[p,y]:=sl b _ j l;let:=#[p,y]
  .let:=#[G,kp b _ j (B b o f) (i b o f) l]
 .let#[P,j]:=I.dX.there b o f<|g b;by_cases l:b∈frs X.stack;.let#[p,y]:=sl b _ j l;let:=#[_,y]
  .let:=#[P,kp b _ j (B b o f) (i b o f) l]
 .let off:∀c,c=b\/H c=A0 (.own b)->H c=Ee->False:=λc x z=>by lia
  let:=(I.hok b u f).stay (λc v x r=>kp c v r (λz=>off c x<|z▸ha) (λz=>off c x<|z▸K) λz=>off c x<|I.oW c z) (λ_ r=>r) λ_ _ r=>r
def Hw(g:X.stack=X.env::X.outer)(l:X.env.frame=A0 X.env.locals)(c:X.ex=[])(I:Inv X Dp σ H s){e:Er}{args:Da}{r:EH}(i:Heap.MadeExcOf s.heap r e cls args){E:XK}(q:E cls Ee H){Ex:Es->Dg}:EA (EC X.prog X.w) X.A (leaving X.env<|.ref e) (λ_ s''=>HN X.prog X.w X.outer X.H₀ X.s₀ E (.ref e) s'') Ex {s with heap:=r}:=by
 let u:=kI (as:=[]) I.stack;let v:X.A.frames=A0 (X.env::X.outer):=by rw[I.ok.frames,g]
 let#[t,y,ht]:=i.there;let fresh:∀b,s.heap.get? b=Ee->(Iz _ [] X.stack).get? b=Ee:=λb hb=>by cases hq:(Iz _ [] _).get? b with|none=>rfl|some p=>have:=jY b p hq;rw[hb]at this;cases this
 let:=KB XO v ((g▸u:s.heap.FunFrames ..).of_keeps λb o hb _=>#[o,i.keeps b o hb,Ej]) l y (λb o hb=>i.keeps b o<|jY b o hb) (fresh e i.new) rfl rfl rfl λh2 k1 k2 L B=>?_;let#[F,Z,T,D,ts,J,K,N,P,Q,R,S,U,Y]:=L;let kp:=λb o e hb=>k1 b o (JT _ e<|by simpa using hb);let sl:∀b o,s.heap.get? b=A0 o->b∈frs _->∃sl,h2.get? b=A0 _:=λb o e hb=>by let#[_,p,f,hd]:=I.stack.mem hb;rw[e]at f;cases f;let:=B b o (i.keeps b o e) hd
 let j:s.heap.get? T=Ee:=by cases G:s.heap.get? T with|none=>rfl|some o=>
   by_cases x:T∈frs X.stack
   .let n:=by let z:=k2;rw[<-g]at z;let:=z
    let#[_,p,f,hd]:=n.mem x;simp_all
   .let z:(Iz _ [] _).get? T=A0 o:=JT _ G (by trivial);rw[Q]at z;cases z
 let:=R4 c I (I.uo c i.new) (I.uo c j) (I.none_of i.new) (I.none_of j) (I.uo c j) (I.none_of j) #[F,Z,D,ts,J,K,N,P,R,S,U,Y] q (λb o e _ _ hb=>kp b o e hb) sl
end
def PZ{h:EH}{C:Er}{e:Da}{b:String}(X:K.In h)(q:LU K C e b=Eg):∃bm N nm q bs hdct sn sub ab col dd k0 k1 k2 k3 k5 mN,h.get? C=A0 (excClassObj nm q C N bs bm hdct sn sub ab col dd k0 k1 k2 k3 k5 b)/\h.Ns N mN/\mN "__init__"=Ee/\OwnTail h e bm:=by
 unfold LU at q;split at q
 .rename_i dd j sl o;split at q
  .rename_i s bm k0 k1 k2 k3 n k5 hm i;simp only[ZQ,Vc,Ua]at q;let#[#[#[#[#[rfl,rfl],c],p],hok],f]:=q;let#[nm,bs,mro,ns,r,hd,sn,sub,ab,col]:=j;dsimp only at hm c hok f;subst hm c;let g:sl=#v[k0,k1,k2,k3,A0<|.builtin n,k5]:=by let#[l]:=sl;simp only at i;rw[i]
   subst g;let:=#[bm,ns,nm,r,bs,hd,sn,sub,ab,col,dd,k0,k1,k2,k3,k5,_,X _ _ o,.of_isNs<|PySem.W.isNs_of_in X hok,PySem.W.nsMap_none_of_in X hok f,PySem.W.tail_of_in X p]
  .cases q
 .cases q
abbrev KR:Da:=[.type "ValueError",.type "Exception",.type "BaseException",.type "object"]
def Throws(X:Cx)(R:St->Hp->Es->Prop):(Prop):=∀(g:Dd)(f:St)(H:Hp)(s:Eu)(e:Er)(cls:Es)(b:Da)(c:EH),Inv X g f H s->Heap.MadeExcOf s.heap c e cls b->R f H cls->X.xe (.ref e) {s with heap:=c}
def eJ(C:Er)(R:St->Hp->Es->Prop)(t:TA):(TS):=λ_ b H=>t b H λe c=>`e<=sizeLine/\R b c (.ref C)
def K6{R:St->Hp->Value->Prop}{C:Er}{c:ER}{b:List ER}{L j:Pos}(E:X.calm=Eg)(J:Throws X R)(G:Gl X x)(hm:X.mg x=A0 (.ref C))(l:LU X.K C KR "ValueError.__new__"=Eg)(ha:PA X (c::b) t)(r:EI (c::b) X.env=(Ei,E8 c X.env)::EI b X.env:=by rfl)(f:(Lu j<|EI b X.env).any (·.1)=Ei:=by rfl)(hd:(x==("__debug__":Str))=Ei:=by decide):PS X (.Raise (A0<|.Call (.Name x L) (c::b) [] j) Ee pos)<|eJ C R t:=by intro p s v H D I h;let#[Y,N,nm,q,bs,hdct,sn,sub,ab,col,dd,k0,k1,k2,k3,k5,U,A,B,o,T]:=PZ I.ok.mod.kin l;let:=wpAny_Raise_call_subU (nm:=nm) (q:=q) (N:=N) (bs:=bs) (hdct:=hdct) (sn:=sn) (sub:=sub) (ab:=ab) (col:=col) (dd:=dd) (k0:=k0) (k1:=k1) (k2:=k2) (k3:=k3) (k5:=k5) F.excBase_ValueError (by rfl) F.excBase_ValueError (T.hasType F.excBase_ValueError.hasBase) (I.ok.hd E) (by rw[r];show(Ei||(Lu ..).any _)=Ei;rw[f];rfl) o<|jT I G hm #[Ej,?_] hd;let g:=ha j p s v H _ I h;rw[r]at g ⊢;let:=LH<|YO g (λZ u ⟨vs,w,i,Q,S,P⟩=>#[Ej,`Q▸S,i.bk _ _ A,B.keeps i.bk,T.keeps i.bk,λz e n=>J p v w _ e _ _ z i n P]) λ_ _ y=>y
def BR{N:By}{f:Er}{b:Es}{H:Hp}{E:XK}:Throws (GX (HN P w) P w K mg dX N qual scope f b A outer s H E) λ_ H' cls=>E cls Ee H':=λ_ _ _ _ _ _ _ _ I c q=>Hw rfl rfl rfl I c q
def Raises(X:Cx)(R:St->Hp->Es->Prop):(Prop):=∀(f:Dd)(c:St)(H:Hp)(s:Eu)(e:Es)(b:Eu),Inv X f c H s->HN X.prog X.w X.stack H s (λcls _ g=>R c g cls) e b->X.xe e b
def eA(sp:Sp)(R:St->Hp->Es->Prop)(t:TA):(TE):=λb H Q=>t b H λf e=>sp f e Q<|λcls _ c=>R b c cls
section
variable{k:Nat}{f:Er}{fd:Ew}{sp:Sp}{p:Pos}{e:ER}{t:TA}{R:St->Hp->Es->Prop}
def aW{i:Dd}{g:St}{H:Hp}{Q:VK}{c:Da}{vs:Di}(F:zj X.prog X.w X.K X.mg X.dX (HN X.prog X.w) k f fd ps sp)(j:xj k X.A)(hb:wV X.K fd ps [])(l:Raises X R)(I:Inv X i g H s)(r:zb vs c)(h:sp vs H Q<|λcls _ H'=>R g H' cls):EA (EC X.prog X.w) X.A (call (.ref f) c) (EP X i g Q) X.xe s:=by let hl:=`r▸F.len _ _ _ _ h;let b:=hb s c I.sJ (by simp_all);rw[Yi]at b;let:=VZ<|JN (F.run X.A _ s H _ c vs Q _ j I.env0 b r h) λr n hq=>?_;cases r with|error e=>let:=l _ g H s e n I hq|ok fl=>cases fl with|ret u=>let:=I.after hq|next=>trivial|brk=>trivial|cont=>trivial
structure rG(P:Et)(w:Ey)(K:CK)(mg:Str->Db)(dX:EH)(k:Nat)(x:Str)(ps:By)(sp:Sp):Prop where ex:∃(f:Er)(fd:Ew),zj P w K mg dX (HN P w) k f fd ps sp/\mg x=A0 (.ref f)/\E5 K (.ref f)=Eg/\wV K fd ps []
def y8(C:rG X.prog X.w X.K X.mg X.dX k x ps sp)(l:xj k X.A)(n:Raises X R)(ha:PA X (e::es) t)(j:Gl X x:=by rfl)(b:(x==("__debug__":Str))=Ei:=by decide)(i:EI (e::es) X.env=(Ei,E8 e X.env)::EI es X.env:=by rfl)(c:(Lu pos<|EI es X.env).any (·.1)=Ei:=by rfl):PE X (.Call (.Name x p) (e::es) [] pos)<|eA sp R t:=by let#[f,fd,F,hm,hk,hb]:=C.ex;intro u s o H Q I h;let:=Jo<|jT I j hm (Vp I.ok.mod.kin hk (CN (ha pos _ s o H _ I h) λz y ⟨B,v,g,r,q⟩=>#[g.sJ,aW F l hb n g r q]) i c) b
end
def eP(X:Cx)(e:Dd)(H:Hp)(b:Er):(Prop):=H b=Ee/\X.s₀.heap.get? b=Ee/\b≠X.env.locals/\(∀x c,X.env.cells.lookup x=A0 c->c≠b)/\∀p∈X.pn++e,p.1≠b
section
variable{D7:Dd}{σ:St}{H:Hp}{R:St->Hp->Es->Prop}
def Inv.fr1(I:Inv X Dp σ H s)(f:X.ex=[]){g:Hp}{b:Er}(e:s.heap.get? b=Ee)(n:g b=Ee):eP X Dp g b:=by
 let:=#[n,I.uo f e,λz=>?_,λx c q z=>?_,λp j z=>?_];.let#[m,#[o,_,_,_],_]:=I.loc;simp_all
 .let#[v,o,i,_]:=I.cell x c q;simp_all
 .let i:=(I.pin p j).1;simp_all
def Inv.land(I:Inv X Dp σ H s)(g:∀b∈ch,eP X Dp H b)(k1:(Iz s.heap ch X.stack).StaysIn h')(k2:s.heap.UpToSlots h')(P:Nat):Inv X Dp σ H {s with heap:=h',toks:=P}:=by
 let kp:∀b o,s.heap.get? b=A0 o->b∉ch->b∉frs X.stack->h'.get? b=A0 o:=λb o e D hb=>k1 b o (JT _ e<|by simp_all);let any:∀b o,s.heap.get? b=A0 o->b∉ch->∃sl,h'.get? b=A0 {o with slots:=sl}:=λb o e D=>by
  by_cases hb:b∈frs X.stack;.let#[_,N,w,hd]:=I.stack.mem hb;rw[e]at w;cases w;let:=k2 b o e hd
  .let:=#[o.slots,kp b o e D hb]
 let A:∀b,b≠X.env.locals->b∉X.fs->b∉frs X.stack:=λb h1 h2 z=>(ZJ.mp<|I.oM b z).elim h1 h2;let L:∀b o,X.s₀.heap.get? b=A0 o->b≠X.env.locals:=λb o e=>ZU<|Z0 (ZP e) I.ok.above;let j:∀b o,X.s₀.heap.get? b=A0 o->b∉ch:=λb o e z=>by rw[(g b z).2.1]at e;cases e
 let f:∀c v,s.heap.IsCell c v->h'.IsCell c v:=λc v ⟨o,J,hd⟩=>by
  let#[sl,e]:=k2 c o J λQ z=>by rw[hd]at z;cases z
  let:=#[_,e,hd]
 let:=#[I.ok,I.os,I.bare,#[λb o e n hb y=>?_,λb o e n hb y=>?_,I.dX.free,λb o e y=>?_,I.dX.tups,I.dX.sO,I.dX.rD],?_,λx c e=>?_,I.free,I.wJ,λp E=>?_,λb u e=>?_,I.len];.let:=kp b o (I.dX.keep b o e n hb y) (j b o e)<|A b (L b o e) hb
 .let#[sl,q]:=I.dX.slot b o e n hb y;let#[B,t]:=any b _ q<|j b o e;let:=#[B,t]
 .let#[N,q]:=I.dX.there b o e y;let#[B,t]:=any b _ q<|j b o e;let:=#[_,t]
 .let#[m,hn,hl]:=I.loc;let:=#[m,k2.ns hn,λi x v q t G=>?_];let#[u,r,l]:=hl i x v q t G;let:=#[u,r,?_];rcases l with l|⟨k,c,e,z⟩;.let:=.inl l
  .let:=.inr #[k,c,e,f c _ z]
 .let#[v,z]:=I.cell x c e;let:=#[v,f c v z]
 .let#[e,n,ne,F,d]:=I.pin p E;let:=#[kp _ _ e (λz=>(g _ z).2.2.2.2 p E rfl)<|A _ ne F,n,ne,F,d]
 .let:=(I.hok b u e).stay (λc v D r=>kp c v r (λz=>?_) λz=>?_) (λ_ r=>r) λ_ _ r=>r;.let K:=(g c z).1;simp_all
  .let K:=I.oW c z;simp_all
def Inv.zxN(I:Inv X Dp σ H s)(f:eP X Dp H T)(new:xx X.prog X.w (upd H T o) s.heap T o):Inv X Dp σ (upd H T o) s:=by
 let#[n,g,i,j,l]:=f;let:=#[I.ok,I.os,I.bare,I.dX.zyI g n,I.loc,I.cell,?_,λx c e=>?_,λp b=>?_,I.hok.adopt n new,I.len];.rw[zH<|EG i];let:=I.free
 .rw[zH<|j x c e];let:=I.wJ x c e
 .let#[e,q,ne,r,d]:=I.pin p b;let:=#[e,(zH<|l p b)▸q,ne,r,d]
def Cx.zyN(X:Cx)(Dp:Dd)(R:St->Hp->Es->Prop):(Cx):={X with pn:=X.pn++Dp,xe:=λe b=>∃a T cls σ H,e=.ref a/\Inv X Dp σ H b/\eP X Dp H a/\eP X Dp H T/\ExcAt b.heap a T cls/\R σ H cls}
def Inv.into(I:Inv X Dp σ H s)(R:St->Hp->Es->Prop):Inv (X.zyN Dp R) [] σ H s:=#[#[I.ok.mod,I.ok.kind,I.ok.glob,I.ok.blt,I.ok.above,I.ok.inj,I.ok.has,I.ok.cab,I.ok.hd,I.ok.frames,I.ok.stk,I.ok.exf,I.ok.bs,I.ok.bsz,I.ok.mQ,I.ok.mj,I.ok.sW,I.ok.frf],I.os,I.bare,I.dX,I.loc,I.cell,I.free,I.wJ,λp b=>I.pin p<|by let b:p∈X.pn++Dp++[]:=b;simp_all,I.hok,I.len]
def Inv.oH(I:Inv (X.zyN Dp R) D7 σ H s):Inv X Dp σ H s:=#[#[I.ok.mod,I.ok.kind,I.ok.glob,I.ok.blt,I.ok.above,I.ok.inj,I.ok.has,I.ok.cab,I.ok.hd,I.ok.frames,I.ok.stk,I.ok.exf,I.ok.bs,I.ok.bsz,I.ok.mQ,I.ok.mj,I.ok.sW,I.ok.frf],I.os,I.bare,I.dX,I.loc,I.cell,I.free,I.wJ,λp b=>I.pin p<|YB _ b,I.hok,I.len]
def SP.oH(h:SP (X.zyN Dp R) D7 D f s'):SP X Dp D f s':=by cases f with|next=>let#[b,c,I,q]:=h;let:=#[b,c,I.oH,q]|brk=>let#[b,c,I,q]:=h;let:=#[b,c,I.oH,q]|cont=>let#[b,c,I,q]:=h;let:=#[b,c,I.oH,q]|ret u=>let#[v,b,c,I,r,q]:=h;let:=#[v,b,c,I.oH,r,q]
def M6(c:X.ex=[]):Raises (X.zyN Dp R) R:=by intro D7 σ H s e r I n;let#[a,T,cls,g,rfl,os,bare,un,hok,p,o,ha,l,j,q]:=n;let f:=I.oH;let i:=f.call' os un hok bare λb z=>absurd z (by simp);let:=#[a,T,cls,σ,g,Ej,i,f.fr1 c p ha,f.fr1 c o l,j,q]
def Cx.zz5(X:Cx)(e:Es):(Cx):={X with A:=X.A.mark<|some e,calm:=Ei,xe:=λ_ _=>False}
def Inv.mark(I:Inv X Dp σ H s)(e:Es):Inv (X.zz5 e) Dp σ H s:=#[#[I.ok.mod,I.ok.kind,I.ok.glob,I.ok.blt,I.ok.above,I.ok.inj,I.ok.has,I.ok.cab,λz=>(by cases z),I.ok.frames,I.ok.stk,I.ok.exf,I.ok.bs,I.ok.bsz,I.ok.mQ,I.ok.mj,I.ok.sW,I.ok.frf],I.os,I.bare,I.dX,I.loc,I.cell,I.free,I.wJ,I.pin,I.hok,I.len]
def Inv.unmark{e:Es}(ok:X.Ok)(I:Inv (X.zz5 e) Dp σ H s):Inv X Dp σ H s:=#[ok,I.os,I.bare,I.dX,I.loc,I.cell,I.free,I.wJ,I.pin,I.hok,I.len]
end
def Xl(a:Er)(cls:Es):(HO):=.ext λh=>∃o b,h.get? a=A0 o/\o.cls=cls/\o.data=.fields b/\ctx0 b
def yd.okX{st:ES}{k:Nat}{sp:Sp}(F:yd K x qual st f fd)(S:zy N ps<|zF st)(j:∀(cdv:Es)(A:EL)(outer:List Env)(s:Eu)(H:Hp)(vs:Di)(Q:VK)(E:XK),xj k (A.deeper<|MI qual (zF st) ⇑s f cdv)->sp vs H Q E->∃t,pB (GX (HN P w) P w K mg dX N qual (zF st) f cdv A outer s H E) (yZ st) t/\t {nx:=λ_ H'=>Q .non H',rt:=Q} (start N vs) H)(len:∀vs H Q E,sp vs H Q E->`vs=`ps:=by intro _ _ _ _ h;first|(cases h;subst_vars;rfl)|repeat first|(let#[rfl,_]:=h;rfl)|let#[_,h]:=h):zj P w K mg dX (HN P w) (k+1) f fd ps sp:=by let#[o,p,kV,c,pm,l,cdv,ct,i,rfl,g,b]:=F.ex;let:=bz g b S len λA outer s H vs Q E n e=>?_;simp_all
def jg(lo:Int)(n:Nat):(It):=#[λi _=>i<n,λi H x b=>b=H/\x=.int (lo-i),λi _=>n<=i]
def Nr(c:Er)(lo:Int)(n:Nat):Turn P w K tg (jg lo n) [c] c λi h=>IsRangeIter h c (lo+(i:Nat)*-1) ((n:Int)-(i:Nat))<|-1 where
 mem:=by simp
 obj:=λi h st b hb=>by simp_all
 keep:=λi h r st k=>k c (by simp) _ st
 item:=by intro X A B z u i y s D H E I g st x;subst A B z;let#[j,l,J,p,q,f5]:=g c (by simp);let W:=Walks.range (prog:=X.prog) (w:=X.w) (I.ok.hd u) c lo (-1) n;let:=W.item i s _ _ x st λv r N hv f L=>?_;let#[t,rfl]:=hv;let F:Inv X y D H {s with heap:=r,toks:=N}:=I.turned (λb o hb e=>L b o (by simpa using hb) e) j l p q f5;let:=#[_,Ej,Fm f rfl rfl ∅ #[.int _,H,F,#[t,?_],#[Ej,Ej],f,λb hb=>(g b hb).1]];congr 1;lia
 done:=by intro X A B z u i y s D H E I g st x;let#[j,l,J,p,q,f5]:=g c (by simp);let:=wpAny_pyNext_range_end (I.ok.hd u) st (by have:n<=i:=x;lia) λr G=>#[Ej,I.turned G j l p q f5]
 self:=λ_ _ _ _ _ st h=>wpAny_pyIter_rangeiter st h
def rangeSize_down(a b:Int):LJ a b (-1)=if a>b then a-b else 0:=by unfold LJ;simp
def small_down{a b:Int}(ha:-2^62<=a)(c:a<2^62)(hb:-2^62<=b)(e:b<2^62):Builtin.Range.small a b (-1)=Eg:=by unfold Builtin.Range.small;rw[rangeSize_down];simp only[Builtin.Range.rangeFitsLong,ZQ,Ux,YF,show¬-1>0 by decide,if_false];lia
def bC(c:TA):(TI):=λf H R=>c f H λe b=>∃i j:Int,e=[.int i,.int j,.int<|-1]/\(-2^28<=i/\i<2^28/\-2^28<=j/\j<2^28)/\R (jg i (i-j).toNat) b
def Rt{a b c:ER}{p:Pos}(D:Gl X "range")(hm:X.mg "range"=Ee)(ha:PA X [a,b,c] ta)(hs:EI [a,b,c] X.env=[(Ei,E8 a X.env),(Ei,E8 b X.env),(Ei,E8 c X.env)]:=by rfl)(f:EI [b,c] X.env=[(Ei,E8 b X.env),(Ei,E8 c X.env)]:=by rfl):PI X tg (.Call (.Name "range" p) [a,b,c] [] pos)<|bC ta:=by intro n s y H R I h;let:=Call_ (uZ I D hm boot_range<|Jt (CN (ha pos n s y H _ I h) λK g ⟨L,w,z,E,x⟩=>?_) (by rw[hs,f])<|by rw[f];rfl);let#[i,j,e,#[x,F,G,J],q]:=x;subst e;cases E with|cons r rr=>cases rr with|cons r' rr=>cases rr with|cons r'' rr=>
    cases rr;let#[t,rfl]:=r;let#[u,rfl]:=r';let#[v,rfl]:=r'';let:=call_range_3 ∅ (wpAny_pyIter_range (IsRange.new ..) (small_down ⋯ ⋯ ⋯<|⋯) ?_)<|MH<|PyProof.noPylong_small<|∅;let l:Inv X n y w {g with heap:=g.heap.push {cls:=.type "range",data:=.fields #v[.int i t,.int j u,.int (-1) v]},toks:=g.toks}:=z.kept λb o e=>ZE _ e;let:=#[_,_,_,_,w,Ej,l.kept λb o e=>ZE _ e,Nr _ i (i-j).toNat,?_,λb hb=>?_,q]
    .let A:i+((0:Nat):Int)*-1=i:=by simp
     let B:((i-j).toNat:Nat)-((0:Nat):Int)=LJ i j (-1):=by grind[rangeSize_down]
     rw[A,B];let:=ZL _ rfl
    .let e:b=(g.heap.push {cls:=.type "range",data:=.fields #v[.int i t,.int j u,.int (-1) v]}).objs.size:=by simpa using hb
     subst e;let:=l.pC (ZG _)<|l.hok.fresh<|ZG _
inductive zw7(x:V)(y:V)(H:Hp)(Q:VK):Prop|mk(i j:Str)(h0:x=.str i)(h1:y=.str j)(h2:Q (.bl<|!decide (j.cps.toList<i.cps.toList)) H):zw7 x y H Q
def Hn:CW X (EZ .LtE) zw7:=by intro e s g H x y v u Q I b c h;let#[i,j,rfl,rfl,q]:=h;let#[t,rfl]:=b;let#[f,rfl]:=c;let:=P.le_str #[.bl _,H,I,Ej,q]
def HK:∀{bs:List Bool}{us:Da},zb (bs.map V.bl) us->us=bs.map Value.bool|[],us,h=>by cases h;rfl|b::bs,us,h=>by cases h with|cons r1 r2=>rw[HK r2];cases r1;rfl
inductive zvP(K:CK)(xs:Di)(H:Hp)(Q:VK):Prop|mk(a:Er)(bs:List Bool)(h0:xs=[.ref a])(h1:yp K H a<|bs.map V.bl)(h2:Q (.bl<|bs.all id) H):zvP K xs H Q
def j6(p:X.calm=Eg)(o:X.K=K:=by rfl):xq X (.builtin "all")<|zvP K:=by
 subst o;intro y s L H xs J Q I r h;let#[a,bs,rfl,ha,q]:=h;let#[u,rfl,w]:=wW r;cases w;let#[f,x,t,E]:=I.list ha;let j:=HK x;let hl:=t.isList;let g:a<⇑s:=by let#[_,e,_]:=hl;let:=ZP e
 let:=call_all_walk<|J7 hl<|#[_,_,_,_,_,_,λi=>bs[i]?.getD Eg,Ej,Walks.list (A:=X.A.in1) (I.ok.hd p) _ a (ZU g) f.toArray,#[#[_,ZL _ rfl,Ej,Ej],hl.push _],λi v F B z c l=>?_,λD G hk=>?_]
 .let c:=by simpa using c
  rw[j,ZN]at c;cases e:bs[i]?with|none=>rw[e]at c;cases c|some b=>rw[e]at c;let c:=dI c;subst c;simp only[e]at l;let:=JP l
 .let n:`f=`bs:=by rw[j,ZA]
  let e:((EK f.toArray.size).all λi=>bs[i]?.getD Eg)=bs.all id:=by rw[Z7,n];let:=PyProof.Rows.LSm.range_all bs
  rw[e];let:=#[.bl _,H,I.kept<|PyProof.Rows.LSm.kept_iter hk,Ej,q]
mutual
def Dw(K:CK)(H:Hp):(EB->V->Prop)|.none,v=>v=.non|.bool b,v=>v=.bl b|.int i,v=>v=.int i|.str x,v=>v=.str x|.list ds,v=>∃a xs,v=.ref a/\yp K H a xs/\wQ K H ds xs|.tuple ds,v=>∃a xs,v=.ref a/\yq K H a xs/\wQ K H ds xs|.dict _,v=>∃a c,v=.ref a/\H a=A0 (.dK c)
def wQ(K:CK)(H:Hp):(De->Di->Prop)|[],xs=>xs=[]|d::ds,xs=>∃x r,xs=x::r/\Dw K H d x/\wQ K H ds r
end
mutual
theorem Dw.same{K:CK}(e:zx H H'):∀(d:EB)(v:V),Dw K H d v->Dw K H' d v|.none,_,h=>h|.bool _,_,h=>h|.int _,_,h=>h|.str _,_,h=>h|.list ds,_,⟨a,xs,h1,h2,h3⟩=>#[a,xs,h1,e.seq h2,wQ.same e ds xs h3]|.tuple ds,_,⟨a,xs,h1,h2,h3⟩=>#[a,xs,h1,e.yr h2,wQ.same e ds xs h3]|.dict _,_,⟨a,Dl,h1,h2⟩=>#[a,Dl,h1,e _ _ h2]theorem wQ.same{K:CK}(e:zx H H'):∀(ds:De)(xs:Di),wQ K H ds xs->wQ K H' ds xs|[],_,h=>h|d::ds,_,⟨x,r,h1,h2,h3⟩=>#[x,r,h1,Dw.same e d x h2,wQ.same e ds r h3]end
mutual
theorem Dt.dw{K:CK}:∀{d:EB}{v:V},Dt K H d v->Dw K H d v|.none,_,h=>h|.bool _,_,h=>h|.int _,_,h=>h|.str _,_,h=>h|.list ds,_,⟨a,xs,h1,h2,h3⟩=>#[a,xs,h1,h2,zu.dw h3]|.tuple ds,_,⟨a,xs,h1,h2,h3⟩=>#[a,xs,h1,h2,zu.dw h3]|.dict _,_,h=>h.elim
theorem zu.dw{K:CK}:∀{ds:De}{xs:Di},zu K H ds xs->wQ K H ds xs|[],_,h=>h|d::ds,_,⟨x,r,h1,h2,h3⟩=>#[x,r,h1,Dt.dw h2,zu.dw h3]end
def wQ.length:∀{ds:De}{xs:Di},wQ K H ds xs->`xs=`ds|[],_,h=>by rw[h];rfl|d::ds,_,⟨x,r,h1,h2,h3⟩=>by rw[h1,Yj,Yj,`wQ h3]
def wQ.get{K:CK}:∀{ds:De}{xs:Di}{i:Nat}{x:V},wQ K H ds xs->xs[i]?=A0 x->∃d,ds[i]?=A0 d/\Dw K H d x|[],_,i,x,h,e=>by rw[h]at e;cases e|d::ds,_,0,x,⟨x',r,h2⟩,e=>by simp_all|d::ds,_,i+1,x,⟨x',r,h1,h2,h3⟩,e=>by rw[h1]at e;let#[b,c,f]:=wQ.get h3 (by trivial);let:=#[b,by trivial]
def wQ.at{d:EB}(h:wQ K H ds xs)(e:ds[i]?=A0 d):∃x,xs[i]?=A0 x/\Dw K H d x:=by let b:i<`xs:=`h▸(ZW.mp e).1;let#[q]:=h.get<|ZO b;simp_all
def XA:(EB->String)|.none=>"NoneType"|.bool _=>"bool"|.int _=>"int"|.str _=>"str"|.list _=>"list"|.tuple _=>"tuple"|.dict _=>"dict"
section
variable{σ:St}{H:Hp}{c:Es}{b:Bool}
def Rf{x:V}(I:Inv X Dp σ H s)(f:yu x u)(hd:Dw X.K H d x)(e:E3 X.K (.type<|XA d) c=A0 b)(h:∀tk,Q (.bool b) {s with toks:=tk}):EA (EC X.prog X.w) A (call (.builtin "isinstance") [u,c]) Q E s:=by cases d with|none=>cases hd;let:=qN I f .non e h|bool y=>cases hd;let:=qN I f (.bl y) e h|int i=>cases hd;let:=qN I f (.int i) e h|str y=>cases hd;let:=qN I f (.str y) e h|dict Dl=>let#[a,q,rfl,l]:=hd;let:=qN I f (.dK l) e h|list ds=>let#[a,xs,rfl,g,_]:=hd;cases show u=EO a from f;let#[j,_,#[o,n,h1,h2,_],_]:=I.list g;let:=YL UN I.sJ #[o,h1,h2] e (λz=>nomatch z) h|tuple ds=>let#[a,xs,rfl,g,_]:=hd;cases show u=EO a from f;let#[j,_,p,_]:=I.tuple g;let#[o,h1,h2,_]:=p;let:=YL PySem.W.kitx_tuple I.sJ #[o,h1,h2] e (λz=>nomatch z) h
inductive zxG(K:CK)(xs:Di)(H:Hp)(Q:VK):Prop|mk(y:_)(T:_)(d:_)(b:_)(h0:xs=[y,.ty T])(h1:Dw K H d y)(h2:E3 K (.type<|XA d) (.type T)=A0 b)(h3:Q (.bl b) H):zxG K xs H Q
def zZ(e:X.K=K:=by rfl):xq X (.builtin "isinstance")<|zxG K:=by subst e;intro Dp s σ H xs j Q I r h;let#[y,T,d,b,rfl,hd,f,q]:=h;let#[u,l,rfl,g,c]:=vals2 r;cases c;let:=Rf I g hd f λi=>#[.bl b,H,I.tok _,Ej,q]
end
section
variable{Q:VK}{σ:St}{H:Hp}
def Fk(b:Nat->Di->St->Hp->Prop)(j:b 0 [] (U9 src σ) H)(n:`x<=sizeLine)(hl:∀i ys σ H,i<=`x->b i ys σ H->`ys<=i)(hs:∀i c ys σ H,x.cps[i]?=A0 c->b i ys σ H->g (.str #[#v[c]]) σ H λσ2 H3=>te σ2 H3 λy H5=>b (i+1) (ys++[y]) σ2 H5)(hd:∀ys σ H,b `x ys σ H->∀p,H p=Ee->Q (.ref p) (upd H p<|.lst ys)):Xr src (fg x) g Ir te Q σ H:=X7 _ b j n hl (λ_ _ _ _=>rfl) (λ_ _ _ _ f _=>f) (λi ys σ H f p q o y=>by let#[e,c,l,rfl]:=y;subst e;let:=hs i c ys σ _ l p) hd
end
end L2
namespace L2
open PySem PyProof.Rows
mutual
def bU:(EB->EB->Bool->Prop)|.int a,.int b,r=>r=decide (a<b)|.str a,.str b,r=>r=decide (a.cps.toList<b.cps.toList)|.tuple xs,.tuple ys,r=>bV xs ys r|_,_,_=>False
def bV:(De->De->Bool->Prop)|[],ys,r=>r=decide (0<`ys)|_::_,[],r=>r=Ei|x::xs,y::ys,r=>EX x y=Eg/\bV xs ys r\/EX x y=Ei/\bU x y r
end
def OD(prog:Et)(w:Ey)(A:EL)(r:Bool)(b:Bool)(s:Eu):(List (Es×Es)->Prop)|[]=>b=r|p::l=>(∀(Q:Bool->Dg)(E:Es->Dg),Q Eg s->EA (EC prog w) A (eqBool p.1 p.2) Q E s)/\OD prog w A r b s l\/(∀(Q:Bool->Dg)(E:Es->Dg),Q Ei s->EA (EC prog w) A (eqBool p.1 p.2) Q E s)/\∀(Q:Es->Dg)(E:Es->Dg),Q (.bool r) s->EA (EC prog w) A (richCompare .Lt p.1 p.2) Q E s
def Bh{a b:Er}{q ob:Obj}{xs ys:Array Es}{t nb:Nat}{r:Bool}{P:Fin->Dg}(o:s.heap.get? a=A0 q)(l:q.data=.seq xs t)(f:s.heap.get? b=A0 ob)(j:ob.cls=.type "tuple")(n:ob.data=.seq ys nb)(hq:OD prog w A r (decide<|xs.size<ys.size) s<|xs.toList.zip ys.toList)(h:P (.done<|.ret<|.bool r) s):EA (EC prog w) A (Builtin.«tuple.__lt__» #[[.ref a,.ref b],[]]) P E s:=by
 let i:s.TypeIs (.ref b) "tuple":=#[ob,f,j];show EA _ _ (isInstance ..>>=_) _ _ s;let:=Zz<|YX i isSubtype_tuple_tuple<|Zz<|UD o l<|Zz<|UD f n<|Zz<|VJ _ (λe c g=>c.1=Ee/\g=s/\OD _ w A r _ s e) _ ?_ ?_ _ _ #[Ej,Ej,hq]
 .rintro⟨u⟩ e c g ⟨p,rfl,ha⟩;rcases ha with⟨h1,h2⟩|⟨h1,h2⟩;.let:=Zz<|h1 _ _<|ZF #[Ej,Ej,h2]
  .let:=Zz<|h1 _ _<|Zz<|JK<|Zz<|h2 _ _<|Zz<|ZF<|ZF<|ZF h
 .rintro⟨v⟩ g ⟨p,rfl,ha⟩;subst p;let:=ZF ?_;show P (.done<|.ret<|.bool<|decide _) g;rwa[ha]
def RN(prog:Et)(w:Ey)(d:EB):(Prop):=∀(e:EB)(r:Bool)(A:EL)(s:Eu)(a b:Es)(c bs:Dc),Reads s.heap a d c->Reads s.heap b e bs->d.canLay0=Eg->e.canLay0=Eg->A.units+min d.depth e.depth<Ld->bU d e r->∀(Q:Es->Dg)(E:Es->Dg),Q (.bool r) s->EA (EC prog w) A (richCompare .Lt a b) Q E s
def HQ(prog:Et)(w:Ey)(xs:De):(Prop):=∀(b:De)(r:Bool)(A:EL)(s:Eu)(e c:Da)(f bs:Dc),Ms s.heap e xs f->Ms s.heap c b bs->EJ xs=Eg->EJ b=Eg->A.units+min (E2 xs) (E2 b)<Ld->bV xs b r->∀k:Nat,OD prog w A r (decide<|k+`e<k+`c) s<|e.zip c
def Rk(i:Int):RN prog w<|.int i:=by intro e r A s a b g bs c f _ _ _ h Q E q;cases e with|int j=>cases c;cases f;cases h;let:=lt_int q|_=>let:=E4 h
def Rm(i:Str):RN prog w<|.str i:=by intro e r A s a b g bs c f _ _ _ h Q E q;cases e with|str j=>cases c;cases f;cases show r=_ from h;let:=lt_str q|_=>let:=E4 h
def Rn(g:HQ prog w xs):RN prog w<|.tuple xs:=by intro e r A s a b l bs i j ha hb f h Q E q;cases e with
 |tuple ys=>cases i with|tuple h1 h2 h3 h4=>cases j with|tuple k1 k2 k3 k4=>let c:=g ys r A.in1 s _ _ _ _ h4 k4 ha hb (SeqAt.room_in f) h 0;rw[Nat.zero_add,Nat.zero_add]at c;let:=UB #[_,h1,h2] #[_,k1,k2] F.slot_tuple_lt (Yw F.slot_tuple_lt #[_,h1,h2] F.entry_tuple_lt (Bh h1 h3 k1 k2 k3 c<|by simp_all)<|F.args_tuple_lt_2 ..)<|SeqAt.room_here f
 |_=>let:=E4 h
def W2:HQ prog w []:=by intro j r A s i f g bs b c _ _ _ h k;cases b;let e:=`SeqAt.ReadsAll _ _ _ c;show decide (k+0<k+`f)=r;rw[h,e];lia
def Tb{x:EB}(h1:RN prog w x)(h2:HQ prog w xs):HQ prog w<|x::xs:=by intro i r A s z t B bs l n o p j h k;cases i with|nil=>cases n;cases l;show decide (k+_<k+0)=r;rw[h];lia|cons y i=>
  let b:=by simpa[EJ]using o
  let c:=by simpa[EJ]using p
  let f:=SeqAt.room_head j;let g:=SeqAt.room_tail j;cases l with|@cons v z _ _ _ _ p1 p2=>cases n with|@cons u t _ _ _ _ q1 q2=>
    rw[List.zip_cons_cons];rcases h with⟨e,h⟩|⟨e,h⟩;.let:=.inl #[λQ E q=>Mh prog w A E s _ _ _ _ _ _ Q p1 q1 b.1 c.1 f<|e▸q,?_];let D:=h2 i r A s _ _ _ _ p2 q2 b.2 c.2 g h<|k+1;simp_all
    .let:=.inr #[λQ E q=>Mh prog w A E s _ _ _ _ _ _ Q p1 q1 b.1 c.1 f<|e▸q,h1 y r A s _ _ _ _ p1 q1 b.1 c.1 f h]
mutual
theorem S6:∀d:EB,RN prog w d|.int i=>Rk i|.str i=>Rm i|.tuple xs=>Rn<|S8 xs|.none=>λe r A s a b c bs f g _ _ _ h=>E4 h|.bool _=>λe r A s a b c bs f g _ _ _ h=>E4 h|.list _=>λe r A s a b c bs f g _ _ _ h=>E4 h|.dict _=>λe r A s a b c bs f g _ _ _ h=>E4 h
theorem S8:∀xs:De,HQ prog w xs|[]=>W2|x::xs=>Tb (S6 x)<|S8 xs
end
end L2
namespace L2
open PySem PySem.Spec PyProof.Rows
def aG{k:Nat}(e:X.calm=Eg)(h:PGs X es t)(c:X.K=K:=by rfl)(hn:↑(Lr es X.env)=n:=by rfl)(b:(Lr es X.env).findIdx? (·.1)=Ee:=by rfl):PG X (.Tuple es k pos)<|zxI K n t:=by subst c;let:=jF e h hn b
section
variable{σ:List<|Option V}{H:Hp}
def Inv.lost{w:Db}(I:Inv X Dp σ H s){m:Str->Db}(hm:∀(i:Nat)(x:Str)(v:V),X.N[i]?=A0 x->σ[i]?=A0 (A0 v)->fw X.env.scope x->∃u,yu v u/\Look X.env s.heap m x u)(D:X.N.Nodup)(E:X.N[i]?=A0 y)(hn:h'.Ns X.env.locals<|λx=>if x=y then w else m x)(sb:EW X.env.locals s.heap h')(L:Nat):Inv X Dp (σ.set i Ee) H {s with heap:=h',toks:=L}:=by
 let l:∀b o,X.s₀.heap.get? b=A0 o->b≠X.env.locals:=λb o e=>ZU<|Z0 (ZP e) I.ok.above;let:=#[I.ok,I.os,I.bare,#[λb o e n hb g=>(sb.2 b<|l b o e).trans<|I.dX.keep b o e n hb g,λb o e n hb g=>?_,I.dX.free,λb o e g=>?_,I.dX.tups,I.dX.sO,I.dX.rD],#[_,hn,λj x v f t B=>?_],λx c e=>?_,I.free,I.wJ,λp F=>?_,λb u e=>?_,by simpa using I.len];.let#[sl,f]:=I.dX.slot b o e n hb g;let:=#[sl,(sb.2 b<|l b o e).trans f]
 .let#[J,f]:=I.dX.there b o e g;let:=#[J,(sb.2 b<|l b o e).trans f]
 .by_cases A:j=i;.simp_all[List.getElem?_set]
  .rw[VE<|EG A]at t;let#[P,K,q]:=hm j x v f t B;let:=#[P,K,?_];rcases q with⟨k,e⟩|⟨k,c,e,z⟩;.let:=.inl #[k,?_];have:x≠y:=λe=>A<|Gv D f<|e▸E;simp[this,e]
   .let:=.inr #[k,c,e,z.sameBut sb<|I.cne x c e]
 .let#[v,z]:=I.cell x c e;let:=#[v,z.sameBut sb<|I.cne x c e]
 .let#[e,n,ne,G,d]:=I.pin p F;let:=#[(sb.2 p.1 ne).trans e,n,ne,G,d]
 .let:=(I.hok b u e).stay (λc v Q r=>(sb.2 c λz=>?_).trans r) (λ_ r=>r) λ_ _ r=>r;let R:=I.free;lia
def hZ(K:CK)(C:Er)(i:Nat)(tb:(St->Hp->Es->Prop)->TS)(th:Er->TS):(TS):=λD σ H=>∃R:St->Hp->Es->Prop,tb R D σ H/\∀b c cls a,R b c cls->c a=Ee->PySem.W.exmOne K cls (.ref C)=A0 Eg/\th a {nx:=λe f=>D.nx (e.set i Ee) f,rt:=D.rt} (b.set i<|A0<|.ref a) (upd c a<|Xl a cls)
def aK{j:List ES}{l:ES}{c n:Str}{C:Er}{np J:Pos}{tb:(St->Hp->Es->Prop)->TS}{th:Er->TS}(L:X.stack=X.env::X.outer)(ah:X.env.frame=A0 X.env.locals)(a2:X.ex=[])(hb:∀Dp R,pB (X.zyN Dp R) body<|tb R)(hg:Gl X c)(hm:X.mg c=A0 (.ref C))(hN:X.N.Nodup)(hi:X.N[i]?=A0 n)(hl:X.env.scope.names.lookup n=A0 .local)(hs:∀z:Er,pB (X.zz5<|.ref z) (l::j)<|th z)(hd:(c==("__debug__":Str))=Ei:=by decide):PS X (.Try body [.ExceptHandler (A0<|.Name c np) (A0 n) (l::j) J] [] [] pos)<|hZ X.K C i tb th:=by
 intro Dp s σ H D I h;let#[R,af,hh]:=h;let:=wpAny_Try_except<|YO (hb Dp R [] s σ H D (I.into R) af) (λf r q=>?_) λe r q=>?_;.let q':SP X Dp D f r:=q.oH;cases f with|next=>let:=VW q'|brk=>let:=q'|cont=>let:=q'|ret u=>let:=q'
 .let#[a,T,cls,a0,H1,rfl,B,fa,fT,#[oe,vs,oT,ts,e1,e2,e3,e4,e5,e6,e7,e8],r1]:=q;let#[hx,am]:=hh a0 H1 cls a r1 fa.1;let hA:X.A.frames=A0 (X.env::X.outer):=by rw[B.ok.frames,L]
  let F:∀b∈[a,T],eP X Dp H1 b:=λb z=>by
   rcases ZJ.mp z with z|z;.rwa[z]
   .rwa[ZC.mp z]
  let ac:r.heap.FunFrames (Iz r.heap [a,T] X.stack)<|X.env::X.outer:=by let z:=kI (as:=[a,T]) B.stack;rw[L]at z ⊢;let:=z
  let ad:RO ctx0 r.heap (Iz r.heap [a,T] X.stack) a cls .none:=#[oe,vs,T,oT,ts,e1,e2,e3,e4,VD _<|by simp,e5,e6,e7,e8];let:=O4 XO hA ac ah ad jY (VD _<|by simp) λh2 g1 g2 t Q=>qV g1 g2 t λh3 U ab p S=>?_;let I3:=B.land F U (Q.trans S) r.toks;let:=wpAny_handleBy_cons (codeAny_handlers_test<|jT (I3.mark _) hg hm ?_ hd) (by intro z;cases z);let#[ob,_,_,_,_,al,#[G,_],_]:=id p;let LT:PySem.W.Looks (EC X.prog X.w) h3 (typeOf<|.ref a) cls:=G▸(PySem.W.Looks.ld al).andThen .now;let:=(PySem.W.exm_one (K:=X.K) (h:=h3) I3.sJ LT hx).here<|codeAny_handlers_suite_as<|qV U ab p λh4 ap a1 E an=>?_;let I4:=B.land F ap ((Q.trans S).trans an) r.toks;let new:xx X.prog X.w (upd H1 a<|Xl a cls) h4 a<|Xl a cls:=by let#[P,ay,_,_,_,g1,#[g2,gc],g3,_]:=E;let:=#[#[P,ay,g1,g2,g3,gc],#[P,g1],λu1 u2 ⟨o,v,z1,z2,z3⟩ k=>#[o,v,k o z1,z2,z3]]
  let I5:=I4.zxN fa new;let:=j9 (X:=X.zz5<|.ref a) (v:=.ref a) (I5.mark _) hN hi (MH hl) rfl (λs6 I6=>YO (hs a Dp s6 _ _ _ I6 am) (λf s7 q7=>?_) λ_ _ z=>z.elim)<|Or.inr hl;cases f with|ret u=>let#[v,Y,Z,I7,rv,q]:=q7;let g:=I7.unmark B.ok;let#[m,hn,hm]:=g.loc;let:=wpAny_nameGoes_keeps hl hn (by rw[g.ok.kind];rfl) λh8 m8 x y=>#[v,_,Z,g.lost hm hN hi x y _,rv,q]|next=>let#[Y,Z,I7,q]:=q7;let g:Inv X Dp Y Z s7:=I7.unmark B.ok;let#[m,hn,hm]:=g.loc;let:=wpAny_nameGoes_keeps hl hn (by rw[g.ok.kind];rfl) λh8 m8 x y=>#[_,Z,g.lost hm hN hi x y _,q]|brk=>let#[_,_,_,z]:=q7;let:=z.elim|cont=>let#[_,_,_,z]:=q7;let:=z.elim
end
def ai(c:X.A.units+64<Ld)(b:X.K=K:=by rfl):CW X (EZ .Eq)<|zxM K:=by subst b;let:=kR c
end L2
namespace AxT
open PySem PySem.Spec PyProof.Rows PySem.SeqAt
open AutoSeq1 (wpAny_loadPart')
end AxT
namespace L2
open PySem PySem.Spec PyProof.Rows
inductive tW(K:CK)(x:V)(y:V)(H:Hp)(Q:VK):Prop|mk(a:_)(b:_)(xs:_)(ys:_)(h0:x=.ref a)(h1:y=.ref b)(h2:yq K H a xs)(h3:yq K H b ys)(h4:`xs+`ys<=sizeLine)(h5:∀p H',zx H H'->yq K H' p (xs++ys)->Q (.ref p) H'):tW K x y H Q
def uv:CW X (LS .Add)<|tW X.K:=by
 intro D s T H x y v u Q I A B h;let#[a,b,xs,S,rfl,rfl,ha,hb,G,q]:=h;by_cases w:xs=[];.subst w;cases A;cases B;let#[J,R,N,_]:=I.tuple ha;let#[z,U,P,_]:=I.tuple hb;let F:=R.oX.mpr rfl;subst F;let#[#[cls,E,data,sl],t,r,n,hd]:=id N;let#[#[o,j,i,l],g,c,n2,f]:=id P;simp only at r hd c f;subst r hd c f;let:=concat_meets #[_,t,Ej] #[_,g,Ej] noFill_tuple_add seq_tuple_add V9 V3 (VT ..) (tuple_addW0 a b _ _ n n2 E j sl l<|by simp) #[t,g,#[.ref b,H,I,Ej,q b H (zx.refl _) hb]]
 .let:=ag D s T H _ _ v u Q I A B #[a,b,xs,S,Ej,Ej,ha,hb,w,G,λe=>q a H (zx.refl _)<|by simp_all[Yi],λ_ p L=>q p _ (An.zz L)<|yq.of zD]
end L2
namespace AxR
open PySem PySem.Spec PyProof.Rows
open AutoSeq1 (wpAny_loadPart')
def Bv:Manifest.owners.lookup (String.ofList ['d','e','s','r','e','v','e','r'].reverse)=A0 Manifest.sig_reversed:=by kernel_rfl
def slot_next:Slot "reversed" "__next__" "reversed.__next__":=.of (owner:="reversed") (n:="__next__") (by rw[Vt];kernel_rfl) (by lk) (by lk) (by lk) (by trivial)<|by rw[Y5];kernel_rfl
def entry_next:MV table "reversed.__next__"=A0 Builtin.«reversed.__next__»:=entryFor_of_tree<|by rfl
def args_next(a:Es):argsOk "reversed.__next__" #[[a],[]]:=by unfold argsOk;rw[UU (n:=['_','_','t','x','e','n','_','_']) (by rfl) Bv];rfl
def B6:Slot "reversed" "__iter__" "reversed.__iter__":=.of (owner:="reversed") (n:="__iter__") (by rw[Vt];kernel_rfl) (by lk) (by lk) (by lk) (by first|let:=.inl<|by lk|let:=.inr _)<|by rw[Y5];kernel_rfl
def PJ(a:Es):argsOk "reversed.__iter__" #[[a],[]]:=by unfold argsOk;rw[UU (n:=['_','_','r','e','t','i','_','_']) (by rfl) Bv];rfl
def uR:MV table "reversed.__iter__"=A0 Builtin.«dict_keyiterator.__iter__»:=UE (id':="dict_keyiterator.__iter__") (by kernel_rfl) (by first|rfl|lk|(unfold String.splitOn;simp+decide[MB])) (by lk)<|by kernel_rfl
def Ry:Slot "reversed" "__init__" "object.__init__":=.of (owner:="object") (n:="__init__") (by kernel_rfl) (by lk) (by lk) (by lk) (by trivial)<|by rw[Y5];kernel_rfl
def called:TypeCalled "reversed" "reversed.__new__" "object.__init__":=#[by rfl,F.create_reversed,#[_,_,F.mro_reversed],F.made_reversed,F.plain_reversed_new,F.sub_reversed_self,Ry]
def KU:typeLookup (.type "tuple") "__reversed__"=Lm Ee:=by rw[Vt,builtinLookup_eq_fast];kernel_rfl
def dQ(l:Er)(i:Int):(Obj):={cls:=.type "reversed",data:=.fields #v[.ref l,La i]}
def m7(h:EH)(a l:Er)(i:Int):(Prop):=h.get? a=A0 (dQ l i)
def sub_tuple_dict:My (.type "tuple") (.type "dict")=Lm Ei:=by rw[Y5];rfl
def Ro(l:Er)(c:Array Es)(n:c.size<=sizeLine):Meets (Builtin.«reversed.__new__» #[[.type "reversed",.ref l],[]]) λ_ R s=>IsTup s.heap l c/\∀tk,R (.ok<|.ret<|.ref ⇑s) {s with heap:=s.heap.push<|dQ l<|(c.size:Int)-1,toks:=tk}:=.of_wp λprog w A R s h=>by
  let#[e,h]:=h;let:=Zz<|Jc (newClass_reversed _) ?_;try dsimp only
  let:=Zz<|Jc (a:=()) (by first|rfl|kernel_rfl) ?_;let:=Zz<|Jc (a:=()) (by first|rfl|kernel_rfl) ?_;try dsimp only
  let:=Zz<|JS e.typeIs KU ?_;try dsimp only
  let j:=e.typeIs;let g:=sub_tuple_dict;let i:=JE.lookup;let:=Zz<|YO (Q:=λ(b:Bool)f=>b=Eg/\f=s) (E:=λ_ _=>False) ?_ (λb f hb=>?_) λ_ _ z=>z.elim;.wp_walk;let:=#[Ej,Ej]
  .let#[rfl,rfl]:=hb;rw[ZX<|∅];let hn:=L2.sG;let:=Zz<|len_tuple e ⋯<|Zz<|Jc rfl ?_;try dsimp only
   unfold Builtin.SmallTypes.newRecord;let:=Zz<|YA<|ZF #[_,Ej,h _]
def zyJ{l:Er}{b:Array Es}(e:b.size<=sizeLine)(c:IsTup s.heap l b)(h:∀tk,Q (.ref ⇑s) {s with heap:=s.heap.push<|dQ l<|(b.size:Int)-1,toks:=tk}):EA (EC prog w) A (call (.type "reversed") [.ref l]) Q E s:=callType_new called ∅ (F.typeCall_reversed_1 _) (F.newCall_reversed_1 _) (λobj=>F.args_object_init_2 obj _) F.entry_reversed_new (Ro l b e) #[c,λtk=>#[#[_,ZL _ rfl,Ej],h tk]]
def typeIs{i:Int}(x:m7 s.heap a l i):s.TypeIs (.ref a) "reversed":=#[_,x,Ej]
def next_item{c:Array Es}{x:Es}{Q:Db->Dg}(hit:m7 s.heap it l (i:Int))(g:IsTup s.heap l c)(o:l≠it)(q:c.size<=sizeLine)(j:c[i]?=A0 x)(n:∀h' tk,m7 h' it l ((i:Int)-1)->EW it s.heap h'->Q (A0 x) {s with heap:=h',toks:=tk}):EA (EC prog w) A (L6<|.ref it) Q E s:=by
 let b:=hit;let p:=(Jx.mp j).1;let:=Zz<|Ju<|YJ (typeIs hit) slot_next<|Yw slot_next (typeIs hit) entry_next (Zz<|Jc rfl<|Zz<|Jb b (x:=.ref l) rfl rfl<|Zz<|Jb b rfl rfl<|Zz<|JS g.typeIs JE.lookup ?_)<|args_next _;let hn:=L2.sG;let:=Zz<|wpAny_mkInt ?_;let f:=g;let:=Zz<|Ju<|getItem_tuple f ⋯ ⋯ (by grind[seqIndex?]) j ?_;try dsimp only
 let:=Zz<|Jb b rfl rfl<|Zz<|YW b rfl (by simp)<|ZF #[x,Ej,ZF<|n _ _ ?_<|ET ..];let e:=Yt (Ln (·.setIfInBounds 1<|La<|i-1)) b rfl;let:=e
def next_end{Q:Db->Dg}(i:A.handled=Ee)(hit:m7 s.heap it l<|-1)(g:∀h',MN it s.heap h'->Q Ee {s with heap:=h'}):EA (EC prog w) A (L6<|.ref it) Q E s:=by
 let c:=hit;unfold L6;let:=Zz<|Ju<|YJ (typeIs hit) slot_next<|Yw slot_next (typeIs hit) entry_next ?_<|args_next _;let:=Zz<|Jc rfl ?_;try dsimp only
 let:=Zz<|Jb c (x:=.ref l) rfl rfl<|Zz<|Jb c rfl rfl ?_;show EA _ _ (if(-1:Int)<0 then _ else _) _ _ s;rw[Z4<|∅];let:=Zz<|JK<|Zz<|Zz<|YW c rfl (by simp) ?_;let f:=Yt (Ln (·.setIfInBounds 1<|La<|-1)) c rfl;let:=YW f rfl (by simp)<|Zz<|Zz ?_;simp only[newExc,newTuple];let:=Zz (YA (Zz<|Jc (a:=EY) (by first|rfl|simp[firstArgMember])<|YA ?_<|by size_fits)<|by size_fits);simp only[raiseNew];let:=Zz<|UV ?_;first|grind[Ee]|rw[i]
 let:=Zz<|ZF<|wpAny_throw ?_;let:=Zz<|YX #[_,ZL _ rfl,Ej] Ub<|ZF<|g _<|(Heap.ExtBut.push λb o hb e=>by rwa[Yq _ _<|EG hb,Yq _ _<|EG hb] _).push _
def nu{i:Int}(hit:m7 s.heap it l i)(h:Q (.ref it) s):EA (EC prog w) A (pyIter<|.ref it) Q E s:=UQ (typeIs hit) B6<|Yw B6 (typeIs hit) uR (ZF #[_,Ej,"reversed",_,typeIs hit,slot_next.lookup,h])<|PJ _
end AxR
namespace L2
open PySem PySem.Spec PyProof.Rows
def bq(K:CK)(a:Er)(n:Nat):(It):=#[λi H=>∃xs,yq K H a xs/\`xs=n/\i<n,λi H v b=>b=H/\∀xs,yq K H a xs->xs[n-1-i]?=A0 v,λi _=>i=n]
def Wn(a f:Er)(n:Nat):Turn P w K tg (bq K a n) [f] f λi h=>i<=n/\AxR.m7 h f a ((n:Int)-1-(i:Int))where
 mem:=by simp
 obj:=λi h st b hb=>by
  let e:b=f:=by simpa using hb
  subst e;let:=#[_,st.2,λv z=>by cases z]
 keep:=λi h y st k=>#[st.1,k f (by simp) _ st.2]
 item:=by
  intro X J Q G L i F s T H E I l st A;subst J Q G;let#[xs,hq,hl,hi]:=A;let#[ab,S,p,hz]:=I.tuple hq;let R:xs[n-1-i]?=A0 _:=ZO ⋯;let#[u,hu,ru]:=S.get R;let#[q,r,f2,t,x,f5]:=l f (by simp);let c:=st.2;let e:n-1-i=((n-1-i:Nat):Int):=⋯;rw[e]at c;let B:a≠f:=λz=>by let#[o,N,g,_]:=p;let D:=c;rw[z,D]at N;cases N;let g:Value.type "reversed"=Value.type "tuple":=g;let:=absurd g ∅
  let:=AxR.next_item c p B (by rwa[Z7,<-`S]) (by simpa using hu) λy tk j sb=>?_;let U:Inv X F T H {s with heap:=y,toks:=tk}:=I.turned (λb o hb e=>(sb.2 b hb).trans e) q r t x f5;let Y:((n-1-i:Nat):Int)-1=n-1-(i+1):=⋯;rw[Y]at j;let:=#[u,Ej,Fm j rfl rfl ∅ #[_,H,U,ru,#[Ej,λys hy=>by rw[I.ni hy hq];let:=R],#[hi,j],λb hb=>(l b hb).1]]
 done:=by intro X J Q G L i F s T H E I l st A;subst A;let#[q,r,f2,t,x,f5]:=l f (by simp);let c:=st.2;let e:i-1-(i:Int)=-1:=⋯;rw[e]at c;let:=AxR.next_end (I.ok.hd L) c λy Z=>#[Ej,I.turned Z q r t x f5]
 self:=λ_ _ _ _ _ st h=>AxR.nu st.2 h
def fX(K:CK)(c:TA):(TI):=λf H R=>c f H λe b=>∃a xs,e=[.ref a]/\yq K b a xs/\R (bq K a `xs) b
def boot_reversed:LO "reversed"=A0 (.type "reversed"):=by rfl
def dG{a:ER}{p:Pos}(j:Gl X "reversed")(hm:X.mg "reversed"=Ee)(ha:PA X [a] ta)(hs:EI [a] X.env=[(Ei,E8 a X.env)]:=by rfl):PI X tg (.Call (.Name "reversed" p) [a] [] pos)<|fX X.K ta:=by
 intro x s w H R I h;let:=Call_<|uZ I j hm boot_reversed<|Jt (CN (ha pos _ s w H _ I h) λB z ⟨D,g,c,t,r⟩=>?_) hs rfl;let#[i,xs,e,hq,q]:=r;subst e;let#[u,rfl,v]:=wW t;cases v;let#[l,f,n,y]:=c.tuple hq;let:=AxR.zyJ (by rwa[Z7,<-`f]) n λA=>AxR.nu (ZL _ rfl) ?_;let hl:=Z7▸f.length.symm;let:=#[_,_,_,_,g,Ej,c.kept λb o e=>ZE _ e,Wn i ..,#[Yk _,?_],λb hb=>?_,q];.rw[hl];let e:`xs-1-((0:Nat):Int)=`xs-1:=⋯;rw[e];let:=ZL _ rfl
 .let e:=by simpa using hb
  subst e;let:=c.pC (ZG _)<|c.hok.fresh<|ZG _
section
variable{a b c d:ER}{ta tb tc td:TE}
def i4(K:CK):(Di->Hp->VK->Prop):=λxs H Q=>∃p b,xs=[.ref p]/\(yp K H p b\/yq K H p b)/\Q (.int ((`b:Nat):Int)) H
inductive zw0(K:CK)(tup neg:Bool)(x:V)(y:V)(H:Hp)(Q:VK):Prop|mk(d:EB)(xs:De)(h0:Dt K H d x)(h1:Dt K H (if tup then .tuple xs else .list xs) y)(h2:EJ xs=Eg)(h3:d.canLay0=Eg)(h4:d.depth<=60)(h5:Q (.bl<|neg !=xs.any λy=>EX y d) H):zw0 K tup neg x y H Q
end
section
variable{σ:St}{H:Hp}
def Bj(g:X.stack=X.env::X.outer)(l:X.env.frame=A0 X.env.locals)(i:X.ex=[])(I:Inv X Dp σ H s){a T:Er}(R:X.s₀.heap.get? a=Ee)(D:X.s₀.heap.get? T=Ee)(ha:H a=Ee)(y:H T=Ee)(K:ExcAt s.heap a T cls){E:XK}(q:E cls Ee H){Ex:Es->Dg}:EA (EC X.prog X.w) X.A (leaving X.env<|.ref a) (λ_ s''=>HN X.prog X.w X.outer X.H₀ X.s₀ E (.ref a) s'') Ex s:=by
 let N:=kI (as:=[a,T]) I.stack;let P:X.A.frames=A0 (X.env::X.outer):=by rw[I.ok.frames,g]
 let hid:∀b,b=a\/b=T->(Iz s.heap [a,T] X.stack).get? b=Ee:=λb hb=>by cases hq:(Iz s.heap [a,T] X.stack).get? b with|none=>rfl|some o=>exfalso;let z:=VD ([a,T]++frs X.stack) (h:=s.heap) (b:=b) (YB _<|by simpa using hb);rw[z]at hq;cases hq
 let#[Y,vs,U,ts,t1,t2,t3,t4,t6,t7,t8,t9]:=K;let tw:RO ctx0 s.heap (Iz s.heap [a,T] X.stack) a cls .none:=#[Y,vs,T,U,ts,t1,t2,t3,t4,hid T<|.inr rfl,t6,t7,t8,t9];let:=NV XO P (g▸N) l tw jY (hid a<|.inl rfl) λh2 k1 k2 L Q=>?_;let#[u,x,f,p,v,u1,u2,u3,u4,u5,F,G,J,u9]:=L;let kp:∀b o,s.heap.get? b=A0 o->b≠a->b≠T->b∉frs X.stack->h2.get? b=A0 o:=λb o e h3 h4 hb=>k1 b o<|JT _ e<|by
  intro z;rcases ZY.mp z with z|z
  .let z:=by simpa using z
   let:=z.elim h3 h4
  .let:=hb z
 let sl:∀b o,s.heap.get? b=A0 o->b∈frs X.stack->∃sl,h2.get? b=A0 {o with slots:=sl}:=λb o e hb=>by let#[_,S,c,hd]:=I.stack.mem hb;rw[e]at c;cases c;let:=Q b o e hd
 let j:f=T\/s.heap.get? f=Ee:=by
  by_cases hq:f=T;.let:=.inl hq
  .let:=.inr ?_;cases Z:s.heap.get? f with|none=>rfl|some o=>
    exfalso;by_cases B:f∈frs X.stack
    .let n:=by let z:=k2;rw[<-g]at z;let:=z
     let#[_,S,c,hd]:=n.mem B;rw[G]at c;cases c;let:=hd _ J
    .let z:(Iz s.heap [a,T] X.stack).get? f=A0 o:=JT _ Z<|by
      intro z;rcases ZY.mp z with z|z
      .let z:=by simpa using z
       let:=z.elim F hq
      .let:=B z
     rw[u5]at z;cases z
 let r:=j.elim (λz=>z▸D) λz=>I.uo i z;let t:H f=Ee:=j.elim (λz=>z▸y) λz=>I.none_of z;let:=R4 i I R D ha y r t #[u,x,p,v,u1,u2,u3,u4,F,G,J,u9] q kp sl
end
def jP{N:By}{f:Er}{g:Es}{H:Hp}{E:XK}:Raises (GX (HN P w) P w K mg dX N qual scope f g A outer s H E) λ_ H' cls=>E cls Ee H':=by intro p v r u e t I l;let#[a,T,cls,H',rfl,os,bare,un,hok,o,n,ha,j,i,q]:=l;let c:=I.call' os un hok bare λb z=>absurd z (by simp);let:=Bj rfl rfl rfl c (I.uo rfl o) (I.uo rfl n) ha j i q
def Bp(l b:Er)(c:Array Es)(n:Nat)(e:Array Es)(g:¬(!c.isEmpty&&Mr (c.size+e.size))=Eg)(h1:c.size<=sizeLine)(h2:c.size+e.size<=sizeLine+1):Meets (Builtin.«list.extend» #[[.ref l,.ref b],[]]) λ_ R s=>s.heap.get? l=A0 {cls:=.type "list",data:=.seq c n}/\IsTup s.heap b e/\R (.ok<|.ret .none) {s with heap:=s.heap.update l<|Lg λx=>x++e}:=.of_wp λprog w A R s h=>by let#[hl,f,h]:=h;let i:=f.typeIs;let:=Zz<|Jc rfl<|Zz<|J9 i ?_;rw[Z4<|by simp];let#[o,j,p,m,hd]:=f;let:=Zz<|wpAny_listItems j hd<|Zz<|wpAny_listItems hl rfl ?_;rw[ZX g];let:=Zz<|UW hl rfl (ZF #[_,Ej,h]) h1<|by simp_all
inductive oU(K:CK)(x:V)(vs:Di)(H:Hp)(Q:VK):Prop|mk(l:_)(b:_)(xs:_)(zs:_)(h0:x=.ref l)(h1:vs=[.ref b])(h2:H l=A0 (.lst xs))(h3:yq K H b zs)(h4:`xs+`zs<=sizeLine)(h5:Q .non<|upd H l<|.lst<|xs++zs):oU K x vs H Q
def jV:iq X "list.extend"<|oU X.K:=by
 intro E s P H x L v J Q I D B h;let#[l,b,xs,N,rfl,rfl,i,p,G,q]:=h;cases D;let#[u,rfl,A]:=B.one;cases A;let#[z,f,n,r,hl,e]:=I.lC i;let#[c,j,y,w]:=I.tuple p;let t:=`j;let g:f.toArray.size+c.toArray.size<=sizeLine:=by grind
 let o:¬(!f.toArray.isEmpty&&Mr (f.toArray.size+c.toArray.size))=Eg:=by rw[KW g,Jy];simp
 let:=JZ F.slot_list_extend #[_,e,Ej] F.entry_list_extend (F.args_list_extend_2 ..) (Bp l b _ n _ o ⋯<|⋯) #[e,y,.non,_,I.zy2 i e (by simp) (r.append j) ?_,Ej,q];rw[ZS];lia
def rG.mk'{st:ES}(F:yd K x qual st f fd)(G:zj P w K mg dX (HN P w) k f fd ps sp)(hm:mg x=A0 (.ref f))(b:wV K fd ps []):rG P w K mg dX k x ps sp:=#[f,fd,G,hm,F.kp,b]
instance:DecidableEq PyData:=λa b=>decidable_of_iff _<|same_iff (a:=a) (b:=b)
mutual
def Xd:(EB->Bool)|.str x=>Ez x|.tuple ds=>yP ds|.none=>Eg|_=>Ei
def yP:(De->Bool)|[]=>Eg|d::ds=>Xd d&&yP ds
end
mutual
def Bi:(EB->Nat)|.tuple ds=>qP ds+1|_=>0
def qP:(De->Nat)|[]=>0|d::ds=>max (Bi d)<|qP ds
end
mutual
def nH(h:EH):(EB->Es->Prop)|.str x,v=>∃t,v=.str x t|.tuple ds,v=>∃a o b n,v=.ref a/\h.get? a=A0 o/\o.cls=.type "tuple"/\o.data=.seq b n/\wD h ds b.toList|.none,v=>v=.none|_,_=>False
def wD(h:EH):(De->Da->Prop)|[],vs=>vs=[]|d::ds,vs=>∃v r,vs=v::r/\nH h d v/\wD h ds r
end
mutual
def XC(w:Ey):(EB->Int)|.str x=>hashStr w x|.tuple ds=>reduceHash<|LA<|IQ w ds|.none=>reduceHash 0xFCA86420|_=>0
def IQ(w:Ey):(De->List Int)|[]=>[]|d::ds=>XC w d::IQ w ds
end
mutual
def Bt:(EB->Nat)|.tuple ds=>xC ds+1|_=>1
def xC:(De->Nat)|[]=>0|d::ds=>Bt d+xC ds
end
def Ga(w:Ey):∀ds,IQ w ds=ds.map (XC w)|[]=>rfl|d::ds=>by simp[IQ,Ga]
def Ig:∀(a b:De),xC (a++b)=xC a+xC b|[],b=>by simp[xC]|d::a,b=>by show Bt d+xC (a++b)=Bt d+xC a+xC b;rw[Ig a b];lia
mutual
theorem nH.zp:∀(d:EB)(v:Es),nH h d v->∃as,Reads h v d as|.str x,_,⟨t,e⟩=>by subst e;let:=#[_,.str x t]|.tuple ds,_,⟨a,o,vs,n,e,h1,h2,h3,h4⟩=>by subst e;let#[as,q]:=wD.zp ds vs.toList h4;let:=#[_,.tuple h1 h2 h3 q]|.none,_,e=>by cases show _=EY from e;let:=#[_,.none]|.bool _,_,q=>q.elim|.int _,_,q=>q.elim|.list _,_,q=>q.elim|.dict _,_,q=>q.elim
theorem wD.zp:∀(ds:De)(vs:Da),wD h ds vs->∃as,Ms h vs ds as|[],vs,e=>by cases show vs=[]from e;let:=#[_,.nil]|d::ds,_,⟨v,r,e,h1,h2⟩=>by subst e;let#[as,q]:=nH.zp d v h1;let#[bs,b]:=wD.zp ds r h2;let:=#[_,.cons q b]end
mutual
theorem nH.inj:∀(d e:EB)(v:Es),nH h d v->nH h e v->d=e
 |.str x,e,v,⟨t,h1⟩,h2=>by subst h1;cases e with|str y=>let#[g,q]:=h2;cases q;rfl|tuple ds=>let#[a,o,b,n,q,_]:=h2;cases q|none=>cases show _=EY from h2|bool _=>let:=h2.elim|int _=>let:=h2.elim|list _=>let:=h2.elim|dict _=>let:=h2.elim
 |.tuple ds,e,v,⟨a,o,b,n,h1,h3,h4,h5,h6⟩,h2=>by subst h1;cases e with|str y=>let#[g,q]:=h2;cases q|tuple es=>let#[l,r,j,p,q,c,s,f,i]:=h2;cases q;rw[h3]at c;cases c;rw[h5]at f;cases f;rw[wD.inj ds es b.toList h6 i]|none=>cases show _=EY from h2|bool _=>let:=h2.elim|int _=>let:=h2.elim|list _=>let:=h2.elim|dict _=>let:=h2.elim
 |.none,e,v,h1,h2=>by cases show v=EY from h1;cases e with|str y=>let#[g,q]:=h2;cases q|tuple es=>let#[a,o,b,n,q,_]:=h2;cases q|none=>rfl|bool _=>let:=h2.elim|int _=>let:=h2.elim|list _=>let:=h2.elim|dict _=>let:=h2.elim
 |.bool _,_,_,q,_=>q.elim|.int _,_,_,q,_=>q.elim|.list _,_,_,q,_=>q.elim|.dict _,_,_,q,_=>q.elim
theorem wD.inj:∀(ds es:De)(vs:Da),wD h ds vs->wD h es vs->ds=es|[],[],_,_,_=>rfl|[],e::es,vs,h1,⟨v,r,q,_⟩=>by rw[show vs=[]from h1]at q;cases q|d::ds,[],vs,⟨v,r,q,_⟩,h2=>by rw[show vs=[]from h2]at q;cases q|d::ds,e::es,_,⟨v,r,h1,h3,h4⟩,⟨v',r',q1,q3,q4⟩=>by subst h1;injection q1 with b c;subst b c;rw[nH.inj d e v h3 q3,wD.inj ds es r h4 q4]end
mutual
theorem nH.keeps{h c:EH}{dd:Er}{f:Obj}{i:Array Mx}{g:Nat}(b:h.get? dd=A0 f)(hd:f.data=.dict i g)(hs:EW dd h c):∀(d:EB)(v:Es),nH h d v->nH c d v
 |.str x,_,q=>q|.tuple ds,_,⟨a,o,vs,n,e,h1,h2,h3,h4⟩=>by
  let ne:a≠dd:=λz=>by subst z;rw[h1]at b;cases b;rw[h3]at hd;cases hd
  let:=#[a,o,vs,n,e,(hs.2 a ne).trans h1,h2,h3,wD.keeps b hd hs ds vs.toList h4]|.none,_,q=>q|.bool _,_,q=>q.elim|.int _,_,q=>q.elim|.list _,_,q=>q.elim|.dict _,_,q=>q.elim
theorem wD.keeps{h b:EH}{dd:Er}{f:Obj}{i:Array Mx}{g:Nat}(c:h.get? dd=A0 f)(hd:f.data=.dict i g)(hs:EW dd h b):∀(ds:De)(vs:Da),wD h ds vs->wD b ds vs|[],_,q=>q|d::ds,_,⟨v,r,e,h1,h2⟩=>#[v,r,e,nH.keeps c hd hs d v h1,wD.keeps c hd hs ds r h2]end
def FA(prog:Et)(w:Ey)(d:EB):(Prop):=∀(A:EL)(E:Es->Dg)(s:Eu)(v:Es)(Q:Int->Dg),A.units+Bi d<Ld->nH s.heap d v->Q (XC w d) {s with toks:=s.toks+Bt d}->EA (EC prog w) A (pyHash v) Q E s
def FT:∀{ds:De}{d:EB},d∈ds->Bi d<=qP ds
 |[],_,h=>nomatch h|e::ds,d,h=>by
  show Bi d<=max ..;rcases ZJ.mp h with rfl|h;.lia
  .have:=FT h;lia
def NO{i:De}(K:∀d∈i,FA prog w d):FA prog w<|.tuple i:=by
 intro A E s v Q H j h;let#[a,o,L,n,rfl,u,B,hd,G]:=j;let q:A.units<cLine:=⋯;let l:s.TypeIs (.ref a) "tuple":=#[o,u,B];let J:A.units+(qP i+1)<cLine:=H;first|unfold pyHashByItsType|skip
 first|let:=Zz<|wpAny_cRoomFor_or (.inr q) ?_|skip
 let:=Zz<|JS l F.slot_tuple_hash.lookup ?_;rw[ZX<|by simp[beq_builtin_none]];let:=Zz<|JS l F.slot_tuple_hash.lookup<|Zz<|wpAny_callSpecialIfBoundUnlessNone?_slot l F.slot_tuple_hash<|Yw F.slot_tuple_hash l F.entry_tuple_hash ?_<|F.args_tuple_hash_1 _;show EA _ _ (Mg (.ref a)>>=_) _ _ s;let:=Zz<|UD u hd<|Zz ?_;rw[<-Array.forIn_toList];let:=VJ _ (λg(b:Array Int)t=>∃done left,i=done++left/\wD s.heap left g/\b.toList=done.map (XC w)/\t={s with toks:=s.toks+xC done}) _ ?_ ?_ _ _ #[[],i,Ej,G,Ej,by simp[xC]];.rintro x g b t ⟨done,left,e,hl,hb,rfl⟩;cases left with|nil=>cases hl|cons d left=>
   let#[v,r,p,h1,h2]:=hl;injection p with y z;subst y z;let hm:d∈i:=by rw[e];simp
   let D:=FT hm;let hq:∃c f,i=c++f/\wD s.heap f g/\(b.push<|XC w d).toList=c.map (XC w)/\({s with toks:=s.toks+xC done+Bt d}:Eu)={s with toks:=s.toks+xC c}:=#[done++[d],left,by simp[e],h2,by simp[hb],by simp[Ig,xC,Nat.add_assoc]];let:=Zz<|K d hm A.in1 _ _ _ _ (by show A.units+1+Bi d<Ld;lia) h1 ?_;first|let:=ZF hq|let:=Zz<|ZF<|ZF hq
 .rintro b t ⟨done,left,e,hl,hb,rfl⟩;cases left with|cons d left=>let#[v,r,p,_]:=hl;cases p|nil=>
   rw[Yi]at e;subst e;show EA _ _ (retInt<|LA b.toList) _ _ _;rw[hb];let h:Q (reduceHash _) {s with toks:=s.toks+(xC i+1)}:=h;rw[Ga]at h;let:=wpAny_ret_mkInt ?_;show EA _ _ (if(decide _&&decide _)=Eg then _ else _) Q E _;unfold reduceHash at h;by_cases j:(decide (-(2:Int)^63<=LA (i.map<|XC w))&&decide (LA (i.map<|XC w)<2^63))=Eg;.rw[Z4 j];rw[Z4 j]at h;let:=ZF<|by simp_all[Nat.add_assoc]
   .rw[ZX j];rw[ZX j]at h;let:=Zz<|JK<|ZF<|by simp_all[Nat.add_assoc]
mutual
theorem OQ:∀d:EB,FA prog w d|.str x=>λA E s v Q _ b h=>by let#[t,rfl]:=b;let:=(strKind prog w).pyHash (k:=x) (by show Lk x (.str x t)=Eg;simp[Lk]) h|.tuple ds=>NO<|Kw ds|.none=>λA E s v Q c b h=>by cases show v=EY from b;let:=PySem.W.pyHash_slot (T:="NoneType") rfl F.slot_NoneType_hash F.entry_NoneType_hash (F.args_NoneType_hash_1 _) (beq_builtin_none _) (.inr<|⋯)<|Zz<|ZF<|Zz<|wpAny_mkInt<|ZF #[_,_,Ej,h]|.bool _=>λ_ _ _ _ _ _ b _=>b.elim|.int _=>λ_ _ _ _ _ _ b _=>b.elim|.list _=>λ_ _ _ _ _ _ b _=>b.elim|.dict _=>λ_ _ _ _ _ _ b _=>b.elim
theorem Kw:∀ds:De,∀d∈ds,FA prog w d|[],_,h=>nomatch h|e::ds,d,h=>(ZJ.mp h).elim (λz=>z▸OQ e)<|Kw ds d
end
mutual
theorem OM:∀(d e:EB),Xd d=Eg->Xd e=Eg->EX d e=decide (d=e)|.str x,.str y,_,_=>by show(x==y)=_;rw[YV];simp|.str _,.tuple _,_,_=>by rw[ZZ<|by simp];rfl|.tuple _,.str _,_,_=>by rw[ZZ<|by simp];rfl|.tuple ds,.tuple es,h1,h2=>by show E7 ds es=_;rw[Kn ds es h1 h2];let:=Jr.mpr<|by simp|.none,.none,_,_=>rfl|.none,.str _,_,_=>by rw[ZZ<|by simp];rfl|.none,.tuple _,_,_=>by rw[ZZ<|by simp];rfl|.none,.bool _,_,h=>by cases h|.none,.int _,_,h=>by cases h|.none,.list _,_,h=>by cases h|.none,.dict _,_,h=>by cases h|.bool _,_,h,_=>by cases h|.int _,_,h,_=>by cases h|.list _,_,h,_=>by cases h|.dict _,_,h,_=>by cases h|.str _,.none,_,_=>by rw[ZZ<|by simp];rfl|.str _,.bool _,_,h=>by cases h|.str _,.int _,_,h=>by cases h|.str _,.list _,_,h=>by cases h|.str _,.dict _,_,h=>by cases h|.tuple _,.none,_,_=>by rw[ZZ<|by simp];rfl|.tuple _,.bool _,_,h=>by cases h|.tuple _,.int _,_,h=>by cases h|.tuple _,.list _,_,h=>by cases h|.tuple _,.dict _,_,h=>by cases h
theorem Kn:∀(ds es:De),yP ds=Eg->yP es=Eg->E7 ds es=decide (ds=es)|[],[],_,_=>rfl|[],_::_,_,_=>rfl|_::_,[],_,_=>rfl|d::ds,e::es,h1,h2=>by let h1:(Xd d&&yP ds)=Eg:=h1;let h2:(Xd e&&yP es)=Eg:=h2;rw[ZQ]at h1 h2;show(EX d e&&E7 ds es)=_;rw[OM d e h1.1 h2.1,Kn ds es h1.2 h2.2,<-Bool.decide_and];let:=Jr.mpr<|by simp
end
mutual
theorem HH:∀d:EB,Xd d=Eg->d.canLay0=Eg/\d.depth<=Bi d|.str x,h=>#[h,ZG _]|.tuple ds,h=>by let#[h1,h2]:=Nv ds h;let:=#[h1,?_];show E2 ds+1<=qP ds+1;lia|.none,_=>#[Ej,ZG _]|.bool _,h=>by cases h|.int _,h=>by cases h|.list _,h=>by cases h|.dict _,h=>by cases h
theorem Nv:∀ds:De,yP ds=Eg->EJ ds=Eg/\E2 ds<=qP ds
 |[],_=>#[Ej,ZG _]|d::ds,h=>by
  let h:(Xd d&&yP ds)=Eg:=h;rw[ZQ]at h;let#[h1,h2]:=HH d h.1;let#[h3,h4]:=Nv ds h.2;let:=#[?_,?_];.show(d.canLay0&&EJ ds)=Eg;rw[h1,h3];rfl
  .show max d.depth (E2 ds)<=max (Bi d) (qP ds);lia
end
def IN(prog:Et)(w:Ey)(d:EB):(Prop):=∀(A:EL)(E:Es->Dg)(s:Eu)(v:Es)(n:Nat)(Q:Bool->Dg),Bi d<=n->nH s.heap d v->Q Eg s->EA (EC prog w) A (eqIsQuiet n v) Q E s
def M5{c:De}(B:∀d∈c,IN prog w d):IN prog w<|.tuple c:=by
 intro A E s v n Q hn g h;let#[a,o,D,m,rfl,l,u,hd,y]:=g;let j:s.TypeIs (.ref a) "tuple":=#[o,l,u];let hn:qP c+1<=n:=hn;let#[n,rfl]:∃k,n=k+1:=#[n-1,⋯];unfold eqIsQuiet;let:=Zz<|JS j F.slot_tuple_eq.lookup<|Zz<|YX j isSubtype_tuple_tuple<|Zz<|Uc l hd<|Zz ?_;rw[<-Array.forIn_toList];let:=VJ _ (λb r i=>r.1=Ee/\i=s/\∃left,(∀d∈left,d∈c)/\wD _ left b) _ ?_ ?_ _ _ #[Ej,Ej,c,λ_ z=>z,y];.rintro v b r i ⟨g,rfl,left,hm,hl⟩;cases left with|nil=>cases hl|cons d left=>let#[J,G,t,h1,h2]:=hl;injection t with p q;subst p q;let f:=hm d ZD;have:=FT f;let:=Zz<|B d f A _ i _ n _ ⋯ h1<|ZF #[Ej,Ej,_,λe x=>hm e<|ZB _ x,h2]
 .rintro⟨H⟩ i ⟨g,rfl,_⟩;subst g;let:=ZF h
mutual
theorem M4:∀d:EB,IN prog w d|.str x=>λA E s v n Q _ b h=>by let#[t,rfl]:=b;rw[eqIsQuiet_byValue _<|by rfl];let:=ZF h|.tuple ds=>M5<|Fv ds|.none=>λA E s v n Q _ b h=>by cases show v=EY from b;rw[eqIsQuiet_byValue _<|by rfl];let:=ZF h|.bool _=>λ_ _ _ _ _ _ _ b _=>b.elim|.int _=>λ_ _ _ _ _ _ _ b _=>b.elim|.list _=>λ_ _ _ _ _ _ _ b _=>b.elim|.dict _=>λ_ _ _ _ _ _ _ b _=>b.elim
theorem Fv:∀ds:De,∀d∈ds,IN prog w d|[],_,h=>nomatch h|e::ds,d,h=>(ZJ.mp h).elim (λz=>z▸M4 e)<|Fv ds d
end
def xJ(prog:Et)(w:Ey):(HeapKind prog w EB) where
 is:=λh d a=>nH h d (.ref a)/\Xd d=Eg/\Bi d<=6
 hash:=XC w
 draws:=Bt
 room:=λA=>A.units+8<Ld
 inj:=λc f=>nH.inj _ _ _ c.1 f.1
 keeps:=λx i hd j=>#[nH.keeps i hd j _ _ x.1,x.2]
 pyHash:=λl hk h=>OQ _ _ _ _ _ _ (by have:=hk.2.2;lia) hk.1 h
 eqBool:=λ{A E s x y a b Q}l c f h=>by let#[g,n]:=nH.zp _ _ c.1;let#[bs,o]:=nH.zp _ _ f.1;let#[l1,p]:=HH _ c.2.1;let#[l2,d2]:=HH _ f.2.1;let e:=SeqAt.eqAt_reads x y A s _ _ g bs n o l1 l2 (by have:=c.2.2;lia);rw[OM _ _ c.2.1 f.2.1]at e;let:=e prog w E Q h
 quiet:=λhk h=>M4 _ _ _ _ _ _ _ (by have:=hk.2.2;lia) hk.1 h
def HR(d:Er)(c:List Mx):(HO):=.ext λh=>∃o b,h.get? d=A0 o/\o.ExactDict/\o.data=.dict c.toArray b/\(d==E6)=Ei
def Pg{h:EH}{d:Er}{e:List Mx}{o:Obj}{c:Nat}(h1:h.get? d=A0 o)(h2:o.ExactDict)(h3:o.data=.dict e.toArray c)(h4:(d==E6)=Ei):xx P w H h d<|HR d e:=#[#[o,c,h1,h2,h3,h4],#[o,h1],λ_ _ ⟨f,b,g,i⟩ k=>#[f,b,k f g,i]]
mutual
theorem Dt.other{K:CK}(n:∀xs,¬Rd H d (.tup xs)):∀(k:EB)(v:V),Xd k=Eg->Dt K H k v->Dt K (upd H d o) k v
 |.str x,_,_,h=>h|.tuple ds,_,t,⟨a,xs,h1,h2,h3⟩=>by
  let:=#[a,xs,h1,?_,zu.other n ds xs t h3];rcases h2 with h2|h2;.let ne:a≠d:=λz=>n xs<|z▸h2;left;unfold Rd;rwa[zH ne]
  .let:=.inr h2|.none,_,_,h=>h|.bool _,_,t,_=>by cases t|.int _,_,t,_=>by cases t|.list _,_,t,_=>by cases t|.dict _,_,t,_=>by cases t
theorem zu.other{K:CK}(n:∀xs,¬Rd H d (.tup xs)):∀(ks:De)(vs:Di),yP ks=Eg->zu K H ks vs->zu K (upd H d o) ks vs|[],_,_,h=>h|k::ks,_,t,⟨x,r,h1,h2,h3⟩=>by let t:(Xd k&&yP ks)=Eg:=t;rw[ZQ]at t;let:=#[x,r,h1,Dt.other n k x t.1 h2,zu.other n ks r t.2 h3]end
section
variable{σ:St}{H:Hp}
mutual
theorem Dt.rdT(I:Inv X Dp σ H s):∀(d:EB)(v:V)(u:Es),Xd d=Eg->Dt X.K H d v->yu v u->nH s.heap d u|.str x,_,u,_,h,r=>by cases show _=V.str x from h;let:=r|.tuple ds,_,u,t,⟨a,xs,h1,h2,h3⟩,r=>by subst h1;cases show u=EO a from r;let#[b,f,#[o,e,c,n,d],_]:=I.tuple h2;let:=#[a,o,b.toArray,n,Ej,e,c,d,by simpa using zu.rdT I ds xs b t h3 f]|.none,_,u,_,h,r=>by cases show _=V.non from h;let:=r|.bool _,_,_,t,_,_=>by cases t|.int _,_,_,t,_,_=>by cases t|.list _,_,_,t,_,_=>by cases t|.dict _,_,_,t,_,_=>by cases t
theorem zu.rdT(I:Inv X Dp σ H s):∀(ds:De)(xs:Di)(us:Da),yP ds=Eg->zu X.K H ds xs->zb xs us->wD s.heap ds us|[],_,us,_,h,r=>by cases show _=[]from h;cases r;let:=rfl|d::ds,_,us,t,⟨x,r,h1,h2,h3⟩,rv=>by let t:(Xd d&&yP ds)=Eg:=t;rw[ZQ]at t;subst h1;cases rv with|cons r1 r2=>let:=#[_,_,Ej,Dt.rdT I d x _ t.1 h2 r1,zu.rdT I ds r _ t.2 h3 r2]end
def XM(k:EB):(Prop):=Xd k=Eg/\Bi k<=6
def wB(K:CK)(H:Hp)(p:EB×V)(q:EB×Er×Es):(Prop):=p.1=q.1/\Dt K H p.1 (.ref q.2.1)/\yu p.2 q.2.2
def ThD(P:Et)(w:Ey)(K:CK)(H:Hp)(d:Er)(ps:List<|EB×V):(Prop):=`ps<=10000/\(∀p∈ps,XM p.1)/\(ps.map (·.1)).Nodup/\∃xs:List<|EB×Er×Es,H d=A0 (HR d<|xs.map<|entryOfKey<|xJ P w)/\Lo (wB K H) ps xs
def wB.keys{K:CK}:∀{ps:List<|EB×V}{xs:List<|EB×Er×Es},Lo (wB K H) ps xs->xs.map (·.1)=ps.map (·.1)|_,_,.nil=>rfl|_,_,.cons r t=>by rw[Z9,Z9,wB.keys t,r.1]
def wB.at{K:CK}{k:EB}:∀{ps:List<|EB×V}{xs:List<|EB×Er×Es},Lo (wB K H) ps xs->atKey xs k=Ee/\U0 ps k=Ee\/∃p v,atKey xs k=A0 p/\U0 ps k=A0 v/\yu v p.2
 |_,_,.nil=>.inl #[Ej,Ej]|p::ps,q::xs,.cons r t=>by
  unfold atKey U0;rw[JD,JD];let e:=r.1;by_cases h:q.1=k;.rw[ZK h,ZK<|e▸h];let:=.inr #[q.2,p.2,Ej,Ej,r.2.2]
  .rw[ZZ h,ZZ<|e▸h];let:=wB.at t
def wB.is(I:Inv X Dp σ H s):∀{ps:List<|EB×V}{xs:List<|EB×Er×Es},(∀p∈ps,XM p.1)->Lo (wB X.K H) ps xs->∀x∈xs,(xJ X.prog X.w).is s.heap x.1 x.2.1
 |_,_,_,.nil,x,h=>nomatch h|p::ps,q::xs,hk,.cons r t,x,h=>by
  rcases ZJ.mp h with rfl|h;.let#[k1,k2]:=hk p ZD;rw[<-r.1];let:=#[Dt.rdT I _ _ _ k1 r.2.1 rfl,k1,k2]
  .let:=wB.is I (λp b=>hk p<|ZB _ b) t x h
def ThD.heap{ps:List<|EB×V}(I:Inv X Dp σ H s)(T:ThD X.prog X.w X.K H d ps):∃xs,H d=A0 (HR d<|xs.map<|entryOfKey<|xJ X.prog X.w)/\Lo (wB X.K H) ps xs/\s.heap.DictOfH (xJ X.prog X.w) d xs/\(d==E6)=Ei:=by let#[hl,hk,nd,xs,e,r]:=T;let#[#[o,b,h1,h2,h3,h4]]:(∃o b,s.heap.get? d=A0 o/\o.ExactDict/\o.data=.dict _ b/\(d==E6)=Ei)/\_:=I.hok d _ e;let:=#[xs,e,r,#[o,_,b,h1,h2,h3,by simp,wB.is I hk r,wB.keys r▸nd],h4]
def T9(b:A.units+64<Ld)(prog:Et)(w:Ey):(xJ prog w).room A.in1:=by show A.units+1+8<Ld;lia
def key_is(I:Inv X Dp σ H s){k:EB}{a:Er}(hk:XM k)(h:Dt X.K H k<|.ref a):(xJ X.prog X.w).is s.heap k a:=#[Dt.rdT I _ _ _ hk.1 h rfl,hk]
end
inductive zvS(P:Et)(w:Ey)(K:CK)(y:V)(x:V)(H:Hp)(Q:VK):Prop|mk(a:_)(d:_)(ps:_)(k:_)(h0:y=.ref a)(h1:x=.ref d)(h2:ThD P w K H d ps)(h3:XM k)(h4:Dt K H k<|.ref a)(h5:Q (.bl (U0 ps k).isSome) H):zvS P w K y x H Q
def dh(c:X.A.units+64<Ld):CW X (EZ .In)<|zvS X.prog X.w X.K:=by
 intro g s j H y x v u Q I f e h;let#[a,d,i,k,rfl,rfl,T,hk,ha,q]:=h;cases f;cases e;let#[xs,_,r,b,hd]:=T.heap I;let:=wpAny_in_heap (T9 c ..) (key_is I hk ha) hd b #[_,H,I.tok _,?_,q];rcases wB.at r with⟨e1,e2⟩|⟨p,v,e1,e2,_⟩;.rw[e1,e2];rfl
 .rw[e1,e2];rfl
def hV(P:Et)(w:Ey)(K:CK)(g ty:TE):(TE):=λe H Q=>g e H λx f=>ty e f λy b=>∃a d c k v,x=.ref d/\y=.ref a/\ThD P w K b d c/\XM k/\Dt K b k (.ref a)/\U0 c k=A0 v/\Q v b
def aB{i:ER}(t:X.A.units+64<Ld)(q:PE X o td)(n:PE X i ty)(hs:WC i):PE X (.Subscript o i pos)<|hV X.prog X.w X.K td ty:=by
 intro L s e H Q I h;let:=HC PySem.F.slot_dict_getitem.lookup hs<|CN (q _ s e H _ I h) λu J ⟨x,f,j,E,B⟩=>CN (n _ J e f _ j B) λz s2 q9=>?_;let#[y,g,b,G,a,d,N,k,v,ex,l,T,hk,ha,hv,D]:=q9;subst ex l;obtain rfl:u=EO d:=E;obtain rfl:z=EO a:=G;let#[xs,_,r,c,hd]:=T.heap b;let:=#[c.typeIs,?_];rcases wB.at r with⟨e1,e2⟩|⟨p,v',e1,e2,rv⟩;.rw[hv]at e2;cases e2
 .rw[hv]at e2;cases e2;let:=wpAny_getItem_heap (T9 t ..) (key_is b hk ha) c e1 #[v,g,b.tok _,rv,D]
def gI(P:Et)(w:Ey)(K:CK)(j ty l:TE):(TS):=λD c H=>l c H λv f=>j c f λx g=>ty c g λy b=>∃a d e k,x=.ref d/\y=.ref a/\ThD P w K b d e/\`e<10000/\XM k/\Dt K b k (.ref a)/\∀o,ThD P w K (upd b d o) d (yh e k v)->(∃i,o=HR d i)->D.nx c (upd b d o)
def kT{α b:Type}{F:α->b->Prop}:∀{l l':List α}{m m':List b},Lo F l m->Lo F l' m'->Lo F (l++l') (m++m')|_,_,_,_,.nil,h=>h|_,_,_,_,.cons r t,h=>.cons r<|kT t h
def wB.repl{K:CK}{k:EB}(b:yu v u):∀{ps:List<|EB×V}{xs:List<|EB×Er×Es},Lo (wB K H) ps xs->Lo (wB K H) (ps.map λp=>if p.1=k then(p.1,v)else p) (xs.map<|putAt k u)
 |_,_,.nil=>.nil|p::ps,q::xs,.cons r t=>by
  rw[Z9];let:=.cons ?_<|wB.repl b t;let e:=r.1;unfold putAt;by_cases h:q.1=k;.rw[Z4 h,Z4<|e▸h];let:=#[r.1,r.2.1,b]
  simp_all
def wB.put{a:Er}{ps:List<|EB×V}{xs:List<|EB×Er×Es}(r:Lo (wB K H) ps xs)(ha:Dt K H k<|.ref a)(b:yu v u):Lo (wB K H) (yh ps k v)<|storedH xs k a u:=by
 let e:ps.any λkv=>decide<|kv.1=k=(atKey xs k).isSome:=by
  rcases wB.at r with⟨e1,e2⟩|⟨p,v',e1,e2,_⟩;.rw[e1];let:=Vz.mpr λz=>?_;let#[kv,hm,hk]:=YH.mp z;let:=Gn e2<|ZH.mpr #[kv,hm,ZT hk]
  .let#[kv,hm,hk]:=ZH.mp<|qX e2;rw[e1,YH.mpr #[kv,hm,ZK hk]];rfl
 unfold yh storedH;rw[e];split;.let:=wB.repl b r
 .let:=kT r<|.cons #[Ej,ha,b] .nil
def T5{ps:List<|EB×V}(h:∀p∈ps,XM p.1)(hk:XM k):∀p∈yh ps k v,XM p.1:=by
 unfold yh;split
 .intro p b;let#[q,hq,rfl]:=ZH.mp b;split;.let:=h q hq
  .let:=h q hq
 .intro p b;rcases ZY.mp b with b|b;.let:=h p b
  simp_all
def aP{ps:List<|EB×V}(h:(ps.map (·.1)).Nodup):((yh ps k v).map (·.1)).Nodup:=by
 unfold yh;split
 .let e:(ps.map λkv=>if kv.1=k then(kv.1,v)else kv).map (·.1)=ps.map (·.1):=by rw[ZV];let:=Yp λp _=>?_;show(if p.1=k then(p.1,v)else p).1=p.1;split<;>rfl
  rwa[e]
 .rename_i hn;rw[ZM];let:=jN h λz=>hn ?_;let#[p,b,e]:=ZH.mp z;let:=YH.mpr #[p,b,ZK e]
def aJ{i:ER}{E:Pos}(hu:X.A.units+64<Ld)(ho:PE X o td)(hi:PE X i ty)(hv:PE X value tv)(hs:Mj value (A0<|.Subscript o i E) pos.line X.env=Lm Ei):PS X (.Assign [.Subscript o i E] value pos)<|gI X.prog X.w X.K td ty tv:=by
 intro l s j H D I h;let:=wpAny_Assign_Subscript (CN (hv l s j H _ I h) λr s1 ⟨v,G,L,rv,q1⟩=>CN (ho l s1 j G _ L q1) λu s2 ⟨x,J,N,rx,q2⟩=>CN (hi l s2 j J _ N q2) λiv s3 q9=>?_) hs;let#[y,c,n,ry,a,d,b,k,ex,S,T,hl,hk,ha,q3]:=q9;subst ex S;obtain rfl:u=EO d:=rx;obtain rfl:iv=EO a:=ry;let#[xs,e,g,Q,hd]:=T.heap n;let hz:`xs<=sizeLine:=`Paired g▸An.zr ⋯;let:=wpAny_setItem_heap (T9 hu _ _) (key_is n hk ha) Q λh' q B=>?_;let#[ob,es,R,F,U,Y,Z,_,_]:=q;let t:ob.data=.dict ((storedH xs k a r).map<|entryOfKey<|xJ X.prog X.w).toArray R:=by rw[Y,<-Z]
 let mu:bW<|c d:=e▸Ls;let P:=vT (t':=s3.toks+(xJ X.prog X.w).draws k) n mu B #[ob,F]<|Pg F U t hd;let nt:∀xs,¬Rd c d (.tup xs):=λys z=>by
  rcases z with z|⟨o',z⟩;.rw[e]at z;cases z
  .rw[e]at z;cases z
 let:=#[j,_,P,q3 _ #[?_,T5 T.2.1 hk,aP T.2.2.1,_,zD,?_] #[_,Ej]];.have:=xD b k v;lia
 .let r2:Lo (wB X.K<|upd c d<|HR d<|(storedH xs k a r).map<|entryOfKey<|xJ X.prog X.w) b xs:=by
   let key:∀{b:List<|EB×V}{xs:List _},(∀p∈b,XM p.1)->Lo (wB X.K c) b xs->∀o,Lo (wB X.K<|upd c d o) b xs:=by intro b xs f r;induction r with|nil=>intro _;let:=.nil|cons r1 _ ih=>intro o;let:=.cons #[r1.1,Dt.other nt _ _ (f _ ZD).1 r1.2.1,r1.2.2]<|ih (λp hp=>f p<|ZB _ hp) o
   let:=key T.2.1 g _
  let:=wB.put r2 (Dt.other nt _ _ hk.1 ha) rv
def TF:PE X (.Dict [] [] pos) λ_ H Q=>∀p o,H p=Ee->ThD X.prog X.w X.K (upd H p o) p []->(∃es,o=HR p es)->Q (.ref p) (upd H p o):=by intro c s e H Q I h;let hn:=I.hok.fresh<|ZG _;let b:=JB.mpr<|EG<|ZU I.big;let:=wpAny_Dict_empty #[.ref _,_,I.laid (λ_ _ q=>ZE _ q) (ZG _)<|Pg (ZL _ rfl) #[Ej,Ej,Ej] rfl b,Ej,h _ _ hn #[Yk _,λ_ z=>(nomatch z),YM,[],zD,.nil] #[_,Ej]]
structure Met(P:Et)(w:Ey)(K:CK)(mg:Str->Db)(dX:EH)(C:Er)(k:Nat)(m:Str)(ps:By)(sp:Sp):Prop where ex:∃(f:Er)(fd:Ew),zj P w K mg dX CO k f fd ps sp/\Meth K C m f/\wV K fd ps []
inductive zw1(C:Er)(m:Str)(sp:Sp)(R:St->Hp->Es->Prop)(t:TA)(σ:St)(Q:VK)(x:V)(H1:Hp):Prop|mk(a dx:Er)(fs:List<|Str×V)(e:x=.ref a)(h:H1 a=A0 (.ins C dx fs))(n:fs.lookup m=Ee)(q:t σ H1 λvs H2=>sp (x::vs) H2 Q<|λcls _ H'=>R σ H' cls):zw1 C m sp R t σ Q x H1
section
variable{C:Er}{k:Nat}{m:Str}{sp:Sp}{o e:ER}{ta:TE}{t:TA}{R:St->Hp->Es->Prop}
def z8{n:Sem Bool}(i:PE X o ta)(c:Cls X.K C)(M:Met X.prog X.w X.K X.mg X.dX C k m ps sp)(j:xj k X.A)(ha:PA X (e::es) t)(g:EI (e::es) X.env=(Ei,E8 e X.env)::EI es X.env:=by rfl)(b:(Lu pos<|EI es X.env).any (·.1)=Ei:=by rfl)(l:E8 (.Call (.Attribute o m Ds) (e::es) [] pos) X.env=(do
   let ov<-E8 o X.env
   standAt Ds.atName let(f,first)<-MW [ov]<|getMethod ov m n
   callWith pos f first (Lu pos<|EI (e::es) X.env)<|backToKw pos<|Mv [] X.env):=by rfl):PE X (.Call (.Attribute o m Ds) (e::es) [] pos)<|Pt C m sp [] E0 ta t:=by let#[f,p,F,hm,hb]:=M.ex;let:=az i c hm F j hb .nil K4 ha g b l
def qL{i:Sem Bool}(b:PE X o ta)(c:Cls X.K C)(M:Met X.prog X.w X.K X.mg X.dX C k m ps sp)(e:xj k X.A)(g:E8 (.Call (.Attribute o m Ds) [] [] pos) X.env=(do
   let ov<-E8 o X.env
   standAt Ds.atName let(f,first)<-MW [ov]<|getMethod ov m i
   callWith pos f first (Lu pos<|EI [] X.env)<|backToKw pos<|Mv [] X.env):=by rfl):PE X (.Call (.Attribute o m Ds) [] [] pos)<|Pt C m sp [] E0 ta XG:=by let#[f,j,F,hm,hb]:=M.ex;let:=TK b c hm F e hb .nil K4 g
end
structure Mak(P:Et)(w:Ey)(K:CK)(mg:Str->Db)(dX:EH)(C:Er)(k:Nat)(x:Str)(ps:By)(sp:Sp):Prop where ex:∃(f:Er)(fd:Ew),zj P w K mg dX CO k f fd ps sp/\Mk K C f/\wV K fd ps []/\mg x=A0 (.ref C)
def aw{e:ER}{b:List ER}{p:Pos}(M:Mak X.prog X.w X.K X.mg X.dX C k x ps sp)(l:xj (k+1) X.A)(ha:PA X (e::b) t)(j:Gl X x:=by rfl)(c:(x==("__debug__":Str))=Ei:=by decide)(i:EI (e::b) X.env=(Ei,E8 e X.env)::EI b X.env:=by rfl)(g:(Lu pos<|EI b X.env).any (·.1)=Ei:=by rfl):PE X (.Call (.Name x p) (e::b) [] pos)<|Ps C sp [] E0 t:=by let#[f,o,F,hm,hb,n]:=M.ex;let:=ax hm F l j n hb .nil K4 ha c i g
def FO(x:Str)(i j:Nat):An.cs (Lj x i j)=((An.cs x).take j).drop i:=by show(x.cps.extract i j).toList=_;rw[Array.toList_extract,List.drop_take]
def Iy(x:Str)(c i:Nat)(t u:Tok)(r:List Nat)(f:Lh x #[#v[c]] 0 `x 1=i::r)(l:`x<=100000):Meets (Builtin.«str.partition» #[[.str x t,.str #[#v[c]] u],[]]) λ_ R s=>R (.ok<|.ret<|.ref ⇑s) {s with heap:=s.heap.push {cls:=.type "tuple",data:=.seq #v[.str (Lj x 0 i) s.toks,.str #[#v[c]] u,.str (Lj x (i+1) `x)<|s.toks+1]},toks:=s.toks+1+1}:=.of_wp λprog w A R s h=>by
  let#[b,e]:=partition_tree x _ t u;rw[e,f];let g:↑(Lj x 0 i)<=sizeLine:=by rw[An.za,FO,Vk,Z8];let:=An.zr ?_;grind[An.za]
  let j:↑(Lj x (i+↑(#[#v[c]]:Str)) `x)<=sizeLine:=by rw[An.za,FO,Vk];let:=An.zr ?_;grind[An.za]
  let:=Zz<|wpAny_mkStr (Zz<|wpAny_mkStr (Zz<|wpAny_newTuple (ZF #[_,Ej,h])<|by show 3<=sizeLine;decide) j) g
inductive zy7(x:V)(vs:Di)(H:Hp)(Q:VK):Prop|mk(u v:Str)(c:Nat)(h0:x=.str (u++#[#v[c]]++v))(h1:vs=[.str #[#v[c]]])(h2:c∉An.cs u)(h3:↑(u++#[#v[c]]++v)<=100000)(h4:∀p,H p=Ee->Q (.ref p) (upd H p<|.tup [.str u,.str #[#v[c]],.str v])):zy7 x vs H Q
def uX:bt X "str.partition" zy7:=by
 intro y s B H x xs v A Q I p o h;let#[a,b,c,rfl,rfl,l,n,q]:=h;let#[t,rfl]:=p;let#[w,rfl,u,rfl]:=wW o;let e:An.cs (a++#[#v[c]]++b)=An.cs a++c::An.cs b:=by rw[An.zf,An.zf];show An.cs a++[c]++An.cs b=_;simp
 let f:(An.cs<|a++#[#v[c]]++b)[↑(An.cs a)]?=A0 c:=by simp_all
 let g:∃r,Lh (a++#[#v[c]]++b) #[#v[c]] 0 ↑(a++#[#v[c]]++b) 1=↑(An.cs a)::r:=by
  rcases StrLaws.occ_head_from _ _ 0 1<|ZG 1 with⟨h0,hn⟩|⟨k,r,h0,hlo,hk,hn⟩;.let:=absurd ((MC _ c _).mpr f)<|hn _<|Yk _
  .let hm:=(MC _ c k).mp hk;let hm:(An.cs _)[k]?=A0 c:=hm;rcases VA k _ with z|z|z;.rw[e,Yr z]at hm;let:=absurd (ZI hm) l
   .let:=#[r,by rw[h0,z]]
   .let:=absurd ((MC _ c _).mpr f)<|hn _ (Yk _) z
 let#[r,g]:=g;let:=JZ F.slot_str_partition (V0 s _ t) F.entry_str_partition (F.args_str_partition_2 ..) (Iy _ c _ t u r g n) ?_;let i:Lj _ 0 _=a:=An.wR (by rw[FO,e,UF,List.take_left]);let j:Lj _ (↑(An.cs a)+1) ↑(a++#[_]++b)=b:=An.wR<|by rw[FO,An.za,Yg,e];rw[show An.cs a++c::An.cs b=An.cs a++[c]++An.cs b by simp];rw[show(An.cs a).length+1=↑(An.cs a++[c])by simp];let:=List.drop_left
 rw[i,j];let hn:=I.hok.fresh<|ZG _;let:=#[.ref _,_,I.laid (λ_ _ q=>ZE _ q) (ZG _) ?_,Ej,q _ hn];let:=#[by show 3<=sizeLine;decide,_,.cons #[_,Ej]<|.cons #[_,Ej]<|.cons #[_,Ej] .nil,#[_,ZL _ rfl,Ej,_,Ej,Ej]]
def Xc(n:Nat):(Str):=Lv<|Mp ((n:Nat):Int)
def PP:xq X (.type "int") λxs H Q=>∃n:Nat,xs=[.str<|Xc n]/\n<10000000000/\Q (.int n) H:=by intro b s e H xs c Q I r h;let#[n,rfl,hn,q]:=h;let#[u,rfl,t,rfl]:=wW r;let:=PySem.W.KIN.call_num ⋯ ⋯ #[.int n,H,I.tok _,#[_,Ej],q]
def tF3(f:TE)(y:Str)(g:TE):(TE):=λb H Q=>f b H λv c=>∃x:Str,v=.str x/\`x<=100000/\`y<=1000/\g b c λu e=>∃n:Nat,u=.int n/\n<1000000/\Q (.str<|x++y++Xc n) e
def gE{k:Nat}{A B D:Pos}(h1:PE X e1 t1)(h2:PE X e2 t2):PE X (.JoinedStr [.FormattedValue e1 (-1) Ee A,.Constant (.str y) k B,.FormattedValue e2 (-1) Ee D] pos)<|tF3 t1 y t2:=by
 intro c s f H Q I h;let:=JoinedStr_many<|joinParts_cons<|FormattedValue_plain<|CN (h1 c s f H _ I h) λv R q9=>?_;let#[x1,g,p,F,x,ex,xl,yl,E]:=q9;subst ex;let#[t,rfl]:=F;let:=formatField_str (λT L=>#[?_,?_])<|An.zr<|⋯;.rw[An.yo];let:=An.zr<|by show 0+`x<=_;lia
 let:=joinParts_cons<|CN (zK c _ f g (λv j=>v=.str y/\j=g) (p.tok L) #[Ej,Ej]) λY s2 q9=>?_;let#[x2,l,q,G,e2,u]:=q9;subst e2 u;let#[K,rfl]:=G;let:=#[?_,?_];.rw[An.yo,An.yo];let:=An.zr<|by show 0+`x+`y<=_;lia
 let:=joinParts_cons<|FormattedValue_plain<|CN (h2 c s2 f l _ q E) λZ S q9=>?_;let#[x3,o,r,J,n,w,N,P]:=q9;subst w;let#[U,rfl]:=J;let b:(n:Int).natAbs.log2<1920:=by
  rw[Int.natAbs_natCast];rcases J1 n with z|z;.subst z;decide
  .have:n.log2<20:=(Nat.log2_lt<|⋯).mpr ⋯;lia
 let i:↑(MT++x++y++Xc n)<=sizeLine:=by rw[An.yo,An.yo,An.yo];have:=Um b;let:=An.zr<|by show 0+`x+`y+↑(Xc n)<=_;let e:↑(Xc n)<=1921:=this;lia
 let:=formatField_int_small b #[i,joinParts_nil #[.str _,o,r.tok _,#[_,Ej],?_] i];let e:MT++x++y++(Lv<|Mp (n:Int))=x++y++Xc n:=An.wR<|by rw[An.zf,An.zf,An.zf,An.zf,An.zf];rfl
 rwa[e]
def GY{P:Et}{w:Ey}:∀{Dl:Dk}{vs:List<|Key×Es}{us:Da},KV Dl vs->`us=`vs->(∀(j:Nat)(v:Es),us[j]?=A0 v->∃k x,vs[j]?=A0 (k,x)/\(yx P w).is k v=Eg)->zb (Dl.map λkv=>kV kv.1) us
 |[],_,[],.nil,_,_=>.nil|[],_,_::_,.nil,hl,_=>by cases hl|_::_,_,[],.cons ..,hl,_=>by cases hl|p::_,q::_,u::us,.cons r1 r2,hl,hm=>by
  let#[k,x,e,hk]:=hm 0 u rfl;let e:=by simpa using e
  let b:p.1=k:=by rw[r1.1,e]
  let:=.cons (by show yu (kV p.1) u;rw[b];cases k with|inl i=>let hk:MK i u=Eg:=hk;cases u<;>simp[MK]at hk;subst hk;let:=#[_,Ej]|inr z=>let#[t,rfl]:=Ja hk;let:=#[t,Ej])<|GY (P:=P) (w:=w) r2 (by simpa using hl) λj v l=>?_;let#[k2,g,c,f]:=hm (j+1) v (by trivial);let:=#[k2,g,by simpa using c,f]
def NE(B:X.calm=Eg):xq X (.type "list") λxs H Q=>∃a Dl,xs=[.ref a]/\H a=A0 (.dK Dl)/\∀l,H l=Ee->Q (.ref l) (upd H l<|.lst<|Dl.map λkv=>kV kv.1):=by intro K s S H xs R Q I r h;let#[a,Dl,rfl,ha,q]:=h;let#[u,rfl,G]:=wW r;cases G;let#[N,A,f,b,o,y,x,D,F,hd,hk,E,i]:`Dl<=sizeLine/\(a==E6)=Ei/\∃f,KV Dl f/\s.heap.DictOf _ a f:=I.hok a _ ha;let t:s.heap.DictAt _ a f x:=#[o,y,D,F,hd,hk,E,i];let L:=`Paired b;let:=PySem.W.kdl_call (PySem.W.kdl_dict A) (I.ok.hd B) t ⋯ λz P p c g hl n=>?_;let J:=GY b n.1 λj v e=>n.2 j v<|YU▸e;let:=#[.ref _,_,I.laid g (ZG _)<|show xx _ X.w _ z _<|.lst _ from#[by simp_all,_,c,J,hl],Ej,q _<|I.hok.fresh<|ZG _]
section
variable{σ:St}{H:Hp}{d:Er}
def xj.tU(r:xj k A):A.units+128<cLine:=by have:=r.un;lia
def Inv.freeze(I:Inv X Dp σ H s)(e:H d=A0 (.dK Dl)):∃ob:Obj,Inv X Dp σ (upd H d<|.frz ob<|.dK Dl) s:=by
 let#[t,n,c,i,o,l,j,g,r,hd,hk,p,f]:`Dl<=sizeLine/\(d==E6)=Ei/\∃c,KV Dl c/\s.heap.DictOf _ d c:=I.hok d _ e;let:=#[o,?_];let v:bW<|H d:=by rw[e];trivial
 let:=I.write v (.inl rfl) (λb u _ q=>q) #[o,g] #[g,t,n,c,i,o,l,j,g,r,hd,hk,p,f]
def T6{k:Key}{u:Es}(h:(yx P w).is k u=Eg):yu (kV k) u:=by cases k with|inl i=>let h:MK i u=Eg:=h;cases u<;>simp[MK]at h;subst h;let:=#[_,Ej]|inr x=>let#[t,rfl]:=Ja h;let:=#[t,Ej]
def jK{α b:Type}{F:α->b->Prop}:∀{l₁:List α}{l₂:List b}{i:Nat}{y:b},Lo F l₁ l₂->l₂[i]?=A0 y->∃x,l₁[i]?=A0 x/\F x y|_,_,_,_,.nil,h=>by cases h|_,_,0,_,.cons r _,h=>by simp_all|_,_,i+1,_,.cons _ t,h=>by let#[x]:=jK t (by trivial);let:=#[x,by trivial]
def NL{ob:Obj}(z:xx P w H h d<|.frz ob<|.dK Dl):∃vs es ep,ob.data=.dict es ep/\KV Dl vs/\h.DictAt (yx P w) d vs ep/\(d==E6)=Ei/\`Dl<=sizeLine:=by let#[i,q,l,vs,g,o,b,e,j,p,c,hk,n,f]:=z;rw[i]at j;cases j;let:=#[vs,b,e,c,g,#[ob,b,i,p,c,hk,n,f],l,q]
def IJ{ob:Obj}{i:Array Mx}{e:Nat}(hd:ob.data=.dict i e)(z:xx P w H h d<|.frz ob<|.dK Dl):∃vs,KV Dl vs/\h.DictAt (yx P w) d vs e/\(d==E6)=Ei:=by let#[vs,j,g,b,c,f,l,_]:=NL z;rw[hd]at b;cases b;let:=#[vs,c,f,l]
def iH(d:Er)(Dl:Dk)(ob:Obj):(It) where
 go:=λi H=>H d=A0 (.frz ob<|.dK Dl)/\i<`Dl
 yld:=λi H x b=>b=H/\∃k v,Dl[i]?=A0 (k,v)/\x=kV k
 stop:=λi H=>H d=A0 (.frz ob<|.dK Dl)/\i=`Dl
def RB{ob:Obj}{U:Array Mx}{F:Nat}(hd:ob.data=.dict U F)(l:Er):Turn P w K tg (iH d Dl ob) [l] l λi h=>h.IsKeyIter l d i `Dl F where
 mem:=by simp
 obj:=λi h st b hb=>by
  let e:=by simpa using hb
  subst e;let#[o,e,c]:=st;simp_all
 keep:=λi h G st k=>by let#[o,e,c]:=st;let:=#[o,k l (by simp) o e,c]
 item:=by
  intro X y A x J i Dp s σ H E I n st z;subst y A x;let#[g,L]:=z;let#[D,f,p,hS]:=IJ hd<|I.hok d _ g;let hl:=`Paired f;rw[hl]at st;let N:D[i]?=A0 _:=ZO ⋯;let#[q,r,Y,t,u,f5]:=n l (by simp);let:=wpAny_pyNext_dict_item st p N λkey G Q j sb=>?_;let R:=I.turned (t':=s.toks) (λb o hb e=>(sb.2 b hb).trans e) q r t u f5;rw[<-hl]at j;let#[o,e,c,S]:=id j;let hk:∃v,Dl[i]?=A0 ((D[i]'⋯).1,v):=by let#[#[k0,B],Z,h1,_]:=jK f N;subst h1;let:=#[B,Z]
  let#[B,hk]:=hk;let:=#[key,Ej,Fm e c S ∅ #[_,H,R,T6 Q,#[Ej,_,B,hk,Ej],j,λb hb=>(n b hb).1]]
 done:=by intro X y A x J i Dp s σ H E I n st z;subst y A x;let#[g,L]:=z;subst L;let#[D,f,p,hS]:=IJ hd<|I.hok d _ g;let hl:=`Paired f;let#[q,r,Y,t,u,f5]:=n l (by simp);rw[hl]at st;let:=wpAny_pyNext_dict_end (I.ok.hd J) st p (Jd<|⋯) λG T=>#[Ej,I.turned T q r t u f5]
 self:=λ_ _ _ _ _ st h=>wpAny_pyIter_keyiter st h
def io(d:Er)(Dl:Dk)(ob:Obj):(It) where
 go:=λi H=>H d=A0 (.frz ob<|.dK Dl)/\i<`Dl
 yld:=λi H x b=>∃T k v,Dl[i]?=A0 (k,v)/\H T=Ee/\x=.ref T/\b=upd H T (.tup [kV k,v])
 stop:=λi H=>H d=A0 (.frz ob<|.dK Dl)/\i=`Dl
def Ov{Z:List ER}{x1}{l:Pos}{ob:Obj}{es:Array Mx}{J:Nat}(hd:ob.data=.dict es J)(g:Er):Turn P w K (.Tuple Z x1 l) (io d Dl ob) [g] g λi h=>∃ok ov,IsItemIter h g d i `Dl J ok ov where
 mem:=by simp
 obj:=λi h st b hb=>by
  let e:=by simpa using hb
  subst e;let#[ok,ov,e]:=st;let:=#[_,e,λv z=>by cases z]
 keep:=λi h L st k=>by let#[ok,ov,e]:=st;let:=#[ok,ov,k g (by simp) _ e]
 item:=by
  intro X y D x N i Dp s σ H E I r st B;subst y D x;let#[f,Q]:=B;let#[T,c,t,hS]:=IJ hd<|I.hok d _ f;let hl:=`Paired c;let#[ok,ov,st]:=st;rw[hl]at st;let#[#[kk,U],R]:∃p,T[i]?=A0 p:=#[_,ZO<|⋯];let#[#[F,S],h0,h1,rv]:=jK c R;let h1:F=kk:=h1;let fi:=r g (by simp);let A:=I.hok.fresh<|ZG _;let j:=ZP st;let:=wpAny_pyNext_items_item st t R λkey L Y out tup sz kp=>#[_,Ej,wpAny_letOwnedTupleGo_items out λh2 en sb=>?_];let n:=(sb.2 _<|JV j).trans tup;let I1:=I.zz0 (t':=s.toks) r (λb o hb q=>by let G:b≠g:=λz=>hb (by simp[z]);let:=(sb.2 b G).trans<|kp b o G q)<|by simp_all
  let u:=I.pC (ZG _) A;let new:xx X.prog X.w (upd H ⇑s<|.tup [kV F,S]) h2 _<|.tup _:=#[by show 2<=sizeLine;decide,[key,U],.cons (h1▸T6 Y)<|.cons rv .nil,#[_,n,Ej,_,Ej,Ej]];let I2:=I1.zx4 A (Yz I.sz<|ZG _) u.2.1 u.2.2.2.2.1 u.2.2.2.2.2 new;let:=#[.ref _,_,I2,Ej,#[_,F,S,h0,A,Ej,Ej],#[key,U,hl▸en],λb hb=>?_];let z:=by simpa using hb
  subst z;rw[zH<|ZU j];let:=fi.1
 done:=by intro X y D x N i Dp s σ H E I r st B;subst y D x;let#[f,Q]:=B;subst Q;let#[T,c,t,hS]:=IJ hd<|I.hok d _ f;let hl:=`Paired c;let#[f0,f1,f2,f3,f4,f5]:=r g (by simp);let#[ok,ov,st]:=st;rw[hl]at st;let:=wpAny_pyNext_items_end (I.ok.hd N) st t (Jd<|⋯) λL eb=>#[Ej,I.turned eb f0 f1 f3 f4 f5]
 self:=λ_ _ _ _ _ st h=>by let#[ok,ov,st]:=st;let:=PySem.W.kcp_self st h
end
def jb(t:TE):(TE):=λe H Q=>t e H λv c=>∃d b,v=.ref d/\c d=A0 (.dK b)/\∀ob,Q v<|upd c d<|.frz ob<|.dK b
def XT(h:PE X e t):PE X e<|jb t:=by intro i s f H Q I q;let:=CN (h _ s f H _ I q) λv l q9=>?_;let#[x,j,b,r,d,g,ex,hd,q]:=q9;let#[ob,c]:=b.freeze hd;let:=#[_,_,c,r,q ob]
def fW(e:TE):(TI):=λf H R=>e f H λv c=>∃d ob b,v=.ref d/\c d=A0 (.frz ob<|.dK b)/\R (iH d b ob) c
def O9(hl:PE X l tl):PI X tg l<|fW tl:=by
 intro B s j H R I h;let:=CN (hl _ s j H _ I h) λv i q9=>?_;let#[x,p,f,r,d,ob,A,ex,hd,q]:=q9;subst ex;cases r;let#[z,D,w,c,g,u,y,_]:=NL<|f.hok d _ hd;let n:=`Paired g;let:=wpAny_pyIter_dict y u ?_;let t:Inv X _ j p {i with heap:=i.heap.push {cls:=.type "dict_keyiterator",data:=.fields #v[.ref d,.int 0 0,.int `z 0,.int w 0]}}:=f.kept λb o e=>ZE _ e;let:=#[_,_,_,_,_,Ej,t,RB c _,?_,λb hb=>?_,q];.let:=#[_,ZL _ rfl,Ej,by rw[n];rfl]
 .let e:=by simpa using hb
  subst e;let:=f.pC (ZG _)<|f.hok.fresh<|ZG _
def cH(e:TE):(TI):=λf H R=>e f H λv c=>∃d ob b,v=.ref d/\c d=A0 (.frz ob<|.dK b)/\R (io d b ob) c
def vE{K:List ER}{g z y:Pos}(S:PE X o td)(E:Lx o "items" X.env (E8 o X.env)=E8 o X.env:=by rfl)(G:(z.endLine==y.line)=Eg:=by rfl):PI X (.Tuple K x1 g) (.Call (.Attribute o "items" z) [] [] y)<|cH td:=by intro u s D H R I h;let:=V4 E G<|CN (S u s D H _ I h) λv f q9=>?_;let#[x,L,A,r,d,ob,T,ex,hd,q]:=q9;subst ex;cases r;let#[B,U,N,c,t,l,Q,_]:=NL<|A.hok d _ hd;let J:=`Paired t;let j:=l.dictOf;let#[p,P,h1,h2,h3]:=id l;let:=#["dict","dict.items",F.plainAttrs_dict,MD,F.type_dict_items,j.typeIs,λb q=>by cases q;let:=#[p,h1,h2.2.1],Lb rfl<|Uz<|Vq MD j.typeIs F.entry_dict_items (F.args_dict_items_1 _) (meets_dict_items (yx X.prog X.w) d Q) #[#[B,j],?_]];let i:Inv X u D L {f with heap:=f.heap.push {cls:=.type "dict_items",data:=.fields #v[.ref d]}}:=A.kept (t':=f.toks) λb o e=>ZE _ e;let n:(f.heap.push {cls:=.type "dict_items",data:=.fields #v[.ref d]}).DictAt (yx X.prog X.w) d B N:=l.at' λo e=>ZE _ e;let:=wpAny_pyIter_items (d:=d) #[_,ZL _ rfl,Ej,Ej] n #[_,[_],_,_,_,Ej,i.kept (t':=f.toks) λb o e=>ZE _ e,Ov c _,#[_,_,by rw[J];let:=ZL _ rfl],λb hb=>?_,q];let e:=ZC.mp hb;subst e;let:=i.pC (ZG _)<|i.hok.fresh<|ZG _
section
variable{d:Er}{ob:Obj}{D:Ends}{σ:St}{H:Hp}
def Ks(b:Nat->St->Hp->Prop)(j:b 0 σ H)(hl:∀i σ H,i<=`Dl->b i σ H->H d=A0 (.frz ob<|.dK Dl))(hs:∀i k v σ H(E:Ends)(G:Prop),Dl[i]?=A0 (k,v)->Ed D (b<|i+1) E->(g (kV k) σ H (λσ2 H2=>tb E σ2 H2)->G)->b i σ H->G)(hd:∀σ H,b `Dl σ H->D.nx σ H):Wz (iH d Dl ob) g tb D σ H:=So _ b j (λσ H p=>#[hl _ σ H (ZG _) p,Ej]) (λi σ H c p=>#[hl i σ H (Y3 c) p,c]) (λi σ H c p v n y=>by let#[e,k,x,l,f]:=y;subst f e;let:=hs i k x σ _ _ _ l Ed.me id p) hd
def X3(b:Nat->St->Hp->Prop)(j:b 0 σ H)(hl:∀i σ H,i<=`Dl->b i σ H->H d=A0 (.frz ob<|.dK Dl))(hs:∀i k v T σ H(E:Ends)(G:Prop),Dl[i]?=A0 (k,v)->H T=Ee->Ed D (b<|i+1) E->(g (.ref T) σ (upd H T<|.tup [kV k,v]) (λσ2 H2=>tb E σ2 H2)->G)->b i σ H->G)(hd:∀σ H,b `Dl σ H->D.nx σ H):Wz (io d Dl ob) g tb D σ H:=So _ b j (λσ H p=>#[hl _ σ H (ZG _) p,Ej]) (λi σ H c p=>#[hl i σ H (Y3 c) p,c]) (λi σ H c p v o y=>by let#[T,k,x,n,l,f,e]:=y;subst f e;let:=hs i k x T σ H _ _ n l Ed.me id p) hd
end
inductive zvK(y:V)(x:V)(H:Hp)(Q:VK):Prop|mk(a:_)(o:_)(h0:x=.ref a)(h1:wu H a y o)(h2:Q (.bl o.isSome) H):zvK y x H Q
def N7(i:X.A.units+64<Ld):CW X (EZ .In) zvK:=by intro f s l H y x v u Q I e c h;let#[a,o,rfl,g,q]:=h;cases c;let:=iN ⋯ I g e λj b=>#[.bl _,H,b,Ej,q]
def OP{H:Hp}{a:Er}{ob:Obj}(e:H a=A0 (.frz ob<|.dK Dl)):wu H a (kV k)<|U0 Dl k:=.inl #[Dl,k,.inr #[ob,e],Ej,Ej]
inductive nJ(K:CK)(H:Hp)(kb:Dk):Dk->Bool->Prop|nil:nJ K H kb [] Eg|miss{k:Key}{v:V}{r:Dk}:U0 kb k=Ee->nJ K H kb ((k,v)::r) Ei|hit{k:Key}{v y:V}{d e:EB}{r:Dk}{b:Bool}:U0 kb k=A0 y->Dt K H d v->Dt K H e y->EU d=Eg->EU e=Eg->nJ K H kb r b->nJ K H kb ((k,v)::r) (EX d e&&b)
def nJ.keq{Dp:Dd}{s:Eu}(I:Inv X Dp σ H s)(g:X.A.in1.units+64<Ld)(i:KV kb ub):∀{ka:Dk}{ua:List<|Key×Es}{b:Bool},KV ka ua->nJ X.K H kb ka b->PySem.W.KeqHits X.A.in1 s ub ua b|[],_,_,.nil,.nil=>.nil|p::ka,q::ua,_,.cons r1 r2,h=>by let#[k]:=p;let#[j]:=q;let#[f,o]:=r1;let f:k=j:=f;subst f;let c:=i.val k;cases h with
  |miss hn=>rw[hn]at c;cases e:valueAt ub k with|none=>let:=.miss e|some y=>rw[e]at c;trivial
  |hit hy h1 h2 s1 s2 hr=>rw[hy]at c;cases e:valueAt ub k with|none=>rw[e]at c;trivial|some y=>rw[e]at c;let#[r,l]:=Dt.zp I _ _ _ h1 o;let#[bs,n]:=Dt.zp I _ _ _ h2 c;let:=.hit e (PySem.W.keq_at l n s1 s2 g)<|nJ.keq I g i r2 hr
def Tv(l:X.A.units+64<Ld)(b:X.K=K:=by rfl):CW X (EZ .NotIn)<|zw0 K Eg Eg:=by subst b;intro i s n H x y v u Q I f g h;let#[d,xs,h1,h2,h3,h4,h5,q]:=h;let#[j,c]:=Dt.zp I d x v h1 f;let#[bs,e]:=Dt.zp I _ y u h2 g;let hm:min (E2 xs) _<=d.depth:=Nat.min_le_right ..;let:=SeqAt.notIn_tuple_reads e c h3 h4 ⋯ #[.bl _,H,I,Ej,by simpa using q]
structure sY(k:Nat)(A:EL):Prop where
 dp:A.depth+3*k+5<recursionLimit
 un:A.units+16*k+200<Ld
def xj.h(r:xj k A):sY k A:=#[r.dp,r.un]
def sY.mark(r:sY k A)(e:Es):sY k<|A.mark<|some e:=#[r.dp,r.un]
def sY.deeper{k:Nat}(r:sY (k+1) A)(env:Env):sY k<|A.deeper env:=#[by have:=r.dp;show A.depth+1+3*k+5<_;lia,by have:=r.un;show A.units+3+16*k+200<_;lia]
def fJ(P:Et)(w:Ey)(K:CK)(mg:Str->Db)(dX:EH)(N:By)(qual:Str)(scope:Ma)(f:Er)(b:Es)(A:EL)(outer:List Env)(s:Eu)(H:Hp)(E:XK):(Cx):={GX CO P w K mg dX N qual scope f b A outer s H E with calm:=Ei,xe:=λ_ _=>False}
def NP{N:By}{f:Er}{c:Es}{g:Eu}{H:Hp}{E:XK}{e:Da}{vs:Di}(S:zy N ps scope)(b:oE P w K mg dX A outer s H)(hl:`vs=`ps)(r:zb vs e)(x:InCallC s ⇑s (bindL (MI qual scope ⇑s f c).kindOf (ps.zip e) λ_=>Ee) (cellsFrom (⇑s+1) scope.names []) (bindC (MI qual scope ⇑s f c).kindOf (ps.zip e) λ_=>Ee) g):Inv (fJ P w K mg dX N qual scope f c A outer s H E) [] (start N vs) H g:=by let i:oE P w K mg _ {A with handled:=Ee} _ s H:=#[b.frames,b.mod,b.bs,b.bsz,b.sW,b.frf,b.hok,b.bare];let I:=BN (CX:=CO) (E:=E) S rfl i hl r x;let:=#[#[I.ok.mod,I.ok.kind,I.ok.glob,I.ok.blt,I.ok.above,I.ok.inj,I.ok.has,I.ok.cab,λz=>(by cases z),Around.frames_deeper b.frames,I.ok.stk,I.ok.exf,I.ok.bs,I.ok.bsz,I.ok.mQ,I.ok.mj,I.ok.sW,I.ok.frf],I.os,I.bare,I.dX,I.loc,I.cell,I.free,I.wJ,I.pin,I.hok,I.len]
def kP:∀{l:List<|Str×Tok}{ys:By},l.map (·.1)=ys->zb (ys.map V.str) (strValues l)|[],_,h=>h▸.nil|p::l,_,h=>h▸.cons #[p.2,Ej] (kP rfl)
inductive zyT(x:V)(vs:Di)(H:Hp)(Q:VK):Prop|mk(a:Str)(c:Nat)(h0:x=.str a)(h1:vs=[.str #[#v[c]]])(h2:`a<=100000)(h3:∀l,H l=Ee->Q (.ref l) (upd H l<|.lst<|(LV a #[#v[c]]).map V.str)):zyT x vs H Q
def KS:bt X "str.split" zyT:=by
 intro n s p H x xs v o Q I j i h;let#[a,c,rfl,rfl,ha,q]:=h;let#[t,rfl]:=j;let#[u,rfl,t',rfl]:=wW i;let g:`a<=sizeLine:=An.zr ⋯;let f:(↑(#[#v[c]]:Str)==0)=Ei:=rfl;let hn:↑(LI a (Lh a #[#v[c]] 0 `a<|`a+1) ↑(#[#v[c]]:Str))<=200000:=by unfold LI;have:=StrLaws.occ_length_le a #[#v[c]] 0 `a<|`a+1;simp only[ZA,List.length_zip,Yj,ZS,Vu];lia
 cases h1:decide (`a<↑(#[#v[c]]:Str))||decide (Builtin.Str.strKind a<Builtin.Str.strKind #[#v[c]])
 .cases b:(Lh a #[#v[c]] 0 `a<|`a+1).isEmpty;.let e:LV a #[#v[c]]=LI a ..:=(ZX<|UA h1).trans<|ZX<|UA b;let:=JZ F.slot_str_split (V0 s a t) F.entry_str_split (F.args_str_split_2 _ _) (meets_str_split_sep a #[#v[c]] t t' h1 f b g<|An.zr<|⋯) ?_;rw[strsFrom_eq];let:=#[.ref _,_,I.zy6 (kP<|numbered_texts ..)<|by rw[ZA];let:=An.zr<|⋯,Ej,?_];rw[<-e];let:=q _ I.fresh
  .let e:LV a #[#v[c]]=[a]:=(ZX<|UA h1).trans<|Z4 b;rw[e]at q;let:=JZ F.slot_str_split (V0 s a t) F.entry_str_split (F.args_str_split_2 _ _) (meets_str_split_not_found a #[#v[c]] t t' h1 f b) #[.ref _,_,I.zy6 (kP (l:=[(a,t)]) rfl)<|by show 1<=sizeLine;decide,Ej,q _ I.fresh]
 .let e:LV a #[#v[c]]=[a]:=Z4 h1;rw[e]at q;let:=JZ F.slot_str_split (V0 s a t) F.entry_str_split (F.args_str_split_2 ..) (meets_str_split_cannot_occur a #[#v[c]] t t' h1) #[.ref _,_,I.zy6 (t':=s.toks) (kP (l:=[(a,t)]) rfl)<|by show 1<=sizeLine;decide,Ej,q _ I.fresh]
inductive zvO(K:CK)(xs:Di)(H:Hp)(Q:VK):Prop|mk(a:Er)(bs:List Bool)(h0:xs=[.ref a])(h1:yp K H a<|bs.map V.bl)(h2:Q (.bl<|bs.any id) H):zvO K xs H Q
def RV(p:X.calm=Eg)(o:X.K=K:=by rfl):xq X (.builtin "any")<|zvO K:=by
 subst o;intro y s L H xs J Q I r h;let#[a,bs,rfl,ha,q]:=h;let#[u,rfl,w]:=wW r;cases w;let#[f,x,t,E]:=I.list ha;let j:=HK x;let hl:=t.isList;let g:a<⇑s:=by let#[_,e,_]:=hl;let:=ZP e
 let:=call_any_walk<|J7 hl<|#[⇑s,_,_,f.toArray.size,_,_,λi=>bs[i]?.getD Ei,Ej,Walks.list (A:=X.A.in1) (I.ok.hd p) _ a (ZU g) f.toArray,#[#[_,ZL _ rfl,Ej,Ej],hl.push _],λi v F B z c l=>?_,λD G hk=>?_]
 .let c:=by simpa using c
  rw[j,ZN]at c;cases e:bs[i]?with|none=>rw[e]at c;cases c|some b=>rw[e]at c;let c:=dI c;subst c;simp only[e,Option.getD_some]at l;let:=JP l
 .let n:`f=`bs:=by rw[j,ZA]
  let e:((EK f.toArray.size).any λi=>bs[i]?.getD Ei)=bs.any id:=by rw[Z7,n];let:=PyProof.Rows.LSm.range_any bs
  rw[e];let:=#[.bl _,H,I.kept<|PyProof.Rows.LSm.kept_iter hk,Ej,q]
def Ti(b:X.K=K:=by rfl):bt X "str.join"<|rJoin K:=by subst b;let:=IF
def KM(x:Str)(c:Nat)(t u:Tok)(f:Lh x #[#v[c]] 0 `x 1=[]):Meets (Builtin.«str.partition» #[[.str x t,.str #[#v[c]] u],[]]) λ_ R s=>R (.ok<|.ret<|.ref ⇑s) {s with heap:=s.heap.push {cls:=.type "tuple",data:=.seq #v[.str x t,.str MT s.toks,.str MT s.toks]},toks:=s.toks+1}:=.of_wp λprog w A R s h=>by let#[b,e]:=partition_tree x _ t u;rw[e,f];let:=Zz<|JK<|Zz<|wpAny_mkStr (Zz<|wpAny_newTuple (ZF #[_,Ej,h])<|by show 3<=sizeLine;decide)<|Yk _
inductive zzO(x:V)(vs:Di)(H:Hp)(Q:VK):Prop|mk(u:Str)(c:Nat)(h0:x=.str u)(h1:vs=[.str #[#v[c]]])(h2:c∉An.cs u)(h3:∀p,H p=Ee->Q (.ref p) (upd H p<|.tup [.str u,.str "",.str ""])):zzO x vs H Q
def dP:(V->Di->Hp->VK->Prop):=λx b H Q=>zy7 x b H Q\/zzO x b H Q
def Bq:bt X "str.partition" zzO:=by
 intro j s n H x xs v l Q I g f h;let#[a,c,rfl,rfl,b,q]:=h;let#[t,rfl]:=g;let#[w,rfl,i,rfl]:=wW f;let e:Lh a #[#v[c]] 0 `a 1=[]:=by
  rcases StrLaws.occ_head_from a _ 0 1<|ZG 1 with⟨h0,hn⟩|⟨k,r,h0,hlo,hk,hn⟩;.let:=h0
  .let hm:=(MC _ c k).mp hk;let:=absurd (ZI hm) b
 let:=JZ F.slot_str_partition (V0 s _ t) F.entry_str_partition (F.args_str_partition_2 ..) (KM _ c t i e) ?_;let hn:=I.hok.fresh<|ZG _;let:=#[.ref _,_,I.laid (λ_ _ q=>ZE _ q) (ZG _) ?_,Ej,q _ hn];let:=#[by show 3<=sizeLine;decide,_,.cons #[_,Ej]<|.cons #[_,Ej]<|.cons #[_,Ej] .nil,#[_,ZL _ rfl,Ej,_,Ej,Ej]]
def Bo:bt X "str.partition" dP:=by
 intro g s f H x xs v e Q I c b h;rcases h with h|h;.let:=uX _ s f H x xs v e Q I c b h
 .let:=Bq _ s f H x xs v e Q I c b h
def Bn:MV table "proto.unchain"=A0 Builtin.«proto.unchain»:=entryFor_of_tree<|by rfl
def aR{α:Type}{e x:Er}{g i:Obj}{j l:Array Es}{Q:α->Dg}(o:A.handled=A0 (.ref x))(ne:x≠e)(f:s.heap.get? e=A0 g)(b:g.data=.fields j)(q:2<j.size)(p:s.heap.get? x=A0 i)(c:i.data=.fields l)(n:l[2]?=A0 .none)(h:E (.ref e) {s with heap:=s.heap.update e (Ln (·.setIfInBounds 2<|.ref x))}):EA (EC prog w) A (raiseNew<|.ref e:Sem α) Q E s:=by
 let:=Zz<|UV ?_;rw[o];let hb:(EO x !=EO e)=Eg:=by simp[ne]
 simp only[hb];let:=Zz<|Ys<|wpAny_runValue<|Jg Bn<|Zz<|Jb p c n<|Zz<|ZF<|ZF ?_;let:=Zz<|Zz<|wpAny_load f ?_;rw[b];simp only[Z4 q];let:=wpAny_update f<|wpAny_throw h
def Wg{α:Type}{x:Er}{g:Obj}{i:Array Es}{c:EH}{Q:α->Dg}(o:A.handled=A0 (.ref x))(p:c.get? x=A0 g)(f:g.data=.fields i)(n:i[2]?=A0 .none)(h:∀e h',(∀b ob,c.get? b=A0 ob->h'.get? b=A0 ob)->LW {s with heap:=h'} (.ref e) "StopIteration"->E (.ref e) {s with heap:=h'}):EA (EC prog w) A (newExc (.type "StopIteration") []>>=λe=>(raiseNew e:Sem α)) Q E {s with heap:=c}:=by let:=Zz (Zz<|YA (Zz<|Jc (a:=EY) (by first|rfl|(rfl))<|YA ?_<|by size_fits)<|by size_fits);let kx:∀b ob,c.get? b=A0 ob->(c.push {cls:=Value.type "tuple",data:=Data.seq #v[]}).get? b=A0 ob:=λb ob e=>ZE _ e;let j:=kx x g p;let:=aR (x:=x) o (ZU<|ZP j) (ZL _ rfl) rfl (by simp;lia) (ZE _ j) f n<|h _ _ (λb ob e=>?_) #[_,Yt _ (ZL _ rfl)<|Obj.isFreed_of_fields<|Mu rfl _,Obj.cls_mapFields _ _];let l:=kx b ob e;rw[Yq _ _<|JV<|ZP l];let:=ZE _ l
def NX{c l x:Er}{r:Array Es}{u:Obj}{v:Array Es}{Q:Db->Dg}(B:A.handled=A0 (.ref x))(D:s.heap.get? x=A0 u)(g:u.data=.fields v)(z:v[2]?=A0 .none)(q:c≠x)(hit:s.heap.IsListIter c l i)(hl:s.heap.IsList l r)(j:r[i]?=Ee)(y:∀h',MN c s.heap h'->Q Ee {s with heap:=h'}):EA (EC prog w) A (L6<|.ref c) Q E s:=by let#[o,n,_,hd]:=id hit;let#[G,p,_,F,f]:=id hl;unfold L6;let:=Zz<|Ju<|YJ hit.typeIs slot_listiter_next<|Yw slot_listiter_next hit.typeIs entry_listiter_next ?_<|args_listiter_next _;show EA _ _ (field (.ref c) 0>>=_) _ _ _;let:=Zz<|Jb n hd (x:=.ref l) rfl ?_;rw[ZX<|show¬(EO l==EY)=Eg from Yf];let:=Zz<|Jb n hd (x:=.int i 0) rfl<|Zz<|Uc p f ?_;simp only[Int.toNat_natCast,j];let:=Zz<|JK<|Zz<|YW n hd (by simp)<|Wg B (by rwa[Yq _ _ q]) g z λe h' k t=>Zz<|YX (b:=Eg) t Ub<|ZF<|y _ λb ob nb e=>k b ob<|by rwa[Yq _ _<|EG nb]
structure lO(P:Et)(w:Ey)(K:CK)(mg:Str->Db)(dX:EH)(k:Nat)(f:Er)(fd:Ew)(ps:By)(sp:Er->Sp):Prop where
 len:∀x vs H Q E,sp x vs H Q E->`vs=`ps
 run:∀(x:Er)(A:EL)(outer:List Env)(s:Eu)(H:Hp)(args:Args)(us:Da)(vs:Di)(Q:VK)(E:XK),sY k A->A.handled=A0 (.ref x)->oE P w K mg dX A outer s H->BindsTo s fd args (ps.zip us)->zb vs us->sp x vs H Q E->LP (EC P w) A (.call (.ref f) args) (CR CO outer P w H s Q E) s
def yd.zvG{st:ES}{k:Nat}(F:yd K x qual st f fd)(S:zy N ps<|zF st){H:Hp}{args:Args}{G:Da}{vs:Di}{Q:VK}{E:XK}(R:sY (k+1) A)(j:oE P w K mg dX A outer s H)(hb:BindsTo s fd args<|ps.zip G)(r:zb vs G)(hl:`vs=`ps)(U:∀(cdv:Es),sY k (A.deeper<|MI qual (zF st) ⇑s f cdv)->∃t,pB (fJ P w K mg dX N qual (zF st) f cdv A outer s H E) (yZ st) t/\t {nx:=λ_ H'=>Q .non H',rt:=Q} (start N vs) H):LP (EC P w) A (.call (.ref f) args) (CR CO outer P w H s Q E) s:=by
 let#[oc,od,kV,X,pm,an,cdv,ct,ab,rfl,lk,p]:=F.ex;let L:=j.mod.kin.keeps λb o e=>(j.bs b o e).1;let z:=j.mod.nolimit.keeps λb o e=>(j.bs b o e).1;let g:∀y∈ps.zip G,(zF st).names.lookup y.1=A0 _\/(zF st).names.lookup y.1=A0 .cell/\((cellsFrom (⇑s+1) _ []).lookup y.1).isSome=Eg:=λ⟨n,v⟩ hy=>by
  rcases S.par n (Vs hy).1 with q|q;.let:=.inl q
  .let:=.inr #[q,V7 _ _ _<|.inl q]
 let:=codeAny_call_function (by have:=R.dp;lia) (L _ _ lk) rfl S.co S.gen rfl (PySem.W.codeRec_of L p)<|hb _ _ _ _<|wpAny_newFunctionEnv_cells S.kind g λenv Z T x=>?_;subst Z;let:=#[z.keeps x.toInCall.keep,codeAny_func ?_];let#[t,ht,hq]:=U cdv<|R.deeper _;let I:Inv (fJ P w K mg dX N qual _ f cdv A outer s H E) [] _ H T:=NP S j hl r x;let:=YO (ht [] T _ H _ I hq) (λY D i=>?_) λe D i=>E4 i;let l:∀{c:St}{H':Hp}{v:V}{u:Es},Inv (fJ P w K mg dX N qual (zF st) f cdv A outer s H E) [] c H' D->yu v u->Q v H'->CE _ P w H s Q u D:=λ{c H' v u}J B q=>#[v,H',J.os,J.bare,J.dX,J.hok,B,q];cases Y with|ret u=>let#[v,c,H',J,B,q]:=i;let:=l J B q|next=>let#[c,H',J,q]:=i;let:=l (v:=V.non) J rfl q|brk=>let#[_,_,_,q]:=i;let:=E4 q|cont=>let#[_,_,_,q]:=i;let:=E4 q
def yd.nP{st:ES}{k:Nat}{sp:Er->Sp}(F:yd K x qual st f fd)(S:zy N ps<|zF st)(len:∀z vs H Q E,sp z vs H Q E->`vs=`ps)(g:∀(z:Er)(cdv:Es)(A:EL)(outer:List Env)(s:Eu)(H:Hp)(vs:Di)(Q:VK)(E:XK),sY k (A.deeper<|MI qual (zF st) ⇑s f cdv)->A.handled=A0 (.ref z)->sp z vs H Q E->∃t,pB (fJ P w K mg dX N qual (zF st) f cdv A outer s H E) (yZ st) t/\t {nx:=λ_ H'=>Q .non H',rt:=Q} (start N vs) H):lO P w K mg dX (k+1) f fd ps sp:=#[len,λz A outer s H e n vs Q E l j i hb r b=>F.zvG S l i hb r (len _ _ _ _ _ b) λcdv c=>g z cdv A _ s H vs Q E c j b]
structure zz1(P:Et)(w:Ey)(K:CK)(mg:Str->Db)(dX:EH)(k:Nat)(x:Str)(ps:By)(sp:Er->Sp):Prop where ex:∃(f:Er)(fd:Ew),lO P w K mg dX k f fd ps sp/\mg x=A0 (.ref f)/\E5 K (.ref f)=Eg/\wV K fd ps []
def zz1.mk'{st:ES}(F:yd K x qual st f fd)(G:lO P w K mg dX k f fd ps sp)(hm:mg x=A0 (.ref f))(b:wV K fd ps []):zz1 P w K mg dX k x ps sp:=#[f,fd,G,hm,F.kp,b]
def TD{e:ER}{b:List ER}{p:Pos}(C:zz1 X.prog X.w X.K X.mg X.dX k x ps sp)(E:sY k X.A)(D:X.A.handled=A0 (.ref z))(ha:PA X (e::b) t)(B:Gl X x:=by rfl)(g:(x==("__debug__":Str))=Ei:=by decide)(y:EI (e::b) X.env=(Ei,E8 e X.env)::EI b X.env:=by rfl)(i:(Lu pos<|EI b X.env).any (·.1)=Ei:=by rfl):PE X (.Call (.Name x p) (e::b) [] pos)<|Nm (sp z) [] E0 t:=by let#[f,J,F,hm,hk,hb]:=C.ex;intro o s G H Q I h;let:=Jo<|jT I B hm (Vp I.ok.mod.kin hk (CN (ha pos o s G H _ I h) λn l ⟨N,v,c,r,q⟩=>#[c.sJ,?_]) y i) g;let j:=r.append .nil;let hl:↑(n++[])=`ps:=`j▸F.len _ _ _ _ _ q;let:=VZ<|JN (F.run z X.A _ l v _ _ _ Q E0 E D c.env0 (hb l n c.sJ hl) j q) λr L hq=>?_;cases r with|error e=>trivial|ok fl=>cases fl with|ret u=>let:=c.after hq|next=>let:=E4 hq|brk=>let:=E4 hq|cont=>let:=E4 hq
def bR(K:CK)(a z:Er):(It):=#[(WA K a).go,(WA K a).yld,λi H=>(∃xs,yp K H a xs/\`xs<=i)/\∃cls,H z=A0 (Xl z cls)]
def Ou(a b:Er):lM (λX=>X.A.handled=A0 (.ref z)) P w K tg (bR K a z) [b] b λi h=>h.IsListIter b a i:=Gq a b<|by intro X t y r x i G s T H E I u st v;subst t y r;let#[#[xs,hq,N],cls,e]:=v;let#[D,F,p,Q]:=I.list hq;let#[l,n,J,o,q,f5]:=u b (by simp);let hl:=`F;let#[#[R,S,c,B,f,g]]:=I.hok z _ e;let:=NX x c f g ⋯ st p.isList (by simp;lia) λL j=>#[Ej,I.turned j l n o q f5]
def SD(K:CK)(z:Er)(c:TE):(TI):=λe H R=>c e H λv b=>∃a,v=.ref a/\(∃xs,yp K b a xs)/\R (bR K a z) b
abbrev eC(K:CK)(z:Er)(src:List<|Option Nat)(tl:TE)(g:TG)(tf:TT)(te:TE):TE:=Nn src (SD K z tl) g tf te
section
variable{elt:ER}{sc:Ma}{N N':By}
def TN(hl:PE X iter tl):iJ (λX=>X.A.handled=A0 (.ref z)) X tg iter<|SD X.K z tl:=by intro y s n H R I h;let:=CN (hl _ s n H _ I h) λv l h1=>?_;let#[B,i,c,u,a,r,#[x,f],q]:=h1;subst r;cases u;let#[j,w,g,t]:=c.list f;let:=J7 g.isList ?_;let p:Inv X _ n i {l with heap:=l.heap.push {cls:=.type "list_iterator",data:=.fields #v[.ref a,.int 0 0]}}:=c.kept λb o e=>ZE _ e;let:=#[_,_,_,_,i,Ej,p,Ou a _,#[_,ZL _ rfl,Ej,Ej],λb hb=>?_,q];rw[ZC.mp hb];let:=c.pC (ZG _)<|c.hok.fresh<|ZG _
def TV{k:Nat}{i f:Pos}(O:ur sc N N' src scope)(c:X.env.scope=sc)(l:X.N=N){j:TE}(q:X.A.handled=A0 (.ref z))(hl:PE X iter j)(p:∀C s H fp,PG (X.comp N' scope C s H fp) tg g)(b:∀C s H fp,PFi (X.comp N' scope C s H fp) ifs tf)(n:∀C s H fp,PE (X.comp N' scope C s H fp) elt te)(nd:X.N.Nodup)(hk:X.N[k]?=A0 y)(r:Loc X.env.scope y)(e:Mj (.ListComp elt [#[tg,iter,ifs,0]] scope pos) (A0<|.Name y i) f.line X.env=Lm Eg:=by rfl)(o:X.fn y=Eg\/X.env.scope.names.lookup y=A0 .local:=by first|let:=.inl rfl|let:=.inr rfl|assumption)(hs:∀x,Mb iter X.env x=Lm x:=by intro _;rfl):PS X (.Assign [.Name y i] (.ListComp elt [#[tg,iter,ifs,0]] scope pos) f)<|HD (eC X.K z src j g tf te)<|Xh k:=K7 O c l (λ_ _ _ _=>q) (TN hl) p b n nd hk r e o hs
end
section
variable{Q:VK}{a:Er}{xs:Di}{σ:St}{H:Hp}
def NF(c:Nat->Di->St->Hp->Prop)(j:c 0 [] (U9 src σ) H)(l:`xs<=sizeLine)(hl:∀i ys σ H,i<=`xs->c i ys σ H->yp K H a xs/\(∃cls,H z=A0 (Xl z cls))/\`ys<=i)(hs:∀i x ys σ H,xs[i]?=A0 x->c i ys σ H->g x σ H λσ2 H3=>tf σ2 H3 λb H4=>if b=Eg then te σ2 H4 λy H5=>c (i+1) (ys++[y]) σ2 H5 else c (i+1) ys σ2 H4)(hd:∀ys σ H,c `xs ys σ H->∀p,H p=Ee->Q (.ref p) (upd H p<|.lst ys)):Xr src (bR K a z) g tf te Q σ H:=X7 _ c j l (λi ys σ H f p=>(hl i ys σ H f p).2.2) (λys σ H p=>#[#[xs,(hl _ ys σ H (ZG _) p).1,ZG _],(hl _ ys σ H (ZG _) p).2.1]) (λi ys σ H f p=>#[xs,xs[i],(hl i ys σ H (Y3 f) p).1,by simp[f]]) (λi ys σ H f p x n y=>by let#[e,y]:=y;subst e;let:=hs i x ys σ _ (y xs (hl i ys σ _ (Y3 f) p).1) p) hd
end
def RA{c l x:Er}{r:Array Es}{u:Obj}{v:Array Es}{Q:Db->Dg}(B:A.handled=A0 (.ref x))(D:s.heap.get? x=A0 u)(g:u.data=.fields v)(z:v[2]?=A0 .none)(q:c≠x)(hit:IsTupIter s.heap c l i)(hl:IsTup s.heap l r)(j:r[i]?=Ee)(y:∀h',MN c s.heap h'->Q Ee {s with heap:=h'}):EA (EC prog w) A (L6<|.ref c) Q E s:=by let#[o,n,_,hd]:=id hit;let#[G,p,_,F,f]:=id hl;unfold L6;let:=Zz<|Ju<|YJ hit.typeIs slot_tupleiter_next<|Yw slot_tupleiter_next hit.typeIs entry_tupleiter_next ?_<|args_tupleiter_next _;show EA _ _ (field (.ref c) 0>>=_) _ _ _;let:=Zz<|Jb n hd (x:=.ref l) rfl ?_;rw[ZX<|show¬(EO l==EY)=Eg from Yf];let:=Zz<|Jb n hd (x:=.int i 0) rfl<|Zz<|Uc p f ?_;simp only[Int.toNat_natCast,j];let:=Zz<|JK<|Zz<|YW n hd (by simp)<|Wg B (by rwa[Yq _ _ q]) g z λe h' k t=>Zz<|YX (T:="StopIteration") (b:=Eg) t Ub<|ZF<|y _ λb ob nb e=>k b ob<|by rwa[Yq _ _<|EG nb]
def HV{z:List ER}{x1}{t x:Er}{g:Array Es}{D:Obj}{G:Array Es}{Q:Unit->Dg}(J:A.handled=A0 (.ref x))(F:s.heap.get? x=A0 D)(B:D.data=.fields G)(H:G[2]?=A0 .none)(v:IsTup s.heap t g)(hn:↑(Lr z env)=g.size)(n:(Lr z env).findIdx? (·.1)=Ee)(h:∀h',MN ⇑s s.heap h'->EA (EC prog w) A (assignInOrder ((Lr z env).map (·.2)) g.toList) Q E {s with heap:=h'}):EA (EC prog w) A (assign (.Tuple z x1 pos) env<|.ref t) Q E s:=by
 rw[assign_Tuple];let:=Zz<|Us ?_;unfold unpack;rw[hn,n];let:=Zz<|Ys ?_;let u:t≠⇑s:=by let#[o,K,_]:=v;let:=ZU<|ZP K
 let i:=ZU<|ZP F;unfold unpackItems;let:=Zz ?_;unfold notIterableAtAll;let:=Zz<|JS v.typeIs slot_tuple_iter.lookup<|ZF<|Zz<|Ys<|iter_tuple v<|Zz<|Ys<|draw_tuple u g.size 0 _ _ #[_,ZL _ rfl,Ej,Ej] (v.push _) ⋯ λj f c=>?_;let r:List.take g.size (List.drop 0 g.toList)=g.toList:=UF▸JW (by simp);rw[r];rw[ZX<|by simp];let p:IsTup j t g:=(v.push _).extBut c.extBut u;let q:=c.extBut x D i<|ZE _ F;let:=Zz<|Ys<|RA (s:={s with heap:=j}) J q B H (EG i) f p (by simp) λy l=>ZF<|h y λb o hb e=>l b o hb<|c.extBut b o hb<|ZE _ e
def fS(K:CK)(n:Nat)(z:Er)(t:RG):(TG):=λv b H Q=>∃a xs cls,v=.ref a/\yq K H a xs/\`xs=n/\H z=A0 (Xl z cls)/\t xs b H Q
def aF{k:Nat}(w:X.A.handled=A0 (.ref z))(h:PGs X es t)(q:X.K=K:=by rfl)(hn:↑(Lr es X.env)=n:=by rfl)(c:(Lr es X.env).findIdx? (·.1)=Ee:=by rfl):PG X (.Tuple es k pos)<|fS K n z t:=by subst q;intro J s G H v u Q I r f;let#[a,xs,cls,p,hq,hl,D,f]:=f;subst p;cases r;let#[E,F,x,_]:=I.tuple hq;let#[#[N,P,g,B,i,j]]:=I.hok z _ D;let:=HV w g i j x (by simp[hn,<-hl,`F]) c λL y=>?_;let l:=I.kept (t':=s.toks) λb o e=>y b o (ZU<|ZP e) e;let:=h _ _ G H xs _ Q l (by trivial) f
end L2
namespace An
open PySem L2
def Xb(c:Nat):(Bool):=decide (32<=c)&&decide (c<=126)&&decide (c≠37)
def U4(x:Str):(Bool):=decide (`x<=20)&&(cs x).all Xb
def Xt(c:Nat):(Bool):=decide (97<=c)&&decide (c<=122)
def zV(x:Str):(Bool):=decide (1<=`x)&&decide (`x<=8)&&(cs x).all Xt
def Xw:(EB->Bool)|.str x=>U4 x|_=>Ei
def vS:(EB->Bool)|.tuple ds=>ds.all Xw|_=>Ei
def k7:(EB->Bool)|.str x=>zV x|_=>Ei
def Xx:(EB->Bool)|.str _=>Eg|_=>Ei
def sX:(EB->Bool)|.tuple [l,n]=>k7 l&&Xx n|_=>Ei
mutual
def small:(EB->Bool)|.str x=>decide<|`x<=1000|.list ds=>decide (`ds<=1000)&&yF ds|.tuple ds=>decide (`ds<=1000)&&yF ds|_=>Eg
def yF:(De->Bool)|[]=>Eg|d::ds=>small d&&yF ds
end
def xF:∀{ds:De}{i:Nat}{d:EB},yF ds=Eg->ds[i]?=A0 d->small d=Eg|[],_,_,_,h=>by cases h|e::ds,0,d,h,q=>by let h:(small e&&yF ds)=Eg:=h;let q:=dI q;rw[ZQ]at h;rw[<-q];let:=h.1|e::ds,i+1,d,h,q=>by let h:(small e&&yF ds)=Eg:=h;rw[ZQ]at h;let:=xF h.2<|by trivial
def q9{b:De}(h:small (.tuple b)=Eg):`b<=1000/\yF b=Eg:=by let h:(decide _&&yF b)=Eg:=h;simp_all
def Ta(a c:Nat):[a]<[c]↔a<c:=by rw[Je];simp
def Hi{p q:Prop}[Decidable p][Decidable q](h:¬p↔q):(!decide p)=decide q:=⋯
def SV(c a:Nat)(x:Str)(b:x.cps.toList=[a]):(!decide ((#[#v[c]]:Str).cps.toList<x.cps.toList))=decide (a<=c):=b▸Hi (by rw[Ta];lia)
def one_le(c a:Nat)(x:Str)(b:x.cps.toList=[a]):(!decide (x.cps.toList<(#[#v[c]]:Str).cps.toList))=decide (c<=a):=b▸Hi (by rw[Ta];lia)
def Wc:(Sp):=λb H Q _=>∃c:Nat,b=[.str #[#v[c]]]/\Q (.bl<|Xb c) H
def Hz(K:CK):(Sp):=λc H Q _=>∃(d:EB)(v:V),c=[v]/\Dw K H d v/\small d=Eg/\∀b,zx H b->Q (.bl<|Xw d) b
def HA(K:CK):(Sp):=λc H Q _=>∃(d:EB)(v:V),c=[v]/\Dw K H d v/\small d=Eg/\∀b,zx H b->Q (.bl<|vS d) b
def IA(K:CK):(Sp):=λc H Q _=>∃(d:EB)(v:V),c=[v]/\Dw K H d v/\small d=Eg/\∀b,zx H b->Q (.bl<|k7 d) b
def bK(K:CK):(Sp):=λc H Q _=>∃(d:EB)(v:V),c=[v]/\Dw K H d v/\small d=Eg/\∀b,zx H b->Q (.bl<|sX d) b
def xG{α:Type}{l:List α}{f:α->Bool}{c:α}(h:l[i]?=A0 c):(l.take<|i+1).map f=(l.take i).map f++[f c]:=by rw[YE,h,ZM];rfl
def RZ{c:Nat}(h:x.cps[i]?=A0 c):(cs x)[i]?=A0 c:=by simp_all
def all_map(l:List α)(f:α->Bool):(l.map f).all id=l.all f:=by simp
mutual
def uH:(EB->Bool)|.list _=>Ei|.dict _=>Ei|.tuple ds=>qS ds|_=>Eg
def qS:(De->Bool)|[]=>Eg|d::ds=>uH d&&qS ds
end
mutual
theorem Sf:∀d:EB,uH d=Eg->EX d d=Eg|.none,_=>rfl|.bool b,_=>by cases b<;>rfl|.int i,_=>by show(i==i)=Eg;let:=beq_self_eq_true i|.str x,_=>by show(x==x)=Eg;let:=beq_self_eq_true x|.list _,t=>by cases t|.tuple ds,t=>XU ds t|.dict _,t=>by cases t
theorem XU:∀ds:De,qS ds=Eg->E7 ds ds=Eg|[],_=>rfl|d::ds,t=>by let t:(uH d&&qS ds)=Eg:=t;rw[ZQ]at t;show(EX d d&&E7 ds ds)=Eg;rw[Sf d t.1,XU ds t.2];rfl
end
structure En where
 h:Str
 n:Nat
 d:EB
abbrev Dh:=List En
def dot:(Str):=#[#v[46]]
def R9:(".":Str)=dot:=rfl
def En.nm(e:En):(Str):=e.h++dot++Xc e.n
def wY(S:Dh)(h:Str):(Option Nat):=S.foldl (λb e=>if e.h=h then A0<|max (b.getD 0)<|e.n+1 else b) Ee
def Iu(S:Dh)(e:En)(h:Str):wY (S++[e]) h=if e.h=h then A0<|max ((wY S h).getD 0)<|e.n+1 else wY S h:=by unfold wY;simp
structure zyK(e:En):Prop where
 key:XM e.d
 free:46∉cs e.h
 num:e.n<1000000
 hl:`e.h<=100
structure tO(S:Dh):Prop where
 ent:∀e∈S,zyK e
 nd:(S.map (·.d)).Nodup
 nn:(S.map En.nm).Nodup
 len:`S<=2000
def tO.nil:tO []:=#[λ_ h=>(nomatch h),YM,YM,Yk _]
def tO.snoc(g:tO S)(h:zyK e)(h1:e.d∉S.map (·.d))(h2:e.nm∉S.map En.nm)(h3:`S<2000):tO<|S++[e]:=#[kW g.ent h,ZM▸jN g.nd h1,ZM▸jN g.nn h2,by rw[ZS,JH];lia]
def Off(fp:Dc)(H c:Hp):(Prop):=∀b o,b∉fp->H b=A0 o->c b=A0 o
def Off.refl(fp:Dc)(H:Hp):Off fp H H:=λ_ _ _ h=>h
def Off.trans(a:Off fp H H1)(b:Off fp H1 H2):Off fp H H2:=λc o n h=>b c o n<|a c o n h
def Off.of(s:zx H H'):Off fp H H':=λb o _ h=>s b o h
def Off.upd{a:Er}{o:HO}(h:Off fp H H')(m:a∈fp):Off fp H<|L2.upd H' a o:=λb u n e=>by let ne:b≠a:=λz=>n<|z▸m;rw[zH ne];let:=h b u n e
def Sl(b d2 c:Er):(List<|Str×V):=[("thing_by_name",.ref b),("name_by_thing",.ref d2),("next_numbers",.ref c)]
def nF(H:Hp)(fp:Dc):(Prop):=∀b∈fp,∃o,H b=A0 o/\(∀xs,o≠.tup xs)/\(∀xs,o≠.lst xs)/\∀u v,o≠.frz u v
structure yc(P:Et)(w:Ey)(K:CK)(C:Er)(H:Hp)(a:Er)(fp:Dc)(S:Dh):Prop where
 good:tO S
 at_:∃(dx d1 d2 d3:Er)(ts:Dc)(nx:Dk),fp=[a,dx,d1,d2,d3]/\(fp).Nodup/\H a=A0 (.ins C dx<|Sl d1 d2 d3)/\H dx=A0 (.own a)/\`ts=`S/\H d1=A0 (.dK<|(S.zip ts).map λe=>((EE e.1.nm:Key),V.ref e.2))/\ThD P w K H d2 (S.map λe=>(e.d,V.str e.nm))/\H d3=A0 (.dK nx)/\`nx<=`S/\(∀h,U0 nx (EE h:Key)=(wY S h).map λn:Nat=>V.int (n:Int))/\∀(i:Nat)(e:En)(t:Er),S[i]?=A0 e->ts[i]?=A0 t->Dt K H e.d (.ref t)
def M8{H:Hp}{b:Er}{o:HO}(h:H b=A0 o)(h1:∀xs,o≠.tup xs)(h2:∀u v,o≠.frz u v):∀xs,¬Rd H b (.tup xs):=λxs z=>by
 rcases z with z|⟨u,z⟩;.rw[h]at z;let:=h1 xs<|dI z
 .rw[h]at z;let:=h2 u _<|dI z
mutual
theorem Dt.off{K:CK}{fp:Dc}(n:∀b∈fp,∀xs,¬Rd H b (.tup xs))(o:Off fp H H'):∀(k:EB)(v:V),Xd k=Eg->Dt K H k v->Dt K H' k v
 |.str x,_,_,h=>h|.tuple ds,_,t,⟨a,xs,h1,h2,h3⟩=>by
  let:=#[a,xs,h1,?_,zu.off n o ds xs t h3];rcases h2 with h2|h2
  .let ne:=λz=>n a z xs h2;rcases h2 with h2|⟨u,h2⟩;.let:=.inl<|.inl<|o a _ ne h2
   .let:=.inl<|.inr #[u,o a _ ne h2]
  .let:=.inr h2|.none,_,_,h=>h|.bool _,_,t,_=>by cases t|.int _,_,t,_=>by cases t|.list _,_,t,_=>by cases t|.dict _,_,t,_=>by cases t
theorem zu.off{K:CK}{fp:Dc}(n:∀b∈fp,∀xs,¬Rd H b (.tup xs))(o:Off fp H H'):∀(ks:De)(vs:Di),yP ks=Eg->zu K H ks vs->zu K H' ks vs|[],_,_,h=>h|k::ks,_,t,⟨x,r,h1,h2,h3⟩=>by let t:(Xd k&&yP ks)=Eg:=t;rw[ZQ]at t;let:=#[x,r,h1,Dt.off n o k x t.1 h2,zu.off n o ks r t.2 h3]end
def ThD.off{ps:List<|EB×V}{d:Er}(n:∀b∈fp,∀xs,¬Rd H b (.tup xs))(o:Off fp H H')(e:H' d=H d)(T:ThD P w K H d ps):ThD P w K H' d ps:=by
 let#[hl,hk,nd,xs,f,r]:=T;let:=#[hl,hk,nd,xs,e▸f,?_];let key:∀{ps:List _}{xs:List _},(∀p∈ps,XM p.1)->Lo (wB K H) ps xs->Lo (wB K H') ps xs:=by intro ps xs c r;induction r with|nil=>let:=.nil|cons r1 _ ih=>let:=.cons #[r1.1,Dt.off n o _ _ (c _ ZD).1 r1.2.1,r1.2.2]<|ih λp g=>c p<|ZB _ g
 let:=key hk r
def yc.off{gp:Dc}(n:∀b∈gp,∀xs,¬Rd H b (.tup xs))(o:Off gp H H')(dj:∀b∈fp,b∉gp)(h:yc P w K C H a fp S):yc P w K C H' a fp S:=by let#[g,p,j,d2,l,ts,nx,rfl,nd,h1,h2,h3,h4,h5,h6,q,r,s]:=h;let k:=λb u m e=>o b u (dj b m) e;let#[xs,c,_]:=h5.2.2.2;let:=#[g,p,j,d2,l,ts,nx,Ej,nd,k _ _ (by simp) h1,k _ _ (by simp) h2,h3,k _ _ (by simp) h4,ThD.off n o ?_ h5,k _ _ (by simp) h6,q,r,λi e t f v=>Dt.off n o _ _ (g.ent e<|ZI f).key.1<|s i e t f v];rw[c];let:=k _ _ (by simp) c
def yc.same(s:zx H H')(h:yc P w K C H a fp S):yc P w K C H' a fp S:=h.off (gp:=[]) (by simp_all) (Off.of s) λb _=>by simp
def yc.wK(h:yc P w K C H a fp S):nF H fp:=by
 let#[g,i,e,d2,f,ts,nx,rfl,nd,h1,h2,h3,h4,h5,h6,j,l,n]:=h;let#[xs,c,_]:=h5.2.2.2;intro b m;simp only[ZJ,Yd,YY]at m;rcases m with rfl|rfl|rfl|rfl|rfl;.simp_all
 .simp_all
 .let:=#[_,h4,λ_ z=>(nomatch z),λ_ z=>(nomatch z),λ_ _ z=>nomatch z]
 .let:=#[_,c,λ_ z=>(nomatch z),λ_ z=>(nomatch z),λ_ _ z=>nomatch z]
 simp_all
def nF.tup(h:nF H fp):∀b∈fp,∀xs,¬Rd H b (.tup xs):=λb m xs=>by let#[o,e,n1,_,n2]:=h b m;let:=M8 e n1 n2 xs
def kF{κ:Type}[DecidableEq κ]{Dl:List<|κ×V}{k:κ}{v:V}(h:k∉Dl.map (·.1)):yh Dl k v=Dl++[(k,v)]:=by unfold yh;simp_all[ZX]
def vZ{κ:Type}[DecidableEq κ]:∀{Dl:List<|κ×V}{k:κ}{v:V},(Dl.map (·.1)).Nodup->(k,v)∈Dl->U0 Dl k=A0 v
 |[],_,_,_,h=>nomatch h|p::r,k,v,nd,h=>by
  rw[Z9,YC]at nd;unfold U0;rw[JD];rcases ZJ.mp h with e|h;.subst e;simp
  .rw[ZZ<|λz=>nd.1<|ZH.mpr #[_,h,z.symm]];let:=vZ nd.2 h
def bF(e:En):cs e.nm=cs e.h++46::cs (Xc e.n):=by unfold En.nm;rw[zf,zf];show cs e.h++[46]++cs _=_;simp
def Tt(h:Xc m=Xc n):m=n:=by
 let b:cs (Xc m)=cs (Xc n):=by rw[h]
 let h1:=Uh m;let h2:=Uh n;let h3:=PySem.W.KIN.val_back m;let h4:=PySem.W.KIN.val_back n;rw[<-h1]at h3;rw[<-h2]at h4;let b:(Lv _).cps.toList=(Lv _).cps.toList:=b;rw[b]at h3;let:=h3.symm.trans h4
def Pq:∀{a b r s:List Nat},¬46∈a->¬46∈b->a++46::r=b++46::s->a=b/\r=s|[],[],r,s,_,_,h=>#[Ej,by injection h]|[],y::b,r,s,_,hb,h=>by simp_all|x::a,[],r,s,ha,_,h=>by injection h with h1 h2;let:=absurd (h1▸ZD) ha|x::a,y::b,r,s,ha,hb,h=>by injection h with h1 h2;let#[c,e]:=Pq (λz=>ha<|ZB _ z) (λz=>hb<|ZB _ z) h2;let:=#[by rw[h1,c],e]
def cZ{e f:En}(b:46∉cs e.h)(c:46∉cs f.h)(h:e.nm=f.nm):e.h=f.h/\e.n=f.n:=by have:=congrArg cs h;rw[bF,bF]at this;let#[h1,h2]:=Pq b c this;let:=#[wR h1,Tt<|wR h2]
def W3:∀{S:Dh}{e:En},e∈S->e.n<(wY S e.h).getD 0:=by
 let key:∀(S:Dh)b h,b.getD 0<=(S.foldl (λb e=>if e.h=h then A0<|max (b.getD 0)<|e.n+1 else b) b).getD 0/\∀e∈S,e.h=h->e.n<(S.foldl (λb e=>if e.h=h then A0<|max (b.getD 0)<|e.n+1 else b) b).getD 0:=by intro S;induction S with|nil=>intro b h;let:=#[ZG _,λe c=>nomatch c]|cons f S ih=>
   intro b h;rw[VY];let#[i,j]:=ih _ h;let mono:b.getD 0<=(if f.h=h then A0<|max (b.getD 0)<|f.n+1 else b).getD 0:=by
    split;.let:=Nat.le_max_left ..
    simp
   let:=#[Yz mono i,λe c g=>?_];rcases ZJ.mp c with rfl|c;.grind
   .let:=j e c g
 intro S e c;let:=(key S Ee e.h).2 e c rfl
def Tn(g:tO S){h:Str}{d:EB}(c:46∉cs h):(En.mk h ((wY S h).getD 0) d).nm∉S.map En.nm:=λz=>by let#[e,b,q]:=ZH.mp z;let#[h2]:=cZ (g.ent e b).free c q;have:=W3 b;lia
def dig(n:Nat):(Str):=Lv<|Mp ((n:Nat):Int)
def enc(p:Str):(List Nat):=cs (dig `p)++58::cs p
inductive Th where|leaf(ls:By)|tree(Do:Df)|note(t:Str)(ps:By)(w:Str)
def yB:(Df->By)|[]=>[]|r::rs=>r.1::r.2::yB rs
def jG:∀(a b:Df),yB (a++b)=yB a++yB b|[],_=>rfl|(x,y)::a,b=>by show x::y::yB (a++b)=x::y::(yB a++yB b);rw[jG a b]
def Th.word:(Th->Str)|.leaf _=>"leaf"|.tree _=>"tree"|.note _ _ _=>"note"
def Th.letter:(Th->Str)|.leaf _=>"L"|.tree _=>"T"|.note _ _ _=>"N"
def Th.parts:(Th->By)|.leaf ls=>ls|.tree Do=>yB Do|.note t ps w=>[t,dig `ps]++ps++[w]
def counted(p:Str):(Str):=dig `p++":"++p
def more(x p:Str):(Str):=x++dig `p++":"++p
def Th.sp(t:Th):(Str):=t.parts.foldl more t.letter
def Kg:cs (":":Str)=[58]:=rfl
def NJ(p:Str):cs (counted p)=enc p:=by unfold counted enc;simp[zf,Kg]
def WK(x p:Str):cs (more x p)=cs x++enc p:=by simp[more,enc,zf,Kg]
def Kh:∀(ps:By)(x:Str),cs (ps.foldl more x)=cs x++ps.flatMap enc|[],x=>by simp|p::ps,x=>by rw[VY,Kh ps,WK,JQ,Y1]
def fH(t:Th):cs t.sp=cs t.letter++t.parts.flatMap enc:=Kh ..
def gN(t:Th):t.letter++Txt.join "" (t.parts.map counted)=t.sp:=by
 apply wR;rw[zf,fH];let e:cs (Txt.join ""<|t.parts.map counted)=t.parts.flatMap enc:=by show cs (Builtin.Str.glued "" _)=_;rw[Li];rw[uL,List.flatMap_map];congr 1;funext p;let:=NJ p
 rw[e]
def XI(t:Th):cs t.letter=[match t with|.leaf _=>76|.tree _=>84|.note _ _ _=>78]:=by
 cases t;.rfl
 .rfl
 rfl
def fK(n:Int)(c:Nat):(Int):=(31*n+c)%97
def dg(x:Str):(Int):=(cs x).foldl fK 0
def yt(r:Str×Str):(PyData):=.tuple [.str r.1,.str r.2]
def Th.dat:(Th->EB)|.leaf ls=>.tuple [.str "leaf",.tuple<|ls.map .str]|.tree Do=>.tuple [.str "tree",.tuple<|Do.map yt]|.note t ps w=>.tuple [.str "note",.str t,.tuple<|ps.map .str,.str w]
def Kl:∀(a b:Df),E7 (a.map yt) (b.map yt)=decide (a=b)|[],[]=>rfl|[],_::_=>rfl|_::_,[]=>rfl|(x,y)::a,(z,w)::b=>by show(x==z&&(y==w&&Eg)&&E7 ..)=_;rw[Kl a b,YV];simp
def jX{xs ys:De}(h:(x==y)=Ei):EX (.tuple<|.str x::xs) (.tuple<|.str y::ys)=Ei:=by show(x==y&&E7 xs ys)=Ei;rw[h];rfl
def OL(a b:Th):EX a.dat b.dat=Eg↔a=b:=by
 let c:("leaf"=="tree")=Ei:=by lk
 let e:("leaf"=="note")=Ei:=by lk
 let f:("tree"=="leaf")=Ei:=by lk
 let g:("tree"=="note")=Ei:=by lk
 let i:("note"=="leaf")=Ei:=by lk
 let j:("note"=="tree")=Ei:=by lk
 cases a with
 |leaf ls=>cases b with|leaf ms=>show(("leaf":Str)=="leaf"&&(E7 _ _&&Eg))=Eg↔_;rw[qJ];simp|tree _=>let:=Ud (λz=>absurd ((jX c).symm.trans z) Yf) λz=>by cases z|note _ _ _=>let:=Ud (λz=>absurd ((jX e).symm.trans z) Yf) λz=>by cases z
 |tree rs=>cases b with|leaf ms=>let:=Ud (λz=>absurd ((jX f).symm.trans z) Yf) λz=>by cases z|tree qs=>show(("tree":Str)=="tree"&&(E7 ..&&Eg))=Eg↔_;rw[Kl];simp|note _ _ _=>let:=Ud (λz=>absurd ((jX g).symm.trans z) Yf) λz=>by cases z
 |note t ps w=>cases b with|leaf ms=>let:=Ud (λz=>absurd ((jX i).symm.trans z) Yf) λz=>by cases z|tree qs=>let:=Ud (λz=>absurd ((jX j).symm.trans z) Yf) λz=>by cases z|note t' ps' w'=>show(("note":Str)=="note"&&(t==t'&&(E7 ..&&(w==w'&&Eg))))=Eg↔_;rw[qJ];simp
def Th.Good(t:Th):(Prop):=`t.parts<=1000/\∀p∈t.parts,Ok 1000 p
def IT(x:Str):0<=dg x/\dg x<97:=by
 have:∀(l:List Nat)n,0<=n/\n<97->0<=l.foldl fK n/\l.foldl fK n<97:=by intro l;induction l with|nil=>intro n h;let:=h|cons c l ih=>intro n _;let:=ih _ ?_;unfold fK;lia
 let:=this _ 0 #[∅,∅]
def Tu(x:Str):Lv (Mp<|dg x)=Xc (dg x).toNat:=by unfold Xc;rw[Int.toNat_of_nonneg (IT x).1]
def KZ(h:n<97):↑(Xc n)<=10:=Vh ⋯ ∅<|by lia
def bw(x:Str)(n:Nat):cs (LG x Ee<|some (n:Int))=(cs x).take n:=by
 by_cases h:n<=`x;.let e:=eq_of_beq<|Uv (x:=x) (j:=n) ⋯<|⋯;rw[e];rfl
 .let e:=eq_of_beq<|Uv (x:=x) (j:=`x) ⋯<|⋯;rw[PyProof.Rows.slice_to_beyond<|⋯,e];let hl:↑(cs x)<=n:=by grind[za]
  rw[JW hl];have:((`x:Int)-0).toNat=`x.cps.toList:=by rfl
  rw[this];show x.cps.toList.take _=cs x;rw[Yg]
def snoc_ind{α:Type}{p:List α->Prop}(h0:p [])(h1:∀l x,p l->p (l++[x]))(l:List α):p l:=by
 have:∀l:List α,p l.reverse:=by intro l;induction l<;>simp_all
 have:=this l.reverse;simp_all
def zxV(S:Dh)(h:Str):(wY S h).getD 0=0\/∃e∈S,e.h=h/\e.n+1=(wY S h).getD 0:=by induction S using snoc_ind with|h0=>let:=.inl rfl|h1 S e ih=>
  rw[Iu];by_cases q:e.h=h
  .rw[Z4 q];rcases Nat.le_total ..with z|z;.let:=.inr #[e,by simp,q,(Nat.max_eq_right z).symm]
   .let b:=Nat.max_eq_left z;rcases ih with i|⟨f,c,h1,h2⟩;.let:=.inl<|b.trans i
    .let:=.inr #[f,by simp[c],h1,h2.trans b.symm]
  simp_all
def O3{S:Dh}(b:∀e∈S,e.n<`S)(h:Str):(wY S h).getD 0<=`S:=by rcases zxV S h with i|⟨f,_⟩<;>grind
def N5(n:Nat):Ez (Xc n)=Eg:=by
 rw[yT];intro c b;let b:c∈(Lv _).cps.toList:=b;rw[Uh]at b;let#[d,hd,rfl]:=ZH.mp b;rcases d.valid with h|⟨_,h⟩;.let:=Nat.lt_trans h ∅
 .let:=h
def N6(h1:Ez x=Eg)(h2:Ez y=Eg):Ez (x++y)=Eg:=by rw[yT]at*;intro c b;rw[zf,ZY]at b;let:=b.elim (h1 c)<|h2 c
def RS(xs:By)(x:Str):(xs.map E9).any (λy=>EX y<|.str x)=decide (x∈xs):=by induction xs with|nil=>rfl|cons y xs ih=>show(y==x||(xs.map _).any _)=_;rw[ih,YV,Ux,Z6,Z6,ZJ,Vc];let:=#[λh=>h.elim (λz=>.inl z.symm) .inr,λh=>h.elim (λz=>.inl z.symm) .inr]
def cY{S:Dh}(nd:(S.map (·.d)).Nodup){e f:En}(j:e∈S)(l:f∈S)(h:e.d=f.d):e=f:=by induction S with|nil=>cases j|cons x S ih=>
  rw[Z9,YC]at nd;rcases ZJ.mp j with i|c
  .rcases ZJ.mp l with g|b;.rw[i,g]
   .let:=absurd (ZH.mpr #[f,b,i▸h.symm]) nd.1
  .rcases ZJ.mp l with g|b;.let:=absurd (ZH.mpr #[e,c,g▸h]) nd.1
   .let:=ih nd.2 c b
def Ex(H:Hp)(X:Dc):(Prop):=∀c∈X,∃o,H c=A0 o
section
variable{C:Er}{H H' H0:Hp}{S:Dh}
def yc.ex(h:yc P w K C H a fp S):Ex H fp:=λc b=>by let#[o,e,_]:=h.wK c b;let:=#[o,e]
end
def GI{α:Type}{l:List α}{x:α}(nd:l.Nodup)(h:l[i]?=A0 x):x∉l.take i:=λz=>by let#[j,f,e]:=Ym.mp z;rw[Z8]at f;rw[UR]at e;let#[c,b]:=ZW.mp h;let:=JF.mp nd j i _ c ⋯<|e.trans b.symm
def Xf(t:Th):(Str):=t.letter++Xc (dg t.sp).toNat
def FW(S:Dh)(t:Th):(En):=#[Xf t,(wY S<|Xf t).getD 0,t.dat]
def G6(t:Th):`t.letter=1:=by rw[za,XI];rfl
def KG(t:Th):46∉cs t.letter:=by
 cases t;.show 46∉[76];decide
 .show 46∉[84];decide
 .show 46∉[78];decide
def j7(t:Th):46∉cs (Xf t):=by unfold Xf;rw[zf,ZY,not_or];let:=#[KG t,(PyProof.Rows.intText_free_46 _).mp]
def kO(t:Th):↑(Xf t)<=100:=by
 unfold Xf;let h1:=KZ (n:=(dg t.sp).toNat)<|by have:=IT t.sp;lia
 grind[yo,G6]
def Ri(t:Th):Ez t.letter=Eg:=by rw[yT,XI];intro c b;rw[ZC.mp b];cases t<;>simp_all
def Gc:∀{ls:By},(∀l∈ls,Ez l=Eg)->yP (ls.map .str)=Eg/\qP (ls.map .str)=0
 |[],_=>#[Ej,Ej]|l::ls,h=>by
  let#[h1]:=Gc λx b=>h x<|ZB _ b;let:=#[?_,?_];.show(Ez l&&yP _)=Eg;rw[h l ZD,h1];rfl
  trivial
def Nu:∀{rs:Df},(∀p∈yB rs,Ez p=Eg)->yP (rs.map yt)=Eg/\qP (rs.map yt)<=1
 |[],_=>#[Ej,Yk _]|(x,y)::rs,h=>by
  let#[h1]:=Nu λp b=>h p<|ZB _<|ZB _ b;let:=#[?_,?_];.show(Ez x&&(Ez y&&Eg)&&yP _)=Eg;rw[h x ZD,h y<|ZB _ ZD,h1];rfl
  .show max (max 0 (max 0 0)+1) _<=1;lia
def FQ{t:Th}(g:t.Good):XM t.dat:=by let b:=λp c=>(g.2 p c).ok;cases t with
 |leaf ls=>
  let#[h1,h2]:=Gc (ls:=ls) b;let:=#[?_,?_];.show(Ez "leaf"&&(yP _&&Eg))=Eg;rw[h1];lk
  .show max 0 (max (qP _+1) 0)+1<=6;rw[h2];decide|tree rs=>
  let#[h1,h2]:=Nu b;let:=#[?_,?_];.show(Ez "tree"&&(yP _&&Eg))=Eg;rw[h1];lk
  .show max 0 (max (qP _+1) 0)+1<=6;lia|note x ps y=>
  let e:∀p∈ps,Ez p=Eg:=λp c=>b p (by show p∈[x,dig `ps]++ps++[y];simp[c]);let f:=b x (by show x∈[x,dig `ps]++ps++[y];simp);let i:=b y (by show y∈[x,dig `ps]++ps++[y];simp);let#[h1,h2]:=Gc e;let:=#[?_,?_];.show(Ez "note"&&(Ez x&&(yP _&&(Ez y&&Eg))))=Eg;rw[h1,f,i];lk
  .show max 0 (max 0<|max (qP (ps.map .str)+1)<|max 0 0)+1<=6;rw[h2];decide
def WM{a b:Th}(h:a.dat=b.dat):a=b:=(OL a b).mp<|h▸(OL b b).mpr rfl
def Fn(e:En):(Prop):=∃t:Th,e.d=t.dat/\t.Good/\e.h=Xf t
def PF(e:En):(Str):=match e.d with|.tuple<|.str x::_=>x|_=>""
def Wt(t:Th)(h:Str)(n:Nat):PF #[h,n,t.dat]=t.word:=by cases t<;>rfl
def jR{e:En}{t:Th}(h:e.d=t.dat):PF e=t.word:=by let#[a,b]:=e;subst h;let:=Wt t a b
def z7(S:Dh)(x:Str)(b:By):(Bool):=S.any λe=>decide (e.nm=x)&&decide (PF e∈b)
def namesOk(S:Dh):(Th->Bool)|.leaf _=>Eg|.tree Do=>Do.all λr=>z7 S r.2 ["leaf","tree"]|.note t ps _=>z7 S t ["tree"]&&ps.all λp=>z7 S p ["note"]
def v7(g:tO S){e:En}(b:e∈S)(l:By):z7 S e.nm l=decide (PF e∈l):=by
 unfold z7;rw[YV,YH,Z6];constructor
 .rintro⟨f,p,h⟩;rw[ZQ,Z6,Z6]at h;let#[i,q,n]:=Ym.mp b;let#[j,r,o]:=Ym.mp p;have:i=j:=by
   let c:=JF.mp g.nn;rcases VA i j with z|z|z;.let:=absurd (by simp_all)<|c i j (by rwa[ZA]) (by rwa[ZA]) z
   .let:=z
   .let:=absurd (by simp_all)<|c j i (by rwa[ZA]) (by simp_all) z
  subst this;rw[<-n,o];let:=h.2
 .intro h;let:=#[e,b,by simp_all]
def Kt{S:Dh}(h:x∉S.map En.nm)(b:By):z7 S x b=Ei:=by unfold z7;simp_all
def qC{T:Dh}(h:z7 S x ws=Eg):z7 (S++T) x ws=Eg:=by unfold z7 at*;rw[List.any_append,h];rfl
def eu:(Str):=#[#v[47]]
def eX:("/":Str)=eu:=rfl
def jn:(List (List Nat)->List Nat)|[]=>[]|[x]=>x|x::y::r=>x++47::jn (y::r)
def Fb:(List Nat->List (List Nat))|[]=>[[]]|c::r=>if c=47 then[]::Fb r else match Fb r with|[]=>[[c]]|p::ps=>(c::p)::ps
def XJ:∀l,Fb l≠[]
 |[]=>by simp[Fb]|c::r=>by
  unfold Fb;split;.simp
  .split<;>simp
def IE{x:List Nat}{r:List<|List Nat}(h:r≠[]):jn (x::r)=x++47::jn r:=by cases r with|nil=>trivial|cons y r=>rfl
def IW:∀l,jn (Fb l)=l
 |[]=>rfl|c::r=>by
  let b:=IW r;unfold Fb;split;.simp_all[IE,XJ]
  .cases q:Fb r with|nil=>let:=absurd q<|XJ r|cons p ps=>rw[q]at b;cases ps with|nil=>show c::p=_;rw[show p=r from b]|cons y ps=>rw[<-b];rfl
def HB:∀(a b:List Nat),Fb (a++47::b)=Fb a++Fb b
 |[],b=>rfl|c::a,b=>by
  let e:=HB a b;show Fb (c::(a++47::b))=_;rw[Fb,Fb,e];split;.rfl
  .cases q:Fb a with|nil=>let:=absurd q<|XJ a|cons p ps=>rfl
def Gr:∀{p:List Nat},47∉p->Fb p=[p]|[],_=>rfl|c::p,h=>by let b:=Gr λz=>h<|ZB _ z;unfold Fb;rw[ZX<|λz=>h<|by rw[z];let:=ZD,b]
def Oo:∀{ps:List<|List Nat},ps≠[]->(∀p∈ps,47∉p)->Fb (jn ps)=ps|[],h,_=>absurd rfl h|[p],_,h=>Gr<|h p ZD|p::q::r,_,h=>by rw[IE<|by simp,HB,Gr<|h p ZD,Oo (by simp) λx b=>h x<|ZB _ b];rfl
def NS:∀{a b:List<|List Nat},a≠[]->b≠[]->jn (a++b)=jn a++47::jn b|[],_,h,_=>absurd rfl h|[x],b,_,hb=>IE hb|x::y::r,b,_,hb=>by show x++47::jn (y::r++b)=x++47::jn _++47::jn b;rw[NS (by simp) hb];simp
def SI:∀{ps:List<|List Nat}{p:List Nat},p∈ps->`p<=↑(jn ps)
 |[],_,h=>by cases h|[x],p,h=>ZC.mp h▸ZG _|x::y::r,p,h=>by
  show _<=↑(x++47::jn _);rw[ZS,Yj];rcases ZJ.mp h with rfl|h;.lia
  .have:=SI h;lia
def SH:∀{ps:List<|List Nat},`ps<=↑(jn ps)+1|[]=>by simp|[x]=>by simp|x::y::r=>by show _<=↑(x++47::jn _)+1;have:=SH (ps:=y::r);grind
def TB{l p:List Nat}:(∃t,l=p++47::t)↔∃i,i+1<↑(Fb l)/\p=jn ((Fb l).take<|i+1):=by
 constructor;.rintro⟨t,rfl⟩;rw[HB];let h1:=VP.mpr<|XJ p;let h2:=VP.mpr<|XJ t;let:=#[↑(Fb p)-1,by rw[ZS];lia,?_];grind[Fb,List.take_left,IW]
 .rintro⟨i,b,rfl⟩;let:=#[jn<|(Fb l).drop<|i+1,?_];rw[<-NS,Jk,IW];.intro z;simp_all
  simp_all
def gA(l:List Nat):(Str):=#[l.toArray]
def zwJ(l:List Nat):cs (gA l)=l:=rfl
def zwO(x:Str):gA (cs x)=x:=rfl
def uU:∀ys:By,cs (Txt.join "/" ys)=jn (ys.map cs):=by intro ys;let e:Txt.join "/" ys=Str.join "/" ys:=Li "/" ys;rw[e];clear e;induction ys with|nil=>rfl|cons x r ih=>cases r with|nil=>rfl|cons y r=>
   show cs (x++"/"++Str.join "/" _)=cs x++47::jn _;have:cs "/"=[47]:=by rfl
   simp_all[zf]
def We(x:Str):LV x "/"=(Fb<|cs x).map gA:=by
 let h1:cs (Str.join "/"<|LV x "/")=cs x:=by rw[StrLaws.join_split]
 let e:Txt.join "/" _=Str.join "/" (LV x "/"):=Li "/" _;rw[<-e,uU]at h1;let b:LV x "/"≠[]:=by
  unfold LV;split;.simp
  .split;.simp
   simp[LI]
 let h2:=Oo (ps:=(LV x "/").map cs) (by simpa using b) λp c=>by let#[y,f,rfl]:=ZH.mp c;let:=StrLaws.split_free x 47 y f
 rw[h1]at h2;rw[h2,ZV];have:gA∘cs=id:=funext zwO;simp_all
def U5(x:Str):(By):=LV x "/"
def kJ(x:Str):(U5 x).map cs=Fb (cs x):=by unfold U5;rw[We,ZV];have:cs∘gA=id:=funext zwJ;simp_all
def KA(h:y∈U5 x):`y<=`x:=by rw[za,za,<-IW<|cs x,<-kJ];let:=SI<|List.mem_map_of_mem h
def IU(x:Str):↑(U5 x)<=`x+1:=by have:=SH (ps:=Fb<|cs x);rw[IW,<-kJ,ZA]at this;let:=this
def gn(x:Str):0<↑(U5 x):=by have:=VP.mpr<|XJ<|cs x;rw[<-kJ,ZA]at this;let:=this
def jL{ys:By}(h:ys≠[])(g:∀y∈ys,47∉cs y):U5 (Txt.join "/" ys)=ys:=by
 have:(U5<|Txt.join "/" ys).map cs=ys.map cs:=by simp_all[kJ,uU,Oo]
 let inj:∀{a b:By},a.map cs=b.map cs->a=b:=by intro a;induction a with|nil=>simp|cons x a ih=>intro b e;cases b with|nil=>cases e|cons y b=>injection e with c f;rw[wR c,ih f]
 let:=inj this
def TC(x:Str):(Bool):=decide (↑(U5 x)<=4)&&(U5 x).all zV
def K5:(EB->Bool)|.str x=>TC x|_=>Ei
def xP(h:zV y=Eg):47∉cs y:=by unfold zV at h;rw[ZQ]at h;intro z;let:=absurd (Yc.mp h.2 47 z) ∅
def Rq{ys:By}(b:ys≠[])(h4:`ys<=4)(h:∀y∈ys,zV y=Eg):TC (Txt.join "/" ys)=Eg:=by unfold TC;rw[jL b λy c=>xP<|h y c,ZK h4,Yc.mpr h];rfl
def Xp(x:Str):(By):=(EK<|↑(U5 x)-1).map λi=>Txt.join "/"<|(U5 x).take<|i+1
def Xq(p q:Str):(Bool):=Txt.startswith q<|p++"/"
def O6:Xq p q=Eg↔∃t,cs q=cs p++47::t:=by
 unfold Xq Txt.startswith;rw[StrLaws.subAt_eq,ZQ,YF,Vc];let e:(p++"/").cps.toList=cs p++[47]:=by
  have:cs "/"=[47]:=by lk
  simp_all[zf]
 let b:(p++"/").length=↑(cs p)+1:=by simp_all[za]
 rw[e,b];constructor;.rintro⟨h1⟩;let:=#[(cs q).drop<|↑(cs p)+1,?_];have:=Jk (↑(cs p)+1)<|cs q;simp_all
 .rintro⟨t,h⟩;rw[za,h];let:=#[by simp,?_];show(cs q).take _=_;rw[h];rw[show cs p++47::t=cs p++[47]++t by simp];rw[List.take_left'<|by simp]
def sH{p:Str}:p∈Xp q↔Xq p q=Eg:=by
 rw[O6,TB];unfold Xp;rw[ZH];let hl:↑(Fb<|cs q)=↑(U5 q):=by rw[<-kJ,ZA]
 constructor;.rintro⟨i,b,rfl⟩;have:=YQ.mp b;let:=#[i,⋯,?_];rw[uU,Ut,kJ]
 .rintro⟨i,b,h⟩;let:=#[i,YQ.mpr<|⋯,wR ?_];rw[uU,Ut,kJ,h]
def Ty(p t:Str):Xq p (p++"/"++t)=Eg:=by
 rw[O6];let:=#[cs t,?_];have:cs "/"=[47]:=by rfl
 simp_all[zf]
abbrev Fi:=By×By
abbrev Dj:=List Fi
def CL(ls:By):(Str):=Txt.join "/" ls
structure wU(S:Dh):Prop where
 good:tO S
 th:∀e∈S,Fn e
 num:∀e∈S,e.n<`S
def At(S:Dh)(x:Str)(t:Th):(Prop):=∃e∈S,e.nm=x/\e.d=t.dat
section
variable{S T:Dh}{t u:Th}
def To(g:(S.map En.nm).Nodup){e f:En}(b:e∈S)(c:f∈S)(h:e.nm=f.nm):e=f:=by
 let#[i,l,rfl]:=Ym.mp b;let#[j,n,rfl]:=Ym.mp c;have:=(JJ (h₀:=by simpa using l) (h₁:=by simpa using n) g).mp<|by simp_all
 simp_all
def At.thing(g:wU S)(h:At S x t)(k:At S x u):t=u:=by let#[e,c,rfl,hd]:=h;let#[f,i,fn,b]:=k;have:=To g.good.nn i c fn;subst this;let:=WM<|hd.symm.trans b
def At.name(g:wU S)(h:At S x t)(k:At S y t):x=y:=by let#[e,c,rfl,hd]:=h;let#[f,i,rfl,b]:=k;rw[cY g.good.nd c i<|hd.trans b.symm]
def At.more(h:At S x t):At (S++T) x t:=let#[e,he,a]:=h;#[e,YB _ he,a]
def At.mem(h:At S x t):x∈S.map En.nm:=let#[e,he,a,_]:=h;ZH.mpr #[e,he,a]
end
noncomputable def bO(S:Dh)(x:Str):Option Th:=open Classical in if h:∃t,At S x t then A0<|choose h else Ee
def HE(g:wU S)(h:At S x t):bO S x=A0 t:=by unfold bO;let ex:∃t,At S x t:=#[t,h];rw[dif_pos ex];let:=congrArg _<|At.thing g (Classical.choose_spec ex) h
noncomputable def zp:Nat->Dh->Str->Dj|0,_,_=>[]|d+1,S,x=>match bO S x with|some<|.leaf ls=>[([],ls)]|some<|.tree Do=>Do.flatMap λr=>(zp d S r.2).map λf=>(r.1::f.1,f.2)|_=>[]
def yW{ls:By}{d:Nat}(g:wU S)(h:At S x<|.leaf ls):zp (d+1) S x=[([],ls)]:=by show(match bO S x with|some<|.leaf ls=>[([],ls)]|some<|.tree _=>_|_=>_)=_;rw[HE g h]
def yO{b:Df}{d:Nat}(g:wU S)(h:At S x<|.tree b):zp (d+1) S x=b.flatMap λr=>(zp d S r.2).map λf=>(r.1::f.1,f.2):=by show(match bO S x with|some<|.leaf ls=>[([],ls)]|some<|.tree _=>_|_=>_)=_;rw[HE g h]
def Fc(a b:Str):(Prop):=cs a<cs b
def Tree:(Nat->Dh->Str->Prop)|0,_,_=>False|d+1,S,x=>(∃c,At S x<|.leaf c)\/∃b,At S x (.tree b)/\(b.map (·.1)).Pairwise Fc/\∀r∈b,zV r.1=Eg/\Tree d S r.2/\zp d S r.2≠[]
def Tree.more{S T:Dh}(g:wU<|S++T)(b:wU S):∀{d:Nat}{x:Str},Tree d S x->Tree d (S++T) x/\zp d (S++T) x=zp d S x
 |0,_,h=>absurd h<|λz=>z|d+1,x,h=>by
  rcases h with⟨ls,h⟩|⟨Do,h,so,hr⟩;.let:=#[.inl #[ls,h.more],by rw[yW g h.more,yW b h]]
  .let c:=λr m=>Tree.more g b (hr r m).2.1;let:=#[.inr #[_,h.more,so,λr m=>#[(hr r m).1,(c r m).1,(c r m).2▸(hr r m).2.2]],?_];rw[yO g h.more,yO b h];rw[List.flatMap_def];congr 1;let:=Yp λr m=>by rw[(c r m).2]
def Tree.mem(h:Tree d S x):x∈S.map En.nm:=by cases d with|zero=>trivial|succ d=>
  rcases h with⟨ls,h⟩|⟨Do,h,_⟩;.let:=h.mem
  .let:=h.mem
def S9:∀{a b:List Nat}(s t:List Nat),(∀c∈b,47<c)->(s=[]\/∃r,s=47::r)->a<b->a++s<b++t
 |[],[],_,_,_,_,h=>by simp_all|[],c::b,s,t,hb,hs,_=>by
  rcases hs with rfl|⟨r,rfl⟩;.let:=List.nil_lt_cons ..
  .let:=Je.mpr<|.inl<|hb c<|ZD ..|_::_,[],_,_,_,_,h=>by simp_all|x::a,y::b,s,t,hb,hs,h=>by
  rcases Je.mp h with h1|⟨e,h1⟩;.let:=Je.mpr<|.inl h1
  .let:=Je.mpr<|.inr #[e,S9 s t (λc f=>hb c<|ZB _ f) hs h1]
def qG(l:Str){p:By}(h:p≠[]):cs (CL<|l::p)=cs l++47::cs (CL p):=by simp_all[CL,uU,Z9,IE]
def Pe(l:Str):cs (CL [l])=cs l:=rfl
def K8(l:Str)(p:By):∃s,cs (CL<|l::p)=cs l++s/\(s=[]\/∃r,s=47::r):=by
 by_cases h:p=[];.subst h;let:=#[[],by rw[Pe,Yi],.inl rfl]
 .let:=#[_,qG l h,.inr #[_,Ej]]
def SK(h:zV l=Eg):∀c∈cs l,47<c:=λc b=>by unfold zV at h;rw[ZQ]at h;have:=Yc.mp h.2 c b;unfold Xt at this;lia
def dJ(p q:By)(hm:zV m=Eg)(h:Fc l m):Fc (CL<|l::p)<|CL<|m::q:=by let#[s,e,c]:=K8 l p;let#[t,b,_]:=K8 m q;unfold Fc;rw[e,b];let:=S9 s t (SK hm) c h
def RT:∀(a:List Nat){s t:List Nat},s<t->a++s<a++t|[],_,_,h=>h|x::a,_,_,h=>Je.mpr<|.inr #[Ej,RT a h]
def dN{l:Str}{p q:By}(b:p≠[])(hq:q≠[])(h:Fc (CL p)<|CL q):Fc (CL<|l::p)<|CL<|l::q:=by unfold Fc;rw[qG l b,qG l hq];let:=RT _<|Je.mpr<|.inr #[Ej,h]
def Tree.rise(g:wU S):∀{d:Nat}{x:Str},Tree d S x->(zp d S x).Pairwise (λf h=>Fc (CL f.1)<|CL h.1)/\((∃ls,zp d S x=[([],ls)])\/∀f∈zp d S x,f.1≠[])
 |0,_,h=>absurd h<|λz=>z|d+1,x,h=>by
  rcases h with⟨ls,h⟩|⟨Do,h,so,hr⟩;.rw[yW g h];let:=#[Vl ..,.inl #[ls,Ej]]
  .rw[yO g h];let:=#[?_,.inr λf e=>?_]
   .rw[List.flatMap_def,List.pairwise_flatten];let:=#[λl hl=>?_,?_]
    .let#[r,i,rfl]:=ZH.mp hl;let#[n,c]:=Tree.rise g (hr r i).2.1;rw[YR];rcases c with⟨ls,c⟩|c;.rw[c];let:=Vl ..
     .let:=n.imp_of_mem λ{a b}ha hb z=>dN (c a ha) (c b hb) z
    .rw[YR];rw[YR]at so;let:=so.imp_of_mem λ{a b}ha hb z f e k hk=>?_;let#[j,_,rfl]:=ZH.mp e;let#[o,_,rfl]:=ZH.mp hk;let:=dJ _ _ (hr b hb).1 z
   .let#[r,_,e]:=YZ.mp e;let#[j,_,rfl]:=ZH.mp e;let:=Y0 _ _
def W1(h:Fc a b)(k:Fc b a):False:=List.lt_asymm h k
def O1(h:Fc a b):a≠b:=λz=>by subst z;let:=UG _ h
def BY{l m:Dj}(h1:l.Pairwise<|λf h=>Fc (CL f.1)<|CL h.1)(h2:m.Pairwise<|λf h=>Fc (CL f.1)<|CL h.1)(e:∀f,f∈l↔f∈m):l=m:=by let nd:∀{l:Dj},l.Pairwise (λf h=>Fc _<|CL h.1)->l.Nodup:=λ{l}h=>Ya.mpr (h.imp λ{a b}z q=>by subst q;let:=UG _ z);let:=Ve (λa b _ _ z q=>absurd q<|W1 z) h1 h2<|(Jz (nd h1)<|nd h2).mpr e
def Fx(B:∀{x y:Str},Tree d S x->Tree d S y->zp d S x=zp d S y->x=y):∀{a b:Df},(a.map (·.1)).Pairwise Fc->(b.map (·.1)).Pairwise Fc->(∀r∈a,Tree d S r.2/\zp d S r.2≠[])->(∀r∈b,Tree d S r.2/\zp d S r.2≠[])->(a.flatMap λr=>(zp d S r.2).map λf=>((r.1::f.1,f.2):Fi))=(b.flatMap λr=>(zp d S r.2).map λf=>((r.1::f.1,f.2):Fi))->a=b
 |[],[],_,_,_,_,_=>rfl|[],s::b,_,_,_,hb,e=>by rw[List.flatMap_nil,JQ]at e;have:=(List.append_eq_nil_iff.mp e.symm).1;let:=absurd (List.map_eq_nil_iff.mp this) (hb s<|ZD ..).2|r::a,[],_,_,ha,_,e=>by rw[List.flatMap_nil,JQ]at e;have:=(List.append_eq_nil_iff.mp e).1;let:=absurd (List.map_eq_nil_iff.mp this) (ha r<|ZD ..).2|r::a,s::b,oa,ob,ha,hb,e=>by
  let#[n,o]:=ha r<|ZD ..;let#[t,u]:=hb s<|ZD ..;rw[Z9,UH]at oa ob;rw[JQ,JQ]at e;let g:r.1=s.1:=by cases J:zp d S r.2 with|nil=>let:=absurd J o|cons f fs=>cases K:zp d S s.2 with|nil=>let:=absurd K u|cons k ks=>simp_all
  let key:∀{c:Df}{z:Str×Str}{l:Str},z.1=l->(∀y∈c.map (·.1),Fc l y)->(((zp d S z.2).map λf=>((z.1::f.1,f.2):Fi))++c.flatMap λr=>(zp d S r.2).map λf=>((r.1::f.1,f.2):Fi)).filter λf=>decide<|f.1.head?=A0 l=(zp d S z.2).map λf=>((z.1::f.1,f.2):Fi):=by
   intro c z l F H;rw[UI,List.filter_eq_self.mpr,List.filter_eq_nil_iff.mpr,Yi];.intro f i q;let#[w,j,i]:=YZ.mp i;let#[G,_,rfl]:=ZH.mp i;have:=ZT q;have:=dI this;let:=O1 (H w.1<|ZH.mpr #[w,j,Ej]) this.symm
   .intro f i;let#[G,_,rfl]:=ZH.mp i;let:=ZK<|congrArg A0 F
  let v:=congrArg (List.filter λf:Fi=>decide<|f.1.head?=A0 r.1) e;rw[key rfl oa.1,key g.symm<|g▸ob.1,g]at v;let A:=by let:=(List.map_inj_right λf k z=>?_).mp v;let h1:=congrArg Prod.fst z;let h2:=congrArg Prod.snd z;let:=Mf (List.cons.inj h1).2 h2
  let D:=B n t A;rw[g,A]at e;let E:=V6 e;have:=Fx B oa.2 ob.2 (λw j=>ha w<|ZB _ j) (λw j=>hb w<|ZB _ j) E;let p:=Mf g D;rw[this,p]
def Tree.one(g:wU S):∀{d:Nat}{x y:Str},Tree d S x->Tree d S y->zp d S x=zp d S y->x=y
 |0,_,_,h,_,_=>absurd h<|λz=>z|d+1,x,y,h,k,e=>by
  let no:∀{b:Df}{c:By},(b.flatMap λr=>(zp d S r.2).map λf=>(r.1::f.1,f.2))≠[([],c)]:=λ{b c}z=>by have:([],c)∈b.flatMap λr=>(zp d S r.2).map λf=>(r.1::f.1,f.2):=z▸ZC.mpr rfl;let#[_]:=YZ.mp this;simp_all
  rcases h with⟨c,h⟩|⟨b,h,so,hr⟩<;>rcases k with⟨ls',k⟩|⟨rows',k,so',hr'⟩;.rw[yW g h,yW g k]at e;have:=congrArg Prod.snd (List.cons.inj e).1;subst this;let:=h.name g k
  .rw[yW g h,yO g k]at e;let:=absurd e.symm no
  .rw[yO g h,yW g k]at e;let:=absurd e no
  .rw[yO g h,yO g k]at e;have:=Fx (Tree.one g) so so' (λr m=>(hr r m).2) (λr m=>(hr' r m).2) e;subst this;let:=h.name g k
noncomputable def CV(S:Dh)(t:Th):List En×Str:=open Classical in if h:∃x,At S x t then(S,choose h)else(S++[FW S t],(FW S t).nm)
section
variable{S T:Dh}{t:Th}
def II(g:wU S)(h:At S x t):CV S t=(S,x):=by unfold CV;let ex:∃x,At S x t:=#[x,h];rw[dif_pos ex];let:=congrArg _<|At.name g (Classical.choose_spec ex) h
def M3(h:∀e∈S,e.d≠t.dat):CV S t=(S++[FW S t],(FW S t).nm):=by unfold CV;rw[dif_neg];rintro⟨x,e,b,_,hd⟩;let:=h e b hd
def cw{e:En}(h:e.h=Xf t)(hn:e.n<1000000):Ok 1000 e.nm:=by
 let:=#[?_,?_]
 .let h1:=kO t;let h2:↑(Xc e.n)<=10:=Vh ⋯ ∅<|by lia
  unfold En.nm;rw[yo,yo,h];have:`dot=1:=rfl;lia
 .unfold En.nm;rw[h];let:=N6 (N6 (N6 (Ri t)<|N5 _)<|by lk)<|N5 _
def wU.nm(g:wU S){e:En}(b:e∈S):Ok 1000 e.nm:=by let#[t,_,_,h]:=g.th e b;let:=cw h (g.good.ent e b).num
def wU.snoc(g:wU S)(c:t.Good)(l:`S<2000)(h:∀e∈S,e.d≠t.dat):wU<|S++[FW S t]:=by
 let f:=O3 g.num<|Xf t;let:=#[g.good.snoc #[FQ c,j7 t,?_,kO t] (λz=>?_) (Tn g.good<|j7 t) l,λe b=>?_,λe b=>?_];.show(wY S _).getD 0<1000000;lia
 .let#[e,b,hd]:=ZH.mp z;let:=h e b hd
 .rcases ZY.mp b with z|z;.let:=g.th e z
  .rw[ZC.mp z];let:=#[t,Ej,c,Ej]
 .rw[ZS,JH];rcases ZY.mp b with z|z;.have:=g.num e z;lia
  .rw[ZC.mp z];show(wY S _).getD 0<_;lia
def Hu(g:wU S)(c:t.Good)(l:`S<2000):wU (CV S t).1/\At (CV S t).1 (CV S t).2 t/\(CV S t).1.length<=`S+1/\∃T,(CV S t).1=S++T/\∀e∈T,e.nm=(CV S t).2:=by
 by_cases z:∃x,At S x t;.let#[x,h]:=z;rw[II g h];simp_all
 .let h:=λe b hd=>z #[_,e,b,Ej,hd];rw[M3 h];let:=#[g.snoc c l h,#[_,Yb _<|ZC.mpr rfl,Ej,Ej],by simp,_,Ej,λe b=>by rw[ZC.mp b]]
end
noncomputable def met:Nat->Dh->Str->By|0,_,_=>[]|d+1,S,x=>x::match bO S x with|some<|.tree Do=>Do.flatMap λr=>met d S r.2|_=>[]
def vI{ls:By}{d:Nat}(g:wU S)(h:At S x<|.leaf ls):met (d+1) S x=[x]:=by show x::(match bO S x with|some<|.tree _=>_|_=>_)=_;rw[HE g h]
def uD{b:Df}{d:Nat}(g:wU S)(h:At S x<|.tree b):met (d+1) S x=x::b.flatMap λr=>met d S r.2:=by show x::(match bO S x with|some<|.tree _=>_|_=>_)=_;rw[HE g h]
def Tg{d:Nat}:x∈met (d+1) S x:=ZD ..
def Tree.pQ{S T:Dh}(g:wU<|S++T)(b:wU S):∀{d:Nat}{x:Str},Tree d S x->met d (S++T) x=met d S x
 |0,_,h=>rfl|d+1,x,h=>by
  rcases h with⟨ls,h⟩|⟨Do,h,so,hr⟩;.rw[vI g h.more,vI b h]
  .rw[uD g h.more,uD b h,List.flatMap_def];congr 2;let:=Yp λr m=>Tree.pQ g b (hr r m).2.1
def eU(a b:Str×Str):(Bool):=!decide (cs b.1<cs a.1)
def Xi(b:Df):(Df):=b.mergeSort eU
def tE:eU a b=Eg↔cs a.1<=cs b.1:=by unfold eU;rw[Ua,Vm];rfl
def Ng(e:Df):(Xi e).Pairwise λa b=>eU a b=Eg:=List.pairwise_mergeSort (le:=eU) (λa b c h1 h2=>tE.mpr<|List.le_trans (tE.mp h1)<|tE.mp h2) (λa b=>by rw[Ux,tE,tE];let:=List.le_total ..) _
def xN(b:Df):(Xi b).Perm b:=List.mergeSort_perm _ eU
def Nf{c:Df}(nd:(c.map (·.1)).Nodup):((Xi c).map (·.1)).Pairwise Fc:=by
 let e:=((xN _).map _).nodup_iff.mpr nd;let h1:((Xi _).map _).Pairwise λa b=>cs a<=cs b:=YR.mpr<|(Ng c).imp λ{a b}h=>tE.mp h;let:=(h1.and<|Ya.mp e).imp λ{a b}h=>by
  by_cases z:cs a<cs b;.let:=z
  .let:=absurd (wR<|List.le_antisymm h.1<|US.mp z) h.2
def Wb{c ss:Df}(nd:(c.map (·.1)).Nodup)(p:ss.Perm c)(so:ss.Pairwise<|λa b=>cs a.1<=cs b.1):ss=Xi c:=by
 let:=Ve (λa b ha hb h1 h2=>?_) so ((Ng _).imp λ{a b}h=>tE.mp h)<|p.trans (xN _).symm;let e:=wR<|List.le_antisymm h1 h2;let ha:=p.mem_iff.mp ha;let hb:=(xN _).mem_iff.mp hb;let#[i,f,rfl]:=Ym.mp ha;let#[j,g,rfl]:=Ym.mp hb;have:=(JJ (h₀:=by simpa using f) (h₁:=by simpa using g) nd).mp<|by simp_all
 simp_all
def qQ{α c:Type}{f:α->c}{l:List α}(h:(l.map f).Nodup):l.Nodup:=by rw[Ya]at h ⊢;rw[YR]at h;let:=h.imp λ{a b}n e=>n<|by rw[e]
def wM(ls:By):(Prop):=`ls<=63/\∀l∈ls,U4 l=Eg
structure yw(d:Nat)(fs:Dj):Prop where
 wg:∀f∈fs,f.1≠[]/\f.1.length<=d/\(∀l∈f.1,zV l=Eg)/\wM f.2
 nd:(fs.map (·.1)).Nodup
 pre:∀f∈fs,∀k∈fs,∀t,k.1=f.1++t->t=[]
def CS(fs:Dj):(List<|Str×By):=fs.filterMap λf=>match f.1 with|[a]=>A0 (a,f.2)|_=>Ee
def XQ(l:Str)(f:Fi):(Option Fi):=match f.1 with|a::b::r=>if a=l then A0 (b::r,f.2)else Ee|_=>Ee
def sub(fs:Dj)(l:Str):(Dj):=fs.filterMap<|XQ l
def qK(L:By)(p:Str):(By):=if p∈L then L else L++[p]
def CU(fs:Dj):(By):=fs.foldl (λL f=>match f.1 with|a::_::_=>qK L a|_=>L) []
def N1{q:Str}:q∈qK L p↔q∈L\/q=p:=by unfold qK;split<;>simp_all
def PH{L:By}(h:L.Nodup):(qK L p).Nodup:=by
 unfold qK;split;.let:=h
 .rename_i z;let:=jN h z
def jZ(fs:Dj)(f:Fi):CU (fs++[f])=match f.1 with|a::_::_=>qK (CU fs) a|_=>CU fs:=by unfold CU;rw[Ue];rfl
def xH(fs:Dj):(CU fs).Nodup/\∀l,l∈CU fs↔∃f∈fs,∃b r,f.1=l::b::r:=by induction fs using snoc_ind with|h0=>let:=#[YM,λl=>#[λh=>(nomatch h),λ⟨f,c,_⟩=>nomatch c]]|h1 fs f ih=>
  rw[jZ];let old:∀l,(∃k∈fs++[f],∃b r,k.1=l::b::r)↔(∃k∈fs,∃b r,k.1=l::b::r)\/∃b r,f.1=l::b::r:=λl=>by simp
  match e:f.1 with|[]=>simp_all|[a]=>let:=#[ih.1,λl=>by rw[old,ih.2,e];simp]|a::b::r=>let:=#[PH ih.1,λl=>?_];rw[N1,ih.2,old,e];let:=or_congr Iff.rfl #[λz=>#[b,r,by rw[z]],λ⟨_,_,z⟩=>(List.cons.inj z).1.symm]
def vg{k:Fi}:k∈sub fs l↔k.1≠[]/\(l::k.1,k.2)∈fs:=by
 unfold sub;rw[JX];constructor
 .rintro⟨f,c,e⟩;unfold XQ at e;split at e
  .rename_i a b r q;split at e;.rename_i z;subst z;cases e;let:=#[Y0 _ _,?_];have:f=(a::b::r,f.2):=Mf q rfl;rwa[<-this]
   .cases e
  .cases e
 .rintro⟨g,c⟩;let:=#[_,c,?_];cases q:k.1 with|nil=>trivial|cons b r=>show(if l=l then A0 _ else Ee)=A0 k;rw[Z4 rfl];congr 1;let:=Mf q.symm rfl
def uy{a:Str}{ls:By}:(a,ls)∈CS fs↔([a],ls)∈fs:=by
 unfold CS;rw[JX];constructor
 .rintro⟨f,c,e⟩;split at e;.rename_i b q;cases e;have:f=([a],f.2):=Mf q rfl;rwa[<-this]
  .cases e
 .intro h;let:=#[_,h,Ej]
def yw.sub{d:Nat}(h:yw (d+1) fs)(l:Str):yw d<|sub fs l:=by
 let:=#[λk hk=>?_,?_,λk hk m hm t e=>?_];.let#[i,c]:=vg.mp hk;let#[_,h2,h3,h4]:=h.wg _ c;simp_all
 .have:((An.sub fs l).map λk=>l::k.1).Sublist (fs.map (·.1)):=by
   have:∀fs:Dj,((fs.filterMap<|XQ l).map λk=>l::k.1).Sublist (fs.map (·.1)):=by intro fs;induction fs with|nil=>let:=List.Sublist.slnil|cons f fs ih=>rw[Jj];cases q:XQ l f with|none=>let:=ih.cons _|some k=>
      show((l::k.1)::_).Sublist _;let e:l::k.1=f.1:=by
       unfold XQ at q;split at q
       .rename_i a b r e;split at q;.rename_i z;cases q<;>simp_all
        .cases q
       .cases q
      simp_all
   let:=this fs
  have:=this.nodup h.nd;let e:((An.sub fs l).map λk=>l::k.1)=((An.sub fs l).map (·.1)).map (List.cons l):=by rw[ZV];rfl
  rw[e]at this;let:=qQ this
 .let#[_,c]:=vg.mp hk;let#[_,g]:=vg.mp hm;let:=h.pre _ c _ g t<|by rw[e];rfl
noncomputable def CM(a:List En×Df)(f:Str×By):List En×Df:=((CV a.1<|.leaf f.2).1,a.2++[(f.1,(CV a.1<|.leaf f.2).2)])
noncomputable def U2:Nat->Dh->Dj->List En×Str
 |0,S,_=>(S,"")|d+1,S,fs=>let b:=(CU fs).foldl (λa l=>((U2 d a.1<|sub fs l).1,a.2++[(l,(U2 d a.1<|sub fs l).2)]))<|(CS fs).foldl CM (S,[])
  CV b.1<|.tree<|Xi b.2
structure Fo(d:Nat)(S0 S:Dh)(Do:Df)(ps:List<|Str×Dj):Prop where
 ok:wU S
 new:∃T,S=S0++T/\∀e∈T,∃r∈Do,e.nm∈met d S r.2
 wg:Do.map (·.1)=ps.map (·.1)rd:∀(i:Nat)(r:Str×Str)(p:Str×Dj),Do[i]?=A0 r->ps[i]?=A0 p->Tree d S r.2/\∀f,f∈zp d S r.2↔f∈p.2
def Fo.nil(g:wU S):Fo d S S [] []:=#[g,#[[],(Yi _).symm,λe b=>nomatch b],Ej,λi r p h=>nomatch h]
def Fo.len{ps:List<|Str×Dj}(h:Fo d S0 S Do ps):`Do=`ps:=by have:=congrArg List.length h.wg;simp_all
def Fo.step{ps:List<|Str×Dj}{T:Dh}(h:Fo d S0 S Do ps){l n:Str}{g:Dj}(ok:wU<|S++T)(new:∀e∈T,e.nm∈met d (S++T) n)(tr:Tree d (S++T) n)(rd:∀f,f∈zp d (S++T) n↔f∈g):Fo d S0 (S++T) (Do++[(l,n)])<|ps++[(l,g)]:=by
 let#[s,x,u]:=h.new;let:=#[ok,#[s++T,by simp_all,λe v=>?_],by rw[ZM,ZM,h.wg];rfl,λi r p b c=>?_]
 .rcases ZY.mp v with z|z;.let#[r,j,m]:=u e z;let#[i,b]:=Jm.mp j;let hl:=(ZW.mp b).1;let#[t,_]:=h.rd i r _ b<|ZO<|h.len▸hl;let:=#[r,YB _ j,t.pQ ok h.ok▸m]
  .let:=#[_,Yb _<|ZC.mpr rfl,new e z]
 .by_cases z:i<`Do;.rw[Yr z]at b;rw[Yr<|h.len▸z]at c;let#[t,k]:=h.rd i r p b c;let#[w,k2]:=t.more ok h.ok;let:=#[w,k2▸k]
  .rw[Yy<|⋯]at b;rw[Yy<|by rw[<-h.len];lia]at c;let o:i-`Do=0:=by
    rcases J1 _ with q|q;.let:=q
    .rw[VM.mpr<|by show 1<=_;lia]at b;cases b
   rw[o]at b;rw[<-h.len,o]at c;cases b;cases c;let:=#[tr,rd]
def uq:∀rs:Df,↑(yB rs)=2*`rs|[]=>rfl|r::rs=>by show(yB rs).length+1+1=2*(`rs+1);rw[uq rs];lia
def KN:∀{rs:Df}{p:Str},p∈yB rs->∃r∈rs,p=r.1\/p=r.2
 |r::rs,p,h=>by
  rcases ZJ.mp h with q|h;.let:=#[r,ZD ..,.inl q]
  .rcases ZJ.mp h with q|h;.let:=#[r,ZD ..,.inr q]
   .let#[s,b,q]:=KN h;let:=#[s,ZB _ b,q]
structure nj(d:Nat)(S:Dh)(fs:Dj)(q:List En×Str):Prop where
 ok:wU q.1
 new:∃T,q.1=S++T/\∀e∈T,e.nm∈met d q.1 q.2
 tree:Tree d q.1 q.2
 rd:∀f,f∈zp d q.1 q.2↔f∈fs
 node:∃Do,At q.1 q.2<|.tree Do
def kZ(h:zV x=Eg):Ok 1000 x:=by unfold zV at h;rw[ZQ,ZQ,YF,YF]at h;let:=#[⋯,?_];rw[yT];intro c b;have:=Yc.mp h.2 c b;unfold Xt at this;lia
def bg(g:wU S){b:Df}(hl:`b<=63)(h:∀r∈b,zV r.1=Eg/\r.2∈S.map En.nm):(Th.tree b).Good:=by
 let:=#[by show(yB _).length<=1000;rw[uq];lia,λp i=>?_];let#[r,j,q]:=KN i;let#[h1,h2]:=h r j;rcases q with q|q;.rw[q];let:=kZ h1
 .let#[e,f,c]:=ZH.mp h2;rw[q,<-c];let:=g.nm f
def Fo.put{ps:List<|Str×Dj}(h:Fo d S0 S Do ps)(hl:`Do<=63)(nd:(ps.map (·.1)).Nodup)(lb:∀p∈ps,zV p.1=Eg/\p.2≠[])(ls:`S<2000):nj (d+1) S0 (ps.flatMap λp=>p.2.map λf=>(p.1::f.1,f.2)) (CV S<|.tree<|Xi Do)/\(CV S<|.tree<|Xi Do).1.length<=`S+1:=by
 let at_:∀r∈Do,∃p∈ps,r.1=p.1/\Tree d S r.2/\∀f,f∈zp d S r.2↔f∈p.2:=λr b=>by let#[i,q]:=Jm.mp b;let hl:=(ZW.mp q).1;let c:=ZO<|h.len▸hl;let e:=congrArg (λl=>l[i]?) h.wg;simp only[ZN,q,c,J6]at e;let:=#[_,Y8 _,dI e,h.rd i r _ q c]
 let F:∀p∈ps,∃r∈Do,r.1=p.1/\Tree d S r.2/\∀f,f∈zp d S r.2↔f∈p.2:=λp w=>by let#[i,c]:=Jm.mp w;let hl:=(ZW.mp c).1;let q:=ZO<|h.len▸hl;let e:=congrArg (λl=>l[i]?) h.wg;simp only[ZN,q,c,J6]at e;let:=#[_,Y8 _,dI e,h.rd i _ p q c]
 let s:∀{r},r∈Xi Do↔r∈Do:=(xN Do).mem_iff;let A:=bg h.ok ((xN Do).length_eq▸hl) λr b=>by let#[p,c,e,t,_]:=at_ r<|s.mp b;let:=#[e▸(lb p c).1,t.mem]
 let#[ok,g,l1,T,n,D]:=Hu h.ok A ls;let:=#[?_,l1];let ne:∀r∈Do,zp d S r.2≠[]:=λr b=>by let#[p,c,e,t,k]:=at_ r b;intro z;let:=(lb p c).2<|Vn.mpr λf o=>?_;rw[<-k,z]at o;cases o
 rw[n]at ok g;let u:∀r∈Do,Tree d (S++T) r.2/\zp d (S++T) r.2=zp d S r.2:=λr b=>by let#[p,c,e,t,k]:=at_ r b;let:=t.more ok h.ok
 let#[x,y,B]:=h.new;let:=#[n▸ok,#[x++T,by rw[n,y,Y1],λe E=>?_],?_,λf=>?_,#[_,n▸g]]
 .rw[n,uD ok g];rcases ZY.mp E with z|z;.let#[r,b,m]:=B e z;let#[p,c,_,t,_]:=at_ r b;let:=ZB _<|YZ.mpr #[r,s.mpr b,t.pQ ok h.ok▸m]
  .rw[D e z];let:=ZD ..
 .rw[n];let:=.inr #[_,g,Nf<|h.wg▸nd,λr b=>?_];let b:=s.mp b;let#[p,c,e,t,_]:=at_ r b;let:=#[e▸(lb p c).1,(u r b).1,(u r b).2▸ne r b]
 .rw[n,yO ok g,YZ,YZ];constructor;.rintro⟨r,b,o⟩;let b:=s.mp b;let#[p,c,e,t,k]:=at_ r b;let#[v,j,rfl]:=ZH.mp o;rw[(u r b).2,k]at j;let:=#[p,c,ZH.mpr #[v,j,by rw[e]]]
  .rintro⟨p,c,o⟩;let#[r,b,e,t,k]:=F p c;let#[v,j,rfl]:=ZH.mp o;let:=#[r,s.mpr b,ZH.mpr #[v,by rw[(u r b).2,k];let:=j,by rw[e]]]
def wt(fs:Dj):(Nat):=(fs.map λf=>f.1.length).sum
def OC(a b:Dj):wt (a++b)=wt a+wt b:=by unfold wt;simp
def GH(h:U4 x=Eg):Ok 1000 x:=by unfold U4 at h;rw[ZQ,YF]at h;let:=#[⋯,?_];rw[yT];intro c b;have:=Yc.mp h.2 c b;unfold Xb at this;lia
def OY(h:wM ls):(Th.leaf ls).Good:=#[by show`ls<=1000;have:=h.1;lia,λp b=>GH<|h.2 p b]
def IG{d:Nat}:∀(vs:List<|Str×By){S:Dh}{Do:Df}{ps:List<|Str×Dj},Fo (d+1) S0 S Do ps->(∀v∈vs,wM v.2)->`S+`vs<=2000->Fo (d+1) S0 (vs.foldl CM (S,Do)).1 (vs.foldl CM (S,Do)).2 (ps++vs.map λv=>(v.1,[([],v.2)]))/\(vs.foldl CM (S,Do)).1.length<=`S+`vs
 |[],S,Do,ps,h,_,_=>by simp_all|v::vs,S,Do,ps,h,hv,hl=>by
  let hl:`S+(`vs+1)<=2000:=hl;let#[ok,b,l1,T,c,i]:=Hu h.ok (OY<|hv v<|ZD ..) ⋯;show Fo (d+1) S0 ../\(vs.foldl CM _).1.length<=`S+(`vs+1);let e:CM (S,Do) v=((CV S _).1,Do++[(v.1,(CV S _).2)]):=rfl;rw[e,Z9,show ps++(v.1,[([],v.2)])::vs.map _=ps++[(v.1,[([],v.2)])]++vs.map λv=>(v.1,[([],v.2)])by simp];let st:Fo (d+1) S0 (CV S<|.leaf v.2).1 (Do++[(v.1,(CV S<|.leaf v.2).2)])<|ps++[(v.1,[([],v.2)])]:=by rw[c]at ok b ⊢;let:=h.step ok (λe j=>i e j▸Tg) (.inl #[_,b]) λf=>by rw[yW ok b]
  let#[g,n]:=IG vs st (λw l=>hv w<|ZB _ l) ⋯;let:=#[g,⋯]
noncomputable def CQ(d:Nat)(fs:Dj)(a:List En×Df)(l:Str):List En×Df:=((U2 d a.1<|sub fs l).1,a.2++[(l,(U2 d a.1<|sub fs l).2)])
def Pf(d:Nat)(S:Dh)(fs:Dj):U2 (d+1) S fs=CV ((CU fs).foldl (CQ d fs)<|(CS fs).foldl CM (S,[])).1 (.tree<|Xi ((CU fs).foldl (CQ d fs)<|(CS fs).foldl CM (S,[])).2):=rfl
def NK{b:Dh}:∀(ls:By)(H:∀l∈ls,∀S,wU S->`S+1+wt (sub fs l)<=2000->nj e S (sub fs l) (U2 d S<|sub fs l)/\(U2 d S<|sub fs l).1.length<=`S+1+wt (sub fs l)){S:Dh}{Do:Df}{ps:List<|Str×Dj},Fo e b S Do ps->`S+(ls.map λl=>1+wt (sub fs l)).sum<=2000->Fo e b (ls.foldl (CQ d fs) (S,Do)).1 (ls.foldl (CQ d fs) (S,Do)).2 (ps++ls.map λl=>(l,sub fs l))/\(ls.foldl (CQ d fs) (S,Do)).1.length<=`S+(ls.map λl=>1+wt (sub fs l)).sum
 |[],_,S,Do,ps,h,_=>#[by simp_all,ZG _]|l::ls,H,S,Do,ps,h,hl=>by
  rw[Z9,Vd]at hl;let#[j]:=H l (ZD ..) S h.ok ⋯;rw[VY,Z9,Z9,Vd];let f:CQ d fs (S,Do) l=((U2 d S _).1,Do++[(l,(U2 d S _).2)]):=rfl;rw[f,show ps++(l,sub fs l)::ls.map _=ps++[(l,sub fs l)]++ls.map λl=>(l,sub fs l)by simp];let#[ok,#[T,g,c],tr,rd]:=j;let st:Fo e b (U2 d S<|sub fs l).1 (Do++[(l,(U2 d S<|sub fs l).2)])<|ps++[(l,sub fs l)]:=by rw[g]at ok c tr rd ⊢;let:=h.step ok c tr rd
  let#[n]:=NK ls (λw i=>H w<|ZB _ i) st ⋯;lia
def Nl{g g':Str->Nat}{a:Str}{c:Nat}(h:∀l,l≠a->g' l=g l)(ha:g' a<=g a+c):∀{L:By},L.Nodup->(L.map g').sum<=(L.map g).sum+c
 |[],_=>Yk _|l::L,nd=>by
  rw[YC]at nd;rw[Z9,Z9,Vd,Vd];by_cases z:l=a;.subst z;have:=Yp λm hm=>h m λq=>nd.1<|q▸hm;lia
  .have:=Nl h ha nd.2;grind
def sub_snoc(fs:Dj)(f:Fi)(l:Str):sub (fs++[f]) l=sub fs l++(XQ l f).toList:=by unfold sub;rw[Ui];congr 1
def Wi{f:Fi}(h:f.1=[]):XQ l f=Ee:=by unfold XQ;rw[h]
def Nj{f:Fi}{a:Str}(h:f.1=[a]):XQ l f=Ee:=by unfold XQ;rw[h]
def vG{f:Fi}{a b:Str}{r:By}(h:f.1=a::b::r):XQ l f=if a=l then A0 (b::r,f.2)else Ee:=by unfold XQ;rw[h]
def vO(fs:Dj)(f:Fi):CS (fs++[f])=CS fs++match f.1 with|[a]=>[(a,f.2)]|_=>[]:=by unfold CS;rw[Ui];rw[Jj];match f.1 with|[]=>rfl|[a]=>rfl|a::b::r=>rfl
def many(fs:Dj):↑(CS fs)+((CU fs).map λl=>1+wt (sub fs l)).sum<=wt fs:=by induction fs using snoc_ind with|h0=>let:=ZG _|h1 fs f ih=>
  let same:(∀l,XQ l f=Ee)->∀l,sub (fs++[f]) l=sub fs l:=λh l=>by simp_all[sub_snoc]
  rw[OC,vO,jZ,ZS];let n:wt [f]=f.1.length:=by unfold wt;simp
  rw[n];match e:f.1 with
  |[]=>have:=same λl=>Wi e;simp_all|[a]=>have:=same λl=>Nj e;rw[show(λl=>1+wt _)=λl=>1+wt (sub fs l)from funext λl=>by rw[this l]];show(CS fs).length+1+((CU fs).map λl=>1+wt (sub fs l)).sum<=wt fs+1;lia|a::b::r=>
   show(CS fs).length+0+((qK (CU fs) a).map λl=>1+wt _).sum<=wt fs+(`r+1+1);let g:∀l,l≠a->1+wt (sub (fs++[f]) l)=1+wt (sub fs l):=λl hl=>by rw[sub_snoc,vG e,ZX<|EG hl];simp
   let ha:1+wt (sub (fs++[f]) a)=1+wt (sub fs a)+(`r+1):=by rw[sub_snoc,vG e,Z4 rfl];rw[OC];show 1+(wt (sub fs a)+(↑(b::r)+0))=_;rw[Yj];lia
   let bump:=Nl g (Va ha) (xH fs).1;unfold qK;split;.lia
   .rename_i z;rw[ZM,List.sum_append];let j:=Vn.mpr λk hk=>by let#[h0,i]:=vg.mp hk;let:=z<|((xH fs).2 a).mpr #[_,i,?_];cases q:k.1 with|nil=>let:=absurd q h0|cons b r=>let:=#[b,r,Ej]
    let c:=Yp λl hl=>g l λq=>z<|q▸hl;rw[c];show(CS fs).length+0+(((CU fs).map λl=>1+wt (sub fs l)).sum+(1+wt _+0))<=_;rw[ha,j];show _+(_+(1+0+(`r+1)+0))<=_;lia
def pieces(fs:Dj):(List<|Str×Dj):=(CS fs).map (λv=>(v.1,[([],v.2)]))++(CU fs).map λl=>(l,sub fs l)
def Of(g:yw d fs)(f:Fi):f∈((pieces fs).flatMap λp=>p.2.map λk=>(p.1::k.1,k.2))↔f∈fs:=by
 rw[YZ];constructor
 .rintro⟨p,j,c⟩;let#[k,hk,rfl]:=ZH.mp c;rcases ZY.mp j with z|z;.let#[v,hv,rfl]:=ZH.mp z;rw[ZC.mp hk];let:=uy.mp hv
  .let#[l,hl,rfl]:=ZH.mp z;let:=(vg.mp hk).2
 .intro c;let#[n,_]:=g.wg f c;match e:f.1 with|[]=>trivial|[a]=>let i:f=([a],f.2):=Mf e rfl;let:=#[_,YB _<|ZH.mpr #[_,uy.mpr<|i▸c,Ej],ZH.mpr #[_,ZC.mpr rfl,i.symm]]|a::b::r=>let i:f=(a::b::r,f.2):=Mf e rfl;let:=#[_,Yb _<|ZH.mpr #[a,((xH fs).2 a).mpr #[f,c,b,r,e],Ej],ZH.mpr #[(b::r,f.2),vg.mpr #[Y0 _ _,i▸c],i.symm]]
def Tc{fs:Dj}(nd:(fs.map (·.1)).Nodup):((CS fs).map (·.1)).Nodup:=by
 have:((CS fs).map λv=>[v.1]).Sublist (fs.map (·.1)):=by unfold CS;induction fs with|nil=>let:=List.Sublist.slnil|cons f fs ih=>rw[Z9,YC]at nd;rw[Jj,Z9];match e:f.1 with|[]=>let:=(ih nd.2).cons _|[a]=>let:=(ih nd.2).cons₂ _|a::b::r=>let:=(ih nd.2).cons _
 have:=this.nodup nd;let e:((CS fs).map λv=>[v.1])=((CS fs).map (·.1)).map λa=>[a]:=by rw[ZV];rfl
 rw[e]at this;let:=qQ this
def XZ(g:yw d fs):((pieces fs).map (·.1)).Nodup:=by unfold pieces;rw[ZM,ZV,ZV,YS];let:=#[Tc g.nd,by rw[show((λp=>p.1)∘λl=>(l,sub fs l))=id from rfl,Uw];let:=(xH fs).1,λa ha b hb z=>?_];subst z;let#[v,hv,e]:=ZH.mp ha;let#[l,hl,rfl]:=ZH.mp hb;let e:v.1=l:=e;let#[f,i,b,r,c]:=((xH fs).2 l).mp hl;let hv:=uy.mp hv;have:=g.pre _ hv f i _ (by rw[c,e];rfl);cases this
def BG(g:yw d fs):∀p∈pieces fs,zV p.1=Eg/\p.2≠[]:=λp i=>by
 rcases ZY.mp i with z|z;.let#[v,hv,rfl]:=ZH.mp z;let:=#[(g.wg _<|uy.mp hv).2.2.1 _<|ZC.mpr rfl,Y0 _ _]
 .let#[l,hl,rfl]:=ZH.mp z;let#[f,e,b,r,c]:=((xH fs).2 l).mp hl;let:=#[(g.wg f e).2.2.1 _<|c▸ZD ..,List.ne_nil_of_mem (a:=(b::r,f.2))<|vg.mpr #[Y0 _ _,?_]];have:f=(l::b::r,f.2):=Mf c rfl;let:=this▸e
def sub_len:↑(sub fs l)<=`fs:=List.length_filterMap_le ..
def qU(fs:Dj):↑(CS fs)+↑(CU fs)<=`fs:=by induction fs using snoc_ind with|h0=>let:=ZG _|h1 fs f ih=>rw[vO,jZ,ZS,ZS];match e:f.1 with
  |[]=>show(CS fs).length+0+↑(CU fs)<=`fs+1;lia|[a]=>show(CS fs).length+1+↑(CU fs)<=`fs+1;lia|a::b::r=>
   show _+0+↑(qK _ a)<=_+1;unfold qK;split;.lia
   grind
def M0{d e:Nat}(ok:wU S)(g:yw n fs)(hl:`fs<=63)(hs:`S+1+wt fs<=2000)(H:∀l∈CU fs,∀S,wU S->`S+1+wt (sub fs l)<=2000->nj (e+1) S (sub fs l) (U2 d S<|sub fs l)/\(U2 d S<|sub fs l).1.length<=`S+1+wt (sub fs l)):nj (e+2) S fs (U2 (d+1) S fs)/\(U2 (d+1) S fs).1.length<=`S+1+wt fs:=by
 let hm:=many fs;let s:=qU fs;let#[o]:=IG _ (Fo.nil ok) (λv hv=>(g.wg _<|uy.mp hv).2.2.2) ⋯;let b:=NK _ H o ⋯;let#[c,p]:=b;rw[Pf];rw[VX]at c;let j:pieces fs=(CS fs).map _++(CU fs).map λl=>(l,sub fs l):=rfl;rw[<-j]at c;let c:=c;generalize(CU fs).foldl ..=q at c p ⊢;let r:q.2.length<=63:=by rw[c.len,j,ZS,ZA,ZA];lia
 let#[i]:=c.put r (XZ g) (BG g) ⋯;let:=#[#[i.ok,i.new,i.tree,λf=>by rw[i.rd,Of g],i.node],⋯]
def IK:∀(d:Nat){S:Dh}{fs:Dj},wU S->yw (d+1) fs->`fs<=63->`S+1+wt fs<=2000->nj (d+2) S fs (U2 (d+1) S fs)/\(U2 (d+1) S fs).1.length<=`S+1+wt fs|0,S,fs,ok,g,hl,hs=>M0 ok g hl hs λl hl=>by let#[f,i,b,r,n]:=((xH fs).2 l).mp hl;have:=(g.wg f i).2.1;simp_all|d+1,S,fs,ok,g,hl,hs=>M0 ok g hl hs λl _ j e c=>IK d e (g.sub l) (Yz sub_len hl) c
end An
variable{S:An.Dh}{gs:An.Dj}
namespace AxS
open PySem PySem.Spec PyProof.Rows
def Iw(t:Lc)(n:Nat):(t.orStandIn n).led=t.led/\(t.plain=Ei->(t.orStandIn n).plain=Ei):=by
 unfold SetTable.orStandIn;split;.let:=#[Ej,id]
 .let:=#[Ej,λ_=>rfl]
def F8(t:Lc)(b:Array<|Int×Es)(h:Int)(x:Es):(layNew t b h x).2.1.led=t.led/\(t.plain=Ei->(layNew t b h x).2.1.plain=Ei):=by
 unfold layNew;split;.rename_i slot c _;let m:=Iw (t.put slot).1 (SetTable.insertAt b (t.put slot).2 (h,x)).size;let:=#[m.1,m.2]
 .let:=#[Ej,λ_=>rfl]
def NU{b c:Nat}{led plain:Bool}{hs:Array Int}{t:Lc}{o:Array Nat}(h:SetTable.laid mask b c led plain hs=A0 (t,o)):t.led=led/\t.plain=plain:=by unfold SetTable.laid at h;simp only[Option.bind_eq_bind,JR,Option.pure_def,Option.some.injEq,Prod.mk.injEq]at h;let#[_,_,h,_]:=h;rw[<-h];trivial
def Gi(t:Lc)(c:Array<|Int×Es)(n:Nat):(relayAll t c n).2.1.led=t.led/\(t.plain=Ei->(relayAll t c n).2.1.plain=Ei):=by
 unfold relayAll;split
 .rename_i f b e;let m:=NU e;dsimp only;split;.let:=#[m.1,m.2.trans]
  .let:=#[Ej,λ_=>rfl]
 .let:=#[Ej,λ_=>rfl]
def keyOf(e:Int×Es):(Str):=match e.2 with|.str k _=>k|_=>""
def RQ(prog:Et)(w:Ey)(b:Array<|Int×Es)(t:Lc)(c:By):(Prop):=MX (strKind prog w) b.toList/\(b.toList.map keyOf).Perm c/\b.size<Ml/\t.fits b.size=Eg/\t.led=!w.params.followText "set-order"/\(b.size≠0->t.plain=Ei)
def yg(prog:Et)(w:Ey)(h:EH)(a:Er)(e:By):(Prop):=∃o b c t,h.get? a=A0 o/\o.ExactSet/\o.data=.set b c t/\RQ prog w b t e
def yg.at{b:EH}(x:yg prog w h a ks)(e:∀o,h.get? a=A0 o->b.get? a=A0 o):yg prog w b a ks:=by let#[o,f,c,t,g,r]:=x;let:=#[o,f,c,t,e _ g,r]
def key_is{c:Array<|Int×Es}(h:MX (strKind prog w) c.toList){e:Int×Es}(i:e∈c.toList)(k:Str):(strKind prog w).is k e.2=Eg↔keyOf e=k:=by
 let#[#[f,b,_]]:=h e i;let#[t,g]:=Ja b;let ek:keyOf e=f:=by unfold keyOf;rw[g]
 constructor;.intro z;rw[ek];let:=(strKind _ w).inj e.2 f k b z
 .intro z;rwa[<-z,ek]
def KO{c:Array<|Int×Es}{f:By}(h:MX (strKind prog w) c.toList)(p:(c.toList.map keyOf).Perm f)(k:Str):k∈f↔∃e∈c.toList,(strKind prog w).is k e.2=Eg:=by rw[<-p.mem_iff,ZH];let:=#[λ⟨e,b,z⟩=>#[e,b,(key_is h b k).mpr z],λ⟨e,b,z⟩=>#[e,b,(key_is h b k).mp z]]
def X5{b:Array<|Int×Es}{t:Lc}{c:By}(x:RQ prog w b t c):b.size=`c:=by rw[<-x.2.1.length_eq,ZA,Ye]
def Oy{k:Str}{F:Tok}{Q:Bool->Dg}(hS:yg prog w s.heap a ks)(al:`ks+1<Ml)(h:∀h' r,EW a s.heap h'->yg prog w h' a (if k∈ks then ks else ks++[k])->Q r {s with heap:=h'}):EA (EC prog w) A (setAddHashed a (.str k F)<|hashStr w k) Q E s:=by
 let#[o,B,ep,t,S,G,hd,X]:=hS;let Dq:=X5 X;let#[l,Z,hb,hf,p,ah]:=X;let DW:(strKind prog w).is k (.str k F)=Eg:=by show Lk k (.str k F)=Eg;simp[Lk]
 let K:(Value.str k F).scannable=Eg:=rfl;let hh:hashStr w k=(strKind prog w).hash k:=rfl;rw[hh];let:=Ys<|Zz<|Yu S hd hf ?_;dsimp only;rw[byScan_of K hb l];let:=Zz<|Zz<|JK<|Zz<|wpAny_setScan_of DW S hd hf l ?_;cases hr:List.findIdx? (λe=>(strKind prog w).is k e.2) B.toList with|some j=>let#[hj,af,_]:=List.findIdx?_eq_some_iff_getElem.mp hr;let hk:k∈ks:=(KO l Z k).mpr #[B.toList[j],Y8 hj,af];have:=h s.heap Ei (Heap.SameBut.refl a s.heap)<|Z4 hk▸#[o,B,ep,t,S,G,hd,l,Z,hb,hf,p,ah];let:=ZF<|ZF this|none=>
  let hk:k∉ks:=λz=>by let#[e,he,q]:=(KO l Z k).mp z;have:=List.findIdx?_eq_none_iff.mp hr e he;rw[q]at this;cases this
  rw[ZX hk]at h;let P:∀(b:Bool){v:Eu}{Q':Unit->Dg},Q' () v->EA (EC prog w) A (match b with|true=>rule "set.scan.the-table-gave-way"|false=>Lm ()) Q' E v:=by
   intro b v Q' hq;cases b;.let:=ZF hq
   .let:=JK hq
  let f:=layNew_perm t B ((strKind prog w).hash k)<|.str k F;let g:=layNew_fits t B ((strKind prog w).hash k)<|.str k F;let y:=F8 t B ((strKind prog w).hash k)<|.str k F;dsimp only;generalize layNew t B ((strKind prog w).hash k) (.str k F)=L at f g y ⊢;let#[c,t1,wd,am]:=L;dsimp only at f g y ⊢;rw[Array.toList_push]at f;let ap:c.size=B.size+1:=by rw[<-Ye,f.length_eq,ZS,Ye];rfl
  let D:=(l.push DW K).perm f;let T:(c.toList.map keyOf).Perm<|ks++[k]:=by let:=(f.map keyOf).trans ?_;rw[ZM];let:=Z.append<|List.Perm.refl _
  let N:c.size<scanBound:=⋯;let:=Zz<|P _ ?_;let tail:∀(i:Lc),i.fits c.size=Eg->i.led=t.led->i.plain=Ei->EA (EC prog w) A (do
    storeSet a c i if(!wd&&i.tooFull)=Eg then do
      (match(relayAll i c<|LN c.size).2.2 with|true=>rule "set.scan.the-table-gave-way"|false=>Lm ())storeSet a (relayAll i c<|LN c.size).1 (relayAll i c<|LN c.size).2.1
      Lm<|A0 Eg else Lm<|A0 Eg) (λr s'=>r=A0 Eg/\Q Eg s') E s:=by
   intro i ab R U;let:=Zz<|VB S hd ?_<|Uf N;let Y:=ET s.heap a<|MJ c i;let J:=by have:=Yt (MJ c i) S (by rw[putSet_of c i hd];rfl);rw[putSet_of c i hd]at this;let:=this
   split
   .let u:=relayAll_perm i c<|LN c.size;let H:=relayAll_fits i c<|LN c.size;let x:=Gi i c<|LN c.size;generalize relayAll i c (LN c.size)=Rl at u H x ⊢;let#[n,t3,gv]:=Rl;dsimp only at u H x ⊢;let an:n.size=c.size:=by rw[<-Ye,u.length_eq,Ye]
    let:=Zz<|P _<|Zz<|VB J rfl ?_<|Uf<|⋯;let ac:=by have:=Yt (MJ n t3) J (by rw[putSet_of n t3 rfl];rfl);rw[putSet_of n t3 rfl]at this;let:=this
    let:=ZF #[Ej,h _ Eg (Y.trans<|ET _ a _) #[_,n,_,t3,ac,G,Ej,D.perm u,(u.map keyOf).trans T,⋯,H,x.1.trans<|R.trans p,λ_=>x.2 U]]
   .let:=ZF #[Ej,h _ Eg Y #[_,c,_,i,J,G,Ej,D,T,N,ab,R.trans p,λ_=>U]]
  split;.let:=Zz ?_;rw[hashByValue_scannable 8 K];let:=ZF<|YO (tail {t1 with plain:=Ei} (SetTable.fits_plain_off g) y.1 rfl) (λr s' q=>?_) λ_ _ z=>z;let#[rfl,q]:=q;let:=ZF q
  .rename_i ad;let:=Zz<|ZF<|YO (tail t1 g y.1<|by simpa using ad) (λr s' q=>?_) λ_ _ z=>z;let#[rfl,q]:=q;let:=ZF q
def step(b:By)(k:Str):(By):=if k∈b then b else b++[k]
def uniq(xs:By):(By):=xs.foldl step []
def Bw(xs:By)(k:Str):uniq (xs++[k])=step (uniq xs) k:=by unfold uniq;simp
def Ni(b:By)(k:Str):↑(step b k)<=`b+1:=by unfold step;split<;>simp
def nW:∀(n:Nat)(xs:By),`xs=n->↑(uniq xs)<=n
 |0,xs,h=>YI h▸ZG _|n+1,xs,h=>by
  let b:xs≠[]:=λz=>by simp_all
  rw[<-List.dropLast_concat_getLast b,Bw];have:=nW n xs.dropLast (by grind);have:=Ni (uniq xs.dropLast)<|xs.getLast b;lia
def RE{xs:By}{k:Str}(h:xs[i]?=A0 k):uniq (xs.take<|i+1)=if k∈uniq (xs.take i)then uniq<|xs.take i else uniq (xs.take i)++[k]:=by
 let e:xs.take (i+1)=xs.take i++[k]:=by rw[YE,h];rfl
 rw[e,Bw];rfl
section
variable{I:Er}{wr:Dc}{G:Array GenState->Array GenState->Prop}{P:Nat->Es->Prop}{St:Nat->Dg}
def bj(W:WalksS prog w A.in1 I fp wr G n P St)(S:Er)(l:S∉fp)(xs:By)(hn:`xs=n)(z:∀i v,P i v->∃k t,xs[i]?=A0 k/\v=.str k t)(hb:n+1<Ml):∀(m i:Nat)(s:Eu),n-i=m->i<=n->St i s->yg prog w s.heap S (uniq<|xs.take i)->(∀s',Moved (S::wr) G s s'->yg prog w s'.heap S (uniq xs)->R (.ok<|.ret .none) s')->LP (EC prog w) A (.builtin "set.update.loop" #[[.ref S,.ref I],[]]) R s:=by let p:S∉wr:=λh=>l<|W.sub _ h;let c:∀b∈wr,b∈S::wr:=λb hb=>ZB _ hb;intro m;induction m with|zero=>intro i s hk L f B D;let F:i=n:=⋯;subst F;let:=Jg VQ ?_;rw[Lp JU _];let:=Zz<|W.done s _ _ f λs' hm=>?_;rw[<-hn,Yg]at B;let:=ZF<|D s' (hm.mono c)<|B.at λo e=>hm.heap S _ p e|succ m ih=>
  intro i s hk L f B D;let q:i<n:=⋯;let:=Jg VQ ?_;rw[Lp JU _];let:=Zz<|W.item i s _ _ q f λv s' K y hm=>?_;let#[k,t,H,rfl]:=z i v K;let E:=B.at λo e=>hm.heap S _ p e;let:=Zz<|Ys<|Ys<|Zz<|(strKind prog w).pyHash (k:=k) (by show Lk k (.str k t)=Eg;simp[Lk]) ?_;let hl:=nW _ (xs.take i) rfl;rw[Z8]at hl;let:=Oy E ⋯ λN r x j=>?_;rw[<-RE H]at j;let:=ZF #[VU JU _,ih (i+1) _ ⋯ q (W.frame _ s' _ _ y (J8 _) λb hb o e=>?_) j λJ u g=>?_];.rwa[x.2 b λh:b=S=>l<|h▸hb]
  .let:=D J (Moved.trans W.gtrans ((hm.mono c).then_heap (J8 _) λb o hb e=>?_) u) g;rwa[x.2 b λh:b=S=>hb<|h▸ZD]
end
def zW(w:Ey):(Obj):={cls:=.type "set",dict:=Ee,data:=.set #v[] 0<|.fresh 0 0<|!w.params.followText "set-order"}
def Nt{h:EH}{a:Er}{xs:By}(e:h.get? a=A0 (zW w)):yg prog w h a<|uniq<|xs.take 0:=#[_,#v[],0,_,e,#[Ej,Ej,Ej],Ej,λ_ z=>by simp at z,List.Perm.refl _,∅,by rfl,Ej,absurd rfl]
def Pm(a:Es){Q₁:Es->Dg}(h:Q₁ (.ref ⇑s) {s with heap:=s.heap.push<|zW w}):LP (EC prog w) A (.call (.builtin "set.__new__") #[[.type "set",a],[]]) (wants Q₁ E) s:=by let:=codeAny_of_tree<|Zz<|Jc (F.newCall_set_1 a)<|ZF #[VU F.plain_set_new _,Jg F.entry_set_new ?_];unfold Builtin.«set.__new__» Builtin.Frozenset.newClass;let b:=sub_set_self;let#[c,g,d,e,os]:=s;dsimp only;wp_walk;let:=JL<|ZF ?_;dsimp only;simp only[newObj];let:=Zz<|wpAny_alloc<|ZF<|ZF h
def sub_list_set:My (.type "list") (.type "set")=Lm Ei:=by rw[Y5];rfl
def sub_list_frozenset:My (.type "list") (.type "frozenset")=Lm Ei:=by rw[Y5];rfl
def sub_tuple_set:My (.type "tuple") (.type "set")=Lm Ei:=by rw[Y5];rfl
def sub_tuple_frozenset:My (.type "tuple") (.type "frozenset")=Lm Ei:=by rw[Y5];kernel_rfl
section
variable{M:Model}
def HL{src:Source}{Q:Nat->Dg}(hn:n≠0)(h:∀i,i<n->Q i {s with drawn:=s.drawn.bump src}):EA M A (choose src n) Q E s:=λb p _=>#[hn,h _<|Nat.mod_lt _<|Nat.pos_of_ne_zero hn]
def GR{α:Type}{xs:List α}{x:α}(h:xs[i]?=A0 x):(x::xs.eraseIdx i).Perm xs:=by induction xs generalizing i with|nil=>cases h|cons y ys ih=>cases i with|zero=>simp_all|succ i=>let:=(List.Perm.swap y x _).trans<|List.Perm.cons y<|ih h
def jI{α:Type}:∀(n:Nat)(xs:List α)(s:Eu){Q:List α->Dg},`xs<=n->(∀ys d,ys.Perm xs->Q ys {s with drawn:=d})->EA M A (drawOrder n xs) Q E s|0,xs,s,Q,hl,h=>by let e:xs=[]:=YI ⋯;subst e;let:=ZF<|h [] _<|List.Perm.refl _|n+1,[],s,Q,hl,h=>ZF<|h [] s.drawn<|List.Perm.refl _|n+1,x::xs,s,Q,hl,h=>by let:=Zz<|HL (by simp) λi b=>?_;let c:=ZO b;let f:=GR c;rw[c];let:=Zz<|jI n _ _ (by rw[List.length_eraseIdx_of_lt b];simp_all) λys d g=>ZF<|h _ d<|(List.Perm.cons _ g).trans f
def Pa{α:Type}(next:Nat->Nat):∀(fuel k:Nat)(left:List α)(out:Array α),`left=fuel->(pickOrder.go next fuel k left out).toList.Perm (out.toList++left)|0,k,left,out,h=>by rw[YI h,Yi];rfl|fuel+1,k,left,out,h=>by unfold pickOrder.go;let b:next k%`left<`left:=Nat.mod_lt _ ⋯;let c:=ZO b;rw[c];let:=(Pa _ _ _ _ _<|by grind).trans ?_;rw[Array.toList_push,Y1];let:=List.Perm.append_left _<|GR c
def kX{α:Type}(next:Nat->Nat)(xs:Array α):(MU next xs).toList.Perm xs.toList:=by
 have:=Pa next xs.size 0 xs.toList #v[]<|by simp
 trivial
end
def byText(w:Ey):(Bool):=w.params.followText "set-order"
def Gx{a:Er}{o:Obj}{b:Array<|Int×Es}{c:Nat}{t:Lc}{Q:Bool->Dg}(f:s.heap.get? a=A0 o)(hd:o.data=.set b c t)(e:t.fits b.size=Eg)(h:Q (!byText w&&(!t.plain&&decide (b.size>1))) s):EA (EC prog w) A (setDrawn a) Q E s:=by let:=Zz<|Yu f hd e<|Zz<|Zz<|JL<|ZF<|ZF h
def uR:MV table "set.__iter__"=A0 Builtin.«frozenset.__iter__»:=UE (id':="frozenset.__iter__") (by kernel_rfl) (by first|rfl|lk|(unfold String.splitOn;simp+decide[MB])) (by lk)<|by kernel_rfl
def K2:Manifest.owners.lookup (String.ofList ['r','o','t','a','r','e','t','i','_','t','e','s'].reverse)=A0 Manifest.sig_set_iterator:=by kernel_rfl
def slot_next:Slot "set_iterator" "__next__" "set_iterator.__next__":=.of (owner:="set_iterator") (n:="__next__") (by rw[Vt];kernel_rfl) (by lk) (by lk) (by lk) (by first|let:=.inl<|by lk|let:=.inr<|by lk)<|by rw[Y5];kernel_rfl
def entry_next:MV table "set_iterator.__next__"=A0 Builtin.«set_iterator.__next__»:=entryFor_of_tree<|by rfl
def args_next(a:Es):argsOk "set_iterator.__next__" #[[a],[]]:=by unfold argsOk;rw[UU (n:=['_','_','t','x','e','n','_','_']) (by rfl) K2];kernel_rfl
def Iq:Slot "set_iterator" "__iter__" "set_iterator.__iter__":=.of (owner:="set_iterator") (n:="__iter__") (by rw[Vt];kernel_rfl) (by lk) (by lk) (by lk) (by first|let:=.inl<|by lk|let:=.inr<|by lk)<|by rw[Y5];kernel_rfl
def HU(a:Es):argsOk "set_iterator.__iter__" #[[a],[]]:=by unfold argsOk;rw[UU (n:=['_','_','r','e','t','i','_','_']) (by kernel_rfl) K2];rfl
def FX:MV table "set_iterator.__iter__"=A0 Builtin.«dict_keyiterator.__iter__»:=UE (id':="dict_keyiterator.__iter__") (by kernel_rfl) (by first|rfl|lk|(unfold String.splitOn;simp+decide[MB])) (by lk)<|by kernel_rfl
def OS(first:Es)(i:Int)(a:Er)(n b:Nat):(Obj):={cls:=.type "set_iterator",data:=.fields #v[first,La i,.ref a,La n,La b]}
def SG{a:Er}{o:Obj}{b:Array<|Int×Es}{g:Nat}{t:Lc}(c:s.heap.get? a=A0 o)(p:o.ExactSet)(hd:o.data=.set b g t)(f:t.fits b.size=Eg)(u:b.size<=1000)(h1:(!byText w&&(!t.plain&&decide (b.size>1)))=Ei->Q (.ref ⇑s) {s with heap:=s.heap.push<|OS (La 0) 0 a b.size g})(h2:(!byText w&&(!t.plain&&decide (b.size>1)))=Eg->∀(ps:List Nat)d tk,ps.Perm (EK b.size)->Q (.ref<|⇑s+1) {s with heap:=(s.heap.push {cls:=.type "tuple",data:=.seq (ps.map λi=>La (i:Nat)).toArray}).push<|OS (.ref ⇑s) 0 a b.size g,drawn:=d,toks:=tk}):EA (EC prog w) A (pyIter<|.ref a) Q E s:=by let l:s.TypeIs (.ref a) "set":=#[o,c,p.1];let:=UQ l PySem.F.slot_set_iter<|Yw PySem.F.slot_set_iter l uR (Zz<|Jc rfl<|Zz<|Zz<|Vi c hd f<|ZF<|Zz<|Gx c hd f ?_)<|PySem.F.args_set_iter_1 _;cases q:!byText w&&(!t.plain&&decide (b.size>1))with|false=>rw[ZX<|∅];let:=Zz<|ZF<|Zz<|wpAny_setEpoch_of c hd f ?_;simp only[newFields];let:=Zz<|YA<|ZF #[_,Ej,"set_iterator",_,#[_,ZL _ rfl,Ej],slot_next.lookup,h1 q]|true=>
  rw[Z4 rfl];let:=Zz<|jI b.size (EK b.size) s (YT▸ZG _) λps d n=>?_;let r:`ps=b.size:=by rw[n.length_eq,YT]
  let:=Zz<|YA ?_ ?_;.let j:(s.heap.push {cls:=.type "tuple",data:=.seq (ps.map λi=>La (i:Nat)).toArray}).get? a=A0 o:=ZE _ c;let:=Zz<|wpAny_setEpoch_of j hd f<|Zz<|YA ?_;let e:(s.heap.push {cls:=.type "tuple",data:=.seq (ps.map λi=>La (i:Nat)).toArray}).objs.size=⇑s+1:=JY _ _;let:=ZF #[_,Ej,"set_iterator",_,#[_,ZL _ rfl,Ej],slot_next.lookup,?_];have:=h2 q ps d s.toks n;rw[<-e]at this;let:=this
  .show(ps.map λi=>La (i:Nat)).toArray.size<=sizeLine;rw[Z7,ZA,r,Y2];lia
def qB{i:Int}{b:Er}(h:s.heap.get? b=A0 (OS f i a n ep)):s.TypeIs (.ref b) "set_iterator":=#[_,h,Ej]
def Ft{c a:Er}{o:Obj}{b:Array<|Int×Es}{e:Nat}{t:Lc}{Eh:Nat}{x:Es}{Q:Db->Dg}(hit:s.heap.get? c=A0 (OS (La slot) i a b.size e))(j:a≠c)(l:s.heap.get? a=A0 o)(hd:o.data=.set b e t)(g:t.fits b.size=Eg)(hn:∀(A:EL)(E:Es->Dg)(Q:Option (Es×Nat)->Dg),Q (A0 (x,Eh)) s->EA (EC prog w) A (setNext a slot i e) Q E s)(h:∀h',h'.get? c=A0 (OS (La Eh) (i+1) a b.size e)->EW c s.heap h'->Q (A0 x) {s with heap:=h'}):EA (EC prog w) A (L6<|.ref c) Q E s:=by
 unfold L6;let:=Zz<|Ju<|YJ (qB hit) slot_next<|Yw slot_next (qB hit) entry_next ?_<|args_next _;unfold Builtin.«set_iterator.__next__»;let:=Zz<|Jc (a:=(EO c,[])) rfl<|Zz<|UJ hit rfl ?_;show EA _ _ (setEntries a>>=_) _ _ s;let:=Zz<|Vi l hd g ?_;let f:(((b.size:Nat):Int)!=((b.size:Nat):Int))=Ei:=by simp
 rw[ZX<|by rw[f];decide];let:=Zz<|hn _ _ _<|Zz<|YW hit rfl (by simp) ?_;let h1:=Yt (Ln (·.setIfInBounds 0<|La (Eh:Nat))) hit rfl;let:=Zz<|YW h1 rfl (by simp) ?_;let h2:=Yt (Ln (·.setIfInBounds 1<|La<|(i:Int)+1)) h1 rfl;let:=ZF #[x,Ej,ZF<|h _ h2<|(ET ..).trans<|ET ..]
def uG{f a:Er}{o:Obj}{c:Array<|Int×Es}{e:Nat}{t:Lc}{Q:Db->Dg}(g:A.handled=Ee)(hit:s.heap.get? f=A0 (OS (La slot) i a c.size e))(n:s.heap.get? a=A0 o)(hd:o.data=.set c e t)(l:t.fits c.size=Eg)(hn:∀(A:EL)(E:Es->Dg)(Q:Option (Es×Nat)->Dg),Q Ee s->EA (EC prog w) A (setNext a slot i e) Q E s)(h:∀h',MN f s.heap h'->Q Ee {s with heap:=h'}):EA (EC prog w) A (L6<|.ref f) Q E s:=by
 unfold L6;let:=Zz<|Ju<|YJ (qB hit) slot_next<|Yw slot_next (qB hit) entry_next (Zz<|Jc rfl<|Zz<|UJ hit rfl<|Zz<|Vi n hd l ?_)<|args_next _;let j:(((c.size:Nat):Int)!=((c.size:Nat):Int))=Ei:=by simp
 rw[ZX<|by rw[j];decide];let:=Zz<|hn _ _ _<|Zz<|YW hit rfl (by simp)<|Zz ?_;simp only[newExc,newTuple];let:=Zz (YA (Zz<|Jc (a:=EY) (by first|rfl|simp[firstArgMember])<|YA ?_<|by size_fits)<|by size_fits);simp only[raiseNew];let:=Zz<|UV ?_;first|rw[g]|rw[g]
 let:=Zz<|ZF<|wpAny_throw ?_;let:=Zz<|YX (T:="StopIteration") (b:=Eg) #[_,ZL _ rfl,Ej] Ub<|ZF<|h _<|(Heap.ExtBut.push (ET ..).extBut _).push _
def bh(ps:List Nat):(Obj):={cls:=.type "tuple",data:=.seq (ps.map λi=>La (i:Nat)).toArray}
def N3{f a u:Er}{o:Obj}{b:Array<|Int×Es}{c:Nat}{t:Lc}{p:Nat}{ps:List Nat}{e:Int×Es}{Q:Db->Dg}(hit:s.heap.get? f=A0 (OS (.ref u) i a b.size c))(x:s.heap.get? u=A0 (bh ps))(l:s.heap.get? a=A0 o)(hd:o.data=.set b c t)(j:t.fits b.size=Eg)(v:ps[i]?=A0 p)(r:b[p]?=A0 e)(h:∀h',h'.get? f=A0 (OS (.ref u) (i+1) a b.size c)->EW f s.heap h'->Q (A0 e.2) {s with heap:=h'}):EA (EC prog w) A (L6<|.ref f) Q E s:=by
 let:=Zz<|Ju<|YJ (qB hit) slot_next<|Yw slot_next (qB hit) entry_next (Zz<|Jc rfl<|Zz<|UJ hit rfl<|Zz<|Vi l hd j ?_)<|args_next _;let n:((b.size:Int)!=b.size)=Ei:=by simp
 rw[ZX<|by rw[n];decide];let:=Zz<|Uc x rfl ?_;let g:(ps.map λi=>La ((i:Nat):Int)).toArray[i]?=A0 (La p):=by rw[Uj,ZN,v];rfl
 show EA _ _ (match(ps.map λi=>La ((i:Nat):Int)).toArray[i]?with|some<|.int place _=>_|some _=>_|none=>_) _ _ s;rw[g];show EA _ _ (setNextDrawn a p c>>=_) _ _ s;let:=Zz<|Zz<|Yu l hd j ?_;let q:(c !=c)=Ei:=by simp
 dsimp only;rw[ZX<|by rw[q];decide];rw[r];let:=ZF<|Zz<|YW hit rfl (by simp) ?_;let h2:=Yt (Ln (·.setIfInBounds 1<|La<|(i:Int)+1)) hit rfl;let:=ZF #[e.2,Ej,ZF<|h _ h2<|ET ..]
def Gp{f a u:Er}{o:Obj}{c:Array<|Int×Es}{g:Nat}{t:Lc}{ps:List Nat}{Q:Db->Dg}(j:A.handled=Ee)(hit:s.heap.get? f=A0 (OS (.ref u) i a c.size g))(r:s.heap.get? u=A0 (bh ps))(p:s.heap.get? a=A0 o)(hd:o.data=.set c g t)(n:t.fits c.size=Eg)(q:ps[i]?=Ee)(h:∀h',MN f s.heap h'->Q Ee {s with heap:=h'}):EA (EC prog w) A (L6<|.ref f) Q E s:=by
 unfold L6;let:=Zz<|Ju<|YJ (qB hit) slot_next<|Yw slot_next (qB hit) entry_next (Zz<|Jc rfl<|Zz<|UJ hit rfl<|Zz<|Vi p hd n ?_)<|args_next _;let l:(((c.size:Nat):Int)!=((c.size:Nat):Int))=Ei:=by simp
 rw[ZX<|by rw[l];decide];let:=Zz<|Uc r rfl ?_;let e:(ps.map λi=>La ((i:Nat):Int)).toArray[i]?=Ee:=by rw[Uj,ZN,q];rfl
 show EA _ _ (match(ps.map λi=>La ((i:Nat):Int)).toArray[i]?with|some<|.int place _=>_|some _=>_|none=>_) _ _ s;rw[e];let:=Zz<|YW hit rfl (by simp) ?_;let h1:=Yt (Ln (·.setIfInBounds 0<|La 0)) hit rfl;let:=Zz<|YW h1 rfl (by simp)<|Zz ?_;simp only[newExc,newTuple];let:=Zz (YA (Zz<|Jc (a:=EY) (by first|rfl|simp[firstArgMember])<|YA ?_<|by size_fits)<|by size_fits);simp only[raiseNew];let:=Zz<|UV ?_;first|rw[j]|rw[j]
 let:=Zz<|ZF<|wpAny_throw ?_;let:=Zz<|YX (T:="StopIteration") (b:=Eg) #[_,ZL _ rfl,Ej] Ub<|ZF<|h _<|(Heap.ExtBut.push ((ET ..).trans<|ET ..).extBut _).push _
section
variable{a:Er}{o:Obj}{es:Array<|Int×Es}{ep:Nat}{t:Lc}
def uY{Q:Option (Es×Nat)->Dg}(hb:byText w=Eg)(f:s.heap.get? a=A0 o)(hd:o.data=.set es ep t)(c:t.fits es.size=Eg)(h:Q ((MU (w.params.setOrder a ep) es)[i]?.map λe=>(e.2,slot)) s):EA (EC prog w) A (setNext a slot i ep) Q E s:=by
 let b:(Setting.mk (EC prog w).prog (EC prog w).w.params).params.followText "set-order"=Eg:=hb;let:=Zz<|Yu f hd c<|Zz<|Zz<|JL<|ZF ?_;rw[Z4 b];let g:(ep !=ep)=Ei:=by simp
 rw[ZX<|by simp];let:=Zz<|Zz<|Yu f hd c<|Zz<|Zz<|JL<|ZF ?_;dsimp only;rw[Z4 b];let:=Zz<|JL<|ZF<|ZF h
def Ih{Q:Option (Es×Nat)->Dg}(hb:byText w=Ei)(hl:t.led=Eg)(h1:es.size<=1)(g:s.heap.get? a=A0 o)(hd:o.data=.set es ep t)(f:t.fits es.size=Eg)(h:Q (match es[Lz t.place slot]?,t.place[Lz t.place slot]?with|some (_,x),A0 j=>A0 (x,j+1)|_,_=>Ee) s):EA (EC prog w) A (setNext a slot i ep) Q E s:=by
 let b:(Setting.mk (EC prog w).prog (EC prog w).w.params).params.followText "set-order"=Ei:=hb;let c:(!t.plain&&decide (es.size>1))=Ei:=by rw[ZZ<|⋯,Jy]
 let e:(!t.led&&!es.isEmpty)=Ei:=by rw[hl];rfl
 let:=Zz<|Yu g hd f ?_;let:=Zz<|Zz<|JL<|ZF ?_;rw[ZX<|by rw[b];decide];show EA _ _ (if(!t.plain&&decide (es.size>1))=Eg then _ else _) _ _ _;rw[ZX<|by rw[c];decide];let:=Zz ?_;show EA _ _ (if(!t.led&&!es.isEmpty)=Eg then _ else _) ..;rw[ZX<|by rw[e];decide];let:=ZF<|ZF h
def F3{i:Int}{b:Er}(hit:s.heap.get? b=A0 (OS f i a n ep))(h:Q (.ref b) s):EA (EC prog w) A (pyIter<|.ref b) Q E s:=by let:=UQ (qB hit) Iq<|Yw Iq (qB hit) FX (ZF #[_,Ej,"set_iterator",_,qB hit,slot_next.lookup,h])<|HU _
def ib(r:A.handled=Ee)(I:Er)(c:a≠I)(hb:byText w=Eg)(hd:o.data=.set es ep t)(f:t.fits es.size=Eg):Walks prog w A I [I,a] [I] es.size (λi v=>((MU (w.params.setOrder a ep) es).toList.map (·.2))[i]?=A0 v) λi h=>h.get? I=A0 (OS (La (0:Nat)) (i:Nat) a es.size ep)/\h.get? a=A0 o where
 sub:=λb hb=>by simp at hb;simp[hb]
 frame:=λ_ _ _ st hk=>#[hk I (by simp) _ st.1,hk a (by simp) _ st.2]
 item:=λi s Q E u st j=>by
  let hl:(MU (w.params.setOrder a ep) es).toList.length=es.size:=by rw[(kX _ es).length_eq,Ye]
  let l:(MU (w.params.setOrder a ep) es).toList[i]?=A0 _:=ZO ⋯;generalize(MU (w.params.setOrder a ep) es).toList[i]'⋯=e at l;let:=Ft (Eh:=0) (x:=e.2) st.1 c st.2 hd f (λA E Q q=>uY hb st.2 hd f ?_) λg h1 sb=>?_;.rwa[<-YU,l]
  .let:=j _ g _ (by rw[ZN,l];rfl) #[h1,(sb.2 a c).trans st.2] λb n hb e=>(sb.2 b<|by simpa using hb).trans e
 done:=λs Q E st j=>by
  let hl:(MU (w.params.setOrder a ep) es).toList.length=es.size:=by rw[(kX _ es).length_eq,Ye]
  let:=uG r st.1 st.2 hd f (λA E Q q=>uY hb st.2 hd f ?_) λg p=>j g s.toks λb n hb e=>p b n (by simpa using hb) e<;>simp_all
 self:=λ_ _ _ _ st h=>F3 st.1 h
def ie(D:A.handled=Ee)(I u:Er)(n:a≠I)(r:u≠I)(ps:List Nat)(g:ps.Perm<|EK es.size)(hd:o.data=.set es ep t)(y:t.fits es.size=Eg):Walks prog w A I [I,a,u] [I] es.size (λi v=>(ps.filterMap λp=>es[p]?.map (·.2))[i]?=A0 v) λi h=>h.get? I=A0 (OS (.ref u) (i:Nat) a es.size ep)/\h.get? a=A0 o/\h.get? u=A0 (bh ps)where
 sub:=λb hb=>by simp at hb;simp[hb]
 frame:=λ_ _ _ st hk=>#[hk I (by simp) _ st.1,hk a (by simp) _ st.2.1,hk u (by simp) _ st.2.2]
 item:=λi s Q E F st l=>by
  let hl:`ps=es.size:=by rw[g.length_eq,YT]
  let f:ps[i]?=A0 (ps[i]'⋯):=ZO _;let hm:ps[i]'⋯<es.size:=YQ.mp<|g.mem_iff.mp<|Y8 _;let x:=Jh hm;let all:=by
   have:∀c:List Nat,(∀q∈c,q<es.size)->c.filterMap (λp=>es[p]?.map (·.2))=c.map λp=>((es[p]?.map (·.2)).getD .none):=λc=>by induction c with|nil=>intro _;rfl|cons q c ih=>simp_all
   let:=this ps λq hq=>YQ.mp<|g.mem_iff.mp hq
  let:=N3 st.1 st.2.2 st.2.1 hd y f x λj h1 sb=>l _ j s.toks ?_ #[h1,(sb.2 a n).trans st.2.1,(sb.2 u r).trans st.2.2] λb z hb e=>(sb.2 b<|by simpa using hb).trans e;rw[all,ZN,f];simp only[J6,x,Option.getD_some]
 done:=λs Q E st l=>by
  let hl:`ps=es.size:=by rw[g.length_eq,YT]
  let:=Gp D st.1 st.2.2 st.2.1 hd y (Jd<|⋯) λj B=>l j s.toks λb z hb e=>B b z (by simpa using hb) e
 self:=λ_ _ _ _ st h=>F3 st.1 h
def NC(xs:Array Nat)(h:xs.size<=1):Lz xs 0=0:=by
 unfold Lz;let h2:xs.size=0\/xs.size=1:=⋯;rcases h2 with e|e;.rw[e];rfl
 .rw[e];rfl
def PL(xs:Array Nat)(h:xs.size=1):Lz xs (xs.getD 0 0+1)=1:=by
 unfold Lz;rw[h];show(if xs.getD 0 _<xs.getD 0 0+1 then _ else _)=_;let e:∀d,xs.getD 0 d=xs[0]'⋯:=λd=>by simp_all
 rw[e,e,Z4<|⋯];rfl
def zvQ(t:Lc):(Nat->Nat)|0=>0|_+1=>t.place.getD 0 0+1
def ic(B:A.handled=Ee)(I:Er)(f:a≠I)(hb:byText w=Ei)(hl:t.led=Eg)(h1:es.size<=1)(hd:o.data=.set es ep t)(c:t.fits es.size=Eg):Walks prog w A I [I,a] [I] es.size (λi v=>(es.toList.map (·.2))[i]?=A0 v) λi h=>h.get? I=A0 (OS (La ((zvQ t i:Nat):Int)) (i:Nat) a es.size ep)/\h.get? a=A0 o where
 sub:=λb hb=>by simp at hb;simp[hb]
 frame:=λ_ _ _ st hk=>#[hk I (by simp) _ st.1,hk a (by simp) _ st.2]
 item:=λi s Q E p st l=>by
  let F:i=0:=⋯;subst F;let n:=by unfold SetTable.fits at c;rw[ZQ]at c;let:=eq_of_beq c.1
  let y:=Jh p;let D:t.place[0]?=A0 _:=Jh ⋯;let z:t.place.getD 0 0=t.place[0]'⋯:=by rw[YG,D];rfl
  let:=Ft (slot:=0) (Eh:=t.place.getD 0 0+1) (x:=(es[0]'p).2) st.1 f st.2 hd c (λA E Q q=>Ih hb hl h1 st.2 hd c ?_) λg h1 sb=>?_;.simp_all[NC]
  .let:=l _ g s.toks ?_ #[h1,(sb.2 a f).trans st.2] λb r hb e=>(sb.2 b<|by simpa using hb).trans e;rw[ZN,YU,y];rfl
 done:=λs Q E st l=>by
  let n:=by unfold SetTable.fits at c;rw[ZQ]at c;let:=eq_of_beq c.1
  let:=uG B st.1 st.2 hd c (λA E Q q=>Ih hb hl h1 st.2 hd c ?_) λg u=>l g s.toks λb r hb e=>u b r (by simpa using hb) e;let h2:es.size=0\/es.size=1:=⋯;rcases h2 with e|e;.simp_all
  .rw[e];show Q (match es[Lz t.place<|t.place.getD 0 0+1]?,t.place[Lz t.place<|t.place.getD 0 0+1]?with|some (_,x),A0 j=>A0 (x,j+1)|_,_=>Ee) s;rwa[PL _<|⋯,Array.getElem?_eq_none<|⋯]
 self:=λ_ _ _ _ st h=>F3 st.1 h
end
def x8(vs:Da)(zs:By):(Prop):=`vs=`zs/\∀(i:Nat)(v:Es),vs[i]?=A0 v->∃k t,zs[i]?=A0 k/\v=.str k t
section
variable{a:Er}{ks:By}
def GB{l:List<|Int×Es}(h:MX (strKind prog w) l):x8 (l.map (·.2))<|l.map keyOf:=by let:=#[by simp,λi v e=>?_];rw[ZN]at e;cases q:l[i]?with|none=>simp_all|some x=>rw[q]at e;let e:=dI e;let#[#[k,hk,_]]:=h x<|ZI q;let#[t,b]:=Ja hk;let:=#[k,t,by rw[ZN,q];show A0 _=_;unfold keyOf;rw[b],e▸b]
def bi(S:yg prog w s.heap a ks)(hk:`ks<=1000)(G:A.handled=Ee)(h:∀(I:Er)(fp:Dc)(h':EH)d tk(vs:Da)(zs:By)(St:Nat->EH->Prop),⇑s<=I->(∀b∈fp,b=a\/⇑s<=b)->(∀b o,s.heap.get? b=A0 o->h'.get? b=A0 o)->zs.Perm ks->x8 vs zs->Walks prog w A I fp [I] `ks (λi v=>vs[i]?=A0 v) St->St 0 h'->Q (.ref I) {s with heap:=h',drawn:=d,toks:=tk}):EA (EC prog w) A (pyIter<|.ref a) Q E s:=by
 let#[o,c,K,t,y,U,hd,X]:=S;let j:=X5 X;let#[g,J,hb,F,n,T]:=X;let r:=ZP y;let x:=ZU r;let:=SG y U hd F ⋯ (λq=>?_)<|λq D d tk B=>?_
 .let kp:∀b u,s.heap.get? b=A0 u->(s.heap.push<|OS (La 0) 0 a c.size K).get? b=A0 u:=λb u e=>ZE _ e;let l:∀b∈[⇑s,a],b=a\/⇑s<=b:=λb hb=>by
   rcases ZJ.mp hb with z|z;.let:=.inr<|Va z.symm
   .let:=.inl<|ZC.mp z
  cases f:byText w with|true=>let W:=ib (prog:=prog) G _ x f hd F;let N:=kX (w.params.setOrder a K) c;rw[j]at W;let:=h _ _ _ s.drawn s.toks _ _ _ (ZG _) l kp ((N.map keyOf).trans J) (GB<|g.perm N) W #[j▸ZL _ rfl,ZE _ y]|false=>
   let h1:c.size<=1:=by lia
   let hl:t.led=Eg:=by rw[n];show(!byText w)=Eg;rw[f];rfl
   let W:=ic (prog:=prog) G _ x f hl h1 hd F;rw[j]at W;let:=h _ _ _ s.drawn s.toks _ _ _ (ZG _) l kp J (GB g) W #[j▸ZL _ rfl,ZE _ y]
 .let H:=ZU<|Jw r;let W:=ie (prog:=prog) (w:=w) G (⇑s+1) _ H (ZU<|Vj _) D B hd F;let L:(D.filterMap λp=>c[p]?).Perm c.toList:=by
   let:=(B.filterMap _).trans ?_;let e:=VR c.toList;rw[Ye]at e;let P:(EK c.size).filterMap (λp=>c[p]?)=(EK c.size).filterMap λi=>c.toList[i]?:=by simp
   rw[P,e]
  let hv:(D.filterMap λp=>c[p]?.map (·.2))=(D.filterMap λp=>c[p]?).map (·.2):=by rw[List.map_filterMap]
  rw[j]at W;rw[hv]at W;let R:(s.heap.push<|bh D).objs.size=⇑s+1:=JY ..;let:=h _ _ _ d tk _ _ _ (J8 _) (λb hb=>?_) (λb u e=>ZE _<|ZE _ e) ((L.map keyOf).trans J) (GB<|g.perm L) W #[?_,ZE _<|ZE _ y,ZE _<|ZL _ rfl]
  .rcases ZJ.mp hb with z|z;.simp_all
   .rcases ZJ.mp z with z|z;.let:=.inl z
    .let:=.inr<|Va (ZC.mp z).symm
  .rw[<-R,<-j];let:=ZL _ rfl
def Sz(c:s.TypeIs (.ref a) "set"){Q:Bool->Dg}(h:Q Ei s):EA (EC prog w) A (Builtin.List.listLengthHint<|.ref a) Q E s:=by let:=Zz<|JS c PySem.F.slot_set_len.lookup ?_;generalize hid:"set.__len__"=e;wp_delta;subst hid;let:=Zz<|YX (b:=Eg) c (by rw[Y5];kernel_rfl)<|Zz<|J9 c<|ZF h
open PySem.Calls PyProof.V in
def RD(hh:A.handled=Ee)(y:yg prog w s.heap a ks)(hk:`ks<=1000)(S:Er)(q:S≠a)(n:Es)(p:Nat)(N:s.heap.get? S=A0 {cls:=.type "list",data:=.seq #v[] p})(hR:∀h' d tk DO c'(zs:By),(∀b o,b≠S->s.heap.get? b=A0 o->h'.get? b=A0 o)->h'.get? S=A0 {cls:=.type "list",dict:=Ee,data:=.seq DO c',slots:=#v[]}->zs.Perm ks->x8 DO.toList zs->R (.ok<|.ret n) {s with heap:=h',drawn:=d,toks:=tk}):EA (EC prog w) A.in1 (Builtin.List.listExtendWith (.ref S) (.ref a) n) (λfin s'=>match fin with|.done f=>R (.ok f) s'|.again c'=>c'.quiet=Eg/\LP (EC prog w) A c' R s') (λe s'=>R (.error e) s') s:=by
 let u:=ZP N;let ty:s.TypeIs (.ref a) "set":=by let#[o,X,U,t,E,H,_]:=y;let:=#[o,E,H.1]
 unfold Builtin.List.listExtendWith;let:=Zz<|J9 ty ?_;let h1:Builtin.List.listSameRef (.ref S) (.ref a)=Ei:=by simp[Builtin.List.listSameRef,q]
 let nl:(Value.type "set"==Value.type "list")=Ei:=∅;let nt:(Value.type "set"==Value.type "tuple")=Ei:=∅;simp only[h1,nl,nt,UX,V2,if_false];let:=Zz<|bi y hk hh λI Y h' d tk Q zs St Z D kp P tx W st=>?_;let K:LW {s with heap:=h',drawn:=d,toks:=tk} (.ref a) "set":=by let#[o,X,U,t,E,H,_]:=y;let:=#[o,kp _ _ E,H.1]
 let:=Zz<|Ys<|Sz K ?_;let r:S∉Y:=λz=>by
  rcases D S z with e|e;.let:=q e
  .let:=Y7 _<|Z0 u e
 let c:=kp _ _ N;let:=Y6 (λ_=>?_) λz=>absurd ∅ z;let:=Zz<|JK ?_;let:=Zz ?_;let:=Zz<|wpAny_updateSeq c rfl ?_;let g:=Yt (Lg (·.push EY)) c rfl;let:=wpAny_updateSeq g rfl ?_;let l:=Yt (Lg (·.pop)) g rfl;let:=ZF #[VU PySem.F.plain_extend_loop _,?_];let v:∀b o,b≠S->h'.get? b=A0 o->((h'.update S (Lg (·.push EY))).update S (Lg (·.pop))).get? b=A0 o:=λb o hb e=>(Yq _ _<|EG hb).trans<|(Yq _ _<|EG hb).trans e;let J:=W.frame 0 _ _ st λb hb o e=>v b o (λz=>r<|z▸hb) e;let:=codeAny_extend_loopS W.toS (by rw[Y2];lia) S r n `ks 0 _ #v[] _ rfl (Yk _) J l (ItemsOf.nil _) λs' DO c' hm x L=>?_;rw[Moved.eq_with hm];let G:DO.toList=Q:=by
  let hl:`DO.toList=`Q:=by rw[Ye,L.1,tx.1,P.length_eq]
  let:=VC λi=>?_;by_cases hi:i<DO.size;.let e:=Jh hi;rw[YU,e];let:=(L.2 i _ e).symm
  .rw[Jd<|by rw[Ye];lia,Jd<|by rw[<-hl,Ye];lia]
 let:=hR s'.heap d s'.toks DO c' zs (λb o hb e=>hm.heap b o (λj=>?_)<|v b o hb<|kp b o e) x P<|by rwa[G]
 rcases ZJ.mp j with T|j;.let:=hb T
 .let B:=ZC.mp j;let:=absurd (B▸ZP e)<|Nat.not_lt.mpr Z
open PySem.Calls PyProof.V PySem.W in
def Oz{R:Da->Dg}(D:A.handled=Ee)(v:yg prog w s.heap a ks)(hk:`ks<=1000)(h:∀(h':EH)d(tk:Nat)(vs:Da)(zs:By),(∀b o,s.heap.get? b=A0 o->h'.get? b=A0 o)->zs.Perm ks->x8 vs zs->R vs {s with heap:=h',drawn:=d,toks:=tk}):EA (EC prog w) A (collect<|.ref a) R E s:=by
 let r:a<⇑s:=by let#[o,J,H,t,G,_]:=v;let:=ZP G
 unfold collect;let:=Zz<|wpAny_runValue<|Jg entry_proto_collect' ?_;rw[Lp PySem.F.plain_proto_collect _];let:=Zz<|YA ?_;let:=ZF #[VU PySem.F.plain_list_iadd _,Jg entry_list_iadd' ?_];rw[Lp PySem.F.plain_list_iadd _];let g:(s.heap.push {cls:=.type "list",data:=.seq ([]:Da).toArray}).get? ⇑s=A0 {cls:=.type "list",data:=.seq #v[]}:=ZL _ rfl;let key:=RD (s:={s with heap:=s.heap.push {cls:=.type "list",data:=.seq ([]:Da).toArray}}) (R:=λ(q:Result)(u:Eu)=>∃(h':EH)(d:Drawn)(tk:Nat)(i:Array Es)(j:Nat)(zs:By),q=.ok (.ret<|.ref ⇑s)/\u={s with heap:=h',drawn:=d,toks:=tk}/\(∀b o,s.heap.get? b=A0 o->h'.get? b=A0 o)/\h'.get? ⇑s=A0 {cls:=.type "list",dict:=Ee,data:=.seq i j,slots:=#v[]}/\zs.Perm ks/\x8 i.toList zs) D (v.at λo e=>ZE _ e) hk ⇑s (JV r) (.ref ⇑s) 0 g λh' d tk i j zs hk c l n=>#[h',d,tk,i,j,zs,Ej,Ej,λb o e=>hk b o (ZU<|ZP e)<|ZE _ e,c,l,n];let:=YO key (λp u x=>?_) λe u x=>?_;.cases p with|done f=>let#[h',d,tk,i,j,zs,e,rfl,hk,c,l,n]:=x;cases e;let:=Zz<|wpAny_load c ?_;let:=ZF<|h h' d tk _ zs hk l n|again c₁=>let:=#[x.1,JN x.2 λq z y=>?_];let#[h',d,tk,i,j,zs,rfl,rfl,hk,c,l,n]:=y;let:=Zz<|wpAny_load c ?_;let:=ZF<|h h' d tk _ zs hk l n
 .let#[_,_,_,_,_,_,B,_]:=x;cases B
end
def vA{T:String}{st:Er->Nat->EH->Prop}{it:Obj}{l:Er}{g:Array Es}{xs:By}(hh:A.handled=Ee)(hn:∃ol:Obj,s.heap.get? l=A0 ol/\ol.cls=.type T/\∃n,ol.data=.seq g n)(am:My (.type T) (.type "set")=Lm Ei)(al:My (.type T) (.type "frozenset")=Lm Ei)(a1:(Value.type T==Value.type "dict")=Ei)(hp:∀{A:EL}{E:Es->Dg}{s:Eu}{Q:Es->Dg},(∃ol:Obj,s.heap.get? l=A0 ol/\ol.cls=.type T/\∃n,ol.data=.seq g n)->Q (.ref ⇑s) {s with heap:=s.heap.push it}->EA (EC prog w) A (pyIter<|.ref l) Q E s)(hw:∀{A:EL},A.handled=Ee->∀I,l≠I->Walks prog w A I [I,l] [I] g.size (λi v=>g[i]?=A0 v) (st I))(h0:∀h:EH,(∃ol:Obj,h.get? l=A0 ol/\ol.cls=.type T/\∃n,ol.data=.seq g n)->st h.objs.size 0 (h.push it))(Dq:`xs=g.size)(hi:∀(i:Nat)(v:Es),g[i]?=A0 v->∃k t,xs[i]?=A0 k/\v=.str k t)(hb:g.size+1<Ml)(h:∀(h':EH)(tk:Nat),yg prog w h' ⇑s (uniq xs)->(∀b o,s.heap.get? b=A0 o->h'.get? b=A0 o)->Q (.ref ⇑s) {s with heap:=h',toks:=tk}):EA (EC prog w) A (call (.type "set") [.ref l]) Q E s:=by
 let#[c,tl,ah]:=F.called_set.mro;let Y:=F.called_set.made;let an:=F.called_set.sub;let h1:=F.called_set.notType;let h2:=F.called_set.canCreate;let ay:=F.typeCall_set_1<|.ref l;let:=VZ<|codeAny_of_tree ?_;show EA _ _ (callAny (.type "set") _) _ _ _;let:=ZF #[Code.quiet_builtin _<|by lk,Jg F.entry_type_call ?_];rw[Around.under_plain (weight_type_call_type "set" [.ref l] []) rfl];repeat(any_goals(first|assumption|wp_step))
 let:=JN (Pm (.ref l) (E:=E) (Q₁:=λobj j=>obj=.ref ⇑s/\j={s with heap:=s.heap.push<|zW w}) #[Ej,Ej]) λr j hr=>?_;cases r with|error e=>let:=hr|ok fl=>cases fl with
  |ret obj=>
   let#[rfl,rfl]:=hr;let L:(s.heap.push<|zW w).get? ⇑s=A0 (zW w):=ZL _ rfl;let hT:LW {s with heap:=s.heap.push<|zW w} (.ref ⇑s) "set":=#[_,L,Ej];let a0:=F.called_set.init.lookup;let as:=F.called_set.init.bind<|.ref ⇑s;repeat(any_goals(first|assumption|wp_step))
   let:=JN (VG (R:=wants (λr p=>r=.none/\∃h' tk,p={s with heap:=h',toks:=tk}/\yg prog w h' ⇑s (uniq xs)/\∀b o,s.heap.get? b=A0 o->h'.get? b=A0 o) E) F.called_set.init.plain F.entry_set_init<|check_set_init_1 hT ?_) λH p f=>?_
   .let u:∃ol:Obj,(s.heap.push<|zW w).get? l=A0 ol/\ol.cls=.type T/\∃n,ol.data=.seq g n:=let#[ol,e,r]:=hn;#[ol,ZE _ e,r];let#[ol,Z,y,nl,z]:=id u;let D:l<⇑s:=by let#[_,e,_]:=hn;let:=ZP e
    let#[ap,ac,ab,J]:=ol;simp only at y z;subst y;subst z;unfold zW at L Z;unfold Builtin.«set.__init__» noKeywords Lf;generalize K:pyIter=PI;unfold zW;wp_walk;subst K;let:=hp u ?_;let:=Zz<|wpAny_runValue ?_;let U:A.in1.in1.in1.handled=Ee:=by simp[hh]
    let G:l≠(s.heap.push<|zW w).objs.size:=by rw[JY];let:=ZU<|Jw D
    let N:⇑s∉[(s.heap.push<|zW w).objs.size,l]:=by rw[JY];simp only[ZJ,ZC,Yd,YY,not_or];let:=#[ZU<|Vj _,JV D]
    let:=bj (hw U _ G).toS ⇑s N xs Dq hi hb (g.size-0) 0 _ ⋯ (Yk _) (h0 _ u) ?hS0 ?hR;case hS0=>let B:((s.heap.push<|zW w).push it).get? ⇑s=A0 (zW w):=ZE _ L;let:=Nt B
    case hR=>
     intro s' hm q;let#[h',g',d',af,ad]:=s';let eg:g'=s.gens:=hm.gens;let ed:d'=s.drawn:=hm.drawn;let eo:ad=s.os:=hm.os;subst eg;subst ed;subst eo;show EA _ _ _ _ _ _;let:=ZF ?_;show EA _ _ (ret EY) _ _ _;let:=ZF #[Ej,h',af,Ej,q,λb o e=>?_];let x:=ZP e;let P:b≠⇑s:=ZU x;let S:b≠(s.heap.push<|zW w).objs.size:=by rw[JY];let:=ZU<|Jw x
     let:=hm.heap b o (by simp only[ZJ,ZC,Yd,YY,not_or];let:=#[P,S])<|ZE _<|ZE _ e
   .cases H with|error e=>let:=f|ok fl₂=>
     cases fl₂ with|ret r=>
      let#[rfl,h',tk,rfl,q,X]:=f;repeat(any_goals(first|assumption|wp_step))
      let:=h _ _ q X|_=>let:=f.elim
  |_=>let:=hr.elim
def call_set_list{l:Er}{c:Array Es}{xs:By}(f:A.handled=Ee)(hl:s.heap.IsList l c)(e:`xs=c.size)(g:∀(i:Nat)(v:Es),c[i]?=A0 v->∃k t,xs[i]?=A0 k/\v=.str k t)(hb:c.size+1<Ml)(h:∀(h':EH)(tk:Nat),yg prog w h' ⇑s (uniq xs)->(∀b o,s.heap.get? b=A0 o->h'.get? b=A0 o)->Q (.ref ⇑s) {s with heap:=h',toks:=tk}):EA (EC prog w) A (call (.type "set") [.ref l]) Q E s:=vA f hl sub_list_set sub_list_frozenset ∅ J7 (λh I n=>Walks.list h I l n _) (λh hl=>#[#[_,ZL _ rfl,Ej,Ej],Heap.IsList.push hl _]) e g hb h
def IX{l:Er}{c:Array Es}{xs:By}(f:A.handled=Ee)(hl:s.heap.IsTuple l c)(e:`xs=c.size)(g:∀(i:Nat)(v:Es),c[i]?=A0 v->∃k t,xs[i]?=A0 k/\v=.str k t)(hb:c.size+1<Ml)(h:∀(h':EH)(tk:Nat),yg prog w h' ⇑s (uniq xs)->(∀b o,s.heap.get? b=A0 o->h'.get? b=A0 o)->Q (.ref ⇑s) {s with heap:=h',toks:=tk}):EA (EC prog w) A (call (.type "set") [.ref l]) Q E s:=vA f hl sub_tuple_set sub_tuple_frozenset ∅ wpAny_pyIter_tuple (λh I n=>Walks.tuple h I l n _) (λh hl=>#[#[_,ZL _ rfl,Ej,Ej],Heap.IsTuple.push hl _]) e g hb h
def f5(N i:Nat):(Nat):=(i*5+1)%N
def Ww(N:Nat):(Nat->Nat->Nat)|0,i=>i|k+1,i=>Ww N k<|f5 N i
def IB(N:Nat):∀(a b i:Nat),Ww N (a+b) i=Ww N b (Ww N a i)|0,b,i=>by rw[Nat.zero_add];rfl|a+1,b,i=>show a+1+b=a+b+1 by lia▸IB N a b _
def dA(N:Nat):(Nat->Nat->List Nat)|0,_=>[]|n+1,i=>i::dA N n (f5 N i)
def K1:∀{n i s:Nat},s∈dA N n i->∃k,k<n/\Ww N k i=s
 |n+1,i,s,h=>by
  rcases ZJ.mp h with rfl|h;.let:=#[0,⋯,Ej]
  .let#[k,hk,e]:=K1 h;let:=#[k+1,⋯,e]
structure Full(N:Nat):Prop where
 all:∀s,s<N->∃k,k<N/\Ww N k 0=s
 per:Ww N N 0=0
def uI{N:Nat}(h1:(EK N).all (λs=>(dA N N 0).contains s)=Eg)(h2:Ww N N 0=0):Full N:=#[λs b=>by have:=Yc.mp h1 s<|YQ.mpr b;let:=K1<|List.contains_iff_mem.mp this,h2]
def bA:Full 8:=uI (by rfl)<|by rfl
def cD:Full 16:=uI (by rfl)<|by rfl
def cE:Full 32:=uI (by rfl)<|by rfl
def cG:Full 64:=uI (by rfl)<|by rfl
def WQ:Full 128:=uI (by lk)<|by rfl
def WR:Full 256:=uI (by lk)<|by lk
def Full.any(h:Full N){s:Nat}(f:i<N)(hs:s<N):∃k,k<N/\Ww N k i=s:=by
 let#[a,ha,c]:=h.all i f;let#[b,hb,e]:=h.all s hs;by_cases z:a<=b;.let:=#[b-a,⋯,?_];rw[<-c,<-IB,show a+(b-a)=b by lia,e]
 .let:=#[N-a+b,⋯,?_];rw[<-c,<-IB,show a+(N-a+b)=N+b by lia,IB,h.per,e]
section
variable{owner:Array<|Option Nat}
def FY{k:Nat}(h:((EK<|MP mask i+1-i).find? λk=>(owner.getD (i+k)<|some 0).isNone)=A0 k):owner.getD (i+k) (A0 0)=Ee:=by have:=Vv h;let:=VN.mp this
def BU(h:((EK<|MP mask i+1-i).find? λk=>(owner.getD (i+k)<|some 0).isNone)=Ee):owner.getD i (A0 0)≠Ee:=by have:=List.find?_eq_none.mp h 0 (YQ.mpr<|by unfold MP;lia);intro z;simp_all
def P6:∀(n fuel i:Nat),(∃k,k<=n/\owner.getD (Ww (mask+1) k i) (A0 0)=Ee)->n<fuel->∃j,SetTable.layClean.free mask owner fuel i 0=A0 j/\owner.getD j (A0 0)=Ee:=by intro n;induction n with
 |zero=>intro fuel i ⟨k,hk,e⟩ b;have:k=0:=⋯;subst this;let#[f,rfl]:∃f,fuel=f+1:=#[fuel-1,⋯];unfold SetTable.layClean.free;cases q:(EK _).find? λk=>(owner.getD (i+k)<|some 0).isNone with|some k=>let:=#[_,Ej,FY q]|none=>let:=absurd e<|BU q
 |succ n ih=>intro fuel i ⟨k,hk,e⟩ b;let#[f,rfl]:∃f,fuel=f+1:=#[fuel-1,⋯];unfold SetTable.layClean.free;cases q:(EK<|MP mask i+1-i).find? λk=>(owner.getD (i+k)<|some 0).isNone with|some k=>let:=#[_,Ej,FY q]|none=>cases k with|zero=>let:=absurd e<|BU q|succ k=>let:=ih f _ #[k,⋯,e] ⋯
def P5(F:Full<|mask+1)(l:∃s,s<mask+1/\owner.getD s (A0 0)=Ee):∀(m fuel i p:Nat),p<32^m->m+(mask+1)<=fuel->i<mask+1->∃j,SetTable.layClean.free mask owner fuel i p=A0 j/\owner.getD j (A0 0)=Ee:=by let#[s,o,g]:=l;intro m;induction m with|zero=>intro fuel i p c n b;have:p=0:=⋯;subst this;let#[k,hk,e]:=F.any b o;let:=P6 mask fuel i #[k,⋯,e▸g] ⋯|succ m ih=>intro fuel i p c n b;let#[f,rfl]:∃f,fuel=f+1:=#[fuel-1,⋯];unfold SetTable.layClean.free;cases q:(EK _).find? λk=>(owner.getD (i+k)<|some 0).isNone with|some k=>let:=#[_,Ej,FY q]|none=>let:=ih f _ _ ?_ ⋯<|Nat.mod_lt _<|⋯;rw[Nat.pow_succ]at c;let:=Nat.div_lt_of_lt_mul ⋯
end
def WG(h:Int):LZ h<32^13:=by grind[LZ]
def Nd{k:Nat}:∀{l:List<|Option Nat}{j:Nat},l[j]?=A0 Ee->((l.set j<|A0 k).filterMap id).Perm (k::l.filterMap id)|x::l,0,h=>by have:=dI h;subst this;rfl|x::l,j+1,h=>by let b:=Nd (k:=k) (l:=l) h;cases x with|none=>let:=b|some y=>let:=(b.cons y).trans<|List.Perm.swap ..
def Im:∀{l:List<|Option Nat},↑(l.filterMap id)<`l->∃j,j<`l/\l[j]?=A0 Ee|[],h=>by simp_all|none::l,_=>#[0,by simp,Ej]|some x::l,h=>by let h:↑(l.filterMap id)+1<`l+1:=h;let#[j,b,e]:=Im (l:=l) ⋯;let:=#[j+1,by simp;lia,e]
structure Laid(N k:Nat)(owner:Array<|Option Nat):Prop where
 sz:owner.size=N
 pm:(owner.toList.filterMap id).Perm<|EK k
def WY(F:Full<|mask+1):∀(hs:List Int)(owner:Array<|Option Nat)(k:Nat),Laid (mask+1) k owner->k+`hs<=mask->∃owner',Laid (mask+1) (k+`hs) owner'/\(hs.foldl (λacc h=>do
   let(owner,k)<-acc let j<-SetTable.layClean.free mask owner (SetTable.turns mask) (LZ h%(mask+1))<|LZ h
   Lm (owner.setIfInBounds j<|some k,k+1))<|A0 (owner,k):Option<|Array (Option Nat)×Nat)=A0 (owner',k+`hs):=by intro hs;induction hs with|nil=>intro owner k L _;let:=#[owner,L,Ej]|cons h hs ih=>
  intro owner k L hk;rw[Yj]at hk;let p:=L.pm.length_eq;rw[YT]at p;let t:`owner.toList=mask+1:=Ye▸L.sz;let#[s,o,e]:=Im (l:=owner.toList) ⋯;let c:owner.getD s (A0 0)=Ee:=by rw[YU]at e;rw[YG,e];rfl
  let#[j,n,q]:=P5 F #[s,⋯,c] 13 (SetTable.turns mask) _ (LZ h) (WG h) (by unfold SetTable.turns;lia)<|Nat.mod_lt _<|⋯;let r:j<owner.size:=by
   rcases VL j owner.size with z|z;.let:=z
   simp_all[YG,Array.getElem?_eq_none]
  let f:Laid (mask+1) (k+1)<|owner.setIfInBounds j<|some k:=by
   let:=#[by rw[Array.size_setIfInBounds];let:=L.sz,?_];rw[Array.toList_setIfInBounds];let b:owner.toList[j]?=A0 Ee:=by simp_all
   let:=(Nd b).trans<|(L.pm.cons k).trans ?_;rw[List.range_succ];let:=(List.perm_append_singleton k<|EK k).symm
  let#[owner',g,i]:=ih _ (k+1) f ⋯;let:=#[owner',by rw[Yj,show k+(`hs+1)=k+1+`hs by lia];let:=g,?_];rw[VY,Yj,show k+(`hs+1)=k+1+`hs by lia,<-i];congr 1;show(do
   let j<-SetTable.layClean.free mask owner (SetTable.turns mask) (LZ h%(mask+1))<|LZ h
   Lm _)=_;rw[n];rfl
def SW(owner:Array<|Option Nat):∀n,n=owner.size->((EK n).filterMap λj=>(owner.getD j Ee).map (j,·)).map (·.2)=owner.toList.filterMap id:=by
 intro n hn;let e:owner.toList=(EK n).map λj=>owner.getD j Ee:=by
  apply VC;intro i;rw[YU,ZN];by_cases z:i<n;.simp_all
  grind
 rw[e,List.filterMap_map,List.map_filterMap];congr 1;funext j;show((owner.getD j Ee).map _).map _=id (owner.getD j Ee);cases owner.getD j _<;>rfl
def OX{b c:Nat}{led plain:Bool}{hs:Array Int}(F:Full<|mask+1)(hn:hs.size<=mask):∃t order,SetTable.laid mask b c led plain hs=A0 (t,order)/\order.toList.Perm (EK hs.size)/\t.place.size=hs.size/\t.dummies=#v[]/\t.mask=mask/\t.led=led/\t.plain=plain:=by
 let i:Laid (mask+1) 0<|Array.replicate (mask+1) Ee:=by let:=#[Array.size_replicate,?_];simp
 let#[f,L,e]:=WY F hs.toList _ 0 i (by grind);rw[Nat.zero_add]at L e;let j:SetTable.layClean mask hs=A0 f:=by unfold SetTable.layClean;rw[<-Array.foldl_toList];let:=congrArg _ e
 let n:=SW _ _ L.sz.symm;let g:=L.pm;rw[<-n]at g;let l:=g.length_eq;rw[ZA,YT]at l;let:=#[_,_,by unfold SetTable.laid;rw[j];rfl,by trivial,?_,Ej,Ej,Ej,Ej];rwa[Z7,ZA]
end AxS
namespace L2
open PySem PySem.Spec PyProof.Rows AxS
def Xe(P:Et)(w:Ey)(a:Er)(b:By):(HO):=.ext λh=>yg P w h a b
def HG(x:yg P w h a ks):xx P w H h a<|Xe P w a ks:=by let#[o,e,c,t,b,r]:=id x;let:=#[x,#[o,b],λf g z k=>yg.at z k]
def vN(x:xx P w H h a<|Xe P w a ks):yg P w h a ks:=x.1
inductive zzB(P:Et)(w:Ey)(xs:Di)(H:Hp)(Q:VK):Prop|mk(a:Er)(ks:By)(h0:xs=[.ref a])(h1:H a=A0 (Xe P w a ks))(h2:Q (.int `ks) H):zzB P w xs H Q
def PQ:xq X (.builtin "len")<|zzB X.prog X.w:=by intro l s x H xs v Q I r h;let#[a,p,rfl,ha,q]:=h;let#[u,rfl,j]:=wW r;cases j;let#[o,f,n,t,i,b,hd,c]:=vN<|I.hok a _ ha;let e:=X5 c;let#[_,_,hb,g,_]:=c;let hb:f.size<4096:=hb;let:=call_len_set i b hd g ⋯ ?_;rw[e];let:=#[.int _,H,I.tok _,#[_,Ej],q]
def Inv.drew{d:Drawn}(I:Inv X Dp σ H s):Inv X Dp σ H {s with drawn:=d}:=#[I.ok,I.os,I.bare,I.dX,I.loc,I.cell,I.free,I.wJ,I.pin,I.hok,I.len]
def tu:∀{vs:Da}{zs:By},x8 vs zs->StrsAre vs zs|[],[],_=>.nil|[],_::_,h=>by cases h.1|_::_,[],h=>by cases h.1|v::vs,z::zs,h=>by let#[k,t,e,rfl]:=h.2 0 v rfl;let e:=dI e;subst e;let:=.cons _ _<|tu #[by have:=h.1;simpa using this,λi v e=>by let#[k,t,b,c]:=h.2 (i+1) v (by trivial);let:=#[k,t,by trivial]]
inductive lA(P:Et)(w:Ey)(xs:Di)(H:Hp)(Q:VK):Prop|mk(a:Er)(ks:By)(h0:xs=[.ref a])(h1:H a=A0 (Xe P w a ks))(h2:`ks<64)(h3:∀l ss,H l=Ee->ss.Perm ks->sortedS ss=Eg->Q (.ref l) (upd H l<|.lst<|ss.map V.str)):lA P w xs H Q
def BH{Q:VK}{u:Es}{t:By}(I:Inv X Dp σ H s)(S:`t<64)(q:∀l ss,H l=Ee->ss.Perm t->sortedS ss=Eg->Q (.ref l) (upd H l<|.lst<|ss.map V.str))(col:∀{R:Da->Dg}{E:Es->Dg},(∀(h':EH)d(tk:Nat)(vs:Da)(zs:By),(∀b o,s.heap.get? b=A0 o->h'.get? b=A0 o)->zs.Perm t->x8 vs zs->R vs {s with heap:=h',drawn:=d,toks:=tk})->EA (EC X.prog X.w) X.A.in1 (collect u) R E s):EA (EC X.prog X.w) X.A (call (.builtin "sorted") [u]) (EP X Dp σ Q) X.xe s:=by
 let:=Mn kind_sorted plain_sorted entry_sorted (args_sorted1 _)<|Zz<|ZF<|Zz<|col λh' d tk c zs j n D=>?_;let f:=tu D;let T:`c<64:=by rwa[D.1,n.length_eq]
 let Z:64<=sizeLine:=by simp[Y2]
 let:=Zz<|wpAny_newList ?_<|⋯;let g:(h'.push<|Lq "list" c.toArray 0).get? h'.objs.size=A0 (Lq "list" c.toArray 0):=ZL _ rfl;let:=Zz<|Ys<|Yw slot_list_sort #[_,g,Ej] entry_list_sort (list_sort_treeK strKind_oneLt g f.keysOf (λF G B e=>keyKind_strs<|e▸f) ⋯ λv J K=>#[_,Ej,?_])<|args_list_sort _;let#[i,L,y,N]:=sorted_out_str f J K;let:=ZF #[_,Ej,?_];let#[e,U]:=sortedHeap_at g;let Y:=BV L;let x:=(I.kept (t':=tk) j).drew (d:=d);let r:∀b ob,h'.get? b=A0 ob->(sortedHeap (h'.push<|Lq "list" c.toArray 0) h'.objs.size c ((arrOf v).map (·.2))).get? b=A0 ob:=λb ob z=>by let hb:=ZP z;rw[sortedHeap_old (ZU hb)<|by rw[JY];let:=Jw hb];let:=ZE _ z
 let P:=x.hok.fresh<|ZG _;let p:↑(i.map V.str)<=sizeLine:=by have:=y.length_eq;have:=n.length_eq;rw[ZA];lia
 let:=#[.ref h'.objs.size,_,x.laid (o:=.lst<|i.map V.str) (t':=tk) r (ZG _) #[p,_,e,Y,U],Ej,q _ i P (y.trans n) N]
def vD(c:X.calm=Eg):xq X (.builtin "sorted")<|lA X.prog X.w:=by intro f s j H xs i Q I r h;let#[a,g,rfl,ha,b,q]:=h;let#[u,rfl,e]:=wW r;cases e;let:=BH I b q<|Oz (I.ok.hd c) (vN<|I.hok a _ ha)<|⋯
inductive zvR(K:CK)(P:Et)(w:Ey)(xs:Di)(H:Hp)(Q:VK):Prop|mk(a:Er)(ls:By)(h0:xs=[.ref a])(h1:yp K H a (ls.map V.str)\/yq K H a (ls.map V.str))(h2:`ls<=1000)(h3:∀p,H p=Ee->Q (.ref p) (upd H p<|Xe P w p<|uniq ls)):zvR K P w xs H Q
def Gh{ls:By}(r:zb (ls.map V.str) us):x8 us ls:=by
 let:=#[by rw[<-`r,ZA],λi v e=>?_];let b:=by have:=(ZW.mp e).1;rw[<-`r,ZA]at this;let:=this
 let#[u,c,f]:=r.get (by rw[ZN,ZO b];rfl);rw[c]at e;cases e;let#[t,rfl]:=f;let:=#[_,t,ZO b,Ej]
def Ka(p:X.calm=Eg)(z:X.K=K:=by rfl):xq X (.type "set")<|zvR K X.prog X.w:=by
 subst z;intro y s B H xs E Q I r h;let#[a,D,rfl,ha,hl,q]:=h;let#[u,rfl,A]:=wW r;cases A;let f:∀g t,yg X.prog X.w g ..->(∀b o,s.heap.get? b=A0 o->g.get? b=A0 o)->EP X y B Q _ {s with heap:=g,toks:=t}:=λg t x k=>#[.ref _,_,I.laid k (ZG _)<|HG x,Ej,q _<|I.hok.fresh<|ZG _];let sb:Ml=4096:=rfl;rcases ha with ha|ha;.let#[j,n,l,_]:=I.list ha;let c:=Gh n;let:=call_set_list (I.ok.hd p) l.isList c.1.symm (λi v e=>c.2 i v<|by simpa using e) (by rw[Z7,c.1,sb];lia) f
 .let#[j,n,l,_]:=I.tuple ha;let c:=Gh n;let:=IX (I.ok.hd p) l c.1.symm (λi v e=>c.2 i v<|by simpa using e) (by rw[Z7,c.1,sb];lia) f
end L2
namespace An
open PySem PySem.Spec PyProof.Rows L2
def HM(a b:Str):(Prop):=¬b.cps.toList<a.cps.toList
def Rh(h1:HM a b)(h2:HM b c):HM a c:=US.mpr<|List.le_trans h1 h2
def GS(h1:HM a b)(h2:HM b a):a=b:=by let e:=List.le_antisymm (US.mp h1)<|US.mp h2;let:=wR e
def BO:∀(l:By)(p:Str),risingS p l=Eg->(p::l).Pairwise HM
 |[],p,_=>Vl ..|x::r,p,h=>by
  let h:(!ltCps ..&&risingS x r)=Eg:=h;rw[ZQ,ltCps_eq]at h;let b:HM p x:=λz=>by simp_all
  let e:=BO r x h.2;let:=UH.mpr #[λy c=>?_,e];rcases ZJ.mp c with rfl|c;.let:=b
  .let:=Rh b<|by simp_all
def qD:∀{l:By},sortedS l=Eg->l.Pairwise HM|[],_=>by simp|x::r,h=>BO r x h
def XB:(By->Bool)|[]=>Eg|x::r=>r.all (λy=>decide<|x.cps.toList<y.cps.toList)&&XB r
def nU:∀{l:By},XB l=Eg↔l.Pairwise HM/\l.Nodup
 |[]=>#[λ_=>#[List.Pairwise.nil,YM],λ_=>rfl]|x::r=>by
  show(r.all _&&XB r)=Eg↔_;rw[ZQ,nU,Yc,UH,YC];constructor
  .rintro⟨h1,h2,h3⟩;let:=#[#[λy b=>?_,h2],λz=>?_,h3];.have:=ZT<|h1 y b;let:=λz=>UG _<|List.lt_trans this z
   .let:=UG _<|ZT<|h1 x z
  .rintro⟨⟨h1,h2⟩,h3,h4⟩;let:=#[λy b=>ZK ?_,h2,h4];by_cases z:x.cps.toList<y.cps.toList;.let:=z
   .have:=GS (h1 y b) z;let:=absurd (this▸b) h3
def uW{c:By}{k:Str}(h:c.Nodup):(AxS.step c k).Nodup:=by
 unfold AxS.step;split;.let:=h
 .rename_i z;rw[YS];let:=#[h,by simp,λa ha b hb=>ZC.mp hb▸λe=>z<|e▸ha]
def G2:∀(xs ks:By),ks.Nodup->(xs.foldl AxS.step ks).Nodup|[],ks,h=>h|x::xs,ks,h=>G2 xs _<|uW h
def fold_all:∀(xs ks:By),(ks++xs).Nodup->xs.foldl AxS.step ks=ks++xs
 |[],ks,_=>by simp|x::xs,ks,h=>by
  let e:AxS.step ks x=ks++[x]:=by unfold AxS.step;rw[ZX];intro z;let:=(YS.mp h).2.2 x z x ZD rfl
  rw[VY,e,fold_all xs _<|by simp_all,Y1];rfl
def OA(xs:By):(AxS.uniq xs).Nodup:=G2 xs [] YM
def B0{xs:By}(h:xs.Nodup):AxS.uniq xs=xs:=fold_all xs [] h
def Kr:∀(xs ks:By){x:Str},x∈xs.foldl AxS.step ks->x∈ks\/x∈xs
 |[],ks,x,h=>.inl h|y::xs,ks,x,h=>by
  rcases Kr xs _ h with z|z
  .unfold AxS.step at z;split at z;.let:=.inl z
   .rcases ZY.mp z with z|z;.let:=.inl z
    .let:=.inr<|ZJ.mpr<|.inl<|ZC.mp z
  .let:=.inr<|ZB _ z
def Ws{xs:By}(h:x∈AxS.uniq xs):x∈xs:=(Kr xs [] h).elim (λz=>nomatch z) id
def On{xs ss:By}(c:ss.Perm<|AxS.uniq xs)(hs:sortedS ss=Eg):decide (xs=ss)=XB xs:=by
 rw[YV,Z6,nU];constructor;.intro e;subst e;let:=#[qD hs,c.nodup_iff.mpr<|OA _]
 .rintro⟨h1,h2⟩;rw[B0 h2]at c;let:=(Ve (λa b _ _=>GS) (qD hs) h1 c).symm
end An
namespace PySem.SeqAt
open MeetsSeq PyProof.Rows
end PySem.SeqAt
namespace PySem.W
open PySem PySem.Spec PySem.Calls PyProof.Rows Builtin Builtin.ObjectAttr Builtin.Getset_descriptor
section
variable{K:Frag}{x D:Er}{ox:Obj}
structure tX(K:Frag)(D:Er):Prop where
 ga:findIn K (.ref D) "__getattribute__"=A0 (A0<|.builtin "BaseException.__getattribute__")hk:findIn K (.ref D) "__getattr__"=A0 Ee
 ha:findIn K (.ref D) "__class__"=A0 (A0<|.builtin "object.__class__")hn:specialIn K (.builtin "object.__class__") "__get__"=A0 (A0<|.builtin "getset_descriptor.__get__")htk:takesIn K (.builtin "object.__class__")=A0 Eg
 hm:mroIn K D (.type "object")=A0 Eg
 hb:subIn K (.ref D) (.type "BaseException")=A0 Eg
 cl:(clsIn K D).isSome=Eg
structure oF(h:EH)(x D:Er):Prop where ex:∃o,h.get? x=A0 o/\o.cls=.ref D/\notCls o=Eg
def oF.type{M:Model}(I:oF h x D):Looks M h (typeOf<|.ref x)<|.ref D:=by let#[o,c,b,_]:=I.ex;let:=b▸(Looks.ld c).andThen .now
def Bm{b:Es}(X:K.In s.heap)(I:oF s.heap x D)(hm:mroIn K D (.type "object")=A0 Eg)(h:R (.ok<|.ret<|.ref D) s):LP (EC prog w) A (.call (.builtin "getset_descriptor.__get__") #[[.builtin "object.__class__",.ref x,b],[]]) R s:=by
 let#[i,g,f,t,os]:=s;let c:=I.type (M:=EC prog w);let e:=looks_mroIn (M:=EC prog w) X hm;let:=VG KF.slot_gs.plain KF.entry_gs<|KF.slot_gs.check _ _ _ _ _ _ _ _ KF.type_class (KF.args_gs _ _ _) ?_;unfold Builtin.«getset_descriptor.__get__» descrGet;rw[dga_obj];let:=Zz<|ZF ?_;unfold descrGetter descrCheckInstance descrNameAndClass isInstance;simp only[KF.owner_class];repeat lk
 let:=#[Code.quiet_builtin _<|by lk,Jg KF.entry_class ?_];repeat lk
 let:=h
def Sh{M:Model}{h:EH}(X:K.In h)(k:tX K D):Looks M h (find (.ref x) (.ref D) "__class__")<|.bind (.builtin "getset_descriptor.__get__")<|.builtin "object.__class__":=by let b:=looks_findIn (M:=M) X k.ha;let c:=looks_specialIn (M:=M) X k.hn;let e:=looks_takesIn (M:=M) X k.htk;let:=b.andThen<|Looks.andThen c<|Looks.andThen (e.andThen .now)<|Looks.tag .now
def PV{M:Model}{c:Es}{Q:Unit->Dg}(k:tX K D)(X:K.In s.heap)(I:oF s.heap x D)(hq:Q () s):EA M A (checkBuiltinCall "BaseException.__getattribute__" #[[.ref x,c],[]]) Q E s:=by
 let hk:builtinKind "BaseException.__getattribute__"=A0 .slot:=by lk
 let b:splitId "BaseException.__getattribute__"=A0 ("BaseException","__getattribute__"):=by lk
 let e:=I.type (M:=M);let f:=looks_subIn (M:=M) X k.hb;simp only[checkBuiltinCall,hk,b];let:=Zz ?_
 .repeat(first|lk|wp_step)
  let:=hq
def PY{e:Tok}{Q:Fin->Dg}(k:tX K D)(X:K.In s.heap)(I:oF s.heap x D)(hq:Q (.done<|.ret<|.ref D) s):EA (EC prog w) A (Builtin.«object.__getattribute__» #[[.ref x,.str "__class__" e],[]]) Q E s:=by let b:=I.type (M:=EC prog w);let c:=Sh (M:=EC prog w) (x:=x) X k;let:=Zz<|ZF<|Zz<|ZF<|Zz<|b.at<|Zz<|c.at<|Zz<|Ys<|VZ<|Bm X I k.hm<|ZF hq
def PX{Q:Db->Dg}(k:tX K D)(X:K.In s.heap)(I:oF s.heap x D)(h:Q (A0<|.ref D) {s with toks:=s.toks+1}):EA (EC prog w) A (getAttr? (.ref x) "__class__") Q E s:=by let b:=I.type (M:=EC prog w);let c:=looks_findIn (M:=EC prog w) X k.ga;let e:=looks_findIn (M:=EC prog w) X k.hk;let:=Zz<|wpAny_mkText<|Zz<|Ju<|Ys<|Zz<|b.at<|Zz<|c.at<|Zz<|e.at<|Zz<|Ju<|Ys ?_;show EA _ _ (boundAndCalled _ _ _) _ _ _;let:=VZ<|VG F.attr_ValueError.ga.plain F.entry_bexc_ga<|PV k X I<|PY k X I<|handed_on rfl<|ZF h
def zy8(k:tX K D):KitX K (.ref x) (.ref D) λh=>oF h x D where
 ty:=λ_ _ _ I=>I.type
 it:=λ_ _ X _=>by
  let#[f,b]:=Yx.mp k.cl;unfold clsIn at b;split at b;.rename_i l o c j g;intro r t s v k q;let:=Zz<|wpAny_loadPart (k _ _<|X _ _ g)<|ZF q
  .cases b
 ne:=λh w u p n sl X i=>by
  let#[f,b]:=Yx.mp k.cl;let:=Vz.mpr λq=>?_;let e:=Value.ref.inj<|Vc.mp q;subst e;unfold clsIn at b;split at b;.rename_i l o c j g;let z:=(X _ _ g).symm.trans i;cases z
  .cases b
 ca:=PX k
end
end PySem.W
namespace L2
open PySem PySem.Spec PyProof.Rows
inductive zzD(K:CK)(c:Es)(cv:V)(xs:Di)(H:Hp)(Q:VK):Prop|mk(a D:Er)(b:Bool)(h0:xs=[.ref a,cv])(h1:H a=A0 (Xl a<|.ref D))(h2:PySem.W.tX K D)(h3:E3 K (.ref D) c=A0 b)(h4:Q (.bl b) H):zzD K c cv xs H Q
def OR{a D:Er}{b:Bool}{c:Es}{Q:VK}(I:Inv X Dp σ H s)(ha:H a=A0 (Xl a<|.ref D))(k:PySem.W.tX X.K D)(e:E3 X.K (.ref D) c=A0 b)(q:Q (.bl b) H):EA (EC X.prog X.w) X.A (call (.builtin "isinstance") [.ref a,c]) (EP X Dp σ Q) X.xe s:=by let#[#[o,g,h1,h2,h3,_]]:=I.hok a _ ha;let:=YL (PySem.W.zy8 k) I.sJ #[o,h1,h2,?_] e (λz=>nomatch z) λf=>#[.bl b,H,I.tok _,Ej,q];unfold PySem.W.notCls;rw[h3]
def yG(f:X.K=K:=by rfl){C:Er}:xq X (.builtin "isinstance")<|zzD K (.ref C)<|.ref C:=by subst f;intro i s n H xs j Q I r h;let#[a,D,b,rfl,ha,k,e,q]:=h;let#[u,l,rfl,g,c]:=vals2 r;cases g;cases c;let:=OR I ha k e q
def Bl(f:X.K=K:=by rfl){T:String}:xq X (.builtin "isinstance")<|zzD K (.type T)<|.ty T:=by subst f;intro i s n H xs j Q I r h;let#[a,D,b,rfl,ha,k,e,q]:=h;let#[u,l,rfl,g,c]:=vals2 r;cases g;cases c;let:=OR I ha k e q
end L2
namespace AxK
structure TO(β:Type)where
 lt:β->β->Bool
 asy:∀a b,lt a b=Eg->lt b a=Ei
 tra:∀a b c,lt b a=Ei->lt c b=Ei->lt c a=Ei
 ant:∀a b,lt a b=Ei->lt b a=Ei->a=b
section
variable{β γ:Type}{O:TO β}
def TO.le(O:TO β)(a b:β):(Prop):=O.lt b a=Ei
def TO.refl(O:TO β)(a:β):O.le a a:=by show O.lt a a=Ei;cases h:O.lt a a with|false=>rfl|true=>let:=h.symm.trans<|O.asy a a h
def TO.of_lt{a b:β}(h:O.lt a b=Eg):O.le a b:=O.asy a b h
def TO.trans{a b c:β}(h1:O.le a b)(h2:O.le b c):O.le a c:=O.tra a b c h1 h2
def TO.nat:(TO Nat):=#[λa b=>decide<|a<b,λa b h=>by have:=ZT h;let:=ZZ<|⋯,λa b c h1 h2=>by have:=JM h1;have:=JM h2;let:=ZZ<|⋯,λa b h1 h2=>by have:=JM h1;have:=JM h2;lia]
def xL(O:TO β):(List β->List β->Bool)|[],[]=>Ei|[],_::_=>Eg|_::_,[]=>Ei|a::as,b::bs=>O.lt a b||!O.lt b a&&xL O as bs
def KI(O:TO β):∀a b:List β,xL O a b=Eg->xL O b a=Ei|[],[],h=>rfl|[],_::_,_=>rfl|_::_,[],h=>nomatch h|a::as,b::bs,h=>by unfold xL at h ⊢;cases h1:O.lt a b with|true=>rw[O.asy _ _ h1];simp|false=>simp_all[KI]
def KH(O:TO β):∀a b:List β,xL O a b=Ei->xL O b a=Ei->a=b
 |[],[],_,_=>rfl|[],_::_,h,_=>nomatch h|_::_,[],_,h=>nomatch h|a::as,b::bs,h1,h2=>by
  let h1:=Vb.mp h1;let h2:=Vb.mp h2;let e:=O.ant _ _ h1.1 h2.1;let c:=by have:=h1.2;rw[h2.1]at this;simpa using this
  let f:=by have:=h2.2;rw[h1.1]at this;simpa using this
  rw[e,KH O as bs c f]
def KK(O:TO β):∀a b c:List β,xL O b a=Ei->xL O c b=Ei->xL O c a=Ei|[],[],c,_,h=>h|[],_::_,[],_,_=>rfl|[],_::_,_::_,_,_=>rfl|_::_,[],c,h,_=>nomatch h|_::_,_::_,[],_,h=>nomatch h|a::as,b::bs,c::cs,h1,h2=>by unfold xL at h1 h2 ⊢;let h1:=Vb.mp h1;let h2:=Vb.mp h2;rw[O.tra _ _ _ h1.1 h2.1,Bool.false_or];cases q:O.lt a c with|true=>rfl|false=>
   let e:=O.ant _ _ q<|O.tra _ _ _ h1.1 h2.1;let f:O.lt a b=Ei:=e▸h2.1;let g:O.lt b c=Ei:=e▸h1.1;let i:=by have:=h1.2;rw[f]at this;simpa using this
   let j:=by have:=h2.2;rw[g]at this;simpa using this
   rw[KK O as bs cs i j];rfl
def TO.list(O:TO β):(TO<|List β):=#[xL O,KI O,KK O,KH O]
def TO.by_(O:TO β)(f:γ->β)(h:∀a b,f a=f b->a=b):(TO γ):=#[λa b=>O.lt (f a)<|f b,λa b=>O.asy _ _,λa b c=>O.tra _ _ _,λa b h1 h2=>h a b<|O.ant _ _ h1 h2]
end
open PySem PySem.W PyProof.Rows
def run{b:Type}(lt:Nat->Nat->Bool):(KasT b->b)|.ret a=>a|.ask i j k=>run lt<|k<|lt i j
def run_bind{b c:Type}{f:b->KasT c}:∀t:KasT b,run lt (t.bind f)=run lt (f<|run lt t)|.ret _=>rfl|.ask i j k=>run_bind<|k _
section
variable{β:Type}{O:TO β}{key:Nat->β}
def kn(key:Nat->β)(p:Array Nat)(i:Nat):(β):=key<|p.getD i 0
def Up(O:TO β)(key:Nat->β)(p:Array Nat)(n:Nat):(Prop):=∀i j,i<=j->j<n->O.le (kn key p i) (kn key p j)
def Down(O:TO β)(key:Nat->β)(p:Array Nat)(n:Nat):(Prop):=∀i j,i<=j->j<n->O.le (kn key p j) (kn key p i)
def Kz{p q:Array Nat}{j:Nat}(h:p[i]?=q[j]?):kn key p i=kn key q j:=by unfold kn;simp_all
def Up.snoc(h1:1<=n)(h:Up O key p n)(hl:O.le (kn key p<|n-1)<|kn key p n):Up O key p<|n+1:=λi j b c=>by
 by_cases z:j<n;.let:=h i j b z
 .let z:j=n:=⋯;subst z;by_cases z:i=j;.subst z;let:=O.refl _
  .let:=TO.trans (h i _ ⋯<|⋯) hl
def Down.snoc(h1:1<=n)(h:Down O key p n)(hl:O.le (kn key p n)<|kn key p<|n-1):Down O key p<|n+1:=λi j b c=>by
 by_cases z:j<n;.let:=h i j b z
 .let z:j=n:=⋯;subst z;by_cases z:i=j;.subst z;let:=O.refl _
  .let:=TO.trans hl<|h i _ ⋯<|⋯
def one_up(p:Array Nat):Up O key p 1:=λi j b c=>by have:i=j:=⋯;subst this;let:=O.refl _
def NB:∀(f n:Nat),1<=n->Up O key p n->∃m,run (λi j=>O.lt (key i)<|key j) (kas_asc p f n)=m/\n<=m/\m<=n+f/\Up O key p m/\(m=n+f\/O.lt (kn key p m) (kn key p<|m-1)=Eg)|0,n,_,h=>#[n,Ej,ZG _,ZG _,h,.inl rfl]|f+1,n,h1,h=>by show∃m,run _ (if O.lt (kn key p n) (kn key p _)=Eg then KasT.ret n else kas_asc p f _)=m/\_;cases q:O.lt ..with|true=>let:=#[n,by rfl,ZG _,⋯,h,.inr q]|false=>let#[a,b,c,d]:=NB f _ ⋯<|h.snoc h1 q;lia
def Oj{p:Array Nat}{j:Nat}(b:j<=p.size)(k:Nat):kn key (kas_rev p i j) k=if i<=k/\k<j then kn key p<|i+j-1-k else kn key p k:=by
 let e:=getElem?_mirror_all (i:=i) b k;by_cases z:i<=k/\k<j;.rw[Z4 z]at e ⊢;let:=Kz e
 .rw[ZX z]at e ⊢;let:=Kz e
def G0{p:Array Nat}{j:Nat}(b:j<=p.size)(h:∀k,i<=k->k<j->kn key p k=kn key p (j-1))(k:Nat):kn key (kas_rev p i j) k=kn key p k:=by rw[Oj b];grind
def xK(p:Array Nat)(i j:Nat):(kas_rev p i j).Perm p:=mirror_perm ..
def Down.zy9(h:Down O key p n)(e:∀k,kn key q k=kn key p k):Down O key q n:=λi j h1 h2=>by rw[e,e];let:=h i j h1 h2
def Flat(key:Nat->β)(p:Array Nat)(n q:Nat):(Prop):=q+1<=n/\∀i,n-(q+1)<=i->i<n->kn key p i=kn key p (n-1)
def Gw(h:1<=n):Flat key p n 0:=#[h,λi h1 h2=>by grind]
def IC:∀(f:Nat)(p:Array Nat)(n q:Nat),1<=n->n+f<=p.size->Down O key p n->Flat key p n q->∃p' n' q',run (λi j=>O.lt (key i)<|key j) (kas_desc f p n q)=(p',n',q')/\p'.Perm p/\n<=n'/\n'<=n+f/\Down O key p' n'/\Flat key p' n' q'
 |0,p,n,q,_,_,h,hq=>#[p,n,q,Ej,Array.Perm.refl _,ZG _,ZG _,h,hq]|f+1,p,n,q,h1,hz,h,hq=>by
  show∃p' n' q',run _ (if O.lt (kn key p n) _=Eg then if q>0 then kas_desc f _ (n+1) 0 else kas_desc f p (n+1) 0 else .ask _ (p.getD n 0) λd=>if d=Eg then .ret (p,n,q)else kas_desc f p (n+1)<|q+1)=(p',n',q')/\_
  cases c:O.lt (kn key p n) _ with|true=>
   rw[Z4 rfl];let hd:=h.snoc h1<|TO.of_lt c;by_cases z:q>0;.rw[Z4 z];let o:=G0 ⋯ hq.2;let#[p',n',q',e,a,b,d,g,k]:=IC f _ (n+1) 0 ⋯ (by rw[(xK p _ _).size_eq];lia) (hd.zy9 o)<|Gw<|⋯;let:=#[p',n',q',e,a.trans<|xK _ _ _,⋯,⋯,g,k]
   .rw[ZX z];let#[p',n',q',e,a,b,d,g,k]:=IC f p (n+1) 0 ⋯ ⋯ hd<|Gw<|⋯;let:=#[p',n',q',e,a,⋯,⋯,g,k]|false=>rw[ZX<|∅];show∃p' n' q',run _ (if O.lt _ (kn key p n)=Eg then KasT.ret (p,n,q)else kas_desc f p (n+1)<|q+1)=(p',n',q')/\_;cases d:O.lt _ _ with
   |true=>let:=#[p,n,q,by rw[Z4 rfl];rfl,Array.Perm.refl _,ZG _,⋯,h,hq]
   |false=>rw[ZX<|∅];let eq:=O.ant _ _ c d;let o:Flat key p (n+1)<|q+1:=#[by have:=hq.1;lia,λi r s=>by
     rw[show n+1-1=n by lia];by_cases z:i=n;.rw[z]
     .rw[eq];let:=hq.2 i ⋯<|⋯];let#[p',n',q',e,a,b,g,k,l]:=IC f p (n+1) (q+1) ⋯ ⋯ (h.snoc h1 d) o;let:=#[p',n',q',e,a,⋯,⋯,k,l]
def Np{p:Array Nat}(h1:1<=n)(hn:n<=DA)(o:DA<=p.size)(h:Down O key p n):∃m p',run (λi j=>O.lt (key i)<|key j) (kas_tail3 n DA p)=(m,p')/\p'.Perm p/\1<=m/\m<=DA/\Up O key p' m:=by
 let g:Up O key (kas_rev p 0 n) n:=λi j f l=>by rw[Oj<|⋯,Oj<|⋯,Z4<|⋯,Z4<|⋯];let:=h _ _ ⋯ ⋯
 let#[m,e,a,b,c,_]:=NB (DA-n) n h1 g;let:=#[m,_,?_,xK ..,⋯,⋯,c];unfold kas_tail3;rw[run_bind,e];rfl
def Io{p:Array Nat}(hn:n+1<=DA)(v:DA<=p.size)(h:Down O key p<|n+1):∃m p',run (λi j=>O.lt (key i)<|key j) (kas_descPart n DA p)=(m,p')/\p'.Perm p/\1<=m/\m<=DA/\Up O key p' m:=by
 let#[p',x,w,e,a,b,c,d,t]:=IC (DA-(n+1)) p _ 0 ⋯ ⋯ h<|Gw<|⋯;let g:=a.size_eq▸v;unfold kas_descPart;rw[run_bind,e];by_cases z:w>0;.rw[Z4 z];let u:=G0 ⋯ t.2;let#[m,f,s,l,o,q,r]:=Np (DA:=DA) ⋯ ⋯ ((xK p' ..).size_eq▸g)<|d.zy9 u;let:=#[m,f,s,(l.trans<|xK ..).trans a,o,q,r]
 .rw[ZX z];let#[m,f,s,l,o,q,r]:=Np (DA:=DA) ⋯ ⋯ g d;let:=#[m,f,s,l.trans a,o,q,r]
def RY{p:Array Nat}(h1:1<=DA)(s:DA<=p.size):∃m p',run (λi j=>O.lt (key i)<|key j) (kas_count DA p)=(m,p')/\p'.Perm p/\1<=m/\m<=DA/\Up O key p' m:=by
 let#[n,e,a,b,c,d]:=NB (DA-1) 1 (ZG _)<|one_up p;unfold kas_count;rw[run_bind,e];by_cases z:n=DA;.rw[Z4<|by simpa using z];let:=#[n,p,Ej,Array.Perm.refl _,a,⋯,c]
 rw[ZX<|by simpa using z];let l:=d.resolve_left ⋯;by_cases g:n>1;.rw[Z4 g];show∃m p',run _ (if O.lt (kn key p 0) (kn key p<|n-1)=Eg then KasT.ret (n,p)else kas_descPart n DA<|kas_rev p 0 n)=(m,p')/\_;cases q:O.lt (kn key p 0) _ with|true=>rw[Z4 rfl];let:=#[n,p,Ej,Array.Perm.refl _,a,⋯,c]|false=>
   rw[ZX<|∅];let f:∀k,0<=k->k<n->kn key p k=kn key p (n-1):=λk _ hk=>O.ant _ _ (TO.trans q<|c 0 k ⋯ hk)<|c k (n-1) ⋯<|⋯;let A:=G0 ⋯ f;let x:Down O key p n:=λi j o r=>by rw[f i ⋯<|⋯,f j ⋯ r];let:=O.refl _
   let#[m,p',y,t,u,v,w]:=Io ⋯ ((xK p ..).size_eq▸s)<|(x.snoc a<|TO.of_lt l).zy9 A;let:=#[m,p',y,t.trans<|xK ..,u,v,w]
 .rw[ZX g];let g:n=1:=⋯;subst g;let:=Io ⋯ s<|Down.snoc (ZG _) (λi j o r=>by have:i=j:=⋯;subst this;let:=O.refl _)<|TO.of_lt l
def GP(hs:Up O key p k):∀(f l r:Nat),l<=r->r<=k->r-l<=f->(∀i,i<l->O.le (kn key p i) (kn key p k))->(∀i,r<=i->i<k->O.lt (kn key p k) (kn key p i)=Eg)->∃m,run (λi j=>O.lt (key i)<|key j) (kas_place p k f l r)=m/\m<=k/\(∀i,i<m->O.le (kn key p i) (kn key p k))/\∀i,m<=i->i<k->O.lt (kn key p k) (kn key p i)=Eg
 |0,l,r,h1,h2,h3,h4,h5=>#[l,Ej,⋯,h4,λi c b=>h5 i ⋯ b]|f+1,l,r,h1,h2,h3,h4,h5=>by
  unfold kas_place;by_cases z:l≥r;.rw[Z4 z];let:=#[l,Ej,⋯,h4,λi c b=>h5 i ⋯ b]
  rw[ZX z];show∃m,run _ (if O.lt (kn key p k) (kn key p _)=Eg then kas_place p k f l _ else kas_place p k f _ r)=m/\_;cases q:O.lt _ _ with
  |true=>rw[Z4 rfl];let:=GP hs f l _ ⋯ ⋯ ⋯ h4 λi c b=>?_;cases w:O.lt _ _ with|true=>rfl|false=>have:=O.tra _ _ _ (hs _ _ c b) w;rw[q]at this;let:=this.symm
  |false=>rw[ZX<|∅];let:=GP hs f _ r ⋯ ⋯ ⋯ (λi c=>TO.trans (hs i _ ⋯<|⋯) q) h5
def BE{p:Array Nat}{k l:Nat}(hk:k<p.size)(hl:l<=k)(i:Nat):kn key (bubble p k<|k-l) i=if i=l then kn key p k else if l<i/\i<=k then kn key p<|i-1 else kn key p i:=by
 let e:=getElem?_bubble hk (k-l) ⋯ i;rw[show k-(k-l)=l by lia]at e;by_cases z:i=l;.rw[Z4 z]at e ⊢;let:=Kz e
 .rw[ZX z]at e ⊢;by_cases z:l<i/\i<=k;.rw[Z4 z]at e ⊢;let:=Kz e
  .rw[ZX z]at e ⊢;let:=Kz e
def RU:∀(f:Nat)(p:Array Nat)(k:Nat),k+f<=p.size->Up O key p k->∃p',run (λi j=>O.lt (key i)<|key j) (kas_bin f p k)=p'/\p'.Perm p/\Up O key p' (k+f)
 |0,p,k,_,h=>#[p,Ej,Array.Perm.refl _,h]|f+1,p,k,hz,h=>by
  let#[m,e,a,b,c]:=GP h k 0 k ⋯ (ZG _) ⋯ (λi r=>⋯) λi t u=>⋯;let o:Up O key (bubble p k _)<|k+1:=λi j n s=>by
   rw[BE ⋯ a,BE ⋯ a];repeat' split
   all_goals first|(exfalso;lia)|let:=O.refl _|grind|let:=TO.of_lt<|c _ ⋯<|⋯|let:=h _ _ ⋯ ⋯
  let#[p',l,g,q]:=RU f _ _ (by rw[bubble_size];lia) o;unfold kas_bin;rw[run_bind,e];let:=#[p',l,g.trans<|bubble_perm _ _ _,⋯]
def Pn(h1:1<=n):∃p',run (λi j=>O.lt (key i)<|key j) (kas_sort n)=p'/\p'.Perm (LQ<|EK n)/\Up O key p' n:=by
 let o:(LQ<|EK n).size=n:=by simp
 let#[m,p',e,a,b,c,d]:=RY h1<|Va o.symm;unfold kas_sort;rw[run_bind,e];let em:max m 1=m:=⋯;rw[em];by_cases z:m<n;.rw[Z4 z];let#[f,l,g,p]:=RU (n-m) p' m (by rw[a.size_eq];lia) d;let:=#[f,l,g.trans a,by grind]
 .rw[ZX z];let z:m=n:=⋯;rw[z]at d;let:=#[p',Ej,a,d]
end
def Asks(n:Nat){c:Type}(R:c->Prop):(KasT c->Prop)|.ret a=>R a|.ask i j k=>i<n/\j<n/\∀b,Asks n R<|k b
def Asks.bind{n:Nat}{c l:Type}{R:c->Prop}{e:l->Prop}{f:c->KasT l}(g:∀a,R a->Asks n e (f a)):∀{t:KasT c},Asks n R t->Asks n e (t.bind f)|.ret a,h=>g a h|.ask i j k,h=>#[h.1,h.2.1,λb=>Asks.bind g<|h.2.2 b]
def Asks.wp{n:Nat}{c:Type}{R:c->Prop}{b:Nat->Nat->(Bool->Dg)->Dg}{lt:Nat->Nat->Bool}{s:Eu}(e:∀i j,i<n->j<n->∀C:Bool->Dg,C (lt i j) s->b i j C s){Q:c->Dg}:∀{t:KasT c},Asks n R t->Q (run lt t) s->t.kasWp b Q s|.ret _,_,q=>q|.ask i j k,h,q=>e i j h.1 h.2.1 _<|Asks.wp e (h.2.2 _) q
def Bd(n:Nat)(p:Array Nat):(Prop):=∀i:Nat,p.getD i 0<n
def Bd.perm{q:Array Nat}(h:Bd n p)(e:q.Perm p):Bd n q:=λi=>by
 rw[YG];rcases VL i _ with z|z;.let hm:=e.mem_iff.mp<|Array.getElem_mem z;let#[j,c,b]:=Array.getElem_of_mem hm;have:=h j;simp_all
 .have:=h p.size;simp_all
def Gg{n:Nat}(h:Bd n p):∀f m:Nat,Asks n (λ_=>True)<|kas_asc p f m|0,m=>trivial|f+1,m=>#[h _,h _,λc=>by
  show Asks n _<|if c=Eg then KasT.ret m else kas_asc p f _;split;.trivial
  .let:=Gg h f _]
def kY{n:Nat}:∀(f:Nat)(p:Array Nat)(m q:Nat),Bd n p->Asks n (λr=>Bd n r.1) (kas_desc f p m q)|0,p,m,q,h=>h|f+1,p,m,q,h=>#[h _,h _,λc=>by
  cases c with|true=>
   split;.let:=kY f _ _ _<|h.perm<|xK ..
   .let:=kY f _ _ _ h|false=>let:=#[h _,h _,λd=>?_];cases d with|true=>let:=h|false=>let:=kY f _ _ _ h]
def IS{m r:Nat}(h:Bd n p):Asks n (λr=>Bd n r.2)<|kas_tail3 m r p:=by let b:Bd n<|kas_rev p 0 m:=h.perm<|xK ..;let:=Asks.bind (λa _=>?_)<|Gg b ..;let:=b
def uB{m r:Nat}(h:Bd n p):Asks n (λr=>Bd n r.2)<|kas_descPart m r p:=by
 let:=Asks.bind (λa ha=>?_)<|kY _ _ _ _ h;split;.let:=IS<|Bd.perm ha<|xK ..
 .let:=IS ha
def NI{r:Nat}(h:Bd n p):Asks n (λr=>Bd n r.2)<|kas_count r p:=by
 let:=Asks.bind (λa _=>?_)<|Gg h ..;split;.let:=h
 .split;.let:=#[h _,h _,λc=>?_];cases c with|true=>let:=h|false=>let:=uB<|h.perm<|xK ..
  .let:=uB h
def uN{n:Nat}{k:Nat}(h:Bd n p):∀f l r:Nat,Asks n (λ_=>True)<|kas_place p k f l r
 |0,l,r=>trivial|f+1,l,r=>by
  unfold kas_place;split;.trivial
  .let:=#[h _,h _,λc=>?_];cases c with|true=>let:=uN h f ..|false=>let:=uN h f ..
def HW{n:Nat}:∀(f:Nat)(p:Array Nat)(k:Nat),Bd n p->Asks n (λr=>Bd n r) (kas_bin f p k)|0,p,k,h=>h|f+1,p,k,h=>Asks.bind (λl _=>HW f _ _<|h.perm<|bubble_perm ..)<|uN h ..
def Rz(h1:1<=n):Asks n (λr=>Bd n r)<|kas_sort n:=by
 let h:Bd n _:=λi=>by
  rw[YG,Uj];rcases VL i n with z|z;.rwa[VS z]
  .rwa[Jd<|YT▸z]
 let:=Asks.bind (λa ha=>?_)<|NI h;split;.let:=HW _ _ _ ha
 .let:=ha
end AxK
namespace L2
open PySem PySem.Spec PyProof.Rows PySem.W AxK
def Go{a:Er}{vs:Da}{κ:SortKind}{lt:Nat->Nat->Bool}{P:PySem.Fin->Dg}(B:s.heap.get? a=A0 (Lq "list" vs.toArray n))(y:`vs<64)(hk:2<=`vs->∀s1:Eu,(∀b o,b≠a->s.heap.get? b=A0 o->s1.heap.get? b=A0 o)->(∀(Q:SortKind->Dg)(E':Es->Dg),Q κ s1->EA (EC prog w) A (keyKind' vs.toArray) Q E' s1)/\∀i j,i<`vs->j<`vs->∀C:Bool->Dg,C (lt i j) s1->kas_ask prog w A κ vs i j C s1)(h:∀p:Array Nat,`vs<2/\p=LQ (EK `vs)\/2<=`vs/\p=run lt (kas_sort `vs)->P (.done<|.ret .none) {s with heap:=sortedHeap s.heap a vs<|LQ<|p.toList.map λi=>vs.getD i EY}):EA (EC prog w) A (Builtin.«list.sort» #[[.ref a],[]]) P E s:=by
 let#[n1,u]:∃J,(s.heap.update a _).get? a=A0 (Lq "list" #v[] J):=#[_,get?_update_seq B λ_=>#v[]];let c:(((s.heap.update a _).push<|Lq "tuple" vs.toArray 0).push<|Lq "list" #v[] 0).get? a=A0 (Lq "list" #v[] n1):=ZE _<|ZE _ u;let keep:∀b o,b≠a->s.heap.get? b=A0 o->(((s.heap.update a<|Lg λ_=>(#v[]:Array Es)).push<|Lq "tuple" vs.toArray 0).push<|Lq "list" #v[] 0).get? b=A0 o:=λb o hb q=>ZE _<|ZE _<|by rwa[Heap.get?_update_ne _ _ _ _ hb]
 let f:vs.toArray.size=`vs:=by simp
 rw[list_sort_plain];let:=Zz<|listItems_at B rfl<|Zz<|UW B rfl (Zz<|seqEpoch_at u rfl<|Zz<|wpAny_newTuple (Zz<|wpAny_newList (Ys ?_)<|Yk _)<|by show`vs<=_;rw[Y2];lia) (by rw[Z7,Y2];lia)<|Yk _;dsimp only;by_cases h2:`vs<2
 .let t:=h _<|.inl #[h2,Ej];let K:=by let e:=kas_range<|vs.toArray.zip vs.toArray;rw[show(vs.toArray.zip vs.toArray).size=`vs by simp]at e;let:=(kat_snds (vs:=vs) (st:=SortSt.mk' general' (vs.toArray.zip vs.toArray) #v[] 7 Ee) rfl e.symm).symm
  rw[K]at t;rw[Z4<|by rwa[f],Z4<|by rwa[f]];let:=Zz<|ZF ?_;rw[StateT.run_pure];let:=Zz<|ZF ?_;dsimp only;let:=Zz (seqEpoch_at c rfl<|Zz<|UW c rfl ?_ (Yk _)<|by grind[UK,Array.size_zip,Nat.min_self,Y2]);simp only[bne_self_eq_false,V2,if_false];let:=ZF t
 .let r:2<=`vs:=⋯;rw[ZX<|by rwa[f],ZX<|by rwa[f]];let#[k1,k2]:=hk r {s with heap:=((s.heap.update a<|Lg λ_=>(#v[]:Array Es)).push<|Lq "tuple" vs.toArray 0).push<|Lq "list" #v[] 0} keep;let:=Zz<|k1 _ _ ?_;let l:(kas_sort `vs).kasWp (kas_ask prog w A κ vs) (λp x=>p=run lt (kas_sort `vs)/\x={s with heap:=((s.heap.update a<|Lg λ_=>#v[]).push<|Lq "tuple" vs.toArray 0).push<|Lq "list" #v[] 0}) _:=(Rz<|⋯).wp k2 #[Ej,Ej];let:=Zz<|YO (kat_run (Q:=λg x=>arrOf g=(run lt<|kas_sort `vs).map _/\failedOf g=Ee/\(run lt<|kas_sort `vs).size=`vs/\x={s with heap:=((s.heap.update a<|Lg λ_=>(#v[]:Array Es)).push _).push<|Lq "list" #v[] 0}) rfl r y (λR g x D F G H=>by let#[rfl,rfl]:=H;let:=#[F,G,D,Ej]) l) ?_ λ_ _ e=>e;rintro⟨⟨⟩,g⟩ x ⟨z,L,N,rfl⟩;let v:=kat_snds rfl z;rw[v];let:=Zz (seqEpoch_at c rfl<|Zz<|UW c rfl ?_ (Yk _)<|by grind[Z7,ZA,Ye,Y2]);rw[L];simp only[bne_self_eq_false,V2,if_false];let:=ZF<|h _<|.inr #[r,Ej]
def XE(T:String):(EB->Prop)|.tuple<|.int _::_=>T="int"|.tuple<|.str _::_=>T="str"|.tuple<|.tuple _::_=>T="tuple"|_=>False
def bT(h c:EH)(d:EB):(Prop):=∀(v:Es)(b:Dc),d.canLay0=Eg->Reads h v d b->Reads c v d b
def WB(h f:EH)(b:De):(Prop):=∀(e:Da)(c:Dc),EJ b=Eg->Ms h e b c->Ms f e b c
mutual
theorem Oh{h f:EH}(k:∀b o,h.get? b=A0 o->f.get? b=A0 o):∀d:EB,bT h f d
 |.none=>λv c _ r=>by cases r;let:=.none|.bool _=>λv c _ r=>by cases r;let:=.bool _|.int _=>λv c _ r=>by cases r;let:=.int _ _|.str _=>λv c _ r=>by cases r;let:=.str _ _|.list xs=>λv c l r=>by let e:=xI k xs;cases r with|list h1 h2 h3 h4=>let:=.list (k _ _ h1) h2 h3<|e _ _ l h4
 |.tuple xs=>λv c l r=>by let e:=xI k xs;cases r with|tuple h1 h2 h3 h4=>let:=.tuple (k _ _ h1) h2 h3<|e _ _ l h4
 |.dict Dl=>λv c l r=>nomatch l
theorem xI{h c:EH}(k:∀b o,h.get? b=A0 o->c.get? b=A0 o):∀ds:De,WB h c ds
 |[]=>λi e _ r=>by cases r;let:=.nil|d::ds=>λi e l r=>by
  let f:=Oh k d;let g:=xI k ds;let l:d.canLay0=Eg/\EJ ds=Eg:=by simpa[EJ]using l
  cases r with|cons h1 h2=>let:=.cons (f _ _ l.1 h1)<|g _ _ l.2 h2
end
def BW{h:EH}:∀{ds:De}{us:Da}{as:Dc},Ms h us ds as->(∀d∈ds,XE T d)->∃fs:Da,`fs=`ds/\KatTups h us fs/\∀v∈fs,(T="int"/\∃i t,v=.int i t)\/(T="str"/\∃i t,v=.str i t)\/T="tuple"/\∃a o,v=.ref a/\h.get? a=A0 o/\o.cls=.type "tuple"|[],_,_,r,_=>by cases r;let:=#[[],Ej,KatTups.nil,λv hv=>nomatch hv]|d::ds,_,_,r,hf=>by cases r with|cons r1 r2=>let#[fs,j,c,e]:=BW r2 λx f=>hf x<|ZB _ f;let hd:=hf d<|ZD ..;unfold XE at hd;split at hd;all_goals first|let:=hd.elim|(cases r1 with|tuple h1 h2 h3 h4=>rename_i b nx;cases q:b.toList with|nil=>rw[q]at h4;cases h4|cons v0 vr=>
       rw[q]at h4;let g:b[0]?=A0 v0:=by rw[<-YU,q];rfl
       cases h4 with|cons g1 g2=>
        let:=#[v0::fs,by simp_all[Yj],KatTups.cons h1 h2 h3 g c,λv hv=>?_];rcases ZJ.mp hv with rfl|hv;.cases g1;first|let:=.inl #[hd,_,_,Ej]|let:=.inr<|.inl #[hd,_,_,Ej]|(rename_i k1 k2 k3 l;let:=.inr<|.inr #[hd,_,_,Ej,k1,k2])
        .let:=e v hv)
def OW{b:De}{c:Da}{as:Dc}(r:Ms s.heap c b as)(g:∀d∈b,XE T d)(hn:0<`b){Q:SortKind->Dg}(q:Q (tuples'<|Value.type T !=Value.type "tuple") s):EA (EC prog w) A (keyKind' c.toArray) Q E s:=by
 let#[fs,j,e,f]:=BW r g;let:=kat_kind e ⋯ (λv hv=>?_) (by simp) q;rcases f v hv with⟨rfl,i,t,rfl⟩|⟨rfl,i,t,rfl⟩|⟨rfl,a,o,rfl,ho,hc⟩;.let:=.now
 .let:=.now
 .rw[<-hc];let:=(Looks.ld ho).andThen .now
def bY(x y:EB):(Prop):=(∃i j,x=.int i/\y=.int j)\/∃i j,x=.str i/\y=.str j
def cR{b:Bool}{Q:Bool->Dg}{r:Bool}(q:Q r s)(xs:De):∀(ys:De)(vs us:Da)(as bs:Dc)(i k:Nat),Ms s.heap vs xs as->Ms s.heap us ys bs->EJ xs=Eg->EJ ys=Eg->A.units+min (E2 xs) (E2 ys)<Ld->bV xs ys r->(b=Eg->i=0->∀x xs' y ys',xs=x::xs'->ys=y::ys'->bY x y)->KatLex prog w A b (decide<|k+`vs<k+`us) Q (vs.zip us) i s:=by induction xs with|nil=>intro ys vs us as bs i k l n _ _ _ h _;cases l;let e:`us=`ys:=`SeqAt.ReadsAll _ _ _ n;rw[List.zip_nil_left];show Q (decide<|k+0<k+`us) s;rw[show decide (k+0<k+`us)=r by rw[show r=_ from h,e];let:=Jr.mpr<|⋯];let:=q|cons x xs B=>intro ys vs us as bs i k l n D E t h hb;cases ys with
  |nil=>cases n;cases l with|@cons v vs _ _ _ _ p1 p2=>rw[List.zip_nil_right];show Q (decide<|k+(`vs+1)<k+0) s;rw[show decide (k+(`vs+1)<k+0)=r by rw[show r=_ from h];let:=ZZ<|⋯];let:=q
  |cons y ys=>
   let f:=by simpa[EJ]using D
   let g:=by simpa[EJ]using E
   let j:=SeqAt.room_head t;let o:=SeqAt.room_tail t;cases l with|@cons v vs _ _ _ _ p1 p2=>cases n with|@cons u us _ _ _ _ q1 q2=>
     rw[List.zip_cons_cons];let:=kat_cons ?_;rcases h with⟨e,h⟩|⟨e,h⟩;.let:=Mh prog w A _ s _ _ _ _ _ _ _ p1 q1 f.1 g.1 j ?_;rw[e];let:=kat_yes ?_;let B:=B ys vs us _ _ (i+1) (k+1) p2 q2 f.2 g.2 o h λ_ z=>⋯;rwa[Yj,Yj,show k+(`vs+1)=k+1+`vs by lia,show k+(`us+1)=k+1+`us by lia]
     .let:=Mh prog w A _ s _ _ _ _ _ _ _ p1 q1 f.1 g.1 j ?_;rw[e];let:=kat_no ?_;cases c:b&&i==0 with
      |true=>
       let p:b=Eg/\i=0:=by simpa using c
       rcases hb p.1 p.2 x xs y ys rfl rfl with⟨i1,j1,rfl,rfl⟩|⟨i1,j1,rfl,rfl⟩;.cases p1;cases q1;let:=kat_lt_int ?_;rwa[<-show r=_ from h]
       .cases p1;cases q1;let:=kas_lt_str ?_;rwa[<-show r=_ from h]|false=>let:=kat_one _ _<|S6 x y r A s _ _ _ _ p1 q1 f.1 g.1 j h _ _ q
def Bs{d e:EB}{u v:Es}{as bs:Dc}{C:Bool->Dg}(o:Reads s.heap u d as)(p:Reads s.heap v e bs)(g:XE T d)(f:XE T e)(ld:d.canLay0=Eg)(le:e.canLay0=Eg)(n:A.units+min d.depth e.depth<Ld)(h:bU d e r)(c:C r s):EA (EC prog w) A (keyLt' (tuples'<|Value.type T !=Value.type "tuple") u v) C (λ_ _=>False) s:=by cases d with
 |tuple xs=>cases e with
  |tuple ys=>cases o with|tuple h1 h2 h3 h4=>cases p with|tuple k1 k2 k3 k4=>
     let:=kat_lt h1 h3 k1 k3 ?_;have:=cR (prog:=prog) (w:=w) (A:=A) (b:=Value.type T !=Value.type "tuple") c xs ys _ _ _ _ 0 0 h4 k4 ld le (by let i:(PyData.tuple xs).depth=E2 xs+1:=rfl;let j:(PyData.tuple ys).depth=E2 ys+1:=rfl;rw[i,j]at n;lia) h λhb _ x q y t ex l=>by
      subst ex l;unfold XE at g f;split at g
      .rename_i e;cases e;split at f;.rename_i e;cases e;let:=.inl #[_,_,Ej,Ej]
       .rw[g]at f;trivial
       .rw[g]at f;let:=absurd f ∅
       trivial
      .rename_i e;cases e;split at f;.rw[g]at f;trivial
       .rename_i e;cases e;let:=.inr #[_,_,Ej,Ej]
       .rw[g]at f;let:=absurd f ∅
       simp_all
      .simp_all
      .let:=g.elim
     simpa using this
  |_=>let:=f.elim
 |_=>let:=g.elim
inductive oG(K:CK)(xs:Di)(H:Hp)(Q:VK):Prop|mk(a:Er)(vs:Di)(ds:De)(T:String)(key:Nat->Nat)(h0:xs=[.ref a])(h1:yp K H a vs)(h2:zu K H ds vs)(h3:`ds<64)(h4:∀d∈ds,XE T d/\d.canLay0=Eg/\d.depth<=60)(h5:∀i j,i<`ds->j<`ds->bU (ds.getD i .none) (ds.getD j .none) (decide<|key i<key j))(h6:∀(l:Er)(p:List Nat),H l=Ee->p.Perm (EK `vs)->(p.Pairwise λi j=>key i<=key j)->Q (.ref l) (upd H l<|.lst<|p.map λi=>vs.getD i .non)):oG K xs H Q
def X9:∀{vs:Di}{us:Da},zb vs us->∀(p:List Nat),(∀i∈p,i<`vs)->zb (p.map λi=>vs.getD i .non) (p.map λi=>us.getD i EY)
 |vs,us,r,[],_=>.nil|vs,us,r,i::p,h=>by
  let:=.cons ?_<|X9 r p λj e=>h j<|ZB _ e;let c:=h i<|ZD ..;let go:∀{vs:Di}{us:List _}i,zb vs us->i<`vs->yu (vs.getD i .non) (us.getD i _):=λ{vs us}i r c=>by induction i generalizing vs us with
   |zero=>cases r with|nil=>rfl|cons a b=>let:=a
   |succ i ih=>cases r with|nil=>simp_all|cons a b=>let:=ih b<|by simp_all
  let:=go i r c
def OK(h:zu K H ds vs):∀(p:List Nat),(∀i∈p,i<`vs)->zu K H (p.map λi=>ds.getD i .none) (p.map λi=>vs.getD i .non)|[],_=>rfl|i::p,hp=>by let b:=hp i<|ZD ..;let#[d]:=h.get<|ZO b;let:=#[_,_,Ej,?_,OK h p λj c=>hp j<|ZB _ c];simp_all
def TQ{b:Type}{l:List b}{z:b}:(EK `l).map (λi=>l.getD i z)=l:=by apply VC;intro i;rcases VL i `l with q|q<;>simp_all
def jO{h:EH}:∀{ds:De}{us:Da}{as:Dc}(i:Nat),Ms h us ds as->i<`ds->∃bs,Reads h (us.getD i EY) (ds.getD i .none) bs
 |[],_,_,i,_,hi=>by simp_all|d::ds,_,_,0,r,_=>by cases r with|cons r1 r2=>let:=#[_,r1]
 |d::ds,_,_,i+1,r,hi=>by cases r with|cons r1 r2=>let:=jO i r2<|by simp_all
def FN(hu:X.A.units+64<Ld)(hK:X.K=K:=by rfl):xq X (.builtin "sorted")<|oG K:=by
 subst hK;intro Dp s σ H xs us Q I r h;let#[a,S,J,T,key,rfl,ha,E,ab,hd,g,q]:=h;let#[u,rfl,ru]:=wW r;cases ru;let#[f,Y,pl,hz]:=I.list ha;let#[as,rd]:=zu.zp I J S f E Y;let l1:=`E;let l2:=`SeqAt.ReadsAll _ _ _ rd;let N:=by
  let go:∀l:De,(∀d∈l,d.canLay0=Eg)->EJ l=Eg:=λl=>by induction l with|nil=>let:=λ_=>rfl|cons d l ih=>intro hl;show(d.canLay0&&EJ l)=Eg;rw[hl d<|ZD ..,ih λx hx=>hl x<|ZB _ hx];rfl
  let:=go J λd v=>(hd d v).2.1
 let:=Mn kind_sorted plain_sorted entry_sorted (args_sorted1 _) ?_;let:=Zz (ZF<|Zz<|collect_list pl.isList (Zz<|wpAny_newList ?_<|by rw[Y2];lia)<|by rw[Y2];lia);let y:((s.heap.push<|Lq "list" #v[] 0).update ⇑s (Lg (·++f.toArray))).objs.size=⇑s+1:=by rw[Heap.size_update,size_push']
 let t:(((s.heap.push<|Lq "list" #v[] 0).update ⇑s (Lg (·++f.toArray))).push<|Lq "list" f.toArray 0).get? (⇑s+1)=A0 (Lq "list" f.toArray 0):=y▸ZL _ rfl;let kp:∀b o,s.heap.get? b=A0 o->(((s.heap.push<|Lq "list" #v[] 0).update ⇑s (Lg (·++f.toArray))).push<|Lq "list" f.toArray 0).get? b=A0 o:=λb o z=>by let g:=ZP z;rwa[Heap.get?_push_ne _ _ _<|y▸ZU (Jw g),Heap.get?_update_ne _ _ _ _<|ZU g,Heap.get?_push_ne _ _ _<|ZU g]
 rw[y];generalize((s.heap.push<|Lq "list" #v[] 0).update ⇑s (Lg (·++f.toArray))).push (Lq "list" f.toArray 0)=h1 at t kp;let:=Zz<|Ys<|Yw slot_list_sort #[_,t,Ej] entry_list_sort ?body<|args_list_sort _;let:=Go (s:={s with heap:=h1}) (κ:=tuples'<|Value.type T !=Value.type "tuple") (lt:=λi j=>decide<|key i<key j) t ⋯ (λh2 s1 k1=>?_) λp hp=>#[_,Ej,ZF #[_,Ej,?_]]
 .let B:=xI (λb o z=>k1 b o (ZU<|Jw<|ZP z)<|kp b o z) _ _ _ N rd;let:=#[λQ' E' z=>OW B (λd v=>(hd d v).1) ⋯ z,λi j D w C c=>?_];let#[b1,r1]:=jO i B ⋯;let#[b2,r2]:=jO j B ⋯;let m:∀k,k<`f->J.getD k .none∈J:=λk hk=>by simp_all[Jf,ZO]
  let U:=hd _<|m i D;let d2:=hd _<|m j w;let:=Bs r1 r2 U.1 d2.1 U.2.1 d2.2.1 (by show X.A.units+1+1+_<_;lia) (g i j ⋯<|⋯) c
 .let P:p.Perm (LQ<|EK `f)/\Up AxK.TO.nat (λi=>key i) p `f:=by
   rcases hp with⟨n2,rfl⟩|⟨n2,rfl⟩;.let:=#[Array.Perm.refl _,λ(i j:Nat)(F:i<=j)(w:j<`f)=>?_];have:i=j:=⋯;subst this;let:=AxK.TO.nat.refl _
   .obtain⟨p',(e:AxK.run (λi j=>decide<|key i<key j) _=p'),Z,a2⟩:=Pn (O:=AxK.TO.nat) (n:=`f) ⋯;rw[e];let:=#[Z,a2]
  let#[P,up]:=P;let G:=by simpa using Array.perm_iff_toList_perm.mp P
  let pm:∀i∈p.toList,i<`S:=λi D=>by have:=YQ.mp<|G.mem_iff.mp D;lia
  let#[e,he]:=sortedHeap_at t;let nl:=X9 Y p.toList pm;let L:∀b ob,s.heap.get? b=A0 ob->(sortedHeap h1 (⇑s+1) f<|LQ<|p.toList.map λi=>f.getD i EY).get? b=A0 ob:=λb ob R=>by let hb:=ZP R;rw[sortedHeap_old (ZU<|Jw hb)<|ZP<|kp b ob R];let:=kp b ob R
  let hl:`p.toList=`f:=by rw[G.length_eq,YT]
  let:=#[.ref<|⇑s+1,_,I.laid (o:=.lst<|p.toList.map λi=>S.getD i .non) (t':=s.toks) L (J8 _) #[by grind[ZA,Y2],_,e,nl,he],Ej,q _ p.toList (I.hok.fresh<|J8 _) (by rwa[l1,<-l2]) ?_];rw[JF];intro i j D w F;have:=up i j (Y3 F) (by rw[hl]at w;let:=w);unfold kn at this;rw[Ye]at D w;rw[YG,YG,getElem?_pos p i D,getElem?_pos p j w]at this;have:=JM this;simpa using this
end L2
namespace AxS
open PySem PySem.Spec PyProof.Rows
def Ba(h:n<256):Full (EQ n)/\n<EQ n:=by
 let go:∀n,n<256->(EQ n=8\/EQ n=16\/EQ n=32\/EQ n=64\/EQ n=128\/EQ n=256)/\n<EQ n:=by trivial
 let#[h1,h2]:=go n h;let:=#[?_,h2];rcases h1 with e|e|e|e|e|e<;>rw[e];.let:=bA
 .let:=cD
 .let:=cE
 .let:=cG
 .let:=WQ
 .let:=WR
def GQ{c:Array<|Int×Es}{b:Array Nat}(h:b.toList.Perm<|EK c.size):(b.filterMap (c[·]?)).toList.Perm c.toList/\(b.filterMap (c[·]?)).size=c.size:=by
 let f:(b.filterMap (c[·]?)).toList.Perm c.toList:=by rw[Array.toList_filterMap];let:=(h.filterMap _).trans ?_;let e:=VR c.toList;simp_all
 let:=#[f,by rw[<-Ye,f.length_eq,Ye]]
def T7{a:Er}{o:Obj}{b:Array<|Int×Es}{j:Nat}{t:Lc}{Q:Unit->Dg}(f:s.heap.get? a=A0 o)(hd:o.data=.set b j t)(q:t.fits b.size=Eg)(hn:n<256)(p:b.size<=n)(h:∀es' t',es'.toList.Perm b.toList->t'.fits es'.size=Eg->t'.led=t.led->t'.plain=t.plain->t'.dummies=#v[]->t'.mask=EQ n-1->Q () {s with heap:=s.heap.update a<|MJ es' t'}):EA (EC prog w) A (setRelay a n) Q E s:=by
 let#[F]:=Ba hn;let r:EQ n-1+1=EQ n:=⋯;let#[t',c,i,pm,x,g,mk,le,v]:=OX (hs:=b.map _) (r▸F) (by grind);rw[UK]at pm x;let#[u,e]:=GQ pm;let sl:¬EQ n>sizeLine:=by
  have:∀n,n<256->EQ n<=256:=by lk
  have:=this n hn;rw[Y2];lia
 let:=Zz<|Yu f hd q ?_;dsimp only;rw[ZX sl];let l:t.relaid _ n=A0 _:=i;rw[l];let:=Zz ?_;wp_delta;rw[ZX<|by simp_all];let:=ZF<|VB f hd (h _ t' u (by grind[SetTable.fits,SetTable.fill]) le v g mk) ?_;rw[Y2,e];lia
def Hv{h:EH}{a:Er}{o:Obj}{e b:Array<|Int×Es}{c:Nat}{t t':Lc}(f:h.get? a=A0 o)(hd:o.data=.set e c t):(h.update a<|MJ b t').get? a=A0 {o with data:=.set b (c+1) t'}:=by have:=Yt (MJ b t') f (by rw[putSet_of b t' hd];rfl);rw[putSet_of b t' hd]at this;let:=this
def X8{Q:Bool->Dg}(h:Q (byText w) s):EA (EC prog w) A setsByText Q E s:=Zz<|JL<|ZF h
def Pj{a:Er}{o:Obj}{b:Array<|Int×Es}{f:Nat}{t:Lc}{Q:Unit->Dg}(e:s.heap.get? a=A0 o)(hd:o.data=.set b f t)(c:t.fits b.size=Eg)(hn:(b.size+n)*2<256)(h1:t.roomFor n=Ee->Q () s)(h2:∀es' t',es'.toList.Perm b.toList->t'.fits es'.size=Eg->t'.led=t.led->t'.plain=t.plain->t'.dummies=#v[]->t'.mask=EQ ((b.size+n)*2)-1->Q () {s with heap:=s.heap.update a<|MJ es' t'}):EA (EC prog w) A (setRoomFor a n) Q E s:=by
 let:=Zz<|Yu e hd c ?_;let i:=by have:=(Bool.and_eq_true_iff.mp c).1;let:=Vc.mp this
 cases q:t.roomFor n with|none=>let:=ZF<|h1 q|some wanted=>
  let g:wanted=(b.size+n)*2:=by unfold SetTable.roomFor at q;simp_all
  subst g;let:=T7 e hd c hn ⋯ h2
def Wa{a:Er}{o:Obj}{b:Array<|Int×Es}{e:Nat}{t:Lc}{Q:Unit->Dg}(c:s.heap.get? a=A0 o)(g:o.ExactSet)(hd:o.data=.set b e t)(f:t.fits b.size=Eg)(hn:(b.size+n)*2<256)(h:∀(h1:EH)(o':Obj)(es':Array<|Int×Es)(ep':Nat)(t':Lc),EW a s.heap h1->h1.get? a=A0 o'->o'.ExactSet->o'.data=.set es' ep' t'->es'.toList.Perm b.toList->t'.fits es'.size=Eg->t'.led=t.led->t'.plain=t.plain->Q () {s with heap:=h1}):EA (EC prog w) A (setRoomFor a n) Q E s:=Pj c hd f hn (λ_=>h _ o b e t (Heap.SameBut.refl a _) c g hd (List.Perm.refl _) f rfl rfl) λes' t' pm i j l _ _=>h _ _ es' _ t' (ET _ a _) (Hv c hd) g rfl pm i j l
def bn{a b:Er}{o R:Obj}{f i:Array<|Int×Es}{j v:Nat}{t F:Lc}{Q:Array (Int×Es)->Dg}(N:s.heap.get? a=A0 o)(hd:o.data=.set f j t)(K:t.fits f.size=Eg)(n:MX (strKind prog w) f.toList)(hl:t.led=!byText w)(X:t.plain=Ei)(D:s.heap.get? b=A0 R)(y:R.data=.set i v F)(B:F.fits i.size=Eg)(U:MX (strKind prog w) i.toList)(L:F.led=!byText w)(P:F.plain=Ei)(h:∀W d,W.toList.Perm f.toList->Q W {s with drawn:=d}):EA (EC prog w) A (setWalkUnseen a [b]<|some b) Q E s:=by
 let p:∀{f:Array<|Int×Es},MX (strKind prog w) f.toList->∀e∈f.toList,∀r,e.2≠.ref r:=λ{f}n e J r z=>by have:=(n e J).2;rw[z]at this;cases this
 let wk:byText w=Eg\/f.size<=1->EA (EC prog w) A (setWalk a) Q E s:=λc=>by let:=Zz<|Yu N hd K ?_;dsimp only;let:=Zz<|X8 ?_;cases q:byText w with|true=>let:=Zz<|JL<|ZF<|h _ s.drawn<|kX ..|false=>
   let c1:=c.resolve_left (by rw[q];decide);simp only[V2,↓reduceIte];let:=Y6 (λz=>?_)<|λ_=>?_;.exfalso;let z:(!t.plain&&decide (f.size>1))=Eg:=z;rw[ZZ<|⋯,Jy]at z;cases z
   .let:=Zz ?_;wp_delta;rw[hl,q];let:=Y6 (λz=>?_)<|λ_=>?_;.exfalso;cases z
    .let:=ZF<|ZF<|h f s.drawn<|List.Perm.refl _
 let:=Zz<|Yu N hd K ?_;dsimp only;let:=Zz<|X8<|Y6 (λz=>?_)<|λz=>?_;.simp_all[Jy,UX,Ux]
 .let:=Zz ?_;let quiet:∀(l:Dc),(∀c∈l,∃o f j t,s.heap.get? c=A0 o/\o.data=.set f j t/\t.fits f.size=Eg/\MX (strKind prog w) f.toList)->∀{H:Bool->Dg},H Eg s->EA (EC prog w) A (setsQuiet l) H E s:=λl hl H hq=>by
   let:=Zz<|VJ _ (λg q G=>G=s/\q=(Ee,())/\∀c∈g,∃o f j t,s.heap.get? c=A0 o/\o.data=.set f j t/\t.fits f.size=Eg/\MX (strKind prog w) f.toList) _ ?_ ?_ l _ #[Ej,Ej,hl]
   .rintro c g q G ⟨rfl,rfl,u⟩;let#[o,f,j,t,h1,h2,h3,h4]:=u c<|ZD ..;let:=Zz<|Zz<|Yu h1 h2 h3<|ZF<|Zz<|MeetsSeq2.wpAny_forIn_array _ (λg q s2=>s2=G/\q=(Ee,())/\∀e∈g,∀r,e.2≠.ref r) _ ?_ ?_ _ _ #[Ej,Ej,p h4];.rintro⟨Y,x⟩ S q2 s2 ⟨rfl,rfl,T⟩;let Z:=T (Y,x)<|ZD ..;cases x with|ref r=>let:=absurd rfl<|Z r|_=>let:=ZF #[Ej,Ej,λe J=>T e<|ZB _ J]
    .rintro q2 s2 ⟨rfl,rfl,_⟩;let:=ZF #[Ej,Ej,λd hd=>u d<|ZB _ hd]
   .rintro q G ⟨rfl,rfl,_⟩;let:=ZF hq
  let:=quiet [a,b] (λc u=>?_) ?_
  .rcases ZJ.mp u with rfl|u;.let:=#[o,f,j,t,N,hd,K,n]
   .rw[ZC.mp u];let:=#[R,i,v,F,D,y,B,U]
  .let:=Zz<|JK<|Zz<|Yu D y B ?_;let:=Y6 (λz=>?_)<|λ_=>?_;.exfalso;rw[hl,L,X,P]at z;cases q:byText w<;>rw[q]at z<;>cases z
   .let:=ZF<|h f s.drawn<|List.Perm.refl _
def Wf:x∈step ks k↔x∈ks\/x=k:=by unfold step;split<;>simp_all
def uW{b:By}(h:b.Nodup):(step b k).Nodup:=by
 unfold step;split;.let:=h
 .rename_i n;let:=YS.mpr #[h,YC.mpr<|by simp_all,λx c y f e=>n ?_];simp_all
def BC{t:Lc}(b:t.fits n=Eg):t.place.size=n:=Vc.mp (Bool.and_eq_true_iff.mp b).1
structure Both(ks1 ks2 ks:By):Prop where
 mem:∀x,x∈ks↔x∈ks1\/x∈ks2
 nd:ks1.Nodup->ks2.Nodup->ks.Nodup
 len:`ks<=`ks1+`ks2
def Wp{g:Sem Unit}{Q:Unit->Dg}(hS:yg prog w s.heap a ks1)(hO:yg prog w s.heap b ks2)(ne:a≠b)(n1:ks1≠[])(hb:(`ks1+`ks2)*2<256)(hE:∀(s':Eu)(Q':Unit->Dg),s'.heap.get? b=s.heap.get? b->Q' () s'->EA (EC prog w) A g Q' E s')(h:∀h' d ks',EW a s.heap h'->yg prog w h' a ks'->Both ks1 ks2 ks'->Q () {s with heap:=h',drawn:=d}):EA (EC prog w) A (setMerge a b g) Q E s:=by
 let#[o,es,ep,t,ho,hx,hd,X]:=id hS;let#[o2,N,ap,t2,S,a0,v,X2]:=id hO;let hl:=X5 X;let ay:=X5 X2;let#[af,hp,as,hf,l,Y]:=X;let#[Ep,U,an,D,G,Z]:=X2;let k0:0<`ks1:=VP.mpr n1;unfold setMerge;let:=Y6 (λz=>absurd (Vc.mp z) ne) λ_=>Zz<|Yu S v D ?_;dsimp only;let:=Y6 (λz=>?_)<|λz=>?_
 .let e:N.size=0:=by simpa[Array.isEmpty]using z
  let e:ks2=[]:=YI ⋯;subst e;let:=ZF<|h s.heap s.drawn ks1 (Heap.SameBut.refl a s.heap) hS #[λx=>by simp,λn _=>n,⋯]
 .let e2:N.size≠0:=λe=>z (by simpa[Array.isEmpty]using e);let:=Zz<|Wa ho hx hd hf ⋯ λh1 o' L ad t' ab H ah u pm B R p=>?_;let a2:L.size=es.size:=by rw[<-Ye,pm.length_eq,Ye]
  let T:h1.get? b=A0 o2:=ab.2 b ne.symm▸S;let:=Zz<|Yu H u B ?_;dsimp only;let rd:t'.road t2=.oneByOne:=by grind[SetTable.road,SetTable.fill,BC]
  rw[rd];dsimp only;let j:=af.perm pm;let:=Zz<|bn T v D Ep G (Z e2) H u B j (R.trans l) (p.trans<|Y<|⋯) λW d wp=>?_;let al:yg prog w h1 a ks1:=#[o',L,ad,t',H,ah,u,j,(pm.map keyOf).trans hp,⋯,B,R.trans l,λ_=>p.trans<|Y<|⋯];let P:=Ep.perm wp;let wl:`W.toList=`ks2:=by rwa[wp.length_eq,Ye]
  let:=Zz<|MeetsSeq2.wpAny_forIn_array _ (λc _ s2=>∃(done:List<|Int×Es)(h2:EH)(J:By),W.toList=done++c/\s2={s with heap:=h2,drawn:=d}/\EW a s.heap h2/\yg prog w h2 a J/\Both ks1 (done.map keyOf) J) _ ?_ ?_ W _ #[[],h1,ks1,Ej,Ej,ab,al,λx=>by simp,λn _=>n,by simp]
  .rintro⟨K,x⟩ c _ s2 ⟨done,h2,J,i,rfl,f,tx,q⟩;let mem:(K,x)∈W.toList:=i▸Yb _ (ZD ..);let#[#[k,hk,F],_]:=P (K,x) mem;let#[tk,et]:=Ja<|show Lk k x=Eg from hk;let F:K=hashStr w k:=F;let ek:keyOf (K,x)=k:=by unfold keyOf;rw[et]
   dsimp only;rw[et,F];let dl:`done+`c+1=`ks2:=by rw[i,ZS,Yj]at wl;lia
   let kl:=q.len;rw[ZA]at kl;let a1:Ml=4096:=rfl;let:=Zz<|Ys<|Oy tx ⋯ λh3 r ac am=>?_;let e3:h3.get? b=s.heap.get? b:=(ac.2 b ne.symm).trans<|f.2 b ne.symm;let:=Zz<|hE _ _ e3<|Zz<|Yu (show h3.get? b=A0 o2 by rwa[e3]) v D<|Y6 λz=>absurd z<|by simp λ_=>ZF #[done++[(K,x)],h3,step J k,by rw[i,Y1];rfl,Ej,f.trans ac,am,λy=>?_,λn m=>uW<|q.nd n<|by rw[ZM]at m;let:=(YS.mp m).1,?_];.rw[Wf,q.mem,ZM,ZY];show _↔y∈ks1\/y∈done.map keyOf\/y∈[keyOf (K,x)];rw[ek,ZC,or_assoc]
   .have:=Ni J k;rw[ZA,ZS,JH];lia
  .rintro _ s2 ⟨done,h2,J,i,rfl,f,tx,q⟩;rw[Yi]at i;let:=ZF<|h h2 d J f tx #[λx=>?_,λn m=>q.nd n<|i▸((wp.map keyOf).trans U).nodup_iff.mpr m,?_];.rw[q.mem,<-i];let pk:=(wp.map keyOf).trans U;rw[pk.mem_iff]
   .have:=q.len;rw[ZA,<-i,wl]at this;let:=this
def Gk{a:Er}{Q:Unit->Dg}(b:s.heap.get? a=A0 (zW w))(hn:n*2<256)(h:∀(h1:EH)(o':Obj)(ep':Nat)(t':Lc),EW a s.heap h1->h1.get? a=A0 o'->o'.ExactSet->o'.data=.set #v[] ep' t'->t'.fits 0=Eg->t'.led=!byText w->t'.plain=Eg->t'.dummies=#v[]->Full (t'.mask+1)->n<=t'.mask->Q () {s with heap:=h1}):EA (EC prog w) A (setRoomFor a n) Q E s:=by
 let:=Pj b rfl rfl (by grind) (λz=>?_) λe t' pm f g i j f5=>?_
 .let:=h _ _ 0 _ (Heap.SameBut.refl a _) b #[Ej,Ej,Ej] rfl rfl rfl rfl rfl bA ?_;unfold SetTable.roomFor at z;split at z;.cases z
  lia
 .let c:=by have:=pm.length_eq;let:=Array.eq_empty_of_size_eq_zero this
  subst c;let f5:t'.mask=EQ (n*2)-1:=by simp_all
  let#[F]:=Ba hn;let:=h _ _ 1 t' (ET _ a _) (Hv b rfl) #[Ej,Ej,Ej] rfl f g i j ?_ ⋯<;>grind
def Pz{a:Er}{o:Sem Unit}{Q:Unit->Dg}(x:s.heap.get? a=A0 (zW w))(Z:yg prog w s.heap b ks2)(ne:a≠b)(hb:`ks2*2<256)(h:∀h',EW a s.heap h'->(ks2=[]->h'.get? a=A0 (zW w))->yg prog w h' a ks2->Q () {s with heap:=h'}):EA (EC prog w) A (setMerge a b o) Q E s:=by
 let#[o2,i,X,S,H,ac,y,L]:=id Z;let D:=X5 L;let#[K,r,c,q,l,t]:=L;let:=Y6 (λz=>absurd (Vc.mp z) ne) λ_=>Zz<|Yu H y q<|Y6 (λz=>?_)<|λz=>?_
 .let e:i.size=0:=by simpa[Array.isEmpty]using z
  let e:ks2=[]:=YI ⋯;subst e;let:=ZF<|h s.heap (Heap.SameBut.refl a s.heap) (λ_=>x)<|Nt (xs:=[]) x
 .let N:i.size≠0:=λe=>z (by simpa[Array.isEmpty]using e);let n2:ks2≠[]:=λe=>N (by rw[D,e];rfl);let:=Zz<|Gk x ⋯ λh1 o' U R v g u f p G ab B F hn=>Zz<|Yu g f p ?_;dsimp only;let Y:R.fill=0:=by unfold SetTable.fill;rw[BC p,B];rfl
  let j:S.led=!byText w:=l;cases rd:R.road S with
  |oneByOne=>exfalso;unfold SetTable.road at rd;rw[Y]at rd;rw[ZX<|by simp]at rd;split at rd<;>cases rd|slotForSlot=>
   let:=VB g f (h _ (v.trans<|ET _ a _) (λz=>absurd z n2) #[_,i,_,_,Hv g f,u,Ej,K,r,c,q,?_,λ_=>?_])<|Uf c;.simp_all[Bool.and_self]
   simp_all[Jy]|clean=>
   let#[t3,J,T,pm,ps,du,mk,le,pl]:=OX (hs:=i.map (·.1)) F (by rw[UK];lia);rw[UK]at pm ps;let#[P,n]:=GQ pm;dsimp only;rw[T];let:=Zz ?_;wp_delta;rw[ZX<|by rw[n];simp];let:=ZF<|VB g f (h _ (v.trans<|ET _ a _) (λz=>absurd z n2) #[_,_,_,t3,Hv g f,u,Ej,K.perm P,(P.map keyOf).trans r,n▸c,?_,?_,λ_=>?_])<|n▸Uf c;.simp_all[SetTable.fits,SetTable.fill]
   .rw[le,G,j,Bool.and_self];rfl
   .rw[pl,t N,Jy]
def Sa:MV table "set.__or__"=A0 Builtin.«frozenset.__or__»:=UE (id':="frozenset.__or__") (by kernel_rfl) (by first|rfl|lk|(unfold String.splitOn;simp+decide[MB])) (by lk)<|by kernel_rfl
def vR{h:EH}(x:yg prog w s.heap a ks):s.TypeIs (.ref a) "set":=by let#[o,f,e,t,b,c,_]:=x;let:=#[o,b,c.1]
def FE{a:Er}{Q:Bool->Dg}(b:s.TypeIs (.ref a) "set")(h:Q Eg s):EA (EC prog w) A (Builtin.Frozenset.isAnySet<|.ref a) Q E s:=by let:=Zz<|YX b sub_set_self<|ZF h
def ia(v:yg prog w s.heap a ks1)(j:yg prog w s.heap b ks2)(ne:a≠b)(hb:(`ks1+`ks2)*2<256)(h:∀h' d ks',(∀x o,s.heap.get? x=A0 o->h'.get? x=A0 o)->yg prog w h' ⇑s ks'->Both ks1 ks2 ks'->Q (.ref ⇑s) {s with heap:=h',drawn:=d}):EA (EC prog w) A (call (.builtin "set.__or__") [.ref a,.ref b]) Q E s:=by
 let f:=vR (h:=s.heap) v;let y:=vR (h:=s.heap) j;let:=Yw PySem.F.slot_set_or f Sa ?_<|PySem.F.args_set_or_2 _ _;unfold Builtin.«frozenset.__or__»;wp_delta;let:=Zz<|ZF ?_;dsimp only;let:=Zz<|Zz<|FE f<|FE y<|Zz<|ZF<|Zz ?_;wp_delta;let:=Zz<|Zz<|Zz<|YX f sub_set_self<|ZF ?_;simp only[↓reduceIte];let:=Zz<|Zz<|X8 ?_;simp only[newObj];let:=Zz<|wpAny_alloc<|ZF ?_;let R:(s.heap.push<|zW w).get? ⇑s=A0 (zW w):=ZL _ rfl;let kp:∀x o,s.heap.get? x=A0 o->(s.heap.push<|zW w).get? x=A0 o:=λx o e=>ZE _ e;let T:a<⇑s:=by let#[o,_,_,_,e,_]:=v;let:=ZP e
 let lb:b<⇑s:=by let#[o,_,_,_,e,_]:=j;let:=ZP e
 let:=Zz<|ZF<|Zz<|Pz R (v.at<|kp a) (JV T) ⋯ λh1 D fr1 G=>?_;let c:=λx o e=>(D.2 x<|ZU<|ZP e).trans<|kp x o e;let:=ZF ?_;rw[Z4<|by simpa using λz=>ne z.symm];let:=Zz<|ZF<|Zz<|Ys ?_;unfold Lf;let p:LW {s with heap:=h1} (.ref b) "set":=vR (h:=h1)<|j.at<|c b;let:=Zz<|FE p ?_;simp only[↓reduceIte];let:=Zz<|ZF ?_;unfold Builtin.Frozenset.merge;let#[U,P,N,Z,B,S,r,K]:=id<|j.at<|c b;let t:=K.2.2.2.1;let:=Zz ?_;unfold setEpoch;let:=Zz<|Yu B r t<|ZF ?_;let nb:⇑s≠b:=JV lb;let n:∀(h2:EH)(d:Drawn)(l:By),EW ⇑s h1 h2->yg prog w h2 ⇑s l->Both ks1 ks2 l->Q (.ref ⇑s) {s with heap:=h2,drawn:=d}:=λh2 d l sb X u=>h h2 d l (λx o e=>(sb.2 x<|ZU<|ZP e).trans<|c x o e) X u;by_cases H:ks1=[];.subst H;let:=Pz (s:={s with heap:=h1}) (fr1 rfl) (j.at<|c b) nb ⋯ λh2 g _ i=>ZF<|ZF #[_,Ej,n h2 s.drawn ks2 g i #[λx=>by simp,λ_ m=>m,⋯]]
 .let:=Wp G (j.at<|c b) nb H hb (λJ Y L q=>?_) λh2 d l g i u=>?_;.let:=Zz<|Zz<|Yu (s:=J) (show J.heap.get? b=A0 U by rwa[L]) r t<|ZF<|Y6 λz=>absurd z<|by simp λ_=>ZF q
  .let:=ZF<|ZF #[_,Ej,n h2 d l g i u]
end AxS
namespace L2
open PySem PySem.Spec PyProof.Rows AxS
inductive zvT(P:Et)(w:Ey)(x:V)(y:V)(H:Hp)(Q:VK):Prop|mk(a b:Er)(ks1 ks2:By)(h0:x=.ref a)(h1:y=.ref b)(h2:H a=A0 (Xe P w a ks1))(h3:H b=A0 (Xe P w b ks2))(h4:a≠b)(h5:(`ks1+`ks2)*2<256)(h6:∀p ks,H p=Ee->Both ks1 ks2 ks->Q (.ref p) (upd H p<|Xe P w p ks)):zvT P w x y H Q
def Tw:CW X (LS .BitOr)<|zvT X.prog X.w:=by intro r s A H x y v u Q I l o h;let#[a,b,i,j,rfl,rfl,ha,hb,ne,n,q]:=h;cases l;cases o;let f:=vN<|I.hok a _ ha;let e:=vN<|I.hok b _ hb;let:=wpAny_binaryOp_same (vR (h:=s.heap) f) (vR (h:=s.heap) e) PySem.F.fills_set_or PySem.F.slot_set_or<|ia f e ne n λt d c k p g=>#[λz=>(nomatch z),.ref _,_,(I.laid k (ZG _)<|HG p).drew,Ej,q _ c (I.hok.fresh<|ZG _) g]
section
variable{σ:St}{H:Hp}{d:Er}
def Ij(I:Inv X Dp σ H s)(e:Rd H d<|.dK Dl):∃vs ep,KV Dl vs/\s.heap.DictAt (yx X.prog X.w) d vs ep/\(d==E6)=Ei/\`Dl<=sizeLine:=by let#[z,hd,vs,f,o,g,ep,i,l,b,hk,j,c]:=v8 I.hok e;let:=#[vs,ep,f,#[o,g,i,l,b,hk,j,c],hd,z]
def Gs{α c:Type}{F G:α->c->Prop}(h:∀a b,F a b->G a b){l:List α}{m:List c}(r:Lo F l m):Lo G l m:=Paired.zwG r h
def xx.zx3{ob:Obj}{x:HO}(hd:H d=A0 (.frz ob x)){y:HO}(ok:xx P w H h b u):xx P w (upd H d y) h b u:=by
 let keep:∀{c:Er}{z:HO},H c=A0 z->(∀o v,z≠.frz o v)->upd H d y c=A0 z:=λ{c z}e n=>by rw[zH λq=>by rw[q,hd]at e;let:=n _ _ (dI e).symm];let:=e
 induction u generalizing b with|lst xs=>let:=ok|tup xs=>let:=ok|dK Dl=>let:=ok|dT Dl=>let#[h1,h2,xs,g,h3]:=ok;let:=#[h1,h2,xs,Gs (λp q r=>#[r.1,keep r.2.1<|⋯,r.2.2]) g,h3]|set S n=>let:=ok|ins C dx fs=>let:=#[keep ok.1<|⋯,ok.2]|own x=>let:=ok|xd fs=>let:=ok|rng lo hi=>let:=ok|frz o u ih=>let:=#[ok.1,ih ok.2]|tbl ps=>let:=ok|met f x=>let:=ok|ext φ=>let:=ok
def Inv.zx3{ob:Obj}(I:Inv X Dp σ H s)(hd:H d=A0 (.frz ob<|.dK Dl))(l:∀o u,X.H₀ d≠A0 (.frz o u)):Inv X Dp σ (upd H d<|.dK Dl) s:=by
 let ne:∀{b:Er},H b=Ee->b≠d:=λ{b}e z=>by simp_all
 let nt:∀{b:Er}{z:HO},H b=A0 z->(∀o v,z≠.frz o v)->b≠d:=λ{b z}e n q=>by rw[q,hd]at e;let:=n _ _ (dI e).symm
 let:=#[I.ok,I.os,I.bare,#[I.dX.keep,I.dX.slot,λb o h1 h2 h3=>?_,I.dX.there,λb xs h1=>?_,λb o u h1=>?_,λb r h1=>?_],I.loc,I.cell,?_,λx c h1=>?_,λp j=>?_,λb u h1=>?_,I.len];.have:=I.dX.free b o h1 h2 h3;rwa[zH<|ne this]
 .have:=I.dX.tups b xs h1;simp_all[zH]
 .have:=I.dX.sO b o u h1;rw[zH λz=>l o u<|by rwa[<-z]];let:=this
 .let#[more,this]:=I.dX.rD b r h1;let:=#[more,by simp_all[zH]]
 .rw[zH<|ne I.free];let:=I.free
 .have:=I.wJ x c h1;rwa[zH<|ne this]
 .let#[g,f,i]:=I.pin p j;let:=#[g,(zH<|ne f)▸f,i]
 .by_cases z:b=d;.rw[z,zD]at h1;cases h1;rw[z];let:=(I.hok d _ hd).2
  .rw[zH z]at h1;let:=(I.hok b u h1).zx3 hd
end
def U6(kv:Key×V):(Str):=match kv.1 with|.inr x=>x|.inl _=>""
def RL(Dl:Dk):(Prop):=∀kv∈Dl,kv.1=.inr (U6 kv)
def NT{f:Da}(g:RL Dl)(c:KV Dl vs)(hl:`f=`vs)(hm:∀(j:Nat)(v:Es),f[j]?=A0 v->∃k x,vs[j]?=A0 (k,x)/\(yx P w).is k v=Eg):x8 f<|Dl.map U6:=by let q:=`Paired c;let:=#[by grind,λi v e=>?_];let#[k,x,l,hk]:=hm i v e;let#[p,n,b,_]:=jK c l;let b:p.1=k:=b;let ap:=g p<|ZI n;rw[<-b,ap]at hk;let#[t,o]:=Ja<|hk;let:=#[U6 p,t,by simp_all,o]
inductive lK(xs:Di)(H:Hp)(Q:VK):Prop|mk(a:_)(Dl:_)(h0:xs=[.ref a])(h1:Rd H a<|.dK Dl)(h2:RL Dl)(h3:`Dl<64)(h4:∀l ss,H l=Ee->ss.Perm (Dl.map U6)->sortedS ss=Eg->Q (.ref l) (upd H l<|.lst<|ss.map V.str)):lK xs H Q
def jQ(t:X.calm=Eg):xq X (.builtin "sorted") lK:=by intro z s G H xs E Q I r h;let#[a,y,rfl,ha,i,o,q]:=h;let#[u,rfl,w]:=wW r;cases w;let#[F,B,b,l,p,D]:=Ij I ha;let A:=`Paired b;let:=BH I (by rwa[ZA]) q λk=>PySem.W.kdu_collect (PySem.W.kdl_dict p) (I.ok.hd t) l ⋯ λn x g c f=>k n _ x _ _ c (List.Perm.refl _)<|NT i b f.1 λj v e=>f.2 j v<|by simp_all
def putAll(Dl more:Dk):(Dk):=more.foldl (λb kv=>yh b kv.1 kv.2) Dl
def KV.putAll:∀{more:Dk}{um:List<|Key×Es}{Dl:Dk}{vs:List<|Key×Es},KV Dl vs->KV more um->KV (putAll Dl more) (merged vs um)|[],_,_,_,r,.nil=>r|p::more,q::um,Dl,vs,r,.cons h t=>by let e:=h.1;have:=KV.putAll (vs:=stored vs q.1 q.2) (by rw[<-e];let:=r.put p.1 h.2) t;let:=this
def qZ:∀(more Dl:Dk),↑(putAll Dl more)<=`Dl+`more|[],Dl=>ZG _|p::more,Dl=>by have:=qZ more<|yh Dl p.1 p.2;have:=xD Dl p.1 p.2;show(putAll (yh Dl p.1 p.2) _).length<=_;grind
def gX(i ty:TE):(TE):=λg H Q=>i g H λx f=>∃a,x=.ref a/\im f a/\ty g f λy e=>∃b c more,y=.ref b/\a≠b/\e a=A0 (.dK c)/\Rd e b (.dK more)/\`c+`more<=sizeLine/\Q .non (upd e a<|.dK<|putAll c more)
def O7(N:PE X o td)(L:PE X e ty)(m:M1 X o "update" Ds e Dr):PE X (.Call (.Attribute o "update" Ds) [e] [] Dr)<|gX td ty:=by intro p s B H Q I h;let:=UP m.dX m.few m.line V5 PySem.F.slot_dict_update PySem.F.type_dict_update<|CN (N p s B H _ I h) λu Y q9=>?_;let#[x,E,r,T,a,ex,d,R]:=q9;subst ex;obtain rfl:u=EO a:=T;let#[Z,t2,_]:=NQ r d;let:=#[Z,t2,?_];rw[m.trees];let:=Lb rfl<|LH<|Ly<|CN (L p Y B E _ r R) λiv s2 ⟨y,H2,i,U,b,D,more,J,ne,v,G,A,S⟩=>Me ?_;subst J;cases U;let#[z,hd,vs,g,t]:=R8 i.hok v;let#[z2,l,um,c,j]:=v8 i.hok G;let:=Vq PySem.F.slot_dict_update t.typeIs PySem.F.entry_dict_update (PySem.F.args_dict_update_2 _ _) (meets_dict_update (yx X.prog X.w) a b ne l) #[vs,um,t,j,by rw[<-`g,<-`c];let:=A,λK f _ P=>#[.non,_,?_,Ej,S]];let n:∃q,K.get? a=A0 q:=let#[q,_,_,hq,_]:=f;#[q,hq];let:=vT i (v▸Ls) P n<|FV (Yz (qZ more D) A) hd (g.putAll c) f
open PySem.W
def eL(H₀:Hp)(t:TS):(TS):=λD f H=>t {D with nx:=λb e=>∃d ob c,e d=A0 (.frz ob<|.dK c)/\(∀o u,H₀ d≠A0 (.frz o u))/\D.nx b (upd e d<|.dK c)} f H
def vW{st:ES}(h:PS X st t):PS X st<|eL X.H₀ t:=by intro j s g H D I q;let:=CN (h _ s g H _ I q) λf n z=>?_;cases f with|next=>let#[b,l,c,d,ob,i,hd,e,q]:=z;let:=#[b,_,c.zx3 hd e,q]|ret v=>let:=z|brk=>let:=z|cont=>let:=z
inductive zx7(K:CK)(xs:Di)(H:Hp)(Q:VK):Prop|mk(a:_)(T:_)(Dl:_)(b:_)(h0:xs=[.ref a,.ty T])(h1:Rd H a<|.dK Dl)(h2:E3 K (.type "dict") (.type T)=A0 b)(h3:Q (.bl b) H):zx7 K xs H Q
def FM(o:X.K=K:=by rfl):xq X (.builtin "isinstance")<|zx7 K:=by intro l s x H xs t Q I r h;let#[a,T,j,b,rfl,ha,f,q]:=h;let#[u,w,rfl,i,c]:=vals2 r;cases c;cases i;let#[v,n,g,e,_]:=Ij I ha;let:=YL UO I.sJ e.dictOf.typeIs f (λz=>nomatch z) λp=>#[.bl b,H,I.tok _,Ej,q]
def EqW(prog:Et)(w:Ey)(A:EL)(s:Eu)(u v:Es):(Prop):=∀(E:Es->Dg)(Q:Bool->Dg),Q Eg s->EA (EC prog w) A (eqBool u v) Q E s
structure EqS(prog:Et)(w:Ey)(A:EL)(s:Eu)(u v:Es):Prop where
 eq:EqW prog w A s u v
 rc:∀(E:Es->Dg)(Q:Es->Dg),Q (.bool Eg) s->EA (EC prog w) A (richCompare .Eq u v) Q E s
 ne:∀(E:Es->Dg)(Q:Es->Dg),Q (.bool Ei) s->EA (EC prog w) A (richCompare .NotEq u v) Q E s
def EqT(K:CK)(n:Nat)(H:Hp)(x y:V):(Prop):=∀(X:Cx)(b:Dd)(c:St)(s:Eu)(A:EL),X.K=K->Inv X b c H s->A.units+n<Ld->∀u v,yu x u->yu y v->EqS X.prog X.w A s u v
def EqT.data{x:V}{y:V}(h1:Dt K H d x)(h2:Dt K H e y)(b:EU d=Eg)(s2:EU e=Eg)(q:EX d e=Eg):EqT K 64 H x y:=λX n o s A k I c u v j l=>by subst k;let#[i,f]:=Dt.zp I d x u h1 j;let#[bs,g]:=Dt.zp I e y v h2 l;let:=#[λE Q hq=>?_,λE Q hq=>SeqAt.compareEq_shaped f g b s2 c<|q▸hq,λE Q hq=>SeqAt.compareNe_shaped f g b s2 c<|q▸hq];have:=SeqAt.eqAt_reads d e A s u v i bs f g (SeqAt.canLay_of_shaped b) (SeqAt.canLay_of_shaped s2)<|SeqAt.room_of_shaped b c;rw[q]at this;let:=this _ _ E Q hq
inductive zwS(K:CK)(x:V)(y:V)(H:Hp)(Q:VK):Prop|mk(a:_)(b:_)(ka:_)(kb:_)(r:_)(h0:x=.ref a)(h1:y=.ref b)(h2:Rd H a<|.dK ka)(h3:Rd H b<|.dK kb)(h4:nJ K H kb ka r)(h5:Q (.bl<|!(`ka==`kb&&r)) H):zwS K x y H Q
def dq(p:X.A.units+128<Ld):CW X (EZ .NotEq)<|zwS X.K:=by intro o s D H x y v u Q I l n h;let#[a,b,t,w,r,rfl,rfl,ha,hb,i,q]:=h;cases l;cases n;let#[z,_,c,f,sa,_]:=Ij I ha;let#[B,_,e,g,sb,_]:=Ij I hb;let j:=`Paired c;let lb:=`Paired e;let:=PySem.W.keq_ne sa sb f.dictOf g.dictOf ⋯ (λ_=>i.keq I ⋯ e c) #[_,H,I,?_,q];rw[j,lb];rfl
inductive zwH(K:CK)(x:V)(y:V)(H:Hp)(Q:VK):Prop|mk(a:_)(b:_)(ka:_)(kb:_)(r:_)(h0:x=.ref a)(h1:y=.ref b)(h2:Rd H a<|.dK ka)(h3:Rd H b<|.dK kb)(h4:nJ K H kb ka r)(h5:Q (.bl<|`ka==`kb&&r) H):zwH K x y H Q
def Hl(p:X.A.units+128<Ld):CW X (EZ .Eq)<|zwH X.K:=by intro o s D H x y v u Q I l n h;let#[a,b,t,w,r,rfl,rfl,ha,hb,i,q]:=h;cases l;cases n;let#[z,_,c,f,sa,_]:=Ij I ha;let#[B,_,e,g,sb,_]:=Ij I hb;let j:=`Paired c;let lb:=`Paired e;let:=PySem.W.keq_eq sa sb f.dictOf g.dictOf ⋯ (λ_=>i.keq I (by show X.A.units+1+64<Ld;lia) e c) #[_,H,I,?_,q];rw[j,lb];rfl
def KJ{p q:Er}{b vs:Array Es}{m:Nat}{c d2:Option Er}{l1 l2:Array Db}(sz:b.size≠vs.size):MeetsIn prog w (Builtin.«list.__ne__» #[[.ref p,.ref q],[]]) λ_ R s=>s.heap.get? p=A0 {cls:=.type "list",dict:=c,data:=.seq b n,slots:=l1}/\s.heap.get? q=A0 {cls:=.type "list",dict:=d2,data:=.seq vs m,slots:=l2}/\R (.ok<|.ret<|.bool Eg) s:=by intro A R s ⟨e,hq,k⟩;let#[f,g,d,i,os]:=s;let sub:=AutoSeq1.sub_list_list;wp_walk using AutoSeq1.wpAny_loadPart' e,AutoSeq1.wpAny_loadPart' hq;let:=k
def Hf{p q:Er}{j vs:Array Es}(l:s.heap.IsList p j)(hq:s.heap.IsList q vs)(sz:j.size≠vs.size)(o:A.units<Ld)(k:Q (.bool Eg) s):EA (EC prog w) A (richCompare .NotEq (.ref p)<|.ref q) Q E s:=by let#[#[l1],b,c,n,f]:=id l;let#[#[l2],i,e,m,g]:=id hq;simp only at c f e g;subst c f e g;let:=UB (op:=.NotEq) #[_,b,Ej] #[_,i,Ej] F.slot_list_ne (Vq F.slot_list_ne #[_,b,Ej] F.entry_list_ne (F.args_list_ne_2 ..) (KJ sz) #[b,i,#[λz=>(nomatch z),k]]) o
inductive zvL(K:CK)(x:V)(y:V)(H:Hp)(Q:VK):Prop|mk(a:_)(b:_)(xs:_)(h0:x=.ref a)(h1:y=.ref b)(h2:yp K H a xs)(h3:yp K H b [])(h4:Q (.bl<|!decide (xs=[])) H):zvL K x y H Q
def dk(p:X.A.units+128<Ld):CW X (EZ .NotEq)<|zvL X.K:=by intro o s n H x y v u Q I c f h;let#[a,b,xs,rfl,rfl,ha,hb,q]:=h;cases xs with|nil=>let:=(EqT.data (d:=.list []) (e:=.list []) #[_,_,Ej,ha,Ej] #[_,_,Ej,hb,Ej] rfl rfl rfl X _ n s X.A rfl I ⋯ v u c f).ne _ _ #[.bl _,H,I,Ej,q]|cons x0 xs=>cases c;cases f;let#[t,g,j,_]:=I.list ha;let#[w,i,l,_]:=I.list hb;let r:=`g;let lb:=`i;let:=Hf j.isList l.isList (by grind) ⋯ #[.bl _,H,I,Ej,q]
end L2
namespace An10
open PySem L2 An
end An10
namespace An12
open PySem L2 An An10
def pR{b:Hp}{v:V}(hs:yq K H a xs)(h:v=.ref a/\b=H/\Xn xs lo hi=xs\/∃p,H p=Ee/\v=.ref p/\b=upd H p (.tup<|Xn xs lo hi)):∃p:Er,v=.ref p/\zx H b/\yq K b p (Xn xs lo hi):=by
 rcases h with⟨rfl,rfl,e2⟩|⟨p,np,rfl,rfl⟩;.let:=#[a,Ej,zx.refl _,by simp_all]
 .let:=#[p,Ej,zz np,yq.of zD]
def oK(h:U4 x=Eg):Ez x=Eg:=by unfold U4 at h;rw[ZQ]at h;rw[yT];intro c b;have:=Yc.mp h.2 c b;unfold Xb at this;lia
end An12
namespace AnJ
open PySem L2 An An10 An12 AxK
def yr(ls:By):(PyData):=.tuple<|ls.map .str
mutual
def vz:(EB->Bool)|.list _=>Ei|.tuple ds=>ud ds|.dict _=>Ei|.none|.bool _|.int _|.str _=>Eg
def ud:(De->Bool)|[]=>Eg|d::ds=>vz d&&ud ds
end
mutual
theorem Dt.ts{K:CK}(e:pX H H'):∀(d:EB)(v:V),vz d=Eg->Dt K H d v->Dt K H' d v|.none,_,_,h=>h|.bool _,_,_,h=>h|.int _,_,_,h=>h|.str _,_,_,h=>h|.list _,_,n,_=>nomatch n|.tuple ds,_,n,⟨a,xs,h1,h2,h3⟩=>#[a,xs,h1,e.tup h2,zu.ts e ds xs n h3]|.dict _,_,n,_=>nomatch n
theorem zu.ts{K:CK}(e:pX H H'):∀(ds:De)(xs:Di),ud ds=Eg->zu K H ds xs->zu K H' ds xs
 |[],_,_,h=>h|d::ds,_,n,⟨x,r,h1,h2,h3⟩=>by
  let n:vz d=Eg/\ud ds=Eg:=by simpa[ud]using n
  let:=#[x,r,h1,Dt.ts e d x n.1 h2,zu.ts e ds r n.2 h3]end
def rO:∀{ds:De},(∀d∈ds,vz d=Eg)->ud ds=Eg|[],_=>rfl|d::ds,h=>by show(vz d&&ud ds)=Eg;rw[h d<|ZD ..,rO λx b=>h x<|ZB _ b];rfl
def zyR(ls:By):vz (yr ls)=Eg:=rO λd hd=>by let#[x,_,rfl]:=ZH.mp hd;rfl
def Km(l m:By):EX (yr l) (yr m)=decide (l=m):=qJ l m
def qp(ls:By):(Prop):=∀l∈ls,Ez l=Eg
def SS(h:qp ls):(yr ls).canLay0=Eg/\(yr ls).depth<=1:=by let#[a,b]:=vH ls h;let:=#[a,?_];show E2 _+1<=1;simp_all
def tR{d:EB}(h:d.canLay0=Eg)(n:d.depth<=60):EU d=Eg:=by unfold EU;lia
def OZ:∀a b:List Nat,decide (a<b)=xL TO.nat a b|[],[]=>rfl|[],_::_=>rfl|_::_,[]=>rfl|a::as,b::bs=>by let c:=OZ as bs;unfold xL;rw[<-c,YV,Z6,Je];show _↔(decide _||!decide _&&decide _)=Eg;grind
def p8:(TO Str):=TO.by_ (TO.list TO.nat) cs λa b h=>wR h
def zz9(a b:Str):p8.lt a b=decide (a.cps.toList<b.cps.toList):=(OZ ..).symm
def zzA:∀a b:By,bV (a.map .str) (b.map .str)<|(TO.list p8).lt a b
 |[],[]=>rfl|[],_::_=>rfl|_::_,[]=>rfl|x::a,y::b=>by
  show(x==y)=Eg/\bV _ _ (xL ..)\/(x==y)=Ei/\xL ..=decide _;by_cases e:x=y;.subst e;let:=.inl #[by simp,?_];unfold xL;have:=p8.refl x;rw[this];let:=zzA a b
  .let:=.inr #[by simpa using e,?_];unfold xL;rw[<-zz9];cases q:p8.lt x y with|true=>rfl|false=>cases c:p8.lt y x with|true=>rfl|false=>let:=absurd (p8.ant _ _ q c) e
end AnJ
namespace L2
open PySem PySem.Spec PyProof.Rows PySem.W AxK An
def lays:(Hp->List (Er×Di)->Hp)|H,[]=>H|H,p::r=>lays (upd H p.1<|.tup p.2) r
def uC:∀{l:List<|Er×Di}{H:Hp}{b:Er},b∉l.map (·.1)->lays H l b=H b|[],_,_,_=>rfl|p::r,H,b,h=>by rw[Z9,ZJ,not_or]at h;show lays _ r b=_;rw[uC h.2,zH h.1]
def F9:∀{l:List<|Er×Di}{H:Hp}{p:Er×Di},(l.map (·.1)).Nodup->p∈l->lays H l p.1=A0 (.tup p.2)
 |q::r,H,p,nd,h=>by
  rw[Z9,YC]at nd;show lays _ r p.1=_;rcases ZJ.mp h with rfl|h;.rw[uC nd.1,zD]
  .let:=F9 nd.2 h
def zyY:∀{l:List<|Er×Di}{H:Hp}{b:Er}{o:HO},(l.map (·.1)).Nodup->lays H l b=A0 o->H b=A0 o\/∃xs,(b,xs)∈l/\o=.tup xs:=λ{l H b o}nd h=>by
 by_cases z:b∈l.map (·.1);.let#[p,c,rfl]:=ZH.mp z;rw[F9 nd c]at h;let:=.inr #[p.2,c,(dI h).symm]
 .rw[uC z]at h;let:=.inl h
def BS{l:List<|Er×Di}{H:Hp}(f:∀p∈l,H p.1=Ee):zx H<|lays H l:=λb o e=>by
 rw[uC];.let:=e
 .intro z;let#[p,c,rfl]:=ZH.mp z;rw[f p c]at e;cases e
section
variable{σ:St}{H:Hp}
def Inv.lays{t':Nat}(I:Inv X Dp σ H s){l:List<|Er×Di}(nd:(l.map (·.1)).Nodup)(k:∀b u,s.heap.get? b=A0 u->h'.get? b=A0 u)(f:∀p∈l,⇑s<=p.1)(new:∀p∈l,xx X.prog X.w (lays H l) h' p.1<|.tup p.2):Inv X Dp σ (lays H l) {s with heap:=h',toks:=t'}:=by
 let g:=λp m=>I.hok.fresh<|f p m;let sm:=BS g;let nx:∀b u,s.heap.get? b=A0 u->b∉l.map (·.1):=λb u q z=>by let#[p,m,rfl]:=ZH.mp z;let:=absurd (ZP q)<|Nat.not_lt.mpr<|f p m
 let:=I.un #[λb u q _ _ _=>k b u q,λb u q _ _ _=>#[_,k b u q],λb u q n _=>(uC<|nx b u q)▸n,λb u q _=>#[u,k b u q],λb xs q=>sm _ _ q,λb u xs q=>sm _ _ q,λb i q=>#[#v[],by rw[sm _ _ q];simp]] λb u e=>?_;rcases zyY nd e with z|⟨xs,m,rfl⟩;.let:=(I.hok b u z).stay (λc v _ q=>k c v q) (λc q=>sm _ _ q) λc xs q=>sm _ _ q
 .let:=new _ m
def GK:∀{ps:Df},(∀p∈ps,Ez p.1=Eg/\Ez p.2=Eg)->EJ (ps.map An.yt)=Eg|[],_=>rfl|p::ps,h=>by let#[h1,h2]:=h p<|ZD ..;show(Ez p.1&&(Ez p.2&&Eg)&&EJ _)=Eg;rw[h1,h2,GK λq hq=>h q<|ZB _ hq];rfl
def F6:(EB->By)
 |.tuple xs=>xs.map λd=>match d with|.str x=>x|_=>""
 |_=>[]
def G3{ps:Df}(h:i<`ps):(ps.map An.yt).getD i .none=An.yt (ps.getD i ("","")):=by simp_all
def dU{a b:Str×Str}(h:(TO.list AnJ.p8).le (F6<|An.yt a)<|F6<|An.yt b):cs a.1<=cs b.1:=by let h:(AnJ.p8.lt b.1 a.1||!AnJ.p8.lt a.1 b.1&&xL _ [b.2] [a.2])=Ei:=h;rw[Vb,AnJ.zz9,Vm]at h;let:=US.mp h.1
def eK(K:CK)(g:TE):(TE):=λσ H Q=>g σ H λv f=>∃(d:Er)(e:Df),v=.ref d/\Rd f d (.dK<|e.map λp=>((.inr p.1:Key),V.str p.2))/\`e<64/\(∀p∈e,Ez p.1=Eg/\Ez p.2=Eg)/\∀(l:Er)(ss:Df)(ts:Di)(c:Hp),ss.Perm e->(ss.Pairwise λa b=>cs a.1<=cs b.1)->zx f c->f l=Ee->c l=A0 (.lst ts)->zu K c (ss.map An.yt) ts->Q (.ref l) c
def TL{p Dr:Pos}(hc:X.calm=Eg)(hu:X.A.units+64<Ld)(hg:Gl X x)(hm:X.mg x=Ee)(hv:LO x=A0 (.builtin "sorted"))(ho:PE X o td)(D5:Lx o "items" X.env (E8 o X.env)=E8 o X.env:=by rfl)(DN:(Ds.endLine==Dr.line)=Eg:=by rfl)(hn:x≠"__name__":=by decide)(a0:(x==("__debug__":Str))=Ei:=by decide)(he:EI [.Call (.Attribute o "items" Ds) [] [] Dr] X.env=(Ei,E8 (.Call (.Attribute o "items" Ds) [] [] Dr) X.env)::EI [] X.env:=by rfl)(a6:(Lu pos<|EI [] X.env).any (·.1)=Ei:=by rfl)(hK:X.K=K:=by rfl):PE X (.Call (.Name x p) [.Call (.Attribute o "items" Ds) [] [] Dr] [] pos)<|eK K td:=by
 subst hK;intro Dp s σ H Q I h;let:=Jo<|uZ I hg hm hv (Ul ?_ he a6) hn a0;rw[he];let:=Ly<|V4 D5 DN<|CN (ho Dp s σ H _ I h) λv L q9=>?_;let#[x,N,I1,r,d,f,ex,hd,ap,hok,q]:=q9;subst ex;cases r;let#[vs,ep,Z,da,hS,a9]:=Ij I1 hd;let dO:=da.dictOf;let#[bo,b4,h1,h2,h3]:=id da;let:=#["dict","dict.items",F.plainAttrs_dict,MD,F.type_dict_items,dO.typeIs,λb q=>by cases q;let:=#[bo,h1,h2.2.1],Lb rfl<|Uz<|Vq MD dO.typeIs F.entry_dict_items (F.args_dict_items_1 _) (meets_dict_items (yx X.prog X.w) d hS) #[#[vs,dO],Me ?_]];let I2:Inv X Dp σ N {L with heap:=L.heap.push {cls:=.type "dict_items",data:=.fields #v[.ref d]}}:=I1.kept (t':=L.toks) λb o e=>ZE _ e;let am:(L.heap.push {cls:=.type "dict_items",data:=.fields #v[.ref d]}).DictAt (yx X.prog X.w) d vs ep:=da.at' λo e=>ZE _ e;let a8:(L.heap.push {cls:=.type "dict_items",data:=.fields #v[.ref d]}).IsItemsView ⇑L d:=#[_,ZL _ rfl,Ej,Ej];let Dq:=`Paired Z;rw[ZA]at Dq;let DN:64<=sizeLine:=by rw[Y2];decide
 let:=Mn kind_sorted plain_sorted entry_sorted (args_sorted1 _) ?_;unfold Builtin.«sorted»;let:=Zz<|ZF<|Zz<|kdx_collect (I.ok.hd hc) a8 am ⋯ λh' tk l a4 hl S=>?_;let P:∀b o,(L.heap.push {cls:=.type "dict_items",data:=.fields #v[.ref d]}).get? b=A0 o->h'.get? b=A0 o:=a4;generalize L.heap.push {cls:=.type "dict_items",data:=.fields #v[.ref d]}=h0 at I2 S P;let ln:`l=`f:=by rw[hl,<-Dq]
 let ah:=Ya.mpr<|S.rise.imp λ{a b}z=>ZU z;let z1:((l.zip f).map λ(q:Er×Str×Str)=>(q.1,[V.str q.2.1,V.str q.2.2])).map (·.1)=l:=by rw[ZV];let:=Uo ⋯
 let I3:Inv X Dp σ (lays N<|(l.zip f).map λ(q:Er×Str×Str)=>(q.1,[V.str q.2.1,V.str q.2.2])) {L with heap:=h',toks:=tk}:=by
  let:=Inv.lays I2 (by rwa[z1]) P (λp y=>?_)<|λp y=>?_;.let#[c,B,rfl]:=ZH.mp y;let:=Y3<|S.above _ (Vs B).1
  .let#[c,B,rfl]:=ZH.mp y;let#[j,u]:=Jm.mp B;rw[J4]at u;let#[key,k,x,e1,hk,e2]:=S.pairs j _ u.1;let#[p,G,R,rx]:=jK Z e1;rw[ZN,u.2]at G;let G:=(dI G).symm;subst G;let R:(EE c.2.1:Key)=k:=R;rw[<-R]at hk;let#[t,et]:=Ja<|show Lk c.2.1 key=Eg from hk;let:=#[by show 2<=_;lia,[key,x],.cons #[t,et]<|.cons rx .nil,_,e2,Ej,0,Ej,Ej]
 let sm:zx N<|lays N<|(l.zip f).map λ(q:Er×Str×Str)=>(q.1,[V.str q.2.1,V.str q.2.2]):=BS λp y=>by let#[c,B,rfl]:=ZH.mp y;let:=I2.hok.fresh<|Y3<|S.above _ (Vs B).1
 let D:zu X.K (lays N<|(l.zip f).map λ(q:Er×Str×Str)=>(q.1,[V.str q.2.1,V.str q.2.2])) (f.map An.yt)<|l.map V.ref:=by let at_:∀(j:Nat)(a:Er)(p:Str×Str),l[j]?=A0 a->f[j]?=A0 p->lays N ((l.zip f).map λ(q:Er×Str×Str)=>(q.1,[V.str q.2.1,V.str q.2.2])) a=A0 (.tup [V.str p.1,V.str p.2]):=λj a p ha y=>F9 (by rwa[z1])<|ZH.mpr #[(a,p),ZI<|J4.mpr #[ha,y],Ej];generalize lays N ((l.zip f).map λ(q:Er×Str×Str)=>(q.1,[V.str q.2.1,V.str q.2.2]))=Hs at at_;clear I3 sm z1 ah S hl hok q hd Z ap Dq a9;induction l generalizing f with
  |nil=>cases f with|nil=>rfl|cons p f=>cases ln
  |cons a l ih=>cases f with|nil=>cases ln|cons p f=>let h0:=at_ 0 a p rfl rfl;let:=#[.ref a,l.map V.ref,Ej,#[a,[V.str p.1,V.str p.2],Ej,yq.of h0,_,_,Ej,Ej,_,_,Ej,Ej,Ej],ih f (by simpa using ln) λj b q' hb a7=>at_ (j+1) b q' hb a7]
 generalize lays N ((l.zip f).map λ(q:Er×Str×Str)=>(q.1,[V.str q.2.1,V.str q.2.2]))=Hs at I3 sm D;let rv:zb (l.map V.ref)<|l.map EO:=by clear S hl ah ln z1 D I3;induction l with|nil=>let:=.nil|cons a l ih=>let:=.cons rfl ih
 let#[b3,rd]:=zu.zp I3 _ _ _ D rv;let rd:=rd;let bm:=GK hok;let l1:↑(l.map V.ref)=↑(f.map An.yt):=by rwa[ZA,ZA]
 let l2:↑(l.map EO)=↑(f.map An.yt):=by rwa[ZA,ZA]
 let l3:↑(f.map An.yt)<64:=by rwa[ZA]
 let T:∀d∈f.map An.yt,XE "str" d/\d.canLay0=Eg/\d.depth<=60:=λd hd=>by let#[p,y,rfl]:=ZH.mp hd;let#[h1,h2]:=hok p y;let:=#[Ej,?_,by show max 0 (max 0 0)+1<=60;decide];show(Ez p.1&&(Ez p.2&&Eg))=Eg;rw[h1,h2];rfl
 let a5:∀d∈f.map An.yt,∀e∈f.map An.yt,bU d e<|(TO.list AnJ.p8).lt (F6 d)<|F6 e:=λd hd e he=>by let#[p,y,rfl]:=ZH.mp hd;let#[p',b5,rfl]:=ZH.mp he;let:=AnJ.zzA [p.1,p.2] [p'.1,p'.2]
 generalize l.map EO=g at rd rv l2;generalize l.map V.ref=ab at rv D l1;let:=Zz (wpAny_newList ?_<|by rw[l2];lia);let J:(h'.push<|Lq "list" g.toArray 0).get? h'.objs.size=A0 (Lq "list" g.toArray 0):=ZL _ rfl;let kp:∀b o,h'.get? b=A0 o->(h'.push<|Lq "list" g.toArray 0).get? b=A0 o:=λb o z=>ZE _ z;generalize h'.push (Lq "list" g.toArray 0)=an at J kp;let:=Zz<|Ys<|Yw slot_list_sort #[_,J,Ej] entry_list_sort ?body<|args_list_sort _;let:=Go (κ:=tuples'<|Value.type "str"!=Value.type "tuple") (lt:=λi j=>(TO.list AnJ.p8).lt (F6<|(f.map An.yt).getD i .none)<|F6<|(f.map An.yt).getD j .none) J ⋯ (λh2 s2 k1=>?_) λp y=>#[_,Ej,ZF #[_,Ej,?_]]
 .let Y:=xI (λb o z=>k1 b o (ZU<|ZP z)<|kp b o z) _ _ _ bm rd;let:=#[λQ' E' z=>OW Y (λd ay=>(T d ay).1) ⋯ z,λi j E u C c=>?_];let#[b1,r1]:=jO i Y ⋯;let#[b2,r2]:=jO j Y ⋯;let m:∀k,k<`g->(f.map An.yt).getD k .none∈f.map An.yt:=λk hk=>by rw[Jf,ZO<|⋯];let:=Y8 _
  let d1:=T _<|m i E;let d2:=T _<|m j u;let:=Bs r1 r2 d1.1 d2.1 d1.2.1 d2.2.1 (by show X.A.units+1+1+_<_;lia) (a5 _ (m i E) _<|m j u) c
 .let pp:p.Perm (LQ<|EK `g)/\Up (TO.list AnJ.p8) (λi=>F6<|(f.map An.yt).getD i .none) p `g:=by
   rcases y with⟨n2,rfl⟩|⟨n2,rfl⟩;.let:=#[Array.Perm.refl _,λ(i j:Nat)(ad:i<=j)(u:j<`g)=>?_];have:i=j:=⋯;subst this;let:=(TO.list AnJ.p8).refl _
   .let#[p',e,a1,a2]:=Pn (n:=`g) ⋯;rw[e];let:=#[a1,a2]
  let#[pp,up]:=pp;let U:p.toList.Perm<|EK `g:=by simpa using Array.perm_iff_toList_perm.mp pp
  let pm:∀i∈p.toList,i<`ab:=λi E=>by have:=YQ.mp<|U.mem_iff.mp E;lia
  let#[e,a3]:=sortedHeap_at J;let nl:=X9 rv p.toList pm;let be:∀b ob,h'.get? b=A0 ob->(sortedHeap an h'.objs.size g<|LQ<|p.toList.map λi=>g.getD i EY).get? b=A0 ob:=λb ob q1=>by let hb:=ZP q1;rw[sortedHeap_old (ZU hb)<|ZP<|kp b ob q1];let:=kp b ob q1
  let af:`p.toList=`g:=by rw[U.length_eq,YT]
  let ac:=I3.hok.fresh<|ZG _;let fr1:=sm.free ac;let al:=zz (o:=.lst<|p.toList.map λi=>ab.getD i .non) ac;let:=#[.ref h'.objs.size,_,I3.laid (o:=.lst<|p.toList.map λi=>ab.getD i .non) (t':=tk) be (ZG _) #[by rw[ZA,af,Y2];lia,_,e,nl,a3],Ej,q _ (p.toList.map λi=>f.getD i ("","")) _ _ ?_ ?_ (sm.trans al) fr1 zD ?_];.have:=U.map λi=>f.getD i ("","");rw[show`g=`f by rw[l2,ZA],TQ]at this;let:=this
  .rw[JF];intro i j E u ad;rw[List.getElem_map,List.getElem_map];have:=up i j (Y3 ad) (by rw[ZA,af]at u;let:=u);unfold kn at this;rw[ZA,Ye]at E u;rw[YG,YG,getElem?_pos p i E,getElem?_pos p j u]at this;let pi:p[i]<`f:=by have:=pm p[i] (by rw[<-VH E];let:=Y8 _);rw[l1,ZA]at this;let:=this
   let pj:p[j]<`f:=by simp_all[VH,ZA]
   rw[VH E,VH u];let this:(TO.list AnJ.p8).le (F6<|(f.map An.yt).getD p[i] .none)<|F6<|(f.map An.yt).getD p[j] .none:=by simpa using this
   rw[G3 pi,G3 pj]at this;let:=dU this
  .have:=zu.same al _ _<|OK D p.toList pm;rw[show(p.toList.map λi=>(f.map An.yt).getD i .none)=(p.toList.map λi=>f.getD i ("","")).map An.yt by rw[ZV];let:=Yp λi E=>G3 ?_;have:=pm i E;rw[l1,ZA]at this;let:=this]at this;let:=this
end
end L2
namespace An
open PySem L2 AnJ
def qW(h:wM ls):Xd (yr ls)=Eg:=(FQ<|OY h).1|>λz=>by let z:(Xd _&&(Xd (yr ls)&&Eg))=Eg:=z;simp_all
structure yj(K:CK)(H:Hp)(fs:Dj)(Dl:Dk):Prop where keys:Dl.map (·.1)=fs.map λf=>(.inr<|CL f.1:Key)val:∀(i:Nat)(f:Fi)(kv:Key×V),fs[i]?=A0 f->Dl[i]?=A0 kv->Dt K H (yr f.2) kv.2/\wM f.2
section
variable{H H':Hp}{fs:Dj}
def yj.nil:yj K H [] []:=#[Ej,λi f kv h=>nomatch h]
def yj.len(h:yj K H fs Dl):`Dl=`fs:=by have:=congrArg List.length h.keys;simp_all
def yj.same(h:yj K H fs Dl)(e:zx H H'):yj K H' fs Dl:=#[h.keys,λi f kv a b=>#[Dt.same e _ _ (h.val i f kv a b).1,(h.val i f kv a b).2]]
def yj.off{X:Dc}(h:yj K H fs Dl)(n:∀b∈X,∀xs,¬Rd H b (.tup xs))(o:Off X H H'):yj K H' fs Dl:=#[h.keys,λi f kv a b=>#[Dt.off n o _ _ (qW (h.val i f kv a b).2) (h.val i f kv a b).1,(h.val i f kv a b).2]]
def yj.get(h:yj K H fs Dl){k:Key}{v:V}(e:Dl[i]?=A0 (k,v)):∃f,fs[i]?=A0 f/\k=.inr (CL f.1)/\Dt K H (yr f.2) v/\wM f.2:=by let hl:=(ZW.mp e).1;let c:=ZO<|h.len▸hl;let ek:=congrArg (λl=>l[i]?) h.keys;simp only[ZN,e,c]at ek;let#[a,b]:=h.val i _ _ c e;let:=#[_,c,dI ek,a,b]
def yj.snoc(h:yj K H fs Dl){f:Fi}{v:V}(hv:Dt K H (yr f.2) v)(hl:wM f.2):yj K H (fs++[f])<|Dl++[(.inr<|CL f.1,v)]:=by
 let:=#[by rw[ZM,ZM,h.keys];rfl,λi g kv a b=>?_];by_cases z:i<`fs;.rw[Yr z]at a;rw[Yr<|h.len▸z]at b;let:=h.val i g kv a b
 .rw[Yy<|⋯]at a;rw[Yy<|by rw[h.len];lia]at b;let c:i-`fs=0:=by
   rcases J1 _ with q|q;.let:=q
   .rw[VM.mpr<|by show 1<=_;lia]at a;cases a
  rw[c]at a;rw[h.len,c]at b;cases a;cases b;let:=#[hv,hl]
end
def uJ{d:Nat}{a b:By}(ha:a≠[])(hb:b≠[])(f:∀l∈a,zV l=Eg)(lb:∀l∈b,zV l=Eg)(e:CL a=CL b):a=b:=by let h1:=jL ha λy c=>xP<|f y c;let h2:=jL hb λy c=>xP<|lb y c;unfold CL at e;simp_all
def Nz(b:Df):(Dk):=b.map λp=>((.inr p.1:Key),V.str p.2)
def T8(b:Df):(Nz b).map (·.1)=b.map λp=>(.inr p.1:Key):=by unfold Nz;rw[ZV];rfl
def Ph{b:Df}{l n:Str}(h:l∉b.map (·.1)):yh (Nz b) (.inr l) (.str n)=Nz (b++[(l,n)]):=by
 rw[kF];.unfold Nz;rw[ZM];rfl
 simp_all[T8]
def CZ(b:List<|Str×Er):(Dk):=b.map λp=>((.inr p.1:Key),V.ref p.2)
def Ko(b:List<|Str×Er):(CZ b).map (·.1)=b.map λp=>(.inr p.1:Key):=by unfold CZ;rw[ZV];rfl
def cB{b:List<|Str×Er}(nd:(b.map (·.1)).Nodup):((CZ b).map (·.1)).Nodup:=by
 rw[Ko];have:(b.map λp=>(.inr p.1:Key))=(b.map (·.1)).map Sum.inr:=by rw[ZV];rfl
 rw[this];let:=ME _ ⋯ nd
def uK{b:List<|Str×Er}(nd:(b.map (·.1)).Nodup){p:Str×Er}(h:p∈b):U0 (CZ b) (.inr p.1)=A0 (.ref p.2):=vZ (cB nd)<|ZH.mpr #[p,h,Ej]
def Sk{b:List<|Str×Er}{l:Str}(h:l∉b.map (·.1)):U0 (CZ b) (.inr l)=Ee:=by cases e:U0 (CZ b) _ with|none=>rfl|some v=>have:=qX e;simp_all[Ko]
def Kp{c:List<|Str×Er}{l:Str}{b:Er}(h:l∉c.map (·.1)):yh (CZ c) (.inr l) (.ref b)=CZ (c++[(l,b)]):=by rw[Gj _<|Sk h];unfold CZ;rw[ZM];rfl
def Kq{b:List<|Str×Er}(nd:(b.map (·.1)).Nodup){p:Str×Er}(h:p∈b):yh (CZ b) (.inr p.1) (.ref p.2)=CZ b:=by
 unfold yh;rw[Z4<|by rw[x9,uK nd h];rfl];unfold CZ;rw[ZV];let:=Yp λq hq=>?_;show(if(.inr q.1:Key)=.inr p.1 then((.inr q.1:Key),V.ref p.2)else(.inr q.1,V.ref q.2))=(.inr q.1,V.ref q.2);split
 .rename_i e;have:=by let h1:=uK nd hq;rw[e,uK nd h]at h1;let:=(dI h1).symm
  rw[this]
 .rfl
structure vq(K:CK)(H1 H:Hp)(fs:Dj)(fa:List<|Str×Er):Prop where
 wg:fa.map (·.1)=CU fs
 nd:(fa.map (·.2)).Nodup
 new:∀p∈fa,H1 p.2=Ee
 at_:∀p∈fa,∃Dl,H p.2=A0 (.dK Dl)/\yj K H (sub fs p.1) Dl
section
variable{H1 H H':Hp}{fs:Dj}{fa:List<|Str×Er}
def vq.nil:vq K H1 H [] []:=#[Ej,YM,λp h=>(nomatch h),λp h=>nomatch h]
def vq.off{X:Dc}(h:vq K H1 H fs fa)(ex:∀c∈X,∃o,H1 c=A0 o)(n:∀b∈X,∀xs,¬Rd H b (.tup xs))(o:Off X H H'):vq K H1 H' fs fa:=#[h.wg,h.nd,h.new,λp f=>by let#[g,a,b]:=h.at_ p f;let:=#[g,o _ _ (λz=>?_) a,b.off n o];let#[q,e]:=ex _ z;rw[h.new p f]at e;cases e]
def vq.same(h:vq K H1 H fs fa)(e:zx H H'):vq K H1 H' fs fa:=#[h.wg,h.nd,h.new,λp f=>by let#[c,a,b]:=h.at_ p f;let:=#[c,e _ _ a,b.same e]]
def vq.one(h:vq K H1 H fs fa){f:Fi}{a:Str}(e:f.1=[a]):vq K H1 H (fs++[f]) fa:=#[by rw[jZ,e];let:=h.wg,h.nd,h.new,λp c=>by rw[sub_snoc,Nj e];show∃b,_/\yj K H (sub fs p.1++[]) b;rw[Yi];let:=h.at_ p c]
def vq.oY(h:vq K H1 H fs fa):(fa.map (·.1)).Nodup:=h.wg▸(xH fs).1
def z9{c:Er}:Off [c] H<|upd H c o:=(Off.refl _ _).upd<|ZC.mpr rfl
def z6{c:Er}(h:H c=A0 (.dK Dl)):∀b∈[c],∀xs,¬Rd H b (.tup xs):=λb hb xs=>ZC.mp hb▸M8 h ⋯ ⋯ xs
def vq.old(h:vq K H1 H fs fa){p:Str×Er}(c:p∈fa)(hk:H p.2=A0 (.dK Dl))(u:yj K H (sub fs p.1) Dl){f:Fi}{b:Str}{r:By}(e:f.1=p.1::b::r){v:V}(hv:Dt K H (yr f.2) v)(hl:wM f.2):vq K H1 (upd H p.2<|.dK<|Dl++[(.inr<|CL<|b::r,v)]) (fs++[f]) fa:=by
 let nt:=z6 hk;let o:Off [p.2] H<|upd H p.2<|.dK<|Dl++[((.inr<|CL<|b::r:Key),v)]:=z9;let inl:p.1∈CU fs:=h.wg▸ZH.mpr #[p,c,Ej];let:=#[?_,h.nd,h.new,λq hq=>?_];.rw[jZ,e];show _=qK (CU fs) p.1;unfold qK;rw[Z4 inl];let:=h.wg
 .rw[sub_snoc,vG e];by_cases z:p.1=q.1
  .rw[Z4 z];let eq:=by let h1:=uK h.oY hq;rw[<-z,uK h.oY c]at h1;injection dI h1
   let:=#[_,by rw[<-eq];let:=zD,?_];rw[<-z];let:=(u.off nt o).snoc (Dt.off nt o _ _ (qW hl) hv) hl
  .rw[ZX z];let#[l,n,s]:=h.at_ q hq;let ne:q.2≠p.2:=λy=>by let#[i,w,t]:=Ym.mp c;let#[j,x,g]:=Ym.mp hq;have:=(JJ (h₀:=by simpa using w) (h₁:=by simpa using x) h.nd).mp (by simp_all);subst this;rw[t]at g;let:=z<|by rw[g]
   let:=#[l,zH ne▸n,?_];show yj K _ (sub fs q.1++[]) l;rw[Yi];let:=s.off nt o
def vq.zx2(h:vq K H1 H fs fa){l b:Str}{r:By}(i:l∉CU fs){c:Er}(t:H c=A0 (.dK []))(n1:H1 c=Ee)(n:∀p∈fa,p.2≠c){f:Fi}(e:f.1=l::b::r){v:V}(hv:Dt K H (yr f.2) v)(hl:wM f.2):vq K H1 (upd H c<|.dK [(.inr<|CL<|b::r,v)]) (fs++[f])<|fa++[(l,c)]:=by
 let nt:=z6 t;let o:Off [c] H<|upd H c<|.dK [(.inr<|CL<|b::r,v)]:=z9;let w:=Vn.mpr λk hk=>by let#[x,u]:=vg.mp hk;let:=i<|((xH fs).2 l).mpr #[_,u,?_];cases q:k.1 with|nil=>trivial|cons b r=>let:=#[b,r,Ej]
 let:=#[?_,?_,λp g=>?_,λp g=>?_];.rw[jZ,e,ZM,h.wg];show _=qK _ l;unfold qK;rw[ZX i];rfl
 .rw[ZM];let:=jN h.nd λz=>?_;let#[p,g,s]:=ZH.mp z;let:=n p g s
 .rcases ZY.mp g with z|z;.let:=h.new p z
  .rw[ZC.mp z];let:=n1
 .rw[sub_snoc,vG e];rcases ZY.mp g with z|z;.let ne:l≠p.1:=λy=>i (by rw[y,<-h.wg];let:=ZH.mpr #[p,z,Ej]);rw[ZX ne];let#[j,a,b]:=h.at_ p z;let:=#[j,(zH<|n p z)▸a,?_];show yj K _ (sub fs p.1++[]) j;rw[Yi];let:=b.off nt o
  .rw[ZC.mp z,Z4 rfl,w];let:=#[_,zD,yj.snoc yj.nil (Dt.off nt o _ _ (qW hl) hv) hl]
end
def bp(fs:Dj)(i:Nat):wt (fs.take i)<=wt fs:=by have:=OC (fs.take i)<|fs.drop i;simp_all
def Td{fs:Dj}{v:Str×By}(h:v∈CS (fs.take i)):v∈CS fs:=uy.mpr<|JO<|uy.mp h
def gu(ok:wU S)(g:yw n fs)(hs:`S+1+wt fs<=2000)(i:Nat):wU ((CS<|fs.take i).foldl CM (S,[])).1/\((CS<|fs.take i).foldl CM (S,[])).1.length<2000/\((CS<|fs.take i).foldl CM (S,[])).2.map (·.1)=(CS<|fs.take i).map (·.1):=by let hm:=many<|fs.take i;let c:=bp fs i;let#[b]:=IG (d:=0) (CS<|fs.take i) (Fo.nil ok) (λv hv=>(g.wg _<|uy.mp<|Td hv).2.2.2) ⋯;let:=#[b.ok,⋯,?_];rw[b.wg,VX,ZV];rfl
def bx{d:Nat}(ok:wU S)(g:yw (d+1) fs)(hl:`fs<=63)(hs:`S+1+wt fs<=2000)(ls c:By)(e:ls++c=CU fs):Fo (d+1) S (ls.foldl (CQ d fs)<|(CS fs).foldl CM (S,[])).1 (ls.foldl (CQ d fs)<|(CS fs).foldl CM (S,[])).2 ((CS fs).map (λv=>(v.1,[(([],v.2):Fi)]))++ls.map λl=>(l,sub fs l))/\(ls.foldl (CQ d fs)<|(CS fs).foldl CM (S,[])).1.length+(c.map λl=>1+wt (sub fs l)).sum<=`S+wt fs:=by
 let hm:=many fs;rw[<-e,ZM,List.sum_append]at hm;let#[o]:=IG (d:=d) _ (Fo.nil ok) (λv hv=>(g.wg _<|uy.mp hv).2.2.2) ⋯;rw[VX]at o;let H:∀l∈ls,∀S,wU S->`S+1+wt (sub fs l)<=2000->nj (d+1) S (sub fs l) (U2 d S<|sub fs l)/\(U2 d S<|sub fs l).1.length<=`S+1+wt (sub fs l):=λl i q n j=>by cases d with|zero=>let#[f,p,b,r,t]:=((xH fs).2 l).mp<|e▸YB _ i;have:=(g.wg f p).2.1;grind|succ d=>let:=IK d n (g.sub l) (Yz sub_len hl) j
 let#[s]:=NK ls H o ⋯;grind
def iP{d:Nat}(ok:wU S)(g:yw (d+1) fs)(hl:`fs<=63)(hs:`S+1+wt fs<=2000){j:Nat}{l:Str}(b:(CU fs)[j]?=A0 l):wU (((CU fs).take j).foldl (CQ d fs)<|(CS fs).foldl CM (S,[])).1/\(((CU fs).take j).foldl (CQ d fs)<|(CS fs).foldl CM (S,[])).1.length+1+wt (sub fs l)<=2000/\(((CU fs).take j).foldl (CQ d fs)<|(CS fs).foldl CM (S,[])).2.map (·.1)=(CS fs).map (·.1)++(CU fs).take j:=by
 let#[h1,h2]:=bx ok g hl hs _ _<|Jk ..;let hd:(CU fs).drop j=l::(CU fs).drop (j+1):=by have:=ZW.mp b;rw[<-this.2];simp
 rw[hd,Z9,Vd]at h2;let:=#[h1.ok,⋯,?_];rw[h1.wg,ZM,ZV,ZV];congr 1;let:=Uw _
def fM{d:Nat}(ok:wU S)(g:yw (d+1) fs)(hl:`fs<=63)(hs:`S+1+wt fs<=2000){q:List En×Df}(e:q=(CU fs).foldl (CQ d fs) ((CS fs).foldl CM (S,[]))):wU q.1/\q.1.length<2000/\(q.2.map (·.1)).Nodup/\(∀r∈q.2,zV r.1=Eg/\∃e,Tree e q.1 r.2)/\q.2.length<=63:=by
 subst e;let#[h1,h2]:=bx ok g hl hs (CU fs) []<|Yi _;let h1:Fo _ S _ _<|pieces fs:=h1;let j:=qU fs;let:=#[h1.ok,⋯,h1.wg▸XZ g,λr f=>?_,?_];.let#[i,b]:=Jm.mp f;let il:=(ZW.mp b).1;let c:=ZO<|h1.len▸il;let e:=congrArg (λl=>l[i]?) h1.wg;simp only[ZN,b,c,J6]at e;let:=#[dI e▸(BG g _<|Y8 _).1,_,(h1.rd i r _ b c).1]
 .rw[h1.len];unfold pieces;grind
def MZ(l:Str):CL [l]=l:=rfl
def aO(l b:Str)(r:By):CL (l::b::r)=l++#[#v[47]]++CL (b::r):=wR<|by rw[qG l<|Y0 _ _,zf,zf];show _=cs l++[47]++_;simp
def dM(l b:Str)(r:By):l≠CL (l::b::r):=λz=>by have:=congrArg (λx=>↑(cs x)) z;simp only[qG l<|Y0 b r,ZS,Yj]at this;lia
def Ht:∀{p:By},(∀l∈p,zV l=Eg)->↑(cs<|CL p)<=9*`p|[],_=>by trivial|[l],h=>by have:=h l<|ZC.mpr rfl;rw[Pe];unfold zV at this;rw[ZQ,ZQ,YF,YF,za]at this;show _<=9;lia|l::b::r,h=>by let h1:=h l<|ZD ..;let e:=Ht λx c=>h x<|ZB _ c;rw[qG l<|Y0 _ _,ZS];unfold zV at h1;rw[ZQ,ZQ,YF,YF,za]at h1;grind
def bb(g:yw n fs){f:Fi}{l b:Str}{r:By}(t:fs[i]?=A0 f)(e:f.1=l::b::r):(.inr<|CL<|b::r:Key)∉(sub (fs.take i) l).map λk=>(.inr<|CL k.1:Key):=λz=>by
 let#[k,hk,q]:=ZH.mp z;let q:=dV q;let#[u,hk]:=vg.mp hk;let w:=(g.wg _<|JO hk).2.2.1;let v:=(g.wg _<|ZI t).2.2.1;let q:=uJ (d:=0) u (Y0 _ _) (λx o=>w x<|ZB _ o) (λx o=>v x<|e▸ZB _ o) q;let#[j,c]:=Jm.mp hk;rw[List.getElem?_take]at c;split at c
 .let h1:(fs.map (·.1))[j]?=A0 f.1:=by simp_all
  let h2:(fs.map (·.1))[i]?=A0 f.1:=by simp_all
  let#[y,p]:=ZW.mp h1;let#[A,s]:=ZW.mp h2;have:=(JJ g.nd).mp<|p.trans s.symm;lia
 .cases c
structure pH(K:CK)(H:Hp)(ah:Str)(fs:Dj)(Dl:Dk):Prop where keys:Dl.map (·.1)=fs.map λf=>(.inr<|ah++CL f.1:Key)val:∀(i:Nat)(f:Fi)(kv:Key×V),fs[i]?=A0 f->Dl[i]?=A0 kv->Dt K H (yr f.2) kv.2/\wM f.2
section
variable{H H':Hp}{ah l:Str}{fs:Dj}{more:Dk}
def pH.nil:pH K H ah [] []:=#[Ej,λi f kv h=>nomatch h]
def pH.len(h:pH K H ah fs Dl):`Dl=`fs:=by have:=congrArg List.length h.keys;simp_all
def pH.same(h:pH K H ah fs Dl)(e:zx H H'):pH K H' ah fs Dl:=#[h.keys,λi f kv a b=>#[Dt.same e _ _ (h.val i f kv a b).1,(h.val i f kv a b).2]]
def pH.off{X:Dc}(h:pH K H ah fs Dl)(n:∀b∈X,∀xs,¬Rd H b (.tup xs))(o:Off X H H'):pH K H' ah fs Dl:=#[h.keys,λi f kv a b=>#[Dt.off n o _ _ (qW (h.val i f kv a b).2) (h.val i f kv a b).1,(h.val i f kv a b).2]]
def pH.app(h:pH K H ah fs Dl)(k:pH K H ah gs more):pH K H ah (fs++gs)<|Dl++more:=by
 let:=#[by rw[ZM,ZM,h.keys,k.keys],λi g kv a b=>?_];by_cases z:i<`fs;.rw[Yr z]at a;rw[Yr<|h.len▸z]at b;let:=h.val i g kv a b
 .rw[Yy<|⋯]at a;rw[Yy<|by rw[h.len];lia,h.len]at b;let:=k.val _ g kv a b
def WD(ah l:Str){p:By}(h:p≠[]):ah++l++"/"++CL p=ah++CL (l::p):=wR<|by
 have:cs "/"=[47]:=by rfl
 simp_all[zf,qG]
def cb(ah l:Str):ah++l=ah++CL [l]:=rfl
def pH.deep(h:pH K H (ah++l++"/") fs Dl)(ne:∀f∈fs,f.1≠[]):pH K H ah (fs.map λf=>(l::f.1,f.2)) Dl:=by
 let:=#[?_,λi f kv a b=>?_];.rw[h.keys,ZV];let:=Yp λf c=>by show EE _=.inr _;rw[WD ah l<|ne f c]
 .rw[ZN]at a;let#[g,e,rfl]:=Z2.mp a;let:=h.val i g kv e b
def pH.one(hv:Dt K H (yr ls) v)(hl:wM ls):pH K H ah [([l],ls)] [(.inr<|ah++l,v)]:=by let:=#[by rfl,λi f kv a b=>?_];cases i with|zero=>cases a;cases b;trivial|succ i=>cases a
def pH.at(h:pH K H "" fs Dl):yj K H fs Dl:=#[h.keys▸Yp λf _=>by congr 1;let:=wR<|by rw[zf];rfl,h.val]
end
def Ge:∀{more Dl:Dk},(∀k∈more.map (·.1),k∉Dl.map (·.1))->(more.map (·.1)).Nodup->putAll Dl more=Dl++more
 |[],Dl,_,_=>(Yi _).symm|p::more,Dl,h,nd=>by
  rw[Z9,YC]at nd;show putAll (yh Dl p.1 p.2) _=_;rw[kF<|h p.1<|ZD ..,Ge (λk hk z=>?_) nd.2,Y1];.rfl
  .rw[ZM]at z;rcases ZY.mp z with z|z;.let:=h k (ZB _ hk) z
   .let z:k=p.1:=ZC.mp z;let:=nd.1<|z▸hk
def WX{ah:Str}{fs:Dj}(h:fs.Pairwise<|λf g=>Fc (CL f.1)<|CL g.1):(fs.map λf=>(.inr<|ah++CL f.1:Key)).Nodup:=by rw[Ya,YR];let:=h.imp λ{a b}z e=>?_;let e:=dV e;have:=congrArg cs e;rw[zf,zf]at this;let:=O1 z<|wR<|V6 this
noncomputable def DE(d:Nat)(S:Dh)(r:Str×Str):Dj:=(zp d S r.2).map λf=>(r.1::f.1,f.2)
end An
namespace Ev
open PySem L2 An
structure Ad where
 a:Nat->Er
 s:Nat->Str
instance:CoeFun Ad λ_=>Nat->Addr:=#[Ad.a]
inductive C|i(n:Int)|s(n:Nat)|q(x:Str)|b(x:Bool)|no|r(k:Nat)deriving DecidableEq
inductive O|l(xs:List C)|t(xs:List C)deriving DecidableEq
abbrev M:=List O
abbrev En:=List<|Option C
def O.xs:(O->List C)|.l x=>x|.t x=>x
def C.d(A:Ad):(C->V)|.i n=>.int n|.s n=>.str<|A.s n|.q x=>.str x|.b x=>.bl x|.no=>.non|.r k=>.ref<|A k
def C.ok(n:Nat):(C->Prop)|.r k=>k<n|.s k=>k<5|_=>True
abbrev dL(A:Ad)(l:List C):Di:=l.map<|C.d A
abbrev qp(n:Nat)(l:List C):Prop:=∀c∈l,c.ok n
def den(A:Ad)(e:En):(St):=e.map<|Option.map<|C.d A
def nP(n:Nat)(e:En):(Prop):=∀c,A0 c∈e->c.ok n
def O.At(K:CK)(B H:Hp)(A:Ad)(a:Er):(O->Prop)|.l xs=>H a=A0 (.lst<|dL A xs)/\B a=Ee|.t xs=>yq K H a<|dL A xs
def O.d(A:Ad):(O->HO)|.l xs=>.lst<|dL A xs|.t xs=>.tup<|dL A xs
def wM(L:Nat->Str):(Prop):=∀a,a<5->Ez (L a)=Eg/\∀b,b<5->(L a=L b↔a=b)/\((L a).cps.toList<(L b).cps.toList↔a<b)
def Ex(n:Nat)(A b:Ad):(Prop):=b.s=A.s/\∀k,k<n->b k=A k
structure Rl(K:CK)(B:Hp)(A:Ad)(m:M)(H:Hp):Prop where
 ln:wM A.s
 same:zx B H
 at_:∀{k:Nat}{o:O},m[k]?=A0 o->o.At K B H A (A k)wf:∀{o:O},o∈m->qp `m o.xs
 inj:∀{j k:Nat}{xs ys:List C},m[j]?=A0 (.l xs)->m[k]?=A0 (.l ys)->A j=A k->j=k
structure Nx(K:CK)(B:Hp)(A:Ad)(m:M)(A':Ad)(m':M)(H':Hp):Prop where
 r:Rl K B A' m' H'
 x:Ex `m A A'
 l:`m<=`m'
section
variable{B H H1 H2:Hp}{A A1 A2:Ad}{m m1 m2:M}
def Nx.refl(h:Rl K B A m H):Nx K B A m A m H:=#[h,#[Ej,λ_ _=>rfl],ZG _]
def Nx.trans(a:Nx K B A m A1 m1 H1)(b:Nx K B A1 m1 A2 m2 H2):Nx K B A m A2 m2 H2:=#[b.r,#[b.x.1.trans a.x.1,λk h=>(b.x.2 k<|Z0 h a.l).trans<|a.x.2 k h],Yz a.l b.l]
def C.ok.mono{b:Nat}{c:C}(h:c.ok n)(l:n<=b):c.ok b:=by cases c<;>first|trivial|let:=Z0 h l|let:=h
def C.zyA{c:C}(h:c.ok n)(x:Ex n A A1):c.d A1=c.d A:=by cases c<;>first|rfl|let:=congrArg _<|x.2 _ h|let:=congrArg _<|congrFun x.1 _
def R6(h:qp n l)(x:Ex n A A1):dL A1 l=dL A l:=Yp λc b=>C.zyA (h c b) x
def nP.mono{b:Nat}(h:nP n e)(l:n<=b):nP b e:=λc f=>(h c f).mono l
def qH(h:nP n e)(x:Ex n A A1):den A1 e=den A e:=Yp λc b=>by cases c with|none=>rfl|some c=>let:=congrArg _<|C.zyA (h c b) x
def OJ{e:En}{c:C}(h:e[i]?=A0 (A0 c)):(den A e)[i]?=A0 (A0<|c.d A):=by unfold den;simp_all
def FS{e:En}{c:C}:den A (e.set i<|A0 c)=(den A e).set i (A0<|c.d A):=List.map_set
def nP.set(h:nP n e){c:C}(f:c.ok n):nP n<|e.set i<|A0 c:=λx b=>(List.mem_or_eq_of_mem_set b).elim (h x) λz=>by simp_all
def O.At.eq{o:O}{a:Er}(w:qp n o.xs)(x:Ex n A A1)(h:o.At K B H A a):o.At K B H A1 a:=by cases o with|l xs=>let:=#[h.1.trans<|by rw[R6 (show qp n xs from w) x],h.2]|t xs=>let:=show yq K H a _ by rwa[R6 (show qp n xs from w) x]
def ins(A:Ad)(n:Nat)(p:Er):(Ad):=#[λk=>if k=n then p else A k,A.s]
def SF:Ex n A<|ins A n p:=#[Ej,λk h=>ZX<|ZU h]
def F1:ins A n p n=p:=Z4 rfl
def snoc{α:Type}{l:List α}{x o:α}{k:Nat}(h:(l++[x])[k]?=A0 o):l[k]?=A0 o/\k<`l\/k=`l/\o=x:=by
 rcases VA k _ with q|q|q;.rw[Yr q]at h;let:=.inl #[h,q]
 .subst q;simp at h;let:=.inr #[Ej,h.symm]
 .rw[Jd<|by simp;lia]at h;cases h
def Rl.put{p:Er}{o:O}(R:Rl K B A m H)(s:zx H H1)(x:Ex `m A A1)(e:A1 `m=p)(w:qp `m o.xs)(h:o.At K B H1 A p)(f:∀xs,o=.l xs->H p=Ee):Nx K B A m A1 (m++[o]) H1:=by
 let r:↑(m++[o])=`m+1:=by simp
 let:=#[#[x.1▸R.ln,λb u q=>s _ _<|R.same b u q,λ{k u}q=>?_,λ{u}q c n=>?_,λ{j k xs v}g i z=>?_],x,⋯]
 .rcases snoc q with⟨q,hk⟩|⟨rfl,rfl⟩;.rw[x.2 k hk];let:=O.At.eq (R.wf<|ZI q) x ?_;have:=R.at_ q;cases u with|l xs=>let:=#[s _ _ this.1,this.2]|t xs=>let:=zx.yr s this
  .rw[e];let:=O.At.eq w x h
 .rw[r];rcases ZY.mp q with q|q;.let:=(R.wf q c n).mono<|J8 _
  .rw[ZC.mp q]at n;let:=(w c n).mono<|J8 _
 .rcases snoc g with⟨g,h1⟩|⟨rfl,e1⟩<;>rcases snoc i with⟨i,h2⟩|⟨rfl,e2⟩;.rw[x.2 j h1,x.2 k h2]at z;let:=R.inj g i z
  .rw[x.2 j h1,e]at z;have:=(R.at_ g).1;rw[z,f _ e2.symm]at this;cases this
  .rw[x.2 k h2,e]at z;have:=(R.at_ i).1;rw[<-z,f _ e1.symm]at this;lia
  .rfl
def Rl.new{p:Er}{o:O}(R:Rl K B A m H)(b:H p=Ee)(w:qp `m o.xs):Nx K B A m (ins A `m p) (m++[o])<|upd H p<|o.d A:=by let:=R.put (zz b) SF F1 w ?_ λ_ _=>b;cases o with|l xs=>let:=#[zD,R.same.free b]|t xs=>let:=yq.of zD
def Rl.set{k:Nat}{xs:List C}(R:Rl K B A m H)(e:m[k]?=A0 (.l xs))(w:qp `m ys):Nx K B A m A (m.set k<|.l ys)<|upd H (A k)<|.lst<|dL A ys:=by
 let hk:=(ZW.mp e).1;let f:=R.at_ e;let ts:pX H<|upd H _<|.lst<|dL A ys:=pX.upd f.1;let p:↑(m.set k<|.l ys)=`m:=List.length_set;let get:∀{j:Nat}{o:O},(m.set k<|.l ys)[j]?=A0 o->j=k/\o=.l ys\/j≠k/\m[j]?=A0 o:=λ{j o}q=>by
  by_cases z:j=k;.simp_all
  .rw[VE<|EG z]at q;let:=.inr #[z,q]
 let:=#[#[R.ln,An.zx.qi R.same f.2,λ{j o}q=>?_,λ{o}q c n=>?_,λ{j i g r}s u z=>?_],#[Ej,λ_ _=>rfl],Va p.symm]
 .rcases get q with⟨rfl,rfl⟩|⟨z,q⟩;.let:=#[zD,f.2]
  .let h:=R.at_ q;cases o with|l g=>let:=#[(zH λy=>z<|R.inj q e y)▸h.1,h.2]|t g=>let:=ts.tup h
 .rw[p];let#[j,q]:=List.getElem?_of_mem q;rcases get q with⟨_,rfl⟩|⟨_,q⟩;.let:=w c n
  .let:=R.wf (ZI q) c n
 .let un:∀{j:Nat}{g:List C},(m.set k _)[j]?=A0 (.l g)->∃r,m[j]?=A0 (.l r):=λ{j g}q=>by
   rcases get q with⟨rfl,_⟩|⟨_,q⟩;.let:=#[_,e]
   .let:=#[_,q]
  let#[_,a]:=un s;let#[_,b]:=un u;let:=R.inj a b z
end
structure Sg{α β:Type}(K:CK)(d:Ad->α->β)(ok:Nat->α->Prop)(t:St->Hp->(β->Hp->Prop)->Prop)where f:En->M->Option (α×M)h:∀{B:Hp}{A:Ad}{e:En}{m:M}{H:Hp}{a:α}{m':M}{Q:β->Hp->Prop},Rl K B A m H->nP `m e->f e m=A0 (a,m')->(∀A' H',Nx K B A m A' m' H'->ok `m' a->Q (d A' a) H')->t (den A e) H Q
structure Sr{γ δ α β:Type}(K:CK)(d:Ad->γ->δ)(ok:Nat->γ->Prop)(d':Ad->α->β)(ok':Nat->α->Prop)(r:δ->Hp->(β->Hp->Prop)->Prop)where g:γ->M->Option (α×M)h:∀{B:Hp}{A:Ad}{m:M}{H:Hp}{c:γ}{a:α}{m':M}{Q:β->Hp->Prop},Rl K B A m H->ok `m c->g c m=A0 (a,m')->(∀A' H',Nx K B A m A' m' H'->ok' `m' a->Q (d' A' a) H')->r (d A c) H Q
structure Dn{α β:Type}(d:Ad->α->β)(ok:Nat->α->Prop):Prop where
 eq:∀{n:Nat}{a:α}{A A1:Ad},ok n a->Ex n A A1->d A1 a=d A a
 mono:∀{n n':Nat}{a:α},ok n a->n<=n'->ok n' a
abbrev d0{α:Type}(_:Ad)(a:α):α:=a
abbrev ok0{α:Type}(_:Nat)(_:α):Prop:=True
abbrev d2{α β γ δ:Type}(d:Ad->α->β)(d':Ad->γ->δ)(A:Ad)(p:α×γ):β×δ:=(d A p.1,d' A p.2)
abbrev ok2{α γ:Type}(ok:Nat->α->Prop)(ok':Nat->γ->Prop)(n:Nat)(p:α×γ):Prop:=ok n p.1/\ok' n p.2
def cu:Dn C.d C.ok:=#[C.zyA,C.ok.mono]
def ji{α:Type}:Dn (d0 (α:=α)) ok0:=#[λ_ _=>rfl,λh _=>h]
abbrev SE(K:CK)(t:TE):=Sg K C.d C.ok t
abbrev SA(K:CK)(t:TA):=Sg K dL qp t
abbrev ST(K:CK)(t:TT):=Sg K d0 ok0 t
def bd{α b:Type}(x:Option<|α×M)(f:α->M->Option b):(Option b):=match x with|some (a,m)=>f a m|none=>Ee
def yV{α b:Type}{x:Option<|α×M}{f:α->M->Option b}{y:b}(h:bd x f=A0 y):∃a m,x=A0 (a,m)/\f a m=A0 y:=match x,h with|some _,h=>#[_,_,Ej,h]
def C.int:(C->Option Int)|.i n=>A0 n|_=>Ee
def C.bool:(C->Option Bool)|.b x=>A0 x|_=>Ee
def one:(List C->Option C)|[c]=>A0 c|_=>Ee
def int_at{c:C}{n:Int}(h:c.int=A0 n):c=.i n:=by cases c<;>cases h;rfl
def FK{c:C}{x:Bool}(h:c.bool=A0 x):c=.b x:=by cases c<;>cases h;rfl
def XF{c:C}(h:one l=A0 c):l=[c]:=by unfold one at h;split at h<;>cases h;rfl
def ob{α b:Type}{x:Option α}{f:α->Option b}{y:b}(h:x.bind f=A0 y):∃a,x=A0 a/\f a=A0 y:=JR.mp h
def om{α b:Type}{x:Option α}{f:α->b}{y:b}(h:x.map f=A0 y):∃a,x=A0 a/\f a=y:=by simp_all
noncomputable section
def sv(i:Nat):(SE K<|Bg i) where
 f e m:=e[i]?.join.map λc=>(c,m)
 h{B A e m H c m' Q}R E h k:=by let#[j,b,g]:=om h;cases g;let b:=Option.join_eq_some_iff.mp b;let:=pK.mk (OJ b)<|k _ _ (Nx.refl R)<|E _<|ZI b
def sc(c:C)(v:V)(e:∀A,c.d A=v:=by intro _;rfl)(o:∀n,c.ok n:=by intro _;trivial):(SE K<|tC v) where
 f _ m:=A0 (c,m)
 h R E h k:=by cases h;have:=k _ _ (Nx.refl R)<|o _;rw[e]at this;let:=this
abbrev sI(n:Int):SE K<|tC<|.int n:=sc (.i n) _
abbrev sS(x:Str):SE K<|tC<|.str x:=sc (.q x) _
abbrev sN:SE K<|tC .non:=sc .no _
def s2{α n o p:Type}{d:Ad->α->n}{ok:Nat->α->Prop}{i:Ad->o->p}{g:Nat->o->Prop}{t:St->Hp->(n->Hp->Prop)->Prop}{u:St->Hp->(p->Hp->Prop)->Prop}(D:Dn d ok)(a:Sg K d ok t)(b:Sg K i g u):(Sg K (d2 d i) (ok2 ok g) λσ H Q=>t σ H λx H1=>u σ H1 λy H2=>Q (x,y) H2) where
 f e m:=bd (a.f e m) λx m=>bd (b.f e m) λy m=>A0 ((x,y),m)
 h{B A e m H c m' Q}R E h k:=by let#[_,_,h1,h2]:=yV h;let#[_,_,h3,h4]:=yV h2;cases h4;let:=a.h R E h1 λv H1 n1 j=>?_;rw[<-qH E n1.x];let:=b.h n1.r (E.mono n1.l) h3 λq H2 n2 s=>?_;rw[<-D.eq j n2.x];let:=k q H2 (n1.trans n2) #[D.mono j n2.l,s]
def sb{n i α l:Type}{d:Ad->n->i}{ok:Nat->n->Prop}{j:Ad->α->l}{c:Nat->α->Prop}{t:St->Hp->(i->Hp->Prop)->Prop}{r:i->Hp->(l->Hp->Prop)->Prop}(a:Sg K d ok t)(b:Sr K d ok j c r):(Sg K j c λσ H Q=>t σ H λx H1=>r x H1 Q) where
 f e m:=bd (a.f e m) b.g
 h R E h k:=by let#[_,_,h1,h2]:=yV h;let:=a.h R E h1 λu H1 n1 q=>b.h n1.r q h2 λo p n2 s=>k o p (n1.trans n2) s
abbrev S1(K:CK)(r:V->Hp->VK->Prop):=Sr K C.d C.ok C.d C.ok r
abbrev SR(K:CK)(r:R2):=Sr K (d2 C.d C.d) (ok2 C.ok C.ok) C.d C.ok λp=>r p.1 p.2
abbrev SB(K:CK)(r:Di->Hp->VK->Prop):=Sr K dL qp C.d C.ok r
abbrev SM(K:CK)(r:V->Di->Hp->VK->Prop):=Sr K (d2 C.d dL) (ok2 C.ok qp) C.d C.ok λp=>r p.1 p.2
def so{r:R2}{c tb:TE}(e:SR K r)(a:SE K c)(b:SE K tb):(SE K<|Pw r c tb):=sb (r:=λp=>r p.1 p.2) (s2 cu a b) e
def su{r:V->Hp->VK->Prop}{b:TE}(c:S1 K r)(a:SE K b):(SE K<|kg r b):=sb (r:=r) a c
def Nb{r:Di->Hp->VK->Prop}{t:TA}(b:SB K r)(a:SA K t):(SE K<|gV r t):=sb (r:=r) a b
def sn:(SA K XG) where
 f _ m:=A0 ([],m)
 h R E h k:=by cases h;let:=k _ _ (Nx.refl R) λc b=>nomatch b
def sk{i:TE}{tr:TA}(a:SE K i)(b:SA K tr):(SA K<|Xk i tr) where
 f e m:=bd ((s2 cu a b).f e m) λp m=>A0 (p.1::p.2,m)
 h{B A e m H c m' Q}R E h k:=by let#[_,_,h1,h2]:=yV h;cases h2;let:=(s2 cu a b).h (Q:=λz H=>Q (z.1::z.2) H) R E h1 λj l n1 g=>k j l n1 λc n=>(ZJ.mp n).elim (λz=>z▸g.1)<|g.2 c
def rI(f:Int->Int->C){l:Int->Int->V}(e:∀A i j,(f i j).d A=l i j:=by intro _ _ _;rfl)(o:∀n i j,(f i j).ok n:=by intro _ _ _;trivial):(SR K λx y H Q=>uf x λi=>uf y λj=>Q (l i j) H) where
 g p m:=p.1.int.bind λa=>p.2.int.bind λb=>A0 (f a b,m)
 h{B A m H p c m' Q}R E h k:=by let#[x,y]:=p;let#[a,h1,q]:=ob h;let#[b,h2,g]:=ob q;cases int_at h1;cases int_at h2;cases g;have:=k _ _ (Nx.refl R)<|o _ _ _;rw[e]at this;let:=this
def Hj:(SR K λx y H Q=>uf x λi=>uf y λj=>Q (.int<|i+j) H):=rI λi j=>.i<|i+j
def df:(SR K λx y H Q=>uf x λi=>uf y λj=>Q (.int<|i-j) H):=rI λi j=>.i<|i-j
def oLt:(SR K λx y H Q=>uf x λi=>uf y λj=>Q (.bl<|decide<|i<j) H):=rI λi j=>.b<|decide<|i<j
def oLe:(SR K λx y H Q=>uf x λi=>uf y λj=>Q (.bl<|decide<|i<=j) H):=rI λi j=>.b<|decide<|i<=j
def jm:(SR K λx y H Q=>uf x λi=>uf y λj=>Q (.bl<|decide<|j<i) H):=rI λi j=>.b<|decide<|j<i
def oGe:(SR K λx y H Q=>uf x λi=>uf y λj=>Q (.bl<|decide<|j<=i) H):=rI λi j=>.b<|decide<|j<=i
def iB:(S1 K<|rU λi=>.int<|-i) where
 g p m:=p.int.bind λa=>A0 (.i<|-a,m)
 h{B A m H p c m' Q}R E h k:=by let#[a,h1,g]:=ob h;cases int_at h1;cases g;let:=#[_,Ej,k _ _ (Nx.refl R) trivial]
def rE:(SR K jr) where
 g p m:=match p with|(.i a,.i b)=>A0 (.b<|decide<|a=b,m)|(.s a,.s b)=>A0 (.b<|decide<|a=b,m)|(.q a,.q b)=>A0 (.b<|decide<|a=b,m)|_=>Ee
 h{B A m H p c m' Q}R E h k:=by
  let#[x,y]:=p;cases x<;>first|(cases h;done)|skip
  all_goals(cases y<;>first|(cases h;done)|skip)
  all_goals cases h;let:=#[Ej,?_];have:=k _ _ (Nx.refl R) trivial
  .simpa[C.d]using this
  .let z:=((R.ln _ E.1).2 _ E.2).1;simpa[C.d,z]using this
  .simpa[C.d]using this
def O.lst:(O->Option (List C))|.l xs=>A0 xs|.t _=>Ee
def O.tup:(O->Option (List C))|.t xs=>A0 xs|.l _=>Ee
def C.get(m:M):(C->Option O)|.r k=>m[k]?|_=>Ee
def C.put(m:M)(o:O):(C->M)|.r k=>m.set k o|_=>m
abbrev lst(m:M)(c:C):Option<|List C:=(c.get m).bind O.lst
abbrev tup(m:M)(c:C):Option<|List C:=(c.get m).bind O.tup
def NM{m:M}{c:C}{o:O}(h:c.get m=A0 o):∃k,c=.r k/\m[k]?=A0 o:=by cases c<;>first|let:=#[_,Ej,h]|cases h
def qM{xs:List C}(h:lst m c=A0 xs):∃k,c=.r k/\m[k]?=A0 (.l xs):=by let#[o,h1,h2]:=ob h;cases o<;>cases h2;let:=NM h1
def xT{xs:List C}(h:tup m c=A0 xs):∃k,c=.r k/\m[k]?=A0 (.t xs):=by let#[o,h1,h2]:=ob h;cases o<;>cases h2;let:=NM h1
def bu{i:Int}{A:Ad}{c:C}(h:FG xs i=A0 c):FG (dL A xs) i=A0 (c.d A):=by unfold FG at h ⊢;let#[j]:=ob h;simp_all
def OE{i:Int}{c:C}(h:FG xs i=A0 c):c∈xs:=by let#[j,_,h2]:=ob h;let:=ZI h2
def aQ:(SR K<|zxR K) where
 g p m:=p.2.int.bind λn=>(lst m p.1).bind λxs=>(FG xs n).map λc=>(c,m)
 h{B A m H p c m' Q}R E h k:=by let#[x,y]:=p;let#[n,f,b]:=ob h;let#[xs,h1,h2]:=ob b;let#[v,h3,h4]:=om h2;cases int_at f;cases h4;clear h b h2;let#[j,rfl,e]:=qM h1;let:=#[_,_,_,_,Ej,Ej,yp.of (R.at_ e).1,bu h3,k _ _ (Nx.refl R)<|R.wf (ZI e) _<|OE h3]
def Fd:(SR K<|zxL K) where
 g p m:=p.2.int.bind λn=>(tup m p.1).bind λxs=>(FG xs n).map λc=>(c,m)
 h{B A m H p c m' Q}R E h k:=by let#[x,y]:=p;let#[n,f,b]:=ob h;let#[xs,h1,h2]:=ob b;let#[v,h3,h4]:=om h2;cases int_at f;cases h4;clear h b h2;let#[j,rfl,e]:=xT h1;let:=#[_,_,_,_,Ej,Ej,R.at_ e,bu h3,k _ _ (Nx.refl R)<|R.wf (ZI e) _<|OE h3]
def nw(o:O)(m:M):(Option<|C×M):=if`o.xs<1000 then A0 (.r `m,m++[o])else Ee
def GT{A:Ad}{b:M}{o:O}{c:C}{Q:VK}(R:Rl K B A m H)(w:qp `m o.xs)(h:nw o m=A0 (c,b))(k:∀A' H',Nx K B A m A' b H'->c.ok `b->Q (c.d A') H'):`o.xs<=sizeLine/\∀p,H p=Ee->Q (.ref p) (upd H p<|o.d A):=by
 unfold nw at h;split at h;.cases h;let:=#[zr<|⋯,λp e=>?_];have:=k _ _ (R.new e w) (show`m<_ by simp);rw[show(C.r _).d _=.ref p from congrArg _ F1]at this;let:=this
 .cases h
def rT:(SB K λxs H Q=>zzL .tup Q xs H) where
 g l m:=nw (.t l) m
 h{B A m H l c m' Q}R E h k:=by let#[a,b]:=GT (o:=.t l) R E h k;let:=#[Yz (Va<|ZA _) a,b]
def rL:(SB K λxs H Q=>zzL .lst Q xs H) where
 g l m:=nw (.l l) m
 h{B A m H l c m' Q}R E h k:=by let#[a,b]:=GT (o:=.l l) R E h k;let:=#[Yz (Va<|ZA _) a,b]
def st{t:TA}(a:SA K t):(SE K<|bc t):=sb (r:=λxs H Q=>zzL .tup Q xs H) a rT
def sl{t:TA}(a:SA K t):(SE K<|Oq t):=sb (r:=λxs H Q=>zzL .lst Q xs H) a rL
def jp:(SR K zy3) where
 g p m:=(lst m p.1).bind λxs=>(lst m p.2).bind λe=>nw (.l<|xs++e) m
 h{B A m H p c m' Q}R E h k:=by let#[x,y]:=p;let#[xs,h1,f]:=ob h;let#[e,h2,g]:=ob f;clear h f;let#[i,rfl,n]:=qM h1;let#[j,rfl,q]:=qM h2;let#[a,b]:=GT (o:=.l<|xs++e) R (λc r=>(ZY.mp r).elim (R.wf (ZI n) c)<|R.wf (ZI q) c) g k;let a:↑(xs++e)<=sizeLine:=a;let:=#[_,_,_,_,Ej,Ej,(R.at_ n).1,(R.at_ q).1,by rw[ZA,ZA,<-ZS];let:=a,λp s=>?_];rw[<-ZM];let:=b p s
def bP{A:Ad}{Q:VK}(R:Rl K B A m H)(w:qp `m xs)(s:zx H H1)(h:yq K H1 p<|dL A xs)(k:∀A' H',Nx K B A m A' (m++[O.t xs]) H'->(C.r `m).ok ↑(m++[O.t xs])->Q ((C.r `m).d A') H'):Q (.ref p) H1:=by have:=k _ _ (R.put s SF F1 w h λ_ z=>nomatch z) (show`m<_ by simp);rw[show(C.r _).d _=.ref p from congrArg _ F1]at this;let:=this
def jo:(SR K<|tW K) where
 g p m:=(tup m p.1).bind λxs=>(tup m p.2).bind λb=>nw (.t<|xs++b) m
 h{B A m H p c m' Q}R E h k:=by
  let#[x,y]:=p;let#[xs,h1,e]:=ob h;let#[b,h2,g]:=ob e;clear h e;let#[i,rfl,f]:=xT h1;let#[j,rfl,n]:=xT h2;unfold nw at g;split at g;.rename_i l;cases g;let l:↑(xs++b)<1000:=l;let:=#[_,_,_,_,Ej,Ej,R.at_ f,R.at_ n,zr<|by rw[ZA,ZA,<-ZS];lia,λp r s q=>?_];rw[<-ZM]at q;let:=bP R (λc o=>(ZY.mp o).elim (R.wf (ZI f) c)<|R.wf (ZI n) c) s q k
  .cases g
def jt:(SR K zx0) where
 g p m:=p.2.int.bind λn=>(lst m p.1).bind λxs=>if 0<=n/\n<100/\`xs<9 then nw (.l (EN n.toNat xs).flatten) m else Ee
 h{B A m H p c m' Q}R E h k:=by
  let#[x,y]:=p;let#[n,q,f]:=ob h;let#[xs,h1,g]:=ob f;cases int_at q;clear h f;let#[i,rfl,j]:=qM h1;split at g;.rename_i z;let#[s,t,u]:=z;let#[a,b]:=GT (o:=.l (EN n.toNat xs).flatten) R (λc e=>by let#[l,hl,e]:=List.mem_flatten.mp e;rw[(List.mem_replicate.mp hl).2]at e;let:=R.wf (ZI j) c e) g k;let a:(EN n.toNat xs).flatten.length<=sizeLine:=a;rw[len_rep]at a;let:=#[_,_,_,Ej,Ej,(R.at_ j).1,⋯,⋯,by rw[ZA,Nat.mul_comm];let:=a,λp r=>?_];have:Q (.ref p)<|upd H p<|.lst<|dL A (EN n.toNat xs).flatten:=b p r;rw[show dL A (EN n.toNat xs).flatten=(EN n.toNat<|dL A xs).flatten by rw[dL,List.map_flatten,UL]]at this;let:=this
  .cases g
def RH:(SB K<|i4 K) where
 g l m:=(one l).bind λc=>(c.get m).map λo=>(.i `o.xs,m)
 h{B A m H l c m' Q}R E h k:=by let#[c,e,b]:=ob h;let#[o,h1,h2]:=om b;cases XF e;cases h2;clear h b;let#[j,rfl,f]:=NM h1;let a:=R.at_ f;let q:=k _ _ (Nx.refl R) trivial;cases o with|l xs=>let:=#[_,_,Ej,.inl<|yp.of a.1,by rw[ZA];let:=q]|t xs=>let:=#[_,_,Ej,.inr a,by rw[ZA];let:=q]
def two:(List C->Option (C×C))|[a,b]=>A0 (a,b)|_=>Ee
def Wo{a b:C}(h:two l=A0 (a,b)):l=[a,b]:=by unfold two at h;split at h<;>cases h;rfl
def js:(SB K λxs H Q=>∃i j,xs=[.int i,.int j]/\Q (.int<|if j>i then j else i) H) where
 g l m:=(two l).bind λp=>p.1.int.bind λa=>p.2.int.bind λb=>A0 (.i<|if b>a then b else a,m)
 h{B A m H l c m' Q}R E h k:=by let#[#[x,y],f,e]:=ob h;let#[a,h1,h2]:=ob e;let#[b,h3,g]:=ob h2;cases Wo f;cases int_at h1;cases int_at h3;cases g;let:=#[_,_,Ej,k _ _ (Nx.refl R) trivial]
def ju:(SB K λxs H Q=>∃p ys,xs=[.ref p]/\((yp K H p ys/\∀l,H l=Ee->Q (.ref l) (upd H l<|.tup ys))\/yq K H p ys/\Q (.ref p) H))where
 g l m:=(one l).bind λc=>(lst m c).bind λxs=>nw (.t xs) m
 h{B A m H l c m' Q}R E h k:=by let#[c,i,e]:=ob h;let#[xs,h1,g]:=ob e;cases XF i;clear h e;let#[j,rfl,f]:=qM h1;let#[a,b]:=GT (o:=.t xs) R (show qp `m xs from R.wf<|ZI f) g k;let:=#[_,_,Ej,.inl #[yp.of (R.at_ f).1,b]]
def mA:(SM K mD) where
 g p m:=(one p.2).bind λc=>(lst m p.1).bind λxs=>if`xs<1000 then A0 (.no,C.put m (.l<|xs++[c]) p.1)else Ee
 h{B A m H p c m' Q}R E h k:=by
   let#[x,l]:=p;let#[c,f,e]:=ob h;let#[xs,h1,g]:=ob e;cases XF f;clear h e;let#[j,rfl,b]:=qM h1;split at g;.rename_i l;cases g;let:=#[_,_,_,Ej,Ej,(R.at_ b).1,yM<|by rw[ZA];lia,?_];have:=k _ _ (R.set b (ys:=xs++[c]) λx i=>(ZY.mp i).elim (R.wf (ZI b) x)<|E.2 x) trivial;rw[dL,ZM]at this;let:=this
   .cases g
def mX:(SM K<|oU K) where
 g p m:=(one p.2).bind λc=>(lst m p.1).bind λxs=>(tup m c).bind λys=>if`xs+`ys<1000 then A0 (.no,C.put m (.l<|xs++ys) p.1)else Ee
 h{B A m H p c m' Q}R E h k:=by
   let#[x,l]:=p;let#[c,o,f]:=ob h;let#[xs,h1,g]:=ob f;let#[ys,h2,b]:=ob g;cases XF o;clear h f g;let#[j,rfl,e]:=qM h1;let#[i,rfl,n]:=xT h2;split at b;.rename_i l;cases b;let:=#[_,_,_,_,Ej,Ej,(R.at_ e).1,R.at_ n,zr<|by rw[ZA,ZA];lia,?_];have:=k _ _ (R.set e (ys:=xs++ys) λx q=>(ZY.mp q).elim (R.wf (ZI e) x)<|R.wf (ZI n) x) trivial;rw[dL,ZM]at this;let:=this
   .cases b
def mP:(SM K zwV) where
 g p m:=if p.2=[]then(lst m p.1).bind λxs=>xs.getLast?.map λc=>(c,C.put m (.l xs.dropLast) p.1)else Ee
 h{B A m H p c m' Q}R E h k:=by
   let#[x,l]:=p;split at h<;>first|(cases h;done)|skip
   rename_i e;cases show l=[]from e;let#[xs,h1,g]:=ob h;clear h;let#[j,rfl,b]:=qM h1;let#[x,h2,h3]:=om g;cases h3;let w:=R.wf<|ZI b;let n:=R.set b (ys:=xs.dropLast) λx f=>w x<|List.dropLast_subset _ f;let:=#[_,_,c.d A,Ej,Ej,(R.at_ b).1,?_,?_];.rw[ZA,ZN,<-List.getLast?_eq_getElem?,h2];rfl
   .have:=k _ _ n<|(w c<|List.mem_of_getLast? h2).mono n.l;rw[dL,List.map_dropLast]at this;let:=this
def mR:(SM K nQ) where
 g p m:=if p.2=[]then(lst m p.1).map λxs=>(.no,C.put m (.l xs.reverse) p.1)else Ee
 h{B A m H p c m' Q}R E h k:=by
   let#[x,l]:=p;split at h<;>first|(cases h;done)|skip
   rename_i e;cases show l=[]from e;let#[xs,h1,h3]:=om h;clear h;let#[j,rfl,b]:=qM h1;cases h3;let:=#[_,_,Ej,Ej,(R.at_ b).1,?_];have:=k _ _ (R.set b (ys:=xs.reverse) λx f=>R.wf (ZI b) x<|List.mem_reverse.mp f) trivial;rw[dL,List.map_reverse]at this;let:=this
def bQ{A:Ad}{xs:List C}(R:Rl K B A m H)(h:lst m c=A0 xs):iE K "list" (c.d A) H:=by let#[j,rfl,b]:=qM h;let:=.inl #[Ej,_,yp.of (R.at_ b).1]
def sm{r:V->Di->Hp->VK->Prop}{n:TE}{t:TA}(j:SM K r)(a:SE K n)(b:SA K t):(SE K<|jx K "list" r n t) where
 f e m:=bd (a.f e m) λx m=>(lst m x).bind λ_=>bd (b.f e m) λy m=>j.g (x,y) m
 h{B A e m H c m' Q}R E h k:=by let#[_,_,h1,h]:=yV h;let#[xs,h2,h]:=ob h;let#[_,_,h3,h]:=yV h;let:=a.h R E h1 λu w n1 i=>#[bQ n1.r h2,?_];rw[<-qH E n1.x];let:=b.h n1.r (E.mono n1.l) h3 λv z n2 q=>?_;rw[<-C.zyA i n2.x];let:=j.h n2.r #[i.mono n2.l,q] h λo p n3 s=>k o p ((n1.trans n2).trans n3) s
def ja{r:V->Di->Hp->VK->Prop}{i:TE}(b:SM K r)(a:SE K i):(SE K<|gU K "list" r i) where
 f e m:=bd (a.f e m) λx m=>(lst m x).bind λ_=>b.g (x,[]) m
 h{B A e m H c m' Q}R E h k:=by let#[_,_,h1,h]:=yV h;let#[xs,h2,h]:=ob h;let:=a.h R E h1 λq s n1 o=>#[bQ n1.r h2,b.h n1.r #[o,show qp _ []from λc n=>nomatch n] h λj l n3 p=>k j l (n1.trans n3) p]
abbrev iw(K:CK)(t:St->Hp->(Option Int->Hp->Prop)->Prop):=Sg K (d0 (α:=Option Int)) ok0 t
def jw:(iw K Pu) where
 f _ m:=A0 (Ee,m)
 h R E h k:=by cases h;let:=k _ _ (Nx.refl R) trivial
def rPt:(Sr K C.d C.ok (d0 (α:=Option Int)) ok0 λx H Q=>∃i,x=.int i/\Q (A0 i) H) where
 g c m:=c.int.bind λn=>A0 (A0 n,m)
 h{B A m H p c m' Q}R E h k:=by let#[n,h1,g]:=ob h;cases int_at h1;cases g;let:=#[_,Ej,k _ _ (Nx.refl R) trivial]
def RI{t:TE}(a:SE K t):(iw K<|bN t):=sb (r:=λx H Q=>∃i,x=.int i/\Q (A0 i) H) a rPt
def cm(xs:List C)(lo b:Option Int):(List C):=(xs.drop<|HT.ux `xs 0 lo).take<|HT.ux `xs `xs b-HT.ux `xs 0 lo
def fI{A:Ad}:Xn (dL A xs) lo hi=dL A (cm xs lo hi):=by unfold Xn cm dL;simp
def ssl{t:TE}{u v:St->Hp->(Option Int->Hp->Prop)->Prop}(a:SE K t)(b:iw K u)(c:iw K v):(SE K<|jz (vh K) t u v) where
 f e m:=bd ((s2 cu a<|s2 ji b c).f e m) λp m=>(tup m p.1).bind λxs=>A0 (.r `m,m++[.t<|cm xs p.2.1 p.2.2])
 h{B A e m H x m' Q}R E h k:=by
  let#[#[x,lo,J],m1,h1,n]:=yV h;let#[xs,h2,g]:=ob n;clear h n;let:=(s2 cu a<|s2 ji b c).h (Q:=λp H=>vh K p.1 p.2.1 p.2.2 H Q) R E h1 λo D n1 N=>?_;let#[j,e,i]:=xT h2;let e:x=.r j:=e;subst e;let w:qp `m1 xs:=n1.r.wf<|ZI i;let:=#[_,_,Ej,n1.r.at_ i,λv l z=>?_];let z:∃p:Er,v=.ref p/\zx D l/\yq K l p (Xn (dL o xs) lo J):=by
   rcases z with⟨rfl,rfl,e2⟩|⟨p,np,rfl,rfl⟩;.let:=#[_,Ej,zx.refl _,by rw[e2];let:=n1.r.at_ i]
   .let:=#[p,Ej,zz np,yq.of zD]
  let#[p,rfl,s,q]:=z;rw[fI]at q;cases g;let:=bP n1.r (λc G=>w c<|List.mem_of_mem_drop<|JO G) s q λy F n3 L=>k y F (n1.trans n3) L
def rTs:(Sr K C.d C.ok (d0 (α:=Bool)) ok0 zxP) where
 g c m:=c.bool.bind λn=>A0 (n,m)
 h{B A m H p c m' Q}R E h k:=by let#[n,h1,g]:=ob h;cases FK h1;cases g;let:=#[_,Ej,k _ _ (Nx.refl R) trivial]
def sT{t:TE}(a:SE K t):(ST K<|BM t):=sb (r:=zxP) a rTs
def rTu:(Sr K C.d C.ok (d0 (α:=Bool)) ok0 λx H Q=>∃k,RP K x H k/\Q k H) where
 g c m:=c.bool.bind λn=>A0 (n,m)
 h{B A m H p c m' Q}R E h k:=by let#[n,h1,g]:=ob h;cases FK h1;cases g;let:=#[_,Ej,k _ _ (Nx.refl R) trivial]
def sTu{t:TE}(a:SE K t):(ST K<|hX K t):=sb (r:=λx H Q=>∃k,RP K x H k/\Q k H) a rTu
def i7{t:TT}(a:ST K t):(ST K<|g9 t) where
 f e m:=bd (a.f e m) λx m=>A0 (!x,m)
 h R E h k:=by let#[_,_,h1,h2]:=yV h;cases h2;let:=a.h R E h1 k
def gG{t u:TT}(a:ST K t)(b:ST K u):(ST K<|gR t u) where
 f e m:=bd (a.f e m) λx m=>cond x (b.f e m)<|some (Ei,m)
 h{B A e m H x m' Q}R E h k:=by let#[x,m1,h1,h2]:=yV h;let:=a.h R E h1 λj n n1 _=>?_;cases x with|true=>rw[Z4 rfl,<-qH E n1.x];let:=b.h n1.r (E.mono n1.l) h2 λc g n2 i=>k c g (n1.trans n2) i|false=>cases h2;rw[ZX Yf];let:=k _ _ n1 trivial
def i8{t u:TT}(a:ST K t)(b:ST K u):(ST K<|jy t u) where
 f e m:=bd (a.f e m) λx m=>cond x (A0 (Eg,m))<|b.f e m
 h{B A e m H x m' Q}R E h k:=by let#[x,m1,h1,h2]:=yV h;let:=a.h R E h1 λj n n1 _=>?_;cases x with|false=>rw[ZX Yf,<-qH E n1.x];let:=b.h n1.r (E.mono n1.l) h2 λc g n2 i=>k c g (n1.trans n2) i|true=>cases h2;rw[Z4 rfl];let:=k _ _ n1 trivial
def gH{t u:TE}(a:SE K t)(b:SE K u):(SE K<|bL t u) where
 f e m:=bd (a.f e m) λx m=>x.bool.bind λx=>cond x (b.f e m)<|some (.b Ei,m)
 h{B A e m H x m' Q}R E h k:=by let#[x,m1,h1,h2]:=yV h;let:=a.h R E h1 λj n n1 _=>?_;let#[q,h3,h4]:=ob h2;cases FK h3;cases q with|true=>let:=#[_,Ej,?_];rw[Z4 rfl,<-qH E n1.x];let:=b.h n1.r (E.mono n1.l) h4 λc g n2 i=>k c g (n1.trans n2) i|false=>cases h4;let:=#[_,Ej,by rw[ZX Yf];let:=k _ _ n1 trivial]
def tH{α b:Type}(f:α->Option b):(List α->Option (List b))|[]=>A0 []|c::cs=>(f c).bind λd=>(tH f cs).map (d::·)
def HS{α j:Type}{f:α->Option j}:∀{l:List α}{r:List j},tH f l=A0 r->`l=`r/\∀{i:Nat}{x:α}{y:j},l[i]?=A0 x->r[i]?=A0 y->f x=A0 y|[],_,h=>by cases h;let:=#[Ej,λz=>by cases z]|c::cs,_,h=>by let#[d,h1,h2]:=ob h;let#[n,h3,rfl]:=om h2;let#[e,g]:=HS h3;let:=#[congrArg _ e,λ{i x y}a b=>?_];cases i with|zero=>simp_all|succ i=>let:=g a b
def dat(L:Nat->Str)(m:M):(Nat->C->Option EB)|_,.i n=>A0<|.int n|_,.s n=>A0<|.str<|L n|n+1,.r k=>(tup m<|.r k).bind λxs=>(tH (dat L m n) xs).map .tuple|_,_=>Ee
section
variable{B H:Hp}{A:Ad}{m:M}
def FR{f:C->Option EB}(b:∀{c d},f c=A0 d->Dt K H d (c.d A)):∀{cs:List C}{ds:De},tH f cs=A0 ds->zu K H ds (dL A cs)|[],_,h=>by cases h;rfl|c::cs,_,h=>by let#[d,h1,h2]:=ob h;let#[ds,h3,rfl]:=om h2;let:=#[_,_,Ej,b h1,FR b h3]
def FP(R:Rl K B A m H):∀{n:Nat}{c:C}{d:EB},dat A.s m n c=A0 d->Dt K H d (c.d A)|n,.i _,_,h=>by cases n<;>(cases h;rfl)|n,.s _,_,h=>by cases n<;>(cases h;rfl)|n+1,.r k,_,h=>by let#[xs,h3,h4]:=ob h;let#[g,h5,rfl]:=om h4;let#[j,e,f]:=xT h3;cases e;let:=#[_,_,Ej,R.at_ f,FR (FP R) h5]|0,.r _,_,h=>by cases h|n,.q _,_,h=>by cases n<;>cases h|n,.b _,_,h=>by cases n<;>cases h|n,.no,_,h=>by cases n<;>cases h
def bG(m:M):(Nat->C->Bool)|_,.i _=>Eg|_,.s _=>Eg|n+1,.r k=>((tup m<|.r k).getD [.no]).all<|bG m n|_,_=>Ei
def Hk{f:C->Option EB}{g:C->Bool}{n:Nat}:∀{cs:List C},cs.all g=Eg->(∀c∈cs,g c=Eg->∃d,f c=A0 d/\d.canLay0=Eg/\d.depth<=n)->∃ds,tH f cs=A0 ds/\EJ ds=Eg/\E2 ds<=n
 |[],_,_=>#[[],Ej,Ej,Yk _]|c::cs,h,k=>by
  let h:(g c&&cs.all g)=Eg:=h;rw[ZQ]at h;let#[d,h1,h2,h3]:=k c ZD h.1;let#[ds,h4,h5,h6]:=Hk h.2 λx b=>k x<|ZB _ b;let:=#[d::ds,?_,?_,?_];.show(f c).bind _=_;simp_all
  .show(d.canLay0&&EJ ds)=Eg;rw[h2,h5];rfl
  .let:=Nat.max_le.mpr #[h3,h6]
def G4(R:Rl K B A m H):∀{n:Nat}{c:C},c.ok `m->bG m n c=Eg->∃d,dat A.s m n c=A0 d/\d.canLay0=Eg/\d.depth<=n
 |n,.i _,_,_=>#[_,by unfold dat;rfl,Ej,Yk _]|n,.s k,o,_=>#[.str _,by unfold dat;rfl,(R.ln _ o).1,Yk _]|n+1,.r k,o,h=>by let h:((tup m _).getD _).all _=Eg:=h;cases q:tup m _ with|none=>rw[q]at h;cases n<;>cases h|some xs=>rw[q]at h;let#[j,e,l]:=xT q;let#[f,h1,h2,h3]:=Hk (show xs.all _=Eg from h) λc g=>G4 R<|R.wf (ZI l) c g;let:=#[.tuple f,?_,h2,Vo h3];show(tup m _).bind _=_;rw[q,Option.bind_some,h1];rfl
 |0,.r _,_,h=>by cases h|n,.q _,_,h=>by cases n<;>cases h|n,.b _,_,h=>by cases n<;>cases h|n,.no,_,h=>by cases n<;>cases h
def iO(f:C->C->Option Bool):(List C->List C->Option Bool)|[],[]=>A0 Eg|x::xs,y::ys=>(f x y).bind λe=>cond e (iO f xs ys)<|some Ei|_,_=>A0 Ei
def cy(m:M):(Nat->C->C->Option Bool)|_,.i a,.i b=>A0<|decide<|a=b|_,.s a,.s b=>A0<|decide<|a=b|n+1,.r j,.r k=>(tup m<|.r j).bind λxs=>(tup m<|.r k).bind λc=>iO (cy m n) xs c|_,_,_=>Ee
def Se{n:Nat}{f:C->C->Option Bool}:∀{xs ys:List C}{ds es:De}{b:Bool},(∀x∈xs,∀y∈ys,∀{d e b},f x y=A0 b->dat L m n x=A0 d->dat L m n y=A0 e->EX d e=b)->iO f xs ys=A0 b->tH (dat L m n) xs=A0 ds->tH (dat L m n) ys=A0 es->E7 ds es=b|[],[],_,_,_,_,h,h1,h2=>by cases h;cases h1;cases h2;rfl|[],_::_,_,_,_,_,h,h1,h2=>by let#[_,_,h2]:=ob h2;let#[_,_,rfl]:=om h2;cases h;cases h1;rfl|_::_,[],_,_,_,_,h,h1,h2=>by let#[_,_,h1]:=ob h1;let#[_,_,rfl]:=om h1;cases h;cases h2;rfl|x::xs,y::ys,_,_,_,hf,h,h1,h2=>by let#[d,g,h1]:=ob h1;let#[ds,i,rfl]:=om h1;let#[e,j,h2]:=ob h2;let#[es,l,rfl]:=om h2;let#[q,o,c]:=ob h;show(EX d e&&E7 ds es)=_;rw[hf x ZD y ZD o g j];cases q with|true=>let:=Se (λx p y r=>hf x (ZB _ p) y<|ZB _ r) c i l|false=>let:=dI c
def Sc(R:Rl K B A m H):∀{n:Nat}{c c':C}{d d':EB}{b:Bool},c.ok `m->c'.ok `m->cy m n c c'=A0 b->dat A.s m n c=A0 d->dat A.s m n c'=A0 d'->EX d d'=b:=λ{n}=>by induction n with
 |zero=>
  intro c c' d d' b o e h h1 h2;unfold cy at h;split at h<;>first|(cases h;done)|skip
  .cases h1;cases h2;cases h;rfl
  .cases h1;cases h2;cases h;show(_==_)=_;rw[Bool.beq_eq_decide_eq];let:=Jr.mpr ((R.ln _ o).2 _ e).1
  .cases h1|succ n ih=>
  intro c c' d d' b o e h h1 h2;unfold cy at h;split at h<;>first|(cases h;done)|skip
  .cases h1;cases h2;cases h;trivial
  .cases h1;cases h2;cases h;let:=Jr.mpr ((R.ln _ o).2 _ e).1
  .rename_i z;cases z;let#[xs,f,h1]:=ob h1;let#[t,i,rfl]:=om h1;let#[v,g,h2]:=ob h2;let#[u,j,rfl]:=om h2;rw[f,g]at h;let#[_,_,l]:=xT f;let#[_,_,p]:=xT g;let:=Se (λx q y r{_ _ _}a b c=>ih (R.wf (ZI l) x q) (R.wf (ZI p) y r) a b c) h i j
def iU(f g:C->C->Option Bool):(List C->List C->Option Bool)|[],[]=>A0 Ei|[],_::_=>A0 Eg|_::_,[]=>A0 Ei|x::xs,y::ys=>(f x y).bind λe=>cond e (iU f g xs ys)<|g x y
def eV(m:M):(Nat->C->C->Option Bool)|_,.i a,.i b=>A0<|decide<|a<b|_,.s a,.s b=>A0<|decide<|a<b|n+1,.r j,.r k=>(tup m<|.r j).bind λxs=>(tup m<|.r k).bind λc=>iU (cy m n) (eV m n) xs c|_,_,_=>Ee
def S7(R:Rl K B A m H){g:C->C->Option Bool}{n:Nat}:∀{xs ys:List C}{ds es:De}{b:Bool},qp `m xs->qp `m ys->(∀x∈xs,∀y∈ys,∀{d e b},g x y=A0 b->dat A.s m n x=A0 d->dat A.s m n y=A0 e->bU d e b)->iU (cy m n) g xs ys=A0 b->tH (dat A.s m n) xs=A0 ds->tH (dat A.s m n) ys=A0 es->bV ds es b|[],[],_,_,_,_,_,_,h,h1,h2=>by cases h;cases h1;cases h2;rfl|[],_::_,_,_,_,_,_,_,h,h1,h2=>by let#[_,_,h2]:=ob h2;let#[_,_,rfl]:=om h2;cases h;cases h1;rfl|_::_,[],_,_,_,_,_,_,h,h1,h2=>by let#[_,_,h1]:=ob h1;let#[_,_,rfl]:=om h1;cases h;cases h2;rfl|x::xs,y::ys,_,_,_,ox,oy,hf,h,h1,h2=>by let#[d,f,h1]:=ob h1;let#[ds,l,rfl]:=om h1;let#[e,i,h2]:=ob h2;let#[es,o,rfl]:=om h2;let#[q,p,j]:=ob h;let z:=Sc R (ox x ZD) (oy y ZD) p f i;cases q with|true=>let:=.inl #[z,S7 R (λx c=>ox x<|ZB _ c) (λx c=>oy x<|ZB _ c) (λx c y r=>hf x (ZB _ c) y<|ZB _ r) j l o]|false=>let:=.inr #[z,hf x ZD y ZD j f i]
def cV(R:Rl K B A m H):∀{n:Nat}{c c':C}{d d':EB}{b:Bool},c.ok `m->c'.ok `m->eV m n c c'=A0 b->dat A.s m n c=A0 d->dat A.s m n c'=A0 d'->bU d d' b:=λ{n}=>by induction n with
 |zero=>
  intro c c' d d' b o e h h1 h2;unfold eV at h;split at h<;>first|(cases h;done)|skip
  .cases h1;cases h2;cases h;rfl
  .cases h1;cases h2;cases h;let:=(Jr.mpr ((R.ln _ o).2 _ e).2).symm
  .cases h1|succ n ih=>
  intro c c' d d' b o e h h1 h2;unfold eV at h;split at h<;>first|(cases h;done)|skip
  .cases h1;cases h2;cases h;rfl
  .cases h1;cases h2;cases h;let:=(Jr.mpr ((R.ln _ o).2 _ e).2).symm
  .rename_i z;cases z;let#[xs,f,h1]:=ob h1;let#[v,l,rfl]:=om h1;let#[D,g,h2]:=ob h2;let#[w,p,rfl]:=om h2;rw[f,g]at h;let#[_,_,q]:=xT f;let#[_,_,r]:=xT g;let i:=R.wf<|ZI q;let j:=R.wf<|ZI r;let:=S7 R i j (λx t y u{_ _ _}a b c=>ih (i x t) (j y u) a b c) h l p
end
def tR{d:EB}(h:d.canLay0=Eg)(n:d.depth<=5):EU d=Eg:=by unfold EU;lia
def rED:(SR K<|zxM K) where
 g p m:=cond (bG m 5 p.1&&bG m 5 p.2) ((cy m 5 p.1 p.2).bind λb=>A0 (.b b,m)) Ee
 h{B A m H p c m' Q}R E h k:=by cases q:bG m 5 p.1&&bG m 5 p.2 with|false=>rw[q]at h;cases h|true=>rw[q]at h;rw[ZQ]at q;let#[b,h1,h2]:=ob h;cases h2;let#[d,f,j,l]:=G4 R E.1 q.1;let#[e,i,n,o]:=G4 R E.2 q.2;let:=#[d,e,FP R f,FP R i,tR j l,tR n o,by rw[Sc R E.1 E.2 h1 f i];let:=k _ _ (Nx.refl R) trivial]
def fP(m:M)(c:C):(Bool):=((tup m c).bind λxs=>xs.head?.bind<|tup m).isSome
def WP{d:EB}(h:fP m c=Eg)(e:dat L m (n+2) c=A0 d):XE "tuple" d:=by let#[_,h]:=Yx.mp h;let#[xs,h1,h2]:=ob h;let#[x,h3,h4]:=ob h2;let#[j,rfl,_]:=xT h1;let#[i,rfl,_]:=xT h4;let#[u,b,g]:=ob e;rw[h1]at b;cases b;let#[f,l,rfl]:=om g;cases xs with|nil=>cases h3|cons x r=>cases h3;let#[d,o,p]:=ob l;let#[f,_,rfl]:=om p;let#[v,s,q]:=ob o;let#[t,_,rfl]:=om q;rfl
def cJ(f:Nat->Nat)(x:Nat):(List Nat->List Nat)|[]=>[x]|y::r=>if f x<=f y then x::y::r else y::cJ f x r
def rk(m:M)(xs:List C)(i:Nat):(Nat):=↑((EK `xs).filter λj=>eV m 5 (xs.getD j .no) (xs.getD i .no)==A0 Eg)
def jv(m:M)(xs:List C)(b:Nat->Nat)(p:List Nat):(Option<|C×M):=if`xs<64/\(∀c∈xs,fP m c=Eg/\bG m 5 c=Eg)/\(∀i∈p,∀j∈p,eV m 5 (xs.getD i .no) (xs.getD j .no)=A0 (decide<|b i<b j)/\(b i=b j->i=j))/\p.Perm (EK `xs)/\p.Pairwise λi j=>b i<=b j then nw (.l<|p.map λi=>xs.getD i .no) m else Ee
def rSo:(SB K<|oG K) where
 g l m:=(one l).bind λc=>(lst m c).bind λxs=>jv m xs (rk m xs)<|(EK `xs).foldr (cJ<|rk m xs) []
 h{B A m H l c m' Q}R E h k:=by
   let#[c,T,L]:=ob h;let#[xs,h1,g]:=ob L;cases XF T;clear h L;let#[j,rfl,r]:=qM h1;let w:qp `m xs:=R.wf<|ZI r;generalize(EK `xs).foldr (cJ<|rk m xs) []=p at g;generalize rk m xs=U at g;unfold jv at g;split at g
   .rename_i z;let#[z1,F,P,v,z5]:=z;let t:∀{i},i<`xs->xs.getD i .no∈xs/\xs[i]?=A0 (xs.getD i .no):=λ{i}q=>by rw[Jf,ZO q];let:=#[Y8 q,Ej]
    let#[_,b]:=GT (o:=.l<|p.map λi=>xs.getD i .no) R (λc u=>by let#[i,q,rfl]:=ZH.mp u;let:=w _ (t<|YQ.mp<|v.mem_iff.mp q).1) g k;let#[J,G,_,_]:=Hk (f:=dat A.s m 5) (g:=bG m 5) (n:=5) (Yc.mpr λc u=>(F c u).2) λc u=>G4 R<|w c u;let#[S,dg]:=HS G;let dt:∀{i},i<`xs->dat A.s m 5 (xs.getD i .no)=A0 (J.getD i .none):=λ{i}q=>dg (t q).2 (by rw[Jf,ZO<|⋯];rfl);let:=#[_,_,J,"tuple",U,Ej,yp.of (R.at_ r).1,FR (FP R) G,⋯,λd hd=>?_,λi j q r=>?_,λl Y X pm Z=>?_];.let#[i,q,rfl]:=Ym.mp hd;let D:=t (i:=i) ⋯;let e:=dg D.2<|ZO q;let#[d,N,q2,q3]:=G4 R (w _ D.1) (F _ D.1).2;rw[e]at N;cases N;let:=#[WP (F _ D.1).1 e,q2,Yz q3<|∅]
    .rw[<-S]at q r;let:=cV R (w _ (t q).1) (w _ (t r).1) (P i (v.mem_iff.mpr<|YQ.mpr q) j<|v.mem_iff.mpr<|YQ.mpr r).1 (dt q)<|dt r
    rw[ZA]at pm;let e:Y=p:=(pm.trans v.symm).eq_of_pairwise (λa b ha hb x y=>(P a ((pm.trans v.symm).mem_iff.mp ha) b hb).2<|Nat.le_antisymm x y) Z z5;rw[e];have:=b l X;rw[show O.d A (.l<|p.map λi=>xs.getD i .no)=.lst (p.map λi=>(dL A xs).getD i .non)from congrArg HO.lst<|(ZV ..).trans<|Yp λi _=>by show(xs.getD i .no).d A=_;rw[Jf,Jf,ZN];cases xs[i]?<;>rfl]at this;let:=this
   .cases g
structure Sx(K:CK)(g:TG)where f:C->En->M->Option (En×M)h:∀{B:Hp}{A:Ad}{c:C}{e:En}{m:M}{H:Hp}{e':En}{m':M}{Q:St->Hp->Prop},Rl K B A m H->c.ok `m->nP `m e->f c e m=A0 (e',m')->(∀A' H',Nx K B A m A' m' H'->nP `m' e'->Q (den A' e') H')->g (c.d A) (den A e) H Q
def xn(i:Nat):(Sx K<|Xh i) where
 f c e m:=A0 (e.set i<|A0 c,m)
 h R o E h k:=by cases h;have:=k _ _ (Nx.refl R)<|E.set o;rw[FS]at this;let:=this
structure Sxs(t:RG)where
 f:List C->En->Option En
 h:∀{A:Ad}{n:Nat}{cs:List C}{e e':En}{H:Hp}{Q:St->Hp->Prop},qp n cs->nP n e->f cs e=A0 e'->(nP n e'->Q (den A e') H)->t (dL A cs) (den A e) H Q
def x0:(Sxs fQ) where
 f cs e:=if cs=[]then A0 e else Ee
 h{A n cs e e' H Q}o E h k:=by split at h<;>cases h;rename_i z;subst z;let:=#[Ej,k E]
def xk(i:Nat){u:RG}(a:Sxs u):(Sxs<|zyB (Xh i) u) where
 f cs e:=cs.head?.bind λc=>a.f cs.tail<|e.set i<|A0 c
 h{A n cs e e' H Q}o E h k:=by let#[c,b,h]:=ob h;let#[r,rfl]:=List.head?_eq_some_iff.mp b;let:=#[_,_,Ej,?_];have:=a.h (A:=A) (H:=H) (Q:=Q) (λx g=>o x<|ZB _ g) (E.set<|o c ZD) h k;rw[FS]at this;let:=this
def xt(n:Nat){u:RG}(a:Sxs u):(Sx K<|zxI K n u) where
 f c e m:=(tup m c).bind λxs=>if`xs=n then(a.f xs e).map λb=>(b,m)else Ee
 h{B A c e m H b m' Q}R o E h k:=by
  let#[xs,h1,g]:=ob h;clear h;let#[j,rfl,i]:=xT h1;split at g;.rename_i l;let#[r,p,q]:=om g;cases q;let:=#[_,_,Ej,R.at_ i,by rw[ZA];let:=l,a.h (R.wf<|ZI i) E p λo=>k _ _ (Nx.refl R) o]
  .cases g
def xs{t s:TE}(a:SE K t)(b:SE K s):(Sx K<|fR t s zz6) where
 f c e m:=bd ((s2 cu a b).f e m) λp m=>p.2.int.bind λn=>(lst m p.1).bind λxs=>(bE `xs n).map λj=>(e,C.put m (.l<|xs.set j c) p.1)
 h{B A c e m H e' m' Q}R o E h k:=by let#[#[x,y],m1,h1,h2]:=yV h;let:=(s2 cu a b).h (Q:=λp H=>zz6 p.1 p.2 (c.d A) H<|Q<|den A e) R E h1 λw D n1 F=>?_;let#[n,u,g]:=ob h2;let#[xs,h3,h4]:=ob g;let#[i,h5,h6]:=om h4;cases int_at u;clear h h2 g h4;let#[j,z,q]:=qM h3;let z:x=.r j:=z;subst z;cases h6;let n2:=n1.r.set q (ys:=xs.set i c) λx v=>(List.mem_or_eq_of_mem_set v).elim (n1.r.wf (ZI q) x) λz=>z▸o.mono n1.l;let:=#[_,_,_,i,Ej,Ej,(n1.r.at_ q).1,by rw[ZA];let:=h5,?_];have:=k _ _ (n1.trans n2)<|E.mono (n1.trans n2).l;rw[qH E n1.x,dL,List.map_set,C.zyA o n1.x]at this;let:=this
inductive Rs|nx(e:En)|rt(c:C)
def Rs.ok(n:Nat):(Rs->Prop)|.nx e=>nP n e|.rt c=>c.ok n
def Rs.go(A:Ad)(D:Ends)(H:Hp):(Rs->Prop)|.nx e=>D.nx (den A e) H|.rt c=>D.rt (c.d A) H
structure Ss(K:CK)(t:TS)where f:En->M->Option (Rs×M)h:∀{B:Hp}{A:Ad}{e:En}{m:M}{H:Hp}{r:Rs}{m':M}{D:Ends},Rl K B A m H->nP `m e->f e m=A0 (r,m')->(∀A' H',Nx K B A m A' m' H'->r.ok `m'->r.go A' D H')->t D (den A e) H
def Rs.on(f:En->M->Option (Rs×M)):(Rs->M->Option (Rs×M))|.nx e,m=>f e m|.rt c,m=>A0 (.rt c,m)
def ss{t u:TS}(a:Ss K t)(b:Ss K u):(Ss K<|No t u) where
 f e m:=bd (a.f e m)<|Rs.on b.f
 h{B A e m H r m' D}R E h k:=by let#[q,m1,h1,h2]:=yV h;let:=a.h (D:={D with nx:=u D}) R E h1 λn o n1 g=>?_;cases q with|nx e1=>let:=b.h n1.r g h2 λi j n2 l=>k i j (n1.trans n2) l|rt c=>cases h2;let:=k _ _ n1 g
def iD{t u:TS}(a:Ss K t)(b:Ss K u):(Ss K<|eD t u) where
 f:=(ss a b).f
 h R E h k:=#[u _,(ss a b).h R E h k,λ_ _ z=>z]
def Wy{c:TT}{t u:TS}(x:ST K c)(a:Ss K t)(b:Ss K u):(Ss K<|eI c t u) where
 f e m:=bd (x.f e m) λx m=>cond x (a.f e m)<|b.f e m
 h{B A e m H r m' D}R E h k:=by let#[q,m1,h1,h2]:=yV h;let:=x.h R E h1 λn o n1 _=>?_;rw[<-qH E n1.x];cases q with|true=>rw[Z4 rfl];let:=a.h n1.r (E.mono n1.l) h2 λg i n2 j=>k g i (n1.trans n2) j|false=>rw[ZX Yf];let:=b.h n1.r (E.mono n1.l) h2 λg i n2 j=>k g i (n1.trans n2) j
def gM:(Ss K Wk) where
 f e m:=A0 (.nx e,m)
 h R E h k:=by cases h;let:=k _ _ (Nx.refl R) E
def Nc{t:TE}(a:SE K t):(Ss K<|bM t) where
 f e m:=bd (a.f e m) λ_ m=>A0 (.nx e,m)
 h{B A e m H r m' D}R E h k:=by let#[_,_,h1,h2]:=yV h;cases h2;let:=a.h R E h1 λb c n1 _=>?_;rw[<-qH E n1.x];let:=k _ _ n1<|E.mono n1.l
def srt{t:TE}(a:SE K t):(Ss K<|hJ t) where
 f e m:=bd (a.f e m) λx m=>A0 (.rt x,m)
 h{B A e m H r m' D}R E h k:=by let#[_,_,h1,h2]:=yV h;cases h2;let:=a.h R E h1 k
def Fa{t:TE}(a:SE K t)(x:Sx K g):(Ss K<|HD t g) where
 f e m:=bd (a.f e m) λc m=>bd (x.f c e m) λe m=>A0 (.nx e,m)
 h{B A e m H r m' D}R E h k:=by let#[_,_,h1,j]:=yV h;let#[_,_,h2,h3]:=yV j;cases h3;let:=a.h R E h1 λp q n1 n=>?_;rw[<-qH E n1.x];let:=x.h n1.r n (E.mono n1.l) h2 λb i n2 o=>k b i (n1.trans n2) o
def iC(i:Nat){t:TE}(a:SE K t):(Ss K<|gT i t<|jj λi j=>i+j) where
 f e m:=bd (a.f e m) λy m=>match e[i]?,y with|some<|A0<|.i x,.i y=>A0 (.nx<|e.set i<|A0<|.i<|x+y,m)|_,_=>Ee
 h{B A e m H r m' D}R E h k:=by
  let#[y,m1,h1,h2]:=yV h;split at h2;.rename_i x y b;cases h2;let:=#[_,OJ b,a.h R E h1 λc g n1 n=>#[_,_,Ej,Ej,?_]];have:=k _ _ n1<|(E.mono n1.l).set trivial;rw[Rs.go,FS,qH E n1.x]at this;let:=this
  .cases h2
def wF(c:En->M->Option (Bool×M))(b:En->M->Option (Rs×M)):(Nat->En->M->Option (Rs×M))|0,_,_=>Ee|n+1,e,m=>bd (c e m) λx m=>cond x (bd (b e m)<|Rs.on<|wF c b n)<|A0 (.nx e,m)
def swh(n:Nat){c:TT}{t:TS}(x:ST K c)(b:Ss K t):(Ss K<|Wl c t) where
 f:=wF x.f b.f n
 h{B A e m H r m' D}R E h k:=by let:=#[λg s H=>∃o j m1,Nx K B A m o m1 H/\nP `m1 j/\s=den o j/\wF x.f b.f g j m1=A0 (r,m'),#[n,A,e,m,Nx.refl R,E,Ej,h],?_];rintro g s F ⟨o,j,m1,n1,i,rfl,h1⟩;match g,h1 with|g+1,h1=>let#[q,m2,h2,h3]:=yV h1;let:=x.h n1.r i h2 λw G n2 _=>?_;rw[<-qH i n2.x];cases q with
   |true=>rw[Z4 rfl];let#[q,m3,h4,h5]:=yV h3;let:=#[_,λv y z=>#[g,Vj _,z],b.h n2.r (i.mono n2.l) h4 λu J n3 p=>?_];cases q with|nx e3=>let:=#[u,e3,m3,(n1.trans n2).trans n3,p,Ej,h5]|rt c=>cases h5;let:=k _ _ ((n1.trans n2).trans n3) p
   |false=>rw[ZX Yf];cases h3;let:=k _ _ (n1.trans n2)<|i.mono n2.l
def iI(J:It)(xs:Di)(H:Hp):(Prop):=J.stop `xs H/\(∀i,i<`xs->J.go i H)/\∀i x b,i<`xs->J.yld i H x b->b=H/\xs[i]?=A0 x
structure Si(K:CK)(wi:TI)where f:En->M->Option ((List C×(M->Bool))×M)h:∀{B:Hp}{A:Ad}{e:En}{m:M}{H:Hp}{xs:List C}{lv:M->Bool}{m':M}{R:It->Hp->Prop},Rl K B A m H->nP `m e->f e m=A0 ((xs,lv),m')->(∀A' H' J,Nx K B A m A' m' H'->qp `m' xs->(∀A2 m2 H2,Nx K B A' m' A2 m2 H2->lv m2=Eg->iI J (dL A2 xs) H2)->R J H')->wi (den A e) H R
def il{t:TE}(a:SE K t):(Si K<|bB K t) where
 f e m:=bd (a.f e m) λc m=>(lst m c).bind λxs=>A0 ((xs,λm2=>decide<|lst m2 c=A0 xs),m)
 h{B A e m H xs lv m' R}r E h k:=by
  let#[c,m1,h1,h2]:=yV h;let#[D,h3,h4]:=ob h2;cases h4;let:=a.h r E h1 λn w n1 u=>?_;let#[j,e,g]:=qM h3;let e:c=.r j:=e;subst e;let:=#[_,Ej,#[_,yp.of (n1.r.at_ g).1],k _ _ _ n1 (n1.r.wf<|ZI g) λo m2 p n2 l=>?_];let#[z,e,b]:=qM<|ZT l;cases e;let q:yp K p (n j)<|dL o xs:=by rw[<-n2.x.2 j u];let:=yp.of (n2.r.at_ b).1
  let:=#[#[_,q,ZG _],λi s=>#[_,_,q,ZO s],λi x v _ y=>#[y.1,y.2 _ q]]
def ir{t:TA}(a:SA K t):(Si K<|fX K t) where
 f e m:=bd (a.f e m) λl m=>(one l).bind λc=>(tup m c).bind λxs=>A0 ((xs.reverse,λm2=>decide<|tup m2 c=A0 xs),m)
 h{B A e m H xs lv m' R}r E h k:=by
  let#[cs,m1,h1,h2]:=yV h;let#[c,w,h2]:=ob h2;let#[o,h3,h4]:=ob h2;cases XF w;cases h4;let:=a.h r E h1 λu G n1 D=>?_;let#[j,e,s]:=xT h3;let e:c=.r j:=e;subst e;let:=#[_,_,Ej,n1.r.at_ s,k _ _ _ n1 (λx z=>n1.r.wf (ZI s) x<|List.mem_reverse.mp z) λp m2 v n2 l=>?_];let#[J,e,g]:=xT<|ZT l;cases e;let q:yq K v (u j)<|dL p o:=by rw[<-n2.x.2 j<|D _ ZD];let:=n2.r.at_ g
  let n:↑(dL p o.reverse)=`o:=by rw[ZA,List.length_reverse]
  rw[ZA];let:=#[n,λi b=>#[_,q,ZA _,by rw[n]at b;let:=b],λi x F b y=>#[y.1,?_]];rw[n]at b;rw[dL,List.map_reverse,List.getElem?_reverse<|by rwa[ZA],ZA];let:=y.2 _ q
def ig{t:TA}(a:SA K t):(Si K<|bC t) where
 f e m:=bd (a.f e m) λl m=>(two l.tail).bind λp=>(l.headD .no).int.bind λx=>p.1.int.bind λy=>if p.2=.i (-1)/\-1000<x/\x<1000/\-1000<y/\y<1000 then A0 (((EK (x-y).toNat).map λi=>.i<|x-(i:Nat),λ_=>Eg),m)else Ee
 h{B A e m H xs lv m' R}r E h k:=by let#[cs,m1,h1,h2]:=yV h;let#[#[u,v],h3,h6]:=ob h2;let#[x,h4,n]:=ob h6;let#[y,h5,g]:=ob n;clear h h2 h6 n;cases cs with|nil=>cases h3|cons c r=>
  cases show r=_ from Wo h3;cases int_at h4;cases int_at h5;split at g
  .rename_i q;let#[rfl,L,N,P,Q]:=q;cases g;let:=a.h r E h1 λw F n1 J=>#[x,y,Ej,#[⋯,⋯,⋯,⋯],k _ _ _ n1 (λc s=>?_) λo m2 G n2 _=>?_];.let#[i,_,rfl]:=ZH.mp s;trivial
   .let j:↑(dL o<|(EK (x-y).toNat).map λi=>C.i<|x-(i:Nat))=(x-y).toNat:=by simp
    let:=#[by rw[j];let:=ZG _,λi b=>by rw[j]at b;let:=b,λi v D b z=>#[z.1,?_]];rw[j]at b;rw[z.2,dL,ZN,ZN,VS b];rfl
  .cases g
def fF(c:M->Bool)(g:C->En->M->Option (En×M))(b:En->M->Option (Rs×M)):(List C->En->M->Option (Rs×M))|[],e,m=>cond (c m) (A0 (.nx e,m)) Ee|x::xs,e,m=>cond (c m) (bd (g x e m) λe m=>bd (b e m)<|Rs.on<|fF c g b xs) Ee
def dZ{Y:TI}{t:TS}(w:Si K Y)(x:Sx K g)(b:Ss K t):(Ss K<|g7 Y g t) where
 f e m:=bd (w.f e m) λp m=>fF p.2 x.f b.f p.1 e m
 h{B A e m H r m' D}R E h k:=by
  let#[#[xs,G],U,h1,h2]:=yV h;let:=w.h R E h1 λN H0 J s ox j=>?_;let:=#[λi L σ H=>L+i=`xs/\∃n u m1,Nx K B N U n m1 H/\nP `m1 u/\σ=den n u/\fF G x.f b.f (xs.drop i) u m1=A0 (r,m'),#[`xs,Ej,N,e,U,Nx.refl s.r,E.mono s.l,(qH E s.x).symm,by rw[UF];let:=h2],?_];rintro i L σ S ⟨ab,n,u,m1,n1,P,rfl,h3⟩;rcases VL i `xs with o|o;.rw[VO o]at h3;unfold fF at h3;cases l:G m1 with
   |true=>rw[l]at h3;let#[e2,m2,h4,h5]:=yV h3;let#[q,m3,h6,T]:=yV h5;let#[_,go,Z]:=j n m1 S n1 l;let ll:↑(dL n xs)=`xs:=ZA _;rw[ll]at go Z;let:=.inr #[go i o,_,λac Q z=>#[L-1,⋯,z],λv Q y=>?_];let#[rfl,F]:=Z i v Q o y;rw[ZN,ZO o]at F;let F:xs[i].d n=v:=dI F;subst F;let:=x.h n1.r ((ox _<|Y8 o).mono n1.l) P h4 λA2 H2 n2 o2=>b.h n2.r o2 h6 λA3 H3 n3 X=>?_;cases q with|nx e3=>let:=#[⋯,A3,e3,m3,(n1.trans n2).trans n3,X,Ej,T]|rt c=>cases T;let:=k _ _ (s.trans<|(n1.trans n2).trans n3) X
   |false=>rw[l]at h3;cases h3
  .rw[List.drop_of_length_le o]at h3;unfold fF at h3;cases l:G m1 with|true=>rw[l]at h3;have:=(j n m1 S n1 l).1;rw[ZA]at this;let ei:i=`xs:=⋯;subst ei;cases h3;let:=.inl #[this,k _ _ (s.trans n1) P]|false=>rw[l]at h3;cases h3
def ba(src:List<|Option Nat)(e:En):(En):=src.map λo=>o.bind λi=>e[i]?.join
def gO{A:Ad}:den A (ba src e)=U9 src (den A e):=by unfold den ba U9;rw[ZV];let:=Yp λo _=>?_;cases o with|none=>rfl|some i=>show Option.map _ e[i]?.join=(e.map _)[i]?.join;rw[ZN];cases e[i]?<;>rfl
def d6(E:nP n e):nP n<|ba src e:=λc b=>by let#[o,_,h]:=ZH.mp b;let#[i,_,h]:=ob h;let:=E c<|ZI<|Option.join_eq_some_iff.mp h
def cF(b:M->Bool)(g:C->En->M->Option (En×M))(t:En->M->Option (C×M)):(List C->En->M->List C->Option (C×M))|[],_,m,ys=>if b m=Eg/\`ys<1000 then nw (.l ys) m else Ee|x::xs,e,m,ys=>if b m=Eg/\`ys<1000 then bd (g x e m) λe m=>bd (t e m) λy m=>cF b g t xs e m<|ys++[y]else Ee
def i9(src:List<|Option Nat){t:TE}(w:Si K wi)(x:Sx K g)(a:SE K t):(SE K<|Nn src wi g Ir t) where
 f e m:=bd (w.f e m) λp m=>cF p.2 x.f a.f p.1 (ba src e) m []
 h{B A e m H c m' Q}R E h k:=by
  let#[#[xs,lv],m0,h1,h2]:=yV h;let:=w.h R E h1 λU H0 J L ox n=>?_;let:=#[λi T zs σ H=>T+i=`xs/\∃j G m1 s,Nx K B U m0 j m1 H/\nP `m1 G/\qp `m1 s/\zs=dL j s/\σ=den j G/\cF lv x.f a.f (xs.drop i) G m1 s=A0 (c,m'),#[`xs,Ej,U,_,m0,[],Nx.refl L.r,d6<|E.mono L.l,λc P=>(nomatch P),Ej,by rw[gO,qH E L.x],by rw[UF];let:=h2],?_];rintro i T zs σ H1 ⟨ab,j,G,m1,s,n1,E1,S,rfl,rfl,h3⟩;rcases VL i `xs with u|u
  .rw[VO u]at h3;unfold cF at h3;split at h3;.rename_i l;let#[e2,m2,h4,h5]:=yV h3;let#[q,m3,h6,h7]:=yV h5;let#[_,go,yl]:=n j m1 H1 n1 l.1;let ll:↑(dL j xs)=`xs:=ZA _;rw[ll]at go yl;let:=#[zr<|by rw[ZA];lia,.inr #[go i u,_,λac ad Z z=>#[T-1,⋯,z],λv Z y=>?_]];let#[rfl,N]:=yl i v Z u y;rw[ZN,ZO u]at N;let N:xs[i].d j=v:=dI N;subst N;let:=x.h n1.r ((ox _<|Y8 u).mono n1.l) E1 h4 λX H2 n2 F=>?_;delta Ir;dsimp only;rw[Z4 rfl];let:=a.h n2.r F h6 λY H3 n3 o3=>?_;let D:=n2.trans n3;let:=#[⋯,Y,e2,m3,s++[q],n1.trans D,F.mono n3.l,λc P=>(ZY.mp P).elim (λz=>(S c z).mono D.l) λz=>ZC.mp z▸o3,?_,(qH F n3.x).symm,h7];rw[dL,dL,ZM,show s.map (C.d j)=s.map (C.d Y)from(R6 S D.x).symm];rfl
   .cases h3
  .rw[List.drop_of_length_le u]at h3;unfold cF at h3;split at h3;.rename_i l;let st:=(n j m1 H1 n1 l.1).1;rw[ZA]at st;let ei:i=`xs:=⋯;subst ei;let#[_,b]:=GT (o:=.l s) n1.r S h3 λX H2 n2 F=>k X H2 (L.trans<|n1.trans n2) F;let:=#[zr<|by rw[ZA];lia,.inl #[st,b]]
   .cases h3
inductive qg(K:CK)(F:List C->M->Option (C×M))(vs:Di)(H:Hp)(Q:VK)(E:XK):Prop|mk(B:Hp)(A:Ad)(m:M)(cs:List C)(c:C)(m':M)(r:Rl K B A m H)(o:qp `m cs)(e:vs=dL A cs)(f:F cs m=A0 (c,m'))(k:∀A' H',Nx K B A m A' m' H'->c.ok `m'->Q (c.d A') H'):qg K F vs H Q E
def rC{F:List C->M->Option (C×M)}{E:XK}:(SB K λvs H Q=>qg K F (vs++[]) H Q E) where
 g:=F
 h R E h k:=#[_,_,_,_,_,_,R,E,Yi _,h,k]
def Pl(F:List C->M->Option (C×M)){t:TA}(a:SA K t):(SE K<|Nm (qg K F) [] E0 t):=sb (r:=λb H Q=>qg K F (b++[]) H Q E0) a rC
def OO(n k:Nat)(f:En->M->Option (Rs×M))(cs:List C)(m:M):(Option<|C×M):=if`cs=n then bd (f (cs.map A0++EN (k-n) Ee) m) λr m=>match r with|.rt c=>A0 (c,m)|.nx _=>A0 (.no,m)else Ee
def rR{st:ES}{k:Nat}(F:yd K x qual st f fd)(S:zy N ps<|zF st)(s:Ss K T)(hb:∀(cdv:Es)(A:EL)(outer:List Env)(s:Eu)(H:Hp)(E:XK),xj k (A.deeper<|PyProof.Rows.envOfC qual (zF st) ⇑s f cdv)->pB (GX CO P w K mg dX N qual (zF st) f cdv A outer s H E).nox (yZ st) T):zj P w K mg dX CO (k+1) f fd ps<|qg K<|OO `ps `N s.f:=by
 let:=yd.ok (len:=λp H Q E h=>by let#[B,A,m,cs,c,j,r,o,rfl,h,k]:=h;unfold OO at h;simp_all) F S λcdv b outer n H p Q E i h=>#[T,hb cdv b _ n H E i,?_];let#[B,A,m,cs,c,j,r,o,rfl,h,k]:=h;unfold OO at h;split at h
 .let#[q,m1,h1,h2]:=yV h;let g:den A (cs.map A0++EN (`N-`ps) Ee)=L2.start N (dL A cs):=by unfold den L2.start;simp_all
  rw[<-g];let:=s.h r (λc v=>?_) h1 λt u n1 l=>?_;.simp_all
  .cases q with|nx e=>cases h2;let:=k _ _ n1 trivial|rt c=>cases h2;let:=k _ _ n1 l
 .cases h
end
end Ev
namespace AnJ
open PySem L2 An Ev
noncomputable section
def pI(K:CK):=(ss (Fa (so jt (sl<|sk (sI 0) sn)<|so Hj (Nb RH<|sk (sv 1) sn)<|sI 1)<|xn 3)<|ss (dZ (ig<|sk (so df (Nb RH<|sk (sv 1) sn)<|sI 1)<|sk (su iB<|sI 1)<|sk (su iB<|sI 1) sn) (xn 4)<|Wy (sT<|so rE (sv 0)<|so Fd (sv 1)<|sv 4) (Fa (so Hj (so aQ (sv 2)<|so Hj (sv 4)<|sI 1)<|sI 1)<|xs (sv 3)<|sv 4)<|Fa (Nb js<|sk (so aQ (sv 2)<|sv 4)<|sk (so aQ (sv 3)<|so Hj (sv 4)<|sI 1) sn)<|xs (sv 3)<|sv 4)<|srt<|sv 3:Ss K _)
abbrev rQ(K:CK):=OO 3 5 (pI K).f
def sE(K:CK):=(ss (Fa (so jt (sl<|sk (sI 0) sn)<|so Hj (Nb RH<|sk (sv 1) sn)<|sI 1)<|xn 2)<|ss (Fa (sl<|sk (sv 2) sn)<|xn 3)<|ss (dZ (ir<|sk (sv 0) sn) (xn 4)<|ss (Fa (Pl (rQ K)<|sk (sv 4)<|sk (sv 1)<|sk (sv 2) sn)<|xn 2)<|Nc<|sm mA (sv 3)<|sk (sv 2) sn)<|ss (Nc<|ja mR<|sv 3)<|srt<|sv 3:Ss K _)
abbrev ut(K:CK):=OO 2 5 (sE K).f
def qd(K:CK):=(ss (Fa (Pl (ut K)<|sk (sv 0)<|sk (sv 1) sn)<|xn 2)<|ss (Fa (sl sn)<|xn 3)<|ss (Fa (sI 0)<|xn 4)<|ss (Fa (sI 0)<|xn 5)<|ss (swh 12 (gG (sT<|so oLt (sv 4)<|Nb RH<|sk (sv 0) sn)<|sT<|so oLt (sv 5)<|Nb RH<|sk (sv 1) sn)<|Wy (sT<|so rE (so Fd (sv 0)<|sv 4)<|so Fd (sv 1)<|sv 5) (ss (Nc<|sm mA (sv 3)<|sk (st<|sk (sv 4)<|sk (sv 5) sn) sn)<|ss (iC 4<|sI 1)<|iC 5<|sI 1)<|Wy (sT<|so oGe (so aQ (so aQ (sv 2)<|so Hj (sv 4)<|sI 1)<|sv 5)<|so aQ (so aQ (sv 2)<|sv 4)<|so Hj (sv 5)<|sI 1) (iC 4<|sI 1)<|iC 5<|sI 1)<|srt<|sv 3:Ss K _)
abbrev tD(K:CK):=OO 2 6 (qd K).f
def oA(K:CK):=(ss (Fa (sl sn)<|xn 2)<|ss (Fa (sI 0)<|xn 3)<|ss (Fa (sI 0)<|xn 4)<|ss (dZ (il<|so jp (Pl (tD K)<|sk (sv 0)<|sk (sv 1) sn)<|sl<|sk (st<|sk (Nb RH<|sk (sv 0) sn)<|sk (Nb RH<|sk (sv 1) sn) sn) sn) (xt 2<|xk 5<|xk 6 x0)<|iD (Wy (i8 (sT<|so oLt (sv 3)<|sv 5)<|sT<|so oLt (sv 4)<|sv 6) (Nc<|sm mA (sv 2)<|sk (st<|sk (sv 3)<|sk (sv 5)<|sk (ssl (sv 1) (RI<|sv 4)<|RI<|sv 6) sn) sn) gM)<|ss (Fa (so Hj (sv 5)<|sI 1)<|xn 3)<|Fa (so Hj (sv 6)<|sI 1)<|xn 4)<|srt<|sv 2:Ss K _)
abbrev tM(K:CK):=OO 2 7 (oA K).f
def pP(K:CK):=(ss (Fa (sl sn)<|xn 2)<|ss (Fa (sI 0)<|xn 3)<|ss (dZ (il<|sv 1) (xt 3<|xk 4<|xk 5<|xk 6 x0)<|ss (Nc<|sm mX (sv 2)<|sk (ssl (sv 0) (RI<|sv 3)<|RI<|sv 4) sn)<|ss (Nc<|sm mX (sv 2)<|sk (sv 6) sn)<|Fa (sv 5)<|xn 3)<|ss (Nc<|sm mX (sv 2)<|sk (ssl (sv 0) (RI<|sv 3) jw) sn)<|srt<|Nb ju<|sk (sv 2) sn:Ss K _)
abbrev tB(K:CK):=OO 2 7 (pP K).f
def FC(K:CK):=(srt<|gH (so oLe (so Fd (sv 0)<|sI 0)<|so Fd (sv 1)<|sI 1)<|so oLe (so Fd (sv 1)<|sI 0)<|so Fd (sv 0)<|sI 1:Ss K _)
abbrev tG(K:CK):=OO 2 2 (FC K).f
def pF(K:CK):=(ss (Fa (sl sn)<|xn 2)<|ss (dZ (il<|Nb rSo<|sk (so jp (i9 [Ee] (il<|sv 0) (xn 0)<|st<|sk (sv 0)<|sk (sI 2) sn)<|i9 [Ee] (il<|sv 1) (xn 0)<|st<|sk (sv 0)<|sk (sI 3) sn) sn) (xt 2<|xk 3<|xk 4 x0)<|iD (Wy (i8 (sT<|so rE (Nb RH<|sk (sv 2) sn)<|sI 0)<|i7<|sTu<|Pl (tG K)<|sk (so aQ (sv 2)<|su iB<|sI 1)<|sk (sv 3) sn) (Nc<|sm mA (sv 2)<|sk (st<|sk (so Fd (sv 3)<|sI 0)<|sk (so Fd (sv 3)<|sI 1)<|sk (sl sn)<|sk (sl sn) sn) sn) gM)<|ss (Fa (ja mP<|sv 2)<|xn 5)<|ss (Nc<|sm mA (so Fd (sv 5)<|sv 4)<|sk (sv 3) sn)<|Nc<|sm mA (sv 2)<|sk (st<|sk (so Fd (sv 5)<|sI 0)<|sk (Nb js<|sk (so Fd (sv 5)<|sI 1)<|sk (so Fd (sv 3)<|sI 1) sn)<|sk (so Fd (sv 5)<|sI 2)<|sk (so Fd (sv 5)<|sI 3) sn) sn)<|srt<|sv 2:Ss K _)
abbrev rN(K:CK):=OO 2 6 (pF K).f
def pU(K:CK):=(srt<|Pl (tB K)<|sk (ssl (sv 0) (RI<|sv 1)<|RI<|sv 2)<|sk (i9 [Ee,A0 1] (il<|sv 3) (xn 0)<|st<|sk (so df (so Fd (sv 0)<|sI 0)<|sv 1)<|sk (so df (so Fd (sv 0)<|sI 1)<|sv 1)<|sk (so Fd (sv 0)<|sI 2) sn) sn:Ss K _)
abbrev uz(K:CK):=OO 4 4 (pU K).f
def oJ(K:CK):=(ss (Fa (st sn)<|xn 2)<|iD (Wy (gG (sT<|so jm (Nb RH<|sk (sv 0) sn)<|sI 0)<|sT<|so rE (so Fd (so aQ (sv 0)<|su iB<|sI 1)<|sI 0)<|sS "same") (ss (Fa (ja mP<|sv 0)<|xn 3)<|Fa (so Fd (sv 3)<|sI 1)<|xn 2) gM)<|Wy (sT<|so jm (Nb RH<|sk (so jo (sv 2)<|sv 1) sn)<|sI 0) (Nc<|sm mA (sv 0)<|sk (st<|sk (sS "same")<|sk (so jo (sv 2)<|sv 1) sn) sn) gM:Ss K _)
abbrev wz(K:CK):=OO 2 4 (oJ K).f
def rM(K:CK):=(ss (Fa (sl sn)<|xn 3)<|ss (Fa (sI 0)<|xn 4)<|ss (dZ (il<|Pl (rN K)<|sk (Pl (tM K)<|sk (sv 0)<|sk (sv 1) sn)<|sk (Pl (tM K)<|sk (sv 0)<|sk (sv 2) sn) sn) (xt 4<|xk 5<|xk 6<|xk 7<|xk 8 x0)<|ss (Nc<|Pl (wz K)<|sk (sv 3)<|sk (ssl (sv 0) (RI<|sv 4)<|RI<|sv 5) sn)<|ss (Fa (Pl (uz K)<|sk (sv 0)<|sk (sv 5)<|sk (sv 6)<|sk (sv 7) sn)<|xn 9)<|ss (Fa (Pl (uz K)<|sk (sv 0)<|sk (sv 5)<|sk (sv 6)<|sk (sv 8) sn)<|xn 10)<|iD (Wy (i8 (sT<|so rE (Nb RH<|sk (sv 7) sn)<|sI 0)<|sT<|so rED (sv 9)<|sv 10) (Nc<|Pl (wz K)<|sk (sv 3)<|sk (sv 10) sn)<|Wy (sT<|so rE (Nb RH<|sk (sv 8) sn)<|sI 0) (Nc<|Pl (wz K)<|sk (sv 3)<|sk (sv 9) sn)<|Nc<|sm mA (sv 3)<|sk (st<|sk (sS "clash")<|sk (ssl (sv 0) (RI<|sv 5)<|RI<|sv 6)<|sk (sv 9)<|sk (sv 10) sn) sn)<|Fa (sv 6)<|xn 4)<|ss (Nc<|Pl (wz K)<|sk (sv 3)<|sk (ssl (sv 0) (RI<|sv 4) jw) sn)<|srt<|sv 3:Ss K _)
abbrev wA(K:CK):=OO 3 11 (rM K).f
def rB(K:CK):=(ss (Fa (sl sn)<|xn 1)<|ss (dZ (il<|sv 0) (xn 2)<|ss (Wy (sT<|so rE (so Fd (sv 2)<|sI 0)<|sS "clash") (srt sN) gM)<|Nc<|sm mX (sv 1)<|sk (so Fd (sv 2)<|sI 1) sn)<|srt<|Nb ju<|sk (sv 1) sn:Ss K _)
abbrev wj(K:CK):=OO 1 3 (rB K).f
def gQ:(C->Option Nat)|.s n=>A0 n|_=>Ee
def dB(m:M)(c:C):(Option<|Option<|List Nat):=if c=.no then A0 Ee else(tup m c).bind λxs=>(tH gQ xs).map A0
abbrev tS(l:List Nat):O:=.t<|l.map C.s
def jn(b m y:List Nat):(Option<|Option<|List Nat):=bd (wA [] [.r 0,.r 1,.r 2] [tS b,tS m,tS y]) λc m=>bd (wj [] [c] m) λc m=>dB m c
end
inductive Jl(b m y:By)(o:Option By):Prop|mk(L:Nat->Str)(b' m' y':List Nat)(o':Option<|List Nat)(l:wM L)(k:∀x∈b'++m'++y',x<5)(e1:b=b'.map L)(e2:m=m'.map L)(e3:y=y'.map L)(h:jn b' m' y'=A0 o')(e:o=o'.map (List.map L)):Jl b m y o
section
variable{B H:Hp}{A:Ad}{m:M}{c:C}
def Wh:∀{xs:List C}{ls:List Nat},tH gQ xs=A0 ls->dL A xs=(ls.map A.s).map V.str|[],_,h=>by cases h;rfl|c::r,_,h=>by let#[x,h1,h2]:=JR.mp h;let#[ls,h3,rfl]:=Z2.mp h2;cases c<;>cases h1;let:=congrArg _<|Wh h3
def dC{o:Option<|List Nat}(R:Rl K B A m H)(h:dB m c=A0 o):o=Ee/\c.d A=.non\/∃ls a,o=A0 ls/\c.d A=.ref a/\yq K H a ((ls.map A.s).map V.str):=by
 unfold dB at h;split at h;.rename_i e;cases h;let:=.inl #[Ej,by rw[e];rfl]
 .let#[xs,h1,h2]:=JR.mp h;let#[ls,h3,rfl]:=Z2.mp h2;let#[k,rfl,hk]:=xT h1;let:=.inr #[ls,_,Ej,Ej,Wh h3▸R.at_ hk]
def zwR{b m y:By}{Q:VK}{E t:XK}(sb:yq K H qb<|b.map V.str)(sm:yq K H qm<|m.map V.str)(J:yq K H qy<|y.map V.str)(h:Jl b m y o)(k:∀v H',zx H H'->(o=Ee/\v=.non\/∃ls a,o=A0 ls/\v=.ref a/\yq K H' a (ls.map V.str))->Q v H'):qg K (wA K) [.ref qb,.ref qm,.ref qy] H (λx H1=>qg K (wj K) [x] H1 Q t) E:=by
 let#[L,B,D,N,F,l,g,rfl,rfl,rfl,h,rfl]:=h;let#[c,m1,h1,u]:=yV h;let#[d,m2,h2,h3]:=yV u;let q:∀l:List Nat,dL #[λk=>if k=0 then qb else if k=1 then qm else qy,L] (l.map C.s)=(l.map L).map V.str:=λl=>by rw[dL,ZV,ZV];rfl
 let:=#[H,#[λk=>if k=0 then qb else if k=1 then qm else qy,L],_,[.r 0,.r 1,.r 2],c,m1,#[l,zx.refl _,λ{i o}z=>?_,λ{o}z c f=>?_,λ{i j xs P}z=>?_],λc f=>?_,Ej,h1,λn H1 n1 w=>#[H,n,m1,[c],d,m2,n1.r,λx e=>ZC.mp e▸w,Ej,h2,λp A n2 G=>k _ _ n2.r.same ?_]];.match i,z with|0,z=>cases z;show yq K H qb _;rw[q];let:=sb|1,z=>cases z;show yq K H qm _;rw[q];let:=sm|2,z=>cases z;show yq K H qy _;rwa[q]
 .have:∃l,o=tS l/\∀x∈l,x<5:=by
   simp only[ZJ,Yd,YY]at z;simp only[ZY]at g;rcases z with rfl|rfl|rfl;.let:=#[_,Ej,λx e=>g x<|.inl<|.inl e]
   .let:=#[_,Ej,λx e=>g x<|.inl<|.inr e]
   .let:=#[_,Ej,λx e=>g x<|.inr e]
  let#[l,rfl,hl]:=this;let#[x,e,rfl]:=ZH.mp<|f;let:=hl x e
 .match i,z with|0,z=>cases z|1,z=>cases z|2,z=>cases z
 .simp only[ZJ,Yd,YY]at f;rcases f with rfl|rfl|rfl<;>(show(_:Nat)<3;decide)
 .let z:=dC n2.r h3;rw[show p.s=L from n2.x.1.trans n1.x.1]at z;rcases z with⟨rfl,z⟩|⟨ls,a,rfl,z,q⟩;.let:=.inl #[Ej,z]
  .let:=.inr #[_,a,Ej,z,q]
end
end AnJ
namespace AxS
open PySem PySem.Spec PyProof.Rows
def sub_dict_set:My (.type "dict") (.type "set")=Lm Ei:=by rw[Y5];rfl
def sub_dict_frozenset:My (.type "dict") (.type "frozenset")=Lm Ei:=by rw[Y5];kernel_rfl
def c7{d:Er}{Q:Bool->Dg}(b:s.TypeIs (.ref d) "dict")(h:Q Ei s):EA (EC prog w) A (Builtin.Frozenset.isAnySet<|.ref d) Q E s:=by let:=Zz<|YX b sub_dict_set<|YX b sub_dict_frozenset h
def P7{P d:Er}{vs:List<|L2.Key×Es}{c:By}{nm:String}{Q:Unit->Dg}(hP:s.heap.get? P=A0 (zW w))(G:s.heap.DictOf (L2.yx prog w) d vs)(hS:(d==E6)=Ei)(ne:P≠d)(hn:`vs*2<256)(ek:vs.map (·.1)=c.map EE)(h:∀h',EW P s.heap h'->yg prog w h' P c->Q () {s with heap:=h'}):EA (EC prog w) A (Lf nm P<|.ref d) Q E s:=by
 let#[o,f,ep,X,hx,hd,hk,hp,U]:=id G;let Dq:`vs=f.size:=`hp▸Ye.symm;let am:`c=`vs:=by have:=congrArg List.length ek;rw[ZA,ZA]at this;let:=this.symm
 let nd:c.Nodup:=by let z:(c.map<|EE (α:=Int)).Nodup:=ek▸U;let:=List.Pairwise.of_map _ λa b(q:EE a≠EE b)e=>q<|by rw[e] z
 unfold Lf;let:=Zz<|c7 G.typeIs<|Zz<|J9 G.typeIs ?_;rw[Z4<|∅];let:=Zz<|JK<|Zz<|ZF ?_;rw[ZX<|show¬(d==E6)=Eg by rw[hS];let:=Yf];let:=Zz<|wpAny_dictEpoch X hd<|Zz<|UT X hd<|Zz<|Gk hP ⋯ λh1 o' J t' y Y ab L N T ap al F an=>?_;let af:yg prog w h1 P<|c.take 0:=#[o',#v[],J,t',Y,ab,L,λe he=>by simp at he,by simp[List.take_zero],∅,N,T,λz=>absurd rfl z];let t:∀{h2:EH},EW P s.heap h2->h2.get? d=A0 o:=λ{h2}sb=>sb.2 d ne.symm▸X;let:=Zz<|UT (t y) hd<|Zz ?_;rw[Std.Legacy.Range.forIn_eq_forIn_range'];let:=VJ _ (λp _ s'=>∃(h2:EH)(i:Nat),s'={s with heap:=h2}/\p=List.range' i (f.size-i)/\i<=f.size/\EW P s.heap h2/\yg prog w h2 P (c.take i)) _ ?_ ?_ _ _ #[h1,0,Ej,by simp,Yk _,y,af]
 .rintro x p _ s' ⟨h2,i,rfl,Z,hi,n,B⟩;let g:i<f.size:=by
   rcases VL i f.size with z|z;.let:=z
   simp_all[Nat.sub_eq_zero_of_le]
  let K:f.size-i=f.size-(i+1)+1:=⋯;rw[K,List.range'_succ]at Z;injection Z with r1 r2;subst r1;let:=Zz<|UT (t n) hd ?_;rw[Jh g];let hv:x<`vs:=⋯;let u:x<`c:=⋯;let#[D,_]:=hp.get? (i:=x) (e:=f[x]) (k:=vs[x].1) (v:=vs[x].2) (YU▸Jh g)<|ZO hv;let#[k',S,hh]:=hk f[x]<|Array.getElem_mem g;let H:k'=vs[x].1:=(L2.yx prog w).inj _ _ _ S D;let ex:vs[x].1=.inr c[x]:=by have:=congrArg (λl=>l[x]?) ek;rw[ZN,ZN,ZO hv,ZO u]at this;let:=dI this
  rw[H,ex]at hh;rw[ex]at D;let#[tk,et]:=Ja<|D;dsimp only;rw[et,hh];let tl:↑(c.take x)=x:=by rw[Z8];lia
  let as:Ml=4096:=rfl;let:=Zz<|Ys<|Oy (s:={s with heap:=h2}) B ⋯ λh3 r ad ah=>?_;let e3:=n.trans ad;let:=Zz<|wpAny_dictEpoch (s:={s with heap:=h3}) (t e3) hd<|Y6 λz=>absurd z<|by simp λ_=>ZF #[h3,x+1,Ej,r2,g,e3,?_];let ac:c[x]∉c.take x:=λz=>by let#[j,hj,ej]:=Ym.mp z;rw[UR]at ej;have:=(JJ nd).mp ej;rw[tl]at hj;lia
  rw[ZX ac]at ah;rwa[YE,ZO u]
 .rintro _ s' ⟨h2,i,rfl,Z,hi,n,B⟩;let R:i=f.size:=by grind[List.range'_succ]
  rw[R,JW<|⋯]at B;let:=ZF<|h h2 n B
def Bk{d:Er}{vs:List<|L2.Key×Es}{j:By}(G:s.heap.DictOf (L2.yx prog w) d vs)(v:(d==E6)=Ei)(hn:`vs*2<256)(ek:vs.map (·.1)=j.map EE)(h:∀(h':EH)(tk:Nat),yg prog w h' ⇑s j->(∀b o,s.heap.get? b=A0 o->h'.get? b=A0 o)->Q (.ref ⇑s) {s with heap:=h',toks:=tk}):EA (EC prog w) A (call (.type "set") [.ref d]) Q E s:=by
 let#[c,X,H]:=F.called_set.mro;let y:=F.called_set.made;let J:=F.called_set.sub;let h1:=F.called_set.notType;let h2:=F.called_set.canCreate;let N:=F.typeCall_set_1<|.ref d;let:=VZ<|codeAny_of_tree ?_;show EA _ _ (callAny (.type "set") _) _ _ _;let:=ZF #[Code.quiet_builtin _<|by lk,Jg F.entry_type_call ?_];rw[Around.under_plain (weight_type_call_type "set" [.ref d] []) rfl];repeat(any_goals(first|assumption|wp_step))
 let:=JN (Pm (.ref d) (E:=E) (Q₁:=λobj i=>obj=.ref ⇑s/\i={s with heap:=s.heap.push<|zW w}) #[Ej,Ej]) λr i B=>?_;cases r with|error e=>let:=B|ok fl=>cases fl with
  |ret obj=>
   let#[rfl,rfl]:=B;let t:(s.heap.push<|zW w).get? ⇑s=A0 (zW w):=ZL _ rfl;let K:LW {s with heap:=s.heap.push<|zW w} (.ref ⇑s) "set":=#[_,t,Ej];let P:=F.called_set.init.lookup;let L:=F.called_set.init.bind<|.ref ⇑s;repeat(any_goals(first|assumption|wp_step))
   let:=JN (VG (R:=wants (λr f=>r=.none/\∃h' tk,f={s with heap:=h',toks:=tk}/\yg prog w h' ⇑s j/\∀b o,s.heap.get? b=A0 o->h'.get? b=A0 o) E) F.called_set.init.plain F.entry_set_init<|check_set_init_1 K ?_) λl f g=>?_
   .let p:d<⇑s:=by let#[_,_,_,e,_]:=G;let:=ZP e
    let n:(s.heap.push<|zW w).DictOf (L2.yx prog w) d vs:=G.push _;let q:=P7 (A:=A.in1.in1) (E:=λe S=>(wants (λr f=>r=.none/\∃h' tk,f={s with heap:=h',toks:=tk}/\yg prog w h' ⇑s j/\∀b o,s.heap.get? b=A0 o->h'.get? b=A0 o) E) (.error e) S) (s:={s with heap:=s.heap.push<|zW w}) (nm:="set.__init__") (Q:=λ_ f=>∃h',f={s with heap:=h'}/\yg prog w h' ⇑s j/\∀b o,s.heap.get? b=A0 o->h'.get? b=A0 o) t n v (JV p) hn ek λh' sb D=>#[h',Ej,D,λb o e=>(sb.2 b<|ZU<|ZP e).trans<|ZE _ e];unfold zW at t;unfold Builtin.«set.__init__» noKeywords;generalize T:Lf=U at q ⊢;unfold zW at q ⊢;wp_walk;let:=YO q (λ_ s2 ⟨h',e,D,kp⟩=>by subst e;let:=ZF #[Ej,h',s.toks,Ej,D,kp]) λ_ _ z=>z
   .cases l with|error e=>let:=g|ok fl₂=>
     cases fl₂ with|ret r=>
      let#[rfl,h',tk,rfl,u,x]:=g;repeat(any_goals(first|assumption|wp_step))
      let:=h _ _ u x|_=>let:=g.elim
  |_=>let:=B.elim
end AxS
namespace L2
open PySem PySem.Spec PyProof.Rows AxS
inductive zx8(P:Et)(w:Ey)(xs:Di)(H:Hp)(Q:VK):Prop|mk(a:_)(Dl:_)(h0:xs=[.ref a])(h1:Rd H a<|.dK Dl)(h2:RL Dl)(h3:`Dl*2<256)(h4:∀p,H p=Ee->Q (.ref p) (upd H p<|Xe P w p<|Dl.map U6)):zx8 P w xs H Q
def X6:xq X (.type "set")<|zx8 X.prog X.w:=by
 intro v s B H xs A Q I r h;let#[a,g,rfl,ha,c,hn,q]:=h;let#[u,rfl,n]:=wW r;cases n;let#[t,x,b,f,j,l]:=Ij I ha;let i:=`Paired b;let ek:t.map (·.1)=(g.map U6).map Sum.inr:=by clear q ha l hn f i;induction b with|nil=>rfl|@cons p q ps qs r _ ih=>rw[Z9,Z9,Z9,ih λkv hkv=>c kv<|ZB _ hkv,<-c p<|ZD ..];let e:=r.1;rw[e]
 let:=Bk f.dictOf j ⋯ ek λy z o kp=>#[.ref _,_,I.laid kp (ZG _)<|HG o,Ej,q _<|I.hok.fresh<|ZG _]
end L2
namespace AxS
open PySem PySem.Spec PyProof.Rows
def qY:plainId "dict.update.loop"=Eg:=by lk
def Ic:MV table "dict.update.loop"=A0 Builtin.«dict.update.loop»:=entryFor_of_fast<|by kernel_rfl
def He:typeLookup (.type "list") "keys"=Lm Ee:=by rw[Vt,builtinLookup_eq_fast];kernel_rfl
def W6{a:Er}{xs:Array Es}{sl:Array Db}{Q:Db->Dg}(j:s.heap.get? a=A0 {cls:=.type "list",dict:=Ee,data:=.seq xs n,slots:=sl})(l:A.handled=Ee)(h:∀h' tk,(∀b o,s.heap.get? b=A0 o->h'.get? b=A0 o)->Q Ee {s with heap:=h',toks:=tk}):EA (EC prog w) A (getAttr? (.ref a) "keys") Q E s:=by
 let#[p,g,d,tk,os]:=s;let i:∀c,(#[p,g,d,c,os]:Eu).TypeIs (.ref a) "list":=λ_=>#[_,j,Ej];let q:=sub_AttributeError;let r:=F.slot_list_getattribute.lookup;let t:=F.slot_list_getattribute.bind<|.ref a;let f5:=am_list_getattr_none;unfold getAttr? getAttrBy? getAttrBy;repeat(any_goals(first|assumption|let:=i _|((with_reducible show EA _ _ (call (Value.builtin "list.__getattribute__") _ _) _ _ _);let:=JZ F.slot_list_getattribute (i _) am_entry_list_getattribute (F.args_list_getattribute_2 _ _) (meets_getattribute_miss_list a xs n sl "keys" _ He<|by lk) ⟨j,l,λh' c e f=>?_⟩)|wp_step))
 let#[v,x,u]:=f.there;show EA _ _ (getattributeRaised _ _ _ _ _ _ _) _ _ _;unfold getattributeRaised;repeat(any_goals(first|assumption|wp_step))
 let:=h h' c f.of.keeps
def pW(prog:Et)(w:Ey)(h:EH)(b:Array Es)(Dl:List<|L2.Key×Es):(Prop):=`Dl=b.size/\∀(i:Nat)(v:Es),b[i]?=A0 v->∃(T:Er)(k:L2.Key)(key x:Es),v=.ref T/\h.IsTuple T #v[key,x]/\(L2.yx prog w).is k key=Eg/\Dl[i]?=A0 (k,x)
def pW.at{Dl:List<|L2.Key×Es}{b:EH}(p:pW prog w h Dm Dl)(e:∀T o,(∃xs,h.IsTuple T xs)->h.get? T=A0 o->b.get? T=A0 o):pW prog w b Dm Dl:=by let:=#[p.1,λi v hv=>?_];let#[T,k,key,x,f,c,hk,j]:=p.2 i v hv;let#[o,g,r]:=id c;let:=#[T,k,key,x,f,#[o,e T o #[_,c] g,r],hk,j]
def Ob{d I l:Er}{n:Array Es}{Dl:List<|L2.Key×Es}{G:Es}(hh:A.in1.handled=Ee)(Q:l≠I)(L:d≠I)(dl:d≠l)(hz:`Dl<=sizeLine):∀(m i:Nat)(s:Eu),n.size-i=m->i<=n.size->s.heap.IsListIter I l i/\s.heap.IsList l n->s.heap.DictOf (L2.yx prog w) d (merged []<|Dl.take i)->pW prog w s.heap n Dl->(∀h' tk,h'.DictOf (L2.yx prog w) d (merged [] Dl)->(∀b o,b≠d->b≠I->s.heap.get? b=A0 o->h'.get? b=A0 o)->R (.ok<|.ret G) {s with heap:=h',toks:=tk})->LP (EC prog w) A (.builtin "dict.update.loop" #[[.ref d,.ref I,La i,G],[]]) R s:=by let W:=Walks.list (prog:=prog) (w:=w) hh I l Q n;intro m;induction m with|zero=>intro i s hm hi st t J k;let ei:i=n.size:=⋯;subst ei;let:=Jg Ic ?_;rw[Lp qY _];let:=Zz<|W.done s _ _ st λh' tk kp=>?_;rw[JW<|J.1▸ZG _]at t;let:=Zz<|ZF<|ZF<|k h' tk (t.at λo e=>kp d o (by simp[L]) e) λb o r q e=>kp b o (by simp[q]) e|succ m ih=>
  intro i s hm hi st t J k;let E:i<n.size:=⋯;let:=Jg Ic ?_;rw[Lp qY _];show EA _ A.in1 (L6 (.ref I)>>=_) _ _ s;let:=Zz<|W.item i s _ _ E st λv h' tk hv H kp=>?_;let#[T,k1,key,x,rfl,X,hk,hx]:=J.2 i v hv;let TI:T≠I:=λz=>by let#[o,K,B,_]:=X;let#[Y,j,g,_]:=st.1;rw[z,j]at K;cases K;rw[g]at B;let:=absurd B ∅
  let N:=t.at λo e=>kp d o (by simp[L]) e;let#[#[oc,od,ab,ac],K,B,n1,D]:=id X;let c:=kp T _ (by simp[TI]) K;simp only at B D;subst B D;dsimp only;let:=Zz<|Ys<|Zz<|wpAny_tryCatch ?_;let ty:LW {s with heap:=h',toks:=tk} (.ref T) "tuple":=#[_,c,Ej];unfold Builtin.Dict.pairItems;let:=Zz<|J9 ty ?_;rw[Z4<|∅];let:=Zz ?_;unfold seqItems?;dsimp only;let:=Zz<|wpAny_load c<|ZF<|ZF ?_;dsimp only[Option.getD];let:=Ys ?_;unfold dictSet;let:=Ys<|Zz<|(L2.yx prog w).pyHash hk ?_;let ml:↑(merged ([]:List<|L2.Key×Es)<|Dl.take i)<=sizeLine:=by have:=merged_length_le ([]:List<|L2.Key×Es)<|Dl.take i;rw[Z8]at this;simp at this;lia
  let:=wpAny_dictSetHashed_pairs (hsz:=ml) hk N λh2 u p=>?_;rw[<-merged_take_succ [] Dl i (k1,x) hx]at u;let:=ZF #[VU qY _,?_];rw[show((i:Nat):Int)+1=((i+1:Nat):Int)by push_cast;rfl];let F:∀b o,b≠d->b≠I->s.heap.get? b=A0 o->h2.get? b=A0 o:=λb o r q e=>(p.2 b r).trans<|kp b o (by simp[q]) e;let:=ih (i+1) _ ⋯ E #[?_,?_] u (J.at λZ o ⟨xs,y⟩ e=>F Z o (λz=>?_) (λz=>?_) e) λh3 U P S=>k h3 U P λb o r q e=>S b o r q<|F b o r q e;.let:=H.1.at λo e=>(p.2 I L.symm).trans e
  .let:=H.2.at λo e=>(p.2 l dl.symm).trans e
  .let#[o1,c,f,_]:=y;let#[Y,_,_,j,g,_]:=t;rw[z,j]at c;cases c;rw[g.1]at f;let:=absurd f ∅
  .let#[o1,c,f,_]:=y;let#[Y,j,g,_]:=st.1;rw[z,j]at c;cases c;rw[g]at f;let:=absurd f ∅
def Iv{l:Er}{p:Array Es}{Dl:List<|L2.Key×Es}(z:A.handled=Ee)(hl:s.heap.get? l=A0 {cls:=.type "list",data:=.seq p n})(B:pW prog w s.heap p Dl)(D:`Dl<=sizeLine)(h:∀h' tk,h'.DictOf (L2.yx prog w) ⇑s (merged [] Dl)->(∀b o,s.heap.get? b=A0 o->h'.get? b=A0 o)->Q (.ref ⇑s) {s with heap:=h',toks:=tk}):EA (EC prog w) A (call (.type "dict") [.ref l]) Q E s:=by
 let:=callType_codes (Q₁:=λobj g=>obj=.ref ⇑s/\g={s with heap:=s.heap.push {cls:=.type "dict",data:=.dict #v[]}}) F.kt_called_dict (F.kt_typeCall_dict_1 _) F.entry_dict_init (kt_code_dict_new _ #[Ej,Ej]) ?_;rintro obj g ⟨rfl,rfl⟩;let c:(s.heap.push {cls:=.type "dict",data:=.dict #v[]}).DictOf (L2.yx prog w) ⇑s []:=Heap.DictOf.new s.heap;let t:=ZP hl;let i:(s.heap.push {cls:=.type "dict",data:=.dict #v[]}).get? l=A0 {cls:=.type "list",data:=.seq p n}:=ZE _ hl;let:=#[c.typeIs,F.args_dict_init_2 _ _,Zz<|Zz<|wpAny_notOrdered_dict c.typeIs<|ZF ?_];let y:LW {s with heap:=s.heap.push {cls:=.type "dict",data:=.dict #v[]}} (.ref l) "list":=#[_,i,Ej];let:=Zz<|J9 y ?_;rw[Z4<|∅];let:=Zz<|W6 i (by simp[z]) λh2 G f=>Zz<|JK ?_;let q:h2.IsList l p:=#[_,f l _ i,Ej,n,Ej];let j:⇑s<h2.objs.size:=by let#[o,_,_,e,_]:=c;let:=ZP<|f _ _ e
 let:=Zz<|J7 q<|ZF #[VU qY _,?_];let r:∀b o,s.heap.get? b=A0 o->(h2.push {cls:=.type "list_iterator",data:=.fields #v[.ref l,.int 0 0]}).get? b=A0 o:=λb o e=>ZE _<|f b o<|ZE _ e;let:=Ob (A:=A.in1) (l:=l) (Dl:=Dl) (by simp[z]) (ZU<|Nat.lt_trans t j) (ZU j) (JV t) D (p.size-0) 0 _ ⋯ (Yk _) #[#[_,ZL _ rfl,Ej,Ej],q.push _] ?_ (B.at λT o _ e=>r T o e) λh3 x u v=>?_;.rw[List.take_zero];let:=(c.at λo e=>f _ o e).push _
 .let:=#[Ej,h h3 x u λb o e=>v b o (ZU<|ZP e) (ZU<|Nat.lt_trans (ZP e) j)<|r b o e]
end AxS
namespace L2
open PySem PySem.Spec PyProof.Rows AxS
def vC(K:CK)(H:Hp)(xs:Di)(Dl:Dk):(Prop):=`xs=`Dl/\∀(i:Nat)(x:V),xs[i]?=A0 x->∃(T:Er)(k:Key)(v:V),x=.ref T/\yq K H T [kV k,v]/\Dl[i]?=A0 (k,v)
inductive zyD(K:CK)(xs:Di)(H:Hp)(Q:VK):Prop|mk(a:Er)(vs:Di)(Dl:Dk)(h0:xs=[.ref a])(h1:H a=A0 (.lst vs))(h2:vC K H vs Dl)(h3:∀l,H l=Ee->Q (.ref l) (upd H l<|.dK<|putAll [] Dl)):zyD K xs H Q
def IV{Dp:Dd}{s:Eu}(I:Inv X Dp σ H s):∀{vs:Di}{its:Da}{Dl:Dk},zb vs its->vC X.K H vs Dl->∃um:List<|Key×Es,KV Dl um/\`um=`its/\∀(i:Nat)(v:Es),its[i]?=A0 v->∃(T:Er)(k:Key)(key x:Es),v=.ref T/\s.heap.IsTuple T #v[key,x]/\(yx X.prog X.w).is k key=Eg/\um[i]?=A0 (k,x)|[],_,Dl,.nil,p=>by have:=YI p.1.symm;subst this;let:=#[[],.nil,Ej,λi v z=>nomatch z]|x::vs,u::its,Dl,.cons r1 r2,p=>by let#[T,k,y,rfl,l,hk]:=p.2 0 x rfl;cases Dl with|nil=>cases hk|cons kv Dl=>let ek:=dI hk;subst ek;let#[um,c,len,all]:=IV I r2 #[by have:=p.1;simpa using this,λi z o=>by let#[e,q,r,f,g,j]:=p.2 (i+1) z (by simpa using o);let:=#[e,q,r,f,g,by simpa using j]];cases r1;let#[t,b,n,_]:=I.tuple l;cases b with|cons q1 b=>cases b with|cons q2 b=>cases b;rename_i key val;let:=#[(k,val)::um,.cons #[Ej,q2] c,by simp_all[Yj],λi v hv=>?_];cases i with|zero=>cases hv;let:=#[T,k,key,val,Ej,n,v9 q1,Ej]|succ i=>let:=all i v<|by simpa using hv
def ND(j:X.calm=Eg)(g:X.K=K:=by rfl):xq X (.type "dict")<|zyD K:=by subst g;intro t s F H xs B Q I r h;let#[a,D,c,rfl,ha,pv,q]:=h;let#[u,rfl,o]:=wW r;cases o;let#[z,l,n,p,hl,e]:=I.lC ha;let#[A,b,len,all]:=IV I p pv;let x:=`Paired b;let:=Iv (I.ok.hd j) e #[Z7▸len,λi v hv=>all i v<|by simpa using hv] ⋯ λw y f kp=>?_;let E:=qZ c [];let:=#[.ref ⇑s,_,I.laid kp (ZG _)<|FV (by grind[Vu]) (JB.mpr<|EG<|ZU I.big) (KV.putAll .nil b) f,Ej,q _<|I.hok.fresh<|ZG _]
def xj.wX(r:xj k A):A.units+1<cLine:=by have:=r.un;lia
section
variable{d:Er}{ob:Obj}{tf:St->Hp->(Bool->Hp->Prop)->Prop}{Q:VK}{σ:St}{H:Hp}
def NG(c:Nat->Di->St->Hp->Prop)(l:c 0 [] (U9 src σ) H)(q:`Dl<=sizeLine)(hl:∀i ys σ H,i<=`Dl->c i ys σ H->H d=A0 (.frz ob<|.dK Dl)/\`ys<=i)(hs:∀i k v T ys σ H,Dl[i]?=A0 (k,v)->c i ys σ H->H T=Ee->g (.ref T) σ (upd H T<|.tup [kV k,v]) λσ2 H3=>tf σ2 H3 λb H4=>if b=Eg then te σ2 H4 λy H5=>c (i+1) (ys++[y]) σ2 H5 else c (i+1) ys σ2 H4)(hd:∀ys σ H,c `Dl ys σ H->∀p,H p=Ee->Q (.ref p) (upd H p<|.lst ys)):Xr src (io d Dl ob) g tf te Q σ H:=X7 _ c l q (λi ys σ H e p=>(hl i ys σ H e p).2) (λys σ H p=>#[(hl _ ys σ H (ZG _) p).1,Ej]) (λi ys σ H e p=>#[(hl i ys σ H (Y3 e) p).1,e]) (λi ys σ H e p x r y=>by let#[T,k,v,o,n,j,f]:=y;subst j f;let:=hs i k v T ys σ H o p n) hd
end
inductive zxA(y:V)(x:V)(H:Hp)(Q:VK):Prop|mk(a:_)(o:_)(h0:x=.ref a)(h1:wu H a y o)(h2:Q (.bl<|!o.isSome) H):zxA y x H Q
def aj(i:X.A.units+64<Ld):CW X (EZ .NotIn) zxA:=by intro f s l H y x v u Q I e c h;let#[a,o,rfl,g,q]:=h;cases c;let:=WL ⋯ I g e λj b=>#[.bl _,H,b,Ej,q]
end L2
namespace AnS
open PySem L2 An AnJ
def oD:(Option By->EB)|none=>.none|some ls=>yr ls
def rY(a b:Option By):EX (oD a) (oD b)=decide (a=b):=by cases a with
 |none=>cases b with|none=>rfl|some y=>rfl
 |some x=>cases b with|none=>rfl|some y=>show EX (yr x) (yr y)=_;simp[Km,YV,Z6,Option.some.injEq]
def okO(o:Option By):(Prop):=∀b,o=A0 b->qp b
def SQ(h:okO o):(oD o).canLay0=Eg/\(oD o).depth<=1:=by cases o with|none=>let:=#[Ej,Yk _]|some ls=>let:=SS<|h ls rfl
def wO(h:okO o):EU (oD o)=Eg:=tR (SQ h).1<|Yz (SQ h).2<|∅
def DS(H e:Hp):(Prop):=∀b o,H b=A0 o->(∀c,o≠.dK c)->e b=A0 o
def DS.of(e:zx H H'):DS H H':=λb o h _=>e b o h
def DS.trans(a:DS H H1)(b:DS H1 H2):DS H H2:=λc o h n=>b c o (a c o h n) n
def DS.upd{H:Hp}{d:Er}{Dl:Dk}(h:H d=A0 (.dK Dl)):DS H<|upd H d o:=λb u e n=>by rw[zH λz=>by rw[z,h]at e;let:=n Dl (dI e).symm];let:=e
def DS.sqT(e:DS H H')(h:yq K H a xs):yq K H' a xs:=by
 rcases h with(h|⟨o,h⟩)|h;.let:=.inl<|.inl<|e _ _ h λ_ z=>nomatch z
 .let:=.inl<|.inr #[o,e _ _ h λ_ z=>nomatch z]
 .let:=.inr h
def DS.sqL(e:DS H H')(h:yp K H a xs):yp K H' a xs:=by
 rcases h with(h|⟨o,h⟩)|h;.let:=.inl<|.inl<|e _ _ h λ_ z=>nomatch z
 .let:=.inl<|.inr #[o,e _ _ h λ_ z=>nomatch z]
 .let:=.inr h
mutual
theorem DS.dt{K:CK}(e:DS H H'):∀(d:EB)(v:V),Dt K H d v->Dt K H' d v|.none,_,h=>h|.bool _,_,h=>h|.int _,_,h=>h|.str _,_,h=>h|.list ds,_,⟨a,xs,h1,h2,h3⟩=>#[a,xs,h1,e.sqL h2,DS.dts e ds xs h3]|.tuple ds,_,⟨a,xs,h1,h2,h3⟩=>#[a,xs,h1,e.sqT h2,DS.dts e ds xs h3]|.dict _,_,h=>h
theorem DS.dts{K:CK}(e:DS H H'):∀(ds:De)(xs:Di),zu K H ds xs->zu K H' ds xs|[],_,h=>h|d::ds,_,⟨x,r,h1,h2,h3⟩=>#[x,r,h1,DS.dt e d x h2,DS.dts e ds r h3]end
structure zc(K:CK)(H:Hp)(Dl:Dk)(L:By)(g:Str->EB):Prop where
 keys:Dl.map (·.1)=L.map EE
 nd:L.Nodup
 val:∀p∈L,∃v,U0 Dl (.inr p)=A0 v/\Dt K H (g p) v
section
variable{H H':Hp}{more:Dk}{L M:By}{g:Str->EB}
def zc.nil:zc K H [] [] g:=#[Ej,YM,λ_ h=>nomatch h]
def zc.len(h:zc K H Dl L g):`Dl=`L:=by have:=congrArg List.length h.keys;simp_all
def zc.mono(h:zc K H Dl L g)(e:DS H H'):zc K H' Dl L g:=#[h.keys,h.nd,λp c=>let ⟨v,a,b⟩:=h.val p c;#[v,a,e.dt _ _ b]]
def zc.same(h:zc K H Dl L g)(e:zx H H'):zc K H' Dl L g:=h.mono<|.of e
def zc.zzJ{g':Str->EB}(h:zc K H Dl L g)(e:∀p∈L,g p=g' p):zc K H Dl L g':=#[h.keys,h.nd,λp c=>let ⟨v,a,b⟩:=h.val p c;#[v,a,e p c▸b]]
def zc.at(h:zc K H Dl L g){i:Nat}{kv:Key×V}(e:Dl[i]?=A0 kv):L[i]?=A0 (U6 kv)/\kv.1=.inr (U6 kv):=by have:=congrArg (λl=>l[i]?) h.keys;simp only[ZN,e,J6]at this;cases q:L[i]?with|none=>simp_all|some p=>simp_all[U6]
def zc.tH(h:zc K H Dl L g):RL Dl:=λkv hkv=>by let#[i,e]:=Jm.mp hkv;let:=(h.at e).2
def zc.pJ(h:zc K H Dl L g):Dl.map U6=L:=by let:=VC λi=>?_;rw[ZN];cases e:Dl[i]?with
 |none=>
  have:`L<=i:=by rw[<-h.len];simp_all
  simp_all|some kv=>rw[(h.at e).1];rfl
def zc.mem(h:zc K H Dl L g){p:Str}:(.inr p:Key)∈Dl.map (·.1)↔p∈L:=by rw[h.keys];simp
def zc.no(h:zc K H Dl L g){p:Str}(n:p∉L):U0 Dl (.inr p)=Ee:=by cases e:U0 Dl _ with|none=>rfl|some v=>let:=absurd (h.mem.mp<|qX e) n
def zc.isSome(h:zc K H Dl L g)(p:Str):(U0 Dl<|.inr p).isSome=decide (p∈L):=by
 by_cases z:p∈L;.let#[_]:=h.val p z;simp_all
 .rw[h.no z,ZZ z];rfl
def qj(L:By)(p:Str):(By):=if p∈L then L else L++[p]
def rW{q:Str}:q∈qj L p↔q∈L\/q=p:=by
 unfold qj;by_cases z:p∈L;.simp_all
 simp_all
def oO(p:Str):↑(qj L p)<=`L+1:=by unfold qj;split<;>simp_all
def zc.put(h:zc K H Dl L g)(p:Str){v:V}{d:EB}(hv:Dt K H d v):zc K H (yh Dl (.inr p) v) (qj L p) λq=>if q=p then d else g q:=by
 let:=#[?_,?_,λq hq=>?_]
 .unfold qj;by_cases z:p∈L;.rw[Z4 z];unfold yh;rw[Z4<|by rw[x9,h.isSome,ZK z],ZV,<-h.keys];let:=Yp λkv _=>?_;show(if kv.1=.inr p then(kv.1,v)else kv).1=kv.1;split<;>rfl
  .rw[ZX z,Gj v<|h.no z,ZM,ZM,h.keys];rfl
 .unfold qj;by_cases z:p∈L;.rw[Z4 z];let:=h.nd
  .rw[ZX z];let:=jN h.nd z
 .rw[Ny];by_cases e:q=p;.simp_all
  .let c:¬(.inr q:Key)=.inr p:=λz=>⋯;rw[ZX c];let#[w,a,b]:=h.val q<|(rW.mp hq).resolve_right e;let:=#[w,a,by simp_all]
def zc.nodup(h:zc K H Dl L g):(Dl.map (·.1)).Nodup:=h.keys▸ME _ ⋯ h.nd
def IM{κ:Type}[DecidableEq κ]:∀{Dl:List<|κ×V}{kv:κ×V},(Dl.map (·.1)).Nodup->kv∈Dl->U0 Dl kv.1=A0 kv.2
 |p::r,kv,nd,h=>by
  rw[Z9,YC]at nd;rcases ZJ.mp h with rfl|h;.let:=y7 rfl
  .rw[y9 λe=>nd.1<|e▸ZH.mpr #[kv,h,Ej]];let:=IM nd.2 h
def zc.pair(h:zc K H Dl L g){kv:Key×V}(hkv:kv∈Dl):kv.1=.inr (U6 kv)/\U6 kv∈L/\Dt K H (g<|U6 kv) kv.2:=by let e:=h.tH kv hkv;let hm:U6 kv∈L:=h.pJ▸ZH.mpr #[kv,hkv,Ej];let#[v,a,b]:=h.val _ hm;have:=IM h.nodup hkv;rw[e,a]at this;let:=#[e,hm,dI this▸b]
def nG{d:EB}:∀{more Dl:Dk}{L:By},zc K H Dl L (λ_=>d)->(∀kv∈more,kv.1=.inr (U6 kv)/\Dt K H d kv.2)->∃L',zc K H (putAll Dl more) L' (λ_=>d)/\∀p,p∈L'↔p∈L\/p∈more.map U6
 |[],Dl,L,h,_=>#[L,h,λp=>by simp]|kv::more,Dl,L,h,al=>by
  let#[e,hd]:=al kv<|ZD ..;let h1:=(h.put (U6 kv) hd).zzJ λp _=>by rw[ite_self]
  rw[<-e]at h1;let#[L',h2,m]:=nG h1 λx b=>al x<|ZB _ b;let:=#[L',h2,λp=>?_];rw[m,rW,Z9,ZJ,or_assoc]
def pD:∀(more acc:Dk),((acc++more).map (·.1)).Nodup->putAll acc more=acc++more
 |[],acc,_=>by rw[Yi];rfl|kv::more,acc,nd=>by
  let e:yh acc _ _=acc++[kv]:=Gj _<|by cases q:U0 acc _ with|none=>rfl|some v=>have:=qX q;rw[ZM]at nd;let:=absurd rfl<|(YS.mp nd).2.2 _ this _<|ZD ..
  show putAll (yh acc ..) _=_;rw[e,pD _ _<|by rwa[Y1],Y1];rfl
end
structure Files(K:CK)(H:Hp)(Dl:Dk)(L:By)(F:Str->Option By):Prop where
 is:zc K H Dl L<|λp=>oD<|F p
 mem:∀p,p∈L↔(F p).isSome=Eg
section
variable{H H':Hp}{L:By}{F:Str->Option By}
def Files.get(h:Files K H Dl L F)(p:Str):Dt K H (oD<|F p)<|(U0 Dl<|.inr p).getD .non:=by
 by_cases z:p∈L;.let#[v,e,d]:=h.is.val p z;rwa[e]
 .rw[h.is.no z];have:F p=Ee:=by cases q:F p with|none=>rfl|some x=>let:=absurd ((h.mem p).mpr<|by rw[q];rfl) z
  rw[this];rfl
def Files.mono(h:Files K H Dl L F)(e:DS H H'):Files K H' Dl L F:=#[h.is.mono e,h.mem]
def Files.same(h:Files K H Dl L F)(e:zx H H'):Files K H' Dl L F:=h.mono<|.of e
def Files.put(h:Files K H Dl L F)(p:Str){v:V}{ls:By}(hv:Dt K H (yr ls) v):Files K H (yh Dl (.inr p) v) (qj L p) λq=>if q=p then A0 ls else F q:=by
 let:=#[(h.is.put p hv).zzJ λq _=>?_,λq=>?_];.split<;>rfl
 .rw[rW,h.mem];by_cases z:q=p;.simp_all[Z4]
  simp_all
end
def Jq(b m y:Option By)(r:Option<|Option By):(Prop):=if m=y then r=A0 m else if m=b then r=A0 y else if y=b then r=A0 m else match b,m,y with|some b,A0 m,A0 y=>∃o,Jl b m y o/\r=o.map A0|_,_,_=>r=Ee
def jq(b m y:Option By):(Option<|Option<|Option By):=if m=y then A0<|A0 m else if m=b then A0<|A0 y else if y=b then A0<|A0 m else match b,m,y with|some _,A0 _,A0 _=>Ee|_,_,_=>A0 Ee
def Jq.of{y:Option By}{r:Option<|Option By}(h:jq b m y=A0 r):Jq b m y r:=by
 unfold jq at h;unfold Jq;split;.simp_all[Z4]
 next z1=>
 rw[ZX z1]at h;split;.simp_all[Z4]
 next z2=>
 rw[ZX z2]at h;split;.simp_all[Z4]
 next z3=>rw[ZX z3]at h;cases b<;>cases m<;>cases y<;>first|simp_all|cases h
def Jq.join{b m y:By}(n1:m≠y)(n2:m≠b)(n3:y≠b)(h:Jl b m y o):Jq (A0 b) (A0 m) (A0 y)<|o.map A0:=by unfold Jq;rw[ZX λz=>n1<|dI z,ZX λz=>n2<|dI z,ZX λz=>n3<|dI z];let:=#[o,h,Ej]
def zzZ{x:By}(h:yq K H q<|x.map V.str):Dt K H (yr x)<|.ref q:=#[q,_,Ej,h,zu.strs _]
def fj(K:CK)(H:Hp)(t:Er):(Option (Option By)->Prop)|none=>yq K H t [.str "clash",.non]|some o=>∃v,yq K H t [.str "stands",v]/\Dt K H (oD o) v
inductive zwE(K:CK)(vs:Di)(H:Hp)(Q:VK)(e3:XK):Prop|mk(vb vm vy:V)(b m y:Option By)(h0:vs=[vb,vm,vy])(h1:Dt K H (oD b) vb)(h2:Dt K H (oD m) vm)(h3:Dt K H (oD y) vy)(h4:okO b)(h5:okO m)(h6:okO y)(r:Option<|Option By)(h7:Jq b m y r)(h8:∀(t:Er)H',zx H H'->fj K H' t r->Q (.ref t) H'):zwE K vs H Q e3
def blB(L:By)(p:Str):(Bool):=L.any λq=>Xq q p||Xq p q
inductive zyQ(K:CK)(vs:Di)(H:Hp)(Q:VK)(e3:XK):Prop|mk(d:Er)(Dl:Dk)(L:By)(g:Str->EB)(h0:vs=[.ref d])(h1:H d=A0 (.dK Dl))(h2:zc K H Dl L g)(h3:∀p∈L,`p<=1000)(h4:`L<=100)(h5:∀(e:Er)(ke:Dk)(M:By)H',zx H H'->H e=Ee->H' e=A0 (.dK ke)->zc K H' ke M (λ_=>.bool Eg)->(∀p,p∈M↔p∈L/\blB L p=Eg)->Q (.ref e) H'):zyQ K vs H Q e3
abbrev Js:=Str->Option (Option By)
def stB(j:Js)(p:Str):(Bool):=match j p with|some<|A0 _=>Eg|_=>Ei
def ST(ss:By)(j:Js):(By):=ss.filter<|stB j
def LF(ss:By)(j:Js):(By):=(ST ss j).filter λp=>!blB (ST ss j) p
def LC(ss:By)(j:Js):(By):=ss.filter λp=>(j p).isNone||stB j p&&blB (ST ss j) p
def gF(j:Js)(p:Str):(PyData):=oD<|(j p).getD Ee
def sX(B M Y:Str->Option By)(p:Str):(PyData):=.tuple [.str p,oD<|B p,oD<|M p,oD<|Y p]
structure Uni(LB LM LY ss:By):Prop where
 sorted:ss.Pairwise HM
 nd:ss.Nodup
 mem:∀p,p∈ss↔p∈LB\/p∈LM\/p∈LY
def rP{l m:By}(h1:l.Pairwise HM)(h2:m.Pairwise HM)(n1:l.Nodup)(n2:m.Nodup)(e:∀p,p∈l↔p∈m):l=m:=Ve (λa b _ _=>GS) h1 h2<|(Jz n1 n2).mpr e
structure Three(K:CK)(H:Hp)(kb km ky:Dk)(LB LM LY:By)(B M Y:Str->Option By):Prop where
 fb:Files K H kb LB B
 fm:Files K H km LM M
 fy:Files K H ky LY Y
 len:`LB+`LM+`LY<60
 path:∀p,p∈LB\/p∈LM\/p∈LY->`p<=1000/\Ez p=Eg
 ok:∀p,okO (B p)/\okO (M p)/\okO (Y p)
def Three.mono(h:Three K H kb km ky LB LM LY B M Y)(e:DS H H'):Three K H' kb km ky LB LM LY B M Y:=#[h.fb.mono e,h.fm.mono e,h.fy.mono e,h.len,h.path,h.ok]
inductive pO(K:CK)(vs:Di)(H:Hp)(Q:VK)(e3:XK):Prop|mk(ab am ay:Er)(kb km ky:Dk)(LB LM LY:By)(B M Y:Str->Option By)(j:Js)(h0:vs=[.ref ab,.ref am,.ref ay])(h1:H ab=A0 (.dK kb))(h2:H am=A0 (.dK km))(h3:H ay=A0 (.dK ky))(h4:Three K H kb km ky LB LM LY B M Y)(h5:∀p,Jq (B p) (M p) (Y p)<|j p)(h7:∀(t:Er)(ss:By)H',zx H H'->Uni LB LM LY ss->∀(af ac:Er)(kf:Dk)(zs:Di),H af=Ee->H ac=Ee->H' t=A0 (.tup [.ref af,.ref ac])->H' af=A0 (.dK kf)->zc K H' kf (LF ss j) (gF j)->H' ac=A0 (.lst zs)->zu K H' ((LC ss j).map<|sX B M Y) zs->Q (.ref t) H'):pO K vs H Q e3
section
variable{H H':Hp}
def lJ{ss:By}{p:Str}{f:Str->Bool}(nd:ss.Nodup)(g:ss[i]?=A0 p)(h:f p=Eg):qj ((ss.take i).filter f) p=(ss.take<|i+1).filter f:=by
 let b:p∉(ss.take i).filter f:=λz=>by let#[k,hk,e]:=Ym.mp (YK.mp z).1;rw[UR]at e;let#[j,c]:=ZW.mp g;rw[Z8]at hk;have:=(JJ nd).mp<|e.trans c.symm;lia
 unfold qj;rw[ZX b,YE];simp_all
def pA{ss:By}{p:Str}{f:Str->Bool}(b:ss[i]?=A0 p)(h:f p=Ei):(ss.take i).filter f=(ss.take<|i+1).filter f:=by simp_all[YE]
def zc.filter{g:Str->EB}(h:zc K H Dl L g)(f:Str->Bool):zc K H (Dl.filter λkv=>f<|U6 kv) (L.filter f) g:=by
 let e:(Dl.filter λkv=>f<|U6 kv).map (·.1)=(L.filter f).map Sum.inr:=by rw[<-h.pJ,List.filter_map,ZV];let:=Yp λkv hkv=>h.tH kv<|by simp_all
 let:=#[e,h.nd.filter _,λp c=>?_];let#[c,j]:=YK.mp c;let#[v,a,b]:=h.val p c;let:=#[v,?_,b];let#[kv,hkv,ek]:=ZH.mp<|qX a;let l:=IM h.nodup hkv;let hk:U6 kv=p:=by unfold U6;rw[ek]
 let i:((Dl.filter λkv=>f<|U6 kv).map (·.1)).Nodup:=e▸ME _ (by simp_all) (h.nd.filter _);have:=IM i<|YK.mpr #[hkv,hk▸j];simp_all
def qu(h:vC K H xs Dl)(e:zx H H'):vC K H' xs Dl:=#[h.1,λi x f=>let ⟨T,k,v,a,b,c⟩:=h.2 i x f;#[T,k,v,a,e.yr b,c]]
def zzR{v:V}(h:vC K H xs Dl)(g:yq K H T [kV k,v]):vC K H (xs++[.ref T])<|Dl++[(k,v)]:=by
 let:=#[by rw[ZS,ZS,h.1];rfl,λi x e=>?_];by_cases z:i<`xs;.rw[Yr z]at e;let#[T,k,v,a,b,c]:=h.2 i x e;let:=#[T,k,v,a,b,(Yr<|h.1▸z)▸c]
 .rw[Yy<|⋯]at e;let f:i-`xs=0:=by
   rcases J1<|i-`xs with q|q;.let:=q
   .rw[VM.mpr<|by show 1<=_;lia]at e;cases e
  rw[f]at e;cases e;let:=#[T,k,v,Ej,g,by rw[Yy<|by rw[<-h.1];lia,<-h.1,f];rfl]
def zz2:vC K H [] []:=#[Ej,λi x b=>nomatch b]
def zx5{e f g b c ss:By}(i:AxS.Both e f b)(j:AxS.Both b g c)(pm:ss.Perm c)(so:PyProof.Rows.sortedS ss=Eg)(nb:e.Nodup)(nm:f.Nodup)(l:g.Nodup):Uni e f g ss:=#[qD so,pm.nodup_iff.mpr<|j.nd (i.nd nb nm) l,λp=>by rw[pm.mem_iff,j.mem,i.mem,or_assoc]]
def Uni.len{e f g b c ss:By}(i:AxS.Both e f b)(j:AxS.Both b g c)(pm:ss.Perm c):`ss<=`e+`f+`g:=by have:=i.len;have:=j.len;rw[pm.length_eq];lia
def m6{ss:By}(h:ss.Pairwise HM)(nd:ss.Nodup):(LC ss j).Pairwise HM/\(LC ss j).Nodup:=#[h.filter _,nd.filter _]
def zzK{p:Str}:p∈LC ss j↔p∈ss.filter (λp=>(j p).isNone)\/p∈ST ss j/\blB (ST ss j) p=Eg:=by
 unfold LC ST;rw[YK,YK,YK];constructor;.simp_all
 .rintro(⟨h⟩|⟨b⟩)<;>simp_all
def zzQ{p:Str}(h:p∈ST ss j):p∈ss:=(YK.mp h).1
def zw3{M:By}(h:∀p,p∈M↔p∈ST ss j/\blB (ST ss j) p=Eg):(ST ss j).filter (λp=>decide<|p∉M)=LF ss j:=by let:=List.filter_congr λp b=>?_;simp_all
end
def len_sub{l m:List PySem.Str}(n1:l.Nodup)(n2:m.Nodup)(h:∀p∈l,p∈m):`l<=`m:=by
 have:=(Jz n1<|n2.filter<|λp=>decide<|p∈l).mpr λp=>by simp_all
 rw[this.length_eq];let:=J2 ..
end AnS
namespace An
open PySem L2
inductive Rch(par:Str->By)(rs:By):Str->Prop|root{x:Str}:x∈rs->Rch par rs x|step{x y:Str}:Rch par rs x->y∈par x->Rch par rs y
def U8(S:Dh)(x:Str):(Bool):=z7 S x ["note"]
def W7(th:∀e∈S,Fn e)(h:U8 S x=Eg):∃e∈S,e.nm=x/\∃t ps y,e.d=(Th.note t ps y).dat:=by unfold U8 z7 at h;rw[YH]at h;let#[e,c,h]:=h;rw[ZQ,Z6,Z6]at h;let#[t,f,_]:=th e c;let:=#[e,c,h.1,?_];let b:=h.2;rw[jR f]at b;cases t with|note t ps y=>let:=#[t,ps,y,f]|leaf ls=>let:=absurd (show("leaf":Str)∈(["note"]:By)from b)<|by trivial|tree rs=>let:=absurd (show("tree":Str)∈(["note"]:By)from b)<|by trivial
def W8{e:En}(b:e∈S){t:Str}(hd:e.d=(Th.note t ps y).dat):U8 S e.nm=Eg:=by unfold U8 z7;rw[YH];let:=#[e,b,?_];rw[ZQ,Z6,Z6,jR hd];let:=#[Ej,ZC.mpr rfl]
def fN(S:Dh):(EB->Str->Bool)|.str x,f=>z7 S x [f]|_,_=>Ei
def oV:(Option Str->V)|none=>.non|some n=>.str n
def jl:(Option Str->EB)|none=>.none|some n=>.str n
open AnJ
def Pd{a t:By}(ha:a≠[])(b:t≠[]):CL (a++t)=CL a++"/"++CL t:=wR<|by
 let e:cs "/"=[47]:=by rfl
 simp_all[CL,uU,NS,zf]
def K9(B:By)(l:Str)(b:B≠[]):CL B++"/"++l=CL (B++[l]):=by rw[Pd b<|Y0 _ _,MZ]
def yw.one(g:yw n fs){f k:Fi}(b:f∈fs)(hk:k∈fs)(e:f.1=k.1):f=k:=by
 let#[i,c,rfl]:=Ym.mp b;let#[j,l,rfl]:=Ym.mp hk;have:=(JJ (h₀:=by simpa using c) (h₁:=by simpa using l) g.nd).mp<|by simp_all
 simp_all
def ii{fs:Dj}(g:∀f∈fs,f.1.length<=n):wt fs<=n*`fs:=by unfold wt;induction fs with|nil=>let:=Yk _|cons f fs ih=>let h1:=g f<|ZD ..;let h2:=ih λk hk=>g k<|ZB _ hk;rw[Z9,Vd,Yj,Nat.mul_succ];lia
def yw.wt{n:Nat}(g:yw n fs):wt fs<=n*`fs:=ii λf b=>(g.wg f b).2.1
section
variable{H:Hp}{fs:Dj}
def yj.nd(h:yj K H fs Dl)(g:yw n fs):(Dl.map (·.1)).Nodup:=by rw[h.keys];have:=g.nd;rw[Ya,YR]at this ⊢;let:=this.imp_of_mem λ{a b}ha hb ne q=>ne<|uJ (d:=0) (g.wg a ha).1 (g.wg b hb).1 (g.wg a ha).2.2.1 (g.wg b hb).2.2.1<|dV q
def yj.at{n:Nat}(h:yj K H fs Dl)(g:yw n fs){f:Fi}(o:f∈fs):∃v,U0 Dl (.inr<|CL f.1)=A0 v/\Dt K H (yr f.2) v/\wM f.2:=by let#[i,c,rfl]:=Ym.mp o;let hk:=h.len▸c;let#[p,b,e,j,l]:=h.get (k:=Dl[i].1) (v:=Dl[i].2)<|ZO hk;rw[ZO c]at b;cases b;let:=#[_,vZ (h.nd g) ?_,j,l];rw[<-e];let:=Y8 hk
end
def Tree.zz8{S:Dh}(g:wU S):∀{d:Nat}{x y:Str},Tree d S x->y∈met d S x->y∈S.map En.nm
 |0,_,_,h,_=>absurd h<|λz=>z|d+1,x,y,h,m=>by
  rcases id h with⟨ls,a⟩|⟨Do,a,so,hr⟩;.rw[vI g a]at m;rw[ZC.mp m];let:=h.mem
  .rw[uD g a]at m;rcases ZJ.mp m with z|z;.rw[z];let:=h.mem
   .let#[r,b,hm]:=YZ.mp z;let:=Tree.zz8 g (hr r b).2.1 hm
section
variable{d:Nat}{fs:Dj}{q q2:List En×Str}
def aS{l:Dj}(h:l.Pairwise λf h=>Fc (CL f.1)<|CL h.1):l.Nodup:=Ya.mpr<|h.imp λ{a b}z(q:a=b)=>O1 z<|by rw[q]
end
def Nk{α:Type}[DecidableEq α]:∀{a b:List α},a.Nodup->(∀x∈a,x∈b)->`b<=`a->∀x∈b,x∈a
 |[],b,_,_,l,x,hx=>by simp_all|y::a,b,nd,h,l,x,hx=>by
  let e:=h y<|ZD ..;let nd:=YC.mp nd;by_cases z:x=y;.rw[z];let:=ZD ..
  .let:=ZB _<|Nk nd.2 (λu c=>?_) ?_ x<|(List.mem_erase_of_ne z).mpr hx;.let:=(List.mem_erase_of_ne<|λq=>nd.1<|by simp_all).mpr<|h u<|ZB _ c
   grind
section
variable{H:Hp}{fs rs:Dj}{ka kb:Dk}{m:Nat}
def yj.tail{f:Fi}{kv:Key×V}(h:yj K H (f::fs)<|kv::ka):yj K H fs ka:=#[List.tail_eq_of_cons_eq h.keys,λi f kv a b=>h.val (i+1) f kv a b]
def FZ(hb:yj K H fs kb)(j:yw n fs):∀{rs:Dj}{ka:Dk},yj K H rs ka->(∀f∈rs,f.1≠[]/\∀l∈f.1,zV l=Eg)->nJ K H kb ka (decide<|∀f∈rs,f∈fs)
 |[],[],_,_=>.nil|[],_::_,h,_=>by cases h.keys|_::_,[],h,_=>by cases h.keys|f::rs,(k,v)::ka,h,ho=>by
  let E:=FZ hb j h.tail λk hk=>ho k<|ZB _ hk;let#[L,o,x,u,F]:=h.get (i:=0) rfl;let o:=dI o;subst o x;let#[A,B]:=ho f<|ZD ..;let sh:∀{t:By},wM t->EU _=Eg:=λ{t}h=>(xM λp D=>(GH<|h.2 p D).ok).2;by_cases z:f.1∈fs.map (·.1)
  .let#[g,b,c]:=ZH.mp z;let#[y,s,w,G]:=hb.at j b;rw[c]at s;let e:decide (∀k∈f::rs,k∈fs)=(EX (yr f.2) (yr g.2)&&decide (∀k∈rs,k∈fs)):=by
    rw[Km,YV,ZQ,Z6,Z6,Z6,List.forall_mem_cons];let:=and_congr_left λ_=>#[λr=>?_,λr=>?_];.rw[j.one r b c.symm]
    .have:=Mf c.symm r;rwa[this]
   rw[e];let:=.hit s u w (sh F) (sh G) E
  .let J:U0 kb (.inr<|CL f.1)=Ee:=by cases q:U0 kb _ with|none=>rfl|some y=>exfalso;have:=qX q;rw[hb.keys]at this;let#[g,b,c]:=ZH.mp this;let:=z<|ZH.mpr #[g,b,uJ (d:=0) (j.wg g b).1 A (j.wg g b).2.2.1 B<|dV c]
   rw[ZZ<|λq=>z<|ZH.mpr #[f,q f<|ZD ..,Ej]];let:=.miss J
def Kj(ha:yj K H rs ka)(hb:yj K H fs kb)(b:yw n fs)(ga:rs.Nodup):(`ka==`kb&&decide (∀f∈rs,f∈fs))=Eg↔∀f,f∈rs↔f∈fs:=by
 rw[ZQ,Vc,Z6,ha.len,hb.len];constructor;.rintro⟨l,h⟩ f;let:=#[h f,Nk ga h ⋯ f]
 .intro h;let:=#[((Jz ga<|qQ b.nd).mpr h).length_eq,λf c=>(h f).mp c]
end
inductive zyP(S:Dh):Df->By->Str->Prop|here{Do:Df}{l n:Str}{ls:By}:(l,n)∈Do->zyP S Do (l::ls) n|down{Do rs:Df}{l n x:Str}{ls:By}:(l,n)∈Do->At S n (.tree rs)->zyP S rs ls x->zyP S Do (l::ls) x
def iA(fs:Dj)(p:By):(Option By):=(fs.find? λf=>decide<|f.1=p).map (·.2)
def W0(g:yw n fs){p L:By}:iA fs p=A0 L↔(p,L)∈fs:=by
 unfold iA;constructor;.intro h;let#[f,b,e]:=Z2.mp h;let h1:=Vv b;let h2:=Ji b;let h1:=ZT h1;rwa[<-h1,<-e]
 .intro h;cases q:fs.find? λf=>decide<|f.1=p with|none=>let:=absurd (ZK rfl)<|List.find?_eq_none.mp q _ h|some f=>let h1:=ZT<|Vv (p:=λf=>decide _) q;rw[g.one (Ji q) h h1];rfl
def Bu{B p:By}(c:B≠[])(j:p≠[])(o:∀l∈B,zV l=Eg)(f:∀l∈p,zV l=Eg):Xq (CL B) (CL p)=Eg↔∃q,q≠[]/\p=B++q:=by
 constructor
 .intro h;let h:=sH.mpr h;unfold Xp at h;rw[ZH]at h;let#[i,b,e]:=h;let g:U5 (CL p)=p:=jL j λy n=>xP<|f y n;rw[g]at e b;let b:=YQ.mp b;let ne:p.take (i+1)≠[]:=λz=>by simp_all
  have:=uJ (d:=0) ne c (λl hl=>f l<|JO hl) o e;let:=#[_,λz=>?_,by rw[<-this,Jk]];have:=congrArg List.length z;rw[Vk]at this;have:`p-(i+1)=0:=this;lia
 .rintro⟨q,hq,rfl⟩;rw[Pd c hq];let:=Ty ..
open AnS
def XD(ls:By):(Prop):=ls≠[]/\`ls<=4/\∀l∈ls,zV l=Eg
def yw.lb(g:yw 4 fs){f:Fi}(b:f∈fs):XD f.1:=#[(g.wg f b).1,(g.wg f b).2.1,(g.wg f b).2.2.1]
def Ha(b:XD p)(hq:XD q)(e:CL p=CL q):p=q:=uJ (d:=0) b.1 hq.1 b.2.2 hq.2.2 e
abbrev FF:=Str->Option By
def FOk(F:FF):(Prop):=∀p l,F p=A0 l->wM l/\∃b,XD b/\p=CL b
def cT(h:wM L):AnJ.qp L:=λl hl=>(GH<|h.2 l hl).ok
def FOk.ok(h:FOk F)(p:Str):okO<|F p:=λl e=>cT (h p l e).1
def Ff(fs:Dj):(FF):=λs=>(fs.find? λf=>decide<|CL f.1=s).map (·.2)
section
variable{H H':Hp}{fs:Dj}{L:By}{F:FF}
def IL{s:Str}{l:By}(h:Ff fs s=A0 l):∃f∈fs,CL f.1=s/\f.2=l:=by let#[f,b,e]:=Z2.mp h;let:=#[f,Ji b,ZT<|Vv (p:=λf:Fi=>decide<|CL f.1=s) b,e]
def eZ(g:yw 4 fs){p:By}(c:XD p):Ff fs (CL p)=iA fs p:=by
 unfold Ff iA;congr 1;have:∀{l:Dj},(∀f∈l,XD f.1)->l.find? λf=>decide<|CL f.1=CL p=l.find? λf=>decide<|f.1=p:=λ{l}=>by induction l with|nil=>intro _;rfl|cons f l ih=>
   intro h;rw[JD,JD,ih λk hk=>h k<|ZB _ hk];have:decide (CL f.1=CL p)=decide (f.1=p):=by rw[Jr];let:=#[Ha (h f ZD) c,λe=>by rw[e]]
   rw[this]
 let:=this λf b=>g.lb b
def BD(g:yw 4 fs){f:Fi}(b:f∈fs):Ff fs (CL f.1)=A0 f.2:=(eZ g<|g.lb b)▸(W0 g).mpr b
def fc(g:yw 4 fs):FOk<|Ff fs:=λp l h=>by let#[f,b,c,e]:=IL h;rw[<-c,<-e];let:=#[(g.wg f b).2.2.2,f.1,g.lb b,Ej]
def Kv(h:yj K H fs Dl)(g:yw 4 fs):Files K H Dl (fs.map λf=>CL f.1)<|Ff fs:=by
 let:=#[#[by rw[h.keys,ZV];rfl,?_,λp i=>?_],λp=>#[λi=>?_,λi=>?_]];.have:=h.nd g;rw[h.keys,show(fs.map λf=>(.inr _:Key))=(fs.map λf=>CL f.1).map _ by rw[ZV];rfl]at this;let:=Ya.mpr<|(YR.mp<|Ya.mp this).imp λ{a b}n e=>n<|by rw[e]
 .let#[f,c,rfl]:=ZH.mp i;let#[v,a,b,_]:=h.at g c;let:=#[v,a,?_];rwa[BD g c]
 .let#[f,c,rfl]:=ZH.mp i;rw[BD g c];rfl
 .let#[l,hl]:=Yx.mp i;let#[f,c,e,_]:=IL hl;let:=ZH.mpr #[f,c,e]
end
end An
variable{F:An.FF}
namespace An
open PySem L2 AnS
def TY:∀{p:By},(∀l∈p,zV l=Eg)->Ez (CL p)=Eg
 |[],_=>by lk|[l],h=>(kZ<|h l ZD).ok|l::m::p,h=>by
  rw[yT,qG l<|Y0 m p];let h1:=(yT l).mp (kZ<|h l ZD).ok;let h2:=(yT _).mp<|TY λx e=>h x<|ZB _ e;intro c b;rcases ZY.mp b with z|z;.let:=h1 c z
  .rcases ZJ.mp z with z|z;.simp_all
   .let:=h2 c z
def SU(h:XD ls):Ez (CL ls)=Eg:=TY h.2.2
end An
namespace PySem.SeqAt
open MeetsSeq PyProof.Rows
end PySem.SeqAt
namespace L2
open PySem PySem.Spec PyProof.Rows
def au{f:Str}(c:PE X e ta)(hb:Lx e f X.env (E8 e X.env)=E8 e X.env)(b:X.K=K:=by rfl):PE X (.Attribute e f pos)<|gZ K ta f:=by subst b;let:=yE c hb
def TH{p:Pos}(M:Mak X.prog X.w X.K X.mg X.dX C k x ps sp)(e:xj (k+1) X.A)(c:Gl X x:=by rfl)(b:(x==("__debug__":Str))=Ei:=by decide):PE X (.Call (.Name x p) [] [] pos)<|Ps C sp [] E0 XG:=by let#[f,i,F,hm,hb,g]:=M.ex;let:=TJ hm F e c g hb .nil K4 b
end L2
namespace AnC
open PySem L2 An AnJ AnS
def tails:(By):=(EK 8).flatMap λi=>([0,1,2]:List Int).map λk=>(#[#v[97+i]]:Str)++Mp k
def cU(t:Str)(l:By):(By):=l.map (·++t)
def U7(t:Str):(By):=cU t ["one","two","six"]
def Xm(t:Str):(By):=cU t ["my"]
def Xy(t:Str):(By):=cU t ["my","two","six"]
def Gm(t:Str):(By):=cU t ["one","two","your"]
def HX(t:Str):(By):=cU t ["my","two","your"]
def Oa(t:Str):(By):=cU t ["your","two","six"]
def iF(t:Str):(By):=cU t ["your"]
structure Sd where
 b:Option By
 m:Option By
 y:Option By
 d:Option<|Option By
deriving DecidableEq
def Sd.turn(s:Sd):(Sd):=#[s.b,s.y,s.m,s.d]
def nine(t:Str):(List Sd):=[#[A0<|U7 t,A0<|U7 t,A0<|U7 t,A0<|some<|U7 t],#[A0<|U7 t,A0<|Xm t,A0<|U7 t,A0<|some<|Xm t],#[A0<|U7 t,A0<|Xm t,A0<|Xm t,A0<|some<|Xm t],#[A0<|U7 t,A0<|Xy t,A0<|Gm t,A0<|some<|HX t],#[A0<|U7 t,Ee,A0<|U7 t,A0 Ee],#[Ee,A0<|Xm t,Ee,A0<|some<|Xm t],#[A0<|U7 t,A0<|Xy t,A0<|Oa t,Ee],#[Ee,A0<|Xm t,A0<|iF t,Ee],#[A0<|U7 t,Ee,A0<|Gm t,Ee]]
def WE(t:Str):(List By):=[U7 t,Xm t,Xy t,Gm t,HX t,Oa t,iF t]
def cS:∀t∈tails,∀a∈WE t,`a<=3/\∀x∈a,U4 x=Eg:=by lk
def cI:∀t∈tails,∀s∈nine t,∀o∈[s.b,s.m,s.y,s.d.getD Ee],∀a,o=A0 a->a∈WE t:=by intro t _ s f o c a e;simp only[nine,ZJ,Yd,YY]at f;rcases f with rfl|rfl|rfl|rfl|rfl|rfl|rfl|rfl|rfl<;>(simp only[ZJ,Yd,YY,Option.getD]at c;rcases c with rfl|rfl|rfl|rfl<;>(cases e<;>simp[WE]))
def LT(t:Str)(n:Nat):(Str):=(["my","one","six","two","your"]:By).getD n ""++t
instance(L:Nat->Str):Decidable<|Ev.wM L:=by unfold Ev.wM;infer_instance
def gq:∀t∈tails,Ev.wM<|LT t:=by lk
def runs:jn [1,3,2] [0,3,2] [1,3,4]=A0 (A0 [0,3,4])/\jn [1,3,2] [1,3,4] [0,3,2]=A0 (A0 [0,3,4])/\jn [1,3,2] [0,3,4] [1,3,4]=A0 (A0 [0,3,4])/\jn [1,3,2] [0,3,4] [0,3,2]=A0 (A0 [0,3,4])/\jn [1,3,2] [0,3,2] [4,3,2]=A0 Ee/\jn [1,3,2] [4,3,2] [0,3,2]=A0 Ee:=by lk
def BT{t:Str}(c:t∈tails){b m y:List Nat}{o:Option<|List Nat}(h:jn b m y=A0 o)(k:∀x∈b++m++y,x<5):Jl (b.map<|LT t) (m.map<|LT t) (y.map<|LT t)<|o.map<|List.map<|LT t:=#[_,b,m,y,o,gq t c,k,Ej,Ej,Ej,h,Ej]
def nes:∀t∈tails,Xy t≠Gm t/\Xy t≠U7 t/\Gm t≠U7 t/\Xy t≠Oa t/\Oa t≠U7 t/\HX t≠Gm t/\HX t≠Xy t/\HX t≠U7 t:=by lk
def zvN:∀t∈tails,∀s∈nine t,s.m=A0 (Xy t)\/jq s.b s.m s.y=A0 s.d/\jq s.b s.y s.m=A0 s.d/\s.d.all λo=>decide<|jq s.b o s.y=A0 (A0 o)/\jq s.b o s.m=A0 (A0 o)=Eg:=by lk
def gw:∀t∈tails,∀s∈nine t,s.m=A0 (Xy t)->s=#[A0<|U7 t,A0<|Xy t,A0<|Gm t,A0<|some<|HX t]\/s=#[A0<|U7 t,A0<|Xy t,A0<|Oa t,Ee]:=by lk
def Sd.det{t:Str}(c:t∈tails){s:Sd}(hs:s∈nine t):Jq s.b s.m s.y s.d/\Jq s.b s.y s.m s.d/\∀o,s.d=A0 o->Jq s.b o s.y (A0 o)/\Jq s.b o s.m (A0 o):=by
 rcases zvN t c s hs with h|⟨h1,h2,h3⟩
 .let#[i,e,g,j,l,p,q,n]:=nes t c;let#[r,u,v,w,x,z]:=runs;rcases gw t c s hs h with rfl|rfl;.let:=#[Jq.join i e g<|BT c r<|∅,Jq.join i.symm g e<|BT c u<|∅,λo f=>?_];cases f;let:=#[Jq.join p n g<|BT c v<|∅,Jq.join q n e<|BT c w<|∅]
  .let:=#[Jq.join j e l<|BT c x<|∅,Jq.join j.symm l e<|BT c z<|∅,λo f=>by cases f]
 .let:=#[.of h1,.of h2,λo f=>?_];rw[f]at h3;let h3:=ZT<|h3;let:=#[.of h3.1,.of h3.2]
end AnC
namespace An25
open PySem L2 An
seal L2.PS L2.pB L2.PE L2.PT L2.PW L2.PA L2.PG L2.PGs L2.PI L2.PFi L2.PC
abbrev yd0(K)(x)(st)(f)(fd):=yd K x x st f fd
def top(i:Nat):(Stmt):=PySem.Challenge.pw_annals_k25_one_carried.main.body.getD i<|.Pass #[0,0,0,0]
def kinds:(List String):=["NoneType","bool","int","str","list","tuple","dict"]
def zR{v:V}{b:St}{H:Hp}{Q:St->Hp->Prop}(h:Q (b.set i<|A0 v) H):Xh i v b H Q:=h
def hid{B:Prop}(k:∀G:Prop,(B->G)->G):B:=k B id
def dW{t u:TS}{D:Ends}{b:St}{H:Hp}(h:∀N:St->Hp->Prop,(∀b H,u D b H->N b H)->t {D with nx:=N} b H):No t u D b H:=h _ λ_ _ z=>z
def nS{b:St}{H:Hp}{M:St->Hp->Prop}(m:∀b H,No t u D b H->M b H)(h:∀N:St->Hp->Prop,(∀b H,u D b H->N b H)->t {D with nx:=N} b H):M b H:=m _ _<|h _ λ_ _ z=>z
def jW:(Dk):=[(EE "leaf",.str "L"),(EE "tree",.str "T"),(EE "note",.str "N")]
def NW(t:Th):U0 jW (EE t.word:Key)=A0 (.str t.letter):=by
 cases t;.rfl
 .rfl
 rfl
section
variable{H:Hp}
def Hc{ls:By}{v:V}(h:Dt K H (Th.leaf ls).dat v):∃a b,v=.ref a/\yq K H a [.str "leaf",.ref b]/\yq K H b (ls.map V.str):=by let#[a,xs,rfl,f,x0,i,rfl,c,l,j,rfl,#[b,n,rfl,hb,g],e]:=h;subst c e;rw[zu.tu g]at hb;let:=#[a,b,Ej,f,hb]
def HF{c:Df}{v:V}(h:Dt K H (Th.tree c).dat v):∃a b,v=.ref a/\yq K H a [.str "tree",.ref b]/\Dt K H (.tuple<|c.map yt) (.ref b):=by let#[a,xs,rfl,g,x0,l,rfl,e,o,n,rfl,#[b,j,rfl,hb,i],f]:=h;subst e f;let:=#[a,b,Ej,g,b,j,Ej,hb,i]
def uP{t:Str}{w:Str}{v:V}(h:Dt K H (Th.note t ps w).dat v):∃a b,v=.ref a/\yq K H a [.str "note",.str t,.ref b,.str w]/\yq K H b (ps.map V.str):=by let#[a,xs,rfl,i,x0,l,rfl,c,q,n,rfl,e,r,o,rfl,#[b,u,rfl,hb,j],s,p,rfl,f,g]:=h;subst c e f g;rw[zu.tu j]at hb;let:=#[a,b,Ej,i,hb]
def uA{t:Th}(h:Dt K H t.dat v):∃a r,v=.ref a/\yq K H a (.str t.word::r):=by cases t with|leaf ls=>let#[a,b,e,h1,_]:=Hc h;let:=#[a,_,e,h1]|tree rs=>let#[a,b,e,h1,_]:=HF h;let:=#[a,_,e,h1]|note t ps w=>let#[a,b,e,h1,_]:=uP h;let:=#[a,_,e,h1]
def dR(h:Dt K H (yt r) v):∃a,v=.ref a/\yq K H a [.str r.1,.str r.2]:=by let#[a,xs,rfl,f,x0,g,rfl,b,j,i,rfl,c,e]:=h;subst b c e;let:=#[a,Ej,f]
def M9{c:Df}{x:V}(h:zu K H (c.map yt) xs)(e:xs[i]?=A0 x):∃r a,c[i]?=A0 r/\x=.ref a/\yq K H a [.str r.1,.str r.2]:=by let#[d,b,f]:=h.get e;rw[ZN]at b;cases q:c[i]?with|none=>simp_all|some r=>rw[q]at b;let b:=dI b;subst b;let#[a,g,j]:=dR f;let:=#[r,a,Ej,g,j]
end
def IY(K:CK):(Sp):=λb H Q _=>∃v t,b=[v]/\Dt K H (Th.dat t) v/\Q (.str t.letter) H
def Ip(K:CK):(Sp):=λc H Q _=>∃v b,c=[v]/\Dt K H (.tuple<|b.map yt) v/\`b<=1000/\∀l,H l=Ee->Q (.ref l) (upd H l<|.lst<|(yB b).map V.str)
def Pp(K:CK):(Sp):=λc H Q _=>∃v t,c=[v]/\Dt K H (Th.dat t) v/\t.Good/\∀l b,zx H b->H l=Ee->b l=A0 (.lst<|t.parts.map V.str)->Q (.ref l) b
def BI:(Sp):=λb H Q _=>∃x,b=[.str x]/\`x<=1000/\Q (.str<|counted x) H
def BQ(K:CK):(Sp):=λc H Q _=>∃v t,c=[v]/\Dt K H (Th.dat t) v/\t.Good/\∀b,zx H b->Q (.str t.sp) b
def Nh(K:CK):(Sp):=λc H Q _=>∃v t,c=[v]/\Dt K H (Th.dat t) v/\t.Good/\∀b,zx H b->Q (.int<|dg t.sp) b
structure Txt(P:Et)(w:Ey)(K:CK)(mg:Str->Db)(t1 t2 t3 t4 t5 t6 t7 t8 t9:Tok)(aL aC aN aT aA b1 b2 b3 b4 b5 b6 b7 b8 aD:Er):Prop where
 len:mg "len"=Ee
 all:mg "all"=Ee
 ord:mg "ord"=Ee
 isinstance:mg "isinstance"=Ee
 str:mg "str"=Ee
 set:mg "set"=Ee
 sorted:mg "sorted"=Ee
 tuple:mg "tuple"=Ee
 list:mg "list"=Ee
 max:mg "max"=Ee
 int:mg "int"=Ee
 bool:mg "bool"=Ee
 range:mg "range"=Ee
 dict:mg "dict"=Ee
 any:mg "any"=Ee
 reversed:mg "reversed"=Ee
 ValueError:mg "ValueError"=Ee
 lV:mg "LONGEST_LINE"=A0 (.int 20 t1)nO:mg "LONGEST_LABEL"=A0 (.int 8 t2)mZ:mg "MOST_PARENTS"=A0 (.int 2 t3)PERCENT:mg "PERCENT"=A0 (.int 37 t4)kj:mg "MOST_LABELS"=A0 (.int 4 t7)nM:mg "DIGEST_FACTOR"=A0 (.int 31 t5)lZ:mg "DIGEST_BOUND"=A0 (.int 97 t6)zvZ:mg "ONES"=A0 (.int 2 t8)OTHERS:mg "OTHERS"=A0 (.int 3 t9)LETTERS:mg "LETTERS"=A0 (.ref aL)zwN:mg "NoName"=A0 (.ref aN)zy0:mg "NoThing"=A0 (.ref aT)lE:mg "AnnalsError"=A0 (.ref aA)zxT:mg "BadPath"=A0 (.ref b1)zyH:mg "BadFiles"=A0 (.ref b2)zw2:mg "NoFit"=A0 (.ref b3)zxC:mg "Clash"=A0 (.ref b4)m9:mg "NoVersion"=A0 (.ref b5)zxS:mg "BadLine"=A0 (.ref b6)zyM:mg "NoBranch"=A0 (.ref b7)zz3:mg "BadBranch"=A0 (.ref b8)zx6:mg "Annals"=A0 (.ref aD)zw8:mg "Shelf"=A0 (.ref aC)dst:[b4,b5,b2,b6,b7,b8,aN,aT,b1,b3].Nodup
 ek:∀a∈[b4,b5],PySem.W.tX K a
 kx:∀a∈[b4,b5],∀b∈[b4,b5,b2,b6,b7,b8,aN,aT,b1,b3],E3 K (.ref a) (.ref b)=A0 (decide<|a=b)kv:∀a∈[b4,b5],E3 K (.ref a) (.type "ValueError")=A0 Eg
 exm:∀a∈[b4,b5],PySem.W.exmOne K (.ref a) (.ref aA)=A0 Eg
 zwI:LU K b4 KR "ValueError.__new__"=Eg
 zzI:LU K b5 KR "ValueError.__new__"=Eg
 xg:Cls K aD
 m1:ug K aD "shelf"m2:ug K aD "heads"kd:KD P w K aL jW
 cls:Cls K aC
 n1:ug K aC "thing_by_name"n2:ug K aC "name_by_thing"n3:ug K aC "next_numbers"kit:∀a∈kinds,∀b∈kinds,E3 K (.type a) (.type b)=A0 (a==b||a=="bool"&&b=="int")
def Tk(d:EB):XA d∈kinds:=by cases d<;>simp[XA,kinds]
def Wq:(EB->Str)|.str x=>x|_=>""
def K3:(EB->Bool)|.tuple ds=>ds.all Xx&&(decide (`ds<=2)&&decide (↑(AxS.uniq<|ds.map Wq)=`ds))|_=>Ei
inductive zzN(K:CK)(vs:Di)(H:Hp)(Q:VK)(e3:XK):Prop|mk(d:EB)(v:V)(h0:vs=[v])(h1:Dw K H d v)(h2:small d=Eg)(h3:∀H',zx H H'->Q (.bl<|K3 d) H'):zzN K vs H Q e3
def Nq{K:CK}:∀{ds:De}{xs:Di},wQ K H ds xs->ds.all Xx=Eg->xs=(ds.map Wq).map V.str|[],_,h,_=>by rw[h];rfl|.str x::ds,_,⟨v,r,e,hv,hr⟩,h=>by rw[List.all_cons,ZQ]at h;rw[e,Nq hr h.2,hv];rfl|.none::_,_,_,h=>by cases h|.bool _::_,_,_,h=>by cases h|.int _::_,_,_,h=>by cases h|.list _::_,_,_,h=>by cases h|.tuple _::_,_,_,h=>by cases h|.dict _::_,_,_,h=>by cases h
def Xv:(EB->Str)|.tuple<|.str l::_=>l|_=>""
def Fw:(EB->Bool)|.tuple ds=>ds.all sX&&XB (ds.map Xv)|_=>Ei
inductive zzT(K:CK)(vs:Di)(H:Hp)(Q:VK)(e3:XK):Prop|mk(d:EB)(v:V)(h0:vs=[v])(h1:Dw K H d v)(h2:small d=Eg)(h3:∀ds,d=.tuple ds->`ds<=63)(h4:∀H',zx H H'->Q (.bl<|Fw d) H'):zzT K vs H Q e3
def Pk(h:Dw K H d v)(r:sX d=Eg):∃(t:Er)(y:V),v=.ref t/\yq K H t [.str<|Xv d,y]/\zV (Xv d)=Eg:=by match d,r with|.tuple [l,n],r=>let r:(k7 l&&Xx n)=Eg:=r;rw[ZQ]at r;let#[t,xs,rfl,c,x0,g,rfl,b,f,i,rfl,h1,e]:=h;subst e;cases l with|str x=>cases b;let:=#[t,f,Ej,c,r.1]|none=>cases r.1|bool _=>cases r.1|int _=>cases r.1|list _=>cases r.1|tuple _=>cases r.1|dict _=>cases r.1
def Fq(h:zV x=Eg):Ez x=Eg:=by unfold zV at h;rw[ZQ]at h;rw[yT];intro c b;have:=Yc.mp h.2 c b;unfold Xt at this;lia
def PK(b:De)(i:Nat):(PyData):=b[i]?.getD .none
def Xo(word:Str)(b:De):(Bool):=decide (word="leaf")&&(decide (`b=1)&&vS (PK b 0))
def Xs(word:Str)(b:De):(Bool):=decide (word="tree")&&(decide (`b=1)&&Fw (PK b 0))
inductive nZ(K:CK)(b:Str->De->Bool)(vs:Di)(H:Hp)(Q:VK)(e3:XK):Prop|mk(word:Str)(a:Er)(ds:De)(xs:Di)(h0:vs=[.str word,.ref a])(h1:yq K H a xs)(h2:wQ K H ds xs)(h3:yF ds=Eg)(h4:`ds<=63)(h5:∀e∈ds,∀es,e=.tuple es->`es<=63)(h6:∀H',zx H H'->Q (.bl<|b word ds) H'):nZ K b vs H Q e3
def Ts(word:Str)(b:De):(Bool):=decide (word="note")&&(decide (`b=3)&&(Xx (PK b 0)&&(K3 (PK b 1)&&Xw (PK b 2))))
def eM:(EB->Bool)|.tuple<|.str word::ds=>Xo word ds||(Xs word ds||Ts word ds)|_=>Ei
def narrow(d:EB):(Prop):=∀b,d=.tuple b->`b<=63/\∀e∈b,∀c,e=.tuple c->`c<=63
def v6(t:Th):(Prop):=t.Good/\eM t.dat=Eg/\small t.dat=Eg/\narrow t.dat
inductive oR(K:CK)(vs:Di)(H:Hp)(Q:VK)(e3:XK):Prop|mk(t:Th)(v:V)(h0:vs=[v])(h1:Dt K H t.dat v)(h2:v6 t)(h3:∀H',zx H H'->Q (.bl Eg) H'):oR K vs H Q e3
inductive zzP(K:CK)(vs:Di)(H:Hp)(Q:VK)(e3:XK):Prop|mk(t:Th)(v:V)(h0:vs=[v])(h1:Dt K H t.dat v)(h2:v6 t)(h3:∀H',zx H H'->Q v H'):zzP K vs H Q e3
inductive zyL(K:CK)(vs:Di)(H:Hp)(Q:VK)(e3:XK):Prop|mk(a:Er)(ps:By)(h0:vs=[.ref a])(h1:yq K H a<|ps.map V.str)(h2:`ps<=2)(h3:↑(AxS.uniq ps)=`ps)(h4:∀H',zx H H'->Q (.bl Eg) H'):zyL K vs H Q e3
inductive lW(K:CK)(vs:Di)(H:Hp)(Q:VK)(e3:XK):Prop|mk(a b:Er)(x:Str)(ps:By)(y:Str)(h0:vs=[.str "note",.ref a])(h1:yq K H a [.str x,.ref b,.str y])(h2:yq K H b<|ps.map V.str)(h3:`ps<=2)(h4:↑(AxS.uniq ps)=`ps)(h5:U4 y=Eg)(h6:∀H',zx H H'->Q (.bl Eg) H'):lW K vs H Q e3
inductive zxH(e0:Di)(e1:Hp)(e2:VK)(e3:XK):Prop|mk(h0:False):zxH e0 e1 e2 e3
def GD(S:Dh):(EB->Bool)|.str x=>decide<|x∈S.map En.nm|_=>Ei
inductive zzX(P:Et)(w:Ey)(K:CK)(C:Er)(vs:Di)(H:Hp)(Q:VK)(e3:XK):Prop|mk(a:Er)(fp:Dc)(S:Dh)(e:En)(t:Er)(h0:vs=[.ref a,.str e.nm,.ref t])(h1:yc P w K C H a fp S)(h2:zyK e)(h3:Dt K H e.d<|.ref t)(h4:e.d∉S.map (·.d))(h5:e.nm∉S.map En.nm)(h6:`S<2000)(h7:∀H',Off fp H H'->yc P w K C H' a fp (S++[e])->Q .non H'):zzX P w K C vs H Q e3
inductive ph(P:Et)(w:Ey)(K:CK)(C:Er)(vs:Di)(H:Hp)(Q:VK)(e3:XK):Prop|mk(a:Er)(fp:Dc)(S:Dh)(h0:vs=[.ref a])(h1:yc P w K C H a fp S)(h2:∀l,H l=Ee->Q (.ref l) (upd H l<|.lst<|S.map λe=>V.str e.nm)):ph P w K C vs H Q e3
def fU(Dl:Dk):(EB->Bool)|.str x=>(U0 Dl (EE x:Key)).isSome|_=>Ei
inductive zz7(K:CK)(vs:Di)(H:Hp)(Q:VK)(e3:XK):Prop|mk(d1:Er)(Dl:Dk)(d:EB)(v:V)(h0:vs=[.ref d1,v])(h1:H d1=A0 (.dK Dl))(h2:Dw K H d v)(h3:Q (.bl<|fU Dl d) H):zz7 K vs H Q e3
inductive qt(P:Et)(w:Ey)(K:CK)(C:Er)(vs:Di)(H:Hp)(Q:VK)(e3:XK):Prop|mk(a:Er)(fp:Dc)(S:Dh)(d:EB)(v:V)(h0:vs=[.ref a,v])(h1:yc P w K C H a fp S)(h2:Dw K H d v)(h3:GD S d=Eg)(h4:Q .non H):qt P w K C vs H Q e3
inductive lD(P:Et)(w:Ey)(K:CK)(C:Er)(vs:Di)(H:Hp)(Q:VK)(e3:XK):Prop|mk(a:Er)(fp:Dc)(S:Dh)(d:EB)(v:V)(h0:vs=[.ref a,v])(h1:yc P w K C H a fp S)(h2:Dw K H d v)(h3:Q (.bl<|GD S d) H):lD P w K C vs H Q e3
inductive sZ(P:Et)(w:Ey)(K:CK)(C:Er)(vs:Di)(H:Hp)(Q:VK)(e3:XK):Prop|mk(a:Er)(fp:Dc)(S:Dh)(d:EB)(v:V)(h0:vs=[.ref a,v])(h1:yc P w K C H a fp S)(h2:Dw K H d v)(h3:GD S d=Eg)(h4:∀e∈S,d=.str e.nm->∀t,Dt K H e.d (.ref t)->Q (.ref t) H):sZ P w K C vs H Q e3
inductive mL(P:Et)(w:Ey)(K:CK)(C:Er)(vs:Di)(H:Hp)(Q:VK)(e3:XK):Prop|mk(a f:Er)(fp:Dc)(S:Dh)(x:Str)(ws:By)(h0:vs=[.ref a,.str x,.ref f])(h1:yc P w K C H a fp S)(h2:∀e∈S,Fn e)(h3:yq K H f<|ws.map V.str)(h4:∀y∈ws,Ez y=Eg)(h5:z7 S x ws=Eg)(h6:Q .non H):mL P w K C vs H Q e3
inductive mJ(P:Et)(w:Ey)(K:CK)(C:Er)(vs:Di)(H:Hp)(Q:VK)(e3:XK):Prop|mk(a:Er)(fp:Dc)(S:Dh)(t:Th)(v:V)(h0:vs=[.ref a,v])(h1:yc P w K C H a fp S)(h2:∀e∈S,Fn e)(h3:Dt K H t.dat v)(h4:namesOk S t=Eg)(h5:∀H',zx H H'->Q .non H'):mJ P w K C vs H Q e3
def bZ(P:Et)(w:Ey)(K:CK)(C:Er)(H:Hp)(a:Er)(fp:Dc)(S:Dh)(t:Th)(c:Hp)(b:Dh)(e:En):(Prop):=Off fp H c/\yc P w K C c a fp b/\e∈b/\e.d=t.dat/\(b=S\/(b=S++[e]/\e=FW S t/\t.dat∉S.map (·.d)))
inductive pG(P:Et)(w:Ey)(K:CK)(C:Er)(vs:Di)(H:Hp)(Q:VK)(e3:XK):Prop|mk(a:Er)(fp:Dc)(S:Dh)(t:Th)(v:V)(h0:vs=[.ref a,v])(h1:yc P w K C H a fp S)(h2:∀e∈S,Fn e)(h3:Dt K H t.dat v)(h4:v6 t)(h5:`S<2000)(h6:∀h,(wY S h).getD 0<1000000)(h7:namesOk S t=Eg)(h8:∀H2 S' e,bZ P w K C H a fp S t H2 S' e->Q (.str e.nm) H2):pG P w K C vs H Q e3
inductive zzG(P:Et)(w:Ey)(K:CK)(C:Er)(vs:Di)(H:Hp)(Q:VK)(e3:XK):Prop|mk(x dx:Er)(h0:vs=[.ref x,.non])(h1:H x=A0 (.ins C dx []))(h2:H dx=A0 (.own x))(h3:dx≠x)(h4:∀fp H',(∀c∈fp,c=x\/c=dx\/H c=Ee)->Off [x] H H'->yc P w K C H' x fp []->Q .non H'):zzG P w K C vs H Q e3
section
variable{t1 t2 t3 t4 t5 t6 t7 t8 t9:Tok}{aL aC aN aT aA b1 b2 b3 b4 b5 b6 b7 b8 aD:Er}(T:Txt P w K mg t1 t2 t3 t4 t5 t6 t7 t8 t9 aL aC aN aT aA b1 b2 b3 b4 b5 b6 b7 b8 aD)
def Txt.is{T:String}(t:Txt P w K mg t1 t2 t3 t4 t5 t6 t7 t8 t9 aL aC aN aT aA b1 b2 b3 b4 b5 b6 b7 b8 aD)(b:T∈kinds):E3 K (.type<|XA d) (.type T)=A0 (XA d==T||XA d=="bool"&&T=="int"):=t.kit _ (Tk d) _ b
namespace Aa
abbrev st:=top 21
def sc:zy ["sign"] ["sign"]<|zF st:=CP
include T in
def ok(F:yd0 K "is_sign" st f fd):zj P w K mg dX CO 1 f fd ["sign"] Wc:=by
 let:=F.ok sc λ_ _ _ _ H g Q E b h=>?_;let#[c,rfl,k]:=h;let:=#[_,zE<|zJ<|yX (GM Hn Hn zK (pv 0) zK)<|xW<|wC GJ (zI HZ (by rfl) T.ord PyProof.Rows.boot_ord<|zA (pv 0) zB)<|yI (v:=.int 37) rfl T.PERCENT #[_,Ej],?_];let:=#[_,_,Ej,Ej,_,Ej,?_];rw[SV c 32 " "<|by lk];let:=U3 (λh1=>?_)<|λh1=>?_
 .let:=#[_,_,Ej,Ej,_,Ej,?_];rw[one_le c 126 "~"<|by lk];let:=U3 (λh2=>?_)<|λh2=>?_
  .let:=#[_,Ej,Ej,Ej,?_];let e:Xb c=!decide (V.int (((#[#v[c]]:Str).cps.getD 0 0:Nat):Int)=V.int 37):=by unfold Xb;rw[h1,h2];show decide (c≠37)=!decide (V.int (c:Int)=V.int 37);rw[eq_comm];let:=Hi #[λh z=>h<|by rw[z];rfl,λh z=>h<|by injection z with z;lia]
   rw[e]at k;let:=k
  simp_all[Xb]
 .let e:Xb c=Ei:=by unfold Xb;rw[Vz.mpr h1];rfl
  rw[e]at k;let:=#[_,Ej,k]
end Aa
namespace Ab
abbrev st:=top 22
def sc:zy ["thing"] ["thing"]<|zF st:=CP
include T in
def ok(F:yd0 K "is_line" st f fd)(n:xu P w K mg dX 1 "is_sign" ["sign"] Wc):zj P w K mg dX CO 2 f fd ["thing"]<|Hz K:=by let:=F.ok sc λ_ _ _ _ H t Q E r h=>?_;let#[d,v,rfl,hd,sm,k]:=h;let:=#[_,zE<|zJ<|yX (zI (zZ (K:=K)) (by rfl) T.isinstance ZR<|zA (pv 0)<|zA (yY (v:=.ty "str") rfl T.str YD rfl) zB)<|yX (wC G1 (zI jJ (by rfl) T.len Yh<|zA (pv 0) zB)<|yI (v:=.int 20) rfl T.lV #[_,Ej])<|xW<|zI (j6 rfl) (by rfl) T.all JI<|zA (yS (sc:=zF st) (N:=["thing"]) (N':=["sign"]) (src:=[Ee]) .a rfl rfl rfl (Oe<|pv 0) (λ_ _ _ _=>wN 0 n1) (λ_ _ _ _=>xU) λ_ _ _ _=>wc n r<|zA (pv 0) zB) zB,?_];let:=#[_,_,d,_,Ej,hd,T.is<|by simp[kinds],_,Ej,?_];cases d with
 |str x=>
  cases show v=_ from hd;let u:`x<=1000:=ZT sm;let:=U1 #[x,Ej,zr<|⋯,_,Ej,U3 (λh1=>?_)<|λh1=>?_]
  .let h1:`x<=20:=by have:=ZT h1;lia
   let:=#[_,Ej,Fk (λi j l g=>∃o,l=[o]/\g=H/\j=(((cs x).take i).map Xb).map V.bl) #[Ee,Ej,Ej,Ej] (zr<|⋯) ?_ ?_ ?_];.grind[ZA,Z8]
   .rintro i c j l g q ⟨o,rfl,rfl,rfl⟩;let:=#[c,Ej,_,Ej,Ej,?_];rw[xG<|RZ q,ZM];rfl
   .rintro j l g ⟨o,rfl,rfl,rfl⟩ p s;let:=#[p,_,Ej,yp.of zD,?_];rw[za,Yg,all_map];let e:Xw (.str x)=(cs x).all Xb:=by show(decide (`x<=20)&&(cs x).all Xb)=_;rw[ZK h1];rfl
    rw[e]at k;let:=k _<|zz s
  .let e:Xw (.str x)=Ei:=by show(decide (`x<=20)&&(cs x).all Xb)=_;rw[ZZ<|λz=>h1<|ZK<|⋯];rfl
   rw[e]at k;let:=k _<|zx.refl _|none=>let:=UZ<|k _<|zx.refl _|bool b=>let:=UZ<|k _<|zx.refl _|int i=>let:=UZ<|k _<|zx.refl _|list ds=>let:=UZ<|k _<|zx.refl _|tuple ds=>let:=UZ<|k _<|zx.refl _|dict Dl=>let:=UZ<|k _<|zx.refl _
end Ab
namespace Ac
abbrev st:=top 23
def sc:zy ["thing"] ["thing"]<|zF st:=CP
include T in
def ok(F:yd0 K "is_lines" st f fd)(q:xu P w K mg dX 2 "is_line" ["thing"]<|Hz K):zj P w K mg dX CO 3 f fd ["thing"]<|HA K:=by let:=F.ok sc λ_ _ _ _ H B Q E t h=>?_;let#[d,v,rfl,hd,sm,k]:=h;let:=#[_,zE<|zJ<|yX (zI (zZ (K:=K)) (by rfl) T.isinstance ZR<|zA (pv 0)<|zA (yY (v:=.ty "tuple") rfl T.tuple YN rfl) zB)<|xW<|zI (j6 rfl) (by rfl) T.all JI<|zA (yS (sc:=zF st) (N:=["thing"]) (N':=["line"]) (src:=[Ee]) .a rfl rfl rfl (kN<|pv 0) (λ_ _ _ _=>wN 0 n1) (λ_ _ _ _=>xU) λ_ _ _ _=>wc q t<|zA (pv 0) zB) zB,?_];let:=#[_,_,d,_,Ej,hd,T.is<|by simp[kinds],_,Ej,?_];cases d with
 |tuple ds=>
  let#[a,xs,rfl,l,ha]:=hd;let#[sl,sa]:=q9 sm;let n:=`ha;let:=U1 #[a,Ej,#[_,l],kU (K:=K) (a:=a) (xs:=xs) (λi g j e=>∃o,j=[o]/\zx H e/\g=((ds.take i).map Xw).map V.bl) #[Ee,Ej,zx.refl _,Ej] (zr<|⋯) ?_ ?_ ?_];.rintro i g j e A ⟨o,rfl,c,rfl⟩;let:=#[c.yr l,?_];rw[ZA,ZA,Z8];lia
  .rintro i x g j e u ⟨o,rfl,c,rfl⟩;let#[d,hd,r]:=ha.get u;let:=#[d,x,Ej,r.same c,xF sa hd,λz s=>#[_,Ej,c.trans s,?_]];rw[xG hd,ZM];rfl
  .rintro g j e ⟨o,rfl,c,rfl⟩ p y;let:=#[p,_,Ej,yp.of zD,?_];rw[n,Yg,all_map];let:=k _<|c.trans<|zz y|none=>let:=UZ<|k _<|zx.refl _|bool b=>let:=UZ<|k _<|zx.refl _|int i=>let:=UZ<|k _<|zx.refl _|list ds=>let:=UZ<|k _<|zx.refl _|str x=>let:=UZ<|k _<|zx.refl _|dict Dl=>let:=UZ<|k _<|zx.refl _
end Ac
namespace Ae
abbrev st:=top 24
def sc:zy ["thing"] ["thing"]<|zF st:=CP
include T in
def ok(F:yd0 K "is_label" st f fd):zj P w K mg dX CO 1 f fd ["thing"]<|IA K:=by let:=F.ok sc λ_ _ _ _ H D Q E B h=>?_;let#[d,v,rfl,hd,sm,k]:=h;let:=let r:=_;let q:=_;let y:=_;pZ r q (zC (u:=y) (zX (yR<|zU (K:=K)<|zI (zZ (K:=K)) (by rfl) T.isinstance ZR<|zA (pv 0)<|zA (yY (v:=.ty "str") rfl T.str YD rfl) zB) (zE<|zJ jS) zM)<|zE<|zJ<|yX (GM G1 G1 zG (zI jJ (by rfl) T.len Yh<|zA (pv 0) zB)<|yI (v:=.int 8) rfl T.nO #[_,Ej])<|xW<|zI (j6 rfl) (by rfl) T.all JI<|zA (yS (sc:=zF st) (N:=["thing"]) (N':=["sign"]) (src:=[Ee]) .a rfl rfl rfl (Oe<|pv 0) (λ_ _ _ _=>wN 0 n1) (λ_ _ _ _=>xU) λ_ _ _ _=>GM Hn Hn zK (pv 0) zK) zB) ?_;let:=#[_,_,d,_,Ej,hd,T.is<|by simp[kinds],_,Ej,?_];cases d with
 |str x=>
  cases show v=_ from hd;let G:`x<=1000:=ZT sm;let:=UZ #[x,Ej,zr<|⋯,_,Ej,U3 (λg=>?_)<|λg=>?_]
  .let:=#[_,Ej,U3 (λh1=>?_)<|λh1=>?_]
   .let g:1<=`x:=by have:=ZT g;lia
    let h1:`x<=8:=by have:=ZT h1;lia
    let:=#[_,Ej,Fk (λi l n j=>∃o,n=[o]/\j=H/\l=(((cs x).take i).map Xt).map V.bl) #[Ee,Ej,Ej,Ej] (zr<|⋯) ?_ ?_ ?_];.rintro i l n j A ⟨o,rfl,rfl,rfl⟩;rw[ZA,ZA,Z8];lia
    .rintro i c l n j s ⟨o,rfl,rfl,rfl⟩;rw[xG<|RZ s,ZM];let:=#[_,_,Ej,Ej,_,Ej,?_];rw[SV c 97 "a"<|by lk];let:=U3 (λh3=>?_)<|λh3=>?_
     .let:=#[_,_,Ej,Ej,?_];rw[one_le c 122 "z"<|by lk];let e:Xt c=decide (c<=122):=by unfold Xt;rw[h3];rfl
      rw[e];let:=#[_,Ej,Ej,Ej]
     .let e:Xt c=Ei:=by unfold Xt;rw[Vz.mpr h3];rfl
      rw[e];let:=#[_,Ej,Ej,Ej]
    .rintro l n j ⟨o,rfl,rfl,rfl⟩ p t;let:=#[p,_,Ej,yp.of zD,?_];rw[za,Yg,all_map];let e:k7 (.str x)=(cs x).all Xt:=by show(decide (1<=`x)&&decide (`x<=8)&&(cs x).all Xt)=_;rw[ZK g,ZK h1];rfl
     rw[e]at k;let:=k _<|zz t
   .let e:k7 (.str x)=Ei:=by show(decide (1<=`x)&&decide (`x<=8)&&(cs x).all Xt)=_;rw[ZZ (p:=`x<=8)<|λz=>h1<|ZK<|⋯,Jy];rfl
    rw[e]at k;let:=k _<|zx.refl _
  .let e:k7 (.str x)=Ei:=by show(decide (1<=`x)&&decide (`x<=8)&&(cs x).all Xt)=_;rw[ZZ (p:=1<=`x)<|λz=>g<|ZK<|⋯];rfl
   rw[e]at k;let:=#[_,Ej,k _<|zx.refl _]|none=>let:=U1<|k _<|zx.refl _|bool b=>let:=U1<|k _<|zx.refl _|int i=>let:=U1<|k _<|zx.refl _|list ds=>let:=U1<|k _<|zx.refl _|tuple ds=>let:=U1<|k _<|zx.refl _|dict Dl=>let:=U1<|k _<|zx.refl _
end Ae
namespace Af
abbrev st:=top 25
def sc:zy ["thing"] ["thing"]<|zF st:=CP
include T in
def ok(F:yd0 K "is_row" st f fd)(o:xu P w K mg dX 1 "is_label" ["thing"]<|IA K):zj P w K mg dX CO 2 f fd ["thing"]<|bK K:=by let:=F.ok sc λ_ _ _ _ H r Q E p h=>?_;let#[d,v,rfl,hd,sm,k]:=h;let:=#[_,zE<|zJ<|yX (zI (zZ (K:=K)) (by rfl) T.isinstance ZR<|zA (pv 0)<|zA (yY (v:=.ty "tuple") rfl T.tuple YN rfl) zB)<|yX (wC yK (zI zN (by rfl) T.len Yh<|zA (pv 0) zB) zG)<|yX (wc o p<|zA (wI K (pv 0) zG) zB)<|xW<|zI (zZ (K:=K)) (by rfl) T.isinstance ZR<|zA (wI K (pv 0) zG)<|zA (yY (v:=.ty "str") rfl T.str YD rfl) zB,?_];let:=#[_,_,d,_,Ej,hd,T.is<|by simp[kinds],_,Ej,?_];cases d with
 |tuple ds=>
  let#[a,xs,rfl,g,ha]:=hd;let#[sl,sa]:=q9 sm;let j:=`ha;let:=U1 #[a,_,Ej,.inr g,Ej,_,Ej,U3 (λh1=>?_)<|λh1=>?_]
  .let h1:`xs=2:=by have:=ZT h1;injection this with z;lia
   match ds,ha,j,sa,k with
   |[l,n],⟨x0,r0,e0,d0,x1,r1,e1,d1,c⟩,_,sa,k=>
    let c:r1=[]:=c;subst c e1 e0;let:=#[a,_,_,_,Ej,Ej,g,Ej,l,_,Ej,d0,xF (i:=0) sa rfl,λq s2=>#[_,Ej,U3 (λh2=>?_)<|λh2=>?_]]
    .let:=#[a,_,_,_,Ej,Ej,s2.yr g,Ej,_,_,n,_,Ej,d1.same s2,T.is<|by simp[kinds],?_];let e:sX (.tuple [l,n])=(XA n=="str"||XA n=="bool"&&"str"=="int"):=by show(k7 l&&Xx n)=_;rw[h2];cases n<;>rfl
     rw[e]at k;let:=k _ s2
    .let e:sX (.tuple [l,n])=Ei:=by show(k7 l&&Xx n)=_;rw[Vz.mpr h2];rfl
     rw[e]at k;let:=k _ s2|[],_,hl,_,_=>let:=absurd (hl.symm.trans h1)<|by simp|[_],_,hl,_,_=>let:=absurd (hl.symm.trans h1)<|by simp|_::_::_::_,_,hl,_,_=>let:=absurd (hl.symm.trans h1)<|by simp
  .let e:sX (.tuple ds)=Ei:=by match ds,j with|[_,_],hl=>let:=absurd (ZK<|by rw[hl];rfl) h1|[],_=>rfl|[_],_=>rfl|_::_::_::_,_=>rfl
   rw[e]at k;let:=k _<|zx.refl _|none=>let:=UZ<|k _<|zx.refl _|bool b=>let:=UZ<|k _<|zx.refl _|int i=>let:=UZ<|k _<|zx.refl _|list ds=>let:=UZ<|k _<|zx.refl _|str x=>let:=UZ<|k _<|zx.refl _|dict Dl=>let:=UZ<|k _<|zx.refl _
end Af
namespace Ag
abbrev st:=top 27
def sc:zy ["thing"] ["thing"]<|zF st:=CP
include T in
def ok(F:yd0 K "is_parents" st f fd):zj P w K mg dX CO 1 f fd ["thing"]<|zyL K:=by
 let:=F.ok sc λ_ _ _ _ H L Q E J h=>?_;let#[a,c,rfl,e,l2,un,k]:=h;let:=let y:=_;let t:=_;let B:=_;pZ y t (zC (u:=B) (zX (PW.pt<|kA (yR<|zU (K:=K)<|zI (zZ (K:=K)) (by rfl) T.isinstance ZR<|zA (pv 0)<|zA (yY (v:=.ty "tuple") rfl T.tuple YN rfl) zB)<|qO<|yR<|zU (K:=K)<|zI (j6 rfl) (by rfl) T.all JI<|zA (yS (sc:=zF st) (N:=["thing"]) (N':=["name"]) (src:=[Ee]) .a rfl rfl rfl (kN<|pv 0) (λ_ _ _ _=>wN 0 n1) (λ_ _ _ _=>xU) λ_ _ _ _=>zI (zZ (K:=K)) (by rfl) T.isinstance ZR<|zA (pv 0)<|zA (yY (v:=.ty "str") rfl T.str YD rfl) zB) zB) (zE<|zJ jS) zM)<|zE<|zJ<|yX (wC G1 (zI zN (by rfl) T.len Yh<|zA (pv 0) zB)<|yI (v:=.int 2) rfl T.mZ #[_,Ej])<|xW<|wC yK (zI PQ (by rfl) T.len Yh<|zA (zY (Ka (K:=K) rfl) (by rfl) T.set J3<|zA (pv 0) zB) zB)<|zI zN (by rfl) T.len Yh<|zA (pv 0) zB) ?_;let:=#[_,_,.tuple<|c.map .str,_,Ej,Dt.dw #[a,_,Ej,e,zu.strs _],T.is<|by simp[kinds],_,Ej,UZ<|#[a,Ej,#[_,e],kU (K:=K) (a:=a) (xs:=c.map V.str) (λi j l g=>∃o,l=[o]/\g=H/\j=EN i (V.bl Eg)) #[Ee,Ej,Ej,Ej] (zr<|by rw[ZA];lia) ?_ ?_ ?_]];.rintro i j l g D ⟨o,rfl,rfl,rfl⟩;let:=#[e,Va List.length_replicate]
 .rintro i x j l g q ⟨o,rfl,rfl,rfl⟩;rw[ZN]at q;let#[p,G,rfl]:=Z2.mp q;let:=#[_,_,.str p,_,Ej,Ej,T.is<|by simp[kinds],_,Ej,Ej,List.replicate_succ' (n:=i) (a:=V.bl Eg).symm]
 .rintro j l g ⟨o,rfl,rfl,rfl⟩ p A;rw[ZA,show EN `c (V.bl Eg)=(EN `c Eg).map V.bl by rw[UL]];let:=#[p,_,Ej,yp.of zD,?_];let u:=zz (o:=.lst<|(EN `c Eg).map V.bl) A;let z:(EN `c Eg).all id=Eg:=by rw[Yc];intro b hb;let:=List.eq_of_mem_replicate hb
  rw[z];let:=#[_,Ej,UZ #[a,_,Ej,.inr<|u.yr e,_,Ej,?_]];rw[ZA,ZK<|⋯];let:=U1 #[a,c,Ej,.inr<|u.yr e,⋯,λr n2=>?_];let s:=zz (o:=Xe P w r<|AxS.uniq c) n2;let:=#[r,_,Ej,zD,a,_,Ej,.inr<|(u.trans s).yr e,Ej,?_];rw[un,ZA,ZK rfl];let:=k _<|u.trans s
end Ag
namespace Ah
abbrev st:=top 26
def sc:zy ["thing","labels"] ["thing"]<|zF st:=CP
include T in
def ok(F:yd0 K "is_rows" st f fd)(QI:xu P w K mg dX 2 "is_row" ["thing"]<|bK K):zj P w K mg dX CO 3 f fd ["thing"]<|zzT K:=by let:=F.ok sc λ_ _ _ _ H vs Q E Z h=>?_;let#[d,v,rfl,hd,sm,A,k]:=h;let:=let X0:=_;let D0:=_;let u1:=_;let u2:=_;pZ X0 D0 (zC (u:=u2) (zX (PW.pt<|kA (yR<|zU (K:=K)<|zI (zZ (K:=K)) (by rfl) T.isinstance ZR<|zA (pv 0)<|zA (yY (v:=.ty "tuple") rfl T.tuple YN rfl) zB)<|qO<|yR<|zU (K:=K)<|zI (j6 rfl) (by rfl) T.all JI<|zA (yS (sc:=zF st) (N:=["thing","labels"]) (N':=["row"]) (src:=[Ee]) .a rfl rfl rfl (kN<|pv 0) (λ_ _ _ _=>wN 0 n1) (λ_ _ _ _=>xU) λ_ _ _ _=>wc QI Z<|zA (pv 0) zB) zB) (zE<|zJ jS) zM)<|zC (u:=u1) (Pc (sc:=zF st) (N:=["thing","labels"]) (N':=["row"]) (src:=[Ee]) .a rfl rfl rfl (kN<|pv 0) (λ_ _ _ _=>wN 0 n1) (λ_ _ _ _=>xU) (λ_ _ _ _=>wI K (pv 0) zG) sc.nd rfl (MH rfl) (k:=1))<|zE<|zJ<|wC (kR Z.units) (pv 1)<|zI (vD rfl) (by rfl) T.sorted Y9<|zA (zY (Ka (K:=K) rfl) (by rfl) T.set J3<|zA (pv 1) zB) zB) ?_;let:=#[_,_,d,_,Ej,hd,T.is<|by simp[kinds],_,Ej,?_];cases d with
 |tuple ds=>
  let A:=A ds rfl;let#[a,xs,rfl,D,ha]:=hd;let#[sl,sa]:=q9 sm;let X:=`ha;let:=UZ #[a,Ej,#[_,D],kU (K:=K) (a:=a) (xs:=xs) (λi g n c=>∃o,n=[o]/\zx H c/\g=((ds.take i).map sX).map V.bl) #[Ee,Ej,zx.refl _,Ej] (zr<|⋯) ?_ ?_ ?_];.rintro i g n c hi ⟨o,rfl,s,rfl⟩;let:=#[s.yr D,?_];rw[ZA,ZA,Z8];lia
  .rintro i x g n c r ⟨o,rfl,s,rfl⟩;let#[d,hd,J]:=ha.get r;let:=#[d,x,Ej,J.same s,xF sa hd,λH3 e3=>#[_,Ej,s.trans e3,?_]];rw[xG hd,ZM];rfl
  .rintro g n c ⟨o,rfl,s,rfl⟩ p np;let:=#[p,_,Ej,yp.of zD,?_];rw[X,Yg,all_map];let u:=s.trans<|zz (o:=.lst<|(ds.map sX).map V.bl) np;cases q:ds.all sX with
   |false=>
    let e:Fw (.tuple ds)=Ei:=by show(ds.all sX&&_)=Ei;rw[q];rfl
    rw[e]at k;let:=#[_,Ej,U1<|k _ u]|true=>
    let:=#[_,Ej,UZ ?_];show No _ _ _ _<|upd c p<|.lst<|(ds.map sX).map V.bl;generalize upd c p (.lst<|(ds.map sX).map V.bl)=G at u;let B:=wQ.same u _ _ ha;let:=#[a,Ej,#[_,u.yr D],kU (K:=K) (a:=a) (xs:=xs) (λi g n c=>∃o,n=[o]/\c=G/\g=((ds.take i).map Xv).map V.str) #[Ee,Ej,Ej,Ej] (zr<|⋯) ?_ ?_ ?_];.rintro i g n c hi ⟨o,rfl,rfl,rfl⟩;let:=#[u.yr D,?_];rw[ZA,ZA,Z8];lia
    .rintro i x g n c r ⟨o,rfl,rfl,rfl⟩;let#[d,hd,J]:=B.get r;let#[t,y,rfl,ht,_]:=Pk J<|Yc.mp q d<|ZI hd;let:=#[t,_,_,_,Ej,Ej,ht,Ej,_,Ej,Ej,?_];let e1:ds.take (i+1)=ds.take i++[d]:=by rw[YE,hd];rfl
     rw[e1,ZM,ZM];rfl
    .rintro g n c ⟨o,rfl,rfl,rfl⟩ l nl;rw[X,Yg];let v1:=zz (o:=.lst<|(ds.map Xv).map V.str) nl;let ul:=AxS.nW _ (ds.map Xv) rfl;rw[ZA]at ul;let:=#[l,ds.map Xv,Ej,.inl<|yp.of zD,by rw[ZA];lia,λU n2=>?_];let v2:=v1.trans<|zz (o:=Xe P w U<|AxS.uniq<|ds.map Xv) n2;let:=#[U,_,Ej,zD,⋯,λl3 ss n3 Y R=>?_];let v3:=v2.trans<|zz (o:=.lst<|ss.map V.str) n3;let qp:∀x∈ds.map Xv,Ez x=Eg:=λx r=>by let#[d,hd,rfl]:=ZH.mp r;let#[j,hj]:=List.getElem?_of_mem hd;let#[z,hz,dz]:=B.at hj;let#[_,_,_,_,hl]:=Pk dz<|Yc.mp q d hd;let:=Fq hl
     let S:∀x∈ss,Ez x=Eg:=λx r=>qp x<|Ws<|Y.mem_iff.mp r;let L:=((zz (o:=Xe P w U<|AxS.uniq<|ds.map Xv) n2).trans<|zz (o:=.lst<|ss.map V.str) n3) _ _<|zD (H:=c) (a:=l) (o:=.lst<|(ds.map Xv).map V.str);let:=#[.list<|(ds.map Xv).map .str,.list<|ss.map .str,#[l,_,Ej,yp.of L,zu.strs _],#[l3,_,Ej,yp.of zD,zu.strs _],(xM qp).1,(xM S).1,?_];let ev:EX (.list<|(ds.map Xv).map .str) (.list<|ss.map .str)=decide (ds.map Xv=ss):=qJ _ _;rw[ev,On Y R];let e:Fw (.tuple ds)=XB (ds.map Xv):=by show(ds.all sX&&_)=_;rw[q];rfl
     rw[e]at k;let:=k _<|u.trans v3
 |none=>let:=U1<|k _<|zx.refl _|bool b=>let:=U1<|k _<|zx.refl _|int i=>let:=U1<|k _<|zx.refl _|list ds=>let:=U1<|k _<|zx.refl _|str x=>let:=U1<|k _<|zx.refl _|dict Dl=>let:=U1<|k _<|zx.refl _
end Ah
namespace Ai
abbrev st:=top 28
def sc:zy ["word","parts"] ["word","parts"]<|zF st:=CP
include T in
def ok(F:yd0 K "is_leaf" st f fd)(l:xu P w K mg dX 3 "is_lines" ["thing"]<|HA K):zj P w K mg dX CO 4 f fd ["word","parts"]<|nZ K Xo:=by
 let:=F.ok sc λ_ _ _ _ H u Q E r h=>?_;let#[word,a,b,xs,rfl,g,ha,sa,n,q,k]:=h;let:=#[_,zE<|zJ<|yX (wC yK (pv 0) zK)<|yX (wC yK (zI zN (by rfl) T.len Yh<|zA (pv 1) zB) zG)<|xW<|wc l r<|zA (wI K (pv 1) zG) zB,?_];let i:=`ha;let:=#[Ej,_,Ej,U3 (λh1=>?_)<|λh1=>?_]
 .let h1:=ZT h1;let h1:word="leaf":=by injection h1
  let:=#[a,_,Ej,.inr g,Ej,_,Ej,U3 (λh2=>?_)<|λh2=>?_]
  .let h2:`xs=1:=by have:=ZT h2;injection this with z;lia
   let c:b[0]?=A0 (PK b 0):=by have:b[0]?=A0 (b[0]'⋯):=ZO _;unfold PK;rw[this];rfl
   let#[x,s,o]:=ha.at c;let:=#[a,_,_,_,Ej,Ej,g,xB (j:=0) s,PK b 0,_,Ej,o,xF sa c,λt s2=>?_];let e:Xo word b=vS (PK b 0):=by simp_all[Xo,ZK]
   rw[e]at k;let:=k _ s2
  .let e:Xo word b=Ei:=by unfold Xo;rw[ZZ (p:=`b=1)<|λz=>h2<|ZK<|by rw[i,z];rfl,Ug,Jy]
   rw[e]at k;let:=k _<|zx.refl _
 .let e:Xo word b=Ei:=by simp_all[Xo,ZZ,ZK,Ug]
  rw[e]at k;let:=k _<|zx.refl _
end Ai
namespace Aj
abbrev st:=top 29
def sc:zy ["word","parts"] ["word","parts"]<|zF st:=CP
include T in
def ok(F:yd0 K "is_tree" st f fd)(n:xu P w K mg dX 3 "is_rows" ["thing"]<|zzT K):zj P w K mg dX CO 4 f fd ["word","parts"]<|nZ K Xs:=by
 let:=F.ok sc λ_ _ _ _ H y Q E t h=>?_;let#[word,a,b,xs,rfl,i,ha,sa,o,g,k]:=h;let:=#[_,zE<|zJ<|yX (wC yK (pv 0) zK)<|yX (wC yK (zI zN (by rfl) T.len Yh<|zA (pv 1) zB) zG)<|xW<|wc n t<|zA (wI K (pv 1) zG) zB,?_];let l:=`ha;let:=#[Ej,_,Ej,U3 (λh1=>?_)<|λh1=>?_]
 .let h1:=ZT h1;let h1:word="tree":=by injection h1
  let:=#[a,_,Ej,.inr i,Ej,_,Ej,U3 (λh2=>?_)<|λh2=>?_]
  .let h2:`xs=1:=by have:=ZT h2;injection this with z;lia
   let c:b[0]?=A0 (PK b 0):=by have:b[0]?=A0 (b[0]'⋯):=ZO _;unfold PK;rw[this];rfl
   let#[x,u,q]:=ha.at c;let:=#[a,_,_,_,Ej,Ej,i,xB (j:=0) u,PK b 0,_,Ej,q,xF sa c,λr s=>g _ (ZI c) r s,λv s2=>?_];let e:Xs word b=Fw (PK b 0):=by unfold Xs;rw[ZK h1,ZK<|⋯];rfl
   rw[e]at k;let:=k _ s2
  .let e:Xs word b=Ei:=by unfold Xs;rw[ZZ (p:=`b=1)<|λz=>h2<|ZK<|by rw[l,z];rfl,Ug,Jy]
   rw[e]at k;let:=k _<|zx.refl _
 .let e:Xs word b=Ei:=by unfold Xs;rw[ZZ<|λz=>h1<|ZK<|by rw[z],Ug]
  rw[e]at k;let:=k _<|zx.refl _
end Aj
namespace Ak
abbrev st:=top 30
def sc:zy ["word","parts"] ["word","parts"]<|zF st:=CP
include T in
def ok(F:yd0 K "is_note" st f fd)(l:xu P w K mg dX 1 "is_parents" ["thing"]<|zyL K)(n:xu P w K mg dX 2 "is_line" ["thing"]<|Hz K):zj P w K mg dX CO 3 f fd ["word","parts"]<|lW K:=by
 let:=F.ok sc λ_ _ _ _ H B Q E e h=>?_;let#[a,b,x,q,y,rfl,c,hb,l2,un,g,k]:=h;let:=let o:=_;let i:=_;let s:=_;pZ o i (zC (u:=s) (zX (PW.pt<|kA (wT GJ (pv 0) zK)<|qO<|wT GJ (zI zN (by rfl) T.len Yh<|zA (pv 1) zB) zG) (zE<|zJ jS) zM)<|zE<|zJ<|yX (zI (zZ (K:=K)) (by rfl) T.isinstance ZR<|zA (wI K (pv 1) zG)<|zA (yY (v:=.ty "str") rfl T.str YD rfl) zB)<|yX (wc l e<|zA (wI K (pv 1) zG) zB)<|xW<|wc n e<|zA (wI K (pv 1) zG) zB) ?_;let:=#[Ej,_,Ej,bD rfl<|#[a,_,Ej,.inr c,Ej,_,Ej,bD rfl<|#[a,_,_,_,Ej,Ej,c,xB rfl,_,_,.str x,_,Ej,Ej,T.is<|by simp[kinds],_,Ej,U1<|#[a,_,_,_,Ej,Ej,c,xB (j:=1) rfl,b,q,Ej,hb,l2,un,λt s2=>#[_,Ej,U1 ?_]]]]];let p:`y<=1000:=by let z:(decide (`y<=20)&&(cs y).all Xb)=Eg:=g;rw[ZQ]at z;have:=ZT z.1;lia
 let:=#[a,_,_,_,Ej,Ej,s2.yr c,xB (j:=2) rfl,.str y,_,Ej,Ej,ZK p,λA r=>?_];rw[show Xw (.str y)=Eg from g];let:=k _<|s2.trans r
end Ak
namespace Al
abbrev st:=top 31
def sc:zy ["thing","word","parts"] ["thing"]<|zF st:=CP
include T in
def ok(F:yd0 K "is_thing" st f fd)(QL:xu P w K mg dX 4 "is_leaf" ["word","parts"]<|nZ K Xo)(QM:xu P w K mg dX 4 "is_tree" ["word","parts"]<|nZ K Xs)(QN:xu P w K mg dX 3 "is_note" ["word","parts"]<|lW K):zj P w K mg dX CO 5 f fd ["thing"]<|oR K:=by
 let:=F.ok sc λ_ _ _ _ H vs Q E R h=>?_;let#[t,v,rfl,hd,#[_,i,sm,D],k]:=h;let S:=Dt.dw hd;let#[a,r0,rfl,ab]:=uA hd;let p:∃c,t.dat=.tuple (.str t.word::c):=by cases t<;>let:=#[_,Ej]
 let#[c,Y]:=p;rw[Y]at sm D S i;let#[n1,n2]:=D _ rfl;let#[a',xs,e,J,ha]:=id S;let:=let X0:=_;let D0:=_;let u1:=_;let u2:=_;let u3:=_;pZ X0 D0 (zC (u:=u3) (zX (PW.pt<|kA (yR<|zU (K:=K)<|zI (zZ (K:=K)) (by rfl) T.isinstance ZR<|zA (pv 0)<|zA (yY (v:=.ty "tuple") rfl T.tuple YN rfl) zB)<|kA (wT yK (zI zN (by rfl) T.len Yh<|zA (pv 0) zB) zG)<|qO<|yR<|zU (K:=K)<|zI (zZ (K:=K)) (by rfl) T.isinstance ZR<|zA (wI K (pv 0) zG)<|zA (yY (v:=.ty "str") rfl T.str YD rfl) zB) (zE<|zJ jS) zM)<|zC (u:=u2) (wS 1 sc.nd<|wI K (pv 0) zG)<|zC (u:=u1) (wS 2 sc.nd<|yA (zxO:FD _<|zyE K) (pv 0) (yC zG) xA)<|zE<|zJ<|bH (wc QL R<|zA (pv 1)<|zA (pv 2) zB)<|bH (wc QM R<|zA (pv 1)<|zA (pv 2) zB)<|xW<|wc QN R<|zA (pv 1)<|zA (pv 2) zB) ?_;cases e;let#[sl,sa]:=q9 sm;let#[x0,r,rfl,s,l]:=ha;let:=#[_,_,_,_,Ej,S,T.is<|by simp[kinds],_,Ej,UZ<|#[a,_,Ej,.inr J,Ej,_,Ej,F4 (λz=>by injection z with z;simp at z;lia)<|#[a,_,_,_,Ej,Ej,J,xB (j:=0) rfl,_,_,.str t.word,_,Ej,s,T.is<|by simp[kinds],_,Ej,UZ ?_]]];cases show x0=_ from s;let:=#[a,_,_,_,Ej,Ej,J,xB (j:=0) rfl,_,Ej,a,_,_,Ej,Ej,J,λq nq=>?_];rw[R3<|∅];let L:=zz (o:=.tup r) nq;let hq:=yq.of (K:=K)<|zD (H:=H) (a:=q) (o:=.tup r);show Xh 2 (.ref q) _ (upd H q<|.tup r) _;generalize upd H q (.tup r)=H1 at L hq ⊢;let G:yF c=Eg:=by let sa:(small (.str t.word)&&yF c)=Eg:=sa;rw[ZQ]at sa;let:=sa.2
 let A:`c<=63:=by have:=n1;simp at this;lia
 let B:∀e∈c,∀X,e=.tuple X->`X<=63:=λe he=>n2 e<|ZB _ he;let:=#[t.word,q,c,r,Ej,hq,wQ.same L _ _ l,G,A,B,λH2 s2=>#[_,Ej,?_]];let i:(Xo t.word c||(Xs t.word c||Ts t.word c))=Eg:=i;cases q0:Xo t.word c with|true=>let:=U1<|k _<|L.trans s2|false=>rw[q0,Bool.false_or]at i;let g:=L.trans s2;let:=UZ #[t.word,q,c,r,Ej,s2.yr hq,wQ.same g _ _ l,G,A,B,λH3 N=>#[_,Ej,?_]];cases q1:Xs t.word c with|true=>let:=U1<|k _<|g.trans N|false=>rw[q1,Bool.false_or]at i;unfold Ts at i;simp only[ZQ,YF]at i;let#[w0,_,_,n,ld]:=i;cases t with|leaf ls=>let:=absurd w0<|by show("leaf":Str)≠"note";lk|tree rs=>let:=absurd w0<|by show("tree":Str)≠"note";lk|note x ps y=>
    let ed:[E9 x,.tuple<|ps.map .str,.str y]=c:=by injection Y with z;injection z
    subst ed;let#[v1,r1,rfl,h1,v2,r2,rfl,#[b,ys,rfl,hb,hy],v3,r3,rfl,h3,e]:=l;cases show v1=_ from h1;cases show v3=_ from h3;cases show r3=[]from e;let n:((ps.map E9).all Xx&&(decide (↑(ps.map E9)<=2)&&decide (↑(AxS.uniq<|(ps.map E9).map Wq)=↑(ps.map E9))))=Eg:=n;let U:(ps.map E9).map Wq=ps:=by rw[ZV];let:=Uw _
    rw[U,ZA]at n;simp only[ZQ,YF]at n;let Z:=Nq hy (by rw[List.all_map,Yc];let:=λ_ _=>rfl);rw[U]at Z;subst Z;let:=UZ #[q,b,x,ps,y,Ej,(s2.trans N).yr hq,(g.trans N).yr hb,n.2.1,n.2.2,ld,λH4 s4=>k _<|(g.trans N).trans s4]
end Al
namespace Am
abbrev st:=top 32
def sc:zy ["thing"] ["thing"]<|zF st:=CP
include T in
def ok(F:yd0 K "need_thing" st f fd)(c:xu P w K mg dX 5 "is_thing" ["thing"]<|oR K):zj P w K mg dX CO 6 f fd ["thing"]<|zzP K:=by let:=F.ok sc λ_ _ _ _ H l Q E i h=>?_;let#[t,v,rfl,hd,g,k]:=h;let:=let e:=_;let b:=_;pZ e b (zC (zX (yR<|zU (K:=K)<|wc c i<|zA (pv 0) zB) (zE xS) zM)<|zE<|zJ<|pv 0) ?_;let:=#[t,v,Ej,hd,g,λj s2=>#[_,Ej,UZ<|k _ s2]]
end Am
namespace Ao
abbrev st:=top 33
def sc:zy ["thing"] ["thing"]<|zF st:=CP
include T in
def ok(F:yd0 K "letter_of" st f fd):zj P w K mg dX CO 1 f fd ["thing"]<|IY K:=by let:=F.ok sc λ_ _ _ _ H e Q E c h=>?_;let#[v,t,rfl,hd,k]:=h;let#[a,r,rfl,b]:=uA hd;let:=#[_,zE<|zJ<|av (yI (v:=.ref aL) rfl T.LETTERS rfl) (wI K (pv 0) zG)<|λ_ _=>rfl,?_];let:=#[a,_,_,_,Ej,Ej,b,GV ..,_,_,_,_,Ej,Ej,T.kd,NW t,k]
end Ao
namespace Ap
abbrev st:=top 34
def sc:zy ["rows","parts","label","name"] ["rows"]<|zF st:=CP
def uq:∀rs:Df,↑(yB rs)=2*`rs|[]=>rfl|r::rs=>by grind[uq]
include T in
def ok(F:yd0 K "tree_parts" st f fd):zj P w K mg dX CO 1 f fd ["rows"]<|Ip K:=by
 let:=F.ok sc λ_ _ _ _ H Y Q E X h=>?_;let#[v,p,rfl,hd,hl,k]:=h;let#[a,xs,rfl,q,s]:=hd;let o:`xs=`p:=by rw[`s,ZA]
 let:=let z:=_;let t:=_;let N:=_;let R:=_;let S:=_;pZ z t (zC (u:=S) (wS 1 sc.nd<|yD zB)<|zC (yQ (tb:=R) EM rfl (kN<|pv 0) (jF rfl<|zT (wN 2 sc.nd)<|zT (wN 3 sc.nd) xO)<|zC (u:=N) (zS<|xV Z1 Yn Yo yJ (pv 1)<|zA (pv 2) zB)<|zE<|zS<|xV Z1 Yn Yo yJ (pv 1)<|zA (pv 3) zB)<|zE<|zJ<|pv 1) ?_;let:=#[Yk _,λl j=>#[a,Ej,#[_,(zz j).yr q],vU (K:=K) (a:=a) (xs:=xs) (λi n g=>∃(x y:Option V),n=[A0<|.ref a,A0<|.ref l,x,y]/\g=upd H l (.lst<|(yB<|p.take i).map V.str)) #[Ee,Ee,Ej,Ej] (λi n g _ ⟨_,_,_,e⟩=>e▸(zz j).yr q) ?_ ?_]]
 .rintro i x n g D B L J G ⟨x0,U,rfl,rfl⟩;let#[r,b,A,rfl,hb]:=M9 s L;let c:↑((yB<|p.take i).map V.str)<=2000:=by rw[ZA,uq,Z8];lia
  let:=G #[b,_,Ej,(zz j).yr hb,Ej,_,_,Ej,_,_,Ej,Ej,.inl #[Ej,_,yp.of zD],l,_,_,Ej,Ej,zD,V1 c<|by simp[Y2],.inl #[Ej,_,yp.of zD],l,_,_,Ej,Ej,zD,?_,?_];.rw[ZS,JH];let:=V1 (Vo c)<|by simp[Y2]
  .let:=J.nx _ _ #[_,_,Ej,?_];rw[PD,PD];congr 2;rw[YE,A];rw[jG,ZM];rw[Y1];rfl
 .rintro n g ⟨x0,U,rfl,rfl⟩;let:=?_;rw[o,Yg];let:=k l j
end Ap
def NR{c A B:Prop}[Decidable c](hc:c)(h:A):if decide c=Eg then A else B:=by simp_all
def F4{c A B:Prop}[Decidable c](hc:¬c)(h:B):if decide c=Eg then A else B:=by simp_all
def FU(h:n<=100000):↑(dig n)<=10:=Vh ⋯ ∅ ⋯
def Fr(h:n<=1900):(n:Int).natAbs.log2<1920:=V1 (Nat.log2_le_self n) ⋯
def Ra{b:Df}(g:(Th.tree b).Good):`b<=1000:=by let h:=g.1;let e:↑(yB b)<=1000:=h;grind[Ap.uq]
def P9{w:Str}(g:(Th.note x ps w).Good):`ps<=1000:=by let h:=g.1;let e:↑([x,dig _]++ps++[w])<=1000:=h;simp at e;lia
namespace Aq
abbrev st:=top 35
def sc:zy ["thing","parents"] ["thing"]<|zF st:=CP
include T in
def ok(F:yd0 K "parts_of" st f fd)(B:xu P w K mg dX 1 "tree_parts" ["rows"]<|Ip K):zj P w K mg dX CO 2 f fd ["thing"]<|Pp K:=by let:=F.ok sc λ_ _ _ _ H U Q E G h=>?_;let#[v,t,rfl,hd,g,k]:=h;let:=let D:=_;let A:=_;let L:=_;let N:=_;let R:=_;pZ D A (zC (u:=R) (zX (wT yK (wI K (pv 0) zG) zK) (zE<|zJ<|zY xX (by rfl) T.list JA<|zA (wI K (pv 0) zG) zB) zM)<|zC (u:=N) (zX (wT yK (wI K (pv 0) zG) zK) (zE<|zJ<|wc B G<|zA (wI K (pv 0) zG) zB) zM)<|zC (u:=L) (wS 1 sc.nd<|wI K (pv 0) zG)<|zE<|zJ<|zP v5 (zP v5 (yD<|zA (wI K (pv 0) zG)<|zA (zY qF (by rfl) T.str YD<|zA (zI zN (by rfl) T.len Yh<|zA (pv 1) zB) zB) zB)<|zY xX (by rfl) T.list JA<|zA (pv 1) zB)<|yD<|zA (wI K (pv 0) zG) zB) ?_;cases t with|leaf ls=>let#[a,b,rfl,c,hb]:=Hc hd;let:=#[a,_,_,_,Ej,Ej,c,Ej,Ej,_,Ej,NR rfl<|#[a,_,_,_,Ej,Ej,c,Ej,b,_,Ej,.inr hb,λl e=>k l _ (zz e) e zD]]|tree rs=>let#[a,b,rfl,c,hb]:=HF hd;let:=#[a,_,_,_,Ej,Ej,c,Ej,Ej,_,Ej,F4 (by lk)<|#[a,_,_,_,Ej,Ej,c,Ej,Ej,_,Ej,NR rfl<|#[a,_,_,_,Ej,Ej,c,Ej,_,rs,Ej,hb,Ra g,λl e=>k l _ (zz e) e zD]]]|note x ps y=>
  let#[a,b,rfl,c,hb]:=uP hd;let S:=P9 g;let:=#[a,_,_,_,Ej,Ej,c,Ej,Ej,_,Ej,F4 (by lk)<|#[a,_,_,_,Ej,Ej,c,Ej,Ej,_,Ej,F4 (by lk)<|#[a,_,_,_,Ej,Ej,c,Ej,a,_,_,_,Ej,Ej,c,Ej,b,_,Ej,.inr hb,_,Ej,?_,UY 2,λl1 n1=>?_]]];.rw[ZA];let:=Fr ⋯
  let r:=zz (o:=.lst [V.str x,V.str<|Lv<|Mp ((↑(ps.map V.str):Nat):Int)]) n1;let:=#[b,_,Ej,.inr<|r.yr hb,λl2 n2=>?_];let s2:=r.trans<|zz (o:=.lst<|ps.map V.str) n2;let i:l1≠l2:=zL zD n2;let:=#[l1,l2,_,_,Ej,Ej,by rw[zH i];let:=zD,zD,by rw[ZA];let:=zr<|by simp only[Yj,Vu];lia,λl3 n3=>?_];let s:=s2.trans<|zz (o:=.lst<|[V.str x,V.str<|Lv<|Mp ((↑(ps.map V.str):Nat):Int)]++ps.map V.str) n3;let:=#[a,_,_,_,Ej,Ej,s.yr c,Ej,UY 1,λn p=>?_];let z:=s.trans<|zz (o:=.lst [V.str y]) p;let j:l3≠n:=zL zD p;let:=#[l3,n,_,_,Ej,Ej,by rw[zH j];let:=zD,zD,?_,λJ q=>?_];.rw[ZS,ZA];let:=zr<|by simp only[Yj,Vu];lia
  .let:=k J _ (z.trans<|zz q) (z.free q) ?_;rw[zD];congr 2;show _=([x,dig `ps]++ps++[y]).map V.str;rw[ZM,ZM];rw[ZA];rfl
end Aq
namespace Ar
abbrev st:=top 36
def sc:zy ["part"] ["part"]<|zF st:=CP
include T in
def ok(F:yd0 K "counted" st f fd):zj P w K mg dX CO 1 f fd ["part"] BI:=by
 let:=F.ok sc λ_ _ _ _ H e Q E c h=>?_;let#[x,rfl,hl,k]:=h;let:=#[_,zE<|zJ<|zP zO (zP zO (zY qF (by rfl) T.str YD<|zA (zI jJ (by rfl) T.len Yh<|zA (pv 0) zB) zB) zK)<|pv 0,?_];let d:=FU (n:=`x) ⋯;let b:(":":Str).length=1:=by lk
 let:=#[x,Ej,zr<|⋯,_,Ej,Fr<|⋯,_,_,Ej,Ej,zr<|by rw[b];let:=Yz (Nat.add_le_add_right d 1)<|∅,_,_,Ej,Ej,zr ?_,k];show(dig _++":").length+`x<=_;rw[yo,b];lia
end Ar
namespace As
abbrev st:=top 37
def sc:zy ["thing"] ["thing"]<|zF st:=CP
def KC(h:`x<=1000):↑(counted x)<=1011:=by
 let d:=FU (n:=`x) ⋯;let b:(":":Str).length=1:=by rfl
 show(dig _++":"++x).length<=_;grind[yo]
include T in
def ok(F:yd0 K "spelled" st f fd)(B:xu P w K mg dX 1 "letter_of" ["thing"]<|IY K)(u:xu P w K mg dX 2 "parts_of" ["thing"]<|Pp K)(A:xu P w K mg dX 1 "counted" ["part"] BI):zj P w K mg dX CO 3 f fd ["thing"]<|BQ K:=by
 let:=F.ok sc λ_ _ _ _ H vs Q E o h=>?_;let#[v,t,rfl,hd,g,k]:=h;let:=#[_,zE<|zJ<|zP zO (wc B o<|zA (pv 0) zB)<|xV Y4 Vw Vx IF zK<|zA (yS (sc:=zF st) (N:=["thing"]) (N':=["part"]) (src:=[Ee]) .a rfl rfl rfl (yN<|wc u o<|zA (pv 0) zB) (λ_ _ _ _=>wN 0 n1) (λ_ _ _ _=>xU) λ_ _ _ _=>wc A o<|zA (pv 0) zB) zB,?_];let:=#[v,t,Ej,hd,Ej,v,t,Ej,hd,g,λl s U Z hl=>?_];let X:↑(t.parts.map V.str)<=1000:=by rw[ZA];let:=g.1
 let:=#[l,Ej,#[_,yp.of hl],qR (K:=K) (a:=l) (xs:=t.parts.map V.str) (λi j n c=>∃x,n=[x]/\c=s/\j=((t.parts.take i).map counted).map V.str) #[Ee,Ej,Ej,Ej] (zr<|⋯) (λi j n c b ⟨x,_,e,G⟩=>#[e▸yp.of hl,?_]) ?_ ?_];.rw[G,ZA,ZA,Z8];let:=Nat.min_le_left _ _
 .rintro i x j n c b ⟨x0,rfl,rfl,rfl⟩;rw[ZN]at b;cases q:t.parts[i]?with|none=>rw[q]at b;cases b|some p=>rw[q]at b;let b:V.str p=x:=dI b;subst b;let J:=g.2 p<|ZI q;let:=#[p,Ej,J.len,_,Ej,Ej,?_];rw[YE,q,ZM,ZM];rfl
 .rintro j n c ⟨x0,rfl,rfl,rfl⟩ p S;let e:t.parts.take ↑(t.parts.map V.str)=t.parts:=by rw[ZA,Yg]
  rw[e];let b1:∀y∈t.parts.map counted,`y<=1011:=λy L=>by let#[z,R,rfl]:=ZH.mp L;let:=KC (g.2 z R).len
  let b2:=Op _ b1;let b3:↑(t.parts.map counted)<=1000:=by rw[ZA];let:=g.1
  let r:("":Str).length=0:=by lk
  let Y:`t.letter=1:=by rw[za,XI];rfl
  let:=#[_,p,t.parts.map counted,Ej,Ej,.inl<|yp.of zD,by rw[r];lia,_,_,Ej,Ej,?_,?_];.have:=StrLaws.join_length_le ""<|t.parts.map counted;let D:Txt.join "" (t.parts.map counted)=Str.join "" (t.parts.map counted):=Li _ _;rw[D];rw[r]at this;let:=zr ⋯
  .rw[gN];let:=k _<|U.trans<|zz S
end As
namespace Au
abbrev st:=top 38
def sc:zy ["thing","number","sign"] ["thing"]<|zF st:=CP
include T in
def ok(F:yd0 K "digest" st f fd)(o:xu P w K mg dX 3 "spelled" ["thing"]<|BQ K):zj P w K mg dX CO 4 f fd ["thing"]<|Nh K:=by
 let:=F.ok sc λ_ _ _ _ H J Q E y h=>?_;let#[v,t,rfl,hd,g,k]:=h;let:=let p:=_;let l:=_;let A:=_;let G:=_;pZ p l (zC (u:=G) (wS 1 sc.nd zG)<|zC (yQ (tb:=A) EM rfl (Oe<|wc o y<|zA (pv 0) zB) (wN 2 sc.nd)<|zE<|wS 1 sc.nd<|zP xY (zP xE (zP Ho (yI (v:=.int 31) rfl T.nM #[_,Ej])<|pv 1)<|zI HZ (by rfl) T.ord PyProof.Rows.boot_ord<|zA (pv 2) zB)<|yI (v:=.int 97) rfl T.lZ #[_,Ej])<|zE<|zJ<|pv 1) ?_;let:=#[v,t,Ej,hd,g,λn z=>#[_,Ej,WN (λi j b=>∃x,j=[A0 v,A0<|.int<|((cs t.sp).take i).foldl fK 0,x]/\b=n) #[Ee,Ej,Ej] ?_ ?_]]
 .rintro i c j b D B s r q ⟨x,rfl,rfl⟩;let:=q #[.inl #[∅,∅],_,Ej,Ej,∅,r.nx _ _ #[A0<|.str #[#v[c]],?_,Ej]];let e:(cs t.sp)[i]?=A0 c:=by rw[<-s];simp
  rw[YE,e,Ue];rfl
 .rintro j b ⟨x,rfl,rfl⟩;let:=?_;rw[za,Yg];let:=k _ z
end Au
namespace Av
abbrev st:=inClass (top 68) 7
def sc:zy ["self"] ["self"]<|zF st:=CP
include T in
def ok(F:yd K "names" "Shelf.names" st f fd):zj P w K mg dX CO 1 f fd ["self"]<|ph P w K aC:=by
 let:=F.ok sc λ_ _ _ _ H s Q E r h=>?_;let#[a,n,S,rfl,sh,k]:=h;let#[g,c,b,d2,j,ts,nx,rfl,nd,h1,h2,h3,h4,h5,h6,o,p,q]:=sh;let:=#[_,zE<|zJ<|zY (NE rfl) (by rfl) T.list JA<|zA (yE (pv 0) rfl) zB,?_];let:=#[a,aC,c,_,_,Ej,h1,T.cls,T.n1,Ej,b,_,Ej,h4,λl i=>?_];let e:(((S.zip ts).map λe=>(EE e.1.nm,V.ref e.2)).map λkv=>kV kv.1)=S.map λe=>V.str e.nm:=by
  rw[ZV];have:(S.zip ts).map (·.1)=S:=Uo ⋯;conv=>rhs;rw[<-this]
  rw[ZV];rfl
 rw[e];let:=k l i
end Av
namespace Aw
abbrev st:=inClass (top 68) 1
def sc:zy ["self","name","thing","halves","head"] ["self","name","thing"]<|zF st:=CP
include T in
def ok(F:yd K "take" "Shelf.take" st f fd):zj P w K mg dX CO 1 f fd ["self","name","thing"]<|zzX P w K aC:=by
 let:=F.ok sc λ_ _ _ _ H vs Q E hr h=>?_;let#[a,fp,S,e,t,rfl,sh,r,ht,hd,hn,hl,k]:=h;let hu:=Ky hr;let#[g,j,c,d2,b,ts,nx,rfl,nd,h1,h2,h3,h4,h5,h6,h7,h8,h9]:=id sh;let:=let X0:=_;let D0:=_;let l:=_;let u2:=_;let u3:=_;pZ X0 D0 (zC (u:=u3) (wS 3 sc.nd<|xV Y4 PySem.F.slot_str_partition PySem.F.type_str_partition uX (pv 1)<|zA zK zB)<|zC (u:=u2) (wS 4 sc.nd<|wI K (pv 3) zG)<|zC (u:=l) (y6 hu (yE (pv 0) rfl) (pv 4) (zI (XL rfl) (by rfl) T.max Uk<|zA (GA hu (yE (pv 0) rfl) (pv 4) zG #[Ej,Ej,Ej,Ej])<|zA (zP xE (zY PP (by rfl) T.int PyProof.Rows.boot_int<|zA (wI K (pv 3) zG) zB) zG) zB) rfl)<|zC (y6 hu (yE (pv 0) rfl) (pv 1) (pv 2) rfl)<|zE<|aJ hr.units (yE (pv 0) rfl) (pv 2) (pv 1) rfl) ?_;let wK:=sh.wK.tup;let nl:↑(Xc e.n)<=2000:=by
  let ac:(e.n:Int).natAbs.log2<1920:=by
   have:=r.num;rw[Int.natAbs_natCast];rcases J1 e.n with z|z;.rw[z];decide
   .have:e.n.log2<20:=(Nat.log2_lt<|⋯).mpr ⋯;lia
  have:=Um ac;let J:↑(Xc e.n)<=1921:=this;lia
 let a2:`e.nm<=100000:=by have:=r.hl;let e1:`dot=1:=rfl;unfold En.nm;rw[yo,yo,e1];lia
 simp only[YC,ZJ,Yd,YY,not_or,YM,and_true,not_false_eq_true]at nd;let#[#[a1,ad,af,ah],#[al,am,an],#[A,B],D]:=nd;let:=#[Ej,e.h,Xc e.n,46,Ej,by rw[R9];rfl,r.free,a2,λp np=>?_];let l:=zz (o:=.tup [V.str e.h,V.str #[#v[46]],V.str<|Xc e.n]) np;let hp:yq K (upd H p<|.tup [V.str e.h,V.str #[#v[46]],V.str<|Xc e.n]) p [V.str e.h,V.str #[#v[46]],V.str<|Xc e.n]:=yq.of zD;show No _ _ _ _<|upd H p<|.tup [V.str e.h,V.str #[#v[46]],V.str<|Xc e.n];generalize upd H p (.tup [V.str e.h,V.str #[#v[46]],V.str<|Xc e.n])=s at l hp;let g1:=l _ _ h1;let g4:=l _ _ h4;let g6:=l _ _ h6;let:=#[p,_,_,_,Ej,Ej,hp,Ej,a,aC,j,_,_,Ej,g1,T.cls,T.n3,Ej,b,Ej,.inl #[_,.inl g6],_,wu.k (k:=(EE e.h:Key)) g6,?_];let#[m,em,en]:∃m:Nat,(U0 nx (EE e.h:Key)).getD (V.int 0)=V.int (m:Int)/\m=(wY S e.h).getD 0:=by rw[h8];cases wY S e.h with|none=>let:=#[0,Ej,Ej]|some m=>let:=#[m,Ej,Ej]
 rw[em];let:=#[p,_,_,_,Ej,Ej,hp,Ej,e.n,Ej,by have:=r.num;lia,_,_,Ej,?_];let L:(if(e.n:Int)+1>(m:Int)then(e.n:Int)+1 else(m:Int))=((max m<|e.n+1:Nat):Int):=by split<;>lia
 rw[L];let a3:`nx<2000:=⋯;let:=#[a,aC,j,_,_,Ej,g1,T.cls,T.n3,Ej,b,_,Ej,tV.k (k:=(EE e.h:Key)) g6<|yM<|⋯,?_];let o1:Off [a,j,c,d2,b] H<|upd s b<|.dK<|yh nx (EE e.h:Key)<|V.int ((max m<|e.n+1:Nat):Int):=(Off.of l).upd (by simp);let x:upd s b (.dK<|yh nx (EE e.h:Key)<|V.int ((max m<|e.n+1:Nat):Int)) a=A0 (.ins aC j<|Sl c d2 b):=zH ah▸g1;let U:upd s b (.dK<|yh nx (EE e.h:Key)<|V.int ((max m<|e.n+1:Nat):Int)) c=A0 (.dK<|(S.zip ts).map λe=>((EE e.1.nm:Key),V.ref e.2)):=zH B▸g4;let ap:upd s b (.dK<|yh nx (EE e.h:Key)<|V.int ((max m<|e.n+1:Nat):Int)) b=A0 (.dK<|yh nx (EE e.h:Key)<|V.int ((max m<|e.n+1:Nat):Int)):=zD;let N:upd s b (.dK<|yh nx (EE e.h:Key)<|V.int ((max m<|e.n+1:Nat):Int)) j=A0 (.own a):=zH an▸l _ _ h2;let#[a4,e5,_]:=h5.2.2.2;let Y:upd s b (.dK<|yh nx (EE e.h:Key)<|V.int ((max m<|e.n+1:Nat):Int)) d2=H d2:=by rw[zH D,e5];let:=l _ _ e5
 generalize upd s b (.dK<|yh nx (EE e.h:Key)<|V.int ((max m<|e.n+1:Nat):Int))=v at o1 x U ap N Y;let zl:↑((S.zip ts).map λe=>((EE e.1.nm:Key),V.ref e.2))<=2000:=by rw[ZA,List.length_zip];lia
 let:=#[a,aC,j,_,_,Ej,x,T.cls,T.n1,Ej,c,_,Ej,tV.k (k:=(EE e.nm:Key)) U<|yM<|⋯,?_];let ek:((S.zip ts).map λe=>((EE e.1.nm:Key),V.ref e.2)).map (·.1)=S.map λe=>(EE e.nm:Key):=by
  rw[ZV];have:(S.zip ts).map (·.1)=S:=Uo ⋯;conv=>rhs;rw[<-this]
  rw[ZV];rfl
 let hk:(EE e.nm:Key)∉((S.zip ts).map λe=>((EE e.1.nm:Key),V.ref e.2)).map (·.1):=λz=>by rw[ek]at z;let#[J,as,q]:=ZH.mp z;let:=hn<|ZH.mpr #[J,as,dV q]
 rw[kF hk];let o2:Off [a,j,c,d2,b] H<|upd v c<|.dK<|(S.zip ts).map (λe=>((EE e.1.nm:Key),V.ref e.2))++[(EE e.nm,V.ref t)]:=o1.upd (by simp);let y:upd v c (.dK<|(S.zip ts).map (λe=>((EE e.1.nm:Key),V.ref e.2))++[(EE e.nm,V.ref t)]) a=A0 (.ins aC j<|Sl c d2 b):=zH ad▸x;let R:upd v c (.dK<|(S.zip ts).map (λe=>((EE e.1.nm:Key),V.ref e.2))++[(EE e.nm,V.ref t)]) j=A0 (.own a):=zH al▸N;let X:upd v c (.dK<|(S.zip ts).map (λe=>((EE e.1.nm:Key),V.ref e.2))++[(EE e.nm,V.ref t)]) c=A0 (.dK<|(S.zip ts).map (λe=>((EE e.1.nm:Key),V.ref e.2))++[(EE e.nm,V.ref t)]):=zD;let Z:upd v c (.dK<|(S.zip ts).map (λe=>((EE e.1.nm:Key),V.ref e.2))++[(EE e.nm,V.ref t)]) d2=H d2:=(zH<|EG A)▸Y;let ab:upd v c (.dK<|(S.zip ts).map (λe=>((EE e.1.nm:Key),V.ref e.2))++[(EE e.nm,V.ref t)]) b=A0 (.dK<|yh nx (EE e.h:Key)<|V.int ((max m<|e.n+1:Nat):Int)):=by rwa[zH<|EG B]
 generalize upd v c (.dK<|(S.zip ts).map (λe=>((EE e.1.nm:Key),V.ref e.2))++[(EE e.nm,V.ref t)])=H3 at o2 y R X Z ab;let T3:ThD P w K H3 d2<|S.map λe=>(e.d,V.str e.nm):=ThD.off wK o2 Z h5;let a0:Dt K H3 e.d<|.ref t:=Dt.off wK o2 _ _ r.key.1 ht;let:=#[a,aC,j,_,_,Ej,y,T.cls,T.n2,Ej,t,d2,_,e.d,Ej,Ej,T3,by rw[ZA];lia,r.key,a0,λo T4 ⟨es,eo⟩=>?_];let ay:e.d∉(S.map λe=>(e.d,V.str e.nm)).map (·.1):=by rwa[ZV]
 rw[kF ay]at T4;let o3:Off [a,j,c,d2,b] H<|upd H3 d2 o:=o2.upd (by simp);let:=k _ o3 #[g.snoc r hd hn<|⋯,j,c,d2,b,ts++[t],_,Ej,by simp[a1,ad,af,ah,al,am,an,A,B,D],zH af▸y,zH am▸R,by rw[ZS,ZS,h3];rfl,?_,?_,by rw[zH<|EG D];let:=ab,?_,?_,?_];.rw[zH A,X,List.zip_append h3.symm,ZM];rfl
 .rw[ZM];let:=T4
 .have:=xD nx (EE e.h:Key)<|V.int ((max m<|e.n+1:Nat):Int);rw[ZS,JH];lia
 .intro h;rw[Ny,Iu];by_cases q:e.h=h;.rw[Z4<|by rw[q],Z4 q,<-q,<-en];rfl
  .rw[ZX<|λz=>q (dV z).symm,ZX q];let:=h8 h
 .intro i J t' G q2;rcases VA i `S with z|z|z;.rw[Yr z]at G;rw[Yr<|⋯]at q2;let:=Dt.off wK o3 _ _ (g.ent J<|ZI G).key.1<|h9 i J t' G q2
  .subst z;rw[Yy<|ZG _,Nat.sub_self]at G;rw[Yy<|⋯,h3,Nat.sub_self]at q2;cases G;cases q2;let:=Dt.off wK o3 _ _ r.key.1 ht
  .rw[Jd<|by rw[ZS,JH];lia]at G;cases G
end Aw
def OV{ts:Dc}(h:`ts=`S):((S.zip ts).map λe=>((EE e.1.nm:Key),V.ref e.2)).map (·.1)=S.map λe=>(EE e.nm:Key):=by
 rw[ZV];have:(S.zip ts).map _=S:=Uo ⋯;conv=>rhs;rw[<-this]
 rw[ZV];rfl
def WU{ts:Dc}(h:`ts=`S)(x:Str):(U0 ((S.zip ts).map λe=>((EE e.1.nm:Key),V.ref e.2)) (EE x:Key)).isSome=decide (x∈S.map En.nm):=by
 let ek:=OV h;rw[YV,Z6];constructor;.intro z;let#[v,hv]:=Yx.mp z;have:=qX hv;simp_all
 .intro z;cases hv:U0 _ (EE x:Key)with|some v=>rfl|none=>let:=absurd ?_<|Gn hv;simp_all
def cg{ts:Dc}(g:tO S)(h:`ts=`S){e:En}{t:Er}(f:S[i]?=A0 e)(j:ts[i]?=A0 t):U0 ((S.zip ts).map λe=>((EE e.1.nm:Key),V.ref e.2)) (EE e.nm:Key)=A0 (V.ref t):=by
 let c:(((S.zip ts).map λe=>((EE e.1.nm:Key),V.ref e.2)).map (·.1)).Nodup:=by rw[OV h];have:=ME (S:=λa b:Key=>a≠b) _ (λa b h z=>h<|dV z) g.nn;rw[ZV]at this;let:=this
 let hm:(.inr _,V.ref t)∈(S.zip ts).map λe=>((EE e.1.nm:Key),V.ref e.2):=ZH.mpr #[(e,t),ZI<|by rw[J4];trivial,Ej];let:=vZ c hm
namespace Ax
abbrev st:=top 65
def sc:zy ["table","thing"] ["table","thing"]<|zF st:=CP
include T in
def ok(F:yd0 K "is_key" st f fd):zj P w K mg dX CO 1 f fd ["table","thing"]<|zz7 K:=by let:=F.ok sc λ_ _ _ _ H j Q E g h=>?_;let#[e,c,d,v,rfl,h4,hd,k]:=h;let:=#[_,zE<|zJ<|yX (zI zZ (by rfl) T.isinstance ZR<|zA (pv 1)<|zA (yY (v:=.ty "str") rfl T.str YD rfl) zB)<|xW<|wC (N7 g.units) (pv 1) (pv 0)<|by rfl,?_];let:=#[_,_,d,_,Ej,hd,T.is<|by simp[kinds],_,Ej,?_];cases d with|str x=>cases hd;let:=U1 #[e,_,Ej,wu.k (k:=EE x) h4,k]|none=>let:=UZ k|bool b=>let:=UZ k|int i=>let:=UZ k|list ds=>let:=UZ k|tuple ds=>let:=UZ k|dict c=>let:=UZ k
end Ax
def WT{ts:Dc}(h:`ts=`S)(d:EB):fU ((S.zip ts).map λe=>((EE e.1.nm:Key),V.ref e.2)) d=GD S d:=by cases d with|str x=>let:=WU h x|none=>rfl|bool b=>rfl|int i=>rfl|list ds=>rfl|tuple ds=>rfl|dict Dl=>rfl
namespace Ay
abbrev st:=inClass (top 68) 5
def sc:zy ["self","name"] ["self","name"]<|zF st:=CP
include T in
def ok(F:yd K "has" "Shelf.has" st f fd)(b:xu P w K mg dX 1 "is_key" ["table","thing"]<|zz7 K):zj P w K mg dX CO 2 f fd ["self","name"]<|lD P w K aC:=by let:=F.ok sc λ_ _ _ _ H o Q E i h=>?_;let#[a,l,S,d,v,rfl,sh,hd,k]:=h;let#[g,e,c,d2,j,ts,nx,rfl,nd,h1,h2,h3,h4,n]:=sh;let:=#[_,zE<|zJ<|wc b i<|zA (yE (pv 0) rfl)<|zA (pv 1) zB,?_];let:=#[a,aC,e,_,_,Ej,h1,T.cls,T.n1,Ej,c,_,d,v,Ej,h4,hd,?_];rwa[WT h3 d]
end Ay
namespace Az
abbrev st:=top 66
def sc:zy ["store","name"] ["store","name"]<|zF st:=CP
include T in
def ok(F:yd0 K "need_name" st f fd)(b:Met P w K mg dX aC 2 "has" ["self","name"]<|lD P w K aC):zj P w K mg dX CO 3 f fd ["store","name"]<|qt P w K aC:=by let:=F.ok sc λ_ _ _ _ H o Q E i h=>?_;let#[a,n,S,d,v,rfl,sh,hd,q,k]:=h;let#[g,c,j,d2,l,ts,nx,e,nd,h1,_]:=id sh;let:=#[_,zE<|zX (yR<|zU (K:=K)<|z8 (pv 0) T.cls b i.m<|zA (pv 1) zB) (zE xS) zM,?_];let:=#[a,c,_,Ej,h1,Ej,a,_,S,d,v,Ej,sh,hd,_,Ej,?_];rw[q];let:=UZ k
end Az
namespace AA
abbrev st:=inClass (top 68) 6
def sc:zy ["self","name"] ["self","name"]<|zF st:=CP
include T in
def ok(F:yd K "thing" "Shelf.thing" st f fd)(r:xu P w K mg dX 3 "need_name" ["store","name"]<|qt P w K aC):zj P w K mg dX CO 4 f fd ["self","name"]<|sZ P w K aC:=by
 let:=F.ok sc λ_ _ _ _ H R Q E l h=>?_;let#[a,G,S,d,v,rfl,sh,hd,q,k1]:=h;let A:=Ky l;let#[g,u,t,d2,B,ts,nx,y,nd,h1,h2,h3,h4,h5,h6,J,L,z]:=id sh;let:=let s:=_;let p:=_;pZ s p (zC (zS<|wc r l<|zA (pv 0)<|zA (pv 1) zB)<|zE<|zJ<|IH A (yE (pv 0) rfl) (pv 1)<|λ_ _=>rfl) ?_
 let:=#[a,_,S,d,v,Ej,sh,hd,q,?_];cases d with|str x=>
  cases hd;let q:=ZT q;let#[e,j,rfl]:=ZH.mp q;let#[i,N,D]:=Ym.mp j;let c:i<`ts:=⋯;let n:S[i]?=A0 e:=by simp_all
  let o:=ZO c;let hv:=cg g h3 n o;let:=#[a,aC,u,_,_,Ej,h1,T.cls,T.n1,Ej,t,_,Ej,hv▸wu.k (k:=EE e.nm) h4,k1 e j rfl _<|z i e _ n o]|none=>cases q|bool b=>cases q|int i=>cases q|list ds=>cases q|tuple ds=>cases q|dict Dl=>cases q
end AA
namespace AB
abbrev st:=inClass (top 68) 4
def sc:zy ["self","name","forms"] ["self","name","forms"]<|zF st:=CP
include T in
def ok(F:yd K "need_form" "Shelf.need_form" st f fd)(u:Met P w K mg dX aC 4 "thing" ["self","name"]<|sZ P w K aC):zj P w K mg dX CO 5 f fd ["self","name","forms"]<|mL P w K aC:=by
 let:=F.ok sc λ_ _ _ _ H U Q E q h=>?_;let#[a,A,N,S,x,b,rfl,sh,th,D,n,l,k]:=h;let#[g,v,J,d2,L,ts,nx,z,nd,h1,_]:=id sh;let:=#[_,zE<|zX (wT (Tv (K:=K) q.units) (wI K (z8 (pv 0) T.cls u q.m<|zA (pv 1) zB) zG) (pv 2)<|by with_unfolding_all rfl) (zE xS) zM,?_];let:=#[a,v,_,Ej,h1,Ej,a,_,S,.str x,.str x,Ej,sh,Ej,?_,λe p ex t s=>?_];.cases no:GD S<|.str x with|true=>rfl|false=>let no:=JM no;rw[Kt no b]at l;cases l
 .let ex:=by injection ex
  let#[i,o,R,_]:=th e p;rw[o]at s;let#[c,r,y,B]:=uA s;cases y;let G:=jR o;let j:=v7 g p b;rw[<-ex,G]at j;let:=#[t,_,_,_,Ej,Ej,B,GV ..,.str i.word,_,Ej,#[A,_,Ej,D,zu.strs b],(vH b n).1,?_,show 0<=60 by decide,!decide (i.word∈b),?_,?_]
  .cases i;.show Ez "leaf"=Eg;lk
   .show Ez "tree"=Eg;lk
   .show Ez "note"=Eg;lk
  .rw[RS];cases decide<|i.word∈b<;>rfl
  .rw[l]at j;rw[<-j];let:=UZ k
end AB
def gr:∀y∈(["leaf","tree"]:By),Ez y=Eg:=λy b=>by
 rcases ZJ.mp b with rfl|b;.lk
 .rw[ZC.mp b];lk
def jf:∀y∈(["tree"]:By),Ez y=Eg:=λy b=>by rw[ZC.mp b];lk
def iV:∀y∈(["note"]:By),Ez y=Eg:=λy b=>by rw[ZC.mp b];lk
namespace AC
abbrev st:=inClass (top 68) 3
def sc:zy ["self","thing","row","parent"] ["self","thing"]<|zF st:=CP
include T in
def ok(F:yd K "need_names" "Shelf.need_names" st f fd)(U:Met P w K mg dX aC 5 "need_form" ["self","name","forms"]<|mL P w K aC):zj P w K mg dX CO 6 f fd ["self","thing"]<|mJ P w K aC:=by
 let:=F.ok sc λ_ _ _ _ H vs Q E hr h=>?_;let#[a,Z,S,t,v,rfl,sh,th,hd,j,k]:=h;let#[g,X,d1,d2,d3,ts,nx,ac,nd,h1,_]:=id sh;let:=let X0:=_;let D0:=_;let u1:=_;let u2:=_;let u3:=_;let u4:=_;let u5:=_;let u6:=_;pZ X0 D0 (xR (u:=u6) (zX (t:=u2) (wT yK (wI K (pv 1) zG) zK) (zE<|yQ (tb:=u1) EM rfl (kN<|wI K (pv 1) zG) (wN 2 sc.nd)<|zE<|zS<|z8 (pv 0) T.cls U hr.m<|zA (wI K (pv 2) zG)<|zA (zQ<|zA zK<|zA zK zB) zB) zM)<|zE<|zX (t:=u5) (wT yK (wI K (pv 1) zG) zK) (zC (u:=u4) (zS<|z8 (pv 0) T.cls U hr.m<|zA (wI K (pv 1) zG)<|zA (zQ<|zA zK zB) zB)<|zE<|yQ (tb:=u3) EM rfl (kN<|wI K (pv 1) zG) (wN 3 sc.nd)<|zE<|zS<|z8 (pv 0) T.cls U hr.m<|zA (pv 3)<|zA (zQ<|zA zK zB) zB) zM) ?_
 cases t with|leaf ls=>let#[p,b,rfl,n,hb]:=Hc hd;let:=#[λl s=>l=[A0<|.ref a,A0<|.ref p,Ee,Ee]/\s=H,#[p,_,_,_,Ej,Ej,n,Ej,Ej,Ei,congrArg V.bl<|by lk,UZ #[Ej,Ej]],?_];rintro l s ⟨rfl,rfl⟩;let:=#[p,_,_,_,Ej,Ej,n,Ej,Ej,Ei,congrArg V.bl<|by lk,UZ<|k _<|zx.refl _]|tree rs=>
  let#[p,b,rfl,n,hb]:=HF hd;let#[b',xs,e,N,hx]:=hb;cases e;let j:=j;let:=#[λl s=>∃o,l=[A0<|.ref a,A0<|.ref p,o,Ee]/\zx H s,?_,?_];.let:=#[p,_,_,_,Ej,Ej,n,Ej,Ej,Eg,congrArg V.bl<|ZK rfl,U1<|#[p,_,_,_,Ej,Ej,n,Ej,b,Ej,#[_,N],vU (λi L A=>∃o,L=[A0<|.ref a,A0<|.ref p,o,Ee]/\zx H A) #[Ee,Ej,zx.refl _] (λi L A _ ⟨_,_,e⟩=>e.yr N) ?_ λ_ _ z=>z]];rintro i x L A D B R hD hB ⟨o,rfl,s2⟩;let#[r,c,Y,rfl,hc]:=M9 hx R;let:=hB #[a,X,_,Ej,s2 _ _ h1,Ej,c,_,_,_,Ej,Ej,s2.yr hc,Ej,UY 2,λq nq=>?_];let J:=s2.trans<|zz (o:=.tup [V.str "leaf",V.str "tree"]) nq;let:=#[a,q,Z,S,r.2,["leaf","tree"],Ej,sh.same J,th,yq.of zD,gr,Yc.mp j r<|ZI Y,hD.nx _ _ #[_,Ej,J]]
  .rintro l s ⟨o,rfl,s2⟩;let:=#[p,_,_,_,Ej,Ej,s2.yr n,Ej,Ej,Ei,congrArg V.bl<|by lk,UZ<|k _ s2]|note x ps y=>
  let#[p,b,rfl,n,hb]:=uP hd;let j:(z7 S x ["tree"]&&ps.all λp=>z7 S p ["note"])=Eg:=j;rw[ZQ]at j;let:=#[λl s=>l=[A0<|.ref a,A0<|.ref p,Ee,Ee]/\s=H,#[p,_,_,_,Ej,Ej,n,Ej,Ej,Ei,congrArg V.bl<|by lk,UZ #[Ej,Ej]],?_];rintro l s ⟨rfl,rfl⟩;let:=#[p,_,_,_,Ej,Ej,n,Ej,Ej,Eg,congrArg V.bl<|ZK rfl,U1<|#[a,X,_,Ej,h1,Ej,p,_,_,_,Ej,Ej,n,Ej,UY 1,λq nq=>?_]];let J:=zz (o:=.tup [V.str "tree"]) nq;let:=#[a,q,Z,S,x,["tree"],Ej,sh.same J,th,yq.of zD,jf,j.1,?_];generalize upd s q (.tup [V.str "tree"])=G at J;let:=#[p,_,_,_,Ej,Ej,J.yr n,Ej,b,Ej,#[_,J.yr hb],vU (λi L A=>∃o,L=[A0<|.ref a,A0<|.ref p,Ee,o]/\zx s A) #[Ee,Ej,J] (λi L A _ ⟨_,_,e⟩=>e.yr hb) ?_ ?_];.rintro i z L A D B R hD hB ⟨o,rfl,s2⟩;rw[ZN]at R;let#[r,Y,rfl]:=Z2.mp R;let:=hB #[a,X,_,Ej,s2 _ _ h1,Ej,UY 1,λq2 ab=>?_];let s4:=s2.trans<|zz (o:=.tup [V.str "note"]) ab;let:=#[a,q2,Z,S,r,["note"],Ej,sh.same s4,th,yq.of zD,iV,Yc.mp j.2 r<|ZI Y,hD.nx _ _ #[_,Ej,s4]]
  .rintro L A ⟨o,rfl,s2⟩;let:=k _ s2
end AC
def W4(g:tO S){e f:En}(n:e∈S)(o:f∈S)(h:e.nm=f.nm):e=f:=by
 let#[i,p,c]:=Ym.mp n;let#[j,q,l]:=Ym.mp o;let b:=JF.mp g.nn;have:i=j:=by
  rcases VA i j with z|z|z;.let:=absurd (by simp_all)<|b i j (by rwa[ZA]) (by rwa[ZA]) z
  .let:=z
  .let:=absurd (by simp_all)<|b j i (by rwa[ZA]) (by rwa[ZA]) z
 subst this;rw[<-c,l]
namespace AD
abbrev st:=inClass (top 68) 2
def sc:zy ["self","thing","head","number","name"] ["self","thing"]<|zF st:=CP
include T in
def ok(F:yd K "put" "Shelf.put" st f fd)(QU:xu P w K mg dX 6 "need_thing" ["thing"]<|zzP K)(QV:Met P w K mg dX aC 6 "need_names" ["self","thing"]<|mJ P w K aC)(Qp:xu P w K mg dX 1 "letter_of" ["thing"]<|IY K)(QW:xu P w K mg dX 4 "digest" ["thing"]<|Nh K)(QX:Met P w K mg dX aC 1 "take" ["self","name","thing"]<|zzX P w K aC):zj P w K mg dX CO 7 f fd ["self","thing"]<|pG P w K aC:=by
 let:=F.ok sc λ_ _ _ _ H vs Q E i h=>?_;let#[a,fp,S,t,v,rfl,sh,th,hd,g,hl,hn,X,k3]:=h;let gt:=g.1;let hu:=Ky i;let:=let X0:=_;let D0:=_;let u1:=_;let u2:=_;let u3:=_;let u4:=_;let u5:=_;let u6:=_;pZ X0 D0 (zC (u:=u6) (zS<|wc QU i<|zA (pv 1) zB)<|zC (u:=u5) (zS<|z8 (pv 0) T.cls QV i.m<|zA (pv 1) zB)<|zC (u:=u4) (zX (wT (dh i.units) (pv 1) (yE (pv 0) rfl)<|by with_unfolding_all rfl) (zE<|zJ<|aB i.units (yE (pv 0) rfl) (pv 1)<|λ_ _=>rfl) zM)<|zC (u:=u3) (wS 2 sc.nd<|zP zO (wc Qp i<|zA (pv 1) zB)<|zY qF (by rfl) T.str YD<|zA (wc QW i<|zA (pv 1) zB) zB)<|zC (u:=u2) (wS 3 sc.nd<|GA hu (yE (pv 0) rfl) (pv 2) zG #[Ej,Ej,Ej,Ej])<|zC (u:=u1) (wS 4 sc.nd<|gE (pv 2)<|pv 3)<|zC (zS<|z8 (pv 0) T.cls QX i.m<|zA (pv 4)<|zA (pv 1) zB)<|zE<|zJ<|pv 4) ?_;let:=#[t,v,Ej,hd,g,λH1 Y=>?_];let#[q,ev]:∃t,v=.ref t:=by let#[c,r,e,_]:=uA hd;let:=#[c,e]
 subst ev;let j:=sh.same Y;let s:=Dt.same Y _ _ hd;let#[N,o,d1,d2,d3,ts,nx,J,nd,h1,h2,h3,h4,h5,h6,h7,h8,h9]:=id j;let:=#[a,o,_,Ej,h1,Ej,a,fp,S,t,.ref q,Ej,j,th,s,X,λH2 s2=>?_];let B:=Y.trans s2;let l:=j.same s2;let b:=Dt.same s2 _ _ s;let#[N,o,d1,d2,d3,ts,nx,J,nd,h1,h2,h3,h4,h5,h6,h7,h8,h9]:=id l;let U:=FQ gt;let:=#[a,aC,o,_,_,Ej,h1,T.cls,T.n2,Ej,q,d2,_,t.dat,Ej,Ej,h5,U,b,_,Ej,?_];cases hv:U0 (S.map λe=>(e.d,V.str e.nm)) t.dat with|some u=>let#[p,hp,e]:=ZH.mp<|qX hv;let#[G,x,rfl]:=ZH.mp hp;let e:G.d=t.dat:=e;let R:U0 (S.map λe=>(e.d,V.str e.nm)) t.dat=A0 (V.str G.nm):=vZ (by rw[ZV];let:=N.nd)<|ZH.mpr #[G,x,by rw[e]];let:=U1 #[a,aC,o,_,_,Ej,h1,T.cls,T.n2,Ej,q,d2,_,t.dat,_,Ej,Ej,h5,U,b,R,k3 _ S G #[Off.of B,l,x,e,.inl rfl]]|none=>
  let y:=λz=>by have:=Gn hv;rw[ZV]at this;let:=this z
  let:=UZ ?_;let db:=IT t.sp;let A:=hn<|Xf t;let:=#[.ref q,t,Ej,b,.ref q,t,Ej,b,gt,λH3 D=>#[_,Ej,?_,_,_,Ej,Ej,?_,?_]]
  .let hz:(dg t.sp).natAbs<97:=⋯;rcases J1 (dg t.sp).natAbs with z|z;.rw[z];decide
   .have:(dg t.sp).natAbs.log2<7:=(Nat.log2_lt<|⋯).mpr ⋯;lia
  .rw[Tu];let h1:=KZ (n:=(dg t.sp).toNat) ⋯;let h2:=G6 t;let:=zr ⋯
  rw[Tu];show Xh 2 (V.str<|Xf t) _ H3 _;let Z:=l.same D;let g1:=D _ _ h1;let g6:=D _ _ h6;let:=#[a,aC,o,_,_,Ej,g1,T.cls,T.n3,Ej,d3,Ej,.inl #[_,.inl g6],_,wu.k (k:=(EE<|Xf t:Key)) g6,?_];let em:(U0 nx (EE<|Xf t:Key)).getD (V.int 0)=V.int (((wY S<|Xf t).getD 0:Nat):Int):=by rw[h8];cases wY S<|Xf t with|none=>rfl|some m=>rfl
  rw[em];let dl:(".":Str).length=1:=by lk
  let:=#[_,Ej,by have:=kO t;lia,by rw[dl];decide,_,Ej,A,?_];let L:Xf t++"."++Xc ((wY S<|Xf t).getD 0)=(FW S t).nm:=by unfold En.nm FW;rw[R9]
  rw[L];let:=#[a,o,_,Ej,g1,Ej,a,fp,S,FW S t,q,Ej,Z,#[U,j7 t,A,kO t],Dt.same D _ _ b,y,Tn N<|j7 t,hl,λH4 o4 ab=>k3 _ _ _ #[(Off.of<|B.trans D).trans o4,ab,by simp,Ej,.inr #[Ej,Ej,y]]]
end AD
inductive zzE(K:CK)(vs:Di)(H:Hp)(Q:VK)(e3:XK):Prop|mk(d:EB)(v:V)(h0:vs=[v])(h1:Dw K H d v)(h2:small d=Eg)(h3:∀H',zx H H'->Q (.bl<|K5 d) H'):zzE K vs H Q e3
inductive mO(K:CK)(vs:Di)(H:Hp)(Q:VK)(e3:XK):Prop|mk(x:Str)(h0:vs=[.str x])(h1:`x<=1000)(h2:∀p H',zx H H'->yp K H' p ((Xp x).map V.str)->Q (.ref p) H'):mO K vs H Q e3
inductive zzH(K:CK)(vs:Di)(H:Hp)(Q:VK)(e3:XK):Prop|mk(d e:EB)(v u:V)(h0:vs=[v,u])(h1:Dw K H d v)(h2:Dw K H e u)(h3:small d=Eg)(h4:small e=Eg)(h5:∀H',zx H H'->Q (.bl<|K5 d&&vS e) H'):zzH K vs H Q e3
def aZ:[V.str "/"]=[V.str #[#v[47]]]:=by rfl
def SN(x:Str):PySem.Txt.split x #[#v[47]]=U5 x:=rfl
def nR:U4 x=Eg↔`x<=20/\(cs x).all Xb=Eg:=by unfold U4;rw[ZQ,YF]
def wG:zV x=Eg↔1<=`x/\`x<=8/\(cs x).all Xt=Eg:=by unfold zV;rw[ZQ,ZQ,YF,YF,and_assoc]
def uO(h:U4 x=Eg):Ok 1000 x:=by let#[h1,h2]:=nR.mp h;let:=#[⋯,?_];rw[yT];intro c b;have:=Yc.mp h2 c b;unfold Xb at this;lia
def GL(h:zV x=Eg):Ok 1000 x:=#[by have:=(wG.mp h).2.1;lia,Fq h]
def j5:∀{ls:By},(∀l∈ls,`l<=1000)->yF (ls.map .str)=Eg|[],_=>rfl|l::ls,h=>by show(decide _&&yF _)=Eg;rw[ZK<|h l ZD,j5 λx b=>h x<|ZB _ b];rfl
def Gf:∀{rs:Df},(∀r∈rs,r.1.length<=1000/\r.2.length<=1000)->yF (rs.map yt)=Eg|[],_=>rfl|r::rs,h=>by let#[h1,h2]:=h r ZD;show(decide (2<=1000)&&(decide _&&(decide _&&Eg))&&yF _)=Eg;rw[ZK h1,ZK h2,Gf λx b=>h x<|ZB _ b];rfl
def P8{ls:By}(h:∀l∈ls,U4 l=Eg)(hl:`ls<=63):v6<|.leaf ls:=by
 let h1:=λl hl=>(uO<|h l hl).len;let:=#[#[by show`ls<=1000;lia,λp b=>uO<|h p b],?_,?_,λc e=>?_]
 .show(decide _&&(decide _&&(ls.map _).all _)||_)=Eg;have:(ls.map E9).all Xw=Eg:=by rwa[List.all_map,Yc]
  rw[this];rfl
 .show(decide (2<=1000)&&(decide _&&(decide _&&yF _&&Eg)))=Eg;rw[j5 h1,ZA,ZK<|show`ls<=1000 by lia];rfl
 .let e:=by injection e
  subst e;simp_all
def Rb{b:Df}(h:∀r∈b,zV r.1=Eg/\Ok 1000 r.2)(f:XB (b.map (·.1))=Eg)(hl:`b<=63):v6<|.tree b:=by
 let l:∀b,(∀r∈b,zV r.1=Eg/\Ok 1000 r.2)->∀p∈yB b,Ok 1000 p:=by intro b;induction b with|nil=>intro _ p c;cases c|cons r b ih=>
   intro h p c;rcases ZJ.mp c with q|c;.rw[q];let:=GL (h r ZD).1
   .rcases ZJ.mp c with q|c;.rw[q];let:=(h r ZD).2
    .let:=ih (λx o=>h x<|ZB _ o) p c
 let:=#[#[?_,l b h],?_,?_,λs e=>?_];.show(yB b).length<=1000;rw[Ap.uq];lia
 .show(decide ("tree"="leaf")&&(decide (1=1)&&vS (.tuple<|b.map yt))||(decide _&&(decide (1=1)&&((b.map yt).all sX&&XB _))||_))=Eg;let i:(b.map yt).all sX=Eg:=by rw[List.all_map,Yc];intro r f;show(zV r.1&&Eg)=Eg;rw[(h r f).1];rfl
  let j:(b.map yt).map Xv=b.map (·.1):=by rw[ZV];rfl
  rw[i,j,f];rfl
 .show(decide (2<=1000)&&(decide _&&(decide _&&yF (b.map yt)&&Eg)))=Eg;rw[Gf λr f=>#[(GL (h r f).1).len,(h r f).2.len],ZA,ZK<|show`b<=1000 by lia];rfl
 .let e:=by injection e
  subst e;let:=#[by show 2<=63;decide,λe n t g=>?_];rcases ZJ.mp n with q|q;.rw[q]at g;cases g
  .rw[ZC.mp q]at g;cases g;rwa[ZA]
def Br(j:Ok 1000 x)(b:U4 y=Eg)(c:∀p∈ps,Ok 1000 p)(nd:ps.Nodup)(hl:`ps<=2):v6<|.note x ps y:=by
 let:=#[#[?_,λp h=>?_],?_,?_,λl e=>?_];.show([x,dig `ps]++ps++[y]).length<=1000;simp;lia
 .let h:p∈[x,dig `ps]++ps++[y]:=h;simp at h;rcases h with z|z|z|z;.rwa[z]
  .rw[z];let:=#[Yz (FU<|⋯)<|∅,N5 _]
  .let:=c p z
  .rw[z];let:=uO b
 .show(decide (("note":Str)="leaf")&&(decide (3=1)&&vS (.str x))||(decide _&&(decide (3=1)&&Fw (.str x))||decide (("note":Str)="note")&&(decide (3=3)&&(Eg&&((ps.map E9).all Xx&&(decide _&&decide _)&&U4 y)))))=Eg;let f:(ps.map E9).all Xx=Eg:=by rw[List.all_map,Yc];let:=λ_ _=>rfl
  let g:(ps.map E9).map Wq=ps:=by rw[ZV];let:=Uw _
  rw[f,g,B0 nd,ZA,b,ZK hl,ZK<|show`ps=`ps from rfl,ZK<|rfl];rfl
 .show(decide (4<=1000)&&(decide _&&(decide (`x<=1000)&&(decide _&&yF (ps.map .str)&&(decide (`y<=1000)&&Eg)))))=Eg;rw[j5 λp h=>(c p h).len,ZA,ZK<|show`ps<=1000 by lia,ZK j.len,ZK (uO b).len];rfl
 .let e:=by injection e
  subst e;let:=#[by show 4<=63;decide,λe i o n=>?_];simp only[ZJ,YY]at i;grind
def aU{l:By}(h:l.Pairwise Fc):XB l=Eg:=nU.mpr #[h.imp λ{a b}z q=>List.lt_asymm z q,Ya.mpr<|h.imp λ{a b}z=>O1 z]
def kE(h:z7 S x ws=Eg):x∈S.map En.nm:=by let#[e,b,q]:=YH.mp h;rw[ZQ,YF]at q;let:=ZH.mpr #[e,b,q.1]
def P1{ls:By}(h:At S x<|.leaf ls):z7 S x ["leaf","tree"]=Eg:=by let#[e,b,rfl,hd]:=h;let:=YH.mpr #[e,b,?_];rw[ZQ,Z6,Z6,jR hd];let:=#[Ej,ZD ..]
def P3{b:Df}(h:At S x<|.tree b):z7 S x ["leaf","tree"]=Eg:=by let#[e,c,rfl,hd]:=h;let:=YH.mpr #[e,c,?_];rw[ZQ,Z6,Z6,jR hd];let:=#[Ej,ZB _<|ZD ..]
def WO(h:Tree d S x):z7 S x ["leaf","tree"]=Eg:=by cases d with|zero=>trivial|succ d=>
  rcases h with⟨ls,h⟩|⟨Do,h,_⟩;.let:=P1 h
  .let:=P3 h
def TZ{Q:VK}{E:XK}(sh:yc P w K C H a fp S)(ok:wU S)(g:v6 t)(f:namesOk S t=Eg)(l:`S<2000)(hv:Dt K H t.dat v)(k:∀H2,Off fp H H2->yc P w K C H2 a fp (CV S t).1->Q (.str (CV S t).2) H2):pG P w K C [.ref a,v] H Q E:=by
 let:=#[a,fp,S,t,v,Ej,sh,ok.th,hv,g,l,λh=>by have:=O3 ok.num h;lia,f,λH2 s j p=>?_]
 .let#[of,c,b,n,q]:=p;rcases q with q|⟨q,u,r⟩;.rw[q]at b c;let i:=II ok #[j,b,Ej,n];rw[i]at k;let:=k H2 of c
  .let i:=M3 λe o hd=>r<|ZH.mpr #[e,o,hd];simp_all
inductive rJ(P:Et)(w:Ey)(K:CK)(C:Er)(vs:Di)(H:Hp)(Q:VK)(e3:XK):Prop|mk(a d:Er)(fp:Dc)(S:Dh)(Do:Df)(h0:vs=[.ref a,.ref d])(h1:yc P w K C H a fp S)(h2:wU S)(h3:Rd H d<|.dK<|Nz Do)(h4:(Do.map (·.1)).Nodup)(h5:∀r∈Do,zV r.1=Eg/\z7 S r.2 ["leaf","tree"]=Eg)(h6:`Do<=63)(h7:`S<2000)(h8:∀H',Off fp H H'->yc P w K C H' a fp (CV S<|.tree<|Xi Do).1->Q (.str (CV S<|.tree<|Xi Do).2) H'):rJ P w K C vs H Q e3
def jE(h:yc P w K C H a fp S):∃dx d1 d2 d3,H a=A0 (.ins C dx<|Sl d1 d2 d3):=by let#[_,dx,d1,d2,d3,_,_,_,_,h1,_]:=h;let:=#[dx,d1,d2,d3,h1]
namespace AE
abbrev st:=top 56
def sc:zy ["thing","labels"] ["thing"]<|zF st:=CP
include T in
def ok(F:yd0 K "is_path" st f fd)(t:xu P w K mg dX 1 "is_label" ["thing"]<|IA K):zj P w K mg dX CO 2 f fd ["thing"]<|zzE K:=by let:=F.ok sc λ_ _ _ _ H X Q E B h=>?_;let#[d,v,rfl,hd,sm,k]:=h;let:=let A:=_;let s:=_;let L:=_;let R:=_;pZ A s (zC (u:=R) (zX (yR<|zU (K:=K)<|zI (zZ (K:=K)) (by rfl) T.isinstance ZR<|zA (pv 0)<|zA (yY (v:=.ty "str") rfl T.str YD rfl) zB) (zE<|zJ jS) zM)<|zC (u:=L) (wS 1 sc.nd<|xV Y4 PySem.F.slot_str_split PySem.F.type_str_split KS (pv 0)<|zA zK zB)<|zE<|zJ<|yX (wC G1 (zI zN (by rfl) T.len Yh<|zA (pv 1) zB)<|yI (v:=.int 4) rfl T.kj #[_,Ej])<|xW<|zI (j6 rfl) (by rfl) T.all JI<|zA (yS (sc:=zF st) (N:=["thing","labels"]) (N':=["label"]) (src:=[Ee]) .a rfl rfl rfl (yN<|pv 1) (λ_ _ _ _=>wN 0 n1) (λ_ _ _ _=>xU) λ_ _ _ _=>wc t B<|zA (pv 0) zB) zB) ?_;let:=#[_,_,d,_,Ej,hd,T.is<|by simp[kinds],_,Ej,?_];cases d with
 |str x=>
  cases show v=_ from hd;let Y:=ZT sm;let:=UZ #[Ej,x,47,Ej,aZ,⋯,λl D=>?_];rw[SN];let u:=zz (o:=.lst<|(U5 x).map V.str) D;let:=#[l,_,Ej,.inl<|yp.of zD,_,Ej,U3 (λh1=>?_)<|λh1=>?_]
  .let h1:↑(U5 x)<=4:=by grind[ZA]
   let:=#[l,Ej,#[_,yp.of zD],qR (xs:=(U5 x).map V.str) (λi n r j=>∃o,r=[o]/\zx (upd H l<|.lst<|(U5 x).map V.str) j/\n=(((U5 x).take i).map zV).map V.bl) #[Ee,Ej,zx.refl _,Ej] (zr<|by rw[ZA];lia) ?_ ?_ ?_];.rintro i n r j U ⟨o,rfl,g,rfl⟩;let:=#[yp.of<|g _ _ zD,?_];rw[ZA,ZA,Z8];lia
   .rintro i y n r j c ⟨o,rfl,g,rfl⟩;rw[ZN]at c;cases q:(U5 x)[i]?with|none=>rw[q]at c;cases c|some z=>rw[q]at c;let c:=dI c;subst c;let Z:=KA<|ZI q;let:=#[.str z,_,Ej,Ej,ZK<|⋯,λS J=>#[_,Ej,g.trans J,?_]];rw[xG q,ZM];rfl
   .rintro n r j ⟨o,rfl,g,rfl⟩ p G;let:=#[p,_,Ej,yp.of zD,?_];rw[ZA,Yg,all_map];let e:K5 (.str x)=(U5 x).all zV:=by show(decide (↑(U5 x)<=4)&&(U5 x).all zV)=_;rw[ZK h1];rfl
    rw[e]at k;let:=k _<|(u.trans g).trans<|zz G
  .let e:K5 (.str x)=Ei:=by show(decide (↑(U5 x)<=4)&&(U5 x).all zV)=_;rw[ZZ<|λz=>h1<|ZK<|by rw[ZA];lia];rfl
   rw[e]at k;let:=k _ u|none=>let:=U1<|k _<|zx.refl _|bool b=>let:=U1<|k _<|zx.refl _|int i=>let:=U1<|k _<|zx.refl _|list ds=>let:=U1<|k _<|zx.refl _|tuple ds=>let:=U1<|k _<|zx.refl _|dict Dl=>let:=U1<|k _<|zx.refl _
end AE
namespace AF
abbrev st:=top 57
def sc:zy ["path","labels"] ["path"]<|zF st:=CP
include T in
def ok(F:yd0 K "folders_of" st f fd):zj P w K mg dX CO 1 f fd ["path"]<|mO K:=by
 let:=F.ok sc λ_ _ _ _ H J Q E G h=>?_;let#[x,rfl,L,k]:=h;let:=let r:=_;let q:=_;let B:=_;pZ r q (zC (u:=B) (fz (i:=1) sc.nd<|xV Y4 PySem.F.slot_str_split PySem.F.type_str_split KS (pv 0)<|zA zK zB)<|zE<|zJ<|yS (sc:=zF st) (N:=["path","labels"]) (src:=[Ee,A0 1]) .a rfl rfl rfl (Rr rfl T.range<|zA zG<|zA (zI zN (by rfl) T.len Yh<|zA (pv 1) zB) zB) λ_ _ _ _=>wN 0<|show(["count","labels"]:By).Nodup by lk (λ_ _ _ _=>xU) λ_ _ _ _=>xV Y4 Vw Vx Ti zK<|zA (yA (zxK:FD _<|zwP K) (pv 1) xA<|yC<|pv 0) zB) ?_;let cl:=IU x;let s:("/":Str).length=1:=by lk
 let:=#[Ej,x,47,Ej,aZ,⋯,λl A=>?_];rw[SN];let u:=zz (o:=.lst<|(U5 x).map V.str) A;let:=#[l,_,Ej,.inl<|yp.of zD,1,_,Ej,#[∅,∅,⋯,by rw[ZA];lia],?_];let t:((↑((U5 x).map V.str):Int)-1).toNat=↑(U5 x)-1:=by rw[ZA];lia
 rw[t];let:=kG (λi g j c=>∃o,j=[o,A0<|.ref l]/\zx _ c/\g=((EK i).map λi=>PySem.Txt.join "/"<|(U5 x).take<|i+1).map V.str) #[Ee,Ej,zx.refl _,Ej] (zr<|⋯) ?_ ?_ ?_;.simp_all
 .rintro i g j c D ⟨o,rfl,b,rfl⟩;let:=#[Ej,_,Ej,l,_,Ej,yp.of<|b _ _ zD,λp e=>?_];let v:Xn ((U5 x).map V.str) Ee (A0<|1+(i:Int))=((U5 x).take<|i+1).map V.str:=by grind[cn,Ut]
  rw[v];let:=#["/",p,(U5 x).take<|i+1,Ej,Ej,.inl<|yp.of zD,?_,_,Ej,b.trans<|zz e,?_]
  .let h1:=Op (n:=1000) ((U5 x).take<|i+1) (λy z=>by have:=KA<|JO z;lia);let h2:↑((U5 x).take<|i+1)<=1001:=by rw[Z8];lia
   let:=zr ?_;rw[s];lia
  .rw[List.range_succ,ZM,ZM];rfl
 .rintro g j c ⟨o,rfl,b,rfl⟩ p e;let:=k p _ ((u.trans b).trans<|zz e)<|yp.of zD
end AF
namespace AG
abbrev st:=top 58
def sc:zy ["path","lines"] ["path","lines"]<|zF st:=CP
include T in
def ok(F:yd0 K "is_file" st f fd)(c:xu P w K mg dX 2 "is_path" ["thing"]<|zzE K)(g:xu P w K mg dX 3 "is_lines" ["thing"]<|HA K):zj P w K mg dX CO 4 f fd ["path","lines"]<|zzH K:=by
 let:=F.ok sc λ_ _ _ _ H q Q E b h=>?_;let#[d,e,v,u,rfl,hd,i,l,n,k]:=h;let:=#[_,zE<|zJ<|yX (wc c b<|zA (pv 0) zB)<|xW<|wc g b<|zA (pv 1) zB,?_];let:=#[d,v,Ej,hd,l,λo s2=>#[_,Ej,U3 (λh1=>?_)<|λh1=>?_]];.rw[h1]at k;let:=#[e,u,Ej,Dw.same s2 _ _ i,n,λp j=>k _<|s2.trans j]
 simp_all
end AG
namespace AH
abbrev st:=top 72
def sc:zy ["shelf","rows"] ["shelf","rows"]<|zF st:=CP
include T in
def ok(F:yd0 K "put_rows" st f fd)(G:Met P w K mg dX aC 7 "put" ["self","thing"]<|pG P w K aC):zj P w K mg dX CO 8 f fd ["shelf","rows"]<|rJ P w K aC:=by
 let:=F.ok sc λ_ _ _ _ H vs Q E y h=>?_;let#[a,d,Z,S,n,rfl,sh,ok,hd,nd,i,X,sl,k]:=h;let#[R,i1,i2,i3,q]:=jE sh;let:=#[_,zE<|zJ<|z8 (pv 0) T.cls G y.m<|zA (zQ<|zA zK<|zA (zY xZ (by rfl) T.tuple YN<|zA (TL (K:=K) rfl y.units (by rfl) T.sorted Y9<|pv 1) zB) zB) zB,?_];let j:∀r∈n,zV r.1=Eg/\Ok 1000 r.2:=λr m=>by let#[e,N,J]:=ZH.mp<|kE (i r m).2;let:=#[(i r m).1,J▸ok.nm N]
 let:=#[a,R,_,Ej,q,Ej,d,n,Ej,hd,⋯,λp x=>#[(kZ (j p x).1).ok,(j p x).2.ok],λl ss ts Y pm so sm nl hl dt=>?_];let L:=Wb nd pm so;subst L;let:=#[l,_,Ej,.inl #[yp.of hl,λA n2=>?_]];let B:=zz (o:=.tup ts) n2;let:=#[UY 2,λp4 U=>?_];let v:=zz (o:=.tup [V.str "tree",V.ref A]) U;let c:=(sm.trans B).trans v;let d0:Dt K _ (Th.tree _).dat _:=#[p4,_,Ej,yq.of zD,_,_,Ej,Ej,_,_,Ej,#[A,ts,Ej,yq.of<|v _ _ zD,zu.same (B.trans v) _ _ dt],Ej];let z:∀{r},r∈Xi n↔r∈n:=(xN n).mem_iff;let g:=Rb (λr m=>j r<|z.mp m) (aU<|Nf nd)<|(xN n).length_eq▸X;let s:=Yc.mpr λr m=>(i r<|z.mp m).2;let:=TZ (sh.same c) ok g s sl d0 λD t u=>k D (λb o nb e=>t b o nb<|c _ _ e) u
end AH
def Gd(P:Et)(w:Ey)(K:CK)(C:Er):(Nat->Sp)|0=>λ_ _ _ _=>False|d+1=>λg H Q _=>∃(a c:Er)(b:Dc)(S:Dh)(fs:Dj)(f:Dk),g=[.ref a,.ref c]/\yc P w K C H a b S/\wU S/\H c=A0 (.dK f)/\c∉b/\yj K H fs f/\yw (d+1) fs/\`fs<=63/\`S+1+wt fs<=2000/\∀e,Off b H e->yc P w K C e a b (U2 (d+1) S fs).1->Q (.str (U2 (d+1) S fs).2) e
def xf{α:Type}{l:List α}{x:α}(h:l[i]?=A0 x):l.take (i+1)=l.take i++[x]:=by rw[YE,h];rfl
inductive PfI(P:Et)(w:Ey)(K:CK)(aC:Er)(H1:Hp)(a c rw' fo:Er)(fp:Dc)(fs:Dj)(S:Dh)(i:Nat)(σ:St)(H':Hp):Prop|mk(o4 o5 o6 o7 o8:Option V)(fa:List<|Str×Er)(h0:σ=[A0<|.ref a,A0<|.ref c,A0<|.ref rw',A0<|.ref fo,o4,o5,o6,o7,o8])(h1:yc P w K aC H' a fp ((CS<|fs.take i).foldl CM (S,[])).1)(h2:H' rw'=A0 (.dK<|Nz ((CS<|fs.take i).foldl CM (S,[])).2))(h3:H' fo=A0 (.dK<|CZ fa))(h4:vq K H1 H' (fs.take i) fa)(h5:Off (rw'::fo::fp) H1 H'):PfI P w K aC H1 a c rw' fo fp fs S i σ H'
inductive PgI(P:Et)(w:Ey)(K:CK)(aC:Er)(H1 H:Hp)(a c rw' fo:Er)(fp:Dc)(d:Nat)(fs:Dj)(S:Dh)(fa:List<|Str×Er)(ob2:Obj)(j:Nat)(σ:St)(H':Hp):Prop|mk(o4 o5 o6 o7 o8:Option V)(h0:σ=[A0<|.ref a,A0<|.ref c,A0<|.ref rw',A0<|.ref fo,o4,o5,o6,o7,o8])(h1:yc P w K aC H' a fp (((CU fs).take j).foldl (CQ d fs)<|(CS fs).foldl CM (S,[])).1)(h2:H' rw'=A0 (.dK<|Nz (((CU fs).take j).foldl (CQ d fs)<|(CS fs).foldl CM (S,[])).2))(h3:H' fo=A0 (.frz ob2<|.dK<|CZ fa))(h4:vq K H1 H' fs fa)(h5:Off fp H H'):PgI P w K aC H1 H a c rw' fo fp d fs S fa ob2 j σ H'
namespace AI
abbrev st:=top 73
def sc:zy ["shelf","files","rows","folders","path","lines","parts","label","beneath"] ["shelf","files"]<|zF st:=CP
def step{L d:Nat}(F:yd0 K "put_files" st f fd)(T:Txt P w K mg t1 t2 t3 t4 t5 t6 t7 t8 t9 aL aC aN aT aA b1 b2 b3 b4 b5 b6 b7 b8 aD)(Qc:Met P w K mg dX aC 7 "put" ["self","thing"]<|pG P w K aC)(Qi:xu P w K mg dX 8 "put_rows" ["shelf","rows"]<|rJ P w K aC)(hL:8<=L)(hd:d<=100)(Qs:xu P w K mg dX L "put_files" ["shelf","files"]<|Gd P w K aC d):zj P w K mg dX CO (L+1) f fd ["shelf","files"]<|Gd P w K aC<|d+1:=by
 let:=F.ok sc λ_ _ _ _ H vs Q E hr h=>?_;let#[a,c,D,S,fs,Dl,rfl,sh,ok,hc,dx,ff,gf,fl,sl,k]:=h;let hu:=Ky hr;let:=let X0:=_;let D0:=_;let u1:=_;let u2:=_;let u3:=_;let u4:=_;let u5:=_;let u6:=_;let u7:=_;let u8:=_;let u9:=_;pZ X0 D0 (zC (u:=u9) (wS 2 sc.nd yU)<|zC (u:=u8) (wS 3 sc.nd yU)<|zC (u:=u7) (vW<|yQ (tb:=u5) EM rfl (vE<|XT<|pv 1) (jF rfl<|zT (wN 4 sc.nd)<|zT (wN 5 sc.nd) xO)<|zC (u:=u4) (wS 6 sc.nd<|xV Y4 PySem.F.slot_str_partition PySem.F.type_str_partition Bo (pv 4)<|zA zK zB)<|zC (u:=u3) (wS 7 sc.nd<|wI K (pv 6) zG)<|zE<|zX (t:=u1) (u:=u2) (wT yK (pv 7)<|pv 4) (zE<|y6 hu (pv 2) (pv 7) (z8 (pv 0) T.cls Qc (hr.mono<|⋯)<|zA (zQ<|zA zK<|zA (pv 5) zB) zB) rfl)<|zC (wS 8 sc.nd<|GA hu (pv 3) (pv 7) yU #[Ej,Ej,Ej,Ej])<|zC (y6 hu (pv 8) (wI K (pv 6) zG) (pv 5) rfl)<|zE<|y6 hu (pv 3) (pv 7) (pv 8) rfl)<|zC (vW<|yQ (tb:=u6) EM rfl (vE<|XT<|pv 3) (jF rfl<|zT (wN 7 sc.nd)<|zT (wN 8 sc.nd) xO)<|zE<|y6 hu (pv 2) (pv 7) (vF Qs (hr.mono<|⋯)<|zA (pv 0)<|zA (pv 8) zB) rfl)<|zE<|zJ<|vF Qi (hr.mono<|⋯)<|zA (pv 0)<|zA (pv 2) zB) ?_;let:=λg ec=>?_;let u1:=zz (o:=.dK []) ec;let:=λn dy=>?_;let u2:=zz (o:=.dK []) dy;let sb:=u1.trans u2;let ej:upd (upd H g<|.dK []) n (.dK []) g=A0 (.dK<|Nz []):=u2 _ _ zD;let eh:upd (upd H g<|.dK []) n (.dK []) n=A0 (.dK<|CZ []):=zD;let ed:=sh.same sb;let c6:=sb _ _ hc;let d4:=ff.same sb;let bo:H g=Ee:=ec;let as:H n=Ee:=u1.free dy;let rf:g≠n:=zL (zD (H:=H) (a:=g) (o:=.dK [])) dy;generalize upd (upd H g<|.dK []) n (.dK [])=Hb at sb ej eh ed c6 d4 ⊢;let cr:c≠g:=zL hc bo;let cf:c≠n:=zL hc as;let:=#[c,Dl,Ej,c6,λob=>?_];let cc:upd Hb c (.frz ob<|.dK Dl) c=A0 (.frz ob<|.dK Dl):=zD;let nz:∀{b:Er},b≠c->upd Hb c (.frz ob<|.dK Dl) b=Hb b:=λ{b}z=>zH z;let oz:Off [c] Hb<|upd Hb c<|.frz ob<|.dK Dl:=z9;let ct:yc P w K aC (upd Hb c<|.frz ob<|.dK Dl) a D S:=ed.off (z6 c6) oz λb hb z=>dx<|ZC.mp z▸hb;let d5:=d4.off (z6 c6) oz;let cl:upd Hb c (.frz ob<|.dK Dl) g=A0 (.dK<|Nz []):=by rwa[nz<|EG cr]
 let a8:upd Hb c (.frz ob<|.dK Dl) n=A0 (.dK<|CZ []):=by rwa[nz<|EG cf]
 generalize upd Hb c (.frz ob<|.dK Dl)=H1 at cc nz oz ct d5 cl a8 ⊢;let d3:∀b∈g::n::D,∃o,H1 b=A0 o:=λb hb=>by
  rcases ZJ.mp hb with z|hb;.rw[z];let:=#[_,cl]
  .rcases ZJ.mp hb with z|hb;.rw[z];let:=#[_,a8]
   .let:=ct.ex b hb
 let db:g∉D:=λz=>by let#[o,e]:=sh.ex _ z;rw[bo]at e;cases e
 let ca:n∉D:=λz=>by let#[o,e]:=sh.ex _ z;rw[as]at e;cases e
 let cX:c∉g::n::D:=λz=>by
  rcases ZJ.mp z with z|z;.let:=cr z
  .rcases ZJ.mp z with z|z;.let:=cf z
   .let:=dx z
 let kl:`Dl=`fs:=ff.len;let em:∀b∈g::n::D,∀xs,¬Rd H1 b (.tup xs):=λb hb=>by
  rcases ZJ.mp hb with z|hb;.let:=z6 cl b<|ZC.mpr z
  .rcases ZJ.mp hb with z|hb;.let:=z6 a8 b<|ZC.mpr z
   .let:=ct.wK.tup b hb
 let:=#[c,ob,Dl,Ej,cc,X3 (PfI P w K aC H1 a c g n D fs S) #[Ee,Ee,Ee,Ee,Ee,[],Ej,ct,cl,a8,vq.nil,Off.refl _ _] (λi σ H' hi h=>?_) ?_ ?_];.let#[_,_,_,_,_,_,_,_,_,_,_,o]:=h;let:=o _ _ cX cc
 .rintro i kk v T0 σ H' D' B hi nT hD hB ⟨o4,o5,o6,o7,o8,s,rfl,Y,ad,an,Fl,N⟩;let#[f,dn,rfl,dv,a2]:=d5.get hi;let#[c3,c2,co]:=gu ok gf sl i;let c0:=xf dn;let d7:=gf.wg f<|ZI dn;let d1:Dt K H' (AnJ.yr f.2) v:=Dt.off em N _ _ (qW a2) dv;let uT:=zz (o:=.tup [kV<|.inr<|CL f.1,v]) nT;let:=hB #[T0,_,Ej,yq.of zD,Ej,_,_,Ej,_,_,Ej,Ej,hid λB hB=>?_];let bm:=Y.same uT;let cd:=uT _ _ ad;let ay:=uT _ _ an;let a5:=Fl.same uT;let be:=N.trans<|Off.of uT;let dd:=Dt.same uT _ _ d1;generalize upd H' T0 (.tup [kV<|.inr<|CL f.1,v])=H2 at bm cd ay a5 be dd hB;clear Y ad an Fl N d1 nT uT;let go:∀{H3:Hp},zx H2 H3->yc P w K aC H3 a D ((CS<|fs.take i).foldl CM (S,[])).1/\H3 g=A0 (.dK<|Nz ((CS<|fs.take i).foldl CM (S,[])).2)/\H3 n=A0 (.dK<|CZ s)/\vq K H1 H3 (fs.take i) s/\Off (g::n::D) H1 H3/\Dt K H3 (AnJ.yr f.2) v:=λ{H3}e=>#[bm.same e,e _ _ cd,e _ _ ay,a5.same e,be.trans<|Off.of e,Dt.same e _ _ dd];let a7:∀{H3:Hp}{b:Er},yc P w K aC H3 a D ((CS<|fs.take i).foldl CM (S,[])).1->H3 g=A0 (.dK<|Nz ((CS<|fs.take i).foldl CM (S,[])).2)->H3 n=A0 (.dK<|CZ s)->Off (g::n::D) H1 H3->H3 b=Ee->H1 b=Ee:=λ{H3 b}h1 h2 h3 o z=>by cases q:H1 b with|none=>rfl|some x=>
    by_cases m:b∈g::n::D
    .rcases ZJ.mp m with y|m;.rw[y,h2]at z;cases z
     .rcases ZJ.mp m with y|m;.rw[y,h3]at z;cases z
      .let#[o',e']:=h1.ex b m;rw[e']at z;cases z
    .rw[o b x m q]at z;cases z
  let ql:((CS<|fs.take i).foldl CM (S,[])).2.length<=63:=by have:=congrArg List.length co;rw[ZA,ZA]at this;let h2:=qU<|fs.take i;rw[Z8]at h2;lia
  match e1:f.1,d7 with
  |[],gl=>let:=absurd rfl gl.1|[l],gl=>
   let ep:CL [l]=l:=MZ l;rw[e1,ep]at hB;let ds:zV l=Eg:=gl.2.2.1 l<|ZC.mpr rfl;let:=hB #[Ej,.inr #[l,47,Ej,aZ,xP ds,λp np=>?_]];let up:=zz (o:=.tup [V.str l,V.str "",V.str ""]) np;let#[Z,af,G,U,am,a6]:=go up;let:=#[p,_,_,_,Ej,Ej,yq.of zD,Ej,?_];let:=#[Ej,Eg,?_,U1 ?_];.show V.bl (decide<|V.str l=V.str l)=V.bl Eg;rw[ZK rfl]
   generalize upd H2 p (.tup [V.str l,V.str "",V.str ""])=H3 at Z af G U am a6 ⊢;let#[ix,i1,i2,i3,ei]:=jE Z;let:=#[a,ix,_,Ej,ei,Ej,UY 2,λp4 n4=>?_];let v4:=zz (o:=.tup [V.str "leaf",v]) n4;let#[vp,ew,rfl,vt,vd]:=id a6;let d0:Dt K (upd H3 p4<|.tup [V.str "leaf",V.ref vp]) (Th.leaf f.2).dat<|.ref p4:=#[p4,_,Ej,yq.of zD,_,_,Ej,Ej,_,_,Ej,Dt.same v4 _ _ a6,Ej];let a4:=Z.same v4;let a9:=v4 _ _ af;let a0:=v4 _ _ G;let ac:=U.same v4;let ap:=am.trans<|Off.of v4;delta XG;dsimp only;show pG P w K aC [V.ref a,V.ref p4] (upd H3 p4<|.tup [V.str "leaf",V.ref vp]) _ _;generalize upd H3 p4 (.tup [V.str "leaf",V.ref vp])=H4 at d0 a4 a9 a0 ac ap ⊢;let el:CS (fs.take<|i+1)=CS (fs.take i)++[(l,f.2)]:=by rw[c0,vO,e1]
   let ef:(CS<|fs.take<|i+1).foldl CM (S,[])=CM ((CS<|fs.take i).foldl CM (S,[])) (l,f.2):=by rw[el,Ue];rfl
   let nl:l∉((CS<|fs.take i).foldl CM (S,[])).2.map (·.1):=λz=>by rw[co]at z;let nd:=Tc (fs:=fs.take<|i+1) (by rw[Ut];let:=gf.nd.sublist<|V8 _ _);rw[el,ZM,YS]at nd;let:=nd.2.2 l z l (ZC.mpr rfl) rfl
   let dz:=ac.one (f:=f) e1;rw[<-c0]at dz;clear a7 go co;generalize(CS<|fs.take i).foldl CM (S,[])=q at a4 a9 c3 c2 ef nl ql;let:=TZ a4 c3 (P8 a2.2 a2.1) rfl c2 d0 λH5 R ab=>?_;let ah:H5 g=_:=R _ _ db a9;let J:H5 n=_:=R _ _ ca a0;let A:=dz.off (X:=D) (λc hc=>d3 c<|ZB _<|ZB _ hc) a4.wK.tup R;let a3:Off (g::n::D) H1 H5:=λb o nb e=>R b o (λz=>nb<|ZB _<|ZB _ z)<|ap b o nb e;let:=#[g,_,Ej,tV.k (k:=.inr l) ah<|yM<|by unfold Nz;rw[ZA];lia,hD.nx _ _ #[_,_,_,_,_,s,Ej,?_,?_,?_,?_,?_]];.rw[ef];let:=ab.off (z6 ah) z9 λb hb z=>db<|ZC.mp z▸hb
   .rw[ef,zD,Ph nl];rfl
   .rwa[zH<|EG rf]
   .let:=A.off (X:=[g]) (λc hc=>by rw[ZC.mp hc];let:=#[_,cl]) (z6 ah) z9
   .let:=a3.upd<|ZD ..|l::b::r,gl=>
   let ep:CL (l::b::r)=l++#[#v[47]]++CL (b::r):=aO l b r;let ds:zV l=Eg:=gl.2.2.1 l<|ZD ..;let pl:↑(CL<|l::b::r)<=100000:=by have:=Ht gl.2.2.1;rw[za];lia
   let el:CS (fs.take<|i+1)=CS (fs.take i):=by rw[c0,vO,e1];let:=Yi _
   let ev:=bb gf dn e1;rw[e1]at hB;let:=hB #[Ej,.inl #[l,CL<|b::r,47,by rw[ep];rfl,aZ,xP ds,by rw[<-ep];let:=pl,λp np=>?_]];let up:=zz (o:=.tup [V.str l,V.str #[#v[47]],V.str<|CL<|b::r]) np;let#[Z,af,G,U,am,a6]:=go up;let dp:upd H2 p (.tup [V.str l,V.str #[#v[47]],V.str<|CL<|b::r]) p=A0 (.tup [V.str l,V.str #[#v[47]],V.str<|CL<|b::r]):=zD;let:=#[p,_,_,_,Ej,Ej,yq.of zD,Ej,?_];let:=#[Ej,Ei,?_,UZ ?_];.show V.bl (decide<|V.str l=V.str (CL<|l::b::r))=V.bl Ei;rw[ZZ λz=>dM l b r<|by injection z]
   generalize upd H2 p (.tup [V.str l,V.str #[#v[47]],V.str<|CL<|b::r])=H3 at Z af G U am a6 dp ⊢;let:=#[n,Ej,.inl #[_,.inl G],λe ne=>?_];let ue:=zz (o:=.dK []) ne;let di:H1 e=Ee:=a7 Z af G am ne;let a4:=Z.same ue;let a9:=ue _ _ af;let a0:=ue _ _ G;let ac:=U.same ue;let ap:=am.trans<|Off.of ue;let de:=Dt.same ue _ _ a6;let dr:=ue _ _ dp;let c8:upd H3 e (.dK []) e=A0 (.dK []):=zD;let ek:∀q∈s,q.2≠e:=λq hq z=>by let#[kq,ea,_]:=U.at_ q hq;rw[z,ne]at ea;cases ea
   generalize upd H3 e (.dK [])=H4 at a4 a9 a0 ac ap de dr c8 ⊢;clear bm cd ay a5 be dd go a7 Z af G U am a6 dp up np;let du:s.map (·.1)=CU (fs.take i):=ac.wg;let dl:`s<=63:=by have:=congrArg List.length du;rw[ZA]at this;let h2:=qU<|fs.take i;rw[Z8]at h2;lia
   let eb:∀{x:Er},H1 x=Ee->x∉g::n::D:=λ{x}hx z=>by let#[o',e']:=d3 x z;rw[hx]at e';cases e'
   by_cases inl:l∈CU (fs.take i)
   .let da:l∈s.map (·.1):=by rwa[du]
    let#[pr,a1,dj]:=ZH.mp da;let#[c4,pb]:=pr;let dj:c4=l:=dj;subst dj;let vv:=uK ac.oY a1;let:=#[_,wu.k (k:=.inr c4) a0,?_];rw[vv];let#[kb,hb,fb]:=ac.at_ _ a1;let hb:H4 pb=A0 (.dK kb):=hb;let fb:yj K H4 (sub (fs.take i) c4) kb:=fb;let nb:H1 pb=Ee:=ac.new _ a1;let et:`kb<=63:=by have:=fb.len;let h2:=sub_len (fs:=fs.take i) (l:=c4);rw[Z8]at h2;lia
    let:=#[p,_,_,_,Ej,Ej,yq.of dr,Ej,pb,_,Ej,tV.k (k:=.inr<|CL<|b::r) hb<|yM<|⋯,?_];let pn:yh kb (.inr<|CL<|b::r) v=kb++[(.inr<|CL<|b::r,v)]:=kF (by rwa[fb.keys]);rw[pn];let A:=ac.old a1 hb fb e1 de a2;rw[<-c0]at A;let bX:=eb nb;let cz:g≠pb:=λz=>bX (by rw[<-z];let:=ZD ..);let cv:n≠pb:=λz=>bX (by rw[<-z];let:=ZB _<|ZD ..);let cx:pb∉D:=λz=>bX<|ZB _<|ZB _ z;let R:Off (g::n::D) H1<|upd H4 pb<|.dK<|kb++[((.inr<|CL<|b::r:Key),v)]:=λx o nx ex=>by rw[zH λz=>by rw[z,nb]at ex;cases ex];let:=ap x o nx ex
    let ab:=a4.off (z6 hb) (z9 (o:=.dK<|kb++[((.inr<|CL<|b::r:Key),v)])) λx hx z=>cx (by rwa[<-ZC.mp z]);let ah:=(zH (o:=.dK<|kb++[((.inr<|CL<|b::r:Key),v)]) cz).trans a9;let J:=(zH (o:=.dK<|kb++[((.inr<|CL<|b::r:Key),v)]) cv).trans a0;generalize upd H4 pb (.dK<|kb++[((.inr<|CL<|b::r:Key),v)])=H5 at A R ab ah J ⊢;let:=#[n,_,Ej,tV.k (k:=.inr c4) J<|yM<|by unfold CZ;rw[ZA];lia,hD.nx _ _ #[_,_,_,_,_,s,Ej,?_,?_,?_,?_,?_]];.rw[el];let:=ab.off (z6 J) z9 λx hx z=>ca<|ZC.mp z▸hx
    .rwa[el,zH rf]
    .rw[zD];let:=congrArg (λz=>A0<|HO.dK z)<|Kq ac.oY a1
    .let:=A.off (X:=[n]) (λc hc=>by rw[ZC.mp hc];let:=#[_,a8]) (z6 J) z9
    .let:=R.upd<|ZB _<|ZD ..
   .let da:l∉s.map (·.1):=by rwa[du]
    let vv:=Sk da;let:=#[_,wu.k (k:=.inr l) a0,?_];rw[vv];let:=#[p,_,_,_,Ej,Ej,yq.of dr,Ej,e,_,Ej,tV.k (k:=.inr<|CL<|b::r) c8<|yM<|by show 0<16777216;decide,?_];let bX:=eb di;let cz:g≠e:=λz=>bX (by rw[<-z];let:=ZD ..);let cv:n≠e:=λz=>bX (by rw[<-z];let:=ZB _<|ZD ..);let cx:e∉D:=λz=>bX<|ZB _<|ZB _ z;let pn:yh ([]:Dk) (.inr<|CL<|b::r) v=[(.inr<|CL<|b::r,v)]:=rfl;rw[pn];let A:=ac.zx2 inl c8 di ek e1 de a2;rw[<-c0]at A;let R:Off (g::n::D) H1<|upd H4 e<|.dK [((.inr<|CL<|b::r:Key),v)]:=λx o nx ex=>by rw[zH λz=>by rw[z,di]at ex;cases ex];let:=ap x o nx ex
    let ab:=a4.off (z6 c8) (z9 (o:=.dK [((.inr<|CL<|b::r:Key),v)])) λx hx z=>cx (by rwa[<-ZC.mp z]);let ah:=(zH (o:=.dK [((.inr<|CL<|b::r:Key),v)]) cz).trans a9;let J:=(zH (o:=.dK [((.inr<|CL<|b::r:Key),v)]) cv).trans a0;generalize upd H4 e (.dK [((.inr<|CL<|b::r:Key),v)])=H5 at A R ab ah J ⊢;let:=#[n,_,Ej,tV.k (k:=.inr l) J<|yM<|by unfold CZ;rw[ZA];lia,hD.nx _ _ #[_,_,_,_,_,s++[(l,e)],Ej,?_,?_,?_,?_,?_]];.rw[el];let:=ab.off (z6 J) z9 λx hx z=>ca<|ZC.mp z▸hx
    .rwa[el,zH rf]
    .rw[zD];let:=congrArg (λz=>A0<|HO.dK z)<|Kp da
    .let:=A.off (X:=[n]) (λc hc=>by rw[ZC.mp hc];let:=#[_,a8]) (z6 J) z9
    .let:=R.upd<|ZB _<|ZD ..
 .rintro σ H' ⟨o4,o5,o6,o7,o8,s,rfl,Y,ad,an,Fl,N⟩;rw[kl,Yg]at Y ad Fl;let:=#[c,ob,Dl,N _ _ cX cc,λo u z=>?_,?_];.let z:H c=A0 (.frz o u):=z;rw[hc]at z;cases z
  let d8:=N _ _ cX cc;let c1:∀x∈[c],∀xs,¬Rd H' x (.tup xs):=λx hx xs z=>by rw[ZC.mp hx]at z;rcases z with z|⟨o,z⟩<;>rw[d8]at z<;>cases z
  let oc:Off [c] H'<|upd H' c<|.dK Dl:=z9;let bm:yc P w K aC (upd H' c<|.dK Dl) a D ((CS fs).foldl CM (S,[])).1:=Y.off c1 oc λx hx z=>dx<|ZC.mp z▸hx;let cd:upd H' c (.dK Dl) g=A0 (.dK<|Nz ((CS fs).foldl CM (S,[])).2):=by rwa[zH<|EG cr]
  let ay:upd H' c (.dK Dl) n=A0 (.dK<|CZ s):=by rwa[zH<|EG cf]
  let a5:vq K H1 (upd H' c<|.dK Dl) fs s:=Fl.off (X:=[c]) (λx hx=>by rw[ZC.mp hx];let:=#[_,cc]) c1 oc;let be:Off D H<|upd H' c<|.dK Dl:=λx o nx ex=>by
   by_cases z:x=c;.rw[z,zD];rw[z,hc]at ex;let:=ex
   .rw[zH z];let:=N x o (λq=>?_)<|by rw[nz z];let:=sb _ _ ex
    rcases ZJ.mp q with q|q;.rw[q,bo]at ex;cases ex
    .rcases ZJ.mp q with q|q;.rw[q,as]at ex;cases ex
     .let:=nx q
  generalize upd H' c (.dK Dl)=H2 at bm cd ay a5 be ⊢;clear Y ad an Fl N d8 c1 oc;let:=#[n,CZ s,Ej,ay,λal=>?_];let am:Off [n] H2<|upd H2 n<|.frz al<|.dK<|CZ s:=z9;let G:upd H2 n (.frz al<|.dK<|CZ s) n=A0 (.frz al<|.dK<|CZ s):=zD;let Z:yc P w K aC (upd H2 n<|.frz al<|.dK<|CZ s) a D ((CS fs).foldl CM (S,[])).1:=bm.off (z6 ay) am λx hx z=>ca<|ZC.mp z▸hx;let af:upd H2 n (.frz al<|.dK<|CZ s) g=A0 (.dK<|Nz ((CS fs).foldl CM (S,[])).2):=by rwa[zH rf]
  let U:vq K H1 (upd H2 n<|.frz al<|.dK<|CZ s) fs s:=a5.off (X:=[n]) (λx hx=>by rw[ZC.mp hx];let:=#[_,a8]) (z6 ay) am;let ap:Off D H<|upd H2 n<|.frz al<|.dK<|CZ s:=λx o nx ex=>by rw[zH λz=>by rw[z,as]at ex;cases ex];let:=be x o nx ex
  generalize upd H2 n (.frz al<|.dK<|CZ s)=H3 at am G Z af U ap ⊢;let dl:s.map (·.1)=CU fs:=U.wg;let dm:↑(CZ s)=↑(CU fs):=by rw[<-dl,ZA];unfold CZ;rw[ZA]
  let er:↑(CS fs)+↑(CU fs)<=63:=by have:=qU fs;lia
  let:=#[n,al,CZ s,Ej,G,X3 (PgI P w K aC H1 H a c g n D d fs S s al) #[o4,o5,o6,o7,o8,Ej,Z,af,G,U,ap] (λj σ H' hj h=>?_) ?_ ?_];.let#[_,_,_,_,_,_,_,_,hf,_]:=h;let:=hf
  .clear Z af G U ap bm cd ay a5 be;rintro j kk v T0 σ H' D' B hj nT hD hB ⟨o4,o5,o6,o7,o8,rfl,Y,ad,an,Fl,N⟩;unfold CZ at hj;rw[ZN]at hj;let#[pr,d9,hj]:=Z2.mp hj;let#[l,b]:=pr;let hj:((.inr l:Key),V.ref b)=(kk,v):=hj;cases hj;let a1:=ZI d9;let c9:(CU fs)[j]?=A0 l:=by rw[<-dl,ZN,d9];rfl
   let#[c3,c2,co]:=iP ok gf fl sl c9;let uT:=zz (o:=.tup [V.str l,V.ref b]) nT;let:=hB #[T0,_,Ej,yq.of zD,Ej,_,_,Ej,_,_,Ej,Ej,?_];let ab:=Y.same uT;let ah:=uT _ _ ad;let J:=uT _ _ an;let A:=Fl.same uT;let R:=N.trans<|Off.of uT;show bJ _ _ _ _ _<|upd H' T0<|.tup [V.str l,V.ref b];generalize upd H' T0 (.tup [V.str l,V.ref b])=H5 at ab ah J A R ⊢;clear Y ad an Fl N uT nT;let#[kb,hb,fb]:=A.at_ _ a1;let hb:H5 b=A0 (.dK kb):=hb;let fb:yj K H5 (sub fs l) kb:=fb;let nb:H1 b=Ee:=A.new _ a1;let eg:b∉D:=λz=>by let#[o',e']:=ct.ex b z;rw[nb]at e';cases e'
   cases d with|zero=>let#[f,hf,b,r,ef]:=((xH fs).2 l).mp<|ZI c9;have:=(gf.wg f hf).2.1;rw[ef,Yj,Yj]at this;lia|succ d=>
    let el:(CU fs).take (j+1)=(CU fs).take j++[l]:=xf c9;let ef:((CU fs).take<|j+1).foldl (CQ (d+1) fs) ((CS fs).foldl CM (S,[]))=CQ (d+1) fs (((CU fs).take j).foldl (CQ (d+1) fs)<|(CS fs).foldl CM (S,[])) l:=by rw[el,Ue];rfl
    let nl:l∉(((CU fs).take j).foldl (CQ (d+1) fs)<|(CS fs).foldl CM (S,[])).2.map (·.1):=λz=>by
     rw[co]at z;let nd:=XZ gf;let e0:(pieces fs).map (·.1)=(CS fs).map (·.1)++CU fs:=by unfold pieces;rw[ZM,ZV,ZV];congr 1;let:=Uw _
     rw[e0,<-Jk j<|CU fs,<-Y1,YS]at nd;let hd:(CU fs).drop j=l::(CU fs).drop (j+1):=by have:=ZW.mp c9;rw[<-this.2];let:=VO this.1
     let:=nd.2.2 l z l (by rw[hd];let:=ZD ..) rfl
    let ql:(((CU fs).take j).foldl (CQ (d+1) fs)<|(CS fs).foldl CM (S,[])).2.length<=63:=by have:=congrArg List.length co;rw[ZA,ZS,ZA,Z8]at this;lia
    generalize((CU fs).take j).foldl (CQ (d+1) fs) ((CS fs).foldl CM (S,[]))=q at ab ah c3 c2 ef nl ql;let:=#[a,b,D,q.1,sub fs l,kb,Ej,ab,c3,hb,eg,fb,gf.sub l,Yz sub_len fl,c2,λH6 a3 dc=>?_];let ch:H6 g=_:=a3 _ _ db ah;let es:H6 n=_:=a3 _ _ ca J;let ee:=A.off (X:=D) (λc hc=>ct.ex c hc) ab.wK.tup a3;let:=#[g,_,Ej,tV.k (k:=.inr l) ch<|yM<|by unfold Nz;rw[ZA];lia,hD.nx _ _ #[_,_,_,_,_,Ej,?_,?_,?_,?_,?_]];.rw[ef];let:=dc.off (z6 ch) z9 λx hx z=>db<|ZC.mp z▸hx
    .rw[ef,zD,Ph nl];rfl
    .rwa[zH<|EG rf]
    .let:=ee.off (X:=[g]) (λc hc=>by rw[ZC.mp hc];let:=#[_,cl]) (z6 ch) z9
    .intro x o nx ex;rw[zH λz=>by rw[z,bo]at ex;cases ex];let:=a3 x o nx<|R x o nx ex
  .rintro σ H' ⟨o4,o5,o6,o7,o8,rfl,Y,ad,an,Fl,N⟩;rw[dm,Yg]at Y ad;let:=#[n,al,CZ s,an,λo u z=>?_,?_];.let z:H n=A0 (.frz o u):=z;rw[as]at z;cases z
   let c1:∀x∈[n],∀xs,¬Rd H' x (.tup xs):=λx hx xs z=>by rw[ZC.mp hx]at z;rcases z with z|⟨o,z⟩<;>rw[an]at z<;>cases z
   let dc:=Y.off c1 (z9 (o:=.dK<|CZ s)) λx hx z=>ca<|ZC.mp z▸hx;let ch:=(zH (o:=.dK<|CZ s) rf).trans ad;let a3:Off D H<|upd H' n<|.dK<|CZ s:=λx o nx ex=>by rw[zH λz=>by rw[z,as]at ex;cases ex];let:=N x o nx ex
   let fe:=fM ok gf fl sl (q:=(CU fs).foldl (CQ d fs)<|(CS fs).foldl CM (S,[])) rfl;let pf:=Pf d S fs;rw[pf]at k;generalize(CU fs).foldl (CQ d fs) ((CS fs).foldl CM (S,[]))=q at dc ch fe k;let#[g1,g2,g3,g4,g5]:=fe;let:=#[a,g,D,q.1,q.2,Ej,dc,g1,.inl ch,g3,λr hr=>#[(g4 r hr).1,let#[e,te]:=(g4 r hr).2;WO te],g5,g2,λH7 en eo=>k H7 (a3.trans en) eo]
end AI
def Sm(g:yw n fs){f:Fi}(o:f∈fs){z:Str}(r:z∈Xp (CL f.1)):∀k∈fs,z≠CL k.1:=λk hk e=>by
 let#[q,_,l,_]:=g.wg f o;let#[s,_,t,_]:=g.wg k hk;let u:U5 (CL f.1)=f.1:=jL q λy c=>xP<|l y c;let#[i,b,j]:=ZH.mp r;rw[u]at b j;let b:=YQ.mp b;let v:f.1.take (i+1)≠[]:=by simp_all
 have:=uJ (d:=0) v s (λy c=>l y<|JO c) t<|j.trans e;let p:f.1=k.1++f.1.drop (i+1):=by rw[<-this,Jk]
 have:=congrArg List.length<|g.pre k hk f o _ p;rw[Vk,Vu]at this;lia
def XV{f:Fi}(j:n<=4){fs:Dj}(g:yw n fs)(e:f∈fs):K5 (.str<|CL f.1)=Eg/\vS (AnJ.yr f.2)=Eg/\small (.str<|CL f.1)=Eg/\small (AnJ.yr f.2)=Eg:=by
 let#[c,i,b,fn]:=g.wg f e;let:=#[Rq c ⋯ b,?_,?_,?_];.show(f.2.map E9).all Xw=Eg;rw[List.all_map,Yc];let:=fn.2
 .let:=ZK ?_;have:=Ht b;rw[za];lia
 .show(decide _&&yF _)=Eg;rw[j5 λl hl=>(uO<|fn.2 l hl).len,ZA,ZK<|by have:=fn.1;lia];rfl
inductive mH(K:CK)(vs:Di)(H:Hp)(Q:VK)(e3:XK):Prop|mk(c:Er)(Dl:Dk)(fs:Dj)(h0:vs=[.ref c])(h1:H c=A0 (.dK Dl))(h2:yj K H fs Dl)(h3:yw 4 fs)(h4:`fs<=63)(h5:∀H',zx H H'->Q .non H'):mH K vs H Q e3
def Ku{H:Hp}{c:Er}{ob:Obj}(f:H c=A0 (.dK Dl))(e:zx (upd H c<|.frz ob<|.dK Dl) H2):zx H<|upd H2 c<|.dK Dl:=λb o h=>by
 by_cases z:b=c;.simp_all[zD]
 .rw[zH z];let:=e _ _<|zH z▸h
namespace AI
def ok0(F:yd0 K "put_files" st f fd):zj P w K mg dX CO 8 f fd ["shelf","files"]<|Gd P w K aC 0:=F.ok sc (λ_ _ _ _ _ _ _ _ _ h=>E4 h) λ_ _ _ _ h=>E4 h
include T in
def ok(F:yd0 K "put_files" st f fd)(e:Met P w K mg dX aC 7 "put" ["self","thing"]<|pG P w K aC)(g:xu P w K mg dX 8 "put_rows" ["shelf","rows"]<|rJ P w K aC)(c:mg "put_files"=A0 (.ref f))(b:wV K fd ["shelf","files"] []):zj P w K mg dX CO 12 f fd ["shelf","files"]<|Gd P w K aC 4:=by let i:=xu.mk' F (ok0 (P:=P) (w:=w) (dX:=dX) (aC:=aC) F) c b;let j:=xu.mk' F (step F T e g ∅ ∅ i) c b;let l:=xu.mk' F (step F T e g ∅ ∅ j) c b;let n:=xu.mk' F (step F T e g ∅ ∅ l) c b;let:=step F T e g ∅ ∅ n
end AI
namespace AJ
abbrev st:=top 59
def sc:zy ["files","path","lines"] ["files"]<|zF st:=CP
include T in
def ok(F:yd0 K "need_files" st f fd)(QZ:xu P w K mg dX 4 "is_file" ["path","lines"]<|zzH K)(Qt:xu P w K mg dX 1 "folders_of" ["path"]<|mO K):zj P w K mg dX CO 5 f fd ["files"]<|mH K:=by
 let:=F.ok sc λ_ _ _ _ H vs Q E hr h=>?_;let#[c,j,fs,rfl,S,ff,gf,fl,k]:=h;let:=let X0:=_;let D0:=_;let u1:=_;let u2:=_;let u3:=_;let u4:=_;pZ X0 D0 (zC (u:=u4) (zX (yR<|zU (K:=K)<|zI (xq.or (zZ (K:=K))<|FM (K:=K)) (by rfl) T.isinstance ZR<|zA (pv 0)<|zA (yY (v:=.ty "dict") rfl T.dict PyProof.Rows.boot_dict rfl) zB) (zE xS) zM)<|zC (u:=u3) (vW<|yQ (tb:=u1) EM rfl (vE<|XT<|pv 0) (jF rfl<|zT (wN 1 sc.nd)<|zT (wN 2 sc.nd) xO)<|zE<|zX (yR<|zU (K:=K)<|wc QZ hr<|zA (pv 1)<|zA (pv 2) zB) (zE xS) zM)<|zE<|vW<|yQ (tb:=u2) EM rfl (O9<|XT<|pv 0) (wN 1 sc.nd)<|zE<|zX (zU (K:=K)<|zI (RV rfl) (by rfl) T.any PyProof.Rows.boot_any<|zA (yS (sc:=zF st) (N:=["files","path","lines"]) (N':=["folder","files"]) (src:=[Ee,A0 0]) .a rfl rfl rfl (yN<|wc Qt hr<|zA (pv 1) zB) λ_ _ _ _=>wN 0<|show(["folder","files"]:By).Nodup by lk (λ_ _ _ _=>xU) λ_ _ _ _=>wC (N7 hr.units) (pv 0) (pv 1)<|by with_unfolding_all rfl) zB) (zE xS) zM) ?_;let:=.inr #[c,"dict",j,_,Ej,.inl S,T.kit _ (by simp[kinds]) _<|by simp[kinds],_,Ej,UZ<|#[c,j,Ej,S,λob=>?_]];let b:upd H c (.frz ob<|.dK j) c=A0 (.frz ob<|.dK j):=zD;let Y:=ff.off (z6 S)<|z9 (o:=.frz ob<|.dK j);let:=#[c,ob,j,Ej,b,X3 (λi s n=>∃A G,s=[A0<|.ref c,A,G]/\zx (upd H c<|.frz ob<|.dK j) n) #[Ee,Ee,Ej,zx.refl _] (λi s n hi ⟨_,_,_,l⟩=>l _ _ b) ?_ ?_];.rintro i kk v T0 s n D B hi nT hD hB ⟨A,G,rfl,l⟩;let#[f,L,rfl,dv,ln]:=(Y.same l).get hi;let#[g1,g2,g3,g4]:=XV (ZG 4) gf<|ZI L;let uT:=zz (o:=.tup [kV<|.inr<|CL f.1,v]) nT;let:=hB #[T0,_,Ej,yq.of zD,Ej,_,_,Ej,_,_,Ej,Ej,.str<|CL f.1,AnJ.yr f.2,_,_,Ej,Ej,Dt.dw<|Dt.same uT _ _ dv,g3,g4,λH3 s3=>#[_,Ej,?_]];rw[g1,g2];let:=UZ<|hD.nx _ _ #[_,_,Ej,(l.trans uT).trans s3]
 .rintro s n ⟨A,G,rfl,l⟩;let:=#[c,ob,j,l _ _ b,λo u z=>?_,?_];.let z:H c=A0 (.frz o u):=z;rw[S]at z;cases z
  let e3:=Ku S l;let J:upd n c (.dK j) c=A0 (.dK j):=zD;generalize upd n c (.dK j)=H3 at e3 J ⊢;clear l Y b;let:=#[c,j,Ej,J,λob=>?_];let b:upd H3 c (.frz ob<|.dK j) c=A0 (.frz ob<|.dK j):=zD;let:=#[c,ob,j,Ej,b,Ks (λi s n=>∃A G,s=[A0<|.ref c,A,G]/\zx (upd H3 c<|.frz ob<|.dK j) n) #[A,G,Ej,zx.refl _] (λi s n hi ⟨_,_,_,l⟩=>l _ _ b) ?_ ?_]
  .rintro i kk v s H4 D B hi hD hB ⟨A,G,rfl,X⟩;let#[f,L,rfl,_,_]:=ff.get hi;let Z:=ZI L;let#[_,_,g3,_]:=XV (ZG 4) gf Z;let xl:↑(CL f.1)<=1000:=ZT g3;let:=hB #[CL f.1,Ej,xl,λlp H5 s5 ab=>?_];let ac:↑(Xp<|CL f.1)<=1001:=by unfold Xp;rw[ZA,YT];have:=IU<|CL f.1;lia
   let:=#[lp,Ej,#[_,ab],qR (K:=K) (a:=lp) (xs:=(Xp<|CL f.1).map V.str) (λi r t H6=>∃o,t=[o,A0<|.ref c]/\zx H5 H6/\`r=i/\∀y∈r,y=V.bl Ei) #[Ee,Ej,zx.refl _,Ej,λy U=>nomatch U] (zr<|by rw[ZA];lia) ?_ ?_ ?_];.rintro i r t H6 ad ⟨o,rfl,R,yl,_⟩;let:=#[R.seq ab,⋯]
   .rintro i y r t H6 U ⟨o,rfl,R,yl,yf⟩;rw[ZN]at U;let#[z,hz,rfl]:=Z2.mp U;let:=#[c,_,Ej,OP (k:=.inr z)<|((X.trans s5).trans R) _ _ b,_,Ej,R,by rw[ZS,yl];rfl,λy U=>?_];rcases ZY.mp U with q|q;.let:=yf y q
    .rw[ZC.mp q];congr 1;cases q:U0 j<|.inr z with|none=>rfl|some v=>have:=qX q;rw[ff.keys]at this;let#[g,hg,e]:=ZH.mp this;let:=absurd (dV e).symm<|Sm gf Z (ZI hz) g hg
   .rintro r t H6 ⟨o,rfl,R,yl,yf⟩ p np;let ey:r=(EN `r Ei).map V.bl:=UL▸List.eq_replicate_iff.mpr #[Ej,yf];let:=#[p,EN `r Ei,Ej,yp.of<|by rw[zD];let:=congrArg (λz=>A0<|HO.lst z) ey,_,Ej,?_];let ea:(EN `r Ei).any id=Ei:=by rw[UM];intro x hx;rw[List.eq_of_mem_replicate hx];decide
    rw[ea];let:=UZ<|hD.nx _ _ #[_,_,Ej,((X.trans s5).trans R).trans<|zz np]
  .rintro s H4 ⟨A,G,rfl,X⟩;let:=#[c,ob,j,X _ _ b,λo u z=>?_,?_];.let z:H c=A0 (.frz o u):=z;rw[S]at z;cases z
   let:=k _<|e3.trans<|Ku J X
end AJ
inductive zxY(P:Et)(w:Ey)(K:CK)(C:Er)(vs:Di)(H:Hp)(Q:VK)(e3:XK):Prop|mk(a:Er)(fp:Dc)(S:Dh)(x f:Str)(h0:vs=[.ref a,.str x,.str f])(h1:yc P w K C H a fp S)(h2:∀e∈S,Fn e)(h3:Q (.bl<|z7 S x [f]) H):zxY P w K C vs H Q e3
inductive qz(P:Et)(w:Ey)(K:CK)(C:Er)(vs:Di)(H:Hp)(Q:VK)(e3:XK):Prop|mk(a:Er)(fp:Dc)(S:Dh)(x:Str)(Do:Df)(h0:vs=[.ref a,.str x])(h1:yc P w K C H a fp S)(h2:wU S)(h3:At S x<|.tree Do)(h4:Q .non H):qz P w K C vs H Q e3
def jM(P:Et)(w:Ey)(K:CK)(C:Er):(Nat->Sp)|0=>λ_ _ _ _=>False|d+1=>λl H Q _=>∃(a:Er)(j:Dc)(S:Dh)(x c:Str)(i:Df),l=[.ref a,.str x,.str c]/\yc P w K C H a j S/\wU S/\Tree (d+1) S x/\At S x (.tree i)/\↑(zp (d+1) S x)<=63/\(∀f∈zp (d+1) S x,wM f.2)/\`c+10*(d+1)<=1000/\∀e g b,zx H b->H e=Ee->b e=A0 (.dK g)->pH K b c (zp (d+1) S x) g->Q (.ref e) b
inductive pN(P:Et)(w:Ey)(K:CK)(C:Er)(vs:Di)(H:Hp)(Q:VK)(e3:XK):Prop|mk(a:Er)(fp:Dc)(S:Dh)(x:Str)(Do:Df)(h0:vs=[.ref a,.str x])(h1:yc P w K C H a fp S)(h2:wU S)(h3:At S x<|.tree Do)(h4:Tree 5 S x)(h5:↑(zp 5 S x)<=63)(h6:∀f∈zp 5 S x,wM f.2)(h7:∀e Dl H',zx H H'->H e=Ee->H' e=A0 (.dK Dl)->yj K H' (zp 5 S x) Dl->Q (.ref e) H'):pN P w K C vs H Q e3
def jk{b:Df}(h:At S x<|.tree b):fN S (.str x) "tree"=Eg:=by let#[e,c,rfl,hd]:=h;let:=YH.mpr #[e,c,?_];rw[ZQ,Z6,Z6,jR hd];let:=#[Ej,ZC.mpr rfl]
def uM{X:Dc}{xs:Di}(n:∀b∈X,∀xs,¬Rd H b (.tup xs))(o:Off X H H')(h:yq K H c xs):yq K H' c xs:=by
 rcases h with h|h
 .let ne:=λz=>n c z xs h;rcases h with h|⟨u,h⟩;.let:=.inl<|.inl<|o _ _ ne h
  .let:=.inl<|.inr #[u,o _ _ ne h]
 .let:=.inr h
def GC(g:wU S){t:Th}(h:At S x t){e:En}(c:e∈S)(b:E9 x=.str e.nm):e.d=t.dat:=by
 let#[f,i,fn,j]:=h;have:f.nm=e.nm:=by rw[fn];injection b
 rwa[<-To g.good.nn i c this]
def Px{b:Df}{t:Er}(h:Dt K H (Th.tree b).dat<|.ref t):∃c rs,yq K H t [V.str "tree",V.ref c]/\yq K H c rs/\zu K H (b.map yt) rs:=by let#[j,xs,e,h1,x,r,f,h2,y,i,g,h3,h4]:=h;cases e;let#[c,rs,rfl,h5,h6]:=h3;subst f g h2 h4;let:=#[c,rs,h1,h5,h6]
def WZ{ls:By}{t:Er}(h:Dt K H (Th.leaf ls).dat<|.ref t):∃v,yq K H t [V.str "leaf",v]/\Dt K H (AnJ.yr ls) v:=by let#[g,xs,b,h1,x,r,c,h2,y,f,e,h3,h4]:=h;cases b;subst c e h2 h4;let:=#[y,h1,h3]
def dS{b:Df}(h:zu K H (b.map yt) rs){v:V}(e:rs[i]?=A0 v):∃r c,b[i]?=A0 r/\v=.ref c/\yq K H c [V.str r.1,V.str r.2]:=by let#[d,hd,hv]:=h.get e;rw[ZN]at hd;let#[r,j,rfl]:=Z2.mp hd;let#[c,xs,rfl,h1,x,l,f,h2,y,n,g,h3,h4]:=hv;subst f g h2 h3 h4;let:=#[r,c,j,Ej,h1]
namespace AK
abbrev st:=top 70
def sc:zy ["store","name","form"] ["store","name","form"]<|zF st:=CP
include T in
def ok(F:yd0 K "names_form" st f fd)(s:Met P w K mg dX aC 2 "has" ["self","name"]<|lD P w K aC)(p:Met P w K mg dX aC 4 "thing" ["self","name"]<|sZ P w K aC):zj P w K mg dX CO 5 f fd ["store","name","form"]<|zxY P w K aC:=by let:=F.ok sc λ_ _ _ _ H J Q E n h=>?_;let#[a,j,S,x,g,rfl,sh,th,k]:=h;let:=#[_,zE<|zJ<|yX (z8 (pv 0) T.cls s (n.mono<|⋯)<|zA (pv 1) zB)<|xW<|wC yK (wI K (z8 (pv 0) T.cls p (n.mono<|⋯)<|zA (pv 1) zB) zG)<|pv 2,?_];let#[z,b,D,d2,G,ts,nx,y,nd,h1,_]:=id sh;let:=#[a,b,_,Ej,h1,Ej,a,j,S,.str x,_,Ej,sh,Ej,GD S<|.str x,Ej,?_];cases q:GD S<|.str x with|false=>rw[Kt<|JM q]at k;let:=UZ k|true=>
  let:=U1 #[a,b,_,Ej,h1,Ej,a,j,S,.str x,_,Ej,sh,Ej,q,λe l v t o=>?_];cases v;let#[B,i,_]:=th e l;rw[i]at o;let#[c,r,u,A]:=uA o;cases u;let:=#[t,_,_,_,Ej,Ej,A,xB rfl,Ej,?_];have:z7 S e.nm [g]=decide (V.str B.word=V.str g):=by rw[v7 z l,jR i,YV,Z6,Z6,ZC,V.str.injEq]
  rw[this]at k;let:=k
end AK
namespace AL
abbrev st:=top 71
def sc:zy ["store","root"] ["store","root"]<|zF st:=CP
include T in
def ok(F:yd0 K "need_root" st f fd)(b:xu P w K mg dX 5 "names_form" ["store","name","form"]<|zxY P w K aC):zj P w K mg dX CO 6 f fd ["store","root"]<|qz P w K aC:=by let:=F.ok sc λ_ _ _ _ H i Q E e h=>?_;let#[a,c,S,x,g,rfl,sh,ok,at_,k]:=h;let:=#[_,zE<|zX (yR<|zU (K:=K)<|wc b e<|zA (pv 0)<|zA (pv 1)<|zA zK zB) (zE xS) zM,?_];let:=#[a,c,S,x,_,Ej,sh,ok.th,_,Ej,by rw[show z7 S x _=Eg from jk at_];trivial]
end AL
namespace AM
abbrev st:=top 75
def sc:zy ["store","tree","ahead","files","label","name","thing"] ["store","tree","ahead"]<|zF st:=CP
def step{L:Nat}(F:yd0 K "files_beneath" st f fd)(T:Txt P w K mg t1 t2 t3 t4 t5 t6 t7 t8 t9 aL aC aN aT aA b1 b2 b3 b4 b5 b6 b7 b8 aD)(Qb:Met P w K mg dX aC 4 "thing" ["self","name"]<|sZ P w K aC)(hL:8<=L)(Qv:xu P w K mg dX L "files_beneath" ["store","tree","ahead"]<|jM P w K aC d):zj P w K mg dX CO (L+1) f fd ["store","tree","ahead"]<|jM P w K aC<|d+1:=by
 let:=F.ok sc λ_ _ _ _ H vs Q E hr h=>?_;let#[a,fp,S,x,ah,y,rfl,sh,ok,tr,at_,rl,rn,al,k]:=h;let hu:=Ky hr;let:=let X0:=_;let D0:=_;let u1:=_;let u2:=_;let u3:=_;let u4:=_;pZ X0 D0 (zC (u:=u4) (wS 3 sc.nd yU)<|zC (yQ (tb:=u3) EM rfl (kN<|wI K (z8 (pv 0) T.cls Qb (hr.mono<|⋯)<|zA (pv 1) zB) zG) (jF rfl<|zT (wN 4 sc.nd)<|zT (wN 5 sc.nd) xO)<|zC (u:=u2) (wS 6 sc.nd<|z8 (pv 0) T.cls Qb (hr.mono<|⋯)<|zA (pv 5) zB)<|zE<|zX (u:=u1) (wT yK (wI K (pv 6) zG) zK) (zE<|y6 hu (pv 3) (zP zO (pv 2)<|pv 4) (wI K (pv 6) zG) rfl)<|zE<|zS<|O7 (pv 3) (vF Qv (hr.mono<|⋯)<|zA (pv 0)<|zA (pv 5)<|zA (zP zO (zP zO (pv 2)<|pv 4) zK) zB) #[Ej,Ej,Ej,Ej])<|zE<|zJ<|pv 3) ?_;let:=λA N=>?_;let u0:=zz (o:=.dK []) N;let Z:upd H A (.dK []) A=A0 (.dK []):=zD;generalize upd H A (.dK [])=H1 at u0 Z ⊢;let#[ix,i1,i2,i3,ad]:=jE sh;let hx:GD S (.str x)=Eg:=ZK at_.mem;let:=#[a,ix,_,Ej,u0 _ _ ad,Ej,a,fp,S,.str x,_,Ej,sh.same u0,Ej,hx,λe he ed t ht=>?_];rw[GC ok at_ he ed]at ht;let#[c,rs,a5,hc,an]:=Px ht;let be:(y.map (·.1)).Pairwise Fc/\∀r∈y,zV r.1=Eg/\Tree d S r.2/\zp d S r.2≠[]:=by
  rcases tr with⟨ls,z⟩|⟨rows',z,h1,h2⟩;.cases z.thing ok at_
  .cases z.thing ok at_;let:=#[h1,h2]
 let rd:zp (d+1) S x=y.flatMap (DE d S):=yO ok at_;let rise:=(tr.rise ok).1;rw[rd]at rl rn rise k;let a9:`rs=`y:=by rw[`zu an,ZA]
 let nt:=z6 Z;let:=#[t,_,_,_,Ej,Ej,a5,Ej,c,Ej,#[_,hc],vU (K:=K) (a:=c) (xs:=rs) (λi σ R=>∃o4 o5 o6 p,σ=[A0<|.ref a,A0<|.str x,A0<|.str ah,A0<|.ref A,o4,o5,o6]/\Off [A] H1 R/\R A=A0 (.dK p)/\pH K R ah ((y.take i).flatMap<|DE d S) p) #[Ee,Ee,Ee,[],Ej,Off.refl _ _,Z,pH.nil] (λi σ R _ h=>?_) ?_ ?_];.let#[_,_,_,_,_,j,_]:=h;let:=uM nt j hc
 .rintro i v σ R D' B hv hD hB ⟨o4,o5,o6,p,rfl,j,g,l⟩;let#[r,c',af,rfl,a3]:=dS an hv;let sm:zx H R:=λb o e=>j b o (λz=>by rw[ZC.mp z,N]at e;cases e)<|u0 _ _ e;let a1:=sh.same sm;let am:=ZI af;let#[lb,s,ca]:=be.2 r am;let X:(y.take<|i+1).flatMap (DE d S)=(y.take i).flatMap (DE d S)++DE d S r:=by rw[xf af,List.flatMap_append,JQ,List.flatMap_nil,Yi]
  let U:y.flatMap (DE d S)=(y.take i).flatMap (DE d S)++DE d S r++(y.drop<|i+1).flatMap (DE d S):=by rw[<-X,<-List.flatMap_append,Jk]
  let nd:=WX (ah:=ah) rise;rw[U,ZM,ZM,YS,YS]at nd;let as:∀k∈(DE d S r).map λf=>(.inr<|ah++CL f.1:Key),k∉p.map (·.1):=λk hk z=>nd.1.2.2 k (l.keys▸z) k hk rfl;let kl:`p+↑(DE d S r)<=63:=by have:=congrArg List.length U;rw[ZS,ZS]at this;have:=l.len;lia
  let inr:∀f∈DE d S r,wM f.2:=λf hf=>rn f<|YZ.mpr #[r,am,hf];let:=hB #[c',_,Ej,uM nt j a3,Ej,_,_,Ej,_,_,Ej,Ej,?_];let a7:GD S (.str r.2)=Eg:=ZK s.mem;let:=#[a,ix,_,Ej,sm _ _ ad,Ej,a,fp,S,.str r.2,_,Ej,a1,Ej,a7,λe2 ac ab t2 G=>?_];let ll:("/":Str).length=1:=by lk
  let bo:=(wG.mp lb).2.1;let bm:↑(ah++r.1)=`ah+r.1.length:=yo _ _;cases d with|zero=>let:=absurd s<|λz=>z|succ d=>
   rcases id s with⟨ls,atl⟩|⟨rows2,att,so2,hr2⟩
   .rw[GC ok atl ac ab]at G;let#[vv,J,a6]:=WZ G;let er:DE (d+1) S r=[([r.1],ls)]:=by unfold DE;rw[yW ok atl];rfl
    let ap:wM ls:=inr ([r.1],ls)<|er▸ZC.mpr rfl;let:=#[t2,_,_,_,Ej,Ej,J,Ej,Ej,Eg,?_,U1 ?_];.show V.bl (decide<|V.str "leaf"=V.str "leaf")=V.bl Eg;rw[ZK rfl]
    let:=#[t2,_,_,_,Ej,Ej,J,Ej,_,_,Ej,Ej,zr<|⋯,A,_,Ej,tV.k (k:=.inr<|ah++r.1) g<|yM<|⋯,hD.nx _ _ #[_,_,_,p++[(.inr<|ah++r.1,vv)],Ej,?_,?_,?_]];.let:=j.trans z9
    .rw[zD];congr 2;let:=kF<|as _ ?_;rw[er,cb];let:=ZC.mpr rfl
    .rw[X,er];let:=(l.off (z6 g) z9).app<|pH.one (Dt.off (z6 g) z9 _ _ (qW ap) a6) ap
   .rw[GC ok att ac ab]at G;let#[c2,cc,J,_,_]:=Px G;let:=#[t2,_,_,_,Ej,Ej,J,Ej,Ej,Ei,?_,UZ ?_];.show V.bl (decide<|V.str "tree"=V.str "leaf")=V.bl Ei;rw[ZZ<|by intro z;injection z with z;let:=absurd z<|by lk]
    let a8:∀f∈zp (d+1) S r.2,f.1≠[]:=by
     rcases(s.rise ok).2 with⟨ls,z⟩|z;.rw[yO ok att]at z;have:(([],ls):Fi)∈rows2.flatMap λr=>(zp d S r.2).map λf=>((r.1::f.1,f.2):Fi):=z▸ZC.mpr rfl;let#[r',_,hf]:=YZ.mp this;let#[f',_,q]:=ZH.mp hf;let:=absurd (congrArg Prod.fst q)<|Y0 _ _
     .let:=z
    let a0:↑(zp (d+1) S r.2)<=63:=by have:↑(DE (d+1) S r)=↑(zp (d+1) S r.2):=ZA ..;lia
    let:=#[A,Ej,.inl #[_,.inl g],_,_,Ej,Ej,zr<|⋯,_,_,Ej,Ej,zr<|⋯,a,fp,S,r.2,ah++r.1++"/",rows2,Ej,a1,ok,s,att,a0,λf hf=>inr (r.1::f.1,f.2)<|ZH.mpr #[f,hf,Ej],by rw[yo,yo,ll];lia,λe3 n H3 s3 ay a4 a2=>?_];let Y:=s3 _ _ g;let D:pH K H3 ah (DE (d+1) S r) n:=a2.deep a8;let pa:putAll p n=p++n:=Ge (λk hk=>as k<|D.keys▸hk)<|D.keys▸nd.1.2.1;let l3:`n=↑(DE (d+1) S r):=D.len;let:=#[e3,p,n,Ej,(λz=>by rw[<-z,g]at ay;cases ay),Y,.inl a4,zr<|⋯,hD.nx _ _ #[_,_,_,p++n,Ej,?_,by rw[zD,pa],?_]];.let:=(j.trans<|Off.of s3).trans z9
    .rw[X];let:=((l.same s3).off (z6 Y) z9).app<|D.off (z6 Y) z9
 .rintro σ R ⟨o4,o5,o6,p,rfl,j,g,l⟩;rw[a9,Yg]at l;let:=k A p R (λb o e=>j b o (λz=>by rw[ZC.mp z,N]at e;cases e)<|u0 _ _ e) N g l
def ok0(F:yd0 K "files_beneath" st f fd):zj P w K mg dX CO 8 f fd ["store","tree","ahead"]<|jM P w K aC 0:=F.ok sc (λ_ _ _ _ _ _ _ _ _ h=>E4 h) λ_ _ _ _ h=>E4 h
include T in
def ok(F:yd0 K "files_beneath" st f fd)(e:Met P w K mg dX aC 4 "thing" ["self","name"]<|sZ P w K aC)(c:mg "files_beneath"=A0 (.ref f))(b:wV K fd ["store","tree","ahead"] []):zj P w K mg dX CO 13 f fd ["store","tree","ahead"]<|jM P w K aC 5:=by let g:=xu.mk' F (ok0 (P:=P) (w:=w) (dX:=dX) (aC:=aC) F) c b;let i:=xu.mk' F (step F T e ∅ g) c b;let j:=xu.mk' F (step F T e ∅ i) c b;let l:=xu.mk' F (step F T e ∅ j) c b;let n:=xu.mk' F (step F T e ∅ l) c b;let:=step F T e ∅ n
end AM
namespace AN
abbrev st:=top 74
def sc:zy ["store","root"] ["store","root"]<|zF st:=CP
include T in
def ok(F:yd0 K "files_of" st f fd)(o:xu P w K mg dX 6 "need_root" ["store","root"]<|qz P w K aC)(p:xu P w K mg dX 13 "files_beneath" ["store","tree","ahead"]<|jM P w K aC 5):zj P w K mg dX CO 14 f fd ["store","root"]<|pN P w K aC:=by let:=F.ok sc λ_ _ _ _ H v Q E i h=>?_;let#[a,g,S,x,c,rfl,sh,ok,at_,tr,s,t,k]:=h;let:=let q:=_;let j:=_;pZ q j (zC (zS<|wc o i<|zA (pv 0)<|zA (pv 1) zB)<|zE<|zJ<|wc p i<|zA (pv 0)<|zA (pv 1)<|zA zK zB) ?_;let:=#[a,g,S,x,c,Ej,sh,ok,at_,a,g,S,x,"",c,Ej,sh,ok,tr,at_,s,t,∅,λe l n u ne r b=>k e l n u ne r b.at]
end AN
@[elab_as_elim]theorem nw{motive:Hp->Prop}{H:Hp}{l:Er}{o:HO}(n:H l=Ee)(k:∀H',zx H H'->H' l=A0 o->motive H'):motive<|upd H l o:=k _ (zz n) zD
def xQ:Raises X λ_ _ _=>False:=by intro c g H s e f I b;let#[_,_,_,_,_,_,_,_,_,_,_,_,_,_,q]:=b;let:=q.elim
inductive rm(P:Et)(w:Ey)(K:CK)(C aV:Er)(vs:Di)(H:Hp)(Q:VK)(E:XK):Prop|mk(a:Er)(fp:Dc)(S:Dh)(x:Str)(h0:vs=[.ref a,.str x])(h1:yc P w K C H a fp S)(h2:wU S)(h3:U8 S x=Ei->E (.ref aV) Ee H)(h4:∀t ps y c,At S x (.note t ps y)->Dt K H (Th.note t ps y).dat (.ref c)->Q (.ref c) H):rm P w K C aV vs H Q E
inductive zwF(P:Et)(w:Ey)(K:CK)(C aV:Er)(vs:Di)(H:Hp)(Q:VK)(E:XK):Prop|mk(a:Er)(fp:Dc)(S:Dh)(x:Str)(h0:vs=[.ref a,.str x])(h1:yc P w K C H a fp S)(h2:wU S)(h3:U8 S x=Ei->E (.ref aV) Ee H)(h4:∀t ps y,At S x (.note t ps y)->Q (.str t) H):zwF P w K C aV vs H Q E
inductive mF(P:Et)(w:Ey)(K:CK)(C:Er)(vs:Di)(H:Hp)(Q:VK)(e3:XK):Prop|mk(a:Er)(fp:Dc)(S:Dh)(x t:Str)(ps:By)(y:Str)(h0:vs=[.ref a,.str x])(h1:yc P w K C H a fp S)(h2:wU S)(h3:At S x<|.note t ps y)(h4:Q (.str y) H):mF P w K C vs H Q e3
inductive mW(P:Et)(w:Ey)(K:CK)(C:Er)(vs:Di)(H:Hp)(Q:VK)(e3:XK):Prop|mk(a:Er)(fp:Dc)(S:Dh)(x t:Str)(ps:By)(y:Str)(h0:vs=[.ref a,.str x])(h1:yc P w K C H a fp S)(h2:wU S)(h3:At S x<|.note t ps y)(h4:∀l,H l=Ee->Q (.ref l) (upd H l<|.lst<|ps.map V.str)):mW P w K C vs H Q e3
inductive zyS(P:Et)(w:Ey)(K:CK)(C:Er)(vs:Di)(H:Hp)(Q:VK)(e3:XK):Prop|mk(a:Er)(fp:Dc)(S:Dh)(o:Option Str)(h0:vs=[.ref a,oV o])(h1:yc P w K C H a fp S)(h2:wU S)(h3:∀v,o=A0 v->U8 S v=Eg)(h4:Q .non H):zyS P w K C vs H Q e3
noncomputable def CT(S:Dh)(fs:Dj)(ps:By)(y:Str):List En×Str:=CV (U2 4 S fs).1<|.note (U2 4 S fs).2 ps y
inductive tZ(P:Et)(w:Ey)(K:CK)(C:Er)(vs:Di)(H:Hp)(Q:VK)(e3:XK):Prop|mk(a c l:Er)(fp:Dc)(S:Dh)(fs:Dj)(Dl:Dk)(ps:By)(y:Str)(h0:vs=[.ref a,.ref c,.ref l,.str y])(h1:yc P w K C H a fp S)(h2:wU S)(h3:H c=A0 (.dK Dl))(h4:c∉fp)(h5:yj K H fs Dl)(h6:yw 4 fs)(h7:`fs<=63)(h8:yp K H l<|ps.map V.str)(h9:ps.Nodup)(h10:`ps<=2)(h11:∀p∈ps,z7 S p ["note"]=Eg)(h12:U4 y=Eg)(h13:`S+2+wt fs<1900)(h14:∀H',Off fp H H'->yc P w K C H' a fp (CT S fs ps y).1->Q (.str (CT S fs ps y).2) H'):tZ P w K C vs H Q e3
inductive uw(P:Et)(w:Ey)(K:CK)(C aV:Er)(vs:Di)(H:Hp)(Q:VK)(E:XK):Prop|mk(a:Er)(fp:Dc)(S:Dh)(x:Str)(h0:vs=[.ref a,.str x])(h1:yc P w K C H a fp S)(h2:wU S)(h3:U8 S x=Ei->E (.ref aV) Ee H)(h4:∀t ps y,At S x (.note t ps y)->(∃Do,At S t<|.tree Do)/\Tree 5 S t/\↑(zp 5 S t)<=63/\(∀f∈zp 5 S t,wM f.2)/\∀e Dl H',zx H H'->H e=Ee->H' e=A0 (.dK Dl)->yj K H' (zp 5 S t) Dl->Q (.ref e) H'):uw P w K C aV vs H Q E
def cK{t:Str}(h:At S x<|.note t ps y):U8 S x=Eg:=by let#[e,b,rfl,hd]:=h;let:=W8 b hd
def FI{t:Str}(h:At S x<|.note t ps y):U8 S x=Ei->False:=λz=>by rw[cK h]at z;cases z
def FJ{t t':Str}{e:By}{f:Str}(ok:wU S)(h:At S x<|.note t ps y)(g:At S x<|.note t' e f):t=t'/\ps=e/\y=f:=by have:=h.thing ok g;injection this with a b c;trivial
def Pr{X:Dc}(n:nF H X)(o:Off X H H')(h:yp K H l xs):yp K H' l xs:=by
 rcases h with(z|⟨ob,z⟩)|z;.let:=.inl<|.inl<|o _ _ λq=>by let#[e]:=n _ q;simp_all z
 .let:=.inl<|.inr #[ob,o _ _ λq=>by let#[_]:=n _ q;simp_all z]
 .let:=.inr z
namespace AO
abbrev st:=top 77
def sc:zy ["store","name"] ["store","name"]<|zF st:=CP
include T in
def ok(F:yd0 K "note_of" st f fd)(o:xu P w K mg dX 5 "names_form" ["store","name","form"]<|zxY P w K aC)(n:Met P w K mg dX aC 4 "thing" ["self","name"]<|sZ P w K aC):zj P w K mg dX (HN P w) 6 f fd ["store","name"]<|rm P w K aC b5:=by let:=F.okX sc λ_ _ _ _ H G Q E j h=>?_;let#[a,i,S,x,rfl,sh,ok,k2,k1]:=h;let:=#[_,zC (zX (yR<|zU (K:=K)<|wc o j<|zA (pv 0)<|zA (pv 1)<|zA zK zB) (zE<|K6 rfl BR rfl T.m9 T.zzI<|zA zK zB) zM)<|zE<|zJ<|z8 (pv 0) T.cls n j.m<|zA (pv 1) zB,?_];let#[u,p,A,d2,B,ts,nx,s,nd,h1,_]:=id sh;let:=#[a,i,S,x,"note",Ej,sh,ok.th,_,Ej,?_];cases q:z7 S x _ with|false=>let:=gh #[UY 1,k2 q]|true=>let#[e,c,rfl,t,v,y,b]:=W7 ok.th q;let:=OT #[a,p,_,Ej,h1,Ej,a,i,S,.str e.nm,_,Ej,sh,Ej,ZK<|ZH.mpr #[e,c,Ej],λD g r z l=>?_];have:=W4 u c g (by injection r);subst this;rw[b]at l;let:=k1 t v y z #[e,c,Ej,b] l
end AO
namespace AQ
abbrev st:=top 79
def sc:zy ["store","name"] ["store","name"]<|zF st:=CP
include T in
def ok(F:yd0 K "tree_of" st f fd)(g:rG P w K mg dX 6 "note_of" ["store","name"]<|rm P w K aC b5):zj P w K mg dX (HN P w) 7 f fd ["store","name"]<|zwF P w K aC b5:=by let:=F.okX sc λ_ _ _ _ H q Q E n h=>?_;let#[a,j,S,x,rfl,sh,ok,k2,k1]:=h;let:=#[_,zE<|zJ<|wI K (y8 g n.m jP<|zA (pv 0)<|zA (pv 1) zB) zG,?_];let:=#[a,j,S,x,Ej,sh,ok,k2,λt o y c at_ l=>?_];let#[p,b,i,e,hb]:=uP l;cases i;let:=#[c,_,_,_,Ej,Ej,e,Ej,k1 t o y at_]
end AQ
namespace AR
abbrev st:=top 82
def sc:zy ["store","name"] ["store","name"]<|zF st:=CP
include T in
def ok(F:yd0 K "words_of" st f fd)(i:rG P w K mg dX 6 "note_of" ["store","name"]<|rm P w K aC b5):zj P w K mg dX CO 7 f fd ["store","name"]<|mF P w K aC:=by let:=F.ok sc λ_ _ _ _ H u Q E o h=>?_;let#[a,l,S,x,t,r,y,rfl,sh,ok,at_,k]:=h;let:=#[_,zE<|zJ<|wI K (y8 i o.m xQ<|zA (pv 0)<|zA (pv 1) zB) zG,?_];let:=#[a,l,S,x,Ej,sh,ok,λz=>(FI at_ z).elim,λs p v c e n=>?_];let#[rfl,rfl,rfl]:=FJ ok at_ e;let#[q,b,j,g,hb]:=uP n;cases j;let:=#[c,_,_,_,Ej,Ej,g,Ej,k]
end AR
namespace AS
abbrev st:=top 80
def sc:zy ["store","name"] ["store","name"]<|zF st:=CP
include T in
def ok(F:yd0 K "parents_of" st f fd)(i:rG P w K mg dX 6 "note_of" ["store","name"]<|rm P w K aC b5):zj P w K mg dX CO 7 f fd ["store","name"]<|mW P w K aC:=by let:=F.ok sc λ_ _ _ _ H u Q E o h=>?_;let#[a,l,S,x,t,r,y,rfl,sh,ok,at_,k]:=h;let:=#[_,zE<|zJ<|zY xX (by rfl) T.list JA<|zA (wI K (y8 i o.m xQ<|zA (pv 0)<|zA (pv 1) zB) zG) zB,?_];let:=#[a,l,S,x,Ej,sh,ok,λz=>(FI at_ z).elim,λs p v c e n=>?_];let#[rfl,rfl,rfl]:=FJ ok at_ e;let#[q,b,j,g,hb]:=uP n;cases j;let:=#[c,_,_,_,Ej,Ej,g,Ej,b,_,Ej,.inr hb,k]
end AS
namespace AT
abbrev st:=top 78
def sc:zy ["store","name"] ["store","name"]<|zF st:=CP
include T in
def ok(F:yd0 K "need_version_or_none" st f fd)(b:rG P w K mg dX 6 "note_of" ["store","name"]<|rm P w K aC b5):zj P w K mg dX CO 7 f fd ["store","name"]<|zyS P w K aC:=by let:=F.ok sc λ_ _ _ _ H i Q E e h=>?_;let#[a,c,S,o,rfl,sh,ok,g,k]:=h;let:=#[_,zE<|zX (wT kK (pv 1) yH) (zE<|zS<|y8 b e.m xQ<|zA (pv 0)<|zA (pv 1) zB) zM,?_];cases o with|none=>let:=#[Ej,_,Ej,UZ k]|some v=>let:=#[Ej,_,Ej,U1 #[a,c,S,v,Ej,sh,ok,λz=>by simp_all,λ_ _ _ _ _ _=>k]]
end AT
namespace AU
abbrev st:=top 84
def sc:zy ["shelf","files","parents","words"] ["shelf","files","parents","words"]<|zF st:=CP
include T in
def ok(F:yd0 K "noted" st f fd)(Z:Met P w K mg dX aC 7 "put" ["self","thing"]<|pG P w K aC)(Qs:xu P w K mg dX 12 "put_files" ["shelf","files"]<|Gd P w K aC 4):zj P w K mg dX CO 13 f fd ["shelf","files","parents","words"]<|tZ P w K aC:=by
 let:=F.ok sc λ_ _ _ _ H vs Q E L h=>?_;let#[a,c,l,fp,S,fs,X,R,y,rfl,sh,ok,hc,nc,ff,J,G,hl,nd,p2,pf,ly,sl,k]:=h;let:=#[_,zE<|zJ<|z8 (pv 0) T.cls Z L.m<|zA (zQ<|zA zK<|zA (wc Qs L<|zA (pv 0)<|zA (pv 1) zB)<|zA (zY xZ (by rfl) T.tuple YN<|zA (pv 2) zB)<|zA (pv 3) zB) zB,?_];let#[ix,i1,i2,i3,t]:=jE sh;let:=#[a,ix,_,Ej,t,Ej,a,c,fp,S,fs,X,Ej,sh,ok,hc,nc,ff,J,G,⋯,λH1 i r=>?_];let#[n,pl]:=IK 3 ok J G ⋯;unfold CT at k;generalize U2 4 S fs=q at n pl r k ⊢;let#[T1,s,_]:=n.new;let#[Do,g]:=n.node;let u:=Pr sh.wK i hl;let:=#[l,_,Ej,.inl #[u,λp1 n1=>nw n1 λH2 U h1=>#[UY 4,λA n2=>nw n2 λH3 D h2=>?_]]];let N:∀{x:Str},x∈q.1.map En.nm->Ok 1000 x:=λ{x}hx=>by let#[e,he,rfl]:=ZH.mp hx;let:=n.ok.nm he
 let j:=λp v=>s▸qC (pf p v);let:=TZ (r.same<|U.trans D) n.ok (Br (N g.mem) ly (λp v=>N<|kE<|j p v) nd p2) ?_ ⋯ #[A,_,Ej,yq.of h2,_,_,Ej,Ej,_,_,Ej,Ej,_,_,Ej,#[p1,_,Ej,yq.of<|D _ _ h1,zu.strs R],_,_,Ej,Ej,Ej] λY z B=>k Y (λb o nb e=>z b o nb<|(U.trans D) _ _<|i _ _ nb e) B;show(z7 _ _ ["tree"]&&R.all λp=>z7 _ p ["note"])=Eg;rw[Yc.mpr j,Bool.and_true];let:=jk g
end AU
namespace AV
abbrev st:=top 85
def sc:zy ["store","version"] ["store","version"]<|zF st:=CP
include T in
def ok(F:yd0 K "files_at" st f fd)(e:rG P w K mg dX 7 "tree_of" ["store","name"]<|zwF P w K aC b5)(g:xu P w K mg dX 14 "files_of" ["store","root"]<|pN P w K aC):zj P w K mg dX (HN P w) 15 f fd ["store","version"]<|uw P w K aC b5:=by let:=F.okX sc λ_ _ _ _ H p Q E c h=>?_;let#[a,b,S,x,rfl,sh,ok,k2,k1]:=h;let:=#[_,zE<|zJ<|wc g c<|zA (pv 0)<|zA (y8 e c.m jP<|zA (pv 0)<|zA (pv 1) zB) zB,?_];let:=#[a,b,S,x,Ej,sh,ok,k2,λt i y at_=>?_];let#[#[o,tr],n,j,l,k]:=k1 t i y at_;let:=#[a,b,S,t,_,Ej,sh,ok,tr,n,j,l,k]
end AV
abbrev Hs:=List<|Str×Option Str
def hkg(g:Option Str->V)(hs:Hs):(Dk):=hs.map λp=>(.inr p.1,g p.2)
abbrev hkv:=hkg oV
def Xg(hs:Hs)(x:Str):(Option<|Option Str):=(hs.find? λp=>decide<|p.1=x).map (·.2)
def Xz(hs:Hs)(x:Str)(o:Option Str):(Hs):=if hs.any λp=>decide<|p.1=x=Eg then hs.map λp=>if p.1=x then(p.1,o)else p else hs++[(x,o)]
def F0{g:Option Str->V}(x:Str):∀hs:Hs,U0 (hkg g hs) (.inr x)=(Xg hs x).map g
 |[]=>rfl|p::hs=>by
  by_cases e:p.1=x;.rw[show hkg g _=(.inr p.1,g p.2)::hkg g hs from rfl,y7<|by rw[e]];unfold Xg;rw[JD,ZK e];rfl
  .rw[show hkg g (p::hs)=(.inr p.1,g p.2)::hkg g hs from rfl,y9<|λz=>e<|dV z,F0 x hs];unfold Xg;rw[JD,ZZ e]
def SC{g:Option Str->V}(hs:Hs)(x:Str)(o:Option Str):yh (hkg g hs) (.inr x) (g o)=hkg g (Xz hs x o):=by
 let b:(hkg g hs).any λkv=>decide<|kv.1=(.inr x:Key)=hs.any λp=>decide<|p.1=x:=by unfold hkg;rw[List.any_map];let:=congrArg (λf=>hs.any f)<|funext λp=>Jr.mpr #[λz=>dV z,λz=>congrArg EE z]
 unfold yh Xz;rw[b];split
 .unfold hkg;rw[ZV,ZV];let:=Yp λp _=>?_;show(if(.inr p.1:Key)=.inr x then _ else _)=_;by_cases z:p.1=x;.rw[Z4<|congrArg EE z];simp_all[Z4]
  .rw[ZX<|λq=>z<|dV q];simp_all[ZX]
 .unfold hkg;rw[ZM];rfl
def SX{o:Option Str}(h:Xg hs x=A0 o):(x,o)∈hs:=by let#[p,b,e]:=Z2.mp h;have:=Vv b;let c:=ZT this;rw[<-c,<-e];let:=Ji b
def zy1:(Xg hs x).isSome=Eg↔x∈hs.map (·.1):=by simp[Xg,Vy,List.find?_isSome]
def Rx:(Xz hs x o).map (·.1)=if x∈hs.map (·.1)then hs.map (·.1)else hs.map (·.1)++[x]:=by
 unfold Xz;by_cases h:x∈hs.map (·.1);.let#[p,b,e]:=ZH.mp h;rw[Z4 h,Z4<|YH.mpr #[p,b,ZK e],ZV];let:=Yp λp _=>?_;show(if p.1=x then(p.1,o)else p).1=p.1;split<;>rfl
 simp_all[ZX,ZM]
def dY{hs:Hs}(h:(hs.map (·.1)).Nodup):((Xz hs x o).map (·.1)).Nodup:=by
 rw[Rx];split;.let:=h
 .let:=jN h<|by assumption
def aY{p:Str×Option Str}(h:p∈Xz hs x o):p=(x,o)\/p∈hs:=by
 unfold Xz at h;split at h
 .let#[q,hq,e]:=ZH.mp h;by_cases z:q.1=x;.simp_all
  simp_all[ZX]
 .rcases ZY.mp h with z|z;.let:=.inr z
  .let:=.inl<|ZC.mp z
structure xr(P:Et)(w:Ey)(K:CK)(C D:Er)(H:Hp)(b a h:Er)(fp:Dc)(S:Dh)(hs:Hs):Prop where
 ob:∃dx,H b=A0 (.ins D dx [("shelf",.ref a),("heads",.ref h)])sh:yc P w K C H a fp S
 hd:H h=A0 (.dK<|hkv hs)nb:b∉fp
 nh:h∉fp
 ok:wU S
 nd:(hs.map (·.1)).Nodup
 hv:∀p∈hs,∀v,p.2=A0 v->z7 S v ["note"]=Eg
section
variable{C D:Er}{H H':Hp}{b a h:Er}{S':Dh}{hs:Hs}
def xr.same(x:xr P w K C D H b a h fp S hs)(e:zx H H'):xr P w K C D H' b a h fp S hs:=#[let#[dx,q]:=x.ob;#[dx,e _ _ q],x.sh.same e,e _ _ x.hd,x.nb,x.nh,x.ok,x.nd,x.hv]
inductive lY(P:Et)(w:Ey)(K:CK)(C D:Er)(vs:Di)(H:Hp)(Q:VK)(e3:XK):Prop|mk(b a h:Er)(fp:Dc)(S:Dh)(hs:Hs)(x:Str)(h0:vs=[.ref b,.str x])(h1:xr P w K C D H b a h fp S hs)(h2:Q (.bl (Xg hs x).isSome) H):lY P w K C D vs H Q e3
inductive oZ(P:Et)(w:Ey)(K:CK)(C D:Er)(vs:Di)(H:Hp)(Q:VK)(e3:XK):Prop|mk(b a h:Er)(fp:Dc)(S:Dh)(hs:Hs)(x:Str)(h0:vs=[.ref b,.str x])(h1:xr P w K C D H b a h fp S hs)(h2:(Xg hs x).isSome=Eg)(h3:Q .non H):oZ P w K C D vs H Q e3
inductive zzF(P:Et)(w:Ey)(K:CK)(C D:Er)(vs:Di)(H:Hp)(Q:VK)(e3:XK):Prop|mk(b a h:Er)(fp:Dc)(S:Dh)(hs:Hs)(x:Str)(o:Option Str)(h0:vs=[.ref b,.str x])(h1:xr P w K C D H b a h fp S hs)(h2:Xg hs x=A0 o)(h3:Q (oV o) H):zzF P w K C D vs H Q e3
inductive zzV(P:Et)(w:Ey)(K:CK)(C D:Er)(vs:Di)(H:Hp)(Q:VK)(e3:XK):Prop|mk(b a h:Er)(fp:Dc)(S:Dh)(hs:Hs)(x:Str)(y t z:Str)(ps:By)(h0:vs=[.ref b,.str x,.str y])(h1:xr P w K C D H b a h fp S hs)(h2:`hs<1000)(h3:(Xg hs x).isSome=Eg)(h4:At S y<|.note t ps z)(h5:∀H',H'=upd H h (.dK<|hkv<|Xz hs x<|some y)->xr P w K C D H' b a h fp S (Xz hs x<|some y)->Q .non H'):zzV P w K C D vs H Q e3
inductive lX(P:Et)(w:Ey)(K:CK)(C D:Er)(vs:Di)(H:Hp)(Q:VK)(e3:XK):Prop|mk(b a h:Er)(fp:Dc)(S:Dh)(hs:Hs)(x:Str)(o:Option Str)(h0:vs=[.ref b,.str x,oV o])(h1:xr P w K C D H b a h fp S hs)(h2:`hs<1000)(h3:zV x=Eg)(h4:Xg hs x=Ee)(h5:∀v,o=A0 v->∃t ps y,At S v<|.note t ps y)(h6:∀H',Off [h] H H'->xr P w K C D H' b a h fp S (Xz hs x o)->Q .non H'):lX P w K C D vs H Q e3
inductive mG(P:Et)(w:Ey)(K:CK)(C D:Er)(vs:Di)(H:Hp)(Q:VK)(e3:XK):Prop|mk(b a h:Er)(fp:Dc)(S:Dh)(hs:Hs)(x:Str)(c:Er)(y:Str)(o:Option Str)(Dl:Dk)(fs:Dj)(h0:vs=[.ref b,.str x,.ref c,.str y])(h1:xr P w K C D H b a h fp S hs)(h2:`hs<1000)(h3:Xg hs x=A0 o)(h4:H c=A0 (.dK Dl))(h5:c∉fp)(h6:yj K H fs Dl)(h7:yw 4 fs)(h8:`fs<=63)(h9:U4 y=Eg)(h10:`S+2+wt fs<1900)(h11:∀H',Off (h::fp) H H'->xr P w K C D H' b a h fp (CT S fs o.toList y).1 (Xz hs x<|some (CT S fs o.toList y).2)->Q (.str (CT S fs o.toList y).2) H'):mG P w K C D vs H Q e3
def IZ{c:TE}{u:TS}{D:Ends}{b:St}{H:Hp}(h:c b H λv H1=>u D (b.set i<|A0 v) H1):No (HD c<|Xh i) u D b H:=h
def ak{c:St}{Q:VK}{j:Nat}(e:c[j]?=A0 (A0<|oV o))(k:∀l H',zx H H'->H' l=A0 (.lst<|o.toList.map V.str)->Q (.ref l) H'):jc (BM<|Pw (λx y H Q=>y=V.non/\Q (V.bl<|decide<|x=V.non) H) (Bg j)<|tC V.non) (Oq XG) (Oq<|Xk (Bg j) XG) c H Q:=by delta jc BM Pw Oq Xk Bg;dsimp only;rw[e];cases o with|none=>let:=#[Ej,_,Ej,U1 #[UY 0,λl b=>k l _ (zz b) zD]]|some p=>let:=#[Ej,_,Ej,UZ #[UY 1,λl b=>k l _ (zz b) zD]]
section
variable{fs:Dj}{T:Dh}{qs:By}{z n t v:Str}
def GO(g:wU S):∀{d:Nat}{x v:Str},Tree d S x->v∈met d S x->(∃ls,At S v<|.leaf ls)\/∃Do,At S v<|.tree Do
 |0,_,_,h,_=>absurd h<|λz=>z|d+1,x,v,h,m=>by
  rcases id h with⟨ls,a⟩|⟨Do,a,so,hr⟩;.rw[vI g a]at m;rw[ZC.mp m];let:=.inl #[ls,a]
  .rw[uD g a]at m;rcases ZJ.mp m with z|z;.rw[z];let:=.inr #[_,a]
   .let#[r,b,hm]:=YZ.mp z;let:=GO g (hr r b).2.1 hm
def Hh(g:wU S)(h:At S x u)(ne:u.word≠"note"):z7 S x ["note"]=Ei:=by let#[e,b,rfl,hd]:=h;rw[v7 g.good b,jR hd];let:=ZZ λz=>ne<|ZC.mp z
def Py:("tree":Str)≠"note":=by trivial
structure zzW(S:Dh)(n:Str)(gs:Dj)(qs:By)(z t:Str):Prop where
 nt:At S n<|.note t qs z
 tr:∃Do,At S t<|.tree Do
 ok:Tree 5 S t
 rd:∀f,f∈zp 5 S t↔f∈gs
def zzW.more(h:zzW S n gs qs z t)(c:wU S)(g:wU<|S++T):zzW (S++T) n gs qs z t:=by let#[a,b]:=h.ok.more g c;let:=#[h.nt.more,let#[r,q]:=h.tr;#[r,q.more],a,λf=>b▸h.rd f]
structure qw(S:Dh)(fs:Dj)(ps:By)(y:Str)(q:List En×Str):Prop where
 ok:wU q.1
 more:∃T,q.1=S++T
 len:q.1.length<=`S+2+wt fs
 nt:∃t,zzW q.1 q.2 fs ps y t
 new:∀v,z7 q.1 v ["note"]=Eg->z7 S v ["note"]=Eg\/v=q.2
 same:∀{n gs qs z t},zzW S n gs qs z t->(n=q.2↔(∀f,f∈gs↔f∈fs)/\qs=ps/\z=y)again:∀{n gs t},zzW S n gs ps y t->(∀f,f∈gs↔f∈fs)->q.1=S
 hd:S=[]->∃e r u,q.1=e::r/\At q.1 e.nm u/\u.word≠"note"
def IR(ok:wU S)(P:yw 4 fs)(N:`fs<=63)(nd:ps.Nodup)(Z:`ps<=2)(pf:∀p∈ps,z7 S p ["note"]=Eg)(Y:U4 y=Eg)(sl:`S+2+wt fs<1900):qw S fs ps y<|CT S fs ps y:=by
 let#[i,pl]:=IK 3 ok P N ⋯;unfold CT;generalize U2 4 S fs=q at i pl ⊢;let#[w,c,r]:=i.new;let#[L,o]:=i.node;let J:∀{x:Str},x∈q.1.map En.nm->Ok 1000 x:=λ{x}Q=>by let#[e,l,rfl]:=ZH.mp Q;let:=i.ok.nm l
 let H:=λp G=>c▸qC (pf p G);let#[ok2,s,l2,A,j,E]:=Hu i.ok (Br (J o.mem) Y (λp G=>J<|kE<|H p G) nd Z).1 ⋯;let K:=i.tree.more (j▸ok2) i.ok;let:=#[ok2,#[w++A,by rw[<-Y1,<-c];let:=j],⋯,#[q.2,s,#[L,j▸o.more],j▸K.1,λf=>by rw[j,K.2];let:=i.rd f],?_,?_,?_,?_]
 .intro v hv;let#[e,l,u]:=YH.mp hv;rw[ZQ,Z6,Z6]at u;let#[rfl,u]:=u;rw[j]at l;rcases ZY.mp l with l|l
  .let F:=l;rw[c]at l;rcases ZY.mp l with l|l;.let:=.inl<|by rw[v7 ok.good l];let:=ZK u
   .exfalso;let no:z7 q.1 e.nm ["note"]=Ei:=by
     rcases GO i.ok i.tree<|r e l with⟨ls,a⟩|⟨rs,a⟩;.let:=Hh i.ok a<|show("leaf":Str)≠"note"by lk
     .let:=Hh i.ok a Py
    rw[v7 i.ok.good F,ZK u]at no;cases no
  .let:=.inr<|E e l
 .intro n gs qs z t h;let g:=i.ok;let h1:=h.more (T:=w) ok<|c▸g;rw[<-c]at h1;constructor;.intro e;let b:=h1.nt.more (T:=A);rw[<-j,e]at b;have:=At.thing ok2 b s;injection this with R U X;let:=#[λf=>?_,U,X];rw[<-h1.rd,R,i.rd]
  .rintro⟨B,rfl,rfl⟩;let D:=Tree.one g h1.ok i.tree (BY (h1.ok.rise g).1 (i.tree.rise g).1 λf=>by rw[h1.rd,i.rd,B]);subst D;rw[II g h1.nt]
 .intro n gs t h B;let g:=i.ok;let h1:=h.more ok<|c▸g;rw[<-c]at h1;let D:=Tree.one g h1.ok i.tree (BY (h1.ok.rise g).1 (i.tree.rise g).1 λf=>by rw[h1.rd,i.rd,B]);subst D;rw[II g h1.nt];cases w with|nil=>rw[c,Yi]|cons e T=>let m:=r e ZD;let nn:=g.good.nn;rw[c]at m nn;rw[h.ok.pQ (c▸g) ok]at m;rw[ZM,YS]at nn;let:=absurd rfl<|nn.2.2 _ (h.ok.zz8 ok m) _<|ZH.mpr #[e,ZD,Ej]
 .rintro rfl;rw[VX]at c;cases w with|nil=>let#[e,l,_]:=o;rw[c]at l;cases l|cons e T=>
   rw[j];rcases GO i.ok i.tree<|r e ZD with⟨ls,a⟩|⟨rs,a⟩;.let:=#[e,T++A,_,by rw[c];rfl,a.more,show("leaf":Str)≠"note"by lk]
   .let:=#[e,T++A,_,by rw[c];rfl,a.more,Py]
end
def xr.put(B:xr P w K C D H b a h fp S hs)(x:Str)(o:Option Str)(hv:∀v,o=A0 v->z7 S v ["note"]=Eg)(of:Off [h] H H')(i:H' h=A0 (.dK<|hkv<|Xz hs x o)):xr P w K C D H' b a h fp S<|Xz hs x o:=by
 let#[f,hb]:=B.ob;let nh:b∉[h]:=λz=>by rw[ZC.mp z,B.hd]at hb;cases hb
 let:=#[#[f,of _ _ nh hb],B.sh.off (z6 B.hd) of<|λc g z=>B.nh<|ZC.mp z▸g,i,B.nb,B.nh,B.ok,dY B.nd,λp j v e=>?_];rcases aY j with z|z;.rw[z]at e;let:=hv v e
 .let:=B.hv p z v e
end
namespace AW
abbrev st:=inClass (top 87) 3
def sc:zy ["self","branch"] ["self","branch"]<|zF st:=CP
include T in
def ok(F:yd K "has_branch" "Annals.has_branch" st f fd)(c:xu P w K mg dX 1 "is_key" ["table","thing"]<|zz7 K):zj P w K mg dX CO 2 f fd ["self","branch"]<|lY P w K aC aD:=by let:=F.ok sc λ_ _ _ _ H l Q E g h=>?_;let#[b,a,h,i,S,j,x,rfl,B,k]:=h;let:=#[_,zE<|zJ<|wc c g<|zA (yE (pv 0) rfl)<|zA (pv 1) zB,?_];let#[e,hb]:=B.ob;let:=#[b,aD,e,_,_,Ej,hb,T.xg,T.m2,Ej,h,_,.str x,_,Ej,B.hd,Ej,?_];show Q (.bl (U0 ..).isSome) H;rwa[F0,Vy]
end AW
namespace AX
abbrev st:=inClass (top 87) 5
def sc:zy ["self","branch"] ["self","branch"]<|zF st:=CP
include T in
def ok(F:yd K "need_branch" "Annals.need_branch" st f fd)(c:Met P w K mg dX aD 2 "has_branch" ["self","branch"]<|lY P w K aC aD):zj P w K mg dX CO 3 f fd ["self","branch"]<|oZ P w K aC aD:=by let:=F.ok sc λ_ _ _ _ H l Q E i h=>?_;let#[b,a,h,g,S,j,x,rfl,B,q,k]:=h;let:=#[_,zE<|zX (yR<|zU (K:=K)<|z8 (pv 0) T.xg c i.m<|zA (pv 1) zB) (zE xS) zM,?_];let#[e,hb]:=B.ob;let:=#[b,e,_,Ej,hb,Ej,b,a,h,g,S,j,x,Ej,B,_,Ej,?_];rw[q];let:=OT k
end AX
namespace AY
abbrev st:=inClass (top 87) 6
def sc:zy ["self","branch"] ["self","branch"]<|zF st:=CP
include T in
def ok(F:yd K "head" "Annals.head" st f fd)(j:Met P w K mg dX aD 3 "need_branch" ["self","branch"]<|oZ P w K aC aD):zj P w K mg dX CO 4 f fd ["self","branch"]<|zzF P w K aC aD:=by let:=F.ok sc λ_ _ _ _ H q Q E g h=>?_;let#[b,a,h,n,S,p,x,o,rfl,B,e,k]:=h;let:=let l:=_;let i:=_;pZ l i (zC (zS<|z8 (pv 0) T.xg j g.m<|zA (pv 1) zB)<|zE<|zJ<|IH g.wX (yE (pv 0) rfl) (pv 1)<|λ_ _=>rfl) ?_;let#[c,hb]:=B.ob;let:=#[b,c,_,Ej,hb,Ej,b,a,h,n,S,p,x,Ej,B,by rw[e];rfl,b,aD,c,_,_,Ej,hb,T.xg,T.m2,Ej,h,_,Ej,.inl #[_,.inr x,.inl B.hd,Ej,by rw[F0,e];rfl],k]
end AY
namespace AZ
abbrev st:=inClass (top 87) 7
def sc:zy ["self","branch","version"] ["self","branch","version"]<|zF st:=CP
include T in
def ok(F:yd K "set_head" "Annals.set_head" st f fd)(o:Met P w K mg dX aD 3 "need_branch" ["self","branch"]<|oZ P w K aC aD)(n:rG P w K mg dX 6 "note_of" ["store","name"]<|rm P w K aC b5):zj P w K mg dX CO 7 f fd ["self","branch","version"]<|zzV P w K aC aD:=by let:=F.ok sc λ_ _ _ _ H D Q E i h=>?_;let#[b,a,h,j,S,e,x,y,t,z,A,rfl,B,hl,q,at_,k]:=h;let:=let p:=_;let l:=_;let v:=_;pZ p l (zC (u:=v) (zS<|z8 (pv 0) T.xg o i.m<|zA (pv 1) zB)<|zC (zS<|y8 n i.m xQ<|zA (yE (pv 0) rfl)<|zA (pv 2) zB)<|zE<|y6 i.wX (yE (pv 0) rfl) (pv 1) (pv 2) rfl) ?_;let#[g,hb]:=B.ob;let:=#[b,g,_,Ej,hb,Ej,b,a,h,j,S,e,x,Ej,B,q,b,aD,g,_,_,Ej,hb,T.xg,T.m1,Ej,a,j,S,y,Ej,B.sh,B.ok,λz=>(FI at_ z).elim,λ_ _ _ c _ _=>#[b,aD,g,_,_,Ej,hb,T.xg,T.m2,Ej,h,_,Ej,.inl #[_,.inr x,B.hd,Ej,yM<|by rw[show(hkv e).length=`e from ZA ..];lia,Ej],?_]];let r:yh (hkv e) _ (V.str y)=hkv (Xz e x<|some y):=SC e x<|some y;rw[r];let:=k _ rfl<|B.put x (A0 y) (λz s=>by cases s;let:=cK at_) z9 zD
end AZ
namespace A4
abbrev st:=inClass (top 87) 4
def sc:zy ["self","branch","version"] ["self","branch","version"]<|zF st:=CP
include T in
def ok(F:yd K "begin" "Annals.begin" st f fd)(y:xu P w K mg dX 1 "is_label" ["thing"]<|IA K)(z:Met P w K mg dX aD 2 "has_branch" ["self","branch"]<|lY P w K aC aD)(t:xu P w K mg dX 7 "need_version_or_none" ["store","name"]<|zyS P w K aC):zj P w K mg dX CO 8 f fd ["self","branch","version"]<|lX P w K aC aD:=by let:=F.ok sc λ_ _ _ _ H N Q E i h=>?_;let#[b,a,h,p,S,l,x,o,rfl,B,hl,lb,nx,n,k]:=h;let:=let A:=_;let s:=_;let J:=_;pZ A s (zC (u:=J) (zX (PW.pt<|kA (yR<|zU (K:=K)<|wc y i<|zA (pv 1) zB)<|qO<|zU (K:=K)<|z8 (pv 0) T.xg z i.m<|zA (pv 1) zB) (zE xS) zM)<|zC (zS<|wc t i<|zA (yE (pv 0) rfl)<|zA (pv 2) zB)<|zE<|y6 i.wX (yE (pv 0) rfl) (pv 1) (pv 2) rfl) ?_;let:=#[.str x,_,Ej,Ej,ZK (GL lb).len,λL r=>#[_,Ej,?_]];let g:=B.same r;rw[show k7 (.str x)=Eg from lb];let#[j,hb]:=g.ob;let:=OT #[b,j,_,Ej,hb,Ej,b,a,h,p,S,l,x,Ej,g,_,Ej,?_];rw[nx];let:=UZ #[b,aD,j,_,_,Ej,hb,T.xg,T.m1,Ej,a,p,S,o,Ej,g.sh,g.ok,λv e=>let ⟨_,_,_,q⟩:=n v e;cK q,b,aD,j,_,_,Ej,hb,T.xg,T.m2,Ej,h,_,Ej,.inl #[_,.inr x,g.hd,Ej,yM<|by rw[show(hkv l).length=`l from ZA ..];lia,Ej],?_];rw[SC];let:=k _ (λc w G D=>z9 c w G<|r c w D)<|g.put x o (λv e=>let ⟨_,_,_,q⟩:=n v e;cK q) z9 zD
end A4
namespace A5
abbrev st:=inClass (top 87) 8
def sc:zy ["self","branch","files","words","head","parents","version"] ["self","branch","files","words"]<|zF st:=CP
include T in
def ok(F:yd K "keep" "Annals.keep" st f fd)(Q4:Met P w K mg dX aD 4 "head" ["self","branch"]<|zzF P w K aC aD)(Q5:xu P w K mg dX 5 "need_files" ["files"]<|mH K)(Qk:xu P w K mg dX 2 "is_line" ["thing"]<|Hz K)(Qf:xu P w K mg dX 13 "noted" ["shelf","files","parents","words"]<|tZ P w K aC)(Q6:Met P w K mg dX aD 7 "set_head" ["self","branch","version"]<|zzV P w K aC aD):zj P w K mg dX CO 14 f fd ["self","branch","files","words"]<|mG P w K aC aD:=by let:=F.ok sc λ_ _ _ _ H vs Q E s h=>?_;let#[b,a,h,J,S,hs,x,c,y,o,Dl,fs,rfl,B,hl,ho,hc,nc,ff,Z,Y,L,sl,k2]:=h;let:=let X0:=_;let D0:=_;let u1:=_;let u2:=_;let u3:=_;let u4:=_;let u5:=_;pZ X0 D0 (zC (u:=u5) (wS 4 sc.nd<|z8 (pv 0) T.xg Q4 s.m<|zA (pv 1) zB)<|zC (u:=u4) (zS<|wc Q5 s<|zA (pv 2) zB)<|zC (u:=u3) (zX (yR<|zU (K:=K)<|wc Qk s<|zA (pv 3) zB) (zE xS) zM)<|zC (u:=u2) (wS 5 sc.nd<|vK (wT vX (pv 4) yH) (yD zB)<|yD<|zA (pv 4) zB)<|zC (u:=u1) (wS 6 sc.nd<|wc Qf s<|zA (yE (pv 0) rfl)<|zA (pv 2)<|zA (pv 5)<|zA (pv 3) zB)<|zC (zS<|z8 (pv 0) T.xg Q6 s.m<|zA (pv 1)<|zA (pv 6) zB)<|zE<|zJ<|pv 6) ?_;let#[dx,hb]:=B.ob;let:=#[b,dx,_,Ej,hb,Ej,b,a,h,J,S,hs,x,o,Ej,B,ho,zR #[c,Dl,fs,Ej,hc,ff,Z,Y,λH1 s1=>#[.str y,_,Ej,Ej,ZK (uO L).len,λH2 s2=>#[_,Ej,?_]]]];let ad:=s1.trans s2;rw[show Xw (.str y)=Eg from L];let:=OT ?_;delta Wk;dsimp only;let:=IZ<|ak rfl ?_;intro l H3 s3 ac;let g:=ad.trans s3;let G:=B.same g;let#[j,n]:=G.ob;let r:∀p∈o.toList,z7 S p ["note"]=Eg:=λp r=>B.hv _ (SX ho) p (by grind);let:=#[b,aD,j,_,_,Ej,n,T.xg,T.m1,Ej,a,c,l,J,S,fs,Dl,o.toList,y,Ej,G.sh,G.ok,g _ _ hc,nc,ff.same g,Z,Y,yp.of ac,by cases o<;>simp,by cases o<;>simp,r,L,sl,λH4 i D=>zR ?_];let N:=IR B.ok Z Y (by cases o<;>simp) (by cases o<;>simp) r L sl;generalize CT S fs o.toList y=q at N D k2 ⊢;let#[T',X]:=N.more;let#[t,#[R,_]]:=N.nt;let B4:xr P w K aC aD H4 b a h J q.1 hs:=#[#[j,i _ _ B.nb n],D,i _ _ B.nh G.hd,B.nb,B.nh,N.ok,B.nd,λp r v e=>X▸qC (B.hv p r v e)];let#[U,ab]:=B4.ob;let:=#[b,U,_,Ej,ab,Ej,b,a,h,J,q.1,hs,x,q.2,t,y,o.toList,Ej,B4,hl,by rw[ho];rfl,R,λH5 e5 B5=>k2 H5 (λc' o' A e'=>?_) B5];rw[e5,zH<|λz=>A<|by rw[z];let:=ZD];let:=i _ _ (λz=>A<|ZB _ z)<|g _ _ e'
end A5
inductive lQ(P:Et)(w:Ey)(K:CK)(C D:Er)(vs:Di)(H:Hp)(Q:VK)(e3:XK):Prop|mk(x dx:Er)(h0:vs=[.ref x])(h1:H x=A0 (.ins D dx []))(h2:H dx=A0 (.own x))(h3:dx≠x)(h4:∀a h fp H',(∀c∈fp,H c=Ee)->H h=Ee->Off [x] H H'->xr P w K C D H' x a h fp [] []->Q .non H'):lQ P w K C D vs H Q e3
inductive oh(P:Et)(w:Ey)(K:CK)(C D:Er)(vs:Di)(H:Hp)(Q:VK)(e3:XK):Prop|mk(b a h:Er)(fp:Dc)(S:Dh)(hs:Hs)(x t:Str)(ps:By)(y:Str)(h0:vs=[.ref b,.str x])(h1:xr P w K C D H b a h fp S hs)(h2:At S x<|.note t ps y)(h3:∃Do,At S t<|.tree Do)(h4:Tree 5 S t)(h5:↑(zp 5 S t)<=63)(h6:∀f∈zp 5 S t,wM f.2)(h7:∀e Dl H',zx H H'->H e=Ee->H' e=A0 (.dK Dl)->yj K H' (zp 5 S t) Dl->Q (.ref e) H'):oh P w K C D vs H Q e3
def PM(hs:Hs)(x:Str):(PyData):=.tuple [.str x,jl<|(Xg hs x).getD Ee]
inductive rA(P:Et)(w:Ey)(K:CK)(C D:Er)(vs:Di)(H:Hp)(Q:VK)(e3:XK):Prop|mk(b a h:Er)(fp:Dc)(S:Dh)(hs:Hs)(h0:vs=[.ref b])(h1:xr P w K C D H b a h fp S hs)(h2:`hs<60)(h3:∀(l:Er)(ss:By)(xs:Di)(H':Hp),zx H H'->H l=Ee->H' l=A0 (.lst xs)->ss.Perm (hs.map (·.1))->PyProof.Rows.sortedS ss=Eg->zu K H' (ss.map<|PM hs) xs->Q (.ref l) H'):rA P w K C D vs H Q e3
def WV{g:Option Str->V}(hs:Hs):RL (hkg g hs)/\(hkg g hs).map U6=hs.map (·.1):=by
 let:=#[λkv b=>?_,?_];.let#[p,_,rfl]:=ZH.mp b;rfl
 .unfold hkg;rw[ZV];rfl
def iX(o:Option Str):Dt K H (jl o)<|oV o:=by cases o<;>rfl
section
variable{H H':Hp}
def Fs{x b:Er}{i j:HO}(nx:H x=Ee)(g:H b=Ee)(ne:b≠x)(f:∀c∈fp,c=x\/c=b\/(L2.upd (L2.upd H b i) x j) c=Ee)(o:Off [x] (L2.upd (L2.upd H b i) x j) H'):zx H H'/\∀c∈fp,H c=Ee:=by
 let h1:zx H<|L2.upd (L2.upd H b i) x j:=(zz g).trans<|zz<|(zH<|EG ne)▸nx;let:=#[λc u e=>o c u (λz=>?_)<|h1 c u e,λc l=>?_];.simp_all
 .rcases f c l with z|z|z;.simp_all
  .simp_all
  .let:=h1.free z
end
namespace A6
abbrev st:=inClass (top 68) 0
def sc:zy ["self","base","name"] ["self","base"]<|zF st:=CP
include T in
def ok(F:yd K "__init__" "Shelf.__init__" st f fd):zj P w K mg dX CO 5 f fd ["self","base"]<|zzG P w K aC:=by
 let:=F.ok sc λ_ _ _ _ H vs Q E hr h=>?_;let#[x,j,rfl,hx,q,ne,k]:=h;let:=let X0:=_;let D0:=_;let u1:=_;let u2:=_;pZ X0 D0 (zC (u:=u2) (GU (pv 0) yU rfl)<|zC (u:=u1) (GU (pv 0) TF rfl)<|zC (GU (pv 0) yU rfl)<|zE<|zX (wT kK (pv 1) yH) Rv zM) ?_;let:=dW λN S=>λb n1=>#[x,aC,j,_,Ej,(zz n1) _ _ hx,T.cls,T.n1,∅,?_];let v:=zL hx n1;let Y:=zL q n1;let:=nS S λN S=>λd2 o2 n2 T2 e2=>?_;let#[es,rfl]:=e2;let ad:d2≠x/\d2≠b/\H d2=Ee:=by
  let:=#[λz=>?_,λz=>?_,?_];.rw[z,zD]at n2;cases n2
  .rw[z,zH<|EG v,zD]at n2;cases n2
  .let y:d2≠x:=λz=>by rw[z,zD]at n2;cases n2
   let U:d2≠b:=λz=>by rw[z,zH<|EG v,zD]at n2;cases n2
   rw[zH y,zH U]at n2;let:=n2
 let#[l,A,D]:=ad;let Z:=zL q D;let:=#[x,aC,j,[("thing_by_name",V.ref b)],Ej,by rw[zH<|EG l,zD];rfl,T.cls,T.n2,show 1<1000 by decide,nS S λN S=>λg n3=>?_];let af:g≠x/\g≠d2/\g≠b/\H g=Ee:=by
  let y:g≠x:=λz=>by rw[z,zD]at n3;cases n3
  let U:g≠d2:=λz=>by rw[z,zH l,zD]at n3;cases n3
  let a3:g≠b:=λz=>by simp_all[zH,EG,zD]
  let:=#[y,U,a3,?_];rw[zH y,zH U,zH y,zH a3]at n3;let:=n3
 let#[p,J,G,L]:=af;let ab:=zL q L;let:=#[x,aC,j,[("thing_by_name",V.ref b),("name_by_thing",V.ref d2)],Ej,by rw[zH<|EG p,zD];rfl,T.cls,T.n3,show 2<1000 by decide,S _ _<|hid λB hB=>?_];let#[n,s]:∃n,n=upd (upd (upd (upd (upd (upd H b<|.dK []) x<|.ins aC j<|U2 "thing_by_name" (V.ref b) []) d2<|HR d2 es) x<|.ins aC j<|U2 "name_by_thing" (V.ref d2) [("thing_by_name",V.ref b)]) g<|.dK []) x (.ins aC j<|U2 "next_numbers" (V.ref g) [("thing_by_name",V.ref b),("name_by_thing",V.ref d2)]):=#[_,Ej];let q0:n x=A0 (.ins aC j<|Sl b d2 g):=by rw[s,zD];rfl
 let q1:n b=A0 (.dK []):=by rw[s,zH<|EG v,zH<|EG G,zH<|EG v,zH<|EG A,zH<|EG v,zD]
 let q2:n d2=A0 (HR d2 es):=by rw[s,zH l,zH<|EG J,zH l,zD]
 let q3:n g=A0 (.dK []):=by rw[s,zH p,zD]
 let qx:n j=A0 (.own x):=by simp_all[zH]
 let ah:Off [x] H n:=λc o hc e=>by let X:c≠x:=λz=>hc (by rw[z];let:=ZD);rwa[s,zH X,zH<|zL e L,zH X,zH<|zL e D,zH X,zH<|zL e n1]
 let ac:∀c∈[x,j,b,d2,g],c=x\/c=j\/H c=Ee:=λc hc=>by grind
 let am:yc P w K aC n x [x,j,b,d2,g] []:=by let#[_,_,_,xs,R,r]:=T2;cases r;rw[zD]at R;let al:=q2.trans R;let:=#[tO.nil,j,b,d2,g,[],[],Ej,by simp[EG ne,v,EG l,EG p,Y,Z,ab,EG A,EG G,EG J],q0,qx,Ej,q1,#[Yk _,λ_ z=>(nomatch z),YM,[],al,.nil],q3,Yk _,λh=>rfl,λi e t z=>by cases z]
 rw[<-s]at hB;let:=hB #[Ej,Ei,congrArg V.bl<|by rw[ZK rfl];rfl,UZ<|k _ _ ac ah am]
end A6
namespace A7
abbrev st:=inClass (top 87) 0
def sc:zy ["self"] ["self"]<|zF st:=CP
include T in
def ok(F:yd K "__init__" "Annals.__init__" st f fd)(S:Mak P w K mg dX aC 5 "Shelf" ["self","base"]<|zzG P w K aC):zj P w K mg dX CO 7 f fd ["self"]<|lQ P w K aC aD:=by
 let:=F.ok sc λ_ _ _ _ H vs Q E hr h=>?_;let#[x,l,rfl,N,Z,ne,k]:=h;let:=let U:=_;let R:=_;pZ U R (zC (GU (pv 0) (aw S hr.m<|zA yH zB) rfl)<|zE<|GU (pv 0) yU rfl) ?_;let:=λa X na B i=>#[a,X,Ej,zD,zH i▸zD,i,λJ u y s j=>#[Ej,?_]];let#[s2,L]:=Fs na B i y s;let ok0:wU []:=#[j.good,λe v=>(nomatch v),λe v=>nomatch v];let q:=s2 _ _ N;let t:x∉J:=λz=>by have:=L x z;rw[N]at this;cases this
 let:=#[x,aD,l,_,Ej,q,T.xg,T.m1,∅,λh nh=>#[x,aD,l,_,Ej,(zz nh) _ _ zD,T.xg,T.m2,show 1<1000 by decide,?_]];let n:h≠x:=λz=>by simp_all[zD]
 let g:=by rw[zH n]at nh;let:=nh
 let r:Off [x] u<|upd (upd (upd u x<|.ins aD l<|U2 "shelf" (V.ref a) []) h<|.dK []) x<|.ins aD l<|U2 "heads" (V.ref h) [("shelf",V.ref a)]:=λc o A e=>by let D:c≠x:=λz=>A<|z▸ZC.mpr rfl;rwa[zH D,zH<|zL e g,zH D]
 let nt:∀b∈[x],∀xs,¬Rd u b (.tup xs):=λb hb xs z=>by rw[ZC.mp hb]at z;rcases z with z|⟨o,z⟩<;>(rw[q]at z;cases z)
 let:=k a h J _ L (s2.free g) (λc o A e=>r c o A<|s2 _ _ e) #[#[l,by rw[zD];rfl],j.off nt r<|λc Y z=>t<|ZC.mp z▸Y,by rw[zH n,zD];rfl,t,λz=>(by let#[o,G]:=j.ex h z;rw[g]at G;cases G),ok0,YM,λp hp=>nomatch hp]
end A7
namespace A8
abbrev st:=inClass (top 87) 2
def sc:zy ["self"] ["self"]<|zF st:=CP
include T in
def ok(F:yd K "branches" "Annals.branches" st f fd):zj P w K mg dX CO 1 f fd ["self"]<|rA P w K aC aD:=by
 let:=F.ok sc λ_ _ _ _ H vs Q E U h=>?_;let#[b,a,h,Z,S,g,rfl,B,hl,k]:=h;let:=#[_,zE<|zJ<|yS (sc:=zF st) (N:=["self"]) (src:=[Ee,A0 0]) .a rfl rfl rfl (yN<|zI (jQ rfl) (by rfl) T.sorted Y9<|zA (yE (pv 0) rfl) zB) λ_ _ _ _=>wN 0<|show(["label","self"]:By).Nodup by lk (λ_ _ _ _=>xU) λ_ _ _ _=>zQ<|zA (pv 0)<|zA (IH U.wX (au (K:=K) (pv 1) rfl) (pv 0)<|λ_ _=>rfl) zB,?_];let#[R,hb]:=B.ob;let#[L,ek]:=WV g;let:=#[b,aD,R,_,_,Ej,hb,T.xg,T.m2,Ej,h,hkv g,Ej,.inl B.hd,L,by rw[show(hkv g).length=`g from ZA ..];lia,λl ss X perm srt=>?_];rw[ek]at perm;let n:=zz (o:=.lst<|ss.map V.str) X;let c:=zD (H:=H) (a:=l) (o:=.lst<|ss.map V.str);let y:=B.same n;let sl:`ss<60:=by rwa[perm.length_eq,ZA]
 generalize upd H l (.lst<|ss.map V.str)=J at n c y ⊢;let:=#[l,Ej,#[_,yp.of c],qR (K:=K) (a:=l) (xs:=ss.map V.str) (λi j r e=>∃o,r=[o,A0<|.ref b]/\zx J e/\zu K e ((ss.take i).map<|PM g) j) #[Ee,Ej,zx.refl _,Ej] (zr<|by rw[ZA];lia) ?_ ?_ ?_];.rintro i j r e hi ⟨o,rfl,s2,dt⟩;let:=#[s2.seq<|yp.of c,?_];have:=`dt;rw[ZA,Z8]at this;lia
 .rintro i v j r e hv ⟨o,rfl,s2,dt⟩;rw[ZN]at hv;let#[x,D,rfl]:=Z2.mp hv;let z:=y.same s2;let#[s,t]:=z.ob;let#[Y,A]:=Yx.mp<|zy1.mpr<|perm.mem_iff.mp<|ZI D;let:=zR #[b,aD,s,_,_,Ej,t,T.xg,T.m2,Ej,h,_,Ej,.inl #[_,.inr x,.inl z.hd,Ej,by rw[F0,A];rfl],UY 2,λp G=>#[_,Ej,s2.trans<|zz G,?_]];rw[YE,D,ZM];let:=zu.append (zu.same (zz G) _ _ dt) #[_,[],Ej,#[p,_,Ej,yq.of zD,_,_,Ej,Ej,_,_,Ej,?_,Ej],Ej];rw[A];let:=iX Y
 .rintro j r e ⟨o,rfl,s2,dt⟩ q u;rw[ZA,Yg]at dt;let:=k q ss j _ (n.trans<|s2.trans<|zz u) ((n.trans s2).free u) zD perm srt<|zu.same (zz u) _ _ dt
end A8
namespace A9
abbrev st:=inClass (top 87) 9
def sc:zy ["self","version"] ["self","version"]<|zF st:=CP
include T in
def ok(F:yd K "files" "Annals.files" st f fd)(e:rG P w K mg dX 15 "files_at" ["store","version"]<|uw P w K aC b5):zj P w K mg dX CO 16 f fd ["self","version"]<|oh P w K aC aD:=by let:=F.ok sc λ_ _ _ _ H q Q E j h=>?_;let#[b,a,h,i,S,n,x,t,o,y,rfl,B,at_]:=h;let:=#[_,zE<|zJ<|y8 e j.m xQ<|zA (yE (pv 0) rfl)<|zA (pv 1) zB,?_];let#[g,hb]:=B.ob;let:=#[b,aD,g,_,_,Ej,hb,T.xg,T.m1,Ej,a,i,S,x,Ej,B.sh,B.ok,λz=>(FI at_ z).elim,λp l r c=>?_];let#[rfl,rfl,rfl]:=FJ B.ok at_ c;trivial
end A9
namespace Ca
abbrev st:=top 41
def sc:zy ["line","new","behind","row","k"] ["line","new","behind"]<|zF st:=CP
include T in
def ok(F:yd0 K "table_row" st f fd):zj P w K mg dX CO 1 f fd ["line","new","behind"]<|Ev.qg K<|AnJ.rQ K:=by let:=Ev.rR F sc (AnJ.pI K) λb A outer s H E c=>zC (wS 3 sc.nd<|zP N8 (yD<|zA zG zB)<|zP xE (zI zN (by rfl) T.len Yh<|zA (pv 1) zB) zG)<|zC (yQ EM rfl (Rt rfl T.range<|zA (zP N9 (zI zN (by rfl) T.len Yh<|zA (pv 1) zB) zG)<|zA (O8 HJ zG)<|zA (O8 HJ zG) zB) (wN 4 sc.nd)<|zE<|zX (wT yK (pv 0)<|wI K (pv 1)<|pv 4) (zE<|Hq (zP xE (wL K (pv 2)<|zP xE (pv 4) zG) zG)<|TM (pv 3) (pv 4) set_list)<|zE<|Hq (zI (XL rfl) (by rfl) T.max Uk<|zA (wL K (pv 2)<|pv 4)<|zA (wL K (pv 3)<|zP xE (pv 4) zG) zB)<|TM (pv 3) (pv 4) set_list)<|zE<|zJ<|pv 3
end Ca
namespace Cb
abbrev st:=top 40
def sc:zy ["old","new","behind","table","line"] ["old","new"]<|zF st:=CP
include T in
def ok(F:yd0 K "common_table" st f fd)(b:xu P w K mg dX 1 "table_row" ["line","new","behind"]<|Ev.qg K<|AnJ.rQ K):zj P w K mg dX CO 4 f fd ["old","new"]<|Ev.qg K<|AnJ.ut K:=by let:=Ev.rR F sc (AnJ.sE K) λc A outer s H E e=>zC (wS 2 sc.nd<|zP N8 (yD<|zA zG zB)<|zP xE (zI zN (by rfl) T.len Yh<|zA (pv 1) zB) zG)<|zC (wS 3 sc.nd<|yD<|zA (pv 2) zB)<|zC (yQ EM rfl (dG rfl T.reversed<|zA (pv 0) zB) (wN 4 sc.nd)<|zC (wS 2 sc.nd<|wc b e<|zA (pv 4)<|zA (pv 1)<|zA (pv 2) zB)<|zE<|zS<|xV Z1 Yn Yo yJ (pv 3)<|zA (pv 2) zB)<|zC (zS<|Oc Z1 PySem.F.slot_list_reverse PySem.F.type_list_reverse N2<|pv 3)<|zE<|zJ<|pv 3
end Cb
namespace Cc
abbrev st:=top 42
def sc:zy ["old","new","table","pairs","i","k"] ["old","new"]<|zF st:=CP
include T in
def ok(F:yd0 K "kept_pairs" st f fd)(b:xu P w K mg dX 4 "common_table" ["old","new"]<|Ev.qg K<|AnJ.ut K):zj P w K mg dX CO 5 f fd ["old","new"]<|Ev.qg K<|AnJ.tD K:=by let:=Ev.rR F sc (AnJ.qd K) λc A outer s H E e=>zC (wS 2 sc.nd<|wc b e<|zA (pv 0)<|zA (pv 1) zB)<|zC (wS 3 sc.nd<|yD zB)<|zC (wS 4 sc.nd zG)<|zC (wS 5 sc.nd zG)<|zC (TW EM (PW.pt<|vQ (wT K0 (pv 4)<|zI zN (by rfl) T.len Yh<|zA (pv 0) zB)<|uS<|wT K0 (pv 5)<|zI zN (by rfl) T.len Yh<|zA (pv 1) zB)<|zE<|zX (wT yK (wI K (pv 0)<|pv 4)<|wI K (pv 1)<|pv 5) (zC (zS<|xV Z1 Yn Yo yJ (pv 3)<|zA (zQ<|zA (pv 4)<|zA (pv 5) zB) zB)<|zC (Hr (i:=4) sc.nd rfl (MH rfl) zG F2)<|zE<|Hr (i:=5) sc.nd rfl (MH rfl) zG F2)<|zE<|zX (wT gC (wL K (wL K (pv 2)<|zP xE (pv 4) zG)<|pv 5)<|wL K (wL K (pv 2)<|pv 4)<|zP xE (pv 5) zG) (zE<|Hr (i:=4) sc.nd rfl (MH rfl) zG F2)<|zE<|Hr (i:=5) sc.nd rfl (MH rfl) zG F2)<|zE<|zJ<|pv 3
end Cc
namespace Cd
abbrev st:=top 43
def sc:zy ["old","new","spans","low","start","high","end"] ["old","new"]<|zF st:=CP
include T in
def ok(F:yd0 K "spans_of" st f fd)(b:xu P w K mg dX 5 "kept_pairs" ["old","new"]<|Ev.qg K<|AnJ.tD K):zj P w K mg dX CO 6 f fd ["old","new"]<|Ev.qg K<|AnJ.tM K:=by let:=Ev.rR F sc (AnJ.oA K) λc A outer s H E e=>zC (wS 2 sc.nd<|yD zB)<|zC (wS 3 sc.nd zG)<|zC (wS 4 sc.nd zG)<|zC (yQ EM rfl (yN<|zP v5 (wc b e<|zA (pv 0)<|zA (pv 1) zB)<|yD<|zA (zQ<|zA (zI zN (by rfl) T.len Yh<|zA (pv 0) zB)<|zA (zI zN (by rfl) T.len Yh<|zA (pv 1) zB) zB) zB) (jF rfl<|zT (wN 5 sc.nd)<|zT (wN 6 sc.nd) xO)<|xR (zX (PW.pt<|kA (wT K0 (pv 3)<|pv 5)<|qO<|wT K0 (pv 4)<|pv 6) (zE<|zS<|xV Z1 Yn Yo yJ (pv 2)<|zA (zQ<|zA (pv 3)<|zA (pv 5)<|zA (yA (wH:FD _<|vh K) (pv 1) (yC<|pv 4)<|yC<|pv 6) zB) zB) zM)<|zC (wS 3 sc.nd<|zP xE (pv 5) zG)<|zE<|wS 4 sc.nd<|zP xE (pv 6) zG)<|zE<|zJ<|pv 2
end Cd
namespace Ce
abbrev st:=top 44
def sc:zy ["old","rows","done","place","low","high","lines"] ["old","rows"]<|zF st:=CP
include T in
def ok(F:yd0 K "spans_done" st f fd):zj P w K mg dX CO 1 f fd ["old","rows"]<|Ev.qg K<|AnJ.tB K:=by let:=Ev.rR F sc (AnJ.pP K) λb A outer s H E c=>zC (wS 2 sc.nd<|yD zB)<|zC (wS 3 sc.nd zG)<|zC (yQ EM rfl (yN<|pv 1) (jF rfl<|zT (wN 4 sc.nd)<|zT (wN 5 sc.nd)<|zT (wN 6 sc.nd) xO)<|zC (zS<|xV Z1 Vf Vg jV (pv 2)<|zA (yA (wH:FD _<|vh K) (pv 0) (yC<|pv 3)<|yC<|pv 4) zB)<|zC (zS<|xV Z1 Vf Vg jV (pv 2)<|zA (pv 6) zB)<|zE<|wS 3 sc.nd<|pv 5)<|zC (zS<|xV Z1 Vf Vg jV (pv 2)<|zA (yA (wH:FD _<|vh K) (pv 0) (yC<|pv 3) xA) zB)<|zE<|zJ<|zY xZ (by rfl) T.tuple YN<|zA (pv 2) zB
end Ce
namespace Cf
abbrev st:=top 48
def sc:zy ["one","other"] ["one","other"]<|zF st:=CP
include T in
def ok(F:yd0 K "near_spans" st f fd):zj P w K mg dX CO 1 f fd ["one","other"]<|Ev.qg K<|AnJ.tG K:=by let:=Ev.rR F sc _ λb A outer s H E c=>zE<|zJ<|yX (wC G1 (wI K (pv 0) zG)<|wI K (pv 1) zG)<|xW<|wC G1 (wI K (pv 1) zG)<|wI K (pv 0) zG
end Cf
namespace Cg
abbrev st:=top 53
def sc:zy ["parts","lines","part"] ["parts"]<|zF st:=CP
include T in
def ok(F:yd0 K "clean_lines" st f fd):zj P w K mg dX CO 1 f fd ["parts"]<|Ev.qg K<|AnJ.wj K:=by let:=Ev.rR F sc (AnJ.rB K) λb A outer s H E c=>zC (wS 1 sc.nd<|yD zB)<|zC (yQ EM rfl (yN<|pv 0) (wN 2 sc.nd)<|zC (zX (wT yK (wI K (pv 2) zG) zK) (zE<|zJ yH) zM)<|zE<|zS<|xV Z1 Vf Vg jV (pv 1)<|zA (wI K (pv 2) zG) zB)<|zE<|zJ<|zY xZ (by rfl) T.tuple YN<|zA (pv 1) zB
end Cg
namespace Ch
abbrev st:=top 50
def sc:zy ["base","low","high","rows"] ["base","low","high","rows"]<|zF st:=CP
include T in
def ok(F:yd0 K "side_lines" st f fd)(b:xu P w K mg dX 1 "spans_done" ["old","rows"]<|Ev.qg K<|AnJ.tB K):zj P w K mg dX CO 2 f fd ["base","low","high","rows"]<|Ev.qg K<|AnJ.uz K:=by let:=Ev.rR F sc (AnJ.pU K) λc A outer s H E e=>zE<|zJ<|wc b e<|zA (yA (wH:FD _<|vh K) (pv 0) (yC<|pv 1)<|yC<|pv 2)<|zA (yS (sc:=zF st) (N:=["base","low","high","rows"]) (N':=["row","low"]) .a rfl rfl rfl (yN<|pv 3) λ_ _ _ _=>wN 0<|show(["row","low"]:By).Nodup by lk (λ_ _ _ _=>xU) λ_ _ _ _=>zQ<|zA (zP N9 (wI K (pv 0) zG)<|pv 1)<|zA (zP N9 (wI K (pv 0) zG)<|pv 1)<|zA (wI K (pv 0) zG) zB) zB
end Ch
namespace Ci
abbrev st:=top 52
def sc:zy ["parts","lines","ahead","last"] ["parts","lines"]<|zF st:=CP
include T in
def ok(F:yd0 K "add_same" st f fd):zj P w K mg dX CO 1 f fd ["parts","lines"]<|Ev.qg K<|AnJ.wz K:=by let:=Ev.rR F sc (AnJ.oJ K) λb A outer s H E c=>zC (wS 2 sc.nd<|zQ zB)<|xR (zX (PW.pt<|vQ (wT O5 (zI zN (by rfl) T.len Yh<|zA (pv 0) zB) zG)<|uS<|wT yK (wI K (wL K (pv 0)<|O8 HJ zG) zG) zK) (zC (wS 3 sc.nd<|Oc Z1 PySem.F.slot_list_pop PySem.F.type_list_pop Tj<|pv 0)<|zE<|wS 2 sc.nd<|wI K (pv 3) zG) zM)<|zE<|zX (wT O5 (zI zN (by rfl) T.len Yh<|zA (zP (uv:CW _ _<|tW K) (pv 2)<|pv 1) zB) zG) (zE<|zS<|xV Z1 Yn Yo yJ (pv 0)<|zA (zQ<|zA zK<|zA (zP (uv:CW _ _<|tW K) (pv 2)<|pv 1) zB) zB) zM
end Ci
namespace Cj
abbrev st:=top 49
def sc:zy ["ones","others","groups","span","place","last"] ["ones","others"]<|zF st:=CP
include T in
def ok(F:yd0 K "groups_of" st f fd)(c:xu P w K mg dX 1 "near_spans" ["one","other"]<|Ev.qg K<|AnJ.tG K):zj P w K mg dX CO 2 f fd ["ones","others"]<|Ev.qg K<|AnJ.rN K:=by let:=Ev.rR F sc (AnJ.pF K) λe A outer s H E b=>zC (wS 2 sc.nd<|yD zB)<|zC (yQ EM rfl (yN<|zI (FN (K:=K) b.units) (by rfl) T.sorted Y9<|zA (zP v5 (yS (sc:=zF st) (N:=["ones","others","groups","span","place","last"]) (N':=["one"]) (src:=[Ee]) .a rfl rfl rfl (yN<|pv 0) (λ_ _ _ _=>wN 0 n1) (λ_ _ _ _=>xU) λ_ _ _ _=>zQ<|zA (pv 0)<|zA (yI (v:=.int 2) rfl T.zvZ #[_,Ej]) zB)<|yS (sc:=zF st) (N:=["ones","others","groups","span","place","last"]) (N':=["other"]) (src:=[Ee]) .a rfl rfl rfl (yN<|pv 1) (λ_ _ _ _=>wN 0 n1) (λ_ _ _ _=>xU) λ_ _ _ _=>zQ<|zA (pv 0)<|zA (yI (v:=.int 3) rfl T.OTHERS #[_,Ej]) zB) zB) (jF rfl<|zT (wN 3 sc.nd)<|zT (wN 4 sc.nd) xO)<|xR (zX (PW.pt<|kA (wT yK (zI zN (by rfl) T.len Yh<|zA (pv 2) zB) zG)<|qO<|yR<|zU (K:=K)<|wc c b<|zA (wL K (pv 2)<|O8 HJ zG)<|zA (pv 3) zB) (zE<|zS<|xV Z1 Yn Yo yJ (pv 2)<|zA (zQ<|zA (wI K (pv 3) zG)<|zA (wI K (pv 3) zG)<|zA (yD zB)<|zA (yD zB) zB) zB) zM)<|zC (wS 5 sc.nd<|Oc Z1 PySem.F.slot_list_pop PySem.F.type_list_pop Tj<|pv 2)<|zC (zS<|xV Z1 Yn Yo yJ (wI K (pv 5)<|pv 4)<|zA (pv 3) zB)<|zE<|zS<|xV Z1 Yn Yo yJ (pv 2)<|zA (zQ<|zA (wI K (pv 5) zG)<|zA (zI (XL rfl) (by rfl) T.max Uk<|zA (wI K (pv 5) zG)<|zA (wI K (pv 3) zG) zB)<|zA (wI K (pv 5)<|yI (v:=.int 2) rfl T.zvZ #[_,Ej])<|zA (wI K (pv 5)<|yI (v:=.int 3) rfl T.OTHERS #[_,Ej]) zB) zB)<|zE<|zJ<|pv 2
end Cj
namespace Ck
abbrev st:=top 51
def sc:zy ["base","mine","yours","parts","place","low","high","ones","others","my_lines","your_lines"] ["base","mine","yours"]<|zF st:=CP
include T in
def ok(F:yd0 K "joined_lines" st f fd)(e:xu P w K mg dX 6 "spans_of" ["old","new"]<|Ev.qg K<|AnJ.tM K)(i:xu P w K mg dX 2 "groups_of" ["ones","others"]<|Ev.qg K<|AnJ.rN K)(g:xu P w K mg dX 2 "side_lines" ["base","low","high","rows"]<|Ev.qg K<|AnJ.uz K)(c:xu P w K mg dX 1 "add_same" ["parts","lines"]<|Ev.qg K<|AnJ.wz K):zj P w K mg dX CO 7 f fd ["base","mine","yours"]<|Ev.qg K<|AnJ.wA K:=by let:=Ev.rR F sc (AnJ.rM K) λj A outer s H E b=>zC (wS 3 sc.nd<|yD zB)<|zC (wS 4 sc.nd zG)<|zC (yQ EM rfl (yN<|wc i b<|zA (wc e b<|zA (pv 0)<|zA (pv 1) zB)<|zA (wc e b<|zA (pv 0)<|zA (pv 2) zB) zB) (jF rfl<|zT (wN 5 sc.nd)<|zT (wN 6 sc.nd)<|zT (wN 7 sc.nd)<|zT (wN 8 sc.nd) xO)<|zC (zS<|wc c b<|zA (pv 3)<|zA (yA (wH:FD _<|vh K) (pv 0) (yC<|pv 4)<|yC<|pv 5) zB)<|zC (wS 9 sc.nd<|wc g b<|zA (pv 0)<|zA (pv 5)<|zA (pv 6)<|zA (pv 7) zB)<|zC (wS 10 sc.nd<|wc g b<|zA (pv 0)<|zA (pv 5)<|zA (pv 6)<|zA (pv 8) zB)<|xR (zX (PW.pt<|kA (wT yK (zI zN (by rfl) T.len Yh<|zA (pv 7) zB) zG)<|qO<|wT (kR b.units) (pv 9)<|pv 10) (zE<|zS<|wc c b<|zA (pv 3)<|zA (pv 10) zB)<|zE<|zX (wT yK (zI zN (by rfl) T.len Yh<|zA (pv 8) zB) zG) (zE<|zS<|wc c b<|zA (pv 3)<|zA (pv 9) zB)<|zE<|zS<|xV Z1 Yn Yo yJ (pv 3)<|zA (zQ<|zA zK<|zA (yA (wH:FD _<|vh K) (pv 0) (yC<|pv 5)<|yC<|pv 6)<|zA (pv 9)<|zA (pv 10) zB) zB)<|zE<|wS 4 sc.nd<|pv 6)<|zC (zS<|wc c b<|zA (pv 3)<|zA (yA (wH:FD _<|vh K) (pv 0) (yC<|pv 4) xA) zB)<|zE<|zJ<|pv 3
end Ck
namespace Cm
def uQ{o:Option By}(h:Dt K H (AnS.oD o) v):v=.non↔o=Ee:=by cases o with|none=>let:=#[λ_=>rfl,λ_=>h]|some ls=>let#[a,xs,e,_]:=h;lia
def Ot{ls:By}(h:Dt K H (AnS.oD<|some ls) v):∃q,v=.ref q/\yq K H q (ls.map V.str):=by let#[a,xs,e,h1,h2]:=h;rw[zu.tu h2]at h1;let:=#[a,e,h1]
abbrev st:=top 62
def sc:zy ["base","mine","yours","lines"] ["base","mine","yours"]<|zF st:=CP
include T in
def ok(F:yd0 K "joined_at" st f fd)(A:xu P w K mg dX 7 "joined_lines" ["base","mine","yours"]<|Ev.qg K<|AnJ.wA K)(B:xu P w K mg dX 1 "clean_lines" ["parts"]<|Ev.qg K<|AnJ.wj K):zj P w K mg dX CO 8 f fd ["base","mine","yours"]<|AnS.zwE K:=by
 let:=F.ok sc λ_ _ _ s H X Q E j h=>?_;let#[S,U,Y,b,m,y,rfl,hb,hm,i,ob,om,u,r,c,k]:=h;let:=#[_,zC (zX (wT (kR j.units) (pv 1)<|pv 2) (zE<|zJ<|zQ<|zA zK<|zA (pv 1) zB) zM)<|zC (zX (wT (kR j.units) (pv 1)<|pv 0) (zE<|zJ<|zQ<|zA zK<|zA (pv 2) zB) zM)<|zC (zX (wT (kR j.units) (pv 2)<|pv 0) (zE<|zJ<|zQ<|zA zK<|zA (pv 1) zB) zM)<|zC (zX (PW.pt<|kA (wT vX (pv 0) yH)<|kA (wT vX (pv 1) yH)<|qO<|wT vX (pv 2) yH) (zE<|zJ<|zQ<|zA zK<|zA yH zB) zM)<|zC (wS 3 sc.nd<|wc B j<|zA (wc A j<|zA (pv 0)<|zA (pv 1)<|zA (pv 2) zB) zB)<|zE<|zJ<|vK (wT vX (pv 3) yH) (zQ<|zA zK<|zA yH zB)<|zQ<|zA zK<|zA (pv 3) zB,?_];unfold AnS.Jq at c;let st:∀{v:V}{o:Option By}{g:Hp},zx H g->r=A0 o->Dt K g (AnS.oD o) v->∀t,g t=Ee->Q (.ref t) (upd g t<|.tup [.str "stands",v]):=λ{v o g}s e d t nt=>k t _ (s.trans<|zz nt)<|e▸#[v,yq.of zD,Dt.same (zz nt) _ _ d];let cl:∀{g:Hp},zx H g->r=Ee->∀t,g t=Ee->Q (.ref t) (upd g t<|.tup [.str "clash",.non]):=λ{g}s e t nt=>k t _ (s.trans<|zz nt)<|e▸yq.of zD;let:=#[AnS.oD m,AnS.oD y,hm,i,AnS.wO om,AnS.wO u,_,Ej,U3 (λh1=>?_)<|λh1=>?_];.rw[AnS.rY]at h1;rw[Z4<|ZT h1]at c;let:=#[UY 2,st (zx.refl _) c hm]
 rw[AnS.rY]at h1;rw[ZX λz=>h1<|ZK z]at c;let:=#[AnS.oD m,AnS.oD b,hm,hb,AnS.wO om,AnS.wO ob,_,Ej,U3 (λh2=>?_)<|λh2=>?_];.rw[AnS.rY]at h2;rw[Z4<|ZT h2]at c;let:=#[UY 2,st (zx.refl _) c i]
 rw[AnS.rY]at h2;rw[ZX λz=>h2<|ZK z]at c;let:=#[AnS.oD y,AnS.oD b,i,hb,AnS.wO u,AnS.wO ob,_,Ej,U3 (λh3=>?_)<|λh3=>?_];.rw[AnS.rY]at h3;rw[Z4<|ZT h3]at c;let:=#[UY 2,st (zx.refl _) c hm]
 rw[AnS.rY]at h3;rw[ZX λz=>h3<|ZK z]at c;let no:b=Ee\/m=Ee\/y=Ee->r=Ee:=λz=>by
  rcases z with rfl|rfl|rfl;.let:=c
  .cases b<;>let:=c
  .cases b<;>cases m<;>let:=c
 let:=#[Ej,_,Ej,U3 (λl=>U1 #[UY 2,cl (zx.refl _)<|no<|.inl<|(uQ hb).mp<|ZT l]) λl=>#[Ej,_,Ej,U3 (λn=>U1 #[UY 2,cl (zx.refl _)<|no<|.inr<|.inl<|(uQ hm).mp<|ZT n]) λn=>#[Ej,_,Ej,U3 (λp=>#[UY 2,cl (zx.refl _)<|no<|.inr<|.inr<|(uQ i).mp<|ZT p]) λp=>?_]]];let#[xs,rfl]:=VI.mp λz=>l<|ZK<|(uQ hb).mpr z;let#[J,rfl]:=VI.mp λz=>n<|ZK<|(uQ hm).mpr z;let#[Z,rfl]:=VI.mp λz=>p<|ZK<|(uQ i).mpr z;let#[L,rfl,sb]:=Ot hb;let#[N,rfl,sm]:=Ot hm;let#[R,rfl,D]:=Ot i;let#[o,h4,h5]:=c;let:=AnJ.zwR sb sm D h4 λv G x z=>?_;rcases z with⟨rfl,rfl⟩|⟨ls,a,rfl,rfl,q⟩;.let:=#[Ej,_,Ej,NR rfl #[UY 2,cl x h5]]
 .let:=#[Ej,_,Ej,F4 (λz=>nomatch z) #[UY 2,st x h5<|AnS.zzZ q]]
end Cm
namespace Cn
abbrev st:=top 63
def sc:zy ["files","found","path","folder"] ["files"]<|zF st:=CP
def W(L:By)(xs:By)(p:Str):(Prop):=∃x∈xs,∃f∈Xp x,f∈L/\(p=f\/p=x)
def fx:W L L p↔p∈L/\AnS.blB L p=Eg:=by
 unfold AnS.blB;rw[YH];constructor
 .rintro⟨x,g,f,c,b,rfl|rfl⟩;.let:=#[b,x,g,by rw[sH.mp c,Bool.or_true]]
  .let:=#[g,f,b,by rw[sH.mp c,Bool.true_or]]
 .rintro⟨e,q,hq,h⟩;rcases Bool.or_eq_true_iff.mp h with h|h;.let:=#[p,e,q,sH.mpr h,hq,.inr rfl]
  .let:=#[q,hq,p,sH.mpr h,e,.inl rfl]
def I(H:Hp)(d e:Er)(ob:Obj)(Dl:Dk)(K:CK)(c:Hp)(R:By->Prop):(Prop):=(∀b o,b≠d->H b=A0 o->c b=A0 o)/\c d=A0 (.frz ob<|.dK Dl)/\∃f M,c e=A0 (.dK f)/\AnS.zc K c f M (λ_=>.bool Eg)/\R M
include T in
def ok(F:yd0 K "in_the_way" st f fd)(Qt:xu P w K mg dX 1 "folders_of" ["path"]<|mO K):zj P w K mg dX CO 2 f fd ["files"]<|AnS.zyQ K:=by
 let:=F.ok sc λ_ _ _ _ H vs Q E hr h=>?_;let#[d,J,L,g,rfl,hd,Z,pl,ll,k]:=h;let:=#[_,zC (wS 1 sc.nd yU)<|zC (vW<|yQ EM rfl (O9<|XT<|pv 0) (wN 2 sc.nd)<|zE<|yQ EM rfl (yN<|wc Qt hr<|zA (pv 2) zB) (wN 3 sc.nd)<|zE<|zX (wT (N7 hr.units) (pv 3) (pv 0)<|by with_unfolding_all rfl) (zC (y6 hr.wX (pv 1) (pv 3) jS rfl)<|zE<|y6 hr.wX (pv 1) (pv 2) jS rfl) zM)<|zE<|zJ<|pv 1,?_];let vl:=Z.len;let:=λe ne=>?_;let N:d≠e:=zL hd ne;let:=#[d,J,Ej,zH N▸hd,λob=>#[d,ob,J,Ej,zD,Ks (λi A Y=>∃o3 t,A=[A0<|.ref d,A0<|.ref e,o3,t]/\I H d e ob J K Y λM=>(∀p,p∈M↔W L (L.take i) p)/\`M<=2002*i) ?_ ?_ ?_ ?_]]
 .let:=#[Ee,Ee,Ej,λb o nb hb=>?_,zD,[],[],?_,AnS.zc.nil,λp=>?_,Yk _];.rwa[zH nb,zH<|zL hb ne]
  .rw[zH<|EG N,zD]
  .let:=#[λz=>(nomatch z),λ⟨x,G,_⟩=>nomatch G]
 .rintro i A Y hi ⟨o3,t,rfl,h1,h2,_⟩;let:=h2
 .rintro i ky v A Y D1 B1 hi hD hB ⟨o3,t,rfl,h1,h2,r,M,h3,h4,h5,h6⟩;let#[G,ek]:=Z.at hi;let ek:ky=.inr (U6 (ky,v)):=ek;generalize U6 (ky,v)=x at G ek;subst ek;let xm:=ZI G;let il:i<100:=by have:=(ZW.mp G).1;lia
  let:=hB #[x,Ej,pl x xm,λl H3 s3 hl=>#[l,Ej,#[_,hl],?_]];let fl:↑(Xp x)<=1000:=by have:=IU x;have:=pl x xm;unfold Xp;rw[ZA,YT];lia
  let:=kS (K:=K) (a:=l) (xs:=(Xp x).map V.str) (λB A D=>∃t,A=[A0<|.ref d,A0<|.ref e,A0<|.str x,t]/\yp K D l ((Xp x).map V.str)/\I H d e ob J K D λM=>(∀p,p∈M↔W L (L.take i) p\/∃f∈(Xp x).take B,f∈L/\(p=f\/p=x))/\`M<=2002*i+2*B) ?_ ?_ ?_ ?_;.let:=#[_,Ej,hl,λb o nb hb=>s3 _ _<|h1 b o nb hb,s3 _ _ h2,r,M,s3 _ _ h3,h4.same s3,λp=>by rw[h5];let:=#[.inl,λz=>z.elim id λ⟨f,j,_⟩=>nomatch j],⋯]
  .rintro B A D ac ⟨t,rfl,s,_⟩;let:=s
  .rintro B y A D D2 B2 n X ab ⟨t,rfl,s,g1,g2,r,M,R,S,U,g6⟩;rw[ZN]at n;cases q:(Xp x)[B]?with|none=>rw[q]at n;cases n|some z=>
    rw[q]at n;let n:V.str z=y:=dI n;subst n;let ad:B<1000:=by have:=(ZW.mp q).1;lia
    let tk:(Xp x).take (B+1)=(Xp x).take B++[z]:=by rw[YE,q];rfl
    let kl:=S.len;let:=ab #[d,_,Ej,OP (k:=.inr z) g2,_,Ej,U3 (λc=>?_)<|λc=>?_]
    .rw[Z.isSome]at c;let c:z∈L:=ZT c;let af:=xD r (.inr z:Key)<|V.bl Eg;let:=#[e,_,Ej,tV.k (k:=.inr z) R<|Z0 (⋯:`r<16777216)<|zr<|ZG _,e,_,Ej,tV.k (k:=.inr x) zD<|Z0 (⋯:↑(yh r (.inr z)<|V.bl Eg)<16777216)<|zr<|ZG _,?_];let ds:AnS.DS D<|upd (upd D e<|.dK<|yh r (.inr z)<|V.bl Eg) e<|.dK<|yh (yh r (.inr z)<|V.bl Eg) (.inr x)<|V.bl Eg:=(AnS.DS.upd R).trans<|AnS.DS.upd zD;let p1:=(S.put z (v:=.bl Eg) (d:=.bool Eg) rfl).zzJ (g':=λ_=>.bool Eg) λp _=>by simp[ite_self]
     let p2:=(p1.put x (v:=.bl Eg) (d:=.bool Eg) rfl).zzJ (g':=λ_=>.bool Eg) λp _=>by simp[ite_self]
     let:=X.nx _ _ #[_,Ej,ds.sqL s,λb o nb hb=>?_,?_,_,_,zD,p2.mono ds,λp=>?_,?_];.let be:b≠e:=zL hb ne;rw[zH be,zH be];let:=g1 b o nb hb
     .rwa[zH N,zH N]
     .rw[AnS.rW,AnS.rW,U,tk];constructor
      .rintro(((a|⟨f,j,a⟩)|rfl)|rfl);.let:=.inl a
       .let:=.inr #[f,YB _ j,a]
       .let:=.inr #[p,Yb _<|ZC.mpr rfl,c,.inl rfl]
       .let:=.inr #[z,Yb _<|ZC.mpr rfl,c,.inr rfl]
      .rintro(a|⟨f,j,a⟩);.let:=.inl<|.inl<|.inl a
       .rcases ZY.mp j with j|j;.let:=.inl<|.inl<|.inr #[f,j,a]
        .cases ZC.mp j;rcases a.2 with a|a;.let:=.inl<|.inr a
         .let:=.inr a
     .let e1:=AnS.oO (L:=M) z;let e2:=AnS.oO (L:=AnS.qj M z) x;lia
    .rw[Z.isSome]at c;let c:z∉L:=λw=>c<|ZK w;let:=X.nx _ _ #[_,Ej,s,g1,g2,r,M,R,S,λp=>?_,⋯];rw[U,tk];constructor
     .rintro(a|⟨f,j,a⟩);.let:=.inl a
      .let:=.inr #[f,YB _ j,a]
     .rintro(a|⟨f,j,a⟩);.let:=.inl a
      .rcases ZY.mp j with j|j;.let:=.inr #[f,j,a]
       .cases ZC.mp j;let:=absurd a.1 c
  .rintro A D ⟨t,rfl,s,g1,g2,r,M,R,S,U,g6⟩;rw[ZA]at U g6;let:=hD.nx _ _ #[_,_,Ej,g1,g2,r,M,R,S,λp=>?_,⋯];rw[U,Yg,YE,G];constructor
   .rintro(⟨y,n,a⟩|⟨f,j,a⟩);.let:=#[y,YB _ n,a]
    .let:=#[x,Yb _<|ZC.mpr rfl,f,j,a]
   .rintro⟨y,n,f,j,a⟩;rcases ZY.mp n with n|n;.let:=.inl #[y,n,f,j,a]
    .cases ZC.mp n;let:=.inr #[f,j,a]
 .rintro A Y ⟨o3,t,rfl,h1,h2,r,M,h3,h4,h5,h6⟩;let:=#[d,ob,J,h2,λo u(z:H d=A0 (.frz o u))=>(by rw[hd]at z;cases z),k e r M _ (λb o hb=>?_) ne ((zH<|EG N)▸h3) ?_ λp=>?_]
  .by_cases z:b=d;.simp_all[zD]
   .rw[zH z];let:=h1 b o z hb
  .let:=#[h4.keys,h4.nd,λp hp=>let ⟨v,a,b⟩:=h4.val p hp;#[v,a,b]]
  .rw[h5,vl,Yg,fx]
end Cn
open An10 An12
namespace Co
abbrev st:=top 61
def sc:zy ["base","mine","yours","standing","clashing","path","outcome","blocked","files","clashes"] ["base","mine","yours"]<|zF st:=CP
include T in
def ok(F:yd0 K "joined_files" st f fd)(Zg:xu P w K mg dX 8 "joined_at" ["base","mine","yours"]<|AnS.zwE K)(Zh:xu P w K mg dX 2 "in_the_way" ["files"]<|AnS.zyQ K):zj P w K mg dX CO 9 f fd ["base","mine","yours"]<|AnS.pO K:=by
 let:=F.ok sc λ_ _ _ _ H vs Q E hr h=>?_;let#[ab,am,ay,kb,km,ky,LB,LM,LY,B,M,Y,j,rfl,hb,hm,hy,th,oj,k]:=h;let:=let X0:=_;let D0:=_;let u1:=_;let u2:=_;let u3:=_;let u4:=_;let u5:=_;let u6:=_;let u7:=_;let u8:=_;let u9:=_;pZ X0 D0 (zC (u:=u9) (wS 3 sc.nd yU)<|zC (u:=u8) (wS 4 sc.nd yU)<|zC (u:=u7) (yQ (tb:=u3) EM rfl (yN<|zI (vD rfl) (by rfl) T.sorted Y9<|zA (zP Tw (zP Tw (zY X6 (by rfl) T.set J3<|zA (pv 0) zB)<|zY X6 (by rfl) T.set J3<|zA (pv 1) zB)<|zY X6 (by rfl) T.set J3<|zA (pv 2) zB) zB) (wN 5 sc.nd)<|zC (u:=u2) (wS 6 sc.nd<|wc Zg hr<|zA (j0 hr.wX (pv 0) (pv 5) #[Ej,Ej,Ej,Ej])<|zA (j0 hr.wX (pv 1) (pv 5) #[Ej,Ej,Ej,Ej])<|zA (j0 hr.wX (pv 2) (pv 5) #[Ej,Ej,Ej,Ej]) zB)<|zE<|zX (u:=u1) (wT yK (wI K (pv 6) zG) zK) (zE<|y6 hr.wX (pv 4) (pv 5) jS rfl)<|zE<|zX (wT kK (wI K (pv 6) zG) yH) (zE<|y6 hr.wX (pv 3) (pv 5) (wI K (pv 6) zG) rfl) zM)<|zC (u:=u6) (fz (i:=7) sc.nd<|wc Zh hr<|zA (pv 3) zB)<|zC (u:=u5) (zS<|O7 (pv 4) (pv 7) #[Ej,Ej,Ej,Ej])<|zC (u:=u4) (wS 8 sc.nd<|zY (ND (K:=K) rfl) (by rfl) T.dict PyProof.Rows.boot_dict<|zA (yS (sc:=zF st) (N:=["base","mine","yours","standing","clashing","path","outcome","blocked","files","clashes"]) (N':=["path","lines","blocked"]) (src:=[Ee,Ee,A0 7]) .a rfl rfl rfl (vE<|XT<|pv 3) (λ_ _ _ _=>aG (K:=K) (n:=2) rfl<|zT (wN 0<|show(["path","lines","blocked"]:By).Nodup by lk)<|zT (wN 1<|show(["path","lines","blocked"]:By).Nodup by lk) xO) λ_ _ _ _=>Od<|wT (aj hr.units) (pv 0) (pv 2)<|by with_unfolding_all rfl λ_ _ _ _=>zQ<|zA (pv 0)<|zA (pv 1) zB) zB)<|zC (Pc (sc:=zF st) (N:=["base","mine","yours","standing","clashing","path","outcome","blocked","files","clashes"]) (N':=["path","base","mine","yours"]) (src:=[Ee,A0 0,A0 1,A0 2]) .a rfl rfl rfl (yN<|zI (jQ rfl) (by rfl) T.sorted Y9<|zA (pv 4) zB) λ_ _ _ _=>wN 0<|show(["path","base","mine","yours"]:By).Nodup by lk (λ_ _ _ _=>xU) (λ_ _ _ _=>zQ<|zA (pv 0)<|zA (j0 hr.wX (pv 1) (pv 0) #[Ej,Ej,Ej,Ej])<|zA (j0 hr.wX (pv 2) (pv 0) #[Ej,Ej,Ej,Ej])<|zA (j0 hr.wX (pv 3) (pv 0) #[Ej,Ej,Ej,Ej]) zB) sc.nd rfl (MH rfl) (k:=9))<|zE<|zJ<|zQ<|zA (pv 8)<|zA (pv 9) zB) ?_;let l1:=th.fb.is.len;let l2:=th.fm.is.len;let l3:=th.fy.is.len;let ll:=th.len;let e1:=th.fb.is.pJ;let e2:=th.fm.is.pJ;let e3:=th.fy.is.pJ;let:=λA n1=>?_;let:=λs a6=>?_;let n2:H s=Ee:=(zz n1).free a6;let X:A≠s:=zL zD a6;let s1:zx H<|upd (upd H A<|.dK []) s<|.dK []:=(zz n1).trans<|zz a6;let:=#[ab,kb,Ej,.inl<|s1 _ _ hb,th.fb.is.tH,⋯,λp1 cz=>?_];rw[e1];let s2:=s1.trans<|zz (o:=Xe P w p1 LB) cz;let:=#[am,km,Ej,.inl<|s2 _ _ hm,th.fm.is.tH,⋯,λp2 S=>?_];rw[e2];let G:=s2.trans<|zz (o:=Xe P w p2 LM) S;let:=#[p1,p2,LB,LM,Ej,Ej,by rw[zH<|zL zD S,zD],zD,zL zD S,⋯,λp3 ah c0 b3=>?_];let s4:=G.trans<|zz (o:=Xe P w p3 ah) c0;have:=b3.len;let:=#[ay,ky,Ej,.inl<|s4 _ _ hy,th.fy.is.tH,⋯,λp4 ap=>?_];rw[e3];let s5:=s4.trans<|zz (o:=Xe P w p4 LY) ap;let:=#[p3,p4,ah,LY,Ej,Ej,by rw[zH<|zL zD ap,zD],zD,zL zD ap,⋯,λp5 al c1 b5=>?_];let s6:=s5.trans<|zz (o:=Xe P w p5 al) c1;have:=b5.len;let:=#[p5,al,Ej,zD,⋯,λl ss nl pm so=>#[l,Ej,#[_,yp.of zD],?_]];let s7:=s6.trans<|zz (o:=.lst<|ss.map V.str) nl;let un:=AnS.zx5 b3 b5 pm so th.fb.is.nd th.fm.is.nd th.fy.is.nd;let sl:=AnS.Uni.len b3 b5 pm;let t1:zx (upd (upd H A<|.dK []) s<|.dK [])<|upd (upd (upd (upd (upd (upd (upd (upd H A<|.dK []) s<|.dK []) p1<|Xe P w p1 LB) p2<|Xe P w p2 LM) p3<|Xe P w p3 ah) p4<|Xe P w p4 LY) p5<|Xe P w p5 al) l<|.lst<|ss.map V.str:=(((((zz cz).trans<|zz S).trans<|zz c0).trans<|zz ap).trans<|zz c1).trans<|zz nl;let cf:=t1 A (.dK []) (by rw[zH X,zD]);let cd:=t1 s (.dK []) zD;let c6:yp K (upd (upd (upd (upd (upd (upd (upd (upd H A<|.dK []) s<|.dK []) p1<|Xe P w p1 LB) p2<|Xe P w p2 LM) p3<|Xe P w p3 ah) p4<|Xe P w p4 LY) p5<|Xe P w p5 al) l<|.lst<|ss.map V.str) l<|ss.map V.str:=yp.of zD;clear s6 s5 s4 G s2;let a0:∀p∈ss,`p<=1000/\Ez p=Eg:=λp hp=>th.path p<|(un.mem p).mp hp;let:=kS (K:=K) (a:=l) (xs:=ss.map V.str) (λi R H2=>∃o5 o6,R=[A0<|.ref ab,A0<|.ref am,A0<|.ref ay,A0<|.ref A,A0<|.ref s,o5,o6,Ee,Ee,Ee]/\zx H H2/\yp K H2 l (ss.map V.str)/\∃b D,H2 A=A0 (.dK b)/\H2 s=A0 (.dK D)/\AnS.zc K H2 b ((ss.take i).filter<|AnS.stB j) (AnS.gF j)/\AnS.zc K H2 D ((ss.take i).filter λp=>(j p).isNone) λ_=>.bool Eg) ?_ ?_ ?_ ?_;.let:=#[Ee,Ee,Ej,s7,c6,[],[],cf,cd,AnS.zc.nil,AnS.zc.nil]
 .rintro i R H2 hi ⟨o5,o6,rfl,e,hl,_⟩;let:=hl
 .rintro i y R H2 D1 B1 J hD hB ⟨o5,o6,rfl,e,hl,b,D,hs,hc,r,d2⟩;rw[ZN]at J;cases q:ss[i]?with|none=>rw[q]at J;cases J|some p=>rw[q]at J;let J:V.str p=y:=dI J;subst J;let a7:=th.mono<|.of e;let il:=(ZW.mp q).1;let:=hB #[ab,Ej,.inl #[kb,.inl<|e _ _ hb],_,wu.k (k:=.inr p)<|e _ _ hb,am,Ej,.inl #[km,.inl<|e _ _ hm],_,wu.k (k:=.inr p)<|e _ _ hm,ay,Ej,.inl #[ky,.inl<|e _ _ hy],_,wu.k (k:=.inr p)<|e _ _ hy,?_];let:=#[_,_,_,B p,M p,Y p,Ej,a7.fb.get p,a7.fm.get p,a7.fy.get p,(th.ok p).1,(th.ok p).2.1,(th.ok p).2.2,_,oj p,λt H3 G ho=>?_];let e3:=e.trans G;let a3:=G.seq hl;let r:=r.same G;let d2:=d2.same G;let hs:=G _ _ hs;let hc:=G _ _ hc;let c9:=r.len;let da:=d2.len;let a2:=J2 (AnS.stB j)<|ss.take i;let bm:=J2 (λp=>(j p).isNone)<|ss.take i;rw[Z8]at a2 bm;let r1:`b<sizeLine:=Z0 (⋯:`b<16777216)<|zr<|ZG _;let r2:`D<sizeLine:=Z0 (⋯:`D<16777216)<|zr<|ZG _;cases q2:j p with
   |none=>
    rw[q2]at ho;let ho:yq K H3 t [.str "clash",.non]:=ho;let:=#[t,_,_,_,Ej,Ej,ho,Ej,Ej,_,Ej,NR rfl #[s,_,Ej,tV.k (k:=.inr p) hc r2,?_]];let u:=AnS.DS.upd (o:=.dK<|yh D (.inr p)<|V.bl Eg) hc;let:=hD.nx _ _ #[_,_,Ej,An.zx.qi e3 n2,u.sqL a3,b,_,by rw[zH X];let:=hs,zD,?_,?_];.rw[<-AnS.pA q<|by unfold AnS.stB;rw[q2]];let:=r.mono u
    .rw[<-AnS.lJ un.nd q<|by rw[q2];rfl];let:=((d2.put p (v:=.bl Eg) (d:=.bool Eg) rfl).zzJ (g':=λ_=>.bool Eg) λx _=>by show(if x=p then PyData.bool Eg else .bool Eg)=_;rw[ite_self]).mono u|some o=>
    rw[q2]at ho;let#[v,a4,hv]:=show∃v,yq K H3 t [.str "stands",v]/\Dt K H3 (AnS.oD o) v from ho;clear ho;let:=#[t,_,_,_,Ej,Ej,a4,Ej,Ej,_,Ej,F4 (by lk) #[t,_,_,_,Ej,Ej,a4,Ej,Ej,_,Ej,U3 (λc=>?_)<|λc=>?_]];.cases o with|none=>let hv:v=.non:=hv;rw[hv]at c;cases c|some ls=>
      let:=#[t,_,_,_,Ej,Ej,a4,Ej,A,_,Ej,tV.k (k:=.inr p) hs r1,?_];let u:=AnS.DS.upd (o:=.dK<|yh b (.inr p) v) hs;let:=hD.nx _ _ #[_,_,Ej,An.zx.qi e3 n1,u.sqL a3,_,D,zD,by rw[zH<|EG X];let:=hc,?_,?_]
      .rw[<-AnS.lJ un.nd q<|by unfold AnS.stB;rw[q2]];let:=((r.put p hv).zzJ (g':=AnS.gF j) λx _=>?_).mono u;show(if x=p then AnS.oD<|A0 ls else AnS.gF j x)=_;by_cases z:x=p;.rw[Z4 z,z];unfold AnS.gF;rw[q2];rfl
       .rw[ZX z]
      .rw[<-AnS.pA q<|by rw[q2];rfl];let:=d2.mono u
    .cases o with|some ls=>let#[a,xs,e',_]:=show∃a xs,v=.ref a/\_ from hv;rw[e']at c;let:=absurd rfl c|none=>
      let:=hD.nx _ _ #[_,_,Ej,e3,a3,b,D,hs,hc,?_,?_];.rw[<-AnS.pA q<|by unfold AnS.stB;rw[q2]];let:=r
      .rw[<-AnS.pA q<|by rw[q2];rfl];let:=d2
 .rintro R H2 ⟨o5,o6,rfl,e,hl,b,D,hs,hc,r,d2⟩;rw[ZA,Yg]at r d2;let r:AnS.zc K H2 b (AnS.ST ss j)<|AnS.gF j:=r;let a2:=J2 (AnS.stB j) ss;let bm:=J2 (λp=>(j p).isNone) ss;let dm:↑(AnS.ST ss j)<=`ss:=a2;let:=#[A,b,AnS.ST ss j,AnS.gF j,Ej,hs,r,λp hp=>(a0 p<|AnS.zzQ hp).1,⋯,λbl L W H3 G cv ca g an=>?_];let e3:=e.trans G;let c8:=G _ _ hs;let ac:=G _ _ hc;let r:=r.same G;let d2:=d2.same G;let be:s≠bl:=zL hc cv;let c2:A≠bl:=zL hs cv;let c9:=r.len;let da:=d2.len;let dj:=g.len;let wl:`W<=`ss:=AnS.len_sub g.nd un.nd λp hp=>AnS.zzQ ((an p).mp hp).1;let:=#[s,Ej,.inl #[_,.inl ac],bl,D,L,Ej,be,ac,.inl ca,zr<|⋯,?_];let#[LX,U,mX]:=AnS.nG (more:=L) d2 λkv hkv=>#[(g.pair hkv).1,(g.pair hkv).2.2];rw[g.pJ]at mX;let xl:`LX<=`ss:=AnS.len_sub U.nd un.nd λp hp=>by
   rcases(mX p).mp hp with z|z;.let:=(YK.mp z).1
   .let:=AnS.zzQ ((an p).mp z).1
  let u4:=AnS.DS.upd (o:=.dK<|putAll D L) ac;let e4:zx H<|upd H3 s<|.dK<|putAll D L:=An.zx.qi e3 n2;let a5:upd H3 s (.dK<|putAll D L) A=A0 (.dK b):=by rwa[zH X]
  let c3:upd H3 s (.dK<|putAll D L) bl=A0 (.dK L):=by rwa[zH<|EG be]
  let c4:upd H3 s (.dK<|putAll D L) s=A0 (.dK<|putAll D L):=zD;let r:=r.mono u4;let U:=U.mono u4;let g:=g.mono u4;clear u4 c8 ac ca e3 d2 G;generalize upd H3 s (.dK<|putAll D L)=H4 at e4 a5 c3 c4 r U g ⊢;let:=#[A,b,Ej,a5,λob=>#[A,ob,b,Ej,zD,?_]];let u5:=AnS.DS.upd (o:=.frz ob<|.dK b) a5;let e5:zx H<|upd H4 A<|.frz ob<|.dK b:=An.zx.qi e4 n1;let bo:upd H4 A (.frz ob<|.dK b) bl=A0 (.dK L):=by rwa[zH<|EG c2]
  let cc:upd H4 A (.frz ob<|.dK b) s=A0 (.dK<|putAll D L):=by rwa[zH<|EG X]
  let cr:upd H4 A (.frz ob<|.dK b) A=A0 (.frz ob<|.dK b):=zD;let r:=r.mono u5;let U:=U.mono u5;let g:=g.mono u5;clear u5;generalize upd H4 A (.frz ob<|.dK b)=H5 at e5 bo cc cr r U g ⊢;let:=NG (λi ys R H6=>∃o1 o2,R=[o1,o2,A0<|.ref bl]/\zx H5 H6/\`ys<=i/\vC K H6 ys ((b.take i).filter λkv=>decide<|U6 kv∉W)) #[Ee,Ee,Ej,zx.refl _,ZG _,AnS.zz2] (zr<|⋯) ?_ ?_ ?_;.rintro i ys R H6 hi ⟨o1,o2,rfl,s6,ad,_⟩;let:=#[s6 _ _ cr,ad]
  .rintro i kx v TT ys R H6 hx ⟨o1,o2,rfl,s6,ad,Z⟩ nT;let#[di,ek]:=r.at hx;let u:=zz (o:=.tup [kV kx,v]) nT;let ft:(b.take<|i+1).filter (λkv=>decide<|U6 kv∉W)=(b.take i).filter (λkv=>decide<|U6 kv∉W)++[(kx,v)].filter λkv=>decide<|U6 kv∉W:=by rw[YE,hx,UI];rfl
   let ct:(U0 L kx).isSome=decide (U6 (kx,v)∈W):=by rw[<-g.isSome];let:=congrArg (λz=>(U0 L z).isSome) ek
   let:=#[TT,_,Ej,yq.of zD,Ej,_,_,Ej,_,_,Ej,Ej,?_];let:=#[bl,_,Ej,wu.k (k:=kx)<|u _ _<|s6 _ _ bo,_,Ej,U3 (λc=>?_)<|λc=>?_];.let:=#[UY 2,λp2 S=>?_];let u2:=zz (o:=.tup [kV kx,v]) S;rw[ct,Ua,Vm]at c;let:=#[_,_,Ej,(s6.trans u).trans u2,by rw[ZS];let:=Vo ad,?_];rw[ft,Uq,Z4<|ZK c];let:=AnS.zzR (AnS.qu Z<|u.trans u2)<|yq.of zD
   .rw[ct,Ua,Vm,Decidable.not_not]at c;let:=#[_,_,Ej,s6.trans u,⋯,?_];rw[ft,Uq,ZX<|λz=>absurd c<|ZT z,List.filter_nil,Yi];let:=AnS.qu Z u
  .rintro ys R H6 ⟨o1,o2,rfl,s6,ad,Z⟩ p6 dd;rw[Yg]at Z;let u6:=zz (o:=.lst ys) dd;let:=#[p6,ys,_,Ej,zD,AnS.qu Z u6,λlf cx=>?_];let dF:=r.filter<|λp=>decide<|p∉W;rw[AnS.zw3 an]at dF;let ep:putAll [] (b.filter λkv=>decide<|U6 kv∉W)=b.filter λkv=>decide<|U6 kv∉W:=AnS.pD _ [] dF.nodup;rw[ep];generalize b.filter (λkv=>decide<|U6 kv∉W)=kf at dF ⊢;let t7:zx H5<|upd (upd H6 p6<|.lst ys) lf<|.dK kf:=(s6.trans u6).trans<|zz cx;let ch:upd (upd H6 p6<|.lst ys) lf (.dK kf) lf=A0 (.dK kf):=zD;generalize upd (upd H6 p6<|.lst ys) lf (.dK kf)=H7 at t7 ch ⊢;let e7:=e5.trans t7;let:=#[s,_,Ej,.inl<|t7 _ _ cc,U.tH,by rw[U.len];lia,λl2 s2 db a1 de=>#[l2,Ej,#[_,yp.of zD],?_]];rw[U.pJ]at a1;let el:s2=AnS.LC ss j:=AnS.rP (qD de) (AnS.m6 un.sorted un.nd).1 (a1.nodup_iff.mpr U.nd) (AnS.m6 un.sorted un.nd).2 λp=>by rw[a1.mem_iff,mX,AnS.zzK,an]
   let dl:`s2<=`ss:=by rwa[a1.length_eq]
   let u8:=zz (o:=.lst<|s2.map V.str) db;let co:yp K (upd H7 l2<|.lst<|s2.map V.str) l2<|s2.map V.str:=yp.of zD;let t8:=t7.trans u8;let e8:=e7.trans u8;let cl:=u8 _ _ ch;clear u8;generalize upd H7 l2 (.lst<|s2.map V.str)=H8 at co t8 e8 cl ⊢;let:=qR (K:=K) (a:=l2) (xs:=s2.map V.str) (λi zs R H9=>∃o,R=[o,A0<|.ref ab,A0<|.ref am,A0<|.ref ay]/\zx H8 H9/\`zs<=i/\zu K H9 ((s2.take i).map<|AnS.sX B M Y) zs) #[Ee,Ej,zx.refl _,ZG _,Ej] (zr<|by rw[ZA];lia) ?_ ?_ ?_;.rintro i zs R H9 hi ⟨o,rfl,s9,af,_⟩;let:=#[s9.seq co,af]
   .rintro i x zs R H9 hx ⟨o,rfl,s9,af,hz⟩;rw[ZN]at hx;cases q:s2[i]?with|none=>rw[q]at hx;cases hx|some p=>rw[q]at hx;let hx:V.str p=x:=dI hx;subst hx;let e9:=e8.trans s9;let a8:=th.mono<|.of e9;let:=#[ab,Ej,.inl #[kb,.inl<|e9 _ _ hb],_,wu.k (k:=.inr p)<|e9 _ _ hb,am,Ej,.inl #[km,.inl<|e9 _ _ hm],_,wu.k (k:=.inr p)<|e9 _ _ hm,ay,Ej,.inl #[ky,.inl<|e9 _ _ hy],_,wu.k (k:=.inr p)<|e9 _ _ hy,UY 4,λp9 as=>?_];let u9:=zz (o:=.tup [.str p,(U0 kb<|.inr p).getD .non,(U0 km<|.inr p).getD .non,(U0 ky<|.inr p).getD .non]) as;let:=#[_,Ej,s9.trans u9,by rw[ZS];let:=Vo af,?_];rw[YE,q,ZM];let:=zu.append (zu.same u9 _ _ hz) #[_,_,Ej,?_,Ej];let:=#[p9,_,Ej,yq.of zD,_,_,Ej,Ej,_,_,Ej,Dt.same u9 _ _<|a8.fb.get p,_,_,Ej,Dt.same u9 _ _<|a8.fm.get p,_,_,Ej,Dt.same u9 _ _<|a8.fy.get p,Ej]
   .rintro zs R H9 ⟨o,rfl,s9,af,hz⟩ p9 as;rw[ZA,Yg,el]at hz;let u9:=zz (o:=.lst zs) as;let:=#[UY 2,λt nt=>?_];let a9:=zz (o:=.tup [.ref lf,.ref p9]) nt;let v:=(s9.trans u9).trans a9;let:=k t ss _ (e8.trans v) un lf p9 kf zs ((e5.trans<|s6.trans u6).free cx) ((e8.trans s9).free as) zD (v _ _ cl) (dF.same<|t8.trans v) (a9 _ _ zD)<|zu.same (u9.trans a9) _ _ hz
end Co
def sV(K:CK)(H:Hp)(Dl:Dk)(F:FF):(Prop):=∃b,yj K H b Dl/\yw 4 b/\`b<=4/\Ff b=F
def VF(S:Dh)(n:Str)(F:FF)(c:By)(z:Str):(Prop):=∃b t,zzW S n b c z t/\yw 4 b/\`b<=4/\Ff b=F
structure P4(pl:List By):Prop where
 lb:∀p∈pl,XD p
 ap:∀p∈pl,∀q∈pl,∀t,q=p++t->t=[]len:`pl=4
def b0(b:List By)(F:FF):(Prop):=∀s l,F s=A0 l->wM l/\∃p∈b,s=CL p
section
variable{H H':Hp}{kb:Dk}{G:FF}{rs:Dj}{T:Dh}{n z t:Str}{qs:By}{L:By}
def Fz(g:yw 4 gs){s:Str}{l:By}:Ff gs s=A0 l↔∃f∈gs,CL f.1=s/\f.2=l:=#[IL,λ⟨f,e,b,c⟩=>by rw[<-b,<-c];let:=BD g e]
def HP(g:yw 4 gs)(r:yw 4 rs):Ff rs=Ff gs↔∀f,f∈rs↔f∈gs:=by
 let one:∀{gs rs:Dj},yw 4 gs->yw 4 rs->Ff rs=Ff gs->∀f,f∈rs->f∈gs:=λ{gs rs}g r e f b=>by have:=BD r b;rw[e]at this;let#[k,hk,c,i]:=IL this;have:=Mf (Ha (g.lb hk) (r.lb b) c) i;simp_all
 let:=#[λe f=>#[one g r e f,one r g e.symm f],λe=>funext λs=>Option.ext λl=>?_];rw[Fz g,Fz r];simp_all
def Sw(g:yw 4 gs)(nd:rs.Nodup)(e:∀f,f∈rs↔f∈gs):yw 4 rs/\`rs=`gs:=have pm:=(Jz nd<|qQ g.nd).mpr e
 #[#[λf b=>g.wg f<|(e f).mp b,(pm.map _).nodup_iff.mpr g.nd,λf b k hk=>g.pre f ((e f).mp b) k<|(e k).mp hk],pm.length_eq]
def VF.more(h:VF S n F qs z)(c:wU S)(g:wU<|S++T):VF (S++T) n F qs z:=let#[gs,t,a,b]:=h;#[gs,t,a.more c g,b]
def VF.read(ok:wU S)(h:VF S n F qs z):∃t,At S n (.note t qs z)/\(∃Do,At S t<|.tree Do)/\Tree 5 S t/\yw 4 (zp 5 S t)/\↑(zp 5 S t)<=4/\Ff (zp 5 S t)=F:=by let#[gs,t,q,g,l,e]:=h;let#[a]:=Sw g (aS (q.ok.rise ok).1) q.rd;let:=#[t,q.nt,q.tr,q.ok,a,⋯,e▸(HP g a).mpr q.rd]
def VF.note(h:VF S n F qs z):U8 S n=Eg:=let#[_,_,q,_]:=h;cK q.nt
def sV.same(h:sV K H Dl F)(e:zx H H'):sV K H' Dl F:=let#[gs,a,b]:=h;#[gs,a.same e,b]
def sV.files(h:sV K H Dl F):∃L,AnS.Files K H Dl L F/\`L<=4/\(∀p∈L,`p<=1000/\Ez p=Eg)/\∀p,AnS.okO<|F p:=by let#[gs,a,g,l,rfl]:=h;let:=#[_,Kv a g,by simp_all,λp e=>?_,(fc g).ok];let#[f,b,rfl]:=ZH.mp e;let#[_,_,c,_]:=XV (ZG 4) g b;let:=#[ZT c,SU<|g.lb b]
def sV.three(hb:sV K H Dl B)(hm:sV K H km M)(g:sV K H ky Y):∃LB LM LY,AnS.Three K H Dl km ky LB LM LY B M Y:=by let#[LB,b,n,c,e]:=hb.files;let#[LM,m1,m2,m3,m4]:=hm.files;let#[LY,i,o,j,l]:=g.files;let:=#[LB,LM,LY,b,m1,i,⋯,λp f=>f.elim (c p) λz=>z.elim (m3 p)<|j p,λp=>#[e p,m4 p,l p]]
def sV.eq{a b:Er}(ha:H a=A0 (.dK Dl))(hb:H b=A0 (.dK kb))(x:sV K H Dl F)(y:sV K H kb G){Q:V->Hp->Prop}(k:∀r:Bool,(r=Eg↔F=G)->Q (.bl r) H):zwH K (.ref a) (.ref b) H Q:=by let#[rs,e,r,_,rfl]:=x;let#[gs,i,g,_,rfl]:=y;let:=#[a,b,Dl,kb,_,Ej,Ej,.inl ha,.inl hb,FZ i g e λf c=>#[(r.lb c).1,(r.lb c).2.2],k _<|by rw[Kj e i g<|qQ r.nd,HP g r]]
def P4.fs(q:P4 pl)(s:b0 pl F)(h:AnS.Files K H Dl L F):∃gs,yj K H gs Dl/\yw 4 gs/\`gs<=4/\Ff gs=F/\(gs.map λf=>CL f.1)=L:=by
 let#[lb,hl]:=Classical.axiomOfChoice (r:=λx p=>x∈L->p∈pl/\CL p=x) λx=>by
  by_cases j:x∈L;.let#[l,e]:=Yx.mp<|(h.mem x).mp j;let#[p,o,v]:=(s x l e).2;let:=#[p,λ_=>#[o,v.symm]]
  .let:=#[[],λz=>(j z).elim]
 let ek:(L.map λx=>((lb x,(F x).getD []):Fi)).map (λf=>(.inr<|CL f.1:Key))=L.map Sum.inr:=by simp_all[ZV]
 let val:∀x∈L,∃l,F x=A0 l/\wM l:=λx j=>by let#[l,e]:=Yx.mp<|(h.mem x).mp j;let:=#[l,e,(s x l e).1]
 let g:yw 4<|L.map λx=>((lb x,(F x).getD []):Fi):=by
  let:=#[λf n=>?_,?_,λf n k hk t e=>?_];.let#[x,j,rfl]:=ZH.mp n;let#[l,e,ln]:=val x j;let#[a,b,c]:=q.lb _ (hl x j).1;let:=#[a,b,c,e▸ln]
  .rw[ZV];let:=Ya.mpr<|YR.mpr<|(Ya.mp h.is.nd).imp_of_mem λ{x y}j u ne e=>ne ?_;let e:lb x=lb y:=e;rw[<-(hl x j).2,<-(hl y u).2,e]
  .let#[x,j,rfl]:=ZH.mp n;let#[y,u,rfl]:=ZH.mp hk;let:=q.ap _ (hl x j).1 _ (hl y u).1 t e
 let:=#[L.map λx=>(lb x,(F x).getD []),#[h.is.keys▸ek.symm,λi f kv a b=>?_],g,?_,?_,?_];.rw[ZN]at a;let#[x,j,rfl]:=Z2.mp a;let#[l,e,ln]:=val x<|ZI j;let#[h1,h2,h3]:=h.is.pair<|ZI b;have:=(h.is.at b).1;rw[j]at this;rw[<-dI this]at h3;rw[e]at h3 ⊢;let:=#[h3,ln]
 .have:=Ur (l₁:=L.map lb) (l₂:=pl) ?_ λp o=>?_;.rw[ZA]at this ⊢;rw[q.len]at this;let:=this
  .have:=g.nd;rw[ZV]at this;let:=this
  .let#[x,j,rfl]:=ZH.mp o;let:=(hl x j).1
 .let:=funext λs=>Option.ext λl=>?_;rw[Fz g];constructor;.rintro⟨f,n,rfl,rfl⟩;let#[x,j,rfl]:=ZH.mp n;let#[l,e,_]:=val x j;rw[(hl x j).2,e];rfl
  .intro e;let j:=(h.mem s).mpr (by rw[e];rfl);let:=#[_,ZH.mpr #[s,j,Ej],(hl s j).2,by rw[e];rfl]
 .rw[ZV];conv=>rhs;rw[<-Uw L]
  let:=Yp λx j=>(hl x j).2
def P4.apart(q:P4 pl)(s:b0 pl F)(i:(F x).isSome=Eg)(j:(F y).isSome=Eg):Xq x y=Ei:=by let#[l,c]:=Yx.mp i;let#[m,f]:=Yx.mp j;let#[_,a,ha,rfl]:=s x l c;let#[_,b,hb,rfl]:=s y m f;cases o:Xq ..with|false=>rfl|true=>let#[t,g,e]:=(Bu (q.lb a ha).1 (q.lb b hb).1 (q.lb a ha).2.2 (q.lb b hb).2.2).mp o;let:=absurd (q.ap a ha b hb t e) g
end
def RJ(j:AnS.Js):(FF):=λp=>(j p).getD Ee
structure Jn(B M Y:FF)(j:AnS.Js):Prop where at_:∀p,AnS.Jq (B p) (M p) (Y p)<|j p
structure Cl(pl:List By)(j:AnS.Js):Prop where
 p4:P4 pl
 all:∀p,(j p).isSome=Eg
 sup:b0 pl<|RJ j
def Cz(j:AnS.Js):(Prop):=(∃p,j p=Ee)\/∃p q,(RJ j p).isSome=Eg/\(RJ j q).isSome=Eg/\Xq p q=Eg
def FsR(K:CK)(H:Hp)(Dl:Dk)(F:FF):(Prop):=∃b,yj K H b Dl/\yw 4 b/\`b<=4/\Ff b=F/\(b.map λf=>CL f.1).Pairwise HM
def FsR.fs(h:FsR K H Dl F):sV K H Dl F:=by let#[gs,a,b,c,d,_]:=h;let:=#[gs,a,b,c,d]
def FsR.same(h:FsR K H Dl F)(e:zx H H'):FsR K H' Dl F:=let#[gs,a,b]:=h;#[gs,a.same e,b]
section
variable{H:Hp}{kb km ky kf:Dk}{LB LM LY ss:By}{B M Y:FF}{j:AnS.Js}
def mC{p:Str}:AnS.stB j p=Eg↔(RJ j p).isSome=Eg:=by unfold AnS.stB RJ;match j p with|none=>rfl|some Ee=>rfl|some<|A0 _=>rfl
def Jn.out(n:Jn B M Y j)(th:AnS.Three K H kb km ky LB LM LY B M Y)(un:AnS.Uni LB LM LY ss){p:Str}(h:p∉ss):j p=A0 Ee:=by
 rw[un.mem,th.fm.mem,th.fy.mem]at h;let e:∀{o:Option By},¬o.isSome=Eg->o=Ee:=λ{o}z=>by simp_all
 let b:=e λz=>h<|.inr<|.inl z;let c:=e λz=>h<|.inr<|.inr z;let z:=n.at_ p;rw[b,c]at z;trivial
def Jn.inn(n:Jn B M Y j)(th:AnS.Three K H kb km ky LB LM LY B M Y)(un:AnS.Uni LB LM LY ss){p:Str}(h:(RJ j p).isSome=Eg):p∈AnS.ST ss j:=by let:=YK.mpr #[LD λz=>?_,mC.mpr h];unfold RJ at h;rw[n.out th un z]at h;cases h
def Cl.bl(c:Cl pl j){p:Str}(b:(RJ j p).isSome=Eg):AnS.blB (AnS.ST ss j) p=Ei:=by let:=UM.mpr λq hq=>?_;let hq:=mC.mp (YK.mp hq).2;rw[c.p4.apart c.sup hq b,c.p4.apart c.sup b hq];let:=Yf
def Cl.lc(c:Cl pl j):AnS.LC ss j=[]:=List.filter_eq_nil_iff.mpr λp _ z=>by cases q:AnS.stB j p with|true=>rw[c.bl<|mC.mp q,Jy,UX]at z;rw[VN]at z;have:=c.all p;simp_all|false=>rw[q,Ug,UX,VN]at z;have:=c.all p;simp_all
def Cl.files(c:Cl pl j)(n:Jn B M Y j)(th:AnS.Three K H kb km ky LB LM LY B M Y)(un:AnS.Uni LB LM LY ss){f:Hp}(d:AnS.zc K f kf (AnS.LF ss j)<|AnS.gF j):FsR K f kf<|RJ j:=by let g:AnS.Files K f kf _<|RJ j:=#[d,λp=>by unfold AnS.LF;rw[YK];let:=#[λz=>mC.mp (YK.mp z.1).2,λz=>#[n.inn th un z,by rw[c.bl z];rfl]]];let#[i,a,b,l,e,ek]:=c.p4.fs c.sup g;let:=#[i,a,b,l,e,?_];rw[ek];let:=(un.sorted.filter _).filter _
def Cz.lc(c:Cz j)(n:Jn B M Y j)(th:AnS.Three K H kb km ky LB LM LY B M Y)(un:AnS.Uni LB LM LY ss):AnS.LC ss j≠[]:=λz=>by
 let no:∀p,p∉AnS.LC ss j:=λp b=>by grind
 rcases c with⟨p,e⟩|⟨p,q,b,hq,o⟩;.let:=no p<|AnS.zzK.mpr<|.inl<|YK.mpr #[LD λw=>?_,by rw[e];rfl];rw[n.out th un w]at e;cases e
 .let:=no p<|AnS.zzK.mpr<|.inr #[n.inn th un b,YH.mpr #[q,n.inn th un hq,by simp_all]]
end
inductive zwX(P:Et)(w:Ey)(K:CK)(C:Er)(vs:Di)(H:Hp)(Q:VK)(e3:XK):Prop|mk(a:Er)(fp:Dc)(S:Dh)(x t:Str)(ps:By)(y:Str)(h0:vs=[.ref a,.str x])(h1:yc P w K C H a fp S)(h2:wU S)(h3:At S x<|.note t ps y)(h4:∀H',zx H H'->Q (oV ps.head?) H'):zwX P w K C vs H Q e3
def PB(S:Dh)(o:Option Str)(B:FF):(Prop):=match o with|none=>B=λ_=>Ee|some f=>∃q z,VF S f B q z
inductive zwL(P:Et)(w:Ey)(K:CK)(C:Er)(vs:Di)(H:Hp)(Q:VK)(e3:XK):Prop|mk(a:Er)(fp:Dc)(S:Dh)(o:Option Str)(F:FF)(h0:vs=[.ref a,oV o])(h1:yc P w K C H a fp S)(h2:wU S)(h3:PB S o F)(h4:∀e Dl H',zx H H'->H e=Ee->H' e=A0 (.dK Dl)->sV K H' Dl F->Q (.ref e) H'):zwL P w K C vs H Q e3
inductive zwT(aV:Er)(vs:Di)(H:Hp)(Q:VK)(E:XK):Prop|mk(t af ac:Er)(zs:Di)(h0:vs=[.ref t])(h1:H t=A0 (.tup [.ref af,.ref ac]))(h2:H ac=A0 (.lst zs))(h3:zs=[]->Q (.ref af) H)(h4:zs≠[]->E (.ref aV) Ee H):zwT aV vs H Q E
def Sj{b:Er}{Q:VK}{E:XK}(sh:yc P w K C H a fp S)(ok:wU S)(k2:U8 S x=Ei->E (.ref b) Ee H)(k1:U8 S x=Eg->∃F qs z,VF S x F qs z/\∀e Dl H',zx H H'->H e=Ee->H' e=A0 (.dK Dl)->sV K H' Dl F->Q (.ref e) H'):uw P w K C b [.ref a,.str x] H Q E:=by let:=#[a,fp,S,x,Ej,sh,ok,k2,λt o y at_=>?_];let#[F,qs,z,v,k]:=k1<|cK at_;let#[p,nt,tr,j,g,l,e]:=v.read ok;let#[rfl,rfl,rfl]:=FJ ok at_ nt;let:=#[tr,j,⋯,λf i=>(g.wg f i).2.2.2,λc Dl H' s n h f=>k c Dl H' s n h #[_,f,g,l,e]]
def gi{H:Hp}{Q:VK}{E:XK}{ab b e:Er}{f g i:Dk}(n:Jn B M Y j)(h1:H ab=A0 (.dK f))(h2:H b=A0 (.dK g))(h3:H e=A0 (.dK i))(r:sV K H f B)(u:sV K H g M)(v:sV K H i Y)(k:∀(t af ac:Er)(kf:Dk)(zs:Di)H',zx H H'->H' t=A0 (.tup [.ref af,.ref ac])->H af=Ee->H' af=A0 (.dK kf)->H' ac=A0 (.lst zs)->(∀pl,Cl pl j->zs=[]/\FsR K H' kf (RJ j))->(Cz j->zs≠[])->Q (.ref t) H'):AnS.pO K [.ref ab,.ref b,.ref e] H Q E:=by let#[l,o,p,th]:=sV.three r u v;let:=#[ab,b,e,f,g,i,l,o,p,B,M,Y,j,Ej,h1,h2,h3,th,n.at_,λt ss H' s un af ac kf zs A D y x d w q=>?_];let ln:=`q;rw[ZA]at ln;let:=k t af ac kf zs H' s y A x w (λpl c=>#[?_,c.files n th un d]) λc z=>c.lc n th un (YI<|by rw[z]at ln;let:=ln.symm);rw[c.lc]at ln;let:=YI ln
def sV.nil:sV K H [] λ_=>Ee:=#[[],#[Ej,λi f kv a=>nomatch a],#[λf b=>(nomatch b),YM,λf b=>nomatch b],Yk _,Ej]
namespace Cp
abbrev st:=top 81
def sc:zy ["store","name","parents"] ["store","name"]<|zF st:=CP
include T in
def ok(F:yd0 K "first_parent" st f fd)(c:xu P w K mg dX 7 "parents_of" ["store","name"]<|mW P w K aC):zj P w K mg dX CO 8 f fd ["store","name"]<|zwX P w K aC:=by let:=F.ok sc λ_ _ _ _ H j Q E g h=>?_;let#[a,e,S,x,t,b,y,rfl,sh,ok,at_,k]:=h;let:=#[_,zC (wS 2 sc.nd<|wc c g<|zA (pv 0)<|zA (pv 1) zB)<|zE<|zJ<|vK (wT O5 (zI zN (by rfl) T.len Yh<|zA (pv 2) zB) zG) (wL K (pv 2) zG) yH,?_];let:=#[a,e,S,x,t,b,y,Ej,sh,ok,at_,λl i=>zR ?_];let hl:yp K (upd H l<|.lst<|b.map V.str) l<|b.map V.str:=yp.of zD;let:=#[l,_,Ej,.inl hl,_,Ej,?_];let k:=k _<|zz (o:=.lst<|b.map V.str) i;cases b with|nil=>let:=F4 (by simp) k|cons p b=>let:=NR (by simp) #[l,_,_,_,Ej,Ej,hl,xB rfl,k]
end Cp
namespace Cq
abbrev st:=top 86
def sc:zy ["store","version"] ["store","version"]<|zF st:=CP
include T in
def ok(F:yd0 K "files_or_none" st f fd)(b:rG P w K mg dX 15 "files_at" ["store","version"]<|uw P w K aC b5):zj P w K mg dX CO 16 f fd ["store","version"]<|zwL P w K aC:=by let:=F.ok sc λ_ _ _ _ H i Q E c h=>?_;let#[a,g,S,o,G,rfl,sh,ok,v,k]:=h;let:=#[_,zE<|zJ<|vK (wT vX (pv 1) yH) yU<|y8 b c.m xQ<|zA (pv 0)<|zA (pv 1) zB,?_];cases o with|none=>cases v;let:=#[Ej,Eg,Ej,U1 λe ne=>k e _ _ (zz ne) ne zD sV.nil]|some x=>let#[q,z,v]:=v;let:=#[Ej,Ei,Ej,UZ<|Sj sh ok (λz=>by rw[v.note]at z;cases z) λ_=>#[G,q,z,v,k]]
end Cq
namespace Cr
abbrev st:=top 89
def sc:zy ["joined"] ["joined"]<|zF st:=CP
include T in
def ok(F:yd0 K "need_clean" st f fd):zj P w K mg dX (HN P w) 1 f fd ["joined"]<|zwT b4:=by let:=F.okX sc λ_ _ _ _ H l Q E j h=>?_;let#[t,i,e,c,rfl,b,g,k1,k2]:=h;let:=#[_,zC (zX (wT O5 (zI zN (by rfl) T.len Yh<|zA (wI K (pv 0) zG) zB) zG) (zE<|K6 rfl BR rfl T.zxC T.zwI<|zA zK zB) zM)<|zE<|zJ<|wI K (pv 0) zG,?_];let:=#[t,_,_,_,Ej,Ej,yq.of b,Ej,e,_,Ej,.inl<|yp.of g,_,Ej,?_];cases c with|nil=>let:=F4 (by simp) #[t,_,_,_,Ej,Ej,yq.of b,Ej,k1 rfl]|cons z c=>let:=NR (by simp) #[UY 1,k2 λz=>by cases z]
end Cr
structure Kf(S:Dh)(F:FF)(ps:By)(y:Str)(S':Dh)(n:Str):Prop where fs:∃fs,qw S fs ps y (S',n)/\yw 4 fs/\`fs<=4/\Ff fs=F/\(fs.map λf=>CL f.1).Pairwise HM/\CT S fs ps y=(S',n)
inductive zzS(P:Et)(w:Ey)(K:CK)(C D b4 b5:Er)(vs:Di)(H:Hp)(Q:VK)(E:XK):Prop|mk(b a h:Er)(fp:Dc)(S:Dh)(hs:Hs)(v o:Str)(h0:vs=[.ref b,.str v,.str o])(h1:xr P w K C D H b a h fp S hs)(h2:`S<1800)(h3:U8 S v=Ei->E (.ref b5) Ee H)(h4:U8 S v=Eg->∃(B Y:FF)(qs:By)(z:Str),VF S v Y qs z/\PB S qs.head? B/\U4 z=Eg/\(U8 S o=Ei->∀H',zx H H'->E (.ref b5) Ee H')/\(U8 S o=Eg->∃(M:FF)(q2:By)(z2:Str)(j:AnS.Js),VF S o M q2 z2/\Jn B M Y j/\(Cz j->∀H',zx H H'->E (.ref b4) Ee H')/\(Cz j\/∃pl,Cl pl j)/\(∀pl,Cl pl j->RJ j=M->∀H',zx H H'->Q (.str o) H')/\∀pl,Cl pl j->RJ j≠M->∀S' n H',Kf S (RJ j) [o] z S' n->Off fp H H'->xr P w K C D H' b a h fp S' hs->Q (.str n) H')):zzS P w K C D b4 b5 vs H Q E
def KY{Q:VK}{E:XK}{c:Er}(B:xr P w K C D H b a h fp S hs)(sl:`S<1800)(u:H c=A0 (.dK Dl))(z:c∉fp)(i:FsR K H Dl F)(hl:yp K H l<|ps.map V.str)(nd:ps.Nodup)(o:`ps<=2)(r:∀p∈ps,U8 S p=Eg)(j:U4 y=Eg)(k:∀S' n H',Kf S F ps y S' n->Off fp H H'->xr P w K C D H' b a h fp S' hs->Q (.str n) H'):tZ P w K C [.ref a,.ref c,.ref l,.str y] H Q E:=by
 let#[fs,i,f,t,e,A]:=i;let J:wt fs<=16:=by have:=f.wt;lia
 let:=#[a,c,l,fp,S,fs,Dl,ps,y,Ej,B.sh,B.ok,u,z,i,f,⋯,hl,nd,o,r,j,⋯,λH' of sh=>?_];let N:=IR B.ok f ⋯ nd o r j ⋯;generalize eq:CT S fs ps y=q at N sh ⊢;let#[G,g]:=N.more;let#[s,hb]:=B.ob;let:=k _ _ H' #[fs,N,f,t,e,A,eq] of #[#[s,of _ _ B.nb hb],sh,of _ _ B.nh B.hd,B.nb,B.nh,N.ok,B.nd,λp x v e=>g▸qC (B.hv p x v e)]
namespace Cs
abbrev st:=top 90
def sc:zy ["annals","version","onto","shelf","yours","base","mine","files"] ["annals","version","onto"]<|zF st:=CP
include T in
def ok(F:yd0 K "carried" st f fd)(Qj:rG P w K mg dX 15 "files_at" ["store","version"]<|uw P w K aC b5)(Zi:xu P w K mg dX 16 "files_or_none" ["store","version"]<|zwL P w K aC)(Zj:xu P w K mg dX 8 "first_parent" ["store","name"]<|zwX P w K aC)(Zk:xu P w K mg dX 9 "joined_files" ["base","mine","yours"]<|AnS.pO K)(Zl:rG P w K mg dX 1 "need_clean" ["joined"]<|zwT b4)(Qf:xu P w K mg dX 13 "noted" ["shelf","files","parents","words"]<|tZ P w K aC)(Qz:xu P w K mg dX 7 "words_of" ["store","name"]<|mF P w K aC):zj P w K mg dX (HN P w) 17 f fd ["annals","version","onto"]<|zzS P w K aC aD b4 b5:=by
 let:=F.okX sc λ_ _ _ _ H vs Q E g h=>?_;let#[b,a,h,L,S,hs,v,o,rfl,B,sl,k0,k1]:=h;let:=#[_,zC (wS 3 sc.nd<|yE (pv 0) rfl)<|zC (wS 4 sc.nd<|y8 Qj g.m jP<|zA (pv 3)<|zA (pv 1) zB)<|zC (wS 5 sc.nd<|wc Zi g<|zA (pv 3)<|zA (wc Zj g<|zA (pv 3)<|zA (pv 1) zB) zB)<|zC (wS 6 sc.nd<|y8 Qj g.m jP<|zA (pv 3)<|zA (pv 2) zB)<|zC (wS 7 sc.nd<|y8 Zl g.m jP<|zA (wc Zk g<|zA (pv 5)<|zA (pv 6)<|zA (pv 4) zB) zB)<|zC (zX (wT (Hl g.tU) (pv 7)<|pv 6) (zE<|zJ<|pv 2) zM)<|zE<|zJ<|wc Qf g<|zA (pv 3)<|zA (pv 7)<|zA (yD<|zA (pv 2) zB)<|zA (wc Qz g<|zA (pv 3)<|zA (pv 1) zB) zB,?_];let#[dx,hb]:=B.ob;let:=#[b,aD,dx,_,_,Ej,hb,T.xg,T.m1,Ej,zR<|Sj B.sh B.ok k0 λnv=>?_];let#[Bf,Y,N,z,vY,pb,lz,k2,k3]:=k1 nv;let:=#[Y,N,z,vY,λe1 c1 H1 s1 n1 h1 f1=>zR ?_];let#[_,tv,x,_]:=id vY;let:=#[a,L,S,v,tv,N,z,Ej,B.sh.same s1,B.ok,x.nt,λH2 s2=>?_];let y:=s1.trans s2;let:=#[a,L,S,N.head?,Bf,Ej,B.sh.same y,B.ok,pb,λe3 c3 H3 s3 n3 h3 f3=>zR ?_];let s:=y.trans s3;let:=Sj (B.sh.same s) B.ok (λno=>k2 no _ s) λno=>?_;let#[M,q2,z2,j,vM,jn,kz,cc,k4,k5]:=k3 no;let:=#[M,q2,z2,vM,λe4 c4 H4 R n4 h4 f4=>zR ?_];let A:=s.trans R;let D:=(s2.trans s3).trans R;let:=gi jn (R _ _ h3) h4 (D _ _ h1) (f3.same R) f4 (f1.same D) λt J ac kf zs H5 s5 ht na hf hc cl cz=>?_;let e:=A.trans s5;let:=#[t,J,ac,zs,Ej,ht,hc,λez=>zR ?_,λnz=>?_]
 .let#[q,i]:∃q,Cl q j:=cc.elim (λc=>absurd ez<|cz c) id;let#[_,ff]:=cl q i;delta No eI BM Pw;dsimp only;let:=pK.mk (v:=V.ref J) rfl<|pK.mk (v:=V.ref e4) rfl<|sV.eq hf (s5 _ _ h4) ff.fs (f4.same s5) λr u=>#[_,Ej,U3 (λc=>?_)<|λc=>?_];.let:=k4 q i (u.mp c) _ e
  .let X:J∉L:=λz=>by let#[o,eo]:=(B.same A).sh.ex J z;rw[na]at eo;cases eo
   let:=#[UY 1,λl nl=>nw nl λH6 G h6=>#[a,L,S,v,tv,N,z,Ej,B.sh.same<|e.trans G,B.ok,x.nt,KY (ps:=[o]) (B.same<|e.trans G) sl (G _ _ hf) X (ff.same G) (yp.of h6) (by simp) (J8 1) (λp hp=>ZC.mp hp▸no) lz λS' n H7 kf Z B7=>k5 q i (λz=>c<|u.mpr z) S' n H7 kf (λc' o' U e'=>Z _ _ U<|(e.trans G) _ _ e') B7]]
 .let:=kz (cc.elim id λ⟨q,c⟩=>absurd (cl q c).1 nz) _ e
end Cs
open AnC
abbrev Zr:=By×Sd
def Kd(s:Sd):(Prop):=∃t∈tails,∃u∈nine t,s=u\/s=u.turn
def Xj:(Sd):=#[Ee,A0 ["low"],Ee,Ee]
def Xa:(Sd):=#[Ee,Ee,A0 ["high"],Ee]
def _root_.AnC.Sd.due(s:Sd):(Option By):=s.d.getD Ee
def Xu(zs:List Zr)(q:Str):(Option Sd):=(zs.find? λz=>decide<|CL z.1=q).map (·.2)
def col(f:Sd->Option By)(zs:List Zr):(FF):=λq=>(Xu zs q).bind f
def CY(f:Sd->Option By)(zs:List Zr):(Dj):=zs.filterMap λz=>(f z.2).map λl=>(z.1,l)
structure Zs(pl py:List By)(zs:List Zr):Prop where
 p4:P4 pl
 p4y:P4 py
 nd:(zs.map λz=>CL z.1).Nodup
 inM:∀z∈zs,∀f∈[Sd.b,Sd.m,Sd.due],(f z.2).isSome=Eg->z.1∈pl
 inY:∀z∈zs,z.2.y.isSome=Eg->z.1∈py
 kd:(∀z∈zs,Kd z.2)\/(∀z∈zs,Kd z.2\/z.2=Xj\/z.2=Xa)/\∃p q,(p,Xj)∈zs/\(q,Xa)∈zs/\Xq (CL p) (CL q)=Eg
 lb:∀z∈zs,XD z.1
def Cz.not(c:Cz j)(d:Cl pl j):False:=by
 rcases c with⟨p,e⟩|⟨p,q,hp,hq,o⟩;.have:=d.all p;simp_all
 .rw[d.p4.apart d.sup hp hq]at o;cases o
section
variable{py:List By}{zs:List Zr}{q:Str}{s:Sd}{f:Sd->Option By}
def G9(h:Xu zs q=A0 s):∃z∈zs,CL z.1=q/\z.2=s:=by let#[z,e,rfl]:=Z2.mp h;let:=#[z,Ji e,ZT<|Vv (p:=λz:Zr=>decide<|CL z.1=q) e,Ej]
def at_of:∀{zs:List Zr},(zs.map λz=>CL z.1).Nodup->∀{z:Zr},z∈zs->Xu zs (CL z.1)=A0 z.2
 |[],_,_,h=>nomatch h|y::zs,nd,z,h=>by
  rw[Z9,YC]at nd;unfold Xu;rw[JD];by_cases e:CL y.1=CL z.1
  .rw[ZK e];rcases ZJ.mp h with rfl|h;.rfl
   .let:=absurd (ZH.mpr #[z,h,e.symm]) nd.1
  .rw[ZZ e];rcases ZJ.mp h with rfl|h;.trivial
   .let:=at_of nd.2 h
def Bc(h:col f zs q=A0 l):∃z∈zs,CL z.1=q/\f z.2=A0 l:=by let#[s,e,h]:=JR.mp h;let#[z,c,b,rfl]:=G9 e;let:=#[z,c,b,h]
def ck(nd:(zs.map λz=>CL z.1).Nodup){z:Zr}(h:z∈zs):col f zs (CL z.1)=f z.2:=by unfold col;rw[at_of nd h];rfl
def mq{k:Fi}:k∈CY f zs↔∃z∈zs,z.1=k.1/\f z.2=A0 k.2:=by unfold CY;rw[JX];let:=#[λ⟨z,c,e⟩=>?_,λ⟨z,c,b,g⟩=>#[z,c,by rw[g,b];rfl]];let#[l,b,rfl]:=Z2.mp e;let:=#[z,c,Ej,b]
def Sq(nd:(zs.map λz=>CL z.1).Nodup):((CY f zs).map λk=>CL k.1).Nodup:=by
 have:(CY f zs).map (λk=>CL k.1)=(zs.filter λz=>(f z.2).isSome).map λz=>CL z.1:=by unfold CY;induction zs with|nil=>rfl|cons z zs ih=>rw[Z9,YC]at nd;rw[Jj,Uq];cases e:f z.2 with|none=>let:=ih nd.2|some l=>let:=congrArg _<|ih nd.2
 rw[this];let:=nd.sublist<|List.filter_sublist.map _
def gj(h:Kd s):∃t∈tails,∀o∈[s.b,s.m,s.y,s.due],∀a,o=A0 a->a∈WE t:=by
 let#[t,f,u,i,e]:=h;let:=#[t,f,λo c a g=>cI t f u i o ?_ a g];rcases e with rfl|rfl;.let:=c
 .simp only[ZJ]at c ⊢;rcases c with h|h|h|h;.let:=.inl h
  .let:=.inr<|.inr<|.inl h
  .let:=.inr<|.inl h
  .let:=.inr<|.inr<|.inr h
def Zs.one(Z:Zs pl py zs){z:Zr}(h:z∈zs):Kd z.2\/z.2=Xj\/z.2=Xa:=Z.kd.elim (λk=>.inl<|k z h) λk=>k.1 z h
def Zs.ln(Z:Zs pl py zs){z:Zr}(h:z∈zs)(c:f∈[Sd.b,Sd.m,Sd.due,Sd.y]){l:By}(e:f z.2=A0 l):wM l:=by
 simp only[ZJ,Yd,YY]at c;rcases Z.one h with k|k|k;.let#[t,g,k]:=gj k;have:=cS t g l<|k _ (by rcases c with rfl|rfl|rfl|rfl<;>simp) l e;let:=#[⋯,this.2]
 .rw[k]at e;rcases c with rfl|rfl|rfl|rfl<;>cases e;trivial
 .rw[k]at e;rcases c with rfl|rfl|rfl|rfl<;>cases e;trivial
def Zs.good0(Z:Zs pl py zs){t:List By}(p4:P4 t)(i:∀z∈zs,(f z.2).isSome=Eg->z.1∈t)(u:f∈[Sd.b,Sd.m,Sd.due,Sd.y]):yw 4 (CY f zs)/\↑(CY f zs)<=4/\Ff (CY f zs)=col f zs/\b0 t (col f zs):=by
 let mem:∀k∈CY f zs,k.1∈t/\wM k.2:=λk hk=>by let#[z,o,q,n]:=mq.mp hk;let:=#[q▸i z o (by rw[n];rfl),Z.ln o u n]
 let nd:=Sq (f:=f) Z.nd;let r:((CY f zs).map (·.1)).Nodup:=by let:=Ya.mpr<|YR.mpr<|(YR.mp<|Ya.mp nd).imp λ{a b}h e=>h<|by rw[e]
 let g:yw 4 _:=#[λk hk=>let ⟨a,b,c⟩:=p4.lb _ (mem k hk).1;#[a,b,c,(mem k hk).2],r,λk hk j v=>p4.ap _ (mem k hk).1 _ (mem j v).1];let:=#[g,?_,?_,λs l e=>?_]
 .have:=Ur r λp w=>by let#[k,hk,rfl]:=ZH.mp w;let:=(mem k hk).1
  rw[ZA,p4.len]at this;let:=this
 .let:=funext λs=>Option.ext λl=>?_;rw[Fz g];constructor;.rintro⟨k,hk,rfl,rfl⟩;let#[z,o,q,n]:=mq.mp hk;rw[<-q,ck Z.nd o,n]
  .intro e;let#[z,o,q,n]:=Bc e;let:=#[(z.1,l),mq.mpr #[z,o,Ej,n],q,Ej]
 .let#[z,o,q,n]:=Bc e;let:=#[Z.ln o u n,z.1,i z o<|by rw[n];rfl,q.symm]
def Zs.good(Z:Zs pl py zs)(c:f∈[Sd.b,Sd.m,Sd.due]):yw 4 (CY f zs)/\↑(CY f zs)<=4/\Ff (CY f zs)=col f zs/\b0 pl (col f zs):=Z.good0 Z.p4 (λz e=>Z.inM z e f c)<|YB _ c
def Zs.lg(Z:Zs pl py zs):yw 4 (CY Sd.y zs)/\↑(CY Sd.y zs)<=4/\Ff (CY Sd.y zs)=col Sd.y zs/\b0 py (col Sd.y zs):=Z.good0 Z.p4y Z.inY<|by simp
def Zs.row(Z:Zs pl py zs)(q:Str):Xu zs q=Ee\/∃s,Xu zs q=A0 s/\(Kd s\/s=Xj\/s=Xa):=by cases e:Xu zs q with|none=>let:=.inl rfl|some s=>let#[z,b,_,rfl]:=G9 e;let:=.inr #[_,Ej,Z.one b]
def Zs.j1(Z:Zs pl py zs):Jn (col Sd.b zs) (col Sd.b zs) (col Sd.y zs) (λp=>A0<|col Sd.y zs p)/\Cl py λp=>A0<|col Sd.y zs p:=by let:=#[#[λp=>.of ?_],Z.p4y,λp=>rfl,Z.lg.2.2.2];unfold AnS.jq;simp
def jA(zs:List Zr):(AnS.Js):=λp=>match Xu zs p with|none=>A0 Ee|some s=>if s=Xj then A0 s.m else if s=Xa then A0 s.y else s.d
def pL:¬Kd Xj/\¬Kd Xa:=by
 let:=#[λ⟨t,b,u,c,e⟩=>?_,λ⟨t,b,u,c,e⟩=>?_];.let:=absurd e<|(by trivial:∀t∈tails,∀u∈nine t,¬(Xj=u\/Xj=u.turn)) t b u c
 .let:=absurd e<|(by lk:∀t∈tails,∀u∈nine t,¬(Xa=u\/Xa=u.turn)) t b u c
def SJ(h:Kd s):AnS.Jq s.b s.m s.y s.d/\∀o,s.d=A0 o->AnS.Jq s.b o s.y (A0 o):=by
 let#[t,g,u,i,e]:=h;let#[a,b,c]:=Sd.det g i;rcases e with rfl|rfl;.let:=#[a,λo f=>(c o f).1]
 .let:=#[b,λo f=>(c o f).2]
def Zs.j2(Z:Zs pl py zs):Jn (col Sd.b zs) (col Sd.m zs) (col Sd.y zs) (jA zs)/\((∃z∈zs,z.2.d=Ee)->Cz (jA zs))/\((∀z∈zs,z.2.d≠Ee)->Cl pl (jA zs)/\RJ (jA zs)=col Sd.due zs):=by
 let ne:Xa≠Xj:=∅;let:=#[#[λp=>?_],λ⟨z,c,e⟩=>?_,λall=>?_]
 .unfold col jA;rcases Z.row p with h|⟨s,h,kd⟩;.rw[h];let:=.of rfl
  .rw[h];show AnS.Jq s.b s.m s.y<|if s=Xj then A0 s.m else if s=Xa then A0 s.y else s.d;rcases kd with kd|rfl|rfl;.rw[ZX λz:s=Xj=>pL.1<|z▸kd,ZX λz:s=Xa=>pL.2<|z▸kd];let:=(SJ kd).1
   .rfl
   rfl
 .rcases Z.kd with k|⟨_,p,q,i,hq,o⟩;.let:=.inl #[CL z.1,?_];unfold jA;rw[at_of Z.nd c];show(if z.2=Xj then A0 z.2.m else if z.2=Xa then A0 z.2.y else z.2.d)=Ee;rwa[ZX λw:z.2=Xj=>pL.1<|w▸k z c,ZX λw:z.2=Xa=>pL.2<|w▸k z c]
  .let:=.inr #[CL p,CL q,?_,?_,o];.unfold RJ jA;rw[at_of Z.nd i];rfl
   .unfold RJ jA;rw[at_of Z.nd hq];rfl
 .let k:∀z∈zs,Kd z.2:=λz c=>by
   rcases Z.one c with h|h|h;.let:=h
   .let:=absurd (by rw[h];rfl)<|all z c
   .let:=absurd (by rw[h];rfl)<|all z c
  let val:∀p,jA zs p=A0 (col Sd.due zs p):=λp=>by unfold jA col;cases e:Xu zs p with|none=>rfl|some s=>let#[z,c,_,rfl]:=G9 e;show(if z.2=Xj then A0 z.2.m else if z.2=Xa then A0 z.2.y else z.2.d)=A0 (z.2.d.getD Ee);rw[ZX λw:z.2=Xj=>pL.1<|w▸k z c,ZX λw:z.2=Xa=>pL.2<|w▸k z c];cases g:z.2.d with|none=>let:=absurd g<|all z c|some o=>rfl
  let f:RJ (jA zs)=col Sd.due zs:=funext λp=>by unfold RJ;rw[val];rfl
  let:=#[#[Z.p4,λp=>by rw[val];rfl,f▸(Z.good<|by simp).2.2.2],f]
def Zs.j3(Z:Zs pl py zs)(all:∀z∈zs,z.2.d≠Ee):Jn (col Sd.b zs) (col Sd.due zs) (col Sd.y zs) (λp=>A0<|col Sd.due zs p)/\Cl pl λp=>A0<|col Sd.due zs p:=by let:=#[#[λp=>?_],Z.p4,λp=>rfl,(Z.good<|by simp).2.2.2];unfold col;cases e:Xu zs p with|none=>rfl|some s=>let#[z,f,_,rfl]:=G9 e;show AnS.Jq z.2.b z.2.due z.2.y<|A0 z.2.due;cases c:z.2.d with|none=>let:=absurd c<|all z f|some o=>
   let kd:Kd z.2:=by
    rcases Z.one f with h|h|h;.let:=h
    .rw[h]at c;cases c
    .rw[h]at c;cases c
   let g:z.2.due=o:=by unfold Sd.due;rw[c];rfl
   rw[g];let:=(SJ kd).2 o c
def uF(zs:List Zr):(FF):=λp=>if(col Sd.b zs p).isSome=Eg then col Sd.b zs p else col Sd.m zs p
def odd(s:Sd):(Bool):=s.b.isSome&&(s.m.isSome&&decide (s.b≠s.m))
def jU(zs:List Zr):(AnS.Js):=λp=>match Xu zs p with|none=>A0 Ee|some s=>if odd s=Eg then Ee else A0<|if s.b.isSome=Eg then s.b else s.m
def Zs.j4(Z:Zs pl py zs):Jn (λ_=>Ee) (col Sd.m zs) (col Sd.b zs) (jU zs)/\((∃z∈zs,odd z.2=Eg)->Cz (jU zs))/\((∀z∈zs,odd z.2=Ei)->Cl pl (jU zs)/\RJ (jU zs)=uF zs):=by
 let:=#[#[λp=>?_],λ⟨z,c,e⟩=>?_,λall=>?_];.unfold col jU;cases e:Xu zs p with|none=>let:=.of rfl|some s=>show AnS.Jq Ee s.m s.b<|if odd s=Eg then Ee else A0 _;unfold odd;let:=.of ?_;unfold AnS.jq;generalize s.m=m;generalize s.b=b;cases b with|none=>cases m<;>simp|some b=>cases m with|none=>simp|some m=>
     by_cases e:m=b;.subst e;simp
     .simp[e,EG e]
 .let:=.inl #[CL z.1,?_];unfold jU;rw[at_of Z.nd c];let:=Z4 e
 .let val:∀p,jU zs p=A0 (uF zs p):=λp=>by unfold jU uF col;cases e:Xu zs p with|none=>rfl|some s=>let#[z,c,_,rfl]:=G9 e;show(if odd z.2=Eg then Ee else A0 _)=_;rw[all z c];rfl
  let f:RJ (jU zs)=uF zs:=funext λp=>by unfold RJ;rw[val];rfl
  let:=#[#[Z.p4,λp=>by rw[val];rfl,?_],f];rw[f];intro s l e;unfold uF at e;split at e;.let:=(Z.good<|by simp).2.2.2 s l e
  .let:=(Z.good<|by simp).2.2.2 s l e
end
structure Lb4(o t x r:Str):Prop where
 lo:zV o=Eg
 lt:zV t=Eg
 lx:zV x=Eg
 lr:zV r=Eg
 h1:o≠t
 h2:o≠x
 h3:o≠r
 h4:t≠x
 h5:t≠r
 h6:x≠r
inductive nY(K:CK)(vs:Di)(H:Hp)(Q:VK)(e3:XK):Prop|mk(a:Er)(ns:List Int)(k:Int)(h0:vs=[.ref a,.int k])(h1:yp K H a<|ns.map V.int)(h2:0<=k)(h3:∀i,Q (.int i) H):nY K vs H Q e3
def Pb(o t x r:Str):(List By):=[[o],[t,r],[r,t,o],[x,t]]
def aH(o t x r:Str):(List By):=[[o],[t,r],[r,t,o],[x,t,o]]
inductive mU(K:CK)(vs:Di)(H:Hp)(Q:VK)(e3:XK):Prop|mk(a:Er)(ns:List Int)(h0:vs=[.ref a])(h1:yp K H a<|ns.map V.int)(h2:∀(l:Er)(o t x r:Str)(H':Hp),zx H H'->H l=Ee->H' l=A0 (.lst<|(Pb o t x r).map λp=>V.str<|CL p)->Lb4 o t x r->Q (.ref l) H'):mU K vs H Q e3
def Po:(Sp):=λe H Q _=>∃c,e=[.int c]/\∀x b,zx H b->U4 x=Eg->Q (.str x) b
def dD:(Option (Option By)->EB)|none=>.str "clash"|some o=>AnS.oD o
def eW(s:Sd):(De):=[AnS.oD s.b,AnS.oD s.m,AnS.oD s.y,dD s.d]
inductive mY(K:CK)(vs:Di)(H:Hp)(Q:VK)(e3:XK):Prop|mk(kd c k:Int)(h0:vs=[.int kd,.int c,.int k])(h1:0<=kd)(h2:kd<=8)(h3:k∈([0,1,2]:List Int))(h4:∀(p:Er)(s:Sd)(us:Di)H',zx H H'->(∃t∈tails,s∈nine t)->H' p=A0 (.tup us)->zu K H' (eW s) us->Q (.ref p) H'):mY K vs H Q e3
def Tf:cs ("abcdefghijklmnopqrstuvwxyz":Str)=(EK 26).map (97+·):=rfl
def SZ{i:Int}(b:0<=i)(h1:i<26):FG ("abcdefghijklmnopqrstuvwxyz":Str).cps.toList i=A0 (97+i.toNat):=by let#[j,rfl]:=Jp b;let:=xB ?_;show(cs _)[j]?=_;rw[Tf,ZN,VS<|⋯];rfl
def KL:("abcdefghijklmnopqrstuvwxyz":Str).length<=sizeLine:=zr<|by trivial
def cW:cs ("abcdefgh":Str)=(EK 8).map (97+·):=rfl
def iT{i:Int}(b:0<=i)(h1:i<8):FG ("abcdefgh":Str).cps.toList i=A0 (97+i.toNat):=by let#[j,rfl]:=Jp b;let:=xB ?_;show(cs _)[j]?=_;rw[cW,ZN,VS<|⋯];rfl
def Hg{i:Int}(b:0<=i)(h1:i<26):Xt (97+i.toNat)=Eg:=by unfold Xt;lia
def F7{l:List Nat}(e:cs x=l)(h1:1<=`l)(f:`l<=8)(b:∀c∈l,Xt c=Eg):zV x=Eg:=wG.mpr #[by simp_all[za],by simp_all[za],by rw[e,Yc];let:=b]
def vL{l m:Str}:l++"/"++m=CL [l,m]:=rfl
def G7{l:Str}:l=CL [l]:=rfl
def gD(L:Lb4 o t x r):P4 (Pb o t x r)/\P4 (aH o t x r):=by
 let#[lo,lt,lx,lr,h1,h2,h3,h4,h5,h6]:=L;let:=#[#[by simp[Pb,XD,lo,lt,lx,lr],λp b q hq s e=>?_,Ej],#[by simp[aH,XD,lo,lt,lx,lr],λp b q hq s e=>?_,Ej]];.simp only[Pb,ZJ,Yd,YY]at b hq;rcases b with rfl|rfl|rfl|rfl<;>rcases hq with rfl|rfl|rfl|rfl<;>simp_all
 .simp only[aH,ZJ,Yd,YY]at b hq;rcases b with rfl|rfl|rfl|rfl<;>rcases hq with rfl|rfl|rfl|rfl<;>simp_all
def OB:(" ABCxyz019!#:~":Str).length<=sizeLine:=zr<|by trivial
def Wu:∀i<14,∃d,(cs (" ABCxyz019!#:~":Str))[i]?=A0 d/\Xb d=Eg:=by trivial
def bf{c k:Int}(hk:k∈([0,1,2]:List Int)):(#[#v[97+(c%8).toNat]]:Str)++Mp k∈tails:=YZ.mpr #[_,YQ.mpr<|⋯,ZH.mpr #[k,hk,Ej]]
def Wm:∀t∈tails,`t=2:=by trivial
namespace Ct
abbrev st:=top 92
def sc:zy ["_law_script","_law_k"] ["_law_script","_law_k"]<|zF st:=CP
include T in
def ok(F:yd0 K "_law_cell_at" st f fd):zj P w K mg dX CO 1 f fd ["_law_script","_law_k"]<|nY K:=by
 let:=F.ok sc λ_ _ _ _ H g Q E e h=>?_;let#[a,ns,k,rfl,b,c,q]:=h;let:=#[_,zC (zX (wT K0 (pv 1)<|zI zN (by rfl) T.len Yh<|zA (pv 0) zB) (zE<|zJ<|wL K (pv 0)<|pv 1) zM)<|zE<|zJ zG,?_];let:=#[a,_,Ej,.inl b,_,Ej,U3 (λh=>?_)<|λh=>?_]
 .let h1:=by simpa using h
  let#[n,_,hn]:=ce c h1;let:=#[a,_,_,_,Ej,Ej,b,hn,q n]
 .let:=q 0
end Ct
namespace Cu
abbrev st:=top 101
def sc:zy ["_law_cell","_law_some"] ["_law_cell"]<|zF st:=CP
include T in
def ok(F:yd0 K "_law_words" st f fd):zj P w K mg dX CO 1 f fd ["_law_cell"] Po:=by
 let:=F.ok sc λ_ _ _ _ H B Q E A h=>?_;let#[c,rfl,k]:=h;let:=#[_,zC (fz (i:=1) sc.nd zK)<|zE<|zJ<|xV Y4 Vw Vx IF zK<|zA (yS (sc:=zF st) (N:=["_law_cell","_law_some"]) (src:=[Ee,A0 1,A0 0]) .a rfl rfl rfl (XN rfl T.range<|zA (zP xY (pv 0) zG) zB) λ_ _ _ _=>wN 0<|show(["_law_k","_law_some","_law_cell"]:By).Nodup by lk (λ_ _ _ _=>xU) λ_ _ _ _=>Fu F5 (pv 1)<|zP xY (zP xE (zP jH (pv 2) zG)<|zP Ho zG<|pv 0) zG) zB,?_];let:=#[Ej,∅,c%21,Ej,⋯,⋯,kG (λi g n e=>∃x l,n=[x,A0<|.str " ABCxyz019!#:~",A0<|.int c]/\e=H/\g=(l.map one).map V.str/\`l=i/\∀c∈l,Xb c=Eg) #[Ee,[],Ej,Ej,Ej,Ej,λc t=>nomatch t] (zr<|⋯) λi g n e u ⟨x,l,_,_,z,s,_⟩=>by simp_all[ZA] ?_ ?_]
 .rintro i g n e u ⟨x,l,rfl,rfl,rfl,rfl,q⟩;let#[d,b,o]:=Wu ((c/21+5*(0+((`l:Nat):Int)))%14).toNat ⋯;let b:FG (" ABCxyz019!#:~":Str).cps.toList ((c/21+5*(0+((`l:Nat):Int)))%14)=A0 d:=by let#[j,r]:=Jp (show 0<=(c/21+5*(0+((`l:Nat):Int)))%14 by lia);rw[r]at b ⊢;let:=xB b
  let:=#[#[∅,∅],.inl #[∅,∅],∅,_,_,d,Ej,Ej,OB,b,_,l++[d],Ej,Ej,by rw[ZM,ZM];rfl,by simp,kW q o]
 .rintro g n e ⟨x,l,rfl,rfl,rfl,s,q⟩ p v;let y:("":Str).length=0:=by lk
  let:=#[_,p,l.map one,Ej,Ej,.inl<|yp.of zD,by grind[GN],k _ _ (zz v)<|nR.mpr #[?_,?_]];.rw[za,kH];lia
  .rwa[kH,Yc]
end Cu
namespace Cv
abbrev st:=top 93
def sc:zy ["_law_script","_law_letters","_law_cell","_law_word_here","_law_last","_law_other"] ["_law_script"]<|zF st:=CP
include T in
def ok(F:yd0 K "_law_paths" st f fd)(Qd:xu P w K mg dX 1 "_law_cell_at" ["_law_script","_law_k"]<|nY K):zj P w K mg dX CO 2 f fd ["_law_script"]<|mU K:=by
 let:=F.ok sc λ_ _ _ _ H vs Q E hr h=>?_;let#[a,ns,rfl,hs,k]:=h;let:=#[_,zC (fz (i:=1) sc.nd zK)<|zC (fz (i:=2) sc.nd<|wc Qd hr<|zA (pv 0)<|zA zG zB)<|zC (wS 3 sc.nd<|xV Y4 Vw Vx IF zK<|zA (yS (sc:=zF st) (N:=["_law_script","_law_letters","_law_cell","_law_word_here","_law_last","_law_other"]) (N':=["_law_k","_law_letters","_law_cell"]) (src:=[Ee,A0 1,A0 2]) .a rfl rfl rfl (XN rfl T.range<|zA zG zB) λ_ _ _ _=>wN 0<|show(["_law_k","_law_letters","_law_cell"]:By).Nodup by lk (λ_ _ _ _=>xU) λ_ _ _ _=>Fu F5 (pv 1)<|zP xY (zP xE (zP jH (pv 2) zG)<|zP Ho (pv 0)<|zP xE zG<|zP xY (pv 2) zG) zG) zB)<|zC (wS 4 sc.nd<|zP xE (zP jH (pv 2) zG)<|zP Ho zG<|zP xE zG<|zP xY (pv 2) zG)<|zC (wS 5 sc.nd<|zP zO (yA XY (pv 3) xA<|yC zG)<|Fu F5 (pv 1)<|zP xY (zP xE (zP xE (pv 4) zG)<|zP xY (wc Qd hr<|zA (pv 0)<|zA zG zB) zG) zG)<|zE<|zJ<|yD<|zA (yA XY (pv 3) xA<|yC zG)<|zA (zP zO (zP zO (yA XY (pv 3) xA<|yC zG) zK)<|pv 5)<|zA (zP zO (zP zO (zP zO (zP zO (pv 5) zK)<|yA XY (pv 3) xA<|yC zG) zK)<|yA XY (pv 3) xA<|yC zG)<|zA (zP zO (zP zO (pv 3) zK)<|yA XY (pv 3) xA<|yC zG) zB,?_];let:=#[a,ns,0,Ej,hs,∅,λc=>#[Ej,3,Ej,∅,∅,kG (λi X Y J=>∃x,Y=[x,A0<|.str "abcdefghijklmnopqrstuvwxyz",A0<|.int c]/\J=H/\X=(((EK i).map λk:Nat=>97+((c/5+(k:Int)*(1+c%5))%26).toNat).map one).map V.str) #[Ee,Ej,Ej,Ej] (zr<|∅) λi X Y J hi ⟨x,_,_,ey⟩=>by simp_all[ZA,YT] ?_ ?_]];.rintro i X Y J hi ⟨x,rfl,rfl,rfl⟩;let e0:0+(i:Int)=(i:Int):=⋯;let hd:=SZ (i:=(c/5+(0+(i:Int))*(1+c%5))%26) ⋯ ⋯;let:=#[#[∅,∅],(∅:(0:Int)<5),.inr #[⋯,⋯],(∅:(0:Int)<26),_,_,_,Ej,Ej,KL,hd,_,Ej,Ej,?_];rw[e0,List.range_succ,ZM,ZM,ZM];rfl
 .rintro X Y J ⟨x,rfl,rfl,rfl⟩ p np;let c0:("":Str).length=0:=by lk
  let j:=zz (o:=.lst<|(((EK<|Int.toNat 3).map λk:Nat=>97+((c/5+(k:Int)*(1+c%5))%26).toNat).map one).map V.str) np;let el:((EK<|Int.toNat 3).map λk:Nat=>97+((c/5+(k:Int)*(1+c%5))%26).toNat)=[97+((c/5+0*(1+c%5))%26).toNat,97+((c/5+1*(1+c%5))%26).toNat,97+((c/5+2*(1+c%5))%26).toNat]:=rfl;let G:=Hg (i:=(c/5+0*(1+c%5))%26) ⋯ ⋯;let U:=Hg (i:=(c/5+1*(1+c%5))%26) ⋯ ⋯;let o2:=Hg (i:=(c/5+2*(1+c%5))%26) ⋯ ⋯;rw[el]at j ⊢;generalize 97+((c/5+0*(1+c%5))%26).toNat=S at G j ⊢;generalize 97+((c/5+1*(1+c%5))%26).toNat=n1 at U j ⊢;let ex:=kH [S,n1,97+((c/5+2*(1+c%5))%26).toNat];let:=#[_,p,_,Ej,Ej,.inl<|yp.of zD,by rw[GN,c0];show 3+3*0<=16777216;decide,?_];generalize Txt.join "" _=x at ex ⊢;let xl:`x=3:=by rw[za,ex];rfl
  let y:`x<=sizeLine:=zr ⋯;let:=#[#[∅,∅],(∅:(0:Int)<5),.inl #[∅,∅],_,Ej,x,Ej,y,a,ns,1,Ej,j.seq hs,∅,λL=>?_];let hd:=SZ (i:=(c/5+2*(1+c%5)+1+L%25)%26) ⋯ ⋯;let o3:=Hg (i:=(c/5+2*(1+c%5)+1+L%25)%26) ⋯ ⋯;let nn:97+((c/5+2*(1+c%5))%26).toNat≠97+((c/5+2*(1+c%5)+1+L%25)%26).toNat:=⋯;generalize 97+((c/5+2*(1+c%5))%26).toNat=n2 at ex o2 nn j ⊢;generalize 97+((c/5+2*(1+c%5)+1+L%25)%26).toNat=n3 at hd o3 nn;let z:cs (LG x Ee<|some 1)=[S]:=by rw[show(1:Int)=((1:Nat):Int)from rfl,bw,ex];rfl
  let s:cs (LG x Ee<|some 2)=[S,n1]:=by rw[show(2:Int)=((2:Nat):Int)from rfl,bw,ex];rfl
  let l2:↑(LG x Ee<|some 2)=2:=by rw[za,s];rfl
  let l1:↑(LG x Ee<|some 1)=1:=by rw[za,z];rfl
  let d1:↑(#[#v[n3]]:Str)=1:=rfl;let b:("/":Str).length=1:=by lk
  let:=#[(∅:(0:Int)<25),(∅:(0:Int)<26),_,_,n3,Ej,Ej,KL,hd,_,_,Ej,Ej,zr<|⋯,?_];let A:cs (LG x Ee (A0 2)++one n3)=[S,n1,n3]:=by rw[zf,s];rfl
  let l3:↑(LG x Ee (A0 2)++one n3:Str)=3:=by rw[za,A];rfl
  let#[r,R]:∃r,r=LG x Ee (A0 2)++one n3:=#[_,Ej];let#[o,Z]:∃o,o=LG x Ee (A0 1):=#[_,Ej];let#[t,D]:∃t,t=LG x Ee (A0 2):=#[_,Ej];rw[<-R]at A l3;rw[<-Z]at z l1;rw[<-D]at s l2;rw[show(#[#v[n3]]:Str)=one n3 from rfl,<-D];let g:∀{u v:Str}{m n:Nat},`u=m->`v=n->m+n<=100->`u+`v<=sizeLine:=λ{u v m n}h1 h2 h3=>zr ⋯;let ap:∀{u v:Str}{m n:Nat},`u=m->`v=n->↑(u++v:Str)=m+n:=λ{u v m n}h1 h2=>by rw[MG,h1,h2]
  let R:r=t++one n3:=D▸R;rw[<-R];let y1:↑(LG x Ee<|some 1)=1:=Z▸l1;let B:↑(LG x Ee<|some 2)=2:=D▸l2;let:=zR #[_,Ej,x,Ej,y,_,Ej,x,Ej,y,_,_,Ej,Ej,g B b<|∅,_,_,Ej,Ej,g (ap B b) l3<|∅,_,_,Ej,Ej,g l3 b<|∅,_,Ej,x,Ej,y,_,_,Ej,Ej,g (ap l3 b) B<|∅,_,_,Ej,Ej,g (ap (ap l3 b) B) b<|∅,_,Ej,x,Ej,y,_,_,Ej,Ej,g (ap (ap (ap l3 b) B) b) y1<|∅,_,_,Ej,Ej,g xl b<|∅,_,Ej,x,Ej,y,_,_,Ej,Ej,g (ap xl b) B<|∅,UY 4,λq nq=>?_];let ne:∀{u v:Str}{m n:List Nat},cs u=m->cs v=n->m≠n->u≠v:=λ{u v m n}h1 h2 h3 e=>h3 (by rw[<-h1,<-h2,e]);let:=k q o t x r _ (j.trans<|zz nq) (j.free nq) ?_ #[F7 z (by simp) (by simp)<|by simp[G],F7 s (by simp) (by simp)<|by simp[G,U],F7 ex (by simp) (by simp)<|by simp[G,U,o2],F7 A (by simp) (by simp)<|by simp[G,U,o3],ne z s<|by simp,ne z ex<|by simp,ne z A<|by simp,ne s ex<|by simp,ne s A<|by simp,ne ex A<|by simpa using nn];rw[zD,<-Z,<-D];let a3:r++"/"++t++"/"++o=CL [r,t,o]:=by rw[vL (l:=r) (m:=t),K9 [r,t] o<|by simp];rfl
  rw[a3,vL (l:=t) (m:=r),vL (l:=x) (m:=t)];show A0 (HO.lst [V.str o,_,_,_])=A0 (HO.lst [V.str<|CL [o],_,_,_]);rw[<-G7 (l:=o)]
end Cv
def XH(h1:Dt K H a v1)(h2:Dt K H b v2)(h3:Dt K H c v3)(h4:Dt K H d v4):zu K H [a,b,c,d] [v1,v2,v3,v4]:=#[_,_,Ej,h1,_,_,Ej,h2,_,_,Ej,h3,_,_,Ej,h4,Ej]
namespace Cw
abbrev st:=top 94
def sc:zy ["_law_kind","_law_cell","_law_k","_law_tail","_law_old","_law_new"] ["_law_kind","_law_cell","_law_k"]<|zF st:=CP
include T in
def ok(F:yd0 K "_law_sides" st f fd):zj P w K mg dX CO 1 f fd ["_law_kind","_law_cell","_law_k"]<|mY K:=by
 let:=F.ok sc λ_ _ _ s H vs Q E hr h=>?_;let#[kd,c,k,rfl,h0,y,hk,q]:=h;let:=let X0:=_;let D0:=_;let u1:=_;let u2:=_;let u3:=_;let u4:=_;let u5:=_;let u6:=_;let u7:=_;let u8:=_;let u9:=_;let ac:=_;let af:=_;let ah:=_;let al:=_;let am:=_;pZ X0 D0 (zC (u:=am) (wS 3 sc.nd<|zP zO (Fu F5 zK<|zP xY (pv 1) zG)<|zY qF (by rfl) T.str YD<|zA (pv 2) zB)<|zC (u:=al) (wS 4 sc.nd<|zQ<|zA (zP zO zK<|pv 3)<|zA (zP zO zK<|pv 3)<|zA (zP zO zK<|pv 3) zB)<|zC (u:=ah) (wS 5 sc.nd<|zQ<|zA (zP zO zK<|pv 3) zB)<|zC (u:=af) (zX (wT yK (pv 0) zG) (zE<|zJ<|zQ<|zA (pv 4)<|zA (pv 4)<|zA (pv 4)<|zA (pv 4) zB) zM)<|zC (u:=ac) (zX (wT yK (pv 0) zG) (zE<|zJ<|zQ<|zA (pv 4)<|zA (pv 5)<|zA (pv 4)<|zA (pv 5) zB) zM)<|zC (u:=u9) (zX (wT yK (pv 0) zG) (zE<|zJ<|zQ<|zA (pv 4)<|zA (pv 5)<|zA (pv 5)<|zA (pv 5) zB) zM)<|zC (u:=u8) (zX (t:=u1) (wT yK (pv 0) zG) (zE<|zJ<|zQ<|zA (pv 4)<|zA (zP (uv:CW _ _<|tW K) (zQ<|zA (zP zO zK<|pv 3) zB)<|yA (wH:FD _<|vh K) (pv 4) (yC zG) xA)<|zA (zP (uv:CW _ _<|tW K) (yA (wH:FD _<|vh K) (pv 4) xA<|yC zG)<|zQ<|zA (zP zO zK<|pv 3) zB)<|zA (zQ<|zA (zP zO zK<|pv 3)<|zA (wI K (pv 4) zG)<|zA (zP zO zK<|pv 3) zB) zB) zM)<|zC (u:=u7) (zX (wT yK (pv 0) zG) (zE<|zJ<|zQ<|zA (pv 4)<|zA yH<|zA (pv 4)<|zA yH zB) zM)<|zC (u:=u6) (zX (wT yK (pv 0) zG) (zE<|zJ<|zQ<|zA yH<|zA (pv 5)<|zA yH<|zA (pv 5) zB) zM)<|zC (u:=u5) (zX (t:=u2) (wT yK (pv 0) zG) (zE<|zJ<|zQ<|zA (pv 4)<|zA (zP (uv:CW _ _<|tW K) (zQ<|zA (zP zO zK<|pv 3) zB)<|yA (wH:FD _<|vh K) (pv 4) (yC zG) xA)<|zA (zP (uv:CW _ _<|tW K) (zQ<|zA (zP zO zK<|pv 3) zB)<|yA (wH:FD _<|vh K) (pv 4) (yC zG) xA)<|zA zK zB) zM)<|zC (u:=u4) (zX (t:=u3) (wT yK (pv 0) zG) (zE<|zJ<|zQ<|zA yH<|zA (pv 5)<|zA (zQ<|zA (zP zO zK<|pv 3) zB)<|zA zK zB) zM)<|zE<|zJ<|zQ<|zA (pv 4)<|zA yH<|zA (zP (uv:CW _ _<|tW K) (yA (wH:FD _<|vh K) (pv 4) xA<|yC zG)<|zQ<|zA (zP zO zK<|pv 3) zB)<|zA zK zB) ?_;let hd:=iT (i:=c%8) ⋯ ⋯;let ht:=bf (c:=c) hk;let lk:↑(Lv<|Mp k)<=5/\k.natAbs.log2<1920:=by simp only[ZJ,Yd,YY]at hk;rcases hk with rfl|rfl|rfl<;>let:=#[by lk,by lk]
 let:=#[(∅:(0:Int)<8),_,_,_,Ej,Ej,zr<|by lk,hd,_,Ej,lk.2,_,_,Ej,Ej,zr<|by show 1+_<=_;lia,?_];generalize(#[#v[97+(c%8).toNat]]:Str)++Mp k=t at ht ⊢;let tl:=Wm t ht;let o:∀{u:Str},`u<=5->`u+`t<=sizeLine:=λ{u}hu=>zr ⋯;let l3:("one":Str).length<=5/\("two":Str).length<=5/\("six":Str).length<=5/\("my":Str).length<=5/\("your":Str).length<=5:=by lk
 let#[lo,lw,lx,lm,lr]:=l3;let:=#[_,_,Ej,Ej,o lo,_,_,Ej,Ej,o lw,_,_,Ej,Ej,o lx,UY 3,λp np=>nw np λH1 s1 h1=>zR ?_];let:=#[_,_,Ej,Ej,o lm,UY 1,λr nr=>nw nr λH2 s2 h2=>zR ?_];let ab:=s1.trans s2;let b:yq K H2 p<|(U7 t).map V.str:=yq.of<|s2 _ _ h1;let hn:yq K H2 r<|(Xm t).map V.str:=yq.of h2;let e:∀{n:Hp}{x:Er}{us:Di}{s:Sd},zx H2 n->s∈nine t->n x=Ee->zu K n (eW s) us->Q (.ref x) (upd n x<|.tup us):=λ{n x us s}z hs nx d=>q x s us _ ((ab.trans z).trans<|zz nx) #[t,ht,hs] zD<|zu.same (zz nx) _ _ d;let ln:∀{n:Hp}{x:Er}{l:By},yq K n x (l.map V.str)->Dt K n (AnS.oD<|some l) (.ref x):=λh=>AnS.zzZ h;let G:∀{n:Hp},Dt K n (AnS.oD Ee) .non:=rfl;let dc:∀{n:Hp},Dt K n (dD Ee)<|.str "clash":=rfl;clear q s1 s2 h1 h2;let:=#[Ej,_,Ej,U3 (λh=>?_)<|λh=>?_];.let:=#[UY 4,λx nx=>e (zx.refl _) (s:=#[A0<|U7 t,A0<|U7 t,A0<|U7 t,A0<|some<|U7 t]) (by simp[nine]) nx<|XH (ln b) (ln b) (ln b)<|ln b]
 let:=#[Ej,_,Ej,U3 (λh=>?_)<|λh=>?_];.let:=#[UY 4,λx nx=>e (zx.refl _) (s:=#[A0<|U7 t,A0<|Xm t,A0<|U7 t,A0<|some<|Xm t]) (by simp[nine]) nx<|XH (ln b) (ln hn) (ln b)<|ln hn]
 let:=#[Ej,_,Ej,U3 (λh=>?_)<|λh=>?_];.let:=#[UY 4,λx nx=>e (zx.refl _) (s:=#[A0<|U7 t,A0<|Xm t,A0<|Xm t,A0<|some<|Xm t]) (by simp[nine]) nx<|XH (ln b) (ln hn) (ln hn)<|ln hn]
 let:=#[Ej,_,Ej,U3 (λh=>?_)<|λh=>?_];.let:=#[_,_,Ej,Ej,o lm,UY 1,λU n1=>nw n1 λn z h3=>#[_,Ej,p,_,Ej,z.yr b,λv H4 hv=>?_]];let#[x2,rfl,R,h4]:=An12.pR (z.yr b) hv;let:=#[U,x2,_,_,Ej,Ej,yq.of<|R _ _ h3,h4,zr<|show 3<=16777216 by decide,λx3 H5 s5 h5=>?_];let j:=(z.trans R).trans s5;let h5:yq K H5 x3<|(Xy t).map V.str:=h5;let:=#[_,Ej,p,_,Ej,j.yr b,λv H6 hv=>?_];let#[X,rfl,D,h6]:=An12.pR (j.yr b) hv;let:=#[_,_,Ej,Ej,o lr,UY 1,λY N=>nw N λH7 A L=>#[X,Y,_,_,Ej,Ej,A.yr h6,yq.of L,zr<|show 3<=16777216 by decide,λZ J S y=>?_]];let g:=(D.trans A).trans S;let y:yq K J Z<|(Gm t).map V.str:=y;let B:=j.trans g;let:=#[_,_,Ej,Ej,o lm,p,_,_,_,Ej,Ej,B.yr b,Ej,_,_,Ej,Ej,o lr,UY 3,λx7 n7=>nw n7 λH9 s9 h9=>#[UY 4,λx nx=>?_]];let h9:yq K H9 x7<|(HX t).map V.str:=yq.of h9;let:=e (B.trans s9) (s:=#[A0<|U7 t,A0<|Xy t,A0<|Gm t,A0<|some<|HX t]) (by simp[nine]) nx<|XH (ln<|(B.trans s9).yr b) (ln<|(g.trans s9).yr h5) (ln<|s9.yr y)<|ln h9
 let:=#[Ej,_,Ej,U3 (λh=>?_)<|λh=>?_];.let:=#[UY 4,λx nx=>e (zx.refl _) (s:=#[A0<|U7 t,Ee,A0<|U7 t,A0 Ee]) (by simp[nine]) nx<|XH (ln b) G (ln b) G]
 let:=#[Ej,_,Ej,U3 (λh=>?_)<|λh=>?_];.let:=#[UY 4,λx nx=>e (zx.refl _) (s:=#[Ee,A0<|Xm t,Ee,A0<|some<|Xm t]) (by simp[nine]) nx<|XH G (ln hn) G<|ln hn]
 let:=#[Ej,_,Ej,U3 (λh=>?_)<|λh=>?_];.let:=#[_,_,Ej,Ej,o lm,UY 1,λU n1=>nw n1 λn z h3=>#[_,Ej,p,_,Ej,z.yr b,λv H4 hv=>?_]];let#[x2,rfl,R,h4]:=An12.pR (z.yr b) hv;let:=#[U,x2,_,_,Ej,Ej,yq.of<|R _ _ h3,h4,zr<|show 3<=16777216 by decide,λx3 H5 s5 h5=>?_];let j:=(z.trans R).trans s5;let h5:yq K H5 x3<|(Xy t).map V.str:=h5;let:=#[_,_,Ej,Ej,o lr,UY 1,λY N=>nw N λH6 D h6=>#[_,Ej,p,_,Ej,(j.trans D).yr b,λv H7 hv=>?_]];let#[X,rfl,A,L]:=An12.pR ((j.trans D).yr b) hv;let:=#[Y,X,_,_,Ej,Ej,yq.of<|A _ _ h6,L,zr<|show 3<=16777216 by decide,λZ J S y=>#[UY 4,λx nx=>?_]];let g:=(D.trans A).trans S;let y:yq K J Z<|(Oa t).map V.str:=y;let:=e (j.trans g) (s:=#[A0<|U7 t,A0<|Xy t,A0<|Oa t,Ee]) (by simp[nine]) nx<|XH (ln<|(j.trans g).yr b) (ln<|g.yr h5) (ln y) dc
 let:=#[Ej,_,Ej,U3 (λh=>?_)<|λh=>?_];.let:=#[_,_,Ej,Ej,o lr,UY 1,λU n1=>nw n1 λn z h3=>#[UY 4,λx nx=>?_]];let h3:yq K n U<|(iF t).map V.str:=yq.of h3;let:=e z (s:=#[Ee,A0<|Xm t,A0<|iF t,Ee]) (by simp[nine]) nx<|XH G (ln<|z.yr hn) (ln h3) dc
 let:=#[_,Ej,p,_,Ej,b,λv H6 hv=>?_];let#[X,rfl,D,h6]:=An12.pR b hv;let:=#[_,_,Ej,Ej,o lr,UY 1,λY N=>nw N λH7 A L=>#[X,Y,_,_,Ej,Ej,A.yr h6,yq.of L,zr<|show 3<=16777216 by decide,λZ J S y=>#[UY 4,λx nx=>?_]]];let g:=(D.trans A).trans S;let y:yq K J Z<|(Gm t).map V.str:=y;let:=e g (s:=#[A0<|U7 t,Ee,A0<|Gm t,Ee]) (by simp[nine]) nx<|XH (ln<|g.yr b) G (ln y) dc
end Cw
def RK(z:Zr):(PyData):=.tuple<|.str (CL z.1)::eW z.2
inductive mV(K:CK)(vs:Di)(H:Hp)(Q:VK)(e3:XK):Prop|mk(a:Er)(ns:List Int)(h0:vs=[.ref a])(h1:yp K H a<|ns.map V.int)(h2:∀(l:Er)(us:Di)(pl py:List By)(zs:List Zr)H',zx H H'->H l=Ee->H' l=A0 (.lst us)->zu K H' (zs.map RK) us->Zs pl py zs->`zs<=5->Q (.ref l) H'):mV K vs H Q e3
def Tp(o:Option By):AnJ.vz (AnS.oD o)=Eg:=by cases o with|none=>rfl|some l=>let:=AnJ.zyR l
def c5(zs:List Zr):AnJ.ud (zs.map RK)=Eg:=AnJ.rO λd hd=>by
 let#[z,_,rfl]:=ZH.mp hd;let h4:AnJ.vz (dD z.2.d)=Eg:=by cases z.2.d with|none=>rfl|some o=>let:=Tp o
 show(Eg&&(AnJ.vz _&&(AnJ.vz _&&(AnJ.vz _&&(AnJ.vz _&&Eg)))))=Eg;simp_all[Tp]
def ij{z:Zr}{b:Di}(h:yq K H q<|.str (CL z.1)::b)(d:zu K H (eW z.2) b):Dt K H (RK z)<|.ref q:=#[q,_,Ej,h,_,_,Ej,Ej,d]
def Hx{H:Hp}{l:Er}{b:Di}{zs:List Zr}{z:Zr}{vs:Di}(hl:H l=A0 (.lst b))(dt:zu K H (zs.map RK) b)(hq:yq K H q<|.str (CL z.1)::vs)(d:zu K H (eW z.2) vs):zu K (upd H l<|.lst<|b++[.ref q]) ((zs++[z]).map RK)<|b++[.ref q]:=by let:=AnJ.zu.ts (pX.upd hl) _ _ (c5 _) ?_;rw[ZM];let:=zu.append dt #[_,[],Ej,ij hq d,Ej]
section
variable{o t r:Str}{s0 s1 s2:Sd}
def three(o t x r:Str)(s0 s1 s2:Sd):(List Zr):=[([o],s0),([t,r],s1),([r,t,o],s2)]
def uc{α:Type}{P:List α->Prop}(h:∀a g,`g=n->P (a::g)):∀g,`g=n+1->P g:=λg z=>by cases g with|nil=>cases z|cons a g=>let:=h a g<|Nat.succ.inj z
def u0{α:Type}{P:List α->Prop}(h:P []):∀g,`g=0->P g:=λg z=>by cases g with|nil=>let:=h|cons a g=>cases z
def l3{α:Type}:∀g:List α,`g=3->∃a b c,g=[a,b,c]:=uc λa=>uc λb=>uc λc=>u0 #[a,b,c,Ej]
def Tl{c:List By}(lb:∀p∈c,XD p)(nd:c.Nodup):(c.map CL).Nodup:=Ya.mpr<|YR.mpr<|(Ya.mp nd).imp_of_mem λ{a b}ha hb n e=>n<|Ha (lb a ha) (lb b hb) e
def ik(L:Lb4 o t x r)(k0:Kd s0)(k1:Kd s1)(k2:Kd s2):Zs (Pb o t x r) (aH o t x r) (three o t x r s0 s1 s2)/\Zs (Pb o t x r) (aH o t x r) (three o t x r s0 s1 s2++[([x,t],Xj),([x,t,o],Xa)]):=by
 let#[l,q]:=gD L;let j:[[o],[t,r],[r,t,o],[x,t],[x,t,o]].Nodup:=by let s:=EG L.h1;let u:=EG L.h2;let v:=EG L.h3;let w:=EG L.h4;let y:=EG L.h5;let A:=EG L.h6;simp[L.h1,L.h2,L.h3,L.h4,L.h5,L.h6,s,u,v,w,y,A]
 let c:∀p∈[[o],[t,r],[r,t,o],[x,t],[x,t,o]],XD p:=by simp[XD,L.lo,L.lt,L.lx,L.lr]
 let n:=Tl c j;let k3:∀z∈three o t x r s0 s1 s2,Kd z.2:=λz b=>by
  simp only[three,ZJ,Yd,YY]at b;rcases b with rfl|rfl|rfl;.let:=k0
  .let:=k1
  .let:=k2
 let g:∀z∈three o t x r s0 s1 s2,z.1∈Pb o t x r/\z.1∈aH o t x r:=λz b=>by simp only[three,ZJ,Yd,YY]at b;rcases b with rfl|rfl|rfl<;>simp[Pb,aH]
 let:=#[#[l,q,?_,λz b f i _=>(g z b).1,λz b _=>(g z b).2,.inl k3,λz b=>l.lb _ (g z b).1],#[l,q,n,λz b f i e=>?_,λz b e=>?_,.inr #[λz b=>?_,[x,t],[x,t,o],by simp,by simp,?_],λz b=>?_]];.let:=n.sublist<|by simp[three]
 .rcases ZY.mp b with b|b;.let:=(g z b).1
  .simp only[ZJ,Yd,YY]at b i;rcases b with rfl|rfl;.simp[Pb]
   .rcases i with rfl|rfl|rfl<;>cases e
 .rcases ZY.mp b with b|b;.let:=(g z b).2
  .simp only[ZJ,Yd,YY]at b;rcases b with rfl|rfl;.cases e
   .simp[aH]
 .rcases ZY.mp b with b|b;.let:=.inl<|k3 z b
  .simp only[ZJ,Yd,YY]at b;rcases b with rfl|rfl;.let:=.inr<|.inl rfl
   .let:=.inr<|.inr rfl
 .let l1:=c [x,t] (by simp);let l2:=c [x,t,o] (by simp);let:=(Bu l1.1 l2.1 l1.2.2 l2.2.2).mpr #[[o],by simp,Ej]
 .let:=c z.1 ?_;rcases ZY.mp b with b|b;.have:=(g z b).1;simp only[Pb,ZJ,Yd,YY]at this ⊢;rcases this with h|h|h|h<;>simp[h]
  .simp only[ZJ,Yd,YY]at b;rcases b with rfl|rfl<;>simp
end
namespace Cy
abbrev st:=top 95
def sc:zy ["_law_script","_law_paths_here","_law_rows","_law_k","_law_cell","_law_kind","_law_base","_law_mine","_law_yours","_law_due"] ["_law_script"]<|zF st:=CP
include T in
def ok(F:yd0 K "_law_table" st f fd)(Qd:xu P w K mg dX 1 "_law_cell_at" ["_law_script","_law_k"]<|nY K)(Zm:xu P w K mg dX 2 "_law_paths" ["_law_script"]<|mU K)(Zn:xu P w K mg dX 1 "_law_sides" ["_law_kind","_law_cell","_law_k"]<|mY K):zj P w K mg dX CO 3 f fd ["_law_script"]<|mV K:=by
 let:=F.ok sc λ_ _ _ s H vs Q E hr h=>?_;let#[a,ns,rfl,hs,k]:=h;let:=let X0:=_;let D0:=_;let u1:=_;let u2:=_;let u3:=_;let u4:=_;let u5:=_;let u6:=_;let u7:=_;let u8:=_;let u9:=_;let as:=_;let ay:=_;pZ X0 D0 (zC (u:=ay) (wS 1 sc.nd<|wc Zm hr<|zA (pv 0) zB)<|zC (u:=as) (wS 2 sc.nd<|yD zB)<|zC (u:=u9) (yQ (tb:=u6) EM rfl (XN rfl T.range<|zA zG zB) (wN 3 sc.nd)<|zC (u:=u5) (wS 4 sc.nd<|wc Qd hr<|zA (pv 0)<|zA (zP xE zG<|pv 3) zB)<|zC (u:=u4) (wS 5 sc.nd<|zP xY (pv 4) zG)<|xR (u:=u3) (zX (PW.pt<|vQ (wT yK (zP xY (wc Qd hr<|zA (pv 0)<|zA zG zB) zG) zG)<|uS<|wT yK (zP xY (zP jH (wc Qd hr<|zA (pv 0)<|zA zG zB) zG) zG)<|pv 3) (zE<|wS 5 sc.nd<|zP xE zG<|zP xY (pv 4) zG) zM)<|zC (u:=u2) (Hq (wc Zn hr<|zA (pv 5)<|zA (zP jH (pv 4) zG)<|zA (pv 3) zB)<|jF rfl<|zT (wN 6 sc.nd)<|zT (wN 7 sc.nd)<|zT (wN 8 sc.nd)<|zT (wN 9 sc.nd) xO)<|xR (u:=u1) (zX (wT yK (zP xY (zP jH (pv 4) zG) zG) zG) (zE<|dH (i:=7) (j:=8) rfl sc.nd rfl rfl ∅ rfl rfl (zA (pv 8)<|zA (pv 7) zB) rfl) zM)<|zE<|zS<|xV Z1 Yn Yo yJ (pv 2)<|zA (zQ<|zA (wL K (pv 1)<|pv 3)<|zA (pv 6)<|zA (pv 7)<|zA (pv 8)<|zA (pv 9) zB) zB)<|xR (zX (t:=u8) (wT yK (zP xY (zP jH (wc Qd hr<|zA (pv 0)<|zA zG zB) zG) zG) zG) (zC (u:=u7) (zS<|xV Z1 Yn Yo yJ (pv 2)<|zA (zQ<|zA (wL K (pv 1) zG)<|zA yH<|zA (zQ<|zA zK zB)<|zA yH<|zA zK zB) zB)<|zE<|zS<|xV Z1 Yn Yo yJ (pv 2)<|zA (zQ<|zA (zP zO (zP zO (wL K (pv 1) zG) zK)<|wL K (pv 1) zG)<|zA yH<|zA yH<|zA (zQ<|zA zK zB)<|zA zK zB) zB) zM)<|zE<|zJ<|pv 2) ?_;let:=#[a,ns,Ej,hs,λN o t x r H1 s1 n1 h1 L=>zR #[Yk _,λl nl=>zR ?_]];let n0:H l=Ee:=s1.free nl;let hp:∀{A:Hp},zx H A->zx H1 A->True:=λ_ _=>trivial;let:=#[3,Ej,∅,∅,P0 (lo:=0) (n:=3) (λi σ A=>∃(o3 o4 o5 o6 o7 o8 o9:Option V)(S:List Sd)(b:Di),σ=[A0<|.ref a,A0<|.ref N,A0<|.ref l,o3,o4,o5,o6,o7,o8,o9]/\zx H1 A/\A l=A0 (.lst b)/\`S=i/\(∀s∈S,Kd s)/\zu K A ((((Pb o t x r).take i).zip S).map RK) b) ?_ ?_ ?_];.let:=#[Ee,Ee,Ee,Ee,Ee,Ee,Ee,[],[],Ej,zz nl,zD,Ej,λs hs=>(nomatch hs),Ej]
 .rintro i σ A D B hi hD hB ⟨o3,o4,o5,o6,o7,o8,o9,S,b,rfl,s2,hl,wl,wk,dt⟩;let v:=(s1.trans s2).seq hs;let:=hB #[a,ns,_,Ej,v,⋯,λc=>zR #[(∅:(0:Int)<6),zR<|#[λg y=>∃kd,g=[A0<|.ref a,A0<|.ref N,A0<|.ref l,A0<|.int<|0+(i:Int),A0<|.int c,A0<|.int kd,o6,o7,o8,o9]/\0<=kd/\kd<=8/\y=A,?_,?_]]]
  .let:=#[a,ns,2,Ej,v,∅,λc2=>#[(∅:(0:Int)<3),Ej,_,Ej,U3 (λe=>?_)<|λe=>?_]]
   .let:=#[a,ns,2,Ej,v,∅,λc3=>#[#[∅,∅],(∅:(0:Int)<3),Ej,_,Ej,U3 (λe=>?_)<|λe=>?_]];.let:=#[(∅:(0:Int)<3),_,Ej,⋯,⋯,Ej]
    .let:=#[_,Ej,⋯,⋯,Ej]
   .let:=#[_,Ej,⋯,⋯,Ej]
  .rintro g y ⟨kd,rfl,k0,k8,rfl⟩;let:=#[#[∅,∅],kd,_,_,Ej,k0,k8,?_,λp G vs H3 Y J am dv=>?_];.have:i=0\/i=1\/i=2:=⋯;rcases this with rfl|rfl|rfl<;>decide
   let#[vb,r1,rfl,db,vm,r2,rfl,dm,vy,r3,rfl,dy,vd,r4,rfl,dd,e4]:=dv;cases show r4=[]from e4;let:=#[p,_,Ej,yq.of am,Ej,_,_,Ej,_,_,Ej,_,_,Ej,_,_,Ej,Ej,λg y=>∃(G:Sd)(vm vy:V),g=[A0<|.ref a,A0<|.ref N,A0<|.ref l,A0<|.int<|0+(i:Int),A0<|.int c,A0<|.int kd,A0 vb,A0 vm,A0 vy,A0 vd]/\Kd G/\zu K H3 (eW G) [vb,vm,vy,vd]/\y=H3,?_,?_]
   .let#[tl,ah,J]:=J;let:=#[#[∅,∅],(∅:(0:Int)<2),Ej,_,Ej,U3 (λe=>?_)<|λe=>?_];.let:=#[_,_,Ej,G.turn,vy,vm,Ej,#[tl,ah,G,J,.inr rfl],XH db dy dm dd,Ej]
    .let:=#[G,vm,vy,Ej,#[tl,ah,G,J,.inl rfl],XH db dm dy dd,Ej]
   .rintro g y ⟨G,vm,vy,rfl,an,dv,rfl⟩;let#[q,hq]:∃q,(Pb o t x r)[i]?=A0 q:=#[_,ZO<|show i<4 by lia];let al:=s2.trans Y;let ul:`b=`S:=by have:=`dt;rw[ZA,List.length_zip,Z8]at this;have:↑(Pb o t x r)=4:=rfl;lia
    let U:=Y _ _ hl;let:=#[.inl #[Ej,_,yp.of U],N,_,_,_,Ej,Ej,yp.of<|al _ _ h1,by rw[Int.zero_add];let:=xB<|by rw[ZN,hq];rfl,UY 5,λp np=>nw np λH4 R h4=>#[l,_,_,Ej,Ej,R _ _ U,yM<|⋯,hD.nx _ _ #[_,_,_,_,_,_,_,S++[G],b++[.ref p],Ej,An.zx.qi (al.trans R) nl,zD,by rw[ZS,wl];rfl,kW wk an,?_]]];have:=Hx (z:=(q,G)) (R _ _ U) (zu.same (Y.trans R) _ _ dt) (yq.of h4)<|zu.same R _ _ dv;rw[xf hq,List.zip_append<|by rw[Z8,wl];let:=Nat.min_eq_left<|show i<=4 by lia];let:=this
 .rintro σ A ⟨o3,o4,o5,o6,o7,o8,o9,S,b,rfl,s2,hl,wl,wk,dt⟩;let#[x0,x1,x2,rfl]:=l3 S wl;let#[Z3,Z5]:=ik L (wk x0<|by simp) (wk x1<|by simp) (wk x2<|by simp);let dt:zu K A ((three o t x r x0 x1 x2).map RK) b:=dt;let ul:`b=3:=`dt;let v:=(s1.trans s2).seq hs;let ap:("/":Str).length=1:=by lk
  let lx:=(wG.mp L.lx).2.1;let lt:=(wG.mp L.lt).2.1;let lo:=(wG.mp L.lo).2.1;let l2:↑(CL [x,t])=`x+1+`t:=by rw[<-vL,MG,MG,ap]
  let l1:↑(CL [o])=`o:=by rw[<-G7 (l:=o)]
  let:=#[λg y=>∃(b:Di)(zs:List Zr),g=[A0<|.ref a,A0<|.ref N,A0<|.ref l,o3,o4,o5,o6,o7,o8,o9]/\zx H1 y/\y l=A0 (.lst b)/\zu K y (zs.map RK) b/\Zs (Pb o t x r) (aH o t x r) zs/\`zs<=5,?_,?_]
  .let:=#[a,ns,2,Ej,v,∅,λc=>#[#[∅,∅],(∅:(0:Int)<9),Ej,_,Ej,U3 (λe=>?_)<|λe=>?_]]
   .let:=#[.inl #[Ej,_,yp.of hl],N,_,_,_,Ej,Ej,yp.of<|s2 _ _ h1,Ej,UY 1,λp1 n1=>nw n1 λH3 Y h3=>#[UY 5,λp2 n2=>nw n2 λH4 R h4=>?_]];let ab:=Y.trans R;let ad:=ab _ _ hl;let:=#[l,_,_,Ej,Ej,ad,yM<|⋯,?_];let d5:=Hx (z:=([x,t],Xj)) ad (zu.same ab _ _ dt) (yq.of h4)<|XH rfl #[p1,_,Ej,yq.of<|R _ _ h3,zu.strs ["low"]] rfl rfl;let s5:zx H1<|upd H4 l<|.lst<|b++[.ref p2]:=An.zx.qi (s2.trans ab) nl;let X:upd H4 l (.lst<|b++[.ref p2]) l=A0 (.lst<|b++[.ref p2]):=zD;generalize upd H4 l (.lst<|b++[.ref p2])=H5 at d5 s5 X ⊢;let:=#[.inl #[Ej,_,yp.of X],N,_,_,_,Ej,Ej,yp.of<|s5 _ _ h1,Ej,_,_,Ej,Ej,?_,N,_,_,_,Ej,Ej,yp.of<|s5 _ _ h1,Ej,_,_,Ej,Ej,?_,UY 1,λp6 n6=>nw n6 λH6 s6 h6=>#[UY 5,λp7 n7=>nw n7 λH7 s7 h7=>?_]];.let:=zr ⋯
    .let:=zr<|by rw[MG];lia
    let ac:=s6.trans s7;let af:=ac _ _ X;let:=#[l,_,_,Ej,Ej,af,yM<|by rw[ZS];simp;lia,_,_,Ej,An.zx.qi (s5.trans ac) nl,zD,?_,Z5,ZG 5];rw[show three o t x r x0 x1 x2++[([x,t],Xj),([x,t,o],Xa)]=three o t x r x0 x1 x2++[([x,t],Xj)]++[([x,t,o],Xa)]from rfl];let:=Hx (z:=([x,t,o],Xa)) af (zu.same ac _ _ d5) (yq.of ?_)<|XH rfl rfl #[p6,_,Ej,yq.of<|s7 _ _ h6,zu.strs ["high"]] rfl;rw[h7,show CL [x,t]++"/"++CL [o]=CL [x,t,o]by rw[<-G7 (l:=o),K9 [x,t] o<|by simp];rfl]
   .let:=#[b,_,Ej,s2,hl,dt,Z3,show 3<=5 by decide]
  .rintro g y ⟨b,zs,rfl,Y,hl,dt,Z,zl⟩;let:=k l b _ _ zs _ (s1.trans Y) n0 hl dt Z zl
end Cy
def GW(i:Int):(Sd->Option By):=if i=1 then Sd.b else if i=2 then Sd.m else if i=3 then Sd.y else Sd.due
inductive rH(K:CK)(vs:Di)(H:Hp)(Q:VK)(e3:XK):Prop|mk(l:Er)(us:Di)(pl py:List By)(zs:List Zr)(i:Int)(h0:vs=[.ref l,.int i])(h1:H l=A0 (.lst us))(h2:zu K H (zs.map RK) us)(h3:Zs pl py zs)(h4:`zs<=5)(h5:i∈([1,2,3,4]:List Int))(h6:∀(c:Er)Dl H',zx H H'->H c=Ee->H' c=A0 (.dK Dl)->yj K H' (CY (GW i) zs) Dl->Q (.ref c) H'):rH K vs H Q e3
def Wv{z:Zr}(h:Dt K H (RK z) v):∃(q:Er)(vb vm vy vd:V),v=.ref q/\yq K H q [.str<|CL z.1,vb,vm,vy,vd]/\Dt K H (AnS.oD z.2.b) vb/\Dt K H (AnS.oD z.2.m) vm/\Dt K H (AnS.oD z.2.y) vy/\Dt K H (dD z.2.d) vd:=by let#[q,s,rfl,h1,x0,l,rfl,i,vb,n,rfl,c,vm,o,rfl,f,vy,p,rfl,g,vd,r,rfl,e,j]:=h;cases j;cases i;let:=#[q,vb,vm,vy,vd,Ej,h1,c,f,g,e]
def fO{H c:Hp}(e:AnS.DS H c)(h:yj K H fs Dl):yj K c fs Dl:=#[h.keys,λi f kv a b=>#[e.dt _ _ (h.val i f kv a b).1,(h.val i f kv a b).2]]
def Su{zs:List Zr}{z:Zr}(h:zs[n]?=A0 z):CY f (zs.take<|n+1)=CY f (zs.take n)++match f z.2 with|none=>[]|some l=>[(z.1,l)]:=by unfold CY;rw[xf h,Ui];rw[Jj];cases f z.2<;>rfl
def gL:EU (E9 "clash")=Eg:=by lk
def WH{i:Int}:GW i∈[Sd.b,Sd.m,Sd.due,Sd.y]:=by
 unfold GW;split;.simp
 split;.simp
 split<;>simp
namespace CA
abbrev st:=top 96
def sc:zy ["_law_rows","_law_at","_law_found","_law_row"] ["_law_rows","_law_at"]<|zF st:=CP
include T in
def ok(F:yd0 K "_law_files" st f fd):zj P w K mg dX CO 1 f fd ["_law_rows","_law_at"]<|rH K:=by
 let:=F.ok sc λ_ _ _ _ H vs Q E hr h=>?_;let#[l,U,pl,py,zs,i,rfl,hl,dt,Z,zl,hi,k]:=h;let:=let X0:=_;let D0:=_;let u1:=_;let u2:=_;pZ X0 D0 (zC (u:=u2) (wS 2 sc.nd yU)<|zC (yQ (tb:=u1) EM rfl (yN<|pv 0) (wN 3 sc.nd)<|zE<|zX (PW.pt<|vQ (wT kK (wI K (pv 3)<|pv 1) yH)<|uS<|wT (G8 hr.units) (wI K (pv 3)<|pv 1) zK) (zE<|y6 hr.wX (pv 2) (wI K (pv 3) zG) (wI K (pv 3)<|pv 1) rfl) zM)<|zE<|zJ<|pv 2) ?_;let:=λc G=>zR ?_;let u:=zz (o:=.dK []) G;let cl:c≠l:=EG<|zL hl G;let ul:`U=`zs:=by have:=`dt;rw[ZA]at this;let:=this
 let:=#[l,Ej,#[_,yp.of<|u _ _ hl],kS (K:=K) (a:=l) (xs:=U) (λn J j=>∃S s,J=[A0<|.ref l,A0<|.int i,A0<|.ref c,S]/\zx H j/\j l=A0 (.lst U)/\j c=A0 (.dK s)/\yj K j (CY (GW i)<|zs.take n) s) ?_ ?_ ?_ ?_];.let:=#[Ee,[],Ej,u,u _ _ hl,zD,Ej,λi f kv a=>nomatch a]
 .rintro n J j _ ⟨_,_,_,_,h2,_⟩;let:=yp.of h2
 .rintro n v J j D B hv R N ⟨S,s,rfl,s2,p,b,fs⟩;let#[d,Y,dv]:=(zu.same s2 _ _ dt).get hv;rw[ZN]at Y;let#[z,hz,rfl]:=Z2.mp Y;let#[q,vb,vm,vy,X,rfl,hq,db,dm,dy,A]:=Wv dv;let zm:=ZI hz;let#[x,r,t]:∃x,FG [V.str<|CL z.1,vb,vm,vy,X] i=A0 x/\(Dt K j (AnS.oD<|GW i z.2) x/\GW i z.2≠Ee\/GW i z.2=Ee/\(x=.non\/x=.str "clash")):=by
   simp only[ZJ,Yd,YY]at hi;let go:∀{o:Option By}{v:V},Dt K j (AnS.oD o) v->Dt K j (AnS.oD o) v/\o≠Ee\/o=Ee/\(v=.non\/v=.str "clash"):=λ{o v}h=>by cases o with|none=>let:=.inr #[Ej,.inl h]|some l=>let:=.inl #[h,λz=>by cases z]
   rcases hi with rfl|rfl|rfl|rfl;.let:=#[vb,Ej,go db]
   .let:=#[vm,Ej,go dm]
   .let:=#[vy,Ej,go dy]
   .let:=#[X,Ej,?_];show Dt K j (AnS.oD<|z.2.d.getD Ee) X/\z.2.d.getD Ee≠Ee\/z.2.d.getD Ee=Ee/\_;cases e:z.2.d with|none=>rw[e]at A;let:=.inr #[Ej,.inr A]|some o=>rw[e]at A;let:=go A
  let ek:=Su (f:=GW i) hz;rcases t with⟨t,ne⟩|⟨en,rfl|rfl⟩;.cases L:GW i z.2 with|none=>let:=absurd L ne|some ls=>
    rw[L]at t ek;let ln:=Z.ln zm WH L;let#[y,ys,ey,hy]:=show∃y ys,x=.ref y/\_ from t;subst ey;let kl:=fs.len;let fl:↑(CY (GW i)<|zs.take n)<=5:=Yz (List.length_filterMap_le _ _) (by rw[Z8];lia);let:=N #[q,_,_,_,Ej,Ej,hq,r,Ej,Eg,congrArg V.bl<|by simp_all[ZZ],U1 #[q,_,_,_,Ej,Ej,hq,r,AnS.oD<|some ls,.str "clash",t,Ej,AnS.wO λl e x r=>by cases e;let:=An12.oK<|ln.2 x r,gL,_,Ej,U1 #[q,_,_,_,Ej,Ej,hq,r,q,_,_,_,Ej,Ej,hq,Ej,c,_,Ej,tV.k (k:=.inr<|CL z.1) b<|yM<|⋯,R.nx _ _ #[_,_,Ej,An.zx.qi s2 G,(zH<|EG cl)▸p,zD,?_]]]];let nd:=Sq (f:=GW i) (zs:=zs.take<|n+1)<|Z.nd.sublist<|(V8 _ _).map _;rw[ek,ZM,YS]at nd;rw[ek,kF<|λz=>?_];.let:=fO (AnS.DS.upd b)<|fs.snoc (f:=(_,ls)) t ln
    .rw[fs.keys]at z;let#[g,hg,e]:=ZH.mp z;let:=nd.2.2 _ (ZH.mpr #[g,hg,Ej]) _ (ZC.mpr rfl)<|dV e
  .rw[en,Yi]at ek;let:=N #[q,_,_,_,Ej,Ej,hq,r,Ej,Ei,congrArg V.bl<|by rw[ZK rfl];rfl,UZ<|UZ<|R.nx _ _ #[_,s,Ej,s2,p,b,by rw[ek];let:=fs]]
  .rw[en,Yi]at ek;let:=N #[q,_,_,_,Ej,Ej,hq,r,Ej,Eg,congrArg V.bl<|by simp[ZZ],U1 #[q,_,_,_,Ej,Ej,hq,r,.str "clash",.str "clash",Ej,Ej,gL,gL,Ei,congrArg V.bl<|by lk,UZ<|R.nx _ _ #[_,s,Ej,s2,p,b,by rw[ek];let:=fs]]]
 .rintro J j ⟨S,s,rfl,s2,p,b,fs⟩;rw[ul,Yg]at fs;let:=k c s j s2 G b fs
end CA
def Wx(b a:Er):(Str):=if a=b then"clash"else"version"
def Wd(c e z:Er):(Sp):=λf H Q _=>∃a,f=[.ref z]/\H z=A0 (Xl z<|.ref a)/\a∈[c,e]/\∀b,zx H b->Q (.str<|"refused "++Wx c a) b
def eY(x:Str×Bool):(PyData):=.tuple [.str x.1,.bool x.2]
section
variable{a:Er}
def eO(x:Str×Bool):Dt K (upd H p<|.tup [.str x.1,.bl x.2]) (eY x)<|.ref p:=#[p,_,Ej,yq.of zD,_,_,Ej,Ej,_,_,Ej,Ej,Ej]
def isW(a:Er)(x:Str×Er):(Str×Bool):=(x.1,decide<|a=x.2)
def wZ(K:CK)(z a:Er)(f:TA)(l:List<|Str×Er):(Prop):=∀e H Q,e[0]?=A0 (A0<|V.ref z)->H z=A0 (Xl z<|.ref a)->(∀c b,zx H b->zu K b (l.map λx=>eY<|isW a x) c->Q c b)->f e H Q
def wZ.nil:wZ K z a XG []:=λb H Q _ _ q=>q [] H (zx.refl _) rfl
def wZ.cons{c:Er}(ek:PySem.W.tX K a)(kx:E3 K (.ref a) (.ref c)=A0 (decide<|a=c))(h:wZ K z a ta l):wZ K z a (Xk (bc<|Xk (tC<|.str x)<|Xk (gV (zzD K (.ref c)<|.ref c)<|Xk (Bg 0)<|Xk (tC<|.ref c) XG) XG) ta)<|(x,c)::l:=λi H Q e b q=>by delta Xk bc gV tC XG Bg;dsimp only;rw[e];let:=#[z,a,_,Ej,b,ek,kx,UY 2,λp f=>h i _ _ e (zz f _ _ b) λj g s d=>q _ g ((zz f).trans s) #[_,_,Ej,Dt.same s _ _<|eO<|isW a (x,c),d]]
def wZ.lst(h:wZ K z a ta l)(g:`l<=10){b:St}{H:Hp}{Q:VK}(e:b[0]?=A0 (A0<|V.ref z))(f:H z=A0 (Xl z<|.ref a))(q:∀p vs H',zx H H'->H' p=A0 (.lst vs)->zu K H' (l.map λx=>eY<|isW a x) vs->Q (.ref p) H'):Oq ta b H Q:=h b H _ e f λvs H' s d=>#[zr<|by have:=`d;grind,λp c=>q p vs _ (s.trans<|zz c) zD<|zu.same (zz c) _ _ d]
def wZ.cat{m:List<|Str×Er}(h:wZ K z a ta l)(r:`m+`l<=10){f:St}{H:Hp}{Q:VK}{b:Er}{c:Di}(e:f[0]?=A0 (A0<|V.ref z))(n:H z=A0 (Xl z<|.ref a))(j:f[1]?=A0 (A0<|V.ref b))(h1:H b=A0 (.lst c))(g:zu K H (m.map λx=>eY<|isW a x) c)(q:∀p vs H',zx H H'->H' p=A0 (.lst vs)->zu K H' ((m++l).map λx=>eY<|isW a x) vs->Q (.ref p) H'):Pw zy3 (Bg 1) (Oq ta) f H Q:=by delta Pw Bg;rw[j];let:=h.lst ⋯ e n λp vs H' s o d=>#[b,p,c,vs,Ej,Ej,s _ _ h1,o,zr<|by have:=`d;have:=`g;rw[ZA]at*;lia,λt i=>q t _ _ (s.trans<|zz i) zD<|ZM▸zu.same (zz i) _ _ (zu.append (zu.same s _ _ g) d)]
end
def XS(c b e f g i j l n o:Er):(List<|Str×Er):=[("thing",c),("name",b),("files",f),("path",e),("fit",g),("clash",i),("nobranch",n),("branch",o),("version",j),("line",l)]
def RF{f e g i j b c l n o a:Er}(d:[b,c,i,l,n,o,e,f,g,j].Nodup)(h:a∈[b,c]):((XS f e g i j b c l n o).filter λx=>decide<|a=x.2).map (·.1)=[Wx b a]:=by simp only[YC,ZJ,Yd,YY,not_or]at d;let#[#[p],_]:=d;simp only[ZJ,Yd,YY]at h;let q:=EG p;rcases h with rfl|rfl<;>simp[XS,Wx, *]
inductive LC2(H:Hp)(Q:VK)(fp:Dc)(S:Dh)(o:Str)(B Y:FF)(z:Str)(R:Hp->Dh->Prop):Prop|mk(M:FF)(q2:By)(z2:Str)(j:AnS.Js)(h1:VF S o M q2 z2)(h2:Jn B M Y j)(h3:Cz j->∀H',zx H H'->Q (.str "refused clash") H')(h4:Cz j\/∃pl,Cl pl j)(h5:∀pl,Cl pl j->RJ j=M->∀H',zx H H'->Q (.str o) H')(h6:∀pl,Cl pl j->RJ j≠M->∀S' n H',Kf S (RJ j) [o] z S' n->Off fp H H'->R H' S'->Q (.str n) H'):LC2 H Q fp S o B Y z R
inductive LC1(H:Hp)(Q:VK)(fp:Dc)(S:Dh)(v o:Str)(R:Hp->Dh->Prop):Prop|mk(B Y:FF)(qs:By)(z:Str)(h1:VF S v Y qs z)(h2:PB S qs.head? B)(h3:U4 z=Eg)(h4:U8 S o=Ei->∀H',zx H H'->Q (.str "refused version") H')(h5:U8 S o=Eg->LC2 H Q fp S o B Y z R):LC1 H Q fp S v o R
inductive zyO(P:Et)(w:Ey)(K:CK)(C D b4 b5:Er)(vs:Di)(H:Hp)(Q:VK)(e3:XK):Prop|mk(b a h:Er)(fp:Dc)(S:Dh)(hs:Hs)(v o:Str)(h0:vs=[.ref b,.str v,.str o])(h1:xr P w K C D H b a h fp S hs)(h2:`S<1800)(h3:U8 S v=Ei->∀H',zx H H'->Q (.str "refused version") H')(h4:U8 S v=Eg->LC1 H Q fp S v o λH' S'=>xr P w K C D H' b a h fp S' hs):zyO P w K C D b4 b5 vs H Q e3
namespace CB
abbrev st:=top 97
def sc:zy ["_law_e","_law_some","_law_found"] ["_law_e"]<|zF st:=CP
include T in
def ok(F:yd0 K "_law_word" st f fd):lO P w K mg dX 1 f fd ["_law_e"]<|Wd b4 b5:=by
 let:=F.nP sc (λz vs H Q E h=>?_)<|λz ab A outer s H vs Q E hr hh h=>?_;.let#[a,rfl,_]:=h;rfl
 .let#[a,rfl,he,ha,k]:=h;let:=let X0:=_;let D0:=_;let u1:=_;let u2:=_;let u3:=_;let u4:=_;let u5:=_;pZ X0 D0 (zC (u:=u5) (wS 1 sc.nd<|yD<|zA (zQ<|zA zK<|zA (zI (yG (K:=K) (C:=aT)) (by rfl) T.isinstance ZR<|zA (pv 0)<|zA (yI (v:=.ref aT) rfl T.zy0 rfl) zB) zB)<|zA (zQ<|zA zK<|zA (zI (yG (K:=K) (C:=aN)) (by rfl) T.isinstance ZR<|zA (pv 0)<|zA (yI (v:=.ref aN) rfl T.zwN rfl) zB) zB)<|zA (zQ<|zA zK<|zA (zI (yG (K:=K) (C:=b2)) (by rfl) T.isinstance ZR<|zA (pv 0)<|zA (yI (v:=.ref b2) rfl T.zyH rfl) zB) zB) zB)<|zC (u:=u4) (wS 1 sc.nd<|zP v5 (pv 1)<|yD<|zA (zQ<|zA zK<|zA (zI (yG (K:=K) (C:=b1)) (by rfl) T.isinstance ZR<|zA (pv 0)<|zA (yI (v:=.ref b1) rfl T.zxT rfl) zB) zB)<|zA (zQ<|zA zK<|zA (zI (yG (K:=K) (C:=b3)) (by rfl) T.isinstance ZR<|zA (pv 0)<|zA (yI (v:=.ref b3) rfl T.zw2 rfl) zB) zB)<|zA (zQ<|zA zK<|zA (zI (yG (K:=K) (C:=b4)) (by rfl) T.isinstance ZR<|zA (pv 0)<|zA (yI (v:=.ref b4) rfl T.zxC rfl) zB) zB) zB)<|zC (u:=u3) (wS 1 sc.nd<|zP v5 (pv 1)<|yD<|zA (zQ<|zA zK<|zA (zI (yG (K:=K) (C:=b7)) (by rfl) T.isinstance ZR<|zA (pv 0)<|zA (yI (v:=.ref b7) rfl T.zyM rfl) zB) zB)<|zA (zQ<|zA zK<|zA (zI (yG (K:=K) (C:=b8)) (by rfl) T.isinstance ZR<|zA (pv 0)<|zA (yI (v:=.ref b8) rfl T.zz3 rfl) zB) zB) zB)<|zC (u:=u2) (wS 1 sc.nd<|zP v5 (pv 1)<|yD<|zA (zQ<|zA zK<|zA (zI (yG (K:=K) (C:=b5)) (by rfl) T.isinstance ZR<|zA (pv 0)<|zA (yI (v:=.ref b5) rfl T.m9 rfl) zB) zB)<|zA (zQ<|zA zK<|zA (zI (yG (K:=K) (C:=b6)) (by rfl) T.isinstance ZR<|zA (pv 0)<|zA (yI (v:=.ref b6) rfl T.zxS rfl) zB) zB) zB)<|zC (u:=u1) (TV (sc:=zF st) (N:=["_law_e","_law_some","_law_found"]) (N':=["_law_word_here","_law_fits","_law_e"]) (src:=[Ee,Ee,A0 0]) .a rfl rfl hh (pv 1) (λ_ _ _ _=>aF (K:=K) (n:=2) hh<|zT (wN 0<|show(["_law_word_here","_law_fits","_law_e"]:By).Nodup by lk)<|zT (wN 1<|show(["_law_word_here","_law_fits","_law_e"]:By).Nodup by lk) xO) (λ_ _ _ _=>Od<|PW.pt<|vQ (zU (K:=K)<|pv 1)<|uS<|zU (K:=K)<|zI (Bl (K:=K) (T:="ValueError")) (by rfl) T.isinstance ZR<|zA (pv 2)<|zA (yY (v:=.ty "ValueError") rfl T.ValueError (by lk) rfl) zB) (λ_ _ _ _=>pv 0) sc.nd rfl (MH rfl) (k:=2))<|zC (zX (wT yK (zI zN (by rfl) T.len Yh<|zA (pv 2) zB) zG) (zE<|zJ<|zP zO zK<|wL K (pv 2) zG) zM)<|zE<|zJ zK) ?_;let ek:=T.ek a ha;let kx:=T.kx a ha;let:=IZ<|wZ.lst (wZ.cons (x:="thing") (c:=aT) ek (kx _<|by simp)<|wZ.cons (x:="name") (c:=aN) ek (kx _<|by simp)<|wZ.cons (x:="files") (c:=b2) ek (kx _<|by simp) wZ.nil) (by simp) rfl he λp1 v1 H1 s1 h1 d1=>?_;let j:=s1 _ _ he;let:=IZ<|wZ.cat (wZ.cons (x:="path") (c:=b1) ek (kx _<|by simp)<|wZ.cons (x:="fit") (c:=b3) ek (kx _<|by simp)<|wZ.cons (x:="clash") (c:=b4) ek (kx _<|by simp) wZ.nil) (by simp) rfl j rfl h1 d1 λp2 v2 t s2 h2 d2=>?_;let l:=s2 _ _ j;let:=IZ<|wZ.cat (wZ.cons (x:="nobranch") (c:=b7) ek (kx _<|by simp)<|wZ.cons (x:="branch") (c:=b8) ek (kx _<|by simp) wZ.nil) (by simp) rfl l rfl h2 d2 λp3 v3 H3 s3 h3 d3=>?_;let p:=s3 _ _ l;let:=IZ<|wZ.cat (wZ.cons (x:="version") (c:=b5) ek (kx _<|by simp)<|wZ.cons (x:="line") (c:=b6) ek (kx _<|by simp) wZ.nil) (by simp) rfl p rfl h3 d3 λp4 v4 J S h4 y=>?_;let q:=S _ _ p;let S:=((s1.trans s2).trans s3).trans S;clear s1 s2 s3 h1 h2 h3 d1 d2 d3 j l p;let y:zu K J ((XS aT aN b1 b2 b3 b4 b5 b6 b7 b8).map λx=>eY<|isW a x) v4:=y;let one:((XS aT aN b1 b2 b3 b4 b5 b6 b7 b8).filter λx=>decide<|a=x.2).map (·.1)=[Wx b4 a]:=RF T.dst ha;let g:↑(XS aT aN b1 b2 b3 b4 b5 b6 b7 b8)=10:=rfl;generalize XS aT aN b1 b2 b3 b4 b5 b6 b7 b8=W at y one g;let dl:=`y;rw[ZA,g]at dl;let:=#[p4,Ej,#[_,yp.of h4],NF (K:=K) (a:=p4) (z:=z) (xs:=v4) (λi G X t=>∃L R,X=[L,R,A0<|.ref z]/\zx J t/\`G<=i/\G=((W.take i).filter λx=>decide<|a=x.2).map λx=>V.str x.1) #[Ee,Ee,Ej,zx.refl _,ZG _,Ej] (zr<|⋯) ?_ ?_ ?_];.rintro i G X t hi ⟨L,R,rfl,e,D,_⟩;let:=#[yp.of<|e _ _ h4,#[_,e _ _ q],D]
  .rintro i x G X t hx ⟨L,R,rfl,e,D,rfl⟩;let#[dd,B,Y]:=y.get hx;rw[ZN]at B;let#[#[wd,c],hw,ed]:=Z2.mp B;subst ed;let#[U,wv,rfl,ht,w0,r0,rfl,Z,w1,r1,rfl,q1,q2]:=show∃U wv,x=.ref U/\yq K J U wv/\zu K J [.str wd,.bool<|decide<|a=c] wv from Y;let Z:w0=.str wd:=Z;let q1:w1=.bl (decide<|a=c):=q1;let q2:r1=[]:=q2;subst Z q1 q2;let tk:(W.take<|i+1).filter λx=>decide<|a=x.2=(W.take i).filter (λx=>decide<|a=x.2)++if decide (a=c)=Eg then[(wd,c)]else[]:=by simp_all[YE,UI,Uq]
   let:=#[U,_,_,Ej,e.yr ht,Ej,e _ _ q,_,_,Ej,_,_,Ej,Ej,?_];generalize decide (a=c)=b at tk ⊢;cases b with|false=>let:=#[_,Ej,UZ<|UZ #[_,_,Ej,e,Nat.le_succ_of_le D,?_]];rw[tk,ZX Yf,Yi]|true=>
    let:=#[_,Ej,U1 #[z,a,Eg,Ej,e _ _ q,ek,T.kv a ha,_,Ej,U1 #[_,_,Ej,e,?_,?_]]];.rw[ZS];let:=Vo D
    .rw[tk,Z4 rfl,ZM];rfl
  .rintro G X t ⟨L,R,rfl,e,D,rfl⟩ r nr;rw[dl,<-g,Yg,show(W.filter λx=>decide<|a=x.2).map (λx=>V.str x.1)=((W.filter λx=>decide<|a=x.2).map (·.1)).map V.str by rw[ZV];rfl,one];let r8:("refused ":Str).length=8:=by lk
   let rl:↑(Wx b4 a)<=10:=by unfold Wx;split<;>lk
   let u:=zz (o:=.lst [V.str<|Wx b4 a]) nr;let:=#[r,_,Ej,.inl<|yp.of zD,Ej,_,Ej,NR rfl #[r,_,_,_,Ej,Ej,yp.of zD,Ej,_,_,Ej,Ej,zr<|⋯,k _<|(S.trans e).trans u]]
end CB
namespace CC
abbrev st:=top 98
def sc:zy ["_law_book","_law_version","_law_onto","_law_e"] ["_law_book","_law_version","_law_onto"]<|zF st:=CP
include T in
def ok(F:yd0 K "_law_carried" st f fd)(u:rG P w K mg dX 17 "carried" ["annals","version","onto"]<|zzS P w K aC aD b4 b5)(y:zz1 P w K mg dX 1 "_law_word" ["_law_e"]<|Wd b4 b5):zj P w K mg dX CO 18 f fd ["_law_book","_law_version","_law_onto"]<|zyO P w K aC aD b4 b5:=by
 let:=F.ok sc λ_ _ _ _ H vs Q E q h=>?_;let#[b,a,h,D,S,G,v,o,rfl,B,sl,J,k1]:=h;let:=#[_,zE<|aK rfl rfl rfl (λ_ _=>zE<|zJ<|y8 u q.m (M6 rfl)<|zA (pv 0)<|zA (pv 1)<|zA (pv 2) zB) rfl T.lE sc.nd (i:=3) rfl rfl λz=>zE<|zJ<|TD (z:=z) y (q.m.h.mark _) rfl<|zA (pv 3) zB,?_];let w4:Wx b4 b4="clash":=Z4 rfl;let s:Wx b4 b5="version":=ZX λz=>by have:=T.dst;rw[z]at this;let:=(YC.mp this).1 ZD
 let:=#[λg l cls=>g=[A0<|.ref b,A0<|.str v,A0<|.str o,Ee]/\∃x∈[b4,b5],cls=.ref x/\∀e,zx l e->Q (.str<|"refused "++Wx b4 x) e,?_,?_]
 .let:=#[b,a,h,D,S,G,v,o,Ej,B,sl,λn=>#[Ej,b5,by simp,Ej,λe s2=>?_],λn=>?_];.rw[s];let:=J n e s2
  .let#[t,Y,qs,z,vY,Z,U,k2,k3]:=k1 n;let:=#[t,Y,qs,z,vY,Z,U,λno l p=>#[Ej,b5,by simp,Ej,λe s2=>?_],λno=>?_];.rw[s];let:=k2 no e<|p.trans s2
   .let#[M,q2,z2,j,vM,jn,R,A,L,N]:=k3 no;let:=#[M,q2,z2,j,vM,jn,λc l p=>#[Ej,b4,by simp,Ej,λe s2=>?_],A,L,N];rw[w4];let:=R c e<|p.trans s2
 .rintro g l cls z ⟨rfl,x,r,rfl,hq⟩ X;let:=#[T.exm x r,x,Ej,zD,r,λH3 s3=>hq _<|(zz X).trans s3]
end CC
def sV.ne{H:Hp}{a b:Er}{c:Dk}(ha:H a=A0 (.dK Dl))(hb:H b=A0 (.dK c))(x:sV K H Dl F)(y:sV K H c G){Q:V->Hp->Prop}(k:∀r:Bool,(r=Eg↔F=G)->Q (.bl<|!r) H):zwS K (.ref a) (.ref b) H Q:=by let#[n,i,r,_,rfl]:=x;let#[l,j,g,_,rfl]:=y;let:=#[a,b,Dl,c,_,Ej,Ej,.inl ha,.inl hb,FZ j g i λf e=>#[(r.lb e).1,(r.lb e).2.2],k _<|by rw[Kj i j g<|qQ r.nd,HP g r]]
inductive zxQ(P:Et)(w:Ey)(K:CK)(C D:Er)(vs:Di)(H:Hp)(Q:VK)(e3:XK):Prop|mk(b a h:Er)(fp:Dc)(S:Dh)(hs:Hs)(n:Str)(c l:Er)(Dl:Dk)(F:FF)(ps:By)(y:Str)(h0:vs=[.ref b,.str n,.ref c,.ref l,.str y])(h1:xr P w K C D H b a h fp S hs)(h2:VF S n F ps y)(h3:H c=A0 (.dK Dl))(h4:sV K H Dl F)(h5:yp K H l<|ps.map V.str)(h6:∀p∈ps,Ez p=Eg)(h7:∀H',zx H H'->Q (.bl Eg) H'):zxQ P w K C D vs H Q e3
structure lq(P:Et)(w:Ey)(K:CK)(C D:Er)(H:Hp)(b a h:Er)(fp:Dc)(S:Dh)(b' a' h':Er)(fp':Dc)(S':Dh)(hs:Hs):Prop where
 x:xr P w K C D H b a h fp S hs
 y:xr P w K C D H b' a' h' fp' S' hs
 dj:∀c∈b::h::fp,c∉b'::h'::fp'
section
variable{C D:Er}{H H':Hp}{b a h b' a' h':Er}{gp fp':Dc}{S' T:Dh}{hs:Hs}{n m:Str}
def xr.off(B:xr P w K C D H b a h fp S hs)(n:∀c∈gp,∀xs,¬Rd H c (.tup xs))(o:Off gp H H')(dj:∀c∈b::h::fp,c∉gp):xr P w K C D H' b a h fp S hs:=by let#[e,hb]:=B.ob;let:=#[#[e,o _ _ (dj b ZD) hb],B.sh.off n o<|λc f=>dj c<|ZB _<|ZB _ f,o _ _ (dj h<|ZB _ ZD) B.hd,B.nb,B.nh,B.ok,B.nd,B.hv]
def xr.nt(B:xr P w K C D H b a h fp S hs):∀c∈b::h::fp,∀xs,¬Rd H c (.tup xs):=λc e xs z=>by
 rcases ZJ.mp e with rfl|e;.let#[f]:=B.ob;rcases z with z|⟨o,z⟩<;>(simp_all)
 rcases ZJ.mp e with rfl|e;.rcases z with z|⟨o,z⟩<;>(rw[B.hd]at z;cases z)
 .let:=B.sh.wK.tup c e xs z
def lq.same(x:lq P w K C D H b a h fp S b' a' h' fp' S' hs)(e:zx H H'):lq P w K C D H' b a h fp S b' a' h' fp' S' hs:=#[x.x.same e,x.y.same e,x.dj]
def lq.one(x:lq P w K C D H b a h fp S b' a' h' fp' S' hs)(o:Off fp H H')(B:xr P w K C D H' b a h fp T hs):lq P w K C D H' b a h fp T b' a' h' fp' S' hs:=#[B,x.y.off (λc e=>x.x.nt c<|ZB _<|ZB _ e) o λc e z=>x.dj c (ZB _<|ZB _ z) e,x.dj]
def lq.two(x:lq P w K C D H b a h fp S b' a' h' fp' S' hs)(o:Off fp' H H')(B:xr P w K C D H' b' a' h' fp' T hs):lq P w K C D H' b a h fp S b' a' h' fp' T hs:=#[x.x.off (λc e=>x.y.nt c<|ZB _<|ZB _ e) o λc e z=>x.dj c e<|ZB _<|ZB _ z,B,x.dj]
def O2(g:yw 4 gs):(gs.map λf=>CL f.1).Nodup:=by have:=Tl (λp c=>by let#[f,b,rfl]:=ZH.mp c;let:=g.lb b) g.nd;rw[ZV]at this;let:=this
def cC(g:yw 4 fs)(r:yw 4 gs)(e:Ff fs=Ff gs)(l:(fs.map λf=>CL f.1).Pairwise HM)(s2:(gs.map λf=>CL f.1).Pairwise HM):fs=gs:=by
 let mem:=(HP r g).mp e;let n1:=O2 g;let n2:=O2 r;let em:=AnS.rP l s2 n1 n2 λp=>by simp_all
 let:=VC λi=>?_;let c:=congrArg (·[i]?) em;simp only[ZN]at c;cases h1:fs[i]?with|none=>cases h2:gs[i]?<;>simp_all|some f=>cases h2:gs[i]?with|none=>simp_all|some k=>rw[h1,h2]at c;let c:CL f.1=CL k.1:=dI c;let j:=(mem f).mp<|ZI h1;let hk:=ZI h2;let a:=BD r j;let b:=BD r hk;rw[c,b]at a;rw[Mf (Ha (r.lb j) (r.lb hk) c) (dI a).symm]
def Kf.uniq(x:Kf S F ps y S' n)(z:Kf S F ps y T m):S'=T/\n=m:=by let#[fs,_,g,_,e,s,q]:=x;let#[f,_,r,_,b,c,i]:=z;rw[cC g r (e.trans b.symm) s c]at q;simp_all
def Kf.vf(x:Kf S F ps y S' n):VF S' n F ps y:=by let#[fs,k,g,l,e,q]:=x;let#[t,nt]:=k.nt;let:=#[fs,t,nt,g,l,e]
end
inductive mK(P:Et)(w:Ey)(K:CK)(C D:Er)(vs:Di)(H:Hp)(Q:VK)(e3:XK):Prop|mk(b a h b' a' h':Er)(fp fp':Dc)(S S':Dh)(hs:Hs)(n:Str)(c l:Er)(Dl:Dk)(F:FF)(pl:List By)(ps:By)(y:Str)(h0:vs=[.ref b,.ref b',.str n,.ref c,.ref l,.str y])(h1:lq P w K C D H b a h fp S b' a' h' fp' S' hs)(h2:`S<1800)(h3:Kf S F ps y S' n)(h4:H c=A0 (.dK Dl))(h5:c∉fp)(h6:sV K H Dl F)(h7:P4 pl)(h8:b0 pl F)(h9:yp K H l<|ps.map V.str)(h10:ps.Nodup)(h11:`ps<=2)(h12:∀p∈ps,U8 S p=Eg)(h13:U4 y=Eg)(h14:∀H',lq P w K C D H' b a h fp S' b' a' h' fp' S' hs->Off fp H H'->Q (.bl Eg) H'):mK P w K C D vs H Q e3
namespace CD
abbrev st:=top 99
def sc:zy ["_law_book","_law_name","_law_files_here","_law_parents","_law_words_here"] ["_law_book","_law_name","_law_files_here","_law_parents","_law_words_here"]<|zF st:=CP
include T in
def ok(F:yd0 K "_law_is" st f fd)(Qm:Met P w K mg dX aC 2 "has" ["self","name"]<|lD P w K aC)(Zq:Met P w K mg dX aD 16 "files" ["self","version"]<|oh P w K aC aD)(Qy:xu P w K mg dX 7 "parents_of" ["store","name"]<|mW P w K aC)(Qz:xu P w K mg dX 7 "words_of" ["store","name"]<|mF P w K aC):zj P w K mg dX CO 17 f fd ["_law_book","_law_name","_law_files_here","_law_parents","_law_words_here"]<|zxQ P w K aC aD:=by
 let:=F.ok sc λ_ _ _ _ H vs Q E j h=>?_;let#[b,a,h,s,S,hs,n,c,l,Dl,G,i,y,rfl,B,v,hc,ff,hl,po,k]:=h;let:=let X0:=_;let Z:=_;let u1:=_;pZ X0 Z (zC (u:=u1) (zX (PW.pt<|kA (yR<|zU (K:=K)<|zI (FL (K:=K)) (by rfl) T.isinstance ZR<|zA (pv 1)<|zA (yY (v:=.ty "str") rfl T.str YD rfl) zB)<|kA (yR<|zU (K:=K)<|z8 (yE (pv 0) rfl) T.cls Qm j.m<|zA (pv 1) zB)<|qO<|wT (dq j.tU) (z8 (pv 0) T.xg Zq j.m<|zA (pv 1) zB)<|pv 2) (zE<|zJ jS) zM)<|zE<|zJ<|yX (wC (kR j.units) (wc Qy j<|zA (yE (pv 0) rfl)<|zA (pv 1) zB)<|pv 3)<|xW<|wC yK (wc Qz j<|zA (yE (pv 0) rfl)<|zA (pv 1) zB)<|pv 4) ?_;let#[Y,hb]:=B.ob;let#[t,nt,tr,tt,g,gl,e]:=v.read B.ok;let hn:GD S (.str n)=Eg:=ZK nt.mem;let#[ix,i1,i2,i3,L]:=jE B.sh;let ks:=by simpa using T.kit "str" (by simp[kinds]) "str"<|by simp[kinds]
 let:=#[.str n,"str",_,Eg,Ej,.str _,ks,Eg,Ej,UZ #[b,aD,Y,_,_,Ej,hb,T.xg,T.m1,Ej,a,ix,_,Ej,L,Ej,a,s,S,.str n,_,Ej,B.sh,Ej,GD S<|.str n,Ej,?_]];rw[hn];let:=UZ #[b,Y,_,Ej,hb,Ej,b,a,h,s,S,hs,n,t,i,y,Ej,B,nt,tr,tt,⋯,λf hf=>(g.wg f hf).2.2.2,λe1 k1 H1 p n1 h1 f1=>pK.mk rfl<|sV.ne h1 (p _ _ hc) #[_,f1,g,gl,e] (ff.same p) λr U=>?_];rw[U.mpr rfl];let q:=B.same p;let#[z,D]:=q.ob;let:=#[_,Ej,UZ #[b,aD,z,_,_,Ej,D,T.xg,T.m1,Ej,a,s,S,n,t,i,y,Ej,q.sh,q.ok,nt,λl2 n2=>?_]];let X:=zz (o:=.lst<|i.map V.str) n2;let x:=q.same X;let#[A,J]:=x.ob;let N:Dt K (upd H1 l2<|.lst<|i.map V.str) (.list<|i.map .str)<|.ref l2:=#[l2,_,Ej,yp.of zD,zu.strs i];let R:Dt K _ (.list<|i.map .str)<|.ref l:=#[l,_,Ej,(p.trans X).seq hl,zu.strs i];let sh:=(xM po).1;let:=#[.list<|i.map .str,.list<|i.map .str,N,R,sh,sh,Eg,congrArg V.bl ?_,U1 #[b,aD,A,_,_,Ej,J,T.xg,T.m1,Ej,a,s,S,n,t,i,y,Ej,x.sh,x.ok,nt,Ej,?_]];.show E7 _ _=Eg;rw[qJ,ZK rfl]
 .rw[ZK rfl];let:=k _<|p.trans X
end CD
def vJ{C:Er}{H:Hp}{l:Er}(hl:H l=A0 (.lst<|S.map λe=>V.str e.nm)):Dt K H (.list<|(S.map En.nm).map .str)<|.ref l:=#[l,_,Ej,yp.of hl,show(S.map λe=>V.str _)=(S.map _).map _ by rw[ZV];rfl▸zu.strs _]
def qI(ok:wU S):EU (.list<|(S.map En.nm).map E9)=Eg:=(xM λp c=>by let#[e,b,rfl]:=ZH.mp c;let:=(ok.nm b).2).1
namespace CF
abbrev st:=top 100
def sc:zy ["_law_beside","_law_book","_law_name","_law_files_here","_law_parents","_law_words_here","_law_rising","_law_path"] ["_law_beside","_law_book","_law_name","_law_files_here","_law_parents","_law_words_here"]<|zF st:=CP
include T in
def ok(F:yd0 K "_law_named" st f fd)(Qh:Met P w K mg dX aC 1 "names" ["self"]<|ph P w K aC)(Qf:xu P w K mg dX 13 "noted" ["shelf","files","parents","words"]<|tZ P w K aC):zj P w K mg dX CO 14 f fd ["_law_beside","_law_book","_law_name","_law_files_here","_law_parents","_law_words_here"]<|mK P w K aC aD:=by
 let:=F.ok sc λ_ _ _ _ H vs Q E A h=>?_;let#[b,a,h,b',a',h',fp,ad,S,Y,hs,n,c,l,Dl,G,pl,ps,y,rfl,B,sl,kf,hc,nc,ff,p4,sup,hl,nd,p2,pf,ly,k]:=h;let:=let X0:=_;let D0:=_;let U:=_;let Z:=_;pZ X0 D0 (zC (u:=Z) (wS 6 sc.nd yU)<|zC (u:=U) (yQ EM rfl (yN<|zI (jQ rfl) (by rfl) T.sorted Y9<|zA (pv 3) zB) (wN 7 sc.nd)<|zE<|y6 A.wX (pv 6) (pv 7) (IH A.wX (pv 3) (pv 7)<|λ_ _=>rfl) rfl)<|zE<|zJ<|yX (wC yK (wc Qf A<|zA (yE (pv 0) rfl)<|zA (pv 6)<|zA (pv 4)<|zA (pv 5) zB)<|pv 2)<|xW<|wC (kR A.units) (qL (yE (pv 0) rfl) T.cls Qh A.m)<|qL (yE (pv 1) rfl) T.cls Qh A.m) ?_;let#[L,t,Ll,_,_]:=ff.files;let kl:=t.is.len;let:=λd n1=>zR ?_;let U:=zz (o:=.dK []) n1;let N:upd H d (.dK []) d=A0 (.dK []):=zD;generalize upd H d (.dK [])=H1 at U N ⊢;let:=#[c,Dl,Ej,.inl<|U _ _ hc,t.is.tH,⋯,λq ss n2 pm so=>nw n2 λH2 Z h2=>#[q,Ej,#[_,yp.of h2],?_]];rw[t.is.pJ]at pm;let snd:ss.Nodup:=pm.nodup_iff.mpr t.is.nd;let a1:`ss<=4:=pm.length_eq▸Ll;let dn:d∉fp:=λz=>by let#[o,eo]:=B.x.sh.ex d z;rw[n1]at eo;cases eo
 let:=kS (K:=K) (a:=q) (xs:=ss.map V.str) (λi σ r=>∃o7 D,σ=[A0<|.ref b,A0<|.ref b',A0<|.str n,A0<|.ref c,A0<|.ref l,A0<|.str y,A0<|.ref d,o7]/\zx H r/\r q=A0 (.lst<|ss.map V.str)/\r d=A0 (.dK D)/\AnS.zc K r D (ss.take i) λp=>AnS.oD<|G p) ?_ ?_ ?_ ?_;.let:=#[Ee,[],Ej,U.trans Z,h2,Z _ _ N,AnS.zc.nil]
 .rintro i σ r _ ⟨_,_,_,_,h3,_⟩;let:=yp.of h3
 .rintro i v σ r D' B' hv hD hB ⟨o7,D,rfl,s,j,e,J⟩;rw[ZN]at hv;let#[x,hx,rfl]:=Z2.mp hv;let xm:x∈L:=pm.mem_iff.mp<|ZI hx;let#[v,hv,dv]:=(t.same s).is.val x xm;let ap:=J.len;rw[Z8]at ap;let:=hB #[c,_,Ej,.inl #[_,.inr x,.inl<|s _ _ hc,Ej,hv.symm],d,_,Ej,tV.k (k:=.inr x) e<|yM<|⋯,hD.nx _ _ #[_,_,Ej,An.zx.qi s n1,by rw[zH λz=>by rw[z,e]at j;cases j];let:=j,zD,?_]];let nx:x∉ss.take i:=λz=>GI snd hx z;let ea:AnS.qj (ss.take i) x=ss.take (i+1):=by unfold AnS.qj;rw[ZX nx,xf hx]
  have:=((J.put x dv).zzJ (g':=λp=>AnS.oD<|G p) λp _=>by simp_all[Z4,ZX]).mono<|AnS.DS.upd (o:=.dK<|yh D (.inr x) v) e;rw[ea]at this;let:=this
 .rintro σ r ⟨o7,D,rfl,s,j,e,J⟩;rw[ZA,Yg]at J;let#[gs,ga,gg,gl,ge,gk]:=p4.fs sup (L:=ss) (F:=G) #[J,λp=>by rw[pm.mem_iff];let:=t.mem p];let fr:FsR K r D G:=#[gs,ga,gg,gl,ge,gk▸qD so];let B3:=B.same s;let#[dx,hb]:=B3.x.ob;let:=#[b,aD,dx,_,_,Ej,hb,T.xg,T.m1,Ej,KY (ps:=ps) B3.x sl e dn fr (s.seq hl) nd p2 pf ly λS2 m H4 an R g=>?_];let#[rfl,rfl]:=kf.uniq an;let g:=B3.one R g;let#[ab,af]:=g.x.ob;let#[ay,a0]:=g.y.ob;let#[ix,i1,i2,i3,ah]:=jE g.x.sh;let:=#[Ej,Eg,congrArg V.bl<|ZK rfl,U1 #[b,aD,ab,_,_,Ej,af,T.xg,T.m1,Ej,a,ix,_,Ej,ah,Ej,a,fp,Y,Ej,g.x.sh,λr1 m1=>nw m1 λH5 s5 h5=>?_]];let X:=g.same s5;let#[ac,am]:=X.y.ob;let#[iy,j1,j2,j3,al]:=jE X.y.sh;let:=#[b',aD,ac,_,_,Ej,am,T.xg,T.m1,Ej,a',iy,_,Ej,al,Ej,a',ad,Y,Ej,X.y.sh,λr2 m2=>nw m2 λH6 s6 h6=>#[_,_,vJ (C:=aC)<|s6 _ _ h5,vJ (C:=aC) h6,qI g.x.ok,qI g.x.ok,?_]];rw[show EX (.list<|(Y.map En.nm).map .str) (.list<|(Y.map En.nm).map .str)=Eg from(qJ _ _).trans<|ZK rfl];let:=k H6 (X.same s6) λc' o' as e'=>s6 _ _<|s5 _ _<|R _ _ as<|s _ _ e'
end CF
structure Rws(K:CK)(H:Hp)(l:Er)(pl py:List By)(zs:List Zr):Prop where
 dt:∃us,H l=A0 (.lst us)/\zu K H (zs.map RK) us
 Z:Zs pl py zs
 len:`zs<=5
def Rws.same(h:Rws K H l pl py zs)(e:zx H H'):Rws K H' l pl py zs:=let#[us,a,b]:=h.dt;#[#[us,e _ _ a,zu.same e _ _ b],h.Z,h.len]
inductive zwZ(K:CK)(vs:Di)(H:Hp)(Q:VK)(e3:XK):Prop|mk(l:Er)(pl py:List By)(zs:List Zr)(h0:vs=[.ref l])(h1:Rws K H l pl py zs)(h2:(∃z∈zs,odd z.2=Eg)->∀H',zx H H'->Q .non H')(h3:(∀z∈zs,odd z.2=Ei)->∀c Dl H',zx H H'->H c=Ee->H' c=A0 (.dK Dl)->sV K H' Dl (uF zs)->Q (.ref c) H'):zwZ K vs H Q e3
def Ke{zs:List Zr}{z:Zr}(nd:(zs.map λz=>CL z.1).Nodup)(b:zs[n]?=A0 z)(q:Str):col f (zs.take<|n+1) q=if q=CL z.1 then f z.2 else col f (zs.take n) q:=by
 let e:Xu (zs.take<|n+1) q=if q=CL z.1 then A0 z.2 else Xu (zs.take n) q:=by
  by_cases h:q=CL z.1;.rw[Z4 h,h];let:=at_of (nd.sublist<|(V8 ..).map _)<|by simp_all[xf]
  .rw[ZX h];unfold Xu;simp_all[xf,List.find?_append,JD,ZZ,EG]
 unfold col;rw[e];split<;>rfl
def WI{zs:List Zr}{z:Zr}(nd:(zs.map λz=>CL z.1).Nodup)(g:zs[n]?=A0 z):col f (zs.take n) (CL z.1)=Ee:=by cases e:col f ..with|none=>rfl|some l=>let#[y,c,b,_]:=Bc e;let:=absurd ?_ (GI nd<|by rw[ZN,g];rfl);rw[<-Ut];let:=ZH.mpr #[y,c,b]
namespace CG
abbrev st:=top 102
def sc:zy ["_law_rows","_law_files_here","_law_row"] ["_law_rows"]<|zF st:=CP
include T in
def ok(F:yd0 K "_law_first_due" st f fd)(Qa:xu P w K mg dX 1 "_law_files" ["_law_rows","_law_at"]<|rH K):zj P w K mg dX CO 2 f fd ["_law_rows"]<|zwZ K:=by
 let:=F.ok sc λ_ _ _ _ H vs Q E hr h=>?_;let#[l,pl,py,g,rfl,R,k1,k2]:=h;let:=let X0:=_;let D0:=_;let u1:=_;let u2:=_;let u3:=_;pZ X0 D0 (zC (u:=u3) (wS 1 sc.nd<|wc Qa hr<|zA (pv 0)<|zA zG zB)<|zC (yQ (tb:=u2) EM rfl (yN<|pv 0) (wN 2 sc.nd)<|zC (u:=u1) (zX (PW.pt<|vQ (wT kK (wI K (pv 2) zG) yH)<|vQ (wT kK (wI K (pv 2) zG) yH)<|uS<|wT (G8 hr.units) (wI K (pv 2) zG)<|wI K (pv 2) zG) (zE<|zJ yH) zM)<|zE<|zX (wT kK (wI K (pv 2) zG) yH) (zE<|y6 hr.wX (pv 1) (wI K (pv 2) zG) (wI K (pv 2) zG) rfl) zM)<|zE<|zJ<|pv 1) ?_;let#[us,hl,dt]:=R.dt;let Z:=R.Z;let ul:`us=`g:=by have:=`dt;rw[ZA]at this;let:=this
 let zl:=R.len;let:=#[l,us,pl,py,g,2,Ej,hl,dt,Z,R.len,by simp,λc k0 H1 s1 nc hc fs=>zR ?_];let fs:yj K H1 (CY Sd.m g) k0:=fs;let#[gm,lm,em,sm]:=Z.good (f:=Sd.m) (by simp);let fi:=Kv fs gm;rw[em]at fi;let ml:=ZA (as:=CY Sd.m g) λf=>CL f.1;let cl:l≠c:=zL hl nc;let:=#[l,Ej,#[_,yp.of<|s1 _ _ hl],kS (K:=K) (a:=l) (xs:=us) (λn σ p=>∃o2 s L,σ=[A0<|.ref l,A0<|.ref c,o2]/\zx H p/\p c=A0 (.dK s)/\AnS.Files K p s L (λq=>if(col Sd.b (g.take n) q).isSome=Eg then col Sd.b (g.take n) q else col Sd.m g q)/\`L<=4+n/\∀z∈g.take n,odd z.2=Ei) ?_ ?_ ?_ ?_];.let:=#[Ee,k0,_,Ej,s1,hc,fi,⋯,λz t=>nomatch t]
 .rintro n σ p _ ⟨_,_,_,_,s2,_⟩;let:=yp.of<|s2 _ _ hl
 .rintro n v σ p D B hv hD hB ⟨o2,s,L,rfl,s2,j,A,Ll,G⟩;let#[d,e1,dv]:=(zu.same s2 _ _ dt).get hv;rw[ZN]at e1;let#[z,t,rfl]:=Z2.mp e1;let#[q,vb,vm,vy,vd,rfl,hq,i,S,dy,dd]:=Wv dv;let zm:=ZI t;let nl:n<`us:=(ZW.mp hv).1;let no:∀v:V,v=.non->V.bl (!decide (v=.non))=V.bl Ei:=λv e=>by rw[ZK e];rfl
  let ye:∀v:V,v≠.non->V.bl (!decide (v=.non))=V.bl Eg:=λv e=>by rw[ZZ e];rfl
  let Y:∀{X:By}{v:V},Dt K p (AnS.oD<|some X) v->v≠.non:=λ{X v}h e=>by let#[a,xs,e',_]:=show∃a xs,v=.ref a/\_ from h;rw[e']at e;cases e
  let ok:∀{o:Option By},(∀l,o=A0 l->wM l)->EU (AnS.oD o)=Eg:=λ{o}h=>AnS.wO λl e x hx=>An12.oK<|(h l e).2 x hx;let c0:=WI (f:=Sd.b) Z.nd t;let:=hB<|zR<|dW λN hN=>?_;let nx:odd z.2=Ei->N [A0<|.ref l,A0<|.ref c,A0<|.ref q] p:=λod=>hN _ _<|by let J:∀y∈g.take<|n+1,odd y.2=Ei:=xf t▸kW G od;cases r:z.2.b with
   |none=>
    rw[r]at i;let:=#[q,_,_,_,Ej,Ej,hq,Ej,Ej,Ei,no _ i,UZ<|hD.nx _ _ #[_,s,L,Ej,s2,j,?_,⋯,J]];rw[show(λq=>if(col Sd.b (g.take<|n+1) q).isSome=Eg then col Sd.b (g.take<|n+1) q else col Sd.m g q)=λq=>if(col Sd.b (g.take n) q).isSome=Eg then col Sd.b (g.take n) q else col Sd.m g q from funext λq=>by
     rw[Ke Z.nd t];by_cases e:q=CL z.1;.rw[Z4 e,r,e,c0]
     .rw[ZX e]]
    let:=A|some X=>rw[r]at i;let:=#[q,_,_,_,Ej,Ej,hq,Ej,Ej,Eg,ye _<|Y i,U1 #[q,_,_,_,Ej,Ej,hq,Ej,q,_,_,_,Ej,Ej,hq,Ej,c,_,Ej,tV.k (k:=.inr<|CL z.1) j<|yM<|by have:=A.is.len;lia,hD.nx _ _ #[_,_,AnS.qj L<|CL z.1,Ej,An.zx.qi s2 nc,zD,?_,by have:=AnS.oO (L:=L)<|CL z.1;lia,J]]];have:=(A.put (CL z.1) i).mono<|AnS.DS.upd (o:=.dK<|yh s (.inr<|CL z.1) vb) j;rw[show(λq=>if(col Sd.b (g.take<|n+1) q).isSome=Eg then col Sd.b (g.take<|n+1) q else col Sd.m g q)=λq=>if q=CL z.1 then A0 X else if(col Sd.b (g.take n) q).isSome=Eg then col Sd.b (g.take n) q else col Sd.m g q from funext λq=>by
     rw[Ke Z.nd t];by_cases e:q=CL z.1;.simp_all[Z4]
     .rw[ZX e,ZX e]];let:=this
  unfold odd at nx;cases r:z.2.b with|none=>rw[r]at i nx;let:=#[q,_,_,_,Ej,Ej,hq,Ej,Ej,Ei,no _ i,UZ<|UZ<|nx rfl]|some xs=>cases em:z.2.m with|none=>rw[r]at i nx;rw[em]at S nx;let:=#[q,_,_,_,Ej,Ej,hq,Ej,Ej,Eg,ye _<|Y i,U1 #[q,_,_,_,Ej,Ej,hq,Ej,Ej,Ei,no _ S,UZ<|UZ<|nx rfl]]|some ms=>
    let sb:=ok (o:=z.2.b) λl e=>Z.ln (f:=Sd.b) zm (by simp) e;let U:=ok (o:=z.2.m) λl e=>Z.ln (f:=Sd.m) zm (by simp) e;rw[r]at i sb;rw[em]at S U;let:=#[q,_,_,_,Ej,Ej,hq,Ej,Ej,Eg,ye _<|Y i,U1 #[q,_,_,_,Ej,Ej,hq,Ej,Ej,Eg,ye _<|Y S,U1 #[q,_,_,_,Ej,Ej,hq,Ej,q,_,_,_,Ej,Ej,hq,Ej,_,_,i,S,sb,U,_,Ej,U3 (λe=>?_)<|λe=>?_]]]
    .rw[AnS.rY]at e;let e:¬A0 xs=A0 ms:=λz=>by rw[ZK z]at e;cases e
     let:=hD.rt _ _<|k1 #[z,zm,?_] p s2;unfold odd;rw[r,em,ZK e];rfl
    .rw[AnS.rY]at e;let e:A0 xs=A0 ms:=LD λz=>e (by rw[ZZ z];rfl);let:=nx ?_;rw[r,em,ZZ λz=>z e];rfl
 .rintro σ p ⟨o2,s,L,rfl,s2,j,A,Ll,G⟩;rw[ul,Yg]at A G;let#[ab,e4]:=Z.j4.2.2 G;let su:=ab.sup;rw[e4]at su;let#[gs,ga,gg,gl,ge,gk]:=Z.p4.fs su A;let:=k2 G c s p s2 nc j #[gs,ga,gg,gl,ge]
end CG
def HI{o:Option By}(h:∀l,o=A0 l->wM l):Xd (AnS.oD o)=Eg:=by cases o with|none=>rfl|some l=>let:=qW<|h l rfl
def Zs.txt{pl:List By}:∀{ys zs:List Zr},Zs pl py zs->(∀y∈ys,y∈zs)->yP (ys.map RK)=Eg
 |[],_,_,_=>rfl|y::ys,zs,Z,h=>by
  let c:=h y ZD;let hb:=HI λl e=>Z.ln (f:=Sd.b) c (by simp) e;let hm:=HI λl e=>Z.ln (f:=Sd.m) c (by simp) e;let g:=HI λl e=>Z.ln (f:=Sd.y) c (by simp) e;let hd:=HI λl e=>Z.ln (f:=Sd.due) c (by simp) e;let h4:Xd (dD y.2.d)=Eg:=by unfold Sd.due at hd;cases e:y.2.d with|none=>let:=by lk|some o=>rw[e]at hd;let:=hd
  show(Ez (CL y.1)&&(Xd _&&(Xd _&&(Xd _&&(Xd (dD y.2.d)&&Eg))))&&yP _)=Eg;rw[SU<|Z.lb y c,hb,hm,g,h4,Zs.txt Z λx i=>h x<|ZB _ i];rfl
section
variable{C:Er}{H H':Hp}{a c l:Er}{py:List By}{zs:List Zr}
def sV.off(sh:yc P w K C H a fp S)(o:Off fp H H')(h:sV K H Dl F):sV K H' Dl F:=by let#[b,ga,g,l,e]:=h;let:=#[b,ga.off sh.wK.tup o,g,l,e]
def Rws.off(sh:yc P w K C H a fp S)(o:Off fp H H')(h:Rws K H l pl py zs):Rws K H' l pl py zs:=by let#[b,hl,dt]:=h.dt;let:=#[#[b,o _ _ (λz=>?_) hl,zu.off sh.wK.tup o _ _ (h.Z.txt λ_ z=>z) dt],h.Z,h.len];let#[e]:=sh.wK _ z;simp_all
end
inductive zwQ(P:Et)(w:Ey)(K:CK)(C D:Er)(vs:Di)(H:Hp)(Q:VK)(e3:XK):Prop|mk(b a h:Er)(fp:Dc)(S:Dh)(hs:Hs)(l:Er)(pl py:List By)(zs:List Zr)(f o:Str)(q:By)(z:Str)(h0:vs=[.ref b,.ref l,.str f,.str o])(h1:xr P w K C D H b a h fp S hs)(h2:`S<1800)(h3:Rws K H l pl py zs)(h4:VF S f (col Sd.b zs) [] "base")(h5:VF S o (col Sd.m zs) q z)(h6:∀S' H',Off fp H H'->xr P w K C D H' b a h fp S' hs->Q (.bl Eg) H'):zwQ P w K C D vs H Q e3
namespace CH
abbrev st:=top 103
def sc:zy ["_law_book","_law_rows","_law_first","_law_onto","_law_due","_law_found"] ["_law_book","_law_rows","_law_first","_law_onto"]<|zF st:=CP
include T in
def ok(F:yd0 K "_law_first_good" st f fd)(Zt:xu P w K mg dX 2 "_law_first_due" ["_law_rows"]<|zwZ K)(Qg:xu P w K mg dX 18 "_law_carried" ["_law_book","_law_version","_law_onto"]<|zyO P w K aC aD b4 b5)(Qa:xu P w K mg dX 1 "_law_files" ["_law_rows","_law_at"]<|rH K)(QA:xu P w K mg dX 17 "_law_is" ["_law_book","_law_name","_law_files_here","_law_parents","_law_words_here"]<|zxQ P w K aC aD):zj P w K mg dX CO 19 f fd ["_law_book","_law_rows","_law_first","_law_onto"]<|zwQ P w K aC aD:=by
 let:=F.ok sc λ_ _ _ _ H vs Q E G h=>?_;let#[b,a,h,fp,S,hs,l,J,py,D,f,o,q,z,rfl,B,sl,R,vf,N,k]:=h;let:=let X0:=_;let D0:=_;let u1:=_;let u2:=_;let u3:=_;let u4:=_;pZ X0 D0 (zC (u:=u4) (wS 4 sc.nd<|wc Zt G<|zA (pv 1) zB)<|zC (u:=u3) (wS 5 sc.nd<|wc Qg G<|zA (pv 0)<|zA (pv 2)<|zA (pv 3) zB)<|zC (u:=u2) (zX (wT vX (pv 4) yH) (zE<|zJ<|wC yK (pv 5) zK) zM)<|zC (u:=u1) (zX (wT (Hl G.tU) (pv 4)<|wc Qa G<|zA (pv 1)<|zA zG zB) (zE<|zJ<|wC yK (pv 5)<|pv 3) zM)<|zE<|zJ<|wc QA G<|zA (pv 0)<|zA (pv 5)<|zA (pv 4)<|zA (yD<|zA (pv 3) zB)<|zA zK zB) ?_;let#[jn,X,cl]:=R.Z.j4;let lb:U4 "base"=Eg:=by lk
 let:=#[l,J,py,D,Ej,R,λod H1 j=>zR ?_,λev c Dl H1 j nc hc ff=>zR ?_];.let v:=B.same j;let:=#[b,a,h,fp,S,hs,f,o,Ej,v,sl,λz=>(by rw[vf.note]at z;cases z),λ_=>#[λ_=>Ee,_,[],_,vf,Ej,lb,λz=>(by rw[N.note]at z;cases z),λ_=>#[_,_,_,jU D,N,jn,λ_ U s2=>zR ?_,.inl<|X od,λJ c=>((X od).not c).elim,λJ c=>((X od).not c).elim]]];.let:=#[Ej,Eg,Ej,U1 #[Ej,?_]];rw[ZK rfl];let:=k S U (Off.of<|j.trans s2)<|B.same<|j.trans s2
 .let#[c4,Y]:=cl ev;let v:=B.same j;let cf:c∉fp:=λz=>by let#[o,eo]:=B.sh.ex c z;rw[nc]at eo;cases eo
  let#[gm,lm,em,_]:=R.Z.good (f:=Sd.m) (by simp);let ac:Ez o=Eg:=by let#[e,he,rfl]:=ZH.mp<|kE<|show z7 S o ["note"]=Eg from N.note;let:=(B.ok.nm he).2
  let:=#[b,a,h,fp,S,hs,f,o,Ej,v,sl,λz=>(by rw[vf.note]at z;cases z),λ_=>#[λ_=>Ee,_,[],_,vf,Ej,lb,λz=>(by rw[N.note]at z;cases z),λ_=>#[_,_,_,jU D,N,jn,λz=>(z.not c4).elim,.inr #[_,c4],λ_ _ eq U s2=>zR ?_,λ_ _ ne S' n U kf g B2=>zR ?_]]];.let g:=Off.of (fp:=fp) s2;let R2:=(R.same j).off v.sh g;let t:=g _ _ cf hc;let s:=ff.off v.sh g;let#[us,y,x]:=R2.dt;let:=#[Ej,Ei,Ej,UZ #[l,us,J,py,D,2,Ej,y,x,R2.Z,R2.len,by simp,λc3 k3 H3 i n3 h3 f3=>sV.eq (i _ _ t) h3 (s.same i) #[_,f3,gm,lm,em] λr A=>?_]];rw[A.mpr<|Y▸eq];let:=#[_,Ej,U1 #[Ej,?_]];rw[ZK rfl];let:=k S H3 (Off.of<|(j.trans s2).trans i)<|B.same<|(j.trans s2).trans i
  .let R2:=(R.same j).off v.sh g;let t:=g _ _ cf hc;let s:=ff.off v.sh g;let#[us,y,x]:=R2.dt;let:=#[Ej,Ei,Ej,UZ #[l,us,J,py,D,2,Ej,y,x,R2.Z,R2.len,by simp,λc3 k3 H3 i n3 h3 f3=>?_]];let:=sV.eq (i _ _ t) h3 (s.same i) #[_,f3,gm,lm,em] λr A=>?_;let r0:r=Ei:=by cases r with|false=>rfl|true=>let:=absurd (A.mp rfl)<|Y▸ne
   subst r0;let B3:=B2.same i;let:=#[_,Ej,UZ #[UY 1,λl4 n4=>nw n4 λH4 L h4=>#[b,a,h,fp,S',hs,n,c,l4,Dl,uF D,[o],"base",Ej,B3.same L,Y▸kf.vf,(i.trans L) _ _ t,s.same<|i.trans L,yp.of h4,λp hp=>ZC.mp hp▸ac,λH5 s5=>k S' H5 (λc' o' ab e'=>(i.trans<|L.trans s5) _ _<|g _ _ ab<|j _ _ e')<|(B3.same L).same s5]]]
end CH
noncomputable def m1(zs:List Zr):List En×Str:=CT [] (CY Sd.b zs) [] "base"
noncomputable def m2(zs:List Zr):List En×Str:=CT (m1 zs).1 (CY Sd.m zs) [(m1 zs).2] "mine"
noncomputable def m3(zs:List Zr)(y:Str):List En×Str:=CT (m2 zs).1 (CY Sd.y zs) [(m1 zs).2] y
noncomputable def eR(zs:List Zr)(y:Str):Hs:=[("main",A0 (m2 zs).2),("side",A0 (m3 zs y).2)]
structure Md(zs:List Zr)(y:Str):Prop where
 k1:qw [] (CY Sd.b zs) [] "base"<|m1 zs
 k2:qw (m1 zs).1 (CY Sd.m zs) [(m1 zs).2] "mine"<|m2 zs
 k3:qw (m2 zs).1 (CY Sd.y zs) [(m1 zs).2] y<|m3 zs y
 l1:(m1 zs).1.length<=18
 l2:(m2 zs).1.length<=36
 l3:(m3 zs y).1.length<=54
section
variable{zs:List Zr}{py:List By}
def qw.not(k:qw S fs ps y q):U8 q.1 q.2=Eg:=let#[_,n]:=k.nt;cK n.nt
def Zs.md(Z:Zs pl py zs)(o:U4 y=Eg):Md zs y:=by let#[i,l1,_,_]:=Z.good (f:=Sd.b) (by simp);let#[j,l2,_,_]:=Z.good (f:=Sd.m) (by simp);let#[l,l3,_,_]:=Z.lg;let u:=i.wt;let v:=j.wt;let w:=l.wt;let ok0:wU []:=#[tO.nil,λe g=>(nomatch g),λe g=>nomatch g];let k1:qw [] _ [] "base"<|m1 zs:=IR ok0 i ⋯ YM ∅ (λp c=>nomatch c) (by rfl) (by grind);let n:=k1.len;rw[Vu]at n;let k2:qw _ _ _ "mine"<|m2 zs:=IR k1.ok j ⋯ (by simp) (show 1<=2 by decide) (λp c=>ZC.mp c▸k1.not) (by rfl) ⋯;let s:=k2.len;let#[r,q]:=k2.more;let k3:qw _ _ _ y<|m3 zs y:=IR k2.ok l ⋯ (by simp) (show 1<=2 by decide) (λp c=>by rw[ZC.mp c,q];let:=qC k1.not) o ⋯;let t:=k3.len;let:=#[k1,k2,k3,⋯,⋯,⋯]
def qw.vf(k:qw S fs ps y q)(g:yw 4 fs)(l:`fs<=4)(e:Ff fs=F):VF q.1 q.2 F ps y:=let#[t,n]:=k.nt;#[fs,t,n,g,l,e]
def Md.vfs(M:Md zs y)(Z:Zs pl py zs):VF (m3 zs y).1 (m1 zs).2 (col Sd.b zs) [] "base"/\VF (m3 zs y).1 (m2 zs).2 (col Sd.m zs) [(m1 zs).2] "mine"/\VF (m3 zs y).1 (m3 zs y).2 (col Sd.y zs) [(m1 zs).2] y:=by let#[l,l1,g,_]:=Z.good (f:=Sd.b) (by simp);let#[n,l2,i,_]:=Z.good (f:=Sd.m) (by simp);let#[o,l3,j,_]:=Z.lg;let#[p,e]:=M.k2.more;let#[q,c]:=M.k3.more;let a:=(M.k1.vf l l1 g).more M.k1.ok<|e▸M.k2.ok;rw[<-e]at a;let a:=a.more M.k2.ok<|c▸M.k3.ok;let b:=(M.k2.vf n l2 i).more M.k2.ok<|c▸M.k3.ok;rw[<-c]at a b;let:=#[a,b,M.k3.vf o l3 j]
def Md.hd(M:Md zs y):∃e r u,(m3 zs y).1=e::r/\At (m3 zs y).1 e.nm u/\u.word≠"note":=by let#[e,r,u,h1,h2,h3]:=M.k1.hd rfl;let#[b,f]:=M.k2.more;let#[c,g]:=M.k3.more;let:=#[e,r++b++c,u,by simp_all,?_,h3];rw[g,f];let:=h2.more.more
end
inductive zzM(P:Et)(w:Ey)(K:CK)(C D:Er)(vs:Di)(H:Hp)(Q:VK)(e3:XK):Prop|mk(l:Er)(pl py:List By)(zs:List Zr)(y:Str)(h0:vs=[.ref l,.str y])(h1:Rws K H l pl py zs)(h2:U4 y=Eg)(h3:∀(p b a h:Er)(fp:Dc)H',zx H H'->(∀c∈b::h::fp,H c=Ee)->H' p=A0 (.tup [.ref b,.str (m1 zs).2,.str (m2 zs).2,.str (m3 zs y).2])->xr P w K C D H' b a h fp (m3 zs y).1 (eR zs y)->Q (.ref p) H'):zzM P w K C D vs H Q e3
def xr.fresh{c:Er}(B:xr P w K C D H b a h fp S hs)(n:H c=Ee):c∉h::fp:=λz=>by
 rcases ZJ.mp z with rfl|z;.rw[B.hd]at n;cases n
 .let#[o]:=B.sh.ex c z;simp_all
namespace CI
abbrev st:=top 104
def sc:zy ["_law_rows","_law_words_here","_law_book","_law_first","_law_onto"] ["_law_rows","_law_words_here"]<|zF st:=CP
include T in
def ok(F:yd0 K "_law_made" st f fd)(Zu:Mak P w K mg dX aD 7 "Annals" ["self"]<|lQ P w K aC aD)(QE:Met P w K mg dX aD 8 "begin" ["self","branch","version"]<|lX P w K aC aD)(S:Met P w K mg dX aD 14 "keep" ["self","branch","files","words"]<|mG P w K aC aD)(U:xu P w K mg dX 1 "_law_files" ["_law_rows","_law_at"]<|rH K):zj P w K mg dX CO 15 f fd ["_law_rows","_law_words_here"]<|zzM P w K aC aD:=by
 let:=F.ok sc λ_ _ _ s H vs Q E j h=>?_;let#[l,pl,py,i,y,rfl,R,ly,k]:=h;let:=let X:=_;let D0:=_;let u1:=_;let u2:=_;let u3:=_;let u4:=_;let u5:=_;pZ X D0 (zC (u:=u5) (wS 2 sc.nd<|TH Zu j.m)<|zC (u:=u4) (zS<|z8 (pv 2) T.xg QE j.m<|zA zK<|zA yH zB)<|zC (u:=u3) (wS 3 sc.nd<|z8 (pv 2) T.xg S j.m<|zA zK<|zA (wc U j<|zA (pv 0)<|zA zG zB)<|zA zK zB)<|zC (u:=u2) (zS<|z8 (pv 2) T.xg QE j.m<|zA zK<|zA (pv 3) zB)<|zC (u:=u1) (wS 4 sc.nd<|z8 (pv 2) T.xg S j.m<|zA zK<|zA (wc U j<|zA (pv 0)<|zA zG zB)<|zA zK zB)<|zE<|zJ<|zQ<|zA (pv 2)<|zA (pv 3)<|zA (pv 4)<|zA (z8 (pv 2) T.xg S j.m<|zA zK<|zA (wc U j<|zA (pv 0)<|zA zG zB)<|zA (pv 1) zB) zB) ?_;let Z:=R.Z;let M:=Z.md ly;let#[g1,q1,_,_]:=Z.good (f:=Sd.b) (by simp);let#[g2,q2,_,_]:=Z.good (f:=Sd.m) (by simp);let#[g3,q3,_,_]:=Z.lg;let w1:=g1.wt;let w2:=g2.wt;let w3:=g3.wt;let l1:=M.l1;let l2:=M.l2;let:=λb G nx a0 ne=>#[b,G,Ej,zD,zH ne▸zD,ne,λa h fp L B hh r B1=>#[Ej,zR ?_]];let q:∀c∈h::fp,c=b\/c=G\/upd (upd H G<|.own b) b (.ins aD G []) c=Ee:=λc hc=>.inr<|.inr<|(ZJ.mp hc).elim (λe=>e▸hh)<|B c;let#[s1,fr]:=Fs (fp:=h::fp) nx a0 ne q r;let X:∀c∈b::h::fp,H c=Ee:=λc hc=>(ZJ.mp hc).elim (λe=>e▸nx)<|fr c;clear r B hh q;let g:∀{L N:Hp},zx H L->Off (h::fp) L N->zx H N:=λs o c u e=>o c u (λz=>by rw[fr c z]at e;cases e)<|s c u e;let#[db,hb]:=B1.ob;let:=#[b,db,_,Ej,hb,Ej,b,a,h,fp,[],[],"main",Ee,Ej,B1,∅,by lk,Ej,λv e=>(nomatch e),λN o2 J=>?_];let s2:=g s1<|λc u n e=>o2 c u (λz=>n<|ZC.mp z▸ZD) e;let R2:=R.same s2;let#[us,hl,dt]:=R2.dt;let#[Y,al]:=J.ob;let:=#[b,Y,_,Ej,al,Ej,l,us,pl,py,i,1,Ej,hl,dt,Z,R.len,by simp,λc1 k1 H3 s3 n3 h3 f3=>?_];let f3:yj K H3 (CY Sd.b i) k1:=f3;let B3:=J.same s3;let:=#[b,a,h,fp,[],Xz [] "main" Ee,"main",c1,"base",Ee,k1,_,Ej,B3,∅,Ej,h3,λz=>J.fresh n3<|ZB _ z,f3,g1,⋯,by lk,by show 0+2+_<_;lia,λH4 o4 D=>zR ?_];let D:xr P w K aC aD H4 b a h fp (m1 i).1 [("main",A0 (m1 i).2)]:=D;let s4:=g (s2.trans s3) o4;let#[ab,am]:=D.ob;let:=#[b,ab,_,Ej,am,Ej,b,a,h,fp,_,_,"side",A0 (m1 i).2,Ej,D,show 1<1000 by decide,by lk,by rfl,λv e=>?_,λH5 o5 x=>?_];.cases e;let#[t,n]:=M.k1.nt;let:=#[_,_,_,n.nt]
 let x:=x;let s5:=g s4<|λc u n e=>o5 c u (λz=>n<|ZC.mp z▸ZD) e;let R5:=R.same s5;let#[a1,as,af]:=R5.dt;let#[ac,an]:=x.ob;let:=#[b,ac,_,Ej,an,Ej,l,a1,pl,py,i,2,Ej,as,af,Z,R.len,by simp,λc6 k6 H6 s6 n6 h6 f6=>?_];let f6:yj K H6 (CY Sd.m i) k6:=f6;let:=#[b,a,h,fp,_,_,"main",c6,"mine",A0 (m1 i).2,k6,_,Ej,x.same s6,show 2<1000 by decide,by rfl,h6,λz=>x.fresh n6<|ZB _ z,f6,g2,⋯,by lk,⋯,λH7 o7 A=>zR ?_];let A:xr P w K aC aD H7 b a h fp (m2 i).1 [("main",A0 (m2 i).2),("side",A0 (m1 i).2)]:=A;let s7:=g (s5.trans s6) o7;let R7:=R.same s7;let#[a2,ay,ah]:=R7.dt;let#[ad,ap]:=A.ob;let:=#[b,ad,_,Ej,ap,Ej,l,a2,pl,py,i,3,Ej,ay,ah,Z,R.len,by simp,λc8 k8 H8 s8 n8 h8 f8=>?_];let f8:yj K H8 (CY Sd.y i) k8:=f8;let:=#[b,a,h,fp,_,_,"side",c8,y,A0 (m1 i).2,k8,_,Ej,A.same s8,show 2<1000 by decide,by rfl,h8,λz=>A.fresh n8<|ZB _ z,f8,g3,⋯,ly,⋯,λH9 o9 B9=>#[UY 4,λp np=>?_]];let:=k p b a h fp _ ((g (s7.trans s8) o9).trans<|zz np) X zD<|B9.same<|zz np
end CI
def bv(hs:Hs):(De):=(["main","side"]:By).map<|PM hs
structure Hs2(hs:Hs):Prop where nm:hs.map (·.1)=(["main","side"]:By)ok:∀x u,Xg hs x=A0 (A0 u)->Ez u=Eg
def Hs2.br(h:Hs2 hs):yP (bv hs)=Eg/\EU (.list<|bv hs)=Eg:=by
 let go:∀x,Ez x=Eg->Xd (PM hs x)=Eg/\(PM hs x).canLay0=Eg/\(PM hs x).depth<=1:=λx b=>by unfold PM;cases e:Xg hs x with|none=>let:=#[by show(Ez x&&(Eg&&Eg))=Eg;rw[b];rfl,by show(Ez x&&(Eg&&Eg))=Eg;rw[b];rfl,by show max 0 (max 0 0)+1<=1;decide]|some o=>cases o with|none=>let:=#[by show(Ez x&&(Eg&&Eg))=Eg;rw[b];rfl,by show(Ez x&&(Eg&&Eg))=Eg;rw[b];rfl,by show max 0 (max 0 0)+1<=1;decide]|some u=>let c:=h.ok x u e;let:=#[by show(Ez x&&(Ez u&&Eg))=Eg;rw[b,c];rfl,by show(Ez x&&(Ez u&&Eg))=Eg;rw[b,c];rfl,by show max 0 (max 0 0)+1<=1;decide]
 let#[f,g,l]:=go "main" (by lk);let#[i,j,n]:=go "side" (by lk);let:=#[by show(Xd (PM hs "main")&&(Xd (PM hs "side")&&Eg))=Eg;rw[f,i];rfl,AnJ.tR (by show((PM hs "main").canLay0&&((PM hs "side").canLay0&&Eg))=Eg;rw[g,j];rfl) ?_];show max _ (max _ 0)+1<=60;lia
structure Lw(P:Et)(w:Ey)(K:CK)(C D:Er)(H:Hp)(sa l ls ln:Er)(ns:List Int)(pl py:List By)(zs:List Zr)(b a h:Er)(fp:Dc)(S:Dh)(b' a' h':Er)(fp':Dc)(S':Dh)(Sn:Dh)(hs:Hs):Prop where
 B:lq P w K C D H b a h fp S b' a' h' fp' S' hs
 R:Rws K H l pl py zs
 sq:yp K H sa<|ns.map V.int
 st:∃xs,H ls=A0 (.lst xs)/\zu K H (bv hs) xs
 nm:H ln=A0 (.lst<|Sn.map λe=>V.str e.nm)h2:Hs2 hs
section
variable{C D:Er}{H H':Hp}{sa l ls ln:Er}{py:List By}{zs:List Zr}{b a h:Er}{gp:Dc}{T:Dh}{b' a' h':Er}{fp':Dc}{S' Sn:Dh}{hs:Hs}
def O0{xs:Di}(n:nF H gp)(o:Off gp H H')(hl:H l=A0 (.lst xs)):H' l=A0 (.lst xs):=o _ _ λz=>by let#[e]:=n _ z;simp_all hl
def Lw.same(x:Lw P w K C D H sa l ls ln ns pl py zs b a h fp S b' a' h' fp' S' Sn hs)(e:zx H H'):Lw P w K C D H' sa l ls ln ns pl py zs b a h fp S b' a' h' fp' S' Sn hs:=let ⟨xs,p,q⟩:=x.st;#[x.B.same e,x.R.same e,e.seq x.sq,#[xs,e _ _ p,zu.same e _ _ q],e _ _ x.nm,x.h2]
def Lw.off(x:Lw P w K C D H sa l ls ln ns pl py zs b a h fp S b' a' h' fp' S' Sn hs)(n:nF H gp)(o:Off gp H H')(R:Rws K H' l pl py zs){i f h2 j g h3:Er}{r s:Dc}{c e:Dh}(B:lq P w K C D H' i f h2 r c j g h3 s e hs):Lw P w K C D H' sa l ls ln ns pl py zs i f h2 r c j g h3 s e Sn hs:=let ⟨xs,p,q⟩:=x.st;#[B,R,Pr n o x.sq,#[xs,O0 n o p,zu.off n.tup o _ _ x.h2.br.1 q],O0 n o x.nm,x.h2]
def Lw.one(x:Lw P w K C D H sa l ls ln ns pl py zs b a h fp S b' a' h' fp' S' Sn hs)(o:Off fp H H')(B:xr P w K C D H' b a h fp T hs):Lw P w K C D H' sa l ls ln ns pl py zs b a h fp T b' a' h' fp' S' Sn hs:=x.off x.B.x.sh.wK o (x.R.off x.B.x.sh o)<|x.B.one o B
def Lw.two(x:Lw P w K C D H sa l ls ln ns pl py zs b a h fp S b' a' h' fp' S' Sn hs)(o:Off fp' H H')(B:xr P w K C D H' b' a' h' fp' T hs):Lw P w K C D H' sa l ls ln ns pl py zs b a h fp S b' a' h' fp' T Sn hs:=x.off x.B.y.sh.wK o (x.R.off x.B.y.sh o)<|x.B.two o B
end
inductive lH(K:CK)(vs:Di)(H:Hp)(Q:VK)(e3:XK):Prop|mk(a:Er)(ns:List Int)(h0:vs=[.ref a])(h1:yp K H a<|ns.map V.int)(h2:`ns<=63)(h3:∀H',Q (.bl Eg) H'):lH K vs H Q e3
def Kf.here{n:Str}(k:Kf S F ps y S' n)(x:VF S v F ps y):S'=S/\n=v:=by let#[fs,kp,g,l,e,s]:=k;let#[c,t,nt,r,_,b]:=x;let m:=(HP g r).mp<|b.trans e.symm;let:=#[kp.again nt m,((kp.same nt).mpr #[m,Ej,Ej]).symm]
def fV(M:Md zs y){c f:List By}(Z:Zs c f zs):Hs2<|eR zs y:=by
 let#[_,g,i]:=M.vfs Z;let so:∀{v:Str},U8 _ v=Eg->Ez v=Eg:=λ{v}h=>by let#[e,b,rfl]:=ZH.mp<|kE h;let:=(M.k3.ok.nm b).2
 let:=#[Ej,λx u e=>?_];unfold Xg eR at e;let#[p,h1,h2]:=Z2.mp e;have:=Ji h1;simp only[ZJ,Yd,YY]at this;rcases this with rfl|rfl;.cases h2;let:=so g.note
 .cases h2;let:=so i.note
def gP(h:Hs2 hs){ss:By}(pm:ss.Perm (hs.map (·.1)))(so:PyProof.Rows.sortedS ss=Eg):ss=(["main","side"]:By):=by rw[h.nm]at pm;let:=AnS.rP (qD so) (qD<|by rfl) (pm.nodup_iff.mpr<|by lk) (by lk) λp=>pm.mem_iff
def Hd{H:Hp}{l b:Er}(ok:wU S)(h1:H l=A0 (.lst<|S.map λe=>V.str e.nm))(h2:H b=A0 (.lst<|S.map λe=>V.str e.nm)){Q:VK}(k:Q (.bl Ei) H):zwW K (.ref l) (.ref b) H Q:=#[_,_,vJ (C:=l) h1,vJ (C:=l) h2,qI ok,qI ok,by rw[show EX (.list _) (.list _)=Eg from(qJ _ _).trans<|ZK rfl];let:=k]
def IP{Q:VK}{E:XK}{c:Er}(B:xr P w K C D H b a h fp S hs)(sl:`S<1800)(n:H c=A0 (.dK Dl))(r:c∉fp)(j:yj K H fs Dl)(g:yw 4 fs)(x:`fs<=4)(hl:yp K H l<|ps.map V.str)(N:qw S fs ps y<|CT S fs ps y)(nd:ps.Nodup)(s:`ps<=2)(t:∀p∈ps,U8 S p=Eg)(q:U4 y=Eg)(k:∀H',Off fp H H'->xr P w K C D H' b a h fp (CT S fs ps y).1 hs->Q (.str (CT S fs ps y).2) H'):tZ P w K C [.ref a,.ref c,.ref l,.str y] H Q E:=by
 let z:wt fs<=16:=by have:=g.wt;lia
 let:=#[a,c,l,fp,S,fs,Dl,ps,y,Ej,B.sh,B.ok,n,r,j,g,⋯,hl,nd,s,t,q,⋯,λH' of sh=>?_];let#[u,f]:=N.more;let#[i,hb]:=B.ob;let:=k H' of #[#[i,of _ _ B.nb hb],sh,of _ _ B.nh B.hd,B.nb,B.nh,N.ok,B.nd,λp o v e=>by rw[f];let:=qC<|B.hv p o v e]
def eQ:(Dj):=[(["qqqqqqqq"],["extra"])]
def exG:yw 4 eQ:=#[λf b=>by rw[ZC.mp b];trivial,by trivial,λf b k hk t e=>by rw[ZC.mp b,ZC.mp hk]at e;let:=V6<|e.symm.trans (Yi _).symm]
noncomputable def m4(S:Dh):List En×Str:=CT S eQ [] "extra"
noncomputable def m5(zs:List Zr)(S:Dh)(b y:Str):List En×Str:=CT (m4 S).1 (CY Sd.y zs) [b,(m4 S).2] y
def lq.swap{h':Er}(x:lq P w K C D H b a h fp S b' a' h' fp' S' hs):lq P w K C D H b' a' h' fp' S' b a h fp S hs:=#[x.y,x.x,λc e z=>x.dj c z e]
def gK{z:Zr}(Z:Zs pl py zs)(h:z∈zs):EU (dD z.2.d)=Eg:=by let hd:=λl e=>Z.ln (f:=Sd.due) h (by simp) (l:=l) e;unfold Sd.due at hd;cases e:z.2.d with|none=>let:=gL|some o=>rw[e]at hd;let:=AnS.wO λl e x b=>An12.oK<|(hd l e).2 x b
def Bz(d:Option<|Option By):EX (dD d) (.str "clash")=decide (d=Ee):=by cases d with|none=>rfl|some o=>cases o<;>rfl
def W5(h:46∉cs x):x∉S.map En.nm:=λz=>by let#[e,b,rfl]:=ZH.mp z;let:=h ?_;unfold En.nm;rw[zf,zf];let:=YB _<|Yb _<|ZC.mpr rfl
def Tq(h:46∉cs x):U8 S x=Ei:=by cases z:U8 S x with|false=>rfl|true=>let:=absurd (kE z)<|W5 h
def cj(hs:Hs):qS (bv hs)=Eg:=by
 let go:∀x,uH (PM hs x)=Eg:=λx=>by unfold PM;cases Xg hs x with|none=>rfl|some o=>cases o<;>rfl
 show(uH _&&(uH _&&Eg))=Eg;rw[go,go];rfl
def ON{H:Hp}{d t:Er}(n:H t=Ee)(h:t≠d):yj K (upd (upd H t<|.tup [.str "extra"]) d<|.dK [(.inr "qqqqqqqq",.ref t)]) eQ [(.inr "qqqqqqqq",.ref t)]:=by let:=#[congrArg _<|by rfl,λi f kv a b=>?_];cases i with|succ i=>cases a|zero=>cases a;cases b;let:=#[#[t,_,Ej,yq.of<|by rw[zH h,zD];rfl,zu.strs _],∅,by lk]
def hq{E:XK}{sp:Di->Hp->VK->XK->Prop}{H:Hp}{Q:VK}(h:∀Q':VK,(∀v H,Q v H->Q' v H)->sp vs H Q' E):sp vs H Q E:=h Q λ_ _ z=>z
def R0{t u:TS}{D:Ends}{b:St}{H:Hp}(R:St->Hp->Prop)(h1:∀N:St->Hp->Prop,(∀b H,R b H->N b H)->t {D with nx:=N} b H)(h2:∀σ' H',R σ' H'->u D σ' H'):eD t u D b H:=#[R,h1 R λ_ _ z=>z,h2]
def SL(sa l:Er)(y:Str)(b:Er)(f o v:Str)(c d e:Er)(r:List<|Option V):(St):=A0 (.ref sa)::A0 (.ref l)::A0 (.str y)::A0 (.ref b)::A0 (.str f)::A0 (.str o)::A0 (.str v)::A0 (.ref c)::A0 (.ref d)::A0 (.ref e)::r
namespace CJ
abbrev st:=top 105
def sc:zy ["_law_script","_law_rows","_law_words_here","_law_book","_law_first","_law_onto","_law_version","_law_beside","_law_stands","_law_names","_law_due","_law_some","_law_extra","_law_found","_law_told"] ["_law_script"]<|zF st:=CP
include T in
def ok(F:yd0 K "law" st f fd)(Zv:xu P w K mg dX 3 "_law_table" ["_law_script"]<|mV K)(Zw:xu P w K mg dX 1 "_law_words" ["_law_cell"] Po)(Qd:xu P w K mg dX 1 "_law_cell_at" ["_law_script","_law_k"]<|nY K)(QF:xu P w K mg dX 15 "_law_made" ["_law_rows","_law_words_here"]<|zzM P w K aC aD)(QG:Met P w K mg dX aD 1 "branches" ["self"]<|rA P w K aC aD)(Qh:Met P w K mg dX aC 1 "names" ["self"]<|ph P w K aC)(Qa:xu P w K mg dX 1 "_law_files" ["_law_rows","_law_at"]<|rH K)(Qg:xu P w K mg dX 18 "_law_carried" ["_law_book","_law_version","_law_onto"]<|zyO P w K aC aD b4 b5)(Qf:xu P w K mg dX 13 "noted" ["shelf","files","parents","words"]<|tZ P w K aC)(QA:xu P w K mg dX 17 "_law_is" ["_law_book","_law_name","_law_files_here","_law_parents","_law_words_here"]<|zxQ P w K aC aD)(Zx:xu P w K mg dX 14 "_law_named" ["_law_beside","_law_book","_law_name","_law_files_here","_law_parents","_law_words_here"]<|mK P w K aC aD)(Zy:xu P w K mg dX 19 "_law_first_good" ["_law_book","_law_rows","_law_first","_law_onto"]<|zwQ P w K aC aD):zj P w K mg dX CO 20 f fd ["_law_script"]<|lH K:=by
 let:=F.ok sc λ_ _ _ _ H vs Q E s h=>?_;let#[sa,ns,rfl,d7,Dq,kQ]:=h;let:=let X0:=_;let D0:=_;let u1:=_;let u2:=_;let u3:=_;let u4:=_;let u5:=_;let u6:=_;let u7:=_;let u8:=_;let u9:=_;let kt:=_;let ku:=_;let kv:=_;let kw:=_;let ky:=_;let k0:=_;let k5:=_;let k8:=_;let la:=_;let lf:=_;let lh:=_;let li:=_;let lj:=_;pZ X0 D0 (zC (u:=lj) (wS 1 sc.nd<|wc Zv s<|zA (pv 0) zB)<|zC (u:=li) (wS 2 sc.nd<|wc Zw s<|zA (wc Qd s<|zA (pv 0)<|zA zG zB) zB)<|zC (u:=lh) (Hq (wc QF s<|zA (pv 1)<|zA (pv 2) zB)<|jF rfl<|zT (wN 3 sc.nd)<|zT (wN 4 sc.nd)<|zT (wN 5 sc.nd)<|zT (wN 6 sc.nd) xO)<|zC (u:=lf) (wS 7 sc.nd<|wI K (wc QF s<|zA (pv 1)<|zA (pv 2) zB) zG)<|zC (u:=la) (wS 8 sc.nd<|qL (pv 7) T.xg QG s.m)<|xR (u:=k8) (wS 9 sc.nd<|zY xX (by rfl) T.list JA<|zA (qL (yE (pv 7) rfl) T.cls Qh s.m) zB)<|zC (u:=k5) (wS 10 sc.nd<|wL K (yD<|zA (pv 6)<|zA (pv 4) zB)<|zY PN (by rfl) T.int PyProof.Rows.boot_int<|zA (wC (Hl s.tU) (wc Qa s<|zA (pv 1)<|zA zG zB)<|wc Qa s<|zA (pv 1)<|zA zG zB) zB)<|xR (u:=k0) (zX (PW.pt<|kA (wT GJ (wc Qg s<|zA (pv 3)<|zA (pv 6)<|zA (pv 4) zB)<|pv 10)<|qO<|wT (G8 s.units) (qL (yE (pv 3) rfl) T.cls Qh s.m)<|pv 9) (zE<|zJ jS) zM)<|xR (u:=ky) (zX (t:=u4) (wT yK (zP xY (zP jH (wc Qd s<|zA (pv 0)<|zA zG zB) zG) zG) zG) (zC (u:=u3) (yQ (tb:=u2) EM rfl (kN<|zQ<|zA (pv 7)<|zA (pv 3) zB) (wN 11 sc.nd)<|zC (u:=u1) (wS 12 sc.nd<|wc Qf s<|zA (yE (pv 11) rfl)<|zA (ar (TU zK (zQ<|zA zK zB) aI) rfl rfl (by simp)<|∅)<|zA (yD zB)<|zA zK zB)<|zE<|wS 6 sc.nd<|wc Qf s<|zA (yE (pv 11) rfl)<|zA (wc Qa s<|zA (pv 1)<|zA zG zB)<|zA (yD<|zA (pv 4)<|zA (pv 12) zB)<|zA (pv 2) zB)<|zE<|wS 9 sc.nd<|zY xX (by rfl) T.list JA<|zA (qL (yE (pv 7) rfl) T.cls Qh s.m) zB) zM)<|xR (u:=kw) (wS 13 sc.nd<|wc Qg s<|zA (pv 3)<|zA (pv 6)<|zA (pv 5) zB)<|xR (u:=kv) (zX (t:=u8) (u:=u9) (wT (dk s.tU) (yS (sc:=zF st) (N:=["_law_script","_law_rows","_law_words_here","_law_book","_law_first","_law_onto","_law_version","_law_beside","_law_stands","_law_names","_law_due","_law_some","_law_extra","_law_found","_law_told"]) (N':=["_law_row"]) (src:=[Ee]) .a rfl rfl rfl (yN<|pv 1) (λ_ _ _ _=>wN 0 n1) (λ_ _ _ _=>Od<|wT (ai (K:=K) s.units) (wI K (pv 0) zG) zK) λ_ _ _ _=>pv 0)<|yD zB) (zE<|zX (PW.pt<|kA (wT GJ (pv 13) zK)<|qO<|wT (G8 s.units) (qL (yE (pv 3) rfl) T.cls Qh s.m)<|pv 9) (zE<|zJ jS) zM)<|zE<|zX (u:=u7) (wT (Hl s.tU) (wc Qa s<|zA (pv 1)<|zA zG zB)<|wc Qa s<|zA (pv 1)<|zA zG zB) (zE<|zX (wT GJ (pv 13)<|pv 5) (zE<|zJ jS) zM)<|zE<|zX (u:=u6) (yR<|zU (K:=K)<|wc QA s<|zA (pv 3)<|zA (pv 13)<|zA (wc Qa s<|zA (pv 1)<|zA zG zB)<|zA (yD<|zA (pv 5) zB)<|zA (pv 2) zB) (zE<|zJ jS)<|zE<|zX (u:=u5) (yR<|zU (K:=K)<|wc Zx s<|zA (pv 7)<|zA (pv 3)<|zA (pv 13)<|zA (wc Qa s<|zA (pv 1)<|zA zG zB)<|zA (yD<|zA (pv 5) zB)<|zA (pv 2) zB) (zE<|zJ jS)<|zE<|zX (wT GJ (wc Qg s<|zA (pv 3)<|zA (pv 6)<|zA (pv 13) zB)<|pv 13) (zE<|zJ jS) zM)<|zC (u:=ku) (wS 14 sc.nd<|yD<|zA (wc Qg s<|zA (pv 3)<|zA zK<|zA (pv 5) zB)<|zA (wc Qg s<|zA (pv 3)<|zA (pv 6)<|zA zK zB) zB)<|zC (u:=kt) (zS<|xV Z1 Yn Yo yJ (pv 14)<|zA (wc Qg s<|zA (pv 3)<|zA (wL K (pv 9) zG)<|zA (pv 5) zB) zB)<|zC (zX (PW.pt<|kA (wT (G8 s.units) (pv 14)<|zP N8 (yD<|zA zK zB) zG)<|qO<|yR<|zU (K:=K)<|wc Zy s<|zA (pv 3)<|zA (pv 1)<|zA (pv 4)<|zA (pv 5) zB) (zE<|zJ jS) zM)<|zE<|zJ<|wC (kR s.units) (qL (pv 3) T.xg QG s.m)<|pv 8) ?_;let:=dW λN hN=>#[sa,ns,Ej,d7,λl us pl py j H1 s1 nl hl dt Z zl=>zR<|nS hN λN hN=>?_];let R1:Rws K H1 l pl py j:=#[#[us,hl,dt],Z,zl];let:=#[sa,ns,6,Ej,s1.seq d7,∅,λc6=>#[c6,Ej,λy H2 s2 ly=>zR<|nS hN λN hN=>?_]];let R2:=R1.same s2;let M:=Z.md ly;let#[v1,v2,v3]:=M.vfs Z;let h2:=fV M Z;let l3:=M.l3;let:=#[l,pl,py,j,y,Ej,R2,ly,λp1 b a h fp H3 s3 ih gc B3=>#[p1,_,Ej,yq.of gc,Ej,_,_,Ej,_,_,Ej,_,_,Ej,_,_,Ej,Ej,nS hN λN hN=>?_]];let:=#[l,pl,py,j,y,Ej,R2.same s3,ly,λp2 b' a' h' J H4 s4 fm ge B4=>#[p2,_,_,_,Ej,Ej,yq.of ge,Ej,zR<|nS hN λN hN=>?_]];let BB:lq P w K aC aD H4 b a h fp (m3 j y).1 b' a' h' J (m3 j y).1<|eR j y:=#[B3.same s4,B4,λc hc z=>by
  have:=fm c z;rcases ZJ.mp hc with rfl|hc;.let#[dx,hb]:=B3.ob;rw[hb]at this;cases this
  rcases ZJ.mp hc with rfl|hc;.rw[B3.hd]at this;cases this
  .let#[o,eo]:=B3.sh.ex c hc;rw[eo]at this;cases this];let#[hy,f0]:=BB.y.ob;let:=#[b',hy,_,Ej,f0,Ej,b',a',h',J,_,_,Ej,BB.y,show 2<60 by decide,λls ss xs H5 s5 km f7 pm so dts=>zR<|hN _ _ ?_];cases gP h2 pm so;let dc:=BB.same s5;let#[h0,a9]:=dc.y.ob;let#[ix,i1,i2,i3,ad]:=jE dc.y.sh;let:=R0 (λX G=>∃ln,X=SL sa l y b (m1 j).2 (m2 j).2 (m3 j y).2 b' ls ln [Ee,Ee,Ee,Ee,Ee]/\Lw P w K aC aD G sa l ls ln ns pl py j b a h fp (m3 j y).1 b' a' h' J (m3 j y).1 (m3 j y).1 (eR j y)) (λN hN=>?_) ?_;.let:=#[b',aD,h0,_,_,Ej,a9,T.xg,T.m1,Ej,a',ix,_,Ej,ad,Ej,a',J,_,Ej,dc.y.sh,λq6 n6=>nw n6 λH6 s6 h6=>#[q6,_,Ej,.inl<|yp.of h6,λln n7=>nw n7 λH7 s7 h7=>zR<|hN _ _ #[ln,Ej,?_]]];let e8:=s5.trans<|s6.trans s7;let:=#[BB.same e8,(R2.same<|s3.trans s4).same e8,(s1.trans<|s2.trans<|s3.trans<|s4.trans e8).seq d7,#[xs,(s6.trans s7) _ _ f7,zu.same (s6.trans s7) _ _ dts],h7,h2]
 rintro l5 H7 ⟨ln,rfl,L7⟩;let U:=M.k3.ok;let hd:=M.hd;let d8:=M.k3.nt;clear s1 s2 s3 s4 s5 R1 R2 hl dt gc ge B3 B4 ih fm BB dc f0 a9 f7 pm so dts km ad nl d7;generalize eR j y=hs at L7 h2;generalize eS:(m3 j y).1=S at L7 v1 v2 v3 l3 U hd d8;generalize(m1 j).2=D at v1 v2 v3 d8 ⊢;generalize(m2 j).2=on at v2 ⊢;generalize(m3 j y).2=ve at v3 d8 ⊢;let#[gb,lb,eb,sb]:=Z.good (f:=Sd.b) (by simp);let#[gy,d9,ey,sy]:=Z.lg;let:=#[UY 2,λq8 n8=>nw n8 λH8 s8 h8=>?_];let L8:=L7.same s8;let#[lk,f2,ff]:=L8.R.dt;let:=#[l,lk,pl,py,j,3,Ej,f2,ff,Z,zl,by simp,λc9 k9 H9 s9 n9 h9 f9=>?_];let L9:=L8.same s9;let#[ll,f4,fk]:=L9.R.dt;let:=#[l,ll,pl,py,j,1,Ej,f4,fk,Z,zl,by simp,λlp kc hh cv ke fn dp=>?_];let f9:yj K H9 (CY Sd.y j) k9:=f9;let dp:yj K hh (CY Sd.b j) kc:=dp;let:=sV.eq (cv _ _ h9) fn #[_,f9.same cv,gy,d9,ey] #[_,dp,gb,lb,eb] λr an=>?_;let:=.inr #[r,Ej,q8,_,_,.str<|if r=Eg then D else ve,Ej,Ej,yp.of<|(s9.trans cv) _ _ h8,by cases r<;>rfl,zR ?_];let dj:=L9.same cv;clear L7 L8 L9 h8 h9 fn f9 dp s8 s9 cv n8 n9 ke f2 ff f4 fk;let:=R0 (λX G=>X=SL sa l y b D on ve b' ls ln [A0<|.str<|if r=Eg then D else ve,Ee,Ee,Ee,Ee]/\Lw P w K aC aD G sa l ls ln ns pl py j b a h fp S b' a' h' J S S hs) (λN hN=>?_) ?_
 .let#[jn,cl]:=Z.j1;let:=hq (sp:=zyO P w K aC aD b4 b5) λQ hQ=>?_;let:=#[b,a,h,fp,S,hs,ve,D,Ej,dj.B.x,⋯,λz=>(by rw[v3.note]at z;cases z),λ_=>#[col Sd.b j,col Sd.y j,[D],y,v3,#[[],"base",v1],ly,λz=>(by rw[v1.note]at z;cases z),λ_=>#[col Sd.b j,[],"base",_,v1,jn,λz=>(z.not cl).elim,.inr #[_,cl],λ_ _ eq e9 kr=>?_,λ_ _ ne S' n e9 kf gk g6=>?_]]];.let:=hQ _ _ ?_;rw[Z4<|an.mpr eq];let A:=dj.same kr;let#[dx,hb]:=A.B.x.ob;let#[ix,i1,i2,i3,ad]:=jE A.B.x.sh;let:=#[Ej,Ei,congrArg V.bl<|by rw[ZK rfl];rfl,UZ #[b,aD,dx,_,_,Ej,hb,T.xg,T.m1,Ej,a,ix,_,Ej,ad,Ej,a,fp,S,Ej,A.B.x.sh,λq n=>nw n λef ap a8=>?_]];let:=pK.mk (v:=V.ref ln) rfl ?_;let:=Hd U a8 (ap _ _ A.nm) ?_;let:=#[_,Ej,UZ<|hN _ _ #[by rw[Z4<|an.mpr eq];rfl,A.same ap]]
  .let er:r=Ei:=by cases r with|false=>rfl|true=>let:=absurd (an.mp rfl) ne
   subst er;let#[rfl,rfl]:=kf.here v3;let A:=dj.one gk g6;let#[dx,hb]:=A.B.x.ob;let#[ix,i1,i2,i3,ad]:=jE A.B.x.sh;let:=hQ _ _ #[Ej,Ei,congrArg V.bl<|by rw[ZK<|by rfl];rfl,UZ #[b,aD,dx,_,_,Ej,hb,T.xg,T.m1,Ej,a,ix,_,Ej,ad,Ej,a,fp,_,Ej,A.B.x.sh,λq n=>nw n λef ap a8=>?_]];let:=pK.mk (v:=V.ref ln) rfl ?_;let:=Hd U a8 (ap _ _ A.nm) ?_;let:=#[_,Ej,UZ<|hN _ _ #[Ej,A.same ap]]
 rintro X e9 ⟨rfl,A⟩;clear dj an d8;let kx:qw S eQ [] "extra"<|m4 S:=IR U exG ∅ YM ∅ (λp hp=>nomatch hp) (by lk) (by have:wt eQ<=4:=exG.wt;lia);let lx:(m4 S).1.length<=72:=by have:=kx.len;have:wt eQ<=4:=exG.wt;lia
 let#[Tx,ex]:=kx.more;let ne:D≠(m4 S).2:=λz=>by let#[gs,t,nt,_]:=v1;have:=((kx.same nt).mp z).2.2;let:=absurd this<|by lk
 let ea:∀p∈[D,(m4 S).2],U8 (m4 S).1 p=Eg:=λp hp=>by
  rcases ZJ.mp hp with rfl|hp;.rw[ex];let:=qC v1.note
  .rw[ZC.mp hp];let:=kx.not
 let kz:qw (m4 S).1 (CY Sd.y j) [D,(m4 S).2] y<|m5 j S D y:=IR kx.ok gy ⋯ (by simp[ne]) (ZG 2) ea ly (by have:=gy.wt;lia);let lz:(m5 j S D y).1.length<=90:=by have:=kz.len;have:=gy.wt;lia
 let#[Tz,ez]:=kz.more;let:=R0 (λX G=>∃(v:Str)(S2:Dh)(ab:Er)(af ah:Option V)(q:By)(du:Str),X=SL sa l y b D on v b' ls ab [A0<|.str du,af,ah,Ee,Ee]/\Lw P w K aC aD G sa l ls ab ns pl py j b a h fp S2 b' a' h' J S2 S2 hs/\VF S2 v (col Sd.y j) (D::q) y/\VF S2 D (col Sd.b j) [] "base"/\VF S2 on (col Sd.m j) [D] "mine"/\`S2<=90/\wU S2/\∃e r u,S2=e::r/\At S2 e.nm u/\u.word≠"note") (λN hN=>?_) ?_
 .let:=#[sa,ns,2,Ej,A.sq,∅,λc2=>#[#[∅,∅],(∅:(0:Int)<3),Ej,_,Ej,U3 (λ_=>?_)<|λ_=>?_]]
  .let:=#[UY 2,λpt kq=>nw kq λef ap a8=>#[pt,Ej,#[_,yq.of a8],vU (K:=K) (a:=pt) (xs:=[.ref b',.ref b]) (λi σ G=>∃(v:Str)(af ah:Option V)(Sb a6:Dh),σ=SL sa l y b D on v b' ls ln [A0<|.str<|if r=Eg then D else ve,af,ah,Ee,Ee]/\yq K G pt [.ref b',.ref b]/\Lw P w K aC aD G sa l ls ln ns pl py j b a h fp Sb b' a' h' J a6 S hs/\(i=0/\Sb=S/\a6=S\/i=1/\Sb=S/\a6=(m5 j S D y).1\/i=2/\v=(m5 j S D y).2/\Sb=(m5 j S D y).1/\a6=(m5 j S D y).1)) ?_ ?_ ?_ ?_]];.let:=#[ve,Ee,Ee,S,S,Ej,yq.of a8,A.same ap,.inl #[Ej,Ej,Ej]]
   .rintro i σ G _ ⟨_,_,_,_,_,_,ht,_⟩;let:=ht
   .rintro i x σ G D' B' hx hD hB ⟨v,af,ah,Sb,a6,rfl,ht,L,cs⟩;rcases cs with⟨rfl,e1,e2⟩|⟨rfl,e1,e2⟩|⟨rfl,_⟩
    .cases hx;obtain rfl:=e1.symm;obtain rfl:=e2.symm;let#[dx,hb]:=L.B.y.ob;let:=hB #[b',aD,dx,_,_,Ej,hb,T.xg,T.m1,Ej,λd nd=>#[UY 1,λt nt=>?_]];let td:t≠d:=λz=>by rw[z,zD]at nt;cases nt
     let:=#[by rw[zH<|EG td,zD],[(.inr "qqqqqqqq",.ref t)],Ej,show 1<=15 by decide,?_];let s3:zx G<|upd (upd (upd G d<|.dK []) t<|.tup [.str "extra"]) d<|.dK [(.inr "qqqqqqqq",.ref t)]:=An.zx.qi ((zz nd).trans<|zz nt) nd;let h3:upd (upd (upd G d<|.dK []) t<|.tup [.str "extra"]) d (.dK [(.inr "qqqqqqqq",.ref t)]) d=A0 (.dK [(.inr "qqqqqqqq",.ref t)]):=zD;let f3:=ON (K:=K) nt td;let dn:d∉J:=λz=>L.B.y.fresh nd<|ZB _ z;show Xk _ _ _ (upd (upd (upd G d<|.dK []) t<|.tup [.str "extra"]) d<|.dK [(.inr "qqqqqqqq",.ref t)]) _;generalize upd (upd (upd G d<|.dK []) t<|.tup [.str "extra"]) d (.dK [(.inr "qqqqqqqq",.ref t)])=H3 at s3 h3 f3 ⊢;let:=#[Yk _,λl4 n4=>nw n4 λH4 s4 h4=>?_];let L4:=L.same<|s3.trans s4;let e0:=(s3.trans s4).yr ht;let:=IP (ps:=[]) L4.B.y ⋯ (s4 _ _ h3) dn (f3.same s4) exG ∅ (yp.of h4) kx YM ∅ (λp hp=>nomatch hp) (by lk) λH5 cr B5=>zR ?_;let B5:xr P w K aC aD H5 b' a' h' J (m4 S).1 hs:=B5;let L5:=L4.two cr B5;let e4:=uM L4.B.y.sh.wK.tup cr e0;let#[en,a9]:=L5.B.y.ob;let#[us,et,el]:=L5.R.dt;let:=#[b',aD,en,_,_,Ej,a9,T.xg,T.m1,Ej,l,us,pl,py,j,3,Ej,et,el,Z,zl,by simp,λc6 k6 H6 s6 n6 h6 f6=>#[UY 2,λl7 n7=>nw n7 λH7 s7 h7=>?_]];let f6:yj K H6 (CY Sd.y j) k6:=f6;let L7:=L5.same<|s6.trans s7;let e5:=(s6.trans s7).yr e4;let:=IP (ps:=[D,(m4 S).2]) L7.B.y ⋯ (s7 _ _ h6) (λz=>L5.B.y.fresh n6<|ZB _ z) (f6.same s7) gy d9 (yp.of h7) kz (by simp[ne]) (ZG 2) ea ly λH8 ct B8=>zR<|hD.nx _ _ #[_,_,_,S,(m5 j S D y).1,Ej,uM L7.B.y.sh.wK.tup ct e5,L7.two ct B8,.inr<|.inl #[Ej,Ej,Ej]]
    .cases hx;obtain rfl:=e1.symm;obtain rfl:=e2.symm;let#[dx,hb]:=L.B.x.ob;let:=hB #[b,aD,dx,_,_,Ej,hb,T.xg,T.m1,Ej,λd nd=>#[UY 1,λt nt=>?_]];let td:t≠d:=λz=>by rw[z,zD]at nt;cases nt
     let:=#[by rw[zH<|EG td,zD],[(.inr "qqqqqqqq",.ref t)],Ej,show 1<=15 by decide,?_];let s3:zx G<|upd (upd (upd G d<|.dK []) t<|.tup [.str "extra"]) d<|.dK [(.inr "qqqqqqqq",.ref t)]:=An.zx.qi ((zz nd).trans<|zz nt) nd;let h3:upd (upd (upd G d<|.dK []) t<|.tup [.str "extra"]) d (.dK [(.inr "qqqqqqqq",.ref t)]) d=A0 (.dK [(.inr "qqqqqqqq",.ref t)]):=zD;let f3:=ON (K:=K) nt td;let dn:d∉fp:=λz=>L.B.x.fresh nd<|ZB _ z;show Xk _ _ _ (upd (upd (upd G d<|.dK []) t<|.tup [.str "extra"]) d<|.dK [(.inr "qqqqqqqq",.ref t)]) _;generalize upd (upd (upd G d<|.dK []) t<|.tup [.str "extra"]) d (.dK [(.inr "qqqqqqqq",.ref t)])=H3 at s3 h3 f3 ⊢;let:=#[Yk _,λl4 n4=>nw n4 λH4 s4 h4=>?_];let L4:=L.same<|s3.trans s4;let e0:=(s3.trans s4).yr ht;let:=IP (ps:=[]) L4.B.x ⋯ (s4 _ _ h3) dn (f3.same s4) exG ∅ (yp.of h4) kx YM ∅ (λp hp=>nomatch hp) (by lk) λH5 cr B5=>zR ?_;let B5:xr P w K aC aD H5 b a h fp (m4 S).1 hs:=B5;let L5:=L4.one cr B5;let e4:=uM L4.B.x.sh.wK.tup cr e0;let#[en,a9]:=L5.B.x.ob;let#[us,et,el]:=L5.R.dt;let:=#[b,aD,en,_,_,Ej,a9,T.xg,T.m1,Ej,l,us,pl,py,j,3,Ej,et,el,Z,zl,by simp,λc6 k6 H6 s6 n6 h6 f6=>#[UY 2,λl7 n7=>nw n7 λH7 s7 h7=>?_]];let f6:yj K H6 (CY Sd.y j) k6:=f6;let L7:=L5.same<|s6.trans s7;let e5:=(s6.trans s7).yr e4;let:=IP (ps:=[D,(m4 S).2]) L7.B.x ⋯ (s7 _ _ h6) (λz=>L5.B.x.fresh n6<|ZB _ z) (f6.same s7) gy d9 (yp.of h7) kz (by simp[ne]) (ZG 2) ea ly λH8 ct B8=>zR<|hD.nx _ _ #[_,_,_,(m5 j S D y).1,(m5 j S D y).1,Ej,uM L7.B.x.sh.wK.tup ct e5,L7.one ct B8,.inr<|.inr #[Ej,Ej,Ej,Ej]]
    .cases hx
   .rintro σ G ⟨v,af,ah,Sb,a6,rfl,ht,L,cs⟩;rcases cs with⟨z,_⟩|⟨z,_⟩|⟨_,rfl,rfl,rfl⟩;.cases z
    .cases z
    let#[dx,hb]:=L.B.y.ob;let#[ix,i1,i2,i3,ad]:=jE L.B.y.sh;let:=#[b',aD,dx,_,_,Ej,hb,T.xg,T.m1,Ej,a',ix,_,Ej,ad,Ej,a',J,_,Ej,L.B.y.sh,λq6 n6=>nw n6 λH6 s6 h6=>#[q6,_,Ej,.inl<|yp.of h6,λab n7=>nw n7 λH7 s7 h7=>zR ?_]];let L7:=L.same<|s6.trans s7;let ch:=v1.more (T:=Tx) U<|ex▸kx.ok;let co:=v2.more (T:=Tx) U<|ex▸kx.ok;rw[<-ex]at ch co;let ch:=ch.more (T:=Tz) kx.ok<|ez▸kz.ok;let co:=co.more (T:=Tz) kx.ok<|ez▸kz.ok;rw[<-ez]at ch co;let#[eh,rh,uh,e1,e2,e3]:=hd;let:=hN _ _ #[_,_,ab,af,ah,[(m4 S).2],_,Ej,#[L7.B,L7.R,L7.sq,L7.st,h7,L7.h2],kz.vf gy d9 ey,ch,co,lz,kz.ok,eh,rh++Tx++Tz,uh,by rw[ez,ex,e1];simp,by rw[ez,ex];let:=e2.more.more,e3]
  .let:=hN _ _ #[ve,S,ln,Ee,Ee,[],_,Ej,A,v3,v1,v2,⋯,U,hd]
 rintro X ef ⟨v,S2,ab,af,ah,q,du,rfl,bm,vv,vf,vo,lu,ok2,i0⟩;clear kx lx ex ne ea kz lz ez A v1 v2 v3 l3 U hd;let#[jn,cz,cl]:=Z.j2;let:=R0 (λX G=>∃(fo:Str)(S3:Dh),X=SL sa l y b D on v b' ls ab [A0<|.str du,af,ah,A0<|.str fo,Ee]/\Lw P w K aC aD G sa l ls ab ns pl py j b a h fp S3 b' a' h' J S2 S2 hs/\((∃z∈j,z.2.d=Ee)/\fo="refused clash"/\S3=S2\/(∀z∈j,z.2.d≠Ee)/\(col Sd.due j=col Sd.m j/\fo=on/\S3=S2\/col Sd.due j≠col Sd.m j/\Kf S2 (col Sd.due j) [on] y S3 fo))) (λN hN=>?_) ?_
 .let cc:Cz (jA j)\/∃pl,Cl pl<|jA j:=by
   rcases Classical.em<|∃z∈j,z.2.d=Ee with cd|cd;.let:=.inl<|cz cd
   .let:=.inr #[pl,(cl λz hz e=>cd #[z,hz,e]).1]
  let al:∀{pq},Cl pq (jA j)->∀z∈j,z.2.d≠Ee:=λc z hz e=>(cz #[z,hz,e]).not c;let:=#[b,a,h,fp,S2,hs,v,on,Ej,bm.B.x,⋯,λz=>(by rw[vv.note]at z;cases z),λ_=>#[col Sd.b j,col Sd.y j,D::q,y,vv,#[[],"base",vf],ly,λz=>(by rw[vo.note]at z;cases z),λ_=>#[col Sd.m j,[D],"mine",jA j,vo,jn,λc de e6=>zR<|hN _ _ #[_,S2,Ej,bm.same e6,.inl #[?_,Ej,Ej]],cc,λpq c eq de e6=>zR<|hN _ _ #[on,S2,Ej,bm.same e6,.inr #[al c,.inl #[?_,Ej,Ej]]],λpq c ne S3 n de kf gl ha=>zR<|hN _ _ #[n,S3,Ej,bm.one gl ha,.inr #[al c,.inr #[?_,?_]]]]]];.let:=LD λcd=>c.not (cl λz hz e=>cd #[z,hz,e]).1
  .let:=(cl<|al c).2▸eq
  .let:=(cl<|al c).2▸ne
  .let:=(cl<|al c).2▸kf
 rintro X de ⟨fo,S3,rfl,dl,cs⟩;let ev:∃Tm,S3=S2++Tm/\wU S3/\`S3<=200:=by
  rcases cs with⟨_,_,rfl⟩|⟨_,⟨_,_,rfl⟩|⟨_,kf⟩⟩;.let:=#[[],(Yi _).symm,ok2,⋯]
  .let:=#[[],(Yi _).symm,ok2,⋯]
  .let#[fs,kp,g,l,_]:=kf;let#[Tm,e]:=kp.more;let:=#[Tm,e,kp.ok,by let e:`S3<=`S2+2+wt fs:=kp.len;have:=g.wt;lia]
 let#[Tm,a7,U,l3]:=ev;let da:=vv.more (T:=Tm) ok2<|a7▸U;let ee:=vf.more (T:=Tm) ok2<|a7▸U;let g5:=vo.more (T:=Tm) ok2<|a7▸U;rw[<-a7]at da ee g5;let#[us,a3,a2]:=dl.R.dt;let ul:`us=`j:=by have:=`a2;rw[ZA]at this;let:=this
 let:=R0 (λX G=>∃(S4:Dh),X=SL sa l y b D on v b' ls ab [A0<|.str du,af,ah,A0<|.str fo,Ee]/\Lw P w K aC aD G sa l ls ab ns pl py j b a h fp S3 b' a' h' J S4 S2 hs) (λN hN=>?_) ?_
 .let:=#[l,Ej,#[_,yp.of a3],BK (K:=K) (a:=l) (xs:=us) (λi ys σ G=>∃o,σ=[o]/\zx de G/\`ys<=i/\(ys=[]↔∀z∈j.take i,z.2.d≠Ee)) #[Ee,Ej,zx.refl _,ZG _,λ_ z hz=>(nomatch hz),λ_=>rfl] (zr<|⋯) ?_ ?_ ?_];.rintro i ys σ G hi ⟨o,rfl,e,yl,_⟩;let:=#[yp.of<|e _ _ a3,yl]
  .rintro i x ys σ G hx ⟨o,rfl,e,yl,cf⟩;let#[d,e1,dv]:=(zu.same e _ _ a2).get hx;rw[ZN]at e1;let#[z,hz,rfl]:=Z2.mp e1;let#[q',vb,vm,vy,vd,rfl,hq,db,dm,dy,dd]:=Wv dv;let zm:=ZI hz;let:=zR #[q',_,_,_,Ej,Ej,hq,Ej,_,.str "clash",dd,Ej,gK Z zm,gL,_,Ej,U3 (λc=>?_)<|λc=>?_];.rw[Bz]at c;let:=#[_,Ej,e,by rw[ZS];let:=Vo yl,λz=>by simp at z,λa=>absurd (ZT c)<|a z ?_];rw[xf hz];let:=Yb _<|ZC.mpr rfl
   .rw[Bz]at c;let:=#[_,Ej,e,Nat.le_succ_of_le yl,?_];rw[cf,xf hz];let:=#[λa=>kW a λz=>c<|ZK z,λa z hz=>a z<|YB _ hz]
  .rintro ys σ G ⟨o,rfl,e,yl,cf⟩ p np;rw[ul,Yg]at cf;let:=nw np λhj gv ft=>#[Yk _,λp2 gg=>nw gg λhk cx fv=>#[p,p2,ys,Ej,Ej,yp.of<|cx _ _ ft,yp.of fv,_,Ej,?_]];let Y:=dl.same<|e.trans<|gv.trans cx;clear gv ft cx fv np gg a3 a2 dl e;let#[gd,ld,ed,sd]:=Z.good (f:=Sd.due) (by simp);let#[gm,lm,em,sm]:=Z.good (f:=Sd.m) (by simp);let lv:Ez on=Eg:=by let#[e,he,rfl]:=ZH.mp<|kE<|show z7 S2 on ["note"]=Eg from vo.note;let:=(ok2.nm he).2
   let fr:∀{H:Hp}{c:Er}{b1 a1 h1:Er}{f1:Dc}{T:Dh},xr P w K aC aD H b1 a1 h1 f1 T hs->H c=Ee->c∉f1:=λB n z=>B.fresh n<|ZB _ z;rcases cs with⟨cd,rfl,rfl⟩|⟨cd,cs⟩;.let yn:ys≠[]:=λz=>let ⟨w,hw,ew⟩:=cd;(cf.mp z) w hw ew;rw[ZZ yn];let#[dx,hb]:=Y.B.x.ob;let#[ix,i1,i2,i3,ad]:=jE Y.B.x.sh;let:=U1 #[Ej,Ei,congrArg V.bl<|by rw[ZK rfl];rfl,UZ #[b,aD,dx,_,_,Ej,hb,T.xg,T.m1,Ej,a,ix,_,Ej,ad,Ej,a,fp,_,Ej,Y.B.x.sh,λq1 n1=>nw n1 λdi as d5=>?_]];let:=pK.mk (v:=V.ref ab) rfl ?_;let:=Hd ok2 d5 (as _ _ Y.nm) ?_;let:=#[_,Ej,UZ<|hN _ _ #[_,Ej,Y.same as]]
   .rw[ZK<|cf.mpr cd];let#[u1,g1,d1]:=Y.R.dt;let:=UZ #[l,u1,pl,py,j,4,Ej,g1,d1,Z,zl,by simp,λc1 k1 di as ki d5 dr=>?_];let a4:=Y.same as;let#[u2,g2,d2]:=a4.R.dt;let:=#[l,u2,pl,py,j,2,Ej,g2,d2,Z,zl,by simp,λc2 k2 eg ay kj bo ds=>?_];let dr:yj K di (CY Sd.due j) k1:=dr;let ds:yj K eg (CY Sd.m j) k2:=ds;let:=sV.eq (ay _ _ d5) bo #[_,dr.same ay,gd,ld,ed] #[_,ds,gm,lm,em] λr an=>#[_,Ej,?_];let am:=a4.same ay;clear Y a4 dr ds d5 bo ki kj as ay g1 d1 g2 d2;rcases cs with⟨eq,rfl,rfl⟩|⟨ne,kf⟩;.rw[an.mpr eq];let:=U1 #[Ej,Ei,congrArg V.bl<|by rw[ZK rfl];rfl,UZ<|hN _ _ #[_,Ej,am]]
    .let er:r=Ei:=by cases r with|false=>rfl|true=>let:=absurd (an.mp rfl) ne
     subst er;let#[u3,g3,d3]:=am.R.dt;let:=UZ #[l,u3,pl,py,j,4,Ej,g3,d3,Z,zl,by simp,λc3 k3 be c0 kk fy dz=>#[UY 1,λl9 n9=>nw n9 λhm a0 ca=>?_]];let dz:yj K be (CY Sd.due j) k3:=dz;let a5:=am.same<|c0.trans a0;let:=#[b,a,h,fp,S3,hs,fo,c3,l9,k3,col Sd.due j,[on],y,Ej,a5.B.x,kf.vf,a0 _ _ fy,#[_,dz.same a0,gd,ld,ed],yp.of ca,λp hp=>by rwa[ZC.mp hp],λhn c8=>#[Eg,Ej,UZ ?_]];let ej:=a5.same c8;clear am a5 dz fy ca kk n9 c0 a0 c8 g3 d3;let#[u4,g4,d4]:=ej.R.dt;let:=#[l,u4,pl,py,j,4,Ej,g4,d4,Z,zl,by simp,λc4 k4 fa ec kl es ep=>#[UY 1,λl0 n0=>nw n0 λho e7 iv=>?_]];let ep:yj K fa (CY Sd.due j) k4:=ep;let ac:=ej.same<|ec.trans e7;let:=#[b',a',h',b,a,h,J,fp,S2,S3,hs,fo,c4,l0,k4,col Sd.due j,pl,[on],y,Ej,ac.B.swap,⋯,kf,e7 _ _ es,fr ej.B.y kl,#[_,ep.same e7,gd,ld,ed],Z.p4,sd,yp.of iv,by simp,show 1<=2 by decide,λp hp=>by rw[ZC.mp hp];let:=vo.note,ly,λhu hg gt=>#[Eg,Ej,UZ ?_]];let fb:=ac.two gt hg.x;let gf:=kf.vf;let#[kb,fe]:=Z.j3 cd;let:=#[b,a,h,fp,S3,hs,v,fo,Ej,fb.B.x,⋯,λz=>(by rw[da.note]at z;cases z),λ_=>#[col Sd.b j,col Sd.y j,D::q,y,da,#[[],"base",ee],ly,λz=>(by rw[gf.note]at z;cases z),λ_=>#[col Sd.due j,[on],y,_,gf,kb,λz=>(z.not fe).elim,.inr #[_,fe],λ_ _ _ lo ks=>?_,λ_ _ ne=>(ne rfl).elim]]];let:=#[Ej,Ei,congrArg V.bl<|by rw[ZK rfl];rfl,UZ<|hN _ _ #[_,Ej,fb.same ks]]
 rintro X hj ⟨S4,rfl,ei⟩;let#[eh,rh,uh,h5,hv,wh]:=i0;let ko:U8 S3 eh.nm=Ei:=Hh U (by rw[a7];let:=hv.more) wh;clear cs jn cz cl a7 vv vf vo bm dl a3 a2;let:=#[b,a,h,fp,S3,hs,"nosuch",on,Ej,ei.B.x,⋯,λ_ hk cx=>?_,λz=>by rw[Tq<|by lk]at z;cases z];let Y:=ei.same cx;let:=#[b,a,h,fp,S3,hs,v,"",Ej,Y.B.x,⋯,λz=>(by rw[da.note]at z;cases z),λ_=>#[col Sd.b j,col Sd.y j,D::q,y,da,#[[],"base",ee],ly,λ_ di as=>?_,λz=>by rw[Tq<|by lk]at z;cases z]];let a4:=Y.same as;let:=#[UY 2,λlt nt=>nw nt λeg ay bo=>zR ?_];let am:=a4.same ay;let ga:yp K eg ab<|S2.map λe=>V.str e.nm:=yp.of am.nm;let:=#[.inl #[Ej,_,yp.of bo],ab,_,_,.str eh.nm,Ej,Ej,ga,by rw[h5];let:=GV _ _,?_];let:=#[b,a,h,fp,S3,hs,eh.nm,on,Ej,am.B.x,⋯,λ_ be c0=>?_,λz=>by rw[ko]at z;cases z];let:=#[lt,_,_,Ej,Ej,c0 _ _ bo,yM<|∅,?_];let a0:zx di<|upd be lt<|.lst<|[V.str "refused version",V.str "refused version"]++[V.str "refused version"]:=An.zx.qi (ay.trans c0) nt;let ca:upd be lt (.lst<|[V.str "refused version",V.str "refused version"]++[V.str "refused version"]) lt=A0 (.lst<|(["refused version","refused version","refused version"]:By).map V.str):=zD;let a5:=a4.same a0;clear ei Y am ga;generalize upd be lt (.lst<|[V.str "refused version",V.str "refused version"]++[V.str "refused version"])=hm at a0 ca a5 ⊢;let:=#[UY 1,λp1 n1=>nw n1 λhn c8 it=>#[p1,3,_,Ej,Ej,it,∅,∅,zr<|∅,λp2 n2=>nw n2 λfa ec es=>?_]];let g0:EU (.list<|(["refused version","refused version","refused version"]:By).map E9)=Eg:=(xM<|by lk).1;let:=#[.list<|(["refused version","refused version","refused version"]:By).map .str,.list<|(["refused version","refused version","refused version"]:By).map .str,#[lt,_,Ej,yp.of<|(c8.trans ec) _ _ ca,zu.strs _],#[p2,_,Ej,yp.of es,zu.strs (["refused version","refused version","refused version"]:By)],g0,g0,Ei,congrArg V.bl<|by lk,UZ ?_];let ek:=a5.same<|c8.trans ec;let:=#[b,a,h,fp,S3,hs,l,pl,py,j,D,on,_,_,Ej,ek.B.x,⋯,ek.R,ee,g5,λS5 ho gp hf=>#[Eg,Ej,UZ ?_]];let ac:=ek.one gp hf;let#[dx,hb]:=ac.B.x.ob;let#[l1,f8,fl]:=ac.st;let ka:`hs<60:=by have:=congrArg List.length ac.h2.nm;rw[ZA]at this;rw[this];decide
 let:=#[b,dx,_,Ej,hb,Ej,b,a,h,fp,S5,hs,Ej,ac.B.x,ka,λkd lw l2 hu gx lr iy pm so dy=>?_];cases gP ac.h2 pm so;let:=#[.list<|bv hs,.list<|bv hs,#[kd,_,Ej,yp.of iy,dy],#[ls,_,Ej,yp.of<|gx _ _ f8,zu.same gx _ _ fl],ac.h2.br.2,ac.h2.br.2,?_];rw[show EX (.list<|bv hs) (.list<|bv hs)=Eg from XU _<|cj hs];let:=kQ _
end CJ
end
end An25
universe tw16211392405733337768 tw8844746109772813189 tw1060479486020450939 tw2526882680129436344 tw14682110232741939668 tw788037541031791062 tw11109989345678192798 tw17788231237910035512 tw17580713526094760832 tw5091564975914622094 tw14905225621250960749 tw10293945527369296388 tw7034486022464804193 tw1052661370246729520 tw8432060358711731171 tw14283962686505396015 tw14858717683345012628 tw332981692889997773 tw11289487224988488681 tw6611265798717864108 tw14916122203455058389 tw13781434827162396921 tw7990028230482822904 tw8449339521179666253 tw9805082055612469432 tw16711913402738022163 tw7214941682397139824 tw1658034528726406504 tw11561025305993503574 tw2538028261190694043 tw8807670522283607407 tw15105984690089971975 tw199170756447615849 tw10866373836908919824 tw4529001800592082168 tw1902773070381042472 tw12964789685738875758 tw4685424583867907718 tw3405248474623407663 tw17740161411113931373 tw11423831023072694808 tw12557399525593262058 tw9378700949837003109 tw428577562460741722 tw9167958615197998580 tw7201957910981466752 tw3931983895768238069 tw12133643277011810690 tw11295623348738797257 tw5818239687637607742 tw755956110618237590 tw6034794909967660415 tw10499627705403694817 tw17593035518118866099 tw71252888859672165 tw13803766006211305737 tw6908735829462228247 tw10371856395446024546 tw9603148523143672601 tw6483572816969480727 tw14530212219414726697 tw8606473137768501177 tw10939952053091867072 tw7087602420561590020 tw3769141669722623631 tw9223194784149973050 tw1456882157451810613 tw17333545850728839849 tw2954142684138980853 tw3023678476032170106 tw18268087137964218244 tw45885219413250645 tw12463917144000335280 tw2789825721487394356 tw2996944657804089888 tw9258208371981473482 tw5943886363639386897 tw14611024228700039635 tw15608247186527633512 tw11177869587518434863 tw4866682488735961995 tw16301583378621898912 tw15760457052277744731 tw11978429436185713728 tw7874933428090405637 tw12521215203536228473 tw13467977913675242533 tw2785423368365765173 tw10995047612239923060 tw17177837738514042964 tw6183747698786309787 tw11419598302301423530 tw7177966286786713111 tw8687633283365589346 tw3367140577360989792 tw7886492468104390308 tw17189908008607988425 tw11805491213573120107 tw681375055449891303 tw14257040643794170468 tw2724894924478469132 tw14872753971788532347 tw10182162134973388085 tw7379818151889186665 tw4029009172851873938 tw11186559403673288989 tw6918790536571868392 tw8834742009466162833 tw13032675789596539255 tw8476019371892399012 tw2209211709747711534 tw18065431998512947472 tw3803837882023974564 tw15204338327363030521 tw16610431979756582735 tw13309150304219766787 tw173133953440140783 tw12270498888708225773 tw12746631613934019776 tw4570744675789120483 tw8894918009280973154 tw9662147365871789135 tw4835714397341851880 tw7497175875366829717 tw17816149144018222946 tw9121506472944579224 tw18326524907676595369 tw7232420093417861278 tw13586546113331754375 tw14707314938657353133 tw11840944324014295335 tw13487691205041972693 tw13560343914138588983 tw8492744234842327121 tw7183175022242159124 tw2902780509652368163 tw2388326017907437527 tw7514651688471319820 tw1458792225484171938 tw1132954173640723127 tw16323105656644827630 tw12189159938813397957 tw1392926686220795975 tw7865135875630441268 tw9971752146622954654 tw7552934070501532381 tw17900732042904518496 tw11912297777414238464 tw2987485030962615338 tw8567967204111763514 tw11109977936544045884 tw10841206097558868732 tw10921144884671674344 tw5716855888447236736 tw13179229893136890250 tw11269013442773126110 tw15900090379137219485 tw15813590991221832113 tw2675959522854276722 tw1171446103045785090 tw6020848827353652050 tw950137749692414602 tw8623806668691970470 tw6864687583068242686 tw7305689253319679201 tw5873266062259037156 tw18193557225816206685 tw10962969015617363028 tw2977767059274105795 tw1128778678757191444 tw17504069615054167979 tw17961527012784660474 tw2576229547144813271 tw1438733406710698750 tw17722957994607493707 tw17137176938133036040 tw5841525596443469445 tw6027752782936077529 tw1095709209701041425 tw7858709333936445482 tw6415931475357474980 tw4036659478517505204 tw9871703219517313777 tw5064579492312712313 tw17754642382739178044 tw11618321313601355904 tw1394721722725327772 tw11782573046992869816 tw8681007122855969940 tw16094868605136263881 tw4296066445289931417 tw6349021436487098782 tw11721266915493332824 tw2902569391572130313 tw5153251842789859958 tw10448166271002865741 tw14824578539757660156 tw897282150541677332 tw4005666129650065712 tw18402511460385922449 tw602368489482918013 tw16855330644421061632 tw4514070881052570208 tw3948204211073923205 tw15046144982415502744 tw4792532256023025462 tw1644104031072423580 tw9182865510506220545 tw8961579269310356977 tw5413915046671867611 tw8769723239555116766 tw1269254823568687856 tw4109302558517314336 tw4854430663585802210 tw17414489032814430022 tw9983000945183034276 tw13424924540293154191 tw7554484692774068633 tw14362020554555453981 tw6588518395505635208 tw14598745646269747559 tw14597582865885639006 tw2593209092334157525 tw6885957252809710411 tw1042217717347854662 tw12200224137059844755 tw8704520909891824561 tw13801518847099504673 tw15834549746652157900 tw10614566776170608437 tw1875419681319642475 tw14332508626218378402 tw541620798569039522 tw1263115502954141755 tw18437453845735428899 tw12465119689888710232 tw5989977974866871003 tw1415725604264643997 tw16142967633780791337 tw1239050105817994617 tw622717144826530539 tw14483684697269823186 tw8073900530919502349 tw8116493280873855663 tw128162238681808397 tw7437236374072108635 tw8243707605687000123 tw5545262056916843108 tw13113941077352598153 tw14737809637395867492 tw1529938388083015842 tw6611845125263570100 tw15419500259442418157 tw3681077882661595242 tw17371157202199151938 tw9343855428193376124 tw8972410941855493305 tw15170298701963726572 tw17753563970017270381 tw8173483422946765090 tw17412927060348015286 tw14041195202452867015 tw4597810839407851763 tw1042178578863803999 tw8485382790060217298 tw5390434429946294870 tw7320037177622487359 tw7841123805323038898 tw16055491525868890201 tw4932695049730910537 tw532847161341118709 tw15391962919705589801 tw4506547448150038222 tw7626239796806421855 tw12338305756458838450 tw10952120000363761379 tw11728491279114194743 tw7432065679032715691 tw626452669996305476 tw15806482866881436214 tw8330369640609913513 tw9908861841456433781 tw9893307107631276245 tw11435643765851068323 tw7550254289492017787 tw870069311367651133 tw7211715360662897047 tw11895189405042479005 tw9301852498975607139 tw1306211267456091986 tw16683116107101059174 tw8383496012096604329 tw7542747411655832971 tw11470005716533632543 tw9874063519360003916 tw12770626122853151379 tw5132350467830234291 tw7286424103860191890 tw3558451992411770179 tw16891927203322939765 tw8740481748175490564 tw10731393563299027437 tw9792965931396288628 tw16516597158511121317 tw10252799914460564601 tw16090656678918718473 tw11811888431114537509 tw1061548213999345333 tw6641993582477246658 tw10922728470719272111 tw215095248763859905 tw11151304482787508770 tw16040472805723609130 tw8024259319144419190 tw18066897372676686060 tw7406574134783357505 tw8628494936200571352 tw8735173642780171840 tw8613016267682154874 tw4148311154970600951 tw12380441627750111184 tw1675016968433251302 tw15208689438348958431 tw14252623744337998442 tw18249579441871544232 tw12718022067776514725 tw2907450985090119574 tw3365558604232426585 tw14660208651150465115 tw13969491540921905326 tw7241280128648655382 tw7238815425845966395 tw2370124113043695762 tw4915068860200036170 tw17792837590860922847 tw7364027570919849492 tw5190074017351011055 tw7484323529235559867 tw1419669909253017307 tw4502065544919090540 tw4677278885766934101 tw6063717537603558648 tw1286139944383903318 tw10679835960129674862 tw15418067311498301525 tw213445104487308098 tw18150293036837320926 tw9971939086736855774 tw6803290044529676696 tw1069642766877364414 tw2795252949203790654 tw18227881761478347368 tw8289076446872227217 tw6028351933047692928 tw12915180164877024679 tw6316968765350046800 tw13134697564689259066 tw1880414895392446149 tw14149574337278363050 tw3791241901636243572 tw638008576953395284 tw13611832670431943393 tw452205907897847807 tw10680206516796022688 tw8409044521074480454 tw5703406012173156326 tw8619306827483626969 tw16501005830519289229 tw14169525597687257690 tw10844356317322412017 tw5991913686415969017 tw3538473591725868085 tw1560359586341201871 tw5257727248822719863 tw14813326925819514731 tw6612389953806858154 tw14143550416968992808 tw12144379875549919766 tw7262401960014931810 tw8600951889552444553 tw16449471377309808490 tw13127385035423060574 tw4519217370376012694 tw8645547512782971322 tw10862197907289597754 tw7591580849602807245 tw7107227525914132668 tw9990662512754396739 tw11768252791113776471 tw11231046761478528618 tw6004976233777327094 tw11613507591193705539 tw10943965839922795304 tw5512651518217443367 tw15616309340159265434 tw18141452844606866215 tw8704075384255539496 tw9017289723049980304 tw13601486672962278792 tw9712874898607456522 tw3278782367695132901 tw18106829899802137616 tw6167193687394110898 tw14417636273343819724 tw12517961677091449515 tw12311653293704692101 tw17193852438015184013 tw4187874129489730539 tw17298604932977883499 tw17063777115691953486 tw5878538123221711220 tw6183820429620076203 tw5708227934724026941 tw14929065725348007691 tw12471579780935152964 tw10213238628704520748 tw3934385881354914201 tw9807829251938917865 tw18026679682334805198 tw856683139490994612 tw10725778303744601488 tw11026049423832217453 tw1138198358508137106 tw4866018392136461679 tw4301172189985996821 tw4880433486629738888 tw1679455679414513176 tw8255768367471317563 tw13199648196194091320 tw15795039471250058216 tw4897596613867326868 tw5483724842319824043 tw3910045149583068147 tw1691897611555214706 tw14831616014819617773 tw16402193856295287238 tw15539790965723060474 tw14877330057157419799 tw9917533510468769128 tw14530774289974955260 tw12199358251000845430 tw15363348021494603545 tw13490958500487662883 tw11951639797519225564 tw15970885577094053181 tw2568529606245215333 tw1630957354890436123 tw11879531338394489347 tw2797124757931604760 tw7758699881608544020 tw16089355612657355966 tw9341912313178021194 tw2196904582136432100 tw14331318827280104660 tw17065502166710157490 tw12433746608473119790 tw16470205448426517653 tw1236546206094924841 tw678408545096404764 tw18203679201649374275 tw2436298997530882806 tw18314020852221898875 tw2710346777948348854 tw7209703699843885631 tw4763593808575350305 tw15546691481481279613 tw7447719360415970956 tw2558507171576095620 tw18056968428056967802 tw6652396404699593545 tw12005746613101750235 tw3080755593046684903 tw6913889213348806777 tw15777573195278279855 tw9719497194468736213 tw7742923739131165612 tw9951191548451920916 tw10993666249279670117 tw11438994094574668258 tw12262720548542682899 tw13865018322837244940 tw6368945915423200807 tw4678954426265184703 tw5846358955509022612 tw13063730858731255122 tw11507548298315554417 tw9981606152697582607 tw6348937737397827694 tw16716292515291471278 tw15430026499269689466 tw7325062158530556365 tw13473401484959830379 tw10022873330349681601 tw820483093737542527 tw9226188904242276082 tw16671253425258938429 tw12031263299788335124 tw5451764838196090486 tw12295832956399713879 tw14109450810325184955 tw7185457423524208811 tw7727781276970592783 tw5853821892307407082 tw7943253504383748895
variable{l:PySem.W.OpenLaw}
namespace An25
open PySem L2 An
def zw6{a:Er}{b g c i f j:Tok}(h:K.lookup a=A0 {cls:=.type "dict",data:=.dict #v[#[Mi w.params "leaf",.str "leaf" b,.str "L" g],#[Mi w.params "tree",.str "tree" c,.str "T" i],#[Mi w.params "note",.str "note" f,.str "N" j]] n}):KD P w K a jW:=by
 intro o X;let:=#[[(EE "leaf",.str "L" g),(EE "tree",.str "T" i),(EE "note",.str "N" j)],.cons #[Ej,g,Ej]<|.cons #[Ej,i,Ej]<|.cons #[Ej,j,Ej] .nil,_,_,n,X a _ h,#[Ej,Ej,Ej],Ej,?_,?_,?_]
 .intro e l;let l:e∈[(#[Mi w.params "leaf",.str "leaf" b,.str "L" g]:Mx),#[Mi w.params "tree",.str "tree" c,.str "T" i],#[Mi w.params "note",.str "note" f,.str "N" j]]:=by simpa using l
  rcases ZJ.mp l with z|z;.subst z;let:=#[EE "leaf",qA _ b,Ej]
  .rcases ZJ.mp z with z|z;.subst z;let:=#[EE "tree",qA _ c,Ej]
   .rw[ZC.mp z];let:=#[EE "note",qA _ f,Ej]
 .let:=.cons (qA _ b) rfl<|.cons (qA _ c) rfl<|.cons (qA _ f) rfl .nil
 .show([EE "leaf",EE "tree",EE "note"]:List Key).Nodup;lk
def GF(K:CK)(x:Str)(st:ES)(f:Er):(Prop):=EF K ED x=A0 (A0<|.ref f)/\∃(g:Es)(i c:Option Er)(sl:Array Db)(kV e pm b ct:Es),K.lookup f=A0 #[g,i,.func<|Le x x (qE st) (yZ st) (zF st) .none kV e pm c b ct,sl]/\LL K b x=Eg/\E5 K (.ref f)=Eg
def MF(K:CK)(C:Er)(x q:Str)(st:ES)(f:Er):(Prop):=EV K (.ref C) x=A0 (A0<|.ref f)/\MR K (.ref f)=Eg/\∃(g:Es)(i c:Option Er)(sl:Array Db)(kV e pm b ct:Es),K.lookup f=A0 #[g,i,.func<|Le x q (qE st) (yZ st) (zF st) .none kV e pm c b ct,sl]/\LL K b q=Eg/\E5 K (.ref f)=Eg
section
variable{h:EH}{k:Nat}{q:Str}{st:ES}{f C:Er}{sp:Sp}{oc:Es}{od an:Option Er}{sl:Array Db}{kV dc pm cd ct:Es}
def GF.mk(a:EF K ED x=A0 (A0<|.ref f))(l:K.lookup f=A0 #[oc,od,.func<|Le x x (qE st) (yZ st) (zF st) .none kV dc pm an cd ct,sl])(c:LL K cd x=Eg)(k:E5 K (.ref f)=Eg):GF K x st f:=#[a,_,_,_,_,_,_,_,_,_,l,c,k]
def MF.mk(a:EV K (.ref C) x=A0 (A0<|.ref f))(i:MR K (.ref f)=Eg)(l:K.lookup f=A0 #[oc,od,.func<|Le x q (qE st) (yZ st) (zF st) .none kV dc pm an cd ct,sl])(c:LL K cd q=Eg)(k:E5 K (.ref f)=Eg):MF K C x q st f:=#[a,i,_,_,_,_,_,_,_,_,_,l,c,k]
abbrev BA(x q:Str)(st:ES)(ps:By):Prop:=∀(kV doc pm:Es)(an:Option Er)(cdv ct:Es)(us:Da),`us=`ps->bindArgs (Le x q (qE st) (yZ st) (zF st) .none kV doc pm an cdv ct) #[us,[]]=Lm (ps.zip us)
abbrev BX(x q:Str)(st:ES)(ps:By)(kV doc pm:Es)(an:Option Er)(cdv ct:Es)(us:Da):Prop:=bindArgs (Le x q (qE st) (yZ st) (zF st) .none kV doc pm an cdv ct) #[us,[]]=Lm (ps.zip us)
def fA(h:∀kV i j an c' ct a,BX x q st ps kV i j an c' ct [a])(l:`ps=1):BA x q st ps:=by intro kV i j an c' ct;rw[l];let:=uc λa=>u0<|h kV i j an c' ct a
def fB(h:∀kV i j an c' ct a b,BX x q st ps kV i j an c' ct [a,b])(l:`ps=2):BA x q st ps:=by intro kV i j an c' ct;rw[l];let:=uc λa=>uc λb=>u0<|h kV i j an c' ct a b
def fC(h:∀kV i j an c' ct a b c,BX x q st ps kV i j an c' ct [a,b,c])(l:`ps=3):BA x q st ps:=by intro kV i j an c' ct;rw[l];let:=uc λa=>uc λb=>uc λc=>u0<|h kV i j an c' ct a b c
def fD(h:∀kV i j an c' ct a b c d,BX x q st ps kV i j an c' ct [a,b,c,d])(l:`ps=4):BA x q st ps:=by intro kV i j an c' ct;rw[l];let:=uc λa=>uc λb=>uc λc=>uc λd=>u0<|h kV i j an c' ct a b c d
def fE(h:∀kV i j an c' ct a b c d e,BX x q st ps kV i j an c' ct [a,b,c,d,e])(l:`ps=5):BA x q st ps:=by intro kV i j an c' ct;rw[l];let:=uc λa=>uc λb=>uc λc=>uc λd=>uc λe=>u0<|h kV i j an c' ct a b c d e
def fG(h:∀kV i j an c' ct a b c d e f,BX x q st ps kV i j an c' ct [a,b,c,d,e,f])(l:`ps=6):BA x q st ps:=by intro kV i j an c' ct;rw[l];let:=uc λa=>uc λb=>uc λc=>uc λd=>uc λe=>uc λf=>u0<|h kV i j an c' ct a b c d e f
def GF.cal(X:K.In h)(G:h.Ns ED mg)(a:GF K x st f)(b:EH)(g:∀fd,yd K x x st f fd->mg x=A0 (.ref f)->wV K fd ps []->zj P w K mg b CO k f fd ps sp)(e:BA x x st ps:=by first|let:=fA (λ_ _ _ _ _ _ _=>rfl) rfl|let:=fB (λ_ _ _ _ _ _ _ _=>rfl) rfl|let:=fC (λ_ _ _ _ _ _ _ _ _=>rfl) rfl|let:=fD (λ_ _ _ _ _ _ _ _ _ _=>rfl) rfl|let:=fE (λ_ _ _ _ _ _ _ _ _ _ _=>rfl) rfl|let:=fG (λ_ _ _ _ _ _ _ _ _ _ _ _=>rfl) rfl):xu P w K mg b k x ps sp:=by let#[h1,_,_,_,_,_,_,_,_,_,l,c,kp]:=a;let F:=XX l c kp;let:=xu.mk' F (g _ F (Yl X G h1)<|F.binds e) (Yl X G h1)<|F.binds e
def GF.zyF(X:K.In h)(G:h.Ns ED mg)(a:GF K x st f)(b:EH)(g:∀fd,yd K x x st f fd->mg x=A0 (.ref f)->wV K fd ps []->zj P w K mg b (HN P w) k f fd ps sp)(e:BA x x st ps:=by first|let:=fA (λ_ _ _ _ _ _ _=>rfl) rfl|let:=fB (λ_ _ _ _ _ _ _ _=>rfl) rfl|let:=fC (λ_ _ _ _ _ _ _ _ _=>rfl) rfl|let:=fD (λ_ _ _ _ _ _ _ _ _ _=>rfl) rfl|let:=fE (λ_ _ _ _ _ _ _ _ _ _ _=>rfl) rfl|let:=fG (λ_ _ _ _ _ _ _ _ _ _ _ _=>rfl) rfl):rG P w K mg b k x ps sp:=by let#[h1,_,_,_,_,_,_,_,_,_,l,c,kp]:=a;let F:=XX l c kp;let:=rG.mk' F (g _ F (Yl X G h1)<|F.binds e) (Yl X G h1)<|F.binds e
def GF.zv8(X:K.In h)(G:h.Ns ED mg)(a:GF K x st f)(b:EH)(g:∀fd,yd K x x st f fd->mg x=A0 (.ref f)->wV K fd ps []->lO P w K mg b k f fd ps s2)(e:BA x x st ps:=by first|let:=fA (λ_ _ _ _ _ _ _=>rfl) rfl|let:=fB (λ_ _ _ _ _ _ _ _=>rfl) rfl|let:=fC (λ_ _ _ _ _ _ _ _ _=>rfl) rfl|let:=fD (λ_ _ _ _ _ _ _ _ _ _=>rfl) rfl|let:=fE (λ_ _ _ _ _ _ _ _ _ _ _=>rfl) rfl|let:=fG (λ_ _ _ _ _ _ _ _ _ _ _ _=>rfl) rfl):zz1 P w K mg b k x ps s2:=by let#[h1,_,_,_,_,_,_,_,_,_,l,c,kp]:=a;let F:=XX l c kp;let:=zz1.mk' F (g _ F (Yl X G h1)<|F.binds e) (Yl X G h1)<|F.binds e
def MF.met(a:MF K C x q st f)(b:EH)(g:∀fd,yd K x q st f fd->zj P w K mg b CO k f fd ps sp)(e:BA x q st ps:=by first|let:=fA (λ_ _ _ _ _ _ _=>rfl) rfl|let:=fB (λ_ _ _ _ _ _ _ _=>rfl) rfl|let:=fC (λ_ _ _ _ _ _ _ _ _=>rfl) rfl|let:=fD (λ_ _ _ _ _ _ _ _ _ _=>rfl) rfl|let:=fE (λ_ _ _ _ _ _ _ _ _ _ _=>rfl) rfl|let:=fG (λ_ _ _ _ _ _ _ _ _ _ _ _=>rfl) rfl):Met P w K mg b C k x ps sp:=by let#[h1,i,_,_,_,_,_,_,_,_,_,l,c,kp]:=a;let F:=XX l c kp;let:=#[#[_,_,g _ F,#[h1,i,kp],F.binds e]]
def MF.mak(a:MF K C "__init__" q st f)(b:EH)(m:Mt K C=Eg)(n:E5 K (.ref C)=Eg)(j:mg x=A0 (.ref C))(g:∀fd,yd K "__init__" q st f fd->zj P w K mg b CO k f fd ps sp)(e:BA "__init__" q st ps:=by first|let:=fA (λ_ _ _ _ _ _ _=>rfl) rfl|let:=fB (λ_ _ _ _ _ _ _ _=>rfl) rfl|let:=fC (λ_ _ _ _ _ _ _ _ _=>rfl) rfl|let:=fD (λ_ _ _ _ _ _ _ _ _ _=>rfl) rfl|let:=fE (λ_ _ _ _ _ _ _ _ _ _ _=>rfl) rfl|let:=fG (λ_ _ _ _ _ _ _ _ _ _ _ _=>rfl) rfl):Mak P w K mg b C k x ps sp:=by let#[h1,i,_,_,_,_,_,_,_,_,_,l,c,kp]:=a;let F:=XX l c kp;let:=#[#[_,_,g _ F,#[m,h1,i,n],F.binds e,j]]
end
def all_mk{h:EH}{fa:Er}{t1 t2 t3 t4 t5 t6 t7 t8 t9:Tok}{aL aC aN aT aA b1 b2 b3 n o b6 b7 b8 c:Er}(X:K.In h)(G:h.Ns ED mg)(mh:mg "law"=A0 (.ref fa))(Z:EF K ED "len"=A0 Ee)(S:EF K ED "all"=A0 Ee)(ac:EF K ED "ord"=A0 Ee)(DD:EF K ED "isinstance"=A0 Ee)(af:EF K ED "str"=A0 Ee)(ad:EF K ED "set"=A0 Ee)(DX:EF K ED "sorted"=A0 Ee)(D8:EF K ED "tuple"=A0 Ee)(Ek:EF K ED "list"=A0 Ee)(ab:EF K ED "max"=A0 Ee)(Y:EF K ED "int"=A0 Ee)(Em:EF K ED "bool"=A0 Ee)(D9:EF K ED "range"=A0 Ee)(El:EF K ED "dict"=A0 Ee)(U:EF K ED "any"=A0 Ee)(DK:EF K ED "reversed"=A0 Ee)(DF:EF K ED "ValueError"=A0 Ee)(Dy:EF K ED "LONGEST_LINE"=A0 (A0<|.int 20 t1))(Du:EF K ED "LONGEST_LABEL"=A0 (A0<|.int 8 t2))(Dx:EF K ED "MOST_PARENTS"=A0 (A0<|.int 2 t3))(DP:EF K ED "PERCENT"=A0 (A0<|.int 37 t4))(DB:EF K ED "MOST_LABELS"=A0 (A0<|.int 4 t7))(Dv:EF K ED "DIGEST_FACTOR"=A0 (A0<|.int 31 t5))(Dz:EF K ED "DIGEST_BOUND"=A0 (A0<|.int 97 t6))(Eo:EF K ED "ONES"=A0 (A0<|.int 2 t8))(DY:EF K ED "OTHERS"=A0 (A0<|.int 3 t9))(DR:EF K ED "LETTERS"=A0 (A0<|.ref aL))(DZ:EF K ED "NoName"=A0 (A0<|.ref aN))(DQ:EF K ED "NoThing"=A0 (A0<|.ref aT))(DC:EF K ED "AnnalsError"=A0 (A0<|.ref aA))(DT:EF K ED "BadPath"=A0 (A0<|.ref b1))(DM:EF K ED "BadFiles"=A0 (A0<|.ref b2))(Eb:EF K ED "NoFit"=A0 (A0<|.ref b3))(Ec:EF K ED "Clash"=A0 (A0<|.ref n))(DI:EF K ED "NoVersion"=A0 (A0<|.ref o))(DU:EF K ED "BadLine"=A0 (A0<|.ref b6))(DL:EF K ED "NoBranch"=A0 (A0<|.ref b7))(DJ:EF K ED "BadBranch"=A0 (A0<|.ref b8))(D3:EF K ED "Annals"=A0 (A0<|.ref c))(Ea:EF K ED "Shelf"=A0 (A0<|.ref aC))(L:[n,o,b2,b6,b7,b8,aN,aT,b1,b3].Nodup)(cc:∀a∈[n,o],PySem.W.tX K a)(cl:∀a∈[n,o],∀b∈[n,o,b2,b6,b7,b8,aN,aT,b1,b3],E3 K (.ref a) (.ref b)=A0 (decide<|a=b))(ch:∀a∈[n,o],E3 K (.ref a) (.type "ValueError")=A0 Eg)(N:∀a∈[n,o],PySem.W.exmOne K (.ref a) (.ref aA)=A0 Eg)(D4:LU K n KR "ValueError.__new__"=Eg)(DG:LU K o KR "ValueError.__new__"=Eg)(E:LK K c MT=Eg)(x:Mc K c=Eg)(J:Mz K c=Eg)(R:EV K (.ref c) "__setattr__"=A0 (A0<|.builtin "object.__setattr__"))(B:Mt K c=Eg)(z:E5 K (.ref c)=Eg)(co:EV K (.ref c) "shelf"=A0 Ee)(cr:EV K (.ref c) "heads"=A0 Ee)(cf:KD l.prog w K aL jW)(D:LK K aC MT=Eg)(u:Mc K aC=Eg)(H:Mz K aC=Eg)(Q:EV K (.ref aC) "__setattr__"=A0 (A0<|.builtin "object.__setattr__"))(A:Mt K aC=Eg)(y:E5 K (.ref aC)=Eg)(cv:EV K (.ref aC) "thing_by_name"=A0 Ee)(cx:EV K (.ref aC) "name_by_thing"=A0 Ee)(cz:EV K (.ref aC) "next_numbers"=A0 Ee)(P:∀a∈kinds,∀b∈kinds,E3 K (.type a) (.type b)=A0 (a==b||a=="bool"&&b=="int")){f0 f1 f2 f3 f4 f5 f6 f7 f8 f9 h7 h8 h9 ih it iv ix iy i0 i1 i2 i3 ka kb kc kd ke kf ki kj kk kl km ko kp kq kr ks kt ku kv kw kx ky kz k0 k1 k2 k3 k4 k5 k6 k8 k9 la ld lf lh li lj lk ll lm lo lp lr ls lu lv lw lx ly lz l0 l1 l2 l4 l5 l6 l7 l8 l9 ma mb mc mf:Er}(a0:GF K "_law_cell_at" Ct.st f0)(a1:GF K "_law_paths" Cv.st f1)(a2:GF K "_law_sides" Cw.st f2)(a3:GF K "_law_table" Cy.st f3)(a4:GF K "_law_words" Cu.st f4)(a5:MF K aC "__init__" "Shelf.__init__" A6.st f5)(a6:MF K c "__init__" "Annals.__init__" A7.st f6)(a7:GF K "is_label" Ae.st f7)(a8:GF K "is_key" Ax.st f8)(a9:MF K c "has_branch" "Annals.has_branch" AW.st f9)(e2:MF K aC "has" "Shelf.has" Ay.st h7)(e3:GF K "need_name" Az.st h8)(e4:MF K aC "thing" "Shelf.thing" AA.st h9)(e5:GF K "names_form" AK.st ih)(e6:GF K "note_of" AO.st it)(e7:GF K "need_version_or_none" AT.st iv)(e8:MF K c "begin" "Annals.begin" A4.st ix)(e9:MF K c "need_branch" "Annals.need_branch" AX.st iy)(fb:MF K c "head" "Annals.head" AY.st i0)(fe:GF K "is_path" AE.st i1)(ff:GF K "is_sign" Aa.st i2)(fi:GF K "is_line" Ab.st i3)(fk:GF K "is_lines" Ac.st ka)(fl:GF K "is_file" AG.st kb)(fm:GF K "folders_of" AF.st kc)(fn:GF K "need_files" AJ.st kd)(fo:GF K "is_leaf" Ai.st ke)(fp:GF K "is_row" Af.st kf)(fr:GF K "is_rows" Ah.st ki)(ft:GF K "is_tree" Aj.st kj)(fv:GF K "is_parents" Ag.st kk)(fy:GF K "is_note" Ak.st kl)(ga:GF K "is_thing" Al.st km)(gb:GF K "need_thing" Am.st ko)(gc:MF K aC "need_form" "Shelf.need_form" AB.st kp)(gd:MF K aC "need_names" "Shelf.need_names" AC.st kq)(ge:GF K "letter_of" Ao.st kr)(gf:GF K "tree_parts" Ap.st ks)(gg:GF K "parts_of" Aq.st kt)(gk:GF K "counted" Ar.st ku)(gl:GF K "spelled" As.st kv)(gm:GF K "digest" Au.st kw)(gp:MF K aC "take" "Shelf.take" Aw.st kx)(gs:MF K aC "put" "Shelf.put" AD.st ky)(gt:GF K "put_rows" AH.st kz)(gv:GF K "put_files" AI.st k0)(gx:GF K "noted" AU.st k1)(gy:MF K c "set_head" "Annals.set_head" AZ.st k2)(g0:MF K c "keep" "Annals.keep" A5.st k3)(g1:GF K "_law_files" CA.st k4)(g2:GF K "_law_made" CI.st k5)(g3:MF K c "branches" "Annals.branches" A8.st k6)(g4:MF K aC "names" "Shelf.names" Av.st k8)(g5:GF K "tree_of" AQ.st k9)(g6:GF K "need_root" AL.st la)(ha:GF K "files_beneath" AM.st ld)(hb:GF K "files_of" AN.st lf)(hc:GF K "files_at" AV.st lh)(he:GF K "files_or_none" Cq.st li)(hf:GF K "parents_of" AS.st lj)(hg:GF K "first_parent" Cp.st lk)(hh:GF K "table_row" Ca.st ll)(hi:GF K "common_table" Cb.st lm)(hj:GF K "kept_pairs" Cc.st lo)(hk:GF K "spans_of" Cd.st lp)(hl:GF K "near_spans" Cf.st lr)(hm:GF K "groups_of" Cj.st ls)(hn:GF K "spans_done" Ce.st lu)(ho:GF K "side_lines" Ch.st lv)(hp:GF K "add_same" Ci.st lw)(hr:GF K "joined_lines" Ck.st lx)(hs:GF K "clean_lines" Cg.st ly)(ht:GF K "joined_at" Cm.st lz)(hu:GF K "in_the_way" Cn.st l0)(hv:GF K "joined_files" Co.st l1)(hw:GF K "need_clean" Cr.st l2)(hx:GF K "words_of" AR.st l4)(hy:GF K "carried" Cs.st l5)(hz:GF K "_law_word" CB.st l6)(h0:GF K "_law_carried" CC.st l7)(h1:MF K c "files" "Annals.files" A9.st l8)(h2:GF K "_law_is" CD.st l9)(h3:GF K "_law_named" CF.st ma)(h4:GF K "_law_first_due" CG.st mb)(h5:GF K "_law_first_good" CH.st mc)(h6:GF K "law" CJ.st mf):∃fd:Ew,(∀(s:Eu)(v:Es),BindsTo s fd #[[v],[]] [("_law_script",v)])/\∀dX:EH,K.In dX->dX.Ns ED mg->zj l.prog w K mg dX CO 20 fa fd ["_law_script"] (lH K):=by let T:Txt l.prog w K mg t1 t2 t3 t4 t5 t6 t7 t8 t9 aL aC aN aT aA b1 b2 b3 n o b6 b7 b8 c:=#[Yv X G Z,Yv X G S,Yv X G ac,Yv X G DD,Yv X G af,Yv X G ad,Yv X G DX,Yv X G D8,Yv X G Ek,Yv X G ab,Yv X G Y,Yv X G Em,Yv X G D9,Yv X G El,Yv X G U,Yv X G DK,Yv X G DF,Yl X G Dy,Yl X G Du,Yl X G Dx,Yl X G DP,Yl X G DB,Yl X G Dv,Yl X G Dz,Yl X G Eo,Yl X G DY,Yl X G DR,Yl X G DZ,Yl X G DQ,Yl X G DC,Yl X G DT,Yl X G DM,Yl X G Eb,Yl X G Ec,Yl X G DI,Yl X G DU,Yl X G DL,Yl X G DJ,Yl X G D3,Yl X G Ea,L,cc,cl,ch,N,D4,DG,#[E,x,J,R],co,cr,cf,#[D,u,H,Q],cv,cx,cz,P];let#[hL,oc,od,an,sl,kV,dc,pm,cd,ct,lL,cL,kL]:=h6;let e:=mh.symm.trans<|Yl X G hL;cases e;let:=#[Le "law" "law" (qE CJ.st) (yZ CJ.st) (zF CJ.st) .none kV dc pm an cd ct,λs v=>.of_eq rfl,λb _ _=>?_];let C0:=a0.cal X G b λ_ F _ _=>Ct.ok T F;let C1:=a1.cal X G b λ_ F _ _=>Cv.ok T F C0;let C2:=a2.cal X G b λ_ F _ _=>Cw.ok T F;let C3:=a3.cal X G b λ_ F _ _=>Cy.ok T F C0 C1 C2;let C4:=a4.cal X G b λ_ F _ _=>Cu.ok T F;let C5:=a5.mak b A y T.zw8 λ_ F=>A6.ok T F;let C6:=a6.mak b B z T.zx6 λ_ F=>A7.ok T F C5;let C7:=a7.cal X G b λ_ F _ _=>Ae.ok T F;let C8:=a8.cal X G b λ_ F _ _=>Ax.ok T F;let C9:=a9.met (mg:=mg) b λ_ F=>AW.ok T F C8;let p:=e2.met (mg:=mg) b λ_ F=>Ay.ok T F C8;let c0:=e3.cal X G b λ_ F _ _=>Az.ok T F p;let g:=e4.met (mg:=mg) b λ_ F=>AA.ok T F c0;let ah:=e5.cal X G b λ_ F _ _=>AK.ok T F p g;let f:=e6.zyF X G b λ_ F _ _=>AO.ok T F ah g;let c1:=e7.cal X G b λ_ F _ _=>AT.ok T F f;let c2:=e8.met (mg:=mg) b λ_ F=>A4.ok T F C7 C9 c1;let al:=e9.met (mg:=mg) b λ_ F=>AX.ok T F C9;let c3:=fb.met (mg:=mg) b λ_ F=>AY.ok T F al;let c4:=fe.cal X G b λ_ F _ _=>AE.ok T F C7;let c6:=ff.cal X G b λ_ F _ _=>Aa.ok T F;let q:=fi.cal X G b λ_ F _ _=>Ab.ok T F c6;let am:=fk.cal X G b λ_ F _ _=>Ac.ok T F q;let c8:=fl.cal X G b λ_ F _ _=>AG.ok T F c4 am;let ap:=fm.cal X G b λ_ F _ _=>AF.ok T F;let c9:=fn.cal X G b λ_ F _ _=>AJ.ok T F c8 ap;let da:=fo.cal X G b λ_ F _ _=>Ai.ok T F am;let db:=fp.cal X G b λ_ F _ _=>Af.ok T F C7;let dd:=fr.cal X G b λ_ F _ _=>Ah.ok T F db;let de:=ft.cal X G b λ_ F _ _=>Aj.ok T F dd;let di:=fv.cal X G b λ_ F _ _=>Ag.ok T F;let dj:=fy.cal X G b λ_ F _ _=>Ak.ok T F di q;let dl:=ga.cal X G b λ_ F _ _=>Al.ok T F da de dj;let dm:=gb.cal X G b λ_ F _ _=>Am.ok T F dl;let dn:=gc.met (mg:=mg) b λ_ F=>AB.ok T F g;let dp:=gd.met (mg:=mg) b λ_ F=>AC.ok T F dn;let as:=ge.cal X G b λ_ F _ _=>Ao.ok T F;let dr:=gf.cal X G b λ_ F _ _=>Ap.ok T F;let ds:=gg.cal X G b λ_ F _ _=>Aq.ok T F dr;let du:=gk.cal X G b λ_ F _ _=>Ar.ok T F;let dv:=gl.cal X G b λ_ F _ _=>As.ok T F as ds du;let dx:=gm.cal X G b λ_ F _ _=>Au.ok T F dv;let dy:=gp.met (mg:=mg) b λ_ F=>Aw.ok T F;let r:=gs.met (mg:=mg) b λ_ F=>AD.ok T F dm dp as dx dy;let dz:=gt.cal X G b λ_ F _ _=>AH.ok T F r;let d1:=gv.cal X G b λ_ F m h=>AI.ok T F r dz m h;let i:=gx.cal X G b λ_ F _ _=>AU.ok T F r d1;let d3:=gy.met (mg:=mg) b λ_ F=>AZ.ok T F al f;let d4:=g0.met (mg:=mg) b λ_ F=>A5.ok T F c3 c9 q i d3;let j:=g1.cal X G b λ_ F _ _=>CA.ok T F;let d5:=g2.cal X G b λ_ F _ _=>CI.ok T F C6 c2 d4 j;let d7:=g3.met (mg:=mg) b λ_ F=>A8.ok T F;let ay:=g4.met (mg:=mg) b λ_ F=>Av.ok T F;let d8:=g5.zyF X G b λ_ F _ _=>AQ.ok T F f;let d9:=g6.cal X G b λ_ F _ _=>AL.ok T F ah;let ea:=ha.cal X G b λ_ F m h=>AM.ok T F g m h;let eb:=hb.cal X G b λ_ F _ _=>AN.ok T F d9 ea;let t:=hc.zyF X G b λ_ F _ _=>AV.ok T F d8 eb;let ec:=he.cal X G b λ_ F _ _=>Cq.ok T F t;let be:=hf.cal X G b λ_ F _ _=>AS.ok T F f;let ed:=hg.cal X G b λ_ F _ _=>Cp.ok T F be;let ee:=hh.cal X G b λ_ F _ _=>Ca.ok T F;let ef:=hi.cal X G b λ_ F _ _=>Cb.ok T F ee;let eg:=hj.cal X G b λ_ F _ _=>Cc.ok T F ef;let eh:=hk.cal X G b λ_ F _ _=>Cd.ok T F eg;let ei:=hl.cal X G b λ_ F _ _=>Cf.ok T F;let ej:=hm.cal X G b λ_ F _ _=>Cj.ok T F ei;let ek:=hn.cal X G b λ_ F _ _=>Ce.ok T F;let el:=ho.cal X G b λ_ F _ _=>Ch.ok T F ek;let em:=hp.cal X G b λ_ F _ _=>Ci.ok T F;let en:=hr.cal X G b λ_ F _ _=>Ck.ok T F eh ej el em;let eo:=hs.cal X G b λ_ F _ _=>Cg.ok T F;let ep:=ht.cal X G b λ_ F _ _=>Cm.ok T F en eo;let er:=hu.cal X G b λ_ F _ _=>Cn.ok T F ap;let es:=hv.cal X G b λ_ F _ _=>Co.ok T F ep er;let et:=hw.zyF X G b λ_ F _ _=>Cr.ok T F;let bm:=hx.cal X G b λ_ F _ _=>AR.ok T F f;let ev:=hy.zyF X G b λ_ F _ _=>Cs.ok T F t ec ed es et i bm;let ew:=hz.zv8 X G b λ_ F _ _=>CB.ok T F;let bo:=h0.cal X G b λ_ F _ _=>CC.ok T F ev ew;let ey:=h1.met (mg:=mg) b λ_ F=>A9.ok T F t;let ca:=h2.cal X G b λ_ F _ _=>CD.ok T F p ey be bm;let ez:=h3.cal X G b λ_ F _ _=>CF.ok T F ay i;let e0:=h4.cal X G b λ_ F _ _=>CG.ok T F j;let e1:=h5.cal X G b λ_ F _ _=>CH.ok T F e0 bo j ca;let:=CJ.ok T (XX (st:=CJ.st) lL cL kL) C3 C4 C0 d5 d7 ay j bo i ca ez e1
def walk{q:Et}{b:By}{g:(Str->Db)->EH->Prop}{e:Ey->EH->Prop}{d:DefRec}{K:Params->CK}(hn:l.most=A0 63)(c:d.params.defaults=[])(j:∀(w:Ey)(h:EH),e w h->(K w.params).In h)(F:∀(w:Ey)(mg:Str->Db)(fa:Er)(h:EH),(K w.params).In h->h.Ns ED mg->mg d.name=A0 (.ref fa)->∃fd:Ew,(∀(s:Eu)(u:Es),BindsTo s fd #[[u],[]] [("_law_script",u)])/\∀dX:EH,(K w.params).In dX->dX.Ns ED mg->zj l.prog w (K w.params) mg dX CO 20 fa fd ["_law_script"] (lH<|K w.params)):PySem.W.WalkO q b g e l.row.toRowW d [] λf vs=>PySem.call f vs:=L2.zxU (n:=63) (k:=20) (x:="_law_script") (CX:=λ_=>CO) (sp:=λw=>lH<|K w.params) hn ∅ c #[Ej,∅,∅] j F (λ_ _ a ns hl _ i=>#[a,ns,Ej,i,hl,λ_=>rfl]) λ_ _ _ _ _ z=>z
end An25
end
open PySem PySem.W PyProof.Rows
theorem PySem.Challenge.cw_annals_k25_one_carried_holds : PySem.Challenge.rw_annals_k25_one_carried.Holds := by
 w_on;o_law;k_head;(case hw=>w_witness2)
 k_fill
 let:=An25.walk (l:=PySem.Challenge.rw_annals_k25_one_carried) rfl rfl (λw h Y=>PySem.W.kIn_of Y) ?F
 case F =>
  intro w mg fa h KX G hmg;refine' An25.all_mk KX G hmg ?z_len ?z_all ?z_ord ?DD ?z_str ?z_set ?DX ?D8 ?Ek ?z_max ?z_int ?Em ?D9 ?El ?z_any ?DK ?DF ?Dy ?Du ?Dx ?DP ?DB ?Dv ?Dz ?Eo ?DY ?DR ?DZ ?DQ ?DC ?DT ?DM ?Eb ?Ec ?DI ?DU ?DL ?DJ ?D3 ?Ea ?s_dst ?s_ek ?s_kx ?s_kv ?s_exm ?D4 ?DG ?pg_aD ?hd_aD ?po_aD ?sa_aD ?mk_aD ?kc_aD ?s_m1 ?s_m2 ?s_kd ?pg_aC ?hd_aC ?po_aC ?sa_aC ?mk_aC ?kc_aC ?s_n1 ?s_n2 ?s_n3 ?s_kit ?a0 ?a1 ?a2 ?a3 ?a4 ?a5 ?a6 ?a7 ?a8 ?a9 ?a10 ?a11 ?a12 ?a13 ?a14 ?a15 ?a16 ?a17 ?a18 ?a19 ?a20 ?a21 ?a22 ?a23 ?a24 ?a25 ?a26 ?a27 ?a28 ?a29 ?a30 ?a31 ?a32 ?a33 ?a34 ?a35 ?a36 ?a37 ?a38 ?a39 ?a40 ?a41 ?a42 ?a43 ?a44 ?a45 ?a46 ?a47 ?a48 ?a49 ?a50 ?a51 ?a52 ?a53 ?a54 ?a55 ?a56 ?a57 ?a58 ?a59 ?a60 ?a61 ?a62 ?a63 ?a64 ?a65 ?a66 ?a67 ?a68 ?a69 ?a70 ?a71 ?a72 ?a73 ?a74 ?a75 ?a76 ?a77 ?a78 ?a79 ?a80 ?a81 ?a82 ?a83 ?a84 ?a85
  case z_len|z_all|z_ord|DD|z_str|z_set|DX|D8|Ek|z_max|z_int|Em|D9|El|z_any|DK|DF|Dy|Du|Dx|DP|DB|Dv|Dz|Eo|DY|DR|DZ|DQ|DC|DT|DM|Eb|Ec|DI|DU|DL|DJ|D3|Ea=>k_is
  case a0|a1|a2|a3|a4=>(apply An25.GF.mk;k_is;k_is;k_is;k_is)
  case a5|a6=>(apply An25.MF.mk;k_is;k_is;k_is;k_is;k_is)
  case a7|a8=>(apply An25.GF.mk;k_is;k_is;k_is;k_is)
  case a9|a10=>(apply An25.MF.mk;k_is;k_is;k_is;k_is;k_is)
  case a11=>(apply An25.GF.mk;k_is;k_is;k_is;k_is)
  case a12=>(apply An25.MF.mk;k_is;k_is;k_is;k_is;k_is)
  case a13|a14|a15=>(apply An25.GF.mk;k_is;k_is;k_is;k_is)
  case a16|a17|a18=>(apply An25.MF.mk;k_is;k_is;k_is;k_is;k_is)
  case a19|a20|a21|a22|a23|a24|a25|a26|a27|a28|a29|a30|a31|a32|a33=>(apply An25.GF.mk;k_is;k_is;k_is;k_is)
  case a34|a35=>(apply An25.MF.mk;k_is;k_is;k_is;k_is;k_is)
  case a36|a37|a38|a39|a40|a41=>(apply An25.GF.mk;k_is;k_is;k_is;k_is)
  case a42|a43=>(apply An25.MF.mk;k_is;k_is;k_is;k_is;k_is)
  case a44|a45|a46=>(apply An25.GF.mk;k_is;k_is;k_is;k_is)
  case a47|a48=>(apply An25.MF.mk;k_is;k_is;k_is;k_is;k_is)
  case a49|a50=>(apply An25.GF.mk;k_is;k_is;k_is;k_is)
  case a51|a52=>(apply An25.MF.mk;k_is;k_is;k_is;k_is;k_is)
  case a53|a54|a55|a56|a57|a58|a59|a60|a61|a62|a63|a64|a65|a66|a67|a68|a69|a70|a71|a72|a73|a74|a75|a76|a77|a78|a79=>(apply An25.GF.mk;k_is;k_is;k_is;k_is)
  case a80=>(apply An25.MF.mk;k_is;k_is;k_is;k_is;k_is)
  case a81|a82|a83|a84|a85=>(apply An25.GF.mk;k_is;k_is;k_is;k_is)
  case s_dst=>lk
  case s_ek=>(intro a ha;simp only[ZJ,Yd,YY]at ha;rcases ha with rfl|rfl<;>(constructor<;>first|k_is|kernel_rfl|rfl|(with_unfolding_all rfl)|decide+kernel +revert))
  case s_kx=>(intro a ha b hb;simp only[ZJ,Yd,YY]at ha hb;rcases ha with rfl|rfl<;>rcases hb with rfl|rfl|rfl|rfl|rfl|rfl|rfl|rfl|rfl|rfl<;>first|k_is|kernel_rfl|rfl|(with_unfolding_all rfl)|decide+kernel +revert)
  case s_kv|s_exm=>(intro a ha;simp only[ZJ,Yd,YY]at ha;rcases ha with rfl|rfl<;>first|k_is|kernel_rfl|rfl|(with_unfolding_all rfl)|decide+kernel +revert)
  case D4|DG=>first|k_is|kernel_rfl|rfl|(with_unfolding_all rfl)|decide+kernel +revert
  case pg_aD|hd_aD|po_aD|sa_aD|mk_aD|kc_aD|s_m1|s_m2=>k_is
  case s_kd=>let:=An25.zw6 (by k_is)
  case pg_aC|hd_aC|po_aC|sa_aC|mk_aC|kc_aC|s_n1|s_n2|s_n3=>k_is
  case s_kit=>(intro a ha b hb;simp only[An25.kinds,ZJ,Yd,YY]at ha hb;rcases ha with rfl|rfl|rfl|rfl|rfl|rfl|rfl<;>rcases hb with rfl|rfl|rfl|rfl|rfl|rfl|rfl<;>rfl)
