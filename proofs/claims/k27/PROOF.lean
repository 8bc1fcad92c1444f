import PyProof.Rows.All
import Wide.All
import OpenK.AllK
import PySem.Challenge.RW_annals_k27_whole_moves
set_option Elab.async false
set_option linter.all false
set_option compiler.extract_closed false
set_option genSizeOf false
set_option maxRecDepth 100000
set_option maxHeartbeats 4000000
abbrev Da:=List PySem.Str
abbrev Db:=List PySem.Value
abbrev Dc:=Option PySem.Value
abbrev Dd:=List PySem.Addr
abbrev De:=List<|PySem.Addr×PySem.Obj
abbrev Df:=List PySem.PyData
abbrev Dg:=List<|PySem.Str×PySem.Str
abbrev Dh:=PySem.Shared->Prop
abbrev CB:=PySem.W.Frag
open PySem renaming wpAny_bind->Zt,wpAny_pure->Zy,wpAny_setState_of->Ye,boot_len->Yr,wpAny_newObj_type->Yz,wpAny_ite_split->YD,wpAny_call_entry->YH,wpAny_holding->YR,sizeLine_eq->YU,wpAny_mono->Y1,wpAny_Call_Name_kw->Jd,wpAny_isInstance->Je,mem_of_lookup->Ji,codeAny_builtin->Jj,wpAny_askSetting->Jq,isSubtype_type->Jt,wpAny_truthy_bool->Ju,wpAny_callSpecial?_slot->Jw,tupleKind_room_in1->JC,wpAny_passesOwn->JJ,codeAny_mono->JM,call_meetsIn->JN,wpAny_setEntries_of->JY,wpAny_of_eq->J5,wpAny_pyIter_list->J9,wpAny_storeSet_of->Ve,call_meets->Vf,wpAny_rule->Vg,wpAny_setField->Vi,wpAny_typeOf->Vm,wpAny_forIn_list->Vn,plainId_quiet->Vx,wpAny_specialOf->Vz,typeIs_str->VC,wpAny_Call_method0_late->VH,wpAny_Call_method->VN,fits_of_scanBound->VS,builtinLookup_eq_fast->VZ,wpAny_execs_nil->Uc,evalArgs_none->Uj,wpAny_tupleItemsOf->Uo,wpAny_fieldsOf->Ur,wpAny_dictEntries->Uw,wpAny_attempt->UC,wpAny_execs_cons->UD,putSet_of->UG,codeAny_of_tree->UM,typeLookup_type->UN
open List renaming length_map->Zu,mem_singleton->Zv,mem_cons_of_mem->Zw,mem_cons_self->Zx,mem_map->ZA,getElem?_eq_getElem->ZD,length_append->ZE,getElem?_map->ZF,map_append->ZH,mem_cons->ZI,length_cons->ZL,mem_of_getElem?->ZN,getElem?_eq_some_iff->ZO,map_cons->ZT,size_toArray->ZV,append_nil->ZW,map_map->ZY,mem_append->ZZ,getElem?_append_right->Z2,length_take->Z3,mem_append_right->Z5,getElem?_append_left->Z7,mem_iff_getElem->Z8,all_eq_true->Z9,take_length->Ya,getElem_map->Yb,nodup_iff_pairwise_ne->Yd,length_singleton->Yi,nodup_cons->Yl,take_add_one->Ym,length_range->Yo,any_eq_true->Yq,append_assoc->Ys,getElem_mem->Yt,map_congr_left->Yu,getElem?_eq_none->Yv,mem_append_left->Yw,cons_ne_nil->Yy,eq_nil_of_length_eq_zero->YB,find?_cons->YG,filter_cons->YI,mem_filter->YK,nodup_nil->YN,getElem_inj->YQ,cons_lt_cons_iff->YV,take_append_drop->YW,nodup_append->YX,mem_range->Y0,getD_eq_getElem?_getD->Y2,mem_of_mem_take->Y3,not_mem_nil->Y4,mem_flatMap->Y5,mem_of_find?_eq_some->Y8,pairwise_map->Y9,mem_iff_getElem?->Ja,length_nil->Jc,filterMap_cons->Jh,getElem?_eq_none_iff->Jk,length_filter_le->Jl,length_drop->Jp,flatMap_cons->Jx,take_of_length_le->JA,perm_ext_iff_of_nodup->JE,filter_append->JF,getElem?_zip_eq_some->JH,drop_eq_getElem_cons->JI,foldl_cons->JK,find?_some->JL,foldl_append->JP,sum_cons->JS,length_pos_iff->JX,getElem?_range->JZ,eq_nil_iff_forall_not_mem->J2,not_lt->Vh,flatMap_def->Vo,pairwise_iff_getElem->Vq,of_mem_zip->Vy,mem_filterMap->VA,pairwise_cons->VE,find?_eq_none->VG,map_id->VI,pairwise_singleton->VJ,lt_irrefl->VR,ext_getElem?->VT,getElem?_toArray->V1,map_fst_zip->V8,dropLast_concat_getLast->Ue,range_succ->Ug,mem_map_of_mem->Ul,map_nil->Um,any_eq_false->Us,take_sublist->Uv,getElem_take->Ux,map_take->UB,flatMap_nil->UE,le_antisymm->UF,sum_append->UK,nil_append->UL
abbrev Zz:=@decide_eq_true
abbrev ZJ:=@of_decide_eq_true
abbrev ZM:=@if_neg
abbrev ZP:=@decide_eq_false
abbrev ZQ:=@decide_eq_true_iff
abbrev ZS:=@if_pos
abbrev Yh:=@decide_eq_true_eq
abbrev YT:=@beq_eq_false_iff_ne
abbrev YZ:=@decide_eq_false_iff_not
abbrev Jy:=@beq_iff_eq
abbrev J1:=@decide_eq_decide
abbrev J8:=@of_decide_eq_false
abbrev Vt:=@if_false
abbrev VQ:=@iff_of_false
abbrev Ua:=@or_false
abbrev Uk:=@ne_true_of_eq_false
abbrev UI:=@getElem?_pos
abbrev UO:=@if_true
open Nat renaming le_refl->ZB,ne_of_lt->ZX,lt_of_lt_of_le->Z4,zero_le->Yf,le_trans->Yn,lt_irrefl->YO,le_of_lt->Jb,eq_zero_or_pos->JD,le_succ->J4,ne_of_gt->J6,lt_succ_of_lt->Vd,le_of_eq->Vk,lt_succ_self->Vl,succ_le_succ->Vp,lt_of_le_of_lt->VD,zero_add->VO,lt_trichotomy->VP,lt_or_ge->VU,not_lt_zero->Uf,le_succ_of_le->Uy,lt_trans->UH,sub_self->UJ
open PySem.Heap renaming get?_push_of_some->ZC,get?_push_size->ZK,lt_size->ZR,get?_update_self->YF,size_push->Jr,get?_update_other->VM,get?_none_of_le->V9
open Bool renaming and_eq_true->ZG,false_ne_true->Yc,false_eq_true->YA,eq_iff_iff->YL,and_false->Js,eq_false_iff->JO,not_eq_true'->JQ,or_eq_false_iff->JR,not_true->Vu,false_and->VL,or_eq_true->Ud,false_or->Uz
open Array renaming length_toList->ZU,getD_eq_getD_getElem?->Z6,getElem?_eq_getElem->Yg,getElem?_toList->Yj,getElem?_eq_none->Jg,getElem_toList->Vj,size_map->VV
open Option renaming map_eq_some_iff->Z0,isSome_iff_exists->Yx,map_some->YM,isSome_map->Vb,getD_some->V6
open PyProof.Rows renaming boot_isinstance->Z1,boot_str->Yk,boot_tuple->YJ,boot_dict->Y7,boot_all->Jo,boot_list->JB,boot_set->JG,boot_sorted->JT,toString_length_le->JW,callWith_type1->Va,slot_tuple_getitem->VW,callWith_builtin1->V4,int_text_len_1921->V7,slice_closes_toL->Ub,listUpdate_at->UA
open PySem.W renaming mg_none_of->Yp,kia_one->YC,mg_of->YE,callWith_K->VB,plainGet_of->Uh,callWith_K0->Ui,kitx_list->Ut,kitx_dict->Uu
open PySem.Value renaming isStrOf_shape->YS
open Int renaming eq_ofNat_of_zero_le->YY,natAbs_natCast->Uq
open PySem.F renaming plainAttrs_str->Y6,plainAttrs_list->Jf,slot_dict_get->Jm,slot_list_append->JU,type_list_append->JV,plainAttrs_dict->J0,entry_dict_get->J7,slot_dict_pop->VX,slot_str_join->V2,type_str_join->V3
open PyProof.Rows.F renaming plain_set_update_loop->Jz,entry_set_update_loop->Vr
open List.Nodup renaming length_le_of_subset->J3
open PySem.List renaming filterMap_getElem?_range_length->Vs
open List.Perm renaming eq_of_pairwise->Vv
open PySem.W.KIN renaming signs_num->VY
open LawfulBEq renaming eq_of_beq->V5
open PySem renaming Addr->D1,Value->D2,Program->D3,wpAny->D4,FuncData->D5,World->D6,Shared->D7,PyData->Ea,model->Eb,mainGlobals->Ed,starEach->Ei,Heap->Ej,Around->Em,Stmt->Er,Expr->Ey,sysModules->EA,compareOp->EC,SetTable->EM,cLine->EO,eval->EV,rawInt->EX,Paired->E5,backTo->La,attributeBase->Lh,ReadsAll->Lu,bootBuiltins->LA,scanBound->LC,NameKind->LF,letOwnedTupleGo->LI,codeAny->LK,entryOfKey->LO,assignEach->LP,pyNext->LQ,keywordEach->LS,sliceBounds->LU,DictEntry->LV,pickOrder->LW,Scope->LX,foldedSetIterable->LZ,valueAt->L3,swapsWith->L8,isSubtype->L9,binaryOp->Mc,compEnvC->Md,ElemsOf->Mg,tupleKind->Mh,setsByText->Mj
open Sum renaming inr->D8
open PySem.PyData renaming strOk->D9,canLayAll0->Ec,depthAll->Eo,str->Eu,eqv->EB,eqvAll->EQ,keyHash->Ly
open PySem.Value renaming ref->Ee,none->Ev,type->EG,isStrOf->EI,str->Lz,bool->LN,int->L7,isInt->Mb
open List renaming range->Ef,replicate->EY,toArray->E1,lookup->Lr
open PySem.SetTable renaming sizeAbove->Eg,below->EZ,bits->Ll,grown->Lq,runEnd->Lv,fits->Ma
open Ne renaming symm->Eh
open PySem.W renaming nsIn->Ek,findIn->Ep,keepIn->EE,emptyDict->EN,fnOf->ER,instObj->E6,plainGet->Lm,kitOne->Ln,codeIn->Lo,hasDictIn->Lw,makesIn->LJ,plainOver->L1,isFn->Mf
open PySem.PassesOwn renaming never->El
open PySem.Heap.SameBut renaming update->Es
open Or renaming inl->Et
open False renaming elim->Ew
open PySem.Heap renaming SameBut->Ez
open PySem.Str renaming ofString->ED,empty->LR,join->Mi
open PySem.Builtin.Tuple renaming tupleHashOf->EF,tupleExact->Li
open PySem.Calls renaming callWith_builtin->EH,spliced_cons->ET,spliced_nil->Lf,evalArgs_plain->Lg
open PySem.Builtin.Str renaming occurrences->EJ,strSub->E4,partsBetween->Lk
open PySem.Builtin.Frozenset renaming isAnySet->EK,updateFrom->ES
open PySem.SeqAt renaming shaped->EL,eqBoolOverData->Lx
open PySem.Obj renaming mapSeq->EU,putSet->Ls
open PySem.Around renaming under_plainId->EW
open PySem.StrLaws renaming glued_eq_join->E2,subAt_one->L4
open True renaming intro->E3
open Pure renaming pure->E7
open PySem.Builtin.List renaming listExtendWith->E8,listTooLong->Lj
open PyProof.Rows renaming seqObj->E9,AllBare->Ml
open ToString renaming toString->Lb
open PySem.Txt renaming join->Lc,slice->Le,split->Lp
open PySem.Builtin.Slice renaming slicePlaces->Ld,sliceAdjust->LD
open Prod renaming ext->LG
open PySem.Shared renaming TypeIs->LH
open PySem.F renaming slot_dict_items->L5
open List.Pairwise renaming map->L6
open ForInStep renaming yield->Me
noncomputable section
namespace L2
open PySem
open PySem.Spec PyProof.Rows
abbrev Key:=Sum Int Str
def BB:Key->D2->Bool
 | .inl k,v=>Mb k v
 | .inr x,v=>EI x v
def aS (w:D6):Key->Int
 | .inl k=>hashInt k
 | .inr x=>hashStr w x
theorem yH:∀{k:Key} {v:D2},BB k v=true->(∃i t,k=Sum.inl i/\v=L7 i t)\/(∃x t,k=D8 x/\v=Lz x t)
 | .inl i,v,h=>by
  obtain⟨t,e⟩:=Value.isInt_shape (k:=i) (v:=v) h;exact .inl ⟨i,t,rfl,e⟩
 | .inr x,v,h=>by
  obtain⟨t,e⟩:=YS (x:=x) (v:=v) h;exact .inr ⟨x,t,rfl,e⟩
theorem NP (i:Int)(t:Tok):BB (.inl i) (.int i t)=true:=by simp[BB,Mb]
theorem xY (x:Str)(t:Tok):BB (.inr x) (.str x t)=true:=by simp[BB,EI]
theorem Ts (a b:Int):decide ((Sum.inl a:Key)=Sum.inl b)=(a==b):=by
 by_cases e:a=b
 .subst e;simp
 .have h:¬(Sum.inl a:Key)=Sum.inl b:=λq=>e<|Sum.inl.inj q;rw[ZP h];exact(YT.mpr e).symm
theorem Tv (a b:Str):decide ((D8 a:Key)=D8 b)=decide (a=b):=by
 by_cases e:a=b
 .subst e;simp
 .have h:¬(D8 a:Key)=D8 b:=λq=>e<|Sum.inr.inj q;rw[ZP h,ZP e]
theorem Tt (a:Int)(b:Str):decide ((Sum.inl a:Key)=D8 b)=false:=ZP<|λq=>nomatch q
theorem Tu (a:Str)(b:Int):decide ((D8 a:Key)=Sum.inl b)=false:=ZP<|λq=>nomatch q
def zq (prog:D3)(w:D6):PySem.KeyKind prog w Key where
 is:=BB
 hash:=aS w
 inj:=λv a b f d=>by
  rcases yH f with⟨i,t,rfl,rfl⟩|⟨x,t,rfl,rfl⟩
  .rcases yH d with⟨j,u,rfl,e⟩|⟨y,u,rfl,e⟩
   .injection e with c _;rw[c]
   .exact nomatch e
  .rcases yH d with⟨j,u,rfl,e⟩|⟨y,u,rfl,e⟩
   .exact nomatch e
   .injection e with c _;rw[c]
 byValue:=λk v h=>by
  rcases yH h with⟨i,t,rfl,rfl⟩|⟨x,t,rfl,rfl⟩<;>rfl
 pyHash:=λhv h=>by
  rcases yH hv with⟨i,t,rfl,rfl⟩|⟨x,t,rfl,rfl⟩
  .exact wpAny_pyHash_int h
  .exact wpAny_pyHash_str h
 eqBool:=λg hv h=>by
  rcases yH g with⟨i,t,rfl,rfl⟩|⟨x,t,rfl,rfl⟩
  .rcases yH hv with⟨j,u,rfl,rfl⟩|⟨y,u,rfl,rfl⟩
   .rw[Ts]at h;exact wpAny_eqBool_int h
   .rw[Tt]at h;exact SeqAt.EqAt.int_str i t y u _ _ _ _ h
  .rcases yH hv with⟨j,u,rfl,rfl⟩|⟨y,u,rfl,rfl⟩
   .rw[Tu]at h;exact SeqAt.EqAt.str_int x t j u _ _ _ _ h
   .rw[Tv]at h;exact wpAny_eqBool_str h
 «strs»:=λk x t v h=>by
  rcases yH h with⟨i,u,rfl,e⟩|⟨y,u,rfl,e⟩
  .exact nomatch e
  .injection e with c _;subst c;cases v<;>rfl
theorem Hw (prog:D3)(w:D6)(i:Int)(t:Tok):(zq prog w).is (.inl i) (.int i t)=true:=NP i t
theorem Hx (prog:D3)(w:D6)(x:Str)(t:Tok):(zq prog w).is (.inr x) (.str x t)=true:=xY x t
inductive V where
 |non|bl (b:Bool)|int (i:Int)|str (x:Str)|byt (b:Array UInt8)|flt (b:UInt64)|ref (a:D1)|ty (n:String)
 deriving DecidableEq
abbrev Dl:=List<|Key×V
abbrev Dj:=List V
def yw:V->D2->Prop
 | .non,u=>u=Ev
 | .bl b,u=>u=LN b
 | .int i,u=>∃t,u=L7 i t
 | .str x,u=>∃t,u=Lz x t
 | .byt b,u=>∃t,u=Value.bytes b t
 | .flt b,u=>∃t,u=Value.float b t
 | .ref a,u=>u=Ee a
 | .ty n,u=>u=EG n
abbrev yx:Dj->Db->Prop:=E5 yw
theorem yx.length (r:yx xs us):xs.length=us.length:=Paired.length r
theorem yx.get:∀{xs:Dj} {us:Db} {i:Nat} {x:V},yx xs us->xs[i]?=some x->∃u,us[i]?=some u/\yw x u
 |_,_,_,_,.nil,e=>by simp at e
 |_,_,0,_,.cons r _,e=>by simp at e;subst e;exact⟨_,rfl,r⟩
 |_,_,i+1,x,.cons _ t,e=>by
  obtain⟨u,b,c⟩:=yx.get (i:=i) (x:=x) t (by simpa using e);exact⟨u,by simpa using b,c⟩
theorem yx.append:∀{xs ys:Dj} {us ws:Db},yx xs us->yx ys ws->yx (xs++ys) (us++ws)
 |_,_,_,_,.nil,s=>s
 |_,_,_,_,.cons r t,s=>.cons r<|yx.append t s
theorem yx.take:∀{xs:Dj} {us:Db} (n:Nat),yx xs us->yx (xs.take n) (us.take n)
 |_,_,0,_=>.nil
 |_,_,_+1,.nil=>.nil
 |_,_,n+1,.cons r t=>.cons r<|yx.take n t
theorem yx.drop:∀{xs:Dj} {us:Db} (n:Nat),yx xs us->yx (xs.drop n) (us.drop n)
 |_,_,0,r=>r
 |_,_,_+1,.nil=>.nil
 |_,_,n+1,.cons _ t=>yx.drop n t
def wj:Option V->Dc->Prop
 |some v,some u=>yw v u
 |none,none=>True
 |_,_=>False
def KV {κ:Type}:List (κ×V)->List (κ×D2)->Prop:=E5 λ(p:κ×V) (q:κ×D2)=>p.1=q.1/\yw p.2 q.2
def kV:Key->V
 | .inl i=>.int i
 | .inr x=>.str x
inductive HO where
 |lst (xs:Dj)
 |tup (xs:Dj)
 |dK (Dm:Dl)|dT (Dm:List<|List Key×V)
 |set (S:Int->Bool) (n:Nat)
 |ins (C dx:D1) (fs:List<|Str×V)
 |own (x:D1)
 |xd (fs:List<|Str×V)
 |met (f x:D1)
 |rng (lo hi:Int)
 |frz (o:Obj) (u:HO)
 |tbl (ps:Array D2)
 |ext (φ:Ej->Prop)
abbrev Hp:=D1->Option HO
def upd (H:Hp)(a:D1)(o:HO):Hp:=λb=>if b=a then some o else H b
theorem zB:upd H a o a=some o:=by unfold upd;rw[ZS rfl]
theorem zH {a b:D1}(h:b≠a):upd H a o b=H b:=by unfold upd;rw[ZM h]
theorem Nm:upd (upd H a o) a u=upd H a u:=by
 funext b;unfold upd;split<;>rfl
theorem WV {H:Hp}{a b:D1}{o u:HO}(h:H a=some o)(h':H b=some u)(d:o≠u):a≠b:=by
 intro e;subst e;rw[h]at h';exact d<|Option.some.inj h'
theorem zK {H:Hp}{a b:D1}{o:HO}(h:H a=some o)(h':H b=none):a≠b:=by
 intro e;subst e;rw[h]at h';cases h'
def TupAt (h:Ej)(a:D1)(Do:Array D2):Prop:=∃o,h.get? a=some o/\o.cls=.type "tuple"/\∃n,o.data=.seq Do n/\o.dict=none
theorem TupAt.is (t:TupAt h a Do):IsTup h a Do:=by
 obtain⟨o,h1,h2,n,h3,_⟩:=t;exact ⟨o,h1,h2,n,h3⟩
theorem TupAt.lt (t:TupAt h a Do):a<h.objs.size:=t.is.lt
theorem TupAt.new (h:Ej)(Do:Array D2):TupAt (h.push { cls:=.type "tuple",data:=.seq Do }) h.objs.size Do:=⟨_,ZK _ rfl,rfl,_,rfl,rfl⟩
section
variable (P:D3)(w:D6)
def yq (H:Hp)(h:Ej)(a:D1):HO->Prop
 | .lst c=>c.length<=sizeLine/\∃(b:Db) (n:Nat),yx c b/\h.get? a=some { cls:=.type "list",data:=.seq b.toArray n }
 | .tup c=>c.length<=sizeLine/\∃b:Db,yx c b/\TupAt h a b.toArray
 | .dK Dm=>Dm.length<=sizeLine/\(a==EA)=false/\∃vs,KV Dm vs/\h.DictOf (zq P w) a vs
 | .dT Dm=>Dm.length<=sizeLine/\(a==EA)=false/\∃c:List<|List Key×D1×D2,
   E5 (λ(p:List Key×V) (q:List Key×D1×D2)=>p.1=q.1/\H q.2.1=some (.tup<|p.1.map kV)/\yw p.2 q.2.2) Dm c /\
   ∃o e j,h.get? a=some o/\o.ExactDict/\o.data=.dict e j/\e.toList=c.map (LO<|Mh<|zq P w)/\(c.map (·.1)).Nodup
 | .set S n=>h.SetOf (intKind P w) a S n
 | .ins C dx fs=>H dx=some (.own a)/\fs.length<=1000/\dx≠a/\h.get? a=some (E6 C dx) /\
   ∃d,h.Ns1 dx d/\(∀f,wj (fs.lookup f)<|d f)/\PySem.Within d (fs.map (·.1))
 | .own _=>∃o,h.get? a=some o
 | .xd fs=>∃d,h.Ns1 a d/\∀f,wj (fs.lookup f)<|d f
 | .rng lo hi=>∃t u v,h.get? a=some { cls:=.type "range",data:=.fields #[.int lo t,.int hi u,.int 1 v] }
 | .frz o u=>h.get? a=some o/\yq H h a u
 | .tbl ps=>h.get? a=some { cls:=.none,data:=.fields ps }
 | .met f x=>h.get? a=some (PySem.W.methodObj (.ref f)<|.ref x)
 | .ext φ=>φ h/\(∃o,h.get? a=some o)/\∀g i:Ej,φ g->(∀o,g.get? a=some o->i.get? a=some o)->φ i
def vH (H:Hp)(h:Ej):Prop:=∀a o,H a=some o->yq P w H h a o
end
section
variable {P:D3}{w:D6}{H H':Hp}{h h':Ej}{a:D1}{o:HO}
theorem yq.lt (x:yq P w H h a o):a<h.objs.size:=by
 cases o with
 |lst xs=>obtain⟨_,_,_,_,e⟩:=x;exact ZR e
 |tup xs=>obtain⟨_,_,_,p⟩:=x;exact p.lt
 |dK Dm=>obtain⟨_,_,_,_,o,_,_,e,_⟩:=x;exact ZR e
 |dT Dm=>obtain⟨_,_,_,_,o,_,_,e,_⟩:=x;exact ZR e
 |set S n=>obtain⟨o,_,_,_,e,_⟩:=x;exact ZR e
 |ins C dx fs=>obtain⟨_,_,_,e,_⟩:=x;exact ZR e
 |own y=>obtain⟨_,e⟩:=x;exact ZR e
 |xd fs=>obtain⟨_,⟨_,_,_,e,_⟩,_⟩:=x;exact ZR e
 |rng lo hi=>obtain⟨_,_,_,e⟩:=x;exact ZR e
 |frz ob u=>obtain⟨e,_⟩:=x;exact ZR e
 |tbl ps=>exact ZR<|show h.get? a=some _ from x
 |met f y=>exact ZR<|show h.get? a=some _ from x
 |ext φ=>obtain⟨_,⟨_,e⟩,_⟩:=x;exact ZR e
theorem Paired.mZ {α c:Type}{F G:α->c->Prop}:∀{l₁:List α} {l₂:List c},E5 F l₁ l₂->(∀a b,F a b->G a b)->E5 G l₁ l₂
 |_,_,.nil,_=>.nil
 |_,_,.cons r t,f=>.cons (f _ _ r)<|Paired.mZ t f
theorem yq.stay (x:yq P w H h a o)(k:∀b u,(b=a\/H b=some (.own a))->h.get? b=some u->h'.get? b=some u)
  (B:∀b,H b=some (.own a)->H' b=some (.own a)) (D:∀b xs,H b=some (.tup xs)->H' b=some (.tup xs)):yq P w H' h' a o:=by
 induction o with
 |lst xs=>obtain⟨z,j,n,r,e⟩:=x;exact⟨z,j,n,r,k _ _ (.inl rfl) e⟩
 |tup xs=>obtain⟨z,j,r,ob,e,c⟩:=x;exact⟨z,j,r,ob,k _ _ (.inl rfl) e,c⟩
 |dK Dm=>obtain⟨z,y,vs,r,ob,i,g,e,c⟩:=x;exact⟨z,y,vs,r,ob,i,g,k _ _ (.inl rfl) e,c⟩
 |dT Dm =>
  obtain⟨z,y,xs,r,ob,i,g,e,c⟩:=x;exact⟨z,y,xs,Paired.mZ r λp q z=>⟨z.1,D _ _ z.2.1,z.2.2⟩,ob,i,g,k _ _ (.inl rfl) e,c⟩
 |set S n=>obtain⟨ob,i,g,t,e,c⟩:=x;exact⟨ob,i,g,t,k _ _ (.inl rfl) e,c⟩
 |ins C dx fs =>
  obtain⟨d,z,ne,e,l,⟨s,i,g,A,c⟩,r⟩:=x;exact⟨B _ d,z,ne,k _ _ (.inl rfl) e,l,⟨s,i,g,k _ _ (.inr d) A,c⟩,r⟩
 |own y=>obtain⟨ob,e⟩:=x;exact⟨ob,k _ _ (.inl rfl) e⟩
 |xd fs=>obtain⟨l,⟨s,i,g,e,c⟩,r⟩:=x;exact⟨l,⟨s,i,g,k _ _ (.inl rfl) e,c⟩,r⟩
 |rng lo hi=>obtain⟨t,u,v,e⟩:=x;exact⟨t,u,v,k _ _ (.inl rfl) e⟩
 |frz ob u ih=>obtain⟨e,q⟩:=x;exact⟨k _ _ (.inl rfl) e,ih q⟩
 |tbl ps =>
  have e:h.get? a=some { cls:=.none,data:=.fields ps }:=x;show h'.get? a=some { cls:=.none,data:=.fields ps };exact k a _ (.inl rfl) e
 |met f y =>
  have e:h.get? a=some (PySem.W.methodObj (.ref f)<|.ref y):=x;show h'.get? a=some (PySem.W.methodObj (.ref f)<|.ref y);exact k a _ (.inl rfl) e
 |ext φ=>obtain⟨p,⟨o,e⟩,st⟩:=x;exact⟨st _ _ p λo q=>k _ _ (.inl rfl) q,⟨o,k _ _ (.inl rfl) e⟩,st⟩
theorem vH.lt (x:vH P w H h)(e:H a=some o):a<h.objs.size:=(x a o e).lt
theorem vH.fresh (x:vH P w H h)(e:h.objs.size<=a):H a=none:=by
 cases q:H a with
 |none=>rfl
 |some u=>exact absurd (Z4 (x.lt q) e)<|YO _
theorem vH.kept (x:vH P w H h)(k:∀b u,h.get? b=some u->h'.get? b=some u):vH P w H h':=λa o e =>
 (x a o e).stay (λb u _ q=>k b u q) (λ_ q=>q) λ_ _ q=>q
theorem vH.laid (x:vH P w H h)(k:∀b u,h.get? b=some u->h'.get? b=some u)(g:h.objs.size<=a)(new:yq P w (upd H a o) h' a o):vH P w (upd H a o) h':=λb u e=>by
 have f:=x.fresh g
 by_cases d:b=a
 .subst d;rw[zB]at e;cases e;exact new
 .rw[zH d]at e;exact(x b u e).stay (λc v _ q=>k c v q) (λc q=>by rwa[zH<|zK q f]) λc i q=>by rwa[zH<|zK q f]
end
def Rd (H:Hp)(a:D1)(u:HO):Prop:=H a=some u\/∃o,H a=some (.frz o u)
theorem Rd.ok (r:Rd H a u)(x:vH P w H h):yq P w H h a u:=by
 rcases r with r|⟨o,r⟩
 .exact x a u r
 .obtain⟨_,q⟩:=x a _ r;exact q
def S8:Option HO->Prop
 |some (.lst _)=>True
 |some (.dK _)=>True
 |some (.dT _)=>True
 |some (.set _ _)=>True
 |some (.ins _ _ _)=>True
 |some (.ext _)=>True
 |_=>False
section
variable {P:D3}{w:D6}{H:Hp}{h h':Ej}{x e:D1}{o':HO}
theorem vH.write (ok:vH P w H h)(l:S8<|H x)(he:e=x\/H e=some (.own x))(k:∀b u,b≠e->h.get? b=some u->h'.get? b=some u)(o:∃u,h'.get? e=some u)
  (new:yq P w (upd H x o') h' x o'):vH P w (upd H x o') h':=λb u q=>by
 have f:∀c y,H c=some (.own y)->c≠x:=λc y r z=>by subst z;rw[r]at l;exact l
 have g:∀c n,H c=some (.tup n)->c≠x:=λc n r z=>by subst z;rw[r]at l;exact l
 by_cases i:b=x
 .subst i;rw[zB]at q;cases q;exact new
 .rw[zH i]at q
  by_cases d:b=e
  .have p:H b=some (.own x):=by
    rcases he with z|z
    .exact absurd (d.trans z) i
    .rwa[d]
   rw[q]at p;cases p;obtain⟨v,hv⟩:=o;exact⟨v,by rw[d];exact hv⟩
  .refine(ok b u q).stay (λc v j r=>k c v ?_ r) (λc r=>by rwa[zH<|f c b r]) λc n r=>by rwa[zH<|g c n r]
   rcases j with rfl|j
   .exact d
   .rintro rfl
    rcases he with z|z
    .exact f c b j z
    .rw[j]at z;cases z;exact i rfl
end
structure Un (fs ex:Dd)(H H':Hp)(h h':Ej):Prop where
 keep:∀b o,h.get? b=some o->H b=none->b∉fs->b∉ex->h'.get? b=some o
 slot:∀b o,h.get? b=some o->H b=none->b∈fs->b∉ex->∃sl,h'.get? b=some { o with slots:=sl }
 free:∀b o,h.get? b=some o->H b=none->b∉ex->H' b=none
 there:∀b o,h.get? b=some o->b∉ex->∃o',h'.get? b=some o'
 tups:∀b xs,H b=some (.tup xs)->H' b=some (.tup xs)
 vz:∀b o u,H b=some (.frz o u)->H' b=some (.frz o u)
 uW:∀b ps,H b=some (.tbl ps)->∃more,H' b=some (.tbl<|ps++more)
section
variable {fs fs' ex ex':Dd}{H H1 H2:Hp}{h h1 h2 h':Ej}{a x e:D1}{o:HO}
theorem Un.any (u:Un fs ex H H1 h h1){b:D1}{ob:Obj}(q:h.get? b=some ob)(n:H b=none)(d:b∉ex):∃sl,h1.get? b=some { ob with slots:=sl }:=by
 by_cases c:b∈fs
 .exact u.slot b ob q n c d
 .exact⟨ob.slots,u.keep b ob q n c d⟩
theorem Un.kept (k:∀b u,h.get? b=some u->h'.get? b=some u):Un fs ex H H h h' :=
 ⟨λb ob q _ _ _=>k b ob q,λb ob q _ _ _=>⟨ob.slots,k b ob q⟩,λ_ _ _ n _=>n,λb ob q _=>⟨ob,k b ob q⟩,λ_ _ q=>q,λ_ _ _ q=>q,λ_ c q=>⟨#[],by rw[q];simp⟩⟩
theorem Un.refl:Un fs ex H H h h:=Un.kept λ_ _ q=>q
theorem Un.laid (k:∀b u,h.get? b=some u->h'.get? b=some u)(d:h.objs.size<=a)(c:H a=none):Un fs ex H (upd H a o) h h' where
 keep:=λb u q _ _ _=>k b u q
 slot:=λb u q _ _ _=>⟨u.slots,k b u q⟩
 free:=λb u q n _=>by rwa[zH<|ZX<|Z4 (ZR q) d]
 there:=λb u q _=>⟨u,k b u q⟩
 tups:=λb e q=>by rwa[zH<|zK q c]
 vz:=λb u e q=>by rwa[zH<|zK q c]
 uW:=λb f q=>⟨#[],by rw[zH<|zK q c,q];simp⟩
theorem Un.write (d:S8<|H x)(he:e=x\/H e=some (.own x))(k:∀b u,b≠e->h.get? b=some u->h'.get? b=some u)(f:∃u,h'.get? e=some u):Un fs ex H (upd H x o) h h':=by
 have j:∀b,H b=none->b≠x:=λb n z=>by subst z;rw[n]at d;exact d
 have i:∀b,H b=none->b≠e:=λb n z=>by
  subst z
  rcases he with r|r
  .exact j b n r
  .rw[n]at r;cases r
 have g:∀b u,H b=some u->¬S8 (some u)->b≠x:=λb u q nm z=>by subst z;rw[q]at d;exact nm d
 refine⟨λb u q n _ _=>k b u (i b n) q,λb u q n _ _=>⟨u.slots,k b u (i b n) q⟩,λb u q n _=>by rw[zH<|j b n];exact n,λb u q _=>?_,
  λb l q=>by rw[zH<|g b _ q λz=>z];exact q,λb u l q=>by rw[zH<|g b _ q λz=>z];exact q,λb p q=>⟨#[],by rw[zH<|g b _ q λz=>z,q];simp⟩⟩
 by_cases c:b=e
 .subst c;exact f
 .exact⟨u,k b u c q⟩
end
def aF (h:Ej)(H:Hp):Dd:=(Ef h.objs.size).filter λa=>(H a).isSome
def Fg (h:Ej)(H:Hp):Heap:=PySem.W.hideAll h<|aF h H
theorem NM (h:Ej)(H:Hp):(Fg h H).objs.size=h.objs.size:=PySem.W.hideAll_size _ _
theorem OJ {h:Ej}{H:Hp}{b:D1}{o:Obj}(e:h.get? b=some o)(n:H b=none):(Fg h H).get? b=some o :=
 PySem.W.hideAll_get _ e λc=>by
  have q:(H b).isSome=true:=(YK.mp c).2;rw[n]at q;simp at q
theorem R9 {b:D1}{o:Obj}(e:(Fg h H).get? b=some o):h.get? b=some o/\H b=none:=by
 have c:h.get? b=some o:=PySem.W.of_hideAll (aF h H) e;refine⟨c,?_⟩;cases q:H b with
 |none=>rfl
 |some x =>
  have d:b∈aF h H:=YK.mpr ⟨Y0.mpr<|ZR c,by simp[q]⟩;have z:(Fg h H).get? b=none:=PySem.W.hideAll_none (aF h H) d;rw[z]at e;cases e
structure Mod (K:CB)(mg:Str->Dc)(base:Ej):Prop where
 mW:K.In base
 glob:base.Ns Ed mg
 blt:∃mb,base.Ns builtinsNs mb/\∀x:Str,x≠"__name__"->mb x=LA x
 nolimit:base.NoLimit
structure Cx where
 prog:D3
 w:D6
 K:CB
 mg:Str->Dc
 base:Ej
 A:Em
 N:Da
 s₀:D7
 H₀:Hp
 env:Env
 outer:List Env
 stack:List Env
 ex:Dd
 fn:Str->Bool
 calm:Bool
 pn:De
 xe:D2->Dh
def frs (l:List Env):Dd:=l.filterMap (·.frame)
abbrev Cx.fs (X:Cx):Dd:=frs X.outer
def aK (sc:LX)(x:Str):Prop:=sc.names.lookup x=some .local\/sc.names.lookup x=some .cell\/sc.names.lookup x=some .free
def Loc (sc:LX)(x:Str):Prop:=sc.names.lookup x=some .local\/sc.names.lookup x=some .cell
def Look (env:Env)(h:Ej)(m:Str->Dc)(x:Str)(u:D2):Prop :=
 (env.kindOf x=some .local/\m x=some u)\/((env.kindOf x=some .cell\/env.kindOf x=some .free)/\∃c,env.cells.lookup x=some c/\h.IsCell c (some u))
structure Cx.Ok (X:Cx):Prop where
 mod:Mod X.K X.mg X.base
 kind:X.env.scope.kind=.function
 glob:X.env.globals=Ed
 blt:X.env.builtins=builtinsNs
 above:X.s₀.heap.objs.size<=X.env.locals
 inj:∀x y c,X.env.cells.lookup x=some c->X.env.cells.lookup y=some c->x=y
 has:∀x,(X.env.kindOf x=some .cell\/X.env.kindOf x=some .free)->∃c,X.env.cells.lookup x=some c
 cab:∀x c,X.fn x=true->X.env.cells.lookup x=some c->X.s₀.heap.objs.size<=c
 hd:X.calm=true->X.A.handled=none
 frames:X.A.frames=some X.stack
 stk:X.stack=X.outer\/(X.stack=X.env::X.outer/\X.env.frame=some X.env.locals)
 lW:∀b∈X.ex,b≠X.env.locals/\∀x c,X.env.cells.lookup x=some c->c≠b
 bs:∀b o,X.base.get? b=some o->X.s₀.heap.get? b=some o/\X.H₀ b=none
 oH:X.base.objs.size<=X.s₀.heap.objs.size
 pI:∀b o,X.base.get? b=some o->b∉X.ex
 pJ:∀b∈X.ex,b∉X.fs
 uX:X.s₀.heap.FunFrames X.base X.outer
 nO:∀b∈X.fs,X.H₀ b=none
structure Inv (X:Cx)(Dq:De)(σ:List<|Option V)(H:Hp)(s:D7):Prop where
 ok:X.Ok
 os:s.os=X.s₀.os
 bare:Ml s.gens
 base:Un X.fs X.ex X.H₀ H X.s₀.heap s.heap
 loc:∃m,s.heap.Ns X.env.locals m/\∀(i:Nat) (x:Str) (v:V),X.N[i]?=some x->σ[i]?=some (some v)->aK X.env.scope x->∃u,yw v u/\Look X.env s.heap m x u
 cell:∀x c,X.env.cells.lookup x=some c->∃v,s.heap.IsCell c v
 free:H X.env.locals=none
 v8:∀x c,X.env.cells.lookup x=some c->H c=none
 pin:∀p∈X.pn++Dq,s.heap.get? p.1=some p.2/\H p.1=none/\p.1≠X.env.locals/\p.1∉X.fs/\∀v,p.2.data≠.cell v
 hok:vH X.prog X.w H s.heap
 len:σ.length=X.N.length
section
variable {X:Cx}{Dq:De}{σ:List (Option V)}{H H':Hp}{s:D7}{h':Ej}
theorem Cx.Ok.lQ (ok:X.Ok){b:D1}{o:Obj}(e:X.base.get? b=some o):b∉X.fs:=λc=>by
 have:=(ok.uX.mem c).1;rw[e]at this;cases this
theorem Inv.bs (I:Inv X Dq σ H s):∀b o,X.base.get? b=some o->s.heap.get? b=some o/\H b=none:=λb o e =>
 ⟨I.base.keep b o (I.ok.bs b o e).1 (I.ok.bs b o e).2 (I.ok.lQ e)<|I.ok.pI b o e,I.base.free b o (I.ok.bs b o e).1 (I.ok.bs b o e).2<|I.ok.pI b o e⟩
theorem Inv.bk (I:Inv X Dq σ H s):∀b o,X.base.get? b=some o->s.heap.get? b=some o:=λb o e=>(I.bs b o e).1
theorem Inv.mod (I:Inv X Dq σ H s):Mod X.K X.mg X.base:=I.ok.mod
theorem Inv.vG (I:Inv X Dq σ H s):X.K.In s.heap:=I.ok.mod.mW.keeps I.bk
theorem Inv.lt (I:Inv X Dq σ H s):X.env.locals<s.heap.objs.size:=let ⟨_,hn,_⟩:=I.loc;hn.lt
theorem Inv.sz (I:Inv X Dq σ H s):X.s₀.heap.objs.size<=s.heap.objs.size:=Yn I.ok.above<|Jb I.lt
theorem Inv.lM (I:Inv X Dq σ H s){a:D1}(h:s.heap.objs.size<=a):a∉X.fs:=λb=>by
 obtain⟨_,o,c,_⟩:=I.ok.uX.mem b;exact absurd (Z4 (ZR c)<|Yn I.sz h)<|YO _
theorem Inv.m7 (I:Inv X Dq σ H s):∀x c,X.env.cells.lookup x=some c->c≠X.env.locals:=λx c e z=>by
 obtain⟨v,o,f,hd⟩:=I.cell x c e;obtain⟨m,⟨i,h,g,d,b,_⟩,_⟩:=I.loc;rw[z,d]at f;cases f;rw[b]at hd;cases hd
theorem Inv.uX (I:Inv X Dq σ H s):s.heap.FunFrames X.base X.outer:=by
 have all:∀(l:List Env),(∀b∈frs l,b∈X.fs)->X.s₀.heap.FunFrames X.base l->s.heap.FunFrames X.base l:=by
  intro l
  induction l with
  |nil=>intro _ _;trivial
  |cons env r ih =>
   intro g hl;obtain⟨h,⟨L,o,f,i,j,hd⟩,n⟩:=hl;have c:L∈X.fs:=g L (by unfold frs;rw[Jh,f];exact Zx);obtain⟨p,e⟩:=I.base.slot L o j (I.ok.nO L c) c λz=>I.ok.pJ L z c;exact⟨h,⟨L,_,f,i,e,hd⟩,ih (λb d=>g b (by unfold frs;rw[Jh,f];exact Zw _ d)) n⟩
 exact all X.outer (λ_ d=>d) I.ok.uX
theorem Inv.stack (I:Inv X Dq σ H s):s.heap.FunFrames X.base X.stack:=by
 rcases I.ok.stk with e|⟨e,b⟩
 .rw[e];exact I.uX
 .rw[e];obtain⟨m,c,_⟩:=I.loc;refine .cons (by rw[I.ok.kind];decide) b c ?_ I.uX;exact V9<|Yn I.ok.oH I.ok.above
theorem Inv.rP (I:Inv X Dq σ H s):∀b∈frs X.stack,b∈X.env.locals::X.fs:=λb c=>by
 rcases I.ok.stk with e|⟨e,d⟩
 .rw[e]at c;exact Zw _ c
 .rw[e]at c;unfold frs at c;rw[Jh,d]at c;exact c
theorem Inv.qy (I:Inv X Dq σ H s):∀b∈frs X.stack,H b=none:=λb c=>by
 rcases ZI.mp (I.rP b c) with e|c
 .rw[e];exact I.free
 .obtain⟨_,o,d,_⟩:=I.ok.uX.mem c;exact I.base.free b o d (I.ok.nO b c) λz=>I.ok.pJ b z c
theorem Inv.step {g':Array GenState}{t':Nat}{d':Drawn}{ch:Dd}(I:Inv X Dq σ H s)
  (h:∀b∈ch,(b∈X.ex\/X.s₀.heap.objs.size<=b)/\b≠X.env.locals/\(∀x c,X.env.cells.lookup x=some c->c≠b)/\∀p∈X.pn++Dq,p.1≠b)
  (keep:∀b o,b≠X.env.locals->b∉X.fs->b∉ch->s.heap.get? b=some o->H b=none->h'.get? b=some o)
  (slot:∀b o,b≠X.env.locals->b∈X.fs->b∉ch->s.heap.get? b=some o->H b=none->∃sl,h'.get? b=some { o with slots:=sl }) (free:∀b o,b∉ch->s.heap.get? b=some o->H b=none->H' b=none)
  (there:∀b o,b∉ch->s.heap.get? b=some o->∃o',h'.get? b=some o')
  (tups:∀b xs,H b=some (.tup xs)->H' b=some (.tup xs)) (vz:∀b o u,H b=some (.frz o u)->H' b=some (.frz o u)) (uW:∀b ps,H b=some (.tbl ps)->∃more,H' b=some (.tbl<|ps++more))
  (ns:∀m,s.heap.Ns X.env.locals m->h'.Ns X.env.locals m) (hok:vH X.prog X.w H' h') (L:Ml g') :
  Inv X Dq σ H' { s with heap:=h',gens:=g',drawn:=d',toks:=t' }:=by
 have D:∀b o,X.s₀.heap.get? b=some o->b≠X.env.locals:=λb o e=>ZX<|Z4 (ZR e) I.ok.above;have y:∀b o,X.s₀.heap.get? b=some o->b∉X.ex->b∉ch:=λb o e f A=>by
  rcases(h b A).1 with z|z
  .exact f z
  .exact absurd (Z4 (ZR e) z) (YO _)
 have g:∀x c,X.env.cells.lookup x=some c->∀v,s.heap.IsCell c v->h'.IsCell c v:=λx c e v ⟨o,B,hd⟩=>by
  have j:c∉ch:=λz=>(h c z).2.2.1 x c e rfl
  by_cases F:c∈X.fs
  .obtain⟨sl,q⟩:=slot c o (I.m7 x c e) F j B<|I.v8 x c e;exact⟨_,q,hd⟩
  .exact⟨o,keep c o (I.m7 x c e) F j B<|I.v8 x c e,hd⟩
 refine⟨I.ok,I.os,L,⟨λb o e n A f=>?_,λb o e n A f=>?_,λb o e n f=>?_,λb o e f=>?_,λb xs e=>tups b xs<|I.base.tups b xs e,λb o xs e=>vz b o xs<|I.base.vz b o xs e,λb ps e=>?_⟩,?_,λx c e=>?_,?_,λx c e=>?_,λp G=>?_,hok,I.len⟩
 .exact keep b o (D b o e) A (y b o e f) (I.base.keep b o e n A f) (I.base.free b o e n f)
 .obtain⟨sl,t⟩:=I.base.slot b o e n A f;obtain⟨E,C⟩:=slot b _ (D b o e) A (y b o e f) t<|I.base.free b o e n f;exact⟨E,C⟩
 .obtain⟨o',t⟩:=I.base.there b o e f;exact free b o' (y b o e f) t<|I.base.free b o e n f
 .obtain⟨o',t⟩:=I.base.there b o e f;exact there b o' (y b o e f) t
 .obtain⟨m1,t⟩:=I.base.uW b ps e;obtain⟨m2,C⟩:=uW b _ t;exact⟨m1++m2,by rw[C,Array.append_assoc]⟩
 .obtain⟨m,M,hl⟩:=I.loc;refine⟨m,ns m M,λi x v t C K=>?_⟩;obtain⟨u,r,l⟩:=hl i x v t C K;refine⟨u,r,?_⟩
  rcases l with l|⟨k,c,e,z⟩
  .exact .inl l
  .exact .inr ⟨k,c,e,g x c e _ z⟩
 .obtain⟨v,z⟩:=I.cell x c e;exact⟨v,g x c e v z⟩
 .obtain⟨m,⟨o,_,_,B,_⟩,_⟩:=I.loc;exact free _ o (λz=>(h _ z).2.1 rfl) B I.free
 .obtain⟨v,o,B,hd⟩:=I.cell x c e;exact free c o (λz=>(h c z).2.2.1 x c e rfl) B (I.v8 x c e)
 .obtain⟨e,n,ne,J,d⟩:=I.pin p G;have j:p.1∉ch:=λz=>(h p.1 z).2.2.2 p G rfl;exact⟨keep p.1 p.2 ne J j e n,free p.1 p.2 j e n,ne,J,d⟩
theorem Inv.un {t':Nat}(I:Inv X Dq σ H s)(u:Un X.fs [] H H' s.heap h')(hok:vH X.prog X.w H' h'):Inv X Dq σ H' { s with heap:=h',toks:=t' }:=by
 obtain⟨m,⟨o,q,p,h,r⟩,_⟩:=id I.loc;obtain⟨x,i⟩:=u.any h I.free (by simp);exact I.step (g':=s.gens) (d':=s.drawn) (ch:=[]) (λ_ z=>nomatch z) (λb o _ g _ e n=>u.keep b o e n g<|by simp) (λb o _ g _ e n=>u.slot b o e n g<|by simp) (λb o _ e n=>u.free b o e n<|by simp) (λb o _ e=>u.there b o e<|by simp) u.tups u.vz u.uW (λt j=>by
  obtain⟨v,f,d,c,l⟩:=j;rw[h]at c;cases c;exact⟨_,f,d,i,l⟩) hok I.bare
theorem Inv.call {g':Array GenState}{t':Nat}{d':Drawn}(I:Inv X Dq σ H s)(u:Un (frs X.stack) ch H H' s.heap h')(hok:vH X.prog X.w H' h')(t:Ml g')
  (f:∀b∈ch,(b∈X.ex\/X.s₀.heap.objs.size<=b)/\b≠X.env.locals/\(∀x c,X.env.cells.lookup x=some c->c≠b)/\∀p∈X.pn++Dq,p.1≠b) :
  Inv X Dq σ H' { s with heap:=h',gens:=g',drawn:=d',toks:=t' }:=by
 obtain⟨m,⟨o,B,A,l,r⟩,_⟩:=id I.loc;obtain⟨E,j⟩:=u.any l I.free λz=>(f _ z).2.1 rfl;exact I.step (ch:=ch) f (λb o j q d e n=>u.keep b o e n (λz=>(ZI.mp<|I.rP b z).elim j q) d) (λb o _ _ d e n=>u.any e n d) (λb o d e n=>u.free b o e n d) (λb o d e=>u.there b o e d) u.tups u.vz u.uW (λC v=>by
  obtain⟨D,i,h,g,y⟩:=v;rw[l]at g;cases g;exact⟨_,i,h,j,y⟩) hok t
theorem Inv.turned {t':Nat}{it:D1}(I:Inv X Dq σ H s)(k:∀b o,b≠it->s.heap.get? b=some o->h'.get? b=some o)(A:H it=none)(g:it≠X.env.locals)
  (j:it∈X.ex\/X.s₀.heap.objs.size<=it) (l:∀x c,X.env.cells.lookup x=some c->c≠it) (t:∀p∈X.pn++Dq,p.1≠it):Inv X Dq σ H { s with heap:=h',toks:=t' }:=by
 have f:∀b u,H b=some u->b≠it:=λb u e z=>by rw[z,A]at e;cases e
 refine I.step (g':=s.gens) (d':=s.drawn) (ch:=[it]) (λb w=>?_) (λb o _ _ d e _=>k b o (λz=>d<|by simp[z]) e) (λb o _ _ d e _=>⟨o.slots,k b o (λz=>d<|by simp[z]) e⟩) (λ_ _ _ _ n=>n)
  (λb o d e=>⟨o,k b o (λz=>d<|by simp[z]) e⟩) (λ_ _ e=>e) (λ_ _ _ e=>e) (λb C e=>⟨#[],by rw[e];simp⟩) (λm y=>?_) (λb u e=>?_) I.bare
 .have e:b=it:=by simpa using w
  subst e;exact⟨j,g,l,t⟩
 .obtain⟨o,i,h,B,r⟩:=y;exact⟨o,i,h,k _ o (Eh g) B,r⟩
 .refine(I.hok b u e).stay (λc v d q=>k c v ?_ q) (λ_ q=>q) λ_ _ q=>q
  rcases d with z|z
  .rw[z];exact f b u e
  .exact f c _ z
theorem Inv.tok (I:Inv X Dq σ H s)(t:Nat):Inv X Dq σ H { s with toks:=t }:=I.un (h':=s.heap) (t':=t) Un.refl I.hok
theorem Inv.kept {t':Nat}(I:Inv X Dq σ H s)(k:∀b u,s.heap.get? b=some u->h'.get? b=some u):Inv X Dq σ H { s with heap:=h',toks:=t' }:=I.un (Un.kept k)<|I.hok.kept k
theorem Inv.laid {a:D1}{t':Nat}(I:Inv X Dq σ H s)(k:∀b u,s.heap.get? b=some u->h'.get? b=some u)(c:s.heap.objs.size<=a)(new:yq X.prog X.w (upd H a o) h' a o) :
  Inv X Dq σ (upd H a o) { s with heap:=h',toks:=t' }:=I.un (Un.laid k c<|I.hok.fresh c)<|I.hok.laid k c new
theorem Inv.write {x e:D1}{o:HO}{t':Nat}(I:Inv X Dq σ H s)(d:S8<|H x)(he:e=x\/H e=some (.own x))(k:∀b u,b≠e->s.heap.get? b=some u->h'.get? b=some u)(c:∃u,h'.get? e=some u)
  (new:yq X.prog X.w (upd H x o) h' x o):Inv X Dq σ (upd H x o) { s with heap:=h',toks:=t' }:=I.un (Un.write d he k c)<|I.hok.write d he k c new
theorem Inv.vZ {b:De}(I:Inv X Dq σ H s)(h:∀p∈b,s.heap.get? p.1=some p.2/\H p.1=none/\p.1≠X.env.locals/\p.1∉X.fs/\∀v,p.2.data≠.cell v):Inv X b σ H s :=
 ⟨I.ok,I.os,I.bare,I.base,I.loc,I.cell,I.free,I.v8,λp c=>(ZZ.mp c).elim (λz=>I.pin p<|Yw _ z) (h p),I.hok,I.len⟩
theorem Hz {N:Da}(e:N.Nodup){i j:Nat}{x:Str}(a:N[i]?=some x)(b:N[j]?=some x):i=j:=by
 obtain⟨f,c⟩:=ZO.mp a;obtain⟨g,d⟩:=ZO.mp b;exact(YQ e).mp (c.trans d.symm)
theorem G7 {M:Model}{A:Em}{E:D2->Dh}{i:Nat}{x:Str}{Q:Unit->Dh}(I:Inv X Dq σ H s)(hN:X.N.Nodup)(S:X.N[i]?=some x)(B:Loc X.env.scope x)(r:yw v u)
  (h:∀s',Inv X Dq (σ.set i (some v)) H s'->(∃a,Ez a s.heap s'.heap/\(a=X.env.locals\/X.env.cells.lookup x=some a))->Q () s') (hf:X.fn x=true\/X.env.scope.names.lookup x=some .local:=by first|exact .inl rfl|exact .inr rfl|assumption):D4 M A (storeName X.env x u) Q E s:=by
 obtain⟨m,hn,hl⟩:=id I.loc;have R:(X.env.scope.kind==.class||(X.env.scope.kind==.module&&X.env.locals !=X.env.globals))=false:=by rw[I.ok.kind];rfl
 have F:i<σ.length:=by rw[I.len];exact(ZO.mp S).1
 have m7:=I.m7;have l:∀{a:D1} {h':Ej},(∃o,s.heap.get? a=some o/\H a=none)->Ez a s.heap h'->vH X.prog X.w H h':=λ{a h'} ha f b ob e=>by
  obtain⟨_,_,C⟩:=ha;refine(I.hok b ob e).stay (λc Y t q=>(f.2 c ?_).trans q) (λ_ q=>q) λ_ _ q=>q;rintro rfl
  rcases t with rfl|t
  .rw[C]at e;cases e
  .rw[C]at t;cases t
 rcases B with G|G
 .refine wpAny_storeName_local G hn (λh' ab f=>?_) R;obtain⟨oL,_,_,ac,_⟩:=id hn;refine h _ ⟨I.ok,I.os,I.bare,⟨λb o e n J B=>?_,λb o e n J B=>?_,I.base.free,λb o e B=>?_,I.base.tups,I.base.vz,I.base.uW⟩,⟨_,ab,λj y v' g D Z=>?_⟩,λy c e=>?_,I.free,I.v8,λp hp=>?_,l ⟨oL,ac,I.free⟩ f,by simpa using I.len⟩ ⟨_,f,.inl rfl⟩
  .exact(f.2 b<|ZX<|Z4 (ZR e) I.ok.above).trans (I.base.keep b o e n J B)
  .obtain⟨sl,g⟩:=I.base.slot b o e n J B;exact⟨sl,(f.2 b<|ZX<|Z4 (ZR e) I.ok.above).trans g⟩
  .obtain⟨o',g⟩:=I.base.there b o e B;exact⟨o',(f.2 b<|ZX<|Z4 (ZR e) I.ok.above).trans g⟩
  .by_cases L:j=i
   .subst L;rw[S]at g;cases g;rw[List.getElem?_set_self F]at D;cases D;exact⟨u,r,.inl ⟨G,by simp⟩⟩
   .rw[List.getElem?_set_ne<|Eh L]at D;obtain⟨u',r',q⟩:=hl j y v' g D Z;refine⟨u',r',?_⟩
    rcases q with⟨k,e⟩|⟨k,c,e,z⟩
    .refine .inl ⟨k,?_⟩;have:y≠x:=λe=>L<|Hz hN g<|e▸S;simp[this,e]
    .exact .inr ⟨k,c,e,z.sameBut f<|m7 y c e⟩
  .obtain⟨Y,z⟩:=I.cell y c e;exact⟨Y,z.sameBut f<|m7 y c e⟩
  .obtain⟨e,n,ne,nf,d⟩:=I.pin p hp;exact⟨(f.2 p.1 ne).trans e,n,ne,nf,d⟩
 .have K:X.fn x=true:=by
   rcases hf with z|z
   .exact z
   .rw[z]at G;cases G
  obtain⟨c,t⟩:=I.ok.has x<|.inl G;obtain⟨Y,z⟩:=I.cell x c t;refine wpAny_storeName_cell I.ok.kind G t z<|λh' O f=>?_;obtain⟨oc,T,ad⟩:=id z;refine h { s with heap:=h' } ⟨I.ok,I.os,I.bare,⟨λb o e n J B=>?_,λb o e n J B=>?_,I.base.free,λb o e B=>?_,I.base.tups,I.base.vz,I.base.uW⟩,⟨m,hn.sameBut f<|Eh<|m7 x c t,λj y v' g D Z=>?_⟩,λy U e=>?_,I.free,I.v8,λp hp=>?_,l ⟨oc,T,I.v8 x c t⟩ f,by simpa using I.len⟩ ⟨c,f,.inr t⟩
  .exact(f.2 b<|ZX<|Z4 (ZR e)<|I.ok.cab x c K t).trans (I.base.keep b o e n J B)
  .obtain⟨sl,g⟩:=I.base.slot b o e n J B;exact⟨sl,(f.2 b<|ZX<|Z4 (ZR e)<|I.ok.cab x c K t).trans g⟩
  .obtain⟨o',g⟩:=I.base.there b o e B;exact⟨o',(f.2 b<|ZX<|Z4 (ZR e)<|I.ok.cab x c K t).trans g⟩
  .by_cases L:j=i
   .subst L;rw[S]at g;cases g;rw[List.getElem?_set_self F]at D;cases D;exact⟨u,r,.inr ⟨.inl G,c,t,O⟩⟩
   .rw[List.getElem?_set_ne<|Eh L]at D;obtain⟨u',r',q⟩:=hl j y v' g D Z;refine⟨u',r',?_⟩
    rcases q with q|⟨k,U,e,z'⟩
    .exact .inl q
    .refine .inr ⟨k,U,e,z'.sameBut f ?_⟩;rintro rfl;exact L<|Hz hN g<|I.ok.inj _ _ _ e t▸S
  .by_cases P:U=c
   .subst P;exact⟨_,O⟩
   .obtain⟨w2,z2⟩:=I.cell y U e;exact⟨w2,z2.sameBut f P⟩
  .obtain⟨e,n,ne,nf,d⟩:=I.pin p hp;refine⟨(f.2 p.1 ?_).trans e,n,ne,nf,d⟩;intro q;rw[q,T]at e;have q':oc=p.2:=Option.some.inj e;exact d Y (by rwa[<-q'])
theorem Kb {M:Model}{A:Em}{E:D2->Dh}{i:Nat}{x:Str}{Q:Unit->Dh}(I:Inv X Dq σ H s)(c:X.N.Nodup)(e:X.N[i]?=some x)(f:Loc X.env.scope x)(r:yw v u)
  (h:∀s',Inv X Dq (σ.set i (some v)) H s'->Q () s') (d:X.fn x=true\/X.env.scope.names.lookup x=some .local:=by first|exact .inl rfl|exact .inr rfl|assumption):D4 M A (storeName X.env x u) Q E s :=
 G7 I c e f r (λs' b _=>h s' b) d
theorem Inv.call' {d:D7}(I:Inv X Dq σ H s)(h:d.os=s.os)(u:Un (frs X.stack) ch H H' s.heap d.heap)(hok:vH X.prog X.w H' d.heap)(g:Ml d.gens)
  (f:∀b∈ch,(b∈X.ex\/X.s₀.heap.objs.size<=b)/\b≠X.env.locals/\(∀x c,X.env.cells.lookup x=some c->c≠b)/\∀p∈X.pn++Dq,p.1≠b):Inv X Dq σ H' d:=by
 obtain⟨h',g',d',t',i⟩:=d;have e:i=s.os:=h;subst e;exact I.call (g':=g') (t':=t') (d':=d') u hok g f
end
abbrev XK:=D2->Option D1->Hp->Prop
abbrev St:=List<|Option V
abbrev VK:=V->Hp->Prop
abbrev TE:=St->Hp->VK->Prop
abbrev TT:=St->Hp->(Bool->Hp->Prop)->Prop
abbrev TA:=St->Hp->(Dj->Hp->Prop)->Prop
structure Ends where
 nx:St->Hp->Prop
 rt:VK
 bk:St->Hp->Prop:=λ_ _=>False
 ct:St->Hp->Prop:=λ_ _=>False
abbrev TS:=Ends->St->Hp->Prop
inductive EP (X:Cx)(Dq:De)(σ:St)(Q:VK)(u:D2)(s':D7):Prop
 |mk (v:V) (H':Hp) (i:Inv X Dq σ H' s') (r:yw v u) (q:Q v H'):EP X Dq σ Q u s'
inductive TP (X:Cx)(Dq:De)(σ:St)(Q:Bool->Hp->Prop)(b:Bool)(s':D7):Prop
 |mk (H':Hp) (i:Inv X Dq σ H' s') (q:Q b H'):TP X Dq σ Q b s'
inductive AP (X:Cx)(Dq:De)(σ:St)(Q:Dj->Hp->Prop)(us:Db)(s':D7):Prop
 |mk (vs:Dj) (H':Hp) (i:Inv X Dq σ H' s') (r:yx vs us) (q:Q vs H'):AP X Dq σ Q us s'
def SP (X:Cx)(d:De)(D:Ends)(f:Flow)(e:D7):Prop :=
 match f with
 | .next=>∃b c,Inv X d b c e/\D.nx b c
 | .brk=>∃b c,Inv X d b c e/\D.bk b c
 | .cont=>∃b c,Inv X d b c e/\D.ct b c
 | .ret u=>∃v b c,Inv X d b c e/\yw v u/\D.rt v c
def PE (X:Cx)(e:Ey)(t:TE):Prop :=
 ∀(c:De) (s:D7) (b:St) (H:Hp) (Q:VK),Inv X c b H s->t b H Q->D4 (Eb X.prog X.w) X.A (EV e X.env) (EP X c b Q) X.xe s
def PT (X:Cx)(e:Ey)(t:TT):Prop :=
 ∀(c:De) (s:D7) (b:St) (H:Hp) (Q:Bool->Hp->Prop),Inv X c b H s->t b H Q->D4 (Eb X.prog X.w) X.A (isTrue e X.env<|EV e X.env) (TP X c b Q) X.xe s
def PW (X:Cx)(e:Ey)(t:TT):Prop :=
 ∀(b:Sem D2) (d:De) (s:D7) (c:St) (H:Hp) (Q:Bool->Hp->Prop),Inv X d c H s->t c H Q->D4 (Eb X.prog X.w) X.A (isTrue e X.env b) (TP X d c Q) X.xe s
theorem PW.pt (h:PW X e t):PT X e t:=h _
def PA (X:Cx)(es:List Ey)(t:TA):Prop :=
 ∀(pos:Pos) (c:De) (s:D7) (b:St) (H:Hp) (Q:Dj->Hp->Prop),Inv X c b H s->t b H Q->D4 (Eb X.prog X.w) X.A (spliced<|La pos<|Ei es X.env) (AP X c b Q) X.xe s
def PS (X:Cx)(st:Er)(t:TS):Prop :=
 ∀(b:De) (s:D7) (c:St) (H:Hp) (D:Ends),Inv X b c H s->t D c H->D4 (Eb X.prog X.w) X.A (exec st X.env) (SP X b D) X.xe s
def sE (X:Cx)(st:List Er)(t:TS):Prop :=
 ∀(b:De) (s:D7) (c:St) (H:Hp) (D:Ends),Inv X b c H s->t D c H->D4 (Eb X.prog X.w) X.A (execs st X.env) (SP X b D) X.xe s
theorem CF {α:Type}{t:Sem α}{Q b:α->Dh}{M:Model}{A:Em}{E:D2->Dh}{s:D7}(h:D4 M A t Q E s)(c:∀a s,Q a s->b a s):D4 M A t b E s:=Y1 h c λ_ _ x=>x
section
variable {X:Cx}
inductive mj (i:Nat)(σ:St)(H:Hp)(Q:VK):Prop
 |mk (v:V) (e:σ[i]?=some (some v)) (q:Q v H):mj i σ H Q
def Rp (i:Nat):TE:=mj i
def tC (v:V):TE:=λ_ H Q=>Q v H
theorem TR {i:Nat}{x:Str}{pos:Pos}(j:X.N[i]?=some x)(hv:aK X.env.scope x)(hd:(x==("__debug__":Str))=false:=by decide)(f:(x==("__classdict__":Str))=false:=by decide):PE X (.Name x pos) (Rp i):=by
 intro g s o H Q I h;obtain⟨v,e,h⟩:=h;obtain⟨m,n,hl⟩:=I.loc;obtain⟨u,r,l⟩:=hl i x v j e hv;have b:EP X g o Q u s:=⟨v,H,I,r,h⟩
 rcases l with⟨d,hm⟩|⟨d,c,hc,hcell⟩
 .exact wpAny_Name (wpAny_loadName_local I.ok.kind d n hm b) hd
 .rcases d with d|d
  .exact wpAny_Name (wpAny_loadName_cell I.ok.kind d hc hcell b) hd
  .exact wpAny_Name (wpAny_loadName_free I.ok.kind d hc hcell b f) hd
theorem zJ {i j pos}:PE X (.Constant (.int i) j pos) (tC<|.int i):=λ_ _ _ H _ I h=>wpAny_Constant_int ⟨.int i,H,I.tok _,⟨_,rfl⟩,h⟩
theorem qY {b j pos}:PE X (.Constant (.bool b) j pos) (tC<|.bl b):=λ_ _ _ H _ I h=>Constant_bool ⟨.bl b,H,I,rfl,h⟩
theorem qK {j pos}:PE X (.Constant .none j pos) (tC .non):=λ_ _ _ H _ I h=>Constant_none ⟨.non,H,I,rfl,h⟩
theorem zr {x j pos}:PE X (.Constant (.str x) j pos) (tC<|.str x):=λ_ _ _ H _ I h=>Calls.Constant_str ⟨.str x,H,I.tok _,⟨_,rfl⟩,h⟩
def Gl (X:Cx)(x:Str):Prop:=X.env.kindOf x=some .globalImplicit
theorem uF {E:D2->Dh}{u:D2}{pos:Pos}{Q:D2->Dh}(I:Inv X Dq σ H s)(b:Gl X x)(c:X.mg x=some u)(h:Q u s)
  (hd:(x==("__debug__":Str))=false:=by decide):D4 (Eb X.prog X.w) X.A (EV (.Name x pos) X.env) Q E s :=
 Calls.Name_function_global I.ok.kind b (Calls.loadGlobal_global (by rw[I.ok.glob];exact I.mod.glob.keeps I.bk) c h) hd
theorem XT {E:D2->Dh}{u:D2}{pos:Pos}{Q:D2->Dh}(I:Inv X Dq σ H s)(d:Gl X x)(e:X.mg x=none)(hv:LA x=some u)(h:Q u s)
  (f:x≠"__name__":=by decide) (hd:(x==("__debug__":Str))=false:=by decide):D4 (Eb X.prog X.w) X.A (EV (.Name x pos) X.env) Q E s:=by
 obtain⟨g,b,c⟩:=I.mod.blt;exact Calls.Name_function_global I.ok.kind d (Calls.loadGlobal_builtin (by rw[I.ok.glob];exact I.mod.glob.keeps I.bk) e (by rw[I.ok.blt];exact b.keeps I.bk) ((c x f).trans hv) h) hd
theorem qH {u:D2}{pos:Pos}(b:Gl X x)(c:X.mg x=some u)(r:yw v u)(hd:(x==("__debug__":Str))=false:=by decide):PE X (.Name x pos) (tC v) :=
 λ_ _ _ H _ I h=>uF I b c ⟨v,H,I,r,h⟩ hd
theorem yW {u:D2}{pos:Pos}(b:Gl X x)(c:X.mg x=none)(hv:LA x=some u)(r:yw v u)(d:x≠"__name__":=by decide)(hd:(x==("__debug__":Str))=false:=by decide):PE X (.Name x pos) (tC v) :=
 λ_ _ _ H _ I h=>XT I b c hv ⟨v,H,I,r,h⟩ d hd
variable {a b:Ey}{ta tb:TE}{pos:Pos}
def PC (X:Cx)(op:CmpOp)(a b:Ey)(t:TE):Prop :=
 ∀(f:De) (s:D7) (e:St) (H:Hp) (Q:VK),Inv X f e H s->t e H Q ->
  D4 (Eb X.prog X.w) X.A (EV a X.env) (λv c=>D4 (Eb X.prog X.w) X.A (EV b X.env) (λu d=>D4 (Eb X.prog X.w) X.A (EC op v u) (EP X f e Q) X.xe d) X.xe c) X.xe s
variable {tA tB':TT}{rest:List Ey}
def bp (t u:TT):TT:=λd H Q=>t d H λc b=>if c=true then u d b Q else Q false b
def tOr (t u:TT):TT:=λd H Q=>t d H λc b=>if c=true then Q true b else u d b Q
def bx (t:TT):TT:=λd H Q=>t d H λc b=>Q (!c) b
theorem M7 (d:PT X a tA):PW X (.BoolOp .And [a] pos) tA:=by
 intro i b s f H Q I h;refine isTrue_and<|CF (d b s f H Q I h) λc g e=>?_;cases c with
 |true=>exact isTrue_and_nil e
 |false=>exact e
theorem Xu (d:PT X a tA):PW X (.BoolOp .Or [a] pos) tA:=by
 intro i b s f H Q I h;refine isTrue_or<|CF (d b s f H Q I h) λc g e=>?_;cases c with
 |false=>exact isTrue_or_nil e
 |true=>exact e
theorem P3 (j:PT X a tA)(l:PW X (.BoolOp .And (b::rest) pos) tB'):PW X (.BoolOp .And (a::b::rest) pos) (bp tA tB'):=by
 intro o d s i H Q I h;refine isTrue_and<|CF (j d s i H _ I h) λc n ⟨e,f,g⟩=>?_;cases c with
 |true=>exact l o d n i e Q f g
 |false=>exact⟨e,f,g⟩
theorem IX (j:PT X a tA)(l:PW X (.BoolOp .Or (b::rest) pos) tB'):PW X (.BoolOp .Or (a::b::rest) pos) (tOr tA tB'):=by
 intro o d s i H Q I h;refine isTrue_or<|CF (j d s i H _ I h) λc n ⟨e,f,g⟩=>?_;cases c with
 |true=>exact⟨e,f,g⟩
 |false=>exact l o d n i e Q f g
theorem y6 (f:PT X a tA):PT X (.UnaryOp .Not a pos) (bx tA):=by
 intro b s g H Q I h;exact isTrue_not<|CF (f b s g H (λc e=>Q (!c) e) I h) λc j z=>z.casesOn λd i q=>⟨d,i,q⟩
def aa (ta tb:TE):TE:=λd H Q=>ta d H λx b=>∃c,x=.bl c/\if c=true then tb d b Q else Q (.bl false) b
def bz (ta tb:TE):TE:=λd H Q=>ta d H λx b=>∃c,x=.bl c/\if c=true then Q (.bl true) b else tb d b Q
theorem xN (h:PE X a t):PE X (.BoolOp op [a] pos) t:=λb s d H Q I c=>BoolOp_one<|h b s d H Q I c
theorem yZ (j:PE X a ta)(l:PE X (.BoolOp .And (b::rest) pos) tb):PE X (.BoolOp .And (a::b::rest) pos) (aa ta tb):=by
 intro e s i H Q I h;refine BoolOp_and<|CF (j e s i H _ I h) λv o ⟨x,f,g,n,d⟩=>?_;obtain⟨c,rfl,d⟩:=d;cases n;refine Ju ?_;cases c with
 |true=>exact l e o i f Q g d
 |false=>exact⟨.bl false,f,g,rfl,d⟩
theorem PM (j:PE X a ta)(l:PE X (.BoolOp .Or (b::rest) pos) tb):PE X (.BoolOp .Or (a::b::rest) pos) (bz ta tb):=by
 intro e s i H Q I h;refine BoolOp_or<|CF (j e s i H _ I h) λv o ⟨x,f,g,n,d⟩=>?_;obtain⟨c,rfl,d⟩:=d;cases n;refine Ju ?_;cases c with
 |false=>exact l e o i f Q g d
 |true=>exact⟨.bl true,f,g,rfl,d⟩
def bH (t:TT)(ta tb:TE):TE:=λb H Q=>t b H λc d=>if c=true then ta b d Q else tb b d Q
theorem kX (p:PT X c tA)(n:PE X a ta)(o:PE X b tb):PE X (.IfExp c a b pos) (bH tA ta tb):=by
 intro e s f H Q I h;refine wpAny_IfExp<|CF (p e s f H _ I h) λd l ⟨g,i,j⟩=>?_;cases d with
 |true=>exact n e l f g Q i j
 |false=>exact o e l f g Q i j
end
def yj (K:CB)(H:Hp)(a:D1)(xs:Dj):Prop :=
 Rd H a (.lst xs) \/
  ∃(o:Obj) (b:Array D2) (n:Nat),K.lookup a=some o/\o.cls=.type "list"/\o.dict=none/\o.data=.seq b n/\b.size<=sizeLine/\yx xs b.toList
def xj (K:CB)(H:Hp)(a:D1)(xs:Dj):Prop :=
 Rd H a (.tup xs) \/
  ∃(o:Obj) (b:Array D2) (n:Nat),K.lookup a=some o/\o.cls=.type "tuple"/\o.dict=none/\o.data=.seq b n/\b.size<=sizeLine/\yx xs b.toList
def aM:D2->Option V
 | .none=>some .non
 | .bool b=>some<|.bl b
 | .int i _=>some<|.int i
 | .str x _=>some<|.str x
 | .bytes b _=>some<|.byt b
 | .float b _=>some<|.flt b
 | .ref a=>some<|.ref a
 | .type n=>some<|.ty n
 |_=>none
theorem yw.abs (r:yw x u):aM u=some x:=by
 cases x with
 |non=>cases r;rfl
 |bl _=>cases r;rfl
 |int _=>obtain⟨t,rfl⟩:=r;rfl
 |str _=>obtain⟨t,rfl⟩:=r;rfl
 |byt _=>obtain⟨t,rfl⟩:=r;rfl
 |flt _=>obtain⟨t,rfl⟩:=r;rfl
 |ref _=>cases r;rfl
 |ty _=>cases r;rfl
theorem yw.inj (r:yw x u)(q:yw y u):x=y:=Option.some.inj<|r.abs.symm.trans q.abs
theorem yx.inj:∀{xs ys:Dj} {us:Db},yx xs us->yx ys us->xs=ys
 |_,_,_,.nil,.nil=>rfl
 |_,_,_,.cons r t,.cons r' t'=>by rw[r.inj r',yx.inj t t']
section
variable {X:Cx}{Dq:De}{σ:St}{H:Hp}{s:D7}{a:D1}{xs ys:Dj}
theorem yj.of {K:CB}(h:H a=some (.lst xs)):yj K H a xs:=.inl<|.inl h
theorem xj.of {K:CB}(h:H a=some (.tup xs)):xj K H a xs:=.inl<|.inl h
theorem Inv.list (I:Inv X Dq σ H s)(h:yj X.K H a xs):∃its:Db,yx xs its/\PlainL s.heap a its.toArray/\xs.length<=sizeLine:=by
 rcases h with h|⟨o,its,n,c,b,hd,d,f,r⟩
 .obtain⟨z,its,n,r,e⟩:=h.ok I.hok;exact⟨its,r,⟨_,n,e,rfl,rfl,rfl⟩,z⟩
 .refine⟨its.toList,r,⟨o,n,I.vG a o c,b,hd,by simpa using d⟩,?_⟩;have e:=r.length;simp only[ZU]at e;lia
theorem Inv.m5 (I:Inv X Dq σ H s)(h:xj X.K H a xs):∃its:Db,yx xs its/\TupAt s.heap a its.toArray/\xs.length<=sizeLine:=by
 rcases h with h|⟨o,its,n,d,c,b,f,g,r⟩
 .obtain⟨z,its,r,p⟩:=h.ok I.hok;exact⟨its,r,p,z⟩
 .refine⟨its.toList,r,⟨o,I.vG a o d,c,n,by simpa using f,b⟩,?_⟩;have e:=r.length;simp only[ZU]at e;lia
theorem Inv.tuple (I:Inv X Dq σ H s)(h:xj X.K H a xs):∃its:Db,yx xs its/\IsTup s.heap a its.toArray/\xs.length<=sizeLine:=by
 obtain⟨its,r,p,z⟩:=I.m5 h;exact⟨its,r,p.is,z⟩
theorem Inv.pF (I:Inv X Dq σ H s)(h:yj X.K H a xs)(h':yj X.K H a ys):xs=ys:=by
 obtain⟨b,r,⟨o,n,e,_,_,d⟩,_⟩:=I.list h;obtain⟨g,j,⟨p,l,f,_,_,c⟩,_⟩:=I.list h';rw[e]at f;cases f;rw[d]at c;injection c with i _;have:b=g:=by simpa using congrArg Array.toList i
 subst this;exact r.inj j
theorem Inv.qb (I:Inv X Dq σ H s)(h:xj X.K H a xs)(h':xj X.K H a ys):xs=ys:=by
 obtain⟨b,r,⟨o,e,_,n,d⟩,_⟩:=I.tuple h;obtain⟨g,j,⟨p,f,_,l,c⟩,_⟩:=I.tuple h';rw[e]at f;cases f;rw[d]at c;injection c with i _;have:b=g:=by simpa using congrArg Array.toList i
 subst this;exact r.inj j
end
abbrev Cx.wish (X:Cx)(E:D2->Dh):Cx:={ X with xe:=E }
abbrev Cx.lV (X:Cx):Cx:=X.wish λ_ _=>False
theorem Cx.Ok.wish {X:Cx}(ok:X.Ok)(E:D2->Dh):(X.wish E).Ok :=
 ⟨ok.mod,ok.kind,ok.glob,ok.blt,ok.above,ok.inj,ok.has,ok.cab,ok.hd,ok.frames,ok.stk,ok.lW,ok.bs,ok.oH,ok.pI,ok.pJ,ok.uX,ok.nO⟩
theorem Cx.Ok.vO {X:Cx}{E:D2->Dh}(ok:(X.wish E).Ok):X.Ok :=
 ⟨ok.mod,ok.kind,ok.glob,ok.blt,ok.above,ok.inj,ok.has,ok.cab,ok.hd,ok.frames,ok.stk,ok.lW,ok.bs,ok.oH,ok.pI,ok.pJ,ok.uX,ok.nO⟩
section
variable {X:Cx}{Dq:De}{σ:St}{H:Hp}{s:D7}{E:D2->Dh}
theorem Inv.wish (I:Inv X Dq σ H s)(E:D2->Dh):Inv (X.wish E) Dq σ H s:=⟨I.ok.wish E,I.os,I.bare,I.base,I.loc,I.cell,I.free,I.v8,I.pin,I.hok,I.len⟩
theorem Inv.vO (I:Inv (X.wish E) Dq σ H s):Inv X Dq σ H s:=⟨I.ok.vO,I.os,I.bare,I.base,I.loc,I.cell,I.free,I.v8,I.pin,I.hok,I.len⟩
theorem SP.vO (h:SP (X.wish E) Dq D f s'):SP X Dq D f s':=by
 cases f with
 |next=>obtain⟨b,c,I,q⟩:=h;exact⟨b,c,I.vO,q⟩
 |brk=>obtain⟨b,c,I,q⟩:=h;exact⟨b,c,I.vO,q⟩
 |cont=>obtain⟨b,c,I,q⟩:=h;exact⟨b,c,I.vO,q⟩
 |ret u=>obtain⟨v,b,c,I,r,q⟩:=h;exact⟨v,b,c,I.vO,r,q⟩
theorem sE.lV {st:List Er}(h:sE X.lV st t):sE X st t:=λDq s σ H D I b =>
 Y1 (h Dq s σ H D (I.wish _) b) (λ_ _ q=>q.vO) λ_ _ z=>Ew z
end
section
variable {X:Cx}{st:Er}{rest:List Er}{t u:TS}{e:Ey}{te:TE}{pos:Pos}
def Kh:TS:=λD b H=>D.nx b H
def Ro (t u:TS):TS:=λD b H=>t { D with nx:=u D } b H
theorem zP:sE X [] Kh:=λ_ _ b H _ I h=>Uc ⟨b,H,I,h⟩
theorem zD (g:PS X st t)(i:sE X rest u):sE X (st::rest) (Ro t u):=by
 intro c s l H D I h;refine UD<|CF (g c s l H { D with nx:=u D } I h) λf j q=>?_;cases f with
 |next =>
  obtain⟨b,d,e,q⟩:=q;exact i c j b d D e q
 |ret v=>exact q
 |brk=>exact q
 |cont=>exact q
theorem zE (c:PS X st t):sE X [st] t:=by
 intro b s d H D I h;refine UD<|CF (c b s d H D I h) λf e q=>?_;cases f with
 |next=>exact Uc q
 |ret v=>exact q
 |brk=>exact q
 |cont=>exact q
theorem Inv.quiet (I:Inv X Dq σ H s):interactive X.env=false:=by simp[interactive,I.ok.kind]
def aj (te:TE):TS:=λD b H=>te b H λ_ c=>D.nx b c
theorem z8 (he:PE X e te)(hs:L8 e none pos.line X.env=E7 false:=by rfl):PS X (.Expr e pos) (aj te):=by
 intro c s b H D I h;exact wpAny_Expr_any (CF (he c s b H _ I h) λv j ⟨x,d,f,i,g⟩=>⟨b,d,f,g⟩) I.quiet hs
def bA (te:TE):TS:=λD b H=>te b H D.rt
theorem zL (he:PE X e te):PS X (.Return (some e) pos) (bA te):=by
 intro c s b H D I h;exact wpAny_Return_some<|CF (he c s b H _ I h) λv j ⟨x,d,f,i,g⟩=>⟨x,b,d,f,i,g⟩
def bw (c:TT)(t u:TS):TS:=λD d H=>c d H λb e=>if b=true then t D d e else u D d e
theorem yD (p:PT X c tc)(n:sE X a t)(o:sE X b u):PS X (.If c a b pos) (bw tc t u):=by
 intro e s f H D I h;refine wpAny_If<|CF (p e s f H _ I h) λd l ⟨g,i,j⟩=>?_;cases d with
 |true=>exact n e l f g D i j
 |false=>exact o e l f g D i j
def Rn:TS:=λ_ _ _=>False
theorem yT:PS X st Rn:=λ_ _ _ _ _ _ h=>h.elim
theorem BF:sE X sts Rn:=λ_ _ _ _ _ _ h=>h.elim
end
abbrev TG:=V->St->Hp->(St->Hp->Prop)->Prop
abbrev Tb:=Dj->St->Hp->(St->Hp->Prop)->Prop
def PG (X:Cx)(b:Ey)(t:TG):Prop :=
 ∀(d:De) (s:D7) (f:St) (H:Hp) (v:V) (u:D2) (Q:St->Hp->Prop),Inv X d f H s->yw v u->t v f H Q ->
  D4 (Eb X.prog X.w) X.A (assign b X.env u) (λ_ g=>∃c e,Inv X d c e g/\Q c e) X.xe s
def mU (X:Cx)(h:List Ey)(t:Tb):Prop :=
 ∀(c:De) (s:D7) (f:St) (H:Hp) (vs:Dj) (e:Db) (Q:St->Hp->Prop),Inv X c f H s->yx vs e->t vs f H Q ->
  D4 (Eb X.prog X.w) X.A (assignInOrder ((LP h X.env).map (·.2)) e) (λ_ g=>∃b d,Inv X c b d g/\Q b d) X.xe s
section
variable {X:Cx}{pos:Pos}
def Xo (i:Nat):TG:=λv b H Q=>Q (b.set i (some v)) H
theorem zO {i:Nat}{x:Str}(c:X.N.Nodup)(e:X.N[i]?=some x)(f:Loc X.env.scope x)(d:X.fn x=true\/X.env.scope.names.lookup x=some .local:=by first|exact .inl rfl|exact .inr rfl|assumption):PG X (.Name x pos) (Xo i):=by
 intro g s l H v u Q I r h;exact wpAny_assign_Name<|Kb I c e f r (λj b=>⟨_,H,b,h⟩) d
def aP:Tb:=λvs b H Q=>vs=[]/\Q b H
inductive oE (t:TG)(u:Tb)(vs:Dj)(σ:St)(H:Hp)(Q:St->Hp->Prop):Prop
 |mk (v:V) (r:Dj) (e:vs=v::r) (q:t v σ H λσ' H'=>u r σ' H' Q):oE t u vs σ H Q
theorem qR:mU X [] aP:=by
 intro c s b H vs d Q I r h;obtain⟨e,h⟩:=h;subst e;cases r;exact assignInOrder_nil ⟨b,H,I,h⟩
theorem yF (i:PG X e t)(j:mU X es u)
  (hs:(LP (e::es) X.env).map (·.2)=assign e X.env::(LP es X.env).map (·.2):=by rfl):mU X (e::es) (oE t u):=by
 intro c s o H vs p Q I r h;obtain⟨v,q,g,h⟩:=h;subst g;cases r with
 |cons r rr =>
  rw[hs];refine assignInOrder_cons<|CF (i c s o H _ _ _ I r h) λ_ n ⟨b,d,f,l⟩=>?_;exact j c n b d _ _ Q f rr l
inductive mY (K:CB)(n:Nat)(t:Tb)(v:V)(σ:St)(H:Hp)(Q:St->Hp->Prop):Prop
 |mk (a:D1) (xs:Dj) (e:v=.ref a) (h:xj K H a xs) (l:xs.length=n) (q:t xs σ H Q):mY K n t v σ H Q
theorem kP {k:Nat}{n:Nat}(q:X.calm=true)(h:mU X es t)
  (w:(LP es X.env).length=n:=by rfl) (c:(LP es X.env).findIdx? (·.1)=none:=by rfl):PG X (.Tuple es k pos) (mY X.K n t):=by
 intro f s i H v u Q I r d;obtain⟨a,B,l,x,hl,d⟩:=d;subst l;cases r;obtain⟨A,g,y,C⟩:=I.tuple x;refine assign_Tuple_tuple (I.ok.hd q) y (by simp[w,<-hl,g.length]) c λp z=>?_;have j:Inv X f i H { s with heap:=p }:=I.kept (t':=s.toks) λb o e=>z b o (ZX<|ZR e) e;exact h f _ i H B _ Q j (by simpa using g) d
def N8 (d:TE)(g:TG):TS:=λD b H=>d b H λx c=>g x b c D.nx
theorem PR (he:PE X e te)(j:PG X tg g)(hs:swapsWithSole [tg] e pos.line X.env=E7 false:=by rfl)(l:swappedStores [tg] e X.env=E7 none:=by rfl)
  (i:(LP [tg] X.env).map (·.2)=[assign tg X.env]:=by rfl):PS X (.Assign [tg] e pos) (N8 te g):=by
 intro b s c H D I h;refine wpAny_Assign_stores (CF (he b s c H _ I h) λv p ⟨x,d,f,o,n⟩=>?_) hs l;rw[i];exact CF (j b p c d x v _ f o n) λ_ r q=>q
theorem zN {i:Nat}{x:Str}{b:Pos}(j:X.N.Nodup)(n:X.N[i]?=some x)(o:Loc X.env.scope x)(he:PE X e te)(hs:L8 e (some<|.Name x b) pos.line X.env=E7 false:=by rfl)(l:X.fn x=true\/X.env.scope.names.lookup x=some .local:=by first|exact .inl rfl|exact .inr rfl|assumption) :
  PS X (.Assign [.Name x b] e pos) (N8 te<|Xo i):=by
 intro c s r H D I h;refine wpAny_Assign_Name (CF (he c s r H _ I h) λv t ⟨y,d,f,q,p⟩=>?_) hs;exact Kb f j n o q (λu g=>⟨_,d,g,p⟩) l
theorem CK {i:Nat}{x:Str}{b:Pos}(c:X.N.Nodup)(he:PE X e te)(f:X.N[i]?=some x:=by rfl)(g:Loc X.env.scope x:=by first|exact Et rfl|exact Or.inr rfl)(hs:L8 e (some<|.Name x b) pos.line X.env=E7 false:=by rfl)(d:X.fn x=true\/X.env.scope.names.lookup x=some .local:=by first|exact .inl rfl|exact .inr rfl|assumption):PS X (.Assign [.Name x b] e pos) (N8 te<|Xo i):=zN c f g he hs d
def Rq (c:TT)(i:TS):TS:=λD d H=>∃W:Nat->St->Hp->Prop,(∃m,W m d H)/\∀m d H,W m d H ->
 c d H λb g=>if b=true then∃N:St->Hp->Prop,(∀e f,N e f->∃h,h<m/\W h e f)/\i { D with nx:=N,ct:=N,bk:=D.nx } d g else D.nx d g
theorem PV (E:PassesOwn (Eb X.prog X.w) X.A X.env X.xe)(J:PT X c tc)(G:sE X body tb):PS X (.While c body [] pos) (Rq tc tb):=by
 intro p s R H D I h;obtain⟨W,⟨K,P⟩,i⟩:=h;refine wpAny_While<|codeAny_whileLoop (λn L=>∃j x,Inv X p j x L/\W n j x) ?_ K ⟨R,H,I,P⟩;rintro n M ⟨e,y,F,Q⟩;refine JJ E<|CF (J p M e y _ F<|i n e y Q) λb O ⟨z,B,l⟩=>?_;cases b with
 |true =>
  obtain⟨N,C,l⟩:=l;rw[ZS rfl];refine JJ E<|CF (G p O e z _ B l) λf S o=>?_;cases f with
  |next =>
   obtain⟨d,g,q,n3⟩:=o;obtain⟨t,r,u⟩:=C d g n3;exact⟨t,r,d,g,q,u⟩
  |cont =>
   obtain⟨d,g,q,n3⟩:=o;obtain⟨t,r,u⟩:=C d g n3;exact⟨t,r,d,g,q,u⟩
  |brk=>exact o
  |ret v=>exact o
 |false =>
  rw[ZM Yc];exact Uc ⟨e,z,B,l⟩
end
structure It where
 go:Nat->Hp->Prop
 rW:Nat->Hp->V->Hp->Prop
 stop:Nat->Hp->Prop
def XR (X:Cx)(d:De)(H:Hp)(b:D1):Prop :=
 H b=none/\b≠X.env.locals/\b∉X.fs/\(b∈X.ex\/X.s₀.heap.objs.size<=b)/\(∀x c,X.env.cells.lookup x=some c->c≠b)/\∀p∈X.pn++d,p.1≠b
theorem Inv.tu {H':Hp}{b:D1}(I:Inv X Dq σ H s)(d:s.heap.objs.size<=b)(f:H' b=none):XR X Dq H' b:=by
 refine⟨f,J6<|Z4 I.lt d,I.lM d,.inr<|Yn I.sz d,λx c e z=>?_,λp g z=>?_⟩
 .obtain⟨v,q⟩:=I.cell x c e;exact absurd (Z4 q.lt<|by rwa[z])<|YO _
 .exact absurd (Z4 (ZR (I.pin p g).1)<|by rwa[z]) (YO _)
structure qz (U:Cx->Prop)(P:D3)(w:D6)(K:CB)(tg:Ey)(J:It)(fp:Dd)(it:D1)(tn:Nat->Ej->Prop):Prop where
 mem:it∈fp
 obj:∀i h,tn i h->∀b∈fp,∃o,h.get? b=some o/\∀v,o.data≠.cell v
 keep:∀i h h',tn i h->(∀b∈fp,∀o,h.get? b=some o->h'.get? b=some o)->tn i h'
 item:∀(X:Cx),X.prog=P->X.w=w->X.K=K->U X->∀(i:Nat) (Dq:De) (s:D7) (σ:St) (H:Hp) (E:D2->Dh),Inv X Dq σ H s->(∀b∈fp,XR X Dq H b)->tn i s.heap->J.go i H ->
  D4 (Eb P w) X.A (LQ<|.ref it) (λr s1=>∃u,r=some u /\ D4 (Eb P w) X.A (LI tg (.ref it) u) (λ_ s2=>∃x H',Inv X Dq σ H' s2/\yw x u/\J.rW i H x H'/\tn (i+1) s2.heap/\∀b∈fp,H' b=none) E s1) E s
 done:∀(X:Cx),X.prog=P->X.w=w->X.K=K->U X->∀(i:Nat) (Dq:De) (s:D7) (σ:St) (H:Hp) (E:D2->Dh),Inv X Dq σ H s->(∀b∈fp,XR X Dq H b)->tn i s.heap->J.stop i H ->
  D4 (Eb P w) X.A (LQ<|.ref it) (λr s1=>r=none/\Inv X Dq σ H s1) E s
 self:∀(A:Em) (i:Nat) (s:D7) (Q:D2->Dh) (E:D2->Dh),tn i s.heap->Q (.ref it) s->D4 (Eb P w) A (pyIter<|.ref it) Q E s
abbrev Turn:=qz λX=>X.calm=true
abbrev TI:=St->Hp->(It->Hp->Prop)->Prop
def WA (U:Cx->Prop)(X:Cx)(e:De)(σ:St)(j:Ey)(R:It->Hp->Prop)(d:D2)(h:D7):Prop :=
 ∃(g:D1) (f:Dd) (i:Nat->Ej->Prop) (J:It) (c:Hp),d=.ref g/\Inv X e σ c h/\qz U X.prog X.w X.K j J f g i/\i 0 h.heap/\(∀b∈f,XR X e c b)/\R J c
abbrev PIE:=WA λX=>X.calm=true
def bF (U:Cx->Prop)(X:Cx)(f b:Ey)(g:TI):Prop :=
 ∀(d:De) (s:D7) (c:St) (H:Hp) (R:It->Hp->Prop),Inv X d c H s->g c H R ->
  D4 (Eb X.prog X.w) X.A (EV b X.env) (λv e=>D4 (Eb X.prog X.w) X.A (pyIter v) (WA U X d c f R) X.xe e) X.xe s
def PI (X:Cx)(c b:Ey)(d:TI):Prop:=bF (λX=>X.calm=true) X c b d
theorem MK {M:Model}{A:Em}{E:D2->Dh}{s:D7}{c:Ey}{it:D1}{u:D2}{o:Obj}{n:String}{vs:Array D2}{Q:Unit->Dh}(f:s.heap.get? it=some o)(d:o.cls=.type n)(hd:o.data=.fields vs)
  (e:["enumerate","zip","dict_itemiterator","dict_reverseitemiterator","odict_iterator","itertools.zip_longest","itertools.pairwise"].contains n=false) (b:Q () s):D4 M A (LI c (.ref it) u) Q E s:=by
 unfold LI;cases c<;>first
  |exact Zy b
  | (cases u<;>first
    |exact Zy b
    | (refine Zt (wpAny_load f ?_)
       rw[d,hd];show D4 M A (if(["enumerate","zip","dict_itemiterator","dict_reverseitemiterator","odict_iterator","itertools.zip_longest","itertools.pairwise"].contains n&&vs[0]?==some (EX _))=true then _ else _) Q E s;rw[ZM (by intro h;rw[e,VL]at h;cases h)];exact Zy b))
def RA (K:CB)(a:D1):It :=
 ⟨λi H=>∃b x,yj K H a b/\b[i]?=some x,λi H x c=>c=H/\∀b,yj K H a b->b[i]?=some x,λi H=>∃b,yj K H a b/\b.length<=i⟩
def Rx (K:CB)(a:D1):It :=
 ⟨λi H=>∃b x,xj K H a b/\b[i]?=some x,λi H x c=>c=H/\∀b,xj K H a b->b[i]?=some x,λi H=>∃b,xj K H a b/\b.length<=i⟩
def RB (lo:Int)(n:Nat):It:=⟨λi _=>i<n,λi H x b=>b=H/\x=.int (lo+i),λi _=>n<=i⟩
theorem Mo {U:Cx->Prop}{stop:Nat->Hp->Prop}{P:D3}{w:D6}{K:CB}(a it:D1)(y:∀(X:Cx),X.prog=P->X.w=w->X.K=K->U X->∀(i:Nat) (Dq:De) (s:D7) (σ:St) (H:Hp) (E:D2->Dh),Inv X Dq σ H s->(∀b∈[it],XR X Dq H b)->s.heap.IsListIter it a i->stop i H->D4 (Eb P w) X.A (LQ<|.ref it) (λr s1=>r=none/\Inv X Dq σ H s1) E s):qz U P w K tg ⟨(RA K a).go,(RA K a).rW,stop⟩ [it] it (λi h=>h.IsListIter it a i) where
 mem:=by simp
 obj:=λi h st b f=>by
  have e:b=it:=by simpa using f
  subst e;obtain⟨o,e,c,d⟩:=st;exact⟨o,e,λv z=>by rw[d]at z;cases z⟩
 keep:=λi h j st k=>st.at λo e=>k it (by simp) o e
 item:=by
  intro X J N G Z i Dq s σ H E I l st L;subst J N G;obtain⟨xs,x,n,q⟩:=L;obtain⟨Q,S,p,hz⟩:=I.list n;obtain⟨u,M,R⟩:=S.get q;obtain⟨B,C,Y,D,F,f5⟩:=l it (by simp);refine wpAny_pyNext_list_item st p.isList (x:=u) (by simpa using M) λj g T=>?_;have t:Inv X Dq σ H { s with heap:=j }:=I.turned (t':=s.toks) (λb o f e=>(T.2 b f).trans e) B C D F f5;obtain⟨o,e,c,d⟩:=id g;exact⟨u,rfl,MK (s:={ s with heap:=j }) e c d (by decide) ⟨x,H,t,R,⟨rfl,λys O=>by rw[I.pF O n];exact q⟩,g,λb f=>(l b f).1⟩⟩
 done:=y
 self:=λ_ _ _ _ _ st h=>wpAny_pyIter_listiter st h
theorem Oa {K:CB}(a it:D1):Turn P w K tg (RA K a) [it] it (λi h=>h.IsListIter it a i):=Mo a it (by
  intro X n x l r i A s J H E I t st u;subst n x l;obtain⟨G,v,D⟩:=u;obtain⟨y,z,p,F⟩:=I.list v;obtain⟨d,f,B,g,j,f5⟩:=t it (by simp);have hl:=z.length;exact wpAny_pyNext_list_end (I.ok.hd r) st p.isList (by simp;lia) λC c=>⟨rfl,I.turned (t':=s.toks) (λb o q e=>c b o q e) d f g j f5⟩)
theorem Mr {K:CB}(a it:D1):Turn P w K tg (Rx K a) [it] it (λi h=>h.IsTupleIter it a i) where
 mem:=by simp
 obj:=λi h st b f=>by
  have e:b=it:=by simpa using f
  subst e;obtain⟨o,e,c,d⟩:=st;exact⟨o,e,λv z=>by rw[d]at z;cases z⟩
 keep:=λi h l st k=>st.at λo e=>k it (by simp) o e
 item:=by
  intro X C F B M i L s N H E I n st D;subst C F B;obtain⟨xs,x,q,G⟩:=D;obtain⟨g,J,p,U⟩:=I.tuple q;obtain⟨u,S,Y⟩:=J.get G;obtain⟨r,t,R,y,A,f5⟩:=n it (by simp);refine wpAny_pyNext_tuple_item st (show s.heap.IsTuple a g.toArray from p) (x:=u) (by simpa using S) λl j Z=>?_;have O:Inv X L N H { s with heap:=l }:=I.turned (t':=s.toks) (λb o f e=>(Z.2 b f).trans e) r t y A f5;obtain⟨o,e,c,d⟩:=id j;exact⟨u,rfl,MK (s:={ s with heap:=l }) e c d (by decide) ⟨x,H,O,Y,⟨rfl,λys T=>by rw[I.qb T q];exact G⟩,j,λb f=>(n b f).1⟩⟩
 done:=by
  intro X C F B M i L s N H E I n st D;subst C F B;obtain⟨xs,q,G⟩:=D;obtain⟨g,J,p,U⟩:=I.tuple q;obtain⟨r,t,R,y,A,f5⟩:=n it (by simp);have hl:=J.length;exact wpAny_pyNext_tuple_end (I.ok.hd M) st (show s.heap.IsTuple a g.toArray from p) (by simp;lia) λl Q=>⟨rfl,I.turned (t':=s.toks) (λb o f e=>Q b o f e) r t y A f5⟩
 self:=λ_ _ _ _ _ st h=>wpAny_pyIter_tupleiter st h
theorem Mq {K:CB}(it:D1)(lo:Int)(n:Nat):Turn P w K tg (RB lo n) [it] it (λi h=>IsRangeIter h it (lo+(i:Nat)*1) ((n:Int)-(i:Nat)) 1) where
 mem:=by simp
 obj:=λi h st b c=>by
  have e:b=it:=by simpa using c
  subst e;exact⟨_,st,λv z=>by
   have M:Data.fields _=Data.cell v:=z;cases M⟩
 keep:=λi h f st k=>k it (by simp) _ st
 item:=by
  intro X u A r x i B s D H E I g st y;subst u A r;obtain⟨j,l,J,p,q,f5⟩:=g it (by simp);have W:=Walks.range (prog:=X.prog) (w:=X.w) (I.ok.hd x) it lo 1 n;refine W.item i s _ _ y st λv f C hv d L=>?_;obtain⟨t,rfl⟩:=hv;have F:Inv X B D H { s with heap:=f,toks:=C }:=I.turned (λb o c e=>L b o (by simpa using c) e) j l p q f5;refine⟨_,rfl,MK (s:={ s with heap:=f,toks:=C }) (n:="range_iterator") d rfl rfl (by decide) ⟨.int<|lo+i,H,F,⟨t,?_⟩,⟨rfl,rfl⟩,d,λb c=>(g b c).1⟩⟩;rw[Int.mul_one]
 done:=by
  intro X u A r x i B s D H E I g st y;subst u A r;obtain⟨j,l,J,p,q,f5⟩:=g it (by simp);exact wpAny_pyNext_range_end (I.ok.hd x) st (by have:n<=i:=y;lia) λf G=>⟨rfl,I.turned (t':=s.toks) (λb o c e=>G b o c e) j l p q f5⟩
 self:=λ_ _ _ _ _ st h=>wpAny_pyIter_rangeiter st h
section
variable {X:Cx}{tg:Ey}
def WQ (K:CB)(c:TE):TI:=λe H R=>c e H λx b=>∃a,x=.ref a/\(∃d,yj K b a d)/\R (RA K a) b
def aR (K:CB)(c:TE):TI:=λe H R=>c e H λx b=>∃a,x=.ref a/\(∃d,xj K b a d)/\R (Rx K a) b
theorem xC (hl:PE X l tl):PI X tg l (WQ X.K tl):=by
 intro f s u H R I h;refine CF (hl f s u H _ I h) λv d ⟨x,g,c,t,r⟩=>?_;obtain⟨a,e,⟨z,j⟩,q⟩:=r;subst e;cases t;obtain⟨n,y,p,w⟩:=c.list j;refine J9 p.isList ?_;refine⟨d.heap.objs.size,[d.heap.objs.size],_,_,g,rfl,c.kept (t':=d.toks) λb o e=>ZC _ e,Oa a _,⟨_,ZK _ rfl,rfl,rfl⟩,λb i=>?_,q⟩;have e:b=d.heap.objs.size:=by simpa using i
 subst e;exact c.tu (ZB _)<|c.hok.fresh<|ZB _
theorem jV (hl:PE X l tl):PI X tg l (aR X.K tl):=by
 intro g s u H R I h;refine CF (hl g s u H _ I h) λv c ⟨x,i,d,t,r⟩=>?_;obtain⟨a,e,⟨z,n⟩,q⟩:=r;subst e;cases t;obtain⟨f,y,p,w⟩:=d.tuple n;refine wpAny_pyIter_tuple (show c.heap.IsTuple a f.toArray from p) ?_;refine⟨c.heap.objs.size,[c.heap.objs.size],_,_,i,rfl,d.kept (t':=c.toks) λb o e=>ZC _ e,Mr a _,⟨_,ZK _ rfl,rfl,rfl⟩,λb j=>?_,q⟩;have e:b=c.heap.objs.size:=by simpa using j
 subst e;exact d.tu (ZB _)<|d.hok.fresh<|ZB _
theorem HP {R:It->Hp->Prop}{E:D2->Dh}{lo c:Int}{t u v:Tok}{f:Nat}(I:Inv X Dq σ H s)(i:-(2 ^ 62)<=lo)(j:lo<2 ^ 62)(l:-(2 ^ 62)<=c)(n:c<2 ^ 62)
  (q:R (RB lo (c-lo).toNat) H):D4 (Eb X.prog X.w) X.A (pyIter<|.ref s.heap.objs.size) (PIE X Dq σ tg R) E { s with heap:=s.heap.push { cls:=.type "range",data:=.fields #[.int lo t,.int c u,.int 1 v] },toks:=f }:=by
 refine wpAny_pyIter_range (IsRange.new ..) (small_one i j l n) ?_;have d:Inv X Dq σ H { s with heap:=s.heap.push { cls:=.type "range",data:=.fields #[.int lo t,.int c u,.int 1 v] },toks:=f }:=I.kept λb o e=>ZC _ e;refine⟨(s.heap.push { cls:=.type "range",data:=.fields #[.int lo t,.int c u,.int 1 v] }).objs.size,[(s.heap.push { cls:=.type "range",data:=.fields #[.int lo t,.int c u,.int 1 v] }).objs.size],_,_,H,rfl,d.kept (t':=f) λb o e=>ZC _ e,Mq _ lo (c-lo).toNat,?_,λb p=>?_,q⟩
 .have g:lo+((0:Nat):Int)*1=lo:=by simp
  have h:(((c-lo).toNat:Nat):Int)-((0:Nat):Int)=Builtin.Range.rangeSize lo c 1:=by rw[rangeSize_one];split<;>lia
  show IsRangeIter _ _ (lo+((0:Nat):Int)*1) ((((c-lo).toNat:Nat):Int)-((0:Nat):Int)) 1;rw[g,h];exact ZK _ rfl
 .have e:b=(s.heap.push { cls:=.type "range",data:=.fields #[.int lo t,.int c u,.int 1 v] }).objs.size:=by simpa using p
  subst e;exact d.tu (ZB _)<|d.hok.fresh<|ZB _
def WR (c:TA):TI:=λd H R=>c d H λvs b=>∃j:Int,vs=[.int j]/\-(2 ^ 62)<=j/\j<2 ^ 62/\R (RB 0 j.toNat) b
def WS (c:TA):TI:=λd H R=>c d H λvs b=>∃i j:Int,vs=[.int i,.int j]/\(-(2 ^ 62)<=i/\i<2 ^ 62/\-(2 ^ 62)<=j/\j<2 ^ 62)/\R (RB i (j-i).toNat) b
theorem qU {a:Ey}{p pos:Pos}(g:Gl X "range")(i:X.mg "range"=none)(f:PA X [a] ta)(hs:Ei [a] X.env=[(false,EV a X.env)]:=by rfl):PI X tg (.Call (.Name "range" p) [a] [] pos) (WR ta):=by
 intro c s o H R I h;refine Call_<|XT I g i boot_range<|Va (CF (f pos c s o H _ I h) λw v ⟨vs,u,d,n,b⟩=>?_) hs rfl;obtain⟨j,e,b,l,q⟩:=b;subst e;cases n with
 |cons r rr =>
  cases rr;obtain⟨t,rfl⟩:=r;exact call_range_1 (HP d (by lia) (by lia) b l<|by simpa using q)
theorem N3 {a b:Ey}{p pos:Pos}(n:Gl X "range")(o:X.mg "range"=none)(l:PA X [a,b] ta)(hs:Ei [a,b] X.env=[(false,EV a X.env),(false,EV b X.env)]:=by rfl)(c:Ei [b] X.env=[(false,EV b X.env)]:=by rfl) :
  PI X tg (.Call (.Name "range" p) [a,b] [] pos) (WS ta):=by
 intro f s y H R I h;refine Call_ (XT I n o boot_range<|Va (CF (l pos f s y H _ I h) λC A ⟨vs,z,g,x,d⟩=>?_) (by rw[hs,c]) (by rw[c];rfl));obtain⟨i,j,e,⟨d,u,v,w⟩,q⟩:=d;subst e;cases x with
 |cons r rr =>
  cases rr with
  |cons r' rr =>
   cases rr;obtain⟨t,rfl⟩:=r;obtain⟨B,rfl⟩:=r';exact call_range_2<|HP g d u v w q
def bu (n:TI)(g:TG)(l:TS):TS:=λD b H=>n b H λJ h=>∃W:Nat->Nat->St->Hp->Prop,(∃m,W 0 m b h)/\∀i m b H,W i m b H ->
 (J.stop i H/\D.nx b H)\/(J.go i H/\∃N:St->Hp->Prop,(∀d c,N d c->∃f,f<m/\W (i+1) f d c)/\∀x c,J.rW i H x c->g x b c λe j=>l { D with nx:=N,ct:=N,bk:=D.nx } e j)
def XQ (fp:Dd)(h:Ej):De:=fp.filterMap λb=>(h.get? b).map λo=>(b,o)
theorem jB {fp:Dd}{h:Ej}{b:D1}{o:Obj}(c:b∈fp)(e:h.get? b=some o):(b,o)∈XQ fp h:=VA.mpr ⟨b,c,by rw[e];rfl⟩
theorem NX {p:D1×Obj}(f:p∈XQ fp h):p.1∈fp/\h.get? p.1=some p.2:=by
 obtain⟨b,d,e⟩:=VA.mp f;cases q:h.get? b with
 |none=>rw[q]at e;cases e
 |some o =>
  rw[q]at e;have c:(b,o)=p:=Option.some.inj e;subst c;exact⟨d,q⟩
theorem Inv.pinned {fp:Dd}(I:Inv X Dq σ H s)(j:∀b∈fp,XR X Dq H b)(l:∀b∈fp,∃o,s.heap.get? b=some o/\∀v,o.data≠.cell v):Inv X (Dq++XQ fp s.heap) σ H s :=
 I.vZ λp n=>(ZZ.mp n).elim (λz=>I.pin p<|Z5 _ z) λz=>by
  obtain⟨f,e⟩:=NX z;obtain⟨g,h,i,_⟩:=j p.1 f;obtain⟨o,c,d⟩:=l p.1 f;rw[e]at c;cases c;exact⟨e,g,h,i,d⟩
theorem Inv.ut {b pl:De}(I:Inv X (b++pl) σ H s):Inv X b σ H s:=I.vZ λp c=>I.pin p<|Z5 _<|Yw _ c
theorem yY {pos:Pos}(K:PassesOwn (Eb X.prog X.w) X.A X.env X.xe)(hc:X.calm=true)(hi:PI X tg iter wi)(hg:PG X tg g)(p:sE X body tb)
  (hs:∀x,LZ iter X.env x=E7 x:=by intro _;rfl):PS X (.For tg iter body [] pos) (bu wi g tb):=by
 intro C s σ H D I h;refine wpAny_For (CF (hi C s σ H _ I h) λv s1 h1=>CF h1 λab s2 h2=>?_) hs;obtain⟨it,F,tn,J,H2,e,I2,T,Y,f2,W,⟨m0,w0⟩,O⟩:=h2;subst e;have q:∀{z:Hp},(∀b∈F,z b=none)->∀b∈F,XR X C z b:=λhn b p=>⟨hn b p,(f2 b p).2⟩;refine codeAny_forLoop_any (λn s'=>∃i t z,Inv X C t z s'/\tn i s'.heap/\(∀b∈F,z b=none)/\W i n t z) ?_ m0 ⟨0,σ,H2,I2,Y,λb p=>(f2 b p).1,w0⟩;rintro n s3 ⟨i,y,P,I3,M,G,w3⟩
 rcases O i n y P w3 with⟨stop,qn⟩|⟨go,N,hN,step⟩
 .refine JJ K (CF (T.done X rfl rfl rfl hc i C s3 y P X.xe I3 (q G) M stop) λr s4 ⟨S,I4⟩=>?_);subst S;exact Uc ⟨y,P,I4,qn⟩
 .refine JJ K (CF (T.item X rfl rfl rfl hc i C s3 y P X.xe I3 (q G) M go) λr s4 ⟨u,S,h4⟩=>?_);subst S;refine JJ K<|CF h4 λ_ s5 hh=>?_;obtain⟨x,H5,I5,r5,y5,E,R⟩:=hh;have Q:=I5.pinned (q R)<|T.obj _ _ E;refine JJ K<|CF (hg _ s5 y H5 x u _ Q r5<|step x H5 y5) λ_ s6 ⟨Z,H6,I6,q6⟩=>?_;refine JJ K<|CF (p _ s6 Z H6 _ I6 q6) λf U B=>?_;have again:∀{c:St} {j:Hp},Inv X (C++XQ F s5.heap) c j U->N c j->∃m,m<n/\∃i t z,Inv X C t z U/\tn i U.heap/\(∀b∈F,z b=none)/\W i m t z:=λ{c j} l L=>by
   obtain⟨m',hm,w7⟩:=hN c j L;refine⟨m',hm,i+1,c,j,l.ut,T.keep _ _ _ E λb p o e=>(l.pin (b,o)<|Z5 _<|Z5 _<|jB p e).1,λb p=>?_,w7⟩;obtain⟨o,e,d⟩:=T.obj _ _ E b p;exact(l.pin (b,o)<|Z5 _<|Z5 _<|jB p e).2.1
  cases f with
  |next=>obtain⟨c,j,l,L⟩:=B;exact again l L
  |cont=>obtain⟨c,j,l,L⟩:=B;exact again l L
  |brk=>obtain⟨c,j,l,B⟩:=B;exact⟨c,j,l.ut,B⟩
  |ret v=>obtain⟨x7,c,j,l,r7,B⟩:=B;exact⟨x7,c,j,l.ut,r7,B⟩
end
theorem jH {K:CB}{xs:Dj}{g:TG}{d:TS}{D:Ends}{σ:St}{H:Hp}(b:Nat->St->Hp->Prop)(f:b 0 σ H)(hl:∀i σ H,i<=xs.length->b i σ H->yj K H a xs)
  (hs:∀i x σ H,xs[i]?=some x->b i σ H->g x σ H λσ2 H2=>d { D with nx:=b<|i+1,ct:=b<|i+1,bk:=D.nx } σ2 H2) (hd:∀σ H,b xs.length σ H->D.nx σ H) :
  ∃W:Nat->Nat->St->Hp->Prop,(∃m,W 0 m σ H)/\∀i m σ H,W i m σ H ->
   ((RA K a).stop i H/\D.nx σ H)\/((RA K a).go i H/\∃N:St->Hp->Prop,(∀σ' H',N σ' H'->∃m',m'<m/\W (i+1) m' σ' H')/\∀x H',(RA K a).rW i H x H'->g x σ H' λσ2 H2=>d { D with nx:=N,ct:=N,bk:=D.nx } σ2 H2):=by
 refine⟨λi m σ H=>m=xs.length-i/\i<=xs.length/\b i σ H,⟨xs.length,by simp,Yf _,f⟩,?_⟩;rintro i m σ H ⟨rfl,h,p⟩;have q:=hl i σ H h p
 by_cases c:i<xs.length
 .refine .inr ⟨⟨xs,xs[i],q,by simp[c]⟩,b<|i+1,λσ' H' j=>⟨xs.length-(i+1),by lia,rfl,c,j⟩,λx H' y=>?_⟩;obtain⟨e,y⟩:=y;subst e;exact hs i x σ _ (y xs q) p
 .have e:i=xs.length:=by lia
  subst e;exact .inl ⟨⟨xs,q,ZB _⟩,hd σ H p⟩
theorem uC {K:CB}{xs:Dj}{g:TG}{d:TS}{D:Ends}{σ:St}{H:Hp}(b:Nat->St->Hp->Prop)(f:b 0 σ H)(hl:∀i σ H,i<=xs.length->b i σ H->xj K H a xs)
  (hs:∀i x σ H,xs[i]?=some x->b i σ H->g x σ H λσ2 H2=>d { D with nx:=b<|i+1,ct:=b<|i+1,bk:=D.nx } σ2 H2) (hd:∀σ H,b xs.length σ H->D.nx σ H) :
  ∃W:Nat->Nat->St->Hp->Prop,(∃m,W 0 m σ H)/\∀i m σ H,W i m σ H ->
   ((Rx K a).stop i H/\D.nx σ H)\/((Rx K a).go i H/\∃N:St->Hp->Prop,(∀σ' H',N σ' H'->∃m',m'<m/\W (i+1) m' σ' H')/\∀x H',(Rx K a).rW i H x H'->g x σ H' λσ2 H2=>d { D with nx:=N,ct:=N,bk:=D.nx } σ2 H2):=by
 refine⟨λi m σ H=>m=xs.length-i/\i<=xs.length/\b i σ H,⟨xs.length,by simp,Yf _,f⟩,?_⟩;rintro i m σ H ⟨rfl,h,p⟩;have q:=hl i σ H h p
 by_cases c:i<xs.length
 .refine .inr ⟨⟨xs,xs[i],q,by simp[c]⟩,b<|i+1,λσ' H' j=>⟨xs.length-(i+1),by lia,rfl,c,j⟩,λx H' y=>?_⟩;obtain⟨e,y⟩:=y;subst e;exact hs i x σ _ (y xs q) p
 .have e:i=xs.length:=by lia
  subst e;exact .inl ⟨⟨xs,q,ZB _⟩,hd σ H p⟩
theorem XC {lo:Int}{n:Nat}{g:TG}{d:TS}{D:Ends}{σ:St}{H:Hp}(b:Nat->St->Hp->Prop)(f:b 0 σ H)
  (hs:∀i σ H,i<n->b i σ H->g (.int<|lo+i) σ H λσ2 H2=>d { D with nx:=b<|i+1,ct:=b<|i+1,bk:=D.nx } σ2 H2) (hd:∀σ H,b n σ H->D.nx σ H) :
  ∃W:Nat->Nat->St->Hp->Prop,(∃m,W 0 m σ H)/\∀i m σ H,W i m σ H ->
   ((RB lo n).stop i H/\D.nx σ H)\/((RB lo n).go i H/\∃N:St->Hp->Prop,(∀σ' H',N σ' H'->∃m',m'<m/\W (i+1) m' σ' H')/\∀x H',(RB lo n).rW i H x H'->g x σ H' λσ2 H2=>d { D with nx:=N,ct:=N,bk:=D.nx } σ2 H2):=by
 refine⟨λi m σ H=>m=n-i/\i<=n/\b i σ H,⟨n,by simp,Yf _,f⟩,?_⟩;rintro i m σ H ⟨rfl,j,p⟩
 by_cases c:i<n
 .refine .inr ⟨c,b<|i+1,λσ' H' h=>⟨n-(i+1),by lia,rfl,c,h⟩,λx H' y=>?_⟩;obtain⟨e,y⟩:=y;subst e y;exact hs i σ _ c p
 .have e:i=n:=by lia
  subst e;exact .inl ⟨ZB _,hd σ H p⟩
theorem Ru {c:TT}{f:TS}{D:Ends}{σ:St}{H:Hp}(d:St->Hp->Prop)(e:St->Hp->Nat)(g:d σ H)
  (hs:∀σ H,d σ H->c σ H λb H1=>if b=true then f { D with nx:=λσ' H'=>d σ' H'/\e σ' H'<e σ H,ct:=λσ' H'=>d σ' H'/\e σ' H'<e σ H,bk:=D.nx } σ H1 else D.nx σ H1)
  (mono:∀σ H Q Q',(∀b H1,Q b H1->Q' b H1)->c σ H Q->c σ H Q'):Rq c f D σ H:=by
 refine⟨λm σ H=>m=e σ H/\d σ H,⟨_,rfl,g⟩,?_⟩;rintro m σ H ⟨rfl,p⟩;refine mono σ H _ _ (λb H1 q=>?_)<|hs σ H p;cases b with
 |true=>exact⟨_,λσ' H' ⟨h,l⟩=>⟨_,l,rfl,h⟩,q⟩
 |false=>exact q
abbrev R2:=V->V->Hp->VK->Prop
def CS (X:Cx)(f:D2->D2->Sem D2)(r:R2):Prop :=
 ∀(b:De) (s:D7) (c:St) (H:Hp) (x y:V) (v u:D2) (Q:VK),Inv X b c H s->yw x v->yw y u->r x y H Q ->
  D4 (Eb X.prog X.w) X.A (f v u) (EP X b c Q) X.xe s
def xg (X:Cx)(f:D2)(r:Dj->Hp->VK->Prop):Prop :=
 ∀(b:De) (s:D7) (e:St) (H:Hp) (d:Dj) (c:Db) (Q:VK),Inv X b e H s->yx d c->r d H Q ->
  D4 (Eb X.prog X.w) X.A (call f c) (EP X b e Q) X.xe s
def aJ (X:Cx)(r:V->Hp->(Bool->Hp->Prop)->Prop):Prop :=
 ∀(b:De) (s:D7) (c:St) (H:Hp) (x:V) (v:D2) (Q:Bool->Hp->Prop),Inv X b c H s->yw x v->r x H Q ->
  D4 (Eb X.prog X.w) X.A (truthy v) (TP X b c Q) X.xe s
def aq (r:R2)(e f:TE):TE:=λb H Q=>e b H λx c=>f b c λy d=>r x y d Q
inductive rI (C:Int->Int->Prop)(g:Int->Int->V)(x y:V)(H:Hp)(Q:VK):Prop
 |mk (i j:Int) (e:x=.int i) (f:y=.int j) (c:C i j) (q:Q (g i j) H):rI C g x y H Q
inductive m8 (g:Int->Int->V)(x y:V)(H:Hp)(Q:VK):Prop
 |mk (i j:Int) (e:x=.int i) (f:y=.int j) (q:Q (g i j) H):m8 g x y H Q
section
variable {X:Cx}{a b c:Ey}{ta tb tc:TE}{pos:Pos}
theorem Tg (g:PE X a ta)(i:PE X b tb){c:De}{s:D7}{σ:St}{H:Hp}{R:V->V->Hp->Prop}(I:Inv X c σ H s)
  (h:ta σ H λx H1=>tb σ H1 λy H2=>R x y H2) {Q:D2->Dh} {f:D2->D2->Sem D2}
  (j:∀v u s2 x y H2,Inv X c σ H2 s2->yw x v->yw y u->R x y H2->D4 (Eb X.prog X.w) X.A (f v u) Q X.xe s2) :
  D4 (Eb X.prog X.w) X.A (EV a X.env) (λv s₁=>D4 (Eb X.prog X.w) X.A (EV b X.env) (λu s₂=>D4 (Eb X.prog X.w) X.A (f v u) Q X.xe s₂) X.xe s₁) X.xe s:=by
 refine CF (g c s σ H _ I h) λv q ⟨x,H1,d,o,l⟩=>?_;refine CF (i c q σ H1 _ d l) λu s2 ⟨y,H2,e,p,n⟩=>?_;exact j v u s2 x y H2 e o p n
theorem zY {op:Operator}(i:CS X (Mc op) r)(f:PE X a ta)(g:PE X b tb):PE X (.BinOp a op b pos) (aq r ta tb):=by
 intro c s o H Q I h;exact wpAny_BinOp<|Tg f g I h λv u n x y d e j l q=>i c n o d x y v u Q e j l q
theorem aV {f:D2->D2->Sem D2}{C:Int->Int->Prop}{g:Int->Int->Int}
  (b:∀(i j:Int) (t u:Tok) (s:D7) (Q:D2->Dh) (E:D2->Dh),C i j->Q (.int (g i j) s.toks) { s with toks:=s.toks+1 }->D4 (Eb X.prog X.w) X.A (f (.int i t)<|.int j u) Q E s) :
  CS X f (rI C λi j=>.int<|g i j):=by
 intro n s o H x y v u Q I d e h;obtain⟨i,j,rfl,rfl,c,q⟩:=h;obtain⟨t,rfl⟩:=d;obtain⟨l,rfl⟩:=e;exact b i j t l s _ _ c ⟨.int<|g i j,H,I.tok _,⟨_,rfl⟩,q⟩
theorem aW {f:D2->D2->Sem D2}{g:Int->Int->Int}
  (b:∀(i j:Int) (t u:Tok) (s:D7) (Q:D2->Dh) (E:D2->Dh),Q (.int (g i j) s.toks) { s with toks:=s.toks+1 }->D4 (Eb X.prog X.w) X.A (f (.int i t)<|.int j u) Q E s) :
  CS X f (m8 λi j=>.int<|g i j):=by
 intro l s n H x y v u Q I c d h;obtain⟨i,j,rfl,rfl,q⟩:=h;obtain⟨t,rfl⟩:=c;obtain⟨e,rfl⟩:=d;exact b i j t e s _ _ ⟨.int<|g i j,H,I.tok _,⟨_,rfl⟩,q⟩
theorem TK {f:D2->D2->Sem D2}{g:Int->Int->Bool}
  (b:∀(i j:Int) (t u:Tok) (s:D7) (Q:D2->Dh) (E:D2->Dh),Q (.bool<|g i j) s->D4 (Eb X.prog X.w) X.A (f (.int i t)<|.int j u) Q E s) :
  CS X f (m8 λi j=>.bl<|g i j):=by
 intro l s n H x y v u Q I c d h;obtain⟨i,j,rfl,rfl,q⟩:=h;obtain⟨t,rfl⟩:=c;obtain⟨e,rfl⟩:=d;exact b i j t e s _ _ ⟨.bl<|g i j,H,I,rfl,q⟩
def aG (i j:Int):Prop:=0<j/\j<1073741824
def nG (i j:Int):Prop:=(-(2 ^ 64)<i/\i<2 ^ 64)\/(-(2 ^ 64)<j/\j<2 ^ 64)
theorem nG.ok (h:nG i j):IntMulOk i j:=by
 rcases h with⟨h1,h2⟩|⟨h1,h2⟩
 .exact .of_left (intBits_le_64 h1 h2)
 .exact .of_right (intBits_le_64 h1 h2)
theorem xK:CS X (Mc .Add) (m8 λi j=>.int<|i+j):=aW λ_ _ _ _ _ _ _ q=>add_int q
theorem Gh:CS X (Mc .Mult) (rI nG λi j=>.int<|i*j):=aV λ_ _ _ _ _ _ _ b q=>mul_int q b.ok
theorem x8:CS X (Mc .FloorDiv) (rI aG λi j=>.int<|i / j):=aV λi j _ _ _ _ _ b q=>by
 have c:(0:Int)<j:=b.1;have d:j<1073741824:=b.2;exact floordiv_int (by lia) (by rwa[Int.fdiv_eq_ediv_of_nonneg i<|by lia]) (.inl<|PyProof.noPylong_small<|by lia)
theorem xM:CS X (Mc .Mod) (rI (λ_ j=>0<j) λi j=>.int<|i % j):=aV λi j _ _ _ _ _ b q=>by
 have c:(0:Int)<j:=b;exact mod_int' (by lia) (by rwa[Int.fmod_eq_emod_of_nonneg i<|by lia])
def W8 (x y:V):Bool:=match x with
 | .int _=>(match y with|.int _=>true|_=>false)
 | .str _=>(match y with|.str _=>true|_=>false)
 |_=>false
def rEq:R2:=λx y H Q=>W8 x y=true/\Q (.bl<|decide (x=y)) H
def rNe:R2:=λx y H Q=>W8 x y=true/\Q (.bl<|!decide (x=y)) H
theorem MB {i j:Int}:decide (V.int i=V.int j)=(i==j):=by
 rw[YL];simp
theorem MC {i j:Str}:decide (V.str i=V.str j)=(i==j):=by
 rw[YL];simp
theorem XL {Q:VK}{k b:Bool}(I:Inv X Dq σ H s)(q:Q (.bl k) H)(e:k=b):EP X Dq σ Q (.bool b) s:=by
 subst e;exact⟨.bl k,H,I,rfl,q⟩
theorem qM:CS X (EC .Eq) rEq:=by
 intro f s g H x y v u Q I c d h;obtain⟨b,q⟩:=h;cases x with
 |int i =>
  obtain⟨t,rfl⟩:=c;cases y with
  |int j=>obtain⟨e,rfl⟩:=d;exact eq_int<|XL I q MB
  |_=>exact absurd (show false=true from b) Yc
 |str i =>
  obtain⟨t,rfl⟩:=c;cases y with
  |str j=>obtain⟨e,rfl⟩:=d;exact eq_str<|XL I q MC
  |_=>exact absurd (show false=true from b) Yc
 |_=>exact absurd (show false=true from b) Yc
theorem MW:CS X (EC .NotEq) rNe:=by
 intro f s g H x y v u Q I c d h;obtain⟨b,q⟩:=h;cases x with
 |int i =>
  obtain⟨t,rfl⟩:=c;cases y with
  |int j=>obtain⟨e,rfl⟩:=d;exact ne_int<|XL I q<|congrArg not MB
  |_=>exact absurd (show false=true from b) Yc
 |str i =>
  obtain⟨t,rfl⟩:=c;cases y with
  |str j=>obtain⟨e,rfl⟩:=d;exact ne_str<|XL I q<|congrArg not MC
  |_=>exact absurd (show false=true from b) Yc
 |_=>exact absurd (show false=true from b) Yc
theorem WW:CS X (EC .Lt) (m8 λi j=>.bl<|decide (i<j)):=TK λ_ _ _ _ _ _ _ q=>lt_int q
theorem HE:CS X (EC .LtE) (m8 λi j=>.bl<|decide (i<=j)):=TK λ_ _ _ _ _ _ _ q=>le_int q
theorem HD:CS X (EC .Gt) (m8 λi j=>.bl<|decide (j<i)):=TK λ_ _ _ _ _ _ _ q=>gt_int q
theorem K0:CS X (EC .Is) (λx y H Q=>y=.non/\Q (.bl<|decide (x=.non)) H):=by
 intro d s e H x y v u Q I b c h;obtain⟨rfl,q⟩:=h;cases c;refine is_none_gen<|XL I q ?_;cases x<;>first
  |(cases b;rfl)
  |(obtain⟨t,rfl⟩:=b;rfl)
theorem Ix:CS X (EC .IsNot) (λx y H Q=>y=.non/\Q (.bl<|!decide (x=.non)) H):=by
 intro d s e H x y v u Q I b c h;obtain⟨rfl,q⟩:=h;cases c;refine isnot_none_gen<|XL I q ?_;cases x<;>first
  |(cases b;rfl)
  |(obtain⟨t,rfl⟩:=b;rfl)
theorem z4 (b:Ey){op:CmpOp}(h:op≠.In:=by decide)(e:op≠.NotIn:=by decide):behindInMarks op b=false:=by
 have c:(op==CmpOp.In)=false:=by cases op<;>first|rfl|exact absurd rfl h
 have d:(op==CmpOp.NotIn)=false:=by cases op<;>first|rfl|exact absurd rfl e
 cases b<;>simp[behindInMarks,c,d]
theorem yI {op:CmpOp}(j:CS X (EC op) r)(f:PE X a ta)(g:PE X b tb)(i:behindInMarks op b=false):PE X (.Compare a [op] [b] pos) (aq r ta tb):=by
 intro c s p H Q I h;exact wpAny_Compare1 (Tg f g I h λv u o x y d e l n q=>j c o p d x y v u Q e l n q) i
inductive mO (x:V)(H:Hp)(Q:Bool->Hp->Prop):Prop
 |mk (k:Bool) (e:x=.bl k) (q:Q k H):mO x H Q
def SZ (t:TE):TT:=λc H Q=>t c H λx b=>mO x b Q
theorem zR {op:CmpOp}(w:CS X (EC op) r)(p:PE X a ta)(q:PE X b tb)(t:behindInMarks op b=false):PT X (.Compare a [op] [b] pos) (SZ<|aq r ta tb):=by
 intro d s f H Q I h;refine wpAny_isTrue_Compare1 (CF (p d s f H _ I h) λv G ⟨x,g,l,D,A⟩=>CF (q d G f g _ l A) λu J ⟨y,i,n,E,B⟩ => CF (w d J f i x y v u _ n D E B) λc K hh=>?_) t;obtain⟨z,j,o,F,k,e,C⟩:=hh
 subst e;cases F;exact Ju ⟨j,o,C⟩
def We (r g:R2)(ta tb tc:TE):TE:=λb H Q=>ta b H λx d=>tb b d λy e=>r x y e λz c=>∃k,z=.bl k /\
 (if k=true then tc b c λh f=>g y h f Q else Q (.bl false) c)
theorem II {op f:CmpOp}(J:CS X (EC op) r)(j:CS X (EC f) r')(D:PE X a ta)(E:PE X b tb)(F:PE X c tc)
  (G:lastMarks [op,f] [b,c]=false:=by with_unfolding_all rfl):PE X (.Compare a [op,f] [b,c] pos) (We r r' ta tb tc):=by
 intro g s i H Q I h;refine Compare_chain (CF (D g s i H _ I h) λv R ⟨x,q,A,N,K⟩=>chain_link<|CF (E g R i q _ A K) λu S ⟨y,t,B,p,L⟩ => CF (J g S i t x y v u _ B N p L) λd T hh=>?_) G;obtain⟨z,l,n,O,k,e,o⟩:=hh
 subst e;cases O;refine Ju ?_;cases k with
 |false=>exact ite_ff ⟨.bl false,l,n,rfl,o⟩
 |true=>exact ite_tt<|chain_last<|CF (F g T i l _ n o) λY U ⟨Z,w,C,P,M⟩=>j g U i w y Z u Y Q C p P M
def Tc (K:CB)(x:V)(H:Hp)(k:Bool):Prop :=
 match x with
 | .bl b=>k=b
 |_=>False
theorem Gb:(sizeLine:Nat)<2 ^ 63:=by rw[YU];decide
theorem Wo:aJ X (λx H Q=>∃k,Tc X.K x H k/\Q k H):=by
 intro f s g H x v Q I d h;obtain⟨k,e,q⟩:=h;cases x with
 |bl b =>
  cases d;have c:k=b:=e;subst c;exact Ju ⟨H,I,q⟩
 |_=>exact(show False from e).elim
theorem PX (e:PE X a ta)(he:∀whole,isTrue a X.env whole=(do let v <-whole;standAt a.pos;holding [v] (truthy v))) :
  PT X a (λσ H Q=>ta σ H λx H'=>∃k,Tc X.K x H' k/\Q k H'):=by
 intro b s σ H Q I h;exact isTrue_plain (CF (e b s σ H _ I h) λv i ⟨x,c,d,g,f⟩=>Wo b i σ c x v Q d g f) (he _)
theorem zW:CS X (Mc .Add) (λx y H Q=>∃i j,x=.str i/\y=.str j/\i.length+j.length<=sizeLine/\Q (.str<|i++j) H):=by
 intro f s l H x y v u Q I c d h;obtain⟨i,j,rfl,rfl,b,q⟩:=h;obtain⟨t,rfl⟩:=c;obtain⟨e,rfl⟩:=d;exact add_str (λe g=>⟨.str<|i++j,H,I.tok _,⟨_,rfl⟩,q⟩) b
theorem wU {x:V}(r:yx [x] us):∃u,us=[u]/\yw x u:=by
 cases r with
 |cons r1 r2=>cases r2;exact⟨_,rfl,r1⟩
theorem vals2 {x y:V}(r:yx [x,y] us):∃u w',us=[u,w']/\yw x u/\yw y w':=by
 cases r with
 |cons r1 r2 =>
  cases r2 with
  |cons r3 r4=>cases r4;exact⟨_,_,rfl,r1,r3⟩
theorem Nu (c:X.calm=true):xg X (.builtin "max") (λxs H Q=>∃i j,xs=[.int i,.int j]/\Q (.int<|if j>i then j else i) H):=by
 intro d s o H xs l Q I r h;obtain⟨i,j,rfl,q⟩:=h;obtain⟨u,n,rfl,⟨t,rfl⟩,⟨f,rfl⟩⟩:=vals2 r;refine max_two_ints (I.ok.hd c) λe g k=>⟨_,H,I.kept k,?_,q⟩
 by_cases b:j>i
 .rw[ZS b,ZS b];exact⟨_,rfl⟩
 .rw[ZM b,ZM b];exact⟨_,rfl⟩
theorem xI:xg X (.type "str") (λxs H Q=>∃i,xs=[.int i]/\i.natAbs.log2<1920/\Q (.str<|Lb i) H):=by
 intro c s e H xs d Q I r h;obtain⟨i,rfl,b,q⟩:=h;obtain⟨u,rfl,t,rfl⟩:=wU r;exact PySem.P.str_of_int b ⟨.str _,H,I.tok _,⟨_,rfl⟩,q⟩
theorem FR:xg X (.builtin "ord") (λxs H Q=>∃x,xs=[.str x]/\x.length=1/\Q (.int (x.cps.getD 0 0:Nat)) H):=by
 intro c s e H xs d Q I r h;obtain⟨x,rfl,b,q⟩:=h;obtain⟨u,rfl,t,rfl⟩:=wU r;exact ord_of_one b ⟨.int _,H,I.tok _,⟨_,rfl⟩,q⟩
end
structure rJ (h:Ej)(x dx C:D1)(mA:Str->Dc):Prop where
 obj:h.get? x=some (E6 C dx)
 ns:h.Ns1 dx mA
 ne:dx≠x
theorem NT {h:Ej}{b:D1}{d:Str->Dc}(n:h.Ns1 b d):∃od,h.get? b=some od/\∀name,PySem.W.lookIn name od=some (d name):=by
 obtain⟨o,c,r,l,hd,i,_,j⟩:=n;refine⟨o,l,λname=>?_⟩;have e:=j name;unfold nsFind findBy at e;rw[<-Array.find?_toList]at e;unfold PySem.W.lookIn;rw[hd];dsimp only
 split
 .rename_i y q;rw[q]at e;exact congrArg some e
 .rename_i q;rw[q]at e;have a:c.toList.any (·.refKey)=false:=by
   rw[Us];intro y p;obtain⟨z,t,f⟩:=i y<|Array.mem_toList_iff.mp p;simp[DictEntry.refKey,f]
  have g:¬c.toList.any (·.refKey)=true:=by rw[a];exact Yc
  rw[ZM g];exact congrArg some e
theorem rJ.look (I:rJ h x dx C mA):∃od,PySem.W.InstAt h x (E6 C dx) C (some od)/\∀name,PySem.W.lookIn name od=some (mA name) :=
 let ⟨od,ho,hl⟩:=NT I.ns
 ⟨od,⟨I.obj,rfl,rfl,ho⟩,hl⟩
section
variable {prog:D3}{w:D6}{A:Em}{E:D2->Dh}{s:D7}{K:CB}{x dx C f:D1}{mA:Str->Dc}{name:Str}{v:D2}
theorem RS {b:Bool}{Q:D2->Dh}(X:K.In s.heap)(I:rJ s.heap x dx C mA)(e:Lm K C name=true)(f:Lw K C=true)
  (d:Ep K (.ref C) name=some none) (hv:mA name=some v) (c:PySem.W.handedIn v=true) (h:Q v { s with toks:=s.toks+1 }) :
  D4 (Eb prog w) A (getAttr (.ref x) name b) Q E s:=by
 obtain⟨g,J,hl⟩:=I.look;exact PySem.W.get_value X J (Uh e).1 (PySem.W.findObj_own f d rfl<|by rw[hl,hv]) c h
theorem OH {pl:Sem Bool}{Q:D2×Db->Dh}(X:K.In s.heap)(I:rJ s.heap x dx C mA)(b:Lm K C name=true)
  (c:Ep K (.ref C) name=some (some<|.ref f)) (d:Mf K (.ref f)=true) (hv:mA name=none) (h:Q (.ref f,[.ref x]) s) :
  D4 (Eb prog w) A (getMethod (.ref x) name pl) Q E s:=by
 obtain⟨e,J,hl⟩:=I.look;exact PySem.W.method_fn X J (Uh b).1 (Uh b).2 c (Jy.mp d) (by show(PySem.W.lookIn name e).map (·.isSome)=some false;rw[hl,hv];rfl) h
theorem Ss {ns:Da}{Q:Unit->Dh}(X:K.In s.heap)(I:rJ s.heap x dx C mA)
  (hs:Ep K (.ref C) "__setattr__"=some (some<|.builtin "object.__setattr__")) (p:L1 K C=true) (q:PySem.W.takerIn K C name=some none) (o:Lw K C=true)
  (t:PySem.Within mA ns) (hsz:ns.length<=sizeLine)
  (h:∀h',rJ h' x dx C (λy=>if y=name then some v else mA y)->Ez dx s.heap h'->Q () { s with heap:=h',toks:=s.toks+2 }) :
  D4 (Eb prog w) A (setAttr (.ref x) name v) Q E s:=by
 obtain⟨B,J,hl⟩:=I.look;refine PySem.W.set_plain X J hs<|PySem.W.osa_open (s:={ s with toks:=s.toks+1 }) (r:=none) X J p q λb=>?_;obtain⟨z,n,f⟩:=PySem.W.any_some o;have u:s.heap.get? x=some ⟨.ref C,some dx,.plain,#[]⟩:=I.obj;refine Zt<|Zy<|Zt<|Zt<|wpAny_loadPart u<|Zt<|PySem.W.Looks.here (s:={ s with toks:=s.toks+1 }) (PySem.W.looks_clsIn X n) ?_;rw[f];refine Zy (a:=some dx)<|Zt<|Zy<|Zt ?_;refine wpAny_nsSet1 (s:={ s with toks:=s.toks+1 }) I.ns λh' c d=>?_;obtain⟨oD,l,j,i,g,e⟩:=c.count<|PySem.Within.cons name v t;refine Zt (wpAny_lookBehind i (by rw[g];exact pastItsLine_dict<|Yn e (by rw[ZL];lia)) ?_);exact Zy<|h _ ⟨(d.2 _<|Eh I.ne).trans I.obj,c,I.ne⟩ d
theorem Pa {R:Result->Dh}{vs:Db}{b:List (Str×D2)}(X:K.In s.heap)(i:LJ K C=true)
  (e:Ep K (.ref C) "__init__"=some (some<|.ref f)) (c:PySem.W.typeIn K (.ref f)=some (.type "function"))
  (h:LK (Eb prog w) (A.under<|.builtin "type.__call__" ⟨.ref C::vs,b⟩) (.call (.ref f) ⟨.ref (s.heap.objs.size+1)::vs,b⟩) (PySem.W.InitBack (s.heap.objs.size+1) R) { s with heap:=(s.heap.push EN).push (E6 C s.heap.objs.size) }) :
  LK (Eb prog w) A (.call (.ref C) ⟨vs,b⟩) R s:=by
 obtain⟨j,g,d,t,os⟩:=s;exact PySem.W.make_core (PySem.W.makes_of X i) (PySem.W.looks_findIn X e) (λself=>PySem.W.bind_fn X self c) (.inl rfl) h
end
def US (f:Str)(v:V):List (Str×V)->List (Str×V)
 |[]=>[(f,v)]
 |(g,x)::r=>if g=f then(g,v)::r else(g,x)::US f v r
theorem Ib (f g:Str)(v:V):∀fs:List<|Str×V,(US f v fs).lookup g=if g=f then some v else fs.lookup g
 |[]=>by
  show Lr g [(f,v)]=_
  by_cases h:g=f
  .have b:(g==f)=true:=Jy.mpr h;simp only[Lr,b,ZS h]
  .have b:(g==f)=false:=YT.mpr h;simp only[Lr,b,ZM h]
 |(k,x)::r=>by
  have d:=Ib f g v r;rw[show US f v ((k,x)::r)=(if k=f then(k,v)::r else(k,x)::US f v r) from rfl]
  by_cases c:k=f
  .rw[ZS c]
   by_cases h:g=k
   .have b:(g==k)=true:=Jy.mpr h;simp only[Lr,b,ZS<|h.trans c]
   .have b:(g==k)=false:=YT.mpr h;simp only[Lr,b,ZM (λe:g=f=>h<|e.trans c.symm)]
  .rw[ZM c]
   by_cases h:g=k
   .have b:(g==k)=true:=Jy.mpr h;simp only[Lr,b,ZM (λe:g=f=>c<|h.symm.trans e)]
   .have b:(g==k)=false:=YT.mpr h;simp only[Lr,b];exact d
theorem XU (f:Str)(v:V):∀fs:List<|Str×V,f∈(US f v fs).map (·.1)/\∀g,g∈fs.map (·.1)->g∈(US f v fs).map (·.1)
 |[]=>⟨by simp[US],λg h=>by simp at h⟩
 |(k,x)::r=>by
  obtain⟨c,d⟩:=XU f v r;rw[show US f v ((k,x)::r)=(if k=f then(k,v)::r else(k,x)::US f v r) from rfl]
  by_cases b:k=f
  .rw[ZS b];subst b;exact⟨by simp,λg h=>by simpa using h⟩
  .rw[ZM b];refine⟨?_,λg h=>?_⟩
   .rw[ZT];exact Zw _ c
   .rw[ZT]at h ⊢
    rcases ZI.mp h with e|e
    .exact ZI.mpr (.inl e)
    .exact Zw _ (d g e)
theorem XY (f:Str)(v:V):∀fs:List<|Str×V,(US f v fs).length<=fs.length+1
 |[]=>by simp[US]
 |(k,x)::r=>by
  have c:=XY f v r;rw[show US f v ((k,x)::r)=(if k=f then(k,v)::r else(k,x)::US f v r) from rfl]
  by_cases b:k=f
  .rw[ZS b,ZL,ZL];lia
  .rw[ZM b,ZL,ZL];lia
theorem wj.some_of {v:V}(r:wj (some v) o):∃u,o=some u/\yw v u:=by
 cases o with
 |none=>exact(show False from r).elim
 |some u=>exact⟨u,rfl,r⟩
theorem wj.none_of (r:wj none o):o=none:=by
 cases o with
 |none=>rfl
 |some u=>exact(show False from r).elim
theorem NL (r:yw v u):PySem.W.handedIn u=true:=by
 cases v with
 |non=>cases(show u=Ev from r);rfl
 |bl b=>cases(show u=LN b from r);rfl
 |int i=>obtain⟨t,e⟩:=(show∃t,u=L7 i t from r);cases e;rfl
 |str x=>obtain⟨t,e⟩:=(show∃t,u=Lz x t from r);cases e;rfl
 |byt b=>obtain⟨t,e⟩:=(show∃t,u=Value.bytes b t from r);cases e;rfl
 |flt b=>obtain⟨t,e⟩:=(show∃t,u=Value.float b t from r);cases e;rfl
 |ref a=>cases(show u=Ee a from r);rfl
 |ty n=>cases(show u=EG n from r);rfl
section
variable {P:D3}{w:D6}{H H':Hp}{h h':Ej}{a C dx:D1}{fs fs':List (Str×V)}
theorem Iq (hok:vH P w H h)(e:H a=some (.ins C dx fs)):∃mA,rJ h a dx C mA/\(∀f,wj (fs.lookup f)<|mA f)/\PySem.Within mA (fs.map (·.1))/\fs.length<=1000/\H dx=some (.own a):=by
 obtain⟨d,z,ne,ob,mA,n,r,q⟩:=(show yq P w H h a (.ins C dx fs) from hok a _ e);exact⟨mA,⟨ob,n,ne⟩,r,q,z,d⟩
end
structure Cls (K:CB)(C:D1):Prop where
 pg:Lm K C LR=true
 hd:Lw K C=true
 po:L1 K C=true
 sa:Ep K (.ref C) "__setattr__"=some (some<|.builtin "object.__setattr__")
theorem Cls.get {K:CB}(c:Cls K C)(f:Str):Lm K C f=true:=c.pg
def wB (K:CB)(C:D1)(f:Str):Prop:=Ep K (.ref C) f=some none
theorem wB.taker {K:CB}(n:wB K C f):PySem.W.takerIn K C f=some none:=by
 unfold PySem.W.takerIn;rw[show Ep K (.ref C) f=some none from n];rfl
structure Meth (K:CB)(C:D1)(m:Str)(f:D1):Prop where
 at_:Ep K (.ref C) m=some (some<|.ref f)
 fn:Mf K (.ref f)=true
 kp:EE K (.ref f)=true
section
variable {X:Cx}{Dq:De}{σ:St}{H:Hp}{s:D7}{a C dx:D1}{fs:List (Str×V)}{f:Str}{v:V}{A:Em}{E:D2->Dh}
theorem KH {b:Bool}{Q:D2->Dh}(I:Inv X Dq σ H s)(e:H a=some (.ins C dx fs))(c:Cls X.K C)(n:wB X.K C f)(l:fs.lookup f=some v)
  (h:∀u s',Inv X Dq σ H s'->yw v u->Q u s'):D4 (Eb X.prog X.w) A (getAttr (.ref a) f b) Q E s:=by
 obtain⟨i,O,r,_,_,_⟩:=Iq I.hok e;obtain⟨u,g,d⟩:=wj.some_of (v:=v) (o:=i f) (by rw[<-l];exact r f);exact RS I.vG O (c.get f) c.hd n g (NL d)<|h u _ (I.tok _) d
theorem GE {pl:Sem Bool}{Q:D2×Db->Dh}(I:Inv X Dq σ H s)(e:H a=some (.ins C dx fs))(c:Cls X.K C)(k:Meth X.K C m g)(l:fs.lookup m=none)
  (h:Q (.ref g,[.ref a]) s):D4 (Eb X.prog X.w) A (getMethod (.ref a) m pl) Q E s:=by
 obtain⟨d,O,r,_,_,_⟩:=Iq I.hok e;have b:d m=none:=wj.none_of (by rw[<-l];exact r m);exact OH I.vG O (c.get m) k.at_ k.fn b h
theorem K7 {Q:Unit->Dh}(I:Inv X Dq σ H s)(e:H a=some (.ins C dx fs))(c:Cls X.K C)(n:wB X.K C f)(hl:fs.length<1000)(F:yw y u)
  (h:∀s',Inv X Dq σ (upd H a<|.ins C dx<|US f y fs) s'->Q () s'):D4 (Eb X.prog X.w) A (setAttr (.ref a) f u) Q E s:=by
 obtain⟨j,O,r,l,_,i⟩:=Iq I.hok e;have B:(fs.map (·.1)).length<=sizeLine:=by rw[Zu,YU];lia
 refine Ss I.vG O c.sa c.po n.taker c.hd l B λp d D=>h _ ?_;have hd:∃o,p.get? dx=some o:=let ⟨o,_,_,e',_⟩:=d.ns;⟨o,e'⟩;refine I.write (x:=a) (e:=dx) (by rw[e];exact E3) (.inr i) (λb q t z=>(D.2 b t).trans z) hd ?_;refine⟨by rw[zH O.ne];exact i,?_,O.ne,d.obj,_,d.ns,λg=>?_,λg v=>?_⟩
 .have:=XY f y fs;lia
 .show wj ((US f y fs).lookup g) (if g=f then some u else j g);rw[Ib]
  by_cases q:g=f
  .rwa[ZS q,ZS q]
  .rw[ZM q,ZM q];exact r g
 .by_cases q:g=f
  .rw[q];exact(XU f y fs).1
  .refine(XU f y fs).2 g (l g λz=>v ?_);show(if g=f then some u else j g)=none;rwa[ZM q]
theorem Inv.made (I:Inv X Dq σ H s):Inv X Dq σ (upd (upd H s.heap.objs.size<|.own<|s.heap.objs.size+1) (s.heap.objs.size+1)<|.ins C s.heap.objs.size [])
  { s with heap:=(s.heap.push EN).push (E6 C s.heap.objs.size) }:=by
 have c:(s.heap.push EN).get? s.heap.objs.size=some PySem.W.emptyDict:=ZK s.heap rfl;have f:((s.heap.push EN).push<|E6 C s.heap.objs.size).get? (s.heap.objs.size+1)=some (E6 C s.heap.objs.size):=by
  have:=ZK (s.heap.push EN) (o:=E6 C s.heap.objs.size) rfl
  rwa[Jr]at this
 have g:(s.heap.push EN).Ns s.heap.objs.size (λ_=>none):=⟨EN,#[],_,c,rfl,(λe he=>absurd he<|by simp),λ_=>rfl⟩;have d:=I.laid (a:=s.heap.objs.size) (o:=.own<|s.heap.objs.size+1) (h':=s.heap.push EN) (t':=s.toks) (λb u q=>ZC _ q) (ZB _) ⟨_,c⟩;refine d.laid (a:=s.heap.objs.size+1) (o:=.ins C s.heap.objs.size []) (t':=s.toks) (λb u q=>ZC _ q) (Vk<|Jr _ _) ?_;have ne:s.heap.objs.size≠s.heap.objs.size+1:=ZX<|Vl _;refine⟨by rw[zH ne,zB],Yf _,ne,f,λ_=>none,(Heap.Ns1.of_empty g).at λo q=>ZC _ q,λ_=>E3,λy h=>absurd rfl h⟩
theorem RG {prog:D3}{w:D6}{env:Env}{e:Ey}{f:Str}{pos:Pos}{s:D7}{Q:D2->Dh}(b:Lh e f env (EV e env)=EV e env)
  (h:D4 (Eb prog w) A (EV e env) (λo s₁=>D4 (Eb prog w) A (getAttr o f true) Q E s₁) E s):D4 (Eb prog w) A (EV (.Attribute e f pos) env) Q E s :=
 Attribute_any_ h (by rw[arm_eval_Attribute,b])
end
inductive mC (K:CB)(f:Str)(x:V)(H1:Hp)(Q:VK):Prop
 |mk (a C dx:D1) (fs:List<|Str×V) (v:V) (e:x=.ref a) (h:H1 a=some (.ins C dx fs)) (c:Cls K C) (n:wB K C f) (l:fs.lookup f=some v) (q:Q v H1):mC K f x H1 Q
def bt (K:CB)(c:TE)(f:Str):TE:=λd H Q=>c d H λx b=>mC K f x b Q
def bn (K:CB)(g h:TE)(f:Str):TS:=λD b H=>h b H λy e=>g b e λx c=>∃a C d fs,x=.ref a/\c a=some (.ins C d fs)/\Cls K C/\wB K C f/\fs.length<1000 /\
 D.nx b (upd c a<|.ins C d<|US f y fs)
section
variable {X:Cx}{o e value:Ey}{f:Str}{pos DG tpos:Pos}{ta tv:TE}
theorem yO (he:PE X e ta)(o:Lh e f X.env (EV e X.env)=EV e X.env):PE X (.Attribute e f pos) (bt X.K ta f):=by
 intro b s t H Q I h;refine RG o<|CF (he b s t H _ I h) λu y hh=>?_;obtain⟨x,d,g,r,a,C,w,fs,v,ex,j,c,n,l,q⟩:=hh;subst ex;obtain rfl:u=Ee a:=r;exact KH g j c n l λA z i p=>⟨v,d,i,p,q⟩
theorem IG (r:PE X o ta)(hv:PE X value tv)(hs:L8 value (some<|.Attribute o f DG) pos.line X.env=E7 false):PS X (.Assign [.Attribute o f DG] value pos) (bn X.K ta tv f):=by
 intro d s b H D I h;refine plainObj_wpAny_Assign_Attribute (CF (hv d s b H _ I h) λu A ⟨y,e,g,z,q⟩=>CF (r d A b e _ g q) λt F hh=>?_) hs;obtain⟨x,B,i,w,a,C,E,fs,ex,p,c,n,l,v⟩:=hh;subst ex;obtain rfl:t=Ee a:=w;exact K7 i p c n l z λG j=>⟨b,_,j,v⟩
end
section
variable {X:Cx}{Dq:De}{σ:St}{H:Hp}{s:D7}{A:Em}{E:D2->Dh}{Q:D2->Dh}{c:D2}{b:Bool}
inductive uO (K:CB)(H:Hp):V->D2->Prop where
 |non:uO K H .non<|.type "NoneType"
 |bl (x:Bool):uO K H (.bl x)<|.type "bool"
 |int (i:Int):uO K H (.int i)<|.type "int"
 |str (x:Str):uO K H (.str x)<|.type "str"
 |flt (x:UInt64):uO K H (.flt x)<|.type "float"
 |lst {a:D1} {xs:Dj} (e:H a=some (.lst xs)):uO K H (.ref a)<|.type "list"
 |frz {a:D1} {o:Obj} {xs:Dj} (e:H a=some (.frz o<|.lst xs)):uO K H (.ref a)<|.type "list"
 |tup {a:D1} {xs:Dj} (e:H a=some (.tup xs)):uO K H (.ref a)<|.type "tuple"
 |dK {a:D1} {Dm:Dl} (e:H a=some (.dK Dm)):uO K H (.ref a)<|.type "dict"
 |dT {a:D1} {Dm:List (List Key×V)} (e:H a=some (.dT Dm)):uO K H (.ref a)<|.type "dict"
 |ins {a C dx:D1} {fs:List (Str×V)} (e:H a=some (.ins C dx fs)) (cl:Cls K C) (ha:Ep K (.ref C) "__class__"=some (some<|.builtin "object.__class__"))
   (hn:PySem.W.specialIn K (.builtin "object.__class__") "__get__"=some (some<|.builtin "getset_descriptor.__get__")) (htk:PySem.W.takesIn K (.builtin "object.__class__")=some true)
   (hm:PySem.W.mroIn K C (.type "object")=some true):uO K H (.ref a)<|.ref C
theorem qN (I:Inv X Dq σ H s)(d:yw x u)(ty:uO X.K H x t)(e:Ln X.K t c=some b)(h:∀tk,Q (.bool b) { s with toks:=tk }) :
  D4 (Eb X.prog X.w) A (call (.builtin "isinstance") [u,c]) Q E s:=by
 cases ty with
 |non=>cases(show u=Ev from d);exact YC PySem.W.kitx_none I.vG E3 e (λz=>nomatch z) h
 |bl y=>cases(show u=LN y from d);exact YC PySem.W.kitx_bool I.vG E3 e (λz=>nomatch z) h
 |int i=>obtain⟨t,q⟩:=(show∃t,u=L7 i t from d);cases q;exact YC PySem.W.kitx_int I.vG E3 e (λz=>nomatch z) h
 |str y=>obtain⟨t,q⟩:=(show∃t,u=Lz y t from d);cases q;exact YC PySem.W.kitx_str I.vG E3 e (λz=>nomatch z) h
 |flt y=>obtain⟨t,q⟩:=(show∃t,u=Value.float y t from d);cases q;exact YC PySem.W.kitx_float I.vG E3 e (λz=>nomatch z) h
 | @lst a g ea =>
  cases(show u=Ee a from d);obtain⟨_,_,n,_,f⟩:=(show yq X.prog X.w H s.heap a (.lst g) from I.hok a _ ea);exact YC Ut I.vG ⟨_,f,rfl⟩ e (λz=>nomatch z) h
 | @frz a ob g ea =>
  cases(show u=Ee a from d);obtain⟨_,_,_,n,_,f⟩:=(show yq X.prog X.w H s.heap a (.frz ob<|.lst g) from I.hok a _ ea);exact YC Ut I.vG ⟨_,f,rfl⟩ e (λz=>nomatch z) h
 | @tup a g ea =>
  cases(show u=Ee a from d);obtain⟨_,_,_,p⟩:=(show yq X.prog X.w H s.heap a (.tup g) from I.hok a _ ea);obtain⟨o,f,j,_⟩:=p;exact YC PySem.W.kitx_tuple I.vG ⟨o,f,j⟩ e (λz=>nomatch z) h
 | @dK a Dm ea =>
  cases(show u=Ee a from d);obtain⟨_,_,vs,_,p⟩:=(show yq X.prog X.w H s.heap a (.dK Dm) from I.hok a _ ea);obtain⟨o,r,l,f,j,_⟩:=p;exact YC Uu I.vG ⟨o,f,j.1⟩ e (λz=>nomatch z) h
 | @dT a Dm ea =>
  cases(show u=Ee a from d);obtain⟨_,_,g,_,o,r,l,f,j,_⟩:=(show yq X.prog X.w H s.heap a (.dT Dm) from I.hok a _ ea);exact YC Uu I.vG ⟨o,f,j.1⟩ e (λz=>nomatch z) h
 | @ins a C dx fs ea cl ha hn htk hm =>
  cases(show u=Ee a from d);obtain⟨v,O,_⟩:=Iq I.hok ea;obtain⟨B,J,_⟩:=O.look;exact YC (PySem.W.kitx_own (cl.get _) cl.hd ha hn htk hm) I.vG J e (λz=>nomatch z) h
end
structure xf (k:Nat)(A:Em):Prop where
 hd:A.handled=none
 dp:A.depth+3*k+5<recursionLimit
 un:A.units+16*k+200<EO
theorem xf.mono {j:Nat}(r:xf k A)(h:j<=k):xf j A:=⟨r.hd,by have:=r.dp;lia,by have:=r.un;lia⟩
theorem xf.m {j:Nat}(r:xf k A)(h:j<=k:=by decide):xf j A:=r.mono h
theorem xf.deeper {k:Nat}(r:xf (k+1) A)(env:Env):xf k (A.deeper env) :=
 ⟨r.hd,by have:=r.dp;show A.depth+1+3*k+5<_;lia,by have:=r.un;show A.units+3+16*k+200<_;lia⟩
theorem KQ {A:Em}{C:D1}{us:Db}{b:List (Str×D2)}:(A.under<|.builtin "type.__call__" ⟨.ref C::us,b⟩).depth=A.depth+1:=by
 first|rfl|simp[Around.under,Code.weight,Code.isCreation,Code.isGuard,Code.isCaller,Code.frames,Code.isFrame,guardIds]
theorem KR {A:Em}{C:D1}{us:Db}{b:List (Str×D2)}:(A.under<|.builtin "type.__call__" ⟨.ref C::us,b⟩).units=A.units+1:=by
 first|rfl|simp[Around.under,Code.cUnits,Code.frames,Code.isFrame]
theorem xf.make {k:Nat}(r:xf (k+1) A)(C:D1)(us:Db)(b:List<|Str×D2):xf k (A.under<|.builtin "type.__call__" ⟨.ref C::us,b⟩) :=
 ⟨r.hd,by have:=r.dp;rw[KQ];lia,by have:=r.un;rw[KR];lia⟩
theorem xf.depth (r:xf k A):A.depth<recursionLimit:=by have:=r.dp;lia
theorem xf.units (r:xf k A):A.units+64<cLine:=by have:=r.un;lia
def Xi:TA:=λ_ H Q=>Q [] H
def SY (e:TE)(tr:TA):TA:=λb H Q=>e b H λx c=>tr b c λf d=>Q (x::f) d
section
variable {X:Cx}{e:Ey}{es:List Ey}{te:TE}{t:TA}{pos:Pos}
theorem zC:PA X [] Xi:=λ_ _ _ _ H Q I h=>Lf ⟨[],H,I,.nil,h⟩
theorem zA (j:PE X e te)(l:PA X es t)(hs:Ei (e::es) X.env=(false,EV e X.env)::Ei es X.env:=by rfl):PA X (e::es) (SY te t):=by
 intro pos b s c H Q I h;rw[hs];show D4 _ _ (spliced ((false,EV e X.env)::La pos (Ei es X.env))) _ _ s;refine ET<|CF (j b s c H _ I h) λu r ⟨x,d,g,p,n⟩=>?_;exact CF (l pos b r c d _ g n) λy w ⟨v,f,i,q,o⟩=>⟨x::v,f,i,.cons p q,o⟩
inductive nj (o:Dj->HO)(Q:VK)(xs:Dj)(H1:Hp):Prop
 |mk (l:xs.length<=sizeLine) (q:∀p,H1 p=none->Q (.ref p) (upd H1 p<|o xs)):nj o Q xs H1
def bC (t:TA):TE:=λd H Q=>t d H λc b=>nj .tup Q c b
def Wj (t:TA):TE:=λd H Q=>t d H λc b=>nj .lst Q c b
theorem x6 {x1}(h:PA X es t):PE X (.Tuple es x1 pos) (bC t):=by
 intro g s o H Q I j;refine wpAny_Tuple_spliced (CF (h pos g s o H _ I j) λl c ⟨n,d,f,r,z,q⟩=>⟨by rw[<-r.length];exact z,?_⟩);have i:d c.heap.objs.size=none:=f.hok.fresh<|ZB _;refine⟨.ref c.heap.objs.size,upd d c.heap.objs.size<|.tup n,f.laid (t':=c.toks) (λb u e=>ZC _ e) (ZB _) ?_,rfl,q _ i⟩;exact⟨z,l,r,TupAt.new _ _⟩
theorem xB (h:PA X es t):PE X (.List es pos) (Wj t):=by
 intro g s o H Q I j;refine wpAny_List_spliced (CF (h pos g s o H _ I j) λl c ⟨n,d,f,r,z,q⟩=>⟨by rw[<-r.length];exact z,?_⟩);have i:d c.heap.objs.size=none:=f.hok.fresh<|ZB _;refine⟨.ref c.heap.objs.size,upd d c.heap.objs.size<|.lst n,f.laid (t':=c.toks) (λb u e=>ZC _ e) (ZB _) ?_,rfl,q _ i⟩;exact⟨z,l,0,r,ZK _ rfl⟩
end
abbrev Sp:=Dj->Hp->VK->XK->Prop
abbrev Rw:=List Env->Hp->D7->XK->D2->Dh
structure rF (P:D3)(w:D6)(K:CB)(mg:Str->Dc)(base:Ej)(A:Em)(outer:List Env)(s:D7)(H:Hp):Prop where
 frames:A.frames=some outer
 mod:Mod K mg base
 bs:∀b o,base.get? b=some o->s.heap.get? b=some o/\H b=none
 oH:base.objs.size<=s.heap.objs.size
 uX:s.heap.FunFrames base outer
 nO:∀b∈frs outer,H b=none
 hok:vH P w H s.heap
 bare:Ml s.gens
def CE (outer:List Env)(P:D3)(w:D6)(H:Hp)(s:D7)(Q:VK)(u:D2)(b:D7):Prop :=
 ∃v c,b.os=s.os/\Ml b.gens/\Un (frs outer) [] H c s.heap b.heap/\vH P w c b.heap/\yw v u/\Q v c
def CR (CX:Rw)(outer:List Env)(P:D3)(w:D6)(H:Hp)(s:D7)(Q:VK)(E:XK)(r:Result)(b:D7):Prop :=
 match r with
 | .ok (.ret u)=>CE outer P w H s Q u b
 | .ok _=>False
 | .error e=>CX outer H s E e b
structure zj (P:D3)(w:D6)(K:CB)(mg:Str->Dc)(base:Ej)(CX:Rw)(k:Nat)(f:D1)(fd:D5)(ps:Da)(sp:Sp):Prop where
 len:∀vs H Q E,sp vs H Q E->vs.length=ps.length
 run:∀(A:Em) (outer:List Env) (s:D7) (H:Hp) (args:Args) (us:Db) (vs:Dj) (Q:VK) (E:XK),xf k A->rF P w K mg base A outer s H->BindsTo s fd args (ps.zip us)->yx vs us->sp vs H Q E ->
  LK (Eb P w) A (.call (.ref f) args) (CR CX outer P w H s Q E) s
theorem rF.make {K:CB}(e:rF P w K mg base A outer s H)(C:D1)(us:Db)(b:List<|Str×D2) :
  rF P w K mg base (A.under<|.builtin "type.__call__" ⟨.ref C::us,b⟩) outer s H:=⟨by first|exact e.frames|(simpa[Around.under,Code.envs,Code.isFrame,pushEnvs] using e.frames),e.mod,e.bs,e.oH,e.uX,e.nO,e.hok,e.bare⟩
section
variable {X:Cx}{Dq:De}{σ:St}{H:Hp}{s s':D7}
theorem Inv.env0 (I:Inv X Dq σ H s):rF X.prog X.w X.K X.mg X.base X.A X.stack s H :=
 ⟨I.ok.frames,I.ok.mod,I.bs,Yn I.ok.oH I.sz,I.stack,I.qy,I.hok,I.bare⟩
theorem Inv.after (I:Inv X Dq σ H s)(h:CE X.stack X.prog X.w H s Q u s'):EP X Dq σ Q u s':=by
 obtain⟨v,e,os,bare,un,hok,r,q⟩:=h;obtain⟨f,g,d,t,c⟩:=s';obtain rfl:c=s.os:=os;exact⟨v,e,I.call (h':=f) (g':=g) (d':=d) (t':=t) (ch:=[]) un hok bare<|λb z=>absurd z<|by simp,r,q⟩
end
def Nh (sp:Sp)(b:Dj)(E:XK)(t:TA):TE:=λd H Q=>t d H λvs c=>sp (vs++b) c Q E
inductive mQ (C:D1)(m:Str)(sp:Sp)(dvs:Dj)(E:XK)(t:TA)(σ:St)(Q:VK)(x:V)(H1:Hp):Prop
 |mk (a dx:D1) (fs:List<|Str×V) (e:x=.ref a) (h:H1 a=some (.ins C dx fs)) (n:fs.lookup m=none) (q:t σ H1 λvs H2=>sp (x::(vs++dvs)) H2 Q E):mQ C m sp dvs E t σ Q x H1
def Nj (C:D1)(m:Str)(sp:Sp)(b:Dj)(E:XK)(e:TE)(t:TA):TE:=λc H Q=>e c H λx d=>mQ C m sp b E t c Q x d
def Ni (C:D1)(sp:Sp)(d:Dj)(E:XK)(t:TA):TE:=λf H Q=>t f H λvs c=>∀x b,c x=none->c b=none->b≠x ->
 sp (.ref x::(vs++d)) (upd (upd c b<|.own x) x<|.ins C b []) (λv e=>v=.non/\Q (.ref x) e) E
def wN (K:CB)(d:D5)(ps:Da)(c:Db):Prop :=
 ∀(s:D7) (b:Db),K.In s.heap->(b++c).length=ps.length->BindsTo s d ⟨b,[]⟩ (ps.zip<|b++c)
theorem wN.all {K:CB}{b:D5}{ps:Da}(h:∀us:Db,us.length=ps.length->bindArgs b ⟨us,[]⟩=E7 (ps.zip us)):wN K b ps []:=λs us _ hl=>by
 rw[ZW]at hl ⊢;exact .of_eq<|h us hl
def jR (CX:Rw)(X:Cx)(E:XK):Prop:=∀(c:De) (d:St) (H:Hp) (s:D7) (e:D2) (b:D7),Inv X c d H s->CX X.stack H s E e b->X.xe e b
section
variable {X:Cx}{CX:Rw}{k:Nat}{f C:D1}{fd:D5}{ps:Da}{sp:Sp}{dvs:Dj}{ds:Db}{E:XK}{x m:Str}{p pos Ds:Pos}{e o:Ey}{es:List Ey}{ta:TE}{t:TA}
theorem Gz {c:De}{σ:St}{H:Hp}{s:D7}{Q:VK}{us:Db}{vs:Dj}(F:zj X.prog X.w X.K X.mg X.base CX k f fd ps sp)(i:xf k X.A)(g:wN X.K fd ps ds)(hd:yx dvs ds)(j:jR CX X E)
  (I:Inv X c σ H s) (r:yx vs us) (h:sp (vs++dvs) H Q E):D4 (Eb X.prog X.w) X.A (call (.ref f) us) (EP X c σ Q) X.xe s:=by
 have d:yx (vs++dvs) (us++ds):=r.append hd;have hl:(us++ds).length=ps.length:=by rw[<-d.length];exact F.len _ _ _ _ h
 refine wpAny_call<|JM (F.run X.A X.stack s H ⟨us,[]⟩ (us++ds) (vs++dvs) Q E i I.env0 (g s us I.vG hl) d h) λr l b=>?_;cases r with
 |error e=>exact j c σ H s e l I b
 |ok fl =>
  cases fl with
  |ret u=>exact I.after b
  |next=>exact Ew b
  |brk=>exact Ew b
  |cont=>exact Ew b
theorem Sd (F:zj X.prog X.w X.K X.mg X.base CX k f fd ps sp)(u:xf k X.A)(l:Gl X x)(o:X.mg x=some (.ref f))(n:EE X.K (.ref f)=true)(j:wN X.K fd ps ds)(hd:yx dvs ds)(v:jR CX X E)
  (i:PA X (e::es) t) (b:(x==("__debug__":Str))=false:=by decide) (he:Ei (e::es) X.env=(false,EV e X.env)::Ei es X.env:=by rfl) (c:(La pos<|Ei es X.env).any (·.1)=false:=by rfl) :
  PE X (.Call (.Name x p) (e::es) [] pos) (Nh sp dvs E t):=by
 intro g s y H Q I h;refine Jd<|uF I l o ?_ b;refine VB (h₀:=X.base) I.ok.mod.mW n (CF (i pos g s y H _ I h) λC B ⟨vs,z,d,r,q⟩=>⟨d.vG,?_⟩) he c;exact Gz F u j hd v d r q
theorem Pz (F:zj X.prog X.w X.K X.mg X.base CX k f fd ps sp)(i:xf k X.A)(d:Gl X x)(g:X.mg x=some (.ref f))(e:EE X.K (.ref f)=true)(c:wN X.K fd ps ds)(hd:yx dvs ds)(j:jR CX X E)
  (b:(x==("__debug__":Str))=false:=by decide):PE X (.Call (.Name x p) [] [] pos) (Nh sp dvs E Xi):=by
 intro l s n H Q I h;refine Jd<|uF I d g ?_ b;exact Ui I.vG e<|Gz (us:=[]) F i c hd j I .nil h
theorem Sh {pl:Sem Bool}(he:PE X o ta)(c:Cls X.K C)(n:Meth X.K C m f)(F:zj X.prog X.w X.K X.mg X.base CX k f fd ps sp)(D:xf k X.A)(B:wN X.K fd ps ds)(hd:yx dvs ds)(J:jR CX X E)(z:PA X (e::es) t)
  (d:Ei (e::es) X.env=(false,EV e X.env)::Ei es X.env:=by rfl) (b:(La pos<|Ei es X.env).any (·.1)=false:=by rfl)
  (G:EV (.Call (.Attribute o m Ds) (e::es) [] pos) X.env=(do
   let ov <-EV o X.env
   standAt Ds.atName
   let (f,first) <-holding [ov] (getMethod ov m pl)
   callWith pos f first (La pos<|Ei (e::es) X.env) (backToKw pos<|LS [] X.env)):=by rfl) :
  PE X (.Call (.Attribute o m Ds) (e::es) [] pos) (Nj C m sp dvs E ta t):=by
 intro g s p H Q I h;refine PySem.W.methodCall_KW (pl:=pl) (CF (he g s p H _ I h) λu N hh=>?_) G;obtain⟨x,v,i,M,a,P,fs,ex,y,l,q⟩:=hh;subst ex;obtain rfl:u=Ee a:=M;refine GE i y c n l ?_;refine VB (first:=[.ref a]) (h₀:=X.base) I.ok.mod.mW n.kp (CF (z pos g N p v _ i q) λus R ⟨vs,O,j,r,L⟩=>⟨j.vG,?_⟩) d b;exact Gz (us:=.ref a::us) (vs:=.ref a::vs) F D B hd J j (.cons rfl r) L
theorem PL {pl:Sem Bool}(he:PE X o ta)(c:Cls X.K C)(d:Meth X.K C m f)(F:zj X.prog X.w X.K X.mg X.base CX k f fd ps sp)(j:xf k X.A)(i:wN X.K fd ps ds)(hd:yx dvs ds)(p:jR CX X E)
  (n:EV (.Call (.Attribute o m Ds) [] [] pos) X.env=(do
   let ov <-EV o X.env
   standAt Ds.atName
   let (f,first) <-holding [ov] (getMethod ov m pl)
   callWith pos f first (La pos<|Ei [] X.env) (backToKw pos<|LS [] X.env)):=by rfl) :
  PE X (.Call (.Attribute o m Ds) [] [] pos) (Nj C m sp dvs E ta Xi):=by
 intro e s t H Q I h;refine PySem.W.methodCall_KW (pl:=pl) (CF (he e s t H _ I h) λu z hh=>?_) n;obtain⟨x,v,b,r,a,y,fs,ex,g,l,q⟩:=hh;subst ex;obtain rfl:u=Ee a:=r;refine GE b g c d l ?_;exact Ui (first:=[.ref a]) b.vG d.kp<|Gz (us:=[.ref a]) (vs:=[.ref a]) F j i hd p b (.cons rfl .nil) q
structure Mk (K:CB)(C f:D1):Prop where
 makes:LJ K C=true
 init:Ep K (.ref C) "__init__"=some (some<|.ref f)
 fn:Mf K (.ref f)=true
 kp:EE K (.ref C)=true
theorem HU {d:De}{σ:St}{H:Hp}{s:D7}{Q:VK}{us:Db}{vs:Dj}(M:Mk X.K C f)(F:zj X.prog X.w X.K X.mg X.base CX k f fd ps sp)(p:xf (k+1) X.A)(o:wN X.K fd ps ds)(hd:yx dvs ds)
  (q:jR CX X E) (I:Inv X d σ H s) (r:yx vs us)
  (h:∀x dx,H x=none->H dx=none->dx≠x->sp (.ref x::(vs++dvs)) (upd (upd H dx<|.own x) x<|.ins C dx []) (λv H2=>v=.non/\Q (.ref x) H2) E) :
  D4 (Eb X.prog X.w) X.A (call (.ref C) us) (EP X d σ Q) X.xe s:=by
 have g:=h (s.heap.objs.size+1) s.heap.objs.size (I.hok.fresh<|J4 _) (I.hok.fresh<|ZB _)<|ZX<|Vl _;have c:=Inv.made (C:=C) I;have i:yx (V.ref (s.heap.objs.size+1)::(vs++dvs)) (Ee (s.heap.objs.size+1)::(us++ds)):=.cons rfl<|r.append hd;have hl:(Ee (s.heap.objs.size+1)::us++ds).length=ps.length:=by
  have e:=i.length;rw[F.len _ _ _ _ g]at e;exact e.symm
 refine wpAny_call<|Pa (f:=f) I.vG M.makes M.init (Jy.mp M.fn)<|JM (F.run _ X.stack _ _ ⟨Ee (s.heap.objs.size+1)::us,[]⟩ (Ee (s.heap.objs.size+1)::(us++ds)) _ _ E (p.make C us []) (c.env0.make C us []) (o _ (Ee (s.heap.objs.size+1)::us) c.vG hl) i g) λr z b=>?_
 cases r with
 |error e=>exact q d σ _ _ e z c b
 |ok fl =>
  cases fl with
  |ret u =>
   obtain⟨v,j,l,y,n,t⟩:=c.after b;subst n;exact⟨y,⟨V.ref<|s.heap.objs.size+1,j,l,rfl,t⟩⟩
  |next=>exact Ew b
  |brk=>exact Ew b
  |cont=>exact Ew b
theorem Sg (M:Mk X.K C f)(F:zj X.prog X.w X.K X.mg X.base CX k f fd ps sp)(o:xf (k+1) X.A)(l:Gl X x)(n:X.mg x=some (.ref C))(j:wN X.K fd ps ds)(hd:yx dvs ds)(u:jR CX X E)
  (i:PA X (e::es) t) (b:(x==("__debug__":Str))=false:=by decide) (he:Ei (e::es) X.env=(false,EV e X.env)::Ei es X.env:=by rfl) (c:(La pos<|Ei es X.env).any (·.1)=false:=by rfl) :
  PE X (.Call (.Name x p) (e::es) [] pos) (Ni C sp dvs E t):=by
 intro g s v H Q I h;refine Jd<|uF I l n ?_ b;refine VB (h₀:=X.base) I.ok.mod.mW M.kp (CF (i pos g s v H _ I h) λB z ⟨vs,y,d,r,q⟩=>⟨d.vG,?_⟩) he c;exact HU M F o j hd u d r q
theorem PJ (M:Mk X.K C f)(F:zj X.prog X.w X.K X.mg X.base CX k f fd ps sp)(g:xf (k+1) X.A)(d:Gl X x)(e:X.mg x=some (.ref C))(c:wN X.K fd ps ds)(hd:yx dvs ds)(i:jR CX X E)
  (b:(x==("__debug__":Str))=false:=by decide):PE X (.Call (.Name x p) [] [] pos) (Ni C sp dvs E Xi):=by
 intro j s l H Q I h;refine Jd<|uF I d e ?_ b;exact Ui I.vG M.kp<|HU (us:=[]) M F g c hd i I .nil h
end
structure zz (N P:Da)(sc:LX):Prop where
 kind:sc.kind=.function
 co:sc.isCoroutine=false
 gen:sc.isGenerator=false
 nd:N.Nodup
 pre:N.take P.length=P
 par:∀x∈P,sc.names.lookup x=some .local\/sc.names.lookup x=some .cell
 nP:∀y∈sc.names,y.2≠.free
theorem CI {N P:Da}{sc:LX}(a:sc.kind=.function:=by rfl)(b:sc.isCoroutine=false:=by rfl)(c:sc.isGenerator=false:=by rfl)(d:N.Nodup:=by decide+kernel)(e:N.take P.length=P:=by rfl)(f:∀x∈P,sc.names.lookup x=some .local\/sc.names.lookup x=some .cell:=by decide+kernel)(g:∀y∈sc.names,y.2≠.free:=by decide+kernel):zz N P sc:=⟨a,b,c,d,e,f,g⟩
theorem BG {kindOf:Str->Option LF}{x:Str}:∀{binds:List (Str×D2)} {m:Str->Dc},(∀v,(x,v)∉binds)->bindL kindOf binds m x=m x
 |[],_,_=>rfl
 |(n,v)::r,m,h=>by
  unfold bindL;rw[BG λw b=>h w<|Zw _ b]
  split
  .have:x≠n:=by rintro rfl;exact h v Zx
   simp[this]
  .rfl
theorem Bi {kindOf:Str->Option LF}{x:Str}:∀{binds:List (Str×D2)} {m:Str->Dc},(∀v,(x,v)∉binds)->bindC kindOf binds m x=m x
 |[],_,_=>rfl
 |(n,v)::r,m,h=>by
  unfold bindC;rw[Bi λw b=>h w<|Zw _ b]
  split
  .rfl
  .have:x≠n:=by rintro rfl;exact h v Zx
   simp[this]
theorem Bp {kindOf:Str->Option LF}{x:Str}{v:D2}:∀{P:Da} {vs:Db} {i:Nat} {m:Str->Dc},P.Nodup->P[i]?=some x->vs[i]?=some v->kindOf x=some .local ->
  bindL kindOf (P.zip vs) m x=some v
 |[],_,_,_,_,h,_,_=>by simp at h
 |_::_,[],_,_,_,_,h,_=>by simp at h
 |p::P,w::vs,0,m,nd,h1,h2,hk=>by
  simp at h1 h2;subst h1;subst h2;show bindL kindOf ((p,w)::P.zip vs) m p=_;unfold bindL;rw[BG λv hv=>(Yl.mp nd).1 (Vy hv).1,ZS hk];simp
 |p::P,w::vs,i+1,m,nd,h1,h2,hk=>by
  show bindL kindOf ((p,w)::P.zip vs) m x=_;unfold bindL;exact Bp (i:=i) (Yl.mp nd).2 (by simpa using h1) (by simpa using h2) hk
theorem G6 {kindOf:Str->Option LF}{x:Str}{v:D2}:∀{P:Da} {vs:Db} {i:Nat} {m:Str->Dc},P.Nodup->P[i]?=some x->vs[i]?=some v->kindOf x≠some .local ->
  bindC kindOf (P.zip vs) m x=some v
 |[],_,_,_,_,h,_,_=>by simp at h
 |_::_,[],_,_,_,_,h,_=>by simp at h
 |p::P,w::vs,0,m,nd,h1,h2,hk=>by
  simp at h1 h2;subst h1;subst h2;show bindC kindOf ((p,w)::P.zip vs) m p=_;unfold bindC;rw[Bi λv hv=>(Yl.mp nd).1 (Vy hv).1,ZM hk];simp
 |p::P,w::vs,i+1,m,nd,h1,h2,hk=>by
  show bindC kindOf ((p,w)::P.zip vs) m x=_;unfold bindC;exact G6 (i:=i) (Yl.mp nd).2 (by simpa using h1) (by simpa using h2) hk
def start (N:Da)(vs:Dj):St:=vs.map some++EY (N.length-vs.length) none
def Nw (CX:Rw)(P:D3)(w:D6)(K:CB)(mg:Str->Dc)(base:Ej)(N:Da)(qual:Str)(scope:LX)(f:D1)(c:D2)(A:Em)(outer:List Env)(s:D7)(H:Hp)(E:XK):Cx where
 prog:=P
 w:=w
 K:=K
 mg:=mg
 base:=base
 A:=A.deeper<|envOfC qual scope s.heap.objs.size f c
 N:=N
 s₀:=s
 H₀:=H
 env:=envOfC qual scope s.heap.objs.size f c
 outer:=outer
 stack:=envOfC qual scope s.heap.objs.size f c::outer
 ex:=[]
 calm:=true
 fn:=λ_=>true
 pn:=[]
 xe:=λe g=>D4 (Eb P w) (A.deeper<|envOfC qual scope s.heap.objs.size f c) (leaving (envOfC qual scope s.heap.objs.size f c) e) (λ_ b=>CX outer H s E e b) (λd b=>CX outer H s E d b) g
theorem FT {sc:LX}{n:Nat}{x:Str}(h:sc.names.lookup x=some .cell):∃c,(cellsFrom n sc.names []).lookup x=some c:=by
 have q:=PySem.W.cellsFrom_some sc.names n []<|.inl h;exact Yx.mp q
theorem NN {CX:Rw}{P:D3}{w:D6}{K:CB}{mg:Str->Dc}{base:Ej}{N ps:Da}{qual:Str}{scope:LX}{f:D1}{B:D2}{A:Em}{outer:List Env}{s I:D7}{H:Hp}{E:XK}{us:Db}{vs:Dj}
  (S:zz N ps scope) (hd:A.handled=none) (g:rF P w K mg base A outer s H) (hl:vs.length=ps.length) (r:yx vs us)
  (x:InCallC s s.heap.objs.size (bindL (envOfC qual scope s.heap.objs.size f B).kindOf (ps.zip us) λ_=>none) (cellsFrom (s.heap.objs.size+1) scope.names []) (bindC (envOfC qual scope s.heap.objs.size f B).kindOf (ps.zip us) λ_=>none) I) :
  Inv (Nw CX P w K mg base N qual scope f B A outer s H E) [] (start N vs) H I:=by
 have L:ps.length<=N.length:=by have:=congrArg List.length S.pre;rw[Z3]at this;lia
 obtain⟨D,Q,rfl,F⟩:=x.done;have l:∀b:D1,b∉(Nw CX P w K mg base N qual scope f B A outer s H E).ex:=λb z=>absurd (show b∈([]:Dd) from z) (by simp);refine⟨⟨g.mod,S.kind,rfl,rfl,ZB _,λy z c D d=>?_,λy j=>?_,λy c _ h=>?_,λ_=>hd,Around.frames_deeper g.frames,.inr ⟨rfl,rfl⟩,λb z=>absurd z<|l b,g.bs,g.oH,λb _ _=>l b,λb z=>absurd z<|l b,g.uX,g.nO⟩,rfl,g.bare,Un.kept F,⟨_,x.toInCall.ns,λi y v D d O=>?_⟩,λy c h=>⟨_,x.cell y c h⟩,g.hok.fresh<|ZB _,λy c h=>?_,λp o=>absurd (show p∈([]:De) from o) (by simp),g.hok.kept F,?_⟩
 .exact name_of_addr x.apart (Ji D) (Ji d)
 .have j:scope.names.lookup y=some .cell\/scope.names.lookup y=some .free:=j
  rcases j with j|j
  .exact FT j
  .exact absurd rfl (S.nP _<|Ji j)
 .exact Jb (x.above y c<|Ji h)
 .have C:i<vs.length:=by
   unfold start at d
   by_cases C:i<vs.length
   .exact C
   .rw[Z2<|by simpa using C]at d;rw[List.getElem?_replicate]at d
    split at d<;>cases d
  have J:vs[i]?=some v:=by
   unfold start at d;rw[Z7<|by simpa using C,ZF]at d;cases e:vs[i]? with
   |none=>rw[e]at d;cases d
   |some a=>rw[e]at d;cases d;rfl
  obtain⟨u,G,M⟩:=r.get J;have o:ps[i]?=some y:=by
   rwa[<-S.pre,List.getElem?_take_of_lt<|by lia]
  have t:ps.Nodup:=by rw[<-S.pre];exact S.nd.sublist<|Uv _ _
  refine⟨u,M,?_⟩
  rcases S.par y (ZN o) with k|k
  .exact .inl ⟨k,Bp t o G k⟩
  .obtain⟨c,e⟩:=FT (n:=s.heap.objs.size+1) k;refine .inr ⟨.inl k,c,e,?_⟩;have q:=x.cell y c e;rw[G6 t o G (by show scope.names.lookup y≠_;rw[k];decide)]at q;exact q
 .exact g.hok.fresh (Jb<|x.above y c<|Ji h)
 .unfold start;show _=N.length;rw[ZE,Zu,List.length_replicate];lia
theorem WM {CX:Rw}{P:D3}{w:D6}{K:CB}{mg:Str->Dc}{base:Ej}{k:Nat}{f:D1}{name qual:Str}{params:Arguments}{body:List Er}{scope:LX}{T kV j pm c ct oc:D2}{O od:Option D1}
  {F:Array Dc} {N ps:Da} {sp:Sp} (lk:K.lookup f=some ⟨oc,od,.func<|ER name qual params body scope T kV j pm O c ct,F⟩) (B:Lo K c qual=true) (S:zz N ps scope)
  (len:∀vs H Q E,sp vs H Q E->vs.length=ps.length)
  (g:∀(A:Em) (outer:List Env) (s:D7) (H:Hp) (vs:Dj) (Q:VK) (E:XK),xf k (A.deeper<|envOfC qual scope s.heap.objs.size f c)->sp vs H Q E -> ∃t,sE (Nw CX P w K mg base N qual scope f c A outer s H E) body t/\t { nx:=λ_ H'=>Q .non H',rt:=Q } (start N vs) H) :
  zj P w K mg base CX (k+1) f (ER name qual params body scope T kV j pm O c ct) ps sp:=by
 refine⟨len,λA outer s H R us vs Q E C l Y r z=>?_⟩;have hl:=len _ _ _ _ z;have M:K.In s.heap:=l.mod.mW.keeps λb o e=>(l.bs b o e).1;have D:s.heap.NoLimit:=l.mod.nolimit.keeps λb o e=>(l.bs b o e).1;have h:∀y∈ps.zip us,scope.names.lookup y.1=some .local\/(scope.names.lookup y.1=some .cell/\((cellsFrom (s.heap.objs.size+1) scope.names []).lookup y.1).isSome=true):=λ⟨n,v⟩ hy=>by
  rcases S.par n (Vy hy).1 with q|q
  .exact .inl q
  .exact .inr ⟨q,PySem.W.cellsFrom_some _ _ _<|.inl q⟩
 refine codeAny_call_function C.depth (M _ _ lk) rfl S.co S.gen rfl (PySem.W.codeRec_of M B)<|Y _ _ _ _ ?_;refine wpAny_newFunctionEnv_cells S.kind h λenv he U x=>?_;subst he;refine⟨D.keeps x.toInCall.keep,codeAny_func ?_⟩;obtain⟨t,ht,Z⟩:=g A outer s H vs Q E (C.deeper _) z;have I:Inv (Nw CX P w K mg base N qual scope f c A outer s H E) [] (start N vs) H U:=NN S C.hd l hl r x;refine Y1 (ht [] U (start N vs) H _ I Z) (λX L i=>?_) λe L i=>i;have p:∀{d:St} {H':Hp} {v:V} {u:D2},Inv (Nw CX P w K mg base N qual scope f c A outer s H E) [] d H' L->yw v u->Q v H'->CE outer P w H s Q u L :=
  λ{d H' v u} J G q=>⟨v,H',J.os,J.bare,J.base,J.hok,G,q⟩
 cases X with
 |ret u =>
  obtain⟨v,d,H',J,G,q⟩:=i;exact p J G q
 |next =>
  obtain⟨d,H',J,q⟩:=i;exact p (v:=V.non) (u:=Ev) J rfl q
 |brk =>
  obtain⟨_,_,_,q⟩:=i;exact Ew q
 |cont =>
  obtain⟨_,_,_,q⟩:=i;exact Ew q
section
variable {X:Cx}{x:Str}{p pos:Pos}{e:Ey}{es:List Ey}{t:TA}{id T:String}{r:Dj->Hp->VK->Prop}
def bG (r:Dj->Hp->VK->Prop)(t:TA):TE:=λc H Q=>t c H λvs b=>r vs b Q
theorem zM (l:xg X (.builtin id) r)(n:Gl X x)(o:X.mg x=none)(hv:LA x=some (.builtin id))(j:PA X (e::es) t)(q:x≠"__name__":=by decide)(b:(x==("__debug__":Str))=false:=by decide)
  (he:Ei (e::es) X.env=(false,EV e X.env)::Ei es X.env:=by rfl) (c:(La pos<|Ei es X.env).any (·.1)=false:=by rfl):PE X (.Call (.Name x p) (e::es) [] pos) (bG r t):=by
 intro d s f H Q I h;refine Jd<|XT I n o hv ?_ q b;exact V4 (CF (j pos d s f H _ I h) λy w ⟨vs,g,i,v,u⟩=>l d w f g vs y Q i v u) he c
theorem zT (l:xg X (.type T) r)(n:Gl X x)(o:X.mg x=none)(hv:LA x=some (.type T))(j:PA X (e::es) t)(q:x≠"__name__":=by decide)(b:(x==("__debug__":Str))=false:=by decide)
  (he:Ei (e::es) X.env=(false,EV e X.env)::Ei es X.env:=by rfl) (c:(La pos<|Ei es X.env).any (·.1)=false:=by rfl):PE X (.Call (.Name x p) (e::es) [] pos) (bG r t):=by
 intro d s f H Q I h;refine Jd<|XT I n o hv ?_ q b;exact Va (CF (j pos d s f H _ I h) λy w ⟨vs,g,i,v,u⟩=>l d w f g vs y Q i v u) he c
end
end L2
namespace HT
open PySem PyProof.Rows
section
variable {prog:D3}{w:D6}{A:Em}{E:D2->Dh}{s:D7}
def wI (n d:Nat):Option Int->Nat
 |none=>d
 |some v=>if v<0 then(v+(n:Int)).toNat else min v.toNat n
theorem sG (n d:Nat):wI n d none=d:=rfl
theorem sU (n d k:Nat):wI n d (some (k:Int))=min k n:=by
 show(if(k:Int)<0 then((k:Int)+(n:Int)).toNat else min (k:Int).toNat n)=min k n;rw[ZM<|by lia,Int.toNat_natCast]
theorem T8 (n d:Nat)(hd:d<=n)(o:Option Int):wI n d o<=n:=by
 cases o with
 |none=>exact hd
 |some v =>
  show(if v<0 then(v+(n:Int)).toNat else min v.toNat n)<=n
  by_cases hv:v<0
  .rw[ZS hv];lia
  .rw[ZM hv];exact Nat.min_le_right _ _
theorem Mz (v:Int)(n d:Nat):(if v<0 then max (v+(n:Int)) 0 else min v (n:Int))=((wI n d (some v):Nat):Int):=by
 show(if v<0 then max (v+(n:Int)) 0 else min v (n:Int))=(((if v<0 then(v+(n:Int)).toNat else min v.toNat n):Nat):Int)
 by_cases hv:v<0
 .simp only[ZS hv];lia
 .simp only[ZM hv];lia
theorem Ks (lo b:Option Int)(n:Nat):LD lo b 1 (n:Int)=(((wI n 0 lo:Nat):Int),((wI n n b:Nat):Int)):=by
 have c:¬((1:Int)<0):=by lia
 unfold LD;simp only[c,Vt];refine LG ?_ ?_
 .cases lo with
  |none=>rfl
  |some v=>exact Mz v n 0
 .cases b with
  |none=>rfl
  |some v=>exact Mz v n n
theorem K4 (i j:Nat):Ld (i:Int) (j:Int) 1=j-i:=by
 unfold Ld;have b:(1:Int)>0:=by lia
 simp only[b,UO,Int.ediv_one]
 split<;>lia
theorem Ga {v:D2}{o:Option Int}{Q:Option Int->Dh}(p:IsPart v o)(h:Q o s):D4 (Eb prog w) A (Builtin.Slice.slicePartIndex v) Q E s:=by
 cases p with
 |none=>exact slicePart_none h
 |int i t=>exact slicePart_int h
theorem XG {g:D1}{e f:D2}{lo c:Option Int}{n:Nat}{Q:Int×Int×Nat->Dh}(hs:s.heap.IsSliceOf g e f .none)(pl:IsPart e lo)(j:IsPart f c)
  (h:Q (((wI n 0 lo:Nat):Int),1,wI n n c-wI n 0 lo) s):D4 (Eb prog w) A (Builtin.Slice.sliceApplied (.ref g)<|E7 (n:Int)) Q E s:=by
 obtain⟨os,d,i,b⟩:=id hs;unfold Builtin.Slice.sliceApplied Builtin.Slice.sliceFields;refine Zt<|Zt<|wpAny_field d b (x:=e) rfl<|Zt<|wpAny_field d b (x:=f) rfl<|Zt<|wpAny_field d b (x:=.none) rfl<|Zy ?_;refine Zt<|slicePart_none ?_;show D4 _ _ (if((1:Int)==0)=true then _ else _) _ _ s;rw[ZM<|by decide];refine Zt<|Ga pl<|Zt<|Ga j<|Zt<|Zy ?_;show D4 _ _ (match LD lo c 1 (n:Int) with|(lo,c)=>E7 (lo,(1:Int),Ld lo c 1)) _ _ s;rw[Ks lo c n];show D4 _ _ (E7 (((wI n 0 lo:Nat):Int),(1:Int),Ld ((wI n 0 lo:Nat):Int) ((wI n n c:Nat):Int) 1)) _ _ s;rw[K4];exact Zy h
theorem PQ (xs:Array D2)(i k:Nat):((Ef k).filterMap λ(m:Nat)=>xs[((i:Int)+(m:Int)*1).toNat]?).toArray=((xs.toList.drop i).take k).toArray:=by
 have e:(λ(m:Nat)=>xs[((i:Int)+(m:Int)*1).toNat]?)=λm=>xs[i+m]?:=by
  funext m
  have:((i:Int)+(m:Int)*1).toNat=i+m:=by lia
  rw[this]
 rw[e];have:=pick_run xs i k;rw[List.filterMap_map]at this;have b:((λx=>xs[x]?)∘λx=>i+x)=λm=>xs[i+m]?:=rfl;rw[b]at this;rw[this]
theorem vh {t j:D1}{Do:Array D2}{l n:D2}{lo c:Option Int}{Q:D2->Dh}(d:IsTup s.heap t Do)(hs:s.heap.IsSliceOf j l n .none)(pl:IsPart l lo)(r:IsPart n c)
  (p:¬(wI Do.size 0 lo=0/\wI Do.size Do.size c=Do.size))
  (h:Q (.ref s.heap.objs.size) { s with heap:=s.heap.push { cls:=.type "tuple",data:=.seq ((Do.toList.drop<|wI Do.size 0 lo).take<|wI Do.size Do.size c-wI Do.size 0 lo).toArray } })
  (hsz:Do.size<=sizeLine):D4 (Eb prog w) A (getItem (.ref t)<|.ref j) Q E s:=by
 have b:sizeOk (.seq ((Do.toList.drop<|wI Do.size 0 lo).take<|wI Do.size Do.size c-wI Do.size 0 lo).toArray):=by
  show((Do.toList.drop<|wI Do.size 0 lo).take<|wI Do.size Do.size c-wI Do.size 0 lo).toArray.size<=sizeLine;rw[ZV,Z3,Jp,ZU];lia
 have u:wI Do.size Do.size c<=Do.size:=T8 _ _ (ZB _) c;obtain⟨os,i,f,o⟩:=id hs;have e:s.TypeIs (.ref j) "slice":=⟨os,i,f⟩;unfold getItem
 try with_reducible refine YR ?_
 first|refine Zt (Zy ?_)|skip
 refine Zt (wpAny_sequenceKey d.typeIs (by decide) ?_);refine Zt<|Jw (name:=ED "__getitem__") d.typeIs VW<|YH VW d.typeIs entry_tuple_getitem ?_<|args_tuple_getitem _ _
 show D4 _ _ (Builtin.Tuple.tupleItemsOf (.ref t)>>=_) _ _ s;refine Zt<|tupleItemsOf_ d ?_;refine Zt<|Vm e ?_;rw[ZS<|by decide];refine Zt<|XG hs pl r ?_;have g:¬((((wI Do.size 0 lo:Nat):Int)==0&&(1:Int)==1&&(wI Do.size Do.size c-wI Do.size 0 lo)==Do.size)=true):=by
  intro q;rw[ZG,ZG]at q;have v:((wI Do.size 0 lo:Nat):Int)=0:=V5 q.1.1;have x:wI Do.size Do.size c-wI Do.size 0 lo=Do.size:=V5 q.2;exact p ⟨by lia,by lia⟩
 show D4 _ _ (if(((wI Do.size 0 lo:Nat):Int)==0&&(1:Int)==1&&(wI Do.size Do.size c-wI Do.size 0 lo)==Do.size)=true then _ else _) _ _ s;rw[ZM g,PQ]
 first
  |exact Zt (m:=Li _) (Yz (Zy ⟨_,rfl,Zy h⟩) b)
  |exact Zt (m:=Li _) (Yz (Zt<|Zy<|Zy ⟨_,rfl,Zy h⟩) b)
  |exact Zt (Zt (m:=Li _)<|Yz (Zy<|Zy ⟨_,rfl,Zy h⟩) b)
  |exact Zt (Zt (m:=Li _)<|Yz (Zy ⟨_,rfl,Zy h⟩) b)
end
end HT
namespace L2
open PySem PySem.Spec PyProof.Rows
abbrev TO:=St->Hp->(Option Int->Hp->Prop)->Prop
def PO (X:Cx)(e:Option Ey)(t:TO):Prop :=
 ∀(c:De) (s:D7) (b:St) (H:Hp) (Q:Option Int->Hp->Prop),Inv X c b H s->t b H Q ->
  D4 (Eb X.prog X.w) X.A (evalPart e X.env) (λu f=>∃o d,Inv X c b d f/\IsPart u o/\Q o d) X.xe s
def Sz:TO:=λ_ H Q=>Q none H
def ar (t:TE):TO:=λc H Q=>t c H λx b=>∃i,x=.int i/\Q (some i) b
section
variable {X:Cx}{e:Ey}{te:TE}{lo hi:Option Ey}{tl th:TO}{pos p2:Pos}
theorem qS:PO X none Sz:=by
 intro b s c H Q I h;rw[evalPart_none];exact Zy ⟨none,H,I,.none,h⟩
theorem qX (h:PE X e te):PO X (some e) (ar te):=by
 intro b s l H Q I f;rw[evalPart_some];refine CF (h b s l H _ I f) λu n ⟨x,c,d,j,g⟩=>?_;obtain⟨i,rfl,q⟩:=g;obtain⟨t,rfl⟩:=j;exact⟨some i,c,d,.int i t,q⟩
def Wq (X:Cx)(r:V->Option Int->Option Int->Hp->VK->Prop):Prop :=
 ∀(b:De) (s:D7) (f:St) (H:Hp) (x:V) (v d e:D2) (lo hi:Option Int) (c:D1) (Q:VK),Inv X b f H s->yw x v->s.heap.IsSliceOf c d e .none->IsPart d lo->IsPart e hi->r x lo hi H Q ->
  ∃T id,typeLookup (.type T) "__getitem__"=E7 (some<|.builtin id)/\s.TypeIs v T/\D4 (Eb X.prog X.w) X.A (getItem v<|.ref c) (EP X b f Q) X.xe s
def tSl (r:V->Option Int->Option Int->Hp->VK->Prop)(te:TE)(tl th:TO):TE:=λb H Q=>te b H λx c=>tl b c λl d=>th b d λu e=>r x l u e Q
theorem x4 (D:Wq X r)(he:PE X e te)(hl:PO X lo tl)(F:PO X hi th):PE X (.Subscript e (.Slice lo hi none p2) pos) (tSl r te tl th):=by
 intro d s f H Q I h;refine Subscript_<|CF (he d s f H _ I h) λv O ⟨x,n,p,N,K⟩=>?_;refine wpAny_Slice<|CF (hl d O f n _ p K) λg P ⟨l,o,t,G,L⟩=>CF (F d P f o _ t L) λi c ⟨u,j,y,J,M⟩=>?_;rw[evalPart_none];refine Zy ?_;have z:Inv X d f j { c with heap:=c.heap.push { cls:=.type "slice",data:=.fields #[g,i,.none] } }:=y.kept (t':=c.toks) λb ob q=>ZC _ q;obtain⟨T,id,B,E,C⟩:=D d { c with heap:=c.heap.push { cls:=.type "slice",data:=.fields #[g,i,.none] } } f j x v g i l u c.heap.objs.size Q z N (Heap.IsSliceOf.new ..) G J M;show D4 (Eb X.prog X.w) X.A (subscriptTail e (.Slice lo hi none p2) v<|.ref c.heap.objs.size) (EP X d f Q) X.xe { c with heap:=c.heap.push { cls:=.type "slice",data:=.fields #[g,i,.none] } };exact tail_any (ops:=[.ref c.heap.objs.size,v]) E B C (by with_unfolding_all rfl)
def GD (xs:Dj)(lo hi:Option Int):Dj:=(xs.drop<|HT.wI xs.length 0 lo).take<|HT.wI xs.length xs.length hi-HT.wI xs.length 0 lo
theorem X6 (xs:Dj)(lo hi:Option Int):(GD xs lo hi).length<=xs.length:=by
 unfold GD;rw[Z3,Jp];lia
end
def Wr (n:Nat)(i:Int):Option Nat:=if 0<=i then(if i<n then some i.toNat else none) else if -(n:Int)<=i then some (i+n).toNat else none
def Ko {α:Type}(xs:List α)(i:Int):Option α:=(Wr xs.length i).bind λj=>xs[j]?
theorem RW {j:Nat}(h:Wr n i=some j):seqIndex? i n=some j/\j<n/\-(n:Int)<=i/\i<n:=by
 unfold Wr at h
 by_cases c:0<=i
 .rw[ZS c]at h
  by_cases b:i<n
  .rw[ZS b]at h;have e:i.toNat=j:=Option.some.inj h;exact⟨by rw[seqIndex_of c b,e],by lia,by lia,b⟩
  .rw[ZM b]at h;cases h
 .rw[ZM c]at h
  by_cases b:-(n:Int)<=i
  .rw[ZS b]at h;have e:(i+n).toNat=j:=Option.some.inj h;exact⟨by rw[seqIndex_neg (by lia) b,e],by lia,b,by lia⟩
  .rw[ZM b]at h;cases h
theorem BZ {α:Type}{xs:List α}{v:α}(h:Ko xs i=some v):∃j,seqIndex? i xs.length=some j/\xs[j]?=some v/\j<xs.length/\-(xs.length:Int)<=i/\i<xs.length:=by
 unfold Ko at h;cases e:Wr xs.length i with
 |none=>rw[e]at h;cases h
 |some j =>
  rw[e]at h;obtain⟨b,c,d,f⟩:=RW e;exact⟨j,b,h,c,d,f⟩
theorem yE {α:Type}{xs:List α}{j:Nat}{v:α}(h:xs[j]?=some v):Ko xs (j:Int)=some v:=by
 have b:j<xs.length:=(ZO.mp h).1;have e:Wr xs.length (j:Int)=some j:=by
  unfold Wr;rw[ZS<|by lia,ZS<|by lia];simp
 unfold Ko;rwa[e]
def RE (b:Ey):Prop:=∀o i,subscripted b false o i=operate [o,i] (getItem o i)
def CM (X:Cx)(r:R2):Prop :=
 ∀(value b:Ey) (c:De) (s:D7) (d:St) (H:Hp) (x y:V) (v u:D2) (Q:VK),Inv X c d H s->yw x v->yw y u->r x y H Q ->
  subscripted b false v u=operate [v,u] (getItem v u)->D4 (Eb X.prog X.w) X.A (subscriptTail value b v u) (EP X c d Q) X.xe s
def SJ (X:Cx)(id:String)(r:V->Dj->Hp->VK->Prop):Prop :=
 ∀(b:De) (s:D7) (e:St) (H:Hp) (x:V) (d:Dj) (v:D2) (c:Db) (Q:VK),Inv X b e H s->yw x v->yx d c->r x d H Q ->
  D4 (Eb X.prog X.w) X.A (call (.builtin id) (v::c)) (EP X b e Q) X.xe s
section
variable {X:Cx}{a b:Ey}{ta tb:TE}{pos:Pos}
theorem z7 (i:CM X r)(f:PE X a ta)(g:PE X b tb)(hs:RE b:=by exact λ_ _=>rfl):PE X (.Subscript a b pos) (aq r ta tb):=by
 intro c s o H Q I h;exact Subscript_<|Tg f g I h λv u n x y d e j l q=>i a b c n o d x y v u Q e j l q<|hs _ _
inductive vI (K:CB)(x y:V)(H:Hp)(Q:VK):Prop
 |mk (p:D1) (xs:Dj) (i:Int) (v:V) (e:x=.ref p) (f:y=.int i) (h:yj K H p xs) (a:Ko xs i=some v) (q:Q v H):vI K x y H Q
inductive xu (K:CB)(x y:V)(H:Hp)(Q:VK):Prop
 |mk (p:D1) (xs:Dj) (i:Int) (v:V) (e:x=.ref p) (f:y=.int i) (h:xj K H p xs) (a:Ko xs i=some v) (q:Q v H):xu K x y H Q
inductive mD (x y:V)(H:Hp)(Q:VK):Prop
 |mk (z:Str) (i:Int) (c:Nat) (e:x=.str z) (f:y=.int i) (l:z.length<=sizeLine) (a:Ko z.cps.toList i=some c) (q:Q (.str ⟨#[c]⟩) H):mD x y H Q
theorem wY:CM X (vI X.K):=by
 intro value l n s C H x y v u Q I J L h B;obtain⟨p,R,i,z,rfl,rfl,G,he,q⟩:=h;cases J;obtain⟨t,rfl⟩:=L;obtain⟨e,r,f,P⟩:=I.list G;obtain⟨j,c,D,N,E,F⟩:=BZ he;obtain⟨w,o,g⟩:=r.get D;have hl:=r.length;have O:=Gb;have b:EP X n C Q w s:=⟨z,H,I,g,q⟩
 by_cases A:0<=i
 .have d:i.toNat=j:=by
   rw[seqIndex_of A F]at c;exact Option.some.inj c
  exact item_listR f.isList A (by lia) (by rw[d];simpa using o) b B
 .have d:(i+(e.toArray.size:Int)).toNat=j:=by
   rw[seqIndex_neg (by lia) E]at c;rw[ZV,<-hl];exact Option.some.inj c
  exact subscriptTail_builtinR (x:=w) f.isList.typeIs slot_list_getitem.lookup
   (wpAny_getItem_list_neg (Q:=λr M=>r=w/\EP X n C Q r M) f.isList (by lia) (by rw[ZV]<;>lia) (by lia) (by rw[d];simpa using o) ⟨rfl,b⟩) B
theorem za:CM X (xu X.K):=by
 intro value d e s g H x y v u Q I C D h A;obtain⟨p,O,i,z,rfl,rfl,o,he,q⟩:=h;cases C;obtain⟨t,rfl⟩:=D;obtain⟨B,r,f,N⟩:=I.tuple o;obtain⟨j,F,n,G,J,L⟩:=BZ he;obtain⟨w,l,c⟩:=r.get n;have hl:=r.length;have M:=Gb;have b:EP X e g Q w s:=⟨z,H,I,c,q⟩;exact subscriptTail_builtinR (x:=w) f.typeIs slot_tuple_getitem.lookup
  (getItem_tuple (j:=j) (Q:=λr E=>r=w/\EP X e g Q r E) f (by lia) (by lia) (by rwa[ZV,<-hl]) (by simpa using l) ⟨rfl,b⟩) A
theorem XF:CM X mD:=by
 intro value b w s E H x y v u Q I p r h o;obtain⟨z,i,c,rfl,rfl,C,he,q⟩:=h;obtain⟨t,rfl⟩:=p;obtain⟨D,rfl⟩:=r;obtain⟨j,d,g,A,l,n⟩:=BZ he;have hl:z.cps.toList.length=z.length:=by simp[Str.length]
 rw[hl]at d l n;have B:=Gb;exact tail_any (VC s z t) slot_str_getitem.lookup (getItem_str (c:=c) (by
  have e:decide (i < -(2 ^ 63:Int))=false:=ZP (by lia);have f:decide (i≥2 ^ 63)=false:=ZP (by lia);rw[e,f,Bool.or_false]) (by rw[d];simpa using g) ⟨.str ⟨#[c]⟩,H,I.tok _,⟨_,rfl⟩,q⟩) o
theorem FC (lo b:Option Int)(n:Nat):(LU lo b none n).1=((HT.wI n 0 lo:Nat):Int)/\(LU lo b none n).2.1=((HT.wI n n b:Nat):Int)/\(LU lo b none n).2.2=1:=by
 refine⟨?_,?_,rfl⟩
 .cases lo with
  |none=>simp[LU,HT.wI]
  |some i =>
   simp only[LU,HT.wI,Option.getD_none,show(1:Int)>0 by decide,UO]
   by_cases h:i<0
   .simp only[h,UO]<;>lia
   .simp only[h,Vt]<;>lia
 .cases b with
  |none=>simp[LU,HT.wI]
  |some i =>
   simp only[LU,HT.wI,Option.getD_none,show(1:Int)>0 by decide,UO]
   by_cases h:i<0
   .simp only[h,UO]<;>lia
   .simp only[h,Vt]<;>lia
theorem GZ (b:Db)(lo c:Option Int):slicePick b.toArray lo c none=((b.drop<|HT.wI b.length 0 lo).take<|HT.wI b.length b.length c-HT.wI b.length 0 lo).toArray:=by
 obtain⟨d,e,f⟩:=FC lo c b.toArray.size;unfold slicePick;rw[d,e,f];simp only[sliceRange_one,pick_run,ZV]<;>rfl
def W6 (K:CB):V->Option Int->Option Int->Hp->VK->Prop:=λx d c H Q=>∃a b,x=.ref a/\yj K H a b/\∀p,H p=none->Q (.ref p) (upd H p<|.lst<|GD b d c)
theorem oO:Wq X (W6 X.K):=by
 intro w s B H x v z A d e y Q I u i p t h;obtain⟨a,c,rfl,j,q⟩:=h;cases u;obtain⟨n,r,f,l⟩:=I.list j;have g:=r.length;refine⟨"list",_,slot_list_getitem.lookup,f.isList.typeIs,?_⟩;refine wpAny_getItem_list_slice f.isList i p t .none (by simp) ?_ (by rw[ZV]<;>lia);rw[GZ,<-g];refine⟨.ref s.heap.objs.size,_,I.laid (t':=s.toks) (o:=.lst<|GD c d e) (λb ob q=>ZC _ q) (ZB _) ?_,rfl,q _<|I.hok.fresh<|ZB _⟩;exact⟨Yn (X6 c d e) l,_,0,(r.drop<|HT.wI c.length 0 d).take<|HT.wI c.length c.length e-HT.wI c.length 0 d,ZK _ rfl⟩
theorem z5:xg X (.builtin "len") (λxs H Q=>∃p ys,xs=[.ref p]/\(yj X.K H p ys\/xj X.K H p ys)/\Q (.int ys.length) H):=by
 intro j s o H xs n Q I r h;obtain⟨p,ys,rfl,b,q⟩:=h;obtain⟨u,rfl,i⟩:=wU r;cases i;have l:=Gb
 rcases b with b|b
 .obtain⟨d,f,e,g⟩:=I.list b;have c:=f.length;exact Calls.call_len_list e.isList (by simp only[ZV]<;>lia) ⟨.int ys.length,H,I.tok _,⟨s.toks+1,by rw[ZV,c]⟩,q⟩
 .obtain⟨d,f,e,g⟩:=I.tuple b;have c:=f.length;exact len_tuple e (by simp only[ZV]<;>lia) ⟨.int ys.length,H,I.tok _,⟨s.toks+1,by rw[ZV,c]⟩,q⟩
theorem qQ:xg X (.builtin "len") (λxs H Q=>∃z,xs=[.str z]/\z.length<=sizeLine/\Q (.int z.length) H):=by
 intro b s f H xs e Q I r h;obtain⟨z,rfl,d,q⟩:=h;obtain⟨u,rfl,t,rfl⟩:=wU r;have c:=Gb;exact len_str (by lia) ⟨.int z.length,H,I.tok _,⟨_,rfl⟩,q⟩
theorem xg.or (h:xg X f r)(h':xg X f r'):xg X f (λxs H Q=>r xs H Q\/r' xs H Q):=by
 intro b s e H xs d Q I c q
 rcases q with q|q
 .exact h b s e H xs d Q I c q
 .exact h' b s e H xs d Q I c q
theorem xZ:xg X (.type "list") (λxs H Q=>∃p ys,xs=[.ref p]/\(yj X.K H p ys\/xj X.K H p ys)/\∀l,H l=none->Q (.ref l) (upd H l<|.lst ys)):=by
 intro A s D H xs E Q I r h;obtain⟨p,ys,rfl,j,q⟩:=h;obtain⟨u,rfl,C⟩:=wU r;cases C;have i:∀(c:Db),yx ys c->ys.length<=sizeLine->∀(d:Ej) (f:Nat),(∀b z,s.heap.get? b=some z->d.get? b=some z) ->
   d.get? s.heap.objs.size=some { cls:=.type "list",dict:=none,data:=.seq c.toArray f,slots:=#[] }->EP X A D Q (.ref s.heap.objs.size) { s with heap:=d }:=λc g t d f kp e =>
  ⟨.ref s.heap.objs.size,_,I.laid (t':=s.toks) kp (ZB _)<|show yq X.prog X.w _ d _ (.lst ys) from⟨t,c,f,g,e⟩,rfl,q _<|I.hok.fresh<|ZB _⟩
 rcases j with j|j
 .obtain⟨c,g,y,t⟩:=I.list j;have B:=g.length;obtain⟨o,x,v,n,hd⟩:=y.isList;exact call_list_seq p (.inl rfl) x v hd (λd f kp e=>i c g t d f kp e) (by simp only[ZV]<;>lia)
 .obtain⟨c,g,y,t⟩:=I.tuple j;have B:=g.length;obtain⟨o,x,v,n,hd⟩:=y;exact call_list_seq p (.inr rfl) x v hd (λd f kp e=>i c g t d f kp e) (by simp only[ZV]<;>lia)
theorem qE:xg X (.type "tuple") (λxs H Q=>∃p ys,xs=[.ref p]/\((yj X.K H p ys/\∀l,H l=none->Q (.ref l) (upd H l<|.tup ys))\/(xj X.K H p ys/\Q (.ref p) H))):=by
 intro i s t H xs z Q I r h;obtain⟨p,ys,rfl,h⟩:=h;obtain⟨u,rfl,x⟩:=wU r;cases x
 rcases h with⟨hq,q⟩|⟨hq,q⟩
 .obtain⟨c,g,f,n⟩:=I.list hq;have y:=g.length;refine call_tuple_list f.isList (λd kp=>?_) (by simp only[ZV]<;>lia);have j:Inv X i t H { s with heap:=d }:=I.kept (t':=s.toks) kp;have v:Inv X i t (upd H d.objs.size<|.tup ys) { s with heap:=d.push { cls:=.type "tuple",data:=.seq c.toArray } } :=
   j.laid (t':=s.toks) (λb o e=>ZC _ e) (ZB _) (show yq X.prog X.w _ _ _ (.tup ys) from⟨n,c,g,TupAt.new _ _⟩)
  exact⟨.ref d.objs.size,_,v,rfl,q _<|j.hok.fresh<|ZB _⟩
 .obtain⟨c,g,f,n⟩:=I.tuple hq;exact call_tuple_same f ⟨.ref p,H,I,rfl,q⟩
def bE (K:CB)(T:String)(x:V)(H:Hp):Prop:=match x with
 | .str _=>T="str"
 | .int _=>T="int"
 | .ref p=>(T="list"/\∃c,yj K H p c)\/(T="tuple"/\∃o,K.lookup p=some o/\o.cls=.type "tuple"/\o.dict=none) \/
   (T="dict"/\((∃b,H p=some (.dK b))\/∃b,H p=some (.dT b)))\/(T="set"/\∃S n,H p=some (.set S n))
 |_=>False
theorem Rs (I:Inv X Dq σ H s)(r:yw x v)(ty:bE X.K T x H) :
  s.TypeIs v T/\∀a,v=.ref a->∃ob,s.heap.get? a=some ob/\ob.dict=none:=by
 cases x with
 |str z =>
  obtain⟨t,rfl⟩:=r;cases(show T="str" from ty);exact⟨VC s z t,λ_ e=>nomatch e⟩
 |int i =>
  obtain⟨t,rfl⟩:=r;cases(show T="int" from ty);exact⟨typeIs_int s i t,λ_ e=>nomatch e⟩
 |ref p =>
  cases r
  rcases ty with⟨rfl,xs,hq⟩|⟨rfl,o,hk,hc,hd⟩|⟨rfl,hk⟩|⟨rfl,S,n,hk⟩
  .obtain⟨f,_,d,_⟩:=I.list hq;refine⟨d.isList.typeIs,λa e=>?_⟩;cases e;obtain⟨o,n,e,c,hd,_⟩:=d;exact⟨o,e,hd⟩
  .refine⟨⟨o,I.vG p o hk,hc⟩,λa e=>?_⟩;cases e;exact⟨o,I.vG _ o hk,hd⟩
  .have z:∃o,s.heap.get? p=some o/\o.ExactDict:=by
    rcases hk with⟨Dm,hk⟩|⟨Dm,hk⟩
    .obtain⟨_,_,_,_,o,_,_,e,ex,_⟩:=I.hok p _ hk;exact⟨o,e,ex⟩
    .obtain⟨_,_,_,_,o,_,_,e,ex,_⟩:=I.hok p _ hk;exact⟨o,e,ex⟩
   obtain⟨o,e,ex⟩:=z;refine⟨⟨o,e,ex.1⟩,λa b=>?_⟩;cases b;exact⟨o,e,ex.2.1⟩
  .obtain⟨o,_,_,_,e,ex,_⟩:=I.hok p _ hk;refine⟨⟨o,e,ex.1⟩,λa b=>?_⟩;cases b;exact⟨o,e,ex.2.1⟩
 |_=>exact Ew ty
def bq (K:CB)(T:String)(r:V->Dj->Hp->VK->Prop)(c:TE):TE:=λd H Q=>c d H λx b=>bE K T x b/\r x [] b Q
def tBM (K:CB)(T:String)(r:V->Dj->Hp->VK->Prop)(e:TE)(t:TA):TE:=λc H Q=>e c H λx b=>bE K T x b/\t c b λf d=>r x f d Q
variable {o e:Ey}{es:List Ey}{to:TE}{t:TA}{name:Str}{Ds Du:Pos}{T id:String}{r:V->Dj->Hp->VK->Prop}
theorem TQ (pa:PlainAttrs T)(slot:Slot T name id)(b:typeOf (.builtin id)=E7 (.type "method_descriptor"))(p:SJ X id r)(q:PE X o to)
  (i:Lh o name X.env (EV o X.env)=EV o X.env:=by rfl) (g:(Ds.endLine==Du.line)=true:=by rfl):PE X (.Call (.Attribute o name Ds) [] [] Du) (bq X.K T r to):=by
 intro c s f H Q I h;refine VH i g<|CF (q c s f H _ I h) λv u hh=>?_;obtain⟨x,j,d,e,ty,t⟩:=hh;obtain⟨l,n⟩:=Rs d e ty;exact⟨T,id,pa,slot,b,l,n,EH rfl<|Uj<|p c u f j x [] v [] Q d e .nil t⟩
theorem kW {K:CB}(pa:PlainAttrs T)(slot:Slot T name id)(f:typeOf (.builtin id)=E7 (.type "method_descriptor"))(C:SJ X id r)(D:PE X o to)(B:PA X (e::es) t)
  (p:Lh o name X.env (EV o X.env)=EV o X.env:=by rfl)
  (c:((La Du<|Ei (e::es) X.env).all (λx=>!x.1)&&(backToKw Du<|LS [] X.env).all (λx=>x.1.isSome) && decide ((e::es).length+([]:List Keyword).length+(if([]:List Keyword).isEmpty then 0 else 1)<30))=true:=by rfl)
  (n:(Ds.endLine==Du.line)=true:=by rfl) (hs:Ei (e::es) X.env=(false,EV e X.env)::Ei es X.env:=by rfl) (b:(La Du<|Ei es X.env).any (·.1)=false:=by rfl) (A:X.K=K:=by rfl) :
  PE X (.Call (.Attribute o name Ds) (e::es) [] Du) (tBM K T r to t):=by
 subst A;intro d s g H Q I h;refine wpAny_Call_method_late p c n rfl<|CF (D d s g H _ I h) λv J hh=>?_;obtain⟨x,q,i,l,ty,E⟩:=hh;obtain⟨y,z⟩:=Rs i l ty;refine⟨T,id,pa,slot,f,y,z,?_⟩;have j:=B Du d J g q _ i E;rw[hs]at j ⊢;refine EH (by show(false||(La Du<|Ei es X.env).any (·.1))=false;rw[b]<;>rfl) (Lg ?_);exact CF j λM L ⟨vs,u,w,G,F⟩=>C d L g u x vs v M Q w l G F
end
def aI (X:Cx)(id:String)(r:V->Dj->Hp->VK->Prop):Prop :=
 ∀(b:De) (s:D7) (e:St) (H:Hp) (x:V) (d:Dj) (v:D2) (c:Db) (Q:VK),Inv X b e H s->yw x v->yx d c->r x d H Q ->
  D4 (Eb X.prog X.w) X.A (call (.builtin id) (v::c)) (EP X b e Q) X.xe s
theorem yx.one:∀{x:V} {us:Db},yx [x] us->∃u,us=[u]/\yw x u
 |_,_,.cons r .nil=>⟨_,rfl,r⟩
theorem yx.zero:∀{us:Db},yx [] us->us=[]
 |_,.nil=>rfl
theorem yx.dropLast (h:yx xs us):yx xs.dropLast us.dropLast:=by
 induction h with
 |nil=>exact .nil
 |cons r t ih =>
  cases t with
  |nil=>exact .nil
  |cons q t'=>exact .cons r ih
theorem KB {α:Type}(l:List α):l.eraseIdx (l.length-1)=l.dropLast:=by
 induction l with
 |nil=>rfl
 |cons a r ih =>
  cases r with
  |nil=>rfl
  |cons b r =>
   have e:(a::b::r).length-1=((b::r).length-1)+1:=by
    have c:(a::b::r).length=r.length+2:=rfl;have d:(b::r).length=r.length+1:=rfl;lia
   rw[e,List.eraseIdx_cons_succ,ih]
   all_goals rfl
section
variable {X:Cx}{Dq:De}{σ:St}{H:Hp}{s:D7}{l b:D1}{xs ys zs:Dj}
theorem Inv.oh {b DP:Db}{n:Nat}{f:Array D2->Array D2}{t':Nat}(I:Inv X Dq σ H s)(c:H l=some (.lst xs))
  (e:s.heap.get? l=some { cls:=.type "list",data:=.seq b.toArray n }) (g:f b.toArray=DP.toArray) (hv:yx ys DP) (hz:ys.length<=sizeLine) :
  Inv X Dq σ (upd H l<|.lst ys) { s with heap:=s.heap.update l<|EU f,toks:=t' }:=by
 have q:=PySem.IsL.update e f;rw[g]at q;refine I.write (x:=l) (e:=l) (by rw[c];exact trivial) (.inl rfl) (λi u d h=>(VM s.heap (EU f)<|Eh d).trans h) ⟨_,q⟩ ?_;exact⟨hz,DP,_,hv,q⟩
theorem Inv.oM {t':Nat}(I:Inv X Dq σ H s)(hv:yx ys its)(hz:ys.length<=sizeLine) :
  Inv X Dq σ (upd H s.heap.objs.size<|.lst ys) { s with heap:=s.heap.push { cls:=.type "list",data:=.seq its.toArray },toks:=t' } :=
 I.laid (λ_ _ q=>ZC _ q) (ZB _) ⟨hz,its,0,hv,ZK _ rfl⟩
theorem Inv.fresh (I:Inv X Dq σ H s):H s.heap.objs.size=none:=I.hok.fresh<|ZB _
theorem Inv.qd (I:Inv X Dq σ H s)(b:H l=some (.lst xs)):xs.length<=sizeLine/\∃(its:Db) (n:Nat),yx xs its/\xs.length=its.length/\s.heap.get? l=some { cls:=.type "list",data:=.seq its.toArray n }:=by
 obtain⟨z,its,n,r,e⟩:=I.hok l _ b;exact⟨z,its,n,r,r.length,e⟩
theorem Pk {n:Nat}(h:n<=sizeLine):Lj n=false:=by
 unfold Lj;exact ZP (by lia)
end
section
variable {X:Cx}
inductive rm (x:V)(vs:Dj)(H:Hp)(Q:VK):Prop
 |mk (l:D1) (xs:Dj) (y:V) (e:x=.ref l) (f:vs=[y]) (h:H l=some (.lst xs)) (z:xs.length<sizeLine) (q:Q .non<|upd H l<|.lst<|xs++[y]):rm x vs H Q
theorem j2:aI X "list.append" rm:=by
 intro i s t H x vs v o Q I g f h;obtain⟨l,p,y,rfl,rfl,c,j,q⟩:=h;cases g;obtain⟨u,rfl,d⟩:=f.one;obtain⟨z,b,n,r,hl,e⟩:=I.qd c;refine Vf F.slot_list_append ⟨_,e,rfl⟩ F.entry_list_append (F.args_list_append_2 _ _) (PySem.list_append l b.toArray n u (by rw[ZV];lia)) ⟨e,?_⟩;refine⟨.non,_,I.oh (DP:=b++[u]) c e (by simp) (r.append<|.cons d .nil) ?_,rfl,q⟩;rw[ZE,Yi];lia
def bi:V->Dj->Hp->VK->Prop:=λx vs H Q=>∃l b y,x=.ref l/\vs=[]/\H l=some (.lst b)/\b[b.length-1]?=some y/\Q y (upd H l<|.lst b.dropLast)
theorem TC:aI X "list.pop" bi:=by
 intro p s B H x vs v w Q I o j h;obtain⟨l,A,y,rfl,rfl,f,g,q⟩:=h;cases o;have c:=j.zero;subst c;obtain⟨z,b,n,r,hl,e⟩:=I.qd f;obtain⟨u,t,i⟩:=r.get g;have d:b.toArray[b.toArray.size-1]?=some u:=by
  show b.toArray[b.length-1]?=some u;rwa[<-Yj,<-hl]
 refine Vf F.slot_list_pop ⟨_,e,rfl⟩ F.entry_list_pop (F.args_list_pop_1 _) (MeetsSeq.list_pop_last l b.toArray n u d (by rw[ZV];lia)) ⟨e,?_⟩;refine⟨y,_,I.oh (DP:=b.dropLast) f e ?_ r.dropLast ?_,i,q⟩
 .show b.toArray.eraseIdxIfInBounds (b.toArray.size-1)=b.dropLast.toArray;rw[ZV,List.eraseIdxIfInBounds_toArray,KB]
 .rw[List.length_dropLast];lia
def aZ:R2:=λx y H Q=>∃l b c d,x=.ref l/\y=.ref b/\H l=some (.lst c)/\H b=some (.lst d)/\c.length+d.length<=sizeLine/\∀p,H p=none->Q (.ref p) (upd H p<|.lst<|c++d)
theorem Pp:CS X (Mc .Add) aZ:=by
 intro A s F H x y v u Q I t w h;obtain⟨l,b,C,E,rfl,rfl,j,i,B,q⟩:=h;cases t;cases w;obtain⟨z,d,n,r,hl,e⟩:=I.qd j;obtain⟨D,c,n2,p,o,f⟩:=I.qd i;refine PySem.P.add_list e f ?_ (by rw[ZV,ZV];lia);have g:d.toArray++c.toArray=(d++c).toArray:=by simp
 rw[g];exact⟨.ref _,_,I.oM (t':=s.toks) (r.append p) (by rw[ZE];lia),rfl,q _ I.fresh⟩
end
section
variable {prog:D3}{w:D6}{A:Em}{E:D2->Dh}{s:D7}
set_option maxRecDepth 100000 in
end
section
variable {κ:Type} [DecidableEq κ]
def UP (Dm:List<|κ×V)(k:κ):Option V:=(Dm.find? λb=>decide (b.1=k)).map (·.2)
def yr (Dm:List<|κ×V)(k:κ)(v:V):List (κ×V) :=
 if(Dm.any λb=>decide (b.1=k))=true then Dm.map (λb=>if b.1=k then(b.1,v) else b) else Dm++[(k,v)]
def U8 (Dm:List<|κ×V)(k:κ):List (κ×V):=Dm.filter λb=>decide (b.1≠k)
theorem yQ {p:κ×V}{r:List (κ×V)}{k:κ}(e:p.1=k):UP (p::r) k=some p.2:=by simp[UP,YG,e]
theorem yR {p:κ×V}{r:List (κ×V)}{k:κ}(e:¬p.1=k):UP (p::r) k=UP r k:=by simp[UP,YG,e]
theorem xP (k:κ):∀Dm:List<|κ×V,(Dm.any λkv=>decide (kv.1=k))=(UP Dm k).isSome
 |[]=>rfl
 |p::r=>by
  rw[List.any_cons]
  by_cases e:p.1=k
  .simp only[yQ e,Zz e,Bool.true_or,Option.isSome_some]
  .rw[yR e,ZP e,Uz];exact xP k r
theorem Kn (k j:κ)(y:V):∀Dm:List<|κ×V,UP (Dm.map λkv=>if kv.1=k then(kv.1,y) else kv) j=(UP Dm j).map λx=>if j=k then y else x
 |[]=>rfl
 |p::r=>by
  have b:=Kn k j y r;rw[ZT]
  by_cases h:p.1=k
  .rw[ZS h]
   by_cases e:p.1=j
   .rw[yQ (p:=(p.1,y)) e,yQ e,YM,ZS<|e.symm.trans h]
   .rw[yR (p:=(p.1,y)) e,yR e,b]
  .rw[ZM h]
   by_cases e:p.1=j
   .rw[yQ (p:=p) e,yQ e,YM,ZM<|λz=>h<|e.trans z]
   .rw[yR (p:=p) e,yR e,b]
theorem BJ (k j:κ)(y:V):∀Dm:List<|κ×V,UP Dm k=none->UP (Dm++[(k,y)]) j=if j=k then some y else UP Dm j
 |[],_=>by
  by_cases e:k=j
  .rw[ZS e.symm];exact yQ (p:=(k,y)) e
  .rw[ZM<|λz=>e z.symm];exact yR (p:=(k,y)) e
 |p::r,hn=>by
  rw[List.cons_append];have b:¬p.1=k:=λz=>by rw[yQ z]at hn;cases hn
  rw[yR b]at hn;have c:=BJ k j y r hn
  by_cases e:p.1=j
  .rw[yQ e,yQ e,ZM<|λz=>b<|e.trans z]
  .rw[yR e,yR e,c]
theorem Gg (Dm:List<|κ×V)(k j:κ)(y:V):UP (yr Dm k y) j=if j=k then some y else UP Dm j:=by
 unfold yr
 by_cases a:(Dm.any λc=>decide (c.1=k))=true
 .rw[ZS a,Kn];rw[xP]at a
  by_cases e:j=k
  .obtain⟨x,b⟩:=Yx.mp a;rw[ZS e,e,b,YM,ZS rfl]
  .rw[ZM e];cases UP Dm j with
   |none=>rfl
   |some x=>rw[YM,ZM e]
 .rw[ZM a];refine BJ k j y Dm ?_;rw[xP]at a;cases q:UP Dm k with
  |none=>rfl
  |some x=>rw[q]at a;exact(a rfl).elim
theorem xW (Dm:List<|κ×V)(k:κ)(v:V):(yr Dm k v).length<=Dm.length+1:=by
 unfold yr
 split
 .rw[Zu];lia
 .rw[ZE,ZL,Jc];lia
theorem IF {Dm:List (κ×V)}{k:κ}(v:V)(h:UP Dm k=none):yr Dm k v=Dm++[(k,v)]:=by
 unfold yr;rw[xP,h];exact ZM (by decide)
theorem wj.v6 (r:wj o u):o.isSome=u.isSome:=by
 cases o with
 |none=>cases u with
  |none=>rfl
  |some _=>exact(show False from r).elim
 |some _=>cases u with
  |none=>exact(show False from r).elim
  |some _=>rfl
theorem wj.getD (r:wj o u)(rd:yw d d'):yw (o.getD d) (u.getD d'):=by
 cases o with
 |none=>cases u with
  |none=>exact rd
  |some _=>exact(show False from r).elim
 |some _=>cases u with
  |none=>exact(show False from r).elim
  |some _=>exact r
theorem KV.val {Dm:List (κ×V)}{vs:List (κ×D2)}(r:KV Dm vs)(k:κ):wj (UP Dm k) (L3 vs k):=by
 unfold KV at r
 induction r with
 |nil=>exact E3
 | @cons p q ps qs h t ih =>
  obtain⟨d,f⟩:=h
  by_cases e:p.1=k
  .have c:q.1=k:=d.symm.trans e;have b:L3 (q::qs) k=some q.2:=by simp[L3,YG,c]
   rwa[yQ e,b]
  .have c:¬q.1=k:=λz=>e<|d.trans z;have b:L3 (q::qs) k=L3 qs k:=by simp[L3,YG,c]
   rwa[yR e,b]
theorem KV.any {Dm:List (κ×V)}{vs:List (κ×D2)}(r:KV Dm vs)(k:κ):(Dm.any λkv=>decide (kv.1=k))=vs.any λkv=>decide (kv.1=k):=by
 unfold KV at r
 induction r with
 |nil=>rfl
 |cons h t ih=>rw[List.any_cons,List.any_cons,ih,h.1]
theorem KV.repl {Dm:List (κ×V)}{vs:List (κ×D2)}(r:KV Dm vs)(k:κ){y:V}{u:D2}(d:yw y u) :
  KV (Dm.map λkv=>if kv.1=k then(kv.1,y) else kv) (vs.map λkv=>if kv.1=k then(kv.1,u) else kv):=by
 unfold KV at r ⊢
 induction r with
 |nil=>exact .nil
 | @cons p q ps qs h t ih =>
  rw[ZT,ZT];refine .cons ?_ ih;obtain⟨b,c⟩:=h
  by_cases e:p.1=k
  .rw[ZS e,ZS<|b.symm.trans e];exact⟨b,d⟩
  .rw[ZM e,ZM<|λz=>e<|b.trans z];exact⟨b,c⟩
theorem KV.put {Dm:List (κ×V)}{vs:List (κ×D2)}(r:KV Dm vs)(k:κ){y:V}{u:D2}(b:yw y u):KV (yr Dm k y) (stored vs k u):=by
 unfold yr stored;rw[r.any k]
 by_cases e:(vs.any λc=>decide (c.1=k))=true
 .rw[ZS e,ZS e];exact r.repl k b
 .rw[ZM e,ZM e];exact Paired.snoc r ⟨rfl,b⟩
theorem KV.drop {Dm:List (κ×V)}{vs:List (κ×D2)}(r:KV Dm vs)(k:κ):KV (U8 Dm k) (without vs k):=by
 unfold KV at r ⊢;unfold U8 without
 induction r with
 |nil=>exact .nil
 | @cons p q ps qs h t ih =>
  obtain⟨c,f⟩:=h;rw[YI,YI]
  by_cases e:p.1=k
  .have a:¬decide (p.1≠k)=true:=by simp[e]
   have b:¬decide (q.1≠k)=true:=by simp[c.symm.trans e]
   rwa[ZM a,ZM b]
  .have d:¬q.1=k:=λz=>e<|c.trans z;have a:decide (p.1≠k)=true:=by simp[e]
   have b:decide (q.1≠k)=true:=by simp[d]
   rw[ZS a,ZS b];exact .cons ⟨c,f⟩ ih
theorem KV.length {Dm:List (κ×V)}{vs:List (κ×D2)}(r:KV Dm vs):Dm.length=vs.length:=Paired.length r
theorem Ox (Dm:List<|κ×V)(k:κ):(U8 Dm k).length<=Dm.length:=Jl _ _
end
theorem uH (r:yw (kV k) u):(zq P w).is k u=true:=by
 cases k with
 |inl i=>obtain⟨t,e⟩:=(show∃t,u=L7 i t from r);subst e;exact Hw P w i t
 |inr x=>obtain⟨t,e⟩:=(show∃t,u=Lz x t from r);subst e;exact Hx P w x t
theorem Bs:∀{ks:List Key} {us:Db},yx (ks.map kV) us->ItemsAre (zq P w) ks us
 |[],_,r=>by rw[Um]at r;cases r;exact .nil
 |k::ks,_,r=>by
  rw[ZT]at r;cases r with
  |cons h t=>exact .cons (uH h)<|Bs t
abbrev KT (H:Hp):List (List Key×V)->List (List Key×D1×D2)->Prop:=E5 λp q=>p.1=q.1/\H q.2.1=some (.tup<|p.1.map kV)/\yw p.2 q.2.2
theorem KT.val (r:KT H Dm xs)(k:List Key):wj (UP Dm k) ((atKey xs k).map (·.2)):=by
 induction r with
 |nil=>exact E3
 | @cons p q ps qs h t ih =>
  obtain⟨d,_,f⟩:=h
  by_cases e:p.1=k
  .have c:q.1=k:=d.symm.trans e;have b:atKey (q::qs) k=some q.2:=by simp[atKey,YG,c]
   rwa[yQ e,b]
  .have c:¬q.1=k:=λz=>e<|d.trans z;have b:atKey (q::qs) k=atKey qs k:=by simp[atKey,YG,c]
   rwa[yR e,b]
theorem KT.repl (r:KT H Dm xs)(k:List Key){y:V}{u:D2}(f:yw y u) :
  KT H (Dm.map λkv=>if kv.1=k then(kv.1,y) else kv) (xs.map<|putAt k u):=by
 induction r with
 |nil=>exact .nil
 | @cons p q ps qs h t ih =>
  rw[ZT,ZT];refine .cons ?_ ih;obtain⟨b,c,d⟩:=h;unfold putAt
  by_cases e:p.1=k
  .rw[ZS e,ZS<|b.symm.trans e];exact⟨b,c,f⟩
  .rw[ZM e,ZM<|λz=>e<|b.trans z];exact⟨b,c,d⟩
theorem KT.put (r:KT H Dm xs)(k:List Key){b:D1}{y:V}{u:D2}(d:H b=some (.tup<|k.map kV))(c:yw y u) :
  KT H (yr Dm k y) (storedH xs k b u):=by
 have e:(Dm.any λf=>decide (f.1=k))=(atKey xs k).isSome:=by
  rw[xP,(r.val k).v6,Vb]
 unfold yr storedH;rw[e]
 by_cases q:(atKey xs k).isSome=true
 .rw[ZS q,ZS q];exact r.repl k c
 .rw[ZM q,ZM q];exact Paired.snoc r ⟨rfl,d,c⟩
theorem KT.keeps {H':Hp}(r:KT H Dm xs)(c:∀b ys,H b=some (.tup ys)->H' b=some (.tup ys)):KT H' Dm xs :=
 Paired.mZ r λ_ _ z=>⟨z.1,c _ _ z.2.1,z.2.2⟩
section
variable {P:D3}{w:D6}{H:Hp}{h:Ej}{a:D1}
theorem SV (ok:vH P w H h)(e:Rd H a u):yq P w H h a u:=e.ok ok
theorem uB {Dm:Dl}(ok:vH P w H h)(e:Rd H a<|.dK Dm):Dm.length<=sizeLine/\(a==EA)=false/\∃vs,KV Dm vs/\h.DictOf (zq P w) a vs :=
 show yq P w H h a (.dK Dm) from SV ok e
theorem MD {Dm:Dl}(ok:vH P w H h)(e:H a=some (.dK Dm)):Dm.length<=sizeLine/\(a==EA)=false/\∃vs,KV Dm vs/\h.DictOf (zq P w) a vs:=uB ok<|.inl e
theorem uL {ks:List Key}(ok:vH P w H h)(e:H a=some (.tup<|ks.map kV)):(Mh<|zq P w).is h ks a:=by
 obtain⟨_,b,r,o,c,d,n,f,_⟩:=(show yq P w H h a (.tup<|ks.map kV) from ok a _ e);exact⟨o,b.toArray,n,c,d,f,by simpa using Bs r⟩
theorem Ia {Dm:List (List Key×V)}(ok:vH P w H h)(e:Rd H a<|.dT Dm):Dm.length<=sizeLine/\(a==EA)=false /\
  ∃xs,KT H Dm xs/\h.DictOfH (Mh<|zq P w) a xs:=by
 obtain⟨z,y,xs,r,o,d,c,f,g,i,j,n⟩:=(show yq P w H h a (.dT Dm) from SV ok e);refine⟨z,y,xs,r,o,d,c,f,g,i,j,λx b=>?_,n⟩;have all:∀{l:List (List Key×V)} {m:List (List Key×D1×D2)},KT H l m->∀x∈m,(Mh<|zq P w).is h x.1 x.2.1:=by
  intro l m q
  induction q with
  |nil=>intro x b;exact nomatch b
  | @cons p q ps qs hq t ih =>
   intro x b
   rcases ZI.mp b with e|b
   .subst e;exact uL ok (by rw[<-hq.1];exact hq.2.1)
   .exact ih x b
 exact all r x b
theorem WK {Dm:List (List Key×V)}(ok:vH P w H h)(e:H a=some (.dT Dm)):Dm.length<=sizeLine/\(a==EA)=false /\
  ∃xs,KT H Dm xs/\h.DictOfH (Mh<|zq P w) a xs:=Ia ok<|.inl e
end
def wO (H:Hp)(a:D1)(y:V)(r:Option V):Prop :=
 (∃c k,Rd H a (.dK c)/\y=kV k/\r=UP c k)\/∃c k b,Rd H a (.dT c)/\y=.ref b/\H b=some (.tup<|k.map kV)/\r=UP c k
def vQ (H:Hp)(a:D1)(y v:V)(H':Hp):Prop :=
 (∃c k,H a=some (.dK c)/\y=kV k/\c.length<sizeLine/\H'=upd H a (.dK<|yr c k v)) \/
 ∃c k b,H a=some (.dT c)/\y=.ref b/\H b=some (.tup<|k.map kV)/\c.length<sizeLine/\H'=upd H a (.dT<|yr c k v)
theorem wO.k {H:Hp}{a:D1}{Dm:Dl}{k:Key}(e:H a=some (.dK Dm)):wO H a (kV k) (UP Dm k):=.inl ⟨Dm,k,.inl e,rfl,rfl⟩
theorem vQ.k {H:Hp}{a:D1}{Dm:Dl}{k:Key}(e:H a=some (.dK Dm))(hl:Dm.length<sizeLine):vQ H a (kV k) v (upd H a<|.dK<|yr Dm k v):=.inl ⟨Dm,k,e,rfl,hl,rfl⟩
section
variable {X:Cx}{Dq:De}{σ:St}{H:Hp}{s:D7}{a:D1}{y v:V}{u r:D2}{o:Option V}{A:Em}{E:D2->Dh}
theorem Inv.big (I:Inv X Dq σ H s):EA<s.heap.objs.size:=by
 have h:Ed<s.heap.objs.size:=(I.mod.glob.keeps I.bk).lt;exact UH (by decide) h
theorem Ny {Q:D2->Dh}(r:A.units+1<EO)(I:Inv X Dq σ H s)(g:wO H a y<|some v)(n:yw y u)(h:∀w' s',Inv X Dq σ H s'->yw v w'->Q w' s') :
  D4 (Eb X.prog X.w) A (getItem (.ref a) u) Q E s:=by
 rcases g with⟨Dm,k,e,ey,l⟩|⟨Dm,k,b,e,ey,eb,l⟩
 .subst ey;obtain⟨z,hd,vs,c,f⟩:=uB I.hok e;obtain⟨w',j,d⟩:=wj.some_of (v:=v) (o:=L3 vs k) (by rw[l];exact c.val k);exact wpAny_getItem_of (uH n) f.mapOf j<|h w' _ (I.tok _) d
 .subst ey;cases(show u=Ee b from n);obtain⟨z,hd,t,c,f⟩:=Ia I.hok e;obtain⟨w',j,d⟩:=wj.some_of (v:=v) (o:=(atKey t k).map (·.2)) (by rw[l];exact c.val k);obtain⟨p,q,i⟩:=Z0.mp j;refine wpAny_getItem_heap (JC r) (uL I.hok eb) f q ?_;rw[i];exact h w' _ (I.tok _) d
theorem aN {Q:D2->Dh}(i:A.units+1<EO)(I:Inv X Dq σ H s)(g:wO H a y o)(f:yw y u)(h:∀s',Inv X Dq σ H s'->Q (.bool o.isSome) s') :
  D4 (Eb X.prog X.w) A (EC .In u<|.ref a) Q E s:=by
 rcases g with⟨Dm,k,e,ey,l⟩|⟨Dm,k,b,e,ey,eb,l⟩
 .subst ey;obtain⟨z,hd,vs,c,d⟩:=uB I.hok e;refine wpAny_in_of (uH f) hd d.mapOf ?_;rw[<-(c.val k).v6,<-l];exact h _<|I.tok _
 .subst ey;cases(show u=Ee b from f);obtain⟨z,hd,j,c,d⟩:=Ia I.hok e;refine wpAny_in_heap (JC i) (uL I.hok eb) hd d ?_;have q:=(c.val k).v6;rw[Vb]at q;rw[<-q,<-l];exact h _<|I.tok _
theorem RL {Q:D2->Dh}(i:A.units+1<EO)(I:Inv X Dq σ H s)(g:wO H a y o)(f:yw y u)(h:∀s',Inv X Dq σ H s'->Q (.bool<|!o.isSome) s') :
  D4 (Eb X.prog X.w) A (EC .NotIn u<|.ref a) Q E s:=by
 rcases g with⟨Dm,k,e,ey,l⟩|⟨Dm,k,b,e,ey,eb,l⟩
 .subst ey;obtain⟨z,hd,vs,c,d⟩:=uB I.hok e;refine wpAny_notIn_of (uH f) hd d.mapOf ?_;rw[<-(c.val k).v6,<-l];exact h _<|I.tok _
 .subst ey;cases(show u=Ee b from f);obtain⟨z,hd,j,c,d⟩:=Ia I.hok e;refine wpAny_notIn_heap (JC i) (uL I.hok eb) hd d ?_;have q:=(c.val k).v6;rw[Vb]at q;rw[<-q,<-l];exact h _<|I.tok _
theorem uG {h':Ej}{t':Nat}(I:Inv X Dq σ H s)(d:S8<|H a)(hs:Ez a s.heap h')(he:∃q,h'.get? a=some q)(new:yq X.prog X.w (upd H a ob) h' a ob) :
  Inv X Dq σ (upd H a ob) { s with heap:=h',toks:=t' } :=
 I.write (x:=a) (e:=a) d (.inl rfl) (λb q c z=>(hs.2 b c).trans z) he new
theorem GQ {H':Hp}{h':Ej}{Dm:Dl}(z:Dm.length<=sizeLine)(hd:(a==EA)=false)(b:KV Dm vs)(c:h'.DictOf (zq P w) a vs) :
  yq P w H' h' a (.dK Dm):=⟨z,hd,vs,b,c⟩
theorem Nz {Q:Unit->Dh}(L:A.units+1<EO)(I:Inv X Dq σ H s)(g:vQ H a y v H')(x:yw y u)(t:yw v r)(h:∀s',Inv X Dq σ H' s'->Q () s') :
  D4 (Eb X.prog X.w) A (setItem (.ref a) u r) Q E s:=by
 rcases g with⟨Dm,k,e,ey,l,eH⟩|⟨Dm,k,b,e,ey,eb,l,eH⟩
 .subst ey eH;obtain⟨z,hd,vs,d,j⟩:=MD I.hok e;have o:vs.length<=sizeLine:=by rwa[<-d.length]
  have hl:(yr Dm k v).length<=sizeLine:=by have:=xW Dm k v;lia
  refine wpAny_setItem_pairs (hsz:=o) (uH x) j λp f n=>h _ ?_;have he:∃q,p.get? a=some q:=let ⟨q,_,_,i,_⟩:=f;⟨q,i⟩;exact uG I (by rw[e];exact E3) n he<|GQ hl hd (d.put k t) f
 .subst ey eH;cases(show u=Ee b from x);obtain⟨z,hd,M,d,j⟩:=WK I.hok e;have o:M.length<=sizeLine:=by rwa[<-Paired.length d]
  have hl:(yr Dm k v).length<=sizeLine:=by have:=xW Dm k v;lia
  refine wpAny_setItem_heap (hsz:=o) (JC L) (uL I.hok eb) j λp f n=>h _ ?_;obtain⟨q,D,C,i,F,G,J,_,K⟩:=f;refine uG I (by rw[e];exact E3) n ⟨q,i⟩ ⟨hl,hd,_,(d.put k eb t).keeps λc N B=>?_,q,D,C,i,F,G,J,K⟩;rwa[zH<|WV B e<|λz=>nomatch z]
end
section
variable {X:Cx}{Dq:De}{σ:St}{H:Hp}{s:D7}{a:D1}{Dm:Dl}{k:Key}{u:D2}{A:Em}{E:D2->Dh}
theorem WI {v:V}{more:Db}{Q:D2->Dh}(I:Inv X Dq σ H s)(e:H a=some (.dK Dm))(f:yw (kV k) u)(l:UP Dm k=some v)(j:more=[]\/∃x,more=[x])
  (h:∀w' s',Inv X Dq σ (upd H a<|.dK<|U8 Dm k) s'->yw v w'->Q w' s'):D4 (Eb X.prog X.w) A (call (.builtin "dict.pop") (.ref a::u::more)) Q E s:=by
 obtain⟨z,hd,vs,b,g⟩:=MD I.hok e;obtain⟨w',B,d⟩:=wj.some_of (v:=v) (o:=L3 vs k) (by rw[<-l];exact b.val k);have r:(keyPart u).isSome=true:=by
  cases k with
  |inl i=>obtain⟨t,q⟩:=(show∃t,u=L7 i t from f);subst q;rfl
  |inr x=>obtain⟨t,q⟩:=(show∃t,u=Lz x t from f);subst q;rfl
 have p:argsOk "dict.pop" ⟨.ref a::u::more,[]⟩:=by
  rcases j with q|⟨x,q⟩
  .subst q;exact PySem.F.args_dict_pop_2 _ _
  .subst q;exact PySem.F.args_dict_pop_3 _ _ _
 refine JN VX g.typeIs PySem.F.entry_dict_pop p (meets_dict_pop_there (zq X.prog X.w) a (uH f) more j r)
  ⟨vs,w',g,by rw[<-b.length];exact z,B,λn c y=>h w' _ ?_ d⟩
 have he:∃q,n.get? a=some q:=let ⟨q,_,_,hq,_⟩:=c;⟨q,hq⟩;exact uG I (by rw[e];exact E3) y he<|GQ (Yn (Ox Dm k) z) hd (b.drop k) c
theorem Tl {r:D2}{Q:D2->Dh}(I:Inv X Dq σ H s)(e:H a=some (.dK Dm))(c:yw (kV k) u)(l:UP Dm k=none)(h:∀s',Inv X Dq σ H s'->Q r s') :
  D4 (Eb X.prog X.w) A (call (.builtin "dict.pop") [.ref a,u,r]) Q E s:=by
 obtain⟨z,hd,vs,b,d⟩:=MD I.hok e;have f:L3 vs k=none:=wj.none_of (by rw[<-l];exact b.val k);have g:(keyPart u).isSome=true:=by
  cases k with
  |inl i=>obtain⟨t,q⟩:=(show∃t,u=L7 i t from c);subst q;rfl
  |inr x=>obtain⟨t,q⟩:=(show∃t,u=Lz x t from c);subst q;rfl
 exact JN VX d.typeIs PySem.F.entry_dict_pop (PySem.F.args_dict_pop_3 _ _ _) (meets_dict_pop_default (zq X.prog X.w) a (uH c) hd g r) ⟨vs,d,f,h _<|I.tok _⟩
end
def RD (i:Ey):Prop:=∀c b,subscripted i false c b=operate [c,b] (getItem c b)
theorem FH {prog:D3}{w:D6}{A:Em}{E:D2->Dh}{s:D7}{env:Env}{value b:Ey}{pos:Pos}{T id:String}{Q:D2->Dh}
  (hl:typeLookup (.type T) "__getitem__"=E7 (some<|.builtin id)) (hs:RD b)
  (h:D4 (Eb prog w) A (EV value env) (λo s₁=>D4 (Eb prog w) A (EV b env) (λi s₂=>s₂.TypeIs o T/\D4 (Eb prog w) A (getItem o i) Q E s₂) E s₁) E s) :
  D4 (Eb prog w) A (EV (.Subscript value b pos) env) Q E s:=by
 refine Subscript_<|Y1 h (λo s₁ f=>Y1 f (λi s₂ c=>?_) λ_ _ x=>x) λ_ _ x=>x;obtain⟨j,c⟩:=c;unfold subscriptTail;refine Zt ?_;rw[getitemInPython_of_ne j.not_modules];refine Zt<|Vz j hl ?_;have e:D4 (Eb prog w) A (subscripted b false o i) (λr d=>D4 (Eb prog w) A (letTemporaryGo value o r>>=λ_=>E7 r) Q E d) E s₂:=by
  rw[hs o i];exact wpAny_operating<|Y1 c (λr d g=>Zt<|wpAny_letTemporaryGo<|Zy g) λ_ _ x=>x
 first
  |exact Zy (Zt e)
  |exact Zt (Zy<|Zt e)
  |exact Zt e
theorem FZ (I:Inv X Dq σ H s)(g:wO H a y o):s.TypeIs (.ref a) "dict":=by
 rcases g with⟨Dm,k,e,_,_⟩|⟨Dm,k,b,e,_,_,_⟩
 .obtain⟨_,_,vs,_,c⟩:=uB I.hok e;exact c.typeIs
 .obtain⟨_,_,d,_,c⟩:=Ia I.hok e;exact c.typeIs
inductive DgR (x y:V)(H:Hp)(Q:VK):Prop
 |mk (a:D1) (v:V) (e:x=.ref a) (g:wO H a y<|some v) (q:Q v H):DgR x y H Q
def ae (e ty:TE):TE:=λb H Q=>e b H λx c=>ty b c λy d=>DgR x y d Q
def SW (g ty h:TE):TS:=λD b H=>h b H λv d=>g b d λx e=>ty b e λy f=>∃a c,x=.ref a/\vQ f a y v c/\D.nx b c
section
variable {X:Cx}{o i e value:Ey}{pos DG tpos:Pos}{td ty tv:TE}
theorem MY (r:X.A.units+1<EO)(q:PE X o td)(p:PE X i ty)(hs:RD i):PE X (.Subscript o i pos) (ae td ty):=by
 intro c s e H Q I h;refine FH PySem.F.slot_dict_getitem.lookup hs<|CF (q c s e H _ I h) λu C ⟨x,f,l,z,t⟩=>CF (p c C e f _ l t) λD E hh=>?_;obtain⟨y,j,d,B,a,v,ex,g,w⟩:=hh;subst ex;obtain rfl:u=Ee a:=z;exact⟨FZ d g,Ny r d g B λJ G n b=>⟨v,j,n,b,w⟩⟩
theorem yN (w:X.A.units+1<EO)(t:PE X o td)(q:PE X i ty)(hv:PE X value tv)(hs:L8 value (some<|.Subscript o i DG) pos.line X.env=E7 false) :
  PS X (.Assign [.Subscript o i DG] value pos) (SW td ty tv):=by
 intro c s b H D I h;refine wpAny_Assign_Subscript (CF (hv c s b H _ I h) λr J ⟨v,d,j,E,z⟩=>CF (t c J b d _ j z) λu K ⟨x,e,l,F,B⟩=>CF (q c K b e _ l B) λM N hh=>?_) hs;obtain⟨y,L,n,G,a,f,ex,g,C⟩:=hh;subst ex;obtain rfl:u=Ee a:=F;exact Nz w n g G E λO p=>⟨b,f,p,C⟩
end
theorem Ov (h:Ej)(b:EA<h.objs.size):yq P w H (h.push { cls:=.type "dict",data:=.dict #[] }) h.objs.size (.dK []) :=
 ⟨Yf _,YT.mpr<|Eh<|ZX b,[],.nil,Heap.DictOf.new h⟩
def Wh:TE:=λ_ H Q=>∀p,H p=none->Q (.ref p) (upd H p<|.dK [])
section
variable {X:Cx}{pos:Pos}
theorem yM:PE X (.Dict [] [] pos) Wh:=λb s c H Q I h =>
 wpAny_Dict_empty ⟨.ref s.heap.objs.size,_,I.laid (a:=s.heap.objs.size) (o:=.dK []) (t':=s.toks) (λ_ _ q=>ZC _ q) (ZB _)<|Ov s.heap I.big,rfl,h _<|I.hok.fresh<|ZB _⟩
end
structure M1 (X:Cx)(o:Ey)(m:Str)(Ds:Pos)(e:Ey)(Du:Pos):Prop where
 base:Lh o m X.env (EV o X.env)=EV o X.env
 few:((La Du<|Ei [e] X.env).all (λx=>!x.1)&&(backToKw Du<|LS [] X.env).all (λx=>x.1.isSome) && decide (([e]:List Ey).length+([]:List Keyword).length+(if([]:List Keyword).isEmpty then 0 else 1)<30))=true
 line:(Ds.endLine==Du.line)=true
 trees:La Du (Ei [e] X.env)=[(false,EV e X.env)]
structure M2 (X:Cx)(o:Ey)(m:Str)(Ds:Pos)(e f:Ey)(Du:Pos):Prop where
 base:Lh o m X.env (EV o X.env)=EV o X.env
 few:((La Du<|Ei [e,f] X.env).all (λx=>!x.1)&&(backToKw Du<|LS [] X.env).all (λx=>x.1.isSome) && decide (([e,f]:List Ey).length+([]:List Keyword).length+(if([]:List Keyword).isEmpty then 0 else 1)<30))=true
 line:(Ds.endLine==Du.line)=true
 trees:La Du (Ei [e,f] X.env)=[(false,EV e X.env),(false,EV f X.env)]
def Wx (H:Hp)(a:D1):Prop:=(∃b,Rd H a<|.dK b)\/∃b,Rd H a<|.dT b
theorem BL (I:Inv X Dq σ H s)(d:Wx H a) :
  s.TypeIs (.ref a) "dict"/\(∀b,Ee a=.ref b->∃ob,s.heap.get? b=some ob/\ob.dict=none)/\(a==EA)=false:=by
 rcases d with⟨Dm,e⟩|⟨Dm,e⟩
 .obtain⟨_,hd,vs,_,c⟩:=uB I.hok e;refine⟨c.typeIs,λb q=>?_,hd⟩;cases q;obtain⟨ob,_,_,f,g,_⟩:=c;exact⟨ob,f,g.2.1⟩
 .obtain⟨_,hd,h,_,c⟩:=Ia I.hok e;refine⟨c.typeIs,λb q=>?_,hd⟩;cases q;obtain⟨ob,_,_,f,g,_⟩:=c;exact⟨ob,f,g.2.1⟩
section
variable {X:Cx}{Dq:De}{σ:St}{H:Hp}{s:D7}{a:D1}{y d:V}{u r:D2}{o:Option V}{A:Em}{E:D2->Dh}
theorem Tj {Q:D2->Dh}(i:A.units+1<EO)(I:Inv X Dq σ H s)(g:wO H a y o)(f:yw y u)(h:∀w' s',Inv X Dq σ H s'->yw (o.getD .non) w'->Q w' s') :
  D4 (Eb X.prog X.w) A (call (.builtin "dict.get") [.ref a,u]) Q E s:=by
 rcases g with⟨Dm,k,e,ey,l⟩|⟨Dm,k,b,e,ey,eb,l⟩
 .subst ey;obtain⟨z,hd,vs,c,d⟩:=uB I.hok e;refine JN Jm d.typeIs J7 (PySem.F.args_dict_get_2 _ _) (meets_dict_get (zq X.prog X.w) a (uH f) hd) ⟨_,d.mapOf,h _ _ (I.tok _) ?_⟩;rw[l];exact(c.val k).getD rfl
 .subst ey;cases(show u=Ee b from f);obtain⟨z,hd,j,c,d⟩:=Ia I.hok e;refine JN Jm d.typeIs J7 (PySem.F.args_dict_get_2 _ _) (meetsH_dict_get (Mh<|zq X.prog X.w) a b hd) ⟨JC i,k,j,uL I.hok eb,d,h _ _ (I.tok _) ?_⟩;rw[l];exact(c.val k).getD rfl
theorem Tk {Q:D2->Dh}(j:A.units+1<EO)(I:Inv X Dq σ H s)(g:wO H a y o)(i:yw y u)(rd:yw d r)(h:∀w' s',Inv X Dq σ H s'->yw (o.getD d) w'->Q w' s') :
  D4 (Eb X.prog X.w) A (call (.builtin "dict.get") [.ref a,u,r]) Q E s:=by
 rcases g with⟨Dm,k,e,ey,l⟩|⟨Dm,k,b,e,ey,eb,l⟩
 .subst ey;obtain⟨z,hd,vs,c,f⟩:=uB I.hok e;refine JN Jm f.typeIs J7 (PySem.F.args_dict_get_3 _ _ _) (meets_dict_get_default (zq X.prog X.w) a (uH i) hd r) ⟨_,f.mapOf,h _ _ (I.tok _) ?_⟩;rw[l];exact(c.val k).getD rd
 .subst ey;cases(show u=Ee b from i);obtain⟨z,hd,n,c,f⟩:=Ia I.hok e;refine JN Jm f.typeIs J7 (PySem.F.args_dict_get_3 _ _ _) (meetsH_dict_get_default (Mh<|zq X.prog X.w) a b hd r) ⟨JC j,k,n,uL I.hok eb,f,h _ _ (I.tok _) ?_⟩;rw[l];exact(c.val k).getD rd
end
def Wf (e ty:TE):TE:=λd H Q=>e d H λx b=>∃a,x=.ref a/\Wx b a/\ty d b λy c=>∃o,wO c a y o/\Q (o.getD .non) c
def Wg (f ty g:TE):TE:=λb H Q=>f b H λx c=>∃a,x=.ref a/\Wx c a/\ty b c λy e=>g b e λz d=>∃o,wO d a y o/\Q (o.getD z) d
def Wi (g ty h:TE):TE:=λd H Q=>g d H λx e=>∃a,x=.ref a/\Wx e a/\ty d e λy f=>h d f λz c=>∃b k,c a=some (.dK b)/\y=kV k /\
 (∀v,UP b k=some v->Q v (upd c a<|.dK<|U8 b k))/\(UP b k=none->Q z c)
section
variable {X:Cx}{o e f:Ey}{Ds Du:Pos}{td ty tx:TE}
theorem jI (r:X.A.units+1<EO)(q:PE X o td)(he:PE X e ty)(m:M1 X o "get" Ds e Du):PE X (.Call (.Attribute o "get" Ds) [e] [] Du) (Wf td ty):=by
 intro c s i H Q I h;refine VN m.base m.few m.line J0 Jm PySem.F.type_dict_get<|CF (q c s i H _ I h) λu B hh=>?_;obtain⟨x,j,f,w,a,ex,d,t⟩:=hh;subst ex;obtain rfl:u=Ee a:=w;obtain⟨C,D,_⟩:=BL f d;refine⟨C,D,?_⟩;rw[m.trees];refine EH rfl<|Lg<|ET<|CF (he c B i j _ f t) λE J ⟨y,l,n,z,G,g,v⟩=>Lf ?_;exact Tj r n g z λL K p b=>⟨_,l,p,b,v⟩
theorem IR (B:X.A.units+1<EO)(w:PE X o td)(he:PE X e ty)(v:PE X f tx)(m:M2 X o "get" Ds e f Du):PE X (.Call (.Attribute o "get" Ds) [e,f] [] Du) (Wg td ty tx):=by
 intro b s i H Q I h;refine VN m.base m.few m.line J0 Jm PySem.F.type_dict_get<|CF (w b s i H _ I h) λu L hh=>?_;obtain⟨x,l,j,G,a,ex,d,C⟩:=hh;subst ex;obtain rfl:u=Ee a:=G;obtain⟨N,O,_⟩:=BL j d;refine⟨N,O,?_⟩;rw[m.trees];refine EH rfl<|Lg<|ET<|CF (he b L i l _ j C) λR M ⟨y,n,q,J,D⟩ => ET<|CF (v b M i n _ q D) λP T ⟨z,p,r,K,S,g,E⟩=>Lf ?_
 exact Tk B r g J K λY U t c=>⟨_,p,t,c,E⟩
theorem PF (G:PE X o td)(he:PE X e ty)(E:PE X f tx)(m:M2 X o "pop" Ds e f Du):PE X (.Call (.Attribute o "pop" Ds) [e,f] [] Du) (Wi td ty tx):=by
 intro b s i H Q I h;refine VN m.base m.few m.line J0 VX PySem.F.type_dict_pop<|CF (G b s i H _ I h) λu P hh=>?_;obtain⟨x,t,j,N,a,ex,d,J⟩:=hh;subst ex;obtain rfl:u=Ee a:=N;obtain⟨T,U,_⟩:=BL j d;refine⟨T,U,?_⟩;rw[m.trees];refine EH rfl<|Lg<|ET<|CF (he b P i t _ j J) λY R ⟨y,w,B,q,K⟩ => ET<|CF (E b R i w _ B K) λD Z ⟨z,A,n,O,r,k,p,C,L,M⟩=>Lf ?_
 subst C;cases l:UP r k with
 |some v=>exact WI n p q l (.inr ⟨D,rfl⟩) λw' S c g=>⟨v,_,c,g,L v l⟩
 |none=>exact Tl n p q l λS c=>⟨z,A,c,O,M l⟩
end
section
variable {X:Cx}{Dq:De}{σ:St}{H:Hp}{s:D7}{a:D1}{Dm:Dl}{A:Em}{E:D2->Dh}
theorem Ou {Q:D2->Dh}(I:Inv X Dq σ H s)(e:Rd H a<|.dK Dm)(h:∀p s',H p=none->Inv X Dq σ (upd H p<|.dK Dm) s'->Q (.ref p) s'):D4 (Eb X.prog X.w) A (call (.type "dict") [.ref a]) Q E s:=by
 obtain⟨z,hd,vs,c,g⟩:=uB I.hok e;refine kt_call_dict hd g (by rwa[<-c.length]) λj d i=>?_;refine h _ _ (I.hok.fresh<|ZB _)<|I.laid (a:=s.heap.objs.size) (o:=.dK Dm) (t':=s.toks) (λb q f=>?_) (ZB _)<|GQ z (YT.mpr<|Eh<|ZX I.big) c d;exact(i.2 b<|ZX<|ZR f).trans (ZC _ f)
end
end L2
namespace Att
open PySem PySem.W PySem.Calls PyProof.Rows
theorem Ie {P:Params}{h:Ej}:∀(ns:List Int) (vs:Db),WellAll P h vs (ns.map WData.int)->IntsAre vs ns:=by
 intro ns
 induction ns with
 |nil =>
  intro vs w;rw[Um]at w;cases w;exact .nil
 |cons n ns ih =>
  intro vs w;rw[ZT]at w;cases w with
  |cons a b =>
   cases a;exact .cons _ _<|ih _ b
theorem N6 {l:OpenLaw}{n:Nat}(u:l.most=some n){P:Params}{h:Ej}{args:List WData}{c:Db}
  (b:l.row.toRowW.claim.pre args=true) (i:WellAll P h c args) :
  ∃a vs ns,c=[Ee a]/\args=[WData.list<|ns.map WData.int]/\h.get? a=some { cls:=.type "list",data:=.seq vs.toArray }/\IntsAre vs ns/\ns.length<=n:=by
 have g:WShape.hasAll [] args [.list .int]=true:=(pre_splitW b).1;have j:l.pre.holds [] { args:=args }=true:=(pre_splitW b).2;obtain⟨d,r,rfl,p,s⟩:=hasAllW_cons g;obtain rfl:=hasAllW_nil s;obtain⟨w,rfl,t⟩:=hasW_list p;obtain⟨ns,rfl⟩:=items_int t;have o:ns.length<=n:=by
  unfold OpenLaw.pre at j;have e:(WTm.not<|.lt (.lit<|.int (n:Int))<|.len<|.arg 0).holds [] { args:=[.list<|ns.map .int] }=true:=by
   have e:=(holds_andW j).1;rw[u]at e;exact e
  have f:=condW_of e<|w_not<|w_lt w_lit<|w_len_list<|w_arg rfl;rw[Zu]at f;refine Nat.le_of_not_lt λq=>?_;have v:(n:Int)<((ns.length:Nat):Int):=by lia
  first
   |(rw[Zz v]at f;exact absurd f<|by decide)
   |(simp at f;lia)
 cases i with
 |cons w1 w2 =>
  cases w2;cases w1 with
  |list ho hall=>exact⟨_,_,ns,rfl,rfl,ho,Ie ns _ hall,o⟩
theorem N4 (l:OpenLaw)(args:List WData):l.row.toRowW.claim.post args (.bool true) args=true :=
 postW_of (r:=l.row.toRowW) (X:=(true==true))
  (show WShape.has [] (.bool true) .bool=true by first|rfl|decide|simp[WShape.has,WShape.arms,WShape.armsAll])
  (show(WTm.eq .res<|.lit<|.bool true).value [] { args:=args,res:=some<|.bool true,after:=args }=some (.bool<|true==true) from w_eq_bool (w_res rfl) w_lit) rfl
theorem sH {l:OpenLaw}{n:Nat}{q:D3}{b:Da}{s:(Str->Dc)->Ej->Prop}{t:D6->Ej->Prop}{d:DefRec}
  (I:l.most=some n) (i:d.params.defaults=[])
  (call:∀(w:D6) (s₀ s₁:D7) (mg mb:Str->Dc) (fa:D1) (o:Obj) (pm cd doc:D2) (a:D1) (vs:Db) (ns:List Int),Ground q b [] s w s₀ mg mb s₁.heap->t w s₁.heap -> s₁.heap.get? fa=some o->o.data=.func (docDef d.name d.params d.body d.scope pm cd doc)->s₁.heap.CodeRec cd d.name->mg d.name=some (.ref fa) -> s₁.heap.get? a=some { cls:=.type "list",data:=.seq vs.toArray }->IntsAre vs ns->ns.length<=n->s₁.gens=#[] -> LK (Eb l.prog w) callerA (.call (.ref fa) ⟨[.ref a],[]⟩) (λr s'=>r=.ok (.ret<|.bool true)/\OldK s₁.heap s'.heap/\s'.os=s₁.os/\Ml s'.gens) s₁) :
  WalkO q b s t l.row.toRowW d [] (λf vs=>PySem.call f vs):=by
 intro w s₀ s₁ mg mb G Y fa o pm cd doc A kV J hd h v j E u y M g x L p F;obtain rfl:A=.none:=Dflts.none v i;obtain rfl:kV=.none:=Dflts.noKw v;obtain⟨a,vs,ns,rfl,rfl,e,c,z⟩:=N6 I g p;refine enter_call<|JM (call w s₀ s₁ mg mb fa o pm cd doc a vs ns G Y J (fd_plain hd) h j e c z E) λr s' K=>?_;obtain⟨rfl,B,C,D⟩:=K;exact⟨.inl ⟨.bool true,.bool true,[],rfl,λ_=>rfl,.bool true,N4 l _,λ_=>⟨List.Pairwise.nil,λ_ H=>(nomatch H)⟩⟩,B,C,D⟩
end Att
namespace L2
open PySem PySem.Spec PyProof.Rows
theorem Bc:∀{vs:Db} {ns:List Int},IntsAre vs ns->yx (ns.map V.int) vs
 |_,_,.nil=>.nil
 |_,_,.cons n t h=>.cons ⟨t,rfl⟩<|Bc h
def Only (H:Hp):Prop:=∀b,H b=none\/∃o c,H b=some (.frz o<|.lst c)
theorem OU {P:D3}{w:D6}{K:CB}{mg Q:Str->Dc}{CX:Rw}{k:Nat}{J a:D1}{U:D5}{x:Str}{sp:Sp}{c:D7}{vs:Db}{ns:List Int}
  (S:K.In c.heap) (B:c.heap.Ns Ed mg) (g:c.heap.Ns builtinsNs Q) (M:∀x:Str,x≠"__name__"->Q x=LA x) (A:c.heap.NoLimit) (hg:c.gens=#[])
  (G:c.heap.get? a=some { cls:=.type "list",data:=.seq vs.toArray }) (Z:IntsAre vs ns) (hl:ns.length<=sizeLine) (hr:xf k callerA)
  (F:∀base:Ej,K.In base->base.Ns Ed mg->zj P w K mg base CX k J U [x] sp) (l:∀(s:D7) (u:D2),BindsTo s U ⟨[u],[]⟩ [(x,u)])
  (O:∀H:Hp,Only H->yj K H a (ns.map V.int)->sp [.ref a] H (λv _=>v=.bl true) λ_ _ _=>False)
  (L:∀H e s',CX [] H c (λ_ _ _=>False) e s'->False) :
  LK (Eb P w) callerA (.call (.ref J) ⟨[.ref a],[]⟩) (λr s'=>r=.ok (.ret<|.bool true)/\OldK c.heap s'.heap/\s'.os=c.os/\Ml s'.gens) c:=by
 have rv:=Bc Z;have D:=Z.length;have j:∀H:Hp,Only H->yj K H a (ns.map V.int)->vH P w H c.heap->(∀b,H b≠none->b=a)->(H a≠none->K.lookup a=none) ->
   LK (Eb P w) callerA (.call (.ref J) ⟨[.ref a],[]⟩) (λr s'=>r=.ok (.ret<|.bool true)/\OldK c.heap s'.heap/\s'.os=c.os/\Ml s'.gens) c:=by
  intro H Y hS hok X hK;have f:∀{b:D1} {o:Obj},c.heap.get? b=some o->H b=none->(Fg c.heap H).get? b=some o:=λe n=>OJ e n;have R:∀{b:D1} {o:Obj} {t:Array LV} {p:Nat},c.heap.get? b=some o->o.data=.dict t p->H b=none:=λ{b o t p} e d=>by
   cases q:H b with
   |none=>rfl
   |some u =>
    have I:b=a:=X b (by rw[q];simp);subst I;rw[G]at e;cases e;have d':Data.seq vs.toArray _=Data.dict t p:=d;cases d'
  have i:∀{b:D1} {m:Str->Dc},c.heap.Ns b m->(Fg c.heap H).Ns b m:=λ{b m} ⟨o,t,p,e,d,r⟩=>⟨o,t,p,f e<|R e d,d,r⟩;have y:K.In (Fg c.heap H):=λb o e=>f (S b o e) (by
   cases q:H b with
   |none=>rfl
   |some u =>
    have I:b=a:=X b (by rw[q];simp);subst I;rw[hK (by rw[q];simp)]at e;cases e)
  have hM:Mod K mg (Fg c.heap H):=⟨y,i B,⟨Q,i g,M⟩,let ⟨mc,h1,h2⟩:=A;⟨mc,i h1,h2⟩⟩;have e0:rF P w K mg (Fg c.heap H) callerA [] c H:=⟨rfl,hM,λb o e=>R9 e,Vk<|NM _ _,trivial,λb g=>absurd (show b∈([]:Dd) from g) (by simp),hok,.of_eq hg⟩;refine JM ((F _ y<|i B).run callerA [] c H ⟨[.ref a],[]⟩ [.ref a] [.ref a] _ _ hr e0 (l c<|.ref a) (.cons rfl .nil)<|O H Y hS) λr s' h=>?_;cases r with
  |error e=>exact(L H e s' h).elim
  |ok fl =>
   cases fl with
   |next=>exact Ew h
   |brk=>exact Ew h
   |cont=>exact Ew h
   |ret u =>
    obtain⟨v,H',os,bare,un,C,r',q⟩:=h;have q':v=.bl true:=q;subst q';obtain rfl:u=LN true:=r';refine⟨rfl,OldK.of_keep λb o e=>?_,os,bare⟩;cases q:H b with
    |none=>exact un.keep b o e q (by intro z;exact absurd (show b∈([]:Dd) from z) (by simp)) (by simp)
    |some u =>
     rcases Y b with z|⟨ob,xs,z⟩
     .rw[q]at z;cases z
     .have z2:=un.vz b ob _ z;obtain⟨T,_⟩:=hok b _ z;obtain⟨e2,_⟩:=C b _ z2;rw[e]at T;cases T;exact e2
 cases N:K.lookup a with
 |some o =>
  have e:=S a o N;rw[G]at e;cases e;refine j (λ_=>none) (λ_=>.inl rfl) (.inr ⟨_,vs.toArray,_,N,rfl,rfl,rfl,by rw[ZV,D];exact hl,by simpa using rv⟩) (λb u z=>by have E:(none:Option HO)=some u:=z;cases E) (λb z=>absurd rfl z) λz=>absurd rfl z
 |none =>
  refine j (λb=>if b=a then some (.frz { cls:=.type "list",data:=.seq vs.toArray }<|.lst<|ns.map V.int) else none) (λb=>?_) (.inl<|.inr ⟨{ cls:=.type "list",data:=.seq vs.toArray },ZS rfl⟩) (λb u z=>?_) (λb z=>?_) λ_=>N
  .by_cases g:b=a
   .exact .inr ⟨_,_,ZS g⟩
   .exact .inl (ZM g)
  .by_cases g:b=a
   .have E:=(ZS g).symm.trans z;cases E;subst g;exact⟨G,by rw[Zu];exact hl,vs,_,rv,G⟩
   .have E:=(ZM g).symm.trans z;cases E
  .by_cases g:b=a
   .exact g
   .exact absurd (ZM g) z
theorem oZ {l:PySem.W.OpenLaw}{n k:Nat}{q:D3}{i:Da}{E:(Str->Dc)->Ej->Prop}{D:D6->Ej->Prop}{d:DefRec}{K:Params->CB}{CX:D6->Rw}{sp:D6->Sp}{x:Str}
  (R:l.most=some n) (z:n<=sizeLine) (t:d.params.defaults=[]) (S:xf k callerA)
  (N:∀(w:D6) (h:Ej),D w h->(K w.params).In h)
  (F:∀(w:D6) (mg:Str->Dc) (fa:D1) (h:Ej),(K w.params).In h->h.Ns Ed mg->mg d.name=some (.ref fa) -> ∃fd:D5,(∀(s:D7) (u:D2),BindsTo s fd ⟨[u],[]⟩ [(x,u)]) /\ ∀base:Ej,(K w.params).In base->base.Ns Ed mg->zj l.prog w (K w.params) mg base (CX w) k fa fd [x] (sp w))
  (A:∀(w:D6) (H:Hp) (a:D1) (ns:List Int),ns.length<=n->Only H->yj (K w.params) H a (ns.map V.int)->sp w [.ref a] H (λv _=>v=.bl true) λ_ _ _=>False)
  (r:∀(w:D6) (H:Hp) (s:D7) (e:D2) (s':D7),CX w [] H s (λ_ _ _=>False) e s'->False) :
  PySem.W.WalkO q i E D l.row.toRowW d [] (λf vs=>PySem.call f vs):=by
 refine Att.sH R t λw s₀ p mg Z fa o pm U I a vs ns G Y X hd P y j c B Q=>?_;have C:=N w _ Y;obtain⟨fd,O,J⟩:=F w mg fa _ C G.T.g y;exact OU C G.T.g G.T.b G.T.builtins G.T.nolimit Q j c (Yn B z) S J O (λH L M=>A w H a ns B L M) λH e s'=>r w H p e s'
def inClass (s:Er)(j:Nat):Stmt:=match s with
 | .ClassDef _ _ _ body _ _ _ _ _ _ _=>body.getD j<|.Pass ⟨0,0,0,0⟩
 |_=>.Pass ⟨0,0,0,0⟩
def xV (s:Er):Arguments:=match s with
 | .FunctionDef _ a _ _ _ _ _ _ _ _=>a
 |_=>{ posonlyargs:=[],args:=[],vararg:=none,kwonlyargs:=[],kw_defaults:=[],kwarg:=none,defaults:=[] }
def xJ (s:Er):List Stmt:=match s with
 | .FunctionDef _ _ b _ _ _ _ _ _ _=>b
 |_=>[]
def zF (s:Er):Scope:=match s with
 | .FunctionDef _ _ _ _ _ _ sc _ _ _=>sc
 |_=>{ kind:=.function,names:=[],isGenerator:=false,isCoroutine:=false }
abbrev CG:Rw:=λ_ _ _ _ _ _=>False
abbrev E0:XK:=λ_ _ _=>False
theorem GL:jR CG X E0:=λ_ _ _ _ _ _ _ h=>h.elim
structure yc (K:CB)(x qual:Str)(st:Er)(f:D1)(fd:D5):Prop where
 ex:∃(oc:D2) (od:Option D1) (kV doc pm:D2) (an:Option D1) (cdv ct:D2) (osl:Array Dc),
  fd=ER x qual (xV st) (xJ st) (zF st) .none kV doc pm an cdv ct/\K.lookup f=some ⟨oc,od,.func fd,osl⟩/\Lo K cdv qual=true
 kp:EE K (.ref f)=true
section
variable {P:D3}{w:D6}{K:CB}{mg:Str->Dc}{base:Ej}
theorem yc.ok {st:Er}{k:Nat}{sp:Sp}(F:yc K x qual st f fd)(S:zz N ps<|zF st)
  (b:∀(cdv:D2) (A:Em) (outer:List Env) (s:D7) (H:Hp) (vs:Dj) (Q:VK) (E:XK),xf k (A.deeper<|envOfC qual (zF st) s.heap.objs.size f cdv)->sp vs H Q E -> ∃t,sE (Nw CG P w K mg base N qual (zF st) f cdv A outer s H E).lV (xJ st) t/\t { nx:=λ_ H'=>Q .non H',rt:=Q } (start N vs) H)(len:∀vs H Q E,sp vs H Q E->vs.length=ps.length:=by intro _ _ _ _ h;first|(cases h;subst_vars;rfl)|repeat first|(obtain⟨rfl,_⟩:=h;rfl)|obtain⟨_,h⟩:=h):zj P w K mg base CG (k+1) f fd ps sp:=by
 obtain⟨n,o,kV,e,pm,l,cdv,ct,j,rfl,i,c⟩:=F.ex;refine WM i c S len λA outer s H vs Q E g d=>?_;obtain⟨t,h,q⟩:=b cdv A outer s H vs Q E g d;exact⟨t,h.lV,q⟩
theorem yc.binds {st:Er}{ps:Da}(F:yc K x qual st f fd)
  (h:∀(kV doc pm:D2) (an:Option D1) (cdv ct:D2) (us:Db),us.length=ps.length->bindArgs (ER x qual (xV st) (xJ st) (zF st) .none kV doc pm an cdv ct) ⟨us,[]⟩=E7 (ps.zip us)):wN K fd ps []:=by
 obtain⟨e,g,kV,doc,pm,an,cdv,ct,c,rfl,d,b⟩:=F.ex;exact .all<|h kV doc pm an cdv ct
theorem XB {x qual:Str}{st:Er}{f:D1}{h:D2}{i g:Option D1}{e:Array Dc}{kV d pm b ct:D2}(l:K.lookup f=some ⟨h,i,.func<|ER x qual (xV st) (xJ st) (zF st) .none kV d pm g b ct,e⟩)
  (c:Lo K b qual=true) (k:EE K (.ref f)=true):yc K x qual st f (ER x qual (xV st) (xJ st) (zF st) .none kV d pm g b ct):=⟨⟨h,i,kV,d,pm,g,b,ct,e,rfl,l,c⟩,k⟩
end
theorem Hg (b:xf k A):A.units+1<cLine:=VD (Nat.add_le_add_left (by decide:1<=64) _) b.units
section
variable {X:Cx}
theorem pv (i:Nat){x:Str}{pos:Pos}(c:X.N[i]?=some x:=by rfl)(hv:aK X.env.scope x:=by first|exact Et rfl|exact Or.inr (Et rfl)|exact Or.inr (Or.inr rfl))(hd:(x==("__debug__":Str))=false:=by decide)
  (b:(x==("__classdict__":Str))=false:=by decide):PE X (.Name x pos) (Rp i):=TR c hv hd b
end
theorem UQ {A B:Prop}(h:B):if false=true then A else B:=by
 rwa[ZM Yc]
theorem UV {A B:Prop}(h:A):if true=true then A else B:=by
 rwa[ZS rfl]
theorem U0 {c A B:Prop} [Decidable c](h1:c->A)(h2:¬c->B):if c then A else B:=by
 by_cases h:c
 .rw[ZS h];exact h1 h
 .rw[ZM h];exact h2 h
theorem SN {c A B:Prop} [Decidable c](hc:c)(h:B):if(!decide c)=true then A else B:=by
 rw[Zz hc];exact UQ h
def zy (H H':Hp):Prop:=∀b o,H b=some o->H' b=some o
theorem zy.refl (H:Hp):zy H H:=λ_ _ h=>h
theorem zy.trans (a:zy H H1)(b:zy H1 H2):zy H H2:=λc o h=>b c o<|a c o h
theorem zy.free (e:zy H H'){l:D1}(h:H' l=Option.none):H l=Option.none:=by
 cases q:H l with
 |none=>rfl
 |some o =>
  rw[e l o q]at h;cases h
theorem zy.seq {K:CB}(e:zy H H')(h:yj K H a xs):yj K H' a xs:=by
 rcases h with(h|⟨o,h⟩)|h
 .exact .inl (.inl<|e _ _ h)
 .exact .inl (.inr ⟨o,e _ _ h⟩)
 .exact .inr h
section
variable {κ:Type} [DecidableEq κ]
theorem IP {Dm:List (κ×V)}{k:κ}(h:UP Dm k=none):¬k∈Dm.map (·.1):=by
 intro m;obtain⟨p,b,e⟩:=ZA.mp m;have q:(Dm.any λc=>decide (c.1=k))=true:=Yq.mpr ⟨p,b,Zz e⟩;rw[xP,h]at q;exact absurd q (by simp)
theorem qJ {Dm:List (κ×V)}{k:κ}{v:V}(h:UP Dm k=some v):k∈Dm.map (·.1):=by
 have q:(Dm.any λc=>decide (c.1=k))=true:=by
  rw[xP,h]
  all_goals rfl
 obtain⟨p,b,e⟩:=Yq.mp q;exact ZA.mpr ⟨p,b,ZJ e⟩
theorem qD:∀{l:List κ} {k:κ},l.Nodup->¬k∈l->(l++[k]).Nodup
 |[],k,_,_=>by simp
 |a::r,k,h,hk=>by
  obtain⟨b,c⟩:=Yl.mp h;show(a::(r++[k])).Nodup;refine Yl.mpr ⟨λm=>?_,qD c λm=>hk<|ZI.mpr<|Or.inr m⟩
  rcases ZZ.mp m with q|q
  .exact b q
  .exact hk (ZI.mpr<|Et (Zv.mp q).symm)
theorem NB {p:κ×V}{r:List (κ×V)}{k:κ}(e:p.1=k):U8 (p::r) k=U8 r k:=by
 unfold U8;rw[YI,ZM<|by simp[e]]
theorem NA {p:κ×V}{r:List (κ×V)}{k:κ}(e:¬p.1=k):U8 (p::r) k=p::U8 r k:=by
 unfold U8;rw[YI,ZS<|by simp[e]]
end
theorem qL {α b:Type}{f:α->b->Sem (ForInStep b)}(g:b->α->b):∀(l:List α) (c:b),(∀x∈l,∀c,f x c=E7 (.yield<|g c x))->forIn l c f=E7 (l.foldl g c)
 |[],c,_=>rfl
 |x::l,c,h=>by
  rw[List.forIn_cons,h x Zx,pure_bind];exact qL g l (g c x) λy d=>h y<|Zw _ d
def Xp (cells:List<|Str×D1)(c:List<|Str×D1)(x:Str×LF):List (Str×D1) :=
 if x.2==.free then(match cells.lookup x.1 with|some a=>(x.1,a)::c|none=>c) else c
def x5 (env:Env)(sc:LX):List (Str×D1):=sc.names.foldl (Xp env.cells) []
theorem jW {scope:LX}{env:Env}(h:∀x∈scope.names,x.2=.free->∃c,env.cells.lookup x.1=some c):closureFor scope env=E7 (x5 env scope):=by
 simp only[closureFor];rw[qL (Xp env.cells) scope.names []<|λx g c=>?_]
 .rfl
 .obtain⟨n,k⟩:=x;unfold Xp;cases d:(k==NameKind.free) with
  |true =>
   have e:k=.free:=by simpa using d
   obtain⟨a,f⟩:=h (n,k) g e;have b:env.cells.lookup n=some a:=f;simp only[d,UO,cellOf,b,pure_bind]
  |false=>simp only[d,YA,Vt]
theorem xX {c:Type}(x n:Str)(a:c)(l:List<|Str×c):Lr x ((n,a)::l)=if x=n then some a else Lr x l:=by
 by_cases h:x=n
 .have b:(x==n)=true:=Jy.mpr h;simp only[List.lookup_cons,b,ZS h]
 .have b:(x==n)=false:=YT.mpr h;simp only[List.lookup_cons,b,ZM h]
theorem IV {cells:List (Str×D1)}:∀(names:List<|Str×LF) (acc:List<|Str×D1),(∀x c,acc.lookup x=some c->cells.lookup x=some c) ->
  ∀x c,(names.foldl (Xp cells) acc).lookup x=some c->cells.lookup x=some c
 |[],acc,h=>h
 |(n,k)::r,acc,h=>IV r _ λx c e=>by
  unfold Xp at e
  by_cases d:((n,k).2==NameKind.free)=true
  .rw[ZS d]at e;dsimp only at e;cases q:cells.lookup n with
   |none=>rw[q]at e;exact h x c e
   |some a =>
    rw[q]at e;dsimp only at e;rw[xX]at e
    by_cases b:x=n
    .rw[ZS b]at e;rwa[b,q]
    .rw[ZM b]at e;exact h x c e
  .rw[ZM d]at e;exact h x c e
theorem Bz:∀(names:List<|Str×LF) (acc:List<|Str×D1) (x:Str),(∃c,acc.lookup x=some c)->∃c,(names.foldl (Xp cells) acc).lookup x=some c
 |[],acc,x,h=>h
 | (n,k)::r,acc,x,h=>Bz r _ x (by
  obtain⟨c,h⟩:=h;unfold Xp
  by_cases b:((n,k).2==NameKind.free)=true
  .rw[ZS b];dsimp only;cases q:cells.lookup n with
   |none=>exact⟨c,h⟩
   |some a =>
    dsimp only;rw[xX]
    by_cases d:x=n
    .exact⟨a,by rw[ZS d]⟩
    .exact⟨c,by rw[ZM d];exact h⟩
  .rw[ZM b];exact⟨c,h⟩)
theorem FV {cells:List (Str×D1)}{x:Str}{c:D1}(b:cells.lookup x=some c):∀(names:List<|Str×LF) (acc:List<|Str×D1),(x,NameKind.free)∈names->∃c,(names.foldl (Xp cells) acc).lookup x=some c
 |[],acc,h=>by cases h
 |(n,k)::r,acc,h=>by
  rcases ZI.mp h with e|e
  .cases e;refine Bz r _ x ⟨c,?_⟩;unfold Xp;rw[ZS<|by rfl];dsimp only;rw[b];dsimp only;rw[xX,ZS rfl]
  .exact FV b r _ e
theorem MA {env:Env}{sc:LX}{x:Str}{c:D1}(b:env.cells.lookup x=some c)(f:(x,NameKind.free)∈sc.names):(x5 env sc).lookup x=some c:=by
 obtain⟨d,h⟩:=FV b sc.names [] f;have e:=IV sc.names [] (λx c e=>by cases e) x d h;rw[b]at e;cases e;exact h
theorem jO {x:Str}{c:D1}(h:(x5 env sc).lookup x=some c):env.cells.lookup x=some c :=
 IV sc.names [] (λx c e=>by cases e) x c h
def HR (env:Env)(x:Str)(k:LF):NameKind:=if(k==.free&&env.scope.kind==.function&&env.kindOf x==some .cell) then .cell else k
theorem jJ {env:Env}(x:Str):∀names:List<|Str×LF,
  (names.map λ(n,k)=>if(k==NameKind.free&&env.scope.kind==.function&&env.kindOf n==some .cell) then(n,NameKind.cell) else(n,k)).lookup x=(names.lookup x).map (HR env x)
 |[]=>rfl
 |(n,k)::r=>by
  have c:=jJ (env:=env) x r;rw[ZT];have e:(if(k==NameKind.free&&env.scope.kind==.function&&env.kindOf n==some .cell)=true then(n,NameKind.cell) else(n,k))=(n,HR env n k):=by
   unfold HR
   split<;>rfl
  dsimp only;rw[e,xX,xX]
  by_cases b:x=n
  .rw[ZS b,ZS b,b];rfl
  .rwa[ZM b,ZM b]
theorem XV {env:Env}{scope:LX}{b:List (Str×D1)}{C:D1}(x:Str):(Md scope b C env).scope.names.lookup x=(scope.names.lookup x).map (HR env x):=jJ x scope.names
def U5 (src:List<|Option Nat)(σ:St):St:=src.map λo=>o.bind λi=>(σ[i]?).join
structure wg (sc:LX)(N N':Da)(src:List<|Option Nat)(scope:LX):Prop where
 nd:N'.Nodup
 len:src.length=N'.length
 kind:scope.kind=.function
 sV:∀y∈scope.names,y.2≠.cell
 names:∀y∈scope.names,y.2=.local->scope.names.lookup y.1=some .local
 free:∀y∈scope.names,y.2=.free->sc.names.lookup y.1=some .cell\/sc.names.lookup y.1=some .free
 srcs:((src.zip N').all λ(o,x)=>match o with|none=>true|some i=>N[i]?==some x&&scope.names.lookup x==some .free)=true
theorem wg.a {sc:LX}{N N':Da}{src:List (Option Nat)}{scope:LX}(nd:N'.Nodup:=by decide+kernel)(len:src.length=N'.length:=by rfl)(kind:scope.kind=.function:=by rfl)(sV:∀y∈scope.names,y.2≠.cell:=by decide+kernel)(names:∀y∈scope.names,y.2=.local->scope.names.lookup y.1=some .local:=by decide+kernel)(free:∀y∈scope.names,y.2=.free->sc.names.lookup y.1=some .cell\/sc.names.lookup y.1=some .free:=by decide+kernel)(srcs:((src.zip N').all λ(o,x)=>match o with|none=>true|some i=>N[i]?==some x&&scope.names.lookup x==some .free)=true:=by decide+kernel):wg sc N N' src scope:=⟨nd,len,kind,sV,names,free,srcs⟩
theorem wg.at (O:wg sc N N' src scope){j i:Nat}{x:Str}(c:src[j]?=some (some i))(d:N'[j]?=some x):N[i]?=some x/\scope.names.lookup x=some .free:=by
 have e:(src.zip N')[j]?=some (some i,x):=by rw[JH];exact⟨c,d⟩
 have q:=Z9.mp O.srcs _<|ZN e;have b:(N[i]?==some x&&scope.names.lookup x==some .free)=true:=q;rw[ZG]at b;exact⟨V5 b.1,V5 b.2⟩
def Cx.comp (X:Cx)(N':Da)(scope:LX)(C:D1)(s:D7)(H:Hp)(fp:Dd):Cx :=
 { X with N:=N',s₀:=s,H₀:=H,env:=Md scope (x5 X.env scope) C X.env,outer:=X.stack,ex:=fp,fn:=λ_=>false,pn:=[],xe:=λ_ _=>False }
theorem Un.adopt {D:D1}(u:Un fs ex H H1 h h1)(e:h.get? D=none)(c:H D=none):Un fs ex H (upd H1 D o) h h1 where
 keep:=u.keep
 slot:=u.slot
 free:=λb ob q n g=>by
  have f:b≠D:=λz=>by rw[z,e]at q;cases q
  rw[zH f];exact u.free b ob q n g
 there:=u.there
 tups:=λb d q=>by rw[zH<|zK q c];exact u.tups b d q
 vz:=λb ob d q=>by rw[zH<|zK q c];exact u.vz b ob d q
 uW:=λb i q=>by rw[zH<|zK q c];exact u.uW b i q
theorem vH.adopt {D:D1}(x:vH P w H h)(n:H D=none)(new:yq P w (upd H D o) h D o):vH P w (upd H D o) h:=λb u e=>by
 by_cases d:b=D
 .subst d;rw[zB]at e;cases e;exact new
 .rw[zH d]at e;exact(x b u e).stay (λc v _ q=>q) (λc q=>by rwa[zH<|zK q n]) λc f q=>by rwa[zH<|zK q n]
def nF (X:Cx)(b:List Ey)(f:TT):Prop :=
 ∀(e:De) (s:D7) (d:St) (H:Hp) (Q:Bool->Hp->Prop),Inv X e d H s->f d H Q ->
  D4 (Eb X.prog X.w) X.A (forIn b true λc r=>if r=true then do let ok <-isTrue c X.env (EV c X.env);E7 (Me ok) else E7 (Me r)) (TP X e d Q) X.xe s
def Bu:TT:=λ_ H Q=>Q true H
theorem qA:nF X [] Bu:=by
 intro b s c H Q I h;rw[List.forIn_nil];exact Zy ⟨H,I,h⟩
theorem BR (g:PT X c tc):nF X [c] tc:=by
 intro d s j H Q I h;rw[List.forIn_cons];refine Zt<|Zt<|CF (g d s j H _ I h) λb l ⟨e,f,i⟩=>Zy ?_;dsimp only;rw[List.forIn_nil];exact Zy ⟨e,f,i⟩
def Xk (src:List<|Option Nat)(J:It)(g:TG)(t:TT)(s:TE)(Q:VK)(σ:St)(H:Hp):Prop :=
 ∃W:Nat->Nat->Dj->St->Hp->Prop,(∃m,W 0 m [] (U5 src σ) H)/\∀i m f j d,W i m f j d->f.length<=sizeLine /\
 ((J.stop i d/\∀p,d p=none->Q (.ref p) (upd d p<|.lst f)) \/ (J.go i d/\∃l:Dj->St->Hp->Prop,(∀h c e,l h c e->∃o,o<m/\W (i+1) o h c e) /\ ∀x e,J.rW i d x e->g x j e λc q=>t c q λb n=>if b=true then s c n λy r=>l (f++[y]) c r else l f c n))
def Rm (src:List<|Option Nat)(f:TI)(g:TG)(e:TT)(d:TE):TE:=λb H Q=>f b H λJ c=>Xk src J g e d Q b c
section
variable {X:Cx}{tg elt iter:Ey}{ifs:List Ey}{scope sc:LX}{N N':Da}{src:List (Option Nat)}{g:TG}{tf:TT}{te:TE}{wi:TI}{pos:Pos}
theorem O1 {prog:D3}{w:D6}{A:Em}{R:Result->Dh}{s:D7}{it f:D2}{env:Env}(I:Nat->Dh)
  (o:∀n s,I n s->D4 (Eb prog w) A (LQ it) (λr s₁=>match r with
   |none=>R (.ok .next) s₁
   | some v=>D4 (Eb prog w) A (LI tg it v) (λ_ s₂=>D4 (Eb prog w) A (assign tg env v) (λ_ s₃ =>
     D4 (Eb prog w) A (forIn ifs true λc r=>if r=true then do let ok <-isTrue c env (EV c env);E7 (Me ok) else E7 (Me r)) (λok s₄ =>
      if ok=true then D4 (Eb prog w) A (EV elt env) (λx s₅ =>
       D4 (Eb prog w) A (call (.builtin "list.append") [f,x]) (λ_ s₆=>∃m,m<n/\I m s₆) (λ_ _=>False) s₅) (λ_ _=>False) s₄
      else∃m,m<n/\I m s₄) (λ_ _=>False) s₃) (λ_ _=>False) s₂) (λ_ _=>False) s₁) (λ_ _=>False) s)
  (n:Nat) (h:I n s):LK (Eb prog w) A (.compLoop (.ListComp elt [⟨tg,iter,ifs,0⟩] scope pos) 0 it f env) R s:=by
 refine codeAny_loop rfl I (λn s p=>?_) n h;show D4 _ A ((compTurn (.ListComp elt [⟨tg,iter,ifs,0⟩] scope pos) 0 it f env).onRaise (λx=>do noteFrame x env;theTreesLotGoes x)) _ _ s;refine wpAny_noted ?_;rw[compTurn_list];refine Zt<|wpAny_standAt<|Zt<|Y1 (o n s p) (λr s₁ d=>?_) λ_ _ b=>b.elim;cases r with
 |none=>exact Zy d
 |some v =>
  refine Zt<|Y1 d (λ_ s₂ g=>?_) λ_ _ b=>b.elim;refine Zt<|Y1 g (λ_ s₃ i=>Zt<|Y1 i (λok s₄ e=>?_) λ_ _ b=>b.elim) λ_ _ b=>b.elim;cases ok with
  |false=>exact Zy ⟨rfl,e⟩
  |true =>
   exact Zt<|Zt<|Y1 e (λx s₅ j=>Zt<|Y1 j (λ_ s₆ l=>Zy<|Zy ⟨rfl,l⟩) λ_ _ b=>b.elim) λ_ _ b=>b.elim
theorem RJ {fp:Dd}{C:D1}(O:wg sc N N' src scope)(i:X.env.scope=sc)(I:Inv X Dq σ H s)(g:∀b∈fp,XR X Dq H b)
  (v:∀b∈fp,∃o,s.heap.get? b=some o) (l:s.heap.objs.size<=C):(X.comp N' scope C s H fp).Ok:=by
 have u:∀x,((Md scope (x5 X.env scope) C X.env).kindOf x=some .cell\/(Md scope (x5 X.env scope) C X.env).kindOf x=some .free)->(x,NameKind.free)∈scope.names:=λx h=>by
  have h:(Md scope (x5 X.env scope) C X.env).scope.names.lookup x=some .cell\/(Md scope (x5 X.env scope) C X.env).scope.names.lookup x=some .free:=h;rw[XV]at h;cases q:scope.names.lookup x with
  |none=>rw[q]at h;rcases h with h|h<;>cases h
  |some k =>
   have f:=Ji q;rw[q]at h;cases k with
   |free=>exact f
   |cell=>exact absurd rfl<|O.sV _ f
   |_ =>
    exfalso
    rcases h with h|h<;>(have j:=Option.some.inj h;unfold HR at j;simp at j)
 refine⟨I.ok.mod,O.kind,I.ok.glob,I.ok.blt,l,λx y c p r=>I.ok.inj x y c (jO p)<|jO r,λx h=>?_,λx c h=>(by cases h),I.ok.hd,I.ok.frames,.inl rfl,λb d=>?_,I.bs,Yn I.ok.oH I.sz,λb o e d=>?_,λb d z=>?_,I.stack,I.qy⟩
 .have f:=u x h;have n:=O.free _ f rfl;rw[<-i]at n;obtain⟨c,t⟩:=I.ok.has x n;exact⟨c,MA t f⟩
 .refine⟨?_,λx c h=>(g b d).2.2.2.2.1 x c<|jO h⟩;obtain⟨o,e⟩:=v b d;exact ZX<|Z4 (ZR e) l
 .rcases(g b d).2.2.2.1 with z|z
  .exact I.ok.pI b o e z
  .exact absurd (Z4 (Z4 (ZR e) I.ok.oH) z) (YO _)
 .rcases ZI.mp (I.rP b z) with e|e
  .exact(g b d).2.1 e
  .exact(g b d).2.2.1 e
theorem Oo {fp:Dd}{C:D1}{h':Ej}{Q:Nat}(O:wg sc N N' src scope)(n:X.env.scope=sc)(E:X.N=N)(I:Inv X Dq σ H s)(F:∀b∈fp,XR X Dq H b)
  (J:∀b∈fp,∃o,s.heap.get? b=some o) (A:s.heap.objs.size<=C) (k:∀b o,s.heap.get? b=some o->h'.get? b=some o) {M:Str->Dc} (G:h'.Ns C M) :
  Inv (X.comp N' scope C s H fp) [] (U5 src σ) H { s with heap:=h',toks:=Q }:=by
 have cells:∀x c,X.env.cells.lookup x=some c->∀v,s.heap.IsCell c v->h'.IsCell c v:=λx c _ v ⟨o,e,d⟩=>⟨o,k c o e,d⟩;refine⟨RJ O n I F J A,rfl,I.bare,Un.kept k,⟨_,G,λj x v y f R=>?_⟩,λx c e=>?_,I.hok.fresh A,λx c e=>I.v8 x c<|jO e,λp K=>(by cases K),I.hok.kept k,?_⟩
 .have f:(U5 src σ)[j]?=some (some v):=f;have y:N'[j]?=some x:=y;unfold U5 at f;rw[ZF]at f;cases q:src[j]? with
  |none=>rw[q]at f;cases f
  |some o =>
   rw[q]at f;have f:(o.bind λi=>(σ[i]?).join)=some v:=Option.some.inj f;cases o with
   |none=>cases f
   |some i =>
    have f:(σ[i]?).join=some v:=f;obtain⟨T,l⟩:=O.at q y;have B:=Ji l;have D:σ[i]?=some (some v):=by
     cases r:σ[i]? with
     |none=>rw[r]at f;cases f
     |some w=>rw[r]at f;cases w with
      |none=>cases f
      |some w'=>have:w'=v:=Option.some.inj f;rw[this]
    have h:=O.free _ B rfl;rw[<-n]at h;obtain⟨m,S,hl⟩:=I.loc;obtain⟨u,P,L⟩:=hl i x v (by rwa[E]) D<|.inr h;refine⟨u,P,.inr ?_⟩;obtain⟨c,t,g⟩:∃c,X.env.cells.lookup x=some c/\s.heap.IsCell c (some u):=by
     rcases L with⟨z,_⟩|⟨_,c,t,hz⟩
     .exfalso;have z:X.env.scope.names.lookup x=some .local:=z
      rcases h with h|h<;>(rw[h]at z;cases z)
     .exact⟨c,t,hz⟩
    refine⟨?_,c,MA t B,cells x c t _ g⟩;show(Md scope (x5 X.env scope) C X.env).scope.names.lookup x=some .cell\/(Md scope (x5 X.env scope) C X.env).scope.names.lookup x=some .free;rw[XV,l];show some (HR X.env x .free)=some .cell\/some (HR X.env x .free)=some .free;unfold HR
    split
    .exact .inl rfl
    .exact .inr rfl
 .obtain⟨v,z⟩:=I.cell x c<|jO e;exact⟨v,cells x c (jO e) v z⟩
 .show(U5 src σ).length=N'.length;unfold U5;rw[Zu];exact O.len
theorem GC {Dq:De}{σ:St}{H:Hp}{s:D7}{fp:Dd}{it:D1}{tn:Nat->Ej->Prop}{J:It}{E:D2->Dh}{RR:D2->D1->Result->Dh}{Fin:Dj->Hp->Prop}(O:wg sc N N' src scope)(a7:X.env.scope=sc)(hN:X.N=N){U:Cx->Prop}(hU:∀C s H fp,U<|X.comp N' scope C s H fp)
  (hg:∀C s H fp,PG (X.comp N' scope C s H fp) tg g) (a6:∀C s H fp,nF (X.comp N' scope C s H fp) ifs tf) (he:∀C s H fp,PE (X.comp N' scope C s H fp) elt te)
  (I:Inv X Dq σ H s) (T:qz U X.prog X.w X.K tg J fp it tn) (t0:tn 0 s.heap) (hf:∀b∈fp,XR X Dq H b)
  (W:Nat->Nat->Dj->St->Hp->Prop) (m0:Nat) (w0:W 0 m0 [] (U5 src σ) H)
  (hW:∀i m ys σ' H',W i m ys σ' H'->ys.length<=sizeLine/\((J.stop i H'/\Fin ys H') \/ (J.go i H'/\∃Nx:Dj->St->Hp->Prop,(∀ys2 σ2 H2,Nx ys2 σ2 H2->∃m',m'<m/\W (i+1) m' ys2 σ2 H2) /\ ∀x H2,J.rW i H' x H2->g x σ' H2 λσ2 H3=>tf σ2 H3 λb H4=>if b=true then te σ2 H4 λy H5=>Nx (ys++[y]) σ2 H5 else Nx ys σ2 H4)))
  (a5:∀(D C:D1) (s':D7) (σ':St) (H':Hp) (ys:Dj) (its:Db) (n:Nat),s.heap.objs.size<=D->s.heap.objs.size<=C->Inv (X.comp N' scope C s H fp) [] σ' H' s'->s'.heap.get? D=some { cls:=.type "list",data:=.seq its.toArray n }->yx ys its->ys.length<=sizeLine -> H' D=none->D≠C->Fin ys H'->RR (.ref D) C (.ok .next) s') :
  D4 (Eb X.prog X.w) X.A (newList []) (λacc s₃=>D4 (Eb X.prog X.w) X.A (newFunctionEnv scope X.env.globals (x5 X.env scope) [] X.env.qual none .none<|some X.env) (λcenv s₄ => LK (Eb X.prog X.w) X.A (.compStart (.ListComp elt [⟨tg,iter,ifs,0⟩] scope pos) 0 (.ref it) acc { cenv with scope:=relabel scope X.env }) (RR acc cenv.locals) s₄) E s₃) E s:=by
 refine Yz (wpAny_newFunctionEnv O.sV (by intro y hy;cases hy) (λF j h=>?_) O.kind);dsimp only at j h ⊢;generalize ac:s.heap.push { cls:=.type "list",dict:=none,data:=.seq ([]:Db).toArray }=P2 at j h ⊢;have ab:P2.objs.size=s.heap.objs.size+1:=by rw[<-ac,Jr]
 have L:s.heap.objs.size≠P2.objs.size:=by rw[ab];exact ZX<|Vl _
 have bd:s.heap.objs.size<=P2.objs.size:=by rw[ab];exact J4 _
 have below:∀b,b<s.heap.objs.size->b≠P2.objs.size/\b≠s.heap.objs.size:=λb f=>⟨by rw[ab];exact ZX<|Vd f,ZX f⟩;have old:∀b o,s.heap.get? b=some o->F.get? b=some o:=λb o e=>h.extBut b o (below b<|ZR e).1<|ZC _<|ac▸ZC _ e;have DQ:F.get? s.heap.objs.size=some { cls:=.type "list",data:=.seq ([]:Db).toArray 0 }:=h.extBut _ _ L<|ZC _<|ac▸ZK _ rfl;have ai:∀b∈fp,∃o,s.heap.get? b=some o:=λb f=>let ⟨o,e,_⟩:=T.obj 0 _ t0 b f;⟨o,e⟩;have G:∀b∈fp,b<s.heap.objs.size:=λb f=>let ⟨o,e⟩:=ai b f;ZR e;generalize hD:s.heap.objs.size=D at *;generalize hC:P2.objs.size=C at *;have ap:∀tk,Inv (X.comp N' scope C s H fp) [] (U5 src σ) H { s with heap:=F,toks:=tk }:=λtk=>Oo O a7 hN I hf ai (by rwa[hD]) old j;have P:(X.comp N' scope C s H fp).Ok:=(ap 0).ok;have M:∀{H':Hp} {pl:De},(∀b∈fp,H' b=none)->(∀p∈pl,p.1∉fp)->∀b∈fp,XR (X.comp N' scope C s H fp) pl H' b:=λ{H' pl} hn l b f =>
  ⟨hn b f,(P.lW b f).1,P.pJ b f,.inl f,(P.lW b f).2,λp hm=>by
   have hm:p∈pl:=by simpa[Cx.comp] using hm
   exact λz=>l p hm<|z▸f⟩
 have ah:D∉(X.comp N' scope C s H fp).fs:=λf=>by
  obtain⟨_,o,ho,_⟩:=P.uX.mem f;have ho:s.heap.get? D=some o:=ho;have h1:=ZR ho;rw[hD]at h1;exact YO _ h1
 have Y:∀x c,(X.comp N' scope C s H fp).env.cells.lookup x=some c->c≠D:=λx c e z=>by
  obtain⟨v,o,ho,_⟩:=I.cell x c<|jO e;have h1:=ZR ho;rw[hD,z]at h1;exact YO _ h1
 have loop:∀tk,LK (Eb X.prog X.w) X.A (.compLoop (.ListComp elt [⟨tg,iter,ifs,0⟩] scope pos) 0 (.ref it) (.ref D)<|Md scope (x5 X.env scope) C X.env) (RR (.ref D) C) { s with heap:=F,toks:=tk }:=by
  intro tk;refine O1 (λn s'=>∃i ys σ' H' its c,Inv (X.comp N' scope C s H fp) [] σ' H' s'/\tn i s'.heap/\(∀b∈fp,H' b=none)/\s'.heap.get? D=some { cls:=.type "list",data:=.seq (its:Db).toArray c }/\yx ys its/\H' D=none/\W i n ys σ' H') ?_ m0
   ⟨0,[],U5 src σ,H,[],0,ap tk,T.keep 0 _ _ t0 λb _ o e=>old b o e,λb f=>(hf b f).1,DQ,.nil,I.hok.fresh (by rw[hD];exact ZB _),w0⟩
  rintro n s3 ⟨i,ys,t,H3,its,B,I3,ay,ak,d3,v3,am,w3⟩;obtain⟨Dr,a3⟩:=hW i n ys t H3 w3
  rcases a3 with⟨stop,fin⟩|⟨go,Nx,hNx,step⟩
  .have Z:Inv (X.comp N' scope C s H fp) [(D,{ cls:=.type "list",data:=.seq its.toArray B })] t H3 s3:=I3.vZ λp l=>by
    have e:p=(D,{ cls:=.type "list",data:=.seq its.toArray B }):=by simpa using l
    subst e;exact⟨d3,am,L,ah,λv z=>by cases z⟩
   refine CF (T.done (X.comp N' scope C s H fp) rfl rfl rfl (hU _ _ _ _) i _ s3 t H3 _ Z (M ak λp l z=>by
    have e:p=(D,{ cls:=.type "list",data:=.seq its.toArray B }):=by simpa using l
    rw[e]at z;exact YO _<|G D z) ay stop) λr s4 ⟨hr,I4⟩=>?_
   subst hr;obtain⟨d4,a8,_⟩:=I4.pin (D,{ cls:=.type "list",data:=.seq its.toArray B }) (by simp[Cx.comp]);exact a5 D C s4 t H3 ys its B (by lia) (by lia) (I4.vZ λp l=>(by cases l)) d4 v3 Dr a8 L fin
  .have Z:Inv (X.comp N' scope C s H fp) [(D,{ cls:=.type "list",data:=.seq its.toArray B })] t H3 s3:=I3.vZ λp l=>by
    have e:p=(D,{ cls:=.type "list",data:=.seq its.toArray B }):=by simpa using l
    subst e;exact⟨d3,am,L,ah,λv z=>by cases z⟩
   have al:∀p∈[((D,{ cls:=.type "list",data:=.seq its.toArray B }):D1×Obj)],p.1∉fp:=λp l z=>by
    have e:p=(D,{ cls:=.type "list",data:=.seq its.toArray B }):=by simpa using l
    rw[e]at z;exact YO _<|G D z
   refine CF (T.item (X.comp N' scope C s H fp) rfl rfl rfl (hU _ _ _ _) i _ s3 t H3 _ Z (M ak al) ay go) λr s4 ⟨u,hr,h4⟩=>?_;subst hr;refine CF h4 λ_ s5 hh=>?_;obtain⟨x,H5,I5,r5,y5,af,a4⟩:=hh;have a1:=I5.pinned (M a4 al)<|T.obj _ _ af;have S:(D,({ cls:=.type "list",data:=.seq its.toArray B }:Obj))∈(X.comp N' scope C s H fp).pn++([((D,{ cls:=.type "list",data:=.seq its.toArray B }):D1×Obj)]++XQ fp s5.heap):=by simp[Cx.comp]
   have R:∀{a0:St} {Q:Hp} {s7:D7},Inv (X.comp N' scope C s H fp) ([((D,{ cls:=.type "list",data:=.seq its.toArray B }):D1×Obj)]++XQ fp s5.heap) a0 Q s7 ->
     tn (i+1) s7.heap/\∀b∈fp,Q b=none:=λ{a0 Q s7} I7=>⟨T.keep _ _ _ af λb f o e=>(I7.pin (b,o)<|Z5 _<|Z5 _<|jB f e).1,λb f=>by
    obtain⟨o,e,d⟩:=T.obj _ _ af b f;exact(I7.pin (b,o)<|Z5 _<|Z5 _<|jB f e).2.1⟩
   refine CF (hg C s H fp _ s5 t H5 x u _ a1 r5<|step x H5 y5) λ_ s6 ⟨q,H6,I6,q6⟩=>?_;refine CF (a6 C s H fp _ s6 q H6 _ I6 q6) λb s7 ⟨Q,I7,q7⟩=>?_;cases b with
   |false =>
    obtain⟨m',ad,w7⟩:=hNx ys q Q (by simpa using q7);obtain⟨b1,b2⟩:=R I7;obtain⟨d7,a9,_⟩:=I7.pin _ S;exact⟨m',ad,i+1,ys,q,Q,its,B,I7.vZ λp l=>(by cases l),b1,b2,d7,v3,a9,w7⟩
   |true =>
    have q7:te q Q λy H5=>Nx (ys++[y]) q H5:=by simpa using q7
    rw[ZS rfl];refine CF (he C s H fp _ s7 q Q _ I7 q7) λu8 s8 ⟨y,H8,I8,r8,n8⟩=>?_;obtain⟨m',ad,w8⟩:=hNx _ _ _ n8;obtain⟨b1,b2⟩:=R I8;obtain⟨d8,an,_⟩:=I8.pin _ S;have hl:=v3.length;refine wpAny_list_append_plain (items:=its.toArray) ⟨B,d8⟩ (λh9 ⟨c9,d9⟩ as=>?_) (by rwa[ZV,<-hl]);have a2:Inv (X.comp N' scope C s H fp) [] q H8 s8:=I8.vZ λp l=>by cases l
    have I9:Inv (X.comp N' scope C s H fp) [] q H8 { s8 with heap:=h9 }:=a2.turned (t':=s8.toks) (it:=D) (λb o f e=>(as.2 b f).trans e) an L (.inr (by show s.heap.objs.size<=D;lia)) Y (λp l=>by
     have l:p∈([]:De):=by simpa[Cx.comp] using l
     cases l)
    refine⟨m',ad,i+1,ys++[y],q,H8,its++[u8],c9,I9,T.keep _ _ _ b1 λb f o e=>(as.2 b<|λz=>YO _<|z▸G b f).trans e,b2,?_,v3.append<|.cons r8 .nil,an,w8⟩;show h9.get? D=_;rw[d9];simp
 exact codeAny_compStart_list (loop _)<|T.self _ 0 _ _ _ (T.keep 0 _ _ t0 λb _ o e=>old b o e)<|loop _
theorem comp_back {g:St}{H':Hp}{e:D7}{fp:Dd}{C D:D1}{f:Dj}{c:Db}{n:Nat}(I:Inv X Dq σ H s)(p:∀b∈fp,XR X Dq H b)
  (J:Inv (X.comp N' scope C s H fp) [] g H' e) (h:s.heap.objs.size<=D) (d:e.heap.get? D=some { cls:=.type "list",data:=.seq c.toArray n }) (v:yx f c) (hl:f.length<=sizeLine) (q:H' D=none) :
  Inv X Dq σ (upd H' D<|.lst f) e:=by
 have u:Un (frs X.stack) fp H H' s.heap e.heap:=J.base;refine I.call' (ch:=fp) J.os (u.adopt (V9 h)<|I.hok.fresh h) (J.hok.adopt q ⟨hl,c,n,v,d⟩) J.bare λb o=>?_;obtain⟨_,i,_,j,l,f5⟩:=p b o;exact⟨j,i,l,f5⟩
theorem G9 {C:D1}{h':Ej}(I:Inv X Dq σ H s)(d:Inv X Dq σ2 H2 s2)(i:s.heap.objs.size<=C)(c:H2 C=none)(l:Ez C s2.heap h'):Inv X Dq σ2 H2 { s2 with heap:=h' }:=by
 obtain⟨_,f,_,g,h,f5⟩:=I.tu (H':=H2) i c;exact d.turned (t':=s2.toks) (it:=C) (λb o j e=>(l.2 b j).trans e) c f g h f5
theorem xF (O:wg sc N N' src scope)(f:X.env.scope=sc)(S:X.N=N)(b:X.calm=true)(Y:PI X tg iter wi)
  (U:∀C s H fp,PG (X.comp N' scope C s H fp) tg g) (u:∀C s H fp,nF (X.comp N' scope C s H fp) ifs tf) (he:∀C s H fp,PE (X.comp N' scope C s H fp) elt te)
  (hs:∀x,LZ iter X.env x=E7 x:=by intro _;rfl):PE X (.ListComp elt [⟨tg,iter,ifs,0⟩] scope pos) (Rm src wi g tf te):=by
 intro z s G H Q I h;rw[eval_ListComp];have c:closureFor scope X.env=E7 (x5 X.env scope):=jW λx hx Z=>I.ok.has x.1 (by
  have:=O.free x hx Z;rw[<-f]at this;exact this)
 refine wpAny_comprehension_free (use:=none) rfl hs c O.kind O.names<|CF (Y z s G H _ I h) λv s1 L=>CF L λac s2 M=>?_;obtain⟨it,fp,tn,J,H2,e,l,T,y,B,W,⟨m0,w0⟩,i⟩:=M;subst e;refine GC (RR:=λq C=>compPost (Eb X.prog X.w) X.A X.xe none (EP X z G Q) q C) (Fin:=λF j=>∀p,j p=none->Q (.ref p) (upd j p<|.lst F)) O f S (λ_ _ _ _=>b) U u he l T y B W m0 w0 i ?_;intro D C s' ad j F ab n R P o d vv hl E t r;have K:=comp_back l B o R d vv hl E;obtain⟨m,hm,_⟩:=o.loc;have nC:j C=none:=o.free;refine⟨m,hm,λh' sb=>⟨.ref D,_,G9 l K P (by rwa[zH<|Eh t]) sb,rfl,r D E⟩⟩
theorem PU {U:Cx->Prop}{k:Nat}{y:Str}{i c:Pos}(O:wg sc N N' src scope)(q:X.env.scope=sc)(hN:X.N=N)(hU:∀C s H fp,U<|X.comp N' scope C s H fp)(hi:bF U X tg iter wi)
  (hg:∀C s H fp,PG (X.comp N' scope C s H fp) tg g) (L:∀C s H fp,nF (X.comp N' scope C s H fp) ifs tf) (he:∀C s H fp,PE (X.comp N' scope C s H fp) elt te)
  (nd:X.N.Nodup) (M:X.N[k]?=some y) (R:Loc X.env.scope y)
  (P:L8 (.ListComp elt [⟨tg,iter,ifs,0⟩] scope pos) (some<|.Name y i) c.line X.env=E7 true:=by rfl)
  (hf:X.fn y=true\/X.env.scope.names.lookup y=some .local:=by first|exact .inl rfl|exact .inr rfl|assumption)
  (hs:∀x,LZ iter X.env x=E7 x:=by intro _;rfl):PS X (.Assign [.Name y i] (.ListComp elt [⟨tg,iter,ifs,0⟩] scope pos) c) (N8 (Rm src wi g tf te)<|Xo k):=by
 intro u s σ H b I h;rw[exec_Assign_Name_used _ _ _ _ P];refine Zt<|wpAny_standAt<|Zt ?_;show D4 _ X.A (do let _ <-comprehension (.ListComp elt [⟨tg,iter,ifs,0⟩] scope pos) scope X.env _ (newList []) false (EV iter X.env) (some<|assign (.Name y i) X.env)) _ _ s;have f:closureFor scope X.env=E7 (x5 X.env scope):=jW λx R M=>I.ok.has x.1 (by
  have:=O.free x R M;rw[<-q]at this;exact this)
 refine Zt<|Y1 (wpAny_comprehension_free (use:=some<|assign (.Name y i) X.env) (Q:=λ_ j=>SP X u b .next j) rfl hs f O.kind O.names<|CF (hi u s σ H _ I h) λv s1 h1=>CF h1 λac s2 h2=>?_) (λ_ j hq=>Zy<|Zy hq) λ_ _ e=>e
 obtain⟨it,fp,tn,J,H2,e,l,T,S,Y,W,⟨m0,w0⟩,r⟩:=h2;subst e;refine GC (RR:=λE C=>compPost (Eb X.prog X.w) X.A X.xe (some<|assign (.Name y i) X.env) (λ_ j=>SP X u b .next j) E C) (Fin:=λys t=>∀p,t p=none->Xo k (.ref p) σ (upd t p<|.lst ys) b.nx) O q hN hU hg L he l T S Y W m0 w0 r ?_;intro D C j ad t ys ab n hD G B d vv hl Z K F;have I3:=comp_back l Y B hD d vv hl Z;obtain⟨m,hm,_⟩:=B.loc;have nC:t C=none:=B.free;show D4 _ X.A (assign (.Name y i) X.env<|.ref D) _ _ j;refine wpAny_assign_Name<|G7 I3 nd M R (v:=.ref D) rfl (λs4 I4 ⟨a,sa,ha⟩=>?_) hf;have aC:C≠a:=by
  rcases ha with e|e
  .rw[e];intro z;exact YO _<|Z4 l.lt<|z▸G
  .intro z;obtain⟨v,o,ho,_⟩:=l.cell y a e;exact YO _<|Z4 (ZR ho)<|z▸G
 refine⟨m,Heap.Ns.sameBut hm sa aC,λh' sb=>⟨_,_,G9 l I4 G (by rwa[zH<|Eh K]) sb,F D Z⟩⟩
theorem Iy {k:Nat}{y:Str}{h b:Pos}(O:wg sc N N' src scope)(e:X.env.scope=sc)(i:X.N=N)(c:X.calm=true)(n:PI X tg iter wi)
  (l:∀C s H fp,PG (X.comp N' scope C s H fp) tg g) (d:∀C s H fp,nF (X.comp N' scope C s H fp) ifs tf) (he:∀C s H fp,PE (X.comp N' scope C s H fp) elt te)
  (nd:X.N.Nodup) (o:X.N[k]?=some y) (p:Loc X.env.scope y)
  (f:L8 (.ListComp elt [⟨tg,iter,ifs,0⟩] scope pos) (some<|.Name y h) b.line X.env=E7 true:=by rfl)
  (j:X.fn y=true\/X.env.scope.names.lookup y=some .local:=by first|exact .inl rfl|exact .inr rfl|assumption)
  (hs:∀x,LZ iter X.env x=E7 x:=by intro _;rfl):PS X (.Assign [.Name y h] (.ListComp elt [⟨tg,iter,ifs,0⟩] scope pos) b) (N8 (Rm src wi g tf te)<|Xo k) :=
 PU O e i (λ_ _ _ _=>c) n l d he nd o p f j hs
end
def br (t u:TS):TS:=λD d H=>∃R:St->Hp->Prop,t { D with nx:=R } d H/\∀b c,R b c->u D b c
theorem Im {st:Er}{b:List Er}(i:PS X st t)(j:sE X b u):sE X (st::b) (br t u):=by
 intro d s o H D I ⟨R,h,l⟩;refine UD<|CF (i d s o H { D with nx:=R } I h) λf n q=>?_;cases f with
 |next =>
  obtain⟨c,e,g,q⟩:=q;exact j d n c e D g<|l c e q
 |ret v=>exact q
 |brk=>exact q
 |cont=>exact q
section
variable {K:CB}{src:List (Option Nat)}{g:TG}{tf:TT}{te:TE}{Q:VK}{a:D1}{xs:Dj}{σ:St}{H:Hp}
theorem GH {J:It}(n:Nat)(d:Nat->Dj->St->Hp->Prop)(o:d 0 [] (U5 src σ) H)(hz:n<=sizeLine)(hl:∀i ys σ H,i<=n->d i ys σ H->ys.length<=i)
  (l:∀ys σ H,d n ys σ H->J.stop n H) (j:∀i ys σ H,i<n->d i ys σ H->J.go i H)
  (hs:∀i ys σ H,i<n->d i ys σ H->∀x H2,J.rW i H x H2->g x σ H2 λσ2 H3=>tf σ2 H3 λb H4=>if b=true then te σ2 H4 λy H5=>d (i+1) (ys++[y]) σ2 H5 else d (i+1) ys σ2 H4)
  (hd:∀ys σ H,d n ys σ H->∀p,H p=none->Q (.ref p) (upd H p<|.lst ys)):Xk src J g tf te Q σ H:=by
 refine⟨λi m ys σ H=>m=n-i/\i<=n/\d i ys σ H,⟨n,by simp,Yf _,o⟩,?_⟩;rintro i m ys c h ⟨rfl,q,p⟩;have s:=hl i ys c h q p;refine⟨by lia,?_⟩
 by_cases f:i<n
 .exact .inr ⟨j i ys c h f p,d<|i+1,λr σ2 H2 z=>⟨n-(i+1),by lia,rfl,f,z⟩,λx H2 y=>hs i ys c h f p x H2 y⟩
 .have e:i=n:=by lia
  subst e;exact .inl ⟨l ys c h p,hd ys c h p⟩
theorem jS (c:Nat->Dj->St->Hp->Prop)(f:c 0 [] (U5 src σ) H)(hz:xs.length<=sizeLine)(hl:∀i ys σ H,i<=xs.length->c i ys σ H->yj K H a xs/\ys.length<=i)
  (hs:∀i x ys σ H,xs[i]?=some x->c i ys σ H->g x σ H λσ2 H3=>tf σ2 H3 λb H4=>if b=true then te σ2 H4 λy H5=>c (i+1) (ys++[y]) σ2 H5 else c (i+1) ys σ2 H4)
  (hd:∀ys σ H,c xs.length ys σ H->∀p,H p=none->Q (.ref p) (upd H p<|.lst ys)):Xk src (RA K a) g tf te Q σ H :=
 GH xs.length c f hz (λi ys σ H d p=>(hl i ys σ H d p).2) (λys σ H p=>⟨xs,(hl _ ys σ H (ZB _) p).1,ZB _⟩) (λi ys σ H d p=>⟨xs,xs[i],(hl i ys σ H (Jb d) p).1,by simp[d]⟩)
  (λi ys σ H d p x h y=>by
   obtain⟨e,y⟩:=y;subst e;exact hs i x ys σ _ (y xs (hl i ys σ _ (Jb d) p).1) p) hd
theorem Op (c:Nat->Dj->St->Hp->Prop)(f:c 0 [] (U5 src σ) H)(hz:xs.length<=sizeLine)(hl:∀i ys σ H,i<=xs.length->c i ys σ H->xj K H a xs/\ys.length<=i)
  (hs:∀i x ys σ H,xs[i]?=some x->c i ys σ H->g x σ H λσ2 H3=>tf σ2 H3 λb H4=>if b=true then te σ2 H4 λy H5=>c (i+1) (ys++[y]) σ2 H5 else c (i+1) ys σ2 H4)
  (hd:∀ys σ H,c xs.length ys σ H->∀p,H p=none->Q (.ref p) (upd H p<|.lst ys)):Xk src (Rx K a) g tf te Q σ H :=
 GH xs.length c f hz (λi ys σ H d p=>(hl i ys σ H d p).2) (λys σ H p=>⟨xs,(hl _ ys σ H (ZB _) p).1,ZB _⟩) (λi ys σ H d p=>⟨xs,xs[i],(hl i ys σ H (Jb d) p).1,by simp[d]⟩)
  (λi ys σ H d p x h y=>by
   obtain⟨e,y⟩:=y;subst e;exact hs i x ys σ _ (y xs (hl i ys σ _ (Jb d) p).1) p) hd
theorem Kx {lo:Int}{n:Nat}(c:Nat->Dj->St->Hp->Prop)(f:c 0 [] (U5 src σ) H)(hz:n<=sizeLine)(hl:∀i ys σ H,i<=n->c i ys σ H->ys.length<=i)
  (hs:∀i ys σ H,i<n->c i ys σ H->g (.int<|lo+i) σ H λσ2 H3=>tf σ2 H3 λb H4=>if b=true then te σ2 H4 λy H5=>c (i+1) (ys++[y]) σ2 H5 else c (i+1) ys σ2 H4)
  (hd:∀ys σ H,c n ys σ H->∀p,H p=none->Q (.ref p) (upd H p<|.lst ys)):Xk src (RB lo n) g tf te Q σ H :=
 GH n c f hz hl (λ_ _ _ _=>ZB _) (λ_ _ _ _ d _=>d)
  (λi ys σ H d p x h y=>by
   obtain⟨e,y⟩:=y;subst e y;exact hs i ys σ _ d p) hd
theorem Fu {te:TE}{A:V->St->Hp->Prop}{B:St->Hp->Prop}:(λσ2 H3=>Bu σ2 H3 λb H4=>if b=true then te σ2 H4 (λy H5=>A y σ2 H5) else B σ2 H4)=λ(σ2:St) (H3:Hp)=>te σ2 H3 λy H5=>A y σ2 H5:=by
 funext σ2 H3
 show(if true=true then(te σ2 H3 λy H5=>A y σ2 H5) else B σ2 H3)=_;rw[ZS rfl]
theorem jA (b:Nat->Dj->St->Hp->Prop)(c:b 0 [] (U5 src σ) H)(hz:xs.length<=sizeLine)(hl:∀i ys σ H,i<=xs.length->b i ys σ H->yj K H a xs/\ys.length<=i)
  (hs:∀i x ys σ H,xs[i]?=some x->b i ys σ H->g x σ H λσ2 H3=>te σ2 H3 λy H5=>b (i+1) (ys++[y]) σ2 H5)
  (hd:∀ys σ H,b xs.length ys σ H->∀p,H p=none->Q (.ref p) (upd H p<|.lst ys)):Xk src (RA K a) g Bu te Q σ H :=
 jS b c hz hl (λi x ys σ H e p=>by rw[Fu];exact hs i x ys σ H e p) hd
theorem j5 (b:Nat->Dj->St->Hp->Prop)(c:b 0 [] (U5 src σ) H)(hz:xs.length<=sizeLine)(hl:∀i ys σ H,i<=xs.length->b i ys σ H->xj K H a xs/\ys.length<=i)
  (hs:∀i x ys σ H,xs[i]?=some x->b i ys σ H->g x σ H λσ2 H3=>te σ2 H3 λy H5=>b (i+1) (ys++[y]) σ2 H5)
  (hd:∀ys σ H,b xs.length ys σ H->∀p,H p=none->Q (.ref p) (upd H p<|.lst ys)):Xk src (Rx K a) g Bu te Q σ H :=
 Op b c hz hl (λi x ys σ H e p=>by rw[Fu];exact hs i x ys σ H e p) hd
theorem jP {lo:Int}{n:Nat}(b:Nat->Dj->St->Hp->Prop)(c:b 0 [] (U5 src σ) H)(hz:n<=sizeLine)(hl:∀i ys σ H,i<=n->b i ys σ H->ys.length<=i)
  (hs:∀i ys σ H,i<n->b i ys σ H->g (.int<|lo+i) σ H λσ2 H3=>te σ2 H3 λy H5=>b (i+1) (ys++[y]) σ2 H5)
  (hd:∀ys σ H,b n ys σ H->∀p,H p=none->Q (.ref p) (upd H p<|.lst ys)):Xk src (RB lo n) g Bu te Q σ H :=
 Kx b c hz hl (λi ys σ H e p=>by rw[Fu];exact hs i ys σ H e p) hd
end
mutual
def Dt (K:CB)(H:Hp):Ea->V->Prop
 | .none,v=>v=.non
 | .bool b,v=>v=.bl b
 | .int i,v=>v=.int i
 | .str x,v=>v=.str x
 | .list ds,v=>∃a c,v=.ref a/\yj K H a c/\zc K H ds c
 | .tuple ds,v=>∃a c,v=.ref a/\xj K H a c/\zc K H ds c
 | .dict _,_=>False
def zc (K:CB)(H:Hp):Df->Dj->Prop
 |[],xs=>xs=[]
 |d::ds,xs=>∃x r,xs=x::r/\Dt K H d x/\zc K H ds r
end
theorem zy.yh {K:CB}(e:zy H H')(h:xj K H a xs):xj K H' a xs:=by
 rcases h with(h|⟨o,h⟩)|h
 .exact .inl (.inl<|e _ _ h)
 .exact .inl (.inr ⟨o,e _ _ h⟩)
 .exact .inr h
mutual
theorem Dt.same {K:CB}(e:zy H H'):∀(d:Ea) (v:V),Dt K H d v->Dt K H' d v
 | .none,_,h=>h
 | .bool _,_,h=>h
 | .int _,_,h=>h
 | .str _,_,h=>h
 | .list ds,_,⟨a,xs,h1,h2,h3⟩=>⟨a,xs,h1,e.seq h2,zc.same e ds xs h3⟩
 | .tuple ds,_,⟨a,xs,h1,h2,h3⟩=>⟨a,xs,h1,e.yh h2,zc.same e ds xs h3⟩
 | .dict _,_,h=>h
theorem zc.same {K:CB}(e:zy H H'):∀(ds:Df) (xs:Dj),zc K H ds xs->zc K H' ds xs
 |[],_,h=>h
 |d::ds,_,⟨x,r,h1,h2,h3⟩=>⟨x,r,h1,Dt.same e d x h2,zc.same e ds r h3⟩
end
theorem zc.length {K:CB}:∀{ds:Df} {xs:Dj},zc K H ds xs->xs.length=ds.length
 |[],_,h=>by cases(show _=[] from h);rfl
 |d::ds,_,⟨x,r,h1,h2,h3⟩=>by rw[h1,ZL,ZL,zc.length h3]
theorem zc.get {K:CB}:∀{ds:Df} {xs:Dj} {i:Nat} {x:V},zc K H ds xs->xs[i]?=some x->∃d,ds[i]?=some d/\Dt K H d x
 |[],_,_,_,h,e=>by cases(show _=[] from h);simp at e
 |d::ds,_,0,_,⟨x,r,h1,h2,h3⟩,e=>by rw[h1]at e;simp at e;subst e;exact⟨d,rfl,h2⟩
 |d::ds,_,i+1,_,⟨x,r,h1,h2,h3⟩,e=>by
  rw[h1]at e;obtain⟨b,c,f⟩:=zc.get (i:=i) h3 (by simpa using e);exact⟨b,by simpa using c,f⟩
theorem zc.strs {K:CB}:∀(ls:Da),zc K H (ls.map Eu) (ls.map V.str)
 |[]=>rfl
 |x::ls=>⟨.str x,ls.map V.str,rfl,rfl,zc.strs ls⟩
theorem zc.vK {K:CB}:∀{ls:Da} {xs:Dj},zc K H (ls.map Eu) xs->xs=ls.map V.str
 |[],_,h=>h
 |x::ls,_,⟨v,r,h1,b,h3⟩=>by
  have b:v=V.str x:=b;rw[h1,b,zc.vK h3];rfl
section
variable {X:Cx}{Dq:De}{σ:St}{H:Hp}{s:D7}
mutual
theorem Dt.zp (I:Inv X Dq σ H s):∀(d:Ea) (v:V) (u:D2),Dt X.K H d v->yw v u->∃as,Reads s.heap u d as
 | .none,_,u,h,r=>by
  cases(show _=V.non from h);cases(show u=Ev from r);exact⟨_,.none⟩
 | .bool b,_,u,h,r=>by
  cases(show _=V.bl b from h);cases(show u=LN b from r);exact⟨_,.bool b⟩
 | .int i,_,u,h,r=>by
  cases(show _=V.int i from h);obtain⟨t,e⟩:=(show∃t,u=L7 i t from r);cases e;exact⟨_,.int i t⟩
 | .str x,_,u,h,r=>by
  cases(show _=V.str x from h);obtain⟨t,e⟩:=(show∃t,u=Lz x t from r);cases e;exact⟨_,.str x t⟩
 | .list ds,_,u,⟨a,xs,h1,h2,h3⟩,r=>by
  subst h1;cases(show u=Ee a from r);obtain⟨f,g,⟨o,n,e,c,_,d⟩,_⟩:=I.list h2;obtain⟨as,q⟩:=zc.zp I ds xs f h3 g;exact⟨_,.list e c d<|by simpa using q⟩
 | .tuple ds,_,u,⟨a,xs,h1,h2,h3⟩,r=>by
  subst h1;cases(show u=Ee a from r);obtain⟨f,g,⟨o,e,c,n,d⟩,_⟩:=I.tuple h2;obtain⟨as,q⟩:=zc.zp I ds xs f h3 g;exact⟨_,.tuple e c d<|by simpa using q⟩
 | .dict _,_,_,h,_=>Ew h
theorem zc.zp (I:Inv X Dq σ H s):∀(ds:Df) (xs:Dj) (us:Db),zc X.K H ds xs->yx xs us->∃as,Lu s.heap us ds as
 |[],_,us,h,r=>by
  cases(show _=[] from h);cases r;exact⟨_,.nil⟩
 |d::ds,_,us,⟨x,rr,h1,h2,h3⟩,r=>by
  subst h1;cases r with
  |cons r1 r2 =>
   obtain⟨as,b⟩:=Dt.zp I d x _ h2 r1;obtain⟨bs,c⟩:=zc.zp I ds rr _ h3 r2;exact⟨_,.cons b c⟩
end
end
section
variable {X:Cx}
inductive mH (K:CB)(x y:V)(H:Hp)(Q:VK):Prop
 |mk (d e:Ea) (h:Dt K H d x) (i:Dt K H e y) (s:EL d=true) (t:EL e=true) (q:Q (.bl<|EB d e) H):mH K x y H Q
def bf (K:CB):R2:=λx y H Q=>∃d e,Dt K H d x/\Dt K H e y/\EL d=true/\EL e=true/\Q (.bl<|!EB d e) H
theorem Fw (i:X.A.units+64<EO):CS X (EC .Eq) (mH X.K):=by
 intro p s t H x y v u Q I n o h;obtain⟨d,e,b,c,f,g,q⟩:=h;obtain⟨r,j⟩:=Dt.zp I d x v b n;obtain⟨bs,l⟩:=Dt.zp I e y u c o;exact SeqAt.compareEq_shaped j l f g i ⟨.bl _,H,I,rfl,q⟩
theorem TM (i:X.A.units+64<EO):CS X (EC .NotEq) (bf X.K):=by
 intro p s t H x y v u Q I n o h;obtain⟨d,e,b,c,f,g,q⟩:=h;obtain⟨r,j⟩:=Dt.zp I d x v b n;obtain⟨bs,l⟩:=Dt.zp I e y u c o;exact SeqAt.compareNe_shaped j l f g i ⟨.bl _,H,I,rfl,q⟩
theorem kD:∀{ys:Da} {us:Db},yx (ys.map V.str) us->StrsAre us ys
 |[],us,r=>by rw[Um]at r;cases r;exact .nil
 |y::ys,us,r=>by
  rw[ZT]at r;cases r with
  |cons r1 r2 =>
   obtain⟨t,e⟩:=r1;subst e;exact .cons y t<|kD r2
theorem Bn:∀{us:Db} {ys:Da},StrsAre us ys->yx (ys.map V.str) us
 |_,_,.nil=>.nil
 |_,_,.cons y t r=>.cons ⟨t,rfl⟩<|Bn r
def rJoin (K:CB):V->Dj->Hp->VK->Prop:=λx vs H Q=>∃b p c,x=.str b/\vs=[.ref p]/\(yj K H p (c.map V.str)\/xj K H p (c.map V.str))/\(c.map (·.length)).sum+c.length*b.length<=16777216/\Q (.str<|Lc b c) H
theorem BT:SJ X "str.join" (rJoin X.K):=by
 intro n s z H x w v o Q I i f h;obtain⟨j,p,y,rfl,rfl,b,e,q⟩:=h;obtain⟨t,rfl⟩:=i;obtain⟨u,rfl,g⟩:=wU f;cases g
 rcases b with b|b
 .obtain⟨c,r,d,_⟩:=I.list b;exact join_list d.isList (by simpa using kD r) e λl k=>⟨.str _,H,I.tok _,⟨_,rfl⟩,q⟩
 .obtain⟨c,r,d,_⟩:=I.tuple b;exact join_tuple d (by simpa using kD r) e λl k=>⟨.str _,H,I.tok _,⟨_,rfl⟩,q⟩
theorem X7 {b:D2}{lo:Option Int}(h:IsPart b lo):∃o:Option<|Int×Tok,b=partValue o/\lo=o.map (·.1):=by
 cases h with
 |none=>exact⟨none,rfl,rfl⟩
 |int i t=>exact⟨some (i,t),rfl,rfl⟩
def bm:V->Option Int->Option Int->Hp->VK->Prop:=λx c b H Q=>∃z,x=.str z/\z.length<=sizeLine/\Q (.str<|Le z c b) H
theorem XI:Wq X bm:=by
 intro j s A H x v w y o n p Q I i b f g h;obtain⟨z,rfl,c,q⟩:=h;obtain⟨t,rfl⟩:=i;obtain⟨d,rfl,rfl⟩:=X7 f;obtain⟨e,rfl,rfl⟩:=X7 g;refine⟨"str",_,F.slot_str_getitem.lookup,VC _ _ _,wpAny_getItem_str_slice (l:=d) (u:=e) (st:=none) ?_ rfl<|post_val_or_str ⟨Yn (Txt.slice_le z _ _) c,λr k=>⟨.str _,H,I.tok _,⟨_,rfl⟩,q⟩⟩⟩;exact b
end
section
variable {X:Cx}{Dq:De}{σ:St}{H:Hp}{s:D7}{h':Ej}
theorem Inv.p8 {t':Nat}{ch:Dd}(I:Inv X Dq σ H s)(g:∀b∈ch,XR X Dq H b)(k:∀b o,b∉ch->s.heap.get? b=some o->h'.get? b=some o)(th:∀b∈ch,∃o,h'.get? b=some o):Inv X Dq σ H { s with heap:=h',toks:=t' }:=by
 have f:∀b u,H b=some u->b∉ch:=λb u e z=>by rw[(g b z).1]at e;cases e
 refine I.step (g':=s.gens) (d':=s.drawn) (ch:=ch) (λb t=>?_) (λb o _ _ d e _=>k b o d e) (λb o _ _ d e _=>⟨o.slots,k b o d e⟩) (λ_ _ _ _ n=>n)
  (λb o d e=>⟨o,k b o d e⟩) (λ_ _ e=>e) (λ_ _ _ e=>e) (λb y e=>⟨#[],by rw[e];simp⟩) (λm w=>?_) (λb u e=>?_) I.bare
 .obtain⟨_,j,_,l,p,f5⟩:=g b t;exact⟨l,j,p,f5⟩
 .obtain⟨o,i,h,x,r⟩:=w;exact⟨o,i,h,k _ o (λz=>(g _ z).2.1 rfl) x,r⟩
 .refine(I.hok b u e).stay (λc v d q=>k c v ?_ q) (λ_ q=>q) λ_ _ q=>q
  rcases d with z|z
  .rw[z];exact f b u e
  .exact f c _ z
theorem Un.nZ {D:D1}(u:Un fs ex H H1 h h1)(f:h.get? D=none)(d:H1 D=none):Un fs ex H (upd H1 D o) h h1 where
 keep:=u.keep
 slot:=u.slot
 free:=λb ob q n i=>by
  have g:b≠D:=λz=>by rw[z,f]at q;cases q
  rw[zH g];exact u.free b ob q n i
 there:=u.there
 tups:=λb c q=>by rw[zH<|zK (u.tups b c q) d];exact u.tups b c q
 vz:=λb ob c q=>by rw[zH<|zK (u.vz b ob c q) d];exact u.vz b ob c q
 uW:=λb j q=>by
  obtain⟨m,e⟩:=u.uW b j q;exact⟨m,by rw[zH<|zK e d];exact e⟩
theorem Inv.nJ {T:D1}{o:HO}(I:Inv X Dq σ H s)(n:H T=none)(f:X.s₀.heap.objs.size<=T)(g:T≠X.env.locals)(h:∀x c,X.env.cells.lookup x=some c->c≠T)(i:∀p∈X.pn++Dq,p.1≠T)
  (new:yq X.prog X.w (upd H T o) s.heap T o):Inv X Dq σ (upd H T o) s:=by
 refine⟨I.ok,I.os,I.bare,I.base.nZ (V9 f) n,I.loc,I.cell,?_,λx c e=>?_,λp b=>?_,I.hok.adopt n new,I.len⟩
 .rw[zH<|Eh g];exact I.free
 .rw[zH<|h x c e];exact I.v8 x c e
 .obtain⟨e,j,ne,l,d⟩:=I.pin p b;exact⟨e,by rw[zH<|i p b];exact j,ne,l,d⟩
end
def Wz (x:Str):It:=⟨λi _=>i<x.length,λi H v b=>b=H/\∃c,x.cps[i]?=some c/\v=.str ⟨#[c]⟩,λi _=>i=x.length⟩
theorem Gv {P:D3}{w:D6}{K:CB}{S:Ey}{it:D1}{x:Str}{j:Nat->Ej->Prop}(D:∀A:Em,A.handled=none->Walks P w A it [it] [it] x.cps.size (SignAt x) j)
  (Z:∀i h,j i h->∃o,h.get? it=some o/\∀v,o.data≠.cell v) (f:∀(A:Em) (i:Nat) (s:D7) (Q:D2->Dh) (E:D2->Dh),j i s.heap->Q (.ref it) s->D4 (Eb P w) A (pyIter<|.ref it) Q E s) :
  Turn P w K S (Wz x) [it] it j where
 mem:=by simp
 obj:=λi h st b d=>by
  have e:b=it:=by simpa using d
  subst e;exact Z i h st
 keep:=λi h g st k=>(D {} rfl).frame i h g st k
 item:=by
  intro X C L B F i n s R H E I l st J;subst C L B;obtain⟨q,r,Y,t,y,f5⟩:=l it (by simp);refine(D X.A<|I.ok.hd F).item i s _ _ J st λv g O hv N M=>?_;obtain⟨c,u,G,rfl⟩:=hv;have U:Inv X n R H { s with heap:=g,toks:=O }:=I.turned (λb o d e=>M b o (by simpa using d) e) q r t y f5;refine⟨_,rfl,?_⟩;have z:∃T p,Inv X n R p { s with heap:=g,toks:=O }/\yw T (.str ⟨#[c]⟩ u)/\(Wz x).rW i H T p/\j (i+1) g/\∀b∈[it],p b=none :=
   ⟨.str ⟨#[c]⟩,H,U,⟨u,rfl⟩,⟨rfl,c,G,rfl⟩,N,λb d=>(l b d).1⟩
  unfold LI;cases S<;>exact Zy z
 done:=by
  intro X C L B F i n s R H E I l st J;subst C L B;obtain⟨q,r,Y,t,y,f5⟩:=l it (by simp);exact(D X.A<|I.ok.hd F).done s _ _ (by have e:i=x.length:=J;subst e;exact st) λg O M=>⟨rfl,I.turned (λb o d e=>M b o (by simpa using d) e) q r t y f5⟩
 self:=f
section
variable {X:Cx}{tg:Ey}
def aQ (c:TE):TI:=λd H R=>c d H λx b=>∃z,x=.str z/\R (Wz z) b
theorem K2 (he:PE X e te):PI X tg e (aQ te):=by
 intro u s B H R I h;refine CF (he u s B H _ I h) λv c ⟨x,f,d,y,w⟩=>?_;obtain⟨z,e,q⟩:=w;subst e;obtain⟨t,rfl⟩:=y;have p:f c.heap.objs.size=none:=d.hok.fresh<|ZB _;cases r:z.cps.all (·<128)
 .refine wpAny_pyIter_wide r ?_;refine⟨c.heap.objs.size,[c.heap.objs.size],λi h=>h.IsStrIter c.heap.objs.size "str_iterator" z t i,_,f,rfl,d.kept (t':=c.toks) λb o e=>ZC _ e,Gv (λA g=>Walks.strWide g _ z t) (λi h ⟨o,n,_,hd⟩=>⟨o,n,λv z=>by rw[hd]at z;cases z⟩)<|λ_ _ _ _ _ st j=>wpAny_pyIter_striter_wide st j,⟨_,ZK _ rfl,rfl,rfl⟩,λb l=>?_,q⟩
  have e:b=c.heap.objs.size:=by simpa using l
  subst e;exact d.tu (ZB _) p
 .refine wpAny_pyIter_ascii r ?_;refine⟨c.heap.objs.size,[c.heap.objs.size],λi h=>h.IsStrIter c.heap.objs.size "str_ascii_iterator" z t i,_,f,rfl,d.kept (t':=c.toks) λb o e=>ZC _ e,Gv (λA g=>Walks.strAscii g _ z t) (λi h ⟨o,n,_,hd⟩=>⟨o,n,λv z=>by rw[hd]at z;cases z⟩)<|λ_ _ _ _ _ st j=>wpAny_pyIter_striter_ascii st j,⟨_,ZK _ rfl,rfl,rfl⟩,λb l=>?_,q⟩
  have e:b=c.heap.objs.size:=by simpa using l
  subst e;exact d.tu (ZB _) p
end
abbrev Of (J:It)(g:TG)(tb:TS)(D:Ends)(σ:St)(H:Hp):Prop :=
 ∃W:Nat->Nat->St->Hp->Prop,(∃m,W 0 m σ H)/\∀i m σ H,W i m σ H ->
  (J.stop i H/\D.nx σ H)\/(J.go i H/\∃N:St->Hp->Prop,(∀σ' H',N σ' H'->∃m',m'<m/\W (i+1) m' σ' H')/\∀x H',J.rW i H x H'->g x σ H' λσ2 H2=>tb { D with nx:=N,ct:=N,bk:=D.nx } σ2 H2)
theorem OD {J:It}{g:TG}{h:TS}{D:Ends}{σ:St}{H:Hp}(n:Nat)(b:Nat->St->Hp->Prop)(j:b 0 σ H)(f:∀σ H,b n σ H->J.stop n H)(d:∀i σ H,i<n->b i σ H->J.go i H)
  (hs:∀i σ H,i<n->b i σ H->∀x H',J.rW i H x H'->g x σ H' λσ2 H2=>h { D with nx:=b<|i+1,ct:=b<|i+1,bk:=D.nx } σ2 H2) (hd:∀σ H,b n σ H->D.nx σ H):Of J g h D σ H:=by
 refine⟨λi m σ H=>m=n-i/\i<=n/\b i σ H,⟨n,by simp,Yf _,j⟩,?_⟩;rintro i m σ H ⟨rfl,q,p⟩
 by_cases c:i<n
 .exact .inr ⟨d i σ H c p,b<|i+1,λo H' l=>⟨n-(i+1),by lia,rfl,c,l⟩,λx H' y=>hs i σ H c p x H' y⟩
 .have e:i=n:=by lia
  subst e;exact .inl ⟨f σ H p,hd σ H p⟩
theorem RN {x:Str}{g:TG}{f:TS}{D:Ends}{σ:St}{H:Hp}(b:Nat->St->Hp->Prop)(j:b 0 σ H)
  (hs:∀i c σ H,x.cps[i]?=some c->b i σ H->g (.str ⟨#[c]⟩) σ H λσ2 H2=>f { D with nx:=b<|i+1,ct:=b<|i+1,bk:=D.nx } σ2 H2) (hd:∀σ H,b x.length σ H->D.nx σ H):Of (Wz x) g f D σ H :=
 OD x.length b j (λ_ _ _=>rfl) (λ_ _ _ d _=>d) (λi σ H d p v n y=>by
  obtain⟨e,c,l,h⟩:=y;subst e h;exact hs i c σ _ l p) hd
namespace AxT
variable {prog:D3}{w:D6}{A:Em}{E:D2->Dh}{s:D7}
open HT
end AxT
section
variable {X:Cx}
def SU (K:CB):V->Option Int->Option Int->Hp->VK->Prop:=λx b d H Q=>∃a y c,x=.ref a/\b=some 1/\xj K H a (y::c)/\∀p,H p=none->Q (.ref p) (upd H p<|.tup<|GD (y::c) b d)
theorem oN:Wq X (SU X.K):=by
 intro w s D H x v B C z e A Q I u i p t h;obtain⟨a,y,c,rfl,rfl,l,q⟩:=h;cases u;obtain⟨f,r,g,n⟩:=I.tuple l;have d:f.toArray.size=(y::c).length:=by rw[ZV];exact r.length.symm
 refine⟨"tuple",_,VW.lookup,g.typeIs,?_⟩;refine HT.vh g i p t (λj=>?_) ?_ (by rwa[d])
 .have:=j.1;rw[d,show(1:Int)=((1:Nat):Int) from rfl,HT.sU,ZL]at this;lia
 .rw[d];refine⟨.ref s.heap.objs.size,_,I.laid (t':=s.toks) (o:=.tup<|GD (y::c) (some 1) e) (λb ob q=>ZC _ q) (ZB _) ?_,rfl,q _<|I.hok.fresh<|ZB _⟩;exact⟨Yn (X6 (y::c) (some 1) e) n,_,(r.drop<|HT.wI (y::c).length 0<|some 1).take<|HT.wI (y::c).length (y::c).length e-HT.wI (y::c).length 0 (some 1),TupAt.new _ _⟩
structure yo (P:D3)(w:D6)(K:CB)(mg:Str->Dc)(base:Ej)(k:Nat)(x:Str)(ps:Da)(sp:Sp):Prop where
 ex:∃(f:D1) (fd:D5),zj P w K mg base CG k f fd ps sp/\mg x=some (.ref f)/\EE K (.ref f)=true/\wN K fd ps []
theorem zG {e:Ey}{es:List Ey}{p pos:Pos}(C:yo X.prog X.w X.K X.mg X.base k x ps sp)(l:xf k X.A)(d:PA X (e::es) t)(h:Gl X x:=by rfl)
  (b:(x==("__debug__":Str))=false:=by decide) (he:Ei (e::es) X.env=(false,EV e X.env)::Ei es X.env:=by rfl) (c:(La pos<|Ei es X.env).any (·.1)=false:=by rfl) :
  PE X (.Call (.Name x p) (e::es) [] pos) (Nh sp [] E0 t):=by
 obtain⟨f,n,F,j,i,g⟩:=C.ex;exact Sd F l h j i g .nil GL d b he c
theorem yo.mk' {K:CB}{st:Er}(F:yc K x qual st f fd)(G:zj P w K mg base CG k f fd ps sp)(c:mg x=some (.ref f))
  (b:wN K fd ps []):yo P w K mg base k x ps sp:=⟨f,fd,G,c,F.kp,b⟩
def KD (P:D3)(w:D6)(K:CB)(a:D1)(Dm:Dl):Prop:=∀h:Ej,K.In h->∃vs,KV Dm vs/\h.DictOf (zq P w) a vs
def ao (P:D3)(w:D6)(K:CB)(f ty:TE):TE:=λc H Q=>f c H λx d=>ty c d λy e=>∃a b k v,x=.ref a/\y=kV k/\KD P w K a b/\UP b k=some v/\Q v e
theorem Se {pos:Pos}(t:PE X o td)(r:PE X i ty)(hs:RD i):PE X (.Subscript o i pos) (ao X.prog X.w X.K td ty):=by
 intro d s g H Q I h;refine FH PySem.F.slot_dict_getitem.lookup hs<|CF (t d s g H _ I h) λu E ⟨x,j,p,C,A⟩=>CF (r d E g j _ p A) λJ L hh=>?_;obtain⟨y,n,e,D,a,G,k,v,ex,q,kd,l,B⟩:=hh;subst ex q;obtain rfl:u=Ee a:=C;obtain⟨vs,b,f⟩:=kd _ e.vG;obtain⟨M,z,c⟩:=wj.some_of (v:=v) (o:=L3 vs k) (by rw[<-l];exact b.val k);exact⟨f.typeIs,wpAny_getItem_of (uH D) f.mapOf z ⟨v,n,e.tok _,c,B⟩⟩
end
section
variable {X:Cx}{a:Ey}{ta:TE}{K:CB}
def bB (K:CB)(ta:TE):TT:=λc H Q=>ta c H λx b=>∃k,Tc K x b k/\Q k b
theorem zS (c:PE X a ta)(he:∀whole,isTrue a X.env whole=(do let v <-whole;standAt a.pos;holding [v] (truthy v)):=by intro _;rfl)(b:X.K=K:=by rfl):PT X a (bB K ta):=by
 subst b;exact PX c he
end
end L2
namespace An
open PySem L2
abbrev cs (x:Str):List Nat:=x.cps.toList
theorem xq (h:cs x=cs y):x=y:=by
 obtain⟨a⟩:=x;obtain⟨b⟩:=y;have:a=b:=by simpa using h
 rw[this]
theorem zu (x y:Str):cs (x++y)=cs x++cs y:=by
 show(x.cps++y.cps).toList=_;simp
theorem zf (x:Str):x.length=(cs x).length:=by simp[Str.length]
theorem yt (x y:Str):(x++y).length=x.length+y.length:=by rw[zf,zf,zf,zu,ZE]
theorem kC:∀xs:Da,cs (Mi "" xs)=xs.flatMap cs
 |[]=>rfl
 |[x]=>by show cs x=_;simp
 |x::y::r=>by
  show cs (x++""++Mi "" (y::r))=_;have:cs ("":Str)=[]:=by decide+kernel
  rw[zu,zu,kC (y::r),this,ZW];simp
theorem kA:∀(a b:Da),EQ (a.map .str) (b.map .str)=decide (a=b)
 |[],[]=>rfl
 |[],_::_=>rfl
 |_::_,[]=>rfl
 |x::a,y::b=>by
  show((x==y)&&EQ (a.map .str) (b.map .str))=_;rw[kA a b,YL];simp
structure Ok (n:Nat)(x:Str):Prop where
 len:x.length<=n
 ok:D9 x=true
theorem yJ (x:Str):D9 x=true↔∀c∈cs x,c<1114112:=by
 unfold D9;rw[<-Array.all_toList,Z9];simp
theorem kY:∀ls:Da,(∀p∈ls,D9 p=true)->Ec (ls.map .str)=true/\Eo (ls.map .str)=0
 |[],_=>⟨rfl,rfl⟩
 |x::ls,h=>by
  obtain⟨b,c⟩:=kY ls λp d=>h p<|Zw _ d;refine⟨?_,?_⟩
  .show(D9 x&&Ec (ls.map .str))=true;rw[h x Zx,b];rfl
  .show max 0 (Eo<|ls.map .str)=0;rw[c];rfl
theorem jL {ls:Da}(h:∀p∈ls,D9 p=true):EL (.list<|ls.map .str)=true/\EL (.tuple<|ls.map .str)=true:=by
 obtain⟨b,c⟩:=kY ls h;refine⟨?_,?_⟩
 .show(Ec (ls.map .str)&&decide (Eo (ls.map .str)+1<=64))=true;rw[b,c];rfl
 .show(Ec (ls.map .str)&&decide (Eo (ls.map .str)+1<=64))=true;rw[b,c];rfl
theorem zI {H:Hp}{l:D1}(h:H l=none):zy H (upd H l o):=λb u e=>by rwa[zH<|zK e h]
theorem zy.sy {l:D1}(e:zy H H2)(n:H l=none):zy H (upd H2 l o):=λb u q=>by rw[zH<|zK q n];exact e b u q
theorem zx {n:Nat}(h:n<=16777216):n<=sizeLine:=by rwa[YU]
theorem yV {n:Nat}(h:n<16777216):n<sizeLine:=by rwa[YU]
theorem FP {α:Type}(x:α)(r:List α):Ko (x::r) 0=some x:=yE (j:=0) rfl
theorem UT (n:Nat)(h:n<=16777216:=by decide):n<=sizeLine:=zx h
theorem KK {c A B:Prop} [Decidable c](hc:¬c)(h:B):if decide c=true then A else B:=by
 rw[ZP hc];exact UQ h
theorem Mn {n:Nat}:∀(ys:Da),(∀y∈ys,y.length<=n)->(ys.map (·.length)).sum<=ys.length*n
 |[],_=>by simp
 |y::ys,h=>by
  have c:=Mn ys λz b=>h z<|Zw _ b;have d:=h y Zx;rw[ZT,JS,ZL,Nat.succ_mul];lia
theorem Pc {α:Type}{p:α->Prop}{l:List α}{x:α}(h:∀y∈l,p y)(c:p x):∀y∈l++[x],p y:=λy b=>by
 rcases ZZ.mp b with z|z
 .exact h y z
 .rwa[Zv.mp z]
theorem Te {α:Type}{f:α->V}{xs:List α}{i:Int}(c:0<=i)(d:i<xs.length):∃x,xs[i.toNat]?=some x/\Ko (xs.map f) i=some (f x):=by
 obtain⟨j,rfl⟩:=YY c;have b:j<xs.length:=by lia
 refine⟨xs[j],by simp[b],yE ?_⟩;rw[ZF,ZD b];rfl
theorem Ti {i:Int}(b:0<=i):GD xs none (some i)=xs.take i.toNat:=by
 obtain⟨j,rfl⟩:=YY b;unfold GD;rw[HT.sG,HT.sU,List.drop_zero];show xs.take (min j xs.length-0)=xs.take j
 by_cases h:j<=xs.length
 .rw[Nat.min_eq_left h];rfl
 .rw[Nat.min_eq_right<|by lia,Nat.sub_zero,Ya,JA<|by lia]
theorem Ot {i:Int}(b:0<=i):GD xs (some i) none=xs.drop i.toNat:=by
 obtain⟨j,rfl⟩:=YY b;unfold GD;rw[HT.sG,HT.sU];show(xs.drop<|min j xs.length).take (xs.length-min j xs.length)=xs.drop j
 by_cases h:j<=xs.length
 .rw[Nat.min_eq_left h];exact JA (by rw[Jp];lia)
 .rw[Nat.min_eq_right<|by lia,List.drop_eq_nil_of_le<|ZB _,List.drop_eq_nil_of_le<|by lia];simp
def qm (H H':Hp):Prop:=∀b o,H b=some o->(∀c,o≠.lst c)->H' b=some o
theorem qm.upd {H:Hp}{l:D1}{xs d:Dj}(h:H l=some (.lst xs)):qm H (L2.upd H l<|.lst d):=λb o e n=>by
 have c:b≠l:=λz=>by rw[z,h]at e;cases e;exact n xs rfl
 rwa[zH c]
theorem X4 {A B:Prop}(h:B):if(!true)=true then A else B:=by
 show if false=true then A else B;exact UQ h
def one (c:Nat):Str:=⟨#[c]⟩
theorem FY:∀l:List Nat,cs (Lc ""<|l.map one)=l:=by
 intro l;have b:Lc "" (l.map one)=Mi "" (l.map one):=E2 _ _;rw[b,kC,List.flatMap_map]
 induction l with
 |nil=>rfl
 |cons c l ih =>
  rw[Jx];show[c]++_=_;rw[ih<|E2 _ _];rfl
theorem Kg:∀l:List Nat,((l.map one).map (·.length)).sum=l.length
 |[]=>rfl
 |c::l=>by
  rw[ZT,ZT,JS,Kg l,ZL];show 1+l.length=_;lia
end An
namespace L2
open PySem PySem.Spec PyProof.Rows
section
variable {X:Cx}{K:CB}
def be:R2:=λx y H Q=>∃i j:Str,x=.str i/\y=.str j/\Q (.bl<|!decide (j.cps.toList<i.cps.toList)) H
theorem BW:CS X (EC .LtE) be:=by
 intro d s f H x y v u Q I b c h;obtain⟨i,j,rfl,rfl,q⟩:=h;obtain⟨t,rfl⟩:=b;obtain⟨e,rfl⟩:=c;exact P.le_str ⟨.bl _,H,I,rfl,q⟩
theorem FL:∀{bs:List Bool} {us:Db},yx (bs.map V.bl) us->us=bs.map LN
 |[],us,h=>by cases h;rfl
 |b::bs,us,h=>by
  cases h with
  |cons r1 r2=>rw[FL r2];cases r1;rfl
def aX (K:CB):Dj->Hp->VK->Prop:=λb H Q=>∃(a:D1) (bs:List Bool),b=[.ref a]/\yj K H a (bs.map V.bl)/\Q (.bl<|bs.all id) H
theorem jC (p:X.calm=true)(n:X.K=K:=by rfl):xg X (.builtin "all") (aX K):=by
 subst n;intro z s M H L J Q I r h;obtain⟨a,bs,rfl,o,q⟩:=h;obtain⟨u,rfl,x⟩:=wU r;cases x;obtain⟨c,y,w,E⟩:=I.list o;have g:=FL y;have hl:=w.isList;have f:a<s.heap.objs.size:=by obtain⟨_,e,_⟩:=hl;exact ZR e
 refine call_all_walk<|J9 hl ?_;refine⟨s.heap.objs.size,[s.heap.objs.size,a],[s.heap.objs.size],c.toArray.size,_,_,λi=>(bs[i]?).getD true,rfl,Walks.list (A:=X.A.in1) (I.ok.hd p) _ a (ZX f) c.toArray,⟨⟨_,ZK _ rfl,rfl,rfl⟩,hl.push _⟩,λi v F C B d j=>?_,λD G t=>?_⟩
 .have d:c[i]?=some v:=by simpa using d
  rw[g,ZF]at d;cases e:bs[i]? with
  |none=>rw[e]at d;cases d
  |some b =>
   rw[e]at d;have d:LN b=v:=Option.some.inj d;subst d;simp only[e,V6]at j;exact Ju j
 .have l:c.length=bs.length:=by rw[g,Zu]
  have e:((Ef c.toArray.size).all λi=>(bs[i]?).getD true)=bs.all id:=by
   rw[ZV,l];exact PyProof.Rows.LSm.range_all bs
  rw[e];exact⟨.bl _,H,I.kept<|PyProof.Rows.LSm.kept_iter t,rfl,q⟩
end
mutual
def Dw (K:CB)(H:Hp):Ea->V->Prop
 | .none,v=>v=.non
 | .bool b,v=>v=.bl b
 | .int i,v=>v=.int i
 | .str x,v=>v=.str x
 | .list ds,v=>∃a c,v=.ref a/\yj K H a c/\wW K H ds c
 | .tuple ds,v=>∃a c,v=.ref a/\xj K H a c/\wW K H ds c
 | .dict _,v=>∃a d,v=.ref a/\H a=some (.dK d)
def wW (K:CB)(H:Hp):Df->Dj->Prop
 |[],xs=>xs=[]
 |d::ds,xs=>∃x r,xs=x::r/\Dw K H d x/\wW K H ds r
end
mutual
theorem Dw.same {K:CB}(e:zy H H'):∀(d:Ea) (v:V),Dw K H d v->Dw K H' d v
 | .none,_,h=>h
 | .bool _,_,h=>h
 | .int _,_,h=>h
 | .str _,_,h=>h
 | .list ds,_,⟨a,xs,h1,h2,h3⟩=>⟨a,xs,h1,e.seq h2,wW.same e ds xs h3⟩
 | .tuple ds,_,⟨a,xs,h1,h2,h3⟩=>⟨a,xs,h1,e.yh h2,wW.same e ds xs h3⟩
 | .dict _,_,⟨a,Dm,h1,h2⟩=>⟨a,Dm,h1,e _ _ h2⟩
theorem wW.same {K:CB}(e:zy H H'):∀(ds:Df) (xs:Dj),wW K H ds xs->wW K H' ds xs
 |[],_,h=>h
 |d::ds,_,⟨x,r,h1,h2,h3⟩=>⟨x,r,h1,Dw.same e d x h2,wW.same e ds r h3⟩
end
mutual
theorem Dt.dw {K:CB}:∀{d:Ea} {v:V},Dt K H d v->Dw K H d v
 | .none,_,h=>h
 | .bool _,_,h=>h
 | .int _,_,h=>h
 | .str _,_,h=>h
 | .list ds,_,⟨a,xs,h1,h2,h3⟩=>⟨a,xs,h1,h2,zc.dw h3⟩
 | .tuple ds,_,⟨a,xs,h1,h2,h3⟩=>⟨a,xs,h1,h2,zc.dw h3⟩
 | .dict _,_,h=>h.elim
theorem zc.dw {K:CB}:∀{ds:Df} {xs:Dj},zc K H ds xs->wW K H ds xs
 |[],_,h=>h
 |d::ds,_,⟨x,r,h1,h2,h3⟩=>⟨x,r,h1,Dt.dw h2,zc.dw h3⟩
end
theorem wW.length {K:CB}:∀{ds:Df} {xs:Dj},wW K H ds xs->xs.length=ds.length
 |[],_,h=>by rw[show _=[] from h];rfl
 |d::ds,_,⟨x,r,h1,h2,h3⟩=>by rw[h1,ZL,ZL,wW.length h3]
theorem wW.get {K:CB}:∀{ds:Df} {xs:Dj} {i:Nat} {x:V},wW K H ds xs->xs[i]?=some x->∃d,ds[i]?=some d/\Dw K H d x
 |[],_,i,x,h,e=>by rw[show _=[] from h]at e;cases e
 |d::ds,_,0,x,⟨x',r,h1,h2,h3⟩,e=>by
  rw[h1]at e;cases e;exact⟨d,rfl,h2⟩
 |d::ds,_,i+1,x,⟨x',r,h1,h2,h3⟩,e=>by
  rw[h1]at e;obtain⟨b,c,f⟩:=wW.get (i:=i) h3 (by simpa using e);exact⟨b,by simpa using c,f⟩
theorem wW.at {K:CB}{i:Nat}{d:Ea}(h:wW K H ds xs)(e:ds[i]?=some d):∃x,xs[i]?=some x/\Dw K H d x:=by
 have c:i<xs.length:=by rw[h.length];exact(ZO.mp e).1
 obtain⟨f,b,q⟩:=h.get<|ZD c;rw[e]at b;cases b;exact⟨_,ZD c,q⟩
def Xq:Ea->String
 | .none=>"NoneType"
 | .bool _=>"bool"
 | .int _=>"int"
 | .str _=>"str"
 | .list _=>"list"
 | .tuple _=>"tuple"
 | .dict _=>"dict"
section
variable {X:Cx}{Dq:De}{σ:St}{H:Hp}{s:D7}{A:Em}{E:D2->Dh}{Q:D2->Dh}{c:D2}{b:Bool}{K:CB}
theorem NO (I:Inv X Dq σ H s)(f:yw x u)(hd:Dw X.K H d x)(e:Ln X.K (.type<|Xq d) c=some b)(h:∀tk,Q (.bool b) { s with toks:=tk }) :
  D4 (Eb X.prog X.w) A (call (.builtin "isinstance") [u,c]) Q E s:=by
 cases d with
 |none=>cases(show x=_ from hd);exact qN I f .non e h
 |bool y=>cases(show x=_ from hd);exact qN I f (.bl y) e h
 |int i=>cases(show x=_ from hd);exact qN I f (.int i) e h
 |str y=>cases(show x=_ from hd);exact qN I f (.str y) e h
 |dict Dm=>obtain⟨a,v,rfl,r⟩:=hd;exact qN I f (.dK r) e h
 |list ds =>
  obtain⟨a,t,rfl,l,_⟩:=hd;cases(show u=Ee a from f);obtain⟨q,_,⟨o,n,g,j,_⟩,_⟩:=I.list l;exact YC Ut I.vG ⟨o,g,j⟩ e (λz=>nomatch z) h
 |tuple ds =>
  obtain⟨a,t,rfl,l,_⟩:=hd;cases(show u=Ee a from f);obtain⟨q,_,p,_⟩:=I.tuple l;obtain⟨o,g,j,_⟩:=p;exact YC PySem.W.kitx_tuple I.vG ⟨o,g,j⟩ e (λz=>nomatch z) h
def W0 (K:CB):Dj->Hp->VK->Prop:=λc H Q=>∃y T d b,c=[y,.ty T]/\Dw K H d y/\Ln K (.type<|Xq d) (.type T)=some b/\Q (.bl b) H
theorem zZ (e:X.K=K:=by rfl):xg X (.builtin "isinstance") (W0 K):=by
 subst e;intro Dq s σ H n l Q I r h;obtain⟨y,T,d,b,rfl,hd,f,q⟩:=h;obtain⟨u,i,rfl,g,c⟩:=vals2 r;cases(show i=EG T from c);exact NO I g hd f λj=>⟨.bl b,H,I.tok _,rfl,q⟩
end
section
variable {src:List (Option Nat)}{g:TG}{te:TE}{Q:VK}{σ:St}{H:Hp}
theorem Bx {x:Str}(b:Nat->Dj->St->Hp->Prop)(f:b 0 [] (U5 src σ) H)(hz:x.length<=sizeLine)(hl:∀i ys σ H,i<=x.length->b i ys σ H->ys.length<=i)
  (hs:∀i c ys σ H,x.cps[i]?=some c->b i ys σ H->g (.str ⟨#[c]⟩) σ H λσ2 H3=>te σ2 H3 λy H5=>b (i+1) (ys++[y]) σ2 H5)
  (hd:∀ys σ H,b x.length ys σ H->∀p,H p=none->Q (.ref p) (upd H p<|.lst ys)):Xk src (Wz x) g Bu te Q σ H :=
 GH x.length b f hz hl (λ_ _ _ _=>rfl) (λ_ _ _ _ d _=>d)
  (λi ys σ H d p l j y=>by
   obtain⟨e,c,h,rfl⟩:=y;subst e;rw[Fu];exact hs i c ys σ _ h p) hd
end
end L2
namespace L2
open PySem PyProof.Rows
mutual
def Wp:Ea->Ea->Bool->Prop
 | .int a,.int b,r=>r=decide (a<b)
 | .str a,.str b,r=>r=decide (a.cps.toList<b.cps.toList)
 | .tuple xs,.tuple ys,r=>SI xs ys r
 |_,_,_=>False
def SI:Df->Df->Bool->Prop
 |[],ys,r=>r=decide (0<ys.length)
 |_::_,[],r=>r=false
 |x::xs,y::ys,r=>(EB x y=true/\SI xs ys r)\/(EB x y=false/\Wp x y r)
end
section
variable {prog:D3}{w:D6}
def Mw (prog:D3)(w:D6)(A:Em)(r:Bool)(b:Bool)(s:D7):List (D2×D2)->Prop
 |[]=>b=r
 |p::l=>(∀(Q:Bool->Dh) (E:D2->Dh),Q true s->D4 (Eb prog w) A (eqBool p.1 p.2) Q E s)/\Mw prog w A r b s l \/
  (∀(Q:Bool->Dh) (E:D2->Dh),Q false s->D4 (Eb prog w) A (eqBool p.1 p.2) Q E s) /\
  (∀(Q:D2->Dh) (E:D2->Dh),Q (.bool r) s->D4 (Eb prog w) A (richCompare .Lt p.1 p.2) Q E s)
theorem GX {A:Em}{E:D2->Dh}{s:D7}{a b:D1}{t ob:Obj}{xs e:Array D2}{y nb:Nat}{r:Bool}{P:Fin->Dh}
  (q:s.heap.get? a=some t) (o:t.data=.seq xs y) (g:s.heap.get? b=some ob) (n:ob.cls=.type "tuple") (p:ob.data=.seq e nb)
  (x:Mw prog w A r (decide (xs.size<e.size)) s (xs.toList.zip e.toList)) (h:P (.done<|.ret<|.bool r) s) :
  D4 (Eb prog w) A (Builtin.«tuple.__lt__» ⟨[.ref a,.ref b],[]⟩) P E s:=by
 have j:s.TypeIs (.ref b) "tuple":=⟨ob,g,n⟩;show D4 _ _ (isInstance (.ref b) (.type "tuple")>>=_) _ _ s;refine Zt<|Je j isSubtype_tuple_tuple ?_;simp only[Vu,YA,Vt];refine Zt<|Uo q o<|Zt<|Uo g p<|Zt ?_;refine Vn _ (λd c i=>c.1=none/\i=s/\Mw prog w A r (decide (xs.size<e.size)) s d) _ ?_ ?_ _ _ ⟨rfl,rfl,x⟩
 .rintro⟨u,v⟩ d c i ⟨l,rfl,f⟩
  rcases f with⟨h1,h2⟩|⟨h1,h2⟩
  .refine Zt (h1 _ _ ?_);simp only[Vu,YA,Vt];exact Zy ⟨rfl,rfl,h2⟩
  .refine Zt (h1 _ _ ?_);simp only[Bool.not_false,UO];refine Zt<|Vg<|Zt<|h2 _ _<|Zt<|Zy<|Zy ?_;exact Zy h
 .rintro⟨z,B⟩ i ⟨l,rfl,f⟩;simp only at l;subst l;refine Zy ?_;have f:decide (xs.size<e.size)=r:=f;show P (.done<|.ret<|.bool<|decide (xs.size<e.size)) i;rwa[f]
def Og (prog:D3)(w:D6)(d:Ea):Prop:=∀(e:Ea) (r:Bool) (A:Em) (s:D7) (a b:D2) (c bs:Dd),Reads s.heap a d c->Reads s.heap b e bs->d.canLay0=true->e.canLay0=true->A.units+min d.depth e.depth<EO->Wp d e r ->
  ∀(Q:D2->Dh) (E:D2->Dh),Q (.bool r) s->D4 (Eb prog w) A (richCompare .Lt a b) Q E s
def FN (prog:D3)(w:D6)(xs:Df):Prop:=∀(b:Df) (r:Bool) (A:Em) (s:D7) (vs c:Db) (d bs:Dd),Lu s.heap vs xs d->Lu s.heap c b bs->Ec xs=true->Ec b=true->A.units+min (Eo xs) (Eo b)<EO->SI xs b r ->
  ∀k:Nat,Mw prog w A r (decide (k+vs.length<k+c.length)) s (vs.zip c)
theorem NU (i:Int):Og prog w (.int i):=by
 intro e r A s a b f bs c d _ _ _ h Q E q;cases e with
 |int j =>
  cases c;cases d;cases(show r=_ from h);exact(lt_int q:D4 _ _ (EC .Lt _ _) _ _ _)
 |_=>exact Ew h
theorem NV (i:Str):Og prog w (.str i):=by
 intro e r A s a b f bs c d _ _ _ h Q E q;cases e with
 |str j =>
  cases c;cases d;cases(show r=_ from h);exact(lt_str q:D4 _ _ (EC .Lt _ _) _ _ _)
 |_=>exact Ew h
theorem NW (i:FN prog w xs):Og prog w (.tuple xs):=by
 intro e r A s a b n bs j l f g d h Q E q;cases e with
 |tuple ys =>
  cases j with
  |tuple h1 h2 h3 h4 =>
   cases l with
   |tuple k1 k2 k3 k4 =>
    have c:=i ys r A.in1 s _ _ _ _ h4 k4 f g (SeqAt.room_in d) h 0;rw[VO,VO,ZU,ZU]at c;exact wpAny_richCompare_same_room (op:=.Lt) ⟨_,h1,h2⟩ ⟨_,k1,k2⟩ F.slot_tuple_lt
     (YH F.slot_tuple_lt ⟨_,h1,h2⟩ F.entry_tuple_lt (GX h1 h3 k1 k2 k3 (r:=r) c ⟨_,rfl,(λe=>nomatch e),q⟩)<|F.args_tuple_lt_2 _ _) (SeqAt.room_here d)
 |_=>exact Ew h
theorem R5:FN prog w []:=by
 intro f r A s vs b g bs c d _ _ _ h k;cases c;have e:b.length=f.length:=SeqAt.ReadsAll.length _ _ _ d;rw[List.zip_nil_left];show decide (k+0<k+b.length)=r;rw[show r=_ from h,e];exact J1.mpr (by lia)
theorem O7 (o:Og prog w x)(p:FN prog w xs):FN prog w (x::xs):=by
 intro f r A s vs i B bs l n t z j h k;cases f with
 |nil =>
  cases n;cases l;rw[List.zip_nil_right];show decide (k+_<k+0)=r;rw[show r=_ from h];exact ZP (by lia)
 |cons y f =>
  have b:x.canLay0=true/\Ec xs=true:=by simpa[Ec] using t
  have c:y.canLay0=true/\Ec f=true:=by simpa[Ec] using z
  have d:A.units+min x.depth y.depth<cLine:=SeqAt.room_head j;have g:A.units+min (Eo xs) (Eo f)<cLine:=SeqAt.room_tail j;cases l with
  | @cons v vs _ _ _ _ p1 p2 =>
   cases n with
   | @cons u i _ _ _ _ q1 q2 =>
    rw[List.zip_cons_cons];have h:(EB x y=true/\SI xs f r)\/(EB x y=false/\Wp x y r):=h
    rcases h with⟨e,h⟩|⟨e,h⟩
    .refine .inl ⟨λQ E q=>Lx prog w A E s _ _ _ _ _ _ Q p1 q1 b.1 c.1 d<|by rwa[e],?_⟩;have C:=p f r A s _ _ _ _ p2 q2 b.2 c.2 g h<|k+1;rwa[ZL,ZL,show k+(vs.length+1)=k+1+vs.length by lia,show k+(i.length+1)=k+1+i.length by lia]
    .exact .inr ⟨λQ E q=>Lx prog w A E s _ _ _ _ _ _ Q p1 q1 b.1 c.1 d<|by rwa[e],λQ E q=>o y r A s _ _ _ _ p1 q1 b.1 c.1 d h Q E q⟩
mutual
theorem O3:∀d:Ea,Og prog w d
 | .int i=>NU i
 | .str i=>NV i
 | .tuple xs=>NW<|O4 xs
 | .none=>λe r A s a b c bs f g _ _ _ h=>Ew h
 | .bool _=>λe r A s a b c bs f g _ _ _ h=>Ew h
 | .list _=>λe r A s a b c bs f g _ _ _ h=>Ew h
 | .dict _=>λe r A s a b c bs f g _ _ _ h=>Ew h
theorem O4:∀xs:Df,FN prog w xs
 |[]=>R5
 |x::xs=>O7 (O3 x)<|O4 xs
end
end
end L2
namespace L2
open PySem PySem.Spec PyProof.Rows
section
variable {X:Cx}{K:CB}
theorem N1 {p pos:Pos}(C:yo X.prog X.w X.K X.mg X.base k x ps sp)(h:xf k X.A)(d:Gl X x:=by rfl)(b:(x==("__debug__":Str))=false:=by decide):PE X (.Call (.Name x p) [] [] pos) (Nh sp [] E0 Xi):=by
 obtain⟨f,i,F,g,e,c⟩:=C.ex;exact Pz F h d g e c .nil GL b
end
section
variable {X:Cx}
def Wd (i:Nat)(f:D1)(sp:Sp)(t:TA):TE:=λb H Q=>b[i]?=some (some<|.ref f)/\t b H λvs c=>sp vs c Q E0
theorem PB {x:Str}{e:Ey}{es:List Ey}{p pos:Pos}{f:D1}(C:yo X.prog X.w X.K X.mg X.base k y ps sp)(o:X.mg y=some (.ref f))(R:xf k X.A)(hv:PE X (.Name x p)<|Rp i)(M:PA X (e::es) t)
  (he:Ei (e::es) X.env=(false,EV e X.env)::Ei es X.env:=by rfl) (b:(La pos<|Ei es X.env).any (·.1)=false:=by rfl) :
  PE X (.Call (.Name x p) (e::es) [] pos) (Wd i f sp t):=by
 obtain⟨g,T,F,P,O,N⟩:=C.ex;have G:g=f:=by
  rw[P]at o;injection o with z;injection z
 subst G;intro d s B H Q I ⟨c,h⟩;refine Jd<|CF (hv d s B H (λv j=>v=.ref g/\j=H) I ⟨_,c,rfl,rfl⟩) λu s0 hh=>?_;obtain⟨Z,D,l,S,L,J⟩:=hh;subst L J;cases S;refine VB (h₀:=X.base) l.ok.mod.mW O (CF (M pos d s0 B D _ l h) λY U ⟨vs,j,n,r,q⟩=>⟨n.vG,?_⟩) he b;exact Gz (E:=E0) F R N .nil GL n r (by rwa[ZW])
end
section
variable {X:Cx}{K:CB}
theorem Sj {pos:Pos}{k:Nat}{n:Nat}(d:X.calm=true)(h:mU X es t)(c:X.K=K:=by rfl)
  (e:(LP es X.env).length=n:=by rfl) (b:(LP es X.env).findIdx? (·.1)=none:=by rfl):PG X (.Tuple es k pos) (mY K n t):=by
 subst c;exact kP d h e b
end
end L2
namespace AxT
open PySem PySem.Spec PyProof.Rows PySem.SeqAt
open AutoSeq1 (wpAny_loadPart')
end AxT
namespace AxR
open PySem PySem.Spec PyProof.Rows
open AutoSeq1 (wpAny_loadPart')
end AxR
namespace L2
open PySem PySem.Spec PyProof.Rows
section
variable {X:Cx}{K:CB}{a b c d:Ey}{ta tb tc td:TE}{pos:Pos}
def W2:R2:=λx y H Q=>∃(i:Str) (n:Int),x=.str i/\y=.int n/\MulOk i n/\Q (.str<|Txt.mul i n) H
theorem Sa:CS X (Mc .Mult) W2:=by
 intro e s f H x y v u Q I b c h;obtain⟨i,n,rfl,rfl,ok,q⟩:=h;obtain⟨t,rfl⟩:=b;obtain⟨d,rfl⟩:=c;exact SB.mul ok λd k=>⟨.str _,H,I.tok _,⟨_,rfl⟩,q⟩
def ba (K:CB)(tup c:Bool):R2:=λx y H Q=>∃(d:Ea) (b:Df),Dt K H d x/\Dt K H (if tup then .tuple b else .list b) y/\Ec b=true/\d.canLay0=true/\d.depth<=60/\Q (.bl<|c !=b.any λy=>EB y d) H
end
theorem GW (l b:D1)(Do:Array D2)(n:Nat)(d:Array D2)(c:¬(!Do.isEmpty&&Lj (Do.size+d.size))=true)(f:Do.size<=sizeLine)(j:Do.size+d.size<=sizeLine+1) :
  Meets (Builtin.«list.extend» ⟨[.ref l,.ref b],[]⟩) (λ_ R s=>s.heap.get? l=some { cls:=.type "list",data:=.seq Do n }/\IsTup s.heap b d/\R (.ok<|.ret .none) { s with heap:=s.heap.update l (EU λx=>x++d) }) :=
 .of_wp λprog w A R s h=>by
  obtain⟨hl,e,h⟩:=h;have g:s.TypeIs (.ref b) "tuple":=e.typeIs;unfold Builtin.«list.extend» E8;refine Zt<|J5 (a:=(.ref l,.ref b)) rfl ?_;dsimp only;refine Zt<|Vm g ?_;rw[ZS<|by rw[show(EG "tuple"==EG "tuple")=true by decide+kernel,Bool.or_true]];obtain⟨o,i,p,m,hd⟩:=e;refine Zt<|wpAny_listItems i hd ?_;refine Zt<|wpAny_listItems hl rfl ?_;rw[ZM c];refine Zt (UA hl rfl ?_ f<|by rwa[Array.size_append]);exact Zy ⟨_,rfl,h⟩
section
variable {X:Cx}
def P5 (K:CB):V->Dj->Hp->VK->Prop:=λx vs H Q=>∃l b c d,x=.ref l/\vs=[.ref b]/\H l=some (.lst c)/\xj K H b d/\c.length+d.length<=sizeLine/\Q .non (upd H l<|.lst<|c++d)
theorem KU:aI X "list.extend" (P5 X.K):=by
 intro C s L H x vs v E Q I B A h;obtain⟨l,b,G,J,rfl,rfl,i,o,D,q⟩:=h;cases B;obtain⟨u,rfl,y⟩:=A.one;cases y;obtain⟨z,d,n,r,hl,e⟩:=I.qd i;obtain⟨c,j,w,t⟩:=I.tuple o;have p:=j.length;have g:d.toArray.size+c.toArray.size<=sizeLine:=by rw[ZV,ZV];lia
 have f:¬(!d.toArray.isEmpty&&Lj (d.toArray.size+c.toArray.size))=true:=by
  rw[Pk g,Js];exact Yc
 refine Vf F.slot_list_extend ⟨_,e,rfl⟩ F.entry_list_extend (F.args_list_extend_2 _ _)
  (GW l b d.toArray n c.toArray f (by rw[ZV];lia)<|by lia) ⟨e,w,?_⟩
 refine⟨.non,_,I.oh (DP:=d++c) i e (by simp) (r.append j) ?_,rfl,q⟩;rw[ZE];lia
end
instance:DecidableEq PyData:=λa b=>decidable_of_iff _<|same_iff (a:=a) (b:=b)
mutual
def Xb:Ea->Bool
 | .str x=>D9 x
 | .tuple ds=>yS ds
 | .none=>true
 |_=>false
def yS:Df->Bool
 |[]=>true
 |d::ds=>Xb d&&yS ds
end
mutual
def IC:Ea->Nat
 | .tuple ds=>xL ds+1
 |_=>0
def xL:Df->Nat
 |[]=>0
 |d::ds=>max (IC d)<|xL ds
end
mutual
def tW (h:Ej):Ea->D2->Prop
 | .str x,v=>∃t,v=.str x t
 | .tuple ds,v=>∃a o vs n,v=.ref a/\h.get? a=some o/\o.cls=.type "tuple"/\o.data=.seq vs n/\wR h ds vs.toList
 | .none,v=>v=.none
 |_,_=>False
def wR (h:Ej):Df->Db->Prop
 |[],vs=>vs=[]
 |d::ds,vs=>∃v r,vs=v::r/\tW h d v/\wR h ds r
end
mutual
def Xh (w:D6):Ea->Int
 | .str x=>hashStr w x
 | .tuple ds=>reduceHash<|EF<|uA w ds
 | .none=>reduceHash 0xFCA86420
 |_=>0
def uA (w:D6):Df->List Int
 |[]=>[]
 |d::ds=>Xh w d::uA w ds
end
mutual
def Bm:Ea->Nat
 | .tuple ds=>yU ds+1
 |_=>1
def yU:Df->Nat
 |[]=>0
 |d::ds=>Bm d+yU ds
end
theorem IJ (w:D6):∀ds,uA w ds=ds.map (Xh w)
 |[]=>rfl
 |d::ds=>by rw[uA,IJ w ds];rfl
theorem Id:∀(a b:Df),yU (a++b)=yU a+yU b
 |[],b=>by simp[yU]
 |d::a,b=>by
  show Bm d+yU (a++b)=(Bm d+yU a)+yU b;rw[Id a b];lia
mutual
theorem tW.zp:∀(d:Ea) (v:D2),tW h d v->∃as,Reads h v d as
 | .str x,_,⟨t,e⟩=>by subst e;exact⟨_,.str x t⟩
 | .tuple ds,_,⟨a,o,vs,n,e,h1,h2,h3,h4⟩=>by
  subst e;obtain⟨as,q⟩:=wR.zp ds vs.toList h4;exact⟨_,.tuple h1 h2 h3 q⟩
 | .none,_,e=>by cases(show _=Ev from e);exact⟨_,.none⟩
 | .bool _,_,q=>q.elim
 | .int _,_,q=>q.elim
 | .list _,_,q=>q.elim
 | .dict _,_,q=>q.elim
theorem wR.zp:∀(ds:Df) (vs:Db),wR h ds vs->∃as,Lu h vs ds as
 |[],vs,e=>by cases(show vs=[] from e);exact⟨_,.nil⟩
 |d::ds,_,⟨v,r,e,h1,h2⟩=>by
  subst e;obtain⟨as,q⟩:=tW.zp d v h1;obtain⟨bs,b⟩:=wR.zp ds r h2;exact⟨_,.cons q b⟩
end
mutual
theorem tW.inj:∀(d e:Ea) (v:D2),tW h d v->tW h e v->d=e
 | .str x,e,v,⟨t,h1⟩,h2=>by
  subst h1;cases e with
  |str y=>obtain⟨f,q⟩:=h2;cases q;rfl
  |tuple ds=>obtain⟨a,o,vs,n,q,_⟩:=h2;cases q
  |none=>cases(show _=Ev from h2)
  |bool _=>exact h2.elim
  |int _=>exact h2.elim
  |list _=>exact h2.elim
  |dict _=>exact h2.elim
 | .tuple ds,e,v,⟨a,o,vs,n,h1,h3,h4,h5,h6⟩,h2=>by
  subst h1;cases e with
  |str y=>obtain⟨f,q⟩:=h2;cases q
  |tuple es =>
   obtain⟨j,p,i,l,q,b,r,c,g⟩:=h2;cases q;rw[h3]at b;cases b;rw[h5]at c;cases c;rw[wR.inj ds es vs.toList h6 g]
  |none=>cases(show _=Ev from h2)
  |bool _=>exact h2.elim
  |int _=>exact h2.elim
  |list _=>exact h2.elim
  |dict _=>exact h2.elim
 | .none,e,v,h1,h2=>by
  cases(show v=Ev from h1);cases e with
  |str y=>obtain⟨f,q⟩:=h2;cases q
  |tuple es=>obtain⟨a,o,vs,n,q,_⟩:=h2;cases q
  |none=>rfl
  |bool _=>exact h2.elim
  |int _=>exact h2.elim
  |list _=>exact h2.elim
  |dict _=>exact h2.elim
 | .bool _,_,_,q,_=>q.elim
 | .int _,_,_,q,_=>q.elim
 | .list _,_,_,q,_=>q.elim
 | .dict _,_,_,q,_=>q.elim
theorem wR.inj:∀(ds es:Df) (vs:Db),wR h ds vs->wR h es vs->ds=es
 |[],[],_,_,_=>rfl
 |[],e::es,vs,h1,⟨v,r,q,_⟩=>by rw[show vs=[] from h1]at q;cases q
 |d::ds,[],vs,⟨v,r,q,_⟩,h2=>by rw[show vs=[] from h2]at q;cases q
 |d::ds,e::es,_,⟨v,r,h1,h3,h4⟩,⟨v',r',q1,q3,q4⟩=>by
  subst h1;injection q1 with b c;subst b c;rw[tW.inj d e v h3 q3,wR.inj ds es r h4 q4]
end
mutual
theorem tW.keeps {h h':Ej}{b:D1}{f:Obj}{es:Array LV}{ep:Nat}(c:h.get? b=some f)(hd:f.data=.dict es ep)(hs:Ez b h h'):∀(d:Ea) (v:D2),tW h d v->tW h' d v
 | .str x,_,q=>q
 | .tuple ds,_,⟨a,o,vs,n,e,h1,h2,h3,h4⟩=>by
  have ne:a≠b:=λz=>by
   subst z;rw[h1]at c;cases c;rw[h3]at hd;cases hd
  exact⟨a,o,vs,n,e,(hs.2 a ne).trans h1,h2,h3,wR.keeps c hd hs ds vs.toList h4⟩
 | .none,_,q=>q
 | .bool _,_,q=>q.elim
 | .int _,_,q=>q.elim
 | .list _,_,q=>q.elim
 | .dict _,_,q=>q.elim
theorem wR.keeps {h h':Ej}{b:D1}{f:Obj}{es:Array LV}{ep:Nat}(c:h.get? b=some f)(hd:f.data=.dict es ep)(hs:Ez b h h'):∀(ds:Df) (vs:Db),wR h ds vs->wR h' ds vs
 |[],_,q=>q
 |d::ds,_,⟨v,r,e,h1,h2⟩=>⟨v,r,e,tW.keeps c hd hs d v h1,wR.keeps c hd hs ds r h2⟩
end
section
variable {prog:D3}{w:D6}
def BS (prog:D3)(w:D6)(d:Ea):Prop:=∀(A:Em) (E:D2->Dh) (s:D7) (v:D2) (Q:Int->Dh),A.units+IC d<EO->tW s.heap d v->Q (Xh w d) { s with toks:=s.toks+Bm d }->D4 (Eb prog w) A (pyHash v) Q E s
theorem Fc:∀{ds:Df} {d:Ea},d∈ds->IC d<=xL ds
 |[],_,h=>nomatch h
 |e::ds,d,h=>by
  show IC d<=max (IC e) (xL ds)
  rcases ZI.mp h with rfl|h
  .lia
  .have:=Fc h;lia
theorem KI {g:Df}(N:∀d∈g,BS prog w d):BS prog w (.tuple g):=by
 intro A E s v Q L j h;obtain⟨a,o,O,n,rfl,z,I,hd,K⟩:=j;have t:A.units<cLine:=by lia
 have l:s.TypeIs (.ref a) "tuple":=⟨o,z,I⟩;have M:A.units+(xL g+1)<cLine:=L;unfold pyHash
 first|unfold pyHashByItsType|skip
 first|refine Zt (wpAny_cRoomFor_or (.inr t) ?_)|skip
 refine Zt<|Vz l F.slot_tuple_hash.lookup ?_;show D4 _ _ (if(some (Value.builtin "tuple.__hash__")==some Ev)=true then _ else _) Q E s;rw[ZM (by rw[beq_builtin_none];exact Yc)];refine Zt<|Vz l F.slot_tuple_hash.lookup ?_;show D4 _ _ (callSpecialIfBoundUnlessNone? (.ref a) "__hash__" _>>=_) Q E s;refine Zt<|wpAny_callSpecialIfBoundUnlessNone?_slot l F.slot_tuple_hash<|YH F.slot_tuple_hash l F.entry_tuple_hash ?_<|F.args_tuple_hash_1 _;show D4 _ _ (Builtin.Tuple.tupleItemsOf (.ref a)>>=_) _ _ s;refine Zt<|Uo z hd ?_;refine Zt ?_;rw[<-Array.forIn_toList];refine Vn _
  (λf (b:Array Int) u=>∃done left,g=done++left/\wR s.heap left f/\b.toList=done.map (Xh w)/\u={ s with toks:=s.toks+yU done })
  _ ?_ ?_ _ _ ⟨[],g,rfl,K,rfl,by simp[yU]⟩
 .rintro x f b u ⟨done,left,e,hl,q,rfl⟩;cases left with
  |nil=>cases(show x::f=[] from hl)
  |cons d left =>
   obtain⟨v,r,p,G,H⟩:=hl;injection p with C D;subst C D;have y:d∈g:=by rw[e];simp
   have J:=Fc y;have B:∃c i,g=c++i/\wR s.heap i f/\(b.push<|Xh w d).toList=c.map (Xh w)/\({ s with toks:=s.toks+yU done+Bm d }:D7)={ s with toks:=s.toks+yU c } :=
    ⟨done++[d],left,by simp[e],H,by simp[q],by rw[Id];simp[yU,Nat.add_assoc]⟩
   refine Zt (N d y A.in1 _ _ _ _ (by show A.units+1+IC d<EO;lia) G ?_)
   first
    |exact Zy B
    |exact Zt (Zy<|Zy B)
 .rintro b u ⟨done,left,e,hl,q,rfl⟩;cases left with
  |cons d left=>obtain⟨v,r,p,_⟩:=hl;cases p
  |nil =>
   rw[ZW]at e;subst e;show D4 _ _ (retInt<|EF b.toList) _ _ _;rw[q];have h:Q (reduceHash<|EF<|uA w g) { s with toks:=s.toks+(yU g+1) }:=h;rw[IJ]at h;refine wpAny_ret_mkInt ?_;show D4 _ _ (if(decide (-(2:Int) ^ 63<=EF (g.map<|Xh w))&&decide (EF (g.map<|Xh w)<2 ^ 63))=true then _ else _) Q E _;unfold reduceHash at h
   by_cases j:(decide (-(2:Int) ^ 63<=EF (g.map<|Xh w))&&decide (EF (g.map<|Xh w)<2 ^ 63))=true
   .rw[ZS j];rw[ZS j]at h;exact Zy (by simpa[Nat.add_assoc] using h)
   .rw[ZM j];rw[ZM j]at h;exact Zt (Vg<|Zy<|by simpa[Nat.add_assoc] using h)
mutual
theorem ML:∀d:Ea,BS prog w d
 | .str x=>λA E s v Q _ b h=>by
  obtain⟨t,rfl⟩:=b;exact(strKind prog w).pyHash (k:=x) (by show EI x (.str x t)=true;simp[EI]) h
 | .tuple ds=>KI<|Hf ds
 | .none=>λA E s v Q c b h=>by
  cases(show v=Ev from b);exact PySem.W.pyHash_slot (T:="NoneType") rfl F.slot_NoneType_hash F.entry_NoneType_hash (F.args_NoneType_hash_1 _) (beq_builtin_none _) (.inr<|by lia)<|Zt<|Zy<|Zt<|wpAny_mkInt<|Zy ⟨_,_,rfl,h⟩
 | .bool _=>λ_ _ _ _ _ _ b _=>b.elim
 | .int _=>λ_ _ _ _ _ _ b _=>b.elim
 | .list _=>λ_ _ _ _ _ _ b _=>b.elim
 | .dict _=>λ_ _ _ _ _ _ b _=>b.elim
theorem Hf:∀ds:Df,∀d∈ds,BS prog w d
 |[],_,h=>nomatch h
 |e::ds,d,h=>(ZI.mp h).elim (λz=>z▸ML e)<|Hf ds d
end
mutual
theorem MH:∀(d e:Ea),Xb d=true->Xb e=true->EB d e=decide (d=e)
 | .str x,.str y,_,_=>by
  show(x==y)=_;rw[YL];simp
 | .str _,.tuple _,_,_=>by rw[ZP<|by simp];rfl
 | .tuple _,.str _,_,_=>by rw[ZP<|by simp];rfl
 | .tuple ds,.tuple es,h1,h2=>by
  show EQ ds es=_;rw[F6 ds es h1 h2];exact J1.mpr (by simp)
 | .none,.none,_,_=>rfl
 | .none,.str _,_,_=>by rw[ZP<|by simp];rfl
 | .none,.tuple _,_,_=>by rw[ZP<|by simp];rfl
 | .none,.bool _,_,h=>by cases h
 | .none,.int _,_,h=>by cases h
 | .none,.list _,_,h=>by cases h
 | .none,.dict _,_,h=>by cases h
 | .bool _,_,h,_=>by cases h
 | .int _,_,h,_=>by cases h
 | .list _,_,h,_=>by cases h
 | .dict _,_,h,_=>by cases h
 | .str _,.none,_,_=>by rw[ZP<|by simp];rfl
 | .str _,.bool _,_,h=>by cases h
 | .str _,.int _,_,h=>by cases h
 | .str _,.list _,_,h=>by cases h
 | .str _,.dict _,_,h=>by cases h
 | .tuple _,.none,_,_=>by rw[ZP<|by simp];rfl
 | .tuple _,.bool _,_,h=>by cases h
 | .tuple _,.int _,_,h=>by cases h
 | .tuple _,.list _,_,h=>by cases h
 | .tuple _,.dict _,_,h=>by cases h
theorem F6:∀(ds es:Df),yS ds=true->yS es=true->EQ ds es=decide (ds=es)
 |[],[],_,_=>rfl
 |[],_::_,_,_=>rfl
 |_::_,[],_,_=>rfl
 |d::ds,e::es,b,c=>by
  have b:(Xb d&&yS ds)=true:=b;have c:(Xb e&&yS es)=true:=c;rw[ZG]at b c;show(EB d e&&EQ ds es)=_;rw[MH d e b.1 c.1,F6 ds es b.2 c.2,<-Bool.decide_and];exact J1.mpr (by simp)
end
mutual
theorem FK:∀d:Ea,Xb d=true->d.canLay0=true/\d.depth<=IC d
 | .str x,h=>⟨h,ZB _⟩
 | .tuple ds,h=>by
  obtain⟨b,c⟩:=Km ds h;refine⟨b,?_⟩;show Eo ds+1<=xL ds+1;lia
 | .none,_=>⟨rfl,ZB _⟩
 | .bool _,h=>by cases h
 | .int _,h=>by cases h
 | .list _,h=>by cases h
 | .dict _,h=>by cases h
theorem Km:∀ds:Df,yS ds=true->Ec ds=true/\Eo ds<=xL ds
 |[],_=>⟨rfl,ZB _⟩
 |d::ds,h=>by
  have h:(Xb d&&yS ds)=true:=h;rw[ZG]at h;obtain⟨b,e⟩:=FK d h.1;obtain⟨c,f⟩:=Km ds h.2;refine⟨?_,?_⟩
  .show(d.canLay0&&Ec ds)=true;rw[b,c];rfl
  .show max d.depth (Eo ds)<=max (IC d) (xL ds);lia
end
def Iu (prog:D3)(w:D6)(d:Ea):Prop:=∀(A:Em) (E:D2->Dh) (s:D7) (v:D2) (n:Nat) (Q:Bool->Dh),IC d<=n->tW s.heap d v->Q true s->D4 (Eb prog w) A (eqIsQuiet n v) Q E s
theorem HN {c:Df}(H:∀d∈c,Iu prog w d):Iu prog w (.tuple c):=by
 intro A E s v n Q p g h;obtain⟨a,o,t,m,rfl,q,D,hd,G⟩:=g;have j:s.TypeIs (.ref a) "tuple":=⟨o,q,D⟩;have p:xL c+1<=n:=p;obtain⟨n,rfl⟩:∃k,n=k+1:=⟨n-1,by lia⟩;unfold eqIsQuiet;refine Zt<|Vz j F.slot_tuple_eq.lookup ?_;show D4 _ _ (isInstance (.ref a) (.type "tuple")>>=_) _ _ s;refine Zt<|Je j isSubtype_tuple_tuple ?_;simp only[Vu,YA,Vt];refine Zt<|wpAny_seqItems q hd ?_;refine Zt ?_;show D4 _ _ (forIn t _ _) _ _ s;rw[<-Array.forIn_toList];refine Vn _ (λb r i=>r.1=none/\i=s/\∃left,(∀d∈left,d∈c)/\wR s.heap left b) _ ?_ ?_ _ _ ⟨rfl,rfl,c,λ_ z=>z,G⟩
 .rintro v b r i ⟨g,rfl,left,l,hl⟩;cases left with
  |nil=>cases(show v::b=[] from hl)
  |cons d left =>
   obtain⟨L,I,y,B,C⟩:=hl;injection y with u x;subst u x;have f:=l d Zx;have:=Fc f;refine Zt (H d f A _ i _ n _ (by lia) B ?_);simp only[Vu,YA,Vt];exact Zy ⟨rfl,rfl,left,λe he=>l e<|Zw _ he,C⟩
 .rintro⟨J,K⟩ i ⟨g,rfl,_⟩;simp only at g;subst g;exact Zy h
mutual
theorem HM:∀d:Ea,Iu prog w d
 | .str x=>λA E s v n Q _ b h=>by
  obtain⟨t,rfl⟩:=b;rw[eqIsQuiet_byValue _<|by rfl];exact Zy h
 | .tuple ds=>HN<|BH ds
 | .none=>λA E s v n Q _ b h=>by
  cases(show v=Ev from b);rw[eqIsQuiet_byValue _<|by rfl];exact Zy h
 | .bool _=>λ_ _ _ _ _ _ _ b _=>b.elim
 | .int _=>λ_ _ _ _ _ _ _ b _=>b.elim
 | .list _=>λ_ _ _ _ _ _ _ b _=>b.elim
 | .dict _=>λ_ _ _ _ _ _ _ b _=>b.elim
theorem BH:∀ds:Df,∀d∈ds,Iu prog w d
 |[],_,h=>nomatch h
 |e::ds,d,h=>(ZI.mp h).elim (λz=>z▸HM e)<|BH ds d
end
def yK (prog:D3)(w:D6):HeapKind prog w Ea where
 is:=λh d a=>tW h d (.ref a)/\Xb d=true/\IC d<=6
 hash:=Xh w
 draws:=Bm
 room:=λA=>A.units+8<EO
 inj:=λc g=>tW.inj _ _ _ c.1 g.1
 keeps:=λx j hd l=>⟨tW.keeps j hd l _ _ x.1,x.2⟩
 pyHash:=λn f h=>ML _ _ _ _ _ _ (by have:=f.2.2;lia) f.1 h
 eqBool:=λ{A E s x y a b Q} n c g h=>by
  obtain⟨i,q⟩:=tW.zp _ _ c.1;obtain⟨bs,r⟩:=tW.zp _ _ g.1;obtain⟨o,t⟩:=FK _ c.2.1;obtain⟨p,u⟩:=FK _ g.2.1;have e:=SeqAt.eqAt_reads x y A s _ _ i bs q r o p (by have:=c.2.2;lia);rw[MH _ _ c.2.1 g.2.1]at e;exact e prog w E Q h
 quiet:=λf h=>HM _ _ _ _ _ _ _ (by have:=f.2.2;lia) f.1 h
end
def Gy (d:D1)(es:List LV):HO:=.ext λh=>∃o b,h.get? d=some o/\o.ExactDict/\o.data=.dict es.toArray b/\(d==EA)=false
theorem M8 {h:Ej}{d:D1}{es:List LV}{o:Obj}{ep:Nat}(c:h.get? d=some o)(f:o.ExactDict)(g:o.data=.dict es.toArray ep)(i:(d==EA)=false):yq P w H h d (Gy d es) :=
 ⟨⟨o,ep,c,f,g,i⟩,⟨o,c⟩,λ_ _ ⟨e,b,j,l⟩ k=>⟨e,b,k e j,l⟩⟩
mutual
theorem Dt.other {K:CB}(n:∀xs,¬Rd H d (.tup xs)):∀(k:Ea) (v:V),Xb k=true->Dt K H k v->Dt K (upd H d o) k v
 | .str x,_,_,h=>h
 | .tuple ds,_,t,⟨a,xs,h1,b,h3⟩=>by
  refine⟨a,xs,h1,?_,zc.other n ds xs t h3⟩
  rcases b with b|b
  .have ne:a≠d:=λz=>n xs<|z▸b
   left
   unfold Rd;rwa[zH ne]
  .exact .inr b
 | .none,_,_,h=>h
 | .bool _,_,t,_=>by cases t
 | .int _,_,t,_=>by cases t
 | .list _,_,t,_=>by cases t
 | .dict _,_,t,_=>by cases t
theorem zc.other {K:CB}(n:∀xs,¬Rd H d (.tup xs)):∀(ks:Df) (vs:Dj),yS ks=true->zc K H ks vs->zc K (upd H d o) ks vs
 |[],_,_,h=>h
 |k::ks,_,t,⟨x,r,h1,h2,h3⟩=>by
  have t:(Xb k&&yS ks)=true:=t;rw[ZG]at t;exact⟨x,r,h1,Dt.other n k x t.1 h2,zc.other n ks r t.2 h3⟩
end
section
variable {X:Cx}{Dq:De}{σ:St}{H:Hp}{s:D7}
mutual
theorem Dt.mV (I:Inv X Dq σ H s):∀(d:Ea) (v:V) (u:D2),Xb d=true->Dt X.K H d v->yw v u->tW s.heap d u
 | .str x,_,u,_,h,r=>by
  cases(show _=V.str x from h);exact r
 | .tuple ds,_,u,t,⟨a,xs,h1,h2,h3⟩,r=>by
  subst h1;cases(show u=Ee a from r);obtain⟨b,f,⟨o,e,c,n,d⟩,_⟩:=I.tuple h2;exact⟨a,o,b.toArray,n,rfl,e,c,d,by simpa using zc.mV I ds xs b t h3 f⟩
 | .none,_,u,_,h,r=>by cases(show _=V.non from h);exact r
 | .bool _,_,_,t,_,_=>by cases t
 | .int _,_,_,t,_,_=>by cases t
 | .list _,_,_,t,_,_=>by cases t
 | .dict _,_,_,t,_,_=>by cases t
theorem zc.mV (I:Inv X Dq σ H s):∀(ds:Df) (xs:Dj) (us:Db),yS ds=true->zc X.K H ds xs->yx xs us->wR s.heap ds us
 |[],_,us,_,h,r=>by
  cases(show _=[] from h);cases r;exact rfl
 |d::ds,_,us,t,⟨x,r,h1,h2,h3⟩,rv=>by
  have t:(Xb d&&yS ds)=true:=t;rw[ZG]at t;subst h1;cases rv with
  |cons r1 r2=>exact⟨_,_,rfl,Dt.mV I d x _ t.1 h2 r1,zc.mV I ds r _ t.2 h3 r2⟩
end
def Xv (k:Ea):Prop:=Xb k=true/\IC k<=6
def wQ (K:CB)(H:Hp)(p:Ea×V)(q:Ea×D1×D2):Prop:=p.1=q.1/\Dt K H p.1 (.ref q.2.1)/\yw p.2 q.2.2
def qj (P:D3)(w:D6)(K:CB)(H:Hp)(d:D1)(ps:List<|Ea×V):Prop :=
 ps.length<=10000/\(∀p∈ps,Xv p.1)/\(ps.map (·.1)).Nodup/\∃b:List<|Ea×D1×D2,H d=some (Gy d<|b.map<|LO<|yK P w)/\E5 (wQ K H) ps b
theorem wQ.keys {K:CB}:∀{ps:List (Ea×V)} {xs:List (Ea×D1×D2)},E5 (wQ K H) ps xs->xs.map (·.1)=ps.map (·.1)
 |_,_,.nil=>rfl
 |_,_,.cons r t=>by rw[ZT,ZT,wQ.keys t,r.1]
theorem wQ.at {K:CB}{k:Ea}:∀{ps:List (Ea×V)} {xs:List (Ea×D1×D2)},E5 (wQ K H) ps xs->(atKey xs k=none/\UP ps k=none)\/∃p v,atKey xs k=some p/\UP ps k=some v/\yw v p.2
 |_,_,.nil=>.inl ⟨rfl,rfl⟩
 |p::ps,q::xs,.cons r t=>by
  unfold atKey UP;rw[YG,YG];have e:p.1=q.1:=r.1
  by_cases h:q.1=k
  .rw[Zz h,Zz<|show p.1=k by rwa[e]];exact .inr ⟨q.2,p.2,rfl,rfl,r.2.2⟩
  .rw[ZP h,ZP<|show¬p.1=k by rwa[e]];exact wQ.at t
theorem wQ.is (I:Inv X Dq σ H s):∀{ps:List (Ea×V)} {xs:List (Ea×D1×D2)},(∀p∈ps,Xv p.1)->E5 (wQ X.K H) ps xs->∀x∈xs,(yK X.prog X.w).is s.heap x.1 x.2.1
 |_,_,_,.nil,x,h=>nomatch h
 |p::ps,q::xs,hk,.cons r t,x,h=>by
  rcases ZI.mp h with rfl|h
  .obtain⟨b,d⟩:=hk p Zx;rw[<-r.1];exact⟨Dt.mV I _ _ _ b r.2.1 rfl,b,d⟩
  .exact wQ.is I (λp c=>hk p<|Zw _ c) t x h
theorem qj.heap (I:Inv X Dq σ H s)(T:qj X.prog X.w X.K H d ps):∃xs,H d=some (Gy d<|xs.map<|LO<|yK X.prog X.w)/\E5 (wQ X.K H) ps xs/\s.heap.DictOfH (yK X.prog X.w) d xs/\(d==EA)=false:=by
 obtain⟨hl,i,nd,xs,e,r⟩:=T;obtain⟨⟨o,b,c,f,g,h⟩,_⟩:(∃o b,s.heap.get? d=some o/\o.ExactDict/\o.data=.dict (xs.map<|LO<|yK X.prog X.w).toArray b/\(d==EA)=false)/\_:=I.hok d _ e;exact⟨xs,e,r,⟨o,_,b,c,f,g,by simp,wQ.is I i r,by rw[wQ.keys r];exact nd⟩,h⟩
theorem Rc {A:Em}(b:A.units+64<EO)(prog:D3)(w:D6):(yK prog w).room A.in1:=by
 show A.units+1+8<EO;lia
theorem key_is (I:Inv X Dq σ H s){k:Ea}{a:D1}(b:Xv k)(h:Dt X.K H k<|.ref a):(yK X.prog X.w).is s.heap k a:=⟨Dt.mV I _ _ _ b.1 h rfl,b⟩
end
section
variable {X:Cx}{K:CB}
def bb (P:D3)(w:D6)(K:CB):R2:=λy x H Q=>∃a d b k,y=.ref a/\x=.ref d/\qj P w K H d b/\Xv k/\Dt K H k (.ref a)/\Q (.bl (UP b k).isSome) H
theorem TL (f:X.A.units+64<EO):CS X (EC .In) (bb X.prog X.w X.K):=by
 intro j s o H y x v u Q I i g h;obtain⟨a,d,l,k,rfl,rfl,T,e,c,q⟩:=h;cases i;cases g;obtain⟨n,_,r,b,hd⟩:=T.heap I;refine wpAny_in_heap (Rc f _ _) (key_is I e c) hd b ⟨.bl _,H,I.tok _,?_,q⟩
 rcases wQ.at (k:=k) r with⟨e1,e2⟩|⟨p,v,e1,e2,_⟩
 .rw[e1,e2];rfl
 .rw[e1,e2];rfl
def au (P:D3)(w:D6)(K:CB)(g ty:TE):TE:=λe H Q=>g e H λx f=>ty e f λy b=>∃a d c k v,x=.ref d/\y=.ref a/\qj P w K b d c/\Xv k/\Dt K b k (.ref a)/\UP c k=some v/\Q v b
theorem Si {pos:Pos}(C:X.A.units+64<EO)(B:PE X o td)(t:PE X i ty)(hs:RD i):PE X (.Subscript o i pos) (au X.prog X.w X.K td ty):=by
 intro c s f H Q I h;refine FH PySem.F.slot_dict_getitem.lookup hs<|CF (B c s f H _ I h) λu M ⟨x,g,l,J,E⟩=>CF (t c M f g _ l E) λD O hh=>?_;obtain⟨y,j,b,L,a,d,N,k,v,ex,n,T,z,q,hv,G⟩:=hh;subst ex n;obtain rfl:u=Ee d:=J;obtain rfl:D=Ee a:=L;obtain⟨P,_,r,e,hd⟩:=T.heap b;refine⟨e.typeIs,?_⟩
 rcases wQ.at (k:=k) r with⟨e1,e2⟩|⟨p,v',e1,e2,rv⟩
 .rw[hv]at e2;cases e2
 .rw[hv]at e2;cases e2;exact wpAny_getItem_heap (Rc C _ _) (key_is b z q) e e1 ⟨v,j,b.tok _,rv,G⟩
def W7 (P:D3)(w:D6)(K:CB)(i ty j:TE):TS:=λD c H=>j c H λv f=>i c f λx g=>ty c g λy b=>∃a d e k,x=.ref d/\y=.ref a/\qj P w K b d e/\e.length<10000/\Xv k/\Dt K b k (.ref a) /\
 ∀o,qj P w K (upd b d o) d (yr e k v)->(∃h,o=Gy d h)->D.nx c (upd b d o)
theorem kB {α b:Type}{F:α->b->Prop}:∀{l l':List α} {m m':List b},E5 F l m->E5 F l' m'->E5 F (l++l') (m++m')
 |_,_,_,_,.nil,h=>h
 |_,_,_,_,.cons r t,h=>.cons r<|kB t h
theorem wQ.repl {K:CB}{k:Ea}(b:yw v u):∀{ps:List (Ea×V)} {xs:List (Ea×D1×D2)},E5 (wQ K H) ps xs->E5 (wQ K H) (ps.map λp=>if p.1=k then(p.1,v) else p) (xs.map<|putAt k u)
 |_,_,.nil=>.nil
 |p::ps,q::xs,.cons r t=>by
  rw[ZT,ZT];refine .cons ?_<|wQ.repl b t;have e:p.1=q.1:=r.1;unfold putAt
  by_cases h:q.1=k
  .rw[ZS h,ZS<|show p.1=k by rwa[e]];exact⟨r.1,r.2.1,b⟩
  .rw[ZM h,ZM<|show¬p.1=k by rwa[e]];exact r
theorem wQ.put {K:CB}{a:D1}{ps:List (Ea×V)}{xs:List (Ea×D1×D2)}(r:E5 (wQ K H) ps xs)(g:Dt K H k<|.ref a)(f:yw v u):E5 (wQ K H) (yr ps k v) (storedH xs k a u):=by
 have e:(ps.any λb=>decide (b.1=k))=(atKey xs k).isSome:=by
  rcases wQ.at (k:=k) r with⟨e1,e2⟩|⟨p,v',e1,e2,_⟩
  .rw[e1];refine JO.mpr λz=>?_;obtain⟨b,d,c⟩:=Yq.mp z;exact IP e2<|ZA.mpr ⟨b,d,ZJ c⟩
  .obtain⟨b,d,c⟩:=ZA.mp<|qJ e2;rw[e1,Yq.mpr ⟨b,d,Zz c⟩];rfl
 unfold yr storedH;rw[e]
 split
 .exact wQ.repl f r
 .exact kB r (.cons ⟨rfl,g,f⟩ .nil)
theorem P1 {ps:List (Ea×V)}(h:∀p∈ps,Xv p.1)(d:Xv k):∀p∈yr ps k v,Xv p.1:=by
 unfold yr
 split
 .intro p b;obtain⟨q,c,rfl⟩:=ZA.mp b
  split
  .exact h q c
  .exact h q c
 .intro p b
  rcases ZZ.mp b with b|b
  .exact h p b
  .rwa[Zv.mp b]
theorem Sm {ps:List (Ea×V)}(h:(ps.map (·.1)).Nodup):((yr ps k v).map (·.1)).Nodup:=by
 unfold yr
 split
 .have e:(ps.map λb=>if b.1=k then(b.1,v) else b).map (·.1)=ps.map (·.1):=by
   rw[ZY];refine Yu λp _=>?_;show(if p.1=k then(p.1,v) else p).1=p.1
   split<;>rfl
  rwa[e]
 .rename_i c;rw[ZH];refine qD h λz=>c ?_;obtain⟨p,d,e⟩:=ZA.mp z;exact Yq.mpr ⟨p,d,Zz e⟩
theorem Sk {pos F:Pos}(hu:X.A.units+64<EO)(ho:PE X o td)(hi:PE X i ty)(hv:PE X value tv)(hs:L8 value (some<|.Subscript o i F) pos.line X.env=E7 false) :
  PS X (.Assign [.Subscript o i F] value pos) (W7 X.prog X.w X.K td ty tv):=by
 intro n s l H D I h;refine wpAny_Assign_Subscript (CF (hv n s l H _ I h) λr s1 ⟨v,L,N,rv,q1⟩=>CF (ho n s1 l L _ N q1) λu s2 ⟨x,M,O,rx,q2⟩=>CF (hi n s2 l M _ O q2) λiv s3 hh=>?_) hs;obtain⟨y,f,q,ry,a,d,c,k,ex,S,T,hl,C,J,q3⟩:=hh;subst ex S;obtain rfl:u=Ee d:=rx;obtain rfl:iv=Ee a:=ry;obtain⟨b,e,j,Q,hd⟩:=T.heap q;have hz:b.length<=sizeLine:=by rw[<-Paired.length j];exact An.zx (by lia)
 refine wpAny_setItem_heap (hsz:=hz) (Rc hu _ _) (key_is q C J) Q λh' t E=>?_;obtain⟨ob,es,R,G,U,Y,Z,_,_⟩:=t;have B:ob.data=.dict ((storedH b k a r).map<|LO<|yK X.prog X.w).toArray R:=by rw[Y,<-Z]
 have mu:S8 (f d):=by rw[e];exact E3
 have P:=uG (t':=s3.toks+(yK X.prog X.w).draws k) q mu E ⟨ob,G⟩<|M8 (H:=upd f d<|Gy d<|(storedH b k a r).map<|LO<|yK X.prog X.w) G U B hd;have nt:∀b,¬Rd f d (.tup b):=λys z=>by
  rcases z with z|⟨o',z⟩
  .rw[e]at z;cases z
  .rw[e]at z;cases z
 refine⟨l,_,P,q3 _ ⟨?_,P1 T.2.1 C,Sm T.2.2.1,storedH b k a r,zB,?_⟩ ⟨_,rfl⟩⟩
 .have:=xW c k v;lia
 .have r2:E5 (wQ X.K<|upd f d<|Gy d<|(storedH b k a r).map<|LO<|yK X.prog X.w) c b:=by
   have key:∀{c:List (Ea×V)} {b:List (Ea×D1×D2)},(∀p∈c,Xv p.1)->E5 (wQ X.K f) c b->∀o,E5 (wQ X.K<|upd f d o) c b:=by
    intro c b g r
    induction r with
    |nil=>intro _;exact .nil
    |cons r1 _ ih=>intro o;exact .cons ⟨r1.1,Dt.other nt _ _ (g _ Zx).1 r1.2.1,r1.2.2⟩<|ih (λp hp=>g p<|Zw _ hp) o
   exact key T.2.1 j _
  exact wQ.put r2 (Dt.other nt _ _ C.1 J) rv
theorem PD {pos:Pos}:PE X (.Dict [] [] pos) (λ_ H Q=>∀p o,H p=none->qj X.prog X.w X.K (upd H p o) p []->(∃es,o=Gy p es)->Q (.ref p) (upd H p o)):=by
 intro d s e H Q I h;have c:H s.heap.objs.size=none:=I.hok.fresh<|ZB _;have b:(s.heap.objs.size==EA)=false:=YT.mpr<|Eh<|ZX I.big;exact wpAny_Dict_empty ⟨.ref s.heap.objs.size,_,I.laid (a:=s.heap.objs.size) (o:=Gy s.heap.objs.size []) (t':=s.toks) (λ_ _ q=>ZC _ q) (ZB _)<|M8 (ep:=0) (ZK _ rfl) ⟨rfl,rfl,rfl⟩ rfl b,rfl,h _ _ c ⟨Yf _,λ_ z=>(nomatch z),YN,[],zB,.nil⟩ ⟨_,rfl⟩⟩
end
structure Met (P:D3)(w:D6)(K:CB)(mg:Str->Dc)(base:Ej)(C:D1)(k:Nat)(m:Str)(ps:Da)(sp:Sp):Prop where
 ex:∃(f:D1) (fd:D5),zj P w K mg base CG k f fd ps sp/\Meth K C m f/\wN K fd ps []
inductive mK (C:D1)(m:Str)(sp:Sp)(R:St->Hp->D2->Prop)(t:TA)(σ:St)(Q:VK)(x:V)(H1:Hp):Prop
 |mk (a dx:D1) (fs:List<|Str×V) (e:x=.ref a) (h:H1 a=some (.ins C dx fs)) (n:fs.lookup m=none) (q:t σ H1 λvs H2=>sp (x::vs) H2 Q<|λcls _ H'=>R σ H' cls):mK C m sp R t σ Q x H1
section
variable {X:Cx}{C:D1}{k:Nat}{m:Str}{ps:Da}{sp:Sp}{o e:Ey}{es:List Ey}{ta:TE}{t:TA}{Ds pos:Pos}{R:St->Hp->D2->Prop}
theorem zX {pl:Sem Bool}(he:PE X o ta)(c:Cls X.K C)(M:Met X.prog X.w X.K X.mg X.base C k m ps sp)(j:xf k X.A)(g:PA X (e::es) t)
  (d:Ei (e::es) X.env=(false,EV e X.env)::Ei es X.env:=by rfl) (b:(La pos<|Ei es X.env).any (·.1)=false:=by rfl)
  (l:EV (.Call (.Attribute o m Ds) (e::es) [] pos) X.env=(do
   let ov <-EV o X.env
   standAt Ds.atName
   let (f,first) <-holding [ov] (getMethod ov m pl)
   callWith pos f first (La pos<|Ei (e::es) X.env) (backToKw pos<|LS [] X.env)):=by rfl) :
  PE X (.Call (.Attribute o m Ds) (e::es) [] pos) (Nj C m sp [] E0 ta t):=by
 obtain⟨f,n,F,i,h⟩:=M.ex;exact Sh (pl:=pl) he c i F j h .nil GL g d b l
theorem PK {pl:Sem Bool}(he:PE X o ta)(c:Cls X.K C)(M:Met X.prog X.w X.K X.mg X.base C k m ps sp)(e:xf k X.A)
  (g:EV (.Call (.Attribute o m Ds) [] [] pos) X.env=(do
   let ov <-EV o X.env
   standAt Ds.atName
   let (f,first) <-holding [ov] (getMethod ov m pl)
   callWith pos f first (La pos<|Ei [] X.env) (backToKw pos<|LS [] X.env)):=by rfl) :
  PE X (.Call (.Attribute o m Ds) [] [] pos) (Nj C m sp [] E0 ta Xi):=by
 obtain⟨f,h,F,d,b⟩:=M.ex;exact PL (pl:=pl) he c d F e b .nil GL g
end
structure mJ (P:D3)(w:D6)(K:CB)(mg:Str->Dc)(base:Ej)(C:D1)(k:Nat)(x:Str)(ps:Da)(sp:Sp):Prop where
 ex:∃(f:D1) (fd:D5),zj P w K mg base CG k f fd ps sp/\Mk K C f/\wN K fd ps []/\mg x=some (.ref C)
theorem Sf {X:Cx}{e:Ey}{es:List Ey}{p pos:Pos}(M:mJ X.prog X.w X.K X.mg X.base C k x ps sp)(j:xf (k+1) X.A)(d:PA X (e::es) t)(h:Gl X x:=by rfl)
  (b:(x==("__debug__":Str))=false:=by decide) (he:Ei (e::es) X.env=(false,EV e X.env)::Ei es X.env:=by rfl) (c:(La pos<|Ei es X.env).any (·.1)=false:=by rfl) :
  PE X (.Call (.Name x p) (e::es) [] pos) (Ni C sp [] E0 t):=by
 obtain⟨f,n,F,i,g,l⟩:=M.ex;exact Sg i F j h l g .nil GL d b he c
theorem Fb (x:Str)(i j:Nat):An.cs (E4 x i j)=((An.cs x).take j).drop i:=by
 show(x.cps.extract i j).toList=_;rw[Array.toList_extract,List.extract_eq_drop_take,List.drop_take]
theorem Ig (x:Str)(c i:Nat)(t u:Tok)(r:List Nat)(d:EJ x ⟨#[c]⟩ 0 x.length 1=i::r)(hz:x.length<=100000):Meets (Builtin.«str.partition» ⟨[.str x t,.str ⟨#[c]⟩ u],[]⟩)
  (λ_ R s=>R (.ok<|.ret<|.ref s.heap.objs.size) { s with heap:=s.heap.push { cls:=.type "tuple",data:=.seq #[.str (E4 x 0 i) s.toks,.str ⟨#[c]⟩ u,.str (E4 x (i+1) x.length)<|s.toks+1] },toks:=s.toks+1+1 }) :=
 .of_wp λprog w A R s h=>by
  obtain⟨b,e⟩:=partition_tree x ⟨#[c]⟩ t u;rw[e,ZM<|show¬((⟨#[c]⟩:Str).length==0)=true from(by show¬(1==0)=true;decide),d];have f:(E4 x 0 i).length<=sizeLine:=by
   rw[An.zf,Fb,Jp,Z3];refine An.zx ?_;rw[<-An.zf];lia
  have g:(E4 x (i+(⟨#[c]⟩:Str).length) x.length).length<=sizeLine:=by
   rw[An.zf,Fb,Jp,Z3];refine An.zx ?_;rw[<-An.zf];lia
  refine Zt<|wpAny_mkStr ?_ f;refine Zt<|wpAny_mkStr ?_ g;refine Zt (wpAny_newTuple ?_ (by show 3<=sizeLine;decide));exact Zy ⟨_,rfl,h⟩
section
variable {X:Cx}
def SS:V->Dj->Hp->VK->Prop:=λx vs H Q=>∃(u v:Str) (c:Nat),x=.str (u++⟨#[c]⟩++v)/\vs=[.str ⟨#[c]⟩]/\c∉An.cs u/\(u++⟨#[c]⟩++v).length<=100000/\∀p,H p=none->Q (.ref p) (upd H p<|.tup [.str u,.str ⟨#[c]⟩,.str v])
theorem kO:SJ X "str.partition" SS:=by
 intro A s D H x C v B Q I y u h;obtain⟨a,b,c,rfl,rfl,n,p,q⟩:=h;obtain⟨t,rfl⟩:=y;obtain⟨w,rfl,t',rfl⟩:=wU u;have d:An.cs (a++⟨#[c]⟩++b)=An.cs a++c::An.cs b:=by
  rw[An.zu,An.zu];show An.cs a++[c]++An.cs b=_;simp
 have e:(An.cs<|a++⟨#[c]⟩++b)[(An.cs a).length]?=some c:=by rw[d];simp
 have i:∃r,EJ (a++⟨#[c]⟩++b) ⟨#[c]⟩ 0 (a++⟨#[c]⟩++b).length 1=(An.cs a).length::r:=by
  rcases StrLaws.occ_head_from (a++⟨#[c]⟩++b) ⟨#[c]⟩ 0 1 (ZB 1) with⟨h0,f⟩|⟨k,r,h0,hlo,hk,f⟩
  .exact absurd ((L4 _ c _).mpr e) (f _<|Yf _)
  .have g:=(L4 _ c k).mp hk;have g:(An.cs<|a++⟨#[c]⟩++b)[k]?=some c:=g
   rcases VP k (An.cs a).length with z|z|z
   .rw[d,Z7 z]at g;exact absurd (ZN g) n
   .exact⟨r,by rw[h0,z]⟩
   .exact absurd ((L4 _ c _).mpr e) (f _ (Yf _) z)
 obtain⟨r,i⟩:=i;refine Vf F.slot_str_partition (VC s _ t) F.entry_str_partition (F.args_str_partition_2 _ _) (Ig _ c _ t t' r i p) ?_;have j:E4 (a++⟨#[c]⟩++b) 0 (An.cs a).length=a:=An.xq (by rw[Fb,d,List.drop_zero,List.take_left]);have l:E4 (a++⟨#[c]⟩++b) ((An.cs a).length+1) (a++⟨#[c]⟩++b).length=b:=An.xq (by
  rw[Fb,An.zf,Ya,d];rw[show An.cs a++c::An.cs b=(An.cs a++[c])++An.cs b by simp];rw[show(An.cs a).length+1=(An.cs a++[c]).length by simp];exact List.drop_left)
 rw[j,l];have f:H s.heap.objs.size=none:=I.hok.fresh<|ZB _;refine⟨.ref s.heap.objs.size,_,I.laid (t':=s.toks+1+1) (a:=s.heap.objs.size) (o:=.tup [.str a,.str ⟨#[c]⟩,.str b]) (λ_ _ q=>ZC _ q) (ZB _) ?_,rfl,q _ f⟩;exact⟨by show 3<=sizeLine;decide,_,.cons ⟨_,rfl⟩<|.cons ⟨_,rfl⟩<|.cons ⟨_,rfl⟩ .nil,⟨_,ZK _ rfl,rfl,_,rfl,rfl⟩⟩
def U4 (n:Nat):Str:=ED<|Lb ((n:Nat):Int)
theorem Nr:xg X (.type "int") (λxs H Q=>∃n:Nat,xs=[.str<|U4 n]/\n<10000000000/\Q (.int n) H):=by
 intro b s e H xs d Q I r h;obtain⟨n,rfl,c,q⟩:=h;obtain⟨u,rfl,t,rfl⟩:=wU r;exact PySem.W.KIN.call_num (by lia) (by lia) ⟨.int n,H,I.tok _,⟨_,rfl⟩,q⟩
def tF3 (e:TE)(y:Str)(f:TE):TE:=λb H Q=>e b H λv c=>∃x:Str,v=.str x/\x.length<=100000/\y.length<=1000/\f b c λu d=>∃n:Nat,u=.int n/\n<1000000/\Q (.str<|x++y++U4 n) d
theorem WY {y:Str}{k:Nat}{C i D pos:Pos}(A:PE X e1 t1)(B:PE X e2 t2):PE X (.JoinedStr [.FormattedValue e1 (-1) none C,.Constant (.str y) k i,.FormattedValue e2 (-1) none D] pos) (tF3 t1 y t2):=by
 intro c s d H Q I h;refine JoinedStr_many<|joinParts_cons<|FormattedValue_plain<|CF (A c s d H _ I h) λv P hh=>?_;obtain⟨Z,f,p,F,x,ex,xl,yl,E⟩:=hh;subst ex;obtain⟨t,rfl⟩:=F;refine formatField_str (λS M=>⟨?_,?_⟩) (An.zx<|by lia)
 .show(LR++x).length<=sizeLine;rw[An.yt];exact An.zx (by show 0+x.length<=_;lia)
 refine joinParts_cons<|CF ((zr:PE X (.Constant (.str y) k i) _) c _ d f (λv j=>v=.str y/\j=f) (p.tok M) ⟨rfl,rfl⟩) λU K hh=>?_;obtain⟨x2,l,q,G,e2,u⟩:=hh;subst e2 u;obtain⟨L,rfl⟩:=G;refine⟨?_,?_⟩
 .show(LR++x++y).length<=sizeLine;rw[An.yt,An.yt];exact An.zx (by show 0+x.length+y.length<=_;lia)
 refine joinParts_cons<|FormattedValue_plain<|CF (B c K d l _ q E) λY R hh=>?_;obtain⟨x3,o,r,J,n,w,N,O⟩:=hh;subst w;obtain⟨T,rfl⟩:=J;have b:((n:Int)).natAbs.log2<1920:=by
  rw[Uq]
  rcases JD n with z|z
  .subst z;decide
  .have:n.log2<20:=(Nat.log2_lt<|by lia).mpr (by lia);lia
 have g:(LR++x++y++U4 n).length<=sizeLine:=by
  rw[An.yt,An.yt,An.yt];have:=V7 b;exact An.zx (by show 0+x.length+y.length+(U4 n).length<=_;have e:(U4 n).length<=1921:=this;lia)
 refine formatField_int_small b ⟨g,joinParts_nil ⟨.str _,o,r.tok _,⟨_,rfl⟩,?_⟩ g⟩;have e:LR++x++y++(ED<|Lb (n:Int))=x++y++U4 n:=An.xq (by
  rw[An.zu,An.zu,An.zu,An.zu,An.zu];rfl)
 rwa[e]
theorem Gx:∀{Dm:Dl} {vs:List (Key×D2)} {us:Db},KV Dm vs->us.length=vs.length->(∀(j:Nat) (v:D2),us[j]?=some v->∃k x,vs[j]?=some (k,x)/\(zq P w).is k v=true)->yx (Dm.map λkv=>kV kv.1) us
 |[],_,[],.nil,_,_=>.nil
 |[],_,_::_,.nil,hl,_=>by cases hl
 |_::_,_,[],.cons _ _,hl,_=>by cases hl
 |p::_,q::_,u::us,.cons r1 r2,hl,hm=>by
  obtain⟨k,x,e,b⟩:=hm 0 u rfl;have e:q=(k,x):=by simpa using e
  have c:p.1=k:=by rw[show p.1=q.1 from r1.1,e]
  refine .cons (by
   show yw (kV p.1) u;rw[c];cases k with
   |inl i =>
    have b:Mb i u=true:=b;cases u<;>simp[Mb]at b;subst b;exact⟨_,rfl⟩
   |inr z =>
    obtain⟨t,rfl⟩:=YS<|show EI z u=true from b;exact⟨t,rfl⟩) (Gx (P:=P) (w:=w) r2 (by simpa using hl) λj v d=>?_)
  obtain⟨f,l,g,h⟩:=hm (j+1) v (by simpa using d);exact⟨f,l,by simpa using g,h⟩
theorem Kv (z:X.calm=true):xg X (.type "list") (λxs H Q=>∃a Dm,xs=[.ref a]/\H a=some (.dK Dm)/\∀l,H l=none->Q (.ref l) (upd H l<|.lst<|Dm.map λkv=>kV kv.1)):=by
 intro K s N H xs M Q I r h;obtain⟨a,Dm,rfl,y,q⟩:=h;obtain⟨u,rfl,F⟩:=wU r;cases F;obtain⟨E,x,vs,d,o,p,ep,B,D,hd,A,C,g⟩:Dm.length<=sizeLine/\(a==EA)=false/\∃vs,KV Dm vs/\s.heap.DictOf (zq X.prog X.w) a vs:=I.hok a _ y;have n:s.heap.DictAt (zq X.prog X.w) a vs ep:=⟨o,p,B,D,hd,A,C,g⟩;have L:Dm.length=vs.length:=Paired.length d;refine PySem.W.kdl_call (PySem.W.kdl_dict (knd:=zq X.prog X.w) (kvs:=vs) (ep:=ep) x) (I.ok.hd z) n (by lia) λt J b c f hl i=>?_;have G:yx (Dm.map λkv=>kV kv.1) b.toList:=Gx d (by rw[ZU];exact i.1) λj v e=>i.2 j v (by rwa[<-Yj]);exact⟨.ref s.heap.objs.size,_,I.laid (t':=J) f (ZB _)<|show yq X.prog X.w _ t _ (.lst<|Dm.map λkv=>kV kv.1) from⟨by rw[Zu];exact E,b.toList,c,G,hl⟩,rfl,q _<|I.hok.fresh<|ZB _⟩
end
section
variable {X:Cx}{Dq:De}{σ:St}{H:Hp}{s:D7}{d:D1}{Dm:Dl}
theorem xf.uZ (r:xf k A):A.units+128<cLine:=by have:=r.un;lia
theorem Inv.freeze (I:Inv X Dq σ H s)(e:H d=some (.dK Dm)):∃ob:Obj,Inv X Dq σ (upd H d<|.frz ob<|.dK Dm) s:=by
 obtain⟨r,j,vs,g,o,i,h,f,p,hd,l,n,c⟩:Dm.length<=sizeLine/\(d==EA)=false/\∃vs,KV Dm vs/\s.heap.DictOf (zq X.prog X.w) d vs:=I.hok d _ e;refine⟨o,?_⟩;have t:S8 (H d):=by rw[e];trivial
 exact I.write (x:=d) (e:=d) (h':=s.heap) (t':=s.toks) t (.inl rfl) (λb u _ q=>q) ⟨o,f⟩ ⟨f,r,j,vs,g,o,i,h,f,p,hd,l,n,c⟩
theorem P9 {k:Key}{u:D2}(h:(zq P w).is k u=true):yw (kV k) u:=by
 cases k with
 |inl i =>
  have h:Mb i u=true:=h;cases u<;>simp[Mb]at h;subst h;exact⟨_,rfl⟩
 |inr x =>
  obtain⟨t,rfl⟩:=YS<|show EI x u=true from h;exact⟨t,rfl⟩
theorem qZ {α b:Type}{F:α->b->Prop}:∀{l₁:List α} {l₂:List b} {i:Nat} {y:b},E5 F l₁ l₂->l₂[i]?=some y->∃x,l₁[i]?=some x/\F x y
 |_,_,_,_,.nil,h=>by cases h
 |_,_,0,_,.cons r _,h=>by cases h;exact⟨_,rfl,r⟩
 |_,_,i+1,_,.cons _ t,h=>by
  obtain⟨x,c,d⟩:=qZ (i:=i) t (by simpa using h);exact⟨x,by simpa using c,d⟩
theorem KG {ob:Obj}(z:yq P w H h d<|.frz ob<|.dK Dm):∃vs es ep,ob.data=.dict es ep/\KV Dm vs/\h.DictAt (zq P w) d vs ep/\(d==EA)=false/\Dm.length<=sizeLine:=by
 obtain⟨i,r,l,vs,g,o,b,e,j,q,c,n,p,f⟩:=z;rw[i]at j;cases j;exact⟨vs,b,e,c,g,⟨ob,b,i,q,c,n,p,f⟩,l,r⟩
theorem Ik {ob:Obj}{es:Array LV}{ep:Nat}(hd:ob.data=.dict es ep)(z:yq P w H h d<|.frz ob<|.dK Dm):∃vs,KV Dm vs/\h.DictAt (zq P w) d vs ep/\(d==EA)=false:=by
 obtain⟨vs,g,f,b,c,e,i,_⟩:=KG z;rw[hd]at b;cases b;exact⟨vs,c,e,i⟩
def aH (d:D1)(Dm:Dl)(ob:Obj):It where
 go:=λi H=>H d=some (.frz ob<|.dK Dm)/\i<Dm.length
 rW:=λi H x b=>b=H/\∃k v,Dm[i]?=some (k,v)/\x=kV k
 stop:=λi H=>H d=some (.frz ob<|.dK Dm)/\i=Dm.length
theorem N9 {K:CB}{ob:Obj}{es:Array LV}{ep:Nat}(hd:ob.data=.dict es ep)(it:D1):Turn P w K tg (aH d Dm ob) [it] it (λi h=>h.IsKeyIter it d i Dm.length ep) where
 mem:=by simp
 obj:=λi h st b g=>by
  have e:b=it:=by simpa using g
  subst e;obtain⟨o,e,c,r⟩:=st;exact⟨o,e,λv z=>by rw[r]at z;cases z⟩
 keep:=λi h n st k=>by
  obtain⟨o,e,c⟩:=st;exact⟨o,k it (by simp) o e,c⟩
 item:=by
  intro X C G B L i Dq s σ H E I p st D;subst C G B;obtain⟨j,M⟩:=D;obtain⟨vs,f,q,U⟩:=Ik hd<|I.hok d _ j;have hl:Dm.length=vs.length:=Paired.length f;rw[hl]at st;have N:vs[i]?=some (vs[i]'(by lia)):=ZD (by lia);obtain⟨t,u,S,x,y,f5⟩:=p it (by simp);refine wpAny_pyNext_dict_item (k:=(vs[i]'(by lia)).1) (v:=(vs[i]'(by lia)).2) st q N λkey n O l Z=>?_;have Q:Inv X Dq σ H { s with heap:=n }:=I.turned (t':=s.toks) (λb o g e=>(Z.2 b g).trans e) t u x y f5;rw[<-hl]at l;obtain⟨o,e,c,r⟩:=id l;have F:∃v,Dm[i]?=some ((vs[i]'(by lia)).1,v):=by
   obtain⟨⟨Y,J⟩,T,A,_⟩:=qZ f N;have A:Y=_:=A;subst A;exact⟨J,T⟩
  obtain⟨J,F⟩:=F;exact⟨key,rfl,MK (s:={ s with heap:=n }) e c r (by decide) ⟨kV (vs[i]'(by lia)).1,H,Q,P9 O,⟨rfl,_,J,F,rfl⟩,l,λb g=>(p b g).1⟩⟩
 done:=by
  intro X C G B L i Dq s σ H E I p st D;subst C G B;obtain⟨j,M⟩:=D;subst M;obtain⟨vs,f,q,U⟩:=Ik hd<|I.hok d _ j;have hl:Dm.length=vs.length:=Paired.length f;obtain⟨t,u,S,x,y,f5⟩:=p it (by simp);rw[hl]at st;exact wpAny_pyNext_dict_end (I.ok.hd L) st q (Yv<|by lia) λn R=>⟨rfl,I.turned (t':=s.toks) (λb o g e=>R b o g e) t u x y f5⟩
 self:=λ_ _ _ _ _ st h=>wpAny_pyIter_keyiter st h
def Wy (d:D1)(Dm:Dl)(ob:Obj):It where
 go:=λi H=>H d=some (.frz ob<|.dK Dm)/\i<Dm.length
 rW:=λi H x b=>∃T k v,Dm[i]?=some (k,v)/\H T=none/\x=.ref T/\b=upd H T (.tup [kV k,v])
 stop:=λi H=>H d=some (.frz ob<|.dK Dm)/\i=Dm.length
theorem Mp {P:D3}{w:D6}{K:CB}{j:List Ey} {x1}{r:Pos}{ob:Obj}{es:Array LV}{ep:Nat}(hd:ob.data=.dict es ep)(it:D1) :
  Turn P w K (.Tuple j x1 r) (Wy d Dm ob) [it] it (λi h=>∃ok ov,IsItemIter h it d i Dm.length ep ok ov) where
 mem:=by simp
 obj:=λi h st b c=>by
  have e:b=it:=by simpa using c
  subst e;obtain⟨ok,ov,e⟩:=st;exact⟨_,e,λv z=>by cases z⟩
 keep:=λi h S st k=>by
  obtain⟨ok,ov,e⟩:=st;exact⟨ok,ov,k it (by simp) _ e⟩
 item:=by
  intro X G M F T i Dq s σ H E I A st L;subst G M F;obtain⟨g,U⟩:=L;obtain⟨vs,f,B,hS⟩:=Ik hd<|I.hok d _ g;have hl:Dm.length=vs.length:=Paired.length f;obtain⟨ok,ov,st⟩:=st;rw[hl]at st;obtain⟨⟨Z,x⟩,Y⟩:∃p,vs[i]?=some p:=⟨_,ZD<|show i<vs.length by lia⟩;obtain⟨⟨l,u⟩,h0,D,O⟩:=qZ f Y;have D:l=Z:=D;have O:yw u x:=O;have fi:=A it (by simp);have J:H s.heap.objs.size=none:=I.hok.fresh<|ZB _;have n:it<s.heap.objs.size:=ZR st;refine wpAny_pyNext_items_item (k:=Z) (v:=x) st B Y λkey S DL N tup sz kp=>?_;refine⟨_,rfl,wpAny_letOwnedTupleGo_items N λy R sb=>?_⟩;have t:y.get? s.heap.objs.size=some { cls:=.type "tuple",data:=.seq #[key,x] }:=(sb.2 _<|J6 n).trans tup;have I1:Inv X Dq σ H { s with heap:=y }:=I.p8 (t':=s.toks) (ch:=[it]) A (λb o c q=>by
   have Q:b≠it:=λz=>c (by simp[z]);exact(sb.2 b Q).trans (kp b o Q q)) (λb c=>by
   have z:b=it:=by simpa using c
   subst z;exact⟨_,R⟩)
  have C:=I.tu (ZB _) J;have new:yq X.prog X.w (upd H s.heap.objs.size<|.tup [kV l,u]) y s.heap.objs.size (.tup [kV l,u]) :=
   ⟨by show 2<=sizeLine;decide,[key,x],.cons (by rw[D];exact P9 DL)<|.cons O .nil,⟨_,t,rfl,_,rfl,rfl⟩⟩
  have I2:Inv X Dq σ (upd H s.heap.objs.size<|.tup [kV l,u]) { s with heap:=y } :=
   I1.nJ J (Yn I.sz<|ZB _) C.2.1 C.2.2.2.2.1 C.2.2.2.2.2 new
  refine⟨.ref s.heap.objs.size,_,I2,rfl,⟨_,l,u,h0,J,rfl,rfl⟩,⟨key,x,by rw[hl];exact R⟩,λb c=>?_⟩;have z:b=it:=by simpa using c
  subst z;rw[zH<|ZX n];exact fi.1
 done:=by
  intro X G M F T i Dq s σ H E I A st L;subst G M F;obtain⟨g,U⟩:=L;subst U;obtain⟨vs,f,B,hS⟩:=Ik hd<|I.hok d _ g;have hl:Dm.length=vs.length:=Paired.length f;obtain⟨f0,f1,f2,f3,f4,f5⟩:=A it (by simp);obtain⟨ok,ov,st⟩:=st;rw[hl]at st;exact wpAny_pyNext_items_end (I.ok.hd T) st B (Yv<|by lia) λS eb=>⟨rfl,I.turned (t':=s.toks) (λb o c e=>eb b o c e) f0 f1 f3 f4 f5⟩
 self:=λ_ _ _ _ _ st h=>by
  obtain⟨ok,ov,st⟩:=st;exact PySem.W.kcp_self st h
end
section
variable {X:Cx}{tg:Ey}
def bv (t:TE):TE:=λe H Q=>t e H λv c=>∃d b,v=.ref d/\c d=some (.dK b)/\∀ob,Q v<|upd c d<|.frz ob<|.dK b
theorem XE (h:PE X e t):PE X e (bv t):=by
 intro b s g H Q I q;refine CF (h b s g H _ I q) λv l hh=>?_;obtain⟨x,j,c,r,d,i,ex,hd,q⟩:=hh;subst ex;obtain⟨ob,f⟩:=c.freeze hd;exact⟨.ref d,_,f,r,q ob⟩
def WP (e:TE):TI:=λf H R=>e f H λv c=>∃d ob b,v=.ref d/\c d=some (.frz ob<|.dK b)/\R (aH d b ob) c
theorem M0 (hl:PE X l tl):PI X tg l (WP tl):=by
 intro j s n H R I h;refine CF (hl j s n H _ I h) λv c hh=>?_;obtain⟨x,u,g,r,d,ob,p,ex,hd,q⟩:=hh;subst ex;cases r;obtain⟨vs,C,z,f,i,y,A,_⟩:=KG<|g.hok d _ hd;have t:p.length=vs.length:=Paired.length i;refine wpAny_pyIter_dict A y ?_;have w:Inv X j n u { c with heap:=c.heap.push { cls:=.type "dict_keyiterator",data:=.fields #[.ref d,.int 0 0,.int vs.length 0,.int z 0] } }:=g.kept (t':=c.toks) λb o e=>ZC _ e;refine⟨c.heap.objs.size,[c.heap.objs.size],_,_,_,rfl,w,N9 f _,?_,λb B=>?_,q⟩
 .exact⟨_,ZK _ rfl,rfl,by rw[t];rfl⟩
 .have e:b=c.heap.objs.size:=by simpa using B
  subst e;exact g.tu (ZB _)<|g.hok.fresh<|ZB _
def Tr (e:TE):TI:=λf H R=>e f H λv c=>∃d ob b,v=.ref d/\c d=some (.frz ob<|.dK b)/\R (Wy d b ob) c
theorem k6 {f:List Ey}{i z A:Pos}(S:PE X o td)(E:Lh o "items" X.env (EV o X.env)=EV o X.env:=by rfl)(D:(z.endLine==A.line)=true:=by rfl) :
  PI X (.Tuple f x1 i) (.Call (.Attribute o "items" z) [] [] A) (Tr td):=by
 intro y s C H R I h;refine VH E D<|CF (S y s C H _ I h) λv c hh=>?_;obtain⟨x,K,B,r,d,ob,G,ex,hd,q⟩:=hh;subst ex;cases r;obtain⟨vs,T,L,g,u,n,P,_⟩:=KG<|B.hok d _ hd;have J:G.length=vs.length:=Paired.length u;have l:=n.dictOf;obtain⟨t,M,N,O,U⟩:=id n;refine⟨"dict","dict.items",F.plainAttrs_dict,L5,F.type_dict_items,l.typeIs,λb q=>by cases q;exact⟨t,N,O.2.1⟩,EH rfl<|Uj ?_⟩;refine JN L5 l.typeIs F.entry_dict_items (F.args_dict_items_1 _) (meets_dict_items (zq X.prog X.w) d P) ⟨⟨vs,l⟩,?_⟩;have j:Inv X y C K { c with heap:=c.heap.push { cls:=.type "dict_items",data:=.fields #[.ref d] } }:=B.kept (t':=c.toks) λb o e=>ZC _ e;have p:(c.heap.push { cls:=.type "dict_items",data:=.fields #[.ref d] }).DictAt (zq X.prog X.w) d vs L:=n.at' λo e=>ZC _ e;refine wpAny_pyIter_items (v:=c.heap.objs.size) (d:=d) ⟨_,ZK _ rfl,rfl,rfl⟩ p ?_;refine⟨_,[_],_,_,_,rfl,j.kept (t':=c.toks) λb o e=>ZC _ e,Mp g _,⟨_,_,by rw[J];exact ZK _ rfl⟩,λb Q=>?_,q⟩;have e:=Zv.mp Q;subst e;exact j.tu (ZB _)<|j.hok.fresh<|ZB _
section
variable {d:D1}{Dm:Dl}{ob:Obj}{g:TG}{tb:TS}{D:Ends}{σ:St}{H:Hp}
theorem Hd (b:Nat->St->Hp->Prop)(h:b 0 σ H)(hl:∀i σ H,i<=Dm.length->b i σ H->H d=some (.frz ob<|.dK Dm))
  (hs:∀i k v σ H,Dm[i]?=some (k,v)->b i σ H->g (kV k) σ H λσ2 H2=>tb { D with nx:=b<|i+1,ct:=b<|i+1,bk:=D.nx } σ2 H2) (hd:∀σ H,b Dm.length σ H->D.nx σ H):Of (aH d Dm ob) g tb D σ H :=
 OD Dm.length b h (λσ H p=>⟨hl _ σ H (ZB _) p,rfl⟩) (λi σ H c p=>⟨hl i σ H (Jb c) p,c⟩) (λi σ H c p v l y=>by
  obtain⟨e,k,x,j,f⟩:=y;subst f e;exact hs i k x σ _ j p) hd
theorem Be (b:Nat->St->Hp->Prop)(h:b 0 σ H)(hl:∀i σ H,i<=Dm.length->b i σ H->H d=some (.frz ob<|.dK Dm))
  (hs:∀i k v T σ H,Dm[i]?=some (k,v)->b i σ H->H T=none->g (.ref T) σ (upd H T<|.tup [kV k,v]) λσ2 H2=>tb { D with nx:=b<|i+1,ct:=b<|i+1,bk:=D.nx } σ2 H2) (hd:∀σ H,b Dm.length σ H->D.nx σ H):Of (Wy d Dm ob) g tb D σ H :=
 OD Dm.length b h (λσ H p=>⟨hl _ σ H (ZB _) p,rfl⟩) (λi σ H c p=>⟨hl i σ H (Jb c) p,c⟩) (λi σ H c p v n y=>by
  obtain⟨T,k,x,l,j,f,e⟩:=y;subst f e;exact hs i k x T σ H l p j) hd
end
def bc:R2:=λy x H Q=>∃a o,x=.ref a/\wO H a y o/\Q (.bl o.isSome) H
theorem XA (f:X.A.units+64<EO):CS X (EC .In) bc:=by
 intro e s j H y x v u Q I d c h;obtain⟨a,o,rfl,g,q⟩:=h;cases c;exact aN (by lia) I g d λi b=>⟨.bl _,H,b,rfl,q⟩
theorem MJ {H:Hp}{a:D1}{ob:Obj}{Dm:Dl}(e:H a=some (.frz ob<|.dK Dm)):wO H a (kV k) (UP Dm k):=.inl ⟨Dm,k,.inr ⟨ob,e⟩,rfl,rfl⟩
inductive uc (K:CB)(H:Hp)(kb:Dl):Dl->Bool->Prop
 |nil:uc K H kb [] true
 |miss {k:Key} {v:V} {r:Dl}:UP kb k=none->uc K H kb ((k,v)::r) false
 |hit {k:Key} {v y:V} {d e:Ea} {r:Dl} {b:Bool}:UP kb k=some y->Dt K H d v->Dt K H e y->EL d=true->EL e=true->uc K H kb r b->uc K H kb ((k,v)::r) (EB d e&&b)
theorem uc.keq (I:Inv X Dq σ H s)(f:X.A.in1.units+64<EO)(g:KV kb ub) :
  ∀{ka:Dl} {ua:List (Key×D2)} {b:Bool},KV ka ua->uc X.K H kb ka b->PySem.W.KeqHits X.A.in1 s ub ua b
 |[],_,_,.nil,.nil=>.nil
 |p::ka,q::ua,_,.cons r1 r2,h=>by
  obtain⟨k,v⟩:=p;obtain⟨i,u⟩:=q;obtain⟨d,n⟩:=r1;have d:k=i:=d;subst d;have c:=g.val k;cases h with
  |miss hn =>
   rw[hn]at c;cases e:L3 ub k with
   |none=>exact .miss e
   |some y=>rw[e]at c;exact c.elim
  |hit hy h1 h2 s1 s2 hr =>
   rw[hy]at c;cases e:L3 ub k with
   |none=>rw[e]at c;exact c.elim
   |some y =>
    rw[e]at c;obtain⟨o,j⟩:=Dt.zp I _ _ _ h1 n;obtain⟨bs,l⟩:=Dt.zp I _ _ _ h2 c;exact .hit e (PySem.W.keq_at j l s1 s2 f)<|uc.keq I f g r2 hr
end
section
variable {X:Cx}{K:CB}
theorem Ps (z:X.A.units+64<EO)(g:X.K=K:=by rfl):CS X (EC .NotIn) (ba K true true):=by
 subst g;intro p s B H x y v u Q I l n h;obtain⟨d,o,b,c,e,f,t,q⟩:=h;obtain⟨r,i⟩:=Dt.zp I d x v b l;obtain⟨bs,j⟩:=Dt.zp I _ y u c n;have w:min (Eo o) d.depth<=d.depth:=Nat.min_le_right _ _;exact SeqAt.notIn_tuple_reads j i e f (by lia) ⟨.bl _,H,I,rfl,by simpa using q⟩
end
section
variable {X:Cx}
theorem jX:∀{l:List (Str×Tok)} {ys:Da},l.map (·.1)=ys->yx (ys.map V.str) (strValues l)
 |[],_,h=>by rw[<-h];exact .nil
 |p::l,_,h=>by
  rw[<-h];exact .cons ⟨p.2,rfl⟩<|jX rfl
def TZ:V->Dj->Hp->VK->Prop:=λx vs H Q=>∃(a:Str) (c:Nat),x=.str a/\vs=[.str ⟨#[c]⟩]/\a.length<=100000/\∀l,H l=none->Q (.ref l) (upd H l<|.lst<|(Lp a ⟨#[c]⟩).map V.str)
theorem Hy:SJ X "str.split" TZ:=by
 intro n s y H x w v r Q I j i h;obtain⟨a,c,rfl,rfl,o,q⟩:=h;obtain⟨t,rfl⟩:=j;obtain⟨u,rfl,t',rfl⟩:=wU i;have g:a.length<=sizeLine:=An.zx (by lia);have f:((⟨#[c]⟩:Str).length==0)=false:=rfl;have p:(Lk a (EJ a ⟨#[c]⟩ 0 a.length<|a.length+1) (⟨#[c]⟩:Str).length).length<=200000:=by
  unfold Lk;have:=StrLaws.occ_length_le a ⟨#[c]⟩ 0 a.length<|a.length+1;simp only[Zu,List.length_zip,ZL,ZE,Jc];lia
 cases b:(decide (a.length<(⟨#[c]⟩:Str).length)||decide (Builtin.Str.strKind a<Builtin.Str.strKind ⟨#[c]⟩))
 .cases d:(EJ a ⟨#[c]⟩ 0 a.length<|a.length+1).isEmpty
  .have e:Lp a ⟨#[c]⟩=Lk a (EJ a ⟨#[c]⟩ 0 a.length<|a.length+1) (⟨#[c]⟩:Str).length:=(ZM<|Uk b).trans<|ZM<|Uk d;refine Vf F.slot_str_split (VC s a t) F.entry_str_split (F.args_str_split_2 _ _) (meets_str_split_sep a ⟨#[c]⟩ t t' b f d g<|An.zx<|by lia) ?_;rw[strsFrom_eq];refine⟨.ref _,_,I.oM (jX<|numbered_texts _ _) (by rw[Zu];exact An.zx<|by lia),rfl,?_⟩;rw[<-e];exact q _ I.fresh
  .have e:Lp a ⟨#[c]⟩=[a]:=(ZM<|Uk b).trans<|ZS d;rw[e]at q;refine Vf F.slot_str_split (VC s a t) F.entry_str_split (F.args_str_split_2 _ _) (meets_str_split_not_found a ⟨#[c]⟩ t t' b f d) ?_;exact⟨.ref _,_,I.oM (t':=s.toks) (jX (l:=[(a,t)]) rfl) (by show 1<=sizeLine;decide),rfl,q _ I.fresh⟩
 .have e:Lp a ⟨#[c]⟩=[a]:=ZS b;rw[e]at q;refine Vf F.slot_str_split (VC s a t) F.entry_str_split (F.args_str_split_2 _ _) (meets_str_split_cannot_occur a ⟨#[c]⟩ t t' b) ?_;exact⟨.ref _,_,I.oM (t':=s.toks) (jX (l:=[(a,t)]) rfl) (by show 1<=sizeLine;decide),rfl,q _ I.fresh⟩
def aY (K:CB):Dj->Hp->VK->Prop:=λb H Q=>∃(a:D1) (bs:List Bool),b=[.ref a]/\yj K H a (bs.map V.bl)/\Q (.bl<|bs.any id) H
theorem On {K:CB}(p:X.calm=true)(n:X.K=K:=by rfl):xg X (.builtin "any") (aY K):=by
 subst n;intro z s M H L J Q I r h;obtain⟨a,bs,rfl,o,q⟩:=h;obtain⟨u,rfl,x⟩:=wU r;cases x;obtain⟨c,y,w,E⟩:=I.list o;have g:=FL y;have hl:=w.isList;have f:a<s.heap.objs.size:=by obtain⟨_,e,_⟩:=hl;exact ZR e
 refine call_any_walk<|J9 hl ?_;refine⟨s.heap.objs.size,[s.heap.objs.size,a],[s.heap.objs.size],c.toArray.size,_,_,λi=>(bs[i]?).getD false,rfl,Walks.list (A:=X.A.in1) (I.ok.hd p) _ a (ZX f) c.toArray,⟨⟨_,ZK _ rfl,rfl,rfl⟩,hl.push _⟩,λi v F C B d j=>?_,λD G t=>?_⟩
 .have d:c[i]?=some v:=by simpa using d
  rw[g,ZF]at d;cases e:bs[i]? with
  |none=>rw[e]at d;cases d
  |some b =>
   rw[e]at d;have d:LN b=v:=Option.some.inj d;subst d;simp only[e,V6]at j;exact Ju j
 .have l:c.length=bs.length:=by rw[g,Zu]
  have e:((Ef c.toArray.size).any λi=>(bs[i]?).getD false)=bs.any id:=by
   rw[ZV,l];exact PyProof.Rows.LSm.range_any bs
  rw[e];exact⟨.bl _,H,I.kept<|PyProof.Rows.LSm.kept_iter t,rfl,q⟩
theorem Pf {K:CB}(b:X.K=K:=by rfl):SJ X "str.join" (rJoin K):=by
 subst b;exact BT
theorem Ht (x:Str)(c:Nat)(t u:Tok)(d:EJ x ⟨#[c]⟩ 0 x.length 1=[]):Meets (Builtin.«str.partition» ⟨[.str x t,.str ⟨#[c]⟩ u],[]⟩)
  (λ_ R s=>R (.ok<|.ret<|.ref s.heap.objs.size) { s with heap:=s.heap.push { cls:=.type "tuple",data:=.seq #[.str x t,.str LR s.toks,.str LR s.toks] },toks:=s.toks+1 }) :=
 .of_wp λprog w A R s h=>by
  obtain⟨b,e⟩:=partition_tree x ⟨#[c]⟩ t u;rw[e,ZM<|show¬((⟨#[c]⟩:Str).length==0)=true from(by show¬(1==0)=true;decide),d];refine Zt<|Vg ?_;refine Zt<|wpAny_mkStr ?_<|Yf _;refine Zt (wpAny_newTuple ?_ (by show 3<=sizeLine;decide));exact Zy ⟨_,rfl,h⟩
def P6:V->Dj->Hp->VK->Prop:=λx vs H Q=>∃(u:Str) (c:Nat),x=.str u/\vs=[.str ⟨#[c]⟩]/\c∉An.cs u/\∀p,H p=none->Q (.ref p) (upd H p<|.tup [.str u,.str "",.str ""])
def TY:V->Dj->Hp->VK->Prop:=λx vs H Q=>SS x vs H Q\/P6 x vs H Q
theorem G0:SJ X "str.partition" P6:=by
 intro j s p H x n v l Q I i g h;obtain⟨a,c,rfl,rfl,e,q⟩:=h;obtain⟨t,rfl⟩:=i;obtain⟨w,rfl,t',rfl⟩:=wU g;have f:EJ a ⟨#[c]⟩ 0 a.length 1=[]:=by
  rcases StrLaws.occ_head_from a ⟨#[c]⟩ 0 1 (ZB 1) with⟨h0,d⟩|⟨k,r,h0,hlo,hk,d⟩
  .exact h0
  .have b:=(L4 _ c k).mp hk;have b:(An.cs a)[k]?=some c:=b;exact absurd (ZN b) e
 refine Vf F.slot_str_partition (VC s _ t) F.entry_str_partition (F.args_str_partition_2 _ _) (Ht _ c t t' f) ?_;have d:H s.heap.objs.size=none:=I.hok.fresh<|ZB _;refine⟨.ref s.heap.objs.size,_,I.laid (t':=s.toks+1) (a:=s.heap.objs.size) (o:=.tup [.str a,.str "",.str ""]) (λ_ _ q=>ZC _ q) (ZB _) ?_,rfl,q _ d⟩;exact⟨by show 3<=sizeLine;decide,_,.cons ⟨_,rfl⟩<|.cons ⟨_,rfl⟩<|.cons ⟨_,rfl⟩ .nil,⟨_,ZK _ rfl,rfl,_,rfl,rfl⟩⟩
theorem GV:SJ X "str.partition" TY:=by
 intro b s g H x f v e Q I d c h
 rcases h with h|h
 .exact kO b s g H x f v e Q I d c h
 .exact G0 b s g H x f v e Q I d c h
end
end L2
namespace An
open PySem L2
def U7 (c:Nat):Bool:=decide (32<=c)&&decide (c<=126)&&decide (c≠37)
def UZ (x:Str):Bool:=decide (x.length<=20)&&(cs x).all U7
def Xc (c:Nat):Bool:=decide (97<=c)&&decide (c<=122)
def zU (x:Str):Bool:=decide (1<=x.length)&&decide (x.length<=8)&&(cs x).all Xc
def Xe:Ea->Bool
 | .str x=>UZ x
 |_=>false
def uK:Ea->Bool
 | .tuple ds=>ds.all Xe
 |_=>false
def jY:Ea->Bool
 | .str x=>zU x
 |_=>false
def Xj:Ea->Bool
 | .str _=>true
 |_=>false
def Xl:Ea->Bool
 | .tuple [l,n]=>jY l&&Xj n
 |_=>false
mutual
def small:Ea->Bool
 | .str x=>decide (x.length<=1000)
 | .list ds=>decide (ds.length<=1000)&&yC ds
 | .tuple ds=>decide (ds.length<=1000)&&yC ds
 |_=>true
def yC:Df->Bool
 |[]=>true
 |d::ds=>small d&&yC ds
end
theorem yX:∀{ds:Df} {i:Nat} {d:Ea},yC ds=true->ds[i]?=some d->small d=true
 |[],_,_,_,h=>by cases h
 |e::ds,0,d,h,q=>by
  have h:(small e&&yC ds)=true:=h;have q:e=d:=Option.some.inj q;rw[ZG]at h;rw[<-q];exact h.1
 |e::ds,i+1,d,h,q=>by
  have h:(small e&&yC ds)=true:=h;rw[ZG]at h;exact yX h.2 (by simpa using q)
theorem qI {b:Df}(h:small (.tuple b)=true):b.length<=1000/\yC b=true:=by
 have h:(decide (b.length<=1000)&&yC b)=true:=h;rw[ZG]at h;exact⟨ZJ h.1,h.2⟩
theorem O6 (a c:Nat):[a]<[c]↔a<c:=by
 rw[YV];constructor
 .rintro(h|⟨_,h⟩)
  .exact h
  .exact absurd h (by simp)
 .exact .inl
theorem Fv {p q:Prop} [Decidable p] [Decidable q](h:¬p↔q):(!decide p)=decide q:=by
 by_cases b:p
 .rw[Zz b,ZP<|λz=>h.mpr z b];rfl
 .rw[ZP b,Zz<|h.mp b];rfl
theorem OX (c a:Nat)(x:Str)(b:x.cps.toList=[a]):(!decide ((⟨#[c]⟩:Str).cps.toList<x.cps.toList))=decide (a<=c):=by
 rw[b];exact Fv (by show¬[c]<[a]↔_;rw[O6];lia)
theorem one_le (c a:Nat)(x:Str)(b:x.cps.toList=[a]):(!decide (x.cps.toList<(⟨#[c]⟩:Str).cps.toList))=decide (c<=a):=by
 rw[b];exact Fv (by show¬[a]<[c]↔_;rw[O6];lia)
def Rg:Sp:=λvs H Q _=>∃c:Nat,vs=[.str ⟨#[c]⟩]/\Q (.bl<|U7 c) H
def FD (K:CB):Sp:=λvs H Q _=>∃(d:Ea) (v:V),vs=[v]/\Dw K H d v/\small d=true/\∀b,zy H b->Q (.bl<|Xe d) b
def FE (K:CB):Sp:=λvs H Q _=>∃(d:Ea) (v:V),vs=[v]/\Dw K H d v/\small d=true/\∀b,zy H b->Q (.bl<|uK d) b
def Iz (K:CB):Sp:=λvs H Q _=>∃(d:Ea) (v:V),vs=[v]/\Dw K H d v/\small d=true/\∀b,zy H b->Q (.bl<|jY d) b
def SX (K:CB):Sp:=λvs H Q _=>∃(d:Ea) (v:V),vs=[v]/\Dw K H d v/\small d=true/\∀b,zy H b->Q (.bl<|Xl d) b
theorem y9 {α:Type}{l:List α}{f:α->Bool}{i:Nat}{c:α}(h:l[i]?=some c):(l.take<|i+1).map f=(l.take i).map f++[f c]:=by
 rw[Ym,h,ZH];rfl
theorem Os {x:Str}{i c:Nat}(h:x.cps[i]?=some c):(cs x)[i]?=some c:=by rw[<-h];simp
theorem all_map (l:List α)(f:α->Bool):(l.map f).all id=l.all f:=by
 rw[List.all_map];rfl
theorem XM {d:Ea}(b:d.canLay0=true)(c:d.depth<=60):EL d=true:=by
 show(PyData.canLay0 d&&decide (PyData.depth d<=64))=true;rw[b,Zz<|by lia];rfl
structure En where
 h:Str
 n:Nat
 d:Ea
abbrev Di:=List En
def dot:Str:=⟨#[46]⟩
theorem Ow:(".":Str)=dot:=by decide+kernel
def En.nm (e:En):Str:=e.h++dot++U4 e.n
def yd (S:Di)(h:Str):Option Nat:=S.foldl (λb e=>if e.h=h then some (max (b.getD 0)<|e.n+1) else b) none
theorem X3 (S:Di)(e:En)(h:Str):yd (S++[e]) h=if e.h=h then some (max ((yd S h).getD 0)<|e.n+1) else yd S h:=by
 unfold yd;rw[JP];rfl
structure pK (e:En):Prop where
 key:Xv e.d
 free:46∉cs e.h
 num:e.n<1000000
 hl:e.h.length<=100
structure vR (S:Di):Prop where
 ent:∀e∈S,pK e
 nd:(S.map (·.d)).Nodup
 nn:(S.map En.nm).Nodup
 len:S.length<=2000
theorem vR.nil:vR []:=⟨λ_ h=>(nomatch h),YN,YN,Yf _⟩
theorem vR.snoc (g:vR S)(h:pK e)(b:e.d∉S.map (·.d))(c:e.nm∉S.map En.nm)(f:S.length<2000):vR (S++[e]) :=
 ⟨Pc g.ent h,by rw[ZH];exact qD g.nd b,by rw[ZH];exact qD g.nn c,by rw[ZE,Yi];lia⟩
def Off (fp:Dd)(H H':Hp):Prop:=∀b o,b∉fp->H b=some o->H' b=some o
theorem Off.refl (fp:Dd)(H:Hp):Off fp H H:=λ_ _ _ h=>h
theorem Off.trans (a:Off fp H H1)(b:Off fp H1 H2):Off fp H H2:=λc o n h=>b c o n<|a c o n h
theorem Off.of (s:zy H H'):Off fp H H':=λb o _ h=>s b o h
theorem Off.upd {a:D1}{o:HO}(h:Off fp H H')(m:a∈fp):Off fp H (L2.upd H' a o):=λb u n e=>by
 have ne:b≠a:=λz=>n (by rwa[z]);rw[zH ne];exact h b u n e
def OB (b c d:D1):List (Str×V):=[("thing_by_name",.ref b),("name_by_thing",.ref c),("next_numbers",.ref d)]
def vN (H:Hp)(fp:Dd):Prop:=∀b∈fp,∃o,H b=some o/\(∀c,o≠.tup c)/\(∀c,o≠.lst c)/\∀u v,o≠.frz u v
structure yg (P:D3)(w:D6)(K:CB)(C:D1)(H:Hp)(a:D1)(fp:Dd)(S:Di):Prop where
 good:vR S
 at_:∃(dx d1 d2 d3:D1) (ts:Dd) (nx:Dl),fp=[a,dx,d1,d2,d3]/\(fp).Nodup/\H a=some (.ins C dx<|OB d1 d2 d3)/\H dx=some (.own a)/\ts.length=S.length /\
  H d1=some (.dK<|(S.zip ts).map λe=>((D8 e.1.nm:Key),V.ref e.2))/\qj P w K H d2 (S.map λe=>(e.d,V.str e.nm)) /\
  H d3=some (.dK nx)/\nx.length<=S.length/\(∀h,UP nx (D8 h:Key)=(yd S h).map λn:Nat=>V.int (n:Int)) /\
  ∀(i:Nat) (e:En) (t:D1),S[i]?=some e->ts[i]?=some t->Dt K H e.d (.ref t)
theorem HQ {H:Hp}{b:D1}{o:HO}(h:H b=some o)(c:∀xs,o≠.tup xs)(d:∀u v,o≠.frz u v):∀xs,¬Rd H b (.tup xs):=λxs z=>by
 rcases z with z|⟨u,z⟩
 .rw[h]at z;exact c xs<|Option.some.inj z
 .rw[h]at z;exact d u _<|Option.some.inj z
mutual
theorem Dt.off {K:CB}{fp:Dd}(n:∀b∈fp,∀xs,¬Rd H b (.tup xs))(o:Off fp H H'):∀(k:Ea) (v:V),Xb k=true->Dt K H k v->Dt K H' k v
 | .str x,_,_,h=>h
 | .tuple ds,_,t,⟨a,xs,h1,c,h3⟩=>by
  refine⟨a,xs,h1,?_,zc.off n o ds xs t h3⟩
  rcases c with c|c
  .have ne:a∉fp:=λz=>n a z xs c
   rcases c with c|⟨u,c⟩
   .exact .inl (.inl<|o a _ ne c)
   .exact .inl (.inr ⟨u,o a _ ne c⟩)
  .exact .inr c
 | .none,_,_,h=>h
 | .bool _,_,t,_=>by cases t
 | .int _,_,t,_=>by cases t
 | .list _,_,t,_=>by cases t
 | .dict _,_,t,_=>by cases t
theorem zc.off {K:CB}{fp:Dd}(n:∀b∈fp,∀xs,¬Rd H b (.tup xs))(o:Off fp H H'):∀(ks:Df) (vs:Dj),yS ks=true->zc K H ks vs->zc K H' ks vs
 |[],_,_,h=>h
 |k::ks,_,t,⟨x,r,h1,h2,h3⟩=>by
  have t:(Xb k&&yS ks)=true:=t;rw[ZG]at t;exact⟨x,r,h1,Dt.off n o k x t.1 h2,zc.off n o ks r t.2 h3⟩
end
theorem qj.off {K:CB}{fp:Dd}{d:D1}(n:∀b∈fp,∀xs,¬Rd H b (.tup xs))(o:Off fp H H')(e:H' d=H d)(T:qj P w K H d ps):qj P w K H' d ps:=by
 obtain⟨hl,f,nd,xs,g,r⟩:=T;refine⟨hl,f,nd,xs,by rw[e];exact g,?_⟩;have key:∀{ps:List (Ea×V)} {xs:List (Ea×D1×D2)},(∀p∈ps,Xv p.1)->E5 (wQ K H) ps xs->E5 (wQ K H') ps xs:=by
  intro ps xs c r
  induction r with
  |nil=>exact .nil
  |cons r1 _ ih=>exact .cons ⟨r1.1,Dt.off n o _ _ (c _ Zx).1 r1.2.1,r1.2.2⟩<|ih λp h=>c p<|Zw _ h
 exact key f r
theorem yg.off {K:CB}{fp gp:Dd}(n:∀b∈gp,∀xs,¬Rd H b (.tup xs))(o:Off gp H H')(r:∀b∈fp,b∉gp)(h:yg P w K C H a fp S):yg P w K C H' a fp S:=by
 obtain⟨g,j,c,d,f,F,nx,rfl,nd,s,v,x,y,p,z,A,B,D⟩:=h;have k:∀b u,b∈[a,j,c,d,f]->H b=some u->H' b=some u:=λb u m e=>o b u (r b m) e;obtain⟨xs,l,_⟩:=p.2.2.2;refine⟨g,j,c,d,f,F,nx,rfl,nd,k _ _ (by simp) s,k _ _ (by simp) v,x,k _ _ (by simp) y,qj.off n o ?_ p,k _ _ (by simp) z,A,B,λi e t q E=>Dt.off n o _ _ (g.ent e<|ZN q).key.1<|D i e t q E⟩;rw[l];exact k _ _ (by simp) l
theorem yg.same {K:CB}(s:zy H H')(h:yg P w K C H a fp S):yg P w K C H' a fp S :=
 h.off (gp:=[]) (λb m=>(nomatch m)) (Off.of s) (λb _=>by simp)
theorem yg.ye {K:CB}(h:yg P w K C H a fp S):vN H fp:=by
 obtain⟨g,p,l,n,o,u,nx,rfl,nd,d,e,q,f,i,j,r,s,t⟩:=h;obtain⟨v,c,_⟩:=i.2.2.2;intro b m;simp only[ZI,Y4,Ua]at m
 rcases m with rfl|rfl|rfl|rfl|rfl
 .exact⟨_,d,λ_ z=>(nomatch z),λ_ z=>(nomatch z),λ_ _ z=>(nomatch z)⟩
 .exact⟨_,e,λ_ z=>(nomatch z),λ_ z=>(nomatch z),λ_ _ z=>(nomatch z)⟩
 .exact⟨_,f,λ_ z=>(nomatch z),λ_ z=>(nomatch z),λ_ _ z=>(nomatch z)⟩
 .exact⟨_,c,λ_ z=>(nomatch z),λ_ z=>(nomatch z),λ_ _ z=>(nomatch z)⟩
 .exact⟨_,j,λ_ z=>(nomatch z),λ_ z=>(nomatch z),λ_ _ z=>(nomatch z)⟩
theorem vN.tup (h:vN H fp):∀b∈fp,∀xs,¬Rd H b (.tup xs):=λb m xs=>by
 obtain⟨o,e,n1,_,n2⟩:=h b m;exact HQ e n1 n2 xs
theorem kM {κ:Type} [DecidableEq κ]{Dm:List (κ×V)}{k:κ}{v:V}(h:k∉Dm.map (·.1)):yr Dm k v=Dm++[(k,v)]:=by
 unfold yr;rw[ZM];intro z;obtain⟨c,b,e⟩:=Yq.mp z;exact h<|ZA.mpr ⟨c,b,ZJ e⟩
theorem uD {κ:Type} [DecidableEq κ]:∀{Dm:List (κ×V)} {k:κ} {v:V},(Dm.map (·.1)).Nodup->(k,v)∈Dm->UP Dm k=some v
 |[],_,_,_,h=>(nomatch h)
 |p::r,k,v,nd,h=>by
  rw[ZT,Yl]at nd;unfold UP;rw[YG]
  rcases ZI.mp h with e|h
  .subst e;rw[Zz<|show((k,v):κ×V).1=k from rfl];rfl
  .rw[ZP<|show¬p.1=k from λz=>nd.1<|ZA.mpr ⟨(k,v),h,z.symm⟩];exact uD nd.2 h
theorem SR (e:En):cs e.nm=cs e.h++46::cs (U4 e.n):=by
 unfold En.nm;rw[zu,zu];show cs e.h++[46]++cs (U4 e.n)=_;simp
theorem Pm (h:U4 m=U4 n):m=n:=by
 have b:cs (U4 m)=cs (U4 n):=by rw[h]
 have e:=VY m;have f:=VY n;have c:=PySem.W.KIN.val_back m;have d:=PySem.W.KIN.val_back n;rw[<-e]at c;rw[<-f]at d;have b:(ED<|Lb ((m:Nat):Int)).cps.toList=(ED<|Lb ((n:Nat):Int)).cps.toList:=b;rw[b]at c;exact c.symm.trans d
theorem Nf:∀{a b r s:List Nat},¬(46∈a)->¬(46∈b)->a++46::r=b++46::s->a=b/\r=s
 |[],[],r,s,_,_,h=>⟨rfl,by injection h⟩
 |[],y::b,r,s,_,hb,h=>by
  injection h with c d;exact absurd (by rw[<-c];exact Zx) hb
 |x::a,[],r,s,ha,_,h=>by
  injection h with c d;exact absurd (by rw[c];exact Zx) ha
 |x::a,y::b,r,s,ha,hb,h=>by
  injection h with c d;obtain⟨e,f⟩:=Nf (λz=>ha<|Zw _ z) (λz=>hb<|Zw _ z) d;exact⟨by rw[c,e],f⟩
theorem TH {e f:En}(he:46∉cs e.h)(d:46∉cs f.h)(h:e.nm=f.nm):e.h=f.h/\e.n=f.n:=by
 have:=congrArg cs h;rw[SR,SR]at this;obtain⟨b,c⟩:=Nf he d this;exact⟨xq b,Pm<|xq c⟩
theorem R6:∀{S:Di} {e:En},e∈S->e.n<(yd S e.h).getD 0:=by
 have key:∀(S:Di) (b:Option Nat) (h:Str),b.getD 0<=(S.foldl (λb e=>if e.h=h then some (max (b.getD 0)<|e.n+1) else b) b).getD 0/\∀e∈S,e.h=h->e.n<(S.foldl (λb e=>if e.h=h then some (max (b.getD 0)<|e.n+1) else b) b).getD 0:=by
  intro S
  induction S with
  |nil=>intro b h;exact⟨ZB _,λe he=>(nomatch he)⟩
  |cons f S ih =>
   intro b h;rw[JK];obtain⟨d,g⟩:=ih (if f.h=h then some (max (b.getD 0)<|f.n+1) else b) h;have mono:b.getD 0<=(if f.h=h then some (max (b.getD 0)<|f.n+1) else b).getD 0:=by
    split
    .exact Nat.le_max_left _ _
    .exact ZB _
   refine⟨Yn mono d,λe he c=>?_⟩
   rcases ZI.mp he with rfl|he
   .rw[ZS c]at d ⊢;have:e.n+1<=(some<|max (b.getD 0)<|e.n+1).getD 0:=Nat.le_max_right _ _;lia
   .exact g e he c
 intro S e he;exact(key S none e.h).2 e he rfl
theorem Ph (g:vR S){h:Str}{d:Ea}(f:46∉cs h):(En.mk h ((yd S h).getD 0) d).nm∉S.map En.nm:=λz=>by
 obtain⟨e,he,q⟩:=ZA.mp z;obtain⟨b,c⟩:=TH (g.ent e he).free f q;have:=R6 he;have b:e.h=h:=b;have c:e.n=(yd S h).getD 0:=c;rw[b]at this;lia
def dig (n:Nat):Str:=ED<|Lb ((n:Nat):Int)
def enc (p:Str):List Nat:=cs (dig p.length)++58::cs p
inductive Th where
 |leaf (ls:Da)
 |tree (Dp:Dg)
 |note (t:Str) (ps:Da) (w:Str)
def yA:Dg->Da
 |[]=>[]
 |r::rs=>r.1::r.2::yA rs
theorem qP:∀(a b:Dg),yA (a++b)=yA a++yA b
 |[],_=>rfl
 |(x,y)::a,b=>by
  show x::y::yA (a++b)=x::y::(yA a++yA b);rw[qP a b]
def Th.word:Th->Str
 | .leaf _=>"leaf"|.tree _=>"tree"|.note _ _ _=>"note"
def Th.letter:Th->Str
 | .leaf _=>"L"|.tree _=>"T"|.note _ _ _=>"N"
def Th.parts:Th->Da
 | .leaf ls=>ls
 | .tree Dp=>yA Dp
 | .note t ps w=>[t,dig ps.length]++ps++[w]
def counted (p:Str):Str:=dig p.length++":"++p
def more (x p:Str):Str:=x++dig p.length++":"++p
def Th.sp (t:Th):Str:=t.parts.foldl more t.letter
theorem FW:cs (":":Str)=[58]:=by decide+kernel
theorem Kz (p:Str):cs (counted p)=enc p:=by
 unfold counted enc;rw[zu,zu,FW];simp
theorem RK (x p:Str):cs (more x p)=cs x++enc p:=by
 unfold more enc;rw[zu,zu,zu,FW];simp
theorem FX:∀(ps:Da) (x:Str),cs (ps.foldl more x)=cs x++ps.flatMap enc
 |[],x=>by simp
 |p::ps,x=>by
  rw[JK,FX ps,RK,Jx,Ys]
theorem WH (t:Th):cs t.sp=cs t.letter++t.parts.flatMap enc:=FX _ _
theorem W9 (t:Th):t.letter++Lc "" (t.parts.map counted)=t.sp:=by
 apply xq
 rw[zu,WH];have e:cs (Lc ""<|t.parts.map counted)=t.parts.flatMap enc:=by
  show cs (Builtin.Str.glued ""<|t.parts.map counted)=_;rw[E2];rw[kC,List.flatMap_map]
  congr 1
  funext p
  exact Kz p
 rw[e]
theorem jU (t:Th):cs t.letter=[match t with|.leaf _=>76|.tree _=>84|.note _ _ _=>78]:=by
 cases t
 .show cs ("L":Str)=[76]
  decide+kernel
 .show cs ("T":Str)=[84]
  decide+kernel
 .show cs ("N":Str)=[78]
  decide+kernel
def WJ (n:Int)(c:Nat):Int:=(31*n+c) % 97
def dg (x:Str):Int:=(cs x).foldl WJ 0
def zm (r:Str×Str):PyData:=.tuple [.str r.1,.str r.2]
def Th.dat:Th->Ea
 | .leaf ls=>.tuple [.str "leaf",.tuple<|ls.map .str]
 | .tree Dp=>.tuple [.str "tree",.tuple<|Dp.map zm]
 | .note t ps w=>.tuple [.str "note",.str t,.tuple<|ps.map .str,.str w]
theorem F4:∀(a b:Dg),EQ (a.map zm) (b.map zm)=decide (a=b)
 |[],[]=>rfl
 |[],_::_=>rfl
 |_::_,[]=>rfl
 |(x,y)::a,(z,w)::b=>by
  show(((x==z)&&((y==w)&&true))&&EQ (a.map zm) (b.map zm))=_;rw[F4 a b,YL];simp[and_assoc]
theorem q9 {x y:Str}{xs b:Df}(h:(x==y)=false):EB (.tuple (.str x::xs)) (.tuple (.str y::b))=false:=by
 show((x==y)&&EQ xs b)=false;rw[h];rfl
theorem MG (a b:Th):EB a.dat b.dat=true↔a=b:=by
 have c:(("leaf":Str)=="tree")=false:=by decide+kernel
 have d:(("leaf":Str)=="note")=false:=by decide+kernel
 have e:(("tree":Str)=="leaf")=false:=by decide+kernel
 have f:(("tree":Str)=="note")=false:=by decide+kernel
 have g:(("note":Str)=="leaf")=false:=by decide+kernel
 have h:(("note":Str)=="tree")=false:=by decide+kernel
 cases a with
 |leaf ls =>
  cases b with
  |leaf ms =>
   show((("leaf":Str)=="leaf")&&(EQ (ls.map .str) (ms.map .str)&&true))=true↔_;rw[kA];simp
  |tree _ =>
   exact VQ (λz=>absurd ((q9 c).symm.trans z) Yc) (λz=>by cases z)
  |note _ _ _ =>
   exact VQ (λz=>absurd ((q9 d).symm.trans z) Yc) (λz=>by cases z)
 |tree rs =>
  cases b with
  |leaf ms =>
   exact VQ (λz=>absurd ((q9 e).symm.trans z) Yc) (λz=>by cases z)
  |tree qs =>
   show((("tree":Str)=="tree")&&(EQ (rs.map zm) (qs.map zm)&&true))=true↔_;rw[F4];simp
  |note _ _ _ =>
   exact VQ (λz=>absurd ((q9 f).symm.trans z) Yc) (λz=>by cases z)
 |note t ps w =>
  cases b with
  |leaf ms =>
   exact VQ (λz=>absurd ((q9 g).symm.trans z) Yc) (λz=>by cases z)
  |tree qs =>
   exact VQ (λz=>absurd ((q9 h).symm.trans z) Yc) (λz=>by cases z)
  |note t' ps' w' =>
   show((("note":Str)=="note")&&((t==t')&&(EQ (ps.map .str) (ps'.map .str)&&((w==w')&&true))))=true↔_;rw[kA];simp
def Th.Good (t:Th):Prop:=t.parts.length<=1000/\∀p∈t.parts,Ok 1000 p
theorem IM (x:Str):0<=dg x/\dg x<97:=by
 unfold dg;have:∀(l:List Nat) (n:Int),(0<=n/\n<97)->0<=l.foldl WJ n/\l.foldl WJ n<97:=by
  intro l
  induction l with
  |nil=>intro n h;exact h
  |cons c l ih =>
   intro n _;rw[JK];refine ih _ ?_;unfold WJ;lia
 exact this _ 0 ⟨by decide,by decide⟩
theorem Pn (x:Str):ED (Lb<|dg x)=U4 (dg x).toNat:=by
 unfold U4;rw[Int.toNat_of_nonneg (IM x).1]
theorem HC {n:Nat}(h:n<97):(U4 n).length<=10:=JW (by lia) (by decide) (by
 have:n<10 ^ 9:=by lia
 lia)
theorem SK (x:Str)(n:Nat):cs (Le x none<|some (n:Int))=(cs x).take n:=by
 by_cases h:n<=x.length
 .have e:=V5 (Ub (x:=x) (j:=(n:Int)) (by lia)<|by lia);rw[e];show((x.cps.toList.drop (0:Int).toNat).take ((n:Int)-0).toNat).toArray.toList=_;simp[cs]
 .have e:=V5 (Ub (x:=x) (j:=(x.length:Int)) (by lia)<|by lia);rw[PyProof.Rows.slice_to_beyond<|by lia,e];have hl:(cs x).length<=n:=by rw[<-zf];lia
  rw[JA hl];show((x.cps.toList.drop (0:Int).toNat).take ((x.length:Int)-0).toNat).toArray.toList=_;have:((x.length:Int)-0).toNat=x.cps.toList.length:=by simp[Str.length]
  rw[this];show(x.cps.toList.take x.cps.toList.length)=cs x;rw[Ya]
theorem snoc_ind {α:Type}{p:List α->Prop}(h0:p [])(h1:∀l x,p l->p (l++[x]))(l:List α):p l:=by
 have:∀l:List α,p l.reverse:=by
  intro l
  induction l with
  |nil=>exact h0
  |cons x l ih=>rw[List.reverse_cons];exact h1 _ _ ih
 have:=this l.reverse
 rwa[List.reverse_reverse]at this
theorem oG (S:Di)(h:Str):(yd S h).getD 0=0\/∃e∈S,e.h=h/\e.n+1=(yd S h).getD 0:=by
 induction S using snoc_ind with
 |h0=>exact .inl rfl
 |h1 S e ih =>
  rw[X3]
  by_cases q:e.h=h
  .rw[ZS q];show max ((yd S h).getD 0) (e.n+1)=0\/_
   rcases Nat.le_total ((yd S h).getD 0) (e.n+1) with z|z
   .exact .inr ⟨e,by simp,q,(Nat.max_eq_right z).symm⟩
   .have d:max ((yd S h).getD 0) (e.n+1)=(yd S h).getD 0:=Nat.max_eq_left z
    rcases ih with i|⟨f,c,h1,b⟩
    .exact .inl (d.trans i)
    .exact .inr ⟨f,by simp[c],h1,b.trans d.symm⟩
  .rw[ZM q]
   rcases ih with i|⟨f,c,h1,b⟩
   .exact .inl i
   .exact .inr ⟨f,by simp[c],h1,b⟩
theorem MS {S:Di}(b:∀e∈S,e.n<S.length)(h:Str):(yd S h).getD 0<=S.length:=by
 rcases oG S h with i|⟨f,c,_,d⟩
 .lia
 .have:=b f c;lia
theorem KY (n:Nat):D9 (U4 n)=true:=by
 rw[yJ];intro c b;have b:c∈(ED<|Lb ((n:Nat):Int)).cps.toList:=b;rw[VY]at b;obtain⟨d,hd,rfl⟩:=ZA.mp b;show d.val.toNat<1114112
 rcases d.valid with h|⟨_,h⟩
 .exact UH h (by decide)
 .exact h
theorem KZ {x y:Str}(d:D9 x=true)(e:D9 y=true):D9 (x++y)=true:=by
 rw[yJ]at *;intro c b;rw[zu,ZZ]at b;exact b.elim (d c)<|e c
theorem Oj (xs:Da)(x:Str):(xs.map Eu).any (λy=>EB y<|.str x)=decide (x∈xs):=by
 induction xs with
 |nil=>rfl
 |cons y xs ih =>
  show((y==x)||(xs.map Eu).any (λy=>EB y<|.str x))=_;rw[ih,YL,Ud,ZQ,ZQ,ZI,Jy];exact⟨λh=>h.elim (λz=>.inl z.symm) .inr,λh=>h.elim (λz=>.inl z.symm) .inr⟩
theorem TF {S:Di}(nd:(S.map (·.d)).Nodup){e f:En}(he:e∈S)(j:f∈S)(h:e.d=f.d):e=f:=by
 induction S with
 |nil=>cases he
 |cons x S ih =>
  rw[ZT,Yl]at nd
  rcases ZI.mp he with i|c
  .rcases ZI.mp j with g|b
   .rw[i,g]
   .exact absurd (ZA.mpr ⟨f,b,by rw[<-i];exact h.symm⟩) nd.1
  .rcases ZI.mp j with g|b
   .exact absurd (ZA.mpr ⟨e,c,by rw[<-g];exact h⟩) nd.1
   .exact ih nd.2 c b
def Ex (H:Hp)(X:Dd):Prop:=∀c∈X,∃o,H c=some o
section
variable {P:D3}{w:D6}{K:CB}{C:D1}{H H' H0:Hp}{S:Di}
theorem yg.ex (h:yg P w K C H a fp S):Ex H fp:=λc b=>by
 obtain⟨o,e,_⟩:=h.ye c b;exact⟨o,e⟩
end
def U3 (t:Th):Str:=t.letter++U4 (dg t.sp).toNat
def G2 (S:Di)(t:Th):En:=⟨U3 t,(yd S<|U3 t).getD 0,t.dat⟩
theorem IZ (t:Th):t.letter.length=1:=by rw[zf,jU];rfl
theorem Hl (t:Th):46∉cs t.letter:=by
 rw[jU];cases t
 .show 46∉[76];decide
 .show 46∉[84];decide
 .show 46∉[78];decide
theorem jG (t:Th):46∉cs (U3 t):=by
 unfold U3;rw[zu,ZZ,not_or];exact⟨Hl t,λh=>(PyProof.Rows.intText_free_46 _).mp h⟩
theorem j9 (t:Th):(U3 t).length<=100:=by
 unfold U3;have b:=HC (n:=(dg t.sp).toNat) (by have:=IM t.sp;lia);rw[yt,IZ];lia
theorem NS (t:Th):D9 t.letter=true:=by
 rw[yJ,jU];intro c b;rw[Zv.mp b];cases t
 .show 76<1114112;decide
 .show 84<1114112;decide
 .show 78<1114112;decide
theorem Gs:∀{ls:Da},(∀l∈ls,D9 l=true)->yS (ls.map .str)=true/\xL (ls.map .str)=0
 |[],_=>⟨rfl,rfl⟩
 |l::ls,h=>by
  obtain⟨b,c⟩:=Gs λx d=>h x<|Zw _ d;refine⟨?_,?_⟩
  .show(D9 l&&yS (ls.map .str))=true;rw[h l Zx,b];rfl
  .show max 0 (xL<|ls.map .str)=0;rw[c];rfl
theorem Kl:∀{rs:Dg},(∀p∈yA rs,D9 p=true)->yS (rs.map zm)=true/\xL (rs.map zm)<=1
 |[],_=>⟨rfl,Yf _⟩
 |(x,y)::rs,h=>by
  obtain⟨b,d⟩:=Kl (rs:=rs) λp c=>h p<|Zw _<|Zw _ c;refine⟨?_,?_⟩
  .show((D9 x&&(D9 y&&true))&&yS (rs.map zm))=true;rw[h x Zx,h y<|Zw _ Zx,b];rfl
  .show max (max 0 (max 0 0)+1) (xL<|rs.map zm)<=1;lia
theorem BN {t:Th}(g:t.Good):Xv t.dat:=by
 have c:∀p∈t.parts,D9 p=true:=λp e=>(g.2 p e).ok;cases t with
 |leaf ls =>
  obtain⟨b,d⟩:=Gs (ls:=ls) c;refine⟨?_,?_⟩
  .show(D9 "leaf"&&(yS (ls.map .str)&&true))=true;rw[b];decide+kernel
  .show max 0 (max (xL (ls.map .str)+1) 0)+1<=6;rw[d];decide
 |tree rs =>
  obtain⟨b,d⟩:=Kl (rs:=rs) c;refine⟨?_,?_⟩
  .show(D9 "tree"&&(yS (rs.map zm)&&true))=true;rw[b];decide+kernel
  .show max 0 (max (xL (rs.map zm)+1) 0)+1<=6;lia
 |note x ps y =>
  have f:∀p∈ps,D9 p=true:=λp e=>c p (by show p∈[x,dig ps.length]++ps++[y];simp[e]);have h:D9 x=true:=c x (by show x∈[x,dig ps.length]++ps++[y];simp);have i:D9 y=true:=c y (by show y∈[x,dig ps.length]++ps++[y];simp);obtain⟨b,d⟩:=Gs f;refine⟨?_,?_⟩
  .show(D9 "note"&&(D9 x&&(yS (ps.map .str)&&(D9 y&&true))))=true;rw[b,h,i];decide+kernel
  .show max 0 (max 0<|max (xL (ps.map .str)+1)<|max 0 0)+1<=6;rw[d];decide
theorem RM {a b:Th}(h:a.dat=b.dat):a=b:=(MG a b).mp (by
 rw[h];exact(MG b b).mpr rfl)
def X1 (e:En):Prop:=∃t:Th,e.d=t.dat/\t.Good/\e.h=U3 t
def Nn (e:En):Str:=match e.d with|.tuple (.str x::_)=>x|_=>""
theorem Rv (t:Th)(h:Str)(n:Nat):Nn ⟨h,n,t.dat⟩=t.word:=by cases t<;>rfl
theorem jK {e:En}{t:Th}(h:e.d=t.dat):Nn e=t.word:=by
 obtain⟨a,b,c⟩:=e;have h:c=t.dat:=h;subst h;exact Rv t a b
def z9 (S:Di)(x:Str)(b:Da):Bool:=S.any λe=>decide (e.nm=x)&&decide (Nn e∈b)
def namesOk (S:Di):Th->Bool
 | .leaf _=>true
 | .tree Dp=>Dp.all λr=>z9 S r.2 ["leaf","tree"]
 | .note t ps _=>z9 S t ["tree"]&&ps.all λp=>z9 S p ["note"]
theorem IB (g:vR S){e:En}(he:e∈S)(l:Da):z9 S e.nm l=decide (Nn e∈l):=by
 unfold z9;rw[YL,Yq,ZQ];constructor
 .rintro⟨f,n,h⟩;rw[ZG,ZQ,ZQ]at h;obtain⟨i,o,b⟩:=Z8.mp he;obtain⟨j,p,c⟩:=Z8.mp n;have:i=j:=by
   have d:=Vq.mp g.nn
   rcases VP i j with z|z|z
   .exact absurd (by rw[Yb,Yb,b,c];exact h.1.symm) (d i j (by rwa[Zu]) (by rwa[Zu]) z)
   .exact z
   .exact absurd (by rw[Yb,Yb,b,c];exact h.1) (d j i (by rwa[Zu]) (by rwa[Zu]) z)
  subst this;rw[<-b,c];exact h.2
 .intro h;exact⟨e,he,by rw[Zz rfl,Zz h];rfl⟩
theorem OF {S:Di}{x:Str}(h:x∉S.map En.nm)(b:Da):z9 S x b=false:=by
 unfold z9;rw[Us];intro e he z;rw[ZG,ZQ]at z;exact h<|ZA.mpr ⟨e,he,z.1⟩
theorem qV {T:Di}(h:z9 S x ws=true):z9 (S++T) x ws=true:=by
 unfold z9 at *;rw[List.any_append,h];rfl
def Wc:Str:=⟨#[47]⟩
theorem XS:("/":Str)=Wc:=by decide+kernel
def jn:List (List Nat)->List Nat
 |[]=>[]
 |[x]=>x
 |x::y::r=>x++47::jn (y::r)
def CT:List Nat->List (List Nat)
 |[]=>[[]]
 |c::r=>if c=47 then[]::CT r else match CT r with
  |[]=>[[c]]
  |p::ps=>(c::p)::ps
theorem XO:∀l,CT l≠[]
 |[]=>by simp[CT]
 |c::r=>by
  unfold CT
  split
  .simp
  .split<;>simp
theorem Ij {x:List Nat}{r:List (List Nat)}(h:r≠[]):jn (x::r)=x++47::jn r:=by
 cases r with
 |nil=>exact absurd rfl h
 |cons y r=>rfl
theorem GO:∀l,jn (CT l)=l
 |[]=>rfl
 |c::r=>by
  have b:=GO r;unfold CT
  split
  .rename_i e;rw[Ij<|XO r,b,e];rfl
  .cases q:CT r with
   |nil=>exact absurd q<|XO r
   |cons p ps =>
    rw[q]at b;cases ps with
    |nil=>show c::p=_;rw[show p=r from b]
    |cons y ps =>
     show(c::p)++47::jn (y::ps)=_;rw[<-b];rfl
theorem FG:∀(a b:List Nat),CT (a++47::b)=CT a++CT b
 |[],b=>by
  show(if 47=47 then[]::CT b else _)=[[]]++CT b;rw[ZS rfl];rfl
 |c::a,b=>by
  have d:=FG a b;show CT (c::(a++47::b))=_;rw[CT,CT,d]
  split
  .rfl
  .cases q:CT a with
   |nil=>exact absurd q<|XO a
   |cons p ps=>rfl
theorem IU:∀{p:List Nat},47∉p->CT p=[p]
 |[],_=>rfl
 |c::p,h=>by
  have b:=IU (p:=p) λz=>h<|Zw _ z;unfold CT;rw[ZM<|λz=>h (by rw[z];exact Zx),b]
theorem Mm:∀{ps:List (List Nat)},ps≠[]->(∀p∈ps,47∉p)->CT (jn ps)=ps
 |[],h,_=>absurd rfl h
 |[p],_,h=>IU<|h p Zx
 |p::q::r,_,h=>by
  rw[Ij<|by simp,FG,IU<|h p Zx,Mm (ps:=q::r) (by simp) λx b=>h x<|Zw _ b];rfl
theorem KM:∀{a b:List (List Nat)},a≠[]->b≠[]->jn (a++b)=jn a++47::jn b
 |[],_,h,_=>absurd rfl h
 |[x],b,_,hb=>Ij hb
 |x::y::r,b,_,hb=>by
  show x++47::jn ((y::r)++b)=(x++47::jn (y::r))++47::jn b;rw[KM (a:=y::r) (by simp) hb];simp
theorem ON:∀{ps:List (List Nat)} {p:List Nat},p∈ps->p.length<=(jn ps).length
 |[],_,h=>by cases h
 |[x],p,h=>by rw[Zv.mp h];exact ZB _
 |x::y::r,p,h=>by
  show _<=(x++47::jn (y::r)).length;rw[ZE,ZL]
  rcases ZI.mp h with rfl|h
  .lia
  .have:=ON h;lia
theorem OM:∀{ps:List (List Nat)},ps.length<=(jn ps).length+1
 |[]=>by simp
 |[x]=>by simp
 |x::y::r=>by
  show _<=(x++47::jn (y::r)).length+1;have:=OM (ps:=y::r);have b:(x++47::jn (y::r)).length=x.length+((jn (y::r)).length+1):=by rw[ZE,ZL]
  have c:(x::y::r).length=(y::r).length+1:=ZL;lia
theorem Px {l p:List Nat}:(∃t,l=p++47::t)↔∃i,i+1<(CT l).length/\p=jn ((CT l).take<|i+1):=by
 constructor
 .rintro⟨t,rfl⟩;rw[FG];have b:0<(CT p).length:=JX.mpr<|XO p;have c:0<(CT t).length:=JX.mpr<|XO t;refine⟨(CT p).length-1,by rw[ZE];lia,?_⟩;rw[show(CT p).length-1+1=(CT p).length by lia,List.take_left,GO]
 .rintro⟨i,d,rfl⟩;refine⟨jn<|(CT l).drop<|i+1,?_⟩;rw[<-KM,YW,GO]
  .intro z;have:=congrArg List.length z;rw[Z3,Jc]at this;lia
  .intro z;have:=congrArg List.length z;rw[Jp,Jc]at this;lia
def Wu (l:List Nat):Str:=⟨l.toArray⟩
theorem pW (l:List Nat):cs (Wu l)=l:=by simp[Wu,cs]
theorem nW (x:Str):Wu (cs x)=x:=xq<|pW _
theorem xT:∀ys:Da,cs (Lc "/" ys)=jn (ys.map cs):=by
 intro ys;have e:Lc "/" ys=Mi "/" ys:=E2 "/" ys;rw[e];clear e
 induction ys with
 |nil=>rfl
 |cons x r ih =>
  cases r with
  |nil=>rfl
  |cons y r =>
   show cs (x++"/"++Mi "/" (y::r))=cs x++47::jn ((y::r).map cs);have:cs ("/":Str)=[47]:=by decide+kernel
   rw[zu,zu,ih,this];simp
theorem Rh (x:Str):Lp x "/"=(CT<|cs x).map Wu:=by
 have c:cs (Mi "/"<|Lp x "/")=cs x:=by rw[StrLaws.join_split]
 have e:Lc "/" (Lp x "/")=Mi "/" (Lp x "/"):=E2 "/" _;rw[<-e,xT]at c;have b:Lp x "/"≠[]:=by
  unfold Lp
  split
  .simp
  .split
   .simp
   .unfold Lk;intro z;have:=congrArg List.length z;simp at this
 have d:=Mm (ps:=(Lp x "/").map cs) (by simpa using b) (λp g=>by
  obtain⟨y,f,rfl⟩:=ZA.mp g;rw[XS]at f;exact StrLaws.split_free x 47 y f)
 rw[c]at d;rw[d,ZY];have:(Wu∘cs)=(id:Str->Str):=funext nW;rw[this,VI]
def UW (x:Str):Da:=Lp x "/"
theorem jN (x:Str):(UW x).map cs=CT (cs x):=by
 unfold UW;rw[Rh,ZY];have:(cs∘Wu)=(id:List Nat->List Nat):=funext pW;rw[this,VI]
theorem Hi {y:Str}(h:y∈UW x):y.length<=x.length:=by
 rw[zf,zf,<-GO (cs x),<-jN];exact ON<|Ul h
theorem Gm (x:Str):(UW x).length<=x.length+1:=by
 have:=OM (ps:=CT<|cs x);rw[GO,<-jN,Zu]at this;rwa[zf]
theorem OT (x:Str):0<(UW x).length:=by
 have:=JX.mpr<|XO<|cs x;rw[<-jN,Zu]at this;exact this
theorem qW {c:Da}(h:c≠[])(g:∀y∈c,47∉cs y):UW (Lc "/" c)=c:=by
 have:(UW<|Lc "/" c).map cs=c.map cs:=by
  rw[jN,xT,Mm<|by simpa using h];intro p i;obtain⟨y,j,rfl⟩:=ZA.mp i;exact g y j
 have inj:∀{a b:Da},a.map cs=b.map cs->a=b:=by
  intro a
  induction a with
  |nil =>
   intro b e;cases b with
   |nil=>rfl
   |cons _ _=>cases e
  |cons x a ih =>
   intro b e;cases b with
   |nil=>cases e
   |cons y b =>
    rw[ZT,ZT]at e;injection e with d f;rw[xq d,ih f]
 exact inj this
def Py (x:Str):Bool:=decide ((UW x).length<=4)&&(UW x).all zU
def HI:Ea->Bool
 | .str x=>Py x
 |_=>false
theorem xG (h:zU y=true):47∉cs y:=by
 unfold zU at h;rw[ZG]at h;intro z;exact absurd (Z9.mp h.2 47 z) (by decide)
theorem N0 {b:Da}(c:b≠[])(d:b.length<=4)(h:∀y∈b,zU y=true):Py (Lc "/" b)=true:=by
 unfold Py;rw[qW c λy e=>xG<|h y e,Zz d,Z9.mpr h];rfl
def G1 (x:Str):Da:=(Ef<|(UW x).length-1).map λi=>Lc "/"<|(UW x).take<|i+1
def Xr (p q:Str):Bool:=Txt.startswith q<|p++"/"
theorem MX:Xr p q=true↔∃t,cs q=cs p++47::t:=by
 unfold Xr Txt.startswith;rw[StrLaws.subAt_eq,List.drop_zero,VO,ZG,Yh,Jy];have e:(p++"/":Str).cps.toList=cs p++[47]:=by
  have:cs ("/":Str)=[47]:=by decide+kernel
  show cs (p++"/")=_;rw[zu,this]
 have b:(p++"/":Str).length=(cs p).length+1:=by
  rw[zf];show(cs<|p++"/").length=_;rw[show cs (p++"/")=cs p++[47] from e,ZE];rfl
 rw[e,b];constructor
 .rintro⟨d,c⟩;refine⟨(cs q).drop<|(cs p).length+1,?_⟩;have:=YW ((cs p).length+1)<|cs q;rw[c,Ys]at this;exact this.symm
 .rintro⟨t,h⟩;rw[zf,h];refine⟨by simp,?_⟩;show(cs q).take _=_;rw[h];rw[show cs p++47::t=(cs p++[47])++t by simp];rw[List.take_left'<|by simp]
theorem su {p:Str}:p∈G1 q↔Xr p q=true:=by
 rw[MX,Px];unfold G1;rw[ZA];have hl:(CT<|cs q).length=(UW q).length:=by rw[<-jN,Zu]
 constructor
 .rintro⟨i,b,rfl⟩;have:=Y0.mp b;refine⟨i,by lia,?_⟩;rw[xT,UB,jN]
 .rintro⟨i,b,h⟩;refine⟨i,Y0.mpr<|by lia,xq ?_⟩;rw[xT,UB,jN,h]
theorem Pw (p t:Str):Xr p (p++"/"++t)=true:=by
 rw[MX];refine⟨cs t,?_⟩;have:cs ("/":Str)=[47]:=by decide+kernel
 rw[zu,zu,this];simp
abbrev Fi:=Da×Da
abbrev Dk:=List Fi
def CD (ls:Da):Str:=Lc "/" ls
structure wZ (S:Di):Prop where
 good:vR S
 th:∀e∈S,X1 e
 num:∀e∈S,e.n<S.length
def At (S:Di)(x:Str)(t:Th):Prop:=∃e∈S,e.nm=x/\e.d=t.dat
section
variable {S T:Di}{x y:Str}{t u:Th}
theorem Pj (g:(S.map En.nm).Nodup){e f:En}(he:e∈S)(b:f∈S)(h:e.nm=f.nm):e=f:=by
 obtain⟨i,c,rfl⟩:=Z8.mp he;obtain⟨j,d,rfl⟩:=Z8.mp b;have:=(YQ (h₀:=by simpa using c) (h₁:=by simpa using d) g).mp (by rwa[Yb,Yb]);subst this;rfl
theorem At.thing (g:wZ S)(h:At S x t)(k:At S x u):t=u:=by
 obtain⟨e,he,rfl,hd⟩:=h;obtain⟨f,c,fn,b⟩:=k;have:=Pj g.good.nn c he fn;subst this;exact RM<|hd.symm.trans b
theorem At.name (g:wZ S)(h:At S x t)(k:At S y t):x=y:=by
 obtain⟨e,he,rfl,hd⟩:=h;obtain⟨f,c,rfl,b⟩:=k;rw[TF g.good.nd he c<|hd.trans b.symm]
theorem At.more (h:At S x t):At (S++T) x t:=let ⟨e,he,a⟩:=h;⟨e,Yw _ he,a⟩
theorem At.mem (h:At S x t):x∈S.map En.nm:=let ⟨e,he,a,_⟩:=h;ZA.mpr ⟨e,he,a⟩
end
noncomputable def S6 (S:Di)(x:Str):Option Th:=open Classical in if h:∃t,At S x t then some (choose h) else none
theorem FI (g:wZ S)(h:At S x t):S6 S x=some t:=by
 unfold S6;have ex:∃t,At S x t:=⟨t,h⟩;rw[dif_pos ex];exact congrArg some<|At.thing g (Classical.choose_spec ex) h
noncomputable def zp:Nat->Di->Str->Dk
 | 0,_,_=>[]
 |d+1,S,x=>match S6 S x with
  |some (.leaf ls)=>[([],ls)]
  |some (.tree Dp)=>Dp.flatMap λr=>(zp d S r.2).map λf=>(r.1::f.1,f.2)
  |_=>[]
theorem yP {ls:Da}{d:Nat}(g:wZ S)(h:At S x<|.leaf ls):zp (d+1) S x=[([],ls)]:=by
 show(match S6 S x with|some (.leaf ls)=>[([],ls)]|some (.tree Dp)=>_|_=>_)=_;rw[FI g h]
theorem yL {Dp:Dg}{d:Nat}(g:wZ S)(h:At S x<|.tree Dp):zp (d+1) S x=Dp.flatMap λr=>(zp d S r.2).map λf=>(r.1::f.1,f.2):=by
 show(match S6 S x with|some (.leaf ls)=>[([],ls)]|some (.tree Dp)=>_|_=>_)=_;rw[FI g h]
def CV (a b:Str):Prop:=cs a<cs b
def Tree:Nat->Di->Str->Prop
 | 0,_,_=>False
 |d+1,S,x=>(∃ls,At S x<|.leaf ls)\/∃b,At S x (.tree b)/\(b.map (·.1)).Pairwise CV/\∀r∈b,zU r.1=true/\Tree d S r.2/\zp d S r.2≠[]
theorem Tree.more {S T:Di}(g:wZ<|S++T)(b:wZ S):∀{d:Nat} {x:Str},Tree d S x->Tree d (S++T) x/\zp d (S++T) x=zp d S x
 | 0,_,h=>absurd h<|λz=>z
 |d+1,x,h=>by
  rcases h with⟨ls,h⟩|⟨Dp,h,so,hr⟩
  .exact⟨.inl ⟨ls,h.more⟩,by rw[yP g h.more,yP b h]⟩
  .have c:∀r∈Dp,Tree d (S++T) r.2/\zp d (S++T) r.2=zp d S r.2:=λr m=>Tree.more g b (hr r m).2.1;refine⟨.inr ⟨Dp,h.more,so,λr m=>⟨(hr r m).1,(c r m).1,by rw[(c r m).2];exact(hr r m).2.2⟩⟩,?_⟩;rw[yL g h.more,yL b h];rw[Vo,Vo]
   congr 1
   exact Yu λr m=>by rw[(c r m).2]
theorem Tree.mem (h:Tree d S x):x∈S.map En.nm:=by
 cases d with
 |zero=>exact absurd h<|λz=>z
 |succ d =>
  rcases h with⟨ls,h⟩|⟨Dp,h,_⟩
  .exact h.mem
  .exact h.mem
theorem O5:∀{a b:List Nat} (s t:List Nat),(∀c∈b,47<c)->(s=[]\/∃r,s=47::r)->a<b->a++s<b++t
 |[],[],_,_,_,_,h=>absurd h<|VR _
 |[],c::b,s,t,hb,hs,_=>by
  rcases hs with rfl|⟨r,rfl⟩
  .exact List.nil_lt_cons _ _
  .exact YV.mpr (.inl<|hb c<|Zx ..)
 |_::_,[],_,_,_,_,h=>absurd h<|List.not_lt_nil _
 |x::a,y::b,s,t,hb,hs,h=>by
  rcases YV.mp h with d|⟨e,d⟩
  .exact YV.mpr (.inl d)
  .exact YV.mpr (.inr ⟨e,O5 s t (λc f=>hb c<|Zw _ f) hs d⟩)
theorem xR (l:Str){p:Da}(h:p≠[]):cs (CD (l::p))=cs l++47::cs (CD p):=by
 unfold CD;rw[xT,xT,ZT,Ij<|by simpa using h]
theorem kF (l:Str):cs (CD [l])=cs l:=by
 unfold CD;rw[xT];rfl
theorem HJ (l:Str)(p:Da):∃s,cs (CD (l::p))=cs l++s/\(s=[]\/∃r,s=47::r):=by
 by_cases h:p=[]
 .subst h;exact⟨[],by rw[kF,ZW],.inl rfl⟩
 .exact⟨_,xR l h,.inr ⟨_,rfl⟩⟩
theorem OR (h:zU l=true):∀c∈cs l,47<c:=λc b=>by
 unfold zU at h;rw[ZG]at h;have:=Z9.mp h.2 c b;unfold Xc at this;rw[ZG,Yh]at this;lia
theorem TU (p q:Da)(c:zU m=true)(h:CV l m):CV (CD (l::p)) (CD (m::q)):=by
 obtain⟨s,e,d⟩:=HJ l p;obtain⟨t,b,_⟩:=HJ m q;unfold CV;rw[e,b];exact O5 s t (OR c) d h
theorem Ol:∀(a:List Nat) {s t:List Nat},s<t->a++s<a++t
 |[],_,_,h=>h
 |x::a,_,_,h=>YV.mpr<|.inr ⟨rfl,Ol a h⟩
theorem TV {l:Str}{p q:Da}(b:p≠[])(c:q≠[])(h:CV (CD p)<|CD q):CV (CD (l::p)) (CD (l::q)):=by
 unfold CV;rw[xR l b,xR l c];exact Ol _<|YV.mpr<|.inr ⟨rfl,h⟩
theorem Tree.rise (g:wZ S):∀{d:Nat} {x:Str},Tree d S x->(zp d S x).Pairwise (λf h=>CV (CD f.1)<|CD h.1)/\((∃ls,zp d S x=[([],ls)])\/∀f∈zp d S x,f.1≠[])
 | 0,_,h=>absurd h<|λz=>z
 |d+1,x,h=>by
  rcases h with⟨ls,h⟩|⟨Dp,h,so,hr⟩
  .rw[yP g h];exact⟨VJ _ _,.inl ⟨ls,rfl⟩⟩
  .rw[yL g h];refine⟨?_,.inr λf e=>?_⟩
   .rw[Vo,List.pairwise_flatten];refine⟨λl hl=>?_,?_⟩
    .obtain⟨r,j,rfl⟩:=ZA.mp hl;obtain⟨q,c⟩:=Tree.rise g (hr r j).2.1;rw[Y9]
     rcases c with⟨ls,c⟩|c
     .rw[c];exact VJ _ _
     .exact q.imp_of_mem λ{a b} n i z=>TV (c a n) (c b i) z
    .rw[Y9];rw[Y9]at so;refine so.imp_of_mem λ{a b} n i z f e k p=>?_;obtain⟨o,_,rfl⟩:=ZA.mp e;obtain⟨s,_,rfl⟩:=ZA.mp p;exact TU _ _ (hr b i).1 z
   .obtain⟨r,_,e⟩:=Y5.mp e;obtain⟨o,_,rfl⟩:=ZA.mp e;exact Yy _ _
theorem R4 (h:CV a b)(k:CV b a):False:=List.lt_asymm h k
theorem MR (h:CV a b):a≠b:=λz=>by subst z;exact VR _ h
theorem N5 {l m:Dk}(c:l.Pairwise<|λf h=>CV (CD f.1)<|CD h.1)(d:m.Pairwise<|λf h=>CV (CD f.1)<|CD h.1)(e:∀f,f∈l↔f∈m):l=m:=by
 have nd:∀{l:Dk},l.Pairwise (λf h=>CV (CD f.1)<|CD h.1)->l.Nodup:=λ{l} h=>Yd.mpr (h.imp λ{a b} z q=>by subst q;exact VR _ z);exact Vv (λa b _ _ z q=>absurd q<|λq=>R4 z q) c d ((JE (nd c)<|nd d).mpr e)
theorem Bt (A:∀{x y:Str},Tree d S x->Tree d S y->zp d S x=zp d S y->x=y):∀{a b:Dg},(a.map (·.1)).Pairwise CV->(b.map (·.1)).Pairwise CV ->
  (∀r∈a,Tree d S r.2/\zp d S r.2≠[])->(∀r∈b,Tree d S r.2/\zp d S r.2≠[]) ->
  (a.flatMap λr=>(zp d S r.2).map λf=>((r.1::f.1,f.2):Fi))=(b.flatMap λr=>(zp d S r.2).map λf=>((r.1::f.1,f.2):Fi))->a=b
 |[],[],_,_,_,_,_=>rfl
 |[],s::b,_,_,_,hb,e=>by
  rw[UE,Jx]at e;have:=(List.append_eq_nil_iff.mp e.symm).1;exact absurd (List.map_eq_nil_iff.mp this) (hb s<|Zx ..).2
 |r::a,[],_,_,ha,_,e=>by
  rw[UE,Jx]at e;have:=(List.append_eq_nil_iff.mp e).1;exact absurd (List.map_eq_nil_iff.mp this) (ha r<|Zx ..).2
 |r::a,s::b,oa,ob,ha,hb,e=>by
  obtain⟨j,n⟩:=ha r<|Zx ..;obtain⟨p,t⟩:=hb s<|Zx ..;rw[ZT,VE]at oa ob;rw[Jx,Jx]at e;have g:r.1=s.1:=by
   cases B:zp d S r.2 with
   |nil=>exact absurd B n
   |cons f fs =>
    cases C:zp d S s.2 with
    |nil=>exact absurd C t
    |cons k ks =>
     rw[B,C]at e;have:=congrArg List.head? e;have:(some ((r.1::f.1,f.2):Fi))=some (s.1::k.1,k.2):=this;have:=congrArg Prod.fst<|Option.some.inj this;exact(List.cons.inj this).1
  have key:∀{c:Dg} {z:Str×Str} {l:Str},z.1=l->(∀y∈c.map (·.1),CV l y)->(((zp d S z.2).map λf=>((z.1::f.1,f.2):Fi))++c.flatMap λr=>(zp d S r.2).map λf=>((r.1::f.1,f.2):Fi)).filter (λf=>decide (f.1.head?=some l))=(zp d S z.2).map λf=>((z.1::f.1,f.2):Fi):=by
   intro c z l F J;rw[JF,List.filter_eq_self.mpr,List.filter_eq_nil_iff.mpr,ZW]
   .intro f h q;obtain⟨w,i,h⟩:=Y5.mp h;obtain⟨G,_,rfl⟩:=ZA.mp h;have:some w.1=some l:=ZJ q;have:=Option.some.inj this;exact MR (J w.1<|ZA.mpr ⟨w,i,rfl⟩) this.symm
   .intro f h;obtain⟨G,_,rfl⟩:=ZA.mp h;exact Zz<|congrArg some F
  have u:=congrArg (List.filter (λf:Fi=>decide (f.1.head?=some r.1))) e;rw[key rfl oa.1,key g.symm (by rw[g];exact ob.1),g]at u;have v:zp d S r.2=zp d S s.2:=by
   refine(List.map_inj_right λf k z=>?_).mp u;have H:=congrArg Prod.fst z;have I:=congrArg Prod.snd z;exact LG (List.cons.inj H).2 I
  have D:=A j p v;rw[g,v]at e;have E:=List.append_cancel_left e;have:=Bt A oa.2 ob.2 (λw i=>ha w<|Zw _ i) (λw i=>hb w<|Zw _ i) E;have o:r=s:=LG g D;rw[this,o]
theorem Tree.one (g:wZ S):∀{d:Nat} {x y:Str},Tree d S x->Tree d S y->zp d S x=zp d S y->x=y
 | 0,_,_,h,_,_=>absurd h<|λz=>z
 |d+1,x,y,h,k,e=>by
  have no:∀{b:Dg} {ls:Da},(b.flatMap λr=>(zp d S r.2).map λf=>((r.1::f.1,f.2):Fi))≠[([],ls)]:=λ{b ls} z=>by
   have:(([],ls):Fi)∈(b.flatMap λr=>(zp d S r.2).map λf=>((r.1::f.1,f.2):Fi)):=by rw[z];exact Zv.mpr rfl
   obtain⟨r,_,c⟩:=Y5.mp this;obtain⟨l,_,q⟩:=ZA.mp c;exact absurd (congrArg Prod.fst q)<|Yy _ _
  rcases h with⟨ls,h⟩|⟨b,h,so,hr⟩<;>rcases k with⟨ls',k⟩|⟨rows',k,so',hr'⟩
  .rw[yP g h,yP g k]at e;have:=congrArg Prod.snd (List.cons.inj e).1;have this:ls=ls':=this;subst this;exact h.name g k
  .rw[yP g h,yL g k]at e;exact absurd e.symm no
  .rw[yL g h,yP g k]at e;exact absurd e no
  .rw[yL g h,yL g k]at e;have:=Bt (λi j z=>Tree.one g i j z) so so' (λr m=>(hr r m).2) (λr m=>(hr' r m).2) e;subst this;exact h.name g k
noncomputable def CN (S:Di)(t:Th):List En×Str:=open Classical in if h:∃x,At S x t then(S,choose h) else(S++[G2 S t],(G2 S t).nm)
section
variable {S T:Di}{x:Str}{t:Th}
theorem Fy (g:wZ S)(h:At S x t):CN S t=(S,x):=by
 unfold CN;have ex:∃x,At S x t:=⟨x,h⟩;rw[dif_pos ex];exact congrArg (Prod.mk S)<|At.name g (Classical.choose_spec ex) h
theorem HL (h:∀e∈S,e.d≠t.dat):CN S t=(S++[G2 S t],(G2 S t).nm):=by
 unfold CN;rw[dif_neg];rintro⟨x,e,he,_,hd⟩;exact h e he hd
theorem Tm {e:En}(h:e.h=U3 t)(d:e.n<1000000):Ok 1000 e.nm:=by
 refine⟨?_,?_⟩
 .have b:=j9 t;have c:(U4 e.n).length<=10:=JW (by lia) (by decide) (by
   have:e.n<10 ^ 9:=by lia
   lia)
  unfold En.nm;rw[yt,yt,h];have:dot.length=1:=rfl;lia
 .unfold En.nm;rw[h];exact KZ (KZ (KZ (NS t)<|KY _)<|by decide+kernel)<|KY _
theorem wZ.nm (g:wZ S){e:En}(he:e∈S):Ok 1000 e.nm:=by
 obtain⟨t,_,_,h⟩:=g.th e he;exact Tm h (g.good.ent e he).num
theorem wZ.snoc (g:wZ S)(b:t.Good)(l:S.length<2000)(h:∀e∈S,e.d≠t.dat):wZ (S++[G2 S t]):=by
 have c:=MS g.num<|U3 t;refine⟨g.good.snoc ⟨BN b,jG t,?_,j9 t⟩ (λz=>?_) (Ph g.good<|jG t) l,λe he=>?_,λe he=>?_⟩
 .show(yd S<|U3 t).getD 0<1000000;lia
 .obtain⟨e,he,hd⟩:=ZA.mp z;exact h e he hd
 .rcases ZZ.mp he with z|z
  .exact g.th e z
  .rw[Zv.mp z];exact⟨t,rfl,b,rfl⟩
 .rw[ZE,Yi]
  rcases ZZ.mp he with z|z
  .have:=g.num e z;lia
  .rw[Zv.mp z];show(yd S<|U3 t).getD 0<_;lia
theorem Fz (g:wZ S)(b:t.Good)(l:S.length<2000):wZ (CN S t).1/\At (CN S t).1 (CN S t).2 t/\(CN S t).1.length<=S.length+1/\∃T,(CN S t).1=S++T/\∀e∈T,e.nm=(CN S t).2:=by
 by_cases z:∃x,At S x t
 .obtain⟨x,h⟩:=z;rw[Fy g h];exact⟨g,h,J4 _,[],(ZW _).symm,λe he=>(nomatch he)⟩
 .have h:∀e∈S,e.d≠t.dat:=λe he hd=>z ⟨e.nm,e,he,rfl,hd⟩;rw[HL h];exact⟨g.snoc b l h,⟨_,Z5 _<|Zv.mpr rfl,rfl,rfl⟩,by rw[ZE];exact ZB _,[G2 S t],rfl,λe he=>by rw[Zv.mp he]⟩
end
noncomputable def met:Nat->Di->Str->Da
 | 0,_,_=>[]
 |d+1,S,x=>x::match S6 S x with
  |some (.tree Dp)=>Dp.flatMap λr=>met d S r.2
  |_=>[]
theorem Gu {ls:Da}{d:Nat}(g:wZ S)(h:At S x<|.leaf ls):met (d+1) S x=[x]:=by
 show x::(match S6 S x with|some (.tree Dp)=>_|_=>_)=_;rw[FI g h]
theorem k7 {Dp:Dg}{d:Nat}(g:wZ S)(h:At S x<|.tree Dp):met (d+1) S x=x::Dp.flatMap λr=>met d S r.2:=by
 show x::(match S6 S x with|some (.tree Dp)=>_|_=>_)=_;rw[FI g h]
theorem Pe {x:Str}{d:Nat}:x∈met (d+1) S x:=Zx ..
theorem Tree.uq {S T:Di}(g:wZ<|S++T)(b:wZ S):∀{d:Nat} {x:Str},Tree d S x->met d (S++T) x=met d S x
 | 0,_,h=>absurd h<|λz=>z
 |d+1,x,h=>by
  rcases h with⟨ls,h⟩|⟨Dp,h,so,hr⟩
  .rw[Gu g h.more,Gu b h]
  .rw[k7 g h.more,k7 b h,Vo,Vo]
   congr 2
   exact Yu λr m=>Tree.uq g b (hr r m).2.1
def Ws (a b:Str×Str):Bool:=!decide (cs b.1<cs a.1)
def U6 (Dp:Dg):Dg:=Dp.mergeSort Ws
theorem vX:Ws a b=true↔cs a.1<=cs b.1:=by
 unfold Ws;rw[JQ,YZ];exact Vh
theorem HY (Dp:Dg):(U6 Dp).Pairwise (λa b=>Ws a b=true) :=
 List.pairwise_mergeSort (le:=Ws) (λa b c d e=>vX.mpr<|List.le_trans (vX.mp d)<|vX.mp e) (λa b=>by
  rw[Ud,vX (a:=a) (b:=b),vX (a:=b) (b:=a)];exact List.le_total _ _) Dp
theorem xD (Dp:Dg):(U6 Dp).Perm Dp:=List.mergeSort_perm Dp Ws
theorem HX {Dp:Dg}(nd:(Dp.map (·.1)).Nodup):((U6 Dp).map (·.1)).Pairwise CV:=by
 have c:((U6 Dp).map (·.1)).Nodup:=((xD Dp).map _).nodup_iff.mpr nd;have d:((U6 Dp).map (·.1)).Pairwise (λa b=>cs a<=cs b):=Y9.mpr<|(HY Dp).imp λ{a b} h=>vX.mp h;exact(d.and<|Yd.mp c).imp λ{a b} h=>by
  by_cases z:cs a<cs b
  .exact z
  .exact absurd (xq<|UF h.1<|Vh.mp z) h.2
theorem Rf {Dp f:Dg}(nd:(Dp.map (·.1)).Nodup)(p:f.Perm Dp)(q:f.Pairwise<|λa b=>cs a.1<=cs b.1):f=U6 Dp:=by
 refine Vv (le:=λa b=>cs a.1<=cs b.1) (λa b c d g l=>?_) q ((HY Dp).imp λ{a b} h=>vX.mp h) (p.trans (xD Dp).symm);have e:=xq<|UF g l;have c:=p.mem_iff.mp c;have d:=(xD Dp).mem_iff.mp d;obtain⟨i,n,rfl⟩:=Z8.mp c;obtain⟨j,o,rfl⟩:=Z8.mp d;have:=(YQ (h₀:=by simpa using n) (h₁:=by simpa using o) nd).mp (by rwa[Yb,Yb]);subst this;rfl
theorem qB {α c:Type}{f:α->c}{l:List α}(h:(l.map f).Nodup):l.Nodup:=by
 rw[Yd]at h ⊢;rw[Y9]at h;exact h.imp λ{a b} n e=>n (by rw[e])
def U2 (ls:Da):Prop:=ls.length<=63/\∀l∈ls,UZ l=true
structure yu (d:Nat)(fs:Dk):Prop where
 wH:∀f∈fs,f.1≠[]/\f.1.length<=d/\(∀l∈f.1,zU l=true)/\U2 f.2
 nd:(fs.map (·.1)).Nodup
 pre:∀f∈fs,∀k∈fs,∀t,k.1=f.1++t->t=[]
def CJ (fs:Dk):List (Str×Da):=fs.filterMap λf=>match f.1 with
 |[a]=>some (a,f.2)
 |_=>none
def Xn (l:Str)(f:Fi):Option Fi:=match f.1 with
 |a::b::r=>if a=l then some (b::r,f.2) else none
 |_=>none
def sub (fs:Dk)(l:Str):Dk:=fs.filterMap<|Xn l
def xU (L:Da)(p:Str):Da:=if p∈L then L else L++[p]
def CL (fs:Dk):Da:=fs.foldl (λL f=>match f.1 with
 |a::_::_=>xU L a
 |_=>L) []
theorem KS {q:Str}:q∈xU L p↔q∈L\/q=p:=by
 unfold xU
 split
 .rename_i h;exact⟨.inl,λz=>z.elim id<|λz=>z▸h⟩
 .rw[ZZ,Zv]
theorem No {L:Da}(h:L.Nodup):(xU L p).Nodup:=by
 unfold xU
 split
 .exact h
 .rename_i z;exact qD h z
theorem jF (fs:Dk)(f:Fi):CL (fs++[f])=match f.1 with
 |a::_::_=>xU (CL fs) a
 |_=>CL fs:=by
 unfold CL;rw[JP];rfl
theorem y8 (fs:Dk):(CL fs).Nodup/\∀l,l∈CL fs↔∃f∈fs,∃b r,f.1=l::b::r:=by
 induction fs using snoc_ind with
 |h0=>exact⟨YN,λl=>⟨λh=>(nomatch h),λ⟨f,d,_⟩=>(nomatch d)⟩⟩
 |h1 fs f ih =>
  rw[jF];have old:∀l,(∃k∈fs++[f],∃b r,k.1=l::b::r)↔(∃k∈fs,∃b r,k.1=l::b::r)\/∃b r,f.1=l::b::r:=λl=>by
   constructor
   .rintro⟨k,c,z⟩
    rcases ZZ.mp c with q|q
    .exact .inl ⟨k,q,z⟩
    .rw[Zv.mp q]at z;exact .inr z
   .rintro(⟨k,c,z⟩|z)
    .exact⟨k,Yw _ c,z⟩
    .exact⟨f,Z5 _<|Zv.mpr rfl,z⟩
  match e:f.1 with
  |[]=>exact⟨ih.1,λl=>by rw[old,ih.2,e];exact⟨.inl,λz=>z.elim id λ⟨b,r,z⟩=>(nomatch z)⟩⟩
  |[a]=>exact⟨ih.1,λl=>by rw[old,ih.2,e];exact⟨.inl,λz=>z.elim id λ⟨b,r,z⟩=>(nomatch z)⟩⟩
  |a::b::r =>
   refine⟨No ih.1,λl=>?_⟩;show l∈xU (CL fs) a↔_;rw[KS,ih.2,old,e];exact or_congr Iff.rfl ⟨λz=>⟨b,r,by rw[z]⟩,λ⟨_,_,z⟩=>(List.cons.inj z).1.symm⟩
theorem wF {k:Fi}:k∈sub fs l↔k.1≠[]/\(l::k.1,k.2)∈fs:=by
 unfold sub;rw[VA];constructor
 .rintro⟨f,c,e⟩;unfold Xn at e
  split at e
  .rename_i a b r q
   split at e
   .rename_i z;subst z;cases e;refine⟨Yy _ _,?_⟩;have:f=(a::b::r,f.2):=LG q rfl;rwa[<-this]
   .cases e
  .cases e
 .rintro⟨d,c⟩;refine⟨_,c,?_⟩;cases q:k.1 with
  |nil=>exact absurd q d
  |cons b r =>
   unfold Xn;show(if l=l then some ((b::r,k.2):Fi) else none)=some k;rw[ZS rfl]
   congr 1
   exact LG q.symm rfl
theorem wG {a:Str}{ls:Da}:(a,ls)∈CJ fs↔([a],ls)∈fs:=by
 unfold CJ;rw[VA];constructor
 .rintro⟨f,c,e⟩
  split at e
  .rename_i b q;cases e;have:f=([a],f.2):=LG q rfl;rwa[<-this]
  .cases e
 .intro h;exact⟨_,h,rfl⟩
theorem yu.sub {d:Nat}(h:yu (d+1) fs)(l:Str):yu d (sub fs l):=by
 refine⟨λk g=>?_,?_,λk g m s t e=>?_⟩
 .obtain⟨j,c⟩:=wF.mp g;obtain⟨_,i,n,o⟩:=h.wH _ c;have i:k.1.length+1<=d+1:=i;exact⟨j,by lia,λz u=>n z<|Zw _ u,o⟩
 .have:((An.sub fs l).map λk=>l::k.1).Sublist (fs.map (·.1)):=by
   unfold An.sub;have:∀fs:Dk,((fs.filterMap<|Xn l).map λk=>l::k.1).Sublist (fs.map (·.1)):=by
    intro fs
    induction fs with
    |nil=>exact List.Sublist.slnil
    |cons f fs ih =>
     rw[Jh,ZT];cases q:Xn l f with
     |none=>exact ih.cons _
     |some k =>
      show((l::k.1)::_).Sublist _;have e:l::k.1=f.1:=by
       unfold Xn at q
       split at q
       .rename_i a b r e
        split at q
        .rename_i z;subst z;cases q;exact e.symm
        .cases q
       .cases q
      rw[e];exact ih.cons₂ _
   exact this fs
  have:=this.nodup h.nd;have e:((An.sub fs l).map λk=>l::k.1)=((An.sub fs l).map (·.1)).map (List.cons l):=by rw[ZY];rfl
  rw[e]at this;exact qB this
 .obtain⟨_,c⟩:=wF.mp g;obtain⟨_,p⟩:=wF.mp s;exact h.pre _ c _ p t (by show l::m.1=l::k.1++t;rw[e];rfl)
noncomputable def CC (a:List En×Dg)(f:Str×Da):List En×Dg:=((CN a.1<|.leaf f.2).1,a.2++[(f.1,(CN a.1<|.leaf f.2).2)])
noncomputable def US:Nat->Di->Dk->List En×Str
 | 0,S,_=>(S,"")
 |d+1,S,fs =>
  let b:=(CL fs).foldl (λa l=>((US d a.1<|sub fs l).1,a.2++[(l,(US d a.1<|sub fs l).2)])) ((CJ fs).foldl CC (S,[]))
  CN b.1 (.tree<|U6 b.2)
structure Fo (d:Nat)(S0 S:Di)(Dp:Dg)(ps:List<|Str×Dk):Prop where
 ok:wZ S
 new:∃T,S=S0++T/\∀e∈T,∃r∈Dp,e.nm∈met d S r.2
 wH:Dp.map (·.1)=ps.map (·.1)
 rd:∀(i:Nat) (r:Str×Str) (p:Str×Dk),Dp[i]?=some r->ps[i]?=some p->Tree d S r.2/\∀f,f∈zp d S r.2↔f∈p.2
theorem Fo.nil (g:wZ S):Fo d S S [] []:=⟨g,⟨[],(ZW _).symm,λe he=>(nomatch he)⟩,rfl,λi r p h=>(nomatch h)⟩
theorem Fo.len (h:Fo d S0 S Dp ps):Dp.length=ps.length:=by
 have:=congrArg List.length h.wH;rw[Zu,Zu]at this;exact this
theorem Fo.step {T:Di}(h:Fo d S0 S Dp ps){l n:Str}{g:Dk}(ok:wZ<|S++T)(new:∀e∈T,e.nm∈met d (S++T) n)(tr:Tree d (S++T) n)(rd:∀f,f∈zp d (S++T) n↔f∈g):Fo d S0 (S++T) (Dp++[(l,n)]) (ps++[(l,g)]):=by
 obtain⟨s,u,v⟩:=h.new;refine⟨ok,⟨s++T,by rw[<-Ys,<-u],λe he=>?_⟩,by rw[ZH,ZH,h.wH];rfl,λi r p b c=>?_⟩
 .rcases ZZ.mp he with z|z
  .obtain⟨r,j,m⟩:=v e z;obtain⟨i,b⟩:=Ja.mp j;have hl:=(ZO.mp b).1;obtain⟨t,_⟩:=h.rd i r _ b (ZD<|by rwa[<-h.len]);exact⟨r,Yw _ j,by rw[t.uq ok h.ok];exact m⟩
  .exact⟨(l,n),Z5 _<|Zv.mpr rfl,new e z⟩
 .by_cases z:i<Dp.length
  .rw[Z7 z]at b;rw[Z7<|by rwa[<-h.len]]at c;obtain⟨t,k⟩:=h.rd i r p b c;obtain⟨x,w⟩:=t.more ok h.ok;exact⟨x,by rw[w];exact k⟩
  .rw[Z2<|by lia]at b;rw[Z2 (by rw[<-h.len];lia)]at c;have o:i-Dp.length=0:=by
    rcases JD (i-Dp.length) with q|q
    .exact q
    .rw[Jk.mpr (by show 1<=_;lia)]at b;cases b
   rw[o]at b;rw[<-h.len,o]at c;cases b;cases c;exact⟨tr,rd⟩
theorem wA:∀rs:Dg,(yA rs).length=2*rs.length
 |[]=>rfl
 |r::rs=>by
  show(yA rs).length+1+1=2*(rs.length+1);rw[wA rs];lia
theorem Hu:∀{rs:Dg} {p:Str},p∈yA rs->∃r∈rs,p=r.1\/p=r.2
 |r::rs,p,h=>by
  rcases ZI.mp h with q|h
  .exact⟨r,Zx ..,.inl q⟩
  .rcases ZI.mp h with q|h
   .exact⟨r,Zx ..,.inr q⟩
   .obtain⟨s,b,q⟩:=Hu h;exact⟨s,Zw _ b,q⟩
structure uP (d:Nat)(S:Di)(fs:Dk)(q:List En×Str):Prop where
 ok:wZ q.1
 new:∃T,q.1=S++T/\∀e∈T,e.nm∈met d q.1 q.2
 tree:Tree d q.1 q.2
 rd:∀f,f∈zp d q.1 q.2↔f∈fs
 node:∃Dp,At q.1 q.2<|.tree Dp
theorem j4 (h:zU x=true):Ok 1000 x:=by
 unfold zU at h;rw[ZG,ZG,Yh,Yh]at h;refine⟨by lia,?_⟩;rw[yJ];intro c b;have:=Z9.mp h.2 c b;unfold Xc at this;simp only[ZG,Yh]at this;lia
theorem SC (g:wZ S){Dp:Dg}(hl:Dp.length<=63)(h:∀r∈Dp,zU r.1=true/\r.2∈S.map En.nm):(Th.tree Dp).Good:=by
 refine⟨by show(yA Dp).length<=1000;rw[wA];lia,λp f=>?_⟩;obtain⟨r,i,q⟩:=Hu f;obtain⟨c,d⟩:=h r i
 rcases q with q|q
 .rw[q];exact j4 c
 .obtain⟨e,he,b⟩:=ZA.mp d;rw[q,<-b];exact g.nm he
theorem Fo.put (h:Fo d S0 S Dp ps)(hl:Dp.length<=63)(nd:(ps.map (·.1)).Nodup)(lb:∀p∈ps,zU p.1=true/\p.2≠[])(ls:S.length<2000):uP (d+1) S0 (ps.flatMap λp=>p.2.map λf=>(p.1::f.1,f.2)) (CN S<|.tree<|U6 Dp)/\(CN S<|.tree<|U6 Dp).1.length<=S.length+1:=by
 have at_:∀r∈Dp,∃p∈ps,r.1=p.1/\Tree d S r.2/\∀f,f∈zp d S r.2↔f∈p.2:=λr b=>by
  obtain⟨i,q⟩:=Ja.mp b;have hl:=(ZO.mp q).1;have c:=ZD (l:=ps) (i:=i) (by rwa[<-h.len]);have e:=congrArg (λl=>l[i]?) h.wH;simp only[ZF,q,c,YM]at e;exact⟨_,Yt _,Option.some.inj e,h.rd i r _ q c⟩
 have E:∀p∈ps,∃r∈Dp,r.1=p.1/\Tree d S r.2/\∀f,f∈zp d S r.2↔f∈p.2:=λp w=>by
  obtain⟨i,c⟩:=Ja.mp w;have hl:=(ZO.mp c).1;have q:=ZD (l:=Dp) (i:=i) (by rwa[h.len]);have e:=congrArg (λl=>l[i]?) h.wH;simp only[ZF,q,c,YM]at e;exact⟨_,Yt _,Option.some.inj e,h.rd i _ p q c⟩
 have s:∀{r},r∈U6 Dp↔r∈Dp:=(xD Dp).mem_iff;have A:(Th.tree<|U6 Dp).Good:=SC h.ok (by rwa[(xD Dp).length_eq]) λr b=>by
  obtain⟨p,c,e,t,_⟩:=at_ r<|s.mp b;exact⟨by rw[e];exact(lb p c).1,t.mem⟩
 obtain⟨ok,g,D,T,n,C⟩:=Fz h.ok A ls;refine⟨?_,D⟩;have ne:∀r∈Dp,zp d S r.2≠[]:=λr b=>by
  obtain⟨p,c,e,t,k⟩:=at_ r b;intro z;refine(lb p c).2 (J2.mpr λf o=>?_);rw[<-k,z]at o;cases o
 rw[n]at ok g;have u:∀r∈Dp,Tree d (S++T) r.2/\zp d (S++T) r.2=zp d S r.2:=λr b=>by
  obtain⟨p,c,e,t,k⟩:=at_ r b;exact t.more ok h.ok
 obtain⟨x,y,B⟩:=h.new;refine⟨by rw[n];exact ok,⟨x++T,by rw[n,y,Ys],λe he=>?_⟩,?_,λf=>?_,⟨_,by rw[n];exact g⟩⟩
 .rw[n,k7 ok g]
  rcases ZZ.mp he with z|z
  .obtain⟨r,b,m⟩:=B e z;obtain⟨p,c,_,t,_⟩:=at_ r b;exact Zw _ (Y5.mpr ⟨r,s.mpr b,by rw[t.uq ok h.ok];exact m⟩)
  .rw[C e z];exact Zx ..
 .rw[n];refine .inr ⟨_,g,HX<|by rwa[h.wH],λr b=>?_⟩;have b:=s.mp b;obtain⟨p,c,e,t,_⟩:=at_ r b;exact⟨by rw[e];exact(lb p c).1,(u r b).1,by rw[(u r b).2];exact ne r b⟩
 .rw[n,yL ok g,Y5,Y5];constructor
  .rintro⟨r,b,o⟩;have b:=s.mp b;obtain⟨p,c,e,t,k⟩:=at_ r b;obtain⟨v,j,rfl⟩:=ZA.mp o;rw[(u r b).2,k]at j;exact⟨p,c,ZA.mpr ⟨v,j,by rw[e]⟩⟩
  .rintro⟨p,c,o⟩;obtain⟨r,b,e,t,k⟩:=E p c;obtain⟨v,j,rfl⟩:=ZA.mp o;exact⟨r,s.mpr b,ZA.mpr ⟨v,by rw[(u r b).2,k];exact j,by rw[e]⟩⟩
def wt (fs:Dk):Nat:=(fs.map λf=>f.1.length).sum
theorem Mv (a b:Dk):wt (a++b)=wt a+wt b:=by
 unfold wt;rw[ZH,UK]
theorem GT (h:UZ x=true):Ok 1000 x:=by
 unfold UZ at h;rw[ZG,Yh]at h;refine⟨by lia,?_⟩;rw[yJ];intro c b;have:=Z9.mp h.2 c b;unfold U7 at this;simp only[ZG,Yh]at this;lia
theorem MP (h:U2 ls):(Th.leaf ls).Good:=⟨by show ls.length<=1000;have:=h.1;lia,λp b=>GT<|h.2 p b⟩
theorem Io {d:Nat}:∀(vs:List<|Str×Da) {S:Di} {Dp:Dg} {ps:List (Str×Dk)},Fo (d+1) S0 S Dp ps->(∀v∈vs,U2 v.2)->S.length+vs.length<=2000 ->
  Fo (d+1) S0 (vs.foldl CC (S,Dp)).1 (vs.foldl CC (S,Dp)).2 (ps++vs.map λv=>(v.1,[([],v.2)]))/\(vs.foldl CC (S,Dp)).1.length<=S.length+vs.length
 |[],S,Dp,ps,h,_,_=>⟨by rw[Um,ZW];exact h,ZB _⟩
 |v::vs,S,Dp,ps,h,hv,hl=>by
  have hl:S.length+(vs.length+1)<=2000:=hl;obtain⟨ok,b,o,T,g,c⟩:=Fz h.ok (MP<|hv v<|Zx ..) (by lia);rw[JK];show Fo (d+1) S0 (vs.foldl CC<|CC (S,Dp) v).1 (vs.foldl CC<|CC (S,Dp) v).2 _/\(vs.foldl CC<|CC (S,Dp) v).1.length<=S.length+(vs.length+1);have e:CC (S,Dp) v=((CN S<|.leaf v.2).1,Dp++[(v.1,(CN S<|.leaf v.2).2)]):=rfl;rw[e,ZT,show ps++(v.1,[(([],v.2):Fi)])::vs.map (λv=>(v.1,[(([],v.2):Fi)]))=(ps++[(v.1,[(([],v.2):Fi)])])++vs.map (λv=>(v.1,[(([],v.2):Fi)])) by simp];have st:Fo (d+1) S0 (CN S<|.leaf v.2).1 (Dp++[(v.1,(CN S<|.leaf v.2).2)]) (ps++[(v.1,[(([],v.2):Fi)])]):=by
   generalize (CN S<|.leaf v.2).2=n at b c ⊢;rw[g]at ok b ⊢;exact h.step ok (λe he=>by rw[c e he];exact Pe) (.inl ⟨_,b⟩) (λf=>by rw[yP ok b])
  obtain⟨i,l⟩:=Io vs st (λw j=>hv w<|Zw _ j) (by lia);exact⟨i,by lia⟩
noncomputable def CH (d:Nat)(fs:Dk)(a:List En×Dg)(l:Str):List En×Dg:=((US d a.1<|sub fs l).1,a.2++[(l,(US d a.1<|sub fs l).2)])
theorem M6 (d:Nat)(S:Di)(fs:Dk):US (d+1) S fs=CN ((CL fs).foldl (CH d fs)<|(CJ fs).foldl CC (S,[])).1 (.tree<|U6 ((CL fs).foldl (CH d fs)<|(CJ fs).foldl CC (S,[])).2):=rfl
theorem KC {b:Di}:∀(ls:Da) (H:∀l∈ls,∀S,wZ S->S.length+1+wt (sub fs l)<=2000->uP e S (sub fs l) (US d S<|sub fs l)/\(US d S<|sub fs l).1.length<=S.length+1+wt (sub fs l)) {S:Di} {Dp:Dg} {ps:List (Str×Dk)},
  Fo e b S Dp ps->S.length+(ls.map λl=>1+wt (sub fs l)).sum<=2000 ->
  Fo e b (ls.foldl (CH d fs) (S,Dp)).1 (ls.foldl (CH d fs) (S,Dp)).2 (ps++ls.map λl=>(l,sub fs l))/\(ls.foldl (CH d fs) (S,Dp)).1.length<=S.length+(ls.map λl=>1+wt (sub fs l)).sum
 |[],_,S,Dp,ps,h,_=>⟨by rw[Um,ZW];exact h,ZB _⟩
 |l::ls,H,S,Dp,ps,h,hl=>by
  rw[ZT,JS]at hl;obtain⟨o,q⟩:=H l (Zx ..) S h.ok (by lia);rw[JK,ZT,ZT,JS];have f:CH d fs (S,Dp) l=((US d S<|sub fs l).1,Dp++[(l,(US d S<|sub fs l).2)]):=rfl;rw[f,show ps++(l,sub fs l)::ls.map (λl=>(l,sub fs l))=(ps++[(l,sub fs l)])++ls.map (λl=>(l,sub fs l)) by simp];obtain⟨ok,⟨T,g,c⟩,tr,rd,_⟩:=o;have st:Fo e b (US d S<|sub fs l).1 (Dp++[(l,(US d S<|sub fs l).2)]) (ps++[(l,sub fs l)]):=by
   generalize (US d S<|sub fs l).2=n at c tr rd ⊢;rw[g]at ok c tr rd ⊢;exact h.step ok c tr rd
  obtain⟨i,p⟩:=KC ls (λw j=>H w<|Zw _ j) st (by lia);exact⟨i,by lia⟩
theorem Ke {g g':Str->Nat}{a:Str}{c:Nat}(h:∀l,l≠a->g' l=g l)(b:g' a<=g a+c):∀{L:Da},L.Nodup->(L.map g').sum<=(L.map g).sum+c
 |[],_=>Yf _
 |l::L,nd=>by
  rw[Yl]at nd;rw[ZT,ZT,JS,JS]
  by_cases z:l=a
  .subst z;have:L.map g'=L.map g:=Yu λm d=>h m λq=>nd.1<|q▸d;rw[this];lia
  .have:=Ke h b nd.2;rw[h l z];lia
theorem sub_snoc (fs:Dk)(f:Fi)(l:Str):sub (fs++[f]) l=sub fs l++(Xn l f).toList:=by
 unfold sub;rw[List.filterMap_append]
 congr 1
theorem Rk {f:Fi}(h:f.1=[]):Xn l f=none:=by unfold Xn;rw[h]
theorem Kc {f:Fi}{a:Str}(h:f.1=[a]):Xn l f=none:=by unfold Xn;rw[h]
theorem k9 {f:Fi}{a b:Str}{r:Da}(h:f.1=a::b::r):Xn l f=if a=l then some (b::r,f.2) else none:=by unfold Xn;rw[h]
theorem kZ (fs:Dk)(f:Fi):CJ (fs++[f])=CJ fs++(match f.1 with|[a]=>[(a,f.2)]|_=>[]):=by
 unfold CJ;rw[List.filterMap_append]
 congr 1
 rw[Jh]
 match f.1 with
 |[]=>rfl
 |[a]=>rfl
 |a::b::r=>rfl
theorem many (fs:Dk):(CJ fs).length+((CL fs).map λl=>1+wt (sub fs l)).sum<=wt fs:=by
 induction fs using snoc_ind with
 |h0=>exact ZB _
 |h1 fs f ih =>
  have same:(∀l,Xn l f=none)->∀l,sub (fs++[f]) l=sub fs l:=λh l=>by rw[sub_snoc,h l];exact ZW _
  rw[Mv,kZ,jF,ZE];have p:wt [f]=f.1.length:=by unfold wt;simp
  rw[p]
  match e:f.1 with
  |[] =>
   have:=same λl=>Rk e;rw[show(λl=>1+wt (sub (fs++[f]) l))=λl=>1+wt (sub fs l) from funext λl=>by rw[this l]];show(CJ fs).length+0+((CL fs).map λl=>1+wt (sub fs l)).sum<=wt fs+0;lia
  |[a] =>
   have:=same λl=>Kc e;rw[show(λl=>1+wt (sub (fs++[f]) l))=λl=>1+wt (sub fs l) from funext λl=>by rw[this l]];show(CJ fs).length+1+((CL fs).map λl=>1+wt (sub fs l)).sum<=wt fs+1;lia
  |a::b::r =>
   show(CJ fs).length+0+((xU (CL fs) a).map λl=>1+wt (sub (fs++[f]) l)).sum<=wt fs+(r.length+1+1);have i:∀l,l≠a->1+wt (sub (fs++[f]) l)=1+wt (sub fs l):=λl hl=>by
    rw[sub_snoc,k9 e,ZM<|Eh hl];show 1+wt (sub fs l++[])=_;rw[ZW]
   have j:1+wt (sub (fs++[f]) a)=1+wt (sub fs a)+(r.length+1):=by
    rw[sub_snoc,k9 e,ZS rfl];show 1+wt (sub fs a++[(b::r,f.2)])=_;rw[Mv];show 1+(wt (sub fs a)+((b::r).length+0))=_;rw[ZL];lia
   have bump:=Ke (g:=λl=>1+wt (sub fs l)) (g':=λl=>1+wt (sub (fs++[f]) l)) (a:=a) (c:=r.length+1) i (Vk j) (y8 fs).1;unfold xU
   split
   .lia
   .rename_i z;rw[ZH,UK];have s0:sub fs a=[]:=J2.mpr λk o=>by
     obtain⟨h0,n⟩:=wF.mp o;refine z<|((y8 fs).2 a).mpr ⟨_,n,?_⟩;cases q:k.1 with
     |nil=>exact absurd q h0
     |cons b r=>exact⟨b,r,rfl⟩
    have d:(CL fs).map (λl=>1+wt (sub (fs++[f]) l))=(CL fs).map (λl=>1+wt (sub fs l)):=Yu λl hl=>i l λq=>z<|q▸hl;rw[d];show(CJ fs).length+0+(((CL fs).map λl=>1+wt (sub fs l)).sum+((1+wt (sub (fs++[f]) a))+0))<=_;rw[j,s0];show _+(_+(1+0+(r.length+1)+0))<=_;lia
def pieces (fs:Dk):List (Str×Dk):=(CJ fs).map (λv=>(v.1,[([],v.2)]))++(CL fs).map λl=>(l,sub fs l)
theorem K3 (g:yu d fs)(f:Fi):f∈((pieces fs).flatMap λp=>p.2.map λk=>(p.1::k.1,k.2))↔f∈fs:=by
 rw[Y5];constructor
 .rintro⟨p,n,c⟩;obtain⟨k,i,rfl⟩:=ZA.mp c
  rcases ZZ.mp n with z|z
  .obtain⟨v,hv,rfl⟩:=ZA.mp z;rw[Zv.mp i];exact wG.mp hv
  .obtain⟨l,hl,rfl⟩:=ZA.mp z;exact(wF.mp i).2
 .intro c;obtain⟨j,_⟩:=g.wH f c
  match e:f.1 with
  |[]=>exact absurd e j
  |[a] =>
   have h:f=([a],f.2):=LG e rfl;exact⟨(a,[([],f.2)]),Yw _<|ZA.mpr ⟨(a,f.2),wG.mpr<|h▸c,rfl⟩,ZA.mpr ⟨([],f.2),Zv.mpr rfl,h.symm⟩⟩
  |a::b::r =>
   have h:f=(a::b::r,f.2):=LG e rfl;exact⟨(a,sub fs a),Z5 _<|ZA.mpr ⟨a,((y8 fs).2 a).mpr ⟨f,c,b,r,e⟩,rfl⟩,ZA.mpr ⟨(b::r,f.2),wF.mpr ⟨Yy _ _,h▸c⟩,h.symm⟩⟩
theorem O8 {fs:Dk}(nd:(fs.map (·.1)).Nodup):((CJ fs).map (·.1)).Nodup:=by
 have:((CJ fs).map λv=>[v.1]).Sublist (fs.map (·.1)):=by
  unfold CJ
  induction fs with
  |nil=>exact List.Sublist.slnil
  |cons f fs ih =>
   rw[ZT,Yl]at nd;rw[Jh,ZT]
   match e:f.1 with
   |[]=>exact(ih nd.2).cons _
   |[a]=>exact(ih nd.2).cons₂ _
   |a::b::r=>exact(ih nd.2).cons _
 have:=this.nodup nd;have e:((CJ fs).map λv=>[v.1])=((CJ fs).map (·.1)).map λa=>[a]:=by rw[ZY];rfl
 rw[e]at this;exact qB this
theorem Xt (g:yu d fs):((pieces fs).map (·.1)).Nodup:=by
 unfold pieces;rw[ZH,ZY,ZY,YX];refine⟨O8 g.nd,by rw[show((λp:Str×Dk=>p.1)∘λl=>(l,sub fs l))=id from rfl,VI];exact(y8 fs).1,λa h b i z=>?_⟩;subst z;obtain⟨v,hv,e⟩:=ZA.mp h;obtain⟨l,hl,rfl⟩:=ZA.mp i;have e:v.1=l:=e;obtain⟨f,j,b,r,c⟩:=((y8 fs).2 l).mp hl;have hv:([v.1],v.2)∈fs:=wG.mp hv;have:=g.pre _ hv f j (b::r) (by rw[c,e];rfl);cases this
theorem BD (g:yu d fs):∀p∈pieces fs,zU p.1=true/\p.2≠[]:=λp h=>by
 rcases ZZ.mp h with z|z
 .obtain⟨v,hv,rfl⟩:=ZA.mp z;exact⟨(g.wH _<|wG.mp hv).2.2.1 _<|Zv.mpr rfl,Yy _ _⟩
 .obtain⟨l,hl,rfl⟩:=ZA.mp z;obtain⟨f,e,b,r,c⟩:=((y8 fs).2 l).mp hl;refine⟨(g.wH f e).2.2.1 _ (by rw[c];exact Zx ..),List.ne_nil_of_mem (a:=(b::r,f.2))<|wF.mpr ⟨Yy _ _,?_⟩⟩;have:f=(l::b::r,f.2):=LG c rfl;exact this▸e
theorem sub_len:(sub fs l).length<=fs.length:=List.length_filterMap_le _ _
theorem qC (fs:Dk):(CJ fs).length+(CL fs).length<=fs.length:=by
 induction fs using snoc_ind with
 |h0=>exact ZB _
 |h1 fs f ih =>
  rw[kZ,jF,ZE,ZE]
  match e:f.1 with
  |[]=>show(CJ fs).length+0+(CL fs).length<=fs.length+1;lia
  |[a]=>show(CJ fs).length+1+(CL fs).length<=fs.length+1;lia
  |a::b::r =>
   show _+0+(xU (CL fs) a).length<=_+1;unfold xU
   split
   .lia
   .rw[ZE];show _+0+(_+1)<=_+1;lia
theorem HK {d e:Nat}(ok:wZ S)(g:yu n fs)(hl:fs.length<=63)(hs:S.length+1+wt fs<=2000)
  (H:∀l∈CL fs,∀S,wZ S->S.length+1+wt (sub fs l)<=2000->uP (e+1) S (sub fs l) (US d S<|sub fs l)/\(US d S<|sub fs l).1.length<=S.length+1+wt (sub fs l)) :
  uP (e+2) S fs (US (d+1) S fs)/\(US (d+1) S fs).1.length<=S.length+1+wt fs:=by
 have t:=many fs;have p:=qC fs;obtain⟨o,s⟩:=Io (d:=e) (CJ fs) (Fo.nil ok) (λv hv=>(g.wH _<|wG.mp hv).2.2.2) (by lia);have b:=KC (CL fs) H (S:=((CJ fs).foldl CC (S,[])).1) (Dp:=((CJ fs).foldl CC (S,[])).2) o (by lia);obtain⟨c,i⟩:=b;rw[M6];rw[UL]at c;have j:pieces fs=(CJ fs).map (λv=>(v.1,[(([],v.2):Fi)]))++(CL fs).map λl=>(l,sub fs l):=rfl;rw[<-j]at c;have c:Fo (e+1) S ((CL fs).foldl (CH d fs)<|(CJ fs).foldl CC (S,[])).1 ((CL fs).foldl (CH d fs)<|(CJ fs).foldl CC (S,[])).2 (pieces fs):=c;have i:((CL fs).foldl (CH d fs)<|(CJ fs).foldl CC (S,[])).1.length<=_:=i;generalize (CL fs).foldl (CH d fs) ((CJ fs).foldl CC (S,[]))=q at c i ⊢;have r:q.2.length<=63:=by
  rw[c.len,j,ZE,Zu,Zu];lia
 obtain⟨h,p⟩:=c.put r (Xt g) (BD g) (by lia);exact⟨⟨h.ok,h.new,h.tree,λf=>by rw[h.rd,K3 g],h.node⟩,by lia⟩
theorem Iw:∀(d:Nat) {S:Di} {fs:Dk},wZ S->yu (d+1) fs->fs.length<=63->S.length+1+wt fs<=2000->uP (d+2) S fs (US (d+1) S fs)/\(US (d+1) S fs).1.length<=S.length+1+wt fs
 | 0,S,fs,ok,g,hl,hs=>HK ok g hl hs λl hl=>by
  obtain⟨f,i,b,r,h⟩:=((y8 fs).2 l).mp hl;have:=(g.wH f i).2.1;rw[h,ZL,ZL]at this;lia
 |d+1,S,fs,ok,g,hl,hs=>HK ok g hl hs λl _ j e c=>Iw d e (g.sub l) (Yn sub_len hl) c
end An
namespace AxS
open PySem PySem.Spec PyProof.Rows
theorem Ii (t:EM)(n:Nat):(t.orStandIn n).led=t.led/\(t.plain=false->(t.orStandIn n).plain=false):=by
 unfold SetTable.orStandIn
 split
 .exact⟨rfl,id⟩
 .exact⟨rfl,λ_=>rfl⟩
theorem Fm (t:EM)(es:Array<|Int×D2)(h:Int)(x:D2):(layNew t es h x).2.1.led=t.led/\(t.plain=false->(layNew t es h x).2.1.plain=false):=by
 unfold layNew
 split
 .rename_i slot b _;have m:=Ii (t.put slot).1 (SetTable.insertAt es (t.put slot).2 (h,x)).size;exact⟨m.1,m.2⟩
 .exact⟨rfl,λ_=>rfl⟩
theorem KO {mask finger moves:Nat}{led plain:Bool}{hs:Array Int}{t:EM}{o:Array Nat}(h:SetTable.laid mask finger moves led plain hs=some (t,o)):t.led=led/\t.plain=plain:=by
 unfold SetTable.laid at h;simp only[Option.bind_eq_bind,Option.bind_eq_some_iff,Option.pure_def,Option.some.injEq,Prod.mk.injEq]at h;obtain⟨_,_,h,_⟩:=h;rw[<-h];exact⟨rfl,rfl⟩
theorem IY (t:EM)(es:Array<|Int×D2)(n:Nat):(relayAll t es n).2.1.led=t.led/\(t.plain=false->(relayAll t es n).2.1.plain=false):=by
 unfold relayAll
 split
 .rename_i c b he;have m:=KO he;dsimp only
  split
  .exact⟨m.1,λz=>m.2.trans z⟩
  .exact⟨rfl,λ_=>rfl⟩
 .exact⟨rfl,λ_=>rfl⟩
def keyOf (e:Int×D2):Str:=match e.2 with
 | .str k _=>k
 |_=>""
def Oh (prog:D3)(w:D6)(es:Array<|Int×D2)(t:EM)(ks:Da):Prop :=
 Mg (strKind prog w) es.toList/\(es.toList.map keyOf).Perm ks/\es.size<LC/\t.fits es.size=true/\t.led=!(w.params.followText "set-order")/\(es.size≠0->t.plain=false)
def yp (prog:D3)(w:D6)(h:Ej)(a:D1)(ks:Da):Prop:=∃o b c t,h.get? a=some o/\o.ExactSet/\o.data=.set b c t/\Oh prog w b t ks
section
variable {prog:D3}{w:D6}{A:Em}{E:D2->Dh}{s:D7}
theorem yp.at {h':Ej}(x:yp prog w h a ks)(e:∀o,h.get? a=some o->h'.get? a=some o):yp prog w h' a ks:=by
 obtain⟨o,c,b,t,d,r⟩:=x;exact⟨o,c,b,t,e _ d,r⟩
theorem key_is {es:Array (Int×D2)}(h:Mg (strKind prog w) es.toList){e:Int×D2}(he:e∈es.toList)(k:Str):(strKind prog w).is k e.2=true↔keyOf e=k:=by
 obtain⟨⟨d,b,_⟩,_⟩:=h e he;obtain⟨t,f⟩:=YS b;have c:keyOf e=d:=by unfold keyOf;rw[f]
 constructor
 .intro z;rw[c];exact(strKind prog w).inj e.2 d k b z
 .intro z;rwa[<-z,c]
theorem Hv {es:Array (Int×D2)}{ks:Da}(h:Mg (strKind prog w) es.toList)(p:(es.toList.map keyOf).Perm ks)(k:Str):k∈ks↔∃e∈es.toList,(strKind prog w).is k e.2=true:=by
 rw[<-p.mem_iff,ZA];exact⟨λ⟨e,he,z⟩=>⟨e,he,(key_is h he k).mpr z⟩,λ⟨e,he,z⟩=>⟨e,he,(key_is h he k).mp z⟩⟩
theorem XJ {es:Array (Int×D2)}{t:EM}{ks:Da}(x:Oh prog w es t ks):es.size=ks.length:=by
 rw[<-x.2.1.length_eq,Zu,ZU]
theorem Ms {k:Str}{C:Tok}{Q:Bool->Dh}(hS:yp prog w s.heap a ks)(ah:ks.length+1<LC)
  (h:∀h' r,Ez a s.heap h'->yp prog w h' a (if k∈ks then ks else ks++[k])->Q r { s with heap:=h' }) :
  D4 (Eb prog w) A (setAddHashed a (.str k C)<|hashStr w k) Q E s:=by
 obtain⟨o,y,U,t,N,D,hd,X⟩:=hS;have Dr:=XJ X;obtain⟨l,S,hb,Y,n,af⟩:=X;have DL:(strKind prog w).is k (.str k C)=true:=by show EI k (.str k C)=true;simp[EI]
 have H:(Lz k C).scannable=true:=rfl;have hh:hashStr w k=(strKind prog w).hash k:=rfl;rw[hh];unfold setAddHashed setAddHashedIn;refine YR<|Zt<|Ye N hd Y ?_;dsimp only;rw[byScan_of (knd:=strKind prog w) H hb l];simp only[↓reduceIte];unfold setAddByScan;refine Zt<|Zt<|Vg<|Zt<|wpAny_setScan_of (knd:=strKind prog w) DL N hd Y l ?_;cases hr:List.findIdx? (λe=>(strKind prog w).is k e.2) y.toList with
 |some j =>
  obtain⟨hj,ad,_⟩:=List.findIdx?_eq_some_iff_getElem.mp hr;have hk:k∈ks:=(Hv l S k).mpr ⟨y.toList[j],Yt hj,ad⟩;have:=h s.heap false (Heap.SameBut.refl a s.heap) (by rw[ZS hk];exact⟨o,y,U,t,N,D,hd,l,S,hb,Y,n,af⟩);exact Zy<|Zy this
 |none =>
  have hk:k∉ks:=λz=>by
   obtain⟨e,he,q⟩:=(Hv l S k).mp z;have:=List.findIdx?_eq_none_iff.mp hr e he;rw[q]at this;cases this
  rw[ZM hk]at h;have K:∀(b:Bool) {u:D7} {T:Unit->Dh},T () u->D4 (Eb prog w) A (match b with|true=>rule "set.scan.the-table-gave-way"|false=>E7 ()) T E u:=by
   intro b u T hq;cases b
   .exact Zy hq
   .exact Vg hq
  have d:=layNew_perm t y ((strKind prog w).hash k)<|.str k C;have g:=layNew_fits t y ((strKind prog w).hash k)<|.str k C;have x:=Fm t y ((strKind prog w).hash k)<|.str k C;dsimp only;generalize layNew t y ((strKind prog w).hash k) (.str k C)=L at d g x ⊢;obtain⟨c,t1,wd,ai⟩:=L;dsimp only at d g x ⊢;rw[Array.toList_push]at d;have al:c.size=y.size+1:=by rw[<-ZU,d.length_eq,ZE,ZU];rfl
  have B:Mg (strKind prog w) c.toList:=(l.push DL H).perm d;have O:(c.toList.map keyOf).Perm (ks++[k]):=by
   refine(d.map keyOf).trans ?_;rw[ZH];exact S.append<|List.Perm.refl _
  have J:c.size<scanBound:=by lia
  refine Zt<|K _ ?_;have tail:∀(f:EM),f.fits c.size=true->f.led=t.led->f.plain=false->D4 (Eb prog w) A (do
    storeSet a c f
    if(!wd&&f.tooFull)=true then do
      (match(relayAll f c<|Lq c.size).2.2 with|true=>rule "set.scan.the-table-gave-way"|false=>E7 ())
      storeSet a (relayAll f c<|Lq c.size).1 (relayAll f c<|Lq c.size).2.1
      E7 (some true)
     else E7 (some true)) (λr s'=>r=some true/\Q true s') E s:=by
   intro f Z M P;refine Zt<|Ve N hd ?_<|VS J;have R:=Es s.heap a<|Ls c f;have G:(s.heap.update a<|Ls c f).get? a=some { o with data:=.set c (U+1) f }:=by
    have:=YF (Ls c f) N (by rw[UG c f hd];rfl);rw[UG c f hd]at this;exact this
   split
   .have p:=relayAll_perm f c<|Lq c.size;have F:=relayAll_fits f c<|Lq c.size;have v:=IY f c<|Lq c.size;generalize relayAll f c (Lq c.size)=Rl at p F v ⊢;obtain⟨i,I,gv⟩:=Rl;dsimp only at p F v ⊢;have ak:i.size=c.size:=by rw[<-ZU,p.length_eq,ZU]
    refine Zt (K _<|Zt<|Ve G rfl ?_<|VS<|by lia);have ab:((s.heap.update a<|Ls c f).update a<|Ls i I).get? a=some { o with data:=.set i (U+1+1) I }:=by
     have:=YF (Ls i I) G (by rw[UG i I rfl];rfl);rw[UG i I rfl]at this;exact this
    exact Zy ⟨rfl,h _ true (R.trans<|Es _ a _) ⟨_,i,_,I,ab,D,rfl,B.perm p,((p.map keyOf)).trans O,by lia,F,v.1.trans<|M.trans n,λ_=>v.2 P⟩⟩
   .exact Zy ⟨rfl,h _ true R ⟨_,c,_,f,G,D,rfl,B,O,J,Z,M.trans n,λ_=>P⟩⟩
  split
  .refine Zt ?_;rw[hashByValue_scannable 8 H];refine Zy ?_;refine Y1 (tail { t1 with plain:=false } (SetTable.fits_plain_off g) x.1 rfl) (λr s' q=>?_) λ_ _ z=>z;obtain⟨rfl,q⟩:=q;exact Zy q
  .rename_i ac;refine Zt<|Zy ?_;simp only[↓reduceIte];refine Y1 (tail t1 g x.1<|by simpa using ac) (λr s' q=>?_) λ_ _ z=>z;obtain⟨rfl,q⟩:=q;exact Zy q
def step (ks:Da)(k:Str):Da:=if k∈ks then ks else ks++[k]
def uniq (xs:Da):Da:=xs.foldl step []
theorem BI (xs:Da)(k:Str):uniq (xs++[k])=step (uniq xs) k:=by unfold uniq;rw[JP];rfl
theorem Ka (ks:Da)(k:Str):(step ks k).length<=ks.length+1:=by unfold step;split<;>simp
theorem ug:∀(n:Nat) (xs:Da),xs.length=n->(uniq xs).length<=n
 | 0,xs,h=>by rw[YB h];exact ZB _
 |n+1,xs,h=>by
  have b:xs≠[]:=λz=>by rw[z]at h;cases h
  rw[<-Ue b,BI];have:=ug n xs.dropLast (by rw[List.length_dropLast];lia);have:=Ka (uniq xs.dropLast)<|xs.getLast b;lia
theorem Od {xs:Da}{i:Nat}{k:Str}(h:xs[i]?=some k):uniq (xs.take<|i+1)=if k∈uniq (xs.take i) then uniq (xs.take i) else uniq (xs.take i)++[k]:=by
 have e:xs.take (i+1)=xs.take i++[k]:=by rw[Ym,h];rfl
 rw[e,BI];rfl
end
section
variable {prog:D3}{w:D6}{A:Em}{R:Result->Dh}{I:D1}{fp wr:Dd}{G:Array GenState->Array GenState->Prop}{n:Nat}{P:Nat->D2->Prop}{St:Nat->Dh}
theorem SF (W:WalksS prog w A.in1 I fp wr G n P St)(S:D1)(j:S∉fp)(xs:Da)(N:xs.length=n)(B:∀i v,P i v->∃k t,xs[i]?=some k/\v=.str k t)(p:n+1<LC) :
  ∀(m i:Nat) (s:D7),n-i=m->i<=n->St i s->yp prog w s.heap S (uniq<|xs.take i) ->
   (∀s',Moved (S::wr) G s s'->yp prog w s'.heap S (uniq xs)->R (.ok<|.ret .none) s')->LK (Eb prog w) A (.builtin "set.update.loop" ⟨[.ref S,.ref I],[]⟩) R s:=by
 have l:S∉wr:=λh=>j<|W.sub _ h;have c:∀b∈wr,b∈S::wr:=λb p=>Zw _ p;intro m
 induction m with
 |zero =>
  intro i s M L d C D;have F:i=n:=by lia
  subst F;refine Jj Vr ?_;rw[EW Jz _];show D4 _ A.in1 (LQ (.ref I)>>=_) _ _ s;refine Zt<|W.done s _ _ d λs' u=>?_;show D4 _ A.in1 (ret Ev) _ _ s';rw[<-N,Ya]at C;exact Zy<|D s' (u.mono c)<|C.at λo e=>u.heap S _ l e
 |succ m ih =>
  intro i s M L d C D;have q:i<n:=by lia
  refine Jj Vr ?_;rw[EW Jz _];show D4 _ A.in1 (LQ (.ref I)>>=_) _ _ s;refine Zt<|W.item i s _ _ q d λv s' K z u=>?_;obtain⟨k,t,H,rfl⟩:=B i v K;have E:=C.at (h':=s'.heap) λo e=>u.heap S _ l e;show D4 _ A.in1 (holding [Lz k t] (setAdd S<|.str k t)>>=_) _ _ s';refine Zt<|YR ?_;unfold setAdd;refine YR ?_;refine Zt ((strKind prog w).pyHash (k:=k) (by show EI k (.str k t)=true;simp[EI]) ?_);have hl:=ug _ (xs.take i) rfl;rw[Z3]at hl;refine Ms (s:={ s' with toks:=s'.toks+1 }) E (by lia) λh' r y g=>?_;rw[<-Od H]at g;refine Zy ⟨Vx Jz _,ih (i+1) _ (by lia) q (W.frame _ s' _ _ z (J4 _) λb p o e=>?_) g λJ x f=>?_⟩
  .rw[y.2 b (λh:b=S=>j<|by rwa[<-h])];exact e
  .refine D J (Moved.trans W.gtrans ((u.mono c).then_heap (J4 _) λb o p e=>?_) x) f;rw[y.2 b (λh:b=S=>p (by rw[h];exact Zx))];exact e
end
section
variable {prog:D3}{w:D6}{A:Em}{E:D2->Dh}{s:D7}
def zV (w:D6):Obj:={ cls:=.type "set",dict:=none,data:=.set #[] 0 (.fresh 0 0<|!(w.params.followText "set-order")) }
theorem Kk {h:Ej}{a:D1}{xs:Da}(e:h.get? a=some (zV w)):yp prog w h a (uniq<|xs.take 0) :=
 ⟨_,#[],0,_,e,⟨rfl,rfl,rfl⟩,rfl,λ_ z=>by simp at z,List.Perm.refl _,by decide,by rfl,rfl,λz=>absurd rfl z⟩
theorem Nc (a:D2){Q₁:D2->Dh}(h:Q₁ (.ref s.heap.objs.size) { s with heap:=s.heap.push (zV w) }) :
  LK (Eb prog w) A (.call (.builtin "set.__new__") ⟨[.type "set",a],[]⟩) (wants Q₁ E) s:=by
 refine UM ?_;show D4 _ A.in1 (do checkBuiltinCall "set.__new__" ⟨[.type "set",a],[]⟩;again (.builtin "set.__new__" ⟨[.type "set",a],[]⟩)) _ _ s;refine Zt<|J5 (F.newCall_set_1 a)<|Zy ⟨Vx F.plain_set_new _,Jj F.entry_set_new ?_⟩;rw[EW F.plain_set_new _];unfold Builtin.«set.__new__» Builtin.Frozenset.newClass;have b:=sub_set_self;obtain⟨c,g,d,e,os⟩:=s;dsimp only
 wp_walk
 refine Jq<|Zy ?_;dsimp only;simp only[newObj];refine Zt<|wpAny_alloc<|Zy ?_;exact Zy h
theorem sub_list_set:L9 (.type "list") (.type "set")=E7 false:=by rw[Jt];kernel_rfl
theorem sub_list_frozenset:L9 (.type "list") (.type "frozenset")=E7 false:=by rw[Jt];kernel_rfl
theorem sub_tuple_set:L9 (.type "tuple") (.type "set")=E7 false:=by rw[Jt];kernel_rfl
theorem sub_tuple_frozenset:L9 (.type "tuple") (.type "frozenset")=E7 false:=by rw[Jt];kernel_rfl
end
section
variable {M:Model}{A:Em}{E:D2->Dh}{s:D7}
theorem FM {src:Source}{n:Nat}{Q:Nat->Dh}(b:n≠0)(h:∀i,i<n->Q i { s with drawn:=s.drawn.bump src }):D4 M A (choose src n) Q E s :=
 λc p _=>⟨b,h _<|Nat.mod_lt _<|Nat.pos_of_ne_zero b⟩
theorem Gn {α:Type}{xs:List α}{i:Nat}{x:α}(h:xs[i]?=some x):(x::xs.eraseIdx i).Perm xs:=by
 induction xs generalizing i with
 |nil=>cases h
 |cons y ys ih =>
  cases i with
  |zero =>
   have h:y=x:=Option.some.inj h;subst h;exact List.Perm.refl _
  |succ i =>
   have h:ys[i]?=some x:=by simpa using h
   show(x::y::ys.eraseIdx i).Perm (y::ys);exact(List.Perm.swap y x _).trans (List.Perm.cons y<|ih h)
theorem qO {α:Type}:∀(n:Nat) (xs:List α) (s:D7) {Q:List α->Dh},xs.length<=n->(∀ys d,ys.Perm xs->Q ys { s with drawn:=d })->D4 M A (drawOrder n xs) Q E s
 | 0,xs,s,Q,hl,h=>by
  have e:xs=[]:=YB (by lia);subst e;exact Zy<|h [] s.drawn<|List.Perm.refl _
 |n+1,[],s,Q,hl,h=>Zy<|h [] s.drawn<|List.Perm.refl _
 |n+1,x::xs,s,Q,hl,h=>by
  refine Zt (FM (by simp) λi b=>?_);have c:(x::xs)[i]?=some ((x::xs)[i]):=ZD b;have f:=Gn c;show D4 M A (match(x::xs)[i]? with|some x_1=>_|none=>_) Q E _;rw[c];refine Zt (qO n _ _ (by rw[List.length_eraseIdx_of_lt b];simp at hl ⊢;lia) λys d g=>?_);exact Zy<|h _ d<|(List.Perm.cons _ g).trans f
theorem M3 {α:Type}(next:Nat->Nat):∀(fuel k:Nat) (left:List α) (out:Array α),left.length=fuel->(pickOrder.go next fuel k left out).toList.Perm (out.toList++left)
 | 0,k,left,out,h=>by
  rw[YB h,ZW];exact List.Perm.refl _
 |fuel+1,k,left,out,h=>by
  unfold pickOrder.go;have b:next k % left.length<left.length:=Nat.mod_lt _ (by lia);have c:left[next k % left.length]?=some (left[next k % left.length]):=ZD b;rw[c];refine(M3 next fuel (k+1) _ _ (by rw[List.length_eraseIdx_of_lt b];lia)).trans ?_;rw[Array.toList_push,Ys];exact List.Perm.append_left _<|Gn c
theorem jT {α:Type}(next:Nat->Nat)(xs:Array α):(LW next xs).toList.Perm xs.toList:=by
 have:=M3 next xs.size 0 xs.toList #[] (by simp);simpa[LW] using this
end
section
variable {prog:D3}{w:D6}{A:Em}{E:D2->Dh}{s:D7}
def byText (w:D6):Bool:=w.params.followText "set-order"
theorem Gf {a:D1}{o:Obj}{es:Array (Int×D2)}{ep:Nat}{t:EM}{Q:Bool->Dh}(c:s.heap.get? a=some o)(hd:o.data=.set es ep t)(b:t.fits es.size=true)
  (h:Q (!byText w&&(!t.plain&&decide (es.size>1))) s):D4 (Eb prog w) A (setDrawn a) Q E s:=by
 unfold setDrawn Mj;refine Zt<|Ye c hd b ?_;refine Zt<|Zt<|Jq<|Zy ?_;exact Zy h
theorem KA:entryFor table "set.__iter__"=some Builtin.«frozenset.__iter__» :=
 entryFor_alias (id':="frozenset.__iter__") (by kernel_rfl) (by first|rfl|decide+kernel|(unfold String.splitOn;simp +decide [String.splitOnAux])) (by decide+kernel) (by kernel_rfl)
theorem HG:Manifest.owners.lookup (String.ofList ['r','o','t','a','r','e','t','i','_','t','e','s'].reverse)=some Manifest.sig_set_iterator:=by kernel_rfl
theorem slot_next:Slot "set_iterator" "__next__" "set_iterator.__next__" :=
 .of (owner:="set_iterator") (n:="__next__") (by rw[UN,VZ];kernel_rfl) (by decide+kernel) (by decide+kernel) (by decide+kernel)
  (by first|exact .inl (by decide+kernel)|exact .inr (by decide+kernel)) (by rw[Jt];kernel_rfl)
theorem entry_next:entryFor table "set_iterator.__next__"=some Builtin.«set_iterator.__next__»:=entryFor_of_tree (by kernel_rfl)
theorem args_next (a:D2):argsOk "set_iterator.__next__" ⟨[a],[]⟩:=by
 unfold argsOk;rw[signature?_of (id:="set_iterator.__next__") (n:=['_','_','t','x','e','n','_','_']) (o:=['r','o','t','a','r','e','t','i','_','t','e','s']) (by kernel_rfl) HG];kernel_rfl
theorem XX:Slot "set_iterator" "__iter__" "set_iterator.__iter__" :=
 .of (owner:="set_iterator") (n:="__iter__") (by rw[UN,VZ];kernel_rfl) (by decide+kernel) (by decide+kernel) (by decide+kernel)
  (by first|exact .inl (by decide+kernel)|exact .inr (by decide+kernel)) (by rw[Jt];kernel_rfl)
theorem FO (a:D2):argsOk "set_iterator.__iter__" ⟨[a],[]⟩:=by
 unfold argsOk;rw[signature?_of (id:="set_iterator.__iter__") (n:=['_','_','r','e','t','i','_','_']) (o:=['r','o','t','a','r','e','t','i','_','t','e','s']) (by kernel_rfl) HG];kernel_rfl
theorem BY:entryFor table "set_iterator.__iter__"=some Builtin.«dict_keyiterator.__iter__» :=
 entryFor_alias (id':="dict_keyiterator.__iter__") (by kernel_rfl) (by first|rfl|decide+kernel|(unfold String.splitOn;simp +decide [String.splitOnAux])) (by decide+kernel) (by kernel_rfl)
def MM (first:D2)(i:Int)(a:D1)(n ep:Nat):Obj:={ cls:=.type "set_iterator",data:=.fields #[first,EX i,.ref a,EX n,EX ep] }
theorem OL {a:D1}{o:Obj}{es:Array (Int×D2)}{ep:Nat}{t:EM}{Q:D2->Dh}(b:s.heap.get? a=some o)(n:o.ExactSet)(hd:o.data=.set es ep t)(c:t.fits es.size=true)(hz:es.size<=1000)
  (j:(!byText w&&(!t.plain&&decide (es.size>1)))=false->Q (.ref s.heap.objs.size) { s with heap:=s.heap.push (MM (EX 0) 0 a es.size ep) })
  (l:(!byText w&&(!t.plain&&decide (es.size>1)))=true->∀(ps:List Nat) d tk,ps.Perm (Ef es.size)->Q (.ref<|s.heap.objs.size+1) { s with heap:=(s.heap.push { cls:=.type "tuple",data:=.seq (ps.map λi=>EX (i:Nat)).toArray }).push (MM (.ref s.heap.objs.size) 0 a es.size ep),drawn:=d,toks:=tk }) :
  D4 (Eb prog w) A (pyIter<|.ref a) Q E s:=by
 have g:s.TypeIs (.ref a) "set":=⟨o,b,n.1⟩;refine wpAny_pyIter_slot g PySem.F.slot_set_iter<|YH PySem.F.slot_set_iter g KA ?_<|PySem.F.args_set_iter_1 _;unfold Builtin.«frozenset.__iter__»;refine Zt (m:=Builtin.Frozenset.slot0 _ _)<|J5 (a:=a) rfl ?_;unfold Builtin.Frozenset.sizeOf;refine Zt<|Zt<|JY b hd c<|Zy ?_;refine Zt<|Gf b hd c ?_;cases q:(!byText w&&(!t.plain&&decide (es.size>1))) with
 |false =>
  rw[ZM<|by decide];refine Zt<|Zy<|Zt<|wpAny_setEpoch_of b hd c ?_;simp only[newFields];refine Zt<|Yz ?_;exact Zy ⟨_,rfl,"set_iterator",_,⟨_,ZK _ rfl,rfl⟩,slot_next.lookup,j q⟩
 |true =>
  rw[ZS rfl];refine Zt (qO es.size (Ef es.size) s (by rw[Yo];exact ZB _) λps d h=>?_);have p:ps.length=es.size:=by rw[h.length_eq,Yo]
  simp only[newTuple];refine Zt<|Yz ?_ ?_
  .have f:(s.heap.push { cls:=.type "tuple",data:=.seq (ps.map λi=>EX (i:Nat)).toArray }).get? a=some o:=ZC _ b;refine Zt<|wpAny_setEpoch_of (s:={ s with heap:=s.heap.push { cls:=.type "tuple",data:=.seq (ps.map λi=>EX (i:Nat)).toArray },drawn:=d }) f hd c ?_;simp only[newFields];refine Zt<|Yz ?_;have e:(s.heap.push { cls:=.type "tuple",data:=.seq (ps.map λi=>EX (i:Nat)).toArray }).objs.size=s.heap.objs.size+1:=Jr _ _;refine Zy ⟨_,rfl,"set_iterator",_,⟨_,ZK _ rfl,rfl⟩,slot_next.lookup,?_⟩;have:=l q ps d s.toks h;rw[<-e]at this;exact this
  .show(ps.map λi=>EX (i:Nat)).toArray.size<=sizeLine;rw[ZV,Zu,p,YU];lia
theorem xS {it:D1}(h:s.heap.get? it=some (MM f i a n ep)):s.TypeIs (.ref it) "set_iterator":=⟨_,h,rfl⟩
theorem BE {it a:D1}{o:Obj}{es:Array (Int×D2)}{ep:Nat}{t:EM}{slot i DR:Nat}{x:D2}{Q:Dc->Dh}(hit:s.heap.get? it=some (MM (EX slot) i a es.size ep))(g:a≠it)(j:s.heap.get? a=some o)(hd:o.data=.set es ep t)(e:t.fits es.size=true)
  (f:∀(A:Em) (E:D2->Dh) (Q:Option (D2×Nat)->Dh),Q (some (x,DR)) s->D4 (Eb prog w) A (setNext a slot i ep) Q E s)
  (h:∀h',h'.get? it=some (MM (EX DR) (i+1) a es.size ep)->Ez it s.heap h'->Q (some x) { s with heap:=h' }):D4 (Eb prog w) A (LQ<|.ref it) Q E s:=by
 unfold LQ;refine Zt<|UC<|Jw (name:=ED "__next__") (xS hit) slot_next<|YH slot_next (xS hit) entry_next ?_<|args_next _
 unfold Builtin.«set_iterator.__next__»;refine Zt<|J5 (a:=(Ee it,[])) rfl ?_;refine Zt<|Ur hit rfl ?_;show D4 _ _ (setEntries a>>=_) _ _ s;refine Zt<|JY j hd e ?_;have c:(((es.size:Nat):Int) !=((es.size:Nat):Int))=false:=by simp
 rw[ZM (by rw[c];decide)];show D4 _ _ (setNext a slot i ep>>=_) _ _ s;refine Zt<|f _ _ _ ?_;show D4 _ _ (setField (.ref it) 0 (EX DR)>>=_) _ _ s;refine Zt (Vi hit rfl (by simp) ?_);have b:=YF (Obj.mapFields (·.setIfInBounds 0 (EX (DR:Nat)))) hit rfl;refine Zt (Vi b rfl (by simp) ?_);have d:=YF (Obj.mapFields (·.setIfInBounds 1 (EX<|(i:Int)+1))) b rfl;exact Zy ⟨x,rfl,Zy<|h _ d<|(Es ..).trans<|Es ..⟩
theorem jZ {it a:D1}{o:Obj}{es:Array (Int×D2)}{ep:Nat}{t:EM}{slot i:Nat}{Q:Dc->Dh}(c:A.handled=none)(hit:s.heap.get? it=some (MM (EX slot) i a es.size ep))(g:s.heap.get? a=some o)(hd:o.data=.set es ep t)(e:t.fits es.size=true)
  (f:∀(A:Em) (E:D2->Dh) (Q:Option (D2×Nat)->Dh),Q none s->D4 (Eb prog w) A (setNext a slot i ep) Q E s)
  (h:∀h',Heap.ExtBut it s.heap h'->Q none { s with heap:=h' }):D4 (Eb prog w) A (LQ<|.ref it) Q E s:=by
 unfold LQ;refine Zt<|UC<|Jw (name:=ED "__next__") (xS hit) slot_next<|YH slot_next (xS hit) entry_next ?_<|args_next _
 unfold Builtin.«set_iterator.__next__»;refine Zt<|J5 (a:=(Ee it,[])) rfl ?_;refine Zt<|Ur hit rfl ?_;show D4 _ _ (setEntries a>>=_) _ _ s;refine Zt<|JY g hd e ?_;have d:(((es.size:Nat):Int) !=((es.size:Nat):Int))=false:=by simp
 rw[ZM (by rw[d];decide)];show D4 _ _ (setNext a slot i ep>>=_) _ _ s;refine Zt<|f _ _ _ ?_;show D4 _ _ (setField (.ref it) 2 .none>>=_) _ _ s;refine Zt (Vi hit rfl (by simp) ?_);refine Zt ?_;simp only[newExc,newTuple];refine Zt (Yz ?_<|by size_fits);refine Zt (m:=firstArgMember _ _) (J5 (a:=Ev) (by first|rfl|(simp only[firstArgMember];rfl)) ?_);refine Yz ?_ (by size_fits);simp only[raiseNew];refine Zt<|wpAny_handled ?_
 first|rw[show A.in1.handled=none from c]|rw[c]
 refine Zt<|Zy<|wpAny_throw ?_;refine Zt<|Je (T:="StopIteration") (b:=true) ⟨_,ZK _ rfl,rfl⟩ isSubtype_stop ?_;refine Zy<|h _ ?_;refine((Heap.ExtBut.push ?_ _).push _);exact(Es ..).extBut
def SD (ps:List Nat):Obj:={ cls:=.type "tuple",data:=.seq (ps.map λi=>EX (i:Nat)).toArray }
theorem KW {it a u:D1}{o:Obj}{es:Array (Int×D2)}{ep:Nat}{t:EM}{i p:Nat}{ps:List Nat}{e:Int×D2}{Q:Dc->Dh}(hit:s.heap.get? it=some (MM (.ref u) i a es.size ep))(n:s.heap.get? u=some (SD ps))(d:s.heap.get? a=some o)(hd:o.data=.set es ep t)(c:t.fits es.size=true)
  (l:ps[i]?=some p) (he:es[p]?=some e) (h:∀h',h'.get? it=some (MM (.ref u) (i+1) a es.size ep)->Ez it s.heap h'->Q (some e.2) { s with heap:=h' }):D4 (Eb prog w) A (LQ<|.ref it) Q E s:=by
 unfold LQ;refine Zt<|UC<|Jw (name:=ED "__next__") (xS hit) slot_next<|YH slot_next (xS hit) entry_next ?_<|args_next _
 unfold Builtin.«set_iterator.__next__»;refine Zt<|J5 (a:=(Ee it,[])) rfl ?_;refine Zt<|Ur hit rfl ?_;show D4 _ _ (setEntries a>>=_) _ _ s;refine Zt<|JY d hd c ?_;have f:(((es.size:Nat):Int) !=((es.size:Nat):Int))=false:=by simp
 rw[ZM (by rw[f];decide)];show D4 _ _ (seqItems? (.ref u)>>=_) _ _ s;refine Zt<|wpAny_seqItems n rfl ?_;have b:(ps.map λi=>EX ((i:Nat):Int)).toArray[i]?=some (EX (p:Nat)):=by
  rw[V1,ZF,l];rfl
 show D4 _ _ (match(ps.map λi=>EX ((i:Nat):Int)).toArray[i]? with|some (.int place _)=>_|some _=>_|none=>_) _ _ s;rw[b];show D4 _ _ (setNextDrawn a p ep>>=_) _ _ s;unfold setNextDrawn;refine Zt<|Zt<|Ye d hd c ?_;have g:(ep !=ep)=false:=by simp
 dsimp only;rw[ZM (by rw[g];decide)];rw[he];refine Zy ?_;show D4 _ _ (setField (.ref it) 1 (EX<|(i:Int)+1)>>=_) _ _ s;refine Zt (Vi hit rfl (by simp) ?_);have j:=YF (Obj.mapFields (·.setIfInBounds 1 (EX<|(i:Int)+1))) hit rfl;exact Zy ⟨e.2,rfl,Zy<|h _ j<|Es ..⟩
theorem IW {it a u:D1}{o:Obj}{es:Array (Int×D2)}{ep:Nat}{t:EM}{i:Nat}{ps:List Nat}{Q:Dc->Dh}(d:A.handled=none)(hit:s.heap.get? it=some (MM (.ref u) i a es.size ep))(n:s.heap.get? u=some (SD ps))(j:s.heap.get? a=some o)(hd:o.data=.set es ep t)(g:t.fits es.size=true)
  (l:ps[i]?=none) (h:∀h',Heap.ExtBut it s.heap h'->Q none { s with heap:=h' }):D4 (Eb prog w) A (LQ<|.ref it) Q E s:=by
 unfold LQ;refine Zt<|UC<|Jw (name:=ED "__next__") (xS hit) slot_next<|YH slot_next (xS hit) entry_next ?_<|args_next _
 unfold Builtin.«set_iterator.__next__»;refine Zt<|J5 (a:=(Ee it,[])) rfl ?_;refine Zt<|Ur hit rfl ?_;show D4 _ _ (setEntries a>>=_) _ _ s;refine Zt<|JY j hd g ?_;have e:(((es.size:Nat):Int) !=((es.size:Nat):Int))=false:=by simp
 rw[ZM (by rw[e];decide)];show D4 _ _ (seqItems? (.ref u)>>=_) _ _ s;refine Zt<|wpAny_seqItems n rfl ?_;have c:(ps.map λi=>EX ((i:Nat):Int)).toArray[i]?=none:=by
  rw[V1,ZF,l];rfl
 show D4 _ _ (match(ps.map λi=>EX ((i:Nat):Int)).toArray[i]? with|some (.int place _)=>_|some _=>_|none=>_) _ _ s;rw[c];show D4 _ _ (setField (.ref it) 0 (EX 0)>>=_) _ _ s;refine Zt (Vi hit rfl (by simp) ?_);have f:=YF (Obj.mapFields (·.setIfInBounds 0 (EX 0))) hit rfl;refine Zt (Vi f rfl (by simp) ?_);refine Zt ?_;simp only[newExc,newTuple];refine Zt (Yz ?_<|by size_fits);refine Zt (m:=firstArgMember _ _) (J5 (a:=Ev) (by first|rfl|(simp only[firstArgMember];rfl)) ?_);refine Yz ?_ (by size_fits);simp only[raiseNew];refine Zt<|wpAny_handled ?_
 first|rw[show A.in1.handled=none from d]|rw[d]
 refine Zt<|Zy<|wpAny_throw ?_;refine Zt<|Je (T:="StopIteration") (b:=true) ⟨_,ZK _ rfl,rfl⟩ isSubtype_stop ?_;refine Zy<|h _ ?_;refine((Heap.ExtBut.push ?_ _).push _);exact((Es ..).trans<|Es ..).extBut
end
section
variable {prog:D3}{w:D6}{A:Em}{E:D2->Dh}{s:D7}{a:D1}{o:Obj}{es:Array (Int×D2)}{ep:Nat}{t:EM}
theorem kT {slot i:Nat}{Q:Option (D2×Nat)->Dh}(g:byText w=true)(d:s.heap.get? a=some o)(hd:o.data=.set es ep t)(c:t.fits es.size=true)
  (h:Q (((LW (w.params.setOrder a ep) es)[i]?).map λe=>(e.2,slot)) s):D4 (Eb prog w) A (setNext a slot i ep) Q E s:=by
 have b:(Setting.mk (Eb prog w).prog (Eb prog w).w.params).params.followText "set-order"=true:=g;unfold setNext Mj;refine Zt<|Ye d hd c ?_;refine Zt<|Zt<|Jq<|Zy ?_;dsimp only;rw[ZS b];have f:(ep !=ep)=false:=by simp
 rw[ZM (by rw[f];decide)];unfold setWalk Mj;refine Zt<|Zt<|Ye d hd c ?_;refine Zt<|Zt<|Jq<|Zy ?_;dsimp only;rw[ZS b];refine Zt<|Jq ?_;exact Zy<|Zy h
theorem X9 {slot i:Nat}{Q:Option (D2×Nat)->Dh}(e:byText w=false)(hl:t.led=true)(l:es.size<=1)(g:s.heap.get? a=some o)(hd:o.data=.set es ep t)(f:t.fits es.size=true)
  (h:Q (match es[EZ t.place slot]?,t.place[EZ t.place slot]? with|some (_,x),some j=>some (x,j+1)|_,_=>none) s):D4 (Eb prog w) A (setNext a slot i ep) Q E s:=by
 have b:(Setting.mk (Eb prog w).prog (Eb prog w).w.params).params.followText "set-order"=false:=e;have c:(!t.plain&&decide (es.size>1))=false:=by rw[ZP<|by lia,Js]
 have d:(!t.led&&!es.isEmpty)=false:=by rw[hl];rfl
 unfold setNext Mj;refine Zt<|Ye g hd f ?_;refine Zt<|Zt<|Jq<|Zy ?_;dsimp only;rw[ZM (by rw[b];decide)];refine Zt<|Zy ?_;show D4 _ _ (if(!t.plain&&decide (es.size>1))=true then _ else _) _ _ _;rw[ZM (by rw[c];decide)];refine Zt ?_;show D4 _ _ (if(!t.led&&!es.isEmpty)=true then _ else _) _ _ _;rw[ZM (by rw[d];decide)];exact Zy<|Zy h
theorem Fj {it:D1}{Q:D2->Dh}(hit:s.heap.get? it=some (MM f i a n ep))(h:Q (.ref it) s):D4 (Eb prog w) A (pyIter<|.ref it) Q E s:=by
 refine wpAny_pyIter_slot (xS hit) XX<|YH XX (xS hit) BY ?_<|FO _;show D4 _ _ (ret<|.ref it) _ _ s;exact Zy ⟨_,rfl,"set_iterator",_,xS hit,slot_next.lookup,h⟩
theorem aw (y:A.handled=none)(I:D1)(d:a≠I)(c:byText w=true)(hd:o.data=.set es ep t)(f:t.fits es.size=true) :
  Walks prog w A I [I,a] [I] es.size (λi v=>((LW (w.params.setOrder a ep) es).toList.map (·.2))[i]?=some v) (λi h=>h.get? I=some (MM (EX (0:Nat)) (i:Nat) a es.size ep)/\h.get? a=some o) where
 sub:=λb c=>by simp at c;simp[c]
 frame:=λ_ _ _ st l=>⟨l I (by simp) _ st.1,l a (by simp) _ st.2⟩
 item:=λi s Q E z st j=>by
  have hl:(LW (w.params.setOrder a ep) es).toList.length=es.size:=by rw[(jT _ es).length_eq,ZU]
  have he:(LW (w.params.setOrder a ep) es).toList[i]?=some ((LW (w.params.setOrder a ep) es).toList[i]'(by lia)):=ZD (by lia);generalize (LW (w.params.setOrder a ep) es).toList[i]'(by lia)=e at he;refine BE (slot:=0) (DR:=0) (x:=e.2) st.1 d st.2 hd f (λA E Q q=>kT c st.2 hd f ?_) λg u p=>?_
  .rwa[<-Yj,he]
  .exact j _ g s.toks (by rw[ZF,he];rfl) ⟨u,(p.2 a d).trans st.2⟩ λb n c e=>(p.2 b<|by simpa using c).trans e
 done:=λs Q E st j=>by
  have hl:(LW (w.params.setOrder a ep) es).toList.length=es.size:=by rw[(jT _ es).length_eq,ZU]
  refine jZ (slot:=0) y st.1 st.2 hd f (λA E Q q=>kT c st.2 hd f ?_) λg r=>j g s.toks λb n c e=>r b n (by simpa using c) e;rwa[<-Yj,Yv<|by lia]
 self:=λ_ _ _ _ st h=>Fj st.1 h
theorem az (K:A.handled=none)(I u:D1)(x:a≠I)(y:u≠I)(ps:List Nat)(g:ps.Perm<|Ef es.size)(hd:o.data=.set es ep t)(D:t.fits es.size=true) :
  Walks prog w A I [I,a,u] [I] es.size (λi v=>(ps.filterMap λp=>(es[p]?).map (·.2))[i]?=some v) (λi h=>h.get? I=some (MM (.ref u) (i:Nat) a es.size ep)/\h.get? a=some o/\h.get? u=some (SD ps)) where
 sub:=λb c=>by simp at c;simp[c]
 frame:=λ_ _ _ st r=>⟨r I (by simp) _ st.1,r a (by simp) _ st.2.1,r u (by simp) _ st.2.2⟩
 item:=λi s Q E M st n=>by
  have hl:ps.length=es.size:=by rw[g.length_eq,Yo]
  have f:ps[i]?=some (ps[i]'(by lia)):=ZD (by lia);have F:ps[i]'(by lia)<es.size:=Y0.mp<|g.mem_iff.mp<|Yt _;have he:es[ps[i]'(by lia)]?=some (es[ps[i]'(by lia)]'F):=Yg F;have all:ps.filterMap (λp=>(es[p]?).map (·.2))=ps.map λp=>(((es[p]?).map (·.2)).getD .none):=by
   have:∀d:List Nat,(∀q∈d,q<es.size)->d.filterMap (λp=>(es[p]?).map (·.2))=d.map λp=>(((es[p]?).map (·.2)).getD .none):=λd=>by
    induction d with
    |nil=>intro _;rfl
    |cons q d ih =>
     intro j;have B:es[q]?=some (es[q]'(j q Zx)):=Yg _;rw[Jh,ZT,B];simp only[YM,V6];rw[ih λz L=>j z<|Zw _ L]
   exact this ps λq j=>Y0.mp<|g.mem_iff.mp j
  refine KW st.1 st.2.2 st.2.1 hd D f he λl J C=>?_;refine n _ l s.toks ?_ ⟨J,(C.2 a x).trans st.2.1,(C.2 u y).trans st.2.2⟩ λb G c e=>(C.2 b<|by simpa using c).trans e;rw[all,ZF,f];simp only[YM,he,V6]
 done:=λs Q E st n=>by
  have hl:ps.length=es.size:=by rw[g.length_eq,Yo]
  exact IW K st.1 st.2.2 st.2.1 hd D (Yv<|by lia) λl H=>n l s.toks λb G c e=>H b G (by simpa using c) e
 self:=λ_ _ _ _ st h=>Fj st.1 h
theorem GI (xs:Array Nat)(h:xs.size<=1):EZ xs 0=0:=by
 unfold EZ;have b:xs.size=0\/xs.size=1:=by lia
 rcases b with e|e
 .rw[e];rfl
 .rw[e];unfold SetTable.below.go;rw[ZS<|by decide];show(if xs.getD 0 0<0 then _ else _)=_;rw[ZM<|by lia];rfl
theorem Nq (xs:Array Nat)(h:xs.size=1):EZ xs (xs.getD 0 0+1)=1:=by
 unfold EZ;rw[h];unfold SetTable.below.go;rw[ZS<|by decide];show(if xs.getD 0 (xs.getD 0 0+1)<xs.getD 0 0+1 then _ else _)=_;have e:∀d,xs.getD 0 d=xs[0]'(by lia):=λd=>by
  rw[Z6,Yg<|by lia];rfl
 rw[e,e,ZS<|by lia];rfl
def oF (t:EM):Nat->Nat
 | 0=>0
 |_+1=>t.place.getD 0 0+1
theorem ax (G:A.handled=none)(I:D1)(f:a≠I)(d:byText w=false)(hl:t.led=true)(g:es.size<=1)(hd:o.data=.set es ep t)(c:t.fits es.size=true) :
  Walks prog w A I [I,a] [I] es.size (λi v=>(es.toList.map (·.2))[i]?=some v) (λi h=>h.get? I=some (MM (EX ((oF t i:Nat):Int)) (i:Nat) a es.size ep)/\h.get? a=some o) where
 sub:=λb d=>by simp at d;simp[d]
 frame:=λ_ _ _ st y=>⟨y I (by simp) _ st.1,y a (by simp) _ st.2⟩
 item:=λi s Q E r st n=>by
  have H:i=0:=by lia
  subst H;have u:t.place.size=es.size:=by
   unfold Ma at c;rw[ZG]at c;exact V5 c.1
  have he:es[0]?=some (es[0]'r):=Yg r;have z:t.place[0]?=some (t.place[0]'(by lia)):=Yg (by lia);have p:t.place.getD 0 0=t.place[0]'(by lia):=by rw[Z6,z];rfl
  refine BE (slot:=0) (DR:=t.place.getD 0 0+1) (x:=(es[0]'r).2) st.1 f st.2 hd c (λA E Q q=>X9 d hl g st.2 hd c ?_) λl g C=>?_
  .rwa[GI _<|by lia,he,z,<-p]
  .refine n _ l s.toks ?_ ⟨g,(C.2 a f).trans st.2⟩ λb B d e=>(C.2 b<|by simpa using d).trans e;rw[ZF,Yj,he];rfl
 done:=λs Q E st n=>by
  have u:t.place.size=es.size:=by
   unfold Ma at c;rw[ZG]at c;exact V5 c.1
  refine jZ (slot:=oF t es.size) G st.1 st.2 hd c (λA E Q q=>X9 d hl g st.2 hd c ?_) λl D=>n l s.toks λb B d e=>D b B (by simpa using d) e;have F:es.size=0\/es.size=1:=by lia
  rcases F with e|e
  .rw[e];show Q (match es[EZ t.place 0]?,t.place[EZ t.place 0]? with|some (_,x),some j=>some (x,j+1)|_,_=>none) s;rwa[GI _<|by lia,Jg<|by lia]
  .rw[e];show Q (match es[EZ t.place<|t.place.getD 0 0+1]?,t.place[EZ t.place<|t.place.getD 0 0+1]? with|some (_,x),some j=>some (x,j+1)|_,_=>none) s;rwa[Nq _<|by lia,Jg<|by lia]
 self:=λ_ _ _ _ st h=>Fj st.1 h
end
def xQ (vs:Db)(b:Da):Prop:=vs.length=b.length/\∀(i:Nat) (v:D2),vs[i]?=some v->∃k t,b[i]?=some k/\v=.str k t
section
variable {prog:D3}{w:D6}{A:Em}{E:D2->Dh}{s:D7}{a:D1}{ks:Da}
theorem GM {l:List (Int×D2)}(h:Mg (strKind prog w) l):xQ (l.map (·.2)) (l.map keyOf):=by
 refine⟨by rw[Zu,Zu],λi v e=>?_⟩;rw[ZF]at e;cases q:l[i]? with
 |none=>rw[q]at e;cases e
 |some x =>
  rw[q]at e;have e:x.2=v:=Option.some.inj e;obtain⟨⟨k,c,_⟩,_⟩:=h x<|ZN q;obtain⟨t,b⟩:=YS c;exact⟨k,t,by rw[ZF,q];show some (keyOf x)=_;unfold keyOf;rw[b],by rw[<-e];exact b⟩
theorem SE {Q:D2->Dh}(P:yp prog w s.heap a ks)(S:ks.length<=1000)(F:A.handled=none)
  (h:∀(I:D1) (fp:Dd) (h':Ej) d tk (vs:Db) (zs:Da) (St:Nat->Ej->Prop),s.heap.objs.size<=I->(∀b∈fp,b=a\/s.heap.objs.size<=b)->(∀b o,s.heap.get? b=some o->h'.get? b=some o)->zs.Perm ks->xQ vs zs -> Walks prog w A I fp [I] ks.length (λi v=>vs[i]?=some v) St->St 0 h'->Q (.ref I) { s with heap:=h',drawn:=d,toks:=tk }):D4 (Eb prog w) A (pyIter<|.ref a) Q E s:=by
 obtain⟨o,es,ep,t,x,R,hd,X⟩:=P;have g:=XJ X;obtain⟨f,H,C,D,l,J⟩:=X;have n:a<s.heap.objs.size:=ZR x;have r:a≠s.heap.objs.size:=ZX n;refine OL x R hd D (by lia) (λq=>?_)<|λq B d tk y=>?_
 .have kp:∀b u,s.heap.get? b=some u->(s.heap.push<|MM (EX 0) 0 a es.size ep).get? b=some u:=λb u e=>ZC _ e;have j:∀b∈[s.heap.objs.size,a],b=a\/s.heap.objs.size<=b:=λb C=>by
   rcases ZI.mp C with z|z
   .exact .inr (Vk z.symm)
   .exact .inl (Zv.mp z)
  cases c:byText w with
  |true =>
   have W:=aw (prog:=prog) (A:=A) (es:=es) (ep:=ep) (t:=t) (o:=o) F s.heap.objs.size r c hd D;have L:=jT (w.params.setOrder a ep) es;rw[g]at W;exact h _ _ _ s.drawn s.toks _ _ _ (ZB _) j kp ((L.map keyOf).trans H) (GM<|f.perm L) W ⟨by rw[<-g];exact ZK _ rfl,ZC _ x⟩
  |false =>
   have O:es.size<=1:=by
    rw[c]at q
    by_cases z:es.size>1
    .rw[J<|by lia,Zz z]at q;cases q
    .lia
   have hl:t.led=true:=by rw[l];show(!byText w)=true;rw[c];rfl
   have W:=ax (prog:=prog) (A:=A) (es:=es) (ep:=ep) (t:=t) (o:=o) F s.heap.objs.size r c hl O hd D;rw[g]at W;exact h _ _ _ s.drawn s.toks _ _ _ (ZB _) j kp H (GM f) W ⟨by rw[<-g];exact ZK _ rfl,ZC _ x⟩
 .have G:a≠s.heap.objs.size+1:=ZX<|Vd n;have W:=az (prog:=prog) (w:=w) (A:=A) (es:=es) (ep:=ep) (t:=t) (o:=o) (a:=a) F (s.heap.objs.size+1) s.heap.objs.size G (ZX<|Vl _) B y hd D;have K:(B.filterMap λp=>es[p]?).Perm es.toList:=by
   refine(y.filterMap _).trans ?_;have e:=Vs es.toList;rw[ZU]at e;have M:(Ef es.size).filterMap (λp=>es[p]?)=(Ef es.size).filterMap λi=>es.toList[i]?:=by congr 1;funext p;exact(Yj ..).symm
   rw[M,e]
  have hv:(B.filterMap λp=>(es[p]?).map (·.2))=(B.filterMap λp=>es[p]?).map (·.2):=by rw[List.map_filterMap]
  rw[g]at W;rw[hv]at W;have N:(s.heap.push<|SD B).objs.size=s.heap.objs.size+1:=Jr _ _;refine h _ _ _ d tk _ _ _ (J4 _) (λb C=>?_) (λb u e=>ZC _<|ZC _ e) ((K.map keyOf).trans H) (GM<|f.perm K) W ⟨?_,ZC _<|ZC _ x,ZC _<|ZK _ rfl⟩
  .rcases ZI.mp C with z|z
   .exact .inr (by rw[z];exact J4 _)
   .rcases ZI.mp z with z|z
    .exact .inl z
    .exact .inr (Vk (Zv.mp z).symm)
  .rw[<-N,<-g];exact ZK _ rfl
theorem OK (e:s.TypeIs (.ref a) "set"){Q:Bool->Dh}(h:Q false s):D4 (Eb prog w) A (Builtin.List.listLengthHint<|.ref a) Q E s:=by
 unfold Builtin.List.listLengthHint;refine Zt<|Vz e PySem.F.slot_set_len.lookup ?_;generalize d:("set.__len__":String)=f;wp_delta;rw[show splitId f=some ("set","__len__") from by subst d;decide+kernel];subst d;refine Zt (Je (T:="set") (b:=true) e (by rw[Jt];kernel_rfl) ?_);refine YD (λc=>absurd c<|by decide) (λ_=>?_);refine YD (λ_=>?_) (λc=>absurd (by decide+kernel) c);refine Zt<|Vm e ?_;exact Zy h
open PySem.Calls PyProof.V in
theorem Ob {R:Result->Dh}(Y:A.handled=none)(x:yp prog w s.heap a ks)(hk:ks.length<=1000)(S:D1)(p:S≠a)(res:D2)(n:Nat)(K:s.heap.get? S=some { cls:=.type "list",data:=.seq #[] n })
  (X:∀h' d tk DI c' (zs:Da),(∀b o,b≠S->s.heap.get? b=some o->h'.get? b=some o)->h'.get? S=some { cls:=.type "list",dict:=none,data:=.seq DI c',slots:=#[] }->zs.Perm ks->xQ DI.toList zs->R (.ok<|.ret res) { s with heap:=h',drawn:=d,toks:=tk }) :
  D4 (Eb prog w) A.in1 (E8 (.ref S) (.ref a) res)
   (λfin s'=>match fin with|.done f=>R (.ok f) s'|.again c'=>c'.quiet=true/\LK (Eb prog w) A c' R s') (λe s'=>R (.error e) s') s:=by
 have r:S<s.heap.objs.size:=ZR K;have ty:s.TypeIs (.ref a) "set":=by obtain⟨o,O,N,t,C,E,_⟩:=x;exact⟨o,C,E.1⟩
 unfold E8;refine Zt<|Vm (T:="set") ty ?_;have Q:Builtin.List.listSameRef (.ref S) (.ref a)=false:=by simp[Builtin.List.listSameRef,p]
 have nl:(EG "set"==EG "list")=false:=by decide
 have nt:(EG "set"==EG "tuple")=false:=by decide
 simp only[Q,nl,nt,Bool.or_false,YA,Vt];refine Zt<|SE (A:=A.in1) x hk Y λI P h' d tk vs zs St U B kp hz tx W st=>?_;have H:LH { s with heap:=h',drawn:=d,toks:=tk } (.ref a) "set":=by obtain⟨o,O,N,t,C,E,_⟩:=x;exact⟨o,kp _ _ C,E.1⟩
 refine Zt<|YR<|OK H ?_;have q:S∉P:=λz=>by
  rcases B S z with e|e
  .exact p e
  .exact YO _ (Z4 r e)
 have c:=kp _ _ K;refine YD (λ_=>?_) (λz=>absurd (by decide) z);refine Zt<|Vg ?_;refine Zt ?_;show D4 _ _ (updateSeq S (·.push .none)>>=λ_=>updateSeq S (·.pop)) _ _ _;refine Zt<|wpAny_updateSeq c rfl ?_;have g:=YF (EU (·.push Ev)) c rfl;refine wpAny_updateSeq (hz:=by seq_fits) g rfl ?_;have j:=YF (EU (·.pop)) g rfl;refine Zy ⟨Vx PySem.F.plain_extend_loop _,?_⟩;have u:∀b o,b≠S->h'.get? b=some o->((h'.update S (EU (·.push Ev))).update S (EU (·.pop))).get? b=some o:=λb o l e =>
  (VM _ _<|Eh l).trans ((VM _ _<|Eh l).trans e)
 have G:=W.frame 0 _ _ st λb l o e=>u b o (λz=>q<|z▸l) e;refine codeAny_extend_loopS W.toS (by rw[YU];lia) S q res ks.length 0 _ #[] _ rfl (Yf _) G j (ItemsOf.nil _) λs' DI c' L v J=>?_;rw[Moved.eq_with L];have D:DI.toList=vs:=by
  have hl:DI.toList.length=vs.length:=by rw[ZU,J.1,tx.1,hz.length_eq]
  refine VT λi=>?_
  by_cases Z:i<DI.size
  .have e:=Yg Z;rw[Yj,e];exact(J.2 i _ e).symm
  .rw[Yv (by rw[ZU];lia),Yv (by rw[<-hl,ZU];lia)]
 refine X s'.heap d s'.toks DI c' zs (λb o l e=>L.heap b o (λh=>?_)<|u b o l<|kp b o e) v hz (by rwa[D])
 rcases ZI.mp h with M|h
 .exact l M
 .have y:b=I:=Zv.mp h;exact absurd (y▸ZR e)<|Nat.not_lt.mpr U
open PySem.Calls PyProof.V PySem.W in
theorem Mt {R:Db->Dh}(G:A.handled=none)(B:yp prog w s.heap a ks)(i:ks.length<=1000)
  (h:∀(h':Ej) d (tk:Nat) (vs:Db) (zs:Da),(∀b o,s.heap.get? b=some o->h'.get? b=some o)->zs.Perm ks->xQ vs zs->R vs { s with heap:=h',drawn:=d,toks:=tk }):D4 (Eb prog w) A (collect<|.ref a) R E s:=by
 have v:a<s.heap.objs.size:=by obtain⟨o,J,I,t,H,_⟩:=B;exact ZR H
 unfold collect;refine Zt<|wpAny_runValue<|Jj entry_proto_collect' ?_;rw[EW PySem.F.plain_proto_collect _];show D4 _ A.in1 (newList []>>=λl=>again<|.builtin "list.__iadd__" ⟨[l,.ref a],[]⟩) _ _ s;refine Zt<|Yz ?_;refine Zy ⟨Vx PySem.F.plain_list_iadd _,Jj entry_list_iadd' ?_⟩;rw[EW PySem.F.plain_list_iadd _];have g:(s.heap.push { cls:=.type "list",data:=.seq ([]:Db).toArray }).get? s.heap.objs.size=some { cls:=.type "list",data:=.seq #[] }:=ZK _ rfl;show D4 _ A.in1 (E8 (.ref s.heap.objs.size) (.ref a)<|.ref s.heap.objs.size) _ _ _;have key:=Ob (prog:=prog) (w:=w) (A:=A) (a:=a) (ks:=ks) (s:={ s with heap:=s.heap.push { cls:=.type "list",data:=.seq ([]:Db).toArray } })
  (R:=λ(q:Result) (z:D7)=>∃(h':Ej) (d:Drawn) (tk:Nat) (j:Array D2) (n:Nat) (zs:Da),q=.ok (.ret<|.ref s.heap.objs.size)/\z={ s with heap:=h',drawn:=d,toks:=tk } /\ (∀b o,s.heap.get? b=some o->h'.get? b=some o)/\h'.get? s.heap.objs.size=some { cls:=.type "list",dict:=none,data:=.seq j n,slots:=#[] }/\zs.Perm ks/\xQ j.toList zs)
  G (B.at λo e=>ZC _ e) i s.heap.objs.size (J6 v) (.ref s.heap.objs.size) 0 g
  (λh' d tk j n zs i c p r=>⟨h',d,tk,j,n,zs,rfl,rfl,λb o e=>i b o (ZX<|ZR e)<|ZC _ e,c,p,r⟩)
 refine Y1 key (λu z x=>?_) λe z x=>?_
 .cases u with
  |done f =>
   obtain⟨h',d,tk,j,n,zs,e,rfl,i,c,p,r⟩:=x;cases e;show D4 _ A (load s.heap.objs.size>>=_) _ _ _;refine Zt<|wpAny_load c ?_;exact Zy<|h h' d tk _ zs i p r
  |again c₁ =>
   refine⟨x.1,JM x.2 λq C y=>?_⟩;obtain⟨h',d,tk,j,n,zs,rfl,rfl,i,c,p,r⟩:=y;show D4 _ A (load s.heap.objs.size>>=_) _ _ _;refine Zt<|wpAny_load c ?_;exact Zy<|h h' d tk _ zs i p r
 .obtain⟨_,_,_,_,_,_,D,_⟩:=x;cases D
end
section
variable {prog:D3}{w:D6}{A:Em}{E:D2->Dh}{s:D7}
set_option maxHeartbeats 6400000 in
theorem kU {T:String}{st:D1->Nat->Ej->Prop}{it:Obj}{l:D1}{Do:Array D2}{xs:Da}{Q:D2->Dh}(hh:A.handled=none)(hn:∃ol:Obj,s.heap.get? l=some ol/\ol.cls=.type T/\∃n,ol.data=.seq Do n)(af:L9 (.type T) (.type "set")=E7 false)(ad:L9 (.type T) (.type "frozenset")=E7 false)(an:(EG T==EG "dict")=false)
  (hp:∀{A:Em} {E:D2->Dh} {s:D7} {Q:D2->Dh},(∃ol:Obj,s.heap.get? l=some ol/\ol.cls=.type T/\∃n,ol.data=.seq Do n)->Q (.ref s.heap.objs.size) { s with heap:=s.heap.push it }->D4 (Eb prog w) A (pyIter<|.ref l) Q E s)
  (hw:∀{A:Em},A.handled=none->∀I,l≠I->Walks prog w A I [I,l] [I] Do.size (λi v=>Do[i]?=some v) (st I))
  (h0:∀h:Ej,(∃ol:Obj,h.get? l=some ol/\ol.cls=.type T/\∃n,ol.data=.seq Do n)->st h.objs.size 0 (h.push it)) (Dr:xs.length=Do.size) (hi:∀(i:Nat) (v:D2),Do[i]?=some v->∃k t,xs[i]?=some k/\v=.str k t) (hb:Do.size+1<LC)
  (h:∀(h':Ej) (tk:Nat),yp prog w h' s.heap.objs.size (uniq xs)->(∀b o,s.heap.get? b=some o->h'.get? b=some o)->Q (.ref s.heap.objs.size) { s with heap:=h',toks:=tk }):D4 (Eb prog w) A (call (.type "set") [.ref l]) Q E s:=by
 obtain⟨c,tl,ac⟩:=F.called_set.mro;have P:=F.called_set.made;have ah:=F.called_set.sub;have h1:=F.called_set.notType;have h2:=F.called_set.canCreate;have al:=F.typeCall_set_1<|.ref l;refine wpAny_call<|UM ?_;show D4 _ _ (callAny (.type "set") _) _ _ _;refine Zy ⟨Code.quiet_builtin _<|by decide+kernel,Jj F.entry_type_call ?_⟩;rw[Around.under_plain (weight_type_call_type "set" [.ref l] []) rfl]
 repeat (any_goals (first|assumption|wp_step))
 refine JM (Nc (.ref l) (E:=E) (Q₁:=λobj f=>obj=.ref s.heap.objs.size/\f={ s with heap:=s.heap.push (zV w) }) ⟨rfl,rfl⟩) λr f U=>?_;cases r with
 |error e=>exact U
 |ok fl =>
  cases fl with
  |ret obj =>
   obtain⟨rfl,rfl⟩:=U;have J:(s.heap.push<|zV w).get? s.heap.objs.size=some (zV w):=ZK _ rfl;have hT:LH { s with heap:=s.heap.push (zV w) } (.ref s.heap.objs.size) "set":=⟨_,J,rfl⟩;have am:=F.called_set.init.lookup;have ak:=F.called_set.init.bind<|.ref s.heap.objs.size
   repeat (any_goals (first|assumption|wp_step))
   refine JM (codeAny_call_builtin (R:=wants (λr g=>r=.none/\∃h' tk,g={ s with heap:=h',toks:=tk }/\yp prog w h' s.heap.objs.size (uniq xs) /\ (∀b o,s.heap.get? b=some o->h'.get? b=some o)) E) F.called_set.init.plain F.entry_set_init (check_set_init_1 hT ?_)) λC g d=>?_
   .have p:∃ol:Obj,(s.heap.push<|zV w).get? l=some ol/\ol.cls=.type T/\∃n,ol.data=.seq Do n:=let ⟨ol,e,r⟩:=hn;⟨ol,ZC _ e,r⟩;obtain⟨ol,S,u,nl,x⟩:=id p;have z:l<s.heap.objs.size:=by obtain⟨_,e,_⟩:=hn;exact ZR e
    obtain⟨ai,Y,X,G⟩:=ol;simp only at u x;subst u;subst x;unfold zV at J S;unfold Builtin.«set.__init__» noKeywords ES;generalize H:pyIter=PI;unfold zV
    wp_walk
    subst H;refine hp p ?_;refine Zt<|wpAny_runValue ?_;have N:A.in1.in1.in1.handled=none:=by simp[hh]
    have B:l≠(s.heap.push<|zV w).objs.size:=by
     rw[Jr];exact ZX<|Vd z
    have K:s.heap.objs.size∉[(s.heap.push<|zV w).objs.size,l]:=by
     rw[Jr];simp only[ZI,Zv,Y4,Ua,not_or];exact⟨ZX<|Vl _,J6 z⟩
    refine SF ((hw N _ B).toS) s.heap.objs.size K xs Dr hi hb (Do.size-0) 0 _ (by lia) (Yf _)
     (h0 _ p) ?hS0 ?hR
    case hS0 =>
     have y:((s.heap.push<|zV w).push it).get? s.heap.objs.size=some (zV w):=ZC _ J;exact Kk y
    case hR =>
     intro s' D j;obtain⟨h',g',d',ab,Z⟩:=s';have eg:g'=s.gens:=D.gens;have ed:d'=s.drawn:=D.drawn;have eo:Z=s.os:=D.os;subst eg;subst ed;subst eo;show D4 _ _ _ _ _ _;refine Zy ?_;show D4 _ _ (ret Ev) _ _ _;refine Zy ⟨rfl,h',ab,rfl,j,λb o e=>?_⟩;have q:=ZR e;have L:b≠s.heap.objs.size:=ZX q;have M:b≠(s.heap.push<|zV w).objs.size:=by
      rw[Jr];exact ZX<|Vd q
     exact D.heap b o (by simp only[ZI,Zv,Y4,Ua,not_or];exact⟨L,M⟩)<|ZC _<|ZC _ e
   .cases C with
    |error e=>exact d
    |ok fl₂ =>
     cases fl₂ with
     |ret r =>
      obtain⟨rfl,h',tk,rfl,j,O⟩:=d
      repeat (any_goals (first|assumption|wp_step))
      exact h _ _ j O
     |_=>exact d.elim
  |_=>exact U.elim
theorem call_set_list {l:D1}{Do:Array D2}{xs:Da}{Q:D2->Dh}(e:A.handled=none)(hl:s.heap.IsList l Do)(c:xs.length=Do.size)(f:∀(i:Nat) (v:D2),Do[i]?=some v->∃k t,xs[i]?=some k/\v=.str k t)(d:Do.size+1<LC)
  (h:∀(h':Ej) (tk:Nat),yp prog w h' s.heap.objs.size (uniq xs)->(∀b o,s.heap.get? b=some o->h'.get? b=some o)->Q (.ref s.heap.objs.size) { s with heap:=h',toks:=tk }):D4 (Eb prog w) A (call (.type "set") [.ref l]) Q E s :=
 kU e hl sub_list_set sub_list_frozenset (by decide) (λh q=>J9 h q) (λh I n=>Walks.list h I l n Do) (λh hl=>⟨⟨_,ZK _ rfl,rfl,rfl⟩,Heap.IsList.push hl _⟩) c f d h
theorem GG {l:D1}{Do:Array D2}{xs:Da}{Q:D2->Dh}(e:A.handled=none)(hl:s.heap.IsTuple l Do)(c:xs.length=Do.size)(f:∀(i:Nat) (v:D2),Do[i]?=some v->∃k t,xs[i]?=some k/\v=.str k t)(d:Do.size+1<LC)
  (h:∀(h':Ej) (tk:Nat),yp prog w h' s.heap.objs.size (uniq xs)->(∀b o,s.heap.get? b=some o->h'.get? b=some o)->Q (.ref s.heap.objs.size) { s with heap:=h',toks:=tk }):D4 (Eb prog w) A (call (.type "set") [.ref l]) Q E s :=
 kU e hl sub_tuple_set sub_tuple_frozenset (by decide) (λh q=>wpAny_pyIter_tuple h q) (λh I n=>Walks.tuple h I l n Do) (λh hl=>⟨⟨_,ZK _ rfl,rfl,rfl⟩,Heap.IsTuple.push hl _⟩) c f d h
end
def f5 (N i:Nat):Nat:=(i*5+1) % N
def NY (N:Nat):Nat->Nat->Nat
 | 0,i=>i
 |k+1,i=>NY N k<|f5 N i
theorem Ip (N:Nat):∀(a b i:Nat),NY N (a+b) i=NY N b (NY N a i)
 | 0,b,i=>by rw[VO];rfl
 |a+1,b,i=>by
  rw[show a+1+b=(a+b)+1 by lia];show NY N (a+b) (f5 N i)=NY N b (NY N a<|f5 N i);exact Ip N a b<|f5 N i
def TN (N:Nat):Nat->Nat->List Nat
 | 0,_=>[]
 |n+1,i=>i::TN N n (f5 N i)
theorem HF:∀{n i s:Nat},s∈TN N n i->∃k,k<n/\NY N k i=s
 |n+1,i,s,h=>by
  rcases ZI.mp h with rfl|h
  .exact⟨0,by lia,rfl⟩
  .obtain⟨k,b,e⟩:=HF h;exact⟨k+1,by lia,e⟩
structure Full (N:Nat):Prop where
 all:∀s,s<N->∃k,k<N/\NY N k 0=s
 per:NY N N 0=0
theorem kJ {N:Nat}(b:(Ef N).all (λs=>(TN N N 0).contains s)=true)(c:NY N N 0=0):Full N:=⟨λs d=>by
 have:=Z9.mp b s<|Y0.mpr d;exact HF<|List.contains_iff_mem.mp this,c⟩
theorem SM:Full 8:=kJ (by decide+kernel) (by decide+kernel)
theorem To:Full 16:=kJ (by decide+kernel) (by decide+kernel)
theorem Tp:Full 32:=kJ (by decide+kernel) (by decide+kernel)
theorem Tq:Full 64:=kJ (by decide+kernel) (by decide+kernel)
theorem RP:Full 128:=kJ (by decide+kernel) (by decide+kernel)
theorem RQ:Full 256:=kJ (by decide+kernel) (by decide+kernel)
theorem Full.any (h:Full N){i s:Nat}(e:i<N)(hs:s<N):∃k,k<N/\NY N k i=s:=by
 obtain⟨a,f,c⟩:=h.all i e;obtain⟨b,g,d⟩:=h.all s hs
 by_cases z:a<=b
 .refine⟨b-a,by lia,?_⟩;rw[<-c,<-Ip,show a+(b-a)=b by lia,d]
 .refine⟨N-a+b,by lia,?_⟩;rw[<-c,<-Ip,show a+(N-a+b)=N+b by lia,Ip,h.per,d]
section
variable {mask:Nat}{owner:Array (Option Nat)}
theorem BO {i k:Nat}(h:((Ef<|Lv mask i+1-i).find? λk=>(owner.getD (i+k)<|some 0).isNone)=some k):owner.getD (i+k) (some 0)=none:=by
 have:=JL h;exact Option.isNone_iff_eq_none.mp this
theorem By {i:Nat}(h:((Ef<|Lv mask i+1-i).find? λk=>(owner.getD (i+k)<|some 0).isNone)=none):owner.getD i (some 0)≠none:=by
 have:=VG.mp h 0 (Y0.mpr (by unfold Lv;split<;>lia));intro z;rw[Nat.add_zero,z]at this;exact this rfl
theorem NF:∀(n fuel i:Nat),(∃k,k<=n/\owner.getD (NY (mask+1) k i) (some 0)=none)->n<fuel->∃j,SetTable.layClean.free mask owner fuel i 0=some j/\owner.getD j (some 0)=none:=by
 intro n
 induction n with
 |zero =>
  intro fuel i ⟨k,c,e⟩ b;have:k=0:=by lia
  subst this;obtain⟨f,rfl⟩:∃f,fuel=f+1:=⟨fuel-1,by lia⟩;unfold SetTable.layClean.free;cases q:(Ef<|Lv mask i+1-i).find? λk=>(owner.getD (i+k)<|some 0).isNone with
  |some k=>exact⟨_,rfl,BO q⟩
  |none=>exact absurd e<|By q
 |succ n ih =>
  intro fuel i ⟨k,c,e⟩ b;obtain⟨f,rfl⟩:∃f,fuel=f+1:=⟨fuel-1,by lia⟩;unfold SetTable.layClean.free;cases q:(Ef<|Lv mask i+1-i).find? λk=>(owner.getD (i+k)<|some 0).isNone with
  |some k=>exact⟨_,rfl,BO q⟩
  |none =>
   cases k with
   |zero=>exact absurd e<|By q
   |succ k =>
    exact ih f _ ⟨k,by lia,e⟩ (by lia)
theorem NE (F:Full<|mask+1)(he:∃s,s<mask+1/\owner.getD s (some 0)=none):∀(m fuel i p:Nat),p<32 ^ m->m+(mask+1)<=fuel->i<mask+1->∃j,SetTable.layClean.free mask owner fuel i p=some j/\owner.getD j (some 0)=none:=by
 obtain⟨s,h,d⟩:=he;intro m
 induction m with
 |zero =>
  intro fuel i p c g b;have:p=0:=by lia
  subst this;obtain⟨k,l,e⟩:=F.any b h;exact NF mask fuel i ⟨k,by lia,by rw[e];exact d⟩ (by lia)
 |succ m ih =>
  intro fuel i p c g b;obtain⟨f,rfl⟩:∃f,fuel=f+1:=⟨fuel-1,by lia⟩;unfold SetTable.layClean.free;cases q:(Ef<|Lv mask i+1-i).find? λk=>(owner.getD (i+k)<|some 0).isNone with
  |some k=>exact⟨_,rfl,BO q⟩
  |none =>
   refine ih f _ _ ?_ (by lia) (Nat.mod_lt _<|by lia);rw[Nat.pow_succ]at c;exact Nat.div_lt_of_lt_mul (by lia)
end
theorem RH (h:Int):Ll h<32 ^ 13:=by
 unfold Ll;have b:0<=h % (2 ^ 64:Int):=Int.emod_nonneg _ (by decide);have c:h % (2 ^ 64:Int)<2 ^ 64:=Int.emod_lt_of_pos _ (by decide);have:(2 ^ 64:Int)<(32 ^ 13:Nat):=by decide
 lia
theorem HV {k:Nat}:∀{l:List (Option Nat)} {j:Nat},l[j]?=some none->((l.set j (some k)).filterMap id).Perm (k::l.filterMap id)
 |x::l,0,h=>by
  have:x=none:=Option.some.inj h;subst this;exact List.Perm.refl _
 |x::l,j+1,h=>by
  have b:=HV (k:=k) (l:=l) (j:=j) h;rw[List.set_cons_succ];cases x with
  |none=>exact b
  |some y =>
   show(y::(l.set j (some k)).filterMap id).Perm (k::y::l.filterMap id);exact(b.cons y).trans (List.Perm.swap ..)
theorem Ic:∀{l:List (Option Nat)},(l.filterMap id).length<l.length->∃j,j<l.length/\l[j]?=some none
 |[],h=>absurd h<|Uf _
 |none::l,_=>⟨0,by simp,rfl⟩
 |some x::l,h=>by
  have h:(l.filterMap id).length+1<l.length+1:=h;obtain⟨j,b,e⟩:=Ic (l:=l) (by lia);exact⟨j+1,by simp;lia,e⟩
structure Laid (N k:Nat)(owner:Array<|Option Nat):Prop where
 sz:owner.size=N
 pm:(owner.toList.filterMap id).Perm<|Ef k
theorem R0 {mask:Nat}(F:Full<|mask+1):∀(hs:List Int) (owner:Array<|Option Nat) (k:Nat),Laid (mask+1) k owner->k+hs.length<=mask->∃owner',Laid (mask+1) (k+hs.length) owner' /\
  (hs.foldl (λacc h=>do
   let (owner,k) <-acc
   let j <-SetTable.layClean.free mask owner (SetTable.turns mask) (Ll h % (mask+1)) (Ll h)
   E7 (owner.setIfInBounds j<|some k,k+1)) (some (owner,k)):Option<|Array (Option Nat)×Nat)=some (owner',k+hs.length):=by
 intro hs
 induction hs with
 |nil=>intro owner k L _;exact⟨owner,L,rfl⟩
 |cons h hs ih =>
  intro owner k L p;rw[ZL]at p;have r:=L.pm.length_eq;rw[Yo]at r;have t:owner.toList.length=mask+1:=by rw[ZU];exact L.sz
  obtain⟨s,q,e⟩:=Ic (l:=owner.toList) (by lia);have d:owner.getD s (some 0)=none:=by
   rw[Yj]at e;rw[Z6,e];rfl
  obtain⟨j,o,b⟩:=NE (owner:=owner) F ⟨s,by lia,d⟩ 13 (SetTable.turns mask) (Ll h % (mask+1)) (Ll h) (RH h) (by unfold SetTable.turns;lia) (Nat.mod_lt _<|by lia);have f:j<owner.size:=by
   rcases VU j owner.size with z|z
   .exact z
   .rw[Z6,Jg z]at b;cases b
  have g:Laid (mask+1) (k+1) (owner.setIfInBounds j<|some k):=by
   refine⟨by rw[Array.size_setIfInBounds];exact L.sz,?_⟩;rw[Array.toList_setIfInBounds];have c:owner.toList[j]?=some none:=by
    rw[Yj,Yg f];rw[Z6,Yg f]at b;exact congrArg some b
   refine(HV c).trans ((L.pm.cons k).trans ?_);rw[Ug];exact(List.perm_append_singleton k<|Ef k).symm
  obtain⟨owner',i,n⟩:=ih (owner.setIfInBounds j<|some k) (k+1) g (by lia);refine⟨owner',by rw[ZL,show k+(hs.length+1)=k+1+hs.length by lia];exact i,?_⟩;rw[JK,ZL,show k+(hs.length+1)=k+1+hs.length by lia,<-n]
  congr 1
  show(do
   let j <-SetTable.layClean.free mask owner (SetTable.turns mask) (Ll h % (mask+1)) (Ll h)
   E7 (owner.setIfInBounds j<|some k,k+1):Option<|Array (Option Nat)×Nat)=_
  rw[o];rfl
theorem OZ (owner:Array<|Option Nat):∀n,n=owner.size->((Ef n).filterMap λj=>(owner.getD j none).map (j,·)).map (·.2)=owner.toList.filterMap id:=by
 intro n b;have e:owner.toList=(Ef n).map λj=>owner.getD j none:=by
  apply VT
  intro i;rw[Yj,ZF]
  by_cases z:i<n
  .rw[JZ z,Yg<|by lia,YM,Z6,Yg<|by lia];rfl
  .rw[Yv (by simp;lia),Jg<|by lia];rfl
 rw[e,List.filterMap_map,List.map_filterMap]
 congr 1
 funext j
 show((owner.getD j none).map (j,·)).map (·.2)=id (owner.getD j none);cases owner.getD j none<;>rfl
theorem MO {mask finger moves:Nat}{led plain:Bool}{hs:Array Int}(F:Full<|mask+1)(h:hs.size<=mask):∃t order,SetTable.laid mask finger moves led plain hs=some (t,order)/\order.toList.Perm (Ef hs.size)/\t.place.size=hs.size/\t.dummies=#[]/\t.mask=mask/\t.led=led/\t.plain=plain:=by
 have d:Laid (mask+1) 0 (Array.replicate (mask+1) none):=by
  refine⟨Array.size_replicate,?_⟩;rw[Array.toList_replicate];have:∀n,(EY n (none:Option Nat)).filterMap id=[]:=λn=>by
   induction n with
   |zero=>rfl
   |succ n ih=>rwa[List.replicate_succ]
  rw[this];exact List.Perm.refl _
 obtain⟨b,L,e⟩:=R0 F hs.toList _ 0 d (by rw[ZU];lia);rw[VO,ZU]at L e;have f:SetTable.layClean mask hs=some b:=by
  unfold SetTable.layClean;rw[<-Array.foldl_toList];exact congrArg (Option.map (·.1)) e
 have lm:=OZ b (mask+1) L.sz.symm;have c:=L.pm;rw[<-lm]at c;have g:=c.length_eq;rw[Zu,Yo]at g;refine⟨_,_,by unfold SetTable.laid;rw[f];rfl,by simpa using c,?_,rfl,rfl,rfl,rfl⟩;show(List.map _ _).toArray.size=_;rwa[ZV,Zu]
end AxS
namespace L2
open PySem PySem.Spec PyProof.Rows AxS
def U1 (P:D3)(w:D6)(a:D1)(ks:Da):HO:=.ext λh=>yp P w h a ks
theorem B0 (x:yp P w h a ks):yq P w H h a (U1 P w a ks):=by
 obtain⟨o,d,c,t,b,r⟩:=id x;exact⟨x,⟨o,b⟩,λf g z k=>yp.at z λo e=>k o e⟩
theorem k8 (x:yq P w H h a<|U1 P w a ks):yp P w h a ks:=x.1
section
variable {X:Cx}{K:CB}
def Sn (P:D3)(w:D6):Dj->Hp->VK->Prop:=λc H Q=>∃(a:D1) (b:Da),c=[.ref a]/\H a=some (U1 P w a b)/\Q (.int b.length) H
theorem Nt:xg X (.builtin "len") (Sn X.prog X.w):=by
 intro n s z H y x Q I r h;obtain⟨a,v,rfl,g,q⟩:=h;obtain⟨u,rfl,l⟩:=wU r;cases l;obtain⟨o,f,p,t,j,b,hd,c⟩:=k8<|I.hok a _ g;have e:=XJ c;obtain⟨_,_,d,i,_⟩:=c;have d:f.size<4096:=d;refine call_len_set j b hd i (by lia) ?_;rw[e];exact⟨.int _,H,I.tok _,⟨_,rfl⟩,q⟩
theorem Inv.drew {d:Drawn}(I:Inv X Dq σ H s):Inv X Dq σ H { s with drawn:=d } :=
 ⟨I.ok,I.os,I.bare,I.base,I.loc,I.cell,I.free,I.v8,I.pin,I.hok,I.len⟩
theorem vK:∀{vs:Db} {zs:Da},xQ vs zs->StrsAre vs zs
 |[],[],_=>.nil
 |[],_::_,h=>by cases h.1
 |_::_,[],h=>by cases h.1
 |v::vs,z::zs,h=>by
  obtain⟨k,t,e,rfl⟩:=h.2 0 v rfl;have e:z=k:=Option.some.inj e;subst e;exact .cons _ _ (vK ⟨by have:=h.1;simpa using this,λi v e=>by
   obtain⟨k,t,b,c⟩:=h.2 (i+1) v (by simpa using e);exact⟨k,t,by simpa using b,c⟩⟩)
def P8 (P:D3)(w:D6):Dj->Hp->VK->Prop:=λd H Q=>∃(a:D1) (b:Da),d=[.ref a]/\H a=some (U1 P w a b)/\b.length<64/\∀l c,H l=none->c.Perm b->sortedS c=true->Q (.ref l) (upd H l<|.lst<|c.map V.str)
theorem Bh {Q:VK}{u:D2}{ks:Da}(I:Inv X Dq σ H s)(N:ks.length<64)(q:∀l ss,H l=none->ss.Perm ks->sortedS ss=true->Q (.ref l) (upd H l<|.lst<|ss.map V.str))
  (j:∀{R:Db->Dh} {E:D2->Dh},(∀(h':Ej) d (tk:Nat) (vs:Db) (zs:Da),(∀b o,s.heap.get? b=some o->h'.get? b=some o)->zs.Perm ks->xQ vs zs->R vs { s with heap:=h',drawn:=d,toks:=tk })->D4 (Eb X.prog X.w) X.A.in1 (collect u) R E s) :
  D4 (Eb X.prog X.w) X.A (call (.builtin "sorted") [u]) (EP X Dq σ Q) X.xe s:=by
 refine Calls.call_function_entry kind_sorted plain_sorted entry_sorted (args_sorted1 _) ?_;unfold Builtin.«sorted»;refine Zt (m:=checkCount "sorted" 1 1 _)<|Zy ?_;refine Zt<|j λh' d tk c zs n p C=>?_;have f:=vK C;have O:c.length<64:=by rwa[C.1,p.length_eq]
 have S:64<=sizeLine:=by rw[YU];decide
 refine Zt (wpAny_newList ?_<|by lia);have g:(h'.push<|E9 "list" c.toArray 0).get? h'.objs.size=some (E9 "list" c.toArray 0):=ZK _ rfl;refine Zt (YR<|YH slot_list_sort ⟨_,g,rfl⟩ entry_list_sort (list_sort_treeK strKind_oneLt g f.keysOf (λD F B e=>keyKind_strs<|by rwa[<-e]) (by lia) λi G J=>⟨_,rfl,?_⟩) (args_list_sort _));obtain⟨h,K,x,L⟩:=sorted_out_str f G J;refine Zy ⟨_,rfl,?_⟩;obtain⟨e,he⟩:=sortedHeap_at (out:=(arrOf i).map (·.2)) g;have P:=Bn K;have v:Inv X Dq σ H { s with heap:=h',drawn:=d,toks:=tk }:=(I.kept (t':=tk) n).drew (d:=d);have t:∀b ob,h'.get? b=some ob->(sortedHeap (h'.push<|E9 "list" c.toArray 0) h'.objs.size c ((arrOf i).map (·.2))).get? b=some ob:=λb ob z=>by
  have y:b<h'.objs.size:=ZR z;rw[sortedHeap_old (ZX y) (by rw[Jr];exact Vd y)];exact ZC _ z
 have M:H h'.objs.size=none:=v.hok.fresh<|ZB _;have r:(h.map V.str).length<=sizeLine:=by
  have:=x.length_eq;have:=p.length_eq;rw[Zu];lia
 exact⟨.ref h'.objs.size,_,v.laid (o:=.lst<|h.map V.str) (t':=tk) t (ZB _) ⟨r,_,e,P,he⟩,rfl,q _ h M (x.trans p) L⟩
theorem kR (d:X.calm=true):xg X (.builtin "sorted") (P8 X.prog X.w):=by
 intro f s l H j i Q I r h;obtain⟨a,g,rfl,c,b,q⟩:=h;obtain⟨u,rfl,e⟩:=wU r;cases e;exact Bh I b q λk=>Mt (A:=X.A.in1) (I.ok.hd d) (k8<|I.hok a _ c) (by lia) k
def bj (K:CB)(P:D3)(w:D6):Dj->Hp->VK->Prop:=λb H Q=>∃(a:D1) (ls:Da),b=[.ref a]/\(yj K H a (ls.map V.str)\/xj K H a (ls.map V.str))/\ls.length<=1000/\∀p,H p=none->Q (.ref p) (upd H p<|U1 P w p<|uniq ls)
theorem GP {ls:Da}(r:yx (ls.map V.str) us):xQ us ls:=by
 refine⟨by rw[<-r.length,Zu],λi v e=>?_⟩;have b:i<ls.length:=by have:=(ZO.mp e).1;rw[<-r.length,Zu]at this;exact this
 obtain⟨u,c,d⟩:=r.get (show(ls.map V.str)[i]?=some (V.str ls[i]) by rw[ZF,ZD b];rfl);rw[c]at e;cases e;obtain⟨t,rfl⟩:=d;exact⟨_,t,ZD b,rfl⟩
theorem FS (t:X.calm=true)(A:X.K=K:=by rfl):xg X (.type "set") (bj K X.prog X.w):=by
 subst A;intro z s C H E D Q I r h;obtain⟨a,ls,rfl,f,hl,q⟩:=h;obtain⟨u,rfl,B⟩:=wU r;cases B;have d:∀(g:Ej) (p:Nat),yp X.prog X.w g s.heap.objs.size (uniq ls)->(∀b o,s.heap.get? b=some o->g.get? b=some o)->EP X z C Q (.ref s.heap.objs.size) { s with heap:=g,toks:=p }:=λg p x k =>
  ⟨.ref s.heap.objs.size,_,I.laid (o:=U1 X.prog X.w s.heap.objs.size<|uniq ls) (t':=p) k (ZB _)<|B0 x,rfl,q _<|I.hok.fresh<|ZB _⟩
 have y:LC=4096:=rfl
 rcases f with f|f
 .obtain⟨j,n,l,_⟩:=I.list f;have c:=GP n;exact call_set_list (I.ok.hd t) l.isList (by rw[ZV];exact c.1.symm) (λi v e=>c.2 i v<|by simpa using e) (by rw[ZV,c.1,y];lia) d
 .obtain⟨j,n,l,_⟩:=I.tuple f;have c:=GP n;exact GG (I.ok.hd t) l (by rw[ZV];exact c.1.symm) (λi v e=>c.2 i v<|by simpa using e) (by rw[ZV,c.1,y];lia) d
end
end L2
namespace An
open PySem PySem.Spec PyProof.Rows L2
def Ry (a b:Str):Prop:=¬b.cps.toList<a.cps.toList
theorem NR (d:Ry a b)(e:Ry b c):Ry a c:=by
 have d:a.cps.toList<=b.cps.toList:=Vh.mp d;have e:b.cps.toList<=c.cps.toList:=Vh.mp e;exact Vh.mpr<|List.le_trans d e
theorem Hj (c:Ry a b)(d:Ry b a):a=b:=by
 have e:a.cps.toList=b.cps.toList:=UF (Vh.mp c)<|Vh.mp d;exact xq e
theorem Ba:∀(l:Da) (p:Str),risingS p l=true->(p::l).Pairwise Ry
 |[],p,_=>VJ _ _
 |x::r,p,h=>by
  have h:(!ltCps x.cps.toList p.cps.toList&&risingS x r)=true:=h;rw[ZG,ltCps_eq]at h;have c:Ry p x:=λz=>by rw[Zz z]at h;exact absurd h.1 (by decide)
  have d:=Ba r x h.2;refine VE.mpr ⟨λy b=>?_,d⟩
  rcases ZI.mp b with rfl|b
  .exact c
  .exact NR c ((VE.mp d).1 y b)
theorem Xx:∀{l:Da},sortedS l=true->l.Pairwise Ry
 |[],_=>List.Pairwise.nil
 |x::r,h=>Ba r x h
def Xm:Da->Bool
 |[]=>true
 |x::r=>r.all (λy=>decide (x.cps.toList<y.cps.toList))&&Xm r
theorem uv:∀{l:Da},Xm l=true↔l.Pairwise Ry/\l.Nodup
 |[]=>⟨λ_=>⟨List.Pairwise.nil,YN⟩,λ_=>rfl⟩
 |x::r=>by
  show(r.all _&&Xm r)=true↔_;rw[ZG,uv,Z9,VE,Yl];constructor
  .rintro⟨b,d,e⟩;refine⟨⟨λy c=>?_,d⟩,λz=>?_,e⟩
   .have:=ZJ<|b y c;exact λz=>VR _<|List.lt_trans this z
   .exact VR _ (ZJ<|b x z)
  .rintro⟨⟨b,d⟩,e,f⟩;refine⟨λy c=>Zz ?_,d,f⟩
   by_cases z:x.cps.toList<y.cps.toList
   .exact z
   .have:=Hj (b y c) z;exact absurd (this▸c) e
theorem kI {ks:Da}{k:Str}(h:ks.Nodup):(AxS.step ks k).Nodup:=by
 unfold AxS.step
 split
 .exact h
 .rename_i z;rw[YX];exact⟨h,by simp,λa c b d=>by rw[Zv.mp d];exact λe=>z<|e▸c⟩
theorem Gq:∀(xs ks:Da),ks.Nodup->(xs.foldl AxS.step ks).Nodup
 |[],ks,h=>h
 |x::xs,ks,h=>Gq xs _<|kI h
theorem fold_all:∀(xs ks:Da),(ks++xs).Nodup->xs.foldl AxS.step ks=ks++xs
 |[],ks,_=>by rw[ZW];rfl
 |x::xs,ks,h=>by
  have e:AxS.step ks x=ks++[x]:=by
   unfold AxS.step;rw[ZM];intro z;exact(YX.mp h).2.2 x z x Zx rfl
  rw[JK,e,fold_all xs (ks++[x])<|by rwa[Ys],Ys];rfl
theorem Mu (xs:Da):(AxS.uniq xs).Nodup:=Gq xs [] YN
theorem Bj {xs:Da}(h:xs.Nodup):AxS.uniq xs=xs:=fold_all xs [] h
theorem Hc:∀(xs ks:Da) {x:Str},x∈xs.foldl AxS.step ks->x∈ks\/x∈xs
 |[],ks,x,h=>.inl h
 |y::xs,ks,x,h=>by
  rcases Hc xs _ h with z|z
  .unfold AxS.step at z
   split at z
   .exact .inl z
   .rcases ZZ.mp z with z|z
    .exact .inl z
    .exact .inr (ZI.mpr<|.inl<|Zv.mp z)
  .exact .inr (Zw _ z)
theorem Rt {xs:Da}{x:Str}(h:x∈AxS.uniq xs):x∈xs:=(Hc xs [] h).elim (λz=>nomatch z) id
theorem K9 {xs d:Da}(c:d.Perm<|AxS.uniq xs)(hs:sortedS d=true):decide (xs=d)=Xm xs:=by
 rw[YL,ZQ,uv];constructor
 .intro e;subst e;exact⟨Xx hs,c.nodup_iff.mpr<|Mu _⟩
 .rintro⟨f,g⟩;rw[Bj g]at c;exact(Vv (λa b _ _=>Hj) (Xx hs) f c).symm
end An
namespace PySem.SeqAt
open MeetsSeq PyProof.Rows
end PySem.SeqAt
namespace PySem.W
open PySem PySem.Spec PySem.Calls PyProof.Rows Builtin Builtin.ObjectAttr Builtin.Getset_descriptor
end PySem.W
namespace AxK
structure TO (β:Type) where
 lt:β->β->Bool
 lU:∀a b,lt a b=true->lt b a=false
 mq:∀a b c,lt b a=false->lt c b=false->lt c a=false
 mR:∀a b,lt a b=false->lt b a=false->a=b
section
variable {β γ:Type}{O:TO β}
def TO.le (O:TO β)(a b:β):Prop:=O.lt b a=false
theorem TO.refl (O:TO β)(a:β):O.le a a:=by
 show O.lt a a=false;cases h:O.lt a a with
 |false=>rfl
 |true=>exact h.symm.trans<|O.lU a a h
theorem TO.of_lt {a b:β}(h:O.lt a b=true):O.le a b:=O.lU a b h
theorem TO.trans {a b c:β}(d:O.le a b)(e:O.le b c):O.le a c:=O.mq a b c d e
def TO.nat:TO Nat:=⟨λa b=>decide (a<b),λa b h=>by have:=ZJ h;exact ZP<|by lia,λa b c d e=>by
 have:=J8 d;have:=J8 e;exact ZP<|by lia,λa b d e=>by
 have:=J8 d;have:=J8 e;lia⟩
def yG (O:TO β):List β->List β->Bool
 |[],[]=>false
 |[],_::_=>true
 |_::_,[]=>false
 |a::as,b::bs=>O.lt a b||(!O.lt b a&&yG O as bs)
theorem Ho (O:TO β):∀a b:List β,yG O a b=true->yG O b a=false
 |[],[],h=>nomatch h
 |[],_::_,_=>rfl
 |_::_,[],h=>nomatch h
 |a::as,b::bs,h=>by
  unfold yG at h ⊢;cases c:O.lt a b with
  |true =>
   rw[O.lU _ _ c];simp
  |false =>
   rw[c]at h;have h:O.lt b a=false/\yG O as bs=true:=by simpa using h
   rw[h.1,Ho O as bs h.2];rfl
theorem Hn (O:TO β):∀a b:List β,yG O a b=false->yG O b a=false->a=b
 |[],[],_,_=>rfl
 |[],_::_,h,_=>nomatch h
 |_::_,[],_,h=>nomatch h
 |a::as,b::bs,c,d=>by
  unfold yG at c d;have c:=JR.mp c;have d:=JR.mp d;have e:=O.mR _ _ c.1 d.1;have f:yG O as bs=false:=by have:=c.2;rw[d.1]at this;simpa using this
  have g:yG O bs as=false:=by have:=d.2;rw[c.1]at this;simpa using this
  rw[e,Hn O as bs f g]
theorem Hq (O:TO β):∀a b c:List β,yG O b a=false->yG O c b=false->yG O c a=false
 |[],[],c,_,h=>h
 |[],_::_,[],_,_=>rfl
 |[],_::_,_::_,_,_=>rfl
 |_::_,[],c,h,_=>nomatch h
 |_::_,_::_,[],_,h=>nomatch h
 |a::as,b::bs,c::cs,d,e=>by
  unfold yG at d e ⊢;have d:=JR.mp d;have e:=JR.mp e;rw[O.mq _ _ _ d.1 e.1,Uz];cases q:O.lt a c with
  |true=>rfl
  |false =>
   have f:a=c:=O.mR _ _ q<|O.mq _ _ _ d.1 e.1;have g:O.lt a b=false:=by rw[f];exact e.1
   have i:O.lt b c=false:=by rw[<-f];exact d.1
   have j:yG O bs as=false:=by have:=d.2;rw[g]at this;simpa using this
   have l:yG O cs bs=false:=by have:=e.2;rw[i]at this;simpa using this
   rw[Hq O as bs cs j l];rfl
def TO.list (O:TO β):TO (List β):=⟨yG O,Ho O,Hq O,Hn O⟩
def TO.by_ (O:TO β)(f:γ->β)(h:∀a b,f a=f b->a=b):TO γ:=⟨λa b=>O.lt (f a)<|f b,λa b=>O.lU _ _,λa b c=>O.mq _ _ _,λa b d e=>h a b<|O.mR _ _ d e⟩
end
open PySem PySem.W PyProof.Rows
def run {b:Type}(lt:Nat->Nat->Bool):KasT b->b
 | .ret a=>a
 | .ask i j k=>run lt<|k<|lt i j
theorem run_bind {b c:Type}{f:b->KasT c}:∀t:KasT b,run lt (t.bind f)=run lt (f<|run lt t)
 | .ret _=>rfl
 | .ask i j k=>run_bind<|k<|lt i j
section
variable {β:Type}{O:TO β}{key:Nat->β}
def kn (key:Nat->β)(p:Array Nat)(i:Nat):β:=key<|p.getD i 0
def Up (O:TO β)(key:Nat->β)(p:Array Nat)(n:Nat):Prop:=∀i j,i<=j->j<n->O.le (kn key p i) (kn key p j)
def Down (O:TO β)(key:Nat->β)(p:Array Nat)(n:Nat):Prop:=∀i j,i<=j->j<n->O.le (kn key p j) (kn key p i)
theorem Hh {p q:Array Nat}{i j:Nat}(h:p[i]?=q[j]?):kn key p i=kn key q j:=by
 unfold kn;rw[Z6,Z6,h]
theorem Up.snoc {n:Nat}(c:1<=n)(h:Up O key p n)(hl:O.le (kn key p<|n-1)<|kn key p n):Up O key p (n+1):=λi j b d=>by
 by_cases z:j<n
 .exact h i j b z
 .have z:j=n:=by lia
  subst z
  by_cases z:i=j
  .subst z;exact O.refl _
  .exact TO.trans (h i (j-1) (by lia)<|by lia) hl
theorem Down.snoc {n:Nat}(c:1<=n)(h:Down O key p n)(hl:O.le (kn key p n)<|kn key p<|n-1):Down O key p (n+1):=λi j b d=>by
 by_cases z:j<n
 .exact h i j b z
 .have z:j=n:=by lia
  subst z
  by_cases z:i=j
  .subst z;exact O.refl _
  .exact TO.trans hl (h i (j-1) (by lia)<|by lia)
theorem one_up (p:Array Nat):Up O key p 1:=λi j b c=>by
 have:i=j:=by lia
 subst this;exact O.refl _
theorem Kt:∀(f n:Nat),1<=n->Up O key p n->∃m,run (λi j=>O.lt (key i)<|key j) (kas_asc p f n)=m/\n<=m/\m<=n+f/\Up O key p m/\(m=n+f\/O.lt (kn key p m) (kn key p<|m-1)=true)
 | 0,n,_,h=>⟨n,rfl,ZB _,ZB _,h,.inl rfl⟩
 |f+1,n,h1,h=>by
  unfold kas_asc;show∃m,run _ (if O.lt (kn key p n) (kn key p<|n-1)=true then KasT.ret n else kas_asc p f (n+1))=m/\_;cases q:O.lt (kn key p n) (kn key p<|n-1) with
  |true=>exact⟨n,by rw[ZS rfl];rfl,ZB _,by lia,h,.inr q⟩
  |false =>
   rw[ZM<|by decide];obtain⟨m,e,a,b,c,d⟩:=Kt f (n+1) (by lia)<|h.snoc h1 q;exact⟨m,e,by lia,by lia,c,d.imp (λz=>by lia) id⟩
theorem K6 {p:Array Nat}{i j:Nat}(b:j<=p.size)(k:Nat):kn key (kas_rev p i j) k=if i<=k/\k<j then kn key p (i+j-1-k) else kn key p k:=by
 have e:=getElem?_mirror_all (i:=i) b k;unfold kas_rev
 by_cases z:i<=k/\k<j
 .rw[ZS z]at e ⊢;exact Hh e
 .rw[ZM z]at e ⊢;exact Hh e
theorem IT {p:Array Nat}{i j:Nat}(b:j<=p.size)(h:∀k,i<=k->k<j->kn key p k=kn key p (j-1))(k:Nat):kn key (kas_rev p i j) k=kn key p k:=by
 rw[K6 b]
 split
 .rw[h _ (by lia)<|by lia,h k (by lia)<|by lia]
 .rfl
theorem xA (p:Array Nat)(i j:Nat):(kas_rev p i j).Perm p:=mirror_perm _ _ _ _
theorem Down.pH (h:Down O key p n)(e:∀k,kn key q k=kn key p k):Down O key q n:=λi j b c=>by
 rw[e,e];exact h i j b c
def Flat (key:Nat->β)(p:Array Nat)(n q:Nat):Prop:=q+1<=n/\∀i,n-(q+1)<=i->i<n->kn key p i=kn key p (n-1)
theorem GR {n:Nat}(h:1<=n):Flat key p n 0:=⟨h,λi b c=>by
 have:i=n-1:=by lia
 rw[this]⟩
theorem Il:∀(f:Nat) (p:Array Nat) (n q:Nat),1<=n->n+f<=p.size->Down O key p n->Flat key p n q ->
  ∃p' n' q',run (λi j=>O.lt (key i)<|key j) (kas_desc f p n q)=(p',n',q')/\p'.Perm p/\n<=n'/\n'<=n+f/\Down O key p' n'/\Flat key p' n' q'
 | 0,p,n,q,_,_,h,hq=>⟨p,n,q,rfl,Array.Perm.refl _,ZB _,ZB _,h,hq⟩
 |f+1,p,n,q,h1,hz,h,hq=>by
  unfold kas_desc;show∃p' n' q',run (λi j=>O.lt (key i)<|key j) (if O.lt (kn key p n) (kn key p<|n-1)=true then(if q>0 then kas_desc f (kas_rev p (n-(q+1)) n) (n+1) 0 else kas_desc f p (n+1) 0)
   else .ask (p.getD (n-1) 0) (p.getD n 0) λd=>if d=true then .ret (p,n,q) else kas_desc f p (n+1) (q+1))=(p',n',q')/\_
  cases c:O.lt (kn key p n) (kn key p<|n-1) with
  |true =>
   rw[ZS rfl];have hd:=h.snoc h1<|TO.of_lt c
   by_cases z:q>0
   .rw[ZS z];have o:=IT (key:=key) (p:=p) (i:=n-(q+1)) (j:=n) (by lia) hq.2;obtain⟨p',n',q',e,a,b,d,g,k⟩:=Il f (kas_rev p (n-(q+1)) n) (n+1) 0 (by lia) (by rw[(xA p _ _).size_eq];lia) (hd.pH o) (GR<|by lia);exact⟨p',n',q',e,a.trans<|xA _ _ _,by lia,by lia,g,k⟩
   .rw[ZM z];obtain⟨p',n',q',e,a,b,d,g,k⟩:=Il f p (n+1) 0 (by lia) (by lia) hd (GR<|by lia);exact⟨p',n',q',e,a,by lia,by lia,g,k⟩
  |false =>
   rw[ZM<|by decide];show∃p' n' q',run (λi j=>O.lt (key i)<|key j) (if O.lt (kn key p<|n-1) (kn key p n)=true then KasT.ret (p,n,q) else kas_desc f p (n+1) (q+1))=(p',n',q')/\_;cases d:O.lt (kn key p<|n-1) (kn key p n) with
   |true=>exact⟨p,n,q,by rw[ZS rfl];rfl,Array.Perm.refl _,ZB _,by lia,h,hq⟩
   |false =>
    rw[ZM<|by decide];have eq:kn key p n=kn key p (n-1):=O.mR _ _ c d;have o:Flat key p (n+1) (q+1):=⟨by have:=hq.1;lia,λi r s=>by
     rw[show n+1-1=n by lia]
     by_cases z:i=n
     .rw[z]
     .rw[eq];exact hq.2 i (by lia)<|by lia⟩
    obtain⟨p',n',q',e,a,b,g,k,l⟩:=Il f p (n+1) (q+1) (by lia) (by lia) (h.snoc h1 d) o;exact⟨p',n',q',e,a,by lia,by lia,k,l⟩
theorem Ki {p:Array Nat}{n Dv:Nat}(d:1<=n)(o:n<=Dv)(hz:Dv<=p.size)(h:Down O key p n) :
  ∃m p',run (λi j=>O.lt (key i)<|key j) (kas_tail3 n Dv p)=(m,p')/\p'.Perm p/\1<=m/\m<=Dv/\Up O key p' m:=by
 have g:Up O key (kas_rev p 0 n) n:=λi j f l=>by
  rw[K6<|by lia,K6<|by lia,ZS<|by lia,ZS<|by lia];exact h _ _ (by lia) (by lia)
 obtain⟨m,e,a,b,c,_⟩:=Kt (Dv-n) n d g;refine⟨m,kas_rev p 0 n,?_,xA _ _ _,by lia,by lia,c⟩;unfold kas_tail3;rw[run_bind,e];rfl
theorem X5 {p:Array Nat}{n Dv:Nat}(x:n+1<=Dv)(hz:Dv<=p.size)(h:Down O key p<|n+1) :
  ∃m p',run (λi j=>O.lt (key i)<|key j) (kas_descPart n Dv p)=(m,p')/\p'.Perm p/\1<=m/\m<=Dv/\Up O key p' m:=by
 obtain⟨p',g,l,e,a,b,c,d,v⟩:=Il (Dv-(n+1)) p (n+1) 0 (by lia) (by lia) h (GR<|by lia);have u:Dv<=p'.size:=by rwa[a.size_eq]
 unfold kas_descPart;rw[run_bind,e];show∃m f,run _ (if l>0 then kas_tail3 g Dv (kas_rev p' (g-(l+1)) g) else kas_tail3 g Dv p')=(m,f)/\_
 by_cases z:l>0
 .rw[ZS z];have w:=IT (key:=key) (p:=p') (i:=g-(l+1)) (j:=g) (by lia) v.2;obtain⟨m,f,t,o,q,r,s⟩:=Ki (Dv:=Dv) (by lia) (by lia) (by rwa[(xA p' _ _).size_eq]) (d.pH w);exact⟨m,f,t,(o.trans<|xA _ _ _).trans a,q,r,s⟩
 .rw[ZM z];obtain⟨m,f,t,o,q,r,s⟩:=Ki (Dv:=Dv) (by lia) (by lia) u d;exact⟨m,f,t,o.trans a,q,r,s⟩
theorem Oq {p:Array Nat}{Dv:Nat}(A:1<=Dv)(hz:Dv<=p.size) :
  ∃m p',run (λi j=>O.lt (key i)<|key j) (kas_count Dv p)=(m,p')/\p'.Perm p/\1<=m/\m<=Dv/\Up O key p' m:=by
 obtain⟨n,e,a,b,c,d⟩:=Kt (O:=O) (key:=key) (p:=p) (Dv-1) 1 (ZB _)<|one_up p;unfold kas_count;rw[run_bind,e]
 by_cases z:n=Dv
 .rw[ZS<|by simpa using z];exact⟨n,p,rfl,Array.Perm.refl _,a,by lia,c⟩
 rw[ZM<|by simpa using z];have h:O.lt (kn key p n) (kn key p<|n-1)=true:=d.resolve_left (by lia)
 by_cases g:n>1
 .rw[ZS g];show∃m p',run _ (if O.lt (kn key p 0) (kn key p<|n-1)=true then KasT.ret (n,p) else kas_descPart n Dv (kas_rev p 0 n))=(m,p')/\_;cases q:O.lt (kn key p 0) (kn key p<|n-1) with
  |true =>
   rw[ZS rfl];exact⟨n,p,rfl,Array.Perm.refl _,a,by lia,c⟩
  |false =>
   rw[ZM<|by decide];have f:∀k,0<=k->k<n->kn key p k=kn key p (n-1):=λk _ y =>
    O.mR _ _ (TO.trans q<|c 0 k (by lia) y) (c k (n-1) (by lia)<|by lia)
   have x:=IT (key:=key) (p:=p) (i:=0) (j:=n) (by lia) f;have v:Down O key p n:=λi j l o=>by
    rw[f i (by lia)<|by lia,f j (by lia) o];exact O.refl _
   obtain⟨m,p',w,r,s,t,u⟩:=X5 (O:=O) (key:=key) (p:=kas_rev p 0 n) (n:=n) (Dv:=Dv) (by lia) (by rwa[(xA p _ _).size_eq]) ((v.snoc a<|TO.of_lt h).pH x);exact⟨m,p',w,r.trans<|xA _ _ _,s,t,u⟩
 .rw[ZM g];have g:n=1:=by lia
  subst g;exact X5 (by lia) hz (Down.snoc (ZB _) (λi j l o=>by
   have:i=j:=by lia
   subst this;exact O.refl _)<|TO.of_lt h)
theorem Gj (hs:Up O key p k):∀(f l r:Nat),l<=r->r<=k->r-l<=f->(∀i,i<l->O.le (kn key p i) (kn key p k))->(∀i,r<=i->i<k->O.lt (kn key p k) (kn key p i)=true) ->
  ∃m,run (λi j=>O.lt (key i)<|key j) (kas_place p k f l r)=m/\m<=k/\(∀i,i<m->O.le (kn key p i) (kn key p k))/\(∀i,m<=i->i<k->O.lt (kn key p k) (kn key p i)=true)
 | 0,l,r,h1,h2,h3,h4,h5=>⟨l,rfl,by lia,h4,λi c b=>h5 i (by lia) b⟩
 |f+1,l,r,h1,h2,h3,h4,h5=>by
  unfold kas_place
  by_cases z:l≥r
  .rw[ZS z];exact⟨l,rfl,by lia,h4,λi c b=>h5 i (by lia) b⟩
  rw[ZM z];show∃m,run _ (if O.lt (kn key p k) (kn key p<|(l+r) / 2)=true then kas_place p k f l ((l+r) / 2) else kas_place p k f ((l+r) / 2+1) r)=m/\_;cases q:O.lt (kn key p k) (kn key p<|(l+r) / 2) with
  |true =>
   rw[ZS rfl];refine Gj hs f l ((l+r) / 2) (by lia) (by lia) (by lia) h4 λi c b=>?_;cases w:O.lt (kn key p k) (kn key p i) with
   |true=>rfl
   |false =>
    have:=O.mq _ _ _ (hs _ _ c b) w;rw[q]at this;exact this.symm
  |false =>
   rw[ZM<|by decide];exact Gj hs f ((l+r) / 2+1) r (by lia) (by lia) (by lia) (λi c=>TO.trans (hs i ((l+r) / 2) (by lia)<|by lia) q) h5
theorem G3 {p:Array Nat}{k l:Nat}(b:k<p.size)(hl:l<=k)(i:Nat):kn key (bubble p k<|k-l) i=if i=l then kn key p k else if l<i/\i<=k then kn key p (i-1) else kn key p i:=by
 have e:=getElem?_bubble b (k-l) (by lia) i;rw[show k-(k-l)=l by lia]at e
 by_cases z:i=l
 .rw[ZS z]at e ⊢;exact Hh e
 .rw[ZM z]at e ⊢
  by_cases z:l<i/\i<=k
  .rw[ZS z]at e ⊢;exact Hh e
  .rw[ZM z]at e ⊢;exact Hh e
theorem Om:∀(f:Nat) (p:Array Nat) (k:Nat),k+f<=p.size->Up O key p k->∃p',run (λi j=>O.lt (key i)<|key j) (kas_bin f p k)=p'/\p'.Perm p/\Up O key p' (k+f)
 | 0,p,k,_,h=>⟨p,rfl,Array.Perm.refl _,h⟩
 |f+1,p,k,hz,h=>by
  obtain⟨m,e,a,b,c⟩:=Gj h k 0 k (by lia) (ZB _) (by lia) (λi q=>by lia) (λi s t=>by lia);have o:Up O key (bubble p k<|k-m) (k+1):=λi j n r=>by
   rw[G3 (by lia) a,G3 (by lia) a]
   repeat' split
   all_goals first
    |(exfalso;lia)
    |exact O.refl _
    |exact b _ (by lia)
    |exact TO.of_lt (c _ (by lia)<|by lia)
    |exact h _ _ (by lia) (by lia)
  obtain⟨p',l,d,g⟩:=Om f (bubble p k<|k-m) (k+1) (by rw[bubble_size];lia) o;unfold kas_bin;rw[run_bind,e];exact⟨p',l,d.trans<|bubble_perm _ _ _,by rw[show k+(f+1)=k+1+f by lia];exact g⟩
theorem Sw {n:Nat}(r:1<=n):∃p',run (λi j=>O.lt (key i)<|key j) (kas_sort n)=p'/\p'.Perm (E1<|Ef n)/\Up O key p' n:=by
 have h:(E1<|Ef n).size=n:=by simp
 obtain⟨m,p',e,a,b,c,d⟩:=Oq (O:=O) (key:=key) (p:=E1<|Ef n) (Dv:=n) r<|Vk h.symm;unfold kas_sort;rw[run_bind,e];show∃f,run _ (if m<n then kas_bin (n-max m 1) p' (max m 1) else KasT.ret p')=f/\_;have q:max m 1=m:=by lia
 rw[q]
 by_cases z:m<n
 .rw[ZS z];obtain⟨f,o,l,g⟩:=Om (n-m) p' m (by rw[a.size_eq,h];lia) d;exact⟨f,o,l.trans a,by rw[show m+(n-m)=n by lia]at g;exact g⟩
 .rw[ZM z];have z:m=n:=by lia
  rw[z]at d;exact⟨p',rfl,a,d⟩
end
def Asks (n:Nat){c:Type}(R:c->Prop):KasT c->Prop
 | .ret a=>R a
 | .ask i j k=>i<n/\j<n/\∀b,Asks n R<|k b
theorem Asks.bind {c g:Type}{R:c->Prop}{d:g->Prop}{f:c->KasT g}(e:∀a,R a->Asks n d (f a)):∀{t:KasT c},Asks n R t->Asks n d (t.bind f)
 | .ret a,h=>e a h
 | .ask i j k,h=>⟨h.1,h.2.1,λb=>Asks.bind e<|h.2.2 b⟩
theorem Asks.wp {n:Nat}{c:Type}{R:c->Prop}{b:Nat->Nat->(Bool->Dh)->Dh}{lt:Nat->Nat->Bool}{s:D7}(d:∀i j,i<n->j<n->∀C:Bool->Dh,C (lt i j) s->b i j C s){Q:c->Dh} :
  ∀{t:KasT c},Asks n R t->Q (run lt t) s->t.kasWp b Q s
 | .ret _,_,q=>q
 | .ask i j k,h,q=>d i j h.1 h.2.1 _<|Asks.wp d (h.2.2 _) q
def Bd (n:Nat)(p:Array Nat):Prop:=∀i:Nat,p.getD i 0<n
theorem Bd.perm {q:Array Nat}(h:Bd n p)(e:q.Perm p):Bd n q:=λi=>by
 rw[Z6]
 rcases VU i q.size with z|z
 .rw[UI q i z];have d:q[i]∈p:=e.mem_iff.mp<|Array.getElem_mem z;obtain⟨j,c,b⟩:=Array.getElem_of_mem d;have:=h j;rw[Z6,UI p j c,b]at this;exact this
 .rw[Jg z];have:=h p.size;rw[Z6,Jg<|ZB _]at this;exact this
theorem GS (h:Bd n p):∀f m:Nat,Asks n (λ_=>True) (kas_asc p f m)
 | 0,m=>trivial
 | f+1,m=>⟨h _,h _,λc=>by
  show Asks n _ (if c=true then KasT.ret m else kas_asc p f (m+1))
  split
  .trivial
  .exact GS h f (m+1)⟩
theorem j8:∀(f:Nat) (p:Array Nat) (m q:Nat),Bd n p->Asks n (λr=>Bd n r.1) (kas_desc f p m q)
 | 0,p,m,q,h=>h
 | f+1,p,m,q,h=>⟨h _,h _,λc=>by
  cases c with
  |true =>
   show Asks n _ (if q>0 then kas_desc f (kas_rev p (m-(q+1)) m) (m+1) 0 else kas_desc f p (m+1) 0)
   split
   .exact j8 f _ _ _ (h.perm<|xA _ _ _)
   .exact j8 f _ _ _ h
  |false =>
   refine⟨h _,h _,λd=>?_⟩;cases d with
   |true=>exact h
   |false=>exact j8 f _ _ _ h⟩
theorem IH {m r:Nat}(h:Bd n p):Asks n (λr=>Bd n r.2) (kas_tail3 m r p):=by
 have b:Bd n (kas_rev p 0 m):=h.perm<|xA _ _ _;unfold kas_tail3;refine Asks.bind (λa _=>?_)<|GS b _ _;exact b
theorem j7 {m r:Nat}(h:Bd n p):Asks n (λr=>Bd n r.2) (kas_descPart m r p):=by
 refine Asks.bind (λa b=>?_)<|j8 _ _ _ _ h;show Asks n _ (if a.2.2>0 then _ else _)
 split
 .exact IH (Bd.perm b<|xA _ _ _)
 .exact IH b
theorem Ky {r:Nat}(h:Bd n p):Asks n (λr=>Bd n r.2) (kas_count r p):=by
 refine Asks.bind (λa _=>?_)<|GS h _ _;show Asks n _ (if(a==r)=true then _ else _)
 split
 .exact h
 .split
  .refine⟨h _,h _,λc=>?_⟩;cases c with
   |true=>exact h
   |false=>exact j7<|h.perm<|xA _ _ _
  .exact j7 h
theorem kG {k:Nat}(h:Bd n p):∀f l r:Nat,Asks n (λ_=>True) (kas_place p k f l r)
 | 0,l,r=>trivial
 |f+1,l,r=>by
  unfold kas_place
  split
  .trivial
  .refine⟨h _,h _,λc=>?_⟩;cases c with
   |true=>exact kG h f _ _
   |false=>exact kG h f _ _
theorem FQ:∀(f:Nat) (p:Array Nat) (k:Nat),Bd n p->Asks n (λr=>Bd n r) (kas_bin f p k)
 | 0,p,k,h=>h
 |f+1,p,k,h=>Asks.bind (λl _=>FQ f _ _<|h.perm<|bubble_perm _ _ _) (kG h _ _ _)
theorem N7 {n:Nat}(c:1<=n):Asks n (λr=>Bd n r) (kas_sort n):=by
 have h:Bd n (E1<|Ef n):=λi=>by
  rw[Z6,V1]
  rcases VU i n with z|z
  .rwa[JZ z]
  .rw[Yv<|by rwa[Yo]];exact c
 refine Asks.bind (λa b=>?_)<|Ky h;show Asks n _ (if a.1<n then _ else _)
 split
 .exact FQ _ _ _ b
 .exact b
end AxK
namespace L2
open PySem PySem.Spec PyProof.Rows PySem.W AxK
section
variable {prog:D3}{w:D6}{A:Em}{E:D2->Dh}{s:D7}
theorem K8 {a:D1}{vs:Db}{n:Nat}{κ:SortKind}{lt:Nat->Nat->Bool}{P:PySem.Fin->Dh}(x:s.heap.get? a=some (E9 "list" vs.toArray n))(y:vs.length<64)
  (M:2<=vs.length->∀s1:D7,(∀b o,b≠a->s.heap.get? b=some o->s1.heap.get? b=some o)->(∀(Q:SortKind->Dh) (E':D2->Dh),Q κ s1->D4 (Eb prog w) A (keyKind' vs.toArray) Q E' s1) /\ ∀i j,i<vs.length->j<vs.length->∀C:Bool->Dh,C (lt i j) s1->kas_ask prog w A κ vs i j C s1)
  (h:∀p:Array Nat,(vs.length<2/\p=E1 (Ef vs.length))\/(2<=vs.length/\p=run lt (kas_sort vs.length))->P (.done<|.ret .none) { s with heap:=sortedHeap s.heap a vs (E1<|p.toList.map λi=>vs.getD i Ev) }) :
  D4 (Eb prog w) A (Builtin.«list.sort» ⟨[.ref a],[]⟩) P E s:=by
 have T:a<s.heap.objs.size:=ZR x;have S:=Es s.heap a<|EU λ_=>(#[]:Array D2);obtain⟨n1,t⟩:∃H,(s.heap.update a<|EU λ_=>(#[]:Array D2)).get? a=some (E9 "list" #[] H):=⟨_,get?_update_seq x λ_=>#[]⟩;have d:(((s.heap.update a<|EU λ_=>(#[]:Array D2)).push (E9 "tuple" vs.toArray 0)).push (E9 "list" #[] 0)).get? a=some (E9 "list" #[] n1):=ZC _<|ZC _ t;have keep:∀b o,b≠a->s.heap.get? b=some o->(((s.heap.update a<|EU λ_=>(#[]:Array D2)).push (E9 "tuple" vs.toArray 0)).push (E9 "list" #[] 0)).get? b=some o:=λb o K q =>
  ZC _ (ZC _<|by rwa[Heap.get?_update_ne _ _ _ _ K])
 have c:vs.toArray.size=vs.length:=by simp
 rw[list_sort_plain];refine Zt (listItems_at x rfl<|Zt<|UA x rfl (Zt<|seqEpoch_at t rfl<|Zt<|wpAny_newTuple (Zt<|wpAny_newList (YR ?_)<|Yf _) (by show vs.length<=_;rw[YU];lia)) (by rw[ZV,YU];lia)<|Yf _);show D4 (Eb prog w) A _ P E { s with heap:=((s.heap.update a<|EU λ_=>#[]).push<|E9 "tuple" vs.toArray 0).push (E9 "list" #[] 0) };dsimp only
 by_cases J:vs.length<2
 .have r:=h (E1<|Ef vs.length)<|.inl ⟨J,rfl⟩;have I:(E1<|(E1<|Ef vs.length).toList.map λi=>vs.getD i Ev)=(vs.toArray.zip vs.toArray).map (·.2):=by
   have e:=kas_range<|vs.toArray.zip vs.toArray;rw[show(vs.toArray.zip vs.toArray).size=vs.length by simp]at e;exact(kat_snds (ks:=vs) (vs:=vs) (st:=SortSt.mk' general' (vs.toArray.zip vs.toArray) #[] 7 none) rfl e.symm).symm
  rw[I]at r;rw[ZS<|by rwa[c],ZS<|by rwa[c]];refine Zt<|Zy ?_;rw[StateT.run_pure];refine Zt<|Zy ?_;dsimp only;refine Zt (seqEpoch_at d rfl<|Zt<|UA d rfl ?_ (Yf _) (by rw[VV,Array.size_zip,c,Nat.min_self,YU];lia));simp only[bne_self_eq_false,YA,Vt];exact Zy r
 .have l:2<=vs.length:=by lia
  rw[ZM<|by rwa[c],ZM<|by rwa[c]];obtain⟨O,R⟩:=M l { s with heap:=((s.heap.update a<|EU λ_=>(#[]:Array D2)).push (E9 "tuple" vs.toArray 0)).push (E9 "list" #[] 0) } keep;refine Zt<|O _ _ ?_;have g:(kas_sort vs.length).kasWp (kas_ask prog w A κ vs) (λp v=>p=run lt (kas_sort vs.length)/\v={ s with heap:=((s.heap.update a<|EU λ_=>(#[]:Array D2)).push (E9 "tuple" vs.toArray 0)).push (E9 "list" #[] 0) })
    { s with heap:=((s.heap.update a<|EU λ_=>(#[]:Array D2)).push (E9 "tuple" vs.toArray 0)).push (E9 "list" #[] 0) }:=(N7<|by lia).wp R ⟨rfl,rfl⟩
  refine Zt (Y1 (kat_run (Q:=λf v=>arrOf f=(run lt<|kas_sort vs.length).map (kas_item<|vs.toArray.zip vs.toArray)/\failedOf f=none/\(run lt<|kas_sort vs.length).size=vs.length/\v={ s with heap:=((s.heap.update a<|EU λ_=>(#[]:Array D2)).push (E9 "tuple" vs.toArray 0)).push (E9 "list" #[] 0) }) rfl l y (λU f v B D F G=>by obtain⟨rfl,rfl⟩:=G;exact⟨D,F,B,rfl⟩) g) ?_ λ_ _ e=>e)
  rintro⟨⟨⟩,f⟩ v ⟨z,L,N,rfl⟩;dsimp only;have u:=kat_snds rfl z;rw[u];refine Zt (seqEpoch_at d rfl<|Zt<|UA d rfl ?_ (Yf _) (by rw[ZV,Zu,ZU,N,YU];lia));rw[L];simp only[bne_self_eq_false,YA,Vt];exact Zy<|h _<|.inr ⟨l,rfl⟩
def GA (T:String):Ea->Prop
 | .tuple (.int _::_)=>T="int"
 | .tuple (.str _::_)=>T="str"
 | .tuple (.tuple _::_)=>T="tuple"
 |_=>False
def S7 (h h':Ej)(d:Ea):Prop:=∀(v:D2) (b:Dd),d.canLay0=true->Reads h v d b->Reads h' v d b
def RC (h h':Ej)(b:Df):Prop:=∀(vs:Db) (c:Dd),Ec b=true->Lu h vs b c->Lu h' vs b c
mutual
theorem K5 {h h':Ej}(k:∀b o,h.get? b=some o->h'.get? b=some o):∀d:Ea,S7 h h' d
 | .none=>λv c _ r=>by cases r;exact .none
 | .bool _=>λv c _ r=>by cases r;exact .bool _
 | .int _=>λv c _ r=>by cases r;exact .int _ _
 | .str _=>λv c _ r=>by cases r;exact .str _ _
 | .list xs=>λv c l r=>by
  have e:=xO k xs;cases r with
  |list h1 h2 h3 h4=>exact .list (k _ _ h1) h2 h3<|e _ _ l h4
 | .tuple xs=>λv c l r=>by
  have e:=xO k xs;cases r with
  |tuple h1 h2 h3 h4=>exact .tuple (k _ _ h1) h2 h3<|e _ _ l h4
 | .dict Dm=>λv c l r=>nomatch l
theorem xO {h h':Ej}(k:∀b o,h.get? b=some o->h'.get? b=some o):∀ds:Df,RC h h' ds
 |[]=>λvs c _ r=>by cases r;exact .nil
 |d::ds=>λvs c l r=>by
  have e:=K5 k d;have f:=xO k ds;have l:d.canLay0=true/\Ec ds=true:=by simpa[Ec] using l
  cases r with
  |cons h1 h2=>exact .cons (e _ _ l.1 h1)<|f _ _ l.2 h2
end
theorem Bo {h:Ej}:∀{ds:Df} {us:Db} {as:Dd},Lu h us ds as->(∀d∈ds,GA T d)->∃fs:Db,fs.length=ds.length/\KatTups h us fs/\∀v∈fs,(T="int"/\∃i t,v=.int i t)\/(T="str"/\∃i t,v=.str i t)\/(T="tuple"/\∃a o,v=.ref a/\h.get? a=some o/\o.cls=.type "tuple")
 |[],_,_,r,_=>by
  cases r;exact⟨[],rfl,KatTups.nil,λv hv=>(nomatch hv)⟩
 |d::ds,_,_,r,hf=>by
  cases r with
  |cons r1 r2 =>
   obtain⟨fs,c,e,f⟩:=Bo r2 λx g=>hf x<|Zw _ g;have hd:=hf d<|Zx ..;unfold GA at hd
   split at hd
   all_goals first
    |exact hd.elim
    | (cases r1 with
     |tuple h1 h2 h3 h4 =>
      rename_i b nx;cases q:b.toList with
      |nil=>rw[q]at h4;cases h4
      |cons v0 vr =>
       rw[q]at h4;have n:b[0]?=some v0:=by rw[<-Yj,q];rfl
       cases h4 with
       |cons g1 g2 =>
        refine⟨v0::fs,by rw[ZL,ZL,c],KatTups.cons h1 h2 h3 n e,λv hv=>?_⟩
        rcases ZI.mp hv with rfl|hv
        .cases g1
         first
          |exact .inl ⟨hd,_,_,rfl⟩
          |exact .inr (.inl ⟨hd,_,_,rfl⟩)
          |(rename_i j l p s;exact .inr<|.inr ⟨hd,_,_,rfl,j,l⟩)
        .exact f v hv)
theorem RZ {b:Df}{us:Db}{c:Dd}(r:Lu s.heap us b c)(g:∀d∈b,GA T d)(j:0<b.length){Q:SortKind->Dh}(q:Q (tuples'<|EG T !=EG "tuple") s) :
  D4 (Eb prog w) A (keyKind' us.toArray) Q E s:=by
 obtain⟨fs,h,e,f⟩:=Bo r g;refine kat_kind e (by lia) (T:=.type T) (λv hv=>?_) (by simp) q
 rcases f v hv with⟨rfl,i,t,rfl⟩|⟨rfl,i,t,rfl⟩|⟨rfl,a,o,rfl,ho,hc⟩
 .exact .now
 .exact .now
 .rw[<-hc];exact(Looks.ld ho).andThen .now
def S9 (x y:Ea):Prop:=(∃i j,x=.int i/\y=.int j)\/(∃i j,x=.str i/\y=.str j)
theorem Tx {b:Bool}{Q:Bool->Dh}{r:Bool}(q:Q r s)(xs:Df):∀(ys:Df) (vs us:Db) (as bs:Dd) (i k:Nat),Lu s.heap vs xs as->Lu s.heap us ys bs->Ec xs=true->Ec ys=true->A.units+min (Eo xs) (Eo ys)<EO ->
  SI xs ys r->(b=true->i=0->∀x xs' y ys',xs=x::xs'->ys=y::ys'->S9 x y)->KatLex prog w A b (decide (k+vs.length<k+us.length)) Q (vs.zip us) i s:=by
 induction xs with
 |nil =>
  intro ys vs us as bs i k j l _ _ _ h _;cases j;have e:us.length=ys.length:=SeqAt.ReadsAll.length _ _ _ l;rw[List.zip_nil_left];show Q (decide (k+0<k+us.length)) s;rw[show decide (k+0<k+us.length)=r by rw[show r=_ from h,e];exact J1.mpr<|by lia];exact q
 |cons x xs t =>
  intro ys vs us as bs i k j l C D p h B;cases ys with
  |nil =>
   cases l;cases j with
   | @cons v vs _ _ _ _ p1 p2 =>
    rw[List.zip_nil_right];show Q (decide (k+(vs.length+1)<k+0)) s;rw[show decide (k+(vs.length+1)<k+0)=r by rw[show r=_ from h];exact ZP<|by lia];exact q
  |cons y ys =>
   have d:x.canLay0=true/\Ec xs=true:=by simpa[Ec] using C
   have f:y.canLay0=true/\Ec ys=true:=by simpa[Ec] using D
   have g:A.units+min x.depth y.depth<cLine:=SeqAt.room_head p;have n:A.units+min (Eo xs) (Eo ys)<cLine:=SeqAt.room_tail p;cases j with
   | @cons v vs _ _ _ _ p1 p2 =>
    cases l with
    | @cons u us _ _ _ _ q1 q2 =>
     rw[List.zip_cons_cons];refine kat_cons ?_;have h:(EB x y=true/\SI xs ys r)\/(EB x y=false/\Wp x y r):=h
     rcases h with⟨e,h⟩|⟨e,h⟩
     .refine Lx prog w A _ s _ _ _ _ _ _ _ p1 q1 d.1 f.1 g ?_;rw[e];refine kat_yes ?_;have t:=t ys vs us _ _ (i+1) (k+1) p2 q2 d.2 f.2 n h (λ_ z=>by lia);rwa[ZL,ZL,show k+(vs.length+1)=k+1+vs.length by lia,show k+(us.length+1)=k+1+us.length by lia]
     .refine Lx prog w A _ s _ _ _ _ _ _ _ p1 q1 d.1 f.1 g ?_;rw[e];refine kat_no ?_;cases c:(b&&i==0) with
      |true =>
       have o:b=true/\i=0:=by simpa using c
       rcases B o.1 o.2 x xs y ys rfl rfl with⟨i1,j1,rfl,rfl⟩|⟨i1,j1,rfl,rfl⟩
       .cases p1;cases q1;refine kat_lt_int ?_;rwa[<-(show r=_ from h)]
       .cases p1;cases q1;refine kas_lt_str ?_;rwa[<-(show r=_ from h)]
      |false=>exact kat_one _ _<|O3 x y r A s _ _ _ _ p1 q1 d.1 f.1 g h _ _ q
theorem NQ {d e:Ea}{u v:D2}{g bs:Dd}{C:Bool->Dh}(p:Reads s.heap u d g)(q:Reads s.heap v e bs)(f:GA T d)(fe:GA T e)(ld:d.canLay0=true)(le:e.canLay0=true)(o:A.units+min d.depth e.depth<EO)(h:Wp d e r)(c:C r s) :
  D4 (Eb prog w) A (keyLt' (tuples'<|EG T !=EG "tuple") u v) C (λ_ _=>False) s:=by
 cases d with
 |tuple xs =>
  cases e with
  |tuple ys =>
   cases p with
   |tuple h1 h2 h3 h4 =>
    cases q with
    |tuple k1 k2 k3 k4 =>
     refine kat_lt h1 h3 k1 k3 ?_;have:=Tx (prog:=prog) (w:=w) (A:=A) (b:=(EG T !=EG "tuple")) c xs ys _ _ _ _ 0 0 h4 k4 ld le (by
      have i:(PyData.tuple xs).depth=Eo xs+1:=rfl;have j:(PyData.tuple ys).depth=Eo ys+1:=rfl;rw[i,j]at o;lia) h (λn _ x t y z ex l=>by
      subst ex l;unfold GA at f fe
      split at f
      .rename_i e;cases e
       split at fe
       .rename_i e;cases e;exact .inl ⟨_,_,rfl,rfl⟩
       .rw[f]at fe;exact absurd fe (by decide)
       .rw[f]at fe;exact absurd fe (by decide)
       .exact fe.elim
      .rename_i e;cases e
       split at fe
       .rw[f]at fe;exact absurd fe (by decide)
       .rename_i e;cases e;exact .inr ⟨_,_,rfl,rfl⟩
       .rw[f]at fe;exact absurd fe (by decide)
       .exact fe.elim
      .subst f;simp at n
      .exact f.elim)
     simpa using this
  |_=>exact fe.elim
 |_=>exact f.elim
end
section
variable {X:Cx}{K:CB}
theorem Bv:∀{vs:Dj} {us:Db},yx vs us->∀(p:List Nat),(∀i∈p,i<vs.length)->yx (p.map λi=>vs.getD i .non) (p.map λi=>us.getD i Ev)
 |vs,us,r,[],_=>.nil
 |vs,us,r,i::p,h=>by
  refine .cons ?_<|Bv r p λj d=>h j<|Zw _ d;have c:=h i<|Zx ..;have go:∀{vs:Dj} {us:Db} (i:Nat),yx vs us->i<vs.length->yw (vs.getD i .non) (us.getD i Ev):=λ{vs us} i r c=>by
   induction i generalizing vs us with
   |zero =>
    cases r with
    |nil=>exact absurd c<|Uf _
    |cons a b=>exact a
   |succ i ih =>
    cases r with
    |nil=>exact absurd c<|Uf _
    |cons a b=>exact ih b (by simpa using c)
  exact go i r c
theorem ME (h:zc K H ds vs):∀(p:List Nat),(∀i∈p,i<vs.length)->zc K H (p.map λi=>ds.getD i .none) (p.map λi=>vs.getD i .non)
 |[],_=>rfl
 |i::p,hp=>by
  have b:=hp i<|Zx ..;obtain⟨d,c,f⟩:=h.get<|ZD b;refine⟨vs.getD i .non,_,rfl,?_,ME h p λj e=>hp j<|Zw _ e⟩;show Dt K H (ds.getD i .none) (vs.getD i .non);rwa[Y2,Y2,c,ZD b]
theorem Xz {h:Ej}:∀{ds:Df} {us:Db} {as:Dd} (i:Nat),Lu h us ds as->i<ds.length->∃bs,Reads h (us.getD i Ev) (ds.getD i .none) bs
 |[],_,_,i,_,hi=>absurd hi<|Uf _
 |d::ds,_,_,0,r,_=>by
  cases r with
  |cons r1 r2=>exact⟨_,r1⟩
 |d::ds,_,_,i+1,r,hi=>by
  cases r with
  |cons r1 r2=>exact Xz i r2 (by simpa using hi)
theorem PP {b:Type}{l:List b}{z:b}:(Ef l.length).map (λi=>l.getD i z)=l:=by
 apply VT
 intro i;rw[ZF]
 rcases VU i l.length with q|q
 .rw[JZ q,ZD q];simp[Y2,ZD q]
 .rw[Yv<|by rwa[Yo],Yv q];rfl
end
end L2
namespace AxS
open PySem PySem.Spec PyProof.Rows
theorem IE {n:Nat}(h:n<256):Full (Eg n)/\n<Eg n:=by
 have go:∀n,n<256->(Eg n=8\/Eg n=16\/Eg n=32\/Eg n=64\/Eg n=128\/Eg n=256)/\n<Eg n:=by decide+kernel
 obtain⟨b,c⟩:=go n h;refine⟨?_,c⟩
 rcases b with e|e|e|e|e|e<;>rw[e]
 .exact SM
 .exact To
 .exact Tp
 .exact Tq
 .exact RP
 .exact RQ
theorem GN {es:Array (Int×D2)}{b:Array Nat}(h:b.toList.Perm<|Ef es.size):(b.filterMap (es[·]?)).toList.Perm es.toList/\(b.filterMap (es[·]?)).size=es.size:=by
 have c:(b.filterMap (es[·]?)).toList.Perm es.toList:=by
  rw[Array.toList_filterMap];refine(h.filterMap _).trans ?_;have e:=Vs es.toList;rw[ZU]at e;have d:(Ef es.size).filterMap (λp=>es[p]?)=(Ef es.size).filterMap λi=>es.toList[i]?:=by congr 1;funext p;exact(Yj ..).symm
  rw[d,e]
 exact⟨c,by rw[<-ZU,c.length_eq,ZU]⟩
section
variable {prog:D3}{w:D6}{A:Em}{E:D2->Dh}{s:D7}
theorem Ra {a:D1}{o:Obj}{es:Array (Int×D2)}{ep n:Nat}{t:EM}{Q:Unit->Dh}(f:s.heap.get? a=some o)(hd:o.data=.set es ep t)(p:t.fits es.size=true)(e:n<256)(l:es.size<=n)
  (h:∀es' t',es'.toList.Perm es.toList->t'.fits es'.size=true->t'.led=t.led->t'.plain=t.plain->t'.dummies=#[]->t'.mask=Eg n-1->Q () { s with heap:=s.heap.update a (Ls es' t') }):D4 (Eb prog w) A (setRelay a n) Q E s:=by
 obtain⟨F,q⟩:=IE e;have r:Eg n-1+1=Eg n:=by lia
 obtain⟨t',b,i,pm,g,d,mk,le,v⟩:=MO (mask:=Eg n-1) (finger:=t.finger) (moves:=t.movedTo<|Eg n-1) (led:=t.led) (plain:=t.plain) (hs:=es.map (·.1)) (by rw[r];exact F) (by rw[VV];lia);rw[VV]at pm g;obtain⟨u,c⟩:=GN pm;have x:¬Eg n>sizeLine:=by
  have:∀n,n<256->Eg n<=256:=by decide+kernel
  have:=this n e;rw[YU];lia
 unfold setRelay;refine Zt<|Ye f hd p ?_;dsimp only;rw[ZM x];have j:t.relaid (es.map (·.1)) n=some (t',b):=i;rw[j];refine Zt ?_;wp_delta;dsimp only;rw[ZM (by rw[c];simp)];refine Zy ?_;refine Ve f hd (h _ t' u (by unfold Ma SetTable.fill;rw[g,d,c,mk];simp;lia) le v d mk) ?_;rw[YU,c];lia
theorem FA {h:Ej}{a:D1}{o:Obj}{es b:Array (Int×D2)}{ep:Nat}{t t':EM}(c:h.get? a=some o)(hd:o.data=.set es ep t):(h.update a<|Ls b t').get? a=some { o with data:=.set b (ep+1) t' }:=by
 have:=YF (Ls b t') c (by rw[UG b t' hd];rfl);rw[UG b t' hd]at this;exact this
theorem XN {Q:Bool->Dh}(h:Q (byText w) s):D4 (Eb prog w) A Mj Q E s:=by
 unfold Mj;exact Zt<|Jq<|Zy h
theorem Na {a:D1}{o:Obj}{es:Array (Int×D2)}{ep n:Nat}{t:EM}{Q:Unit->Dh}(c:s.heap.get? a=some o)(hd:o.data=.set es ep t)(b:t.fits es.size=true)(g:(es.size+n)*2<256)
  (e:t.roomFor n=none->Q () s)
  (f:∀es' t',es'.toList.Perm es.toList->t'.fits es'.size=true->t'.led=t.led->t'.plain=t.plain->t'.dummies=#[]->t'.mask=Eg ((es.size+n)*2)-1->Q () { s with heap:=s.heap.update a (Ls es' t') }):D4 (Eb prog w) A (setRoomFor a n) Q E s:=by
 unfold setRoomFor;refine Zt<|Ye c hd b ?_;have h:t.place.size=es.size:=by
  unfold Ma at b;have:=(Bool.and_eq_true_iff.mp b).1;exact Jy.mp this
 dsimp only;cases q:t.roomFor n with
 |none=>exact Zy<|e q
 |some wanted =>
  have d:wanted=(es.size+n)*2:=by
   unfold SetTable.roomFor at q
   split at q
   .cases q;rw[h]
   .cases q
  subst d;exact Ra c hd b g (by lia) f
theorem Re {a:D1}{o:Obj}{es:Array (Int×D2)}{ep n:Nat}{t:EM}{Q:Unit->Dh}(b:s.heap.get? a=some o)(d:o.ExactSet)(hd:o.data=.set es ep t)(c:t.fits es.size=true)(i:(es.size+n)*2<256)
  (h:∀(h1:Ej) (o':Obj) (es':Array<|Int×D2) (ep':Nat) (t':EM),Ez a s.heap h1->h1.get? a=some o'->o'.ExactSet->o'.data=.set es' ep' t'->es'.toList.Perm es.toList->t'.fits es'.size=true->t'.led=t.led->t'.plain=t.plain->Q () { s with heap:=h1 }):D4 (Eb prog w) A (setRoomFor a n) Q E s :=
 Na b hd c i (λ_=>h s.heap o es ep t (Heap.SameBut.refl a s.heap) b d hd (List.Perm.refl _) c rfl rfl) λes' t' pm e f g _ _=>h _ _ es' (ep+1) t' (Es s.heap a _) (FA b hd) d rfl pm e f g
theorem SG {a b:D1}{o J:Obj}{es g:Array (Int×D2)}{ep p:Nat}{t B:EM}{Q:Array (Int×D2)->Dh}(H:s.heap.get? a=some o)(hd:o.data=.set es ep t)(F:t.fits es.size=true)(i:Mg (strKind prog w) es.toList)(hl:t.led=!byText w)(M:t.plain=false)
  (y:s.heap.get? b=some J) (u:J.data=.set g p B) (v:B.fits g.size=true) (O:Mg (strKind prog w) g.toList) (G:B.led=!byText w) (I:B.plain=false)
  (h:∀W d,W.toList.Perm es.toList->Q W { s with drawn:=d }):D4 (Eb prog w) A (setWalkUnseen a [b]<|some b) Q E s:=by
 have j:∀{es:Array (Int×D2)},Mg (strKind prog w) es.toList->∀e∈es.toList,∀r,e.2≠.ref r:=λ{es} i e he r z=>by
  have:=(i e he).2;rw[z]at this;cases this
 have wk:(byText w=true\/es.size<=1)->D4 (Eb prog w) A (setWalk a) Q E s:=λc=>by
  unfold setWalk;refine Zt<|Ye H hd F ?_;dsimp only;refine Zt<|XN ?_;cases q:byText w with
  |true =>
   simp only[↓reduceIte];exact Zt<|Jq<|Zy<|h _ s.drawn<|jT _ _
  |false =>
   have c1:es.size<=1:=c.resolve_left (by rw[q];decide);simp only[YA,↓reduceIte];refine YD (λz=>?_)<|λ_=>?_
   .exfalso;have z:(!t.plain&&decide (es.size>1))=true:=z;rw[ZP<|by lia,Js]at z;cases z
   .refine Zt ?_;wp_delta;rw[hl,q];refine YD (λz=>?_)<|λ_=>?_
    .exfalso;have z:(!(!false)&&decide (es.size>1))=true:=z;cases z
    .exact Zy (Zy<|h es s.drawn<|List.Perm.refl _)
 unfold setWalkUnseen;refine Zt<|Ye H hd F ?_;dsimp only;refine Zt<|XN ?_;refine YD (λz=>?_)<|λz=>?_
 .refine wk ?_;rw[M,Js,Bool.or_false,Ud]at z;exact z.imp id ZJ
 .refine Zt ?_;have quiet:∀(l:Dd),(∀c∈l,∃o es ep t,s.heap.get? c=some o/\o.data=.set es ep t/\t.fits es.size=true/\Mg (strKind prog w) es.toList)->∀{D:Bool->Dh},D true s->D4 (Eb prog w) A (setsQuiet l) D E s:=λl hl D U=>by
   unfold setsQuiet;refine Zt ?_;refine Vn _ (λf q C=>C=s/\q=(none,())/\∀c∈f,∃o es ep t,s.heap.get? c=some o/\o.data=.set es ep t/\t.fits es.size=true/\Mg (strKind prog w) es.toList) _ ?_ ?_ l _ ⟨rfl,rfl,hl⟩
   .rintro c f q C ⟨rfl,rfl,n⟩;obtain⟨o,es,ep,t,P,R,S,T⟩:=n c<|Zx ..;refine Zt ?_;unfold setEntries;refine Zt<|Ye P R S<|Zy ?_;refine Zt ?_;refine MeetsSeq2.wpAny_forIn_array _ (λf q L=>L=C/\q=(none,())/\∀e∈f,∀r,e.2≠.ref r) _ ?_ ?_ _ _ ⟨rfl,rfl,j T⟩
    .rintro⟨X,x⟩ K Z L ⟨rfl,rfl,N⟩;have Y:=N (X,x)<|Zx ..;cases x with
     |ref r=>exact absurd rfl<|Y r
     |_=>exact Zy ⟨rfl,rfl,λe he=>N e<|Zw _ he⟩
    .rintro Z L ⟨rfl,rfl,_⟩;exact Zy ⟨rfl,rfl,λd hd=>n d<|Zw _ hd⟩
   .rintro q C ⟨rfl,rfl,_⟩;exact Zy U
  refine quiet [a,b] (λc n=>?_) ?_
  .rcases ZI.mp n with rfl|n
   .exact⟨o,es,ep,t,H,hd,F,i⟩
   .rw[Zv.mp n];exact⟨J,g,p,B,y,u,v,O⟩
  .simp only[Vu,YA,↓reduceIte];refine Zt<|Vg ?_;refine Zt<|Ye y u v ?_;dsimp only;refine YD (λz=>?_)<|λ_=>?_
   .exfalso;rw[hl,G,M,I]at z;cases q:byText w<;>rw[q]at z<;>cases z
   .exact Zy (h es s.drawn<|List.Perm.refl _)
theorem Ri {x:Str}:x∈step ks k↔x∈ks\/x=k:=by
 unfold step
 split
 .rename_i h;exact⟨.inl,λz=>z.elim id λe=>by rw[e];exact h⟩
 .rw[ZZ,Zv]
theorem kI {ks:Da}(h:ks.Nodup):(step ks k).Nodup:=by
 unfold step
 split
 .exact h
 .rename_i n;refine YX.mpr ⟨h,Yl.mpr ⟨by simp,YN⟩,λx c y b e=>n ?_⟩;rw[Zv]at b;rwa[<-b,<-e]
theorem Bl {t:EM}{n:Nat}(b:t.fits n=true):t.place.size=n:=Jy.mp (Bool.and_eq_true_iff.mp b).1
structure Both (ks1 ks2 ks:Da):Prop where
 mem:∀x,x∈ks↔x∈ks1\/x∈ks2
 nd:ks1.Nodup->ks2.Nodup->ks.Nodup
 len:ks.length<=ks1.length+ks2.length
theorem Rr {i:Sem Unit}{Q:Unit->Dh}(hS:yp prog w s.heap a ks1)(hO:yp prog w s.heap b ks2)(ne:a≠b)(n1:ks1≠[])(hb:(ks1.length+ks2.length)*2<256)
  (hE:∀(s':D7) (Q':Unit->Dh),s'.heap.get? b=s.heap.get? b->Q' () s'->D4 (Eb prog w) A i Q' E s')
  (h:∀h' d ks',Ez a s.heap h'->yp prog w h' a ks'->Both ks1 ks2 ks'->Q () { s with heap:=h',drawn:=d }):D4 (Eb prog w) A (setMerge a b i) Q E s:=by
 obtain⟨o,es,ep,t,ho,hx,hd,X⟩:=id hS;obtain⟨o2,L,al,t2,ad,ap,C,X2⟩:=id hO;have hl:=XJ X;have an:=XJ X2;obtain⟨ac,hp,am,hf,p,S⟩:=X;obtain⟨D0,R,ak,D,G,T⟩:=X2;have k0:0<ks1.length:=JX.mpr n1;unfold setMerge;refine YD (λz=>absurd (Jy.mp z) ne) (λ_=>?_);refine Zt<|Ye ad C D ?_;dsimp only;refine YD (λz=>?_)<|λz=>?_
 .have e:L.size=0:=by simpa[Array.isEmpty] using z
  have e:ks2=[]:=YB (by lia);subst e;exact Zy (h s.heap s.drawn ks1 (Heap.SameBut.refl a s.heap) hS ⟨λx=>by simp,λn _=>n,by lia⟩)
 .have e2:L.size≠0:=λe=>z (by simpa[Array.isEmpty] using e);refine Zt (Re ho hx hd hf (by lia) λM o' K ab t' U H af B pm f O q=>?_);have ay:K.size=es.size:=by rw[<-ZU,pm.length_eq,ZU]
  have P:M.get? b=some o2:=by rwa[U.2 b ne.symm]
  refine Zt<|Ye (s:={ s with heap:=M }) H B f ?_;dsimp only;have rd:t'.road t2=.oneByOne:=by
   unfold SetTable.road SetTable.fill;rw[Bl f];exact ZS (bne_iff_ne.mpr<|by lia)
  rw[rd];dsimp only;have l:=ac.perm pm;refine Zt (SG (s:={ s with heap:=M }) P C D D0 G (T e2) H B f l (O.trans p) (q.trans<|S<|by lia) λW d wp=>?_);have ah:yp prog w M a ks1:=⟨o',K,ab,t',H,af,B,l,(pm.map keyOf).trans hp,by lia,f,O.trans p,λ_=>q.trans<|S<|by lia⟩;have N:=D0.perm wp;have wl:W.toList.length=ks2.length:=by rwa[wp.length_eq,ZU]
  refine Zt ?_;refine MeetsSeq2.wpAny_forIn_array _ (λc _ s2=>∃(done:List<|Int×D2) (v:Ej) (I:Da),W.toList=done++c/\s2={ s with heap:=v,drawn:=d }/\Ez a s.heap v/\yp prog w v a I/\Both ks1 (done.map keyOf) I) _ ?_ ?_ W _ ⟨[],M,ks1,rfl,rfl,U,ah,λx=>by simp,λn _=>n,by simp⟩
  .rintro⟨J,x⟩ c _ s2 ⟨done,v,I,j,rfl,g,tx,u⟩;have mem:(J,x)∈W.toList:=by rw[j];exact Z5 _<|Zx ..
   obtain⟨⟨k,hk,F⟩,_⟩:=N (J,x) mem;obtain⟨tk,et⟩:=YS<|show EI k x=true from hk;have F:J=hashStr w k:=F;have ek:keyOf (J,x)=k:=by unfold keyOf;rw[et]
   dsimp only;rw[et,F];have dl:done.length+c.length+1=ks2.length:=by
    rw[j,ZE,ZL]at wl;lia
   have kl:=u.len;rw[Zu]at kl;have as:LC=4096:=rfl;refine Zt (YR<|Ms (s:={ s with heap:=v,drawn:=d }) tx (by lia) λZ r Y ai=>?_);have e3:Z.get? b=s.heap.get? b:=(Y.2 b ne.symm).trans<|g.2 b ne.symm;refine Zt<|hE _ _ e3 ?_;refine Zt (Ye (s:={ s with heap:=Z,drawn:=d }) (show Z.get? b=some o2 by rwa[e3]) C D ?_);refine YD (λz=>absurd z<|by simp) (λ_=>?_);refine Zy ⟨done++[(J,x)],Z,step I k,by rw[j,Ys];rfl,rfl,g.trans Y,ai,λy=>?_,λn m=>kI<|u.nd n (by rw[ZH]at m;exact(YX.mp m).1),?_⟩
   .rw[Ri,u.mem,ZH,ZZ];show _↔y∈ks1\/y∈done.map keyOf\/y∈[keyOf (J,x)];rw[ek,Zv,or_assoc]
   .have:=Ka I k;rw[Zu,ZE,Yi];lia
  .rintro _ s2 ⟨done,v,I,j,rfl,g,tx,u⟩;rw[ZW]at j;refine Zy (h v d I g tx ⟨λx=>?_,λn m=>u.nd n (by rw[<-j];exact((wp.map keyOf).trans R).nodup_iff.mpr m),?_⟩)
   .rw[u.mem,<-j];have pk:(W.toList.map keyOf).Perm ks2:=(wp.map keyOf).trans R;rw[pk.mem_iff]
   .have:=u.len;rw[Zu,<-j,wl]at this;exact this
theorem IO {a:D1}{n:Nat}{Q:Unit->Dh}(c:s.heap.get? a=some (zV w))(l:n*2<256)
  (h:∀(h1:Ej) (o':Obj) (ep':Nat) (t':EM),Ez a s.heap h1->h1.get? a=some o'->o'.ExactSet->o'.data=.set #[] ep' t'->t'.fits 0=true->t'.led=!byText w->t'.plain=true->t'.dummies=#[]->Full (t'.mask+1)->n<=t'.mask->Q () { s with heap:=h1 }):D4 (Eb prog w) A (setRoomFor a n) Q E s:=by
 refine Na (es:=#[]) c rfl rfl (by show(0+n)*2<256;lia) (λz=>?_) λb t' pm e f g i f5=>?_
 .refine h s.heap _ 0 _ (Heap.SameBut.refl a s.heap) c ⟨rfl,rfl,rfl⟩ rfl rfl rfl rfl rfl SM ?_;unfold SetTable.roomFor at z
  split at z
  .cases z
  .rename_i q;have q:¬(0+n)*5≥7*3:=q;show n<=7;lia
 .have d:b=#[]:=by
   have:=pm.length_eq;rw[ZU]at this;exact Array.eq_empty_of_size_eq_zero this
  subst d;have f5:t'.mask=Eg (n*2)-1:=by
   rw[f5];show Eg ((0+n)*2)-1=_;rw[VO]
  obtain⟨F,j⟩:=IE l;refine h _ _ 1 t' (Es s.heap a _) (FA c rfl) ⟨rfl,rfl,rfl⟩ rfl e f g i ?_ (by lia);rw[f5,show Eg (n*2)-1+1=Eg (n*2) by lia];exact F
theorem Nl {a:D1}{q:Sem Unit}{Q:Unit->Dh}(D:s.heap.get? a=some (zV w))(X:yp prog w s.heap b ks2)(ne:a≠b)(hb:ks2.length*2<256)
  (h:∀h',Ez a s.heap h'->(ks2=[]->h'.get? a=some (zV w))->yp prog w h' a ks2->Q () { s with heap:=h' }):D4 (Eb prog w) A (setMerge a b q) Q E s:=by
 obtain⟨o2,i,T,p,J,Z,G,M⟩:=id X;have I:=XJ M;obtain⟨L,v,c,t,o,n⟩:=M;unfold setMerge;refine YD (λz=>absurd (Jy.mp z) ne) (λ_=>?_);refine Zt<|Ye J G t ?_;dsimp only;refine YD (λz=>?_)<|λz=>?_
 .have e:i.size=0:=by simpa[Array.isEmpty] using z
  have e:ks2=[]:=YB (by lia);subst e;exact Zy<|h s.heap (Heap.SameBut.refl a s.heap) (λ_=>D)<|Kk (xs:=[]) D
 .have B:i.size≠0:=λe=>z (by simpa[Array.isEmpty] using e);have n2:ks2≠[]:=λe=>B (by rw[I,e];rfl);refine Zt (IO D (by lia) λC o' S l y g x f r u Y H F hn=>?_);refine Zt<|Ye (s:={ s with heap:=C }) g f r ?_;dsimp only;have U:l.fill=0:=by unfold SetTable.fill;rw[Bl r,H];rfl
  have d:p.led=!byText w:=o;cases rd:l.road p with
  |oneByOne =>
   exfalso;unfold SetTable.road at rd;rw[U]at rd;rw[ZM<|by simp]at rd
   split at rd<;>cases rd
  |slotForSlot =>
   refine Ve (s:={ s with heap:=C }) g f ?_<|VS c;refine h _ (y.trans<|Es _ a _) (λz=>absurd z n2) ⟨_,i,_,_,FA g f,x,rfl,L,v,c,t,?_,λ_=>?_⟩
   .show(l.led&&p.led)=!byText w;rw[u,d,Bool.and_self]
   .show(l.plain&&p.plain)=false;rw[n B,Js]
  |clean =>
   obtain⟨t3,K,R,pm,O,P,mk,le,pl⟩:=MO (mask:=l.mask) (finger:=l.finger) (moves:=l.moves) (led:=l.led&&p.led) (plain:=l.plain&&p.plain) (hs:=i.map (·.1)) F (by rw[VV];lia);rw[VV]at pm O;obtain⟨N,j⟩:=GN pm;dsimp only;rw[R];refine Zt ?_;wp_delta;dsimp only;rw[ZM (by rw[j];simp)];refine Zy ?_;refine Ve (s:={ s with heap:=C }) g f ?_ (by rw[j];exact VS c);refine h _ (y.trans<|Es _ a _) (λz=>absurd z n2) ⟨_,_,_,t3,FA g f,x,rfl,L.perm N,(N.map keyOf).trans v,by rw[j];exact c,?_,?_,λ_=>?_⟩
   .unfold Ma SetTable.fill;rw[O,P,j,mk];simp;lia
   .rw[le,u,d,Bool.and_self];rfl
   .rw[pl,n B,Js]
theorem Oy:entryFor table "set.__or__"=some Builtin.«frozenset.__or__» :=
 entryFor_alias (id':="frozenset.__or__") (by kernel_rfl) (by first|rfl|decide+kernel|(unfold String.splitOn;simp +decide [String.splitOnAux])) (by decide+kernel) (by kernel_rfl)
theorem uI {h:Ej}{s:D7}(x:yp prog w s.heap a ks):s.TypeIs (.ref a) "set":=by
 obtain⟨o,e,d,t,b,c,_⟩:=x;exact⟨o,b,c.1⟩
theorem B9 {a:D1}{Q:Bool->Dh}(b:s.TypeIs (.ref a) "set")(h:Q true s):D4 (Eb prog w) A (EK<|.ref a) Q E s:=by
 unfold EK;show D4 _ _ (isInstance (.ref a) (.type "set")>>=_) _ _ _;refine Zt<|Je b sub_set_self ?_;exact Zy h
theorem av {Q:D2->Dh}(C:yp prog w s.heap a ks1)(n:yp prog w s.heap b ks2)(ne:a≠b)(R:(ks1.length+ks2.length)*2<256)
  (h:∀h' d ks',(∀x o,s.heap.get? x=some o->h'.get? x=some o)->yp prog w h' s.heap.objs.size ks'->Both ks1 ks2 ks'->Q (.ref s.heap.objs.size) { s with heap:=h',drawn:=d }) :
  D4 (Eb prog w) A (call (.builtin "set.__or__") [.ref a,.ref b]) Q E s:=by
 have i:=uI (h:=s.heap) C;have D:=uI (h:=s.heap) n;refine YH PySem.F.slot_set_or i Oy ?_<|PySem.F.args_set_or_2 _ _;unfold Builtin.«frozenset.__or__»;wp_delta;refine Zt ?_;show D4 _ _ (E7 (Ee a,Ee b)) _ _ _;refine Zy ?_;dsimp only;refine Zt ?_;show D4 _ _ (EK (.ref a)>>=_) _ _ _;refine Zt<|B9 i ?_;show D4 _ _ (EK<|.ref b) _ _ _;refine B9 D ?_;simp only[Vu,YA,↓reduceIte];refine Zt<|Zy ?_;refine Zt ?_;wp_delta;refine Zt ?_;unfold Builtin.Frozenset.copyOf Builtin.Frozenset.baseOf newSet;refine Zt<|Zt<|Je i sub_set_self<|Zy ?_;simp only[↓reduceIte];refine Zt<|Zt<|XN ?_;simp only[newObj];refine Zt<|wpAny_alloc<|Zy ?_;have P:(s.heap.push<|zV w).get? s.heap.objs.size=some (zV w):=ZK _ rfl;have kp:∀x o,s.heap.get? x=some o->(s.heap.push<|zV w).get? x=some o:=λx o e=>ZC _ e;have T:a<s.heap.objs.size:=by obtain⟨o,_,_,_,e,_⟩:=C;exact ZR e
 have lb:b<s.heap.objs.size:=by obtain⟨o,_,_,_,e,_⟩:=n;exact ZR e
 refine Zt<|Zy ?_;refine Zt ?_;refine Nl (s:={ s with heap:=s.heap.push (zV w) }) P (C.at (kp a)) (J6 T) (by lia) λg H B I=>?_;have c:∀x o,s.heap.get? x=some o->g.get? x=some o:=λx o e=>(H.2 x<|ZX<|ZR e).trans<|kp x o e;refine Zy ?_;rw[ZS<|by simpa using λz=>ne z.symm];refine Zt<|Zy ?_;refine Zt<|YR ?_;unfold ES;have t:LH { s with heap:=g } (.ref b) "set":=uI (h:=g)<|n.at (c b);refine Zt<|B9 (s:={ s with heap:=g }) t ?_;simp only[↓reduceIte];refine Zt<|Zy ?_;unfold Builtin.Frozenset.merge;obtain⟨U,O,N,t2,G,S,u,L⟩:=id<|n.at (c b);have v:=L.2.2.2.1;refine Zt ?_;unfold setEpoch;refine Zt<|Ye (s:={ s with heap:=g }) G u v<|Zy ?_;have nb:s.heap.objs.size≠b:=J6 lb;have r:∀(f:Ej) (d:Drawn) (p:Da),Ez s.heap.objs.size g f->yp prog w f s.heap.objs.size p->Both ks1 ks2 p->Q (.ref s.heap.objs.size) { s with heap:=f,drawn:=d }:=λf d p X Y y =>
  h f d p (λx o e=>(X.2 x<|ZX<|ZR e).trans<|c x o e) Y y
 by_cases J:ks1=[]
 .subst J;refine Nl (s:={ s with heap:=g }) (B rfl) (n.at (c b)) nb (by lia) λf j _ l=>?_;exact Zy (Zy ⟨_,rfl,r f s.drawn ks2 j l ⟨λx=>by simp,λ_ m=>m,by lia⟩⟩)
 .refine Rr (s:={ s with heap:=g }) I (n.at (c b)) nb J R (λK Z M q=>?_) λf d p j l y=>?_
  .unfold Builtin.Frozenset.unchanged setEpoch;refine Zt (Zt<|Ye (s:=K) (show K.heap.get? b=some U by rwa[M]) u v<|Zy ?_);refine YD (λz=>absurd z<|by simp) (λ_=>Zy q)
  .exact Zy (Zy ⟨_,rfl,r f d p j l y⟩)
end
end AxS
namespace L2
open PySem PySem.Spec PyProof.Rows AxS
section
variable {X:Cx}
def bh (P:D3)(w:D6):R2:=λx y H Q=>∃(a b:D1) (c d:Da),x=.ref a/\y=.ref b/\H a=some (U1 P w a c)/\H b=some (U1 P w b d)/\a≠b/\(c.length+d.length)*2<256/\∀p e,H p=none->Both c d e->Q (.ref p) (upd H p<|U1 P w p e)
theorem Pu:CS X (Mc .BitOr) (bh X.prog X.w):=by
 intro B s D H x y v u Q I r t h;obtain⟨a,b,l,p,rfl,rfl,i,j,ne,n,q⟩:=h;cases r;cases t;have f:=k8<|I.hok a _ i;have e:=k8<|I.hok b _ j;refine wpAny_binaryOp_same (op:=.BitOr) (uI (h:=s.heap) f) (uI (h:=s.heap) e) PySem.F.fills_set_or PySem.F.slot_set_or<|av f e ne n λC d c k A g=>⟨λz=>(nomatch z),?_⟩;exact⟨.ref s.heap.objs.size,_,(I.laid (o:=U1 X.prog X.w s.heap.objs.size c) (t':=s.toks) k (ZB _)<|B0 A).drew (d:=d),rfl,q _ c (I.hok.fresh<|ZB _) g⟩
end
section
variable {X:Cx}{Dq:De}{σ:St}{H:Hp}{s:D7}{d:D1}{Dm:Dl}
theorem XZ (I:Inv X Dq σ H s)(e:Rd H d<|.dK Dm):∃vs ep,KV Dm vs/\s.heap.DictAt (zq X.prog X.w) d vs ep/\(d==EA)=false/\Dm.length<=sizeLine:=by
 obtain⟨z,hd,vs,f,o,g,ep,i,l,b,h,j,c⟩:=uB I.hok e;exact⟨vs,ep,f,⟨o,g,i,l,b,h,j,c⟩,hd,z⟩
theorem IQ {α c:Type}{F G:α->c->Prop}(h:∀a b,F a b->G a b){l:List α}{m:List c}(r:E5 F l m):E5 G l m:=Paired.mZ r h
theorem yq.nu {ob:Obj}{x:HO}(hd:H d=some (.frz ob x)){y:HO}(ok:yq P w H h b u):yq P w (upd H d y) h b u:=by
 have keep:∀{c:D1} {z:HO},H c=some z->(∀o v,z≠.frz o v)->upd H d y c=some z:=λ{c z} e n=>by
  rw[zH λq=>by rw[q,hd]at e;exact n _ _ (Option.some.inj e).symm];exact e
 induction u generalizing b with
 |lst g=>exact ok
 |tup g=>exact ok
 |dK Dm=>exact ok
 |dT Dm =>
  obtain⟨i,j,g,s,l⟩:=ok;exact⟨i,j,g,IQ (λp q r=>⟨r.1,keep r.2.1 (λo v z=>(nomatch z)),r.2.2⟩) s,l⟩
 |set S n=>exact ok
 |ins C dx fs=>exact⟨keep ok.1 (λo v z=>(nomatch z)),ok.2⟩
 |own x=>exact ok
 |xd fs=>exact ok
 |rng lo hi=>exact ok
 |frz o u ih=>exact⟨ok.1,ih ok.2⟩
 |tbl ps=>exact ok
 |met f x=>exact ok
 |ext φ=>exact ok
theorem Inv.nu {ob:Obj}(I:Inv X Dq σ H s)(hd:H d=some (.frz ob<|.dK Dm))(t:∀o u,X.H₀ d≠some (.frz o u)):Inv X Dq σ (upd H d<|.dK Dm) s:=by
 have ne:∀{b:D1},H b=none->b≠d:=λ{b} e z=>by rw[z,hd]at e;cases e
 have nt:∀{b:D1} {z:HO},H b=some z->(∀o v,z≠.frz o v)->b≠d:=λ{b z} e n q=>by rw[q,hd]at e;exact n _ _ (Option.some.inj e).symm
 refine⟨I.ok,I.os,I.bare,⟨I.base.keep,I.base.slot,λb o f j l=>?_,I.base.there,λb y f=>?_,λb o u f=>?_,λb w f=>?_⟩,I.loc,I.cell,?_,λx c f=>?_,λp r=>?_,λb u f=>?_,I.len⟩
 .have:=I.base.free b o f j l;rwa[zH<|ne this]
 .have:=I.base.tups b y f;rwa[zH<|nt this λo v z=>(nomatch z)]
 .have:=I.base.vz b o u f;rw[zH λz=>t o u<|by rwa[<-z]];exact this
 .obtain⟨more,this⟩:=I.base.uW b w f;exact⟨more,by rw[zH<|nt this λo v z=>(nomatch z)];exact this⟩
 .rw[zH<|ne I.free];exact I.free
 .have:=I.v8 x c f;rwa[zH<|ne this]
 .obtain⟨h,g,i⟩:=I.pin p r;exact⟨h,by rw[zH<|ne g];exact g,i⟩
 .by_cases z:b=d
  .rw[z,zB]at f;cases f;rw[z];exact(I.hok d _ hd).2
  .rw[zH z]at f;exact(I.hok b u f).nu hd
end
section
variable {X:Cx}{tg:Ey}
def TX:Dj->Hp->VK->Prop:=λc H Q=>∃a b,c=[.ref a]/\Rd H a (.dK b)/\∀l,H l=none->Q (.ref l) (upd H l<|.dK b)
theorem x9:xg X (.type "dict") TX:=by
 intro g s n H l j Q I r h;obtain⟨a,f,rfl,c,q⟩:=h;obtain⟨u,rfl,e⟩:=wU r;cases e;exact Ou I c λp i d b=>⟨.ref p,_,b,rfl,q p d⟩
def Xa (b:Key×V):Str:=match b.1 with
 | .inr x=>x
 | .inl _=>""
def Rz (Dm:Dl):Prop:=∀b∈Dm,b.1=.inr (Xa b)
theorem KN {us:Db}(g:Rz Dm)(c:KV Dm vs)(hl:us.length=vs.length)(n:∀(j:Nat) (v:D2),us[j]?=some v->∃k x,vs[j]?=some (k,x)/\(zq P w).is k v=true):xQ us (Dm.map Xa):=by
 have o:Dm.length=vs.length:=Paired.length c;refine⟨by rw[Zu];lia,λi v e=>?_⟩;obtain⟨k,x,h,f⟩:=n i v e;obtain⟨p,d,b,_⟩:=qZ c h;have b:p.1=k:=b;have ap:=g p<|ZN d;rw[<-b,ap]at f;obtain⟨t,l⟩:=YS<|show EI (Xa p) v=true from f;exact⟨Xa p,t,by rw[ZF,d];rfl,l⟩
def P7:Dj->Hp->VK->Prop:=λd H Q=>∃a b,d=[.ref a]/\Rd H a (.dK b)/\Rz b/\b.length<64/\∀l c,H l=none->c.Perm (b.map Xa)->sortedS c=true->Q (.ref l) (upd H l<|.lst<|c.map V.str)
theorem CZ (x:X.calm=true):xg X (.builtin "sorted") P7:=by
 intro B s G H F E Q I r h;obtain⟨a,f,rfl,t,i,o,q⟩:=h;obtain⟨u,rfl,y⟩:=wU r;cases y;obtain⟨vs,ep,b,l,p,D⟩:=XZ I t;have C:f.length=vs.length:=Paired.length b;exact Bh I (by rwa[Zu]) q λk=>PySem.W.kdu_collect (A:=X.A.in1) (PySem.W.kdl_dict (knd:=zq X.prog X.w) (kvs:=vs) (ep:=ep) p) (I.ok.hd x) l (by lia) λn z g c d=>k n s.drawn z _ _ c (List.Perm.refl _) (KN i b (by rw[ZU];exact d.1) λj v e=>d.2 j v<|by rwa[<-Yj])
def putAll (Dm more:Dl):Dl:=more.foldl (λb c=>yr b c.1 c.2) Dm
theorem KV.putAll:∀{more:Dl} {um:List (Key×D2)} {Dm:Dl} {vs:List (Key×D2)},KV Dm vs->KV more um->KV (putAll Dm more) (merged vs um)
 |[],_,_,_,r,.nil=>r
 |p::more,q::um,Dm,vs,r,.cons h t=>by
  have e:p.1=q.1:=h.1;have:=KV.putAll (Dm:=yr Dm p.1 p.2) (vs:=stored vs q.1 q.2) (by rw[<-e];exact r.put p.1 h.2) t;exact this
theorem qG:∀(more Dm:Dl),(putAll Dm more).length<=Dm.length+more.length
 |[],Dm=>ZB _
 |p::more,Dm=>by
  have:=qG more<|yr Dm p.1 p.2;have:=xW Dm p.1 p.2;show(putAll (yr Dm p.1 p.2) more).length<=_;rw[ZL];lia
def ag (g ty:TE):TE:=λf H Q=>g f H λx e=>∃a,x=.ref a/\Wx e a/\ty f e λy d=>∃b c more,y=.ref b/\a≠b/\d a=some (.dK c)/\Rd d b (.dK more)/\c.length+more.length<=sizeLine/\Q .non (upd d a<|.dK<|putAll c more)
theorem MZ (K:PE X o td)(he:PE X e ty)(m:M1 X o "update" Ds e Du):PE X (.Call (.Attribute o "update" Ds) [e] [] Du) (ag td ty):=by
 intro p s B H Q I h;refine VN m.base m.few m.line J0 PySem.F.slot_dict_update PySem.F.type_dict_update<|CF (K p s B H _ I h) λu R hh=>?_;obtain⟨x,D,r,O,a,ex,d,M⟩:=hh;subst ex;obtain rfl:u=Ee a:=O;obtain⟨S,T,_⟩:=BL r d;refine⟨S,T,?_⟩;rw[m.trees];refine EH rfl<|Lg<|ET<|CF (he p R B D _ r M) λZ s2 ⟨y,Y,i,P,b,C,more,G,ne,v,E,A,N⟩=>Lf ?_;subst G;cases P;obtain⟨z,hd,vs,g,t⟩:=MD i.hok v;obtain⟨z2,l,U,c,j⟩:=uB i.hok E;refine JN PySem.F.slot_dict_update t.typeIs PySem.F.entry_dict_update (PySem.F.args_dict_update_2 _ _) (meets_dict_update (zq X.prog X.w) a b ne l)
  ⟨vs,U,t,j,by rw[<-g.length,<-c.length];exact A,λJ f _ L=>⟨.non,_,?_,rfl,N⟩⟩
 have n:∃q,J.get? a=some q:=let ⟨q,_,_,hq,_⟩:=f;⟨q,hq⟩;exact uG i (by rw[v];exact E3) L n<|GQ (Yn (qG more C) A) hd (g.putAll c) f
end
open PySem.W
section
variable {X:Cx}
def Wm (H₀:Hp)(t:TS):TS:=λD f H=>t { D with nx:=λb e=>∃d ob c,e d=some (.frz ob<|.dK c)/\(∀o u,H₀ d≠some (.frz o u))/\D.nx b (upd e d<|.dK c) } f H
theorem uE {st:Er}(h:PS X st t):PS X st (Wm X.H₀ t):=by
 intro c s i H D I q;refine CF (h c s i H _ I q) λf n z=>?_;cases f with
 |next =>
  obtain⟨b,l,e,d,ob,j,hd,g,q⟩:=z;exact⟨b,_,e.nu hd g,q⟩
 |ret v=>exact z
 |brk=>exact z
 |cont=>exact z
def W1 (K:CB):Dj->Hp->VK->Prop:=λd H Q=>∃a T c b,d=[.ref a,.ty T]/\Rd H a (.dK c)/\Ln K (.type "dict") (.type T)=some b/\Q (.bl b) H
theorem CY {K:CB}(e:X.K=K:=by rfl):xg X (.builtin "isinstance") (W1 K):=by
 subst e;intro o s y H x w Q I r h;obtain⟨a,T,n,b,rfl,f,g,q⟩:=h;obtain⟨u,l,rfl,j,c⟩:=vals2 r;cases(show l=EG T from c);cases j;obtain⟨vs,p,i,d,t,_⟩:=XZ I f;exact YC Uu I.vG d.dictOf.typeIs g (λz=>nomatch z) λv=>⟨.bl b,H,I.tok _,rfl,q⟩
def W3 (K:CB):R2:=λx y H Q=>∃a b c d r,x=.ref a/\y=.ref b/\Rd H a (.dK c)/\Rd H b (.dK d)/\uc K H d c r/\Q (.bl<|!(c.length==d.length&&r)) H
theorem Pr (D:X.A.units+128<EO):CS X (EC .NotEq) (W3 X.K):=by
 intro C s E H x y v u Q I p t h;obtain⟨a,b,l,n,r,rfl,rfl,g,i,j,q⟩:=h;cases p;cases t;obtain⟨z,_,c,e,sa,_⟩:=XZ I g;obtain⟨B,_,d,f,w,_⟩:=XZ I i;have o:l.length=z.length:=Paired.length c;have lb:n.length=B.length:=Paired.length d;refine PySem.W.keq_ne sa w e.dictOf f.dictOf (by lia) (λ_=>j.keq I (by show X.A.units+1+64<EO;lia) d c) ⟨.bl _,H,I,?_,q⟩;rw[o,lb];rfl
def WZ (K:CB):R2:=λx y H Q=>∃a b c d r,x=.ref a/\y=.ref b/\Rd H a (.dK c)/\Rd H b (.dK d)/\uc K H d c r/\Q (.bl<|c.length==d.length&&r) H
theorem Pq (D:X.A.units+128<EO):CS X (EC .Eq) (WZ X.K):=by
 intro C s E H x y v u Q I p t h;obtain⟨a,b,l,n,r,rfl,rfl,g,i,j,q⟩:=h;cases p;cases t;obtain⟨z,_,c,e,sa,_⟩:=XZ I g;obtain⟨B,_,d,f,w,_⟩:=XZ I i;have o:l.length=z.length:=Paired.length c;have lb:n.length=B.length:=Paired.length d;refine PySem.W.keq_eq sa w e.dictOf f.dictOf (by lia) (λ_=>j.keq I (by show X.A.units+1+64<EO;lia) d c) ⟨.bl _,H,I,?_,q⟩;rw[o,lb];rfl
end
end L2
namespace An10
open PySem L2 An
end An10
namespace An12
open PySem L2 An An10
end An12
namespace AnJ
section
variable {α:Type}
inductive Pt (α:Type) where
 |same (ls:List α)
 |clash (b m y:List α)
end
open An10
open AxK
open PySem L2 An An12
def yh (ls:Da):PyData:=.tuple<|ls.map .str
theorem F5 (l m:Da):EB (yh l) (yh m)=decide (l=m):=by
 show EQ (l.map .str) (m.map .str)=_;exact kA l m
def mX (ls:Da):Prop:=∀l∈ls,D9 l=true
theorem OW (h:mX ls):(yh ls).canLay0=true/\(yh ls).depth<=1:=by
 obtain⟨a,b⟩:=kY ls h;refine⟨a,?_⟩;show Eo (ls.map .str)+1<=1;rw[b];lia
theorem XM {d:Ea}(h:d.canLay0=true)(n:d.depth<=60):EL d=true:=by
 unfold EL;rw[h,Zz<|by lia];rfl
theorem MQ:∀a b:List Nat,decide (a<b)=yG TO.nat a b
 |[],[]=>by decide
 |[],_::_=>by simp[yG]
 |_::_,[]=>by simp[yG]
 |a::as,b::bs=>by
  have d:=MQ as bs;unfold yG;rw[<-d,YL,ZQ,YV];show _↔(decide (a<b)||(!decide (b<a)&&decide (as<bs)))=true;rw[Ud,ZG,ZQ,ZQ,JQ,YZ];constructor
  .rintro(h|⟨h,c⟩)
   .exact .inl h
   .exact .inr ⟨by lia,c⟩
  .rintro(h|⟨h,c⟩)
   .exact .inl h
   .by_cases z:a<b
    .exact .inl z
    .exact .inr ⟨by lia,c⟩
def v7:TO Str:=TO.by_ (TO.list TO.nat) cs λa b h=>xq h
theorem qw (a b:Str):v7.lt a b=decide (a.cps.toList<b.cps.toList):=(MQ _ _).symm
theorem qp:∀a b:Da,SI (a.map .str) (b.map .str) ((TO.list v7).lt a b)
 |[],[]=>by
  show false=decide (0<0);rfl
 |[],_::_=>by
  show true=decide (0<_);simp
 |_::_,[]=>rfl
 |x::a,y::b=>by
  show((x==y)=true/\SI (a.map .str) (b.map .str) (yG v7 (x::a) (y::b)))\/((x==y)=false/\yG v7 (x::a) (y::b)=decide (x.cps.toList<y.cps.toList))
  by_cases e:x=y
  .subst e;refine .inl ⟨by simp,?_⟩;unfold yG;have:v7.lt x x=false:=v7.refl x;rw[this];exact qp a b
  .refine .inr ⟨by simpa using e,?_⟩;unfold yG;rw[<-qw];cases q:v7.lt x y with
   |true=>rfl
   |false =>
    cases c:v7.lt y x with
    |true=>rfl
    |false=>exact absurd (v7.mR _ _ q c) e
end AnJ
namespace L2
open PySem PySem.Spec PyProof.Rows PySem.W AxK An
def lays:Hp->List (D1×Dj)->Hp
 |H,[]=>H
 |H,p::r=>lays (upd H p.1<|.tup p.2) r
theorem jQ:∀{l:List (D1×Dj)} {H:Hp} {b:D1},b∉l.map (·.1)->lays H l b=H b
 |[],_,_,_=>rfl
 |p::r,H,b,h=>by
  rw[ZT,ZI,not_or]at h;show lays (upd H p.1<|.tup p.2) r b=_;rw[jQ h.2,zH h.1]
theorem BP:∀{l:List (D1×Dj)} {H:Hp} {p:D1×Dj},(l.map (·.1)).Nodup->p∈l->lays H l p.1=some (.tup p.2)
 |q::r,H,p,nd,h=>by
  rw[ZT,Yl]at nd;show lays (upd H q.1<|.tup q.2) r p.1=_
  rcases ZI.mp h with rfl|h
  .rw[jQ nd.1,zB]
  .exact BP nd.2 h
theorem p7:∀{l:List (D1×Dj)} {H:Hp} {b:D1} {o:HO},(l.map (·.1)).Nodup->lays H l b=some o->H b=some o\/∃xs,(b,xs)∈l/\o=.tup xs:=λ{l H b o} nd h=>by
 by_cases z:b∈l.map (·.1)
 .obtain⟨p,c,rfl⟩:=ZA.mp z;rw[BP nd c]at h;exact .inr ⟨p.2,c,(Option.some.inj h).symm⟩
 .rw[jQ z]at h;exact .inl h
theorem G8 {l:List (D1×Dj)}{H:Hp}(f:∀p∈l,H p.1=none):zy H (lays H l):=λb o e=>by
 rw[jQ]
 .exact e
 .intro z;obtain⟨p,c,rfl⟩:=ZA.mp z;rw[f p c]at e;cases e
section
variable {X:Cx}{Dq:De}{σ:St}{H:Hp}{s:D7}{h':Ej}{K:CB}
theorem Inv.lays {t':Nat}(I:Inv X Dq σ H s){l:List (D1×Dj)}(nd:(l.map (·.1)).Nodup)(k:∀b u,s.heap.get? b=some u->h'.get? b=some u)(g:∀p∈l,s.heap.objs.size<=p.1)(new:∀p∈l,yq X.prog X.w (lays H l) h' p.1<|.tup p.2) :
  Inv X Dq σ (lays H l) { s with heap:=h',toks:=t' }:=by
 have h:∀p∈l,H p.1=none:=λp m=>I.hok.fresh<|g p m;have d:=G8 h;have nx:∀b u,s.heap.get? b=some u->b∉l.map (·.1):=λb u q z=>by
  obtain⟨p,m,rfl⟩:=ZA.mp z;exact absurd (ZR q)<|Nat.not_lt.mpr<|g p m
 refine I.un ⟨λb u q _ _ _=>k b u q,λb u q _ _ _=>⟨u.slots,k b u q⟩,λb u q n _=>by rw[jQ<|nx b u q];exact n,λb u q _=>⟨u,k b u q⟩,λb f q=>d _ _ q,λb u f q=>d _ _ q,λb i q=>⟨#[],by rw[d _ _ q];simp⟩⟩ λb u e=>?_
 rcases p7 nd e with z|⟨f,m,rfl⟩
 .exact(I.hok b u z).stay (λc v _ q=>k c v q) (λc q=>d _ _ q) λc f q=>d _ _ q
 .exact new _ m
theorem Gc:∀{ps:Dg},(∀p∈ps,D9 p.1=true/\D9 p.2=true)->Ec (ps.map An.zm)=true
 |[],_=>rfl
 |p::ps,h=>by
  obtain⟨b,c⟩:=h p<|Zx ..;show(((D9 p.1)&&((D9 p.2)&&true))&&Ec (ps.map An.zm))=true;rw[b,c,Gc λq d=>h q<|Zw _ d];rfl
def GU:Ea->Da
 | .tuple xs=>xs.map λd=>match d with
  | .str x=>x
  |_=>""
 |_=>[]
theorem IL {ps:Dg}{i:Nat}(h:i<ps.length):(ps.map An.zm).getD i .none=An.zm (ps.getD i ("","")):=by
 rw[Y2,Y2,ZF,ZD h];rfl
theorem T7 {a b:Str×Str}(h:(TO.list AnJ.v7).le (GU<|An.zm a)<|GU<|An.zm b):cs a.1<=cs b.1:=by
 have h:yG AnJ.v7 [b.1,b.2] [a.1,a.2]=false:=h;have h:(AnJ.v7.lt b.1 a.1||(!AnJ.v7.lt a.1 b.1&&yG AnJ.v7 [b.2] [a.2]))=false:=h;rw[JR,AnJ.qw,YZ]at h;exact Vh.mp h.1
def Wl (K:CB)(i:TE):TE:=λσ H Q=>i σ H λv f=>∃(d:D1) (e:Dg),v=.ref d/\Rd f d (.dK<|e.map λp=>((.inr p.1:Key),V.str p.2))/\e.length<64/\(∀p∈e,D9 p.1=true/\D9 p.2=true) /\
 ∀(l:D1) (g:Dg) (h:Dj) (c:Hp),g.Perm e->(g.Pairwise λa b=>cs a.1<=cs b.1)->zy f c->f l=none->c l=some (.lst h)->zc K c (g.map An.zm) h->Q (.ref l) c
theorem PN {p Ds Du pos:Pos}(hc:X.calm=true)(hu:X.A.units+64<EO)(hg:Gl X x)(hm:X.mg x=none)(hv:LA x=some (.builtin "sorted"))(ho:PE X o td)
  (DO:Lh o "items" X.env (EV o X.env)=EV o X.env:=by rfl) (DH:(Ds.endLine==Du.line)=true:=by rfl) (hn:x≠"__name__":=by decide) (a3:(x==("__debug__":Str))=false:=by decide)
  (he:Ei [.Call (.Attribute o "items" Ds) [] [] Du] X.env=(false,EV (.Call (.Attribute o "items" Ds) [] [] Du) X.env)::Ei [] X.env:=by rfl) (a6:(La pos<|Ei [] X.env).any (·.1)=false:=by rfl) (hK:X.K=K:=by rfl) :
  PE X (.Call (.Name x p) [.Call (.Attribute o "items" Ds) [] [] Du] [] pos) (Wl K td):=by
 subst hK;intro Dq s σ H Q I h;refine Jd<|XT I hg hm hv ?_ hn a3;refine V4 ?_ he a6;rw[he];show D4 _ _ (spliced ((false,EV (.Call (.Attribute o "items" Ds) [] [] Du) X.env)::La pos (Ei [] X.env))) _ _ s;refine ET ?_;refine VH DO DH<|CF (ho Dq s σ H _ I h) λv B hh=>?_;obtain⟨x,J,I1,r,d,f,ex,hd,ay,hok,q⟩:=hh;subst ex;cases r;obtain⟨vs,ep,Y,da,hS,a8⟩:=XZ I1 hd;have dO:=da.dictOf;obtain⟨bg,bl,h1,h2,h3⟩:=id da;refine⟨"dict","dict.items",F.plainAttrs_dict,L5,F.type_dict_items,dO.typeIs,λb q=>by cases q;exact⟨bg,h1,h2.2.1⟩,EH rfl<|Uj ?_⟩;refine JN L5 dO.typeIs F.entry_dict_items (F.args_dict_items_1 _) (meets_dict_items (zq X.prog X.w) d hS) ⟨⟨vs,dO⟩,?_⟩;refine Lf ?_;have I2:Inv X Dq σ J { B with heap:=B.heap.push { cls:=.type "dict_items",data:=.fields #[.ref d] } }:=I1.kept (t':=B.toks) λb o e=>ZC _ e;have ac:(B.heap.push { cls:=.type "dict_items",data:=.fields #[.ref d] }).DictAt (zq X.prog X.w) d vs ep:=da.at' λo e=>ZC _ e;have al:(B.heap.push { cls:=.type "dict_items",data:=.fields #[.ref d] }).IsItemsView B.heap.objs.size d:=⟨_,ZK _ rfl,rfl,rfl⟩;have Dr:(f.map λp=>((.inr p.1:Key),V.str p.2)).length=vs.length:=Paired.length Y;rw[Zu]at Dr;have DH:64<=sizeLine:=by rw[YU];decide
 refine Calls.call_function_entry kind_sorted plain_sorted entry_sorted (args_sorted1 _) ?_;unfold Builtin.«sorted»;refine Zt (m:=checkCount "sorted" 1 1 _)<|Zy ?_;refine Zt (kdx_collect (A:=X.A.in1) (knd:=zq X.prog X.w) (I.ok.hd hc) al ac (by lia) λh' tk l ai hl R=>?_);have N:∀b o,(B.heap.push { cls:=.type "dict_items",data:=.fields #[.ref d] }).get? b=some o->h'.get? b=some o:=ai;generalize B.heap.push { cls:=.type "dict_items",data:=.fields #[.ref d] }=h0 at I2 R N;clear ac al ai;have ln:l.length=f.length:=by rw[hl,<-Dr]
 have am:l.Nodup:=Yd.mpr<|R.rise.imp λ{a b} z=>ZX z;have z1:((l.zip f).map λ(q:D1×(Str×Str))=>(q.1,[V.str q.2.1,V.str q.2.2])).map (·.1)=l:=by
  rw[ZY];exact V8 (by lia)
 have I3:Inv X Dq σ (lays J<|(l.zip f).map λ(q:D1×(Str×Str))=>(q.1,[V.str q.2.1,V.str q.2.2])) { B with heap:=h',toks:=tk }:=by
  refine Inv.lays (s:={ B with heap:=h0 }) I2 (by rwa[z1]) N (λp y=>?_)<|λp y=>?_
  .obtain⟨c,D,rfl⟩:=ZA.mp y;exact Jb<|R.above _ (Vy D).1
  .obtain⟨c,D,rfl⟩:=ZA.mp y;obtain⟨j,u⟩:=Ja.mp D;rw[JH]at u;obtain⟨key,k,x,e1,hk,e2⟩:=R.pairs j _ u.1;obtain⟨p,L,P,rx⟩:=qZ Y e1;rw[ZF,u.2]at L;have L:=(Option.some.inj L).symm;subst L;have P:(D8 c.2.1:Key)=k:=P;rw[<-P]at hk;obtain⟨t,et⟩:=YS<|show EI c.2.1 key=true from hk;exact⟨by show 2<=_;lia,[key,x],.cons ⟨t,et⟩<|.cons rx .nil,_,e2,rfl,0,rfl,rfl⟩
 have sm:zy J (lays J<|(l.zip f).map λ(q:D1×(Str×Str))=>(q.1,[V.str q.2.1,V.str q.2.2])):=G8 λp y=>by
  obtain⟨c,D,rfl⟩:=ZA.mp y;exact I2.hok.fresh<|Jb<|R.above _ (Vy D).1
 have E:zc X.K (lays J<|(l.zip f).map λ(q:D1×(Str×Str))=>(q.1,[V.str q.2.1,V.str q.2.2])) (f.map An.zm) (l.map V.ref):=by
  have at_:∀(j:Nat) (a:D1) (p:Str×Str),l[j]?=some a->f[j]?=some p->lays J ((l.zip f).map λ(q:D1×(Str×Str))=>(q.1,[V.str q.2.1,V.str q.2.2])) a=some (.tup [V.str p.1,V.str p.2]):=λj a p ha y =>
   BP (p:=(a,[V.str p.1,V.str p.2])) (by rwa[z1]) (ZA.mpr ⟨(a,p),ZN (i:=j)<|JH.mpr ⟨ha,y⟩,rfl⟩)
  generalize lays J ((l.zip f).map λ(q:D1×(Str×Str))=>(q.1,[V.str q.2.1,V.str q.2.2]))=Hs at at_;clear I3 sm z1 am R hl hok q hd Y ay Dr a8
  induction l generalizing f with
  |nil =>
   cases f with
   |nil=>rfl
   |cons p f=>cases ln
  |cons a l ih =>
   cases f with
   |nil=>cases ln
   |cons p f =>
    have h0:=at_ 0 a p rfl rfl;exact⟨.ref a,l.map V.ref,rfl,⟨a,[V.str p.1,V.str p.2],rfl,xj.of h0,_,_,rfl,rfl,_,_,rfl,rfl,rfl⟩,ih f (by simpa using ln) λj b q' hb a7=>at_ (j+1) b q' hb a7⟩
 generalize lays J ((l.zip f).map λ(q:D1×(Str×Str))=>(q.1,[V.str q.2.1,V.str q.2.2]))=Hs at I3 sm E;have rv:yx (l.map V.ref) (l.map Ee):=by
  clear R hl am ln z1 E I3
  induction l with
  |nil=>exact .nil
  |cons a l ih=>exact .cons rfl ih
 obtain⟨ab,rd⟩:=zc.zp I3 _ _ _ E rv;have rd:Lu h' (l.map Ee) (f.map An.zm) ab:=rd;have bd:Ec (f.map An.zm)=true:=Gc hok;have l1:(l.map V.ref).length=(f.map An.zm).length:=by rwa[Zu,Zu]
 have l2:(l.map Ee).length=(f.map An.zm).length:=by rwa[Zu,Zu]
 have l3:(f.map An.zm).length<64:=by rwa[Zu]
 have S:∀d∈f.map An.zm,GA "str" d/\d.canLay0=true/\d.depth<=60:=λd hd=>by
  obtain⟨p,y,rfl⟩:=ZA.mp hd;obtain⟨h1,h2⟩:=hok p y;refine⟨rfl,?_,by show max 0 (max 0 0)+1<=60;decide⟩;show(D9 p.1&&(D9 p.2&&true))=true;rw[h1,h2];rfl
 have a5:∀d∈f.map An.zm,∀e∈f.map An.zm,Wp d e ((TO.list AnJ.v7).lt (GU d)<|GU e):=λd hd e he=>by
  obtain⟨p,y,rfl⟩:=ZA.mp hd;obtain⟨p',bo,rfl⟩:=ZA.mp he;exact AnJ.qp [p.1,p.2] [p'.1,p'.2]
 generalize l.map Ee=g at rd rv l2;generalize l.map V.ref=Z at rv E l1;refine Zt (wpAny_newList ?_ (by rw[l2];lia));have M:(h'.push<|E9 "list" g.toArray 0).get? h'.objs.size=some (E9 "list" g.toArray 0):=ZK _ rfl;have kp:∀b o,h'.get? b=some o->(h'.push<|E9 "list" g.toArray 0).get? b=some o:=λb o z=>ZC _ z;show D4 _ _ _ _ _ { B with heap:=h'.push<|E9 "list" g.toArray 0,toks:=tk };generalize h'.push (E9 "list" g.toArray 0)=af at M kp;refine Zt<|YR<|YH slot_list_sort ⟨_,M,rfl⟩ entry_list_sort ?body<|args_list_sort _;refine K8 (s:={ B with heap:=af,toks:=tk }) (κ:=tuples'<|EG "str" !=EG "tuple") (lt:=λi j=>(TO.list AnJ.v7).lt (GU<|(f.map An.zm).getD i .none)<|GU<|(f.map An.zm).getD j .none) M (by lia) (λh2 s2 k1=>?_) λp y=>⟨_,rfl,Zy ⟨_,rfl,?_⟩⟩
 .have U:Lu s2.heap g (f.map An.zm) ab:=xO (λb o z=>k1 b o (ZX<|ZR z)<|kp b o z) _ _ _ bd rd;refine⟨λQ' E' z=>RZ U (λd a0=>(S d a0).1) (by lia) z,λi j G u C c=>?_⟩;obtain⟨b1,r1⟩:=Xz i U (by lia);obtain⟨b2,r2⟩:=Xz j U (by lia);have m:∀k,k<g.length->(f.map An.zm).getD k .none∈f.map An.zm:=λk hk=>by
   rw[Y2,ZD<|by lia];exact Yt _
  have d1:=S _<|m i G;have d2:=S _<|m j u;exact NQ r1 r2 d1.1 d2.1 d1.2.1 d2.2.1 (by show X.A.units+1+1+_<_;lia) (a5 _ (m i G) _<|m j u) c
 .have pp:p.Perm (E1<|Ef g.length)/\Up (TO.list AnJ.v7) (λi=>GU<|(f.map An.zm).getD i .none) p g.length:=by
   rcases y with⟨n2,rfl⟩|⟨n2,rfl⟩
   .refine⟨Array.Perm.refl _,λ(i j:Nat) (ah:i<=j) (u:j<g.length)=>?_⟩;have:i=j:=by lia
    subst this;exact(TO.list AnJ.v7).refl _
   .obtain⟨p',e,a1,a2⟩:=Sw (O:=TO.list AnJ.v7) (key:=λi=>GU<|(f.map An.zm).getD i .none) (n:=g.length) (by lia);rw[e];exact⟨a1,a2⟩
  obtain⟨pp,up⟩:=pp;have T:p.toList.Perm (Ef g.length):=by simpa using Array.perm_iff_toList_perm.mp pp
  have pm:∀i∈p.toList,i<Z.length:=λi G=>by
   have:=Y0.mp<|T.mem_iff.mp G;lia
  obtain⟨e,a4⟩:=sortedHeap_at (out:=E1<|p.toList.map λi=>g.getD i Ev) M;have nl:=Bv rv p.toList pm;have a9:∀b ob,h'.get? b=some ob->(sortedHeap af h'.objs.size g<|E1<|p.toList.map λi=>g.getD i Ev).get? b=some ob:=λb ob q1=>by
   have hb:b<h'.objs.size:=ZR q1;rw[sortedHeap_old (ZX hb)<|ZR<|kp b ob q1];exact kp b ob q1
  have ak:p.toList.length=g.length:=by rw[T.length_eq,Yo]
  have ad:Hs h'.objs.size=none:=I3.hok.fresh<|ZB _;have ap:J h'.objs.size=none:=sm.free ad;have an:=zI (o:=.lst<|p.toList.map λi=>Z.getD i .non) ad;refine⟨.ref h'.objs.size,_,I3.laid (o:=.lst<|p.toList.map λi=>Z.getD i .non) (t':=tk) a9 (ZB _) ⟨by rw[Zu,ak,YU];lia,_,e,nl,a4⟩,rfl,q _ (p.toList.map λi=>f.getD i ("","")) _ _ ?_ ?_ (sm.trans an) ap zB ?_⟩
  .have:=T.map λi=>f.getD i ("","");rw[show g.length=f.length by rw[l2,Zu],PP]at this;exact this
  .rw[Vq];intro i j G u ah;rw[Yb,Yb];have:=up i j (Jb ah) (by rw[Zu,ak]at u;exact u);unfold kn at this;rw[Zu,ZU]at G u;rw[Z6,Z6,UI p i G,UI p j u]at this;have pi:p[i]<f.length:=by
    have:=pm p[i] (by rw[<-Vj G];exact Yt _);rw[l1,Zu]at this;exact this
   have pj:p[j]<f.length:=by
    have:=pm p[j] (by rw[<-Vj u];exact Yt _);rw[l1,Zu]at this;exact this
   rw[Vj G,Vj u];have this:(TO.list AnJ.v7).le (GU<|(f.map An.zm).getD p[i] .none) (GU<|(f.map An.zm).getD p[j] .none):=by simpa using this
   rw[IL pi,IL pj]at this;exact T7 this
  .have:=zc.same an _ _<|ME E p.toList pm;rw[show(p.toList.map λi=>(f.map An.zm).getD i .none)=(p.toList.map λi=>f.getD i ("","")).map An.zm by
    rw[ZY];refine Yu λi G=>IL ?_;have:=pm i G;rw[l1,Zu]at this;exact this]at this
   exact this
end
end L2
namespace An
open PySem L2 AnJ
theorem jD (h:U2 ls):Xb (yh ls)=true:=(BN<|MP h).1 |> λz=>by
 have z:(Xb (.str "leaf")&&(Xb (yh ls)&&true))=true:=z;rw[ZG,ZG]at z;exact z.2.1
structure xr (K:CB)(H:Hp)(fs:Dk)(Dm:Dl):Prop where
 keys:Dm.map (·.1)=fs.map λf=>(.inr (CD f.1):Key)
 val:∀(i:Nat) (f:Fi) (kv:Key×V),fs[i]?=some f->Dm[i]?=some kv->Dt K H (yh f.2) kv.2/\U2 f.2
section
variable {K:CB}{H H':Hp}{fs:Dk}{Dm:Dl}
theorem xr.nil:xr K H [] []:=⟨rfl,λi f b h=>(nomatch h)⟩
theorem xr.len (h:xr K H fs Dm):Dm.length=fs.length:=by
 have:=congrArg List.length h.keys;rw[Zu,Zu]at this;exact this
theorem xr.same (h:xr K H fs Dm)(e:zy H H'):xr K H' fs Dm:=⟨h.keys,λi f c a b=>⟨Dt.same e _ _ (h.val i f c a b).1,(h.val i f c a b).2⟩⟩
theorem xr.off {X:Dd}(h:xr K H fs Dm)(n:∀b∈X,∀xs,¬Rd H b (.tup xs))(o:Off X H H'):xr K H' fs Dm:=⟨h.keys,λi f c a b=>⟨Dt.off n o _ _ (jD (h.val i f c a b).2) (h.val i f c a b).1,(h.val i f c a b).2⟩⟩
theorem xr.get (h:xr K H fs Dm){i:Nat}{k:Key}{v:V}(e:Dm[i]?=some (k,v)):∃f,fs[i]?=some f/\k=.inr (CD f.1)/\Dt K H (yh f.2) v/\U2 f.2:=by
 have hl:=(ZO.mp e).1;have c:=ZD (l:=fs) (i:=i) (by rwa[<-h.len]);have d:=congrArg (λl=>l[i]?) h.keys;simp only[ZF,e,c,YM]at d;obtain⟨a,b⟩:=h.val i _ _ c e;exact⟨_,c,Option.some.inj d,a,b⟩
theorem xr.snoc (h:xr K H fs Dm){f:Fi}{v:V}(hv:Dt K H (yh f.2) v)(hl:U2 f.2):xr K H (fs++[f]) (Dm++[(.inr<|CD f.1,v)]):=by
 refine⟨by rw[ZH,ZH,h.keys];rfl,λi g d a b=>?_⟩
 by_cases z:i<fs.length
 .rw[Z7 z]at a;rw[Z7<|by rwa[h.len]]at b;exact h.val i g d a b
 .rw[Z2<|by lia]at a;rw[Z2 (by rw[h.len];lia)]at b;have c:i-fs.length=0:=by
   rcases JD (i-fs.length) with q|q
   .exact q
   .rw[Jk.mpr (by show 1<=_;lia)]at a;cases a
  rw[c]at a;rw[h.len,c]at b;cases a;cases b;exact⟨hv,hl⟩
end
theorem kH {d:Nat}{a b:Da}(h:a≠[])(i:b≠[])(j:∀l∈a,zU l=true)(lb:∀l∈b,zU l=true)(e:CD a=CD b):a=b:=by
 have f:=qW h λy c=>xG<|j y c;have g:=qW i λy c=>xG<|lb y c;unfold CD at e;rw[<-f,<-g,e]
def Kp (Dp:Dg):Dl:=Dp.map λp=>((.inr p.1:Key),V.str p.2)
theorem Rb (Dp:Dg):(Kp Dp).map (·.1)=Dp.map λp=>(.inr p.1:Key):=by unfold Kp;rw[ZY];rfl
theorem M9 {Dp:Dg}{l n:Str}(h:l∉Dp.map (·.1)):yr (Kp Dp) (.inr l) (.str n)=Kp (Dp++[(l,n)]):=by
 rw[kM]
 .unfold Kp;rw[ZH];rfl
 .rw[Rb];intro z;obtain⟨p,b,e⟩:=ZA.mp z;cases e;exact h<|ZA.mpr ⟨p,b,rfl⟩
def CO (b:List<|Str×D1):Dl:=b.map λp=>((.inr p.1:Key),V.ref p.2)
theorem F8 (b:List<|Str×D1):(CO b).map (·.1)=b.map λp=>(.inr p.1:Key):=by unfold CO;rw[ZY];rfl
theorem Tn {c:List (Str×D1)}(nd:(c.map (·.1)).Nodup):((CO c).map (·.1)).Nodup:=by
 rw[F8];have:(c.map λp=>(.inr p.1:Key))=(c.map (·.1)).map Sum.inr:=by rw[ZY];rfl
 rw[this];exact L6 _ (λa b n e=>by cases e;exact n rfl) nd
theorem kK {b:List (Str×D1)}(nd:(b.map (·.1)).Nodup){p:Str×D1}(h:p∈b):UP (CO b) (.inr p.1)=some (.ref p.2):=uD (Tn nd)<|ZA.mpr ⟨p,h,rfl⟩
theorem OA {b:List (Str×D1)}{l:Str}(h:l∉b.map (·.1)):UP (CO b) (.inr l)=none:=by
 cases e:UP (CO b) (.inr l) with
 |none=>rfl
 |some v =>
  have:=qJ e;rw[F8]at this;obtain⟨p,c,z⟩:=ZA.mp this;cases z;exact absurd (ZA.mpr ⟨p,c,rfl⟩) h
theorem F9 {c:List (Str×D1)}{l:Str}{b:D1}(h:l∉c.map (·.1)):yr (CO c) (.inr l) (.ref b)=CO (c++[(l,b)]):=by
 rw[IF _<|OA h];unfold CO;rw[ZH];rfl
theorem Ha {b:List (Str×D1)}(nd:(b.map (·.1)).Nodup){p:Str×D1}(h:p∈b):yr (CO b) (.inr p.1) (.ref p.2)=CO b:=by
 unfold yr;rw[ZS (by rw[xP,kK nd h];rfl)];unfold CO;rw[ZY];refine Yu λq d=>?_;show(if(.inr q.1:Key)=.inr p.1 then((.inr q.1:Key),V.ref p.2) else(.inr q.1,V.ref q.2))=(.inr q.1,V.ref q.2)
 split
 .rename_i e;have e:q.1=p.1:=Sum.inr.inj e;have:V.ref q.2=V.ref p.2:=by
   have c:=kK nd d;rw[e,kK nd h]at c;exact(Option.some.inj c).symm
  rw[this]
 .rfl
structure wK (K:CB)(H1 H:Hp)(fs:Dk)(fa:List<|Str×D1):Prop where
 wH:fa.map (·.1)=CL fs
 nd:(fa.map (·.2)).Nodup
 new:∀p∈fa,H1 p.2=none
 at_:∀p∈fa,∃Dm,H p.2=some (.dK Dm)/\xr K H (sub fs p.1) Dm
section
variable {K:CB}{H1 H H':Hp}{fs:Dk}{fa:List (Str×D1)}
theorem wK.nil:wK K H1 H [] []:=⟨rfl,YN,λp h=>(nomatch h),λp h=>(nomatch h)⟩
theorem wK.off {X:Dd}(h:wK K H1 H fs fa)(ex:∀c∈X,∃o,H1 c=some o)(n:∀b∈X,∀xs,¬Rd H b (.tup xs))(o:Off X H H'):wK K H1 H' fs fa:=⟨h.wH,h.nd,h.new,λp d=>by
 obtain⟨f,a,b⟩:=h.at_ p d;refine⟨f,o _ _ (λz=>?_) a,b.off n o⟩;obtain⟨q,e⟩:=ex _ z;rw[h.new p d]at e;cases e⟩
theorem wK.same (h:wK K H1 H fs fa)(e:zy H H'):wK K H1 H' fs fa:=⟨h.wH,h.nd,h.new,λp d=>by
 obtain⟨c,a,b⟩:=h.at_ p d;exact⟨c,e _ _ a,b.same e⟩⟩
theorem wK.one (h:wK K H1 H fs fa){f:Fi}{a:Str}(e:f.1=[a]):wK K H1 H (fs++[f]) fa:=⟨by rw[jF,e];exact h.wH,h.nd,h.new,λp c=>by
 rw[sub_snoc,Kc e];show∃b,_/\xr K H (sub fs p.1++[]) b;rw[ZW];exact h.at_ p c⟩
theorem wK.uM (h:wK K H1 H fs fa):(fa.map (·.1)).Nodup:=by rw[h.wH];exact(y8 fs).1
theorem yB {c:D1}:Off [c] H (upd H c o):=(Off.refl _ _).upd<|Zv.mpr rfl
theorem z6 {c:D1}{Dm:Dl}(h:H c=some (.dK Dm)):∀b∈[c],∀xs,¬Rd H b (.tup xs):=λb d xs=>by
 rw[Zv.mp d];exact HQ h (λ_ z=>(nomatch z)) (λ_ _ z=>(nomatch z)) xs
theorem wK.old (h:wK K H1 H fs fa){p:Str×D1}(d:p∈fa){Dm:Dl}(B:H p.2=some (.dK Dm))(w:xr K H (sub fs p.1) Dm){f:Fi}{b:Str}{r:Da}(e:f.1=p.1::b::r){v:V}(hv:Dt K H (yh f.2) v)(hl:U2 f.2) :
  wK K H1 (upd H p.2<|.dK<|Dm++[(.inr<|CD (b::r),v)]) (fs++[f]) fa:=by
 have nt:=z6 B;have o:Off [p.2] H (upd H p.2<|.dK<|Dm++[((.inr (CD (b::r)):Key),v)]):=yB;have inl:p.1∈CL fs:=by rw[<-h.wH];exact ZA.mpr ⟨p,d,rfl⟩
 refine⟨?_,h.nd,h.new,λq g=>?_⟩
 .rw[jF,e];show _=xU (CL fs) p.1;unfold xU;rw[ZS inl];exact h.wH
 .rw[sub_snoc,k9 e]
  by_cases z:p.1=q.1
  .rw[ZS z];have eq:p.2=q.2:=by
    have n:=kK h.uM g;rw[<-z,kK h.uM d]at n;injection (Option.some.inj n)
   refine⟨_,by rw[<-eq];exact zB,?_⟩;rw[<-z];exact(w.off nt o).snoc (f:=(b::r,f.2)) (Dt.off nt o _ _ (jD hl) hv) hl
  .rw[ZM z];obtain⟨s,t,u⟩:=h.at_ q g;have ne:q.2≠p.2:=λy=>by
    obtain⟨i,x,l⟩:=Z8.mp d;obtain⟨j,A,c⟩:=Z8.mp g;have:=(YQ (h₀:=by simpa using x) (h₁:=by simpa using A) h.nd).mp (by rw[Yb,Yb,l,c];exact y.symm);subst this;rw[l]at c;exact z (by rw[c])
   refine⟨s,by rw[zH ne];exact t,?_⟩;show xr K _ (sub fs q.1++[]) s;rw[ZW];exact u.off nt o
theorem wK.nR (h:wK K H1 H fs fa){l b:Str}{r:Da}(g:l∉CL fs){c:D1}(t:H c=some (.dK []))(n1:H1 c=none)(j:∀p∈fa,p.2≠c){f:Fi}(e:f.1=l::b::r){v:V}(hv:Dt K H (yh f.2) v)(hl:U2 f.2) :
  wK K H1 (upd H c<|.dK [(.inr<|CD (b::r),v)]) (fs++[f]) (fa++[(l,c)]):=by
 have nt:=z6 t;have o:Off [c] H (upd H c<|.dK [((.inr (CD (b::r)):Key),v)]):=yB;have s0:sub fs l=[]:=J2.mpr λk w=>by
  obtain⟨s,u⟩:=wF.mp w;refine g<|((y8 fs).2 l).mpr ⟨_,u,?_⟩;cases q:k.1 with
  |nil=>exact absurd q s
  |cons b r=>exact⟨b,r,rfl⟩
 refine⟨?_,?_,λp d=>?_,λp d=>?_⟩
 .rw[jF,e,ZH,h.wH];show _=xU (CL fs) l;unfold xU;rw[ZM g];rfl
 .rw[ZH];refine qD h.nd λz=>?_;obtain⟨p,d,n⟩:=ZA.mp z;exact j p d n
 .rcases ZZ.mp d with z|z
  .exact h.new p z
  .rwa[Zv.mp z]
 .rw[sub_snoc,k9 e]
  rcases ZZ.mp d with z|z
  .have ne:l≠p.1:=λy=>g (by rw[y,<-h.wH];exact ZA.mpr ⟨p,z,rfl⟩);rw[ZM ne];obtain⟨i,a,b⟩:=h.at_ p z;refine⟨i,by rw[zH<|j p z];exact a,?_⟩;show xr K _ (sub fs p.1++[]) i;rw[ZW];exact b.off nt o
  .rw[Zv.mp z,ZS rfl,s0];exact⟨_,zB,xr.snoc (fs:=[]) xr.nil (f:=(b::r,f.2)) (Dt.off nt o _ _ (jD hl) hv) hl⟩
end
theorem SH (fs:Dk)(i:Nat):wt (fs.take i)<=wt fs:=by
 have:=Mv (fs.take i)<|fs.drop i;rw[YW]at this;lia
theorem O9 {fs:Dk}{i:Nat}{v:Str×Da}(h:v∈CJ (fs.take i)):v∈CJ fs:=by
 obtain⟨a,ls⟩:=v;exact wG.mpr<|Y3<|wG.mp h
theorem WU (ok:wZ S)(g:yu n fs)(hs:S.length+1+wt fs<=2000)(i:Nat) :
  wZ ((CJ<|fs.take i).foldl CC (S,[])).1/\((CJ<|fs.take i).foldl CC (S,[])).1.length<2000/\((CJ<|fs.take i).foldl CC (S,[])).2.map (·.1)=(CJ<|fs.take i).map (·.1):=by
 have e:=many<|fs.take i;have f:=SH fs i;obtain⟨b,c⟩:=Io (d:=0) (CJ<|fs.take i) (Fo.nil ok) (λv hv=>(g.wH _<|wG.mp<|O9 hv).2.2.2) (by lia);refine⟨b.ok,by lia,?_⟩;rw[b.wH,UL,ZY];rfl
theorem SL {d:Nat}(ok:wZ S)(g:yu (d+1) fs)(hl:fs.length<=63)(hs:S.length+1+wt fs<=2000)(ls c:Da)(e:ls++c=CL fs) :
  Fo (d+1) S (ls.foldl (CH d fs)<|(CJ fs).foldl CC (S,[])).1 (ls.foldl (CH d fs)<|(CJ fs).foldl CC (S,[])).2 ((CJ fs).map (λv=>(v.1,[(([],v.2):Fi)]))++ls.map λl=>(l,sub fs l)) /\
  (ls.foldl (CH d fs)<|(CJ fs).foldl CC (S,[])).1.length+(c.map λl=>1+wt (sub fs l)).sum<=S.length+wt fs:=by
 have t:=many fs;rw[<-e,ZH,UK]at t;obtain⟨n,w⟩:=Io (d:=d) (CJ fs) (Fo.nil ok) (λv hv=>(g.wH _<|wG.mp hv).2.2.2) (by lia);rw[UL]at n;have H:∀l∈ls,∀S,wZ S->S.length+1+wt (sub fs l)<=2000->uP (d+1) S (sub fs l) (US d S<|sub fs l)/\(US d S<|sub fs l).1.length<=S.length+1+wt (sub fs l):=λl h u j i=>by
  cases d with
  |zero =>
   obtain⟨f,s,b,r,q⟩:=((y8 fs).2 l).mp (by rw[<-e];exact Yw _ h);have:=(g.wH f s).2.1;rw[q,ZL,ZL]at this;lia
  |succ d=>exact Iw d j (g.sub l) (Yn sub_len hl) i
 obtain⟨p,o⟩:=KC ls H (S:=((CJ fs).foldl CC (S,[])).1) (Dp:=((CJ fs).foldl CC (S,[])).2) n (by lia);refine⟨p,?_⟩;have o:(ls.foldl (CH d fs)<|(CJ fs).foldl CC (S,[])).1.length<=_:=o;lia
theorem aO {d:Nat}(ok:wZ S)(g:yu (d+1) fs)(hl:fs.length<=63)(hs:S.length+1+wt fs<=2000){j:Nat}{l:Str}(e:(CL fs)[j]?=some l) :
  wZ (((CL fs).take j).foldl (CH d fs)<|(CJ fs).foldl CC (S,[])).1/\(((CL fs).take j).foldl (CH d fs)<|(CJ fs).foldl CC (S,[])).1.length+1+wt (sub fs l)<=2000 /\
  (((CL fs).take j).foldl (CH d fs)<|(CJ fs).foldl CC (S,[])).2.map (·.1)=(CJ fs).map (·.1)++(CL fs).take j:=by
 obtain⟨b,c⟩:=SL ok g hl hs ((CL fs).take j) ((CL fs).drop j)<|YW _ _;have hd:(CL fs).drop j=l::(CL fs).drop (j+1):=by
  have:=(ZO.mp e);rw[<-this.2];exact JI this.1
 rw[hd,ZT,JS]at c;refine⟨b.ok,by lia,?_⟩;rw[b.wH,ZH,ZY,ZY]
 congr 1
 exact VI _
theorem WL {d:Nat}(ok:wZ S)(g:yu (d+1) fs)(hl:fs.length<=63)(hs:S.length+1+wt fs<=2000){q:List En×Dg}(e:q=(CL fs).foldl (CH d fs) ((CJ fs).foldl CC (S,[]))) :
  wZ q.1/\q.1.length<2000/\(q.2.map (·.1)).Nodup/\(∀r∈q.2,zU r.1=true/\∃e,Tree e q.1 r.2)/\q.2.length<=63:=by
 subst e;obtain⟨b,f⟩:=SL ok g hl hs (CL fs) []<|ZW _;have b:Fo (d+1) S _ _ (pieces fs):=b;have f:_+0<=S.length+wt fs:=f;have o:=qC fs;refine⟨b.ok,by lia,by rw[b.wH];exact Xt g,λr j=>?_,?_⟩
 .obtain⟨i,c⟩:=Ja.mp j;have n:=(ZO.mp c).1;have h:=ZD (l:=pieces fs) (i:=i) (by rwa[<-b.len]);have e:=congrArg (λl=>l[i]?) b.wH;simp only[ZF,c,h,YM]at e;exact⟨by rw[Option.some.inj e];exact(BD g _<|Yt _).1,d+1,(b.rd i r _ c h).1⟩
 .rw[b.len];unfold pieces;rw[ZE,Zu,Zu];lia
theorem GJ (l:Str):CD [l]=l:=xq<|kF l
theorem Sl (l b:Str)(r:Da):CD (l::b::r)=l++⟨#[47]⟩++CD (b::r):=xq (by
 rw[xR l<|Yy _ _,zu,zu];show _=cs l++[47]++_;simp)
theorem rN (l b:Str)(r:Da):l≠CD (l::b::r):=λz=>by
 have:=congrArg (λx=>(cs x).length) z;simp only[xR l<|Yy b r,ZE,ZL]at this;lia
theorem Fx:∀{p:Da},(∀l∈p,zU l=true)->(cs<|CD p).length<=9*p.length
 |[],_=>by
  show(cs<|Lc "/" []).length<=0;rw[xT];exact ZB _
 |[l],h=>by
  have:=h l<|Zv.mpr rfl;rw[kF];unfold zU at this;rw[ZG,ZG,Yh,Yh,zf]at this;show _<=9;lia
 |l::b::r,h=>by
  have c:=h l<|Zx ..;have e:=Fx (p:=b::r) λx d=>h x<|Zw _ d;rw[xR l<|Yy _ _,ZE,ZL];unfold zU at c;rw[ZG,ZG,Yh,Yh,zf]at c;rw[ZL]at e ⊢;rw[ZL];lia
theorem Sy (g:yu n fs){i:Nat}{f:Fi}{l b:Str}{r:Da}(p:fs[i]?=some f)(e:f.1=l::b::r):(.inr (CD (b::r)):Key)∉(sub (fs.take i) l).map λk=>(.inr (CD k.1):Key):=λz=>by
 obtain⟨k,h,q⟩:=ZA.mp z;have q:CD k.1=CD (b::r):=Sum.inr.inj q;obtain⟨w,h⟩:=wF.mp h;have A:=(g.wH _<|Y3 h).2.2.1;have y:=(g.wH _<|ZN p).2.2.1;have q:=kH (d:=0) w (Yy _ _) (λx o=>A x<|Zw _ o) (λx o=>y x (by rw[e];exact Zw _ o)) q;obtain⟨j,c⟩:=Ja.mp h;rw[List.getElem?_take]at c
 split at c
 .rename_i D;have u:(fs.map (·.1))[j]?=some f.1:=by rw[ZF,c];show some (l::k.1)=_;rw[q,e]
  have v:(fs.map (·.1))[i]?=some f.1:=by rw[ZF,p];rfl
  obtain⟨B,s⟩:=ZO.mp u;obtain⟨C,t⟩:=ZO.mp v;have:=(YQ g.nd).mp<|s.trans t.symm;lia
 .cases c
structure uQ (K:CB)(H:Hp)(ah:Str)(fs:Dk)(Dm:Dl):Prop where
 keys:Dm.map (·.1)=fs.map λf=>(.inr (ah++CD f.1):Key)
 val:∀(i:Nat) (f:Fi) (kv:Key×V),fs[i]?=some f->Dm[i]?=some kv->Dt K H (yh f.2) kv.2/\U2 f.2
section
variable {K:CB}{H H':Hp}{ah l:Str}{fs gs:Dk}{Dm more:Dl}
theorem uQ.nil:uQ K H ah [] []:=⟨rfl,λi f b h=>(nomatch h)⟩
theorem uQ.len (h:uQ K H ah fs Dm):Dm.length=fs.length:=by
 have:=congrArg List.length h.keys;rw[Zu,Zu]at this;exact this
theorem uQ.same (h:uQ K H ah fs Dm)(e:zy H H'):uQ K H' ah fs Dm:=⟨h.keys,λi f c a b=>⟨Dt.same e _ _ (h.val i f c a b).1,(h.val i f c a b).2⟩⟩
theorem uQ.off {X:Dd}(h:uQ K H ah fs Dm)(n:∀b∈X,∀xs,¬Rd H b (.tup xs))(o:Off X H H'):uQ K H' ah fs Dm:=⟨h.keys,λi f c a b=>⟨Dt.off n o _ _ (jD (h.val i f c a b).2) (h.val i f c a b).1,(h.val i f c a b).2⟩⟩
theorem uQ.app (h:uQ K H ah fs Dm)(k:uQ K H ah gs more):uQ K H ah (fs++gs) (Dm++more):=by
 refine⟨by rw[ZH,ZH,h.keys,k.keys],λi g c a b=>?_⟩
 by_cases z:i<fs.length
 .rw[Z7 z]at a;rw[Z7<|by rwa[h.len]]at b;exact h.val i g c a b
 .rw[Z2<|by lia]at a;rw[Z2 (by rw[h.len];lia),h.len]at b;exact k.val _ g c a b
theorem RF (ah l:Str){p:Da}(h:p≠[]):ah++l++"/"++CD p=ah++CD (l::p):=xq (by
 have:cs ("/":Str)=[47]:=by decide+kernel
 rw[zu,zu,zu,zu,xR l h,this];simp)
theorem Oi (ah l:Str):ah++l=ah++CD [l]:=by rw[GJ]
theorem uQ.deep (h:uQ K H (ah++l++"/") fs Dm)(ne:∀f∈fs,f.1≠[]):uQ K H ah (fs.map λf=>(l::f.1,f.2)) Dm:=by
 refine⟨?_,λi f e a b=>?_⟩
 .rw[h.keys,ZY];exact Yu λf c=>by
   show(D8 (ah++l++"/"++CD f.1):Key)=.inr (ah++CD (l::f.1));rw[RF ah l<|ne f c]
 .rw[ZF]at a;obtain⟨g,d,rfl⟩:=Z0.mp a;exact h.val i g e d b
theorem uQ.one (hv:Dt K H (yh ls) v)(hl:U2 ls):uQ K H ah [([l],ls)] [(.inr<|ah++l,v)]:=by
 refine⟨by rw[Oi];rfl,λi f c a b=>?_⟩;cases i with
 |zero=>cases a;cases b;exact⟨hv,hl⟩
 |succ i=>cases a
theorem uQ.at (h:uQ K H "" fs Dm):xr K H fs Dm:=⟨by
 rw[h.keys];exact Yu λf _=>by
  congr 1
  exact xq (by rw[zu];rfl),h.val⟩
end
theorem Gd:∀{more Dm:Dl},(∀k∈more.map (·.1),k∉Dm.map (·.1))->(more.map (·.1)).Nodup->putAll Dm more=Dm++more
 |[],Dm,_,_=>(ZW _).symm
 |p::more,Dm,h,nd=>by
  rw[ZT,Yl]at nd;show putAll (yr Dm p.1 p.2) more=_;rw[kM<|h p.1<|Zx ..,Gd (λk b z=>?_) nd.2,Ys]
  .rfl
  .rw[ZH]at z
   rcases ZZ.mp z with z|z
   .exact h k (Zw _ b) z
   .have z:k=p.1:=Zv.mp z;exact nd.1<|z▸b
theorem RY {ah:Str}{fs:Dk}(h:fs.Pairwise<|λf g=>CV (CD f.1)<|CD g.1):(fs.map λf=>(.inr (ah++CD f.1):Key)).Nodup:=by
 rw[Yd,Y9];refine h.imp λ{a b} z e=>?_;have e:ah++CD a.1=ah++CD b.1:=Sum.inr.inj e;have:=congrArg cs e;rw[zu,zu]at this;exact MR z<|xq<|List.append_cancel_left this
noncomputable def CQ (d:Nat)(S:Di)(r:Str×Str):Dk:=(zp d S r.2).map λf=>(r.1::f.1,f.2)
end An
namespace AxS
open PySem PySem.Spec PyProof.Rows
section
variable {prog:D3}{w:D6}{A:Em}{E:D2->Dh}{s:D7}
theorem sub_dict_set:L9 (.type "dict") (.type "set")=E7 false:=by rw[Jt];kernel_rfl
theorem sub_dict_frozenset:L9 (.type "dict") (.type "frozenset")=E7 false:=by rw[Jt];kernel_rfl
theorem TJ {d:D1}{Q:Bool->Dh}(b:s.TypeIs (.ref d) "dict")(h:Q false s):D4 (Eb prog w) A (EK<|.ref d) Q E s:=by
 unfold EK;show D4 _ _ (isInstance (.ref d) (.type "set")>>=_) _ _ _;refine Zt<|Je b sub_dict_set ?_;show D4 _ _ (isInstance (.ref d)<|.type "frozenset") _ _ _;exact Je b sub_dict_frozenset h
theorem NG {P d:D1}{vs:List (L2.Key×D2)}{ks:Da}{nm:String}{Q:Unit->Dh}(hP:s.heap.get? P=some (zV w))(H:s.heap.DictOf (L2.zq prog w) d vs)(hS:(d==EA)=false)(ne:P≠d)(hn:vs.length*2<256)(I:vs.map (·.1)=ks.map D8)
  (h:∀h',Ez P s.heap h'->yp prog w h' P ks->Q () { s with heap:=h' }):D4 (Eb prog w) A (ES nm P<|.ref d) Q E s:=by
 obtain⟨o,c,ep,ho,hx,hd,hk,hp,ak⟩:=id H;have Dr:vs.length=c.size:=by rw[<-hp.length];exact ZU.symm
 have ah:ks.length=vs.length:=by have:=congrArg List.length I;rw[Zu,Zu]at this;exact this.symm
 have nd:ks.Nodup:=by
  have z:(ks.map<|D8 (α:=Int)).Nodup:=by rwa[<-I]
  exact(List.Pairwise.of_map _ (λa b (q:D8 a≠D8 b) e=>q<|by rw[e]) z)
 unfold ES;refine Zt<|TJ H.typeIs ?_;simp only[YA,↓reduceIte];refine Zt<|Vm H.typeIs ?_;rw[ZS<|by decide];refine Zt<|Vg ?_;refine Zt<|Zy ?_;rw[ZM (show¬(d==EA)=true by rw[hS];exact Yc)];refine Zt<|wpAny_dictEpoch ho hd ?_;refine Zt<|Uw ho hd ?_;refine Zt (IO hP (by lia) λM o' K t' B U X N O T al af F ai=>?_);have ac:yp prog w M P (ks.take 0):=⟨o',#[],K,t',U,X,N,λe he=>by simp at he,by rw[List.take_zero];exact List.Perm.refl _,by decide,O,T,λz=>absurd rfl z⟩;have t:∀{f:Ej},Ez P s.heap f->f.get? d=some o:=λ{f} sb=>by rwa[sb.2 d ne.symm]
 refine Zt<|Uw (s:={ s with heap:=M }) (t B) hd ?_;refine Zt ?_;rw[Std.Legacy.Range.forIn_eq_forIn_range'];simp only[Std.Legacy.Range.size,Nat.sub_zero,Nat.add_sub_cancel,Nat.div_one];refine Vn _ (λp _ Z=>∃(f:Ej) (i:Nat),Z={ s with heap:=f }/\p=List.range' i (c.size-i)/\i<=c.size/\Ez P s.heap f/\yp prog w f P (ks.take i)) _ ?_ ?_ _ _ ⟨M,0,rfl,by simp,Yf _,B,ac⟩
 .rintro x p _ Z ⟨f,i,rfl,u,hi,n,D⟩;have g:i<c.size:=by
   rcases VU i c.size with z|z
   .exact z
   .rw[Nat.sub_eq_zero_of_le z]at u;cases u
  have L:c.size-i=(c.size-(i+1))+1:=by lia
  rw[L,List.range'_succ]at u;injection u with r1 r2;subst r1;refine Zt<|Uw (s:={ s with heap:=f }) (t n) hd ?_;rw[Yg g];have hv:x<vs.length:=by lia
  have y:x<ks.length:=by lia
  obtain⟨G,_⟩:=hp.get? (i:=x) (e:=c[x]) (k:=vs[x].1) (v:=vs[x].2) (by rw[Yj];exact Yg g)<|ZD hv;obtain⟨k',S,C⟩:=hk c[x] (Array.getElem_mem g);have J:k'=vs[x].1:=(L2.zq prog w).inj _ _ _ S G;have ex:vs[x].1=.inr ks[x]:=by
   have:=congrArg (λl=>l[x]?) I;rw[ZF,ZF,ZD hv,ZD y]at this;exact Option.some.inj this
  rw[J,ex]at C;rw[ex]at G;obtain⟨tk,et⟩:=YS<|show EI ks[x] c[x].key=true from G;have C:c[x].hash=hashStr w ks[x]:=C;dsimp only;rw[et,C];have tl:(ks.take x).length=x:=by rw[Z3];lia
  have am:LC=4096:=rfl;refine Zt (YR<|Ms (s:={ s with heap:=f }) D (by lia) λh3 r ab ad=>?_);have e3:=n.trans ab;refine Zt<|wpAny_dictEpoch (s:={ s with heap:=h3 }) (t e3) hd ?_;refine YD (λz=>absurd z<|by simp) (λ_=>?_);refine Zy ⟨h3,x+1,rfl,r2,g,e3,?_⟩;have Y:ks[x]∉ks.take x:=λz=>by
   obtain⟨j,hj,ej⟩:=Z8.mp z;rw[Ux]at ej;have:=(YQ nd).mp ej;rw[tl]at hj;lia
  rw[ZM Y]at ad;rwa[Ym,ZD y]
 .rintro _ Z ⟨f,i,rfl,u,hi,n,D⟩;have R:i=c.size:=by
   rcases VU i c.size with z|z
   .rw[show c.size-i=(c.size-(i+1))+1 by lia,List.range'_succ]at u;cases u
   .lia
  rw[R,JA<|by lia]at D;exact Zy<|h f n D
set_option maxHeartbeats 6400000 in
theorem GY {d:D1}{vs:List (L2.Key×D2)}{ks:Da}{Q:D2->Dh}(C:s.heap.DictOf (L2.zq prog w) d vs)(u:(d==EA)=false)(M:vs.length*2<256)(H:vs.map (·.1)=ks.map D8)
  (h:∀(h':Ej) (tk:Nat),yp prog w h' s.heap.objs.size ks->(∀b o,s.heap.get? b=some o->h'.get? b=some o)->Q (.ref s.heap.objs.size) { s with heap:=h',toks:=tk }):D4 (Eb prog w) A (call (.type "set") [.ref d]) Q E s:=by
 obtain⟨c,Y,D⟩:=F.called_set.mro;have x:=F.called_set.made;have G:=F.called_set.sub;have P:=F.called_set.notType;have S:=F.called_set.canCreate;have K:=F.typeCall_set_1<|.ref d;refine wpAny_call<|UM ?_;show D4 _ _ (callAny (.type "set") _) _ _ _;refine Zy ⟨Code.quiet_builtin _<|by decide+kernel,Jj F.entry_type_call ?_⟩;rw[Around.under_plain (weight_type_call_type "set" [.ref d] []) rfl]
 repeat (any_goals (first|assumption|wp_step))
 refine JM (Nc (.ref d) (E:=E) (Q₁:=λobj i=>obj=.ref s.heap.objs.size/\i={ s with heap:=s.heap.push (zV w) }) ⟨rfl,rfl⟩) λr i y=>?_;cases r with
 |error e=>exact y
 |ok fl =>
  cases fl with
  |ret obj =>
   obtain⟨rfl,rfl⟩:=y;have q:(s.heap.push<|zV w).get? s.heap.objs.size=some (zV w):=ZK _ rfl;have I:LH { s with heap:=s.heap.push (zV w) } (.ref s.heap.objs.size) "set":=⟨_,q,rfl⟩;have L:=F.called_set.init.lookup;have J:=F.called_set.init.bind<|.ref s.heap.objs.size
   repeat (any_goals (first|assumption|wp_step))
   refine JM (codeAny_call_builtin (R:=wants (λr f=>r=.none/\∃h' tk,f={ s with heap:=h',toks:=tk }/\yp prog w h' s.heap.objs.size ks /\ (∀b o,s.heap.get? b=some o->h'.get? b=some o)) E) F.called_set.init.plain F.entry_set_init (check_set_init_1 I ?_)) λj f g=>?_
   .have n:d<s.heap.objs.size:=by obtain⟨_,_,_,e,_⟩:=C;exact ZR e
    have l:(s.heap.push<|zV w).DictOf (L2.zq prog w) d vs:=C.push _;have p:=NG (A:=A.in1.in1) (E:=λe N=>(wants (λr f=>r=.none/\∃h' tk,f={ s with heap:=h',toks:=tk }/\yp prog w h' s.heap.objs.size ks/\(∀b o,s.heap.get? b=some o->h'.get? b=some o)) E) (.error e) N) (s:={ s with heap:=s.heap.push (zV w) }) (nm:="set.__init__") (Q:=λ_ f=>∃h',f={ s with heap:=h' }/\yp prog w h' s.heap.objs.size ks/\(∀b o,s.heap.get? b=some o->h'.get? b=some o)) q l u (J6 n) M H (λh' O B=>⟨h',rfl,B,λb o e=>(O.2 b<|ZX<|ZR e).trans<|ZC _ e⟩);unfold zV at q;unfold Builtin.«set.__init__» noKeywords;generalize T:ES=U at p ⊢;unfold zV at p ⊢
    wp_walk
    exact Y1 p (λ_ X ⟨h',e,B,kp⟩=>by subst e;exact Zy ⟨rfl,h',s.toks,rfl,B,kp⟩) λ_ _ z=>z
   .cases j with
    |error e=>exact g
    |ok fl₂ =>
     cases fl₂ with
     |ret r =>
      obtain⟨rfl,h',tk,rfl,t,v⟩:=g
      repeat (any_goals (first|assumption|wp_step))
      exact h _ _ t v
     |_=>exact g.elim
  |_=>exact y.elim
end
end AxS
namespace L2
open PySem PySem.Spec PyProof.Rows AxS
section
variable {X:Cx}
def W5 (P:D3)(w:D6):Dj->Hp->VK->Prop:=λc H Q=>∃a b,c=[.ref a]/\Rd H a (.dK b)/\Rz b/\b.length*2<256/\∀p,H p=none->Q (.ref p) (upd H p<|U1 P w p<|b.map Xa)
theorem Xy:xg X (.type "set") (W5 X.prog X.w):=by
 intro A s F H E D Q I r h;obtain⟨a,c,rfl,g,d,n,q⟩:=h;obtain⟨u,rfl,x⟩:=wU r;cases x;obtain⟨vs,B,b,f,l,t⟩:=XZ I g;have i:c.length=vs.length:=Paired.length b;have j:vs.map (·.1)=(c.map Xa).map Sum.inr:=by
  clear q g t n f i;unfold KV at b
  induction b with
  |nil=>rfl
  | @cons p q ps qs r _ ih =>
   rw[ZT,ZT,ZT,ih λv hkv=>d v<|Zw _ hkv,<-d p (Zx ..)];have e:p.1=q.1:=r.1;rw[e]
 exact GY f.dictOf l (by lia) j λC y z kp=>⟨.ref s.heap.objs.size,_,I.laid (o:=U1 X.prog X.w s.heap.objs.size<|c.map Xa) (t':=y) kp (ZB _)<|B0 z,rfl,q _<|I.hok.fresh<|ZB _⟩
end
end L2
namespace AxS
open PySem PySem.Spec PyProof.Rows
section
variable {prog:D3}{w:D6}{A:Em}{E:D2->Dh}{s:D7}
theorem qF:plainId "dict.update.loop"=true:=by decide+kernel
theorem X8:entryFor table "dict.update.loop"=some Builtin.«dict.update.loop»:=entryFor_of_fast (by kernel_rfl)
theorem Fq:typeLookup (.type "list") "keys"=E7 none:=by rw[UN,VZ];kernel_rfl
theorem R7 {a:D1}{xs:Array D2}{n:Nat}{l:Array Dc}{Q:Dc->Dh}(j:s.heap.get? a=some { cls:=.type "list",dict:=none,data:=.seq xs n,slots:=l })(p:A.handled=none)
  (h:∀h' tk,(∀b o,s.heap.get? b=some o->h'.get? b=some o)->Q none { s with heap:=h',toks:=tk }):D4 (Eb prog w) A (getAttr? (.ref a) "keys") Q E s:=by
 obtain⟨q,g,d,tk,os⟩:=s;have i:∀c,(⟨q,g,d,c,os⟩:D7).TypeIs (.ref a) "list":=λ_=>⟨_,j,rfl⟩;have r:=sub_AttributeError;have t:=F.slot_list_getattribute.lookup;have u:=F.slot_list_getattribute.bind<|.ref a;have f5:=am_list_getattr_none;unfold getAttr? getAttrBy? getAttrBy
 repeat (any_goals (first|assumption|exact i _|((with_reducible show D4 _ _ (call (Value.builtin "list.__getattribute__") _ _) _ _ _);refine Vf F.slot_list_getattribute (i _) am_entry_list_getattribute (F.args_list_getattribute_2 _ _) (meets_getattribute_miss_list a xs n l "keys" _ Fq<|by decide+kernel) ⟨j,p,λh' c e f=>?_⟩)|wp_step))
 obtain⟨v,x,he⟩:=f.there;show D4 _ _ (getattributeRaised _ _ _ _ _ _ _) _ _ _;unfold getattributeRaised
 repeat (any_goals (first|assumption|wp_step))
 exact h h' c f.of.keeps
def vg (prog:D3)(w:D6)(h:Ej)(Do:Array D2)(Dm:List<|L2.Key×D2):Prop:=Dm.length=Do.size/\∀(i:Nat) (v:D2),Do[i]?=some v->∃(T:D1) (k:L2.Key) (key x:D2),v=.ref T/\h.IsTuple T #[key,x]/\(L2.zq prog w).is k key=true/\Dm[i]?=some (k,x)
theorem vg.at {h':Ej}(p:vg prog w h Do Dm)(e:∀T o,(∃xs,h.IsTuple T xs)->h.get? T=some o->h'.get? T=some o):vg prog w h' Do Dm:=by
 refine⟨p.1,λi v hv=>?_⟩;obtain⟨T,k,key,x,c,b,d,g⟩:=p.2 i v hv;obtain⟨o,f,r⟩:=id b;exact⟨T,k,key,x,c,⟨o,e T o ⟨_,b⟩ f,r⟩,d,g⟩
theorem K1 {d I l:D1}{Do:Array D2}{Dm:List (L2.Key×D2)}{R:Result->Dh}{res:D2}(hh:A.in1.handled=none)(L:l≠I)(G:d≠I)(X:d≠l)(hz:Dm.length<=sizeLine) :
  ∀(m i:Nat) (s:D7),Do.size-i=m->i<=Do.size->(s.heap.IsListIter I l i/\s.heap.IsList l Do)->s.heap.DictOf (L2.zq prog w) d (merged []<|Dm.take i)->vg prog w s.heap Do Dm ->
   (∀h' tk,h'.DictOf (L2.zq prog w) d (merged [] Dm)->(∀b o,b≠d->b≠I->s.heap.get? b=some o->h'.get? b=some o)->R (.ok<|.ret res) { s with heap:=h',toks:=tk }) ->
   LK (Eb prog w) A (.builtin "dict.update.loop" ⟨[.ref d,.ref I,EX i,res],[]⟩) R s:=by
 have W:=Walks.list (prog:=prog) (w:=w) hh I l L Do;intro m
 induction m with
 |zero =>
  intro i s hm hi st r F k;have Y:i=Do.size:=by lia
  subst Y;refine Jj X8 ?_;rw[EW qF _];show D4 _ A.in1 (LQ (.ref I)>>=_) _ _ s;refine Zt<|W.done s _ _ st λh' tk kp=>?_;rw[JA (by rw[F.1];exact ZB _)]at r;refine Zt (Zy<|Zy<|k h' tk (r.at λo e=>kp d o (by simp[G]) e) λb o t q e=>kp b o (by simp[q]) e)
 |succ m ih =>
  intro i s hm hi st r F k;have C:i<Do.size:=by lia
  refine Jj X8 ?_;rw[EW qF _];show D4 _ A.in1 (LQ (.ref I)>>=_) _ _ s;refine Zt<|W.item i s _ _ C st λv h' tk hv E kp=>?_;obtain⟨T,k1,key,x,rfl,K,S,hx⟩:=F.2 i v hv;have TI:T≠I:=λz=>by
   obtain⟨o,n,j,_⟩:=K;obtain⟨N,g,f,_⟩:=st.1;rw[z,g]at n;cases n;rw[f]at j;exact absurd j (by decide)
  have Td:T≠d:=λz=>by
   obtain⟨o,n,j,_⟩:=K;obtain⟨N,_,_,g,f,_⟩:=r;rw[z,g]at n;cases n;rw[f.1]at j;exact absurd j (by decide)
  have H:h'.DictOf (L2.zq prog w) d (merged []<|Dm.take i):=r.at λo e=>kp d o (by simp[G]) e;obtain⟨⟨oc,od,O,P⟩,n,j,n1,B⟩:=id K;have c:h'.get? T=some ⟨oc,od,O,P⟩:=kp T _ (by simp[TI]) n;simp only at j B;subst j B;dsimp only;refine Zt<|YR<|Zt<|wpAny_tryCatch ?_;have ty:LH { s with heap:=h',toks:=tk } (.ref T) "tuple":=⟨_,c,rfl⟩;unfold Builtin.Dict.pairItems;refine Zt<|Vm ty ?_;rw[ZS<|by decide];refine Zt ?_;unfold seqItems?;dsimp only;refine Zt<|wpAny_load (s:={ s with heap:=h',toks:=tk }) c<|Zy<|Zy ?_;dsimp only[Option.getD];refine YR ?_;unfold dictSet;refine YR<|Zt<|(L2.zq prog w).pyHash S ?_;have ml:(merged ([]:List<|L2.Key×D2)<|Dm.take i).length<=sizeLine:=by
   have:=merged_length_le ([]:List<|L2.Key×D2)<|Dm.take i;rw[Z3]at this;simp at this;lia
  refine wpAny_dictSetHashed_pairs (hsz:=ml) S H λZ u p=>?_;rw[<-merged_take_succ [] Dm i (k1,x) hx]at u;refine Zy ⟨Vx qF _,?_⟩;rw[show((i:Nat):Int)+1=((i+1:Nat):Int) by push_cast;rfl];have D:∀b o,b≠d->b≠I->s.heap.get? b=some o->Z.get? b=some o:=λb o t q e=>(p.2 b t).trans (kp b o (by simp[q]) e);refine ih (i+1) _ (by lia) C ⟨?_,?_⟩ u (F.at λU o ⟨xs,y⟩ e=>D U o (λz=>?_) (λz=>?_) e) λh3 Q J M=>k h3 Q J λb o t q e=>M b o t q<|D b o t q e
  .exact E.1.at λo e=>(p.2 I G.symm).trans e
  .exact E.2.at λo e=>(p.2 l X.symm).trans e
  .obtain⟨o1,c,h,_⟩:=y;obtain⟨N,_,_,g,f,_⟩:=r;rw[z,g]at c;cases c;rw[f.1]at h;exact absurd h (by decide)
  .obtain⟨o1,c,h,_⟩:=y;obtain⟨N,g,f,_⟩:=st.1;rw[z,g]at c;cases c;rw[f]at h;exact absurd h (by decide)
theorem Ih {l:D1}{Do:Array D2}{n:Nat}{Dm:List (L2.Key×D2)}{Q:D2->Dh}(B:A.handled=none)(hl:s.heap.get? l=some { cls:=.type "list",data:=.seq Do n })(D:vg prog w s.heap Do Dm)(hz:Dm.length<=sizeLine)
  (h:∀h' tk,h'.DictOf (L2.zq prog w) s.heap.objs.size (merged [] Dm)->(∀b o,s.heap.get? b=some o->h'.get? b=some o)->Q (.ref s.heap.objs.size) { s with heap:=h',toks:=tk }):D4 (Eb prog w) A (call (.type "dict") [.ref l]) Q E s:=by
 refine callType_codes (Q₁:=λobj g=>obj=.ref s.heap.objs.size/\g={ s with heap:=s.heap.push { cls:=.type "dict",data:=.dict #[] } }) F.kt_called_dict (F.kt_typeCall_dict_1 _) F.entry_dict_init (kt_code_dict_new _ ⟨rfl,rfl⟩) ?_;rintro obj g ⟨rfl,rfl⟩;have c:(s.heap.push { cls:=.type "dict",data:=.dict #[] }).DictOf (L2.zq prog w) s.heap.objs.size []:=Heap.DictOf.new s.heap;have t:l<s.heap.objs.size:=ZR hl;have i:(s.heap.push { cls:=.type "dict",data:=.dict #[] }).get? l=some { cls:=.type "list",data:=.seq Do n }:=ZC _ hl;refine⟨c.typeIs,F.args_dict_init_2 _ _,?_⟩;unfold Builtin.«dict.__init__»;refine Zt ?_;unfold Builtin.Dict.selfAndRest;refine Zt<|wpAny_notOrdered_dict c.typeIs ?_;show D4 _ _ (E7 (s.heap.objs.size,[Ee l])) _ _ _;refine Zy ?_;show D4 _ _ (Builtin.Dict.updateFrom "dict.__init__" s.heap.objs.size (.ref l) [] .none) _ _ _;unfold Builtin.Dict.updateFrom;have z:LH { s with heap:=s.heap.push { cls:=.type "dict",data:=.dict #[] } } (.ref l) "list":=⟨_,i,rfl⟩;refine Zt<|Vm z ?_;rw[ZS<|by decide];refine Zt (R7 (s:={ s with heap:=s.heap.push { cls:=.type "dict",data:=.dict #[] } }) i (by simp[B]) λp x f=>?_);simp only[Option.isNone_none,↓reduceIte];refine Zt<|Vg ?_;have q:p.IsList l Do:=⟨_,f l _ i,rfl,n,rfl⟩;have j:s.heap.objs.size<p.objs.size:=by
  obtain⟨o,_,_,e,_⟩:=c;exact ZR<|f _ _ e
 refine Zt<|J9 (s:={ s with heap:=p,toks:=x }) q ?_;refine Zy ⟨Vx qF _,?_⟩;have r:∀b o,s.heap.get? b=some o->(p.push { cls:=.type "list_iterator",data:=.fields #[.ref l,.int 0 0] }).get? b=some o:=λb o e=>ZC _<|f b o<|ZC _ e;refine K1 (A:=A.in1) (d:=s.heap.objs.size) (I:=p.objs.size) (l:=l) (Do:=Do) (Dm:=Dm) (by simp[B]) (ZX<|UH t j) (ZX j) (J6 t) hz (Do.size-0) 0 _ (by lia) (Yf _) ⟨⟨_,ZK _ rfl,rfl,rfl⟩,q.push _⟩ ?_ (D.at λT o _ e=>r T o e) λC y u v=>?_
 .rw[List.take_zero];exact(c.at λo e=>f _ o e).push _
 .refine⟨rfl,h C y u λb o e=>v b o (ZX<|ZR e) (ZX<|UH (ZR e) j)<|r b o e⟩
end
end AxS
namespace L2
open PySem PySem.Spec PyProof.Rows AxS
section
variable {X:Cx}{K:CB}
def kN (K:CB)(H:Hp)(xs:Dj)(Dm:Dl):Prop:=xs.length=Dm.length/\∀(i:Nat) (x:V),xs[i]?=some x->∃(T:D1) (k:Key) (v:V),x=.ref T/\xj K H T [kV k,v]/\Dm[i]?=some (k,v)
def TW (K:CB):Dj->Hp->VK->Prop:=λc H Q=>∃(a:D1) (vs:Dj) (b:Dl),c=[.ref a]/\H a=some (.lst vs)/\kN K H vs b/\∀l,H l=none->Q (.ref l) (upd H l<|.dK<|putAll [] b)
theorem Gi (I:Inv X Dq σ H s):∀{vs:Dj} {its:Db} {Dm:Dl},yx vs its->kN X.K H vs Dm->∃um:List<|Key×D2,KV Dm um/\um.length=its.length/\∀(i:Nat) (v:D2),its[i]?=some v->∃(T:D1) (k:Key) (key x:D2),v=.ref T/\s.heap.IsTuple T #[key,x]/\(zq X.prog X.w).is k key=true/\um[i]?=some (k,x)
 |[],_,Dm,.nil,p=>by
  have:Dm=[]:=YB p.1.symm;subst this;exact⟨[],.nil,rfl,λi v z=>(nomatch z)⟩
 |x::vs,u::its,Dm,.cons r1 r2,p=>by
  obtain⟨T,k,y,rfl,l,d⟩:=p.2 0 x rfl;cases Dm with
  |nil=>cases d
  |cons kv Dm =>
   have j:kv=(k,y):=Option.some.inj d;subst j;obtain⟨um,c,len,all⟩:=Gi I (Dm:=Dm) r2 ⟨by have:=p.1;simpa using this,λi z o=>by
    obtain⟨e,q,r,f,g,h⟩:=p.2 (i+1) z (by simpa using o);exact⟨e,q,r,f,g,by simpa using h⟩⟩
   cases r1;obtain⟨t,b,n,_⟩:=I.tuple l;cases b with
   |cons q1 b =>
    cases b with
    |cons q2 b =>
     cases b;rename_i key val;refine⟨(k,val)::um,.cons ⟨rfl,q2⟩ c,by rw[ZL,ZL,len],λi v hv=>?_⟩;cases i with
     |zero =>
      cases hv;exact⟨T,k,key,val,rfl,n,uH q1,rfl⟩
     |succ i=>exact all i v (by simpa using hv)
theorem Ku (j:X.calm=true)(f:X.K=K:=by rfl):xg X (.type "dict") (TW K):=by
 subst f;intro y s F H E C Q I r h;obtain⟨a,vs,Dm,rfl,g,pv,q⟩:=h;obtain⟨u,rfl,p⟩:=wU r;cases p;obtain⟨z,l,n,c,hl,e⟩:=I.qd g;obtain⟨w,b,len,all⟩:=Gi I c pv;have D:=c.length;have B:Dm.length=w.length:=Paired.length b;refine Ih (I.ok.hd j) e ⟨by rw[ZV];exact len,λi v hv=>all i v<|by simpa using hv⟩ (by lia) λA t d kp=>?_;have x:=qG Dm [];exact⟨.ref s.heap.objs.size,_,I.laid (o:=.dK<|putAll [] Dm) (t':=t) kp (ZB _)<|GQ (by rw[Jc]at x;lia) (YT.mpr<|Eh<|ZX I.big) (KV.putAll (Dm:=[]) (vs:=[]) .nil b) d,rfl,q _<|I.hok.fresh<|ZB _⟩
end
theorem xf.wV (r:xf k A):A.units+1<cLine:=by have:=r.un;lia
section
variable {d:D1}{Dm:Dl}{ob:Obj}{src:List (Option Nat)}{g:TG}{tf:St->Hp->(Bool->Hp->Prop)->Prop}{te:TE}{Q:VK}{σ:St}{H:Hp}
theorem Kw (c:Nat->Dj->St->Hp->Prop)(j:c 0 [] (U5 src σ) H)(hz:Dm.length<=sizeLine)(hl:∀i ys σ H,i<=Dm.length->c i ys σ H->H d=some (.frz ob<|.dK Dm)/\ys.length<=i)
  (hs:∀i k v T ys σ H,Dm[i]?=some (k,v)->c i ys σ H->H T=none->g (.ref T) σ (upd H T<|.tup [kV k,v]) λσ2 H3=>tf σ2 H3 λb H4=>if b=true then te σ2 H4 λy H5=>c (i+1) (ys++[y]) σ2 H5 else c (i+1) ys σ2 H4)
  (hd:∀ys σ H,c Dm.length ys σ H->∀p,H p=none->Q (.ref p) (upd H p<|.lst ys)):Xk src (Wy d Dm ob) g tf te Q σ H :=
 GH Dm.length c j hz (λi ys σ H e p=>(hl i ys σ H e p).2) (λys σ H p=>⟨(hl _ ys σ H (ZB _) p).1,rfl⟩) (λi ys σ H e p=>⟨(hl i ys σ H (Jb e) p).1,e⟩)
  (λi ys σ H e p x o y=>by
   obtain⟨T,k,v,n,l,h,f⟩:=y;subst h f;exact hs i k v T ys σ H n p l) hd
end
section
variable {X:Cx}
def W4:R2:=λy x H Q=>∃a o,x=.ref a/\wO H a y o/\Q (.bl<|!o.isSome) H
theorem BM (f:X.A.units+64<EO):CS X (EC .NotIn) W4:=by
 intro e s j H y x v u Q I d c h;obtain⟨a,o,rfl,g,q⟩:=h;cases c;exact RL (by lia) I g d λi b=>⟨.bl _,H,b,rfl,q⟩
end
end L2
namespace AnS
open PySem L2 An AnJ
def oD:Option Da->Ea
 |none=>.none
 |some ls=>yh ls
theorem sX (a b:Option Da):EB (oD a) (oD b)=decide (a=b):=by
 cases a with
 |none =>
  cases b with
  |none=>rfl
  |some y=>rfl
 |some x =>
  cases b with
  |none=>rfl
  |some y =>
   show EB (yh x) (yh y)=_;rw[F5,YL,ZQ,ZQ,Option.some.injEq]
def pA (o:Option Da):Prop:=∀ls,o=some ls->mX ls
theorem OV (h:pA o):(oD o).canLay0=true/\(oD o).depth<=1:=by
 cases o with
 |none=>exact⟨rfl,Yf _⟩
 |some ls=>exact OW<|h ls rfl
theorem wD (h:pA o):EL (oD o)=true:=An.XM (OV h).1 (Yn (OV h).2<|by decide)
def DS (H H':Hp):Prop:=∀b o,H b=some o->(∀c,o≠.dK c)->H' b=some o
theorem DS.of (e:zy H H'):DS H H':=λb o h _=>e b o h
theorem DS.upd {H:Hp}{d:D1}{Dm:Dl}(h:H d=some (.dK Dm)):DS H (upd H d o):=λb u e n=>by
 rw[zH λz=>by rw[z,h]at e;exact n Dm (Option.some.inj e).symm];exact e
theorem DS.sqT {K:CB}(e:DS H H')(h:xj K H a xs):xj K H' a xs:=by
 rcases h with(h|⟨o,h⟩)|h
 .exact .inl (.inl<|e _ _ h λ_ z=>(nomatch z))
 .exact .inl (.inr ⟨o,e _ _ h λ_ z=>(nomatch z)⟩)
 .exact .inr h
theorem DS.sqL {K:CB}(e:DS H H')(h:yj K H a xs):yj K H' a xs:=by
 rcases h with(h|⟨o,h⟩)|h
 .exact .inl (.inl<|e _ _ h λ_ z=>(nomatch z))
 .exact .inl (.inr ⟨o,e _ _ h λ_ z=>(nomatch z)⟩)
 .exact .inr h
mutual
theorem DS.dt {K:CB}(e:DS H H'):∀(d:Ea) (v:V),Dt K H d v->Dt K H' d v
 | .none,_,h=>h
 | .bool _,_,h=>h
 | .int _,_,h=>h
 | .str _,_,h=>h
 | .list ds,_,⟨a,xs,h1,h2,h3⟩=>⟨a,xs,h1,e.sqL h2,DS.lK e ds xs h3⟩
 | .tuple ds,_,⟨a,xs,h1,h2,h3⟩=>⟨a,xs,h1,e.sqT h2,DS.lK e ds xs h3⟩
 | .dict _,_,h=>h
theorem DS.lK {K:CB}(e:DS H H'):∀(ds:Df) (xs:Dj),zc K H ds xs->zc K H' ds xs
 |[],_,h=>h
 |d::ds,_,⟨x,r,h1,h2,h3⟩=>⟨x,r,h1,DS.dt e d x h2,DS.lK e ds r h3⟩
end
structure zb (K:CB)(H:Hp)(Dm:Dl)(L:Da)(g:Str->Ea):Prop where
 keys:Dm.map (·.1)=L.map D8
 nd:L.Nodup
 val:∀p∈L,∃v,UP Dm (.inr p)=some v/\Dt K H (g p) v
section
variable {K:CB}{H H':Hp}{Dm more:Dl}{L M:Da}{g:Str->Ea}
theorem zb.nil:zb K H [] [] g:=⟨rfl,YN,λ_ h=>(nomatch h)⟩
theorem zb.len (h:zb K H Dm L g):Dm.length=L.length:=by
 have:=congrArg List.length h.keys;rw[Zu,Zu]at this;exact this
theorem zb.mono (h:zb K H Dm L g)(e:DS H H'):zb K H' Dm L g:=⟨h.keys,h.nd,λp c=>let ⟨v,a,b⟩:=h.val p c;⟨v,a,e.dt _ _ b⟩⟩
theorem zb.same (h:zb K H Dm L g)(e:zy H H'):zb K H' Dm L g:=h.mono<|.of e
theorem zb.pC {g':Str->Ea}(h:zb K H Dm L g)(e:∀p∈L,g p=g' p):zb K H Dm L g':=⟨h.keys,h.nd,λp c=>let ⟨v,a,b⟩:=h.val p c;⟨v,a,e p c▸b⟩⟩
theorem zb.at (h:zb K H Dm L g){i:Nat}{b:Key×V}(e:Dm[i]?=some b):L[i]?=some (Xa b)/\b.1=.inr (Xa b):=by
 have:=congrArg (λl=>l[i]?) h.keys;simp only[ZF,e,YM]at this;cases q:L[i]? with
 |none=>rw[q]at this;cases this
 |some p =>
  rw[q]at this;have this:b.1=.inr p:=Option.some.inj this;have c:Xa b=p:=by unfold Xa;rw[this]
  exact⟨by rw[c],by rw[c,this]⟩
theorem zb.oJ (h:zb K H Dm L g):Rz Dm:=λb hkv=>by
 obtain⟨i,e⟩:=Ja.mp hkv;exact(h.at e).2
theorem zb.qg (h:zb K H Dm L g):Dm.map Xa=L:=by
 refine VT λi=>?_;rw[ZF];cases e:Dm[i]? with
 |none =>
  have:L.length<=i:=by rw[<-h.len];exact Jk.mp e
  rw[Jk.mpr this];rfl
 |some kv=>rw[(h.at e).1];rfl
theorem zb.mem (h:zb K H Dm L g){p:Str}:(.inr p:Key)∈Dm.map (·.1)↔p∈L:=by
 rw[h.keys,ZA];exact⟨λ⟨q,b,e⟩=>by cases e;exact b,λz=>⟨p,z,rfl⟩⟩
theorem zb.no (h:zb K H Dm L g){p:Str}(n:p∉L):UP Dm (.inr p)=none:=by
 cases e:UP Dm (.inr p) with
 |none=>rfl
 |some v=>exact absurd (h.mem.mp<|qJ e) n
theorem zb.isSome (h:zb K H Dm L g)(p:Str):(UP Dm<|.inr p).isSome=decide (p∈L):=by
 by_cases z:p∈L
 .obtain⟨v,e,_⟩:=h.val p z;rw[e,Zz z];rfl
 .rw[h.no z,ZP z];rfl
def vW (L:Da)(p:Str):Da:=if p∈L then L else L++[p]
theorem wC {q:Str}:q∈vW L p↔q∈L\/q=p:=by
 unfold vW
 by_cases z:p∈L
 .rw[ZS z];exact⟨.inl,λh=>h.elim id λe=>e▸z⟩
 .rw[ZM z,ZZ,Zv]
theorem pP (p:Str):(vW L p).length<=L.length+1:=by
 unfold vW
 split
 .lia
 .rw[ZE];exact ZB _
theorem zb.put (h:zb K H Dm L g)(p:Str){v:V}{d:Ea}(hv:Dt K H d v):zb K H (yr Dm (.inr p) v) (vW L p) (λq=>if q=p then d else g q):=by
 refine⟨?_,?_,λq i=>?_⟩
 .unfold vW
  by_cases z:p∈L
  .rw[ZS z];unfold yr;rw[ZS<|by rw[xP,h.isSome,Zz z],ZY,<-h.keys];refine Yu λc _=>?_;show(if c.1=.inr p then(c.1,v) else c).1=c.1
   split<;>rfl
  .rw[ZM z,IF v<|h.no z,ZH,ZH,h.keys];rfl
 .unfold vW
  by_cases z:p∈L
  .rw[ZS z];exact h.nd
  .rw[ZM z];exact qD h.nd z
 .rw[Gg]
  by_cases e:q=p
  .subst e;rw[ZS rfl];exact⟨v,rfl,by show Dt K H (if q=q then d else g q) v;rw[ZS rfl];exact hv⟩
  .have f:¬((.inr q:Key)=.inr p):=λz=>by cases z;exact e rfl
   rw[ZM f];obtain⟨w,a,b⟩:=h.val q<|(wC.mp i).resolve_right e;exact⟨w,a,by show Dt K H (if q=p then d else g q) w;rw[ZM e];exact b⟩
theorem zb.nodup (h:zb K H Dm L g):(Dm.map (·.1)).Nodup:=by
 rw[h.keys];exact L6 _ (λa b n e=>by cases e;exact n rfl) h.nd
theorem Iv {κ:Type} [DecidableEq κ]:∀{Dm:List (κ×V)} {kv:κ×V},(Dm.map (·.1)).Nodup->kv∈Dm->UP Dm kv.1=some kv.2
 |p::r,kv,nd,h=>by
  rw[ZT,Yl]at nd
  rcases ZI.mp h with rfl|h
  .exact yQ rfl
  .rw[yR λe=>nd.1<|e▸ZA.mpr ⟨kv,h,rfl⟩];exact Iv nd.2 h
theorem zb.pair (h:zb K H Dm L g){c:Key×V}(hkv:c∈Dm):c.1=.inr (Xa c)/\Xa c∈L/\Dt K H (g<|Xa c) c.2:=by
 have e:=h.oJ c hkv;have d:Xa c∈L:=by rw[<-h.qg];exact ZA.mpr ⟨c,hkv,rfl⟩
 obtain⟨v,a,b⟩:=h.val _ d;have:=Iv h.nodup hkv;rw[e,a]at this;exact⟨e,d,Option.some.inj this▸b⟩
theorem zb.drop (h:zb K H Dm L g)(p:Str):zb K H (U8 Dm<|.inr p) (L.filter λq=>decide (q≠p)) g:=by
 have go:∀{Dm:Dl} {L:Da},Dm.map (·.1)=L.map D8->(U8 Dm<|.inr p).map (·.1)=(L.filter λq=>decide (q≠p)).map Sum.inr:=λ{Dm}=>by
  induction Dm with
  |nil=>intro L e;cases L with
   |nil=>rfl
   |cons=>cases e
  |cons l r ih=>intro L e;cases L with
   |nil=>cases e
   |cons x L =>
    rw[ZT,ZT]at e;injection e with d c
    by_cases z:x=p
    .rw[NB<|by rw[d,z],YI,ZM<|by simp[z]];exact ih c
    .rw[NA (by rw[d];exact λq=>by cases q;exact z rfl),YI,ZS<|by simp[z],ZT,ZT,d,ih c]
 have e:=go h.keys;refine⟨e,h.nd.filter _,λq i=>?_⟩;obtain⟨i,ne⟩:=YK.mp i;obtain⟨v,a,b⟩:=h.val q i;refine⟨v,?_,b⟩;have ne:q≠p:=ZJ ne;obtain⟨l,hkv,f⟩:=ZA.mp<|qJ a;have c:=Iv h.nodup hkv;rw[f,a]at c;have o:l∈U8 Dm (.inr p):=YK.mpr ⟨hkv,Zz (by rw[f];exact λz=>by cases z;exact ne rfl)⟩;have j:((U8 Dm<|.inr p).map (·.1)).Nodup:=by
  rw[e];exact L6 _ (λa b n e=>by cases e;exact n rfl)<|h.nd.filter _
 have:=Iv j o;rw[f]at this;rw[this,Option.some.inj c]
theorem uR:∀(more acc:Dl),((acc++more).map (·.1)).Nodup->putAll acc more=acc++more
 |[],acc,_=>by rw[ZW];rfl
 |kv::more,acc,nd=>by
  have e:yr acc kv.1 kv.2=acc++[kv]:=IF _ (by
   cases q:UP acc kv.1 with
   |none=>rfl
   |some v =>
    have:=qJ q;rw[ZH,ZT]at nd;exact absurd rfl<|(YX.mp nd).2.2 _ this _<|Zx ..)
  show putAll (yr acc kv.1 kv.2) more=_;rw[e,uR more (acc++[kv])<|by rwa[Ys],Ys];rfl
end
structure Files (K:CB)(H:Hp)(Dm:Dl)(L:Da)(F:Str->Option Da):Prop where
 is:zb K H Dm L<|λp=>oD<|F p
 mem:∀p,p∈L↔(F p).isSome=true
section
variable {K:CB}{H H':Hp}{Dm:Dl}{L:Da}{F:Str->Option Da}
theorem Files.get (h:Files K H Dm L F)(p:Str):Dt K H (oD<|F p) ((UP Dm<|.inr p).getD .non):=by
 by_cases z:p∈L
 .obtain⟨v,e,d⟩:=h.is.val p z;rwa[e]
 .rw[h.is.no z];have:F p=none:=by
   cases q:F p with
   |none=>rfl
   |some x=>exact absurd ((h.mem p).mpr (by rw[q];rfl)) z
  rw[this];rfl
theorem Files.mono (h:Files K H Dm L F)(e:DS H H'):Files K H' Dm L F:=⟨h.is.mono e,h.mem⟩
theorem Files.same (h:Files K H Dm L F)(e:zy H H'):Files K H' Dm L F:=h.mono<|.of e
theorem Files.put (h:Files K H Dm L F)(p:Str){v:V}{ls:Da}(hv:Dt K H (yh ls) v):Files K H (yr Dm (.inr p) v) (vW L p) (λq=>if q=p then some ls else F q):=by
 refine⟨(h.is.put p hv).pC λq _=>?_,λq=>?_⟩
 .show(if q=p then yh ls else oD (F q))=oD (if q=p then some ls else F q)
  split<;>rfl
 .rw[wC,h.mem];show _↔(if q=p then some ls else F q).isSome=true
  by_cases z:q=p
  .rw[ZS z];exact⟨λ_=>rfl,λ_=>.inr z⟩
  .rw[ZM z];exact⟨λq=>q.resolve_right z,.inl⟩
theorem Files.drop (h:Files K H Dm L F)(p:Str):Files K H (U8 Dm<|.inr p) (L.filter λq=>decide (q≠p)) (λq=>if q=p then none else F q):=by
 refine⟨(h.is.drop p).pC λq b=>?_,λq=>?_⟩
 .have:q≠p:=ZJ (YK.mp b).2;show oD (F q)=oD (if q=p then none else F q);rw[ZM this]
 .rw[YK,h.mem];show _↔(if q=p then none else F q).isSome=true
  by_cases z:q=p
  .rw[ZS z];exact⟨λw=>absurd z<|ZJ w.2,λw=>(nomatch w)⟩
  .rw[ZM z];exact⟨λw=>w.1,λw=>⟨w,Zz z⟩⟩
end
structure lO (LB LM LY ss:Da):Prop where
 sorted:ss.Pairwise Ry
 nd:ss.Nodup
 mem:∀p,p∈ss↔p∈LB\/p∈LM\/p∈LY
structure Three (K:CB)(H:Hp)(kb km ky:Dl)(LB LM LY:Da)(B M Y:Str->Option Da):Prop where
 fb:Files K H kb LB B
 fm:Files K H km LM M
 fy:Files K H ky LY Y
 len:LB.length+LM.length+LY.length<60
 path:∀p,p∈LB\/p∈LM\/p∈LY->p.length<=1000/\D9 p=true
 ok:∀p,pA (B p)/\pA (M p)/\pA (Y p)
theorem Three.mono {K:CB}(h:Three K H kb km ky LB LM LY B M Y)(e:DS H H'):Three K H' kb km ky LB LM LY B M Y:=⟨h.fb.mono e,h.fm.mono e,h.fy.mono e,h.len,h.path,h.ok⟩
section
variable {K:CB}{H H':Hp}
theorem pN {b:Da}{i:Nat}{p:Str}{f:Str->Bool}(nd:b.Nodup)(d:b[i]?=some p)(h:f p=true):vW ((b.take i).filter f) p=(b.take<|i+1).filter f:=by
 have c:p∉(b.take i).filter f:=λz=>by
  obtain⟨k,j,e⟩:=Z8.mp (YK.mp z).1;rw[Ux]at e;obtain⟨l,g⟩:=ZO.mp d;rw[Z3]at j;have:=(YQ nd).mp<|e.trans g.symm;lia
 unfold vW;rw[ZM c,Ym,d,JF];show _=_++[p].filter f;rw[YI,ZS h];rfl
theorem oY {b:Da}{i:Nat}{p:Str}{f:Str->Bool}(c:b[i]?=some p)(h:f p=false):(b.take i).filter f=(b.take<|i+1).filter f:=by
 rw[Ym,c,JF];show _=_++[p].filter f;rw[YI,ZM (by rw[h];exact Yc)];exact(ZW _).symm
theorem ur (h:kN K H xs Dm)(e:zy H H'):kN K H' xs Dm:=⟨h.1,λi x d=>let ⟨T,k,v,a,b,c⟩:=h.2 i x d;⟨T,k,v,a,e.yh b,c⟩⟩
theorem rT {v:V}(h:kN K H xs Dm)(f:xj K H T [kV k,v]):kN K H (xs++[.ref T]) (Dm++[(k,v)]):=by
 refine⟨by rw[ZE,ZE,h.1];rfl,λi x d=>?_⟩
 by_cases z:i<xs.length
 .rw[Z7 z]at d;obtain⟨T,k,v,a,b,c⟩:=h.2 i x d;exact⟨T,k,v,a,b,by rw[Z7<|by rwa[<-h.1]];exact c⟩
 .rw[Z2<|by lia]at d;have e:i-xs.length=0:=by
   rcases JD (i-xs.length) with q|q
   .exact q
   .rw[Jk.mpr (by show 1<=_;lia)]at d;cases d
  rw[e]at d;cases d;exact⟨T,k,v,rfl,f,by rw[Z2 (by rw[<-h.1];lia),<-h.1,e];rfl⟩
theorem pZ:kN K H [] []:=⟨rfl,λi x b=>(nomatch b)⟩
theorem nY {d e f b c g:Da}(h:AxS.Both d e b)(i:AxS.Both b f c)(pm:g.Perm c)(l:PyProof.Rows.sortedS g=true)(nb:d.Nodup)(nm:e.Nodup)(j:f.Nodup):lO d e f g :=
 ⟨Xx l,pm.nodup_iff.mpr<|i.nd (h.nd nb nm) j,λp=>by rw[pm.mem_iff,i.mem,h.mem,or_assoc]⟩
theorem lO.len {d e f b c g:Da}(h:AxS.Both d e b)(i:AxS.Both b f c)(pm:g.Perm c):g.length<=d.length+e.length+f.length:=by
 have:=h.len;have:=i.len;rw[pm.length_eq];lia
end
theorem len_sub {l m:List PySem.Str}(n1:l.Nodup)(n2:m.Nodup)(h:∀p∈l,p∈m):l.length<=m.length:=by
 have:=(JE n1<|n2.filter<|λp=>decide (p∈l)).mpr λp=>by
  rw[YK,ZQ];exact⟨λz=>⟨h p z,z⟩,λz=>z.2⟩
 rw[this.length_eq];exact Jl _ _
end AnS
namespace An
open PySem L2
def Rj (b:Df):Da:=b.filterMap λd=>match d with
 | .str x=>some x
 |_=>none
def Sb:Ea->Da
 | .tuple [_,_,.tuple ds,_]=>Rj ds
 |_=>[]
theorem BK:∀ps:Da,Rj (ps.map .str)=ps
 |[]=>rfl
 |p::ps=>by
  show p::Rj (ps.map .str)=_;rw[BK ps]
theorem XH (x:Str)(ps:Da)(y:Str):Sb (Th.note x ps y).dat=ps:=BK ps
def UU (S:Di)(x:Str):Da:=match S.find? (λe=>decide (e.nm=x)) with
 |some e=>Sb e.d
 |none=>[]
inductive vC (par:Str->Da)(rs:Da):Str->Prop
 |root {x:Str}:x∈rs->vC par rs x
 |step {x y:Str}:vC par rs x->y∈par x->vC par rs y
def UY (S:Di)(x:Str):Bool:=z9 S x ["note"]
theorem MI {S:Di}(g:(S.map En.nm).Nodup){e:En}(he:e∈S):S.find? (λf=>decide (f.nm=e.nm))=some e:=by
 cases q:S.find? (λf=>decide (f.nm=e.nm)) with
 |none =>
  rw[VG]at q;exact absurd (Zz rfl)<|q e he
 |some f =>
  have b:=JL q;have h:=Y8 q;have b:f.nm=e.nm:=ZJ b;obtain⟨i,l,c⟩:=Z8.mp he;obtain⟨j,n,d⟩:=Z8.mp h;have:(S.map En.nm)[i]'(by simpa using l)=(S.map En.nm)[j]'(by simpa using n):=by
   rw[Yb,Yb,c,d,b]
  have:=(YQ g).mp this;subst this;rw[<-c,d]
theorem IK {S:Di}(g:(S.map En.nm).Nodup){e:En}(he:e∈S):UU S e.nm=Sb e.d:=by
 unfold UU;rw[MI g he]
theorem uJ {S:Di}(th:∀e∈S,X1 e){x:Str}(h:UY S x=true):∃e∈S,e.nm=x/\∃t ps y,e.d=(Th.note t ps y).dat:=by
 unfold UY z9 at h;rw[Yq]at h;obtain⟨e,he,h⟩:=h;rw[ZG,ZQ,ZQ]at h;obtain⟨t,c,_⟩:=th e he;refine⟨e,he,h.1,?_⟩;have b:=h.2;rw[jK c]at b;cases t with
 |note t ps y=>exact⟨t,ps,y,c⟩
 |leaf ls=>exact absurd (show("leaf":Str)∈(["note"]:Da) from b) (by decide+kernel)
 |tree rs=>exact absurd (show("tree":Str)∈(["note"]:Da) from b) (by decide+kernel)
theorem R8 {S:Di}{e:En}(he:e∈S){t:Str}{ps:Da}{y:Str}(hd:e.d=(Th.note t ps y).dat):UY S e.nm=true:=by
 unfold UY z9;rw[Yq];refine⟨e,he,?_⟩;rw[ZG,ZQ,ZQ,jK hd];exact⟨rfl,Zv.mpr rfl⟩
def Vc (S:Di):Prop:=∀x,UY S x=true->∀p∈UU S x,UY S p=true
theorem vC.note (c:Vc S){rs:Da}(b:∀r∈rs,UY S r=true){x:Str}(h:vC (UU S) rs x):UY S x=true:=by
 induction h with
 |root h=>exact b _ h
 |step h1 h2 ih=>exact c _ ih _ h2
theorem jE (h:UY S x=true):x∈S.map En.nm:=by
 unfold UY z9 at h;rw[Yq]at h;obtain⟨e,he,h⟩:=h;rw[ZG,ZQ]at h;exact ZA.mpr ⟨e,he,h.1⟩
theorem So {par:Str->Da}{rs F:Da}(c:∀r∈rs,r∈F)(d:∀x∈F,∀y∈par x,y∈F){x:Str}(h:vC par rs x):x∈F:=by
 induction h with
 |root h=>exact c _ h
 |step _ b ih=>exact d _ ih _ b
def WN (S:Di):Ea->Str->Bool
 | .str x,f=>z9 S x [f]
 |_,_=>false
def Xw (S:Di)(x y:Str)(us:Da):Prop:=∃p:Str->Bool,us=(S.map En.nm).filter p /\
 ∀v∈S.map En.nm,(p v=true↔(vC (UU S) [x] v/\vC (UU S) [y] v)/\∀w,vC (UU S) [x] w->vC (UU S) [y] w->v∉UU S w)
def oV:Option Str->V
 |none=>.non
 |some n=>.str n
open AnJ
theorem M5 {a t:Da}(b:a≠[])(c:t≠[]):CD (a++t)=CD a++"/"++CD t:=xq (by
 have e:cs ("/":Str)=[47]:=by decide+kernel
 unfold CD;rw[xT,ZH,KM (by simpa using b)<|by simpa using c,zu,zu,xT,xT,e];simp)
theorem PY (B:Da)(l:Str)(b:B≠[]):CD B++"/"++l=CD (B++[l]):=by
 rw[M5 b<|Yy _ _,GJ]
inductive pR (S:Di):Dg->Da->Str->Prop
 |here {Dp:Dg} {l n:Str} {ls:Da}:(l,n)∈Dp->pR S Dp (l::ls) n
 |down {Dp rs:Dg} {l n x:Str} {ls:Da}:(l,n)∈Dp->At S n (.tree rs)->pR S rs ls x->pR S Dp (l::ls) x
theorem yu.one (g:yu n fs){f k:Fi}(b:f∈fs)(h:k∈fs)(e:f.1=k.1):f=k:=by
 obtain⟨i,c,rfl⟩:=Z8.mp b;obtain⟨j,d,rfl⟩:=Z8.mp h;have:=(YQ (h₀:=by simpa using c) (h₁:=by simpa using d) g.nd).mp (by rwa[Yb,Yb]);subst this;rfl
theorem aA {n:Nat}{fs:Dk}(g:∀f∈fs,f.1.length<=n):wt fs<=n*fs.length:=by
 unfold wt
 induction fs with
 |nil=>exact Yf _
 |cons f fs ih =>
  have c:=g f<|Zx ..;have d:=ih λk b=>g k<|Zw _ b;rw[ZT,JS,ZL,Nat.mul_succ];lia
theorem yu.wt (g:yu n fs):wt fs<=n*fs.length:=aA λf b=>(g.wH f b).2.1
section
variable {K:CB}{H:Hp}{fs:Dk}{Dm:Dl}
theorem xr.nd (h:xr K H fs Dm)(g:yu n fs):(Dm.map (·.1)).Nodup:=by
 rw[h.keys];have:=g.nd;rw[Yd,Y9]at this ⊢;exact this.imp_of_mem λ{a b} c e ne q=>ne<|kH (d:=0) (g.wH a c).1 (g.wH b e).1 (g.wH a c).2.2.1 (g.wH b e).2.2.1<|Sum.inr.inj q
theorem xr.at (h:xr K H fs Dm)(g:yu n fs){f:Fi}(l:f∈fs):∃v,UP Dm (.inr<|CD f.1)=some v/\Dt K H (yh f.2) v/\U2 f.2:=by
 obtain⟨i,o,rfl⟩:=Z8.mp l;have c:i<Dm.length:=by rwa[h.len]
 obtain⟨p,b,d,e,j⟩:=h.get (i:=i) (k:=Dm[i].1) (v:=Dm[i].2)<|ZD c;rw[ZD o]at b;cases b;refine⟨Dm[i].2,uD (h.nd g) ?_,e,j⟩;rw[<-d];exact Yt c
end
section
variable {d n:Nat}{S:Di}{fs gs:Dk}{q q2:List En×Str}
theorem Sq {l:Dk}(h:l.Pairwise λf h=>CV (CD f.1)<|CD h.1):l.Nodup:=Yd.mpr (h.imp λ{a b} (z:CV (CD a.1)<|CD b.1) (q:a=b)=>MR z<|by rw[q])
end
theorem Kd {α:Type} [DecidableEq α]:∀{a b:List α},a.Nodup->(∀x∈a,x∈b)->b.length<=a.length->∀x∈b,x∈a
 |[],b,_,_,l,x,hx=>by
  have:b=[]:=YB<|Nat.le_zero.mp l;rw[this]at hx;exact hx
 |y::a,b,nd,h,l,x,hx=>by
  have d:=h y<|Zx ..;have nd:=Yl.mp nd
  by_cases z:x=y
  .rw[z];exact Zx ..
  .refine Zw _ (Kd (b:=b.erase y) nd.2 (λu c=>?_) ?_ x<|(List.mem_erase_of_ne z).mpr hx)
   .exact(List.mem_erase_of_ne<|λ(q:u=y)=>nd.1<|by rwa[<-q]).mpr (h u<|Zw _ c)
   .rw[List.length_erase_of_mem d];rw[ZL]at l;lia
section
variable {K:CB}{H:Hp}{fs rs:Dk}{ka kb:Dl}{n m:Nat}
theorem xr.tail {f:Fi}{c:Key×V}(h:xr K H (f::fs) (c::ka)):xr K H fs ka:=⟨List.tail_eq_of_cons_eq h.keys,λi f c a b=>h.val (i+1) f c a b⟩
theorem BQ (s:xr K H fs kb)(j:yu n fs):∀{rs:Dk} {ka:Dl},xr K H rs ka->(∀f∈rs,f.1≠[]/\∀l∈f.1,zU l=true)->uc K H kb ka (decide (∀f∈rs,f∈fs))
 |[],[],_,_=>by
  rw[Zz<|λf o=>(nomatch o)];exact .nil
 |[],_::_,h,_=>by cases h.keys
 |_::_,[],h,_=>by cases h.keys
 |f::rs,(k,v)::ka,h,ho=>by
  have F:=BQ s j h.tail λk D=>ho k<|Zw _ D;obtain⟨A,r,x,u,lv⟩:=h.get (i:=0) (k:=k) (v:=v) rfl;have r:f=A:=Option.some.inj r;subst r x;obtain⟨B,C⟩:=ho f<|Zx ..;have sh:∀{ls:Da},U2 ls->EL (yh ls)=true:=λ{ls} h=>(jL λp E=>(GT<|h.2 p E).ok).2
  by_cases z:f.1∈fs.map (·.1)
  .obtain⟨g,b,c⟩:=ZA.mp z;obtain⟨y,t,w,G⟩:=s.at j b;rw[c]at t;have e:decide (∀k∈f::rs,k∈fs)=(EB (yh f.2) (yh g.2)&&decide (∀k∈rs,k∈fs)):=by
    rw[F5,YL,ZG,ZQ,ZQ,ZQ,List.forall_mem_cons];refine and_congr_left λ_=>⟨λo=>?_,λo=>?_⟩
    .rw[j.one o b c.symm]
    .have:f=g:=LG c.symm o;rwa[this]
   rw[e];exact .hit t u w (sh lv) (sh G) F
  .have I:UP kb (.inr<|CD f.1)=none:=by
    cases q:UP kb (.inr<|CD f.1) with
    |none=>rfl
    |some y =>
     exfalso;have:=qJ q;rw[s.keys]at this;obtain⟨g,b,c⟩:=ZA.mp this;exact z<|ZA.mpr ⟨g,b,kH (d:=0) (j.wH g b).1 B (j.wH g b).2.2.1 C<|Sum.inr.inj c⟩
   rw[ZP<|λq=>z<|ZA.mpr ⟨f,q f<|Zx ..,rfl⟩];exact .miss I
theorem F3 (d:xr K H rs ka)(e:xr K H fs kb)(c:yu n fs)(b:rs.Nodup):(ka.length==kb.length&&decide (∀f∈rs,f∈fs))=true↔∀f,f∈rs↔f∈fs:=by
 rw[ZG,Jy,ZQ,d.len,e.len];constructor
 .rintro⟨l,h⟩ f;exact⟨h f,Kd b h (by lia) f⟩
 .intro h;exact⟨((JE b<|qB c.nd).mpr h).length_eq,λf g=>(h f).mp g⟩
end
def aE (fs:Dk)(p:Da):Option Da:=(fs.find? λf=>decide (f.1=p)).map (·.2)
theorem R3 (g:yu n fs){p L:Da}:aE fs p=some L↔(p,L)∈fs:=by
 unfold aE;constructor
 .intro h;obtain⟨f,c,e⟩:=Z0.mp h;have b:=JL c;have d:=Y8 c;have b:f.1=p:=ZJ b;rwa[<-b,<-e]
 .intro h;cases q:fs.find? λf=>decide (f.1=p) with
  |none=>exact absurd (Zz rfl)<|VG.mp q _ h
  |some f =>
   have b:f.1=p:=ZJ<|JL (p:=λf:Fi=>decide (f.1=p)) q;rw[g.one (Y8 q) h b];rfl
theorem NZ {B p:Da}(c:B≠[])(f:p≠[])(r:∀l∈B,zU l=true)(g:∀l∈p,zU l=true):Xr (CD B) (CD p)=true↔∃q,q≠[]/\p=B++q:=by
 constructor
 .intro h;have h:=su.mpr h;unfold G1 at h;rw[ZA]at h;obtain⟨i,b,e⟩:=h;have j:UW (CD p)=p:=qW f λy o=>xG<|g y o;rw[j]at e b;have b:=Y0.mp b;have e:CD (p.take<|i+1)=CD B:=e;have ne:p.take (i+1)≠[]:=λz=>by
   have:=congrArg List.length z;rw[Z3]at this;have t:0<p.length:=JX.mpr f;have:min (i+1) p.length=0:=this;lia
  have:=kH (d:=0) ne c (λl hl=>g l<|Y3 hl) r e;refine⟨p.drop<|i+1,λz=>?_,by rw[<-this,YW]⟩;have:=congrArg List.length z;rw[Jp]at this;have:p.length-(i+1)=0:=this;lia
 .rintro⟨q,n,rfl⟩;rw[M5 c n];exact Pw _ _
open AnS
def CW (ls:Da):Prop:=ls≠[]/\ls.length<=4/\∀l∈ls,zU l=true
theorem yu.lb (g:yu 4 fs){f:Fi}(b:f∈fs):CW f.1:=⟨(g.wH f b).1,(g.wH f b).2.1,(g.wH f b).2.2.1⟩
theorem Fn (b:CW p)(c:CW q)(e:CD p=CD q):p=q:=kH (d:=0) b.1 c.1 b.2.2 c.2.2 e
abbrev FF:=Str->Option Da
def lR (F:FF):Prop:=∀p l,F p=some l->U2 l/\∃ls,CW ls/\p=CD ls
theorem Tz (h:U2 L):AnJ.mX L:=λl hl=>(GT<|h.2 l hl).ok
theorem lR.ok (h:lR F)(p:Str):pA (F p):=λl e=>Tz (h p l e).1
def Ff (fs:Dk):FF:=λs=>(fs.find? λf=>decide (CD f.1=s)).map (·.2)
section
variable {K:CB}{H H':Hp}{Dm:Dl}{fs gs:Dk}{L:Da}{F:FF}
theorem IA {l:Da}(h:Ff fs s=some l):∃f∈fs,CD f.1=s/\f.2=l:=by
 obtain⟨f,b,e⟩:=Z0.mp h;exact⟨f,Y8 b,ZJ<|JL (p:=λf:Fi=>decide (CD f.1=s)) b,e⟩
theorem Wv (g:yu 4 fs){p:Da}(d:CW p):Ff fs (CD p)=aE fs p:=by
 unfold Ff aE
 congr 1
 have:∀{l:Dk},(∀f∈l,CW f.1)->(l.find? λf=>decide (CD f.1=CD p))=l.find? λf=>decide (f.1=p):=λ{l}=>by
  induction l with
  |nil=>intro _;rfl
  |cons f l ih =>
   intro h;rw[YG,YG,ih λk c=>h k<|Zw _ c];have:decide (CD f.1=CD p)=decide (f.1=p):=by
    rw[J1];exact⟨Fn (h f Zx) d,λe=>by rw[e]⟩
   rw[this]
 exact this λf b=>g.lb b
theorem My (g:yu 4 fs){f:Fi}(b:f∈fs):Ff fs (CD f.1)=some f.2:=by
 rw[Wv g<|g.lb b];exact(R3 g).mpr b
theorem Ww (g:yu 4 fs):lR (Ff fs):=λp l h=>by
 obtain⟨f,b,c,d⟩:=IA h;rw[<-c,<-d];exact⟨(g.wH f b).2.2.2,f.1,g.lb b,rfl⟩
theorem OG (h:xr K H fs Dm)(g:yu 4 fs):Files K H Dm (fs.map λf=>CD f.1) (Ff fs):=by
 refine⟨⟨by rw[h.keys,ZY];rfl,?_,λp d=>?_⟩,λp=>⟨λd=>?_,λd=>?_⟩⟩
 .have:=h.nd g;rw[h.keys,show(fs.map λf=>(.inr (CD f.1):Key))=(fs.map λf=>CD f.1).map D8 by rw[ZY];rfl]at this;exact Yd.mpr ((Y9.mp<|Yd.mp this).imp λ{a b} n e=>n<|by rw[e])
 .obtain⟨f,c,rfl⟩:=ZA.mp d;obtain⟨v,a,b,_⟩:=h.at g c;refine⟨v,a,?_⟩;show Dt K H (oD<|Ff fs<|CD f.1) v;rwa[My g c]
 .obtain⟨f,c,rfl⟩:=ZA.mp d;rw[My g c];rfl
 .obtain⟨l,hl⟩:=Yx.mp d;obtain⟨f,c,e,_⟩:=IA hl;exact ZA.mpr ⟨f,c,e⟩
end
end An
namespace An
open PySem L2 AnS
theorem PZ:∀{p:Da},(∀l∈p,zU l=true)->D9 (CD p)=true
 |[],_=>by decide+kernel
 |[l],h=>by
  rw[yJ,kF,<-yJ];exact(j4<|h l Zx).ok
 |l::m::p,h=>by
  rw[yJ,xR l<|Yy m p];have b:=(yJ l).mp (j4<|h l Zx).ok;have d:=(yJ _).mp<|PZ (p:=m::p) λx f=>h x<|Zw _ f;intro c e
  rcases ZZ.mp e with z|z
  .exact b c z
  .rcases ZI.mp z with z|z
   .rw[z];decide
   .exact d c z
theorem Tw (h:CW ls):D9 (CD ls)=true:=PZ h.2.2
end An
namespace PySem.SeqAt
open MeetsSeq PyProof.Rows
end PySem.SeqAt
namespace L2
open PySem PySem.Spec PyProof.Rows
section
variable {X:Cx}{K:CB}
theorem PH {p pos:Pos}(M:mJ X.prog X.w X.K X.mg X.base C k x ps sp)(g:xf (k+1) X.A)(d:Gl X x:=by rfl)(b:(x==("__debug__":Str))=false:=by decide):PE X (.Call (.Name x p) [] [] pos) (Ni C sp [] E0 Xi):=by
 obtain⟨f,i,F,e,c,h⟩:=M.ex;exact PJ e F g d h c .nil GL b
end
end L2
namespace An27
open PySem L2 An
seal L2.PS L2.sE L2.PE L2.PT L2.PW L2.PA L2.PG L2.mU L2.PI L2.nF L2.PC
abbrev yc0 (K)(x)(st)(f)(fd):=yc K x x st f fd
def top (i:Nat):Stmt:=PySem.Challenge.pw_annals_k27_whole_moves.main.body.getD i<|.Pass ⟨0,0,0,0⟩
def kinds:List String:=["NoneType","bool","int","str","list","tuple","dict"]
def xE:Dl:=[(D8 "leaf",.str "L"),(D8 "tree",.str "T"),(D8 "note",.str "N")]
theorem KP (t:Th):UP xE (D8 t.word:Key)=some (.str t.letter):=by
 cases t
 .show UP xE (D8 "leaf":Key)=some (.str "L")
  decide+kernel
 .show UP xE (D8 "tree":Key)=some (.str "T")
  decide+kernel
 .show UP xE (D8 "note":Key)=some (.str "N")
  decide+kernel
section
variable {K:CB}{H:Hp}
theorem Fp {ls:Da}{v:V}(h:Dt K H (Th.leaf ls).dat v):∃a b,v=.ref a/\xj K H a [.str "leaf",.ref b]/\xj K H b (ls.map V.str):=by
 obtain⟨a,o,rfl,f,j,l,rfl,c,n,i,rfl,⟨b,p,rfl,e,g⟩,d⟩:=h;have c:j=.str "leaf":=c;have d:i=[]:=d;subst c d;rw[zc.vK g]at e;exact⟨a,b,rfl,f,e⟩
theorem FJ {rs:Dg}{v:V}(h:Dt K H (Th.tree rs).dat v):∃a b,v=.ref a/\xj K H a [.str "tree",.ref b]/\Dt K H (.tuple<|rs.map zm) (.ref b):=by
 obtain⟨a,p,rfl,f,j,n,rfl,c,o,i,rfl,⟨b,l,rfl,e,g⟩,d⟩:=h;have c:j=.str "tree":=c;have d:i=[]:=d;subst c d;exact⟨a,b,rfl,f,b,l,rfl,e,g⟩
theorem jM {t:Str}{ps:Da}{w:Str}{v:V}(h:Dt K H (Th.note t ps w).dat v):∃a b,v=.ref a/\xj K H a [.str "note",.str t,.ref b,.str w]/\xj K H b (ps.map V.str):=by
 obtain⟨a,x,rfl,i,n,q,rfl,c,o,r,rfl,d,u,s,rfl,⟨b,y,rfl,g,j⟩,p,l,rfl,e,f⟩:=h;have c:n=.str "note":=c;have d:o=.str t:=d;have e:p=.str w:=e;have f:l=[]:=f;subst c d e f;rw[zc.vK j]at g;exact⟨a,b,rfl,i,g⟩
theorem j6 {t:Th}(h:Dt K H t.dat v):∃a r,v=.ref a/\xj K H a (.str t.word::r):=by
 cases t with
 |leaf ls=>obtain⟨a,b,e,c,_⟩:=Fp h;exact⟨a,_,e,c⟩
 |tree rs=>obtain⟨a,b,e,c,_⟩:=FJ h;exact⟨a,_,e,c⟩
 |note t ps w=>obtain⟨a,b,e,c,_⟩:=jM h;exact⟨a,_,e,c⟩
theorem T5 (h:Dt K H (zm r) v):∃a,v=.ref a/\xj K H a [.str r.1,.str r.2]:=by
 obtain⟨a,l,rfl,e,g,j,rfl,b,i,f,rfl,c,d⟩:=h;have b:g=.str r.1:=b;have c:i=.str r.2:=c;have d:f=[]:=d;subst b c d;exact⟨a,rfl,e⟩
theorem HS {rs:Dg}{i:Nat}{x:V}(h:zc K H (rs.map zm) xs)(e:xs[i]?=some x):∃r a,rs[i]?=some r/\x=.ref a/\xj K H a [.str r.1,.str r.2]:=by
 obtain⟨d,b,c⟩:=h.get e;rw[ZF]at b;cases q:rs[i]? with
 |none=>rw[q]at b;cases b
 |some r =>
  rw[q]at b;have b:zm r=d:=Option.some.inj b;subst b;obtain⟨a,f,g⟩:=T5 c;exact⟨r,a,rfl,f,g⟩
end
def ID (K:CB):Sp:=λvs H Q _=>∃v t,vs=[v]/\Dt K H (Th.dat t) v/\Q (.str t.letter) H
def XW (K:CB):Sp:=λvs H Q _=>∃v b,vs=[v]/\Dt K H (.tuple<|b.map zm) v/\b.length<=1000/\∀l,H l=none->Q (.ref l) (upd H l<|.lst<|(yA b).map V.str)
def Nd (K:CB):Sp:=λvs H Q _=>∃v t,vs=[v]/\Dt K H (Th.dat t) v/\t.Good/\∀l b,zy H b->H l=none->b l=some (.lst<|t.parts.map V.str)->Q (.ref l) b
def Br:Sp:=λvs H Q _=>∃x,vs=[.str x]/\x.length<=1000/\Q (.str<|counted x) H
def Bw (K:CB):Sp:=λvs H Q _=>∃v t,vs=[v]/\Dt K H (Th.dat t) v/\t.Good/\∀b,zy H b->Q (.str t.sp) b
def HZ (K:CB):Sp:=λvs H Q _=>∃v t,vs=[v]/\Dt K H (Th.dat t) v/\t.Good/\∀b,zy H b->Q (.int<|dg t.sp) b
structure Txt (P:D3)(w:D6)(K:CB)(mg:Str->Dc)(t1 t2 t3 t4 t5 t6 t7:Tok)(aL aC aD fP:D1):Prop where
 len:mg "len"=none
 all:mg "all"=none
 ord:mg "ord"=none
 isinstance:mg "isinstance"=none
 str:mg "str"=none
 set:mg "set"=none
 sorted:mg "sorted"=none
 tuple:mg "tuple"=none
 list:mg "list"=none
 max:mg "max"=none
 int:mg "int"=none
 bool:mg "bool"=none
 range:mg "range"=none
 dict:mg "dict"=none
 any:mg "any"=none
 tQ:mg "LONGEST_LINE"=some (.int 20 t1)
 tX:mg "LONGEST_LABEL"=some (.int 8 t2)
 tR:mg "MOST_PARENTS"=some (.int 2 t3)
 PERCENT:mg "PERCENT"=some (.int 37 t4)
 rY:mg "MOST_LABELS"=some (.int 4 t7)
 tY:mg "DIGEST_FACTOR"=some (.int 31 t5)
 sY:mg "DIGEST_BOUND"=some (.int 97 t6)
 uz:mg "parents_in"=some (.ref fP)
 LETTERS:mg "LETTERS"=some (.ref aL)
 m9:mg "Annals"=some (.ref aD)
 lZ:mg "Shelf"=some (.ref aC)
 wX:Cls K aD
 m1:wB K aD "shelf"
 m2:wB K aD "heads"
 kd:KD P w K aL xE
 cls:Cls K aC
 n1:wB K aC "thing_by_name"
 n2:wB K aC "name_by_thing"
 n3:wB K aC "next_numbers"
 kit:∀a∈kinds,∀b∈kinds,Ln K (.type a) (.type b)=some (a==b||(a=="bool"&&b=="int"))
theorem Pg (d:Ea):Xq d∈kinds:=by cases d<;>simp[Xq,kinds]
def Oc:Ea->Str
 | .str x=>x
 |_=>""
def HH:Ea->Bool
 | .tuple ds=>ds.all Xj&&(decide (ds.length<=2)&&decide ((AxS.uniq<|ds.map Oc).length=ds.length))
 |_=>false
inductive rK (K:CB)(vs:Dj)(H:Hp)(Q:VK)(e3:XK):Prop
 |mk (d:Ea) (v:V) (h0:vs=[v]) (h1:Dw K H d v) (h2:small d=true) (h3:∀H',zy H H'->Q (.bl<|HH d) H'):rK K vs H Q e3
theorem Kj {K:CB}:∀{ds:Df} {xs:Dj},wW K H ds xs->ds.all Xj=true->xs=(ds.map Oc).map V.str
 |[],_,h,_=>by rw[show _=[] from h];rfl
 | .str x::ds,_,⟨v,r,e,hv,hr⟩,h=>by
  rw[List.all_cons,ZG]at h;rw[e,Kj hr h.2,show v=V.str x from hv];rfl
 | .none::_,_,_,h=>by cases h
 | .bool _::_,_,_,h=>by cases h
 | .int _::_,_,_,h=>by cases h
 | .list _::_,_,_,h=>by cases h
 | .tuple _::_,_,_,h=>by cases h
 | .dict _::_,_,_,h=>by cases h
def Xg:Ea->Str
 | .tuple (.str l::_)=>l
 |_=>""
def Bb:Ea->Bool
 | .tuple ds=>ds.all Xl&&Xm (ds.map Xg)
 |_=>false
inductive rE (K:CB)(vs:Dj)(H:Hp)(Q:VK)(e3:XK):Prop
 |mk (d:Ea) (v:V) (h0:vs=[v]) (h1:Dw K H d v) (h2:small d=true) (h3:(∀ds,d=.tuple ds->ds.length<=63)) (h4:∀H',zy H H'->Q (.bl<|Bb d) H'):rE K vs H Q e3
theorem Nb {K:CB}(h:Dw K H d v)(r:Xl d=true):∃(t:D1) (y:V),v=.ref t/\xj K H t [.str<|Xg d,y]/\zU (Xg d)=true:=by
 match d,r with
 | .tuple [l,n],r =>
  have r:(jY l&&Xj n)=true:=r;rw[ZG]at r;obtain⟨t,p,rfl,c,g,o,rfl,b,i,f,rfl,j,e⟩:=h;have e:f=[]:=e;subst e;cases l with
  |str x=>cases(show g=_ from b);exact⟨t,i,rfl,c,r.1⟩
  |none=>cases r.1
  |bool _=>cases r.1
  |int _=>cases r.1
  |list _=>cases r.1
  |tuple _=>cases r.1
  |dict _=>cases r.1
theorem G5 (h:zU x=true):D9 x=true:=by
 unfold zU at h;rw[ZG]at h;rw[yJ];intro c b;have:=Z9.mp h.2 c b;unfold Xc at this;rw[ZG]at this;have:=ZJ this.2;lia
def Np (b:Df)(i:Nat):PyData:=(b[i]?).getD .none
def Xf (word:Str)(b:Df):Bool:=decide (word="leaf")&&(decide (b.length=1)&&uK (Np b 0))
def Xd (word:Str)(b:Df):Bool:=decide (word="tree")&&(decide (b.length=1)&&Bb (Np b 0))
inductive uo (K:CB)(b:Str->Df->Bool)(vs:Dj)(H:Hp)(Q:VK)(e3:XK):Prop
 |mk (word:Str) (a:D1) (ds:Df) (xs:Dj) (h0:vs=[.str word,.ref a]) (h1:xj K H a xs) (h2:wW K H ds xs) (h3:yC ds=true) (h4:ds.length<=63) (h5:(∀e∈ds,∀es,e=.tuple es->es.length<=63)) (h6:∀H',zy H H'->Q (.bl<|b word ds) H'):uo K b vs H Q e3
def Pl (word:Str)(b:Df):Bool:=decide (word="note")&&(decide (b.length=3)&&(Xj (Np b 0)&&(HH (Np b 1)&&Xe (Np b 2))))
def Wn:Ea->Bool
 | .tuple (.str word::ds)=>Xf word ds||(Xd word ds||Pl word ds)
 |_=>false
def narrow (d:Ea):Prop:=∀b,d=.tuple b->b.length<=63/\∀e∈b,∀c,e=.tuple c->c.length<=63
def kS (t:Th):Prop:=t.Good/\Wn t.dat=true/\small t.dat=true/\narrow t.dat
inductive uw (K:CB)(vs:Dj)(H:Hp)(Q:VK)(e3:XK):Prop
 |mk (t:Th) (v:V) (h0:vs=[v]) (h1:Dt K H t.dat v) (h2:kS t) (h3:∀H',zy H H'->Q (.bl true) H'):uw K vs H Q e3
inductive rC (K:CB)(vs:Dj)(H:Hp)(Q:VK)(e3:XK):Prop
 |mk (t:Th) (v:V) (h0:vs=[v]) (h1:Dt K H t.dat v) (h2:kS t) (h3:∀H',zy H H'->Q v H'):rC K vs H Q e3
inductive pB (K:CB)(vs:Dj)(H:Hp)(Q:VK)(e3:XK):Prop
 |mk (a:D1) (ps:Da) (h0:vs=[.ref a]) (h1:xj K H a<|ps.map V.str) (h2:ps.length<=2) (h3:(AxS.uniq ps).length=ps.length) (h4:∀H',zy H H'->Q (.bl true) H'):pB K vs H Q e3
inductive sW (K:CB)(vs:Dj)(H:Hp)(Q:VK)(e3:XK):Prop
 |mk (a b:D1) (x:Str) (ps:Da) (y:Str) (h0:vs=[.str "note",.ref a]) (h1:xj K H a [.str x,.ref b,.str y]) (h2:xj K H b<|ps.map V.str) (h3:ps.length<=2) (h4:(AxS.uniq ps).length=ps.length) (h5:UZ y=true) (h6:∀H',zy H H'->Q (.bl true) H'):sW K vs H Q e3
inductive oW (e0:Dj)(e1:Hp)(e2:VK)(e3:XK):Prop
 |mk  (h0:False):oW e0 e1 e2 e3
def Fe (S:Di):Ea->Bool
 | .str x=>decide (x∈S.map En.nm)
 |_=>false
inductive rR (P:D3)(w:D6)(K:CB)(C:D1)(vs:Dj)(H:Hp)(Q:VK)(e3:XK):Prop
 |mk (a:D1) (fp:Dd) (S:Di) (e:En) (t:D1) (h0:vs=[.ref a,.str e.nm,.ref t]) (h1:yg P w K C H a fp S) (h2:pK e) (h3:Dt K H e.d<|.ref t) (h4:e.d∉S.map (·.d)) (h5:e.nm∉S.map En.nm) (h6:S.length<2000) (h7:∀H',Off fp H H'->yg P w K C H' a fp (S++[e])->Q .non H'):rR P w K C vs H Q e3
inductive tO (P:D3)(w:D6)(K:CB)(C:D1)(vs:Dj)(H:Hp)(Q:VK)(e3:XK):Prop
 |mk (a:D1) (fp:Dd) (S:Di) (h0:vs=[.ref a]) (h1:yg P w K C H a fp S) (h2:∀l,H l=none->Q (.ref l) (upd H l<|.lst<|S.map λe=>V.str e.nm)):tO P w K C vs H Q e3
def WO (Dm:Dl):Ea->Bool
 | .str x=>(UP Dm (D8 x:Key)).isSome
 |_=>false
inductive rA (K:CB)(vs:Dj)(H:Hp)(Q:VK)(e3:XK):Prop
 |mk (d1:D1) (Dm:Dl) (d:Ea) (v:V) (h0:vs=[.ref d1,v]) (h1:H d1=some (.dK Dm)) (h2:Dw K H d v) (h3:Q (.bl<|WO Dm d) H):rA K vs H Q e3
inductive vA (P:D3)(w:D6)(K:CB)(C:D1)(vs:Dj)(H:Hp)(Q:VK)(e3:XK):Prop
 |mk (a:D1) (fp:Dd) (S:Di) (d:Ea) (v:V) (h0:vs=[.ref a,v]) (h1:yg P w K C H a fp S) (h2:Dw K H d v) (h3:Fe S d=true) (h4:Q .non H):vA P w K C vs H Q e3
inductive qt (P:D3)(w:D6)(K:CB)(C:D1)(vs:Dj)(H:Hp)(Q:VK)(e3:XK):Prop
 |mk (a:D1) (fp:Dd) (S:Di) (d:Ea) (v:V) (h0:vs=[.ref a,v]) (h1:yg P w K C H a fp S) (h2:Dw K H d v) (h3:Q (.bl<|Fe S d) H):qt P w K C vs H Q e3
inductive wu (P:D3)(w:D6)(K:CB)(C:D1)(vs:Dj)(H:Hp)(Q:VK)(e3:XK):Prop
 |mk (a:D1) (fp:Dd) (S:Di) (d:Ea) (v:V) (h0:vs=[.ref a,v]) (h1:yg P w K C H a fp S) (h2:Dw K H d v) (h3:Fe S d=true) (h4:∀e∈S,d=.str e.nm->∀t,Dt K H e.d (.ref t)->Q (.ref t) H):wu P w K C vs H Q e3
inductive tM (P:D3)(w:D6)(K:CB)(C:D1)(vs:Dj)(H:Hp)(Q:VK)(e3:XK):Prop
 |mk (a f:D1) (fp:Dd) (S:Di) (x:Str) (ws:Da) (h0:vs=[.ref a,.str x,.ref f]) (h1:yg P w K C H a fp S) (h2:(∀e∈S,X1 e)) (h3:xj K H f<|ws.map V.str) (h4:(∀y∈ws,D9 y=true)) (h5:z9 S x ws=true) (h6:Q .non H):tM P w K C vs H Q e3
inductive tE (P:D3)(w:D6)(K:CB)(C:D1)(vs:Dj)(H:Hp)(Q:VK)(e3:XK):Prop
 |mk (a:D1) (fp:Dd) (S:Di) (t:Th) (v:V) (h0:vs=[.ref a,v]) (h1:yg P w K C H a fp S) (h2:(∀e∈S,X1 e)) (h3:Dt K H t.dat v) (h4:namesOk S t=true) (h5:∀H',zy H H'->Q .non H'):tE P w K C vs H Q e3
def Ta (P:D3)(w:D6)(K:CB)(C:D1)(H:Hp)(a:D1)(fp:Dd)(S:Di)(t:Th)(c:Hp)(b:Di)(e:En):Prop :=
 Off fp H c/\yg P w K C c a fp b/\e∈b/\e.d=t.dat/\(b=S\/(b=S++[e]/\e=G2 S t/\t.dat∉S.map (·.d)))
inductive vD (P:D3)(w:D6)(K:CB)(C:D1)(vs:Dj)(H:Hp)(Q:VK)(e3:XK):Prop
 |mk (a:D1) (fp:Dd) (S:Di) (t:Th) (v:V) (h0:vs=[.ref a,v]) (h1:yg P w K C H a fp S) (h2:(∀e∈S,X1 e)) (h3:Dt K H t.dat v) (h4:kS t) (h5:S.length<2000) (h6:(∀h,(yd S h).getD 0<1000000)) (h7:namesOk S t=true) (h8:∀H2 S' e,Ta P w K C H a fp S t H2 S' e->Q (.str e.nm) H2):vD P w K C vs H Q e3
inductive rQ (P:D3)(w:D6)(K:CB)(C:D1)(vs:Dj)(H:Hp)(Q:VK)(e3:XK):Prop
 |mk (x dx:D1) (h0:vs=[.ref x,.non]) (h1:H x=some (.ins C dx [])) (h2:H dx=some (.own x)) (h3:dx≠x) (h4:∀fp H',(∀c∈fp,c=x\/c=dx\/H c=none)->Off [x] H H'->yg P w K C H' x fp []->Q .non H'):rQ P w K C vs H Q e3
section
variable {P:D3}{w:D6}{K:CB}{mg:Str->Dc}{base:Ej}{t1 t2 t3 t4 t5 t6 t7:Tok}{aL aC aD fP:D1}(T:Txt P w K mg t1 t2 t3 t4 t5 t6 t7 aL aC aD fP)
theorem Txt.is {T:String}(t:Txt P w K mg t1 t2 t3 t4 t5 t6 t7 aL aC aD fP)(b:T∈kinds):Ln K (.type<|Xq d) (.type T)=some (Xq d==T||(Xq d=="bool"&&T=="int")):=t.kit _ (Pg d) _ b
namespace Aa
abbrev st:Stmt:=top 19
theorem sc:zz ["sign"] ["sign"] (zF st):=CI
include T in
theorem ok (F:yc0 K "is_sign" st f fd):zj P w K mg base CG 1 f fd ["sign"] Rg:=by
 refine F.ok sc λ_ _ _ _ H vs Q E g h=>?_;obtain⟨c,rfl,k⟩:=h;refine⟨_,(zE<|zL<|yZ (II BW BW zr (pv 0) zr)<|xN<|yI MW (zM FR (by rfl) T.ord PyProof.Rows.boot_ord<|zA (pv 0) zC) (qH (v:=.int 37) rfl T.PERCENT ⟨_,rfl⟩)<|z4 _),?_⟩;refine⟨_,rfl,_,_,rfl,rfl,_,rfl,?_⟩;rw[OX c 32 " "<|by decide+kernel];refine U0 (λb=>?_)<|λb=>?_
 .refine⟨_,_,rfl,rfl,_,rfl,?_⟩;rw[one_le c 126 "~"<|by decide+kernel];refine U0 (λd=>?_)<|λd=>?_
  .refine⟨_,rfl,_,rfl,rfl,rfl,?_⟩;have e:U7 c=!decide (V.int (((⟨#[c]⟩:Str).cps.getD 0 0:Nat):Int)=V.int 37):=by
    unfold U7;rw[b,d];show decide (c≠37)=!decide (V.int (c:Int)=V.int 37);rw[eq_comm];exact Fv ⟨λh z=>h (by rw[z];rfl),λh z=>h (by injection z with z;lia)⟩
   rw[e]at k;exact k
  .have e:U7 c=false:=by
    unfold U7;rw[b,JO.mpr d];rfl
   rw[e]at k;exact k
 .have e:U7 c=false:=by
   unfold U7;rw[JO.mpr b];rfl
  rw[e]at k;exact⟨_,rfl,k⟩
end Aa
namespace Ab
abbrev st:Stmt:=top 20
theorem sc:zz ["thing"] ["thing"] (zF st):=CI
include T in
theorem ok (F:yc0 K "is_line" st f fd)(q:yo P w K mg base 1 "is_sign" ["sign"] Rg):zj P w K mg base CG 2 f fd ["thing"] (FD K):=by
 refine F.ok sc λ_ _ _ _ H vs Q E s h=>?_;obtain⟨d,v,rfl,hd,u,k⟩:=h;refine⟨_,(zE<|zL<|yZ (zM (zZ (K:=K)) (by rfl) T.isinstance Z1<|zA (pv 0)<|zA (yW (v:=.ty "str") rfl T.str Yk rfl) zC)<|yZ (yI HE (zM qQ (by rfl) T.len Yr<|zA (pv 0) zC) (qH (v:=.int 20) rfl T.tQ ⟨_,rfl⟩)<|z4 _)<|xN<|zM (jC rfl) (by rfl) T.all Jo<|zA (xF (sc:=zF st) (N:=["thing"]) (N':=["sign"]) (src:=[none]) .a rfl rfl rfl (K2<|pv 0) (λ_ _ _ _=>(zO (i:=0) (show(["sign"]:Da).Nodup by decide+kernel) rfl (Et rfl))) (λ_ _ _ _=>qA) (λ_ _ _ _=>(zG q s.m<|zA (pv 0) zC))) zC),?_⟩;refine⟨_,rfl,_,_,d,_,rfl,hd,T.is<|by simp[kinds],_,rfl,?_⟩;cases d with
 |str x =>
  cases(show v=_ from hd);have A:x.length<=1000:=ZJ u;refine UV ⟨_,rfl,x,rfl,zx<|by lia,_,_,rfl,rfl,_,rfl,U0 (λg=>?_)<|λg=>?_⟩
  .have g:x.length<=20:=by have:=ZJ g;lia
   refine⟨_,rfl,_,rfl,Bx (λi l n j=>∃o,n=[o]/\j=H/\l=(((cs x).take i).map U7).map V.bl) ⟨none,rfl,rfl,rfl⟩ (zx<|by lia) ?_ ?_ ?_⟩
   .rintro i l n j y ⟨o,rfl,rfl,rfl⟩;rw[Zu,Zu,Z3];lia
   .rintro i c l n j r ⟨o,rfl,rfl,rfl⟩;refine⟨_,rfl,c,rfl,_,rfl,rfl,?_⟩;rw[y9<|Os r,ZH];rfl
   .rintro l n j ⟨o,rfl,rfl,rfl⟩ p t;refine⟨p,_,rfl,yj.of zB,?_⟩;rw[zf,Ya,all_map];have e:Xe (.str x)=(cs x).all U7:=by
     show(decide (x.length<=20)&&(cs x).all U7)=_;rw[Zz g];rfl
    rw[e]at k;exact k _<|zI t
  .have e:Xe (.str x)=false:=by
    show(decide (x.length<=20)&&(cs x).all U7)=_;rw[ZP<|λz=>g<|Zz<|by lia];rfl
   rw[e]at k;exact k _<|zy.refl _
 |none=>exact UQ<|k _<|zy.refl _
 |bool b=>exact UQ<|k _<|zy.refl _
 |int i=>exact UQ<|k _<|zy.refl _
 |list ds=>exact UQ<|k _<|zy.refl _
 |tuple ds=>exact UQ<|k _<|zy.refl _
 |dict Dm=>exact UQ<|k _<|zy.refl _
end Ab
namespace Ac
abbrev st:Stmt:=top 21
theorem sc:zz ["thing"] ["thing"] (zF st):=CI
include T in
theorem ok (F:yc0 K "is_lines" st f fd)(r:yo P w K mg base 2 "is_line" ["thing"]<|FD K):zj P w K mg base CG 3 f fd ["thing"] (FE K):=by
 refine F.ok sc λ_ _ _ _ H vs Q E u h=>?_;obtain⟨d,v,rfl,hd,A,k⟩:=h;refine⟨_,(zE<|zL<|yZ (zM (zZ (K:=K)) (by rfl) T.isinstance Z1<|zA (pv 0)<|zA (yW (v:=.ty "tuple") rfl T.tuple YJ rfl) zC)<|xN<|zM (jC rfl) (by rfl) T.all Jo<|zA (xF (sc:=zF st) (N:=["thing"]) (N':=["line"]) (src:=[none]) .a rfl rfl rfl (jV<|pv 0) (λ_ _ _ _=>(zO (i:=0) (show(["line"]:Da).Nodup by decide+kernel) rfl (Et rfl))) (λ_ _ _ _=>qA) (λ_ _ _ _=>(zG r u.m<|zA (pv 0) zC))) zC),?_⟩;refine⟨_,rfl,_,_,d,_,rfl,hd,T.is<|by simp[kinds],_,rfl,?_⟩;cases d with
 |tuple ds =>
  obtain⟨a,xs,rfl,n,l⟩:=hd;obtain⟨D,sa⟩:=qI A;have q:=l.length;refine UV ⟨_,rfl,a,rfl,⟨_,n⟩,j5 (K:=K) (a:=a) (xs:=xs) (λi g j e=>∃o,j=[o]/\zy H e/\g=((ds.take i).map Xe).map V.bl) ⟨none,rfl,zy.refl _,rfl⟩ (zx<|by lia) ?_ ?_ ?_⟩
  .rintro i g j e C ⟨o,rfl,c,rfl⟩;refine⟨c.yh n,?_⟩;rw[Zu,Zu,Z3];lia
  .rintro i x g j e y ⟨o,rfl,c,rfl⟩;obtain⟨d,hd,s⟩:=l.get y;refine⟨_,rfl,d,x,rfl,s.same c,yX sa hd,λB t=>⟨_,rfl,c.trans t,?_⟩⟩;rw[y9 hd,ZH];rfl
  .rintro g j e ⟨o,rfl,c,rfl⟩ p z;refine⟨p,_,rfl,yj.of zB,?_⟩;rw[q,Ya,all_map];exact k _<|c.trans<|zI z
 |none=>exact UQ<|k _<|zy.refl _
 |bool b=>exact UQ<|k _<|zy.refl _
 |int i=>exact UQ<|k _<|zy.refl _
 |list ds=>exact UQ<|k _<|zy.refl _
 |str x=>exact UQ<|k _<|zy.refl _
 |dict Dm=>exact UQ<|k _<|zy.refl _
end Ac
namespace Ad
abbrev st:Stmt:=top 22
theorem sc:zz ["thing"] ["thing"] (zF st):=CI
include T in
theorem ok (F:yc0 K "is_label" st f fd):zj P w K mg base CG 1 f fd ["thing"] (Iz K):=by
 refine F.ok sc λ_ _ _ _ H vs Q E A h=>?_;obtain⟨d,v,rfl,hd,u,k⟩:=h;refine⟨_,(zD (yD (y6<|zS (K:=K)<|zM (zZ (K:=K)) (by rfl) T.isinstance Z1<|zA (pv 0)<|zA (yW (v:=.ty "str") rfl T.str Yk rfl) zC) (zE<|zL qY) zP)<|zE<|zL<|yZ (II HE HE zJ (zM qQ (by rfl) T.len Yr<|zA (pv 0) zC)<|qH (v:=.int 8) rfl T.tX ⟨_,rfl⟩)<|xN<|zM (jC rfl) (by rfl) T.all Jo<|zA (xF (sc:=zF st) (N:=["thing"]) (N':=["sign"]) (src:=[none]) .a rfl rfl rfl (K2<|pv 0) (λ_ _ _ _=>(zO (i:=0) (show(["sign"]:Da).Nodup by decide+kernel) rfl (Et rfl))) (λ_ _ _ _=>qA) (λ_ _ _ _=>(II BW BW zr (pv 0) zr))) zC),?_⟩
 refine⟨_,rfl,_,_,d,_,rfl,hd,T.is<|by simp[kinds],_,rfl,?_⟩;cases d with
 |str x =>
  cases(show v=_ from hd);have B:x.length<=1000:=ZJ u;refine UQ ?_;refine⟨_,rfl,x,rfl,zx<|by lia,_,_,rfl,rfl,_,rfl,U0 (λg=>?_)<|λg=>?_⟩
  .refine⟨_,_,rfl,rfl,_,rfl,U0 (λj=>?_)<|λj=>?_⟩
   .have g:1<=x.length:=by have:=ZJ g;lia
    have j:x.length<=8:=by have:=ZJ j;lia
    refine⟨_,rfl,_,rfl,Bx (λi n q l=>∃o,q=[o]/\l=H/\n=(((cs x).take i).map Xc).map V.bl) ⟨none,rfl,rfl,rfl⟩ (zx<|by lia) ?_ ?_ ?_⟩
    .rintro i n q l y ⟨o,rfl,rfl,rfl⟩;rw[Zu,Zu,Z3];lia
    .rintro i c n q l s ⟨o,rfl,rfl,rfl⟩;rw[y9<|Os s,ZH];refine⟨_,rfl,_,_,rfl,rfl,_,rfl,?_⟩;rw[OX c 97 "a"<|by decide+kernel];refine U0 (λr=>?_)<|λr=>?_
     .refine⟨_,_,rfl,rfl,?_⟩;rw[one_le c 122 "z"<|by decide+kernel];have e:Xc c=decide (c<=122):=by unfold Xc;rw[r];rfl
      rw[e];exact⟨_,rfl,rfl,rfl⟩
     .have e:Xc c=false:=by unfold Xc;rw[JO.mpr r];rfl
      rw[e];exact⟨_,rfl,rfl,rfl⟩
    .rintro n q l ⟨o,rfl,rfl,rfl⟩ p t;refine⟨p,_,rfl,yj.of zB,?_⟩;rw[zf,Ya,all_map];have e:jY (.str x)=(cs x).all Xc:=by
      show(decide (1<=x.length)&&decide (x.length<=8)&&(cs x).all Xc)=_;rw[Zz g,Zz j];rfl
     rw[e]at k;exact k _<|zI t
   .have e:jY (.str x)=false:=by
     show(decide (1<=x.length)&&decide (x.length<=8)&&(cs x).all Xc)=_;rw[ZP (p:=x.length<=8)<|λz=>j<|Zz<|by lia,Js];rfl
    rw[e]at k;exact k _<|zy.refl _
  .have e:jY (.str x)=false:=by
    show(decide (1<=x.length)&&decide (x.length<=8)&&(cs x).all Xc)=_;rw[ZP (p:=1<=x.length)<|λz=>g<|Zz<|by lia];rfl
   rw[e]at k;exact⟨_,rfl,k _<|zy.refl _⟩
 |none=>exact UV<|k _<|zy.refl _
 |bool b=>exact UV<|k _<|zy.refl _
 |int i=>exact UV<|k _<|zy.refl _
 |list ds=>exact UV<|k _<|zy.refl _
 |tuple ds=>exact UV<|k _<|zy.refl _
 |dict Dm=>exact UV<|k _<|zy.refl _
end Ad
namespace Ae
abbrev st:Stmt:=top 23
theorem sc:zz ["thing"] ["thing"] (zF st):=CI
include T in
theorem ok (F:yc0 K "is_row" st f fd)(s:yo P w K mg base 1 "is_label" ["thing"]<|Iz K):zj P w K mg base CG 2 f fd ["thing"] (SX K):=by
 refine F.ok sc λ_ _ _ _ H vs Q E t h=>?_;obtain⟨d,v,rfl,hd,u,k⟩:=h;refine⟨_,(zE<|zL<|yZ (zM (zZ (K:=K)) (by rfl) T.isinstance Z1<|zA (pv 0)<|zA (yW (v:=.ty "tuple") rfl T.tuple YJ rfl) zC)<|yZ (yI qM (zM z5 (by rfl) T.len Yr<|zA (pv 0) zC) zJ<|z4 _)<|yZ (zG s t.m<|zA (z7 (za:CM _<|xu K) (pv 0) zJ) zC)<|xN<|zM (zZ (K:=K)) (by rfl) T.isinstance Z1<|zA (z7 (za:CM _<|xu K) (pv 0) zJ)<|zA (yW (v:=.ty "str") rfl T.str Yk rfl) zC),?_⟩;refine⟨_,rfl,_,_,d,_,rfl,hd,T.is<|by simp[kinds],_,rfl,?_⟩;cases d with
 |tuple ds =>
  obtain⟨a,y,rfl,p,r⟩:=hd;obtain⟨B,sa⟩:=qI u;have q:=r.length;refine UV ⟨_,rfl,a,_,rfl,.inr p,rfl,_,rfl,U0 (λc=>?_)<|λc=>?_⟩
  .have c:y.length=2:=by have:=ZJ c;injection this with z;lia
   match ds,r,q,sa,k with
   |[l,n],⟨x0,r0,e0,d0,x1,r1,e1,d1,j⟩,_,sa,k =>
    have j:r1=[]:=j;subst j e1 e0;refine⟨_,rfl,a,_,_,_,rfl,rfl,p,rfl,l,_,rfl,d0,yX (i:=0) sa rfl,λA g=>⟨_,rfl,U0 (λo=>?_)<|λo=>?_⟩⟩
    .refine⟨_,rfl,a,_,_,_,rfl,rfl,g.yh p,rfl,_,_,n,_,rfl,d1.same g,T.is<|by simp[kinds],?_⟩;have e:Xl (.tuple [l,n])=(Xq n=="str"||(Xq n=="bool"&&"str"=="int")):=by
      show(jY l&&Xj n)=_;rw[o];cases n<;>rfl
     rw[e]at k;exact k _ g
    .have e:Xl (.tuple [l,n])=false:=by
      show(jY l&&Xj n)=_;rw[JO.mpr o];rfl
     rw[e]at k;exact k _ g
   |[],_,hl,_,_=>exact absurd (hl.symm.trans c) (by simp)
   |[_],_,hl,_,_=>exact absurd (hl.symm.trans c) (by simp)
   |_::_::_::_,_,hl,_,_=>exact absurd (hl.symm.trans c) (by simp)
  .have e:Xl (.tuple ds)=false:=by
    match ds,q with
    |[_,_],hl=>exact absurd (Zz (by rw[hl];rfl)) c
    |[],_=>rfl
    |[_],_=>rfl
    |_::_::_::_,_=>rfl
   rw[e]at k;exact k _<|zy.refl _
 |none=>exact UQ<|k _<|zy.refl _
 |bool b=>exact UQ<|k _<|zy.refl _
 |int i=>exact UQ<|k _<|zy.refl _
 |list ds=>exact UQ<|k _<|zy.refl _
 |str x=>exact UQ<|k _<|zy.refl _
 |dict Dm=>exact UQ<|k _<|zy.refl _
end Ae
namespace Ag
abbrev st:Stmt:=top 25
theorem sc:zz ["thing"] ["thing"] (zF st):=CI
include T in
theorem ok (F:yc0 K "is_parents" st f fd):zj P w K mg base CG 1 f fd ["thing"] (pB K):=by
 refine F.ok sc λ_ _ _ _ H vs Q E B h=>?_;obtain⟨a,c,rfl,d,C,un,k⟩:=h;refine⟨_,(zD (yD (PW.pt<|IX (y6<|zS (K:=K)<|zM (zZ (K:=K)) (by rfl) T.isinstance Z1<|zA (pv 0)<|zA (yW (v:=.ty "tuple") rfl T.tuple YJ rfl) zC)<|Xu<|y6<|zS (K:=K)<|zM (jC rfl) (by rfl) T.all Jo<|zA (xF (sc:=zF st) (N:=["thing"]) (N':=["name"]) (src:=[none]) .a rfl rfl rfl (jV<|pv 0) (λ_ _ _ _=>(zO (i:=0) (show(["name"]:Da).Nodup by decide+kernel) rfl (Et rfl))) (λ_ _ _ _=>qA) (λ_ _ _ _=>(zM (zZ (K:=K)) (by rfl) T.isinstance Z1<|zA (pv 0)<|zA (yW (v:=.ty "str") rfl T.str Yk rfl) zC))) zC) (zE<|zL qY) zP) (zE<|zL<|yZ (yI HE (zM z5 (by rfl) T.len Yr<|zA (pv 0) zC) (qH (v:=.int 2) rfl T.tR ⟨_,rfl⟩)<|z4 _)<|xN<|yI qM (zM Nt (by rfl) T.len Yr<|zA (zT (FS (K:=K) rfl) (by rfl) T.set JG (zA (pv 0) zC)) zC) (zM z5 (by rfl) T.len Yr<|zA (pv 0) zC) (z4 _))),?_⟩
 refine⟨_,rfl,_,_,.tuple<|c.map .str,_,rfl,Dt.dw ⟨a,_,rfl,d,zc.strs _⟩,T.is<|by simp[kinds],_,rfl,UQ ?_⟩;refine⟨_,rfl,a,rfl,⟨_,d⟩,j5 (K:=K) (a:=a) (xs:=c.map V.str) (λi g j e=>∃o,j=[o]/\e=H/\g=EY i (V.bl true)) ⟨none,rfl,rfl,rfl⟩ (zx (by rw[Zu];lia)) ?_ ?_ ?_⟩
 .rintro i g j e z ⟨o,rfl,rfl,rfl⟩;exact⟨d,Vk List.length_replicate⟩
 .rintro i x g j e l ⟨o,rfl,rfl,rfl⟩;rw[ZF]at l;obtain⟨p,A,rfl⟩:=Z0.mp l;refine⟨_,rfl,_,_,.str p,_,rfl,rfl,T.is<|by simp[kinds],_,rfl,rfl,?_⟩;exact(List.replicate_succ' (n:=i) (a:=V.bl true)).symm
 .rintro g j e ⟨o,rfl,rfl,rfl⟩ p y;rw[Zu,show EY c.length (V.bl true)=(EY c.length true).map V.bl by rw[List.map_replicate]];refine⟨p,_,rfl,yj.of zB,?_⟩;have u:=zI (o:=.lst<|(EY c.length true).map V.bl) y;have s:(EY c.length true).all id=true:=by rw[Z9];intro b t;exact List.eq_of_mem_replicate t
  rw[s];refine⟨_,rfl,UQ ⟨_,rfl,a,_,rfl,.inr<|u.yh d,_,_,rfl,rfl,_,rfl,?_⟩⟩;rw[Zu,show decide (((c.length:Nat):Int)<=2)=true from Zz (by lia)];refine UV ⟨_,rfl,a,c,rfl,.inr<|u.yh d,by lia,λq n2=>?_⟩;have r:=zI (o:=U1 P w q<|AxS.uniq c) n2;refine⟨q,_,rfl,zB,_,rfl,a,_,rfl,.inr<|(u.trans r).yh d,rfl,?_⟩;rw[un,Zu,Zz rfl];exact k _<|u.trans r
end Ag
namespace Ah
abbrev st:Stmt:=top 24
theorem sc:zz ["thing","labels"] ["thing"] (zF st):=CI
include T in
theorem ok (F:yc0 K "is_rows" st f fd)(Z:yo P w K mg base 2 "is_row" ["thing"]<|SX K):zj P w K mg base CG 3 f fd ["thing"] (rE K):=by
 refine F.ok sc λ_ _ _ _ H vs Q E X h=>?_;obtain⟨d,v,rfl,hd,sm,B,k⟩:=h;refine⟨_,(zD (yD (PW.pt<|IX (y6<|zS (K:=K)<|zM (zZ (K:=K)) (by rfl) T.isinstance Z1<|zA (pv 0)<|zA (yW (v:=.ty "tuple") rfl T.tuple YJ rfl) zC)<|Xu<|y6<|zS (K:=K)<|zM (jC rfl) (by rfl) T.all Jo<|zA (xF (sc:=zF st) (N:=["thing","labels"]) (N':=["row"]) (src:=[none]) .a rfl rfl rfl (jV<|pv 0) (λ_ _ _ _=>(zO (i:=0) (show(["row"]:Da).Nodup by decide+kernel) rfl (Et rfl))) (λ_ _ _ _=>qA) (λ_ _ _ _=>(zG Z X.m<|zA (pv 0) zC))) zC) (zE<|zL qY) zP) (zD (Iy (sc:=zF st) (N:=["thing","labels"]) (N':=["row"]) (src:=[none]) .a rfl rfl rfl (jV<|pv 0) (λ_ _ _ _=>(zO (i:=0) (show(["row"]:Da).Nodup by decide+kernel) rfl (Et rfl))) (λ_ _ _ _=>qA) (λ_ _ _ _=>(z7 (za:CM _<|xu K) (pv 0) zJ)) sc.nd rfl (Et rfl) (k:=1)) (zE<|zL<|yI (Fw X.units) (pv 1) (zM (kR rfl) (by rfl) T.sorted JT<|zA (zT (FS (K:=K) rfl) (by rfl) T.set JG (zA (pv 1) zC)) zC) (z4 _)))),?_⟩
 refine⟨_,rfl,_,_,d,_,rfl,hd,T.is<|by simp[kinds],_,rfl,?_⟩;cases d with
 |tuple ds =>
  have B:=B ds rfl;obtain⟨a,xs,rfl,D,J⟩:=hd;obtain⟨sl,sa⟩:=qI sm;have S:=J.length;refine UQ ⟨_,rfl,a,rfl,⟨_,D⟩,j5 (K:=K) (a:=a) (xs:=xs) (λi g n c=>∃o,n=[o]/\zy H c/\g=((ds.take i).map Xl).map V.bl) ⟨none,rfl,zy.refl _,rfl⟩ (zx<|by lia) ?_ ?_ ?_⟩
  .rintro i g n c hi ⟨o,rfl,A,rfl⟩;refine⟨A.yh D,?_⟩;rw[Zu,Zu,Z3];lia
  .rintro i x g n c r ⟨o,rfl,A,rfl⟩;obtain⟨d,hd,I⟩:=J.get r;refine⟨_,rfl,d,x,rfl,I.same A,yX sa hd,λH3 e3=>⟨_,rfl,A.trans e3,?_⟩⟩;rw[y9 hd,ZH];rfl
  .rintro g n c ⟨o,rfl,A,rfl⟩ p np;refine⟨p,_,rfl,yj.of zB,?_⟩;rw[S,Ya,all_map];have u:=A.trans<|zI (o:=.lst<|(ds.map Xl).map V.bl) np;cases q:ds.all Xl with
   |false =>
    have e:Bb (.tuple ds)=false:=by show(ds.all Xl&&_)=false;rw[q];rfl
    rw[e]at k;exact⟨_,rfl,UV<|k _ u⟩
   |true =>
    refine⟨_,rfl,UQ ?_⟩;show Ro _ _ _ _ (upd c p<|.lst<|(ds.map Xl).map V.bl);generalize upd c p (.lst<|(ds.map Xl).map V.bl)=G at u;have C:=wW.same u _ _ J;refine⟨_,rfl,a,rfl,⟨_,u.yh D⟩,j5 (K:=K) (a:=a) (xs:=xs) (λi g n c=>∃o,n=[o]/\c=G/\g=((ds.take i).map Xg).map V.str) ⟨none,rfl,rfl,rfl⟩ (zx<|by lia) ?_ ?_ ?_⟩
    .rintro i g n c hi ⟨o,rfl,rfl,rfl⟩;refine⟨u.yh D,?_⟩;rw[Zu,Zu,Z3];lia
    .rintro i x g n c r ⟨o,rfl,rfl,rfl⟩;obtain⟨d,hd,I⟩:=C.get r;obtain⟨t,y,rfl,ht,_⟩:=Nb I<|Z9.mp q d<|ZN hd;refine⟨_,rfl,t,_,_,_,rfl,rfl,ht,rfl,_,rfl,rfl,?_⟩;have e1:ds.take (i+1)=ds.take i++[d]:=by rw[Ym,hd];rfl
     rw[e1,ZH,ZH];rfl
    .rintro g n c ⟨o,rfl,rfl,rfl⟩ l nl;rw[S,Ya];have v1:=zI (o:=.lst<|(ds.map Xg).map V.str) nl;have ul:=AxS.ug _ (ds.map Xg) rfl;rw[Zu]at ul;refine⟨_,rfl,_,rfl,l,ds.map Xg,rfl,.inl<|yj.of zB,by rw[Zu];lia,λR n2=>?_⟩;have Y:=v1.trans<|zI (o:=U1 P w R<|AxS.uniq<|ds.map Xg) n2;refine⟨R,_,rfl,zB,by lia,λl3 s n3 U M=>?_⟩;have v3:=Y.trans<|zI (o:=.lst<|s.map V.str) n3;have mX:∀x∈ds.map Xg,D9 x=true:=λx r=>by
      obtain⟨d,hd,rfl⟩:=ZA.mp r;obtain⟨j,hj⟩:=List.getElem?_of_mem hd;obtain⟨z,hz,dz⟩:=C.at hj;obtain⟨_,_,_,_,hl⟩:=Nb dz<|Z9.mp q d hd;exact G5 hl
     have O:∀x∈s,D9 x=true:=λx r=>mX x<|Rt<|U.mem_iff.mp r;have ab:=(Y.trans<|zI (o:=.lst<|s.map V.str) n3);have L:=(((zI (o:=U1 P w R<|AxS.uniq<|ds.map Xg) n2).trans<|zI (o:=.lst<|s.map V.str) n3)) _ _<|zB (H:=c) (a:=l) (o:=.lst<|(ds.map Xg).map V.str);refine⟨.list<|(ds.map Xg).map .str,.list<|s.map .str,⟨l,_,rfl,yj.of L,zc.strs _⟩,⟨l3,_,rfl,yj.of zB,zc.strs _⟩,(jL mX).1,(jL O).1,?_⟩;have ev:EB (.list<|(ds.map Xg).map .str) (.list<|s.map .str)=decide (ds.map Xg=s):=kA _ _;rw[ev,K9 U M];have e:Bb (.tuple ds)=Xm (ds.map Xg):=by show(ds.all Xl&&_)=_;rw[q];rfl
     rw[e]at k;exact k _<|u.trans v3
 |none=>exact UV<|k _<|zy.refl _
 |bool b=>exact UV<|k _<|zy.refl _
 |int i=>exact UV<|k _<|zy.refl _
 |list ds=>exact UV<|k _<|zy.refl _
 |str x=>exact UV<|k _<|zy.refl _
 |dict Dm=>exact UV<|k _<|zy.refl _
end Ah
namespace Ai
abbrev st:Stmt:=top 26
theorem sc:zz ["word","parts"] ["word","parts"] (zF st):=CI
include T in
theorem ok (F:yc0 K "is_leaf" st f fd)(o:yo P w K mg base 3 "is_lines" ["thing"]<|FE K):zj P w K mg base CG 4 f fd ["word","parts"] (uo K Xf):=by
 refine F.ok sc λ_ _ _ _ H vs Q E t h=>?_;obtain⟨word,a,b,y,rfl,l,i,sa,q,s,k⟩:=h;refine⟨_,(zE<|zL<|yZ (yI qM (pv 0) zr<|z4 _)<|yZ (yI qM (zM z5 (by rfl) T.len Yr<|zA (pv 1) zC) zJ<|z4 _)<|xN<|zG o t.m<|zA (z7 (za:CM _<|xu K) (pv 1) zJ) zC),?_⟩;have n:=i.length;refine⟨_,rfl,rfl,_,rfl,U0 (λc=>?_)<|λc=>?_⟩
 .have c:V.str word=V.str "leaf":=ZJ c;have c:word="leaf":=by injection c
  refine⟨_,rfl,a,_,rfl,.inr l,rfl,_,rfl,U0 (λg=>?_)<|λg=>?_⟩
  .have g:y.length=1:=by have:=ZJ g;injection this with z;lia
   have d:b[0]?=some (Np b 0):=by
    have:b[0]?=some (b[0]'(by lia)):=ZD _;unfold Np;rw[this];rfl
   obtain⟨x,u,r⟩:=i.at d;refine⟨_,rfl,a,_,_,_,rfl,rfl,l,yE (j:=0) u,Np b 0,_,rfl,r,yX sa d,λA v=>?_⟩;have e:Xf word b=uK (Np b 0):=by
    unfold Xf;rw[Zz c,Zz<|show b.length=1 by lia];rfl
   rw[e]at k;exact k _ v
  .have e:Xf word b=false:=by
    unfold Xf;rw[ZP (p:=b.length=1)<|λz=>g<|Zz (by rw[n,z];rfl),VL,Js]
   rw[e]at k;exact k _<|zy.refl _
 .have e:Xf word b=false:=by
   unfold Xf;rw[ZP (p:=word="leaf")<|λz=>c<|Zz<|by rw[z],VL]
  rw[e]at k;exact k _<|zy.refl _
end Ai
namespace Aj
abbrev st:Stmt:=top 27
theorem sc:zz ["word","parts"] ["word","parts"] (zF st):=CI
include T in
theorem ok (F:yc0 K "is_tree" st f fd)(q:yo P w K mg base 3 "is_rows" ["thing"]<|rE K):zj P w K mg base CG 4 f fd ["word","parts"] (uo K Xd):=by
 refine F.ok sc λ_ _ _ _ H vs Q E u h=>?_;obtain⟨word,a,b,A,rfl,n,l,sa,r,i,k⟩:=h;refine⟨_,(zE<|zL<|yZ (yI qM (pv 0) zr<|z4 _)<|yZ (yI qM (zM z5 (by rfl) T.len Yr<|zA (pv 1) zC) zJ<|z4 _)<|xN<|zG q u.m<|zA (z7 (za:CM _<|xu K) (pv 1) zJ) zC),?_⟩;have o:=l.length;refine⟨_,rfl,rfl,_,rfl,U0 (λc=>?_)<|λc=>?_⟩
 .have c:V.str word=V.str "tree":=ZJ c;have c:word="tree":=by injection c
  refine⟨_,rfl,a,_,rfl,.inr n,rfl,_,rfl,U0 (λg=>?_)<|λg=>?_⟩
  .have g:A.length=1:=by have:=ZJ g;injection this with z;lia
   have d:b[0]?=some (Np b 0):=by
    have:b[0]?=some (b[0]'(by lia)):=ZD _;unfold Np;rw[this];rfl
   obtain⟨x,v,s⟩:=l.at d;refine⟨_,rfl,a,_,_,_,rfl,rfl,n,yE (j:=0) v,Np b 0,_,rfl,s,yX sa d,λt he=>i _ (ZN d) t he,λB y=>?_⟩;have e:Xd word b=Bb (Np b 0):=by
    unfold Xd;rw[Zz c,Zz<|show b.length=1 by lia];rfl
   rw[e]at k;exact k _ y
  .have e:Xd word b=false:=by
    unfold Xd;rw[ZP (p:=b.length=1)<|λz=>g<|Zz (by rw[o,z];rfl),VL,Js]
   rw[e]at k;exact k _<|zy.refl _
 .have e:Xd word b=false:=by
   unfold Xd;rw[ZP (p:=word="tree")<|λz=>c<|Zz<|by rw[z],VL]
  rw[e]at k;exact k _<|zy.refl _
end Aj
namespace Ak
abbrev st:Stmt:=top 28
theorem sc:zz ["word","parts"] ["word","parts"] (zF st):=CI
include T in
theorem ok (F:yc0 K "is_note" st f fd)(i:yo P w K mg base 1 "is_parents" ["thing"]<|pB K)(l:yo P w K mg base 2 "is_line" ["thing"]<|FD K):zj P w K mg base CG 3 f fd ["word","parts"] (sW K):=by
 refine F.ok sc λ_ _ _ _ H vs Q E d h=>?_;obtain⟨a,b,x,q,y,rfl,c,n,o,un,e,k⟩:=h;refine⟨_,(zD (yD (PW.pt<|IX (zR MW (pv 0) zr<|z4 _)<|Xu<|zR MW (zM z5 (by rfl) T.len Yr<|zA (pv 1) zC) zJ<|z4 _) (zE<|zL qY) zP)<|zE<|zL<|yZ (zM (zZ (K:=K)) (by rfl) T.isinstance Z1<|zA (z7 (za:CM _<|xu K) (pv 1) zJ)<|zA (yW (v:=.ty "str") rfl T.str Yk rfl) zC)<|yZ (zG i d.m<|zA (z7 (za:CM _<|xu K) (pv 1) zJ) zC)<|xN<|zG l d.m<|zA (z7 (za:CM _<|xu K) (pv 1) zJ) zC),?_⟩
 refine⟨_,rfl,rfl,_,rfl,SN rfl ?_⟩;refine⟨_,rfl,a,_,rfl,.inr c,rfl,_,rfl,SN rfl ?_⟩;refine⟨_,rfl,a,_,_,_,rfl,rfl,c,yE (j:=0) rfl,_,_,.str x,_,rfl,rfl,T.is<|by simp[kinds],_,rfl,UV ?_⟩;refine⟨_,rfl,a,_,_,_,rfl,rfl,c,yE (j:=1) rfl,b,q,rfl,n,o,un,λs g=>⟨_,rfl,UV ?_⟩⟩;have p:y.length<=1000:=by
  have z:(decide (y.length<=20)&&(cs y).all U7)=true:=e;rw[ZG]at z;have:=ZJ z.1;lia
 refine⟨_,rfl,a,_,_,_,rfl,rfl,g.yh c,yE (j:=2) rfl,.str y,_,rfl,rfl,Zz p,λt r=>?_⟩;rw[show Xe (.str y)=true from e];exact k _<|g.trans r
end Ak
namespace Al
abbrev st:Stmt:=top 29
theorem sc:zz ["thing","word","parts"] ["thing"] (zF st):=CI
include T in
theorem ok (F:yc0 K "is_thing" st f fd)(Z:yo P w K mg base 4 "is_leaf" ["word","parts"]<|uo K Xf)(QM:yo P w K mg base 4 "is_tree" ["word","parts"]<|uo K Xd)(QN:yo P w K mg base 3 "is_note" ["word","parts"]<|sW K) :
  zj P w K mg base CG 5 f fd ["thing"] (uw K):=by
 refine F.ok sc λ_ _ _ _ H vs Q E M h=>?_;obtain⟨t,v,rfl,hd,⟨_,g,X,B⟩,k⟩:=h;refine⟨_,(zD (yD (PW.pt<|IX (y6<|zS (K:=K)<|zM (zZ (K:=K)) (by rfl) T.isinstance Z1<|zA (pv 0)<|zA (yW (v:=.ty "tuple") rfl T.tuple YJ rfl) zC)<|IX (zR qM (zM z5 (by rfl) T.len Yr<|zA (pv 0) zC) zJ<|z4 _)<|Xu<|y6<|zS (K:=K)<|zM (zZ (K:=K)) (by rfl) T.isinstance Z1<|zA (z7 (za:CM _<|xu K) (pv 0) zJ)<|zA (yW (v:=.ty "str") rfl T.str Yk rfl) zC) (zE<|zL qY) zP)<|zD (CK (i:=1) sc.nd<|z7 (za:CM _<|xu K) (pv 0) zJ)<|zD (CK (i:=2) sc.nd<|x4 (oN:Wq _<|SU K) (pv 0) (qX zJ) qS)<|zE<|zL<|PM (zG Z M.m<|zA (pv 1)<|zA (pv 2) zC)<|PM (zG QM M.m<|zA (pv 1)<|zA (pv 2) zC)<|xN<|zG QN M.m<|zA (pv 1)<|zA (pv 2) zC),?_⟩
 have N:=Dt.dw hd;obtain⟨a,r0,rfl,ab⟩:=j6 hd;have p:∃c,t.dat=.tuple (.str t.word::c):=by cases t<;>exact⟨_,rfl⟩
 obtain⟨c,S⟩:=p;rw[S]at X B N g;obtain⟨n1,n2⟩:=B _ rfl;obtain⟨a',xs,e,G,ha⟩:=id N;cases e;obtain⟨sl,sa⟩:=qI X;obtain⟨x0,r,rfl,s,l⟩:=ha;refine⟨_,rfl,_,_,_,_,rfl,N,T.is<|by simp[kinds],_,rfl,UQ ?_⟩;refine⟨_,rfl,a,_,rfl,.inr G,rfl,_,rfl,KK (λz=>by injection z with z;simp at z;lia) ?_⟩;refine⟨_,rfl,a,_,_,_,rfl,rfl,G,yE (j:=0) rfl,_,_,.str t.word,_,rfl,s,T.is<|by simp[kinds],_,rfl,UQ ?_⟩;cases(show x0=_ from s);refine⟨_,rfl,a,_,_,_,rfl,rfl,G,yE (j:=0) rfl,?_⟩;refine⟨_,rfl,_,rfl,a,_,_,rfl,rfl,G,λq nq=>?_⟩;rw[Ot<|by decide];have I:=zI (o:=.tup r) nq;have D:=xj.of (K:=K)<|zB (H:=H) (a:=q) (o:=.tup r);show Xo 2 (.ref q) _ (upd H q<|.tup r) _;generalize upd H q (.tup r)=H1 at I D ⊢;have C:yC c=true:=by
  have sa:(small (.str t.word)&&yC c)=true:=sa;rw[ZG]at sa;exact sa.2
 have u:c.length<=63:=by have:=n1;simp at this;lia
 have A:∀e∈c,∀R,e=.tuple R->R.length<=63:=λe he=>n2 e<|Zw _ he;refine⟨_,rfl,_,rfl,t.word,q,c,r,rfl,D,wW.same I _ _ l,C,u,A,λH2 J=>⟨_,rfl,?_⟩⟩;have g:(Xf t.word c||(Xd t.word c||Pl t.word c))=true:=g;cases q0:Xf t.word c with
 |true=>exact UV<|k _<|I.trans J
 |false =>
  rw[q0,Uz]at g;have d:=I.trans J;refine UQ ⟨_,rfl,_,rfl,t.word,q,c,r,rfl,J.yh D,wW.same d _ _ l,C,u,A,λH3 L=>⟨_,rfl,?_⟩⟩;cases q1:Xd t.word c with
  |true=>exact UV<|k _<|d.trans L
  |false =>
   rw[q1,Uz]at g;unfold Pl at g;simp only[ZG,Yh]at g;obtain⟨Y,_,_,n,ld⟩:=g;cases t with
   |leaf ls=>exact absurd Y (by show("leaf":Str)≠"note";decide+kernel)
   |tree rs=>exact absurd Y (by show("tree":Str)≠"note";decide+kernel)
   |note x ps y =>
    have ed:[Eu x,.tuple<|ps.map .str,.str y]=c:=by injection S with z;injection z
    subst ed;obtain⟨v1,r1,rfl,h1,v2,r2,rfl,⟨b,ys,rfl,hb,hy⟩,v3,r3,rfl,h3,e⟩:=l;cases(show v1=_ from h1);cases(show v3=_ from h3);cases(show r3=[] from e);have n:((ps.map Eu).all Xj&&(decide ((ps.map Eu).length<=2)&&decide ((AxS.uniq<|(ps.map Eu).map Oc).length=(ps.map Eu).length)))=true:=n;have O:(ps.map Eu).map Oc=ps:=by rw[ZY];exact VI _
    rw[O,Zu]at n;simp only[ZG,Yh]at n;have U:=Kj hy (by rw[List.all_map,Z9];exact λ_ _=>rfl);rw[O]at U;subst U;exact UQ ⟨_,rfl,_,rfl,q,b,x,ps,y,rfl,(J.trans L).yh D,(d.trans L).yh hb,n.2.1,n.2.2,ld,λH4 s4=>k _<|(d.trans L).trans s4⟩
end Al
namespace Ao
abbrev st:Stmt:=top 30
theorem sc:zz ["thing"] ["thing"] (zF st):=CI
include T in
theorem ok (F:yc0 K "need_thing" st f fd)(b:yo P w K mg base 5 "is_thing" ["thing"]<|uw K):zj P w K mg base CG 6 f fd ["thing"] (rC K):=by
 refine F.ok sc λ_ _ _ _ H vs Q E c h=>?_;obtain⟨t,v,rfl,hd,g,k⟩:=h;refine⟨_,(zD (yD (y6<|zS (K:=K)<|zG b c.m<|zA (pv 0) zC) (zE yT) zP)<|zE<|zL<|pv 0),?_⟩
 exact⟨_,rfl,t,v,rfl,hd,g,λe d=>⟨_,rfl,UQ ⟨_,rfl,k _ d⟩⟩⟩
end Ao
namespace Ap
abbrev st:Stmt:=top 31
theorem sc:zz ["thing"] ["thing"] (zF st):=CI
include T in
theorem ok (F:yc0 K "letter_of" st f fd):zj P w K mg base CG 1 f fd ["thing"] (ID K):=by
 refine F.ok sc λ_ _ _ _ H vs Q E c h=>?_;obtain⟨v,t,rfl,hd,k⟩:=h;refine⟨_,(zE<|zL<|Se (qH (v:=.ref aL) rfl T.LETTERS rfl) (z7 (za:CM _<|xu K) (pv 0) zJ)<|λ_ _=>rfl),?_⟩;obtain⟨a,r,rfl,b⟩:=j6 hd;exact⟨_,rfl,a,_,_,_,rfl,rfl,b,FP _ _,_,_,D8 t.word,_,rfl,rfl,T.kd,KP t,k⟩
end Ap
namespace Aq
abbrev st:Stmt:=top 32
theorem sc:zz ["rows","parts","label","name"] ["rows"] (zF st):=CI
theorem wA:∀rs:Dg,(yA rs).length=2*rs.length
 |[]=>rfl
 |r::rs=>by
  show(yA rs).length+2=2*(rs.length+1);rw[wA rs];lia
include T in
theorem ok (F:yc0 K "tree_parts" st f fd):zj P w K mg base CG 1 f fd ["rows"] (XW K):=by
 refine F.ok sc λ_ _ _ _ H vs Q E C h=>?_;obtain⟨v,c,rfl,hd,hl,k⟩:=h;obtain⟨a,xs,rfl,q,s⟩:=hd;have o:xs.length=c.length:=by rw[s.length,Zu]
 refine⟨_,(zD (CK (i:=1) sc.nd<|xB zC)<|zD (yY El rfl (jV<|pv 0) (kP rfl<|yF (zO (i:=2) sc.nd rfl<|Et rfl)<|yF (zO (i:=3) sc.nd rfl<|Et rfl) qR)<|zD (z8<|kW Jf JU JV j2 (pv 1)<|zA (pv 2) zC)<|zE<|z8<|kW Jf JU JV j2 (pv 1)<|zA (pv 3) zC)<|zE<|zL<|pv 1),?_⟩
 refine⟨Yf _,λl j=>?_⟩;refine⟨_,rfl,a,rfl,⟨_,(zI j).yh q⟩,uC (K:=K) (a:=a) (xs:=xs) (λi n g=>∃(x y:Option V),n=[some<|.ref a,some<|.ref l,x,y]/\g=upd H l (.lst<|(yA<|c.take i).map V.str)) ⟨none,none,rfl,rfl⟩ (λi n g _ ⟨_,_,_,e⟩=>by rw[e];exact(zI j).yh q) ?_ ?_⟩
 .rintro i x n g u ⟨A,B,rfl,rfl⟩;obtain⟨r,b,p,rfl,t⟩:=HS s u;have z:i<c.length:=(ZO.mp p).1;have d:((yA<|c.take i).map V.str).length<=2000:=by
   rw[Zu,wA,Z3];lia
  refine⟨b,_,rfl,(zI j).yh t,rfl,_,_,rfl,_,_,rfl,rfl,?_⟩;refine⟨_,rfl,.inl ⟨rfl,_,yj.of zB⟩,_,rfl,l,_,_,rfl,rfl,zB,VD d (by rw[YU];decide),?_⟩;refine⟨_,rfl,.inl ⟨rfl,_,yj.of zB⟩,_,rfl,l,_,_,rfl,rfl,zB,?_,?_⟩
  .rw[ZE,Yi];exact VD (Vp d) (by rw[YU];decide)
  .refine⟨_,_,rfl,?_⟩;rw[Nm,Nm]
   congr 2
   rw[Ym,p];show _=(yA<|c.take i++[r]).map V.str;rw[qP,ZH];show _=(yA<|c.take i).map V.str++[V.str r.1,V.str r.2];rw[Ys];rfl
 .rintro n g ⟨A,B,rfl,rfl⟩;refine⟨_,rfl,?_⟩;rw[o,Ya];exact k l j
end Aq
theorem RV {c A B:Prop} [Decidable c](hc:c)(h:A):if decide c=true then A else B:=by
 rw[Zz hc];exact UV h
theorem KK {c A B:Prop} [Decidable c](hc:¬c)(h:B):if decide c=true then A else B:=by
 rw[ZP hc];exact UQ h
theorem BV {n:Nat}(h:n<=100000):(dig n).length<=10:=JW (by lia) (by decide) (by
 have:(10:Int) ^ 10=10000000000:=by decide
 rw[this];lia)
theorem Bq {n:Nat}(h:n<=1900):((n:Int)).natAbs.log2<1920:=by
 rw[Uq];exact VD (Nat.log2_le_self n) (by lia)
theorem NJ {rs:Dg}(g:(Th.tree rs).Good):rs.length<=1000:=by
 have h:=g.1;have e:(yA rs).length<=1000:=h;rw[Aq.wA]at e;lia
theorem NI {x:Str}{ps:Da}{w:Str}(g:(Th.note x ps w).Good):ps.length<=1000:=by
 have h:=g.1;have e:([x,dig ps.length]++ps++[w]).length<=1000:=h;simp at e;lia
namespace Ar
abbrev st:Stmt:=top 33
theorem sc:zz ["thing","parents"] ["thing"] (zF st):=CI
include T in
theorem ok (F:yc0 K "parts_of" st f fd)(D:yo P w K mg base 1 "tree_parts" ["rows"]<|XW K):zj P w K mg base CG 2 f fd ["thing"] (Nd K):=by
 refine F.ok sc λ_ _ _ _ H vs Q E G h=>?_;obtain⟨v,t,rfl,hd,g,k⟩:=h;refine⟨_,(zD (yD (zR qM (z7 (za:CM _<|xu K) (pv 0) zJ) zr<|z4 _) (zE<|zL<|zT xZ (by rfl) T.list JB<|zA (z7 (za:CM _<|xu K) (pv 0) zJ) zC) zP)<|zD (yD (zR qM (z7 (za:CM _<|xu K) (pv 0) zJ) zr<|z4 _) (zE<|zL<|zG D G.m<|zA (z7 (za:CM _<|xu K) (pv 0) zJ) zC) zP)<|zD (CK (i:=1) sc.nd<|z7 (za:CM _<|xu K) (pv 0) zJ)<|zE<|zL<|zY Pp (zY Pp (xB<|zA (z7 (za:CM _<|xu K) (pv 0) zJ)<|zA (zT xI (by rfl) T.str Yk<|zA (zM z5 (by rfl) T.len Yr<|zA (pv 1) zC) zC) zC)<|zT xZ (by rfl) T.list JB<|zA (pv 1) zC)<|xB<|zA (z7 (za:CM _<|xu K) (pv 0) zJ) zC),?_⟩
 cases t with
 |leaf ls =>
  obtain⟨a,b,rfl,c,d⟩:=Fp hd;refine⟨_,rfl,a,_,_,_,rfl,rfl,c,rfl,rfl,_,rfl,RV rfl ?_⟩;exact⟨_,rfl,a,_,_,_,rfl,rfl,c,rfl,b,_,rfl,.inr d,λl e=>k l _ (zI e) e zB⟩
 |tree rs =>
  obtain⟨a,b,rfl,c,d⟩:=FJ hd;refine⟨_,rfl,a,_,_,_,rfl,rfl,c,rfl,rfl,_,rfl,KK (by decide+kernel) ?_⟩;refine⟨_,rfl,a,_,_,_,rfl,rfl,c,rfl,rfl,_,rfl,RV rfl ?_⟩;exact⟨_,rfl,a,_,_,_,rfl,rfl,c,rfl,_,rs,rfl,d,NJ g,λl e=>k l _ (zI e) e zB⟩
 |note x ps y =>
  obtain⟨a,b,rfl,c,d⟩:=jM hd;have L:=NI g;refine⟨_,rfl,a,_,_,_,rfl,rfl,c,rfl,rfl,_,rfl,KK (by decide+kernel) ?_⟩;refine⟨_,rfl,a,_,_,_,rfl,rfl,c,rfl,rfl,_,rfl,KK (by decide+kernel) ?_⟩;refine⟨_,rfl,a,_,_,_,rfl,rfl,c,rfl,?_⟩;refine⟨_,rfl,a,_,_,_,rfl,rfl,c,rfl,_,rfl,b,_,rfl,.inr d,_,rfl,?_,UT 2,λp n1=>?_⟩
  .rw[Zu];exact Bq (by lia)
  have A:=zI (o:=.lst [V.str x,V.str<|ED<|Lb (((ps.map V.str).length:Nat):Int)]) n1;refine⟨_,rfl,b,_,rfl,.inr<|A.yh d,λq n2=>?_⟩;have J:=A.trans<|zI (o:=.lst<|ps.map V.str) n2;have j:p≠q:=zK zB n2;refine⟨p,q,_,_,rfl,rfl,(by rw[zH j];exact zB),zB,(by rw[Zu];exact zx (by simp only[ZL,Jc];lia)),λr n3=>?_⟩;have B:=J.trans<|zI (o:=.lst<|[V.str x,V.str<|ED<|Lb (((ps.map V.str).length:Nat):Int)]++ps.map V.str) n3;refine⟨_,rfl,a,_,_,_,rfl,rfl,B.yh c,rfl,UT 1,λs u=>?_⟩;have C:=B.trans<|zI (o:=.lst [V.str y]) u;have n:r≠s:=zK zB u;refine⟨r,s,_,_,rfl,rfl,(by rw[zH n];exact zB),zB,?_,λI z=>?_⟩
  .rw[ZE,Zu];exact zx (by simp only[ZL,Jc];lia)
  .refine k I _ (C.trans<|zI z) (C.free z) ?_;rw[zB]
   congr 2
   show _=([x,dig ps.length]++ps++[y]).map V.str;rw[ZH,ZH];show([V.str x,V.str<|ED<|Lb (((ps.map V.str).length:Nat):Int)]++ps.map V.str)++[V.str y]=_;rw[Zu];rfl
end Ar
namespace As
abbrev st:Stmt:=top 34
theorem sc:zz ["part"] ["part"] (zF st):=CI
include T in
theorem ok (F:yc0 K "counted" st f fd):zj P w K mg base CG 1 f fd ["part"] Br:=by
 refine F.ok sc λ_ _ _ _ H vs Q E e h=>?_;obtain⟨x,rfl,hl,k⟩:=h;refine⟨_,(zE<|zL<|zY zW (zY zW (zT xI (by rfl) T.str Yk<|zA (zM qQ (by rfl) T.len Yr<|zA (pv 0) zC) zC) zr)<|pv 0),?_⟩;have d:=BV (n:=x.length) (by lia);have c:(""++":":String).length=1:=by decide
 have b:(":":Str).length=1:=by decide+kernel
 refine⟨_,rfl,x,rfl,zx<|by lia,_,rfl,Bq<|by lia,_,_,rfl,rfl,zx (by rw[b];exact Yn (Nat.add_le_add_right d 1)<|by decide),_,rfl,_,_,rfl,rfl,zx ?_,k⟩;show(dig x.length++":").length+x.length<=_;rw[yt,b];lia
end As
namespace Au
abbrev st:Stmt:=top 35
theorem sc:zz ["thing"] ["thing"] (zF st):=CI
theorem Hk {x:Str}(h:x.length<=1000):(counted x).length<=1011:=by
 have d:=BV (n:=x.length) (by lia);have b:(":":Str).length=1:=by decide+kernel
 show(dig x.length++":"++x).length<=_;rw[yt,yt,b];lia
include T in
theorem ok (F:yc0 K "spelled" st f fd)(A:yo P w K mg base 1 "letter_of" ["thing"]<|ID K)(s:yo P w K mg base 2 "parts_of" ["thing"]<|Nd K)
  (u:yo P w K mg base 1 "counted" ["part"] Br):zj P w K mg base CG 3 f fd ["thing"] (Bw K):=by
 refine F.ok sc λ_ _ _ _ H vs Q E n h=>?_;obtain⟨v,t,rfl,hd,g,k⟩:=h;refine⟨_,(zE<|zL<|zY zW (zG A n.m<|zA (pv 0) zC)<|kW Y6 V2 V3 BT zr<|zA (xF (sc:=zF st) (N:=["thing"]) (N':=["part"]) (src:=[none]) .a rfl rfl rfl (xC<|zG s n.m<|zA (pv 0) zC) (λ_ _ _ _=>(zO (i:=0) (show(["part"]:Da).Nodup by decide+kernel) rfl (Et rfl))) (λ_ _ _ _=>qA) (λ_ _ _ _=>(zG u n.m<|zA (pv 0) zC))) zC),?_⟩;refine⟨_,rfl,v,t,rfl,hd,rfl,_,rfl,v,t,rfl,hd,g,λl r O Z hl=>?_⟩;have S:(t.parts.map V.str).length<=1000:=by rw[Zu];exact g.1
 refine⟨l,rfl,⟨_,yj.of hl⟩,jA (K:=K) (a:=l) (xs:=t.parts.map V.str) (λi d j c=>∃x,j=[x]/\c=r/\d=((t.parts.take i).map counted).map V.str) ⟨none,rfl,rfl,rfl⟩ (zx<|by lia) (λi d j c b ⟨x,_,e,G⟩=>⟨by rw[e];exact yj.of hl,?_⟩) ?_ ?_⟩
 .rw[G,Zu,Zu,Z3];exact Nat.min_le_left _ _
 .rintro i x d j c b ⟨R,rfl,rfl,rfl⟩;rw[ZF]at b;cases q:t.parts[i]? with
  |none=>rw[q]at b;cases b
  |some p =>
   rw[q]at b;have b:V.str p=x:=Option.some.inj b;subst b;have I:=g.2 p<|ZN q;refine⟨_,rfl,p,rfl,I.len,_,rfl,rfl,?_⟩;rw[Ym,q,ZH,ZH];rfl
 .rintro d j c ⟨R,rfl,rfl,rfl⟩ p M;have e:(t.parts.take (t.parts.map V.str).length)=t.parts:=by rw[Zu,Ya]
  rw[e];have B:∀y∈t.parts.map counted,y.length<=1011:=λy J=>by
   obtain⟨z,L,rfl⟩:=ZA.mp J;exact Hk (g.2 z L).len
  have U:=Mn _ B;have C:(t.parts.map counted).length<=1000:=by rw[Zu];exact g.1
  have X:(t.parts.map counted).length*1011<=1011000:=Nat.mul_le_mul_right 1011 C;have o:("":Str).length=0:=by decide+kernel
  have Y:t.letter.length=1:=by rw[zf,jU];rfl
  refine⟨_,p,t.parts.map counted,rfl,rfl,.inl<|yj.of zB,by rw[o];lia,_,_,rfl,rfl,?_,?_⟩
  .have:=StrLaws.join_length_le ""<|t.parts.map counted;have D:Lc "" (t.parts.map counted)=Mi "" (t.parts.map counted):=E2 _ _;rw[D];rw[o]at this;exact zx (by lia)
  .rw[W9];exact k _<|O.trans<|zI M
end Au
namespace Av
abbrev st:Stmt:=top 36
theorem sc:zz ["thing","number","sign"] ["thing"] (zF st):=CI
include T in
theorem ok (F:yc0 K "digest" st f fd)(l:yo P w K mg base 3 "spelled" ["thing"]<|Bw K):zj P w K mg base CG 4 f fd ["thing"] (HZ K):=by
 refine F.ok sc λ_ _ _ _ H vs Q E o h=>?_;obtain⟨v,t,rfl,hd,g,k⟩:=h;refine⟨_,(zD (CK (i:=1) sc.nd zJ)<|zD (yY El rfl (K2<|zG l o.m<|zA (pv 0) zC) (zO (i:=2) sc.nd rfl<|Et rfl)<|zE<|CK (i:=1) sc.nd<|zY xM (zY xK (zY Gh (qH (v:=.int 31) rfl T.tY ⟨_,rfl⟩)<|pv 1)<|zM FR (by rfl) T.ord PyProof.Rows.boot_ord<|zA (pv 2) zC)<|qH (v:=.int 97) rfl T.sY ⟨_,rfl⟩)<|zE<|zL<|pv 1),?_⟩
 refine⟨_,rfl,v,t,rfl,hd,g,λj p=>⟨_,rfl,RN (λi e b=>∃x,e=[some v,some<|.int<|((cs t.sp).take i).foldl WJ 0,x]/\b=j) ⟨none,rfl,rfl⟩ ?_ ?_⟩⟩
 .rintro i c e b n ⟨x,rfl,rfl⟩;refine⟨_,rfl,_,_,rfl,rfl,.inl ⟨by decide,by decide⟩,_,rfl,_,rfl,rfl,_,_,rfl,rfl,_,_,rfl,rfl,(by show(0:Int)<97;decide),some<|.str ⟨#[c]⟩,?_,rfl⟩;have d:(cs t.sp)[i]?=some c:=by rw[<-n];simp
  rw[Ym,d,JP];rfl
 .rintro e b ⟨x,rfl,rfl⟩;refine⟨_,rfl,?_⟩;rw[zf,Ya];exact k _ p
end Av
namespace Aw
abbrev st:Stmt:=inClass (top 66) 7
theorem sc:zz ["self"] ["self"] (zF st):=CI
include T in
theorem ok (F:yc K "names" "Shelf.names" st f fd):zj P w K mg base CG 1 f fd ["self"] (tO P w K aC):=by
 refine F.ok sc λ_ _ _ _ H vs Q E A h=>?_;obtain⟨a,r,S,rfl,sh,k⟩:=h;refine⟨_,(zE<|zL<|zT (Kv rfl) (by rfl) T.list JB<|zA (yO (pv 0) rfl) zC),?_⟩;obtain⟨g,d,c,p,q,b,nx,rfl,nd,i,s,t,j,u,v,x,y,z⟩:=sh;refine⟨_,rfl,a,aC,d,_,_,rfl,i,T.cls,T.n1,rfl,c,_,rfl,j,λl o=>?_⟩;have e:(((S.zip b).map λe=>((D8 e.1.nm:Key),V.ref e.2)).map λn=>kV n.1)=S.map λe=>V.str e.nm:=by
  rw[ZY];have:(S.zip b).map (·.1)=S:=V8 (by lia)
  conv=>rhs;rw[<-this]
  rw[ZY];rfl
 rw[e];exact k l o
end Aw
namespace Ax
abbrev st:Stmt:=inClass (top 66) 1
theorem sc:zz ["self","name","thing","halves","head"] ["self","name","thing"] (zF st):=CI
include T in
theorem ok (F:yc K "take" "Shelf.take" st f fd):zj P w K mg base CG 1 f fd ["self","name","thing"] (rR P w K aC):=by
 refine F.ok sc λ_ _ _ _ H vs Q E hr h=>?_;obtain⟨a,fp,S,e,t,rfl,sh,u,ht,hd,hn,hl,k⟩:=h;have hu:=Hg hr;refine⟨_,(zD (CK (i:=3) sc.nd<|kW Y6 PySem.F.slot_str_partition PySem.F.type_str_partition kO (pv 1)<|zA zr zC)<|zD (CK (i:=4) sc.nd<|z7 (za:CM _<|xu K) (pv 3) zJ)<|zD (yN hu (yO (pv 0) rfl) (pv 4) (zM (Nu rfl) (by rfl) T.max PyProof.Rows.boot_max<|zA (IR hu (yO (pv 0) rfl) (pv 4) zJ ⟨rfl,rfl,rfl,rfl⟩)<|zA (zY xK (zT Nr (by rfl) T.int PyProof.Rows.boot_int<|zA (z7 (za:CM _<|xu K) (pv 3) zJ) zC) zJ) zC) rfl)<|zD (yN hu (yO (pv 0) rfl) (pv 1) (pv 2) rfl)<|zE<|Sk hr.units (yO (pv 0) rfl) (pv 2) (pv 1) rfl),?_⟩
 obtain⟨g,r,c,l,b,j,nx,rfl,nd,h1,h2,h3,h4,h5,h6,h7,h8,h9⟩:=id sh;have ye:=sh.ye.tup;have nl:(U4 e.n).length<=2000:=by
  have U:((e.n:Int)).natAbs.log2<1920:=by
   have:=u.num;rw[Uq]
   rcases JD e.n with z|z
   .rw[z];decide
   .have:e.n.log2<20:=(Nat.log2_lt<|by lia).mpr (by lia);lia
  have:=V7 U;have G:(U4 e.n).length<=1921:=this;lia
 have ap:e.nm.length<=100000:=by
  have:=u.hl;have e1:dot.length=1:=rfl;unfold En.nm;rw[yt,yt,e1];lia
 simp only[Yl,ZI,Y4,Ua,not_or,YN,and_true,not_false_eq_true]at nd;obtain⟨⟨an,X,Y,Z⟩,⟨ab,ac,ad⟩,⟨y,A⟩,B⟩:=nd;refine⟨_,rfl,rfl,e.h,U4 e.n,46,rfl,by rw[Ow];rfl,u.free,ap,λp np=>?_⟩;have D:=zI (o:=.tup [V.str e.h,V.str ⟨#[46]⟩,V.str<|U4 e.n]) np;have hp:xj K (upd H p<|.tup [V.str e.h,V.str ⟨#[46]⟩,V.str<|U4 e.n]) p [V.str e.h,V.str ⟨#[46]⟩,V.str<|U4 e.n]:=xj.of zB;show Ro _ _ _ _ (upd H p<|.tup [V.str e.h,V.str ⟨#[46]⟩,V.str<|U4 e.n]);generalize upd H p (.tup [V.str e.h,V.str ⟨#[46]⟩,V.str<|U4 e.n])=s at D hp;have g1:=D _ _ h1;have g4:=D _ _ h4;have g6:=D _ _ h6;refine⟨_,rfl,p,_,_,_,rfl,rfl,hp,rfl,?_⟩;refine⟨_,rfl,a,aC,r,_,_,rfl,g1,T.cls,T.n3,rfl,b,rfl,.inl ⟨_,.inl g6⟩,_,rfl,_,wO.k (k:=(D8 e.h:Key)) g6,?_⟩;obtain⟨m,em,en⟩:∃m:Nat,(UP nx (D8 e.h:Key)).getD (V.int 0)=V.int (m:Int)/\m=(yd S e.h).getD 0:=by
  rw[h8];cases yd S e.h with
  |none=>exact⟨0,rfl,rfl⟩
  |some m=>exact⟨m,rfl,rfl⟩
 rw[em];refine⟨_,rfl,p,_,_,_,rfl,rfl,hp,rfl,e.n,rfl,by have:=u.num;lia,_,_,rfl,rfl,_,_,rfl,?_⟩;have I:(if(e.n:Int)+1>(m:Int) then(e.n:Int)+1 else(m:Int))=((max m (e.n+1):Nat):Int):=by
  split<;>lia
 rw[I];have as:nx.length<2000:=by lia
 refine⟨_,rfl,a,aC,r,_,_,rfl,g1,T.cls,T.n3,rfl,_,rfl,b,_,rfl,vQ.k (k:=(D8 e.h:Key)) g6<|yV<|by lia,?_⟩;have o1:Off [a,r,c,l,b] H (upd s b<|.dK<|yr nx (D8 e.h:Key)<|V.int ((max m (e.n+1):Nat):Int)):=(Off.of D).upd (by simp);have J:upd s b (.dK<|yr nx (D8 e.h:Key)<|V.int ((max m (e.n+1):Nat):Int)) a=some (.ins aC r<|OB c l b):=by rwa[zH Z]
 have M:upd s b (.dK<|yr nx (D8 e.h:Key)<|V.int ((max m (e.n+1):Nat):Int)) c=some (.dK<|(S.zip j).map λe=>((D8 e.1.nm:Key),V.ref e.2)):=by rwa[zH A]
 have ai:upd s b (.dK<|yr nx (D8 e.h:Key)<|V.int ((max m (e.n+1):Nat):Int)) b=some (.dK<|yr nx (D8 e.h:Key)<|V.int ((max m (e.n+1):Nat):Int)):=zB;have af:upd s b (.dK<|yr nx (D8 e.h:Key)<|V.int ((max m (e.n+1):Nat):Int)) r=some (.own a):=by rw[zH ad];exact D _ _ h2
 obtain⟨ay,e5,_⟩:=h5.2.2.2;have ah:upd s b (.dK<|yr nx (D8 e.h:Key)<|V.int ((max m (e.n+1):Nat):Int)) l=H l:=by rw[zH B,e5];exact D _ _ e5
 show Ro _ _ _ _ (upd s b<|.dK<|yr nx (D8 e.h:Key)<|V.int ((max m (e.n+1):Nat):Int));generalize upd s b (.dK<|yr nx (D8 e.h:Key)<|V.int ((max m (e.n+1):Nat):Int))=v at o1 J M ai af ah;have zl:((S.zip j).map λe=>((D8 e.1.nm:Key),V.ref e.2)).length<=2000:=by rw[Zu,List.length_zip];lia
 refine⟨_,rfl,_,rfl,a,aC,r,_,_,rfl,J,T.cls,T.n1,rfl,_,rfl,c,_,rfl,vQ.k (k:=(D8 e.nm:Key)) M<|yV<|by lia,?_⟩;have ek:((S.zip j).map λe=>((D8 e.1.nm:Key),V.ref e.2)).map (·.1)=S.map λe=>(D8 e.nm:Key):=by
  rw[ZY];have:(S.zip j).map (·.1)=S:=V8 (by lia)
  conv=>rhs;rw[<-this]
  rw[ZY];rfl
 have hk:(D8 e.nm:Key)∉((S.zip j).map λe=>((D8 e.1.nm:Key),V.ref e.2)).map (·.1):=λz=>by
  rw[ek]at z;obtain⟨G,ak,q⟩:=ZA.mp z;exact hn<|ZA.mpr ⟨G,ak,Sum.inr.inj q⟩
 rw[kM hk];have o2:Off [a,r,c,l,b] H (upd v c<|.dK<|(S.zip j).map (λe=>((D8 e.1.nm:Key),V.ref e.2))++[(D8 e.nm,V.ref t)]):=o1.upd (by simp);have x:upd v c (.dK<|(S.zip j).map (λe=>((D8 e.1.nm:Key),V.ref e.2))++[(D8 e.nm,V.ref t)]) a=some (.ins aC r<|OB c l b):=by rwa[zH X]
 have L:upd v c (.dK<|(S.zip j).map (λe=>((D8 e.1.nm:Key),V.ref e.2))++[(D8 e.nm,V.ref t)]) r=some (.own a):=by rwa[zH ab]
 have N:upd v c (.dK<|(S.zip j).map (λe=>((D8 e.1.nm:Key),V.ref e.2))++[(D8 e.nm,V.ref t)]) c=some (.dK<|(S.zip j).map (λe=>((D8 e.1.nm:Key),V.ref e.2))++[(D8 e.nm,V.ref t)]):=zB;have O:upd v c (.dK<|(S.zip j).map (λe=>((D8 e.1.nm:Key),V.ref e.2))++[(D8 e.nm,V.ref t)]) l=H l:=by rwa[zH<|Eh y]
 have R:upd v c (.dK<|(S.zip j).map (λe=>((D8 e.1.nm:Key),V.ref e.2))++[(D8 e.nm,V.ref t)]) b=some (.dK<|yr nx (D8 e.h:Key)<|V.int ((max m (e.n+1):Nat):Int)):=by rwa[zH<|Eh A]
 generalize upd v c (.dK<|(S.zip j).map (λe=>((D8 e.1.nm:Key),V.ref e.2))++[(D8 e.nm,V.ref t)])=H3 at o2 x L N O R;have T3:qj P w K H3 l (S.map λe=>(e.d,V.str e.nm)):=qj.off ye o2 O h5;have am:Dt K H3 e.d (.ref t):=Dt.off ye o2 _ _ u.key.1 ht;refine⟨_,rfl,_,rfl,a,aC,r,_,_,rfl,x,T.cls,T.n2,rfl,_,rfl,t,l,_,e.d,rfl,rfl,T3,by rw[Zu];lia,u.key,am,λo T4 ⟨es,eo⟩=>?_⟩;have al:e.d∉(S.map λe=>(e.d,V.str e.nm)).map (·.1):=by rwa[ZY]
 rw[kM al]at T4;have o3:Off [a,r,c,l,b] H (upd H3 l o):=o2.upd (by simp);refine k _ o3 ⟨g.snoc u hd hn<|by lia,r,c,l,b,j++[t],_,rfl,by simp[an,X,Y,Z,ab,ac,ad,y,A,B],by rw[zH Y];exact x,by rw[zH ac];exact L,by rw[ZE,ZE,h3];rfl,?_,?_,by rw[zH<|Eh B];exact R,?_,?_,?_⟩
 .rw[zH y,N,List.zip_append h3.symm,ZH];rfl
 .rw[ZH];exact T4
 .have:=xW nx (D8 e.h:Key)<|V.int ((max m (e.n+1):Nat):Int);rw[ZE,Yi];lia
 .intro h;rw[Gg,X3]
  by_cases q:e.h=h
  .rw[ZS<|by rw[q],ZS q,<-q,<-en];rfl
  .rw[ZM<|λz=>q (Sum.inr.inj z).symm,ZM q];exact h8 h
 .intro i G t' C q2
  rcases VP i S.length with z|z|z
  .rw[Z7 z]at C;rw[Z7<|by lia]at q2;exact Dt.off ye o3 _ _ (g.ent G<|ZN C).key.1<|h9 i G t' C q2
  .subst z;rw[Z2<|ZB _,UJ]at C;rw[Z2<|by lia,h3,UJ]at q2;cases C;cases q2;exact Dt.off ye o3 _ _ u.key.1 ht
  .rw[Yv (by rw[ZE,Yi];lia)]at C;cases C
end Ax
theorem MN {S:Di}{b:Dd}(h:b.length=S.length):((S.zip b).map λe=>((D8 e.1.nm:Key),V.ref e.2)).map (·.1)=S.map λe=>(D8 e.nm:Key):=by
 rw[ZY];have:(S.zip b).map (·.1)=S:=V8 (by lia)
 conv=>rhs;rw[<-this]
 rw[ZY];rfl
theorem RU {S:Di}{b:Dd}(h:b.length=S.length)(x:Str):(UP ((S.zip b).map λe=>((D8 e.1.nm:Key),V.ref e.2)) (D8 x:Key)).isSome=decide (x∈S.map En.nm):=by
 have c:=MN h;rw[YL,ZQ];constructor
 .intro z;obtain⟨v,hv⟩:=Yx.mp z;have:=qJ hv;rw[c]at this;obtain⟨e,he,q⟩:=ZA.mp this;exact ZA.mpr ⟨e,he,Sum.inr.inj q⟩
 .intro z;obtain⟨e,he,q⟩:=ZA.mp z;cases hv:UP ((S.zip b).map λe=>((D8 e.1.nm:Key),V.ref e.2)) (D8 x:Key) with
  |some v=>rfl
  |none =>
   refine absurd ?_<|IP hv;rw[c];exact ZA.mpr ⟨e,he,by rw[q]⟩
theorem Tf {c:Dd}(g:vR S)(h:c.length=S.length){i:Nat}{e:En}{t:D1}(j:S[i]?=some e)(l:c[i]?=some t):UP ((S.zip c).map λe=>((D8 e.1.nm:Key),V.ref e.2)) (D8 e.nm:Key)=some (V.ref t):=by
 have d:(((S.zip c).map λe=>((D8 e.1.nm:Key),V.ref e.2)).map (·.1)).Nodup:=by
  rw[MN h];have:=L6 (S:=λa b:Key=>a≠b) (λx=>(D8 x:Key)) (λa b h z=>h<|Sum.inr.inj z) g.nn;rw[ZY]at this;exact this
 have f:((D8 e.nm:Key),V.ref t)∈(S.zip c).map λe=>((D8 e.1.nm:Key),V.ref e.2) :=
  ZA.mpr ⟨(e,t),ZN (i:=i) (by rw[JH];exact⟨j,l⟩),rfl⟩
 exact uD d f
namespace Ay
abbrev st:Stmt:=top 63
theorem sc:zz ["table","thing"] ["table","thing"] (zF st):=CI
include T in
theorem ok (F:yc0 K "is_key" st f fd):zj P w K mg base CG 1 f fd ["table","thing"] (rA K):=by
 refine F.ok sc λ_ _ _ _ H vs Q E j h=>?_;obtain⟨e,c,d,v,rfl,g,hd,k⟩:=h;refine⟨_,(zE<|zL<|yZ (zM (zZ (K:=K)) (by rfl) T.isinstance Z1<|zA (pv 1)<|zA (yW (v:=.ty "str") rfl T.str Yk rfl) zC)<|xN<|yI (XA j.units) (pv 1) (pv 0)<|by with_unfolding_all rfl),?_⟩;refine⟨_,rfl,_,_,d,_,rfl,hd,T.is<|by simp[kinds],_,rfl,?_⟩;cases d with
 |str x =>
  cases(show v=_ from hd);exact UV ⟨_,rfl,_,rfl,e,_,rfl,wO.k (k:=(D8 x:Key)) g,k⟩
 |none=>exact UQ k
 |bool b=>exact UQ k
 |int i=>exact UQ k
 |list ds=>exact UQ k
 |tuple ds=>exact UQ k
 |dict c=>exact UQ k
end Ay
theorem RT {S:Di}{c:Dd}(h:c.length=S.length)(d:Ea):WO ((S.zip c).map λe=>((D8 e.1.nm:Key),V.ref e.2)) d=Fe S d:=by
 cases d with
 |str x=>exact RU h x
 |none=>rfl
 |bool b=>rfl
 |int i=>rfl
 |list ds=>rfl
 |tuple ds=>rfl
 |dict Dm=>rfl
namespace Az
abbrev st:Stmt:=inClass (top 66) 5
theorem sc:zz ["self","name"] ["self","name"] (zF st):=CI
include T in
theorem ok (F:yc K "has" "Shelf.has" st f fd)(b:yo P w K mg base 1 "is_key" ["table","thing"]<|rA K):zj P w K mg base CG 2 f fd ["self","name"] (qt P w K aC):=by
 refine F.ok sc λ_ _ _ _ H vs Q E n h=>?_;obtain⟨a,q,S,d,v,rfl,sh,hd,k⟩:=h;refine⟨_,(zE<|zL<|zG b n.m<|zA (yO (pv 0) rfl)<|zA (pv 1) zC),?_⟩;obtain⟨g,e,c,o,p,z,nx,rfl,nd,i,r,j,l,s,t,u,x,y⟩:=sh;refine⟨_,rfl,a,aC,e,_,_,rfl,i,T.cls,T.n1,rfl,_,rfl,c,_,d,v,rfl,l,hd,?_⟩;rwa[RT j d]
end Az
namespace AA
abbrev st:Stmt:=top 64
theorem sc:zz ["store","name"] ["store","name"] (zF st):=CI
include T in
theorem ok (F:yc0 K "need_name" st f fd)(b:Met P w K mg base aC 2 "has" ["self","name"]<|qt P w K aC):zj P w K mg base CG 3 f fd ["store","name"] (vA P w K aC):=by
 refine F.ok sc λ_ _ _ _ H vs Q E j h=>?_;obtain⟨a,r,S,d,v,rfl,sh,hd,l,n⟩:=h;refine⟨_,(zE<|yD (y6<|zS (K:=K)<|zX (pv 0) T.cls b j.m<|zA (pv 1) zC) (zE yT) zP),?_⟩
 obtain⟨g,c,o,p,q,C,nx,e,nd,i,s,t,u,x,y,z,A,B⟩:=id sh;refine⟨_,rfl,a,c,_,rfl,i,rfl,_,rfl,a,_,S,d,v,rfl,sh,hd,_,rfl,?_⟩;rw[l];exact UQ n
end AA
namespace AB
abbrev st:Stmt:=inClass (top 66) 6
theorem sc:zz ["self","name"] ["self","name"] (zF st):=CI
include T in
theorem ok (F:yc K "thing" "Shelf.thing" st f fd)(p:yo P w K mg base 3 "need_name" ["store","name"]<|vA P w K aC):zj P w K mg base CG 4 f fd ["self","name"] (wu P w K aC):=by
 refine F.ok sc λ_ _ _ _ H vs Q E l h=>?_;obtain⟨a,L,S,d,v,rfl,sh,hd,q,G⟩:=h;have D:=Hg l;refine⟨_,(zD (z8<|zG p l.m<|zA (pv 0)<|zA (pv 1) zC)<|zE<|zL<|MY D (yO (pv 0) rfl) (pv 1)<|λ_ _=>rfl),?_⟩
 obtain⟨g,s,r,I,J,j,nx,t,nd,y,M,z,A,N,O,R,U,B⟩:=id sh;refine⟨_,rfl,_,rfl,a,_,S,d,v,rfl,sh,hd,q,?_⟩;cases d with
 |str x =>
  cases(show v=_ from hd);have q:x∈S.map En.nm:=ZJ q;obtain⟨e,he,rfl⟩:=ZA.mp q;obtain⟨i,C,u⟩:=Z8.mp he;have c:i<j.length:=by lia
  have n:S[i]?=some e:=by rw[ZD C,u]
  have o:j[i]?=some j[i]:=ZD c;have hv:=Tf g z n o;exact⟨_,rfl,a,aC,s,_,_,rfl,y,T.cls,T.n1,rfl,_,rfl,r,_,rfl,by rw[<-hv];exact wO.k (k:=(D8 e.nm:Key)) A,G e he rfl _<|B i e _ n o⟩
 |none=>cases q
 |bool b=>cases q
 |int i=>cases q
 |list ds=>cases q
 |tuple ds=>cases q
 |dict Dm=>cases q
end AB
namespace AC
abbrev st:Stmt:=inClass (top 66) 4
theorem sc:zz ["self","name","forms"] ["self","name","forms"] (zF st):=CI
include T in
theorem ok (F:yc K "need_form" "Shelf.need_form" st f fd)(p:Met P w K mg base aC 4 "thing" ["self","name"]<|wu P w K aC):zj P w K mg base CG 5 f fd ["self","name","forms"] (tM P w K aC):=by
 refine F.ok sc λ_ _ _ _ H vs Q E n h=>?_;obtain⟨a,v,I,S,x,b,rfl,sh,th,A,j,i,k⟩:=h;refine⟨_,(zE<|yD (zR (Ps (K:=K) n.units) (z7 (za:CM _<|xu K) (zX (pv 0) T.cls p n.m<|zA (pv 1) zC) zJ) (pv 2)<|by with_unfolding_all rfl) (zE yT) zP),?_⟩
 obtain⟨g,q,C,D,G,L,nx,u,nd,y,_⟩:=id sh;refine⟨_,rfl,a,q,_,rfl,y,rfl,_,rfl,a,_,S,.str x,.str x,rfl,sh,rfl,?_,λe he ex t o=>?_⟩
 .cases no:Fe S (.str x) with
  |true=>rfl
  |false =>
   have no:x∉S.map En.nm:=J8 no;rw[OF no b]at i;cases i
 .have ex:x=e.nm:=by injection ex
  obtain⟨d,l,J,_⟩:=th e he;rw[l]at o;obtain⟨c,r,s,z⟩:=j6 o;cases s;have B:=jK l;have fe:=IB g he b;rw[<-ex,B]at fe;refine⟨t,_,_,_,rfl,rfl,z,FP _ _,_,rfl,.str d.word,b.map .str,rfl,⟨v,_,rfl,A,zc.strs b⟩,(kY b j).1,?_,(show 0<=60 by decide),!decide (d.word∈b),?_,?_⟩
  .cases d
   .show D9 "leaf"=true;decide+kernel
   .show D9 "tree"=true;decide+kernel
   .show D9 "note"=true;decide+kernel
  .rw[Oj];cases decide (d.word∈b)<;>rfl
  .rw[i]at fe;rw[<-fe];exact UQ k
end AC
theorem WT:∀y∈(["leaf","tree"]:Da),D9 y=true:=λy b=>by
 rcases ZI.mp b with rfl|b
 .decide+kernel
 .rw[Zv.mp b];decide+kernel
theorem bD:∀y∈(["tree"]:Da),D9 y=true:=λy b=>by
 rw[Zv.mp b];decide+kernel
theorem aU:∀y∈(["note"]:Da),D9 y=true:=λy b=>by
 rw[Zv.mp b];decide+kernel
namespace AD
abbrev st:Stmt:=inClass (top 66) 3
theorem sc:zz ["self","thing","row","parent"] ["self","thing"] (zF st):=CI
include T in
theorem ok (F:yc K "need_names" "Shelf.need_names" st f fd)(M:Met P w K mg base aC 5 "need_form" ["self","name","forms"]<|tM P w K aC):zj P w K mg base CG 6 f fd ["self","thing"] (tE P w K aC):=by
 refine F.ok sc λ_ A _ _ H vs Q E X h=>?_;obtain⟨a,R,S,t,v,rfl,sh,th,hd,d,k⟩:=h;refine⟨_,(Im (yD (zR qM (z7 (za:CM _<|xu K) (pv 1) zJ) zr<|z4 _) (zE<|yY El rfl (jV<|z7 (za:CM _<|xu K) (pv 1) zJ) (zO (i:=2) sc.nd rfl<|Et rfl)<|zE<|z8<|zX (pv 0) T.cls M X.m<|zA (z7 (za:CM _<|xu K) (pv 2) zJ)<|zA (x6<|zA zr<|zA zr zC) zC) zP)<|zE<|yD (zR qM (z7 (za:CM _<|xu K) (pv 1) zJ) zr<|z4 _) (zD (z8<|zX (pv 0) T.cls M X.m<|zA (z7 (za:CM _<|xu K) (pv 1) zJ)<|zA (x6<|zA zr zC) zC)<|zE<|yY El rfl (jV<|z7 (za:CM _<|xu K) (pv 1) zJ) (zO (i:=3) sc.nd rfl<|Et rfl)<|zE<|z8<|zX (pv 0) T.cls M X.m<|zA (pv 3)<|zA (x6<|zA zr zC) zC) zP),?_⟩
 obtain⟨g,N,d1,d2,d3,ts,nx,ab,nd,U,_⟩:=id sh;cases t with
 |leaf ls =>
  obtain⟨p,b,rfl,n,I⟩:=Fp hd;refine⟨λj l=>j=[some<|.ref a,some<|.ref p,none,none]/\l=H,⟨_,rfl,p,_,_,_,rfl,rfl,n,rfl,rfl,false,congrArg V.bl<|by decide+kernel,UQ (A:=False) ⟨rfl,rfl⟩⟩,?_⟩;rintro j l ⟨rfl,rfl⟩;exact⟨_,rfl,p,_,_,_,rfl,rfl,n,rfl,rfl,false,congrArg V.bl<|by decide+kernel,UQ (A:=False)<|k _<|zy.refl _⟩
 |tree rs =>
  obtain⟨p,b,rfl,n,I⟩:=FJ hd;obtain⟨b',xs,e,J,hx⟩:=I;cases e;have d:(rs.all λr=>z9 S r.2 ["leaf","tree"])=true:=d;refine⟨λj l=>∃o,j=[some<|.ref a,some<|.ref p,o,none]/\zy H l,?_,?_⟩
  .refine⟨_,rfl,p,_,_,_,rfl,rfl,n,rfl,rfl,true,congrArg V.bl<|Zz rfl,UV (B:=False) ?_⟩;refine⟨_,rfl,p,_,_,_,rfl,rfl,n,rfl,b,rfl,⟨_,J⟩,uC (K:=K) (a:=b) (xs:=xs) (λi D u=>∃o,D=[some<|.ref a,some<|.ref p,o,none]/\zy H u) ⟨none,rfl,zy.refl _⟩ (λi D u _ ⟨_,_,e⟩=>e.yh J) ?_ λ_ _ z=>z⟩;rintro i x D u L ⟨o,rfl,s⟩;obtain⟨r,c,O,rfl,hc⟩:=HS hx L;refine⟨_,rfl,a,N,_,rfl,s _ _ U,rfl,_,rfl,c,_,_,_,rfl,rfl,s.yh hc,rfl,UT 2,λq Y=>?_⟩;have C:=s.trans<|zI (o:=.tup [V.str "leaf",V.str "tree"]) Y;exact⟨a,q,R,S,r.2,["leaf","tree"],rfl,sh.same C,th,xj.of zB,WT,Z9.mp d r<|ZN O,_,rfl,C⟩
  .rintro j l ⟨o,rfl,s⟩;exact⟨_,rfl,p,_,_,_,rfl,rfl,s.yh n,rfl,rfl,false,congrArg V.bl<|by decide+kernel,UQ (A:=False)<|k _ s⟩
 |note x ps y =>
  obtain⟨p,b,rfl,n,I⟩:=jM hd;have d:(z9 S x ["tree"]&&ps.all λp=>z9 S p ["note"])=true:=d;rw[ZG]at d;refine⟨λj l=>j=[some<|.ref a,some<|.ref p,none,none]/\l=H,⟨_,rfl,p,_,_,_,rfl,rfl,n,rfl,rfl,false,congrArg V.bl<|by decide+kernel,UQ (A:=False) ⟨rfl,rfl⟩⟩,?_⟩;rintro j l ⟨rfl,rfl⟩;refine⟨_,rfl,p,_,_,_,rfl,rfl,n,rfl,rfl,true,congrArg V.bl<|Zz rfl,UV (B:=False) ?_⟩;refine⟨_,rfl,a,N,_,rfl,U,rfl,_,rfl,p,_,_,_,rfl,rfl,n,rfl,UT 1,λq Y=>?_⟩;have C:=zI (o:=.tup [V.str "tree"]) Y;refine⟨a,q,R,S,x,["tree"],rfl,sh.same C,th,xj.of zB,bD,d.1,?_⟩;show Kh _ _ (upd l q<|.tup [V.str "tree"]);generalize upd l q (.tup [V.str "tree"])=G at C;refine⟨_,rfl,p,_,_,_,rfl,rfl,C.yh n,rfl,b,rfl,⟨_,C.yh I⟩,uC (K:=K) (a:=b) (xs:=ps.map V.str) (λi D u=>∃o,D=[some<|.ref a,some<|.ref p,none,o]/\zy l u) ⟨none,rfl,C⟩ (λi D u _ ⟨_,_,e⟩=>e.yh I) ?_ ?_⟩
  .rintro i z D u L ⟨o,rfl,s⟩;rw[ZF]at L;obtain⟨r,O,rfl⟩:=Z0.mp L;refine⟨_,rfl,a,N,_,rfl,s _ _ U,rfl,_,rfl,UT 1,λq2 Z=>?_⟩;have s4:=s.trans<|zI (o:=.tup [V.str "note"]) Z;exact⟨a,q2,R,S,r,["note"],rfl,sh.same s4,th,xj.of zB,aU,Z9.mp d.2 r<|ZN O,_,rfl,s4⟩
  .rintro D u ⟨o,rfl,s⟩;exact k _ s
end AD
theorem Ft (g:vR S){e f:En}(he:e∈S)(l:f∈S)(h:e.nm=f.nm):e=f:=by
 obtain⟨i,n,b⟩:=Z8.mp he;obtain⟨j,o,c⟩:=Z8.mp l;have d:=Vq.mp g.nn;have:i=j:=by
  rcases VP i j with z|z|z
  .exact absurd (by rwa[Yb,Yb,b,c]) (d i j (by rwa[Zu]) (by rwa[Zu]) z)
  .exact z
  .exact absurd (by rw[Yb,Yb,b,c];exact h.symm) (d j i (by rwa[Zu]) (by rwa[Zu]) z)
 subst this;rw[<-b,c]
namespace AE
abbrev st:Stmt:=inClass (top 66) 2
theorem sc:zz ["self","thing","head","number","name"] ["self","thing"] (zF st):=CI
include T in
theorem ok (F:yc K "put" "Shelf.put" st f fd)(QU:yo P w K mg base 6 "need_thing" ["thing"]<|rC K)(QV:Met P w K mg base aC 6 "need_names" ["self","thing"]<|tE P w K aC)
  (Qp:yo P w K mg base 1 "letter_of" ["thing"]<|ID K) (QW:yo P w K mg base 4 "digest" ["thing"]<|HZ K) (QX:Met P w K mg base aC 1 "take" ["self","name","thing"]<|rR P w K aC):zj P w K mg base CG 7 f fd ["self","thing"] (vD P w K aC):=by
 refine F.ok sc λ_ A _ _ H vs Q E l h=>?_;obtain⟨a,fp,S,t,v,rfl,sh,th,hd,g,hl,hn,ab,k3⟩:=h;have gt:=g.1;have hu:=Hg l;refine⟨_,(zD (z8<|zG QU l.m<|zA (pv 1) zC)<|zD (z8<|zX (pv 0) T.cls QV l.m<|zA (pv 1) zC)<|zD (yD (zR (TL l.units) (pv 1) (yO (pv 0) rfl)<|by with_unfolding_all rfl) (zE<|zL<|Si l.units (yO (pv 0) rfl) (pv 1)<|λ_ _=>rfl) zP)<|zD (CK (i:=2) sc.nd<|zY zW (zG Qp l.m<|zA (pv 1) zC)<|zT xI (by rfl) T.str Yk<|zA (zG QW l.m<|zA (pv 1) zC) zC)<|zD (CK (i:=3) sc.nd<|IR hu (yO (pv 0) rfl) (pv 2) zJ ⟨rfl,rfl,rfl,rfl⟩)<|zD (CK (i:=4) sc.nd<|WY (pv 2)<|pv 3)<|zD (z8<|zX (pv 0) T.cls QX l.m<|zA (pv 4)<|zA (pv 1) zC)<|zE<|zL<|pv 4),?_⟩
 refine⟨_,rfl,t,v,rfl,hd,g,λH1 s1=>?_⟩;obtain⟨y,ev⟩:∃t,v=.ref t:=by
  obtain⟨c,r,e,_⟩:=j6 hd;exact⟨c,e⟩
 subst ev;have j:=sh.same s1;have q:=Dt.same s1 _ _ hd;obtain⟨R,x,d1,N,d3,ts,nx,B,nd,o,U,h3,h4,M,X,h7,Y,h9⟩:=id j;refine⟨_,rfl,a,x,_,rfl,o,rfl,_,rfl,a,fp,S,t,.ref y,rfl,j,th,q,ab,λH2 s2=>?_⟩;have I:=s1.trans s2;have s:=j.same s2;have b:=Dt.same s2 _ _ q;clear j U h3 h4 M X h7 Y h9 o q B nd;obtain⟨R,x,d1,N,d3,ts,nx,B,nd,o,U,h3,h4,M,X,h7,Y,h9⟩:=id s;have kt:=BN gt;refine⟨_,rfl,_,rfl,a,aC,x,_,_,rfl,o,T.cls,T.n2,rfl,y,N,_,t.dat,rfl,rfl,M,kt,b,_,rfl,?_⟩;cases hv:UP (S.map λe=>(e.d,V.str e.nm)) t.dat with
 |some u =>
  obtain⟨p,hp,e⟩:=ZA.mp<|qJ hv;obtain⟨L,C,rfl⟩:=ZA.mp hp;have e:L.d=t.dat:=e;have Z:UP (S.map λe=>(e.d,V.str e.nm)) t.dat=some (V.str L.nm):=uD (by rw[ZY];exact R.nd) (ZA.mpr ⟨L,C,by rw[e]⟩);exact UV ⟨_,rfl,a,aC,x,_,_,rfl,o,T.cls,T.n2,rfl,_,rfl,y,N,_,t.dat,_,rfl,rfl,M,kt,b,Z,k3 _ S L ⟨Off.of I,s,C,e,.inl rfl⟩⟩
 |none =>
  have D:t.dat∉S.map (·.d):=λz=>by
   have:=IP hv;rw[ZY]at this;exact this z
  refine UQ (A:=False) ?_;have db:=IM t.sp;have G:=hn<|U3 t;refine⟨_,rfl,.ref y,t,rfl,b,_,rfl,.ref y,t,rfl,b,gt,λH3 J=>⟨_,rfl,?_,_,_,rfl,rfl,?_,?_⟩⟩
  .have hz:(dg t.sp).natAbs<97:=by lia
   rcases JD (dg t.sp).natAbs with z|z
   .rw[z];decide
   .have:(dg t.sp).natAbs.log2<7:=(Nat.log2_lt<|by lia).mpr (by lia);lia
  .rw[Pn];have o:=HC (n:=(dg t.sp).toNat) (by lia);have U:=IZ t;exact zx (by lia)
  rw[Pn];show Xo 2 (V.str<|U3 t) _ H3 _;have ac:=s.same J;have g1:=J _ _ o;have g6:=J _ _ X;refine⟨_,rfl,a,aC,x,_,_,rfl,g1,T.cls,T.n3,rfl,d3,rfl,.inl ⟨_,.inl g6⟩,_,rfl,_,wO.k (k:=(D8 (U3 t):Key)) g6,?_⟩;have em:(UP nx (D8 (U3 t):Key)).getD (V.int 0)=V.int (((yd S<|U3 t).getD 0:Nat):Int):=by
   rw[Y];cases yd S (U3 t) with
   |none=>rfl
   |some m=>rfl
  rw[em];have dl:(".":Str).length=1:=by decide+kernel
  refine⟨_,rfl,_,rfl,by have:=j9 t;lia,by rw[dl];decide,_,rfl,_,rfl,G,?_⟩;have O:U3 t++"."++U4 ((yd S<|U3 t).getD 0)=(G2 S t).nm:=by unfold En.nm G2;rw[Ow]
  rw[O];refine⟨_,rfl,a,x,_,rfl,g1,rfl,_,rfl,_,rfl,a,fp,S,G2 S t,y,rfl,ac,⟨kt,jG t,G,j9 t⟩,Dt.same J _ _ b,D,Ph R<|jG t,hl,λH4 o4 ad=>?_⟩;exact⟨_,rfl,k3 _ _ _ ⟨(Off.of<|I.trans J).trans o4,ad,by simp,rfl,.inr ⟨rfl,rfl,D⟩⟩⟩
end AE
namespace AF
abbrev st:Stmt:=inClass (top 66) 0
theorem sc:zz ["self","base","name"] ["self","base"] (zF st):=CI
include T in
theorem ok (F:yc K "__init__" "Shelf.__init__" st f fd):zj P w K mg base CG 5 f fd ["self","base"] (rQ P w K aC):=by
 refine F.ok sc λ_ A _ _ H vs Q E hr h=>?_;obtain⟨x,j,rfl,hx,B,ne,k⟩:=h;refine⟨_,(zD (IG (pv 0) yM rfl)<|zD (IG (pv 0) PD rfl)<|zD (IG (pv 0) yM rfl)<|zE<|yD (zR Ix (pv 1) qK<|z4 _) BF zP),?_⟩
 refine λd n1=>⟨_,rfl,x,aC,j,_,rfl,(zI n1) _ _ hx,T.cls,T.n1,by decide,?_⟩;have q:x≠d:=zK hx n1;have I:j≠d:=zK B n1;refine λb o2 n2 T2 e2=>?_;obtain⟨es,rfl⟩:=e2;have U:b≠x/\b≠d/\H b=none:=by
  refine⟨λz=>?_,λz=>?_,?_⟩
  .rw[z,zB]at n2;cases n2
  .rw[z,zH<|Eh q,zB]at n2;cases n2
  .have C:b≠x:=λz=>by rw[z,zB]at n2;cases n2
   have N:b≠d:=λz=>by rw[z,zH<|Eh q,zB]at n2;cases n2
   rw[zH C,zH N]at n2;exact n2
 obtain⟨l,s,u⟩:=U;have J:j≠b:=zK B u;refine⟨_,rfl,x,aC,j,[("thing_by_name",V.ref d)],rfl,by rw[zH<|Eh l,zB];rfl,T.cls,T.n2,(show 1<1000 by decide),?_⟩;refine λg n3=>?_;have X:g≠x/\g≠b/\g≠d/\H g=none:=by
  have C:g≠x:=λz=>by rw[z,zB]at n3;cases n3
  have N:g≠b:=λz=>by rw[z,zH l,zB]at n3;cases n3
  have a3:g≠d:=λz=>by rw[z,zH<|Eh q,zH<|Eh s,zH<|Eh q,zB]at n3;cases n3
  refine⟨C,N,a3,?_⟩;rw[zH C,zH N,zH C,zH a3]at n3;exact n3
 obtain⟨y,G,D,v⟩:=X;have L:j≠g:=zK B v;refine⟨_,rfl,x,aC,j,[("thing_by_name",V.ref d),("name_by_thing",V.ref b)],rfl,by rw[zH<|Eh y,zB];rfl,T.cls,T.n3,(show 2<1000 by decide),?_⟩;obtain⟨n,p⟩:∃n,n=upd (upd (upd (upd (upd (upd H d<|.dK []) x<|.ins aC j<|US "thing_by_name" (V.ref d) []) b<|Gy b es) x<|.ins aC j<|US "name_by_thing" (V.ref b) [("thing_by_name",V.ref d)]) g<|.dK []) x (.ins aC j<|US "next_numbers" (V.ref g) [("thing_by_name",V.ref d),("name_by_thing",V.ref b)]):=⟨_,rfl⟩;have q0:n x=some (.ins aC j<|OB d b g):=by rw[p,zB];rfl
 have q1:n d=some (.dK []):=by rw[p,zH<|Eh q,zH<|Eh D,zH<|Eh q,zH<|Eh s,zH<|Eh q,zB]
 have q2:n b=some (Gy b es):=by rw[p,zH l,zH<|Eh G,zH l,zB]
 have q3:n g=some (.dK []):=by rw[p,zH y,zB]
 have qx:n j=some (.own x):=by rwa[p,zH ne,zH L,zH ne,zH J,zH ne,zH I]
 have Y:Off [x] H n:=λc o O e=>by
  have R:c≠x:=λz=>O (by rw[z];exact Zx);rwa[p,zH R,zH<|zK e v,zH R,zH<|zK e u,zH R,zH<|zK e n1]
 have S:∀c∈[x,j,d,b,g],c=x\/c=j\/H c=none:=λc O=>by
  simp only[ZI,Y4,Ua]at O
  rcases O with rfl|rfl|rfl|rfl|rfl
  .exact .inl rfl
  .exact .inr (.inl rfl)
  .exact .inr (.inr n1)
  .exact .inr (.inr u)
  .exact .inr (.inr v)
 have ab:yg P w K aC n x [x,j,d,b,g] []:=by
  obtain⟨_,_,_,xs,M,r⟩:=T2;cases r;rw[zB]at M;have Z:n b=some (Gy b<|List.map (LO<|yK P w) []):=q2.trans M;exact⟨vR.nil,j,d,b,g,[],[],rfl,by simp[Eh ne,q,Eh l,Eh y,I,J,L,Eh s,Eh D,Eh G],q0,qx,rfl,q1,⟨Yf _,λ_ z=>(nomatch z),YN,[],Z,.nil⟩,q3,Yf _,λh=>rfl,λi e t z=>by cases z⟩
 rw[<-p];clear p;exact⟨_,rfl,rfl,false,congrArg V.bl (by rw[Zz rfl];rfl),UQ (A:=False)<|k _ _ S Y ab⟩
end AF
inductive rO (K:CB)(vs:Dj)(H:Hp)(Q:VK)(e3:XK):Prop
 |mk (d:Ea) (v:V) (h0:vs=[v]) (h1:Dw K H d v) (h2:small d=true) (h3:∀H',zy H H'->Q (.bl<|HI d) H'):rO K vs H Q e3
inductive tV (K:CB)(vs:Dj)(H:Hp)(Q:VK)(e3:XK):Prop
 |mk (x:Str) (h0:vs=[.str x]) (h1:x.length<=1000) (h2:∀p H',zy H H'->yj K H' p ((G1 x).map V.str)->Q (.ref p) H'):tV K vs H Q e3
inductive rD (K:CB)(vs:Dj)(H:Hp)(Q:VK)(e3:XK):Prop
 |mk (d e:Ea) (v u:V) (h0:vs=[v,u]) (h1:Dw K H d v) (h2:Dw K H e u) (h3:small d=true) (h4:small e=true) (h5:∀H',zy H H'->Q (.bl<|HI d&&uK e) H'):rD K vs H Q e3
theorem Sv:[V.str "/"]=[V.str ⟨#[47]⟩]:=by rw[XS];rfl
theorem OS (x:Str):PySem.Txt.split x ⟨#[47]⟩=UW x:=by unfold UW;rw[XS];rfl
theorem rG:UZ x=true↔x.length<=20/\(cs x).all U7=true:=by
 unfold UZ;rw[ZG,Yh]
theorem vP:zU x=true↔1<=x.length/\x.length<=8/\(cs x).all Xc=true:=by
 unfold zU;rw[ZG,ZG,Yh,Yh,and_assoc]
theorem kE (h:UZ x=true):Ok 1000 x:=by
 obtain⟨e,b⟩:=rG.mp h;refine⟨by lia,?_⟩;rw[yJ];intro c d;have:=Z9.mp b c d;unfold U7 at this;simp only[ZG,Yh]at this;lia
theorem GK (h:zU x=true):Ok 1000 x:=⟨by have:=(vP.mp h).2.1;lia,G5 h⟩
theorem q8:∀{ls:Da},(∀l∈ls,l.length<=1000)->yC (ls.map .str)=true
 |[],_=>rfl
 |l::ls,h=>by
  show(decide (l.length<=1000)&&yC (ls.map .str))=true;rw[Zz<|h l Zx,q8 λx b=>h x<|Zw _ b];rfl
theorem Go:∀{rs:Dg},(∀r∈rs,r.1.length<=1000/\r.2.length<=1000)->yC (rs.map zm)=true
 |[],_=>rfl
 |r::rs,h=>by
  obtain⟨b,c⟩:=h r Zx;show((decide (2<=1000)&&(decide (r.1.length<=1000)&&(decide (r.2.length<=1000)&&true)))&&yC (rs.map zm))=true;rw[Zz b,Zz c,Go λx d=>h x<|Zw _ d];rfl
theorem NH {ls:Da}(h:∀l∈ls,UZ l=true)(hl:ls.length<=63):kS (.leaf ls):=by
 have d:∀l∈ls,l.length<=1000:=λl hl=>(kE<|h l hl).len;refine⟨⟨by show ls.length<=1000;lia,λp f=>kE<|h p f⟩,?_,?_,λc e=>?_⟩
 .show((decide (("leaf":Str)="leaf")&&(decide (1=1)&&((ls.map Eu).all Xe)))||_)=true;have:(ls.map Eu).all Xe=true:=by rwa[List.all_map,Z9]
  rw[this,Zz rfl];rfl
 .show(decide (2<=1000)&&(decide (("leaf":Str).length<=1000)&&((decide ((ls.map Eu).length<=1000)&&yC (ls.map .str))&&true)))=true;rw[q8 d,Zu,Zz<|show ls.length<=1000 by lia,Zz<|show("leaf":Str).length<=1000 by decide+kernel];rfl
 .have e:[Eu "leaf",.tuple<|ls.map .str]=c:=by injection e
  subst e;refine⟨by show 2<=63;decide,λe he g b=>?_⟩
  rcases ZI.mp he with q|q
  .rw[q]at b;cases b
  .rw[Zv.mp q]at b;cases b;rwa[Zu]
theorem NK {rs:Dg}(h:∀r∈rs,zU r.1=true/\Ok 1000 r.2)(c:Xm (rs.map (·.1))=true)(hl:rs.length<=63):kS (.tree rs):=by
 have j:∀rs:Dg,(∀r∈rs,zU r.1=true/\Ok 1000 r.2)->∀p∈yA rs,Ok 1000 p:=by
  intro rs
  induction rs with
  |nil=>intro _ p b;cases b
  |cons r rs ih =>
   intro h p b
   rcases ZI.mp b with q|b
   .rw[q];exact GK (h r Zx).1
   .rcases ZI.mp b with q|b
    .rw[q];exact(h r Zx).2
    .exact ih (λx l=>h x<|Zw _ l) p b
 refine⟨⟨?_,j rs h⟩,?_,?_,λf e=>?_⟩
 .show(yA rs).length<=1000;rw[Aq.wA];lia
 .show((decide (("tree":Str)="leaf")&&(decide (1=1)&&uK (.tuple<|rs.map zm)))||((decide (("tree":Str)="tree")&&(decide (1=1)&&((rs.map zm).all Xl&&Xm ((rs.map zm).map Xg))))||_))=true;have g:(rs.map zm).all Xl=true:=by
   rw[List.all_map,Z9];intro r c;show(zU r.1&&true)=true;rw[(h r c).1];rfl
  have i:(rs.map zm).map Xg=rs.map (·.1):=by rw[ZY];rfl
  rw[g,i,c,ZP<|show¬("tree":Str)="leaf" by decide+kernel,Zz<|show("tree":Str)="tree" from rfl];rfl
 .show(decide (2<=1000)&&(decide (("tree":Str).length<=1000)&&((decide ((rs.map zm).length<=1000)&&yC (rs.map zm))&&true)))=true;rw[Go λr c=>⟨(GK (h r c).1).len,(h r c).2.len⟩,Zu,Zz<|show rs.length<=1000 by lia,Zz<|show("tree":Str).length<=1000 by decide+kernel];rfl
 .have e:[Eu "tree",.tuple<|rs.map zm]=f:=by injection e
  subst e;refine⟨by show 2<=63;decide,λe he n d=>?_⟩
  rcases ZI.mp he with q|q
  .rw[q]at d;cases d
  .rw[Zv.mp q]at d;cases d;rwa[Zu]
theorem BC {ps:Da}(j:Ok 1000 x)(c:UZ y=true)(d:∀p∈ps,Ok 1000 p)(nd:ps.Nodup)(hl:ps.length<=2):kS (.note x ps y):=by
 refine⟨⟨?_,λp h=>?_⟩,?_,?_,λf e=>?_⟩
 .show([x,dig ps.length]++ps++[y]).length<=1000;simp;lia
 .have h:p∈[x,dig ps.length]++ps++[y]:=h;simp at h
  rcases h with z|z|z|z
  .rwa[z]
  .rw[z];exact⟨Yn (BV<|by lia)<|by decide,KY _⟩
  .exact d p z
  .rw[z];exact kE c
 .show((decide (("note":Str)="leaf")&&(decide (3=1)&&uK (.str x)))||((decide (("note":Str)="tree")&&(decide (3=1)&&Bb (.str x)))||(decide (("note":Str)="note")&&(decide (3=3)&&(true&&(((ps.map Eu).all Xj&&(decide ((ps.map Eu).length<=2)&&decide ((AxS.uniq<|(ps.map Eu).map Oc).length=(ps.map Eu).length)))&&UZ y))))))=true;have g:(ps.map Eu).all Xj=true:=by rw[List.all_map,Z9];exact λ_ _=>rfl
  have i:(ps.map Eu).map Oc=ps:=by rw[ZY];exact VI _
  rw[g,i,Bj nd,Zu,c,Zz hl,Zz<|show ps.length=ps.length from rfl,ZP<|show¬("note":Str)="leaf" by decide+kernel,ZP<|show¬("note":Str)="tree" by decide+kernel,Zz<|show("note":Str)="note" from rfl];rfl
 .show(decide (4<=1000)&&(decide (("note":Str).length<=1000)&&(decide (x.length<=1000)&&((decide ((ps.map Eu).length<=1000)&&yC (ps.map .str))&&(decide (y.length<=1000)&&true)))))=true;rw[q8 λp h=>(d p h).len,Zu,Zz<|show ps.length<=1000 by lia,Zz j.len,Zz (kE c).len,Zz<|show("note":Str).length<=1000 by decide+kernel];rfl
 .have e:[Eu "note",.str x,.tuple<|ps.map .str,.str y]=f:=by injection e
  subst e;refine⟨by show 4<=63;decide,λe he l b=>?_⟩;simp only[ZI,Y4,Ua]at he
  rcases he with q|q|q|q
  .rw[q]at b;cases b
  .rw[q]at b;cases b
  .rw[q]at b;cases b;rw[Zu];lia
  .rw[q]at b;cases b
theorem Sr {l:Da}(h:l.Pairwise CV):Xm l=true:=uv.mpr ⟨h.imp λ{a b} z q=>List.lt_asymm z q,Yd.mpr<|h.imp λ{a b} z=>MR z⟩
theorem Fd (h:z9 S x ws=true):x∈S.map En.nm:=by
 unfold z9 at h;obtain⟨e,he,q⟩:=Yq.mp h;rw[ZG,Yh]at q;exact ZA.mpr ⟨e,he,q.1⟩
theorem NC {ls:Da}(h:At S x<|.leaf ls):z9 S x ["leaf","tree"]=true:=by
 obtain⟨e,he,rfl,hd⟩:=h;refine Yq.mpr ⟨e,he,?_⟩;rw[ZG,ZQ,ZQ,jK hd];exact⟨rfl,Zx ..⟩
theorem ND {Dp:Dg}(h:At S x<|.tree Dp):z9 S x ["leaf","tree"]=true:=by
 obtain⟨e,he,rfl,hd⟩:=h;refine Yq.mpr ⟨e,he,?_⟩;rw[ZG,ZQ,ZQ,jK hd];exact⟨rfl,Zw _<|Zx ..⟩
theorem RO (h:Tree d S x):z9 S x ["leaf","tree"]=true:=by
 cases d with
 |zero=>exact absurd h<|λz=>z
 |succ d =>
  rcases h with⟨ls,h⟩|⟨Dp,h,_⟩
  .exact NC h
  .exact ND h
theorem P0 {K:CB}{Q:VK}{E:XK}(sh:yg P w K C H a fp S)(ok:wZ S)(g:kS t)(d:namesOk S t=true)(l:S.length<2000)(hv:Dt K H t.dat v)
  (k:∀H2,Off fp H H2->yg P w K C H2 a fp (CN S t).1->Q (.str (CN S t).2) H2):vD P w K C [.ref a,v] H Q E:=by
 refine⟨a,fp,S,t,v,rfl,sh,ok.th,hv,g,l,λh=>by have:=MS ok.num h;lia,d,λH2 r i o=>?_⟩
 .skip
  obtain⟨of,b,c,n,q⟩:=o
  rcases q with q|⟨q,j,p⟩
  .rw[q]at c b;have f:=Fy ok (x:=i.nm) ⟨i,c,rfl,n⟩;rw[f]at k;exact k H2 of b
  .have f:=HL (S:=S) (t:=t) λe he hd=>p<|ZA.mpr ⟨e,he,hd⟩;rw[f]at k;rw[j]at q;rw[q]at b;rw[j];exact k H2 of b
inductive vJ (P:D3)(w:D6)(K:CB)(C:D1)(vs:Dj)(H:Hp)(Q:VK)(e3:XK):Prop
 |mk (a d:D1) (fp:Dd) (S:Di) (Dp:Dg) (h0:vs=[.ref a,.ref d]) (h1:yg P w K C H a fp S) (h2:wZ S) (h3:Rd H d<|.dK<|Kp Dp) (h4:(Dp.map (·.1)).Nodup) (h5:(∀r∈Dp,zU r.1=true/\z9 S r.2 ["leaf","tree"]=true)) (h6:Dp.length<=63) (h7:S.length<2000) (h8:∀H',Off fp H H'->yg P w K C H' a fp (CN S<|.tree<|U6 Dp).1->Q (.str (CN S<|.tree<|U6 Dp).2) H'):vJ P w K C vs H Q e3
theorem Fh (h:yg P w K C H a fp S):∃dx d1 d2 d3,H a=some (.ins C dx<|OB d1 d2 d3):=by
 obtain⟨_,dx,d1,d2,d3,_,_,_,_,b,_⟩:=h;exact⟨dx,d1,d2,d3,b⟩
namespace AG
abbrev st:Stmt:=top 54
theorem sc:zz ["thing","labels"] ["thing"] (zF st):=CI
include T in
theorem ok (F:yc0 K "is_path" st f fd)(t:yo P w K mg base 1 "is_label" ["thing"]<|Iz K):zj P w K mg base CG 2 f fd ["thing"] (rO K):=by
 refine F.ok sc λ_ _ _ _ H vs Q E A h=>?_;obtain⟨d,v,rfl,hd,G,k⟩:=h;refine⟨_,(zD (yD (y6<|zS (K:=K)<|zM (zZ (K:=K)) (by rfl) T.isinstance Z1<|zA (pv 0)<|zA (yW (v:=.ty "str") rfl T.str Yk rfl) zC) (zE<|zL qY) zP)<|zD (CK (i:=1) sc.nd<|kW Y6 PySem.F.slot_str_split PySem.F.type_str_split Hy (pv 0)<|zA zr zC)<|zE<|zL<|yZ (yI HE (zM z5 (by rfl) T.len Yr<|zA (pv 1) zC) (qH (v:=.int 4) rfl T.rY ⟨_,rfl⟩)<|z4 _)<|xN<|zM (jC rfl) (by rfl) T.all Jo<|zA (xF (sc:=zF st) (N:=["thing","labels"]) (N':=["label"]) (src:=[none]) .a rfl rfl rfl (xC<|pv 1) (λ_ _ _ _=>(zO (i:=0) (show(["label"]:Da).Nodup by decide+kernel) rfl (Et rfl))) (λ_ _ _ _=>qA) (λ_ _ _ _=>(zG t A.m<|zA (pv 0) zC))) zC),?_⟩
 refine⟨_,rfl,_,_,d,_,rfl,hd,T.is<|by simp[kinds],_,rfl,?_⟩;cases d with
 |str x =>
  cases(show v=_ from hd);have M:x.length<=1000:=ZJ G;have J:=Gm x;refine UQ ⟨_,rfl,rfl,x,47,rfl,Sv,by lia,λl B=>?_⟩;rw[OS];have u:=zI (o:=.lst<|(UW x).map V.str) B;refine⟨_,rfl,l,_,rfl,.inl<|yj.of zB,_,_,rfl,rfl,_,rfl,U0 (λj=>?_)<|λj=>?_⟩
  .have j:(UW x).length<=4:=by have:=ZJ j;rw[Zu]at this;lia
   refine⟨_,rfl,l,rfl,⟨_,yj.of zB⟩,jA (K:=K) (a:=l) (xs:=(UW x).map V.str) (λi r s n=>∃o,s=[o]/\zy (upd H l<|.lst<|(UW x).map V.str) n/\r=(((UW x).take i).map zU).map V.bl) ⟨none,rfl,zy.refl _,rfl⟩ (zx (by rw[Zu];lia)) ?_ ?_ ?_⟩
   .rintro i r s n L ⟨o,rfl,g,rfl⟩;refine⟨yj.of<|g _ _ zB,?_⟩;rw[Zu,Zu,Z3];lia
   .rintro i y r s n c ⟨o,rfl,g,rfl⟩;rw[ZF]at c;cases q:(UW x)[i]? with
    |none=>rw[q]at c;cases c
    |some z =>
     rw[q]at c;have c:V.str z=y:=Option.some.inj c;subst c;have O:=Hi<|ZN q;refine⟨_,rfl,.str z,_,rfl,rfl,Zz<|by lia,λI D=>⟨_,rfl,g.trans D,?_⟩⟩;rw[y9 q,ZH];rfl
   .rintro r s n ⟨o,rfl,g,rfl⟩ p C;refine⟨p,_,rfl,yj.of zB,?_⟩;rw[Zu,Ya,all_map];have e:HI (.str x)=(UW x).all zU:=by
     show(decide ((UW x).length<=4)&&(UW x).all zU)=_;rw[Zz j];rfl
    rw[e]at k;exact k _<|(u.trans g).trans<|zI C
  .have e:HI (.str x)=false:=by
    show(decide ((UW x).length<=4)&&(UW x).all zU)=_;rw[ZP (p:=(UW x).length<=4)<|λz=>j<|Zz (by rw[Zu];lia)];rfl
   rw[e]at k;exact k _ u
 |none=>exact UV<|k _<|zy.refl _
 |bool b=>exact UV<|k _<|zy.refl _
 |int i=>exact UV<|k _<|zy.refl _
 |list ds=>exact UV<|k _<|zy.refl _
 |tuple ds=>exact UV<|k _<|zy.refl _
 |dict Dm=>exact UV<|k _<|zy.refl _
end AG
namespace AH
abbrev st:Stmt:=top 55
theorem sc:zz ["path","labels"] ["path"] (zF st):=CI
include T in
theorem ok (F:yc0 K "folders_of" st f fd):zj P w K mg base CG 1 f fd ["path"] (tV K):=by
 refine F.ok sc λ_ _ _ _ H vs Q E G h=>?_;obtain⟨x,rfl,I,k⟩:=h;refine⟨_,(zD (CK (i:=1) sc.nd<|kW Y6 PySem.F.slot_str_split PySem.F.type_str_split Hy (pv 0)<|zA zr zC)<|zE<|zL<|xF (sc:=zF st) (N:=["path","labels"]) (N':=["count","labels"]) (src:=[none,some 1]) .a rfl rfl rfl (N3 rfl T.range<|zA zJ<|zA (zM z5 (by rfl) T.len Yr<|zA (pv 1) zC) zC) (λ_ _ _ _=>(zO (i:=0) (show(["count","labels"]:Da).Nodup by decide+kernel) rfl (Et rfl))) (λ_ _ _ _=>qA) (λ_ _ _ _=>(kW (K:=K) Y6 V2 V3 (Pf (K:=K)) zr<|zA (x4 (oO:Wq _<|W6 K) (pv 1) qS<|qX<|pv 0) zC))),?_⟩
 have A:=Gm x;have B:=OT x;have j:("/":Str).length=1:=by decide+kernel
 refine⟨_,rfl,rfl,x,47,rfl,Sv,by lia,λl z=>?_⟩;rw[OS];have u:=zI (o:=.lst<|(UW x).map V.str) z;refine⟨_,rfl,l,_,rfl,.inl<|yj.of zB,1,(((UW x).map V.str).length:Int),rfl,⟨by decide,by decide,by lia,by rw[Zu];lia⟩,?_⟩;have q:((((UW x).map V.str).length:Int)-1).toNat=(UW x).length-1:=by rw[Zu];lia
 rw[q];refine jP (λi d e c=>∃o,e=[o,some<|.ref l]/\zy (upd H l<|.lst<|(UW x).map V.str) c/\d=((Ef i).map λi=>PySem.Txt.join "/"<|(UW x).take<|i+1).map V.str) ⟨none,rfl,zy.refl _,rfl⟩ (zx<|by lia) ?_ ?_ ?_
 .rintro i d e c t ⟨o,rfl,b,rfl⟩;rw[Zu,Zu,Yo];exact ZB _
 .rintro i d e c t ⟨o,rfl,b,rfl⟩;refine⟨rfl,_,rfl,_,rfl,_,rfl,l,_,rfl,yj.of<|b _ _ zB,λp g=>?_⟩;have r:GD ((UW x).map V.str) none (some<|1+(i:Int))=((UW x).take<|i+1).map V.str:=by
   rw[Ti<|by lia,UB]
   congr 1
   lia
  rw[r];refine⟨"/",p,(UW x).take<|i+1,rfl,rfl,.inl<|yj.of zB,?_,_,rfl,b.trans<|zI g,?_⟩
  .have C:=Mn (n:=1000) ((UW x).take<|i+1) (λy v=>by have:=Hi<|Y3 v;lia);have s:((UW x).take<|i+1).length<=1001:=by rw[Z3];lia
   have D:((UW x).take<|i+1).length*1000<=1001*1000:=Nat.mul_le_mul_right _ s;refine zx ?_;rw[j];lia
  .rw[Ug,ZH,ZH];rfl
 .rintro d e c ⟨o,rfl,b,rfl⟩ p g;exact k p _ ((u.trans b).trans<|zI g)<|yj.of zB
end AH
namespace AI
abbrev st:Stmt:=top 56
theorem sc:zz ["path","lines"] ["path","lines"] (zF st):=CI
include T in
theorem ok (F:yc0 K "is_file" st f fd)(i:yo P w K mg base 2 "is_path" ["thing"]<|rO K)(j:yo P w K mg base 3 "is_lines" ["thing"]<|FE K):zj P w K mg base CG 4 f fd ["path","lines"] (rD K):=by
 refine F.ok sc λ_ _ _ _ H vs Q E g h=>?_;obtain⟨d,e,v,u,rfl,hd,he,sd,n,k⟩:=h;refine⟨_,(zE<|zL<|yZ (zG i g.m<|zA (pv 0) zC)<|xN<|zG j g.m<|zA (pv 1) zC),?_⟩;refine⟨_,rfl,d,v,rfl,hd,sd,λo c=>⟨_,rfl,U0 (λb=>?_)<|λb=>?_⟩⟩
 .rw[b,Bool.true_and]at k;exact⟨_,rfl,e,u,rfl,Dw.same c _ _ he,n,λp l=>k _<|c.trans l⟩
 .have b:=JO.mpr b;rw[b]at k;exact k _ c
end AI
namespace AJ
abbrev st:Stmt:=top 70
theorem sc:zz ["shelf","rows"] ["shelf","rows"] (zF st):=CI
include T in
theorem ok (F:yc0 K "put_rows" st f fd)(I:Met P w K mg base aC 7 "put" ["self","thing"]<|vD P w K aC):zj P w K mg base CG 8 f fd ["shelf","rows"] (vJ P w K aC):=by
 refine F.ok sc λ_ _ _ _ H vs Q E B h=>?_;obtain⟨a,d,Y,S,c,rfl,sh,ok,hd,nd,j,rl,R,k⟩:=h;refine⟨_,(zE<|zL<|zX (pv 0) T.cls I B.m<|zA (x6<|zA zr<|zA (zT qE (by rfl) T.tuple YJ<|zA (PN (K:=K) rfl B.units (by rfl) T.sorted JT<|pv 1) zC) zC) zC),?_⟩;obtain⟨N,Z,i2,i3,t⟩:=Fh sh;have n:∀r∈c,zU r.1=true/\Ok 1000 r.2:=λr m=>by
  obtain⟨e,he,L⟩:=ZA.mp<|Fd (j r m).2;exact⟨(j r m).1,by rw[<-L];exact ok.nm he⟩
 refine⟨_,rfl,a,N,_,rfl,t,rfl,_,rfl,d,c,rfl,hd,by lia,λp A=>⟨(j4 (n p A).1).ok,(n p A).2.ok⟩,λl ss s z pm X U nl hl dt=>?_⟩;have M:=Rf nd pm X;subst M;refine⟨l,_,rfl,.inl ⟨yj.of hl,λq n2=>?_⟩⟩;have D:=zI (o:=.tup s) n2;refine⟨UT 2,λp4 O=>?_⟩;have y:=zI (o:=.tup [V.str "tree",V.ref q]) O;have i:=(U.trans D).trans y;have J:Dt K (upd (upd z q<|.tup s) p4<|.tup [V.str "tree",V.ref q]) (Th.tree<|U6 c).dat (.ref p4):=⟨p4,_,rfl,xj.of zB,_,_,rfl,rfl,_,_,rfl,⟨q,s,rfl,xj.of<|y _ _ zB,zc.same (D.trans y) _ _ dt⟩,rfl⟩;have C:∀{r},r∈U6 c↔r∈c:=(xD c).mem_iff;have g:kS (.tree<|U6 c):=NK (λr m=>n r<|C.mp m) (Sr<|HX nd) (by rwa[(xD c).length_eq]);have u:namesOk S (.tree<|U6 c)=true:=Z9.mpr λr m=>(j r<|C.mp m).2;delta Xi;dsimp only;show vD P w K aC [V.ref a,V.ref p4] (upd (upd z q<|.tup s) p4<|.tup [V.str "tree",V.ref q]) _ _;exact P0 (sh.same i) ok g u R J λG v x=>k G (λb o nb e=>v b o nb<|i _ _ e) x
end AJ
def IN (P:D3)(w:D6)(K:CB)(C:D1):Nat->Sp
 | 0=>λ_ _ _ _=>False
 |d+1=>λvs H Q _=>∃(a c:D1) (b:Dd) (S:Di) (fs:Dk) (f:Dl),vs=[.ref a,.ref c]/\yg P w K C H a b S/\wZ S/\H c=some (.dK f)/\c∉b/\xr K H fs f/\yu (d+1) fs/\fs.length<=63/\S.length+1+wt fs<=2000 /\
  ∀e,Off b H e->yg P w K C e a b (US (d+1) S fs).1->Q (.str (US (d+1) S fs).2) e
theorem uV {α:Type}{l:List α}{i:Nat}{x:α}(h:l[i]?=some x):l.take (i+1)=l.take i++[x]:=by rw[Ym,h];rfl
theorem IS {g:TG}{c:TS}{D:Ends}{σ:St}{H:Hp}{d:D1}{ob:Obj}{Dm:Dl}(b:Nat->St->Hp->Prop)(e:b 0 σ H)(hl:∀i σ H,i<=Dm.length->b i σ H->H d=some (.frz ob<|.dK Dm))
  (hs:∀i k v T σ H,Dm[i]?=some (k,v)->b i σ H->H T=none->∀D':Ends,(∀σ H,b (i+1) σ H->D'.nx σ H)->g (.ref T) σ (upd H T<|.tup [kV k,v]) λσ2 H2=>c D' σ2 H2) (hd:∀σ H,b Dm.length σ H->D.nx σ H):Of (Wy d Dm ob) g c D σ H :=
 Be b e hl (λi k v T σ H h p n=>hs i k v T σ H h p n _ λ_ _ h=>h) hd
namespace AK
abbrev st:Stmt:=top 71
theorem sc:zz ["shelf","files","rows","folders","path","lines","parts","label","beneath"] ["shelf","files"] (zF st):=CI
theorem step {L d:Nat}(F:yc0 K "put_files" st f fd)(T:Txt P w K mg t1 t2 t3 t4 t5 t6 t7 aL aC aD fP)(Qc:Met P w K mg base aC 7 "put" ["self","thing"]<|vD P w K aC)(Qg:yo P w K mg base 8 "put_rows" ["shelf","rows"]<|vJ P w K aC)(hL:8<=L)(hd:d<=100)(Qt:yo P w K mg base L "put_files" ["shelf","files"]<|IN P w K aC d):zj P w K mg base CG (L+1) f fd ["shelf","files"] (IN P w K aC<|d+1):=by
 refine F.ok sc λ_ _ _ _ H vs Q E hr h=>?_;obtain⟨a,c,A,S,fs,Dm,rfl,sh,ok,hc,cu,ff,gf,fl,sl,k⟩:=h;have hu:=Hg hr;refine⟨_,(zD (CK (i:=2) sc.nd yM)<|zD (CK (i:=3) sc.nd yM)<|zD (uE<|yY El rfl (k6<|XE<|pv 1) (kP rfl<|yF (zO (i:=4) sc.nd rfl<|Et rfl)<|yF (zO (i:=5) sc.nd rfl<|Et rfl) qR)<|zD (CK (i:=6) sc.nd<|kW Y6 PySem.F.slot_str_partition PySem.F.type_str_partition GV (pv 4)<|zA zr zC)<|zD (CK (i:=7) sc.nd<|z7 (za:CM _<|xu K) (pv 6) zJ)<|zE<|yD (zR qM (pv 7) (pv 4)<|z4 _) (zE<|yN hu (pv 2) (pv 7) (zX (pv 0) T.cls Qc (hr.mono<|by lia)<|zA (x6<|zA zr<|zA (pv 5) zC) zC) rfl)<|zD (CK (i:=8) sc.nd<|IR hu (pv 3) (pv 7) yM ⟨rfl,rfl,rfl,rfl⟩)<|zD (yN hu (pv 8) (z7 (za:CM _<|xu K) (pv 6) zJ) (pv 5) rfl)<|zE<|yN hu (pv 3) (pv 7) (pv 8) rfl)<|zD (uE<|yY El rfl (k6<|XE<|pv 3) (kP rfl<|yF (zO (i:=7) sc.nd rfl<|Et rfl)<|yF (zO (i:=8) sc.nd rfl<|Et rfl) qR)<|zE<|yN hu (pv 2) (pv 7) (zG Qt (hr.mono<|by lia)<|zA (pv 0)<|zA (pv 8) zC) rfl)<|zE<|zL<|zG Qg (hr.mono<|by lia)<|zA (pv 0)<|zA (pv 2) zC),?_⟩
 refine λg c7=>?_;have u1:=zI (o:=.dK []) c7;refine λn cv=>?_;have u2:=zI (o:=.dK []) cv;have sb:=u1.trans u2;have dd:upd (upd H g (.dK [])) n (.dK []) g=some (.dK<|Kp []):=u2 _ _ zB;have db:upd (upd H g (.dK [])) n (.dK []) n=some (.dK<|CO []):=zB;have c8:=sh.same sb;have ca:=sb _ _ hc;have cz:=ff.same sb;have a7:H g=none:=c7;have ak:H n=none:=u1.free cv;have rf:g≠n:=zK (zB (H:=H) (a:=g) (o:=.dK [])) cv;generalize upd (upd H g (.dK [])) n (.dK [])=Hb at sb dd db c8 ca cz ⊢;have cr:c≠g:=zK hc a7;have cf:c≠n:=zK hc ak;refine⟨_,rfl,c,Dm,rfl,ca,λob=>?_⟩;have a9:upd Hb c (.frz ob<|.dK Dm) c=some (.frz ob<|.dK Dm):=zB;have nz:∀{b:D1},b≠c->upd Hb c (.frz ob<|.dK Dm) b=Hb b:=λ{b} z=>zH z;have oz:Off [c] Hb (upd Hb c<|.frz ob<|.dK Dm):=yB;have b1:yg P w K aC (upd Hb c<|.frz ob<|.dK Dm) a A S:=c8.off (z6 ca) oz λb M z=>cu<|Zv.mp z▸M;have c0:=cz.off (z6 ca) oz;have bo:upd Hb c (.frz ob<|.dK Dm) g=some (.dK<|Kp []):=by rwa[nz<|Eh cr]
 have a3:upd Hb c (.frz ob<|.dK Dm) n=some (.dK<|CO []):=by rwa[nz<|Eh cf]
 have c1:∀{b:D1},upd Hb c (.frz ob<|.dK Dm) b=none->Hb b=none/\b≠c:=λ{b} z=>by
  have ne:b≠c:=λq=>by rw[q,zB]at z;cases z
  rw[nz ne]at z;exact⟨z,ne⟩
 generalize upd Hb c (.frz ob<|.dK Dm)=H1 at a9 nz oz b1 c0 bo a3 c1 ⊢;have cy:∀b∈g::n::A,∃o,H1 b=some o:=λb M=>by
  rcases ZI.mp M with z|M
  .rw[z];exact⟨_,bo⟩
  .rcases ZI.mp M with z|M
   .rw[z];exact⟨_,a3⟩
   .exact b1.ex b M
 have ce:g∉A:=λz=>by
  obtain⟨o,e⟩:=sh.ex _ z;rw[a7]at e;cases e
 have a8:n∉A:=λz=>by
  obtain⟨o,e⟩:=sh.ex _ z;rw[ak]at e;cases e
 have cX:c∉g::n::A:=λz=>by
  rcases ZI.mp z with z|z
  .exact cr z
  .rcases ZI.mp z with z|z
   .exact cf z
   .exact cu z
 have kl:Dm.length=fs.length:=ff.len;have df:∀b∈g::n::A,∀xs,¬Rd H1 b (.tup xs):=λb M=>by
  rcases ZI.mp M with z|M
  .exact z6 bo b (Zv.mpr z)
  .rcases ZI.mp M with z|M
   .exact z6 a3 b (Zv.mpr z)
   .exact b1.ye.tup b M
 refine⟨c,ob,Dm,rfl,a9,IS (λi σ t=>∃o4 o5 o6 o7 o8 s,σ=[some<|.ref a,some<|.ref c,some<|.ref g,some<|.ref n,o4,o5,o6,o7,o8]/\yg P w K aC t a A ((CJ<|fs.take i).foldl CC (S,[])).1/\t g=some (.dK<|Kp ((CJ<|fs.take i).foldl CC (S,[])).2)/\t n=some (.dK<|CO s)/\wK K H1 t (fs.take i) s/\Off (g::n::A) H1 t) ⟨none,none,none,none,none,[],rfl,b1,bo,a3,wK.nil,Off.refl _ _⟩ (λi σ t hi h=>?_) ?_ ?_⟩
 .obtain⟨_,_,_,_,_,_,_,_,_,_,_,o⟩:=h;exact o _ _ cX a9
 .rintro i kk v T0 σ t hi ⟨o4,o5,o6,o7,o8,s,rfl,N,Z,ah,Fl,G⟩ nT D' hD;obtain⟨f,cn,rfl,dv,ap⟩:=c0.get hi;obtain⟨b8,b7,b0⟩:=WU ok gf sl i;have b5:=uV cn;have c2:=gf.wH f<|ZN cn;have cx:Dt K t (AnJ.yh f.2) v:=Dt.off df G _ _ (jD ap) dv;have uT:=zI (o:=.tup [kV<|.inr<|CD f.1,v]) nT;refine⟨T0,_,rfl,xj.of zB,rfl,_,_,rfl,_,_,rfl,rfl,?_⟩;have a6:=N.same uT;have bd:=uT _ _ Z;have al:=uT _ _ ah;have a0:=Fl.same uT;have a5:=G.trans<|Off.of uT;have ch:=Dt.same uT _ _ cx;generalize upd t T0 (.tup [kV<|.inr<|CD f.1,v])=H2 at a6 bd al a0 a5 ch ⊢;clear N Z ah Fl G cx nT uT;have go:∀{Y:Hp},zy H2 Y->yg P w K aC Y a A ((CJ<|fs.take i).foldl CC (S,[])).1/\Y g=some (.dK<|Kp ((CJ<|fs.take i).foldl CC (S,[])).2)/\Y n=some (.dK<|CO s)/\wK K H1 Y (fs.take i) s/\Off (g::n::A) H1 Y/\Dt K Y (AnJ.yh f.2) v:=λ{Y} e=>⟨a6.same e,e _ _ bd,e _ _ al,a0.same e,a5.trans<|Off.of e,Dt.same e _ _ ch⟩;have a2:∀{Y:Hp} {b:D1},yg P w K aC Y a A ((CJ<|fs.take i).foldl CC (S,[])).1->Y g=some (.dK<|Kp ((CJ<|fs.take i).foldl CC (S,[])).2)->Y n=some (.dK<|CO s)->Off (g::n::A) H1 Y->Y b=none->H1 b=none:=λ{Y b} h1 h2 h3 o z=>by
   cases q:H1 b with
   |none=>rfl
   |some x =>
    by_cases m:b∈g::n::A
    .rcases ZI.mp m with y|m
     .rw[y,h2]at z;cases z
     .rcases ZI.mp m with y|m
      .rw[y,h3]at z;cases z
      .obtain⟨o',e'⟩:=h1.ex b m;rw[e']at z;cases z
    .rw[o b x m q]at z;cases z
  have ql:((CJ<|fs.take i).foldl CC (S,[])).2.length<=63:=by
   have:=congrArg List.length b0;rw[Zu,Zu]at this;have h2:=qC<|fs.take i;rw[Z3]at h2;lia
  match e1:f.1,c2 with
  |[],gl=>exact absurd rfl gl.1
  |[l],gl =>
   have ep:CD [l]=l:=GJ l;rw[ep];have cq:zU l=true:=gl.2.2.1 l<|Zv.mpr rfl;refine⟨_,rfl,rfl,.inr ⟨l,47,rfl,Sv,xG cq,λp np=>?_⟩⟩;have up:=zI (o:=.tup [V.str l,V.str "",V.str ""]) np;obtain⟨O,ab,C,J,af,a1⟩:=go up;refine⟨_,rfl,p,_,_,_,rfl,rfl,xj.of zB,rfl,?_⟩;refine⟨_,rfl,_,rfl,rfl,true,?_,UV ?_⟩
   .show V.bl (decide (V.str l=V.str l))=V.bl true;rw[Zz rfl]
   generalize upd H2 p (.tup [V.str l,V.str "",V.str ""])=Y at O ab C J af a1 ⊢;obtain⟨ix,i1,i2,i3,dc⟩:=Fh O;refine⟨_,rfl,a,ix,_,rfl,dc,rfl,_,rfl,UT 2,λp4 n4=>?_⟩;have v4:=zI (o:=.tup [V.str "leaf",v]) n4;obtain⟨vp,dn,rfl,vt,vd⟩:=id a1;have d0:Dt K (upd Y p4<|.tup [V.str "leaf",V.ref vp]) (Th.leaf f.2).dat (.ref p4):=⟨p4,_,rfl,xj.of zB,_,_,rfl,rfl,_,_,rfl,Dt.same v4 _ _ a1,rfl⟩;have ay:=O.same v4;have a4:=v4 _ _ ab;have am:=v4 _ _ C;have U:=J.same v4;have ai:=af.trans<|Off.of v4;delta Xi;dsimp only;show vD P w K aC [V.ref a,V.ref p4] (upd Y p4<|.tup [V.str "leaf",V.ref vp]) _ _;generalize upd Y p4 (.tup [V.str "leaf",V.ref vp])=H4 at d0 ay a4 am U ai ⊢;have el:CJ (fs.take<|i+1)=CJ (fs.take i)++[(l,f.2)]:=by rw[b5,kZ,e1]
   have ef:(CJ<|fs.take<|i+1).foldl CC (S,[])=CC ((CJ<|fs.take i).foldl CC (S,[])) (l,f.2):=by rw[el,JP];rfl
   have nl:l∉((CJ<|fs.take i).foldl CC (S,[])).2.map (·.1):=λz=>by
    rw[b0]at z;have nd:=O8 (fs:=fs.take<|i+1) (by rw[UB];exact gf.nd.sublist<|Uv _ _);rw[el,ZH,YX]at nd;exact nd.2.2 l z l (Zv.mpr rfl) rfl
   have cw:=U.one (f:=f) e1;rw[<-b5]at cw;clear a2 go b0;generalize (CJ<|fs.take i).foldl CC (S,[])=q at ay a4 b8 b7 ef nl ql;refine P0 ay b8 (NH ap.2 ap.1) rfl b7 d0 λH5 I R=>?_;have ac:H5 g=_:=I _ _ ce a4;have D:H5 n=_:=I _ _ a8 am;have B:=cw.off (X:=A) (λc hc=>cy c<|Zw _<|Zw _ hc) ay.ye.tup I;have as:Off (g::n::A) H1 H5:=λb o nb e=>I b o (λz=>nb<|Zw _<|Zw _ z) (ai b o nb e);refine⟨_,rfl,_,rfl,g,_,rfl,vQ.k (k:=.inr l) ac<|yV (by unfold Kp;rw[Zu];lia),hD _ _ ⟨_,_,_,_,_,s,rfl,?_,?_,?_,?_,?_⟩⟩
   .rw[ef];exact R.off (z6 ac) yB λb M z=>ce<|Zv.mp z▸M
   .rw[ef,zB,M9 nl];rfl
   .rwa[zH<|Eh rf]
   .exact B.off (X:=[g]) (λc hc=>by rw[Zv.mp hc];exact⟨_,bo⟩) (z6 ac) yB
   .exact as.upd (Zx ..)
  |l::b::r,gl =>
   have ep:CD (l::b::r)=l++⟨#[47]⟩++CD (b::r):=Sl l b r;have cq:zU l=true:=gl.2.2.1 l<|Zx ..;have pl:(CD (l::b::r)).length<=100000:=by
    have:=Fx gl.2.2.1;have h4:=gl.2.1;rw[zf];lia
   have el:CJ (fs.take<|i+1)=CJ (fs.take i):=by rw[b5,kZ,e1];exact ZW _
   have dm:=Sy gf cn e1;refine⟨_,rfl,rfl,.inl ⟨l,CD (b::r),47,by rw[ep];rfl,Sv,xG cq,by rw[<-ep];exact pl,λp np=>?_⟩⟩;have up:=zI (o:=.tup [V.str l,V.str ⟨#[47]⟩,V.str<|CD (b::r)]) np;obtain⟨O,ab,C,J,af,a1⟩:=go up;have co:upd H2 p (.tup [V.str l,V.str ⟨#[47]⟩,V.str<|CD (b::r)]) p=some (.tup [V.str l,V.str ⟨#[47]⟩,V.str<|CD (b::r)]):=zB;refine⟨_,rfl,p,_,_,_,rfl,rfl,xj.of zB,rfl,?_⟩;refine⟨_,rfl,_,rfl,rfl,false,?_,UQ ?_⟩
   .show V.bl (decide (V.str l=V.str (CD (l::b::r))))=V.bl false;rw[ZP λz=>rN l b r<|by injection z]
   generalize upd H2 p (.tup [V.str l,V.str ⟨#[47]⟩,V.str<|CD (b::r)])=Y at O ab C J af a1 co ⊢;refine⟨_,rfl,n,rfl,.inl ⟨_,.inl C⟩,_,rfl,λe ne=>?_⟩;have ue:=zI (o:=.dK []) ne;have cj:H1 e=none:=a2 O ab C af ne;have ay:=O.same ue;have a4:=ue _ _ ab;have am:=ue _ _ C;have U:=J.same ue;have ai:=af.trans<|Off.of ue;have ci:=Dt.same ue _ _ a1;have cp:=ue _ _ co;have cb:upd Y e (.dK []) e=some (.dK []):=zB;have de:∀q∈s,q.2≠e:=λq hq z=>by
    obtain⟨kq,c5,_⟩:=J.at_ q hq;rw[z,ne]at c5;cases c5
   generalize upd Y e (.dK [])=H4 at ay a4 am U ai ci cp cb ⊢;clear a6 bd al a0 a5 ch go a2 O ab C J af a1 co up np;have ct:s.map (·.1)=CL (fs.take i):=U.wH;have cl:s.length<=63:=by
    have:=congrArg List.length ct;rw[Zu]at this;have h2:=qC<|fs.take i;rw[Z3]at h2;lia
   have c6:∀{x:D1},H1 x=none->x∉g::n::A:=λ{x} hx z=>by
    obtain⟨o',e'⟩:=cy x z;rw[hx]at e';cases e'
   by_cases inl:l∈CL (fs.take i)
   .have cd:l∈s.map (·.1):=by rwa[ct]
    obtain⟨pr,an,ck⟩:=ZA.mp cd;obtain⟨b9,pb⟩:=pr;have ck:b9=l:=ck;subst ck;have vv:=kK U.uM an;refine⟨_,wO.k (k:=.inr b9) am,?_⟩;rw[vv];obtain⟨kb,M,fb⟩:=U.at_ _ an;have M:H4 pb=some (.dK kb):=M;have fb:xr K H4 (sub (fs.take i) b9) kb:=fb;have nb:H1 pb=none:=U.new _ an;have dl:kb.length<=63:=by
     have:=fb.len;have h2:=sub_len (fs:=fs.take i) (l:=b9);rw[Z3]at h2;lia
    refine⟨_,rfl,_,rfl,_,rfl,p,_,_,_,rfl,rfl,xj.of cp,rfl,pb,_,rfl,vQ.k (k:=.inr<|CD (b::r)) M<|yV<|by lia,?_⟩;have pn:yr kb (.inr<|CD (b::r)) v=kb++[(.inr<|CD (b::r),v)]:=kM (by rwa[fb.keys]);rw[pn];have B:=U.old an M fb e1 ci ap;rw[<-b5]at B;have bX:=c6 nb;have b4:g≠pb:=λz=>bX (by rw[<-z];exact Zx ..);have b2:n≠pb:=λz=>bX (by rw[<-z];exact Zw _<|Zx ..);have b3:pb∉A:=λz=>bX<|Zw _<|Zw _ z;have I:Off (g::n::A) H1 (upd H4 pb<|.dK<|kb++[((.inr (CD (b::r)):Key),v)]):=λx o nx ex=>by
     rw[zH (λz=>by rw[z,nb]at ex;cases ex)];exact ai x o nx ex
    have R:=ay.off (z6 M) (yB (o:=.dK<|kb++[((.inr (CD (b::r)):Key),v)])) λx hx z=>b3 (by rwa[<-Zv.mp z]);have ac:=(zH (o:=.dK<|kb++[((.inr (CD (b::r)):Key),v)]) b4).trans a4;have D:=(zH (o:=.dK<|kb++[((.inr (CD (b::r)):Key),v)]) b2).trans am;generalize upd H4 pb (.dK<|kb++[((.inr (CD (b::r)):Key),v)])=H5 at B I R ac D ⊢;refine⟨_,rfl,_,rfl,_,rfl,n,_,rfl,vQ.k (k:=.inr b9) D<|yV (by unfold CO;rw[Zu];lia),hD _ _ ⟨_,_,_,_,_,s,rfl,?_,?_,?_,?_,?_⟩⟩
    .rw[el];exact R.off (z6 D) yB λx hx z=>a8<|Zv.mp z▸hx
    .rwa[el,zH rf]
    .rw[zB];exact congrArg (λz=>some<|HO.dK z) (Ha U.uM an)
    .exact B.off (X:=[n]) (λc hc=>by rw[Zv.mp hc];exact⟨_,a3⟩) (z6 D) yB
    .exact I.upd (Zw _<|Zx ..)
   .have cd:l∉s.map (·.1):=by rwa[ct]
    have vv:=OA cd;refine⟨_,wO.k (k:=.inr l) am,?_⟩;rw[vv];refine⟨_,rfl,_,rfl,_,rfl,p,_,_,_,rfl,rfl,xj.of cp,rfl,e,_,rfl,vQ.k (k:=.inr<|CD (b::r)) cb<|yV (by show 0<16777216;decide),?_⟩;have bX:=c6 cj;have b4:g≠e:=λz=>bX (by rw[<-z];exact Zx ..);have b2:n≠e:=λz=>bX (by rw[<-z];exact Zw _<|Zx ..);have b3:e∉A:=λz=>bX<|Zw _<|Zw _ z;have pn:yr ([]:Dl) (.inr<|CD (b::r)) v=[(.inr<|CD (b::r),v)]:=rfl;rw[pn];have B:=U.nR inl cb cj de e1 ci ap;rw[<-b5]at B;have I:Off (g::n::A) H1 (upd H4 e<|.dK [((.inr (CD (b::r)):Key),v)]):=λx o nx ex=>by
     rw[zH (λz=>by rw[z,cj]at ex;cases ex)];exact ai x o nx ex
    have R:=ay.off (z6 cb) (yB (o:=.dK [((.inr (CD (b::r)):Key),v)])) λx hx z=>b3 (by rwa[<-Zv.mp z]);have ac:=(zH (o:=.dK [((.inr (CD (b::r)):Key),v)]) b4).trans a4;have D:=(zH (o:=.dK [((.inr (CD (b::r)):Key),v)]) b2).trans am;generalize upd H4 e (.dK [((.inr (CD (b::r)):Key),v)])=H5 at B I R ac D ⊢;refine⟨_,rfl,_,rfl,_,rfl,n,_,rfl,vQ.k (k:=.inr l) D<|yV (by unfold CO;rw[Zu];lia),hD _ _ ⟨_,_,_,_,_,s++[(l,e)],rfl,?_,?_,?_,?_,?_⟩⟩
    .rw[el];exact R.off (z6 D) yB λx hx z=>a8<|Zv.mp z▸hx
    .rwa[el,zH rf]
    .rw[zB];exact congrArg (λz=>some<|HO.dK z) (F9 cd)
    .exact B.off (X:=[n]) (λc hc=>by rw[Zv.mp hc];exact⟨_,a3⟩) (z6 D) yB
    .exact I.upd (Zw _<|Zx ..)
 .rintro σ t ⟨o4,o5,o6,o7,o8,s,rfl,N,Z,ah,Fl,G⟩;rw[kl,Ya]at N Z Fl;refine⟨c,ob,Dm,G _ _ cX a9,λo u z=>?_,?_⟩
  .have z:H c=some (.frz o u):=z;rw[hc]at z;cases z
  have c3:=G _ _ cX a9;have b6:∀x∈[c],∀xs,¬Rd t x (.tup xs):=λx hx xs z=>by
   rw[Zv.mp hx]at z
   rcases z with z|⟨o,z⟩<;>rw[c3]at z<;>cases z
  have oc:Off [c] t (upd t c<|.dK Dm):=yB;have a6:yg P w K aC (upd t c<|.dK Dm) a A ((CJ fs).foldl CC (S,[])).1:=N.off b6 oc λx hx z=>cu<|Zv.mp z▸hx;have bd:upd t c (.dK Dm) g=some (.dK<|Kp ((CJ fs).foldl CC (S,[])).2):=by rwa[zH<|Eh cr]
  have al:upd t c (.dK Dm) n=some (.dK<|CO s):=by rwa[zH<|Eh cf]
  have a0:wK K H1 (upd t c<|.dK Dm) fs s:=Fl.off (X:=[c]) (λx hx=>by rw[Zv.mp hx];exact⟨_,a9⟩) b6 oc;have a5:Off A H (upd t c<|.dK Dm):=λx o nx ex=>by
   by_cases z:x=c
   .rw[z,zB];rw[z,hc]at ex;exact ex
   .rw[zH z];refine G x o (λq=>?_) (by rw[nz z];exact sb _ _ ex)
    rcases ZI.mp q with q|q
    .rw[q,a7]at ex;cases ex
    .rcases ZI.mp q with q|q
     .rw[q,ak]at ex;cases ex
     .exact nx q
  generalize upd t c (.dK Dm)=H2 at a6 bd al a0 a5 ⊢;clear N Z ah Fl G c3 b6 oc;refine⟨_,rfl,n,CO s,rfl,al,λad=>?_⟩;have af:Off [n] H2 (upd H2 n<|.frz ad<|.dK<|CO s):=yB;have C:upd H2 n (.frz ad<|.dK<|CO s) n=some (.frz ad<|.dK<|CO s):=zB;have O:yg P w K aC (upd H2 n<|.frz ad<|.dK<|CO s) a A ((CJ fs).foldl CC (S,[])).1:=a6.off (z6 al) af λx hx z=>a8<|Zv.mp z▸hx;have ab:upd H2 n (.frz ad<|.dK<|CO s) g=some (.dK<|Kp ((CJ fs).foldl CC (S,[])).2):=by rwa[zH rf]
  have J:wK K H1 (upd H2 n<|.frz ad<|.dK<|CO s) fs s:=a0.off (X:=[n]) (λx hx=>by rw[Zv.mp hx];exact⟨_,a3⟩) (z6 al) af;have ai:Off A H (upd H2 n<|.frz ad<|.dK<|CO s):=λx o nx ex=>by
   rw[zH (λz=>by rw[z,ak]at ex;cases ex)];exact a5 x o nx ex
  generalize upd H2 n (.frz ad<|.dK<|CO s)=Y at af C O ab J ai ⊢;have cl:s.map (·.1)=CL fs:=J.wH;have cm:(CO s).length=(CL fs).length:=by rw[<-cl,Zu];unfold CO;rw[Zu]
  have dj:(CJ fs).length+(CL fs).length<=63:=by have:=qC fs;lia
  refine⟨n,ad,CO s,rfl,C,IS (λj σ t=>∃o4 o5 o6 o7 o8,σ=[some<|.ref a,some<|.ref c,some<|.ref g,some<|.ref n,o4,o5,o6,o7,o8]/\yg P w K aC t a A (((CL fs).take j).foldl (CH d fs)<|(CJ fs).foldl CC (S,[])).1/\t g=some (.dK<|Kp (((CL fs).take j).foldl (CH d fs)<|(CJ fs).foldl CC (S,[])).2)/\t n=some (.frz ad<|.dK<|CO s)/\wK K H1 t fs s/\Off A H t) ⟨o4,o5,o6,o7,o8,rfl,O,ab,C,J,ai⟩ (λj σ t hj h=>?_) ?_ ?_⟩
  .obtain⟨_,_,_,_,_,_,_,_,hf,_⟩:=h;exact hf
  .clear O ab C J ai a6 bd al a0 a5;rintro j kk v T0 σ t hj ⟨o4,o5,o6,o7,o8,rfl,N,Z,ah,Fl,G⟩ nT D' hD;unfold CO at hj;rw[ZF]at hj;obtain⟨pr,c4,hj⟩:=Z0.mp hj;obtain⟨l,b⟩:=pr;have hj:((.inr l:Key),V.ref b)=(kk,v):=hj;cases hj;have an:=ZN c4;have cc:(CL fs)[j]?=some l:=by rw[<-cl,ZF,c4];rfl
   obtain⟨b8,b7,b0⟩:=aO ok gf fl sl cc;have uT:=zI (o:=.tup [V.str l,V.ref b]) nT;refine⟨T0,_,rfl,xj.of zB,rfl,_,_,rfl,_,_,rfl,rfl,?_⟩;have R:=N.same uT;have ac:=uT _ _ Z;have D:=uT _ _ ah;have B:=Fl.same uT;have I:=G.trans<|Off.of uT;show SW _ _ _ _ _ (upd t T0<|.tup [V.str l,V.ref b]);generalize upd t T0 (.tup [V.str l,V.ref b])=H5 at R ac D B I ⊢;clear N Z ah Fl G uT nT;obtain⟨kb,M,fb⟩:=B.at_ _ an;have M:H5 b=some (.dK kb):=M;have fb:xr K H5 (sub fs l) kb:=fb;have nb:H1 b=none:=B.new _ an;have da:b∉A:=λz=>by
    obtain⟨o',e'⟩:=b1.ex b z;rw[nb]at e';cases e'
   cases d with
   |zero =>
    obtain⟨f,hf,b,r,ef⟩:=((y8 fs).2 l).mp<|ZN cc;have:=(gf.wH f hf).2.1;rw[ef,ZL,ZL]at this;lia
   |succ d =>
    have el:(CL fs).take (j+1)=(CL fs).take j++[l]:=uV cc;have ef:((CL fs).take<|j+1).foldl (CH (d+1) fs) ((CJ fs).foldl CC (S,[]))=CH (d+1) fs (((CL fs).take j).foldl (CH (d+1) fs)<|(CJ fs).foldl CC (S,[])) l:=by rw[el,JP];rfl
    have nl:l∉(((CL fs).take j).foldl (CH (d+1) fs)<|(CJ fs).foldl CC (S,[])).2.map (·.1):=λz=>by
     rw[b0]at z;have nd:=Xt gf;have e0:(pieces fs).map (·.1)=(CJ fs).map (·.1)++CL fs:=by
      unfold pieces;rw[ZH,ZY,ZY]
      congr 1
      exact VI _
     rw[e0,<-YW j (CL fs),<-Ys,YX]at nd;have hd:(CL fs).drop j=l::(CL fs).drop (j+1):=by
      have:=(ZO.mp cc);rw[<-this.2];exact JI this.1
     exact nd.2.2 l z l (by rw[hd];exact Zx ..) rfl
    have ql:(((CL fs).take j).foldl (CH (d+1) fs)<|(CJ fs).foldl CC (S,[])).2.length<=63:=by
     have:=congrArg List.length b0;rw[Zu,ZE,Zu,Z3]at this;lia
    generalize ((CL fs).take j).foldl (CH (d+1) fs) ((CJ fs).foldl CC (S,[]))=q at R ac b8 b7 ef nl ql;refine⟨_,rfl,_,rfl,a,b,A,q.1,sub fs l,kb,rfl,R,b8,M,da,fb,gf.sub l,Yn sub_len fl,b7,λH6 as cg=>?_⟩;have bg:H6 g=_:=as _ _ ce ac;have dk:H6 n=_:=as _ _ a8 D;have c9:=B.off (X:=A) (λc hc=>b1.ex c hc) R.ye.tup as;refine⟨_,rfl,_,rfl,g,_,rfl,vQ.k (k:=.inr l) bg<|yV (by unfold Kp;rw[Zu];lia),hD _ _ ⟨_,_,_,_,_,rfl,?_,?_,?_,?_,?_⟩⟩
    .rw[ef];exact cg.off (z6 bg) yB λx hx z=>ce<|Zv.mp z▸hx
    .rw[ef,zB,M9 nl];rfl
    .rwa[zH<|Eh rf]
    .exact c9.off (X:=[g]) (λc hc=>by rw[Zv.mp hc];exact⟨_,bo⟩) (z6 bg) yB
    .intro x o nx ex;rw[zH (λz=>by rw[z,a7]at ex;cases ex)];exact as x o nx<|I x o nx ex
  .rintro σ t ⟨o4,o5,o6,o7,o8,rfl,N,Z,ah,Fl,G⟩;rw[cm,Ya]at N Z;refine⟨n,ad,CO s,ah,λo u z=>?_,?_⟩
   .have z:H n=some (.frz o u):=z;rw[ak]at z;cases z
   have b6:∀x∈[n],∀xs,¬Rd t x (.tup xs):=λx hx xs z=>by
    rw[Zv.mp hx]at z
    rcases z with z|⟨o,z⟩<;>rw[ah]at z<;>cases z
   have cg:=N.off b6 (yB (o:=.dK<|CO s)) λx hx z=>a8<|Zv.mp z▸hx;have bg:=(zH (o:=.dK<|CO s) rf).trans Z;have as:Off A H (upd t n<|.dK<|CO s):=λx o nx ex=>by
    rw[zH (λz=>by rw[z,ak]at ex;cases ex)];exact G x o nx ex
   have fe:=WL ok gf fl sl (q:=(CL fs).foldl (CH d fs)<|(CJ fs).foldl CC (S,[])) rfl;have pf:=M6 d S fs;rw[pf]at k;generalize (CL fs).foldl (CH d fs) ((CJ fs).foldl CC (S,[]))=q at cg bg fe k;obtain⟨g1,g2,g3,g4,g5⟩:=fe;exact⟨_,rfl,_,rfl,a,g,A,q.1,q.2,rfl,cg,g1,.inl bg,g3,λr hr=>⟨(g4 r hr).1,let ⟨e,te⟩:=(g4 r hr).2;RO te⟩,g5,g2,λH7 dh di=>k H7 (as.trans dh) di⟩
end AK
theorem OC (g:yu n fs){f:Fi}(l:f∈fs){z:Str}(hz:z∈G1 (CD f.1)):∀k∈fs,z≠CD k.1:=λk o e=>by
 obtain⟨r,_,j,_⟩:=g.wH f l;obtain⟨s,_,t,_⟩:=g.wH k o;have u:UW (CD f.1)=f.1:=qW r λy h=>xG<|j y h;unfold G1 at hz;obtain⟨i,c,b⟩:=ZA.mp hz;rw[u]at c b;have c:=Y0.mp c;have b:CD (f.1.take<|i+1)=z:=b;have v:f.1.take (i+1)≠[]:=by
  intro q;have:=congrArg List.length q;rw[Z3,Jc]at this;lia
 have:=kH (d:=0) v s (λy h=>j y<|Y3 h) t (b.trans e);have p:f.1=k.1++f.1.drop (i+1):=by rw[<-this,YW]
 have:=congrArg List.length<|g.pre k o f l _ p;rw[Jp,Jc]at this;lia
theorem Xs {f:Fi}{n:Nat}(h:n<=4){fs:Dk}(g:yu n fs)(d:f∈fs):HI (.str<|CD f.1)=true/\uK (AnJ.yh f.2)=true/\small (.str<|CD f.1)=true/\small (AnJ.yh f.2)=true:=by
 obtain⟨c,e,b,fn⟩:=g.wH f d;refine⟨N0 c (by lia) b,?_,?_,?_⟩
 .show(f.2.map Eu).all Xe=true;rw[List.all_map,Z9];exact fn.2
 .refine Zz ?_;have:=Fx b;rw[zf];lia
 .show(decide ((f.2.map Eu).length<=1000)&&yC (f.2.map .str))=true;rw[q8 λl hl=>(kE<|fn.2 l hl).len,Zu,Zz (show f.2.length<=1000 by have:=fn.1;lia)];rfl
inductive tB (K:CB)(vs:Dj)(H:Hp)(Q:VK)(e3:XK):Prop
 |mk (c:D1) (Dm:Dl) (fs:Dk) (h0:vs=[.ref c]) (h1:H c=some (.dK Dm)) (h2:xr K H fs Dm) (h3:yu 4 fs) (h4:fs.length<=63) (h5:∀H',zy H H'->Q .non H'):tB K vs H Q e3
theorem He {H:Hp}{c:D1}{ob:Obj}{Dm:Dl}(d:H c=some (.dK Dm))(e:zy (upd H c<|.frz ob<|.dK Dm) H2):zy H (upd H2 c<|.dK Dm):=λb o h=>by
 by_cases z:b=c
 .rw[z,zB];rw[z,d]at h;exact h
 .rw[zH z];exact e _ _ (by rwa[zH z])
namespace AK
theorem ok0 (F:yc0 K "put_files" st f fd):zj P w K mg base CG 8 f fd ["shelf","files"] (IN P w K aC 0) :=
 F.ok sc (λ_ _ _ _ _ _ _ _ _ h=>Ew h) (λ_ _ _ _ h=>Ew h)
include T in
theorem ok (F:yc0 K "put_files" st f fd)(d:Met P w K mg base aC 7 "put" ["self","thing"]<|vD P w K aC)(e:yo P w K mg base 8 "put_rows" ["shelf","rows"]<|vJ P w K aC)(c:mg "put_files"=some (.ref f))(b:wN K fd ["shelf","files"] []):zj P w K mg base CG 12 f fd ["shelf","files"] (IN P w K aC 4):=by
 have g:=yo.mk' F (ok0 (P:=P) (w:=w) (mg:=mg) (base:=base) (aC:=aC) F) c b;have h:=yo.mk' F (step F T d e (by decide) (by decide) g) c b;have i:=yo.mk' F (step F T d e (by decide) (by decide) h) c b;have j:=yo.mk' F (step F T d e (by decide) (by decide) i) c b;exact step F T d e (by decide) (by decide) j
end AK
namespace AL
abbrev st:Stmt:=top 57
theorem sc:zz ["files","path","lines"] ["files"] (zF st):=CI
include T in
theorem ok (F:yc0 K "need_files" st f fd)(QZ:yo P w K mg base 4 "is_file" ["path","lines"]<|rD K)(Qu:yo P w K mg base 1 "folders_of" ["path"]<|tV K):zj P w K mg base CG 5 f fd ["files"] (tB K):=by
 refine F.ok sc λ_ _ _ _ H vs Q E Z h=>?_;obtain⟨c,b,fs,rfl,G,ff,Y,fl,k⟩:=h;refine⟨_,(zD (yD (y6<|zS (K:=K)<|zM (xg.or (zZ (K:=K))<|CY (K:=K)) (by rfl) T.isinstance Z1<|zA (pv 0)<|zA (yW (v:=.ty "dict") rfl T.dict Y7 rfl) zC) (zE yT) zP)<|zD (uE<|yY El rfl (k6<|XE<|pv 0) (kP rfl<|yF (zO (i:=1) sc.nd rfl<|Et rfl)<|yF (zO (i:=2) sc.nd rfl<|Et rfl) qR)<|zE<|yD (y6<|zS (K:=K)<|zG QZ Z.m<|zA (pv 1)<|zA (pv 2) zC) (zE yT) zP)<|zE<|uE<|yY El rfl (M0<|XE<|pv 0) (zO (i:=1) sc.nd rfl<|Et rfl)<|zE<|yD (zS (K:=K)<|zM (On rfl) (by rfl) T.any PyProof.Rows.boot_any<|zA (xF (sc:=zF st) (N:=["files","path","lines"]) (N':=["folder","files"]) (src:=[none,some 0]) .a rfl rfl rfl (xC<|zG Qu Z.m<|zA (pv 1) zC) (λ_ _ _ _=>(zO (i:=0) (show(["folder","files"]:Da).Nodup by decide+kernel) rfl (Et rfl))) (λ_ _ _ _=>qA) (λ_ _ _ _=>(yI (XA Z.units) (pv 0) (pv 1)<|by with_unfolding_all rfl))) zC) (zE yT) zP),?_⟩
 refine⟨_,rfl,.inr ⟨c,"dict",b,_,rfl,.inl G,T.kit _ (by simp[kinds]) _<|by simp[kinds],_,rfl,UQ ?_⟩⟩;refine⟨_,rfl,c,b,rfl,G,λob=>?_⟩;have kl:b.length=fs.length:=ff.len;have d:upd H c (.frz ob<|.dK b) c=some (.frz ob<|.dK b):=zB;have L:=ff.off (z6 G)<|yB (o:=.frz ob<|.dK b);refine⟨c,ob,b,rfl,d,Be (λi r l=>∃t A,r=[some<|.ref c,t,A]/\zy (upd H c<|.frz ob<|.dK b) l) ⟨none,none,rfl,zy.refl _⟩ (λi r l O ⟨_,_,_,j⟩=>j _ _ d) ?_ ?_⟩
 .rintro i kk v T0 r l O ⟨t,A,rfl,j⟩ nT;obtain⟨f,C,rfl,dv,ln⟩:=(L.same j).get O;obtain⟨g1,g2,X,g4⟩:=Xs (ZB 4) Y<|ZN C;have uT:=zI (o:=.tup [kV<|.inr<|CD f.1,v]) nT;refine⟨T0,_,rfl,xj.of zB,rfl,_,_,rfl,_,_,rfl,rfl,?_⟩;refine⟨_,rfl,_,rfl,.str<|CD f.1,AnJ.yh f.2,_,_,rfl,rfl,Dt.dw<|Dt.same uT _ _ dv,X,g4,λU s3=>⟨_,rfl,?_⟩⟩;rw[g1,g2];exact UQ ⟨_,_,rfl,(j.trans uT).trans s3⟩
 .rintro r l ⟨t,A,rfl,j⟩;refine⟨c,ob,b,j _ _ d,λo u z=>?_,?_⟩
  .have z:H c=some (.frz o u):=z;rw[G]at z;cases z
  have e3:=He G j;have B:upd l c (.dK b) c=some (.dK b):=zB;generalize upd l c (.dK b)=U at e3 B ⊢;clear j L d;refine⟨_,rfl,c,b,rfl,B,λob=>?_⟩;have d:upd U c (.frz ob<|.dK b) c=some (.frz ob<|.dK b):=zB;refine⟨c,ob,b,rfl,d,Hd (λi r l=>∃t A,r=[some<|.ref c,t,A]/\zy (upd U c<|.frz ob<|.dK b) l) ⟨t,A,rfl,zy.refl _⟩ (λi r l O ⟨_,_,_,j⟩=>j _ _ d) ?_ ?_⟩
  .rintro i kk v r H4 O ⟨t,A,rfl,J⟩;obtain⟨f,C,rfl,_,_⟩:=ff.get O;have M:=ZN C;obtain⟨_,_,X,_⟩:=Xs (ZB 4) Y M;have xl:(CD f.1).length<=1000:=ZJ X;refine⟨_,rfl,CD f.1,rfl,xl,λlp H5 s5 R=>?_⟩;have ab:(G1<|CD f.1).length<=1001:=by
    unfold G1;rw[Zu,Yo];have:=Gm<|CD f.1;lia
   refine⟨lp,rfl,⟨_,R⟩,jA (K:=K) (a:=lp) (xs:=(G1<|CD f.1).map V.str) (λi n s S=>∃o,s=[o,some<|.ref c]/\zy H5 S/\n.length=i/\∀y∈n,y=V.bl false) ⟨none,rfl,zy.refl _,rfl,λy I=>(nomatch I)⟩ (zx (by rw[Zu];lia)) ?_ ?_ ?_⟩
   .rintro i n s S ac ⟨o,rfl,D,yl,_⟩;exact⟨D.seq R,by lia⟩
   .rintro i y n s S I ⟨o,rfl,D,yl,yf⟩;rw[ZF]at I;obtain⟨z,hz,rfl⟩:=Z0.mp I;refine⟨_,rfl,_,rfl,c,_,rfl,MJ (k:=.inr z)<|((J.trans s5).trans D) _ _ d,_,rfl,D,by rw[ZE,yl];rfl,λy I=>?_⟩
    rcases ZZ.mp I with q|q
    .exact yf y q
    .rw[Zv.mp q]
     congr 1
     cases q:UP b (.inr z) with
     |none=>rfl
     |some v =>
      have:=qJ q;rw[ff.keys]at this;obtain⟨g,hg,e⟩:=ZA.mp this;exact absurd (Sum.inr.inj e).symm<|OC Y M (ZN hz) g hg
   .rintro n s S ⟨o,rfl,D,yl,yf⟩ p np;have ey:n=(EY n.length false).map V.bl:=by
     rw[List.map_replicate];exact List.eq_replicate_iff.mpr ⟨rfl,yf⟩
    refine⟨p,EY n.length false,rfl,yj.of (by rw[zB];exact congrArg (λz=>some<|HO.lst z) ey),_,rfl,?_⟩;have ea:(EY n.length false).any id=false:=by
     rw[Us];intro x hx;rw[List.eq_of_mem_replicate hx]
     decide
    rw[ea];exact UQ ⟨_,_,rfl,((J.trans s5).trans D).trans<|zI np⟩
  .rintro r H4 ⟨t,A,rfl,J⟩;refine⟨c,ob,b,J _ _ d,λo u z=>?_,?_⟩
   .have z:H c=some (.frz o u):=z;rw[G]at z;cases z
   exact k _<|e3.trans<|He B J
end AL
inductive oR (P:D3)(w:D6)(K:CB)(C:D1)(vs:Dj)(H:Hp)(Q:VK)(e3:XK):Prop
 |mk (a:D1) (fp:Dd) (S:Di) (x:Str) (u:Th) (h0:vs=[.ref a,.str x,.str u.word]) (h1:yg P w K C H a fp S) (h2:At S x u) (h3:Q (.bl true) H):oR P w K C vs H Q e3
inductive vq (P:D3)(w:D6)(K:CB)(C:D1)(vs:Dj)(H:Hp)(Q:VK)(e3:XK):Prop
 |mk (a:D1) (fp:Dd) (S:Di) (x:Str) (Dp:Dg) (h0:vs=[.ref a,.str x]) (h1:yg P w K C H a fp S) (h2:At S x<|.tree Dp) (h3:Q .non H):vq P w K C vs H Q e3
def qT (P:D3)(w:D6)(K:CB)(C:D1):Nat->Sp
 | 0=>λ_ _ _ _=>False
 |d+1=>λvs H Q _=>∃(a:D1) (i:Dd) (S:Di) (x c:Str) (h:Dg),vs=[.ref a,.str x,.str c]/\yg P w K C H a i S/\wZ S/\Tree (d+1) S x/\At S x (.tree h)/\(zp (d+1) S x).length<=63/\(∀f∈zp (d+1) S x,U2 f.2)/\c.length+10*(d+1)<=1000 /\
  ∀e g b,zy H b->H e=none->b e=some (.dK g)->uQ K b c (zp (d+1) S x) g->Q (.ref e) b
inductive uU (P:D3)(w:D6)(K:CB)(C:D1)(vs:Dj)(H:Hp)(Q:VK)(e3:XK):Prop
 |mk (a:D1) (fp:Dd) (S:Di) (x:Str) (Dp:Dg) (h0:vs=[.ref a,.str x]) (h1:yg P w K C H a fp S) (h2:wZ S) (h3:At S x<|.tree Dp) (h4:Tree 5 S x) (h5:(zp 5 S x).length<=63) (h6:(∀f∈zp 5 S x,U2 f.2)) (h7:∀e Dm H',zy H H'->H e=none->H' e=some (.dK Dm)->xr K H' (zp 5 S x) Dm->Q (.ref e) H'):uU P w K C vs H Q e3
theorem isT {Dp:Dg}(h:At S x<|.tree Dp):WN S (.str x) "tree"=true:=by
 obtain⟨e,he,rfl,hd⟩:=h;refine Yq.mpr ⟨e,he,?_⟩;rw[ZG,ZQ,ZQ,jK hd];exact⟨rfl,Zv.mpr rfl⟩
theorem OE {K:CB}{xs:Dj}{g:TG}{c:TS}{D:Ends}{σ:St}{H:Hp}(b:Nat->St->Hp->Prop)(d:b 0 σ H)(hl:∀i σ H,i<=xs.length->b i σ H->xj K H a xs)
  (hs:∀i x σ H,xs[i]?=some x->b i σ H->∀D':Ends,(∀σ H,b (i+1) σ H->D'.nx σ H)->g x σ H λσ2 H2=>c D' σ2 H2) (hd:∀σ H,b xs.length σ H->D.nx σ H) :
  ∃W:Nat->Nat->St->Hp->Prop,(∃m,W 0 m σ H)/\∀i m σ H,W i m σ H ->
   ((Rx K a).stop i H/\D.nx σ H)\/((Rx K a).go i H/\∃N:St->Hp->Prop,(∀σ' H',N σ' H'->∃m',m'<m/\W (i+1) m' σ' H')/\∀x H',(Rx K a).rW i H x H'->g x σ H' λσ2 H2=>c { D with nx:=N,ct:=N,bk:=D.nx } σ2 H2) :=
 uC b d hl (λi x σ H h p=>hs i x σ H h p _ λ_ _ h=>h) hd
theorem Ng {X:Dd}{xs:Dj}(n:∀b∈X,∀xs,¬Rd H b (.tup xs))(o:Off X H H')(h:xj K H c xs):xj K H' c xs:=by
 rcases h with h|h
 .have ne:c∉X:=λz=>n c z xs h
  rcases h with h|⟨u,h⟩
  .exact .inl (.inl<|o _ _ ne h)
  .exact .inl (.inr ⟨u,o _ _ ne h⟩)
 .exact .inr h
theorem Ge (g:wZ S){x:Str}{t:Th}(h:At S x t){e:En}(he:e∈S)(b:(Eu x)=.str e.nm):e.d=t.dat:=by
 obtain⟨f,c,fn,i⟩:=h;have:f.nm=e.nm:=by rw[fn];injection b
 rwa[<-Pj g.good.nn c he this]
theorem Nk {Dp:Dg}{t:D1}(h:Dt K H (Th.tree Dp).dat<|.ref t):∃c rs,xj K H t [V.str "tree",V.ref c]/\xj K H c rs/\zc K H (Dp.map zm) rs:=by
 obtain⟨p,q,e,i,x,r,f,b,y,o,g,j,d⟩:=h;cases e;obtain⟨c,rs,rfl,l,n⟩:=j;have b:x=V.str "tree":=b;have d:o=[]:=d;subst f g b d;exact⟨c,rs,i,l,n⟩
theorem R1 {ls:Da}{t:D1}(h:Dt K H (Th.leaf ls).dat<|.ref t):∃v,xj K H t [V.str "leaf",v]/\Dt K H (AnJ.yh ls) v:=by
 obtain⟨l,n,d,g,x,r,e,b,y,j,f,i,c⟩:=h;cases d;have b:x=V.str "leaf":=b;have c:j=[]:=c;subst e f b c;exact⟨y,g,i⟩
theorem T6 {Dp:Dg}(h:zc K H (Dp.map zm) rs){i:Nat}{v:V}(e:rs[i]?=some v):∃r c,Dp[i]?=some r/\v=.ref c/\xj K H c [V.str r.1,V.str r.2]:=by
 obtain⟨d,hd,hv⟩:=h.get e;rw[ZF]at hd;obtain⟨r,o,rfl⟩:=Z0.mp hd;obtain⟨c,s,rfl,n,x,q,j,b,y,p,l,f,g⟩:=hv;have b:x=V.str r.1:=b;have f:y=V.str r.2:=f;have g:p=[]:=g;subst j l b f g;exact⟨r,c,o,rfl,n⟩
namespace AM
abbrev st:Stmt:=top 68
theorem sc:zz ["store","name","form"] ["store","name","form"] (zF st):=CI
include T in
theorem ok (F:yc0 K "names_form" st f fd)(p:Met P w K mg base aC 2 "has" ["self","name"]<|qt P w K aC)(o:Met P w K mg base aC 4 "thing" ["self","name"]<|wu P w K aC):zj P w K mg base CG 5 f fd ["store","name","form"] (oR P w K aC):=by
 refine F.ok sc λ_ _ _ _ H vs Q E l h=>?_;obtain⟨a,g,S,x,u,rfl,sh,⟨e,he,rfl,v⟩,k⟩:=h;refine⟨_,(zE<|zL<|yZ (zX (pv 0) T.cls p (l.mono<|by lia)<|zA (pv 1) zC)<|xN<|yI qM (z7 (za:CM _<|xu K) (zX (pv 0) T.cls o (l.mono<|by lia)<|zA (pv 1) zC) zJ) (pv 2)<|z4 _),?_⟩;obtain⟨z,d,B,C,D,I,nx,y,nd,i,_⟩:=id sh;have q:Fe S (.str e.nm)=true:=Zz<|ZA.mpr ⟨e,he,rfl⟩;refine⟨_,rfl,a,d,_,rfl,i,rfl,_,rfl,a,g,S,.str e.nm,_,rfl,sh,rfl,Fe S<|.str e.nm,rfl,?_⟩;rw[q];refine UV ⟨_,rfl,a,d,_,rfl,i,rfl,_,rfl,a,g,S,.str e.nm,_,rfl,sh,rfl,q,λG b ex t n=>?_⟩;have:=Ft z he b (by injection ex);subst this;rw[v]at n;obtain⟨c,r,s,A⟩:=j6 n;cases s;refine⟨t,_,_,_,rfl,rfl,A,yE (j:=0) rfl,_,rfl,rfl,?_⟩;rwa[show decide (V.str u.word=V.str u.word)=true from Zz rfl]
end AM
namespace AN
abbrev st:Stmt:=top 69
theorem sc:zz ["store","root"] ["store","root"] (zF st):=CI
include T in
theorem ok (F:yc0 K "need_root" st f fd)(b:yo P w K mg base 5 "names_form" ["store","name","form"]<|oR P w K aC):zj P w K mg base CG 6 f fd ["store","root"] (vq P w K aC):=by
 refine F.ok sc λ_ _ _ _ H vs Q E d h=>?_;obtain⟨a,c,S,x,e,rfl,sh,at_,k⟩:=h;refine⟨_,(zE<|yD (y6<|zS (K:=K)<|zG b (d.mono<|by lia)<|zA (pv 0)<|zA (pv 1)<|zA zr zC) (zE yT) zP),?_⟩
 exact⟨_,rfl,_,rfl,a,c,S,x,_,rfl,sh,at_,_,rfl,X4 k⟩
end AN
namespace AO
abbrev st:Stmt:=top 73
theorem sc:zz ["store","tree","ahead","files","label","name","thing"] ["store","tree","ahead"] (zF st):=CI
theorem step {L:Nat}(F:yc0 K "files_beneath" st f fd)(T:Txt P w K mg t1 t2 t3 t4 t5 t6 t7 aL aC aD fP)(Qa:Met P w K mg base aC 4 "thing" ["self","name"]<|wu P w K aC)(hL:8<=L)(Qw:yo P w K mg base L "files_beneath" ["store","tree","ahead"]<|qT P w K aC d):zj P w K mg base CG (L+1) f fd ["store","tree","ahead"] (qT P w K aC<|d+1):=by
 refine F.ok sc λ_ _ _ _ H vs Q E hr h=>?_;obtain⟨a,fp,S,x,ah,u,rfl,sh,ok,tr,at_,rl,rn,al,k⟩:=h;have hu:=Hg hr;refine⟨_,(zD (CK (i:=3) sc.nd yM)<|zD (yY El rfl (jV<|z7 (za:CM _<|xu K) (zX (pv 0) T.cls Qa (hr.mono<|by lia)<|zA (pv 1) zC) zJ) (kP rfl<|yF (zO (i:=4) sc.nd rfl<|Et rfl)<|yF (zO (i:=5) sc.nd rfl<|Et rfl) qR)<|zD (CK (i:=6) sc.nd<|zX (pv 0) T.cls Qa (hr.mono<|by lia)<|zA (pv 5) zC)<|zE<|yD (zR qM (z7 (za:CM _<|xu K) (pv 6) zJ) zr<|z4 _) (zE<|yN hu (pv 3) (zY zW (pv 2)<|pv 4) (z7 (za:CM _<|xu K) (pv 6) zJ) rfl)<|zE<|z8<|MZ (pv 3) (zG Qw (hr.mono<|by lia)<|zA (pv 0)<|zA (pv 5)<|zA (zY zW (zY zW (pv 2)<|pv 4) zr) zC) ⟨rfl,rfl,rfl,rfl⟩)<|zE<|zL<|pv 3),?_⟩
 refine λy D=>?_;have u0:=zI (o:=.dK []) D;have N:upd H y (.dK []) y=some (.dK []):=zB;generalize upd H y (.dK [])=H1 at u0 N ⊢;obtain⟨ix,i1,i2,i3,X⟩:=Fh sh;have hx:Fe S (.str x)=true:=Zz at_.mem;refine⟨_,rfl,a,ix,_,rfl,u0 _ _ X,rfl,_,rfl,a,fp,S,.str x,_,rfl,sh.same u0,rfl,hx,λe he ed t ht=>?_⟩;rw[Ge ok at_ he ed]at ht;obtain⟨c,rs,as,hc,ab⟩:=Nk ht;have a3:(u.map (·.1)).Pairwise CV/\∀r∈u,zU r.1=true/\Tree d S r.2/\zp d S r.2≠[]:=by
  rcases tr with⟨ls,z⟩|⟨rows',z,h1,h2⟩
  .cases z.thing ok at_
  .cases z.thing ok at_;exact⟨h1,h2⟩
 have rd:zp (d+1) S x=u.flatMap (CQ d S):=yL ok at_;have rise:=(tr.rise ok).1;rw[rd]at rl rn rise k;have a2:rs.length=u.length:=by rw[zc.length ab,Zu]
 have nt:=z6 N;refine⟨t,_,_,_,rfl,rfl,as,rfl,c,rfl,⟨_,hc⟩,OE (K:=K) (a:=c) (xs:=rs) (λi σ G=>∃o4 o5 o6 p,σ=[some<|.ref a,some<|.str x,some<|.str ah,some<|.ref y,o4,o5,o6]/\Off [y] H1 G/\G y=some (.dK p)/\uQ K G ah ((u.take i).flatMap<|CQ d S) p) ⟨none,none,none,[],rfl,Off.refl _ _,N,uQ.nil⟩ (λi σ G _ h=>?_) ?_ ?_⟩
 .obtain⟨_,_,_,_,_,j,_⟩:=h;exact Ng nt j hc
 .rintro i v σ G hv ⟨o4,o5,o6,p,rfl,j,g,l⟩ D' hD;obtain⟨r,c',Y,rfl,an⟩:=T6 ab hv;have sm:zy H G:=λb o e=>j b o (λz=>by rw[Zv.mp z,D]at e;cases e)<|u0 _ _ e;have ak:=sh.same sm;have Z:=ZN Y;obtain⟨lb,s,a6⟩:=a3.2 r Z;have J:(u.take<|i+1).flatMap (CQ d S)=(u.take i).flatMap (CQ d S)++CQ d S r:=by rw[uV Y,List.flatMap_append,Jx,UE,ZW]
  have I:u.flatMap (CQ d S)=((u.take i).flatMap (CQ d S)++CQ d S r)++(u.drop<|i+1).flatMap (CQ d S):=by rw[<-J,<-List.flatMap_append,YW]
  have nd:=RY (ah:=ah) rise;rw[I,ZH,ZH,YX,YX]at nd;have ad:∀k∈(CQ d S r).map (λf=>(.inr (ah++CD f.1):Key)),k∉p.map (·.1):=λk hk z=>nd.1.2.2 k (by rwa[<-l.keys]) k hk rfl;have kl:p.length+(CQ d S r).length<=63:=by
   have:=congrArg List.length I;rw[ZE,ZE]at this;have:=l.len;lia
  have inr:∀f∈CQ d S r,U2 f.2:=λf U=>rn f<|Y5.mpr ⟨r,Z,U⟩;refine⟨c',_,rfl,Ng nt j an,rfl,_,_,rfl,_,_,rfl,rfl,?_⟩;have a0:Fe S (.str r.2)=true:=Zz s.mem;refine⟨_,rfl,a,ix,_,rfl,sm _ _ X,rfl,_,rfl,a,fp,S,.str r.2,_,rfl,ak,rfl,a0,λe2 R O t2 B=>?_⟩;have ll:("/":Str).length=1:=by decide+kernel
  have a5:=(vP.mp lb).2.1;have a4:(ah++r.1).length=ah.length+r.1.length:=yt _ _;cases d with
  |zero=>exact absurd s<|λz=>z
  |succ d =>
   rcases id s with⟨ls,atl⟩|⟨rows2,att,so2,hr2⟩
   .rw[Ge ok atl R O]at B;obtain⟨vv,C,ay⟩:=R1 B;have er:CQ (d+1) S r=[([r.1],ls)]:=by
     unfold CQ;rw[yP ok atl];rfl
    have ac:U2 ls:=inr ([r.1],ls) (by rw[er];exact Zv.mpr rfl);refine⟨_,rfl,t2,_,_,_,rfl,rfl,C,rfl,rfl,true,?_,UV ?_⟩
    .show V.bl (decide (V.str "leaf"=V.str "leaf"))=V.bl true;rw[Zz rfl]
    refine⟨_,rfl,t2,_,_,_,rfl,rfl,C,rfl,_,rfl,_,rfl,_,rfl,_,_,rfl,rfl,zx<|by lia,y,_,rfl,vQ.k (k:=.inr<|ah++r.1) g<|yV<|by lia,hD _ _ ⟨_,_,_,p++[(.inr<|ah++r.1,vv)],rfl,?_,?_,?_⟩⟩
    .exact j.trans yB
    .rw[zB]
     congr 2
     refine kM<|ad _ ?_;rw[er,Oi];exact Zv.mpr rfl
    .rw[J,er];exact(l.off (z6 g) yB).app (uQ.one (Dt.off (z6 g) yB _ _ (jD ac) ay) ac)
   .rw[Ge ok att R O]at B;obtain⟨c2,a7,C,_,_⟩:=Nk B;refine⟨_,rfl,t2,_,_,_,rfl,rfl,C,rfl,rfl,false,?_,UQ ?_⟩
    .show V.bl (decide (V.str "tree"=V.str "leaf"))=V.bl false;rw[ZP (by intro z;injection z with z;exact absurd z<|by decide+kernel)]
    have a1:∀f∈zp (d+1) S r.2,f.1≠[]:=by
     rcases(s.rise ok).2 with⟨ls,z⟩|z
     .rw[yL ok att]at z;have:(([],ls):Fi)∈rows2.flatMap (λr=>(zp d S r.2).map λf=>((r.1::f.1,f.2):Fi)):=by rw[z];exact Zv.mpr rfl
      obtain⟨r',_,U⟩:=Y5.mp this;obtain⟨f',_,q⟩:=ZA.mp U;exact absurd (congrArg Prod.fst q)<|Yy _ _
     .exact z
    have ai:(zp (d+1) S r.2).length<=63:=by
     have:(CQ (d+1) S r).length=(zp (d+1) S r.2).length:=Zu ..;lia
    refine⟨_,rfl,y,rfl,.inl ⟨_,.inl g⟩,_,rfl,_,rfl,_,rfl,_,rfl,_,_,rfl,rfl,zx<|by lia,_,_,rfl,rfl,zx<|by lia,a,fp,S,r.2,ah++r.1++"/",rows2,rfl,ak,ok,s,att,ai,λf U=>inr (r.1::f.1,f.2)<|ZA.mpr ⟨f,U,rfl⟩,by
     rw[yt,yt,ll];lia,λe3 n H3 s3 af ap am=>?_⟩
    have M:=s3 _ _ g;have A:uQ K H3 ah (CQ (d+1) S r) n:=am.deep a1;have pa:putAll p n=p++n:=Gd (λk hk=>ad k<|by rwa[<-A.keys]) (by rw[A.keys];exact nd.1.2.1);have l3:n.length=(CQ (d+1) S r).length:=A.len;refine⟨e3,p,n,rfl,(λz=>by rw[<-z,g]at af;cases af),M,.inl ap,zx<|by lia,hD _ _ ⟨_,_,_,p++n,rfl,?_,by rw[zB,pa],?_⟩⟩
    .exact(j.trans<|Off.of s3).trans yB
    .rw[J];exact((l.same s3).off (z6 M) yB).app (A.off (z6 M) yB)
 .rintro σ G ⟨o4,o5,o6,p,rfl,j,g,l⟩;rw[a2,Ya]at l;exact⟨_,rfl,k y p G (λb o e=>j b o (λz=>by rw[Zv.mp z,D]at e;cases e)<|u0 _ _ e) D g l⟩
theorem ok0 (F:yc0 K "files_beneath" st f fd):zj P w K mg base CG 8 f fd ["store","tree","ahead"] (qT P w K aC 0) :=
 F.ok sc (λ_ _ _ _ _ _ _ _ _ h=>Ew h) (λ_ _ _ _ h=>Ew h)
include T in
theorem ok (F:yc0 K "files_beneath" st f fd)(d:Met P w K mg base aC 4 "thing" ["self","name"]<|wu P w K aC)(c:mg "files_beneath"=some (.ref f))(b:wN K fd ["store","tree","ahead"] []):zj P w K mg base CG 13 f fd ["store","tree","ahead"] (qT P w K aC 5):=by
 have e:=yo.mk' F (ok0 (P:=P) (w:=w) (mg:=mg) (base:=base) (aC:=aC) F) c b;have g:=yo.mk' F (step F T d (by decide) e) c b;have h:=yo.mk' F (step F T d (by decide) g) c b;have i:=yo.mk' F (step F T d (by decide) h) c b;have j:=yo.mk' F (step F T d (by decide) i) c b;exact step F T d (by decide) j
end AO
namespace AQ
abbrev st:Stmt:=top 72
theorem sc:zz ["store","root"] ["store","root"] (zF st):=CI
include T in
theorem ok (F:yc0 K "files_of" st f fd)(l:yo P w K mg base 6 "need_root" ["store","root"]<|vq P w K aC)(n:yo P w K mg base 13 "files_beneath" ["store","tree","ahead"]<|qT P w K aC 5):zj P w K mg base CG 14 f fd ["store","root"] (uU P w K aC):=by
 refine F.ok sc λ_ _ _ _ H vs Q E g h=>?_;obtain⟨a,d,S,x,c,rfl,sh,ok,at_,tr,p,q,k⟩:=h;refine⟨_,(zD (z8<|zG l (g.mono<|by lia)<|zA (pv 0)<|zA (pv 1) zC)<|zE<|zL<|zG n (g.mono<|by lia)<|zA (pv 0)<|zA (pv 1)<|zA zr zC),?_⟩
 have o:("":Str).length=0:=by decide+kernel
 exact⟨_,rfl,_,rfl,a,d,S,x,c,rfl,sh,at_,_,rfl,_,rfl,a,d,S,x,"",c,rfl,sh,ok,tr,at_,p,q,by rw[o];decide,λe i j r ne he b=>k e i j r ne he b.at⟩
end AQ
theorem zQ {i:Nat}{v:V}{σ:St}{H:Hp}{Q:St->Hp->Prop}(h:Q (σ.set i (some v)) H):Xo i v σ H Q:=h
@[elab_as_elim] theorem nw {motive:Hp->Prop} {H:Hp} {l:D1} {o:HO} (n:H l=none) (k:∀H',zy H H'->H' l=some o->motive H'):motive (upd H l o):=k _ (zI n) zB
inductive vV (P:D3)(w:D6)(K:CB)(C:D1)(vs:Dj)(H:Hp)(Q:VK)(e3:XK):Prop
 |mk (a:D1) (fp:Dd) (S:Di) (x t:Str) (ps:Da) (y:Str) (h0:vs=[.ref a,.str x]) (h1:yg P w K C H a fp S) (h2:At S x<|.note t ps y) (h3:∀c,Dt K H (Th.note t ps y).dat (.ref c)->Q (.ref c) H):vV P w K C vs H Q e3
inductive ux (P:D3)(w:D6)(K:CB)(C:D1)(g:Str->Str->Str)(vs:Dj)(H:Hp)(Q:VK)(e3:XK):Prop
 |mk (a:D1) (fp:Dd) (S:Di) (x t:Str) (ps:Da) (y:Str) (h0:vs=[.ref a,.str x]) (h1:yg P w K C H a fp S) (h2:At S x<|.note t ps y) (h3:Q (.str<|g t y) H):ux P w K C g vs H Q e3
inductive tL (P:D3)(w:D6)(K:CB)(C:D1)(vs:Dj)(H:Hp)(Q:VK)(e3:XK):Prop
 |mk (a:D1) (fp:Dd) (S:Di) (x t:Str) (ps:Da) (y:Str) (h0:vs=[.ref a,.str x]) (h1:yg P w K C H a fp S) (h2:At S x<|.note t ps y) (h3:∀l,H l=none->Q (.ref l) (upd H l<|.lst<|ps.map V.str)):tL P w K C vs H Q e3
inductive pM (P:D3)(w:D6)(K:CB)(C:D1)(vs:Dj)(H:Hp)(Q:VK)(e3:XK):Prop
 |mk (a:D1) (fp:Dd) (S:Di) (o:Option Str) (h0:vs=[.ref a,oV o]) (h1:yg P w K C H a fp S) (h2:(∀v,o=some v->∃t ps y,At S v<|.note t ps y)) (h3:Q .non H):pM P w K C vs H Q e3
noncomputable def CP (S:Di)(fs:Dk)(ps:Da)(y:Str):List En×Str:=CN (US 4 S fs).1<|.note (US 4 S fs).2 ps y
inductive vL (P:D3)(w:D6)(K:CB)(C:D1)(vs:Dj)(H:Hp)(Q:VK)(e3:XK):Prop
 |mk (a c l:D1) (fp:Dd) (S:Di) (fs:Dk) (Dm:Dl) (ps:Da) (y:Str) (h0:vs=[.ref a,.ref c,.ref l,.str y]) (h1:yg P w K C H a fp S) (h2:wZ S) (h3:H c=some (.dK Dm)) (h4:c∉fp) (h5:xr K H fs Dm) (h6:yu 4 fs) (h7:fs.length<=63) (h8:yj K H l<|ps.map V.str) (h9:ps.Nodup) (h10:ps.length<=2) (h11:(∀p∈ps,z9 S p ["note"]=true)) (h12:UZ y=true) (h13:S.length+2+wt fs<1900) (h14:∀H',Off fp H H'->yg P w K C H' a fp (CP S fs ps y).1->Q (.str (CP S fs ps y).2) H'):vL P w K C vs H Q e3
inductive wM (P:D3)(w:D6)(K:CB)(C:D1)(vs:Dj)(H:Hp)(Q:VK)(e3:XK):Prop
 |mk (a:D1) (fp:Dd) (S:Di) (x t:Str) (ps:Da) (y:Str) (h0:vs=[.ref a,.str x]) (h1:yg P w K C H a fp S) (h2:At S x<|.note t ps y) (h3:wZ S) (h4:(∃Dp,At S t<|.tree Dp)) (h5:Tree 5 S t) (h6:(zp 5 S t).length<=63) (h7:(∀f∈zp 5 S t,U2 f.2)) (h8:∀e Dm H',zy H H'->H e=none->H' e=some (.dK Dm)->xr K H' (zp 5 S t) Dm->Q (.ref e) H'):wM P w K C vs H Q e3
theorem Sx {K:CB}(n:vN H X)(o:Off X H H')(h:yj K H l xs):yj K H' l xs:=by
 rcases h with(z|⟨ob,z⟩)|z
 .exact .inl (.inl<|o _ _ (λq=>by obtain⟨b,e,_,k,_⟩:=n _ q;rw[z]at e;exact k _ (Option.some.inj e).symm) z)
 .exact .inl (.inr ⟨ob,o _ _ (λq=>by obtain⟨b,e,_,_,k⟩:=n _ q;rw[z]at e;exact k _ _ (Option.some.inj e).symm) z⟩)
 .exact .inr z
namespace AR
abbrev st:Stmt:=top 78
theorem sc:zz ["store","name"] ["store","name"] (zF st):=CI
include T in
theorem ok (F:yc0 K "note_of" st f fd)(j:yo P w K mg base 5 "names_form" ["store","name","form"]<|oR P w K aC)(i:Met P w K mg base aC 4 "thing" ["self","name"]<|wu P w K aC):zj P w K mg base CG 6 f fd ["store","name"] (vV P w K aC):=by
 refine F.ok sc λ_ _ _ _ H vs Q E d h=>?_;obtain⟨a,c,S,x,t,A,y,rfl,sh,at_,k⟩:=h;refine⟨_,(zD (yD (y6<|zS (K:=K)<|zG j d.m<|zA (pv 0)<|zA (pv 1)<|zA zr zC) (zE yT) zP)<|zE<|zL<|zX (pv 0) T.cls i d.m<|zA (pv 1) zC),?_⟩
 obtain⟨q,l,u,v,z,B,nx,p,nd,r,_⟩:=id sh;refine⟨_,rfl,_,rfl,a,c,S,x,_,rfl,sh,at_,_,rfl,X4 ⟨_,rfl,a,l,_,rfl,r,rfl,_,rfl,a,c,S,.str x,_,rfl,sh,rfl,Zz at_.mem,λn b o s g=>?_⟩⟩;obtain⟨e,he,rfl,hd⟩:=at_;have:e=n:=Ft q he b (by injection o);subst this;rw[hd]at g;exact k s g
end AR
namespace AS
abbrev st:Stmt:=top 80
theorem sc:zz ["store","name"] ["store","name"] (zF st):=CI
include T in
theorem ok (F:yc0 K "tree_of" st f fd)(e:yo P w K mg base 6 "note_of" ["store","name"]<|vV P w K aC):zj P w K mg base CG 7 f fd ["store","name"] (ux P w K aC λt _=>t):=by
 refine F.ok sc λ_ _ _ _ H vs Q E l h=>?_;obtain⟨a,i,S,x,t,n,y,rfl,sh,at_,k⟩:=h;refine⟨_,(zE<|zL<|z7 (za:CM _<|xu K) (zG e l.m<|zA (pv 0)<|zA (pv 1) zC) zJ),?_⟩;refine⟨_,rfl,_,rfl,a,i,S,x,t,n,y,rfl,sh,at_,λc j=>?_⟩;obtain⟨o,b,g,d,p⟩:=jM j;cases g;exact⟨c,_,_,_,rfl,rfl,d,rfl,k⟩
end AS
namespace AT
abbrev st:Stmt:=top 83
theorem sc:zz ["store","name"] ["store","name"] (zF st):=CI
include T in
theorem ok (F:yc0 K "words_of" st f fd)(e:yo P w K mg base 6 "note_of" ["store","name"]<|vV P w K aC):zj P w K mg base CG 7 f fd ["store","name"] (ux P w K aC λ_ y=>y):=by
 refine F.ok sc λ_ _ _ _ H vs Q E l h=>?_;obtain⟨a,i,S,x,t,n,y,rfl,sh,at_,k⟩:=h;refine⟨_,(zE<|zL<|z7 (za:CM _<|xu K) (zG e l.m<|zA (pv 0)<|zA (pv 1) zC) zJ),?_⟩;refine⟨_,rfl,_,rfl,a,i,S,x,t,n,y,rfl,sh,at_,λc j=>?_⟩;obtain⟨o,b,g,d,p⟩:=jM j;cases g;exact⟨c,_,_,_,rfl,rfl,d,rfl,k⟩
end AT
namespace AU
abbrev st:Stmt:=top 81
theorem sc:zz ["store","name"] ["store","name"] (zF st):=CI
include T in
theorem ok (F:yc0 K "parents_of" st f fd)(e:yo P w K mg base 6 "note_of" ["store","name"]<|vV P w K aC):zj P w K mg base CG 7 f fd ["store","name"] (tL P w K aC):=by
 refine F.ok sc λ_ _ _ _ H vs Q E n h=>?_;obtain⟨a,i,S,x,t,o,y,rfl,sh,at_,k⟩:=h;refine⟨_,(zE<|zL<|zT xZ (by rfl) T.list JB<|zA (z7 (za:CM _<|xu K) (zG e n.m<|zA (pv 0)<|zA (pv 1) zC) zJ) zC),?_⟩;refine⟨_,rfl,_,rfl,a,i,S,x,t,o,y,rfl,sh,at_,λc l=>?_⟩;obtain⟨p,b,g,d,j⟩:=jM l;cases g;exact⟨c,_,_,_,rfl,rfl,d,rfl,b,_,rfl,.inr j,k⟩
end AU
namespace AV
abbrev st:Stmt:=top 79
theorem sc:zz ["store","name"] ["store","name"] (zF st):=CI
include T in
theorem ok (F:yc0 K "need_version_or_none" st f fd)(b:yo P w K mg base 6 "note_of" ["store","name"]<|vV P w K aC):zj P w K mg base CG 7 f fd ["store","name"] (pM P w K aC):=by
 refine F.ok sc λ_ _ _ _ H vs Q E g h=>?_;obtain⟨a,e,S,o,rfl,sh,d,k⟩:=h;refine⟨_,(zE<|yD (zR Ix (pv 1) qK<|z4 _) (zE<|z8<|zG b g.m<|zA (pv 0)<|zA (pv 1) zC) zP),?_⟩
 cases o with
 |none=>exact⟨_,rfl,rfl,false,rfl,UQ k⟩
 |some v =>
  obtain⟨t,i,y,h⟩:=d v rfl;exact⟨_,rfl,rfl,true,rfl,UV ⟨_,rfl,_,rfl,a,e,S,v,t,i,y,rfl,sh,h,λc _=>k⟩⟩
end AV
namespace AW
abbrev st:Stmt:=top 91
theorem sc:zz ["shelf","files","parents","words"] ["shelf","files","parents","words"] (zF st):=CI
include T in
theorem ok (F:yc0 K "noted" st f fd)(U:Met P w K mg base aC 7 "put" ["self","thing"]<|vD P w K aC)(X:yo P w K mg base 12 "put_files" ["shelf","files"]<|IN P w K aC 4):zj P w K mg base CG 13 f fd ["shelf","files","parents","words"] (vL P w K aC):=by
 refine F.ok sc λ_ _ _ _ H vs Q E J h=>?_;obtain⟨a,c,l,Y,S,fs,N,B,y,rfl,sh,ok,hc,nc,ff,I,G,hl,nd,p2,pf,ly,sl,k⟩:=h;refine⟨_,(zE<|zL<|zX (pv 0) T.cls U J.m<|zA (x6<|zA zr<|zA (zG X J.m<|zA (pv 0)<|zA (pv 1) zC)<|zA (zT qE (by rfl) T.tuple YJ<|zA (pv 2) zC)<|zA (pv 3) zC) zC),?_⟩;obtain⟨ix,i1,i2,i3,t⟩:=Fh sh;refine⟨_,rfl,a,ix,_,rfl,t,rfl,_,rfl,_,rfl,a,c,Y,S,fs,N,rfl,sh,ok,hc,nc,ff,I,G,by lia,λH1 i r=>?_⟩;obtain⟨d,A⟩:=Iw 3 (S:=S) (fs:=fs) ok I G (by lia);have d:uP 5 S fs (US 4 S fs):=d;have A:(US 4 S fs).1.length<=S.length+1+wt fs:=A;unfold CP at k;generalize US 4 S fs=q at d A r k ⊢;obtain⟨T1,s,_⟩:=d.new;obtain⟨Dp,g⟩:=d.node;have u:=Sx sh.ye i hl;refine⟨_,rfl,l,_,rfl,.inl ⟨u,λp1 n1=>nw n1 λH2 M Z=>⟨_,rfl,UT 4,λj n2=>nw n2 λO D h2=>?_⟩⟩⟩;have L:∀{x:Str},x∈q.1.map En.nm->Ok 1000 x:=λ{x} hx=>by
  obtain⟨e,he,rfl⟩:=ZA.mp hx;exact d.ok.nm he
 have n:∀p∈B,z9 q.1 p ["note"]=true:=λp v=>by rw[s];exact qV<|pf p v
 delta Xi;dsimp only;show vD P w K aC [V.ref a,V.ref j] O _ _;refine P0 (r.same<|M.trans D) d.ok (BC (L g.mem) ly (λp v=>L<|Fd<|n p v) nd p2) ?_ (by lia) ⟨j,_,rfl,xj.of h2,_,_,rfl,rfl,_,_,rfl,rfl,_,_,rfl,⟨p1,_,rfl,xj.of<|D _ _ Z,zc.strs B⟩,_,_,rfl,rfl,rfl⟩ λR z C=>k R (λb o nb e=>z b o nb<|(M.trans D) _ _<|i _ _ nb e) C;show(z9 _ _ ["tree"]&&B.all λp=>z9 _ p ["note"])=true;rw[Z9.mpr n,Bool.and_true];exact isT g
end AW
namespace AX
abbrev st:Stmt:=top 92
theorem sc:zz ["store","version"] ["store","version"] (zF st):=CI
include T in
theorem ok (F:yc0 K "files_at" st f fd)(e:yo P w K mg base 7 "tree_of" ["store","name"]<|ux P w K aC λt _=>t)(g:yo P w K mg base 14 "files_of" ["store","root"]<|uU P w K aC):zj P w K mg base CG 15 f fd ["store","version"] (wM P w K aC):=by
 refine F.ok sc λ_ _ _ _ H vs Q E c h=>?_;obtain⟨a,b,S,x,t,i,y,rfl,sh,at_,ok,⟨d,tr⟩,n,j,l,k⟩:=h;refine⟨_,(zE<|zL<|zG g c.m<|zA (pv 0)<|zA (zG e c.m<|zA (pv 0)<|zA (pv 1) zC) zC),?_⟩;exact⟨_,rfl,_,rfl,_,rfl,a,b,S,x,t,i,y,rfl,sh,at_,a,b,S,t,d,rfl,sh,ok,tr,n,j,l,k⟩
end AX
abbrev Hs:=List<|Str×Option Str
def hkg (g:Option Str->V)(hs:Hs):Dl:=hs.map λp=>(.inr p.1,g p.2)
abbrev hkv:=hkg oV
def UR (hs:Hs)(x:Str):Option (Option Str):=(hs.find? λp=>decide (p.1=x)).map (·.2)
def UX (hs:Hs)(x:Str)(o:Option Str):Hs:=if(hs.any λp=>decide (p.1=x))=true then hs.map (λp=>if p.1=x then(p.1,o) else p) else hs++[(x,o)]
theorem Gk (x:Str):∀hs:Hs,UP (hkg g hs) (.inr x)=(UR hs x).map g
 |[]=>rfl
 |p::hs=>by
  by_cases e:p.1=x
  .rw[show hkg g (p::hs)=(.inr p.1,g p.2)::hkg g hs from rfl,yQ<|by rw[e]];unfold UR;rw[YG,Zz e];rfl
  .rw[show hkg g (p::hs)=(.inr p.1,g p.2)::hkg g hs from rfl,yR<|λz=>e<|Sum.inr.inj z,Gk (g:=g) x hs];unfold UR;rw[YG,ZP e]
theorem KJ (hs:Hs)(x:Str)(o:Option Str):yr (hkg g hs) (.inr x) (g o)=hkg g (UX hs x o):=by
 have b:((hkg g hs).any λc=>decide (c.1=(.inr x:Key)))=hs.any λp=>decide (p.1=x):=by
  unfold hkg;rw[List.any_map];refine congrArg (λf=>hs.any f)<|funext λp=>?_;exact J1.mpr ⟨λz=>Sum.inr.inj z,λz=>congrArg D8 z⟩
 unfold yr UX;rw[b]
 split
 .unfold hkg;rw[ZY,ZY];refine Yu λp _=>?_;show(if(.inr p.1:Key)=.inr x then _ else _)=_
  by_cases z:p.1=x
  .rw[ZS<|congrArg D8 z];show _=(λq:Str×Option Str=>((.inr q.1:Key),g q.2)) (if p.1=x then(p.1,o) else p);rw[ZS z]
  .rw[ZM<|λq=>z<|Sum.inr.inj q];show _=(λq:Str×Option Str=>((.inr q.1:Key),g q.2)) (if p.1=x then(p.1,o) else p);rw[ZM z]
 .unfold hkg;rw[ZH];rfl
theorem xH (hs:Hs)(x y:Str)(o:Option Str):UR (UX hs x o) y=if y=x then some o else UR hs y:=by
 have c:=Gk (g:=oV) y<|UX hs x o;have d:=Gk (g:=oV) y hs;rw[<-KJ,Gg]at c;have inj:∀{a b:Option (Option Str)},a.map oV=b.map oV->a=b:=λ{a b} h=>by
  cases a with
  |none=>cases b with
   |none=>rfl
   |some b=>cases h
  |some a=>cases b with
   |none=>cases h
   |some b =>
    have h:oV a=oV b:=Option.some.inj h;(cases a<;>cases b<;>first|rfl|cases h);rfl
 refine inj ?_;rw[<-c]
 by_cases e:y=x
 .rw[ZS e,ZS<|congrArg D8 e];rfl
 .rw[ZM e,ZM<|λz=>e<|Sum.inr.inj z,d]
theorem Gr {o:Option Str}(h:UR hs x=some o):(x,o)∈hs:=by
 obtain⟨p,b,e⟩:=Z0.mp h;have:=JL b;have c:p.1=x:=ZJ this;rw[<-c,<-e];exact Y8 b
theorem qu:(UR hs x).isSome=true↔x∈hs.map (·.1):=by
 constructor
 .intro h;obtain⟨o,b⟩:=Yx.mp h;exact ZA.mpr ⟨_,Gr b,rfl⟩
 .intro h;obtain⟨p,c,e⟩:=ZA.mp h;unfold UR;rw[Vb,List.find?_isSome];exact⟨p,c,Zz e⟩
theorem j0:(UX hs x o).map (·.1)=if x∈hs.map (·.1) then hs.map (·.1) else hs.map (·.1)++[x]:=by
 unfold UX
 by_cases h:x∈hs.map (·.1)
 .obtain⟨p,b,e⟩:=ZA.mp h;rw[ZS h,ZS<|Yq.mpr ⟨p,b,Zz e⟩,ZY];refine Yu λp _=>?_;show(if p.1=x then(p.1,o) else p).1=p.1
  split<;>rfl
 .rw[ZM h,ZM<|λz=>?_,ZH]
  .rfl
  .obtain⟨p,b,e⟩:=Yq.mp z;exact h<|ZA.mpr ⟨p,b,ZJ e⟩
theorem T9 {hs:Hs}(h:(hs.map (·.1)).Nodup):((UX hs x o).map (·.1)).Nodup:=by
 rw[j0]
 split
 .exact h
 .exact qD h (by assumption)
theorem Su {p:Str×Option Str}(h:p∈UX hs x o):p=(x,o)\/p∈hs:=by
 unfold UX at h
 split at h
 .obtain⟨q,b,e⟩:=ZA.mp h
  by_cases z:q.1=x
  .rw[ZS z]at e;exact .inl (by rw[<-e,z])
  .rw[ZM z]at e;exact .inr<|e▸b
 .rcases ZZ.mp h with z|z
  .exact .inr z
  .exact .inl (Zv.mp z)
structure xx (P:D3)(w:D6)(K:CB)(C D:D1)(H:Hp)(b a h:D1)(fp:Dd)(S:Di)(hs:Hs):Prop where
 ob:∃dx,H b=some (.ins D dx [("shelf",.ref a),("heads",.ref h)])
 sh:yg P w K C H a fp S
 hd:H h=some (.dK<|hkv hs)
 nb:b∉fp
 nh:h∉fp
 ok:wZ S
 nd:(hs.map (·.1)).Nodup
 hv:∀p∈hs,∀v,p.2=some v->z9 S v ["note"]=true
section
variable {P:D3}{w:D6}{K:CB}{C D:D1}{H H':Hp}{b a h:D1}{fp:Dd}{S S':Di}{hs:Hs}
theorem xx.same (x:xx P w K C D H b a h fp S hs)(e:zy H H'):xx P w K C D H' b a h fp S hs:=⟨let ⟨dx,q⟩:=x.ob;⟨dx,e _ _ q⟩,x.sh.same e,e _ _ x.hd,x.nb,x.nh,x.ok,x.nd,x.hv⟩
inductive sS (P:D3)(w:D6)(K:CB)(C D:D1)(vs:Dj)(H:Hp)(Q:VK)(e3:XK):Prop
 |mk (b a h:D1) (fp:Dd) (S:Di) (hs:Hs) (x:Str) (h0:vs=[.ref b,.str x]) (h1:xx P w K C D H b a h fp S hs) (h2:Q (.bl (UR hs x).isSome) H):sS P w K C D vs H Q e3
inductive uN (P:D3)(w:D6)(K:CB)(C D:D1)(vs:Dj)(H:Hp)(Q:VK)(e3:XK):Prop
 |mk (b a h:D1) (fp:Dd) (S:Di) (hs:Hs) (x:Str) (h0:vs=[.ref b,.str x]) (h1:xx P w K C D H b a h fp S hs) (h2:(UR hs x).isSome=true) (h3:Q .non H):uN P w K C D vs H Q e3
inductive uY (P:D3)(w:D6)(K:CB)(C D:D1)(vs:Dj)(H:Hp)(Q:VK)(e3:XK):Prop
 |mk (b a h:D1) (fp:Dd) (S:Di) (hs:Hs) (x:Str) (o:Option Str) (h0:vs=[.ref b,.str x]) (h1:xx P w K C D H b a h fp S hs) (h2:UR hs x=some o) (h3:Q (oV o) H):uY P w K C D vs H Q e3
inductive tD (P:D3)(w:D6)(K:CB)(C D:D1)(vs:Dj)(H:Hp)(Q:VK)(e3:XK):Prop
 |mk (b a h:D1) (fp:Dd) (S:Di) (hs:Hs) (x:Str) (y t z:Str) (ps:Da) (h0:vs=[.ref b,.str x,.str y]) (h1:xx P w K C D H b a h fp S hs) (h2:hs.length<1000) (h3:(UR hs x).isSome=true) (h4:At S y<|.note t ps z) (h5:∀H',H'=upd H h (.dK<|hkv<|UX hs x<|some y)->xx P w K C D H' b a h fp S (UX hs x<|some y)->Q .non H'):tD P w K C D vs H Q e3
inductive tH (P:D3)(w:D6)(K:CB)(C D:D1)(vs:Dj)(H:Hp)(Q:VK)(e3:XK):Prop
 |mk (b a h:D1) (fp:Dd) (S:Di) (hs:Hs) (x:Str) (o:Option Str) (h0:vs=[.ref b,.str x,oV o]) (h1:xx P w K C D H b a h fp S hs) (h2:hs.length<1000) (h3:zU x=true) (h4:UR hs x=none) (h5:(∀v,o=some v->∃t ps y,At S v<|.note t ps y)) (h6:∀H',Off [h] H H'->xx P w K C D H' b a h fp S (UX hs x o)->Q .non H'):tH P w K C D vs H Q e3
inductive vU (P:D3)(w:D6)(K:CB)(C D:D1)(vs:Dj)(H:Hp)(Q:VK)(e3:XK):Prop
 |mk (b a h:D1) (fp:Dd) (S:Di) (hs:Hs) (x:Str) (c:D1) (y:Str) (o:Option Str) (Dm:Dl) (fs:Dk) (h0:vs=[.ref b,.str x,.ref c,.str y]) (h1:xx P w K C D H b a h fp S hs) (h2:hs.length<1000) (h3:UR hs x=some o) (h4:H c=some (.dK Dm)) (h5:c∉fp) (h6:xr K H fs Dm) (h7:yu 4 fs) (h8:fs.length<=63) (h9:UZ y=true) (h10:S.length+2+wt fs<1900) (h11:∀H',Off (h::fp) H H'->xx P w K C D H' b a h fp (CP S fs o.toList y).1 (UX hs x<|some (CP S fs o.toList y).2)->Q (.str (CP S fs o.toList y).2) H'):vU P w K C D vs H Q e3
theorem Wb {b:TE}{i:Nat}{u:TS}{D:Ends}{σ:St}{H:Hp}(h:b σ H λv H1=>u D (σ.set i (some v)) H1):Ro (N8 b<|Xo i) u D σ H:=h
theorem Sc {σ:St}{Q:VK}{j:Nat}(e:σ[j]?=some (some<|oV o))(k:∀l H',zy H H'->H' l=some (.lst<|o.toList.map V.str)->Q (.ref l) H'):bH (SZ<|aq (λx y H Q=>y=V.non/\Q (V.bl<|decide (x=V.non)) H) (Rp j) (tC V.non)) (Wj Xi) (Wj<|SY (Rp j) Xi) σ H Q:=by
 cases o with
 |none=>exact⟨_,e,rfl,true,rfl,UV ⟨UT 0,λl b=>k l _ (zI b) zB⟩⟩
 |some p=>exact⟨_,e,rfl,false,rfl,UQ ⟨_,e,UT 1,λl b=>k l _ (zI b) zB⟩⟩
section
variable {fs gs:Dk}{T:Di}{ps qs:Da}{y z n t x v:Str}
theorem sI (g:wZ S):∀{d:Nat} {x v:Str},Tree d S x->v∈met d S x->(∃ls,At S v<|.leaf ls)\/∃Dp,At S v (.tree Dp)
 | 0,_,_,h,_=>absurd h<|λz=>z
 |d+1,x,v,h,m=>by
  rcases id h with⟨ls,a⟩|⟨Dp,a,so,hr⟩
  .rw[Gu g a]at m;rw[Zv.mp m];exact .inl ⟨ls,a⟩
  .rw[k7 g a]at m
   rcases ZI.mp m with z|z
   .rw[z];exact .inr ⟨Dp,a⟩
   .obtain⟨r,b,c⟩:=Y5.mp z;exact sI g (hr r b).2.1 c
theorem MT (g:wZ S)(h:At S x u)(ne:u.word≠"note"):z9 S x ["note"]=false:=by
 obtain⟨e,he,rfl,hd⟩:=h;rw[IB g.good he,jK hd];exact ZP λz=>ne<|Zv.mp z
theorem SA:("tree":Str)≠"note":=by decide+kernel
structure qe (S:Di)(n:Str)(gs:Dk)(qs:Da)(z t:Str):Prop where
 nt:At S n<|.note t qs z
 tr:∃Dp,At S t<|.tree Dp
 ok:Tree 5 S t
 rd:∀f,f∈zp 5 S t↔f∈gs
theorem qe.more (h:qe S n gs qs z t)(c:wZ S)(g:wZ<|S++T):qe (S++T) n gs qs z t:=by
 obtain⟨a,b⟩:=h.ok.more g c;exact⟨h.nt.more,let ⟨r,q⟩:=h.tr;⟨r,q.more⟩,a,λf=>by rw[b];exact h.rd f⟩
structure lY (S:Di)(fs:Dk)(ps:Da)(y:Str)(q:List En×Str):Prop where
 ok:wZ q.1
 more:∃T,q.1=S++T
 len:q.1.length<=S.length+2+wt fs
 nt:∃t,qe q.1 q.2 fs ps y t
 new:∀v,z9 q.1 v ["note"]=true->z9 S v ["note"]=true\/v=q.2
 same:∀{n gs qs z t},qe S n gs qs z t->(n=q.2↔(∀f,f∈gs↔f∈fs)/\qs=ps/\z=y)
theorem OP (ok:wZ S)(M:yu 4 fs)(L:fs.length<=63)(nd:ps.Nodup)(U:ps.length<=2)(X:∀p∈ps,z9 S p ["note"]=true)(R:UZ y=true)(Z:S.length+2+wt fs<1900):lY S fs ps y (CP S fs ps y):=by
 obtain⟨c,E⟩:=Iw 3 (S:=S) (fs:=fs) ok M L (by lia);have c:uP 5 S fs (US 4 S fs):=c;have E:(US 4 S fs).1.length<=S.length+1+wt fs:=E;unfold CP;generalize US 4 S fs=q at c E ⊢;obtain⟨F,g,C⟩:=c.new;obtain⟨I,o⟩:=c.node;have G:∀{x:Str},x∈q.1.map En.nm->Ok 1000 x:=λ{x} N=>by
  obtain⟨e,he,rfl⟩:=ZA.mp N;exact c.ok.nm he
 have D:∀p∈ps,z9 q.1 p ["note"]=true:=λp B=>by rw[g];exact qV<|X p B
 obtain⟨l,r,Y,u,d,w⟩:=Fz c.ok (BC (G o.mem) R (λp B=>G<|Fd<|D p B) nd U).1 (show q.1.length<2000 by lia);have H:=c.tree.more (T:=u) (d▸l) c.ok;refine⟨l,⟨F++u,by rw[<-Ys,<-g];exact d⟩,by lia,⟨q.2,r,⟨I,by rw[d];exact o.more⟩,by rw[d];exact H.1,λf=>by rw[d,H.2];exact c.rd f⟩,?_,?_⟩
 .intro v hv;unfold z9 at hv;obtain⟨e,he,s⟩:=Yq.mp hv;rw[ZG,ZQ,ZQ]at s;obtain⟨rfl,s⟩:=s;rw[d]at he
  rcases ZZ.mp he with he|he
  .have A:=he;rw[g]at he
   rcases ZZ.mp he with he|he
   .exact .inl (by rw[IB ok.good he];exact Zz s)
   .exfalso;have no:z9 q.1 e.nm ["note"]=false:=by
     rcases sI c.ok c.tree (C e he) with⟨ls,a⟩|⟨rs,a⟩
     .exact MT c.ok a (show("leaf":Str)≠"note" by decide+kernel)
     .exact MT c.ok a SA
    rw[IB c.ok.good A,Zz s]at no;cases no
  .exact .inr (w e he)
 .intro n gs qs z t h;have i:=c.ok;have j:=h.more (T:=F) ok<|g▸i;rw[<-g]at j;constructor
  .intro e;have b:=j.nt.more (T:=u);rw[<-d,e]at b;have:=At.thing l b r;injection this with O P Q;refine⟨λf=>?_,P,Q⟩;rw[<-j.rd,O,c.rd]
  .rintro⟨J,rfl,rfl⟩;have K:t=q.2:=Tree.one i j.ok c.tree (N5 (j.ok.rise i).1 (c.tree.rise i).1 λf=>by rw[j.rd,c.rd,J]);subst K;rw[Fy i j.nt]
end
theorem aB {t:Str}{ps:Da}{y:Str}(h:At S x<|.note t ps y):z9 S x ["note"]=true:=by
 obtain⟨e,he,rfl,hd⟩:=h;exact R8 he hd
theorem xx.put (B:xx P w K C D H b a h fp S hs)(x:Str)(o:Option Str)(hv:∀v,o=some v->z9 S v ["note"]=true)(of:Off [h] H H')(i:H' h=some (.dK<|hkv<|UX hs x o)):xx P w K C D H' b a h fp S (UX hs x o):=by
 obtain⟨f,d⟩:=B.ob;have nh:b∉[h]:=λz=>by rw[Zv.mp z,B.hd]at d;cases d
 refine⟨⟨f,of _ _ nh d⟩,B.sh.off (z6 B.hd) of<|λc g z=>B.nh<|Zv.mp z▸g,i,B.nb,B.nh,B.ok,T9 B.nd,λp j v e=>?_⟩
 rcases Su j with z|z
 .rw[z]at e;exact hv v e
 .exact B.hv p z v e
end
namespace AY
abbrev st:Stmt:=inClass (top 94) 3
theorem sc:zz ["self","branch"] ["self","branch"] (zF st):=CI
include T in
theorem ok (F:yc K "has_branch" "Annals.has_branch" st f fd)(c:yo P w K mg base 1 "is_key" ["table","thing"]<|rA K):zj P w K mg base CG 2 f fd ["self","branch"] (sS P w K aC aD):=by
 refine F.ok sc λ_ _ _ _ H vs Q E g h=>?_;obtain⟨b,a,h,j,S,i,x,rfl,B,k⟩:=h;refine⟨_,(zE<|zL<|zG c g.m<|zA (yO (pv 0) rfl)<|zA (pv 1) zC),?_⟩;obtain⟨d,e⟩:=B.ob;refine⟨_,rfl,b,aD,d,_,_,rfl,e,T.wX,T.m2,rfl,_,rfl,h,_,.str x,_,rfl,B.hd,rfl,?_⟩;show Q (.bl (UP (hkv i)<|.inr x).isSome) H;rwa[Gk,Vb]
end AY
namespace AZ
abbrev st:Stmt:=inClass (top 94) 5
theorem sc:zz ["self","branch"] ["self","branch"] (zF st):=CI
include T in
theorem ok (F:yc K "need_branch" "Annals.need_branch" st f fd)(c:Met P w K mg base aD 2 "has_branch" ["self","branch"]<|sS P w K aC aD):zj P w K mg base CG 3 f fd ["self","branch"] (uN P w K aC aD):=by
 refine F.ok sc λ_ _ _ _ H vs Q E i h=>?_;obtain⟨b,a,h,e,S,j,x,rfl,B,q,k⟩:=h;refine⟨_,(zE<|yD (y6<|zS (K:=K)<|zX (pv 0) T.wX c i.m<|zA (pv 1) zC) (zE yT) zP),?_⟩
 obtain⟨d,g⟩:=B.ob;refine⟨_,rfl,b,d,_,rfl,g,rfl,_,rfl,b,a,h,e,S,j,x,rfl,B,_,rfl,?_⟩;rw[q];exact X4 k
end AZ
namespace A0
abbrev st:Stmt:=inClass (top 94) 6
theorem sc:zz ["self","branch"] ["self","branch"] (zF st):=CI
include T in
theorem ok (F:yc K "head" "Annals.head" st f fd)(i:Met P w K mg base aD 3 "need_branch" ["self","branch"]<|uN P w K aC aD):zj P w K mg base CG 4 f fd ["self","branch"] (uY P w K aC aD):=by
 refine F.ok sc λ_ _ _ _ H vs Q E g h=>?_;obtain⟨b,a,h,j,S,l,x,o,rfl,B,e,k⟩:=h;refine⟨_,(zD (z8<|zX (pv 0) T.wX i g.m<|zA (pv 1) zC)<|zE<|zL<|MY g.wV (yO (pv 0) rfl) (pv 1)<|λ_ _=>rfl),?_⟩
 obtain⟨c,d⟩:=B.ob;exact⟨_,rfl,b,c,_,rfl,d,rfl,_,rfl,b,a,h,j,S,l,x,rfl,B,by rw[e];rfl,_,rfl,b,aD,c,_,_,rfl,d,T.wX,T.m2,rfl,_,rfl,h,_,rfl,.inl ⟨_,.inr x,.inl B.hd,rfl,by rw[Gk,e];rfl⟩,k⟩
end A0
namespace A1
abbrev st:Stmt:=inClass (top 94) 7
theorem sc:zz ["self","branch","version"] ["self","branch","version"] (zF st):=CI
include T in
theorem ok (F:yc K "set_head" "Annals.set_head" st f fd)(n:Met P w K mg base aD 3 "need_branch" ["self","branch"]<|uN P w K aC aD)(l:yo P w K mg base 6 "note_of" ["store","name"]<|vV P w K aC):zj P w K mg base CG 7 f fd ["self","branch","version"] (tD P w K aC aD):=by
 refine F.ok sc λ_ _ _ _ H vs Q E i h=>?_;obtain⟨b,a,h,j,S,d,x,y,t,z,r,rfl,B,hl,q,at_,k⟩:=h;refine⟨_,(zD (z8<|zX (pv 0) T.wX n i.m<|zA (pv 1) zC)<|zD (z8<|zG l i.m<|zA (yO (pv 0) rfl)<|zA (pv 2) zC)<|zE<|yN i.wV (yO (pv 0) rfl) (pv 1) (pv 2) rfl),?_⟩
 obtain⟨e,g⟩:=B.ob;refine⟨_,rfl,b,e,_,rfl,g,rfl,_,rfl,b,a,h,j,S,d,x,rfl,B,q,_,rfl,b,aD,e,_,_,rfl,g,T.wX,T.m1,rfl,_,rfl,a,j,S,y,t,r,z,rfl,B.sh,at_,λc _=>?_⟩;refine⟨_,rfl,_,rfl,b,aD,e,_,_,rfl,g,T.wX,T.m2,rfl,_,rfl,h,_,rfl,.inl ⟨_,.inr x,B.hd,rfl,yV (by rw[show(hkv d).length=d.length from Zu ..];lia),rfl⟩,?_⟩;have o:yr (hkv d) (.inr x) (V.str y)=hkv (UX d x<|some y):=KJ d x<|some y;rw[o];exact k _ rfl (B.put x (some y) (λz p=>by cases p;exact aB at_) yB zB)
end A1
namespace A2
abbrev st:Stmt:=inClass (top 94) 4
theorem sc:zz ["self","branch","version"] ["self","branch","version"] (zF st):=CI
include T in
theorem ok (F:yc K "begin" "Annals.begin" st f fd)(t:yo P w K mg base 1 "is_label" ["thing"]<|Iz K)(u:Met P w K mg base aD 2 "has_branch" ["self","branch"]<|sS P w K aC aD)(s:yo P w K mg base 7 "need_version_or_none" ["store","name"]<|pM P w K aC):zj P w K mg base CG 8 f fd ["self","branch","version"] (tH P w K aC aD):=by
 refine F.ok sc λ_ _ _ _ H vs Q E g h=>?_;obtain⟨b,a,h,p,S,l,x,o,rfl,B,hl,lb,nx,n,k⟩:=h;refine⟨_,(zD (yD (PW.pt<|IX (y6<|zS (K:=K)<|zG t g.m<|zA (pv 1) zC)<|Xu<|zS (K:=K)<|zX (pv 0) T.wX u g.m<|zA (pv 1) zC) (zE yT) zP)<|zD (z8<|zG s g.m<|zA (yO (pv 0) rfl)<|zA (pv 2) zC)<|zE<|yN g.wV (yO (pv 0) rfl) (pv 1) (pv 2) rfl),?_⟩
 refine⟨_,rfl,.str x,_,rfl,rfl,Zz (GK lb).len,λA r=>⟨_,rfl,?_⟩⟩;have d:=B.same r;rw[show jY (.str x)=true from lb];obtain⟨i,j⟩:=d.ob;refine X4 ⟨_,rfl,b,i,_,rfl,j,rfl,_,rfl,b,a,h,p,S,l,x,rfl,d,_,rfl,?_⟩;rw[nx];refine UQ ⟨_,rfl,b,aD,i,_,_,rfl,j,T.wX,T.m1,rfl,_,rfl,a,p,S,o,rfl,d.sh,n,?_⟩;refine⟨_,rfl,_,rfl,b,aD,i,_,_,rfl,j,T.wX,T.m2,rfl,_,rfl,h,_,rfl,.inl ⟨_,.inr x,d.hd,rfl,yV (by rw[show(hkv l).length=l.length from Zu ..];lia),rfl⟩,?_⟩;rw[KJ];exact k _ (λc w z y=>yB c w z<|r c w y) (d.put x o (λv e=>let ⟨_,_,_,q⟩:=n v e;aB q) yB zB)
end A2
namespace A3
abbrev st:Stmt:=inClass (top 94) 8
theorem sc:zz ["self","branch","files","words","head","parents","version"] ["self","branch","files","words"] (zF st):=CI
include T in
theorem ok (F:yc K "keep" "Annals.keep" st f fd)(Qd:Met P w K mg base aD 4 "head" ["self","branch"]<|uY P w K aC aD)(Q4:yo P w K mg base 5 "need_files" ["files"]<|tB K)(Qi:yo P w K mg base 2 "is_line" ["thing"]<|FD K)(Qk:yo P w K mg base 13 "noted" ["shelf","files","parents","words"]<|vL P w K aC)(Qm:Met P w K mg base aD 7 "set_head" ["self","branch","version"]<|tD P w K aC aD):zj P w K mg base CG 14 f fd ["self","branch","files","words"] (vU P w K aC aD):=by
 refine F.ok sc λ_ _ _ _ H vs Q E s h=>?_;obtain⟨b,a,h,D,S,Y,x,c,y,o,Dm,fs,rfl,B,hl,X,hc,nc,ff,O,M,G,sl,k2⟩:=h;refine⟨_,(zD (CK (i:=4) sc.nd<|zX (pv 0) T.wX Qd s.m<|zA (pv 1) zC)<|zD (z8<|zG Q4 s.m<|zA (pv 2) zC)<|zD (yD (y6<|zS (K:=K)<|zG Qi s.m<|zA (pv 3) zC) (zE yT) zP)<|zD (CK (i:=5) sc.nd<|kX (zR K0 (pv 4) qK<|z4 _) (xB zC)<|xB<|zA (pv 4) zC)<|zD (CK (i:=6) sc.nd<|zG Qk s.m<|zA (yO (pv 0) rfl)<|zA (pv 2)<|zA (pv 5)<|zA (pv 3) zC)<|zD (z8<|zX (pv 0) T.wX Qm s.m<|zA (pv 1)<|zA (pv 6) zC)<|zE<|zL<|pv 6),?_⟩
 obtain⟨dx,hb⟩:=B.ob;refine⟨_,rfl,b,dx,_,rfl,hb,rfl,_,rfl,b,a,h,D,S,Y,x,o,rfl,B,X,zQ ⟨_,rfl,c,Dm,fs,rfl,hc,ff,O,M,λH1 s1=>?_⟩⟩;refine⟨_,rfl,.str y,_,rfl,rfl,Zz (kE G).len,λH2 s2=>⟨_,rfl,?_⟩⟩;have Z:=s1.trans s2;rw[show Xe (.str y)=true from G];refine X4 ?_;delta Kh;dsimp only;refine Wb<|Sc rfl ?_;intro l H3 s3 U;have d:=Z.trans s3;have C:=B.same d;obtain⟨n,r⟩:=C.ob;have g:∀p∈o.toList,z9 S p ["note"]=true:=λp g=>B.hv _ (Gr X) p (by cases o with|none=>cases g|some q=>rw[Zv.mp g]);refine⟨_,rfl,b,aD,n,_,_,rfl,r,T.wX,T.m1,rfl,_,rfl,_,rfl,_,rfl,a,c,l,D,S,fs,Dm,o.toList,y,rfl,C.sh,C.ok,d _ _ hc,nc,ff.same d,O,M,yj.of U,by cases o<;>simp,by cases o<;>simp,g,G,sl,λH4 j A=>zQ ?_⟩;have N:=OP B.ok O M (ps:=o.toList) (by cases o<;>simp) (by cases o<;>simp) g G sl;generalize CP S fs o.toList y=q at N A k2 ⊢;obtain⟨T',L⟩:=N.more;obtain⟨t,⟨I,_⟩⟩:=N.nt;have B4:xx P w K aC aD H4 b a h D q.1 Y:=⟨⟨n,j _ _ B.nb r⟩,A,j _ _ B.nh C.hd,B.nb,B.nh,N.ok,B.nd,λp g v e=>by rw[L];exact qV<|B.hv p g v e⟩;obtain⟨J,R⟩:=B4.ob;refine⟨_,rfl,b,J,_,rfl,R,rfl,_,rfl,_,rfl,b,a,h,D,q.1,Y,x,q.2,t,y,o.toList,rfl,B4,hl,by rw[X];rfl,I,λH5 e5 B5=>?_⟩;refine⟨_,rfl,k2 H5 (λc' o' u e'=>?_) B5⟩;rw[e5,zH<|λz=>u (by rw[z];exact Zx)];exact j _ _ (λz=>u<|Zw _ z) (d _ _ e')
end A3
inductive tU (P:D3)(w:D6)(K:CB)(C D:D1)(vs:Dj)(H:Hp)(Q:VK)(e3:XK):Prop
 |mk (x dx:D1) (h0:vs=[.ref x]) (h1:H x=some (.ins D dx [])) (h2:H dx=some (.own x)) (h3:dx≠x) (h4:∀a h fp H',(∀c∈fp,H c=none)->H h=none->Off [x] H H'->xx P w K C D H' x a h fp [] []->Q .non H'):tU P w K C D vs H Q e3
inductive wL (P:D3)(w:D6)(K:CB)(C D:D1)(vs:Dj)(H:Hp)(Q:VK)(e3:XK):Prop
 |mk (b a h:D1) (fp:Dd) (S:Di) (hs:Hs) (x t:Str) (ps:Da) (y:Str) (h0:vs=[.ref b,.str x]) (h1:xx P w K C D H b a h fp S hs) (h2:At S x<|.note t ps y) (h3:(∃Dp,At S t<|.tree Dp)) (h4:Tree 5 S t) (h5:(zp 5 S t).length<=63) (h6:(∀f∈zp 5 S t,U2 f.2)) (h7:∀e Dm H',zy H H'->H e=none->H' e=some (.dK Dm)->xr K H' (zp 5 S t) Dm->Q (.ref e) H'):wL P w K C D vs H Q e3
section
variable {H H':Hp}
theorem G4 {x b:D1}{g h:HO}{fp:Dd}(nx:H x=none)(f:H b=none)(ne:b≠x)(d:∀c∈fp,c=x\/c=b\/(L2.upd (L2.upd H b g) x h) c=none)(o:Off [x] (L2.upd (L2.upd H b g) x h) H'):zy H H'/\∀c∈fp,H c=none:=by
 have i:zy H (L2.upd (L2.upd H b g) x h):=(zI f).trans (zI<|by rwa[zH<|Eh ne]);refine⟨λc u e=>o c u (λz=>?_)<|i c u e,λc j=>?_⟩
 .rw[Zv.mp z,nx]at e;cases e
 .rcases d c j with z|z|z
  .rwa[z]
  .rwa[z]
  .exact i.free z
end
namespace A4
abbrev st:Stmt:=inClass (top 94) 0
theorem sc:zz ["self"] ["self"] (zF st):=CI
include T in
theorem ok (F:yc K "__init__" "Annals.__init__" st f fd)(L:mJ P w K mg base aC 5 "Shelf" ["self","base"]<|rQ P w K aC):zj P w K mg base CG 7 f fd ["self"] (tU P w K aC aD):=by
 refine F.ok sc λ_ _ _ _ H vs Q E U h=>?_;obtain⟨x,j,rfl,I,R,ne,k⟩:=h;refine⟨_,(zD (IG (pv 0) (Sf L U.m<|zA qK zC) rfl)<|zE<|IG (pv 0) yM rfl),?_⟩
 refine λa M X y g=>⟨a,M,rfl,zB,by rw[zH g];exact zB,g,λD t u r i=>⟨rfl,?_⟩⟩;obtain⟨A,G⟩:=G4 X y g u r;have ok0:wZ []:=⟨i.good,λe he=>(nomatch he),λe he=>(nomatch he)⟩;have n:=A _ _ I;have s:x∉D:=λz=>by have:=G x z;rw[I]at this;cases this
 refine⟨_,rfl,x,aD,j,_,rfl,n,T.wX,T.m1,by decide,?_⟩;refine λh nh=>⟨_,rfl,x,aD,j,[("shelf",V.ref a)],rfl,(zI nh) _ _ zB,T.wX,T.m2,(show 1<1000 by decide),?_⟩;have l:h≠x:=λz=>by rw[z,zB]at nh;cases nh
 have d:t h=none:=by rw[zH l]at nh;exact nh
 have q:Off [x] t (upd (upd (upd t x<|.ins aD j<|US "shelf" (V.ref a) []) h<|.dK []) x<|.ins aD j<|US "heads" (V.ref h) [("shelf",V.ref a)]):=λc o v e=>by
  have B:c≠x:=λz=>v (by rw[z];exact Zv.mpr rfl);rwa[zH B,zH<|zK e d,zH B]
 have nt:∀b∈[x],∀J,¬Rd t b (.tup J):=λb N J z=>by
  rw[Zv.mp N]at z
  rcases z with z|⟨o,z⟩<;>(rw[n]at z;cases z)
 refine k a h D _ G (A.free d) (λc o v e=>q c o v<|A _ _ e) ⟨⟨j,by rw[zB];rfl⟩,i.off nt q<|λc O z=>s<|Zv.mp z▸O,by rw[zH l,zB];rfl,s,λz=>(by obtain⟨o,C⟩:=i.ex h z;rw[d]at C;cases C),ok0,YN,λp S=>(nomatch S)⟩
end A4
namespace A5
abbrev st:Stmt:=inClass (top 94) 9
theorem sc:zz ["self","version"] ["self","version"] (zF st):=CI
include T in
theorem ok (F:yc K "files" "Annals.files" st f fd)(c:yo P w K mg base 15 "files_at" ["store","version"]<|wM P w K aC):zj P w K mg base CG 16 f fd ["self","version"] (wL P w K aC aD):=by
 refine F.ok sc λ_ _ _ _ H vs Q E i h=>?_;obtain⟨b,a,h,e,S,p,x,t,j,y,rfl,B,at_,tr,o,l,n,k⟩:=h;refine⟨_,(zE<|zL<|zG c i.m<|zA (yO (pv 0) rfl)<|zA (pv 1) zC),?_⟩;obtain⟨d,g⟩:=B.ob;exact⟨_,rfl,b,aD,d,_,_,rfl,g,T.wX,T.m1,rfl,_,rfl,a,e,S,x,t,j,y,rfl,B.sh,at_,B.ok,tr,o,l,n,k⟩
end A5
inductive tG (K:CB)(vs:Dj)(H:Hp)(Q:VK)(e3:XK):Prop
 |mk (a:D1) (t:Str) (ps:Da) (y:Str) (h0:vs=[.ref a]) (h1:Dt K H (Th.note t ps y).dat<|.ref a) (h2:∀b,xj K H b (ps.map V.str)->Q (.ref b) H):tG K vs H Q e3
def Oe (K:CB)(H:Hp)(c:D1)(S:Di)(rs:Da):Prop:=∃b F,H c=some (.dK b)/\AnS.zb K H b F (λ_=>.bool true)/\(∀x,x∈F↔vC (UU S) rs x)
inductive rU (P:D3)(w:D6)(K:CB)(C fP:D1)(vs:Dj)(H:Hp)(Q:VK)(e3:XK):Prop
 |mk (a fo rl:D1) (fp:Dd) (S:Di) (rs:Da) (h0:vs=[.ref a,.ref fo,.ref rl,.ref fP]) (h1:yg P w K C H a fp S) (h2:(∀e∈S,X1 e)) (h3:(∀e∈S,∀t ps y,e.d=(Th.note t ps y).dat->ps.length<=2)) (h4:Vc S) (h5:H fo=some (.dK [])) (h6:fo∉fp) (h7:yj K H rl<|rs.map V.str) (h8:rs.length<=1000) (h9:(∀r∈rs,UY S r=true)) (h10:∀H',Off [fo] H H'->Oe K H' fo S rs->Q .non H'):rU P w K C fP vs H Q e3
inductive rH (P:D3)(w:D6)(K:CB)(C:D1)(vs:Dj)(H:Hp)(Q:VK)(e3:XK):Prop
 |mk (a fo:D1) (fp:Dd) (S:Di) (r:Str) (h0:vs=[.ref a,.ref fo,.str r]) (h1:yg P w K C H a fp S) (h2:(∀e∈S,X1 e)) (h3:(∀e∈S,∀t ps y,e.d=(Th.note t ps y).dat->ps.length<=2)) (h4:Vc S) (h5:H fo=some (.dK [])) (h6:fo∉fp) (h7:UY S r=true) (h8:∀H',Off [fo] H H'->Oe K H' fo S [r]->Q .non H'):rH P w K C vs H Q e3
inductive sO (P:D3)(w:D6)(K:CB)(C:D1)(vs:Dj)(H:Hp)(Q:VK)(e3:XK):Prop
 |mk (a fo:D1) (fp:Dd) (S:Di) (ke:Dl) (F:Da) (h0:vs=[.ref a,.ref fo]) (h1:yg P w K C H a fp S) (h2:H fo=some (.dK ke)) (h3:AnS.zb K H ke F<|λ_=>.bool true) (h4:∀l H',zy H H'->H l=none->H' l=some (.lst<|((S.map En.nm).filter λx=>decide (x∈F)).map V.str)->Q (.ref l) H'):sO P w K C vs H Q e3
structure wJ (P:D3)(w:D6)(K:CB)(C:D1)(H:Hp)(a:D1)(fp:Dd)(S:Di):Prop where
 sh:yg P w K C H a fp S
 th:∀e∈S,X1 e
 two:∀e∈S,∀t ps y,e.d=(Th.note t ps y).dat->ps.length<=2
 vc:Vc S
theorem wJ.same {K:CB}(h:wJ P w K C H a fp S)(s:zy H H'):wJ P w K C H' a fp S:=⟨h.sh.same s,h.th,h.two,h.vc⟩
inductive pO (P:D3)(w:D6)(K:CB)(C:D1)(vs:Dj)(H:Hp)(Q:VK)(e3:XK):Prop
 |mk (a:D1) (fp:Dd) (S:Di) (x:Str) (h0:vs=[.ref a,.str x]) (h1:wJ P w K C H a fp S) (h2:UY S x=true) (h3:∀fo H',zy H H'->H fo=none->Oe K H' fo S [x]->Q (.ref fo) H'):pO P w K C vs H Q e3
inductive nQ (P:D3)(w:D6)(K:CB)(C:D1)(vs:Dj)(H:Hp)(Q:VK)(e3:XK):Prop
 |mk (a:D1) (fp:Dd) (S:Di) (x:Str) (h0:vs=[.ref a,.str x]) (h1:wJ P w K C H a fp S) (h2:UY S x=true) (h3:∀(l:D1) (H':Hp) (F:Da),zy H H'->H l=none->(∀v,v∈F↔vC (UU S) [x] v)->H' l=some (.lst<|((S.map En.nm).filter λx=>decide (x∈F)).map V.str)->Q (.ref l) H'):nQ P w K C vs H Q e3
inductive pX (P:D3)(w:D6)(K:CB)(C:D1)(vs:Dj)(H:Hp)(Q:VK)(e3:XK):Prop
 |mk (a:D1) (fp:Dd) (S:Di) (x:Str) (y:Str) (h0:vs=[.ref a,.str x,.str y]) (h1:wJ P w K C H a fp S) (h2:UY S x=true) (h3:UY S y=true) (h4:∀(F:Da) H',zy H H'->(∀v,v∈F↔vC (UU S) [y] v)->Q (.bl<|decide (x∈F)) H'):pX P w K C vs H Q e3
inductive rB (P:D3)(w:D6)(K:CB)(C:D1)(vs:Dj)(H:Hp)(Q:VK)(e3:XK):Prop
 |mk (a:D1) (fp:Dd) (S:Di) (x:Str) (y:Str) (h0:vs=[.ref a,.str x,.str y]) (h1:wJ P w K C H a fp S) (h2:UY S x=true) (h3:UY S y=true) (h4:∀l us H',zy H H'->H l=none->Xw S x y us->H' l=some (.lst<|us.map V.str)->Q (.ref l) H'):rB P w K C vs H Q e3
namespace A6
abbrev st:Stmt:=top 84
theorem sc:zz ["note"] ["note"] (zF st):=CI
include T in
theorem ok (F:yc0 K "parents_in" st f fd):zj P w K mg base CG 1 f fd ["note"] (tG K):=by
 refine F.ok sc λ_ _ _ _ H vs Q E j h=>?_;obtain⟨a,t,l,y,rfl,e,k⟩:=h;refine⟨_,(zE<|zL<|z7 (za:CM _<|xu K) (pv 0) zJ),?_⟩;obtain⟨i,b,d,c,g⟩:=jM e;cases d;exact⟨_,rfl,a,_,_,_,rfl,rfl,c,rfl,k b g⟩
end A6
structure Wk (S:Di)(rs F L:Da):Prop where
 nd:F.Nodup
 qi:∀x,x∈F\/x∈L->vC (UU S) rs x
 roots:∀r∈rs,r∈F\/r∈L
 par:∀x∈F,∀y∈UU S x,y∈F\/y∈L
theorem Wk.len (h:Wk S rs F L)(c:Vc S)(d:∀r∈rs,UY S r=true)(g:(S.map En.nm).Nodup):F.length<=S.length:=by
 have:=AnS.len_sub h.nd g λp b=>jE<|vC.note c d<|h.qi p<|.inl b;rw[Zu]at this;exact this
theorem Wk.skip {L:Da}{x:Str}(h:Wk S rs F<|L++[x])(d:x∈F):Wk S rs F L:=by
 have sub:∀y,y∈F\/y∈L++[x]->y∈F\/y∈L:=λy b=>by
  rcases b with z|z
  .exact .inl z
  .rcases ZZ.mp z with z|z
   .exact .inr z
   .rw[Zv.mp z];exact .inl d
 exact⟨h.nd,λy b=>h.qi y<|b.imp id λz=>Yw _ z,λr c=>sub r<|h.roots r c,λy b z e=>sub z<|h.par y b z e⟩
theorem Wk.take {L:Da}{x:Str}(h:Wk S rs F<|L++[x])(d:x∉F):Wk S rs (AnS.vW F x) (L++UU S x):=by
 have f:=h.qi x<|.inr<|Z5 _<|Zv.mpr rfl;have sub:∀y,y∈F\/y∈L++[x]->y∈AnS.vW F x\/y∈L++UU S x:=λy b=>by
  rcases b with z|z
  .exact .inl (AnS.wC.mpr<|.inl z)
  .rcases ZZ.mp z with z|z
   .exact .inr (Yw _ z)
   .rw[Zv.mp z];exact .inl<|AnS.wC.mpr<|.inr rfl
 refine⟨?_,λy b=>?_,λr e=>sub r<|h.roots r e,λy b z c=>?_⟩
 .unfold AnS.vW;rw[ZM d];exact qD h.nd d
 .rcases b with z|z
  .rcases AnS.wC.mp z with z|z
   .exact h.qi y (.inl z)
   .rwa[z]
  .rcases ZZ.mp z with z|z
   .exact h.qi y (.inr<|Yw _ z)
   .exact .step f z
 .rcases AnS.wC.mp b with q|q
  .exact sub z (h.par y q z c)
  .rw[q]at c;exact .inr<|Z5 _ c
theorem MV {H:Hp}{c:D1}{e:Dl}(h:H c=some (.dK e)):∀b∈[c],∀xs,¬Rd H b (.tup xs):=λb d xs z=>by
 rw[Zv.mp d]at z
 rcases z with z|⟨u,z⟩
 .rw[h]at z;cases z
 .rw[h]at z;cases z
namespace A7
abbrev st:Stmt:=top 75
theorem sc:zz ["store","found","roots","names_behind","left","name"] ["store","found","roots","names_behind"] (zF st):=CI
include T in
theorem ok (F:yc0 K "add_found" st f fd)(Qa:Met P w K mg base aC 4 "thing" ["self","name"]<|wu P w K aC)(Q6:yo P w K mg base 1 "parents_in" ["note"]<|tG K):zj P w K mg base CG 5 f fd ["store","found","roots","names_behind"] (rU P w K aC fP):=by
 refine F.ok sc λ_ _ _ _ H vs Q E U h=>?_;obtain⟨a,u,rl,fp,S,rs,rfl,sh,th,two,vc,M,ay,a3,a8,rn,k⟩:=h;refine⟨_,(zD (CK (i:=4) sc.nd<|zT xZ (by rfl) T.list JB<|zA (pv 2) zC)<|zE<|PV El (zR HD (zM z5 (by rfl) T.len Yr<|zA (pv 4) zC) zJ<|z4 _)<|zD (CK (i:=5) sc.nd<|TQ Jf PySem.F.slot_list_pop PySem.F.type_list_pop TC<|pv 4)<|zE<|yD (zR (BM U.units) (pv 5) (pv 1)<|by with_unfolding_all rfl) (zD (yN U.wV (pv 1) (pv 5) qY rfl)<|zE<|z8<|kW Jf PySem.F.slot_list_extend PySem.F.type_list_extend KU (pv 4)<|zA (PB Q6 T.uz U.m (pv 3)<|zA (zX (pv 0) T.cls Qa U.m<|zA (pv 5) zC) zC) zC) zP),?_⟩
 have gn:=sh.good.nn;have gl:=sh.good.len;refine⟨_,rfl,rl,_,rfl,.inl a3,λs N=>?_⟩;have J:u≠s:=zK M N
 let Pv:St->Hp->Prop:=λσ g=>∃o5 n F L,σ=[some<|.ref a,some<|.ref u,some<|.ref rl,some<|.ref fP,some<|.ref s,o5]/\Off [u] H g/\g u=some (.dK n)/\AnS.zb K g n F (λ_=>.bool true)/\g s=some (.lst<|L.map V.str)/\Wk S rs F L/\L.length<=1000+2*F.length
 let μ:St->Hp->Nat:=λσ g=>match g u,g s with
  |some (.dK n),some (.lst O)=>3*(S.length-n.length)+O.length
  |_,_=>0
 have B:∀{σ g n O},g u=some (.dK n)->g s=some (.lst O)->μ σ g=3*(S.length-n.length)+O.length:=λ{σ g n O} h1 h2=>by
  show(match g u,g s with
   |some (.dK n),some (.lst O)=>3*(S.length-n.length)+O.length
   |_,_=>0)=_
  rw[h1,h2]
 refine zQ ?_;refine Ru Pv μ ?_ ?_ ?_
 .exact⟨none,[],[],rs,rfl,Off.of<|zI N,by rw[zH J];exact M,AnS.zb.nil,zB,⟨YN,λx hx=>.root (hx.resolve_left<|λz=>nomatch z),λr U=>.inr U,λx hx=>(nomatch hx)⟩,by rw[Jc];lia⟩
 .rintro σ g ⟨o5,n,X,L,rfl,ad,ak,I,Z,wk,bd⟩;have a9:=sh.off (MV M) ad<|λb hb z=>ay<|Zv.mp z▸hb;refine⟨_,rfl,s,_,rfl,.inl<|yj.of Z,_,_,rfl,rfl,_,rfl,U0 (λc=>?_)<|λc=>?_⟩
  .have c:0<L.length:=by
    have c:decide ((0:Int)<((L.map V.str).length:Int))=true:=c;have:=ZJ c;rw[Zu]at this;lia
   obtain⟨A,x,rfl⟩:∃A x,L=A++[x]:=⟨L.dropLast,L.getLast (by intro z;rw[z]at c;exact absurd c<|by decide),(Ue _).symm⟩;rw[ZE,Yi]at bd;have ml:(A++[x]).map V.str=A.map V.str++[V.str x]:=by rw[ZH];rfl
   refine⟨_,rfl,.inl ⟨rfl,_,yj.of Z⟩,s,_,V.str x,rfl,rfl,Z,by rw[ml,ZE,Yi,Nat.add_sub_cancel,Z2<|ZB _,UJ];rfl,?_⟩;rw[ml,List.dropLast_concat];have R:g s=some (.lst<|A.map V.str++[V.str x]):=by rwa[<-ml]
   have G:upd g s (.lst<|A.map V.str) u=some (.dK n):=by rwa[zH J]
   have a4:qm g (upd g s<|.lst<|A.map V.str):=qm.upd R;have af:Off [u] H (upd g s<|.lst<|A.map V.str):=λb o nb e=>by
    rw[zH (λz=>by rw[z,N]at e;cases e)];exact ad b o nb e
   have ab:upd g s (.lst<|A.map V.str) s=some (.lst<|A.map V.str):=zB;have C:AnS.zb K (upd g s<|.lst<|A.map V.str) n X (λ_=>.bool true):=⟨I.keys,I.nd,I.val⟩;have m0:=B (σ:=[some<|.ref a,some<|.ref u,some<|.ref rl,some<|.ref fP,some<|.ref s,o5]) ak R;rw[ZE,Zu,Yi]at m0;generalize upd g s (.lst<|A.map V.str)=H3 at G a4 af ab C ⊢;have fl:=wk.len vc rn gn;have kl:=C.len;refine⟨_,rfl,_,rfl,u,_,rfl,wO.k (k:=.inr x) G,_,rfl,U0 (λc2=>?_)<|λc2=>?_⟩
   .rw[C.isSome,JQ,YZ]at c2;have ai:=wk.take c2;have a1:=ai.len vc rn gn;have ea:AnS.vW X x=X++[x]:=by unfold AnS.vW;rw[ZM c2]
    rw[ea,ZE,Yi]at a1;have nx:=vC.note vc rn<|wk.qi x<|.inr<|Z5 _<|Zv.mpr rfl;obtain⟨e,he,rfl,t,ps,y,Y⟩:=uJ th nx;have ep:UU S e.nm=ps:=by rw[IK gn he,Y,XH]
    have pl:=two e he t ps y Y;refine⟨_,rfl,_,rfl,u,_,rfl,vQ.k (k:=.inr e.nm) G<|Z4 (by lia:n.length<16777216)<|zx<|ZB _,?_⟩;have p1:=(C.put e.nm (v:=.bl true) (d:=.bool true) rfl).pC (g':=λ_=>.bool true) λp _=>by show(if p=e.nm then PyData.bool true else .bool true)=_;rw[ite_self]
    have ap:=p1.len;have al:upd H3 u (.dK<|yr n (.inr e.nm)<|.bl true) u=some (.dK<|yr n (.inr e.nm)<|.bl true):=zB;have ac:upd H3 u (.dK<|yr n (.inr e.nm)<|.bl true) s=some (.lst<|A.map V.str):=by rwa[zH<|Eh J]
    have ah:Off [u] H (upd H3 u<|.dK<|yr n (.inr e.nm)<|.bl true):=af.upd<|Zv.mpr rfl;have D:AnS.zb K (upd H3 u<|.dK<|yr n (.inr e.nm)<|.bl true) (yr n (.inr e.nm)<|.bl true) (AnS.vW X e.nm) (λ_=>.bool true):=⟨p1.keys,p1.nd,p1.val⟩;generalize upd H3 u (.dK<|yr n (.inr e.nm)<|.bl true)=H4 at al ac ah D ⊢;generalize yr n (.inr e.nm) (.bl true)=as at al D ap;have a0:=sh.off (MV M) ah<|λb hb z=>ay<|Zv.mp z▸hb;obtain⟨gS,dx,d1,d2,d3,bg,a7,a5,a6,h1,_⟩:=id a0;refine⟨_,rfl,.inl ⟨rfl,_,yj.of ac⟩,rfl,_,rfl,a,dx,_,rfl,h1,rfl,_,rfl,a,fp,S,.str e.nm,.str e.nm,rfl,a0,rfl,Zz<|ZA.mpr ⟨e,he,rfl⟩,λe2 a2 ed tt ht=>?_⟩
    .have:e=e2:=Ft gS he a2 (by injection ed);subst this;rw[Y]at ht;refine⟨tt,t,ps,y,rfl,ht,λb hb=>⟨s,b,_,_,rfl,rfl,ac,hb,zx (by rw[Zu,Zu];lia),?_⟩⟩;have an:upd H4 s (.lst<|A.map V.str++ps.map V.str) s=some (.lst<|(A++ps).map V.str):=by rw[zB,ZH]
     have am:upd H4 s (.lst<|A.map V.str++ps.map V.str) u=some (.dK as):=by rwa[zH J]
     refine⟨⟨_,as,AnS.vW X e.nm,A++ps,rfl,λb o nb q=>?_,am,⟨D.keys,D.nd,D.val⟩,an,?_,?_⟩,?_⟩
     .rw[zH (λz=>by rw[z,N]at q;cases q)];exact ah b o nb q
     .rw[ep]at ai;exact ai
     .rw[ea,ZE,ZE,Yi];lia
     .rw[m0,B (σ:=[]) am an,ap,ea,ZE,Zu,ZE,Yi];lia
   .rw[C.isSome,JQ,YZ,Decidable.not_not]at c2;refine⟨⟨_,n,X,A,rfl,af,G,C,ab,wk.skip c2,by lia⟩,?_⟩;rw[m0,B (σ:=[]) G ab,Zu];lia
  .have e0:L=[]:=by
    cases L with
    |nil=>rfl
    |cons x l=>exact absurd (show decide ((0:Int)<((((x::l).map V.str).length:Nat):Int))=true from Zz (by rw[Zu,ZL];lia)) c
   subst e0;refine k g ad ⟨n,X,ak,I,λx=>⟨λhx=>wk.qi x<|.inl hx,λhx=>So (λr U=>(wk.roots r U).resolve_right<|λz=>nomatch z) (λy hy z hz=>(wk.par y hy z hz).resolve_right<|λq=>nomatch q) hx⟩⟩
 .intro σ H Q Q' hq hc;obtain⟨v,e1,l,O,e2,e3,i,j,e4,e5,b,e6,q⟩:=hc;exact⟨v,e1,l,O,e2,e3,i,j,e4,e5,b,e6,hq _ _ q⟩
end A7
namespace A8
abbrev st:Stmt:=top 85
theorem sc:zz ["store","found","name"] ["store","found","name"] (zF st):=CI
include T in
theorem ok (F:yc0 K "add_before" st f fd)(e:yo P w K mg base 5 "add_found" ["store","found","roots","names_behind"]<|rU P w K aC fP):zj P w K mg base CG 6 f fd ["store","found","name"] (rH P w K aC):=by
 refine F.ok sc λ_ _ _ _ H vs Q E n h=>?_;obtain⟨a,g,i,S,r,rfl,sh,th,two,vc,b,c,j,k⟩:=h;refine⟨_,(zE<|z8<|zG e n.m<|zA (pv 0)<|zA (pv 1)<|zA (xB<|zA (pv 2) zC)<|zA (qH (v:=.ref fP) rfl T.uz rfl) zC),?_⟩;refine⟨_,rfl,_,rfl,_,rfl,UT 1,λl q=>?_⟩;have u:=zI (o:=.lst [V.str r]) q;exact⟨a,g,l,i,S,[r],rfl,sh.same u,th,two,vc,u _ _ b,c,yj.of zB,by rw[Yi];lia,λx p=>by rw[Zv.mp p];exact j,λd s fn=>k d ((Off.of u).trans s) fn⟩
end A8
namespace A9
abbrev st:Stmt:=top 76
theorem sc:zz ["store","found"] ["store","found"] (zF st):=CI
include T in
theorem ok (F:yc0 K "in_order" st f fd)(J:Met P w K mg base aC 1 "names" ["self"]<|tO P w K aC):zj P w K mg base CG 2 f fd ["store","found"] (sO P w K aC):=by
 refine F.ok sc λ_ _ _ _ H vs Q E B h=>?_;obtain⟨a,A,R,S,ke,d,rfl,sh,t,v,k⟩:=h;refine⟨_,(zE<|zL<|xF (sc:=zF st) (N:=["store","found"]) (N':=["name","found"]) (src:=[none,some 1]) .a rfl rfl rfl (xC<|PK (pv 0) T.cls J B.m) (λ_ _ _ _=>(zO (i:=0) (show(["name","found"]:Da).Nodup by decide+kernel) rfl (Et rfl))) (λ_ _ _ _=>(BR<|zR (XA B.units) (pv 0) (pv 1)<|by with_unfolding_all rfl)) (λ_ _ _ _=>(pv 0))),?_⟩;obtain⟨U,L,d1,d2,d3,ac,ab,M,Z,X,_⟩:=id sh;refine⟨_,rfl,a,L,_,rfl,X,rfl,a,R,S,rfl,sh,λl nl=>⟨l,rfl,⟨_,yj.of zB⟩,?_⟩⟩;have O:(S.map λe=>V.str e.nm)=(S.map En.nm).map V.str:=by rw[ZY];rfl
 rw[O];have u:=zI (o:=.lst<|(S.map En.nm).map V.str) nl;have hl:yj K (upd H l<|.lst<|(S.map En.nm).map V.str) l ((S.map En.nm).map V.str):=yj.of zB;have g:=u _ _ t;generalize upd H l (.lst<|(S.map En.nm).map V.str)=I at u hl g ⊢;have gl:=U.len;refine jS (K:=K) (a:=l) (xs:=(S.map En.nm).map V.str) (λi n s p=>∃o,s=[o,some<|.ref A]/\zy I p/\n.length<=i/\n=(((S.map En.nm).take i).filter λx=>decide (x∈d)).map V.str) ⟨none,rfl,zy.refl _,ZB _,rfl⟩ (zx (by rw[Zu,Zu];lia)) ?_ ?_ ?_
 .rintro i n s p hi ⟨o,rfl,b,j,_⟩;exact⟨b.seq hl,j⟩
 .rintro i y n s p C ⟨o,rfl,b,j,rfl⟩;rw[ZF]at C;obtain⟨x,Y,ex⟩:=Z0.mp C;subst ex;have G:((S.map En.nm).take<|i+1).filter (λx=>decide (x∈d))=((S.map En.nm).take i).filter (λx=>decide (x∈d))++(if x∈d then[x] else[]):=by
   rw[Ym,Y,JF];show _++[x].filter _=_;rw[YI]
   by_cases z:x∈d
   .rw[ZS<|Zz z,ZS z];rfl
   .rw[ZM<|λq=>z<|ZJ q,ZM z];rfl
  refine⟨_,rfl,_,rfl,A,_,rfl,wO.k (k:=.inr x)<|b _ _ g,_,rfl,U0 (λc=>⟨_,rfl,_,rfl,b,?_,?_⟩)<|λc=>⟨_,rfl,b,Uy j,?_⟩⟩
  .rw[ZE];exact Vp j
  .rw[v.isSome]at c;rw[G,ZS<|ZJ c,ZH];rfl
  .rw[v.isSome]at c;rw[G,ZM<|λz=>c<|Zz z,ZW]
 .rintro n s p ⟨o,rfl,b,j,rfl⟩ r D;rw[Zu,Ya];exact k r _ ((u.trans b).trans<|zI D) ((u.trans b).free D) zB
end A9
theorem Po {H:Hp}{c:D1}(n:H c=none)(h:Off [c] (upd H c o) H'):zy H H':=λb u e=>by
 have ne:b≠c:=zK e n;exact h b u (λz=>ne<|Zv.mp z) (by rwa[zH ne])
namespace Ca
abbrev st:Stmt:=top 86
theorem sc:zz ["store","name","found"] ["store","name"] (zF st):=CI
include T in
theorem ok (F:yc0 K "found_before" st f fd)(s:yo P w K mg base 6 "note_of" ["store","name"]<|vV P w K aC)(r:yo P w K mg base 6 "add_before" ["store","found","name"]<|rH P w K aC):zj P w K mg base CG 7 f fd ["store","name"] (pO P w K aC):=by
 refine F.ok sc λ_ _ _ _ H vs Q E n h=>?_;obtain⟨a,g,S,x,rfl,vs,l,k⟩:=h;refine⟨_,(zD (z8<|zG s n.m<|zA (pv 0)<|zA (pv 1) zC)<|zD (CK (i:=2) sc.nd yM)<|zD (z8<|zG r n.m<|zA (pv 0)<|zA (pv 2)<|zA (pv 1) zC)<|zE<|zL<|pv 2),?_⟩
 obtain⟨e,he,v,t,B,y,hd⟩:=uJ vs.th l;refine⟨_,rfl,_,rfl,a,g,S,x,t,B,y,rfl,vs.sh,⟨e,he,v,hd⟩,λc _=>λd b=>⟨_,rfl,_,rfl,_,rfl,?_⟩⟩;have u:=zI (o:=.dK []) b;have j:d∉g:=λz=>by
  obtain⟨o,q⟩:=vs.sh.ex d z;rw[b]at q;cases q
 exact⟨a,d,g,S,x,rfl,vs.sh.same u,vs.th,vs.two,vs.vc,zB,j,l,λp A fn=>⟨_,rfl,k d p (Po b A) b fn⟩⟩
end Ca
namespace Cb
abbrev st:Stmt:=top 87
theorem sc:zz ["store","name"] ["store","name"] (zF st):=CI
include T in
theorem ok (F:yc0 K "all_before" st f fd)(i:yo P w K mg base 7 "found_before" ["store","name"]<|pO P w K aC)(j:yo P w K mg base 2 "in_order" ["store","found"]<|sO P w K aC):zj P w K mg base CG 8 f fd ["store","name"] (nQ P w K aC):=by
 refine F.ok sc λ_ _ _ _ H vs Q E e h=>?_;obtain⟨a,d,S,x,rfl,vs,q,k⟩:=h;refine⟨_,(zE<|zL<|zG j e.m<|zA (pv 0)<|zA (zG i e.m<|zA (pv 0)<|zA (pv 1) zC) zC),?_⟩;refine⟨_,rfl,_,rfl,_,rfl,a,d,S,x,rfl,vs,q,λo y b t fn=>?_⟩;obtain⟨r,c,p,n,s⟩:=fn;exact⟨a,o,d,S,r,c,rfl,vs.sh.same b,p,n,λl g v u hl=>k l g c (b.trans v) (b.free u) s hl⟩
end Cb
namespace Cc
abbrev st:Stmt:=top 88
theorem sc:zz ["store","one","other"] ["store","one","other"] (zF st):=CI
include T in
theorem ok (F:yc0 K "is_before" st f fd)(j:yo P w K mg base 6 "note_of" ["store","name"]<|vV P w K aC)(l:yo P w K mg base 7 "found_before" ["store","name"]<|pO P w K aC):zj P w K mg base CG 8 f fd ["store","one","other"] (pX P w K aC):=by
 refine F.ok sc λ_ _ _ _ H vs Q E b h=>?_;obtain⟨a,d,S,x,y,rfl,vs,r,s,k⟩:=h;refine⟨_,(zD (z8<|zG j b.m<|zA (pv 0)<|zA (pv 1) zC)<|zE<|zL<|yI (XA b.units) (pv 1) (zG l b.m<|zA (pv 0)<|zA (pv 2) zC)<|by with_unfolding_all rfl),?_⟩
 obtain⟨e,he,o,t,A,z,hd⟩:=uJ vs.th r;refine⟨_,rfl,_,rfl,a,d,S,x,t,A,z,rfl,vs.sh,⟨e,he,o,hd⟩,λc _=>⟨_,rfl,_,rfl,_,rfl,a,d,S,y,rfl,vs,s,λp i B v fn=>?_⟩⟩;obtain⟨C,g,q,n,u⟩:=fn;refine⟨p,_,rfl,wO.k (k:=.inr x) q,?_⟩;rw[n.isSome];exact k g i B u
end Cc
namespace Cd
abbrev st:Stmt:=top 89
theorem sc:zz ["store","one","other","before_one","before_both","passed","version","parent"] ["store","one","other"] (zF st):=CI
include T in
theorem ok (F:yc0 K "meeting_of" st f fd)(Ql:yo P w K mg base 7 "found_before" ["store","name"]<|pO P w K aC)(Zb:yo P w K mg base 8 "all_before" ["store","name"]<|nQ P w K aC)(Qz:yo P w K mg base 7 "parents_of" ["store","name"]<|tL P w K aC):zj P w K mg base CG 9 f fd ["store","one","other"] (rB P w K aC):=by
 refine F.ok sc λ_ _ _ _ H vs Q E A h=>?_;obtain⟨a,fp,S,x,y,rfl,vs,hx,hy,k1⟩:=h;refine⟨_,(zD (CK (i:=3) sc.nd<|zG Ql A.m<|zA (pv 0)<|zA (pv 1) zC)<|zD (Iy (sc:=zF st) (N:=["store","one","other","before_one","before_both","passed","version","parent"]) (N':=["version","before_one"]) (src:=[none,some 3]) .a rfl rfl rfl (xC<|zG Zb A.m<|zA (pv 0)<|zA (pv 2) zC) (λ_ _ _ _=>(zO (i:=0) (show(["version","before_one"]:Da).Nodup by decide+kernel) rfl (Et rfl))) (λ_ _ _ _=>(BR<|zR (XA A.units) (pv 0) (pv 1)<|by with_unfolding_all rfl)) (λ_ _ _ _=>(pv 0)) sc.nd rfl (Et rfl) (k:=4)) (zD (CK (i:=5) sc.nd yM)<|zD (yY El rfl (xC<|pv 4) (zO (i:=6) sc.nd rfl<|Et rfl)<|zE<|yY El rfl (xC<|zG Qz A.m<|zA (pv 0)<|zA (pv 6) zC) (zO (i:=7) sc.nd rfl<|Et rfl)<|zE<|yN A.wV (pv 5) (pv 7) qY rfl)<|zE<|zL<|xF (sc:=zF st) (N:=["store","one","other","before_one","before_both","passed","version","parent"]) (N':=["version","passed"]) (src:=[none,some 5]) .a rfl rfl rfl (xC<|pv 4) (λ_ _ _ _=>(zO (i:=0) (show(["version","passed"]:Da).Nodup by decide+kernel) rfl (Et rfl))) (λ_ _ _ _=>(BR<|zR (BM A.units) (pv 0) (pv 1)<|by with_unfolding_all rfl)) (λ_ _ _ _=>(pv 0)))),?_⟩
 have gn:=vs.sh.good.nn;have gl:=vs.sh.good.len;refine⟨_,rfl,_,rfl,a,fp,S,x,rfl,vs,hx,λfo H1 s1 a9 fn=>?_⟩;obtain⟨ke,t,a3,a2,an⟩:=fn;refine zQ ?_;refine⟨_,rfl,_,rfl,a,fp,S,y,rfl,vs.same s1,hy,λl H2 F2 s2 nl ap hl=>?_⟩;have a4:=s2 _ _ a3;have al:=a2.same s2;have e2:=s1.trans s2;generalize eN:(S.map En.nm).filter (λx=>decide (x∈F2))=M at hl;have a5:M.length<=2000:=by
  rw[<-eN];exact Yn (Jl _ _) (by rwa[Zu])
 refine⟨l,rfl,⟨_,yj.of hl⟩,jS (K:=K) (a:=l) (xs:=M.map V.str) (λi L e H3=>∃o,e=[o,some<|.ref fo]/\zy H2 H3/\L.length<=i/\L=((M.take i).filter λx=>decide (x∈t)).map V.str) ⟨none,rfl,zy.refl _,ZB _,rfl⟩ (zx (by rw[Zu];lia)) ?_ ?_ ?_⟩
 .rintro i L e H3 hi ⟨o,rfl,e3,J,_⟩;exact⟨e3.seq<|yj.of hl,J⟩
 .rintro i z L e H3 D ⟨o,rfl,e3,J,rfl⟩;rw[ZF]at D;obtain⟨q,hq,ez⟩:=Z0.mp D;subst ez;have tk:(M.take<|i+1).filter (λx=>decide (x∈t))=(M.take i).filter (λx=>decide (x∈t))++(if q∈t then[q] else[]):=by
   rw[Ym,hq,JF];show _++[q].filter _=_;rw[YI]
   by_cases z:q∈t
   .rw[ZS<|Zz z,ZS z];rfl
   .rw[ZM<|λq=>z<|ZJ q,ZM z];rfl
  refine⟨_,rfl,_,rfl,fo,_,rfl,wO.k (k:=.inr q)<|e3 _ _ a4,_,rfl,U0 (λc=>⟨_,rfl,_,rfl,e3,?_,?_⟩)<|λc=>⟨_,rfl,e3,Uy J,?_⟩⟩
  .rw[ZE];exact Vp J
  .rw[al.isSome]at c;rw[tk,ZS<|ZJ c,ZH];rfl
  .rw[al.isSome]at c;rw[tk,ZM<|λz=>c<|Zz z,ZW]
 rintro L e H3 ⟨o,rfl,e3,J,rfl⟩ bl a6;rw[Zu,Ya];refine zQ ?_;have u4:=zI (o:=.lst<|(M.filter λx=>decide (x∈t)).map V.str) a6;have C:upd H3 bl (.lst<|(M.filter λx=>decide (x∈t)).map V.str) bl=some (.lst<|(M.filter λx=>decide (x∈t)).map V.str):=zB;have e4:zy H (upd H3 bl<|.lst<|(M.filter λx=>decide (x∈t)).map V.str):=(e2.trans e3).trans u4;generalize eB:M.filter (λx=>decide (x∈t))=g at C u4 e4 ⊢;generalize upd H3 bl (.lst<|g.map V.str)=H4 at C u4 e4 ⊢;have mB:∀v,v∈g↔vC (UU S) [x] v/\vC (UU S) [y] v:=λv=>by
  rw[<-eB,YK,<-eN,YK,ZQ,ZQ,an,ap];constructor
  .rintro⟨⟨_,a⟩,b⟩;exact⟨b,a⟩
  .rintro⟨a,b⟩;exact⟨⟨jE<|vC.note vs.vc (λr A=>by rwa[Zv.mp A]) a,b⟩,a⟩
 have a7:g.length<=2000:=by rw[<-eB];exact Yn (Jl _ _) a5
 have nB:∀v∈g,UY S v=true:=λv hv=>vC.note vs.vc (λr A=>by rwa[Zv.mp A]) ((mB v).mp hv).1;refine λO ai=>?_;have as:H O=none:=e4.free ai;have ak:bl≠O:=zK C ai;have u5:=zI (o:=.dK []) ai;refine⟨_,rfl,bl,rfl,⟨_,yj.of<|u5 _ _ C⟩,jH (K:=K) (a:=bl) (xs:=g.map V.str) (λi e Z=>∃o6 o7,e=[some<|.ref a,some<|.str x,some<|.str y,some<|.ref fo,some<|.ref bl,some<|.ref O,o6,o7]/\zy H Z/\Z bl=some (.lst<|g.map V.str)/\∃kp G,Z O=some (.dK kp)/\AnS.zb K Z kp G (λ_=>.bool true)/\∀q,q∈G↔∃w∈g.take i,q∈UU S w) ⟨none,none,rfl,e4.trans u5,u5 _ _ C,[],[],zB,AnS.zb.nil,λq=>⟨λz=>(nomatch z),λ⟨_,z,_⟩=>(nomatch z)⟩⟩ (λi e Z _ ⟨_,_,_,_,z,_⟩=>yj.of z) ?_ ?_⟩
 .rintro i z e Z D ⟨o6,o7,rfl,e5,U,kp,G,X,R,mG⟩;rw[ZF]at D;obtain⟨q,hq,ez⟩:=Z0.mp D;subst ez;have qn:=nB q<|ZN hq;obtain⟨en,af,am,tt,ps,yy,ad⟩:=uJ vs.th qn;have ep:UU S q=ps:=by rw[<-am,IK gn af,ad,XH]
  refine⟨_,rfl,_,rfl,a,fp,S,q,tt,ps,yy,rfl,vs.sh.same e5,⟨en,af,am,ad⟩,λpl ay=>?_⟩
  .have bd:(UU S q).length<=2:=by rw[ep];exact vs.two en af tt ps yy ad
   rw[<-ep];have u6:=zI (o:=.lst<|(UU S q).map V.str) ay;have a1:O≠pl:=zK X ay;refine⟨pl,rfl,⟨_,yj.of zB⟩,jH (K:=K) (a:=pl) (xs:=(UU S q).map V.str) (λj e n=>∃o7,e=[some<|.ref a,some<|.str x,some<|.str y,some<|.ref fo,some<|.ref bl,some<|.ref O,some<|.str q,o7]/\zy H n/\n bl=some (.lst<|g.map V.str)/\n pl=some (.lst<|(UU S q).map V.str)/\∃kp G,n O=some (.dK kp)/\AnS.zb K n kp G (λ_=>.bool true)/\∀r,r∈G↔(∃w∈g.take i,r∈UU S w)\/r∈(UU S q).take j) ⟨_,rfl,e5.trans u6,u6 _ _ U,zB,kp,G,u6 _ _ X,R.same u6,λr=>by rw[mG];exact⟨.inl,λz=>z.elim id λz=>(nomatch z)⟩⟩ (λj e n _ ⟨_,_,_,_,z,_⟩=>yj.of z) ?_ ?_⟩
   .rintro j z e n D ⟨o7,rfl,u,ac,ab,kp,G,ah,B,I⟩;rw[ZF]at D;obtain⟨r,A,ez⟩:=Z0.mp D;subst ez;have kl:=B.len;have a8:G.length<=2000:=by
     have:=AnS.len_sub B.nd gn λp hp=>by
      rcases(I p).mp hp with⟨s,Y,z⟩|z
      .exact jE (vs.vc s (nB s<|Y3 Y) p z)
      .exact jE (vs.vc q qn p<|Y3 z)
     rw[Zu]at this;lia
    refine⟨_,rfl,_,rfl,O,_,rfl,vQ.k (k:=.inr r) ah<|Z4 (by lia:kp.length<16777216)<|zx<|ZB _,?_⟩;have p1:=(B.put r (v:=.bl true) (d:=.bool true) rfl).pC (g':=λ_=>.bool true) λp _=>by show(if p=r then PyData.bool true else .bool true)=_;rw[ite_self]
    refine⟨_,rfl,An.zy.sy u as,by rw[zH ak];exact ac,by rw[zH<|Eh a1];exact ab,_,_,zB,⟨p1.keys,p1.nd,p1.val⟩,λp=>?_⟩;rw[AnS.wC,I,Ym,A,ZZ];show _↔_\/(_\/p∈[r]);rw[Zv,or_assoc]
   .rintro e n ⟨o7,rfl,u,ac,ab,kp,G,ah,B,I⟩;rw[Zu,Ya]at I;refine⟨_,_,rfl,u,ac,kp,G,ah,B,λp=>?_⟩;rw[I,Ym,hq];constructor
    .rintro(⟨s,Y,z⟩|z)
     .exact⟨s,Yw _ Y,z⟩
     .exact⟨q,Z5 _<|Zv.mpr rfl,z⟩
    .rintro⟨s,Y,z⟩
     rcases ZZ.mp Y with Y|Y
     .exact .inl ⟨s,Y,z⟩
     .rw[Zv.mp Y]at z;exact .inr z
 .rintro e Z ⟨o6,o7,rfl,e5,U,kp,G,X,R,mG⟩;rw[Zu,Ya]at mG;refine⟨_,rfl,bl,rfl,⟨_,yj.of U⟩,jS (K:=K) (a:=bl) (xs:=g.map V.str) (λi L e n=>∃o,e=[o,some<|.ref O]/\zy Z n/\L.length<=i/\L=((g.take i).filter λx=>decide (x∉G)).map V.str) ⟨none,rfl,zy.refl _,ZB _,rfl⟩ (zx (by rw[Zu];lia)) ?_ ?_ ?_⟩
  .rintro i L e n hi ⟨o,rfl,u,J,_⟩;exact⟨u.seq<|yj.of U,J⟩
  .rintro i z L e n D ⟨o,rfl,u,J,rfl⟩;rw[ZF]at D;obtain⟨q,hq,ez⟩:=Z0.mp D;subst ez;have tk:(g.take<|i+1).filter (λx=>decide (x∉G))=(g.take i).filter (λx=>decide (x∉G))++(if q∈G then[] else[q]):=by
    rw[Ym,hq,JF];show _++[q].filter _=_;rw[YI]
    by_cases z:q∈G
    .rw[ZM<|λw=>absurd z<|ZJ w,ZS z];rfl
    .rw[ZS<|Zz z,ZM z];rfl
   refine⟨_,rfl,_,rfl,O,_,rfl,wO.k (k:=.inr q)<|u _ _ X,_,rfl,U0 (λc=>⟨_,rfl,_,rfl,u,?_,?_⟩)<|λc=>⟨_,rfl,u,Uy J,?_⟩⟩
   .rw[ZE];exact Vp J
   .rw[R.isSome,JQ,YZ]at c;rw[tk,ZM c,ZH];rfl
   .rw[R.isSome,JQ,YZ,Decidable.not_not]at c;rw[tk,ZS c,ZW]
  .rintro L e n ⟨o,rfl,u,J,rfl⟩ rl a0;rw[Zu,Ya];refine k1 rl (g.filter λx=>decide (x∉G)) _ ((e5.trans u).trans<|zI a0) ((e5.trans u).free a0) ⟨λv=>decide (v∈F2)&&decide (v∈t)&&decide (v∉G),?_,λv hv=>?_⟩ zB
   .rw[<-eB,<-eN,List.filter_filter,List.filter_filter];refine List.filter_congr λv _=>?_;generalize decide (v∉G)=b1;generalize decide (v∈t)=b2;generalize decide (v∈F2)=b3;cases b1<;>cases b2<;>cases b3<;>rfl
   .rw[ZG,ZG,ZQ,ZQ,ZQ,an,ap,mG];constructor
    .rintro⟨⟨a,b⟩,c⟩;exact⟨⟨b,a⟩,λs h1 h2 h3=>c ⟨s,(mB s).mpr ⟨h1,h2⟩,h3⟩⟩
    .rintro⟨⟨a,b⟩,c⟩;exact⟨⟨b,a⟩,λ⟨s,h1,h3⟩=>c s ((mB s).mp h1).1 ((mB s).mp h1).2 h3⟩
end Cd
def j3 (b m y:Option Da):Option Da:=if m=b then y else m
inductive nU (K:CB)(vs:Dj)(H:Hp)(Q:VK)(e3:XK):Prop
 |mk (vb vm vy:V) (b m y:Option Da) (h0:vs=[vb,vm,vy]) (h1:Dt K H (AnS.oD b) vb) (h2:Dt K H (AnS.oD m) vm) (h3:Dt K H (AnS.oD y) vy) (h4:AnS.pA b) (h5:AnS.pA m) (h6:AnS.pA y) (h7:(m=b\/y=b)) (h8:∀(t:D1) v H',zy H H'->xj K H' t [.str "stands",v]->Dt K H' (AnS.oD<|j3 b m y) v->Q (.ref t) H'):nU K vs H Q e3
inductive pG (K:CB)(vs:Dj)(H:Hp)(Q:VK)(e3:XK):Prop
 |mk (d:D1) (Dm:Dl) (L:Da) (g:Str->Ea) (h0:vs=[.ref d]) (h1:H d=some (.dK Dm)) (h2:AnS.zb K H Dm L g) (h3:(∀p∈L,p.length<=1000)) (h4:(∀p∈L,∀q∈L,Xr p q=false)) (h5:∀(e:D1) H',zy H H'->H e=none->H' e=some (.dK [])->Q (.ref e) H'):pG K vs H Q e3
namespace Ce
abbrev st:Stmt:=top 60
theorem sc:zz ["base","mine","yours","lines"] ["base","mine","yours"] (zF st):=CI
include T in
theorem ok (F:yc0 K "joined_at" st f fd):zj P w K mg base CG 1 f fd ["base","mine","yours"] (nU K):=by
 refine F.ok sc λ_ _ _ _ H vs Q E l h=>?_;obtain⟨s,u,x,b,m,y,rfl,p,g,n,ob,q,r,one,k⟩:=h;refine⟨_,(zD (yD (zR (Fw l.units) (pv 1) (pv 2)<|z4 _) (zE<|zL<|x6<|zA zr<|zA (pv 1) zC) zP)<|zD (yD (zR (Fw l.units) (pv 1) (pv 0)<|z4 _) (zE<|zL<|x6<|zA zr<|zA (pv 2) zC) zP)<|zD (yD (zR (Fw l.units) (pv 2) (pv 0)<|z4 _) (zE<|zL<|x6<|zA zr<|zA (pv 1) zC) zP) BF),?_⟩
 have d:∀{v o},Dt K H (AnS.oD o) v->o=j3 b m y->∀t,H t=none->Q (.ref t) (upd H t<|.tup [.str "stands",v]):=λhv e t nt=>k t _ _ (zI nt) (xj.of zB)<|e▸Dt.same (zI nt) _ _ hv;refine⟨_,rfl,_,rfl,AnS.oD m,AnS.oD y,g,n,AnS.wD q,AnS.wD r,_,rfl,U0 (λi=>?_)<|λi=>?_⟩
 .rw[AnS.sX]at i;exact⟨_,rfl,UT 2,d g (by unfold j3;rw[ZJ i,ite_self])⟩
 refine⟨_,rfl,_,rfl,AnS.oD m,AnS.oD b,g,p,AnS.wD q,AnS.wD ob,_,rfl,U0 (λc=>?_)<|λc=>?_⟩
 .rw[AnS.sX]at c;exact⟨_,rfl,UT 2,d n (by unfold j3;rw[ZS<|ZJ c])⟩
 rw[AnS.sX]at c;have c:m≠b:=λz=>c<|Zz z;refine⟨_,rfl,_,rfl,AnS.oD y,AnS.oD b,n,p,AnS.wD r,AnS.wD ob,_,rfl,U0 (λj=>?_)<|λj=>?_⟩
 .exact⟨_,rfl,UT 2,d g (by unfold j3;rw[ZM c])⟩
 .rw[AnS.sX]at j;exact(one.elim c λz=>j<|Zz z).elim
end Ce
namespace Cf
abbrev st:Stmt:=top 61
theorem sc:zz ["files","found","path","folder"] ["files"] (zF st):=CI
include T in
theorem ok (F:yc0 K "in_the_way" st f fd)(Qu:yo P w K mg base 1 "folders_of" ["path"]<|tV K):zj P w K mg base CG 2 f fd ["files"] (pG K):=by
 refine F.ok sc λ_ _ _ _ H vs Q E G h=>?_;obtain⟨d,p,L,g,rfl,hd,O,pl,ap,k⟩:=h;refine⟨_,(zD (CK (i:=1) sc.nd yM)<|zD (uE<|yY El rfl (M0<|XE<|pv 0) (zO (i:=2) sc.nd rfl<|Et rfl)<|zE<|yY El rfl (xC<|zG Qu G.m<|zA (pv 2) zC) (zO (i:=3) sc.nd rfl<|Et rfl)<|zE<|yD (zR (XA G.units) (pv 3) (pv 0)<|by with_unfolding_all rfl) (zD (yN G.wV (pv 1) (pv 3) qY rfl)<|zE<|yN G.wV (pv 1) (pv 2) qY rfl) zP)<|zE<|zL<|pv 1),?_⟩
 refine λe ne=>?_;have I:d≠e:=zK hd ne;refine⟨_,rfl,d,p,rfl,by rw[zH I];exact hd,λob=>⟨d,ob,p,rfl,zB,?_⟩⟩;have j:upd (upd H e<|.dK []) d (.frz ob<|.dK p) d=some (.frz ob<|.dK p):=zB;have t:upd (upd H e<|.dK []) d (.frz ob<|.dK p) e=some (.dK []):=by rw[zH<|Eh I,zB]
 have A:∀b o,b≠d->H b=some o->upd (upd H e<|.dK []) d (.frz ob<|.dK p) b=some o:=λb o nb J=>by
  rwa[zH nb,zH<|zK J ne]
 generalize upd (upd H e<|.dK []) d (.frz ob<|.dK p)=H1 at j t A ⊢;refine Hd (λi n B=>∃N r,n=[some<|.ref d,some<|.ref e,N,r]/\zy H1 B) ⟨none,none,rfl,zy.refl _⟩ (λi n B R ⟨_,_,_,q⟩=>q _ _ j) ?_ ?_
 .rintro i M v n B R ⟨N,r,rfl,q⟩;obtain⟨S,D⟩:=O.at R;have D:M=.inr (Xa (M,v)):=D;generalize Xa (M,v)=x at S D;subst D;have Z:=ZN S;refine⟨_,rfl,x,rfl,pl x Z,λl H3 Y hl=>⟨l,rfl,⟨_,hl⟩,?_⟩⟩;refine jH (K:=K) (a:=l) (xs:=(G1 x).map V.str) (λX n C=>∃r,n=[some<|.ref d,some<|.ref e,some<|.str x,r]/\zy H3 C) ⟨_,rfl,zy.refl _⟩ (λX n C ab ⟨_,_,s⟩=>s.seq hl) ?_ ?_
  .rintro X y n C U ⟨r,rfl,s⟩;rw[ZF]at U;obtain⟨z,hz,ez⟩:=Z0.mp U;subst ez;refine⟨_,rfl,_,rfl,d,_,rfl,MJ (k:=.inr z)<|s _ _<|Y _ _<|q _ _ j,_,rfl,U0 (λc=>?_)<|λc=>⟨_,rfl,s⟩⟩;rw[O.isSome]at c;have:=ap z (ZJ c) x Z;rw[su.mp<|ZN hz]at this;cases this
  .rintro n C ⟨r,rfl,s⟩;exact⟨_,_,rfl,(q.trans Y).trans s⟩
 .rintro n B ⟨N,r,rfl,q⟩;refine⟨d,ob,p,q _ _ j,λo u (z:H d=some (.frz o u))=>(by rw[hd]at z;cases z),_,rfl,k e _ (λb o J=>?_) ne (by rw[zH<|Eh I];exact q _ _ t)⟩
  by_cases z:b=d
  .subst z;rwa[zB,<-hd]
  .rw[zH z];exact q _ _<|A b o z J
end Cf
def jf (B M Y:Str->Option Da)(p:Str):Option Da:=j3 (B p) (M p)<|Y p
inductive pU (K:CB)(vs:Dj)(H:Hp)(Q:VK)(e3:XK):Prop
 |mk (ab am ay:D1) (kb km ky:Dl) (LB LM LY:Da) (B M Y:Str->Option Da) (h0:vs=[.ref ab,.ref am,.ref ay]) (h1:H ab=some (.dK kb)) (h2:H am=some (.dK km)) (h3:H ay=some (.dK ky)) (h4:AnS.Three K H kb km ky LB LM LY B M Y) (h5:(∀p,M p=B p\/Y p=B p)) (h6:(∀p q,(jf B M Y p).isSome=true->(jf B M Y q).isSome=true->Xr p q=false)) (h7:∀(t af ac:D1) (kf:Dl) (L:Da) H',zy H H'->H' t=some (.tup [.ref af,.ref ac])->H af=none->H' af=some (.dK kf)->AnS.Files K H' kf L (jf B M Y)->H' ac=some (.lst [])->Q (.ref t) H'):pU K vs H Q e3
namespace Cg
abbrev st:Stmt:=top 59
theorem sc:zz ["base","mine","yours","standing","clashing","path","outcome","blocked","files","clashes"] ["base","mine","yours"] (zF st):=CI
include T in
theorem ok (F:yc0 K "joined_files" st f fd)(Zc:yo P w K mg base 1 "joined_at" ["base","mine","yours"]<|nU K)(Zd:yo P w K mg base 2 "in_the_way" ["files"]<|pG K):zj P w K mg base CG 3 f fd ["base","mine","yours"] (pU K):=by
 refine F.ok sc λ_ _ _ _ H vs Q E G h=>?_;obtain⟨ab,am,ay,kb,km,ky,LB,LM,LY,B,M,Y,rfl,hb,hm,hy,th,one,ap,k⟩:=h;refine⟨_,(zD (CK (i:=3) sc.nd yM)<|zD (CK (i:=4) sc.nd yM)<|zD (yY El rfl (xC<|zM (kR rfl) (by rfl) T.sorted JT<|zA (zY Pu (zY Pu (zT Xy (by rfl) T.set JG (zA (pv 0) zC)) (zT Xy (by rfl) T.set JG (zA (pv 1) zC))) (zT Xy (by rfl) T.set JG (zA (pv 2) zC))) zC) (zO (i:=5) sc.nd rfl<|Et rfl) (zD (CK (i:=6) sc.nd<|zG Zc G.m<|zA (jI G.wV (pv 0) (pv 5) ⟨rfl,rfl,rfl,rfl⟩)<|zA (jI G.wV (pv 1) (pv 5) ⟨rfl,rfl,rfl,rfl⟩)<|zA (jI G.wV (pv 2) (pv 5) ⟨rfl,rfl,rfl,rfl⟩) zC)<|zE<|yD (zR qM (z7 (za:CM _<|xu K) (pv 6) zJ) zr<|z4 _) (zE<|yN G.wV (pv 4) (pv 5) qY rfl)<|zE<|yD (zR Ix (z7 (za:CM _<|xu K) (pv 6) zJ) qK<|z4 _) (zE<|yN G.wV (pv 3) (pv 5) (z7 (za:CM _<|xu K) (pv 6) zJ) rfl) zP)) (zD (CK (i:=7) sc.nd<|zG Zd G.m<|zA (pv 3) zC)<|zD (z8<|MZ (pv 4) (pv 7) ⟨rfl,rfl,rfl,rfl⟩)<|zD (CK (i:=8) sc.nd<|zT (Ku (K:=K) rfl) (by rfl) T.dict Y7<|zA (xF (sc:=zF st) (N:=["base","mine","yours","standing","clashing","path","outcome","blocked","files","clashes"]) (N':=["path","lines","blocked"]) (src:=[none,none,some 7]) .a rfl rfl rfl (k6<|XE<|pv 3) (λ_ _ _ _=>(Sj (K:=K) (n:=2) rfl<|yF (zO (i:=0) (show(["path","lines","blocked"]:Da).Nodup by decide+kernel) rfl (Et rfl)) (yF (zO (i:=1) (show(["path","lines","blocked"]:Da).Nodup by decide+kernel) rfl (Et rfl)) qR))) (λ_ _ _ _=>(BR<|zR (BM G.units) (pv 0) (pv 2)<|by with_unfolding_all rfl)) (λ_ _ _ _=>(x6<|zA (pv 0)<|zA (pv 1) zC))) zC) (zD (Iy (sc:=zF st) (N:=["base","mine","yours","standing","clashing","path","outcome","blocked","files","clashes"]) (N':=["path","base","mine","yours"]) (src:=[none,some 0,some 1,some 2]) .a rfl rfl rfl (xC<|zM (CZ rfl) (by rfl) T.sorted JT<|zA (pv 4) zC) (λ_ _ _ _=>(zO (i:=0) (show(["path","base","mine","yours"]:Da).Nodup by decide+kernel) rfl (Et rfl))) (λ_ _ _ _=>qA) (λ_ _ _ _=>(x6<|zA (pv 0)<|zA (jI G.wV (pv 1) (pv 0) ⟨rfl,rfl,rfl,rfl⟩)<|zA (jI G.wV (pv 2) (pv 0) ⟨rfl,rfl,rfl,rfl⟩)<|zA (jI G.wV (pv 3) (pv 0) ⟨rfl,rfl,rfl,rfl⟩) zC)) sc.nd rfl (Et rfl) (k:=9)) (zE<|zL<|x6<|zA (pv 8)<|zA (pv 9) zC)))),?_⟩
 have l1:=th.fb.is.len;have l2:=th.fm.is.len;have l3:=th.fy.is.len;have ll:=th.len;have e1:=th.fb.is.qg;have e2:=th.fm.is.qg;have e3:=th.fy.is.qg;refine λg n1=>?_;refine λj an=>?_;have n2:H j=none:=(zI n1).free an;have O:g≠j:=zK zB an;have s1:zy H (upd (upd H g<|.dK []) j<|.dK []):=(zI n1).trans<|zI an;refine⟨_,rfl,ab,kb,rfl,.inl<|s1 _ _ hb,th.fb.is.oJ,by lia,λp1 b2=>?_⟩;rw[e1];have s2:=s1.trans<|zI (o:=U1 P w p1 LB) b2;refine⟨_,rfl,am,km,rfl,.inl<|s2 _ _ hm,th.fm.is.oJ,by lia,λp2 C=>?_⟩;rw[e2];have s:=s2.trans<|zI (o:=U1 P w p2 LM) C;refine⟨p1,p2,LB,LM,rfl,rfl,by rw[zH<|zK zB C,zB],zB,zK zB C,by lia,λp3 Z b4 b3=>?_⟩;have s4:=s.trans<|zI (o:=U1 P w p3 Z) b4;have:=b3.len;refine⟨_,rfl,ay,ky,rfl,.inl<|s4 _ _ hy,th.fy.is.oJ,by lia,λp4 af=>?_⟩;rw[e3];have s5:=s4.trans<|zI (o:=U1 P w p4 LY) af;refine⟨p3,p4,Z,LY,rfl,rfl,by rw[zH<|zK zB af,zB],zB,zK zB af,by lia,λp5 ac b6 b5=>?_⟩;have I:=s5.trans<|zI (o:=U1 P w p5 ac) b6;have:=b5.len;refine⟨p5,ac,rfl,zB,by lia,λl r nl pm so=>⟨l,rfl,⟨_,yj.of zB⟩,?_⟩⟩;have s7:=I.trans<|zI (o:=.lst<|r.map V.str) nl;have un:=AnS.nY b3 b5 pm so th.fb.is.nd th.fm.is.nd th.fy.is.nd;have sl:=AnS.lO.len b3 b5 pm;have t1:zy (upd (upd H g<|.dK []) j<|.dK []) (upd (upd (upd (upd (upd (upd (upd (upd H g<|.dK []) j<|.dK []) p1<|U1 P w p1 LB) p2<|U1 P w p2 LM) p3<|U1 P w p3 Z) p4<|U1 P w p4 LY) p5<|U1 P w p5 ac) l<|.lst<|r.map V.str) :=
  (((((zI b2).trans<|zI C).trans<|zI b4).trans<|zI af).trans<|zI b6).trans (zI nl)
 have a5:=t1 g (.dK []) (by rw[zH O,zB]);have a4:=t1 j (.dK []) zB;have cb:yj K (upd (upd (upd (upd (upd (upd (upd (upd H g<|.dK []) j<|.dK []) p1<|U1 P w p1 LB) p2<|U1 P w p2 LM) p3<|U1 P w p3 Z) p4<|U1 P w p4 LY) p5<|U1 P w p5 ac) l<|.lst<|r.map V.str) l (r.map V.str):=yj.of zB;clear I s5 s4 s s2;have ah:∀p∈r,p.length<=1000/\D9 p=true:=λp A=>th.path p<|(un.mem p).mp A;have ej:∀p,j3 (B p) (M p) (Y p)=jf B M Y p:=λp=>rfl;have bo:∀p,(jf B M Y p).isSome=true->p∈r:=λp A=>by
  rw[un.mem,th.fb.mem,th.fm.mem,th.fy.mem];unfold jf j3 at A
  by_cases z:M p=B p
  .rw[ZS z]at A;exact .inr<|.inr A
  .rw[ZM z]at A;exact .inr<|.inl A
 generalize jf B M Y=J at ap k ej bo;refine jH (K:=K) (a:=l) (xs:=r.map V.str) (λi D H2=>∃o5 o6,D=[some<|.ref ab,some<|.ref am,some<|.ref ay,some<|.ref g,some<|.ref j,o5,o6,none,none,none]/\zy H H2/\yj K H2 l (r.map V.str)/\∃b,H2 g=some (.dK b)/\H2 j=some (.dK [])/\AnS.zb K H2 b ((r.take i).filter<|λp=>(J p).isSome) (λp=>AnS.oD<|J p)) ?_ ?_ ?_ ?_
 .exact⟨none,none,rfl,s7,cb,[],a5,a4,AnS.zb.nil⟩
 .rintro i D H2 hi ⟨o5,o6,rfl,e,hl,_⟩;exact hl
 .rintro i y D H2 bg ⟨o5,o6,rfl,e,hl,b,X,hc,d⟩;rw[ZF]at bg;obtain⟨p,q,ey⟩:=Z0.mp bg;subst ey;have as:=th.mono<|.of e;have il:=(ZO.mp q).1;refine⟨_,rfl,ab,rfl,.inl ⟨kb,.inl<|e _ _ hb⟩,_,rfl,_,wO.k (k:=.inr p)<|e _ _ hb,_,rfl,am,rfl,.inl ⟨km,.inl<|e _ _ hm⟩,_,rfl,_,wO.k (k:=.inr p)<|e _ _ hm,_,rfl,ay,rfl,.inl ⟨ky,.inl<|e _ _ hy⟩,_,rfl,_,wO.k (k:=.inr p)<|e _ _ hy,?_⟩;refine⟨_,_,_,B p,M p,Y p,rfl,as.fb.get p,as.fm.get p,as.fy.get p,(th.ok p).1,(th.ok p).2.1,(th.ok p).2.2,one p,λt v H3 s ak hv=>?_⟩;rw[ej]at hv;have e3:=e.trans s;have a8:=s.seq hl;have d:=d.same s;have X:=s _ _ X;have hc:=s _ _ hc;have cd:=d.len;have ai:=Jl (λp=>(J p).isSome) (r.take i);rw[Z3]at ai;have r1:b.length<sizeLine:=Z4 (by lia:b.length<16777216)<|zx<|ZB _;refine⟨_,rfl,t,_,_,_,rfl,rfl,ak,rfl,rfl,_,rfl,KK (by decide+kernel) ⟨_,rfl,t,_,_,_,rfl,rfl,ak,rfl,rfl,_,rfl,U0 (λc=>?_)<|λc=>?_⟩⟩
  .cases q2:J p with
   |none =>
    rw[q2]at hv;have hv:v=.non:=hv;rw[hv]at c;cases c
   |some ls =>
    refine⟨_,rfl,t,_,_,_,rfl,rfl,ak,rfl,_,rfl,_,rfl,g,_,rfl,vQ.k (k:=.inr p) X r1,?_⟩;have u:=AnS.DS.upd (o:=.dK<|yr b (.inr p) v) X;refine⟨_,_,rfl,An.zy.sy e3 n1,u.sqL a8,_,zB,by rw[zH<|Eh O];exact hc,?_⟩;rw[<-AnS.pN un.nd q (by rw[q2];rfl)];refine((d.put p hv).pC (g':=λp=>AnS.oD<|J p) λx _=>?_).mono u;show(if x=p then AnS.oD (J p) else AnS.oD (J x))=_
    by_cases z:x=p
    .rw[ZS z,z]
    .rw[ZM z]
  .cases q2:J p with
   |some ls =>
    rw[q2]at hv;obtain⟨a,xs,e',_⟩:=(show∃a xs,v=.ref a/\_ from hv);rw[e']at c;exact absurd rfl c
   |none =>
    refine⟨_,_,rfl,e3,a8,b,X,hc,?_⟩;rw[<-AnS.oY q (by rw[q2];rfl)];exact d
 .rintro D H2 ⟨o5,o6,rfl,e,hl,b,X,hc,d⟩;rw[Zu,Ya]at d;have lm:∀p,p∈r.filter (λp=>(J p).isSome)↔(J p).isSome=true:=λp=>by
   rw[YK];exact⟨λz=>z.2,λz=>⟨bo p z,z⟩⟩
  have b0:∀p∈r.filter (λp=>(J p).isSome),p∈r:=λp A=>(YK.mp A).1;have ai:=Jl (λp=>(J p).isSome) r;generalize r.filter (λp=>(J p).isSome)=LL at d lm b0 ai;refine⟨_,rfl,g,b,LL,_,rfl,X,d,λp A=>(ah p<|b0 p A).1,λp A q hq=>ap p q ((lm p).mp A)<|(lm q).mp hq,λbl H3 s b1 a2=>?_⟩;have e3:=e.trans s;have cc:=s _ _ X;have R:=s _ _ hc;have d:=d.same s;have a0:j≠bl:=zK hc b1;have b8:g≠bl:=zK X b1;have cd:=d.len;refine⟨_,rfl,j,rfl,.inl ⟨_,.inl R⟩,_,rfl,bl,[],[],rfl,a0,R,.inl a2,zx<|by decide,?_⟩;have u4:=AnS.DS.upd (o:=.dK<|putAll [] ([]:Dl)) R;have e4:zy H (upd H3 j<|.dK<|putAll [] ([]:Dl)):=An.zy.sy e3 n2;have al:upd H3 j (.dK<|putAll [] ([]:Dl)) g=some (.dK b):=by rwa[zH O]
  have b9:upd H3 j (.dK<|putAll [] ([]:Dl)) bl=some (.dK []):=by rwa[zH<|Eh a0]
  have ca:upd H3 j (.dK<|putAll [] ([]:Dl)) j=some (.dK []):=zB;have d:=d.mono u4;clear u4 cc R a2 e3 s;generalize upd H3 j (.dK<|putAll [] ([]:Dl))=H4 at e4 al b9 ca d ⊢;refine⟨_,rfl,g,b,rfl,al,λob=>⟨g,ob,b,rfl,zB,?_⟩⟩;have u5:=AnS.DS.upd (o:=.frz ob<|.dK b) al;have e5:zy H (upd H4 g<|.frz ob<|.dK b):=An.zy.sy e4 n1;have a1:upd H4 g (.frz ob<|.dK b) bl=some (.dK []):=by rwa[zH<|Eh b8]
  have a3:upd H4 g (.frz ob<|.dK b) j=some (.dK []):=by rwa[zH<|Eh O]
  have bd:upd H4 g (.frz ob<|.dK b) g=some (.frz ob<|.dK b):=zB;have d:=d.mono u5;clear u5;generalize upd H4 g (.frz ob<|.dK b)=H5 at e5 a1 a3 bd d ⊢;refine Kw (λi L D H6=>∃o1 o2,D=[o1,o2,some<|.ref bl]/\zy H5 H6/\L.length<=i/\kN K H6 L (b.take i)) ⟨none,none,rfl,zy.refl _,ZB _,AnS.pZ⟩ (zx<|by lia) ?_ ?_ ?_
  .rintro i L D H6 hi ⟨o1,o2,rfl,I,S,_⟩;exact⟨I _ _ bd,S⟩
  .rintro i kx v TT L D H6 hx ⟨o1,o2,rfl,I,S,U⟩ nT;have u:=zI (o:=.tup [kV kx,v]) nT;refine⟨TT,_,rfl,xj.of zB,rfl,_,_,rfl,_,_,rfl,rfl,?_⟩;refine⟨_,rfl,_,rfl,bl,_,rfl,wO.k (k:=kx)<|u _ _<|I _ _ a1,_,rfl,U0 (λ_=>?_)<|λc=>(c rfl).elim⟩;refine⟨_,rfl,_,rfl,UT 2,λp2 C=>?_⟩;have u2:=zI (o:=.tup [kV kx,v]) C;refine⟨_,_,rfl,(I.trans u).trans u2,by rw[ZE];exact Vp S,?_⟩;rw[Ym,hx];exact AnS.rT (AnS.ur U<|u.trans u2)<|xj.of zB
  .rintro L D H6 ⟨o1,o2,rfl,I,S,U⟩ p6 cf;rw[Ya]at U;have u6:=zI (o:=.lst L) cf;refine⟨p6,L,_,rfl,zB,AnS.ur U u6,λlf ad=>?_⟩;have ep:putAll [] b=b:=AnS.uR _ [] d.nodup;rw[ep];have t7:zy H5 (upd (upd H6 p6<|.lst L) lf<|.dK b):=(I.trans u6).trans<|zI ad;have a6:upd (upd H6 p6<|.lst L) lf (.dK b) lf=some (.dK b):=zB;have ad:H lf=none:=(e5.trans<|I.trans u6).free ad;generalize upd (upd H6 p6<|.lst L) lf (.dK b)=H7 at t7 a6 ⊢;have e7:=e5.trans t7;refine⟨_,rfl,j,_,rfl,.inl<|t7 _ _ a3,(λ_ z=>(nomatch z)),by decide,λl2 s2 ce ch ci=>⟨l2,rfl,⟨_,yj.of zB⟩,?_⟩⟩;cases List.Perm.eq_nil ch;have u8:=zI (o:=.lst<|([]:Da).map V.str) ce;have a9:yj K (upd H7 l2<|.lst<|([]:Da).map V.str) l2 []:=yj.of zB;have t8:=t7.trans u8;have e8:=e7.trans u8;have a7:=u8 _ _ a6;clear u8;generalize upd H7 l2 (.lst<|([]:Da).map V.str)=H8 at a9 t8 e8 a7 ⊢;refine jA (K:=K) (a:=l2) (xs:=[]) (λi zs D H9=>zy H8 H9/\zs=[]) ⟨zy.refl _,rfl⟩ (zx<|by decide) ?_ ?_ ?_
   .rintro i zs D H9 hi ⟨s9,rfl⟩;exact⟨s9.seq a9,Yf _⟩
   .rintro i x zs D H9 hx _;cases hx
   .rintro zs D H9 ⟨s9,rfl⟩ p9 cg;have u9:=zI (o:=.lst []) cg;refine⟨_,rfl,_,rfl,UT 2,λt nt=>?_⟩;have b7:=zI (o:=.tup [.ref lf,.ref p9]) nt;have v:=(s9.trans u9).trans b7;exact k t lf p9 b LL _ (e8.trans v) zB ad (v _ _ a7) ⟨d.same<|t8.trans v,lm⟩<|b7 _ _ zB
end Cg
def wz (K:CB)(H:Hp)(Dm:Dl)(F:FF):Prop:=∃b,xr K H b Dm/\yu 4 b/\b.length<=4/\Ff b=F
def VF (S:Di)(n:Str)(F:FF)(c:Da)(z:Str):Prop:=∃b t,qe S n b c z t/\yu 4 b/\b.length<=4/\Ff b=F
structure P4 (pl:List Da):Prop where
 lb:∀p∈pl,CW p
 ap:∀p∈pl,∀q∈pl,∀t,q=p++t->t=[]
 len:pl.length=4
def Sup (pl:List Da)(F:FF):Prop:=∀s l,F s=some l->U2 l/\∃p∈pl,s=CD p
section
variable {K:CB}{H H':Hp}{Dm kb:Dl}{F G:FF}{gs rs:Dk}{S T:Di}{n z t:Str}{qs:Da}{pl:List Da}{L:Da}
theorem Kq (g:yu 4 gs){s:Str}{l:Da}:Ff gs s=some l↔∃f∈gs,CD f.1=s/\f.2=l :=
 ⟨IA,λ⟨f,d,b,c⟩=>by rw[<-b,<-c];exact My g d⟩
theorem Mx (g:yu 4 gs)(r:yu 4 rs):Ff rs=Ff gs↔∀f,f∈rs↔f∈gs:=by
 have one:∀{gs rs:Dk},yu 4 gs->yu 4 rs->Ff rs=Ff gs->∀f,f∈rs->f∈gs:=λ{gs rs} g r e f c=>by
  have:=My r c;rw[e]at this;obtain⟨k,i,d,h⟩:=IA this;have:k=f:=LG (Fn (g.lb i) (r.lb c) d) h;rwa[<-this]
 refine⟨λe f=>⟨one g r e f,one r g e.symm f⟩,λe=>funext λs=>Option.ext λl=>?_⟩;rw[Kq g,Kq r];exact⟨λ⟨f,a,b⟩=>⟨f,(e f).mp a,b⟩,λ⟨f,a,b⟩=>⟨f,(e f).mpr a,b⟩⟩
theorem OI (g:yu 4 gs)(nd:rs.Nodup)(e:∀f,f∈rs↔f∈gs):yu 4 rs/\rs.length=gs.length :=
 have pm:=(JE nd<|qB g.nd).mpr e
 ⟨⟨λf b=>g.wH f<|(e f).mp b,(pm.map _).nodup_iff.mpr g.nd,λf b k c=>g.pre f ((e f).mp b) k<|(e k).mp c⟩,pm.length_eq⟩
theorem VF.more (h:VF S n F qs z)(c:wZ S)(g:wZ<|S++T):VF (S++T) n F qs z:=let ⟨gs,t,a,b⟩:=h;⟨gs,t,a.more c g,b⟩
theorem VF.read (ok:wZ S)(h:VF S n F qs z):∃t,At S n (.note t qs z)/\(∃Dp,At S t<|.tree Dp)/\Tree 5 S t/\yu 4 (zp 5 S t)/\(zp 5 S t).length<=4/\Ff (zp 5 S t)=F:=by
 obtain⟨gs,t,q,g,l,e⟩:=h;obtain⟨a,b⟩:=OI g (Sq (q.ok.rise ok).1) q.rd;exact⟨t,q.nt,q.tr,q.ok,a,by lia,e▸(Mx g a).mpr q.rd⟩
theorem VF.note (h:VF S n F qs z):UY S n=true:=let ⟨_,_,q,_⟩:=h;aB q.nt
theorem wz.same (h:wz K H Dm F)(e:zy H H'):wz K H' Dm F:=let ⟨gs,a,b⟩:=h;⟨gs,a.same e,b⟩
theorem wz.files (h:wz K H Dm F):∃L,AnS.Files K H Dm L F/\L.length<=4/\(∀p∈L,p.length<=1000/\D9 p=true)/\∀p,AnS.pA (F p):=by
 obtain⟨gs,a,g,l,rfl⟩:=h;refine⟨_,OG a g,by rw[Zu];exact l,λp d=>?_,(Ww g).ok⟩;obtain⟨f,b,rfl⟩:=ZA.mp d;obtain⟨_,_,c,_⟩:=Xs (ZB 4) g b;exact⟨ZJ c,Tw<|g.lb b⟩
theorem wz.three (e:wz K H Dm B)(f:wz K H km M)(h:wz K H ky Y):∃LB LM LY,AnS.Three K H Dm km ky LB LM LY B M Y:=by
 obtain⟨LB,b,q,c,d⟩:=e.files;obtain⟨LM,m1,m2,i,j⟩:=f.files;obtain⟨LY,l,r,n,o⟩:=h.files;exact⟨LB,LM,LY,b,m1,l,by lia,λp g=>g.elim (c p) λz=>z.elim (i p)<|n p,λp=>⟨d p,j p,o p⟩⟩
theorem wz.eq {a b:D1}(h:H a=some (.dK Dm))(i:H b=some (.dK kb))(x:wz K H Dm F)(y:wz K H kb G){Q:V->Hp->Prop}(k:∀r:Bool,(r=true↔F=G)->Q (.bl r) H):WZ K (.ref a) (.ref b) H Q:=by
 obtain⟨rs,d,r,_,rfl⟩:=x;obtain⟨gs,e,g,_,rfl⟩:=y;exact⟨a,b,Dm,kb,_,rfl,rfl,.inl h,.inl i,BQ e g d λf c=>⟨(r.lb c).1,(r.lb c).2.2⟩,k _<|by rw[F3 d e g<|qB r.nd,Mx g r]⟩
theorem P4.fs (q:P4 pl)(s:Sup pl F)(h:AnS.Files K H Dm L F):wz K H Dm F:=by
 let lb:Str->Da:=λx=>(pl.find? λp=>decide (CD p=x)).getD []
 have hl:∀x∈L,lb x∈pl/\CD (lb x)=x:=λx d=>by
  obtain⟨l,e⟩:=Yx.mp<|(h.mem x).mp d;obtain⟨p,r,z⟩:=(s x l e).2;show(pl.find? λp=>decide (CD p=x)).getD []∈pl/\_;cases o:pl.find? λp=>decide (CD p=x) with
  |none=>exact absurd (Zz z.symm)<|VG.mp o p r
  |some p' =>
   refine⟨Y8 o,?_⟩;show CD ((pl.find? λp=>decide (CD p=x)).getD [])=x;rw[o];exact ZJ<|JL (p:=λp=>decide (CD p=x)) o
 have w:(L.map λx=>((lb x,(F x).getD []):Fi)).map (λf=>(.inr (CD f.1):Key))=L.map Sum.inr:=by
  rw[ZY];exact Yu λx d=>by show D8 (CD<|lb x)=_;rw[(hl x d).2]
 have val:∀x∈L,∃l,F x=some l/\U2 l:=λx d=>by
  obtain⟨l,e⟩:=Yx.mp<|(h.mem x).mp d;exact⟨l,e,(s x l e).1⟩
 have g:yu 4 (L.map λx=>((lb x,(F x).getD []):Fi)):=by
  refine⟨λf n=>?_,?_,λf n k A t e=>?_⟩
  .obtain⟨x,d,rfl⟩:=ZA.mp n;obtain⟨l,e,v⟩:=val x d;obtain⟨a,b,c⟩:=q.lb _ (hl x d).1;exact⟨a,b,c,by show U2 ((F x).getD []);rw[e];exact v⟩
  .rw[ZY];refine Yd.mpr<|Y9.mpr<|(Yd.mp h.is.nd).imp_of_mem λ{x y} d u ne e=>ne ?_;have e:lb x=lb y:=e;rw[<-(hl x d).2,<-(hl y u).2,e]
  .obtain⟨x,d,rfl⟩:=ZA.mp n;obtain⟨y,u,rfl⟩:=ZA.mp A;exact q.ap _ (hl x d).1 _ (hl y u).1 t e
 refine⟨L.map λx=>(lb x,(F x).getD []),⟨by rw[h.is.keys];exact w.symm,λi f B a b=>?_⟩,g,?_,?_⟩
 .rw[ZF]at a;obtain⟨x,d,rfl⟩:=Z0.mp a;obtain⟨l,e,v⟩:=val x<|ZN d;obtain⟨C,D,j⟩:=h.is.pair<|ZN b;have:=(h.is.at b).1;rw[d]at this;rw[<-Option.some.inj this]at j;have j:Dt K H (AnS.oD<|F x) B.2:=j;show Dt K H (AnJ.yh<|(F x).getD []) _/\U2 ((F x).getD []);rw[e]at j ⊢;exact⟨j,v⟩
 .have:=J3 (l₁:=L.map lb) (l₂:=pl) ?_ λp r=>?_
  .rw[Zu]at this ⊢;rw[q.len]at this;exact this
  .have:=g.nd;rw[ZY]at this;exact this
  .obtain⟨x,d,rfl⟩:=ZA.mp r;exact(hl x d).1
 .refine funext λs=>Option.ext λl=>?_;rw[Kq g];constructor
  .rintro⟨f,n,rfl,rfl⟩;obtain⟨x,d,rfl⟩:=ZA.mp n;obtain⟨l,e,_⟩:=val x d;show F (CD<|lb x)=some ((F x).getD []);rw[(hl x d).2,e];rfl
  .intro e;have d:=(h.mem s).mpr (by rw[e];rfl);exact⟨_,ZA.mpr ⟨s,d,rfl⟩,(hl s d).2,by show(F s).getD []=l;rw[e];rfl⟩
theorem P4.apart (q:P4 pl)(s:Sup pl F){x y:Str}(i:(F x).isSome=true)(j:(F y).isSome=true):Xr x y=false:=by
 obtain⟨l,f⟩:=Yx.mp i;obtain⟨m,g⟩:=Yx.mp j;obtain⟨_,a,c,rfl⟩:=s x l f;obtain⟨_,b,d,rfl⟩:=s y m g;cases o:Xr (CD a) (CD b) with
 |false=>rfl
 |true =>
  obtain⟨t,h,e⟩:=(NZ (q.lb a c).1 (q.lb b d).1 (q.lb a c).2.2 (q.lb b d).2.2).mp o;exact absurd (q.ap a c b d t e) h
end
inductive nM (P:D3)(w:D6)(K:CB)(C:D1)(vs:Dj)(H:Hp)(Q:VK)(e3:XK):Prop
 |mk (a:D1) (fp:Dd) (S:Di) (x t p:Str) (ps:Da) (y:Str) (h0:vs=[.ref a,.str x]) (h1:yg P w K C H a fp S) (h2:At S x<|.note t (p::ps) y) (h3:∀H',zy H H'->Q (.str p) H'):nM P w K C vs H Q e3
inductive oX (P:D3)(w:D6)(K:CB)(C:D1)(vs:Dj)(H:Hp)(Q:VK)(e3:XK):Prop
 |mk (a:D1) (fp:Dd) (S:Di) (x:Str) (F:FF) (qs:Da) (z:Str) (h0:vs=[.ref a,.str x]) (h1:yg P w K C H a fp S) (h2:wZ S) (h3:VF S x F qs z) (h4:∀e Dm H',zy H H'->H e=none->H' e=some (.dK Dm)->wz K H' Dm F->Q (.ref e) H'):oX P w K C vs H Q e3
inductive ni (P:D3)(w:D6)(K:CB)(C:D1)(vs:Dj)(H:Hp)(Q:VK)(e3:XK):Prop
 |mk (a:D1) (fp:Dd) (S:Di) (x y m:Str) (h0:vs=[.ref a,.str x,.str y]) (h1:wJ P w K C H a fp S) (h2:UY S x=true) (h3:UY S y=true) (h4:(∀us,Xw S x y us->us=[m])) (h5:∀H',zy H H'->Q (.str m) H'):ni P w K C vs H Q e3
inductive nH (P:D3)(w:D6)(K:CB)(C:D1)(vs:Dj)(H:Hp)(Q:VK)(e3:XK):Prop
 |mk (a:D1) (fp:Dd) (S:Di) (x y m:Str) (F:FF) (qs:Da) (z:Str) (h0:vs=[.ref a,.str x,.str y]) (h1:wJ P w K C H a fp S) (h2:wZ S) (h3:UY S x=true) (h4:UY S y=true) (h5:(∀us,Xw S x y us->us=[m])) (h6:VF S m F qs z) (h7:∀e Dm H',zy H H'->H e=none->H' e=some (.dK Dm)->wz K H' Dm F->Q (.ref e) H'):nH P w K C vs H Q e3
structure Jn (pl:List Da)(B M Y:FF):Prop where
 p4:P4 pl
 one:∀p,M p=B p\/Y p=B p
 sup:Sup pl<|jf B M Y
inductive oA (P:D3)(w:D6)(K:CB)(C:D1)(vs:Dj)(H:Hp)(Q:VK)(e3:XK):Prop
 |mk (a:D1) (fp:Dd) (S:Di) (x y m:Str) (pl:List Da) (B M Y:FF) (q1 q2 q3:Da) (z1 z2 z3:Str) (h0:vs=[.ref a,.str x,.str y]) (h1:wJ P w K C H a fp S) (h2:wZ S) (h3:(∀us,Xw S x y us->us=[m])) (h4:VF S m B q1 z1) (h5:VF S x M q2 z2) (h6:VF S y Y q3 z3) (h7:Jn pl B M Y) (h8:∀(t af ac:D1) (kf:Dl) H',zy H H'->H' t=some (.tup [.ref af,.ref ac])->H af=none->H' af=some (.dK kf)->wz K H' kf (jf B M Y)->H' ac=some (.lst [])->Q (.ref t) H'):oA P w K C vs H Q e3
inductive oU (vs:Dj)(H:Hp)(Q:VK)(e3:XK):Prop
 |mk (t af ac:D1) (h0:vs=[.ref t]) (h1:H t=some (.tup [.ref af,.ref ac])) (h2:H ac=some (.lst [])) (h3:Q (.ref af) H):oU vs H Q e3
inductive m6 (P:D3)(w:D6)(K:CB)(C:D1)(vs:Dj)(H:Hp)(Q:VK)(e3:XK):Prop
 |mk (a:D1) (fp:Dd) (S:Di) (x y:Str) (h0:vs=[.ref a,.str x,.str y]) (h1:wJ P w K C H a fp S) (h2:UY S x=true) (h3:UY S y=true) (h4:∀(r:Bool) H',zy H H'->(r=true↔vC (UU S) [x] y)->Q (.bl r) H'):m6 P w K C vs H Q e3
theorem F7 {Q:VK}(sh:yg P w K C H a fp S)(ok:wZ S)(v:VF S x F qs z)(k:∀e Dm H',zy H H'->H e=none->H' e=some (.dK Dm)->wz K H' Dm F->Q (.ref e) H'):wM P w K C [.ref a,.str x] H Q E:=by
 obtain⟨t,nt,tr,d,g,l,e⟩:=v.read ok;exact⟨a,fp,S,x,t,qs,z,rfl,sh,nt,ok,tr,d,by lia,λf b=>(g.wH f b).2.2.2,λc Dm H' s n h f=>k c Dm H' s n h ⟨_,f,g,l,e⟩⟩
theorem SO {H:Hp}{Q:VK}{E:XK}{b c d:D1}{e f g:Dl}(j:Jn pl B M Y)(v:H b=some (.dK e))(w:H c=some (.dK f))(x:H d=some (.dK g))(n:wz K H e B)(o:wz K H f M)(r:wz K H g Y)
  (k:∀(t af ac:D1) (kf:Dl) H',zy H H'->H' t=some (.tup [.ref af,.ref ac])->H af=none->H' af=some (.dK kf)->wz K H' kf (jf B M Y)->H' ac=some (.lst [])->Q (.ref t) H'):pU K [.ref b,.ref c,.ref d] H Q E:=by
 obtain⟨h,i,l,th⟩:=wz.three n o r;exact⟨b,c,d,e,f,g,h,i,l,B,M,Y,rfl,v,w,x,th,j.one,λp q A C=>j.p4.apart j.sup A C,λt af ac kf L H' s D F z u y=>k t af ac kf H' s D F z (j.p4.fs j.sup u) y⟩
namespace Ch
abbrev st:Stmt:=top 82
theorem sc:zz ["store","name","parents"] ["store","name"] (zF st):=CI
include T in
theorem ok (F:yc0 K "first_parent" st f fd)(c:yo P w K mg base 7 "parents_of" ["store","name"]<|tL P w K aC):zj P w K mg base CG 8 f fd ["store","name"] (nM P w K aC):=by
 refine F.ok sc λ_ _ _ _ H vs Q E e h=>?_;obtain⟨a,d,S,x,t,p,b,y,rfl,sh,at_,k⟩:=h;refine⟨_,(zD (CK (i:=2) sc.nd<|zG c e.m<|zA (pv 0)<|zA (pv 1) zC)<|zE<|zL<|kX (zR HD (zM z5 (by rfl) T.len Yr<|zA (pv 2) zC) zJ<|z4 _) (z7 (wY:CM _<|vI K) (pv 2) zJ) qK),?_⟩
 refine⟨_,rfl,_,rfl,a,d,S,x,t,p::b,y,rfl,sh,at_,λl g=>zQ ?_⟩;have hl:yj K (upd H l<|.lst<|(p::b).map V.str) l ((p::b).map V.str):=yj.of zB;refine⟨_,rfl,l,_,rfl,.inl hl,?_⟩;exact⟨_,_,rfl,rfl,_,rfl,RV (by simp) ⟨_,rfl,l,_,_,_,rfl,rfl,hl,yE (j:=0) rfl,k _<|zI g⟩⟩
end Ch
namespace Ci
abbrev st:Stmt:=top 93
theorem sc:zz ["store","version"] ["store","version"] (zF st):=CI
include T in
theorem ok (F:yc0 K "files_or_none" st f fd)(b:yo P w K mg base 15 "files_at" ["store","version"]<|wM P w K aC):zj P w K mg base CG 16 f fd ["store","version"] (oX P w K aC):=by
 refine F.ok sc λ_ _ _ _ H vs Q E c h=>?_;obtain⟨a,d,S,x,G,e,z,rfl,sh,ok,v,k⟩:=h;refine⟨_,(zE<|zL<|kX (zR K0 (pv 1) qK<|z4 _) yM<|zG b c.m<|zA (pv 0)<|zA (pv 1) zC),?_⟩;refine⟨_,rfl,rfl,false,rfl,UQ ⟨_,rfl,_,rfl,F7 sh ok v k⟩⟩
end Ci
namespace Cj
abbrev st:Stmt:=top 96
theorem sc:zz ["store","one","other","meeting"] ["store","one","other"] (zF st):=CI
include T in
theorem ok (F:yc0 K "first_meeting" st f fd)(b:yo P w K mg base 9 "meeting_of" ["store","one","other"]<|rB P w K aC):zj P w K mg base CG 10 f fd ["store","one","other"] (ni P w K aC):=by
 refine F.ok sc λ_ _ _ _ H vs Q E d h=>?_;obtain⟨a,c,S,x,y,m,rfl,vs,e,g,j,k⟩:=h;refine⟨_,(zD (CK (i:=3) sc.nd<|zG b d.m<|zA (pv 0)<|zA (pv 1)<|zA (pv 2) zC)<|zE<|zL<|kX (zR HD (zM z5 (by rfl) T.len Yr<|zA (pv 3) zC) zJ<|z4 _) (z7 (wY:CM _<|vI K) (pv 3) zJ) qK),?_⟩
 refine⟨_,rfl,_,rfl,_,rfl,a,c,S,x,y,rfl,vs,e,g,λl p q o r n hl=>zQ ?_⟩;cases j p n;exact⟨_,rfl,l,_,rfl,.inl<|yj.of hl,_,_,rfl,rfl,_,rfl,RV (by simp) ⟨_,rfl,l,_,_,_,rfl,rfl,yj.of hl,rfl,k _ o⟩⟩
end Cj
namespace Ck
abbrev st:Stmt:=top 97
theorem sc:zz ["store","one","other"] ["store","one","other"] (zF st):=CI
include T in
theorem ok (F:yc0 K "base_of" st f fd)(l:yo P w K mg base 10 "first_meeting" ["store","one","other"]<|ni P w K aC)(j:yo P w K mg base 16 "files_or_none" ["store","version"]<|oX P w K aC):zj P w K mg base CG 17 f fd ["store","one","other"] (nH P w K aC):=by
 refine F.ok sc λ_ _ _ _ H vs Q E d h=>?_;obtain⟨a,c,S,x,y,m,G,q,z,rfl,vs,ok,n,o,p,v,k⟩:=h;refine⟨_,(zE<|zL<|zG j d.m<|zA (pv 0)<|zA (zG l d.m<|zA (pv 0)<|zA (pv 1)<|zA (pv 2) zC) zC),?_⟩;exact⟨_,rfl,_,rfl,_,rfl,_,rfl,a,c,S,x,y,m,rfl,vs,n,o,p,λs b=>⟨a,c,S,m,G,q,z,rfl,vs.sh.same b,ok,v,λe g i r ne=>k e g i (b.trans r)<|b.free ne⟩⟩
end Ck
namespace Cm
abbrev st:Stmt:=top 98
theorem sc:zz ["store","one","other"] ["store","one","other"] (zF st):=CI
include T in
theorem ok (F:yc0 K "joined_by_base" st f fd)(r:yo P w K mg base 17 "base_of" ["store","one","other"]<|nH P w K aC)(i:yo P w K mg base 15 "files_at" ["store","version"]<|wM P w K aC)(q:yo P w K mg base 3 "joined_files" ["base","mine","yours"]<|pU K):zj P w K mg base CG 18 f fd ["store","one","other"] (oA P w K aC):=by
 refine F.ok sc λ_ _ _ _ H vs Q E e h=>?_;obtain⟨a,C,S,x,y,m,pl,B,M,Y,R,q2,q3,Z,z2,z3,rfl,vs,ok,L,X,n,o,j,k⟩:=h;refine⟨_,(zE<|zL<|zG q e.m<|zA (zG r e.m<|zA (pv 0)<|zA (pv 1)<|zA (pv 2) zC)<|zA (zG i e.m<|zA (pv 0)<|zA (pv 1) zC)<|zA (zG i e.m<|zA (pv 0)<|zA (pv 2) zC) zC),?_⟩;refine⟨_,rfl,_,rfl,_,rfl,a,C,S,x,y,m,B,R,Z,rfl,vs,ok,n.note,o.note,L,X,λe1 k1 H1 l n1 D v=>⟨_,rfl,_,rfl,F7 (vs.sh.same l) ok n λe2 k2 H2 g n2 G z=>?_⟩⟩;have b:=l.trans g;refine⟨_,rfl,_,rfl,F7 (vs.sh.same b) ok o λe3 k3 H3 d n3 I A=>?_⟩;have c:=b.trans d;exact SO j ((g.trans d) _ _ D) (d _ _ G) I (v.same<|g.trans d) (z.same d) A λt u s N p U J O=>k t u s N p (c.trans U) J<|c.free O
end Cm
namespace Cn
abbrev st:Stmt:=top 99
theorem sc:zz ["joined"] ["joined"] (zF st):=CI
include T in
theorem ok (F:yc0 K "need_clean" st f fd):zj P w K mg base CG 1 f fd ["joined"] oU:=by
 refine F.ok sc λ_ _ _ _ H vs Q E g h=>?_;obtain⟨t,e,c,rfl,b,d,k⟩:=h;refine⟨_,(zD (yD (zR HD (zM z5 (by rfl) T.len Yr<|zA (z7 (za:CM _<|xu K) (pv 0) zJ) zC) zJ<|z4 _) (zE yT) zP)<|zE<|zL<|z7 (za:CM _<|xu K) (pv 0) zJ),?_⟩
 refine⟨_,rfl,t,_,_,_,rfl,rfl,xj.of b,rfl,c,_,rfl,.inl<|yj.of d,?_⟩;exact⟨_,_,rfl,rfl,_,rfl,KK (by simp) ⟨_,rfl,t,_,_,_,rfl,rfl,xj.of b,rfl,k⟩⟩
end Cn
namespace Co
abbrev st:Stmt:=top 100
theorem sc:zz ["store","head","other"] ["store","head","other"] (zF st):=CI
include T in
theorem ok (F:yc0 K "has_all_of" st f fd)(c:yo P w K mg base 8 "is_before" ["store","one","other"]<|pX P w K aC):zj P w K mg base CG 9 f fd ["store","head","other"] (m6 P w K aC):=by
 refine F.ok sc λ_ _ _ _ H vs Q E e h=>?_;obtain⟨a,d,S,x,y,rfl,vs,g,i,k⟩:=h;refine⟨_,(zE<|zL<|PM (yI K0 (pv 2) qK<|z4 _)<|xN<|yZ (yI Ix (pv 1) qK<|z4 _)<|xN<|zG c e.m<|zA (pv 0)<|zA (pv 2)<|zA (pv 1) zC),?_⟩;refine⟨_,rfl,rfl,false,rfl,UQ ⟨_,rfl,rfl,true,rfl,UV ⟨_,rfl,_,rfl,_,rfl,a,d,S,y,x,rfl,vs,i,g,λn b l j=>k _ b l<|by rw[ZQ,j]⟩⟩⟩
end Co
structure lX (P:D3)(w:D6)(K:CB)(C D:D1)(H:Hp)(b a h:D1)(fp:Dd)(S:Di)(hs:Hs):Prop where
 bk:xx P w K C D H b a h fp S hs
 two:∀e∈S,∀t ps y,e.d=(Th.note t ps y).dat->ps.length<=2
 vc:Vc S
structure Kf (S:Di)(F:FF)(ps:Da)(y:Str)(S':Di)(n:Str):Prop where
 fs:∃fs,lY S fs ps y (S',n)/\yu 4 fs/\Ff fs=F/\wt fs<=16
 vf:VF S' n F ps y
inductive uf (P:D3)(w:D6)(K:CB)(C D:D1)(vs:Dj)(H:Hp)(Q:VK)(e3:XK):Prop
 |mk (b a h:D1) (fp:Dd) (S:Di) (hs:Hs) (x y m v:Str) (M Y:FF) (q2 q3:Da) (z2 z3:Str) (h0:vs=[.ref b,.str x,.str y]) (h1:lX P w K C D H b a h fp S hs) (h2:hs.length<1000) (h3:UR hs x=some (some m)) (h4:UR hs y=some (some v)) (h5:VF S m M q2 z2) (h6:VF S v Y q3 z3) (h7:m≠v) (h8:¬vC (UU S) [m] v) (h9:((vC (UU S) [v] m/\∀H',Off [h] H H'->xx P w K C D H' b a h fp S (UX hs x<|some v)->Q (.str "moved") H') \/ (¬vC (UU S) [v] m/\S.length<1800/\∃(f:Str) (pl:List Da) (B:FF) (q1:Da) (z1:Str),(∀us,Xw S m v us->us=[f])/\VF S f B q1 z1/\Jn pl B M Y/\∀S' n H',Kf S (jf B M Y) [m,v] "join" S' n->Off (h::fp) H H'->xx P w K C D H' b a h fp S' (UX hs x<|some n)->Q (.str "joined") H'))):uf P w K C D vs H Q e3
inductive uh (P:D3)(w:D6)(K:CB)(C D:D1)(vs:Dj)(H:Hp)(Q:VK)(e3:XK):Prop
 |mk (b a h:D1) (fp:Dd) (S:Di) (hs:Hs) (v o f:Str) (pl:List Da) (B M Y:FF) (q1 q2 q3:Da) (z1 z2 z3:Str) (h0:vs=[.ref b,.str v,.str o]) (h1:xx P w K C D H b a h fp S hs) (h2:S.length<1800) (h3:VF S f B q1 z1) (h4:VF S o M q2 z2) (h5:VF S v Y (f::q3) z3) (h6:UZ z3=true) (h7:Jn pl B M Y) (h8:(jf B M Y=M->∀H',zy H H'->Q (.str o) H')) (h9:(jf B M Y≠M->∀S' n H',Kf S (jf B M Y) [o] z3 S' n->Off fp H H'->xx P w K C D H' b a h fp S' hs->Q (.str n) H')):uh P w K C D vs H Q e3
theorem lX.vs (x:lX P w K C D H b a h fp S hs):wJ P w K C H a fp S:=⟨x.bk.sh,x.bk.ok.th,x.two,x.vc⟩
theorem HB {Q:VK}{E:XK}{c:D1}{Dm:Dl}{ps:Da}(B:xx P w K C D H b a h fp S hs)(I:S.length<1800)(u:H c=some (.dK Dm))(z:c∉fp)(ff:wz K H Dm F)(hl:yj K H l<|ps.map V.str)(nd:ps.Nodup)(i:ps.length<=2)(j:∀p∈ps,UY S p=true)(g:UZ y=true)
  (k:∀S' n H',Kf S F ps y S' n->Off fp H H'->xx P w K C D H' b a h fp S' hs->Q (.str n) H'):vL P w K C [.ref a,.ref c,.ref l,.str y] H Q E:=by
 obtain⟨fs,ff,d,r,e⟩:=ff;have A:wt fs<=16:=by have:=d.wt;lia
 refine⟨a,c,l,fp,S,fs,Dm,ps,y,rfl,B.sh,B.ok,u,z,ff,d,by lia,hl,nd,i,j,g,by lia,λH' of sh=>?_⟩;have N:=OP B.ok d (by lia) nd i j g (by lia);generalize CP S fs ps y=q at N sh ⊢;obtain⟨G,f⟩:=N.more;obtain⟨t,nt⟩:=N.nt;obtain⟨o,s⟩:=B.ob;exact k _ _ H' ⟨⟨fs,N,d,e,A⟩,⟨fs,t,nt,d,r,e⟩⟩ of ⟨⟨o,of _ _ B.nb s⟩,sh,of _ _ B.nh B.hd,B.nb,B.nh,N.ok,B.nd,λp x v e=>by rw[f];exact qV<|B.hv p x v e⟩
namespace Cp
abbrev st:Stmt:=top 101
theorem sc:zz ["annals","branch","other","mine","yours","files"] ["annals","branch","other"] (zF st):=CI
include T in
theorem ok (F:yc0 K "join_heads" st f fd)(Qd:Met P w K mg base aD 4 "head" ["self","branch"]<|uY P w K aC aD)(Qm:Met P w K mg base aD 7 "set_head" ["self","branch","version"]<|tD P w K aC aD)(QF:yo P w K mg base 9 "has_all_of" ["store","head","other"]<|m6 P w K aC)(Zi:yo P w K mg base 18 "joined_by_base" ["store","one","other"]<|oA P w K aC)(QC:yo P w K mg base 1 "need_clean" ["joined"] oU)(Qk:yo P w K mg base 13 "noted" ["shelf","files","parents","words"]<|vL P w K aC):zj P w K mg base CG 19 f fd ["annals","branch","other"] (uf P w K aC aD):=by
 refine F.ok sc λ_ _ _ _ H vs Q E g h=>?_;obtain⟨b,a,h,q,S,N,x,y,m,v,M,Y,q2,q3,z2,z3,rfl,L,hl,lm,lv,U,I,ne,nr,k⟩:=h;refine⟨_,(zD (CK (i:=3) sc.nd<|zX (pv 0) T.wX Qd g.m<|zA (pv 1) zC)<|zD (CK (i:=4) sc.nd<|zX (pv 0) T.wX Qd g.m<|zA (pv 2) zC)<|zD (yD (zS (K:=K)<|zG QF g.m<|zA (yO (pv 0) rfl)<|zA (pv 3)<|zA (pv 4) zC) (zE<|zL zr) zP)<|zD (yD (zS (K:=K)<|zG QF g.m<|zA (yO (pv 0) rfl)<|zA (pv 4)<|zA (pv 3) zC) (zD (z8<|zX (pv 0) T.wX Qm g.m<|zA (pv 1)<|zA (pv 4) zC)<|zE<|zL zr) zP)<|zD (CK (i:=5) sc.nd<|zG QC g.m<|zA (zG Zi g.m<|zA (yO (pv 0) rfl)<|zA (pv 3)<|zA (pv 4) zC) zC)<|zD (z8<|zX (pv 0) T.wX Qm g.m<|zA (pv 1)<|zA (zG Qk g.m<|zA (yO (pv 0) rfl)<|zA (pv 5)<|zA (xB<|zA (pv 3)<|zA (pv 4) zC)<|zA zr zC) zC)<|zE<|zL zr),?_⟩
 have B:=L.bk;obtain⟨Z,hb⟩:=B.ob;refine⟨_,rfl,b,Z,_,rfl,hb,rfl,_,rfl,b,a,h,q,S,N,x,some m,rfl,B,lm,zQ ⟨_,rfl,b,Z,_,rfl,hb,rfl,_,rfl,b,a,h,q,S,N,y,some v,rfl,B,lv,zQ ?_⟩⟩;refine⟨_,rfl,b,aD,Z,_,_,rfl,hb,T.wX,T.m1,rfl,_,rfl,_,rfl,a,q,S,m,v,rfl,L.vs,U.note,I.note,λr H1 s1 ah=>⟨_,rfl,?_⟩⟩;have r1:r=false:=by
  cases r with
  |true=>exact absurd (ah.mp rfl) nr
  |false=>rfl
 subst r1;refine UQ ?_;have B1:=B.same s1;obtain⟨ab,ad⟩:=B1.ob;refine⟨_,rfl,b,aD,ab,_,_,rfl,ad,T.wX,T.m1,rfl,_,rfl,_,rfl,a,q,S,v,m,rfl,L.vs.same s1,I.note,U.note,λr H2 s2 D=>⟨_,rfl,?_⟩⟩;have d:=s1.trans s2;have B2:=B.same d;obtain⟨s,A⟩:=B2.ob
 rcases k with⟨rc,k⟩|⟨rc,sl,fq,pl,Bf,q1,z1,im,vB,j,k⟩
 .have r2:r=true:=D.mpr rc;subst r2;obtain⟨_,t3,ak,_⟩:=id I;refine UV ⟨_,rfl,b,s,_,rfl,A,rfl,_,rfl,_,rfl,b,a,h,q,S,N,x,v,t3,z3,q3,rfl,B2,hl,by rw[lm];rfl,ak.nt,λH3 e3 J=>?_⟩;refine k H3 (λc o O e=>?_) J;rw[e3,zH<|λz=>O (by rw[z];exact Zx)];exact d _ _ e
 .have r2:r=false:=by
   cases r with
   |true=>exact absurd (D.mp rfl) rc
   |false=>rfl
  subst r2;refine UQ ?_;delta Kh;dsimp only;refine⟨_,rfl,b,aD,s,_,_,rfl,A,T.wX,T.m1,rfl,_,rfl,_,rfl,a,q,S,m,v,fq,pl,Bf,M,Y,q1,q2,q3,z1,z2,z3,rfl,L.vs.same d,B.ok,im,vB,U,I,j,λt X ac kf H3 s3 ht na hf ff hc=>?_⟩;refine⟨t,X,ac,rfl,ht,hc,zQ ?_⟩;have G:=d.trans s3;have J:=B.same G;obtain⟨u,C⟩:=J.ob;refine⟨_,rfl,b,u,_,rfl,C,rfl,_,rfl,_,rfl,b,aD,u,_,_,rfl,C,T.wX,T.m1,rfl,_,rfl,_,rfl,_,rfl,UT 2,λl nl=>nw nl λH4 R h4=>?_⟩;have B4:=J.same R;have ai:X∉q:=λz=>by obtain⟨o,eo⟩:=(B.same d).sh.ex X z;rw[na]at eo;cases eo
  refine HB (ps:=[m,v]) B4 sl (R _ _ hf) ai (ff.same R) (yj.of h4) (by simpa using ne) (ZB 2) (λp hp=>?_) (by decide+kernel) λS' n H5 kf am B5=>?_
  .rcases ZI.mp hp with z|z
   .rw[z];exact U.note
   .rw[Zv.mp z];exact I.note
  obtain⟨_,tn,al,_⟩:=id kf.vf;refine⟨b,a,h,q,S',N,x,n,tn,"join",[m,v],rfl,B5,hl,by rw[lm];rfl,al.nt,λH6 e6 B6=>k S' n H6 kf (λc o O e=>?_) B6⟩;rw[e6,zH<|λz=>O (by rw[z];exact Zx)];exact am _ _ (λz=>O<|Zw _ z) ((G.trans R) _ _ e)
end Cp
namespace Cq
abbrev st:Stmt:=top 102
theorem sc:zz ["annals","version","onto","shelf","yours","base","mine","files"] ["annals","version","onto"] (zF st):=CI
include T in
theorem ok (F:yc0 K "carried" st f fd)(U:yo P w K mg base 15 "files_at" ["store","version"]<|wM P w K aC)(QA:yo P w K mg base 16 "files_or_none" ["store","version"]<|oX P w K aC)(Zj:yo P w K mg base 8 "first_parent" ["store","name"]<|nM P w K aC)(QB:yo P w K mg base 3 "joined_files" ["base","mine","yours"]<|pU K)(QC:yo P w K mg base 1 "need_clean" ["joined"] oU)(Qk:yo P w K mg base 13 "noted" ["shelf","files","parents","words"]<|vL P w K aC)(Zk:yo P w K mg base 7 "words_of" ["store","name"]<|ux P w K aC λ_ y=>y):zj P w K mg base CG 17 f fd ["annals","version","onto"] (uh P w K aC aD):=by
 refine F.ok sc λ_ _ _ _ H vs Q E d h=>?_;obtain⟨b,a,h,D,S,hs,v,o,J,pl,Bf,M,Y,q1,q2,q3,z1,z2,z3,rfl,B,sl,vB,vM,vY,ly,j,k1,k2⟩:=h;refine⟨_,(zD (CK (i:=3) sc.nd<|yO (pv 0) rfl)<|zD (CK (i:=4) sc.nd<|zG U d.m<|zA (pv 3)<|zA (pv 1) zC)<|zD (CK (i:=5) sc.nd<|zG QA d.m<|zA (pv 3)<|zA (zG Zj d.m<|zA (pv 3)<|zA (pv 1) zC) zC)<|zD (CK (i:=6) sc.nd<|zG U d.m<|zA (pv 3)<|zA (pv 2) zC)<|zD (CK (i:=7) sc.nd<|zG QC d.m<|zA (zG QB d.m<|zA (pv 5)<|zA (pv 6)<|zA (pv 4) zC) zC)<|zD (yD (zR (Pq d.uZ) (pv 7) (pv 6)<|z4 _) (zE<|zL<|pv 2) zP)<|zE<|zL<|zG Qk d.m<|zA (pv 3)<|zA (pv 7)<|zA (xB<|zA (pv 2) zC)<|zA (zG Zk d.m<|zA (pv 3)<|zA (pv 1) zC) zC),?_⟩
 obtain⟨dx,hb⟩:=B.ob;refine⟨_,rfl,b,aD,dx,_,_,rfl,hb,T.wX,T.m1,rfl,zQ ⟨_,rfl,_,rfl,F7 B.sh B.ok vY λe1 ab H1 s1 n1 h1 f1=>zQ ?_⟩⟩;obtain⟨_,tv,q,_⟩:=id vY;refine⟨_,rfl,_,rfl,_,rfl,a,D,S,v,tv,J,q3,z3,rfl,B.sh.same s1,q.nt,λH2 s2=>?_⟩;have s:=s1.trans s2;refine⟨a,D,S,J,Bf,q1,z1,rfl,B.sh.same s,B.ok,vB,λe3 k3 H3 s3 n3 h3 f3=>zQ ?_⟩;have u:=s.trans s3;refine⟨_,rfl,_,rfl,F7 (B.sh.same u) B.ok vM λe4 k4 H4 G n4 h4 Z=>zQ ?_⟩;have x:=u.trans G;have A:=(s2.trans s3).trans G;refine⟨_,rfl,_,rfl,_,rfl,SO j (G _ _ h3) h4 (A _ _ h1) (f3.same G) Z (f1.same A) λt I ac kf H5 R ht na hf ff hc=>⟨t,I,ac,rfl,ht,hc,zQ ?_⟩⟩;have e:=x.trans R;refine⟨_,rfl,_,rfl,wz.eq hf (R _ _ h4) ff (Z.same R) λr g=>⟨_,rfl,U0 (λc=>?_)<|λc=>?_⟩⟩
 .exact⟨_,rfl,k1 (g.mp c) _ e⟩
 .have N:I∉D:=λz=>by obtain⟨o,X⟩:=(B.same x).sh.ex I z;rw[na]at X;cases X
  refine⟨_,rfl,_,rfl,_,rfl,UT 1,λl nl=>nw nl λH6 C h6=>⟨_,rfl,_,rfl,a,D,S,v,tv,J::q3,z3,rfl,B.sh.same<|e.trans C,q.nt,?_⟩⟩;refine HB (ps:=[o]) (B.same<|e.trans C) sl (C _ _ hf) N (ff.same C) (yj.of h6) (by simp) (J4 1) (λp hp=>by rw[Zv.mp hp];exact vM.note) ly λS' n H7 kf O B7=>k2 (λz=>c<|g.mpr z) S' n H7 kf (λc' o' L e'=>O _ _ L<|(e.trans C) _ _ e') B7
end Cq
inductive uy (K:CB)(vs:Dj)(H:Hp)(Q:VK)(e3:XK):Prop
 |mk (a:D1) (ns:List Int) (k:Int) (h0:vs=[.ref a,.int k]) (h1:yj K H a<|ns.map V.int) (h2:0<=k) (h3:∀i,Q (.int i) H):uy K vs H Q e3
inductive sZ (K:CB)(vs:Dj)(H:Hp)(Q:VK)(e3:XK):Prop
 |mk (a:D1) (ns:List Int) (h0:vs=[.ref a]) (h1:yj K H a<|ns.map V.int) (h2:∀(l:D1) (pl:List Da) (H':Hp),zy H H'->H l=none->H' l=some (.lst<|pl.map λp=>V.str<|CD p)->P4 pl->pl.Nodup->Q (.ref l) H'):sZ K vs H Q e3
def Wt (c k:Int)(j:Nat):Str:=Txt.mul ⟨#[97+((c / 4+3*(j:Int)) % 8).toNat]⟩ (1+c / 32 % 5)++Lb k
def SQ (c k:Int):Da:=(Ef (c % 4).toNat).map<|Wt c k
def pY (k:Int):Prop:=k=0\/k=1\/k=2\/k=3\/k=9
def Wa:Sp:=λvs H Q _=>∃c k,vs=[.int c,.int k]/\pY k/\∀p b,zy H b->b p=some (.tup<|(SQ c k).map V.str)->Q (.ref p) b
def Nv (c k:Int):Option Da:=if c % 4=0 then none else some (SQ (c / 4) k)
def U9 (F:FF)(s:Str)(o:Option Da):FF:=λq=>if q=s then o else F q
inductive ud (K:CB)(vs:Dj)(H:Hp)(Q:VK)(e3:XK):Prop
 |mk (c:D1) (Dm:Dl) (F:FF) (pl:List Da) (p:Da) (ce k:Int) (h0:vs=[.ref c,.str<|CD p,.int ce,.int k]) (h1:H c=some (.dK Dm)) (h2:wz K H Dm F) (h3:P4 pl) (h4:Sup pl F) (h5:p∈pl) (h6:pY k) (h7:∀e ke H',zy H H'->H e=none->H' e=some (.dK ke)->wz K H' ke (U9 F (CD p)<|Nv ce k)->Q (.ref e) H'):ud K vs H Q e3
inductive rM (K:CB)(vs:Dj)(H:Hp)(Q:VK)(e3:XK):Prop
 |mk (a l:D1) (ns:List Int) (pl:List Da) (h0:vs=[.ref a,.ref l]) (h1:yj K H a<|ns.map V.int) (h2:H l=some (.lst<|pl.map λp=>V.str<|CD p)) (h3:P4 pl) (h4:∀e ke F H',zy H H'->H e=none->H' e=some (.dK ke)->wz K H' ke F->Sup pl F->Q (.ref e) H'):rM K vs H Q e3
section
theorem TD {c:Nat}{n:Int}(b:1<=n)(h:n<=5):MulOk ⟨#[c]⟩ n:=by
 have:n=1\/n=2\/n=3\/n=4\/n=5:=by lia
 rcases this with rfl|rfl|rfl|rfl|rfl<;>exact⟨by decide,λ_ _=>by show¬((1:Int)>_);decide,λ_ _=>by rfl⟩
theorem OY:∀a<8,∀n<5,∀k∈([0,1,2,3,9]:List Int),UZ (Txt.mul ⟨#[97+a]⟩ (1+((n:Nat):Int))++Lb k)=true:=by decide+kernel
theorem pY.mem (h:pY k):k∈([0,1,2,3,9]:List Int):=by rcases h with rfl|rfl|rfl|rfl|rfl<;>decide
theorem Ty (h:pY k):UZ (Wt c k j)=true:=by
 unfold Wt;obtain⟨n,b⟩:=YY (show 0<=c / 32 % 5 by lia);rw[b];exact OY _ (by lia) n (by lia) k h.mem
theorem O0 (h:pY k):U2 (SQ c k):=by
 refine⟨by unfold SQ;rw[Zu,Yo];lia,λl hl=>?_⟩;obtain⟨j,_,rfl⟩:=ZA.mp hl;exact Ty h
variable {pl:List Da}{F:FF}{p:Da}{s:Str}
theorem Sup.set (h:Sup pl F)(c:p∈pl){o:Option Da}(b:∀l,o=some l->U2 l):Sup pl (U9 F (CD p) o):=λs l e=>by
 unfold U9 at e
 by_cases z:s=CD p
 .rw[ZS z]at e;exact⟨b l e,p,c,z⟩
 .rw[ZM z]at e;exact h s l e
theorem XD (h:pY k):∀l,Nv c k=some l->U2 l:=λl e=>by
 unfold Nv at e
 split at e
 .cases e
 .rw[<-Option.some.inj e];exact O0 h
theorem WX (lo:zU o=true)(lt:zU t=true)(A:zU x=true)(z:zU r=true)(b:o≠t)(c:o≠x)(d:o≠r)(f:t≠x)(g:t≠r)(h:x≠r):P4 [[o],[t,r],[t,x],[r,o,t]]/\[[o],[t,r],[t,x],[r,o,t]].Nodup:=by
 have l:=Eh b;have n:=Eh c;have u:=Eh d;have v:=Eh f;have w:=Eh g;have y:=Eh h;refine⟨⟨by simp[CW,lo,lt,A,z],λp i q j s e=>?_,rfl⟩,by simp[b,c,d,f,g,h,l,n,u,v,w,y]⟩;simp only[ZI,Y4,Ua]at i j
 rcases i with rfl|rfl|rfl|rfl<;>rcases j with rfl|rfl|rfl|rfl<;>simp_all
end
theorem Pd:(cs ("abcdefghijklmnopqrstuvwxyz":Str))=(Ef 26).map (97+·):=by decide+kernel
theorem O2 {i:Int}(b:0<=i)(c:i<26):Ko ("abcdefghijklmnopqrstuvwxyz":Str).cps.toList i=some (97+i.toNat):=by
 obtain⟨j,rfl⟩:=YY b;refine yE ?_;show(cs ("abcdefghijklmnopqrstuvwxyz":Str))[j]?=_;rw[Pd,ZF,JZ<|by lia];rfl
theorem Hr:("abcdefghijklmnopqrstuvwxyz":Str).length<=sizeLine:=zx (by decide+kernel)
theorem TB:(cs ("abcdefgh":Str))=(Ef 8).map (97+·):=by decide+kernel
theorem aT {i:Int}(b:0<=i)(c:i<8):Ko ("abcdefgh":Str).cps.toList i=some (97+i.toNat):=by
 obtain⟨j,rfl⟩:=YY b;refine yE ?_;show(cs ("abcdefgh":Str))[j]?=_;rw[TB,ZF,JZ<|by lia];rfl
theorem Fs {i:Int}(b:0<=i)(c:i<26):Xc (97+i.toNat)=true:=by
 unfold Xc;rw[Zz<|show 97<=97+i.toNat by lia,Zz<|show 97+i.toNat<=122 by lia];rfl
theorem BU {l:List Nat}(e:cs x=l)(d:1<=l.length)(f:l.length<=8)(b:∀c∈l,Xc c=true):zU x=true:=vP.mpr ⟨by rw[zf,e];exact d,by rw[zf,e];exact f,by rw[e,Z9];exact b⟩
theorem Gp {l m:Str}:l++"/"++m=CD [l,m]:=by
 refine xq ?_;rw[xR l<|Yy m [],kF,zu,zu,show cs ("/":Str)=[47] by decide+kernel];simp
theorem OQ {l:Str}:l=CD [l]:=xq (kF l).symm
namespace Cr
abbrev st:Stmt:=top 104
theorem sc:zz ["_law_script","_law_k"] ["_law_script","_law_k"] (zF st):=CI
include T in
theorem ok (F:yc0 K "_law_cell_at" st f fd):zj P w K mg base CG 1 f fd ["_law_script","_law_k"] (uy K):=by
 refine F.ok sc λ_ _ _ _ H vs Q E g h=>?_;obtain⟨a,ns,k,rfl,b,c,q⟩:=h;refine⟨_,(zD (yD (zR WW (pv 1) (zM z5 (by rfl) T.len Yr<|zA (pv 0) zC)<|z4 _) (zE<|zL<|z7 (wY:CM _<|vI K) (pv 0)<|pv 1) zP)<|zE<|zL zJ),?_⟩
 refine⟨_,rfl,_,rfl,a,_,rfl,.inl b,_,_,rfl,rfl,_,rfl,U0 (λh=>?_)<|λh=>?_⟩
 .have d:k<ns.length:=by simpa using h
  obtain⟨n,_,e⟩:=Te (f:=V.int) c d;exact⟨_,rfl,_,rfl,a,_,_,_,rfl,rfl,b,e,q n⟩
 .exact q 0
end Cr
namespace Cs
abbrev st:Stmt:=top 106
theorem sc:zz ["_law_cell","_law_k","_law_lines_here","_law_j"] ["_law_cell","_law_k"] (zF st):=CI
include T in
theorem ok (F:yc0 K "_law_lines" st f fd):zj P w K mg base CG 1 f fd ["_law_cell","_law_k"] Wa:=by
 refine F.ok sc λ_ _ _ _ H vs Q E v h=>?_;obtain⟨c,k,rfl,r,q⟩:=h;refine⟨_,(zD (CK (i:=2) sc.nd<|xB zC)<|zD (yY El rfl (qU rfl T.range<|zA (zY xM (pv 0) zJ) zC) (zO (i:=3) sc.nd rfl<|Et rfl)<|zE<|z8<|kW Jf JU JV j2 (pv 2)<|zA (zY zW (zY Sa (z7 XF zr<|zY xM (zY xK (zY x8 (pv 0) zJ)<|zY Gh zJ<|pv 3) zJ)<|zY xK zJ<|zY xM (zY x8 (pv 0) zJ) zJ)<|zT xI (by rfl) T.str Yk<|zA (pv 1) zC) zC)<|zE<|zL<|zT qE (by rfl) T.tuple YJ<|zA (pv 2) zC),?_⟩
 refine⟨Yf _,λl o=>?_⟩;refine⟨_,rfl,_,_,rfl,rfl,(by decide:(0:Int)<4),_,rfl,by lia,by lia,XC (lo:=0) (n:=(c % 4).toNat) (λi j b=>∃e,j=[some<|.int c,some<|.int k,some<|.ref l,e]/\zy H b/\b l=some (.lst<|((Ef i).map<|Wt c k).map V.str)) ⟨none,rfl,zI o,zB⟩ ?_ ?_⟩
 .rintro i j b u ⟨e,rfl,g,d⟩;have hd:=aT (i:=(c / 4+3*(0+(i:Int))) % 8) (by lia) (by lia);have x:(Txt.mul ⟨#[97+((c / 4+3*(0+(i:Int))) % 8).toNat]⟩<|1+c / 32 % 5).length<=5:=PyProof.Rows.len_mul_one rfl (by lia);have s:(ED<|Lb k).length<=5/\k.natAbs.log2<1920:=by rcases r with rfl|rfl|rfl|rfl|rfl<;>exact⟨by decide+kernel,by decide+kernel⟩
  refine⟨_,rfl,.inl ⟨rfl,_,yj.of d⟩,_,rfl,_,_,rfl,rfl,⟨by decide,by decide⟩,_,rfl,_,_,rfl,rfl,.inl ⟨by decide,by decide⟩,_,_,rfl,rfl,_,_,rfl,rfl,(by decide:(0:Int)<8),_,_,_,rfl,rfl,zx<|by decide+kernel,hd,?_⟩;refine⟨_,rfl,_,_,rfl,rfl,⟨by decide,by decide⟩,_,_,rfl,rfl,(by decide:(0:Int)<5),_,_,rfl,rfl,_,_,rfl,rfl,TD (by lia)<|by lia,_,rfl,_,rfl,s.2,_,_,rfl,rfl,zx<|by lia,?_⟩;refine⟨l,_,_,rfl,rfl,d,yV (by rw[Zu,Zu,Yo];lia),_,rfl,An.zy.sy g o,?_⟩;rw[zB,Ug,ZH,ZH]
  congr 3
  show[V.str<|_++_]=[V.str<|Wt c k i];unfold Wt;rw[show(0+(i:Int))=(i:Int) by lia]
 .rintro j b ⟨e,rfl,g,d⟩;exact⟨_,rfl,l,_,rfl,.inl ⟨yj.of d,λp t=>q p _ (g.trans<|zI t) zB⟩⟩
end Cs
namespace Ct
abbrev st:Stmt:=top 108
theorem sc:zz ["_law_files","_law_path","_law_cell","_law_k","_law_fresh"] ["_law_files","_law_path","_law_cell","_law_k"] (zF st):=CI
include T in
theorem ok (F:yc0 K "_law_put" st f fd)(I:yo P w K mg base 1 "_law_lines" ["_law_cell","_law_k"] Wa):zj P w K mg base CG 2 f fd ["_law_files","_law_path","_law_cell","_law_k"] (ud K):=by
 refine F.ok sc λ_ _ _ s H vs Q E C h=>?_;obtain⟨c,A,G,Z,p,b,k,rfl,N,ff,U,sp,R,D,q⟩:=h;refine⟨_,(zD (CK (i:=4) sc.nd<|zT x9 (by rfl) T.dict Y7<|zA (pv 0) zC)<|Im (yD (zR qM (zY xM (pv 2) zJ) zJ<|z4 _) (zE<|z8<|PF (pv 4) (pv 1) qK ⟨rfl,rfl,rfl,rfl⟩)<|zE<|yN C.wV (pv 4) (pv 1) (zG I C.m<|zA (zY x8 (pv 2) zJ)<|zA (pv 3) zC) rfl)<|zE<|zL<|pv 4),?_⟩
 obtain⟨L,d,Y,_,_⟩:=ff.files;have sup:=sp.set R (XD (c:=b) D);refine⟨_,rfl,c,A,rfl,.inl N,λe ne=>nw ne λX o j=>zQ ⟨λr x=>r=[some<|.ref c,some<|.str<|CD p,some<|.int b,some<|.int k,some<|.ref e]/\zy H x/\∃u M,x e=some (.dK u)/\AnS.Files K x u M (U9 G (CD p)<|Nv b k),⟨_,rfl,_,_,rfl,rfl,(by decide:(0:Int)<4),rfl,_,rfl,?_⟩,?_⟩⟩
 .refine U0 (λz=>?_) (λz=>?_)
  .have z:b % 4=0:=by simpa using z
   have y:Nv b k=none:=ZS z;rw[y];refine⟨_,rfl,e,rfl,.inl ⟨_,.inl j⟩,_,rfl,A,.inr<|CD p,j,rfl,λv hv=>⟨rfl,An.zy.sy o ne,_,_,zB,((d.same o).drop<|CD p).mono<|AnS.DS.upd j⟩,λO=>⟨rfl,o,_,L,j,?_⟩⟩;have S:CD p∉L:=λw=>by
    have:=d.is.isSome<|CD p;rw[Zz w,O]at this;cases this
   have:U9 G (CD p) none=G:=funext λs=>by
    unfold U9
    by_cases w:s=CD p
    .rw[ZS w,w];cases g:G (CD p) with
     |none=>rfl
     |some l=>exact absurd ((d.mem _).mpr (by rw[g];rfl)) S
    .rw[ZM w]
   rw[this];exact d.same o
  .have z:b % 4≠0:=by simpa using z
   have y:Nv b k=some (SQ (b / 4) k):=ZM z;rw[y];refine⟨_,rfl,_,_,rfl,rfl,⟨by decide,by decide⟩,_,rfl,_,_,rfl,D,λt B n J=>⟨_,rfl,_,rfl,e,_,rfl,vQ.k (k:=.inr<|CD p) (n _ _ j)<|yV (by rw[d.is.len];lia),rfl,An.zy.sy (o.trans n) ne,_,AnS.vW L<|CD p,zB,?_⟩⟩;exact((d.same<|o.trans n).put (CD p) (ls:=SQ (b / 4) k) ⟨_,_,rfl,xj.of J,zc.strs _⟩).mono (AnS.DS.upd<|n _ _ j)
 .rintro r B ⟨rfl,n,u,M,he,fe⟩;exact⟨_,rfl,q e u B n ne he<|U.fs sup fe⟩
end Ct
namespace Cu
abbrev st:Stmt:=top 105
theorem sc:zz ["_law_script","_law_letters","_law_cell","_law_word","_law_last","_law_other"] ["_law_script"] (zF st):=CI
include T in
theorem ok (F:yc0 K "_law_paths" st f fd)(Z:yo P w K mg base 1 "_law_cell_at" ["_law_script","_law_k"]<|uy K):zj P w K mg base CG 2 f fd ["_law_script"] (sZ K):=by
 refine F.ok sc λ_ _ _ _ H vs Q E hr h=>?_;obtain⟨a,ns,rfl,hs,k⟩:=h;refine⟨_,(zD (CK (i:=1) sc.nd zr)<|zD (CK (i:=2) sc.nd<|zG Z hr.m<|zA (pv 0)<|zA zJ zC)<|zD (CK (i:=3) sc.nd<|kW Y6 V2 V3 BT zr<|zA (xF (sc:=zF st) (N:=["_law_script","_law_letters","_law_cell","_law_word","_law_last","_law_other"]) (N':=["_law_k","_law_letters","_law_cell"]) (src:=[none,some 1,some 2]) .a rfl rfl rfl (qU rfl T.range<|zA zJ zC) (λ_ _ _ _=>(zO (i:=0) (show(["_law_k","_law_letters","_law_cell"]:Da).Nodup by decide+kernel) rfl (Et rfl))) (λ_ _ _ _=>qA) (λ_ _ _ _=>(z7 XF (pv 1)<|zY xM (zY xK (zY x8 (pv 2) zJ)<|zY Gh (pv 0)<|zY xK zJ<|zY xM (pv 2) zJ) zJ))) zC) (zD (CK (i:=4) sc.nd<|zY xK (zY x8 (pv 2) zJ)<|zY Gh zJ<|zY xK zJ<|zY xM (pv 2) zJ)<|zD (CK (i:=5) sc.nd<|zY zW (x4 XI (pv 3) qS<|qX zJ)<|z7 XF (pv 1)<|zY xM (zY xK (zY xK (pv 4) zJ)<|zY xM (zG Z hr.m<|zA (pv 0)<|zA zJ zC) zJ) zJ)<|zE<|zL<|xB<|zA (x4 XI (pv 3) qS<|qX zJ)<|zA (zY zW (zY zW (x4 XI (pv 3) qS<|qX zJ) zr)<|pv 5)<|zA (zY zW (zY zW (x4 XI (pv 3) qS<|qX zJ) zr)<|pv 3)<|zA (zY zW (zY zW (zY zW (zY zW (pv 5) zr)<|x4 XI (pv 3) qS<|qX zJ) zr)<|x4 XI (pv 3) qS<|qX zJ) zC)),?_⟩
 refine⟨_,rfl,a,ns,0,rfl,hs,by decide,λc=>⟨rfl,3,rfl,by decide,by decide,jP (λi R S G=>∃x,S=[x,some<|.str "abcdefghijklmnopqrstuvwxyz",some<|.int c]/\G=H/\R=(((Ef i).map λk:Nat=>97+((c / 5+(k:Int)*(1+c % 5)) % 26).toNat).map one).map V.str) ⟨none,rfl,rfl,rfl⟩ (zx<|by decide)
   (λi R S G hi ⟨x,_,_,ey⟩=>by rw[ey,Zu,Zu,Zu,Yo];exact ZB _) ?_ ?_⟩⟩
 .rintro i R S G hi ⟨x,rfl,rfl,rfl⟩;have e0:(0+(i:Int))=(i:Int):=by lia
  have hd:=O2 (i:=(c / 5+(0+(i:Int))*(1+c % 5)) % 26) (by lia) (by lia);refine⟨_,rfl,_,rfl,_,_,rfl,rfl,⟨by decide,by decide⟩,_,rfl,_,rfl,_,_,rfl,rfl,(by decide:(0:Int)<5),_,_,rfl,rfl,_,_,rfl,rfl,.inr ⟨by lia,by lia⟩,_,_,rfl,rfl,_,_,rfl,rfl,(by decide:(0:Int)<26),_,_,_,rfl,rfl,Hr,hd,_,rfl,rfl,?_⟩;rw[e0,Ug,ZH,ZH,ZH];rfl
 .rintro R S G ⟨x,rfl,rfl,rfl⟩ p np;have c0:("":Str).length=0:=by decide+kernel
  have g:=zI (o:=.lst<|(((Ef<|Int.toNat 3).map λk:Nat=>97+((c / 5+(k:Int)*(1+c % 5)) % 26).toNat).map one).map V.str) np;have el:((Ef<|Int.toNat 3).map λk:Nat=>97+((c / 5+(k:Int)*(1+c % 5)) % 26).toNat)=[97+((c / 5+0*(1+c % 5)) % 26).toNat,97+((c / 5+1*(1+c % 5)) % 26).toNat,97+((c / 5+2*(1+c % 5)) % 26).toNat]:=rfl;have C:=Fs (i:=(c / 5+0*(1+c % 5)) % 26) (by lia) (by lia);have O:=Fs (i:=(c / 5+1*(1+c % 5)) % 26) (by lia) (by lia);have o2:=Fs (i:=(c / 5+2*(1+c % 5)) % 26) (by lia) (by lia);rw[el]at g ⊢;generalize 97+((c / 5+0*(1+c % 5)) % 26).toNat=M at C g ⊢;generalize 97+((c / 5+1*(1+c % 5)) % 26).toNat=n1 at O g ⊢;have ex:=FY [M,n1,97+((c / 5+2*(1+c % 5)) % 26).toNat];refine⟨_,p,_,rfl,rfl,.inl<|yj.of zB,by rw[Kg,c0];show 3+3*0<=16777216;decide,?_⟩;generalize Lc "" _=x at ex ⊢;have xl:x.length=3:=by rw[zf,ex];rfl
  have s:x.length<=sizeLine:=zx (by lia);refine⟨_,rfl,_,_,rfl,rfl,⟨by decide,by decide⟩,_,rfl,_,_,rfl,rfl,(by decide:(0:Int)<5),_,_,rfl,rfl,_,_,rfl,rfl,.inl ⟨by decide,by decide⟩,_,_,rfl,rfl,?_⟩;refine⟨_,rfl,_,rfl,x,rfl,s,_,rfl,_,rfl,_,_,rfl,rfl,_,rfl,a,ns,1,rfl,g.seq hs,by decide,λI=>?_⟩;have hd:=O2 (i:=(c / 5+2*(1+c % 5)+1+I % 25) % 26) (by lia) (by lia);have o3:=Fs (i:=(c / 5+2*(1+c % 5)+1+I % 25) % 26) (by lia) (by lia);have nn:97+((c / 5+2*(1+c % 5)) % 26).toNat≠97+((c / 5+2*(1+c % 5)+1+I % 25) % 26).toNat:=by lia
  generalize 97+((c / 5+2*(1+c % 5)) % 26).toNat=n2 at ex o2 nn g ⊢;generalize 97+((c / 5+2*(1+c % 5)+1+I % 25) % 26).toNat=n3 at hd o3 nn;have z:cs (Le x none<|some 1)=[M]:=by rw[show(1:Int)=((1:Nat):Int) from rfl,SK,ex];rfl
  have j:cs (Le x none<|some 2)=[M,n1]:=by rw[show(2:Int)=((2:Nat):Int) from rfl,SK,ex];rfl
  have l2:(Le x none<|some 2).length=2:=by rw[zf,j];rfl
  have l1:(Le x none<|some 1).length=1:=by rw[zf,z];rfl
  have d1:(⟨#[n3]⟩:Str).length=1:=rfl;have b:("/":Str).length=1:=by decide+kernel
  refine⟨_,_,rfl,rfl,(by decide:(0:Int)<25),_,_,rfl,rfl,_,_,rfl,rfl,(by decide:(0:Int)<26),_,_,n3,rfl,rfl,Hr,hd,_,_,rfl,rfl,zx<|by lia,?_⟩;have A:cs (Le x none (some 2)++one n3)=[M,n1,n3]:=by rw[zu,j];rfl
  have y:(Le x none (some 2)++one n3:Str).length=3:=by rw[zf,A];rfl
  obtain⟨r,X⟩:∃r,r=Le x none (some 2)++one n3:=⟨_,rfl⟩;obtain⟨o,U⟩:∃o,o=Le x none (some 1):=⟨_,rfl⟩;obtain⟨t,B⟩:∃t,t=Le x none (some 2):=⟨_,rfl⟩;rw[<-X]at A y;rw[<-U]at z l1;rw[<-B]at j l2;rw[show(⟨#[n3]⟩:Str)=one n3 from rfl,<-B];have d:∀{u v:Str} {m n:Nat},u.length=m->v.length=n->m+n<=100->u.length+v.length<=sizeLine:=λ{u v m n} J L h3=>zx (by lia);have ap:∀{u v:Str} {m n:Nat},u.length=m->v.length=n->(u++v:Str).length=m+n:=λ{u v m n} J L=>by rw[Str.length_append,J,L]
  have X:r=t++one n3:=by rwa[B]
  rw[<-X];have Y:(Le x none<|some 1).length=1:=U▸l1;have D:(Le x none<|some 2).length=2:=B▸l2;refine zQ ⟨_,rfl,_,rfl,x,rfl,s,_,rfl,_,rfl,x,rfl,s,_,_,rfl,rfl,d D b<|by decide,_,rfl,_,_,rfl,rfl,d (ap D b) y<|by decide,?_⟩;refine⟨_,rfl,_,rfl,x,rfl,s,_,_,rfl,rfl,d D b<|by decide,_,rfl,_,_,rfl,rfl,d (ap D b) xl<|by decide,?_⟩;refine⟨_,rfl,_,_,rfl,rfl,d y b<|by decide,_,rfl,_,rfl,x,rfl,s,_,_,rfl,rfl,d (ap y b) Y<|by decide,_,_,rfl,rfl,d (ap (ap y b) Y) b<|by decide,_,rfl,_,rfl,x,rfl,s,_,_,rfl,rfl,d (ap (ap (ap y b) Y) b) D<|by decide,UT 4,λq nq=>?_⟩;have ne:∀{u v:Str} {m n:List Nat},cs u=m->cs v=n->m≠n->u≠v:=λ{u v m n} J L h3 e=>h3 (by rw[<-J,<-L,e]);obtain⟨p4,nd⟩:=WX (BU z (by simp) (by simp)<|by simp[C]) (BU j (by simp) (by simp)<|by simp[C,O]) (BU ex (by simp) (by simp)<|by simp[C,O,o2]) (BU A (by simp) (by simp)<|by simp[C,O,o3]) (ne z j<|by simp) (ne z ex<|by simp) (ne z A<|by simp) (ne j ex<|by simp) (ne j A<|by simp) (ne ex A<|by simp[nn]);refine k q _ _ (g.trans<|zI nq) (g.free nq) ?_ p4 nd;rw[zB,<-U,<-B];have a3:r++"/"++o++"/"++t=CD [r,o,t]:=by rw[Gp (l:=r) (m:=o),PY [r,o] t<|by simp];rfl
  rw[a3,Gp (l:=t) (m:=r),Gp (l:=t) (m:=x)];show some (HO.lst [V.str o,_,_,_])=some (HO.lst [V.str<|CD [o],_,_,_]);rw[<-OQ (l:=o)]
end Cu
namespace Cv
abbrev st:Stmt:=top 107
theorem sc:zz ["_law_script","_law_paths_here","_law_files","_law_k","_law_cell"] ["_law_script","_law_paths_here"] (zF st):=CI
include T in
theorem ok (F:yc0 K "_law_base" st f fd)(D:yo P w K mg base 1 "_law_cell_at" ["_law_script","_law_k"]<|uy K)(C:yo P w K mg base 1 "_law_lines" ["_law_cell","_law_k"] Wa):zj P w K mg base CG 2 f fd ["_law_script","_law_paths_here"] (rM K):=by
 refine F.ok sc λ_ _ _ s H vs Q E u h=>?_;obtain⟨a,l,ns,b,rfl,M,hl,B,q⟩:=h;refine⟨_,(zD (CK (i:=2) sc.nd yM)<|zD (yY El rfl (qU rfl T.range<|zA zJ zC) (zO (i:=3) sc.nd rfl<|Et rfl)<|zD (CK (i:=4) sc.nd<|zG D u.m<|zA (pv 0)<|zA (zY xK zJ<|pv 3) zC)<|zE<|yD (zR HD (zY xM (pv 4) zJ) zJ<|z4 _) (zE<|yN u.wV (pv 2) (z7 (wY:CM _<|vI K) (pv 1)<|pv 3) (zG C u.m<|zA (zY x8 (pv 4) zJ)<|zA zJ zC) rfl) zP)<|zE<|zL<|pv 2),?_⟩
 refine λe ne=>⟨_,rfl,by decide,by decide,XC (lo:=0) (n:=3) (λi y d=>∃v x,y=[some<|.ref a,some<|.ref l,some<|.ref e,v,x]/\zy H d/\∃g L G,d e=some (.dK g)/\AnS.Files K d g L G/\Sup b G/\L.length<=i) ⟨none,none,rfl,zI ne,[],[],λ_=>none,zB,⟨AnS.zb.nil,λp=>⟨λz=>(nomatch z),λz=>(nomatch z)⟩⟩,(λs l z=>(nomatch z)),ZB _⟩ ?_ ?_⟩
 .rintro i y d R ⟨v,x,rfl,j,g,L,G,he,o,sp,N⟩;refine⟨_,rfl,_,rfl,_,_,rfl,rfl,a,ns,3+(0+(i:Int)),rfl,j.seq M,by lia,λc=>zQ ?_⟩;have A:i<b.length:=by rw[B.len];lia
  refine⟨_,rfl,_,_,rfl,rfl,(by decide:(0:Int)<3),_,_,rfl,rfl,_,rfl,U0 (λz=>?_)<|λz=>⟨_,_,rfl,j,g,L,G,he,o,sp,by lia⟩⟩;have I:Ko (b.map λp=>V.str<|CD p) (0+(i:Int))=some (.str<|CD b[i]):=by
   rw[show(0+(i:Int))=(i:Int) by lia];exact yE (by rw[ZF,ZD A];rfl)
  refine⟨_,rfl,_,_,rfl,rfl,⟨by decide,by decide⟩,_,_,rfl,.inl rfl,λt O r J=>⟨_,rfl,_,rfl,_,rfl,l,_,_,_,rfl,rfl,yj.of<|r _ _<|j _ _ hl,I,e,_,rfl,vQ.k (k:=.inr<|CD b[i]) (r _ _ he)<|yV (by rw[o.is.len];lia),?_⟩⟩;exact⟨_,_,rfl,An.zy.sy (j.trans r) ne,_,AnS.vW L<|CD b[i],U9 G (CD b[i])<|some<|SQ (c / 3) 0,zB,((o.same r).put (CD b[i]) (ls:=SQ (c / 3) 0) ⟨_,_,rfl,xj.of J,zc.strs _⟩).mono<|AnS.DS.upd<|r _ _ he,sp.set (Yt A) (λl e=>by rw[<-Option.some.inj e];exact O0<|.inl rfl),Yn (AnS.pP _)<|by lia⟩
 .rintro y d ⟨v,x,rfl,j,g,L,G,he,o,sp,N⟩;exact⟨_,rfl,q e g G d j ne he (B.fs sp o) sp⟩
end Cv
def Vw (S:Di):Prop:=∀x t b y,At S x (.note t b y)->b.length<=2/\∀p∈b,UY S p=true
section
variable {P:D3}{w:D6}{K:CB}{C D:D1}{H H':Hp}{b a h:D1}{fp:Dd}{S S' T:Di}{hs:Hs}{F G B M Y:FF}{n m v f x y z:Str}{ps qs:Da}{pl:List Da}
theorem IK (ok:wZ S){t:Str}(h:At S x<|.note t ps y):UU S x=ps:=by
 obtain⟨e,he,rfl,hd⟩:=h;unfold UU;rw[MI ok.good.nn he];show Sb e.d=ps;rw[hd,XH]
theorem VF.par (ok:wZ S)(h:VF S n F qs z):UU S n=qs:=let ⟨_,_,q,_⟩:=h;IK ok q.nt
theorem HA (ok:wZ S)(h:UY S x=true):∃t ps y,At S x (.note t ps y):=by
 obtain⟨e,he,b,t,ps,y,hd⟩:=uJ ok.th h;exact⟨t,ps,y,e,he,b,hd⟩
theorem Vw.vbk (q:Vw S)(B:xx P w K C D H b a h fp S hs):lX P w K C D H b a h fp S hs:=by
 refine⟨B,λe he t ps y hd=>(q e.nm t ps y ⟨e,he,rfl,hd⟩).1,λx d p c=>?_⟩;obtain⟨t,ps,y,at_⟩:=HA B.ok d;rw[IK B.ok at_]at c;exact(q x t ps y at_).2 p c
theorem VF.words (ok:wZ S)(h:VF S n F qs z)(k:VF S n F' qs' z'):z=z':=by
 obtain⟨_,_,q,_⟩:=h;obtain⟨_,_,b,_⟩:=k;have:=At.thing ok q.nt b.nt;injection this
structure Gw (S S':Di)(n:Nat):Prop where
 more:∃T,S'=S++T
 ok:wZ S'
 len:S'.length<=S.length+n
 vw:Vw S'
theorem Gw.vf (g:Gw S S' k)(ok:wZ S)(h:VF S n F qs z):VF S' n F qs z:=by
 obtain⟨T,e⟩:=g.more;have:=g.ok;rw[e]at this ⊢;exact h.more ok this
theorem Gw.trans (g:Gw S S' k)(q:Gw S' S2 j):Gw S S2 (k+j):=by
 obtain⟨T,e⟩:=g.more;obtain⟨U,b⟩:=q.more;have:=g.len;have:=q.len;exact⟨⟨T++U,by rw[b,e,Ys]⟩,q.ok,by lia,q.vw⟩
theorem Kf.grow (q:Vw S)(ok:wZ S)(h:Kf S F ps y S' n)(j:ps.length<=2)(l:∀p∈ps,UY S p=true):Gw S S' 18:=by
 obtain⟨fs,N,_,_,u⟩:=h.fs;obtain⟨T,e⟩:=N.more;have e:S'=S++T:=e;have b:wZ S':=N.ok;have len:S'.length<=S.length+2+wt fs:=N.len;refine⟨⟨T,e⟩,b,by lia,λx t qs z at_=>?_⟩;have pm:∀{p},UY S p=true->UY S' p=true:=λ{p} d=>by rw[e];exact qV d
 rcases N.new x (aB at_) with c|c
 .obtain⟨r,o,v,f⟩:=HA ok c;have i:=f.more (T:=T);rw[<-e]at i;have:=At.thing b at_ i;injection this with _ g _;rw[g];exact⟨(q _ _ _ _ f).1,λp d=>pm<|(q _ _ _ _ f).2 p d⟩
 .obtain⟨_,s,nt,_⟩:=h.vf;have c:x=n:=c;rw[c]at at_;have:=At.thing b at_ nt.nt;injection this with _ g _;rw[g];exact⟨j,λp d=>pm<|l p d⟩
theorem KF {l:Da}(nd:l.Nodup)(h:f∈l):l.filter (λx=>decide (x=f))=[f]:=by
 induction l with
 |nil=>cases h
 |cons a l ih =>
  rw[Yl]at nd;rw[YI]
  by_cases z:a=f
  .subst z;rw[ZS<|Zz rfl,(List.filter_eq_nil_iff (p:=λx=>decide (x=a))).mpr λx b e=>nd.1<|ZJ e▸b]
  .rw[ZM<|λe=>z<|ZJ e];exact ih nd.2<|(ZI.mp h).resolve_left<|Eh z
def Cl (S:Di)(A:Str->Prop)(W:Da):Prop:=∀x,A x->∃F qs z,VF S x F qs z/\(∀q∈qs,A q)/\z∉W
inductive Dn (S:Di)(f:Str):Str->Prop
 |root:Dn S f f
 |step {x q z:Str} {F:FF} {qs:Da}:VF S x F (q::qs) z->Dn S f q->Dn S f x
theorem Cl.qi (ok:wZ S)(c:Cl S A W)(d:A m)(h:vC (UU S) [m] x):A x:=by
 induction h with
 |root h=>rwa[Zv.mp h]
 |step h1 h2 ih =>
  obtain⟨F,qs,z,vf,b,_⟩:=c _ ih;rw[vf.par ok]at h2;exact b _ h2
theorem Dn.qi (ok:wZ S)(h:Dn S f x):vC (UU S) [x] f:=by
 have:∀{y},vC (UU S) [y] x->vC (UU S) [y] f:=by
  induction h with
  |root=>exact λh=>h
  |step v _ ih=>exact λh=>ih (.step h (by rw[v.par ok];exact Zx))
 exact this<|.root<|Zv.mpr rfl
theorem Cl.grow (g:Gw S S' k)(ok:wZ S)(c:Cl S A W):Cl S' A W:=λx d=>let ⟨F,qs,z,a,b⟩:=c x d;⟨F,qs,z,g.vf ok a,b⟩
theorem Dn.grow (g:Gw S S' k)(ok:wZ S)(h:Dn S f x):Dn S' f x:=by
 induction h with
 |root=>exact .root
 |step v _ ih=>exact .step (g.vf ok v) ih
theorem HW (ok:wZ S)(vF:VF S f B [] z)(b:VF S v Y [f] y)(h:vC (UU S) [v] x):x=v\/x=f:=by
 induction h with
 |root h=>exact .inl<|Zv.mp h
 |step h1 h2 ih =>
  rcases ih with e|e
  .rw[e,b.par ok]at h2;exact .inr<|Zv.mp h2
  .rw[e,vF.par ok]at h2;cases h2
theorem Pb (ok:wZ S){A:Str->Prop}{W:Da}(c:Cl S A W)(n:A m)(d:Dn S f m)(vF:VF S f B [] z)(l:VF S v Y [f] y)(r:y∈W){us:Da}(s:Xw S m v us):us=[f]:=by
 have t:¬A v:=λh=>by
  obtain⟨F,qs,E,vf,_,w⟩:=c v h;exact w<|vf.words ok l▸r
 have b:∀{x},vC (UU S) [m] x->vC (UU S) [v] x->x=f:=λ{x} g i=>by
  rcases HW ok vF l i with e|e
  .exact absurd (e▸c.qi ok n g) t
  .exact e
 have D:vC (UU S) [v] f:=.step (.root<|Zv.mpr rfl) (by rw[l.par ok];exact Zv.mpr rfl);obtain⟨p,rfl,o⟩:=s;have fm:f∈S.map En.nm:=jE vF.note;have C:∀x∈S.map En.nm,(p x=true↔x=f):=λx j=>by
  rw[o x j];constructor
  .exact λh=>b h.1.1 h.1.2
  .rintro rfl;exact⟨⟨d.qi ok,D⟩,λu g i=>by rw[b g i,vF.par ok];exact Y4⟩
 have nd:=ok.good.nn;have:(S.map En.nm).filter p=(S.map En.nm).filter λx=>decide (x=f):=List.filter_congr λx j=>by
  have:=C x j;cases q:p x with
  |true=>exact(Zz<|this.mp q).symm
  |false=>exact(ZP λe=>by rw[this.mpr e]at q;cases q).symm
 rw[this];exact KF nd fm
theorem KL {s:Str}(e:G s=F s):jf F G (U9 F s o)=U9 G s o:=funext λp=>by
 unfold jf j3 U9
 by_cases z:p=s
 .rw[ZS z,ZS z,z,ZS e]
 .rw[ZM z,ZM z]
  split
  .rename_i h;exact h.symm
  .rfl
theorem OO {o:Option Da}{p:Da}(q:P4 pl)(c:p∈pl)(sp:Sup pl G)(b:∀l,o=some l->U2 l)(e:G (CD p)=F (CD p)):Jn pl F G (U9 F (CD p) o):=by
 refine⟨q,λs=>?_,by rw[KL e];exact sp.set c b⟩
 by_cases z:s=CD p
 .rw[z];exact .inl e
 .exact .inr (ZM z)
end
def DE (i:Nat):Str:="change"++Lb ((i:Nat):Int)
def sJ (H:Hp)(l:D1)(ps:List<|List Str×Int):Prop:=∃b:Dd,H l=some (.lst<|b.map V.ref)/\b.length=ps.length/\∀(i:Nat) (t:D1) (x:Da×Int),b[i]?=some t->ps[i]?=some x->H t=some (.tup [.str<|CD x.1,.int x.2])
def chg (F:FF)(ps:List<|List Str×Int)(k:Nat):FF:=match ps[k]? with
 |some x=>U9 F (CD x.1)<|Nv x.2<|(k:Int)+1
 |none=>F
structure v9 (S:Di)(f:Str)(F0:FF)(pl:List Da)(ps:List<|List Str×Int)(vs:Da):Prop where
 p4:P4 pl
 len:ps.length=3
 lv:vs.length=3
 mem:∀x∈ps,x.1∈pl
 nd:(ps.map (·.1)).Nodup
 vF:VF S f F0 [] "first"
 sd:∀k v,vs[k]?=some v->VF S v (chg F0 ps k) [f] (DE k)
def oK (b G:FF)(ps:List<|List Str×Int)(ks:List Nat):Prop:=∀k∈ks,∀x,ps[k]?=some x->G (CD x.1)=b (CD x.1)
inductive pQ (vs:Dj)(H:Hp)(Q:VK)(e3:XK):Prop
 |mk  (h0:vs=[]) (h1:∀(l:D1) (qs:Dd) H',zy H H'->H' l=some (.lst<|qs.map V.ref)->qs.length=6->(∀q∈qs,∃o:List Nat,o.Nodup/\(∀k∈o,k<3)/\H' q=some (.lst<|o.map λk=>V.int ((k:Nat):Int)))->Q (.ref l) H'):pQ vs H Q e3
inductive pL (P:D3)(w:D6)(K:CB)(C D:D1)(vs:Dj)(H:Hp)(Q:VK)(e3:XK):Prop
 |mk (b a h vl cl c ol:D1) (fp:Dd) (S:Di) (hs:Hs) (f o:Str) (F0 G:FF) (pl:List Da) (ps:List<|List Str×Int) (us:Da) (ks:List Nat) (Dm:Dl) (qs:Da) (z:Str) (h0:vs=[.ref b,.ref vl,.ref cl,.str o,.ref c,.ref ol]) (h1:xx P w K C D H b a h fp S hs) (h2:Vw S) (h3:S.length<=300) (h4:v9 S f F0 pl ps us) (h5:VF S o G qs z) (h6:Sup pl G) (h7:oK F0 G ps ks) (h8:ks.Nodup) (h9:(∀k∈ks,k<3)) (h10:H vl=some (.lst<|us.map V.str)) (h11:sJ H cl ps) (h12:H c=some (.dK Dm)) (h13:wz K H Dm G) (h14:H ol=some (.lst<|ks.map λk=>V.int ((k:Nat):Int))) (h15:∀S' H',Gw S S' 54->Off (h::fp) H H'->xx P w K C D H' b a h fp S' hs->Q (.bl true) H'):pL P w K C D vs H Q e3
section
variable {P:D3}{w:D6}{K:CB}{C D:D1}{H H':Hp}{b a h l:D1}{fp X:Dd}{S S' T:Di}{hs:Hs}{F F0 G:FF}{n f v z:Str}{vs:Da}{pl:List Da}{ps:List (List Str×Int)}{Dm kb:Dl}{k:Nat}
theorem FU:∀k<3,UZ (DE k)=true:=by decide+kernel
theorem xx.ye (B:xx P w K C D H b a h fp S hs):vN H (h::fp):=λc d=>by
 rcases ZI.mp d with e|e
 .exact⟨.dK<|hkv hs,e▸B.hd,λf z=>(nomatch z),λf z=>(nomatch z),λu v z=>(nomatch z)⟩
 .exact B.sh.ye c e
theorem y7 (n:vN H X)(o:Off X H H'){xs:Dj}(e:H l=some (.lst xs)):H' l=some (.lst xs):=o _ _ (λq=>by obtain⟨u,b,_,k,_⟩:=n _ q;rw[e]at b;exact k _ (Option.some.inj b).symm) e
theorem Ir (n:vN H X)(o:Off X H H'){xs:Dj}(e:H l=some (.tup xs)):H' l=some (.tup xs):=o _ _ (λq=>by obtain⟨u,b,k,_⟩:=n _ q;rw[e]at b;exact k _ (Option.some.inj b).symm) e
theorem sJ.off (n:vN H X)(o:Off X H H')(c:sJ H l ps):sJ H' l ps:=let ⟨ts,a,b,c⟩:=c;⟨ts,y7 n o a,b,λi t x d e=>Ir n o<|c i t x d e⟩
theorem wz.off (n:vN H X)(o:Off X H H')(q:wz K H Dm F):wz K H' Dm F:=let ⟨gs,a,b⟩:=q;⟨gs,a.off n.tup o,b⟩
theorem wz.ne {x y:D1}(h:H x=some (.dK Dm))(i:H y=some (.dK kb))(p:wz K H Dm F)(q:wz K H kb F){Q:V->Hp->Prop}(k:Q (.bl false) H):W3 K (.ref x) (.ref y) H Q:=by
 obtain⟨l,c,r,_,e⟩:=p;obtain⟨j,d,g,_,rfl⟩:=q;refine⟨x,y,Dm,kb,_,rfl,rfl,.inl h,.inl i,BQ d g c λf b=>⟨(r.lb b).1,(r.lb b).2.2⟩,?_⟩;rwa[(F3 c d g<|qB r.nd).mpr<|(Mx g r).mp e]
theorem Oz {Q:VK}(B:xx P w K C D H b a h fp S hs)(q:VF S v F qs z)(k:∀e Dm H',zy H H'->H e=none->H' e=some (.dK Dm)->wz K H' Dm F->Q (.ref e) H'):wL P w K C D [.ref b,.str v] H Q E:=by
 obtain⟨t,nt,tr,i,g,l,e⟩:=q.read B.ok;exact⟨b,a,h,fp,S,hs,v,t,qs,z,rfl,B,nt,tr,i,by lia,λf d=>(g.wH f d).2.2.2,λc Dm H' s n h f=>k c Dm H' s n h ⟨_,f,g,l,e⟩⟩
theorem RI {Q:VK}{E:XK}{l:Da}(d:xx P w K C D H b a h fp S hs)(vw:Vw S)(y:S.length<1800)(A:VF S f B q1 z1)(r:VF S o M q2 z2)(F:VF S v Y (f::l) z3)(u:UZ z3=true)(j:Jn pl B M Y)
  (k:∀S' n q z H',Gw S S' 18->VF S' n (jf B M Y) q z->Off (h::fp) H H'->xx P w K C D H' b a h fp S' hs->Q (.str n) H'):uh P w K C D [.ref b,.str v,.str o] H Q E:=by
 refine⟨b,a,h,fp,S,hs,v,o,f,pl,B,M,Y,q1,q2,l,z1,z2,z3,rfl,d,y,A,r,F,u,j,λe H' s=>?_,λne S' n H' i of g=>?_⟩
 .exact k S o q2 z2 H' ⟨⟨[],(ZW _).symm⟩,d.ok,by lia,vw⟩ (by rwa[e]) (.of s) (d.same s)
 .exact k S' n _ _ H' (i.grow vw d.ok (J4 1) λp t=>by rw[Zv.mp t];exact r.note) i.vf (λc o x e=>of c o (λq=>x<|Zw _ q) e) g
theorem v9.grow (g:Gw S S' j)(ok:wZ S)(q:v9 S f F0 pl ps vs):v9 S' f F0 pl ps vs:=⟨q.p4,q.len,q.lv,q.mem,q.nd,g.vf ok q.vF,λk v e=>g.vf ok<|q.sd k v e⟩
theorem v9.at (q:v9 S f F0 pl ps vs)(h:k<3):∃x v,ps[k]?=some x/\vs[k]?=some v/\x.1∈pl/\pY ((k:Int)+1)/\VF S v (U9 F0 (CD x.1)<|Nv x.2<|(k:Int)+1) [f] (DE k):=by
 have b:k<ps.length:=by rwa[q.len]
 have c:k<vs.length:=by rwa[q.lv]
 refine⟨ps[k],vs[k],ZD b,ZD c,q.mem _<|Yt b,?_,?_⟩
 .have:k=0\/k=1\/k=2:=by lia
  rcases this with rfl|rfl|rfl
  .exact .inr (.inl rfl)
  .exact .inr (.inr<|.inl rfl)
  .exact .inr (.inr<|.inr<|.inl rfl)
 .have:=q.sd k _<|ZD c;unfold chg at this;rw[ZD b]at this;exact this
theorem v9.rN (q:v9 S f F0 pl ps vs){j:Nat}{x y:Da×Int}(b:ps[k]?=some x)(c:ps[j]?=some y)(ne:k≠j):CD x.1≠CD y.1:=λe=>by
 obtain⟨h,d⟩:=ZO.mp b;obtain⟨i,g⟩:=ZO.mp c;have:=Fn (q.p4.lb _<|q.mem x<|ZN b) (q.p4.lb _<|q.mem y<|ZN c) e;refine ne ((YQ (h₀:=by rwa[Zu]) (h₁:=by rwa[Zu]) q.nd).mp ?_);rw[Yb,Yb,d,g,this]
theorem oK.set {ks:List Nat}{x:Da×Int}(q:v9 S f F0 pl ps vs)(y:oK F0 G ps (k::ks))(g:k∉ks)(d:ps[k]?=some x):oK F0 (U9 G (CD x.1) o) ps ks:=λj b u c=>by
 unfold U9;rw[ZM<|q.rN c d λe=>g<|e▸b];exact y j (Zw _ b) u c
end
namespace Cw
abbrev st:Stmt:=top 109
theorem sc:zz [] [] (zF st):=CI
include T in
theorem ok (F:yc0 K "_law_orders" st f fd):zj P w K mg base CG 1 f fd [] pQ:=by
 refine F.ok sc λ_ _ _ _ H vs Q E hr h=>?_;obtain⟨rfl,k⟩:=h;refine⟨_,(zE<|zL<|xB<|zA (xB<|zA zJ<|zA zJ<|zA zJ zC)<|zA (xB<|zA zJ<|zA zJ<|zA zJ zC)<|zA (xB<|zA zJ<|zA zJ<|zA zJ zC)<|zA (xB<|zA zJ<|zA zJ<|zA zJ zC)<|zA (xB<|zA zJ<|zA zJ<|zA zJ zC)<|zA (xB<|zA zJ<|zA zJ<|zA zJ zC) zC),?_⟩;refine⟨UT 3,λB n1=>nw n1 λS J o=>⟨UT 3,λC n2=>nw n2 λU L p=>⟨UT 3,λD n3=>nw n3 λX M r=>⟨UT 3,λp4 x=>nw x λY N s=>⟨UT 3,λG y=>nw y λZ O t=>⟨UT 3,λI z=>nw z λH6 R u=>⟨UT 6,λl A=>nw A λn c v=>?_⟩⟩⟩⟩⟩⟩⟩;have j:=R.trans c;have i:=O.trans j;have g:=N.trans i;have e:=M.trans g;have d:=L.trans e;refine k l [B,C,D,p4,G,I] n (J.trans d) v rfl λq b=>?_;simp only[ZI,Y4,Ua]at b
 rcases b with rfl|rfl|rfl|rfl|rfl|rfl
 .exact⟨[0,1,2],by decide,by decide,d _ _ o⟩
 .exact⟨[0,2,1],by decide,by decide,e _ _ p⟩
 .exact⟨[1,0,2],by decide,by decide,g _ _ r⟩
 .exact⟨[1,2,0],by decide,by decide,i _ _ s⟩
 .exact⟨[2,0,1],by decide,by decide,j _ _ t⟩
 .exact⟨[2,1,0],by decide,by decide,c _ _ u⟩
end Cw
namespace Cy
abbrev st:Stmt:=top 110
theorem sc:zz ["_law_book","_law_versions","_law_changes","_law_onto","_law_files","_law_order","_law_at","_law_due","_law_k","_law_path","_law_cell"] ["_law_book","_law_versions","_law_changes","_law_onto","_law_files","_law_order"] (zF st):=CI
include T in
theorem ok (F:yc0 K "_law_by_carrying" st f fd)(Zl:yo P w K mg base 17 "carried" ["annals","version","onto"]<|uh P w K aC aD)(Qh:yo P w K mg base 2 "_law_put" ["_law_files","_law_path","_law_cell","_law_k"]<|ud K)(Qn:Met P w K mg base aD 16 "files" ["self","version"]<|wL P w K aC aD):zj P w K mg base CG 18 f fd ["_law_book","_law_versions","_law_changes","_law_onto","_law_files","_law_order"] (pL P w K aC aD):=by
 refine F.ok sc λ_ _ _ _ H vs Q E hr h=>?_;obtain⟨b,a,h,vl,cl,c,ol,R,S,hs,fq,o,F0,G,pl,ps,us,J,Dm,qs,z,rfl,B,vw,sl,sd,vo,sp,yet,X,k3,hv,hc,hd,ff,ho,k⟩:=h;refine⟨_,(zD (CK (i:=6) sc.nd<|pv 3)<|zD (CK (i:=7) sc.nd<|zT x9 (by rfl) T.dict Y7<|zA (pv 4) zC)<|zD (yY El rfl (xC<|pv 5) (zO (i:=8) sc.nd rfl<|Et rfl)<|zD (CK (i:=6) sc.nd<|zG Zl hr.m<|zA (pv 0)<|zA (z7 (wY:CM _<|vI K) (pv 1)<|pv 8)<|zA (pv 6) zC)<|zD (PR (z7 (wY:CM _<|vI K) (pv 2)<|pv 8)<|kP rfl<|yF (zO (i:=9) sc.nd rfl<|Et rfl)<|yF (zO (i:=10) sc.nd rfl<|Et rfl) qR)<|zD (CK (i:=7) sc.nd<|zG Qh hr.m<|zA (pv 7)<|zA (pv 9)<|zA (pv 10)<|zA (zY xK (pv 8) zJ) zC)<|zE<|yD (PW.pt<|IX (y6<|zS (K:=K)<|zM (zZ (K:=K)) (by rfl) T.isinstance Z1<|zA (pv 6)<|zA (yW (v:=.ty "str") rfl T.str Yk rfl) zC)<|Xu<|zR (Pr hr.uZ) (zX (pv 0) T.wX Qn hr.m<|zA (pv 6) zC) (pv 7)<|z4 _) (zE<|zL qY) zP)<|zE<|zL qY),?_⟩
 have kl:J.length<=3:=by
  have:=J3 X (l₂:=Ef 3) λx M=>Y0.mpr<|k3 x M
  rwa[Yo]at this
 refine⟨_,rfl,_,rfl,c,Dm,rfl,.inl hd,λd nd=>nw nd λH1 u1 h1=>zQ ⟨_,rfl,ol,rfl,⟨_,yj.of<|u1 _ _ ho⟩,?_⟩⟩;have nX:d∉h::R:=λq=>by obtain⟨u,e,_⟩:=B.ye d q;rw[nd]at e;cases e
 refine jH (K:=K) (a:=ol) (xs:=J.map λk=>V.int ((k:Nat):Int)) (λi σ s=>∃at_ D o8 o9 t,σ=[some<|.ref b,some<|.ref vl,some<|.ref cl,some<|.str o,some<|.ref c,some<|.ref ol,some<|.str at_,some<|.ref D,o8,o9,t]/\∃C p kd q z,xx P w K aC aD s b a h R C hs/\Gw S C (18*i)/\VF C at_ p q z/\Sup pl p/\oK F0 p ps (J.drop i)/\s D=some (.dK kd)/\D∉h::R/\wz K s kd p/\Off (h::R) H s) ?_ ?_ ?_ ?_
 .exact⟨o,d,none,none,none,rfl,S,G,Dm,qs,z,B.same u1,⟨⟨[],(ZW _).symm⟩,B.ok,by lia,vw⟩,vo,sp,yet,h1,nX,ff.same u1,.of u1⟩
 .rintro i σ s hi ⟨at_,D,o8,o9,t,rfl,C,p,kd,q,z,_,_,_,_,_,_,_,_,of⟩;exact yj.of<|y7 B.ye of ho
 .rintro i y σ s hy ⟨at_,D,o8,o9,t,rfl,C,p,kd,q,z,B2,r,ab,A,g,U,Y,O,of⟩;rw[ZF]at hy;obtain⟨j,hk,rfl⟩:=Z0.mp hy;have km:=ZN hk;have il:=(ZO.mp hk).1;have ek:J.drop i=j::J.drop (i+1):=by
   obtain⟨h1,e1⟩:=ZO.mp hk;rw[JI h1,e1]
  have nk:j∉J.drop (i+1):=by
   have:=(List.drop_sublist i J).nodup X;rw[ek,Yl]at this;exact this.1
  rw[ek]at g;have Z:=sd.grow r B.ok;obtain⟨x,v,M,al,xm,I,an⟩:=Z.at (k3 j km);have jn:=OO (F:=F0) (o:=Nv x.2<|(j:Int)+1) sd.p4 xm A (XD I)<|g j Zx x M;have ac:jf F0 p (U9 F0 (CD x.1)<|Nv x.2<|(j:Int)+1)=U9 p (CD x.1) (Nv x.2<|(j:Int)+1):=KL<|g j Zx x M;have gl:=r.len;obtain⟨ts,ah,ai,ak⟩:=hc.off B.ye of;have tk:j<ts.length:=by rw[ai,sd.len];exact k3 j km
  have af:=y7 B.ye of hv;refine⟨_,rfl,_,rfl,_,rfl,vl,_,_,_,rfl,rfl,yj.of af,yE (v:=.str v) (by rw[ZF,al];rfl),_,rfl,?_⟩;delta Xi;dsimp only;show uh P w K aC aD [V.ref b,V.str v,V.str at_] s _ _;refine RI B2 r.vw (by lia) Z.vF ab an (FU j<|k3 j km) jn λS3 n q3 z3 H3 g3 v3 l B3=>zQ ?_;rw[ac]at v3;have L:=B2.ye;have t3:=Ir L l<|ak j _ x (ZD tk) M;refine⟨_,rfl,_,rfl,cl,_,_,_,rfl,rfl,yj.of<|y7 L l ah,yE (v:=.ref ts[j]) (by rw[ZF,ZD tk];rfl),_,_,rfl,xj.of t3,rfl,_,_,rfl,_,_,rfl,rfl,?_⟩;have ad:=l _ _ Y U;refine⟨_,rfl,_,rfl,_,rfl,_,rfl,_,_,rfl,rfl,D,kd,p,pl,x.1,x.2,_,rfl,ad,O.off L l,sd.p4,A,xm,I,λe ke H4 s4 ne he fe=>zQ ?_⟩;have B4:=B3.same s4;obtain⟨dx,hb⟩:=B4.ob;have am:e∉h::R:=λq=>by obtain⟨u,e',_⟩:=B3.ye e q;rw[ne]at e';cases e'
  refine⟨_,rfl,_,_,.str n,true,rfl,rfl,T.is (d:=.str n) (T:="str")<|by decide,_,rfl,X4 ?_⟩;refine⟨_,rfl,b,dx,_,rfl,hb,rfl,_,rfl,?_⟩;show wL P w K aC aD [V.ref b,V.str n] H4 _ _;refine Oz B4 v3 λe5 k5 H5 N n5 h5 f5=>⟨_,rfl,wz.ne h5 (N _ _ he) f5 (fe.same N) ⟨_,rfl,UQ ?_⟩⟩;have gt:=r.trans g3;rw[show 18*i+18=18*(i+1) by lia]at gt;exact⟨n,e,_,_,_,rfl,S3,_,ke,q3,z3,B4.same N,gt,v3,A.set xm (XD I),g.set sd nk M,N _ _ he,am,fe.same N,λc o nc ec=>(s4.trans N) _ _<|l _ _ nc<|of _ _ nc ec⟩
 .rintro σ s ⟨at_,D,o8,o9,t,rfl,C,p,kd,q,z,B2,r,ab,A,g,U,Y,O,of⟩;rw[Zu]at r;exact k C s ⟨r.more,r.ok,by have:=r.len;lia,r.vw⟩ of B2
end Cy
def CU (k:Nat):Str:="side"++(⟨#[97+k]⟩:Str)
def ph (S:Di)(f m:Str)(G:FF)(ks:List Nat)(b:Str):Prop:=∃(A:Str->Prop) (c:Da) (z:Str),Cl S A (ks.map DE)/\A m/\Dn S f m/\VF S m G c z/\((m=f/\b="moved")\/(z≠"first"/\b="joined"))
inductive pD (P:D3)(w:D6)(K:CB)(C D:D1)(vs:Dj)(H:Hp)(Q:VK)(e3:XK):Prop
 |mk (b a h cl c ol:D1) (fp:Dd) (S:Di) (hs:Hs) (f m:Str) (F0 G:FF) (pl:List Da) (ps:List<|List Str×Int) (us:Da) (ks:List Nat) (Dm:Dl) (wd:Str) (asked:Bool) (h0:vs=[.ref b,.ref cl,.ref c,.str wd,.bl asked,.ref ol]) (h1:xx P w K C D H b a h fp S hs) (h2:Vw S) (h3:S.length<=500) (h4:hs.length<=4) (h5:v9 S f F0 pl ps us) (h6:UR hs "main"=some (some m)) (h7:(∀k<3,UR hs (CU k)=some us[k]?)) (h8:ph S f m G ks wd) (h9:Sup pl G) (h10:oK F0 G ps ks) (h11:ks.Nodup) (h12:(∀k∈ks,k<3)) (h13:sJ H cl ps) (h14:H c=some (.dK Dm)) (h15:wz K H Dm G) (h16:H ol=some (.lst<|ks.map λk=>V.int ((k:Nat):Int))) (h17:∀H',Q (.bl true) H'):pD P w K C D vs H Q e3
section
variable {P:D3}{w:D6}{K:CB}{C D:D1}{H H':Hp}{b a h l:D1}{fp X:Dd}{S S' T:Di}{hs:Hs}{F F0 G:FF}{n f v z m wd:Str}{us:Da}{pl:List Da}{ps:List (List Str×Int)}{Dm kb:Dl}{k:Nat}{ks:List Nat}
theorem Fa:∀k<3,DE k≠"first"/\DE k≠"join"/\DE k≠"far"/\("main":Str)≠CU k/\∀j<3,DE j=DE k->j=k:=by decide+kernel
theorem VF.files (ok:wZ S)(h:VF S n F qs z)(k:VF S n F' qs' z'):F=F':=by
 obtain⟨i,t,q,g,_,rfl⟩:=h;obtain⟨d,j,b,c,_,rfl⟩:=k;have:=At.thing ok q.nt b.nt;injection this with e _ _;subst e;exact(Mx c g).mpr λf=>by rw[<-q.rd,b.rd]
theorem MU {z:Str}(h:∀k∈ks,DE k≠z):z∉ks.map DE:=λq=>by
 obtain⟨k,b,e⟩:=ZA.mp q;exact h k b e
theorem RX {Q:VK}{E:XK}{x:Da×Int}(B:xx P w K C D H b a h fp S hs)(vw:Vw S)(sl:S.length<1800)(hl:hs.length<1000)(sd:v9 S f F0 pl ps us)(st:ph S f m G (k::ks) wd)(X:∀j∈k::ks,j<3)(nk:k∉ks)(lm:UR hs "main"=some (some m))(lv:UR hs y=some (some v))(hv:us[k]?=some v)(hx:ps[k]?=some x)(e0:G (CD x.1)=F0 (CD x.1))(sp:Sup pl G)
  (c:∀S' n H',Gw S S' 18->ph S' f n (U9 G (CD x.1)<|Nv x.2<|(k:Int)+1) ks "joined"->Off (h::fp) H H'->xx P w K C D H' b a h fp S' (UX hs "main"<|some n)->Q (.str wd) H'):uf P w K C D [.ref b,.str "main",.str y] H Q E:=by
 have k0:=X k Zx;obtain⟨x',v',I,F,xm,Y,g⟩:=sd.at k0;rw[hx]at I;cases I;rw[hv]at F;cases F;obtain⟨A,qs,z,s,l,T,N,st⟩:=st;obtain⟨c1,c2,c3,c4,c5⟩:=Fa k k0;have nA:¬A v:=λhA=>by
  obtain⟨Z,J,z',vf,_,nw⟩:=s v hA;exact nw<|vf.words B.ok g▸Zx
 have mv:m≠v:=λe=>nA<|e▸l;have L:∀{z:Str},(z="first"\/z="join"\/z="far"\/z=DE k)->z∉ks.map DE:=λ{z} hz=>MU λj U e=>by
  obtain⟨d1,d2,d3,d4,d5⟩:=Fa j<|X j<|Zw _ U
  rcases hz with rfl|rfl|rfl|rfl
  .exact d1 e
  .exact d2 e
  .exact d3 e
  .exact nk (c5 j (X j<|Zw _ U) e▸U)
 refine⟨b,a,h,fp,S,hs,"main",y,m,v,G,_,qs,[f],z,DE k,rfl,vw.vbk B,hl,lm,lv,N,g,mv,λr=>nA<|s.qi B.ok l r,?_⟩
 rcases st with⟨rfl,rfl⟩|⟨zn,rfl⟩
 .refine .inl ⟨.step (.root<|Zv.mpr rfl) (by rw[g.par B.ok];exact Zv.mpr rfl),λH' of R=>c S v H' ⟨⟨[],(ZW _).symm⟩,B.ok,by lia,vw⟩ ?_ (λd o nd e=>of d o (λq=>nd (by rw[Zv.mp q];exact Zx)) e) R⟩;have eG:=N.files B.ok sd.vF;refine⟨λx=>x=v\/x=m,[m],DE k,λu t=>?_,.inl rfl,.step g .root,by rw[eG];exact g,.inr ⟨c1,rfl⟩⟩
  rcases t with rfl|rfl
  .exact⟨_,_,_,g,λq i=>.inr<|Zv.mp i,L<|.inr<|.inr<|.inr rfl⟩
  .exact⟨_,_,_,sd.vF,λq i=>(nomatch i),L<|.inl rfl⟩
 .have mf:m≠f:=λe=>zn<|N.words B.ok<|e▸sd.vF;have Af:A f:=s.qi B.ok l<|T.qi B.ok;refine .inr ⟨λr=>(HW B.ok sd.vF g r).elim mv mf,sl,f,pl,F0,[],"first",λus im=>Pb B.ok s l T sd.vF g Zx im,sd.vF,OO sd.p4 xm sp (XD Y) e0,λS' n H' kf of R=>?_⟩;have M:=kf.grow vw B.ok (ZB 2) λp hp=>by
   rcases ZI.mp hp with e|e
   .rw[e];exact N.note
   .rw[Zv.mp e];exact g.note
  have O:=kf.vf;rw[KL e0]at O;refine c S' n H' M ⟨λu=>A u\/u=n\/u=v,[m,v],"join",λu t=>?_,.inr<|.inl rfl,.step O<|T.grow M B.ok,O,.inr ⟨by decide+kernel,rfl⟩⟩ of R
  rcases t with t|rfl|rfl
  .obtain⟨Z,J,z',a1,a2,a3⟩:=s u t;exact⟨Z,J,z',M.vf B.ok a1,λq i=>.inl<|a2 q i,λq=>a3<|Zw _ q⟩
  .refine⟨_,_,_,O,λq i=>?_,L<|.inr<|.inl rfl⟩
   rcases ZI.mp i with e|e
   .rw[e];exact .inl l
   .exact .inr (.inr<|Zv.mp e)
  .exact⟨_,_,_,M.vf B.ok g,λq i=>.inl (by rw[Zv.mp i];exact Af),L<|.inr<|.inr<|.inr rfl⟩
end
theorem FB {o':Option Str}(h:UR hs x=some o'):(UX hs x o).length=hs.length:=by
 have e:=j0 (hs:=hs) (x:=x) (o:=o);rw[ZS<|qu.mp (by rw[h];rfl)]at e;have:=congrArg List.length e
 rwa[Zu,Zu]at this
theorem Kr:∀k<3,Ko ("abc":Str).cps.toList ((k:Nat):Int)=some (97+k):=by decide+kernel
namespace Cz
abbrev st:Stmt:=top 111
theorem sc:zz ["_law_book","_law_changes","_law_files","_law_word","_law_asked","_law_order","_law_due","_law_k","_law_path","_law_cell"] ["_law_book","_law_changes","_law_files","_law_word","_law_asked","_law_order"] (zF st):=CI
include T in
theorem ok (F:yc0 K "_law_by_joining" st f fd)(Zm:yo P w K mg base 19 "join_heads" ["annals","branch","other"]<|uf P w K aC aD)(Qh:yo P w K mg base 2 "_law_put" ["_law_files","_law_path","_law_cell","_law_k"]<|ud K)(Qn:Met P w K mg base aD 16 "files" ["self","version"]<|wL P w K aC aD)(Qd:Met P w K mg base aD 4 "head" ["self","branch"]<|uY P w K aC aD):zj P w K mg base CG 20 f fd ["_law_book","_law_changes","_law_files","_law_word","_law_asked","_law_order"] (pD P w K aC aD):=by
 refine F.ok sc λ_ _ _ _ H vs Q E Z h=>?_;obtain⟨b,a,h,cl,c,ol,N,S,hs,fq,m,F0,G,pl,ps,us,I,Dm,wd,l,rfl,B,vw,sl,hl,sd,lm,ls,bd,sp,yet,ak,k3,hc,hd,ff,ho,k⟩:=h;refine⟨_,(zD (CK (i:=6) sc.nd<|zT x9 (by rfl) T.dict Y7<|zA (pv 2) zC)<|zD (yY El rfl (xC<|pv 5) (zO (i:=7) sc.nd rfl<|Et rfl)<|zD (yD (zR MW (zG Zm Z.m<|zA (pv 0)<|zA zr<|zA (zY zW zr<|z7 XF zr<|pv 7) zC) (pv 3)<|z4 _) (zE<|zL qY) zP)<|zD (CK (i:=3) sc.nd zr)<|zD (PR (z7 (wY:CM _<|vI K) (pv 1)<|pv 7)<|kP rfl<|yF (zO (i:=8) sc.nd rfl<|Et rfl)<|yF (zO (i:=9) sc.nd rfl<|Et rfl) qR)<|zD (CK (i:=6) sc.nd<|zG Qh Z.m<|zA (pv 6)<|zA (pv 8)<|zA (pv 9)<|zA (zY xK (pv 7) zJ) zC)<|zE<|yD (PW.pt<|P3 (zS (K:=K)<|pv 4)<|M7<|zR (Pr Z.uZ) (zX (pv 0) T.wX Qn Z.m<|zA (zX (pv 0) T.wX Qd Z.m<|zA zr zC) zC) (pv 6)<|z4 _) (zE<|zL qY) zP)<|zE<|zL<|yI (Pq Z.uZ) (zX (pv 0) T.wX Qn Z.m<|zA (zX (pv 0) T.wX Qd Z.m<|zA zr zC) zC) (pv 6)<|z4 _),?_⟩
 have kl:I.length<=3:=by
  have:=J3 ak (l₂:=Ef 3) λx hx=>Y0.mpr<|k3 x hx
  rwa[Yo]at this
 refine⟨_,rfl,c,Dm,rfl,.inl hd,λd nd=>nw nd λH1 u1 h1=>zQ ⟨_,rfl,ol,rfl,⟨_,yj.of<|u1 _ _ ho⟩,?_⟩⟩;have nX:d∉h::N:=λq=>by obtain⟨u,e,_⟩:=B.ye d q;rw[nd]at e;cases e
 refine jH (K:=K) (a:=ol) (xs:=I.map λk=>V.int ((k:Nat):Int)) (λi σ R=>∃D p o7 o8 o9,σ=[some<|.ref b,some<|.ref cl,some<|.ref c,some<|.str p,some<|.bl l,some<|.ref ol,some<|.ref D,o7,o8,o9]/\∃C g O t kd,xx P w K aC aD R b a h N C g/\Gw S C (18*i)/\g.length<=4/\UR g "main"=some (some O)/\(∀k<3,UR g (CU k)=some us[k]?)/\ph C fq O t (I.drop i) p/\Sup pl t/\oK F0 t ps (I.drop i)/\R D=some (.dK kd)/\D∉h::N/\wz K R kd t/\Off (h::N) H R) ?_ ?_ ?_ ?_
 .exact⟨d,wd,none,none,none,rfl,S,hs,m,G,Dm,B.same u1,⟨⟨[],(ZW _).symm⟩,B.ok,by lia,vw⟩,hl,lm,ls,bd,sp,yet,h1,nX,ff.same u1,.of u1⟩
 .rintro i σ R hi ⟨D,p,o7,o8,o9,rfl,C,g,O,t,kd,_,_,_,_,_,_,_,_,_,_,_,of⟩;exact yj.of<|y7 B.ye of ho
 .rintro i y σ R hy ⟨D,p,o7,o8,o9,rfl,C,g,O,t,kd,B2,gw,a0,U,ad,Y,X,s,ac,an,ab,of⟩;rw[ZF]at hy;obtain⟨A,hk,rfl⟩:=Z0.mp hy;have km:=ZN hk;have k0:=k3 A km;have il:=(ZO.mp hk).1;have ek:I.drop i=A::I.drop (i+1):=by
   obtain⟨h1,e1⟩:=ZO.mp hk;rw[JI h1,e1]
  have nk:A∉I.drop (i+1):=by
   have:=(List.drop_sublist i I).nodup ak;rw[ek,Yl]at this;exact this.1
  have a6:∀j∈A::I.drop (i+1),j<3:=λj hj=>by
   rw[<-ek]at hj;exact k3 j<|List.mem_of_mem_drop hj
  rw[ek]at s Y;have ap:=sd.grow gw B.ok;obtain⟨x,v,hx,ai,xm,al,bg⟩:=ap.at k0;have gl:=gw.len;obtain⟨ts,a3,a4,a5⟩:=hc.off B.ye of;have tk:A<ts.length:=by rwa[a4,sd.len]
  have lv:=ad A k0;rw[ai]at lv;refine⟨_,rfl,_,rfl,_,_,_,rfl,rfl,zx<|by decide+kernel,Kr A k0,_,_,rfl,rfl,zx (by show 4+1<=16777216;decide),?_⟩;delta Xi;dsimp only;show uf P w K aC aD [V.ref b,V.str "main",V.str<|CU A] R _ _;refine RX B2 gw.vw (by lia) (by lia) ap Y a6 nk U lv ai hx (s A Zx x hx) X λS3 n H3 g3 as J B3=>?_;refine⟨_,rfl,rfl,_,rfl,U0 (λz=>(by simp at z)) (λ_=>?_)⟩;delta Kh;dsimp only;have af:=B2.ye;have t3:=Ir af J<|a5 A _ x (ZD tk) hx;refine zQ ⟨_,rfl,_,rfl,cl,_,_,_,rfl,rfl,yj.of<|y7 af J a3,yE (v:=.ref ts[A]) (by rw[ZF,ZD tk];rfl),_,_,rfl,xj.of t3,rfl,_,_,rfl,_,_,rfl,rfl,?_⟩;have ay:=J _ _ an ac;refine⟨_,rfl,_,rfl,_,rfl,_,rfl,_,_,rfl,rfl,D,kd,t,pl,x.1,x.2,_,rfl,ay,ab.off af J,sd.p4,X,xm,al,λe ke H4 s4 ne he fe=>zQ ?_⟩;have B4:=B3.same s4;obtain⟨dx,hb⟩:=B4.ob;have a8:e∉h::N:=λq=>by obtain⟨u,e',_⟩:=B3.ye e q;rw[ne]at e';cases e'
  have gt:=gw.trans g3;rw[show 18*i+18=18*(i+1) by lia]at gt;have am:UR (UX g "main"<|some n) "main"=some (some n):=by rw[xH,ZS rfl]
  have a7:∀k<3,UR (UX g "main"<|some n) (CU k)=some us[k]?:=λj hj=>by rw[xH,ZM<|Eh (Fa j hj).2.2.2.1];exact ad j hj
  have a1:(UX g "main"<|some n).length<=4:=by rwa[FB U]
  have ah:∀M,zy H4 M->∃D p o7 o8 o9,[some<|V.ref b,some<|.ref cl,some<|.ref c,some<|.str "joined",some<|.bl l,some<|.ref ol,some<|.ref e,some<|.int (A:Int),some<|.str<|CD x.1,some<|.int x.2]=[some<|.ref b,some<|.ref cl,some<|.ref c,some<|.str p,some<|.bl l,some<|.ref ol,some<|.ref D,o7,o8,o9]/\∃C g O t kd,xx P w K aC aD M b a h N C g/\Gw S C (18*(i+1))/\g.length<=4/\UR g "main"=some (some O)/\(∀k<3,UR g (CU k)=some us[k]?)/\ph C fq O t (I.drop<|i+1) p/\Sup pl t/\oK F0 t ps (I.drop<|i+1)/\M D=some (.dK kd)/\D∉h::N/\wz K M kd t/\Off (h::N) H M:=λM L =>
   ⟨e,"joined",_,_,_,rfl,S3,_,n,_,ke,B4.same L,gt,a1,am,a7,as,X.set xm (XD al),s.set sd nk hx,L _ _ he,a8,fe.same L,λc o nc ec=>(s4.trans L) _ _<|J _ _ nc<|of _ _ nc ec⟩
  refine⟨_,rfl,l,rfl,?_⟩;cases l with
  |false=>exact UQ<|UQ<|ah H4<|zy.refl _
  |true =>
   obtain⟨A',a9,z',_,_,_,vn,_⟩:=as;refine UV ⟨_,rfl,b,dx,_,rfl,hb,rfl,_,rfl,b,dx,_,rfl,hb,rfl,b,a,h,N,S3,_,"main",some n,rfl,B4,am,?_⟩;show wL P w K aC aD [V.ref b,V.str n] H4 _ _;exact Oz B4 vn λe5 k5 M L n5 h5 f5=>⟨_,rfl,wz.ne h5 (L _ _ he) f5 (fe.same L) ⟨_,rfl,UQ<|ah M L⟩⟩
 .rintro σ R ⟨D,p,o7,o8,o9,rfl,C,g,O,t,kd,B2,gw,a0,U,ad,Y,X,s,ac,an,ab,of⟩;obtain⟨A',a9,z',_,_,_,vm,_⟩:=Y;obtain⟨dx,hb⟩:=B2.ob;refine⟨_,rfl,b,dx,_,rfl,hb,rfl,_,rfl,b,dx,_,rfl,hb,rfl,b,a,h,N,C,g,"main",some O,rfl,B2,U,?_⟩;delta Xi;dsimp only;show wL P w K aC aD [V.ref b,V.str O] R _ _;exact Oz B2 vm λe5 k5 M L n5 h5 f5=>⟨_,rfl,wz.eq h5 (L _ _ ac) f5 (ab.same L) λr a2=>by rw[a2.mpr rfl];exact k M⟩
end Cz
structure Fr (K:CB)(H0 H:Hp)(pa cl e:D1)(pl:List Da)(ps:List<|List Str×Int)(ke:Dl)(F0:FF):Prop where
 s0:zy H0 H
 pa:H pa=some (.lst<|pl.map λp=>V.str<|CD p)
 ch:sJ H cl ps
 he:H e=some (.dK ke)
 fe:wz K H ke F0
structure Bg (S:Di)(hs:Hs)(f:Str)(F0:FF)(ps:List<|List Str×Int)(us:Da):Prop where
 hl:hs.length=us.length+1
 lm:UR hs "main"=some (some f)
 ls:∀k<us.length,UR hs (CU k)=some us[k]?
 no:∀k<3,us.length<=k->UR hs (CU k)=none
 vF:VF S f F0 [] "first"
 sd:∀(k:Nat) (v:Str),us[k]?=some v->VF S v (chg F0 ps k) [f] (DE k)
section
variable {P:D3}{w:D6}{K:CB}{C D:D1}{H0 H H':Hp}{b a h l vl pa cl e:D1}{fp X:Dd}{S S' T:Di}{hs:Hs}{F F0 G:FF}{n f v z m wd y:Str}{us:Da}{pl:List Da}{ps:List (List Str×Int)}{Dm ke:Dl}{k:Nat}{ks:List Nat}
theorem Fr.same (q:Fr K H0 H pa cl e pl ps ke F0)(s:zy H H'):Fr K H0 H' pa cl e pl ps ke F0:=⟨q.s0.trans s,s _ _ q.pa,let ⟨ts,a,b,c⟩:=q.ch;⟨ts,s _ _ a,b,λi t x d f=>s _ _<|c i t x d f⟩,s _ _ q.he,q.fe.same s⟩
theorem Fr.off (q:Fr K H0 H pa cl e pl ps ke F0)(n:vN H X)(o:Off X H H')(d:∀c∈X,H0 c=none)(ne:e∉X):Fr K H0 H' pa cl e pl ps ke F0 :=
 ⟨λc u b=>o _ _ (λz=>by rw[d c z]at b;cases b)<|q.s0 _ _ b,y7 n o q.pa,q.ch.off n o,o _ _ ne q.he,q.fe.off n o⟩
theorem Fr.upd {xs w:Dj}(q:Fr K H0 H pa cl e pl ps ke F0)(hv:H vl=some (.lst xs))(p:H0 vl=none)(s:pa≠vl)(r:cl≠vl):Fr K H0 (upd H vl<|.lst w) pa cl e pl ps ke F0:=by
 have nt:∀{c f},H c=some (.tup f)->c≠vl:=λ{c f} d z=>by rw[z,hv]at d;cases d
 have ne:e≠vl:=λz=>by have:=q.he;rw[z,hv]at this;cases this
 obtain⟨v,a,b,c⟩:=q.ch;refine⟨λc u d=>?_,by rw[zH s];exact q.pa,⟨v,by rw[zH r];exact a,b,λi t x l n=>by have:=c i t x l n;rw[zH<|nt this];exact this⟩,by rw[zH ne];exact q.he,?_⟩
 .rw[zH (λz=>by rw[z,p]at d;cases d)];exact q.s0 _ _ d
 .obtain⟨j,g,h⟩:=q.fe;refine⟨j,g.off (X:=[vl]) (λb o xs z=>?_) yB,h⟩;rw[Zv.mp o]at z
  rcases z with z|⟨u,z⟩<;>(rw[hv]at z;cases z)
theorem Fk {Q:VK}{E:XK}{o:Option Str}{c:D1}(B:xx P w K C D H b a h fp S hs)(vw:Vw S)(hl:hs.length<1000)(j:UR hs x=some o)(s:H c=some (.dK Dm))(u:c∉fp)(ff:wz K H Dm F)(l:UZ y=true)(z:S.length<1800)
  (k:∀S' n H',Gw S S' 18->VF S' n F o.toList y->Off (h::fp) H H'->xx P w K C D H' b a h fp S' (UX hs x<|some n)->Q (.str n) H'):vU P w K C D [.ref b,.str x,.ref c,.str y] H Q E:=by
 obtain⟨fs,ff,d,r,e⟩:=ff;have v:wt fs<=16:=by have:=d.wt;lia
 have f:∀p∈o.toList,z9 S p ["note"]=true:=λp f=>B.hv _ (Gr j) p (by cases o with|none=>cases f|some q=>rw[Zv.mp f]);have N:=OP B.ok d (by lia) (ps:=o.toList) (by cases o<;>simp) (by cases o<;>simp) f l (by lia);refine⟨b,a,h,fp,S,hs,x,c,y,o,Dm,fs,rfl,B,hl,j,s,u,ff,d,by lia,l,by lia,λH' of g=>?_⟩;generalize CP S fs o.toList y=q at N g ⊢;obtain⟨t,nt⟩:=N.nt;have i:Kf S F o.toList y q.1 q.2:=⟨⟨fs,N,d,e,v⟩,⟨fs,t,nt,d,r,e⟩⟩;exact k _ _ H' (i.grow vw B.ok (by cases o<;>simp) f) i.vf of g
theorem GB:∀k<3,zU (CU k)=true/\("main":Str)≠CU k/\∀j<3,CU j=CU k->j=k:=by decide+kernel
theorem Bg.grow (g:Gw S S' j)(ok:wZ S)(q:Bg S hs f F0 ps us):Bg S' hs f F0 ps us:=⟨q.hl,q.lm,q.ls,q.no,g.vf ok q.vF,λk v e=>g.vf ok<|q.sd k v e⟩
theorem Bg.snoc (q:Bg S hs f F0 ps us)(g:us.length<3){o:Option Str}(p:VF S n (chg F0 ps us.length) [f]<|DE us.length):Bg S (UX (UX hs (CU us.length) o) (CU us.length)<|some n) f F0 ps (us++[n]):=by
 obtain⟨_,l,inj⟩:=GB us.length g;have j:=q.no us.length g<|ZB _;have d:∀x,UR (UX (UX hs (CU us.length) o) (CU us.length)<|some n) x=if x=CU us.length then some (some n) else UR hs x:=λx=>by
  rw[xH,xH]
  split<;>rfl
 refine⟨?_,by rw[d,ZM l];exact q.lm,λk b=>?_,λk h b=>?_,q.vF,λk v e=>?_⟩
 .rw[FB (o':=o)<|by rw[xH,ZS rfl]];have e:=j0 (hs:=hs) (x:=CU us.length) (o:=o);rw[ZM (λz=>by have:=qu.mpr z;rw[j]at this;cases this)]at e;have:=congrArg List.length e;rw[Zu,ZE,Zu]at this;rw[this,q.hl,ZE];rfl
 .rw[ZE]at b;have b:k<us.length+1:=b;rw[d]
  by_cases z:k=us.length
  .rw[z,ZS rfl,Z2<|ZB _,UJ];rfl
  .have c:k<us.length:=by lia
   rw[ZM<|λe=>z<|inj k (by lia) e,q.ls k c,Z7 c]
 .rw[ZE]at b;have b:us.length+1<=k:=b;rw[d,ZM (λe=>by have:=inj k h e;lia)];exact q.no k h (by lia)
 .by_cases z:k<us.length
  .rw[Z7 z]at e;exact q.sd k v e
  .rw[Z2<|by lia]at e;have c:k-us.length=0:=by
    have:=(ZO.mp e).1;simp at this;lia
   rw[c]at e;have i:k=us.length:=by lia
   cases(show some n=some v from e);rwa[i]
theorem ph.grow (g:Gw S S' j)(ok:wZ S)(q:ph S f m G ks wd):ph S' f m G ks wd:=by
 obtain⟨A,qs,z,a,b,c,d,e⟩:=q;exact ⟨A,qs,z,a.grow g ok,b,c.grow g ok,g.vf ok d,e⟩
end
inductive rZ (K:CB)(vs:Dj)(H:Hp)(Q:VK)(e3:XK):Prop
 |mk (a:D1) (ns:List Int) (h0:vs=[.ref a]) (h1:yj K H a<|ns.map V.int) (h2:ns.length<=63) (h3:∀H',Q (.bl true) H'):rZ K vs H Q e3
structure Mid (P:D3)(w:D6)(K:CB)(C D:D1)(H0 H:Hp)(b a h:D1)(fp:Dd)(S:Di)(hs:Hs)(f on:Str)(F0 G:FF)(pl:List Da)(ps:List<|List Str×Int)(us:Da)(wd:Str)(cl vl d:D1)(kd:Dl):Prop where
 bk:xx P w K C D H b a h fp S hs
 vw:Vw S
 s0:zy H0 H
 ch:sJ H cl ps
 hv:H vl=some (.lst<|us.map V.str)
 hd:H d=some (.dK kd)
 ff:wz K H kd G
 nd:d∉h::fp
 sup:Sup pl G
 yet:∀ks:List Nat,oK F0 G ps ks
 js:∀ks:List Nat,(∀k∈ks,k<3)->ph S f on G ks wd
 lm:UR hs "main"=some (some on)
 ls:∀k<3,UR hs (CU k)=some us[k]?
 hl:hs.length<=4
 sd:v9 S f F0 pl ps us
section
variable {P:D3}{w:D6}{K:CB}{C D:D1}{H0 H H':Hp}{b a h vl cl d:D1}{fp:Dd}{S S':Di}{hs:Hs}{F0 G:FF}{f on wd:Str}{us:Da}{pl:List Da}{ps:List (List Str×Int)}{kd:Dl}{j:Nat}
theorem Mid.grow (M:Mid P w K C D H0 H b a h fp S hs f on F0 G pl ps us wd cl vl d kd)(i:∀c∈h::fp,H0 c=none)(g:Gw S S' j)(o:Off (h::fp) H H')(B:xx P w K C D H' b a h fp S' hs):Mid P w K C D H0 H' b a h fp S' hs f on F0 G pl ps us wd cl vl d kd :=
 have n:=M.bk.ye
 ⟨B,g.vw,λc u e=>o _ _ (λz=>by rw[i c z]at e;cases e)<|M.s0 _ _ e,M.ch.off n o,y7 n o M.hv,o _ _ M.nd M.hd,M.ff.off n o,M.nd,M.sup,M.yet,λp l=>(M.js p l).grow g M.bk.ok,M.lm,M.ls,M.hl,M.sd.grow g M.bk.ok⟩
theorem Mid.same (M:Mid P w K C D H0 H b a h fp S hs f on F0 G pl ps us wd cl vl d kd)(e:∀c∈h::fp,H0 c=none)(s:zy H H'):Mid P w K C D H0 H' b a h fp S hs f on F0 G pl ps us wd cl vl d kd :=
 M.grow (j:=0) e ⟨⟨[],(ZW _).symm⟩,M.bk.ok,ZB _,M.vw⟩ (.of s) (M.bk.same s)
def tZ (H:Hp)(c:D1)(b:Dd):Prop:=H c=some (.lst<|b.map V.ref)/\b.length=6/\∀q∈b,∃o:List Nat,o.Nodup/\(∀k∈o,k<3)/\H q=some (.lst<|o.map λk=>V.int ((k:Nat):Int))
theorem tZ.off (q:tZ H ol qs)(n:vN H X)(o:Off X H H'):tZ H' ol qs:=⟨y7 n o q.1,q.2.1,λr d=>let ⟨u,a,b,c⟩:=q.2.2 r d;⟨u,a,b,y7 n o c⟩⟩
theorem tZ.same (q:tZ H ol qs)(s:zy H H'):tZ H' ol qs:=⟨s _ _ q.1,q.2.1,λr d=>let ⟨u,a,b,c⟩:=q.2.2 r d;⟨u,a,b,s _ _ c⟩⟩
theorem tZ.at (q:tZ H ol qs)(i:Int):∃r∈qs,Ko (qs.map V.ref) (i % 6)=some (.ref r):=by
 obtain⟨j,c⟩:=YY (show 0<=i % 6 by lia);have b:j<qs.length:=by rw[q.2.1];lia
 exact⟨qs[j],Yt b,by rw[c];exact yE (by rw[ZF,ZD b];rfl)⟩
end
namespace CA
abbrev st:Stmt:=top 112
theorem sc:zz ["_law_script","_law_paths_here","_law_book","_law_base_here","_law_first","_law_changes","_law_versions","_law_k","_law_files","_law_onto","_law_here","_law_word","_law_orders_here","_law_cell","_law_order","_law_asked"] ["_law_script"] (zF st):=CI
include T in
theorem ok (F:yc0 K "law" st f fd)(Zn:mJ P w K mg base aD 7 "Annals" ["self"]<|tU P w K aC aD)(QG:Met P w K mg base aD 8 "begin" ["self","branch","version"]<|tH P w K aC aD)(QE:Met P w K mg base aD 14 "keep" ["self","branch","files","words"]<|vU P w K aC aD)(Qd:Met P w K mg base aD 4 "head" ["self","branch"]<|uY P w K aC aD)(Zo:yo P w K mg base 2 "_law_paths" ["_law_script"]<|sZ K)(Qf:yo P w K mg base 1 "_law_cell_at" ["_law_script","_law_k"]<|uy K)(Zp:yo P w K mg base 2 "_law_base" ["_law_script","_law_paths_here"]<|rM K)(Qh:yo P w K mg base 2 "_law_put" ["_law_files","_law_path","_law_cell","_law_k"]<|ud K)(Zq:yo P w K mg base 1 "_law_orders" [] pQ)(Zr:yo P w K mg base 18 "_law_by_carrying" ["_law_book","_law_versions","_law_changes","_law_onto","_law_files","_law_order"]<|pL P w K aC aD)(Zs:yo P w K mg base 20 "_law_by_joining" ["_law_book","_law_changes","_law_files","_law_word","_law_asked","_law_order"]<|pD P w K aC aD):zj P w K mg base CG 21 f fd ["_law_script"] (rZ K):=by
 refine F.ok sc λ_ _ _ _ H vs Q E I h=>?_;obtain⟨sa,ns,rfl,ab,Dr,kQ⟩:=h;refine⟨_,(zD (CK (i:=1) sc.nd<|zG Zo I.m<|zA (pv 0) zC)<|zD (CK (i:=2) sc.nd<|PH Zn I.m)<|zD (z8<|zX (pv 2) T.wX QG I.m<|zA zr<|zA qK zC)<|zD (CK (i:=3) sc.nd<|zG Zp I.m<|zA (pv 0)<|zA (pv 1) zC)<|zD (CK (i:=4) sc.nd<|zX (pv 2) T.wX QE I.m<|zA zr<|zA (zT x9 (by rfl) T.dict Y7<|zA (pv 3) zC)<|zA zr zC)<|zD (Iy (sc:=zF st) (N:=["_law_script","_law_paths_here","_law_book","_law_base_here","_law_first","_law_changes","_law_versions","_law_k","_law_files","_law_onto","_law_here","_law_word","_law_orders_here","_law_cell","_law_order","_law_asked"]) (N':=["_law_k","_law_paths_here","_law_script"]) (src:=[none,some 1,some 0]) .a rfl rfl rfl (qU rfl T.range<|zA zJ zC) (λ_ _ _ _=>(zO (i:=0) (show(["_law_k","_law_paths_here","_law_script"]:Da).Nodup by decide+kernel) rfl (Et rfl))) (λ_ _ _ _=>qA) (λ_ _ _ _=>(x6<|zA (z7 (wY:CM _<|vI K) (pv 1)<|pv 0)<|zA (zG Qf I.m<|zA (pv 2)<|zA (zY xK zJ<|pv 0) zC) zC)) sc.nd rfl (Et rfl) (k:=5)) (zD (CK (i:=6) sc.nd<|xB zC)<|zD (yY El rfl (qU rfl T.range<|zA zJ zC) (zO (i:=7) sc.nd rfl<|Et rfl)<|zD (z8<|zX (pv 2) T.wX QG I.m<|zA (zY zW zr<|z7 XF zr<|pv 7)<|zA (pv 4) zC)<|zD (CK (i:=8) sc.nd<|zG Qh I.m<|zA (pv 3)<|zA (z7 (za:CM _<|xu K) (z7 (wY:CM _<|vI K) (pv 5)<|pv 7) zJ)<|zA (z7 (za:CM _<|xu K) (z7 (wY:CM _<|vI K) (pv 5)<|pv 7) zJ)<|zA (zY xK (pv 7) zJ) zC)<|zE<|z8<|kW Jf JU JV j2 (pv 6)<|zA (zX (pv 2) T.wX QE I.m<|zA (zY zW zr<|z7 XF zr<|pv 7)<|zA (pv 8)<|zA (zY zW zr<|zT xI (by rfl) T.str Yk<|zA (pv 7) zC) zC) zC)<|zD (CK (i:=9) sc.nd<|pv 4)<|zD (CK (i:=10) sc.nd<|pv 3)<|zD (CK (i:=11) sc.nd zr)<|Im (yD (zR qM (zY xM (zG Qf I.m<|zA (pv 0)<|zA zJ zC) zJ) zJ<|z4 _) (zD (CK (i:=10) sc.nd<|zG Qh I.m<|zA (pv 3)<|zA (z7 (wY:CM _<|vI K) (pv 1) zJ)<|zA (zY xK zJ<|zY Gh zJ<|zG Qf I.m<|zA (pv 0)<|zA zJ zC)<|zA zJ zC)<|zD (CK (i:=9) sc.nd<|zX (pv 2) T.wX QE I.m<|zA zr<|zA (zT x9 (by rfl) T.dict Y7<|zA (pv 10) zC)<|zA zr zC)<|zE<|CK (i:=11) sc.nd zr) zP)<|zD (CK (i:=12) sc.nd<|N1 Zq I.m)<|zD (CK (i:=13) sc.nd<|zY x8 (zG Qf I.m<|zA (pv 0)<|zA zJ zC) zJ)<|zD (yY El rfl (jV<|x6<|zA (z7 (wY:CM _<|vI K) (pv 12)<|zY xM (pv 13) zJ)<|zA (z7 (wY:CM _<|vI K) (pv 12)<|zY xM (zY x8 (pv 13) zJ) zJ) zC) (zO (i:=14) sc.nd rfl<|Et rfl)<|zE<|yD (y6<|zS (K:=K)<|zG Zr I.m<|zA (pv 2)<|zA (pv 6)<|zA (pv 5)<|zA (pv 9)<|zA (pv 10)<|zA (pv 14) zC) (zE<|zL qY) zP)<|zD (CK (i:=15) sc.nd<|yI qM (zY xM (zY x8 (pv 13) zJ) zJ) zJ<|z4 _)<|Im (yD (PW.pt<|P3 (zS (K:=K)<|pv 15)<|M7<|zR (TM I.units) (zX (pv 2) T.wX Qd I.m<|zA zr zC) (pv 9)<|z4 _) (zE<|zL qY) zP)<|zE<|zL<|zG Zs I.m<|zA (pv 2)<|zA (pv 5)<|zA (pv 10)<|zA (pv 11)<|zA (pv 15)<|zA (z7 (wY:CM _<|vI K) (pv 12)<|zY xM (zY x8 (pv 13) zJ) zJ) zC)),?_⟩
 refine⟨_,rfl,sa,ns,rfl,ab,λpa A H1 s1 d7 cm p4 cv=>zQ ?_⟩;have bo:∀{H:Hp} {h1:D1} {fp1:Dd} {x dx:D1},(∀c∈fp1,H c=none)->H h1=none->∀c∈h1::fp1,c=x\/c=dx\/H c=none:=λf h c hc=>.inr<|.inr<|(ZI.mp hc).elim (λe=>e▸h)<|f c;refine λb c2 dy b0 a5=>⟨b,c2,rfl,zB,by rw[zH a5];exact zB,a5,λa h fp D a9 cj b1 B2=>⟨rfl,zQ ?_⟩⟩;obtain⟨U,fr⟩:=G4 (fp:=h::fp) dy b0 a5 (bo a9 cj) b1;clear b1 a9 cj bo;obtain⟨ad,hb⟩:=B2.ob;refine⟨_,rfl,b,ad,_,rfl,hb,rfl,b,a,h,fp,[],[],"main",none,rfl,B2,by decide,by decide+kernel,rfl,λv e=>(nomatch e),λH3 o3 B3=>?_⟩;have s3:zy H1 H3:=λc u e=>o3 c u (λz=>by rw[Zv.mp z,fr h<|by simp]at e;cases e) (U _ _ e);have X0:∀c∈h::fp,H c=none:=λc hc=>s1.free<|fr c hc;clear o3 U B2 hb b0 a5;refine⟨_,rfl,_,rfl,sa,pa,ns,A,rfl,(s1.trans s3).seq ab,s3 _ _ cm,p4,λe ke X H4 s4 ne he fe sup=>zQ ?_⟩;have B4:=B3.same s4;obtain⟨ad,hb⟩:=B4.ob;have af:e∉h::fp:=λq=>by obtain⟨u,e',_⟩:=B3.ye e q;rw[ne]at e';cases e'
 refine⟨_,rfl,b,ad,_,rfl,hb,rfl,_,rfl,e,ke,rfl,.inl he,λd nd=>nw nd λH5 u5 h5=>?_⟩;delta Xi;dsimp only;show vU P w K aC aD [V.ref b,V.str "main",V.ref d,V.str "first"] H5 _ _;have dX:∀{H:Hp} {S:Di} {hs:Hs} {d:D1},xx P w K aC aD H b a h fp S hs->H d=none->d∉h::fp:=λB nd q=>by obtain⟨u,e',_⟩:=B.ye _ q;rw[nd]at e';cases e'
 have dz:Vw []:=λx t l y ⟨e,he,_⟩=>(nomatch he);refine Fk (B4.same u5) dz (by decide) (by rfl:UR (UX [] "main" none) "main"=some none) h5 (λq=>dX B4 nd<|Zw _ q) (fe.same u5) (by decide+kernel) (by decide) λS1 C H6 g1 vF o6 B6=>zQ ?_;have cb:=s3.trans s4;have n6:=(B4.same u5).ye;have ca:zy H H6:=λc u ec=>o6 _ _ (λz=>by rw[X0 c z]at ec;cases ec)<|((s1.trans cb).trans u5) _ _ ec;have b9:=y7 n6 o6<|(cb.trans u5) _ _ cm;have dd:=o6 _ _ af<|u5 _ _ he;have c5:=(fe.same u5).off n6 o6;have l1:S1.length<=18:=by have:=g1.len;simpa using this
 have l4:=p4.len;refine⟨3,rfl,by decide,by decide,jP (λi ys σ D=>∃o,σ=[o,some<|.ref pa,some<|.ref sa]/\zy H6 D/\∃(ts:Dd) (l:List<|List Str×Int),ys=ts.map V.ref/\ts.length=i/\l.length=i/\l.map (·.1)=A.take i/\∀(j:Nat) (t:D1) (x:Da×Int),ts[j]?=some t->l[j]?=some x->D t=some (.tup [.str<|CD x.1,.int x.2])) ⟨none,rfl,zy.refl _,[],[],rfl,rfl,rfl,rfl,λj t x h1=>(nomatch h1)⟩ (zx<|by decide) (λi ys σ D hi ⟨_,_,_,ts,l,ey,el,_⟩=>by rw[ey,Zu,el];exact ZB _) ?_ ?_⟩
 .rintro i ys σ D hi ⟨o,rfl,U,ts,l,rfl,el,pe,pm,tt⟩;rw[show(0+(i:Int))=(i:Int) by lia];have hi:i<3:=hi;have hj:i<A.length:=by lia
  refine⟨_,rfl,_,rfl,pa,_,_,_,rfl,rfl,yj.of<|U _ _ b9,yE (v:=.str<|CD A[i]) (by rw[ZF,ZD hj];rfl),_,rfl,_,rfl,_,_,rfl,rfl,sa,ns,_,rfl,(ca.trans U).seq ab,by lia,λc=>⟨UT 2,λt nt=>nw nt λH3 u3 h3=>?_⟩⟩;refine⟨_,rfl,U.trans u3,ts++[t],l++[(A[i],c)],by rw[ZH];rfl,by rw[ZE,el];rfl,by rw[ZE,pe];rfl,by rw[ZH,pm,Ym,ZD hj];rfl,λj t' x h1 h2=>?_⟩
  by_cases z:j<i
  .rw[Z7<|by lia]at h1 h2;exact u3 _ _<|tt j t' x h1 h2
  .rw[Z2<|by lia,el]at h1;rw[Z2<|by lia,pe]at h2;have z0:j-i=0:=by
    have:=(ZO.mp h1).1;simp at this;lia
   rw[z0]at h1 h2;cases(show some t=some t' from h1);cases(show some (A[i],c)=some x from h2);exact h3
 rintro ys σ D ⟨o,rfl,U,ts,l,rfl,el,pe,pm,tt⟩ Y cr;have el:ts.length=3:=el;have pe:l.length=3:=pe;have pm:l.map (·.1)=A.take 3:=pm;refine zQ ?_;refine nw cr λH7 u7 h7=>⟨Yf _,λO ac=>nw ac λH8 u8 h8=>zQ ?_⟩;have ce:sJ H7 Y l:=⟨ts,h7,by lia,λj t x a b=>u7 _ _<|tt j t x a b⟩;have cy:=(U.trans u7).trans u8;have c8:Fr K H H8 pa Y e A l ke X:=Fr.same (H:=H7) ⟨ca.trans<|U.trans u7,(U.trans u7) _ _ b9,ce,(U.trans u7) _ _ dd,c5.same<|U.trans u7⟩ u8;have ds:Y≠O:=zK h7 ac;have dv:pa≠O:=zK ((U.trans u7) _ _ b9) ac;have dq:H O=none:=(ca.trans<|U.trans u7).free ac;have c0:O∉h::fp:=dX (B6.same<|U.trans u7) ac;have B8:=B6.same cy;have du:h≠O:=λz=>c0 (by rw[<-z];exact Zx);have cw:(l.map (·.1)).Nodup:=by rw[pm];exact(Uv 3 A).nodup cv
 have al:∀x∈l,x.1∈A:=λx hx=>Y3 (by rw[<-pm];exact Ul hx);have c1:Bg S1 (UX (UX [] "main" none) "main"<|some C) C X l []:=⟨rfl,rfl,λk hk=>(nomatch hk),λk k3 _=>by rw[xH,xH,ZM<|Eh (GB k k3).2.1,ZM<|Eh (GB k k3).2.1];rfl,vF,λk v e=>(nomatch e)⟩;clear cy u8 u7 h7 ce tt cr ac U o6 n6 u5 h5 nd ne he fe cb s4 s3;refine⟨_,rfl,by decide,by decide,XC (lo:=0) (n:=3) (λi σ D=>∃o7 o8,σ=[some<|.ref sa,some<|.ref pa,some<|.ref b,some<|.ref e,some<|.str C,some<|.ref Y,some<|.ref O,o7,o8,none,none,none,none,none,none,none]/\∃L J g,xx P w K aC aD D b a h fp L J/\Gw S1 L (18*i)/\g.length=i/\Bg L J C X l g/\Fr K H D pa Y e A l ke X/\D O=some (.lst<|g.map V.str)) ⟨none,none,rfl,S1,_,[],B8,⟨⟨[],(ZW _).symm⟩,g1.ok,by lia,g1.vw⟩,rfl,c1,c8,h8⟩ ?_ ?_⟩
 .rintro i σ D hi ⟨o7,o8,rfl,L,J,g,B,gw,rfl,R,s,a4⟩;rw[show(0+((g.length:Nat):Int))=((g.length:Nat):Int) by lia];obtain⟨lb,mn,inj⟩:=GB g.length hi;obtain⟨ad,hb⟩:=B.ob;obtain⟨_,t1,dm,_⟩:=id R.vF;have gl:=gw.len;refine⟨_,rfl,b,ad,_,rfl,hb,rfl,_,rfl,_,_,_,rfl,rfl,zx<|by decide+kernel,Kr _ hi,_,_,rfl,rfl,zx (by show 4+1<=16777216;decide),_,rfl,b,a,h,fp,L,J,CU g.length,some C,rfl,B,by rw[R.hl];lia,lb,R.no _ hi<|ZB _,λv e=>by cases e;exact⟨_,_,_,dm.nt⟩,λH3 o3 B3=>?_⟩;have cu:Off (h::fp) D H3:=λc u nc ec=>o3 c u (λz=>nc (by rw[Zv.mp z];exact Zx)) ec;have an:=s.off B.ye cu X0 af;have cp:=y7 B.ye cu a4;obtain⟨tc,cn,d6,dk⟩:=id an.ch;have tk:g.length<tc.length:=by lia
  have pk:g.length<l.length:=by lia
  have co:=dk g.length _ _ (ZD tk)<|ZD pk;have ai:Ko (tc.map V.ref) ((g.length:Nat):Int)=some (.ref tc[g.length]):=yE (by rw[ZF,ZD tk];rfl);have dl:pY (((g.length:Nat):Int)+1):=by
   have:g.length=0\/g.length=1\/g.length=2:=by lia
   unfold pY;lia
  refine⟨_,rfl,_,rfl,_,rfl,Y,_,_,_,rfl,rfl,yj.of cn,ai,_,_,_,_,rfl,rfl,xj.of co,rfl,_,rfl,_,rfl,Y,_,_,_,rfl,rfl,yj.of cn,ai,_,_,_,_,rfl,rfl,xj.of co,rfl,_,rfl,_,_,rfl,rfl,e,ke,X,A,l[g.length].1,l[g.length].2,_,rfl,an.he,an.fe,p4,sup,al _<|Yt pk,dl,λe2 b5 H4 s4 b7 ay am=>zQ ?_⟩;have B4:=B3.same s4;have c7:=an.same s4;have bd:=s4 _ _ cp;obtain⟨cf,db⟩:=B4.ob;have lk:∀k<3,(ED<|Lb ((k:Nat):Int)).length<=5/\((k:Nat):Int).natAbs.log2<1920:=by decide+kernel
  have lk:=lk g.length hi;have c6:("change":Str).length=6:=by decide+kernel
  refine⟨_,rfl,.inl ⟨rfl,_,yj.of bd⟩,_,rfl,b,cf,_,rfl,db,rfl,_,rfl,_,_,_,rfl,rfl,zx<|by decide+kernel,Kr _ hi,_,_,rfl,rfl,zx (by show 4+1<=16777216;decide),_,rfl,_,rfl,_,rfl,lk.2,_,_,rfl,rfl,zx<|by lia,?_⟩;show vU P w K aC aD [V.ref b,V.str<|CU g.length,V.ref e2,V.str<|DE g.length] H4 _ _;have dj:(UX J (CU g.length)<|some C).length<1000:=by
   have e:=j0 (hs:=J) (x:=CU g.length) (o:=some C);have:=congrArg List.length e;rw[Zu]at this;rw[this];have:=R.hl
   split
   .rw[Zu];lia
   .rw[ZE,Zu];show _+1<1000;lia
  refine Fk B4 gw.vw dj (by rw[xH,ZS rfl]:UR (UX J (CU g.length)<|some C) (CU g.length)=some (some C)) ay (λq=>dX B3 b7<|Zw _ q) am (FU _ hi) (by lia) λS3 n H5 g5 v5 o5 B5=>?_;have as:=c7.off B4.ye o5 X0 af;have Z:=y7 B4.ye o5 bd;have ec:chg X l g.length=U9 X (CD l[g.length].1) (Nv l[g.length].2 (((g.length:Nat):Int)+1)):=by
   unfold chg;rw[ZD pk]
  have gt:=gw.trans g5;rw[show 18*g.length+18=18*(g.length+1) by lia]at gt;have dn:∀c∈[O],∀xs,¬Rd H5 c (.tup xs):=λc hc xs z=>by
   rw[Zv.mp hc]at z
   rcases z with z|⟨u,z⟩<;>(rw[Z]at z;cases z)
  have B6:xx P w K aC aD (upd H5 O<|.lst<|g.map V.str++[V.str n]) b a h fp S3 (UX (UX J (CU g.length)<|some C) (CU g.length)<|some n):=by
   obtain⟨dx,b2⟩:=B5.ob;have dr:b≠O:=λz=>by rw[z,Z]at b2;cases b2
   exact⟨⟨dx,by rw[zH dr];exact b2⟩,B5.sh.off dn yB<|λc hc z=>c0<|Zv.mp z▸Zw _ hc,by rw[zH du];exact B5.hd,B5.nb,B5.nh,B5.ok,B5.nd,B5.hv⟩
  refine⟨O,_,_,rfl,rfl,Z,yV (by rw[Zu];lia),_,_,rfl,S3,_,g++[n],B6,gt,by rw[ZE];rfl,(R.grow g5 B.ok).snoc hi<|by rwa[ec],as.upd Z dq dv ds,?_⟩;rw[zB,ZH];rfl
 .rintro σ D ⟨o7,o8,rfl,S2,b4,g,B,gw,ul,R,s,a4⟩;have cz:v9 S2 C X A l g:=⟨p4,pe,ul,al,cw,R.vF,R.sd⟩;have ck:b4.length<=4:=by rw[R.hl,ul];exact ZB _
  have cq:∀k<3,UR b4 (CU k)=some g[k]?:=λk hk=>R.ls k (by lia);have gl:=gw.len;have b8:∀{z:Str} {ks:List Nat},(∀k∈ks,k<3)->(z="first"\/z="far")->z∉ks.map DE:=λ{z ks} k3 hz=>MU λj hj e=>by
   obtain⟨d1,d2,d3,d4,d5⟩:=Fa j<|k3 j hj
   rcases hz with rfl|rfl
   .exact d1 e
   .exact d3 e
  refine⟨_,rfl,zQ ⟨_,rfl,zQ<|zQ ⟨λa8 H'=>∃on d wd L J G kd,a8=[some<|.ref sa,some<|.ref pa,some<|.ref b,some<|.ref e,some<|.str C,some<|.ref Y,some<|.ref O,o7,o8,some<|.str on,some<|.ref d,some<|.str wd,none,none,none,none]/\L.length<=100/\Mid P w K aC aD H H' b a h fp L J C on X G A l g wd Y O d kd,?_,?_⟩⟩⟩
  .refine⟨_,rfl,sa,ns,2,rfl,s.s0.seq ab,by decide,λc=>⟨_,_,rfl,rfl,(by decide:(0:Int)<2),rfl,_,rfl,U0 (λ_=>?_)<|λ_=>?_⟩⟩
   .have j3:3<A.length:=by lia
    have ap:Ko (A.map λp=>V.str<|CD p) 3=some (.str<|CD A[3]):=yE (j:=3) (by rw[ZF,ZD j3];rfl);refine⟨_,rfl,_,rfl,pa,_,_,_,rfl,rfl,yj.of s.pa,ap,_,rfl,sa,ns,9,rfl,s.s0.seq ab,by decide,λc9=>⟨_,_,rfl,rfl,.inl ⟨by decide,by decide⟩,_,_,rfl,rfl,e,ke,X,A,A[3],_,9,rfl,s.he,s.fe,p4,sup,Yt j3,by unfold pY;lia,λe2 b5 H3 s3 b7 ay am=>zQ ?_⟩⟩;have B3:=B.same s3;obtain⟨c3,da⟩:=B3.ob;refine⟨_,rfl,b,c3,_,rfl,da,rfl,_,rfl,e2,b5,rfl,.inl ay,λd3 ct=>nw ct λH4 u4 h4=>?_⟩;show vU P w K aC aD [V.ref b,V.str "main",V.ref d3,V.str "far"] H4 _ _;have s4:=s3.trans u4;have cg:e2∉h::fp:=dX B b7;refine Fk (B3.same u4) gw.vw (by lia) R.lm h4 (λq=>dX B3 ct<|Zw _ q) (am.same u4) (by decide+kernel) (by lia) λS4 n H5 g5 v5 o5 B5=>zQ<|zQ ?_;have n4:=(B3.same u4).ye;have as:=(s.same s4).off n4 o5 X0 af;have d0:=g5.len;refine⟨n,e2,"joined",S4,_,_,b5,rfl,by lia,B5,g5.vw,as.s0,as.ch,y7 n4 o5<|s4 _ _ a4,o5 _ _ cg<|u4 _ _ ay,(am.same u4).off n4 o5,cg,sup.set (Yt j3) (XD (by unfold pY;lia)),λks k _ x hx=>?_,λks k3=>⟨λx=>x=n\/x=C,[C],"far",?_,.inl rfl,.step v5 .root,v5,.inr ⟨by decide+kernel,rfl⟩⟩,by rw[xH,ZS rfl],λk hk=>by rw[xH,ZM<|Eh (GB k hk).2.1];exact cq k hk,by rw[FB R.lm];exact ck,cz.grow g5 B.ok⟩
    .unfold U9;refine ZM λz=>?_;have xm:=ZN hx;have:=Fn (p4.lb _<|al x xm) (p4.lb _<|Yt j3) z;have x3:A[3]∈A.take 3:=by rw[<-this,<-pm];exact Ul xm
     obtain⟨jj,de,ci⟩:=Z8.mp x3;rw[Ux]at ci;rw[Z3]at de;have:=(YQ cv).mp ci;lia
    .rintro x (rfl|rfl)
     .exact⟨_,_,_,v5,λq hq=>.inr<|Zv.mp hq,b8 k3<|.inr rfl⟩
     .exact⟨_,_,_,g5.vf B.ok R.vF,λq hq=>(nomatch hq),b8 k3<|.inl rfl⟩
   .refine⟨C,e,"moved",S2,b4,X,ke,rfl,by lia,B,gw.vw,s.s0,s.ch,a4,s.he,s.fe,af,sup,λks k _ x _=>rfl,λks k3=>⟨λx=>x=C,[],"first",?_,rfl,.root,R.vF,.inl ⟨rfl,rfl⟩⟩,R.lm,cq,ck,cz⟩;rintro x rfl;exact⟨_,_,_,R.vF,λq hq=>(nomatch hq),b8 k3<|.inl rfl⟩
  .rintro σ H3 ⟨on,d,wd,S3,a0,G,kd,rfl,sl,M⟩;refine⟨rfl,λol qs H4 s4 b3 q6 hq=>zQ ?_⟩;have M4:=M.same X0 s4;have a7:tZ H4 ol qs:=⟨b3,q6,hq⟩;refine⟨_,rfl,sa,ns,2,rfl,M4.s0.seq ab,by decide,λc=>⟨_,_,rfl,rfl,⟨by decide,by decide⟩,zQ ?_⟩⟩;obtain⟨r1,df,a1⟩:=a7.at (c / 2);obtain⟨r2,dh,a2⟩:=a7.at (c / 2 / 6);obtain⟨r3,di,a3⟩:=a7.at (c / 2 / 36);refine⟨_,rfl,_,rfl,_,_,rfl,rfl,(by decide:(0:Int)<6),ol,_,_,_,rfl,rfl,yj.of b3,a1,_,rfl,_,rfl,_,_,rfl,rfl,⟨by decide,by decide⟩,_,_,rfl,rfl,(by decide:(0:Int)<6),ol,_,_,_,rfl,rfl,yj.of b3,a2,UT 2,λtp dp=>nw dp λH5 u5 h5=>⟨tp,rfl,⟨_,xj.of h5⟩,?_⟩⟩;refine uC (K:=K) (a:=tp) (xs:=[.ref r1,.ref r2]) (λi σ D=>∃a6,σ=[some<|.ref sa,some<|.ref pa,some<|.ref b,some<|.ref e,some<|.str C,some<|.ref Y,some<|.ref O,o7,o8,some<|.str on,some<|.ref d,some<|.str wd,some<|.ref ol,some<|.int<|c / 2,a6,none]/\∃L,L.length<=100+54*i/\Mid P w K aC aD H D b a h fp L a0 C on X G A l g wd Y O d kd/\tZ D ol qs/\D tp=some (.tup [.ref r1,.ref r2])) ⟨none,rfl,S3,sl,M4.same X0 u5,a7.same u5,h5⟩ ?_ ?_ ?_
   .rintro i σ D hi ⟨_,_,L,_,_,_,ht⟩;exact xj.of ht
   .rintro i y σ D hy ⟨a6,rfl,L,cc,M2,ah,ht⟩;have i2:i<2:=(ZO.mp hy).1;obtain⟨r,I,rfl⟩:∃r∈qs,y=.ref r:=by
     have:y∈[V.ref r1,V.ref r2]:=ZN hy
     rcases ZI.mp this with z|z
     .exact⟨r1,df,z⟩
     .exact⟨r2,dh,Zv.mp z⟩
    obtain⟨ks,b6,k3,hk⟩:=ah.2.2 r I;obtain⟨_,cx,z',_,_,_,cd,_⟩:=M2.js []<|λk hk=>(nomatch hk);refine⟨_,rfl,_,rfl,_,rfl,_,rfl,_,rfl,_,rfl,b,a,h,O,Y,d,r,fp,L,a0,C,on,X,G,A,l,g,ks,kd,cx,z',rfl,M2.bk,M2.vw,by lia,M2.sd,cd,M2.sup,M2.yet ks,b6,k3,M2.hv,M2.ch,M2.hd,M2.ff,hk,λS5 H6 g6 o6 B6=>⟨_,rfl,X4 ⟨_,rfl,S5,?_,M2.grow X0 g6 o6 B6,ah.off M2.bk.ye o6,Ir M2.bk.ye o6 ht⟩⟩⟩;have:=g6.len;lia
   .rintro σ D ⟨a6,rfl,L,cc,M2,ah,ht⟩;have cc:L.length<=208:=cc;refine⟨_,rfl,_,_,rfl,rfl,⟨by decide,by decide⟩,_,_,rfl,rfl,(by decide:(0:Int)<2),rfl,zQ ?_⟩;generalize decide (V.int (c / 2 / 216 % 2)=V.int 0)=ak;obtain⟨_,cx,z',_,_,_,cd,_⟩:=M2.js []<|λk hk=>(nomatch hk);refine⟨λa8 H'=>a8=[some<|.ref sa,some<|.ref pa,some<|.ref b,some<|.ref e,some<|.str C,some<|.ref Y,some<|.ref O,o7,o8,some<|.str on,some<|.ref d,some<|.str wd,some<|.ref ol,some<|.int<|c / 2,a6,some<|.bl ak]/\H'=D,⟨_,rfl,ak,rfl,?_⟩,?_⟩
    .cases ak with
     |false=>exact UQ<|UQ ⟨rfl,rfl⟩
     |true =>
      obtain⟨dx,hb⟩:=M2.bk.ob;obtain⟨en,dc,c4⟩:=ZA.mp<|jE cd.note;have so:EL (.str on)=true:=by rw[<-c4];exact XM (M2.bk.ok.nm dc).ok<|Yf _
      refine UV ⟨_,rfl,b,dx,_,rfl,hb,rfl,b,a,h,fp,L,a0,"main",some on,rfl,M2.bk,M2.lm,_,rfl,.str on,.str on,rfl,rfl,so,so,_,rfl,?_⟩;rw[show EB (.str on) (.str on)=true from beq_self_eq_true on];exact X4 ⟨rfl,rfl⟩
    .rintro a8 H' ⟨rfl,rfl⟩;obtain⟨ks,b6,k3,hk⟩:=ah.2.2 r3 di;refine⟨_,rfl,_,rfl,_,rfl,_,rfl,_,rfl,_,rfl,_,rfl,_,_,rfl,rfl,⟨by decide,by decide⟩,_,_,rfl,rfl,(by decide:(0:Int)<6),ol,_,_,_,rfl,rfl,yj.of ah.1,a3,b,a,h,Y,d,r3,fp,L,a0,C,on,X,G,A,l,g,ks,kd,wd,ak,rfl,M2.bk,M2.vw,by lia,M2.hl,M2.sd,M2.lm,M2.ls,M2.js ks k3,M2.sup,M2.yet ks,b6,k3,M2.ch,M2.hd,M2.ff,hk,kQ⟩
end CA
end
end An27
/-! the evaluating tactics look for a twin of each of these constants under these names;names that are taken keep them from laying one,for the twins' equations make the compiled file too large -/
structure PySem.W.Fast:Prop where(tw7419396988860864264 tw6667043982438780766 tw14785383915240397739 tw5138903613806342972 tw17193884384803667716 tw8505583807187305490 tw6843562708667597974 tw11398089238342974485 tw8499883457944469226 tw6475654064437410934 tw12294693157487864775 tw11256334263900732633 tw1596403116464457780 tw6416476220873394881 tw5692837383569810037 tw5765233272517069061 tw7453653878577111839 tw4876795254910849613 tw10697058571693907026 tw207648662590642427 tw11760920804409934304 tw6693843737410306947 tw15311792842815064234 tw15440207067275630726 tw3645397507013081528 tw13200566482714414635 tw13093819546280369245 tw10404987521613879227 tw2671012954570392053 tw6573810684993944928 tw6163190683666157202 tw4408055726692970631 tw17327516639291946315 tw2494549544900752213 tw14882507665707555334 tw12672037631215438506 tw3244371681972924659 tw8328765849536881088 tw9805308478416749686 tw14611873433093586433 tw262194211799239144 tw10042160127267801607 tw10813181367088606377 tw111106160135973907 tw10937417758230025759 tw4056277371628207666 tw466955177702042807 tw5494843387889838743 tw16183057224839170949 tw13244021315246377317 tw676890804747507094 tw9509529505028779528 tw10914913066171248017 tw8407318838730392107 tw8870626069630237986 tw2227603098451323031 tw18350015047396260962 tw15372888677756829546 tw12731878906935883336 tw16139057612056278044 tw5915379092756020419 tw294325136517798218 tw4984301089890650887 tw10743705588008067992 tw12568855386145431734 tw8684931645596979093 tw2932104850517244685 tw13427966211065125213 tw1912655359736503399 tw16510354630852420108 tw6035078039684315496 tw1268229874014762615 tw16643055896111198974 tw11018374865548481895 tw7653937391207806441 tw10830840041459934935 tw15746238873706373967 tw14985345644871627086 tw17419005484739827822 tw9741170530466168073 tw14109735946948597115 tw15694203629250448897 tw4932352921339846798 tw16365667682885509309 tw14244986195115196483 tw738490761426997569 tw6282208332312109877 tw18080222698779515988 tw2048649252616611604 tw7602704939662602204 tw9137692380025621751 tw11423606093595438233 tw1192020526383313277 tw18358124218334754843 tw15878900636171789519 tw4486273541567195512 tw10366385576042839340 tw856694447064983956 tw8512045528851121879 tw7420021559273731800 tw16211170068232037591 tw5235438842151502825 tw8891436032028296235 tw7277441733665432853 tw18191311652756491066 tw5995521836112929428 tw18166339843128517364 tw4073291564353003828 tw13910260495319023880 tw15261996708547781351 tw14069863034199034609 tw6365126363608131727 tw18198396251404190775 tw14939030513246285439 tw5797009073766163161 tw5537047752149669354 tw8343489189852140636 tw9626606298107402859 tw8067274237550229364 tw9154031979096592128 tw4915948415168024381 tw9111823184441756651 tw2431963954147335302 tw5352347290339546059 tw16307348879621877245 tw16520021375650445052 tw558529313199201058 tw5903360656542577091 tw4166019115644267691 tw9143074994274143601 tw11938716300689163356 tw17193666058719805897 tw3728389095779876313 tw11840160965849668267 tw10482556581022059810 tw10068087118408663343 tw1737109752085315369 tw8954121940430729518 tw322561883361293523 tw13165203534580154429 tw9504209856334900654 tw12265757663715629524 tw3776318199265091862 tw507548331515402299 tw13978250570363198208 tw9877274970300828588 tw16732536429011273014 tw12792991836626612689 tw3632502168227178984 tw2786594422549840581 tw16857488174801920935 tw13948294578486265470 tw6069891476143803468 tw15103896395946223161 tw6920826269768338102 tw2423296946104576267 tw16004264132234623671 tw17033124678807395567 tw2572896417877685014 tw14144094419599290337 tw1429837100933619765 tw1148619204871498147 tw17825937873095603767 tw6930459750266860865 tw5971392775483181247 tw12480469143032634570 tw14119174395455757709 tw9504840372326634538 tw1844795314740229826 tw15435450785436373700 tw4874739068915100026 tw12886612896571554125 tw16282222184701321539 tw5032095423771910846 tw13843676438095849809 tw7545784763951271785 tw5926659408048339103 tw14018916312692189224 tw12925135697906626580 tw5460176770677142944 tw11010777463480478134 tw10115466647909233816 tw2442055476654460852 tw15662096265577972524 tw3021626776314070254 tw692448307673442499 tw10382490957218117151 tw2472949309777889122 tw2035000277132383202 tw7117260032919654811 tw3752732007185198237 tw15203027879413759003 tw1350598229894920260 tw12270663043983436958 tw14290416448043838329 tw4012962965069745532 tw11468273011998781356 tw10155051216903377891 tw14573688173341330977 tw16715618018135296905 tw13084786814866185141 tw11513059116094324886 tw13399216015803729686 tw9079405942976618409 tw398965464874980743 tw903048124752960139 tw4295642427713026612 tw4927273769771705359 tw3948247129696118050 tw3760923974342180852 tw7304374978621845334 tw9457716752957572686 tw17427523529024724697 tw5413202602798815323 tw11511221957023892608 tw11144084668453646195 tw9961730320789138202 tw15953348631570065355 tw10374359883819280278 tw6849458978375604514 tw4529448814797762730 tw7671747856326112278 tw18239022335579934994 tw8041515180352751680 tw14331180474937926773 tw12172338918315109814 tw3219281799952837789 tw9385132543962771659 tw9134942081158980954 tw13689748901859247075 tw12713520539681610770 tw4010010363684730949 tw13958062357415592779 tw102585686076114934 tw14979458717324033777 tw4082138400808534926 tw17155022441142999022 tw11001915246560760283 tw2196384351906729432 tw6527970771185948047 tw12319266157500894214 tw10146312851073881300 tw16200300960315727826 tw17681565529123069157 tw12349079098757086608 tw16228869165161347095 tw14253473163808431632 tw5106311636268729367 tw3393884527648607069 tw6655634783392293523 tw17870790342047157403 tw15172480709441500460 tw7782605725379076130 tw13960743123558447399 tw16348745699287971702 tw5759482783290370420 tw7503590104331624510 tw14204473031670748617 tw8945915004975677544 tw13338030446156167606 tw6592796497313454390 tw9802888562114411853 tw8070073656829279403 tw11353079616591637960 tw10639748761669433128 tw13771738197057336921 tw4432016492026116999 tw972701369479094478 tw13993821678659688593 tw3455513757656229469 tw6647254402238127871 tw11373837849257010953 tw8430110209638932846 tw18037875283123933068 tw17567853202089087528 tw7750629946540078963 tw110654105974525597 tw16009629830387563212 tw7199549386576748397 tw4908427628344061410 tw3856580391218003394 tw9432515742645840198 tw4801835208288412027 tw6515366034673305961 tw16360339430911514688 tw4131179334648771925 tw3802419613106183806 tw10027831493291644188 tw10265265010045640063 tw1242816706830993746 tw1876908077321226593 tw11029254912519079291 tw13359653905370747990 tw16715934458051850980 tw5816956533751608419 tw7642181992513370875 tw9605395561399155636 tw7299396351963053125 tw14742960070870518774 tw9248057023705531320 tw536556151895340453 tw13640078863505127197 tw14983316461411907490 tw241876106090063397 tw3697166745752588361 tw8823820347785857323 tw225635601761048271 tw5433548915367454531 tw5968002017150472945 tw5787288931919006266 tw944772872829880552 tw11072610134468770597 tw17729919913319778795 tw14036500276980222816 tw4867975921085297029 tw10165795883496137616 tw17110535476741711709 tw11168444234318719822 tw11781248973139082068 tw1007078259486961744 tw16681219181180217361 tw4554613089403036094 tw2470322528369627712 tw14880532199753792290 tw17819511843968909816 tw15199434592997034480 tw3568851367356600103 tw14687705002125500568 tw17019039430260987631 tw12069488316037438166 tw7505014712680497732 tw5833659511046718456 tw10006229645802709939 tw10022917949736929663 tw4443771090308235361 tw2137276760508948994 tw14740919648012081099 tw14815105104659211991 tw14094082867548521836 tw8705386363951419639 tw3989470955168077245 tw4556567233534766316 tw9152016529942732319 tw17057740271671434806 tw12064223823121064479 tw4246769236418882107 tw7201605479513404906 tw17683268317691147080 tw9468752919866850676 tw712786968119579318 tw1044523113861138325 tw15337767881931673565 tw15528350553993767804 tw8434612681782073979 tw12897410584078933933 tw5629666091782304503 tw13206459663082956321 tw6039841080173952805 tw3102659251784469466 tw2448520545540829842 tw4856491839740564281 tw3788311989693120983 tw17363368931121056807 tw8145300479981866649 tw4012079663171581187 tw8251034603358129058 tw7445131289089733144 tw6905682823195447317 tw9070252036720684137 tw12640513629821503805 tw1162350300372089660 tw503879603368374044 tw17937412553330734778 tw1850227726272230430 tw10031942386678595927 tw11569148908751418555 tw11249452314595642741 tw13463910479223333956 tw9992351943986280627 tw7505612535340608753 tw6461941598434854898 tw12576200931330347221 tw18288070727048195062 tw15039264461468675795 tw13527155578415392265 tw184702861590069979 tw10675721752956508478 tw6205214293349129871 tw16938848020050970808 tw8989787081257293634 tw10957219473267609689 tw2279916143813200282 tw10466996070634551924 tw4074431696834262744 tw16196984578059046378 tw17329788583164788596 tw2614792738375428295 tw9837071830442019543 tw17719301873384699257 tw13463906056394777871 tw4167405301798034086 tw8945709996218846820 tw13612689620487384209 tw28192298452870827 tw18006129852904762604 tw16156433790567080616 tw1450195241629185548 tw9897443729441517281 tw18176799571226334097 tw779995133360095607 tw4486883687694153017 tw4407507262545126930 tw6765273324768412072 tw10442855119075061002 tw15656401171600355641 tw7279258280021037579 tw5014306372092457216 tw12503069823355072228 tw16257488487364489788 tw3809253372178470731 tw2476327725614351468 tw1023507275651463564 tw3619171986265176494 tw6481442015383142843 tw358446788609688236 tw18341277558262665687 tw3964947367195408239 tw17531246120316581758 tw4423151645271823866 tw10759504272077887238 tw8982702002215491254 tw18343182593296178885 tw1339853885923517137 tw1499705220138641849 tw14537146875881884398 tw5717616161775625616 tw17986445682462388520 tw14320117721165776531 tw4646518546008484794 tw16683612606955839920 tw5782066772086729119 tw13562233325643593423 tw9924607099462642725 tw2346905159748041704 tw571244041431612629 tw722194342717464175 tw3836499533547453449 tw4293855180849843319 tw15364618705386736682 tw14140827279528796112 tw10445275974216581355 tw427382107031360094 tw1115557231869686739 tw15865935658742136634 tw148309594977656330 tw4610493171361049767 tw8792098242116971604 tw6635257972477217085 tw4443743263764713256 tw6667973117235009927 tw5988036575258450685 tw16320647742348276822 tw6268474801337729519 tw10363733702831970820 tw13364870198644235405 tw16332983281973249995 tw14957080793786309519 tw15872106333207349727 tw17074405360092741433 tw11153017424504301155 tw4991965004359005869 tw6513615192800137417 tw10026202502534867055 tw2891162130651858129 tw2542718960417367936 tw10242050243243616345 tw11781497572911963702 tw10527332079791019888 tw6228584722682013133 tw9854913721717845989 tw8843320949420184758 tw12054183552209742235 tw12998026428073998010 tw18162583502743989867 tw4826378218215987387 tw17907902630150832662 tw6561193816905433302 tw7641924750317411929 tw2304768546892243465 tw14562490093934441392 tw3076208067740562420 tw14882413159264464525 tw16582834888259085030 tw17458473888587670215 tw18280399373208852599 tw7336141600838308104 tw9160240889186580799 tw7834933047533322713 tw2362284988045514355 tw13189377277509667059 tw13225767475824936852 tw13644081288590775814 tw9993711891084412661 tw12664858196029080607 tw704219630641638313 tw5282701375447629780 tw14758532280730613898 tw5858713984574935622 tw8630515469279364640 tw3012821717722501945 tw3715556792132297680 tw201251392555745315 tw11446129867800792155 tw2226648174089798246 tw7199600023321545323 tw17017772997909679582:True)
namespace An27
open PySem L2 An
theorem mL {P:D3}{w:D6}{K:CB}{a:D1}{b f c g d i:Tok}{n:Nat}(h:K.lookup a=some { cls:=.type "dict",data:=.dict #[⟨Ly w.params "leaf",.str "leaf" b,.str "L" f⟩,⟨Ly w.params "tree",.str "tree" c,.str "T" g⟩,⟨Ly w.params "note",.str "note" d,.str "N" i⟩] n }) :
  KD P w K a xE:=by
 intro j X;refine⟨[(D8 "leaf",.str "L" f),(D8 "tree",.str "T" g),(D8 "note",.str "N" i)],.cons ⟨rfl,f,rfl⟩<|.cons ⟨rfl,g,rfl⟩<|.cons ⟨rfl,i,rfl⟩ .nil,_,_,n,X a _ h,⟨rfl,rfl,rfl⟩,rfl,?_,?_,?_⟩
 .intro e he;have he:e∈[(⟨Ly w.params "leaf",.str "leaf" b,.str "L" f⟩:LV),⟨Ly w.params "tree",.str "tree" c,.str "T" g⟩,⟨Ly w.params "note",.str "note" d,.str "N" i⟩]:=by simpa using he
  rcases ZI.mp he with z|z
  .subst z;exact⟨D8 "leaf",xY _ b,rfl⟩
  .rcases ZI.mp z with z|z
   .subst z;exact⟨D8 "tree",xY _ c,rfl⟩
   .rw[Zv.mp z];exact⟨D8 "note",xY _ d,rfl⟩
 .exact .cons (xY _ b) rfl (.cons (xY _ c) rfl<|.cons (xY _ d) rfl .nil)
 .show([D8 "leaf",D8 "tree",D8 "note"]:List Key).Nodup
  decide+kernel
def GF (K:CB)(x:Str)(st:Er)(f:D1):Prop:=Ek K Ed x=some (some<|.ref f)/\∃(e:D2) (g c:Option D1) (h:Array Dc) (kV d pm b ct:D2),K.lookup f=some ⟨e,g,.func<|ER x x (xV st) (xJ st) (zF st) .none kV d pm c b ct,h⟩/\Lo K b x=true/\EE K (.ref f)=true
def MF (K:CB)(C:D1)(x q:Str)(st:Er)(f:D1):Prop:=Ep K (.ref C) x=some (some<|.ref f)/\Mf K (.ref f)=true/\∃(e:D2) (g c:Option D1) (h:Array Dc) (kV d pm b ct:D2),K.lookup f=some ⟨e,g,.func<|ER x q (xV st) (xJ st) (zF st) .none kV d pm c b ct,h⟩/\Lo K b q=true/\EE K (.ref f)=true
section
variable {P:D3}{w:D6}{K:CB}{h:Ej}{mg:Str->Dc}{k:Nat}{x q:Str}{st:Er}{f C:D1}{ps:Da}{sp:Sp}{oc:D2}{od an:Option D1}{sl:Array Dc}{kV dc pm cd ct:D2}
theorem GF.mk (a:Ek K Ed x=some (some<|.ref f))(l:K.lookup f=some ⟨oc,od,.func<|ER x x (xV st) (xJ st) (zF st) .none kV dc pm an cd ct,sl⟩)(c:Lo K cd x=true)(k:EE K (.ref f)=true):GF K x st f:=⟨a,_,_,_,_,_,_,_,_,_,l,c,k⟩
theorem MF.mk (a:Ep K (.ref C) x=some (some<|.ref f))(i:Mf K (.ref f)=true)(l:K.lookup f=some ⟨oc,od,.func<|ER x q (xV st) (xJ st) (zF st) .none kV dc pm an cd ct,sl⟩)(c:Lo K cd q=true)(k:EE K (.ref f)=true):MF K C x q st f:=⟨a,i,_,_,_,_,_,_,_,_,_,l,c,k⟩
abbrev BA (x q:Str)(st:Er)(ps:Da):Prop:=∀(kV doc pm:D2) (an:Option D1) (cdv ct:D2) (us:Db),us.length=ps.length->bindArgs (ER x q (xV st) (xJ st) (zF st) .none kV doc pm an cdv ct) ⟨us,[]⟩=E7 (ps.zip us)
abbrev BX (x q:Str)(st:Er)(ps:Da)(kV doc pm:D2)(an:Option D1)(cdv ct:D2)(us:Db):Prop:=bindArgs (ER x q (xV st) (xJ st) (zF st) .none kV doc pm an cdv ct) ⟨us,[]⟩=E7 (ps.zip us)
theorem ba0 (h:∀kV i j an c' ct,BX x q st ps kV i j an c' ct [])(l:ps.length=0):BA x q st ps:=λkV i j an c' ct b z=>match b,(z.trans l) with|[],_=>h kV i j an c' ct
theorem lC9{f:Db}{n:Nat}(z:f.length=n+1):∃a t,f=a::t/\t.length=n:=by cases f with|nil=>cases z|cons a t=>exact⟨a,t,rfl,Nat.succ.inj z⟩
theorem WB (h:∀kV i j an c' ct a,BX x q st ps kV i j an c' ct [a])(l:ps.length=1):BA x q st ps:=by intro kV i j an c' ct f z;obtain⟨_,f,rfl,m⟩:=lC9 (z.trans l);cases f;exact h ..;cases m
theorem WC (h:∀kV i j an c' ct a b,BX x q st ps kV i j an c' ct [a,b])(l:ps.length=2):BA x q st ps:=by intro kV i j an c' ct f z;obtain⟨_,f,rfl,m⟩:=lC9 (z.trans l);obtain⟨_,f,rfl,n⟩:=lC9 m;cases f;exact h ..;cases n
theorem WD (h:∀kV i j an c' ct a b c,BX x q st ps kV i j an c' ct [a,b,c])(l:ps.length=3):BA x q st ps:=by intro kV i j an c' ct f z;obtain⟨_,f,rfl,m⟩:=lC9 (z.trans l);obtain⟨_,f,rfl,n⟩:=lC9 m;obtain⟨_,f,rfl,o⟩:=lC9 n;cases f;exact h ..;cases o
theorem WE (h:∀kV i j an c' ct a b c d,BX x q st ps kV i j an c' ct [a,b,c,d])(l:ps.length=4):BA x q st ps:=by intro kV i j an c' ct f z;obtain⟨_,f,rfl,m⟩:=lC9 (z.trans l);obtain⟨_,f,rfl,n⟩:=lC9 m;obtain⟨_,f,rfl,o⟩:=lC9 n;obtain⟨_,f,rfl,p⟩:=lC9 o;cases f;exact h ..;cases p
theorem WF (h:∀kV i j an c' ct a b c d e,BX x q st ps kV i j an c' ct [a,b,c,d,e])(l:ps.length=5):BA x q st ps:=by intro kV i j an c' ct f z;obtain⟨_,f,rfl,m⟩:=lC9 (z.trans l);obtain⟨_,f,rfl,n⟩:=lC9 m;obtain⟨_,f,rfl,o⟩:=lC9 n;obtain⟨_,f,rfl,p⟩:=lC9 o;obtain⟨_,f,rfl,r⟩:=lC9 p;cases f;exact h ..;cases r
theorem WG (h:∀kV i j an c' ct a b c d e f,BX x q st ps kV i j an c' ct [a,b,c,d,e,f])(l:ps.length=6):BA x q st ps:=λkV i j an c' ct g z=>match g,(z.trans l) with|[a,b,c,d,e,f],_=>h kV i j an c' ct a b c d e f
theorem GF.cal (X:K.In h)(G:h.Ns Ed mg)(a:GF K x st f)(b:Ej)(g:∀fd,yc K x x st f fd->mg x=some (.ref f)->wN K fd ps []->zj P w K mg b CG k f fd ps sp)(e:BA x x st ps:=by first|exact WB (λ_ _ _ _ _ _ _=>rfl) rfl|exact WC (λ_ _ _ _ _ _ _ _=>rfl) rfl|exact WD (λ_ _ _ _ _ _ _ _ _=>rfl) rfl|exact WE (λ_ _ _ _ _ _ _ _ _ _=>rfl) rfl|exact WF (λ_ _ _ _ _ _ _ _ _ _ _=>rfl) rfl|exact WG (λ_ _ _ _ _ _ _ _ _ _ _ _=>rfl) rfl):yo P w K mg b k x ps sp:=by
 obtain⟨d,_,_,_,_,_,_,_,_,_,l,c,kp⟩:=a;have F:=XB l c kp;exact yo.mk' F (g _ F (YE X G d)<|F.binds e) (YE X G d)<|F.binds e
theorem MF.met (a:MF K C x q st f)(b:Ej)(g:∀fd,yc K x q st f fd->zj P w K mg b CG k f fd ps sp)(e:BA x q st ps:=by first|exact WB (λ_ _ _ _ _ _ _=>rfl) rfl|exact WC (λ_ _ _ _ _ _ _ _=>rfl) rfl|exact WD (λ_ _ _ _ _ _ _ _ _=>rfl) rfl|exact WE (λ_ _ _ _ _ _ _ _ _ _=>rfl) rfl|exact WF (λ_ _ _ _ _ _ _ _ _ _ _=>rfl) rfl|exact WG (λ_ _ _ _ _ _ _ _ _ _ _ _=>rfl) rfl):Met P w K mg b C k x ps sp:=by
 obtain⟨d,i,_,_,_,_,_,_,_,_,_,l,c,kp⟩:=a;have F:=XB l c kp;exact⟨⟨_,_,g _ F,⟨d,i,kp⟩,F.binds e⟩⟩
theorem MF.mak (a:MF K C "__init__" q st f)(b:Ej)(m:LJ K C=true)(j:EE K (.ref C)=true)(h:mg x=some (.ref C))(g:∀fd,yc K "__init__" q st f fd->zj P w K mg b CG k f fd ps sp)(e:BA "__init__" q st ps:=by first|exact WB (λ_ _ _ _ _ _ _=>rfl) rfl|exact WC (λ_ _ _ _ _ _ _ _=>rfl) rfl|exact WD (λ_ _ _ _ _ _ _ _ _=>rfl) rfl|exact WE (λ_ _ _ _ _ _ _ _ _ _=>rfl) rfl|exact WF (λ_ _ _ _ _ _ _ _ _ _ _=>rfl) rfl|exact WG (λ_ _ _ _ _ _ _ _ _ _ _ _=>rfl) rfl):mJ P w K mg b C k x ps sp:=by
 obtain⟨d,i,_,_,_,_,_,_,_,_,_,l,c,kp⟩:=a;have F:=XB l c kp;exact⟨⟨_,_,g _ F,⟨m,d,i,j⟩,F.binds e,h⟩⟩
end
set_option maxHeartbeats 0 in
theorem all_mk {l:PySem.W.OpenLaw}{w:D6}{K:CB}{h:Ej}{mg:Str->Dc}{fa:D1}{t1 t2 t3 t4 t5 t6 t7:Tok}{aL aC c fP:D1}(X:K.In h)(G:h.Ns Ed mg)(h0:mg "law"=some (.ref fa))
  (N:Ek K Ed "len"=some none)
  (J:Ek K Ed "all"=some none)
  (P:Ek K Ed "ord"=some none)
  (DF:Ek K Ed "isinstance"=some none)
  (R:Ek K Ed "str"=some none)
  (Q:Ek K Ed "set"=some none)
  (DM:Ek K Ed "sorted"=some none)
  (DT:Ek K Ed "tuple"=some none)
  (DX:Ek K Ed "list"=some none)
  (O:Ek K Ed "max"=some none)
  (M:Ek K Ed "int"=some none)
  (DZ:Ek K Ed "bool"=some none)
  (DU:Ek K Ed "range"=some none)
  (DY:Ek K Ed "dict"=some none)
  (L:Ek K Ed "any"=some none)
  (DA:Ek K Ed "LONGEST_LINE"=some (some<|.int 20 t1))
  (Dx:Ek K Ed "LONGEST_LABEL"=some (some<|.int 8 t2))
  (Dz:Ek K Ed "MOST_PARENTS"=some (some<|.int 2 t3))
  (DJ:Ek K Ed "PERCENT"=some (some<|.int 37 t4))
  (DC:Ek K Ed "MOST_LABELS"=some (some<|.int 4 t7))
  (Dy:Ek K Ed "DIGEST_FACTOR"=some (some<|.int 31 t5))
  (DB:Ek K Ed "DIGEST_BOUND"=some (some<|.int 97 t6))
  (DD:Ek K Ed "parents_in"=some (some<|.ref fP))
  (DK:Ek K Ed "LETTERS"=some (some<|.ref aL))
  (DN:Ek K Ed "Annals"=some (some<|.ref c))
  (DV:Ek K Ed "Shelf"=some (some<|.ref aC))
  (B:Lm K c LR=true)
  (t:Lw K c=true)
  (D:L1 K c=true)
  (I:Ep K (.ref c) "__setattr__"=some (some<|.builtin "object.__setattr__"))
  (z:LJ K c=true)
  (x:EE K (.ref c)=true)
  (am:Ep K (.ref c) "shelf"=some none)
  (ap:Ep K (.ref c) "heads"=some none)
  (al:KD l.prog w K aL xE)
  (A:Lm K aC LR=true)
  (r:Lw K aC=true)
  (C:L1 K aC=true)
  (H:Ep K (.ref aC) "__setattr__"=some (some<|.builtin "object.__setattr__"))
  (y:LJ K aC=true)
  (u:EE K (.ref aC)=true)
  (as:Ep K (.ref aC) "thing_by_name"=some none)
  (ay:Ep K (.ref aC) "name_by_thing"=some none)
  (bd:Ep K (.ref aC) "next_numbers"=some none)
  (E:∀a∈kinds,∀b∈kinds,Ln K (.type a) (.type b)=some (a==b||(a=="bool"&&b=="int")))
  {f0 f1 f2 f3 f4 f5 f6 f7 f8 f9 fp fq fr ft fu fv fw fx fy fz ga gb gc gd ge gf gg gh gi gj gk gl gm gn go gp gq gr gs gt gu gv gw gx gy gz g0 g1 g2 g3 g4 g5 g6 g7 g8 g9 ha hb hc hd he hf hg hh hi hj hk hl hm hn ho hp hq hr hs ht hu hv hw hx hy hz:D1}
  (a0:MF K aC "__init__" "Shelf.__init__" AF.st f0)
  (a1:MF K c "__init__" "Annals.__init__" A4.st f1)
  (a2:GF K "is_label" Ad.st f2)
  (a3:GF K "is_key" Ay.st f3)
  (a4:MF K c "has_branch" "Annals.has_branch" AY.st f4)
  (a5:MF K aC "has" "Shelf.has" Az.st f5)
  (a6:GF K "need_name" AA.st f6)
  (a7:MF K aC "thing" "Shelf.thing" AB.st f7)
  (a8:GF K "names_form" AM.st f8)
  (a9:GF K "note_of" AR.st f9)
  (di:GF K "need_version_or_none" AV.st fp)
  (dj:MF K c "begin" "Annals.begin" A2.st fq)
  (dk:MF K c "need_branch" "Annals.need_branch" AZ.st fr)
  (dl:MF K c "head" "Annals.head" A0.st ft)
  (dm:GF K "is_path" AG.st fu)
  (dn:GF K "is_sign" Aa.st fv)
  (dp:GF K "is_line" Ab.st fw)
  (dq:GF K "is_lines" Ac.st fx)
  (dr:GF K "is_file" AI.st fy)
  (ds:GF K "folders_of" AH.st fz)
  (du:GF K "need_files" AL.st ga)
  (dv:GF K "is_leaf" Ai.st gb)
  (dx:GF K "is_row" Ae.st gc)
  (dy:GF K "is_rows" Ah.st gd)
  (dz:GF K "is_tree" Aj.st ge)
  (d0:GF K "is_parents" Ag.st gf)
  (d1:GF K "is_note" Ak.st gg)
  (d2:GF K "is_thing" Al.st gh)
  (d3:GF K "need_thing" Ao.st gi)
  (d4:MF K aC "need_form" "Shelf.need_form" AC.st gj)
  (d5:MF K aC "need_names" "Shelf.need_names" AD.st gk)
  (d6:GF K "letter_of" Ap.st gl)
  (d7:GF K "tree_parts" Aq.st gm)
  (d8:GF K "parts_of" Ar.st gn)
  (d9:GF K "counted" As.st go)
  (ea:GF K "spelled" Au.st gp)
  (eb:GF K "digest" Av.st gq)
  (ec:MF K aC "take" "Shelf.take" Ax.st gr)
  (ed:MF K aC "put" "Shelf.put" AE.st gs)
  (ee:GF K "put_rows" AJ.st gt)
  (ef:GF K "put_files" AK.st gu)
  (eg:GF K "noted" AW.st gv)
  (eh:MF K c "set_head" "Annals.set_head" A1.st gw)
  (ei:MF K c "keep" "Annals.keep" A3.st gx)
  (ej:GF K "_law_cell_at" Cr.st gy)
  (ek:GF K "_law_paths" Cu.st gz)
  (el:GF K "_law_lines" Cs.st g0)
  (em:GF K "_law_base" Cv.st g1)
  (en:GF K "_law_put" Ct.st g2)
  (eo:GF K "_law_orders" Cw.st g3)
  (ep:GF K "tree_of" AS.st g4)
  (er:GF K "need_root" AN.st g5)
  (es:GF K "files_beneath" AO.st g6)
  (et:GF K "files_of" AQ.st g7)
  (eu:GF K "files_at" AX.st g8)
  (ev:GF K "files_or_none" Ci.st g9)
  (ew:GF K "parents_of" AU.st ha)
  (ey:GF K "first_parent" Ch.st hb)
  (ez:GF K "joined_at" Ce.st hc)
  (e0:GF K "in_the_way" Cf.st hd)
  (e1:GF K "joined_files" Cg.st he)
  (e2:GF K "need_clean" Cn.st hf)
  (e3:GF K "words_of" AT.st hg)
  (e4:GF K "carried" Cq.st hh)
  (e5:MF K c "files" "Annals.files" A5.st hi)
  (e6:GF K "_law_by_carrying" Cy.st hj)
  (e7:GF K "parents_in" A6.st hk)
  (e8:GF K "add_found" A7.st hl)
  (e9:GF K "add_before" A8.st hm)
  (fb:GF K "found_before" Ca.st hn)
  (fc:GF K "is_before" Cc.st ho)
  (fe:GF K "has_all_of" Co.st hp)
  (ff:MF K aC "names" "Shelf.names" Aw.st hq)
  (fg:GF K "in_order" A9.st hr)
  (fh:GF K "all_before" Cb.st hs)
  (fi:GF K "meeting_of" Cd.st ht)
  (fj:GF K "first_meeting" Cj.st hu)
  (fk:GF K "base_of" Ck.st hv)
  (fl:GF K "joined_by_base" Cm.st hw)
  (fm:GF K "join_heads" Cp.st hx)
  (fn:GF K "_law_by_joining" Cz.st hy)
  (fo:GF K "law" CA.st hz) :
  ∃fd:D5,(∀(s:D7) (v:D2),BindsTo s fd ⟨[v],[]⟩ [("_law_script",v)])/\∀base:Ej,K.In base->base.Ns Ed mg->zj l.prog w K mg base CG 21 fa fd ["_law_script"] (rZ K):=by
 have T:Txt l.prog w K mg t1 t2 t3 t4 t5 t6 t7 aL aC c fP:=⟨Yp X G N,Yp X G J,Yp X G P,Yp X G DF,Yp X G R,Yp X G Q,Yp X G DM,Yp X G DT,Yp X G DX,Yp X G O,Yp X G M,Yp X G DZ,Yp X G DU,Yp X G DY,Yp X G L,YE X G DA,YE X G Dx,YE X G Dz,YE X G DJ,YE X G DC,YE X G Dy,YE X G DB,YE X G DD,YE X G DK,YE X G DN,YE X G DV,⟨B,t,D,I⟩,am,ap,al,⟨A,r,C,H⟩,as,ay,bd,E⟩;obtain⟨hL,oc,od,an,sl,kV,dc,pm,cd,ct,lL,cL,kL⟩:=fo;have e:=h0.symm.trans<|YE X G hL;cases e;refine⟨ER "law" "law" (xV CA.st) (xJ CA.st) (zF CA.st) .none kV dc pm an cd ct,λs v=>.of_eq rfl,λb _ _=>?_⟩;have C0:=a0.mak b y u T.lZ λ_ F=>AF.ok T F;have C1:=a1.mak b z x T.m9 λ_ F=>A4.ok T F C0;have C2:=a2.cal X G b λ_ F _ _=>Ad.ok T F;have C3:=a3.cal X G b λ_ F _ _=>Ay.ok T F;have C4:=a4.met (mg:=mg) b λ_ F=>AY.ok T F C3;have C5:=a5.met (mg:=mg) b λ_ F=>Az.ok T F C3;have C6:=a6.cal X G b λ_ F _ _=>AA.ok T F C5;have C7:=a7.met (mg:=mg) b λ_ F=>AB.ok T F C6;have C8:=a8.cal X G b λ_ F _ _=>AM.ok T F C5 C7;have q:=a9.cal X G b λ_ F _ _=>AR.ok T F C8 C7;have bg:=di.cal X G b λ_ F _ _=>AV.ok T F q;have bl:=dj.met (mg:=mg) b λ_ F=>A2.ok T F C2 C4 bg;have S:=dk.met (mg:=mg) b λ_ F=>AZ.ok T F C4;have d:=dl.met (mg:=mg) b λ_ F=>A0.ok T F S;have bo:=dm.cal X G b λ_ F _ _=>AG.ok T F C2;have b0:=dn.cal X G b λ_ F _ _=>Aa.ok T F;have g:=dp.cal X G b λ_ F _ _=>Ab.ok T F b0;have U:=dq.cal X G b λ_ F _ _=>Ac.ok T F g;have b1:=dr.cal X G b λ_ F _ _=>AI.ok T F bo U;have Y:=ds.cal X G b λ_ F _ _=>AH.ok T F;have b2:=du.cal X G b λ_ F _ _=>AL.ok T F b1 Y;have b3:=dv.cal X G b λ_ F _ _=>Ai.ok T F U;have b4:=dx.cal X G b λ_ F _ _=>Ae.ok T F C2;have b5:=dy.cal X G b λ_ F _ _=>Ah.ok T F b4;have b6:=dz.cal X G b λ_ F _ _=>Aj.ok T F b5;have b7:=d0.cal X G b λ_ F _ _=>Ag.ok T F;have b8:=d1.cal X G b λ_ F _ _=>Ak.ok T F b7 g;have b9:=d2.cal X G b λ_ F _ _=>Al.ok T F b3 b6 b8;have ca:=d3.cal X G b λ_ F _ _=>Ao.ok T F b9;have cb:=d4.met (mg:=mg) b λ_ F=>AC.ok T F C7;have cc:=d5.met (mg:=mg) b λ_ F=>AD.ok T F cb;have Z:=d6.cal X G b λ_ F _ _=>Ap.ok T F;have ce:=d7.cal X G b λ_ F _ _=>Aq.ok T F;have cf:=d8.cal X G b λ_ F _ _=>Ar.ok T F ce;have cg:=d9.cal X G b λ_ F _ _=>As.ok T F;have ch:=ea.cal X G b λ_ F _ _=>Au.ok T F Z cf cg;have ci:=eb.cal X G b λ_ F _ _=>Av.ok T F ch;have cj:=ec.met (mg:=mg) b λ_ F=>Ax.ok T F;have i:=ed.met (mg:=mg) b λ_ F=>AE.ok T F ca cc Z ci cj;have ck:=ee.cal X G b λ_ F _ _=>AJ.ok T F i;have cl:=ef.cal X G b λ_ F m h=>AK.ok T F i ck m h;have j:=eg.cal X G b λ_ F _ _=>AW.ok T F i cl;have ab:=eh.met (mg:=mg) b λ_ F=>A1.ok T F S q;have cm:=ei.met (mg:=mg) b λ_ F=>A3.ok T F d b2 g j ab;have n:=ej.cal X G b λ_ F _ _=>Cr.ok T F;have cn:=ek.cal X G b λ_ F _ _=>Cu.ok T F n;have ac:=el.cal X G b λ_ F _ _=>Cs.ok T F;have co:=em.cal X G b λ_ F _ _=>Cv.ok T F n ac;have o:=en.cal X G b λ_ F _ _=>Ct.ok T F ac;have cp:=eo.cal X G b (λ_ F _ _=>Cw.ok T F )<|ba0 (λ_ _ _ _ _ _=>rfl) rfl;have cq:=ep.cal X G b λ_ F _ _=>AS.ok T F q;have cr:=er.cal X G b λ_ F _ _=>AN.ok T F C8;have cu:=es.cal X G b λ_ F m h=>AO.ok T F C7 m h;have cv:=et.cal X G b λ_ F _ _=>AQ.ok T F cr cu;have f:=eu.cal X G b λ_ F _ _=>AX.ok T F cq cv;have ad:=ev.cal X G b λ_ F _ _=>Ci.ok T F f;have af:=ew.cal X G b λ_ F _ _=>AU.ok T F q;have cw:=ey.cal X G b λ_ F _ _=>Ch.ok T F af;have cx:=ez.cal X G b λ_ F _ _=>Ce.ok T F;have cy:=e0.cal X G b λ_ F _ _=>Cf.ok T F Y;have ah:=e1.cal X G b λ_ F _ _=>Cg.ok T F cx cy;have ai:=e2.cal X G b λ_ F _ _=>Cn.ok T F;have cz:=e3.cal X G b λ_ F _ _=>AT.ok T F q;have c0:=e4.cal X G b λ_ F _ _=>Cq.ok T F f ad cw ah ai j cz;have ak:=e5.met (mg:=mg) b λ_ F=>A5.ok T F f;have c1:=e6.cal X G b λ_ F _ _=>Cy.ok T F c0 o ak;have c2:=e7.cal X G b λ_ F _ _=>A6.ok T F;have c3:=e8.cal X G b λ_ F _ _=>A7.ok T F C7 c2;have c4:=e9.cal X G b λ_ F _ _=>A8.ok T F c3;have p:=fb.cal X G b λ_ F _ _=>Ca.ok T F q c4;have c5:=fc.cal X G b λ_ F _ _=>Cc.ok T F q p;have c6:=fe.cal X G b λ_ F _ _=>Co.ok T F c5;have c7:=ff.met (mg:=mg) b λ_ F=>Aw.ok T F;have c8:=fg.cal X G b λ_ F _ _=>A9.ok T F c7;have c9:=fh.cal X G b λ_ F _ _=>Cb.ok T F p c8;have da:=fi.cal X G b λ_ F _ _=>Cd.ok T F p c9 af;have db:=fj.cal X G b λ_ F _ _=>Cj.ok T F da;have dd:=fk.cal X G b λ_ F _ _=>Ck.ok T F db ad;have de:=fl.cal X G b λ_ F _ _=>Cm.ok T F dd f ah;have df:=fm.cal X G b λ_ F _ _=>Cp.ok T F d ab c6 de ai j;have dh:=fn.cal X G b λ_ F _ _=>Cz.ok T F df o ak d;exact CA.ok T (XB (st:=CA.st) lL cL kL) C1 bl cm d cn n co o cp c1 dh
theorem walk {l:PySem.W.OpenLaw}{q:D3}{b:Da}{g:(Str->Dc)->Ej->Prop}{e:D6->Ej->Prop}{d:DefRec}{K:Params->CB}(o:l.most=some 63)(c:d.params.defaults=[])
  (j:∀(w:D6) (h:Ej),e w h->(K w.params).In h)
  (F:∀(w:D6) (mg:Str->Dc) (fa:D1) (h:Ej),(K w.params).In h->h.Ns Ed mg->mg d.name=some (.ref fa) -> ∃fd:D5,(∀(s:D7) (u:D2),BindsTo s fd ⟨[u],[]⟩ [("_law_script",u)])/\∀base:Ej,(K w.params).In base->base.Ns Ed mg->zj l.prog w (K w.params) mg base CG 21 fa fd ["_law_script"] (rZ<|K w.params)) :
  PySem.W.WalkO q b g e l.row.toRowW d [] (λf vs=>PySem.call f vs) :=
 L2.oZ (n:=63) (k:=21) (x:="_law_script") (CX:=λ_=>CG) (sp:=λw=>rZ<|K w.params) o (by decide) c ⟨rfl,by decide,by decide⟩ j F (λ_ _ a ns hl _ i=>⟨a,ns,rfl,i,hl,λ_=>rfl⟩) λ_ _ _ _ _ z=>z
end An27
end
open PySem PySem.W PyProof.Rows
set_option maxRecDepth 100000 in
set_option maxHeartbeats 0 in
theorem PySem.Challenge.cw_annals_k27_whole_moves_holds : PySem.Challenge.rw_annals_k27_whole_moves.Holds := by
 w_on;o_law;k_head;(case hw=>w_witness2)
 k_fill
 refine An27.walk (l:=PySem.Challenge.rw_annals_k27_whole_moves) rfl rfl (λw h Y=>PySem.W.kIn_of Y) ?F
 case F =>
  intro w mg fa h KX G hmg;refine' An27.all_mk KX G hmg ?z_len ?z_all ?z_ord ?DF ?z_str ?z_set ?DM ?DT ?DX ?z_max ?z_int ?DZ ?DU ?DY ?z_any ?DA ?Dx ?Dz ?DJ ?DC ?Dy ?DB ?DD ?DK ?DN ?DV ?pg_aD ?hd_aD ?po_aD ?sa_aD ?mk_aD ?kc_aD ?s_m1 ?s_m2 ?s_kd ?pg_aC ?hd_aC ?po_aC ?sa_aC ?mk_aC ?kc_aC ?s_n1 ?s_n2 ?s_n3 ?s_kit ?a0 ?a1 ?a2 ?a3 ?a4 ?a5 ?a6 ?a7 ?a8 ?a9 ?a10 ?a11 ?a12 ?a13 ?a14 ?a15 ?a16 ?a17 ?a18 ?a19 ?a20 ?a21 ?a22 ?a23 ?a24 ?a25 ?a26 ?a27 ?a28 ?a29 ?a30 ?a31 ?a32 ?a33 ?a34 ?a35 ?a36 ?a37 ?a38 ?a39 ?a40 ?a41 ?a42 ?a43 ?a44 ?a45 ?a46 ?a47 ?a48 ?a49 ?a50 ?a51 ?a52 ?a53 ?a54 ?a55 ?a56 ?a57 ?a58 ?a59 ?a60 ?a61 ?a62 ?a63 ?a64 ?a65 ?a66 ?a67 ?a68 ?a69 ?a70 ?a71 ?a72 ?a73 ?a74 ?a75 ?a76 ?a77 ?a78 ?a79 ?a80 ?a81
  case z_len|z_all|z_ord|DF|z_str|z_set|DM|DT|DX|z_max|z_int|DZ|DU|DY|z_any|DA|Dx|Dz|DJ|DC|Dy|DB|DD|DK|DN|DV=>k_is
  case a0|a1=>(apply An27.MF.mk;k_is;k_is;k_is;k_is;k_is)
  case a2|a3=>(apply An27.GF.mk;k_is;k_is;k_is;k_is)
  case a4|a5=>(apply An27.MF.mk;k_is;k_is;k_is;k_is;k_is)
  case a6=>(apply An27.GF.mk;k_is;k_is;k_is;k_is)
  case a7=>(apply An27.MF.mk;k_is;k_is;k_is;k_is;k_is)
  case a8|a9|a10=>(apply An27.GF.mk;k_is;k_is;k_is;k_is)
  case a11|a12|a13=>(apply An27.MF.mk;k_is;k_is;k_is;k_is;k_is)
  case a14|a15|a16|a17|a18|a19|a20|a21|a22|a23|a24|a25|a26|a27|a28=>(apply An27.GF.mk;k_is;k_is;k_is;k_is)
  case a29|a30=>(apply An27.MF.mk;k_is;k_is;k_is;k_is;k_is)
  case a31|a32|a33|a34|a35|a36=>(apply An27.GF.mk;k_is;k_is;k_is;k_is)
  case a37|a38=>(apply An27.MF.mk;k_is;k_is;k_is;k_is;k_is)
  case a39|a40|a41=>(apply An27.GF.mk;k_is;k_is;k_is;k_is)
  case a42|a43=>(apply An27.MF.mk;k_is;k_is;k_is;k_is;k_is)
  case a44|a45|a46|a47|a48|a49|a50|a51|a52|a53|a54|a55|a56|a57|a58|a59|a60|a61|a62|a63=>(apply An27.GF.mk;k_is;k_is;k_is;k_is)
  case a64=>(apply An27.MF.mk;k_is;k_is;k_is;k_is;k_is)
  case a65|a66|a67|a68|a69|a70|a71=>(apply An27.GF.mk;k_is;k_is;k_is;k_is)
  case a72=>(apply An27.MF.mk;k_is;k_is;k_is;k_is;k_is)
  case a73|a74|a75|a76|a77|a78|a79|a80|a81=>(apply An27.GF.mk;k_is;k_is;k_is;k_is)
  case pg_aD|hd_aD|po_aD|sa_aD|mk_aD|kc_aD|s_m1|s_m2=>k_is
  case s_kd=>exact An27.mL (by k_is)
  case pg_aC|hd_aC|po_aC|sa_aC|mk_aC|kc_aC|s_n1|s_n2|s_n3=>k_is
  case s_kit=>(intro a ha b hb;simp only[An27.kinds,ZI,Y4,Ua]at ha hb;rcases ha with rfl|rfl|rfl|rfl|rfl|rfl|rfl<;>rcases hb with rfl|rfl|rfl|rfl|rfl|rfl|rfl<;>rfl)
