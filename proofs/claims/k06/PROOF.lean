import PyProof.Rows.All
import PyProof.StationsW
import PyProof.Rows.Catch
import Wide.All
import OpenK.AllK
import Wide.FinOn
import Lean
import PyProof.EqAt
import PyProof.EqKinds
import PyProof.TupleCall
import KE.KTryMore
import PyProof.Rows.Range3
import KE.KRevIter
import KE.LcSums
import PyProof.FString5
import PyProof.StrBlock2
import PyProof.P3In
import PyProof.Rows.SumAny
import PyProof.TupleKey
import PyProof.DictRoadsH
import PyProof.Rows.SeqWords
import PyProof.StrLawsFrom
import PyProof.Rows.FStr
import PyProof.Rows.RegStrFacts
import KE.KIntText
import KE.KDictList
import PyProof.Rows.ReprOcc
import PyProof.DictIter
import PyProof.DictWalks
import PyProof.DictItems
import KE.KPairComp
import KE.KEqDict
import PyProof.Rows.MinMaxN
import PyProof.FactsAll.list_3
import PyProof.Rows.StrClose5
import PyProof.Rows.StrClip
import PyProof.SetKind
import PyProof.Rows.SetFrom
import PyProof.FactsAll.set
import PyProof.SetRoads
import KE.KDictSum
import PyProof.WalksMore
import PyProof.Rows.StrMeet
import PyProof.FactsAll.dict_1
import PyProof.ExcArgsOwn
import PyProof.ExcAttrAll.ValueError
import KE.KIsAll
import PyProof.StrBlockG
import PyProof.StrLawsTight
import PyProof.StrLawsChain
import KE.KSortTup
import PyProof.P3Eq
import PyProof.Rows.StrRules
import PyProof.Rows.IntRules
import PyProof.FactsAll.set_2
import KE.KItemsList
import PyProof.NeKinds
import PyProof.AttrMissHeap
import PySem.Challenge.RW_annals_k06_kept_and_read_again
set_option Elab.async false
set_option linter.all false
set_option maxRecDepth 100000
set_option maxHeartbeats 4000000
abbrev ZZF:=PySem.W.Frag
abbrev Q5:=@List.length_map
abbrev Q6:=@PySem.wpAny_bind
abbrev Q7:=@List.mem_singleton
abbrev Q8:=@PySem.wpAny_pure
abbrev Q9:=@PySem.Heap.get?_push_of_some
abbrev Za:=@List.mem_map
abbrev Zb:=@List.mem_cons_of_mem
abbrev Zc:=@List.mem_cons_self
abbrev Zd:=@decide_eq_true
abbrev Ze:=@Nat.le_refl
abbrev Zf:=@List.map_append
abbrev Zg:=@Bool.and_eq_true
abbrev Zh:=@List.length_append
abbrev Zi:=@List.mem_cons
abbrev Zj:=@List.getElem?_eq_getElem
abbrev Zk:=@List.mem_of_getElem?
abbrev Zl:=@List.getElem?_map
abbrev Zm:=@PySem.Heap.get?_push_size
abbrev Zn:=@List.length_cons
abbrev Zo:=@decide_eq_false
abbrev Zp:=@PySem.Heap.lt_size
abbrev Zq:=@decide_eq_true_iff
abbrev Zr:=@List.getElem?_eq_some_iff
abbrev Zs:=@List.mem_append
abbrev Zt:=@List.map_map
abbrev Zu:=@Nat.ne_of_lt
abbrev Zv:=@List.size_toArray
abbrev Zw:=@List.map_cons
abbrev Zx:=@PyProof.Rows.boot_isinstance
abbrev Zy:=@if_neg
abbrev Zz:=@if_pos
abbrev ZA:=@List.take_length
abbrev ZB:=@of_decide_eq_true
abbrev ZC:=@List.length_take
abbrev ZD:=@Nat.lt_of_lt_of_le
abbrev ZE:=@Array.length_toList
abbrev ZF:=@List.append_nil
abbrev ZG:=@Bool.false_ne_true
abbrev ZH:=@List.nodup_iff_pairwise_ne
abbrev ZI:=@List.all_eq_true
abbrev ZJ:=@Nat.zero_le
abbrev ZK:=@List.mem_append_right
abbrev ZL:=@decide_eq_true_eq
abbrev ZM:=@Option.map_eq_some_iff
abbrev ZN:=@List.getElem?_append_left
abbrev ZO:=@List.mem_iff_getElem
abbrev ZP:=@List.getElem?_append_right
abbrev ZQ:=@List.getElem_map
abbrev ZR:=@List.cons_ne_nil
abbrev ZS:=@PySem.boot_len
abbrev ZT:=@Array.getD_eq_getD_getElem?
abbrev ZU:=@Bool.eq_iff_iff
abbrev ZV:=@PySem.W.mg_none_of
abbrev ZW:=@List.map_congr_left
abbrev ZX:=@List.take_append_drop
abbrev ZY:=@PyProof.Rows.boot_str
abbrev ZZ:=@PySem.wpAny_setState_of
abbrev Z0:=@PySem.F.plainAttrs_str
abbrev Z1:=@PySem.wpAny_newObj_type
abbrev Z2:=@List.append_assoc
abbrev Z3:=@PySem.W.mg_of
abbrev Z4:=@PyProof.Rows.boot_list
abbrev Z5:=@List.mem_append_left
abbrev Z6:=@PySem.wpAny_call_entry
abbrev Z7:=@List.any_eq_true
abbrev Z8:=@List.nodup_cons
abbrev Z9:=@List.getD_eq_getElem?_getD
abbrev Ya:=@PySem.Heap.get?_update_self
abbrev Yb:=@Nat.le_trans
abbrev Yc:=@List.getElem?_eq_none
abbrev Yd:=@List.eq_nil_of_length_eq_zero
abbrev Ye:=@PySem.W.kia_one
abbrev Yf:=@List.mem_flatMap
abbrev Yg:=@List.flatMap_cons
abbrev Yh:=@Array.getElem?_toList
abbrev Yi:=@List.not_mem_nil
abbrev Yj:=@PyProof.Rows.boot_tuple
abbrev Yk:=@List.nodup_append
abbrev Yl:=@List.pairwise_map
abbrev Ym:=@PySem.sizeLine_eq
abbrev Yn:=@PySem.wpAny_mono
abbrev Yo:=@PySem.Heap.size_push
abbrev Yp:=@Option.map_some
abbrev Yq:=@Nat.lt_irrefl
abbrev Yr:=@PySem.wpAny_holding
abbrev Ys:=@beq_eq_false_iff_ne
abbrev Yt:=@List.cons_lt_cons_iff
abbrev Yu:=@PyProof.Rows.boot_all
abbrev Yv:=@List.take_add_one
abbrev Yw:=@List.foldl_append
abbrev Yx:=@Bool.false_eq_true
abbrev Yy:=@PySem.Heap.get?_update_other
abbrev Yz:=@List.getElem_mem
abbrev YA:=@Array.getElem?_eq_getElem
abbrev YB:=@PySem.Value.isStrOf_shape
abbrev YC:=@Bool.eq_false_iff
abbrev YD:=@List.length_range
abbrev YE:=@List.nodup_nil
abbrev YF:=@Nat.le_of_lt
abbrev YG:=@PySem.wpAny_callSpecial?_slot
abbrev YH:=@Nat.lt_succ_of_lt
abbrev YI:=@List.perm_ext_iff_of_nodup
abbrev YJ:=@List.filterMap_cons
abbrev YK:=@PySem.mem_of_lookup
abbrev YL:=@List.find?_cons
abbrev YM:=@PySem.codeAny_builtin
abbrev YN:=@PyProof.Rows.slot_tuple_getitem
abbrev YO:=@List.length_singleton
abbrev YQ:=@PySem.F.slot_dict_get
abbrev YR:=@List.mem_iff_getElem?
abbrev YS:=@List.sum_cons
abbrev YT:=@PySem.wpAny_setField
abbrev YU:=@Bool.or_eq_false_iff
abbrev YV:=@PySem.wpAny_truthy_bool
abbrev YW:=@PySem.wpAny_ite_split
abbrev YX:=@PySem.W.hideAll_get
abbrev YY:=@PyProof.Rows.F.plain_set_update_loop
abbrev YZ:=@List.flatMap_append
abbrev Y0:=@PySem.codeAny_mono
abbrev Y1:=@PySem.wpAny_isInstance
abbrev Y2:=@Array.getElem?_eq_some_iff
abbrev Y3:=@Bool.false_and
abbrev Y4:=@PySem.wpAny_Call_Name_kw
abbrev Y5:=@Nat.eq_zero_or_pos
abbrev Y6:=@PySem.isSubtype_type
abbrev Y7:=@of_decide_eq_false
abbrev Y8:=@List.getElem?_zip_eq_some
abbrev Y9:=@List.pairwise_iff_getElem
abbrev Ja:=@List.length_nil
abbrev Jb:=@List.Perm.eq_of_pairwise
abbrev Jc:=@PyProof.Rows.toString_length_le
abbrev Jd:=@PySem.wpAny_setEntries_of
abbrev Je:=@List.getElem_inj
abbrev Jf:=@Nat.lt_succ_self
abbrev Jg:=@List.length_drop
abbrev Jh:=@Int.eq_ofNat_of_zero_le
abbrev Ji:=@PySem.wpAny_askSetting
abbrev Jj:=@List.eq_nil_iff_forall_not_mem
abbrev Jk:=@List.mem_filterMap
abbrev Jl:=@beq_iff_eq
abbrev Jm:=@PySem.W.callWith_K
abbrev Jn:=@PySem.tupleKind_room_in1
abbrev Jo:=@PySem.F.entry_dict_get
abbrev Jp:=@List.take_of_length_le
abbrev Jq:=@Array.getElem?_eq_none
abbrev Jr:=@PySem.F.slot_str_split
abbrev Js:=@PySem.F.type_str_split
abbrev Jt:=@PyProof.Rows.boot_dict
abbrev Ju:=@List.foldl_cons
abbrev Jw:=@PyProof.Rows.boot_set
abbrev Jx:=@PySem.F.slot_str_join
abbrev Jy:=@PySem.F.type_str_join
abbrev Jz:=@PyProof.Rows.callWith_type1
abbrev JA:=@PySem.W.hideAll_none
abbrev JB:=@Nat.le_succ
abbrev JC:=@PySem.wpAny_rule
abbrev JD:=@PySem.wpAny_of_eq
abbrev JE:=@Bool.and_false
abbrev JF:=@List.not_lt
abbrev JG:=@Array.getElem_toList
abbrev JH:=@PySem.F.slot_str_partition
abbrev JI:=@PySem.F.type_str_partition
abbrev JJ:=@List.mem_of_mem_take
abbrev JK:=@Nat.ne_of_gt
abbrev JL:=@Nat.le_of_eq
abbrev JM:=@PySem.wpAny_typeOf
abbrev JN:=@PySem.call_meetsIn
abbrev JO:=@PySem.wpAny_forIn_list
abbrev JP:=@List.flatMap_def
abbrev JQ:=@List.flatMap_nil
abbrev JR:=@List.getElem?_eq_none_iff
abbrev JS:=@List.drop_eq_getElem_cons
abbrev JT:=@PyProof.Rows.F.entry_set_update_loop
abbrev JU:=@Option.isSome_iff_exists
abbrev JV:=@if_false
abbrev JW:=@PySem.plainId_quiet
abbrev JX:=@PyProof.Rows.boot_sorted
abbrev JY:=@PySem.F.slot_list_append
abbrev JZ:=@PySem.F.type_list_append
abbrev J0:=@List.eq_of_mem_replicate
abbrev J1:=@PySem.wpAny_passesOwn
abbrev J2:=@List.of_mem_zip
abbrev J3:=@PySem.wpAny_specialOf
abbrev J4:=@PySem.typeIs_str
abbrev J5:=@Nat.lt_of_le_of_lt
abbrev J6:=@List.pairwise_cons
abbrev J7:=@PySem.wpAny_field
abbrev J8:=@PySem.F.plainAttrs_dict
abbrev J9:=@List.pairwise_singleton
abbrev Va:=@List.append_cancel_left
abbrev Vb:=@decide_eq_false_iff_not
abbrev Vc:=@PySem.F.plainAttrs_list
abbrev Vd:=@List.mem_range
abbrev Ve:=@PySem.wpAny_pyIter_list
abbrev Vf:=@Bool.not_eq_true'
abbrev Vg:=@Nat.lt_trichotomy
abbrev Vh:=@iff_of_false
abbrev Vi:=@List.lt_irrefl
abbrev Vj:=@List.append_eq_nil_iff
abbrev Vk:=@PySem.W.methodCall_KW
abbrev Vl:=@PySem.W.KIN.signs_num
abbrev Vm:=@PySem.builtinLookup_eq_fast
abbrev Vn:=@List.getElem?_toArray
abbrev Vo:=@Classical.choose_spec
abbrev Vp:=@List.eq_replicate_iff
abbrev Vq:=@PyProof.Rows.callWith_builtin1
abbrev Vr:=@LawfulBEq.eq_of_beq
abbrev Vs:=@PySem.call_meets
abbrev Vt:=@Option.getD_some
abbrev Vu:=@decide_eq_decide
abbrev Vv:=@PyProof.Rows.int_text_len_1921
abbrev Vw:=@List.map_fst_zip
abbrev Vx:=@Bool.not_true
abbrev Vy:=@List.map_take
abbrev Vz:=@PySem.Heap.get?_none_of_le
abbrev VA:=@PyProof.Rows.slice_closes_toL
abbrev VB:=@List.map_id
abbrev VC:=@PySem.wpAny_execs_nil
abbrev VD:=@List.nil_append
abbrev VE:=@PySem.W.plainGet_of
abbrev VF:=@ne_true_of_eq_false
abbrev VG:=@List.map_nil
abbrev VH:=@PySem.wpAny_richCompare_same_room
abbrev VI:=@PySem.wpAny_pyIter_tuple
abbrev VJ:=@PySem.wpAny_tupleItemsOf
abbrev VL:=@Int.natAbs_natCast
abbrev VM:=@or_false
abbrev VN:=@PySem.wpAny_fieldsOf
abbrev VO:=@List.filter_append
abbrev VP:=@List.map_replicate
abbrev VQ:=@List.any_eq_false
abbrev VR:=@PySem.W.kitx_list
abbrev VS:=@PySem.W.kitx_dict
abbrev VT:=@PySem.wpAny_Call_method
abbrev VU:=@Bool.false_or
abbrev VV:=@PySem.wpAny_attempt
abbrev VW:=@PySem.wpAny_newList
abbrev VX:=@Bool.true_and
abbrev VY:=@PySem.wpAny_execs_cons
abbrev VZ:=@Nat.min_le_right
abbrev V0:=@PySem.W.kdl_dict
abbrev V1:=@List.le_antisymm
abbrev V2:=@PySem.wpAny_call
abbrev V3:=@Nat.lt_trans
abbrev V4:=@getElem?_pos
abbrev V5:=@List.mem_filter
abbrev V6:=@Bool.or_eq_true
abbrev V7:=@PySem.codeAny_of_tree
abbrev V8:=@PySem.typeLookup_type
abbrev V9:=@PyProof.Rows.entry_list_sort
abbrev Ua:=@List.sum_append
abbrev Ub:=@Nat.not_lt_zero
abbrev Uc:=@List.all_append
abbrev Ud:=@List.range_succ
abbrev Ue:=@if_true
namespace L2
open PySem
section
variable {M:Model}{A:Around}{E:Value->Shared->Prop}{s:Shared}{base:Heap}{q:Array Value->Prop}{env:Env}{outer:List Env}{L x:Addr}
def G1 (q:Array Value->Prop):Prop:=∀ (vs:Array Value) (v:Value),q vs->q (vs.setIfInBounds 1 v)
def Trc (q:Array Value->Prop)(h base:Heap)(x:Addr)(c fl:Value):Prop :=
 ∃ ob vs T ot ts,h.get? x=some ob/\(ob.cls=c/\q vs)/\ob.data=.fields vs/\vs[1]?=some (.ref T)/\base.get? T=none/\T≠x/\h.get? T=some ot/\ot.data=.fields ts/\ts[3]?=some fl
theorem nrec {h:Heap}{y:Addr}{oy:Obj}{vs:Array Value}(hy:h.get? y=some oy)(hd:oy.data=.fields vs):∀ b o,h.get? b=some o->(∀ ws,o.data≠.fields ws)->b≠y:=fun b o hb nf z=>by
 subst z;rw [hy] at hb;cases hb;exact nf vs hd
theorem II (hq:G1 q){ob:Obj}{vs:Array Value}{head:Value}{nx:Bool}{Q:Unit->Shared->Prop}(hA:A.frames=some (env::outer))(fr:s.heap.FunFrames base (env::outer))(hL:env.frame=some L)
  (hx:s.heap.get? x=some ob) (kb:base.StaysIn s.heap) (nx0:base.get? x=none) (hd:ob.data=.fields vs) (sz:1<vs.size) (hv:q vs)
  (k:∀ h',base.StaysIn h'->h'.FunFrames base (env::outer)->Trc q h' base x ob.cls (rawInt L)->s.heap.UpToSlots h'->Q () { s with heap:=h' }) :
  wpAny M A (do let fo ←frameOf env;let pl ←entryPlaceOf L nx;let en ←EntryCells.newEntry head fo .none (rawInt L) .none pl;setField (.ref x) 1 en) Q E s:=by
 have nf:x∉(env::outer).filterMap (·.frame):=fun z=>by
  obtain ⟨_,o,ho,hn⟩:=fr.mem z;rw [hx] at ho;cases ho;exact hn vs hd
 refine Q6 (wpAny_frameOf_fun hA fr hL fun g hg=>Q6 (wpAny_entryPlaceOf fun pl hpl=>?_));unfold EntryCells.newEntry;unfold newFields;refine Q6 (Z1 (T:="traceback") ?_ (hpl.sizeOk5 _ _ _ _ _));have gx:g.get? x=some ob:=by rw [←hx];exact hg.2.1 x nf
 have gb:base.StaysIn g:=fun b o e=>by
  rw [hg.2.1 b fun z=>by rw [(fr.mem z).1] at e;cases e];exact kb b o e
 obtain ⟨row,er⟩:∃ row:Obj,row={ cls:=.type "traceback",data:=.fields ([head,.ref L,.none,rawInt L,.none]++(if pl.isEmpty then List.replicate 6 Value.none else pl)).toArray }:=⟨_,rfl⟩;have px:=Q9 (h:=g) row gx;have hsz:g.objs.size≠x:=JK (Zp gx);rw [←er];have keep:∀ b o,b≠x->g.get? b=some o->((g.push row).update x (Obj.mapFields (·.setIfInBounds 1 (Value.ref g.objs.size)))).get? b=some o:=fun b o nb e=>by
  rw [Yy _ _ (Ne.symm nb)];exact Q9 _ e
 refine YT px hd sz (k _ ?_ ?_ ?_ ?_)
 ·intro b o e;exact keep b o (fun z=>by rw [z,nx0] at e;cases e) (gb b o e)
 ·refine fr.of_keeps fun b o e hn=>?_;obtain ⟨sl,e2⟩:=hg.2.2 b o e;exact ⟨_,keep b _ (nrec hx hd b o e hn) e2,rfl⟩
 ·have d3:=Obj.data_mapFields hd (·.setIfInBounds 1 (Value.ref g.objs.size));refine ⟨_,_,g.objs.size,row,_,Ya _ px (Obj.isFreed_of_fields d3),⟨Obj.cls_mapFields _ _,hq _ _ hv⟩,d3,by simp [sz],gb.fresh,hsz,?_,by rw [er],?_⟩
  ·rw [Yy _ _ (Ne.symm hsz)];exact Zm g (by rw [er];rfl)
  ·rcases hpl with rfl|⟨_,_,_,_,_,_,_,rfl⟩<;>simp
 ·intro b o e hn;obtain ⟨sl,e2⟩:=hg.2.2 b o e;exact ⟨sl,keep b _ (nrec hx hd b o e hn) e2⟩
theorem note_first (hq:G1 q){ob:Obj}{vs:Array Value}{Q:Unit->Shared->Prop}(hA:A.frames=some (env::outer))(fr:s.heap.FunFrames base (env::outer))(hL:env.frame=some L)
  (hx:s.heap.get? x=some ob) (kb:base.StaysIn s.heap) (nx0:base.get? x=none) (hd:ob.data=.fields vs) (h1:vs[1]?=some .none) (hv:q vs)
  (k:∀ h',base.StaysIn h'->h'.FunFrames base (env::outer)->Trc q h' base x ob.cls (rawInt L)->s.heap.UpToSlots h'->Q () { s with heap:=h' }):wpAny M A (noteFrame (.ref x) env) Q E s:=by
 unfold noteFrame;simp only [hL];refine Q6 (J7 hx hd h1 ?_);rw [Zy (show ¬(Value.none !=Value.none)=true by decide)];exact II hq hA fr hL hx kb nx0 hd (Y2.mp h1).1 hv k
theorem note_on (hq:G1 q){c:Value}{Q:Unit->Shared->Prop}(hA:A.frames=some (env::outer))(fr:s.heap.FunFrames base (env::outer))(hL:env.frame=some L)(t:Trc q s.heap base x c .none)(kb:base.StaysIn s.heap)(nx0:base.get? x=none)
  (k:∀ h',base.StaysIn h'->h'.FunFrames base (env::outer)->Trc q h' base x c (rawInt L)->s.heap.UpToSlots h'->Q () { s with heap:=h' }):wpAny M A (noteFrame (.ref x) env) Q E s:=by
 obtain ⟨ob,vs,T,ot,ts,hx,⟨hc,hv⟩,hd,h1,nT,Tx,hT,dT,h3⟩:=t;subst hc;unfold noteFrame;simp only [hL];refine Q6 (J7 hx hd h1 ?_);rw [Zz (show (Value.ref T !=Value.none)=true by simp)];refine Q6 (J7 hT dT h3 ?_);rw [Zy (show ¬(Value.none==rawInt L)=true by simp [rawInt])];have oth:∀ b,b≠T->(s.heap.update T (Obj.mapFields (·.setIfInBounds 3 Value.none))).get? b=s.heap.get? b:=fun b nb=>Yy _ _ (Ne.symm nb);have nr:=nrec hT dT;refine Q6 (YT hT dT (Y2.mp h3).1 ?_);refine II hq hA (fr.of_keeps fun b o e hn=>⟨o,by rw [oth b (nr b o e hn)];exact e,rfl⟩) hL (by rw [oth x (Ne.symm Tx)];exact hx) (fun b o e=>?_) nx0 hd (Y2.mp h1).1 hv fun h' y1 y2 y3 y4=>k h' y1 y2 y3 fun b o e hn=>?_
 ·rw [oth b fun z=>by rw [z,nT] at e;cases e];exact kb b o e
 ·exact y4 b o (by rw [oth b (nr b o e hn)];exact e) hn
theorem qN {c fl:Value}{l:List Env}{Q:Unit->Shared->Prop}(kb:base.StaysIn s.heap)(fr:s.heap.FunFrames base l)(t:Trc q s.heap base x c fl)
  (k:∀ h',base.StaysIn h'->h'.FunFrames base l->Trc q h' base x c .none->s.heap.UpToSlots h'->Q () { s with heap:=h' }):wpAny M A (setFlight (.ref x) none) Q E s:=by
 obtain ⟨ob,vs,T,ot,ts,hx,hv,hd,h1,nT,Tx,hT,dT,h3⟩:=t;have s3:3<ts.size:=(Y2.mp h3).1;have nr:=nrec hT dT;have oth:∀ b,b≠T->(s.heap.update T (Obj.mapFields (·.setIfInBounds 3 ((none:Option Addr).elim Value.none fun f=>rawInt f)))).get? b=s.heap.get? b:=fun b nb=>Yy _ _ (Ne.symm nb);unfold setFlight;refine Q6 (J7 hx hd h1 ?_);rw [Zz (show (Value.ref T !=Value.none)=true by simp)];refine YT hT dT s3 (k _ (fun b o e=>?_) (fr.of_keeps fun b o e hn=>⟨o,by rw [oth b (nr b o e hn)];exact e,rfl⟩) ?_ fun b o e hn=>⟨o.slots,by rw [oth b (nr b o e hn)];exact e⟩)
 ·rw [oth b fun z=>by rw [z,nT] at e;cases e];exact kb b o e
 ·refine ⟨ob,vs,T,_,_,by rw [oth x (Ne.symm Tx)];exact hx,hv,hd,h1,nT,Tx,Ya _ hT (Obj.isFreed_of_fields (Obj.data_mapFields dT _)),Obj.data_mapFields dT _,?_⟩;simp [s3]
theorem B7 (hq:G1 q){ob:Obj}{vs:Array Value}{Q:Unit->Shared->Prop}(hA:A.frames=some (env::outer))(fr:s.heap.FunFrames base (env::outer))(hL:env.frame=some L)
  (hx:s.heap.get? x=some ob) (kb:base.StaysIn s.heap) (nx0:base.get? x=none) (hd:ob.data=.fields vs) (h1:vs[1]?=some .none) (hv:q vs)
  (k:∀ h',base.StaysIn h'->h'.FunFrames base (env::outer)->Trc q h' base x ob.cls .none->s.heap.UpToSlots h'->Q () { s with heap:=h' }):wpAny M A (leaving env (.ref x)) Q E s:=by
 unfold leaving;exact Q6 (note_first hq hA fr hL hx kb nx0 hd h1 hv fun g y1 y2 y3 y4=>qN (s:={ s with heap:=g }) y1 y2 y3 fun h' z1 z2 z3 z4=>k h' z1 z2 z3 (y4.trans z4))
theorem leave_next (hq:G1 q){c:Value}{Q:Unit->Shared->Prop}(hA:A.frames=some (env::outer))(fr:s.heap.FunFrames base (env::outer))(hL:env.frame=some L)(t:Trc q s.heap base x c .none)(kb:base.StaysIn s.heap)(nx0:base.get? x=none)
  (k:∀ h',base.StaysIn h'->h'.FunFrames base (env::outer)->Trc q h' base x c .none->s.heap.UpToSlots h'->Q () { s with heap:=h' }):wpAny M A (leaving env (.ref x)) Q E s:=by
 unfold leaving;exact Q6 (note_on hq hA fr hL t kb nx0 fun g y1 y2 y3 y4=>qN (s:={ s with heap:=g }) y1 y2 y3 fun h' z1 z2 z3 z4=>k h' z1 z2 z3 (y4.trans z4))
end
end L2
namespace L2
open PySem PySem.Spec PyProof.Rows
abbrev Key:=Sum Int Str
def GL:Key->Value->Bool
 | .inl k,v=>Value.isInt k v
 | .inr x,v=>Value.isStrOf x v
def keyH (w:World):Key->Int
 | .inl k=>hashInt k
 | .inr x=>hashStr w x
theorem yM:∀ {k:Key} {v:Value},GL k v=true->(∃ i t,k=Sum.inl i/\v=Value.int i t)\/(∃ x t,k=Sum.inr x/\v=Value.str x t)
 | .inl i,v,h=>by
  obtain ⟨t,e⟩:=Value.isInt_shape (k:=i) (v:=v) h;exact .inl ⟨i,t,rfl,e⟩
 | .inr x,v,h=>by
  obtain ⟨t,e⟩:=YB (x:=x) (v:=v) h;exact .inr ⟨x,t,rfl,e⟩
theorem keyIs_int (i:Int)(t:Tok):GL (.inl i) (.int i t)=true:=by simp [GL,Value.isInt]
theorem x4 (x:Str)(t:Tok):GL (.inr x) (.str x t)=true:=by simp [GL,Value.isStrOf]
theorem key_ll (a b:Int):decide ((Sum.inl a:Key)=Sum.inl b)=(a==b):=by
 by_cases e:a=b
 ·subst e;simp
 ·have h:¬(Sum.inl a:Key)=Sum.inl b:=fun q=>e (Sum.inl.inj q);rw [Zo h];exact (Ys.mpr e).symm
theorem key_rr (a b:Str):decide ((Sum.inr a:Key)=Sum.inr b)=decide (a=b):=by
 by_cases e:a=b
 ·subst e;simp
 ·have h:¬(Sum.inr a:Key)=Sum.inr b:=fun q=>e (Sum.inr.inj q);rw [Zo h,Zo e]
theorem key_lr (a:Int)(b:Str):decide ((Sum.inl a:Key)=Sum.inr b)=false:=Zo (fun q=>nomatch q)
theorem key_rl (a:Str)(b:Int):decide ((Sum.inr a:Key)=Sum.inl b)=false:=Zo (fun q=>nomatch q)
def mixKind (prog:Program)(w:World):PySem.KeyKind prog w Key where
 is:=GL
 hash:=keyH w
 inj:=fun v a b ha hb=>by
  rcases yM ha with ⟨i,t,rfl,rfl⟩|⟨x,t,rfl,rfl⟩
  ·rcases yM hb with ⟨j,u,rfl,e⟩|⟨y,u,rfl,e⟩
   ·injection e with e1 _;rw [e1]
   ·exact nomatch e
  ·rcases yM hb with ⟨j,u,rfl,e⟩|⟨y,u,rfl,e⟩
   ·exact nomatch e
   ·injection e with e1 _;rw [e1]
 byValue:=fun k v h=>by
  rcases yM h with ⟨i,t,rfl,rfl⟩|⟨x,t,rfl,rfl⟩<;>rfl
 pyHash:=fun hv h=>by
  rcases yM hv with ⟨i,t,rfl,rfl⟩|⟨x,t,rfl,rfl⟩
  ·exact wpAny_pyHash_int h
  ·exact wpAny_pyHash_str h
 eqBool:=fun hu hv h=>by
  rcases yM hu with ⟨i,t,rfl,rfl⟩|⟨x,t,rfl,rfl⟩
  ·rcases yM hv with ⟨j,u,rfl,rfl⟩|⟨y,u,rfl,rfl⟩
   ·rw [key_ll] at h;exact wpAny_eqBool_int h
   ·rw [key_lr] at h;exact SeqAt.EqAt.int_str i t y u _ _ _ _ h
  ·rcases yM hv with ⟨j,u,rfl,rfl⟩|⟨y,u,rfl,rfl⟩
   ·rw [key_rl] at h;exact SeqAt.EqAt.str_int x t j u _ _ _ _ h
   ·rw [key_rr] at h;exact wpAny_eqBool_str h
 «strs»:=fun k x t v h=>by
  rcases yM h with ⟨i,u,rfl,e⟩|⟨y,u,rfl,e⟩
  ·exact nomatch e
  ·injection e with e1 _;subst e1;cases v<;>rfl
theorem mixKind_int (prog:Program)(w:World)(i:Int)(t:Tok):(mixKind prog w).is (.inl i) (.int i t)=true:=keyIs_int i t
theorem mixKind_str (prog:Program)(w:World)(x:Str)(t:Tok):(mixKind prog w).is (.inr x) (.str x t)=true:=x4 x t
end L2
namespace L2
open PySem PySem.Spec PyProof.Rows
inductive V where
 | non|bl (b:Bool)|int (i:Int)|str (x:Str)|byt (b:Array UInt8)|flt (b:UInt64)|ref (a:Addr)|ty (n:String)
 deriving DecidableEq
def RelV:V->Value->Prop
 | .non,u=>u=Value.none
 | .bl b,u=>u=Value.bool b
 | .int i,u=>∃ t,u=Value.int i t
 | .str x,u=>∃ t,u=Value.str x t
 | .byt b,u=>∃ t,u=Value.bytes b t
 | .flt b,u=>∃ t,u=Value.float b t
 | .ref a,u=>u=Value.ref a
 | .ty n,u=>u=Value.type n
abbrev Vals:List V->List Value->Prop:=Paired RelV
theorem Vals.length {xs:List V}{us:List Value}(r:Vals xs us):xs.length=us.length:=Paired.length r
theorem Vals.get:∀ {xs:List V} {us:List Value} {i:Nat} {x:V},Vals xs us->xs[i]?=some x->∃ u,us[i]?=some u/\RelV x u
 | _,_,_,_,.nil,e=>by simp at e
 | _,_,0,_,.cons r _,e=>by simp at e;subst e;exact ⟨_,rfl,r⟩
 | _,_,i+1,x,.cons _ t,e=>by
  obtain ⟨u,h1,h2⟩:=Vals.get (i:=i) (x:=x) t (by simpa using e);exact ⟨u,by simpa using h1,h2⟩
theorem Vals.append:∀ {xs ys:List V} {us ws:List Value},Vals xs us->Vals ys ws->Vals (xs++ys) (us++ws)
 | _,_,_,_,.nil,s=>s
 | _,_,_,_,.cons r t,s=>.cons r (Vals.append t s)
theorem Vals.take:∀ {xs:List V} {us:List Value} (n:Nat),Vals xs us->Vals (xs.take n) (us.take n)
 | _,_,0,_=>.nil
 | _,_,_+1,.nil=>.nil
 | _,_,n+1,.cons r t=>.cons r (Vals.take n t)
theorem Vals.drop:∀ {xs:List V} {us:List Value} (n:Nat),Vals xs us->Vals (xs.drop n) (us.drop n)
 | _,_,0,r=>r
 | _,_,_+1,.nil=>.nil
 | _,_,n+1,.cons _ t=>Vals.drop n t
def RelO:Option V->Option Value->Prop
 | some v,some u=>RelV v u
 | none,none=>True
 | _,_=>False
def KV {κ:Type}:List (κ×V)->List (κ×Value)->Prop:=Paired fun (p:κ×V) (q:κ×Value)=>p.1=q.1/\RelV p.2 q.2
def kV:Key->V
 | .inl i=>.int i
 | .inr x=>.str x
inductive HO where
 | lst (xs:List V)
 | tup (xs:List V)
 | dK (kvs:List (Key×V))|dT (kvs:List (List Key×V))
 | set (S:Int->Bool) (n:Nat)
 | ins (C dx:Addr) (fs:List (Str×V))
 | own (x:Addr)
 | xd (fs:List (Str×V))
 | met (f x:Addr)
 | rng (lo hi:Int)
 | frz (o:Obj) (u:HO)
 | tbl (ps:Array Value)
 | ext (φ:Heap->Prop)
abbrev Hp:=Addr->Option HO
def upd (H:Hp)(a:Addr)(o:HO):Hp:=fun b=>if b=a then some o else H b
theorem zB {H:Hp}{a:Addr}{o:HO}:upd H a o a=some o:=by unfold upd;rw [Zz rfl]
theorem zH {H:Hp}{a b:Addr}{o:HO}(h:b≠a):upd H a o b=H b:=by unfold upd;rw [Zy h]
theorem upd_upd {H:Hp}{a:Addr}{o u:HO}:upd (upd H a o) a u=upd H a u:=by
 funext b;unfold upd;split<;>rfl
theorem ne_of {H:Hp}{a b:Addr}{o u:HO}(h:H a=some o)(h':H b=some u)(d:o≠u):a≠b:=by
 intro e;subst e;rw [h] at h';exact d (Option.some.inj h')
theorem zM {H:Hp}{a b:Addr}{o:HO}(h:H a=some o)(h':H b=none):a≠b:=by
 intro e;subst e;rw [h] at h';cases h'
def TupAt (h:Heap)(a:Addr)(items:Array Value):Prop:=∃ o,h.get? a=some o/\o.cls=.type "tuple"/\∃ n,o.data=.seq items n/\o.dict=none
theorem TupAt.is {h:Heap}{a:Addr}{items:Array Value}(t:TupAt h a items):IsTup h a items:=let ⟨o,h1,h2,n,h3,_⟩:=t;⟨o,h1,h2,n,h3⟩
theorem TupAt.lt {h:Heap}{a:Addr}{items:Array Value}(t:TupAt h a items):a<h.objs.size:=t.is.lt
theorem TupAt.new (h:Heap)(items:Array Value):TupAt (h.push { cls:=.type "tuple",data:=.seq items }) h.objs.size items:=⟨_,Zm _ rfl,rfl,_,rfl,rfl⟩
section
variable (P:Program)(w:World)
def ObjOk (H:Hp)(h:Heap)(a:Addr):HO->Prop
 | .lst xs=>xs.length<=sizeLine/\∃ (its:List Value) (n:Nat),Vals xs its/\h.get? a=some { cls:=.type "list",data:=.seq its.toArray n }
 | .tup xs=>xs.length<=sizeLine/\∃ its:List Value,Vals xs its/\TupAt h a its.toArray
 | .dK kvs=>kvs.length<=sizeLine/\(a==sysModules)=false/\∃ vs,KV kvs vs/\h.DictOf (mixKind P w) a vs
 | .dT kvs=>kvs.length<=sizeLine/\(a==sysModules)=false/\∃ xs:List (List Key×Addr×Value),
   Paired (fun (p:List Key×V) (q:List Key×Addr×Value)=>p.1=q.1/\H q.2.1=some (.tup (p.1.map kV))/\RelV p.2 q.2.2) kvs xs /\
   ∃ o es ep,h.get? a=some o/\o.ExactDict/\o.data=.dict es ep/\es.toList=xs.map (entryOfKey (tupleKind (mixKind P w)))/\(xs.map (·.1)).Nodup
 | .set S n=>h.SetOf (intKind P w) a S n
 | .ins C dx fs=>H dx=some (.own a)/\fs.length<=1000/\dx≠a/\h.get? a=some (PySem.W.instObj C dx) /\
   ∃ mA,h.Ns1 dx mA/\(∀ f,RelO (fs.lookup f) (mA f))/\PySem.Within mA (fs.map (·.1))
 | .own _=>∃ o,h.get? a=some o
 | .xd fs=>∃ mA,h.Ns1 a mA/\∀ f,RelO (fs.lookup f) (mA f)
 | .rng lo hi=>∃ t u v,h.get? a=some { cls:=.type "range",data:=.fields #[.int lo t,.int hi u,.int 1 v] }
 | .frz o u=>h.get? a=some o/\ObjOk H h a u
 | .tbl ps=>h.get? a=some { cls:=.none,data:=.fields ps }
 | .met f x=>h.get? a=some (PySem.W.methodObj (.ref f) (.ref x))
 | .ext φ=>φ h/\(∃ o,h.get? a=some o)/\∀ h1 h2:Heap,φ h1->(∀ o,h1.get? a=some o->h2.get? a=some o)->φ h2
def HOk (H:Hp)(h:Heap):Prop:=∀ a o,H a=some o->ObjOk P w H h a o
end
section
variable {P:Program}{w:World}{H H':Hp}{h h':Heap}{a:Addr}{o:HO}
theorem ObjOk.lt (x:ObjOk P w H h a o):a<h.objs.size:=by
 cases o with
 | lst xs=>obtain ⟨_,_,_,_,e⟩:=x;exact Zp e
 | tup xs=>obtain ⟨_,_,_,p⟩:=x;exact p.lt
 | dK kvs=>obtain ⟨_,_,_,_,o,_,_,e,_⟩:=x;exact Zp e
 | dT kvs=>obtain ⟨_,_,_,_,o,_,_,e,_⟩:=x;exact Zp e
 | set S n=>obtain ⟨o,_,_,_,e,_⟩:=x;exact Zp e
 | ins C dx fs=>obtain ⟨_,_,_,e,_⟩:=x;exact Zp e
 | own y=>obtain ⟨_,e⟩:=x;exact Zp e
 | xd fs=>obtain ⟨_,⟨_,_,_,e,_⟩,_⟩:=x;exact Zp e
 | rng lo hi=>obtain ⟨_,_,_,e⟩:=x;exact Zp e
 | frz ob u=>obtain ⟨e,_⟩:=x;exact Zp e
 | tbl ps=>exact Zp (show h.get? a=some _ from x)
 | met f y=>exact Zp (show h.get? a=some _ from x)
 | ext φ=>obtain ⟨_,⟨_,e⟩,_⟩:=x;exact Zp e
theorem Paired.mapP {α β:Type}{F G:α->β->Prop}:∀ {l₁:List α} {l₂:List β},Paired F l₁ l₂->(∀ a b,F a b->G a b)->Paired G l₁ l₂
 | _,_,.nil,_=>.nil
 | _,_,.cons r t,f=>.cons (f _ _ r) (Paired.mapP t f)
theorem ObjOk.stay (x:ObjOk P w H h a o)(k:∀ b u,(b=a\/H b=some (.own a))->h.get? b=some u->h'.get? b=some u)
  (ho:∀ b,H b=some (.own a)->H' b=some (.own a)) (ht:∀ b xs,H b=some (.tup xs)->H' b=some (.tup xs)):ObjOk P w H' h' a o:=by
 induction o with
 | lst xs=>obtain ⟨z,its,n,r,e⟩:=x;exact ⟨z,its,n,r,k _ _ (.inl rfl) e⟩
 | tup xs=>obtain ⟨z,its,r,ob,e,c⟩:=x;exact ⟨z,its,r,ob,k _ _ (.inl rfl) e,c⟩
 | dK kvs=>obtain ⟨z,y,vs,r,ob,es,ep,e,c⟩:=x;exact ⟨z,y,vs,r,ob,es,ep,k _ _ (.inl rfl) e,c⟩
 | dT kvs =>
  obtain ⟨z,y,xs,r,ob,es,ep,e,c⟩:=x;exact ⟨z,y,xs,Paired.mapP r fun p q z=>⟨z.1,ht _ _ z.2.1,z.2.2⟩,ob,es,ep,k _ _ (.inl rfl) e,c⟩
 | set S n=>obtain ⟨ob,es,ep,t,e,c⟩:=x;exact ⟨ob,es,ep,t,k _ _ (.inl rfl) e,c⟩
 | ins C dx fs =>
  obtain ⟨d,z,ne,e,mA,⟨od,es,ep,e2,c⟩,r⟩:=x;exact ⟨ho _ d,z,ne,k _ _ (.inl rfl) e,mA,⟨od,es,ep,k _ _ (.inr d) e2,c⟩,r⟩
 | own y=>obtain ⟨ob,e⟩:=x;exact ⟨ob,k _ _ (.inl rfl) e⟩
 | xd fs=>obtain ⟨mA,⟨od,es,ep,e,c⟩,r⟩:=x;exact ⟨mA,⟨od,es,ep,k _ _ (.inl rfl) e,c⟩,r⟩
 | rng lo hi=>obtain ⟨t,u,v,e⟩:=x;exact ⟨t,u,v,k _ _ (.inl rfl) e⟩
 | frz ob u ih=>obtain ⟨e,q⟩:=x;exact ⟨k _ _ (.inl rfl) e,ih q⟩
 | tbl ps =>
  have e:h.get? a=some { cls:=.none,data:=.fields ps }:=x;show h'.get? a=some { cls:=.none,data:=.fields ps };exact k a _ (.inl rfl) e
 | met f y =>
  have e:h.get? a=some (PySem.W.methodObj (.ref f) (.ref y)):=x;show h'.get? a=some (PySem.W.methodObj (.ref f) (.ref y));exact k a _ (.inl rfl) e
 | ext φ=>obtain ⟨p,⟨o,e⟩,st⟩:=x;exact ⟨st _ _ p fun o q=>k _ _ (.inl rfl) q,⟨o,k _ _ (.inl rfl) e⟩,st⟩
theorem HOk.lt (x:HOk P w H h)(e:H a=some o):a<h.objs.size:=(x a o e).lt
theorem HOk.fresh (x:HOk P w H h)(e:h.objs.size<=a):H a=none:=by
 cases q:H a with
 | none=>rfl
 | some u=>exact absurd (ZD (x.lt q) e) (Yq _)
theorem HOk.kept (x:HOk P w H h)(k:∀ b u,h.get? b=some u->h'.get? b=some u):HOk P w H h':=fun a o e =>
 (x a o e).stay (fun b u _ q=>k b u q) (fun _ q=>q) fun _ _ q=>q
theorem HOk.laid (x:HOk P w H h)(k:∀ b u,h.get? b=some u->h'.get? b=some u)(hp:h.objs.size<=a)(new:ObjOk P w (upd H a o) h' a o):HOk P w (upd H a o) h':=fun b u e=>by
 have hn:=x.fresh hp
 by_cases hb:b=a
 ·subst hb;rw [zB] at e;cases e;exact new
 ·rw [zH hb] at e;exact (x b u e).stay (fun c v _ q=>k c v q) (fun c q=>by rw [zH (zM q hn)];exact q) fun c xs q=>by rw [zH (zM q hn)];exact q
end
def Rd (H:Hp)(a:Addr)(u:HO):Prop:=H a=some u\/∃ o,H a=some (.frz o u)
theorem Rd.ok {P:Program}{w:World}{H:Hp}{h:Heap}{a:Addr}{u:HO}(r:Rd H a u)(x:HOk P w H h):ObjOk P w H h a u:=by
 rcases r with r|⟨o,r⟩
 ·exact x a u r
 ·obtain ⟨_,q⟩:=x a _ r;exact q
def Mut:Option HO->Prop
 | some (.lst _)=>True
 | some (.dK _)=>True
 | some (.dT _)=>True
 | some (.set _ _)=>True
 | some (.ins _ _ _)=>True
 | some (.ext _)=>True
 | _=>False
section
variable {P:Program}{w:World}{H:Hp}{h h':Heap}{x e:Addr}{o':HO}
theorem HOk.write (ok:HOk P w H h)(mu:Mut (H x))(he:e=x\/H e=some (.own x))(k:∀ b u,b≠e->h.get? b=some u->h'.get? b=some u)(heo:∃ u,h'.get? e=some u)
  (new:ObjOk P w (upd H x o') h' x o'):HOk P w (upd H x o') h':=fun b u q=>by
 have nown:∀ c y,H c=some (.own y)->c≠x:=fun c y r z=>by subst z;rw [r] at mu;exact mu
 have ntup:∀ c xs,H c=some (.tup xs)->c≠x:=fun c xs r z=>by subst z;rw [r] at mu;exact mu
 by_cases hb:b=x
 ·subst hb;rw [zB] at q;cases q;exact new
 ·rw [zH hb] at q
  by_cases hbe:b=e
  ·have q':H b=some (.own x):=by
    rcases he with z|z
    ·exact absurd (hbe.trans z) hb
    ·rw [hbe];exact z
   rw [q] at q';cases q';obtain ⟨v,hv⟩:=heo;exact ⟨v,by rw [hbe];exact hv⟩
  ·refine (ok b u q).stay (fun c v hc r=>k c v ?_ r) (fun c r=>by rw [zH (nown c b r)];exact r) fun c xs r=>by rw [zH (ntup c xs r)];exact r
   rcases hc with rfl|hc
   ·exact hbe
   ·rintro rfl
    rcases he with z|z
    ·exact nown c b hc z
    ·rw [hc] at z;cases z;exact hb rfl
end
structure Un (fs ex:List Addr)(H H':Hp)(h h':Heap):Prop where
 keep:∀ b o,h.get? b=some o->H b=none->b∉fs->b∉ex->h'.get? b=some o
 slot:∀ b o,h.get? b=some o->H b=none->b∈fs->b∉ex->∃ sl,h'.get? b=some { o with slots:=sl }
 free:∀ b o,h.get? b=some o->H b=none->b∉ex->H' b=none
 there:∀ b o,h.get? b=some o->b∉ex->∃ o',h'.get? b=some o'
 tups:∀ b xs,H b=some (.tup xs)->H' b=some (.tup xs)
 frzs:∀ b o u,H b=some (.frz o u)->H' b=some (.frz o u)
 tbls:∀ b ps,H b=some (.tbl ps)->∃ more,H' b=some (.tbl (ps++more))
section
variable {fs fs' ex ex':List Addr}{H H1 H2:Hp}{h h1 h2 h':Heap}{a x e:Addr}{o:HO}
theorem Un.any (u:Un fs ex H H1 h h1){b:Addr}{ob:Obj}(q:h.get? b=some ob)(n:H b=none)(hx:b∉ex):∃ sl,h1.get? b=some { ob with slots:=sl }:=by
 by_cases hb:b∈fs
 ·exact u.slot b ob q n hb hx
 ·exact ⟨ob.slots,u.keep b ob q n hb hx⟩
theorem Un.kept (k:∀ b u,h.get? b=some u->h'.get? b=some u):Un fs ex H H h h' :=
 ⟨fun b ob q _ _ _=>k b ob q,fun b ob q _ _ _=>⟨ob.slots,k b ob q⟩,fun _ _ _ n _=>n,fun b ob q _=>⟨ob,k b ob q⟩,fun _ _ q=>q,fun _ _ _ q=>q,fun _ ps q=>⟨#[],by rw [q];simp⟩⟩
theorem Un.refl:Un fs ex H H h h:=Un.kept fun _ _ q=>q
theorem Un.laid (k:∀ b u,h.get? b=some u->h'.get? b=some u)(hp:h.objs.size<=a)(hn:H a=none):Un fs ex H (upd H a o) h h' where
 keep:=fun b u q _ _ _=>k b u q
 slot:=fun b u q _ _ _=>⟨u.slots,k b u q⟩
 free:=fun b u q n _=>by rw [zH (Zu (ZD (Zp q) hp))];exact n
 there:=fun b u q _=>⟨u,k b u q⟩
 tups:=fun b xs q=>by rw [zH (zM q hn)];exact q
 frzs:=fun b u xs q=>by rw [zH (zM q hn)];exact q
 tbls:=fun b ps q=>⟨#[],by rw [zH (zM q hn),q];simp⟩
theorem Un.write (mu:Mut (H x))(he:e=x\/H e=some (.own x))(k:∀ b u,b≠e->h.get? b=some u->h'.get? b=some u)(heo:∃ u,h'.get? e=some u):Un fs ex H (upd H x o) h h':=by
 have hx:∀ b,H b=none->b≠x:=fun b n z=>by subst z;rw [n] at mu;exact mu
 have hb:∀ b,H b=none->b≠e:=fun b n z=>by
  subst z
  rcases he with r|r
  ·exact hx b n r
  ·rw [n] at r;cases r
 have hm:∀ b u,H b=some u->¬Mut (some u)->b≠x:=fun b u q nm z=>by subst z;rw [q] at mu;exact nm mu
 refine ⟨fun b u q n _ _=>k b u (hb b n) q,fun b u q n _ _=>⟨u.slots,k b u (hb b n) q⟩,fun b u q n _=>by rw [zH (hx b n)];exact n,fun b u q _=>?_,
  fun b xs q=>by rw [zH (hm b _ q fun z=>z)];exact q,fun b u xs q=>by rw [zH (hm b _ q fun z=>z)];exact q,fun b ps q=>⟨#[],by rw [zH (hm b _ q fun z=>z),q];simp⟩⟩
 by_cases hbe:b=e
 ·subst hbe;exact heo
 ·exact ⟨u,k b u hbe q⟩
end
def trk (h:Heap)(H:Hp):List Addr:=(List.range h.objs.size).filter fun a=>(H a).isSome
def Bw (h:Heap)(H:Hp):Heap:=PySem.W.hideAll h (trk h H)
theorem hidT_size (h:Heap)(H:Hp):(Bw h H).objs.size=h.objs.size:=PySem.W.hideAll_size _ _
theorem hidT_get {h:Heap}{H:Hp}{b:Addr}{o:Obj}(e:h.get? b=some o)(n:H b=none):(Bw h H).get? b=some o :=
 YX _ e fun hm=>by
  have q:(H b).isSome=true:=(V5.mp hm).2;rw [n] at q;simp at q
theorem of_hidT {h:Heap}{H:Hp}{b:Addr}{o:Obj}(e:(Bw h H).get? b=some o):h.get? b=some o/\H b=none:=by
 have e':h.get? b=some o:=PySem.W.of_hideAll (trk h H) e;refine ⟨e',?_⟩;cases q:H b with
 | none=>rfl
 | some x =>
  have hm:b∈trk h H:=V5.mpr ⟨Vd.mpr (Zp e'),by simp [q]⟩;have z:(Bw h H).get? b=none:=JA (trk h H) hm;rw [z] at e;cases e
end L2
namespace L2
open PySem PySem.Spec PyProof.Rows
structure Mod (K:ZZF)(mg:Str->Option Value)(base:Heap):Prop where
 kin:K.In base
 glob:base.Ns mainGlobals mg
 blt:∃ mb,base.Ns builtinsNs mb/\∀ x:Str,x≠"__name__"->mb x=bootBuiltins x
 nolimit:base.NoLimit
structure Cx where
 prog:Program
 w:World
 K:ZZF
 mg:Str->Option Value
 base:Heap
 A:Around
 N:List Str
 s₀:Shared
 H₀:Hp
 env:Env
 outer:List Env
 stack:List Env
 ex:List Addr
 fn:Str->Bool
 calm:Bool
 pn:List (Addr×Obj)
 xe:Value->Shared->Prop
def frs (l:List Env):List Addr:=l.filterMap (·.frame)
abbrev Cx.fs (X:Cx):List Addr:=frs X.outer
def Vis (sc:Scope)(x:Str):Prop:=sc.names.lookup x=some .local\/sc.names.lookup x=some .cell\/sc.names.lookup x=some .free
def Loc (sc:Scope)(x:Str):Prop:=sc.names.lookup x=some .local\/sc.names.lookup x=some .cell
def Look (env:Env)(h:Heap)(m:Str->Option Value)(x:Str)(u:Value):Prop :=
 (env.kindOf x=some .local/\m x=some u)\/((env.kindOf x=some .cell\/env.kindOf x=some .free)/\∃ c,env.cells.lookup x=some c/\h.IsCell c (some u))
structure Cx.Ok (X:Cx):Prop where
 mod:Mod X.K X.mg X.base
 kind:X.env.scope.kind=.function
 glob:X.env.globals=mainGlobals
 blt:X.env.builtins=builtinsNs
 above:X.s₀.heap.objs.size<=X.env.locals
 inj:∀ x y c,X.env.cells.lookup x=some c->X.env.cells.lookup y=some c->x=y
 has:∀ x,(X.env.kindOf x=some .cell\/X.env.kindOf x=some .free)->∃ c,X.env.cells.lookup x=some c
 cab:∀ x c,X.fn x=true->X.env.cells.lookup x=some c->X.s₀.heap.objs.size<=c
 hd:X.calm=true->X.A.handled=none
 frames:X.A.frames=some X.stack
 stk:X.stack=X.outer\/(X.stack=X.env::X.outer/\X.env.frame=some X.env.locals)
 exf:∀ b∈X.ex,b≠X.env.locals/\∀ x c,X.env.cells.lookup x=some c->c≠b
 bs:∀ b o,X.base.get? b=some o->X.s₀.heap.get? b=some o/\X.H₀ b=none
 bsz:X.base.objs.size<=X.s₀.heap.objs.size
 noex:∀ b o,X.base.get? b=some o->b∉X.ex
 exfs:∀ b∈X.ex,b∉X.fs
 funs:X.s₀.heap.FunFrames X.base X.outer
 frf:∀ b∈X.fs,X.H₀ b=none
structure Inv (X:Cx)(pins:List (Addr×Obj))(σ:List (Option V))(H:Hp)(s:Shared):Prop where
 ok:X.Ok
 os:s.os=X.s₀.os
 bare:AllBare s.gens
 base:Un X.fs X.ex X.H₀ H X.s₀.heap s.heap
 loc:∃ m,s.heap.Ns X.env.locals m/\∀ (i:Nat) (x:Str) (v:V),X.N[i]?=some x->σ[i]?=some (some v)->Vis X.env.scope x->∃ u,RelV v u/\Look X.env s.heap m x u
 cell:∀ x c,X.env.cells.lookup x=some c->∃ v,s.heap.IsCell c v
 free:H X.env.locals=none
 freeC:∀ x c,X.env.cells.lookup x=some c->H c=none
 pin:∀ p∈X.pn++pins,s.heap.get? p.1=some p.2/\H p.1=none/\p.1≠X.env.locals/\p.1∉X.fs/\∀ v,p.2.data≠.cell v
 hok:HOk X.prog X.w H s.heap
 len:σ.length=X.N.length
section
variable {X:Cx}{pins:List (Addr×Obj)}{σ:List (Option V)}{H H':Hp}{s:Shared}{h':Heap}
theorem Cx.Ok.nofr (ok:X.Ok){b:Addr}{o:Obj}(e:X.base.get? b=some o):b∉X.fs:=fun hb=>by
 have:=(ok.funs.mem hb).1;rw [e] at this;cases this
theorem Inv.bs (I:Inv X pins σ H s):∀ b o,X.base.get? b=some o->s.heap.get? b=some o/\H b=none:=fun b o e =>
 ⟨I.base.keep b o (I.ok.bs b o e).1 (I.ok.bs b o e).2 (I.ok.nofr e) (I.ok.noex b o e),I.base.free b o (I.ok.bs b o e).1 (I.ok.bs b o e).2 (I.ok.noex b o e)⟩
theorem Inv.bk (I:Inv X pins σ H s):∀ b o,X.base.get? b=some o->s.heap.get? b=some o:=fun b o e=>(I.bs b o e).1
theorem Inv.mod (I:Inv X pins σ H s):Mod X.K X.mg X.base:=I.ok.mod
theorem Inv.kIn (I:Inv X pins σ H s):X.K.In s.heap:=I.ok.mod.kin.keeps I.bk
theorem Inv.lt (I:Inv X pins σ H s):X.env.locals<s.heap.objs.size:=let ⟨_,hn,_⟩:=I.loc;hn.lt
theorem Inv.sz (I:Inv X pins σ H s):X.s₀.heap.objs.size<=s.heap.objs.size:=Yb I.ok.above (YF I.lt)
theorem Inv.nofs (I:Inv X pins σ H s){a:Addr}(h:s.heap.objs.size<=a):a∉X.fs:=fun hb=>by
 obtain ⟨_,o,ho,_⟩:=I.ok.funs.mem hb;exact absurd (ZD (Zp ho) (Yb I.sz h)) (Yq _)
theorem Inv.cne (I:Inv X pins σ H s):∀ x c,X.env.cells.lookup x=some c->c≠X.env.locals:=fun x c e z=>by
 obtain ⟨v,o,ho,hd⟩:=I.cell x c e;obtain ⟨m,⟨o',es,ep,ho',hd',_⟩,_⟩:=I.loc;rw [z,ho'] at ho;cases ho;rw [hd'] at hd;cases hd
theorem Inv.funs (I:Inv X pins σ H s):s.heap.FunFrames X.base X.outer:=by
 have all:∀ (l:List Env),(∀ b∈frs l,b∈X.fs)->X.s₀.heap.FunFrames X.base l->s.heap.FunFrames X.base l:=by
  intro l
  induction l with
  | nil=>intro _ _;trivial
  | cons env r ih =>
   intro hs hl;obtain ⟨hk,⟨L,o,hf,hn,ho,hd⟩,hr⟩:=hl;have hL:L∈X.fs:=hs L (by unfold frs;rw [YJ,hf];exact Zc);obtain ⟨sl,e⟩:=I.base.slot L o ho (I.ok.frf L hL) hL fun z=>I.ok.exfs L z hL;exact ⟨hk,⟨L,_,hf,hn,e,hd⟩,ih (fun b hb=>hs b (by unfold frs;rw [YJ,hf];exact Zb _ hb)) hr⟩
 exact all X.outer (fun _ hb=>hb) I.ok.funs
theorem Inv.stack (I:Inv X pins σ H s):s.heap.FunFrames X.base X.stack:=by
 rcases I.ok.stk with e|⟨e,hf⟩
 ·rw [e];exact I.funs
 ·rw [e];obtain ⟨m,hn,_⟩:=I.loc;refine .cons (by rw [I.ok.kind];decide) hf hn ?_ I.funs;exact Vz (Yb I.ok.bsz I.ok.above)
theorem Inv.stkSub (I:Inv X pins σ H s):∀ b∈frs X.stack,b∈X.env.locals::X.fs:=fun b hb=>by
 rcases I.ok.stk with e|⟨e,hf⟩
 ·rw [e] at hb;exact Zb _ hb
 ·rw [e] at hb;unfold frs at hb;rw [YJ,hf] at hb;exact hb
theorem Inv.stkFree (I:Inv X pins σ H s):∀ b∈frs X.stack,H b=none:=fun b hb=>by
 rcases Zi.mp (I.stkSub b hb) with e|hb
 ·rw [e];exact I.free
 ·obtain ⟨_,o,ho,_⟩:=I.ok.funs.mem hb;exact I.base.free b o ho (I.ok.frf b hb) fun z=>I.ok.exfs b z hb
theorem Inv.step {g':Array GenState}{t':Nat}{d':Drawn}{ch:List Addr}(I:Inv X pins σ H s)
  (hch:∀ b∈ch,(b∈X.ex\/X.s₀.heap.objs.size<=b)/\b≠X.env.locals/\(∀ x c,X.env.cells.lookup x=some c->c≠b)/\∀ p∈X.pn++pins,p.1≠b)
  (keep:∀ b o,b≠X.env.locals->b∉X.fs->b∉ch->s.heap.get? b=some o->H b=none->h'.get? b=some o)
  (slot:∀ b o,b≠X.env.locals->b∈X.fs->b∉ch->s.heap.get? b=some o->H b=none->∃ sl,h'.get? b=some { o with slots:=sl }) (free:∀ b o,b∉ch->s.heap.get? b=some o->H b=none->H' b=none)
  (there:∀ b o,b∉ch->s.heap.get? b=some o->∃ o',h'.get? b=some o')
  (tups:∀ b xs,H b=some (.tup xs)->H' b=some (.tup xs)) (frzs:∀ b o u,H b=some (.frz o u)->H' b=some (.frz o u)) (tbls:∀ b ps,H b=some (.tbl ps)->∃ more,H' b=some (.tbl (ps++more)))
  (ns:∀ m,s.heap.Ns X.env.locals m->h'.Ns X.env.locals m) (hok:HOk X.prog X.w H' h') (hg:AllBare g') :
  Inv X pins σ H' { s with heap:=h',gens:=g',drawn:=d',toks:=t' }:=by
 have neL:∀ b o,X.s₀.heap.get? b=some o->b≠X.env.locals:=fun b o e=>Zu (ZD (Zp e) I.ok.above);have neC:∀ b o,X.s₀.heap.get? b=some o->b∉X.ex->b∉ch:=fun b o e hx hb=>by
  rcases (hch b hb).1 with z|z
  ·exact hx z
  ·exact absurd (ZD (Zp e) z) (Yq _)
 have cellK:∀ x c,X.env.cells.lookup x=some c->∀ v,s.heap.IsCell c v->h'.IsCell c v:=fun x c e v ⟨o,ho,hd⟩=>by
  have nch:c∉ch:=fun z=>(hch c z).2.2.1 x c e rfl
  by_cases hc:c∈X.fs
  ·obtain ⟨sl,q⟩:=slot c o (I.cne x c e) hc nch ho (I.freeC x c e);exact ⟨_,q,hd⟩
  ·exact ⟨o,keep c o (I.cne x c e) hc nch ho (I.freeC x c e),hd⟩
 refine ⟨I.ok,I.os,hg,⟨fun b o e n hb hx=>?_,fun b o e n hb hx=>?_,fun b o e n hx=>?_,fun b o e hx=>?_,fun b xs e=>tups b xs (I.base.tups b xs e),fun b o xs e=>frzs b o xs (I.base.frzs b o xs e),fun b ps e=>?_⟩,?_,fun x c e=>?_,?_,fun x c e=>?_,fun p hp=>?_,hok,I.len⟩
 ·exact keep b o (neL b o e) hb (neC b o e hx) (I.base.keep b o e n hb hx) (I.base.free b o e n hx)
 ·obtain ⟨sl,e1⟩:=I.base.slot b o e n hb hx;obtain ⟨sl',e2⟩:=slot b _ (neL b o e) hb (neC b o e hx) e1 (I.base.free b o e n hx);exact ⟨sl',e2⟩
 ·obtain ⟨o',e1⟩:=I.base.there b o e hx;exact free b o' (neC b o e hx) e1 (I.base.free b o e n hx)
 ·obtain ⟨o',e1⟩:=I.base.there b o e hx;exact there b o' (neC b o e hx) e1
 ·obtain ⟨m1,e1⟩:=I.base.tbls b ps e;obtain ⟨m2,e2⟩:=tbls b _ e1;exact ⟨m1++m2,by rw [e2,Array.append_assoc]⟩
 ·obtain ⟨m,hn,hl⟩:=I.loc;refine ⟨m,ns m hn,fun i x v e1 e2 e3=>?_⟩;obtain ⟨u,r,l⟩:=hl i x v e1 e2 e3;refine ⟨u,r,?_⟩
  rcases l with l|⟨k,c,e,z⟩
  ·exact .inl l
  ·exact .inr ⟨k,c,e,cellK x c e _ z⟩
 ·obtain ⟨v,z⟩:=I.cell x c e;exact ⟨v,cellK x c e v z⟩
 ·obtain ⟨m,⟨o,_,_,ho,_⟩,_⟩:=I.loc;exact free _ o (fun z=>(hch _ z).2.1 rfl) ho I.free
 ·obtain ⟨v,o,ho,hd⟩:=I.cell x c e;exact free c o (fun z=>(hch c z).2.2.1 x c e rfl) ho (I.freeC x c e)
 ·obtain ⟨e,n,ne,nf,d⟩:=I.pin p hp;have nch:p.1∉ch:=fun z=>(hch p.1 z).2.2.2 p hp rfl;exact ⟨keep p.1 p.2 ne nf nch e n,free p.1 p.2 nch e n,ne,nf,d⟩
theorem Inv.un {t':Nat}(I:Inv X pins σ H s)(u:Un X.fs [] H H' s.heap h')(hok:HOk X.prog X.w H' h'):Inv X pins σ H' { s with heap:=h',toks:=t' }:=by
 obtain ⟨m,⟨o,es,ep,ho,r⟩,_⟩:=id I.loc;obtain ⟨sl,hL⟩:=u.any ho I.free (by simp);exact I.step (g':=s.gens) (d':=s.drawn) (ch:=[]) (fun _ z=>nomatch z) (fun b o _ hb _ e n=>u.keep b o e n hb (by simp)) (fun b o _ hb _ e n=>u.slot b o e n hb (by simp)) (fun b o _ e n=>u.free b o e n (by simp)) (fun b o _ e=>u.there b o e (by simp)) u.tups u.frzs u.tbls (fun m' hm=>by
  obtain ⟨o',es',ep',ho',r'⟩:=hm;rw [ho] at ho';cases ho';exact ⟨_,es',ep',hL,r'⟩) hok I.bare
theorem Inv.call {g':Array GenState}{t':Nat}{d':Drawn}{ch:List Addr}(I:Inv X pins σ H s)(u:Un (frs X.stack) ch H H' s.heap h')(hok:HOk X.prog X.w H' h')(hg:AllBare g')
  (hch:∀ b∈ch,(b∈X.ex\/X.s₀.heap.objs.size<=b)/\b≠X.env.locals/\(∀ x c,X.env.cells.lookup x=some c->c≠b)/\∀ p∈X.pn++pins,p.1≠b) :
  Inv X pins σ H' { s with heap:=h',gens:=g',drawn:=d',toks:=t' }:=by
 obtain ⟨m,⟨o,es,ep,ho,r⟩,_⟩:=id I.loc;obtain ⟨sl,hL⟩:=u.any ho I.free fun z=>(hch _ z).2.1 rfl;exact I.step (ch:=ch) hch (fun b o hL hb hc e n=>u.keep b o e n (fun z=>(Zi.mp (I.stkSub b z)).elim hL hb) hc) (fun b o _ _ hc e n=>u.any e n hc) (fun b o hc e n=>u.free b o e n hc) (fun b o hc e=>u.there b o e hc) u.tups u.frzs u.tbls (fun m' hm=>by
  obtain ⟨o',es',ep',ho',r'⟩:=hm;rw [ho] at ho';cases ho';exact ⟨_,es',ep',hL,r'⟩) hok hg
theorem Inv.turned {t':Nat}{it:Addr}(I:Inv X pins σ H s)(k:∀ b o,b≠it->s.heap.get? b=some o->h'.get? b=some o)(hn:H it=none)(hL:it≠X.env.locals)
  (h1:it∈X.ex\/X.s₀.heap.objs.size<=it) (h2:∀ x c,X.env.cells.lookup x=some c->c≠it) (h3:∀ p∈X.pn++pins,p.1≠it):Inv X pins σ H { s with heap:=h',toks:=t' }:=by
 have nit:∀ b u,H b=some u->b≠it:=fun b u e z=>by rw [z,hn] at e;cases e
 refine I.step (g':=s.gens) (d':=s.drawn) (ch:=[it]) (fun b hb=>?_) (fun b o _ _ hc e _=>k b o (fun z=>hc (by simp [z])) e) (fun b o _ _ hc e _=>⟨o.slots,k b o (fun z=>hc (by simp [z])) e⟩) (fun _ _ _ _ n=>n)
  (fun b o hc e=>⟨o,k b o (fun z=>hc (by simp [z])) e⟩) (fun _ _ e=>e) (fun _ _ _ e=>e) (fun b ps e=>⟨#[],by rw [e];simp⟩) (fun m hm=>?_) (fun b u e=>?_) I.bare
 ·have e:b=it:=by simpa using hb
  subst e;exact ⟨h1,hL,h2,h3⟩
 ·obtain ⟨o,es,ep,ho,r⟩:=hm;exact ⟨o,es,ep,k _ o (Ne.symm hL) ho,r⟩
 ·refine (I.hok b u e).stay (fun c v hc q=>k c v ?_ q) (fun _ q=>q) fun _ _ q=>q
  rcases hc with z|z
  ·rw [z];exact nit b u e
  ·exact nit c _ z
theorem Inv.tok (I:Inv X pins σ H s)(t:Nat):Inv X pins σ H { s with toks:=t }:=I.un (h':=s.heap) (t':=t) Un.refl I.hok
theorem Inv.kept {t':Nat}(I:Inv X pins σ H s)(k:∀ b u,s.heap.get? b=some u->h'.get? b=some u):Inv X pins σ H { s with heap:=h',toks:=t' }:=I.un (Un.kept k) (I.hok.kept k)
theorem Inv.laid {a:Addr}{o:HO}{t':Nat}(I:Inv X pins σ H s)(k:∀ b u,s.heap.get? b=some u->h'.get? b=some u)(hp:s.heap.objs.size<=a)(new:ObjOk X.prog X.w (upd H a o) h' a o) :
  Inv X pins σ (upd H a o) { s with heap:=h',toks:=t' }:=I.un (Un.laid k hp (I.hok.fresh hp)) (I.hok.laid k hp new)
theorem Inv.write {x e:Addr}{o:HO}{t':Nat}(I:Inv X pins σ H s)(mu:Mut (H x))(he:e=x\/H e=some (.own x))(k:∀ b u,b≠e->s.heap.get? b=some u->h'.get? b=some u)(heo:∃ u,h'.get? e=some u)
  (new:ObjOk X.prog X.w (upd H x o) h' x o):Inv X pins σ (upd H x o) { s with heap:=h',toks:=t' }:=I.un (Un.write mu he k heo) (I.hok.write mu he k heo new)
theorem Inv.pins_of {pins':List (Addr×Obj)}(I:Inv X pins σ H s)(h:∀ p∈pins',s.heap.get? p.1=some p.2/\H p.1=none/\p.1≠X.env.locals/\p.1∉X.fs/\∀ v,p.2.data≠.cell v):Inv X pins' σ H s :=
 ⟨I.ok,I.os,I.bare,I.base,I.loc,I.cell,I.free,I.freeC,fun p hp=>(Zs.mp hp).elim (fun z=>I.pin p (Z5 _ z)) (h p),I.hok,I.len⟩
theorem B2 {N:List Str}(hN:N.Nodup){i j:Nat}{x:Str}(a:N[i]?=some x)(b:N[j]?=some x):i=j:=by
 obtain ⟨h1,e1⟩:=Zr.mp a;obtain ⟨h2,e2⟩:=Zr.mp b;exact (Je hN).mp (e1.trans e2.symm)
theorem GK {M:Model}{A:Around}{E:Value->Shared->Prop}{i:Nat}{x:Str}{v:V}{u:Value}{Q:Unit->Shared->Prop}(I:Inv X pins σ H s)(hN:X.N.Nodup)(hi:X.N[i]?=some x)(hx:Loc X.env.scope x)(r:RelV v u)
  (h:∀ s',Inv X pins (σ.set i (some v)) H s'->(∃ a,Heap.SameBut a s.heap s'.heap/\(a=X.env.locals\/X.env.cells.lookup x=some a))->Q () s') (hf:X.fn x=true\/X.env.scope.names.lookup x=some .local:=by first|exact .inl rfl|exact .inr rfl|assumption):wpAny M A (storeName X.env x u) Q E s:=by
 obtain ⟨m,hn,hl⟩:=id I.loc;have hcls:(X.env.scope.kind==.class||(X.env.scope.kind==.module&&X.env.locals !=X.env.globals))=false:=by rw [I.ok.kind];rfl
 have hiσ:i<σ.length:=by rw [I.len];exact (Zr.mp hi).1
 have cne:=I.cne;have tracked:∀ {a:Addr} {h':Heap},(∃ o,s.heap.get? a=some o/\H a=none)->Heap.SameBut a s.heap h'->HOk X.prog X.w H h':=fun {a h'} ha hs b ob e=>by
  obtain ⟨_,_,hfree⟩:=ha;refine (I.hok b ob e).stay (fun c w' hc q=>(hs.2 c ?_).trans q) (fun _ q=>q) fun _ _ q=>q;rintro rfl
  rcases hc with rfl|hc
  ·rw [hfree] at e;cases e
  ·rw [hfree] at hc;cases hc
 rcases hx with hk|hk
 ·refine wpAny_storeName_local hk hn (fun h' hn' hs=>?_) hcls;obtain ⟨oL,_,_,hoL,_⟩:=id hn;refine h _ ⟨I.ok,I.os,I.bare,⟨fun b o e n hb hx=>?_,fun b o e n hb hx=>?_,I.base.free,fun b o e hx=>?_,I.base.tups,I.base.frzs,I.base.tbls⟩,⟨_,hn',fun j y v' e1 e2 e3=>?_⟩,fun y c e=>?_,I.free,I.freeC,fun p hp=>?_,tracked ⟨oL,hoL,I.free⟩ hs,by simpa using I.len⟩ ⟨_,hs,.inl rfl⟩
  ·exact (hs.2 b (Zu (ZD (Zp e) I.ok.above))).trans (I.base.keep b o e n hb hx)
  ·obtain ⟨sl,e1⟩:=I.base.slot b o e n hb hx;exact ⟨sl,(hs.2 b (Zu (ZD (Zp e) I.ok.above))).trans e1⟩
  ·obtain ⟨o',e1⟩:=I.base.there b o e hx;exact ⟨o',(hs.2 b (Zu (ZD (Zp e) I.ok.above))).trans e1⟩
  ·by_cases hj:j=i
   ·subst hj;rw [hi] at e1;cases e1;rw [List.getElem?_set_self hiσ] at e2;cases e2;exact ⟨u,r,.inl ⟨hk,by simp⟩⟩
   ·rw [List.getElem?_set_ne (Ne.symm hj)] at e2;obtain ⟨u',r',q⟩:=hl j y v' e1 e2 e3;refine ⟨u',r',?_⟩
    rcases q with ⟨k,e⟩|⟨k,c,e,z⟩
    ·refine .inl ⟨k,?_⟩;have:y≠x:=fun e=>hj (B2 hN e1 (e▸hi));simp [this,e]
    ·exact .inr ⟨k,c,e,z.sameBut hs (cne y c e)⟩
  ·obtain ⟨w',z⟩:=I.cell y c e;exact ⟨w',z.sameBut hs (cne y c e)⟩
  ·obtain ⟨e,n,ne,nf,d⟩:=I.pin p hp;exact ⟨(hs.2 p.1 ne).trans e,n,ne,nf,d⟩
 ·have hfn:X.fn x=true:=by
   rcases hf with z|z
   ·exact z
   ·rw [z] at hk;cases hk
  obtain ⟨c,hc⟩:=I.ok.has x (.inl hk);obtain ⟨w',z⟩:=I.cell x c hc;refine wpAny_storeName_cell I.ok.kind hk hc z (fun h' hc' hs=>?_);obtain ⟨oc,hoc,hocd⟩:=id z;refine h { s with heap:=h' } ⟨I.ok,I.os,I.bare,⟨fun b o e n hb hx=>?_,fun b o e n hb hx=>?_,I.base.free,fun b o e hx=>?_,I.base.tups,I.base.frzs,I.base.tbls⟩,⟨m,hn.sameBut hs (Ne.symm (cne x c hc)),fun j y v' e1 e2 e3=>?_⟩,fun y c' e=>?_,I.free,I.freeC,fun p hp=>?_,tracked ⟨oc,hoc,I.freeC x c hc⟩ hs,by simpa using I.len⟩ ⟨c,hs,.inr hc⟩
  ·exact (hs.2 b (Zu (ZD (Zp e) (I.ok.cab x c hfn hc)))).trans (I.base.keep b o e n hb hx)
  ·obtain ⟨sl,e1⟩:=I.base.slot b o e n hb hx;exact ⟨sl,(hs.2 b (Zu (ZD (Zp e) (I.ok.cab x c hfn hc)))).trans e1⟩
  ·obtain ⟨o',e1⟩:=I.base.there b o e hx;exact ⟨o',(hs.2 b (Zu (ZD (Zp e) (I.ok.cab x c hfn hc)))).trans e1⟩
  ·by_cases hj:j=i
   ·subst hj;rw [hi] at e1;cases e1;rw [List.getElem?_set_self hiσ] at e2;cases e2;exact ⟨u,r,.inr ⟨.inl hk,c,hc,hc'⟩⟩
   ·rw [List.getElem?_set_ne (Ne.symm hj)] at e2;obtain ⟨u',r',q⟩:=hl j y v' e1 e2 e3;refine ⟨u',r',?_⟩
    rcases q with q|⟨k,c',e,z'⟩
    ·exact .inl q
    ·refine .inr ⟨k,c',e,z'.sameBut hs ?_⟩;rintro rfl;exact hj (B2 hN e1 (I.ok.inj _ _ _ e hc▸hi))
  ·by_cases hcc:c'=c
   ·subst hcc;exact ⟨_,hc'⟩
   ·obtain ⟨w2,z2⟩:=I.cell y c' e;exact ⟨w2,z2.sameBut hs hcc⟩
  ·obtain ⟨e,n,ne,nf,d⟩:=I.pin p hp;refine ⟨(hs.2 p.1 ?_).trans e,n,ne,nf,d⟩;intro q;rw [q,hoc] at e;have q':oc=p.2:=Option.some.inj e;exact d w' (by rw [←q'];exact hocd)
theorem store_ok {M:Model}{A:Around}{E:Value->Shared->Prop}{i:Nat}{x:Str}{v:V}{u:Value}{Q:Unit->Shared->Prop}(I:Inv X pins σ H s)(hN:X.N.Nodup)(hi:X.N[i]?=some x)(hx:Loc X.env.scope x)(r:RelV v u)
  (h:∀ s',Inv X pins (σ.set i (some v)) H s'->Q () s') (hf:X.fn x=true\/X.env.scope.names.lookup x=some .local:=by first|exact .inl rfl|exact .inr rfl|assumption):wpAny M A (storeName X.env x u) Q E s :=
 GK I hN hi hx r (fun s' I' _=>h s' I') hf
theorem Inv.call' {s':Shared}{ch:List Addr}(I:Inv X pins σ H s)(ho:s'.os=s.os)(u:Un (frs X.stack) ch H H' s.heap s'.heap)(hok:HOk X.prog X.w H' s'.heap)(hg:AllBare s'.gens)
  (hch:∀ b∈ch,(b∈X.ex\/X.s₀.heap.objs.size<=b)/\b≠X.env.locals/\(∀ x c,X.env.cells.lookup x=some c->c≠b)/\∀ p∈X.pn++pins,p.1≠b):Inv X pins σ H' s':=by
 obtain ⟨h',g',d',t',o'⟩:=s';have e:o'=s.os:=ho;subst e;exact I.call (g':=g') (t':=t') (d':=d') u hok hg hch
end
abbrev XK:=Value->Option Addr->Hp->Prop
abbrev St:=List (Option V)
abbrev VK:=V->Hp->Prop
abbrev TE:=St->Hp->VK->Prop
abbrev TT:=St->Hp->(Bool->Hp->Prop)->Prop
abbrev TA:=St->Hp->(List V->Hp->Prop)->Prop
structure Ends where
 nx:St->Hp->Prop
 rt:VK
 bk:St->Hp->Prop:=fun _ _=>False
 ct:St->Hp->Prop:=fun _ _=>False
abbrev TS:=Ends->St->Hp->Prop
def EP (X:Cx)(pins:List (Addr×Obj))(σ:St)(Q:VK)(u:Value)(s':Shared):Prop:=∃ v H',Inv X pins σ H' s'/\RelV v u/\Q v H'
def TP (X:Cx)(pins:List (Addr×Obj))(σ:St)(Q:Bool->Hp->Prop)(b:Bool)(s':Shared):Prop:=∃ H',Inv X pins σ H' s'/\Q b H'
def AP (X:Cx)(pins:List (Addr×Obj))(σ:St)(Q:List V->Hp->Prop)(us:List Value)(s':Shared):Prop:=∃ vs H',Inv X pins σ H' s'/\Vals vs us/\Q vs H'
def SP (X:Cx)(pins:List (Addr×Obj))(D:Ends)(f:Flow)(s':Shared):Prop :=
 match f with
 | .next=>∃ σ' H',Inv X pins σ' H' s'/\D.nx σ' H'
 | .brk=>∃ σ' H',Inv X pins σ' H' s'/\D.bk σ' H'
 | .cont=>∃ σ' H',Inv X pins σ' H' s'/\D.ct σ' H'
 | .ret u=>∃ v σ' H',Inv X pins σ' H' s'/\RelV v u/\D.rt v H'
def PE (X:Cx)(e:Expr)(t:TE):Prop :=
 ∀ (pins:List (Addr×Obj)) (s:Shared) (σ:St) (H:Hp) (Q:VK),Inv X pins σ H s->t σ H Q->wpAny (model X.prog X.w) X.A (eval e X.env) (EP X pins σ Q) X.xe s
def PT (X:Cx)(e:Expr)(t:TT):Prop :=
 ∀ (pins:List (Addr×Obj)) (s:Shared) (σ:St) (H:Hp) (Q:Bool->Hp->Prop),Inv X pins σ H s->t σ H Q->wpAny (model X.prog X.w) X.A (isTrue e X.env (eval e X.env)) (TP X pins σ Q) X.xe s
def PW (X:Cx)(e:Expr)(t:TT):Prop :=
 ∀ (whole:Sem Value) (pins:List (Addr×Obj)) (s:Shared) (σ:St) (H:Hp) (Q:Bool->Hp->Prop),Inv X pins σ H s->t σ H Q->wpAny (model X.prog X.w) X.A (isTrue e X.env whole) (TP X pins σ Q) X.xe s
theorem PW.pt {X:Cx}{e:Expr}{t:TT}(h:PW X e t):PT X e t:=h _
def PA (X:Cx)(es:List Expr)(t:TA):Prop :=
 ∀ (pos:Pos) (pins:List (Addr×Obj)) (s:Shared) (σ:St) (H:Hp) (Q:List V->Hp->Prop),Inv X pins σ H s->t σ H Q->wpAny (model X.prog X.w) X.A (spliced (backTo pos (starEach es X.env))) (AP X pins σ Q) X.xe s
def PS (X:Cx)(st:Stmt)(t:TS):Prop :=
 ∀ (pins:List (Addr×Obj)) (s:Shared) (σ:St) (H:Hp) (D:Ends),Inv X pins σ H s->t D σ H->wpAny (model X.prog X.w) X.A (exec st X.env) (SP X pins D) X.xe s
def PSs (X:Cx)(st:List Stmt)(t:TS):Prop :=
 ∀ (pins:List (Addr×Obj)) (s:Shared) (σ:St) (H:Hp) (D:Ends),Inv X pins σ H s->t D σ H->wpAny (model X.prog X.w) X.A (execs st X.env) (SP X pins D) X.xe s
theorem thn {α:Type}{t:Sem α}{Q Q':α->Shared->Prop}{M:Model}{A:Around}{E:Value->Shared->Prop}{s:Shared}(h:wpAny M A t Q E s)(hQ:∀ a s,Q a s->Q' a s):wpAny M A t Q' E s:=Yn h hQ fun _ _ x=>x
end L2
namespace L2
open PySem PySem.Spec PyProof.Rows
section
variable {X:Cx}
def tVar (i:Nat):TE:=fun σ H Q=>∃ v,σ[i]?=some (some v)/\Q v H
def tC (v:V):TE:=fun _ H Q=>Q v H
theorem pe_var {i:Nat}{x:Str}{pos:Pos}(hN:X.N[i]?=some x)(hv:Vis X.env.scope x)(hd:(x==("__debug__":Str))=false:=by decide)(hcd:(x==("__classdict__":Str))=false:=by decide):PE X (.Name x pos) (tVar i):=by
 intro pins s σ H Q I h;obtain ⟨v,e,h⟩:=h;obtain ⟨m,hn,hl⟩:=I.loc;obtain ⟨u,r,l⟩:=hl i x v hN e hv;have fin:EP X pins σ Q u s:=⟨v,H,I,r,h⟩
 rcases l with ⟨hk,hm⟩|⟨hk,c,hc,hcell⟩
 ·exact wpAny_Name (wpAny_loadName_local I.ok.kind hk hn hm fin) hd
 ·rcases hk with hk|hk
  ·exact wpAny_Name (wpAny_loadName_cell I.ok.kind hk hc hcell fin) hd
  ·exact wpAny_Name (wpAny_loadName_free I.ok.kind hk hc hcell fin hcd) hd
theorem zI {i j pos}:PE X (.Constant (.int i) j pos) (tC (.int i)):=fun _ _ _ H _ I h=>wpAny_Constant_int ⟨.int i,H,I.tok _,⟨_,rfl⟩,h⟩
theorem x5 {b j pos}:PE X (.Constant (.bool b) j pos) (tC (.bl b)):=fun _ _ _ H _ I h=>Constant_bool ⟨.bl b,H,I,rfl,h⟩
theorem X0 {j pos}:PE X (.Constant .none j pos) (tC .non):=fun _ _ _ H _ I h=>Constant_none ⟨.non,H,I,rfl,h⟩
theorem pe_str {x j pos}:PE X (.Constant (.str x) j pos) (tC (.str x)):=fun _ _ _ H _ I h=>Calls.Constant_str ⟨.str x,H,I.tok _,⟨_,rfl⟩,h⟩
def Gl (X:Cx)(x:Str):Prop:=X.env.kindOf x=some .globalImplicit
theorem uB {E:Value->Shared->Prop}{pins:List (Addr×Obj)}{s:Shared}{σ:St}{H:Hp}{x:Str}{u:Value}{pos:Pos}{Q:Value->Shared->Prop}(I:Inv X pins σ H s)(hg:Gl X x)(hm:X.mg x=some u)(h:Q u s)
  (hd:(x==("__debug__":Str))=false:=by decide):wpAny (model X.prog X.w) X.A (eval (.Name x pos) X.env) Q E s :=
 Calls.Name_function_global I.ok.kind hg (Calls.loadGlobal_global (by rw [I.ok.glob];exact I.mod.glob.keeps I.bk) hm h) hd
theorem U8 {E:Value->Shared->Prop}{pins:List (Addr×Obj)}{s:Shared}{σ:St}{H:Hp}{x:Str}{u:Value}{pos:Pos}{Q:Value->Shared->Prop}(I:Inv X pins σ H s)(hg:Gl X x)(hm:X.mg x=none)(hv:bootBuiltins x=some u)(h:Q u s)
  (hn:x≠"__name__":=by decide) (hd:(x==("__debug__":Str))=false:=by decide):wpAny (model X.prog X.w) X.A (eval (.Name x pos) X.env) Q E s:=by
 obtain ⟨mb,h1,h2⟩:=I.mod.blt;exact Calls.Name_function_global I.ok.kind hg (Calls.loadGlobal_builtin (by rw [I.ok.glob];exact I.mod.glob.keeps I.bk) hm (by rw [I.ok.blt];exact h1.keeps I.bk) ((h2 x hn).trans hv) h) hd
theorem jC {x:Str}{v:V}{u:Value}{pos:Pos}(hg:Gl X x)(hm:X.mg x=some u)(r:RelV v u)(hd:(x==("__debug__":Str))=false:=by decide):PE X (.Name x pos) (tC v) :=
 fun _ _ _ H _ I h=>uB I hg hm ⟨v,H,I,r,h⟩ hd
theorem yS {x:Str}{v:V}{u:Value}{pos:Pos}(hg:Gl X x)(hm:X.mg x=none)(hv:bootBuiltins x=some u)(r:RelV v u)(hn:x≠"__name__":=by decide)(hd:(x==("__debug__":Str))=false:=by decide):PE X (.Name x pos) (tC v) :=
 fun _ _ _ H _ I h=>U8 I hg hm hv ⟨v,H,I,r,h⟩ hn hd
variable {a b:Expr}{ta tb:TE}{pos:Pos}
def PC (X:Cx)(op:CmpOp)(a b:Expr)(t:TE):Prop :=
 ∀ (pins:List (Addr×Obj)) (s:Shared) (σ:St) (H:Hp) (Q:VK),Inv X pins σ H s->t σ H Q ->
  wpAny (model X.prog X.w) X.A (eval a X.env) (fun v s₁=>wpAny (model X.prog X.w) X.A (eval b X.env) (fun u s₂=>wpAny (model X.prog X.w) X.A (compareOp op v u) (EP X pins σ Q) X.xe s₂) X.xe s₁) X.xe s
variable {tA tB':TT}{rest:List Expr}
def tAnd (t u:TT):TT:=fun σ H Q=>t σ H fun c H1=>if c=true then u σ H1 Q else Q false H1
def tOr (t u:TT):TT:=fun σ H Q=>t σ H fun c H1=>if c=true then Q true H1 else u σ H1 Q
def tNot (t:TT):TT:=fun σ H Q=>t σ H fun c H1=>Q (!c) H1
theorem pw_and1 (ha:PT X a tA):PW X (.BoolOp .And [a] pos) tA:=by
 intro wh pins s σ H Q I h;refine isTrue_and (thn (ha pins s σ H Q I h) fun c s1 e=>?_);cases c with
 | true=>exact isTrue_and_nil e
 | false=>exact e
theorem qZ (ha:PT X a tA):PW X (.BoolOp .Or [a] pos) tA:=by
 intro wh pins s σ H Q I h;refine isTrue_or (thn (ha pins s σ H Q I h) fun c s1 e=>?_);cases c with
 | false=>exact isTrue_or_nil e
 | true=>exact e
theorem pw_and (ha:PT X a tA)(hb:PW X (.BoolOp .And (b::rest) pos) tB'):PW X (.BoolOp .And (a::b::rest) pos) (tAnd tA tB'):=by
 intro wh pins s σ H Q I h;refine isTrue_and (thn (ha pins s σ H _ I h) fun c s1 ⟨H1,I1,q1⟩=>?_);cases c with
 | true=>exact hb wh pins s1 σ H1 Q I1 q1
 | false=>exact ⟨H1,I1,q1⟩
theorem j8 (ha:PT X a tA)(hb:PW X (.BoolOp .Or (b::rest) pos) tB'):PW X (.BoolOp .Or (a::b::rest) pos) (tOr tA tB'):=by
 intro wh pins s σ H Q I h;refine isTrue_or (thn (ha pins s σ H _ I h) fun c s1 ⟨H1,I1,q1⟩=>?_);cases c with
 | true=>exact ⟨H1,I1,q1⟩
 | false=>exact hb wh pins s1 σ H1 Q I1 q1
theorem y9 (ha:PT X a tA):PT X (.UnaryOp .Not a pos) (tNot tA):=by
 intro pins s σ H Q I h;exact isTrue_not (ha pins s σ H (fun c H1=>Q (!c) H1) I h)
def tAndV (ta tb:TE):TE:=fun σ H Q=>ta σ H fun x H1=>∃ c,x=.bl c/\if c=true then tb σ H1 Q else Q (.bl false) H1
def tOrV (ta tb:TE):TE:=fun σ H Q=>ta σ H fun x H1=>∃ c,x=.bl c/\if c=true then Q (.bl true) H1 else tb σ H1 Q
theorem xK {op}{t:TE}(h:PE X a t):PE X (.BoolOp op [a] pos) t:=fun pins s σ H Q I hw=>BoolOp_one (h pins s σ H Q I hw)
theorem yV (ha:PE X a ta)(hb:PE X (.BoolOp .And (b::rest) pos) tb):PE X (.BoolOp .And (a::b::rest) pos) (tAndV ta tb):=by
 intro pins s σ H Q I h;refine BoolOp_and (thn (ha pins s σ H _ I h) fun v s1 ⟨x,H1,I1,r1,q1⟩=>?_);obtain ⟨c,rfl,q1⟩:=q1;cases r1;refine YV ?_;cases c with
 | true=>exact hb pins s1 σ H1 Q I1 q1
 | false=>exact ⟨.bl false,H1,I1,rfl,q1⟩
theorem pe_or (ha:PE X a ta)(hb:PE X (.BoolOp .Or (b::rest) pos) tb):PE X (.BoolOp .Or (a::b::rest) pos) (tOrV ta tb):=by
 intro pins s σ H Q I h;refine BoolOp_or (thn (ha pins s σ H _ I h) fun v s1 ⟨x,H1,I1,r1,q1⟩=>?_);obtain ⟨c,rfl,q1⟩:=q1;cases r1;refine YV ?_;cases c with
 | false=>exact hb pins s1 σ H1 Q I1 q1
 | true=>exact ⟨.bl true,H1,I1,rfl,q1⟩
def tIf (t:TT)(ta tb:TE):TE:=fun σ H Q=>t σ H fun c H1=>if c=true then ta σ H1 Q else tb σ H1 Q
theorem pe_ifExp {c:Expr}(hc:PT X c tA)(ha:PE X a ta)(hb:PE X b tb):PE X (.IfExp c a b pos) (tIf tA ta tb):=by
 intro pins s σ H Q I h;refine wpAny_IfExp (thn (hc pins s σ H _ I h) fun d s1 ⟨H1,I1,q1⟩=>?_);cases d with
 | true=>exact ha pins s1 σ H1 Q I1 q1
 | false=>exact hb pins s1 σ H1 Q I1 q1
end
end L2
namespace L2
open PySem PySem.Spec PyProof.Rows
def SqL (K:ZZF)(H:Hp)(a:Addr)(xs:List V):Prop :=
 Rd H a (.lst xs) \/
  ∃ (o:Obj) (its:Array Value) (n:Nat),K.lookup a=some o/\o.cls=.type "list"/\o.dict=none/\o.data=.seq its n/\its.size<=sizeLine/\Vals xs its.toList
def SqT (K:ZZF)(H:Hp)(a:Addr)(xs:List V):Prop :=
 Rd H a (.tup xs) \/
  ∃ (o:Obj) (its:Array Value) (n:Nat),K.lookup a=some o/\o.cls=.type "tuple"/\o.dict=none/\o.data=.seq its n/\its.size<=sizeLine/\Vals xs its.toList
def absV:Value->Option V
 | .none=>some .non
 | .bool b=>some (.bl b)
 | .int i _=>some (.int i)
 | .str x _=>some (.str x)
 | .bytes b _=>some (.byt b)
 | .float b _=>some (.flt b)
 | .ref a=>some (.ref a)
 | .type n=>some (.ty n)
 | _=>none
theorem RelV.abs {x:V}{u:Value}(r:RelV x u):absV u=some x:=by
 cases x with
 | non=>cases r;rfl
 | bl _=>cases r;rfl
 | int _=>obtain ⟨t,rfl⟩:=r;rfl
 | str _=>obtain ⟨t,rfl⟩:=r;rfl
 | byt _=>obtain ⟨t,rfl⟩:=r;rfl
 | flt _=>obtain ⟨t,rfl⟩:=r;rfl
 | ref _=>cases r;rfl
 | ty _=>cases r;rfl
theorem RelV.inj {x y:V}{u:Value}(r:RelV x u)(q:RelV y u):x=y:=Option.some.inj (r.abs.symm.trans q.abs)
theorem Vals.inj:∀ {xs ys:List V} {us:List Value},Vals xs us->Vals ys us->xs=ys
 | _,_,_,.nil,.nil=>rfl
 | _,_,_,.cons r t,.cons r' t'=>by rw [r.inj r',Vals.inj t t']
section
variable {X:Cx}{pins:List (Addr×Obj)}{σ:St}{H:Hp}{s:Shared}{a:Addr}{xs ys:List V}
theorem SqL.of {K:ZZF}(h:H a=some (.lst xs)):SqL K H a xs:=.inl (.inl h)
theorem SqT.of {K:ZZF}(h:H a=some (.tup xs)):SqT K H a xs:=.inl (.inl h)
theorem Inv.list (I:Inv X pins σ H s)(h:SqL X.K H a xs):∃ its:List Value,Vals xs its/\PlainL s.heap a its.toArray/\xs.length<=sizeLine:=by
 rcases h with h|⟨o,its,n,hk,hc,hd,hs,hz,r⟩
 ·obtain ⟨z,its,n,r,e⟩:=h.ok I.hok;exact ⟨its,r,⟨_,n,e,rfl,rfl,rfl⟩,z⟩
 ·refine ⟨its.toList,r,⟨o,n,I.kIn a o hk,hc,hd,by simpa using hs⟩,?_⟩;have e:=r.length;simp only [ZE] at e;omega
theorem Inv.tupleD (I:Inv X pins σ H s)(h:SqT X.K H a xs):∃ its:List Value,Vals xs its/\TupAt s.heap a its.toArray/\xs.length<=sizeLine:=by
 rcases h with h|⟨o,its,n,hk,hc,hdn,hs,hz,r⟩
 ·obtain ⟨z,its,r,p⟩:=h.ok I.hok;exact ⟨its,r,p,z⟩
 ·refine ⟨its.toList,r,⟨o,I.kIn a o hk,hc,n,by simpa using hs,hdn⟩,?_⟩;have e:=r.length;simp only [ZE] at e;omega
theorem Inv.tuple (I:Inv X pins σ H s)(h:SqT X.K H a xs):∃ its:List Value,Vals xs its/\IsTup s.heap a its.toArray/\xs.length<=sizeLine:=by
 obtain ⟨its,r,p,z⟩:=I.tupleD h;exact ⟨its,r,p.is,z⟩
theorem Inv.list_inj (I:Inv X pins σ H s)(h:SqL X.K H a xs)(h':SqL X.K H a ys):xs=ys:=by
 obtain ⟨its,r,⟨o,n,e,_,_,d⟩,_⟩:=I.list h;obtain ⟨its',r',⟨o',n',e',_,_,d'⟩,_⟩:=I.list h';rw [e] at e';cases e';rw [d] at d';injection d' with d1 _;have:its=its':=by simpa using congrArg Array.toList d1
 subst this;exact r.inj r'
theorem Inv.tuple_inj (I:Inv X pins σ H s)(h:SqT X.K H a xs)(h':SqT X.K H a ys):xs=ys:=by
 obtain ⟨its,r,⟨o,e,_,n,d⟩,_⟩:=I.tuple h;obtain ⟨its',r',⟨o',e',_,n',d'⟩,_⟩:=I.tuple h';rw [e] at e';cases e';rw [d] at d';injection d' with d1 _;have:its=its':=by simpa using congrArg Array.toList d1
 subst this;exact r.inj r'
end
abbrev Cx.wish (X:Cx)(E:Value->Shared->Prop):Cx:={ X with xe:=E }
abbrev Cx.nox (X:Cx):Cx:=X.wish fun _ _=>False
theorem Cx.Ok.wish {X:Cx}(ok:X.Ok)(E:Value->Shared->Prop):(X.wish E).Ok :=
 ⟨ok.mod,ok.kind,ok.glob,ok.blt,ok.above,ok.inj,ok.has,ok.cab,ok.hd,ok.frames,ok.stk,ok.exf,ok.bs,ok.bsz,ok.noex,ok.exfs,ok.funs,ok.frf⟩
theorem Cx.Ok.unwish {X:Cx}{E:Value->Shared->Prop}(ok:(X.wish E).Ok):X.Ok :=
 ⟨ok.mod,ok.kind,ok.glob,ok.blt,ok.above,ok.inj,ok.has,ok.cab,ok.hd,ok.frames,ok.stk,ok.exf,ok.bs,ok.bsz,ok.noex,ok.exfs,ok.funs,ok.frf⟩
section
variable {X:Cx}{pins:List (Addr×Obj)}{σ:St}{H:Hp}{s:Shared}{E:Value->Shared->Prop}
theorem Inv.wish (I:Inv X pins σ H s)(E:Value->Shared->Prop):Inv (X.wish E) pins σ H s:=⟨I.ok.wish E,I.os,I.bare,I.base,I.loc,I.cell,I.free,I.freeC,I.pin,I.hok,I.len⟩
theorem Inv.unwish (I:Inv (X.wish E) pins σ H s):Inv X pins σ H s:=⟨I.ok.unwish,I.os,I.bare,I.base,I.loc,I.cell,I.free,I.freeC,I.pin,I.hok,I.len⟩
theorem SP.unwish {D:Ends}{f:Flow}{s':Shared}(h:SP (X.wish E) pins D f s'):SP X pins D f s':=by
 cases f with
 | next=>obtain ⟨σ',H',I,q⟩:=h;exact ⟨σ',H',I.unwish,q⟩
 | brk=>obtain ⟨σ',H',I,q⟩:=h;exact ⟨σ',H',I.unwish,q⟩
 | cont=>obtain ⟨σ',H',I,q⟩:=h;exact ⟨σ',H',I.unwish,q⟩
 | ret u=>obtain ⟨v,σ',H',I,r,q⟩:=h;exact ⟨v,σ',H',I.unwish,r,q⟩
theorem PSs.nox {st:List Stmt}{t:TS}(h:PSs X.nox st t):PSs X st t:=fun pins s σ H D I hw =>
 Yn (h pins s σ H D (I.wish _) hw) (fun _ _ q=>q.unwish) fun _ _ z=>False.elim z
end
section
variable {X:Cx}{st:Stmt}{rest:List Stmt}{t u:TS}{e:Expr}{te:TE}{pos:Pos}
def tNext:TS:=fun D σ H=>D.nx σ H
def tSeq (t u:TS):TS:=fun D σ H=>t { D with nx:=u D } σ H
theorem zR:PSs X [] tNext:=fun _ _ σ H _ I h=>VC ⟨σ,H,I,h⟩
theorem zD (h1:PS X st t)(h2:PSs X rest u):PSs X (st::rest) (tSeq t u):=by
 intro pins s σ H D I h;refine VY (thn (h1 pins s σ H { D with nx:=u D } I h) fun f s1 q=>?_);cases f with
 | next =>
  obtain ⟨σ',H',I',q⟩:=q;exact h2 pins s1 σ' H' D I' q
 | ret v=>exact q
 | brk=>exact q
 | cont=>exact q
theorem zE (h1:PS X st t):PSs X [st] t:=by
 intro pins s σ H D I h;refine VY (thn (h1 pins s σ H D I h) fun f s1 q=>?_);cases f with
 | next=>exact VC q
 | ret v=>exact q
 | brk=>exact q
 | cont=>exact q
theorem Inv.quiet {pins:List (Addr×Obj)}{σ:St}{H:Hp}{s:Shared}(I:Inv X pins σ H s):interactive X.env=false:=by simp [interactive,I.ok.kind]
def tDrop (te:TE):TS:=fun D σ H=>te σ H fun _ H1=>D.nx σ H1
theorem yP (he:PE X e te)(hs:swapsWith e none pos.line X.env=pure false:=by rfl):PS X (.Expr e pos) (tDrop te):=by
 intro pins s σ H D I h;exact wpAny_Expr_any (thn (he pins s σ H _ I h) fun v s1 ⟨x,H1,I1,r1,q1⟩=>⟨σ,H1,I1,q1⟩) I.quiet hs
def tRet (te:TE):TS:=fun D σ H=>te σ H D.rt
theorem zL (he:PE X e te):PS X (.Return (some e) pos) (tRet te):=by
 intro pins s σ H D I h;exact wpAny_Return_some (thn (he pins s σ H _ I h) fun v s1 ⟨x,H1,I1,r1,q1⟩=>⟨x,σ,H1,I1,r1,q1⟩)
def tIfS (c:TT)(t u:TS):TS:=fun D σ H=>c σ H fun b H1=>if b=true then t D σ H1 else u D σ H1
theorem yI {c:Expr}{a b:List Stmt}{tc:TT}(hc:PT X c tc)(ha:PSs X a t)(hb:PSs X b u):PS X (.If c a b pos) (tIfS tc t u):=by
 intro pins s σ H D I h;refine wpAny_If (thn (hc pins s σ H _ I h) fun d s1 ⟨H1,I1,q1⟩=>?_);cases d with
 | true=>exact ha pins s1 σ H1 D I1 q1
 | false=>exact hb pins s1 σ H1 D I1 q1
end
abbrev TG:=V->St->Hp->(St->Hp->Prop)->Prop
abbrev TGs:=List V->St->Hp->(St->Hp->Prop)->Prop
def PG (X:Cx)(target:Expr)(t:TG):Prop :=
 ∀ (pins:List (Addr×Obj)) (s:Shared) (σ:St) (H:Hp) (v:V) (u:Value) (Q:St->Hp->Prop),Inv X pins σ H s->RelV v u->t v σ H Q ->
  wpAny (model X.prog X.w) X.A (assign target X.env u) (fun _ s'=>∃ σ' H',Inv X pins σ' H' s'/\Q σ' H') X.xe s
def PGs (X:Cx)(ts:List Expr)(t:TGs):Prop :=
 ∀ (pins:List (Addr×Obj)) (s:Shared) (σ:St) (H:Hp) (vs:List V) (us:List Value) (Q:St->Hp->Prop),Inv X pins σ H s->Vals vs us->t vs σ H Q ->
  wpAny (model X.prog X.w) X.A (assignInOrder ((assignEach ts X.env).map (·.2)) us) (fun _ s'=>∃ σ' H',Inv X pins σ' H' s'/\Q σ' H') X.xe s
section
variable {X:Cx}{pos:Pos}
def BL (i:Nat):TG:=fun v σ H Q=>Q (σ.set i (some v)) H
theorem zQ {i:Nat}{x:Str}(hN:X.N.Nodup)(hi:X.N[i]?=some x)(hx:Loc X.env.scope x)(hf:X.fn x=true\/X.env.scope.names.lookup x=some .local:=by first|exact .inl rfl|exact .inr rfl|assumption):PG X (.Name x pos) (BL i):=by
 intro pins s σ H v u Q I r h;exact wpAny_assign_Name (store_ok I hN hi hx r (fun s' I'=>⟨_,H,I',h⟩) hf)
def gNil:TGs:=fun vs σ H Q=>vs=[]/\Q σ H
def gCons (t:TG)(u:TGs):TGs:=fun vs σ H Q=>∃ v r,vs=v::r/\t v σ H fun σ' H'=>u r σ' H' Q
theorem kX:PGs X [] gNil:=by
 intro pins s σ H vs us Q I r h;obtain ⟨e,h⟩:=h;subst e;cases r;exact assignInOrder_nil ⟨σ,H,I,h⟩
theorem yY {e:Expr}{es:List Expr}{t:TG}{u:TGs}(h1:PG X e t)(h2:PGs X es u)
  (hs:(assignEach (e::es) X.env).map (·.2)=assign e X.env::(assignEach es X.env).map (·.2):=by rfl):PGs X (e::es) (gCons t u):=by
 intro pins s σ H vs us Q I r h;obtain ⟨v,vr,e1,h⟩:=h;subst e1;cases r with
 | cons r rr =>
  rw [hs];refine assignInOrder_cons (thn (h1 pins s σ H _ _ _ I r h) fun _ s1 ⟨σ1,H1,I1,q1⟩=>?_);exact h2 pins s1 σ1 H1 _ _ Q I1 rr q1
def gTup (K:ZZF)(n:Nat)(t:TGs):TG:=fun v σ H Q=>∃ a xs,v=.ref a/\SqT K H a xs/\xs.length=n/\t xs σ H Q
theorem UZ {es:List Expr}{k:Nat}{t:TGs}{n:Nat}(hc:X.calm=true)(h:PGs X es t)
  (hn:(assignEach es X.env).length=n:=by rfl) (hst:(assignEach es X.env).findIdx? (·.1)=none:=by rfl):PG X (.Tuple es k pos) (gTup X.K n t):=by
 intro pins s σ H v u Q I r hw;obtain ⟨a,xs,e1,hq,hl,hw⟩:=hw;subst e1;cases r;obtain ⟨its,rv,ht,hz⟩:=I.tuple hq;refine assign_Tuple_tuple (I.ok.hd hc) ht (by simp [hn,←hl,rv.length]) hst fun h' hx=>?_;have I1:Inv X pins σ H { s with heap:=h' }:=I.kept (t':=s.toks) fun b o e=>hx b o (Zu (Zp e)) e;exact h pins _ σ H xs _ Q I1 (by simpa using rv) hw
def tAsg (te:TE)(g:TG):TS:=fun D σ H=>te σ H fun x H1=>g x σ H1 D.nx
theorem zP {i:Nat}{x:Str}{e:Expr}{te:TE}{pos':Pos}(hN:X.N.Nodup)(hi:X.N[i]?=some x)(hx:Loc X.env.scope x)(he:PE X e te)(hs:swapsWith e (some (.Name x pos')) pos.line X.env=pure false:=by rfl)(hf:X.fn x=true\/X.env.scope.names.lookup x=some .local:=by first|exact .inl rfl|exact .inr rfl|assumption) :
  PS X (.Assign [.Name x pos'] e pos) (tAsg te (BL i)):=by
 intro pins s σ H D I h;refine wpAny_Assign_Name (thn (he pins s σ H _ I h) fun v s1 ⟨y,H1,I1,r1,q1⟩=>?_) hs;exact store_ok I1 hN hi hx r1 (fun s2 I2=>⟨_,H1,I2,q1⟩) hf
end
structure It where
 go:Nat->Hp->Prop
 yld:Nat->Hp->V->Hp->Prop
 stop:Nat->Hp->Prop
def XE (X:Cx)(pins:List (Addr×Obj))(H:Hp)(b:Addr):Prop :=
 H b=none/\b≠X.env.locals/\b∉X.fs/\(b∈X.ex\/X.s₀.heap.objs.size<=b)/\(∀ x c,X.env.cells.lookup x=some c->c≠b)/\∀ p∈X.pn++pins,p.1≠b
theorem Inv.fpOk {X:Cx}{pins:List (Addr×Obj)}{σ:St}{H H':Hp}{s:Shared}{b:Addr}(I:Inv X pins σ H s)(hb:s.heap.objs.size<=b)(hn:H' b=none):XE X pins H' b:=by
 refine ⟨hn,JK (ZD I.lt hb),I.nofs hb,.inr (Yb I.sz hb),fun x c e z=>?_,fun p hp z=>?_⟩
 ·obtain ⟨v,q⟩:=I.cell x c e;exact absurd (ZD q.lt (by rw [z];exact hb)) (Yq _)
 ·exact absurd (ZD (Zp (I.pin p hp).1) (by rw [z];exact hb)) (Yq _)
structure Turn (P:Program)(w:World)(K:ZZF)(tg:Expr)(J:It)(fp:List Addr)(it:Addr)(tn:Nat->Heap->Prop):Prop where
 mem:it∈fp
 obj:∀ i h,tn i h->∀ b∈fp,∃ o,h.get? b=some o/\∀ v,o.data≠.cell v
 keep:∀ i h h',tn i h->(∀ b∈fp,∀ o,h.get? b=some o->h'.get? b=some o)->tn i h'
 item:∀ (X:Cx),X.prog=P->X.w=w->X.K=K->X.calm=true->∀ (i:Nat) (pins:List (Addr×Obj)) (s:Shared) (σ:St) (H:Hp) (E:Value->Shared->Prop),Inv X pins σ H s->(∀ b∈fp,XE X pins H b)->tn i s.heap->J.go i H ->
  wpAny (model P w) X.A (pyNext (.ref it)) (fun r s1=>∃ u,r=some u /\
   wpAny (model P w) X.A (letOwnedTupleGo tg (.ref it) u) (fun _ s2=>∃ x H',Inv X pins σ H' s2/\RelV x u/\J.yld i H x H'/\tn (i+1) s2.heap/\∀ b∈fp,H' b=none) E s1) E s
 done:∀ (X:Cx),X.prog=P->X.w=w->X.K=K->X.calm=true->∀ (i:Nat) (pins:List (Addr×Obj)) (s:Shared) (σ:St) (H:Hp) (E:Value->Shared->Prop),Inv X pins σ H s->(∀ b∈fp,XE X pins H b)->tn i s.heap->J.stop i H ->
  wpAny (model P w) X.A (pyNext (.ref it)) (fun r s1=>r=none/\Inv X pins σ H s1) E s
 self:∀ (A:Around) (i:Nat) (s:Shared) (Q:Value->Shared->Prop) (E:Value->Shared->Prop),tn i s.heap->Q (.ref it) s->wpAny (model P w) A (pyIter (.ref it)) Q E s
abbrev TI:=St->Hp->(It->Hp->Prop)->Prop
def PIE (X:Cx)(pins:List (Addr×Obj))(σ:St)(tg:Expr)(R:It->Hp->Prop)(itv:Value)(s2:Shared):Prop :=
 ∃ (it:Addr) (fp:List Addr) (tn:Nat->Heap->Prop) (J:It) (H':Hp),itv=.ref it/\Inv X pins σ H' s2/\Turn X.prog X.w X.K tg J fp it tn/\tn 0 s2.heap/\(∀ b∈fp,XE X pins H' b)/\R J H'
def PI (X:Cx)(tg iter:Expr)(wi:TI):Prop :=
 ∀ (pins:List (Addr×Obj)) (s:Shared) (σ:St) (H:Hp) (R:It->Hp->Prop),Inv X pins σ H s->wi σ H R ->
  wpAny (model X.prog X.w) X.A (eval iter X.env) (fun v s1=>wpAny (model X.prog X.w) X.A (pyIter v) (PIE X pins σ tg R) X.xe s1) X.xe s
theorem go_of {M:Model}{A:Around}{E:Value->Shared->Prop}{s:Shared}{tg:Expr}{it:Addr}{u:Value}{o:Obj}{n:String}{vs:Array Value}{Q:Unit->Shared->Prop}(ho:s.heap.get? it=some o)(hc:o.cls=.type n)(hd:o.data=.fields vs)
  (hn:["enumerate","zip","dict_itemiterator","dict_reverseitemiterator","odict_iterator","itertools.zip_longest","itertools.pairwise"].contains n=false) (hQ:Q () s):wpAny M A (letOwnedTupleGo tg (.ref it) u) Q E s:=by
 unfold letOwnedTupleGo;cases tg<;>first
  | exact Q8 hQ
  | (cases u<;>first
    | exact Q8 hQ
    | (refine Q6 (wpAny_load ho ?_)
       rw [hc,hd];show wpAny M A (if (["enumerate","zip","dict_itemiterator","dict_reverseitemiterator","odict_iterator","itertools.zip_longest","itertools.pairwise"].contains n&&vs[0]?==some (rawInt _))=true then _ else _) Q E s;rw [Zy (by intro h;rw [hn,Y3] at h;cases h)];exact Q8 hQ))
def Itl (K:ZZF)(a:Addr):It :=
 ⟨fun i H=>∃ xs x,SqL K H a xs/\xs[i]?=some x,fun i H x H'=>H'=H/\∀ xs,SqL K H a xs->xs[i]?=some x,fun i H=>∃ xs,SqL K H a xs/\xs.length<=i⟩
def Itt (K:ZZF)(a:Addr):It :=
 ⟨fun i H=>∃ xs x,SqT K H a xs/\xs[i]?=some x,fun i H x H'=>H'=H/\∀ xs,SqT K H a xs->xs[i]?=some x,fun i H=>∃ xs,SqT K H a xs/\xs.length<=i⟩
def Itr (lo:Int)(n:Nat):It:=⟨fun i _=>i<n,fun i H x H'=>H'=H/\x=.int (lo+i),fun i _=>n<=i⟩
theorem turn_list {P:Program}{w:World}{K:ZZF}{tg:Expr}(a it:Addr):Turn P w K tg (Itl K a) [it] it (fun i h=>h.IsListIter it a i) where
 mem:=by simp
 obj:=fun i h st b hb=>by
  have e:b=it:=by simpa using hb
  subst e;obtain ⟨o,e,c,d⟩:=st;exact ⟨o,e,fun v z=>by rw [d] at z;cases z⟩
 keep:=fun i h h' st k=>st.at fun o e=>k it (by simp) o e
 item:=by
  intro X hP hw hK hc i pins s σ H E I hf st hg;subst hP hw hK;obtain ⟨xs,x,hq,hx⟩:=hg;obtain ⟨its,rv,p,hz⟩:=I.list hq;obtain ⟨u,hu,ru⟩:=rv.get hx;obtain ⟨f0,f1,f2,f3,f4,f5⟩:=hf it (by simp);refine wpAny_pyNext_list_item st p.isList (x:=u) (by simpa using hu) fun h' st' sb=>?_;have I1:Inv X pins σ H { s with heap:=h' }:=I.turned (t':=s.toks) (fun b o hb e=>(sb.2 b hb).trans e) f0 f1 f3 f4 f5;obtain ⟨o,e,c,d⟩:=id st';exact ⟨u,rfl,go_of (s:={ s with heap:=h' }) e c d (by decide) ⟨x,H,I1,ru,⟨rfl,fun ys hy=>by rw [I.list_inj hy hq];exact hx⟩,st',fun b hb=>(hf b hb).1⟩⟩
 done:=by
  intro X hP hw hK hc i pins s σ H E I hf st hg;subst hP hw hK;obtain ⟨xs,hq,hx⟩:=hg;obtain ⟨its,rv,p,hz⟩:=I.list hq;obtain ⟨f0,f1,f2,f3,f4,f5⟩:=hf it (by simp);have hl:=rv.length;exact wpAny_pyNext_list_end (I.ok.hd hc) st p.isList (by simp;omega) fun h' eb=>⟨rfl,I.turned (t':=s.toks) (fun b o hb e=>eb b o hb e) f0 f1 f3 f4 f5⟩
 self:=fun _ _ _ _ _ st h=>wpAny_pyIter_listiter st h
theorem turn_tuple {P:Program}{w:World}{K:ZZF}{tg:Expr}(a it:Addr):Turn P w K tg (Itt K a) [it] it (fun i h=>h.IsTupleIter it a i) where
 mem:=by simp
 obj:=fun i h st b hb=>by
  have e:b=it:=by simpa using hb
  subst e;obtain ⟨o,e,c,d⟩:=st;exact ⟨o,e,fun v z=>by rw [d] at z;cases z⟩
 keep:=fun i h h' st k=>st.at fun o e=>k it (by simp) o e
 item:=by
  intro X hP hw hK hc i pins s σ H E I hf st hg;subst hP hw hK;obtain ⟨xs,x,hq,hx⟩:=hg;obtain ⟨its,rv,p,hz⟩:=I.tuple hq;obtain ⟨u,hu,ru⟩:=rv.get hx;obtain ⟨f0,f1,f2,f3,f4,f5⟩:=hf it (by simp);refine wpAny_pyNext_tuple_item st (show s.heap.IsTuple a its.toArray from p) (x:=u) (by simpa using hu) fun h' st' sb=>?_;have I1:Inv X pins σ H { s with heap:=h' }:=I.turned (t':=s.toks) (fun b o hb e=>(sb.2 b hb).trans e) f0 f1 f3 f4 f5;obtain ⟨o,e,c,d⟩:=id st';exact ⟨u,rfl,go_of (s:={ s with heap:=h' }) e c d (by decide) ⟨x,H,I1,ru,⟨rfl,fun ys hy=>by rw [I.tuple_inj hy hq];exact hx⟩,st',fun b hb=>(hf b hb).1⟩⟩
 done:=by
  intro X hP hw hK hc i pins s σ H E I hf st hg;subst hP hw hK;obtain ⟨xs,hq,hx⟩:=hg;obtain ⟨its,rv,p,hz⟩:=I.tuple hq;obtain ⟨f0,f1,f2,f3,f4,f5⟩:=hf it (by simp);have hl:=rv.length;exact wpAny_pyNext_tuple_end (I.ok.hd hc) st (show s.heap.IsTuple a its.toArray from p) (by simp;omega) fun h' eb=>⟨rfl,I.turned (t':=s.toks) (fun b o hb e=>eb b o hb e) f0 f1 f3 f4 f5⟩
 self:=fun _ _ _ _ _ st h=>wpAny_pyIter_tupleiter st h
theorem turn_range {P:Program}{w:World}{K:ZZF}{tg:Expr}(it:Addr)(lo:Int)(n:Nat):Turn P w K tg (Itr lo n) [it] it (fun i h=>IsRangeIter h it (lo+(i:Nat)*1) ((n:Int)-(i:Nat)) 1) where
 mem:=by simp
 obj:=fun i h st b hb=>by
  have e:b=it:=by simpa using hb
  subst e;exact ⟨_,st,fun v z=>by
   have z':Data.fields _=Data.cell v:=z;cases z'⟩
 keep:=fun i h h' st k=>k it (by simp) _ st
 item:=by
  intro X hP hw hK hc i pins s σ H E I hf st hg;subst hP hw hK;obtain ⟨f0,f1,f2,f3,f4,f5⟩:=hf it (by simp);have W:=Walks.range (prog:=X.prog) (w:=X.w) (I.ok.hd hc) it lo 1 n;refine W.item i s _ _ hg st fun v h' tk hv st' kk=>?_;obtain ⟨t,rfl⟩:=hv;have I1:Inv X pins σ H { s with heap:=h',toks:=tk }:=I.turned (fun b o hb e=>kk b o (by simpa using hb) e) f0 f1 f3 f4 f5;refine ⟨_,rfl,go_of (s:={ s with heap:=h',toks:=tk }) (n:="range_iterator") st' rfl rfl (by decide) ⟨.int (lo+i),H,I1,⟨t,?_⟩,⟨rfl,rfl⟩,st',fun b hb=>(hf b hb).1⟩⟩;rw [Int.mul_one]
 done:=by
  intro X hP hw hK hc i pins s σ H E I hf st hg;subst hP hw hK;obtain ⟨f0,f1,f2,f3,f4,f5⟩:=hf it (by simp);exact wpAny_pyNext_range_end (I.ok.hd hc) st (by have:n<=i:=hg;omega) fun h' eb=>⟨rfl,I.turned (t':=s.toks) (fun b o hb e=>eb b o hb e) f0 f1 f3 f4 f5⟩
 self:=fun _ _ _ _ _ st h=>wpAny_pyIter_rangeiter st h
end L2
namespace L2
open PySem PySem.Spec PyProof.Rows
section
variable {X:Cx}{tg:Expr}
def iList (K:ZZF)(tl:TE):TI:=fun σ H R=>tl σ H fun x H1=>∃ a,x=.ref a/\(∃ xs,SqL K H1 a xs)/\R (Itl K a) H1
def iTup (K:ZZF)(tl:TE):TI:=fun σ H R=>tl σ H fun x H1=>∃ a,x=.ref a/\(∃ xs,SqT K H1 a xs)/\R (Itt K a) H1
theorem qL {l:Expr}{tl:TE}(hl:PE X l tl):PI X tg l (iList X.K tl):=by
 intro pins s σ H R I h;refine thn (hl pins s σ H _ I h) fun v s1 ⟨x,H1,I1,r1,q1⟩=>?_;obtain ⟨a,e,⟨xs,hq⟩,q⟩:=q1;subst e;cases r1;obtain ⟨its,rv,p,hz⟩:=I1.list hq;refine Ve p.isList ?_;refine ⟨s1.heap.objs.size,[s1.heap.objs.size],_,_,H1,rfl,I1.kept (t':=s1.toks) fun b o e=>Q9 _ e,turn_list a _,⟨_,Zm _ rfl,rfl,rfl⟩,fun b hb=>?_,q⟩;have e:b=s1.heap.objs.size:=by simpa using hb
 subst e;exact I1.fpOk (Ze _) (I1.hok.fresh (Ze _))
theorem qU {l:Expr}{tl:TE}(hl:PE X l tl):PI X tg l (iTup X.K tl):=by
 intro pins s σ H R I h;refine thn (hl pins s σ H _ I h) fun v s1 ⟨x,H1,I1,r1,q1⟩=>?_;obtain ⟨a,e,⟨xs,hq⟩,q⟩:=q1;subst e;cases r1;obtain ⟨its,rv,p,hz⟩:=I1.tuple hq;refine VI (show s1.heap.IsTuple a its.toArray from p) ?_;refine ⟨s1.heap.objs.size,[s1.heap.objs.size],_,_,H1,rfl,I1.kept (t':=s1.toks) fun b o e=>Q9 _ e,turn_tuple a _,⟨_,Zm _ rfl,rfl,rfl⟩,fun b hb=>?_,q⟩;have e:b=s1.heap.objs.size:=by simpa using hb
 subst e;exact I1.fpOk (Ze _) (I1.hok.fresh (Ze _))
theorem range_it {pins:List (Addr×Obj)}{σ:St}{H:Hp}{s:Shared}{R:It->Hp->Prop}{E:Value->Shared->Prop}{lo hi:Int}{t u v:Tok}{tk:Nat}(I:Inv X pins σ H s)(h1:-(2 ^ 62)<=lo)(h2:lo<2 ^ 62)(h3:-(2 ^ 62)<=hi)(h4:hi<2 ^ 62)
  (q:R (Itr lo (hi-lo).toNat) H):wpAny (model X.prog X.w) X.A (pyIter (.ref s.heap.objs.size)) (PIE X pins σ tg R) E { s with heap:=s.heap.push { cls:=.type "range",data:=.fields #[.int lo t,.int hi u,.int 1 v] },toks:=tk }:=by
 refine wpAny_pyIter_range (IsRange.new ..) (small_one h1 h2 h3 h4) ?_;have I1:Inv X pins σ H { s with heap:=s.heap.push { cls:=.type "range",data:=.fields #[.int lo t,.int hi u,.int 1 v] },toks:=tk }:=I.kept fun b o e=>Q9 _ e;refine ⟨(s.heap.push { cls:=.type "range",data:=.fields #[.int lo t,.int hi u,.int 1 v] }).objs.size,[(s.heap.push { cls:=.type "range",data:=.fields #[.int lo t,.int hi u,.int 1 v] }).objs.size],_,_,H,rfl,
  I1.kept (t':=tk) fun b o e=>Q9 _ e,turn_range _ lo (hi-lo).toNat,?_,fun b hb=>?_,q⟩
 ·have e1:lo+((0:Nat):Int)*1=lo:=by simp
  have e2:(((hi-lo).toNat:Nat):Int)-((0:Nat):Int)=Builtin.Range.rangeSize lo hi 1:=by rw [rangeSize_one];split<;>omega
  show IsRangeIter _ _ (lo+((0:Nat):Int)*1) ((((hi-lo).toNat:Nat):Int)-((0:Nat):Int)) 1;rw [e1,e2];exact Zm _ rfl
 ·have e:b=(s.heap.push { cls:=.type "range",data:=.fields #[.int lo t,.int hi u,.int 1 v] }).objs.size:=by simpa using hb
  subst e;exact I1.fpOk (Ze _) (I1.hok.fresh (Ze _))
def iRng1 (ta:TA):TI:=fun σ H R=>ta σ H fun vs H1=>∃ j:Int,vs=[.int j]/\-(2 ^ 62)<=j/\j<2 ^ 62/\R (Itr 0 j.toNat) H1
def iRng2 (ta:TA):TI:=fun σ H R=>ta σ H fun vs H1=>∃ i j:Int,vs=[.int i,.int j]/\(-(2 ^ 62)<=i/\i<2 ^ 62/\-(2 ^ 62)<=j/\j<2 ^ 62)/\R (Itr i (j-i).toNat) H1
theorem kH {a:Expr}{ta:TA}{p pos:Pos}(hg:Gl X "range")(hm:X.mg "range"=none)(ha:PA X [a] ta)(hs:starEach [a] X.env=[(false,eval a X.env)]:=by rfl):PI X tg (.Call (.Name "range" p) [a] [] pos) (iRng1 ta):=by
 intro pins s σ H R I h;refine Call_ (U8 I hg hm boot_range (Jz (thn (ha pos pins s σ H _ I h) fun us s1 ⟨vs,H1,I1,r1,q1⟩=>?_) hs rfl));obtain ⟨j,e,q1,q2,q⟩:=q1;subst e;cases r1 with
 | cons r rr =>
  cases rr;obtain ⟨t,rfl⟩:=r;exact call_range_1 (range_it I1 (by omega) (by omega) q1 q2 (by simpa using q))
theorem pi_range2 {a b:Expr}{ta:TA}{p pos:Pos}(hg:Gl X "range")(hm:X.mg "range"=none)(ha:PA X [a,b] ta)(hs:starEach [a,b] X.env=[(false,eval a X.env),(false,eval b X.env)]:=by rfl)(hs2:starEach [b] X.env=[(false,eval b X.env)]:=by rfl) :
  PI X tg (.Call (.Name "range" p) [a,b] [] pos) (iRng2 ta):=by
 intro pins s σ H R I h;refine Call_ (U8 I hg hm boot_range (Jz (thn (ha pos pins s σ H _ I h) fun us s1 ⟨vs,H1,I1,r1,q1⟩=>?_) (by rw [hs,hs2]) (by rw [hs2];rfl)));obtain ⟨i,j,e,⟨q1,q2,q3,q4⟩,q⟩:=q1;subst e;cases r1 with
 | cons r rr =>
  cases rr with
  | cons r' rr =>
   cases rr;obtain ⟨t,rfl⟩:=r;obtain ⟨t',rfl⟩:=r';exact call_range_2 (range_it I1 q1 q2 q3 q4 q)
def tFor (wi:TI)(g:TG)(tb:TS):TS:=fun D σ H=>wi σ H fun J H1=>∃ W:Nat->Nat->St->Hp->Prop,(∃ m,W 0 m σ H1)/\∀ i m σ H,W i m σ H ->
 (J.stop i H/\D.nx σ H)\/(J.go i H/\∃ N:St->Hp->Prop,(∀ σ' H',N σ' H'->∃ m',m'<m/\W (i+1) m' σ' H')/\∀ x H',J.yld i H x H'->g x σ H' fun σ2 H2=>tb { D with nx:=N,ct:=N,bk:=D.nx } σ2 H2)
def Xg (fp:List Addr)(h:Heap):List (Addr×Obj):=fp.filterMap fun b=>(h.get? b).map fun o=>(b,o)
theorem jQ {fp:List Addr}{h:Heap}{b:Addr}{o:Obj}(hb:b∈fp)(e:h.get? b=some o):(b,o)∈Xg fp h:=Jk.mpr ⟨b,hb,by rw [e];rfl⟩
theorem of_pinsAt {fp:List Addr}{h:Heap}{p:Addr×Obj}(hp:p∈Xg fp h):p.1∈fp/\h.get? p.1=some p.2:=by
 obtain ⟨b,hb,e⟩:=Jk.mp hp;cases q:h.get? b with
 | none=>rw [q] at e;cases e
 | some o =>
  rw [q] at e;have e':(b,o)=p:=Option.some.inj e;subst e';exact ⟨hb,q⟩
theorem Inv.pinned {pins:List (Addr×Obj)}{σ:St}{H:Hp}{s:Shared}{fp:List Addr}(I:Inv X pins σ H s)(hf:∀ b∈fp,XE X pins H b)(ho:∀ b∈fp,∃ o,s.heap.get? b=some o/\∀ v,o.data≠.cell v):Inv X (pins++Xg fp s.heap) σ H s :=
 I.pins_of fun p hp=>(Zs.mp hp).elim (fun z=>I.pin p (ZK _ z)) fun z=>by
  obtain ⟨hb,e⟩:=of_pinsAt z;obtain ⟨f0,f1,f2,_⟩:=hf p.1 hb;obtain ⟨o,e',d⟩:=ho p.1 hb;rw [e] at e';cases e';exact ⟨e,f0,f1,f2,d⟩
theorem Inv.unpinned {pins pl:List (Addr×Obj)}{σ:St}{H:Hp}{s:Shared}(I:Inv X (pins++pl) σ H s):Inv X pins σ H s:=I.pins_of fun p hp=>I.pin p (ZK _ (Z5 _ hp))
theorem yW {iter:Expr}{body:List Stmt}{wi:TI}{g:TG}{tb:TS}{pos:Pos}(hp:PassesOwn (model X.prog X.w) X.A X.env X.xe)(hc:X.calm=true)(hi:PI X tg iter wi)(hg:PG X tg g)(hb:PSs X body tb)
  (hs:∀ x,foldedSetIterable iter X.env x=pure x:=by intro _;rfl):PS X (.For tg iter body [] pos) (tFor wi g tb):=by
 intro pins s σ H D I h;refine wpAny_For (thn (hi pins s σ H _ I h) fun v s1 h1=>thn h1 fun itv s2 h2=>?_) hs;obtain ⟨it,fp,tn,J,H2,e,I2,T,st2,f2,W,⟨m0,w0⟩,turn⟩:=h2;subst e;have stat:∀ {H':Hp},(∀ b∈fp,H' b=none)->∀ b∈fp,XE X pins H' b:=fun hn b hb=>⟨hn b hb,(f2 b hb).2⟩;refine codeAny_forLoop_any (fun n s'=>∃ i σ' H',Inv X pins σ' H' s'/\tn i s'.heap/\(∀ b∈fp,H' b=none)/\W i n σ' H') ?_ m0 ⟨0,σ,H2,I2,st2,fun b hb=>(f2 b hb).1,w0⟩;rintro n s3 ⟨i,σ3,H3,I3,st3,fr3,w3⟩
 rcases turn i n σ3 H3 w3 with ⟨stop,qn⟩|⟨go,N,hN,step⟩
 ·refine J1 hp (thn (T.done X rfl rfl rfl hc i pins s3 σ3 H3 X.xe I3 (stat fr3) st3 stop) fun r s4 ⟨hr,I4⟩=>?_);subst hr;exact VC ⟨σ3,H3,I4,qn⟩
 ·refine J1 hp (thn (T.item X rfl rfl rfl hc i pins s3 σ3 H3 X.xe I3 (stat fr3) st3 go) fun r s4 ⟨u,hr,h4⟩=>?_);subst hr;refine J1 hp (thn h4 fun _ s5 ⟨x,H5,I5,r5,y5,st5,fr5⟩=>?_);have I5':=I5.pinned (stat fr5) (T.obj _ _ st5);refine J1 hp (thn (hg _ s5 σ3 H5 x u _ I5' r5 (step x H5 y5)) fun _ s6 ⟨σ6,H6,I6,q6⟩=>?_);refine J1 hp (thn (hb _ s6 σ6 H6 _ I6 q6) fun f s7 q7=>?_);have again:∀ {σ7:St} {H7:Hp},Inv X (pins++Xg fp s5.heap) σ7 H7 s7->N σ7 H7->∃ m,m<n/\∃ i σ' H',Inv X pins σ' H' s7/\tn i s7.heap/\(∀ b∈fp,H' b=none)/\W i m σ' H':=fun {σ7 H7} I7 n7=>by
   obtain ⟨m',hm,w7⟩:=hN σ7 H7 n7;refine ⟨m',hm,i+1,σ7,H7,I7.unpinned,T.keep _ _ _ st5 fun b hb o e=>(I7.pin (b,o) (ZK _ (ZK _ (jQ hb e)))).1,fun b hb=>?_,w7⟩;obtain ⟨o,e,d⟩:=T.obj _ _ st5 b hb;exact (I7.pin (b,o) (ZK _ (ZK _ (jQ hb e)))).2.1
  cases f with
  | next=>obtain ⟨σ7,H7,I7,n7⟩:=q7;exact again I7 n7
  | cont=>obtain ⟨σ7,H7,I7,n7⟩:=q7;exact again I7 n7
  | brk=>obtain ⟨σ7,H7,I7,q7⟩:=q7;exact ⟨σ7,H7,I7.unpinned,q7⟩
  | ret v=>obtain ⟨x7,σ7,H7,I7,r7,q7⟩:=q7;exact ⟨x7,σ7,H7,I7.unpinned,r7,q7⟩
end
theorem kI {K:ZZF}{a:Addr}{xs:List V}{g:TG}{tb:TS}{D:Ends}{σ:St}{H:Hp}(Pv:Nat->St->Hp->Prop)(h0:Pv 0 σ H)(hl:∀ i σ H,i<=xs.length->Pv i σ H->SqL K H a xs)
  (hs:∀ i x σ H,xs[i]?=some x->Pv i σ H->g x σ H fun σ2 H2=>tb { D with nx:=Pv (i+1),ct:=Pv (i+1),bk:=D.nx } σ2 H2) (hd:∀ σ H,Pv xs.length σ H->D.nx σ H) :
  ∃ W:Nat->Nat->St->Hp->Prop,(∃ m,W 0 m σ H)/\∀ i m σ H,W i m σ H ->
   ((Itl K a).stop i H/\D.nx σ H)\/((Itl K a).go i H/\∃ N:St->Hp->Prop,(∀ σ' H',N σ' H'->∃ m',m'<m/\W (i+1) m' σ' H')/\∀ x H',(Itl K a).yld i H x H'->g x σ H' fun σ2 H2=>tb { D with nx:=N,ct:=N,bk:=D.nx } σ2 H2):=by
 refine ⟨fun i m σ H=>m=xs.length-i/\i<=xs.length/\Pv i σ H,⟨xs.length,by simp,ZJ _,h0⟩,?_⟩;rintro i m σ H ⟨rfl,hi,p⟩;have q:=hl i σ H hi p
 by_cases hlt:i<xs.length
 ·refine .inr ⟨⟨xs,xs[i],q,by simp [hlt]⟩,Pv (i+1),fun σ' H' p'=>⟨xs.length-(i+1),by omega,rfl,hlt,p'⟩,fun x H' y=>?_⟩;obtain ⟨e,y⟩:=y;subst e;exact hs i x σ _ (y xs q) p
 ·have e:i=xs.length:=by omega
  subst e;exact .inl ⟨⟨xs,q,Ze _⟩,hd σ H p⟩
theorem uD {K:ZZF}{a:Addr}{xs:List V}{g:TG}{tb:TS}{D:Ends}{σ:St}{H:Hp}(Pv:Nat->St->Hp->Prop)(h0:Pv 0 σ H)(hl:∀ i σ H,i<=xs.length->Pv i σ H->SqT K H a xs)
  (hs:∀ i x σ H,xs[i]?=some x->Pv i σ H->g x σ H fun σ2 H2=>tb { D with nx:=Pv (i+1),ct:=Pv (i+1),bk:=D.nx } σ2 H2) (hd:∀ σ H,Pv xs.length σ H->D.nx σ H) :
  ∃ W:Nat->Nat->St->Hp->Prop,(∃ m,W 0 m σ H)/\∀ i m σ H,W i m σ H ->
   ((Itt K a).stop i H/\D.nx σ H)\/((Itt K a).go i H/\∃ N:St->Hp->Prop,(∀ σ' H',N σ' H'->∃ m',m'<m/\W (i+1) m' σ' H')/\∀ x H',(Itt K a).yld i H x H'->g x σ H' fun σ2 H2=>tb { D with nx:=N,ct:=N,bk:=D.nx } σ2 H2):=by
 refine ⟨fun i m σ H=>m=xs.length-i/\i<=xs.length/\Pv i σ H,⟨xs.length,by simp,ZJ _,h0⟩,?_⟩;rintro i m σ H ⟨rfl,hi,p⟩;have q:=hl i σ H hi p
 by_cases hlt:i<xs.length
 ·refine .inr ⟨⟨xs,xs[i],q,by simp [hlt]⟩,Pv (i+1),fun σ' H' p'=>⟨xs.length-(i+1),by omega,rfl,hlt,p'⟩,fun x H' y=>?_⟩;obtain ⟨e,y⟩:=y;subst e;exact hs i x σ _ (y xs q) p
 ·have e:i=xs.length:=by omega
  subst e;exact .inl ⟨⟨xs,q,Ze _⟩,hd σ H p⟩
theorem GX {lo:Int}{n:Nat}{g:TG}{tb:TS}{D:Ends}{σ:St}{H:Hp}(Pv:Nat->St->Hp->Prop)(h0:Pv 0 σ H)
  (hs:∀ i σ H,i<n->Pv i σ H->g (.int (lo+i)) σ H fun σ2 H2=>tb { D with nx:=Pv (i+1),ct:=Pv (i+1),bk:=D.nx } σ2 H2) (hd:∀ σ H,Pv n σ H->D.nx σ H) :
  ∃ W:Nat->Nat->St->Hp->Prop,(∃ m,W 0 m σ H)/\∀ i m σ H,W i m σ H ->
   ((Itr lo n).stop i H/\D.nx σ H)\/((Itr lo n).go i H/\∃ N:St->Hp->Prop,(∀ σ' H',N σ' H'->∃ m',m'<m/\W (i+1) m' σ' H')/\∀ x H',(Itr lo n).yld i H x H'->g x σ H' fun σ2 H2=>tb { D with nx:=N,ct:=N,bk:=D.nx } σ2 H2):=by
 refine ⟨fun i m σ H=>m=n-i/\i<=n/\Pv i σ H,⟨n,by simp,ZJ _,h0⟩,?_⟩;rintro i m σ H ⟨rfl,hi,p⟩
 by_cases hlt:i<n
 ·refine .inr ⟨hlt,Pv (i+1),fun σ' H' p'=>⟨n-(i+1),by omega,rfl,hlt,p'⟩,fun x H' y=>?_⟩;obtain ⟨e,y⟩:=y;subst e y;exact hs i σ _ hlt p
 ·have e:i=n:=by omega
  subst e;exact .inl ⟨Ze _,hd σ H p⟩
end L2
namespace L2
open PySem PySem.Spec PyProof.Rows
abbrev R2:=V->V->Hp->VK->Prop
def OpR (X:Cx)(f:Value->Value->Sem Value)(r:R2):Prop :=
 ∀ (pins:List (Addr×Obj)) (s:Shared) (σ:St) (H:Hp) (x y:V) (v u:Value) (Q:VK),Inv X pins σ H s->RelV x v->RelV y u->r x y H Q ->
  wpAny (model X.prog X.w) X.A (f v u) (EP X pins σ Q) X.xe s
def CallR (X:Cx)(f:Value)(r:List V->Hp->VK->Prop):Prop :=
 ∀ (pins:List (Addr×Obj)) (s:Shared) (σ:St) (H:Hp) (xs:List V) (us:List Value) (Q:VK),Inv X pins σ H s->Vals xs us->r xs H Q ->
  wpAny (model X.prog X.w) X.A (call f us) (EP X pins σ Q) X.xe s
def TruR (X:Cx)(r:V->Hp->(Bool->Hp->Prop)->Prop):Prop :=
 ∀ (pins:List (Addr×Obj)) (s:Shared) (σ:St) (H:Hp) (x:V) (v:Value) (Q:Bool->Hp->Prop),Inv X pins σ H s->RelV x v->r x H Q ->
  wpAny (model X.prog X.w) X.A (truthy v) (TP X pins σ Q) X.xe s
def tOp (r:R2)(ta tb:TE):TE:=fun σ H Q=>ta σ H fun x H1=>tb σ H1 fun y H2=>r x y H2 Q
def rI (C:Int->Int->Prop)(g:Int->Int->V):R2:=fun x y H Q=>∃ i j,x=.int i/\y=.int j/\C i j/\Q (g i j) H
def rI0 (g:Int->Int->V):R2:=fun x y H Q=>∃ i j,x=.int i/\y=.int j/\Q (g i j) H
section
variable {X:Cx}{a b c:Expr}{ta tb tc:TE}{pos:Pos}
theorem binT (ha:PE X a ta)(hb:PE X b tb){pins:List (Addr×Obj)}{s:Shared}{σ:St}{H:Hp}{R:V->V->Hp->Prop}(I:Inv X pins σ H s)
  (h:ta σ H fun x H1=>tb σ H1 fun y H2=>R x y H2) {Q:Value->Shared->Prop} {f:Value->Value->Sem Value}
  (hf:∀ v u s2 x y H2,Inv X pins σ H2 s2->RelV x v->RelV y u->R x y H2->wpAny (model X.prog X.w) X.A (f v u) Q X.xe s2) :
  wpAny (model X.prog X.w) X.A (eval a X.env) (fun v s₁=>wpAny (model X.prog X.w) X.A (eval b X.env) (fun u s₂=>wpAny (model X.prog X.w) X.A (f v u) Q X.xe s₂) X.xe s₁) X.xe s:=by
 refine thn (ha pins s σ H _ I h) fun v s1 ⟨x,H1,I1,r1,q1⟩=>?_;refine thn (hb pins s1 σ H1 _ I1 q1) fun u s2 ⟨y,H2,I2,r2,q2⟩=>?_;exact hf v u s2 x y H2 I2 r1 r2 q2
theorem z7 {op:Operator}{r:R2}(ho:OpR X (binaryOp op) r)(ha:PE X a ta)(hb:PE X b tb):PE X (.BinOp a op b pos) (tOp r ta tb):=by
 intro pins s σ H Q I h;exact wpAny_BinOp (binT ha hb I h fun v u s2 x y H2 I2 rx ry q=>ho pins s2 σ H2 x y v u Q I2 rx ry q)
theorem opI {f:Value->Value->Sem Value}{C:Int->Int->Prop}{g:Int->Int->Int}
  (rule:∀ (i j:Int) (t u:Tok) (s:Shared) (Q:Value->Shared->Prop) (E:Value->Shared->Prop),C i j->Q (.int (g i j) s.toks) { s with toks:=s.toks+1 }->wpAny (model X.prog X.w) X.A (f (.int i t) (.int j u)) Q E s) :
  OpR X f (rI C fun i j=>.int (g i j)):=by
 intro pins s σ H x y v u Q I rx ry h;obtain ⟨i,j,rfl,rfl,hc,q⟩:=h;obtain ⟨t,rfl⟩:=rx;obtain ⟨t',rfl⟩:=ry;exact rule i j t t' s _ _ hc ⟨.int (g i j),H,I.tok _,⟨_,rfl⟩,q⟩
theorem opI0 {f:Value->Value->Sem Value}{g:Int->Int->Int}
  (rule:∀ (i j:Int) (t u:Tok) (s:Shared) (Q:Value->Shared->Prop) (E:Value->Shared->Prop),Q (.int (g i j) s.toks) { s with toks:=s.toks+1 }->wpAny (model X.prog X.w) X.A (f (.int i t) (.int j u)) Q E s) :
  OpR X f (rI0 fun i j=>.int (g i j)):=by
 intro pins s σ H x y v u Q I rx ry h;obtain ⟨i,j,rfl,rfl,q⟩:=h;obtain ⟨t,rfl⟩:=rx;obtain ⟨t',rfl⟩:=ry;exact rule i j t t' s _ _ ⟨.int (g i j),H,I.tok _,⟨_,rfl⟩,q⟩
theorem opB0 {f:Value->Value->Sem Value}{g:Int->Int->Bool}
  (rule:∀ (i j:Int) (t u:Tok) (s:Shared) (Q:Value->Shared->Prop) (E:Value->Shared->Prop),Q (.bool (g i j)) s->wpAny (model X.prog X.w) X.A (f (.int i t) (.int j u)) Q E s) :
  OpR X f (rI0 fun i j=>.bl (g i j)):=by
 intro pins s σ H x y v u Q I rx ry h;obtain ⟨i,j,rfl,rfl,q⟩:=h;obtain ⟨t,rfl⟩:=rx;obtain ⟨t',rfl⟩:=ry;exact rule i j t t' s _ _ ⟨.bl (g i j),H,I,rfl,q⟩
def CDiv (i j:Int):Prop:=0<j/\j<1073741824
def CMul (i j:Int):Prop:=(-(2 ^ 64)<i/\i<2 ^ 64)\/(-(2 ^ 64)<j/\j<2 ^ 64)
theorem CMul.ok {i j:Int}(h:CMul i j):IntMulOk i j:=by
 rcases h with ⟨h1,h2⟩|⟨h1,h2⟩
 ·exact .of_left (intBits_le_64 h1 h2)
 ·exact .of_right (intBits_le_64 h1 h2)
theorem qA:OpR X (binaryOp .Add) (rI0 fun i j=>.int (i+j)):=opI0 fun _ _ _ _ _ _ _ q=>add_int q
theorem op_sub:OpR X (binaryOp .Sub) (rI0 fun i j=>.int (i-j)):=opI0 fun _ _ _ _ _ _ _ q=>sub_int q
theorem vP:OpR X (binaryOp .Mult) (rI CMul fun i j=>.int (i*j)):=opI fun _ _ _ _ _ _ _ hc q=>mul_int q hc.ok
theorem jJ:OpR X (binaryOp .FloorDiv) (rI CDiv fun i j=>.int (i / j)):=opI fun i j _ _ _ _ _ hc q=>by
 have h1:(0:Int)<j:=hc.1;have h2:j<1073741824:=hc.2;exact floordiv_int (by omega) (by rw [Int.fdiv_eq_ediv_of_nonneg i (by omega)];exact q) (.inl (PyProof.noPylong_small (by omega)))
theorem jL:OpR X (binaryOp .Mod) (rI (fun _ j=>0<j) fun i j=>.int (i % j)):=opI fun i j _ _ _ _ _ hc q=>by
 have h1:(0:Int)<j:=hc;exact mod_int' (by omega) (by rw [Int.fmod_eq_emod_of_nonneg i (by omega)];exact q)
end
def scal:V->V->Bool
 | .non,.non=>true|.non,.int _=>true|.int _,.non=>true|.non,.bl _=>true|.bl _,.non=>true|.non,.str _=>true|.str _,.non=>true
 | .int _,.int _=>true|.bl _,.bl _=>true|.str _,.str _=>true|.byt _,.byt _=>true
 | .int _,.str _=>true|.str _,.int _=>true|.bl _,.str _=>true|.str _,.bl _=>true
 | _,_=>false
def rEq:R2:=fun x y H Q=>scal x y=true/\Q (.bl (decide (x=y))) H
def rNe:R2:=fun x y H Q=>scal x y=true/\Q (.bl (!decide (x=y))) H
theorem dec_int {i j:Int}:decide (V.int i=V.int j)=(i==j):=by
 rw [ZU];simp
theorem dec_bl {i j:Bool}:decide (V.bl i=V.bl j)=(i==j):=by
 rw [ZU];simp
theorem dec_str {i j:Str}:decide (V.str i=V.str j)=(i==j):=by
 rw [ZU];simp
theorem dec_byt {i j:Array UInt8}:decide (V.byt i=V.byt j)=(i.toList==j.toList):=by
 rw [ZU];cases i;cases j;simp
section
variable {X:Cx}{a b c:Expr}{ta tb tc:TE}{pos:Pos}
theorem yE {pins:List (Addr×Obj)}{σ:St}{H:Hp}{s:Shared}{Q:VK}{k k':Bool}(I:Inv X pins σ H s)(q:Q (.bl k) H)(e:k=k'):EP X pins σ Q (.bool k') s:=by
 subst e;exact ⟨.bl k,H,I,rfl,q⟩
theorem xR:OpR X (compareOp .Eq) rEq:=by
 intro pins s σ H x y v u Q I rx ry h;obtain ⟨hs,q⟩:=h;cases x with
 | non =>
  cases rx;cases y with
  | non=>cases ry;exact PySem.EqNone.eq_none_none (yE I q (by simp))
  | bl j=>cases ry;exact PySem.EqNone.eq_none_bool (yE I q (by simp))
  | int j=>obtain ⟨t',rfl⟩:=ry;exact PySem.EqNone.eq_none_int (yE I q (by simp))
  | str j=>obtain ⟨t',rfl⟩:=ry;exact PySem.EqNone.eq_none_str (yE I q (by simp))
  | _=>exact absurd (show false=true from hs) ZG
 | bl i =>
  cases rx;cases y with
  | non=>cases ry;exact PySem.EqNone.eq_bool_none (yE I q (by simp))
  | bl j=>cases ry;exact eq_bool (yE I q dec_bl)
  | str j=>obtain ⟨t',rfl⟩:=ry;exact PySem.EqMixed.eq_bool_str (yE I q (by simp))
  | _=>exact absurd (show false=true from hs) ZG
 | int i =>
  obtain ⟨t,rfl⟩:=rx;cases y with
  | non=>cases ry;exact PySem.EqNone.eq_int_none (yE I q (by simp))
  | int j=>obtain ⟨t',rfl⟩:=ry;exact eq_int (yE I q dec_int)
  | str j=>obtain ⟨t',rfl⟩:=ry;exact PySem.EqMixed.eq_int_str (yE I q (by simp))
  | _=>exact absurd (show false=true from hs) ZG
 | str i =>
  obtain ⟨t,rfl⟩:=rx;cases y with
  | non=>cases ry;exact PySem.EqNone.eq_str_none (yE I q (by simp))
  | bl j=>cases ry;exact PySem.EqMixed.eq_str_bool (yE I q (by simp))
  | int j=>obtain ⟨t',rfl⟩:=ry;exact PySem.EqMixed.eq_str_int (yE I q (by simp))
  | str j=>obtain ⟨t',rfl⟩:=ry;exact eq_str (yE I q dec_str)
  | _=>exact absurd (show false=true from hs) ZG
 | byt i =>
  obtain ⟨t,rfl⟩:=rx;cases y with
  | byt j=>obtain ⟨t',rfl⟩:=ry;exact PySem.W.eq_bytes (yE I q dec_byt)
  | _=>exact absurd (show false=true from hs) ZG
 | _=>cases y<;>exact absurd (show false=true from hs) ZG
theorem vS:OpR X (compareOp .NotEq) rNe:=by
 intro pins s σ H x y v u Q I rx ry h;obtain ⟨hs,q⟩:=h;cases x with
 | non =>
  cases rx;cases y with
  | non=>cases ry;exact PySem.EqNone.ne_none_none (yE I q (by simp))
  | bl j=>cases ry;exact PySem.EqNone.ne_none_bool (yE I q (by simp))
  | int j=>obtain ⟨t',rfl⟩:=ry;exact PySem.EqNone.ne_none_int (yE I q (by simp))
  | str j=>obtain ⟨t',rfl⟩:=ry;exact PySem.EqNone.ne_none_str (yE I q (by simp))
  | _=>exact absurd (show false=true from hs) ZG
 | bl i =>
  cases rx;cases y with
  | non=>cases ry;exact PySem.EqNone.ne_bool_none (yE I q (by simp))
  | bl j=>cases ry;exact ne_bool (yE I q (congrArg not dec_bl))
  | str j=>obtain ⟨t',rfl⟩:=ry;exact PySem.EqMixed.ne_bool_str (yE I q (by simp))
  | _=>exact absurd (show false=true from hs) ZG
 | int i =>
  obtain ⟨t,rfl⟩:=rx;cases y with
  | non=>cases ry;exact PySem.EqNone.ne_int_none (yE I q (by simp))
  | int j=>obtain ⟨t',rfl⟩:=ry;exact ne_int (yE I q (congrArg not dec_int))
  | str j=>obtain ⟨t',rfl⟩:=ry;exact PySem.EqMixed.ne_int_str (yE I q (by simp))
  | _=>exact absurd (show false=true from hs) ZG
 | str i =>
  obtain ⟨t,rfl⟩:=rx;cases y with
  | non=>cases ry;exact PySem.EqNone.ne_str_none (yE I q (by simp))
  | bl j=>cases ry;exact PySem.EqMixed.ne_str_bool (yE I q (by simp))
  | int j=>obtain ⟨t',rfl⟩:=ry;exact PySem.EqMixed.ne_str_int (yE I q (by simp))
  | str j=>obtain ⟨t',rfl⟩:=ry;exact ne_str (yE I q (congrArg not dec_str))
  | _=>exact absurd (show false=true from hs) ZG
 | byt i =>
  obtain ⟨t,rfl⟩:=rx;cases y with
  | byt j=>obtain ⟨t',rfl⟩:=ry;exact PySem.W.ne_bytes (yE I q (congrArg not dec_byt))
  | _=>exact absurd (show false=true from hs) ZG
 | _=>cases y<;>exact absurd (show false=true from hs) ZG
theorem op_lt:OpR X (compareOp .Lt) (rI0 fun i j=>.bl (decide (i<j))):=opB0 fun _ _ _ _ _ _ _ q=>lt_int q
theorem op_le:OpR X (compareOp .LtE) (rI0 fun i j=>.bl (decide (i<=j))):=opB0 fun _ _ _ _ _ _ _ q=>le_int q
theorem op_gt:OpR X (compareOp .Gt) (rI0 fun i j=>.bl (decide (j<i))):=opB0 fun _ _ _ _ _ _ _ q=>gt_int q
theorem op_notN:OpR X (compareOp .IsNot) (fun x y H Q=>y=.non/\Q (.bl (!decide (x=.non))) H):=by
 intro pins s σ H x y v u Q I rx ry h;obtain ⟨rfl,q⟩:=h;cases ry;refine isnot_none_gen (yE I q ?_);cases x<;>first
  | (cases rx;rfl)
  | (obtain ⟨t,rfl⟩:=rx;rfl)
theorem zT (b:Expr){op:CmpOp}(h:op≠.In:=by decide)(h2:op≠.NotIn:=by decide):behindInMarks op b=false:=by
 have e1:(op==CmpOp.In)=false:=by cases op<;>first|rfl|exact absurd rfl h
 have e2:(op==CmpOp.NotIn)=false:=by cases op<;>first|rfl|exact absurd rfl h2
 cases b<;>simp [behindInMarks,e1,e2]
theorem yH {op:CmpOp}{r:R2}(ho:OpR X (compareOp op) r)(ha:PE X a ta)(hb:PE X b tb)(hm:behindInMarks op b=false):PE X (.Compare a [op] [b] pos) (tOp r ta tb):=by
 intro pins s σ H Q I h;exact wpAny_Compare1 (binT ha hb I h fun v u s2 x y H2 I2 rx ry q=>ho pins s2 σ H2 x y v u Q I2 rx ry q) hm
def tTest (t:TE):TT:=fun σ H Q=>t σ H fun x H'=>∃ k,x=.bl k/\Q k H'
theorem zW {op:CmpOp}{r:R2}(ho:OpR X (compareOp op) r)(ha:PE X a ta)(hb:PE X b tb)(hm:behindInMarks op b=false):PT X (.Compare a [op] [b] pos) (tTest (tOp r ta tb)):=by
 intro pins s σ H Q I h;refine wpAny_isTrue_Compare1 (thn (ha pins s σ H _ I h) fun v s1 ⟨x,H1,I1,r1,q1⟩=>thn (hb pins s1 σ H1 _ I1 q1) fun u s2 ⟨y,H2,I2,r2,q2⟩ =>
  thn (ho pins s2 σ H2 x y v u _ I2 r1 r2 q2) fun c s3 ⟨z,H3,I3,r3,k,e,q3⟩=>?_) hm
 subst e;cases r3;exact YV ⟨H3,I3,q3⟩
def tChain (r r':R2)(ta tb tc:TE):TE:=fun σ H Q=>ta σ H fun x H1=>tb σ H1 fun y H2=>r x y H2 fun z H3=>∃ k,z=.bl k /\
 (if k=true then tc σ H3 fun w' H4=>r' y w' H4 Q else Q (.bl false) H3)
theorem IX {op op':CmpOp}{r r':R2}(ho:OpR X (compareOp op) r)(ho':OpR X (compareOp op') r')(ha:PE X a ta)(hb:PE X b tb)(hc:PE X c tc)
  (hm:lastMarks [op,op'] [b,c]=false:=by with_unfolding_all rfl):PE X (.Compare a [op,op'] [b,c] pos) (tChain r r' ta tb tc):=by
 intro pins s σ H Q I h;refine Compare_chain (thn (ha pins s σ H _ I h) fun v s1 ⟨x,H1,I1,r1,q1⟩=>chain_link (thn (hb pins s1 σ H1 _ I1 q1) fun u s2 ⟨y,H2,I2,r2,q2⟩ =>
  thn (ho pins s2 σ H2 x y v u _ I2 r1 r2 q2) fun d s3 ⟨z,H3,I3,r3,k,e,q3⟩=>?_)) hm
 subst e;cases r3;refine YV ?_;cases k with
 | false=>exact ite_ff ⟨.bl false,H3,I3,rfl,q3⟩
 | true=>exact ite_tt (chain_last (thn (hc pins s3 σ H3 _ I3 q3) fun w' s4 ⟨z',H4,I4,r4,q4⟩=>ho' pins s4 σ H4 y z' u w' Q I4 r2 r4 q4))
def TruV (K:ZZF)(x:V)(H:Hp)(k:Bool):Prop :=
 match x with
 | .non=>k=false
 | .bl b=>k=b
 | .int i=>k=(i !=0)
 | .str y=>y.length<=sizeLine/\k=((y.length:Int) !=0)
 | .byt y=>y.size<=sizeLine/\k=((y.size:Int) !=0)
 | .ref p=>(∃ xs,SqL K H p xs/\k=!xs.isEmpty)\/(∃ xs,SqT K H p xs/\k=!xs.isEmpty)\/∃ kvs,H p=some (.dK kvs)/\k=!kvs.isEmpty
 | _=>False
theorem isEmpty_kv {κ:Type}{kvs:List (κ×V)}{vs:List (κ×Value)}(r:KV kvs vs):(!vs.isEmpty)=!kvs.isEmpty:=by
 cases r<;>rfl
theorem Ie {xs:List V}{its:List Value}(r:Vals xs its):(!its.toArray.isEmpty)=!xs.isEmpty:=by
 cases r<;>simp
theorem Xh:(sizeLine:Nat)<2 ^ 63:=by rw [Ym];decide
theorem tru_ok:TruR X (fun x H Q=>∃ k,TruV X.K x H k/\Q k H):=by
 intro pins s σ H x v Q I rx h;obtain ⟨k,e,q⟩:=h;have hl:=Xh;have hs:sizeLine=16777216:=Ym;cases x with
 | non =>
  cases rx;have e':k=false:=e;subst e';exact truthy_none ⟨H,I,q⟩
 | bl b =>
  cases rx;have e':k=b:=e;subst e';exact YV ⟨H,I,q⟩
 | int i =>
  obtain ⟨t,rfl⟩:=rx;have e':k=(i !=0):=e;subst e';exact PySem.P.truthy_int ⟨H,I,q⟩
 | str y =>
  obtain ⟨t,rfl⟩:=rx;obtain ⟨hy,e'⟩:y.length<=sizeLine/\k=((y.length:Int) !=0):=e;subst e';exact PySem.P.truthy_str (by omega) ⟨H,I.tok _,q⟩
 | byt y =>
  obtain ⟨t,rfl⟩:=rx;obtain ⟨hy,e'⟩:y.size<=sizeLine/\k=((y.size:Int) !=0):=e;subst e';exact PySem.W.truthy_bytes (by omega) ⟨H,I.tok _,q⟩
 | ref p =>
  cases rx;have e':(∃ xs,SqL X.K H p xs/\k=!xs.isEmpty)\/(∃ xs,SqT X.K H p xs/\k=!xs.isEmpty)\/∃ kvs,H p=some (.dK kvs)/\k=!kvs.isEmpty:=e
  rcases e' with ⟨xs,hx,e'⟩|⟨xs,hx,e'⟩|⟨kvs,hx,e'⟩
  ·subst e';obtain ⟨its,r,pl,hz⟩:=I.list hx;have hlen:=r.length;exact wpAny_truthy_list pl.isList (by simp only [Zv];omega) ⟨H,I.tok _,by rw [Ie r];exact q⟩
  ·subst e';obtain ⟨its,r,pl,hz⟩:=I.tuple hx;have hlen:=r.length;exact truthy_tuple pl (by simp only [Zv];omega) ⟨H,I.tok _,by rw [Ie r];exact q⟩
  ·subst e';obtain ⟨hz,hS,vs,r,m⟩:kvs.length<=sizeLine/\(p==sysModules)=false/\∃ vs,KV kvs vs/\s.heap.DictOf (mixKind X.prog X.w) p vs:=I.hok p _ hx;have hlen:kvs.length=vs.length:=Paired.length r;exact wpAny_truthy_dict hS m (by omega) ⟨H,I.tok _,by rw [isEmpty_kv r];exact q⟩
 | _=>exact (show False from e).elim
theorem pt_truth (ha:PE X a ta)(he:∀ whole,isTrue a X.env whole=(do let v ←whole;standAt a.pos;holding [v] (truthy v))) :
  PT X a (fun σ H Q=>ta σ H fun x H'=>∃ k,TruV X.K x H' k/\Q k H'):=by
 intro pins s σ H Q I h;exact isTrue_plain (thn (ha pins s σ H _ I h) fun v s1 ⟨x,H1,I1,r1,q1⟩=>tru_ok pins s1 σ H1 x v Q I1 r1 q1) (he _)
theorem yG:OpR X (binaryOp .Add) (fun x y H Q=>∃ i j,x=.str i/\y=.str j/\i.length+j.length<=sizeLine/\Q (.str (i++j)) H):=by
 intro pins s σ H x y v u Q I rx ry h;obtain ⟨i,j,rfl,rfl,hz,q⟩:=h;obtain ⟨t,rfl⟩:=rx;obtain ⟨t',rfl⟩:=ry;exact add_str (fun t' tk=>⟨.str (i++j),H,I.tok _,⟨_,rfl⟩,q⟩) hz
theorem vals1 {x:V}{us:List Value}(r:Vals [x] us):∃ u,us=[u]/\RelV x u:=by
 cases r with
 | cons r1 r2=>cases r2;exact ⟨_,rfl,r1⟩
theorem vals2 {x y:V}{us:List Value}(r:Vals [x,y] us):∃ u w',us=[u,w']/\RelV x u/\RelV y w':=by
 cases r with
 | cons r1 r2 =>
  cases r2 with
  | cons r3 r4=>cases r4;exact ⟨_,_,rfl,r1,r3⟩
theorem call_max2 (hc:X.calm=true):CallR X (.builtin "max") (fun xs H Q=>∃ i j,xs=[.int i,.int j]/\Q (.int (if j>i then j else i)) H):=by
 intro pins s σ H xs us Q I r h;obtain ⟨i,j,rfl,q⟩:=h;obtain ⟨u,w',rfl,⟨t,rfl⟩,⟨t',rfl⟩⟩:=vals2 r;refine max_two_ints (I.ok.hd hc) fun h' tk k=>⟨_,H,I.kept k,?_,q⟩
 by_cases hj:j>i
 ·rw [Zz hj,Zz hj];exact ⟨_,rfl⟩
 ·rw [Zy hj,Zy hj];exact ⟨_,rfl⟩
theorem q8:CallR X (.type "str") (fun xs H Q=>∃ i,xs=[.int i]/\i.natAbs.log2<1920/\Q (.str (toString i)) H):=by
 intro pins s σ H xs us Q I r h;obtain ⟨i,rfl,hz,q⟩:=h;obtain ⟨u,rfl,t,rfl⟩:=vals1 r;exact PySem.P.str_of_int hz ⟨.str _,H,I.tok _,⟨_,rfl⟩,q⟩
theorem BP:CallR X (.builtin "ord") (fun xs H Q=>∃ x,xs=[.str x]/\x.length=1/\Q (.int (x.cps.getD 0 0:Nat)) H):=by
 intro pins s σ H xs us Q I r h;obtain ⟨x,rfl,hz,q⟩:=h;obtain ⟨u,rfl,t,rfl⟩:=vals1 r;exact ord_of_one hz ⟨.int _,H,I.tok _,⟨_,rfl⟩,q⟩
end
end L2
namespace L2
open PySem PySem.Spec PyProof.Rows
structure ObjM (h:Heap)(x dx C:Addr)(mA:Str->Option Value):Prop where
 obj:h.get? x=some (PySem.W.instObj C dx)
 ns:h.Ns1 dx mA
 ne:dx≠x
theorem lookIn_ns {h:Heap}{dx:Addr}{mA:Str->Option Value}(n:h.Ns1 dx mA):∃ od,h.get? dx=some od/\∀ name,PySem.W.lookIn name od=some (mA name):=by
 obtain ⟨o,es,ep,ho,hd,hk,_,hm⟩:=n;refine ⟨o,ho,fun name=>?_⟩;have e:=hm name;unfold nsFind findBy at e;rw [←Array.find?_toList] at e;unfold PySem.W.lookIn;rw [hd];dsimp only
 split
 ·rename_i y q;rw [q] at e;exact congrArg some e
 ·rename_i q;rw [q] at e;have a:es.toList.any (·.refKey)=false:=by
   rw [VQ];intro y hy;obtain ⟨z,t,hkey⟩:=hk y (Array.mem_toList_iff.mp hy);simp [DictEntry.refKey,hkey]
  have a':¬es.toList.any (·.refKey)=true:=by rw [a];exact ZG
  rw [Zy a'];exact congrArg some e
theorem ObjM.look {h:Heap}{x dx C:Addr}{mA:Str->Option Value}(I:ObjM h x dx C mA):∃ od,PySem.W.InstAt h x (PySem.W.instObj C dx) C (some od)/\∀ name,PySem.W.lookIn name od=some (mA name) :=
 let ⟨od,ho,hl⟩:=lookIn_ns I.ns
 ⟨od,⟨I.obj,rfl,rfl,ho⟩,hl⟩
section
variable {prog:Program}{w:World}{A:Around}{E:Value->Shared->Prop}{s:Shared}{K:ZZF}{x dx C f:Addr}{mA:Str->Option Value}{name:Str}{v:Value}
theorem get_map {expr:Bool}{Q:Value->Shared->Prop}(X:K.In s.heap)(I:ObjM s.heap x dx C mA)(hg:PySem.W.plainGet K C name=true)(hh:PySem.W.hasDictIn K C=true)
  (ha:PySem.W.findIn K (.ref C) name=some none) (hv:mA name=some v) (hv':PySem.W.handedIn v=true) (h:Q v { s with toks:=s.toks+1 }) :
  wpAny (model prog w) A (getAttr (.ref x) name expr) Q E s:=by
 obtain ⟨od,J,hl⟩:=I.look;exact PySem.W.get_value X J (VE hg).1 (PySem.W.findObj_own hh ha rfl (by rw [hl,hv])) hv' h
theorem get_meth {pl:Sem Bool}{Q:Value×List Value->Shared->Prop}(X:K.In s.heap)(I:ObjM s.heap x dx C mA)(hg:PySem.W.plainGet K C name=true)
  (hf:PySem.W.findIn K (.ref C) name=some (some (.ref f))) (ht:PySem.W.isFn K (.ref f)=true) (hv:mA name=none) (h:Q (.ref f,[.ref x]) s) :
  wpAny (model prog w) A (getMethod (.ref x) name pl) Q E s:=by
 obtain ⟨od,J,hl⟩:=I.look;exact PySem.W.method_fn X J (VE hg).1 (VE hg).2 hf (Jl.mp ht) (by show (PySem.W.lookIn name od).map (·.isSome)=some false;rw [hl,hv];rfl) h
theorem set_map {ns:List Str}{Q:Unit->Shared->Prop}(X:K.In s.heap)(I:ObjM s.heap x dx C mA)
  (hs:PySem.W.findIn K (.ref C) "__setattr__"=some (some (.builtin "object.__setattr__"))) (hp:PySem.W.plainOver K C=true) (ht:PySem.W.takerIn K C name=some none) (hh:PySem.W.hasDictIn K C=true)
  (hw:PySem.Within mA ns) (hsz:ns.length<=sizeLine)
  (h:∀ h',ObjM h' x dx C (fun y=>if y=name then some v else mA y)->Heap.SameBut dx s.heap h'->Q () { s with heap:=h',toks:=s.toks+2 }) :
  wpAny (model prog w) A (setAttr (.ref x) name v) Q E s:=by
 obtain ⟨od,J,hl⟩:=I.look;refine PySem.W.set_plain X J hs (PySem.W.osa_open (s:={ s with toks:=s.toks+1 }) (r:=none) X J hp ht fun b=>?_);obtain ⟨cd,hc,hd'⟩:=PySem.W.any_some hh;have hx:s.heap.get? x=some ⟨.ref C,some dx,.plain,#[]⟩:=I.obj;refine Q6 (Q8 (Q6 (Q6 (wpAny_loadPart hx (Q6 (PySem.W.Looks.here (s:={ s with toks:=s.toks+1 }) (PySem.W.looks_clsIn X hc) ?_))))));rw [hd'];refine Q8 (a:=some dx) (Q6 (Q8 (Q6 ?_)));refine wpAny_nsSet1 (s:={ s with toks:=s.toks+1 }) I.ns fun h' hn2 hs2=>?_;obtain ⟨oD,esD,epD,hoD,hdD,hcD⟩:=hn2.count (PySem.Within.cons name v hw);refine Q6 (wpAny_lookBehind hoD (by rw [hdD];exact pastItsLine_dict (Yb hcD (by rw [Zn];omega))) ?_);exact Q8 (h _ ⟨(hs2.2 _ (Ne.symm I.ne)).trans I.obj,hn2,I.ne⟩ hs2)
theorem make_map {R:Result->Shared->Prop}{vs:List Value}{kw:List (Str×Value)}(X:K.In s.heap)(hm:PySem.W.makesIn K C=true)
  (hi:PySem.W.findIn K (.ref C) "__init__"=some (some (.ref f))) (hf:PySem.W.typeIn K (.ref f)=some (.type "function"))
  (h:codeAny (model prog w) (A.under (.builtin "type.__call__" ⟨.ref C::vs,kw⟩)) (.call (.ref f) ⟨.ref (s.heap.objs.size+1)::vs,kw⟩) (PySem.W.InitBack (s.heap.objs.size+1) R)
   { s with heap:=(s.heap.push PySem.W.emptyDict).push (PySem.W.instObj C s.heap.objs.size) }) :
  codeAny (model prog w) A (.call (.ref C) ⟨vs,kw⟩) R s:=by
 obtain ⟨hh,g,d,t,os⟩:=s;exact PySem.W.make_core (PySem.W.makes_of X hm) (PySem.W.looks_findIn X hi) (fun self=>PySem.W.bind_fn X self hf) (.inl rfl) h
end
def Uj (f:Str)(v:V):List (Str×V)->List (Str×V)
 | []=>[(f,v)]
 | (g,x)::r=>if g=f then (g,v)::r else (g,x)::Uj f v r
theorem Xy (f g:Str)(v:V):∀ fs:List (Str×V),(Uj f v fs).lookup g=if g=f then some v else fs.lookup g
 | []=>by
  show List.lookup g [(f,v)]=_
  by_cases h:g=f
  ·have hb:(g==f)=true:=Jl.mpr h;simp only [List.lookup,hb,Zz h]
  ·have hb:(g==f)=false:=Ys.mpr h;simp only [List.lookup,hb,Zy h]
 | (k,x)::r=>by
  have ih:=Xy f g v r;rw [show Uj f v ((k,x)::r)=(if k=f then (k,v)::r else (k,x)::Uj f v r) from rfl]
  by_cases hk:k=f
  ·rw [Zz hk]
   by_cases h:g=k
   ·have hb:(g==k)=true:=Jl.mpr h;simp only [List.lookup,hb,Zz (h.trans hk)]
   ·have hb:(g==k)=false:=Ys.mpr h;simp only [List.lookup,hb,Zy (fun e:g=f=>h (e.trans hk.symm))]
  ·rw [Zy hk]
   by_cases h:g=k
   ·have hb:(g==k)=true:=Jl.mpr h;simp only [List.lookup,hb,Zy (fun e:g=f=>hk (h.symm.trans e))]
   ·have hb:(g==k)=false:=Ys.mpr h;simp only [List.lookup,hb];exact ih
theorem U2 (f:Str)(v:V):∀ fs:List (Str×V),f∈(Uj f v fs).map (·.1)/\∀ g,g∈fs.map (·.1)->g∈(Uj f v fs).map (·.1)
 | []=>⟨by simp [Uj],fun g h=>by simp at h⟩
 | (k,x)::r=>by
  obtain ⟨i1,i2⟩:=U2 f v r;rw [show Uj f v ((k,x)::r)=(if k=f then (k,v)::r else (k,x)::Uj f v r) from rfl]
  by_cases hk:k=f
  ·rw [Zz hk];subst hk;exact ⟨by simp,fun g h=>by simpa using h⟩
  ·rw [Zy hk];refine ⟨?_,fun g h=>?_⟩
   ·rw [Zw];exact Zb _ i1
   ·rw [Zw] at h ⊢
    rcases Zi.mp h with e|e
    ·exact Zi.mpr (.inl e)
    ·exact Zb _ (i2 g e)
theorem Xo (f:Str)(v:V):∀ fs:List (Str×V),(Uj f v fs).length<=fs.length+1
 | []=>by simp [Uj]
 | (k,x)::r=>by
  have ih:=Xo f v r;rw [show Uj f v ((k,x)::r)=(if k=f then (k,v)::r else (k,x)::Uj f v r) from rfl]
  by_cases hk:k=f
  ·rw [Zz hk,Zn,Zn];omega
  ·rw [Zy hk,Zn,Zn];omega
theorem RelO.some_of {v:V}{o:Option Value}(r:RelO (some v) o):∃ u,o=some u/\RelV v u:=by
 cases o with
 | none=>exact (show False from r).elim
 | some u=>exact ⟨u,rfl,r⟩
theorem RelO.none_of {o:Option Value}(r:RelO none o):o=none:=by
 cases o with
 | none=>rfl
 | some u=>exact (show False from r).elim
theorem handed_of {v:V}{u:Value}(r:RelV v u):PySem.W.handedIn u=true:=by
 cases v with
 | non=>cases (show u=Value.none from r);rfl
 | bl b=>cases (show u=Value.bool b from r);rfl
 | int i=>obtain ⟨t,e⟩:=(show ∃ t,u=Value.int i t from r);cases e;rfl
 | str x=>obtain ⟨t,e⟩:=(show ∃ t,u=Value.str x t from r);cases e;rfl
 | byt b=>obtain ⟨t,e⟩:=(show ∃ t,u=Value.bytes b t from r);cases e;rfl
 | flt b=>obtain ⟨t,e⟩:=(show ∃ t,u=Value.float b t from r);cases e;rfl
 | ref a=>cases (show u=Value.ref a from r);rfl
 | ty n=>cases (show u=Value.type n from r);rfl
section
variable {P:Program}{w:World}{H H':Hp}{h h':Heap}{a C dx:Addr}{fs fs':List (Str×V)}
theorem XJ (hok:HOk P w H h)(e:H a=some (.ins C dx fs)):∃ mA,ObjM h a dx C mA/\(∀ f,RelO (fs.lookup f) (mA f))/\PySem.Within mA (fs.map (·.1))/\fs.length<=1000/\H dx=some (.own a):=by
 obtain ⟨d,z,ne,ob,mA,n,r,q⟩:=(show ObjOk P w H h a (.ins C dx fs) from hok a _ e);exact ⟨mA,⟨ob,n,ne⟩,r,q,z,d⟩
end
structure Cls (K:ZZF)(C:Addr):Prop where
 pg:PySem.W.plainGet K C Str.empty=true
 hd:PySem.W.hasDictIn K C=true
 po:PySem.W.plainOver K C=true
 sa:PySem.W.findIn K (.ref C) "__setattr__"=some (some (.builtin "object.__setattr__"))
theorem Cls.get {K:ZZF}{C:Addr}(c:Cls K C)(f:Str):PySem.W.plainGet K C f=true:=c.pg
def NoAttr (K:ZZF)(C:Addr)(f:Str):Prop:=PySem.W.findIn K (.ref C) f=some none
theorem NoAttr.taker {K:ZZF}{C:Addr}{f:Str}(n:NoAttr K C f):PySem.W.takerIn K C f=some none:=by
 unfold PySem.W.takerIn;rw [show PySem.W.findIn K (.ref C) f=some none from n];rfl
structure Meth (K:ZZF)(C:Addr)(m:Str)(f:Addr):Prop where
 at_:PySem.W.findIn K (.ref C) m=some (some (.ref f))
 fn:PySem.W.isFn K (.ref f)=true
 kp:PySem.W.keepIn K (.ref f)=true
section
variable {X:Cx}{pins:List (Addr×Obj)}{σ:St}{H:Hp}{s:Shared}{a C dx:Addr}{fs:List (Str×V)}{f:Str}{v:V}{A:Around}{E:Value->Shared->Prop}
theorem getattr_ok {b:Bool}{Q:Value->Shared->Prop}(I:Inv X pins σ H s)(e:H a=some (.ins C dx fs))(c:Cls X.K C)(n:NoAttr X.K C f)(l:fs.lookup f=some v)
  (h:∀ u s',Inv X pins σ H s'->RelV v u->Q u s'):wpAny (model X.prog X.w) A (getAttr (.ref a) f b) Q E s:=by
 obtain ⟨mA,O,r,_,_,_⟩:=XJ I.hok e;obtain ⟨u,hu,ru⟩:=RelO.some_of (v:=v) (o:=mA f) (by rw [←l];exact r f);exact get_map I.kIn O (c.get f) c.hd n hu (handed_of ru) (h u _ (I.tok _) ru)
theorem uC {m:Str}{g:Addr}{pl:Sem Bool}{Q:Value×List Value->Shared->Prop}(I:Inv X pins σ H s)(e:H a=some (.ins C dx fs))(c:Cls X.K C)(k:Meth X.K C m g)(l:fs.lookup m=none)
  (h:Q (.ref g,[.ref a]) s):wpAny (model X.prog X.w) A (getMethod (.ref a) m pl) Q E s:=by
 obtain ⟨mA,O,r,_,_,_⟩:=XJ I.hok e;have hn:mA m=none:=RelO.none_of (by rw [←l];exact r m);exact get_meth I.kIn O (c.get m) k.at_ k.fn hn h
theorem setattr_ok {y:V}{u:Value}{Q:Unit->Shared->Prop}(I:Inv X pins σ H s)(e:H a=some (.ins C dx fs))(c:Cls X.K C)(n:NoAttr X.K C f)(hl:fs.length<1000)(ry:RelV y u)
  (h:∀ s',Inv X pins σ (upd H a (.ins C dx (Uj f y fs))) s'->Q () s'):wpAny (model X.prog X.w) A (setAttr (.ref a) f u) Q E s:=by
 obtain ⟨mA,O,r,wi,_,ho⟩:=XJ I.hok e;have hz:(fs.map (·.1)).length<=sizeLine:=by rw [Q5,Ym];omega
 refine set_map I.kIn O c.sa c.po n.taker c.hd wi hz fun h' O' sb=>h _ ?_;have hd:∃ o,h'.get? dx=some o:=let ⟨o,_,_,e',_⟩:=O'.ns;⟨o,e'⟩;refine I.write (x:=a) (e:=dx) (by rw [e];exact True.intro) (.inr ho) (fun b q hb z=>(sb.2 b hb).trans z) hd ?_;refine ⟨by rw [zH O.ne];exact ho,?_,O.ne,O'.obj,_,O'.ns,fun g=>?_,fun g hg=>?_⟩
 ·have:=Xo f y fs;omega
 ·show RelO ((Uj f y fs).lookup g) (if g=f then some u else mA g);rw [Xy]
  by_cases q:g=f
  ·rw [Zz q,Zz q];exact ry
  ·rw [Zy q,Zy q];exact r g
 ·by_cases q:g=f
  ·rw [q];exact (U2 f y fs).1
  ·refine (U2 f y fs).2 g (wi g fun z=>hg ?_);show (if g=f then some u else mA g)=none;rw [Zy q];exact z
theorem Inv.made (I:Inv X pins σ H s):Inv X pins σ (upd (upd H s.heap.objs.size (.own (s.heap.objs.size+1))) (s.heap.objs.size+1) (.ins C s.heap.objs.size []))
  { s with heap:=(s.heap.push PySem.W.emptyDict).push (PySem.W.instObj C s.heap.objs.size) }:=by
 have e1:(s.heap.push PySem.W.emptyDict).get? s.heap.objs.size=some PySem.W.emptyDict:=Zm s.heap rfl;have e2:((s.heap.push PySem.W.emptyDict).push (PySem.W.instObj C s.heap.objs.size)).get? (s.heap.objs.size+1)=some (PySem.W.instObj C s.heap.objs.size):=by
  have:=Zm (s.heap.push PySem.W.emptyDict) (o:=PySem.W.instObj C s.heap.objs.size) rfl
  rwa [Yo] at this
 have e3:(s.heap.push PySem.W.emptyDict).Ns s.heap.objs.size (fun _=>none):=⟨PySem.W.emptyDict,#[],_,e1,rfl,(fun e he=>absurd he (by simp)),fun _=>rfl⟩;have I1:=I.laid (a:=s.heap.objs.size) (o:=.own (s.heap.objs.size+1)) (h':=s.heap.push PySem.W.emptyDict) (t':=s.toks) (fun b u q=>Q9 _ q) (Ze _) ⟨_,e1⟩;refine I1.laid (a:=s.heap.objs.size+1) (o:=.ins C s.heap.objs.size []) (t':=s.toks) (fun b u q=>Q9 _ q) (JL (Yo _ _)) ?_;have ne:s.heap.objs.size≠s.heap.objs.size+1:=Zu (Jf _);refine ⟨by rw [zH ne,zB],ZJ _,ne,e2,fun _=>none,(Heap.Ns1.of_empty e3).at fun o q=>Q9 _ q,fun _=>True.intro,fun y hy=>absurd rfl hy⟩
theorem attr_of {prog:Program}{w:World}{env:Env}{e:Expr}{f:Str}{pos:Pos}{s:Shared}{Q:Value->Shared->Prop}(hb:attributeBase e f env (eval e env)=eval e env)
  (h:wpAny (model prog w) A (eval e env) (fun o s₁=>wpAny (model prog w) A (getAttr o f true) Q E s₁) E s):wpAny (model prog w) A (eval (.Attribute e f pos) env) Q E s :=
 Attribute_any_ h (by rw [arm_eval_Attribute,hb])
end
def tFld (K:ZZF)(ta:TE)(f:Str):TE:=fun σ H Q=>ta σ H fun x H1=>∃ a C dx fs v,x=.ref a/\H1 a=some (.ins C dx fs)/\Cls K C/\NoAttr K C f/\fs.lookup f=some v/\Q v H1
def sFld (K:ZZF)(ta tv:TE)(f:Str):TS:=fun D σ H=>tv σ H fun y H1=>ta σ H1 fun x H2=>∃ a C dx fs,x=.ref a/\H2 a=some (.ins C dx fs)/\Cls K C/\NoAttr K C f/\fs.length<1000 /\
 D.nx σ (upd H2 a (.ins C dx (Uj f y fs)))
section
variable {X:Cx}{o e value:Expr}{f:Str}{pos pos' tpos:Pos}{ta tv:TE}
theorem jV (he:PE X e ta)(hb:attributeBase e f X.env (eval e X.env)=eval e X.env):PE X (.Attribute e f pos) (tFld X.K ta f):=by
 intro pins s σ H Q I h;refine attr_of hb (thn (he pins s σ H _ I h) fun u s1 ⟨x,H1,I1,rx,a,C,dx,fs,v,ex,ea,c,n,l,q⟩=>?_);subst ex;obtain rfl:u=Value.ref a:=rx;exact getattr_ok I1 ea c n l fun u' s2 I2 ru=>⟨v,H1,I2,ru,q⟩
theorem ps_fld (ha:PE X o ta)(hv:PE X value tv)(hs:swapsWith value (some (.Attribute o f pos')) pos.line X.env=pure false):PS X (.Assign [.Attribute o f pos'] value pos) (sFld X.K ta tv f):=by
 intro pins s σ H D I h;refine plainObj_wpAny_Assign_Attribute (thn (hv pins s σ H _ I h) fun u s1 ⟨y,H1,I1,ry,q⟩=>thn (ha pins s1 σ H1 _ I1 q) fun ov s2 ⟨x,H2,I2,rx,a,C,dx,fs,ex,ea,c,n,l,q2⟩=>?_) hs;subst ex;obtain rfl:ov=Value.ref a:=rx;exact setattr_ok I2 ea c n l ry fun s3 I3=>⟨σ,_,I3,q2⟩
end
section
variable {X:Cx}{pins:List (Addr×Obj)}{σ:St}{H:Hp}{s:Shared}{A:Around}{E:Value->Shared->Prop}{Q:Value->Shared->Prop}{c:Value}{b:Bool}
inductive TyOf (K:ZZF)(H:Hp):V->Value->Prop where
 | non:TyOf K H .non (.type "NoneType")
 | bl (x:Bool):TyOf K H (.bl x) (.type "bool")
 | int (i:Int):TyOf K H (.int i) (.type "int")
 | str (x:Str):TyOf K H (.str x) (.type "str")
 | flt (x:UInt64):TyOf K H (.flt x) (.type "float")
 | lst {a:Addr} {xs:List V} (e:H a=some (.lst xs)):TyOf K H (.ref a) (.type "list")
 | frz {a:Addr} {o:Obj} {xs:List V} (e:H a=some (.frz o (.lst xs))):TyOf K H (.ref a) (.type "list")
 | tup {a:Addr} {xs:List V} (e:H a=some (.tup xs)):TyOf K H (.ref a) (.type "tuple")
 | dK {a:Addr} {kvs:List (Key×V)} (e:H a=some (.dK kvs)):TyOf K H (.ref a) (.type "dict")
 | dT {a:Addr} {kvs:List (List Key×V)} (e:H a=some (.dT kvs)):TyOf K H (.ref a) (.type "dict")
 | ins {a C dx:Addr} {fs:List (Str×V)} (e:H a=some (.ins C dx fs)) (cl:Cls K C) (ha:PySem.W.findIn K (.ref C) "__class__"=some (some (.builtin "object.__class__")))
   (hn:PySem.W.specialIn K (.builtin "object.__class__") "__get__"=some (some (.builtin "getset_descriptor.__get__"))) (htk:PySem.W.takesIn K (.builtin "object.__class__")=some true)
   (hm:PySem.W.mroIn K C (.type "object")=some true):TyOf K H (.ref a) (.ref C)
theorem qJ {x:V}{u t:Value}(I:Inv X pins σ H s)(rx:RelV x u)(ty:TyOf X.K H x t)(e:PySem.W.kitOne X.K t c=some b)(h:∀ tk,Q (.bool b) { s with toks:=tk }) :
  wpAny (model X.prog X.w) A (call (.builtin "isinstance") [u,c]) Q E s:=by
 cases ty with
 | non=>cases (show u=Value.none from rx);exact Ye PySem.W.kitx_none I.kIn True.intro e (fun z=>nomatch z) h
 | bl y=>cases (show u=Value.bool y from rx);exact Ye PySem.W.kitx_bool I.kIn True.intro e (fun z=>nomatch z) h
 | int i=>obtain ⟨t,q⟩:=(show ∃ t,u=Value.int i t from rx);cases q;exact Ye PySem.W.kitx_int I.kIn True.intro e (fun z=>nomatch z) h
 | str y=>obtain ⟨t,q⟩:=(show ∃ t,u=Value.str y t from rx);cases q;exact Ye PySem.W.kitx_str I.kIn True.intro e (fun z=>nomatch z) h
 | flt y=>obtain ⟨t,q⟩:=(show ∃ t,u=Value.float y t from rx);cases q;exact Ye PySem.W.kitx_float I.kIn True.intro e (fun z=>nomatch z) h
 | @lst a xs ea =>
  cases (show u=Value.ref a from rx);obtain ⟨_,_,n,_,h1⟩:=(show ObjOk X.prog X.w H s.heap a (.lst xs) from I.hok a _ ea);exact Ye VR I.kIn ⟨_,h1,rfl⟩ e (fun z=>nomatch z) h
 | @frz a ob xs ea =>
  cases (show u=Value.ref a from rx);obtain ⟨_,_,_,n,_,h1⟩:=(show ObjOk X.prog X.w H s.heap a (.frz ob (.lst xs)) from I.hok a _ ea);exact Ye VR I.kIn ⟨_,h1,rfl⟩ e (fun z=>nomatch z) h
 | @tup a xs ea =>
  cases (show u=Value.ref a from rx);obtain ⟨_,_,_,p⟩:=(show ObjOk X.prog X.w H s.heap a (.tup xs) from I.hok a _ ea);obtain ⟨o,h1,h2,_⟩:=p;exact Ye PySem.W.kitx_tuple I.kIn ⟨o,h1,h2⟩ e (fun z=>nomatch z) h
 | @dK a kvs ea =>
  cases (show u=Value.ref a from rx);obtain ⟨_,_,vs,_,p⟩:=(show ObjOk X.prog X.w H s.heap a (.dK kvs) from I.hok a _ ea);obtain ⟨o,es,ep,h1,h2,_⟩:=p;exact Ye VS I.kIn ⟨o,h1,h2.1⟩ e (fun z=>nomatch z) h
 | @dT a kvs ea =>
  cases (show u=Value.ref a from rx);obtain ⟨_,_,xs,_,o,es,ep,h1,h2,_⟩:=(show ObjOk X.prog X.w H s.heap a (.dT kvs) from I.hok a _ ea);exact Ye VS I.kIn ⟨o,h1,h2.1⟩ e (fun z=>nomatch z) h
 | @ins a C dx fs ea cl ha hn htk hm =>
  cases (show u=Value.ref a from rx);obtain ⟨mA,O,_⟩:=XJ I.hok ea;obtain ⟨od,J,_⟩:=O.look;exact Ye (PySem.W.kitx_own (cl.get _) cl.hd ha hn htk hm) I.kIn J e (fun z=>nomatch z) h
end
end L2
namespace L2
open PySem PySem.Spec PyProof.Rows
structure Room (k:Nat)(A:Around):Prop where
 hd:A.handled=none
 dp:A.depth+3*k+5<recursionLimit
 un:A.units+16*k+200<cLine
theorem Room.mono {j k:Nat}{A:Around}(r:Room k A)(h:j<=k):Room j A:=⟨r.hd,by have:=r.dp;omega,by have:=r.un;omega⟩
theorem Room.m {j k:Nat}{A:Around}(r:Room k A)(h:j<=k:=by decide):Room j A:=r.mono h
theorem Room.deeper {k:Nat}{A:Around}(r:Room (k+1) A)(env:Env):Room k (A.deeper env) :=
 ⟨r.hd,by have:=r.dp;show A.depth+1+3*k+5<_;omega,by have:=r.un;show A.units+3+16*k+200<_;omega⟩
theorem make_depth {A:Around}{C:Addr}{us:List Value}{kw:List (Str×Value)}:(A.under (.builtin "type.__call__" ⟨.ref C::us,kw⟩)).depth=A.depth+1:=by
 first|rfl|simp [Around.under,Code.weight,Code.isCreation,Code.isGuard,Code.isCaller,Code.frames,Code.isFrame,guardIds]
theorem make_units {A:Around}{C:Addr}{us:List Value}{kw:List (Str×Value)}:(A.under (.builtin "type.__call__" ⟨.ref C::us,kw⟩)).units=A.units+1:=by
 first|rfl|simp [Around.under,Code.cUnits,Code.frames,Code.isFrame]
theorem Room.make {k:Nat}{A:Around}(r:Room (k+1) A)(C:Addr)(us:List Value)(kw:List (Str×Value)):Room k (A.under (.builtin "type.__call__" ⟨.ref C::us,kw⟩)) :=
 ⟨r.hd,by have:=r.dp;rw [make_depth];omega,by have:=r.un;rw [make_units];omega⟩
theorem Room.depth {k:Nat}{A:Around}(r:Room k A):A.depth<recursionLimit:=by have:=r.dp;omega
theorem Room.units {k:Nat}{A:Around}(r:Room k A):A.units+64<cLine:=by have:=r.un;omega
def tNil:TA:=fun _ H Q=>Q [] H
def tCons (ta:TE)(tr:TA):TA:=fun σ H Q=>ta σ H fun x H1=>tr σ H1 fun xs H2=>Q (x::xs) H2
section
variable {X:Cx}{e:Expr}{es:List Expr}{te:TE}{t:TA}{pos:Pos}
theorem zC:PA X [] tNil:=fun _ _ _ _ H Q I h=>Calls.spliced_nil ⟨[],H,I,.nil,h⟩
theorem zA (ha:PE X e te)(hr:PA X es t)(hs:starEach (e::es) X.env=(false,eval e X.env)::starEach es X.env:=by rfl):PA X (e::es) (tCons te t):=by
 intro pos pins s σ H Q I h;rw [hs];show wpAny _ _ (spliced ((false,eval e X.env)::backTo pos (starEach es X.env))) _ _ s;refine Calls.spliced_cons (thn (ha pins s σ H _ I h) fun u s1 ⟨x,H1,I1,r1,q1⟩=>?_);exact thn (hr pos pins s1 σ H1 _ I1 q1) fun us s2 ⟨xs,H2,I2,r2,q2⟩=>⟨x::xs,H2,I2,.cons r1 r2,q2⟩
def tTup (t:TA):TE:=fun σ H Q=>t σ H fun xs H1=>xs.length<=sizeLine/\∀ p,H1 p=none->Q (.ref p) (upd H1 p (.tup xs))
def tLst (t:TA):TE:=fun σ H Q=>t σ H fun xs H1=>xs.length<=sizeLine/\∀ p,H1 p=none->Q (.ref p) (upd H1 p (.lst xs))
theorem kD {x1}(h:PA X es t):PE X (.Tuple es x1 pos) (tTup t):=by
 intro pins s σ H Q I hq;refine wpAny_Tuple_spliced (thn (h pos pins s σ H _ I hq) fun us s1 ⟨xs,H1,I1,r,z,q⟩=>⟨by rw [←r.length];exact z,?_⟩);have hf:H1 s1.heap.objs.size=none:=I1.hok.fresh (Ze _);refine ⟨.ref s1.heap.objs.size,upd H1 s1.heap.objs.size (.tup xs),I1.laid (t':=s1.toks) (fun b u e=>Q9 _ e) (Ze _) ?_,rfl,q _ hf⟩;exact ⟨z,us,r,TupAt.new _ _⟩
theorem qY (h:PA X es t):PE X (.List es pos) (tLst t):=by
 intro pins s σ H Q I hq;refine wpAny_List_spliced (thn (h pos pins s σ H _ I hq) fun us s1 ⟨xs,H1,I1,r,z,q⟩=>⟨by rw [←r.length];exact z,?_⟩);have hf:H1 s1.heap.objs.size=none:=I1.hok.fresh (Ze _);refine ⟨.ref s1.heap.objs.size,upd H1 s1.heap.objs.size (.lst xs),I1.laid (t':=s1.toks) (fun b u e=>Q9 _ e) (Ze _) ?_,rfl,q _ hf⟩;exact ⟨z,us,0,r,Zm _ rfl⟩
end
abbrev Sp:=List V->Hp->VK->XK->Prop
abbrev CXT:=List Env->Hp->Shared->XK->Value->Shared->Prop
structure Env0 (P:Program)(w:World)(K:ZZF)(mg:Str->Option Value)(base:Heap)(A:Around)(outer:List Env)(s:Shared)(H:Hp):Prop where
 frames:A.frames=some outer
 mod:Mod K mg base
 bs:∀ b o,base.get? b=some o->s.heap.get? b=some o/\H b=none
 bsz:base.objs.size<=s.heap.objs.size
 funs:s.heap.FunFrames base outer
 frf:∀ b∈frs outer,H b=none
 hok:HOk P w H s.heap
 bare:AllBare s.gens
def CE (outer:List Env)(P:Program)(w:World)(H:Hp)(s:Shared)(Q:VK)(u:Value)(s':Shared):Prop :=
 ∃ v H',s'.os=s.os/\AllBare s'.gens/\Un (frs outer) [] H H' s.heap s'.heap/\HOk P w H' s'.heap/\RelV v u/\Q v H'
def CR (CX:CXT)(outer:List Env)(P:Program)(w:World)(H:Hp)(s:Shared)(Q:VK)(E:XK)(r:Result)(s':Shared):Prop :=
 match r with
 | .ok (.ret u)=>CE outer P w H s Q u s'
 | .ok _=>False
 | .error e=>CX outer H s E e s'
structure FnOk (P:Program)(w:World)(K:ZZF)(mg:Str->Option Value)(base:Heap)(CX:CXT)(k:Nat)(f:Addr)(fd:FuncData)(ps:List Str)(sp:Sp):Prop where
 len:∀ vs H Q E,sp vs H Q E->vs.length=ps.length
 run:∀ (A:Around) (outer:List Env) (s:Shared) (H:Hp) (args:Args) (us:List Value) (vs:List V) (Q:VK) (E:XK),Room k A->Env0 P w K mg base A outer s H->BindsTo s fd args (ps.zip us)->Vals vs us->sp vs H Q E ->
  codeAny (model P w) A (.call (.ref f) args) (CR CX outer P w H s Q E) s
theorem Env0.make {P:Program}{w:World}{K:ZZF}{mg:Str->Option Value}{base:Heap}{A:Around}{outer:List Env}{s:Shared}{H:Hp}(e:Env0 P w K mg base A outer s H)(C:Addr)(us:List Value)(kw:List (Str×Value)) :
  Env0 P w K mg base (A.under (.builtin "type.__call__" ⟨.ref C::us,kw⟩)) outer s H:=⟨by first|exact e.frames|(simpa [Around.under,Code.envs,Code.isFrame,pushEnvs] using e.frames),e.mod,e.bs,e.bsz,e.funs,e.frf,e.hok,e.bare⟩
section
variable {X:Cx}{pins:List (Addr×Obj)}{σ:St}{H:Hp}{s s':Shared}
theorem Inv.env0 (I:Inv X pins σ H s):Env0 X.prog X.w X.K X.mg X.base X.A X.stack s H :=
 ⟨I.ok.frames,I.ok.mod,I.bs,Yb I.ok.bsz I.sz,I.stack,I.stkFree,I.hok,I.bare⟩
theorem Inv.after {Q:VK}{u:Value}(I:Inv X pins σ H s)(h:CE X.stack X.prog X.w H s Q u s'):EP X pins σ Q u s':=by
 obtain ⟨v,H',os,bare,un,hok,r,q⟩:=h;obtain ⟨hh,g,d,t,os'⟩:=s';obtain rfl:os'=s.os:=os;exact ⟨v,H',I.call (h':=hh) (g':=g) (d':=d) (t':=t) (ch:=[]) un hok bare (fun b z=>absurd z (by simp)),r,q⟩
end
def tCall (sp:Sp)(dvs:List V)(E:XK)(t:TA):TE:=fun σ H Q=>t σ H fun vs H1=>sp (vs++dvs) H1 Q E
def tMeth (C:Addr)(m:Str)(sp:Sp)(dvs:List V)(E:XK)(ta:TE)(t:TA):TE:=fun σ H Q=>ta σ H fun x H1=>∃ a dx fs,x=.ref a/\H1 a=some (.ins C dx fs)/\fs.lookup m=none /\
 t σ H1 fun vs H2=>sp (x::(vs++dvs)) H2 Q E
def tMake (C:Addr)(sp:Sp)(dvs:List V)(E:XK)(t:TA):TE:=fun σ H Q=>t σ H fun vs H1=>∀ x dx,H1 x=none->H1 dx=none->dx≠x ->
 sp (.ref x::(vs++dvs)) (upd (upd H1 dx (.own x)) x (.ins C dx [])) (fun v H2=>v=.non/\Q (.ref x) H2) E
def Binds (K:ZZF)(fd:FuncData)(ps:List Str)(ds:List Value):Prop :=
 ∀ (s:Shared) (us:List Value),K.In s.heap->(us++ds).length=ps.length->BindsTo s fd ⟨us,[]⟩ (ps.zip (us++ds))
theorem Binds.all {K:ZZF}{fd:FuncData}{ps:List Str}(h:∀ us:List Value,us.length=ps.length->bindArgs fd ⟨us,[]⟩=pure (ps.zip us)):Binds K fd ps []:=fun s us _ hl=>by
 rw [ZF] at hl ⊢;exact .of_eq (h us hl)
def vM (CX:CXT)(X:Cx)(E:XK):Prop:=∀ (pins:List (Addr×Obj)) (σ:St) (H:Hp) (s:Shared) (e:Value) (s':Shared),Inv X pins σ H s->CX X.stack H s E e s'->X.xe e s'
section
variable {X:Cx}{CX:CXT}{k:Nat}{f C:Addr}{fd:FuncData}{ps:List Str}{sp:Sp}{dvs:List V}{ds:List Value}{E:XK}{x m:Str}{p pos apos:Pos}{e o:Expr}{es:List Expr}{ta:TE}{t:TA}
theorem run_fn {pins:List (Addr×Obj)}{σ:St}{H:Hp}{s:Shared}{Q:VK}{us:List Value}{vs:List V}(F:FnOk X.prog X.w X.K X.mg X.base CX k f fd ps sp)(hr:Room k X.A)(hb:Binds X.K fd ps ds)(hd:Vals dvs ds)(hx:vM CX X E)
  (I:Inv X pins σ H s) (r:Vals vs us) (h:sp (vs++dvs) H Q E):wpAny (model X.prog X.w) X.A (call (.ref f) us) (EP X pins σ Q) X.xe s:=by
 have r2:Vals (vs++dvs) (us++ds):=r.append hd;have hl:(us++ds).length=ps.length:=by rw [←r2.length];exact F.len _ _ _ _ h
 refine V2 (Y0 (F.run X.A X.stack s H ⟨us,[]⟩ (us++ds) (vs++dvs) Q E hr I.env0 (hb s us I.kIn hl) r2 h) fun r s' hq=>?_);cases r with
 | error e=>exact hx pins σ H s e s' I hq
 | ok fl =>
  cases fl with
  | ret u=>exact I.after hq
  | next=>exact False.elim hq
  | brk=>exact False.elim hq
  | cont=>exact False.elim hq
theorem pe_call (F:FnOk X.prog X.w X.K X.mg X.base CX k f fd ps sp)(hr:Room k X.A)(hg:Gl X x)(hm:X.mg x=some (.ref f))(hk:PySem.W.keepIn X.K (.ref f)=true)(hb:Binds X.K fd ps ds)(hd:Vals dvs ds)(hx:vM CX X E)
  (ha:PA X (e::es) t) (hdb:(x==("__debug__":Str))=false:=by decide) (he:starEach (e::es) X.env=(false,eval e X.env)::starEach es X.env:=by rfl) (hpl:(backTo pos (starEach es X.env)).any (·.1)=false:=by rfl) :
  PE X (.Call (.Name x p) (e::es) [] pos) (tCall sp dvs E t):=by
 intro pins s σ H Q I h;refine Y4 (uB I hg hm ?_ hdb);refine Jm (h₀:=X.base) I.ok.mod.kin hk (thn (ha pos pins s σ H _ I h) fun us s1 ⟨vs,H1,I1,r,q⟩=>⟨I1.kIn,?_⟩) he hpl;exact run_fn F hr hb hd hx I1 r q
theorem pe_meth {pl:Sem Bool}(he:PE X o ta)(c:Cls X.K C)(hm:Meth X.K C m f)(F:FnOk X.prog X.w X.K X.mg X.base CX k f fd ps sp)(hr:Room k X.A)(hb:Binds X.K fd ps ds)(hd:Vals dvs ds)(hx:vM CX X E)(ha:PA X (e::es) t)
  (hst:starEach (e::es) X.env=(false,eval e X.env)::starEach es X.env:=by rfl) (hpl:(backTo pos (starEach es X.env)).any (·.1)=false:=by rfl)
  (ht:eval (.Call (.Attribute o m apos) (e::es) [] pos) X.env=(do
   let ov ←eval o X.env
   standAt apos.atName
   let (f,first) ←holding [ov] (getMethod ov m pl)
   callWith pos f first (backTo pos (starEach (e::es) X.env)) (backToKw pos (keywordEach [] X.env))):=by rfl) :
  PE X (.Call (.Attribute o m apos) (e::es) [] pos) (tMeth C m sp dvs E ta t):=by
 intro pins s σ H Q I h;refine Vk (pl:=pl) (thn (he pins s σ H _ I h) fun u s1 ⟨x,H1,I1,rx,a,dx,fs,ex,ea,l,q⟩=>?_) ht;subst ex;obtain rfl:u=Value.ref a:=rx;refine uC I1 ea c hm l ?_;refine Jm (first:=[.ref a]) (h₀:=X.base) I.ok.mod.kin hm.kp (thn (ha pos pins s1 σ H1 _ I1 q) fun us s2 ⟨vs,H2,I2,r,q2⟩=>⟨I2.kIn,?_⟩) hst hpl;exact run_fn (us:=.ref a::us) (vs:=.ref a::vs) F hr hb hd hx I2 (.cons rfl r) q2
theorem pe_meth0 {pl:Sem Bool}(he:PE X o ta)(c:Cls X.K C)(hm:Meth X.K C m f)(F:FnOk X.prog X.w X.K X.mg X.base CX k f fd ps sp)(hr:Room k X.A)(hb:Binds X.K fd ps ds)(hd:Vals dvs ds)(hx:vM CX X E)
  (ht:eval (.Call (.Attribute o m apos) [] [] pos) X.env=(do
   let ov ←eval o X.env
   standAt apos.atName
   let (f,first) ←holding [ov] (getMethod ov m pl)
   callWith pos f first (backTo pos (starEach [] X.env)) (backToKw pos (keywordEach [] X.env))):=by rfl) :
  PE X (.Call (.Attribute o m apos) [] [] pos) (tMeth C m sp dvs E ta tNil):=by
 intro pins s σ H Q I h;refine Vk (pl:=pl) (thn (he pins s σ H _ I h) fun u s1 ⟨x,H1,I1,rx,a,dx,fs,ex,ea,l,q⟩=>?_) ht;subst ex;obtain rfl:u=Value.ref a:=rx;refine uC I1 ea c hm l ?_;exact PySem.W.callWith_K0 (first:=[.ref a]) I1.kIn hm.kp (run_fn (us:=[.ref a]) (vs:=[.ref a]) F hr hb hd hx I1 (.cons rfl .nil) q)
structure Mk (K:ZZF)(C f:Addr):Prop where
 makes:PySem.W.makesIn K C=true
 init:PySem.W.findIn K (.ref C) "__init__"=some (some (.ref f))
 fn:PySem.W.isFn K (.ref f)=true
 kp:PySem.W.keepIn K (.ref C)=true
theorem run_make {pins:List (Addr×Obj)}{σ:St}{H:Hp}{s:Shared}{Q:VK}{us:List Value}{vs:List V}(M:Mk X.K C f)(F:FnOk X.prog X.w X.K X.mg X.base CX k f fd ps sp)(hr:Room (k+1) X.A)(hb:Binds X.K fd ps ds)(hd:Vals dvs ds)
  (hx:vM CX X E) (I:Inv X pins σ H s) (r:Vals vs us)
  (h:∀ x dx,H x=none->H dx=none->dx≠x->sp (.ref x::(vs++dvs)) (upd (upd H dx (.own x)) x (.ins C dx [])) (fun v H2=>v=.non/\Q (.ref x) H2) E) :
  wpAny (model X.prog X.w) X.A (call (.ref C) us) (EP X pins σ Q) X.xe s:=by
 have hq:=h (s.heap.objs.size+1) s.heap.objs.size (I.hok.fresh (JB _)) (I.hok.fresh (Ze _)) (Zu (Jf _));have I2:=Inv.made (C:=C) I;have r2:Vals (V.ref (s.heap.objs.size+1)::(vs++dvs)) (Value.ref (s.heap.objs.size+1)::(us++ds)):=.cons rfl (r.append hd);have hl:(Value.ref (s.heap.objs.size+1)::us++ds).length=ps.length:=by
  have e:=r2.length;rw [F.len _ _ _ _ hq] at e;exact e.symm
 refine V2 (make_map (f:=f) I.kIn M.makes M.init (Jl.mp M.fn) (Y0 (F.run _ X.stack _ _ ⟨Value.ref (s.heap.objs.size+1)::us,[]⟩ (Value.ref (s.heap.objs.size+1)::(us++ds)) _ _ E (hr.make C us [])
  (I2.env0.make C us []) (hb _ (Value.ref (s.heap.objs.size+1)::us) I2.kIn hl) r2 hq) fun r s' hq'=>?_))
 cases r with
 | error e=>exact hx pins σ _ _ e s' I2 hq'
 | ok fl =>
  cases fl with
  | ret u =>
   obtain ⟨v,H',I3,rv,ev,q3⟩:=I2.after hq';subst ev;exact ⟨rv,⟨V.ref (s.heap.objs.size+1),H',I3,rfl,q3⟩⟩
  | next=>exact False.elim hq'
  | brk=>exact False.elim hq'
  | cont=>exact False.elim hq'
theorem pe_make (M:Mk X.K C f)(F:FnOk X.prog X.w X.K X.mg X.base CX k f fd ps sp)(hr:Room (k+1) X.A)(hg:Gl X x)(hm:X.mg x=some (.ref C))(hb:Binds X.K fd ps ds)(hd:Vals dvs ds)(hx:vM CX X E)
  (ha:PA X (e::es) t) (hdb:(x==("__debug__":Str))=false:=by decide) (he:starEach (e::es) X.env=(false,eval e X.env)::starEach es X.env:=by rfl) (hpl:(backTo pos (starEach es X.env)).any (·.1)=false:=by rfl) :
  PE X (.Call (.Name x p) (e::es) [] pos) (tMake C sp dvs E t):=by
 intro pins s σ H Q I h;refine Y4 (uB I hg hm ?_ hdb);refine Jm (h₀:=X.base) I.ok.mod.kin M.kp (thn (ha pos pins s σ H _ I h) fun us s1 ⟨vs,H1,I1,r,q⟩=>⟨I1.kIn,?_⟩) he hpl;exact run_make M F hr hb hd hx I1 r q
end
structure FnScope (N P:List Str)(sc:Scope):Prop where
 kind:sc.kind=.function
 co:sc.isCoroutine=false
 gen:sc.isGenerator=false
 nd:N.Nodup
 pre:N.take P.length=P
 par:∀ x∈P,sc.names.lookup x=some .local\/sc.names.lookup x=some .cell
 nofree:∀ y∈sc.names,y.2≠.free
theorem QS0 {N P:List Str}{sc:Scope}(a:sc.kind=.function:=by rfl)(b:sc.isCoroutine=false:=by rfl)(c:sc.isGenerator=false:=by rfl)(d:N.Nodup:=by decide +kernel)(e:N.take P.length=P:=by rfl)(f:∀ x∈P,sc.names.lookup x=some .local\/sc.names.lookup x=some .cell:=by decide +kernel)(g:∀ y∈sc.names,y.2≠.free:=by decide +kernel):FnScope N P sc:=⟨a,b,c,d,e,f,g⟩
theorem GU {kindOf:Str->Option NameKind}{x:Str}:∀ {binds:List (Str×Value)} {m:Str->Option Value},(∀ v,(x,v)∉binds)->bindL kindOf binds m x=m x
 | [],_,_=>rfl
 | (n,v)::r,m,h=>by
  unfold bindL;rw [GU fun w hw=>h w (Zb _ hw)]
  split
  ·have:x≠n:=by rintro rfl;exact h v Zc
   simp [this]
  ·rfl
theorem GV {kindOf:Str->Option NameKind}{x:Str}:∀ {binds:List (Str×Value)} {m:Str->Option Value},(∀ v,(x,v)∉binds)->bindC kindOf binds m x=m x
 | [],_,_=>rfl
 | (n,v)::r,m,h=>by
  unfold bindC;rw [GV fun w hw=>h w (Zb _ hw)]
  split
  ·rfl
  ·have:x≠n:=by rintro rfl;exact h v Zc
   simp [this]
theorem GR {kindOf:Str->Option NameKind}{x:Str}{v:Value}:∀ {P:List Str} {vs:List Value} {i:Nat} {m:Str->Option Value},P.Nodup->P[i]?=some x->vs[i]?=some v->kindOf x=some .local ->
  bindL kindOf (P.zip vs) m x=some v
 | [],_,_,_,_,h,_,_=>by simp at h
 | _::_,[],_,_,_,_,h,_=>by simp at h
 | p::P,w::vs,0,m,nd,h1,h2,hk=>by
  simp at h1 h2;subst h1;subst h2;show bindL kindOf ((p,w)::P.zip vs) m p=_;unfold bindL;rw [GU fun v hv=>(Z8.mp nd).1 (J2 hv).1,Zz hk];simp
 | p::P,w::vs,i+1,m,nd,h1,h2,hk=>by
  show bindL kindOf ((p,w)::P.zip vs) m x=_;unfold bindL;exact GR (i:=i) (Z8.mp nd).2 (by simpa using h1) (by simpa using h2) hk
theorem Gu {kindOf:Str->Option NameKind}{x:Str}{v:Value}:∀ {P:List Str} {vs:List Value} {i:Nat} {m:Str->Option Value},P.Nodup->P[i]?=some x->vs[i]?=some v->kindOf x≠some .local ->
  bindC kindOf (P.zip vs) m x=some v
 | [],_,_,_,_,h,_,_=>by simp at h
 | _::_,[],_,_,_,_,h,_=>by simp at h
 | p::P,w::vs,0,m,nd,h1,h2,hk=>by
  simp at h1 h2;subst h1;subst h2;show bindC kindOf ((p,w)::P.zip vs) m p=_;unfold bindC;rw [GV fun v hv=>(Z8.mp nd).1 (J2 hv).1,Zy hk];simp
 | p::P,w::vs,i+1,m,nd,h1,h2,hk=>by
  show bindC kindOf ((p,w)::P.zip vs) m x=_;unfold bindC;exact Gu (i:=i) (Z8.mp nd).2 (by simpa using h1) (by simpa using h2) hk
def start (N:List Str)(vs:List V):St:=vs.map some++List.replicate (N.length-vs.length) none
def Iy (CX:CXT)(P:Program)(w:World)(K:ZZF)(mg:Str->Option Value)(base:Heap)(N:List Str)(qual:Str)(scope:Scope)(f:Addr)(cd:Value)(A:Around)(outer:List Env)(s:Shared)(H:Hp)(E:XK):Cx where
 prog:=P
 w:=w
 K:=K
 mg:=mg
 base:=base
 A:=A.deeper (envOfC qual scope s.heap.objs.size f cd)
 N:=N
 s₀:=s
 H₀:=H
 env:=envOfC qual scope s.heap.objs.size f cd
 outer:=outer
 stack:=envOfC qual scope s.heap.objs.size f cd::outer
 ex:=[]
 calm:=true
 fn:=fun _=>true
 pn:=[]
 xe:=fun e s'=>wpAny (model P w) (A.deeper (envOfC qual scope s.heap.objs.size f cd)) (leaving (envOfC qual scope s.heap.objs.size f cd) e) (fun _ s''=>CX outer H s E e s'') (fun e' s''=>CX outer H s E e' s'') s'
theorem BK {sc:Scope}{n:Nat}{x:Str}(h:sc.names.lookup x=some .cell):∃ c,(cellsFrom n sc.names []).lookup x=some c:=by
 have q:=PySem.W.cellsFrom_some sc.names n [] (.inl h);exact JU.mp q
theorem inv_start {CX:CXT}{P:Program}{w:World}{K:ZZF}{mg:Str->Option Value}{base:Heap}{N ps:List Str}{qual:Str}{scope:Scope}{f:Addr}{cd:Value}{A:Around}{outer:List Env}{s s1:Shared}{H:Hp}{E:XK}{us:List Value}{vs:List V}
  (S:FnScope N ps scope) (hd:A.handled=none) (e0:Env0 P w K mg base A outer s H) (hl:vs.length=ps.length) (r:Vals vs us)
  (x:InCallC s s.heap.objs.size (bindL (envOfC qual scope s.heap.objs.size f cd).kindOf (ps.zip us) fun _=>none) (cellsFrom (s.heap.objs.size+1) scope.names []) (bindC (envOfC qual scope s.heap.objs.size f cd).kindOf (ps.zip us) fun _=>none) s1) :
  Inv (Iy CX P w K mg base N qual scope f cd A outer s H E) [] (start N vs) H s1:=by
 have hpl:ps.length<=N.length:=by have:=congrArg List.length S.pre;rw [ZC] at this;omega
 obtain ⟨h1,tk,rfl,hk⟩:=x.done;have noA:∀ b:Addr,b∉(Iy CX P w K mg base N qual scope f cd A outer s H E).ex:=fun b z=>absurd (show b∈([]:List Addr) from z) (by simp);refine ⟨⟨e0.mod,S.kind,rfl,rfl,Ze _,fun y z c h1 h2=>?_,fun y hy=>?_,fun y c _ h=>?_,fun _=>hd,Around.frames_deeper e0.frames,.inr ⟨rfl,rfl⟩,fun b z=>absurd z (noA b),e0.bs,e0.bsz,fun b _ _=>noA b,fun b z=>absurd z (noA b),e0.funs,e0.frf⟩,
  rfl,e0.bare,Un.kept hk,⟨_,x.toInCall.ns,fun i y v h1 h2 h3=>?_⟩,fun y c h=>⟨_,x.cell y c h⟩,e0.hok.fresh (Ze _),fun y c h=>?_,fun p hp=>absurd (show p∈([]:List (Addr×Obj)) from hp) (by simp),e0.hok.kept hk,?_⟩
 ·exact name_of_addr x.apart (YK h1) (YK h2)
 ·have hy:scope.names.lookup y=some .cell\/scope.names.lookup y=some .free:=hy
  rcases hy with hy|hy
  ·exact BK hy
  ·exact absurd rfl (S.nofree _ (YK hy))
 ·exact YF (x.above y c (YK h))
 ·have hi:i<vs.length:=by
   unfold start at h2
   by_cases hi:i<vs.length
   ·exact hi
   ·rw [ZP (by simpa using hi)] at h2;rw [List.getElem?_replicate] at h2
    split at h2<;>cases h2
  have ha:vs[i]?=some v:=by
   unfold start at h2;rw [ZN (by simpa using hi),Zl] at h2;cases e:vs[i]? with
   | none=>rw [e] at h2;cases h2
   | some a=>rw [e] at h2;cases h2;rfl
  obtain ⟨u,hu,rv⟩:=r.get ha;have hp:ps[i]?=some y:=by
   rw [←S.pre,List.getElem?_take_of_lt (by omega)];exact h1
  have ndP:ps.Nodup:=by rw [←S.pre];exact S.nd.sublist (List.take_sublist _ _)
  refine ⟨u,rv,?_⟩
  rcases S.par y (Zk hp) with k|k
  ·exact .inl ⟨k,GR ndP hp hu k⟩
  ·obtain ⟨c,e⟩:=BK (n:=s.heap.objs.size+1) k;refine .inr ⟨.inl k,c,e,?_⟩;have q:=x.cell y c e;rw [Gu ndP hp hu (by show scope.names.lookup y≠_;rw [k];decide)] at q;exact q
 ·exact e0.hok.fresh (YF (x.above y c (YK h)))
 ·unfold start;show _=N.length;rw [Zh,Q5,List.length_replicate];omega
theorem fn_of {CX:CXT}{P:Program}{w:World}{K:ZZF}{mg:Str->Option Value}{base:Heap}{k:Nat}{f:Addr}{name qual:Str}{params:Arguments}{body:List Stmt}{scope:Scope}{dV kV doc pm cdv ct oc:Value}{an od:Option Addr}
  {osl:Array (Option Value)} {N ps:List Str} {sp:Sp} (lk:K.lookup f=some ⟨oc,od,.func (PySem.W.fnOf name qual params body scope dV kV doc pm an cdv ct),osl⟩) (hcd:PySem.W.codeIn K cdv qual=true) (S:FnScope N ps scope)
  (len:∀ vs H Q E,sp vs H Q E->vs.length=ps.length)
  (hbody:∀ (A:Around) (outer:List Env) (s:Shared) (H:Hp) (vs:List V) (Q:VK) (E:XK),Room k (A.deeper (envOfC qual scope s.heap.objs.size f cdv))->sp vs H Q E ->
   ∃ t,PSs (Iy CX P w K mg base N qual scope f cdv A outer s H E) body t/\t { nx:=fun _ H'=>Q .non H',rt:=Q } (start N vs) H) :
  FnOk P w K mg base CX (k+1) f (PySem.W.fnOf name qual params body scope dV kV doc pm an cdv ct) ps sp:=by
 refine ⟨len,fun A outer s H args us vs Q E hr e0 hb r hsp=>?_⟩;have hl:=len _ _ _ _ hsp;have KX:K.In s.heap:=e0.mod.kin.keeps fun b o e=>(e0.bs b o e).1;have lim:s.heap.NoLimit:=e0.mod.nolimit.keeps fun b o e=>(e0.bs b o e).1;have hkind:∀ y∈ps.zip us,scope.names.lookup y.1=some .local\/(scope.names.lookup y.1=some .cell/\((cellsFrom (s.heap.objs.size+1) scope.names []).lookup y.1).isSome=true):=fun ⟨n,v⟩ hy=>by
  rcases S.par n (J2 hy).1 with q|q
  ·exact .inl q
  ·exact .inr ⟨q,PySem.W.cellsFrom_some _ _ _ (.inl q)⟩
 refine codeAny_call_function hr.depth (KX _ _ lk) rfl S.co S.gen rfl (PySem.W.codeRec_of KX hcd) (hb _ _ _ _ ?_);refine wpAny_newFunctionEnv_cells S.kind hkind fun env he s1 x=>?_;subst he;refine ⟨lim.keeps x.toInCall.keep,codeAny_func ?_⟩;obtain ⟨t,ht,hq⟩:=hbody A outer s H vs Q E (hr.deeper _) hsp;have I:Inv (Iy CX P w K mg base N qual scope f cdv A outer s H E) [] (start N vs) H s1:=inv_start S hr.hd e0 hl r x;refine Yn (ht [] s1 (start N vs) H _ I hq) (fun fl s' hs=>?_) fun e s' hs=>hs;have fin:∀ {σ':St} {H':Hp} {v:V} {u:Value},Inv (Iy CX P w K mg base N qual scope f cdv A outer s H E) [] σ' H' s'->RelV v u->Q v H'->CE outer P w H s Q u s' :=
  fun {σ' H' v u} J rv q=>⟨v,H',J.os,J.bare,J.base,J.hok,rv,q⟩
 cases fl with
 | ret u =>
  obtain ⟨v,σ',H',J,rv,q⟩:=hs;exact fin J rv q
 | next =>
  obtain ⟨σ',H',J,q⟩:=hs;exact fin (v:=V.non) (u:=Value.none) J rfl q
 | brk =>
  obtain ⟨_,_,_,q⟩:=hs;exact False.elim q
 | cont =>
  obtain ⟨_,_,_,q⟩:=hs;exact False.elim q
end L2
namespace L2
open PySem PySem.Spec PyProof.Rows
section
variable {X:Cx}{x:Str}{p pos:Pos}{e:Expr}{es:List Expr}{t:TA}{id T:String}{r:List V->Hp->VK->Prop}
def tCB (r:List V->Hp->VK->Prop)(t:TA):TE:=fun σ H Q=>t σ H fun vs H1=>r vs H1 Q
theorem zK (hc:CallR X (.builtin id) r)(hg:Gl X x)(hm:X.mg x=none)(hv:bootBuiltins x=some (.builtin id))(ha:PA X (e::es) t)(hn:x≠"__name__":=by decide)(hdb:(x==("__debug__":Str))=false:=by decide)
  (he:starEach (e::es) X.env=(false,eval e X.env)::starEach es X.env:=by rfl) (hpl:(backTo pos (starEach es X.env)).any (·.1)=false:=by rfl):PE X (.Call (.Name x p) (e::es) [] pos) (tCB r t):=by
 intro pins s σ H Q I h;refine Y4 (U8 I hg hm hv ?_ hn hdb);exact Vq (thn (ha pos pins s σ H _ I h) fun us s1 ⟨vs,H1,I1,r1,q1⟩=>hc pins s1 σ H1 vs us Q I1 r1 q1) he hpl
theorem zZ (hc:CallR X (.type T) r)(hg:Gl X x)(hm:X.mg x=none)(hv:bootBuiltins x=some (.type T))(ha:PA X (e::es) t)(hn:x≠"__name__":=by decide)(hdb:(x==("__debug__":Str))=false:=by decide)
  (he:starEach (e::es) X.env=(false,eval e X.env)::starEach es X.env:=by rfl) (hpl:(backTo pos (starEach es X.env)).any (·.1)=false:=by rfl):PE X (.Call (.Name x p) (e::es) [] pos) (tCB r t):=by
 intro pins s σ H Q I h;refine Y4 (U8 I hg hm hv ?_ hn hdb);exact Jz (thn (ha pos pins s σ H _ I h) fun us s1 ⟨vs,H1,I1,r1,q1⟩=>hc pins s1 σ H1 vs us Q I1 r1 q1) he hpl
end
end L2
namespace HT
open PySem PyProof.Rows
section
variable {prog:Program}{w:World}{A:Around}{E:Value->Shared->Prop}{s:Shared}
def sIx (n d:Nat):Option Int->Nat
 | none=>d
 | some v=>if v<0 then (v+(n:Int)).toNat else min v.toNat n
theorem sIx_none (n d:Nat):sIx n d none=d:=rfl
theorem sIx_nat (n d k:Nat):sIx n d (some (k:Int))=min k n:=by
 show (if (k:Int)<0 then ((k:Int)+(n:Int)).toNat else min (k:Int).toNat n)=min k n;rw [Zy (by omega),Int.toNat_natCast]
theorem sIx_le (n d:Nat)(hd:d<=n)(o:Option Int):sIx n d o<=n:=by
 cases o with
 | none=>exact hd
 | some v =>
  show (if v<0 then (v+(n:Int)).toNat else min v.toNat n)<=n
  by_cases hv:v<0
  ·rw [Zz hv];omega
  ·rw [Zy hv];exact VZ _ _
theorem clip_eq (v:Int)(n d:Nat):(if v<0 then max (v+(n:Int)) 0 else min v (n:Int))=((sIx n d (some v):Nat):Int):=by
 show (if v<0 then max (v+(n:Int)) 0 else min v (n:Int))=(((if v<0 then (v+(n:Int)).toNat else min v.toNat n):Nat):Int)
 by_cases hv:v<0
 ·simp only [Zz hv];omega
 ·simp only [Zy hv];omega
theorem adjust_gen (lo hi:Option Int)(n:Nat):Builtin.Slice.sliceAdjust lo hi 1 (n:Int)=(((sIx n 0 lo:Nat):Int),((sIx n n hi:Nat):Int)):=by
 have h1:¬((1:Int)<0):=by omega
 unfold Builtin.Slice.sliceAdjust;simp only [h1,JV];refine Prod.ext ?_ ?_
 ·cases lo with
  | none=>rfl
  | some v=>exact clip_eq v n 0
 ·cases hi with
  | none=>rfl
  | some v=>exact clip_eq v n n
theorem places_gen (i j:Nat):Builtin.Slice.slicePlaces (i:Int) (j:Int) 1=j-i:=by
 unfold Builtin.Slice.slicePlaces;have h1:(1:Int)>0:=by omega
 simp only [h1,Ue,Int.ediv_one]
 split<;>omega
theorem X4 {v:Value}{o:Option Int}{Q:Option Int->Shared->Prop}(p:IsPart v o)(h:Q o s):wpAny (model prog w) A (Builtin.Slice.slicePartIndex v) Q E s:=by
 cases p with
 | none=>exact slicePart_none h
 | int i t=>exact slicePart_int h
theorem qS {sl:Addr}{vl vu:Value}{lo hi:Option Int}{n:Nat}{Q:Int×Int×Nat->Shared->Prop}(hs:s.heap.IsSliceOf sl vl vu .none)(pl:IsPart vl lo)(pu:IsPart vu hi)
  (h:Q (((sIx n 0 lo:Nat):Int),1,sIx n n hi-sIx n 0 lo) s):wpAny (model prog w) A (Builtin.Slice.sliceApplied (.ref sl) (pure (n:Int))) Q E s:=by
 obtain ⟨os,hos,hcs,hds⟩:=id hs;unfold Builtin.Slice.sliceApplied Builtin.Slice.sliceFields;refine Q6 (Q6 (J7 hos hds (x:=vl) rfl (Q6 (J7 hos hds (x:=vu) rfl (Q6 (J7 hos hds (x:=.none) rfl (Q8 ?_)))))));refine Q6 (slicePart_none ?_);show wpAny _ _ (if ((1:Int)==0)=true then _ else _) _ _ s;rw [Zy (by decide)];refine Q6 (X4 pl (Q6 (X4 pu (Q6 (Q8 ?_)))));show wpAny _ _ (match Builtin.Slice.sliceAdjust lo hi 1 (n:Int) with|(lo,hi)=>pure (lo,(1:Int),Builtin.Slice.slicePlaces lo hi 1)) _ _ s;rw [adjust_gen lo hi n];show wpAny _ _ (pure (((sIx n 0 lo:Nat):Int),(1:Int),Builtin.Slice.slicePlaces ((sIx n 0 lo:Nat):Int) ((sIx n n hi:Nat):Int) 1)) _ _ s;rw [places_gen];exact Q8 h
theorem pick_gen (xs:Array Value)(i k:Nat):((List.range k).filterMap fun (m:Nat)=>xs[((i:Int)+(m:Int)*1).toNat]?).toArray=((xs.toList.drop i).take k).toArray:=by
 have e:(fun (m:Nat)=>xs[((i:Int)+(m:Int)*1).toNat]?)=fun m=>xs[i+m]?:=by
  funext m
  have:((i:Int)+(m:Int)*1).toNat=i+m:=by omega
  rw [this]
 rw [e];have:=pick_run xs i k;rw [List.filterMap_map] at this;have e2:((fun x=>xs[x]?)∘fun x=>i+x)=fun m=>xs[i+m]?:=rfl;rw [e2] at this;rw [this]
theorem getItem_tuple_cut {t sl:Addr}{items:Array Value}{vl vu:Value}{lo hi:Option Int}{Q:Value->Shared->Prop}(ht:IsTup s.heap t items)(hs:s.heap.IsSliceOf sl vl vu .none)(pl:IsPart vl lo)(pu:IsPart vu hi)
  (hw:¬(sIx items.size 0 lo=0/\sIx items.size items.size hi=items.size))
  (h:Q (.ref s.heap.objs.size) { s with heap:=s.heap.push { cls:=.type "tuple",data:=.seq ((items.toList.drop (sIx items.size 0 lo)).take (sIx items.size items.size hi-sIx items.size 0 lo)).toArray } })
  (hsz:items.size<=sizeLine):wpAny (model prog w) A (getItem (.ref t) (.ref sl)) Q E s:=by
 have htake:sizeOk (.seq ((items.toList.drop (sIx items.size 0 lo)).take (sIx items.size items.size hi-sIx items.size 0 lo)).toArray):=by
  show ((items.toList.drop (sIx items.size 0 lo)).take (sIx items.size items.size hi-sIx items.size 0 lo)).toArray.size<=sizeLine;rw [Zv,ZC,Jg,ZE];omega
 have hj:sIx items.size items.size hi<=items.size:=sIx_le _ _ (Ze _) hi;obtain ⟨os,hos,hcs,hds⟩:=id hs;have hTs:s.TypeIs (.ref sl) "slice":=⟨os,hos,hcs⟩;unfold getItem
 try with_reducible refine Yr ?_
 first|refine Q6 (Q8 ?_)|skip
 refine Q6 (wpAny_sequenceKey ht.typeIs (by decide) ?_);refine Q6 (YG (name:=Str.ofString "__getitem__") ht.typeIs YN
  (Z6 YN ht.typeIs entry_tuple_getitem ?_ (args_tuple_getitem _ _)))
 show wpAny _ _ (Builtin.Tuple.tupleItemsOf (.ref t)>>=_) _ _ s;refine Q6 (tupleItemsOf_ ht ?_);refine Q6 (JM hTs ?_);rw [Zz (by decide)];refine Q6 (qS hs pl pu ?_);have hno:¬((((sIx items.size 0 lo:Nat):Int)==0&&(1:Int)==1&&(sIx items.size items.size hi-sIx items.size 0 lo)==items.size)=true):=by
  intro q;rw [Zg,Zg] at q;have q1:((sIx items.size 0 lo:Nat):Int)=0:=Vr q.1.1;have q2:sIx items.size items.size hi-sIx items.size 0 lo=items.size:=Vr q.2;exact hw ⟨by omega,by omega⟩
 show wpAny _ _ (if (((sIx items.size 0 lo:Nat):Int)==0&&(1:Int)==1&&(sIx items.size items.size hi-sIx items.size 0 lo)==items.size)=true then _ else _) _ _ s;rw [Zy hno,pick_gen]
 first
  | exact Q6 (m:=Builtin.Tuple.tupleExact _) (Z1 (Q8 ⟨_,rfl,Q8 h⟩) htake)
  | exact Q6 (m:=Builtin.Tuple.tupleExact _) (Z1 (Q6 (Q8 (Q8 ⟨_,rfl,Q8 h⟩))) htake)
  | exact Q6 (Q6 (m:=Builtin.Tuple.tupleExact _) (Z1 (Q8 (Q8 ⟨_,rfl,Q8 h⟩)) htake))
  | exact Q6 (Q6 (m:=Builtin.Tuple.tupleExact _) (Z1 (Q8 ⟨_,rfl,Q8 h⟩) htake))
end
end HT
namespace L2
open PySem PySem.Spec PyProof.Rows
abbrev TO:=St->Hp->(Option Int->Hp->Prop)->Prop
def PO (X:Cx)(e:Option Expr)(t:TO):Prop :=
 ∀ (pins:List (Addr×Obj)) (s:Shared) (σ:St) (H:Hp) (Q:Option Int->Hp->Prop),Inv X pins σ H s->t σ H Q ->
  wpAny (model X.prog X.w) X.A (evalPart e X.env) (fun u s'=>∃ o H',Inv X pins σ H' s'/\IsPart u o/\Q o H') X.xe s
def tNoPart:TO:=fun _ H Q=>Q none H
def tPart (t:TE):TO:=fun σ H Q=>t σ H fun x H1=>∃ i,x=.int i/\Q (some i) H1
section
variable {X:Cx}{e:Expr}{te:TE}{lo hi:Option Expr}{tl th:TO}{pos p2:Pos}
theorem XG:PO X none tNoPart:=by
 intro pins s σ H Q I h;rw [evalPart_none];exact Q8 ⟨none,H,I,.none,h⟩
theorem jI (h:PE X e te):PO X (some e) (tPart te):=by
 intro pins s σ H Q I hw;rw [evalPart_some];refine thn (h pins s σ H _ I hw) fun u s1 ⟨x,H1,I1,r1,q1⟩=>?_;obtain ⟨i,rfl,q⟩:=q1;obtain ⟨t,rfl⟩:=r1;exact ⟨some i,H1,I1,.int i t,q⟩
def SlR (X:Cx)(r:V->Option Int->Option Int->Hp->VK->Prop):Prop :=
 ∀ (pins:List (Addr×Obj)) (s:Shared) (σ:St) (H:Hp) (x:V) (v vl vu:Value) (lo hi:Option Int) (sl:Addr) (Q:VK),Inv X pins σ H s->RelV x v->s.heap.IsSliceOf sl vl vu .none->IsPart vl lo->IsPart vu hi->r x lo hi H Q ->
  ∃ T id,typeLookup (.type T) "__getitem__"=pure (some (.builtin id))/\s.TypeIs v T/\wpAny (model X.prog X.w) X.A (getItem v (.ref sl)) (EP X pins σ Q) X.xe s
def tSl (r:V->Option Int->Option Int->Hp->VK->Prop)(te:TE)(tl th:TO):TE:=fun σ H Q=>te σ H fun x H1=>tl σ H1 fun l H2=>th σ H2 fun u H3=>r x l u H3 Q
theorem jM {r:V->Option Int->Option Int->Hp->VK->Prop}(hr:SlR X r)(he:PE X e te)(hl:PO X lo tl)(hu:PO X hi th):PE X (.Subscript e (.Slice lo hi none p2) pos) (tSl r te tl th):=by
 intro pins s σ H Q I h;refine Subscript_ (thn (he pins s σ H _ I h) fun v s1 ⟨x,H1,I1,r1,q1⟩=>?_);refine wpAny_Slice (thn (hl pins s1 σ H1 _ I1 q1) fun vl s2 ⟨l,H2,I2,pl,q2⟩=>thn (hu pins s2 σ H2 _ I2 q2) fun vu s3 ⟨u,H3,I3,pu,q3⟩=>?_);rw [evalPart_none];refine Q8 ?_;have I4:Inv X pins σ H3 { s3 with heap:=s3.heap.push { cls:=.type "slice",data:=.fields #[vl,vu,.none] } }:=I3.kept (t':=s3.toks) fun b ob q=>Q9 _ q;obtain ⟨T,id,hT,ht,hg⟩:=hr pins { s3 with heap:=s3.heap.push { cls:=.type "slice",data:=.fields #[vl,vu,.none] } } σ H3 x v vl vu l u s3.heap.objs.size Q I4 r1 (Heap.IsSliceOf.new ..) pl pu q3;show wpAny (model X.prog X.w) X.A (subscriptTail e (.Slice lo hi none p2) v (.ref s3.heap.objs.size)) (EP X pins σ Q) X.xe { s3 with heap:=s3.heap.push { cls:=.type "slice",data:=.fields #[vl,vu,.none] } };exact tail_any (ops:=[.ref s3.heap.objs.size,v]) ht hT hg (by with_unfolding_all rfl)
def Uz (xs:List V)(lo hi:Option Int):List V:=(xs.drop (HT.sIx xs.length 0 lo)).take (HT.sIx xs.length xs.length hi-HT.sIx xs.length 0 lo)
theorem Xl (xs:List V)(lo hi:Option Int):(Uz xs lo hi).length<=xs.length:=by
 unfold Uz;rw [ZC,Jg];omega
end
end L2
namespace L2
open PySem PySem.Spec PyProof.Rows
def ixN (n:Nat)(i:Int):Option Nat:=if 0<=i then (if i<n then some i.toNat else none) else if -(n:Int)<=i then some (i+n).toNat else none
def atI {α:Type}(xs:List α)(i:Int):Option α:=(ixN xs.length i).bind fun j=>xs[j]?
theorem ixN_seq {n:Nat}{i:Int}{j:Nat}(h:ixN n i=some j):seqIndex? i n=some j/\j<n/\-(n:Int)<=i/\i<n:=by
 unfold ixN at h
 by_cases h0:0<=i
 ·rw [Zz h0] at h
  by_cases h1:i<n
  ·rw [Zz h1] at h;have e:i.toNat=j:=Option.some.inj h;exact ⟨by rw [seqIndex_of h0 h1,e],by omega,by omega,h1⟩
  ·rw [Zy h1] at h;cases h
 ·rw [Zy h0] at h
  by_cases h1:-(n:Int)<=i
  ·rw [Zz h1] at h;have e:(i+n).toNat=j:=Option.some.inj h;exact ⟨by rw [seqIndex_neg (by omega) h1,e],by omega,h1,by omega⟩
  ·rw [Zy h1] at h;cases h
theorem BF {α:Type}{xs:List α}{i:Int}{v:α}(h:atI xs i=some v):∃ j,seqIndex? i xs.length=some j/\xs[j]?=some v/\j<xs.length/\-(xs.length:Int)<=i/\i<xs.length:=by
 unfold atI at h;cases e:ixN xs.length i with
 | none=>rw [e] at h;cases h
 | some j =>
  rw [e] at h;obtain ⟨h1,h2,h3,h4⟩:=ixN_seq e;exact ⟨j,h1,h,h2,h3,h4⟩
theorem xI {α:Type}{xs:List α}{j:Nat}{v:α}(h:xs[j]?=some v):atI xs (j:Int)=some v:=by
 have hj:j<xs.length:=(Zr.mp h).1;have e:ixN xs.length (j:Int)=some j:=by
  unfold ixN;rw [Zz (by omega),Zz (by omega)];simp
 unfold atI;rw [e];exact h
def PlainIx (b:Expr):Prop:=∀ o i,subscripted b false o i=operate [o,i] (getItem o i)
def IxR (X:Cx)(r:R2):Prop :=
 ∀ (value slice:Expr) (pins:List (Addr×Obj)) (s:Shared) (σ:St) (H:Hp) (x y:V) (v u:Value) (Q:VK),Inv X pins σ H s->RelV x v->RelV y u->r x y H Q ->
  subscripted slice false v u=operate [v,u] (getItem v u)->wpAny (model X.prog X.w) X.A (subscriptTail value slice v u) (EP X pins σ Q) X.xe s
def MtR (X:Cx)(id:String)(r:V->List V->Hp->VK->Prop):Prop :=
 ∀ (pins:List (Addr×Obj)) (s:Shared) (σ:St) (H:Hp) (x:V) (xs:List V) (v:Value) (us:List Value) (Q:VK),Inv X pins σ H s->RelV x v->Vals xs us->r x xs H Q ->
  wpAny (model X.prog X.w) X.A (call (.builtin id) (v::us)) (EP X pins σ Q) X.xe s
section
variable {X:Cx}{a b:Expr}{ta tb:TE}{pos:Pos}
theorem z8 {r:R2}(hr:IxR X r)(ha:PE X a ta)(hb:PE X b tb)(hs:PlainIx b):PE X (.Subscript a b pos) (tOp r ta tb):=by
 intro pins s σ H Q I h;exact Subscript_ (binT ha hb I h fun v u s2 x y H2 I2 rx ry q=>hr a b pins s2 σ H2 x y v u Q I2 rx ry q (hs _ _))
def rIxL (K:ZZF):R2:=fun x y H Q=>∃ p xs i v,x=.ref p/\y=.int i/\SqL K H p xs/\atI xs i=some v/\Q v H
def Ui (K:ZZF):R2:=fun x y H Q=>∃ p xs i v,x=.ref p/\y=.int i/\SqT K H p xs/\atI xs i=some v/\Q v H
def rIxS:R2:=fun x y H Q=>∃ z i c,x=.str z/\y=.int i/\z.length<=sizeLine/\atI z.cps.toList i=some c/\Q (.str ⟨#[c]⟩) H
theorem ix_list:IxR X (rIxL X.K):=by
 intro value slice pins s σ H x y v u Q I rx ry h hs;obtain ⟨p,xs,i,z,rfl,rfl,hq,he,q⟩:=h;cases rx;obtain ⟨t,rfl⟩:=ry;obtain ⟨its,r,pl,hz⟩:=I.list hq;obtain ⟨j,h1,h2,h3,h4,h5⟩:=BF he;obtain ⟨w,ew,rw'⟩:=r.get h2;have hl:=r.length;have hn:=Xh;have fin:EP X pins σ Q w s:=⟨z,H,I,rw',q⟩
 by_cases h0:0<=i
 ·have hj:i.toNat=j:=by
   rw [seqIndex_of h0 h5] at h1;exact Option.some.inj h1
  exact item_listR pl.isList h0 (by omega) (by rw [hj];simpa using ew) fin hs
 ·have hj:(i+(its.toArray.size:Int)).toNat=j:=by
   rw [seqIndex_neg (by omega) h4] at h1;rw [Zv,←hl];exact Option.some.inj h1
  exact subscriptTail_builtinR (x:=w) pl.isList.typeIs slot_list_getitem.lookup
   (wpAny_getItem_list_neg (Q:=fun r s'=>r=w/\EP X pins σ Q r s') pl.isList (by omega) (by rw [Zv]<;>omega) (by omega) (by rw [hj];simpa using ew) ⟨rfl,fin⟩) hs
theorem ix_tup:IxR X (Ui X.K):=by
 intro value slice pins s σ H x y v u Q I rx ry h hs;obtain ⟨p,xs,i,z,rfl,rfl,hq,he,q⟩:=h;cases rx;obtain ⟨t,rfl⟩:=ry;obtain ⟨its,r,pl,hz⟩:=I.tuple hq;obtain ⟨j,h1,h2,h3,h4,h5⟩:=BF he;obtain ⟨w,ew,rw'⟩:=r.get h2;have hl:=r.length;have hn:=Xh;have fin:EP X pins σ Q w s:=⟨z,H,I,rw',q⟩;exact subscriptTail_builtinR (x:=w) pl.typeIs slot_tuple_getitem.lookup
  (getItem_tuple (j:=j) (Q:=fun r s'=>r=w/\EP X pins σ Q r s') pl (by omega) (by omega) (by rw [Zv,←hl];exact h1) (by simpa using ew) ⟨rfl,fin⟩) hs
theorem ix_str:IxR X rIxS:=by
 intro value slice pins s σ H x y v u Q I rx ry h hs;obtain ⟨z,i,c,rfl,rfl,hz,he,q⟩:=h;obtain ⟨t,rfl⟩:=rx;obtain ⟨t',rfl⟩:=ry;obtain ⟨j,h1,h2,h3,h4,h5⟩:=BF he;have hl:z.cps.toList.length=z.length:=by simp [Str.length]
 rw [hl] at h1 h4 h5;have hn:=Xh;exact tail_any (J4 s z t) slot_str_getitem.lookup (getItem_str (c:=c) (by
  have e1:decide (i < -(2 ^ 63:Int))=false:=Zo (by omega);have e2:decide (i≥2 ^ 63)=false:=Zo (by omega);rw [e1,e2,Bool.or_false]) (by rw [h1];simpa using h2) ⟨.str ⟨#[c]⟩,H,I.tok _,⟨_,rfl⟩,q⟩) hs
theorem Bj (lo hi:Option Int)(n:Nat):(sliceBounds lo hi none n).1=((HT.sIx n 0 lo:Nat):Int)/\(sliceBounds lo hi none n).2.1=((HT.sIx n n hi:Nat):Int)/\(sliceBounds lo hi none n).2.2=1:=by
 refine ⟨?_,?_,rfl⟩
 ·cases lo with
  | none=>simp [sliceBounds,HT.sIx]
  | some i =>
   simp only [sliceBounds,HT.sIx,Option.getD_none,show (1:Int)>0 by decide,Ue]
   by_cases h:i<0
   ·simp only [h,Ue]<;>omega
   ·simp only [h,JV]<;>omega
 ·cases hi with
  | none=>simp [sliceBounds,HT.sIx]
  | some i =>
   simp only [sliceBounds,HT.sIx,Option.getD_none,show (1:Int)>0 by decide,Ue]
   by_cases h:i<0
   ·simp only [h,Ue]<;>omega
   ·simp only [h,JV]<;>omega
theorem Ge (its:List Value)(lo hi:Option Int):slicePick its.toArray lo hi none=((its.drop (HT.sIx its.length 0 lo)).take (HT.sIx its.length its.length hi-HT.sIx its.length 0 lo)).toArray:=by
 obtain ⟨h1,h2,h3⟩:=Bj lo hi its.toArray.size;unfold slicePick;rw [h1,h2,h3];simp only [sliceRange_one,pick_run,Zv]<;>rfl
def rSlL (K:ZZF):V->Option Int->Option Int->Hp->VK->Prop:=fun x lo hi H Q=>∃ a xs,x=.ref a/\SqL K H a xs/\∀ p,H p=none->Q (.ref p) (upd H p (.lst (Uz xs lo hi)))
theorem sl_list:SlR X (rSlL X.K):=by
 intro pins s σ H x v vl vu lo hi sl Q I rx hs pl pu h;obtain ⟨a,xs,rfl,hx,q⟩:=h;cases rx;obtain ⟨its,r,ht,hz⟩:=I.list hx;have hlen:=r.length;refine ⟨"list",_,slot_list_getitem.lookup,ht.isList.typeIs,?_⟩;refine wpAny_getItem_list_slice ht.isList hs pl pu .none (by simp) ?_ (by rw [Zv]<;>omega);rw [Ge,←hlen];refine ⟨.ref s.heap.objs.size,_,I.laid (t':=s.toks) (o:=.lst (Uz xs lo hi)) (fun b ob q=>Q9 _ q) (Ze _) ?_,rfl,q _ (I.hok.fresh (Ze _))⟩;exact ⟨Yb (Xl xs lo hi) hz,_,0,(r.drop (HT.sIx xs.length 0 lo)).take (HT.sIx xs.length xs.length hi-HT.sIx xs.length 0 lo),Zm _ rfl⟩
theorem zY:CallR X (.builtin "len") (fun xs H Q=>∃ p ys,xs=[.ref p]/\(SqL X.K H p ys\/SqT X.K H p ys)/\Q (.int ys.length) H):=by
 intro pins s σ H xs us Q I r h;obtain ⟨p,ys,rfl,hq,q⟩:=h;obtain ⟨u,rfl,rx⟩:=vals1 r;cases rx;have hn:=Xh
 rcases hq with hq|hq
 ·obtain ⟨its,r',pl,hz⟩:=I.list hq;have hlen:=r'.length;exact Calls.call_len_list pl.isList (by simp only [Zv]<;>omega) ⟨.int ys.length,H,I.tok _,⟨s.toks+1,by rw [Zv,hlen]⟩,q⟩
 ·obtain ⟨its,r',pl,hz⟩:=I.tuple hq;have hlen:=r'.length;exact len_tuple pl (by simp only [Zv]<;>omega) ⟨.int ys.length,H,I.tok _,⟨s.toks+1,by rw [Zv,hlen]⟩,q⟩
theorem x8:CallR X (.builtin "len") (fun xs H Q=>∃ z,xs=[.str z]/\z.length<=sizeLine/\Q (.int z.length) H):=by
 intro pins s σ H xs us Q I r h;obtain ⟨z,rfl,hz,q⟩:=h;obtain ⟨u,rfl,t,rfl⟩:=vals1 r;have hn:=Xh;exact len_str (by omega) ⟨.int z.length,H,I.tok _,⟨_,rfl⟩,q⟩
theorem CallR.or {f:Value}{r r':List V->Hp->VK->Prop}(h:CallR X f r)(h':CallR X f r'):CallR X f (fun xs H Q=>r xs H Q\/r' xs H Q):=by
 intro pins s σ H xs us Q I rs q
 rcases q with q|q
 ·exact h pins s σ H xs us Q I rs q
 ·exact h' pins s σ H xs us Q I rs q
theorem qX:CallR X (.type "list") (fun xs H Q=>∃ p ys,xs=[.ref p]/\(SqL X.K H p ys\/SqT X.K H p ys)/\∀ l,H l=none->Q (.ref l) (upd H l (.lst ys))):=by
 intro pins s σ H xs us Q I r h;obtain ⟨p,ys,rfl,hq,q⟩:=h;obtain ⟨u,rfl,rx⟩:=vals1 r;cases rx;have fin:∀ (its:List Value),Vals ys its->ys.length<=sizeLine->∀ (h':Heap) (c':Nat),(∀ b o',s.heap.get? b=some o'->h'.get? b=some o') ->
   h'.get? s.heap.objs.size=some { cls:=.type "list",dict:=none,data:=.seq its.toArray c',slots:=#[] }->EP X pins σ Q (.ref s.heap.objs.size) { s with heap:=h' }:=fun its r' hz h' c' kp e =>
  ⟨.ref s.heap.objs.size,_,I.laid (t':=s.toks) kp (Ze _) (show ObjOk X.prog X.w _ h' _ (.lst ys) from ⟨hz,its,c',r',e⟩),rfl,q _ (I.hok.fresh (Ze _))⟩
 rcases hq with hq|hq
 ·obtain ⟨its,r',pl,hz⟩:=I.list hq;have hlen:=r'.length;obtain ⟨o,ho,hc,n,hd⟩:=pl.isList;exact call_list_seq p (.inl rfl) ho hc hd (fun h' c' kp e=>fin its r' hz h' c' kp e) (by simp only [Zv]<;>omega)
 ·obtain ⟨its,r',pl,hz⟩:=I.tuple hq;have hlen:=r'.length;obtain ⟨o,ho,hc,n,hd⟩:=pl;exact call_list_seq p (.inr rfl) ho hc hd (fun h' c' kp e=>fin its r' hz h' c' kp e) (by simp only [Zv]<;>omega)
theorem kT:CallR X (.type "tuple") (fun xs H Q=>∃ p ys,xs=[.ref p]/\((SqL X.K H p ys/\∀ l,H l=none->Q (.ref l) (upd H l (.tup ys)))\/(SqT X.K H p ys/\Q (.ref p) H))):=by
 intro pins s σ H xs us Q I r h;obtain ⟨p,ys,rfl,h⟩:=h;obtain ⟨u,rfl,rx⟩:=vals1 r;cases rx
 rcases h with ⟨hq,q⟩|⟨hq,q⟩
 ·obtain ⟨its,r',pl,hz⟩:=I.list hq;have hlen:=r'.length;refine call_tuple_list pl.isList (fun h' kp=>?_) (by simp only [Zv]<;>omega);have I1:Inv X pins σ H { s with heap:=h' }:=I.kept (t':=s.toks) kp;have I2:Inv X pins σ (upd H h'.objs.size (.tup ys)) { s with heap:=h'.push { cls:=.type "tuple",data:=.seq its.toArray } } :=
   I1.laid (t':=s.toks) (fun b o e=>Q9 _ e) (Ze _) (show ObjOk X.prog X.w _ _ _ (.tup ys) from ⟨hz,its,r',TupAt.new _ _⟩)
  exact ⟨.ref h'.objs.size,_,I2,rfl,q _ (I1.hok.fresh (Ze _))⟩
 ·obtain ⟨its,r',pl,hz⟩:=I.tuple hq;exact call_tuple_same pl ⟨.ref p,H,I,rfl,q⟩
def tyV (K:ZZF)(T:String)(x:V)(H:Hp):Prop:=match x with
 | .str _=>T="str"
 | .int _=>T="int"
 | .ref p=>(T="list"/\∃ xs,SqL K H p xs)\/(T="tuple"/\∃ o,K.lookup p=some o/\o.cls=.type "tuple"/\o.dict=none) \/
   (T="dict"/\((∃ kvs,H p=some (.dK kvs))\/∃ kvs,H p=some (.dT kvs)))\/(T="set"/\∃ S n,H p=some (.set S n))
 | _=>False
theorem tyV_is {pins:List (Addr×Obj)}{σ:St}{H:Hp}{s:Shared}{T:String}{x:V}{v:Value}(I:Inv X pins σ H s)(r:RelV x v)(ty:tyV X.K T x H) :
  s.TypeIs v T/\∀ a,v=.ref a->∃ ob,s.heap.get? a=some ob/\ob.dict=none:=by
 cases x with
 | str z =>
  obtain ⟨t,rfl⟩:=r;cases (show T="str" from ty);exact ⟨J4 s z t,fun _ e=>nomatch e⟩
 | int i =>
  obtain ⟨t,rfl⟩:=r;cases (show T="int" from ty);exact ⟨typeIs_int s i t,fun _ e=>nomatch e⟩
 | ref p =>
  cases r
  rcases ty with ⟨rfl,xs,hq⟩|⟨rfl,o,hk,hc,hd⟩|⟨rfl,hk⟩|⟨rfl,S,n,hk⟩
  ·obtain ⟨its,_,pl,_⟩:=I.list hq;refine ⟨pl.isList.typeIs,fun a e=>?_⟩;cases e;obtain ⟨o,n,e,c,hd,_⟩:=pl;exact ⟨o,e,hd⟩
  ·refine ⟨⟨o,I.kIn p o hk,hc⟩,fun a e=>?_⟩;cases e;exact ⟨o,I.kIn _ o hk,hd⟩
  ·have z:∃ o,s.heap.get? p=some o/\o.ExactDict:=by
    rcases hk with ⟨kvs,hk⟩|⟨kvs,hk⟩
    ·obtain ⟨_,_,_,_,o,_,_,e,ex,_⟩:=I.hok p _ hk;exact ⟨o,e,ex⟩
    ·obtain ⟨_,_,_,_,o,_,_,e,ex,_⟩:=I.hok p _ hk;exact ⟨o,e,ex⟩
   obtain ⟨o,e,ex⟩:=z;refine ⟨⟨o,e,ex.1⟩,fun a e2=>?_⟩;cases e2;exact ⟨o,e,ex.2.1⟩
  ·obtain ⟨o,_,_,_,e,ex,_⟩:=I.hok p _ hk;refine ⟨⟨o,e,ex.1⟩,fun a e2=>?_⟩;cases e2;exact ⟨o,e,ex.2.1⟩
 | _=>exact False.elim ty
def tBM (K:ZZF)(T:String)(r:V->List V->Hp->VK->Prop)(to:TE)(t:TA):TE:=fun σ H Q=>to σ H fun x H1=>tyV K T x H1/\t σ H1 fun xs H2=>r x xs H2 Q
variable {o e:Expr}{es:List Expr}{to:TE}{t:TA}{name:Str}{apos cpos:Pos}{T id:String}{r:V->List V->Hp->VK->Prop}
theorem k9 (pa:PlainAttrs T)(slot:Slot T name id)(hty:typeOf (.builtin id)=pure (.type "method_descriptor"))(hm:MtR X id r)(ho:PE X o to)(ha:PA X (e::es) t)
  (hbase:attributeBase o name X.env (eval o X.env)=eval o X.env:=by rfl)
  (hfew:((backTo cpos (starEach (e::es) X.env)).all (fun x=>!x.1)&&(backToKw cpos (keywordEach [] X.env)).all (fun x=>x.1.isSome)
   && decide ((e::es).length+([]:List Keyword).length+(if ([]:List Keyword).isEmpty then 0 else 1)<30))=true:=by rfl)
  (hline:(apos.endLine==cpos.line)=true:=by rfl) (hs:starEach (e::es) X.env=(false,eval e X.env)::starEach es X.env:=by rfl) (hplain:(backTo cpos (starEach es X.env)).any (·.1)=false:=by rfl) :
  PE X (.Call (.Attribute o name apos) (e::es) [] cpos) (tBM X.K T r to t):=by
 intro pins s σ H Q I h;refine wpAny_Call_method_late hbase hfew hline rfl (thn (ho pins s σ H _ I h) fun v s1 ⟨x,H1,I1,r1,ty,q1⟩=>?_);obtain ⟨h1,h2⟩:=tyV_is I1 r1 ty;refine ⟨T,id,pa,slot,hty,h1,h2,?_⟩;have hA:=ha cpos pins s1 σ H1 _ I1 q1;rw [hs] at hA ⊢;refine Calls.callWith_builtin (by show (false||(backTo cpos (starEach es X.env)).any (·.1))=false;rw [hplain]<;>rfl) (Calls.evalArgs_plain ?_);exact thn hA fun us s2 ⟨vs,H2,I2,r2,q2⟩=>hm pins s2 σ H2 x vs v us Q I2 r1 r2 q2
end
end L2
namespace L2
open PySem PySem.Spec PyProof.Rows
def MtM (X:Cx)(id:String)(r:V->List V->Hp->VK->Prop):Prop :=
 ∀ (pins:List (Addr×Obj)) (s:Shared) (σ:St) (H:Hp) (x:V) (xs:List V) (v:Value) (us:List Value) (Q:VK),Inv X pins σ H s->RelV x v->Vals xs us->r x xs H Q ->
  wpAny (model X.prog X.w) X.A (call (.builtin id) (v::us)) (EP X pins σ Q) X.xe s
theorem Vals.one:∀ {x:V} {us:List Value},Vals [x] us->∃ u,us=[u]/\RelV x u
 | _,_,.cons r .nil=>⟨_,rfl,r⟩
section
variable {X:Cx}{pins:List (Addr×Obj)}{σ:St}{H:Hp}{s:Shared}{l b:Addr}{xs ys zs:List V}
theorem Inv.lset {its its':List Value}{n:Nat}{f:Array Value->Array Value}{t':Nat}(I:Inv X pins σ H s)(hH:H l=some (.lst xs))
  (e:s.heap.get? l=some { cls:=.type "list",data:=.seq its.toArray n }) (hf:f its.toArray=its'.toArray) (hv:Vals ys its') (hz:ys.length<=sizeLine) :
  Inv X pins σ (upd H l (.lst ys)) { s with heap:=s.heap.update l (Obj.mapSeq f),toks:=t' }:=by
 have q:=PySem.IsL.update e f;rw [hf] at q;refine I.write (x:=l) (e:=l) (by rw [hH];exact trivial) (.inl rfl) (fun b' u hb hu=>(Yy s.heap (Obj.mapSeq f) (Ne.symm hb)).trans hu) ⟨_,q⟩ ?_;exact ⟨hz,its',_,hv,q⟩
theorem Inv.lnew {its:List Value}{t':Nat}(I:Inv X pins σ H s)(hv:Vals ys its)(hz:ys.length<=sizeLine) :
  Inv X pins σ (upd H s.heap.objs.size (.lst ys)) { s with heap:=s.heap.push { cls:=.type "list",data:=.seq its.toArray },toks:=t' } :=
 I.laid (fun _ _ q=>Q9 _ q) (Ze _) ⟨hz,its,0,hv,Zm _ rfl⟩
theorem Inv.fresh (I:Inv X pins σ H s):H s.heap.objs.size=none:=I.hok.fresh (Ze _)
theorem Inv.lstM (I:Inv X pins σ H s)(hH:H l=some (.lst xs)):xs.length<=sizeLine/\∃ (its:List Value) (n:Nat),Vals xs its/\xs.length=its.length/\s.heap.get? l=some { cls:=.type "list",data:=.seq its.toArray n }:=by
 obtain ⟨z,its,n,r,e⟩:=I.hok l _ hH;exact ⟨z,its,n,r,r.length,e⟩
end
section
variable {X:Cx}
def rAppend:V->List V->Hp->VK->Prop:=fun x vs H Q=>∃ l xs y,x=.ref l/\vs=[y]/\H l=some (.lst xs)/\xs.length<sizeLine/\Q .non (upd H l (.lst (xs++[y])))
theorem U3:MtM X "list.append" rAppend:=by
 intro pins s σ H x vs v us Q I rx rv h;obtain ⟨l,xs,y,rfl,rfl,hH,hz,q⟩:=h;cases rx;obtain ⟨u,rfl,ru⟩:=rv.one;obtain ⟨z,its,n,r,hl,e⟩:=I.lstM hH;refine Vs F.slot_list_append ⟨_,e,rfl⟩ F.entry_list_append (F.args_list_append_2 _ _) (PySem.list_append l its.toArray n u (by rw [Zv];omega)) ⟨e,?_⟩;refine ⟨.non,_,I.lset (its':=its++[u]) hH e (by simp) (r.append (.cons ru .nil)) ?_,rfl,q⟩;rw [Zh,YO];omega
def rCat:R2:=fun x y H Q=>∃ l b xs zs,x=.ref l/\y=.ref b/\H l=some (.lst xs)/\H b=some (.lst zs)/\xs.length+zs.length<=sizeLine/\∀ p,H p=none->Q (.ref p) (upd H p (.lst (xs++zs)))
theorem vQ:OpR X (binaryOp .Add) rCat:=by
 intro pins s σ H x y v u Q I rx ry h;obtain ⟨l,b,xs,zs,rfl,rfl,hH,hB,hz,q⟩:=h;cases rx;cases ry;obtain ⟨z,its,n,r,hl,e⟩:=I.lstM hH;obtain ⟨z2,its2,n2,r2,hl2,e2⟩:=I.lstM hB;refine PySem.P.add_list e e2 ?_ (by rw [Zv,Zv];omega);have ea:its.toArray++its2.toArray=(its++its2).toArray:=by simp
 rw [ea];exact ⟨.ref _,_,I.lnew (t':=s.toks) (r.append r2) (by rw [Zh];omega),rfl,q _ I.fresh⟩
end
section
variable {prog:Program}{w:World}{A:Around}{E:Value->Shared->Prop}{s:Shared}
set_option maxRecDepth 100000 in
end
end L2
namespace L2
open PySem PySem.Spec PyProof.Rows
section
variable {κ:Type} [DecidableEq κ]
def Uh (kvs:List (κ×V))(k:κ):Option V:=(kvs.find? fun kv=>decide (kv.1=k)).map (·.2)
def putK (kvs:List (κ×V))(k:κ)(v:V):List (κ×V) :=
 if (kvs.any fun kv=>decide (kv.1=k))=true then kvs.map (fun kv=>if kv.1=k then (kv.1,v) else kv) else kvs++[(k,v)]
theorem xG {p:κ×V}{r:List (κ×V)}{k:κ}(e:p.1=k):Uh (p::r) k=some p.2:=by simp [Uh,YL,e]
theorem xB {p:κ×V}{r:List (κ×V)}{k:κ}(e:¬p.1=k):Uh (p::r) k=Uh r k:=by simp [Uh,YL,e]
theorem qD (k:κ):∀ kvs:List (κ×V),(kvs.any fun kv=>decide (kv.1=k))=(Uh kvs k).isSome
 | []=>rfl
 | p::r=>by
  rw [List.any_cons]
  by_cases e:p.1=k
  ·simp only [xG e,Zd e,Bool.true_or,Option.isSome_some]
  ·rw [xB e,Zo e,VU];exact qD k r
theorem valV_map (k j:κ)(y:V):∀ kvs:List (κ×V),Uh (kvs.map fun kv=>if kv.1=k then (kv.1,y) else kv) j=(Uh kvs j).map fun x=>if j=k then y else x
 | []=>rfl
 | p::r=>by
  have ih:=valV_map k j y r;rw [Zw]
  by_cases h:p.1=k
  ·rw [Zz h]
   by_cases e:p.1=j
   ·rw [xG (p:=(p.1,y)) e,xG e,Yp,Zz (e.symm.trans h)]
   ·rw [xB (p:=(p.1,y)) e,xB e,ih]
  ·rw [Zy h]
   by_cases e:p.1=j
   ·rw [xG (p:=p) e,xG e,Yp,Zy (fun z=>h (e.trans z))]
   ·rw [xB (p:=p) e,xB e,ih]
theorem GJ (k j:κ)(y:V):∀ kvs:List (κ×V),Uh kvs k=none->Uh (kvs++[(k,y)]) j=if j=k then some y else Uh kvs j
 | [],_=>by
  by_cases e:k=j
  ·rw [Zz e.symm];exact xG (p:=(k,y)) e
  ·rw [Zy (fun z=>e z.symm)];exact xB (p:=(k,y)) e
 | p::r,hn=>by
  rw [List.cons_append];have hk:¬p.1=k:=fun z=>by rw [xG z] at hn;cases hn
  rw [xB hk] at hn;have ih:=GJ k j y r hn
  by_cases e:p.1=j
  ·rw [xG e,xG e,Zy (fun z=>hk (e.trans z))]
  ·rw [xB e,xB e,ih]
theorem valV_put (kvs:List (κ×V))(k j:κ)(y:V):Uh (putK kvs k y) j=if j=k then some y else Uh kvs j:=by
 unfold putK
 by_cases a:(kvs.any fun kv=>decide (kv.1=k))=true
 ·rw [Zz a,valV_map];rw [qD] at a
  by_cases e:j=k
  ·obtain ⟨x,hx⟩:=JU.mp a;rw [Zz e,e,hx,Yp,Zz rfl]
  ·rw [Zy e];cases Uh kvs j with
   | none=>rfl
   | some x=>rw [Yp,Zy e]
 ·rw [Zy a];refine GJ k j y kvs ?_;rw [qD] at a;cases q:Uh kvs k with
  | none=>rfl
  | some x=>rw [q] at a;exact (a rfl).elim
theorem xX (kvs:List (κ×V))(k:κ)(v:V):(putK kvs k v).length<=kvs.length+1:=by
 unfold putK
 split
 ·rw [Q5];omega
 ·rw [Zh,Zn,Ja];omega
theorem putK_new {kvs:List (κ×V)}{k:κ}(v:V)(h:Uh kvs k=none):putK kvs k v=kvs++[(k,v)]:=by
 unfold putK;rw [qD,h];exact Zy (by decide)
theorem RelO.isSome_eq {o:Option V}{u:Option Value}(r:RelO o u):o.isSome=u.isSome:=by
 cases o with
 | none=>cases u with
  | none=>rfl
  | some _=>exact (show False from r).elim
 | some _=>cases u with
  | none=>exact (show False from r).elim
  | some _=>rfl
theorem RelO.getD {o:Option V}{u:Option Value}{d:V}{d':Value}(r:RelO o u)(rd:RelV d d'):RelV (o.getD d) (u.getD d'):=by
 cases o with
 | none=>cases u with
  | none=>exact rd
  | some _=>exact (show False from r).elim
 | some _=>cases u with
  | none=>exact (show False from r).elim
  | some _=>exact r
theorem KV.val {kvs:List (κ×V)}{vs:List (κ×Value)}(r:KV kvs vs)(k:κ):RelO (Uh kvs k) (valueAt vs k):=by
 unfold KV at r
 induction r with
 | nil=>exact True.intro
 | @cons p q ps qs h t ih =>
  obtain ⟨h1,h2⟩:=h
  by_cases e:p.1=k
  ·have e':q.1=k:=h1.symm.trans e;have b:valueAt (q::qs) k=some q.2:=by simp [valueAt,YL,e']
   rw [xG e,b];exact h2
  ·have e':¬q.1=k:=fun z=>e (h1.trans z);have b:valueAt (q::qs) k=valueAt qs k:=by simp [valueAt,YL,e']
   rw [xB e,b];exact ih
theorem KV.any {kvs:List (κ×V)}{vs:List (κ×Value)}(r:KV kvs vs)(k:κ):(kvs.any fun kv=>decide (kv.1=k))=vs.any fun kv=>decide (kv.1=k):=by
 unfold KV at r
 induction r with
 | nil=>rfl
 | cons h t ih=>rw [List.any_cons,List.any_cons,ih,h.1]
theorem KV.repl {kvs:List (κ×V)}{vs:List (κ×Value)}(r:KV kvs vs)(k:κ){y:V}{u:Value}(ry:RelV y u) :
  KV (kvs.map fun kv=>if kv.1=k then (kv.1,y) else kv) (vs.map fun kv=>if kv.1=k then (kv.1,u) else kv):=by
 unfold KV at r ⊢
 induction r with
 | nil=>exact .nil
 | @cons p q ps qs h t ih =>
  rw [Zw,Zw];refine .cons ?_ ih;obtain ⟨h1,h2⟩:=h
  by_cases e:p.1=k
  ·rw [Zz e,Zz (h1.symm.trans e)];exact ⟨h1,ry⟩
  ·rw [Zy e,Zy (fun z=>e (h1.trans z))];exact ⟨h1,h2⟩
theorem KV.put {kvs:List (κ×V)}{vs:List (κ×Value)}(r:KV kvs vs)(k:κ){y:V}{u:Value}(ry:RelV y u):KV (putK kvs k y) (stored vs k u):=by
 unfold putK stored;rw [r.any k]
 by_cases e:(vs.any fun kv=>decide (kv.1=k))=true
 ·rw [Zz e,Zz e];exact r.repl k ry
 ·rw [Zy e,Zy e];exact Paired.snoc r ⟨rfl,ry⟩
theorem KV.length {kvs:List (κ×V)}{vs:List (κ×Value)}(r:KV kvs vs):kvs.length=vs.length:=Paired.length r
end
theorem Xn {P:Program}{w:World}{k:Key}{u:Value}(r:RelV (kV k) u):(mixKind P w).is k u=true:=by
 cases k with
 | inl i=>obtain ⟨t,e⟩:=(show ∃ t,u=Value.int i t from r);subst e;exact mixKind_int P w i t
 | inr x=>obtain ⟨t,e⟩:=(show ∃ t,u=Value.str x t from r);subst e;exact mixKind_str P w x t
theorem GD {P:Program}{w:World}:∀ {ks:List Key} {us:List Value},Vals (ks.map kV) us->ItemsAre (mixKind P w) ks us
 | [],_,r=>by rw [VG] at r;cases r;exact .nil
 | k::ks,_,r=>by
  rw [Zw] at r;cases r with
  | cons h t=>exact .cons (Xn h) (GD t)
abbrev KT (H:Hp):List (List Key×V)->List (List Key×Addr×Value)->Prop:=Paired fun p q=>p.1=q.1/\H q.2.1=some (.tup (p.1.map kV))/\RelV p.2 q.2.2
theorem KT.val {H:Hp}{kvs:List (List Key×V)}{xs:List (List Key×Addr×Value)}(r:KT H kvs xs)(k:List Key):RelO (Uh kvs k) ((atKey xs k).map (·.2)):=by
 induction r with
 | nil=>exact True.intro
 | @cons p q ps qs h t ih =>
  obtain ⟨h1,_,h2⟩:=h
  by_cases e:p.1=k
  ·have e':q.1=k:=h1.symm.trans e;have b:atKey (q::qs) k=some q.2:=by simp [atKey,YL,e']
   rw [xG e,b];exact h2
  ·have e':¬q.1=k:=fun z=>e (h1.trans z);have b:atKey (q::qs) k=atKey qs k:=by simp [atKey,YL,e']
   rw [xB e,b];exact ih
theorem KT.repl {H:Hp}{kvs:List (List Key×V)}{xs:List (List Key×Addr×Value)}(r:KT H kvs xs)(k:List Key){y:V}{u:Value}(ry:RelV y u) :
  KT H (kvs.map fun kv=>if kv.1=k then (kv.1,y) else kv) (xs.map (putAt k u)):=by
 induction r with
 | nil=>exact .nil
 | @cons p q ps qs h t ih =>
  rw [Zw,Zw];refine .cons ?_ ih;obtain ⟨h1,h2,h3⟩:=h;unfold putAt
  by_cases e:p.1=k
  ·rw [Zz e,Zz (h1.symm.trans e)];exact ⟨h1,h2,ry⟩
  ·rw [Zy e,Zy (fun z=>e (h1.trans z))];exact ⟨h1,h2,h3⟩
theorem KT.put {H:Hp}{kvs:List (List Key×V)}{xs:List (List Key×Addr×Value)}(r:KT H kvs xs)(k:List Key){b:Addr}{y:V}{u:Value}(hb:H b=some (.tup (k.map kV)))(ry:RelV y u) :
  KT H (putK kvs k y) (storedH xs k b u):=by
 have e:(kvs.any fun kv=>decide (kv.1=k))=(atKey xs k).isSome:=by
  rw [qD,(r.val k).isSome_eq,Option.isSome_map]
 unfold putK storedH;rw [e]
 by_cases q:(atKey xs k).isSome=true
 ·rw [Zz q,Zz q];exact r.repl k ry
 ·rw [Zy q,Zy q];exact Paired.snoc r ⟨rfl,hb,ry⟩
theorem KT.keeps {H H':Hp}{kvs:List (List Key×V)}{xs:List (List Key×Addr×Value)}(r:KT H kvs xs)(ht:∀ b ys,H b=some (.tup ys)->H' b=some (.tup ys)):KT H' kvs xs :=
 Paired.mapP r fun _ _ z=>⟨z.1,ht _ _ z.2.1,z.2.2⟩
section
variable {P:Program}{w:World}{H:Hp}{h:Heap}{a:Addr}
theorem rd_of {u:HO}(ok:HOk P w H h)(e:Rd H a u):ObjOk P w H h a u:=e.ok ok
theorem vK {kvs:List (Key×V)}(ok:HOk P w H h)(e:Rd H a (.dK kvs)):kvs.length<=sizeLine/\(a==sysModules)=false/\∃ vs,KV kvs vs/\h.DictOf (mixKind P w) a vs :=
 show ObjOk P w H h a (.dK kvs) from rd_of ok e
theorem dk_of {kvs:List (Key×V)}(ok:HOk P w H h)(e:H a=some (.dK kvs)):kvs.length<=sizeLine/\(a==sysModules)=false/\∃ vs,KV kvs vs/\h.DictOf (mixKind P w) a vs:=vK ok (.inl e)
theorem U0 {ks:List Key}(ok:HOk P w H h)(e:H a=some (.tup (ks.map kV))):(tupleKind (mixKind P w)).is h ks a:=by
 obtain ⟨_,its,r,o,h1,h2,n,h3,_⟩:=(show ObjOk P w H h a (.tup (ks.map kV)) from ok a _ e);exact ⟨o,its.toArray,n,h1,h2,h3,by simpa using GD r⟩
theorem Iz {kvs:List (List Key×V)}(ok:HOk P w H h)(e:Rd H a (.dT kvs)):kvs.length<=sizeLine/\(a==sysModules)=false /\
  ∃ xs,KT H kvs xs/\h.DictOfH (tupleKind (mixKind P w)) a xs:=by
 obtain ⟨z,y,xs,r,o,es,ep,h1,h2,h3,h4,h5⟩:=(show ObjOk P w H h a (.dT kvs) from rd_of ok e);refine ⟨z,y,xs,r,o,es,ep,h1,h2,h3,h4,fun x hx=>?_,h5⟩;have all:∀ {l:List (List Key×V)} {m:List (List Key×Addr×Value)},KT H l m->∀ x∈m,(tupleKind (mixKind P w)).is h x.1 x.2.1:=by
  intro l m q
  induction q with
  | nil=>intro x hx;exact nomatch hx
  | @cons p q ps qs hq t ih =>
   intro x hx
   rcases Zi.mp hx with e|hx
   ·subst e;exact U0 ok (by rw [←hq.1];exact hq.2.1)
   ·exact ih x hx
 exact all r x hx
theorem dt_of {kvs:List (List Key×V)}(ok:HOk P w H h)(e:H a=some (.dT kvs)):kvs.length<=sizeLine/\(a==sysModules)=false /\
  ∃ xs,KT H kvs xs/\h.DictOfH (tupleKind (mixKind P w)) a xs:=Iz ok (.inl e)
end
def DGet (H:Hp)(a:Addr)(y:V)(r:Option V):Prop :=
 (∃ kvs k,Rd H a (.dK kvs)/\y=kV k/\r=Uh kvs k)\/∃ kvs k b,Rd H a (.dT kvs)/\y=.ref b/\H b=some (.tup (k.map kV))/\r=Uh kvs k
def DPut (H:Hp)(a:Addr)(y v:V)(H':Hp):Prop :=
 (∃ kvs k,H a=some (.dK kvs)/\y=kV k/\kvs.length<sizeLine/\H'=upd H a (.dK (putK kvs k v))) \/
 ∃ kvs k b,H a=some (.dT kvs)/\y=.ref b/\H b=some (.tup (k.map kV))/\kvs.length<sizeLine/\H'=upd H a (.dT (putK kvs k v))
theorem DGet.k {H:Hp}{a:Addr}{kvs:List (Key×V)}{k:Key}(e:H a=some (.dK kvs)):DGet H a (kV k) (Uh kvs k):=.inl ⟨kvs,k,.inl e,rfl,rfl⟩
theorem DPut.k {H:Hp}{a:Addr}{kvs:List (Key×V)}{k:Key}{v:V}(e:H a=some (.dK kvs))(hl:kvs.length<sizeLine):DPut H a (kV k) v (upd H a (.dK (putK kvs k v))):=.inl ⟨kvs,k,e,rfl,hl,rfl⟩
section
variable {X:Cx}{pins:List (Addr×Obj)}{σ:St}{H:Hp}{s:Shared}{a:Addr}{y v:V}{u r:Value}{o:Option V}{A:Around}{E:Value->Shared->Prop}
theorem Inv.big (I:Inv X pins σ H s):sysModules<s.heap.objs.size:=by
 have h:mainGlobals<s.heap.objs.size:=(I.mod.glob.keeps I.bk).lt;exact V3 (by decide) h
theorem d_getItem {Q:Value->Shared->Prop}(hu:A.units+1<cLine)(I:Inv X pins σ H s)(g:DGet H a y (some v))(ry:RelV y u)(h:∀ w' s',Inv X pins σ H s'->RelV v w'->Q w' s') :
  wpAny (model X.prog X.w) A (getItem (.ref a) u) Q E s:=by
 rcases g with ⟨kvs,k,e,ey,l⟩|⟨kvs,k,b,e,ey,eb,l⟩
 ·subst ey;obtain ⟨z,hd,vs,rel,dd⟩:=vK I.hok e;obtain ⟨w',hw,rw'⟩:=RelO.some_of (v:=v) (o:=valueAt vs k) (by rw [l];exact rel.val k);exact wpAny_getItem_of (Xn ry) dd.mapOf hw (h w' _ (I.tok _) rw')
 ·subst ey;cases (show u=Value.ref b from ry);obtain ⟨z,hd,xs,rel,dd⟩:=Iz I.hok e;obtain ⟨w',hw,rw'⟩:=RelO.some_of (v:=v) (o:=(atKey xs k).map (·.2)) (by rw [l];exact rel.val k);obtain ⟨p,hp,hp2⟩:=ZM.mp hw;refine wpAny_getItem_heap (Jn hu) (U0 I.hok eb) dd hp ?_;rw [hp2];exact h w' _ (I.tok _) rw'
theorem d_in {Q:Value->Shared->Prop}(hu:A.units+1<cLine)(I:Inv X pins σ H s)(g:DGet H a y o)(ry:RelV y u)(h:∀ s',Inv X pins σ H s'->Q (.bool o.isSome) s') :
  wpAny (model X.prog X.w) A (compareOp .In u (.ref a)) Q E s:=by
 rcases g with ⟨kvs,k,e,ey,l⟩|⟨kvs,k,b,e,ey,eb,l⟩
 ·subst ey;obtain ⟨z,hd,vs,rel,dd⟩:=vK I.hok e;refine wpAny_in_of (Xn ry) hd dd.mapOf ?_;rw [←(rel.val k).isSome_eq,←l];exact h _ (I.tok _)
 ·subst ey;cases (show u=Value.ref b from ry);obtain ⟨z,hd,xs,rel,dd⟩:=Iz I.hok e;refine wpAny_in_heap (Jn hu) (U0 I.hok eb) hd dd ?_;have q:=(rel.val k).isSome_eq;rw [Option.isSome_map] at q;rw [←q,←l];exact h _ (I.tok _)
theorem XU {h':Heap}{t':Nat}{ob:HO}(I:Inv X pins σ H s)(mu:Mut (H a))(hs:Heap.SameBut a s.heap h')(he:∃ q,h'.get? a=some q)(new:ObjOk X.prog X.w (upd H a ob) h' a ob) :
  Inv X pins σ (upd H a ob) { s with heap:=h',toks:=t' } :=
 I.write (x:=a) (e:=a) mu (.inl rfl) (fun b q hb z=>(hs.2 b hb).trans z) he new
theorem Br {P:Program}{w:World}{H':Hp}{h':Heap}{kvs:List (Key×V)}{vs:List (Key×Value)}(z:kvs.length<=sizeLine)(hd:(a==sysModules)=false)(rel:KV kvs vs)(dd:h'.DictOf (mixKind P w) a vs) :
  ObjOk P w H' h' a (.dK kvs):=⟨z,hd,vs,rel,dd⟩
theorem d_setItem {H':Hp}{Q:Unit->Shared->Prop}(hu:A.units+1<cLine)(I:Inv X pins σ H s)(g:DPut H a y v H')(ry:RelV y u)(rv:RelV v r)(h:∀ s',Inv X pins σ H' s'->Q () s') :
  wpAny (model X.prog X.w) A (setItem (.ref a) u r) Q E s:=by
 rcases g with ⟨kvs,k,e,ey,l,eH⟩|⟨kvs,k,b,e,ey,eb,l,eH⟩
 ·subst ey eH;obtain ⟨z,hd,vs,rel,dd⟩:=dk_of I.hok e;have hz:vs.length<=sizeLine:=by rw [←rel.length];exact z
  have hl:(putK kvs k v).length<=sizeLine:=by have:=xX kvs k v;omega
  refine wpAny_setItem_pairs (hsz:=hz) (Xn ry) dd fun h' dd' hs=>h _ ?_;have he:∃ q,h'.get? a=some q:=let ⟨q,_,_,hq,_⟩:=dd';⟨q,hq⟩;exact XU I (by rw [e];exact True.intro) hs he (Br hl hd (rel.put k rv) dd')
 ·subst ey eH;cases (show u=Value.ref b from ry);obtain ⟨z,hd,xs,rel,dd⟩:=dt_of I.hok e;have hz:xs.length<=sizeLine:=by rw [←Paired.length rel];exact z
  have hl:(putK kvs k v).length<=sizeLine:=by have:=xX kvs k v;omega
  refine wpAny_setItem_heap (hsz:=hz) (Jn hu) (U0 I.hok eb) dd fun h' dd' hs=>h _ ?_;obtain ⟨q,es,ep,hq,h2,h3,h4,_,h5⟩:=dd';refine XU I (by rw [e];exact True.intro) hs ⟨q,hq⟩ ⟨hl,hd,_,(rel.put k eb rv).keeps fun c ys ec=>?_,q,es,ep,hq,h2,h3,h4,h5⟩;rw [zH (ne_of ec e (fun z=>nomatch z))];exact ec
end
section
variable {X:Cx}{pins:List (Addr×Obj)}{σ:St}{H:Hp}{s:Shared}{a:Addr}{kvs:List (Key×V)}{k:Key}{u:Value}{A:Around}{E:Value->Shared->Prop}
theorem d_len {Q:Value->Shared->Prop}(I:Inv X pins σ H s)(e:Rd H a (.dK kvs))(h:∀ t s',Inv X pins σ H s'->Q (.int kvs.length t) s'):wpAny (model X.prog X.w) A (call (.builtin "len") [.ref a]) Q E s:=by
 obtain ⟨z,hd,vs,rel,dd⟩:=vK I.hok e;refine call_len_dict hd dd (by rw [←rel.length];rw [Ym] at z;omega) ?_;rw [←rel.length];exact h _ _ (I.tok _)
end
def NoSl (i:Expr):Prop:=∀ ov iv,subscripted i false ov iv=operate [ov,iv] (getItem ov iv)
theorem By {prog:Program}{w:World}{A:Around}{E:Value->Shared->Prop}{s:Shared}{env:Env}{value slice:Expr}{pos:Pos}{T id:String}{Q:Value->Shared->Prop}
  (hl:typeLookup (.type T) "__getitem__"=pure (some (.builtin id))) (hs:NoSl slice)
  (h:wpAny (model prog w) A (eval value env) (fun o s₁=>wpAny (model prog w) A (eval slice env) (fun i s₂=>s₂.TypeIs o T/\wpAny (model prog w) A (getItem o i) Q E s₂) E s₁) E s) :
  wpAny (model prog w) A (eval (.Subscript value slice pos) env) Q E s:=by
 refine Subscript_ (Yn h (fun o s₁ h₁=>Yn h₁ (fun i s₂ h₂=>?_) fun _ _ x=>x) fun _ _ x=>x);obtain ⟨hT,h₂⟩:=h₂;unfold subscriptTail;refine Q6 ?_;rw [getitemInPython_of_ne hT.not_modules];refine Q6 (J3 hT hl ?_);have fin:wpAny (model prog w) A (subscripted slice false o i) (fun r s₃=>wpAny (model prog w) A (letTemporaryGo value o r>>=fun _=>pure r) Q E s₃) E s₂:=by
  rw [hs o i];exact wpAny_operating (Yn h₂ (fun r s₃ h₃=>Q6 (wpAny_letTemporaryGo (Q8 h₃))) fun _ _ x=>x)
 first
  | exact Q8 (Q6 fin)
  | exact Q6 (Q8 (Q6 fin))
  | exact Q6 fin
theorem dict_typeIs {X:Cx}{pins:List (Addr×Obj)}{σ:St}{H:Hp}{s:Shared}{a:Addr}{y:V}{o:Option V}(I:Inv X pins σ H s)(g:DGet H a y o):s.TypeIs (.ref a) "dict":=by
 rcases g with ⟨kvs,k,e,_,_⟩|⟨kvs,k,b,e,_,_,_⟩
 ·obtain ⟨_,_,vs,_,dd⟩:=vK I.hok e;exact dd.typeIs
 ·obtain ⟨_,_,xs,_,dd⟩:=Iz I.hok e;exact dd.typeIs
def tDGet (td ty:TE):TE:=fun σ H Q=>td σ H fun x H1=>ty σ H1 fun y H2=>∃ a v,x=.ref a/\DGet H2 a y (some v)/\Q v H2
def sDPut (td ty tv:TE):TS:=fun D σ H=>tv σ H fun v H1=>td σ H1 fun x H2=>ty σ H2 fun y H3=>∃ a H4,x=.ref a/\DPut H3 a y v H4/\D.nx σ H4
section
variable {X:Cx}{o i e value:Expr}{pos pos' tpos:Pos}{td ty tv:TE}
theorem j2 (hu:X.A.units+1<cLine)(ho:PE X o td)(hi:PE X i ty)(hs:NoSl i):PE X (.Subscript o i pos) (tDGet td ty):=by
 intro pins s σ H Q I h;refine By PySem.F.slot_dict_getitem.lookup hs (thn (ho pins s σ H _ I h) fun u s1 ⟨x,H1,I1,rx,q1⟩=>thn (hi pins s1 σ H1 _ I1 q1) fun iv s2 ⟨y,H2,I2,ry,a,v,ex,g,q2⟩=>?_);subst ex;obtain rfl:u=Value.ref a:=rx;exact ⟨dict_typeIs I2 g,d_getItem hu I2 g ry fun w' s3 I3 rw'=>⟨v,H2,I3,rw',q2⟩⟩
theorem xF (hu:X.A.units+1<cLine)(ho:PE X o td)(hi:PE X i ty)(hv:PE X value tv)(hs:swapsWith value (some (.Subscript o i pos')) pos.line X.env=pure false) :
  PS X (.Assign [.Subscript o i pos'] value pos) (sDPut td ty tv):=by
 intro pins s σ H D I h;refine wpAny_Assign_Subscript (thn (hv pins s σ H _ I h) fun r s1 ⟨v,H1,I1,rv,q1⟩=>thn (ho pins s1 σ H1 _ I1 q1) fun u s2 ⟨x,H2,I2,rx,q2⟩=>thn (hi pins s2 σ H2 _ I2 q2) fun iv s3 ⟨y,H3,I3,ry,a,H4,ex,g,q3⟩=>?_) hs;subst ex;obtain rfl:u=Value.ref a:=rx;exact d_setItem hu I3 g ry rv fun s4 I4=>⟨σ,H4,I4,q3⟩
end
theorem dk_empty {P:Program}{w:World}{H:Hp}(h:Heap)(hb:sysModules<h.objs.size):ObjOk P w H (h.push { cls:=.type "dict",data:=.dict #[] }) h.objs.size (.dK []) :=
 ⟨ZJ _,Ys.mpr (Ne.symm (Zu hb)),[],.nil,Heap.DictOf.new h⟩
def tDNewK:TE:=fun _ H Q=>∀ p,H p=none->Q (.ref p) (upd H p (.dK []))
section
variable {X:Cx}{pos:Pos}
theorem xO:PE X (.Dict [] [] pos) tDNewK:=fun pins s σ H Q I h =>
 wpAny_Dict_empty ⟨.ref s.heap.objs.size,_,I.laid (a:=s.heap.objs.size) (o:=.dK []) (t':=s.toks) (fun _ _ q=>Q9 _ q) (Ze _) (dk_empty s.heap I.big),rfl,h _ (I.hok.fresh (Ze _))⟩
end
structure M1 (X:Cx)(o:Expr)(m:Str)(apos:Pos)(e:Expr)(cpos:Pos):Prop where
 base:attributeBase o m X.env (eval o X.env)=eval o X.env
 few:((backTo cpos (starEach [e] X.env)).all (fun x=>!x.1)&&(backToKw cpos (keywordEach [] X.env)).all (fun x=>x.1.isSome)
  && decide (([e]:List Expr).length+([]:List Keyword).length+(if ([]:List Keyword).isEmpty then 0 else 1)<30))=true
 line:(apos.endLine==cpos.line)=true
 trees:backTo cpos (starEach [e] X.env)=[(false,eval e X.env)]
structure M2 (X:Cx)(o:Expr)(m:Str)(apos:Pos)(e f:Expr)(cpos:Pos):Prop where
 base:attributeBase o m X.env (eval o X.env)=eval o X.env
 few:((backTo cpos (starEach [e,f] X.env)).all (fun x=>!x.1)&&(backToKw cpos (keywordEach [] X.env)).all (fun x=>x.1.isSome)
  && decide (([e,f]:List Expr).length+([]:List Keyword).length+(if ([]:List Keyword).isEmpty then 0 else 1)<30))=true
 line:(apos.endLine==cpos.line)=true
 trees:backTo cpos (starEach [e,f] X.env)=[(false,eval e X.env),(false,eval f X.env)]
def IsD (H:Hp)(a:Addr):Prop:=(∃ kvs,Rd H a (.dK kvs))\/∃ kvs,Rd H a (.dT kvs)
theorem isD_at {X:Cx}{pins:List (Addr×Obj)}{σ:St}{H:Hp}{s:Shared}{a:Addr}(I:Inv X pins σ H s)(d:IsD H a) :
  s.TypeIs (.ref a) "dict"/\(∀ b,Value.ref a=.ref b->∃ ob,s.heap.get? b=some ob/\ob.dict=none)/\(a==sysModules)=false:=by
 rcases d with ⟨kvs,e⟩|⟨kvs,e⟩
 ·obtain ⟨_,hd,vs,_,dd⟩:=vK I.hok e;refine ⟨dd.typeIs,fun b q=>?_,hd⟩;cases q;obtain ⟨ob,_,_,h1,h2,_⟩:=dd;exact ⟨ob,h1,h2.2.1⟩
 ·obtain ⟨_,hd,xs,_,dd⟩:=Iz I.hok e;refine ⟨dd.typeIs,fun b q=>?_,hd⟩;cases q;obtain ⟨ob,_,_,h1,h2,_⟩:=dd;exact ⟨ob,h1,h2.2.1⟩
section
variable {X:Cx}{pins:List (Addr×Obj)}{σ:St}{H:Hp}{s:Shared}{a:Addr}{y d:V}{u r:Value}{o:Option V}{A:Around}{E:Value->Shared->Prop}
theorem d_get1 {Q:Value->Shared->Prop}(hu:A.units+1<cLine)(I:Inv X pins σ H s)(g:DGet H a y o)(ry:RelV y u)(h:∀ w' s',Inv X pins σ H s'->RelV (o.getD .non) w'->Q w' s') :
  wpAny (model X.prog X.w) A (call (.builtin "dict.get") [.ref a,u]) Q E s:=by
 rcases g with ⟨kvs,k,e,ey,l⟩|⟨kvs,k,b,e,ey,eb,l⟩
 ·subst ey;obtain ⟨z,hd,vs,rel,dd⟩:=vK I.hok e;refine JN YQ dd.typeIs Jo (PySem.F.args_dict_get_2 _ _) (meets_dict_get (mixKind X.prog X.w) a (Xn ry) hd) ⟨_,dd.mapOf,h _ _ (I.tok _) ?_⟩;rw [l];exact (rel.val k).getD rfl
 ·subst ey;cases (show u=Value.ref b from ry);obtain ⟨z,hd,xs,rel,dd⟩:=Iz I.hok e;refine JN YQ dd.typeIs Jo (PySem.F.args_dict_get_2 _ _) (meetsH_dict_get (tupleKind (mixKind X.prog X.w)) a b hd) ⟨Jn hu,k,xs,U0 I.hok eb,dd,h _ _ (I.tok _) ?_⟩;rw [l];exact (rel.val k).getD rfl
theorem d_get2 {Q:Value->Shared->Prop}(hu:A.units+1<cLine)(I:Inv X pins σ H s)(g:DGet H a y o)(ry:RelV y u)(rd:RelV d r)(h:∀ w' s',Inv X pins σ H s'->RelV (o.getD d) w'->Q w' s') :
  wpAny (model X.prog X.w) A (call (.builtin "dict.get") [.ref a,u,r]) Q E s:=by
 rcases g with ⟨kvs,k,e,ey,l⟩|⟨kvs,k,b,e,ey,eb,l⟩
 ·subst ey;obtain ⟨z,hd,vs,rel,dd⟩:=vK I.hok e;refine JN YQ dd.typeIs Jo (PySem.F.args_dict_get_3 _ _ _) (meets_dict_get_default (mixKind X.prog X.w) a (Xn ry) hd r) ⟨_,dd.mapOf,h _ _ (I.tok _) ?_⟩;rw [l];exact (rel.val k).getD rd
 ·subst ey;cases (show u=Value.ref b from ry);obtain ⟨z,hd,xs,rel,dd⟩:=Iz I.hok e;refine JN YQ dd.typeIs Jo (PySem.F.args_dict_get_3 _ _ _) (meetsH_dict_get_default (tupleKind (mixKind X.prog X.w)) a b hd r) ⟨Jn hu,k,xs,U0 I.hok eb,dd,h _ _ (I.tok _) ?_⟩;rw [l];exact (rel.val k).getD rd
end
def tDGet1 (td ty:TE):TE:=fun σ H Q=>td σ H fun x H1=>∃ a,x=.ref a/\IsD H1 a/\ty σ H1 fun y H2=>∃ o,DGet H2 a y o/\Q (o.getD .non) H2
def tDGet2 (td ty tx:TE):TE:=fun σ H Q=>td σ H fun x H1=>∃ a,x=.ref a/\IsD H1 a/\ty σ H1 fun y H2=>tx σ H2 fun z H3=>∃ o,DGet H3 a y o/\Q (o.getD z) H3
section
variable {X:Cx}{o e f:Expr}{apos cpos:Pos}{td ty tx:TE}
theorem pe_dget1 (hu:X.A.units+1<cLine)(ho:PE X o td)(he:PE X e ty)(m:M1 X o "get" apos e cpos):PE X (.Call (.Attribute o "get" apos) [e] [] cpos) (tDGet1 td ty):=by
 intro pins s σ H Q I h;refine VT m.base m.few m.line J8 YQ PySem.F.type_dict_get (thn (ho pins s σ H _ I h) fun u s1 ⟨x,H1,I1,rx,a,ex,d,q1⟩=>?_);subst ex;obtain rfl:u=Value.ref a:=rx;obtain ⟨t1,t2,_⟩:=isD_at I1 d;refine ⟨t1,t2,?_⟩;rw [m.trees];refine Calls.callWith_builtin rfl (Calls.evalArgs_plain (Calls.spliced_cons (thn (he pins s1 σ H1 _ I1 q1) fun iv s2 ⟨y,H2,I2,ry,ov,g,q2⟩=>Calls.spliced_nil ?_)));exact d_get1 hu I2 g ry fun w' s3 I3 rw'=>⟨_,H2,I3,rw',q2⟩
theorem Ir (hu:X.A.units+1<cLine)(ho:PE X o td)(he:PE X e ty)(hf:PE X f tx)(m:M2 X o "get" apos e f cpos):PE X (.Call (.Attribute o "get" apos) [e,f] [] cpos) (tDGet2 td ty tx):=by
 intro pins s σ H Q I h;refine VT m.base m.few m.line J8 YQ PySem.F.type_dict_get (thn (ho pins s σ H _ I h) fun u s1 ⟨x,H1,I1,rx,a,ex,d,q1⟩=>?_);subst ex;obtain rfl:u=Value.ref a:=rx;obtain ⟨t1,t2,_⟩:=isD_at I1 d;refine ⟨t1,t2,?_⟩;rw [m.trees];refine Calls.callWith_builtin rfl (Calls.evalArgs_plain (Calls.spliced_cons (thn (he pins s1 σ H1 _ I1 q1) fun iv s2 ⟨y,H2,I2,ry,q2⟩ =>
  Calls.spliced_cons (thn (hf pins s2 σ H2 _ I2 q2) fun fv s3 ⟨z,H3,I3,rz,ov,g,q3⟩=>Calls.spliced_nil ?_))))
 exact d_get2 hu I3 g ry rz fun w' s4 I4 rw'=>⟨_,H3,I4,rw',q3⟩
end
section
variable {X:Cx}{pins:List (Addr×Obj)}{σ:St}{H:Hp}{s:Shared}{a:Addr}{kvs:List (Key×V)}{A:Around}{E:Value->Shared->Prop}
theorem d_copyOf {Q:Value->Shared->Prop}(I:Inv X pins σ H s)(e:Rd H a (.dK kvs))(h:∀ p s',H p=none->Inv X pins σ (upd H p (.dK kvs)) s'->Q (.ref p) s'):wpAny (model X.prog X.w) A (call (.type "dict") [.ref a]) Q E s:=by
 obtain ⟨z,hd,vs,rel,dd⟩:=vK I.hok e;refine kt_call_dict hd dd (by rw [←rel.length];exact z) fun h' dd' hs=>?_;refine h _ _ (I.hok.fresh (Ze _)) (I.laid (a:=s.heap.objs.size) (o:=.dK kvs) (t':=s.toks) (fun b q hq=>?_) (Ze _) (Br z (Ys.mpr (Ne.symm (Zu I.big))) rel dd'));exact (hs.2 b (Zu (Zp hq))).trans (Q9 _ hq)
end
end L2
namespace Att
open PySem PySem.W PySem.Calls PyProof.Rows
theorem XF {P:Params}{h:Heap}:∀ (ns:List Int) (vs:List Value),WellAll P h vs (ns.map WData.int)->IntsAre vs ns:=by
 intro ns
 induction ns with
 | nil =>
  intro vs w;rw [VG] at w;cases w;exact .nil
 | cons n ns ih =>
  intro vs w;rw [Zw] at w;cases w with
  | cons a b =>
   cases a;exact .cons _ _ (ih _ b)
theorem script_of {l:OpenLaw}{n:Nat}(hn:l.most=some n){P:Params}{h:Heap}{args:List WData}{vals:List Value}
  (hpre:l.row.toRowW.claim.pre args=true) (hwl:WellAll P h vals args) :
  ∃ a vs ns,vals=[Value.ref a]/\args=[WData.list (ns.map WData.int)]/\h.get? a=some { cls:=.type "list",data:=.seq vs.toArray }/\IntsAre vs ns/\ns.length<=n:=by
 have hsh:WShape.hasAll [] args [.list .int]=true:=(pre_splitW hpre).1;have hc:l.pre.holds [] { args:=args }=true:=(pre_splitW hpre).2;obtain ⟨d,r,rfl,h1,h2⟩:=hasAllW_cons hsh;obtain rfl:=hasAllW_nil h2;obtain ⟨xs,rfl,h3⟩:=hasW_list h1;obtain ⟨ns,rfl⟩:=items_int h3;have hlen:ns.length<=n:=by
  unfold OpenLaw.pre at hc;have h4:(WTm.not (.lt (.lit (.int (n:Int))) (.len (.arg 0)))).holds [] { args:=[.list (ns.map .int)] }=true:=by
   have h4:=(holds_andW hc).1;rw [hn] at h4;exact h4
  have h5:=condW_of h4 (w_not (w_lt w_lit (w_len_list (w_arg rfl))));rw [Q5] at h5;refine Nat.le_of_not_lt fun q=>?_;have q':(n:Int)<((ns.length:Nat):Int):=by omega
  first
   | (rw [Zd q'] at h5;exact absurd h5 (by decide))
   | (simp at h5;omega)
 cases hwl with
 | cons w1 w2 =>
  cases w2;cases w1 with
  | list ho hall=>exact ⟨_,_,ns,rfl,rfl,ho,XF ns _ hall,hlen⟩
theorem post_true (l:OpenLaw)(args:List WData):l.row.toRowW.claim.post args (.bool true) args=true :=
 postW_of (r:=l.row.toRowW) (X:=(true==true))
  (show WShape.has [] (.bool true) .bool=true by first|rfl|decide|simp [WShape.has,WShape.arms,WShape.armsAll])
  (show (WTm.eq .res (.lit (.bool true))).value [] { args:=args,res:=some (.bool true),after:=args }=some (.bool (true==true)) from w_eq_bool (w_res rfl) w_lit) rfl
theorem attach_call {l:OpenLaw}{n:Nat}{q:Program}{loose:List Str}{XP:(Str->Option Value)->Heap->Prop}{YP:World->Heap->Prop}{d:DefRec}
  (hn:l.most=some n) (hdf:d.params.defaults=[])
  (call:∀ (w:World) (s₀ s₁:Shared) (mg mb:Str->Option Value) (fa:Addr) (o:Obj) (pm cd doc:Value) (a:Addr) (vs:List Value) (ns:List Int),
   Ground q loose [] XP w s₀ mg mb s₁.heap->YP w s₁.heap ->
   s₁.heap.get? fa=some o->o.data=.func (docDef d.name d.params d.body d.scope pm cd doc)->s₁.heap.CodeRec cd d.name->mg d.name=some (.ref fa) ->
   s₁.heap.get? a=some { cls:=.type "list",data:=.seq vs.toArray }->IntsAre vs ns->ns.length<=n->s₁.gens=#[] ->
   codeAny (model l.prog w) callerA (.call (.ref fa) ⟨[.ref a],[]⟩) (fun r s'=>r=.ok (.ret (.bool true))/\OldK s₁.heap s'.heap/\s'.os=s₁.os/\AllBare s'.gens) s₁) :
  WalkO q loose XP YP l.row.toRowW d [] (fun f vs=>PySem.call f vs):=by
 intro w s₀ s₁ mg mb G Y fa o pm cd doc dV kV ho hd hcd hD hmg hg args vals as hpre hlay hrd hwl hlo;obtain rfl:dV=.none:=Dflts.none hD hdf;obtain rfl:kV=.none:=Dflts.noKw hD;obtain ⟨a,vs,ns,rfl,rfl,hobj,hints,hlen⟩:=script_of hn hpre hwl;refine enter_call (Y0 (call w s₀ s₁ mg mb fa o pm cd doc a vs ns G Y ho (fd_plain hd) hcd hmg hobj hints hlen hg) fun r s' hq=>?_);obtain ⟨rfl,h2,h3,h4⟩:=hq;exact ⟨.inl ⟨.bool true,.bool true,[],rfl,fun _=>rfl,.bool true,post_true l _,fun _=>⟨List.Pairwise.nil,fun _ hm=>(nomatch hm)⟩⟩,h2,h3,h4⟩
end Att
namespace L2
open PySem PySem.Spec PyProof.Rows
theorem Gr:∀ {vs:List Value} {ns:List Int},IntsAre vs ns->Vals (ns.map V.int) vs
 | _,_,.nil=>.nil
 | _,_,.cons n t h=>.cons ⟨t,rfl⟩ (Gr h)
def Only (H:Hp):Prop:=∀ b,H b=none\/∃ o xs,H b=some (.frz o (.lst xs))
theorem law_call {P:Program}{w:World}{K:ZZF}{mg mb:Str->Option Value}{CX:CXT}{k:Nat}{fa a:Addr}{fd:FuncData}{x:Str}{sp:Sp}{s₁:Shared}{vs:List Value}{ns:List Int}
  (KX:K.In s₁.heap) (hns:s₁.heap.Ns mainGlobals mg) (hb:s₁.heap.Ns builtinsNs mb) (hbb:∀ x:Str,x≠"__name__"->mb x=bootBuiltins x) (hlim:s₁.heap.NoLimit) (hg:s₁.gens=#[])
  (ha:s₁.heap.get? a=some { cls:=.type "list",data:=.seq vs.toArray }) (hi:IntsAre vs ns) (hl:ns.length<=sizeLine) (hr:Room k callerA)
  (F:∀ base:Heap,K.In base->base.Ns mainGlobals mg->FnOk P w K mg base CX k fa fd [x] sp) (hbind:∀ (s:Shared) (u:Value),BindsTo s fd ⟨[u],[]⟩ [(x,u)])
  (hsp:∀ H:Hp,Only H->SqL K H a (ns.map V.int)->sp [.ref a] H (fun v _=>v=.bl true) fun _ _ _=>False)
  (hCX:∀ H e s',CX [] H s₁ (fun _ _ _=>False) e s'->False) :
  codeAny (model P w) callerA (.call (.ref fa) ⟨[.ref a],[]⟩) (fun r s'=>r=.ok (.ret (.bool true))/\OldK s₁.heap s'.heap/\s'.os=s₁.os/\AllBare s'.gens) s₁:=by
 have rv:=Gr hi;have lenV:=hi.length;have core:∀ H:Hp,Only H->SqL K H a (ns.map V.int)->HOk P w H s₁.heap->(∀ b,H b≠none->b=a)->(H a≠none->K.lookup a=none) ->
   codeAny (model P w) callerA (.call (.ref fa) ⟨[.ref a],[]⟩) (fun r s'=>r=.ok (.ret (.bool true))/\OldK s₁.heap s'.heap/\s'.os=s₁.os/\AllBare s'.gens) s₁:=by
  intro H hO hS hok hA hK;have base_of:∀ {b:Addr} {o:Obj},s₁.heap.get? b=some o->H b=none->(Bw s₁.heap H).get? b=some o:=fun e n=>hidT_get e n;have noA:∀ {b:Addr} {o:Obj} {es:Array DictEntry} {ep:Nat},s₁.heap.get? b=some o->o.data=.dict es ep->H b=none:=fun {b o es ep} e d=>by
   cases q:H b with
   | none=>rfl
   | some u =>
    have e':b=a:=hA b (by rw [q];simp);subst e';rw [ha] at e;cases e;have d':Data.seq vs.toArray _=Data.dict es ep:=d;cases d'
  have nsK:∀ {b:Addr} {m:Str->Option Value},s₁.heap.Ns b m->(Bw s₁.heap H).Ns b m:=fun {b m} ⟨o,es,ep,e,d,r⟩=>⟨o,es,ep,base_of e (noA e d),d,r⟩;have hKb:K.In (Bw s₁.heap H):=fun b o e=>base_of (KX b o e) (by
   cases q:H b with
   | none=>rfl
   | some u =>
    have e':b=a:=hA b (by rw [q];simp);subst e';rw [hK (by rw [q];simp)] at e;cases e)
  have hM:Mod K mg (Bw s₁.heap H):=⟨hKb,nsK hns,⟨mb,nsK hb,hbb⟩,let ⟨mc,h1,h2⟩:=hlim;⟨mc,nsK h1,h2⟩⟩;have e0:Env0 P w K mg (Bw s₁.heap H) callerA [] s₁ H:=⟨rfl,hM,fun b o e=>of_hidT e,JL (hidT_size _ _),trivial,fun b hb=>absurd (show b∈([]:List Addr) from hb) (by simp),hok,.of_eq hg⟩;refine Y0 ((F _ hKb (nsK hns)).run callerA [] s₁ H ⟨[.ref a],[]⟩ [.ref a] [.ref a] _ _ hr e0 (hbind s₁ (.ref a)) (.cons rfl .nil) (hsp H hO hS)) fun r s' h=>?_;cases r with
  | error e=>exact (hCX H e s' h).elim
  | ok fl =>
   cases fl with
   | next=>exact False.elim h
   | brk=>exact False.elim h
   | cont=>exact False.elim h
   | ret u =>
    obtain ⟨v,H',os,bare,un,hok',r',q⟩:=h;have q':v=.bl true:=q;subst q';obtain rfl:u=Value.bool true:=r';refine ⟨rfl,OldK.of_keep fun b o e=>?_,os,bare⟩;cases q:H b with
    | none=>exact un.keep b o e q (by intro z;exact absurd (show b∈([]:List Addr) from z) (by simp)) (by simp)
    | some u =>
     rcases hO b with z|⟨ob,xs,z⟩
     ·rw [q] at z;cases z
     ·have z2:=un.frzs b ob _ z;obtain ⟨e1,_⟩:=hok b _ z;obtain ⟨e2,_⟩:=hok' b _ z2;rw [e] at e1;cases e1;exact e2
 cases hk:K.lookup a with
 | some o =>
  have e:=KX a o hk;rw [ha] at e;cases e;refine core (fun _=>none) (fun _=>.inl rfl) (.inr ⟨_,vs.toArray,_,hk,rfl,rfl,rfl,by rw [Zv,lenV];exact hl,by simpa using rv⟩) (fun b u z=>by have z':(none:Option HO)=some u:=z;cases z') (fun b z=>absurd rfl z) fun z=>absurd rfl z
 | none =>
  refine core (fun b=>if b=a then some (.frz { cls:=.type "list",data:=.seq vs.toArray } (.lst (ns.map V.int))) else none) (fun b=>?_) (.inl (.inr ⟨{ cls:=.type "list",data:=.seq vs.toArray },Zz rfl⟩)) (fun b u z=>?_) (fun b z=>?_) fun _=>hk
  ·by_cases hb:b=a
   ·exact .inr ⟨_,_,Zz hb⟩
   ·exact .inl (Zy hb)
  ·by_cases hb:b=a
   ·have z':=(Zz hb).symm.trans z;cases z';subst hb;exact ⟨ha,by rw [Q5];exact hl,vs,_,rv,ha⟩
   ·have z':=(Zy hb).symm.trans z;cases z'
  ·by_cases hb:b=a
   ·exact hb
   ·exact absurd (Zy hb) z
end L2
namespace L2
open PySem PySem.Spec PyProof.Rows
theorem walk_of {l:PySem.W.OpenLaw}{n k:Nat}{q:Program}{loose:List Str}{XP:(Str->Option Value)->Heap->Prop}{YP:World->Heap->Prop}{d:DefRec}{K:Params->ZZF}{CX:World->CXT}{sp:World->Sp}{x:Str}
  (hn:l.most=some n) (hn2:n<=sizeLine) (hdf:d.params.defaults=[]) (hr:Room k callerA)
  (hY:∀ (w:World) (h:Heap),YP w h->(K w.params).In h)
  (F:∀ (w:World) (mg:Str->Option Value) (fa:Addr) (h:Heap),(K w.params).In h->h.Ns mainGlobals mg->mg d.name=some (.ref fa) ->
   ∃ fd:FuncData,(∀ (s:Shared) (u:Value),BindsTo s fd ⟨[u],[]⟩ [(x,u)]) /\
    ∀ base:Heap,(K w.params).In base->base.Ns mainGlobals mg->FnOk l.prog w (K w.params) mg base (CX w) k fa fd [x] (sp w))
  (hsp:∀ (w:World) (H:Hp) (a:Addr) (ns:List Int),ns.length<=n->Only H->SqL (K w.params) H a (ns.map V.int)->sp w [.ref a] H (fun v _=>v=.bl true) fun _ _ _=>False)
  (hCX:∀ (w:World) (H:Hp) (s:Shared) (e:Value) (s':Shared),CX w [] H s (fun _ _ _=>False) e s'->False) :
  PySem.W.WalkO q loose XP YP l.row.toRowW d [] (fun f vs=>PySem.call f vs):=by
 refine Att.attach_call hn hdf fun w s₀ s₁ mg mb fa o pm cd doc a vs ns G Y ho hd hcd hmg hobj hints hlen hg=>?_;have KX:=hY w _ Y;obtain ⟨fd,hb,hF⟩:=F w mg fa _ KX G.T.g hmg;exact law_call KX G.T.g G.T.b G.T.builtins G.T.nolimit hg hobj hints (Yb hlen hn2) hr hF hb (fun H hO hS=>hsp w H a ns hlen hO hS) fun H e s'=>hCX w H s₁ e s'
end L2
namespace L2
open PySem PySem.Spec PyProof.Rows
def inClass (s:Stmt)(j:Nat):Stmt:=match s with
 | .ClassDef _ _ _ body _ _ _ _ _ _ _=>body.getD j (.Pass ⟨0,0,0,0⟩)
 | _=>.Pass ⟨0,0,0,0⟩
def qF (s:Stmt):Arguments:=match s with
 | .FunctionDef _ a _ _ _ _ _ _ _ _=>a
 | _=>{ posonlyargs:=[],args:=[],vararg:=none,kwonlyargs:=[],kw_defaults:=[],kwarg:=none,defaults:=[] }
def xM (s:Stmt):List Stmt:=match s with
 | .FunctionDef _ _ b _ _ _ _ _ _ _=>b
 | _=>[]
def zG (s:Stmt):Scope:=match s with
 | .FunctionDef _ _ _ _ _ _ sc _ _ _=>sc
 | _=>{ kind:=.function,names:=[],isGenerator:=false,isCoroutine:=false }
abbrev CX0:CXT:=fun _ _ _ _ _ _=>False
abbrev E0:XK:=fun _ _ _=>False
theorem pass0 {X:Cx}:vM CX0 X E0:=fun _ _ _ _ _ _ _ h=>h.elim
structure Fun (K:ZZF)(x qual:Str)(st:Stmt)(f:Addr)(fd:FuncData):Prop where
 ex:∃ (oc:Value) (od:Option Addr) (kV doc pm:Value) (an:Option Addr) (cdv ct:Value) (osl:Array (Option Value)),
  fd=PySem.W.fnOf x qual (qF st) (xM st) (zG st) .none kV doc pm an cdv ct/\K.lookup f=some ⟨oc,od,.func fd,osl⟩/\PySem.W.codeIn K cdv qual=true
 kp:PySem.W.keepIn K (.ref f)=true
section
variable {P:Program}{w:World}{K:ZZF}{mg:Str->Option Value}{base:Heap}
theorem Fun.ok {x qual:Str}{st:Stmt}{f:Addr}{fd:FuncData}{N ps:List Str}{k:Nat}{sp:Sp}(F:Fun K x qual st f fd)(S:FnScope N ps (zG st))(len:∀ vs H Q E,sp vs H Q E->vs.length=ps.length)
  (hbody:∀ (cdv:Value) (A:Around) (outer:List Env) (s:Shared) (H:Hp) (vs:List V) (Q:VK) (E:XK),Room k (A.deeper (envOfC qual (zG st) s.heap.objs.size f cdv))->sp vs H Q E ->
   ∃ t,PSs (Iy CX0 P w K mg base N qual (zG st) f cdv A outer s H E).nox (xM st) t/\t { nx:=fun _ H'=>Q .non H',rt:=Q } (start N vs) H):FnOk P w K mg base CX0 (k+1) f fd ps sp:=by
 obtain ⟨oc,od,kV,doc,pm,an,cdv,ct,osl,rfl,lk,hcd⟩:=F.ex;refine fn_of lk hcd S len fun A outer s H vs Q E hr hsp=>?_;obtain ⟨t,h,q⟩:=hbody cdv A outer s H vs Q E hr hsp;exact ⟨t,h.nox,q⟩
theorem Fun.binds {x qual:Str}{st:Stmt}{f:Addr}{fd:FuncData}{ps:List Str}(F:Fun K x qual st f fd)
  (h:∀ (kV doc pm:Value) (an:Option Addr) (cdv ct:Value) (us:List Value),us.length=ps.length->bindArgs (PySem.W.fnOf x qual (qF st) (xM st) (zG st) .none kV doc pm an cdv ct) ⟨us,[]⟩=pure (ps.zip us)):Binds K fd ps []:=by
 obtain ⟨oc,od,kV,doc,pm,an,cdv,ct,osl,rfl,lk,hcd⟩:=F.ex;exact .all (h kV doc pm an cdv ct)
theorem U6 {x qual:Str}{st:Stmt}{f:Addr}{oc:Value}{od an:Option Addr}{osl:Array (Option Value)}{kV doc pm cdv ct:Value}(l:K.lookup f=some ⟨oc,od,.func (PySem.W.fnOf x qual (qF st) (xM st) (zG st) .none kV doc pm an cdv ct),osl⟩)
  (c:PySem.W.codeIn K cdv qual=true) (k:PySem.W.keepIn K (.ref f)=true):Fun K x qual st f (PySem.W.fnOf x qual (qF st) (xM st) (zG st) .none kV doc pm an cdv ct):=⟨⟨oc,od,kV,doc,pm,an,cdv,ct,osl,rfl,l,c⟩,k⟩
end
theorem X6 {A:Around}{k:Nat}(hr:Room k A):A.units+1<cLine:=J5 (Nat.add_le_add_left (by decide:1<=64) _) hr.units
section
variable {X:Cx}
theorem pv (i:Nat){x:Str}{pos:Pos}(hN:X.N[i]?=some x:=by rfl)(hv:Vis X.env.scope x:=by first|exact Or.inl rfl|exact Or.inr (Or.inl rfl)|exact Or.inr (Or.inr rfl))(hd:(x==("__debug__":Str))=false:=by decide)
  (hcd:(x==("__classdict__":Str))=false:=by decide):PE X (.Name x pos) (tVar i):=pe_var hN hv hd hcd
theorem call_lenD:CallR X (.builtin "len") (fun xs H Q=>∃ a kvs,xs=[V.ref a]/\H a=some (.dK kvs)/\Q (.int kvs.length) H):=by
 intro pins s σ H xs us Q I r h;obtain ⟨a,kvs,rfl,ha,q⟩:=h;obtain ⟨u,rfl,ru⟩:=vals1 r;cases ru;exact d_len I (.inl ha) fun t s' I'=>⟨.int kvs.length,H,I',⟨t,rfl⟩,q⟩
end
theorem Ug {A B:Prop}(h:B):if false=true then A else B:=by
 rw [Zy ZG];exact h
theorem Uf {A B:Prop}(h:A):if true=true then A else B:=by
 rw [Zz rfl];exact h
theorem Uk {c A B:Prop} [Decidable c](h1:c->A)(h2:¬c->B):if c then A else B:=by
 by_cases h:c
 ·rw [Zz h];exact h1 h
 ·rw [Zy h];exact h2 h
theorem iteNS {c A B:Prop} [Decidable c](hc:c)(h:B):if (!decide c)=true then A else B:=by
 rw [Zd hc];exact Ug h
def Same (H H':Hp):Prop:=∀ b o,H b=some o->H' b=some o
theorem Same.refl (H:Hp):Same H H:=fun _ _ h=>h
theorem Same.trans {H H1 H2:Hp}(a:Same H H1)(b:Same H1 H2):Same H H2:=fun c o h=>b c o (a c o h)
theorem Same.free {H H':Hp}(e:Same H H'){l:Addr}(h:H' l=Option.none):H l=Option.none:=by
 cases q:H l with
 | none=>rfl
 | some o =>
  rw [e l o q] at h;cases h
theorem Same.seq {K:ZZF}{H H':Hp}{a:Addr}{xs:List V}(e:Same H H')(h:SqL K H a xs):SqL K H' a xs:=by
 rcases h with (h|⟨o,h⟩)|h
 ·exact .inl (.inl (e _ _ h))
 ·exact .inl (.inr ⟨o,e _ _ h⟩)
 ·exact .inr h
section
variable {κ:Type} [DecidableEq κ]
theorem Is {kvs:List (κ×V)}{k:κ}(h:Uh kvs k=none):¬k∈kvs.map (·.1):=by
 intro m;obtain ⟨p,hp,e⟩:=Za.mp m;have q:(kvs.any fun kv=>decide (kv.1=k))=true:=Z7.mpr ⟨p,hp,Zd e⟩;rw [qD,h] at q;exact absurd q (by simp)
theorem uE {kvs:List (κ×V)}{k:κ}{v:V}(h:Uh kvs k=some v):k∈kvs.map (·.1):=by
 have q:(kvs.any fun kv=>decide (kv.1=k))=true:=by
  rw [qD,h]
  all_goals rfl
 obtain ⟨p,hp,e⟩:=Z7.mp q;exact Za.mpr ⟨p,hp,ZB e⟩
theorem jB:∀ {l:List κ} {k:κ},l.Nodup->¬k∈l->(l++[k]).Nodup
 | [],k,_,_=>by simp
 | a::r,k,h,hk=>by
  obtain ⟨h1,h2⟩:=Z8.mp h;show (a::(r++[k])).Nodup;refine Z8.mpr ⟨fun m=>?_,jB h2 fun m=>hk (Zi.mpr (Or.inr m))⟩
  rcases Zs.mp m with q|q
  ·exact h1 q
  ·exact hk (Zi.mpr (Or.inl (Q7.mp q).symm))
end
end L2
namespace L2
open PySem PySem.Spec PyProof.Rows
theorem qR {α β:Type}{f:α->β->Sem (ForInStep β)}(g:β->α->β):∀ (l:List α) (c:β),(∀ x∈l,∀ c,f x c=pure (.yield (g c x)))->forIn l c f=pure (l.foldl g c)
 | [],c,_=>rfl
 | x::l,c,h=>by
  rw [List.forIn_cons,h x Zc,pure_bind];exact qR g l (g c x) fun y hy=>h y (Zb _ hy)
def UP (cells:List (Str×Addr))(c:List (Str×Addr))(x:Str×NameKind):List (Str×Addr) :=
 if x.2==.free then (match cells.lookup x.1 with|some a=>(x.1,a)::c|none=>c) else c
def qB (env:Env)(sc:Scope):List (Str×Addr):=sc.names.foldl (UP env.cells) []
theorem j7 {scope:Scope}{env:Env}(h:∀ x∈scope.names,x.2=.free->∃ c,env.cells.lookup x.1=some c):closureFor scope env=pure (qB env scope):=by
 simp only [closureFor];rw [qR (UP env.cells) scope.names [] (fun x hx c=>?_)]
 ·rfl
 ·obtain ⟨n,k⟩:=x;unfold UP;cases hk:(k==NameKind.free) with
  | true =>
   have e:k=.free:=by simpa using hk
   obtain ⟨a,ha⟩:=h (n,k) hx e;have ha':env.cells.lookup n=some a:=ha;simp only [hk,Ue,cellOf,ha',pure_bind]
  | false=>simp only [hk,Yx,JV]
theorem xZ {β:Type}(x n:Str)(a:β)(l:List (Str×β)):List.lookup x ((n,a)::l)=if x=n then some a else List.lookup x l:=by
 by_cases h:x=n
 ·have hb:(x==n)=true:=Jl.mpr h;simp only [List.lookup_cons,hb,Zz h]
 ·have hb:(x==n)=false:=Ys.mpr h;simp only [List.lookup_cons,hb,Zy h]
theorem Iq {cells:List (Str×Addr)}:∀ (names:List (Str×NameKind)) (acc:List (Str×Addr)),(∀ x c,acc.lookup x=some c->cells.lookup x=some c) ->
  ∀ x c,(names.foldl (UP cells) acc).lookup x=some c->cells.lookup x=some c
 | [],acc,h=>h
 | (n,k)::r,acc,h=>Iq r _ fun x c e=>by
  unfold UP at e
  by_cases hk:((n,k).2==NameKind.free)=true
  ·rw [Zz hk] at e;dsimp only at e;cases q:cells.lookup n with
   | none=>rw [q] at e;exact h x c e
   | some a =>
    rw [q] at e;dsimp only at e;rw [xZ] at e
    by_cases hx:x=n
    ·rw [Zz hx] at e;rw [hx,q];exact e
    ·rw [Zy hx] at e;exact h x c e
  ·rw [Zy hk] at e;exact h x c e
theorem G0 {cells:List (Str×Addr)}:∀ (names:List (Str×NameKind)) (acc:List (Str×Addr)) (x:Str),(∃ c,acc.lookup x=some c)->∃ c,(names.foldl (UP cells) acc).lookup x=some c
 | [],acc,x,h=>h
 | (n,k)::r,acc,x,h=>G0 r _ x (by
  obtain ⟨c,h⟩:=h;unfold UP
  by_cases hk:((n,k).2==NameKind.free)=true
  ·rw [Zz hk];dsimp only;cases q:cells.lookup n with
   | none=>exact ⟨c,h⟩
   | some a =>
    dsimp only;rw [xZ]
    by_cases hx:x=n
    ·exact ⟨a,by rw [Zz hx]⟩
    ·exact ⟨c,by rw [Zy hx];exact h⟩
  ·rw [Zy hk];exact ⟨c,h⟩)
theorem B3 {cells:List (Str×Addr)}{x:Str}{c:Addr}(hc:cells.lookup x=some c):∀ (names:List (Str×NameKind)) (acc:List (Str×Addr)),(x,NameKind.free)∈names->∃ c,(names.foldl (UP cells) acc).lookup x=some c
 | [],acc,h=>by cases h
 | (n,k)::r,acc,h=>by
  rcases Zi.mp h with e|e
  ·cases e;refine G0 r _ x ⟨c,?_⟩;unfold UP;rw [Zz (by rfl)];dsimp only;rw [hc];dsimp only;rw [xZ,Zz rfl]
  ·exact B3 hc r _ e
theorem clos_at {env:Env}{sc:Scope}{x:Str}{c:Addr}(hc:env.cells.lookup x=some c)(hm:(x,NameKind.free)∈sc.names):(qB env sc).lookup x=some c:=by
 obtain ⟨c',h⟩:=B3 hc sc.names [] hm;have e:=Iq sc.names [] (fun x c e=>by cases e) x c' h;rw [hc] at e;cases e;exact h
theorem j0 {env:Env}{sc:Scope}{x:Str}{c:Addr}(h:(qB env sc).lookup x=some c):env.cells.lookup x=some c :=
 Iq sc.names [] (fun x c e=>by cases e) x c h
def BO (env:Env)(x:Str)(k:NameKind):NameKind:=if (k==.free&&env.scope.kind==.function&&env.kindOf x==some .cell) then .cell else k
theorem jW {env:Env}(x:Str):∀ names:List (Str×NameKind),
  (names.map fun (n,k)=>if (k==NameKind.free&&env.scope.kind==.function&&env.kindOf n==some .cell) then (n,NameKind.cell) else (n,k)).lookup x=(names.lookup x).map (BO env x)
 | []=>rfl
 | (n,k)::r=>by
  have ih:=jW (env:=env) x r;rw [Zw];have e:(if (k==NameKind.free&&env.scope.kind==.function&&env.kindOf n==some .cell)=true then (n,NameKind.cell) else (n,k))=(n,BO env n k):=by
   unfold BO
   split<;>rfl
  dsimp only;rw [e,xZ,xZ]
  by_cases hx:x=n
  ·rw [Zz hx,Zz hx,hx];rfl
  ·rw [Zy hx,Zy hx];exact ih
theorem Xk {env:Env}{scope:Scope}{cl:List (Str×Addr)}{C:Addr}(x:Str):(compEnvC scope cl C env).scope.names.lookup x=(scope.names.lookup x).map (BO env x):=jW x scope.names
def Us (src:List (Option Nat))(σ:St):St:=src.map fun o=>o.bind fun i=>(σ[i]?).join
structure CompOk (sc:Scope)(N N':List Str)(src:List (Option Nat))(scope:Scope):Prop where
 nd:N'.Nodup
 len:src.length=N'.length
 kind:scope.kind=.function
 nocell:∀ y∈scope.names,y.2≠.cell
 names:∀ y∈scope.names,y.2=.local->scope.names.lookup y.1=some .local
 free:∀ y∈scope.names,y.2=.free->sc.names.lookup y.1=some .cell\/sc.names.lookup y.1=some .free
 srcs:((src.zip N').all fun (o,x)=>match o with|none=>true|some i=>N[i]?==some x&&scope.names.lookup x==some .free)=true
theorem CompOk.at {sc:Scope}{N N':List Str}{src:List (Option Nat)}{scope:Scope}(O:CompOk sc N N' src scope){j i:Nat}{x:Str}(h1:src[j]?=some (some i))(h2:N'[j]?=some x):N[i]?=some x/\scope.names.lookup x=some .free:=by
 have hz:(src.zip N')[j]?=some (some i,x):=by rw [Y8];exact ⟨h1,h2⟩
 have q:=ZI.mp O.srcs _ (Zk hz);have q':(N[i]?==some x&&scope.names.lookup x==some .free)=true:=q;rw [Zg] at q';exact ⟨Vr q'.1,Vr q'.2⟩
def Cx.comp (X:Cx)(N':List Str)(scope:Scope)(C:Addr)(s:Shared)(H:Hp)(fp:List Addr):Cx :=
 { X with N:=N',s₀:=s,H₀:=H,env:=compEnvC scope (qB X.env scope) C X.env,outer:=X.stack,ex:=fp,fn:=fun _=>false,pn:=[],xe:=fun _ _=>False }
theorem Un.adopt {fs ex:List Addr}{H H1:Hp}{h h1:Heap}{D:Addr}{o:HO}(u:Un fs ex H H1 h h1)(hD:h.get? D=none)(hH:H D=none):Un fs ex H (upd H1 D o) h h1 where
 keep:=u.keep
 slot:=u.slot
 free:=fun b ob q n hx=>by
  have hb:b≠D:=fun z=>by rw [z,hD] at q;cases q
  rw [zH hb];exact u.free b ob q n hx
 there:=u.there
 tups:=fun b xs q=>by rw [zH (zM q hH)];exact u.tups b xs q
 frzs:=fun b ob xs q=>by rw [zH (zM q hH)];exact u.frzs b ob xs q
 tbls:=fun b ps q=>by rw [zH (zM q hH)];exact u.tbls b ps q
theorem HOk.adopt {P:Program}{w:World}{H:Hp}{h:Heap}{D:Addr}{o:HO}(x:HOk P w H h)(n:H D=none)(new:ObjOk P w (upd H D o) h D o):HOk P w (upd H D o) h:=fun b u e=>by
 by_cases hb:b=D
 ·subst hb;rw [zB] at e;cases e;exact new
 ·rw [zH hb] at e;exact (x b u e).stay (fun c v _ q=>q) (fun c q=>by rw [zH (zM q n)];exact q) fun c xs q=>by rw [zH (zM q n)];exact q
def PFi (X:Cx)(ifs:List Expr)(tf:TT):Prop :=
 ∀ (pins:List (Addr×Obj)) (s:Shared) (σ:St) (H:Hp) (Q:Bool->Hp->Prop),Inv X pins σ H s->tf σ H Q ->
  wpAny (model X.prog X.w) X.A (forIn ifs true fun c r=>if r=true then do let ok ←isTrue c X.env (eval c X.env);pure (ForInStep.yield ok) else pure (ForInStep.yield r)) (TP X pins σ Q) X.xe s
def Ic:TT:=fun _ H Q=>Q true H
theorem xU {X:Cx}:PFi X [] Ic:=by
 intro pins s σ H Q I h;rw [List.forIn_nil];exact Q8 ⟨H,I,h⟩
theorem pf_one {X:Cx}{c:Expr}{tc:TT}(hc:PT X c tc):PFi X [c] tc:=by
 intro pins s σ H Q I h;rw [List.forIn_cons];refine Q6 (Q6 (thn (hc pins s σ H _ I h) fun b s1 ⟨H1,I1,q1⟩=>Q8 ?_));dsimp only;rw [List.forIn_nil];exact Q8 ⟨H1,I1,q1⟩
def UE (src:List (Option Nat))(J:It)(g:TG)(tf:TT)(te:TE)(Q:VK)(σ:St)(H:Hp):Prop :=
 ∃ W:Nat->Nat->List V->St->Hp->Prop,(∃ m,W 0 m [] (Us src σ) H)/\∀ i m ys σ' H',W i m ys σ' H'->ys.length<=sizeLine /\
 ((J.stop i H'/\∀ p,H' p=none->Q (.ref p) (upd H' p (.lst ys))) \/
  (J.go i H'/\∃ Nx:List V->St->Hp->Prop,(∀ ys2 σ2 H2,Nx ys2 σ2 H2->∃ m',m'<m/\W (i+1) m' ys2 σ2 H2) /\
    ∀ x H2,J.yld i H' x H2->g x σ' H2 fun σ2 H3=>tf σ2 H3 fun b H4=>if b=true then te σ2 H4 fun y H5=>Nx (ys++[y]) σ2 H5 else Nx ys σ2 H4))
def tComp (src:List (Option Nat))(wi:TI)(g:TG)(tf:TT)(te:TE):TE:=fun σ H Q=>wi σ H fun J H1=>UE src J g tf te Q σ H1
section
variable {X:Cx}{tg elt iter:Expr}{ifs:List Expr}{scope sc:Scope}{N N':List Str}{src:List (Option Nat)}{g:TG}{tf:TT}{te:TE}{wi:TI}{pos:Pos}
theorem loop_own {prog:Program}{w:World}{A:Around}{R:Result->Shared->Prop}{s:Shared}{it acc:Value}{env:Env}(I:Nat->Shared->Prop)
  (turn:∀ n s,I n s->wpAny (model prog w) A (pyNext it) (fun r s₁=>match r with
   | none=>R (.ok .next) s₁
   | some v=>wpAny (model prog w) A (letOwnedTupleGo tg it v) (fun _ s₂=>wpAny (model prog w) A (assign tg env v) (fun _ s₃ =>
     wpAny (model prog w) A (forIn ifs true fun c r=>if r=true then do let ok ←isTrue c env (eval c env);pure (ForInStep.yield ok) else pure (ForInStep.yield r)) (fun ok s₄ =>
      if ok=true then wpAny (model prog w) A (eval elt env) (fun x s₅ =>
       wpAny (model prog w) A (call (.builtin "list.append") [acc,x]) (fun _ s₆=>∃ m,m<n/\I m s₆) (fun _ _=>False) s₅) (fun _ _=>False) s₄
      else ∃ m,m<n/\I m s₄) (fun _ _=>False) s₃) (fun _ _=>False) s₂) (fun _ _=>False) s₁) (fun _ _=>False) s)
  (n:Nat) (h:I n s):codeAny (model prog w) A (.compLoop (.ListComp elt [⟨tg,iter,ifs,0⟩] scope pos) 0 it acc env) R s:=by
 refine codeAny_loop rfl I (fun n s hI=>?_) n h;show wpAny _ A ((compTurn (.ListComp elt [⟨tg,iter,ifs,0⟩] scope pos) 0 it acc env).onRaise (fun x=>do noteFrame x env;theTreesLotGoes x)) _ _ s;refine wpAny_noted ?_;rw [compTurn_list];refine Q6 (wpAny_standAt (Q6 (Yn (turn n s hI) (fun r s₁ h₁=>?_) fun _ _ h'=>h'.elim)));cases r with
 | none=>exact Q8 h₁
 | some v =>
  refine Q6 (Yn h₁ (fun _ s₂ h₂=>?_) fun _ _ h'=>h'.elim);refine Q6 (Yn h₂ (fun _ s₃ h₃=>Q6 (Yn h₃ (fun ok s₄ h₄=>?_) fun _ _ h'=>h'.elim)) fun _ _ h'=>h'.elim);cases ok with
  | false=>exact Q8 ⟨rfl,h₄⟩
  | true =>
   exact Q6 (Q6 (Yn h₄ (fun x s₅ h₅=>Q6 (Yn h₅ (fun _ s₆ h₆=>Q8 (Q8 ⟨rfl,h₆⟩)) fun _ _ h'=>h'.elim)) fun _ _ h'=>h'.elim))
theorem comp_ok {pins:List (Addr×Obj)}{σ:St}{H:Hp}{s:Shared}{fp:List Addr}{C:Addr}(O:CompOk sc N N' src scope)(hsc:X.env.scope=sc)(I:Inv X pins σ H s)(hf:∀ b∈fp,XE X pins H b)
  (ho:∀ b∈fp,∃ o,s.heap.get? b=some o) (hC:s.heap.objs.size<=C):(X.comp N' scope C s H fp).Ok:=by
 have hk:∀ x,((compEnvC scope (qB X.env scope) C X.env).kindOf x=some .cell\/(compEnvC scope (qB X.env scope) C X.env).kindOf x=some .free)->(x,NameKind.free)∈scope.names:=fun x h=>by
  have h:(compEnvC scope (qB X.env scope) C X.env).scope.names.lookup x=some .cell\/(compEnvC scope (qB X.env scope) C X.env).scope.names.lookup x=some .free:=h;rw [Xk] at h;cases q:scope.names.lookup x with
  | none=>rw [q] at h;rcases h with h|h<;>cases h
  | some k =>
   have hm:=YK q;rw [q] at h;cases k with
   | free=>exact hm
   | cell=>exact absurd rfl (O.nocell _ hm)
   | _ =>
    exfalso
    rcases h with h|h<;>(have h':=Option.some.inj h;unfold BO at h';simp at h')
 refine ⟨I.ok.mod,O.kind,I.ok.glob,I.ok.blt,hC,fun x y c h1 h2=>I.ok.inj x y c (j0 h1) (j0 h2),fun x h=>?_,fun x c h=>(by cases h),I.ok.hd,I.ok.frames,.inl rfl,fun b hb=>?_,I.bs,Yb I.ok.bsz I.sz,fun b o e hb=>?_,fun b hb z=>?_,I.stack,I.stkFree⟩
 ·have hm:=hk x h;have hx:=O.free _ hm rfl;rw [←hsc] at hx;obtain ⟨c,hc⟩:=I.ok.has x hx;exact ⟨c,clos_at hc hm⟩
 ·refine ⟨?_,fun x c h=>(hf b hb).2.2.2.2.1 x c (j0 h)⟩;obtain ⟨o,e⟩:=ho b hb;exact Zu (ZD (Zp e) hC)
 ·rcases (hf b hb).2.2.2.1 with z|z
  ·exact I.ok.noex b o e z
  ·exact absurd (ZD (ZD (Zp e) I.ok.bsz) z) (Yq _)
 ·rcases Zi.mp (I.stkSub b z) with e|e
  ·exact (hf b hb).2.1 e
  ·exact (hf b hb).2.2.1 e
theorem comp_inv {pins:List (Addr×Obj)}{σ:St}{H:Hp}{s:Shared}{fp:List Addr}{C:Addr}{h':Heap}{tk:Nat}(O:CompOk sc N N' src scope)(hsc:X.env.scope=sc)(hN:X.N=N)(I:Inv X pins σ H s)(hf:∀ b∈fp,XE X pins H b)
  (ho:∀ b∈fp,∃ o,s.heap.get? b=some o) (hC:s.heap.objs.size<=C) (k:∀ b o,s.heap.get? b=some o->h'.get? b=some o) {m':Str->Option Value} (hn:h'.Ns C m') :
  Inv (X.comp N' scope C s H fp) [] (Us src σ) H { s with heap:=h',toks:=tk }:=by
 have cells:∀ x c,X.env.cells.lookup x=some c->∀ v,s.heap.IsCell c v->h'.IsCell c v:=fun x c _ v ⟨o,e,d⟩=>⟨o,k c o e,d⟩;refine ⟨comp_ok O hsc I hf ho hC,rfl,I.bare,Un.kept k,⟨_,hn,fun j x v e1 e2 e3=>?_⟩,fun x c e=>?_,I.hok.fresh hC,fun x c e=>I.freeC x c (j0 e),fun p hp=>(by cases hp),I.hok.kept k,?_⟩
 ·have e2:(Us src σ)[j]?=some (some v):=e2;have e1:N'[j]?=some x:=e1;unfold Us at e2;rw [Zl] at e2;cases q:src[j]? with
  | none=>rw [q] at e2;cases e2
  | some o =>
   rw [q] at e2;have e2:(o.bind fun i=>(σ[i]?).join)=some v:=Option.some.inj e2;cases o with
   | none=>cases e2
   | some i =>
    have e2:(σ[i]?).join=some v:=e2;obtain ⟨y2,hlk⟩:=O.at q e1;have y3:=YK hlk;have e4:σ[i]?=some (some v):=by
     cases r:σ[i]? with
     | none=>rw [r] at e2;cases e2
     | some w=>rw [r] at e2;cases w with
      | none=>cases e2
      | some w'=>have:w'=v:=Option.some.inj e2;rw [this]
    have hx:=O.free _ y3 rfl;rw [←hsc] at hx;obtain ⟨m,hm,hl⟩:=I.loc;obtain ⟨u,ru,lu⟩:=hl i x v (by rw [hN];exact y2) e4 (.inr hx);refine ⟨u,ru,.inr ?_⟩;obtain ⟨c,hc,hcell⟩:∃ c,X.env.cells.lookup x=some c/\s.heap.IsCell c (some u):=by
     rcases lu with ⟨z,_⟩|⟨_,c,hc,hz⟩
     ·exfalso;have z:X.env.scope.names.lookup x=some .local:=z
      rcases hx with hx|hx<;>(rw [hx] at z;cases z)
     ·exact ⟨c,hc,hz⟩
    refine ⟨?_,c,clos_at hc y3,cells x c hc _ hcell⟩;show (compEnvC scope (qB X.env scope) C X.env).scope.names.lookup x=some .cell\/(compEnvC scope (qB X.env scope) C X.env).scope.names.lookup x=some .free;rw [Xk,hlk];show some (BO X.env x .free)=some .cell\/some (BO X.env x .free)=some .free;unfold BO
    split
    ·exact .inl rfl
    ·exact .inr rfl
 ·obtain ⟨v,z⟩:=I.cell x c (j0 e);exact ⟨v,cells x c (j0 e) v z⟩
 ·show (Us src σ).length=N'.length;unfold Us;rw [Q5];exact O.len
theorem Ix {pins:List (Addr×Obj)}{σ:St}{H:Hp}{s:Shared}{fp:List Addr}{it:Addr}{tn:Nat->Heap->Prop}{J:It}{E:Value->Shared->Prop}{RR:Value->Addr->Result->Shared->Prop}{Fin:List V->Hp->Prop}(O:CompOk sc N N' src scope)(hsc:X.env.scope=sc)(hN:X.N=N)(hcalm:X.calm=true)
  (hg:∀ C s H fp,PG (X.comp N' scope C s H fp) tg g) (hft:∀ C s H fp,PFi (X.comp N' scope C s H fp) ifs tf) (he:∀ C s H fp,PE (X.comp N' scope C s H fp) elt te)
  (I:Inv X pins σ H s) (T:Turn X.prog X.w X.K tg J fp it tn) (t0:tn 0 s.heap) (hf:∀ b∈fp,XE X pins H b)
  (W:Nat->Nat->List V->St->Hp->Prop) (m0:Nat) (w0:W 0 m0 [] (Us src σ) H)
  (hW:∀ i m ys σ' H',W i m ys σ' H'->ys.length<=sizeLine/\((J.stop i H'/\Fin ys H') \/
   (J.go i H'/\∃ Nx:List V->St->Hp->Prop,(∀ ys2 σ2 H2,Nx ys2 σ2 H2->∃ m',m'<m/\W (i+1) m' ys2 σ2 H2) /\
    ∀ x H2,J.yld i H' x H2->g x σ' H2 fun σ2 H3=>tf σ2 H3 fun b H4=>if b=true then te σ2 H4 fun y H5=>Nx (ys++[y]) σ2 H5 else Nx ys σ2 H4)))
  (hRR:∀ (D C:Addr) (s':Shared) (σ':St) (H':Hp) (ys:List V) (its:List Value) (n:Nat),s.heap.objs.size<=D->s.heap.objs.size<=C->Inv (X.comp N' scope C s H fp) [] σ' H' s'->s'.heap.get? D=some { cls:=.type "list",data:=.seq its.toArray n }->Vals ys its->ys.length<=sizeLine ->
   H' D=none->D≠C->Fin ys H'->RR (.ref D) C (.ok .next) s') :
  wpAny (model X.prog X.w) X.A (newList []) (fun acc s₃=>wpAny (model X.prog X.w) X.A (newFunctionEnv scope X.env.globals (qB X.env scope) [] X.env.qual none .none (some X.env)) (fun cenv s₄ =>
   codeAny (model X.prog X.w) X.A (.compStart (.ListComp elt [⟨tg,iter,ifs,0⟩] scope pos) 0 (.ref it) acc { cenv with scope:=relabel scope X.env }) (RR acc cenv.locals) s₄) E s₃) E s:=by
 refine Z1 (wpAny_newFunctionEnv O.nocell (by intro y hy;cases hy) (fun h₁ hns₁ hsb₁=>?_) O.kind);dsimp only at hns₁ hsb₁ ⊢;generalize hH2:s.heap.push { cls:=.type "list",dict:=none,data:=.seq ([]:List Value).toArray }=P2 at hns₁ hsb₁ ⊢;have hCs:P2.objs.size=s.heap.objs.size+1:=by rw [←hH2,Yo]
 have hDC:s.heap.objs.size≠P2.objs.size:=by rw [hCs];exact Zu (Jf _)
 have hCle:s.heap.objs.size<=P2.objs.size:=by rw [hCs];exact JB _
 have below:∀ b,b<s.heap.objs.size->b≠P2.objs.size/\b≠s.heap.objs.size:=fun b hb=>⟨by rw [hCs];exact Zu (YH hb),Zu hb⟩;have old:∀ b o,s.heap.get? b=some o->h₁.get? b=some o:=fun b o e=>hsb₁.extBut b o (below b (Zp e)).1 (Q9 _ (hH2▸Q9 _ e));have hacc:h₁.get? s.heap.objs.size=some { cls:=.type "list",data:=.seq ([]:List Value).toArray 0 }:=hsb₁.extBut _ _ hDC (Q9 _ (hH2▸Zm _ rfl));have fpo:∀ b∈fp,∃ o,s.heap.get? b=some o:=fun b hb=>let ⟨o,e,_⟩:=T.obj 0 _ t0 b hb;⟨o,e⟩;have fplt:∀ b∈fp,b<s.heap.objs.size:=fun b hb=>let ⟨o,e⟩:=fpo b hb;Zp e;generalize hD:s.heap.objs.size=D at *;generalize hC:P2.objs.size=C at *;have ok1:∀ tk,Inv (X.comp N' scope C s H fp) [] (Us src σ) H { s with heap:=h₁,toks:=tk }:=fun tk=>comp_inv O hsc hN I hf fpo (by rw [hD];exact hCle) old hns₁;have okX:(X.comp N' scope C s H fp).Ok:=(ok1 0).ok;have stat:∀ {H':Hp} {pl:List (Addr×Obj)},(∀ b∈fp,H' b=none)->(∀ p∈pl,p.1∉fp)->∀ b∈fp,XE (X.comp N' scope C s H fp) pl H' b:=fun {H' pl} hn hp b hb =>
  ⟨hn b hb,(okX.exf b hb).1,okX.exfs b hb,.inl hb,(okX.exf b hb).2,fun p hm=>by
   have hm:p∈pl:=by simpa [Cx.comp] using hm
   exact fun z=>hp p hm (z▸hb)⟩
 have Dfs:D∉(X.comp N' scope C s H fp).fs:=fun hb=>by
  obtain ⟨_,o,ho,_⟩:=okX.funs.mem hb;have ho:s.heap.get? D=some o:=ho;have h1:=Zp ho;rw [hD] at h1;exact Yq _ h1
 have Dcell:∀ x c,(X.comp N' scope C s H fp).env.cells.lookup x=some c->c≠D:=fun x c e z=>by
  obtain ⟨v,o,ho,_⟩:=I.cell x c (j0 e);have h1:=Zp ho;rw [hD,z] at h1;exact Yq _ h1
 have loop:∀ tk,codeAny (model X.prog X.w) X.A (.compLoop (.ListComp elt [⟨tg,iter,ifs,0⟩] scope pos) 0 (.ref it) (.ref D) (compEnvC scope (qB X.env scope) C X.env)) (RR (.ref D) C) { s with heap:=h₁,toks:=tk }:=by
  intro tk;refine loop_own (fun n s'=>∃ i ys σ' H' its c,Inv (X.comp N' scope C s H fp) [] σ' H' s'/\tn i s'.heap/\(∀ b∈fp,H' b=none)/\s'.heap.get? D=some { cls:=.type "list",data:=.seq (its:List Value).toArray c }/\Vals ys its/\H' D=none/\W i n ys σ' H') ?_ m0
   ⟨0,[],Us src σ,H,[],0,ok1 tk,T.keep 0 _ _ t0 fun b _ o e=>old b o e,fun b hb=>(hf b hb).1,hacc,.nil,I.hok.fresh (by rw [hD];exact Ze _),w0⟩
  rintro n s3 ⟨i,ys,σ3,H3,its,c3,I3,st3,fr3,d3,v3,nD3,w3⟩;obtain ⟨hlen,alt⟩:=hW i n ys σ3 H3 w3
  rcases alt with ⟨stop,fin⟩|⟨go,Nx,hNx,step⟩
  ·have I3':Inv (X.comp N' scope C s H fp) [(D,{ cls:=.type "list",data:=.seq its.toArray c3 })] σ3 H3 s3:=I3.pins_of fun p hp=>by
    have e:p=(D,{ cls:=.type "list",data:=.seq its.toArray c3 }):=by simpa using hp
    subst e;exact ⟨d3,nD3,hDC,Dfs,fun v z=>by cases z⟩
   refine thn (T.done (X.comp N' scope C s H fp) rfl rfl rfl hcalm i _ s3 σ3 H3 _ I3' (stat fr3 fun p hp z=>by
    have e:p=(D,{ cls:=.type "list",data:=.seq its.toArray c3 }):=by simpa using hp
    rw [e] at z;exact Yq _ (fplt D z)) st3 stop) fun r s4 ⟨hr,I4⟩=>?_
   subst hr;obtain ⟨d4,nD4,_⟩:=I4.pin (D,{ cls:=.type "list",data:=.seq its.toArray c3 }) (by simp [Cx.comp]);exact hRR D C s4 σ3 H3 ys its c3 (by omega) (by omega) (I4.pins_of fun p hp=>(by cases hp)) d4 v3 hlen nD4 hDC fin
  ·have I3':Inv (X.comp N' scope C s H fp) [(D,{ cls:=.type "list",data:=.seq its.toArray c3 })] σ3 H3 s3:=I3.pins_of fun p hp=>by
    have e:p=(D,{ cls:=.type "list",data:=.seq its.toArray c3 }):=by simpa using hp
    subst e;exact ⟨d3,nD3,hDC,Dfs,fun v z=>by cases z⟩
   have hpD:∀ p∈[((D,{ cls:=.type "list",data:=.seq its.toArray c3 }):Addr×Obj)],p.1∉fp:=fun p hp z=>by
    have e:p=(D,{ cls:=.type "list",data:=.seq its.toArray c3 }):=by simpa using hp
    rw [e] at z;exact Yq _ (fplt D z)
   refine thn (T.item (X.comp N' scope C s H fp) rfl rfl rfl hcalm i _ s3 σ3 H3 _ I3' (stat fr3 hpD) st3 go) fun r s4 ⟨u,hr,h4⟩=>?_;subst hr;refine thn h4 fun _ s5 ⟨x,H5,I5,r5,y5,st5,fr5⟩=>?_;have I5':=I5.pinned (stat fr5 hpD) (T.obj _ _ st5);have pinD:(D,({ cls:=.type "list",data:=.seq its.toArray c3 }:Obj))∈(X.comp N' scope C s H fp).pn++([((D,{ cls:=.type "list",data:=.seq its.toArray c3 }):Addr×Obj)]++Xg fp s5.heap):=by simp [Cx.comp]
   have back:∀ {σ7:St} {H7:Hp} {s7:Shared},Inv (X.comp N' scope C s H fp) ([((D,{ cls:=.type "list",data:=.seq its.toArray c3 }):Addr×Obj)]++Xg fp s5.heap) σ7 H7 s7 ->
     tn (i+1) s7.heap/\∀ b∈fp,H7 b=none:=fun {σ7 H7 s7} I7=>⟨T.keep _ _ _ st5 fun b hb o e=>(I7.pin (b,o) (ZK _ (ZK _ (jQ hb e)))).1,fun b hb=>by
    obtain ⟨o,e,d⟩:=T.obj _ _ st5 b hb;exact (I7.pin (b,o) (ZK _ (ZK _ (jQ hb e)))).2.1⟩
   refine thn (hg C s H fp _ s5 σ3 H5 x u _ I5' r5 (step x H5 y5)) fun _ s6 ⟨σ6,H6,I6,q6⟩=>?_;refine thn (hft C s H fp _ s6 σ6 H6 _ I6 q6) fun b s7 ⟨H7,I7,q7⟩=>?_;cases b with
   | false =>
    obtain ⟨m',hm',w7⟩:=hNx ys σ6 H7 (by simpa using q7);obtain ⟨b1,b2⟩:=back I7;obtain ⟨d7,nD7,_⟩:=I7.pin _ pinD;exact ⟨m',hm',i+1,ys,σ6,H7,its,c3,I7.pins_of fun p hp=>(by cases hp),b1,b2,d7,v3,nD7,w7⟩
   | true =>
    have q7:te σ6 H7 fun y H5=>Nx (ys++[y]) σ6 H5:=by simpa using q7
    rw [Zz rfl];refine thn (he C s H fp _ s7 σ6 H7 _ I7 q7) fun u8 s8 ⟨y,H8,I8,r8,n8⟩=>?_;obtain ⟨m',hm',w8⟩:=hNx _ _ _ n8;obtain ⟨b1,b2⟩:=back I8;obtain ⟨d8,nD8,_⟩:=I8.pin _ pinD;have hl:=v3.length;refine wpAny_list_append_plain (items:=its.toArray) ⟨c3,d8⟩ (fun h9 ⟨c9,d9⟩ sb9=>?_) (by rw [Zv,←hl];exact hlen);have I8':Inv (X.comp N' scope C s H fp) [] σ6 H8 s8:=I8.pins_of fun p hp=>by cases hp
    have I9:Inv (X.comp N' scope C s H fp) [] σ6 H8 { s8 with heap:=h9 }:=I8'.turned (t':=s8.toks) (it:=D) (fun b o hb e=>(sb9.2 b hb).trans e) nD8 hDC (.inr (by show s.heap.objs.size<=D;omega)) Dcell (fun p hp=>by
     have hp:p∈([]:List (Addr×Obj)):=by simpa [Cx.comp] using hp
     cases hp)
    refine ⟨m',hm',i+1,ys++[y],σ6,H8,its++[u8],c9,I9,T.keep _ _ _ b1 fun b hb o e=>(sb9.2 b (fun z=>Yq _ (z▸fplt b hb))).trans e,b2,?_,v3.append (.cons r8 .nil),nD8,w8⟩;show h9.get? D=_;rw [d9];simp
 exact codeAny_compStart_list (loop _) (T.self _ 0 _ _ _ (T.keep 0 _ _ t0 fun b _ o e=>old b o e) (loop _))
theorem comp_back {pins:List (Addr×Obj)}{σ σ':St}{H H':Hp}{s s':Shared}{fp:List Addr}{C D:Addr}{ys:List V}{its:List Value}{n:Nat}(I:Inv X pins σ H s)(hf:∀ b∈fp,XE X pins H b)
  (J:Inv (X.comp N' scope C s H fp) [] σ' H' s') (hD:s.heap.objs.size<=D) (d:s'.heap.get? D=some { cls:=.type "list",data:=.seq its.toArray n }) (v:Vals ys its) (hl:ys.length<=sizeLine) (nD:H' D=none) :
  Inv X pins σ (upd H' D (.lst ys)) s':=by
 have u:Un (frs X.stack) fp H H' s.heap s'.heap:=J.base;refine I.call' (ch:=fp) J.os (u.adopt (Vz hD) (I.hok.fresh hD)) (J.hok.adopt nD ⟨hl,its,n,v,d⟩) J.bare fun b hb=>?_;obtain ⟨_,f1,_,f3,f4,f5⟩:=hf b hb;exact ⟨f3,f1,f4,f5⟩
theorem GE {pins:List (Addr×Obj)}{σ σ2:St}{H H2:Hp}{s s2:Shared}{C:Addr}{h':Heap}(I:Inv X pins σ H s)(I2:Inv X pins σ2 H2 s2)(hC:s.heap.objs.size<=C)(nC:H2 C=none)(sb:Heap.SameBut C s2.heap h'):Inv X pins σ2 H2 { s2 with heap:=h' }:=by
 obtain ⟨_,f1,_,f3,f4,f5⟩:=I.fpOk (H':=H2) hC nC;exact I2.turned (t':=s2.toks) (it:=C) (fun b o hb e=>(sb.2 b hb).trans e) nC f1 f3 f4 f5
theorem y6 (O:CompOk sc N N' src scope)(hsc:X.env.scope=sc)(hN:X.N=N)(hcalm:X.calm=true)(hi:PI X tg iter wi)
  (hg:∀ C s H fp,PG (X.comp N' scope C s H fp) tg g) (hft:∀ C s H fp,PFi (X.comp N' scope C s H fp) ifs tf) (he:∀ C s H fp,PE (X.comp N' scope C s H fp) elt te)
  (hs:∀ x,foldedSetIterable iter X.env x=pure x:=by intro _;rfl):PE X (.ListComp elt [⟨tg,iter,ifs,0⟩] scope pos) (tComp src wi g tf te):=by
 intro pins s σ H Q I h;rw [eval_ListComp];have hclos:closureFor scope X.env=pure (qB X.env scope):=j7 fun x hx hk=>I.ok.has x.1 (by
  have:=O.free x hx hk;rw [←hsc] at this;exact this)
 refine wpAny_comprehension_free (use:=none) rfl hs hclos O.kind O.names (thn (hi pins s σ H _ I h) fun v s1 h1=>thn h1 fun itv s2 h2=>?_);obtain ⟨it,fp,tn,J,H2,e,I2,T,st2,f2,W,⟨m0,w0⟩,turn⟩:=h2;subst e;refine Ix (RR:=fun acc C=>compPost (model X.prog X.w) X.A X.xe none (EP X pins σ Q) acc C) (Fin:=fun ys H'=>∀ p,H' p=none->Q (.ref p) (upd H' p (.lst ys))) O hsc hN hcalm hg hft he I2 T st2 f2 W m0 w0 turn ?_;intro D C s' σ' H' ys its n hD hC Jv d vv hl nD hDC fin;have I3:=comp_back I2 f2 Jv hD d vv hl nD;obtain ⟨m,hm,_⟩:=Jv.loc;have nC:H' C=none:=Jv.free;refine ⟨m,hm,fun h' sb=>⟨.ref D,_,GE I2 I3 hC (by rw [zH (Ne.symm hDC)];exact nC) sb,rfl,fin D nD⟩⟩
theorem ps_setc {k:Nat}{y:Str}{py spos:Pos}(O:CompOk sc N N' src scope)(hsc:X.env.scope=sc)(hN:X.N=N)(hcalm:X.calm=true)(hi:PI X tg iter wi)
  (hg:∀ C s H fp,PG (X.comp N' scope C s H fp) tg g) (hft:∀ C s H fp,PFi (X.comp N' scope C s H fp) ifs tf) (he:∀ C s H fp,PE (X.comp N' scope C s H fp) elt te)
  (nd:X.N.Nodup) (hk:X.N[k]?=some y) (hx:Loc X.env.scope y)
  (hsw:swapsWith (.ListComp elt [⟨tg,iter,ifs,0⟩] scope pos) (some (.Name y py)) spos.line X.env=pure true:=by rfl)
  (hf:X.fn y=true\/X.env.scope.names.lookup y=some .local:=by first|exact .inl rfl|exact .inr rfl|assumption)
  (hs:∀ x,foldedSetIterable iter X.env x=pure x:=by intro _;rfl):PS X (.Assign [.Name y py] (.ListComp elt [⟨tg,iter,ifs,0⟩] scope pos) spos) (tAsg (tComp src wi g tf te) (BL k)):=by
 intro pins s σ H D₀ I h;rw [exec_Assign_Name_used _ _ _ _ hsw];refine Q6 (wpAny_standAt (Q6 ?_));show wpAny _ X.A (do let _ ←comprehension (.ListComp elt [⟨tg,iter,ifs,0⟩] scope pos) scope X.env _ (newList []) false (eval iter X.env) (some (assign (.Name y py) X.env))) _ _ s;have hclos:closureFor scope X.env=pure (qB X.env scope):=j7 fun x hx hk=>I.ok.has x.1 (by
  have:=O.free x hx hk;rw [←hsc] at this;exact this)
 refine Q6 (Yn (wpAny_comprehension_free (use:=some (assign (.Name y py) X.env)) (Q:=fun _ s'=>SP X pins D₀ .next s') rfl hs hclos O.kind O.names (thn (hi pins s σ H _ I h) fun v s1 h1=>thn h1 fun itv s2 h2=>?_))
  (fun _ s' hq=>Q8 (Q8 hq)) fun _ _ e=>e)
 obtain ⟨it,fp,tn,J,H2,e,I2,T,st2,f2,W,⟨m0,w0⟩,turn⟩:=h2;subst e;refine Ix (RR:=fun acc C=>compPost (model X.prog X.w) X.A X.xe (some (assign (.Name y py) X.env)) (fun _ s'=>SP X pins D₀ .next s') acc C) (Fin:=fun ys H'=>∀ p,H' p=none->BL k (.ref p) σ (upd H' p (.lst ys)) D₀.nx) O hsc hN hcalm hg hft he I2 T st2 f2 W m0 w0 turn ?_;intro D C s' σ' H' ys its n hD hC Jv d vv hl nD hDC fin;have I3:=comp_back I2 f2 Jv hD d vv hl nD;obtain ⟨m,hm,_⟩:=Jv.loc;have nC:H' C=none:=Jv.free;show wpAny _ X.A (assign (.Name y py) X.env (.ref D)) _ _ s';refine wpAny_assign_Name (GK I3 nd hk hx (v:=.ref D) rfl (fun s4 I4 ⟨a,sa,ha⟩=>?_) hf);have aC:C≠a:=by
  rcases ha with e|e
  ·rw [e];intro z;exact Yq _ (ZD I2.lt (z▸hC))
  ·intro z;obtain ⟨v,o,ho,_⟩:=I2.cell y a e;exact Yq _ (ZD (Zp ho) (z▸hC))
 refine ⟨m,Heap.Ns.sameBut hm sa aC,fun h' sb=>⟨_,_,GE I2 I4 hC (by rw [zH (Ne.symm hDC)];exact nC) sb,fin D nD⟩⟩
end
def tCut (t u:TS):TS:=fun D σ H=>∃ R:St->Hp->Prop,t { D with nx:=R } σ H/\∀ σ' H',R σ' H'->u D σ' H'
theorem kU {X:Cx}{st:Stmt}{rest:List Stmt}{t u:TS}(h1:PS X st t)(h2:PSs X rest u):PSs X (st::rest) (tCut t u):=by
 intro pins s σ H D I ⟨R,h,hu⟩;refine VY (thn (h1 pins s σ H { D with nx:=R } I h) fun f s1 q=>?_);cases f with
 | next =>
  obtain ⟨σ',H',I',q⟩:=q;exact h2 pins s1 σ' H' D I' (hu σ' H' q)
 | ret v=>exact q
 | brk=>exact q
 | cont=>exact q
section
variable {K:ZZF}{src:List (Option Nat)}{g:TG}{tf:TT}{te:TE}{Q:VK}{a:Addr}{xs:List V}{σ:St}{H:Hp}
theorem IO {J:It}(n:Nat)(Pv:Nat->List V->St->Hp->Prop)(h0:Pv 0 [] (Us src σ) H)(hz:n<=sizeLine)(hl:∀ i ys σ H,i<=n->Pv i ys σ H->ys.length<=i)
  (hst:∀ ys σ H,Pv n ys σ H->J.stop n H) (hgo:∀ i ys σ H,i<n->Pv i ys σ H->J.go i H)
  (hs:∀ i ys σ H,i<n->Pv i ys σ H->∀ x H2,J.yld i H x H2->g x σ H2 fun σ2 H3=>tf σ2 H3 fun b H4=>if b=true then te σ2 H4 fun y H5=>Pv (i+1) (ys++[y]) σ2 H5 else Pv (i+1) ys σ2 H4)
  (hd:∀ ys σ H,Pv n ys σ H->∀ p,H p=none->Q (.ref p) (upd H p (.lst ys))):UE src J g tf te Q σ H:=by
 refine ⟨fun i m ys σ H=>m=n-i/\i<=n/\Pv i ys σ H,⟨n,by simp,ZJ _,h0⟩,?_⟩;rintro i m ys σ' H' ⟨rfl,hi,p⟩;have hy:=hl i ys σ' H' hi p;refine ⟨by omega,?_⟩
 by_cases hlt:i<n
 ·exact .inr ⟨hgo i ys σ' H' hlt p,Pv (i+1),fun ys2 σ2 H2 z=>⟨n-(i+1),by omega,rfl,hlt,z⟩,fun x H2 y=>hs i ys σ' H' hlt p x H2 y⟩
 ·have e:i=n:=by omega
  subst e;exact .inl ⟨hst ys σ' H' p,hd ys σ' H' p⟩
theorem comp_list (Pv:Nat->List V->St->Hp->Prop)(h0:Pv 0 [] (Us src σ) H)(hz:xs.length<=sizeLine)(hl:∀ i ys σ H,i<=xs.length->Pv i ys σ H->SqL K H a xs/\ys.length<=i)
  (hs:∀ i x ys σ H,xs[i]?=some x->Pv i ys σ H->g x σ H fun σ2 H3=>tf σ2 H3 fun b H4=>if b=true then te σ2 H4 fun y H5=>Pv (i+1) (ys++[y]) σ2 H5 else Pv (i+1) ys σ2 H4)
  (hd:∀ ys σ H,Pv xs.length ys σ H->∀ p,H p=none->Q (.ref p) (upd H p (.lst ys))):UE src (Itl K a) g tf te Q σ H :=
 IO xs.length Pv h0 hz (fun i ys σ H hi p=>(hl i ys σ H hi p).2) (fun ys σ H p=>⟨xs,(hl _ ys σ H (Ze _) p).1,Ze _⟩) (fun i ys σ H hi p=>⟨xs,xs[i],(hl i ys σ H (YF hi) p).1,by simp [hi]⟩)
  (fun i ys σ H hi p x H2 y=>by
   obtain ⟨e,y⟩:=y;subst e;exact hs i x ys σ _ (y xs (hl i ys σ _ (YF hi) p).1) p) hd
theorem BQ (Pv:Nat->List V->St->Hp->Prop)(h0:Pv 0 [] (Us src σ) H)(hz:xs.length<=sizeLine)(hl:∀ i ys σ H,i<=xs.length->Pv i ys σ H->SqT K H a xs/\ys.length<=i)
  (hs:∀ i x ys σ H,xs[i]?=some x->Pv i ys σ H->g x σ H fun σ2 H3=>tf σ2 H3 fun b H4=>if b=true then te σ2 H4 fun y H5=>Pv (i+1) (ys++[y]) σ2 H5 else Pv (i+1) ys σ2 H4)
  (hd:∀ ys σ H,Pv xs.length ys σ H->∀ p,H p=none->Q (.ref p) (upd H p (.lst ys))):UE src (Itt K a) g tf te Q σ H :=
 IO xs.length Pv h0 hz (fun i ys σ H hi p=>(hl i ys σ H hi p).2) (fun ys σ H p=>⟨xs,(hl _ ys σ H (Ze _) p).1,Ze _⟩) (fun i ys σ H hi p=>⟨xs,xs[i],(hl i ys σ H (YF hi) p).1,by simp [hi]⟩)
  (fun i ys σ H hi p x H2 y=>by
   obtain ⟨e,y⟩:=y;subst e;exact hs i x ys σ _ (y xs (hl i ys σ _ (YF hi) p).1) p) hd
theorem comp_range {lo:Int}{n:Nat}(Pv:Nat->List V->St->Hp->Prop)(h0:Pv 0 [] (Us src σ) H)(hz:n<=sizeLine)(hl:∀ i ys σ H,i<=n->Pv i ys σ H->ys.length<=i)
  (hs:∀ i ys σ H,i<n->Pv i ys σ H->g (.int (lo+i)) σ H fun σ2 H3=>tf σ2 H3 fun b H4=>if b=true then te σ2 H4 fun y H5=>Pv (i+1) (ys++[y]) σ2 H5 else Pv (i+1) ys σ2 H4)
  (hd:∀ ys σ H,Pv n ys σ H->∀ p,H p=none->Q (.ref p) (upd H p (.lst ys))):UE src (Itr lo n) g tf te Q σ H :=
 IO n Pv h0 hz hl (fun _ _ _ _=>Ze _) (fun _ _ _ _ hi _=>hi)
  (fun i ys σ H hi p x H2 y=>by
   obtain ⟨e,y⟩:=y;subst e y;exact hs i ys σ _ hi p) hd
theorem IF {te:TE}{A:V->St->Hp->Prop}{B:St->Hp->Prop}:(fun σ2 H3=>Ic σ2 H3 fun b H4=>if b=true then te σ2 H4 (fun y H5=>A y σ2 H5) else B σ2 H4)=fun (σ2:St) (H3:Hp)=>te σ2 H3 fun y H5=>A y σ2 H5:=by
 funext σ2 H3
 show (if true=true then (te σ2 H3 fun y H5=>A y σ2 H5) else B σ2 H3)=_;rw [Zz rfl]
theorem jS (Pv:Nat->List V->St->Hp->Prop)(h0:Pv 0 [] (Us src σ) H)(hz:xs.length<=sizeLine)(hl:∀ i ys σ H,i<=xs.length->Pv i ys σ H->SqL K H a xs/\ys.length<=i)
  (hs:∀ i x ys σ H,xs[i]?=some x->Pv i ys σ H->g x σ H fun σ2 H3=>te σ2 H3 fun y H5=>Pv (i+1) (ys++[y]) σ2 H5)
  (hd:∀ ys σ H,Pv xs.length ys σ H->∀ p,H p=none->Q (.ref p) (upd H p (.lst ys))):UE src (Itl K a) g Ic te Q σ H :=
 comp_list Pv h0 hz hl (fun i x ys σ H e p=>by rw [IF];exact hs i x ys σ H e p) hd
theorem jK (Pv:Nat->List V->St->Hp->Prop)(h0:Pv 0 [] (Us src σ) H)(hz:xs.length<=sizeLine)(hl:∀ i ys σ H,i<=xs.length->Pv i ys σ H->SqT K H a xs/\ys.length<=i)
  (hs:∀ i x ys σ H,xs[i]?=some x->Pv i ys σ H->g x σ H fun σ2 H3=>te σ2 H3 fun y H5=>Pv (i+1) (ys++[y]) σ2 H5)
  (hd:∀ ys σ H,Pv xs.length ys σ H->∀ p,H p=none->Q (.ref p) (upd H p (.lst ys))):UE src (Itt K a) g Ic te Q σ H :=
 BQ Pv h0 hz hl (fun i x ys σ H e p=>by rw [IF];exact hs i x ys σ H e p) hd
theorem jZ {lo:Int}{n:Nat}(Pv:Nat->List V->St->Hp->Prop)(h0:Pv 0 [] (Us src σ) H)(hz:n<=sizeLine)(hl:∀ i ys σ H,i<=n->Pv i ys σ H->ys.length<=i)
  (hs:∀ i ys σ H,i<n->Pv i ys σ H->g (.int (lo+i)) σ H fun σ2 H3=>te σ2 H3 fun y H5=>Pv (i+1) (ys++[y]) σ2 H5)
  (hd:∀ ys σ H,Pv n ys σ H->∀ p,H p=none->Q (.ref p) (upd H p (.lst ys))):UE src (Itr lo n) g Ic te Q σ H :=
 comp_range Pv h0 hz hl (fun i ys σ H e p=>by rw [IF];exact hs i ys σ H e p) hd
end
end L2
namespace L2
open PySem PySem.Spec PyProof.Rows
mutual
def Dt (K:ZZF)(H:Hp):PyData->V->Prop
 | .none,v=>v=.non
 | .bool b,v=>v=.bl b
 | .int i,v=>v=.int i
 | .str x,v=>v=.str x
 | .list ds,v=>∃ a xs,v=.ref a/\SqL K H a xs/\DtAll K H ds xs
 | .tuple ds,v=>∃ a xs,v=.ref a/\SqT K H a xs/\DtAll K H ds xs
 | .dict _,_=>False
def DtAll (K:ZZF)(H:Hp):List PyData->List V->Prop
 | [],xs=>xs=[]
 | d::ds,xs=>∃ x r,xs=x::r/\Dt K H d x/\DtAll K H ds r
end
theorem Same.tupS {K:ZZF}{H H':Hp}{a:Addr}{xs:List V}(e:Same H H')(h:SqT K H a xs):SqT K H' a xs:=by
 rcases h with (h|⟨o,h⟩)|h
 ·exact .inl (.inl (e _ _ h))
 ·exact .inl (.inr ⟨o,e _ _ h⟩)
 ·exact .inr h
mutual
theorem Dt.same {K:ZZF}{H H':Hp}(e:Same H H'):∀ (d:PyData) (v:V),Dt K H d v->Dt K H' d v
 | .none,_,h=>h
 | .bool _,_,h=>h
 | .int _,_,h=>h
 | .str _,_,h=>h
 | .list ds,_,⟨a,xs,h1,h2,h3⟩=>⟨a,xs,h1,e.seq h2,DtAll.same e ds xs h3⟩
 | .tuple ds,_,⟨a,xs,h1,h2,h3⟩=>⟨a,xs,h1,e.tupS h2,DtAll.same e ds xs h3⟩
 | .dict _,_,h=>h
theorem DtAll.same {K:ZZF}{H H':Hp}(e:Same H H'):∀ (ds:List PyData) (xs:List V),DtAll K H ds xs->DtAll K H' ds xs
 | [],_,h=>h
 | d::ds,_,⟨x,r,h1,h2,h3⟩=>⟨x,r,h1,Dt.same e d x h2,DtAll.same e ds r h3⟩
end
theorem DtAll.length {K:ZZF}{H:Hp}:∀ {ds:List PyData} {xs:List V},DtAll K H ds xs->xs.length=ds.length
 | [],_,h=>by cases (show _=[] from h);rfl
 | d::ds,_,⟨x,r,h1,h2,h3⟩=>by rw [h1,Zn,Zn,DtAll.length h3]
theorem DtAll.get {K:ZZF}{H:Hp}:∀ {ds:List PyData} {xs:List V} {i:Nat} {x:V},DtAll K H ds xs->xs[i]?=some x->∃ d,ds[i]?=some d/\Dt K H d x
 | [],_,_,_,h,e=>by cases (show _=[] from h);simp at e
 | d::ds,_,0,_,⟨x,r,h1,h2,h3⟩,e=>by rw [h1] at e;simp at e;subst e;exact ⟨d,rfl,h2⟩
 | d::ds,_,i+1,_,⟨x,r,h1,h2,h3⟩,e=>by
  rw [h1] at e;obtain ⟨d',e1,e2⟩:=DtAll.get (i:=i) h3 (by simpa using e);exact ⟨d',by simpa using e1,e2⟩
theorem DtAll.strs {K:ZZF}{H:Hp}:∀ (ls:List Str),DtAll K H (ls.map PyData.str) (ls.map V.str)
 | []=>rfl
 | x::ls=>⟨.str x,ls.map V.str,rfl,rfl,DtAll.strs ls⟩
theorem DtAll.strs_of {K:ZZF}{H:Hp}:∀ {ls:List Str} {xs:List V},DtAll K H (ls.map PyData.str) xs->xs=ls.map V.str
 | [],_,h=>h
 | x::ls,_,⟨v,r,h1,h2,h3⟩=>by
  have h2:v=V.str x:=h2;rw [h1,h2,DtAll.strs_of h3];rfl
section
variable {X:Cx}{pins:List (Addr×Obj)}{σ:St}{H:Hp}{s:Shared}
mutual
theorem Dt.reads (I:Inv X pins σ H s):∀ (d:PyData) (v:V) (u:Value),Dt X.K H d v->RelV v u->∃ as,Reads s.heap u d as
 | .none,_,u,h,r=>by
  cases (show _=V.non from h);cases (show u=Value.none from r);exact ⟨_,.none⟩
 | .bool b,_,u,h,r=>by
  cases (show _=V.bl b from h);cases (show u=Value.bool b from r);exact ⟨_,.bool b⟩
 | .int i,_,u,h,r=>by
  cases (show _=V.int i from h);obtain ⟨t,e⟩:=(show ∃ t,u=Value.int i t from r);cases e;exact ⟨_,.int i t⟩
 | .str x,_,u,h,r=>by
  cases (show _=V.str x from h);obtain ⟨t,e⟩:=(show ∃ t,u=Value.str x t from r);cases e;exact ⟨_,.str x t⟩
 | .list ds,_,u,⟨a,xs,h1,h2,h3⟩,r=>by
  subst h1;cases (show u=Value.ref a from r);obtain ⟨its,rv,⟨o,n,e,c,_,d⟩,_⟩:=I.list h2;obtain ⟨as,q⟩:=DtAll.reads I ds xs its h3 rv;exact ⟨_,.list e c d (by simpa using q)⟩
 | .tuple ds,_,u,⟨a,xs,h1,h2,h3⟩,r=>by
  subst h1;cases (show u=Value.ref a from r);obtain ⟨its,rv,⟨o,e,c,n,d⟩,_⟩:=I.tuple h2;obtain ⟨as,q⟩:=DtAll.reads I ds xs its h3 rv;exact ⟨_,.tuple e c d (by simpa using q)⟩
 | .dict _,_,_,h,_=>False.elim h
theorem DtAll.reads (I:Inv X pins σ H s):∀ (ds:List PyData) (xs:List V) (us:List Value),DtAll X.K H ds xs->Vals xs us->∃ as,ReadsAll s.heap us ds as
 | [],_,us,h,r=>by
  cases (show _=[] from h);cases r;exact ⟨_,.nil⟩
 | d::ds,_,us,⟨x,rr,h1,h2,h3⟩,r=>by
  subst h1;cases r with
  | cons r1 r2 =>
   obtain ⟨as,q1⟩:=Dt.reads I d x _ h2 r1;obtain ⟨bs,q2⟩:=DtAll.reads I ds rr _ h3 r2;exact ⟨_,.cons q1 q2⟩
end
end
section
variable {X:Cx}
def rEqD (K:ZZF):R2:=fun x y H Q=>∃ d e,Dt K H d x/\Dt K H e y/\SeqAt.shaped d=true/\SeqAt.shaped e=true/\Q (.bl (PyData.eqv d e)) H
def rNeD (K:ZZF):R2:=fun x y H Q=>∃ d e,Dt K H d x/\Dt K H e y/\SeqAt.shaped d=true/\SeqAt.shaped e=true/\Q (.bl (!PyData.eqv d e)) H
theorem op_eqD (hu:X.A.units+64<cLine):OpR X (compareOp .Eq) (rEqD X.K):=by
 intro pins s σ H x y v u Q I rx ry h;obtain ⟨d,e,h1,h2,h3,h4,q⟩:=h;obtain ⟨as,r1⟩:=Dt.reads I d x v h1 rx;obtain ⟨bs,r2⟩:=Dt.reads I e y u h2 ry;exact SeqAt.compareEq_shaped r1 r2 h3 h4 hu ⟨.bl _,H,I,rfl,q⟩
theorem X1 (hu:X.A.units+64<cLine):OpR X (compareOp .NotEq) (rNeD X.K):=by
 intro pins s σ H x y v u Q I rx ry h;obtain ⟨d,e,h1,h2,h3,h4,q⟩:=h;obtain ⟨as,r1⟩:=Dt.reads I d x v h1 rx;obtain ⟨bs,r2⟩:=Dt.reads I e y u h2 ry;exact SeqAt.compareNe_shaped r1 r2 h3 h4 hu ⟨.bl _,H,I,rfl,q⟩
theorem uA:∀ {ys:List Str} {us:List Value},Vals (ys.map V.str) us->StrsAre us ys
 | [],us,r=>by rw [VG] at r;cases r;exact .nil
 | y::ys,us,r=>by
  rw [Zw] at r;cases r with
  | cons r1 r2 =>
   obtain ⟨t,e⟩:=r1;subst e;exact .cons y t (uA r2)
theorem UX:∀ {us:List Value} {ys:List Str},StrsAre us ys->Vals (ys.map V.str) us
 | _,_,.nil=>.nil
 | _,_,.cons y t r=>.cons ⟨t,rfl⟩ (UX r)
def rJoin (K:ZZF):V->List V->Hp->VK->Prop:=fun x vs H Q=>∃ sep p ys,x=.str sep/\vs=[.ref p]/\(SqL K H p (ys.map V.str)\/SqT K H p (ys.map V.str))/\(ys.map (·.length)).sum+ys.length*sep.length<=16777216/\Q (.str (Txt.join sep ys)) H
theorem XT:MtR X "str.join" (rJoin X.K):=by
 intro pins s σ H x xs v us Q I rx rs h;obtain ⟨sep,p,ys,rfl,rfl,hq,hz,q⟩:=h;obtain ⟨t,rfl⟩:=rx;obtain ⟨u,rfl,ru⟩:=vals1 rs;cases ru
 rcases hq with hq|hq
 ·obtain ⟨its,r,pl,_⟩:=I.list hq;exact join_list pl.isList (by simpa using uA r) hz fun t' k=>⟨.str _,H,I.tok _,⟨_,rfl⟩,q⟩
 ·obtain ⟨its,r,pl,_⟩:=I.tuple hq;exact join_tuple pl (by simpa using uA r) hz fun t' k=>⟨.str _,H,I.tok _,⟨_,rfl⟩,q⟩
theorem Xv {vl:Value}{lo:Option Int}(h:IsPart vl lo):∃ o:Option (Int×Tok),vl=partValue o/\lo=o.map (·.1):=by
 cases h with
 | none=>exact ⟨none,rfl,rfl⟩
 | int i t=>exact ⟨some (i,t),rfl,rfl⟩
def rSlS:V->Option Int->Option Int->Hp->VK->Prop:=fun x lo hi H Q=>∃ z,x=.str z/\z.length<=sizeLine/\Q (.str (Txt.slice z lo hi)) H
theorem sl_str:SlR X rSlS:=by
 intro pins s σ H x v vl vu lo hi sl Q I rx hs pl pu h;obtain ⟨z,rfl,hz,q⟩:=h;obtain ⟨t,rfl⟩:=rx;obtain ⟨ol,rfl,rfl⟩:=Xv pl;obtain ⟨ou,rfl,rfl⟩:=Xv pu;refine ⟨"str",_,F.slot_str_getitem.lookup,J4 _ _ _,wpAny_getItem_str_slice (l:=ol) (u:=ou) (st:=none) ?_ rfl (post_val_or_str ⟨Yb (Txt.slice_le z _ _) hz,fun t' k=>⟨.str _,H,I.tok _,⟨_,rfl⟩,q⟩⟩)⟩;exact hs
end
section
variable {X:Cx}{pins:List (Addr×Obj)}{σ:St}{H:Hp}{s:Shared}{h':Heap}
theorem Inv.turnedAll {t':Nat}{ch:List Addr}(I:Inv X pins σ H s)(hf:∀ b∈ch,XE X pins H b)(k:∀ b o,b∉ch->s.heap.get? b=some o->h'.get? b=some o)(th:∀ b∈ch,∃ o,h'.get? b=some o):Inv X pins σ H { s with heap:=h',toks:=t' }:=by
 have nch:∀ b u,H b=some u->b∉ch:=fun b u e z=>by rw [(hf b z).1] at e;cases e
 refine I.step (g':=s.gens) (d':=s.drawn) (ch:=ch) (fun b hb=>?_) (fun b o _ _ hc e _=>k b o hc e) (fun b o _ _ hc e _=>⟨o.slots,k b o hc e⟩) (fun _ _ _ _ n=>n)
  (fun b o hc e=>⟨o,k b o hc e⟩) (fun _ _ e=>e) (fun _ _ _ e=>e) (fun b ps e=>⟨#[],by rw [e];simp⟩) (fun m hm=>?_) (fun b u e=>?_) I.bare
 ·obtain ⟨_,f1,_,f3,f4,f5⟩:=hf b hb;exact ⟨f3,f1,f4,f5⟩
 ·obtain ⟨o,es,ep,ho,r⟩:=hm;exact ⟨o,es,ep,k _ o (fun z=>(hf _ z).2.1 rfl) ho,r⟩
 ·refine (I.hok b u e).stay (fun c v hc q=>k c v ?_ q) (fun _ q=>q) fun _ _ q=>q
  rcases hc with z|z
  ·rw [z];exact nch b u e
  ·exact nch c _ z
theorem Un.adopt2 {fs ex:List Addr}{H H1:Hp}{h h1:Heap}{D:Addr}{o:HO}(u:Un fs ex H H1 h h1)(hD:h.get? D=none)(hH:H1 D=none):Un fs ex H (upd H1 D o) h h1 where
 keep:=u.keep
 slot:=u.slot
 free:=fun b ob q n hx=>by
  have hb:b≠D:=fun z=>by rw [z,hD] at q;cases q
  rw [zH hb];exact u.free b ob q n hx
 there:=u.there
 tups:=fun b xs q=>by rw [zH (zM (u.tups b xs q) hH)];exact u.tups b xs q
 frzs:=fun b ob xs q=>by rw [zH (zM (u.frzs b ob xs q) hH)];exact u.frzs b ob xs q
 tbls:=fun b ps q=>by
  obtain ⟨m,e⟩:=u.tbls b ps q;exact ⟨m,by rw [zH (zM e hH)];exact e⟩
theorem Inv.takeUp {T:Addr}{o:HO}(I:Inv X pins σ H s)(n:H T=none)(h0:X.s₀.heap.objs.size<=T)(hL:T≠X.env.locals)(hc:∀ x c,X.env.cells.lookup x=some c->c≠T)(hp:∀ p∈X.pn++pins,p.1≠T)
  (new:ObjOk X.prog X.w (upd H T o) s.heap T o):Inv X pins σ (upd H T o) s:=by
 refine ⟨I.ok,I.os,I.bare,I.base.adopt2 (Vz h0) n,I.loc,I.cell,?_,fun x c e=>?_,fun p hpp=>?_,I.hok.adopt n new,I.len⟩
 ·rw [zH (Ne.symm hL)];exact I.free
 ·rw [zH (hc x c e)];exact I.freeC x c e
 ·obtain ⟨e,n',ne,nf,d⟩:=I.pin p hpp;exact ⟨e,by rw [zH (hp p hpp)];exact n',ne,nf,d⟩
end
def Its (x:Str):It:=⟨fun i _=>i<x.length,fun i H v H'=>H'=H/\∃ c,x.cps[i]?=some c/\v=.str ⟨#[c]⟩,fun i _=>i=x.length⟩
theorem Ij {P:Program}{w:World}{K:ZZF}{tg:Expr}{it:Addr}{x:Str}{tn:Nat->Heap->Prop}(hW:∀ A:Around,A.handled=none->Walks P w A it [it] [it] x.cps.size (SignAt x) tn)
  (ho:∀ i h,tn i h->∃ o,h.get? it=some o/\∀ v,o.data≠.cell v) (hself:∀ (A:Around) (i:Nat) (s:Shared) (Q:Value->Shared->Prop) (E:Value->Shared->Prop),tn i s.heap->Q (.ref it) s->wpAny (model P w) A (pyIter (.ref it)) Q E s) :
  Turn P w K tg (Its x) [it] it tn where
 mem:=by simp
 obj:=fun i h st b hb=>by
  have e:b=it:=by simpa using hb
  subst e;exact ho i h st
 keep:=fun i h h' st k=>(hW {} rfl).frame i h h' st k
 item:=by
  intro X hP hw hK hc i pins s σ H E I hf st hg;subst hP hw hK;obtain ⟨f0,f1,f2,f3,f4,f5⟩:=hf it (by simp);refine (hW X.A (I.ok.hd hc)).item i s _ _ hg st fun v h' tk hv st' kk=>?_;obtain ⟨c,u,hcx,rfl⟩:=hv;have I1:Inv X pins σ H { s with heap:=h',toks:=tk }:=I.turned (fun b o hb e=>kk b o (by simpa using hb) e) f0 f1 f3 f4 f5;refine ⟨_,rfl,?_⟩;have fin:∃ x' H',Inv X pins σ H' { s with heap:=h',toks:=tk }/\RelV x' (.str ⟨#[c]⟩ u)/\(Its x).yld i H x' H'/\tn (i+1) h'/\∀ b∈[it],H' b=none :=
   ⟨.str ⟨#[c]⟩,H,I1,⟨u,rfl⟩,⟨rfl,c,hcx,rfl⟩,st',fun b hb=>(hf b hb).1⟩
  unfold letOwnedTupleGo;cases tg<;>exact Q8 fin
 done:=by
  intro X hP hw hK hc i pins s σ H E I hf st hg;subst hP hw hK;obtain ⟨f0,f1,f2,f3,f4,f5⟩:=hf it (by simp);exact (hW X.A (I.ok.hd hc)).done s _ _ (by have e:i=x.length:=hg;subst e;exact st) fun h' tk kk=>⟨rfl,I.turned (fun b o hb e=>kk b o (by simpa using hb) e) f0 f1 f3 f4 f5⟩
 self:=hself
section
variable {X:Cx}{tg:Expr}
def iStr (te:TE):TI:=fun σ H R=>te σ H fun x H1=>∃ z,x=.str z/\R (Its z) H1
theorem pi_str {e:Expr}{te:TE}(he:PE X e te):PI X tg e (iStr te):=by
 intro pins s σ H R I h;refine thn (he pins s σ H _ I h) fun v s1 ⟨x,H1,I1,r1,q1⟩=>?_;obtain ⟨z,e,q⟩:=q1;subst e;obtain ⟨t,rfl⟩:=r1;have fr:H1 s1.heap.objs.size=none:=I1.hok.fresh (Ze _);cases ha:z.cps.all (·<128)
 ·refine wpAny_pyIter_wide ha ?_;refine ⟨s1.heap.objs.size,[s1.heap.objs.size],fun i h=>h.IsStrIter s1.heap.objs.size "str_iterator" z t i,_,H1,rfl,I1.kept (t':=s1.toks) fun b o e=>Q9 _ e,
   Ij (fun A hA=>Walks.strWide hA _ z t) (fun i h ⟨o,ho,_,hd⟩=>⟨o,ho,fun v z=>by rw [hd] at z;cases z⟩) (fun _ _ _ _ _ st hQ=>wpAny_pyIter_striter_wide st hQ),⟨_,Zm _ rfl,rfl,rfl⟩,fun b hb=>?_,q⟩
  have e:b=s1.heap.objs.size:=by simpa using hb
  subst e;exact I1.fpOk (Ze _) fr
 ·refine wpAny_pyIter_ascii ha ?_;refine ⟨s1.heap.objs.size,[s1.heap.objs.size],fun i h=>h.IsStrIter s1.heap.objs.size "str_ascii_iterator" z t i,_,H1,rfl,I1.kept (t':=s1.toks) fun b o e=>Q9 _ e,
   Ij (fun A hA=>Walks.strAscii hA _ z t) (fun i h ⟨o,ho,_,hd⟩=>⟨o,ho,fun v z=>by rw [hd] at z;cases z⟩) (fun _ _ _ _ _ st hQ=>wpAny_pyIter_striter_ascii st hQ),⟨_,Zm _ rfl,rfl,rfl⟩,fun b hb=>?_,q⟩
  have e:b=s1.heap.objs.size:=by simpa using hb
  subst e;exact I1.fpOk (Ze _) fr
end
abbrev ForW (J:It)(g:TG)(tb:TS)(D:Ends)(σ:St)(H:Hp):Prop :=
 ∃ W:Nat->Nat->St->Hp->Prop,(∃ m,W 0 m σ H)/\∀ i m σ H,W i m σ H ->
  (J.stop i H/\D.nx σ H)\/(J.go i H/\∃ N:St->Hp->Prop,(∀ σ' H',N σ' H'->∃ m',m'<m/\W (i+1) m' σ' H')/\∀ x H',J.yld i H x H'->g x σ H' fun σ2 H2=>tb { D with nx:=N,ct:=N,bk:=D.nx } σ2 H2)
theorem for_n {J:It}{g:TG}{tb:TS}{D:Ends}{σ:St}{H:Hp}(n:Nat)(Pv:Nat->St->Hp->Prop)(h0:Pv 0 σ H)(hst:∀ σ H,Pv n σ H->J.stop n H)(hgo:∀ i σ H,i<n->Pv i σ H->J.go i H)
  (hs:∀ i σ H,i<n->Pv i σ H->∀ x H',J.yld i H x H'->g x σ H' fun σ2 H2=>tb { D with nx:=Pv (i+1),ct:=Pv (i+1),bk:=D.nx } σ2 H2) (hd:∀ σ H,Pv n σ H->D.nx σ H):ForW J g tb D σ H:=by
 refine ⟨fun i m σ H=>m=n-i/\i<=n/\Pv i σ H,⟨n,by simp,ZJ _,h0⟩,?_⟩;rintro i m σ H ⟨rfl,hi,p⟩
 by_cases hlt:i<n
 ·exact .inr ⟨hgo i σ H hlt p,Pv (i+1),fun σ' H' p'=>⟨n-(i+1),by omega,rfl,hlt,p'⟩,fun x H' y=>hs i σ H hlt p x H' y⟩
 ·have e:i=n:=by omega
  subst e;exact .inl ⟨hst σ H p,hd σ H p⟩
theorem for_str {x:Str}{g:TG}{tb:TS}{D:Ends}{σ:St}{H:Hp}(Pv:Nat->St->Hp->Prop)(h0:Pv 0 σ H)
  (hs:∀ i c σ H,x.cps[i]?=some c->Pv i σ H->g (.str ⟨#[c]⟩) σ H fun σ2 H2=>tb { D with nx:=Pv (i+1),ct:=Pv (i+1),bk:=D.nx } σ2 H2) (hd:∀ σ H,Pv x.length σ H->D.nx σ H):ForW (Its x) g tb D σ H :=
 for_n x.length Pv h0 (fun _ _ _=>rfl) (fun _ _ _ hi _=>hi) (fun i σ H hi p v H' y=>by
  obtain ⟨e,c,hc,ev⟩:=y;subst e ev;exact hs i c σ _ hc p) hd
end L2
namespace L2
open PySem PySem.Spec PyProof.Rows
section
variable {X:Cx}{elts:List Expr}{x1:Nat}{tpos:Pos}
def rSlT2 (K:ZZF):V->Option Int->Option Int->Hp->VK->Prop:=fun x lo hi H Q=>∃ a xs,x=.ref a/\SqT K H a xs/\∀ v H',(v=.ref a/\H'=H/\Uz xs lo hi=xs)\/(∃ p,H p=none/\v=.ref p/\H'=upd H p (.tup (Uz xs lo hi)))->Q v H'
end
namespace AxT
variable {prog:Program}{w:World}{A:Around}{E:Value->Shared->Prop}{s:Shared}
open HT
theorem getItem_tuple_whole {t sl:Addr}{items:Array Value}{vl vu:Value}{lo hi:Option Int}{Q:Value->Shared->Prop}(ht:IsTup s.heap t items)(hs:s.heap.IsSliceOf sl vl vu .none)(pl:IsPart vl lo)(pu:IsPart vu hi)
  (hw:sIx items.size 0 lo=0/\sIx items.size items.size hi=items.size) (h:Q (.ref t) s):wpAny (model prog w) A (getItem (.ref t) (.ref sl)) Q E s:=by
 obtain ⟨os,hos,hcs,hds⟩:=id hs;have hTs:s.TypeIs (.ref sl) "slice":=⟨os,hos,hcs⟩;unfold getItem
 try with_reducible refine Yr ?_
 first|refine Q6 (Q8 ?_)|skip
 refine Q6 (wpAny_sequenceKey ht.typeIs (by decide) ?_);refine Q6 (YG (name:=Str.ofString "__getitem__") ht.typeIs YN
  (Z6 YN ht.typeIs entry_tuple_getitem ?_ (args_tuple_getitem _ _)))
 show wpAny _ _ (Builtin.Tuple.tupleItemsOf (.ref t)>>=_) _ _ s;refine Q6 (tupleItemsOf_ ht ?_);refine Q6 (JM hTs ?_);rw [Zz (by decide)];refine Q6 (qS hs pl pu ?_);have hyes:(((sIx items.size 0 lo:Nat):Int)==0&&(1:Int)==1&&(sIx items.size items.size hi-sIx items.size 0 lo)==items.size)=true:=by
  rw [hw.1,hw.2];simp
 show wpAny _ _ (if (((sIx items.size 0 lo:Nat):Int)==0&&(1:Int)==1&&(sIx items.size items.size hi-sIx items.size 0 lo)==items.size)=true then _ else _) _ _ s;rw [Zz hyes];obtain ⟨o,ho,hc,n,hd⟩:=id ht;refine Q6 (m:=Builtin.Tuple.tupleIsExact _) ?_;unfold Builtin.Tuple.tupleIsExact;refine Q6 (JM ht.typeIs (Q8 ?_));rw [Zz (by decide)];exact Q6 (JC (Q8 ⟨_,rfl,Q8 h⟩))
end AxT
section
variable {X:Cx}
theorem sl_tup2:SlR X (rSlT2 X.K):=by
 intro pins s σ H x v vl vu lo hi sl Q I rx hs pl pu h;obtain ⟨a,xs,rfl,hx,q⟩:=h;cases rx;obtain ⟨its,r,ht,hz⟩:=I.tuple hx;have hlen:its.toArray.size=xs.length:=by rw [Zv];exact r.length.symm
 refine ⟨"tuple",_,YN.lookup,ht.typeIs,?_⟩
 by_cases hw:HT.sIx its.toArray.size 0 lo=0/\HT.sIx its.toArray.size its.toArray.size hi=its.toArray.size
 ·refine AxT.getItem_tuple_whole ht hs pl pu hw ⟨.ref a,H,I,rfl,q _ _ (.inl ⟨rfl,rfl,?_⟩)⟩;rw [hlen] at hw;unfold Uz;rw [hw.1,hw.2];simp
 ·refine HT.getItem_tuple_cut ht hs pl pu hw ?_ (by rw [hlen];exact hz);rw [hlen];refine ⟨.ref s.heap.objs.size,_,I.laid (t':=s.toks) (o:=.tup (Uz xs lo hi)) (fun b ob q=>Q9 _ q) (Ze _) ?_,rfl,q _ _ (.inr ⟨_,I.hok.fresh (Ze _),rfl,rfl⟩)⟩;exact ⟨Yb (Xl xs lo hi) hz,_,(r.drop (HT.sIx xs.length 0 lo)).take (HT.sIx xs.length xs.length hi-HT.sIx xs.length 0 lo),TupAt.new _ _⟩
structure Cal (P:Program)(w:World)(K:ZZF)(mg:Str->Option Value)(base:Heap)(k:Nat)(x:Str)(ps:List Str)(sp:Sp):Prop where
 ex:∃ (f:Addr) (fd:FuncData),FnOk P w K mg base CX0 k f fd ps sp/\mg x=some (.ref f)/\PySem.W.keepIn K (.ref f)=true/\Binds K fd ps []
theorem zJ {k:Nat}{x:Str}{ps:List Str}{sp:Sp}{e:Expr}{es:List Expr}{t:TA}{p pos:Pos}(C:Cal X.prog X.w X.K X.mg X.base k x ps sp)(hr:Room k X.A)(ha:PA X (e::es) t)(hg:Gl X x:=by rfl)
  (hdb:(x==("__debug__":Str))=false:=by decide) (he:starEach (e::es) X.env=(false,eval e X.env)::starEach es X.env:=by rfl) (hpl:(backTo pos (starEach es X.env)).any (·.1)=false:=by rfl) :
  PE X (.Call (.Name x p) (e::es) [] pos) (tCall sp [] E0 t):=by
 obtain ⟨f,fd,F,hm,hk,hb⟩:=C.ex;exact pe_call F hr hg hm hk hb .nil pass0 ha hdb he hpl
theorem Cal.mk' {P:Program}{w:World}{K:ZZF}{mg:Str->Option Value}{base:Heap}{k:Nat}{x qual:Str}{st:Stmt}{f:Addr}{fd:FuncData}{ps:List Str}{sp:Sp}(F:Fun K x qual st f fd)(G:FnOk P w K mg base CX0 k f fd ps sp)(hm:mg x=some (.ref f))
  (b:Binds K fd ps []):Cal P w K mg base k x ps sp:=⟨f,fd,G,hm,F.kp,b⟩
def KD (P:Program)(w:World)(K:ZZF)(a:Addr)(kvs:List (Key×V)):Prop:=∀ h:Heap,K.In h->∃ vs,KV kvs vs/\h.DictOf (mixKind P w) a vs
def tKGet (P:Program)(w:World)(K:ZZF)(td ty:TE):TE:=fun σ H Q=>td σ H fun x H1=>ty σ H1 fun y H2=>∃ a kvs k v,x=.ref a/\y=kV k/\KD P w K a kvs/\Uh kvs k=some v/\Q v H2
theorem pe_kget {o i:Expr}{td ty:TE}{pos:Pos}(ho:PE X o td)(hi:PE X i ty)(hs:NoSl i):PE X (.Subscript o i pos) (tKGet X.prog X.w X.K td ty):=by
 intro pins s σ H Q I h;refine By PySem.F.slot_dict_getitem.lookup hs (thn (ho pins s σ H _ I h) fun u s1 ⟨x,H1,I1,rx,q1⟩=>thn (hi pins s1 σ H1 _ I1 q1) fun iv s2 ⟨y,H2,I2,ry,a,kvs,k,v,ex,ey,kd,l,q2⟩=>?_);subst ex ey;obtain rfl:u=Value.ref a:=rx;obtain ⟨vs,rel,dd⟩:=kd _ I2.kIn;obtain ⟨w',hw,rw'⟩:=RelO.some_of (v:=v) (o:=valueAt vs k) (by rw [←l];exact rel.val k);exact ⟨dd.typeIs,wpAny_getItem_of (Xn ry) dd.mapOf hw ⟨v,H2,I2.tok _,rw',q2⟩⟩
theorem call_isinst:CallR X (.builtin "isinstance") (fun xs H Q=>∃ y T t b,xs=[y,.ty T]/\TyOf X.K H y t/\PySem.W.kitOne X.K t (.type T)=some b/\Q (.bl b) H):=by
 intro pins s σ H xs us Q I r h;obtain ⟨y,T,t,b,rfl,ty,kt,q⟩:=h;obtain ⟨u,w',rfl,ru,rw'⟩:=vals2 r;cases (show w'=Value.type T from rw');exact qJ I ru ty kt fun tk=>⟨.bl b,H,I.tok _,rfl,q⟩
end
end L2
namespace L2
open PySem PySem.Spec PyProof.Rows
theorem ObjOk.there {P:Program}{w:World}{H:Hp}{h:Heap}{a:Addr}{o:HO}(x:ObjOk P w H h a o):∃ ob,h.get? a=some ob:=by
 cases o with
 | lst xs=>obtain ⟨_,_,_,_,e⟩:=x;exact ⟨_,e⟩
 | tup xs=>obtain ⟨_,_,_,ob,e,_⟩:=x;exact ⟨_,e⟩
 | dK kvs=>obtain ⟨_,_,_,_,ob,_,_,e,_⟩:=x;exact ⟨_,e⟩
 | dT kvs=>obtain ⟨_,_,_,_,ob,_,_,e,_⟩:=x;exact ⟨_,e⟩
 | set S n=>obtain ⟨ob,_,_,_,e,_⟩:=x;exact ⟨_,e⟩
 | ins C dx fs=>obtain ⟨_,_,_,e,_⟩:=x;exact ⟨_,e⟩
 | own y=>exact x
 | xd fs=>obtain ⟨_,⟨_,_,_,e,_⟩,_⟩:=x;exact ⟨_,e⟩
 | rng lo hi=>obtain ⟨_,_,_,e⟩:=x;exact ⟨_,e⟩
 | frz ob u=>obtain ⟨e,_⟩:=x;exact ⟨_,e⟩
 | tbl ps=>exact ⟨_,(show h.get? a=some _ from x)⟩
 | met f y=>exact ⟨_,(show h.get? a=some _ from x)⟩
 | ext φ=>obtain ⟨_,e,_⟩:=x;exact e
def ctx0 (vs:Array Value):Prop:=vs[2]?=some .none
theorem Xe:G1 ctx0:=fun vs v h=>by
 show (vs.setIfInBounds 1 v)[2]?=some .none;rw [Array.getElem?_setIfInBounds_ne (by decide)];exact h
def ExcAt (h:Heap)(a T:Addr)(cls:Value):Prop :=
 ∃ oe vs oT ts,h.get? a=some oe/\(oe.cls=cls/\ctx0 vs)/\oe.data=.fields vs/\vs[1]?=some (.ref T)/\T≠a/\h.get? T=some oT/\oT.data=.fields ts/\ts[3]?=some .none
def CXF (P:Program)(w:World):CXT:=fun outer H s E e s'=>∃ a T cls H',e=.ref a/\s'.os=s.os/\AllBare s'.gens/\Un (frs outer) [] H H' s.heap s'.heap/\HOk P w H' s'.heap /\
 s.heap.get? a=none/\s.heap.get? T=none/\H' a=none/\H' T=none/\ExcAt s'.heap a T cls/\E cls none H'
section
variable {X:Cx}{pins:List (Addr×Obj)}{σ:St}{H:Hp}{s:Shared}
theorem Inv.none_of (I:Inv X pins σ H s){a:Addr}(e:s.heap.get? a=none):H a=none:=by
 cases q:H a with
 | none=>rfl
 | some u =>
  obtain ⟨ob,z⟩:=(I.hok a u q).there;rw [e] at z;cases z
theorem Inv.old_none (I:Inv X pins σ H s)(hex:X.ex=[]){a:Addr}(e:s.heap.get? a=none):X.s₀.heap.get? a=none:=by
 cases q:X.s₀.heap.get? a with
 | none=>rfl
 | some o =>
  obtain ⟨ob,z⟩:=I.base.there a o q (by rw [hex];simp);rw [e] at z;cases z
abbrev UG (h:Heap)(as:List Addr)(l:List Env):Heap:=PySem.W.hideAll h (as++frs l)
theorem j3 {h:Heap}{as:List Addr}{base:Heap}{l:List Env}(f:h.FunFrames base l):h.FunFrames (UG h as l) l :=
 PySem.W.funFrames_hide f fun env he b hb=>ZK _ (Jk.mpr ⟨env,he,hb⟩)
theorem jU {h:Heap}{as:List Addr}{l:List Env}:(UG h as l).StaysIn h:=fun _ _ q=>PySem.W.of_hideAll _ q
theorem Bb (hst:X.stack=X.env::X.outer)(hfr:X.env.frame=some X.env.locals)(hex:X.ex=[])(I:Inv X pins σ H s){e:Addr}{cls:Value}{args:List Value}{h':Heap}(hx:Heap.MadeExcOf s.heap h' e cls args){E:XK}(q:E cls none H)
  {Ex:Value->Shared->Prop}:wpAny (model X.prog X.w) X.A (leaving X.env (.ref e)) (fun _ s''=>CXF X.prog X.w X.outer X.H₀ X.s₀ E (.ref e) s'') Ex { s with heap:=h' }:=by
 have fr:=j3 (as:=[]) I.stack;have hA:X.A.frames=some (X.env::X.outer):=by rw [I.ok.frames,hst]
 obtain ⟨t,he,htn,ht⟩:=hx.there;have fresh:∀ b,s.heap.get? b=none->(UG s.heap [] X.stack).get? b=none:=fun b hb=>by
  cases hq:(UG s.heap [] X.stack).get? b with
  | none=>rfl
  | some o'=>have:=jU b o' hq;rw [hb] at this;cases this
 rw [hst] at fr;refine B7 (base:=UG s.heap [] X.stack) (q:=ctx0) Xe hA ((by rw [hst];exact fr:s.heap.FunFrames (UG s.heap [] X.stack) (X.env::X.outer)).of_keeps fun b o hb _=>⟨o,hx.keeps b o hb,rfl⟩) hfr he (fun b o hb=>hx.keeps b o (jU b o hb)) (fresh e hx.new) rfl rfl rfl fun h2 k1 k2 L k4=>?_;obtain ⟨oe,vs,T,oT,ts,t1,t2,t3,t4,t5,t6,t7,t8,t9⟩:=L;have stk:∀ b∈frs X.stack,H b=none:=I.stkFree;have kp:∀ b o,s.heap.get? b=some o->b∉frs X.stack->h2.get? b=some o:=fun b o e hb=>k1 b o (YX _ e (by simpa using hb));have sl:∀ b o,s.heap.get? b=some o->b∈frs X.stack->∃ sl,h2.get? b=some { o with slots:=sl }:=fun b o e hb=>by
  obtain ⟨_,o',ho',hd⟩:=I.stack.mem hb;rw [e] at ho';cases ho';exact k4 b o (hx.keeps b o e) hd
 have nL:∀ b o,X.s₀.heap.get? b=some o->b≠X.env.locals:=fun b o e=>Zu (ZD (Zp e) I.ok.above);have nex:∀ b,b∉X.ex:=fun b=>by rw [hex];simp
 have nT:s.heap.get? T=none:=by
  cases qT:s.heap.get? T with
  | none=>rfl
  | some o =>
   exfalso
   by_cases hT:T∈frs X.stack
   ·have k2':h2.FunFrames (UG s.heap [] X.stack) X.stack:=by have z:=k2;rw [←hst] at z;exact z
    obtain ⟨_,o',ho',hd⟩:=k2'.mem hT;rw [t7] at ho';cases ho';exact hd _ t8
   ·have z:(UG s.heap [] X.stack).get? T=some o:=YX _ qT (by simpa using hT);rw [t5] at z;cases z
 refine ⟨e,T,cls,H,rfl,I.os,I.bare,⟨fun b o e1 n hb _=>?_,fun b o e1 n hb _=>?_,fun b o e1 n _=>I.base.free b o e1 n (nex b),fun b o e1 _=>?_,I.base.tups,I.base.frzs,I.base.tbls⟩,fun b u e1=>?_,I.old_none hex hx.new,I.old_none hex nT,I.none_of hx.new,I.none_of nT,⟨oe,vs,oT,ts,t1,t2,t3,t4,t6,t7,t8,t9⟩,q⟩
 ·refine kp b o (I.base.keep b o e1 n hb (nex b)) fun z=>?_
  rcases Zi.mp (I.stkSub b z) with r|r
  ·exact nL b o e1 r
  ·exact hb r
 ·obtain ⟨sl1,e2⟩:=I.base.slot b o e1 n hb (nex b)
  by_cases hz:b∈frs X.stack
  ·obtain ⟨sl2,e3⟩:=sl b _ e2 hz;exact ⟨sl2,e3⟩
  ·exact ⟨sl1,kp b _ e2 hz⟩
 ·obtain ⟨o',e2⟩:=I.base.there b o e1 (nex b)
  by_cases hz:b∈frs X.stack
  ·obtain ⟨sl2,e3⟩:=sl b _ e2 hz;exact ⟨_,e3⟩
  ·exact ⟨o',kp b _ e2 hz⟩
 ·refine (I.hok b u e1).stay (fun c v hc r=>kp c v r fun z=>?_) (fun _ r=>r) fun _ _ r=>r;have hz:=stk c z
  rcases hc with y|y
  ·rw [y,e1] at hz;cases hz
  ·rw [y] at hz;cases hz
end
theorem exc_of_in {K:ZZF}{h:Heap}{C:Addr}{bmB:List Value}{newId:String}(X:K.In h)(q:PySem.W.excIn K C bmB newId=true) :
  ∃ bm N nm q bs hdct sn sub ab col dd k0 k1 k2 k3 k5 mN,h.get? C=some (excClassObj nm q C N bs bm hdct sn sub ab col dd k0 k1 k2 k3 k5 newId)/\h.Ns N mN/\mN "__init__"=none/\OwnTail h bmB bm:=by
 unfold PySem.W.excIn at q
 split at q
 ·rename_i dd cd sl ho
  split at q
  ·rename_i C' bm k0 k1 k2 k3 n k5 hm hs;simp only [Zg,Jl,Vf] at q;obtain ⟨⟨⟨⟨⟨rfl,rfl⟩,hdel⟩,ht⟩,hok⟩,hni⟩:=q;obtain ⟨nm,bs,mro,ns,qn,hd,sn,sub,ab,col,del⟩:=cd;dsimp only at hm hdel hok hni;subst hm hdel;have hsl:sl=#[k0,k1,k2,k3,some (.builtin n),k5]:=by
    obtain ⟨l⟩:=sl;simp only at hs;rw [hs]
   subst hsl;exact ⟨bm,ns,nm,qn,bs,hd,sn,sub,ab,col,dd,k0,k1,k2,k3,k5,_,X _ _ ho,.of_isNs (PySem.W.isNs_of_in X hok),PySem.W.nsMap_none_of_in X hok hni,PySem.W.tail_of_in X ht⟩
  ·cases q
 ·cases q
abbrev US:List Value:=[.type "ValueError",.type "Exception",.type "BaseException",.type "object"]
def Throws (X:Cx)(R:St->Hp->Value->Prop):Prop:=∀ (pins:List (Addr×Obj)) (σ:St) (H:Hp) (s:Shared) (e:Addr) (cls:Value) (args:List Value) (h':Heap),Inv X pins σ H s->Heap.MadeExcOf s.heap h' e cls args->R σ H cls->X.xe (.ref e) { s with heap:=h' }
def tRaise (C:Addr)(R:St->Hp->Value->Prop)(t:TA):TS:=fun _ σ H=>t σ H fun vs H1=>vs.length<=sizeLine/\R σ H1 (.ref C)
section
variable {X:Cx}
theorem x9 {x:Str}{C:Addr}{e₀:Expr}{rest:List Expr}{np cpos pos:Pos}{R:St->Hp->Value->Prop}{t:TA}(hc:X.calm=true)(ht:Throws X R)(hg:Gl X x)(hm:X.mg x=some (.ref C))(hex:PySem.W.excIn X.K C US "ValueError.__new__"=true)(ha:PA X (e₀::rest) t)
  (he:starEach (e₀::rest) X.env=(false,eval e₀ X.env)::starEach rest X.env:=by rfl) (hplain:(backTo cpos (starEach rest X.env)).any (·.1)=false:=by rfl) (hd:(x==("__debug__":Str))=false:=by decide) :
  PS X (.Raise (some (.Call (.Name x np) (e₀::rest) [] cpos)) none pos) (tRaise C R t):=by
 intro pins s σ H D I h;obtain ⟨tl,N,nm,q,bs,hdct,sn,sub,ab,col,dd,k0,k1,k2,k3,k5,mN,hC,hN,hni,T⟩:=exc_of_in I.ok.mod.kin hex;refine wpAny_Raise_call_subU (C:=C) (nm:=nm) (q:=q) (N:=N) (bs:=bs) (bm:=tl) (hdct:=hdct) (sn:=sn) (sub:=sub) (ab:=ab) (col:=col) (dd:=dd) (k0:=k0) (k1:=k1) (k2:=k2) (k3:=k3) (k5:=k5)
  F.excBase_ValueError (by decide +kernel) F.excBase_ValueError (mN:=mN) (T.hasType F.excBase_ValueError.hasBase) (I.ok.hd hc) (by rw [he];show (false||(backTo cpos (starEach rest X.env)).any (·.1))=false;rw [hplain];rfl) hni (uB I hg hm ⟨rfl,?_⟩ hd)
 have ha':=ha cpos pins s σ H _ I h;rw [he] at ha' ⊢;exact Calls.evalArgs_plain (Yn ha' (fun us s₂ ⟨vs,H2,I2,r2,z2,q2⟩=>⟨rfl,by rw [←r2.length];exact z2,I2.bk _ _ hC,hN.keeps I2.bk,T.keeps I2.bk,fun h' e hm'=>ht pins σ H2 s₂ e _ _ h' I2 hm' q2⟩) fun _ _ y=>y)
theorem xL {P:Program}{w:World}{K:ZZF}{mg:Str->Option Value}{base:Heap}{N:List Str}{qual:Str}{scope:Scope}{f:Addr}{cd:Value}{A:Around}{outer:List Env}{s:Shared}{H:Hp}{E:XK} :
  Throws (Iy (CXF P w) P w K mg base N qual scope f cd A outer s H E) (fun _ H' cls=>E cls none H') :=
 fun _ _ _ _ _ _ _ _ I hx q=>Bb rfl rfl rfl I hx q
end
def Raises (X:Cx)(R:St->Hp->Value->Prop):Prop:=∀ (pins:List (Addr×Obj)) (σ:St) (H:Hp) (s:Shared) (e:Value) (s':Shared),Inv X pins σ H s->CXF X.prog X.w X.stack H s (fun cls _ H'=>R σ H' cls) e s'->X.xe e s'
def tCallX (sp:Sp)(R:St->Hp->Value->Prop)(t:TA):TE:=fun σ H Q=>t σ H fun vs H1=>sp vs H1 Q (fun cls _ H'=>R σ H' cls)
section
variable {X:Cx}{k:Nat}{f:Addr}{fd:FuncData}{ps:List Str}{sp:Sp}{x:Str}{p pos:Pos}{e:Expr}{es:List Expr}{t:TA}{R:St->Hp->Value->Prop}
theorem run_fnX {pins:List (Addr×Obj)}{σ:St}{H:Hp}{s:Shared}{Q:VK}{us:List Value}{vs:List V}(F:FnOk X.prog X.w X.K X.mg X.base (CXF X.prog X.w) k f fd ps sp)(hr:Room k X.A)(hb:Binds X.K fd ps [])(hx:Raises X R)
  (I:Inv X pins σ H s) (r:Vals vs us) (h:sp vs H Q (fun cls _ H'=>R σ H' cls)):wpAny (model X.prog X.w) X.A (call (.ref f) us) (EP X pins σ Q) X.xe s:=by
 have hl:us.length=ps.length:=by rw [←r.length];exact F.len _ _ _ _ h
 have hb':=hb s us I.kIn (by simpa using hl);rw [ZF] at hb';refine V2 (Y0 (F.run X.A X.stack s H ⟨us,[]⟩ us vs Q _ hr I.env0 hb' r h) fun r s' hq=>?_);cases r with
 | error e=>exact hx pins σ H s e s' I hq
 | ok fl =>
  cases fl with
  | ret u=>exact I.after hq
  | next=>exact False.elim hq
  | brk=>exact False.elim hq
  | cont=>exact False.elim hq
structure CalX (P:Program)(w:World)(K:ZZF)(mg:Str->Option Value)(base:Heap)(k:Nat)(x:Str)(ps:List Str)(sp:Sp):Prop where
 ex:∃ (f:Addr) (fd:FuncData),FnOk P w K mg base (CXF P w) k f fd ps sp/\mg x=some (.ref f)/\PySem.W.keepIn K (.ref f)=true/\Binds K fd ps []
theorem yB (C:CalX X.prog X.w X.K X.mg X.base k x ps sp)(hr:Room k X.A)(hx:Raises X R)(ha:PA X (e::es) t)(hg:Gl X x:=by rfl)
  (hdb:(x==("__debug__":Str))=false:=by decide) (he:starEach (e::es) X.env=(false,eval e X.env)::starEach es X.env:=by rfl) (hpl:(backTo pos (starEach es X.env)).any (·.1)=false:=by rfl) :
  PE X (.Call (.Name x p) (e::es) [] pos) (tCallX sp R t):=by
 obtain ⟨f,fd,F,hm,hk,hb⟩:=C.ex;intro pins s σ H Q I h;refine Y4 (uB I hg hm ?_ hdb);refine Jm (h₀:=X.base) I.ok.mod.kin hk (thn (ha pos pins s σ H _ I h) fun us s1 ⟨vs,H1,I1,r,q⟩=>⟨I1.kIn,?_⟩) he hpl;exact run_fnX F hr hb hx I1 r q
end
end L2
namespace L2
open PySem PySem.Spec PyProof.Rows
def Fr1 (X:Cx)(pins:List (Addr×Obj))(H:Hp)(b:Addr):Prop :=
 H b=none/\X.s₀.heap.get? b=none/\b≠X.env.locals/\(∀ x c,X.env.cells.lookup x=some c->c≠b)/\∀ p∈X.pn++pins,p.1≠b
section
variable {X:Cx}{pins pins':List (Addr×Obj)}{σ:St}{H:Hp}{s:Shared}{h':Heap}{R:St->Hp->Value->Prop}
theorem Inv.fr1 (I:Inv X pins σ H s)(hex:X.ex=[]){H':Hp}{b:Addr}(e:s.heap.get? b=none)(n:H' b=none):Fr1 X pins H' b:=by
 refine ⟨n,I.old_none hex e,fun z=>?_,fun x c q z=>?_,fun p hp z=>?_⟩
 ·obtain ⟨m,⟨o,_,_,ho,_⟩,_⟩:=I.loc;rw [←z,e] at ho;cases ho
 ·obtain ⟨v,o,ho,_⟩:=I.cell x c q;rw [z,e] at ho;cases ho
 ·have ho:=(I.pin p hp).1;rw [z,e] at ho;cases ho
theorem Inv.land {ch:List Addr}(I:Inv X pins σ H s)(hch:∀ b∈ch,Fr1 X pins H b)(k1:(UG s.heap ch X.stack).StaysIn h')(k2:s.heap.UpToSlots h')(tk:Nat):Inv X pins σ H { s with heap:=h',toks:=tk }:=by
 have kp:∀ b o,s.heap.get? b=some o->b∉ch->b∉frs X.stack->h'.get? b=some o:=fun b o e hc hb=>k1 b o (YX _ e (by
  intro z
  rcases Zs.mp z with z|z
  ·exact hc z
  ·exact hb z))
 have any:∀ b o,s.heap.get? b=some o->b∉ch->∃ sl,h'.get? b=some { o with slots:=sl }:=fun b o e hc=>by
  by_cases hb:b∈frs X.stack
  ·obtain ⟨_,o',ho',hd⟩:=I.stack.mem hb;rw [e] at ho';cases ho';exact k2 b o e hd
  ·exact ⟨o.slots,kp b o e hc hb⟩
 have nst:∀ b,b≠X.env.locals->b∉X.fs->b∉frs X.stack:=fun b h1 h2 z=>(Zi.mp (I.stkSub b z)).elim h1 h2;have nL:∀ b o,X.s₀.heap.get? b=some o->b≠X.env.locals:=fun b o e=>Zu (ZD (Zp e) I.ok.above);have nch:∀ b o,X.s₀.heap.get? b=some o->b∉ch:=fun b o e z=>by rw [(hch b z).2.1] at e;cases e
 have cellK:∀ c v,s.heap.IsCell c v->h'.IsCell c v:=fun c v ⟨o,ho,hd⟩=>by
  obtain ⟨sl,e⟩:=k2 c o ho fun vs z=>by rw [hd] at z;cases z
  exact ⟨_,e,hd⟩
 refine ⟨I.ok,I.os,I.bare,⟨fun b o e n hb hx=>?_,fun b o e n hb hx=>?_,I.base.free,fun b o e hx=>?_,I.base.tups,I.base.frzs,I.base.tbls⟩,?_,fun x c e=>?_,I.free,I.freeC,fun p hp=>?_,fun b u e=>?_,I.len⟩
 ·exact kp b o (I.base.keep b o e n hb hx) (nch b o e) (nst b (nL b o e) hb)
 ·obtain ⟨sl,e1⟩:=I.base.slot b o e n hb hx;obtain ⟨sl',e2⟩:=any b _ e1 (nch b o e);exact ⟨sl',e2⟩
 ·obtain ⟨o',e1⟩:=I.base.there b o e hx;obtain ⟨sl',e2⟩:=any b _ e1 (nch b o e);exact ⟨_,e2⟩
 ·obtain ⟨m,hn,hl⟩:=I.loc;refine ⟨m,k2.ns hn,fun i x v e1 e2 e3=>?_⟩;obtain ⟨u,r,l⟩:=hl i x v e1 e2 e3;refine ⟨u,r,?_⟩
  rcases l with l|⟨k,c,e,z⟩
  ·exact .inl l
  ·exact .inr ⟨k,c,e,cellK c _ z⟩
 ·obtain ⟨v,z⟩:=I.cell x c e;exact ⟨v,cellK c v z⟩
 ·obtain ⟨e,n,ne,nf,d⟩:=I.pin p hp;exact ⟨kp _ _ e (fun z=>(hch _ z).2.2.2.2 p hp rfl) (nst _ ne nf),n,ne,nf,d⟩
 ·refine (I.hok b u e).stay (fun c v hc r=>kp c v r (fun z=>?_) fun z=>?_) (fun _ r=>r) fun _ _ r=>r
  ·have hz:=(hch c z).1
   rcases hc with y|y
   ·rw [y,e] at hz;cases hz
   ·rw [y] at hz;cases hz
  ·have hz:=I.stkFree c z
   rcases hc with y|y
   ·rw [y,e] at hz;cases hz
   ·rw [y] at hz;cases hz
theorem Inv.takeUp2 {T:Addr}{o:HO}(I:Inv X pins σ H s)(f:Fr1 X pins H T)(new:ObjOk X.prog X.w (upd H T o) s.heap T o):Inv X pins σ (upd H T o) s:=by
 obtain ⟨n,h0,hL,hc,hp⟩:=f;refine ⟨I.ok,I.os,I.bare,I.base.adopt2 h0 n,I.loc,I.cell,?_,fun x c e=>?_,fun p hpp=>?_,I.hok.adopt n new,I.len⟩
 ·rw [zH (Ne.symm hL)];exact I.free
 ·rw [zH (hc x c e)];exact I.freeC x c e
 ·obtain ⟨e,n',ne,nf,d⟩:=I.pin p hpp;exact ⟨e,by rw [zH (hp p hpp)];exact n',ne,nf,d⟩
def Cx.tryc (X:Cx)(pins:List (Addr×Obj))(R:St->Hp->Value->Prop):Cx :=
 { X with pn:=X.pn++pins,xe:=fun e s'=>∃ a T cls σ H,e=.ref a/\Inv X pins σ H s'/\Fr1 X pins H a/\Fr1 X pins H T/\ExcAt s'.heap a T cls/\R σ H cls }
theorem Inv.into (I:Inv X pins σ H s)(R:St->Hp->Value->Prop):Inv (X.tryc pins R) [] σ H s :=
 ⟨⟨I.ok.mod,I.ok.kind,I.ok.glob,I.ok.blt,I.ok.above,I.ok.inj,I.ok.has,I.ok.cab,I.ok.hd,I.ok.frames,I.ok.stk,I.ok.exf,I.ok.bs,I.ok.bsz,I.ok.noex,I.ok.exfs,I.ok.funs,I.ok.frf⟩,I.os,I.bare,I.base,I.loc,I.cell,I.free,I.freeC,fun p hp=>I.pin p (by
  have hp:p∈(X.pn++pins)++[]:=hp;simpa using hp),I.hok,I.len⟩
theorem Inv.outof (I:Inv (X.tryc pins R) pins' σ H s):Inv X pins σ H s :=
 ⟨⟨I.ok.mod,I.ok.kind,I.ok.glob,I.ok.blt,I.ok.above,I.ok.inj,I.ok.has,I.ok.cab,I.ok.hd,I.ok.frames,I.ok.stk,I.ok.exf,I.ok.bs,I.ok.bsz,I.ok.noex,I.ok.exfs,I.ok.funs,I.ok.frf⟩,I.os,I.bare,I.base,I.loc,I.cell,I.free,I.freeC,fun p hp=>I.pin p (Z5 _ hp),I.hok,I.len⟩
theorem SP.outof {D:Ends}{f:Flow}{s':Shared}(h:SP (X.tryc pins R) pins' D f s'):SP X pins D f s':=by
 cases f with
 | next=>obtain ⟨σ',H',I,q⟩:=h;exact ⟨σ',H',I.outof,q⟩
 | brk=>obtain ⟨σ',H',I,q⟩:=h;exact ⟨σ',H',I.outof,q⟩
 | cont=>obtain ⟨σ',H',I,q⟩:=h;exact ⟨σ',H',I.outof,q⟩
 | ret u=>obtain ⟨v,σ',H',I,r,q⟩:=h;exact ⟨v,σ',H',I.outof,r,q⟩
theorem Xp (hex:X.ex=[]):Raises (X.tryc pins R) R:=by
 intro pins' σ H s e s' I hx;obtain ⟨a,T,cls,H',rfl,os,bare,un,hok,na,nT,ha,hT,ea,q⟩:=hx;have I0:Inv X pins σ H s:=I.outof;have I1:Inv X pins σ H' s':=I0.call' (ch:=[]) os un hok bare fun b z=>absurd z (by simp);exact ⟨a,T,cls,σ,H',rfl,I1,I0.fr1 hex na ha,I0.fr1 hex nT hT,ea,q⟩
def Cx.inexc (X:Cx)(e:Value):Cx:={ X with A:=X.A.mark (some e),calm:=false,xe:=fun _ _=>False }
theorem Inv.mark (I:Inv X pins σ H s)(e:Value):Inv (X.inexc e) pins σ H s :=
 ⟨⟨I.ok.mod,I.ok.kind,I.ok.glob,I.ok.blt,I.ok.above,I.ok.inj,I.ok.has,I.ok.cab,fun z=>(by cases z),I.ok.frames,I.ok.stk,I.ok.exf,I.ok.bs,I.ok.bsz,I.ok.noex,I.ok.exfs,I.ok.funs,I.ok.frf⟩,I.os,I.bare,I.base,I.loc,I.cell,I.free,I.freeC,I.pin,I.hok,I.len⟩
theorem Inv.unmark {e:Value}(ok:X.Ok)(I:Inv (X.inexc e) pins σ H s):Inv X pins σ H s :=
 ⟨ok,I.os,I.bare,I.base,I.loc,I.cell,I.free,I.freeC,I.pin,I.hok,I.len⟩
end
def XY (a:Addr)(cls:Value):HO:=.ext fun h=>∃ o vs,h.get? a=some o/\o.cls=cls/\o.data=.fields vs/\ctx0 vs
section
variable {X:Cx}
def tTry0 (K:ZZF)(C:Addr)(tb:(St->Hp->Value->Prop)->TS)(th:TS):TS:=fun D σ H=>∃ R:St->Hp->Value->Prop,tb R D σ H /\
 ∀ σ' H' cls a,R σ' H' cls->H' a=none->PySem.W.exmOne K cls (.ref C)=some true/\th D σ' (upd H' a (XY a cls))
theorem ps_try0 {body suite:List Stmt}{hs':List ExceptHandler}{b₀:Stmt}{c:Str}{C:Addr}{np hpos pos:Pos}{tb:(St->Hp->Value->Prop)->TS}{th:TS}(hst:X.stack=X.env::X.outer)(hfr:X.env.frame=some X.env.locals)(hex:X.ex=[])
  (hb:∀ pins R,PSs (X.tryc pins R) body (tb R)) (hg:Gl X c) (hm:X.mg c=some (.ref C)) (hs:∀ e,PSs (X.inexc e) (b₀::suite) th)
  (hd:(c==("__debug__":Str))=false:=by decide):PS X (.Try body (.ExceptHandler (some (.Name c np)) none (b₀::suite) hpos::hs') [] [] pos) (tTry0 X.K C tb th):=by
 intro pins s σ H D I h;obtain ⟨R,hb1,hh⟩:=h;refine wpAny_Try_except (Yn (hb pins R [] s σ H D (I.into R) hb1) (fun f s1 q=>?_) fun e s1 q=>?_)
 ·have q':SP X pins D f s1:=q.outof;cases f with
  | next=>exact VC q'
  | brk=>exact q'
  | cont=>exact q'
  | ret u=>exact q'
 ·obtain ⟨a,T,cls,σ1,H1,rfl,I1,fa,fT,⟨oe,vs,oT,ts,e1,e2,e3,e4,e5,e6,e7,e8⟩,r1⟩:=q;obtain ⟨hx,hth⟩:=hh σ1 H1 cls a r1 fa.1;have hA:X.A.frames=some (X.env::X.outer):=by rw [I1.ok.frames,hst]
  have hch:∀ b∈[a,T],Fr1 X pins H1 b:=fun b z=>by
   rcases Zi.mp z with z|z
   ·rw [z];exact fa
   ·rw [Q7.mp z];exact fT
  have fl3:s1.heap.FunFrames (UG s1.heap [a,T] X.stack) (X.env::X.outer):=by have z:=j3 (as:=[a,T]) I1.stack;rw [hst] at z ⊢;exact z
  have fly:Trc ctx0 s1.heap (UG s1.heap [a,T] X.stack) a cls .none:=⟨oe,vs,T,oT,ts,e1,e2,e3,e4,JA _ (by simp),e5,e6,e7,e8⟩;refine note_on Xe hA fl3 hfr fly jU (JA _ (by simp)) fun h2 g1 g2 held2 sm2=>?_;refine qN (s:={ s1 with heap:=h2 }) g1 g2 held2 fun h3 st3 ff3 fly3 sm3=>?_;have I3:Inv X pins σ1 H1 { s1 with heap:=h3 }:=I1.land hch st3 (sm2.trans sm3) s1.toks;refine wpAny_handleBy_cons (codeAny_handlers_test ?_) (by intro z;cases z);refine uB (X:=X.inexc (.ref a)) (I3.mark _) hg hm ?_ hd;obtain ⟨ob,_,_,_,_,hob,⟨hobc,_⟩,_⟩:=id fly3;have LT:PySem.W.Looks (model X.prog X.w) h3 (typeOf (.ref a)) cls:=hobc▸(PySem.W.Looks.ld hob).andThen .now;refine (PySem.W.exm_one (K:=X.K) (h:=h3) I3.kIn LT hx).here ?_;refine codeAny_handlers_suite (qN (s:={ s1 with heap:=h3 }) st3 ff3 fly3 fun h4 st4 ff4 fly4 sm4=>?_);have I4:Inv X pins σ1 H1 { s1 with heap:=h4 }:=I1.land hch st4 ((sm2.trans sm3).trans sm4) s1.toks;have new:ObjOk X.prog X.w (upd H1 a (XY a cls)) h4 a (XY a cls):=by
   obtain ⟨oe4,vs4,_,_,_,g1,⟨g2,gc⟩,g3,_⟩:=fly4;exact ⟨⟨oe4,vs4,g1,g2,g3,gc⟩,⟨oe4,g1⟩,fun u1 u2 ⟨o,v,z1,z2,z3⟩ k=>⟨o,v,k o z1,z2,z3⟩⟩
  have I5:Inv X pins σ1 (upd H1 a (XY a cls)) { s1 with heap:=h4 }:=I4.takeUp2 fa new;refine Yn (hs (.ref a) pins _ _ _ _ (I5.mark _) hth) (fun f s7 q7=>?_) fun _ _ z=>z.elim;cases f with
  | ret u=>obtain ⟨v,σ7,H7,I7,rv,q⟩:=q7;exact ⟨v,σ7,H7,I7.unmark I1.ok,rv,q⟩
  | next=>obtain ⟨σ7,H7,I7,q⟩:=q7;exact ⟨σ7,H7,I7.unmark I1.ok,q⟩
  | brk=>obtain ⟨σ7,H7,I7,q⟩:=q7;exact ⟨σ7,H7,I7.unmark I1.ok,q⟩
  | cont=>obtain ⟨σ7,H7,I7,q⟩:=q7;exact ⟨σ7,H7,I7.unmark I1.ok,q⟩
end
end L2
namespace L2
open PySem PySem.Spec PyProof.Rows
section
variable {P:Program}{w:World}{K:ZZF}{mg:Str->Option Value}{base:Heap}
theorem Fun.okX {x qual:Str}{st:Stmt}{f:Addr}{fd:FuncData}{N ps:List Str}{k:Nat}{sp:Sp}(F:Fun K x qual st f fd)(S:FnScope N ps (zG st))(len:∀ vs H Q E,sp vs H Q E->vs.length=ps.length)
  (hbody:∀ (cdv:Value) (A:Around) (outer:List Env) (s:Shared) (H:Hp) (vs:List V) (Q:VK) (E:XK),Room k (A.deeper (envOfC qual (zG st) s.heap.objs.size f cdv))->sp vs H Q E ->
   ∃ t,PSs (Iy (CXF P w) P w K mg base N qual (zG st) f cdv A outer s H E) (xM st) t/\t { nx:=fun _ H'=>Q .non H',rt:=Q } (start N vs) H):FnOk P w K mg base (CXF P w) (k+1) f fd ps sp:=by
 obtain ⟨oc,od,kV,doc,pm,an,cdv,ct,osl,rfl,lk,hcd⟩:=F.ex;refine fn_of lk hcd S len fun A outer s H vs Q E hr hsp=>?_;obtain ⟨t,h,q⟩:=hbody cdv A outer s H vs Q E hr hsp;exact ⟨t,h,q⟩
end
end L2
namespace L2
open PySem PySem.Spec PyProof.Rows
section
variable {X:Cx}{a:Expr}{ta:TE}{K:ZZF}
def tTru (K:ZZF)(ta:TE):TT:=fun σ H Q=>ta σ H fun x H'=>∃ k,TruV K x H' k/\Q k H'
theorem zX (ha:PE X a ta)(he:∀ whole,isTrue a X.env whole=(do let v ←whole;standAt a.pos;holding [v] (truthy v)))(hK:X.K=K:=by rfl):PT X a (tTru K ta):=by
 subst hK;exact pt_truth ha he
def rIsi (K:ZZF):List V->Hp->VK->Prop:=fun xs H Q=>∃ y T t b,xs=[y,.ty T]/\TyOf K H y t/\PySem.W.kitOne K t (.type T)=some b/\Q (.bl b) H
theorem Bs (hK:X.K=K:=by rfl):CallR X (.builtin "isinstance") (rIsi K):=by
 subst hK;exact call_isinst
end
end L2
namespace An
open PySem L2
abbrev cs (x:Str):List Nat:=x.cps.toList
theorem cs_inj {x y:Str}(h:cs x=cs y):x=y:=by
 obtain ⟨a⟩:=x;obtain ⟨b⟩:=y;have:a=b:=by simpa using h
 rw [this]
theorem cs_append (x y:Str):cs (x++y)=cs x++cs y:=by
 show (x.cps++y.cps).toList=_;simp
theorem length_cs (x:Str):x.length=(cs x).length:=by simp [Str.length]
theorem len_append (x y:Str):(x++y).length=x.length+y.length:=by rw [length_cs,length_cs,length_cs,cs_append,Zh]
theorem uF:∀ xs:List Str,cs (Str.join "" xs)=xs.flatMap cs
 | []=>rfl
 | [x]=>by show cs x=_;simp
 | x::y::r=>by
  show cs (x++""++Str.join "" (y::r))=_;have:cs ("":Str)=[]:=by decide +kernel
  rw [cs_append,cs_append,uF (y::r),this,ZF];simp
theorem xP:∀ (a b:List Str),PyData.eqvAll (a.map .str) (b.map .str)=decide (a=b)
 | [],[]=>rfl
 | [],_::_=>rfl
 | _::_,[]=>rfl
 | x::a,y::b=>by
  show ((x==y)&&PyData.eqvAll (a.map .str) (b.map .str))=_;rw [xP a b,ZU];simp
structure Ok (n:Nat)(x:Str):Prop where
 len:x.length<=n
 ok:PyData.strOk x=true
theorem xC (x:Str):PyData.strOk x=true↔∀ c∈cs x,c<1114112:=by
 unfold PyData.strOk;rw [←Array.all_toList,ZI];simp
theorem vE:∀ ls:List Str,(∀ p∈ls,PyData.strOk p=true)->PyData.canLayAll0 (ls.map .str)=true/\PyData.depthAll (ls.map .str)=0
 | [],_=>⟨rfl,rfl⟩
 | x::ls,h=>by
  obtain ⟨h1,h2⟩:=vE ls fun p hp=>h p (Zb _ hp);refine ⟨?_,?_⟩
  ·show (PyData.strOk x&&PyData.canLayAll0 (ls.map .str))=true;rw [h x Zc,h1];rfl
  ·show max 0 (PyData.depthAll (ls.map .str))=0;rw [h2];rfl
theorem yD {ls:List Str}(h:∀ p∈ls,PyData.strOk p=true):SeqAt.shaped (.list (ls.map .str))=true/\SeqAt.shaped (.tuple (ls.map .str))=true:=by
 obtain ⟨h1,h2⟩:=vE ls h;refine ⟨?_,?_⟩
 ·show (PyData.canLayAll0 (ls.map .str)&&decide (PyData.depthAll (ls.map .str)+1<=64))=true;rw [h1,h2];rfl
 ·show (PyData.canLayAll0 (ls.map .str)&&decide (PyData.depthAll (ls.map .str)+1<=64))=true;rw [h1,h2];rfl
theorem zF {H:Hp}{l:Addr}{o:HO}(h:H l=none):Same H (upd H l o):=fun b u e=>by rw [zH (zM e h)];exact e
theorem Same.updF {H H2:Hp}{l:Addr}{o:HO}(e:Same H H2)(n:H l=none):Same H (upd H2 l o):=fun b u q=>by rw [zH (zM q n)];exact e b u q
theorem le_line {n:Nat}(h:n<=16777216):n<=sizeLine:=by rw [Ym];exact h
theorem yR {n:Nat}(h:n<16777216):n<sizeLine:=by rw [Ym];exact h
theorem atI_zero {α:Type}(x:α)(r:List α):atI (x::r) 0=some x:=xI (j:=0) rfl
theorem Um (n:Nat)(h:n<=16777216:=by decide):n<=sizeLine:=le_line h
theorem iteN {c A B:Prop} [Decidable c](hc:¬c)(h:B):if decide c=true then A else B:=by
 rw [Zo hc];exact Ug h
theorem Bz {n:Nat}:∀ (ys:List Str),(∀ y∈ys,y.length<=n)->(ys.map (·.length)).sum<=ys.length*n
 | [],_=>by simp
 | y::ys,h=>by
  have h1:=Bz ys fun z hz=>h z (Zb _ hz);have h2:=h y Zc;rw [Zw,YS,Zn,Nat.succ_mul];omega
theorem vD {α:Type}{p:α->Prop}{l:List α}{x:α}(h:∀ y∈l,p y)(hx:p x):∀ y∈l++[x],p y:=fun y hy=>by
 rcases Zs.mp hy with z|z
 ·exact h y z
 ·rw [Q7.mp z];exact hx
theorem at_map {α:Type}{f:α->V}{xs:List α}{i:Int}(h0:0<=i)(h1:i<xs.length):∃ x,xs[i.toNat]?=some x/\atI (xs.map f) i=some (f x):=by
 obtain ⟨j,rfl⟩:=Jh h0;have hj:j<xs.length:=by omega
 refine ⟨xs[j],by simp [hj],xI ?_⟩;rw [Zl,Zj hj];rfl
theorem cut_to {xs:List V}{i:Int}(h0:0<=i):Uz xs none (some i)=xs.take i.toNat:=by
 obtain ⟨j,rfl⟩:=Jh h0;unfold Uz;rw [HT.sIx_none,HT.sIx_nat,List.drop_zero];show xs.take (min j xs.length-0)=xs.take j
 by_cases h:j<=xs.length
 ·rw [Nat.min_eq_left h];rfl
 ·rw [Nat.min_eq_right (by omega),Nat.sub_zero,ZA,Jp (by omega)]
theorem cut_from {xs:List V}{i:Int}(h0:0<=i):Uz xs (some i) none=xs.drop i.toNat:=by
 obtain ⟨j,rfl⟩:=Jh h0;unfold Uz;rw [HT.sIx_none,HT.sIx_nat];show (xs.drop (min j xs.length)).take (xs.length-min j xs.length)=xs.drop j
 by_cases h:j<=xs.length
 ·rw [Nat.min_eq_left h];exact Jp (by rw [Jg];omega)
 ·rw [Nat.min_eq_right (by omega),List.drop_eq_nil_of_le (Ze _),List.drop_eq_nil_of_le (by omega)];simp
theorem iteNF {A B:Prop}(h:B):if (!true)=true then A else B:=by
 show if false=true then A else B;exact Ug h
theorem iteNT {A B:Prop}(h:A):if (!false)=true then A else B:=by
 show if true=true then A else B;exact Uf h
def one (c:Nat):Str:=⟨#[c]⟩
theorem jX:∀ l:List Nat,cs (Txt.join "" (l.map one))=l:=by
 intro l;have e2:Txt.join "" (l.map one)=Str.join "" (l.map one):=StrLaws.glued_eq_join _ _;rw [e2,uF,List.flatMap_map]
 induction l with
 | nil=>rfl
 | cons c l ih =>
  rw [Yg];show [c]++_=_;rw [ih (StrLaws.glued_eq_join _ _)];rfl
theorem sum_ones:∀ l:List Nat,((l.map one).map (·.length)).sum=l.length
 | []=>rfl
 | c::l=>by
  rw [Zw,Zw,YS,sum_ones l,Zn];show 1+l.length=_;omega
end An
namespace L2
open PySem PySem.Spec PyProof.Rows
end L2
namespace AxT
open PySem PySem.Spec PyProof.Rows PySem.SeqAt
open AutoSeq1 (wpAny_loadPart')
end AxT
namespace L2
open PySem PySem.Spec PyProof.Rows
end L2
namespace AxR
open PySem PySem.Spec PyProof.Rows
open AutoSeq1 (wpAny_loadPart')
end AxR
namespace L2
open PySem PySem.Spec PyProof.Rows
end L2
namespace L2
open PySem PySem.Spec PyProof.Rows
section
variable {X:Cx}{K:ZZF}
def rLeS:R2:=fun x y H Q=>∃ i j:Str,x=.str i/\y=.str j/\Q (.bl (!decide (j.cps.toList<i.cps.toList))) H
theorem Bg:OpR X (compareOp .LtE) rLeS:=by
 intro pins s σ H x y v u Q I rx ry h;obtain ⟨i,j,rfl,rfl,q⟩:=h;obtain ⟨t,rfl⟩:=rx;obtain ⟨t',rfl⟩:=ry;exact P.le_str ⟨.bl _,H,I,rfl,q⟩
theorem Bk:∀ {bs:List Bool} {us:List Value},Vals (bs.map V.bl) us->us=bs.map Value.bool
 | [],us,h=>by cases h;rfl
 | b::bs,us,h=>by
  cases h with
  | cons r1 r2=>rw [Bk r2];cases r1;rfl
def rAll (K:ZZF):List V->Hp->VK->Prop:=fun xs H Q=>∃ (a:Addr) (bs:List Bool),xs=[.ref a]/\SqL K H a (bs.map V.bl)/\Q (.bl (bs.all id)) H
theorem x6 (hc:X.calm=true)(hK:X.K=K:=by rfl):CallR X (.builtin "all") (rAll K):=by
 subst hK;intro pins s σ H xs us Q I r h;obtain ⟨a,bs,rfl,ha,q⟩:=h;obtain ⟨u,rfl,ru⟩:=vals1 r;cases ru;obtain ⟨its,rv,pl,hz⟩:=I.list ha;have ei:=Bk rv;have hl:=pl.isList;have hlt:a<s.heap.objs.size:=by obtain ⟨_,e,_⟩:=hl;exact Zp e
 refine call_all_walk (Ve hl ?_);refine ⟨s.heap.objs.size,[s.heap.objs.size,a],[s.heap.objs.size],its.toArray.size,_,_,fun i=>(bs[i]?).getD true,rfl,Walks.list (A:=X.A.in1) (I.ok.hd hc) _ a (Zu hlt) its.toArray,
  ⟨⟨_,Zm _ rfl,rfl,rfl⟩,hl.push _⟩,fun i v s' Q' E' hP hQ=>?_,fun h' tk hk=>?_⟩
 ·have hP:its[i]?=some v:=by simpa using hP
  rw [ei,Zl] at hP;cases e:bs[i]? with
  | none=>rw [e] at hP;cases hP
  | some b =>
   rw [e] at hP;have hP:Value.bool b=v:=Option.some.inj hP;subst hP;simp only [e,Vt] at hQ;exact YV hQ
 ·have hlen:its.length=bs.length:=by rw [ei,Q5]
  have e:((List.range its.toArray.size).all fun i=>(bs[i]?).getD true)=bs.all id:=by
   rw [Zv,hlen];exact PyProof.Rows.LSm.range_all bs
  rw [e];exact ⟨.bl _,H,I.kept (PyProof.Rows.LSm.kept_iter hk),rfl,q⟩
end
mutual
def Dw (K:ZZF)(H:Hp):PyData->V->Prop
 | .none,v=>v=.non
 | .bool b,v=>v=.bl b
 | .int i,v=>v=.int i
 | .str x,v=>v=.str x
 | .list ds,v=>∃ a xs,v=.ref a/\SqL K H a xs/\DwAll K H ds xs
 | .tuple ds,v=>∃ a xs,v=.ref a/\SqT K H a xs/\DwAll K H ds xs
 | .dict _,v=>∃ a kvs,v=.ref a/\H a=some (.dK kvs)
def DwAll (K:ZZF)(H:Hp):List PyData->List V->Prop
 | [],xs=>xs=[]
 | d::ds,xs=>∃ x r,xs=x::r/\Dw K H d x/\DwAll K H ds r
end
mutual
theorem Dw.same {K:ZZF}{H H':Hp}(e:Same H H'):∀ (d:PyData) (v:V),Dw K H d v->Dw K H' d v
 | .none,_,h=>h
 | .bool _,_,h=>h
 | .int _,_,h=>h
 | .str _,_,h=>h
 | .list ds,_,⟨a,xs,h1,h2,h3⟩=>⟨a,xs,h1,e.seq h2,DwAll.same e ds xs h3⟩
 | .tuple ds,_,⟨a,xs,h1,h2,h3⟩=>⟨a,xs,h1,e.tupS h2,DwAll.same e ds xs h3⟩
 | .dict _,_,⟨a,kvs,h1,h2⟩=>⟨a,kvs,h1,e _ _ h2⟩
theorem DwAll.same {K:ZZF}{H H':Hp}(e:Same H H'):∀ (ds:List PyData) (xs:List V),DwAll K H ds xs->DwAll K H' ds xs
 | [],_,h=>h
 | d::ds,_,⟨x,r,h1,h2,h3⟩=>⟨x,r,h1,Dw.same e d x h2,DwAll.same e ds r h3⟩
end
mutual
theorem Dt.dw {K:ZZF}{H:Hp}:∀ {d:PyData} {v:V},Dt K H d v->Dw K H d v
 | .none,_,h=>h
 | .bool _,_,h=>h
 | .int _,_,h=>h
 | .str _,_,h=>h
 | .list ds,_,⟨a,xs,h1,h2,h3⟩=>⟨a,xs,h1,h2,DtAll.dw h3⟩
 | .tuple ds,_,⟨a,xs,h1,h2,h3⟩=>⟨a,xs,h1,h2,DtAll.dw h3⟩
 | .dict _,_,h=>h.elim
theorem DtAll.dw {K:ZZF}{H:Hp}:∀ {ds:List PyData} {xs:List V},DtAll K H ds xs->DwAll K H ds xs
 | [],_,h=>h
 | d::ds,_,⟨x,r,h1,h2,h3⟩=>⟨x,r,h1,Dt.dw h2,DtAll.dw h3⟩
end
theorem DwAll.length {K:ZZF}{H:Hp}:∀ {ds:List PyData} {xs:List V},DwAll K H ds xs->xs.length=ds.length
 | [],_,h=>by rw [show _=[] from h];rfl
 | d::ds,_,⟨x,r,h1,h2,h3⟩=>by rw [h1,Zn,Zn,DwAll.length h3]
theorem DwAll.get {K:ZZF}{H:Hp}:∀ {ds:List PyData} {xs:List V} {i:Nat} {x:V},DwAll K H ds xs->xs[i]?=some x->∃ d,ds[i]?=some d/\Dw K H d x
 | [],_,i,x,h,e=>by rw [show _=[] from h] at e;cases e
 | d::ds,_,0,x,⟨x',r,h1,h2,h3⟩,e=>by
  rw [h1] at e;cases e;exact ⟨d,rfl,h2⟩
 | d::ds,_,i+1,x,⟨x',r,h1,h2,h3⟩,e=>by
  rw [h1] at e;obtain ⟨d',e1,e2⟩:=DwAll.get (i:=i) h3 (by simpa using e);exact ⟨d',by simpa using e1,e2⟩
theorem DwAll.at {K:ZZF}{H:Hp}{ds:List PyData}{xs:List V}{i:Nat}{d:PyData}(h:DwAll K H ds xs)(e:ds[i]?=some d):∃ x,xs[i]?=some x/\Dw K H d x:=by
 have hi:i<xs.length:=by rw [h.length];exact (Zr.mp e).1
 obtain ⟨d',e',q⟩:=h.get (Zj hi);rw [e] at e';cases e';exact ⟨_,Zj hi,q⟩
def UC:PyData->String
 | .none=>"NoneType"
 | .bool _=>"bool"
 | .int _=>"int"
 | .str _=>"str"
 | .list _=>"list"
 | .tuple _=>"tuple"
 | .dict _=>"dict"
section
variable {X:Cx}{pins:List (Addr×Obj)}{σ:St}{H:Hp}{s:Shared}{A:Around}{E:Value->Shared->Prop}{Q:Value->Shared->Prop}{c:Value}{b:Bool}{K:ZZF}
theorem isinst_dw {x:V}{u:Value}{d:PyData}(I:Inv X pins σ H s)(rx:RelV x u)(hd:Dw X.K H d x)(e:PySem.W.kitOne X.K (.type (UC d)) c=some b)(h:∀ tk,Q (.bool b) { s with toks:=tk }) :
  wpAny (model X.prog X.w) A (call (.builtin "isinstance") [u,c]) Q E s:=by
 cases d with
 | none=>cases (show x=_ from hd);exact qJ I rx .non e h
 | bool y=>cases (show x=_ from hd);exact qJ I rx (.bl y) e h
 | int i=>cases (show x=_ from hd);exact qJ I rx (.int i) e h
 | str y=>cases (show x=_ from hd);exact qJ I rx (.str y) e h
 | dict kvs=>obtain ⟨a,ks,rfl,ea⟩:=hd;exact qJ I rx (.dK ea) e h
 | list ds =>
  obtain ⟨a,xs,rfl,hs,_⟩:=hd;cases (show u=Value.ref a from rx);obtain ⟨its,_,⟨o,n,h1,h2,_⟩,_⟩:=I.list hs;exact Ye VR I.kIn ⟨o,h1,h2⟩ e (fun z=>nomatch z) h
 | tuple ds =>
  obtain ⟨a,xs,rfl,hs,_⟩:=hd;cases (show u=Value.ref a from rx);obtain ⟨its,_,p,_⟩:=I.tuple hs;obtain ⟨o,h1,h2,_⟩:=p;exact Ye PySem.W.kitx_tuple I.kIn ⟨o,h1,h2⟩ e (fun z=>nomatch z) h
def rIsiD (K:ZZF):List V->Hp->VK->Prop:=fun xs H Q=>∃ y T d b,xs=[y,.ty T]/\Dw K H d y/\PySem.W.kitOne K (.type (UC d)) (.type T)=some b/\Q (.bl b) H
theorem zV (hK:X.K=K:=by rfl):CallR X (.builtin "isinstance") (rIsiD K):=by
 subst hK;intro pins s σ H xs us Q I r h;obtain ⟨y,T,d,b,rfl,hd,kt,q⟩:=h;obtain ⟨u,w',rfl,ru,rw'⟩:=vals2 r;cases (show w'=Value.type T from rw');exact isinst_dw I ru hd kt fun tk=>⟨.bl b,H,I.tok _,rfl,q⟩
end
section
variable {src:List (Option Nat)}{g:TG}{te:TE}{Q:VK}{σ:St}{H:Hp}
theorem GW {x:Str}(Pv:Nat->List V->St->Hp->Prop)(h0:Pv 0 [] (Us src σ) H)(hz:x.length<=sizeLine)(hl:∀ i ys σ H,i<=x.length->Pv i ys σ H->ys.length<=i)
  (hs:∀ i c ys σ H,x.cps[i]?=some c->Pv i ys σ H->g (.str ⟨#[c]⟩) σ H fun σ2 H3=>te σ2 H3 fun y H5=>Pv (i+1) (ys++[y]) σ2 H5)
  (hd:∀ ys σ H,Pv x.length ys σ H->∀ p,H p=none->Q (.ref p) (upd H p (.lst ys))):UE src (Its x) g Ic te Q σ H :=
 IO x.length Pv h0 hz hl (fun _ _ _ _=>rfl) (fun _ _ _ _ hi _=>hi)
  (fun i ys σ H hi p x' H2 y=>by
   obtain ⟨e,c,hc,rfl⟩:=y;subst e;rw [IF];exact hs i c ys σ _ hc p) hd
end
end L2
namespace L2
open PySem PySem.Spec PyProof.Rows
section
variable {X:Cx}{K:ZZF}{a b c d:Expr}{ta tb tc td:TE}{pos:Pos}
def rMulS:R2:=fun x y H Q=>∃ (i:Str) (n:Int),x=.str i/\y=.int n/\MulOk i n/\Q (.str (Txt.mul i n)) H
theorem op_mulS:OpR X (binaryOp .Mult) rMulS:=by
 intro pins s σ H x y v u Q I rx ry h;obtain ⟨i,n,rfl,rfl,ok,q⟩:=h;obtain ⟨t,rfl⟩:=rx;obtain ⟨t',rfl⟩:=ry;exact SB.mul ok fun t' k=>⟨.str _,H,I.tok _,⟨_,rfl⟩,q⟩
def rInD (K:ZZF)(tup neg:Bool):R2:=fun x y H Q=>∃ (d:PyData) (xs:List PyData),Dt K H d x/\Dt K H (if tup then .tuple xs else .list xs) y/\PyData.canLayAll0 xs=true/\d.canLay0=true/\d.depth<=60/\Q (.bl (neg !=xs.any fun y=>PyData.eqv y d)) H
end
end L2
namespace L2
open PySem PySem.Spec PyProof.Rows
section
variable {X:Cx}{pins:List (Addr×Obj)}{σ:St}{H:Hp}{s:Shared}
theorem Gj (hst:X.stack=X.env::X.outer)(hfr:X.env.frame=some X.env.locals)(hex:X.ex=[])(I:Inv X pins σ H s){a T:Addr}{cls:Value}(na:X.s₀.heap.get? a=none)(nT:X.s₀.heap.get? T=none)(ha:H a=none)(hT:H T=none)(ea:ExcAt s.heap a T cls){E:XK}(q:E cls none H)
  {Ex:Value->Shared->Prop}:wpAny (model X.prog X.w) X.A (leaving X.env (.ref a)) (fun _ s''=>CXF X.prog X.w X.outer X.H₀ X.s₀ E (.ref a) s'') Ex s:=by
 have fr:=j3 (as:=[a,T]) I.stack;have hA:X.A.frames=some (X.env::X.outer):=by rw [I.ok.frames,hst]
 have hid:∀ b,b=a\/b=T->(UG s.heap [a,T] X.stack).get? b=none:=fun b hb=>by
  cases hq:(UG s.heap [a,T] X.stack).get? b with
  | none=>rfl
  | some o =>
   exfalso;have z:=JA ([a,T]++frs X.stack) (h:=s.heap) (b:=b) (Z5 _ (by simpa using hb));rw [z] at hq;cases hq
 obtain ⟨oe,vs,oT,ts,t1,t2,t3,t4,t6,t7,t8,t9⟩:=ea;have tw:Trc ctx0 s.heap (UG s.heap [a,T] X.stack) a cls .none:=⟨oe,vs,T,oT,ts,t1,t2,t3,t4,hid T (.inr rfl),t6,t7,t8,t9⟩;refine leave_next (base:=UG s.heap [a,T] X.stack) Xe hA (by rw [←hst];exact fr) hfr tw jU (hid a (.inl rfl)) fun h2 k1 k2 L k4=>?_;obtain ⟨oe',vs',T',oT',ts',u1,u2,u3,u4,u5,u6,u7,u8,u9⟩:=L;have stk:∀ b∈frs X.stack,H b=none:=I.stkFree;have kp:∀ b o,s.heap.get? b=some o->b≠a->b≠T->b∉frs X.stack->h2.get? b=some o:=fun b o e h3 h4 hb=>k1 b o (YX _ e (by
  intro z
  rcases Zs.mp z with z|z
  ·have z:b=a\/b=T:=by simpa using z
   exact z.elim h3 h4
  ·exact hb z))
 have sl:∀ b o,s.heap.get? b=some o->b∈frs X.stack->∃ sl,h2.get? b=some { o with slots:=sl }:=fun b o e hb=>by
  obtain ⟨_,o',ho',hd⟩:=I.stack.mem hb;rw [e] at ho';cases ho';exact k4 b o e hd
 have nL:∀ b o,X.s₀.heap.get? b=some o->b≠X.env.locals:=fun b o e=>Zu (ZD (Zp e) I.ok.above);have nex:∀ b,b∉X.ex:=fun b=>by rw [hex];simp
 have nA:∀ b o,X.s₀.heap.get? b=some o->b≠a:=fun b o e z=>by rw [z,na] at e;cases e
 have nTT:∀ b o,X.s₀.heap.get? b=some o->b≠T:=fun b o e z=>by rw [z,nT] at e;cases e
 have nT':T'=T\/s.heap.get? T'=none:=by
  by_cases hq:T'=T
  ·exact .inl hq
  ·refine .inr ?_;cases qT:s.heap.get? T' with
   | none=>rfl
   | some o =>
    exfalso
    by_cases hf:T'∈frs X.stack
    ·have k2':h2.FunFrames (UG s.heap [a,T] X.stack) X.stack:=by have z:=k2;rw [←hst] at z;exact z
     obtain ⟨_,o',ho',hd⟩:=k2'.mem hf;rw [u7] at ho';cases ho';exact hd _ u8
    ·have z:(UG s.heap [a,T] X.stack).get? T'=some o:=YX _ qT (by
      intro z
      rcases Zs.mp z with z|z
      ·have z:T'=a\/T'=T:=by simpa using z
       exact z.elim u6 hq
      ·exact hf z)
     rw [u5] at z;cases z
 have oT1:X.s₀.heap.get? T'=none:=nT'.elim (fun z=>by rw [z];exact nT) fun z=>I.old_none hex z;have oT2:H T'=none:=nT'.elim (fun z=>by rw [z];exact hT) fun z=>I.none_of z;refine ⟨a,T',cls,H,rfl,I.os,I.bare,⟨fun b o e1 n hb _=>?_,fun b o e1 n hb _=>?_,fun b o e1 n _=>I.base.free b o e1 n (nex b),fun b o e1 _=>?_,I.base.tups,I.base.frzs,I.base.tbls⟩,fun b u e1=>?_,na,oT1,ha,oT2,⟨oe',vs',oT',ts',u1,u2,u3,u4,u6,u7,u8,u9⟩,q⟩
 ·refine kp b o (I.base.keep b o e1 n hb (nex b)) (nA b o e1) (nTT b o e1) fun z=>?_
  rcases Zi.mp (I.stkSub b z) with r|r
  ·exact nL b o e1 r
  ·exact hb r
 ·obtain ⟨sl1,e2⟩:=I.base.slot b o e1 n hb (nex b)
  by_cases hz:b∈frs X.stack
  ·obtain ⟨sl2,e3⟩:=sl b _ e2 hz;exact ⟨sl2,e3⟩
  ·exact ⟨sl1,kp b _ e2 (nA b o e1) (nTT b o e1) hz⟩
 ·obtain ⟨o',e2⟩:=I.base.there b o e1 (nex b)
  by_cases hz:b∈frs X.stack
  ·obtain ⟨sl2,e3⟩:=sl b _ e2 hz;exact ⟨_,e3⟩
  ·exact ⟨o',kp b _ e2 (nA b o e1) (nTT b o e1) hz⟩
 ·have off:∀ c,(c=b\/H c=some (.own b))->H c≠none:=fun c hc z=>by
   rcases hc with y|y
   ·rw [y,e1] at z;cases z
   ·rw [y] at z;cases z
  refine (I.hok b u e1).stay (fun c v hc r=>kp c v r (fun z=>?_) (fun z=>?_) fun z=>?_) (fun _ r=>r) fun _ _ r=>r
  ·rw [z] at hc
   rcases hc with y|y
   ·rw [←y,ha] at e1;cases e1
   ·rw [ha] at y;cases y
  ·rw [z] at hc
   rcases hc with y|y
   ·rw [←y,hT] at e1;cases e1
   ·rw [hT] at y;cases y
  ·have hz:=stk c z
   rcases hc with y|y
   ·rw [y,e1] at hz;cases hz
   ·rw [y] at hz;cases hz
end
theorem yQ {P:Program}{w:World}{K:ZZF}{mg:Str->Option Value}{base:Heap}{N:List Str}{qual:Str}{scope:Scope}{f:Addr}{cd:Value}{A:Around}{outer:List Env}{s:Shared}{H:Hp}{E:XK} :
  Raises (Iy (CXF P w) P w K mg base N qual scope f cd A outer s H E) (fun _ H' cls=>E cls none H'):=by
 intro pins σ H1 s1 e s' I hx;obtain ⟨a,T,cls,H',rfl,os,bare,un,hok,na,nT,ha,hT,ea,q⟩:=hx;have I1:=I.call' (ch:=[]) os un hok bare fun b z=>absurd z (by simp);exact Gj rfl rfl rfl I1 (I.old_none rfl na) (I.old_none rfl nT) ha hT ea q
theorem CalX.mk' {P:Program}{w:World}{K:ZZF}{mg:Str->Option Value}{base:Heap}{k:Nat}{x qual:Str}{st:Stmt}{f:Addr}{fd:FuncData}{ps:List Str}{sp:Sp}(F:Fun K x qual st f fd)(G:FnOk P w K mg base (CXF P w) k f fd ps sp)(hm:mg x=some (.ref f))
  (b:Binds K fd ps []):CalX P w K mg base k x ps sp:=⟨f,fd,G,hm,F.kp,b⟩
end L2
namespace L2
open PySem PySem.Spec PyProof.Rows
instance:DecidableEq PyData:=fun a b=>decidable_of_iff _ (same_iff (a:=a) (b:=b))
mutual
def UA:PyData->Bool
 | .str x=>PyData.strOk x
 | .tuple ds=>yX ds
 | _=>false
def yX:List PyData->Bool
 | []=>true
 | d::ds=>UA d&&yX ds
end
mutual
def XX:PyData->Nat
 | .tuple ds=>xN ds+1
 | _=>0
def xN:List PyData->Nat
 | []=>0
 | d::ds=>max (XX d) (xN ds)
end
mutual
def RdT (h:Heap):PyData->Value->Prop
 | .str x,v=>∃ t,v=.str x t
 | .tuple ds,v=>∃ a o vs n,v=.ref a/\h.get? a=some o/\o.cls=.type "tuple"/\o.data=.seq vs n/\RdAll h ds vs.toList
 | _,_=>False
def RdAll (h:Heap):List PyData->List Value->Prop
 | [],vs=>vs=[]
 | d::ds,vs=>∃ v r,vs=v::r/\RdT h d v/\RdAll h ds r
end
mutual
def UH (w:World):PyData->Int
 | .str x=>hashStr w x
 | .tuple ds=>reduceHash (Builtin.Tuple.tupleHashOf (vJ w ds))
 | _=>0
def vJ (w:World):List PyData->List Int
 | []=>[]
 | d::ds=>UH w d::vJ w ds
end
mutual
def GI:PyData->Nat
 | .tuple ds=>y7 ds+1
 | _=>1
def y7:List PyData->Nat
 | []=>0
 | d::ds=>GI d+y7 ds
end
theorem IL (w:World):∀ ds,vJ w ds=ds.map (UH w)
 | []=>rfl
 | d::ds=>by rw [vJ,IL w ds];rfl
theorem XA:∀ (a b:List PyData),y7 (a++b)=y7 a+y7 b
 | [],b=>by simp [y7]
 | d::a,b=>by
  show GI d+y7 (a++b)=(GI d+y7 a)+y7 b;rw [XA a b];omega
mutual
theorem RdT.reads {h:Heap}:∀ (d:PyData) (v:Value),RdT h d v->∃ as,Reads h v d as
 | .str x,_,⟨t,e⟩=>by subst e;exact ⟨_,.str x t⟩
 | .tuple ds,_,⟨a,o,vs,n,e,h1,h2,h3,h4⟩=>by
  subst e;obtain ⟨as,q⟩:=RdAll.reads ds vs.toList h4;exact ⟨_,.tuple h1 h2 h3 q⟩
 | .none,_,q=>q.elim
 | .bool _,_,q=>q.elim
 | .int _,_,q=>q.elim
 | .list _,_,q=>q.elim
 | .dict _,_,q=>q.elim
theorem RdAll.reads {h:Heap}:∀ (ds:List PyData) (vs:List Value),RdAll h ds vs->∃ as,ReadsAll h vs ds as
 | [],vs,e=>by cases (show vs=[] from e);exact ⟨_,.nil⟩
 | d::ds,_,⟨v,r,e,h1,h2⟩=>by
  subst e;obtain ⟨as,q⟩:=RdT.reads d v h1;obtain ⟨bs,q2⟩:=RdAll.reads ds r h2;exact ⟨_,.cons q q2⟩
end
mutual
theorem RdT.inj {h:Heap}:∀ (d e:PyData) (v:Value),RdT h d v->RdT h e v->d=e
 | .str x,e,v,⟨t,h1⟩,h2=>by
  subst h1;cases e with
  | str y=>obtain ⟨t',q⟩:=h2;cases q;rfl
  | tuple ds=>obtain ⟨a,o,vs,n,q,_⟩:=h2;cases q
  | none=>exact h2.elim
  | bool _=>exact h2.elim
  | int _=>exact h2.elim
  | list _=>exact h2.elim
  | dict _=>exact h2.elim
 | .tuple ds,e,v,⟨a,o,vs,n,h1,h3,h4,h5,h6⟩,h2=>by
  subst h1;cases e with
  | str y=>obtain ⟨t',q⟩:=h2;cases q
  | tuple es =>
   obtain ⟨a',o',vs',n',q,q3,q4,q5,q6⟩:=h2;cases q;rw [h3] at q3;cases q3;rw [h5] at q5;cases q5;rw [RdAll.inj ds es vs.toList h6 q6]
  | none=>exact h2.elim
  | bool _=>exact h2.elim
  | int _=>exact h2.elim
  | list _=>exact h2.elim
  | dict _=>exact h2.elim
 | .none,_,_,q,_=>q.elim
 | .bool _,_,_,q,_=>q.elim
 | .int _,_,_,q,_=>q.elim
 | .list _,_,_,q,_=>q.elim
 | .dict _,_,_,q,_=>q.elim
theorem RdAll.inj {h:Heap}:∀ (ds es:List PyData) (vs:List Value),RdAll h ds vs->RdAll h es vs->ds=es
 | [],[],_,_,_=>rfl
 | [],e::es,vs,h1,⟨v,r,q,_⟩=>by rw [show vs=[] from h1] at q;cases q
 | d::ds,[],vs,⟨v,r,q,_⟩,h2=>by rw [show vs=[] from h2] at q;cases q
 | d::ds,e::es,_,⟨v,r,h1,h3,h4⟩,⟨v',r',q1,q3,q4⟩=>by
  subst h1;injection q1 with z1 z2;subst z1 z2;rw [RdT.inj d e v h3 q3,RdAll.inj ds es r h4 q4]
end
mutual
theorem RdT.keeps {h h':Heap}{dd:Addr}{od:Obj}{es:Array DictEntry}{ep:Nat}(ho:h.get? dd=some od)(hd:od.data=.dict es ep)(hs:Heap.SameBut dd h h'):∀ (d:PyData) (v:Value),RdT h d v->RdT h' d v
 | .str x,_,q=>q
 | .tuple ds,_,⟨a,o,vs,n,e,h1,h2,h3,h4⟩=>by
  have ne:a≠dd:=fun z=>by
   subst z;rw [h1] at ho;cases ho;rw [h3] at hd;cases hd
  exact ⟨a,o,vs,n,e,(hs.2 a ne).trans h1,h2,h3,RdAll.keeps ho hd hs ds vs.toList h4⟩
 | .none,_,q=>q.elim
 | .bool _,_,q=>q.elim
 | .int _,_,q=>q.elim
 | .list _,_,q=>q.elim
 | .dict _,_,q=>q.elim
theorem RdAll.keeps {h h':Heap}{dd:Addr}{od:Obj}{es:Array DictEntry}{ep:Nat}(ho:h.get? dd=some od)(hd:od.data=.dict es ep)(hs:Heap.SameBut dd h h'):∀ (ds:List PyData) (vs:List Value),RdAll h ds vs->RdAll h' ds vs
 | [],_,q=>q
 | d::ds,_,⟨v,r,e,h1,h2⟩=>⟨v,r,e,RdT.keeps ho hd hs d v h1,RdAll.keeps ho hd hs ds r h2⟩
end
section
variable {prog:Program}{w:World}
def G4 (prog:Program)(w:World)(d:PyData):Prop:=∀ (A:Around) (E:Value->Shared->Prop) (s:Shared) (v:Value) (Q:Int->Shared->Prop),A.units+XX d<cLine->RdT s.heap d v->Q (UH w d) { s with toks:=s.toks+GI d }->wpAny (model prog w) A (pyHash v) Q E s
theorem G7:∀ {ds:List PyData} {d:PyData},d∈ds->XX d<=xN ds
 | [],_,h=>nomatch h
 | e::ds,d,h=>by
  show XX d<=max (XX e) (xN ds)
  rcases Zi.mp h with rfl|h
  ·omega
  ·have:=G7 h;omega
theorem hash_tuple {ds:List PyData}(ih:∀ d∈ds,G4 prog w d):G4 prog w (.tuple ds):=by
 intro A E s v Q hu hr h;obtain ⟨a,o,items,n,rfl,ho,hc,hd,hi⟩:=hr;have hu0:A.units<cLine:=by omega
 have hT:s.TypeIs (.ref a) "tuple":=⟨o,ho,hc⟩;have hu1:A.units+(xN ds+1)<cLine:=hu;unfold pyHash
 first|unfold pyHashByItsType|skip
 first|refine Q6 (wpAny_cRoomFor_or (.inr hu0) ?_)|skip
 refine Q6 (J3 hT F.slot_tuple_hash.lookup ?_);show wpAny _ _ (if (some (Value.builtin "tuple.__hash__")==some Value.none)=true then _ else _) Q E s;rw [Zy (by rw [beq_builtin_none];exact ZG)];refine Q6 (J3 hT F.slot_tuple_hash.lookup ?_);show wpAny _ _ (callSpecialIfBoundUnlessNone? (.ref a) "__hash__" _>>=_) Q E s;refine Q6 (wpAny_callSpecialIfBoundUnlessNone?_slot hT F.slot_tuple_hash (Z6 F.slot_tuple_hash hT F.entry_tuple_hash ?_ (F.args_tuple_hash_1 _)));show wpAny _ _ (Builtin.Tuple.tupleItemsOf (.ref a)>>=_) _ _ s;refine Q6 (VJ ho hd ?_);refine Q6 ?_;rw [←Array.forIn_toList];refine JO _
  (fun rest (b:Array Int) s'=>∃ done left,ds=done++left/\RdAll s.heap left rest/\b.toList=done.map (UH w)/\s'={ s with toks:=s.toks+y7 done })
  _ ?_ ?_ _ _ ⟨[],ds,rfl,hi,rfl,by simp [y7]⟩
 ·rintro x rest b s' ⟨done,left,e,hl,hb,rfl⟩;cases left with
  | nil=>cases (show x::rest=[] from hl)
  | cons d left =>
   obtain ⟨v,r,ev,h1,h2⟩:=hl;injection ev with e1 e2;subst e1 e2;have hm:d∈ds:=by rw [e];simp
   have hdp:=G7 hm;have hq:∃ done' left',ds=done'++left'/\RdAll s.heap left' rest/\(b.push (UH w d)).toList=done'.map (UH w)/\({ s with toks:=s.toks+y7 done+GI d }:Shared)={ s with toks:=s.toks+y7 done' } :=
    ⟨done++[d],left,by simp [e],h2,by simp [hb],by rw [XA];simp [y7,Nat.add_assoc]⟩
   refine Q6 (ih d hm A.in1 _ _ _ _ (by show A.units+1+XX d<cLine;omega) h1 ?_)
   first
    | exact Q8 hq
    | exact Q6 (Q8 (Q8 hq))
 ·rintro b s' ⟨done,left,e,hl,hb,rfl⟩;cases left with
  | cons d left=>obtain ⟨v,r,ev,_⟩:=hl;cases ev
  | nil =>
   rw [ZF] at e;subst e;show wpAny _ _ (retInt (Builtin.Tuple.tupleHashOf b.toList)) _ _ _;rw [hb];have h:Q (reduceHash (Builtin.Tuple.tupleHashOf (vJ w ds))) { s with toks:=s.toks+(y7 ds+1) }:=h;rw [IL] at h;refine wpAny_ret_mkInt ?_;show wpAny _ _ (if (decide (-(2:Int) ^ 63<=Builtin.Tuple.tupleHashOf (ds.map (UH w)))&&decide (Builtin.Tuple.tupleHashOf (ds.map (UH w))<2 ^ 63))=true then _ else _) Q E _;unfold reduceHash at h
   by_cases hr:(decide (-(2:Int) ^ 63<=Builtin.Tuple.tupleHashOf (ds.map (UH w)))&&decide (Builtin.Tuple.tupleHashOf (ds.map (UH w))<2 ^ 63))=true
   ·rw [Zz hr];rw [Zz hr] at h;exact Q8 (by simpa [Nat.add_assoc] using h)
   ·rw [Zy hr];rw [Zy hr] at h;exact Q6 (JC (Q8 (by simpa [Nat.add_assoc] using h)))
mutual
theorem hash_ok:∀ d:PyData,G4 prog w d
 | .str x=>fun A E s v Q _ hr h=>by
  obtain ⟨t,rfl⟩:=hr;exact (strKind prog w).pyHash (k:=x) (by show Value.isStrOf x (.str x t)=true;simp [Value.isStrOf]) h
 | .tuple ds=>hash_tuple (hash_all ds)
 | .none=>fun _ _ _ _ _ _ hr _=>hr.elim
 | .bool _=>fun _ _ _ _ _ _ hr _=>hr.elim
 | .int _=>fun _ _ _ _ _ _ hr _=>hr.elim
 | .list _=>fun _ _ _ _ _ _ hr _=>hr.elim
 | .dict _=>fun _ _ _ _ _ _ hr _=>hr.elim
theorem hash_all:∀ ds:List PyData,∀ d∈ds,G4 prog w d
 | [],_,h=>nomatch h
 | e::ds,d,h=>(Zi.mp h).elim (fun z=>z▸hash_ok e) (hash_all ds d)
end
mutual
theorem eqv_dec:∀ (d e:PyData),UA d=true->UA e=true->PyData.eqv d e=decide (d=e)
 | .str x,.str y,_,_=>by
  show (x==y)=_;rw [ZU];simp
 | .str _,.tuple _,_,_=>by rw [Zo (by simp)];rfl
 | .tuple _,.str _,_,_=>by rw [Zo (by simp)];rfl
 | .tuple ds,.tuple es,h1,h2=>by
  show PyData.eqvAll ds es=_;rw [BG ds es h1 h2];exact Vu.mpr (by simp)
 | .none,_,h,_=>by cases h
 | .bool _,_,h,_=>by cases h
 | .int _,_,h,_=>by cases h
 | .list _,_,h,_=>by cases h
 | .dict _,_,h,_=>by cases h
 | .str _,.none,_,h=>by cases h
 | .str _,.bool _,_,h=>by cases h
 | .str _,.int _,_,h=>by cases h
 | .str _,.list _,_,h=>by cases h
 | .str _,.dict _,_,h=>by cases h
 | .tuple _,.none,_,h=>by cases h
 | .tuple _,.bool _,_,h=>by cases h
 | .tuple _,.int _,_,h=>by cases h
 | .tuple _,.list _,_,h=>by cases h
 | .tuple _,.dict _,_,h=>by cases h
theorem BG:∀ (ds es:List PyData),yX ds=true->yX es=true->PyData.eqvAll ds es=decide (ds=es)
 | [],[],_,_=>rfl
 | [],_::_,_,_=>rfl
 | _::_,[],_,_=>rfl
 | d::ds,e::es,h1,h2=>by
  have h1:(UA d&&yX ds)=true:=h1;have h2:(UA e&&yX es)=true:=h2;rw [Zg] at h1 h2;show (PyData.eqv d e&&PyData.eqvAll ds es)=_;rw [eqv_dec d e h1.1 h2.1,BG ds es h1.2 h2.2,←Bool.decide_and];exact Vu.mpr (by simp)
end
mutual
theorem G9:∀ d:PyData,UA d=true->d.canLay0=true/\d.depth<=XX d
 | .str x,h=>⟨h,Ze _⟩
 | .tuple ds,h=>by
  obtain ⟨h1,h2⟩:=txts_lay ds h;refine ⟨h1,?_⟩;show PyData.depthAll ds+1<=xN ds+1;omega
 | .none,h=>by cases h
 | .bool _,h=>by cases h
 | .int _,h=>by cases h
 | .list _,h=>by cases h
 | .dict _,h=>by cases h
theorem txts_lay:∀ ds:List PyData,yX ds=true->PyData.canLayAll0 ds=true/\PyData.depthAll ds<=xN ds
 | [],_=>⟨rfl,Ze _⟩
 | d::ds,h=>by
  have h:(UA d&&yX ds)=true:=h;rw [Zg] at h;obtain ⟨h1,h2⟩:=G9 d h.1;obtain ⟨h3,h4⟩:=txts_lay ds h.2;refine ⟨?_,?_⟩
  ·show (d.canLay0&&PyData.canLayAll0 ds)=true;rw [h1,h3];rfl
  ·show max d.depth (PyData.depthAll ds)<=max (XX d) (xN ds);omega
end
def XH (prog:Program)(w:World)(d:PyData):Prop:=∀ (A:Around) (E:Value->Shared->Prop) (s:Shared) (v:Value) (n:Nat) (Q:Bool->Shared->Prop),XX d<=n->RdT s.heap d v->Q true s->wpAny (model prog w) A (eqIsQuiet n v) Q E s
theorem BT {ds:List PyData}(ih:∀ d∈ds,XH prog w d):XH prog w (.tuple ds):=by
 intro A E s v n Q hn hr h;obtain ⟨a,o,items,m,rfl,ho,hc,hd,hi⟩:=hr;have hT:s.TypeIs (.ref a) "tuple":=⟨o,ho,hc⟩;have hn:xN ds+1<=n:=hn;obtain ⟨n,rfl⟩:∃ k,n=k+1:=⟨n-1,by omega⟩;unfold eqIsQuiet;refine Q6 (J3 hT F.slot_tuple_eq.lookup ?_);show wpAny _ _ (isInstance (.ref a) (.type "tuple")>>=_) _ _ s;refine Q6 (Y1 hT isSubtype_tuple_tuple ?_);simp only [Vx,Yx,JV];refine Q6 (wpAny_seqItems ho hd ?_);refine Q6 ?_;show wpAny _ _ (forIn items _ _) _ _ s;rw [←Array.forIn_toList];refine JO _ (fun rest r s'=>r.1=none/\s'=s/\∃ left,(∀ d∈left,d∈ds)/\RdAll s.heap left rest) _ ?_ ?_ _ _ ⟨rfl,rfl,ds,fun _ z=>z,hi⟩
 ·rintro v rest r s' ⟨hr,rfl,left,hm,hl⟩;cases left with
  | nil=>cases (show v::rest=[] from hl)
  | cons d left =>
   obtain ⟨v',r',ev,h1,h2⟩:=hl;injection ev with e1 e2;subst e1 e2;have hd':=hm d Zc;have:=G7 hd';refine Q6 (ih d hd' A _ s' _ n _ (by omega) h1 ?_);simp only [Vx,Yx,JV];exact Q8 ⟨rfl,rfl,left,fun e he=>hm e (Zb _ he),h2⟩
 ·rintro ⟨r1,r2⟩ s' ⟨hr,rfl,_⟩;simp only at hr;subst hr;exact Q8 h
mutual
theorem quiet_ok:∀ d:PyData,XH prog w d
 | .str x=>fun A E s v n Q _ hr h=>by
  obtain ⟨t,rfl⟩:=hr;rw [eqIsQuiet_byValue _ (by rfl)];exact Q8 h
 | .tuple ds=>BT (GG ds)
 | .none=>fun _ _ _ _ _ _ _ hr _=>hr.elim
 | .bool _=>fun _ _ _ _ _ _ _ hr _=>hr.elim
 | .int _=>fun _ _ _ _ _ _ _ hr _=>hr.elim
 | .list _=>fun _ _ _ _ _ _ _ hr _=>hr.elim
 | .dict _=>fun _ _ _ _ _ _ _ hr _=>hr.elim
theorem GG:∀ ds:List PyData,∀ d∈ds,XH prog w d
 | [],_,h=>nomatch h
 | e::ds,d,h=>(Zi.mp h).elim (fun z=>z▸quiet_ok e) (GG ds d)
end
def yN (prog:Program)(w:World):HeapKind prog w PyData where
 is:=fun h d a=>RdT h d (.ref a)/\UA d=true/\XX d<=6
 hash:=UH w
 draws:=GI
 room:=fun A=>A.units+8<cLine
 inj:=fun hx hy=>RdT.inj _ _ _ hx.1 hy.1
 keeps:=fun x ho hd hs=>⟨RdT.keeps ho hd hs _ _ x.1,x.2⟩
 pyHash:=fun hu hk h=>hash_ok _ _ _ _ _ _ (by have:=hk.2.2;omega) hk.1 h
 eqBool:=fun {A E s x y a b Q} hu hx hy h=>by
  obtain ⟨as,ra⟩:=RdT.reads _ _ hx.1;obtain ⟨bs,rb⟩:=RdT.reads _ _ hy.1;obtain ⟨l1,d1⟩:=G9 _ hx.2.1;obtain ⟨l2,d2⟩:=G9 _ hy.2.1;have e:=SeqAt.eqAt_reads x y A s _ _ as bs ra rb l1 l2 (by have:=hx.2.2;omega);rw [eqv_dec _ _ hx.2.1 hy.2.1] at e;exact e prog w E Q h
 quiet:=fun hk h=>quiet_ok _ _ _ _ _ _ _ (by have:=hk.2.2;omega) hk.1 h
end
end L2
namespace L2
open PySem PySem.Spec PyProof.Rows
def IS (d:Addr)(es:List DictEntry):HO:=.ext fun h=>∃ o ep,h.get? d=some o/\o.ExactDict/\o.data=.dict es.toArray ep/\(d==sysModules)=false
theorem rawD_ok {P:Program}{w:World}{H:Hp}{h:Heap}{d:Addr}{es:List DictEntry}{o:Obj}{ep:Nat}(h1:h.get? d=some o)(h2:o.ExactDict)(h3:o.data=.dict es.toArray ep)(h4:(d==sysModules)=false):ObjOk P w H h d (IS d es) :=
 ⟨⟨o,ep,h1,h2,h3,h4⟩,⟨o,h1⟩,fun _ _ ⟨o',ep',q1,q2⟩ k=>⟨o',ep',k o' q1,q2⟩⟩
mutual
theorem Dt.other {K:ZZF}{H:Hp}{d:Addr}{o:HO}(n:∀ xs,¬Rd H d (.tup xs)):∀ (k:PyData) (v:V),UA k=true->Dt K H k v->Dt K (upd H d o) k v
 | .str x,_,_,h=>h
 | .tuple ds,_,t,⟨a,xs,h1,h2,h3⟩=>by
  refine ⟨a,xs,h1,?_,DtAll.other n ds xs t h3⟩
  rcases h2 with h2|h2
  ·have ne:a≠d:=fun z=>n xs (z▸h2)
   left
   unfold Rd;rw [zH ne];exact h2
  ·exact .inr h2
 | .none,_,t,_=>by cases t
 | .bool _,_,t,_=>by cases t
 | .int _,_,t,_=>by cases t
 | .list _,_,t,_=>by cases t
 | .dict _,_,t,_=>by cases t
theorem DtAll.other {K:ZZF}{H:Hp}{d:Addr}{o:HO}(n:∀ xs,¬Rd H d (.tup xs)):∀ (ks:List PyData) (vs:List V),yX ks=true->DtAll K H ks vs->DtAll K (upd H d o) ks vs
 | [],_,_,h=>h
 | k::ks,_,t,⟨x,r,h1,h2,h3⟩=>by
  have t:(UA k&&yX ks)=true:=t;rw [Zg] at t;exact ⟨x,r,h1,Dt.other n k x t.1 h2,DtAll.other n ks r t.2 h3⟩
end
section
variable {X:Cx}{pins:List (Addr×Obj)}{σ:St}{H:Hp}{s:Shared}
mutual
theorem Dt.rdT (I:Inv X pins σ H s):∀ (d:PyData) (v:V) (u:Value),UA d=true->Dt X.K H d v->RelV v u->RdT s.heap d u
 | .str x,_,u,_,h,r=>by
  cases (show _=V.str x from h);exact r
 | .tuple ds,_,u,t,⟨a,xs,h1,h2,h3⟩,r=>by
  subst h1;cases (show u=Value.ref a from r);obtain ⟨its,rv,⟨o,e,c,n,d⟩,_⟩:=I.tuple h2;exact ⟨a,o,its.toArray,n,rfl,e,c,d,by simpa using DtAll.rdT I ds xs its t h3 rv⟩
 | .none,_,_,t,_,_=>by cases t
 | .bool _,_,_,t,_,_=>by cases t
 | .int _,_,_,t,_,_=>by cases t
 | .list _,_,_,t,_,_=>by cases t
 | .dict _,_,_,t,_,_=>by cases t
theorem DtAll.rdT (I:Inv X pins σ H s):∀ (ds:List PyData) (xs:List V) (us:List Value),yX ds=true->DtAll X.K H ds xs->Vals xs us->RdAll s.heap ds us
 | [],_,us,_,h,r=>by
  cases (show _=[] from h);cases r;exact rfl
 | d::ds,_,us,t,⟨x,r,h1,h2,h3⟩,rv=>by
  have t:(UA d&&yX ds)=true:=t;rw [Zg] at t;subst h1;cases rv with
  | cons r1 r2=>exact ⟨_,_,rfl,Dt.rdT I d x _ t.1 h2 r1,DtAll.rdT I ds r _ t.2 h3 r2⟩
end
def UV (k:PyData):Prop:=UA k=true/\XX k<=6
def TRel (K:ZZF)(H:Hp)(p:PyData×V)(q:PyData×Addr×Value):Prop:=p.1=q.1/\Dt K H p.1 (.ref q.2.1)/\RelV p.2 q.2.2
def ThD (P:Program)(w:World)(K:ZZF)(H:Hp)(d:Addr)(ps:List (PyData×V)):Prop :=
 ps.length<=10000/\(∀ p∈ps,UV p.1)/\(ps.map (·.1)).Nodup/\∃ xs:List (PyData×Addr×Value),H d=some (IS d (xs.map (entryOfKey (yN P w))))/\Paired (TRel K H) ps xs
theorem TRel.keys {K:ZZF}:∀ {ps:List (PyData×V)} {xs:List (PyData×Addr×Value)},Paired (TRel K H) ps xs->xs.map (·.1)=ps.map (·.1)
 | _,_,.nil=>rfl
 | _,_,.cons r t=>by rw [Zw,Zw,TRel.keys t,r.1]
theorem TRel.at {K:ZZF}{k:PyData}:∀ {ps:List (PyData×V)} {xs:List (PyData×Addr×Value)},Paired (TRel K H) ps xs->(atKey xs k=none/\Uh ps k=none)\/∃ p v,atKey xs k=some p/\Uh ps k=some v/\RelV v p.2
 | _,_,.nil=>.inl ⟨rfl,rfl⟩
 | p::ps,q::xs,.cons r t=>by
  unfold atKey Uh;rw [YL,YL];have e:p.1=q.1:=r.1
  by_cases h:q.1=k
  ·rw [Zd h,Zd (show p.1=k by rw [e];exact h)];exact .inr ⟨q.2,p.2,rfl,rfl,r.2.2⟩
  ·rw [Zo h,Zo (show ¬p.1=k by rw [e];exact h)];exact TRel.at t
theorem TRel.is (I:Inv X pins σ H s):∀ {ps:List (PyData×V)} {xs:List (PyData×Addr×Value)},(∀ p∈ps,UV p.1)->Paired (TRel X.K H) ps xs->∀ x∈xs,(yN X.prog X.w).is s.heap x.1 x.2.1
 | _,_,_,.nil,x,h=>nomatch h
 | p::ps,q::xs,hk,.cons r t,x,h=>by
  rcases Zi.mp h with rfl|h
  ·obtain ⟨k1,k2⟩:=hk p Zc;rw [←r.1];exact ⟨Dt.rdT I _ _ _ k1 r.2.1 rfl,k1,k2⟩
  ·exact TRel.is I (fun p hp=>hk p (Zb _ hp)) t x h
theorem ThD.heap {d:Addr}{ps:List (PyData×V)}(I:Inv X pins σ H s)(T:ThD X.prog X.w X.K H d ps):∃ xs,H d=some (IS d (xs.map (entryOfKey (yN X.prog X.w))))/\Paired (TRel X.K H) ps xs/\s.heap.DictOfH (yN X.prog X.w) d xs/\(d==sysModules)=false:=by
 obtain ⟨hl,hk,nd,xs,e,r⟩:=T;obtain ⟨⟨o,ep,h1,h2,h3,h4⟩,_⟩:(∃ o ep,s.heap.get? d=some o/\o.ExactDict/\o.data=.dict (xs.map (entryOfKey (yN X.prog X.w))).toArray ep/\(d==sysModules)=false)/\_:=I.hok d _ e;exact ⟨xs,e,r,⟨o,_,ep,h1,h2,h3,by simp,TRel.is I hk r,by rw [TRel.keys r];exact nd⟩,h4⟩
theorem room8 {A:Around}(hu:A.units+64<cLine)(prog:Program)(w:World):(yN prog w).room A.in1:=by
 show A.units+1+8<cLine;omega
theorem key_is (I:Inv X pins σ H s){k:PyData}{a:Addr}(hk:UV k)(h:Dt X.K H k (.ref a)):(yN X.prog X.w).is s.heap k a:=⟨Dt.rdT I _ _ _ hk.1 h rfl,hk⟩
end
section
variable {X:Cx}{K:ZZF}
def rInT (P:Program)(w:World)(K:ZZF):R2:=fun y x H Q=>∃ a d ps k,y=.ref a/\x=.ref d/\ThD P w K H d ps/\UV k/\Dt K H k (.ref a)/\Q (.bl (Uh ps k).isSome) H
theorem op_inT (hu:X.A.units+64<cLine):OpR X (compareOp .In) (rInT X.prog X.w X.K):=by
 intro pins s σ H y x v u Q I ry rx h;obtain ⟨a,d,ps,k,rfl,rfl,T,hk,ha,q⟩:=h;cases ry;cases rx;obtain ⟨xs,_,r,dd,hd⟩:=T.heap I;refine wpAny_in_heap (room8 hu _ _) (key_is I hk ha) hd dd ⟨.bl _,H,I.tok _,?_,q⟩
 rcases TRel.at (k:=k) r with ⟨e1,e2⟩|⟨p,v,e1,e2,_⟩
 ·rw [e1,e2];rfl
 ·rw [e1,e2];rfl
def tTGet (P:Program)(w:World)(K:ZZF)(td ty:TE):TE:=fun σ H Q=>td σ H fun x H1=>ty σ H1 fun y H2=>∃ a d ps k v,x=.ref d/\y=.ref a/\ThD P w K H2 d ps/\UV k/\Dt K H2 k (.ref a)/\Uh ps k=some v/\Q v H2
theorem pe_tget {o i:Expr}{td ty:TE}{pos:Pos}(hu:X.A.units+64<cLine)(ho:PE X o td)(hi:PE X i ty)(hs:NoSl i):PE X (.Subscript o i pos) (tTGet X.prog X.w X.K td ty):=by
 intro pins s σ H Q I h;refine By PySem.F.slot_dict_getitem.lookup hs (thn (ho pins s σ H _ I h) fun u s1 ⟨x,H1,I1,rx,q1⟩=>thn (hi pins s1 σ H1 _ I1 q1) fun iv s2 ⟨y,H2,I2,ry,a,d,ps,k,v,ex,ey,T,hk,ha,hv,q2⟩=>?_);subst ex ey;obtain rfl:u=Value.ref d:=rx;obtain rfl:iv=Value.ref a:=ry;obtain ⟨xs,_,r,dd,hd⟩:=T.heap I2;refine ⟨dd.typeIs,?_⟩
 rcases TRel.at (k:=k) r with ⟨e1,e2⟩|⟨p,v',e1,e2,rv⟩
 ·rw [hv] at e2;cases e2
 ·rw [hv] at e2;cases e2;exact wpAny_getItem_heap (room8 hu _ _) (key_is I2 hk ha) dd e1 ⟨v,H2,I2.tok _,rv,q2⟩
def sTPut (P:Program)(w:World)(K:ZZF)(td ty tv:TE):TS:=fun D σ H=>tv σ H fun v H1=>td σ H1 fun x H2=>ty σ H2 fun y H3=>∃ a d ps k,x=.ref d/\y=.ref a/\ThD P w K H3 d ps/\ps.length<10000/\UV k/\Dt K H3 k (.ref a) /\
 ∀ o,ThD P w K (upd H3 d o) d (putK ps k v)->(∃ es,o=IS d es)->D.nx σ (upd H3 d o)
theorem kG {α β:Type}{F:α->β->Prop}:∀ {l l':List α} {m m':List β},Paired F l m->Paired F l' m'->Paired F (l++l') (m++m')
 | _,_,_,_,.nil,h=>h
 | _,_,_,_,.cons r t,h=>.cons r (kG t h)
theorem TRel.repl {K:ZZF}{H:Hp}{k:PyData}{v:V}{u:Value}(rv:RelV v u):∀ {ps:List (PyData×V)} {xs:List (PyData×Addr×Value)},Paired (TRel K H) ps xs->Paired (TRel K H) (ps.map fun p=>if p.1=k then (p.1,v) else p) (xs.map (putAt k u))
 | _,_,.nil=>.nil
 | p::ps,q::xs,.cons r t=>by
  rw [Zw,Zw];refine .cons ?_ (TRel.repl rv t);have e:p.1=q.1:=r.1;unfold putAt
  by_cases h:q.1=k
  ·rw [Zz h,Zz (show p.1=k by rw [e];exact h)];exact ⟨r.1,r.2.1,rv⟩
  ·rw [Zy h,Zy (show ¬p.1=k by rw [e];exact h)];exact r
theorem TRel.put {K:ZZF}{H:Hp}{k:PyData}{a:Addr}{v:V}{u:Value}{ps:List (PyData×V)}{xs:List (PyData×Addr×Value)}(r:Paired (TRel K H) ps xs)(ha:Dt K H k (.ref a))(rv:RelV v u):Paired (TRel K H) (putK ps k v) (storedH xs k a u):=by
 have e:(ps.any fun kv=>decide (kv.1=k))=(atKey xs k).isSome:=by
  rcases TRel.at (k:=k) r with ⟨e1,e2⟩|⟨p,v',e1,e2,_⟩
  ·rw [e1];refine YC.mpr fun z=>?_;obtain ⟨kv,hm,hk⟩:=Z7.mp z;exact Is e2 (Za.mpr ⟨kv,hm,ZB hk⟩)
  ·obtain ⟨kv,hm,hk⟩:=Za.mp (uE e2);rw [e1,Z7.mpr ⟨kv,hm,Zd hk⟩];rfl
 unfold putK storedH;rw [e]
 split
 ·exact TRel.repl rv r
 ·exact kG r (.cons ⟨rfl,ha,rv⟩ .nil)
theorem put_keyT {ps:List (PyData×V)}{k:PyData}{v:V}(h:∀ p∈ps,UV p.1)(hk:UV k):∀ p∈putK ps k v,UV p.1:=by
 unfold putK
 split
 ·intro p hp;obtain ⟨q,hq,rfl⟩:=Za.mp hp
  split
  ·exact h q hq
  ·exact h q hq
 ·intro p hp
  rcases Zs.mp hp with hp|hp
  ·exact h p hp
  ·rw [Q7.mp hp];exact hk
theorem put_ndT {ps:List (PyData×V)}{k:PyData}{v:V}(h:(ps.map (·.1)).Nodup):((putK ps k v).map (·.1)).Nodup:=by
 unfold putK
 split
 ·have e:(ps.map fun kv=>if kv.1=k then (kv.1,v) else kv).map (·.1)=ps.map (·.1):=by
   rw [Zt];refine ZW fun p _=>?_;show (if p.1=k then (p.1,v) else p).1=p.1
   split<;>rfl
  rw [e];exact h
 ·rename_i hn;rw [Zf];refine jB h fun z=>hn ?_;obtain ⟨p,hp,e⟩:=Za.mp z;exact Z7.mpr ⟨p,hp,Zd e⟩
theorem ps_tput {o i value:Expr}{td ty tv:TE}{pos pos':Pos}(hu:X.A.units+64<cLine)(ho:PE X o td)(hi:PE X i ty)(hv:PE X value tv)(hs:swapsWith value (some (.Subscript o i pos')) pos.line X.env=pure false) :
  PS X (.Assign [.Subscript o i pos'] value pos) (sTPut X.prog X.w X.K td ty tv):=by
 intro pins s σ H D I h;refine wpAny_Assign_Subscript (thn (hv pins s σ H _ I h) fun r s1 ⟨v,H1,I1,rv,q1⟩=>thn (ho pins s1 σ H1 _ I1 q1) fun u s2 ⟨x,H2,I2,rx,q2⟩=>thn (hi pins s2 σ H2 _ I2 q2) fun iv s3 ⟨y,H3,I3,ry,a,d,ps,k,ex,ey,T,hl,hk,ha,q3⟩=>?_) hs;subst ex ey;obtain rfl:u=Value.ref d:=rx;obtain rfl:iv=Value.ref a:=ry;obtain ⟨xs,e,rel,dd,hd⟩:=T.heap I3;have hz:xs.length<=sizeLine:=by rw [←Paired.length rel];exact An.le_line (by omega)
 refine wpAny_setItem_heap (hsz:=hz) (room8 hu _ _) (key_is I3 hk ha) dd fun h' dd' hs'=>?_;obtain ⟨ob,es,ep,g1,g2,g3,g4,_,_⟩:=dd';have g3':ob.data=.dict ((storedH xs k a r).map (entryOfKey (yN X.prog X.w))).toArray ep:=by rw [g3,←g4]
 have mu:Mut (H3 d):=by rw [e];exact True.intro
 have I4:=XU (t':=s3.toks+(yN X.prog X.w).draws k) I3 mu hs' ⟨ob,g1⟩ (rawD_ok (H:=upd H3 d (IS d ((storedH xs k a r).map (entryOfKey (yN X.prog X.w))))) g1 g2 g3' hd);have nt:∀ xs,¬Rd H3 d (.tup xs):=fun ys z=>by
  rcases z with z|⟨o',z⟩
  ·rw [e] at z;cases z
  ·rw [e] at z;cases z
 refine ⟨σ,_,I4,q3 _ ⟨?_,put_keyT T.2.1 hk,put_ndT T.2.2.1,storedH xs k a r,zB,?_⟩ ⟨_,rfl⟩⟩
 ·have:=xX ps k v;omega
 ·have r2:Paired (TRel X.K (upd H3 d (IS d ((storedH xs k a r).map (entryOfKey (yN X.prog X.w)))))) ps xs:=by
   have key:∀ {ps:List (PyData×V)} {xs:List (PyData×Addr×Value)},(∀ p∈ps,UV p.1)->Paired (TRel X.K H3) ps xs->∀ o,Paired (TRel X.K (upd H3 d o)) ps xs:=by
    intro ps xs hkk r
    induction r with
    | nil=>intro _;exact .nil
    | cons r1 _ ih=>intro o;exact .cons ⟨r1.1,Dt.other nt _ _ (hkk _ Zc).1 r1.2.1,r1.2.2⟩ (ih (fun p hp=>hkk p (Zb _ hp)) o)
   exact key T.2.1 rel _
  exact TRel.put r2 (Dt.other nt _ _ hk.1 ha) rv
theorem pe_dnewX {pos:Pos}:PE X (.Dict [] [] pos) (fun _ H Q=>∀ p o,H p=none->ThD X.prog X.w X.K (upd H p o) p []->(∃ es,o=IS p es)->Q (.ref p) (upd H p o)):=by
 intro pins s σ H Q I h;have hn:H s.heap.objs.size=none:=I.hok.fresh (Ze _);have hS:(s.heap.objs.size==sysModules)=false:=Ys.mpr (Ne.symm (Zu I.big));exact wpAny_Dict_empty ⟨.ref s.heap.objs.size,_,I.laid (a:=s.heap.objs.size) (o:=IS s.heap.objs.size []) (t':=s.toks) (fun _ _ q=>Q9 _ q) (Ze _) (rawD_ok (ep:=0) (Zm _ rfl) ⟨rfl,rfl,rfl⟩ rfl hS),rfl,
  h _ _ hn ⟨ZJ _,fun _ z=>(nomatch z),YE,[],zB,.nil⟩ ⟨_,rfl⟩⟩
end
end L2
namespace L2
open PySem PySem.Spec PyProof.Rows
structure Met (P:Program)(w:World)(K:ZZF)(mg:Str->Option Value)(base:Heap)(C:Addr)(k:Nat)(m:Str)(ps:List Str)(sp:Sp):Prop where
 ex:∃ (f:Addr) (fd:FuncData),FnOk P w K mg base CX0 k f fd ps sp/\Meth K C m f/\Binds K fd ps []
structure MetX (P:Program)(w:World)(K:ZZF)(mg:Str->Option Value)(base:Heap)(C:Addr)(k:Nat)(m:Str)(ps:List Str)(sp:Sp):Prop where
 ex:∃ (f:Addr) (fd:FuncData),FnOk P w K mg base (CXF P w) k f fd ps sp/\Meth K C m f/\Binds K fd ps []
def tMethX (C:Addr)(m:Str)(sp:Sp)(R:St->Hp->Value->Prop)(ta:TE)(t:TA):TE:=fun σ H Q=>ta σ H fun x H1=>∃ a dx fs,x=.ref a/\H1 a=some (.ins C dx fs)/\fs.lookup m=none /\
 t σ H1 fun vs H2=>sp (x::vs) H2 Q (fun cls _ H'=>R σ H' cls)
section
variable {X:Cx}{C:Addr}{k:Nat}{m:Str}{ps:List Str}{sp:Sp}{o e:Expr}{es:List Expr}{ta:TE}{t:TA}{apos pos:Pos}{R:St->Hp->Value->Prop}
theorem XN {pl:Sem Bool}(he:PE X o ta)(c:Cls X.K C)(M:Met X.prog X.w X.K X.mg X.base C k m ps sp)(hr:Room k X.A)(ha:PA X (e::es) t)
  (hst:starEach (e::es) X.env=(false,eval e X.env)::starEach es X.env:=by rfl) (hpl:(backTo pos (starEach es X.env)).any (·.1)=false:=by rfl)
  (ht:eval (.Call (.Attribute o m apos) (e::es) [] pos) X.env=(do
   let ov ←eval o X.env
   standAt apos.atName
   let (f,first) ←holding [ov] (getMethod ov m pl)
   callWith pos f first (backTo pos (starEach (e::es) X.env)) (backToKw pos (keywordEach [] X.env))):=by rfl) :
  PE X (.Call (.Attribute o m apos) (e::es) [] pos) (tMeth C m sp [] E0 ta t):=by
 obtain ⟨f,fd,F,hm,hb⟩:=M.ex;exact pe_meth (pl:=pl) he c hm F hr hb .nil pass0 ha hst hpl ht
theorem vF {pl:Sem Bool}(he:PE X o ta)(c:Cls X.K C)(M:Met X.prog X.w X.K X.mg X.base C k m ps sp)(hr:Room k X.A)
  (ht:eval (.Call (.Attribute o m apos) [] [] pos) X.env=(do
   let ov ←eval o X.env
   standAt apos.atName
   let (f,first) ←holding [ov] (getMethod ov m pl)
   callWith pos f first (backTo pos (starEach [] X.env)) (backToKw pos (keywordEach [] X.env))):=by rfl) :
  PE X (.Call (.Attribute o m apos) [] [] pos) (tMeth C m sp [] E0 ta tNil):=by
 obtain ⟨f,fd,F,hm,hb⟩:=M.ex;exact pe_meth0 (pl:=pl) he c hm F hr hb .nil pass0 ht
theorem yO {pl:Sem Bool}(he:PE X o ta)(c:Cls X.K C)(M:MetX X.prog X.w X.K X.mg X.base C k m ps sp)(hr:Room k X.A)(hx:Raises X R)(ha:PA X (e::es) t)
  (hst:starEach (e::es) X.env=(false,eval e X.env)::starEach es X.env:=by rfl) (hpl:(backTo pos (starEach es X.env)).any (·.1)=false:=by rfl)
  (ht:eval (.Call (.Attribute o m apos) (e::es) [] pos) X.env=(do
   let ov ←eval o X.env
   standAt apos.atName
   let (f,first) ←holding [ov] (getMethod ov m pl)
   callWith pos f first (backTo pos (starEach (e::es) X.env)) (backToKw pos (keywordEach [] X.env))):=by rfl) :
  PE X (.Call (.Attribute o m apos) (e::es) [] pos) (tMethX C m sp R ta t):=by
 obtain ⟨f,fd,F,hm,hb⟩:=M.ex;intro pins s σ H Q I h;refine Vk (pl:=pl) (thn (he pins s σ H _ I h) fun u s1 ⟨x,H1,I1,rx,a,dx,fs,ex,ea,l,q⟩=>?_) ht;subst ex;obtain rfl:u=Value.ref a:=rx;refine uC I1 ea c hm l ?_;refine Jm (first:=[.ref a]) (h₀:=X.base) I.ok.mod.kin hm.kp (thn (ha pos pins s1 σ H1 _ I1 q) fun us s2 ⟨vs,H2,I2,r,q2⟩=>⟨I2.kIn,?_⟩) hst hpl;exact run_fnX (us:=.ref a::us) (vs:=.ref a::vs) F hr hb hx I2 (.cons rfl r) q2
end
structure Mak (P:Program)(w:World)(K:ZZF)(mg:Str->Option Value)(base:Heap)(C:Addr)(k:Nat)(x:Str)(ps:List Str)(sp:Sp):Prop where
 ex:∃ (f:Addr) (fd:FuncData),FnOk P w K mg base CX0 k f fd ps sp/\Mk K C f/\Binds K fd ps []/\mg x=some (.ref C)
theorem pe_makC {X:Cx}{C:Addr}{k:Nat}{x:Str}{ps:List Str}{sp:Sp}{e:Expr}{es:List Expr}{t:TA}{p pos:Pos}(M:Mak X.prog X.w X.K X.mg X.base C k x ps sp)(hr:Room (k+1) X.A)(ha:PA X (e::es) t)(hg:Gl X x:=by rfl)
  (hdb:(x==("__debug__":Str))=false:=by decide) (he:starEach (e::es) X.env=(false,eval e X.env)::starEach es X.env:=by rfl) (hpl:(backTo pos (starEach es X.env)).any (·.1)=false:=by rfl) :
  PE X (.Call (.Name x p) (e::es) [] pos) (tMake C sp [] E0 t):=by
 obtain ⟨f,fd,F,hm,hb,hx⟩:=M.ex;exact pe_make hm F hr hg hx hb .nil pass0 ha hdb he hpl
theorem G3 (x:Str)(i j:Nat):An.cs (Builtin.Str.strSub x i j)=((An.cs x).take j).drop i:=by
 show (x.cps.extract i j).toList=_;rw [Array.toList_extract,List.extract_eq_drop_take,List.drop_take]
theorem XD (x:Str)(c i:Nat)(t u:Tok)(r:List Nat)(ho:Builtin.Str.occurrences x ⟨#[c]⟩ 0 x.length 1=i::r)(hz:x.length<=100000):Meets (Builtin.«str.partition» ⟨[.str x t,.str ⟨#[c]⟩ u],[]⟩)
  (fun _ R s=>R (.ok (.ret (.ref s.heap.objs.size))) { s with heap:=s.heap.push { cls:=.type "tuple",data:=.seq #[.str (Builtin.Str.strSub x 0 i) s.toks,.str ⟨#[c]⟩ u,.str (Builtin.Str.strSub x (i+1) x.length) (s.toks+1)] },toks:=s.toks+1+1 }) :=
 .of_wp fun prog w A R s h=>by
  obtain ⟨raising,e⟩:=partition_tree x ⟨#[c]⟩ t u;rw [e,Zy (show ¬((⟨#[c]⟩:Str).length==0)=true from (by show ¬(1==0)=true;decide)),ho];have z1:(Builtin.Str.strSub x 0 i).length<=sizeLine:=by
   rw [An.length_cs,G3,Jg,ZC];refine An.le_line ?_;rw [←An.length_cs];omega
  have z2:(Builtin.Str.strSub x (i+(⟨#[c]⟩:Str).length) x.length).length<=sizeLine:=by
   rw [An.length_cs,G3,Jg,ZC];refine An.le_line ?_;rw [←An.length_cs];omega
  refine Q6 (wpAny_mkStr ?_ z1);refine Q6 (wpAny_mkStr ?_ z2);refine Q6 (wpAny_newTuple ?_ (by show 3<=sizeLine;decide));exact Q8 ⟨_,rfl,h⟩
section
variable {X:Cx}
def rPart:V->List V->Hp->VK->Prop:=fun x vs H Q=>∃ (u v:Str) (c:Nat),x=.str (u++⟨#[c]⟩++v)/\vs=[.str ⟨#[c]⟩]/\c∉An.cs u/\(u++⟨#[c]⟩++v).length<=100000/\∀ p,H p=none->Q (.ref p) (upd H p (.tup [.str u,.str ⟨#[c]⟩,.str v]))
theorem uN:MtR X "str.partition" rPart:=by
 intro pins s σ H x xs v us Q I rx rs h;obtain ⟨a,b,c,rfl,rfl,hc,hz,q⟩:=h;obtain ⟨t,rfl⟩:=rx;obtain ⟨w,rfl,t',rfl⟩:=vals1 rs;have ecs:An.cs (a++⟨#[c]⟩++b)=An.cs a++c::An.cs b:=by
  rw [An.cs_append,An.cs_append];show An.cs a++[c]++An.cs b=_;simp
 have hat:(An.cs (a++⟨#[c]⟩++b))[(An.cs a).length]?=some c:=by rw [ecs];simp
 have hi:∃ r,Builtin.Str.occurrences (a++⟨#[c]⟩++b) ⟨#[c]⟩ 0 (a++⟨#[c]⟩++b).length 1=(An.cs a).length::r:=by
  rcases StrLaws.occ_head_from (a++⟨#[c]⟩++b) ⟨#[c]⟩ 0 1 (Ze 1) with ⟨h0,hn⟩|⟨k,r,h0,hlo,hk,hn⟩
  ·exact absurd ((StrLaws.subAt_one _ c _).mpr hat) (hn _ (ZJ _))
  ·have hm:=(StrLaws.subAt_one _ c k).mp hk;have hm:(An.cs (a++⟨#[c]⟩++b))[k]?=some c:=hm
   rcases Vg k (An.cs a).length with z|z|z
   ·rw [ecs,ZN z] at hm;exact absurd (Zk hm) hc
   ·exact ⟨r,by rw [h0,z]⟩
   ·exact absurd ((StrLaws.subAt_one _ c _).mpr hat) (hn _ (ZJ _) z)
 obtain ⟨r,hi⟩:=hi;refine Vs F.slot_str_partition (J4 s _ t) F.entry_str_partition (F.args_str_partition_2 _ _) (XD _ c _ t t' r hi hz) ?_;have e1:Builtin.Str.strSub (a++⟨#[c]⟩++b) 0 (An.cs a).length=a:=An.cs_inj (by rw [G3,ecs,List.drop_zero,List.take_left]);have e2:Builtin.Str.strSub (a++⟨#[c]⟩++b) ((An.cs a).length+1) (a++⟨#[c]⟩++b).length=b:=An.cs_inj (by
  rw [G3,An.length_cs,ZA,ecs];rw [show An.cs a++c::An.cs b=(An.cs a++[c])++An.cs b by simp];rw [show (An.cs a).length+1=(An.cs a++[c]).length by simp];exact List.drop_left)
 rw [e1,e2];have hn:H s.heap.objs.size=none:=I.hok.fresh (Ze _);refine ⟨.ref s.heap.objs.size,_,I.laid (t':=s.toks+1+1) (a:=s.heap.objs.size) (o:=.tup [.str a,.str ⟨#[c]⟩,.str b]) (fun _ _ q=>Q9 _ q) (Ze _) ?_,rfl,q _ hn⟩;exact ⟨by show 3<=sizeLine;decide,_,.cons ⟨_,rfl⟩ (.cons ⟨_,rfl⟩ (.cons ⟨_,rfl⟩ .nil)),⟨_,Zm _ rfl,rfl,_,rfl,rfl⟩⟩
def Ur (n:Nat):Str:=Str.ofString (toString ((n:Nat):Int))
theorem call_intT:CallR X (.type "int") (fun xs H Q=>∃ n:Nat,xs=[.str (Ur n)]/\n<10000000000/\Q (.int n) H):=by
 intro pins s σ H xs us Q I r h;obtain ⟨n,rfl,hn,q⟩:=h;obtain ⟨u,rfl,t,rfl⟩:=vals1 r;exact PySem.W.KIN.call_num (by omega) (by omega) ⟨.int n,H,I.tok _,⟨_,rfl⟩,q⟩
def tF3 (t1:TE)(y:Str)(t2:TE):TE:=fun σ H Q=>t1 σ H fun v H1=>∃ x:Str,v=.str x/\x.length<=100000/\y.length<=1000/\t2 σ H1 fun u H2=>∃ n:Nat,u=.int n/\n<1000000/\Q (.str (x++y++Ur n)) H2
theorem pe_f3 {e1 e2:Expr}{y:Str}{k:Nat}{p1 p2 p3 pos:Pos}{t1 t2:TE}(h1:PE X e1 t1)(h2:PE X e2 t2):PE X (.JoinedStr [.FormattedValue e1 (-1) none p1,.Constant (.str y) k p2,.FormattedValue e2 (-1) none p3] pos) (tF3 t1 y t2):=by
 intro pins s σ H Q I h;refine JoinedStr_many (joinParts_cons (FormattedValue_plain (thn (h1 pins s σ H _ I h) fun v s1 ⟨x1,H1,I1,r1,x,ex,xl,yl,q1⟩=>?_)));subst ex;obtain ⟨t,rfl⟩:=r1;refine formatField_str (fun t' tk=>⟨?_,?_⟩) (An.le_line (by omega))
 ·show (Str.empty++x).length<=sizeLine;rw [An.len_append];exact An.le_line (by show 0+x.length<=_;omega)
 refine joinParts_cons (thn ((pe_str:PE X (.Constant (.str y) k p2) _) pins _ σ H1 (fun v H'=>v=.str y/\H'=H1) (I1.tok tk) ⟨rfl,rfl⟩) fun v2 s2 ⟨x2,H2,I2,r2,e2,eH⟩=>?_);subst e2 eH;obtain ⟨t2',rfl⟩:=r2;refine ⟨?_,?_⟩
 ·show (Str.empty++x++y).length<=sizeLine;rw [An.len_append,An.len_append];exact An.le_line (by show 0+x.length+y.length<=_;omega)
 refine joinParts_cons (FormattedValue_plain (thn (h2 pins s2 σ H2 _ I2 q1) fun v3 s3 ⟨x3,H3,I3,r3,n,en,nl,q3⟩=>?_));subst en;obtain ⟨t3,rfl⟩:=r3;have hlog:((n:Int)).natAbs.log2<1920:=by
  rw [VL]
  rcases Y5 n with z|z
  ·subst z;decide
  ·have:n.log2<20:=(Nat.log2_lt (by omega)).mpr (by omega);omega
 have hz:(Str.empty++x++y++Ur n).length<=sizeLine:=by
  rw [An.len_append,An.len_append,An.len_append];have:=Vv hlog;exact An.le_line (by show 0+x.length+y.length+(Ur n).length<=_;have e:(Ur n).length<=1921:=this;omega)
 refine formatField_int_small hlog ⟨hz,joinParts_nil ⟨.str _,H3,I3.tok _,⟨_,rfl⟩,?_⟩ hz⟩;have e:Str.empty++x++y++(Str.ofString (toString (n:Int)))=x++y++Ur n:=An.cs_inj (by
  rw [An.cs_append,An.cs_append,An.cs_append,An.cs_append,An.cs_append];rfl)
 rw [e];exact q3
end
section
variable {X:Cx}
theorem IV {P:Program}{w:World}:∀ {kvs:List (Key×V)} {vs:List (Key×Value)} {us:List Value},KV kvs vs->us.length=vs.length->(∀ (j:Nat) (v:Value),us[j]?=some v->∃ k x,vs[j]?=some (k,x)/\(mixKind P w).is k v=true)->Vals (kvs.map fun kv=>kV kv.1) us
 | [],_,[],.nil,_,_=>.nil
 | [],_,_::_,.nil,hl,_=>by cases hl
 | _::_,_,[],.cons _ _,hl,_=>by cases hl
 | p::_,q::_,u::us,.cons r1 r2,hl,hm=>by
  obtain ⟨k,x,e,hk⟩:=hm 0 u rfl;have e:q=(k,x):=by simpa using e
  have e1:p.1=k:=by rw [show p.1=q.1 from r1.1,e]
  refine .cons (by
   show RelV (kV p.1) u;rw [e1];cases k with
   | inl i =>
    have hk:Value.isInt i u=true:=hk;cases u<;>simp [Value.isInt] at hk;subst hk;exact ⟨_,rfl⟩
   | inr z =>
    obtain ⟨t,rfl⟩:=YB (show Value.isStrOf z u=true from hk);exact ⟨t,rfl⟩) (IV (P:=P) (w:=w) r2 (by simpa using hl) fun j v hj=>?_)
  obtain ⟨k2,x2,q1,q2⟩:=hm (j+1) v (by simpa using hj);exact ⟨k2,x2,by simpa using q1,q2⟩
theorem call_listD (hc:X.calm=true):CallR X (.type "list") (fun xs H Q=>∃ a kvs,xs=[.ref a]/\H a=some (.dK kvs)/\∀ l,H l=none->Q (.ref l) (upd H l (.lst (kvs.map fun kv=>kV kv.1)))):=by
 intro pins s σ H xs us Q I r h;obtain ⟨a,kvs,rfl,ha,q⟩:=h;obtain ⟨u,rfl,ru⟩:=vals1 r;cases ru;obtain ⟨hz,hS,vs,rel,o,es,ep,ho,hx,hd,hk,hp,hnd⟩:kvs.length<=sizeLine/\(a==sysModules)=false/\∃ vs,KV kvs vs/\s.heap.DictOf (mixKind X.prog X.w) a vs:=I.hok a _ ha;have da:s.heap.DictAt (mixKind X.prog X.w) a vs ep:=⟨o,es,ho,hx,hd,hk,hp,hnd⟩;have hlen:kvs.length=vs.length:=Paired.length rel;refine PySem.W.kdl_call (V0 (knd:=mixKind X.prog X.w) (kvs:=vs) (ep:=ep) hS) (I.ok.hd hc) da (by omega) fun h' tk acc c hkp hl hacc=>?_;have rv:Vals (kvs.map fun kv=>kV kv.1) acc.toList:=IV rel (by rw [ZE];exact hacc.1) fun j v e=>hacc.2 j v (by rw [←Yh];exact e);exact ⟨.ref s.heap.objs.size,_,I.laid (t':=tk) hkp (Ze _) (show ObjOk X.prog X.w _ h' _ (.lst (kvs.map fun kv=>kV kv.1)) from ⟨by rw [Q5];exact hz,acc.toList,c,rv,hl⟩),rfl,q _ (I.hok.fresh (Ze _))⟩
end
end L2
namespace An
open PySem L2
def Uw (c:Nat):Bool:=decide (32<=c)&&decide (c<=126)&&decide (c≠37)
def UM (x:Str):Bool:=decide (x.length<=20)&&(cs x).all Uw
def Uy (c:Nat):Bool:=decide (97<=c)&&decide (c<=122)
def zS (x:Str):Bool:=decide (1<=x.length)&&decide (x.length<=8)&&(cs x).all Uy
def UJ:PyData->Bool
 | .str x=>UM x
 | _=>false
def UW:PyData->Bool
 | .tuple ds=>ds.all UJ
 | _=>false
def uJ:PyData->Bool
 | .str x=>zS x
 | _=>false
def Ux:PyData->Bool
 | .str _=>true
 | _=>false
def UO:PyData->Bool
 | .tuple [l,n]=>uJ l&&Ux n
 | _=>false
mutual
def small:PyData->Bool
 | .str x=>decide (x.length<=1000)
 | .list ds=>decide (ds.length<=1000)&&yF ds
 | .tuple ds=>decide (ds.length<=1000)&&yF ds
 | _=>true
def yF:List PyData->Bool
 | []=>true
 | d::ds=>small d&&yF ds
end
theorem yL:∀ {ds:List PyData} {i:Nat} {d:PyData},yF ds=true->ds[i]?=some d->small d=true
 | [],_,_,_,h=>by cases h
 | e::ds,0,d,h,q=>by
  have h:(small e&&yF ds)=true:=h;have q:e=d:=Option.some.inj q;rw [Zg] at h;rw [←q];exact h.1
 | e::ds,i+1,d,h,q=>by
  have h:(small e&&yF ds)=true:=h;rw [Zg] at h;exact yL h.2 (by simpa using q)
theorem xY {ds:List PyData}(h:small (.tuple ds)=true):ds.length<=1000/\yF ds=true:=by
 have h:(decide (ds.length<=1000)&&yF ds)=true:=h;rw [Zg] at h;exact ⟨ZB h.1,h.2⟩
theorem lt_one (a c:Nat):[a]<[c]↔a<c:=by
 rw [Yt];constructor
 ·rintro (h|⟨_,h⟩)
  ·exact h
  ·exact absurd h (by simp)
 ·exact .inl
theorem Bm {p q:Prop} [Decidable p] [Decidable q](h:¬p↔q):(!decide p)=decide q:=by
 by_cases hp:p
 ·rw [Zd hp,Zo (fun z=>h.mpr z hp)];rfl
 ·rw [Zo hp,Zd (h.mp hp)];rfl
theorem le_one (c a:Nat)(x:Str)(hx:x.cps.toList=[a]):(!decide ((⟨#[c]⟩:Str).cps.toList<x.cps.toList))=decide (a<=c):=by
 rw [hx];exact Bm (by show ¬[c]<[a]↔_;rw [lt_one];omega)
theorem one_le (c a:Nat)(x:Str)(hx:x.cps.toList=[a]):(!decide (x.cps.toList<(⟨#[c]⟩:Str).cps.toList))=decide (c<=a):=by
 rw [hx];exact Bm (by show ¬[a]<[c]↔_;rw [lt_one];omega)
def spSign:Sp:=fun vs H Q _=>∃ c:Nat,vs=[.str ⟨#[c]⟩]/\Q (.bl (Uw c)) H
def spLine (K:ZZF):Sp:=fun vs H Q _=>∃ (d:PyData) (v:V),vs=[v]/\Dw K H d v/\small d=true/\∀ H',Same H H'->Q (.bl (UJ d)) H'
def Bn (K:ZZF):Sp:=fun vs H Q _=>∃ (d:PyData) (v:V),vs=[v]/\Dw K H d v/\small d=true/\∀ H',Same H H'->Q (.bl (UW d)) H'
def G2 (K:ZZF):Sp:=fun vs H Q _=>∃ (d:PyData) (v:V),vs=[v]/\Dw K H d v/\small d=true/\∀ H',Same H H'->Q (.bl (uJ d)) H'
def spRow (K:ZZF):Sp:=fun vs H Q _=>∃ (d:PyData) (v:V),vs=[v]/\Dw K H d v/\small d=true/\∀ H',Same H H'->Q (.bl (UO d)) H'
theorem yU {α:Type}{l:List α}{f:α->Bool}{i:Nat}{c:α}(h:l[i]?=some c):(l.take (i+1)).map f=(l.take i).map f++[f c]:=by
 rw [Yv,h,Zf];rfl
theorem cs_get {x:Str}{i c:Nat}(h:x.cps[i]?=some c):(cs x)[i]?=some c:=by rw [←h];simp
theorem all_map (l:List α)(f:α->Bool):(l.map f).all id=l.all f:=by
 rw [List.all_map];rfl
end An
namespace L2
open PySem PySem.Spec PyProof.Rows
end L2
namespace An
open PySem L2
mutual
def vR:PyData->Bool
 | .list _=>false
 | .dict _=>false
 | .tuple ds=>yK ds
 | _=>true
def yK:List PyData->Bool
 | []=>true
 | d::ds=>vR d&&yK ds
end
mutual
def kC:PyData->Bool
 | .dict _=>false
 | .list ds=>y8 ds
 | .tuple ds=>y8 ds
 | _=>true
def y8:List PyData->Bool
 | []=>true
 | d::ds=>kC d&&y8 ds
end
mutual
theorem Dw.dt {K:ZZF}{H:Hp}:∀ (d:PyData) (v:V),kC d=true->Dw K H d v->Dt K H d v
 | .none,_,_,h=>h
 | .bool _,_,_,h=>h
 | .int _,_,_,h=>h
 | .str _,_,_,h=>h
 | .list ds,_,t,⟨a,xs,h1,h2,h3⟩=>⟨a,xs,h1,h2,DwAll.dt ds xs t h3⟩
 | .tuple ds,_,t,⟨a,xs,h1,h2,h3⟩=>⟨a,xs,h1,h2,DwAll.dt ds xs t h3⟩
 | .dict _,_,t,_=>by cases t
theorem DwAll.dt {K:ZZF}{H:Hp}:∀ (ds:List PyData) (xs:List V),y8 ds=true->DwAll K H ds xs->DtAll K H ds xs
 | [],_,_,h=>h
 | d::ds,_,t,⟨x,r,h1,h2,h3⟩=>by
  have t:(kC d&&y8 ds)=true:=t;rw [Zg] at t;exact ⟨x,r,h1,Dw.dt d x t.1 h2,DwAll.dt ds r t.2 h3⟩
end
theorem jH:∀ ls:List Str,yK (ls.map .str)=true
 | []=>rfl
 | l::ls=>by
  show (true&&yK (ls.map .str))=true;rw [jH ls];rfl
theorem shaped_of {d:PyData}(h1:d.canLay0=true)(h2:d.depth<=60):SeqAt.shaped d=true:=by
 show (PyData.canLay0 d&&decide (PyData.depth d<=64))=true;rw [h1,Zd (by omega)];rfl
mutual
theorem XB:∀ d:PyData,vR d=true->kC d=true
 | .none,_=>rfl
 | .bool _,_=>rfl
 | .int _,_=>rfl
 | .str _,_=>rfl
 | .list _,t=>by cases t
 | .tuple ds,t=>uL ds t
 | .dict _,t=>by cases t
theorem uL:∀ ds:List PyData,yK ds=true->y8 ds=true
 | [],_=>rfl
 | d::ds,t=>by
  have t:(vR d&&yK ds)=true:=t;rw [Zg] at t;show (kC d&&y8 ds)=true;rw [XB d t.1,uL ds t.2];rfl
end
end An
namespace An
open PySem L2
structure En where
 h:Str
 n:Nat
 d:PyData
def dot:Str:=⟨#[46]⟩
theorem dot_is:(".":Str)=dot:=by decide +kernel
def En.nm (e:En):Str:=e.h++dot++Ur e.n
def nextOf (S:List En)(h:Str):Option Nat:=S.foldl (fun acc e=>if e.h=h then some (max (acc.getD 0) (e.n+1)) else acc) none
theorem Xs (S:List En)(e:En)(h:Str):nextOf (S++[e]) h=if e.h=h then some (max ((nextOf S h).getD 0) (e.n+1)) else nextOf S h:=by
 unfold nextOf;rw [Yw];rfl
structure GoodE (e:En):Prop where
 key:UV e.d
 free:46∉cs e.h
 num:e.n<1000000
 hl:e.h.length<=100
structure GoodS (S:List En):Prop where
 ent:∀ e∈S,GoodE e
 nd:(S.map (·.d)).Nodup
 nn:(S.map En.nm).Nodup
 len:S.length<=2000
theorem GoodS.nil:GoodS []:=⟨fun _ h=>(nomatch h),YE,YE,ZJ _⟩
theorem GoodS.snoc {S:List En}{e:En}(g:GoodS S)(h:GoodE e)(h1:e.d∉S.map (·.d))(h2:e.nm∉S.map En.nm)(h3:S.length<2000):GoodS (S++[e]) :=
 ⟨vD g.ent h,by rw [Zf];exact jB g.nd h1,by rw [Zf];exact jB g.nn h2,by rw [Zh,YO];omega⟩
def Off (fp:List Addr)(H H':Hp):Prop:=∀ b o,b∉fp->H b=some o->H' b=some o
theorem Off.refl (fp:List Addr)(H:Hp):Off fp H H:=fun _ _ _ h=>h
theorem Off.trans {fp:List Addr}{H H1 H2:Hp}(a:Off fp H H1)(b:Off fp H1 H2):Off fp H H2:=fun c o n h=>b c o n (a c o n h)
theorem Off.of {fp:List Addr}{H H':Hp}(s:Same H H'):Off fp H H':=fun b o _ h=>s b o h
theorem Off.upd {fp:List Addr}{H H':Hp}{a:Addr}{o:HO}(h:Off fp H H')(m:a∈fp):Off fp H (L2.upd H' a o):=fun b u n e=>by
 have ne:b≠a:=fun z=>n (by rw [z];exact m);rw [zH ne];exact h b u n e
def flds (d1 d2 d3:Addr):List (Str×V):=[("thing_by_name",.ref d1),("name_by_thing",.ref d2),("next_numbers",.ref d3)]
def NoSeq (H:Hp)(fp:List Addr):Prop:=∀ b∈fp,∃ o,H b=some o/\(∀ xs,o≠.tup xs)/\(∀ xs,o≠.lst xs)/\∀ u v,o≠.frz u v
structure ShAt (P:Program)(w:World)(K:ZZF)(C:Addr)(H:Hp)(a:Addr)(fp:List Addr)(S:List En):Prop where
 good:GoodS S
 at_:∃ (dx d1 d2 d3:Addr) (ts:List Addr) (nx:List (Key×V)),fp=[a,dx,d1,d2,d3]/\(fp).Nodup/\H a=some (.ins C dx (flds d1 d2 d3))/\H dx=some (.own a)/\ts.length=S.length /\
  H d1=some (.dK ((S.zip ts).map fun e=>((Sum.inr e.1.nm:Key),V.ref e.2)))/\ThD P w K H d2 (S.map fun e=>(e.d,V.str e.nm)) /\
  H d3=some (.dK nx)/\nx.length<=S.length/\(∀ h,Uh nx (Sum.inr h:Key)=(nextOf S h).map fun n:Nat=>V.int (n:Int)) /\
  ∀ (i:Nat) (e:En) (t:Addr),S[i]?=some e->ts[i]?=some t->Dt K H e.d (.ref t)
theorem Gb {H:Hp}{b:Addr}{o:HO}(h:H b=some o)(h1:∀ xs,o≠.tup xs)(h2:∀ u v,o≠.frz u v):∀ xs,¬Rd H b (.tup xs):=fun xs z=>by
 rcases z with z|⟨u,z⟩
 ·rw [h] at z;exact h1 xs (Option.some.inj z)
 ·rw [h] at z;exact h2 u _ (Option.some.inj z)
mutual
theorem Dt.off {K:ZZF}{H H':Hp}{fp:List Addr}(n:∀ b∈fp,∀ xs,¬Rd H b (.tup xs))(o:Off fp H H'):∀ (k:PyData) (v:V),UA k=true->Dt K H k v->Dt K H' k v
 | .str x,_,_,h=>h
 | .tuple ds,_,t,⟨a,xs,h1,h2,h3⟩=>by
  refine ⟨a,xs,h1,?_,DtAll.off n o ds xs t h3⟩
  rcases h2 with h2|h2
  ·have ne:a∉fp:=fun z=>n a z xs h2
   rcases h2 with h2|⟨u,h2⟩
   ·exact .inl (.inl (o a _ ne h2))
   ·exact .inl (.inr ⟨u,o a _ ne h2⟩)
  ·exact .inr h2
 | .none,_,t,_=>by cases t
 | .bool _,_,t,_=>by cases t
 | .int _,_,t,_=>by cases t
 | .list _,_,t,_=>by cases t
 | .dict _,_,t,_=>by cases t
theorem DtAll.off {K:ZZF}{H H':Hp}{fp:List Addr}(n:∀ b∈fp,∀ xs,¬Rd H b (.tup xs))(o:Off fp H H'):∀ (ks:List PyData) (vs:List V),yX ks=true->DtAll K H ks vs->DtAll K H' ks vs
 | [],_,_,h=>h
 | k::ks,_,t,⟨x,r,h1,h2,h3⟩=>by
  have t:(UA k&&yX ks)=true:=t;rw [Zg] at t;exact ⟨x,r,h1,Dt.off n o k x t.1 h2,DtAll.off n o ks r t.2 h3⟩
end
theorem ThD.off {P:Program}{w:World}{K:ZZF}{H H':Hp}{fp:List Addr}{d:Addr}{ps:List (PyData×V)}(n:∀ b∈fp,∀ xs,¬Rd H b (.tup xs))(o:Off fp H H')(e:H' d=H d)(T:ThD P w K H d ps):ThD P w K H' d ps:=by
 obtain ⟨hl,hk,nd,xs,e1,r⟩:=T;refine ⟨hl,hk,nd,xs,by rw [e];exact e1,?_⟩;have key:∀ {ps:List (PyData×V)} {xs:List (PyData×Addr×Value)},(∀ p∈ps,UV p.1)->Paired (TRel K H) ps xs->Paired (TRel K H') ps xs:=by
  intro ps xs hkk r
  induction r with
  | nil=>exact .nil
  | cons r1 _ ih=>exact .cons ⟨r1.1,Dt.off n o _ _ (hkk _ Zc).1 r1.2.1,r1.2.2⟩ (ih fun p hp=>hkk p (Zb _ hp))
 exact key hk r
theorem ShAt.off {P:Program}{w:World}{K:ZZF}{C:Addr}{H H':Hp}{a:Addr}{fp gp:List Addr}{S:List En}(n:∀ b∈gp,∀ xs,¬Rd H b (.tup xs))(o:Off gp H H')(dj:∀ b∈fp,b∉gp)(h:ShAt P w K C H a fp S):ShAt P w K C H' a fp S:=by
 obtain ⟨g,dx,d1,d2,d3,ts,nx,rfl,nd,h1,h2,h3,h4,h5,h6,h7,h8,h9⟩:=h;have k:∀ b u,b∈[a,dx,d1,d2,d3]->H b=some u->H' b=some u:=fun b u m e=>o b u (dj b m) e;obtain ⟨xs,e5,_⟩:=h5.2.2.2;refine ⟨g,dx,d1,d2,d3,ts,nx,rfl,nd,k _ _ (by simp) h1,k _ _ (by simp) h2,h3,k _ _ (by simp) h4,ThD.off n o ?_ h5,k _ _ (by simp) h6,h7,h8,fun i e t q1 q2=>Dt.off n o _ _ (g.ent e (Zk q1)).key.1 (h9 i e t q1 q2)⟩;rw [e5];exact k _ _ (by simp) e5
theorem ShAt.same {P:Program}{w:World}{K:ZZF}{C:Addr}{H H':Hp}{a:Addr}{fp:List Addr}{S:List En}(s:Same H H')(h:ShAt P w K C H a fp S):ShAt P w K C H' a fp S :=
 h.off (gp:=[]) (fun b m=>(nomatch m)) (Off.of s) (fun b _=>by simp)
theorem ShAt.noseq {P:Program}{w:World}{K:ZZF}{C:Addr}{H:Hp}{a:Addr}{fp:List Addr}{S:List En}(h:ShAt P w K C H a fp S):NoSeq H fp:=by
 obtain ⟨g,dx,d1,d2,d3,ts,nx,rfl,nd,h1,h2,h3,h4,h5,h6,h7,h8,h9⟩:=h;obtain ⟨xs,e5,_⟩:=h5.2.2.2;intro b m;simp only [Zi,Yi,VM] at m
 rcases m with rfl|rfl|rfl|rfl|rfl
 ·exact ⟨_,h1,fun _ z=>(nomatch z),fun _ z=>(nomatch z),fun _ _ z=>(nomatch z)⟩
 ·exact ⟨_,h2,fun _ z=>(nomatch z),fun _ z=>(nomatch z),fun _ _ z=>(nomatch z)⟩
 ·exact ⟨_,h4,fun _ z=>(nomatch z),fun _ z=>(nomatch z),fun _ _ z=>(nomatch z)⟩
 ·exact ⟨_,e5,fun _ z=>(nomatch z),fun _ z=>(nomatch z),fun _ _ z=>(nomatch z)⟩
 ·exact ⟨_,h6,fun _ z=>(nomatch z),fun _ z=>(nomatch z),fun _ _ z=>(nomatch z)⟩
theorem NoSeq.tup {H:Hp}{fp:List Addr}(h:NoSeq H fp):∀ b∈fp,∀ xs,¬Rd H b (.tup xs):=fun b m xs=>by
 obtain ⟨o,e,n1,_,n2⟩:=h b m;exact Gb e n1 n2 xs
theorem qV {κ:Type} [DecidableEq κ]{kvs:List (κ×V)}{k:κ}{v:V}(h:k∉kvs.map (·.1)):putK kvs k v=kvs++[(k,v)]:=by
 unfold putK;rw [Zy];intro z;obtain ⟨kv,hm,e⟩:=Z7.mp z;exact h (Za.mpr ⟨kv,hm,ZB e⟩)
theorem jG {κ:Type} [DecidableEq κ]:∀ {kvs:List (κ×V)} {k:κ} {v:V},(kvs.map (·.1)).Nodup->(k,v)∈kvs->Uh kvs k=some v
 | [],_,_,_,h=>(nomatch h)
 | p::r,k,v,nd,h=>by
  rw [Zw,Z8] at nd;unfold Uh;rw [YL]
  rcases Zi.mp h with e|h
  ·subst e;rw [Zd (show ((k,v):κ×V).1=k from rfl)];rfl
  ·rw [Zo (show ¬p.1=k from fun z=>nd.1 (Za.mpr ⟨(k,v),h,z.symm⟩))];exact jG nd.2 h
theorem nm_cs (e:En):cs e.nm=cs e.h++46::cs (Ur e.n):=by
 unfold En.nm;rw [cs_append,cs_append];show cs e.h++[46]++cs (Ur e.n)=_;simp
theorem numT_inj {m n:Nat}(h:Ur m=Ur n):m=n:=by
 have h0:cs (Ur m)=cs (Ur n):=by rw [h]
 have h1:=Vl m;have h2:=Vl n;have h3:=PySem.W.KIN.val_back m;have h4:=PySem.W.KIN.val_back n;rw [←h1] at h3;rw [←h2] at h4;have h0:(Str.ofString (toString ((m:Nat):Int))).cps.toList=(Str.ofString (toString ((n:Nat):Int))).cps.toList:=h0;rw [h0] at h3;exact h3.symm.trans h4
theorem split46:∀ {a b r s:List Nat},¬(46∈a)->¬(46∈b)->a++46::r=b++46::s->a=b/\r=s
 | [],[],r,s,_,_,h=>⟨rfl,by injection h⟩
 | [],y::b,r,s,_,hb,h=>by
  injection h with h1 h2;exact absurd (by rw [←h1];exact Zc) hb
 | x::a,[],r,s,ha,_,h=>by
  injection h with h1 h2;exact absurd (by rw [h1];exact Zc) ha
 | x::a,y::b,r,s,ha,hb,h=>by
  injection h with h1 h2;obtain ⟨e1,e2⟩:=split46 (fun z=>ha (Zb _ z)) (fun z=>hb (Zb _ z)) h2;exact ⟨by rw [h1,e1],e2⟩
theorem nm_inj {e f:En}(he:46∉cs e.h)(hf:46∉cs f.h)(h:e.nm=f.nm):e.h=f.h/\e.n=f.n:=by
 have:=congrArg cs h;rw [nm_cs,nm_cs] at this;obtain ⟨h1,h2⟩:=split46 he hf this;exact ⟨cs_inj h1,numT_inj (cs_inj h2)⟩
theorem next_gt:∀ {S:List En} {e:En},e∈S->e.n<(nextOf S e.h).getD 0:=by
 have key:∀ (S:List En) (acc:Option Nat) (h:Str),acc.getD 0<=(S.foldl (fun acc e=>if e.h=h then some (max (acc.getD 0) (e.n+1)) else acc) acc).getD 0/\∀ e∈S,e.h=h->e.n<(S.foldl (fun acc e=>if e.h=h then some (max (acc.getD 0) (e.n+1)) else acc) acc).getD 0:=by
  intro S
  induction S with
  | nil=>intro acc h;exact ⟨Ze _,fun e he=>(nomatch he)⟩
  | cons f S ih =>
   intro acc h;rw [Ju];obtain ⟨i1,i2⟩:=ih (if f.h=h then some (max (acc.getD 0) (f.n+1)) else acc) h;have mono:acc.getD 0<=(if f.h=h then some (max (acc.getD 0) (f.n+1)) else acc).getD 0:=by
    split
    ·exact Nat.le_max_left _ _
    ·exact Ze _
   refine ⟨Yb mono i1,fun e he eh=>?_⟩
   rcases Zi.mp he with rfl|he
   ·rw [Zz eh] at i1 ⊢;have:e.n+1<=(some (max (acc.getD 0) (e.n+1))).getD 0:=Nat.le_max_right _ _;omega
   ·exact i2 e he eh
 intro S e he;exact (key S none e.h).2 e he rfl
theorem new_nm {S:List En}(g:GoodS S){h:Str}{d:PyData}(hf:46∉cs h):(En.mk h ((nextOf S h).getD 0) d).nm∉S.map En.nm:=fun z=>by
 obtain ⟨e,he,q⟩:=Za.mp z;obtain ⟨h1,h2⟩:=nm_inj (g.ent e he).free hf q;have:=next_gt he;have h1:e.h=h:=h1;have h2:e.n=(nextOf S h).getD 0:=h2;rw [h1] at this;omega
end An
namespace An
open PySem L2
def dig (n:Nat):Str:=Str.ofString (toString ((n:Nat):Int))
def enc (p:Str):List Nat:=cs (dig p.length)++58::cs p
inductive Th where
 | leaf (ls:List Str)
 | tree (rows:List (Str×Str))
 | note (t:Str) (ps:List Str) (w:Str)
def z6:List (Str×Str)->List Str
 | []=>[]
 | r::rs=>r.1::r.2::z6 rs
theorem jF:∀ (a b:List (Str×Str)),z6 (a++b)=z6 a++z6 b
 | [],_=>rfl
 | (x,y)::a,b=>by
  show x::y::z6 (a++b)=x::y::(z6 a++z6 b);rw [jF a b]
def Th.word:Th->Str
 | .leaf _=>"leaf"|.tree _=>"tree"|.note _ _ _=>"note"
def Th.letter:Th->Str
 | .leaf _=>"L"|.tree _=>"T"|.note _ _ _=>"N"
def Th.parts:Th->List Str
 | .leaf ls=>ls
 | .tree rows=>z6 rows
 | .note t ps w=>[t,dig ps.length]++ps++[w]
def counted (p:Str):Str:=dig p.length++":"++p
def more (x p:Str):Str:=x++dig p.length++":"++p
def Th.sp (t:Th):Str:=t.parts.foldl more t.letter
theorem cs_colon:cs (":":Str)=[58]:=by decide +kernel
theorem cs_counted (p:Str):cs (counted p)=enc p:=by
 unfold counted enc;rw [cs_append,cs_append,cs_colon];simp
theorem cs_more (x p:Str):cs (more x p)=cs x++enc p:=by
 unfold more enc;rw [cs_append,cs_append,cs_append,cs_colon];simp
theorem BM:∀ (ps:List Str) (x:Str),cs (ps.foldl more x)=cs x++ps.flatMap enc
 | [],x=>by simp
 | p::ps,x=>by
  rw [Ju,BM ps,cs_more,Yg,Z2]
theorem cs_sp (t:Th):cs t.sp=cs t.letter++t.parts.flatMap enc:=BM _ _
theorem sp_eq (t:Th):t.letter++Txt.join "" (t.parts.map counted)=t.sp:=by
 apply cs_inj
 rw [cs_append,cs_sp];have e:cs (Txt.join "" (t.parts.map counted))=t.parts.flatMap enc:=by
  show cs (Builtin.Str.glued "" (t.parts.map counted))=_;rw [StrLaws.glued_eq_join];rw [uF,List.flatMap_map]
  congr 1
  funext p
  exact cs_counted p
 rw [e]
theorem qW (t:Th):cs t.letter=[match t with|.leaf _=>76|.tree _=>84|.note _ _ _=>78]:=by
 cases t
 ·show cs ("L":Str)=[76]
  decide +kernel
 ·show cs ("T":Str)=[84]
  decide +kernel
 ·show cs ("N":Str)=[78]
  decide +kernel
def dgs (n:Int)(c:Nat):Int:=(31*n+c) % 97
def dg (x:Str):Int:=(cs x).foldl dgs 0
def rowDat (r:Str×Str):PyData:=.tuple [.str r.1,.str r.2]
def Th.dat:Th->PyData
 | .leaf ls=>.tuple [.str "leaf",.tuple (ls.map .str)]
 | .tree rows=>.tuple [.str "tree",.tuple (rows.map rowDat)]
 | .note t ps w=>.tuple [.str "note",.str t,.tuple (ps.map .str),.str w]
theorem eqv_rows:∀ (a b:List (Str×Str)),PyData.eqvAll (a.map rowDat) (b.map rowDat)=decide (a=b)
 | [],[]=>rfl
 | [],_::_=>rfl
 | _::_,[]=>rfl
 | (x,y)::a,(z,w)::b=>by
  show (((x==z)&&((y==w)&&true))&&PyData.eqvAll (a.map rowDat) (b.map rowDat))=_;rw [eqv_rows a b,ZU];simp [and_assoc]
theorem jT {x y:Str}{xs ys:List PyData}(h:(x==y)=false):PyData.eqv (.tuple (.str x::xs)) (.tuple (.str y::ys))=false:=by
 show ((x==y)&&PyData.eqvAll xs ys)=false;rw [h];rfl
theorem eqv_dat (a b:Th):PyData.eqv a.dat b.dat=true↔a=b:=by
 have w1:(("leaf":Str)=="tree")=false:=by decide +kernel
 have w2:(("leaf":Str)=="note")=false:=by decide +kernel
 have w3:(("tree":Str)=="leaf")=false:=by decide +kernel
 have w4:(("tree":Str)=="note")=false:=by decide +kernel
 have w5:(("note":Str)=="leaf")=false:=by decide +kernel
 have w6:(("note":Str)=="tree")=false:=by decide +kernel
 cases a with
 | leaf ls =>
  cases b with
  | leaf ms =>
   show ((("leaf":Str)=="leaf")&&(PyData.eqvAll (ls.map .str) (ms.map .str)&&true))=true↔_;rw [xP];simp
  | tree _ =>
   exact Vh (fun z=>absurd ((jT w1).symm.trans z) ZG) (fun z=>by cases z)
  | note _ _ _ =>
   exact Vh (fun z=>absurd ((jT w2).symm.trans z) ZG) (fun z=>by cases z)
 | tree rs =>
  cases b with
  | leaf ms =>
   exact Vh (fun z=>absurd ((jT w3).symm.trans z) ZG) (fun z=>by cases z)
  | tree qs =>
   show ((("tree":Str)=="tree")&&(PyData.eqvAll (rs.map rowDat) (qs.map rowDat)&&true))=true↔_;rw [eqv_rows];simp
  | note _ _ _ =>
   exact Vh (fun z=>absurd ((jT w4).symm.trans z) ZG) (fun z=>by cases z)
 | note t ps w =>
  cases b with
  | leaf ms =>
   exact Vh (fun z=>absurd ((jT w5).symm.trans z) ZG) (fun z=>by cases z)
  | tree qs =>
   exact Vh (fun z=>absurd ((jT w6).symm.trans z) ZG) (fun z=>by cases z)
  | note t' ps' w' =>
   show ((("note":Str)=="note")&&((t==t')&&(PyData.eqvAll (ps.map .str) (ps'.map .str)&&((w==w')&&true))))=true↔_;rw [xP];simp
def Th.Good (t:Th):Prop:=t.parts.length<=1000/\∀ p∈t.parts,Ok 1000 p
end An
namespace L2
open PySem PySem.Spec PyProof.Rows
section
variable {X:Cx}{pins:List (Addr×Obj)}{σ:St}{H:Hp}{s:Shared}{d:Addr}{kvs:List (Key×V)}
theorem Room.units128 {k:Nat}{A:Around}(r:Room k A):A.units+128<cLine:=by have:=r.un;omega
theorem Inv.freeze (I:Inv X pins σ H s)(e:H d=some (.dK kvs)):∃ ob:Obj,Inv X pins σ (upd H d (.frz ob (.dK kvs))) s:=by
 obtain ⟨hz,hS,vs,rel,o,es,ep,ho,hx,hd,hk,hp,hnd⟩:kvs.length<=sizeLine/\(d==sysModules)=false/\∃ vs,KV kvs vs/\s.heap.DictOf (mixKind X.prog X.w) d vs:=I.hok d _ e;refine ⟨o,?_⟩;have mu:Mut (H d):=by rw [e];trivial
 exact I.write (x:=d) (e:=d) (h':=s.heap) (t':=s.toks) mu (.inl rfl) (fun b u _ q=>q) ⟨o,ho⟩ ⟨ho,hz,hS,vs,rel,o,es,ep,ho,hx,hd,hk,hp,hnd⟩
theorem rel_kV {P:Program}{w:World}{k:Key}{u:Value}(h:(mixKind P w).is k u=true):RelV (kV k) u:=by
 cases k with
 | inl i =>
  have h:Value.isInt i u=true:=h;cases u<;>simp [Value.isInt] at h;subst h;exact ⟨_,rfl⟩
 | inr x =>
  obtain ⟨t,rfl⟩:=YB (show Value.isStrOf x u=true from h);exact ⟨t,rfl⟩
theorem jD {α β:Type}{F:α->β->Prop}:∀ {l₁:List α} {l₂:List β} {i:Nat} {y:β},Paired F l₁ l₂->l₂[i]?=some y->∃ x,l₁[i]?=some x/\F x y
 | _,_,_,_,.nil,h=>by cases h
 | _,_,0,_,.cons r _,h=>by cases h;exact ⟨_,rfl,r⟩
 | _,_,i+1,_,.cons _ t,h=>by
  obtain ⟨x,h1,h2⟩:=jD (i:=i) t (by simpa using h);exact ⟨x,by simpa using h1,h2⟩
theorem frz_at {P:Program}{w:World}{h:Heap}{ob:Obj}(z:ObjOk P w H h d (.frz ob (.dK kvs))):∃ vs es ep,ob.data=.dict es ep/\KV kvs vs/\h.DictAt (mixKind P w) d vs ep/\(d==sysModules)=false/\kvs.length<=sizeLine:=by
 obtain ⟨h0,hz,hS,vs,rel,o,es',ep',ho,hx,hd',hk,hp,hnd⟩:=z;rw [h0] at ho;cases ho;exact ⟨vs,es',ep',hd',rel,⟨ob,es',h0,hx,hd',hk,hp,hnd⟩,hS,hz⟩
theorem XQ {P:Program}{w:World}{h:Heap}{ob:Obj}{es:Array DictEntry}{ep:Nat}(hd:ob.data=.dict es ep)(z:ObjOk P w H h d (.frz ob (.dK kvs))):∃ vs,KV kvs vs/\h.DictAt (mixKind P w) d vs ep/\(d==sysModules)=false:=by
 obtain ⟨vs,es',ep',hd',rel,da,hS,_⟩:=frz_at z;rw [hd] at hd';cases hd';exact ⟨vs,rel,da,hS⟩
def ItK (d:Addr)(kvs:List (Key×V))(ob:Obj):It where
 go:=fun i H=>H d=some (.frz ob (.dK kvs))/\i<kvs.length
 yld:=fun i H x H'=>H'=H/\∃ k v,kvs[i]?=some (k,v)/\x=kV k
 stop:=fun i H=>H d=some (.frz ob (.dK kvs))/\i=kvs.length
theorem turn_keys {P:Program}{w:World}{K:ZZF}{tg:Expr}{ob:Obj}{es:Array DictEntry}{ep:Nat}(hd:ob.data=.dict es ep)(it:Addr):Turn P w K tg (ItK d kvs ob) [it] it (fun i h=>h.IsKeyIter it d i kvs.length ep) where
 mem:=by simp
 obj:=fun i h st b hb=>by
  have e:b=it:=by simpa using hb
  subst e;obtain ⟨o,e,c,dd⟩:=st;exact ⟨o,e,fun v z=>by rw [dd] at z;cases z⟩
 keep:=fun i h h' st k=>by
  obtain ⟨o,e,c⟩:=st;exact ⟨o,k it (by simp) o e,c⟩
 item:=by
  intro X hP hw hK hc i pins s σ H E I hf st hg;subst hP hw hK;obtain ⟨hfr,hi⟩:=hg;obtain ⟨vs,rel,da,hS⟩:=XQ hd (I.hok d _ hfr);have hl:kvs.length=vs.length:=Paired.length rel;rw [hl] at st;have hx:vs[i]?=some (vs[i]'(by omega)):=Zj (by omega);obtain ⟨f0,f1,f2,f3,f4,f5⟩:=hf it (by simp);refine wpAny_pyNext_dict_item (k:=(vs[i]'(by omega)).1) (v:=(vs[i]'(by omega)).2) st da hx fun key h' hkey st' sb=>?_;have I1:Inv X pins σ H { s with heap:=h' }:=I.turned (t':=s.toks) (fun b o hb e=>(sb.2 b hb).trans e) f0 f1 f3 f4 f5;rw [←hl] at st';obtain ⟨o,e,c,dd⟩:=id st';have hk:∃ v,kvs[i]?=some ((vs[i]'(by omega)).1,v):=by
   obtain ⟨⟨k0,v0⟩,h0,h1,_⟩:=jD rel hx;have h1:k0=_:=h1;subst h1;exact ⟨v0,h0⟩
  obtain ⟨v0,hk⟩:=hk;exact ⟨key,rfl,go_of (s:={ s with heap:=h' }) e c dd (by decide) ⟨kV (vs[i]'(by omega)).1,H,I1,rel_kV hkey,⟨rfl,_,v0,hk,rfl⟩,st',fun b hb=>(hf b hb).1⟩⟩
 done:=by
  intro X hP hw hK hc i pins s σ H E I hf st hg;subst hP hw hK;obtain ⟨hfr,hi⟩:=hg;subst hi;obtain ⟨vs,rel,da,hS⟩:=XQ hd (I.hok d _ hfr);have hl:kvs.length=vs.length:=Paired.length rel;obtain ⟨f0,f1,f2,f3,f4,f5⟩:=hf it (by simp);rw [hl] at st;exact wpAny_pyNext_dict_end (I.ok.hd hc) st da (Yc (by omega)) fun h' eb=>⟨rfl,I.turned (t':=s.toks) (fun b o hb e=>eb b o hb e) f0 f1 f3 f4 f5⟩
 self:=fun _ _ _ _ _ st h=>wpAny_pyIter_keyiter st h
def ItP (d:Addr)(kvs:List (Key×V))(ob:Obj):It where
 go:=fun i H=>H d=some (.frz ob (.dK kvs))/\i<kvs.length
 yld:=fun i H x H'=>∃ T k v,kvs[i]?=some (k,v)/\H T=none/\x=.ref T/\H'=upd H T (.tup [kV k,v])
 stop:=fun i H=>H d=some (.frz ob (.dK kvs))/\i=kvs.length
theorem turn_pairs {P:Program}{w:World}{K:ZZF}{elts:List Expr} {x1}{tpos:Pos}{ob:Obj}{es:Array DictEntry}{ep:Nat}(hd:ob.data=.dict es ep)(it:Addr) :
  Turn P w K (.Tuple elts x1 tpos) (ItP d kvs ob) [it] it (fun i h=>∃ ok ov,IsItemIter h it d i kvs.length ep ok ov) where
 mem:=by simp
 obj:=fun i h st b hb=>by
  have e:b=it:=by simpa using hb
  subst e;obtain ⟨ok,ov,e⟩:=st;exact ⟨_,e,fun v z=>by cases z⟩
 keep:=fun i h h' st k=>by
  obtain ⟨ok,ov,e⟩:=st;exact ⟨ok,ov,k it (by simp) _ e⟩
 item:=by
  intro X hP hw hK hc i pins s σ H E I hf st hg;subst hP hw hK;obtain ⟨hfr,hi⟩:=hg;obtain ⟨vs,rel,da,hS⟩:=XQ hd (I.hok d _ hfr);have hl:kvs.length=vs.length:=Paired.length rel;obtain ⟨ok,ov,st⟩:=st;rw [hl] at st;obtain ⟨⟨kk,vv⟩,hx⟩:∃ p,vs[i]?=some p:=⟨_,Zj (show i<vs.length by omega)⟩;obtain ⟨⟨k0,v0⟩,h0,h1,rv⟩:=jD rel hx;have h1:k0=kk:=h1;have rv:RelV v0 vv:=rv;have fi:=hf it (by simp);have hT:H s.heap.objs.size=none:=I.hok.fresh (Ze _);have ltI:it<s.heap.objs.size:=Zp st;refine wpAny_pyNext_items_item (k:=kk) (v:=vv) st da hx fun key h' hkey out tup sz kp=>?_;refine ⟨_,rfl,wpAny_letOwnedTupleGo_items out fun h2 en sb=>?_⟩;have tup2:h2.get? s.heap.objs.size=some { cls:=.type "tuple",data:=.seq #[key,vv] }:=(sb.2 _ (JK ltI)).trans tup;have I1:Inv X pins σ H { s with heap:=h2 }:=I.turnedAll (t':=s.toks) (ch:=[it]) hf (fun b o hb q=>by
   have b1:b≠it:=fun z=>hb (by simp [z]);exact (sb.2 b b1).trans (kp b o b1 q)) (fun b hb=>by
   have z:b=it:=by simpa using hb
   subst z;exact ⟨_,en⟩)
  have fT:=I.fpOk (Ze _) hT;have new:ObjOk X.prog X.w (upd H s.heap.objs.size (.tup [kV k0,v0])) h2 s.heap.objs.size (.tup [kV k0,v0]) :=
   ⟨by show 2<=sizeLine;decide,[key,vv],.cons (by rw [h1];exact rel_kV hkey) (.cons rv .nil),⟨_,tup2,rfl,_,rfl,rfl⟩⟩
  have I2:Inv X pins σ (upd H s.heap.objs.size (.tup [kV k0,v0])) { s with heap:=h2 } :=
   I1.takeUp hT (Yb I.sz (Ze _)) fT.2.1 fT.2.2.2.2.1 fT.2.2.2.2.2 new
  refine ⟨.ref s.heap.objs.size,_,I2,rfl,⟨_,k0,v0,h0,hT,rfl,rfl⟩,⟨key,vv,by rw [hl];exact en⟩,fun b hb=>?_⟩;have z:b=it:=by simpa using hb
  subst z;rw [zH (Zu ltI)];exact fi.1
 done:=by
  intro X hP hw hK hc i pins s σ H E I hf st hg;subst hP hw hK;obtain ⟨hfr,hi⟩:=hg;subst hi;obtain ⟨vs,rel,da,hS⟩:=XQ hd (I.hok d _ hfr);have hl:kvs.length=vs.length:=Paired.length rel;obtain ⟨f0,f1,f2,f3,f4,f5⟩:=hf it (by simp);obtain ⟨ok,ov,st⟩:=st;rw [hl] at st;exact wpAny_pyNext_items_end (I.ok.hd hc) st da (Yc (by omega)) fun h' eb=>⟨rfl,I.turned (t':=s.toks) (fun b o hb e=>eb b o hb e) f0 f1 f3 f4 f5⟩
 self:=fun _ _ _ _ _ st h=>by
  obtain ⟨ok,ov,st⟩:=st;exact PySem.W.kcp_self st h
end
section
variable {X:Cx}{tg:Expr}
def tFrz (t:TE):TE:=fun σ H Q=>t σ H fun v H1=>∃ d kvs,v=.ref d/\H1 d=some (.dK kvs)/\∀ ob,Q v (upd H1 d (.frz ob (.dK kvs)))
theorem uM {e:Expr}{t:TE}(h:PE X e t):PE X e (tFrz t):=by
 intro pins s σ H Q I q;refine thn (h pins s σ H _ I q) fun v s1 ⟨x,H1,I1,r,d,kvs,ex,hd,q⟩=>?_;subst ex;obtain ⟨ob,I2⟩:=I1.freeze hd;exact ⟨.ref d,_,I2,r,q ob⟩
def iKeys (td:TE):TI:=fun σ H R=>td σ H fun v H1=>∃ d ob kvs,v=.ref d/\H1 d=some (.frz ob (.dK kvs))/\R (ItK d kvs ob) H1
theorem vO {l:Expr}{tl:TE}(hl:PE X l tl):PI X tg l (iKeys tl):=by
 intro pins s σ H R I h;refine thn (hl pins s σ H _ I h) fun v s1 ⟨x,H1,I1,r,d,ob,kvs,ex,hd,q⟩=>?_;subst ex;cases r;obtain ⟨vs,es,ep,hdat,rel,da,hS,_⟩:=frz_at (I1.hok d _ hd);have hlen:kvs.length=vs.length:=Paired.length rel;refine wpAny_pyIter_dict hS da ?_;have I3:Inv X pins σ H1 { s1 with heap:=s1.heap.push { cls:=.type "dict_keyiterator",data:=.fields #[.ref d,.int 0 0,.int vs.length 0,.int ep 0] } }:=I1.kept (t':=s1.toks) fun b o e=>Q9 _ e;refine ⟨s1.heap.objs.size,[s1.heap.objs.size],_,_,_,rfl,I3,turn_keys hdat _,?_,fun b hb=>?_,q⟩
 ·exact ⟨_,Zm _ rfl,rfl,by rw [hlen];rfl⟩
 ·have e:b=s1.heap.objs.size:=by simpa using hb
  subst e;exact I1.fpOk (Ze _) (I1.hok.fresh (Ze _))
def iPairs (td:TE):TI:=fun σ H R=>td σ H fun v H1=>∃ d ob kvs,v=.ref d/\H1 d=some (.frz ob (.dK kvs))/\R (ItP d kvs ob) H1
theorem IK {o:Expr}{td:TE}{elts:List Expr} {x1}{tpos apos cpos:Pos}(ho:PE X o td)(hbase:attributeBase o "items" X.env (eval o X.env)=eval o X.env:=by rfl)(hline:(apos.endLine==cpos.line)=true:=by rfl) :
  PI X (.Tuple elts x1 tpos) (.Call (.Attribute o "items" apos) [] [] cpos) (iPairs td):=by
 intro pins s σ H R I h;refine wpAny_Call_method0_late hbase hline (thn (ho pins s σ H _ I h) fun v s1 ⟨x,H1,I1,r,d,ob,kvs,ex,hd,q⟩=>?_);subst ex;cases r;obtain ⟨vs,es,ep,hdat,rel,da,hS,_⟩:=frz_at (I1.hok d _ hd);have hlen:kvs.length=vs.length:=Paired.length rel;have dO:=da.dictOf;obtain ⟨ob',es',h1,h2,h3⟩:=id da;refine ⟨"dict","dict.items",F.plainAttrs_dict,F.slot_dict_items,F.type_dict_items,dO.typeIs,fun b q=>by cases q;exact ⟨ob',h1,h2.2.1⟩,Calls.callWith_builtin rfl (PySem.evalArgs_none ?_)⟩;refine JN F.slot_dict_items dO.typeIs F.entry_dict_items (F.args_dict_items_1 _) (meets_dict_items (mixKind X.prog X.w) d hS) ⟨⟨vs,dO⟩,?_⟩;have I2:Inv X pins σ H1 { s1 with heap:=s1.heap.push { cls:=.type "dict_items",data:=.fields #[.ref d] } }:=I1.kept (t':=s1.toks) fun b o e=>Q9 _ e;have da2:(s1.heap.push { cls:=.type "dict_items",data:=.fields #[.ref d] }).DictAt (mixKind X.prog X.w) d vs ep:=da.at' fun o e=>Q9 _ e;refine wpAny_pyIter_items (v:=s1.heap.objs.size) (d:=d) ⟨_,Zm _ rfl,rfl,rfl⟩ da2 ?_;refine ⟨_,[_],_,_,_,rfl,I2.kept (t':=s1.toks) fun b o e=>Q9 _ e,turn_pairs hdat _,⟨_,_,by rw [hlen];exact Zm _ rfl⟩,fun b hb=>?_,q⟩;have e:=Q7.mp hb;subst e;exact I2.fpOk (Ze _) (I2.hok.fresh (Ze _))
section
variable {d:Addr}{kvs:List (Key×V)}{ob:Obj}{g:TG}{tb:TS}{D:Ends}{σ:St}{H:Hp}
theorem vC (Pv:Nat->St->Hp->Prop)(h0:Pv 0 σ H)(hl:∀ i σ H,i<=kvs.length->Pv i σ H->H d=some (.frz ob (.dK kvs)))
  (hs:∀ i k v σ H,kvs[i]?=some (k,v)->Pv i σ H->g (kV k) σ H fun σ2 H2=>tb { D with nx:=Pv (i+1),ct:=Pv (i+1),bk:=D.nx } σ2 H2) (hd:∀ σ H,Pv kvs.length σ H->D.nx σ H):ForW (ItK d kvs ob) g tb D σ H :=
 for_n kvs.length Pv h0 (fun σ H p=>⟨hl _ σ H (Ze _) p,rfl⟩) (fun i σ H hi p=>⟨hl i σ H (YF hi) p,hi⟩) (fun i σ H hi p v H' y=>by
  obtain ⟨eH,k,x,hx,ev⟩:=y;subst ev eH;exact hs i k x σ _ hx p) hd
theorem Xi (Pv:Nat->St->Hp->Prop)(h0:Pv 0 σ H)(hl:∀ i σ H,i<=kvs.length->Pv i σ H->H d=some (.frz ob (.dK kvs)))
  (hs:∀ i k v T σ H,kvs[i]?=some (k,v)->Pv i σ H->H T=none->g (.ref T) σ (upd H T (.tup [kV k,v])) fun σ2 H2=>tb { D with nx:=Pv (i+1),ct:=Pv (i+1),bk:=D.nx } σ2 H2) (hd:∀ σ H,Pv kvs.length σ H->D.nx σ H):ForW (ItP d kvs ob) g tb D σ H :=
 for_n kvs.length Pv h0 (fun σ H p=>⟨hl _ σ H (Ze _) p,rfl⟩) (fun i σ H hi p=>⟨hl i σ H (YF hi) p,hi⟩) (fun i σ H hi p v H' y=>by
  obtain ⟨T,k,x,hx,hT,ev,eH⟩:=y;subst ev eH;exact hs i k x T σ H hx p hT) hd
end
def rInZ:R2:=fun y x H Q=>∃ a o,x=.ref a/\DGet H a y o/\Q (.bl o.isSome) H
theorem op_inZ (hu:X.A.units+64<cLine):OpR X (compareOp .In) rInZ:=by
 intro pins s σ H y x v u Q I ry rx h;obtain ⟨a,o,rfl,g,q⟩:=h;cases rx;exact d_in (by omega) I g ry fun s' I'=>⟨.bl _,H,I',rfl,q⟩
theorem get_frz {H:Hp}{a:Addr}{ob:Obj}{kvs:List (Key×V)}{k:Key}(e:H a=some (.frz ob (.dK kvs))):DGet H a (kV k) (Uh kvs k):=.inl ⟨kvs,k,.inr ⟨ob,e⟩,rfl,rfl⟩
theorem GO {P:Program}{w:World}:∀ {kvs:List (Key×V)} {vs:List (Key×Value)} {us:List Value},KV kvs vs->us.length=vs.length->(∀ (j:Nat) (v:Value),us[j]?=some v->∃ k x,vs[j]?=some (k,x)/\(mixKind P w).is k v=true)->Vals (kvs.map fun kv=>kV kv.1) us
 | [],_,[],.nil,_,_=>.nil
 | [],_,_::_,.nil,hl,_=>by cases hl
 | _::_,_,[],.cons _ _,hl,_=>by cases hl
 | p::_,q::_,u::us,.cons r1 r2,hl,hm=>by
  obtain ⟨k,x,e,hk⟩:=hm 0 u rfl;have e:q=(k,x):=by simpa using e
  have e1:p.1=k:=by rw [show p.1=q.1 from r1.1,e]
  refine .cons (by show RelV (kV p.1) u;rw [e1];exact rel_kV hk) (GO (P:=P) (w:=w) r2 (by simpa using hl) fun j v hj=>?_);obtain ⟨k2,x2,q1,q2⟩:=hm (j+1) v (by simpa using hj);exact ⟨k2,x2,by simpa using q1,q2⟩
inductive Hits (K:ZZF)(H:Hp)(kb:List (Key×V)):List (Key×V)->Bool->Prop
 | nil:Hits K H kb [] true
 | miss {k:Key} {v:V} {r:List (Key×V)}:Uh kb k=none->Hits K H kb ((k,v)::r) false
 | hit {k:Key} {v y:V} {d e:PyData} {r:List (Key×V)} {b:Bool}:Uh kb k=some y->Dt K H d v->Dt K H e y->SeqAt.shaped d=true->SeqAt.shaped e=true->Hits K H kb r b->Hits K H kb ((k,v)::r) (PyData.eqv d e&&b)
theorem Hits.keq {pins:List (Addr×Obj)}{σ:St}{H:Hp}{s:Shared}{kb:List (Key×V)}{ub:List (Key×Value)}(I:Inv X pins σ H s)(hu:X.A.in1.units+64<cLine)(rb:KV kb ub) :
  ∀ {ka:List (Key×V)} {ua:List (Key×Value)} {b:Bool},KV ka ua->Hits X.K H kb ka b->PySem.W.KeqHits X.A.in1 s ub ua b
 | [],_,_,.nil,.nil=>.nil
 | p::ka,q::ua,_,.cons r1 r2,h=>by
  obtain ⟨k,v⟩:=p;obtain ⟨k',u⟩:=q;obtain ⟨e1,rv⟩:=r1;have e1:k=k':=e1;subst e1;have rel:=rb.val k;cases h with
  | miss hn =>
   rw [hn] at rel;cases e:valueAt ub k with
   | none=>exact .miss e
   | some y=>rw [e] at rel;exact rel.elim
  | hit hy h1 h2 s1 s2 hr =>
   rw [hy] at rel;cases e:valueAt ub k with
   | none=>rw [e] at rel;exact rel.elim
   | some y =>
    rw [e] at rel;obtain ⟨as,q1⟩:=Dt.reads I _ _ _ h1 rv;obtain ⟨bs,q2⟩:=Dt.reads I _ _ _ h2 rel;exact .hit e (PySem.W.keq_at q1 q2 s1 s2 hu) (Hits.keq I hu rb r2 hr)
end
end L2
namespace L2
open PySem PySem.Spec PyProof.Rows
section
variable {X:Cx}{K:ZZF}
theorem op_ninD (hu:X.A.units+64<cLine)(hK:X.K=K:=by rfl):OpR X (compareOp .NotIn) (rInD K false true):=by
 subst hK;intro pins s σ H x y v u Q I rx ry h;obtain ⟨d,xs,h1,h2,h3,h4,h5,q⟩:=h;obtain ⟨as,r1⟩:=Dt.reads I d x v h1 rx;obtain ⟨bs,r2⟩:=Dt.reads I _ y u h2 ry;have hm:min (PyData.depthAll xs) d.depth<=d.depth:=VZ _ _;exact SeqAt.notIn_list_reads r2 r1 h3 h4 (by omega) ⟨.bl _,H,I,rfl,by simpa using q⟩
theorem op_ninDT (hu:X.A.units+64<cLine)(hK:X.K=K:=by rfl):OpR X (compareOp .NotIn) (rInD K true true):=by
 subst hK;intro pins s σ H x y v u Q I rx ry h;obtain ⟨d,xs,h1,h2,h3,h4,h5,q⟩:=h;obtain ⟨as,r1⟩:=Dt.reads I d x v h1 rx;obtain ⟨bs,r2⟩:=Dt.reads I _ y u h2 ry;have hm:min (PyData.depthAll xs) d.depth<=d.depth:=VZ _ _;exact SeqAt.notIn_tuple_reads r2 r1 h3 h4 (by omega) ⟨.bl _,H,I,rfl,by simpa using q⟩
end
end L2
namespace An
open PySem L2
theorem Io (x:Str):0<=dg x/\dg x<97:=by
 unfold dg;have:∀ (l:List Nat) (n:Int),(0<=n/\n<97)->0<=l.foldl dgs n/\l.foldl dgs n<97:=by
  intro l
  induction l with
  | nil=>intro n h;exact h
  | cons c l ih =>
   intro n _;rw [Ju];refine ih _ ?_;unfold dgs;omega
 exact this _ 0 ⟨by decide,by decide⟩
theorem num_dg (x:Str):Str.ofString (toString (dg x))=Ur (dg x).toNat:=by
 unfold Ur;rw [Int.toNat_of_nonneg (Io x).1]
theorem num_len2 {n:Nat}(h:n<97):(Ur n).length<=10:=Jc (by omega) (by decide) (by
 have:n<10 ^ 9:=by omega
 omega)
theorem cs_to (x:Str)(n:Nat):cs (Txt.slice x none (some (n:Int)))=(cs x).take n:=by
 by_cases h:n<=x.length
 ·have e:=Vr (VA (x:=x) (j:=(n:Int)) (by omega) (by omega));rw [e];show ((x.cps.toList.drop (0:Int).toNat).take ((n:Int)-0).toNat).toArray.toList=_;simp [cs]
 ·have e:=Vr (VA (x:=x) (j:=(x.length:Int)) (by omega) (by omega));rw [PyProof.Rows.slice_to_beyond (by omega),e];have hl:(cs x).length<=n:=by rw [←length_cs];omega
  rw [Jp hl];show ((x.cps.toList.drop (0:Int).toNat).take ((x.length:Int)-0).toNat).toArray.toList=_;have:((x.length:Int)-0).toNat=x.cps.toList.length:=by simp [Str.length]
  rw [this];show (x.cps.toList.take x.cps.toList.length)=cs x;rw [ZA]
theorem snoc_ind {α:Type}{p:List α->Prop}(h0:p [])(h1:∀ l x,p l->p (l++[x]))(l:List α):p l:=by
 have:∀ l:List α,p l.reverse:=by
  intro l
  induction l with
  | nil=>exact h0
  | cons x l ih=>rw [List.reverse_cons];exact h1 _ _ ih
 have:=this l.reverse
 rwa [List.reverse_reverse] at this
theorem next_in (S:List En)(h:Str):(nextOf S h).getD 0=0\/∃ e∈S,e.h=h/\e.n+1=(nextOf S h).getD 0:=by
 induction S using snoc_ind with
 | h0=>exact .inl rfl
 | h1 S e ih =>
  rw [Xs]
  by_cases q:e.h=h
  ·rw [Zz q];show max ((nextOf S h).getD 0) (e.n+1)=0\/_
   rcases Nat.le_total ((nextOf S h).getD 0) (e.n+1) with z|z
   ·exact .inr ⟨e,by simp,q,(Nat.max_eq_right z).symm⟩
   ·have mz:max ((nextOf S h).getD 0) (e.n+1)=(nextOf S h).getD 0:=Nat.max_eq_left z
    rcases ih with i|⟨f,hf,h1,h2⟩
    ·exact .inl (mz.trans i)
    ·exact .inr ⟨f,by simp [hf],h1,h2.trans mz.symm⟩
  ·rw [Zy q]
   rcases ih with i|⟨f,hf,h1,h2⟩
   ·exact .inl i
   ·exact .inr ⟨f,by simp [hf],h1,h2⟩
theorem next_le {S:List En}(hS:∀ e∈S,e.n<S.length)(h:Str):(nextOf S h).getD 0<=S.length:=by
 rcases next_in S h with i|⟨f,hf,_,h2⟩
 ·omega
 ·have:=hS f hf;omega
theorem num_ok (n:Nat):PyData.strOk (Ur n)=true:=by
 rw [xC];intro c hc;have hc:c∈(Str.ofString (toString ((n:Nat):Int))).cps.toList:=hc;rw [Vl] at hc;obtain ⟨d,hd,rfl⟩:=Za.mp hc;show d.val.toNat<1114112
 rcases d.valid with h|⟨_,h⟩
 ·exact V3 h (by decide)
 ·exact h
theorem ok_app {x y:Str}(h1:PyData.strOk x=true)(h2:PyData.strOk y=true):PyData.strOk (x++y)=true:=by
 rw [xC] at *;intro c hc;rw [cs_append,Zs] at hc;exact hc.elim (h1 c) (h2 c)
theorem any_strs (xs:List Str)(x:Str):(xs.map PyData.str).any (fun y=>PyData.eqv y (.str x))=decide (x∈xs):=by
 induction xs with
 | nil=>rfl
 | cons y xs ih =>
  show ((y==x)||(xs.map PyData.str).any (fun y=>PyData.eqv y (.str x)))=_;rw [ih,ZU,V6,Zq,Zq,Zi,Jl];exact ⟨fun h=>h.elim (fun z=>.inl z.symm) .inr,fun h=>h.elim (fun z=>.inl z.symm) .inr⟩
theorem nd_inj {S:List En}(nd:(S.map (·.d)).Nodup){e f:En}(he:e∈S)(hf:f∈S)(h:e.d=f.d):e=f:=by
 induction S with
 | nil=>cases he
 | cons x S ih =>
  rw [Zw,Z8] at nd
  rcases Zi.mp he with e1|he2
  ·rcases Zi.mp hf with e2|hf2
   ·rw [e1,e2]
   ·exact absurd (Za.mpr ⟨f,hf2,by rw [←e1];exact h.symm⟩) nd.1
  ·rcases Zi.mp hf with e2|hf2
   ·exact absurd (Za.mpr ⟨e,he2,by rw [←e2];exact h⟩) nd.1
   ·exact ih nd.2 he2 hf2
def Ex (H:Hp)(X:List Addr):Prop:=∀ c∈X,∃ o,H c=some o
theorem Ex.not {H:Hp}{X:List Addr}{c:Addr}(h:Ex H X)(n:H c=none):c∉X:=fun z=>by
 obtain ⟨o,e⟩:=h c z;rw [n] at e;cases e
section
variable {P:Program}{w:World}{K:ZZF}{C:Addr}{H H' H0:Hp}{S:List En}
theorem ShAt.ex {a:Addr}{fp:List Addr}(h:ShAt P w K C H a fp S):Ex H fp:=fun c hc=>by
 obtain ⟨o,e,_⟩:=h.noseq c hc;exact ⟨o,e⟩
end
theorem IM {α:Type}{l:List α}{i:Nat}{x:α}(nd:l.Nodup)(h:l[i]?=some x):x∉l.take i:=fun z=>by
 obtain ⟨j,hj,e⟩:=ZO.mp z;rw [ZC] at hj;rw [List.getElem_take] at e;obtain ⟨hi,e'⟩:=Zr.mp h;exact Y9.mp nd j i (by omega) hi (by omega) (e.trans e'.symm)
def Uo (t:Th):Str:=t.letter++Ur (dg t.sp).toNat
def Gm (S:List En)(t:Th):En:=⟨Uo t,(nextOf S (Uo t)).getD 0,t.dat⟩
theorem IR (t:Th):t.letter.length=1:=by rw [length_cs,qW];rfl
theorem BS (t:Th):46∉cs t.letter:=by
 rw [qW];cases t
 ·show 46∉[76];decide
 ·show 46∉[84];decide
 ·show 46∉[78];decide
theorem jR (t:Th):46∉cs (Uo t):=by
 unfold Uo;rw [cs_append,Zs,not_or];exact ⟨BS t,fun h=>(PyProof.Rows.intText_free_46 _).mp h⟩
theorem kO (t:Th):(Uo t).length<=100:=by
 unfold Uo;have h1:=num_len2 (n:=(dg t.sp).toNat) (by have:=Io t.sp;omega);rw [len_append,IR];omega
theorem letter_ok (t:Th):PyData.strOk t.letter=true:=by
 rw [xC,qW];intro c hc;rw [Q7.mp hc];cases t
 ·show 76<1114112;decide
 ·show 84<1114112;decide
 ·show 78<1114112;decide
theorem Ga:∀ {ls:List Str},(∀ l∈ls,PyData.strOk l=true)->yX (ls.map .str)=true/\xN (ls.map .str)=0
 | [],_=>⟨rfl,rfl⟩
 | l::ls,h=>by
  obtain ⟨h1,h2⟩:=Ga fun x hx=>h x (Zb _ hx);refine ⟨?_,?_⟩
  ·show (PyData.strOk l&&yX (ls.map .str))=true;rw [h l Zc,h1];rfl
  ·show max 0 (xN (ls.map .str))=0;rw [h2];rfl
theorem txt_rows:∀ {rs:List (Str×Str)},(∀ p∈z6 rs,PyData.strOk p=true)->yX (rs.map rowDat)=true/\xN (rs.map rowDat)<=1
 | [],_=>⟨rfl,ZJ _⟩
 | (x,y)::rs,h=>by
  obtain ⟨h1,h2⟩:=txt_rows (rs:=rs) fun p hp=>h p (Zb _ (Zb _ hp));refine ⟨?_,?_⟩
  ·show ((PyData.strOk x&&(PyData.strOk y&&true))&&yX (rs.map rowDat))=true;rw [h x Zc,h y (Zb _ Zc),h1];rfl
  ·show max (max 0 (max 0 0)+1) (xN (rs.map rowDat))<=1;omega
theorem Bv {t:Th}(g:t.Good):UV t.dat:=by
 have hs:∀ p∈t.parts,PyData.strOk p=true:=fun p hp=>(g.2 p hp).ok;cases t with
 | leaf ls =>
  obtain ⟨h1,h2⟩:=Ga (ls:=ls) hs;refine ⟨?_,?_⟩
  ·show (PyData.strOk "leaf"&&(yX (ls.map .str)&&true))=true;rw [h1];decide +kernel
  ·show max 0 (max (xN (ls.map .str)+1) 0)+1<=6;rw [h2];decide
 | tree rs =>
  obtain ⟨h1,h2⟩:=txt_rows (rs:=rs) hs;refine ⟨?_,?_⟩
  ·show (PyData.strOk "tree"&&(yX (rs.map rowDat)&&true))=true;rw [h1];decide +kernel
  ·show max 0 (max (xN (rs.map rowDat)+1) 0)+1<=6;omega
 | note x ps y =>
  have p1:∀ p∈ps,PyData.strOk p=true:=fun p hp=>hs p (by show p∈[x,dig ps.length]++ps++[y];simp [hp]);have p2:PyData.strOk x=true:=hs x (by show x∈[x,dig ps.length]++ps++[y];simp);have p3:PyData.strOk y=true:=hs y (by show y∈[x,dig ps.length]++ps++[y];simp);obtain ⟨h1,h2⟩:=Ga p1;refine ⟨?_,?_⟩
  ·show (PyData.strOk "note"&&(PyData.strOk x&&(yX (ps.map .str)&&(PyData.strOk y&&true))))=true;rw [h1,p2,p3];decide +kernel
  ·show max 0 (max 0 (max (xN (ps.map .str)+1) (max 0 0)))+1<=6;rw [h2];decide
theorem vI {a b:Th}(h:a.dat=b.dat):a=b:=(eqv_dat a b).mp (by
 rw [h];exact (eqv_dat b b).mpr rfl)
def Gx (e:En):Prop:=∃ t:Th,e.d=t.dat/\t.Good/\e.h=Uo t
def wordE (e:En):Str:=match e.d with|.tuple (.str x::_)=>x|_=>""
theorem word_dat (t:Th)(h:Str)(n:Nat):wordE ⟨h,n,t.dat⟩=t.word:=by cases t<;>rfl
theorem jY {e:En}{t:Th}(h:e.d=t.dat):wordE e=t.word:=by
 obtain ⟨a,b,c⟩:=e;have h:c=t.dat:=h;subst h;exact word_dat t a b
def yA (S:List En)(x:Str)(ws:List Str):Bool:=S.any fun e=>decide (e.nm=x)&&decide (wordE e∈ws)
def namesOk (S:List En):Th->Bool
 | .leaf _=>true
 | .tree rows=>rows.all fun r=>yA S r.2 ["leaf","tree"]
 | .note t ps _=>yA S t ["tree"]&&ps.all fun p=>yA S p ["note"]
theorem form_in {S:List En}(g:GoodS S){e:En}(he:e∈S)(ws:List Str):yA S e.nm ws=decide (wordE e∈ws):=by
 unfold yA;rw [ZU,Z7,Zq];constructor
 ·rintro ⟨f,hf,h⟩;rw [Zg,Zq,Zq] at h;obtain ⟨i,hi,ei⟩:=ZO.mp he;obtain ⟨j,hj,ej⟩:=ZO.mp hf;have:i=j:=by
   have hp:=Y9.mp g.nn
   rcases Vg i j with z|z|z
   ·exact absurd (by rw [ZQ,ZQ,ei,ej];exact h.1.symm) (hp i j (by rw [Q5];exact hi) (by rw [Q5];exact hj) z)
   ·exact z
   ·exact absurd (by rw [ZQ,ZQ,ei,ej];exact h.1) (hp j i (by rw [Q5];exact hj) (by rw [Q5];exact hi) z)
  subst this;rw [←ei,ej];exact h.2
 ·intro h;exact ⟨e,he,by rw [Zd rfl,Zd h];rfl⟩
theorem form_out {S:List En}{x:Str}(h:x∉S.map En.nm)(ws:List Str):yA S x ws=false:=by
 unfold yA;rw [VQ];intro e he z;rw [Zg,Zq] at z;exact h (Za.mpr ⟨e,he,z.1⟩)
end An
namespace AxS
open PySem PySem.Spec PyProof.Rows
theorem XC (t:SetTable)(n:Nat):(t.orStandIn n).led=t.led/\(t.plain=false->(t.orStandIn n).plain=false):=by
 unfold SetTable.orStandIn
 split
 ·exact ⟨rfl,id⟩
 ·exact ⟨rfl,fun _=>rfl⟩
theorem Bl (t:SetTable)(es:Array (Int×Value))(h:Int)(x:Value):(layNew t es h x).2.1.led=t.led/\(t.plain=false->(layNew t es h x).2.1.plain=false):=by
 unfold layNew
 split
 ·rename_i slot wd _;have m:=XC (t.put slot).1 (SetTable.insertAt es (t.put slot).2 (h,x)).size;exact ⟨m.1,m.2⟩
 ·exact ⟨rfl,fun _=>rfl⟩
theorem laid_marks {mask finger moves:Nat}{led plain:Bool}{hs:Array Int}{t:SetTable}{o:Array Nat}(h:SetTable.laid mask finger moves led plain hs=some (t,o)):t.led=led/\t.plain=plain:=by
 unfold SetTable.laid at h;simp only [Option.bind_eq_bind,Option.bind_eq_some_iff,Option.pure_def,Option.some.injEq,Prod.mk.injEq] at h;obtain ⟨_,_,h,_⟩:=h;rw [←h];exact ⟨rfl,rfl⟩
theorem Ia (t:SetTable)(es:Array (Int×Value))(n:Nat):(relayAll t es n).2.1.led=t.led/\(t.plain=false->(relayAll t es n).2.1.plain=false):=by
 unfold relayAll
 split
 ·rename_i t' order he;have m:=laid_marks he;dsimp only
  split
  ·exact ⟨m.1,fun z=>m.2.trans z⟩
  ·exact ⟨rfl,fun _=>rfl⟩
 ·exact ⟨rfl,fun _=>rfl⟩
def keyOf (e:Int×Value):Str:=match e.2 with
 | .str k _=>k
 | _=>""
def TxData (prog:Program)(w:World)(es:Array (Int×Value))(t:SetTable)(ks:List Str):Prop :=
 ElemsOf (strKind prog w) es.toList/\(es.toList.map keyOf).Perm ks/\es.size<scanBound/\t.fits es.size=true/\t.led=!(w.params.followText "set-order")/\(es.size≠0->t.plain=false)
def TxSet (prog:Program)(w:World)(h:Heap)(a:Addr)(ks:List Str):Prop:=∃ o es ep t,h.get? a=some o/\o.ExactSet/\o.data=.set es ep t/\TxData prog w es t ks
section
variable {prog:Program}{w:World}{A:Around}{E:Value->Shared->Prop}{s:Shared}
theorem TxSet.at {h h':Heap}{a:Addr}{ks:List Str}(x:TxSet prog w h a ks)(e:∀ o,h.get? a=some o->h'.get? a=some o):TxSet prog w h' a ks:=by
 obtain ⟨o,es,ep,t,ho,r⟩:=x;exact ⟨o,es,ep,t,e _ ho,r⟩
theorem key_is {es:Array (Int×Value)}(h:ElemsOf (strKind prog w) es.toList){e:Int×Value}(he:e∈es.toList)(k:Str):(strKind prog w).is k e.2=true↔keyOf e=k:=by
 obtain ⟨⟨k',hk',_⟩,_⟩:=h e he;obtain ⟨t,et⟩:=YB hk';have ek:keyOf e=k':=by unfold keyOf;rw [et]
 constructor
 ·intro z;rw [ek];exact (strKind prog w).inj e.2 k' k hk' z
 ·intro z;rw [←z,ek];exact hk'
theorem uS {es:Array (Int×Value)}{ks:List Str}(h:ElemsOf (strKind prog w) es.toList)(p:(es.toList.map keyOf).Perm ks)(k:Str):k∈ks↔∃ e∈es.toList,(strKind prog w).is k e.2=true:=by
 rw [←p.mem_iff,Za];exact ⟨fun ⟨e,he,z⟩=>⟨e,he,(key_is h he k).mpr z⟩,fun ⟨e,he,z⟩=>⟨e,he,(key_is h he k).mp z⟩⟩
theorem vN {es:Array (Int×Value)}{t:SetTable}{ks:List Str}(x:TxData prog w es t ks):es.size=ks.length:=by
 rw [←x.2.1.length_eq,Q5,ZE]
theorem tx_add {a:Addr}{ks:List Str}{k:Str}{tk:Tok}{Q:Bool->Shared->Prop}(hS:TxSet prog w s.heap a ks)(hroom:ks.length+1<scanBound)
  (h:∀ h' r,Heap.SameBut a s.heap h'->TxSet prog w h' a (if k∈ks then ks else ks++[k])->Q r { s with heap:=h' }) :
  wpAny (model prog w) A (setAddHashed a (.str k tk) (hashStr w k)) Q E s:=by
 obtain ⟨o,es,ep,t,ho,hex,hd,X⟩:=hS;have hlen:=vN X;obtain ⟨hel,hp,hb,hf,hled,hpl⟩:=X;have hkey:(strKind prog w).is k (.str k tk)=true:=by show Value.isStrOf k (.str k tk)=true;simp [Value.isStrOf]
 have hsc:(Value.str k tk).scannable=true:=rfl;have hh:hashStr w k=(strKind prog w).hash k:=rfl;rw [hh];unfold setAddHashed setAddHashedIn;refine Yr (Q6 (ZZ ho hd hf ?_));dsimp only;rw [byScan_of (knd:=strKind prog w) hsc hb hel];simp only [↓reduceIte];unfold setAddByScan;refine Q6 (Q6 (JC (Q6 (wpAny_setScan_of (knd:=strKind prog w) hkey ho hd hf hel ?_))));cases hr:List.findIdx? (fun e=>(strKind prog w).is k e.2) es.toList with
 | some j =>
  obtain ⟨hj,hpj,_⟩:=List.findIdx?_eq_some_iff_getElem.mp hr;have hk:k∈ks:=(uS hel hp k).mpr ⟨es.toList[j],Yz hj,hpj⟩;have:=h s.heap false (Heap.SameBut.refl a s.heap) (by rw [Zz hk];exact ⟨o,es,ep,t,ho,hex,hd,hel,hp,hb,hf,hled,hpl⟩);exact Q8 (Q8 this)
 | none =>
  have hk:k∉ks:=fun z=>by
   obtain ⟨e,he,q⟩:=(uS hel hp k).mp z;have:=List.findIdx?_eq_none_iff.mp hr e he;rw [q] at this;cases this
  rw [Zy hk] at h;have hgw:∀ (b:Bool) {s₁:Shared} {Q':Unit->Shared->Prop},Q' () s₁->wpAny (model prog w) A (match b with|true=>rule "set.scan.the-table-gave-way"|false=>pure ()) Q' E s₁:=by
   intro b s₁ Q' hq;cases b
   ·exact Q8 hq
   ·exact JC hq
  have hperm:=layNew_perm t es ((strKind prog w).hash k) (.str k tk);have hfits:=layNew_fits t es ((strKind prog w).hash k) (.str k tk);have hmk:=Bl t es ((strKind prog w).hash k) (.str k tk);dsimp only;generalize layNew t es ((strKind prog w).hash k) (.str k tk)=L at hperm hfits hmk ⊢;obtain ⟨es1,t1,wd,gave⟩:=L;dsimp only at hperm hfits hmk ⊢;rw [Array.toList_push] at hperm;have hsz:es1.size=es.size+1:=by rw [←ZE,hperm.length_eq,Zh,ZE];rfl
  have hel1:ElemsOf (strKind prog w) es1.toList:=(hel.push hkey hsc).perm hperm;have hp1:(es1.toList.map keyOf).Perm (ks++[k]):=by
   refine (hperm.map keyOf).trans ?_;rw [Zf];exact hp.append (List.Perm.refl _)
  have hb1:es1.size<scanBound:=by omega
  refine Q6 (hgw _ ?_);have tail:∀ (t2:SetTable),t2.fits es1.size=true->t2.led=t.led->t2.plain=false->wpAny (model prog w) A (do
    storeSet a es1 t2
    if (!wd&&t2.tooFull)=true then do
      (match (relayAll t2 es1 (SetTable.grown es1.size)).2.2 with|true=>rule "set.scan.the-table-gave-way"|false=>pure ())
      storeSet a (relayAll t2 es1 (SetTable.grown es1.size)).1 (relayAll t2 es1 (SetTable.grown es1.size)).2.1
      pure (some true)
     else pure (some true)) (fun r s'=>r=some true/\Q true s') E s:=by
   intro t2 hf2 hl2 hp2;refine Q6 (wpAny_storeSet_of ho hd ?_ (fits_of_scanBound hb1));have sb1:=Heap.SameBut.update s.heap a (Obj.putSet es1 t2);have ho1:(s.heap.update a (Obj.putSet es1 t2)).get? a=some { o with data:=.set es1 (ep+1) t2 }:=by
    have:=Ya (Obj.putSet es1 t2) ho (by rw [putSet_of es1 t2 hd];rfl);rw [putSet_of es1 t2 hd] at this;exact this
   split
   ·have hpR:=relayAll_perm t2 es1 (SetTable.grown es1.size);have hfR:=relayAll_fits t2 es1 (SetTable.grown es1.size);have hmR:=Ia t2 es1 (SetTable.grown es1.size);generalize relayAll t2 es1 (SetTable.grown es1.size)=Rl at hpR hfR hmR ⊢;obtain ⟨es2,t3,gv⟩:=Rl;dsimp only at hpR hfR hmR ⊢;have hsz2:es2.size=es1.size:=by rw [←ZE,hpR.length_eq,ZE]
    refine Q6 (hgw _ (Q6 (wpAny_storeSet_of ho1 rfl ?_ (fits_of_scanBound (by omega)))));have ho2:((s.heap.update a (Obj.putSet es1 t2)).update a (Obj.putSet es2 t3)).get? a=some { o with data:=.set es2 (ep+1+1) t3 }:=by
     have:=Ya (Obj.putSet es2 t3) ho1 (by rw [putSet_of es2 t3 rfl];rfl);rw [putSet_of es2 t3 rfl] at this;exact this
    exact Q8 ⟨rfl,h _ true (sb1.trans (Heap.SameBut.update _ a _)) ⟨_,es2,_,t3,ho2,hex,rfl,hel1.perm hpR,((hpR.map keyOf)).trans hp1,by omega,hfR,hmR.1.trans (hl2.trans hled),fun _=>hmR.2 hp2⟩⟩
   ·exact Q8 ⟨rfl,h _ true sb1 ⟨_,es1,_,t2,ho1,hex,rfl,hel1,hp1,hb1,hf2,hl2.trans hled,fun _=>hp2⟩⟩
  split
  ·refine Q6 ?_;rw [hashByValue_scannable 8 hsc];refine Q8 ?_;refine Yn (tail { t1 with plain:=false } (SetTable.fits_plain_off hfits) hmk.1 rfl) (fun r s' q=>?_) fun _ _ z=>z;obtain ⟨rfl,q⟩:=q;exact Q8 q
  ·rename_i hpf;refine Q6 (Q8 ?_);simp only [↓reduceIte];refine Yn (tail t1 hfits hmk.1 (by simpa using hpf)) (fun r s' q=>?_) fun _ _ z=>z;obtain ⟨rfl,q⟩:=q;exact Q8 q
def step (ks:List Str)(k:Str):List Str:=if k∈ks then ks else ks++[k]
def uniq (xs:List Str):List Str:=xs.foldl step []
theorem Gs (xs:List Str)(k:Str):uniq (xs++[k])=step (uniq xs) k:=by unfold uniq;rw [Yw];rfl
theorem step_len (ks:List Str)(k:Str):(step ks k).length<=ks.length+1:=by unfold step;split<;>simp
theorem uniq_len:∀ (n:Nat) (xs:List Str),xs.length=n->(uniq xs).length<=n
 | 0,xs,h=>by rw [Yd h];exact Ze _
 | n+1,xs,h=>by
  have hne:xs≠[]:=fun z=>by rw [z] at h;cases h
  rw [←List.dropLast_concat_getLast hne,Gs];have:=uniq_len n xs.dropLast (by rw [List.length_dropLast];omega);have:=step_len (uniq xs.dropLast) (xs.getLast hne);omega
theorem uniq_take {xs:List Str}{i:Nat}{k:Str}(h:xs[i]?=some k):uniq (xs.take (i+1))=if k∈uniq (xs.take i) then uniq (xs.take i) else uniq (xs.take i)++[k]:=by
 have e:xs.take (i+1)=xs.take i++[k]:=by rw [Yv,h];rfl
 rw [e,Gs];rfl
end
section
variable {prog:Program}{w:World}{A:Around}{R:Result->Shared->Prop}{I:Addr}{fp wr:List Addr}{G:Array GenState->Array GenState->Prop}{n:Nat}{P:Nat->Value->Prop}{St:Nat->Shared->Prop}
theorem tx_loop (W:WalksS prog w A.in1 I fp wr G n P St)(S:Addr)(hSf:S∉fp)(xs:List Str)(hn:xs.length=n)(hval:∀ i v,P i v->∃ k t,xs[i]?=some k/\v=.str k t)(hb:n+1<scanBound) :
  ∀ (m i:Nat) (s:Shared),n-i=m->i<=n->St i s->TxSet prog w s.heap S (uniq (xs.take i)) ->
   (∀ s',Moved (S::wr) G s s'->TxSet prog w s'.heap S (uniq xs)->R (.ok (.ret .none)) s')->codeAny (model prog w) A (.builtin "set.update.loop" ⟨[.ref S,.ref I],[]⟩) R s:=by
 have hSw:S∉wr:=fun h=>hSf (W.sub _ h);have hsub:∀ b∈wr,b∈S::wr:=fun b hb=>Zb _ hb;intro m
 induction m with
 | zero =>
  intro i s hk hi hst hS hR;have hin:i=n:=by omega
  subst hin;refine YM JT ?_;rw [Around.under_plainId YY _];show wpAny _ A.in1 (pyNext (.ref I)>>=_) _ _ s;refine Q6 (W.done s _ _ hst fun s' hm=>?_);show wpAny _ A.in1 (ret Value.none) _ _ s';rw [←hn,ZA] at hS;exact Q8 (hR s' (hm.mono hsub) (hS.at fun o e=>hm.heap S _ hSw e))
 | succ m ih =>
  intro i s hk hi hst hS hR;have hlt:i<n:=by omega
  refine YM JT ?_;rw [Around.under_plainId YY _];show wpAny _ A.in1 (pyNext (.ref I)>>=_) _ _ s;refine Q6 (W.item i s _ _ hlt hst fun v s' hP hst' hm=>?_);obtain ⟨k,t,hxk,rfl⟩:=hval i v hP;have hS':=hS.at (h':=s'.heap) fun o e=>hm.heap S _ hSw e;show wpAny _ A.in1 (holding [Value.str k t] (setAdd S (.str k t))>>=_) _ _ s';refine Q6 (Yr ?_);unfold setAdd;refine Yr ?_;refine Q6 ((strKind prog w).pyHash (k:=k) (by show Value.isStrOf k (.str k t)=true;simp [Value.isStrOf]) ?_);have hl:=uniq_len _ (xs.take i) rfl;rw [ZC] at hl;refine tx_add (s:={ s' with toks:=s'.toks+1 }) hS' (by omega) fun h' r hsb hS2=>?_;rw [←uniq_take hxk] at hS2;refine Q8 ⟨JW YY _,ih (i+1) _ (by omega) hlt (W.frame _ s' _ _ hst' (JB _) fun b hb o e=>?_) hS2 fun s'' hm'' hS''=>?_⟩
  ·rw [hsb.2 b (fun h:b=S=>hSf (by rw [←h];exact hb))];exact e
  ·refine hR s'' (Moved.trans W.gtrans ((hm.mono hsub).then_heap (JB _) fun b o hb e=>?_) hm'') hS'';rw [hsb.2 b (fun h:b=S=>hb (by rw [h];exact Zc))];exact e
end
section
variable {prog:Program}{w:World}{A:Around}{E:Value->Shared->Prop}{s:Shared}
def z5 (w:World):Obj:={ cls:=.type "set",dict:=none,data:=.set #[] 0 (.fresh 0 0 (!(w.params.followText "set-order"))) }
theorem B6 {h:Heap}{a:Addr}{xs:List Str}(e:h.get? a=some (z5 w)):TxSet prog w h a (uniq (xs.take 0)) :=
 ⟨_,#[],0,_,e,⟨rfl,rfl,rfl⟩,rfl,fun _ z=>by simp at z,List.Perm.refl _,by decide,by rfl,rfl,fun z=>absurd rfl z⟩
theorem set_new (a:Value){Q₁:Value->Shared->Prop}(h:Q₁ (.ref s.heap.objs.size) { s with heap:=s.heap.push (z5 w) }) :
  codeAny (model prog w) A (.call (.builtin "set.__new__") ⟨[.type "set",a],[]⟩) (wants Q₁ E) s:=by
 refine V7 ?_;show wpAny _ A.in1 (do checkBuiltinCall "set.__new__" ⟨[.type "set",a],[]⟩;again (.builtin "set.__new__" ⟨[.type "set",a],[]⟩)) _ _ s;refine Q6 (JD (F.newCall_set_1 a) (Q8 ⟨JW F.plain_set_new _,YM F.entry_set_new ?_⟩));rw [Around.under_plainId F.plain_set_new _];unfold Builtin.«set.__new__» Builtin.Frozenset.newClass;have hsub:=sub_set_self;obtain ⟨hp,g,d,tk,os⟩:=s;dsimp only
 wp_walk
 refine Ji (Q8 ?_);dsimp only;simp only [newObj];refine Q6 (wpAny_alloc (Q8 ?_));exact Q8 h
theorem sub_list_set:isSubtype (.type "list") (.type "set")=pure false:=by rw [Y6];kernel_rfl
theorem sub_list_frozenset:isSubtype (.type "list") (.type "frozenset")=pure false:=by rw [Y6];kernel_rfl
theorem sub_tuple_set:isSubtype (.type "tuple") (.type "set")=pure false:=by rw [Y6];kernel_rfl
theorem sub_tuple_frozenset:isSubtype (.type "tuple") (.type "frozenset")=pure false:=by rw [Y6];kernel_rfl
end
end AxS
namespace AxS
open PySem PySem.Spec PyProof.Rows
section
variable {M:Model}{A:Around}{E:Value->Shared->Prop}{s:Shared}
theorem BD {src:Source}{n:Nat}{Q:Nat->Shared->Prop}(hn:n≠0)(h:∀ i,i<n->Q i { s with drawn:=s.drawn.bump src }):wpAny M A (choose src n) Q E s :=
 fun Γ p _=>⟨hn,h _ (Nat.mod_lt _ (Nat.pos_of_ne_zero hn))⟩
theorem Gd {α:Type}{xs:List α}{i:Nat}{x:α}(h:xs[i]?=some x):(x::xs.eraseIdx i).Perm xs:=by
 induction xs generalizing i with
 | nil=>cases h
 | cons y ys ih =>
  cases i with
  | zero =>
   have h:y=x:=Option.some.inj h;subst h;exact List.Perm.refl _
  | succ i =>
   have h:ys[i]?=some x:=by simpa using h
   show (x::y::ys.eraseIdx i).Perm (y::ys);exact (List.Perm.swap y x _).trans (List.Perm.cons y (ih h))
theorem q9 {α:Type}:∀ (n:Nat) (xs:List α) (s:Shared) {Q:List α->Shared->Prop},xs.length<=n->(∀ ys d,ys.Perm xs->Q ys { s with drawn:=d })->wpAny M A (drawOrder n xs) Q E s
 | 0,xs,s,Q,hl,h=>by
  have e:xs=[]:=Yd (by omega);subst e;exact Q8 (h [] s.drawn (List.Perm.refl _))
 | n+1,[],s,Q,hl,h=>Q8 (h [] s.drawn (List.Perm.refl _))
 | n+1,x::xs,s,Q,hl,h=>by
  refine Q6 (BD (by simp) fun i hi=>?_);have hx:(x::xs)[i]?=some ((x::xs)[i]):=Zj hi;have hp:=Gd hx;show wpAny M A (match (x::xs)[i]? with|some x_1=>_|none=>_) Q E _;rw [hx];refine Q6 (q9 n _ _ (by rw [List.length_eraseIdx_of_lt hi];simp at hl ⊢;omega) fun ys d hy=>?_);exact Q8 (h _ d ((List.Perm.cons _ hy).trans hp))
theorem pick_go {α:Type}(next:Nat->Nat):∀ (fuel k:Nat) (left:List α) (out:Array α),left.length=fuel->(pickOrder.go next fuel k left out).toList.Perm (out.toList++left)
 | 0,k,left,out,h=>by
  rw [Yd h,ZF];exact List.Perm.refl _
 | fuel+1,k,left,out,h=>by
  unfold pickOrder.go;have hlt:next k % left.length<left.length:=Nat.mod_lt _ (by omega);have hx:left[next k % left.length]?=some (left[next k % left.length]):=Zj hlt;rw [hx];refine (pick_go next fuel (k+1) _ _ (by rw [List.length_eraseIdx_of_lt hlt];omega)).trans ?_;rw [Array.toList_push,Z2];exact List.Perm.append_left _ (Gd hx)
theorem Xb {α:Type}(next:Nat->Nat)(xs:Array α):(pickOrder next xs).toList.Perm xs.toList:=by
 have:=pick_go next xs.size 0 xs.toList #[] (by simp);simpa [pickOrder] using this
end
section
variable {prog:Program}{w:World}{A:Around}{E:Value->Shared->Prop}{s:Shared}
def byText (w:World):Bool:=w.params.followText "set-order"
theorem Ii {a:Addr}{o:Obj}{es:Array (Int×Value)}{ep:Nat}{t:SetTable}{Q:Bool->Shared->Prop}(ho:s.heap.get? a=some o)(hd:o.data=.set es ep t)(hf:t.fits es.size=true)
  (h:Q (!byText w&&(!t.plain&&decide (es.size>1))) s):wpAny (model prog w) A (setDrawn a) Q E s:=by
 unfold setDrawn setsByText;refine Q6 (ZZ ho hd hf ?_);refine Q6 (Q6 (Ji (Q8 ?_)));exact Q8 h
theorem entry_iter:entryFor table "set.__iter__"=some Builtin.«frozenset.__iter__» :=
 entryFor_alias (id':="frozenset.__iter__") (by kernel_rfl) (by first|rfl|decide +kernel|(unfold String.splitOn;simp +decide [String.splitOnAux])) (by decide +kernel) (by kernel_rfl)
theorem BV:Manifest.owners.lookup (String.ofList ['r','o','t','a','r','e','t','i','_','t','e','s'].reverse)=some Manifest.sig_set_iterator:=by kernel_rfl
theorem slot_next:Slot "set_iterator" "__next__" "set_iterator.__next__" :=
 .of (owner:="set_iterator") (n:="__next__") (by rw [V8,Vm];kernel_rfl) (by decide +kernel) (by decide +kernel) (by decide +kernel)
  (by first|exact .inl (by decide +kernel)|exact .inr (by decide +kernel)) (by rw [Y6];kernel_rfl)
theorem entry_next:entryFor table "set_iterator.__next__"=some Builtin.«set_iterator.__next__»:=entryFor_of_tree (by kernel_rfl)
theorem args_next (a:Value):argsOk "set_iterator.__next__" ⟨[a],[]⟩:=by
 unfold argsOk;rw [signature?_of (id:="set_iterator.__next__") (n:=['_','_','t','x','e','n','_','_']) (o:=['r','o','t','a','r','e','t','i','_','t','e','s']) (by kernel_rfl) BV];kernel_rfl
theorem Xz:Slot "set_iterator" "__iter__" "set_iterator.__iter__" :=
 .of (owner:="set_iterator") (n:="__iter__") (by rw [V8,Vm];kernel_rfl) (by decide +kernel) (by decide +kernel) (by decide +kernel)
  (by first|exact .inl (by decide +kernel)|exact .inr (by decide +kernel)) (by rw [Y6];kernel_rfl)
theorem args_itself (a:Value):argsOk "set_iterator.__iter__" ⟨[a],[]⟩:=by
 unfold argsOk;rw [signature?_of (id:="set_iterator.__iter__") (n:=['_','_','r','e','t','i','_','_']) (o:=['r','o','t','a','r','e','t','i','_','t','e','s']) (by kernel_rfl) BV];kernel_rfl
theorem BC:entryFor table "set_iterator.__iter__"=some Builtin.«dict_keyiterator.__iter__» :=
 entryFor_alias (id':="dict_keyiterator.__iter__") (by kernel_rfl) (by first|rfl|decide +kernel|(unfold String.splitOn;simp +decide [String.splitOnAux])) (by decide +kernel) (by kernel_rfl)
end
end AxS
namespace AxS
open PySem PySem.Spec PyProof.Rows
section
variable {prog:Program}{w:World}{A:Around}{E:Value->Shared->Prop}{s:Shared}
def itO (first:Value)(i:Int)(a:Addr)(n ep:Nat):Obj:={ cls:=.type "set_iterator",data:=.fields #[first,rawInt i,.ref a,rawInt n,rawInt ep] }
theorem iter_set {a:Addr}{o:Obj}{es:Array (Int×Value)}{ep:Nat}{t:SetTable}{Q:Value->Shared->Prop}(ho:s.heap.get? a=some o)(hx:o.ExactSet)(hd:o.data=.set es ep t)(hf:t.fits es.size=true)(hz:es.size<=1000)
  (h1:(!byText w&&(!t.plain&&decide (es.size>1)))=false->Q (.ref s.heap.objs.size) { s with heap:=s.heap.push (itO (rawInt 0) 0 a es.size ep) })
  (h2:(!byText w&&(!t.plain&&decide (es.size>1)))=true->∀ (ps:List Nat) d tk,ps.Perm (List.range es.size)->Q (.ref (s.heap.objs.size+1)) { s with heap:=(s.heap.push { cls:=.type "tuple",data:=.seq (ps.map fun i=>rawInt (i:Nat)).toArray }).push (itO (.ref s.heap.objs.size) 0 a es.size ep),drawn:=d,toks:=tk }) :
  wpAny (model prog w) A (pyIter (.ref a)) Q E s:=by
 have hT:s.TypeIs (.ref a) "set":=⟨o,ho,hx.1⟩;refine wpAny_pyIter_slot hT PySem.F.slot_set_iter (Z6 PySem.F.slot_set_iter hT entry_iter ?_ (PySem.F.args_set_iter_1 _));unfold Builtin.«frozenset.__iter__»;refine Q6 (m:=Builtin.Frozenset.slot0 _ _) (JD (a:=a) rfl ?_);unfold Builtin.Frozenset.sizeOf;refine Q6 (Q6 (Jd ho hd hf (Q8 ?_)));refine Q6 (Ii ho hd hf ?_);cases q:(!byText w&&(!t.plain&&decide (es.size>1))) with
 | false =>
  rw [Zy (by decide)];refine Q6 (Q8 (Q6 (wpAny_setEpoch_of ho hd hf ?_)));simp only [newFields];refine Q6 (Z1 ?_);exact Q8 ⟨_,rfl,"set_iterator",_,⟨_,Zm _ rfl,rfl⟩,slot_next.lookup,h1 q⟩
 | true =>
  rw [Zz rfl];refine Q6 (q9 es.size (List.range es.size) s (by rw [YD];exact Ze _) fun ps d hp=>?_);have pl:ps.length=es.size:=by rw [hp.length_eq,YD]
  simp only [newTuple];refine Q6 (Z1 ?_ ?_)
  ·have ho':(s.heap.push { cls:=.type "tuple",data:=.seq (ps.map fun i=>rawInt (i:Nat)).toArray }).get? a=some o:=Q9 _ ho;refine Q6 (wpAny_setEpoch_of (s:={ s with heap:=s.heap.push { cls:=.type "tuple",data:=.seq (ps.map fun i=>rawInt (i:Nat)).toArray },drawn:=d }) ho' hd hf ?_);simp only [newFields];refine Q6 (Z1 ?_);have e:(s.heap.push { cls:=.type "tuple",data:=.seq (ps.map fun i=>rawInt (i:Nat)).toArray }).objs.size=s.heap.objs.size+1:=Yo _ _;refine Q8 ⟨_,rfl,"set_iterator",_,⟨_,Zm _ rfl,rfl⟩,slot_next.lookup,?_⟩;have:=h2 q ps d s.toks hp;rw [←e] at this;exact this
  ·show (ps.map fun i=>rawInt (i:Nat)).toArray.size<=sizeLine;rw [Zv,Q5,pl,Ym];omega
theorem xW {it:Addr}{f:Value}{i:Int}{a:Addr}{n ep:Nat}(h:s.heap.get? it=some (itO f i a n ep)):s.TypeIs (.ref it) "set_iterator":=⟨_,h,rfl⟩
theorem GQ {it a:Addr}{o:Obj}{es:Array (Int×Value)}{ep:Nat}{t:SetTable}{slot i slot':Nat}{x:Value}{Q:Option Value->Shared->Prop}(hit:s.heap.get? it=some (itO (rawInt slot) i a es.size ep))(hne:a≠it)(ho:s.heap.get? a=some o)(hd:o.data=.set es ep t)(hf:t.fits es.size=true)
  (hn:∀ (A:Around) (E:Value->Shared->Prop) (Q:Option (Value×Nat)->Shared->Prop),Q (some (x,slot')) s->wpAny (model prog w) A (setNext a slot i ep) Q E s)
  (h:∀ h',h'.get? it=some (itO (rawInt slot') (i+1) a es.size ep)->Heap.SameBut it s.heap h'->Q (some x) { s with heap:=h' }):wpAny (model prog w) A (pyNext (.ref it)) Q E s:=by
 unfold pyNext;refine Q6 (VV (YG (name:=Str.ofString "__next__") (xW hit) slot_next
  (Z6 slot_next (xW hit) entry_next ?_ (args_next _))))
 unfold Builtin.«set_iterator.__next__»;refine Q6 (JD (a:=(Value.ref it,[])) rfl ?_);refine Q6 (VN hit rfl ?_);show wpAny _ _ (setEntries a>>=_) _ _ s;refine Q6 (Jd ho hd hf ?_);have e1:(((es.size:Nat):Int) !=((es.size:Nat):Int))=false:=by simp
 rw [Zy (by rw [e1];decide)];show wpAny _ _ (setNext a slot i ep>>=_) _ _ s;refine Q6 (hn _ _ _ ?_);show wpAny _ _ (setField (.ref it) 0 (rawInt slot')>>=_) _ _ s;refine Q6 (YT hit rfl (by simp) ?_);have h1:=Ya (Obj.mapFields (·.setIfInBounds 0 (rawInt (slot':Nat)))) hit rfl;refine Q6 (YT h1 rfl (by simp) ?_);have h2:=Ya (Obj.mapFields (·.setIfInBounds 1 (rawInt ((i:Int)+1)))) h1 rfl;exact Q8 ⟨x,rfl,Q8 (h _ h2 ((Heap.SameBut.update ..).trans (Heap.SameBut.update ..)))⟩
theorem kP {it a:Addr}{o:Obj}{es:Array (Int×Value)}{ep:Nat}{t:SetTable}{slot i:Nat}{Q:Option Value->Shared->Prop}(hh:A.handled=none)(hit:s.heap.get? it=some (itO (rawInt slot) i a es.size ep))(ho:s.heap.get? a=some o)(hd:o.data=.set es ep t)(hf:t.fits es.size=true)
  (hn:∀ (A:Around) (E:Value->Shared->Prop) (Q:Option (Value×Nat)->Shared->Prop),Q none s->wpAny (model prog w) A (setNext a slot i ep) Q E s)
  (h:∀ h',Heap.ExtBut it s.heap h'->Q none { s with heap:=h' }):wpAny (model prog w) A (pyNext (.ref it)) Q E s:=by
 unfold pyNext;refine Q6 (VV (YG (name:=Str.ofString "__next__") (xW hit) slot_next
  (Z6 slot_next (xW hit) entry_next ?_ (args_next _))))
 unfold Builtin.«set_iterator.__next__»;refine Q6 (JD (a:=(Value.ref it,[])) rfl ?_);refine Q6 (VN hit rfl ?_);show wpAny _ _ (setEntries a>>=_) _ _ s;refine Q6 (Jd ho hd hf ?_);have e1:(((es.size:Nat):Int) !=((es.size:Nat):Int))=false:=by simp
 rw [Zy (by rw [e1];decide)];show wpAny _ _ (setNext a slot i ep>>=_) _ _ s;refine Q6 (hn _ _ _ ?_);show wpAny _ _ (setField (.ref it) 2 .none>>=_) _ _ s;refine Q6 (YT hit rfl (by simp) ?_);refine Q6 ?_;simp only [newExc,newTuple];refine Q6 (Z1 ?_ (by size_fits));refine Q6 (m:=firstArgMember _ _) (JD (a:=Value.none) (by first|rfl|(simp only [firstArgMember];rfl)) ?_);refine Z1 ?_ (by size_fits);simp only [raiseNew];refine Q6 (wpAny_handled ?_)
 first|rw [show A.in1.handled=none from hh]|rw [hh]
 refine Q6 (Q8 (wpAny_throw ?_));refine Q6 (Y1 (T:="StopIteration") (b:=true) ⟨_,Zm _ rfl,rfl⟩ isSubtype_stop ?_);refine Q8 (h _ ?_);refine ((Heap.ExtBut.push ?_ _).push _);exact (Heap.SameBut.update ..).extBut
def tupO (ps:List Nat):Obj:={ cls:=.type "tuple",data:=.seq (ps.map fun i=>rawInt (i:Nat)).toArray }
theorem next_drawn {it a u:Addr}{o:Obj}{es:Array (Int×Value)}{ep:Nat}{t:SetTable}{i p:Nat}{ps:List Nat}{e:Int×Value}{Q:Option Value->Shared->Prop}(hit:s.heap.get? it=some (itO (.ref u) i a es.size ep))(hu:s.heap.get? u=some (tupO ps))(ho:s.heap.get? a=some o)(hd:o.data=.set es ep t)(hf:t.fits es.size=true)
  (hp:ps[i]?=some p) (he:es[p]?=some e) (h:∀ h',h'.get? it=some (itO (.ref u) (i+1) a es.size ep)->Heap.SameBut it s.heap h'->Q (some e.2) { s with heap:=h' }):wpAny (model prog w) A (pyNext (.ref it)) Q E s:=by
 unfold pyNext;refine Q6 (VV (YG (name:=Str.ofString "__next__") (xW hit) slot_next
  (Z6 slot_next (xW hit) entry_next ?_ (args_next _))))
 unfold Builtin.«set_iterator.__next__»;refine Q6 (JD (a:=(Value.ref it,[])) rfl ?_);refine Q6 (VN hit rfl ?_);show wpAny _ _ (setEntries a>>=_) _ _ s;refine Q6 (Jd ho hd hf ?_);have e1:(((es.size:Nat):Int) !=((es.size:Nat):Int))=false:=by simp
 rw [Zy (by rw [e1];decide)];show wpAny _ _ (seqItems? (.ref u)>>=_) _ _ s;refine Q6 (wpAny_seqItems hu rfl ?_);have hpi:(ps.map fun i=>rawInt ((i:Nat):Int)).toArray[i]?=some (rawInt (p:Nat)):=by
  rw [Vn,Zl,hp];rfl
 show wpAny _ _ (match (ps.map fun i=>rawInt ((i:Nat):Int)).toArray[i]? with|some (.int place _)=>_|some _=>_|none=>_) _ _ s;rw [hpi];show wpAny _ _ (setNextDrawn a p ep>>=_) _ _ s;unfold setNextDrawn;refine Q6 (Q6 (ZZ ho hd hf ?_));have e2:(ep !=ep)=false:=by simp
 dsimp only;rw [Zy (by rw [e2];decide)];rw [he];refine Q8 ?_;show wpAny _ _ (setField (.ref it) 1 (rawInt ((i:Int)+1))>>=_) _ _ s;refine Q6 (YT hit rfl (by simp) ?_);have h2:=Ya (Obj.mapFields (·.setIfInBounds 1 (rawInt ((i:Int)+1)))) hit rfl;exact Q8 ⟨e.2,rfl,Q8 (h _ h2 (Heap.SameBut.update ..))⟩
theorem Ih {it a u:Addr}{o:Obj}{es:Array (Int×Value)}{ep:Nat}{t:SetTable}{i:Nat}{ps:List Nat}{Q:Option Value->Shared->Prop}(hh:A.handled=none)(hit:s.heap.get? it=some (itO (.ref u) i a es.size ep))(hu:s.heap.get? u=some (tupO ps))(ho:s.heap.get? a=some o)(hd:o.data=.set es ep t)(hf:t.fits es.size=true)
  (hp:ps[i]?=none) (h:∀ h',Heap.ExtBut it s.heap h'->Q none { s with heap:=h' }):wpAny (model prog w) A (pyNext (.ref it)) Q E s:=by
 unfold pyNext;refine Q6 (VV (YG (name:=Str.ofString "__next__") (xW hit) slot_next
  (Z6 slot_next (xW hit) entry_next ?_ (args_next _))))
 unfold Builtin.«set_iterator.__next__»;refine Q6 (JD (a:=(Value.ref it,[])) rfl ?_);refine Q6 (VN hit rfl ?_);show wpAny _ _ (setEntries a>>=_) _ _ s;refine Q6 (Jd ho hd hf ?_);have e1:(((es.size:Nat):Int) !=((es.size:Nat):Int))=false:=by simp
 rw [Zy (by rw [e1];decide)];show wpAny _ _ (seqItems? (.ref u)>>=_) _ _ s;refine Q6 (wpAny_seqItems hu rfl ?_);have hpi:(ps.map fun i=>rawInt ((i:Nat):Int)).toArray[i]?=none:=by
  rw [Vn,Zl,hp];rfl
 show wpAny _ _ (match (ps.map fun i=>rawInt ((i:Nat):Int)).toArray[i]? with|some (.int place _)=>_|some _=>_|none=>_) _ _ s;rw [hpi];show wpAny _ _ (setField (.ref it) 0 (rawInt 0)>>=_) _ _ s;refine Q6 (YT hit rfl (by simp) ?_);have h1:=Ya (Obj.mapFields (·.setIfInBounds 0 (rawInt 0))) hit rfl;refine Q6 (YT h1 rfl (by simp) ?_);refine Q6 ?_;simp only [newExc,newTuple];refine Q6 (Z1 ?_ (by size_fits));refine Q6 (m:=firstArgMember _ _) (JD (a:=Value.none) (by first|rfl|(simp only [firstArgMember];rfl)) ?_);refine Z1 ?_ (by size_fits);simp only [raiseNew];refine Q6 (wpAny_handled ?_)
 first|rw [show A.in1.handled=none from hh]|rw [hh]
 refine Q6 (Q8 (wpAny_throw ?_));refine Q6 (Y1 (T:="StopIteration") (b:=true) ⟨_,Zm _ rfl,rfl⟩ isSubtype_stop ?_);refine Q8 (h _ ?_);refine ((Heap.ExtBut.push ?_ _).push _);exact ((Heap.SameBut.update ..).trans (Heap.SameBut.update ..)).extBut
end
end AxS
namespace AxS
open PySem PySem.Spec PyProof.Rows
section
variable {prog:Program}{w:World}{A:Around}{E:Value->Shared->Prop}{s:Shared}{a:Addr}{o:Obj}{es:Array (Int×Value)}{ep:Nat}{t:SetTable}
theorem uK {slot i:Nat}{Q:Option (Value×Nat)->Shared->Prop}(hb:byText w=true)(ho:s.heap.get? a=some o)(hd:o.data=.set es ep t)(hf:t.fits es.size=true)
  (h:Q (((pickOrder (w.params.setOrder a ep) es)[i]?).map fun e=>(e.2,slot)) s):wpAny (model prog w) A (setNext a slot i ep) Q E s:=by
 have hb':(Setting.mk (model prog w).prog (model prog w).w.params).params.followText "set-order"=true:=hb;unfold setNext setsByText;refine Q6 (ZZ ho hd hf ?_);refine Q6 (Q6 (Ji (Q8 ?_)));dsimp only;rw [Zz hb'];have e2:(ep !=ep)=false:=by simp
 rw [Zy (by rw [e2];decide)];unfold setWalk setsByText;refine Q6 (Q6 (ZZ ho hd hf ?_));refine Q6 (Q6 (Ji (Q8 ?_)));dsimp only;rw [Zz hb'];refine Q6 (Ji ?_);exact Q8 (Q8 h)
theorem Xw {slot i:Nat}{Q:Option (Value×Nat)->Shared->Prop}(hb:byText w=false)(hl:t.led=true)(h1:es.size<=1)(ho:s.heap.get? a=some o)(hd:o.data=.set es ep t)(hf:t.fits es.size=true)
  (h:Q (match es[SetTable.below t.place slot]?,t.place[SetTable.below t.place slot]? with|some (_,x),some j=>some (x,j+1)|_,_=>none) s):wpAny (model prog w) A (setNext a slot i ep) Q E s:=by
 have hb':(Setting.mk (model prog w).prog (model prog w).w.params).params.followText "set-order"=false:=hb;have hdr:(!t.plain&&decide (es.size>1))=false:=by rw [Zo (by omega),JE]
 have hml:(!t.led&&!es.isEmpty)=false:=by rw [hl];rfl
 unfold setNext setsByText;refine Q6 (ZZ ho hd hf ?_);refine Q6 (Q6 (Ji (Q8 ?_)));dsimp only;rw [Zy (by rw [hb'];decide)];refine Q6 (Q8 ?_);show wpAny _ _ (if (!t.plain&&decide (es.size>1))=true then _ else _) _ _ _;rw [Zy (by rw [hdr];decide)];refine Q6 ?_;show wpAny _ _ (if (!t.led&&!es.isEmpty)=true then _ else _) _ _ _;rw [Zy (by rw [hml];decide)];exact Q8 (Q8 h)
theorem Bi {it:Addr}{f:Value}{i:Int}{n:Nat}{Q:Value->Shared->Prop}(hit:s.heap.get? it=some (itO f i a n ep))(h:Q (.ref it) s):wpAny (model prog w) A (pyIter (.ref it)) Q E s:=by
 refine wpAny_pyIter_slot (xW hit) Xz (Z6 Xz (xW hit) BC ?_ (args_itself _));show wpAny _ _ (ret (.ref it)) _ _ s;exact Q8 ⟨_,rfl,"set_iterator",_,xW hit,slot_next.lookup,h⟩
theorem walkA (hh:A.handled=none)(I:Addr)(hne:a≠I)(hb:byText w=true)(hd:o.data=.set es ep t)(hf:t.fits es.size=true) :
  Walks prog w A I [I,a] [I] es.size (fun i v=>((pickOrder (w.params.setOrder a ep) es).toList.map (·.2))[i]?=some v) (fun i h=>h.get? I=some (itO (rawInt (0:Nat)) (i:Nat) a es.size ep)/\h.get? a=some o) where
 sub:=fun b hb=>by simp at hb;simp [hb]
 frame:=fun _ _ _ st hk=>⟨hk I (by simp) _ st.1,hk a (by simp) _ st.2⟩
 item:=fun i s Q E hi st hQ=>by
  have hl:(pickOrder (w.params.setOrder a ep) es).toList.length=es.size:=by rw [(Xb _ es).length_eq,ZE]
  have he:(pickOrder (w.params.setOrder a ep) es).toList[i]?=some ((pickOrder (w.params.setOrder a ep) es).toList[i]'(by omega)):=Zj (by omega);generalize (pickOrder (w.params.setOrder a ep) es).toList[i]'(by omega)=e at he;refine GQ (slot:=0) (slot':=0) (x:=e.2) st.1 hne st.2 hd hf (fun A E Q q=>uK hb st.2 hd hf ?_) fun h' h1 sb=>?_
  ·rw [←Yh,he];exact q
  ·exact hQ _ h' s.toks (by rw [Zl,he];rfl) ⟨h1,(sb.2 a hne).trans st.2⟩ fun b o' hb e=>(sb.2 b (by simpa using hb)).trans e
 done:=fun s Q E st hQ=>by
  have hl:(pickOrder (w.params.setOrder a ep) es).toList.length=es.size:=by rw [(Xb _ es).length_eq,ZE]
  refine kP (slot:=0) hh st.1 st.2 hd hf (fun A E Q q=>uK hb st.2 hd hf ?_) fun h' eb=>hQ h' s.toks fun b o' hb e=>eb b o' (by simpa using hb) e;rw [←Yh,Yc (by omega)];exact q
 self:=fun _ _ _ _ st h=>Bi st.1 h
theorem walkC (hh:A.handled=none)(I u:Addr)(hne:a≠I)(hnu:u≠I)(ps:List Nat)(hp:ps.Perm (List.range es.size))(hd:o.data=.set es ep t)(hf:t.fits es.size=true) :
  Walks prog w A I [I,a,u] [I] es.size (fun i v=>(ps.filterMap fun p=>(es[p]?).map (·.2))[i]?=some v) (fun i h=>h.get? I=some (itO (.ref u) (i:Nat) a es.size ep)/\h.get? a=some o/\h.get? u=some (tupO ps)) where
 sub:=fun b hb=>by simp at hb;simp [hb]
 frame:=fun _ _ _ st hk=>⟨hk I (by simp) _ st.1,hk a (by simp) _ st.2.1,hk u (by simp) _ st.2.2⟩
 item:=fun i s Q E hi st hQ=>by
  have hl:ps.length=es.size:=by rw [hp.length_eq,YD]
  have hpi:ps[i]?=some (ps[i]'(by omega)):=Zj (by omega);have hm:ps[i]'(by omega)<es.size:=Vd.mp (hp.mem_iff.mp (Yz _));have he:es[ps[i]'(by omega)]?=some (es[ps[i]'(by omega)]'hm):=YA hm;have all:ps.filterMap (fun p=>(es[p]?).map (·.2))=ps.map fun p=>(((es[p]?).map (·.2)).getD .none):=by
   have:∀ qs:List Nat,(∀ q∈qs,q<es.size)->qs.filterMap (fun p=>(es[p]?).map (·.2))=qs.map fun p=>(((es[p]?).map (·.2)).getD .none):=fun qs=>by
    induction qs with
    | nil=>intro _;rfl
    | cons q qs ih =>
     intro hq;have hq0:es[q]?=some (es[q]'(hq q Zc)):=YA _;rw [YJ,Zw,hq0];simp only [Yp,Vt];rw [ih fun z hz=>hq z (Zb _ hz)]
   exact this ps fun q hq=>Vd.mp (hp.mem_iff.mp hq)
  refine next_drawn st.1 st.2.2 st.2.1 hd hf hpi he fun h' h1 sb=>?_;refine hQ _ h' s.toks ?_ ⟨h1,(sb.2 a hne).trans st.2.1,(sb.2 u hnu).trans st.2.2⟩ fun b o' hb e=>(sb.2 b (by simpa using hb)).trans e;rw [all,Zl,hpi];simp only [Yp,he,Vt]
 done:=fun s Q E st hQ=>by
  have hl:ps.length=es.size:=by rw [hp.length_eq,YD]
  exact Ih hh st.1 st.2.2 st.2.1 hd hf (Yc (by omega)) fun h' eb=>hQ h' s.toks fun b o' hb e=>eb b o' (by simpa using hb) e
 self:=fun _ _ _ _ st h=>Bi st.1 h
theorem X8 (xs:Array Nat)(h:xs.size<=1):SetTable.below xs 0=0:=by
 unfold SetTable.below;have h2:xs.size=0\/xs.size=1:=by omega
 rcases h2 with e|e
 ·rw [e];rfl
 ·rw [e];unfold SetTable.below.go;rw [Zz (by decide)];show (if xs.getD 0 0<0 then _ else _)=_;rw [Zy (by omega)];rfl
theorem below_one (xs:Array Nat)(h:xs.size=1):SetTable.below xs (xs.getD 0 0+1)=1:=by
 unfold SetTable.below;rw [h];unfold SetTable.below.go;rw [Zz (by decide)];show (if xs.getD 0 (xs.getD 0 0+1)<xs.getD 0 0+1 then _ else _)=_;have e:∀ d,xs.getD 0 d=xs[0]'(by omega):=fun d=>by
  rw [ZT,YA (by omega)];rfl
 rw [e,e,Zz (by omega)];rfl
def slotB (t:SetTable):Nat->Nat
 | 0=>0
 | _+1=>t.place.getD 0 0+1
theorem walkB (hh:A.handled=none)(I:Addr)(hne:a≠I)(hb:byText w=false)(hl:t.led=true)(h1:es.size<=1)(hd:o.data=.set es ep t)(hf:t.fits es.size=true) :
  Walks prog w A I [I,a] [I] es.size (fun i v=>(es.toList.map (·.2))[i]?=some v) (fun i h=>h.get? I=some (itO (rawInt ((slotB t i:Nat):Int)) (i:Nat) a es.size ep)/\h.get? a=some o) where
 sub:=fun b hb=>by simp at hb;simp [hb]
 frame:=fun _ _ _ st hk=>⟨hk I (by simp) _ st.1,hk a (by simp) _ st.2⟩
 item:=fun i s Q E hi st hQ=>by
  have i0:i=0:=by omega
  subst i0;have hpz:t.place.size=es.size:=by
   unfold SetTable.fits at hf;rw [Zg] at hf;exact Vr hf.1
  have he:es[0]?=some (es[0]'hi):=YA hi;have hp:t.place[0]?=some (t.place[0]'(by omega)):=YA (by omega);have hgd:t.place.getD 0 0=t.place[0]'(by omega):=by rw [ZT,hp];rfl
  refine GQ (slot:=0) (slot':=t.place.getD 0 0+1) (x:=(es[0]'hi).2) st.1 hne st.2 hd hf (fun A E Q q=>Xw hb hl h1 st.2 hd hf ?_) fun h' h1 sb=>?_
  ·rw [X8 _ (by omega),he,hp,←hgd];exact q
  ·refine hQ _ h' s.toks ?_ ⟨h1,(sb.2 a hne).trans st.2⟩ fun b o' hb e=>(sb.2 b (by simpa using hb)).trans e;rw [Zl,Yh,he];rfl
 done:=fun s Q E st hQ=>by
  have hpz:t.place.size=es.size:=by
   unfold SetTable.fits at hf;rw [Zg] at hf;exact Vr hf.1
  refine kP (slot:=slotB t es.size) hh st.1 st.2 hd hf (fun A E Q q=>Xw hb hl h1 st.2 hd hf ?_) fun h' eb=>hQ h' s.toks fun b o' hb e=>eb b o' (by simpa using hb) e;have h2:es.size=0\/es.size=1:=by omega
  rcases h2 with e|e
  ·rw [e];show Q (match es[SetTable.below t.place 0]?,t.place[SetTable.below t.place 0]? with|some (_,x),some j=>some (x,j+1)|_,_=>none) s;rw [X8 _ (by omega),Jq (by omega)];exact q
  ·rw [e];show Q (match es[SetTable.below t.place (t.place.getD 0 0+1)]?,t.place[SetTable.below t.place (t.place.getD 0 0+1)]? with|some (_,x),some j=>some (x,j+1)|_,_=>none) s;rw [below_one _ (by omega),Jq (by omega)];exact q
 self:=fun _ _ _ _ st h=>Bi st.1 h
end
end AxS
namespace AxS
open PySem PySem.Spec PyProof.Rows
def xS (vs:List Value)(zs:List Str):Prop:=vs.length=zs.length/\∀ (i:Nat) (v:Value),vs[i]?=some v->∃ k t,zs[i]?=some k/\v=.str k t
section
variable {prog:Program}{w:World}{A:Around}{E:Value->Shared->Prop}{s:Shared}{a:Addr}{ks:List Str}
theorem IJ {l:List (Int×Value)}(h:ElemsOf (strKind prog w) l):xS (l.map (·.2)) (l.map keyOf):=by
 refine ⟨by rw [Q5,Q5],fun i v e=>?_⟩;rw [Zl] at e;cases q:l[i]? with
 | none=>rw [q] at e;cases e
 | some x =>
  rw [q] at e;have e:x.2=v:=Option.some.inj e;obtain ⟨⟨k,hk,_⟩,_⟩:=h x (Zk q);obtain ⟨t,et⟩:=YB hk;exact ⟨k,t,by rw [Zl,q];show some (keyOf x)=_;unfold keyOf;rw [et],by rw [←e];exact et⟩
theorem tx_iter {Q:Value->Shared->Prop}(hS:TxSet prog w s.heap a ks)(hk:ks.length<=1000)(hh:A.handled=none)
  (h:∀ (I:Addr) (fp:List Addr) (h':Heap) d tk (vs:List Value) (zs:List Str) (St:Nat->Heap->Prop),s.heap.objs.size<=I->(∀ b∈fp,b=a\/s.heap.objs.size<=b)->(∀ b o,s.heap.get? b=some o->h'.get? b=some o)->zs.Perm ks->xS vs zs ->
   Walks prog w A I fp [I] ks.length (fun i v=>vs[i]?=some v) St->St 0 h'->Q (.ref I) { s with heap:=h',drawn:=d,toks:=tk }):wpAny (model prog w) A (pyIter (.ref a)) Q E s:=by
 obtain ⟨o,es,ep,t,ho,hx,hd,X⟩:=hS;have hlen:=vN X;obtain ⟨hel,hp,hb,hf,hled,hpl⟩:=X;have hlt:a<s.heap.objs.size:=Zp ho;have hne:a≠s.heap.objs.size:=Zu hlt;refine iter_set ho hx hd hf (by omega) (fun q=>?_) (fun q ps d tk hps=>?_)
 ·have kp:∀ b u,s.heap.get? b=some u->(s.heap.push (itO (rawInt 0) 0 a es.size ep)).get? b=some u:=fun b u e=>Q9 _ e;have fpo:∀ b∈[s.heap.objs.size,a],b=a\/s.heap.objs.size<=b:=fun b hb=>by
   rcases Zi.mp hb with z|z
   ·exact .inr (JL z.symm)
   ·exact .inl (Q7.mp z)
  cases hbt:byText w with
  | true =>
   have W:=walkA (prog:=prog) (A:=A) (es:=es) (ep:=ep) (t:=t) (o:=o) hh s.heap.objs.size hne hbt hd hf;have pp:=Xb (w.params.setOrder a ep) es;rw [hlen] at W;exact h _ _ _ s.drawn s.toks _ _ _ (Ze _) fpo kp ((pp.map keyOf).trans hp) (IJ (hel.perm pp)) W ⟨by rw [←hlen];exact Zm _ rfl,Q9 _ ho⟩
  | false =>
   have h1:es.size<=1:=by
    rw [hbt] at q
    by_cases z:es.size>1
    ·rw [hpl (by omega),Zd z] at q;cases q
    ·omega
   have hl:t.led=true:=by rw [hled];show (!byText w)=true;rw [hbt];rfl
   have W:=walkB (prog:=prog) (A:=A) (es:=es) (ep:=ep) (t:=t) (o:=o) hh s.heap.objs.size hne hbt hl h1 hd hf;rw [hlen] at W;exact h _ _ _ s.drawn s.toks _ _ _ (Ze _) fpo kp hp (IJ hel) W ⟨by rw [←hlen];exact Zm _ rfl,Q9 _ ho⟩
 ·have hnI:a≠s.heap.objs.size+1:=Zu (YH hlt);have W:=walkC (prog:=prog) (w:=w) (A:=A) (es:=es) (ep:=ep) (t:=t) (o:=o) (a:=a) hh (s.heap.objs.size+1) s.heap.objs.size hnI (Zu (Jf _)) ps hps hd hf;have hL:(ps.filterMap fun p=>es[p]?).Perm es.toList:=by
   refine (hps.filterMap _).trans ?_;have e:=List.filterMap_getElem?_range_length es.toList;rw [ZE] at e;have e2:(List.range es.size).filterMap (fun p=>es[p]?)=(List.range es.size).filterMap fun i=>es.toList[i]?:=by congr 1;funext p;exact (Yh ..).symm
   rw [e2,e]
  have hv:(ps.filterMap fun p=>(es[p]?).map (·.2))=(ps.filterMap fun p=>es[p]?).map (·.2):=by rw [List.map_filterMap]
  rw [hlen] at W;rw [hv] at W;have g0:(s.heap.push (tupO ps)).objs.size=s.heap.objs.size+1:=Yo _ _;refine h _ _ _ d tk _ _ _ (JB _) (fun b hb=>?_) (fun b u e=>Q9 _ (Q9 _ e)) ((hL.map keyOf).trans hp) (IJ (hel.perm hL)) W ⟨?_,Q9 _ (Q9 _ ho),Q9 _ (Zm _ rfl)⟩
  ·rcases Zi.mp hb with z|z
   ·exact .inr (by rw [z];exact JB _)
   ·rcases Zi.mp z with z|z
    ·exact .inl z
    ·exact .inr (JL (Q7.mp z).symm)
  ·rw [←g0,←hlen];exact Zm _ rfl
theorem hint_set (hT:s.TypeIs (.ref a) "set"){Q:Bool->Shared->Prop}(h:Q false s):wpAny (model prog w) A (Builtin.List.listLengthHint (.ref a)) Q E s:=by
 unfold Builtin.List.listLengthHint;refine Q6 (J3 hT PySem.F.slot_set_len.lookup ?_);generalize hid:("set.__len__":String)=id0;wp_delta;rw [show splitId id0=some ("set","__len__") from by subst hid;decide +kernel];subst hid;refine Q6 (Y1 (T:="set") (b:=true) hT (by rw [Y6];kernel_rfl) ?_);refine YW (fun hab=>absurd hab (by decide)) (fun _=>?_);refine YW (fun _=>?_) (fun hab=>absurd (by decide +kernel) hab);refine Q6 (JM hT ?_);exact Q8 h
open PySem.Calls PyProof.V in
theorem tx_extend {R:Result->Shared->Prop}(hh:A.handled=none)(hT:TxSet prog w s.heap a ks)(hk:ks.length<=1000)(S:Addr)(hSa:S≠a)(res:Value)(c₀:Nat)(hS:s.heap.get? S=some { cls:=.type "list",data:=.seq #[] c₀ })
  (hR:∀ h' d tk acc' c' (zs:List Str),(∀ b o,b≠S->s.heap.get? b=some o->h'.get? b=some o)->h'.get? S=some { cls:=.type "list",dict:=none,data:=.seq acc' c',slots:=#[] }->zs.Perm ks->xS acc'.toList zs->R (.ok (.ret res)) { s with heap:=h',drawn:=d,toks:=tk }) :
  wpAny (model prog w) A.in1 (Builtin.List.listExtendWith (.ref S) (.ref a) res)
   (fun fin s'=>match fin with|.done f=>R (.ok f) s'|.again c'=>c'.quiet=true/\codeAny (model prog w) A c' R s') (fun e s'=>R (.error e) s') s:=by
 have hSlt:S<s.heap.objs.size:=Zp hS;have ty:s.TypeIs (.ref a) "set":=by obtain ⟨o,es,ep,t,ho,hx,_⟩:=hT;exact ⟨o,ho,hx.1⟩
 unfold Builtin.List.listExtendWith;refine Q6 (JM (T:="set") ty ?_);have h1:Builtin.List.listSameRef (.ref S) (.ref a)=false:=by simp [Builtin.List.listSameRef,hSa]
 have nl:(Value.type "set"==Value.type "list")=false:=by decide
 have nt:(Value.type "set"==Value.type "tuple")=false:=by decide
 simp only [h1,nl,nt,Bool.or_false,Yx,JV];refine Q6 (tx_iter (A:=A.in1) hT hk hh fun I fp h' d tk vs zs St hI hfp kp hz tx W st=>?_);have ty':Shared.TypeIs { s with heap:=h',drawn:=d,toks:=tk } (.ref a) "set":=by obtain ⟨o,es,ep,t,ho,hx,_⟩:=hT;exact ⟨o,kp _ _ ho,hx.1⟩
 refine Q6 (Yr (hint_set ty' ?_));have hSf:S∉fp:=fun z=>by
  rcases hfp S z with e|e
  ·exact hSa e
  ·exact Yq _ (ZD hSlt e)
 have hS₁:=kp _ _ hS;refine YW (fun _=>?_) (fun z=>absurd (by decide) z);refine Q6 (JC ?_);refine Q6 ?_;show wpAny _ _ (updateSeq S (·.push .none)>>=fun _=>updateSeq S (·.pop)) _ _ _;refine Q6 (wpAny_updateSeq hS₁ rfl ?_);have hS₂:=Ya (Obj.mapSeq (·.push Value.none)) hS₁ rfl;refine wpAny_updateSeq (hz:=by seq_fits) hS₂ rfl ?_;have hS₃:=Ya (Obj.mapSeq (·.pop)) hS₂ rfl;refine Q8 ⟨JW PySem.F.plain_extend_loop _,?_⟩;have oth:∀ b o,b≠S->h'.get? b=some o->((h'.update S (Obj.mapSeq (·.push Value.none))).update S (Obj.mapSeq (·.pop))).get? b=some o:=fun b o hb e =>
  (Yy _ _ (Ne.symm hb)).trans ((Yy _ _ (Ne.symm hb)).trans e)
 have st':=W.frame 0 _ _ st fun b hb o e=>oth b o (fun z=>hSf (z▸hb)) e;refine codeAny_extend_loopS W.toS (by rw [Ym];omega) S hSf res ks.length 0 _ #[] _ rfl (ZJ _) st' hS₃ (ItemsOf.nil _) fun s' acc' c' hm hS' hacc=>?_;rw [Moved.eq_with hm];have hva:acc'.toList=vs:=by
  have hl:acc'.toList.length=vs.length:=by rw [ZE,hacc.1,tx.1,hz.length_eq]
  refine List.ext_getElem? fun i=>?_
  by_cases hi:i<acc'.size
  ·have e:=YA hi;rw [Yh,e];exact (hacc.2 i _ e).symm
  ·rw [Yc (by rw [ZE];omega),Yc (by rw [←hl,ZE];omega)]
 refine hR s'.heap d s'.toks acc' c' zs (fun b o hb e=>hm.heap b o (fun hmem=>?_) (oth b o hb (kp b o e))) hS' hz (by rw [hva];exact tx)
 rcases Zi.mp hmem with e'|hmem
 ·exact hb e'
 ·have hbI:b=I:=Q7.mp hmem;exact absurd (hbI▸Zp e) (Nat.not_lt.mpr hI)
open PySem.Calls PyProof.V PySem.W in
theorem tx_collect {R:List Value->Shared->Prop}(hh:A.handled=none)(hT:TxSet prog w s.heap a ks)(hk:ks.length<=1000)
  (h:∀ (h':Heap) d (tk:Nat) (vs:List Value) (zs:List Str),(∀ b o,s.heap.get? b=some o->h'.get? b=some o)->zs.Perm ks->xS vs zs->R vs { s with heap:=h',drawn:=d,toks:=tk }):wpAny (model prog w) A (collect (.ref a)) R E s:=by
 have hlt:a<s.heap.objs.size:=by obtain ⟨o,es,ep,t,ho,_⟩:=hT;exact Zp ho
 unfold collect;refine Q6 (wpAny_runValue (YM entry_proto_collect' ?_));rw [Around.under_plainId PySem.F.plain_proto_collect _];show wpAny _ A.in1 (newList []>>=fun l=>again (.builtin "list.__iadd__" ⟨[l,.ref a],[]⟩)) _ _ s;refine Q6 (Z1 ?_);refine Q8 ⟨JW PySem.F.plain_list_iadd _,YM entry_list_iadd' ?_⟩;rw [Around.under_plainId PySem.F.plain_list_iadd _];have hS₁:(s.heap.push { cls:=.type "list",data:=.seq ([]:List Value).toArray }).get? s.heap.objs.size=some { cls:=.type "list",data:=.seq #[] }:=Zm _ rfl;show wpAny _ A.in1 (Builtin.List.listExtendWith (.ref s.heap.objs.size) (.ref a) (.ref s.heap.objs.size)) _ _ _;have key:=tx_extend (prog:=prog) (w:=w) (A:=A) (a:=a) (ks:=ks) (s:={ s with heap:=s.heap.push { cls:=.type "list",data:=.seq ([]:List Value).toArray } })
  (R:=fun (q:Result) (s':Shared)=>∃ (h':Heap) (d:Drawn) (tk:Nat) (acc':Array Value) (c':Nat) (zs:List Str),q=.ok (.ret (.ref s.heap.objs.size))/\s'={ s with heap:=h',drawn:=d,toks:=tk } /\
   (∀ b o,s.heap.get? b=some o->h'.get? b=some o)/\h'.get? s.heap.objs.size=some { cls:=.type "list",dict:=none,data:=.seq acc' c',slots:=#[] }/\zs.Perm ks/\xS acc'.toList zs)
  hh (hT.at fun o e=>Q9 _ e) hk s.heap.objs.size (JK hlt) (.ref s.heap.objs.size) 0 hS₁
  (fun h' d tk acc' c' zs hk hS' hz tx=>⟨h',d,tk,acc',c',zs,rfl,rfl,fun b o e=>hk b o (Zu (Zp e)) (Q9 _ e),hS',hz,tx⟩)
 refine Yn key (fun fin s' x=>?_) fun e s' x=>?_
 ·cases fin with
  | done f =>
   obtain ⟨h',d,tk,acc',c',zs,e,rfl,hk,hS',hz,tx⟩:=x;cases e;show wpAny _ A (load s.heap.objs.size>>=_) _ _ _;refine Q6 (wpAny_load hS' ?_);exact Q8 (h h' d tk _ zs hk hz tx)
  | again c₁ =>
   refine ⟨x.1,Y0 x.2 fun q s₂ y=>?_⟩;obtain ⟨h',d,tk,acc',c',zs,rfl,rfl,hk,hS',hz,tx⟩:=y;show wpAny _ A (load s.heap.objs.size>>=_) _ _ _;refine Q6 (wpAny_load hS' ?_);exact Q8 (h h' d tk _ zs hk hz tx)
 ·obtain ⟨_,_,_,_,_,_,e',_⟩:=x;cases e'
end
end AxS
namespace AxS
open PySem PySem.Spec PyProof.Rows
section
variable {prog:Program}{w:World}{A:Around}{E:Value->Shared->Prop}{s:Shared}
set_option maxHeartbeats 6400000 in
theorem call_set_list {l:Addr}{items:Array Value}{xs:List Str}{Q:Value->Shared->Prop}(hh:A.handled=none)(hl:s.heap.IsList l items)(hlen:xs.length=items.size)(hi:∀ (i:Nat) (v:Value),items[i]?=some v->∃ k t,xs[i]?=some k/\v=.str k t)(hb:items.size+1<scanBound)
  (h:∀ (h':Heap) (tk:Nat),TxSet prog w h' s.heap.objs.size (uniq xs)->(∀ b o,s.heap.get? b=some o->h'.get? b=some o)->Q (.ref s.heap.objs.size) { s with heap:=h',toks:=tk }):wpAny (model prog w) A (call (.type "set") [.ref l]) Q E s:=by
 obtain ⟨c,tl,hmro⟩:=F.called_set.mro;have hmade:=F.called_set.made;have hsub:=F.called_set.sub;have h1:=F.called_set.notType;have h2:=F.called_set.canCreate;have hct:=F.typeCall_set_1 (.ref l);refine V2 (V7 ?_);show wpAny _ _ (callAny (.type "set") _) _ _ _;refine Q8 ⟨Code.quiet_builtin _ (by decide +kernel),YM F.entry_type_call ?_⟩;rw [Around.under_plain (weight_type_call_type "set" [.ref l] []) rfl]
 repeat (any_goals (first|assumption|wp_step))
 refine Y0 (set_new (.ref l) (E:=E) (Q₁:=fun obj s₁=>obj=.ref s.heap.objs.size/\s₁={ s with heap:=s.heap.push (z5 w) }) ⟨rfl,rfl⟩) fun r s₁ hr=>?_;cases r with
 | error e=>exact hr
 | ok fl =>
  cases fl with
  | ret obj =>
   obtain ⟨rfl,rfl⟩:=hr;have hS:(s.heap.push (z5 w)).get? s.heap.objs.size=some (z5 w):=Zm _ rfl;have hT:Shared.TypeIs { s with heap:=s.heap.push (z5 w) } (.ref s.heap.objs.size) "set":=⟨_,hS,rfl⟩;have hli:=F.called_set.init.lookup;have hbi:=F.called_set.init.bind (.ref s.heap.objs.size)
   repeat (any_goals (first|assumption|wp_step))
   refine Y0 (codeAny_call_builtin (R:=wants (fun r s₂=>r=.none/\∃ h' tk,s₂={ s with heap:=h',toks:=tk }/\TxSet prog w h' s.heap.objs.size (uniq xs) /\
     (∀ b o,s.heap.get? b=some o->h'.get? b=some o)) E) F.called_set.init.plain F.entry_set_init (check_set_init_1 hT ?_)) fun r₂ s₂ hr₂=>?_
   ·have hl1:(s.heap.push (z5 w)).IsList l items:=hl.push _;obtain ⟨ol,hol,hcl,nl,hdl⟩:=id hl1;have hlS:l<s.heap.objs.size:=by obtain ⟨_,e,_⟩:=hl;exact Zp e
    obtain ⟨ocls,odict,odata,oslots⟩:=ol;simp only at hcl hdl;subst hcl;subst hdl;have hsls:=sub_list_set;have hslf:=sub_list_frozenset;have hne:(Value.type "list"==Value.type "dict")=false:=by decide
    unfold z5 at hS hol;unfold Builtin.«set.__init__» noKeywords Builtin.Frozenset.updateFrom;generalize hPI:pyIter=PI;unfold z5
    wp_walk
    subst hPI;refine Ve hl1 ?_;refine Q6 (wpAny_runValue ?_);have hh3:A.in1.in1.in1.handled=none:=by simp [hh]
    have hneI:l≠(s.heap.push (z5 w)).objs.size:=by
     rw [Yo];exact Zu (YH hlS)
    have hSf:s.heap.objs.size∉[(s.heap.push (z5 w)).objs.size,l]:=by
     rw [Yo];simp only [Zi,Q7,Yi,VM,not_or];exact ⟨Zu (Jf _),JK hlS⟩
    refine tx_loop ((Walks.list hh3 _ l hneI items).toS) s.heap.objs.size hSf xs hlen hi hb (items.size-0) 0 _ (by omega) (ZJ _)
     ⟨⟨_,Zm _ rfl,rfl,rfl⟩,(hl1.push _)⟩ ?hS0 ?hR
    case hS0 =>
     have hget:((s.heap.push (z5 w)).push { cls:=.type "list_iterator",data:=.fields #[.ref l,.int 0 0] }).get? s.heap.objs.size=some (z5 w):=Q9 _ hS;exact B6 hget
    case hR =>
     intro s' hm hS';obtain ⟨h',g',d',tk',os'⟩:=s';have eg:g'=s.gens:=hm.gens;have ed:d'=s.drawn:=hm.drawn;have eo:os'=s.os:=hm.os;subst eg;subst ed;subst eo;show wpAny _ _ _ _ _ _;refine Q8 ?_;show wpAny _ _ (ret Value.none) _ _ _;refine Q8 ⟨rfl,h',tk',rfl,hS',fun b o e=>?_⟩;have hb0:=Zp e;have hb1:b≠s.heap.objs.size:=Zu hb0;have hb2:b≠(s.heap.push (z5 w)).objs.size:=by
      rw [Yo];exact Zu (YH hb0)
     exact hm.heap b o (by simp only [Zi,Q7,Yi,VM,not_or];exact ⟨hb1,hb2⟩) (Q9 _ (Q9 _ e))
   ·cases r₂ with
    | error e=>exact hr₂
    | ok fl₂ =>
     cases fl₂ with
     | ret r =>
      obtain ⟨rfl,h',tk,rfl,hS',hk'⟩:=hr₂
      repeat (any_goals (first|assumption|wp_step))
      exact h _ _ hS' hk'
     | _=>exact hr₂.elim
  | _=>exact hr.elim
set_option maxHeartbeats 6400000 in
theorem Iv {l:Addr}{items:Array Value}{xs:List Str}{Q:Value->Shared->Prop}(hh:A.handled=none)(hl:s.heap.IsTuple l items)(hlen:xs.length=items.size)(hi:∀ (i:Nat) (v:Value),items[i]?=some v->∃ k t,xs[i]?=some k/\v=.str k t)(hb:items.size+1<scanBound)
  (h:∀ (h':Heap) (tk:Nat),TxSet prog w h' s.heap.objs.size (uniq xs)->(∀ b o,s.heap.get? b=some o->h'.get? b=some o)->Q (.ref s.heap.objs.size) { s with heap:=h',toks:=tk }):wpAny (model prog w) A (call (.type "set") [.ref l]) Q E s:=by
 obtain ⟨c,tl,hmro⟩:=F.called_set.mro;have hmade:=F.called_set.made;have hsub:=F.called_set.sub;have h1:=F.called_set.notType;have h2:=F.called_set.canCreate;have hct:=F.typeCall_set_1 (.ref l);refine V2 (V7 ?_);show wpAny _ _ (callAny (.type "set") _) _ _ _;refine Q8 ⟨Code.quiet_builtin _ (by decide +kernel),YM F.entry_type_call ?_⟩;rw [Around.under_plain (weight_type_call_type "set" [.ref l] []) rfl]
 repeat (any_goals (first|assumption|wp_step))
 refine Y0 (set_new (.ref l) (E:=E) (Q₁:=fun obj s₁=>obj=.ref s.heap.objs.size/\s₁={ s with heap:=s.heap.push (z5 w) }) ⟨rfl,rfl⟩) fun r s₁ hr=>?_;cases r with
 | error e=>exact hr
 | ok fl =>
  cases fl with
  | ret obj =>
   obtain ⟨rfl,rfl⟩:=hr;have hS:(s.heap.push (z5 w)).get? s.heap.objs.size=some (z5 w):=Zm _ rfl;have hT:Shared.TypeIs { s with heap:=s.heap.push (z5 w) } (.ref s.heap.objs.size) "set":=⟨_,hS,rfl⟩;have hli:=F.called_set.init.lookup;have hbi:=F.called_set.init.bind (.ref s.heap.objs.size)
   repeat (any_goals (first|assumption|wp_step))
   refine Y0 (codeAny_call_builtin (R:=wants (fun r s₂=>r=.none/\∃ h' tk,s₂={ s with heap:=h',toks:=tk }/\TxSet prog w h' s.heap.objs.size (uniq xs) /\
     (∀ b o,s.heap.get? b=some o->h'.get? b=some o)) E) F.called_set.init.plain F.entry_set_init (check_set_init_1 hT ?_)) fun r₂ s₂ hr₂=>?_
   ·have hl1:(s.heap.push (z5 w)).IsTuple l items:=hl.push _;obtain ⟨ol,hol,hcl,nl,hdl⟩:=id hl1;have hlS:l<s.heap.objs.size:=by obtain ⟨_,e,_⟩:=hl;exact Zp e
    obtain ⟨ocls,odict,odata,oslots⟩:=ol;simp only at hcl hdl;subst hcl;subst hdl;have hsls:=sub_tuple_set;have hslf:=sub_tuple_frozenset;have hne:(Value.type "tuple"==Value.type "dict")=false:=by decide
    unfold z5 at hS hol;unfold Builtin.«set.__init__» noKeywords Builtin.Frozenset.updateFrom;generalize hPI:pyIter=PI;unfold z5
    wp_walk
    subst hPI;refine VI hl1 ?_;refine Q6 (wpAny_runValue ?_);have hh3:A.in1.in1.in1.handled=none:=by simp [hh]
    have hneI:l≠(s.heap.push (z5 w)).objs.size:=by
     rw [Yo];exact Zu (YH hlS)
    have hSf:s.heap.objs.size∉[(s.heap.push (z5 w)).objs.size,l]:=by
     rw [Yo];simp only [Zi,Q7,Yi,VM,not_or];exact ⟨Zu (Jf _),JK hlS⟩
    refine tx_loop ((Walks.tuple hh3 _ l hneI items).toS) s.heap.objs.size hSf xs hlen hi hb (items.size-0) 0 _ (by omega) (ZJ _)
     ⟨⟨_,Zm _ rfl,rfl,rfl⟩,(hl1.push _)⟩ ?hS0 ?hR
    case hS0 =>
     have hget:((s.heap.push (z5 w)).push { cls:=.type "tuple_iterator",data:=.fields #[.ref l,.int 0 0] }).get? s.heap.objs.size=some (z5 w):=Q9 _ hS;exact B6 hget
    case hR =>
     intro s' hm hS';obtain ⟨h',g',d',tk',os'⟩:=s';have eg:g'=s.gens:=hm.gens;have ed:d'=s.drawn:=hm.drawn;have eo:os'=s.os:=hm.os;subst eg;subst ed;subst eo;show wpAny _ _ _ _ _ _;refine Q8 ?_;show wpAny _ _ (ret Value.none) _ _ _;refine Q8 ⟨rfl,h',tk',rfl,hS',fun b o e=>?_⟩;have hb0:=Zp e;have hb1:b≠s.heap.objs.size:=Zu hb0;have hb2:b≠(s.heap.push (z5 w)).objs.size:=by
      rw [Yo];exact Zu (YH hb0)
     exact hm.heap b o (by simp only [Zi,Q7,Yi,VM,not_or];exact ⟨hb1,hb2⟩) (Q9 _ (Q9 _ e))
   ·cases r₂ with
    | error e=>exact hr₂
    | ok fl₂ =>
     cases fl₂ with
     | ret r =>
      obtain ⟨rfl,h',tk,rfl,hS',hk'⟩:=hr₂
      repeat (any_goals (first|assumption|wp_step))
      exact h _ _ hS' hk'
     | _=>exact hr₂.elim
  | _=>exact hr.elim
end
end AxS
namespace L2
open PySem PySem.Spec PyProof.Rows AxS
def UN (P:Program)(w:World)(a:Addr)(ks:List Str):HO:=.ext fun h=>TxSet P w h a ks
theorem txho_ok {P:Program}{w:World}{H:Hp}{h:Heap}{a:Addr}{ks:List Str}(x:TxSet P w h a ks):ObjOk P w H h a (UN P w a ks):=by
 obtain ⟨o,es,ep,t,ho,r⟩:=id x;exact ⟨x,⟨o,ho⟩,fun u1 u2 z k=>TxSet.at z fun o e=>k o e⟩
theorem uX {P:Program}{w:World}{H:Hp}{h:Heap}{a:Addr}{ks:List Str}(x:ObjOk P w H h a (UN P w a ks)):TxSet P w h a ks:=x.1
section
variable {X:Cx}{K:ZZF}
def rLenSet (P:Program)(w:World):List V->Hp->VK->Prop:=fun xs H Q=>∃ (a:Addr) (ks:List Str),xs=[.ref a]/\H a=some (UN P w a ks)/\Q (.int ks.length) H
theorem call_lenS:CallR X (.builtin "len") (rLenSet X.prog X.w):=by
 intro pins s σ H xs us Q I r h;obtain ⟨a,ks,rfl,ha,q⟩:=h;obtain ⟨u,rfl,ru⟩:=vals1 r;cases ru;obtain ⟨o,es,ep,t,ho,hex,hd,X'⟩:=uX (I.hok a _ ha);have hlen:=vN X';obtain ⟨_,_,hb,hf,_⟩:=X';have hb:es.size<4096:=hb;refine call_len_set ho hex hd hf (by omega) ?_;rw [hlen];exact ⟨.int _,H,I.tok _,⟨_,rfl⟩,q⟩
theorem Inv.drew {pins:List (Addr×Obj)}{σ:St}{H:Hp}{s:Shared}{d:Drawn}(I:Inv X pins σ H s):Inv X pins σ H { s with drawn:=d } :=
 ⟨I.ok,I.os,I.bare,I.base,I.loc,I.cell,I.free,I.freeC,I.pin,I.hok,I.len⟩
theorem strs_of:∀ {vs:List Value} {zs:List Str},xS vs zs->StrsAre vs zs
 | [],[],_=>.nil
 | [],_::_,h=>by cases h.1
 | _::_,[],h=>by cases h.1
 | v::vs,z::zs,h=>by
  obtain ⟨k,t,e,rfl⟩:=h.2 0 v rfl;have e:z=k:=Option.some.inj e;subst e;exact .cons _ _ (strs_of ⟨by have:=h.1;simpa using this,fun i v e=>by
   obtain ⟨k,t,e1,e2⟩:=h.2 (i+1) v (by simpa using e);exact ⟨k,t,by simpa using e1,e2⟩⟩)
def rSortedS (P:Program)(w:World):List V->Hp->VK->Prop:=fun xs H Q=>∃ (a:Addr) (ks:List Str),xs=[.ref a]/\H a=some (UN P w a ks)/\ks.length<64/\∀ l ss,H l=none->ss.Perm ks->sortedS ss=true->Q (.ref l) (upd H l (.lst (ss.map V.str)))
theorem Be (hc:X.calm=true):CallR X (.builtin "sorted") (rSortedS X.prog X.w):=by
 intro pins s σ H xs us Q I r h;obtain ⟨a,ks,rfl,ha,h64,q⟩:=h;obtain ⟨u,rfl,ru⟩:=vals1 r;cases ru;have hT:=uX (I.hok a _ ha);refine Calls.call_function_entry kind_sorted plain_sorted entry_sorted (args_sorted1 _) ?_;unfold Builtin.«sorted»;refine Q6 (m:=checkCount "sorted" 1 1 _) (Q8 ?_);refine Q6 (tx_collect (A:=X.A.in1) (I.ok.hd hc) hT (by omega) fun h' d tk acc zs hkp hz tx=>?_);have hstr:=strs_of tx;have hal:acc.length<64:=by rw [tx.1,hz.length_eq];exact h64
 have hline:64<=sizeLine:=by rw [Ym];decide
 refine Q6 (VW ?_ (by omega));have hoL:(h'.push (seqObj "list" acc.toArray 0)).get? h'.objs.size=some (seqObj "list" acc.toArray 0):=Zm _ rfl;refine Q6 (Yr (Z6 slot_list_sort ⟨_,hoL,rfl⟩ V9 (list_sort_treeK strKind_oneLt hoL hstr.keysOf (fun v₁ v₂ rest e=>keyKind_strs (by rw [←e];exact hstr)) (by omega) fun st' a1 a2=>⟨_,rfl,?_⟩) (args_list_sort _)));obtain ⟨ss',b1,b2,b3⟩:=sorted_out_str hstr a1 a2;refine Q8 ⟨_,rfl,?_⟩;obtain ⟨e,he⟩:=sortedHeap_at (out:=(arrOf st').map (·.2)) hoL;have nl:=UX b1;have I1:Inv X pins σ H { s with heap:=h',drawn:=d,toks:=tk }:=(I.kept (t':=tk) hkp).drew (d:=d);have kp2:∀ b ob,h'.get? b=some ob->(sortedHeap (h'.push (seqObj "list" acc.toArray 0)) h'.objs.size acc ((arrOf st').map (·.2))).get? b=some ob:=fun b ob q1=>by
  have hb:b<h'.objs.size:=Zp q1;rw [sortedHeap_old (Zu hb) (by rw [Yo];exact YH hb)];exact Q9 _ q1
 have fr:H h'.objs.size=none:=I1.hok.fresh (Ze _);have hz2:(ss'.map V.str).length<=sizeLine:=by
  have:=b2.length_eq;have:=hz.length_eq;rw [Q5];omega
 exact ⟨.ref h'.objs.size,_,I1.laid (o:=.lst (ss'.map V.str)) (t':=tk) kp2 (Ze _) ⟨hz2,_,e,nl,he⟩,rfl,q _ ss' fr (b2.trans hz) b3⟩
def rSet (K:ZZF)(P:Program)(w:World):List V->Hp->VK->Prop:=fun xs H Q=>∃ (a:Addr) (ls:List Str),xs=[.ref a]/\(SqL K H a (ls.map V.str)\/SqT K H a (ls.map V.str))/\ls.length<=1000/\∀ p,H p=none->Q (.ref p) (upd H p (UN P w p (uniq ls)))
theorem X9 {ls:List Str}{us:List Value}(r:Vals (ls.map V.str) us):xS us ls:=by
 refine ⟨by rw [←r.length,Q5],fun i v e=>?_⟩;have hi:i<ls.length:=by have:=(Zr.mp e).1;rw [←r.length,Q5] at this;exact this
 obtain ⟨u,hu,ru⟩:=r.get (show (ls.map V.str)[i]?=some (V.str ls[i]) by rw [Zl,Zj hi];rfl);rw [hu] at e;cases e;obtain ⟨t,rfl⟩:=ru;exact ⟨_,t,Zj hi,rfl⟩
theorem uZ (hc:X.calm=true)(hK:X.K=K:=by rfl):CallR X (.type "set") (rSet K X.prog X.w):=by
 subst hK;intro pins s σ H xs us Q I r h;obtain ⟨a,ls,rfl,ha,hl,q⟩:=h;obtain ⟨u,rfl,ru⟩:=vals1 r;cases ru;have fin:∀ (h':Heap) (tk:Nat),TxSet X.prog X.w h' s.heap.objs.size (uniq ls)->(∀ b o,s.heap.get? b=some o->h'.get? b=some o)->EP X pins σ Q (.ref s.heap.objs.size) { s with heap:=h',toks:=tk }:=fun h' tk x k =>
  ⟨.ref s.heap.objs.size,_,I.laid (o:=UN X.prog X.w s.heap.objs.size (uniq ls)) (t':=tk) k (Ze _) (txho_ok x),rfl,q _ (I.hok.fresh (Ze _))⟩
 have sb:scanBound=4096:=rfl
 rcases ha with ha|ha
 ·obtain ⟨its,rv,pl,_⟩:=I.list ha;have tx:=X9 rv;exact call_set_list (I.ok.hd hc) pl.isList (by rw [Zv];exact tx.1.symm) (fun i v e=>tx.2 i v (by simpa using e)) (by rw [Zv,tx.1,sb];omega) fin
 ·obtain ⟨its,rv,pl,_⟩:=I.tuple ha;have tx:=X9 rv;exact Iv (I.ok.hd hc) pl (by rw [Zv];exact tx.1.symm) (fun i v e=>tx.2 i v (by simpa using e)) (by rw [Zv,tx.1,sb];omega) fin
end
end L2
namespace An
open PySem PySem.Spec PyProof.Rows L2
def leS (a b:Str):Prop:=¬b.cps.toList<a.cps.toList
theorem leS_trans {a b c:Str}(h1:leS a b)(h2:leS b c):leS a c:=by
 have h1:a.cps.toList<=b.cps.toList:=JF.mp h1;have h2:b.cps.toList<=c.cps.toList:=JF.mp h2;exact JF.mpr (List.le_trans h1 h2)
theorem XZ {a b:Str}(h1:leS a b)(h2:leS b a):a=b:=by
 have e:a.cps.toList=b.cps.toList:=V1 (JF.mp h1) (JF.mp h2);exact cs_inj e
theorem Gw:∀ (l:List Str) (p:Str),risingS p l=true->(p::l).Pairwise leS
 | [],p,_=>J9 _ _
 | x::r,p,h=>by
  have h:(!ltCps x.cps.toList p.cps.toList&&risingS x r)=true:=h;rw [Zg,ltCps_eq] at h;have hx:leS p x:=fun z=>by rw [Zd z] at h;exact absurd h.1 (by decide)
  have ih:=Gw r x h.2;refine J6.mpr ⟨fun y hy=>?_,ih⟩
  rcases Zi.mp hy with rfl|hy
  ·exact hx
  ·exact leS_trans hx ((J6.mp ih).1 y hy)
theorem UU:∀ {l:List Str},sortedS l=true->l.Pairwise leS
 | [],_=>List.Pairwise.nil
 | x::r,h=>Gw r x h
def UR:List Str->Bool
 | []=>true
 | x::r=>r.all (fun y=>decide (x.cps.toList<y.cps.toList))&&UR r
theorem rise_iff:∀ {l:List Str},UR l=true↔l.Pairwise leS/\l.Nodup
 | []=>⟨fun _=>⟨List.Pairwise.nil,YE⟩,fun _=>rfl⟩
 | x::r=>by
  show (r.all _&&UR r)=true↔_;rw [Zg,rise_iff,ZI,J6,Z8];constructor
  ·rintro ⟨h1,h2,h3⟩;refine ⟨⟨fun y hy=>?_,h2⟩,fun z=>?_,h3⟩
   ·have:=ZB (h1 y hy);exact fun z=>Vi _ (List.lt_trans this z)
   ·exact Vi _ (ZB (h1 x z))
  ·rintro ⟨⟨h1,h2⟩,h3,h4⟩;refine ⟨fun y hy=>Zd ?_,h2,h4⟩
   by_cases z:x.cps.toList<y.cps.toList
   ·exact z
   ·have:=XZ (h1 y hy) z;exact absurd (this▸hy) h3
theorem step_nodup {ks:List Str}{k:Str}(h:ks.Nodup):(AxS.step ks k).Nodup:=by
 unfold AxS.step
 split
 ·exact h
 ·rename_i z;rw [Yk];exact ⟨h,by simp,fun a ha b hb=>by rw [Q7.mp hb];exact fun e=>z (e▸ha)⟩
theorem IH:∀ (xs ks:List Str),ks.Nodup->(xs.foldl AxS.step ks).Nodup
 | [],ks,h=>h
 | x::xs,ks,h=>IH xs _ (step_nodup h)
theorem fold_all:∀ (xs ks:List Str),(ks++xs).Nodup->xs.foldl AxS.step ks=ks++xs
 | [],ks,_=>by rw [ZF];rfl
 | x::xs,ks,h=>by
  have e:AxS.step ks x=ks++[x]:=by
   unfold AxS.step;rw [Zy];intro z;exact (Yk.mp h).2.2 x z x Zc rfl
  rw [Ju,e,fold_all xs (ks++[x]) (by rw [Z2];exact h),Z2];rfl
theorem kY (xs:List Str):(AxS.uniq xs).Nodup:=IH xs [] YE
theorem uniq_self {xs:List Str}(h:xs.Nodup):AxS.uniq xs=xs:=fold_all xs [] h
theorem BN:∀ (xs ks:List Str) {x:Str},x∈xs.foldl AxS.step ks->x∈ks\/x∈xs
 | [],ks,x,h=>.inl h
 | y::xs,ks,x,h=>by
  rcases BN xs _ h with z|z
  ·unfold AxS.step at z
   split at z
   ·exact .inl z
   ·rcases Zs.mp z with z|z
    ·exact .inl z
    ·exact .inr (Zi.mpr (.inl (Q7.mp z)))
  ·exact .inr (Zb _ z)
theorem uniq_mem {xs:List Str}{x:Str}(h:x∈AxS.uniq xs):x∈xs:=(BN xs [] h).elim (fun z=>nomatch z) id
theorem sorted_set {xs ss:List Str}(hp:ss.Perm (AxS.uniq xs))(hs:sortedS ss=true):decide (xs=ss)=UR xs:=by
 rw [ZU,Zq,rise_iff];constructor
 ·intro e;subst e;exact ⟨UU hs,hp.nodup_iff.mpr (kY _)⟩
 ·rintro ⟨h1,h2⟩;rw [uniq_self h2] at hp;exact (Jb (fun a b _ _=>XZ) (UU hs) h1 hp).symm
end An
namespace PySem.SeqAt
open MeetsSeq PyProof.Rows
end PySem.SeqAt
namespace L2
open PySem PySem.Spec PyProof.Rows
end L2
namespace PySem.W
open PySem PySem.Spec PySem.Calls PyProof.Rows Builtin Builtin.ObjectAttr Builtin.Getset_descriptor
end PySem.W
namespace L2
open PySem PySem.Spec PyProof.Rows
end L2
namespace L2
open PySem PySem.Spec PyProof.Rows
end L2
namespace L2
open PySem PySem.Spec PyProof.Rows
section
variable {X:Cx}
theorem kA:∀ {l:List (Str×Tok)} {ys:List Str},l.map (·.1)=ys->Vals (ys.map V.str) (strValues l)
 | [],_,h=>by rw [←h];exact .nil
 | p::l,_,h=>by
  rw [←h];exact .cons ⟨p.2,rfl⟩ (kA rfl)
def rSplit:V->List V->Hp->VK->Prop:=fun x vs H Q=>∃ (a:Str) (c:Nat),x=.str a/\vs=[.str ⟨#[c]⟩]/\a.length<=100000/\∀ l,H l=none->Q (.ref l) (upd H l (.lst ((Txt.split a ⟨#[c]⟩).map V.str)))
theorem uR:MtR X "str.split" rSplit:=by
 intro pins s σ H x xs v us Q I rx rs h;obtain ⟨a,c,rfl,rfl,ha,q⟩:=h;obtain ⟨t,rfl⟩:=rx;obtain ⟨u,rfl,t',rfl⟩:=vals1 rs;have hz:a.length<=sizeLine:=An.le_line (by omega);have hy:((⟨#[c]⟩:Str).length==0)=false:=rfl;have hn:(Builtin.Str.partsBetween a (Builtin.Str.occurrences a ⟨#[c]⟩ 0 a.length (a.length+1)) (⟨#[c]⟩:Str).length).length<=200000:=by
  unfold Builtin.Str.partsBetween;have:=StrLaws.occ_length_le a ⟨#[c]⟩ 0 a.length (a.length+1);simp only [Q5,List.length_zip,Zn,Zh,Ja];omega
 cases h1:(decide (a.length<(⟨#[c]⟩:Str).length)||decide (Builtin.Str.strKind a<Builtin.Str.strKind ⟨#[c]⟩))
 ·cases hf:(Builtin.Str.occurrences a ⟨#[c]⟩ 0 a.length (a.length+1)).isEmpty
  ·have e:Txt.split a ⟨#[c]⟩=Builtin.Str.partsBetween a (Builtin.Str.occurrences a ⟨#[c]⟩ 0 a.length (a.length+1)) (⟨#[c]⟩:Str).length:=(Zy (VF h1)).trans (Zy (VF hf));refine Vs F.slot_str_split (J4 s a t) F.entry_str_split (F.args_str_split_2 _ _) (meets_str_split_sep a ⟨#[c]⟩ t t' h1 hy hf hz (An.le_line (by omega))) ?_;rw [strsFrom_eq];refine ⟨.ref _,_,I.lnew (kA (numbered_texts _ _)) (by rw [Q5];exact An.le_line (by omega)),rfl,?_⟩;rw [←e];exact q _ I.fresh
  ·have e:Txt.split a ⟨#[c]⟩=[a]:=(Zy (VF h1)).trans (Zz hf);rw [e] at q;refine Vs F.slot_str_split (J4 s a t) F.entry_str_split (F.args_str_split_2 _ _) (meets_str_split_not_found a ⟨#[c]⟩ t t' h1 hy hf) ?_;exact ⟨.ref _,_,I.lnew (t':=s.toks) (kA (l:=[(a,t)]) rfl) (by show 1<=sizeLine;decide),rfl,q _ I.fresh⟩
 ·have e:Txt.split a ⟨#[c]⟩=[a]:=Zz h1;rw [e] at q;refine Vs F.slot_str_split (J4 s a t) F.entry_str_split (F.args_str_split_2 _ _) (meets_str_split_cannot_occur a ⟨#[c]⟩ t t' h1) ?_;exact ⟨.ref _,_,I.lnew (t':=s.toks) (kA (l:=[(a,t)]) rfl) (by show 1<=sizeLine;decide),rfl,q _ I.fresh⟩
def rAny (K:ZZF):List V->Hp->VK->Prop:=fun xs H Q=>∃ (a:Addr) (bs:List Bool),xs=[.ref a]/\SqL K H a (bs.map V.bl)/\Q (.bl (bs.any id)) H
theorem call_any {K:ZZF}(hc:X.calm=true)(hK:X.K=K:=by rfl):CallR X (.builtin "any") (rAny K):=by
 subst hK;intro pins s σ H xs us Q I r h;obtain ⟨a,bs,rfl,ha,q⟩:=h;obtain ⟨u,rfl,ru⟩:=vals1 r;cases ru;obtain ⟨its,rv,pl,hz⟩:=I.list ha;have ei:=Bk rv;have hl:=pl.isList;have hlt:a<s.heap.objs.size:=by obtain ⟨_,e,_⟩:=hl;exact Zp e
 refine call_any_walk (Ve hl ?_);refine ⟨s.heap.objs.size,[s.heap.objs.size,a],[s.heap.objs.size],its.toArray.size,_,_,fun i=>(bs[i]?).getD false,rfl,Walks.list (A:=X.A.in1) (I.ok.hd hc) _ a (Zu hlt) its.toArray,
  ⟨⟨_,Zm _ rfl,rfl,rfl⟩,hl.push _⟩,fun i v s' Q' E' hP hQ=>?_,fun h' tk hk=>?_⟩
 ·have hP:its[i]?=some v:=by simpa using hP
  rw [ei,Zl] at hP;cases e:bs[i]? with
  | none=>rw [e] at hP;cases hP
  | some b =>
   rw [e] at hP;have hP:Value.bool b=v:=Option.some.inj hP;subst hP;simp only [e,Vt] at hQ;exact YV hQ
 ·have hlen:its.length=bs.length:=by rw [ei,Q5]
  have e:((List.range its.toArray.size).any fun i=>(bs[i]?).getD false)=bs.any id:=by
   rw [Zv,hlen];exact PyProof.Rows.LSm.range_any bs
  rw [e];exact ⟨.bl _,H,I.kept (PyProof.Rows.LSm.kept_iter hk),rfl,q⟩
theorem mt_joinK {K:ZZF}(hK:X.K=K:=by rfl):MtR X "str.join" (rJoin K):=by
 subst hK;exact XT
theorem pe_bmK {K:ZZF}{o e:Expr}{es:List Expr}{to:TE}{t:TA}{name:Str}{apos cpos:Pos}{T id:String}{r:V->List V->Hp->VK->Prop}(pa:PlainAttrs T)(slot:Slot T name id)(hty:typeOf (.builtin id)=pure (.type "method_descriptor"))(hm:MtR X id r)(ho:PE X o to)(ha:PA X (e::es) t)
  (hbase:attributeBase o name X.env (eval o X.env)=eval o X.env:=by rfl)
  (hfew:((backTo cpos (starEach (e::es) X.env)).all (fun x=>!x.1)&&(backToKw cpos (keywordEach [] X.env)).all (fun x=>x.1.isSome)
   && decide ((e::es).length+([]:List Keyword).length+(if ([]:List Keyword).isEmpty then 0 else 1)<30))=true:=by rfl)
  (hline:(apos.endLine==cpos.line)=true:=by rfl) (hs:starEach (e::es) X.env=(false,eval e X.env)::starEach es X.env:=by rfl) (hplain:(backTo cpos (starEach es X.env)).any (·.1)=false:=by rfl) (hK:X.K=K:=by rfl) :
  PE X (.Call (.Attribute o name apos) (e::es) [] cpos) (tBM K T r to t):=by
 subst hK;exact k9 pa slot hty hm ho ha hbase hfew hline hs hplain
end
end L2
namespace An
open PySem L2
def stroke:Str:=⟨#[47]⟩
theorem U4:("/":Str)=stroke:=by decide +kernel
def jn:List (List Nat)->List Nat
 | []=>[]
 | [x]=>x
 | x::y::r=>x++47::jn (y::r)
def spl:List Nat->List (List Nat)
 | []=>[[]]
 | c::r=>if c=47 then []::spl r else match spl r with
  | []=>[[c]]
  | p::ps=>(c::p)::ps
theorem G6:∀ l,spl l≠[]
 | []=>by simp [spl]
 | c::r=>by
  unfold spl
  split
  ·simp
  ·split<;>simp
theorem XR {x:List Nat}{r:List (List Nat)}(h:r≠[]):jn (x::r)=x++47::jn r:=by
 cases r with
 | nil=>exact absurd rfl h
 | cons y r=>rfl
theorem jn_spl:∀ l,jn (spl l)=l
 | []=>rfl
 | c::r=>by
  have ih:=jn_spl r;unfold spl
  split
  ·rename_i e;rw [XR (G6 r),ih,e];rfl
  ·cases q:spl r with
   | nil=>exact absurd q (G6 r)
   | cons p ps =>
    rw [q] at ih;cases ps with
    | nil=>show c::p=_;rw [show p=r from ih]
    | cons y ps =>
     show (c::p)++47::jn (y::ps)=_;rw [←ih];rfl
theorem spl_app:∀ (a b:List Nat),spl (a++47::b)=spl a++spl b
 | [],b=>by
  show (if 47=47 then []::spl b else _)=[[]]++spl b;rw [Zz rfl];rfl
 | c::a,b=>by
  have ih:=spl_app a b;show spl (c::(a++47::b))=_;rw [spl,spl,ih]
  split
  ·rfl
  ·cases q:spl a with
   | nil=>exact absurd q (G6 a)
   | cons p ps=>rfl
theorem Ib:∀ {p:List Nat},47∉p->spl p=[p]
 | [],_=>rfl
 | c::p,h=>by
  have ih:=Ib (p:=p) fun z=>h (Zb _ z);unfold spl;rw [Zy (fun z=>h (by rw [z];exact Zc)),ih]
theorem spl_jn:∀ {ps:List (List Nat)},ps≠[]->(∀ p∈ps,47∉p)->spl (jn ps)=ps
 | [],h,_=>absurd rfl h
 | [p],_,h=>Ib (h p Zc)
 | p::q::r,_,h=>by
  rw [XR (by simp),spl_app,Ib (h p Zc),spl_jn (ps:=q::r) (by simp) fun x hx=>h x (Zb _ hx)];rfl
theorem jn_app:∀ {a b:List (List Nat)},a≠[]->b≠[]->jn (a++b)=jn a++47::jn b
 | [],_,h,_=>absurd rfl h
 | [x],b,_,hb=>XR hb
 | x::y::r,b,_,hb=>by
  show x++47::jn ((y::r)++b)=(x++47::jn (y::r))++47::jn b;rw [jn_app (a:=y::r) (by simp) hb];simp
theorem jn_len:∀ {ps:List (List Nat)} {p:List Nat},p∈ps->p.length<=(jn ps).length
 | [],_,h=>by cases h
 | [x],p,h=>by rw [Q7.mp h];exact Ze _
 | x::y::r,p,h=>by
  show _<=(x++47::jn (y::r)).length;rw [Zh,Zn]
  rcases Zi.mp h with rfl|h
  ·omega
  ·have:=jn_len h;omega
theorem jn_cnt:∀ {ps:List (List Nat)},ps.length<=(jn ps).length+1
 | []=>by simp
 | [x]=>by simp
 | x::y::r=>by
  show _<=(x++47::jn (y::r)).length+1;have:=jn_cnt (ps:=y::r);have e1:(x++47::jn (y::r)).length=x.length+((jn (y::r)).length+1):=by rw [Zh,Zn]
  have e2:(x::y::r).length=(y::r).length+1:=Zn;omega
def ofL (l:List Nat):Str:=⟨l.toArray⟩
theorem cs_ofL (l:List Nat):cs (ofL l)=l:=by simp [ofL,cs]
theorem ofL_cs (x:Str):ofL (cs x)=x:=cs_inj (cs_ofL _)
theorem qE:∀ ys:List Str,cs (Txt.join "/" ys)=jn (ys.map cs):=by
 intro ys;have e:Txt.join "/" ys=Str.join "/" ys:=StrLaws.glued_eq_join "/" ys;rw [e];clear e
 induction ys with
 | nil=>rfl
 | cons x r ih =>
  cases r with
  | nil=>rfl
  | cons y r =>
   show cs (x++"/"++Str.join "/" (y::r))=cs x++47::jn ((y::r).map cs);have:cs ("/":Str)=[47]:=by decide +kernel
   rw [cs_append,cs_append,ih,this];simp
theorem split_is (x:Str):Txt.split x "/"=(spl (cs x)).map ofL:=by
 have h1:cs (Str.join "/" (Txt.split x "/"))=cs x:=by rw [StrLaws.join_split]
 have e:Txt.join "/" (Txt.split x "/")=Str.join "/" (Txt.split x "/"):=StrLaws.glued_eq_join "/" _;rw [←e,qE] at h1;have hne:Txt.split x "/"≠[]:=by
  unfold Txt.split
  split
  ·simp
  ·split
   ·simp
   ·unfold Builtin.Str.partsBetween;intro z;have:=congrArg List.length z;simp at this
 have h2:=spl_jn (ps:=(Txt.split x "/").map cs) (by simpa using hne) (fun p hp=>by
  obtain ⟨y,hy,rfl⟩:=Za.mp hp;rw [U4] at hy;exact StrLaws.split_free x 47 y hy)
 rw [h1] at h2;rw [h2,Zt];have:(ofL∘cs)=(id:Str->Str):=funext ofL_cs;rw [this,VB]
def labs (x:Str):List Str:=Txt.split x "/"
theorem XO (x:Str):(labs x).map cs=spl (cs x):=by
 unfold labs;rw [split_is,Zt];have:(cs∘ofL)=(id:List Nat->List Nat):=funext cs_ofL;rw [this,VB]
theorem labs_len {x y:Str}(h:y∈labs x):y.length<=x.length:=by
 rw [length_cs,length_cs,←jn_spl (cs x),←XO];exact jn_len (List.mem_map_of_mem h)
theorem uV (x:Str):(labs x).length<=x.length+1:=by
 have:=jn_cnt (ps:=spl (cs x));rw [jn_spl,←XO,Q5] at this;rw [length_cs];exact this
theorem labs_pos (x:Str):0<(labs x).length:=by
 have:=List.length_pos_iff.mpr (G6 (cs x));rw [←XO,Q5] at this;exact this
theorem qK {ys:List Str}(h:ys≠[])(hf:∀ y∈ys,47∉cs y):labs (Txt.join "/" ys)=ys:=by
 have:(labs (Txt.join "/" ys)).map cs=ys.map cs:=by
  rw [XO,qE,spl_jn (by simpa using h)];intro p hp;obtain ⟨y,hy,rfl⟩:=Za.mp hp;exact hf y hy
 have inj:∀ {a b:List Str},a.map cs=b.map cs->a=b:=by
  intro a
  induction a with
  | nil =>
   intro b e;cases b with
   | nil=>rfl
   | cons _ _=>cases e
  | cons x a ih =>
   intro b e;cases b with
   | nil=>cases e
   | cons y b =>
    rw [Zw,Zw] at e;injection e with e1 e2;rw [cs_inj e1,ih e2]
 exact inj this
def IY (x:Str):Bool:=decide ((labs x).length<=4)&&(labs x).all zS
def Xt:PyData->Bool
 | .str x=>IY x
 | _=>false
theorem yT {y:Str}(h:zS y=true):47∉cs y:=by
 unfold zS at h;rw [Zg] at h;intro z;exact absurd (ZI.mp h.2 47 z) (by decide)
theorem GT {ys:List Str}(h0:ys≠[])(h4:ys.length<=4)(h:∀ y∈ys,zS y=true):IY (Txt.join "/" ys)=true:=by
 unfold IY;rw [qK h0 fun y hy=>yT (h y hy),Zd h4,ZI.mpr h];rfl
def fols (x:Str):List Str:=(List.range ((labs x).length-1)).map fun i=>Txt.join "/" ((labs x).take (i+1))
def Ul (p q:Str):Bool:=Txt.startswith q (p++"/")
theorem over_cs {p q:Str}:Ul p q=true↔∃ t,cs q=cs p++47::t:=by
 unfold Ul Txt.startswith;rw [StrLaws.subAt_eq,List.drop_zero,Nat.zero_add,Zg,ZL,Jl];have e:(p++"/":Str).cps.toList=cs p++[47]:=by
  have:cs ("/":Str)=[47]:=by decide +kernel
  show cs (p++"/")=_;rw [cs_append,this]
 have el:(p++"/":Str).length=(cs p).length+1:=by
  rw [length_cs];show (cs (p++"/")).length=_;rw [show cs (p++"/")=cs p++[47] from e,Zh];rfl
 rw [e,el];constructor
 ·rintro ⟨h1,h2⟩;refine ⟨(cs q).drop ((cs p).length+1),?_⟩;have:=ZX ((cs p).length+1) (cs q);rw [h2,Z2] at this;exact this.symm
 ·rintro ⟨t,h⟩;rw [length_cs,h];refine ⟨by simp,?_⟩;show (cs q).take _=_;rw [h];rw [show cs p++47::t=(cs p++[47])++t by simp];rw [List.take_left' (by simp)]
theorem over_app (p t:Str):Ul p (p++"/"++t)=true:=by
 rw [over_cs];refine ⟨cs t,?_⟩;have:cs ("/":Str)=[47]:=by decide +kernel
 rw [cs_append,cs_append,this];simp
end An
namespace An
open PySem L2
abbrev Fi:=List Str×List Str
def pth (ls:List Str):Str:=Txt.join "/" ls
structure OkS (S:List En):Prop where
 good:GoodS S
 th:∀ e∈S,Gx e
 num:∀ e∈S,e.n<S.length
def At (S:List En)(x:Str)(t:Th):Prop:=∃ e∈S,e.nm=x/\e.d=t.dat
section
variable {S T:List En}{x y:Str}{t u:Th}
theorem nm_one (g:(S.map En.nm).Nodup){e f:En}(he:e∈S)(hf:f∈S)(h:e.nm=f.nm):e=f:=by
 obtain ⟨i,hi,rfl⟩:=ZO.mp he;obtain ⟨j,hj,rfl⟩:=ZO.mp hf;have:=(Je (h₀:=by simpa using hi) (h₁:=by simpa using hj) g).mp (by rw [ZQ,ZQ];exact h);subst this;rfl
theorem At.thing (g:OkS S)(h:At S x t)(k:At S x u):t=u:=by
 obtain ⟨e,he,rfl,hd⟩:=h;obtain ⟨f,hf,fn,fd⟩:=k;have:=nm_one g.good.nn hf he fn;subst this;exact vI (hd.symm.trans fd)
theorem At.name (g:OkS S)(h:At S x t)(k:At S y t):x=y:=by
 obtain ⟨e,he,rfl,hd⟩:=h;obtain ⟨f,hf,rfl,fd⟩:=k;rw [nd_inj g.good.nd he hf (hd.trans fd.symm)]
theorem At.more (h:At S x t):At (S++T) x t:=let ⟨e,he,a⟩:=h;⟨e,Z5 _ he,a⟩
theorem At.mem (h:At S x t):x∈S.map En.nm:=let ⟨e,he,a,_⟩:=h;Za.mpr ⟨e,he,a⟩
end
noncomputable def thS (S:List En)(x:Str):Option Th:=open Classical in if h:∃ t,At S x t then some (choose h) else none
theorem IC {S:List En}{x:Str}{t:Th}(g:OkS S)(h:At S x t):thS S x=some t:=by
 unfold thS;have ex:∃ t,At S x t:=⟨t,h⟩;rw [dif_pos ex];exact congrArg some (At.thing g (Vo ex) h)
noncomputable def reads:Nat->List En->Str->List Fi
 | 0,_,_=>[]
 | d+1,S,x=>match thS S x with
  | some (.leaf ls)=>[([],ls)]
  | some (.tree rows)=>rows.flatMap fun r=>(reads d S r.2).map fun f=>(r.1::f.1,f.2)
  | _=>[]
theorem yC {S:List En}{x:Str}{ls:List Str}{d:Nat}(g:OkS S)(h:At S x (.leaf ls)):reads (d+1) S x=[([],ls)]:=by
 show (match thS S x with|some (.leaf ls)=>[([],ls)]|some (.tree rows)=>_|_=>_)=_;rw [IC g h]
theorem z9 {S:List En}{x:Str}{rows:List (Str×Str)}{d:Nat}(g:OkS S)(h:At S x (.tree rows)):reads (d+1) S x=rows.flatMap fun r=>(reads d S r.2).map fun f=>(r.1::f.1,f.2):=by
 show (match thS S x with|some (.leaf ls)=>[([],ls)]|some (.tree rows)=>_|_=>_)=_;rw [IC g h]
def ltS (a b:Str):Prop:=cs a<cs b
def Tree:Nat->List En->Str->Prop
 | 0,_,_=>False
 | d+1,S,x=>(∃ ls,At S x (.leaf ls))\/∃ rows,At S x (.tree rows)/\(rows.map (·.1)).Pairwise ltS/\∀ r∈rows,zS r.1=true/\Tree d S r.2/\reads d S r.2≠[]
theorem Tree.more {S T:List En}(g:OkS (S++T))(g0:OkS S):∀ {d:Nat} {x:Str},Tree d S x->Tree d (S++T) x/\reads d (S++T) x=reads d S x
 | 0,_,h=>absurd h (fun z=>z)
 | d+1,x,h=>by
  rcases h with ⟨ls,h⟩|⟨rows,h,so,hr⟩
  ·exact ⟨.inl ⟨ls,h.more⟩,by rw [yC g h.more,yC g0 h]⟩
  ·have ih:∀ r∈rows,Tree d (S++T) r.2/\reads d (S++T) r.2=reads d S r.2:=fun r m=>Tree.more g g0 (hr r m).2.1;refine ⟨.inr ⟨rows,h.more,so,fun r m=>⟨(hr r m).1,(ih r m).1,by rw [(ih r m).2];exact (hr r m).2.2⟩⟩,?_⟩;rw [z9 g h.more,z9 g0 h];rw [JP,JP]
   congr 1
   exact ZW fun r m=>by rw [(ih r m).2]
theorem Tree.mem {S:List En}{d:Nat}{x:Str}(h:Tree d S x):x∈S.map En.nm:=by
 cases d with
 | zero=>exact absurd h (fun z=>z)
 | succ d =>
  rcases h with ⟨ls,h⟩|⟨rows,h,_⟩
  ·exact h.mem
  ·exact h.mem
theorem lt_app:∀ {a b:List Nat} (s t:List Nat),(∀ c∈b,47<c)->(s=[]\/∃ r,s=47::r)->a<b->a++s<b++t
 | [],[],_,_,_,_,h=>absurd h (Vi _)
 | [],c::b,s,t,hb,hs,_=>by
  rcases hs with rfl|⟨r,rfl⟩
  ·exact List.nil_lt_cons _ _
  ·exact Yt.mpr (.inl (hb c (Zc ..)))
 | _::_,[],_,_,_,_,h=>absurd h (List.not_lt_nil _)
 | x::a,y::b,s,t,hb,hs,h=>by
  rcases Yt.mp h with h1|⟨e1,h1⟩
  ·exact Yt.mpr (.inl h1)
  ·exact Yt.mpr (.inr ⟨e1,lt_app s t (fun c hc=>hb c (Zb _ hc)) hs h1⟩)
theorem qC (l:Str){p:List Str}(h:p≠[]):cs (pth (l::p))=cs l++47::cs (pth p):=by
 unfold pth;rw [qE,qE,Zw,XR (by simpa using h)]
theorem XL (l:Str):cs (pth [l])=cs l:=by
 unfold pth;rw [qE];rfl
theorem IN (l:Str)(p:List Str):∃ s,cs (pth (l::p))=cs l++s/\(s=[]\/∃ r,s=47::r):=by
 by_cases h:p=[]
 ·subst h;exact ⟨[],by rw [XL,ZF],.inl rfl⟩
 ·exact ⟨_,qC l h,.inr ⟨_,rfl⟩⟩
theorem label_gt {l:Str}(h:zS l=true):∀ c∈cs l,47<c:=fun c hc=>by
 unfold zS at h;rw [Zg] at h;have:=ZI.mp h.2 c hc;unfold Uy at this;rw [Zg,ZL] at this;omega
theorem pth_lt {l m:Str}(p q:List Str)(hm:zS m=true)(h:ltS l m):ltS (pth (l::p)) (pth (m::q)):=by
 obtain ⟨s,e,hs⟩:=IN l p;obtain ⟨t,e2,_⟩:=IN m q;unfold ltS;rw [e,e2];exact lt_app s t (label_gt hm) hs h
theorem app_lt:∀ (a:List Nat) {s t:List Nat},s<t->a++s<a++t
 | [],_,_,h=>h
 | x::a,_,_,h=>Yt.mpr (.inr ⟨rfl,app_lt a h⟩)
theorem pth_tl {l:Str}{p q:List Str}(hp:p≠[])(hq:q≠[])(h:ltS (pth p) (pth q)):ltS (pth (l::p)) (pth (l::q)):=by
 unfold ltS;rw [qC l hp,qC l hq];exact app_lt _ (Yt.mpr (.inr ⟨rfl,h⟩))
theorem Tree.rise {S:List En}(g:OkS S):∀ {d:Nat} {x:Str},Tree d S x->(reads d S x).Pairwise (fun f h=>ltS (pth f.1) (pth h.1))/\((∃ ls,reads d S x=[([],ls)])\/∀ f∈reads d S x,f.1≠[])
 | 0,_,h=>absurd h (fun z=>z)
 | d+1,x,h=>by
  rcases h with ⟨ls,h⟩|⟨rows,h,so,hr⟩
  ·rw [yC g h];exact ⟨J9 _ _,.inl ⟨ls,rfl⟩⟩
  ·rw [z9 g h];refine ⟨?_,.inr fun f hf=>?_⟩
   ·rw [JP,List.pairwise_flatten];refine ⟨fun l hl=>?_,?_⟩
    ·obtain ⟨r,hr',rfl⟩:=Za.mp hl;obtain ⟨i1,i2⟩:=Tree.rise g (hr r hr').2.1;rw [Yl]
     rcases i2 with ⟨ls,i2⟩|i2
     ·rw [i2];exact J9 _ _
     ·exact i1.imp_of_mem fun {a b} ha hb z=>pth_tl (i2 a ha) (i2 b hb) z
    ·rw [Yl];rw [Yl] at so;refine so.imp_of_mem fun {a b} ha hb z f hf k hk=>?_;obtain ⟨f',_,rfl⟩:=Za.mp hf;obtain ⟨k',_,rfl⟩:=Za.mp hk;exact pth_lt _ _ (hr b hb).1 z
   ·obtain ⟨r,_,hf⟩:=Yf.mp hf;obtain ⟨f',_,rfl⟩:=Za.mp hf;exact ZR _ _
theorem lt_asym {a b:Str}(h:ltS a b)(k:ltS b a):False:=List.lt_asymm h k
theorem Xu {a b:Str}(h:ltS a b):a≠b:=fun z=>by subst z;exact Vi _ h
theorem rise_same {l m:List Fi}(h1:l.Pairwise (fun f h=>ltS (pth f.1) (pth h.1)))(h2:m.Pairwise (fun f h=>ltS (pth f.1) (pth h.1)))(e:∀ f,f∈l↔f∈m):l=m:=by
 have nd:∀ {l:List Fi},l.Pairwise (fun f h=>ltS (pth f.1) (pth h.1))->l.Nodup:=fun {l} h=>ZH.mpr (h.imp fun {a b} z q=>by subst q;exact Vi _ z);exact Jb (fun a b _ _ z q=>absurd q (fun q=>lt_asym z q)) h1 h2 ((YI (nd h1) (nd h2)).mpr e)
theorem Gy {S:List En}{d:Nat}(ih:∀ {x y:Str},Tree d S x->Tree d S y->reads d S x=reads d S y->x=y):∀ {a b:List (Str×Str)},(a.map (·.1)).Pairwise ltS->(b.map (·.1)).Pairwise ltS ->
  (∀ r∈a,Tree d S r.2/\reads d S r.2≠[])->(∀ r∈b,Tree d S r.2/\reads d S r.2≠[]) ->
  (a.flatMap fun r=>(reads d S r.2).map fun f=>((r.1::f.1,f.2):Fi))=(b.flatMap fun r=>(reads d S r.2).map fun f=>((r.1::f.1,f.2):Fi))->a=b
 | [],[],_,_,_,_,_=>rfl
 | [],s::b,_,_,_,hb,e=>by
  rw [JQ,Yg] at e;have:=(Vj.mp e.symm).1;exact absurd (List.map_eq_nil_iff.mp this) (hb s (Zc ..)).2
 | r::a,[],_,_,ha,_,e=>by
  rw [JQ,Yg] at e;have:=(Vj.mp e).1;exact absurd (List.map_eq_nil_iff.mp this) (ha r (Zc ..)).2
 | r::a,s::b,oa,ob,ha,hb,e=>by
  obtain ⟨hr1,hr2⟩:=ha r (Zc ..);obtain ⟨hs1,hs2⟩:=hb s (Zc ..);rw [Zw,J6] at oa ob;rw [Yg,Yg] at e;have el:r.1=s.1:=by
   cases q1:reads d S r.2 with
   | nil=>exact absurd q1 hr2
   | cons f fs =>
    cases q2:reads d S s.2 with
    | nil=>exact absurd q2 hs2
    | cons k ks =>
     rw [q1,q2] at e;have:=congrArg List.head? e;have:(some ((r.1::f.1,f.2):Fi))=some (s.1::k.1,k.2):=this;have:=congrArg Prod.fst (Option.some.inj this);exact (List.cons.inj this).1
  have key:∀ {c:List (Str×Str)} {z:Str×Str} {l:Str},z.1=l->(∀ y∈c.map (·.1),ltS l y)->(((reads d S z.2).map fun f=>((z.1::f.1,f.2):Fi))++c.flatMap fun r=>(reads d S r.2).map fun f=>((r.1::f.1,f.2):Fi)).filter (fun f=>decide (f.1.head?=some l))=(reads d S z.2).map fun f=>((z.1::f.1,f.2):Fi):=by
   intro c z l ez hc;rw [VO,List.filter_eq_self.mpr,List.filter_eq_nil_iff.mpr,ZF]
   ·intro f hf q;obtain ⟨w,hw,hf⟩:=Yf.mp hf;obtain ⟨f',_,rfl⟩:=Za.mp hf;have:some w.1=some l:=ZB q;have:=Option.some.inj this;exact Xu (hc w.1 (Za.mpr ⟨w,hw,rfl⟩)) this.symm
   ·intro f hf;obtain ⟨f',_,rfl⟩:=Za.mp hf;exact Zd (congrArg some ez)
  have e1:=congrArg (List.filter (fun f:Fi=>decide (f.1.head?=some r.1))) e;rw [key rfl oa.1,key el.symm (by rw [el];exact ob.1),el] at e1;have er:reads d S r.2=reads d S s.2:=by
   refine (List.map_inj_right fun f k z=>?_).mp e1;have h1:=congrArg Prod.fst z;have h2:=congrArg Prod.snd z;exact Prod.ext (List.cons.inj h1).2 h2
  have en:=ih hr1 hs1 er;rw [el,er] at e;have et:=Va e;have:=Gy ih oa.2 ob.2 (fun w hw=>ha w (Zb _ hw)) (fun w hw=>hb w (Zb _ hw)) et;have hrs:r=s:=Prod.ext el en;rw [this,hrs]
theorem Tree.one {S:List En}(g:OkS S):∀ {d:Nat} {x y:Str},Tree d S x->Tree d S y->reads d S x=reads d S y->x=y
 | 0,_,_,h,_,_=>absurd h (fun z=>z)
 | d+1,x,y,h,k,e=>by
  have no:∀ {rows:List (Str×Str)} {ls:List Str},(rows.flatMap fun r=>(reads d S r.2).map fun f=>((r.1::f.1,f.2):Fi))≠[([],ls)]:=fun {rows ls} z=>by
   have:(([],ls):Fi)∈(rows.flatMap fun r=>(reads d S r.2).map fun f=>((r.1::f.1,f.2):Fi)):=by rw [z];exact Q7.mpr rfl
   obtain ⟨r,_,hf⟩:=Yf.mp this;obtain ⟨f',_,q⟩:=Za.mp hf;exact absurd (congrArg Prod.fst q) (ZR _ _)
  rcases h with ⟨ls,h⟩|⟨rows,h,so,hr⟩<;>rcases k with ⟨ls',k⟩|⟨rows',k,so',hr'⟩
  ·rw [yC g h,yC g k] at e;have:=congrArg Prod.snd (List.cons.inj e).1;have this:ls=ls':=this;subst this;exact h.name g k
  ·rw [yC g h,z9 g k] at e;exact absurd e.symm no
  ·rw [z9 g h,yC g k] at e;exact absurd e no
  ·rw [z9 g h,z9 g k] at e;have:=Gy (fun hx hy z=>Tree.one g hx hy z) so so' (fun r m=>(hr r m).2) (fun r m=>(hr' r m).2) e;subst this;exact h.name g k
end An
namespace An
open PySem L2
noncomputable def putS (S:List En)(t:Th):List En×Str:=open Classical in if h:∃ x,At S x t then (S,choose h) else (S++[Gm S t],(Gm S t).nm)
section
variable {S T:List En}{x:Str}{t:Th}
theorem putS_in (g:OkS S)(h:At S x t):putS S t=(S,x):=by
 unfold putS;have ex:∃ x,At S x t:=⟨x,h⟩;rw [dif_pos ex];exact congrArg (Prod.mk S) (At.name g (Vo ex) h)
theorem putS_new (h:∀ e∈S,e.d≠t.dat):putS S t=(S++[Gm S t],(Gm S t).nm):=by
 unfold putS;rw [dif_neg];rintro ⟨x,e,he,_,hd⟩;exact h e he hd
theorem ent_ok {e:En}{t:Th}(h:e.h=Uo t)(hn:e.n<1000000):Ok 1000 e.nm:=by
 refine ⟨?_,?_⟩
 ·have h1:=kO t;have h2:(Ur e.n).length<=10:=Jc (by omega) (by decide) (by
   have:e.n<10 ^ 9:=by omega
   omega)
  unfold En.nm;rw [len_append,len_append,h];have:dot.length=1:=rfl;omega
 ·unfold En.nm;rw [h];exact ok_app (ok_app (ok_app (letter_ok t) (num_ok _)) (by decide +kernel)) (num_ok _)
theorem OkS.nm (g:OkS S){e:En}(he:e∈S):Ok 1000 e.nm:=by
 obtain ⟨t,_,_,h⟩:=g.th e he;exact ent_ok h (g.good.ent e he).num
theorem OkS.snoc (g:OkS S)(gt:t.Good)(l:S.length<2000)(h:∀ e∈S,e.d≠t.dat):OkS (S++[Gm S t]):=by
 have nl:=next_le g.num (Uo t);refine ⟨g.good.snoc ⟨Bv gt,jR t,?_,kO t⟩ (fun z=>?_) (new_nm g.good (jR t)) l,fun e he=>?_,fun e he=>?_⟩
 ·show (nextOf S (Uo t)).getD 0<1000000;omega
 ·obtain ⟨e,he,hd⟩:=Za.mp z;exact h e he hd
 ·rcases Zs.mp he with z|z
  ·exact g.th e z
  ·rw [Q7.mp z];exact ⟨t,rfl,gt,rfl⟩
 ·rw [Zh,YO]
  rcases Zs.mp he with z|z
  ·have:=g.num e z;omega
  ·rw [Q7.mp z];show (nextOf S (Uo t)).getD 0<_;omega
theorem BB (g:OkS S)(gt:t.Good)(l:S.length<2000):OkS (putS S t).1/\At (putS S t).1 (putS S t).2 t/\(putS S t).1.length<=S.length+1/\∃ T,(putS S t).1=S++T/\∀ e∈T,e.nm=(putS S t).2:=by
 by_cases z:∃ x,At S x t
 ·obtain ⟨x,h⟩:=z;rw [putS_in g h];exact ⟨g,h,JB _,[],(ZF _).symm,fun e he=>(nomatch he)⟩
 ·have h:∀ e∈S,e.d≠t.dat:=fun e he hd=>z ⟨e.nm,e,he,rfl,hd⟩;rw [putS_new h];exact ⟨g.snoc gt l h,⟨_,ZK _ (Q7.mpr rfl),rfl,rfl⟩,by rw [Zh];exact Ze _,[Gm S t],rfl,fun e he=>by rw [Q7.mp he]⟩
end
noncomputable def met:Nat->List En->Str->List Str
 | 0,_,_=>[]
 | d+1,S,x=>x::match thS S x with
  | some (.tree rows)=>rows.flatMap fun r=>met d S r.2
  | _=>[]
theorem kB {S:List En}{x:Str}{ls:List Str}{d:Nat}(g:OkS S)(h:At S x (.leaf ls)):met (d+1) S x=[x]:=by
 show x::(match thS S x with|some (.tree rows)=>_|_=>_)=_;rw [IC g h]
theorem jP {S:List En}{x:Str}{rows:List (Str×Str)}{d:Nat}(g:OkS S)(h:At S x (.tree rows)):met (d+1) S x=x::rows.flatMap fun r=>met d S r.2:=by
 show x::(match thS S x with|some (.tree rows)=>_|_=>_)=_;rw [IC g h]
theorem met_self {S:List En}{x:Str}{d:Nat}:x∈met (d+1) S x:=Zc ..
theorem Tree.met_more {S T:List En}(g:OkS (S++T))(g0:OkS S):∀ {d:Nat} {x:Str},Tree d S x->met d (S++T) x=met d S x
 | 0,_,h=>absurd h (fun z=>z)
 | d+1,x,h=>by
  rcases h with ⟨ls,h⟩|⟨rows,h,so,hr⟩
  ·rw [kB g h.more,kB g0 h]
  ·rw [jP g h.more,jP g0 h,JP,JP]
   congr 2
   exact ZW fun r m=>Tree.met_more g g0 (hr r m).2.1
def leR (a b:Str×Str):Bool:=!decide (cs b.1<cs a.1)
def Uu (rows:List (Str×Str)):List (Str×Str):=rows.mergeSort leR
theorem leR_iff {a b:Str×Str}:leR a b=true↔cs a.1<=cs b.1:=by
 unfold leR;rw [Vf,Vb];exact JF
theorem BR (rows:List (Str×Str)):(Uu rows).Pairwise (fun a b=>leR a b=true) :=
 List.pairwise_mergeSort (le:=leR) (fun a b c h1 h2=>leR_iff.mpr (List.le_trans (leR_iff.mp h1) (leR_iff.mp h2))) (fun a b=>by
  rw [V6,leR_iff (a:=a) (b:=b),leR_iff (a:=b) (b:=a)];exact List.le_total _ _) rows
theorem xH (rows:List (Str×Str)):(Uu rows).Perm rows:=List.mergeSort_perm rows leR
theorem sortR_lt {rows:List (Str×Str)}(nd:(rows.map (·.1)).Nodup):((Uu rows).map (·.1)).Pairwise ltS:=by
 have nd2:((Uu rows).map (·.1)).Nodup:=((xH rows).map _).nodup_iff.mpr nd;have h1:((Uu rows).map (·.1)).Pairwise (fun a b=>cs a<=cs b):=Yl.mpr ((BR rows).imp fun {a b} h=>leR_iff.mp h);exact (h1.and (ZH.mp nd2)).imp fun {a b} h=>by
  by_cases z:cs a<cs b
  ·exact z
  ·exact absurd (cs_inj (V1 h.1 (JF.mp z))) h.2
theorem sortR_eq {rows ss:List (Str×Str)}(nd:(rows.map (·.1)).Nodup)(p:ss.Perm rows)(so:ss.Pairwise (fun a b=>cs a.1<=cs b.1)):ss=Uu rows:=by
 refine Jb (le:=fun a b=>cs a.1<=cs b.1) (fun a b ha hb h1 h2=>?_) so ((BR rows).imp fun {a b} h=>leR_iff.mp h) (p.trans (xH rows).symm);have e:=cs_inj (V1 h1 h2);have ha:=p.mem_iff.mp ha;have hb:=(xH rows).mem_iff.mp hb;obtain ⟨i,hi,rfl⟩:=ZO.mp ha;obtain ⟨j,hj,rfl⟩:=ZO.mp hb;have:=(Je (h₀:=by simpa using hi) (h₁:=by simpa using hj) nd).mp (by rw [ZQ,ZQ];exact e);subst this;rfl
theorem qG {α β:Type}{f:α->β}{l:List α}(h:(l.map f).Nodup):l.Nodup:=by
 rw [ZH] at h ⊢;rw [Yl] at h;exact h.imp fun {a b} n e=>n (by rw [e])
def Uv (ls:List Str):Prop:=ls.length<=60/\∀ l∈ls,UM l=true
structure GoodF (d:Nat)(fs:List Fi):Prop where
 lab:∀ f∈fs,f.1≠[]/\f.1.length<=d/\(∀ l∈f.1,zS l=true)/\Uv f.2
 nd:(fs.map (·.1)).Nodup
 pre:∀ f∈fs,∀ k∈fs,∀ t,k.1=f.1++t->t=[]
def lvs (fs:List Fi):List (Str×List Str):=fs.filterMap fun f=>match f.1 with
 | [a]=>some (a,f.2)
 | _=>none
def UQ (l:Str)(f:Fi):Option Fi:=match f.1 with
 | a::b::r=>if a=l then some (b::r,f.2) else none
 | _=>none
def sub (fs:List Fi)(l:Str):List Fi:=fs.filterMap (UQ l)
def xV (L:List Str)(p:Str):List Str:=if p∈L then L else L++[p]
def fol (fs:List Fi):List Str:=fs.foldl (fun L f=>match f.1 with
 | a::_::_=>xV L a
 | _=>L) []
theorem mem_addNew {L:List Str}{p q:Str}:q∈xV L p↔q∈L\/q=p:=by
 unfold xV
 split
 ·rename_i h;exact ⟨.inl,fun z=>z.elim id (fun z=>z▸h)⟩
 ·rw [Zs,Q7]
theorem addNew_nd {L:List Str}{p:Str}(h:L.Nodup):(xV L p).Nodup:=by
 unfold xV
 split
 ·exact h
 ·rename_i z;exact jB h z
theorem jN (fs:List Fi)(f:Fi):fol (fs++[f])=match f.1 with
 | a::_::_=>xV (fol fs) a
 | _=>fol fs:=by
 unfold fol;rw [Yw];rfl
theorem xA (fs:List Fi):(fol fs).Nodup/\∀ l,l∈fol fs↔∃ f∈fs,∃ b r,f.1=l::b::r:=by
 induction fs using snoc_ind with
 | h0=>exact ⟨YE,fun l=>⟨fun h=>(nomatch h),fun ⟨f,hf,_⟩=>(nomatch hf)⟩⟩
 | h1 fs f ih =>
  rw [jN];have old:∀ l,(∃ k∈fs++[f],∃ b r,k.1=l::b::r)↔(∃ k∈fs,∃ b r,k.1=l::b::r)\/∃ b r,f.1=l::b::r:=fun l=>by
   constructor
   ·rintro ⟨k,hk,z⟩
    rcases Zs.mp hk with q|q
    ·exact .inl ⟨k,q,z⟩
    ·rw [Q7.mp q] at z;exact .inr z
   ·rintro (⟨k,hk,z⟩|z)
    ·exact ⟨k,Z5 _ hk,z⟩
    ·exact ⟨f,ZK _ (Q7.mpr rfl),z⟩
  match e:f.1 with
  | []=>exact ⟨ih.1,fun l=>by rw [old,ih.2,e];exact ⟨.inl,fun z=>z.elim id fun ⟨b,r,z⟩=>(nomatch z)⟩⟩
  | [a]=>exact ⟨ih.1,fun l=>by rw [old,ih.2,e];exact ⟨.inl,fun z=>z.elim id fun ⟨b,r,z⟩=>(nomatch z)⟩⟩
  | a::b::r =>
   refine ⟨addNew_nd ih.1,fun l=>?_⟩;show l∈xV (fol fs) a↔_;rw [mem_addNew,ih.2,old,e];exact or_congr Iff.rfl ⟨fun z=>⟨b,r,by rw [z]⟩,fun ⟨_,_,z⟩=>(List.cons.inj z).1.symm⟩
theorem mem_sub {fs:List Fi}{l:Str}{k:Fi}:k∈sub fs l↔k.1≠[]/\(l::k.1,k.2)∈fs:=by
 unfold sub;rw [Jk];constructor
 ·rintro ⟨f,hf,e⟩;unfold UQ at e
  split at e
  ·rename_i a b r q
   split at e
   ·rename_i z;subst z;cases e;refine ⟨ZR _ _,?_⟩;have:f=(a::b::r,f.2):=Prod.ext q rfl;rw [←this];exact hf
   ·cases e
  ·cases e
 ·rintro ⟨h0,hf⟩;refine ⟨_,hf,?_⟩;cases q:k.1 with
  | nil=>exact absurd q h0
  | cons b r =>
   unfold UQ;show (if l=l then some ((b::r,k.2):Fi) else none)=some k;rw [Zz rfl]
   congr 1
   exact Prod.ext q.symm rfl
theorem mem_lvs {fs:List Fi}{a:Str}{ls:List Str}:(a,ls)∈lvs fs↔([a],ls)∈fs:=by
 unfold lvs;rw [Jk];constructor
 ·rintro ⟨f,hf,e⟩
  split at e
  ·rename_i b q;cases e;have:f=([a],f.2):=Prod.ext q rfl;rw [←this];exact hf
  ·cases e
 ·intro h;exact ⟨_,h,rfl⟩
theorem GoodF.sub {d:Nat}{fs:List Fi}(h:GoodF (d+1) fs)(l:Str):GoodF d (sub fs l):=by
 refine ⟨fun k hk=>?_,?_,fun k hk m hm t e=>?_⟩
 ·obtain ⟨h0,hf⟩:=mem_sub.mp hk;obtain ⟨_,h2,h3,h4⟩:=h.lab _ hf;have h2:k.1.length+1<=d+1:=h2;exact ⟨h0,by omega,fun z hz=>h3 z (Zb _ hz),h4⟩
 ·have:((An.sub fs l).map fun k=>l::k.1).Sublist (fs.map (·.1)):=by
   unfold An.sub;have:∀ fs:List Fi,((fs.filterMap (UQ l)).map fun k=>l::k.1).Sublist (fs.map (·.1)):=by
    intro fs
    induction fs with
    | nil=>exact List.Sublist.slnil
    | cons f fs ih =>
     rw [YJ,Zw];cases q:UQ l f with
     | none=>exact ih.cons _
     | some k =>
      show ((l::k.1)::_).Sublist _;have e:l::k.1=f.1:=by
       unfold UQ at q
       split at q
       ·rename_i a b r e
        split at q
        ·rename_i z;subst z;cases q;exact e.symm
        ·cases q
       ·cases q
      rw [e];exact ih.cons₂ _
   exact this fs
  have:=this.nodup h.nd;have e:((An.sub fs l).map fun k=>l::k.1)=((An.sub fs l).map (·.1)).map (List.cons l):=by rw [Zt];rfl
  rw [e] at this;exact qG this
 ·obtain ⟨_,hf⟩:=mem_sub.mp hk;obtain ⟨_,hg⟩:=mem_sub.mp hm;exact h.pre _ hf _ hg t (by show l::m.1=l::k.1++t;rw [e];rfl)
noncomputable def lvStep (a:List En×List (Str×Str))(f:Str×List Str):List En×List (Str×Str):=((putS a.1 (.leaf f.2)).1,a.2++[(f.1,(putS a.1 (.leaf f.2)).2)])
noncomputable def Uj:Nat->List En->List Fi->List En×Str
 | 0,S,_=>(S,"")
 | d+1,S,fs =>
  let b:=(fol fs).foldl (fun a l=>((Uj d a.1 (sub fs l)).1,a.2++[(l,(Uj d a.1 (sub fs l)).2)])) ((lvs fs).foldl lvStep (S,[]))
  putS b.1 (.tree (Uu b.2))
structure Fo (d:Nat)(S0 S:List En)(rows:List (Str×Str))(ps:List (Str×List Fi)):Prop where
 ok:OkS S
 new:∃ T,S=S0++T/\∀ e∈T,∃ r∈rows,e.nm∈met d S r.2
 lab:rows.map (·.1)=ps.map (·.1)
 rd:∀ (i:Nat) (r:Str×Str) (p:Str×List Fi),rows[i]?=some r->ps[i]?=some p->Tree d S r.2/\∀ f,f∈reads d S r.2↔f∈p.2
theorem Fo.nil {d:Nat}{S:List En}(g:OkS S):Fo d S S [] []:=⟨g,⟨[],(ZF _).symm,fun e he=>(nomatch he)⟩,rfl,fun i r p h=>(nomatch h)⟩
theorem Fo.len {d:Nat}{S0 S:List En}{rows:List (Str×Str)}{ps:List (Str×List Fi)}(h:Fo d S0 S rows ps):rows.length=ps.length:=by
 have:=congrArg List.length h.lab;rw [Q5,Q5] at this;exact this
theorem Fo.step {d:Nat}{S0 S T:List En}{rows:List (Str×Str)}{ps:List (Str×List Fi)}(h:Fo d S0 S rows ps){l n:Str}{g:List Fi}(ok:OkS (S++T))(new:∀ e∈T,e.nm∈met d (S++T) n)(tr:Tree d (S++T) n)(rd:∀ f,f∈reads d (S++T) n↔f∈g):Fo d S0 (S++T) (rows++[(l,n)]) (ps++[(l,g)]):=by
 obtain ⟨T0,e0,h0⟩:=h.new;refine ⟨ok,⟨T0++T,by rw [←Z2,←e0],fun e he=>?_⟩,by rw [Zf,Zf,h.lab];rfl,fun i r p hi hp=>?_⟩
 ·rcases Zs.mp he with z|z
  ·obtain ⟨r,hr,m⟩:=h0 e z;obtain ⟨i,hi⟩:=YR.mp hr;have hl:=(Zr.mp hi).1;obtain ⟨t,_⟩:=h.rd i r _ hi (Zj (by rw [←h.len];exact hl));exact ⟨r,Z5 _ hr,by rw [t.met_more ok h.ok];exact m⟩
  ·exact ⟨(l,n),ZK _ (Q7.mpr rfl),new e z⟩
 ·by_cases z:i<rows.length
  ·rw [ZN z] at hi;rw [ZN (by rw [←h.len];exact z)] at hp;obtain ⟨t,k⟩:=h.rd i r p hi hp;obtain ⟨t2,k2⟩:=t.more ok h.ok;exact ⟨t2,by rw [k2];exact k⟩
  ·rw [ZP (by omega)] at hi;rw [ZP (by rw [←h.len];omega)] at hp;have z0:i-rows.length=0:=by
    rcases Y5 (i-rows.length) with q|q
    ·exact q
    ·rw [JR.mpr (by show 1<=_;omega)] at hi;cases hi
   rw [z0] at hi;rw [←h.len,z0] at hp;cases hi;cases hp;exact ⟨tr,rd⟩
theorem flat_len:∀ rs:List (Str×Str),(z6 rs).length=2*rs.length
 | []=>rfl
 | r::rs=>by
  show (z6 rs).length+1+1=2*(rs.length+1);rw [flat_len rs];omega
theorem mem_flat:∀ {rs:List (Str×Str)} {p:Str},p∈z6 rs->∃ r∈rs,p=r.1\/p=r.2
 | r::rs,p,h=>by
  rcases Zi.mp h with q|h
  ·exact ⟨r,Zc ..,.inl q⟩
  ·rcases Zi.mp h with q|h
   ·exact ⟨r,Zc ..,.inr q⟩
   ·obtain ⟨s,hs,q⟩:=mem_flat h;exact ⟨s,Zb _ hs,q⟩
structure PutOk (d:Nat)(S:List En)(fs:List Fi)(q:List En×Str):Prop where
 ok:OkS q.1
 new:∃ T,q.1=S++T/\∀ e∈T,e.nm∈met d q.1 q.2
 tree:Tree d q.1 q.2
 rd:∀ f,f∈reads d q.1 q.2↔f∈fs
 node:∃ rows,At q.1 q.2 (.tree rows)
theorem Xa {x:Str}(h:zS x=true):Ok 1000 x:=by
 unfold zS at h;rw [Zg,Zg,ZL,ZL] at h;refine ⟨by omega,?_⟩;rw [xC];intro c hc;have:=ZI.mp h.2 c hc;unfold Uy at this;simp only [Zg,ZL] at this;omega
theorem tree_ok {S:List En}(g:OkS S){rows:List (Str×Str)}(hl:rows.length<=60)(h:∀ r∈rows,zS r.1=true/\r.2∈S.map En.nm):(Th.tree rows).Good:=by
 refine ⟨by show (z6 rows).length<=1000;rw [flat_len];omega,fun p hp=>?_⟩;obtain ⟨r,hr,q⟩:=mem_flat hp;obtain ⟨h1,h2⟩:=h r hr
 rcases q with q|q
 ·rw [q];exact Xa h1
 ·obtain ⟨e,he,en⟩:=Za.mp h2;rw [q,←en];exact g.nm he
theorem Fo.put {d:Nat}{S0 S:List En}{rows:List (Str×Str)}{ps:List (Str×List Fi)}(h:Fo d S0 S rows ps)(hl:rows.length<=60)(nd:(ps.map (·.1)).Nodup)(lb:∀ p∈ps,zS p.1=true/\p.2≠[])(ls:S.length<2000):PutOk (d+1) S0 (ps.flatMap fun p=>p.2.map fun f=>(p.1::f.1,f.2)) (putS S (.tree (Uu rows)))/\(putS S (.tree (Uu rows))).1.length<=S.length+1:=by
 have at_:∀ r∈rows,∃ p∈ps,r.1=p.1/\Tree d S r.2/\∀ f,f∈reads d S r.2↔f∈p.2:=fun r hr=>by
  obtain ⟨i,hi⟩:=YR.mp hr;have hl:=(Zr.mp hi).1;have hp:=Zj (l:=ps) (i:=i) (by rw [←h.len];exact hl);have e:=congrArg (fun l=>l[i]?) h.lab;simp only [Zl,hi,hp,Yp] at e;exact ⟨_,Yz _,Option.some.inj e,h.rd i r _ hi hp⟩
 have ta:∀ p∈ps,∃ r∈rows,r.1=p.1/\Tree d S r.2/\∀ f,f∈reads d S r.2↔f∈p.2:=fun p hp'=>by
  obtain ⟨i,hp⟩:=YR.mp hp';have hl:=(Zr.mp hp).1;have hi:=Zj (l:=rows) (i:=i) (by rw [h.len];exact hl);have e:=congrArg (fun l=>l[i]?) h.lab;simp only [Zl,hi,hp,Yp] at e;exact ⟨_,Yz _,Option.some.inj e,h.rd i _ p hi hp⟩
 have ms:∀ {r},r∈Uu rows↔r∈rows:=(xH rows).mem_iff;have gt:(Th.tree (Uu rows)).Good:=tree_ok h.ok (by rw [(xH rows).length_eq];exact hl) fun r hr=>by
  obtain ⟨p,hp,e,t,_⟩:=at_ r (ms.mp hr);exact ⟨by rw [e];exact (lb p hp).1,t.mem⟩
 obtain ⟨ok,at1,l1,T,eT,hT⟩:=BB h.ok gt ls;refine ⟨?_,l1⟩;have ne:∀ r∈rows,reads d S r.2≠[]:=fun r hr=>by
  obtain ⟨p,hp,e,t,k⟩:=at_ r hr;intro z;refine (lb p hp).2 (Jj.mpr fun f hf=>?_);rw [←k,z] at hf;cases hf
 rw [eT] at ok at1;have mo:∀ r∈rows,Tree d (S++T) r.2/\reads d (S++T) r.2=reads d S r.2:=fun r hr=>by
  obtain ⟨p,hp,e,t,k⟩:=at_ r hr;exact t.more ok h.ok
 obtain ⟨T0,e0,h0⟩:=h.new;refine ⟨by rw [eT];exact ok,⟨T0++T,by rw [eT,e0,Z2],fun e he=>?_⟩,?_,fun f=>?_,⟨_,by rw [eT];exact at1⟩⟩
 ·rw [eT,jP ok at1]
  rcases Zs.mp he with z|z
  ·obtain ⟨r,hr,m⟩:=h0 e z;obtain ⟨p,hp,_,t,_⟩:=at_ r hr;exact Zb _ (Yf.mpr ⟨r,ms.mpr hr,by rw [t.met_more ok h.ok];exact m⟩)
  ·rw [hT e z];exact Zc ..
 ·rw [eT];refine .inr ⟨_,at1,sortR_lt (by rw [h.lab];exact nd),fun r hr=>?_⟩;have hr:=ms.mp hr;obtain ⟨p,hp,e,t,_⟩:=at_ r hr;exact ⟨by rw [e];exact (lb p hp).1,(mo r hr).1,by rw [(mo r hr).2];exact ne r hr⟩
 ·rw [eT,z9 ok at1,Yf,Yf];constructor
  ·rintro ⟨r,hr,hf⟩;have hr:=ms.mp hr;obtain ⟨p,hp,e,t,k⟩:=at_ r hr;obtain ⟨f',hf',rfl⟩:=Za.mp hf;rw [(mo r hr).2,k] at hf';exact ⟨p,hp,Za.mpr ⟨f',hf',by rw [e]⟩⟩
  ·rintro ⟨p,hp,hf⟩;obtain ⟨r,hr,e,t,k⟩:=ta p hp;obtain ⟨f',hf',rfl⟩:=Za.mp hf;exact ⟨r,ms.mpr hr,Za.mpr ⟨f',by rw [(mo r hr).2,k];exact hf',by rw [e]⟩⟩
end An
namespace An
open PySem L2
def wt (fs:List Fi):Nat:=(fs.map fun f=>f.1.length).sum
theorem Bq (a b:List Fi):wt (a++b)=wt a+wt b:=by
 unfold wt;rw [Zf,Ua]
theorem X7 {x:Str}(h:UM x=true):Ok 1000 x:=by
 unfold UM at h;rw [Zg,ZL] at h;refine ⟨by omega,?_⟩;rw [xC];intro c hc;have:=ZI.mp h.2 c hc;unfold Uw at this;simp only [Zg,ZL] at this;omega
theorem Bu {ls:List Str}(h:Uv ls):(Th.leaf ls).Good:=⟨by show ls.length<=1000;have:=h.1;omega,fun p hp=>X7 (h.2 p hp)⟩
theorem XV {d:Nat}{S0:List En}:∀ (vs:List (Str×List Str)) {S:List En} {rows:List (Str×Str)} {ps:List (Str×List Fi)},Fo (d+1) S0 S rows ps->(∀ v∈vs,Uv v.2)->S.length+vs.length<=2000 ->
  Fo (d+1) S0 (vs.foldl lvStep (S,rows)).1 (vs.foldl lvStep (S,rows)).2 (ps++vs.map fun v=>(v.1,[([],v.2)]))/\(vs.foldl lvStep (S,rows)).1.length<=S.length+vs.length
 | [],S,rows,ps,h,_,_=>⟨by rw [VG,ZF];exact h,Ze _⟩
 | v::vs,S,rows,ps,h,hv,hl=>by
  have hl:S.length+(vs.length+1)<=2000:=hl;obtain ⟨ok,at1,l1,T,eT,hT⟩:=BB h.ok (Bu (hv v (Zc ..))) (by omega);rw [Ju];show Fo (d+1) S0 (vs.foldl lvStep (lvStep (S,rows) v)).1 (vs.foldl lvStep (lvStep (S,rows) v)).2 _/\(vs.foldl lvStep (lvStep (S,rows) v)).1.length<=S.length+(vs.length+1);have e:lvStep (S,rows) v=((putS S (.leaf v.2)).1,rows++[(v.1,(putS S (.leaf v.2)).2)]):=rfl;rw [e,Zw,show ps++(v.1,[(([],v.2):Fi)])::vs.map (fun v=>(v.1,[(([],v.2):Fi)]))=(ps++[(v.1,[(([],v.2):Fi)])])++vs.map (fun v=>(v.1,[(([],v.2):Fi)])) by simp];have st:Fo (d+1) S0 (putS S (.leaf v.2)).1 (rows++[(v.1,(putS S (.leaf v.2)).2)]) (ps++[(v.1,[(([],v.2):Fi)])]):=by
   generalize (putS S (.leaf v.2)).2=n at at1 hT ⊢;rw [eT] at ok at1 ⊢;exact h.step ok (fun e he=>by rw [hT e he];exact met_self) (.inl ⟨_,at1⟩) (fun f=>by rw [yC ok at1])
  obtain ⟨f1,f2⟩:=XV vs st (fun w hw=>hv w (Zb _ hw)) (by omega);exact ⟨f1,by omega⟩
noncomputable def fStep (d:Nat)(fs:List Fi)(a:List En×List (Str×Str))(l:Str):List En×List (Str×Str):=((Uj d a.1 (sub fs l)).1,a.2++[(l,(Uj d a.1 (sub fs l)).2)])
theorem putF_is (d:Nat)(S:List En)(fs:List Fi):Uj (d+1) S fs=putS ((fol fs).foldl (fStep d fs) ((lvs fs).foldl lvStep (S,[]))).1 (.tree (Uu ((fol fs).foldl (fStep d fs) ((lvs fs).foldl lvStep (S,[]))).2)):=rfl
theorem f_fold {d e:Nat}{S0:List En}{fs:List Fi}:∀ (ls:List Str) (H:∀ l∈ls,∀ S,OkS S->S.length+1+wt (sub fs l)<=2000->PutOk e S (sub fs l) (Uj d S (sub fs l))/\(Uj d S (sub fs l)).1.length<=S.length+1+wt (sub fs l)) {S:List En} {rows:List (Str×Str)} {ps:List (Str×List Fi)},
  Fo e S0 S rows ps->S.length+(ls.map fun l=>1+wt (sub fs l)).sum<=2000 ->
  Fo e S0 (ls.foldl (fStep d fs) (S,rows)).1 (ls.foldl (fStep d fs) (S,rows)).2 (ps++ls.map fun l=>(l,sub fs l))/\(ls.foldl (fStep d fs) (S,rows)).1.length<=S.length+(ls.map fun l=>1+wt (sub fs l)).sum
 | [],_,S,rows,ps,h,_=>⟨by rw [VG,ZF];exact h,Ze _⟩
 | l::ls,H,S,rows,ps,h,hl=>by
  rw [Zw,YS] at hl;obtain ⟨pk,l1⟩:=H l (Zc ..) S h.ok (by omega);rw [Ju,Zw,Zw,YS];have e':fStep d fs (S,rows) l=((Uj d S (sub fs l)).1,rows++[(l,(Uj d S (sub fs l)).2)]):=rfl;rw [e',show ps++(l,sub fs l)::ls.map (fun l=>(l,sub fs l))=(ps++[(l,sub fs l)])++ls.map (fun l=>(l,sub fs l)) by simp];obtain ⟨ok,⟨T,eT,hT⟩,tr,rd,_⟩:=pk;have st:Fo e S0 (Uj d S (sub fs l)).1 (rows++[(l,(Uj d S (sub fs l)).2)]) (ps++[(l,sub fs l)]):=by
   generalize (Uj d S (sub fs l)).2=n at hT tr rd ⊢;rw [eT] at ok hT tr rd ⊢;exact h.step ok hT tr rd
  obtain ⟨f1,f2⟩:=f_fold ls (fun w hw=>H w (Zb _ hw)) st (by omega);exact ⟨f1,by omega⟩
theorem sum_bump {g g':Str->Nat}{a:Str}{c:Nat}(h:∀ l,l≠a->g' l=g l)(ha:g' a<=g a+c):∀ {L:List Str},L.Nodup->(L.map g').sum<=(L.map g).sum+c
 | [],_=>ZJ _
 | l::L,nd=>by
  rw [Z8] at nd;rw [Zw,Zw,YS,YS]
  by_cases z:l=a
  ·subst z;have:L.map g'=L.map g:=ZW fun m hm=>h m fun q=>nd.1 (q▸hm);rw [this];omega
  ·have:=sum_bump h ha nd.2;rw [h l z];omega
theorem sub_snoc (fs:List Fi)(f:Fi)(l:Str):sub (fs++[f]) l=sub fs l++(UQ l f).toList:=by
 unfold sub;rw [List.filterMap_append]
 congr 1
theorem subL_nil {f:Fi}{l:Str}(h:f.1=[]):UQ l f=none:=by unfold UQ;rw [h]
theorem subL_one {f:Fi}{l a:Str}(h:f.1=[a]):UQ l f=none:=by unfold UQ;rw [h]
theorem vB {f:Fi}{l a b:Str}{r:List Str}(h:f.1=a::b::r):UQ l f=if a=l then some (b::r,f.2) else none:=by unfold UQ;rw [h]
theorem uY (fs:List Fi)(f:Fi):lvs (fs++[f])=lvs fs++(match f.1 with|[a]=>[(a,f.2)]|_=>[]):=by
 unfold lvs;rw [List.filterMap_append]
 congr 1
 rw [YJ]
 match f.1 with
 | []=>rfl
 | [a]=>rfl
 | a::b::r=>rfl
theorem many (fs:List Fi):(lvs fs).length+((fol fs).map fun l=>1+wt (sub fs l)).sum<=wt fs:=by
 induction fs using snoc_ind with
 | h0=>exact Ze _
 | h1 fs f ih =>
  have same:(∀ l,UQ l f=none)->∀ l,sub (fs++[f]) l=sub fs l:=fun h l=>by rw [sub_snoc,h l];exact ZF _
  rw [Bq,uY,jN,Zh];have w1:wt [f]=f.1.length:=by unfold wt;simp
  rw [w1]
  match e:f.1 with
  | [] =>
   have:=same fun l=>subL_nil e;rw [show (fun l=>1+wt (sub (fs++[f]) l))=fun l=>1+wt (sub fs l) from funext fun l=>by rw [this l]];show (lvs fs).length+0+((fol fs).map fun l=>1+wt (sub fs l)).sum<=wt fs+0;omega
  | [a] =>
   have:=same fun l=>subL_one e;rw [show (fun l=>1+wt (sub (fs++[f]) l))=fun l=>1+wt (sub fs l) from funext fun l=>by rw [this l]];show (lvs fs).length+1+((fol fs).map fun l=>1+wt (sub fs l)).sum<=wt fs+1;omega
  | a::b::r =>
   show (lvs fs).length+0+((xV (fol fs) a).map fun l=>1+wt (sub (fs++[f]) l)).sum<=wt fs+(r.length+1+1);have hne:∀ l,l≠a->1+wt (sub (fs++[f]) l)=1+wt (sub fs l):=fun l hl=>by
    rw [sub_snoc,vB e,Zy (Ne.symm hl)];show 1+wt (sub fs l++[])=_;rw [ZF]
   have ha:1+wt (sub (fs++[f]) a)=1+wt (sub fs a)+(r.length+1):=by
    rw [sub_snoc,vB e,Zz rfl];show 1+wt (sub fs a++[(b::r,f.2)])=_;rw [Bq];show 1+(wt (sub fs a)+((b::r).length+0))=_;rw [Zn];omega
   have bump:=sum_bump (g:=fun l=>1+wt (sub fs l)) (g':=fun l=>1+wt (sub (fs++[f]) l)) (a:=a) (c:=r.length+1) hne (JL ha) (xA fs).1;unfold xV
   split
   ·omega
   ·rename_i z;rw [Zf,Ua];have s0:sub fs a=[]:=Jj.mpr fun k hk=>by
     obtain ⟨h0,hf⟩:=mem_sub.mp hk;refine z (((xA fs).2 a).mpr ⟨_,hf,?_⟩);cases q:k.1 with
     | nil=>exact absurd q h0
     | cons b r=>exact ⟨b,r,rfl⟩
    have same2:(fol fs).map (fun l=>1+wt (sub (fs++[f]) l))=(fol fs).map (fun l=>1+wt (sub fs l)):=ZW fun l hl=>hne l fun q=>z (q▸hl);rw [same2];show (lvs fs).length+0+(((fol fs).map fun l=>1+wt (sub fs l)).sum+((1+wt (sub (fs++[f]) a))+0))<=_;rw [ha,s0];show _+(_+(1+0+(r.length+1)+0))<=_;omega
def pieces (fs:List Fi):List (Str×List Fi):=(lvs fs).map (fun v=>(v.1,[([],v.2)]))++(fol fs).map fun l=>(l,sub fs l)
theorem pieces_mem {d:Nat}{fs:List Fi}(g:GoodF d fs)(f:Fi):f∈((pieces fs).flatMap fun p=>p.2.map fun k=>(p.1::k.1,k.2))↔f∈fs:=by
 rw [Yf];constructor
 ·rintro ⟨p,hp,hf⟩;obtain ⟨k,hk,rfl⟩:=Za.mp hf
  rcases Zs.mp hp with z|z
  ·obtain ⟨v,hv,rfl⟩:=Za.mp z;rw [Q7.mp hk];exact mem_lvs.mp hv
  ·obtain ⟨l,hl,rfl⟩:=Za.mp z;exact (mem_sub.mp hk).2
 ·intro hf;obtain ⟨h0,_⟩:=g.lab f hf
  match e:f.1 with
  | []=>exact absurd e h0
  | [a] =>
   have ef:f=([a],f.2):=Prod.ext e rfl;exact ⟨(a,[([],f.2)]),Z5 _ (Za.mpr ⟨(a,f.2),mem_lvs.mpr (ef▸hf),rfl⟩),Za.mpr ⟨([],f.2),Q7.mpr rfl,ef.symm⟩⟩
  | a::b::r =>
   have ef:f=(a::b::r,f.2):=Prod.ext e rfl;exact ⟨(a,sub fs a),ZK _ (Za.mpr ⟨a,((xA fs).2 a).mpr ⟨f,hf,b,r,e⟩,rfl⟩),Za.mpr ⟨(b::r,f.2),mem_sub.mpr ⟨ZR _ _,ef▸hf⟩,ef.symm⟩⟩
theorem lvs_nd {fs:List Fi}(nd:(fs.map (·.1)).Nodup):((lvs fs).map (·.1)).Nodup:=by
 have:((lvs fs).map fun v=>[v.1]).Sublist (fs.map (·.1)):=by
  unfold lvs
  induction fs with
  | nil=>exact List.Sublist.slnil
  | cons f fs ih =>
   rw [Zw,Z8] at nd;rw [YJ,Zw]
   match e:f.1 with
   | []=>exact (ih nd.2).cons _
   | [a]=>exact (ih nd.2).cons₂ _
   | a::b::r=>exact (ih nd.2).cons _
 have:=this.nodup nd;have e:((lvs fs).map fun v=>[v.1])=((lvs fs).map (·.1)).map fun a=>[a]:=by rw [Zt];rfl
 rw [e] at this;exact qG this
theorem UT {d:Nat}{fs:List Fi}(g:GoodF d fs):((pieces fs).map (·.1)).Nodup:=by
 unfold pieces;rw [Zf,Zt,Zt,Yk];refine ⟨lvs_nd g.nd,by rw [show ((fun p:Str×List Fi=>p.1)∘fun l=>(l,sub fs l))=id from rfl,VB];exact (xA fs).1,fun a ha b hb z=>?_⟩;subst z;obtain ⟨v,hv,e⟩:=Za.mp ha;obtain ⟨l,hl,rfl⟩:=Za.mp hb;have e:v.1=l:=e;obtain ⟨f,hf,b,r,ef⟩:=((xA fs).2 l).mp hl;have hv:([v.1],v.2)∈fs:=mem_lvs.mp hv;have:=g.pre _ hv f hf (b::r) (by rw [ef,e];rfl);cases this
theorem GA {d:Nat}{fs:List Fi}(g:GoodF d fs):∀ p∈pieces fs,zS p.1=true/\p.2≠[]:=fun p hp=>by
 rcases Zs.mp hp with z|z
 ·obtain ⟨v,hv,rfl⟩:=Za.mp z;exact ⟨(g.lab _ (mem_lvs.mp hv)).2.2.1 _ (Q7.mpr rfl),ZR _ _⟩
 ·obtain ⟨l,hl,rfl⟩:=Za.mp z;obtain ⟨f,hf,b,r,ef⟩:=((xA fs).2 l).mp hl;refine ⟨(g.lab f hf).2.2.1 _ (by rw [ef];exact Zc ..),List.ne_nil_of_mem (a:=(b::r,f.2)) (mem_sub.mpr ⟨ZR _ _,?_⟩)⟩;have:f=(l::b::r,f.2):=Prod.ext ef rfl;exact this▸hf
theorem sub_len {fs:List Fi}{l:Str}:(sub fs l).length<=fs.length:=List.length_filterMap_le _ _
theorem qI (fs:List Fi):(lvs fs).length+(fol fs).length<=fs.length:=by
 induction fs using snoc_ind with
 | h0=>exact Ze _
 | h1 fs f ih =>
  rw [uY,jN,Zh,Zh]
  match e:f.1 with
  | []=>show (lvs fs).length+0+(fol fs).length<=fs.length+1;omega
  | [a]=>show (lvs fs).length+1+(fol fs).length<=fs.length+1;omega
  | a::b::r =>
   show _+0+(xV (fol fs) a).length<=_+1;unfold xV
   split
   ·omega
   ·rw [Zh];show _+0+(_+1)<=_+1;omega
theorem putF_one {d e n:Nat}{S:List En}{fs:List Fi}(ok:OkS S)(g:GoodF n fs)(hl:fs.length<=60)(hs:S.length+1+wt fs<=2000)
  (H:∀ l∈fol fs,∀ S,OkS S->S.length+1+wt (sub fs l)<=2000->PutOk (e+1) S (sub fs l) (Uj d S (sub fs l))/\(Uj d S (sub fs l)).1.length<=S.length+1+wt (sub fs l)) :
  PutOk (e+2) S fs (Uj (d+1) S fs)/\(Uj (d+1) S fs).1.length<=S.length+1+wt fs:=by
 have hm:=many fs;have pl:=qI fs;obtain ⟨a1,a2⟩:=XV (d:=e) (lvs fs) (Fo.nil ok) (fun v hv=>(g.lab _ (mem_lvs.mp hv)).2.2.2) (by omega);have b:=f_fold (fol fs) H (S:=((lvs fs).foldl lvStep (S,[])).1) (rows:=((lvs fs).foldl lvStep (S,[])).2) a1 (by omega);obtain ⟨b1,b2⟩:=b;rw [putF_is];rw [VD] at b1;have ep:pieces fs=(lvs fs).map (fun v=>(v.1,[(([],v.2):Fi)]))++(fol fs).map fun l=>(l,sub fs l):=rfl;rw [←ep] at b1;have b1:Fo (e+1) S ((fol fs).foldl (fStep d fs) ((lvs fs).foldl lvStep (S,[]))).1 ((fol fs).foldl (fStep d fs) ((lvs fs).foldl lvStep (S,[]))).2 (pieces fs):=b1;have b2:((fol fs).foldl (fStep d fs) ((lvs fs).foldl lvStep (S,[]))).1.length<=_:=b2;generalize (fol fs).foldl (fStep d fs) ((lvs fs).foldl lvStep (S,[]))=q at b1 b2 ⊢;have rl:q.2.length<=60:=by
  rw [b1.len,ep,Zh,Q5,Q5];omega
 obtain ⟨pk,pl⟩:=b1.put rl (UT g) (GA g) (by omega);exact ⟨⟨pk.ok,pk.new,pk.tree,fun f=>by rw [pk.rd,pieces_mem g],pk.node⟩,by omega⟩
theorem uI:∀ (d:Nat) {S:List En} {fs:List Fi},OkS S->GoodF (d+1) fs->fs.length<=60->S.length+1+wt fs<=2000->PutOk (d+2) S fs (Uj (d+1) S fs)/\(Uj (d+1) S fs).1.length<=S.length+1+wt fs
 | 0,S,fs,ok,g,hl,hs=>putF_one ok g hl hs fun l hl=>by
  obtain ⟨f,hf,b,r,ef⟩:=((xA fs).2 l).mp hl;have:=(g.lab f hf).2.1;rw [ef,Zn,Zn] at this;omega
 | d+1,S,fs,ok,g,hl,hs=>putF_one ok g hl hs fun l _ S' ok' hs'=>uI d ok' (g.sub l) (Yb sub_len hl) hs'
theorem uP {d:Nat}{S S' T:List En}{fs gs:List Fi}{q q':List En×Str}(a:PutOk d S fs q)(b:PutOk d S' gs q')(e:q'.1=q.1++T):q.2=q'.2↔∀ f,f∈fs↔f∈gs:=by
 have ok:=b.ok;rw [e] at ok;obtain ⟨t1,r1⟩:=a.tree.more ok a.ok;constructor
 ·intro z f;rw [←a.rd,←b.rd,←z,e,r1]
 ·intro z;have t2:=b.tree;have r2:=b.rd;rw [e] at t2 r2;refine Tree.one ok t1 t2 (rise_same (t1.rise ok).1 (t2.rise ok).1 fun f=>?_);rw [r1,a.rd,r2,z]
end An
namespace AxK
structure TO (β:Type) where
 lt:β->β->Bool
 asy:∀ a b,lt a b=true->lt b a=false
 tra:∀ a b c,lt b a=false->lt c b=false->lt c a=false
 ant:∀ a b,lt a b=false->lt b a=false->a=b
section
variable {β γ:Type}{O:TO β}
def TO.le (O:TO β)(a b:β):Prop:=O.lt b a=false
theorem TO.refl (O:TO β)(a:β):O.le a a:=by
 show O.lt a a=false;cases h:O.lt a a with
 | false=>rfl
 | true=>exact h.symm.trans (O.asy a a h)
theorem TO.of_lt {a b:β}(h:O.lt a b=true):O.le a b:=O.asy a b h
theorem TO.trans {a b c:β}(h1:O.le a b)(h2:O.le b c):O.le a c:=O.tra a b c h1 h2
def TO.nat:TO Nat:=⟨fun a b=>decide (a<b),fun a b h=>by have:=ZB h;exact Zo (by omega),fun a b c h1 h2=>by
 have:=Y7 h1;have:=Y7 h2;exact Zo (by omega),fun a b h1 h2=>by
 have:=Y7 h1;have:=Y7 h2;omega⟩
def yJ (O:TO β):List β->List β->Bool
 | [],[]=>false
 | [],_::_=>true
 | _::_,[]=>false
 | a::as,b::bs=>O.lt a b||(!O.lt b a&&yJ O as bs)
theorem list_asy (O:TO β):∀ a b:List β,yJ O a b=true->yJ O b a=false
 | [],[],h=>nomatch h
 | [],_::_,_=>rfl
 | _::_,[],h=>nomatch h
 | a::as,b::bs,h=>by
  unfold yJ at h ⊢;cases h1:O.lt a b with
  | true =>
   rw [O.asy _ _ h1];simp
  | false =>
   rw [h1] at h;have h:O.lt b a=false/\yJ O as bs=true:=by simpa using h
   rw [h.1,list_asy O as bs h.2];rfl
theorem list_ant (O:TO β):∀ a b:List β,yJ O a b=false->yJ O b a=false->a=b
 | [],[],_,_=>rfl
 | [],_::_,h,_=>nomatch h
 | _::_,[],_,h=>nomatch h
 | a::as,b::bs,h1,h2=>by
  unfold yJ at h1 h2;have h1:=YU.mp h1;have h2:=YU.mp h2;have e:=O.ant _ _ h1.1 h2.1;have g1:yJ O as bs=false:=by have:=h1.2;rw [h2.1] at this;simpa using this
  have g2:yJ O bs as=false:=by have:=h2.2;rw [h1.1] at this;simpa using this
  rw [e,list_ant O as bs g1 g2]
theorem list_tra (O:TO β):∀ a b c:List β,yJ O b a=false->yJ O c b=false->yJ O c a=false
 | [],[],c,_,h=>h
 | [],_::_,[],_,_=>rfl
 | [],_::_,_::_,_,_=>rfl
 | _::_,[],c,h,_=>nomatch h
 | _::_,_::_,[],_,h=>nomatch h
 | a::as,b::bs,c::cs,h1,h2=>by
  unfold yJ at h1 h2 ⊢;have h1:=YU.mp h1;have h2:=YU.mp h2;rw [O.tra _ _ _ h1.1 h2.1,VU];cases q:O.lt a c with
  | true=>rfl
  | false =>
   have e1:a=c:=O.ant _ _ q (O.tra _ _ _ h1.1 h2.1);have e2:O.lt a b=false:=by rw [e1];exact h2.1
   have e3:O.lt b c=false:=by rw [←e1];exact h1.1
   have g1:yJ O bs as=false:=by have:=h1.2;rw [e2] at this;simpa using this
   have g2:yJ O cs bs=false:=by have:=h2.2;rw [e3] at this;simpa using this
   rw [list_tra O as bs cs g1 g2];rfl
def TO.list (O:TO β):TO (List β):=⟨yJ O,list_asy O,list_tra O,list_ant O⟩
def TO.by_ (O:TO β)(f:γ->β)(h:∀ a b,f a=f b->a=b):TO γ:=⟨fun a b=>O.lt (f a) (f b),fun a b=>O.asy _ _,fun a b c=>O.tra _ _ _,fun a b h1 h2=>h a b (O.ant _ _ h1 h2)⟩
end
end AxK
namespace AxK
open PySem PySem.W PyProof.Rows
def run {β:Type}(lt:Nat->Nat->Bool):KasT β->β
 | .ret a=>a
 | .ask i j k=>run lt (k (lt i j))
theorem run_bind {β γ:Type}{lt:Nat->Nat->Bool}{f:β->KasT γ}:∀ t:KasT β,run lt (t.bind f)=run lt (f (run lt t))
 | .ret _=>rfl
 | .ask i j k=>run_bind (k (lt i j))
section
variable {β:Type}{O:TO β}{key:Nat->β}
def kn (key:Nat->β)(p:Array Nat)(i:Nat):β:=key (p.getD i 0)
def Up (O:TO β)(key:Nat->β)(p:Array Nat)(n:Nat):Prop:=∀ i j,i<=j->j<n->O.le (kn key p i) (kn key p j)
def Down (O:TO β)(key:Nat->β)(p:Array Nat)(n:Nat):Prop:=∀ i j,i<=j->j<n->O.le (kn key p j) (kn key p i)
theorem B1 {p q:Array Nat}{i j:Nat}(h:p[i]?=q[j]?):kn key p i=kn key q j:=by
 unfold kn;rw [ZT,ZT,h]
theorem Up.snoc {p:Array Nat}{n:Nat}(h1:1<=n)(h:Up O key p n)(hl:O.le (kn key p (n-1)) (kn key p n)):Up O key p (n+1):=fun i j hij hj=>by
 by_cases z:j<n
 ·exact h i j hij z
 ·have z:j=n:=by omega
  subst z
  by_cases z:i=j
  ·subst z;exact O.refl _
  ·exact TO.trans (h i (j-1) (by omega) (by omega)) hl
theorem Down.snoc {p:Array Nat}{n:Nat}(h1:1<=n)(h:Down O key p n)(hl:O.le (kn key p n) (kn key p (n-1))):Down O key p (n+1):=fun i j hij hj=>by
 by_cases z:j<n
 ·exact h i j hij z
 ·have z:j=n:=by omega
  subst z
  by_cases z:i=j
  ·subst z;exact O.refl _
  ·exact TO.trans hl (h i (j-1) (by omega) (by omega))
theorem one_up (p:Array Nat):Up O key p 1:=fun i j hij hj=>by
 have:i=j:=by omega
 subst this;exact O.refl _
theorem asc_ok {p:Array Nat}:∀ (f n:Nat),1<=n->Up O key p n->∃ m,run (fun i j=>O.lt (key i) (key j)) (kas_asc p f n)=m/\n<=m/\m<=n+f/\Up O key p m/\(m=n+f\/O.lt (kn key p m) (kn key p (m-1))=true)
 | 0,n,_,h=>⟨n,rfl,Ze _,Ze _,h,.inl rfl⟩
 | f+1,n,h1,h=>by
  unfold kas_asc;show ∃ m,run _ (if O.lt (kn key p n) (kn key p (n-1))=true then KasT.ret n else kas_asc p f (n+1))=m/\_;cases q:O.lt (kn key p n) (kn key p (n-1)) with
  | true=>exact ⟨n,by rw [Zz rfl];rfl,Ze _,by omega,h,.inr q⟩
  | false =>
   rw [Zy (by decide)];obtain ⟨m,e,a,b,c,d⟩:=asc_ok f (n+1) (by omega) (h.snoc h1 q);exact ⟨m,e,by omega,by omega,c,d.imp (fun z=>by omega) id⟩
theorem rev_kn {p:Array Nat}{i j:Nat}(hj:j<=p.size)(k:Nat):kn key (kas_rev p i j) k=if i<=k/\k<j then kn key p (i+j-1-k) else kn key p k:=by
 have e:=getElem?_mirror_all (i:=i) hj k;unfold kas_rev
 by_cases z:i<=k/\k<j
 ·rw [Zz z] at e ⊢;exact B1 e
 ·rw [Zy z] at e ⊢;exact B1 e
theorem IQ {p:Array Nat}{i j:Nat}(hj:j<=p.size)(h:∀ k,i<=k->k<j->kn key p k=kn key p (j-1))(k:Nat):kn key (kas_rev p i j) k=kn key p k:=by
 rw [rev_kn hj]
 split
 ·rw [h _ (by omega) (by omega),h k (by omega) (by omega)]
 ·rfl
theorem xD (p:Array Nat)(i j:Nat):(kas_rev p i j).Perm p:=mirror_perm _ _ _ _
theorem Down.of_kn {p q:Array Nat}{n:Nat}(h:Down O key p n)(e:∀ k,kn key q k=kn key p k):Down O key q n:=fun i j h1 h2=>by
 rw [e,e];exact h i j h1 h2
def Flat (key:Nat->β)(p:Array Nat)(n q:Nat):Prop:=q+1<=n/\∀ i,n-(q+1)<=i->i<n->kn key p i=kn key p (n-1)
theorem IB {p:Array Nat}{n:Nat}(h:1<=n):Flat key p n 0:=⟨h,fun i h1 h2=>by
 have:i=n-1:=by omega
 rw [this]⟩
theorem XI:∀ (f:Nat) (p:Array Nat) (n q:Nat),1<=n->n+f<=p.size->Down O key p n->Flat key p n q ->
  ∃ p' n' q',run (fun i j=>O.lt (key i) (key j)) (kas_desc f p n q)=(p',n',q')/\p'.Perm p/\n<=n'/\n'<=n+f/\Down O key p' n'/\Flat key p' n' q'
 | 0,p,n,q,_,_,h,hq=>⟨p,n,q,rfl,Array.Perm.refl _,Ze _,Ze _,h,hq⟩
 | f+1,p,n,q,h1,hz,h,hq=>by
  unfold kas_desc;show ∃ p' n' q',run (fun i j=>O.lt (key i) (key j)) (if O.lt (kn key p n) (kn key p (n-1))=true then (if q>0 then kas_desc f (kas_rev p (n-(q+1)) n) (n+1) 0 else kas_desc f p (n+1) 0)
   else .ask (p.getD (n-1) 0) (p.getD n 0) fun d=>if d=true then .ret (p,n,q) else kas_desc f p (n+1) (q+1))=(p',n',q')/\_
  cases c:O.lt (kn key p n) (kn key p (n-1)) with
  | true =>
   rw [Zz rfl];have hd:=h.snoc h1 (TO.of_lt c)
   by_cases z:q>0
   ·rw [Zz z];have fl:=IQ (key:=key) (p:=p) (i:=n-(q+1)) (j:=n) (by omega) hq.2;obtain ⟨p',n',q',e,a,b,d,g,k⟩:=XI f (kas_rev p (n-(q+1)) n) (n+1) 0 (by omega) (by rw [(xD p _ _).size_eq];omega) (hd.of_kn fl) (IB (by omega));exact ⟨p',n',q',e,a.trans (xD _ _ _),by omega,by omega,g,k⟩
   ·rw [Zy z];obtain ⟨p',n',q',e,a,b,d,g,k⟩:=XI f p (n+1) 0 (by omega) (by omega) hd (IB (by omega));exact ⟨p',n',q',e,a,by omega,by omega,g,k⟩
  | false =>
   rw [Zy (by decide)];show ∃ p' n' q',run (fun i j=>O.lt (key i) (key j)) (if O.lt (kn key p (n-1)) (kn key p n)=true then KasT.ret (p,n,q) else kas_desc f p (n+1) (q+1))=(p',n',q')/\_;cases d:O.lt (kn key p (n-1)) (kn key p n) with
   | true=>exact ⟨p,n,q,by rw [Zz rfl];rfl,Array.Perm.refl _,Ze _,by omega,h,hq⟩
   | false =>
    rw [Zy (by decide)];have eq:kn key p n=kn key p (n-1):=O.ant _ _ c d;have fl:Flat key p (n+1) (q+1):=⟨by have:=hq.1;omega,fun i i1 i2=>by
     rw [show n+1-1=n by omega]
     by_cases z:i=n
     ·rw [z]
     ·rw [eq];exact hq.2 i (by omega) (by omega)⟩
    obtain ⟨p',n',q',e,a,b,g,k,l⟩:=XI f p (n+1) (q+1) (by omega) (by omega) (h.snoc h1 d) fl;exact ⟨p',n',q',e,a,by omega,by omega,k,l⟩
theorem tail3_ok {p:Array Nat}{n nrem:Nat}(h1:1<=n)(hn:n<=nrem)(hz:nrem<=p.size)(h:Down O key p n) :
  ∃ m p',run (fun i j=>O.lt (key i) (key j)) (kas_tail3 n nrem p)=(m,p')/\p'.Perm p/\1<=m/\m<=nrem/\Up O key p' m:=by
 have up:Up O key (kas_rev p 0 n) n:=fun i j hij hj=>by
  rw [rev_kn (by omega),rev_kn (by omega),Zz (by omega),Zz (by omega)];exact h _ _ (by omega) (by omega)
 obtain ⟨m,e,a,b,c,_⟩:=asc_ok (nrem-n) n h1 up;refine ⟨m,kas_rev p 0 n,?_,xD _ _ _,by omega,by omega,c⟩;unfold kas_tail3;rw [run_bind,e];rfl
theorem Xm {p:Array Nat}{n nrem:Nat}(hn:n+1<=nrem)(hz:nrem<=p.size)(h:Down O key p (n+1)) :
  ∃ m p',run (fun i j=>O.lt (key i) (key j)) (kas_descPart n nrem p)=(m,p')/\p'.Perm p/\1<=m/\m<=nrem/\Up O key p' m:=by
 obtain ⟨p',n',q',e,a,b,c,d,fl⟩:=XI (nrem-(n+1)) p (n+1) 0 (by omega) (by omega) h (IB (by omega));have hz':nrem<=p'.size:=by rw [a.size_eq];exact hz
 unfold kas_descPart;rw [run_bind,e];show ∃ m p'',run _ (if q'>0 then kas_tail3 n' nrem (kas_rev p' (n'-(q'+1)) n') else kas_tail3 n' nrem p')=(m,p'')/\_
 by_cases z:q'>0
 ·rw [Zz z];have hf:=IQ (key:=key) (p:=p') (i:=n'-(q'+1)) (j:=n') (by omega) fl.2;obtain ⟨m,p'',e1,a1,b1,c1,d1⟩:=tail3_ok (nrem:=nrem) (by omega) (by omega) (by rw [(xD p' _ _).size_eq];exact hz') (d.of_kn hf);exact ⟨m,p'',e1,(a1.trans (xD _ _ _)).trans a,b1,c1,d1⟩
 ·rw [Zy z];obtain ⟨m,p'',e1,a1,b1,c1,d1⟩:=tail3_ok (nrem:=nrem) (by omega) (by omega) hz' d;exact ⟨m,p'',e1,a1.trans a,b1,c1,d1⟩
theorem count_ok {p:Array Nat}{nrem:Nat}(h1:1<=nrem)(hz:nrem<=p.size) :
  ∃ m p',run (fun i j=>O.lt (key i) (key j)) (kas_count nrem p)=(m,p')/\p'.Perm p/\1<=m/\m<=nrem/\Up O key p' m:=by
 obtain ⟨n,e,a,b,c,d⟩:=asc_ok (O:=O) (key:=key) (p:=p) (nrem-1) 1 (Ze _) (one_up p);unfold kas_count;rw [run_bind,e]
 by_cases z:n=nrem
 ·rw [Zz (by simpa using z)];exact ⟨n,p,rfl,Array.Perm.refl _,a,by omega,c⟩
 rw [Zy (by simpa using z)];have less:O.lt (kn key p n) (kn key p (n-1))=true:=d.resolve_left (by omega)
 by_cases g:n>1
 ·rw [Zz g];show ∃ m p',run _ (if O.lt (kn key p 0) (kn key p (n-1))=true then KasT.ret (n,p) else kas_descPart n nrem (kas_rev p 0 n))=(m,p')/\_;cases q:O.lt (kn key p 0) (kn key p (n-1)) with
  | true =>
   rw [Zz rfl];exact ⟨n,p,rfl,Array.Perm.refl _,a,by omega,c⟩
  | false =>
   rw [Zy (by decide)];have flat:∀ k,0<=k->k<n->kn key p k=kn key p (n-1):=fun k _ hk =>
    O.ant _ _ (TO.trans q (c 0 k (by omega) hk)) (c k (n-1) (by omega) (by omega))
   have fl:=IQ (key:=key) (p:=p) (i:=0) (j:=n) (by omega) flat;have dn:Down O key p n:=fun i j hij hj=>by
    rw [flat i (by omega) (by omega),flat j (by omega) hj];exact O.refl _
   obtain ⟨m,p',e1,a1,b1,c1,d1⟩:=Xm (O:=O) (key:=key) (p:=kas_rev p 0 n) (n:=n) (nrem:=nrem) (by omega) (by rw [(xD p _ _).size_eq];exact hz) ((dn.snoc a (TO.of_lt less)).of_kn fl);exact ⟨m,p',e1,a1.trans (xD _ _ _),b1,c1,d1⟩
 ·rw [Zy g];have g:n=1:=by omega
  subst g;exact Xm (by omega) hz (Down.snoc (Ze _) (fun i j hij hj=>by
   have:i=j:=by omega
   subst this;exact O.refl _) (TO.of_lt less))
theorem Ip {p:Array Nat}{k:Nat}(hs:Up O key p k):∀ (f l r:Nat),l<=r->r<=k->r-l<=f->(∀ i,i<l->O.le (kn key p i) (kn key p k))->(∀ i,r<=i->i<k->O.lt (kn key p k) (kn key p i)=true) ->
  ∃ m,run (fun i j=>O.lt (key i) (key j)) (kas_place p k f l r)=m/\m<=k/\(∀ i,i<m->O.le (kn key p i) (kn key p k))/\(∀ i,m<=i->i<k->O.lt (kn key p k) (kn key p i)=true)
 | 0,l,r,h1,h2,h3,h4,h5=>⟨l,rfl,by omega,h4,fun i i1 i2=>h5 i (by omega) i2⟩
 | f+1,l,r,h1,h2,h3,h4,h5=>by
  unfold kas_place
  by_cases z:l≥r
  ·rw [Zz z];exact ⟨l,rfl,by omega,h4,fun i i1 i2=>h5 i (by omega) i2⟩
  rw [Zy z];show ∃ m,run _ (if O.lt (kn key p k) (kn key p ((l+r) / 2))=true then kas_place p k f l ((l+r) / 2) else kas_place p k f ((l+r) / 2+1) r)=m/\_;cases q:O.lt (kn key p k) (kn key p ((l+r) / 2)) with
  | true =>
   rw [Zz rfl];refine Ip hs f l ((l+r) / 2) (by omega) (by omega) (by omega) h4 fun i i1 i2=>?_;cases w:O.lt (kn key p k) (kn key p i) with
   | true=>rfl
   | false =>
    have:=O.tra _ _ _ (hs _ _ i1 i2) w;rw [q] at this;exact this.symm
  | false =>
   rw [Zy (by decide)];exact Ip hs f ((l+r) / 2+1) r (by omega) (by omega) (by omega) (fun i i1=>TO.trans (hs i ((l+r) / 2) (by omega) (by omega)) q) h5
theorem GM {p:Array Nat}{k l:Nat}(hk:k<p.size)(hl:l<=k)(i:Nat):kn key (bubble p k (k-l)) i=if i=l then kn key p k else if l<i/\i<=k then kn key p (i-1) else kn key p i:=by
 have e:=getElem?_bubble hk (k-l) (by omega) i;rw [show k-(k-l)=l by omega] at e
 by_cases z:i=l
 ·rw [Zz z] at e ⊢;exact B1 e
 ·rw [Zy z] at e ⊢
  by_cases z:l<i/\i<=k
  ·rw [Zz z] at e ⊢;exact B1 e
  ·rw [Zy z] at e ⊢;exact B1 e
theorem bin_ok:∀ (f:Nat) (p:Array Nat) (k:Nat),k+f<=p.size->Up O key p k->∃ p',run (fun i j=>O.lt (key i) (key j)) (kas_bin f p k)=p'/\p'.Perm p/\Up O key p' (k+f)
 | 0,p,k,_,h=>⟨p,rfl,Array.Perm.refl _,h⟩
 | f+1,p,k,hz,h=>by
  obtain ⟨m,e,a,b,c⟩:=Ip h k 0 k (by omega) (Ze _) (by omega) (fun i hi=>by omega) (fun i i1 i2=>by omega);have up:Up O key (bubble p k (k-m)) (k+1):=fun i j hij hj=>by
   rw [GM (by omega) a,GM (by omega) a]
   repeat' split
   all_goals first
    | (exfalso;omega)
    | exact O.refl _
    | exact b _ (by omega)
    | exact TO.of_lt (c _ (by omega) (by omega))
    | exact h _ _ (by omega) (by omega)
  obtain ⟨p',e1,a1,b1⟩:=bin_ok f (bubble p k (k-m)) (k+1) (by rw [bubble_size];omega) up;unfold kas_bin;rw [run_bind,e];exact ⟨p',e1,a1.trans (bubble_perm _ _ _),by rw [show k+(f+1)=k+1+f by omega];exact b1⟩
theorem sort_ok {n:Nat}(h1:1<=n):∃ p',run (fun i j=>O.lt (key i) (key j)) (kas_sort n)=p'/\p'.Perm (List.toArray (List.range n))/\Up O key p' n:=by
 have hz:(List.toArray (List.range n)).size=n:=by simp
 obtain ⟨m,p',e,a,b,c,d⟩:=count_ok (O:=O) (key:=key) (p:=List.toArray (List.range n)) (nrem:=n) h1 (JL hz.symm);unfold kas_sort;rw [run_bind,e];show ∃ p'',run _ (if m<n then kas_bin (n-max m 1) p' (max m 1) else KasT.ret p')=p''/\_;have em:max m 1=m:=by omega
 rw [em]
 by_cases z:m<n
 ·rw [Zz z];obtain ⟨p'',e1,a1,b1⟩:=bin_ok (n-m) p' m (by rw [a.size_eq,hz];omega) d;exact ⟨p'',e1,a1.trans a,by rw [show m+(n-m)=n by omega] at b1;exact b1⟩
 ·rw [Zy z];have z:m=n:=by omega
  rw [z] at d;exact ⟨p',rfl,a,d⟩
end
def Asks (n:Nat){β:Type}(R:β->Prop):KasT β->Prop
 | .ret a=>R a
 | .ask i j k=>i<n/\j<n/\∀ b,Asks n R (k b)
theorem Asks.bind {n:Nat}{β γ:Type}{R:β->Prop}{R':γ->Prop}{f:β->KasT γ}(hf:∀ a,R a->Asks n R' (f a)):∀ {t:KasT β},Asks n R t->Asks n R' (t.bind f)
 | .ret a,h=>hf a h
 | .ask i j k,h=>⟨h.1,h.2.1,fun b=>Asks.bind hf (h.2.2 b)⟩
theorem Asks.wp {n:Nat}{β:Type}{R:β->Prop}{cmp:Nat->Nat->(Bool->Shared->Prop)->Shared->Prop}{lt:Nat->Nat->Bool}{s:Shared}(hc:∀ i j,i<n->j<n->∀ C:Bool->Shared->Prop,C (lt i j) s->cmp i j C s){Q:β->Shared->Prop} :
  ∀ {t:KasT β},Asks n R t->Q (run lt t) s->t.kasWp cmp Q s
 | .ret _,_,q=>q
 | .ask i j k,h,q=>hc i j h.1 h.2.1 _ (Asks.wp hc (h.2.2 _) q)
def Bd (n:Nat)(p:Array Nat):Prop:=∀ i:Nat,p.getD i 0<n
theorem Bd.perm {n:Nat}{p q:Array Nat}(h:Bd n p)(e:q.Perm p):Bd n q:=fun i=>by
 rw [ZT]
 rcases Nat.lt_or_ge i q.size with z|z
 ·rw [V4 q i z];have hm:q[i]∈p:=e.mem_iff.mp (Array.getElem_mem z);obtain ⟨j,hj,ej⟩:=Array.getElem_of_mem hm;have:=h j;rw [ZT,V4 p j hj,ej] at this;exact this
 ·rw [Jq z];have:=h p.size;rw [ZT,Jq (Ze _)] at this;exact this
theorem ID {n:Nat}{p:Array Nat}(h:Bd n p):∀ f m:Nat,Asks n (fun _=>True) (kas_asc p f m)
 | 0,m=>trivial
 | f+1,m=>⟨h _,h _,fun c=>by
  show Asks n _ (if c=true then KasT.ret m else kas_asc p f (m+1))
  split
  ·trivial
  ·exact ID h f (m+1)⟩
theorem kF {n:Nat}:∀ (f:Nat) (p:Array Nat) (m q:Nat),Bd n p->Asks n (fun r=>Bd n r.1) (kas_desc f p m q)
 | 0,p,m,q,h=>h
 | f+1,p,m,q,h=>⟨h _,h _,fun c=>by
  cases c with
  | true =>
   show Asks n _ (if q>0 then kas_desc f (kas_rev p (m-(q+1)) m) (m+1) 0 else kas_desc f p (m+1) 0)
   split
   ·exact kF f _ _ _ (h.perm (xD _ _ _))
   ·exact kF f _ _ _ h
  | false =>
   refine ⟨h _,h _,fun d=>?_⟩;cases d with
   | true=>exact h
   | false=>exact kF f _ _ _ h⟩
theorem IA {n m r:Nat}{p:Array Nat}(h:Bd n p):Asks n (fun r=>Bd n r.2) (kas_tail3 m r p):=by
 have h':Bd n (kas_rev p 0 m):=h.perm (xD _ _ _);unfold kas_tail3;refine Asks.bind (fun a _=>?_) (ID h' _ _);exact h'
theorem kK {n m r:Nat}{p:Array Nat}(h:Bd n p):Asks n (fun r=>Bd n r.2) (kas_descPart m r p):=by
 refine Asks.bind (fun a ha=>?_) (kF _ _ _ _ h);show Asks n _ (if a.2.2>0 then _ else _)
 split
 ·exact IA (Bd.perm ha (xD _ _ _))
 ·exact IA ha
theorem count_asks {n r:Nat}{p:Array Nat}(h:Bd n p):Asks n (fun r=>Bd n r.2) (kas_count r p):=by
 refine Asks.bind (fun a _=>?_) (ID h _ _);show Asks n _ (if (a==r)=true then _ else _)
 split
 ·exact h
 ·split
  ·refine ⟨h _,h _,fun c=>?_⟩;cases c with
   | true=>exact h
   | false=>exact kK (h.perm (xD _ _ _))
  ·exact kK h
theorem kZ {n k:Nat}{p:Array Nat}(h:Bd n p):∀ f l r:Nat,Asks n (fun _=>True) (kas_place p k f l r)
 | 0,l,r=>trivial
 | f+1,l,r=>by
  unfold kas_place
  split
  ·trivial
  ·refine ⟨h _,h _,fun c=>?_⟩;cases c with
   | true=>exact kZ h f _ _
   | false=>exact kZ h f _ _
theorem bin_asks {n:Nat}:∀ (f:Nat) (p:Array Nat) (k:Nat),Bd n p->Asks n (fun r=>Bd n r) (kas_bin f p k)
 | 0,p,k,h=>h
 | f+1,p,k,h=>Asks.bind (fun l _=>bin_asks f _ _ (h.perm (bubble_perm _ _ _))) (kZ h _ _ _)
theorem sort_asks {n:Nat}(h1:1<=n):Asks n (fun r=>Bd n r) (kas_sort n):=by
 have h:Bd n (List.toArray (List.range n)):=fun i=>by
  rw [ZT,Vn]
  rcases Nat.lt_or_ge i n with z|z
  ·rw [List.getElem?_range z];exact z
  ·rw [Yc (by rw [YD];exact z)];exact h1
 refine Asks.bind (fun a ha=>?_) (count_asks h);show Asks n _ (if a.1<n then _ else _)
 split
 ·exact bin_asks _ _ _ ha
 ·exact ha
end AxK
namespace L2
open PySem PyProof.Rows
mutual
def Lt1:PyData->PyData->Bool->Prop
 | .int a,.int b,r=>r=decide (a<b)
 | .str a,.str b,r=>r=decide (a.cps.toList<b.cps.toList)
 | .tuple xs,.tuple ys,r=>LtL xs ys r
 | _,_,_=>False
def LtL:List PyData->List PyData->Bool->Prop
 | [],ys,r=>r=decide (0<ys.length)
 | _::_,[],r=>r=false
 | x::xs,y::ys,r=>(PyData.eqv x y=true/\LtL xs ys r)\/(PyData.eqv x y=false/\Lt1 x y r)
end
section
variable {prog:Program}{w:World}
def Asked (prog:Program)(w:World)(A:Around)(r:Bool)(fin:Bool)(s:Shared):List (Value×Value)->Prop
 | []=>fin=r
 | p::l=>(∀ (Q:Bool->Shared->Prop) (E:Value->Shared->Prop),Q true s->wpAny (model prog w) A (eqBool p.1 p.2) Q E s)/\Asked prog w A r fin s l \/
  (∀ (Q:Bool->Shared->Prop) (E:Value->Shared->Prop),Q false s->wpAny (model prog w) A (eqBool p.1 p.2) Q E s) /\
  (∀ (Q:Value->Shared->Prop) (E:Value->Shared->Prop),Q (.bool r) s->wpAny (model prog w) A (richCompare .Lt p.1 p.2) Q E s)
theorem Gi {A:Around}{E:Value->Shared->Prop}{s:Shared}{a b:Addr}{oa ob:Obj}{xs ys:Array Value}{na nb:Nat}{r:Bool}{P:Fin->Shared->Prop}
  (hoa:s.heap.get? a=some oa) (hda:oa.data=.seq xs na) (hob:s.heap.get? b=some ob) (hcb:ob.cls=.type "tuple") (hdb:ob.data=.seq ys nb)
  (hq:Asked prog w A r (decide (xs.size<ys.size)) s (xs.toList.zip ys.toList)) (h:P (.done (.ret (.bool r))) s) :
  wpAny (model prog w) A (Builtin.«tuple.__lt__» ⟨[.ref a,.ref b],[]⟩) P E s:=by
 have hTb:s.TypeIs (.ref b) "tuple":=⟨ob,hob,hcb⟩;show wpAny _ _ (isInstance (.ref b) (.type "tuple")>>=_) _ _ s;refine Q6 (Y1 hTb isSubtype_tuple_tuple ?_);simp only [Vx,Yx,JV];refine Q6 (VJ hoa hda (Q6 (VJ hob hdb (Q6 ?_))));refine JO _ (fun rest c s'=>c.1=none/\s'=s/\Asked prog w A r (decide (xs.size<ys.size)) s rest) _ ?_ ?_ _ _ ⟨rfl,rfl,hq⟩
 ·rintro ⟨u,v⟩ rest c s' ⟨hc,rfl,ha⟩
  rcases ha with ⟨h1,h2⟩|⟨h1,h2⟩
  ·refine Q6 (h1 _ _ ?_);simp only [Vx,Yx,JV];exact Q8 ⟨rfl,rfl,h2⟩
  ·refine Q6 (h1 _ _ ?_);simp only [Bool.not_false,Ue];refine Q6 (JC (Q6 (h2 _ _ (Q6 (Q8 (Q8 ?_))))));exact Q8 h
 ·rintro ⟨c1,c2⟩ s' ⟨hc,rfl,ha⟩;simp only at hc;subst hc;refine Q8 ?_;have ha:decide (xs.size<ys.size)=r:=ha;show P (.done (.ret (.bool (decide (xs.size<ys.size))))) s';rw [ha];exact h
def LtAt (prog:Program)(w:World)(d:PyData):Prop:=∀ (e:PyData) (r:Bool) (A:Around) (s:Shared) (a b:Value) (as bs:List Addr),Reads s.heap a d as->Reads s.heap b e bs->d.canLay0=true->e.canLay0=true->A.units+min d.depth e.depth<cLine->Lt1 d e r ->
  ∀ (Q:Value->Shared->Prop) (E:Value->Shared->Prop),Q (.bool r) s->wpAny (model prog w) A (richCompare .Lt a b) Q E s
def LtsAt (prog:Program)(w:World)(xs:List PyData):Prop:=∀ (ys:List PyData) (r:Bool) (A:Around) (s:Shared) (vs us:List Value) (as bs:List Addr),ReadsAll s.heap vs xs as->ReadsAll s.heap us ys bs->PyData.canLayAll0 xs=true->PyData.canLayAll0 ys=true->A.units+min (PyData.depthAll xs) (PyData.depthAll ys)<cLine->LtL xs ys r ->
  ∀ k:Nat,Asked prog w A r (decide (k+vs.length<k+us.length)) s (vs.zip us)
theorem lt_int_at (i:Int):LtAt prog w (.int i):=by
 intro e r A s a b as bs ra rb _ _ _ h Q E q;cases e with
 | int j =>
  cases ra;cases rb;cases (show r=_ from h);exact (lt_int q:wpAny _ _ (compareOp .Lt _ _) _ _ _)
 | _=>exact False.elim h
theorem lt_str_at (i:Str):LtAt prog w (.str i):=by
 intro e r A s a b as bs ra rb _ _ _ h Q E q;cases e with
 | str j =>
  cases ra;cases rb;cases (show r=_ from h);exact (lt_str q:wpAny _ _ (compareOp .Lt _ _) _ _ _)
 | _=>exact False.elim h
theorem lt_tup_at {xs:List PyData}(ih:LtsAt prog w xs):LtAt prog w (.tuple xs):=by
 intro e r A s a b as bs ra rb ha hb hu h Q E q;cases e with
 | tuple ys =>
  cases ra with
  | tuple h1 h2 h3 h4 =>
   cases rb with
   | tuple k1 k2 k3 k4 =>
    have asked:=ih ys r A.in1 s _ _ _ _ h4 k4 ha hb (SeqAt.room_in hu) h 0;rw [Nat.zero_add,Nat.zero_add,ZE,ZE] at asked;exact VH (op:=.Lt) ⟨_,h1,h2⟩ ⟨_,k1,k2⟩ F.slot_tuple_lt
     (Z6 F.slot_tuple_lt ⟨_,h1,h2⟩ F.entry_tuple_lt (Gi h1 h3 k1 k2 k3 (r:=r) asked ⟨_,rfl,(fun e=>nomatch e),q⟩) (F.args_tuple_lt_2 _ _)) (SeqAt.room_here hu)
 | _=>exact False.elim h
theorem lts_nil:LtsAt prog w []:=by
 intro ys r A s vs us as bs rx ry _ _ _ h k;cases rx;have e:us.length=ys.length:=SeqAt.ReadsAll.length _ _ _ ry;rw [List.zip_nil_left];show decide (k+0<k+us.length)=r;rw [show r=_ from h,e];exact Vu.mpr (by omega)
theorem lts_cons {x:PyData}{xs:List PyData}(h1:LtAt prog w x)(h2:LtsAt prog w xs):LtsAt prog w (x::xs):=by
 intro ys r A s vs us as bs rx ry hx hy hu h k;cases ys with
 | nil =>
  cases ry;cases rx;rw [List.zip_nil_right];show decide (k+_<k+0)=r;rw [show r=_ from h];exact Zo (by omega)
 | cons y ys =>
  have hx':x.canLay0=true/\PyData.canLayAll0 xs=true:=by simpa [PyData.canLayAll0] using hx
  have hy':y.canLay0=true/\PyData.canLayAll0 ys=true:=by simpa [PyData.canLayAll0] using hy
  have hu1:A.units+min x.depth y.depth<cLine:=SeqAt.room_head hu;have hu2:A.units+min (PyData.depthAll xs) (PyData.depthAll ys)<cLine:=SeqAt.room_tail hu;cases rx with
  | @cons v vs _ _ _ _ p1 p2 =>
   cases ry with
   | @cons u us _ _ _ _ q1 q2 =>
    rw [List.zip_cons_cons];have h:(PyData.eqv x y=true/\LtL xs ys r)\/(PyData.eqv x y=false/\Lt1 x y r):=h
    rcases h with ⟨e,h⟩|⟨e,h⟩
    ·refine .inl ⟨fun Q E q=>SeqAt.eqBoolOverData prog w A E s _ _ _ _ _ _ Q p1 q1 hx'.1 hy'.1 hu1 (by rw [e];exact q),?_⟩;have ih:=h2 ys r A s _ _ _ _ p2 q2 hx'.2 hy'.2 hu2 h (k+1);rw [Zn,Zn,show k+(vs.length+1)=k+1+vs.length by omega,show k+(us.length+1)=k+1+us.length by omega];exact ih
    ·exact .inr ⟨fun Q E q=>SeqAt.eqBoolOverData prog w A E s _ _ _ _ _ _ Q p1 q1 hx'.1 hy'.1 hu1 (by rw [e];exact q),fun Q E q=>h1 y r A s _ _ _ _ p1 q1 hx'.1 hy'.1 hu1 h Q E q⟩
mutual
theorem lt1_ok:∀ d:PyData,LtAt prog w d
 | .int i=>lt_int_at i
 | .str i=>lt_str_at i
 | .tuple xs=>lt_tup_at (ltL_ok xs)
 | .none=>fun e r A s a b as bs ra rb _ _ _ h=>False.elim h
 | .bool _=>fun e r A s a b as bs ra rb _ _ _ h=>False.elim h
 | .list _=>fun e r A s a b as bs ra rb _ _ _ h=>False.elim h
 | .dict _=>fun e r A s a b as bs ra rb _ _ _ h=>False.elim h
theorem ltL_ok:∀ xs:List PyData,LtsAt prog w xs
 | []=>lts_nil
 | x::xs=>lts_cons (lt1_ok x) (ltL_ok xs)
end
end
end L2
namespace L2
open PySem PySem.Spec PyProof.Rows PySem.W AxK
section
variable {prog:Program}{w:World}{A:Around}{E:Value->Shared->Prop}{s:Shared}
theorem sort_shell {a:Addr}{vs:List Value}{n:Nat}{κ:SortKind}{lt:Nat->Nat->Bool}{P:PySem.Fin->Shared->Prop}(ho:s.heap.get? a=some (seqObj "list" vs.toArray n))(h64:vs.length<64)
  (hk:2<=vs.length->∀ s1:Shared,(∀ b o,b≠a->s.heap.get? b=some o->s1.heap.get? b=some o)->(∀ (Q:SortKind->Shared->Prop) (E':Value->Shared->Prop),Q κ s1->wpAny (model prog w) A (keyKind' vs.toArray) Q E' s1) /\
   ∀ i j,i<vs.length->j<vs.length->∀ C:Bool->Shared->Prop,C (lt i j) s1->kas_ask prog w A κ vs i j C s1)
  (h:∀ p:Array Nat,(vs.length<2/\p=List.toArray (List.range vs.length))\/(2<=vs.length/\p=run lt (kas_sort vs.length))->P (.done (.ret .none)) { s with heap:=sortedHeap s.heap a vs (List.toArray (p.toList.map fun i=>vs.getD i Value.none)) }) :
  wpAny (model prog w) A (Builtin.«list.sort» ⟨[.ref a],[]⟩) P E s:=by
 have ha:a<s.heap.objs.size:=Zp ho;have e0:=Heap.SameBut.update s.heap a (Obj.mapSeq fun _=>(#[]:Array Value));obtain ⟨n1,ho1⟩:∃ e1,(s.heap.update a (Obj.mapSeq fun _=>(#[]:Array Value))).get? a=some (seqObj "list" #[] e1):=⟨_,get?_update_seq ho fun _=>#[]⟩;have ho2:(((s.heap.update a (Obj.mapSeq fun _=>(#[]:Array Value))).push (seqObj "tuple" vs.toArray 0)).push (seqObj "list" #[] 0)).get? a=some (seqObj "list" #[] n1):=Q9 _ (Q9 _ ho1);have keep:∀ b o,b≠a->s.heap.get? b=some o->(((s.heap.update a (Obj.mapSeq fun _=>(#[]:Array Value))).push (seqObj "tuple" vs.toArray 0)).push (seqObj "list" #[] 0)).get? b=some o:=fun b o hb q =>
  Q9 _ (Q9 _ (by rw [Heap.get?_update_ne _ _ _ _ hb];exact q))
 have hsz:vs.toArray.size=vs.length:=by simp
 rw [list_sort_plain];refine Q6 (listItems_at ho rfl (Q6 (listUpdate_at ho rfl (Q6 (seqEpoch_at ho1 rfl (Q6 (wpAny_newTuple (Q6 (VW (Yr ?_) (ZJ _))) (by show vs.length<=_;rw [Ym];omega))))) (by rw [Zv,Ym];omega) (ZJ _))));show wpAny (model prog w) A _ P E { s with heap:=((s.heap.update a (Obj.mapSeq fun _=>#[])).push (seqObj "tuple" vs.toArray 0)).push (seqObj "list" #[] 0) };dsimp only
 by_cases h2:vs.length<2
 ·have fin:=h (List.toArray (List.range vs.length)) (.inl ⟨h2,rfl⟩);have eo:(List.toArray ((List.toArray (List.range vs.length)).toList.map fun i=>vs.getD i Value.none))=(vs.toArray.zip vs.toArray).map (·.2):=by
   have e:=kas_range (vs.toArray.zip vs.toArray);rw [show (vs.toArray.zip vs.toArray).size=vs.length by simp] at e;exact (kat_snds (ks:=vs) (vs:=vs) (st:=SortSt.mk' general' (vs.toArray.zip vs.toArray) #[] 7 none) rfl e.symm).symm
  rw [eo] at fin;rw [Zz (by rw [hsz];exact h2),Zz (by rw [hsz];exact h2)];refine Q6 (Q8 ?_);rw [StateT.run_pure];refine Q6 (Q8 ?_);dsimp only;refine Q6 (seqEpoch_at ho2 rfl (Q6 (listUpdate_at ho2 rfl ?_ (ZJ _) (by rw [Array.size_map,Array.size_zip,hsz,Nat.min_self,Ym];omega))));simp only [bne_self_eq_false,Yx,JV];exact Q8 fin
 ·have h2':2<=vs.length:=by omega
  rw [Zy (by rw [hsz];exact h2),Zy (by rw [hsz];exact h2)];obtain ⟨k1,k2⟩:=hk h2' { s with heap:=((s.heap.update a (Obj.mapSeq fun _=>(#[]:Array Value))).push (seqObj "tuple" vs.toArray 0)).push (seqObj "list" #[] 0) } keep;refine Q6 (k1 _ _ ?_);have asked:(kas_sort vs.length).kasWp (kas_ask prog w A κ vs) (fun p s'=>p=run lt (kas_sort vs.length)/\s'={ s with heap:=((s.heap.update a (Obj.mapSeq fun _=>(#[]:Array Value))).push (seqObj "tuple" vs.toArray 0)).push (seqObj "list" #[] 0) })
    { s with heap:=((s.heap.update a (Obj.mapSeq fun _=>(#[]:Array Value))).push (seqObj "tuple" vs.toArray 0)).push (seqObj "list" #[] 0) }:=(sort_asks (by omega)).wp k2 ⟨rfl,rfl⟩
  refine Q6 (Yn (kat_run (Q:=fun st' s'=>arrOf st'=(run lt (kas_sort vs.length)).map (kas_item (vs.toArray.zip vs.toArray))/\failedOf st'=none/\(run lt (kas_sort vs.length)).size=vs.length/\s'={ s with heap:=((s.heap.update a (Obj.mapSeq fun _=>(#[]:Array Value))).push (seqObj "tuple" vs.toArray 0)).push (seqObj "list" #[] 0) })
   rfl h2' h64 (fun p' st' s' a1 a2 a3 a4=>by obtain ⟨rfl,rfl⟩:=a4;exact ⟨a2,a3,a1,rfl⟩) asked) ?_ fun _ _ e=>e)
  rintro ⟨⟨⟩,st'⟩ s' ⟨har,hf,hp,rfl⟩;dsimp only;have hout:=kat_snds rfl har;rw [hout];refine Q6 (seqEpoch_at ho2 rfl (Q6 (listUpdate_at ho2 rfl ?_ (ZJ _) (by rw [Zv,Q5,ZE,hp,Ym];omega))));rw [hf];simp only [bne_self_eq_false,Yx,JV];exact Q8 (h _ (.inr ⟨h2',rfl⟩))
def IU (T:String):PyData->Prop
 | .tuple (.int _::_)=>T="int"
 | .tuple (.str _::_)=>T="str"
 | .tuple (.tuple _::_)=>T="tuple"
 | _=>False
def KeepAt (h h':Heap)(d:PyData):Prop:=∀ (v:Value) (as:List Addr),d.canLay0=true->Reads h v d as->Reads h' v d as
def KeepsAt (h h':Heap)(ds:List PyData):Prop:=∀ (vs:List Value) (as:List Addr),PyData.canLayAll0 ds=true->ReadsAll h vs ds as->ReadsAll h' vs ds as
mutual
theorem reads_keep {h h':Heap}(k:∀ b o,h.get? b=some o->h'.get? b=some o):∀ d:PyData,KeepAt h h' d
 | .none=>fun v as _ r=>by cases r;exact .none
 | .bool _=>fun v as _ r=>by cases r;exact .bool _
 | .int _=>fun v as _ r=>by cases r;exact .int _ _
 | .str _=>fun v as _ r=>by cases r;exact .str _ _
 | .list xs=>fun v as l r=>by
  have ih:=xQ k xs;cases r with
  | list h1 h2 h3 h4=>exact .list (k _ _ h1) h2 h3 (ih _ _ l h4)
 | .tuple xs=>fun v as l r=>by
  have ih:=xQ k xs;cases r with
  | tuple h1 h2 h3 h4=>exact .tuple (k _ _ h1) h2 h3 (ih _ _ l h4)
 | .dict kvs=>fun v as l r=>nomatch l
theorem xQ {h h':Heap}(k:∀ b o,h.get? b=some o->h'.get? b=some o):∀ ds:List PyData,KeepsAt h h' ds
 | []=>fun vs as _ r=>by cases r;exact .nil
 | d::ds=>fun vs as l r=>by
  have i1:=reads_keep k d;have i2:=xQ k ds;have l:d.canLay0=true/\PyData.canLayAll0 ds=true:=by simpa [PyData.canLayAll0] using l
  cases r with
  | cons h1 h2=>exact .cons (i1 _ _ l.1 h1) (i2 _ _ l.2 h2)
end
theorem GS {h:Heap}{T:String}:∀ {ds:List PyData} {us:List Value} {as:List Addr},ReadsAll h us ds as->(∀ d∈ds,IU T d)->∃ fs:List Value,fs.length=ds.length/\KatTups h us fs/\∀ v∈fs,(T="int"/\∃ i t,v=.int i t)\/(T="str"/\∃ i t,v=.str i t)\/(T="tuple"/\∃ a o,v=.ref a/\h.get? a=some o/\o.cls=.type "tuple")
 | [],_,_,r,_=>by
  cases r;exact ⟨[],rfl,KatTups.nil,fun v hv=>(nomatch hv)⟩
 | d::ds,_,_,r,hf=>by
  cases r with
  | cons r1 r2 =>
   obtain ⟨fs,e1,e2,e3⟩:=GS r2 fun x hx=>hf x (Zb _ hx);have hd:=hf d (Zc ..);unfold IU at hd
   split at hd
   all_goals first
    | exact hd.elim
    | (cases r1 with
     | tuple h1 h2 h3 h4 =>
      rename_i vsx nx;cases q:vsx.toList with
      | nil=>rw [q] at h4;cases h4
      | cons v0 vr =>
       rw [q] at h4;have q0:vsx[0]?=some v0:=by rw [←Yh,q];rfl
       cases h4 with
       | cons g1 g2 =>
        refine ⟨v0::fs,by rw [Zn,Zn,e1],KatTups.cons h1 h2 h3 q0 e2,fun v hv=>?_⟩
        rcases Zi.mp hv with rfl|hv
        ·cases g1
         first
          | exact .inl ⟨hd,_,_,rfl⟩
          | exact .inr (.inl ⟨hd,_,_,rfl⟩)
          | (rename_i k1 k2 k3 k4;exact .inr (.inr ⟨hd,_,_,rfl,k1,k2⟩))
        ·exact e3 v hv)
theorem kind_ok {T:String}{ds:List PyData}{us:List Value}{as:List Addr}(r:ReadsAll s.heap us ds as)(hf:∀ d∈ds,IU T d)(hn:0<ds.length){Q:SortKind->Shared->Prop}(q:Q (tuples' (Value.type T !=Value.type "tuple")) s) :
  wpAny (model prog w) A (keyKind' us.toArray) Q E s:=by
 obtain ⟨fs,e1,e2,e3⟩:=GS r hf;refine kat_kind e2 (by omega) (T:=.type T) (fun v hv=>?_) (by simp) q
 rcases e3 v hv with ⟨rfl,i,t,rfl⟩|⟨rfl,i,t,rfl⟩|⟨rfl,a,o,rfl,ho,hc⟩
 ·exact .now
 ·exact .now
 ·rw [←hc];exact (Looks.ld ho).andThen .now
def Plain2 (x y:PyData):Prop:=(∃ i j,x=.int i/\y=.int j)\/(∃ i j,x=.str i/\y=.str j)
theorem lex_ok {b:Bool}{Q:Bool->Shared->Prop}{r:Bool}(q:Q r s)(xs:List PyData):∀ (ys:List PyData) (vs us:List Value) (as bs:List Addr) (i k:Nat),ReadsAll s.heap vs xs as->ReadsAll s.heap us ys bs->PyData.canLayAll0 xs=true->PyData.canLayAll0 ys=true->A.units+min (PyData.depthAll xs) (PyData.depthAll ys)<cLine ->
  LtL xs ys r->(b=true->i=0->∀ x xs' y ys',xs=x::xs'->ys=y::ys'->Plain2 x y)->KatLex prog w A b (decide (k+vs.length<k+us.length)) Q (vs.zip us) i s:=by
 induction xs with
 | nil =>
  intro ys vs us as bs i k rx ry _ _ _ h _;cases rx;have e:us.length=ys.length:=SeqAt.ReadsAll.length _ _ _ ry;rw [List.zip_nil_left];show Q (decide (k+0<k+us.length)) s;rw [show decide (k+0<k+us.length)=r by rw [show r=_ from h,e];exact Vu.mpr (by omega)];exact q
 | cons x xs ih =>
  intro ys vs us as bs i k rx ry hx hy hu h hb;cases ys with
  | nil =>
   cases ry;cases rx with
   | @cons v vs _ _ _ _ p1 p2 =>
    rw [List.zip_nil_right];show Q (decide (k+(vs.length+1)<k+0)) s;rw [show decide (k+(vs.length+1)<k+0)=r by rw [show r=_ from h];exact Zo (by omega)];exact q
  | cons y ys =>
   have hx':x.canLay0=true/\PyData.canLayAll0 xs=true:=by simpa [PyData.canLayAll0] using hx
   have hy':y.canLay0=true/\PyData.canLayAll0 ys=true:=by simpa [PyData.canLayAll0] using hy
   have hu1:A.units+min x.depth y.depth<cLine:=SeqAt.room_head hu;have hu2:A.units+min (PyData.depthAll xs) (PyData.depthAll ys)<cLine:=SeqAt.room_tail hu;cases rx with
   | @cons v vs _ _ _ _ p1 p2 =>
    cases ry with
    | @cons u us _ _ _ _ q1 q2 =>
     rw [List.zip_cons_cons];refine kat_cons ?_;have h:(PyData.eqv x y=true/\LtL xs ys r)\/(PyData.eqv x y=false/\Lt1 x y r):=h
     rcases h with ⟨e,h⟩|⟨e,h⟩
     ·refine SeqAt.eqBoolOverData prog w A _ s _ _ _ _ _ _ _ p1 q1 hx'.1 hy'.1 hu1 ?_;rw [e];refine kat_yes ?_;have ih:=ih ys vs us _ _ (i+1) (k+1) p2 q2 hx'.2 hy'.2 hu2 h (fun _ z=>by omega);rw [Zn,Zn,show k+(vs.length+1)=k+1+vs.length by omega,show k+(us.length+1)=k+1+us.length by omega];exact ih
     ·refine SeqAt.eqBoolOverData prog w A _ s _ _ _ _ _ _ _ p1 q1 hx'.1 hy'.1 hu1 ?_;rw [e];refine kat_no ?_;cases c:(b&&i==0) with
      | true =>
       have c':b=true/\i=0:=by simpa using c
       rcases hb c'.1 c'.2 x xs y ys rfl rfl with ⟨i1,j1,rfl,rfl⟩|⟨i1,j1,rfl,rfl⟩
       ·cases p1;cases q1;refine kat_lt_int ?_;rw [←(show r=_ from h)];exact q
       ·cases p1;cases q1;refine kas_lt_str ?_;rw [←(show r=_ from h)];exact q
      | false=>exact kat_one _ _ (lt1_ok x y r A s _ _ _ _ p1 q1 hx'.1 hy'.1 hu1 h _ _ q)
theorem key_lt_ok {T:String}{d e:PyData}{u v:Value}{as bs:List Addr}{r:Bool}{C:Bool->Shared->Prop}(ru:Reads s.heap u d as)(rv:Reads s.heap v e bs)(fd:IU T d)(fe:IU T e)(ld:d.canLay0=true)(le:e.canLay0=true)(hu:A.units+min d.depth e.depth<cLine)(h:Lt1 d e r)(c:C r s) :
  wpAny (model prog w) A (keyLt' (tuples' (Value.type T !=Value.type "tuple")) u v) C (fun _ _=>False) s:=by
 cases d with
 | tuple xs =>
  cases e with
  | tuple ys =>
   cases ru with
   | tuple h1 h2 h3 h4 =>
    cases rv with
    | tuple k1 k2 k3 k4 =>
     refine kat_lt h1 h3 k1 k3 ?_;have:=lex_ok (prog:=prog) (w:=w) (A:=A) (b:=(Value.type T !=Value.type "tuple")) c xs ys _ _ _ _ 0 0 h4 k4 ld le (by
      have e1:(PyData.tuple xs).depth=PyData.depthAll xs+1:=rfl;have e2:(PyData.tuple ys).depth=PyData.depthAll ys+1:=rfl;rw [e1,e2] at hu;omega) h (fun hb _ x xs' y ys' ex ey=>by
      subst ex ey;unfold IU at fd fe
      split at fd
      ·rename_i e;cases e
       split at fe
       ·rename_i e;cases e;exact .inl ⟨_,_,rfl,rfl⟩
       ·rw [fd] at fe;exact absurd fe (by decide)
       ·rw [fd] at fe;exact absurd fe (by decide)
       ·exact fe.elim
      ·rename_i e;cases e
       split at fe
       ·rw [fd] at fe;exact absurd fe (by decide)
       ·rename_i e;cases e;exact .inr ⟨_,_,rfl,rfl⟩
       ·rw [fd] at fe;exact absurd fe (by decide)
       ·exact fe.elim
      ·subst fd;simp at hb
      ·exact fd.elim)
     simpa using this
  | _=>exact fe.elim
 | _=>exact fd.elim
end
section
variable {X:Cx}{K:ZZF}
theorem GP:∀ {vs:List V} {us:List Value},Vals vs us->∀ (p:List Nat),(∀ i∈p,i<vs.length)->Vals (p.map fun i=>vs.getD i .non) (p.map fun i=>us.getD i Value.none)
 | vs,us,r,[],_=>.nil
 | vs,us,r,i::p,h=>by
  refine .cons ?_ (GP r p fun j hj=>h j (Zb _ hj));have hi:=h i (Zc ..);have go:∀ {vs:List V} {us:List Value} (i:Nat),Vals vs us->i<vs.length->RelV (vs.getD i .non) (us.getD i Value.none):=fun {vs us} i r hi=>by
   induction i generalizing vs us with
   | zero =>
    cases r with
    | nil=>exact absurd hi (Ub _)
    | cons a b=>exact a
   | succ i ih =>
    cases r with
    | nil=>exact absurd hi (Ub _)
    | cons a b=>exact ih b (by simpa using hi)
  exact go i r hi
theorem dt_pick {H:Hp}{ds:List PyData}{vs:List V}(h:DtAll K H ds vs):∀ (p:List Nat),(∀ i∈p,i<vs.length)->DtAll K H (p.map fun i=>ds.getD i .none) (p.map fun i=>vs.getD i .non)
 | [],_=>rfl
 | i::p,hp=>by
  have hi:=hp i (Zc ..);obtain ⟨d,e1,e2⟩:=h.get (Zj hi);refine ⟨vs.getD i .non,_,rfl,?_,dt_pick h p fun j hj=>hp j (Zb _ hj)⟩;show Dt K H (ds.getD i .none) (vs.getD i .non);rw [Z9,Z9,e1,Zj hi];exact e2
theorem U5 {h:Heap}:∀ {ds:List PyData} {us:List Value} {as:List Addr} (i:Nat),ReadsAll h us ds as->i<ds.length->∃ bs,Reads h (us.getD i Value.none) (ds.getD i .none) bs
 | [],_,_,i,_,hi=>absurd hi (Ub _)
 | d::ds,_,_,0,r,_=>by
  cases r with
  | cons r1 r2=>exact ⟨_,r1⟩
 | d::ds,_,_,i+1,r,hi=>by
  cases r with
  | cons r1 r2=>exact U5 i r2 (by simpa using hi)
theorem pick_all {β:Type}{l:List β}{z:β}:(List.range l.length).map (fun i=>l.getD i z)=l:=by
 apply List.ext_getElem?
 intro i;rw [Zl]
 rcases Nat.lt_or_ge i l.length with q|q
 ·rw [List.getElem?_range q,Zj q];simp [Z9,Zj q]
 ·rw [Yc (by rw [YD];exact q),Yc q];rfl
end
end L2
namespace AxS
open PySem PySem.Spec PyProof.Rows
end AxS
namespace AxS
open PySem PySem.Spec PyProof.Rows
section
variable {prog:Program}{w:World}{A:Around}{E:Value->Shared->Prop}{s:Shared}
theorem step_mem {ks:List Str}{k x:Str}:x∈step ks k↔x∈ks\/x=k:=by
 unfold step
 split
 ·rename_i h;exact ⟨.inl,fun z=>z.elim id fun e=>by rw [e];exact h⟩
 ·rw [Zs,Q7]
end
end AxS
namespace AxS
open PySem PySem.Spec PyProof.Rows
end AxS
namespace AxS
open PySem PySem.Spec PyProof.Rows
section
variable {prog:Program}{w:World}{A:Around}{E:Value->Shared->Prop}{s:Shared}
theorem tx_type {h:Heap}{a:Addr}{ks:List Str}{s:Shared}(x:TxSet prog w s.heap a ks):s.TypeIs (.ref a) "set":=by
 obtain ⟨o,es,ep,t,ho,hx,_⟩:=x;exact ⟨o,ho,hx.1⟩
theorem any_set {a:Addr}{Q:Bool->Shared->Prop}(hT:s.TypeIs (.ref a) "set")(h:Q true s):wpAny (model prog w) A (Builtin.Frozenset.isAnySet (.ref a)) Q E s:=by
 unfold Builtin.Frozenset.isAnySet;show wpAny _ _ (isInstance (.ref a) (.type "set")>>=_) _ _ _;refine Q6 (Y1 hT sub_set_self ?_);exact Q8 h
end
end AxS
namespace L2
open PySem PySem.Spec PyProof.Rows AxS
end L2
namespace L2
open PySem PySem.Spec PyProof.Rows AxS
section
variable {X:Cx}{pins:List (Addr×Obj)}{σ:St}{H:Hp}{s:Shared}{d:Addr}{kvs:List (Key×V)}
theorem Xr (I:Inv X pins σ H s)(e:Rd H d (.dK kvs)):∃ vs ep,KV kvs vs/\s.heap.DictAt (mixKind X.prog X.w) d vs ep/\(d==sysModules)=false/\kvs.length<=sizeLine:=by
 obtain ⟨z,hd,vs,rel,o,es,ep,ho,hx,hdat,hk,hp,hnd⟩:=vK I.hok e;exact ⟨vs,ep,rel,⟨o,es,ho,hx,hdat,hk,hp,hnd⟩,hd,z⟩
theorem Gc {α β:Type}{F G:α->β->Prop}(h:∀ a b,F a b->G a b):∀ {l:List α} {m:List β},Paired F l m->Paired G l m
 | _,_,.nil=>.nil
 | _,_,.cons r t=>.cons (h _ _ r) (Gc h t)
theorem ObjOk.thaw {P:Program}{w:World}{h:Heap}{b:Addr}{u:HO}{ob:Obj}{x:HO}(hd:H d=some (.frz ob x)){y:HO}(ok:ObjOk P w H h b u):ObjOk P w (upd H d y) h b u:=by
 have keep:∀ {c:Addr} {z:HO},H c=some z->(∀ o v,z≠.frz o v)->upd H d y c=some z:=fun {c z} e n=>by
  rw [zH fun q=>by rw [q,hd] at e;exact n _ _ (Option.some.inj e).symm];exact e
 induction u generalizing b with
 | lst xs=>exact ok
 | tup xs=>exact ok
 | dK kvs=>exact ok
 | dT kvs =>
  obtain ⟨h1,h2,xs,hp,h3⟩:=ok;exact ⟨h1,h2,xs,Gc (fun p q r=>⟨r.1,keep r.2.1 (fun o v z=>(nomatch z)),r.2.2⟩) hp,h3⟩
 | set S n=>exact ok
 | ins C dx fs=>exact ⟨keep ok.1 (fun o v z=>(nomatch z)),ok.2⟩
 | own x=>exact ok
 | xd fs=>exact ok
 | rng lo hi=>exact ok
 | frz o u ih=>exact ⟨ok.1,ih ok.2⟩
 | tbl ps=>exact ok
 | met f x=>exact ok
 | ext φ=>exact ok
theorem Inv.thaw {ob:Obj}(I:Inv X pins σ H s)(hd:H d=some (.frz ob (.dK kvs)))(n0:∀ o u,X.H₀ d≠some (.frz o u)):Inv X pins σ (upd H d (.dK kvs)) s:=by
 have ne:∀ {b:Addr},H b=none->b≠d:=fun {b} e z=>by rw [z,hd] at e;cases e
 have nt:∀ {b:Addr} {z:HO},H b=some z->(∀ o v,z≠.frz o v)->b≠d:=fun {b z} e n q=>by rw [q,hd] at e;exact n _ _ (Option.some.inj e).symm
 refine ⟨I.ok,I.os,I.bare,⟨I.base.keep,I.base.slot,fun b o h1 h2 h3=>?_,I.base.there,fun b xs h1=>?_,fun b o u h1=>?_,fun b ps h1=>?_⟩,I.loc,I.cell,?_,fun x c h1=>?_,fun p hp=>?_,fun b u h1=>?_,I.len⟩
 ·have:=I.base.free b o h1 h2 h3;rw [zH (ne this)];exact this
 ·have:=I.base.tups b xs h1;rw [zH (nt this fun o v z=>(nomatch z))];exact this
 ·have:=I.base.frzs b o u h1;rw [zH fun z=>n0 o u (by rw [←z];exact h1)];exact this
 ·obtain ⟨more,this⟩:=I.base.tbls b ps h1;exact ⟨more,by rw [zH (nt this fun o v z=>(nomatch z))];exact this⟩
 ·rw [zH (ne I.free)];exact I.free
 ·have:=I.freeC x c h1;rw [zH (ne this)];exact this
 ·obtain ⟨a1,a2,a3⟩:=I.pin p hp;exact ⟨a1,by rw [zH (ne a2)];exact a2,a3⟩
 ·by_cases z:b=d
  ·rw [z,zB] at h1;cases h1;rw [z];exact (I.hok d _ hd).2
  ·rw [zH z] at h1;exact (I.hok b u h1).thaw hd
end
section
variable {X:Cx}{tg:Expr}
def tThaw (H₀:Hp)(t:TE):TE:=fun σ H Q=>t σ H fun v H1=>∃ d ob kvs,H1 d=some (.frz ob (.dK kvs))/\(∀ o u,H₀ d≠some (.frz o u))/\Q v (upd H1 d (.dK kvs))
theorem pe_thaw {e:Expr}{t:TE}(h:PE X e t):PE X e (tThaw X.H₀ t):=by
 intro pins s σ H Q I q;refine thn (h pins s σ H _ I q) fun v s1 ⟨x,H1,I1,r,d,ob,kvs,hd,n0,q⟩=>?_;exact ⟨x,_,I1.thaw hd n0,r,q⟩
def rListR:List V->Hp->VK->Prop:=fun xs H Q=>∃ a kvs,xs=[.ref a]/\Rd H a (.dK kvs)/\∀ l,H l=none->Q (.ref l) (upd H l (.lst (kvs.map fun kv=>kV kv.1)))
theorem xT (hc:X.calm=true):CallR X (.type "list") rListR:=by
 intro pins s σ H xs us Q I r h;obtain ⟨a,kvs,rfl,ha,q⟩:=h;obtain ⟨u,rfl,ru⟩:=vals1 r;cases ru;obtain ⟨vs,ep,rel,da,hS,hz⟩:=Xr I ha;have hlen:kvs.length=vs.length:=Paired.length rel;refine PySem.W.kdl_call (V0 (knd:=mixKind X.prog X.w) (kvs:=vs) (ep:=ep) hS) (I.ok.hd hc) da (by omega) fun h' tk acc c hkp hl hacc=>?_;have rv:Vals (kvs.map fun kv=>kV kv.1) acc.toList:=GO rel (by rw [ZE];exact hacc.1) fun j v e=>hacc.2 j v (by rw [←Yh];exact e);exact ⟨.ref s.heap.objs.size,_,I.laid (t':=tk) hkp (Ze _) (show ObjOk X.prog X.w _ h' _ (.lst (kvs.map fun kv=>kV kv.1)) from ⟨by rw [Q5];exact hz,acc.toList,c,rv,hl⟩),rfl,q _ (I.hok.fresh (Ze _))⟩
def rDictR:List V->Hp->VK->Prop:=fun xs H Q=>∃ a kvs,xs=[.ref a]/\Rd H a (.dK kvs)/\∀ l,H l=none->Q (.ref l) (upd H l (.dK kvs))
theorem call_dictR:CallR X (.type "dict") rDictR:=by
 intro pins s σ H xs us Q I r h;obtain ⟨a,kvs,rfl,ha,q⟩:=h;obtain ⟨u,rfl,ru⟩:=vals1 r;cases ru;exact d_copyOf I ha fun p s' hp I'=>⟨.ref p,_,I',rfl,q p hp⟩
def Gk (kv:Key×V):Str:=match kv.1 with
 | .inr x=>x
 | .inl _=>""
def AllS (kvs:List (Key×V)):Prop:=∀ kv∈kvs,kv.1=.inr (Gk kv)
theorem keys_texts {P:Program}{w:World}{kvs:List (Key×V)}{vs:List (Key×Value)}{us:List Value}(al:AllS kvs)(rel:KV kvs vs)(hl:us.length=vs.length)(hm:∀ (j:Nat) (v:Value),us[j]?=some v->∃ k x,vs[j]?=some (k,x)/\(mixKind P w).is k v=true):xS us (kvs.map Gk):=by
 have hlen:kvs.length=vs.length:=Paired.length rel;refine ⟨by rw [Q5];omega,fun i v e=>?_⟩;obtain ⟨k,x,e1,hk⟩:=hm i v e;obtain ⟨p,ep,ekk,_⟩:=jD rel e1;have ekk:p.1=k:=ekk;have ap:=al p (Zk ep);rw [←ekk,ap] at hk;obtain ⟨t,et⟩:=YB (show Value.isStrOf (Gk p) v=true from hk);exact ⟨Gk p,t,by rw [Zl,ep];rfl,et⟩
def rSortedR:List V->Hp->VK->Prop:=fun xs H Q=>∃ a kvs,xs=[.ref a]/\Rd H a (.dK kvs)/\AllS kvs/\kvs.length<64/\∀ l ss,H l=none->ss.Perm (kvs.map Gk)->sortedS ss=true->Q (.ref l) (upd H l (.lst (ss.map V.str)))
theorem Bh (hc:X.calm=true):CallR X (.builtin "sorted") rSortedR:=by
 intro pins s σ H xs us Q I r h;obtain ⟨a,kvs,rfl,ha,al,h64,q⟩:=h;obtain ⟨u,rfl,ru⟩:=vals1 r;cases ru;obtain ⟨vs,ep,rel,da,hS,hz⟩:=Xr I ha;have hlen:kvs.length=vs.length:=Paired.length rel;refine Calls.call_function_entry kind_sorted plain_sorted entry_sorted (args_sorted1 _) ?_;unfold Builtin.«sorted»;refine Q6 (m:=checkCount "sorted" 1 1 _) (Q8 ?_);refine Q6 (PySem.W.kdu_collect (A:=X.A.in1) (V0 (knd:=mixKind X.prog X.w) (kvs:=vs) (ep:=ep) hS) (I.ok.hd hc) da (by omega) fun h' tk acc0 hkp hacc=>?_);have tx:xS acc0.toList (kvs.map Gk):=keys_texts al rel (by rw [ZE];exact hacc.1) fun j v e=>hacc.2 j v (by rw [←Yh];exact e);generalize acc0.toList=acc at tx ⊢;have hstr:=strs_of tx;have hal:acc.length<64:=by rw [tx.1,Q5];exact h64
 have hline:64<=sizeLine:=by rw [Ym];decide
 refine Q6 (VW ?_ (by omega));have hoL:(h'.push (seqObj "list" acc.toArray 0)).get? h'.objs.size=some (seqObj "list" acc.toArray 0):=Zm _ rfl;refine Q6 (Yr (Z6 slot_list_sort ⟨_,hoL,rfl⟩ V9 (list_sort_treeK strKind_oneLt hoL hstr.keysOf (fun v₁ v₂ rest e=>keyKind_strs (by rw [←e];exact hstr)) (by omega) fun st' a1 a2=>⟨_,rfl,?_⟩) (args_list_sort _)));obtain ⟨ss',b1,b2,b3⟩:=sorted_out_str hstr a1 a2;refine Q8 ⟨_,rfl,?_⟩;obtain ⟨e,he⟩:=sortedHeap_at (out:=(arrOf st').map (·.2)) hoL;have nl:=UX b1;have I1:Inv X pins σ H { s with heap:=h',toks:=tk }:=I.kept (t':=tk) hkp;have kp2:∀ b ob,h'.get? b=some ob->(sortedHeap (h'.push (seqObj "list" acc.toArray 0)) h'.objs.size acc ((arrOf st').map (·.2))).get? b=some ob:=fun b ob q1=>by
  have hb:b<h'.objs.size:=Zp q1;rw [sortedHeap_old (Zu hb) (by rw [Yo];exact YH hb)];exact Q9 _ q1
 have fr:H h'.objs.size=none:=I1.hok.fresh (Ze _);have hz2:(ss'.map V.str).length<=sizeLine:=by
  have:=b2.length_eq;rw [Q5] at this ⊢;omega
 exact ⟨.ref h'.objs.size,_,I1.laid (o:=.lst (ss'.map V.str)) (t':=tk) kp2 (Ze _) ⟨hz2,_,e,nl,he⟩,rfl,q _ ss' fr b2 b3⟩
def putAll (kvs more:List (Key×V)):List (Key×V):=more.foldl (fun acc kv=>putK acc kv.1 kv.2) kvs
theorem KV.putAll:∀ {more:List (Key×V)} {um:List (Key×Value)} {kvs:List (Key×V)} {vs:List (Key×Value)},KV kvs vs->KV more um->KV (putAll kvs more) (merged vs um)
 | [],_,_,_,r,.nil=>r
 | p::more,q::um,kvs,vs,r,.cons h t=>by
  have e:p.1=q.1:=h.1;have:=KV.putAll (kvs:=putK kvs p.1 p.2) (vs:=stored vs q.1 q.2) (by rw [←e];exact r.put p.1 h.2) t;exact this
theorem qQ:∀ (more kvs:List (Key×V)),(putAll kvs more).length<=kvs.length+more.length
 | [],kvs=>Ze _
 | p::more,kvs=>by
  have:=qQ more (putK kvs p.1 p.2);have:=xX kvs p.1 p.2;show (putAll (putK kvs p.1 p.2) more).length<=_;rw [Zn];omega
def tDUpd (td ty:TE):TE:=fun σ H Q=>td σ H fun x H1=>∃ a,x=.ref a/\IsD H1 a/\ty σ H1 fun y H2=>∃ b kvs more,y=.ref b/\a≠b/\H2 a=some (.dK kvs)/\Rd H2 b (.dK more)/\kvs.length+more.length<=sizeLine/\Q .non (upd H2 a (.dK (putAll kvs more)))
theorem pe_dupd {o e:Expr}{apos cpos:Pos}{td ty:TE}(ho:PE X o td)(he:PE X e ty)(m:M1 X o "update" apos e cpos):PE X (.Call (.Attribute o "update" apos) [e] [] cpos) (tDUpd td ty):=by
 intro pins s σ H Q I h;refine VT m.base m.few m.line J8 PySem.F.slot_dict_update PySem.F.type_dict_update (thn (ho pins s σ H _ I h) fun u s1 ⟨x,H1,I1,rx,a,ex,d,q1⟩=>?_);subst ex;obtain rfl:u=Value.ref a:=rx;obtain ⟨t1,t2,_⟩:=isD_at I1 d;refine ⟨t1,t2,?_⟩;rw [m.trees];refine Calls.callWith_builtin rfl (Calls.evalArgs_plain (Calls.spliced_cons (thn (he pins s1 σ H1 _ I1 q1) fun iv s2 ⟨y,H2,I2,ry,b,kvs,more,ey,ne,ea,eb,hz,q2⟩=>Calls.spliced_nil ?_)));subst ey;cases ry;obtain ⟨z,hd,vs,rel,dd⟩:=dk_of I2.hok ea;obtain ⟨z2,hd2,um,rel2,dd2⟩:=vK I2.hok eb;refine JN PySem.F.slot_dict_update dd.typeIs PySem.F.entry_dict_update (PySem.F.args_dict_update_2 _ _) (meets_dict_update (mixKind X.prog X.w) a b ne hd2)
  ⟨vs,um,dd,dd2,by rw [←rel.length,←rel2.length];exact hz,fun h' dd' _ hs=>⟨.non,_,?_,rfl,q2⟩⟩
 have hex:∃ q,h'.get? a=some q:=let ⟨q,_,_,hq,_⟩:=dd';⟨q,hq⟩;exact XU I2 (by rw [ea];exact True.intro) hs hex (Br (Yb (qQ more kvs) hz) hd (rel.putAll rel2) dd')
end
end L2
namespace An10
end An10
namespace An10
end An10
namespace An12
open PySem L2 An An10
end An12
namespace An10
open PySem L2 An
end An10
namespace An10
open PySem L2 An
end An10
namespace An12
open PySem L2 An An10
end An12
namespace AnJ
section
variable {α:Type}
inductive Pt (α:Type) where
 | same (ls:List α)
 | clash (b m y:List α)
end
end AnJ
namespace AnJ
open An10
end AnJ
namespace AnJ
open AxK
end AnJ
namespace AnJ
open PySem L2 An An10 An12 AxK
def tupS (ls:List Str):PyData:=.tuple (ls.map .str)
theorem eqv_tupS (l m:List Str):PyData.eqv (tupS l) (tupS m)=decide (l=m):=by
 show PyData.eqvAll (l.map .str) (m.map .str)=_;exact xP l m
theorem list_lt:∀ a b:List Nat,decide (a<b)=yJ TO.nat a b
 | [],[]=>by decide
 | [],_::_=>by simp [yJ]
 | _::_,[]=>by simp [yJ]
 | a::as,b::bs=>by
  have ih:=list_lt as bs;unfold yJ;rw [←ih,ZU,Zq,Yt];show _↔(decide (a<b)||(!decide (b<a)&&decide (as<bs)))=true;rw [V6,Zg,Zq,Zq,Vf,Vb];constructor
  ·rintro (h|⟨h,h'⟩)
   ·exact .inl h
   ·exact .inr ⟨by omega,h'⟩
  ·rintro (h|⟨h,h'⟩)
   ·exact .inl h
   ·by_cases z:a<b
    ·exact .inl z
    ·exact .inr ⟨by omega,h'⟩
def strO:TO Str:=TO.by_ (TO.list TO.nat) cs fun a b h=>cs_inj h
theorem strO_lt (a b:Str):strO.lt a b=decide (a.cps.toList<b.cps.toList):=(list_lt _ _).symm
theorem lt_strs:∀ a b:List Str,LtL (a.map .str) (b.map .str) ((TO.list strO).lt a b)
 | [],[]=>by
  show false=decide (0<0);rfl
 | [],_::_=>by
  show true=decide (0<_);simp
 | _::_,[]=>rfl
 | x::a,y::b=>by
  show ((x==y)=true/\LtL (a.map .str) (b.map .str) (yJ strO (x::a) (y::b)))\/((x==y)=false/\yJ strO (x::a) (y::b)=decide (x.cps.toList<y.cps.toList))
  by_cases e:x=y
  ·subst e;refine .inl ⟨by simp,?_⟩;unfold yJ;have:strO.lt x x=false:=strO.refl x;rw [this];exact lt_strs a b
  ·refine .inr ⟨by simpa using e,?_⟩;unfold yJ;rw [←strO_lt];cases q:strO.lt x y with
   | true=>rfl
   | false =>
    cases q':strO.lt y x with
    | true=>rfl
    | false=>exact absurd (strO.ant _ _ q q') e
end AnJ
namespace L2
open PySem PySem.Spec PyProof.Rows PySem.W AxK An
def lays:Hp->List (Addr×List V)->Hp
 | H,[]=>H
 | H,p::r=>lays (upd H p.1 (.tup p.2)) r
theorem kJ:∀ {l:List (Addr×List V)} {H:Hp} {b:Addr},b∉l.map (·.1)->lays H l b=H b
 | [],_,_,_=>rfl
 | p::r,H,b,h=>by
  rw [Zw,Zi,not_or] at h;show lays (upd H p.1 (.tup p.2)) r b=_;rw [kJ h.2,zH h.1]
theorem Bo:∀ {l:List (Addr×List V)} {H:Hp} {p:Addr×List V},(l.map (·.1)).Nodup->p∈l->lays H l p.1=some (.tup p.2)
 | q::r,H,p,nd,h=>by
  rw [Zw,Z8] at nd;show lays (upd H q.1 (.tup q.2)) r p.1=_
  rcases Zi.mp h with rfl|h
  ·rw [kJ nd.1,zB]
  ·exact Bo nd.2 h
theorem lays_some:∀ {l:List (Addr×List V)} {H:Hp} {b:Addr} {o:HO},(l.map (·.1)).Nodup->lays H l b=some o->H b=some o\/∃ xs,(b,xs)∈l/\o=.tup xs:=fun {l H b o} nd h=>by
 by_cases z:b∈l.map (·.1)
 ·obtain ⟨p,hp,rfl⟩:=Za.mp z;rw [Bo nd hp] at h;exact .inr ⟨p.2,hp,(Option.some.inj h).symm⟩
 ·rw [kJ z] at h;exact .inl h
theorem GC {l:List (Addr×List V)}{H:Hp}(f:∀ p∈l,H p.1=none):Same H (lays H l):=fun b o e=>by
 rw [kJ]
 ·exact e
 ·intro z;obtain ⟨p,hp,rfl⟩:=Za.mp z;rw [f p hp] at e;cases e
section
variable {X:Cx}{pins:List (Addr×Obj)}{σ:St}{H:Hp}{s:Shared}{h':Heap}{K:ZZF}
theorem Inv.lays {t':Nat}(I:Inv X pins σ H s){l:List (Addr×List V)}(nd:(l.map (·.1)).Nodup)(k:∀ b u,s.heap.get? b=some u->h'.get? b=some u)(hp:∀ p∈l,s.heap.objs.size<=p.1)(new:∀ p∈l,ObjOk X.prog X.w (lays H l) h' p.1 (.tup p.2)) :
  Inv X pins σ (lays H l) { s with heap:=h',toks:=t' }:=by
 have fr:∀ p∈l,H p.1=none:=fun p m=>I.hok.fresh (hp p m);have sm:=GC fr;have nx:∀ b u,s.heap.get? b=some u->b∉l.map (·.1):=fun b u q z=>by
  obtain ⟨p,m,rfl⟩:=Za.mp z;exact absurd (Zp q) (Nat.not_lt.mpr (hp p m))
 refine I.un ⟨fun b u q _ _ _=>k b u q,fun b u q _ _ _=>⟨u.slots,k b u q⟩,fun b u q n _=>by rw [kJ (nx b u q)];exact n,fun b u q _=>⟨u,k b u q⟩,fun b xs q=>sm _ _ q,fun b u xs q=>sm _ _ q,fun b ps q=>⟨#[],by rw [sm _ _ q];simp⟩⟩ fun b u e=>?_
 rcases lays_some nd e with z|⟨xs,m,rfl⟩
 ·exact (I.hok b u z).stay (fun c v _ q=>k c v q) (fun c q=>sm _ _ q) fun c xs q=>sm _ _ q
 ·exact new _ m
theorem Ig:∀ {ps:List (Str×Str)},(∀ p∈ps,PyData.strOk p.1=true/\PyData.strOk p.2=true)->PyData.canLayAll0 (ps.map An.rowDat)=true
 | [],_=>rfl
 | p::ps,h=>by
  obtain ⟨h1,h2⟩:=h p (Zc ..);show (((PyData.strOk p.1)&&((PyData.strOk p.2)&&true))&&PyData.canLayAll0 (ps.map An.rowDat))=true;rw [h1,h2,Ig fun q hq=>h q (Zb _ hq)];rfl
def Gf:PyData->List Str
 | .tuple xs=>xs.map fun d=>match d with
  | .str x=>x
  | _=>""
 | _=>[]
theorem X3 {ps:List (Str×Str)}{i:Nat}(h:i<ps.length):(ps.map An.rowDat).getD i .none=An.rowDat (ps.getD i ("","")):=by
 rw [Z9,Z9,Zl,Zj h];rfl
theorem row_le {a b:Str×Str}(h:(TO.list AnJ.strO).le (Gf (An.rowDat a)) (Gf (An.rowDat b))):cs a.1<=cs b.1:=by
 have h:yJ AnJ.strO [b.1,b.2] [a.1,a.2]=false:=h;have h:(AnJ.strO.lt b.1 a.1||(!AnJ.strO.lt a.1 b.1&&yJ AnJ.strO [b.2] [a.2]))=false:=h;rw [YU,AnJ.strO_lt,Vb] at h;exact JF.mp h.1
def tSortI (K:ZZF)(td:TE):TE:=fun σ H Q=>td σ H fun v H1=>∃ (d:Addr) (ps:List (Str×Str)),v=.ref d/\Rd H1 d (.dK (ps.map fun p=>((.inr p.1:Key),V.str p.2)))/\ps.length<64/\(∀ p∈ps,PyData.strOk p.1=true/\PyData.strOk p.2=true) /\
 ∀ (l:Addr) (ss:List (Str×Str)) (ts:List V) (H2:Hp),ss.Perm ps->(ss.Pairwise fun a b=>cs a.1<=cs b.1)->Same H1 H2->H1 l=none->H2 l=some (.lst ts)->DtAll K H2 (ss.map An.rowDat) ts->Q (.ref l) H2
theorem pe_sortI {o:Expr}{td:TE}{x:Str}{p apos cpos pos:Pos}(hc:X.calm=true)(hu:X.A.units+64<cLine)(hg:Gl X x)(hm:X.mg x=none)(hv:bootBuiltins x=some (.builtin "sorted"))(ho:PE X o td)
  (hbase:attributeBase o "items" X.env (eval o X.env)=eval o X.env:=by rfl) (hline:(apos.endLine==cpos.line)=true:=by rfl) (hn:x≠"__name__":=by decide) (hdb:(x==("__debug__":Str))=false:=by decide)
  (he:starEach [.Call (.Attribute o "items" apos) [] [] cpos] X.env=(false,eval (.Call (.Attribute o "items" apos) [] [] cpos) X.env)::starEach [] X.env:=by rfl) (hpl:(backTo pos (starEach [] X.env)).any (·.1)=false:=by rfl) (hK:X.K=K:=by rfl) :
  PE X (.Call (.Name x p) [.Call (.Attribute o "items" apos) [] [] cpos] [] pos) (tSortI K td):=by
 subst hK;intro pins s σ H Q I h;refine Y4 (U8 I hg hm hv ?_ hn hdb);refine Vq ?_ he hpl;rw [he];show wpAny _ _ (spliced ((false,eval (.Call (.Attribute o "items" apos) [] [] cpos) X.env)::backTo pos (starEach [] X.env))) _ _ s;refine Calls.spliced_cons ?_;refine wpAny_Call_method0_late hbase hline (thn (ho pins s σ H _ I h) fun v s1 ⟨x,H1,I1,r,d,ps,ex,hd,h64,hok,q⟩=>?_);subst ex;cases r;obtain ⟨vs,ep,rel,da,hS,hzz⟩:=Xr I1 hd;have dO:=da.dictOf;obtain ⟨ob',es',h1,h2,h3⟩:=id da;refine ⟨"dict","dict.items",F.plainAttrs_dict,F.slot_dict_items,F.type_dict_items,dO.typeIs,fun b q=>by cases q;exact ⟨ob',h1,h2.2.1⟩,Calls.callWith_builtin rfl (PySem.evalArgs_none ?_)⟩;refine JN F.slot_dict_items dO.typeIs F.entry_dict_items (F.args_dict_items_1 _) (meets_dict_items (mixKind X.prog X.w) d hS) ⟨⟨vs,dO⟩,?_⟩;refine Calls.spliced_nil ?_;have I2:Inv X pins σ H1 { s1 with heap:=s1.heap.push { cls:=.type "dict_items",data:=.fields #[.ref d] } }:=I1.kept (t':=s1.toks) fun b o e=>Q9 _ e;have da2:(s1.heap.push { cls:=.type "dict_items",data:=.fields #[.ref d] }).DictAt (mixKind X.prog X.w) d vs ep:=da.at' fun o e=>Q9 _ e;have hvw:(s1.heap.push { cls:=.type "dict_items",data:=.fields #[.ref d] }).IsItemsView s1.heap.objs.size d:=⟨_,Zm _ rfl,rfl,rfl⟩;have hlen:(ps.map fun p=>((.inr p.1:Key),V.str p.2)).length=vs.length:=Paired.length rel;rw [Q5] at hlen;have hline:64<=sizeLine:=by rw [Ym];decide
 refine Calls.call_function_entry kind_sorted plain_sorted entry_sorted (args_sorted1 _) ?_;unfold Builtin.«sorted»;refine Q6 (m:=checkCount "sorted" 1 1 _) (Q8 ?_);refine Q6 (kdx_collect (A:=X.A.in1) (knd:=mixKind X.prog X.w) (I.ok.hd hc) hvw da2 (by omega) fun h' tk as hkp hl hG=>?_);have hkp0:∀ b o,(s1.heap.push { cls:=.type "dict_items",data:=.fields #[.ref d] }).get? b=some o->h'.get? b=some o:=hkp;generalize s1.heap.push { cls:=.type "dict_items",data:=.fields #[.ref d] }=h0 at I2 hG hkp0;clear da2 hvw hkp;have ln:as.length=ps.length:=by rw [hl,←hlen]
 have nda:as.Nodup:=ZH.mpr (hG.rise.imp fun {a b} z=>Zu z);have z1:((as.zip ps).map fun (q:Addr×(Str×Str))=>(q.1,[V.str q.2.1,V.str q.2.2])).map (·.1)=as:=by
  rw [Zt];exact Vw (by omega)
 have I3:Inv X pins σ (lays H1 ((as.zip ps).map fun (q:Addr×(Str×Str))=>(q.1,[V.str q.2.1,V.str q.2.2]))) { s1 with heap:=h',toks:=tk }:=by
  refine Inv.lays (s:={ s1 with heap:=h0 }) I2 (by rw [z1];exact nda) hkp0 (fun p hp=>?_) (fun p hp=>?_)
  ·obtain ⟨c,hc',rfl⟩:=Za.mp hp;exact YF (hG.above _ (J2 hc').1)
  ·obtain ⟨c,hc',rfl⟩:=Za.mp hp;obtain ⟨j,hj⟩:=YR.mp hc';rw [Y8] at hj;obtain ⟨key,k,x,e1,hk,e2⟩:=hG.pairs j _ hj.1;obtain ⟨p,ep',ekk,rx⟩:=jD rel e1;rw [Zl,hj.2] at ep';have ep':=(Option.some.inj ep').symm;subst ep';have ekk:(Sum.inr c.2.1:Key)=k:=ekk;rw [←ekk] at hk;obtain ⟨t,et⟩:=YB (show Value.isStrOf c.2.1 key=true from hk);exact ⟨by show 2<=_;omega,[key,x],.cons ⟨t,et⟩ (.cons rx .nil),_,e2,rfl,0,rfl,rfl⟩
 have sm:Same H1 (lays H1 ((as.zip ps).map fun (q:Addr×(Str×Str))=>(q.1,[V.str q.2.1,V.str q.2.2]))):=GC fun p hp=>by
  obtain ⟨c,hc',rfl⟩:=Za.mp hp;exact I2.hok.fresh (YF (hG.above _ (J2 hc').1))
 have hds:DtAll X.K (lays H1 ((as.zip ps).map fun (q:Addr×(Str×Str))=>(q.1,[V.str q.2.1,V.str q.2.2]))) (ps.map An.rowDat) (as.map V.ref):=by
  have at_:∀ (j:Nat) (a:Addr) (p:Str×Str),as[j]?=some a->ps[j]?=some p->lays H1 ((as.zip ps).map fun (q:Addr×(Str×Str))=>(q.1,[V.str q.2.1,V.str q.2.2])) a=some (.tup [V.str p.1,V.str p.2]):=fun j a p ha hp =>
   Bo (p:=(a,[V.str p.1,V.str p.2])) (by rw [z1];exact nda) (Za.mpr ⟨(a,p),Zk (i:=j) (Y8.mpr ⟨ha,hp⟩),rfl⟩)
  generalize lays H1 ((as.zip ps).map fun (q:Addr×(Str×Str))=>(q.1,[V.str q.2.1,V.str q.2.2]))=Hs at at_;clear I3 sm z1 nda hG hl hok q hd rel h64 hlen hzz
  induction as generalizing ps with
  | nil =>
   cases ps with
   | nil=>rfl
   | cons p ps=>cases ln
  | cons a as ih =>
   cases ps with
   | nil=>cases ln
   | cons p ps =>
    have h0:=at_ 0 a p rfl rfl;exact ⟨.ref a,as.map V.ref,rfl,⟨a,[V.str p.1,V.str p.2],rfl,SqT.of h0,_,_,rfl,rfl,_,_,rfl,rfl,rfl⟩,ih ps (by simpa using ln) fun j b q' hb hq'=>at_ (j+1) b q' hb hq'⟩
 generalize lays H1 ((as.zip ps).map fun (q:Addr×(Str×Str))=>(q.1,[V.str q.2.1,V.str q.2.2]))=Hs at I3 sm hds;have rv:Vals (as.map V.ref) (as.map Value.ref):=by
  clear hG hl nda ln z1 hds I3
  induction as with
  | nil=>exact .nil
  | cons a as ih=>exact .cons rfl ih
 obtain ⟨cs',rd⟩:=DtAll.reads I3 _ _ _ hds rv;have rd:ReadsAll h' (as.map Value.ref) (ps.map An.rowDat) cs':=rd;have lay:PyData.canLayAll0 (ps.map An.rowDat)=true:=Ig hok;have l1:(as.map V.ref).length=(ps.map An.rowDat).length:=by rw [Q5,Q5];exact ln
 have l2:(as.map Value.ref).length=(ps.map An.rowDat).length:=by rw [Q5,Q5];exact ln
 have l3:(ps.map An.rowDat).length<64:=by rw [Q5];exact h64
 have hdd:∀ d∈ps.map An.rowDat,IU "str" d/\d.canLay0=true/\d.depth<=60:=fun d hd=>by
  obtain ⟨p,hp,rfl⟩:=Za.mp hd;obtain ⟨h1,h2⟩:=hok p hp;refine ⟨rfl,?_,by show max 0 (max 0 0)+1<=60;decide⟩;show (PyData.strOk p.1&&(PyData.strOk p.2&&true))=true;rw [h1,h2];rfl
 have hlt:∀ d∈ps.map An.rowDat,∀ e∈ps.map An.rowDat,Lt1 d e ((TO.list AnJ.strO).lt (Gf d) (Gf e)):=fun d hd e he=>by
  obtain ⟨p,hp,rfl⟩:=Za.mp hd;obtain ⟨p',hp',rfl⟩:=Za.mp he;exact AnJ.lt_strs [p.1,p.2] [p'.1,p'.2]
 generalize as.map Value.ref=its at rd rv l2;generalize as.map V.ref=vs' at rv hds l1;refine Q6 (VW ?_ (by rw [l2];omega));have hoL:(h'.push (seqObj "list" its.toArray 0)).get? h'.objs.size=some (seqObj "list" its.toArray 0):=Zm _ rfl;have kp:∀ b o,h'.get? b=some o->(h'.push (seqObj "list" its.toArray 0)).get? b=some o:=fun b o z=>Q9 _ z;show wpAny _ _ _ _ _ { s1 with heap:=h'.push (seqObj "list" its.toArray 0),toks:=tk };generalize h'.push (seqObj "list" its.toArray 0)=h1' at hoL kp;refine Q6 (Yr (Z6 slot_list_sort ⟨_,hoL,rfl⟩ V9 ?body (args_list_sort _)));refine sort_shell (s:={ s1 with heap:=h1',toks:=tk }) (κ:=tuples' (Value.type "str" !=Value.type "tuple")) (lt:=fun i j=>(TO.list AnJ.strO).lt (Gf ((ps.map An.rowDat).getD i .none)) (Gf ((ps.map An.rowDat).getD j .none))) hoL (by omega) (fun h2 s2 k1=>?_) fun p hp=>⟨_,rfl,Q8 ⟨_,rfl,?_⟩⟩
 ·have rd1:ReadsAll s2.heap its (ps.map An.rowDat) cs':=xQ (fun b o z=>k1 b o (Zu (Zp z)) (kp b o z)) _ _ _ lay rd;refine ⟨fun Q' E' z=>kind_ok rd1 (fun d hd'=>(hdd d hd').1) (by omega) z,fun i j hi hj C c=>?_⟩;obtain ⟨b1,r1⟩:=U5 i rd1 (by omega);obtain ⟨b2,r2⟩:=U5 j rd1 (by omega);have m:∀ k,k<its.length->(ps.map An.rowDat).getD k .none∈ps.map An.rowDat:=fun k hk=>by
   rw [Z9,Zj (by omega)];exact Yz _
  have d1:=hdd _ (m i hi);have d2:=hdd _ (m j hj);exact key_lt_ok r1 r2 d1.1 d2.1 d1.2.1 d2.2.1 (by show X.A.units+1+1+_<_;omega) (hlt _ (m i hi) _ (m j hj)) c
 ·have pp:p.Perm (List.toArray (List.range its.length))/\Up (TO.list AnJ.strO) (fun i=>Gf ((ps.map An.rowDat).getD i .none)) p its.length:=by
   rcases hp with ⟨n2,rfl⟩|⟨n2,rfl⟩
   ·refine ⟨Array.Perm.refl _,fun (i j:Nat) (hij:i<=j) (hj:j<its.length)=>?_⟩;have:i=j:=by omega
    subst this;exact (TO.list AnJ.strO).refl _
   ·obtain ⟨p',e,a1,a2⟩:=sort_ok (O:=TO.list AnJ.strO) (key:=fun i=>Gf ((ps.map An.rowDat).getD i .none)) (n:=its.length) (by omega);rw [e];exact ⟨a1,a2⟩
  obtain ⟨pp,up⟩:=pp;have pl':p.toList.Perm (List.range its.length):=by simpa using Array.perm_iff_toList_perm.mp pp
  have pm:∀ i∈p.toList,i<vs'.length:=fun i hi=>by
   have:=Vd.mp (pl'.mem_iff.mp hi);omega
  obtain ⟨e,he'⟩:=sortedHeap_at (out:=List.toArray (p.toList.map fun i=>its.getD i Value.none)) hoL;have nl:=GP rv p.toList pm;have kp2:∀ b ob,h'.get? b=some ob->(sortedHeap h1' h'.objs.size its (List.toArray (p.toList.map fun i=>its.getD i Value.none))).get? b=some ob:=fun b ob q1=>by
   have hb:b<h'.objs.size:=Zp q1;rw [sortedHeap_old (Zu hb) (Zp (kp b ob q1))];exact kp b ob q1
  have hl':p.toList.length=its.length:=by rw [pl'.length_eq,YD]
  have fr3:Hs h'.objs.size=none:=I3.hok.fresh (Ze _);have fr1:H1 h'.objs.size=none:=sm.free fr3;have up2:=zF (o:=.lst (p.toList.map fun i=>vs'.getD i .non)) fr3;refine ⟨.ref h'.objs.size,_,I3.laid (o:=.lst (p.toList.map fun i=>vs'.getD i .non)) (t':=tk) kp2 (Ze _) ⟨by rw [Q5,hl',Ym];omega,_,e,nl,he'⟩,rfl,q _ (p.toList.map fun i=>ps.getD i ("","")) _ _ ?_ ?_ (sm.trans up2) fr1 zB ?_⟩
  ·have:=pl'.map fun i=>ps.getD i ("","");rw [show its.length=ps.length by rw [l2,Q5],pick_all] at this;exact this
  ·rw [Y9];intro i j hi hj hij;rw [ZQ,ZQ];have:=up i j (YF hij) (by rw [Q5,hl'] at hj;exact hj);unfold kn at this;rw [Q5,ZE] at hi hj;rw [ZT,ZT,V4 p i hi,V4 p j hj] at this;have pi:p[i]<ps.length:=by
    have:=pm p[i] (by rw [←JG hi];exact Yz _);rw [l1,Q5] at this;exact this
   have pj:p[j]<ps.length:=by
    have:=pm p[j] (by rw [←JG hj];exact Yz _);rw [l1,Q5] at this;exact this
   rw [JG hi,JG hj];have this:(TO.list AnJ.strO).le (Gf ((ps.map An.rowDat).getD p[i] .none)) (Gf ((ps.map An.rowDat).getD p[j] .none)):=by simpa using this
   rw [X3 pi,X3 pj] at this;exact row_le this
  ·have:=DtAll.same up2 _ _ (dt_pick hds p.toList pm);rw [show (p.toList.map fun i=>(ps.map An.rowDat).getD i .none)=(p.toList.map fun i=>ps.getD i ("","")).map An.rowDat by
    rw [Zt];refine ZW fun i hi=>X3 ?_;have:=pm i hi;rw [l1,Q5] at this;exact this] at this
   exact this
end
end L2
namespace L2
open PySem PySem.Spec PyProof.Rows PySem.W
section
variable {X:Cx}
def tThawS (H₀:Hp)(t:TS):TS:=fun D σ H=>t { D with nx:=fun σ' H'=>∃ d ob kvs,H' d=some (.frz ob (.dK kvs))/\(∀ o u,H₀ d≠some (.frz o u))/\D.nx σ' (upd H' d (.dK kvs)) } σ H
theorem k6 {st:Stmt}{t:TS}(h:PS X st t):PS X st (tThawS X.H₀ t):=by
 intro pins s σ H D I q;refine thn (h pins s σ H _ I q) fun f s1 z=>?_;cases f with
 | next =>
  obtain ⟨σ',H',I',d,ob,kvs,hd,n0,q⟩:=z;exact ⟨σ',_,I'.thaw hd n0,q⟩
 | ret v=>exact z
 | brk=>exact z
 | cont=>exact z
def rIsiL (K:ZZF):List V->Hp->VK->Prop:=fun xs H Q=>∃ a T kvs b,xs=[.ref a,.ty T]/\Rd H a (.dK kvs)/\PySem.W.kitOne K (.type "dict") (.type T)=some b/\Q (.bl b) H
theorem jA {K:ZZF}(hK:X.K=K:=by rfl):CallR X (.builtin "isinstance") (rIsiL K):=by
 subst hK;intro pins s σ H xs us Q I r h;obtain ⟨a,T,kvs,b,rfl,ha,kt,q⟩:=h;obtain ⟨u,w',rfl,ru,rw'⟩:=vals2 r;cases (show w'=Value.type T from rw');cases ru;obtain ⟨vs,ep,rel,da,hS,_⟩:=Xr I ha;exact Ye VS I.kIn da.dictOf.typeIs kt (fun z=>nomatch z) fun tk=>⟨.bl b,H,I.tok _,rfl,q⟩
end
end L2
namespace An06
open PySem L2 An
seal L2.PS L2.PSs L2.PE L2.PT L2.PW L2.PA L2.PG L2.PGs L2.PI L2.PFi L2.PC
def top (i:Nat):Stmt:=PySem.Challenge.pw_annals_k06_kept_and_read_again.main.body.getD i (.Pass ⟨0,0,0,0⟩)
def kinds:List String:=["NoneType","bool","int","str","list","tuple","dict"]
def xJ:List (Key×V):=[(Sum.inr "leaf",.str "L"),(Sum.inr "tree",.str "T"),(Sum.inr "note",.str "N")]
theorem letters_at (t:Th):Uh xJ (Sum.inr t.word:Key)=some (.str t.letter):=by
 cases t
 ·show Uh xJ (Sum.inr "leaf":Key)=some (.str "L")
  decide +kernel
 ·show Uh xJ (Sum.inr "tree":Key)=some (.str "T")
  decide +kernel
 ·show Uh xJ (Sum.inr "note":Key)=some (.str "N")
  decide +kernel
section
variable {K:ZZF}{H:Hp}
theorem G5 {ls:List Str}{v:V}(h:Dt K H (Th.leaf ls).dat v):∃ a b,v=.ref a/\SqT K H a [.str "leaf",.ref b]/\SqT K H b (ls.map V.str):=by
 obtain ⟨a,xs,rfl,hs,x0,r0,rfl,e0,x1,r1,rfl,⟨b,ys,rfl,hb,hy⟩,e2⟩:=h;have e0:x0=.str "leaf":=e0;have e2:r1=[]:=e2;subst e0 e2;rw [DtAll.strs_of hy] at hb;exact ⟨a,b,rfl,hs,hb⟩
theorem BE {rs:List (Str×Str)}{v:V}(h:Dt K H (Th.tree rs).dat v):∃ a b,v=.ref a/\SqT K H a [.str "tree",.ref b]/\Dt K H (.tuple (rs.map rowDat)) (.ref b):=by
 obtain ⟨a,xs,rfl,hs,x0,r0,rfl,e0,x1,r1,rfl,⟨b,ys,rfl,hb,hy⟩,e2⟩:=h;have e0:x0=.str "tree":=e0;have e2:r1=[]:=e2;subst e0 e2;exact ⟨a,b,rfl,hs,b,ys,rfl,hb,hy⟩
theorem Bp {t:Str}{ps:List Str}{w:Str}{v:V}(h:Dt K H (Th.note t ps w).dat v):∃ a b,v=.ref a/\SqT K H a [.str "note",.str t,.ref b,.str w]/\SqT K H b (ps.map V.str):=by
 obtain ⟨a,xs,rfl,hs,x0,r0,rfl,e0,x1,r1,rfl,e1,x2,r2,rfl,⟨b,ys,rfl,hb,hy⟩,x3,r3,rfl,e3,e4⟩:=h;have e0:x0=.str "note":=e0;have e1:x1=.str t:=e1;have e3:x3=.str w:=e3;have e4:r3=[]:=e4;subst e0 e1 e3 e4;rw [DtAll.strs_of hy] at hb;exact ⟨a,b,rfl,hs,hb⟩
theorem uQ {t:Th}{v:V}(h:Dt K H t.dat v):∃ a r,v=.ref a/\SqT K H a (.str t.word::r):=by
 cases t with
 | leaf ls=>obtain ⟨a,b,e,h1,_⟩:=G5 h;exact ⟨a,_,e,h1⟩
 | tree rs=>obtain ⟨a,b,e,h1,_⟩:=BE h;exact ⟨a,_,e,h1⟩
 | note t ps w=>obtain ⟨a,b,e,h1,_⟩:=Bp h;exact ⟨a,_,e,h1⟩
theorem row_at {r:Str×Str}{v:V}(h:Dt K H (rowDat r) v):∃ a,v=.ref a/\SqT K H a [.str r.1,.str r.2]:=by
 obtain ⟨a,xs,rfl,hs,x0,r0,rfl,e0,x1,r1,rfl,e1,e2⟩:=h;have e0:x0=.str r.1:=e0;have e1:x1=.str r.2:=e1;have e2:r1=[]:=e2;subst e0 e1 e2;exact ⟨a,rfl,hs⟩
theorem BX {rs:List (Str×Str)}{xs:List V}{i:Nat}{x:V}(h:DtAll K H (rs.map rowDat) xs)(e:xs[i]?=some x):∃ r a,rs[i]?=some r/\x=.ref a/\SqT K H a [.str r.1,.str r.2]:=by
 obtain ⟨d,e1,e2⟩:=h.get e;rw [Zl] at e1;cases q:rs[i]? with
 | none=>rw [q] at e1;cases e1
 | some r =>
  rw [q] at e1;have e1:rowDat r=d:=Option.some.inj e1;subst e1;obtain ⟨a,e3,e4⟩:=row_at e2;exact ⟨r,a,rfl,e3,e4⟩
end
def Ik (K:ZZF):Sp:=fun vs H Q _=>∃ v t,vs=[v]/\Dt K H (Th.dat t) v/\Q (.str t.letter) H
def Xx (K:ZZF):Sp:=fun vs H Q _=>∃ v rs,vs=[v]/\Dt K H (.tuple (rs.map rowDat)) v/\rs.length<=1000/\∀ l,H l=none->Q (.ref l) (upd H l (.lst ((z6 rs).map V.str)))
def spParts (K:ZZF):Sp:=fun vs H Q _=>∃ v t,vs=[v]/\Dt K H (Th.dat t) v/\t.Good/\∀ l H',Same H H'->H l=none->H' l=some (.lst (t.parts.map V.str))->Q (.ref l) H'
def GH:Sp:=fun vs H Q _=>∃ x,vs=[.str x]/\x.length<=1000/\Q (.str (counted x)) H
def Gq (K:ZZF):Sp:=fun vs H Q _=>∃ v t,vs=[v]/\Dt K H (Th.dat t) v/\t.Good/\∀ H',Same H H'->Q (.str t.sp) H'
def spDigest (K:ZZF):Sp:=fun vs H Q _=>∃ v t,vs=[v]/\Dt K H (Th.dat t) v/\t.Good/\∀ H',Same H H'->Q (.int (dg t.sp)) H'
structure Txt (P:Program)(w:World)(K:ZZF)(mg:Str->Option Value)(t1 t2 t3 t4 t5 t6 t7:Tok)(aL aC aN aT aA b1 b2:Addr):Prop where
 len:mg "len"=none
 all:mg "all"=none
 ord:mg "ord"=none
 isinstance:mg "isinstance"=none
 str:mg "str"=none
 set:mg "set"=none
 sorted:mg "sorted"=none
 tuple:mg "tuple"=none
 list:mg "list"=none
 max:mg "max"=none
 int:mg "int"=none
 bool:mg "bool"=none
 range:mg "range"=none
 dict:mg "dict"=none
 any:mg "any"=none
 LONGEST_LINE:mg "LONGEST_LINE"=some (.int 20 t1)
 LONGEST_LABEL:mg "LONGEST_LABEL"=some (.int 8 t2)
 MOST_PARENTS:mg "MOST_PARENTS"=some (.int 2 t3)
 PERCENT:mg "PERCENT"=some (.int 37 t4)
 MOST_LABELS:mg "MOST_LABELS"=some (.int 4 t7)
 DIGEST_FACTOR:mg "DIGEST_FACTOR"=some (.int 31 t5)
 DIGEST_BOUND:mg "DIGEST_BOUND"=some (.int 97 t6)
 LETTERS:mg "LETTERS"=some (.ref aL)
 NoName:mg "NoName"=some (.ref aN)
 NoThing:mg "NoThing"=some (.ref aT)
 AnnalsError:mg "AnnalsError"=some (.ref aA)
 BadPath:mg "BadPath"=some (.ref b1)
 BadFiles:mg "BadFiles"=some (.ref b2)
 Shelf:mg "Shelf"=some (.ref aC)
 xNoName:PySem.W.excIn K aN US "ValueError.__new__"=true
 xNoThing:PySem.W.excIn K aT US "ValueError.__new__"=true
 xBadPath:PySem.W.excIn K b1 US "ValueError.__new__"=true
 xBadFiles:PySem.W.excIn K b2 US "ValueError.__new__"=true
 kd:KD P w K aL xJ
 cls:Cls K aC
 n1:NoAttr K aC "thing_by_name"
 n2:NoAttr K aC "name_by_thing"
 n3:NoAttr K aC "next_numbers"
 exmN:PySem.W.exmOne K (.ref aN) (.ref aN)=some true
 kit:∀ a∈kinds,∀ b∈kinds,PySem.W.kitOne K (.type a) (.type b)=some (a==b||(a=="bool"&&b=="int"))
theorem nameD_in (d:PyData):UC d∈kinds:=by cases d<;>simp [UC,kinds]
def txtD:PyData->Str
 | .str x=>x
 | _=>""
def qM:PyData->Bool
 | .tuple ds=>ds.all Ux&&(decide (ds.length<=2)&&decide ((AxS.uniq (ds.map txtD)).length=ds.length))
 | _=>false
def IG (K:ZZF):Sp:=fun vs H Q _=>∃ (d:PyData) (v:V),vs=[v]/\Dw K H d v/\small d=true/\∀ H',Same H H'->Q (.bl (qM d)) H'
theorem B8 {K:ZZF}{H:Hp}:∀ {ds:List PyData} {xs:List V},DwAll K H ds xs->ds.all Ux=true->xs=(ds.map txtD).map V.str
 | [],_,h,_=>by rw [show _=[] from h];rfl
 | .str x::ds,_,⟨v,r,e,hv,hr⟩,h=>by
  rw [List.all_cons,Zg] at h;rw [e,B8 hr h.2,show v=V.str x from hv];rfl
 | .none::_,_,_,h=>by cases h
 | .bool _::_,_,_,h=>by cases h
 | .int _::_,_,_,h=>by cases h
 | .list _::_,_,_,h=>by cases h
 | .tuple _::_,_,_,h=>by cases h
 | .dict _::_,_,_,h=>by cases h
theorem k7 (d:PyData):(UC d=="str"||(UC d=="bool"&&"str"=="int"))=Ux d:=by cases d<;>rfl
def UB:PyData->Str
 | .tuple (.str l::_)=>l
 | _=>""
def BJ:PyData->Bool
 | .tuple ds=>ds.all UO&&UR (ds.map UB)
 | _=>false
def spRows (K:ZZF):Sp:=fun vs H Q _=>∃ (d:PyData) (v:V),vs=[v]/\Dw K H d v/\small d=true/\(∀ ds,d=.tuple ds->ds.length<=60)/\∀ H',Same H H'->Q (.bl (BJ d)) H'
theorem row_atW {K:ZZF}{H:Hp}{d:PyData}{v:V}(h:Dw K H d v)(r:UO d=true):∃ (t:Addr) (y:V),v=.ref t/\SqT K H t [.str (UB d),y]/\zS (UB d)=true:=by
 match d,r with
 | .tuple [l,n],r =>
  have r:(uJ l&&Ux n)=true:=r;rw [Zg] at r;obtain ⟨t,xs,rfl,ht,x0,r0,rfl,h0,x1,r1,rfl,h1,e⟩:=h;have e:r1=[]:=e;subst e;cases l with
  | str x=>cases (show x0=_ from h0);exact ⟨t,x1,rfl,ht,r.1⟩
  | none=>cases r.1
  | bool _=>cases r.1
  | int _=>cases r.1
  | list _=>cases r.1
  | tuple _=>cases r.1
  | dict _=>cases r.1
theorem Go {x:Str}(h:zS x=true):PyData.strOk x=true:=by
 unfold zS at h;rw [Zg] at h;rw [xC];intro c hc;have:=ZI.mp h.2 c hc;unfold Uy at this;rw [Zg] at this;have:=ZB this.2;omega
def atD (ds:List PyData)(i:Nat):PyData:=(ds[i]?).getD .none
def UF (word:Str)(ds:List PyData):Bool:=decide (word="leaf")&&(decide (ds.length=1)&&UW (atD ds 0))
def UD (word:Str)(ds:List PyData):Bool:=decide (word="tree")&&(decide (ds.length=1)&&BJ (atD ds 0))
def Xf (K:ZZF)(b:Str->List PyData->Bool):Sp:=fun vs H Q _=>∃ (word:Str) (a:Addr) (ds:List PyData) (xs:List V),vs=[.str word,.ref a]/\SqT K H a xs/\DwAll K H ds xs/\yF ds=true/\ds.length<=60/\(∀ e∈ds,∀ es,e=.tuple es->es.length<=60)/\∀ H',Same H H'->Q (.bl (b word ds)) H'
def UL (word:Str)(ds:List PyData):Bool:=decide (word="note")&&(decide (ds.length=3)&&(Ux (atD ds 0)&&(qM (atD ds 1)&&UJ (atD ds 2))))
def j6:PyData->Bool
 | .tuple (.str word::ds)=>UF word ds||(UD word ds||UL word ds)
 | _=>false
def narrow (d:PyData):Prop:=∀ ds,d=.tuple ds->ds.length<=60/\∀ e∈ds,∀ es,e=.tuple es->es.length<=60
def BZ (K:ZZF):Sp:=fun vs H Q _=>∃ (d:PyData) (v:V),vs=[v]/\Dw K H d v/\small d=true/\narrow d/\∀ H',Same H H'->Q (.bl (j6 d)) H'
theorem cut_any {K:ZZF}{H H':Hp}{a:Addr}{xs:List V}{lo hi:Option Int}{v:V}(hs:SqT K H a xs)(h:(v=.ref a/\H'=H/\Uz xs lo hi=xs)\/(∃ p,H p=none/\v=.ref p/\H'=upd H p (.tup (Uz xs lo hi)))) :
  ∃ p:Addr,v=.ref p/\Same H H'/\SqT K H' p (Uz xs lo hi):=by
 rcases h with ⟨rfl,rfl,e2⟩|⟨p,np,rfl,rfl⟩
 ·exact ⟨a,rfl,Same.refl _,by rw [e2];exact hs⟩
 ·exact ⟨p,rfl,zF np,SqT.of zB⟩
def spNeed (K:ZZF)(aT:Addr):Sp:=fun vs H Q E=>∃ (d:PyData) (v:V),vs=[v]/\Dw K H d v/\small d=true/\narrow d/\(j6 d=true->∀ H',Same H H'->Q v H')/\(j6 d=false->∀ H',Same H H'->E (.ref aT) none H')
def UI (S:List En):PyData->Bool
 | .str x=>decide (x∈S.map En.nm)
 | _=>false
def spTake (P:Program)(w:World)(K:ZZF)(C:Addr):Sp:=fun vs H Q _=>∃ (a:Addr) (fp:List Addr) (S:List En) (e:En) (t:Addr),vs=[.ref a,.str e.nm,.ref t]/\ShAt P w K C H a fp S/\GoodE e/\Dt K H e.d (.ref t)/\e.d∉S.map (·.d)/\e.nm∉S.map En.nm/\S.length<2000 /\
 ∀ H',Off fp H H'->ShAt P w K C H' a fp (S++[e])->Q .non H'
def Ba (P:Program)(w:World)(K:ZZF)(C:Addr):Sp:=fun vs H Q _=>∃ (a:Addr) (fp:List Addr) (S:List En),vs=[.ref a]/\ShAt P w K C H a fp S/\∀ l,H l=none->Q (.ref l) (upd H l (.lst (S.map fun e=>V.str e.nm)))
def hasK (kvs:List (Key×V)):PyData->Bool
 | .str x=>(Uh kvs (Sum.inr x:Key)).isSome
 | _=>false
def spKey (K:ZZF):Sp:=fun vs H Q _=>∃ (d1:Addr) (kvs:List (Key×V)) (d:PyData) (v:V),vs=[.ref d1,v]/\H d1=some (.dK kvs)/\Dw K H d v/\Q (.bl (hasK kvs d)) H
def IE (P:Program)(w:World)(K:ZZF)(C aN:Addr):Sp:=fun vs H Q E=>∃ (a:Addr) (fp:List Addr) (S:List En) (d:PyData) (v:V),vs=[.ref a,v]/\ShAt P w K C H a fp S/\Dw K H d v/\(UI S d=true->Q .non H)/\(UI S d=false->E (.ref aN) none H)
def spHas (P:Program)(w:World)(K:ZZF)(C:Addr):Sp:=fun vs H Q _=>∃ (a:Addr) (fp:List Addr) (S:List En) (d:PyData) (v:V),vs=[.ref a,v]/\ShAt P w K C H a fp S/\Dw K H d v/\Q (.bl (UI S d)) H
def xE (P:Program)(w:World)(K:ZZF)(C aN:Addr):Sp:=fun vs H Q E=>∃ (a:Addr) (fp:List Addr) (S:List En) (d:PyData) (v:V),vs=[.ref a,v]/\ShAt P w K C H a fp S/\Dw K H d v/\(∀ e∈S,d=.str e.nm->∀ t,Dt K H e.d (.ref t)->Q (.ref t) H)/\(UI S d=false->E (.ref aN) none H)
def spForm1 (P:Program)(w:World)(K:ZZF)(C aN:Addr):Sp:=fun vs H Q E=>∃ (a f:Addr) (fp:List Addr) (S:List En) (x:Str) (ws:List Str),vs=[.ref a,.str x,.ref f]/\ShAt P w K C H a fp S/\(∀ e∈S,Gx e)/\SqT K H f (ws.map V.str)/\(∀ y∈ws,PyData.strOk y=true) /\
 (yA S x ws=true->Q .non H)/\(yA S x ws=false->E (.ref aN) none H)
def spNeedN (P:Program)(w:World)(K:ZZF)(C aN:Addr):Sp:=fun vs H Q E=>∃ (a:Addr) (fp:List Addr) (S:List En) (t:Th) (v:V),vs=[.ref a,v]/\ShAt P w K C H a fp S/\(∀ e∈S,Gx e)/\Dt K H t.dat v /\
 (namesOk S t=true->∀ H',Same H H'->Q .non H')/\(namesOk S t=false->∀ H',Same H H'->E (.ref aN) none H')
def PutRes (P:Program)(w:World)(K:ZZF)(C:Addr)(H:Hp)(a:Addr)(fp:List Addr)(S:List En)(t:Th)(H2:Hp)(S':List En)(e:En):Prop :=
 Off fp H H2/\ShAt P w K C H2 a fp S'/\e∈S'/\e.d=t.dat/\(S'=S\/(S'=S++[e]/\e=Gm S t/\t.dat∉S.map (·.d)))
def UK (P:Program)(w:World)(K:ZZF)(C aN aT:Addr):Sp:=fun vs H Q E=>∃ (a:Addr) (fp:List Addr) (S:List En) (d:PyData) (v:V),vs=[.ref a,v]/\ShAt P w K C H a fp S/\(∀ e∈S,Gx e)/\Dw K H d v/\small d=true/\narrow d/\(j6 d=true->∃ t:Th,d=t.dat/\t.Good)/\S.length<2000/\(∀ h,(nextOf S h).getD 0<1000000) /\
 (j6 d=false->∀ H',Same H H'->E (.ref aT) none H') /\
 (∀ t,d=t.dat->j6 d=true->namesOk S t=false->∀ H',Same H H'->E (.ref aN) none H') /\
 (∀ t,d=t.dat->j6 d=true->namesOk S t=true->∀ H2 S' e,PutRes P w K C H a fp S t H2 S' e->Q (.str e.nm) H2)
def spInit (P:Program)(w:World)(K:ZZF)(C:Addr):Sp:=fun vs H Q _=>∃ (x dx:Addr) (b:V) (S:List En),vs=[.ref x,b]/\H x=some (.ins C dx [])/\H dx=some (.own x)/\dx≠x /\
 ((b=.non/\S=[])\/∃ a fp0,b=.ref a/\ShAt P w K C H a fp0 S/\x∉fp0/\dx∉fp0/\S.length<2000)/\∀ fp H',(∀ c∈fp,c=x\/c=dx\/H c=none)->Off [x] H H'->ShAt P w K C H' x fp S->Q .non H'
section
variable {P:Program}{w:World}{K:ZZF}{mg:Str->Option Value}{base:Heap}{t1 t2 t3 t4 t5 t6 t7:Tok}{aL aC aN aT aA b1 b2:Addr}
theorem Txt.is {d:PyData}{T:String}(t:Txt P w K mg t1 t2 t3 t4 t5 t6 t7 aL aC aN aT aA b1 b2)(hT:T∈kinds):PySem.W.kitOne K (.type (UC d)) (.type T)=some (UC d==T||(UC d=="bool"&&T=="int")):=t.kit _ (nameD_in d) _ hT
namespace f_is_sign
abbrev st:Stmt:=top 14
theorem sc:FnScope ["sign"] ["sign"] (zG st):=QS0
theorem ok {f:Addr}{fd:FuncData}(F:Fun K "is_sign" "is_sign" st f fd)(T:Txt P w K mg t1 t2 t3 t4 t5 t6 t7 aL aC aN aT aA b1 b2):FnOk P w K mg base CX0 1 f fd ["sign"] spSign:=by
 refine F.ok sc (fun vs H Q E h=>?_) (fun cdv A outer s H vs Q E hr h=>?_)
 ·obtain ⟨c,rfl,_⟩:=h;rfl
 ·obtain ⟨c,rfl,k⟩:=h;refine ⟨_,(zE (zL (yV (IX Bg Bg pe_str (pv 0) pe_str) (xK (yH vS (zK BP (by rfl) T.ord PyProof.Rows.boot_ord (zA (pv 0) zC)) (jC (v:=.int 37) rfl T.PERCENT ⟨_,rfl⟩) (zT _)))))),?_⟩;refine ⟨_,rfl,_,_,rfl,rfl,_,rfl,?_⟩;rw [le_one c 32 " " (by decide +kernel)];refine Uk (fun h1=>?_) (fun h1=>?_)
  ·refine ⟨_,_,rfl,rfl,_,rfl,?_⟩;rw [one_le c 126 "~" (by decide +kernel)];refine Uk (fun h2=>?_) (fun h2=>?_)
   ·refine ⟨_,rfl,_,rfl,rfl,rfl,?_⟩;have e:Uw c=!decide (V.int (((⟨#[c]⟩:Str).cps.getD 0 0:Nat):Int)=V.int 37):=by
     unfold Uw;rw [h1,h2];show decide (c≠37)=!decide (V.int (c:Int)=V.int 37);rw [eq_comm];exact Bm ⟨fun h z=>h (by rw [z];rfl),fun h z=>h (by injection z with z;omega)⟩
    rw [e] at k;exact k
   ·have e:Uw c=false:=by
     unfold Uw;rw [h1,YC.mpr h2];rfl
    rw [e] at k;exact k
  ·have e:Uw c=false:=by
    unfold Uw;rw [YC.mpr h1];rfl
   rw [e] at k;exact ⟨_,rfl,k⟩
end f_is_sign
namespace f_is_line
abbrev st:Stmt:=top 15
theorem sc:FnScope ["thing"] ["thing"] (zG st):=QS0
theorem ok {f:Addr}{fd:FuncData}(F:Fun K "is_line" "is_line" st f fd)(T:Txt P w K mg t1 t2 t3 t4 t5 t6 t7 aL aC aN aT aA b1 b2)(QE:Cal P w K mg base 1 "is_sign" ["sign"] spSign):FnOk P w K mg base CX0 2 f fd ["thing"] (spLine K):=by
 refine F.ok sc (fun vs H Q E h=>?_) (fun cdv A outer s H vs Q E hr h=>?_)
 ·obtain ⟨d,v,rfl,_⟩:=h;rfl
 ·obtain ⟨d,v,rfl,hd,sm,k⟩:=h;refine ⟨_,(zE (zL (yV (zK (zV (K:=K)) (by rfl) T.isinstance Zx (zA (pv 0) (zA (yS (v:=.ty "str") rfl T.str ZY rfl) zC))) (yV (yH op_le (zK x8 (by rfl) T.len ZS (zA (pv 0) zC)) (jC (v:=.int 20) rfl T.LONGEST_LINE ⟨_,rfl⟩) (zT _)) (xK (zK (x6 rfl) (by rfl) T.all Yu (zA (y6 (sc:=zG st) (N:=["thing"]) (N':=["sign"]) (src:=[none]) ⟨by decide +kernel,rfl,rfl,by decide +kernel,by decide +kernel,by decide +kernel,by decide +kernel⟩ rfl rfl rfl (pi_str (pv 0)) (fun _ _ _ _=>(zQ (i:=0) (show (["sign"]:List Str).Nodup by decide +kernel) rfl (Or.inl rfl))) (fun _ _ _ _=>xU) (fun _ _ _ _=>(zJ QE hr.m (zA (pv 0) zC)))) zC))))))),?_⟩;refine ⟨_,rfl,_,_,d,_,rfl,hd,T.is (by simp [kinds]),_,rfl,?_⟩;cases d with
  | str x =>
   cases (show v=_ from hd);have xl:x.length<=1000:=ZB sm;refine Uf ⟨_,rfl,x,rfl,le_line (by omega),_,_,rfl,rfl,_,rfl,Uk (fun h1=>?_) (fun h1=>?_)⟩
   ·have h1:x.length<=20:=by have:=ZB h1;omega
    refine ⟨_,rfl,_,rfl,GW (fun i ys σ H2=>∃ o,σ=[o]/\H2=H/\ys=(((cs x).take i).map Uw).map V.bl) ⟨none,rfl,rfl,rfl⟩ (le_line (by omega)) ?_ ?_ ?_⟩
    ·rintro i ys σ H2 hi ⟨o,rfl,rfl,rfl⟩;rw [Q5,Q5,ZC];omega
    ·rintro i c ys σ H2 hc ⟨o,rfl,rfl,rfl⟩;refine ⟨_,rfl,c,rfl,_,rfl,rfl,?_⟩;rw [yU (cs_get hc),Zf];rfl
    ·rintro ys σ H2 ⟨o,rfl,rfl,rfl⟩ p np;refine ⟨p,_,rfl,SqL.of zB,?_⟩;rw [length_cs,ZA,all_map];have e:UJ (.str x)=(cs x).all Uw:=by
      show (decide (x.length<=20)&&(cs x).all Uw)=_;rw [Zd h1];rfl
     rw [e] at k;exact k _ (zF np)
   ·have e:UJ (.str x)=false:=by
     show (decide (x.length<=20)&&(cs x).all Uw)=_;rw [Zo (fun z=>h1 (Zd (by omega)))];rfl
    rw [e] at k;exact k _ (Same.refl _)
  | none=>exact Ug (k _ (Same.refl _))
  | bool b=>exact Ug (k _ (Same.refl _))
  | int i=>exact Ug (k _ (Same.refl _))
  | list ds=>exact Ug (k _ (Same.refl _))
  | tuple ds=>exact Ug (k _ (Same.refl _))
  | dict kvs=>exact Ug (k _ (Same.refl _))
end f_is_line
namespace f_is_lines
abbrev st:Stmt:=top 16
theorem sc:FnScope ["thing"] ["thing"] (zG st):=QS0
theorem ok {f:Addr}{fd:FuncData}(F:Fun K "is_lines" "is_lines" st f fd)(T:Txt P w K mg t1 t2 t3 t4 t5 t6 t7 aL aC aN aT aA b1 b2)(Qj:Cal P w K mg base 2 "is_line" ["thing"] (spLine K)):FnOk P w K mg base CX0 3 f fd ["thing"] (Bn K):=by
 refine F.ok sc (fun vs H Q E h=>?_) (fun cdv A outer s H vs Q E hr h=>?_)
 ·obtain ⟨d,v,rfl,_⟩:=h;rfl
 ·obtain ⟨d,v,rfl,hd,sm,k⟩:=h;refine ⟨_,(zE (zL (yV (zK (zV (K:=K)) (by rfl) T.isinstance Zx (zA (pv 0) (zA (yS (v:=.ty "tuple") rfl T.tuple Yj rfl) zC))) (xK (zK (x6 rfl) (by rfl) T.all Yu (zA (y6 (sc:=zG st) (N:=["thing"]) (N':=["line"]) (src:=[none]) ⟨by decide +kernel,rfl,rfl,by decide +kernel,by decide +kernel,by decide +kernel,by decide +kernel⟩ rfl rfl rfl (qU (pv 0)) (fun _ _ _ _=>(zQ (i:=0) (show (["line"]:List Str).Nodup by decide +kernel) rfl (Or.inl rfl))) (fun _ _ _ _=>xU) (fun _ _ _ _=>(zJ Qj hr.m (zA (pv 0) zC)))) zC)))))),?_⟩;refine ⟨_,rfl,_,_,d,_,rfl,hd,T.is (by simp [kinds]),_,rfl,?_⟩;cases d with
  | tuple ds =>
   obtain ⟨a,xs,rfl,hs,ha⟩:=hd;obtain ⟨sl,sa⟩:=xY sm;have hlen:=ha.length;refine Uf ⟨_,rfl,a,rfl,⟨_,hs⟩,jK (K:=K) (a:=a) (xs:=xs) (fun i ys σ H2=>∃ o,σ=[o]/\Same H H2/\ys=((ds.take i).map UJ).map V.bl) ⟨none,rfl,Same.refl _,rfl⟩ (le_line (by omega)) ?_ ?_ ?_⟩
   ·rintro i ys σ H2 hi ⟨o,rfl,e2,rfl⟩;refine ⟨e2.tupS hs,?_⟩;rw [Q5,Q5,ZC];omega
   ·rintro i x ys σ H2 hx ⟨o,rfl,e2,rfl⟩;obtain ⟨d,hd,dx⟩:=ha.get hx;refine ⟨_,rfl,d,x,rfl,dx.same e2,yL sa hd,fun H3 e3=>⟨_,rfl,e2.trans e3,?_⟩⟩;rw [yU hd,Zf];rfl
   ·rintro ys σ H2 ⟨o,rfl,e2,rfl⟩ p np;refine ⟨p,_,rfl,SqL.of zB,?_⟩;rw [hlen,ZA,all_map];exact k _ (e2.trans (zF np))
  | none=>exact Ug (k _ (Same.refl _))
  | bool b=>exact Ug (k _ (Same.refl _))
  | int i=>exact Ug (k _ (Same.refl _))
  | list ds=>exact Ug (k _ (Same.refl _))
  | str x=>exact Ug (k _ (Same.refl _))
  | dict kvs=>exact Ug (k _ (Same.refl _))
end f_is_lines
namespace t_label
abbrev st:Stmt:=top 17
theorem sc:FnScope ["thing"] ["thing"] (zG st):=QS0
theorem ok {f:Addr}{fd:FuncData}(F:Fun K "is_label" "is_label" st f fd)(T:Txt P w K mg t1 t2 t3 t4 t5 t6 t7 aL aC aN aT aA b1 b2):FnOk P w K mg base CX0 1 f fd ["thing"] (G2 K):=by
 refine F.ok sc (fun vs H Q E h=>?_) (fun cdv A outer s H vs Q E hr h=>?_)
 ·obtain ⟨d,v,rfl,_⟩:=h;rfl
 ·obtain ⟨d,v,rfl,hd,sm,k⟩:=h;refine ⟨_,(zD (yI (y9 (zX (K:=K) (zK (zV (K:=K)) (by rfl) T.isinstance Zx (zA (pv 0) (zA (yS (v:=.ty "str") rfl T.str ZY rfl) zC))) (fun _=>rfl)))
    (zE (zL x5))
    zR)
   (zE (zL (yV (IX op_le op_le zI (zK x8 (by rfl) T.len ZS (zA (pv 0) zC)) (jC (v:=.int 8) rfl T.LONGEST_LABEL ⟨_,rfl⟩)) (xK (zK (x6 rfl) (by rfl) T.all Yu (zA (y6 (sc:=zG st) (N:=["thing"]) (N':=["sign"]) (src:=[none]) ⟨by decide +kernel,rfl,rfl,by decide +kernel,by decide +kernel,by decide +kernel,by decide +kernel⟩ rfl rfl rfl (pi_str (pv 0)) (fun _ _ _ _=>(zQ (i:=0) (show (["sign"]:List Str).Nodup by decide +kernel) rfl (Or.inl rfl))) (fun _ _ _ _=>xU) (fun _ _ _ _=>(IX Bg Bg pe_str (pv 0) pe_str))) zC))))))),?_⟩
  refine ⟨_,rfl,_,_,d,_,rfl,hd,T.is (by simp [kinds]),_,rfl,?_⟩;cases d with
  | str x =>
   cases (show v=_ from hd);have xl:x.length<=1000:=ZB sm;refine Ug ?_;refine ⟨_,rfl,x,rfl,le_line (by omega),_,_,rfl,rfl,_,rfl,Uk (fun h0=>?_) (fun h0=>?_)⟩
   ·refine ⟨_,_,rfl,rfl,_,rfl,Uk (fun h1=>?_) (fun h1=>?_)⟩
    ·have h0:1<=x.length:=by have:=ZB h0;omega
     have h1:x.length<=8:=by have:=ZB h1;omega
     refine ⟨_,rfl,_,rfl,GW (fun i ys σ H2=>∃ o,σ=[o]/\H2=H/\ys=(((cs x).take i).map Uy).map V.bl) ⟨none,rfl,rfl,rfl⟩ (le_line (by omega)) ?_ ?_ ?_⟩
     ·rintro i ys σ H2 hi ⟨o,rfl,rfl,rfl⟩;rw [Q5,Q5,ZC];omega
     ·rintro i c ys σ H2 hc ⟨o,rfl,rfl,rfl⟩;rw [yU (cs_get hc),Zf];refine ⟨_,rfl,_,_,rfl,rfl,_,rfl,?_⟩;rw [le_one c 97 "a" (by decide +kernel)];refine Uk (fun h3=>?_) (fun h3=>?_)
      ·refine ⟨_,_,rfl,rfl,?_⟩;rw [one_le c 122 "z" (by decide +kernel)];have e:Uy c=decide (c<=122):=by unfold Uy;rw [h3];rfl
       rw [e];exact ⟨_,rfl,rfl,rfl⟩
      ·have e:Uy c=false:=by unfold Uy;rw [YC.mpr h3];rfl
       rw [e];exact ⟨_,rfl,rfl,rfl⟩
     ·rintro ys σ H2 ⟨o,rfl,rfl,rfl⟩ p np;refine ⟨p,_,rfl,SqL.of zB,?_⟩;rw [length_cs,ZA,all_map];have e:uJ (.str x)=(cs x).all Uy:=by
       show (decide (1<=x.length)&&decide (x.length<=8)&&(cs x).all Uy)=_;rw [Zd h0,Zd h1];rfl
      rw [e] at k;exact k _ (zF np)
    ·have e:uJ (.str x)=false:=by
      show (decide (1<=x.length)&&decide (x.length<=8)&&(cs x).all Uy)=_;rw [Zo (p:=x.length<=8) (fun z=>h1 (Zd (by omega))),JE];rfl
     rw [e] at k;exact k _ (Same.refl _)
   ·have e:uJ (.str x)=false:=by
     show (decide (1<=x.length)&&decide (x.length<=8)&&(cs x).all Uy)=_;rw [Zo (p:=1<=x.length) (fun z=>h0 (Zd (by omega)))];rfl
    rw [e] at k;exact ⟨_,rfl,k _ (Same.refl _)⟩
  | none=>exact Uf (k _ (Same.refl _))
  | bool b=>exact Uf (k _ (Same.refl _))
  | int i=>exact Uf (k _ (Same.refl _))
  | list ds=>exact Uf (k _ (Same.refl _))
  | tuple ds=>exact Uf (k _ (Same.refl _))
  | dict kvs=>exact Uf (k _ (Same.refl _))
end t_label
namespace t_row
abbrev st:Stmt:=top 18
theorem sc:FnScope ["thing"] ["thing"] (zG st):=QS0
theorem ok {f:Addr}{fd:FuncData}(F:Fun K "is_row" "is_row" st f fd)(T:Txt P w K mg t1 t2 t3 t4 t5 t6 t7 aL aC aN aT aA b1 b2)(Qk:Cal P w K mg base 1 "is_label" ["thing"] (G2 K)):FnOk P w K mg base CX0 2 f fd ["thing"] (spRow K):=by
 refine F.ok sc (fun vs H Q E h=>?_) (fun cdv A outer s H vs Q E hr h=>?_)
 ·obtain ⟨d,v,rfl,_⟩:=h;rfl
 ·obtain ⟨d,v,rfl,hd,sm,k⟩:=h;refine ⟨_,(zE (zL (yV (zK (zV (K:=K)) (by rfl) T.isinstance Zx (zA (pv 0) (zA (yS (v:=.ty "tuple") rfl T.tuple Yj rfl) zC))) (yV (yH xR (zK zY (by rfl) T.len ZS (zA (pv 0) zC)) zI (zT _)) (yV (zJ Qk hr.m (zA (z8 (ix_tup:IxR _ (Ui K)) (pv 0) zI (fun _ _=>rfl)) zC)) (xK (zK (zV (K:=K)) (by rfl) T.isinstance Zx (zA (z8 (ix_tup:IxR _ (Ui K)) (pv 0) zI (fun _ _=>rfl)) (zA (yS (v:=.ty "str") rfl T.str ZY rfl) zC))))))))),?_⟩;refine ⟨_,rfl,_,_,d,_,rfl,hd,T.is (by simp [kinds]),_,rfl,?_⟩;cases d with
  | tuple ds =>
   obtain ⟨a,xs,rfl,hs,ha⟩:=hd;obtain ⟨sl,sa⟩:=xY sm;have hlen:=ha.length;refine Uf ⟨_,rfl,a,_,rfl,.inr hs,rfl,_,rfl,Uk (fun h1=>?_) (fun h1=>?_)⟩
   ·have h1:xs.length=2:=by have:=ZB h1;injection this with z;omega
    match ds,ha,hlen,sa,k with
    | [l,n],⟨x0,r0,e0,d0,x1,r1,e1,d1,e2⟩,_,sa,k =>
     have e2:r1=[]:=e2;subst e2 e1 e0;refine ⟨_,rfl,a,_,_,_,rfl,rfl,hs,rfl,l,_,rfl,d0,yL (i:=0) sa rfl,fun H2 s2=>⟨_,rfl,Uk (fun h2=>?_) (fun h2=>?_)⟩⟩
     ·refine ⟨_,rfl,a,_,_,_,rfl,rfl,s2.tupS hs,rfl,_,_,n,_,rfl,d1.same s2,T.is (by simp [kinds]),?_⟩;have e:UO (.tuple [l,n])=(UC n=="str"||(UC n=="bool"&&"str"=="int")):=by
       show (uJ l&&Ux n)=_;rw [h2];cases n<;>rfl
      rw [e] at k;exact k _ s2
     ·have e:UO (.tuple [l,n])=false:=by
       show (uJ l&&Ux n)=_;rw [YC.mpr h2];rfl
      rw [e] at k;exact k _ s2
    | [],_,hl,_,_=>exact absurd (hl.symm.trans h1) (by simp)
    | [_],_,hl,_,_=>exact absurd (hl.symm.trans h1) (by simp)
    | _::_::_::_,_,hl,_,_=>exact absurd (hl.symm.trans h1) (by simp)
   ·have e:UO (.tuple ds)=false:=by
     match ds,hlen with
     | [_,_],hl=>exact absurd (Zd (by rw [hl];rfl)) h1
     | [],_=>rfl
     | [_],_=>rfl
     | _::_::_::_,_=>rfl
    rw [e] at k;exact k _ (Same.refl _)
  | none=>exact Ug (k _ (Same.refl _))
  | bool b=>exact Ug (k _ (Same.refl _))
  | int i=>exact Ug (k _ (Same.refl _))
  | list ds=>exact Ug (k _ (Same.refl _))
  | str x=>exact Ug (k _ (Same.refl _))
  | dict kvs=>exact Ug (k _ (Same.refl _))
end t_row
namespace t_parents
abbrev st:Stmt:=top 20
theorem sc:FnScope ["thing"] ["thing"] (zG st):=QS0
theorem ok {f:Addr}{fd:FuncData}(F:Fun K "is_parents" "is_parents" st f fd)(T:Txt P w K mg t1 t2 t3 t4 t5 t6 t7 aL aC aN aT aA b1 b2):FnOk P w K mg base CX0 1 f fd ["thing"] (IG K):=by
 refine F.ok sc (fun vs H Q E h=>?_) (fun cdv A outer s H vs Q E hr h=>?_)
 ·obtain ⟨d,v,rfl,_⟩:=h;rfl
 ·obtain ⟨d,v,rfl,hd,sm,k⟩:=h;refine ⟨_,(zD (yI (PW.pt (j8 (y9 (zX (K:=K) (zK (zV (K:=K)) (by rfl) T.isinstance Zx (zA (pv 0) (zA (yS (v:=.ty "tuple") rfl T.tuple Yj rfl) zC))) (fun _=>rfl))) (qZ (y9 (zX (K:=K) (zK (x6 rfl) (by rfl) T.all Yu (zA (y6 (sc:=zG st) (N:=["thing"]) (N':=["name"]) (src:=[none]) ⟨by decide +kernel,rfl,rfl,by decide +kernel,by decide +kernel,by decide +kernel,by decide +kernel⟩ rfl rfl rfl (qU (pv 0)) (fun _ _ _ _=>(zQ (i:=0) (show (["name"]:List Str).Nodup by decide +kernel) rfl (Or.inl rfl))) (fun _ _ _ _=>xU) (fun _ _ _ _=>(zK (zV (K:=K)) (by rfl) T.isinstance Zx (zA (pv 0) (zA (yS (v:=.ty "str") rfl T.str ZY rfl) zC))))) zC)) (fun _=>rfl))))))
    (zE (zL x5))
    zR)
   (zE (zL (yV (yH op_le (zK zY (by rfl) T.len ZS (zA (pv 0) zC)) (jC (v:=.int 2) rfl T.MOST_PARENTS ⟨_,rfl⟩) (zT _)) (xK (yH xR (zK call_lenS (by rfl) T.len ZS (zA (zZ (uZ (K:=K) rfl) (by rfl) T.set Jw (zA (pv 0) zC)) zC)) (zK zY (by rfl) T.len ZS (zA (pv 0) zC)) (zT _))))))),?_⟩
  refine ⟨_,rfl,_,_,d,_,rfl,hd,T.is (by simp [kinds]),_,rfl,?_⟩;cases d with
  | tuple ds =>
   obtain ⟨a,xs,rfl,hs,ha⟩:=hd;obtain ⟨sl,sa⟩:=xY sm;have hlen:=ha.length;refine Ug ⟨_,rfl,a,rfl,⟨_,hs⟩,jK (K:=K) (a:=a) (xs:=xs) (fun i ys σ H2=>∃ o,σ=[o]/\H2=H/\ys=((ds.take i).map Ux).map V.bl) ⟨none,rfl,rfl,rfl⟩ (le_line (by omega)) ?_ ?_ ?_⟩
   ·rintro i ys σ H2 hi ⟨o,rfl,rfl,rfl⟩;refine ⟨hs,?_⟩;rw [Q5,Q5,ZC];omega
   ·rintro i x ys σ H2 hx ⟨o,rfl,rfl,rfl⟩;obtain ⟨d,hd,dx⟩:=ha.get hx;refine ⟨_,rfl,_,_,d,_,rfl,dx,T.is (by simp [kinds]),_,rfl,rfl,?_⟩;rw [k7,yU hd,Zf];rfl
   ·rintro ys σ H2 ⟨o,rfl,rfl,rfl⟩ p np;refine ⟨p,_,rfl,SqL.of zB,?_⟩;rw [hlen,ZA,all_map];have u:=zF (o:=.lst ((ds.map Ux).map V.bl)) np;cases q:ds.all Ux with
    | false =>
     have e:qM (.tuple ds)=false:=by show (ds.all Ux&&_)=false;rw [q];rfl
     rw [e] at k;exact ⟨_,rfl,Uf (k _ u)⟩
    | true =>
     have ex:=B8 ha q;rw [ex] at hs;refine ⟨_,rfl,Ug ?_⟩;refine ⟨_,rfl,a,_,rfl,.inr (u.tupS hs),_,_,rfl,rfl,_,rfl,Uk (fun h1=>?_) (fun h1=>?_)⟩
     ·refine ⟨_,rfl,a,ds.map txtD,rfl,.inr (u.tupS hs),by rw [Q5];exact sl,fun p2 n2=>?_⟩;have u2:=zF (o:=UN P w p2 (AxS.uniq (ds.map txtD))) n2;refine ⟨p2,_,rfl,zB,_,rfl,a,_,rfl,.inr ((u.trans u2).tupS hs),rfl,?_⟩;have l2:ds.length<=2:=by have:=ZB h1;rw [Q5,Q5] at this;omega
      have e:qM (.tuple ds)=decide (V.int (((AxS.uniq (ds.map txtD)).length:Nat):Int)=V.int (((((ds.map txtD).map V.str).length:Nat)):Int)):=by
       show (ds.all Ux&&(decide (ds.length<=2)&&decide _))=_;rw [q,Zd l2,VX,VX,ZU,Zq,Zq,Q5,Q5];constructor
       ·intro z;rw [z]
       ·intro z;injection z with z;omega
      rw [e] at k;exact k _ (u.trans u2)
     ·have e:qM (.tuple ds)=false:=by
       show (ds.all Ux&&(decide (ds.length<=2)&&_))=false;rw [Zo (p:=ds.length<=2) (fun z=>h1 (Zd (by rw [Q5,Q5];omega))),Y3,JE]
      rw [e] at k;exact k _ u
  | none=>exact Uf (k _ (Same.refl _))
  | bool b=>exact Uf (k _ (Same.refl _))
  | int i=>exact Uf (k _ (Same.refl _))
  | list ds=>exact Uf (k _ (Same.refl _))
  | str x=>exact Uf (k _ (Same.refl _))
  | dict kvs=>exact Uf (k _ (Same.refl _))
end t_parents
namespace t_rows
abbrev st:Stmt:=top 19
theorem sc:FnScope ["thing","labels"] ["thing"] (zG st):=QS0
theorem ok {f:Addr}{fd:FuncData}(F:Fun K "is_rows" "is_rows" st f fd)(T:Txt P w K mg t1 t2 t3 t4 t5 t6 t7 aL aC aN aT aA b1 b2)(QF:Cal P w K mg base 2 "is_row" ["thing"] (spRow K)):FnOk P w K mg base CX0 3 f fd ["thing"] (spRows K):=by
 refine F.ok sc (fun vs H Q E h=>?_) (fun cdv A outer s H vs Q E hr h=>?_)
 ·obtain ⟨d,v,rfl,_⟩:=h;rfl
 ·obtain ⟨d,v,rfl,hd,sm,d60,k⟩:=h;refine ⟨_,(zD (yI (PW.pt (j8 (y9 (zX (K:=K) (zK (zV (K:=K)) (by rfl) T.isinstance Zx (zA (pv 0) (zA (yS (v:=.ty "tuple") rfl T.tuple Yj rfl) zC))) (fun _=>rfl))) (qZ (y9 (zX (K:=K) (zK (x6 rfl) (by rfl) T.all Yu (zA (y6 (sc:=zG st) (N:=["thing","labels"]) (N':=["row"]) (src:=[none]) ⟨by decide +kernel,rfl,rfl,by decide +kernel,by decide +kernel,by decide +kernel,by decide +kernel⟩ rfl rfl rfl (qU (pv 0)) (fun _ _ _ _=>(zQ (i:=0) (show (["row"]:List Str).Nodup by decide +kernel) rfl (Or.inl rfl))) (fun _ _ _ _=>xU) (fun _ _ _ _=>(zJ QF hr.m (zA (pv 0) zC)))) zC)) (fun _=>rfl))))))
    (zE (zL x5))
    zR)
   (zD (ps_setc (sc:=zG st) (N:=["thing","labels"]) (N':=["row"]) (src:=[none]) ⟨by decide +kernel,rfl,rfl,by decide +kernel,by decide +kernel,by decide +kernel,by decide +kernel⟩ rfl rfl rfl (qU (pv 0)) (fun _ _ _ _=>(zQ (i:=0) (show (["row"]:List Str).Nodup by decide +kernel) rfl (Or.inl rfl))) (fun _ _ _ _=>xU) (fun _ _ _ _=>(z8 (ix_tup:IxR _ (Ui K)) (pv 0) zI (fun _ _=>rfl))) sc.nd rfl (Or.inl rfl) (k:=1))
   (zE (zL (yH (op_eqD hr.units) (pv 1) (zK (Be rfl) (by rfl) T.sorted JX (zA (zZ (uZ (K:=K) rfl) (by rfl) T.set Jw (zA (pv 1) zC)) zC)) (zT _)))))),?_⟩
  refine ⟨_,rfl,_,_,d,_,rfl,hd,T.is (by simp [kinds]),_,rfl,?_⟩;cases d with
  | tuple ds =>
   have d60:=d60 ds rfl;obtain ⟨a,xs,rfl,hs,ha⟩:=hd;obtain ⟨sl,sa⟩:=xY sm;have hlen:=ha.length;refine Ug ⟨_,rfl,a,rfl,⟨_,hs⟩,jK (K:=K) (a:=a) (xs:=xs) (fun i ys σ H2=>∃ o,σ=[o]/\Same H H2/\ys=((ds.take i).map UO).map V.bl) ⟨none,rfl,Same.refl _,rfl⟩ (le_line (by omega)) ?_ ?_ ?_⟩
   ·rintro i ys σ H2 hi ⟨o,rfl,e2,rfl⟩;refine ⟨e2.tupS hs,?_⟩;rw [Q5,Q5,ZC];omega
   ·rintro i x ys σ H2 hx ⟨o,rfl,e2,rfl⟩;obtain ⟨d,hd,dx⟩:=ha.get hx;refine ⟨_,rfl,d,x,rfl,dx.same e2,yL sa hd,fun H3 e3=>⟨_,rfl,e2.trans e3,?_⟩⟩;rw [yU hd,Zf];rfl
   ·rintro ys σ H2 ⟨o,rfl,e2,rfl⟩ p np;refine ⟨p,_,rfl,SqL.of zB,?_⟩;rw [hlen,ZA,all_map];have u:=e2.trans (zF (o:=.lst ((ds.map UO).map V.bl)) np);cases q:ds.all UO with
    | false =>
     have e:BJ (.tuple ds)=false:=by show (ds.all UO&&_)=false;rw [q];rfl
     rw [e] at k;exact ⟨_,rfl,Uf (k _ u)⟩
    | true =>
     refine ⟨_,rfl,Ug ?_⟩;show tSeq _ _ _ _ (upd H2 p (.lst ((ds.map UO).map V.bl)));generalize upd H2 p (.lst ((ds.map UO).map V.bl))=G at u;have haG:=DwAll.same u _ _ ha;refine ⟨_,rfl,a,rfl,⟨_,u.tupS hs⟩,jK (K:=K) (a:=a) (xs:=xs) (fun i ys σ H2=>∃ o,σ=[o]/\H2=G/\ys=((ds.take i).map UB).map V.str) ⟨none,rfl,rfl,rfl⟩ (le_line (by omega)) ?_ ?_ ?_⟩
     ·rintro i ys σ H2 hi ⟨o,rfl,rfl,rfl⟩;refine ⟨u.tupS hs,?_⟩;rw [Q5,Q5,ZC];omega
     ·rintro i x ys σ H2 hx ⟨o,rfl,rfl,rfl⟩;obtain ⟨d,hd,dx⟩:=haG.get hx;obtain ⟨t,y,rfl,ht,_⟩:=row_atW dx (ZI.mp q d (Zk hd));refine ⟨_,rfl,t,_,_,_,rfl,rfl,ht,rfl,_,rfl,rfl,?_⟩;have e1:ds.take (i+1)=ds.take i++[d]:=by rw [Yv,hd];rfl
      rw [e1,Zf,Zf];rfl
     ·rintro ys σ H2 ⟨o,rfl,rfl,rfl⟩ l nl;rw [hlen,ZA];have v1:=zF (o:=.lst ((ds.map UB).map V.str)) nl;have ul:=AxS.uniq_len _ (ds.map UB) rfl;rw [Q5] at ul;refine ⟨_,rfl,_,rfl,l,ds.map UB,rfl,.inl (SqL.of zB),by rw [Q5];omega,fun p2 n2=>?_⟩;have v2:=v1.trans (zF (o:=UN P w p2 (AxS.uniq (ds.map UB))) n2);refine ⟨p2,_,rfl,zB,by omega,fun l3 ss n3 hp hso=>?_⟩;have v3:=v2.trans (zF (o:=.lst (ss.map V.str)) n3);have okL:∀ x∈ds.map UB,PyData.strOk x=true:=fun x hx=>by
       obtain ⟨d,hd,rfl⟩:=Za.mp hx;obtain ⟨j,hj⟩:=List.getElem?_of_mem hd;obtain ⟨z,hz,dz⟩:=haG.at hj;obtain ⟨_,_,_,_,hl⟩:=row_atW dz (ZI.mp q d hd);exact Go hl
      have okS:∀ x∈ss,PyData.strOk x=true:=fun x hx=>okL x (uniq_mem (hp.mem_iff.mp hx));have hlb:=(v2.trans (zF (o:=.lst (ss.map V.str)) n3));have hl3:=(((zF (o:=UN P w p2 (AxS.uniq (ds.map UB))) n2).trans (zF (o:=.lst (ss.map V.str)) n3))) _ _ (zB (H:=H2) (a:=l) (o:=.lst ((ds.map UB).map V.str)));refine ⟨.list ((ds.map UB).map .str),.list (ss.map .str),⟨l,_,rfl,SqL.of hl3,DtAll.strs _⟩,⟨l3,_,rfl,SqL.of zB,DtAll.strs _⟩,(yD okL).1,(yD okS).1,?_⟩;have ev:PyData.eqv (.list ((ds.map UB).map .str)) (.list (ss.map .str))=decide (ds.map UB=ss):=xP _ _;rw [ev,sorted_set hp hso];have e:BJ (.tuple ds)=UR (ds.map UB):=by show (ds.all UO&&_)=_;rw [q];rfl
      rw [e] at k;exact k _ (u.trans v3)
  | none=>exact Uf (k _ (Same.refl _))
  | bool b=>exact Uf (k _ (Same.refl _))
  | int i=>exact Uf (k _ (Same.refl _))
  | list ds=>exact Uf (k _ (Same.refl _))
  | str x=>exact Uf (k _ (Same.refl _))
  | dict kvs=>exact Uf (k _ (Same.refl _))
end t_rows
namespace t_leaf
abbrev st:Stmt:=top 21
theorem sc:FnScope ["word","parts"] ["word","parts"] (zG st):=QS0
theorem ok {f:Addr}{fd:FuncData}(F:Fun K "is_leaf" "is_leaf" st f fd)(T:Txt P w K mg t1 t2 t3 t4 t5 t6 t7 aL aC aN aT aA b1 b2)(Ql:Cal P w K mg base 3 "is_lines" ["thing"] (Bn K)):FnOk P w K mg base CX0 4 f fd ["word","parts"] (Xf K UF):=by
 refine F.ok sc (fun vs H Q E h=>?_) (fun cdv A outer s H vs Q E hr h=>?_)
 ·obtain ⟨word,a,ds,xs,rfl,_⟩:=h;rfl
 ·obtain ⟨word,a,ds,xs,rfl,hs,ha,sa,d60,e60,k⟩:=h;refine ⟨_,(zE (zL (yV (yH xR (pv 0) pe_str (zT _)) (yV (yH xR (zK zY (by rfl) T.len ZS (zA (pv 1) zC)) zI (zT _)) (xK (zJ Ql hr.m (zA (z8 (ix_tup:IxR _ (Ui K)) (pv 1) zI (fun _ _=>rfl)) zC))))))),?_⟩;have hlen:=ha.length;refine ⟨_,rfl,rfl,_,rfl,Uk (fun h1=>?_) (fun h1=>?_)⟩
  ·have h1:V.str word=V.str "leaf":=ZB h1;have h1:word="leaf":=by injection h1
   refine ⟨_,rfl,a,_,rfl,.inr hs,rfl,_,rfl,Uk (fun h2=>?_) (fun h2=>?_)⟩
   ·have h2:xs.length=1:=by have:=ZB h2;injection this with z;omega
    have hd0:ds[0]?=some (atD ds 0):=by
     have:ds[0]?=some (ds[0]'(by omega)):=Zj _;unfold atD;rw [this];rfl
    obtain ⟨x,hx,dx⟩:=ha.at hd0;refine ⟨_,rfl,a,_,_,_,rfl,rfl,hs,xI (j:=0) hx,atD ds 0,_,rfl,dx,yL sa hd0,fun H2 s2=>?_⟩;have e:UF word ds=UW (atD ds 0):=by
     unfold UF;rw [Zd h1,Zd (show ds.length=1 by omega)];rfl
    rw [e] at k;exact k _ s2
   ·have e:UF word ds=false:=by
     unfold UF;rw [Zo (p:=ds.length=1) (fun z=>h2 (Zd (by rw [hlen,z];rfl))),Y3,JE]
    rw [e] at k;exact k _ (Same.refl _)
  ·have e:UF word ds=false:=by
    unfold UF;rw [Zo (p:=word="leaf") (fun z=>h1 (Zd (by rw [z]))),Y3]
   rw [e] at k;exact k _ (Same.refl _)
end t_leaf
namespace t_tree
abbrev st:Stmt:=top 22
theorem sc:FnScope ["word","parts"] ["word","parts"] (zG st):=QS0
theorem ok {f:Addr}{fd:FuncData}(F:Fun K "is_tree" "is_tree" st f fd)(T:Txt P w K mg t1 t2 t3 t4 t5 t6 t7 aL aC aN aT aA b1 b2)(QG:Cal P w K mg base 3 "is_rows" ["thing"] (spRows K)):FnOk P w K mg base CX0 4 f fd ["word","parts"] (Xf K UD):=by
 refine F.ok sc (fun vs H Q E h=>?_) (fun cdv A outer s H vs Q E hr h=>?_)
 ·obtain ⟨word,a,ds,xs,rfl,_⟩:=h;rfl
 ·obtain ⟨word,a,ds,xs,rfl,hs,ha,sa,d60,e60,k⟩:=h;refine ⟨_,(zE (zL (yV (yH xR (pv 0) pe_str (zT _)) (yV (yH xR (zK zY (by rfl) T.len ZS (zA (pv 1) zC)) zI (zT _)) (xK (zJ QG hr.m (zA (z8 (ix_tup:IxR _ (Ui K)) (pv 1) zI (fun _ _=>rfl)) zC))))))),?_⟩;have hlen:=ha.length;refine ⟨_,rfl,rfl,_,rfl,Uk (fun h1=>?_) (fun h1=>?_)⟩
  ·have h1:V.str word=V.str "tree":=ZB h1;have h1:word="tree":=by injection h1
   refine ⟨_,rfl,a,_,rfl,.inr hs,rfl,_,rfl,Uk (fun h2=>?_) (fun h2=>?_)⟩
   ·have h2:xs.length=1:=by have:=ZB h2;injection this with z;omega
    have hd0:ds[0]?=some (atD ds 0):=by
     have:ds[0]?=some (ds[0]'(by omega)):=Zj _;unfold atD;rw [this];rfl
    obtain ⟨x,hx,dx⟩:=ha.at hd0;refine ⟨_,rfl,a,_,_,_,rfl,rfl,hs,xI (j:=0) hx,atD ds 0,_,rfl,dx,yL sa hd0,fun es he=>e60 _ (Zk hd0) es he,fun H2 s2=>?_⟩;have e:UD word ds=BJ (atD ds 0):=by
     unfold UD;rw [Zd h1,Zd (show ds.length=1 by omega)];rfl
    rw [e] at k;exact k _ s2
   ·have e:UD word ds=false:=by
     unfold UD;rw [Zo (p:=ds.length=1) (fun z=>h2 (Zd (by rw [hlen,z];rfl))),Y3,JE]
    rw [e] at k;exact k _ (Same.refl _)
  ·have e:UD word ds=false:=by
    unfold UD;rw [Zo (p:=word="tree") (fun z=>h1 (Zd (by rw [z]))),Y3]
   rw [e] at k;exact k _ (Same.refl _)
end t_tree
namespace t_note
abbrev st:Stmt:=top 23
theorem sc:FnScope ["word","parts"] ["word","parts"] (zG st):=QS0
theorem ok {f:Addr}{fd:FuncData}(F:Fun K "is_note" "is_note" st f fd)(T:Txt P w K mg t1 t2 t3 t4 t5 t6 t7 aL aC aN aT aA b1 b2)(QH:Cal P w K mg base 1 "is_parents" ["thing"] (IG K))(Qj:Cal P w K mg base 2 "is_line" ["thing"] (spLine K)):FnOk P w K mg base CX0 3 f fd ["word","parts"] (Xf K UL):=by
 refine F.ok sc (fun vs H Q E h=>?_) (fun cdv A outer s H vs Q E hr h=>?_)
 ·obtain ⟨word,a,ds,xs,rfl,_⟩:=h;rfl
 ·obtain ⟨word,a,ds,xs,rfl,hs,ha,sa,d60,e60,k⟩:=h;refine ⟨_,(zD (yI (PW.pt (j8 (zW vS (pv 0) pe_str (zT _)) (qZ (zW vS (zK zY (by rfl) T.len ZS (zA (pv 1) zC)) zI (zT _)))))
    (zE (zL x5))
    zR)
   (zE (zL (yV (zK (zV (K:=K)) (by rfl) T.isinstance Zx (zA (z8 (ix_tup:IxR _ (Ui K)) (pv 1) zI (fun _ _=>rfl)) (zA (yS (v:=.ty "str") rfl T.str ZY rfl) zC))) (yV (zJ QH hr.m (zA (z8 (ix_tup:IxR _ (Ui K)) (pv 1) zI (fun _ _=>rfl)) zC)) (xK (zJ Qj hr.m (zA (z8 (ix_tup:IxR _ (Ui K)) (pv 1) zI (fun _ _=>rfl)) zC)))))))),?_⟩
  have hlen:=ha.length
  by_cases h1:word="note"
  ·refine ⟨_,rfl,rfl,_,rfl,iteNS (by rw [h1]) ?_⟩
   by_cases h2:ds.length=3
   ·refine ⟨_,rfl,a,_,rfl,.inr hs,rfl,_,rfl,iteNS (by rw [hlen,h2];rfl) ?_⟩;have get:∀ i,i<3->ds[i]?=some (atD ds i):=fun i hi=>by
     have:ds[i]?=some (ds[i]'(by omega)):=Zj _;unfold atD;rw [this];rfl
    obtain ⟨x0,hx0,dx0⟩:=ha.at (get 0 (by decide));obtain ⟨x1,hx1,dx1⟩:=ha.at (get 1 (by decide));obtain ⟨x2,hx2,dx2⟩:=ha.at (get 2 (by decide));have e:UL word ds=(Ux (atD ds 0)&&(qM (atD ds 1)&&UJ (atD ds 2))):=by
     unfold UL;rw [Zd h1,Zd h2];rfl
    rw [e] at k;refine ⟨_,rfl,a,_,_,_,rfl,rfl,hs,xI (j:=0) hx0,_,_,atD ds 0,_,rfl,dx0,T.is (by simp [kinds]),_,rfl,?_⟩;rw [k7];cases q0:Ux (atD ds 0) with
    | false =>
     rw [q0] at k;exact Ug (k _ (Same.refl _))
    | true =>
     rw [q0] at k;refine Uf ⟨_,rfl,a,_,_,_,rfl,rfl,hs,xI (j:=1) hx1,atD ds 1,_,rfl,dx1,yL sa (get 1 (by decide)),fun H2 s2=>⟨_,rfl,?_⟩⟩;cases q1:qM (atD ds 1) with
     | false =>
      rw [q1] at k;exact Ug (k _ s2)
     | true =>
      rw [q1] at k;exact Uf ⟨_,rfl,a,_,_,_,rfl,rfl,s2.tupS hs,xI (j:=2) hx2,atD ds 2,_,rfl,dx2.same s2,yL sa (get 2 (by decide)),fun H3 s3=>k _ (s2.trans s3)⟩
   ·have e:UL word ds=false:=by
     unfold UL;rw [Zo h2,Y3,JE]
    rw [e] at k;refine ⟨_,rfl,a,_,rfl,.inr hs,rfl,_,rfl,?_⟩;rw [Zo (p:=V.int ((xs.length:Nat):Int)=V.int 3) (fun z=>h2 (by injection z with z;omega))];exact Uf (k _ (Same.refl _))
  ·have e:UL word ds=false:=by
    unfold UL;rw [Zo h1,Y3]
   rw [e] at k;refine ⟨_,rfl,rfl,_,rfl,?_⟩;rw [Zo (p:=V.str word=V.str "note") (fun z=>h1 (by injection z))];exact Uf (Uf (k _ (Same.refl _)))
end t_note
namespace t_thing
abbrev st:Stmt:=top 24
theorem sc:FnScope ["thing","word","parts"] ["thing"] (zG st):=QS0
theorem ok {f:Addr}{fd:FuncData}(F:Fun K "is_thing" "is_thing" st f fd)(T:Txt P w K mg t1 t2 t3 t4 t5 t6 t7 aL aC aN aT aA b1 b2)(QI:Cal P w K mg base 4 "is_leaf" ["word","parts"] (Xf K UF))(QJ:Cal P w K mg base 4 "is_tree" ["word","parts"] (Xf K UD))(QK:Cal P w K mg base 3 "is_note" ["word","parts"] (Xf K UL)) :
  FnOk P w K mg base CX0 5 f fd ["thing"] (BZ K):=by
 refine F.ok sc (fun vs H Q E h=>?_) (fun cdv A outer s H vs Q E hr h=>?_)
 ·obtain ⟨d,v,rfl,_⟩:=h;rfl
 ·obtain ⟨d,v,rfl,hd,sm,nar,k⟩:=h;refine ⟨_,(zD (yI (PW.pt (j8 (y9 (zX (K:=K) (zK (zV (K:=K)) (by rfl) T.isinstance Zx (zA (pv 0) (zA (yS (v:=.ty "tuple") rfl T.tuple Yj rfl) zC))) (fun _=>rfl))) (j8 (zW xR (zK zY (by rfl) T.len ZS (zA (pv 0) zC)) zI (zT _)) (qZ (y9 (zX (K:=K) (zK (zV (K:=K)) (by rfl) T.isinstance Zx (zA (z8 (ix_tup:IxR _ (Ui K)) (pv 0) zI (fun _ _=>rfl)) (zA (yS (v:=.ty "str") rfl T.str ZY rfl) zC))) (fun _=>rfl)))))))
    (zE (zL x5))
    zR)
   (zD (zP (i:=1) sc.nd rfl (Or.inl rfl) (z8 (ix_tup:IxR _ (Ui K)) (pv 0) zI (fun _ _=>rfl)))
   (zD (zP (i:=2) sc.nd rfl (Or.inl rfl) (jM (sl_tup2:SlR _ (rSlT2 K)) (pv 0) (jI zI) XG))
   (zE (zL (pe_or (zJ QI hr.m (zA (pv 1) (zA (pv 2) zC))) (pe_or (zJ QJ hr.m (zA (pv 1) (zA (pv 2) zC))) (xK (zJ QK hr.m (zA (pv 1) (zA (pv 2) zC))))))))))),?_⟩
  refine ⟨_,rfl,_,_,d,_,rfl,hd,T.is (by simp [kinds]),_,rfl,?_⟩;cases d with
  | tuple ds =>
   obtain ⟨n1,n2⟩:=nar ds rfl;obtain ⟨a,xs,rfl,hs,ha⟩:=hd;obtain ⟨sl,sa⟩:=xY sm;have hlen:=ha.length;refine Ug ?_
   match ds,ha,hlen,sa,n1,n2,k with
   | [],ha,hlen,sa,n1,n2,k =>
    refine ⟨_,rfl,a,_,rfl,.inr hs,rfl,_,rfl,?_⟩;rw [Zd (show V.int ((xs.length:Nat):Int)=V.int 0 by rw [hlen];rfl)];exact Uf (Uf (k _ (Same.refl _)))
   | d0::ds,⟨x0,r,ex,hd0,hr'⟩,hlen,sa,n1,n2,k =>
    subst ex;refine ⟨_,rfl,a,_,rfl,.inr hs,rfl,_,rfl,iteN (fun z=>by injection z with z;simp at z;omega) ?_⟩;refine ⟨_,rfl,a,_,_,_,rfl,rfl,hs,xI (j:=0) rfl,_,_,d0,_,rfl,hd0,T.is (by simp [kinds]),_,rfl,?_⟩;rw [k7];cases d0 with
    | str word =>
     cases (show x0=_ from hd0);refine Ug ?_;refine ⟨_,rfl,a,_,_,_,rfl,rfl,hs,xI (j:=0) rfl,?_⟩;refine ⟨_,rfl,_,rfl,a,_,rfl,hs,fun v H1 hv=>?_⟩;obtain ⟨q,rfl,s1,hq⟩:=cut_any hs hv;rw [cut_from (by decide)] at hq;have hq:SqT K H1 q r:=hq;have sa':yF ds=true:=by
      have sa:(small (.str word)&&yF ds)=true:=sa;rw [Zg] at sa;exact sa.2
     have n1':ds.length<=60:=by have:=n1;simp at this;omega
     have n2':∀ e∈ds,∀ es,e=.tuple es->es.length<=60:=fun e he=>n2 e (Zb _ he);refine ⟨_,rfl,_,rfl,word,q,ds,r,rfl,hq,DwAll.same s1 _ _ hr',sa',n1',n2',fun H2 s2=>⟨_,rfl,?_⟩⟩;have k:∀ H',Same H H'->Q (.bl (UF word ds||(UD word ds||UL word ds))) H':=k;cases q0:UF word ds with
     | true =>
      rw [q0] at k;exact Uf (k _ (s1.trans s2))
     | false =>
      rw [q0,VU] at k;have s12:=s1.trans s2;refine Ug ⟨_,rfl,_,rfl,word,q,ds,r,rfl,s2.tupS hq,DwAll.same s12 _ _ hr',sa',n1',n2',fun H3 s3=>⟨_,rfl,?_⟩⟩;cases q1:UD word ds with
      | true =>
       rw [q1] at k;exact Uf (k _ (s12.trans s3))
      | false =>
       rw [q1,VU] at k;exact Ug ⟨_,rfl,_,rfl,word,q,ds,r,rfl,(s2.trans s3).tupS hq,DwAll.same (s12.trans s3) _ _ hr',sa',n1',n2',fun H4 s4=>k _ ((s12.trans s3).trans s4)⟩
    | none=>exact Uf (k _ (Same.refl _))
    | bool _=>exact Uf (k _ (Same.refl _))
    | int _=>exact Uf (k _ (Same.refl _))
    | list _=>exact Uf (k _ (Same.refl _))
    | tuple _=>exact Uf (k _ (Same.refl _))
    | dict _=>exact Uf (k _ (Same.refl _))
  | none=>exact Uf (Uf (k _ (Same.refl _)))
  | bool b=>exact Uf (Uf (k _ (Same.refl _)))
  | int i=>exact Uf (Uf (k _ (Same.refl _)))
  | list ds=>exact Uf (Uf (k _ (Same.refl _)))
  | str x=>exact Uf (Uf (k _ (Same.refl _)))
  | dict kvs=>exact Uf (Uf (k _ (Same.refl _)))
end t_thing
namespace t_need
abbrev st:Stmt:=top 25
theorem sc:FnScope ["thing"] ["thing"] (zG st):=QS0
theorem ok {f:Addr}{fd:FuncData}(F:Fun K "need_thing" "need_thing" st f fd)(T:Txt P w K mg t1 t2 t3 t4 t5 t6 t7 aL aC aN aT aA b1 b2)(QL:Cal P w K mg base 5 "is_thing" ["thing"] (BZ K)):FnOk P w K mg base (CXF P w) 6 f fd ["thing"] (spNeed K aT):=by
 refine F.okX sc (fun vs H Q E h=>?_) (fun cdv A outer s H vs Q E hr h=>?_)
 ·obtain ⟨d,v,rfl,_⟩:=h;rfl
 ·obtain ⟨d,v,rfl,hd,sm,nar,k1,k2⟩:=h;refine ⟨_,(zD (yI (y9 (zX (K:=K) (zJ QL hr.m (zA (pv 0) zC)) (fun _=>rfl)))
    (zE (x9 rfl xL rfl T.NoThing T.xNoThing (zA pe_str zC)))
    zR)
   (zE (zL (pv 0)))),?_⟩
  refine ⟨_,rfl,d,v,rfl,hd,sm,nar,fun H2 s2=>⟨_,rfl,?_⟩⟩;cases q:j6 d with
  | true=>exact Ug ⟨_,rfl,k1 q _ s2⟩
  | false=>exact Uf ⟨Um 1,k2 q _ s2⟩
end t_need
namespace f_letter_of
abbrev st:Stmt:=top 26
theorem sc:FnScope ["thing"] ["thing"] (zG st):=QS0
theorem ok {f:Addr}{fd:FuncData}(F:Fun K "letter_of" "letter_of" st f fd)(T:Txt P w K mg t1 t2 t3 t4 t5 t6 t7 aL aC aN aT aA b1 b2):FnOk P w K mg base CX0 1 f fd ["thing"] (Ik K):=by
 refine F.ok sc (fun vs H Q E h=>?_) (fun cdv A outer s H vs Q E hr h=>?_)
 ·obtain ⟨v,t,rfl,_⟩:=h;rfl
 ·obtain ⟨v,t,rfl,hd,k⟩:=h;refine ⟨_,(zE (zL (pe_kget (jC (v:=.ref aL) rfl T.LETTERS rfl) (z8 (ix_tup:IxR _ (Ui K)) (pv 0) zI (fun _ _=>rfl)) (fun _ _=>rfl)))),?_⟩;obtain ⟨a,r,rfl,hs⟩:=uQ hd;exact ⟨_,rfl,a,_,_,_,rfl,rfl,hs,atI_zero _ _,_,_,Sum.inr t.word,_,rfl,rfl,T.kd,letters_at t,k⟩
end f_letter_of
namespace f_tree_parts
abbrev st:Stmt:=top 27
theorem sc:FnScope ["rows","parts","label","name"] ["rows"] (zG st):=QS0
theorem flat_len:∀ rs:List (Str×Str),(z6 rs).length=2*rs.length
 | []=>rfl
 | r::rs=>by
  show (z6 rs).length+2=2*(rs.length+1);rw [flat_len rs];omega
theorem ok {f:Addr}{fd:FuncData}(F:Fun K "tree_parts" "tree_parts" st f fd)(T:Txt P w K mg t1 t2 t3 t4 t5 t6 t7 aL aC aN aT aA b1 b2):FnOk P w K mg base CX0 1 f fd ["rows"] (Xx K):=by
 refine F.ok sc (fun vs H Q E h=>?_) (fun cdv A outer s H vs Q E hr h=>?_)
 ·obtain ⟨v,t,rfl,_⟩:=h;rfl
 ·obtain ⟨v,rs,rfl,hd,hl,k⟩:=h;obtain ⟨a,xs,rfl,hs,hx⟩:=hd;have hxl:xs.length=rs.length:=by rw [hx.length,Q5]
  refine ⟨_,(zD (zP (i:=1) sc.nd rfl (Or.inl rfl) (qY zC))
   (zD (yW PassesOwn.never rfl (qU (pv 0)) (UZ rfl (yY (zQ (i:=2) sc.nd rfl (Or.inl rfl)) (yY (zQ (i:=3) sc.nd rfl (Or.inl rfl)) kX)))
    (zD (yP (k9 Vc JY JZ U3 (pv 1) (zA (pv 2) zC)))
    (zE (yP (k9 Vc JY JZ U3 (pv 1) (zA (pv 3) zC))))))
   (zE (zL (pv 1))))),?_⟩
  refine ⟨ZJ _,fun l nl=>?_⟩;refine ⟨_,rfl,a,rfl,⟨_,(zF nl).tupS hs⟩,uD (K:=K) (a:=a) (xs:=xs) (fun i σ H2=>∃ (x y:Option V),σ=[some (.ref a),some (.ref l),x,y]/\H2=upd H l (.lst ((z6 (rs.take i)).map V.str)))
   ⟨none,none,rfl,rfl⟩ (fun i σ H2 _ ⟨_,_,_,e⟩=>by rw [e];exact (zF nl).tupS hs) ?_ ?_⟩
  ·rintro i x σ H2 hi ⟨x0,y0,rfl,rfl⟩;obtain ⟨r,b,er,rfl,hb⟩:=BX hx hi;have hil:i<rs.length:=(Zr.mp er).1;have hll:((z6 (rs.take i)).map V.str).length<=2000:=by
    rw [Q5,flat_len,ZC];omega
   refine ⟨b,_,rfl,(zF nl).tupS hb,rfl,_,_,rfl,_,_,rfl,rfl,?_⟩;refine ⟨_,rfl,.inl ⟨rfl,_,SqL.of zB⟩,_,rfl,l,_,_,rfl,rfl,zB,J5 hll (by rw [Ym];decide),?_⟩;refine ⟨_,rfl,.inl ⟨rfl,_,SqL.of zB⟩,_,rfl,l,_,_,rfl,rfl,zB,?_,?_⟩
   ·rw [Zh,YO];exact J5 (Nat.succ_le_succ hll) (by rw [Ym];decide)
   ·refine ⟨_,_,rfl,?_⟩;rw [upd_upd,upd_upd]
    congr 2
    rw [Yv,er];show _=(z6 (rs.take i++[r])).map V.str;rw [jF,Zf];show _=(z6 (rs.take i)).map V.str++[V.str r.1,V.str r.2];rw [Z2];rfl
  ·rintro σ H2 ⟨x0,y0,rfl,rfl⟩;refine ⟨_,rfl,?_⟩;rw [hxl,ZA];exact k l nl
end f_tree_parts
theorem iteY {c A B:Prop} [Decidable c](hc:c)(h:A):if decide c=true then A else B:=by
 rw [Zd hc];exact Uf h
theorem iteN {c A B:Prop} [Decidable c](hc:¬c)(h:B):if decide c=true then A else B:=by
 rw [Zo hc];exact Ug h
theorem dig_len {n:Nat}(h:n<=100000):(dig n).length<=10:=Jc (by omega) (by decide) (by
 have:(10:Int) ^ 10=10000000000:=by decide
 rw [this];omega)
theorem GN {n:Nat}(h:n<=1900):((n:Int)).natAbs.log2<1920:=by
 rw [VL];exact J5 (Nat.log2_le_self n) (by omega)
theorem good_rows {rs:List (Str×Str)}(g:(Th.tree rs).Good):rs.length<=1000:=by
 have h:=g.1;have e:(z6 rs).length<=1000:=h;rw [f_tree_parts.flat_len] at e;omega
theorem good_pars {x:Str}{ps:List Str}{w:Str}(g:(Th.note x ps w).Good):ps.length<=1000:=by
 have h:=g.1;have e:([x,dig ps.length]++ps++[w]).length<=1000:=h;simp at e;omega
namespace f_parts_of
abbrev st:Stmt:=top 28
theorem sc:FnScope ["thing","parents"] ["thing"] (zG st):=QS0
theorem ok {f:Addr}{fd:FuncData}(F:Fun K "parts_of" "parts_of" st f fd)(T:Txt P w K mg t1 t2 t3 t4 t5 t6 t7 aL aC aN aT aA b1 b2)(QM:Cal P w K mg base 1 "tree_parts" ["rows"] (Xx K)):FnOk P w K mg base CX0 2 f fd ["thing"] (spParts K):=by
 refine F.ok sc (fun vs H Q E h=>?_) (fun cdv A outer s H vs Q E hr h=>?_)
 ·obtain ⟨v,t,rfl,_⟩:=h;rfl
 ·obtain ⟨v,t,rfl,hd,g,k⟩:=h;refine ⟨_,(zD (yI (zW xR (z8 (ix_tup:IxR _ (Ui K)) (pv 0) zI (fun _ _=>rfl)) pe_str (zT _))
    (zE (zL (zZ qX (by rfl) T.list Z4 (zA (z8 (ix_tup:IxR _ (Ui K)) (pv 0) zI (fun _ _=>rfl)) zC))))
    zR)
   (zD (yI (zW xR (z8 (ix_tup:IxR _ (Ui K)) (pv 0) zI (fun _ _=>rfl)) pe_str (zT _))
    (zE (zL (zJ QM hr.m (zA (z8 (ix_tup:IxR _ (Ui K)) (pv 0) zI (fun _ _=>rfl)) zC))))
    zR)
   (zD (zP (i:=1) sc.nd rfl (Or.inl rfl) (z8 (ix_tup:IxR _ (Ui K)) (pv 0) zI (fun _ _=>rfl)))
   (zE (zL (z7 vQ (z7 vQ (qY (zA (z8 (ix_tup:IxR _ (Ui K)) (pv 0) zI (fun _ _=>rfl)) (zA (zZ q8 (by rfl) T.str ZY (zA (zK zY (by rfl) T.len ZS (zA (pv 1) zC)) zC)) zC))) (zZ qX (by rfl) T.list Z4 (zA (pv 1) zC))) (qY (zA (z8 (ix_tup:IxR _ (Ui K)) (pv 0) zI (fun _ _=>rfl)) zC)))))))),?_⟩
  cases t with
  | leaf ls =>
   obtain ⟨a,b,rfl,hs,hb⟩:=G5 hd;refine ⟨_,rfl,a,_,_,_,rfl,rfl,hs,rfl,rfl,_,rfl,iteY rfl ?_⟩;exact ⟨_,rfl,a,_,_,_,rfl,rfl,hs,rfl,b,_,rfl,.inr hb,fun l nl=>k l _ (zF nl) nl zB⟩
  | tree rs =>
   obtain ⟨a,b,rfl,hs,hb⟩:=BE hd;refine ⟨_,rfl,a,_,_,_,rfl,rfl,hs,rfl,rfl,_,rfl,iteN (by decide +kernel) ?_⟩;refine ⟨_,rfl,a,_,_,_,rfl,rfl,hs,rfl,rfl,_,rfl,iteY rfl ?_⟩;exact ⟨_,rfl,a,_,_,_,rfl,rfl,hs,rfl,_,rs,rfl,hb,good_rows g,fun l nl=>k l _ (zF nl) nl zB⟩
  | note x ps y =>
   obtain ⟨a,b,rfl,hs,hb⟩:=Bp hd;have hp:=good_pars g;refine ⟨_,rfl,a,_,_,_,rfl,rfl,hs,rfl,rfl,_,rfl,iteN (by decide +kernel) ?_⟩;refine ⟨_,rfl,a,_,_,_,rfl,rfl,hs,rfl,rfl,_,rfl,iteN (by decide +kernel) ?_⟩;refine ⟨_,rfl,a,_,_,_,rfl,rfl,hs,rfl,?_⟩;refine ⟨_,rfl,a,_,_,_,rfl,rfl,hs,rfl,_,rfl,b,_,rfl,.inr hb,_,rfl,?_,Um 2,fun l1 n1=>?_⟩
   ·rw [Q5];exact GN (by omega)
   have s1:=zF (o:=.lst [V.str x,V.str (Str.ofString (toString (((ps.map V.str).length:Nat):Int)))]) n1;refine ⟨_,rfl,b,_,rfl,.inr (s1.tupS hb),fun l2 n2=>?_⟩;have s2:=s1.trans (zF (o:=.lst (ps.map V.str)) n2);have d12:l1≠l2:=zM zB n2;refine ⟨l1,l2,_,_,rfl,rfl,(by rw [zH d12];exact zB),zB,(by rw [Q5];exact le_line (by simp only [Zn,Ja];omega)),fun l3 n3=>?_⟩;have s3:=s2.trans (zF (o:=.lst ([V.str x,V.str (Str.ofString (toString (((ps.map V.str).length:Nat):Int)))]++ps.map V.str)) n3);refine ⟨_,rfl,a,_,_,_,rfl,rfl,s3.tupS hs,rfl,Um 1,fun l4 n4=>?_⟩;have s4:=s3.trans (zF (o:=.lst [V.str y]) n4);have d34:l3≠l4:=zM zB n4;refine ⟨l3,l4,_,_,rfl,rfl,(by rw [zH d34];exact zB),zB,?_,fun l5 n5=>?_⟩
   ·rw [Zh,Q5];exact le_line (by simp only [Zn,Ja];omega)
   ·refine k l5 _ (s4.trans (zF n5)) (s4.free n5) ?_;rw [zB]
    congr 2
    show _=([x,dig ps.length]++ps++[y]).map V.str;rw [Zf,Zf];show ([V.str x,V.str (Str.ofString (toString (((ps.map V.str).length:Nat):Int)))]++ps.map V.str)++[V.str y]=_;rw [Q5];rfl
end f_parts_of
namespace f_counted
abbrev st:Stmt:=top 29
theorem sc:FnScope ["part"] ["part"] (zG st):=QS0
theorem ok {f:Addr}{fd:FuncData}(F:Fun K "counted" "counted" st f fd)(T:Txt P w K mg t1 t2 t3 t4 t5 t6 t7 aL aC aN aT aA b1 b2):FnOk P w K mg base CX0 1 f fd ["part"] GH:=by
 refine F.ok sc (fun vs H Q E h=>?_) (fun cdv A outer s H vs Q E hr h=>?_)
 ·obtain ⟨x,rfl,_⟩:=h;rfl
 ·obtain ⟨x,rfl,hl,k⟩:=h;refine ⟨_,(zE (zL (z7 yG (z7 yG (zZ q8 (by rfl) T.str ZY (zA (zK x8 (by rfl) T.len ZS (zA (pv 0) zC)) zC)) pe_str) (pv 0)))),?_⟩;have d:=dig_len (n:=x.length) (by omega);have c1:(""++":":String).length=1:=by decide
  have c2:(":":Str).length=1:=by decide +kernel
  refine ⟨_,rfl,x,rfl,le_line (by omega),_,rfl,GN (by omega),_,_,rfl,rfl,le_line (by rw [c2];exact Yb (Nat.add_le_add_right d 1) (by decide)),_,rfl,_,_,rfl,rfl,le_line ?_,k⟩;show (dig x.length++":").length+x.length<=_;rw [len_append,c2];omega
end f_counted
namespace f_spelled
abbrev st:Stmt:=top 30
theorem sc:FnScope ["thing"] ["thing"] (zG st):=QS0
theorem len_counted {x:Str}(h:x.length<=1000):(counted x).length<=1011:=by
 have d:=dig_len (n:=x.length) (by omega);have c2:(":":Str).length=1:=by decide +kernel
 show (dig x.length++":"++x).length<=_;rw [len_append,len_append,c2];omega
theorem ok {f:Addr}{fd:FuncData}(F:Fun K "spelled" "spelled" st f fd)(T:Txt P w K mg t1 t2 t3 t4 t5 t6 t7 aL aC aN aT aA b1 b2)(Qm:Cal P w K mg base 1 "letter_of" ["thing"] (Ik K))(QN:Cal P w K mg base 2 "parts_of" ["thing"] (spParts K))
  (QO:Cal P w K mg base 1 "counted" ["part"] GH):FnOk P w K mg base CX0 3 f fd ["thing"] (Gq K):=by
 refine F.ok sc (fun vs H Q E h=>?_) (fun cdv A outer s H vs Q E hr h=>?_)
 ·obtain ⟨v,t,rfl,_⟩:=h;rfl
 ·obtain ⟨v,t,rfl,hd,g,k⟩:=h;refine ⟨_,(zE (zL (z7 yG (zJ Qm hr.m (zA (pv 0) zC)) (k9 Z0 Jx Jy XT pe_str (zA (y6 (sc:=zG st) (N:=["thing"]) (N':=["part"]) (src:=[none]) ⟨by decide +kernel,rfl,rfl,by decide +kernel,by decide +kernel,by decide +kernel,by decide +kernel⟩ rfl rfl rfl (qL (zJ QN hr.m (zA (pv 0) zC))) (fun _ _ _ _=>(zQ (i:=0) (show (["part"]:List Str).Nodup by decide +kernel) rfl (Or.inl rfl))) (fun _ _ _ _=>xU) (fun _ _ _ _=>(zJ QO hr.m (zA (pv 0) zC)))) zC))))),?_⟩;refine ⟨_,rfl,v,t,rfl,hd,rfl,_,rfl,v,t,rfl,hd,g,fun l H1 s1 nl hl=>?_⟩;have hlen:(t.parts.map V.str).length<=1000:=by rw [Q5];exact g.1
  refine ⟨l,rfl,⟨_,SqL.of hl⟩,jS (K:=K) (a:=l) (xs:=t.parts.map V.str) (fun i ys σ H2=>∃ x,σ=[x]/\H2=H1/\ys=((t.parts.take i).map counted).map V.str) ⟨none,rfl,rfl,rfl⟩ (le_line (by omega)) (fun i ys σ H2 hi ⟨x,_,e,ey⟩=>⟨by rw [e];exact SqL.of hl,?_⟩) ?_ ?_⟩
  ·rw [ey,Q5,Q5,ZC];exact Nat.min_le_left _ _
  ·rintro i x ys σ H2 hi ⟨x0,rfl,rfl,rfl⟩;rw [Zl] at hi;cases q:t.parts[i]? with
   | none=>rw [q] at hi;cases hi
   | some p =>
    rw [q] at hi;have hi:V.str p=x:=Option.some.inj hi;subst hi;have hp:=g.2 p (Zk q);refine ⟨_,rfl,p,rfl,hp.len,_,rfl,rfl,?_⟩;rw [Yv,q,Zf,Zf];rfl
  ·rintro ys σ H2 ⟨x0,rfl,rfl,rfl⟩ p np;have e:(t.parts.take (t.parts.map V.str).length)=t.parts:=by rw [Q5,ZA]
   rw [e];have b1:∀ y∈t.parts.map counted,y.length<=1011:=fun y hy=>by
    obtain ⟨z,hz,rfl⟩:=Za.mp hy;exact len_counted (g.2 z hz).len
   have b2:=Bz _ b1;have b3:(t.parts.map counted).length<=1000:=by rw [Q5];exact g.1
   have b4:(t.parts.map counted).length*1011<=1011000:=Nat.mul_le_mul_right 1011 b3;have c0:("":Str).length=0:=by decide +kernel
   have c1:t.letter.length=1:=by rw [length_cs,qW];rfl
   refine ⟨_,p,t.parts.map counted,rfl,rfl,.inl (SqL.of zB),by rw [c0];omega,_,_,rfl,rfl,?_,?_⟩
   ·have:=StrLaws.join_length_le "" (t.parts.map counted);have e2:Txt.join "" (t.parts.map counted)=Str.join "" (t.parts.map counted):=StrLaws.glued_eq_join _ _;rw [e2];rw [c0] at this;exact le_line (by omega)
   ·rw [sp_eq];exact k _ (s1.trans (zF np))
end f_spelled
namespace f_digest
abbrev st:Stmt:=top 31
theorem sc:FnScope ["thing","number","sign"] ["thing"] (zG st):=QS0
theorem ok {f:Addr}{fd:FuncData}(F:Fun K "digest" "digest" st f fd)(T:Txt P w K mg t1 t2 t3 t4 t5 t6 t7 aL aC aN aT aA b1 b2)(QP:Cal P w K mg base 3 "spelled" ["thing"] (Gq K)):FnOk P w K mg base CX0 4 f fd ["thing"] (spDigest K):=by
 refine F.ok sc (fun vs H Q E h=>?_) (fun cdv A outer s H vs Q E hr h=>?_)
 ·obtain ⟨v,t,rfl,_⟩:=h;rfl
 ·obtain ⟨v,t,rfl,hd,g,k⟩:=h;refine ⟨_,(zD (zP (i:=1) sc.nd rfl (Or.inl rfl) zI)
   (zD (yW PassesOwn.never rfl (pi_str (zJ QP hr.m (zA (pv 0) zC))) (zQ (i:=2) sc.nd rfl (Or.inl rfl))
    (zE (zP (i:=1) sc.nd rfl (Or.inl rfl) (z7 jL (z7 qA (z7 vP (jC (v:=.int 31) rfl T.DIGEST_FACTOR ⟨_,rfl⟩) (pv 1)) (zK BP (by rfl) T.ord PyProof.Rows.boot_ord (zA (pv 2) zC))) (jC (v:=.int 97) rfl T.DIGEST_BOUND ⟨_,rfl⟩)))))
   (zE (zL (pv 1))))),?_⟩
  refine ⟨_,rfl,v,t,rfl,hd,g,fun H1 s1=>⟨_,rfl,for_str (fun i σ H2=>∃ x,σ=[some v,some (.int (((cs t.sp).take i).foldl dgs 0)),x]/\H2=H1) ⟨none,rfl,rfl⟩ ?_ ?_⟩⟩
  ·rintro i c σ H2 hc ⟨x,rfl,rfl⟩;refine ⟨_,rfl,_,_,rfl,rfl,.inl ⟨by decide,by decide⟩,_,rfl,_,rfl,rfl,_,_,rfl,rfl,_,_,rfl,rfl,(by show (0:Int)<97;decide),some (.str ⟨#[c]⟩),?_,rfl⟩;have hc':(cs t.sp)[i]?=some c:=by rw [←hc];simp
   rw [Yv,hc',Yw];rfl
  ·rintro σ H2 ⟨x,rfl,rfl⟩;refine ⟨_,rfl,?_⟩;rw [length_cs,ZA];exact k _ s1
end f_digest
namespace s_names
abbrev st:Stmt:=inClass (top 53) 7
theorem sc:FnScope ["self"] ["self"] (zG st):=QS0
theorem ok {f:Addr}{fd:FuncData}(F:Fun K "names" "Shelf.names" st f fd)(T:Txt P w K mg t1 t2 t3 t4 t5 t6 t7 aL aC aN aT aA b1 b2):FnOk P w K mg base CX0 1 f fd ["self"] (Ba P w K aC):=by
 refine F.ok sc (fun vs H Q E h=>?_) (fun cdv A outer s H vs Q E hr h=>?_)
 ·obtain ⟨a,fp,S,rfl,_⟩:=h;rfl
 ·obtain ⟨a,fp,S,rfl,sh,k⟩:=h;refine ⟨_,(zE (zL (zZ (call_listD rfl) (by rfl) T.list Z4 (zA (jV (pv 0) rfl) zC)))),?_⟩;obtain ⟨g,dx,d1,d2,d3,ts,nx,rfl,nd,h1,h2,h3,h4,h5,h6,h7,h8,h9⟩:=sh;refine ⟨_,rfl,a,aC,dx,_,_,rfl,h1,T.cls,T.n1,rfl,d1,_,rfl,h4,fun l nl=>?_⟩;have e:(((S.zip ts).map fun e=>((Sum.inr e.1.nm:Key),V.ref e.2)).map fun kv=>kV kv.1)=S.map fun e=>V.str e.nm:=by
   rw [Zt];have:(S.zip ts).map (·.1)=S:=Vw (by omega)
   conv=>rhs;rw [←this]
   rw [Zt];rfl
  rw [e];exact k l nl
end s_names
namespace s_take
abbrev st:Stmt:=inClass (top 53) 1
theorem sc:FnScope ["self","name","thing","halves","head"] ["self","name","thing"] (zG st):=QS0
theorem ok {f:Addr}{fd:FuncData}(F:Fun K "take" "Shelf.take" st f fd)(T:Txt P w K mg t1 t2 t3 t4 t5 t6 t7 aL aC aN aT aA b1 b2):FnOk P w K mg base CX0 1 f fd ["self","name","thing"] (spTake P w K aC):=by
 refine F.ok sc (fun vs H Q E h=>?_) (fun cdv A outer s H vs Q E hr h=>?_)
 ·obtain ⟨a,fp,S,e,t,rfl,_⟩:=h;rfl
 ·obtain ⟨a,fp,S,e,t,rfl,sh,ge,ht,hd,hn,hl,k⟩:=h;have hu:=X6 hr;refine ⟨_,(zD (zP (i:=3) sc.nd rfl (Or.inl rfl) (k9 Z0 JH JI uN (pv 1) (zA pe_str zC)))
   (zD (zP (i:=4) sc.nd rfl (Or.inl rfl) (z8 (ix_tup:IxR _ (Ui K)) (pv 3) zI (fun _ _=>rfl)))
   (zD (xF hu (jV (pv 0) rfl) (pv 4) (zK (call_max2 rfl) (by rfl) T.max PyProof.Rows.boot_max (zA (Ir hu (jV (pv 0) rfl) (pv 4) zI ⟨rfl,rfl,rfl,rfl⟩) (zA (z7 qA (zZ call_intT (by rfl) T.int PyProof.Rows.boot_int (zA (z8 (ix_tup:IxR _ (Ui K)) (pv 3) zI (fun _ _=>rfl)) zC)) zI) zC))) rfl)
   (zD (xF hu (jV (pv 0) rfl) (pv 1) (pv 2) rfl)
   (zE (ps_tput hr.units (jV (pv 0) rfl) (pv 2) (pv 1) rfl)))))),?_⟩
  obtain ⟨g,dx,d1,d2,d3,ts,nx,rfl,nd,h1,h2,h3,h4,h5,h6,h7,h8,h9⟩:=id sh;have noseq:=sh.noseq.tup;have nl:(Ur e.n).length<=2000:=by
   have hlog:((e.n:Int)).natAbs.log2<1920:=by
    have:=ge.num;rw [VL]
    rcases Y5 e.n with z|z
    ·rw [z];decide
    ·have:e.n.log2<20:=(Nat.log2_lt (by omega)).mpr (by omega);omega
   have:=Vv hlog;have e':(Ur e.n).length<=1921:=this;omega
  have nml:e.nm.length<=100000:=by
   have:=ge.hl;have e1:dot.length=1:=rfl;unfold En.nm;rw [len_append,len_append,e1];omega
  simp only [Z8,Zi,Yi,VM,not_or,YE,and_true,not_false_eq_true] at nd;obtain ⟨⟨n01,n02,n03,n04⟩,⟨n12,n13,n14⟩,⟨n23,n24⟩,n34⟩:=nd;refine ⟨_,rfl,rfl,e.h,Ur e.n,46,rfl,by rw [dot_is];rfl,ge.free,nml,fun p np=>?_⟩;have u1:=zF (o:=.tup [V.str e.h,V.str ⟨#[46]⟩,V.str (Ur e.n)]) np;have hp:SqT K (upd H p (.tup [V.str e.h,V.str ⟨#[46]⟩,V.str (Ur e.n)])) p [V.str e.h,V.str ⟨#[46]⟩,V.str (Ur e.n)]:=SqT.of zB;show tSeq _ _ _ _ (upd H p (.tup [V.str e.h,V.str ⟨#[46]⟩,V.str (Ur e.n)]));generalize upd H p (.tup [V.str e.h,V.str ⟨#[46]⟩,V.str (Ur e.n)])=H1 at u1 hp;have g1:=u1 _ _ h1;have g4:=u1 _ _ h4;have g6:=u1 _ _ h6;refine ⟨_,rfl,p,_,_,_,rfl,rfl,hp,rfl,?_⟩;refine ⟨_,rfl,a,aC,dx,_,_,rfl,g1,T.cls,T.n3,rfl,d3,rfl,.inl ⟨_,.inl g6⟩,_,rfl,_,DGet.k (k:=(Sum.inr e.h:Key)) g6,?_⟩;obtain ⟨m,em,en⟩:∃ m:Nat,(Uh nx (Sum.inr e.h:Key)).getD (V.int 0)=V.int (m:Int)/\m=(nextOf S e.h).getD 0:=by
   rw [h8];cases nextOf S e.h with
   | none=>exact ⟨0,rfl,rfl⟩
   | some m=>exact ⟨m,rfl,rfl⟩
  rw [em];refine ⟨_,rfl,p,_,_,_,rfl,rfl,hp,rfl,e.n,rfl,by have:=ge.num;omega,_,_,rfl,rfl,_,_,rfl,?_⟩;have emax:(if (e.n:Int)+1>(m:Int) then (e.n:Int)+1 else (m:Int))=((max m (e.n+1):Nat):Int):=by
   split<;>omega
  rw [emax];have nxl:nx.length<2000:=by omega
  refine ⟨_,rfl,a,aC,dx,_,_,rfl,g1,T.cls,T.n3,rfl,_,rfl,d3,_,rfl,DPut.k (k:=(Sum.inr e.h:Key)) g6 (yR (by omega)),?_⟩;have o1:Off [a,dx,d1,d2,d3] H (upd H1 d3 (.dK (putK nx (Sum.inr e.h:Key) (V.int ((max m (e.n+1):Nat):Int))))):=(Off.of u1).upd (by simp);have g1b:upd H1 d3 (.dK (putK nx (Sum.inr e.h:Key) (V.int ((max m (e.n+1):Nat):Int)))) a=some (.ins aC dx (flds d1 d2 d3)):=by rw [zH n04];exact g1
  have g4b:upd H1 d3 (.dK (putK nx (Sum.inr e.h:Key) (V.int ((max m (e.n+1):Nat):Int)))) d1=some (.dK ((S.zip ts).map fun e=>((Sum.inr e.1.nm:Key),V.ref e.2))):=by rw [zH n24];exact g4
  have g6b:upd H1 d3 (.dK (putK nx (Sum.inr e.h:Key) (V.int ((max m (e.n+1):Nat):Int)))) d3=some (.dK (putK nx (Sum.inr e.h:Key) (V.int ((max m (e.n+1):Nat):Int)))):=zB;have g2b:upd H1 d3 (.dK (putK nx (Sum.inr e.h:Key) (V.int ((max m (e.n+1):Nat):Int)))) dx=some (.own a):=by rw [zH n14];exact u1 _ _ h2
  obtain ⟨xs5,e5,_⟩:=h5.2.2.2;have g5b:upd H1 d3 (.dK (putK nx (Sum.inr e.h:Key) (V.int ((max m (e.n+1):Nat):Int)))) d2=H d2:=by rw [zH n34,e5];exact u1 _ _ e5
  show tSeq _ _ _ _ (upd H1 d3 (.dK (putK nx (Sum.inr e.h:Key) (V.int ((max m (e.n+1):Nat):Int)))));generalize upd H1 d3 (.dK (putK nx (Sum.inr e.h:Key) (V.int ((max m (e.n+1):Nat):Int))))=H2 at o1 g1b g4b g6b g2b g5b;have zl:((S.zip ts).map fun e=>((Sum.inr e.1.nm:Key),V.ref e.2)).length<=2000:=by rw [Q5,List.length_zip];omega
  refine ⟨_,rfl,_,rfl,a,aC,dx,_,_,rfl,g1b,T.cls,T.n1,rfl,_,rfl,d1,_,rfl,DPut.k (k:=(Sum.inr e.nm:Key)) g4b (yR (by omega)),?_⟩;have ek:((S.zip ts).map fun e=>((Sum.inr e.1.nm:Key),V.ref e.2)).map (·.1)=S.map fun e=>(Sum.inr e.nm:Key):=by
   rw [Zt];have:(S.zip ts).map (·.1)=S:=Vw (by omega)
   conv=>rhs;rw [←this]
   rw [Zt];rfl
  have hk:(Sum.inr e.nm:Key)∉((S.zip ts).map fun e=>((Sum.inr e.1.nm:Key),V.ref e.2)).map (·.1):=fun z=>by
   rw [ek] at z;obtain ⟨e',he',q⟩:=Za.mp z;exact hn (Za.mpr ⟨e',he',Sum.inr.inj q⟩)
  rw [qV hk];have o2:Off [a,dx,d1,d2,d3] H (upd H2 d1 (.dK ((S.zip ts).map (fun e=>((Sum.inr e.1.nm:Key),V.ref e.2))++[(Sum.inr e.nm,V.ref t)]))):=o1.upd (by simp);have g1c:upd H2 d1 (.dK ((S.zip ts).map (fun e=>((Sum.inr e.1.nm:Key),V.ref e.2))++[(Sum.inr e.nm,V.ref t)])) a=some (.ins aC dx (flds d1 d2 d3)):=by rw [zH n02];exact g1b
  have g2c:upd H2 d1 (.dK ((S.zip ts).map (fun e=>((Sum.inr e.1.nm:Key),V.ref e.2))++[(Sum.inr e.nm,V.ref t)])) dx=some (.own a):=by rw [zH n12];exact g2b
  have g4c:upd H2 d1 (.dK ((S.zip ts).map (fun e=>((Sum.inr e.1.nm:Key),V.ref e.2))++[(Sum.inr e.nm,V.ref t)])) d1=some (.dK ((S.zip ts).map (fun e=>((Sum.inr e.1.nm:Key),V.ref e.2))++[(Sum.inr e.nm,V.ref t)])):=zB;have g5c:upd H2 d1 (.dK ((S.zip ts).map (fun e=>((Sum.inr e.1.nm:Key),V.ref e.2))++[(Sum.inr e.nm,V.ref t)])) d2=H d2:=by rw [zH (Ne.symm n23)];exact g5b
  have g6c:upd H2 d1 (.dK ((S.zip ts).map (fun e=>((Sum.inr e.1.nm:Key),V.ref e.2))++[(Sum.inr e.nm,V.ref t)])) d3=some (.dK (putK nx (Sum.inr e.h:Key) (V.int ((max m (e.n+1):Nat):Int)))):=by rw [zH (Ne.symm n24)];exact g6b
  generalize upd H2 d1 (.dK ((S.zip ts).map (fun e=>((Sum.inr e.1.nm:Key),V.ref e.2))++[(Sum.inr e.nm,V.ref t)]))=H3 at o2 g1c g2c g4c g5c g6c;have T3:ThD P w K H3 d2 (S.map fun e=>(e.d,V.str e.nm)):=ThD.off noseq o2 g5c h5;have ht3:Dt K H3 e.d (.ref t):=Dt.off noseq o2 _ _ ge.key.1 ht;refine ⟨_,rfl,_,rfl,a,aC,dx,_,_,rfl,g1c,T.cls,T.n2,rfl,_,rfl,t,d2,_,e.d,rfl,rfl,T3,by rw [Q5];omega,ge.key,ht3,fun o T4 ⟨es,eo⟩=>?_⟩;have hk2:e.d∉(S.map fun e=>(e.d,V.str e.nm)).map (·.1):=by rw [Zt];exact hd
  rw [qV hk2] at T4;have o3:Off [a,dx,d1,d2,d3] H (upd H3 d2 o):=o2.upd (by simp);refine k _ o3 ⟨g.snoc ge hd hn (by omega),dx,d1,d2,d3,ts++[t],_,rfl,by simp [n01,n02,n03,n04,n12,n13,n14,n23,n24,n34],by rw [zH n03];exact g1c,by rw [zH n13];exact g2c,by rw [Zh,Zh,h3];rfl,?_,?_,by rw [zH (Ne.symm n34)];exact g6c,?_,?_,?_⟩
  ·rw [zH n23,g4c,List.zip_append h3.symm,Zf];rfl
  ·rw [Zf];exact T4
  ·have:=xX nx (Sum.inr e.h:Key) (V.int ((max m (e.n+1):Nat):Int));rw [Zh,YO];omega
  ·intro h;rw [valV_put,Xs]
   by_cases q:e.h=h
   ·rw [Zz (by rw [q]),Zz q,←q,←en];rfl
   ·rw [Zy (fun z=>q (Sum.inr.inj z).symm),Zy q];exact h8 h
  ·intro i e' t' q1 q2
   rcases Vg i S.length with z|z|z
   ·rw [ZN z] at q1;rw [ZN (by omega)] at q2;exact Dt.off noseq o3 _ _ (g.ent e' (Zk q1)).key.1 (h9 i e' t' q1 q2)
   ·subst z;rw [ZP (Ze _),Nat.sub_self] at q1;rw [ZP (by omega),h3,Nat.sub_self] at q2;cases q1;cases q2;exact Dt.off noseq o3 _ _ ge.key.1 ht
   ·rw [Yc (by rw [Zh,YO];omega)] at q1;cases q1
end s_take
end
end An06
namespace An06
open PySem L2 An
seal L2.PS L2.PSs L2.PE L2.PT L2.PW L2.PA L2.PG L2.PGs L2.PI L2.PFi L2.PC
section
variable {P:Program}{w:World}{K:ZZF}{mg:Str->Option Value}{base:Heap}{t1 t2 t3 t4 t5 t6 t7:Tok}{aL aC aN aT aA b1 b2:Addr}
theorem keys_eq {S:List En}{ts:List Addr}(h:ts.length=S.length):((S.zip ts).map fun e=>((Sum.inr e.1.nm:Key),V.ref e.2)).map (·.1)=S.map fun e=>(Sum.inr e.nm:Key):=by
 rw [Zt];have:(S.zip ts).map (·.1)=S:=Vw (by omega)
 conv=>rhs;rw [←this]
 rw [Zt];rfl
theorem has_val {S:List En}{ts:List Addr}(h:ts.length=S.length)(x:Str):(Uh ((S.zip ts).map fun e=>((Sum.inr e.1.nm:Key),V.ref e.2)) (Sum.inr x:Key)).isSome=decide (x∈S.map En.nm):=by
 have ek:=keys_eq h;rw [ZU,Zq];constructor
 ·intro z;obtain ⟨v,hv⟩:=JU.mp z;have:=uE hv;rw [ek] at this;obtain ⟨e,he,q⟩:=Za.mp this;exact Za.mpr ⟨e,he,Sum.inr.inj q⟩
 ·intro z;obtain ⟨e,he,q⟩:=Za.mp z;cases hv:Uh ((S.zip ts).map fun e=>((Sum.inr e.1.nm:Key),V.ref e.2)) (Sum.inr x:Key) with
  | some v=>rfl
  | none =>
   refine absurd ?_ (Is hv);rw [ek];exact Za.mpr ⟨e,he,by rw [q]⟩
theorem at_val {S:List En}{ts:List Addr}(g:GoodS S)(h:ts.length=S.length){i:Nat}{e:En}{t:Addr}(q1:S[i]?=some e)(q2:ts[i]?=some t):Uh ((S.zip ts).map fun e=>((Sum.inr e.1.nm:Key),V.ref e.2)) (Sum.inr e.nm:Key)=some (V.ref t):=by
 have nd':(((S.zip ts).map fun e=>((Sum.inr e.1.nm:Key),V.ref e.2)).map (·.1)).Nodup:=by
  rw [keys_eq h];have:=List.Pairwise.map (S:=fun a b:Key=>a≠b) (fun x=>(Sum.inr x:Key)) (fun a b h z=>h (Sum.inr.inj z)) g.nn;rw [Zt] at this;exact this
 have hm:((Sum.inr e.nm:Key),V.ref t)∈(S.zip ts).map fun e=>((Sum.inr e.1.nm:Key),V.ref e.2) :=
  Za.mpr ⟨(e,t),Zk (i:=i) (by rw [Y8];exact ⟨q1,q2⟩),rfl⟩
 exact jG nd' hm
namespace s_key
abbrev st:Stmt:=top 50
theorem sc:FnScope ["table","thing"] ["table","thing"] (zG st):=QS0
theorem ok {f:Addr}{fd:FuncData}(F:Fun K "is_key" "is_key" st f fd)(T:Txt P w K mg t1 t2 t3 t4 t5 t6 t7 aL aC aN aT aA b1 b2):FnOk P w K mg base CX0 1 f fd ["table","thing"] (spKey K):=by
 refine F.ok sc (fun vs H Q E h=>?_) (fun cdv A outer s H vs Q E hr h=>?_)
 ·obtain ⟨d1,kvs,d,v,rfl,_⟩:=h;rfl
 ·obtain ⟨d1,kvs,d,v,rfl,h4,hd,k⟩:=h;refine ⟨_,(zE (zL (yV (zK (zV (K:=K)) (by rfl) T.isinstance Zx (zA (pv 1) (zA (yS (v:=.ty "str") rfl T.str ZY rfl) zC))) (xK (yH (op_inZ hr.units) (pv 1) (pv 0) (by with_unfolding_all rfl)))))),?_⟩;refine ⟨_,rfl,_,_,d,_,rfl,hd,T.is (by simp [kinds]),_,rfl,?_⟩;cases d with
  | str x =>
   cases (show v=_ from hd);exact Uf ⟨_,rfl,_,rfl,d1,_,rfl,DGet.k (k:=(Sum.inr x:Key)) h4,k⟩
  | none=>exact Ug k
  | bool b=>exact Ug k
  | int i=>exact Ug k
  | list ds=>exact Ug k
  | tuple ds=>exact Ug k
  | dict kvs=>exact Ug k
end s_key
theorem hasK_eq {S:List En}{ts:List Addr}(h:ts.length=S.length)(d:PyData):hasK ((S.zip ts).map fun e=>((Sum.inr e.1.nm:Key),V.ref e.2)) d=UI S d:=by
 cases d with
 | str x=>exact has_val h x
 | none=>rfl
 | bool b=>rfl
 | int i=>rfl
 | list ds=>rfl
 | tuple ds=>rfl
 | dict kvs=>rfl
namespace s_has
abbrev st:Stmt:=inClass (top 53) 5
theorem sc:FnScope ["self","name"] ["self","name"] (zG st):=QS0
theorem ok {f:Addr}{fd:FuncData}(F:Fun K "has" "Shelf.has" st f fd)(T:Txt P w K mg t1 t2 t3 t4 t5 t6 t7 aL aC aN aT aA b1 b2)(QQ:Cal P w K mg base 1 "is_key" ["table","thing"] (spKey K)):FnOk P w K mg base CX0 2 f fd ["self","name"] (spHas P w K aC):=by
 refine F.ok sc (fun vs H Q E h=>?_) (fun cdv A outer s H vs Q E hr h=>?_)
 ·obtain ⟨a,fp,S,d,v,rfl,_⟩:=h;rfl
 ·obtain ⟨a,fp,S,d,v,rfl,sh,hd,k⟩:=h;refine ⟨_,(zE (zL (zJ QQ hr.m (zA (jV (pv 0) rfl) (zA (pv 1) zC))))),?_⟩;obtain ⟨g,dx,d1,d2,d3,ts,nx,rfl,nd,h1,h2,h3,h4,h5,h6,h7,h8,h9⟩:=sh;refine ⟨_,rfl,a,aC,dx,_,_,rfl,h1,T.cls,T.n1,rfl,_,rfl,d1,_,d,v,rfl,h4,hd,?_⟩;rw [hasK_eq h3 d];exact k
end s_has
namespace s_nname
abbrev st:Stmt:=top 51
theorem sc:FnScope ["store","name"] ["store","name"] (zG st):=QS0
theorem ok {f:Addr}{fd:FuncData}(F:Fun K "need_name" "need_name" st f fd)(T:Txt P w K mg t1 t2 t3 t4 t5 t6 t7 aL aC aN aT aA b1 b2)(Qn:Met P w K mg base aC 2 "has" ["self","name"] (spHas P w K aC)):FnOk P w K mg base (CXF P w) 3 f fd ["store","name"] (IE P w K aC aN):=by
 refine F.okX sc (fun vs H Q E h=>?_) (fun cdv A outer s H vs Q E hr h=>?_)
 ·obtain ⟨a,fp,S,d,v,rfl,_⟩:=h;rfl
 ·obtain ⟨a,fp,S,d,v,rfl,sh,hd,k1,k2⟩:=h;refine ⟨_,(zE (yI (y9 (zX (K:=K) (XN (pv 0) T.cls Qn hr.m (zA (pv 1) zC)) (fun _=>rfl)))
    (zE (x9 rfl xL rfl T.NoName T.xNoName (zA pe_str zC)))
    zR)),?_⟩
  obtain ⟨g,dx,d1,d2,d3,ts,nx,efp,nd,h1,h2,h3,h4,h5,h6,h7,h8,h9⟩:=id sh;refine ⟨_,rfl,a,dx,_,rfl,h1,rfl,_,rfl,a,_,S,d,v,rfl,sh,hd,_,rfl,?_⟩;cases q:UI S d with
  | false=>exact Uf ⟨Um 1,k2 q⟩
  | true=>exact Ug (k1 q)
end s_nname
namespace s_thing
abbrev st:Stmt:=inClass (top 53) 6
theorem sc:FnScope ["self","name"] ["self","name"] (zG st):=QS0
theorem ok {f:Addr}{fd:FuncData}(F:Fun K "thing" "Shelf.thing" st f fd)(T:Txt P w K mg t1 t2 t3 t4 t5 t6 t7 aL aC aN aT aA b1 b2)(QR:CalX P w K mg base 3 "need_name" ["store","name"] (IE P w K aC aN)):FnOk P w K mg base (CXF P w) 4 f fd ["self","name"] (xE P w K aC aN):=by
 refine F.okX sc (fun vs H Q E h=>?_) (fun cdv A outer s H vs Q E hr h=>?_)
 ·obtain ⟨a,fp,S,d,v,rfl,_⟩:=h;rfl
 ·obtain ⟨a,fp,S,d,v,rfl,sh,hd,k1,k2⟩:=h;have hu:=X6 hr;refine ⟨_,(zD (yP (yB QR hr.m yQ (zA (pv 0) (zA (pv 1) zC))))
   (zE (zL (j2 hu (jV (pv 0) rfl) (pv 1) (fun _ _=>rfl))))),?_⟩
  obtain ⟨g,dx,d1,d2,d3,ts,nx,efp,nd,h1,h2,h3,h4,h5,h6,h7,h8,h9⟩:=id sh;refine ⟨_,rfl,_,rfl,a,_,S,d,v,rfl,sh,hd,fun q=>?_,k2⟩;cases d with
  | str x =>
   cases (show v=_ from hd);have q:x∈S.map En.nm:=ZB q;obtain ⟨e,he,rfl⟩:=Za.mp q;obtain ⟨i,hi,ei⟩:=ZO.mp he;have hi':i<ts.length:=by omega
   have q1:S[i]?=some e:=by rw [Zj hi,ei]
   have q2:ts[i]?=some ts[i]:=Zj hi';have hv:=at_val g h3 q1 q2;exact ⟨_,rfl,a,aC,dx,_,_,rfl,h1,T.cls,T.n1,rfl,_,rfl,d1,_,rfl,by rw [←hv];exact DGet.k (k:=(Sum.inr e.nm:Key)) h4,k1 e he rfl _ (h9 i e _ q1 q2)⟩
  | none=>cases q
  | bool b=>cases q
  | int i=>cases q
  | list ds=>cases q
  | tuple ds=>cases q
  | dict kvs=>cases q
end s_thing
namespace s_form
abbrev st:Stmt:=inClass (top 53) 4
theorem sc:FnScope ["self","name","forms"] ["self","name","forms"] (zG st):=QS0
theorem ok {f:Addr}{fd:FuncData}(F:Fun K "need_form" "Shelf.need_form" st f fd)(T:Txt P w K mg t1 t2 t3 t4 t5 t6 t7 aL aC aN aT aA b1 b2)(Qa:MetX P w K mg base aC 4 "thing" ["self","name"] (xE P w K aC aN)):FnOk P w K mg base (CXF P w) 5 f fd ["self","name","forms"] (spForm1 P w K aC aN):=by
 refine F.okX sc (fun vs H Q E h=>?_) (fun cdv A outer s H vs Q E hr h=>?_)
 ·obtain ⟨a,f,fp,S,x,ws,rfl,_⟩:=h;rfl
 ·obtain ⟨a,fo,fp,S,x,ws,rfl,sh,th,hf,okw,k1,k2⟩:=h;refine ⟨_,(zE (yI (zW (op_ninDT (K:=K) hr.units) (z8 (ix_tup:IxR _ (Ui K)) (yO (pv 0) T.cls Qa hr.m yQ (zA (pv 1) zC)) zI (fun _ _=>rfl)) (pv 2) (by with_unfolding_all rfl))
    (zE (x9 rfl xL rfl T.NoName T.xNoName (zA pe_str zC)))
    zR)),?_⟩
  obtain ⟨g,dx,d1,d2,d3,ts,nx,efp,nd,h1,_⟩:=id sh;refine ⟨_,rfl,a,dx,_,rfl,h1,rfl,_,rfl,a,_,S,.str x,.str x,rfl,sh,rfl,fun e he ex t ht=>?_,fun no=>?_⟩
  ·have ex:x=e.nm:=by injection ex
   obtain ⟨t',ed,gt,_⟩:=th e he;rw [ed] at ht;obtain ⟨c,r,ec,hc⟩:=uQ ht;cases ec;have wd:=jY ed;have fe:=form_in g he ws;rw [←ex,wd] at fe;refine ⟨t,_,_,_,rfl,rfl,hc,atI_zero _ _,_,rfl,.str t'.word,ws.map .str,rfl,⟨fo,_,rfl,hf,DtAll.strs ws⟩,(vE ws okw).1,?_,(show 0<=60 by decide),!decide (t'.word∈ws),?_,?_⟩
   ·cases t'
    ·show PyData.strOk "leaf"=true;decide +kernel
    ·show PyData.strOk "tree"=true;decide +kernel
    ·show PyData.strOk "note"=true;decide +kernel
   ·rw [any_strs];cases decide (t'.word∈ws)<;>rfl
   ·cases q:decide (t'.word∈ws) with
    | true=>rw [q] at fe;exact Ug (k1 fe)
    | false=>rw [q] at fe;exact Uf ⟨Um 1,k2 fe⟩
  ·have no:x∉S.map En.nm:=Y7 no;exact k2 (form_out no ws)
end s_form
theorem lt_ok:∀ y∈(["leaf","tree"]:List Str),PyData.strOk y=true:=fun y hy=>by
 rcases Zi.mp hy with rfl|hy
 ·decide +kernel
 ·rw [Q7.mp hy];decide +kernel
theorem t_ok:∀ y∈(["tree"]:List Str),PyData.strOk y=true:=fun y hy=>by
 rw [Q7.mp hy];decide +kernel
theorem n_ok:∀ y∈(["note"]:List Str),PyData.strOk y=true:=fun y hy=>by
 rw [Q7.mp hy];decide +kernel
namespace s_need
abbrev st:Stmt:=inClass (top 53) 3
theorem sc:FnScope ["self","thing","row","parent"] ["self","thing"] (zG st):=QS0
theorem ok {f:Addr}{fd:FuncData}(F:Fun K "need_names" "Shelf.need_names" st f fd)(T:Txt P w K mg t1 t2 t3 t4 t5 t6 t7 aL aC aN aT aA b1 b2)(Qo:MetX P w K mg base aC 5 "need_form" ["self","name","forms"] (spForm1 P w K aC aN)):FnOk P w K mg base (CXF P w) 6 f fd ["self","thing"] (spNeedN P w K aC aN):=by
 refine F.okX sc (fun vs H Q E h=>?_) (fun cdv A outer s H vs Q E hr h=>?_)
 ·obtain ⟨a,fp,S,t,v,rfl,_⟩:=h;rfl
 ·obtain ⟨a,fp,S,t,v,rfl,sh,th,hd,k1,k2⟩:=h;refine ⟨_,(kU (yI (zW xR (z8 (ix_tup:IxR _ (Ui K)) (pv 1) zI (fun _ _=>rfl)) pe_str (zT _))
    (zE (yW PassesOwn.leaving rfl (qU (z8 (ix_tup:IxR _ (Ui K)) (pv 1) zI (fun _ _=>rfl))) (zQ (i:=2) sc.nd rfl (Or.inl rfl))
     (zE (yP (yO (pv 0) T.cls Qo hr.m yQ (zA (z8 (ix_tup:IxR _ (Ui K)) (pv 2) zI (fun _ _=>rfl)) (zA (kD (zA pe_str (zA pe_str zC))) zC)))))))
    zR)
   (zE (yI (zW xR (z8 (ix_tup:IxR _ (Ui K)) (pv 1) zI (fun _ _=>rfl)) pe_str (zT _))
    (zD (yP (yO (pv 0) T.cls Qo hr.m yQ (zA (z8 (ix_tup:IxR _ (Ui K)) (pv 1) zI (fun _ _=>rfl)) (zA (kD (zA pe_str zC)) zC))))
    (zE (yW PassesOwn.leaving rfl (qU (z8 (ix_tup:IxR _ (Ui K)) (pv 1) zI (fun _ _=>rfl))) (zQ (i:=3) sc.nd rfl (Or.inl rfl))
     (zE (yP (yO (pv 0) T.cls Qo hr.m yQ (zA (pv 3) (zA (kD (zA pe_str zC)) zC))))))))
    zR))),?_⟩
  obtain ⟨g,dx,d1,d2,d3,ts,nx,efp,nd,h1,_⟩:=id sh;cases t with
  | leaf ls =>
   obtain ⟨p,b,rfl,hs,hb⟩:=G5 hd;refine ⟨fun σ' H'=>σ'=[some (.ref a),some (.ref p),none,none]/\H'=H,⟨_,rfl,p,_,_,_,rfl,rfl,hs,rfl,rfl,false,congrArg V.bl (by decide +kernel),Ug (A:=False) ⟨rfl,rfl⟩⟩,?_⟩;rintro σ' H' ⟨rfl,rfl⟩;exact ⟨_,rfl,p,_,_,_,rfl,rfl,hs,rfl,rfl,false,congrArg V.bl (by decide +kernel),Ug (A:=False) (k1 rfl _ (Same.refl _))⟩
  | tree rs =>
   obtain ⟨p,b,rfl,hs,hb⟩:=BE hd;obtain ⟨b',xs,e,hb1,hx⟩:=hb;cases e;have hxl:xs.length=rs.length:=by rw [hx.length,Q5]
   refine ⟨fun σ' H'=>∃ o,σ'=[some (.ref a),some (.ref p),o,none]/\Same H H'/\(rs.all fun r=>yA S r.2 ["leaf","tree"])=true,?_,?_⟩
   ·refine ⟨_,rfl,p,_,_,_,rfl,rfl,hs,rfl,rfl,true,congrArg V.bl (Zd rfl),Uf (B:=False) ?_⟩;refine ⟨_,rfl,p,_,_,_,rfl,rfl,hs,rfl,b,rfl,⟨_,hb1⟩,uD (K:=K) (a:=b) (xs:=xs) (fun i σ H2=>∃ o,σ=[some (.ref a),some (.ref p),o,none]/\Same H H2/\((rs.take i).all fun r=>yA S r.2 ["leaf","tree"])=true) ⟨none,rfl,Same.refl _,rfl⟩ (fun i σ H2 _ ⟨_,_,e,_⟩=>e.tupS hb1) ?_ ?_⟩
    ·rintro i x σ H2 hi ⟨o,rfl,s2,al⟩;obtain ⟨r,c,er,rfl,hc⟩:=BX hx hi;refine ⟨_,rfl,a,dx,_,rfl,s2 _ _ h1,rfl,_,rfl,c,_,_,_,rfl,rfl,s2.tupS hc,rfl,Um 2,fun q nq=>?_⟩;have s3:=s2.trans (zF (o:=.tup [V.str "leaf",V.str "tree"]) nq);refine ⟨a,q,fp,S,r.2,["leaf","tree"],rfl,sh.same s3,th,SqT.of zB,lt_ok,fun ok=>⟨_,rfl,s3,?_⟩,fun no=>?_⟩
     ·rw [Yv,er,Uc,al];show (yA S r.2 ["leaf","tree"]&&true)=true;rw [ok];rfl
     ·refine k2 ?_ _ s3;show (rs.all fun r=>yA S r.2 ["leaf","tree"])=false;rw [List.all_eq_false];exact ⟨r,Zk er,by rw [no];decide⟩
    ·rintro σ H2 ⟨o,rfl,s2,al⟩;rw [hxl,ZA] at al;exact ⟨o,rfl,s2,al⟩
   ·rintro σ' H' ⟨o,rfl,s2,al⟩;exact ⟨_,rfl,p,_,_,_,rfl,rfl,s2.tupS hs,rfl,rfl,false,congrArg V.bl (by decide +kernel),Ug (A:=False) (k1 al _ s2)⟩
  | note x ps y =>
   obtain ⟨p,b,rfl,hs,hb⟩:=Bp hd;refine ⟨fun σ' H'=>σ'=[some (.ref a),some (.ref p),none,none]/\H'=H,⟨_,rfl,p,_,_,_,rfl,rfl,hs,rfl,rfl,false,congrArg V.bl (by decide +kernel),Ug (A:=False) ⟨rfl,rfl⟩⟩,?_⟩;rintro σ' H' ⟨rfl,rfl⟩;refine ⟨_,rfl,p,_,_,_,rfl,rfl,hs,rfl,rfl,true,congrArg V.bl (Zd rfl),Uf (B:=False) ?_⟩;refine ⟨_,rfl,a,dx,_,rfl,h1,rfl,_,rfl,p,_,_,_,rfl,rfl,hs,rfl,Um 1,fun q nq=>?_⟩;have s3:=zF (o:=.tup [V.str "tree"]) nq;refine ⟨a,q,fp,S,x,["tree"],rfl,sh.same s3,th,SqT.of zB,t_ok,fun ok=>?_,fun no=>k2 ?_ _ s3⟩
   ·show tNext _ _ (upd H' q (.tup [V.str "tree"]));generalize upd H' q (.tup [V.str "tree"])=G at s3;refine ⟨_,rfl,p,_,_,_,rfl,rfl,s3.tupS hs,rfl,b,rfl,⟨_,s3.tupS hb⟩,uD (K:=K) (a:=b) (xs:=ps.map V.str) (fun i σ H2=>∃ o,σ=[some (.ref a),some (.ref p),none,o]/\Same H' H2/\((ps.take i).all fun r=>yA S r ["note"])=true) ⟨none,rfl,s3,rfl⟩ (fun i σ H2 _ ⟨_,_,e,_⟩=>e.tupS hb) ?_ ?_⟩
    ·rintro i z σ H2 hi ⟨o,rfl,s2,al⟩;rw [Zl] at hi;cases er:ps[i]? with
     | none=>rw [er] at hi;cases hi
     | some r =>
      rw [er] at hi;have hi:V.str r=z:=Option.some.inj hi;subst hi;refine ⟨_,rfl,a,dx,_,rfl,s2 _ _ h1,rfl,_,rfl,Um 1,fun q2 nq2=>?_⟩;have s4:=s2.trans (zF (o:=.tup [V.str "note"]) nq2);refine ⟨a,q2,fp,S,r,["note"],rfl,sh.same s4,th,SqT.of zB,n_ok,fun ok2=>⟨_,rfl,s4,?_⟩,fun no=>k2 ?_ _ s4⟩
      ·rw [Yv,er,Uc,al];show (yA S r ["note"]&&true)=true;rw [ok2];rfl
      ·show (yA S x ["tree"]&&ps.all fun p=>yA S p ["note"])=false;rw [ok,VX,List.all_eq_false];exact ⟨r,Zk er,by rw [no];decide⟩
    ·rintro σ H2 ⟨o,rfl,s2,al⟩;rw [Q5,ZA] at al;refine k1 ?_ _ s2;show (yA S x ["tree"]&&ps.all fun p=>yA S p ["note"])=true;rw [ok,al];rfl
   ·show (yA S x ["tree"]&&ps.all fun p=>yA S p ["note"])=false;rw [no];rfl
end s_need
end
end An06
namespace An06
open PySem L2 An
seal L2.PS L2.PSs L2.PE L2.PT L2.PW L2.PA L2.PG L2.PGs L2.PI L2.PFi L2.PC
theorem zO {X:Cx}:Raises X (fun _ _ _=>False):=by
 intro pins σ H s e s' I hx;obtain ⟨_,_,_,_,_,_,_,_,_,_,_,_,_,_,q⟩:=hx;exact q.elim
theorem nm_uniq {S:List En}(g:GoodS S){e f:En}(he:e∈S)(hf:f∈S)(h:e.nm=f.nm):e=f:=by
 obtain ⟨i,hi,ei⟩:=ZO.mp he;obtain ⟨j,hj,ej⟩:=ZO.mp hf;have hp:=Y9.mp g.nn;have:i=j:=by
  rcases Vg i j with z|z|z
  ·exact absurd (by rw [ZQ,ZQ,ei,ej];exact h) (hp i j (by rw [Q5];exact hi) (by rw [Q5];exact hj) z)
  ·exact z
  ·exact absurd (by rw [ZQ,ZQ,ei,ej];exact h.symm) (hp j i (by rw [Q5];exact hj) (by rw [Q5];exact hi) z)
 subst this;rw [←ei,ej]
theorem B9:∀ rs:List (Str×Str),yK (rs.map rowDat)=true
 | []=>rfl
 | r::rs=>by
  show (vR (rowDat r)&&yK (rs.map rowDat))=true;rw [B9 rs];rfl
theorem tup_dat (t:Th):vR t.dat=true:=by
 cases t with
 | leaf ls=>show (true&&(yK (ls.map .str)&&true))=true;rw [jH];rfl
 | tree rs=>show (true&&(yK (rs.map rowDat)&&true))=true;rw [B9];rfl
 | note x ps y=>show (true&&(true&&(yK (ps.map .str)&&(true&&true))))=true;rw [jH];rfl
theorem dat_dt {K:ZZF}{H:Hp}{t:Th}{v:V}(h:Dw K H t.dat v):Dt K H t.dat v:=Dw.dt _ _ (XB _ (tup_dat t)) h
section
variable {P:Program}{w:World}{K:ZZF}{mg:Str->Option Value}{base:Heap}{t1 t2 t3 t4 t5 t6 t7:Tok}{aL aC aN aT aA b1 b2:Addr}
namespace s_put
abbrev st:Stmt:=inClass (top 53) 2
theorem sc:FnScope ["self","thing","head","number","name"] ["self","thing"] (zG st):=QS0
theorem ok {f:Addr}{fd:FuncData}(F:Fun K "put" "Shelf.put" st f fd)(T:Txt P w K mg t1 t2 t3 t4 t5 t6 t7 aL aC aN aT aA b1 b2)(QS:CalX P w K mg base 6 "need_thing" ["thing"] (spNeed K aT))(QT:MetX P w K mg base aC 6 "need_names" ["self","thing"] (spNeedN P w K aC aN))
  (Qm:Cal P w K mg base 1 "letter_of" ["thing"] (Ik K)) (QU:Cal P w K mg base 4 "digest" ["thing"] (spDigest K)) (Qp:Met P w K mg base aC 1 "take" ["self","name","thing"] (spTake P w K aC)):FnOk P w K mg base (CXF P w) 7 f fd ["self","thing"] (UK P w K aC aN aT):=by
 refine F.okX sc (fun vs H Q E h=>?_) (fun cdv A outer s H vs Q E hr h=>?_)
 ·obtain ⟨a,fp,S,d,v,rfl,_⟩:=h;rfl
 ·obtain ⟨a,fp,S,d,v,rfl,sh,th,hd,sm,nar,tg,hl,hn,k1,k2,k3⟩:=h;have hu:=X6 hr;refine ⟨_,(zD (yP (yB QS hr.m yQ (zA (pv 1) zC)))
   (zD (yP (yO (pv 0) T.cls QT hr.m yQ (zA (pv 1) zC)))
   (zD (yI (zW (op_inT hr.units) (pv 1) (jV (pv 0) rfl) (by with_unfolding_all rfl))
    (zE (zL (pe_tget hr.units (jV (pv 0) rfl) (pv 1) (fun _ _=>rfl))))
    zR)
   (zD (zP (i:=2) sc.nd rfl (Or.inl rfl) (z7 yG (zJ Qm hr.m (zA (pv 1) zC)) (zZ q8 (by rfl) T.str ZY (zA (zJ QU hr.m (zA (pv 1) zC)) zC))))
   (zD (zP (i:=3) sc.nd rfl (Or.inl rfl) (Ir hu (jV (pv 0) rfl) (pv 2) zI ⟨rfl,rfl,rfl,rfl⟩))
   (zD (zP (i:=4) sc.nd rfl (Or.inl rfl) (pe_f3 (pv 2) (pv 3)))
   (zD (yP (XN (pv 0) T.cls Qp hr.m (zA (pv 4) (zA (pv 1) zC))))
   (zE (zL (pv 4)))))))))),?_⟩
  refine ⟨_,rfl,d,v,rfl,hd,sm,nar,fun tb H1 s1=>?_,fun tb H1 s1=>k1 tb _ s1⟩;obtain ⟨t,rfl,gt⟩:=tg tb;have hd:=dat_dt hd;obtain ⟨tv,ev⟩:∃ t,v=.ref t:=by
   obtain ⟨c,r,e,_⟩:=uQ hd;exact ⟨c,e⟩
  subst ev;have sh1:=sh.same s1;have hd1:=Dt.same s1 _ _ hd;obtain ⟨gS,dx,d1,d2,d3,ts,nx,efp,nd,h1,h2,h3,h4,h5,h6,h7,h8,h9⟩:=id sh1;refine ⟨_,rfl,a,dx,_,rfl,h1,rfl,_,rfl,a,fp,S,t,.ref tv,rfl,sh1,th,hd1,fun nok H2 s2=>?_,fun no H2 s2=>k2 t rfl tb no _ (s1.trans s2)⟩;have k3:=k3 t rfl tb nok;have s12:=s1.trans s2;have sh2:=sh1.same s2;have hd2:=Dt.same s2 _ _ hd1;clear sh1 h2 h3 h4 h5 h6 h7 h8 h9 h1 hd1 efp nd;obtain ⟨gS,dx,d1,d2,d3,ts,nx,efp,nd,h1,h2,h3,h4,h5,h6,h7,h8,h9⟩:=id sh2;have kt:=Bv gt;refine ⟨_,rfl,_,rfl,a,aC,dx,_,_,rfl,h1,T.cls,T.n2,rfl,tv,d2,_,t.dat,rfl,rfl,h5,kt,hd2,_,rfl,?_⟩;cases hv:Uh (S.map fun e=>(e.d,V.str e.nm)) t.dat with
  | some u =>
   obtain ⟨p,hp,e⟩:=Za.mp (uE hv);obtain ⟨en,hen,rfl⟩:=Za.mp hp;have e:en.d=t.dat:=e;have hu':Uh (S.map fun e=>(e.d,V.str e.nm)) t.dat=some (V.str en.nm):=jG (by rw [Zt];exact gS.nd) (Za.mpr ⟨en,hen,by rw [e]⟩);exact Uf ⟨_,rfl,a,aC,dx,_,_,rfl,h1,T.cls,T.n2,rfl,_,rfl,tv,d2,_,t.dat,_,rfl,rfl,h5,kt,hd2,hu',k3 _ S en ⟨Off.of s12,sh2,hen,e,.inl rfl⟩⟩
  | none =>
   have hnd:t.dat∉S.map (·.d):=fun z=>by
    have:=Is hv;rw [Zt] at this;exact this z
   refine Ug (A:=False) ?_;have db:=Io t.sp;have hnt:=hn (Uo t);refine ⟨_,rfl,.ref tv,t,rfl,hd2,_,rfl,.ref tv,t,rfl,hd2,gt,fun H3 s3=>⟨_,rfl,?_,_,_,rfl,rfl,?_,?_⟩⟩
   ·have hz:(dg t.sp).natAbs<97:=by omega
    rcases Y5 (dg t.sp).natAbs with z|z
    ·rw [z];decide
    ·have:(dg t.sp).natAbs.log2<7:=(Nat.log2_lt (by omega)).mpr (by omega);omega
   ·rw [num_dg];have h1:=num_len2 (n:=(dg t.sp).toNat) (by omega);have h2:=IR t;exact le_line (by omega)
   rw [num_dg];show BL 2 (V.str (Uo t)) _ H3 _;have sh3:=sh2.same s3;have g1:=s3 _ _ h1;have g6:=s3 _ _ h6;refine ⟨_,rfl,a,aC,dx,_,_,rfl,g1,T.cls,T.n3,rfl,d3,rfl,.inl ⟨_,.inl g6⟩,_,rfl,_,DGet.k (k:=(Sum.inr (Uo t):Key)) g6,?_⟩;have em:(Uh nx (Sum.inr (Uo t):Key)).getD (V.int 0)=V.int (((nextOf S (Uo t)).getD 0:Nat):Int):=by
    rw [h8];cases nextOf S (Uo t) with
    | none=>rfl
    | some m=>rfl
   rw [em];have dl:(".":Str).length=1:=by decide +kernel
   refine ⟨_,rfl,_,rfl,by have:=kO t;omega,by rw [dl];decide,_,rfl,_,rfl,hnt,?_⟩;have enm:Uo t++"."++Ur ((nextOf S (Uo t)).getD 0)=(Gm S t).nm:=by unfold En.nm Gm;rw [dot_is]
   rw [enm];refine ⟨_,rfl,a,dx,_,rfl,g1,rfl,_,rfl,_,rfl,a,fp,S,Gm S t,tv,rfl,sh3,⟨kt,jR t,hnt,kO t⟩,Dt.same s3 _ _ hd2,hnd,new_nm gS (jR t),hl,fun H4 o4 sh4=>?_⟩;exact ⟨_,rfl,k3 _ _ _ ⟨(Off.of (s12.trans s3)).trans o4,sh4,by simp,rfl,.inr ⟨rfl,rfl,hnd⟩⟩⟩
end s_put
namespace s_init
abbrev st:Stmt:=inClass (top 53) 0
theorem sc:FnScope ["self","base","name"] ["self","base"] (zG st):=QS0
theorem ok {f:Addr}{fd:FuncData}(F:Fun K "__init__" "Shelf.__init__" st f fd)(T:Txt P w K mg t1 t2 t3 t4 t5 t6 t7 aL aC aN aT aA b1 b2)(Qe:Met P w K mg base aC 1 "names" ["self"] (Ba P w K aC))(Qp:Met P w K mg base aC 1 "take" ["self","name","thing"] (spTake P w K aC))
  (Qa:MetX P w K mg base aC 4 "thing" ["self","name"] (xE P w K aC aN)):FnOk P w K mg base CX0 5 f fd ["self","base"] (spInit P w K aC):=by
 refine F.ok sc (fun vs H Q E h=>?_) (fun cdv A outer s H vs Q E hr h=>?_)
 ·obtain ⟨x,dx,b,S,rfl,_⟩:=h;rfl
 ·obtain ⟨x,dx,b,S,rfl,hx,hdx,ne,hb,k⟩:=h;refine ⟨_,(zD (ps_fld (pv 0) xO rfl)
   (zD (ps_fld (pv 0) pe_dnewX rfl)
   (zD (ps_fld (pv 0) xO rfl)
   (zE (yI (zW op_notN (pv 1) X0 (zT _))
    (zE (yW PassesOwn.never rfl (qL (vF (pv 1) T.cls Qe hr.m)) (zQ (i:=2) sc.nd rfl (Or.inl rfl))
     (zE (yP (XN (pv 0) T.cls Qp hr.m (zA (pv 2) (zA (yO (pv 1) T.cls Qa hr.m zO (zA (pv 2) zC)) zC)))))))
    zR))))),?_⟩
  refine fun d1 n1=>⟨_,rfl,x,aC,dx,_,rfl,(zF n1) _ _ hx,T.cls,T.n1,by decide,?_⟩;have x1:x≠d1:=zM hx n1;have dx1:dx≠d1:=zM hdx n1;refine fun d2 o2 n2 T2 e2=>?_;obtain ⟨es,rfl⟩:=e2;have n2':d2≠x/\d2≠d1/\H d2=none:=by
   refine ⟨fun z=>?_,fun z=>?_,?_⟩
   ·rw [z,zB] at n2;cases n2
   ·rw [z,zH (Ne.symm x1),zB] at n2;cases n2
   ·have a1:d2≠x:=fun z=>by rw [z,zB] at n2;cases n2
    have a2:d2≠d1:=fun z=>by rw [z,zH (Ne.symm x1),zB] at n2;cases n2
    rw [zH a1,zH a2] at n2;exact n2
  obtain ⟨c2x,c21,c2n⟩:=n2';have dx2:dx≠d2:=zM hdx c2n;refine ⟨_,rfl,x,aC,dx,[("thing_by_name",V.ref d1)],rfl,by rw [zH (Ne.symm c2x),zB];rfl,T.cls,T.n2,(show 1<1000 by decide),?_⟩;refine fun d3 n3=>?_;have n3':d3≠x/\d3≠d2/\d3≠d1/\H d3=none:=by
   have a1:d3≠x:=fun z=>by rw [z,zB] at n3;cases n3
   have a2:d3≠d2:=fun z=>by rw [z,zH c2x,zB] at n3;cases n3
   have a3:d3≠d1:=fun z=>by rw [z,zH (Ne.symm x1),zH (Ne.symm c21),zH (Ne.symm x1),zB] at n3;cases n3
   refine ⟨a1,a2,a3,?_⟩;rw [zH a1,zH a2,zH a1,zH a3] at n3;exact n3
  obtain ⟨c3x,c32,c31,c3n⟩:=n3';have dx3:dx≠d3:=zM hdx c3n;refine ⟨_,rfl,x,aC,dx,[("thing_by_name",V.ref d1),("name_by_thing",V.ref d2)],rfl,by rw [zH (Ne.symm c3x),zB];rfl,T.cls,T.n3,(show 2<1000 by decide),?_⟩;obtain ⟨H4,e4⟩:∃ H4,H4=upd (upd (upd (upd (upd (upd H d1 (.dK [])) x (.ins aC dx (Uj "thing_by_name" (V.ref d1) []))) d2 (IS d2 es)) x (.ins aC dx (Uj "name_by_thing" (V.ref d2) [("thing_by_name",V.ref d1)]))) d3 (.dK [])) x (.ins aC dx (Uj "next_numbers" (V.ref d3) [("thing_by_name",V.ref d1),("name_by_thing",V.ref d2)])):=⟨_,rfl⟩;have q0:H4 x=some (.ins aC dx (flds d1 d2 d3)):=by rw [e4,zB];rfl
  have q1:H4 d1=some (.dK []):=by rw [e4,zH (Ne.symm x1),zH (Ne.symm c31),zH (Ne.symm x1),zH (Ne.symm c21),zH (Ne.symm x1),zB]
  have q2:H4 d2=some (IS d2 es):=by rw [e4,zH c2x,zH (Ne.symm c32),zH c2x,zB]
  have q3:H4 d3=some (.dK []):=by rw [e4,zH c3x,zB]
  have qx:H4 dx=some (.own x):=by rw [e4,zH ne,zH dx3,zH ne,zH dx2,zH ne,zH dx1];exact hdx
  have of4:Off [x] H H4:=fun c o hc e=>by
   have cx:c≠x:=fun z=>hc (by rw [z];exact Zc);rw [e4,zH cx,zH (zM e c3n),zH cx,zH (zM e c2n),zH cx,zH (zM e n1)];exact e
  have fpn:∀ c∈[x,dx,d1,d2,d3],c=x\/c=dx\/H c=none:=fun c hc=>by
   simp only [Zi,Yi,VM] at hc
   rcases hc with rfl|rfl|rfl|rfl|rfl
   ·exact .inl rfl
   ·exact .inr (.inl rfl)
   ·exact .inr (.inr n1)
   ·exact .inr (.inr c2n)
   ·exact .inr (.inr c3n)
  have sh4:ShAt P w K aC H4 x [x,dx,d1,d2,d3] []:=by
   obtain ⟨_,_,_,xs,exs,r⟩:=T2;cases r;rw [zB] at exs;have q2':H4 d2=some (IS d2 (List.map (entryOfKey (yN P w)) [])):=q2.trans exs;exact ⟨GoodS.nil,dx,d1,d2,d3,[],[],rfl,by simp [Ne.symm ne,x1,Ne.symm c2x,Ne.symm c3x,dx1,dx2,dx3,Ne.symm c21,Ne.symm c31,Ne.symm c32],q0,qx,rfl,q1,⟨ZJ _,fun _ z=>(nomatch z),YE,[],q2',.nil⟩,q3,ZJ _,fun h=>rfl,fun i e t z=>by cases z⟩
  rw [←e4];clear e4
  rcases hb with ⟨rfl,rfl⟩|⟨a,fp0,rfl,sh0,x0,dx0,Sl⟩
  ·exact ⟨_,rfl,rfl,false,congrArg V.bl (by rw [Zd rfl];rfl),Ug (A:=False) (k _ _ fpn of4 sh4)⟩
  ·refine ⟨_,rfl,rfl,true,congrArg V.bl (by rw [Zo (fun z=>by cases z)];rfl),Uf (B:=False) ?_⟩;have dj:∀ c∈fp0,c∉[x,dx,d1,d2,d3]:=fun c hc z=>by
    obtain ⟨o,eo,_⟩:=sh0.noseq c hc
    rcases fpn c z with rfl|rfl|q
    ·exact x0 hc
    ·exact dx0 hc
    ·rw [eo] at q;cases q
   have sh04:ShAt P w K aC H4 a fp0 S:=sh0.off (gp:=[x]) (fun b hb xs z=>by
    rw [Q7.mp hb] at z
    rcases z with z|⟨u,z⟩
    ·rw [hx] at z;cases z
    ·rw [hx] at z;cases z) of4 (fun c hc z=>x0 (by rw [←Q7.mp z];exact hc))
   obtain ⟨gS,dy,e1,e2,e3,ts,nx,efp,nd,h1,h2,h3,h4,h5,h6,h7,h8,h9⟩:=id sh04;refine ⟨_,rfl,a,dy,_,rfl,h1,rfl,a,fp0,S,rfl,sh04,fun l nl=>?_⟩;have ul:=zF (o:=.lst (S.map fun e=>V.str e.nm)) nl;have hl5:upd H4 l (.lst (S.map fun e=>V.str e.nm)) l=some (.lst (S.map fun e=>V.str e.nm)):=zB;have sh5:=sh4.same ul;have sh05:=sh04.same ul;have lfp:l∉[x,dx,d1,d2,d3]:=fun z=>by
    obtain ⟨o,eo,_⟩:=sh4.noseq l z;rw [eo] at nl;cases nl
   have of5:Off [x] H (upd H4 l (.lst (S.map fun e=>V.str e.nm))):=of4.trans (Off.of ul);refine ⟨l,rfl,⟨_,SqL.of hl5⟩,?_⟩;generalize upd H4 l (.lst (S.map fun e=>V.str e.nm))=H5 at ul hl5 sh5 sh05 of5;have ns5:=sh5.noseq.tup;refine kI (K:=K) (a:=l) (xs:=S.map fun e=>V.str e.nm) (fun i σ H6=>∃ o,σ=[some (.ref x),some (.ref a),o]/\Off [x,dx,d1,d2,d3] H5 H6/\ShAt P w K aC H6 x [x,dx,d1,d2,d3] (S.take i)) ⟨none,rfl,Off.refl _ _,sh5⟩ (fun i σ H6 hi ⟨_,_,o6,_⟩=>SqL.of (o6 _ _ lfp hl5)) ?_ ?_
   ·rintro i v σ H6 hv ⟨o,rfl,o6,sh6⟩;rw [Zl] at hv;cases q:S[i]? with
    | none=>rw [q] at hv;cases hv
    | some e =>
     rw [q] at hv;have hv:V.str e.nm=v:=Option.some.inj hv;subst hv;have he:=Zk q;have sh06:=sh05.off ns5 o6 dj;obtain ⟨_,dy',_,_,_,_,_,_,_,k1,_⟩:=id sh06;obtain ⟨_,dz',_,_,_,_,_,_,_,z1,_⟩:=id sh6;refine ⟨_,rfl,x,dz',_,rfl,z1,rfl,_,rfl,_,rfl,a,dy',_,rfl,k1,rfl,_,rfl,a,fp0,S,.str e.nm,.str e.nm,rfl,sh06,rfl,fun e2 he2 ex t ht=>?_,fun no=>(Y7 no (Za.mpr ⟨e,he,rfl⟩))⟩;cases nm_uniq gS he he2 (by injection ex);refine ⟨x,_,S.take i,e,t,rfl,sh6,gS.ent e he,ht,?_,?_,by rw [ZC];omega,fun H7 o7 sh7=>?_⟩
     ·rw [Vy];exact IM gS.nd (by rw [Zl,q];rfl)
     ·rw [Vy];exact IM gS.nn (by rw [Zl,q];rfl)
     ·refine ⟨_,rfl,o6.trans o7,?_⟩;rw [Yv,q];exact sh7
   ·rintro σ H6 ⟨o,rfl,o6,sh6⟩;rw [Q5,ZA] at sh6;refine k _ _ fpn (fun c u hc e=>?_) sh6;have e5:=of5 c u hc e
    by_cases z:c∈[x,dx,d1,d2,d3]
    ·rcases fpn c z with q|q|q
     ·exact absurd (by rw [q];exact Zc) hc
     ·subst q;obtain ⟨_,dz',y1,y2,y3,_,_,efp',_,_,z2,_⟩:=id sh6;injection efp' with w1 w2;injection w2 with w2 w3;subst w2;rw [hdx] at e;cases e;exact z2
     ·rw [e] at q;cases q
    ·exact o6 c u z e5
end s_init
end
end An06
namespace An
open PySem L2 AnJ
theorem qP {ls:List Str}(h:Uv ls):UA (tupS ls)=true:=(Bv (Bu h)).1 |> fun z=>by
 have z:(UA (.str "leaf")&&(UA (tupS ls)&&true))=true:=z;rw [Zg,Zg] at z;exact z.2.1
structure FsAt (K:ZZF)(H:Hp)(fs:List Fi)(kvs:List (Key×V)):Prop where
 keys:kvs.map (·.1)=fs.map fun f=>(.inr (pth f.1):Key)
 val:∀ (i:Nat) (f:Fi) (kv:Key×V),fs[i]?=some f->kvs[i]?=some kv->Dt K H (tupS f.2) kv.2/\Uv f.2
section
variable {K:ZZF}{H H':Hp}{fs:List Fi}{kvs:List (Key×V)}
theorem FsAt.nil:FsAt K H [] []:=⟨rfl,fun i f kv h=>(nomatch h)⟩
theorem FsAt.len (h:FsAt K H fs kvs):kvs.length=fs.length:=by
 have:=congrArg List.length h.keys;rw [Q5,Q5] at this;exact this
theorem FsAt.same (h:FsAt K H fs kvs)(e:Same H H'):FsAt K H' fs kvs:=⟨h.keys,fun i f kv a b=>⟨Dt.same e _ _ (h.val i f kv a b).1,(h.val i f kv a b).2⟩⟩
theorem FsAt.off {X:List Addr}(h:FsAt K H fs kvs)(n:∀ b∈X,∀ xs,¬Rd H b (.tup xs))(o:Off X H H'):FsAt K H' fs kvs:=⟨h.keys,fun i f kv a b=>⟨Dt.off n o _ _ (qP (h.val i f kv a b).2) (h.val i f kv a b).1,(h.val i f kv a b).2⟩⟩
theorem FsAt.get (h:FsAt K H fs kvs){i:Nat}{k:Key}{v:V}(e:kvs[i]?=some (k,v)):∃ f,fs[i]?=some f/\k=.inr (pth f.1)/\Dt K H (tupS f.2) v/\Uv f.2:=by
 have hl:=(Zr.mp e).1;have hf:=Zj (l:=fs) (i:=i) (by rw [←h.len];exact hl);have ek:=congrArg (fun l=>l[i]?) h.keys;simp only [Zl,e,hf,Yp] at ek;obtain ⟨a,b⟩:=h.val i _ _ hf e;exact ⟨_,hf,Option.some.inj ek,a,b⟩
theorem FsAt.snoc (h:FsAt K H fs kvs){f:Fi}{v:V}(hv:Dt K H (tupS f.2) v)(hl:Uv f.2):FsAt K H (fs++[f]) (kvs++[(.inr (pth f.1),v)]):=by
 refine ⟨by rw [Zf,Zf,h.keys];rfl,fun i g kv a b=>?_⟩
 by_cases z:i<fs.length
 ·rw [ZN z] at a;rw [ZN (by rw [h.len];exact z)] at b;exact h.val i g kv a b
 ·rw [ZP (by omega)] at a;rw [ZP (by rw [h.len];omega)] at b;have z0:i-fs.length=0:=by
   rcases Y5 (i-fs.length) with q|q
   ·exact q
   ·rw [JR.mpr (by show 1<=_;omega)] at a;cases a
  rw [z0] at a;rw [h.len,z0] at b;cases a;cases b;exact ⟨hv,hl⟩
end
theorem j4 {d:Nat}{a b:List Str}(ha:a≠[])(hb:b≠[])(la:∀ l∈a,zS l=true)(lb:∀ l∈b,zS l=true)(e:pth a=pth b):a=b:=by
 have h1:=qK ha fun y hy=>yT (la y hy);have h2:=qK hb fun y hy=>yT (lb y hy);unfold pth at e;rw [←h1,←h2,e]
def rkv (rows:List (Str×Str)):List (Key×V):=rows.map fun p=>((.inr p.1:Key),V.str p.2)
theorem BY (rows:List (Str×Str)):(rkv rows).map (·.1)=rows.map fun p=>(.inr p.1:Key):=by unfold rkv;rw [Zt];rfl
theorem rkv_put {rows:List (Str×Str)}{l n:Str}(h:l∉rows.map (·.1)):putK (rkv rows) (.inr l) (.str n)=rkv (rows++[(l,n)]):=by
 rw [qV]
 ·unfold rkv;rw [Zf];rfl
 ·rw [BY];intro z;obtain ⟨p,hp,e⟩:=Za.mp z;cases e;exact h (Za.mpr ⟨p,hp,rfl⟩)
def fkv (fa:List (Str×Addr)):List (Key×V):=fa.map fun p=>((.inr p.1:Key),V.ref p.2)
theorem BI (fa:List (Str×Addr)):(fkv fa).map (·.1)=fa.map fun p=>(.inr p.1:Key):=by unfold fkv;rw [Zt];rfl
theorem fkv_nd {fa:List (Str×Addr)}(nd:(fa.map (·.1)).Nodup):((fkv fa).map (·.1)).Nodup:=by
 rw [BI];have:(fa.map fun p=>(.inr p.1:Key))=(fa.map (·.1)).map Sum.inr:=by rw [Zt];rfl
 rw [this];exact List.Pairwise.map _ (fun a b n e=>by cases e;exact n rfl) nd
theorem k8 {fa:List (Str×Addr)}(nd:(fa.map (·.1)).Nodup){p:Str×Addr}(h:p∈fa):Uh (fkv fa) (.inr p.1)=some (.ref p.2):=jG (fkv_nd nd) (Za.mpr ⟨p,h,rfl⟩)
theorem fkv_no {fa:List (Str×Addr)}{l:Str}(h:l∉fa.map (·.1)):Uh (fkv fa) (.inr l)=none:=by
 cases e:Uh (fkv fa) (.inr l) with
 | none=>rfl
 | some v =>
  have:=uE e;rw [BI] at this;obtain ⟨p,hp,z⟩:=Za.mp this;cases z;exact absurd (Za.mpr ⟨p,hp,rfl⟩) h
theorem B5 {fa:List (Str×Addr)}{l:Str}{b:Addr}(h:l∉fa.map (·.1)):putK (fkv fa) (.inr l) (.ref b)=fkv (fa++[(l,b)]):=by
 rw [putK_new _ (fkv_no h)];unfold fkv;rw [Zf];rfl
theorem fkv_put_old {fa:List (Str×Addr)}(nd:(fa.map (·.1)).Nodup){p:Str×Addr}(h:p∈fa):putK (fkv fa) (.inr p.1) (.ref p.2)=fkv fa:=by
 unfold putK;rw [Zz (by rw [qD,k8 nd h];rfl)];unfold fkv;rw [Zt];refine ZW fun q hq=>?_;show (if (.inr q.1:Key)=.inr p.1 then ((.inr q.1:Key),V.ref p.2) else (.inr q.1,V.ref q.2))=(.inr q.1,V.ref q.2)
 split
 ·rename_i e;have e:q.1=p.1:=Sum.inr.inj e;have:V.ref q.2=V.ref p.2:=by
   have h1:=k8 nd hq;rw [e,k8 nd h] at h1;exact (Option.some.inj h1).symm
  rw [this]
 ·rfl
structure Fols (K:ZZF)(H1 H:Hp)(fs:List Fi)(fa:List (Str×Addr)):Prop where
 lab:fa.map (·.1)=fol fs
 nd:(fa.map (·.2)).Nodup
 new:∀ p∈fa,H1 p.2=none
 at_:∀ p∈fa,∃ kvs,H p.2=some (.dK kvs)/\FsAt K H (sub fs p.1) kvs
section
variable {K:ZZF}{H1 H H':Hp}{fs:List Fi}{fa:List (Str×Addr)}
theorem Fols.nil:Fols K H1 H [] []:=⟨rfl,YE,fun p h=>(nomatch h),fun p h=>(nomatch h)⟩
theorem Fols.off {X:List Addr}(h:Fols K H1 H fs fa)(ex:∀ c∈X,∃ o,H1 c=some o)(n:∀ b∈X,∀ xs,¬Rd H b (.tup xs))(o:Off X H H'):Fols K H1 H' fs fa:=⟨h.lab,h.nd,h.new,fun p hp=>by
 obtain ⟨kvs,a,b⟩:=h.at_ p hp;refine ⟨kvs,o _ _ (fun z=>?_) a,b.off n o⟩;obtain ⟨q,e⟩:=ex _ z;rw [h.new p hp] at e;cases e⟩
theorem Fols.same (h:Fols K H1 H fs fa)(e:Same H H'):Fols K H1 H' fs fa:=⟨h.lab,h.nd,h.new,fun p hp=>by
 obtain ⟨kvs,a,b⟩:=h.at_ p hp;exact ⟨kvs,e _ _ a,b.same e⟩⟩
theorem Fols.one (h:Fols K H1 H fs fa){f:Fi}{a:Str}(e:f.1=[a]):Fols K H1 H (fs++[f]) fa:=⟨by rw [jN,e];exact h.lab,h.nd,h.new,fun p hp=>by
 rw [sub_snoc,subL_one e];show ∃ kvs,_/\FsAt K H (sub fs p.1++[]) kvs;rw [ZF];exact h.at_ p hp⟩
theorem Fols.labs_nd (h:Fols K H1 H fs fa):(fa.map (·.1)).Nodup:=by rw [h.lab];exact (xA fs).1
theorem zU {c:Addr}{o:HO}:Off [c] H (upd H c o):=(Off.refl _ _).upd (Q7.mpr rfl)
theorem zN {c:Addr}{kvs:List (Key×V)}(h:H c=some (.dK kvs)):∀ b∈[c],∀ xs,¬Rd H b (.tup xs):=fun b hb xs=>by
 rw [Q7.mp hb];exact Gb h (fun _ z=>(nomatch z)) (fun _ _ z=>(nomatch z)) xs
theorem Fols.old (h:Fols K H1 H fs fa){p:Str×Addr}(hp:p∈fa){kvs:List (Key×V)}(hk:H p.2=some (.dK kvs))(hf:FsAt K H (sub fs p.1) kvs){f:Fi}{b:Str}{r:List Str}(e:f.1=p.1::b::r){v:V}(hv:Dt K H (tupS f.2) v)(hl:Uv f.2) :
  Fols K H1 (upd H p.2 (.dK (kvs++[(.inr (pth (b::r)),v)]))) (fs++[f]) fa:=by
 have nt:=zN hk;have o:Off [p.2] H (upd H p.2 (.dK (kvs++[((.inr (pth (b::r)):Key),v)]))):=zU;have inl:p.1∈fol fs:=by rw [←h.lab];exact Za.mpr ⟨p,hp,rfl⟩
 refine ⟨?_,h.nd,h.new,fun q hq=>?_⟩
 ·rw [jN,e];show _=xV (fol fs) p.1;unfold xV;rw [Zz inl];exact h.lab
 ·rw [sub_snoc,vB e]
  by_cases z:p.1=q.1
  ·rw [Zz z];have eq:p.2=q.2:=by
    have h1:=k8 h.labs_nd hq;rw [←z,k8 h.labs_nd hp] at h1;injection (Option.some.inj h1)
   refine ⟨_,by rw [←eq];exact zB,?_⟩;rw [←z];exact (hf.off nt o).snoc (f:=(b::r,f.2)) (Dt.off nt o _ _ (qP hl) hv) hl
  ·rw [Zy z];obtain ⟨kq,a1,a2⟩:=h.at_ q hq;have ne:q.2≠p.2:=fun y=>by
    obtain ⟨i,hi,ei⟩:=ZO.mp hp;obtain ⟨j,hj,ej⟩:=ZO.mp hq;have:=(Je (h₀:=by simpa using hi) (h₁:=by simpa using hj) h.nd).mp (by rw [ZQ,ZQ,ei,ej];exact y.symm);subst this;rw [ei] at ej;exact z (by rw [ej])
   refine ⟨kq,by rw [zH ne];exact a1,?_⟩;show FsAt K _ (sub fs q.1++[]) kq;rw [ZF];exact a2.off nt o
theorem Fols.fresh' (h:Fols K H1 H fs fa){l b:Str}{r:List Str}(nl:l∉fol fs){c:Addr}(hc:H c=some (.dK []))(n1:H1 c=none)(nf:∀ p∈fa,p.2≠c){f:Fi}(e:f.1=l::b::r){v:V}(hv:Dt K H (tupS f.2) v)(hl:Uv f.2) :
  Fols K H1 (upd H c (.dK [(.inr (pth (b::r)),v)])) (fs++[f]) (fa++[(l,c)]):=by
 have nt:=zN hc;have o:Off [c] H (upd H c (.dK [((.inr (pth (b::r)):Key),v)])):=zU;have s0:sub fs l=[]:=Jj.mpr fun k hk=>by
  obtain ⟨h0,hf⟩:=mem_sub.mp hk;refine nl (((xA fs).2 l).mpr ⟨_,hf,?_⟩);cases q:k.1 with
  | nil=>exact absurd q h0
  | cons b r=>exact ⟨b,r,rfl⟩
 refine ⟨?_,?_,fun p hp=>?_,fun p hp=>?_⟩
 ·rw [jN,e,Zf,h.lab];show _=xV (fol fs) l;unfold xV;rw [Zy nl];rfl
 ·rw [Zf];refine jB h.nd fun z=>?_;obtain ⟨p,hp,ep⟩:=Za.mp z;exact nf p hp ep
 ·rcases Zs.mp hp with z|z
  ·exact h.new p z
  ·rw [Q7.mp z];exact n1
 ·rw [sub_snoc,vB e]
  rcases Zs.mp hp with z|z
  ·have ne:l≠p.1:=fun y=>nl (by rw [y,←h.lab];exact Za.mpr ⟨p,z,rfl⟩);rw [Zy ne];obtain ⟨kvs,a,b⟩:=h.at_ p z;refine ⟨kvs,by rw [zH (nf p z)];exact a,?_⟩;show FsAt K _ (sub fs p.1++[]) kvs;rw [ZF];exact b.off nt o
  ·rw [Q7.mp z,Zz rfl,s0];exact ⟨_,zB,FsAt.snoc (fs:=[]) FsAt.nil (f:=(b::r,f.2)) (Dt.off nt o _ _ (qP hl) hv) hl⟩
end
end An
namespace An06
open PySem L2 An
seal L2.PS L2.PSs L2.PE L2.PT L2.PW L2.PA L2.PG L2.PGs L2.PI L2.PFi L2.PC
def spPath (K:ZZF):Sp:=fun vs H Q _=>∃ (d:PyData) (v:V),vs=[v]/\Dw K H d v/\small d=true/\∀ H',Same H H'->Q (.bl (Xt d)) H'
def spLabels (K:ZZF)(aP:Addr):Sp:=fun vs H Q E=>∃ (d:PyData) (v:V),vs=[v]/\Dw K H d v/\small d=true/\(∀ x,d=.str x->IY x=true->∀ p H',Same H H'->SqL K H' p ((labs x).map V.str)->Q (.ref p) H')/\(Xt d=false->∀ H',Same H H'->E (.ref aP) none H')
def spFols (K:ZZF):Sp:=fun vs H Q _=>∃ x:Str,vs=[.str x]/\x.length<=1000/\∀ p H',Same H H'->SqL K H' p ((fols x).map V.str)->Q (.ref p) H'
def spFile (K:ZZF):Sp:=fun vs H Q _=>∃ (d e:PyData) (v u:V),vs=[v,u]/\Dw K H d v/\Dw K H e u/\small d=true/\small e=true/\∀ H',Same H H'->Q (.bl (Xt d&&UW e)) H'
theorem sl47:[V.str "/"]=[V.str ⟨#[47]⟩]:=by rw [U4];rfl
theorem Bc (x:Str):PySem.Txt.split x ⟨#[47]⟩=labs x:=by unfold labs;rw [U4];rfl
theorem line_parts {x:Str}:UM x=true↔x.length<=20/\(cs x).all Uw=true:=by
 unfold UM;rw [Zg,ZL]
theorem label_parts {x:Str}:zS x=true↔1<=x.length/\x.length<=8/\(cs x).all Uy=true:=by
 unfold zS;rw [Zg,Zg,ZL,ZL,and_assoc]
def Bt (t:Th):Prop:=t.Good/\j6 t.dat=true/\small t.dat=true/\narrow t.dat
theorem Bf {x:Str}(h:UM x=true):Ok 1000 x:=by
 obtain ⟨h1,h2⟩:=line_parts.mp h;refine ⟨by omega,?_⟩;rw [xC];intro c hc;have:=ZI.mp h2 c hc;unfold Uw at this;simp only [Zg,ZL] at this;omega
theorem label_ok {x:Str}(h:zS x=true):Ok 1000 x:=⟨by have:=(label_parts.mp h).2.1;omega,Go h⟩
theorem uH:∀ {ls:List Str},(∀ l∈ls,l.length<=1000)->yF (ls.map .str)=true
 | [],_=>rfl
 | l::ls,h=>by
  show (decide (l.length<=1000)&&yF (ls.map .str))=true;rw [Zd (h l Zc),uH fun x hx=>h x (Zb _ hx)];rfl
theorem IW:∀ {rs:List (Str×Str)},(∀ r∈rs,r.1.length<=1000/\r.2.length<=1000)->yF (rs.map rowDat)=true
 | [],_=>rfl
 | r::rs,h=>by
  obtain ⟨h1,h2⟩:=h r Zc;show ((decide (2<=1000)&&(decide (r.1.length<=1000)&&(decide (r.2.length<=1000)&&true)))&&yF (rs.map rowDat))=true;rw [Zd h1,Zd h2,IW fun x hx=>h x (Zb _ hx)];rfl
theorem U1 {ls:List Str}(h:∀ l∈ls,UM l=true)(hl:ls.length<=60):Bt (.leaf ls):=by
 have h1:∀ l∈ls,l.length<=1000:=fun l hl=>(Bf (h l hl)).len;refine ⟨⟨by show ls.length<=1000;omega,fun p hp=>Bf (h p hp)⟩,?_,?_,fun ds e=>?_⟩
 ·show ((decide (("leaf":Str)="leaf")&&(decide (1=1)&&((ls.map PyData.str).all UJ)))||_)=true;have:(ls.map PyData.str).all UJ=true:=by rw [List.all_map,ZI];exact h
  rw [this,Zd rfl];rfl
 ·show (decide (2<=1000)&&(decide (("leaf":Str).length<=1000)&&((decide ((ls.map PyData.str).length<=1000)&&yF (ls.map .str))&&true)))=true;rw [uH h1,Q5,Zd (show ls.length<=1000 by omega),Zd (show ("leaf":Str).length<=1000 by decide +kernel)];rfl
 ·have e:[PyData.str "leaf",.tuple (ls.map .str)]=ds:=by injection e
  subst e;refine ⟨by show 2<=60;decide,fun e he es ee=>?_⟩
  rcases Zi.mp he with q|q
  ·rw [q] at ee;cases ee
  ·rw [Q7.mp q] at ee;cases ee;rw [Q5];exact hl
theorem good_tree {rs:List (Str×Str)}(h:∀ r∈rs,zS r.1=true/\Ok 1000 r.2)(hr:UR (rs.map (·.1))=true)(hl:rs.length<=60):Bt (.tree rs):=by
 have fl:∀ rs:List (Str×Str),(∀ r∈rs,zS r.1=true/\Ok 1000 r.2)->∀ p∈z6 rs,Ok 1000 p:=by
  intro rs
  induction rs with
  | nil=>intro _ p hp;cases hp
  | cons r rs ih =>
   intro h p hp
   rcases Zi.mp hp with q|hp
   ·rw [q];exact label_ok (h r Zc).1
   ·rcases Zi.mp hp with q|hp
    ·rw [q];exact (h r Zc).2
    ·exact ih (fun x hx=>h x (Zb _ hx)) p hp
 refine ⟨⟨?_,fl rs h⟩,?_,?_,fun ds e=>?_⟩
 ·show (z6 rs).length<=1000;rw [f_tree_parts.flat_len];omega
 ·show ((decide (("tree":Str)="leaf")&&(decide (1=1)&&UW (.tuple (rs.map rowDat))))||((decide (("tree":Str)="tree")&&(decide (1=1)&&((rs.map rowDat).all UO&&UR ((rs.map rowDat).map UB))))||_))=true;have e1:(rs.map rowDat).all UO=true:=by
   rw [List.all_map,ZI];intro r hr;show (zS r.1&&true)=true;rw [(h r hr).1];rfl
  have e2:(rs.map rowDat).map UB=rs.map (·.1):=by rw [Zt];rfl
  rw [e1,e2,hr,Zo (show ¬("tree":Str)="leaf" by decide +kernel),Zd (show ("tree":Str)="tree" from rfl)];rfl
 ·show (decide (2<=1000)&&(decide (("tree":Str).length<=1000)&&((decide ((rs.map rowDat).length<=1000)&&yF (rs.map rowDat))&&true)))=true;rw [IW fun r hr=>⟨(label_ok (h r hr).1).len,(h r hr).2.len⟩,Q5,Zd (show rs.length<=1000 by omega),Zd (show ("tree":Str).length<=1000 by decide +kernel)];rfl
 ·have e:[PyData.str "tree",.tuple (rs.map rowDat)]=ds:=by injection e
  subst e;refine ⟨by show 2<=60;decide,fun e he es ee=>?_⟩
  rcases Zi.mp he with q|q
  ·rw [q] at ee;cases ee
  ·rw [Q7.mp q] at ee;cases ee;rw [Q5];exact hl
theorem rise_of {l:List Str}(h:l.Pairwise ltS):UR l=true:=rise_iff.mpr ⟨h.imp fun {a b} z q=>List.lt_asymm z q,ZH.mpr (h.imp fun {a b} z=>Xu z)⟩
theorem form_at {S:List En}{x:Str}{ws:List Str}(h:yA S x ws=true):x∈S.map En.nm:=by
 unfold yA at h;obtain ⟨e,he,q⟩:=Z7.mp h;rw [Zg,ZL] at q;exact Za.mpr ⟨e,he,q.1⟩
theorem form_leaf {S:List En}{x:Str}{ls:List Str}(h:At S x (.leaf ls)):yA S x ["leaf","tree"]=true:=by
 obtain ⟨e,he,rfl,hd⟩:=h;refine Z7.mpr ⟨e,he,?_⟩;rw [Zg,Zq,Zq,jY hd];exact ⟨rfl,Zc ..⟩
theorem form_tree {S:List En}{x:Str}{rows:List (Str×Str)}(h:At S x (.tree rows)):yA S x ["leaf","tree"]=true:=by
 obtain ⟨e,he,rfl,hd⟩:=h;refine Z7.mpr ⟨e,he,?_⟩;rw [Zg,Zq,Zq,jY hd];exact ⟨rfl,Zb _ (Zc ..)⟩
theorem form_of {S:List En}{d:Nat}{x:Str}(h:Tree d S x):yA S x ["leaf","tree"]=true:=by
 cases d with
 | zero=>exact absurd h (fun z=>z)
 | succ d =>
  rcases h with ⟨ls,h⟩|⟨rows,h,_⟩
  ·exact form_leaf h
  ·exact form_tree h
theorem put_S {P:Program}{w:World}{K:ZZF}{C aN aT:Addr}{H:Hp}{a:Addr}{fp:List Addr}{S:List En}{t:Th}{v:V}{Q:VK}{E:XK}(sh:ShAt P w K C H a fp S)(ok:OkS S)(g:Bt t)(nok:namesOk S t=true)(l:S.length<2000)(hv:Dt K H t.dat v)
  (k:∀ H2,Off fp H H2->ShAt P w K C H2 a fp (putS S t).1->Q (.str (putS S t).2) H2):UK P w K C aN aT [.ref a,v] H Q E:=by
 refine ⟨a,fp,S,t.dat,v,rfl,sh,ok.th,Dt.dw hv,g.2.2.1,g.2.2.2,fun _=>⟨t,rfl,g.1⟩,l,fun h=>by have:=next_le ok.num h;omega,fun z=>?_,fun t' e _ no=>?_,fun t' e _ _ H2 S' e2 pr=>?_⟩
 ·rw [g.2.1] at z;cases z
 ·have:=vI e;subst this;rw [nok] at no;cases no
 ·have:=vI e;subst this;obtain ⟨of,sh2,he2,ed,q⟩:=pr
  rcases q with q|⟨q,q2,q3⟩
  ·rw [q] at he2 sh2;have pe:=putS_in ok (x:=e2.nm) ⟨e2,he2,rfl,ed⟩;rw [pe] at k;exact k H2 of sh2
  ·have pe:=putS_new (S:=S) (t:=t) fun e he hd=>q3 (Za.mpr ⟨e,he,hd⟩);rw [pe] at k;rw [q2] at q;rw [q] at sh2;rw [q2];exact k H2 of sh2
def Xc (P:Program)(w:World)(K:ZZF)(C:Addr):Sp:=fun vs H Q _=>∃ (a d:Addr) (fp:List Addr) (S:List En) (rows:List (Str×Str)),vs=[.ref a,.ref d]/\ShAt P w K C H a fp S/\OkS S/\Rd H d (.dK (rkv rows))/\(rows.map (·.1)).Nodup/\(∀ r∈rows,zS r.1=true/\yA S r.2 ["leaf","tree"]=true)/\rows.length<=60/\S.length<2000 /\
 ∀ H',Off fp H H'->ShAt P w K C H' a fp (putS S (.tree (Uu rows))).1->Q (.str (putS S (.tree (Uu rows))).2) H'
section
variable {P:Program}{w:World}{K:ZZF}{mg:Str->Option Value}{base:Heap}{t1 t2 t3 t4 t5 t6 t7:Tok}{aL aC aN aT aA b1 b2:Addr}
theorem qH {C:Addr}{H:Hp}{a:Addr}{fp:List Addr}{S:List En}(h:ShAt P w K C H a fp S):∃ dx d1 d2 d3,H a=some (.ins C dx (flds d1 d2 d3)):=by
 obtain ⟨_,dx,d1,d2,d3,_,_,_,_,h1,_⟩:=h;exact ⟨dx,d1,d2,d3,h1⟩
namespace p_path
abbrev st:Stmt:=top 34
theorem sc:FnScope ["thing","labels"] ["thing"] (zG st):=QS0
theorem ok {f:Addr}{fd:FuncData}(F:Fun K "is_path" "is_path" st f fd)(T:Txt P w K mg t1 t2 t3 t4 t5 t6 t7 aL aC aN aT aA b1 b2)(Qk:Cal P w K mg base 1 "is_label" ["thing"] (G2 K)):FnOk P w K mg base CX0 2 f fd ["thing"] (spPath K):=by
 refine F.ok sc (fun vs H Q E h=>?_) (fun cdv A outer s H vs Q E hr h=>?_)
 ·obtain ⟨d,v,rfl,_⟩:=h;rfl
 ·obtain ⟨d,v,rfl,hd,sm,k⟩:=h;refine ⟨_,(zD (yI (y9 (zX (K:=K) (zK (zV (K:=K)) (by rfl) T.isinstance Zx (zA (pv 0) (zA (yS (v:=.ty "str") rfl T.str ZY rfl) zC))) (fun _=>rfl)))
    (zE (zL x5))
    zR)
   (zD (zP (i:=1) sc.nd rfl (Or.inl rfl) (k9 Z0 Jr Js uR (pv 0) (zA pe_str zC)))
   (zE (zL (yV (yH op_le (zK zY (by rfl) T.len ZS (zA (pv 1) zC)) (jC (v:=.int 4) rfl T.MOST_LABELS ⟨_,rfl⟩) (zT _)) (xK (zK (x6 rfl) (by rfl) T.all Yu (zA (y6 (sc:=zG st) (N:=["thing","labels"]) (N':=["label"]) (src:=[none]) ⟨by decide +kernel,rfl,rfl,by decide +kernel,by decide +kernel,by decide +kernel,by decide +kernel⟩ rfl rfl rfl (qL (pv 1)) (fun _ _ _ _=>(zQ (i:=0) (show (["label"]:List Str).Nodup by decide +kernel) rfl (Or.inl rfl))) (fun _ _ _ _=>xU) (fun _ _ _ _=>(zJ Qk hr.m (zA (pv 0) zC)))) zC)))))))),?_⟩
  refine ⟨_,rfl,_,_,d,_,rfl,hd,T.is (by simp [kinds]),_,rfl,?_⟩;cases d with
  | str x =>
   cases (show v=_ from hd);have xl:x.length<=1000:=ZB sm;have cl:=uV x;refine Ug ⟨_,rfl,rfl,x,47,rfl,sl47,by omega,fun l nl=>?_⟩;rw [Bc];have u:=zF (o:=.lst ((labs x).map V.str)) nl;refine ⟨_,rfl,l,_,rfl,.inl (SqL.of zB),_,_,rfl,rfl,_,rfl,Uk (fun h1=>?_) (fun h1=>?_)⟩
   ·have h1:(labs x).length<=4:=by have:=ZB h1;rw [Q5] at this;omega
    refine ⟨_,rfl,l,rfl,⟨_,SqL.of zB⟩,jS (K:=K) (a:=l) (xs:=(labs x).map V.str) (fun i ys σ H2=>∃ o,σ=[o]/\Same (upd H l (.lst ((labs x).map V.str))) H2/\ys=(((labs x).take i).map zS).map V.bl) ⟨none,rfl,Same.refl _,rfl⟩ (le_line (by rw [Q5];omega)) ?_ ?_ ?_⟩
    ·rintro i ys σ H2 hi ⟨o,rfl,e2,rfl⟩;refine ⟨SqL.of (e2 _ _ zB),?_⟩;rw [Q5,Q5,ZC];omega
    ·rintro i y ys σ H2 hy ⟨o,rfl,e2,rfl⟩;rw [Zl] at hy;cases q:(labs x)[i]? with
     | none=>rw [q] at hy;cases hy
     | some z =>
      rw [q] at hy;have hy:V.str z=y:=Option.some.inj hy;subst hy;have zl:=labs_len (Zk q);refine ⟨_,rfl,.str z,_,rfl,rfl,Zd (by omega),fun H3 s3=>⟨_,rfl,e2.trans s3,?_⟩⟩;rw [yU q,Zf];rfl
    ·rintro ys σ H2 ⟨o,rfl,e2,rfl⟩ p np;refine ⟨p,_,rfl,SqL.of zB,?_⟩;rw [Q5,ZA,all_map];have e:Xt (.str x)=(labs x).all zS:=by
      show (decide ((labs x).length<=4)&&(labs x).all zS)=_;rw [Zd h1];rfl
     rw [e] at k;exact k _ ((u.trans e2).trans (zF np))
   ·have e:Xt (.str x)=false:=by
     show (decide ((labs x).length<=4)&&(labs x).all zS)=_;rw [Zo (p:=(labs x).length<=4) (fun z=>h1 (Zd (by rw [Q5];omega)))];rfl
    rw [e] at k;exact k _ u
  | none=>exact Uf (k _ (Same.refl _))
  | bool b=>exact Uf (k _ (Same.refl _))
  | int i=>exact Uf (k _ (Same.refl _))
  | list ds=>exact Uf (k _ (Same.refl _))
  | tuple ds=>exact Uf (k _ (Same.refl _))
  | dict kvs=>exact Uf (k _ (Same.refl _))
end p_path
namespace p_labels
abbrev st:Stmt:=top 35
theorem sc:FnScope ["path"] ["path"] (zG st):=QS0
theorem ok {f:Addr}{fd:FuncData}(F:Fun K "labels_of" "labels_of" st f fd)(T:Txt P w K mg t1 t2 t3 t4 t5 t6 t7 aL aC aN aT aA b1 b2)(Qq:Cal P w K mg base 2 "is_path" ["thing"] (spPath K)):FnOk P w K mg base (CXF P w) 3 f fd ["path"] (spLabels K b1):=by
 refine F.okX sc (fun vs H Q E h=>?_) (fun cdv A outer s H vs Q E hr h=>?_)
 ·obtain ⟨d,v,rfl,_⟩:=h;rfl
 ·obtain ⟨d,v,rfl,hd,sm,k1,k2⟩:=h;refine ⟨_,(zD (yI (y9 (zX (K:=K) (zJ Qq hr.m (zA (pv 0) zC)) (fun _=>rfl)))
    (zE (x9 rfl xL rfl T.BadPath T.xBadPath (zA pe_str zC)))
    zR)
   (zE (zL (k9 Z0 Jr Js uR (pv 0) (zA pe_str zC))))),?_⟩
  refine ⟨_,rfl,d,v,rfl,hd,sm,fun H2 s2=>⟨_,rfl,?_⟩⟩;cases q:Xt d with
  | true =>
   cases d with
   | str x =>
    cases (show v=_ from hd);have xl:x.length<=1000:=ZB sm;refine Ug ⟨_,rfl,rfl,x,47,rfl,sl47,by omega,fun l nl=>?_⟩;rw [Bc];exact k1 x rfl q l _ (s2.trans (zF nl)) (SqL.of zB)
   | none=>cases q
   | bool b=>cases q
   | int i=>cases q
   | list ds=>cases q
   | tuple ds=>cases q
   | dict kvs=>cases q
  | false=>exact Uf ⟨Um 1,k2 q _ s2⟩
end p_labels
namespace p_fols
abbrev st:Stmt:=top 36
theorem sc:FnScope ["path","labels"] ["path"] (zG st):=QS0
theorem ok {f:Addr}{fd:FuncData}(F:Fun K "folders_of" "folders_of" st f fd)(T:Txt P w K mg t1 t2 t3 t4 t5 t6 t7 aL aC aN aT aA b1 b2):FnOk P w K mg base CX0 1 f fd ["path"] (spFols K):=by
 refine F.ok sc (fun vs H Q E h=>?_) (fun cdv A outer s H vs Q E hr h=>?_)
 ·obtain ⟨x,rfl,_⟩:=h;rfl
 ·obtain ⟨x,rfl,xl,k⟩:=h;refine ⟨_,(zD (zP (i:=1) sc.nd rfl (Or.inr rfl) (k9 Z0 Jr Js uR (pv 0) (zA pe_str zC)))
   (zE (zL (y6 (sc:=zG st) (N:=["path","labels"]) (N':=["count","labels"]) (src:=[none,some 1]) ⟨by decide +kernel,rfl,rfl,by decide +kernel,by decide +kernel,by decide +kernel,by decide +kernel⟩ rfl rfl rfl (pi_range2 rfl T.range (zA zI (zA (zK zY (by rfl) T.len ZS (zA (pv 1) zC)) zC))) (fun _ _ _ _=>(zQ (i:=0) (show (["count","labels"]:List Str).Nodup by decide +kernel) rfl (Or.inl rfl))) (fun _ _ _ _=>xU) (fun _ _ _ _=>(pe_bmK (K:=K) Z0 Jx Jy (mt_joinK (K:=K)) pe_str (zA (jM (sl_list:SlR _ (rSlL K)) (pv 1) XG (jI (pv 0))) zC))))))),?_⟩
  have cl:=uV x;have cp:=labs_pos x;have e1:("/":Str).length=1:=by decide +kernel
  refine ⟨_,rfl,rfl,x,47,rfl,sl47,by omega,fun l nl=>?_⟩;rw [Bc];have u:=zF (o:=.lst ((labs x).map V.str)) nl;refine ⟨_,rfl,l,_,rfl,.inl (SqL.of zB),1,(((labs x).map V.str).length:Int),rfl,⟨by decide,by decide,by omega,by rw [Q5];omega⟩,?_⟩;have en:((((labs x).map V.str).length:Int)-1).toNat=(labs x).length-1:=by rw [Q5];omega
  rw [en];refine jZ (fun i ys σ H2=>∃ o,σ=[o,some (.ref l)]/\Same (upd H l (.lst ((labs x).map V.str))) H2/\ys=((List.range i).map fun i=>PySem.Txt.join "/" ((labs x).take (i+1))).map V.str) ⟨none,rfl,Same.refl _,rfl⟩ (le_line (by omega)) ?_ ?_ ?_
  ·rintro i ys σ H2 hi ⟨o,rfl,e2,rfl⟩;rw [Q5,Q5,YD];exact Ze _
  ·rintro i ys σ H2 hi ⟨o,rfl,e2,rfl⟩;refine ⟨rfl,_,rfl,_,rfl,_,rfl,l,_,rfl,SqL.of (e2 _ _ zB),fun p np=>?_⟩;have et:Uz ((labs x).map V.str) none (some (1+(i:Int)))=((labs x).take (i+1)).map V.str:=by
    rw [cut_to (by omega),Vy]
    congr 1
    omega
   rw [et];refine ⟨"/",p,(labs x).take (i+1),rfl,rfl,.inl (SqL.of zB),?_,_,rfl,e2.trans (zF np),?_⟩
   ·have h1:=Bz (n:=1000) ((labs x).take (i+1)) (fun y hy=>by have:=labs_len (JJ hy);omega);have h2:((labs x).take (i+1)).length<=1001:=by rw [ZC];omega
    have h3:((labs x).take (i+1)).length*1000<=1001*1000:=Nat.mul_le_mul_right _ h2;refine le_line ?_;rw [e1];omega
   ·rw [Ud,Zf,Zf];rfl
  ·rintro ys σ H2 ⟨o,rfl,e2,rfl⟩ p np;exact k p _ ((u.trans e2).trans (zF np)) (SqL.of zB)
end p_fols
namespace p_file
abbrev st:Stmt:=top 37
theorem sc:FnScope ["path","lines"] ["path","lines"] (zG st):=QS0
theorem ok {f:Addr}{fd:FuncData}(F:Fun K "is_file" "is_file" st f fd)(T:Txt P w K mg t1 t2 t3 t4 t5 t6 t7 aL aC aN aT aA b1 b2)(Qq:Cal P w K mg base 2 "is_path" ["thing"] (spPath K))(Ql:Cal P w K mg base 3 "is_lines" ["thing"] (Bn K)):FnOk P w K mg base CX0 4 f fd ["path","lines"] (spFile K):=by
 refine F.ok sc (fun vs H Q E h=>?_) (fun cdv A outer s H vs Q E hr h=>?_)
 ·obtain ⟨d,e,v,u,rfl,_⟩:=h;rfl
 ·obtain ⟨d,e,v,u,rfl,hd,he,sd,se,k⟩:=h;refine ⟨_,(zE (zL (yV (zJ Qq hr.m (zA (pv 0) zC)) (xK (zJ Ql hr.m (zA (pv 1) zC)))))),?_⟩;refine ⟨_,rfl,d,v,rfl,hd,sd,fun H2 s2=>⟨_,rfl,Uk (fun h1=>?_) (fun h1=>?_)⟩⟩
  ·rw [h1,VX] at k;exact ⟨_,rfl,e,u,rfl,Dw.same s2 _ _ he,se,fun H3 s3=>k _ (s2.trans s3)⟩
  ·have h1:=YC.mpr h1;rw [h1] at k;exact k _ s2
end p_file
namespace t_put_rows
abbrev st:Stmt:=top 43
theorem sc:FnScope ["shelf","rows"] ["shelf","rows"] (zG st):=QS0
theorem ok {f:Addr}{fd:FuncData}(F:Fun K "put_rows" "put_rows" st f fd)(T:Txt P w K mg t1 t2 t3 t4 t5 t6 t7 aL aC aN aT aA b1 b2)(Qb:MetX P w K mg base aC 7 "put" ["self","thing"] (UK P w K aC aN aT)):FnOk P w K mg base CX0 8 f fd ["shelf","rows"] (Xc P w K aC):=by
 refine F.ok sc (fun vs H Q E h=>?_) (fun cdv A outer s H vs Q E hr h=>?_)
 ·obtain ⟨a,d,fp,S,rows,rfl,_⟩:=h;rfl
 ·obtain ⟨a,d,fp,S,rows,rfl,sh,ok,hd,nd,hr',rl,sl,k⟩:=h;refine ⟨_,(zE (zL (yO (pv 0) T.cls Qb hr.m zO (zA (kD (zA pe_str (zA (zZ kT (by rfl) T.tuple Yj (zA (pe_sortI (K:=K) rfl hr.units (by rfl) T.sorted JX (pv 1)) zC)) zC))) zC)))),?_⟩;obtain ⟨ix,i1,i2,i3,hix⟩:=qH sh;have oks:∀ r∈rows,zS r.1=true/\Ok 1000 r.2:=fun r m=>by
   obtain ⟨e,he,en⟩:=Za.mp (form_at (hr' r m).2);exact ⟨(hr' r m).1,by rw [←en];exact ok.nm he⟩
  refine ⟨_,rfl,a,ix,_,rfl,hix,rfl,_,rfl,d,rows,rfl,hd,by omega,fun p hp=>⟨(Xa (oks p hp).1).ok,(oks p hp).2.ok⟩,fun l ss ts H2 pm so sm nl hl dt=>?_⟩;have es:=sortR_eq nd pm so;subst es;refine ⟨l,_,rfl,.inl ⟨SqL.of hl,fun p2 n2=>?_⟩⟩;have v2:=zF (o:=.tup ts) n2;refine ⟨Um 2,fun p4 n4=>?_⟩;have v4:=zF (o:=.tup [V.str "tree",V.ref p2]) n4;have sall:=(sm.trans v2).trans v4;have d0:Dt K (upd (upd H2 p2 (.tup ts)) p4 (.tup [V.str "tree",V.ref p2])) (Th.tree (Uu rows)).dat (.ref p4):=⟨p4,_,rfl,SqT.of zB,_,_,rfl,rfl,_,_,rfl,⟨p2,ts,rfl,SqT.of (v4 _ _ zB),DtAll.same (v2.trans v4) _ _ dt⟩,rfl⟩;have ms:∀ {r},r∈Uu rows↔r∈rows:=(xH rows).mem_iff;have g:Bt (.tree (Uu rows)):=good_tree (fun r m=>oks r (ms.mp m)) (rise_of (sortR_lt nd)) (by rw [(xH rows).length_eq];exact rl);have nok:namesOk S (.tree (Uu rows))=true:=ZI.mpr fun r m=>(hr' r (ms.mp m)).2;delta tNil;dsimp only;show UK P w K aC aN aT [V.ref a,V.ref p4] (upd (upd H2 p2 (.tup ts)) p4 (.tup [V.str "tree",V.ref p2])) _ _;exact put_S (sh.same sall) ok g nok sl d0 fun H5 of5 sh5=>k H5 (fun b o nb e=>of5 b o nb (sall _ _ e)) sh5
end t_put_rows
end
end An06
namespace An
open PySem L2
theorem wt_take (fs:List Fi)(i:Nat):wt (fs.take i)<=wt fs:=by
 have:=Bq (fs.take i) (fs.drop i);rw [ZX] at this;omega
theorem lvs_take {fs:List Fi}{i:Nat}{v:Str×List Str}(h:v∈lvs (fs.take i)):v∈lvs fs:=by
 obtain ⟨a,ls⟩:=v;exact mem_lvs.mpr (JJ (mem_lvs.mp h))
theorem lv_at {n:Nat}{S:List En}{fs:List Fi}(ok:OkS S)(g:GoodF n fs)(hs:S.length+1+wt fs<=2000)(i:Nat) :
  OkS ((lvs (fs.take i)).foldl lvStep (S,[])).1/\((lvs (fs.take i)).foldl lvStep (S,[])).1.length<2000/\((lvs (fs.take i)).foldl lvStep (S,[])).2.map (·.1)=(lvs (fs.take i)).map (·.1):=by
 have hm:=many (fs.take i);have hw:=wt_take fs i;obtain ⟨a1,a2⟩:=XV (d:=0) (lvs (fs.take i)) (Fo.nil ok) (fun v hv=>(g.lab _ (mem_lvs.mp (lvs_take hv))).2.2.2) (by omega);refine ⟨a1.ok,by omega,?_⟩;rw [a1.lab,VD,Zt];rfl
theorem f_pre {d:Nat}{S:List En}{fs:List Fi}(ok:OkS S)(g:GoodF (d+1) fs)(hl:fs.length<=60)(hs:S.length+1+wt fs<=2000)(ls rest:List Str)(e:ls++rest=fol fs) :
  Fo (d+1) S (ls.foldl (fStep d fs) ((lvs fs).foldl lvStep (S,[]))).1 (ls.foldl (fStep d fs) ((lvs fs).foldl lvStep (S,[]))).2 ((lvs fs).map (fun v=>(v.1,[(([],v.2):Fi)]))++ls.map fun l=>(l,sub fs l)) /\
  (ls.foldl (fStep d fs) ((lvs fs).foldl lvStep (S,[]))).1.length+(rest.map fun l=>1+wt (sub fs l)).sum<=S.length+wt fs:=by
 have hm:=many fs;rw [←e,Zf,Ua] at hm;obtain ⟨a1,a2⟩:=XV (d:=d) (lvs fs) (Fo.nil ok) (fun v hv=>(g.lab _ (mem_lvs.mp hv)).2.2.2) (by omega);rw [VD] at a1;have H:∀ l∈ls,∀ S,OkS S->S.length+1+wt (sub fs l)<=2000->PutOk (d+1) S (sub fs l) (Uj d S (sub fs l))/\(Uj d S (sub fs l)).1.length<=S.length+1+wt (sub fs l):=fun l hl' S' ok' hs'=>by
  cases d with
  | zero =>
   obtain ⟨f,hf,b,r,ef⟩:=((xA fs).2 l).mp (by rw [←e];exact Z5 _ hl');have:=(g.lab f hf).2.1;rw [ef,Zn,Zn] at this;omega
  | succ d=>exact uI d ok' (g.sub l) (Yb sub_len hl) hs'
 obtain ⟨b1,b2⟩:=f_fold ls H (S:=((lvs fs).foldl lvStep (S,[])).1) (rows:=((lvs fs).foldl lvStep (S,[])).2) a1 (by omega);refine ⟨b1,?_⟩;have b2:(ls.foldl (fStep d fs) ((lvs fs).foldl lvStep (S,[]))).1.length<=_:=b2;omega
theorem f_at {d:Nat}{S:List En}{fs:List Fi}(ok:OkS S)(g:GoodF (d+1) fs)(hl:fs.length<=60)(hs:S.length+1+wt fs<=2000){j:Nat}{l:Str}(hj:(fol fs)[j]?=some l) :
  OkS (((fol fs).take j).foldl (fStep d fs) ((lvs fs).foldl lvStep (S,[]))).1/\(((fol fs).take j).foldl (fStep d fs) ((lvs fs).foldl lvStep (S,[]))).1.length+1+wt (sub fs l)<=2000 /\
  (((fol fs).take j).foldl (fStep d fs) ((lvs fs).foldl lvStep (S,[]))).2.map (·.1)=(lvs fs).map (·.1)++(fol fs).take j:=by
 obtain ⟨h1,h2⟩:=f_pre ok g hl hs ((fol fs).take j) ((fol fs).drop j) (ZX _ _);have hd:(fol fs).drop j=l::(fol fs).drop (j+1):=by
  have:=(Zr.mp hj);rw [←this.2];exact JS this.1
 rw [hd,Zw,YS] at h2;refine ⟨h1.ok,by omega,?_⟩;rw [h1.lab,Zf,Zt,Zt]
 congr 1
 exact VB _
theorem f_end {d:Nat}{S:List En}{fs:List Fi}(ok:OkS S)(g:GoodF (d+1) fs)(hl:fs.length<=60)(hs:S.length+1+wt fs<=2000){q:List En×List (Str×Str)}(e:q=(fol fs).foldl (fStep d fs) ((lvs fs).foldl lvStep (S,[]))) :
  OkS q.1/\q.1.length<2000/\(q.2.map (·.1)).Nodup/\(∀ r∈q.2,zS r.1=true/\∃ e,Tree e q.1 r.2)/\q.2.length<=60:=by
 subst e;obtain ⟨h1,h2⟩:=f_pre ok g hl hs (fol fs) [] (ZF _);have h1:Fo (d+1) S _ _ (pieces fs):=h1;have h2:_+0<=S.length+wt fs:=h2;have pl:=qI fs;refine ⟨h1.ok,by omega,by rw [h1.lab];exact UT g,fun r hr=>?_,?_⟩
 ·obtain ⟨i,hi⟩:=YR.mp hr;have il:=(Zr.mp hi).1;have hp:=Zj (l:=pieces fs) (i:=i) (by rw [←h1.len];exact il);have e:=congrArg (fun l=>l[i]?) h1.lab;simp only [Zl,hi,hp,Yp] at e;exact ⟨by rw [Option.some.inj e];exact (GA g _ (Yz _)).1,d+1,(h1.rd i r _ hi hp).1⟩
 ·rw [h1.len];unfold pieces;rw [Zh,Q5,Q5];omega
theorem kM (l:Str):pth [l]=l:=cs_inj (XL l)
theorem pth_two (l b:Str)(r:List Str):pth (l::b::r)=l++⟨#[47]⟩++pth (b::r):=cs_inj (by
 rw [qC l (ZR _ _),cs_append,cs_append];show _=cs l++[47]++_;simp)
theorem pth_ne (l b:Str)(r:List Str):l≠pth (l::b::r):=fun z=>by
 have:=congrArg (fun x=>(cs x).length) z;simp only [qC l (ZR b r),Zh,Zn] at this;omega
theorem vH:∀ {p:List Str},(∀ l∈p,zS l=true)->(cs (pth p)).length<=9*p.length
 | [],_=>by
  show (cs (Txt.join "/" [])).length<=0;rw [qE];exact Ze _
 | [l],h=>by
  have:=h l (Q7.mpr rfl);rw [XL];unfold zS at this;rw [Zg,Zg,ZL,ZL,length_cs] at this;show _<=9;omega
 | l::b::r,h=>by
  have h1:=h l (Zc ..);have ih:=vH (p:=b::r) fun x hx=>h x (Zb _ hx);rw [qC l (ZR _ _),Zh,Zn];unfold zS at h1;rw [Zg,Zg,ZL,ZL,length_cs] at h1;rw [Zn] at ih ⊢;rw [Zn];omega
theorem sub_new {n:Nat}{fs:List Fi}(g:GoodF n fs){i:Nat}{f:Fi}{l b:Str}{r:List Str}(hf:fs[i]?=some f)(e:f.1=l::b::r):(.inr (pth (b::r)):Key)∉(sub (fs.take i) l).map fun k=>(.inr (pth k.1):Key):=fun z=>by
 obtain ⟨k,hk,q⟩:=Za.mp z;have q:pth k.1=pth (b::r):=Sum.inr.inj q;obtain ⟨k0,hk⟩:=mem_sub.mp hk;have lk:=(g.lab _ (JJ hk)).2.2.1;have lf:=(g.lab _ (Zk hf)).2.2.1;have q:=j4 (d:=0) k0 (ZR _ _) (fun x hx=>lk x (Zb _ hx)) (fun x hx=>lf x (by rw [e];exact Zb _ hx)) q;obtain ⟨j,hj⟩:=YR.mp hk;rw [List.getElem?_take] at hj
 split at hj
 ·rename_i ji;have h1:(fs.map (·.1))[j]?=some f.1:=by rw [Zl,hj];show some (l::k.1)=_;rw [q,e]
  have h2:(fs.map (·.1))[i]?=some f.1:=by rw [Zl,hf];rfl
  obtain ⟨a1,a2⟩:=Zr.mp h1;obtain ⟨c1,c2⟩:=Zr.mp h2;have:=(Je g.nd).mp (a2.trans c2.symm);omega
 ·cases hj
end An
namespace L2
open PySem PySem.Spec PyProof.Rows
theorem B4 (x:Str)(c:Nat)(t u:Tok)(ho:Builtin.Str.occurrences x ⟨#[c]⟩ 0 x.length 1=[]):Meets (Builtin.«str.partition» ⟨[.str x t,.str ⟨#[c]⟩ u],[]⟩)
  (fun _ R s=>R (.ok (.ret (.ref s.heap.objs.size))) { s with heap:=s.heap.push { cls:=.type "tuple",data:=.seq #[.str x t,.str Str.empty s.toks,.str Str.empty s.toks] },toks:=s.toks+1 }) :=
 .of_wp fun prog w A R s h=>by
  obtain ⟨raising,e⟩:=partition_tree x ⟨#[c]⟩ t u;rw [e,Zy (show ¬((⟨#[c]⟩:Str).length==0)=true from (by show ¬(1==0)=true;decide)),ho];refine Q6 (JC ?_);refine Q6 (wpAny_mkStr ?_ (ZJ _));refine Q6 (wpAny_newTuple ?_ (by show 3<=sizeLine;decide));exact Q8 ⟨_,rfl,h⟩
section
variable {X:Cx}
def rPart0:V->List V->Hp->VK->Prop:=fun x vs H Q=>∃ (u:Str) (c:Nat),x=.str u/\vs=[.str ⟨#[c]⟩]/\c∉An.cs u/\∀ p,H p=none->Q (.ref p) (upd H p (.tup [.str u,.str "",.str ""]))
def rPart2:V->List V->Hp->VK->Prop:=fun x vs H Q=>rPart x vs H Q\/rPart0 x vs H Q
theorem Gh:MtR X "str.partition" rPart0:=by
 intro pins s σ H x xs v us Q I rx rs h;obtain ⟨a,c,rfl,rfl,hc,q⟩:=h;obtain ⟨t,rfl⟩:=rx;obtain ⟨w,rfl,t',rfl⟩:=vals1 rs;have hi:Builtin.Str.occurrences a ⟨#[c]⟩ 0 a.length 1=[]:=by
  rcases StrLaws.occ_head_from a ⟨#[c]⟩ 0 1 (Ze 1) with ⟨h0,hn⟩|⟨k,r,h0,hlo,hk,hn⟩
  ·exact h0
  ·have hm:=(StrLaws.subAt_one _ c k).mp hk;have hm:(An.cs a)[k]?=some c:=hm;exact absurd (Zk hm) hc
 refine Vs F.slot_str_partition (J4 s _ t) F.entry_str_partition (F.args_str_partition_2 _ _) (B4 _ c t t' hi) ?_;have hn:H s.heap.objs.size=none:=I.hok.fresh (Ze _);refine ⟨.ref s.heap.objs.size,_,I.laid (t':=s.toks+1) (a:=s.heap.objs.size) (o:=.tup [.str a,.str "",.str ""]) (fun _ _ q=>Q9 _ q) (Ze _) ?_,rfl,q _ hn⟩;exact ⟨by show 3<=sizeLine;decide,_,.cons ⟨_,rfl⟩ (.cons ⟨_,rfl⟩ (.cons ⟨_,rfl⟩ .nil)),⟨_,Zm _ rfl,rfl,_,rfl,rfl⟩⟩
theorem kN:MtR X "str.partition" rPart2:=by
 intro pins s σ H x xs v us Q I rx rs h
 rcases h with h|h
 ·exact uN pins s σ H x xs v us Q I rx rs h
 ·exact Gh pins s σ H x xs v us Q I rx rs h
end
end L2
namespace An06
open PySem L2 An
seal L2.PS L2.PSs L2.PE L2.PT L2.PW L2.PA L2.PG L2.PGs L2.PI L2.PFi L2.PC
def XW (P:Program)(w:World)(K:ZZF)(C:Addr):Nat->Sp
 | 0=>fun _ _ _ _=>False
 | d+1=>fun vs H Q _=>∃ (a c:Addr) (fp:List Addr) (S:List En) (fs:List Fi) (kvs:List (Key×V)),vs=[.ref a,.ref c]/\ShAt P w K C H a fp S/\OkS S/\H c=some (.dK kvs)/\c∉fp/\FsAt K H fs kvs/\GoodF (d+1) fs/\fs.length<=60/\S.length+1+wt fs<=2000 /\
  ∀ H',Off fp H H'->ShAt P w K C H' a fp (Uj (d+1) S fs).1->Q (.str (Uj (d+1) S fs).2) H'
theorem take_snoc {α:Type}{l:List α}{i:Nat}{x:α}(h:l[i]?=some x):l.take (i+1)=l.take i++[x]:=by rw [Yv,h];rfl
section
variable {P:Program}{w:World}{K:ZZF}{mg:Str->Option Value}{base:Heap}{t1 t2 t3 t4 t5 t6 t7:Tok}{aL aC aN aT aA b1 b2:Addr}
namespace t_put_files
abbrev st:Stmt:=top 45
theorem sc:FnScope ["shelf","files","rows","folders","path","lines","parts","label","beneath"] ["shelf","files"] (zG st):=QS0
theorem step {f:Addr}{fd:FuncData}{L d:Nat}(F:Fun K "put_files" "put_files" st f fd)(T:Txt P w K mg t1 t2 t3 t4 t5 t6 t7 aL aC aN aT aA b1 b2)(Qb:MetX P w K mg base aC 7 "put" ["self","thing"] (UK P w K aC aN aT))(Qc:Cal P w K mg base 8 "put_rows" ["shelf","rows"] (Xc P w K aC))(hL:8<=L)(hd:d<=100)(Qr:Cal P w K mg base L "put_files" ["shelf","files"] (XW P w K aC d)):FnOk P w K mg base CX0 (L+1) f fd ["shelf","files"] (XW P w K aC (d+1)):=by
 refine F.ok sc (fun vs H Q E h=>?_) (fun cdv A outer s H vs Q E hr h=>?_)
 ·obtain ⟨a,c,fp,S,fs,kvs,rfl,_⟩:=h;rfl
 ·obtain ⟨a,c,fp,S,fs,kvs,rfl,sh,ok,hc,ncf,ff,gf,fl,sl,k⟩:=h;have hu:=X6 hr;refine ⟨_,(zD (zP (i:=2) sc.nd rfl (Or.inl rfl) xO)
   (zD (zP (i:=3) sc.nd rfl (Or.inl rfl) xO)
   (zD (k6 (yW PassesOwn.never rfl (IK (uM (pv 1))) (UZ rfl (yY (zQ (i:=4) sc.nd rfl (Or.inl rfl)) (yY (zQ (i:=5) sc.nd rfl (Or.inl rfl)) kX)))
    (zD (zP (i:=6) sc.nd rfl (Or.inl rfl) (k9 Z0 JH JI kN (pv 4) (zA pe_str zC)))
    (zD (zP (i:=7) sc.nd rfl (Or.inl rfl) (z8 (ix_tup:IxR _ (Ui K)) (pv 6) zI (fun _ _=>rfl)))
    (zE (yI (zW xR (pv 7) (pv 4) (zT _))
     (zE (xF hu (pv 2) (pv 7) (yO (pv 0) T.cls Qb (hr.mono (by omega)) zO (zA (kD (zA pe_str (zA (pv 5) zC))) zC)) rfl))
     (zD (zP (i:=8) sc.nd rfl (Or.inl rfl) (Ir hu (pv 3) (pv 7) xO ⟨rfl,rfl,rfl,rfl⟩))
     (zD (xF hu (pv 8) (z8 (ix_tup:IxR _ (Ui K)) (pv 6) zI (fun _ _=>rfl)) (pv 5) rfl)
     (zE (xF hu (pv 3) (pv 7) (pv 8) rfl))))))))))
   (zD (k6 (yW PassesOwn.never rfl (IK (uM (pv 3))) (UZ rfl (yY (zQ (i:=7) sc.nd rfl (Or.inl rfl)) (yY (zQ (i:=8) sc.nd rfl (Or.inl rfl)) kX)))
    (zE (xF hu (pv 2) (pv 7) (zJ Qr (hr.mono (by omega)) (zA (pv 0) (zA (pv 8) zC))) rfl))))
   (zE (zL (zJ Qc (hr.mono (by omega)) (zA (pv 0) (zA (pv 2) zC))))))))),?_⟩
  refine fun rw' nrw=>?_;have u1:=zF (o:=.dK []) nrw;refine fun fo nfo=>?_;have u2:=zF (o:=.dK []) nfo;have sb:=u1.trans u2;have hrw:upd (upd H rw' (.dK [])) fo (.dK []) rw'=some (.dK (rkv [])):=u2 _ _ zB;have hfo:upd (upd H rw' (.dK [])) fo (.dK []) fo=some (.dK (fkv [])):=zB;have shb:=sh.same sb;have hcb:=sb _ _ hc;have ffb:=ff.same sb;have nrw0:H rw'=none:=nrw;have nfo0:H fo=none:=u1.free nfo;have rf:rw'≠fo:=zM (zB (H:=H) (a:=rw') (o:=.dK [])) nfo;generalize upd (upd H rw' (.dK [])) fo (.dK [])=Hb at sb hrw hfo shb hcb ffb ⊢;have cr:c≠rw':=zM hc nrw0;have cf:c≠fo:=zM hc nfo0;refine ⟨_,rfl,c,kvs,rfl,hcb,fun ob=>?_⟩;have hcz:upd Hb c (.frz ob (.dK kvs)) c=some (.frz ob (.dK kvs)):=zB;have nz:∀ {b:Addr},b≠c->upd Hb c (.frz ob (.dK kvs)) b=Hb b:=fun {b} z=>zH z;have oz:Off [c] Hb (upd Hb c (.frz ob (.dK kvs))):=zU;have shz:ShAt P w K aC (upd Hb c (.frz ob (.dK kvs))) a fp S:=shb.off (zN hcb) oz fun b hb z=>ncf (Q7.mp z▸hb);have ffz:=ffb.off (zN hcb) oz;have hrz:upd Hb c (.frz ob (.dK kvs)) rw'=some (.dK (rkv [])):=by rw [nz (Ne.symm cr)];exact hrw
  have hfz:upd Hb c (.frz ob (.dK kvs)) fo=some (.dK (fkv [])):=by rw [nz (Ne.symm cf)];exact hfo
  have frz0:∀ {b:Addr},upd Hb c (.frz ob (.dK kvs)) b=none->Hb b=none/\b≠c:=fun {b} z=>by
   have ne:b≠c:=fun q=>by rw [q,zB] at z;cases z
   rw [nz ne] at z;exact ⟨z,ne⟩
  generalize upd Hb c (.frz ob (.dK kvs))=H1 at hcz nz oz shz ffz hrz hfz frz0 ⊢;have ex1:∀ b∈rw'::fo::fp,∃ o,H1 b=some o:=fun b hb=>by
   rcases Zi.mp hb with z|hb
   ·rw [z];exact ⟨_,hrz⟩
   ·rcases Zi.mp hb with z|hb
    ·rw [z];exact ⟨_,hfz⟩
    ·exact shz.ex b hb
  have rnp:rw'∉fp:=fun z=>by
   obtain ⟨o,e⟩:=sh.ex _ z;rw [nrw0] at e;cases e
  have fnp:fo∉fp:=fun z=>by
   obtain ⟨o,e⟩:=sh.ex _ z;rw [nfo0] at e;cases e
  have cX:c∉rw'::fo::fp:=fun z=>by
   rcases Zi.mp z with z|z
   ·exact cr z
   ·rcases Zi.mp z with z|z
    ·exact cf z
    ·exact ncf z
  have kl:kvs.length=fs.length:=ff.len;have nt1:∀ b∈rw'::fo::fp,∀ xs,¬Rd H1 b (.tup xs):=fun b hb=>by
   rcases Zi.mp hb with z|hb
   ·exact zN hrz b (Q7.mpr z)
   ·rcases Zi.mp hb with z|hb
    ·exact zN hfz b (Q7.mpr z)
    ·exact shz.noseq.tup b hb
  refine ⟨c,ob,kvs,rfl,hcz,Xi (fun i σ H'=>∃ o4 o5 o6 o7 o8 fa,σ=[some (.ref a),some (.ref c),some (.ref rw'),some (.ref fo),o4,o5,o6,o7,o8]/\ShAt P w K aC H' a fp ((lvs (fs.take i)).foldl lvStep (S,[])).1/\H' rw'=some (.dK (rkv ((lvs (fs.take i)).foldl lvStep (S,[])).2))/\H' fo=some (.dK (fkv fa))/\Fols K H1 H' (fs.take i) fa/\Off (rw'::fo::fp) H1 H')
   ⟨none,none,none,none,none,[],rfl,shz,hrz,hfz,Fols.nil,Off.refl _ _⟩ (fun i σ H' hi h=>?_) ?_ ?_⟩
  ·obtain ⟨_,_,_,_,_,_,_,_,_,_,_,o⟩:=h;exact o _ _ cX hcz
  ·rintro i kk v T0 σ H' hi ⟨o4,o5,o6,o7,o8,fa,rfl,sh',hr',hf',Fl,of'⟩ nT;obtain ⟨f,hfi,rfl,dv,lnok⟩:=ffz.get hi;obtain ⟨ok',ll',lb'⟩:=lv_at ok gf sl i;have etk:=take_snoc hfi;have glab:=gf.lab f (Zk hfi);have dv':Dt K H' (AnJ.tupS f.2) v:=Dt.off nt1 of' _ _ (qP lnok) dv;have uT:=zF (o:=.tup [kV (.inr (pth f.1)),v]) nT;refine ⟨T0,_,rfl,SqT.of zB,rfl,_,_,rfl,_,_,rfl,rfl,?_⟩;have sh2:=sh'.same uT;have hr2:=uT _ _ hr';have hf2:=uT _ _ hf';have Fl2:=Fl.same uT;have of2:=of'.trans (Off.of uT);have dv2:=Dt.same uT _ _ dv';generalize upd H' T0 (.tup [kV (.inr (pth f.1)),v])=H2 at sh2 hr2 hf2 Fl2 of2 dv2 ⊢;clear sh' hr' hf' Fl of' dv' nT uT;have go:∀ {H3:Hp},Same H2 H3->ShAt P w K aC H3 a fp ((lvs (fs.take i)).foldl lvStep (S,[])).1/\H3 rw'=some (.dK (rkv ((lvs (fs.take i)).foldl lvStep (S,[])).2))/\H3 fo=some (.dK (fkv fa))/\Fols K H1 H3 (fs.take i) fa/\Off (rw'::fo::fp) H1 H3/\Dt K H3 (AnJ.tupS f.2) v:=fun {H3} e=>⟨sh2.same e,e _ _ hr2,e _ _ hf2,Fl2.same e,of2.trans (Off.of e),Dt.same e _ _ dv2⟩;have free1:∀ {H3:Hp} {b:Addr},ShAt P w K aC H3 a fp ((lvs (fs.take i)).foldl lvStep (S,[])).1->H3 rw'=some (.dK (rkv ((lvs (fs.take i)).foldl lvStep (S,[])).2))->H3 fo=some (.dK (fkv fa))->Off (rw'::fo::fp) H1 H3->H3 b=none->H1 b=none:=fun {H3 b} h1 h2 h3 o z=>by
    cases q:H1 b with
    | none=>rfl
    | some x =>
     by_cases m:b∈rw'::fo::fp
     ·rcases Zi.mp m with y|m
      ·rw [y,h2] at z;cases z
      ·rcases Zi.mp m with y|m
       ·rw [y,h3] at z;cases z
       ·obtain ⟨o',e'⟩:=h1.ex b m;rw [e'] at z;cases z
     ·rw [o b x m q] at z;cases z
   have ql:((lvs (fs.take i)).foldl lvStep (S,[])).2.length<=60:=by
    have:=congrArg List.length lb';rw [Q5,Q5] at this;have h2:=qI (fs.take i);rw [ZC] at h2;omega
   match e1:f.1,glab with
   | [],gl=>exact absurd rfl gl.1
   | [l],gl =>
    have ep:pth [l]=l:=kM l;rw [ep];have lbl:zS l=true:=gl.2.2.1 l (Q7.mpr rfl);refine ⟨_,rfl,rfl,.inr ⟨l,47,rfl,sl47,yT lbl,fun p np=>?_⟩⟩;have up:=zF (o:=.tup [V.str l,V.str "",V.str ""]) np;obtain ⟨sh3,hr3,hf3,Fl3,of3,dv3⟩:=go up;refine ⟨_,rfl,p,_,_,_,rfl,rfl,SqT.of zB,rfl,?_⟩;refine ⟨_,rfl,_,rfl,rfl,true,?_,Uf ?_⟩
    ·show V.bl (decide (V.str l=V.str l))=V.bl true;rw [Zd rfl]
    generalize upd H2 p (.tup [V.str l,V.str "",V.str ""])=H3 at sh3 hr3 hf3 Fl3 of3 dv3 ⊢;obtain ⟨ix,i1,i2,i3,hix⟩:=qH sh3;refine ⟨_,rfl,a,ix,_,rfl,hix,rfl,_,rfl,Um 2,fun p4 n4=>?_⟩;have v4:=zF (o:=.tup [V.str "leaf",v]) n4;obtain ⟨vp,vxs,rfl,vt,vd⟩:=id dv3;have d0:Dt K (upd H3 p4 (.tup [V.str "leaf",V.ref vp])) (Th.leaf f.2).dat (.ref p4):=⟨p4,_,rfl,SqT.of zB,_,_,rfl,rfl,_,_,rfl,Dt.same v4 _ _ dv3,rfl⟩;have sh4:=sh3.same v4;have hr4:=v4 _ _ hr3;have hf4:=v4 _ _ hf3;have Fl4:=Fl3.same v4;have of4:=of3.trans (Off.of v4);delta tNil;dsimp only;show UK P w K aC aN aT [V.ref a,V.ref p4] (upd H3 p4 (.tup [V.str "leaf",V.ref vp])) _ _;generalize upd H3 p4 (.tup [V.str "leaf",V.ref vp])=H4 at d0 sh4 hr4 hf4 Fl4 of4 ⊢;have el:lvs (fs.take (i+1))=lvs (fs.take i)++[(l,f.2)]:=by rw [etk,uY,e1]
    have ef:(lvs (fs.take (i+1))).foldl lvStep (S,[])=lvStep ((lvs (fs.take i)).foldl lvStep (S,[])) (l,f.2):=by rw [el,Yw];rfl
    have nl:l∉((lvs (fs.take i)).foldl lvStep (S,[])).2.map (·.1):=fun z=>by
     rw [lb'] at z;have nd:=lvs_nd (fs:=fs.take (i+1)) (by rw [Vy];exact gf.nd.sublist (List.take_sublist _ _));rw [el,Zf,Yk] at nd;exact nd.2.2 l z l (Q7.mpr rfl) rfl
    have Fl':=Fl4.one (f:=f) e1;rw [←etk] at Fl';clear free1 go lb';generalize (lvs (fs.take i)).foldl lvStep (S,[])=q at sh4 hr4 ok' ll' ef nl ql;refine put_S sh4 ok' (U1 lnok.2 lnok.1) rfl ll' d0 fun H5 of5 sh5=>?_;have hr5:H5 rw'=_:=of5 _ _ rnp hr4;have hf5:H5 fo=_:=of5 _ _ fnp hf4;have Fl5:=Fl'.off (X:=fp) (fun c hc=>ex1 c (Zb _ (Zb _ hc))) sh4.noseq.tup of5;have of6:Off (rw'::fo::fp) H1 H5:=fun b o nb e=>of5 b o (fun z=>nb (Zb _ (Zb _ z))) (of4 b o nb e);refine ⟨_,rfl,_,rfl,rw',_,rfl,DPut.k (k:=.inr l) hr5 (yR (by unfold rkv;rw [Q5];omega)),_,_,_,_,_,fa,rfl,?_,?_,?_,?_,?_⟩
    ·rw [ef];exact sh5.off (zN hr5) zU fun b hb z=>rnp (Q7.mp z▸hb)
    ·rw [ef,zB,rkv_put nl];rfl
    ·rw [zH (Ne.symm rf)];exact hf5
    ·exact Fl5.off (X:=[rw']) (fun c hc=>by rw [Q7.mp hc];exact ⟨_,hrz⟩) (zN hr5) zU
    ·exact of6.upd (Zc ..)
   | l::b::r,gl =>
    have ep:pth (l::b::r)=l++⟨#[47]⟩++pth (b::r):=pth_two l b r;have lbl:zS l=true:=gl.2.2.1 l (Zc ..);have pl:(pth (l::b::r)).length<=100000:=by
     have:=vH gl.2.2.1;have h4:=gl.2.1;rw [length_cs];omega
    have el:lvs (fs.take (i+1))=lvs (fs.take i):=by rw [etk,uY,e1];exact ZF _
    have nin:=sub_new gf hfi e1;refine ⟨_,rfl,rfl,.inl ⟨l,pth (b::r),47,by rw [ep];rfl,sl47,yT lbl,by rw [←ep];exact pl,fun p np=>?_⟩⟩;have up:=zF (o:=.tup [V.str l,V.str ⟨#[47]⟩,V.str (pth (b::r))]) np;obtain ⟨sh3,hr3,hf3,Fl3,of3,dv3⟩:=go up;have hp3:upd H2 p (.tup [V.str l,V.str ⟨#[47]⟩,V.str (pth (b::r))]) p=some (.tup [V.str l,V.str ⟨#[47]⟩,V.str (pth (b::r))]):=zB;refine ⟨_,rfl,p,_,_,_,rfl,rfl,SqT.of zB,rfl,?_⟩;refine ⟨_,rfl,_,rfl,rfl,false,?_,Ug ?_⟩
    ·show V.bl (decide (V.str l=V.str (pth (l::b::r))))=V.bl false;rw [Zo fun z=>pth_ne l b r (by injection z)]
    generalize upd H2 p (.tup [V.str l,V.str ⟨#[47]⟩,V.str (pth (b::r))])=H3 at sh3 hr3 hf3 Fl3 of3 dv3 hp3 ⊢;refine ⟨_,rfl,fo,rfl,.inl ⟨_,.inl hf3⟩,_,rfl,fun e ne=>?_⟩;have ue:=zF (o:=.dK []) ne;have e10:H1 e=none:=free1 sh3 hr3 hf3 of3 ne;have sh4:=sh3.same ue;have hr4:=ue _ _ hr3;have hf4:=ue _ _ hf3;have Fl4:=Fl3.same ue;have of4:=of3.trans (Off.of ue);have dv4:=Dt.same ue _ _ dv3;have hp4:=ue _ _ hp3;have he4:upd H3 e (.dK []) e=some (.dK []):=zB;have nfe:∀ q∈fa,q.2≠e:=fun q hq z=>by
     obtain ⟨kq,hq1,_⟩:=Fl3.at_ q hq;rw [z,ne] at hq1;cases hq1
    generalize upd H3 e (.dK [])=H4 at sh4 hr4 hf4 Fl4 of4 dv4 hp4 he4 ⊢;clear sh2 hr2 hf2 Fl2 of2 dv2 go free1 sh3 hr3 hf3 Fl3 of3 dv3 hp3 up np;have lfa:fa.map (·.1)=fol (fs.take i):=Fl4.lab;have fal:fa.length<=60:=by
     have:=congrArg List.length lfa;rw [Q5] at this;have h2:=qI (fs.take i);rw [ZC] at h2;omega
    have neX:∀ {x:Addr},H1 x=none->x∉rw'::fo::fp:=fun {x} hx z=>by
     obtain ⟨o',e'⟩:=ex1 x z;rw [hx] at e';cases e'
    by_cases inl:l∈fol (fs.take i)
    ·have inf:l∈fa.map (·.1):=by rw [lfa];exact inl
     obtain ⟨pr,hpr,el2⟩:=Za.mp inf;obtain ⟨pl1,pb⟩:=pr;have el2:pl1=l:=el2;subst el2;have vv:=k8 Fl4.labs_nd hpr;refine ⟨_,DGet.k (k:=.inr pl1) hf4,?_⟩;rw [vv];obtain ⟨kb,hb,fb⟩:=Fl4.at_ _ hpr;have hb:H4 pb=some (.dK kb):=hb;have fb:FsAt K H4 (sub (fs.take i) pl1) kb:=fb;have nb:H1 pb=none:=Fl4.new _ hpr;have kbl:kb.length<=60:=by
      have:=fb.len;have h2:=sub_len (fs:=fs.take i) (l:=pl1);rw [ZC] at h2;omega
     refine ⟨_,rfl,_,rfl,_,rfl,p,_,_,_,rfl,rfl,SqT.of hp4,rfl,pb,_,rfl,DPut.k (k:=.inr (pth (b::r))) hb (yR (by omega)),?_⟩;have pn:putK kb (.inr (pth (b::r))) v=kb++[(.inr (pth (b::r)),v)]:=qV (by rw [fb.keys];exact nin);rw [pn];have Fl5:=Fl4.old hpr hb fb e1 dv4 lnok;rw [←etk] at Fl5;have bX:=neX nb;have b_rw:rw'≠pb:=fun z=>bX (by rw [←z];exact Zc ..);have b_fo:fo≠pb:=fun z=>bX (by rw [←z];exact Zb _ (Zc ..));have b_fp:pb∉fp:=fun z=>bX (Zb _ (Zb _ z));have of5:Off (rw'::fo::fp) H1 (upd H4 pb (.dK (kb++[((.inr (pth (b::r)):Key),v)]))):=fun x o nx ex=>by
      rw [zH (fun z=>by rw [z,nb] at ex;cases ex)];exact of4 x o nx ex
     have sh5:=sh4.off (zN hb) (zU (o:=.dK (kb++[((.inr (pth (b::r)):Key),v)]))) fun x hx z=>b_fp (by rw [←Q7.mp z];exact hx);have hr5:=(zH (o:=.dK (kb++[((.inr (pth (b::r)):Key),v)])) b_rw).trans hr4;have hf5:=(zH (o:=.dK (kb++[((.inr (pth (b::r)):Key),v)])) b_fo).trans hf4;generalize upd H4 pb (.dK (kb++[((.inr (pth (b::r)):Key),v)]))=H5 at Fl5 of5 sh5 hr5 hf5 ⊢;refine ⟨_,rfl,_,rfl,_,rfl,fo,_,rfl,DPut.k (k:=.inr pl1) hf5 (yR (by unfold fkv;rw [Q5];omega)),_,_,_,_,_,fa,rfl,?_,?_,?_,?_,?_⟩
     ·rw [el];exact sh5.off (zN hf5) zU fun x hx z=>fnp (Q7.mp z▸hx)
     ·rw [el,zH rf];exact hr5
     ·rw [zB];exact congrArg (fun z=>some (HO.dK z)) (fkv_put_old Fl4.labs_nd hpr)
     ·exact Fl5.off (X:=[fo]) (fun c hc=>by rw [Q7.mp hc];exact ⟨_,hfz⟩) (zN hf5) zU
     ·exact of5.upd (Zb _ (Zc ..))
    ·have inf:l∉fa.map (·.1):=by rw [lfa];exact inl
     have vv:=fkv_no inf;refine ⟨_,DGet.k (k:=.inr l) hf4,?_⟩;rw [vv];refine ⟨_,rfl,_,rfl,_,rfl,p,_,_,_,rfl,rfl,SqT.of hp4,rfl,e,_,rfl,DPut.k (k:=.inr (pth (b::r))) he4 (yR (by show 0<16777216;decide)),?_⟩;have bX:=neX e10;have b_rw:rw'≠e:=fun z=>bX (by rw [←z];exact Zc ..);have b_fo:fo≠e:=fun z=>bX (by rw [←z];exact Zb _ (Zc ..));have b_fp:e∉fp:=fun z=>bX (Zb _ (Zb _ z));have pn:putK ([]:List (Key×V)) (.inr (pth (b::r))) v=[(.inr (pth (b::r)),v)]:=rfl;rw [pn];have Fl5:=Fl4.fresh' inl he4 e10 nfe e1 dv4 lnok;rw [←etk] at Fl5;have of5:Off (rw'::fo::fp) H1 (upd H4 e (.dK [((.inr (pth (b::r)):Key),v)])):=fun x o nx ex=>by
      rw [zH (fun z=>by rw [z,e10] at ex;cases ex)];exact of4 x o nx ex
     have sh5:=sh4.off (zN he4) (zU (o:=.dK [((.inr (pth (b::r)):Key),v)])) fun x hx z=>b_fp (by rw [←Q7.mp z];exact hx);have hr5:=(zH (o:=.dK [((.inr (pth (b::r)):Key),v)]) b_rw).trans hr4;have hf5:=(zH (o:=.dK [((.inr (pth (b::r)):Key),v)]) b_fo).trans hf4;generalize upd H4 e (.dK [((.inr (pth (b::r)):Key),v)])=H5 at Fl5 of5 sh5 hr5 hf5 ⊢;refine ⟨_,rfl,_,rfl,_,rfl,fo,_,rfl,DPut.k (k:=.inr l) hf5 (yR (by unfold fkv;rw [Q5];omega)),_,_,_,_,_,fa++[(l,e)],rfl,?_,?_,?_,?_,?_⟩
     ·rw [el];exact sh5.off (zN hf5) zU fun x hx z=>fnp (Q7.mp z▸hx)
     ·rw [el,zH rf];exact hr5
     ·rw [zB];exact congrArg (fun z=>some (HO.dK z)) (B5 inf)
     ·exact Fl5.off (X:=[fo]) (fun c hc=>by rw [Q7.mp hc];exact ⟨_,hfz⟩) (zN hf5) zU
     ·exact of5.upd (Zb _ (Zc ..))
  ·rintro σ H' ⟨o4,o5,o6,o7,o8,fa,rfl,sh',hr',hf',Fl,of'⟩;rw [kl,ZA] at sh' hr' Fl;refine ⟨c,ob,kvs,of' _ _ cX hcz,fun o u z=>?_,?_⟩
   ·have z:H c=some (.frz o u):=z;rw [hc] at z;cases z
   have hc2:=of' _ _ cX hcz;have frn:∀ x∈[c],∀ xs,¬Rd H' x (.tup xs):=fun x hx xs z=>by
    rw [Q7.mp hx] at z
    rcases z with z|⟨o,z⟩<;>rw [hc2] at z<;>cases z
   have oc:Off [c] H' (upd H' c (.dK kvs)):=zU;have sh2:ShAt P w K aC (upd H' c (.dK kvs)) a fp ((lvs fs).foldl lvStep (S,[])).1:=sh'.off frn oc fun x hx z=>ncf (Q7.mp z▸hx);have hr2:upd H' c (.dK kvs) rw'=some (.dK (rkv ((lvs fs).foldl lvStep (S,[])).2)):=by rw [zH (Ne.symm cr)];exact hr'
   have hf2:upd H' c (.dK kvs) fo=some (.dK (fkv fa)):=by rw [zH (Ne.symm cf)];exact hf'
   have Fl2:Fols K H1 (upd H' c (.dK kvs)) fs fa:=Fl.off (X:=[c]) (fun x hx=>by rw [Q7.mp hx];exact ⟨_,hcz⟩) frn oc;have of2:Off fp H (upd H' c (.dK kvs)):=fun x o nx ex=>by
    by_cases z:x=c
    ·rw [z,zB];rw [z,hc] at ex;exact ex
    ·rw [zH z];refine of' x o (fun q=>?_) (by rw [nz z];exact sb _ _ ex)
     rcases Zi.mp q with q|q
     ·rw [q,nrw0] at ex;cases ex
     ·rcases Zi.mp q with q|q
      ·rw [q,nfo0] at ex;cases ex
      ·exact nx q
   generalize upd H' c (.dK kvs)=H2 at sh2 hr2 hf2 Fl2 of2 ⊢;clear sh' hr' hf' Fl of' hc2 frn oc;refine ⟨_,rfl,fo,fkv fa,rfl,hf2,fun ob2=>?_⟩;have of3:Off [fo] H2 (upd H2 fo (.frz ob2 (.dK (fkv fa)))):=zU;have hf3:upd H2 fo (.frz ob2 (.dK (fkv fa))) fo=some (.frz ob2 (.dK (fkv fa))):=zB;have sh3:ShAt P w K aC (upd H2 fo (.frz ob2 (.dK (fkv fa)))) a fp ((lvs fs).foldl lvStep (S,[])).1:=sh2.off (zN hf2) of3 fun x hx z=>fnp (Q7.mp z▸hx);have hr3:upd H2 fo (.frz ob2 (.dK (fkv fa))) rw'=some (.dK (rkv ((lvs fs).foldl lvStep (S,[])).2)):=by rw [zH rf];exact hr2
   have Fl3:Fols K H1 (upd H2 fo (.frz ob2 (.dK (fkv fa)))) fs fa:=Fl2.off (X:=[fo]) (fun x hx=>by rw [Q7.mp hx];exact ⟨_,hfz⟩) (zN hf2) of3;have of4:Off fp H (upd H2 fo (.frz ob2 (.dK (fkv fa)))):=fun x o nx ex=>by
    rw [zH (fun z=>by rw [z,nfo0] at ex;cases ex)];exact of2 x o nx ex
   generalize upd H2 fo (.frz ob2 (.dK (fkv fa)))=H3 at of3 hf3 sh3 hr3 Fl3 of4 ⊢;have fal:fa.map (·.1)=fol fs:=Fl3.lab;have falen:(fkv fa).length=(fol fs).length:=by rw [←fal,Q5];unfold fkv;rw [Q5]
   have f60:(lvs fs).length+(fol fs).length<=60:=by have:=qI fs;omega
   refine ⟨fo,ob2,fkv fa,rfl,hf3,Xi (fun j σ H'=>∃ o4 o5 o6 o7 o8,σ=[some (.ref a),some (.ref c),some (.ref rw'),some (.ref fo),o4,o5,o6,o7,o8]/\ShAt P w K aC H' a fp (((fol fs).take j).foldl (fStep d fs) ((lvs fs).foldl lvStep (S,[]))).1/\H' rw'=some (.dK (rkv (((fol fs).take j).foldl (fStep d fs) ((lvs fs).foldl lvStep (S,[]))).2))/\H' fo=some (.frz ob2 (.dK (fkv fa)))/\Fols K H1 H' fs fa/\Off fp H H')
    ⟨o4,o5,o6,o7,o8,rfl,sh3,hr3,hf3,Fl3,of4⟩ (fun j σ H' hj h=>?_) ?_ ?_⟩
   ·obtain ⟨_,_,_,_,_,_,_,_,hf,_⟩:=h;exact hf
   ·clear sh3 hr3 hf3 Fl3 of4 sh2 hr2 hf2 Fl2 of2;rintro j kk v T0 σ H' hj ⟨o4,o5,o6,o7,o8,rfl,sh',hr',hf',Fl,of'⟩ nT;unfold fkv at hj;rw [Zl] at hj;obtain ⟨pr,hj2,hj⟩:=ZM.mp hj;obtain ⟨l,b⟩:=pr;have hj:((.inr l:Key),V.ref b)=(kk,v):=hj;cases hj;have hpr:=Zk hj2;have hjl:(fol fs)[j]?=some l:=by rw [←fal,Zl,hj2];rfl
    obtain ⟨ok',ll',lb'⟩:=f_at ok gf fl sl hjl;have uT:=zF (o:=.tup [V.str l,V.ref b]) nT;refine ⟨T0,_,rfl,SqT.of zB,rfl,_,_,rfl,_,_,rfl,rfl,?_⟩;have sh5:=sh'.same uT;have hr5:=uT _ _ hr';have hf5:=uT _ _ hf';have Fl5:=Fl.same uT;have of5:=of'.trans (Off.of uT);show sDPut _ _ _ _ _ (upd H' T0 (.tup [V.str l,V.ref b]));generalize upd H' T0 (.tup [V.str l,V.ref b])=H5 at sh5 hr5 hf5 Fl5 of5 ⊢;clear sh' hr' hf' Fl of' uT nT;obtain ⟨kb,hb,fb⟩:=Fl5.at_ _ hpr;have hb:H5 b=some (.dK kb):=hb;have fb:FsAt K H5 (sub fs l) kb:=fb;have nb:H1 b=none:=Fl5.new _ hpr;have bfp:b∉fp:=fun z=>by
     obtain ⟨o',e'⟩:=shz.ex b z;rw [nb] at e';cases e'
    cases d with
    | zero =>
     obtain ⟨f,hf,b,r,ef⟩:=((xA fs).2 l).mp (Zk hjl);have:=(gf.lab f hf).2.1;rw [ef,Zn,Zn] at this;omega
    | succ d =>
     have el:(fol fs).take (j+1)=(fol fs).take j++[l]:=take_snoc hjl;have ef:((fol fs).take (j+1)).foldl (fStep (d+1) fs) ((lvs fs).foldl lvStep (S,[]))=fStep (d+1) fs (((fol fs).take j).foldl (fStep (d+1) fs) ((lvs fs).foldl lvStep (S,[]))) l:=by rw [el,Yw];rfl
     have nl:l∉(((fol fs).take j).foldl (fStep (d+1) fs) ((lvs fs).foldl lvStep (S,[]))).2.map (·.1):=fun z=>by
      rw [lb'] at z;have nd:=UT gf;have e0:(pieces fs).map (·.1)=(lvs fs).map (·.1)++fol fs:=by
       unfold pieces;rw [Zf,Zt,Zt]
       congr 1
       exact VB _
      rw [e0,←ZX j (fol fs),←Z2,Yk] at nd;have hd:(fol fs).drop j=l::(fol fs).drop (j+1):=by
       have:=(Zr.mp hjl);rw [←this.2];exact JS this.1
      exact nd.2.2 l z l (by rw [hd];exact Zc ..) rfl
     have ql:(((fol fs).take j).foldl (fStep (d+1) fs) ((lvs fs).foldl lvStep (S,[]))).2.length<=60:=by
      have:=congrArg List.length lb';rw [Q5,Zh,Q5,ZC] at this;omega
     generalize ((fol fs).take j).foldl (fStep (d+1) fs) ((lvs fs).foldl lvStep (S,[]))=q at sh5 hr5 ok' ll' ef nl ql;refine ⟨_,rfl,_,rfl,a,b,fp,q.1,sub fs l,kb,rfl,sh5,ok',hb,bfp,fb,gf.sub l,Yb sub_len fl,ll',fun H6 of6 sh6=>?_⟩;have hr6:H6 rw'=_:=of6 _ _ rnp hr5;have hf6:H6 fo=_:=of6 _ _ fnp hf5;have Fl6:=Fl5.off (X:=fp) (fun c hc=>shz.ex c hc) sh5.noseq.tup of6;refine ⟨_,rfl,_,rfl,rw',_,rfl,DPut.k (k:=.inr l) hr6 (yR (by unfold rkv;rw [Q5];omega)),_,_,_,_,_,rfl,?_,?_,?_,?_,?_⟩
     ·rw [ef];exact sh6.off (zN hr6) zU fun x hx z=>rnp (Q7.mp z▸hx)
     ·rw [ef,zB,rkv_put nl];rfl
     ·rw [zH (Ne.symm rf)];exact hf6
     ·exact Fl6.off (X:=[rw']) (fun c hc=>by rw [Q7.mp hc];exact ⟨_,hrz⟩) (zN hr6) zU
     ·intro x o nx ex;rw [zH (fun z=>by rw [z,nrw0] at ex;cases ex)];exact of6 x o nx (of5 x o nx ex)
   ·rintro σ H' ⟨o4,o5,o6,o7,o8,rfl,sh',hr',hf',Fl,of'⟩;rw [falen,ZA] at sh' hr';refine ⟨fo,ob2,fkv fa,hf',fun o u z=>?_,?_⟩
    ·have z:H fo=some (.frz o u):=z;rw [nfo0] at z;cases z
    have frn:∀ x∈[fo],∀ xs,¬Rd H' x (.tup xs):=fun x hx xs z=>by
     rw [Q7.mp hx] at z
     rcases z with z|⟨o,z⟩<;>rw [hf'] at z<;>cases z
    have sh6:=sh'.off frn (zU (o:=.dK (fkv fa))) fun x hx z=>fnp (Q7.mp z▸hx);have hr6:=(zH (o:=.dK (fkv fa)) rf).trans hr';have of6:Off fp H (upd H' fo (.dK (fkv fa))):=fun x o nx ex=>by
     rw [zH (fun z=>by rw [z,nfo0] at ex;cases ex)];exact of' x o nx ex
    have fe:=f_end ok gf fl sl (q:=(fol fs).foldl (fStep d fs) ((lvs fs).foldl lvStep (S,[]))) rfl;have pf:=putF_is d S fs;rw [pf] at k;generalize (fol fs).foldl (fStep d fs) ((lvs fs).foldl lvStep (S,[]))=q at sh6 hr6 fe k;obtain ⟨g1,g2,g3,g4,g5⟩:=fe;exact ⟨_,rfl,_,rfl,a,rw',fp,q.1,q.2,rfl,sh6,g1,.inl hr6,g3,fun r hr=>⟨(g4 r hr).1,let ⟨e,te⟩:=(g4 r hr).2;form_of te⟩,g5,g2,fun H7 of7 sh7=>k H7 (of6.trans of7) sh7⟩
end t_put_files
end
end An06
namespace An06
open PySem L2 An
seal L2.PS L2.PSs L2.PE L2.PT L2.PW L2.PA L2.PG L2.PGs L2.PI L2.PFi L2.PC
theorem fols_new {n:Nat}{fs:List Fi}(g:GoodF n fs){f:Fi}(hf:f∈fs){z:Str}(hz:z∈fols (pth f.1)):∀ k∈fs,z≠pth k.1:=fun k hk e=>by
 obtain ⟨f0,_,fl,_⟩:=g.lab f hf;obtain ⟨k0,_,kl,_⟩:=g.lab k hk;have lf:labs (pth f.1)=f.1:=qK f0 fun y hy=>yT (fl y hy);unfold fols at hz;obtain ⟨i,hi,ez⟩:=Za.mp hz;rw [lf] at hi ez;have hi:=Vd.mp hi;have ez:pth (f.1.take (i+1))=z:=ez;have t0:f.1.take (i+1)≠[]:=by
  intro q;have:=congrArg List.length q;rw [ZC,Ja] at this;omega
 have:=j4 (d:=0) t0 k0 (fun y hy=>fl y (JJ hy)) kl (ez.trans e);have e2:f.1=k.1++f.1.drop (i+1):=by rw [←this,ZX]
 have:=congrArg List.length (g.pre k hk f hf _ e2);rw [Jg,Ja] at this;omega
theorem GB {f:Fi}{n:Nat}(n4:n<=4){fs:List Fi}(g:GoodF n fs)(hf:f∈fs):Xt (.str (pth f.1))=true/\UW (AnJ.tupS f.2)=true/\small (.str (pth f.1))=true/\small (AnJ.tupS f.2)=true:=by
 obtain ⟨f0,f1,fl,fn⟩:=g.lab f hf;refine ⟨GT f0 (by omega) fl,?_,?_,?_⟩
 ·show (f.2.map PyData.str).all UJ=true;rw [List.all_map,ZI];exact fn.2
 ·refine Zd ?_;have:=vH fl;rw [length_cs];omega
 ·show (decide ((f.2.map PyData.str).length<=1000)&&yF (f.2.map .str))=true;rw [uH fun l hl=>(Bf (fn.2 l hl)).len,Q5,Zd (show f.2.length<=1000 by have:=fn.1;omega)];rfl
def spNeedF (K:ZZF):Sp:=fun vs H Q _=>∃ (c:Addr) (kvs:List (Key×V)) (fs:List Fi),vs=[.ref c]/\H c=some (.dK kvs)/\FsAt K H fs kvs/\GoodF 4 fs/\fs.length<=60/\∀ H',Same H H'->Q .non H'
def spKeep (P:Program)(w:World)(K:ZZF)(C:Addr):Sp:=fun vs H Q _=>∃ (a c:Addr) (fp:List Addr) (S:List En) (fs:List Fi) (kvs:List (Key×V)),vs=[.ref a,.ref c]/\ShAt P w K C H a fp S/\OkS S/\H c=some (.dK kvs)/\c∉fp/\FsAt K H fs kvs/\GoodF 4 fs/\fs.length<=60/\S.length+1+wt fs<=2000 /\
 ∀ H',Off fp H H'->ShAt P w K C H' a fp (Uj 4 S fs).1->Q (.str (Uj 4 S fs).2) H'
section
variable {P:Program}{w:World}{K:ZZF}{mg:Str->Option Value}{base:Heap}{t1 t2 t3 t4 t5 t6 t7:Tok}{aL aC aN aT aA b1 b2:Addr}
theorem kS {H H2:Hp}{c:Addr}{ob:Obj}{kvs:List (Key×V)}(hc:H c=some (.dK kvs))(e:Same (upd H c (.frz ob (.dK kvs))) H2):Same H (upd H2 c (.dK kvs)):=fun b o h=>by
 by_cases z:b=c
 ·rw [z,zB];rw [z,hc] at h;exact h
 ·rw [zH z];exact e _ _ (by rw [zH z];exact h)
namespace t_put_files
theorem ok0 {f:Addr}{fd:FuncData}(F:Fun K "put_files" "put_files" st f fd):FnOk P w K mg base CX0 8 f fd ["shelf","files"] (XW P w K aC 0) :=
 F.ok sc (fun vs H Q E h=>False.elim h) (fun cdv A outer s H vs Q E hr h=>False.elim h)
theorem ok {f:Addr}{fd:FuncData}(F:Fun K "put_files" "put_files" st f fd)(T:Txt P w K mg t1 t2 t3 t4 t5 t6 t7 aL aC aN aT aA b1 b2)(Qb:MetX P w K mg base aC 7 "put" ["self","thing"] (UK P w K aC aN aT))(Qc:Cal P w K mg base 8 "put_rows" ["shelf","rows"] (Xc P w K aC))(Hm:mg "put_files"=some (.ref f))(Hb:Binds K fd ["shelf","files"] []):FnOk P w K mg base CX0 12 f fd ["shelf","files"] (XW P w K aC 4):=by
 have c0:=Cal.mk' F (ok0 (P:=P) (w:=w) (mg:=mg) (base:=base) (aC:=aC) F) Hm Hb;have c1:=Cal.mk' F (step F T Qb Qc (by decide) (by decide) c0) Hm Hb;have c2:=Cal.mk' F (step F T Qb Qc (by decide) (by decide) c1) Hm Hb;have c3:=Cal.mk' F (step F T Qb Qc (by decide) (by decide) c2) Hm Hb;exact step F T Qb Qc (by decide) (by decide) c3
end t_put_files
namespace t_need_files
abbrev st:Stmt:=top 38
theorem sc:FnScope ["files","path","lines"] ["files"] (zG st):=QS0
theorem ok {f:Addr}{fd:FuncData}(F:Fun K "need_files" "need_files" st f fd)(T:Txt P w K mg t1 t2 t3 t4 t5 t6 t7 aL aC aN aT aA b1 b2)(QV:Cal P w K mg base 4 "is_file" ["path","lines"] (spFile K))(QW:Cal P w K mg base 1 "folders_of" ["path"] (spFols K)):FnOk P w K mg base (CXF P w) 5 f fd ["files"] (spNeedF K):=by
 refine F.okX sc (fun vs H Q E h=>?_) (fun cdv A outer s H vs Q E hr h=>?_)
 ·obtain ⟨c,kvs,fs,rfl,_⟩:=h;rfl
 ·obtain ⟨c,kvs,fs,rfl,hc,ff,gf,fl,k⟩:=h;refine ⟨_,(zD (yI (y9 (zX (K:=K) (zK (CallR.or (zV (K:=K)) (jA (K:=K))) (by rfl) T.isinstance Zx (zA (pv 0) (zA (yS (v:=.ty "dict") rfl T.dict Jt rfl) zC))) (fun _=>rfl)))
    (zE (x9 rfl xL rfl T.BadFiles T.xBadFiles (zA pe_str zC)))
    zR)
   (zD (k6 (yW PassesOwn.leaving rfl (IK (uM (pv 0))) (UZ rfl (yY (zQ (i:=1) sc.nd rfl (Or.inl rfl)) (yY (zQ (i:=2) sc.nd rfl (Or.inl rfl)) kX)))
    (zE (yI (y9 (zX (K:=K) (zJ QV hr.m (zA (pv 1) (zA (pv 2) zC))) (fun _=>rfl)))
     (zE (x9 rfl xL rfl T.BadFiles T.xBadFiles (zA pe_str zC)))
     zR))))
   (zE (k6 (yW PassesOwn.leaving rfl (vO (uM (pv 0))) (zQ (i:=1) sc.nd rfl (Or.inl rfl))
    (zE (yI (zX (K:=K) (zK (call_any rfl) (by rfl) T.any PyProof.Rows.boot_any (zA (y6 (sc:=zG st) (N:=["files","path","lines"]) (N':=["folder","files"]) (src:=[none,some 0]) ⟨by decide +kernel,rfl,rfl,by decide +kernel,by decide +kernel,by decide +kernel,by decide +kernel⟩ rfl rfl rfl (qL (zJ QW hr.m (zA (pv 1) zC))) (fun _ _ _ _=>(zQ (i:=0) (show (["folder","files"]:List Str).Nodup by decide +kernel) rfl (Or.inl rfl))) (fun _ _ _ _=>xU) (fun _ _ _ _=>(yH (op_inZ hr.units) (pv 0) (pv 1) (by with_unfolding_all rfl)))) zC)) (fun _=>rfl))
     (zE (x9 rfl xL rfl T.BadFiles T.xBadFiles (zA pe_str zC)))
     zR))))))),?_⟩
  refine ⟨_,rfl,.inr ⟨c,"dict",kvs,_,rfl,.inl hc,T.kit _ (by simp [kinds]) _ (by simp [kinds]),_,rfl,Ug ?_⟩⟩;refine ⟨_,rfl,c,kvs,rfl,hc,fun ob=>?_⟩;have kl:kvs.length=fs.length:=ff.len;have hc1:upd H c (.frz ob (.dK kvs)) c=some (.frz ob (.dK kvs)):=zB;have ff1:=ff.off (zN hc) (zU (o:=.frz ob (.dK kvs)));refine ⟨c,ob,kvs,rfl,hc1,Xi (fun i σ H2=>∃ o1 o2,σ=[some (.ref c),o1,o2]/\Same (upd H c (.frz ob (.dK kvs))) H2) ⟨none,none,rfl,Same.refl _⟩ (fun i σ H2 hi ⟨_,_,_,e2⟩=>e2 _ _ hc1) ?_ ?_⟩
  ·rintro i kk v T0 σ H2 hi ⟨o1,o2,rfl,e2⟩ nT;obtain ⟨f,hfi,rfl,dv,ln⟩:=(ff1.same e2).get hi;obtain ⟨g1,g2,g3,g4⟩:=GB (Ze 4) gf (Zk hfi);have uT:=zF (o:=.tup [kV (.inr (pth f.1)),v]) nT;refine ⟨T0,_,rfl,SqT.of zB,rfl,_,_,rfl,_,_,rfl,rfl,?_⟩;refine ⟨_,rfl,_,rfl,.str (pth f.1),AnJ.tupS f.2,_,_,rfl,rfl,Dt.dw (Dt.same uT _ _ dv),g3,g4,fun H3 s3=>⟨_,rfl,?_⟩⟩;rw [g1,g2];exact Ug ⟨_,_,rfl,(e2.trans uT).trans s3⟩
  ·rintro σ H2 ⟨o1,o2,rfl,e2⟩;refine ⟨c,ob,kvs,e2 _ _ hc1,fun o u z=>?_,?_⟩
   ·have z:H c=some (.frz o u):=z;rw [hc] at z;cases z
   have e3:=kS hc e2;have hc3:upd H2 c (.dK kvs) c=some (.dK kvs):=zB;generalize upd H2 c (.dK kvs)=H3 at e3 hc3 ⊢;clear e2 ff1 hc1;refine ⟨_,rfl,c,kvs,rfl,hc3,fun ob=>?_⟩;have hc1:upd H3 c (.frz ob (.dK kvs)) c=some (.frz ob (.dK kvs)):=zB;refine ⟨c,ob,kvs,rfl,hc1,vC (fun i σ H2=>∃ o1 o2,σ=[some (.ref c),o1,o2]/\Same (upd H3 c (.frz ob (.dK kvs))) H2) ⟨o1,o2,rfl,Same.refl _⟩ (fun i σ H2 hi ⟨_,_,_,e2⟩=>e2 _ _ hc1) ?_ ?_⟩
   ·rintro i kk v σ H4 hi ⟨o1,o2,rfl,e4⟩;obtain ⟨f,hfi,rfl,_,_⟩:=ff.get hi;have hfm:=Zk hfi;obtain ⟨_,_,g3,_⟩:=GB (Ze 4) gf hfm;have xl:(pth f.1).length<=1000:=ZB g3;refine ⟨_,rfl,pth f.1,rfl,xl,fun lp H5 s5 hlp=>?_⟩;have fll:(fols (pth f.1)).length<=1001:=by
     unfold fols;rw [Q5,YD];have:=uV (pth f.1);omega
    refine ⟨lp,rfl,⟨_,hlp⟩,jS (K:=K) (a:=lp) (xs:=(fols (pth f.1)).map V.str) (fun i ys σ' H6=>∃ o,σ'=[o,some (.ref c)]/\Same H5 H6/\ys.length=i/\∀ y∈ys,y=V.bl false) ⟨none,rfl,Same.refl _,rfl,fun y hy=>(nomatch hy)⟩ (le_line (by rw [Q5];omega)) ?_ ?_ ?_⟩
    ·rintro i ys σ' H6 hi' ⟨o,rfl,e6,yl,_⟩;exact ⟨e6.seq hlp,by omega⟩
    ·rintro i y ys σ' H6 hy ⟨o,rfl,e6,yl,yf⟩;rw [Zl] at hy;obtain ⟨z,hz,rfl⟩:=ZM.mp hy;refine ⟨_,rfl,_,rfl,c,_,rfl,get_frz (k:=.inr z) (((e4.trans s5).trans e6) _ _ hc1),_,rfl,e6,by rw [Zh,yl];rfl,fun y hy=>?_⟩
     rcases Zs.mp hy with q|q
     ·exact yf y q
     ·rw [Q7.mp q]
      congr 1
      cases q:Uh kvs (.inr z) with
      | none=>rfl
      | some v =>
       have:=uE q;rw [ff.keys] at this;obtain ⟨g,hg,e⟩:=Za.mp this;exact absurd (Sum.inr.inj e).symm (fols_new gf hfm (Zk hz) g hg)
    ·rintro ys σ' H6 ⟨o,rfl,e6,yl,yf⟩ p np;have ey:ys=(List.replicate ys.length false).map V.bl:=by
      rw [VP];exact Vp.mpr ⟨rfl,yf⟩
     refine ⟨p,List.replicate ys.length false,rfl,SqL.of (by rw [zB];exact congrArg (fun z=>some (HO.lst z)) ey),_,rfl,?_⟩;have ea:(List.replicate ys.length false).any id=false:=by
      rw [VQ];intro x hx;rw [J0 hx]
      decide
     rw [ea];exact Ug ⟨_,_,rfl,((e4.trans s5).trans e6).trans (zF np)⟩
   ·rintro σ H4 ⟨o1,o2,rfl,e4⟩;refine ⟨c,ob,kvs,e4 _ _ hc1,fun o u z=>?_,?_⟩
    ·have z:H c=some (.frz o u):=z;rw [hc] at z;cases z
    exact k _ (e3.trans (kS hc3 e4))
end t_need_files
namespace t_keep_files
abbrev st:Stmt:=top 44
theorem sc:FnScope ["shelf","files"] ["shelf","files"] (zG st):=QS0
theorem ok {f:Addr}{fd:FuncData}(F:Fun K "keep_files" "keep_files" st f fd)(T:Txt P w K mg t1 t2 t3 t4 t5 t6 t7 aL aC aN aT aA b1 b2)(QX:CalX P w K mg base 5 "need_files" ["files"] (spNeedF K))(Qr:Cal P w K mg base 12 "put_files" ["shelf","files"] (XW P w K aC 4)):FnOk P w K mg base (CXF P w) 13 f fd ["shelf","files"] (spKeep P w K aC):=by
 refine F.okX sc (fun vs H Q E h=>?_) (fun cdv A outer s H vs Q E hr h=>?_)
 ·obtain ⟨a,c,fp,S,fs,kvs,rfl,_⟩:=h;rfl
 ·obtain ⟨a,c,fp,S,fs,kvs,rfl,sh,ok,hc,nc,ff,gf,fl,sl,k⟩:=h;refine ⟨_,(zD (yP (yB QX hr.m yQ (zA (pv 1) zC)))
   (zE (zL (zJ Qr hr.m (zA (pv 0) (zA (pv 1) zC)))))),?_⟩
  refine ⟨_,rfl,c,kvs,fs,rfl,hc,ff,gf,fl,fun H1 e1=>?_⟩;exact ⟨_,rfl,_,rfl,a,c,fp,S,fs,kvs,rfl,sh.same e1,ok,e1 _ _ hc,nc,ff.same e1,gf,fl,sl,fun H2 of2 sh2=>k H2 (fun b o nb e=>of2 b o nb (e1 _ _ e)) sh2⟩
end t_keep_files
end
end An06
namespace An
open PySem L2 AnJ
structure FsP (K:ZZF)(H:Hp)(ah:Str)(fs:List Fi)(kvs:List (Key×V)):Prop where
 keys:kvs.map (·.1)=fs.map fun f=>(.inr (ah++pth f.1):Key)
 val:∀ (i:Nat) (f:Fi) (kv:Key×V),fs[i]?=some f->kvs[i]?=some kv->Dt K H (tupS f.2) kv.2/\Uv f.2
section
variable {K:ZZF}{H H':Hp}{ah l:Str}{fs gs:List Fi}{kvs more:List (Key×V)}
theorem FsP.nil:FsP K H ah [] []:=⟨rfl,fun i f kv h=>(nomatch h)⟩
theorem FsP.len (h:FsP K H ah fs kvs):kvs.length=fs.length:=by
 have:=congrArg List.length h.keys;rw [Q5,Q5] at this;exact this
theorem FsP.same (h:FsP K H ah fs kvs)(e:Same H H'):FsP K H' ah fs kvs:=⟨h.keys,fun i f kv a b=>⟨Dt.same e _ _ (h.val i f kv a b).1,(h.val i f kv a b).2⟩⟩
theorem FsP.off {X:List Addr}(h:FsP K H ah fs kvs)(n:∀ b∈X,∀ xs,¬Rd H b (.tup xs))(o:Off X H H'):FsP K H' ah fs kvs:=⟨h.keys,fun i f kv a b=>⟨Dt.off n o _ _ (qP (h.val i f kv a b).2) (h.val i f kv a b).1,(h.val i f kv a b).2⟩⟩
theorem FsP.app (h:FsP K H ah fs kvs)(k:FsP K H ah gs more):FsP K H ah (fs++gs) (kvs++more):=by
 refine ⟨by rw [Zf,Zf,h.keys,k.keys],fun i g kv a b=>?_⟩
 by_cases z:i<fs.length
 ·rw [ZN z] at a;rw [ZN (by rw [h.len];exact z)] at b;exact h.val i g kv a b
 ·rw [ZP (by omega)] at a;rw [ZP (by rw [h.len];omega),h.len] at b;exact k.val _ g kv a b
theorem ah_deep (ah l:Str){p:List Str}(h:p≠[]):ah++l++"/"++pth p=ah++pth (l::p):=cs_inj (by
 have:cs ("/":Str)=[47]:=by decide +kernel
 rw [cs_append,cs_append,cs_append,cs_append,qC l h,this];simp)
theorem ah_one (ah l:Str):ah++l=ah++pth [l]:=by rw [kM]
theorem FsP.deep (h:FsP K H (ah++l++"/") fs kvs)(ne:∀ f∈fs,f.1≠[]):FsP K H ah (fs.map fun f=>(l::f.1,f.2)) kvs:=by
 refine ⟨?_,fun i f kv a b=>?_⟩
 ·rw [h.keys,Zt];exact ZW fun f hf=>by
   show (Sum.inr (ah++l++"/"++pth f.1):Key)=.inr (ah++pth (l::f.1));rw [ah_deep ah l (ne f hf)]
 ·rw [Zl] at a;obtain ⟨g,hg,rfl⟩:=ZM.mp a;exact h.val i g kv hg b
theorem FsP.one {v:V}{ls:List Str}(hv:Dt K H (tupS ls) v)(hl:Uv ls):FsP K H ah [([l],ls)] [(.inr (ah++l),v)]:=by
 refine ⟨by rw [ah_one];rfl,fun i f kv a b=>?_⟩;cases i with
 | zero=>cases a;cases b;exact ⟨hv,hl⟩
 | succ i=>cases a
theorem FsP.at (h:FsP K H "" fs kvs):FsAt K H fs kvs:=⟨by
 rw [h.keys];exact ZW fun f _=>by
  congr 1
  exact cs_inj (by rw [cs_append];rfl),h.val⟩
end
theorem kW:∀ {more kvs:List (Key×V)},(∀ k∈more.map (·.1),k∉kvs.map (·.1))->(more.map (·.1)).Nodup->putAll kvs more=kvs++more
 | [],kvs,_,_=>(ZF _).symm
 | p::more,kvs,h,nd=>by
  rw [Zw,Z8] at nd;show putAll (putK kvs p.1 p.2) more=_;rw [qV (h p.1 (Zc ..)),kW (fun k hk z=>?_) nd.2,Z2]
  ·rfl
  ·rw [Zf] at z
   rcases Zs.mp z with z|z
   ·exact h k (Zb _ hk) z
   ·have z:k=p.1:=Q7.mp z;exact nd.1 (z▸hk)
theorem keys_nd {ah:Str}{fs:List Fi}(h:fs.Pairwise (fun f g=>ltS (pth f.1) (pth g.1))):(fs.map fun f=>(.inr (ah++pth f.1):Key)).Nodup:=by
 rw [ZH,Yl];refine h.imp fun {a b} z e=>?_;have e:ah++pth a.1=ah++pth b.1:=Sum.inr.inj e;have:=congrArg cs e;rw [cs_append,cs_append] at this;exact Xu z (cs_inj (Va this))
noncomputable def rowF (d:Nat)(S:List En)(r:Str×Str):List Fi:=(reads d S r.2).map fun f=>(r.1::f.1,f.2)
end An
namespace AnJ
open AxK
end AnJ
namespace AnJ
open PySem L2 An An10 An12 AxK
end AnJ
namespace L2
open PySem PySem.Spec PyProof.Rows
end L2
namespace AxS
open PySem PySem.Spec PyProof.Rows
section
variable {prog:Program}{w:World}{A:Around}{E:Value->Shared->Prop}{s:Shared}
set_option maxHeartbeats 6400000 in
end
end AxS
namespace L2
open PySem PySem.Spec PyProof.Rows AxS
end L2
namespace AxS
open PySem PySem.Spec PyProof.Rows
section
variable {prog:Program}{w:World}{A:Around}{E:Value->Shared->Prop}{s:Shared}
theorem qO:plainId "dict.update.loop"=true:=by decide +kernel
theorem Xq:entryFor table "dict.update.loop"=some Builtin.«dict.update.loop»:=entryFor_of_fast (by kernel_rfl)
def PairsAt (prog:Program)(w:World)(h:Heap)(items:Array Value)(kvs:List (L2.Key×Value)):Prop:=kvs.length=items.size/\∀ (i:Nat) (v:Value),items[i]?=some v->∃ (T:Addr) (k:L2.Key) (key x:Value),v=.ref T/\h.IsTuple T #[key,x]/\(L2.mixKind prog w).is k key=true/\kvs[i]?=some (k,x)
theorem PairsAt.at {h h':Heap}{items:Array Value}{kvs:List (L2.Key×Value)}(p:PairsAt prog w h items kvs)(e:∀ T o,(∃ xs,h.IsTuple T xs)->h.get? T=some o->h'.get? T=some o):PairsAt prog w h' items kvs:=by
 refine ⟨p.1,fun i v hv=>?_⟩;obtain ⟨T,k,key,x,e0,hT,hk,hx⟩:=p.2 i v hv;obtain ⟨o,ho,r⟩:=id hT;exact ⟨T,k,key,x,e0,⟨o,e T o ⟨_,hT⟩ ho,r⟩,hk,hx⟩
end
end AxS
namespace L2
open PySem PySem.Spec PyProof.Rows AxS
section
variable {X:Cx}{K:ZZF}
def PairsV (K:ZZF)(H:Hp)(xs:List V)(kvs:List (Key×V)):Prop:=xs.length=kvs.length/\∀ (i:Nat) (x:V),xs[i]?=some x->∃ (T:Addr) (k:Key) (v:V),x=.ref T/\SqT K H T [kV k,v]/\kvs[i]?=some (k,v)
theorem Il {pins:List (Addr×Obj)}{σ:St}{H:Hp}{s:Shared}(I:Inv X pins σ H s):∀ {vs:List V} {its:List Value} {kvs:List (Key×V)},Vals vs its->PairsV X.K H vs kvs->∃ um:List (Key×Value),KV kvs um/\um.length=its.length/\∀ (i:Nat) (v:Value),its[i]?=some v->∃ (T:Addr) (k:Key) (key x:Value),v=.ref T/\s.heap.IsTuple T #[key,x]/\(mixKind X.prog X.w).is k key=true/\um[i]?=some (k,x)
 | [],_,kvs,.nil,p=>by
  have:kvs=[]:=Yd p.1.symm;subst this;exact ⟨[],.nil,rfl,fun i v z=>(nomatch z)⟩
 | x::vs,u::its,kvs,.cons r1 r2,p=>by
  obtain ⟨T,k,y,rfl,hT,hk⟩:=p.2 0 x rfl;cases kvs with
  | nil=>cases hk
  | cons kv kvs =>
   have ek:kv=(k,y):=Option.some.inj hk;subst ek;obtain ⟨um,rel,len,all⟩:=Il I (kvs:=kvs) r2 ⟨by have:=p.1;simpa using this,fun i z hz=>by
    obtain ⟨T',k',y',e1,e2,e3⟩:=p.2 (i+1) z (by simpa using hz);exact ⟨T',k',y',e1,e2,by simpa using e3⟩⟩
   cases r1;obtain ⟨us,rv,ht,_⟩:=I.tuple hT;cases rv with
   | cons q1 rv =>
    cases rv with
    | cons q2 rv =>
     cases rv;rename_i key val;refine ⟨(k,val)::um,.cons ⟨rfl,q2⟩ rel,by rw [Zn,Zn,len],fun i v hv=>?_⟩;cases i with
     | zero =>
      cases hv;exact ⟨T,k,key,val,rfl,ht,Xn q1,rfl⟩
     | succ i=>exact all i v (by simpa using hv)
end
end L2
namespace L2
open PySem PySem.Spec PyProof.Rows
theorem Room.units1 {k:Nat}{A:Around}(r:Room k A):A.units+1<cLine:=by have:=r.un;omega
section
variable {d:Addr}{kvs:List (Key×V)}{ob:Obj}{src:List (Option Nat)}{g:TG}{tf:St->Hp->(Bool->Hp->Prop)->Prop}{te:TE}{Q:VK}{σ:St}{H:Hp}
theorem comp_keys (Pv:Nat->List V->St->Hp->Prop)(h0:Pv 0 [] (Us src σ) H)(hz:kvs.length<=sizeLine)(hl:∀ i ys σ H,i<=kvs.length->Pv i ys σ H->H d=some (.frz ob (.dK kvs))/\ys.length<=i)
  (hs:∀ i k v ys σ H,kvs[i]?=some (k,v)->Pv i ys σ H->g (kV k) σ H fun σ2 H3=>tf σ2 H3 fun b H4=>if b=true then te σ2 H4 fun y H5=>Pv (i+1) (ys++[y]) σ2 H5 else Pv (i+1) ys σ2 H4)
  (hd:∀ ys σ H,Pv kvs.length ys σ H->∀ p,H p=none->Q (.ref p) (upd H p (.lst ys))):UE src (ItK d kvs ob) g tf te Q σ H :=
 IO kvs.length Pv h0 hz (fun i ys σ H hi p=>(hl i ys σ H hi p).2) (fun ys σ H p=>⟨(hl _ ys σ H (Ze _) p).1,rfl⟩) (fun i ys σ H hi p=>⟨(hl i ys σ H (YF hi) p).1,hi⟩)
  (fun i ys σ H hi p x H2 y=>by
   obtain ⟨eH,k,v,hx,ev⟩:=y;subst ev eH;exact hs i k v ys σ _ hx p) hd
end
end L2
namespace AnS
open PySem L2 An AnJ
end AnS
namespace AnS
open PySem L2 An AnJ
end AnS
namespace AnS
end AnS
namespace An
open PySem L2
inductive Rch (par:Str->List Str)(rs:List Str):Str->Prop
 | root {x:Str}:x∈rs->Rch par rs x
 | step {x y:Str}:Rch par rs x->y∈par x->Rch par rs y
def Uq (S:List En):PyData->Str->Bool
 | .str x,f=>yA S x [f]
 | _,_=>false
end An
namespace An06
open PySem L2 An
seal L2.PS L2.PSs L2.PE L2.PT L2.PW L2.PA L2.PG L2.PGs L2.PI L2.PFi L2.PC
def spNF (P:Program)(w:World)(K:ZZF)(C:Addr):Sp:=fun vs H Q _=>∃ (a:Addr) (fp:List Addr) (S:List En) (d:PyData) (v:V) (f:Str),vs=[.ref a,v,.str f]/\ShAt P w K C H a fp S/\(∀ e∈S,Gx e)/\Dw K H d v/\Q (.bl (Uq S d f)) H
def uG (P:Program)(w:World)(K:ZZF)(C aN:Addr):Sp:=fun vs H Q E=>∃ (a:Addr) (fp:List Addr) (S:List En) (d:PyData) (v:V),vs=[.ref a,v]/\ShAt P w K C H a fp S/\(∀ e∈S,Gx e)/\Dw K H d v/\(Uq S d "tree"=true->Q .non H)/\(Uq S d "tree"=false->E (.ref aN) none H)
def jE (P:Program)(w:World)(K:ZZF)(C:Addr):Nat->Sp
 | 0=>fun _ _ _ _=>False
 | d+1=>fun vs H Q _=>∃ (a:Addr) (fp:List Addr) (S:List En) (x ah:Str) (rows:List (Str×Str)),vs=[.ref a,.str x,.str ah]/\ShAt P w K C H a fp S/\OkS S/\Tree (d+1) S x/\At S x (.tree rows)/\(reads (d+1) S x).length<=60/\(∀ f∈reads (d+1) S x,Uv f.2)/\ah.length+10*(d+1)<=1000 /\
  ∀ e kvs H',Same H H'->H e=none->H' e=some (.dK kvs)->FsP K H' ah (reads (d+1) S x) kvs->Q (.ref e) H'
def U7 (P:Program)(w:World)(K:ZZF)(C aN:Addr):Sp:=fun vs H Q E=>∃ (a:Addr) (fp:List Addr) (S:List En) (x:Str),vs=[.ref a,.str x]/\ShAt P w K C H a fp S/\OkS S /\
 ((∃ rows,At S x (.tree rows)/\Tree 5 S x/\(reads 5 S x).length<=60/\(∀ f∈reads 5 S x,Uv f.2)/\∀ e kvs H',Same H H'->H e=none->H' e=some (.dK kvs)->FsAt K H' (reads 5 S x) kvs->Q (.ref e) H') \/
  (Uq S (.str x) "tree"=false/\E (.ref aN) none H))
theorem isT {S:List En}{x:Str}{rows:List (Str×Str)}(h:At S x (.tree rows)):Uq S (.str x) "tree"=true:=by
 obtain ⟨e,he,rfl,hd⟩:=h;refine Z7.mpr ⟨e,he,?_⟩;rw [Zg,Zq,Zq,jY hd];exact ⟨rfl,Q7.mpr rfl⟩
section
variable {P:Program}{w:World}{K:ZZF}{mg:Str->Option Value}{base:Heap}{t1 t2 t3 t4 t5 t6 t7:Tok}{aL aC aN aT aA b1 b2:Addr}
theorem vL {H H':Hp}{X:List Addr}{c:Addr}{xs:List V}(n:∀ b∈X,∀ xs,¬Rd H b (.tup xs))(o:Off X H H')(h:SqT K H c xs):SqT K H' c xs:=by
 rcases h with h|h
 ·have ne:c∉X:=fun z=>n c z xs h
  rcases h with h|⟨u,h⟩
  ·exact .inl (.inl (o _ _ ne h))
  ·exact .inl (.inr ⟨u,o _ _ ne h⟩)
 ·exact .inr h
theorem yZ {S:List En}(g:OkS S){x:Str}{t:Th}(h:At S x t){e:En}(he:e∈S)(ed:(PyData.str x)=.str e.nm):e.d=t.dat:=by
 obtain ⟨f,hf,fn,fd⟩:=h;have:f.nm=e.nm:=by rw [fn];injection ed
 rw [←nm_one g.good.nn hf he this];exact fd
theorem j5 {H:Hp}{rows:List (Str×Str)}{t:Addr}(h:Dt K H (Th.tree rows).dat (.ref t)):∃ c rs,SqT K H t [V.str "tree",V.ref c]/\SqT K H c rs/\DtAll K H (rows.map rowDat) rs:=by
 obtain ⟨t',xs,e1,h1,x,r,e2,h2,y,r2,e3,h3,h4⟩:=h;cases e1;obtain ⟨c,rs,rfl,h5,h6⟩:=h3;have h2:x=V.str "tree":=h2;have h4:r2=[]:=h4;subst e2 e3 h2 h4;exact ⟨c,rs,h1,h5,h6⟩
theorem vG {H:Hp}{ls:List Str}{t:Addr}(h:Dt K H (Th.leaf ls).dat (.ref t)):∃ v,SqT K H t [V.str "leaf",v]/\Dt K H (AnJ.tupS ls) v:=by
 obtain ⟨t',xs,e1,h1,x,r,e2,h2,y,r2,e3,h3,h4⟩:=h;cases e1;have h2:x=V.str "leaf":=h2;have h4:r2=[]:=h4;subst e2 e3 h2 h4;exact ⟨y,h1,h3⟩
theorem Xd {H:Hp}{rows:List (Str×Str)}{rs:List V}(h:DtAll K H (rows.map rowDat) rs){i:Nat}{v:V}(e:rs[i]?=some v):∃ r c,rows[i]?=some r/\v=.ref c/\SqT K H c [V.str r.1,V.str r.2]:=by
 obtain ⟨d,hd,hv⟩:=h.get e;rw [Zl] at hd;obtain ⟨r,hr,rfl⟩:=ZM.mp hd;obtain ⟨c,xs,rfl,h1,x,r2,e2,h2,y,r3,e3,h3,h4⟩:=hv;have h2:x=V.str r.1:=h2;have h3:y=V.str r.2:=h3;have h4:r3=[]:=h4;subst e2 e3 h2 h3 h4;exact ⟨r,c,hr,rfl,h1⟩
theorem formD_in {S:List En}{d:PyData}{f:Str}(h:Uq S d f=true):∃ x,d=.str x/\yA S x [f]=true/\x∈S.map En.nm:=by
 cases d with
 | str x =>
  have h:yA S x [f]=true:=h;refine ⟨x,rfl,h,?_⟩
  rcases Classical.em (x∈S.map En.nm) with z|z
  ·exact z
  ·rw [form_out z] at h;cases h
 | none=>cases h
 | bool b=>cases h
 | int i=>cases h
 | list ds=>cases h
 | tuple ds=>cases h
 | dict kvs=>cases h
namespace w_nf
abbrev st:Stmt:=top 40
theorem sc:FnScope ["store","name","form"] ["store","name","form"] (zG st):=QS0
theorem ok {f:Addr}{fd:FuncData}(F:Fun K "names_form" "names_form" st f fd)(T:Txt P w K mg t1 t2 t3 t4 t5 t6 t7 aL aC aN aT aA b1 b2)(Qn:Met P w K mg base aC 2 "has" ["self","name"] (spHas P w K aC))(Qa:MetX P w K mg base aC 4 "thing" ["self","name"] (xE P w K aC aN)):FnOk P w K mg base CX0 5 f fd ["store","name","form"] (spNF P w K aC):=by
 refine F.ok sc (fun vs H Q E h=>?_) (fun cdv A outer s H vs Q E hr h=>?_)
 ·obtain ⟨a,fp,S,d,v,g,rfl,_⟩:=h;rfl
 ·obtain ⟨a,fp,S,d,v,g,rfl,sh,th,hd,k⟩:=h;refine ⟨_,(zE (zL (yV (XN (pv 0) T.cls Qn hr.m (zA (pv 1) zC)) (xK (yH xR (z8 (ix_tup:IxR _ (Ui K)) (yO (pv 0) T.cls Qa hr.m zO (zA (pv 1) zC)) zI (fun _ _=>rfl)) (pv 2) (zT _)))))),?_⟩;obtain ⟨gS,dx,d1,d2,d3,ts,nx,efp,nd,h1,h2,h3,h4,h5,h6,h7,h8,h9⟩:=id sh;refine ⟨_,rfl,a,dx,_,rfl,h1,rfl,_,rfl,a,fp,S,d,v,rfl,sh,hd,UI S d,rfl,?_⟩;cases q:UI S d with
  | false =>
   refine Ug ?_;have:Uq S d g=false:=by
    cases e:Uq S d g with
    | false=>rfl
    | true =>
     obtain ⟨x,rfl,_,hx⟩:=formD_in e;rw [show UI S (.str x)=decide (x∈S.map En.nm) from rfl,Zd hx] at q;cases q
   rw [this] at k;exact k
  | true =>
   refine Uf ⟨_,rfl,a,dx,_,rfl,h1,rfl,_,rfl,a,fp,S,d,v,rfl,sh,hd,fun e he ed t ht=>?_,fun z=>by rw [q] at z;cases z⟩;obtain ⟨tt,et,_⟩:=th e he;rw [et] at ht;obtain ⟨c,r,ec,hc⟩:=uQ ht;cases ec;refine ⟨t,_,_,_,rfl,rfl,hc,xI (j:=0) rfl,_,rfl,rfl,?_⟩;subst ed;have:Uq S (.str e.nm) g=decide (V.str tt.word=V.str g):=by
    show yA S e.nm [g]=_;rw [form_in gS he,jY et,ZU,Zq,Zq,Q7,V.str.injEq]
   rw [this] at k;exact k
end w_nf
namespace t_need_root
abbrev st:Stmt:=top 41
theorem sc:FnScope ["store","root"] ["store","root"] (zG st):=QS0
theorem ok {f:Addr}{fd:FuncData}(F:Fun K "need_root" "need_root" st f fd)(T:Txt P w K mg t1 t2 t3 t4 t5 t6 t7 aL aC aN aT aA b1 b2)(Qs:Cal P w K mg base 5 "names_form" ["store","name","form"] (spNF P w K aC)):FnOk P w K mg base (CXF P w) 6 f fd ["store","root"] (uG P w K aC aN):=by
 refine F.okX sc (fun vs H Q E h=>?_) (fun cdv A outer s H vs Q E hr h=>?_)
 ·obtain ⟨a,fp,S,d,v,rfl,_⟩:=h;rfl
 ·obtain ⟨a,fp,S,d,v,rfl,sh,th,hd,k1,k2⟩:=h;refine ⟨_,(zE (yI (y9 (zX (K:=K) (zJ Qs hr.m (zA (pv 0) (zA (pv 1) (zA pe_str zC)))) (fun _=>rfl)))
    (zE (x9 rfl xL rfl T.NoName T.xNoName (zA pe_str zC)))
    zR)),?_⟩
  refine ⟨_,rfl,_,rfl,a,fp,S,d,v,"tree",rfl,sh,th,hd,_,rfl,?_⟩;cases q:Uq S d "tree" with
  | false=>exact iteNT ⟨Um 1,k2 q⟩
  | true=>exact iteNF (k1 q)
end t_need_root
namespace t_beneath
abbrev st:Stmt:=top 47
theorem sc:FnScope ["store","tree","ahead","files","label","name","thing"] ["store","tree","ahead"] (zG st):=QS0
theorem step {f:Addr}{fd:FuncData}{L d:Nat}(F:Fun K "files_beneath" "files_beneath" st f fd)(T:Txt P w K mg t1 t2 t3 t4 t5 t6 t7 aL aC aN aT aA b1 b2)(Qa:MetX P w K mg base aC 4 "thing" ["self","name"] (xE P w K aC aN))(hL:8<=L)(Qt:Cal P w K mg base L "files_beneath" ["store","tree","ahead"] (jE P w K aC d)):FnOk P w K mg base CX0 (L+1) f fd ["store","tree","ahead"] (jE P w K aC (d+1)):=by
 refine F.ok sc (fun vs H Q E h=>?_) (fun cdv A outer s H vs Q E hr h=>?_)
 ·obtain ⟨a,fp,S,x,ah,rows,rfl,_⟩:=h;rfl
 ·obtain ⟨a,fp,S,x,ah,rows,rfl,sh,ok,tr,at_,rl,rn,al,k⟩:=h;have hu:=X6 hr;refine ⟨_,(zD (zP (i:=3) sc.nd rfl (Or.inl rfl) xO)
   (zD (yW PassesOwn.never rfl (qU (z8 (ix_tup:IxR _ (Ui K)) (yO (pv 0) T.cls Qa (hr.mono (by omega)) zO (zA (pv 1) zC)) zI (fun _ _=>rfl))) (UZ rfl (yY (zQ (i:=4) sc.nd rfl (Or.inl rfl)) (yY (zQ (i:=5) sc.nd rfl (Or.inl rfl)) kX)))
    (zD (zP (i:=6) sc.nd rfl (Or.inl rfl) (yO (pv 0) T.cls Qa (hr.mono (by omega)) zO (zA (pv 5) zC)))
    (zE (yI (zW xR (z8 (ix_tup:IxR _ (Ui K)) (pv 6) zI (fun _ _=>rfl)) pe_str (zT _))
     (zE (xF hu (pv 3) (z7 yG (pv 2) (pv 4)) (z8 (ix_tup:IxR _ (Ui K)) (pv 6) zI (fun _ _=>rfl)) rfl))
     (zE (yP (pe_dupd (pv 3) (zJ Qt (hr.mono (by omega)) (zA (pv 0) (zA (pv 5) (zA (z7 yG (z7 yG (pv 2) (pv 4)) pe_str) zC)))) ⟨rfl,rfl,rfl,rfl⟩)))))))
   (zE (zL (pv 3))))),?_⟩
  refine fun e0 ne0=>?_;have u0:=zF (o:=.dK []) ne0;have he0:upd H e0 (.dK []) e0=some (.dK []):=zB;generalize upd H e0 (.dK [])=H1 at u0 he0 ⊢;obtain ⟨ix,i1,i2,i3,hix⟩:=qH sh;have hx:UI S (.str x)=true:=Zd at_.mem;refine ⟨_,rfl,a,ix,_,rfl,u0 _ _ hix,rfl,_,rfl,a,fp,S,.str x,_,rfl,sh.same u0,rfl,fun e he ed t ht=>?_,fun z=>by rw [hx] at z;cases z⟩;rw [yZ ok at_ he ed] at ht;obtain ⟨c,rs,ht1,hc,hrs⟩:=j5 ht;have tr':(rows.map (·.1)).Pairwise ltS/\∀ r∈rows,zS r.1=true/\Tree d S r.2/\reads d S r.2≠[]:=by
   rcases tr with ⟨ls,z⟩|⟨rows',z,h1,h2⟩
   ·cases z.thing ok at_
   ·cases z.thing ok at_;exact ⟨h1,h2⟩
  have rd:reads (d+1) S x=rows.flatMap (rowF d S):=z9 ok at_;have rise:=(tr.rise ok).1;rw [rd] at rl rn rise k;have rsl:rs.length=rows.length:=by rw [DtAll.length hrs,Q5]
  have nt:=zN he0;refine ⟨t,_,_,_,rfl,rfl,ht1,rfl,c,rfl,⟨_,hc⟩,uD (K:=K) (a:=c) (xs:=rs) (fun i σ H'=>∃ o4 o5 o6 kvs,σ=[some (.ref a),some (.str x),some (.str ah),some (.ref e0),o4,o5,o6]/\Off [e0] H1 H'/\H' e0=some (.dK kvs)/\FsP K H' ah ((rows.take i).flatMap (rowF d S)) kvs) ⟨none,none,none,[],rfl,Off.refl _ _,he0,FsP.nil⟩ (fun i σ H' _ h=>?_) ?_ ?_⟩
  ·obtain ⟨_,_,_,_,_,of',_⟩:=h;exact vL nt of' hc
  ·rintro i v σ H' hv ⟨o4,o5,o6,kvs,rfl,of',he',fs'⟩;obtain ⟨r,c',hr',rfl,hc'⟩:=Xd hrs hv;have sm:Same H H':=fun b o e=>of' b o (fun z=>by rw [Q7.mp z,ne0] at e;cases e) (u0 _ _ e);have sh':=sh.same sm;have hrm:=Zk hr';obtain ⟨lb,trr,nen⟩:=tr'.2 r hrm;have etk:(rows.take (i+1)).flatMap (rowF d S)=(rows.take i).flatMap (rowF d S)++rowF d S r:=by rw [take_snoc hr',YZ,Yg,JQ,ZF]
   have eall:rows.flatMap (rowF d S)=((rows.take i).flatMap (rowF d S)++rowF d S r)++(rows.drop (i+1)).flatMap (rowF d S):=by rw [←etk,←YZ,ZX]
   have nd:=keys_nd (ah:=ah) rise;rw [eall,Zf,Zf,Yk,Yk] at nd;have ndn:∀ k∈(rowF d S r).map (fun f=>(.inr (ah++pth f.1):Key)),k∉kvs.map (·.1):=fun k hk z=>nd.1.2.2 k (by rw [←fs'.keys];exact z) k hk rfl;have kl:kvs.length+(rowF d S r).length<=60:=by
    have:=congrArg List.length eall;rw [Zh,Zh] at this;have:=fs'.len;omega
   have inr:∀ f∈rowF d S r,Uv f.2:=fun f hf=>rn f (Yf.mpr ⟨r,hrm,hf⟩);refine ⟨c',_,rfl,vL nt of' hc',rfl,_,_,rfl,_,_,rfl,rfl,?_⟩;have hx':UI S (.str r.2)=true:=Zd trr.mem;refine ⟨_,rfl,a,ix,_,rfl,sm _ _ hix,rfl,_,rfl,a,fp,S,.str r.2,_,rfl,sh',rfl,fun e2 he2 ed2 t2 ht2=>?_,fun z=>by rw [hx'] at z;cases z⟩;have ll:("/":Str).length=1:=by decide +kernel
   have lbl:=(label_parts.mp lb).2.1;have adl:(ah++r.1).length=ah.length+r.1.length:=len_append _ _;cases d with
   | zero=>exact absurd trr (fun z=>z)
   | succ d =>
    rcases id trr with ⟨ls,atl⟩|⟨rows2,att,so2,hr2⟩
    ·rw [yZ ok atl he2 ed2] at ht2;obtain ⟨vv,ht3,hvv⟩:=vG ht2;have er:rowF (d+1) S r=[([r.1],ls)]:=by
      unfold rowF;rw [yC ok atl];rfl
     have lnk:Uv ls:=inr ([r.1],ls) (by rw [er];exact Q7.mpr rfl);refine ⟨_,rfl,t2,_,_,_,rfl,rfl,ht3,rfl,rfl,true,?_,Uf ?_⟩
     ·show V.bl (decide (V.str "leaf"=V.str "leaf"))=V.bl true;rw [Zd rfl]
     refine ⟨_,rfl,t2,_,_,_,rfl,rfl,ht3,rfl,_,rfl,_,rfl,_,rfl,_,_,rfl,rfl,le_line (by omega),e0,_,rfl,DPut.k (k:=.inr (ah++r.1)) he' (yR (by omega)),_,_,_,kvs++[(.inr (ah++r.1),vv)],rfl,?_,?_,?_⟩
     ·exact of'.trans zU
     ·rw [zB]
      congr 2
      refine qV (ndn _ ?_);rw [er,ah_one];exact Q7.mpr rfl
     ·rw [etk,er];exact (fs'.off (zN he') zU).app (FsP.one (Dt.off (zN he') zU _ _ (qP lnk) hvv) lnk)
    ·rw [yZ ok att he2 ed2] at ht2;obtain ⟨c2,rs2,ht3,_,_⟩:=j5 ht2;refine ⟨_,rfl,t2,_,_,_,rfl,rfl,ht3,rfl,rfl,false,?_,Ug ?_⟩
     ·show V.bl (decide (V.str "tree"=V.str "leaf"))=V.bl false;rw [Zo (by intro z;injection z with z;exact absurd z (by decide +kernel))]
     have nep:∀ f∈reads (d+1) S r.2,f.1≠[]:=by
      rcases (trr.rise ok).2 with ⟨ls,z⟩|z
      ·rw [z9 ok att] at z;have:(([],ls):Fi)∈rows2.flatMap (fun r=>(reads d S r.2).map fun f=>((r.1::f.1,f.2):Fi)):=by rw [z];exact Q7.mpr rfl
       obtain ⟨r',_,hf⟩:=Yf.mp this;obtain ⟨f',_,q⟩:=Za.mp hf;exact absurd (congrArg Prod.fst q) (ZR _ _)
      ·exact z
     have rlen:(reads (d+1) S r.2).length<=60:=by
      have:(rowF (d+1) S r).length=(reads (d+1) S r.2).length:=Q5 ..;omega
     refine ⟨_,rfl,e0,rfl,.inl ⟨_,.inl he'⟩,_,rfl,_,rfl,_,rfl,_,rfl,_,_,rfl,rfl,le_line (by omega),_,_,rfl,rfl,le_line (by omega),a,fp,S,r.2,ah++r.1++"/",rows2,rfl,sh',ok,trr,att,rlen,fun f hf=>inr (r.1::f.1,f.2) (Za.mpr ⟨f,hf,rfl⟩),by
      rw [len_append,len_append,ll];omega,fun e3 kv3 H3 s3 ne3 he3 fp3=>?_⟩
     have h30:=s3 _ _ he';have fp4:FsP K H3 ah (rowF (d+1) S r) kv3:=fp3.deep nep;have pa:putAll kvs kv3=kvs++kv3:=kW (fun k hk=>ndn k (by rw [←fp4.keys];exact hk)) (by rw [fp4.keys];exact nd.1.2.1);have l3:kv3.length=(rowF (d+1) S r).length:=fp4.len;refine ⟨e3,kvs,kv3,rfl,(fun z=>by rw [←z,he'] at ne3;cases ne3),h30,.inl he3,le_line (by omega),_,_,_,kvs++kv3,rfl,?_,by rw [zB,pa],?_⟩
     ·exact (of'.trans (Off.of s3)).trans zU
     ·rw [etk];exact ((fs'.same s3).off (zN h30) zU).app (fp4.off (zN h30) zU)
  ·rintro σ H' ⟨o4,o5,o6,kvs,rfl,of',he',fs'⟩;rw [rsl,ZA] at fs';exact ⟨_,rfl,k e0 kvs H' (fun b o e=>of' b o (fun z=>by rw [Q7.mp z,ne0] at e;cases e) (u0 _ _ e)) ne0 he' fs'⟩
theorem ok0 {f:Addr}{fd:FuncData}(F:Fun K "files_beneath" "files_beneath" st f fd):FnOk P w K mg base CX0 8 f fd ["store","tree","ahead"] (jE P w K aC 0) :=
 F.ok sc (fun vs H Q E h=>False.elim h) (fun cdv A outer s H vs Q E hr h=>False.elim h)
theorem ok {f:Addr}{fd:FuncData}(F:Fun K "files_beneath" "files_beneath" st f fd)(T:Txt P w K mg t1 t2 t3 t4 t5 t6 t7 aL aC aN aT aA b1 b2)(Qa:MetX P w K mg base aC 4 "thing" ["self","name"] (xE P w K aC aN))(Hm:mg "files_beneath"=some (.ref f))(Hb:Binds K fd ["store","tree","ahead"] []):FnOk P w K mg base CX0 13 f fd ["store","tree","ahead"] (jE P w K aC 5):=by
 have c0:=Cal.mk' F (ok0 (P:=P) (w:=w) (mg:=mg) (base:=base) (aC:=aC) F) Hm Hb;have c1:=Cal.mk' F (step F T Qa (by decide) c0) Hm Hb;have c2:=Cal.mk' F (step F T Qa (by decide) c1) Hm Hb;have c3:=Cal.mk' F (step F T Qa (by decide) c2) Hm Hb;have c4:=Cal.mk' F (step F T Qa (by decide) c3) Hm Hb;exact step F T Qa (by decide) c4
end t_beneath
namespace t_files_of
abbrev st:Stmt:=top 46
theorem sc:FnScope ["store","root"] ["store","root"] (zG st):=QS0
theorem ok {f:Addr}{fd:FuncData}(F:Fun K "files_of" "files_of" st f fd)(T:Txt P w K mg t1 t2 t3 t4 t5 t6 t7 aL aC aN aT aA b1 b2)(Qu:CalX P w K mg base 6 "need_root" ["store","root"] (uG P w K aC aN))(Qt:Cal P w K mg base 13 "files_beneath" ["store","tree","ahead"] (jE P w K aC 5)):FnOk P w K mg base (CXF P w) 14 f fd ["store","root"] (U7 P w K aC aN):=by
 refine F.okX sc (fun vs H Q E h=>?_) (fun cdv A outer s H vs Q E hr h=>?_)
 ·obtain ⟨a,fp,S,x,rfl,_⟩:=h;rfl
 ·obtain ⟨a,fp,S,x,rfl,sh,ok,h⟩:=h;refine ⟨_,(zD (yP (yB Qu hr.m yQ (zA (pv 0) (zA (pv 1) zC))))
   (zE (zL (zJ Qt hr.m (zA (pv 0) (zA (pv 1) (zA pe_str zC))))))),?_⟩
  refine ⟨_,rfl,_,rfl,a,fp,S,.str x,_,rfl,sh,ok.th,rfl,fun q=>?_,fun q=>?_⟩
  ·rcases h with ⟨rows,at_,tr,rl,rn,k⟩|⟨z,_⟩
   ·have e0:("":Str).length=0:=by decide +kernel
    exact ⟨_,rfl,_,rfl,a,fp,S,x,"",rows,rfl,sh,ok,tr,at_,rl,rn,by rw [e0];decide,fun e kvs H' s' ne he fs'=>k e kvs H' s' ne he fs'.at⟩
   ·rw [z] at q;cases q
  ·rcases h with ⟨rows,at_,_⟩|⟨_,kE⟩
   ·rw [isT at_] at q;cases q
   ·exact kE
end t_files_of
end
end An06
namespace An
open PySem L2
def rowAt (rows:List (Str×Str))(l:Str):Option Str:=(rows.find? fun r=>decide (r.1=l)).map (·.2)
theorem rkv_val (rows:List (Str×Str))(l:Str):Uh (rkv rows) (.inr l)=(rowAt rows l).map V.str:=by
 unfold Uh rkv rowAt;rw [List.find?_map,Option.map_map,Option.map_map]
 congr 1
 congr 1
 funext r
 show decide ((.inr r.1:Key)=.inr l)=decide (r.1=l)
 by_cases z:r.1=l
 ·rw [Zd z,Zd (by rw [z])]
 ·rw [Zo z,Zo (fun q=>z (Sum.inr.inj q))]
theorem GZ {rows:List (Str×Str)}{l n:Str}(h:rowAt rows l=some n):(l,n)∈rows:=by
 unfold rowAt at h;obtain ⟨r,hr,rfl⟩:=ZM.mp h;have h1:=List.mem_of_find?_eq_some hr;have h2:=List.find?_some hr;have h2:=ZB h2;obtain ⟨a,b⟩:=r;have h2:a=l:=h2;subst h2;exact h1
noncomputable def stepT (S:List En)(x:Option Str)(l:Str):Option Str:=match x with
 | none=>none
 | some n=>match thS S n with
  | some (.tree rows)=>rowAt rows l
  | _=>none
noncomputable def atT (S:List En)(root:Str)(ls:List Str):Option Str:=ls.foldl (stepT S) (some root)
theorem kR (S:List En):∀ ls:List Str,ls.foldl (stepT S) none=none
 | []=>rfl
 | _::ls=>kR S ls
theorem Xj {S:List En}(g:OkS S){n:Str}{rows:List (Str×Str)}(h:At S n (.tree rows))(l:Str):stepT S (some n) l=rowAt rows l:=by
 show (match thS S n with|some (.tree rows)=>rowAt rows l|_=>none)=_;rw [IC g h]
theorem uW {S:List En}(g:OkS S)(n:Str):(Uq S (.str n) "tree"=true/\∃ rows,At S n (.tree rows))\/(Uq S (.str n) "tree"=false/\∀ rows,¬At S n (.tree rows)):=by
 cases q:Uq S (.str n) "tree" with
 | true =>
  have q:yA S n ["tree"]=true:=q;unfold yA at q;obtain ⟨e,he,q⟩:=Z7.mp q;rw [Zg,ZL,ZL] at q;obtain ⟨t,ht,_,_⟩:=g.th e he;have w:=Q7.mp q.2;rw [jY ht] at w;refine .inl ⟨rfl,?_⟩;cases t with
  | leaf ls=>exact absurd (show ("leaf":Str)="tree" from w) (by decide +kernel)
  | tree rows=>exact ⟨rows,e,he,q.1,ht⟩
  | note a b c=>exact absurd (show ("note":Str)="tree" from w) (by decide +kernel)
 | false =>
  refine .inr ⟨rfl,fun rows h=>?_⟩;obtain ⟨e,he,rfl,hd⟩:=h;have:yA S e.nm ["tree"]=true:=Z7.mpr ⟨e,he,by
   rw [Zg,Zq,Zq,jY hd];exact ⟨rfl,Q7.mpr rfl⟩⟩
  rw [show Uq S (.str e.nm) "tree"=yA S e.nm ["tree"] from rfl,this] at q;cases q
theorem Id {S:List En}{n:Str}(h:∀ rows,¬At S n (.tree rows))(l:Str):stepT S (some n) l=none:=by
 show (match thS S n with|some (.tree rows)=>rowAt rows l|_=>none)=_;cases q:thS S n with
 | none=>rfl
 | some t =>
  unfold thS at q
  split at q
  ·rename_i ex;have q:=Option.some.inj q;have h2:=Vo ex;rw [q] at h2;cases t with
   | leaf ls=>rfl
   | tree rows=>exact absurd h2 (h rows)
   | note a b c=>rfl
  ·cases q
def oV:Option Str->V
 | none=>.non
 | some n=>.str n
def oDS:Option Str->PyData
 | none=>.none
 | some n=>.str n
end An
namespace AxS
open PySem PySem.Spec PyProof.Rows
section
variable {prog:Program}{w:World}{A:Around}{E:Value->Shared->Prop}{s:Shared}
theorem Gn:typeLookup (.type "tuple") "keys"=pure none:=by rw [V8,Vm];kernel_rfl
theorem no_keysT {a:Addr}{xs:Array Value}{n:Nat}{sl:Array (Option Value)}{Q:Option Value->Shared->Prop}(hx:s.heap.get? a=some { cls:=.type "tuple",dict:=none,data:=.seq xs n,slots:=sl })(hA:A.handled=none)
  (h:∀ h' tk,(∀ b o,s.heap.get? b=some o->h'.get? b=some o)->Q none { s with heap:=h',toks:=tk }):wpAny (model prog w) A (getAttr? (.ref a) "keys") Q E s:=by
 obtain ⟨hp,g,d,tk,os⟩:=s;have hT:∀ tk',(⟨hp,g,d,tk',os⟩:Shared).TypeIs (.ref a) "tuple":=fun _=>⟨_,hx,rfl⟩;have f1:=sub_AttributeError;have f3:=F.slot_tuple_getattribute.lookup;have f4:=F.slot_tuple_getattribute.bind (.ref a);have f5:=am_tuple_getattr_none;unfold getAttr? getAttrBy? getAttrBy
 repeat (any_goals (first|assumption|exact hT _|((with_reducible show wpAny _ _ (call (Value.builtin "tuple.__getattribute__") _ _) _ _ _);refine Vs F.slot_tuple_getattribute (hT _) am_entry_tuple_getattribute (F.args_tuple_getattribute_2 _ _) (meets_getattribute_miss_tuple a xs n sl "keys" _ Gn (by decide +kernel)) ⟨hx,hA,fun h' tk' e hx'=>?_⟩)|wp_step))
 obtain ⟨t',u',he⟩:=hx'.there;show wpAny _ _ (getattributeRaised _ _ _ _ _ _ _) _ _ _;unfold getattributeRaised
 repeat (any_goals (first|assumption|wp_step))
 exact h h' tk' hx'.of.keeps
theorem pairs_loopT {d I l:Addr}{items:Array Value}{kvs:List (L2.Key×Value)}{R:Result->Shared->Prop}{res:Value}(hh:A.in1.handled=none)(hne:l≠I)(dI:d≠I)(dl:d≠l)(hz:kvs.length<=sizeLine) :
  ∀ (m i:Nat) (s:Shared),items.size-i=m->i<=items.size->(s.heap.IsTupleIter I l i/\s.heap.IsTuple l items)->s.heap.DictOf (L2.mixKind prog w) d (merged [] (kvs.take i))->PairsAt prog w s.heap items kvs ->
   (∀ h' tk,h'.DictOf (L2.mixKind prog w) d (merged [] kvs)->(∀ b o,b≠d->b≠I->s.heap.get? b=some o->h'.get? b=some o)->R (.ok (.ret res)) { s with heap:=h',toks:=tk }) ->
   codeAny (model prog w) A (.builtin "dict.update.loop" ⟨[.ref d,.ref I,rawInt i,res],[]⟩) R s:=by
 have W:=Walks.tuple (prog:=prog) (w:=w) hh I l hne items;intro m
 induction m with
 | zero =>
  intro i s hm hi st hD hP k;have ei:i=items.size:=by omega
  subst ei;refine YM Xq ?_;rw [Around.under_plainId qO _];show wpAny _ A.in1 (pyNext (.ref I)>>=_) _ _ s;refine Q6 (W.done s _ _ st fun h' tk kp=>?_);rw [Jp (by rw [hP.1];exact Ze _)] at hD;refine Q6 (Q8 (Q8 (k h' tk (hD.at fun o e=>kp d o (by simp [dI]) e) fun b o b1 b2 e=>kp b o (by simp [b2]) e)))
 | succ m ih =>
  intro i s hm hi st hD hP k;have hlt:i<items.size:=by omega
  refine YM Xq ?_;rw [Around.under_plainId qO _];show wpAny _ A.in1 (pyNext (.ref I)>>=_) _ _ s;refine Q6 (W.item i s _ _ hlt st fun v h' tk hv st' kp=>?_);obtain ⟨T,k1,key,x,rfl,hT,hk,hx⟩:=hP.2 i v hv;have TI:T≠I:=fun z=>by
   obtain ⟨o,ho,hc,_⟩:=hT;obtain ⟨o2,ho2,hc2,_⟩:=st.1;rw [z,ho2] at ho;cases ho;rw [hc2] at hc;exact absurd hc (by decide)
  have Td:T≠d:=fun z=>by
   obtain ⟨o,ho,hc,_⟩:=hT;obtain ⟨o2,_,_,ho2,hc2,_⟩:=hD;rw [z,ho2] at ho;cases ho;rw [hc2.1] at hc;exact absurd hc (by decide)
  have hD1:h'.DictOf (L2.mixKind prog w) d (merged [] (kvs.take i)):=hD.at fun o e=>kp d o (by simp [dI]) e;obtain ⟨⟨oc,od,oda,osl⟩,ho,hc,n1,hdt⟩:=id hT;have ho1:h'.get? T=some ⟨oc,od,oda,osl⟩:=kp T _ (by simp [TI]) ho;simp only at hc hdt;subst hc hdt;dsimp only;refine Q6 (Yr (Q6 (wpAny_tryCatch ?_)));have ty:Shared.TypeIs { s with heap:=h',toks:=tk } (.ref T) "tuple":=⟨_,ho1,rfl⟩;unfold Builtin.Dict.pairItems;refine Q6 (JM ty ?_);rw [Zz (by decide)];refine Q6 ?_;unfold seqItems?;dsimp only;refine Q6 (wpAny_load (s:={ s with heap:=h',toks:=tk }) ho1 (Q8 (Q8 ?_)));dsimp only [Option.getD];refine Yr ?_;unfold dictSet;refine Yr (Q6 ((L2.mixKind prog w).pyHash hk ?_));have ml:(merged ([]:List (L2.Key×Value)) (kvs.take i)).length<=sizeLine:=by
   have:=merged_length_le ([]:List (L2.Key×Value)) (kvs.take i);rw [ZC] at this;simp at this;omega
  refine wpAny_dictSetHashed_pairs (hsz:=ml) hk hD1 fun h2 hD2 sb2=>?_;rw [←merged_take_succ [] kvs i (k1,x) hx] at hD2;refine Q8 ⟨JW qO _,?_⟩;rw [show ((i:Nat):Int)+1=((i+1:Nat):Int) by push_cast;rfl];have kp2:∀ b o,b≠d->b≠I->s.heap.get? b=some o->h2.get? b=some o:=fun b o b1 b2 e=>(sb2.2 b b1).trans (kp b o (by simp [b2]) e);refine ih (i+1) _ (by omega) hlt ⟨?_,?_⟩ hD2 (hP.at fun T' o ⟨xs,hT'⟩ e=>kp2 T' o (fun z=>?_) (fun z=>?_) e) fun h3 tk3 hD3 kp3=>k h3 tk3 hD3 fun b o b1 b2 e=>kp3 b o b1 b2 (kp2 b o b1 b2 e)
  ·exact st'.1.at fun o e=>(sb2.2 I dI.symm).trans e
  ·exact st'.2.at fun o e=>(sb2.2 l dl.symm).trans e
  ·obtain ⟨o1,ho1,hc1,_⟩:=hT';obtain ⟨o2,_,_,ho2,hc2,_⟩:=hD;rw [z,ho2] at ho1;cases ho1;rw [hc2.1] at hc1;exact absurd hc1 (by decide)
  ·obtain ⟨o1,ho1,hc1,_⟩:=hT';obtain ⟨o2,ho2,hc2,_⟩:=st.1;rw [z,ho2] at ho1;cases ho1;rw [hc2] at hc1;exact absurd hc1 (by decide)
theorem Gg {l:Addr}{items:Array Value}{n:Nat}{kvs:List (L2.Key×Value)}{Q:Value->Shared->Prop}(hh:A.handled=none){sl:Array (Option Value)}(hl:s.heap.get? l=some { cls:=.type "tuple",dict:=none,data:=.seq items n,slots:=sl })(hP:PairsAt prog w s.heap items kvs)(hz:kvs.length<=sizeLine)
  (h:∀ h' tk,h'.DictOf (L2.mixKind prog w) s.heap.objs.size (merged [] kvs)->(∀ b o,s.heap.get? b=some o->h'.get? b=some o)->Q (.ref s.heap.objs.size) { s with heap:=h',toks:=tk }):wpAny (model prog w) A (call (.type "dict") [.ref l]) Q E s:=by
 refine callType_codes (Q₁:=fun obj s₁=>obj=.ref s.heap.objs.size/\s₁={ s with heap:=s.heap.push { cls:=.type "dict",data:=.dict #[] } }) F.kt_called_dict (F.kt_typeCall_dict_1 _) F.entry_dict_init (kt_code_dict_new _ ⟨rfl,rfl⟩) ?_;rintro obj s₁ ⟨rfl,rfl⟩;have hnew:(s.heap.push { cls:=.type "dict",data:=.dict #[] }).DictOf (L2.mixKind prog w) s.heap.objs.size []:=Heap.DictOf.new s.heap;have llt:l<s.heap.objs.size:=Zp hl;have hl1:(s.heap.push { cls:=.type "dict",data:=.dict #[] }).get? l=some { cls:=.type "tuple",dict:=none,data:=.seq items n,slots:=sl }:=Q9 _ hl;refine ⟨hnew.typeIs,F.args_dict_init_2 _ _,?_⟩;unfold Builtin.«dict.__init__»;refine Q6 ?_;unfold Builtin.Dict.selfAndRest;refine Q6 (wpAny_notOrdered_dict hnew.typeIs ?_);show wpAny _ _ (pure (s.heap.objs.size,[Value.ref l])) _ _ _;refine Q8 ?_;show wpAny _ _ (Builtin.Dict.updateFrom "dict.__init__" s.heap.objs.size (.ref l) [] .none) _ _ _;unfold Builtin.Dict.updateFrom;have tyl:Shared.TypeIs { s with heap:=s.heap.push { cls:=.type "dict",data:=.dict #[] } } (.ref l) "tuple":=⟨_,hl1,rfl⟩;refine Q6 (JM tyl ?_);rw [Zz (by decide)];refine Q6 (no_keysT (s:={ s with heap:=s.heap.push { cls:=.type "dict",data:=.dict #[] } }) hl1 (by simp [hh]) fun h2 tk2 kp2=>?_);simp only [Option.isNone_none,↓reduceIte];refine Q6 (JC ?_);have hl2:h2.IsTuple l items:=⟨_,kp2 l _ hl1,rfl,n,rfl⟩;have nlt:s.heap.objs.size<h2.objs.size:=by
  obtain ⟨o,_,_,e,_⟩:=hnew;exact Zp (kp2 _ _ e)
 refine Q6 (VI (s:={ s with heap:=h2,toks:=tk2 }) hl2 ?_);refine Q8 ⟨JW qO _,?_⟩;have kp3:∀ b o,s.heap.get? b=some o->(h2.push { cls:=.type "tuple_iterator",data:=.fields #[.ref l,.int 0 0] }).get? b=some o:=fun b o e=>Q9 _ (kp2 b o (Q9 _ e));refine pairs_loopT (A:=A.in1) (d:=s.heap.objs.size) (I:=h2.objs.size) (l:=l) (items:=items) (kvs:=kvs) (by simp [hh]) (Zu (V3 llt nlt)) (Zu nlt) (JK llt) hz (items.size-0) 0 _ (by omega) (ZJ _) ⟨⟨_,Zm _ rfl,rfl,rfl⟩,hl2.push _⟩ ?_ (hP.at fun T o _ e=>kp3 T o e) fun h3 tk3 hD3 kp4=>?_
 ·rw [List.take_zero];exact (hnew.at fun o e=>kp2 _ o e).push _
 ·refine ⟨rfl,h h3 tk3 hD3 fun b o e=>kp4 b o (Zu (Zp e)) (Zu (V3 (Zp e) nlt)) (kp3 b o e)⟩
end
end AxS
namespace L2
open PySem PySem.Spec PyProof.Rows AxS
section
variable {X:Cx}{K:ZZF}
def rDictT (K:ZZF):List V->Hp->VK->Prop:=fun xs H Q=>∃ (a:Addr) (vs:List V) (kvs:List (Key×V)),xs=[.ref a]/\SqT K H a vs/\PairsV K H vs kvs/\∀ l,H l=none->Q (.ref l) (upd H l (.dK (putAll [] kvs)))
theorem call_dictT (hc:X.calm=true)(hK:X.K=K:=by rfl):CallR X (.type "dict") (rDictT K):=by
 subst hK;intro pins s σ H xs us Q I r h;obtain ⟨a,vs,kvs,rfl,ha,pv,q⟩:=h;obtain ⟨u,rfl,ru⟩:=vals1 r;cases ru;obtain ⟨its,rv,⟨⟨oc,od,oda,osl⟩,e,hc1,n,hda,hdn⟩,z⟩:=I.tupleD ha;simp only at hc1 hda hdn;subst hc1 hda hdn;obtain ⟨um,rel,len,all⟩:=Il I rv pv;have vl:=rv.length;have kl:kvs.length=um.length:=Paired.length rel;refine Gg (I.ok.hd hc) e ⟨by rw [Zv];exact len,fun i v hv=>all i v (by simpa using hv)⟩ (by omega) fun h' tk hD kp=>?_;have zl:=qQ kvs [];exact ⟨.ref s.heap.objs.size,_,I.laid (o:=.dK (putAll [] kvs)) (t':=tk) kp (Ze _) (Br (by rw [Ja] at zl;omega) (Ys.mpr (Ne.symm (Zu I.big))) (KV.putAll (kvs:=[]) (vs:=[]) .nil rel) hD),rfl,q _ (I.hok.fresh (Ze _))⟩
end
end L2
namespace An06
open PySem L2 An
seal L2.PS L2.PSs L2.PE L2.PT L2.PW L2.PA L2.PG L2.PGs L2.PI L2.PFi L2.PC
def spRowsOf (P:Program)(w:World)(K:ZZF)(C:Addr):Sp:=fun vs H Q _=>∃ (a:Addr) (fp:List Addr) (S:List En) (x:Str) (rows:List (Str×Str)),vs=[.ref a,.str x]/\ShAt P w K C H a fp S/\OkS S/\At S x (.tree rows)/\(rows.map (·.1)).Nodup/\∀ l,H l=none->Q (.ref l) (upd H l (.dK (rkv rows)))
def XM (P:Program)(w:World)(K:ZZF)(C aN:Addr):Sp:=fun vs H Q E=>∃ (a:Addr) (fp:List Addr) (S:List En) (x p:Str),vs=[.ref a,.str x,.str p]/\ShAt P w K C H a fp S/\OkS S/\IY p=true/\p.length<=1000 /\
 ((∃ d rows,At S x (.tree rows)/\Tree d S x/\∀ H',Same H H'->Q (oV (atT S x (labs p))) H')\/(Uq S (.str x) "tree"=false/\E (.ref aN) none H))
section
variable {P:Program}{w:World}{K:ZZF}{mg:Str->Option Value}{base:Heap}{t1 t2 t3 t4 t5 t6 t7:Tok}{aL aC aN aT aA b1 b2:Addr}
theorem row_pairs {H:Hp}{rows:List (Str×Str)}{rs:List V}(h:DtAll K H (rows.map rowDat) rs):PairsV K H rs (rkv rows):=by
 have l1:rs.length=rows.length:=by rw [DtAll.length h,Q5]
 refine ⟨by unfold rkv;rw [Q5];exact l1,fun i x hx=>?_⟩;obtain ⟨r,c,hr,rfl,hc⟩:=Xd h hx;exact ⟨c,.inr r.1,.str r.2,rfl,hc,by unfold rkv;rw [Zl,hr];rfl⟩
theorem rkv_all {rows:List (Str×Str)}(nd:(rows.map (·.1)).Nodup):putAll [] (rkv rows)=rkv rows:=by
 rw [kW (kvs:=[]) (fun k _ z=>absurd z Yi)]
 ·rfl
 ·rw [BY];have:(rows.map fun p=>(.inr p.1:Key))=(rows.map (·.1)).map Sum.inr:=by rw [Zt];rfl
  rw [this];exact List.Pairwise.map _ (fun a b n e=>by cases e;exact n rfl) nd
theorem lt_nd {l:List Str}(h:l.Pairwise ltS):l.Nodup:=ZH.mpr (h.imp fun {a b} z=>Xu z)
namespace t_rows_of
abbrev st:Stmt:=top 42
theorem sc:FnScope ["store","tree"] ["store","tree"] (zG st):=QS0
theorem ok {f:Addr}{fd:FuncData}(F:Fun K "rows_of" "rows_of" st f fd)(T:Txt P w K mg t1 t2 t3 t4 t5 t6 t7 aL aC aN aT aA b1 b2)(Qa:MetX P w K mg base aC 4 "thing" ["self","name"] (xE P w K aC aN)):FnOk P w K mg base CX0 5 f fd ["store","tree"] (spRowsOf P w K aC):=by
 refine F.ok sc (fun vs H Q E h=>?_) (fun cdv A outer s H vs Q E hr h=>?_)
 ·obtain ⟨a,fp,S,x,rows,rfl,_⟩:=h;rfl
 ·obtain ⟨a,fp,S,x,rows,rfl,sh,ok,at_,nd,k⟩:=h;refine ⟨_,(zE (zL (zZ (call_dictT (K:=K) rfl) (by rfl) T.dict Jt (zA (z8 (ix_tup:IxR _ (Ui K)) (yO (pv 0) T.cls Qa hr.m zO (zA (pv 1) zC)) zI (fun _ _=>rfl)) zC)))),?_⟩;obtain ⟨ix,i1,i2,i3,hix⟩:=qH sh;have hx:UI S (.str x)=true:=Zd at_.mem;refine ⟨_,rfl,a,ix,_,rfl,hix,rfl,_,rfl,a,fp,S,.str x,_,rfl,sh,rfl,fun e he ed t ht=>?_,fun z=>by rw [hx] at z;cases z⟩;rw [yZ ok at_ he ed] at ht;obtain ⟨c,rs,ht1,hc,hrs⟩:=j5 ht;refine ⟨t,_,_,_,rfl,rfl,ht1,rfl,c,rs,rkv rows,rfl,hc,row_pairs hrs,fun l nl=>?_⟩;rw [rkv_all nd];exact k l nl
end t_rows_of
namespace t_found_at
abbrev st:Stmt:=top 48
theorem sc:FnScope ["store","root","path","name","label"] ["store","root","path"] (zG st):=QS0
theorem ok {f:Addr}{fd:FuncData}(F:Fun K "found_at" "found_at" st f fd)(T:Txt P w K mg t1 t2 t3 t4 t5 t6 t7 aL aC aN aT aA b1 b2)(Qu:CalX P w K mg base 6 "need_root" ["store","root"] (uG P w K aC aN))(QY:CalX P w K mg base 3 "labels_of" ["path"] (spLabels K b1))(Qs:Cal P w K mg base 5 "names_form" ["store","name","form"] (spNF P w K aC))(QZ:Cal P w K mg base 5 "rows_of" ["store","tree"] (spRowsOf P w K aC)):FnOk P w K mg base (CXF P w) 7 f fd ["store","root","path"] (XM P w K aC aN):=by
 refine F.okX sc (fun vs H Q E h=>?_) (fun cdv A outer s H vs Q E hr h=>?_)
 ·obtain ⟨a,fp,S,x,p,rfl,_⟩:=h;rfl
 ·obtain ⟨a,fp,S,x,p,rfl,sh,ok,hp,pl,h⟩:=h;refine ⟨_,(zD (yP (yB Qu hr.m yQ (zA (pv 0) (zA (pv 1) zC))))
   (zD (zP (i:=3) sc.nd rfl (Or.inl rfl) (pv 1))
   (zD (yW PassesOwn.leaving rfl (qL (yB QY hr.m yQ (zA (pv 2) zC))) (zQ (i:=4) sc.nd rfl (Or.inl rfl))
    (zD (yI (y9 (zX (K:=K) (zJ Qs hr.m (zA (pv 0) (zA (pv 3) (zA pe_str zC)))) (fun _=>rfl)))
     (zE (zL X0))
     zR)
    (zE (zP (i:=3) sc.nd rfl (Or.inl rfl) (pe_dget1 hr.units1 (zJ QZ hr.m (zA (pv 0) (zA (pv 3) zC))) (pv 4) ⟨rfl,rfl,rfl,rfl⟩)))))
   (zE (zL (pv 3)))))),?_⟩
  refine ⟨_,rfl,_,rfl,a,fp,S,.str x,_,rfl,sh,ok.th,rfl,fun q=>?_,fun q=>?_⟩
  rotate_left
  ·rcases h with ⟨_,rows,at_,_⟩|⟨_,kE⟩
   ·rw [isT at_] at q;cases q
   ·exact kE
  rcases h with ⟨d,rows,at_,tr,k⟩|⟨z,_⟩
  rotate_left
  ·rw [z] at q;cases q
  refine ⟨_,rfl,_,rfl,.str p,_,rfl,rfl,Zd pl,fun x' ex hx' l H1 e1 hl=>?_,fun z=>?_⟩
  rotate_left
  ·rw [show Xt (.str p)=IY p from rfl,hp] at z;cases z
  cases ex;have lc:=uV p;refine ⟨l,rfl,⟨_,hl⟩,kI (K:=K) (a:=l) (xs:=(labs p).map V.str) (fun i σ H'=>∃ o4 nm,σ=[some (.ref a),some (.str x),some (.str p),some (oV nm),o4]/\Same H1 H'/\nm=((labs p).take i).foldl (stepT S) (some x)/\∀ n,nm=some n->∃ e,Tree e S n) ⟨none,some x,rfl,Same.refl _,rfl,fun n hn=>⟨d,by cases hn;exact tr⟩⟩ (fun i σ H' _ h=>?_) ?_ ?_⟩
  ·obtain ⟨_,_,_,e2,_⟩:=h;exact e2.seq hl
  ·rintro i v σ H' hv ⟨o4,nm,rfl,e2,en,ht⟩;rw [Zl] at hv;obtain ⟨lb,hlb,rfl⟩:=ZM.mp hv;have etk:((labs p).take (i+1)).foldl (stepT S) (some x)=stepT S nm lb:=by rw [take_snoc hlb,Yw,←en];rfl
   have eall:atT S x (labs p)=((labs p).drop (i+1)).foldl (stepT S) (stepT S nm lb):=by
    unfold atT;rw [←etk,←Yw,ZX]
   refine ⟨_,rfl,_,rfl,a,fp,S,oDS nm,oV nm,"tree",rfl,sh.same (e1.trans e2),ok.th,by cases nm<;>rfl,_,rfl,?_⟩;have out:stepT S nm lb=none->Q .non H':=fun z=>by
    rw [z,kR] at eall;rw [eall] at k;exact k H' (e1.trans e2)
   cases nm with
   | none=>exact iteNT (out rfl)
   | some n =>
    rcases uW ok n with ⟨q1,rows',at'⟩|⟨q1,no⟩
    ·rw [show Uq S (oDS (some n)) "tree"=Uq S (.str n) "tree" from rfl,q1];obtain ⟨e,te⟩:=ht n rfl;have nd':(rows'.map (·.1)).Nodup/\∀ r∈rows',∃ e,Tree e S r.2:=by
      cases e with
      | zero=>exact absurd te (fun z=>z)
      | succ e =>
       rcases te with ⟨ls,z⟩|⟨rows2,z,h1,h2⟩
       ·cases z.thing ok at'
       ·cases z.thing ok at';exact ⟨lt_nd h1,fun r hr=>⟨e,(h2 r hr).2.1⟩⟩
     refine iteNF ⟨_,rfl,_,rfl,a,fp,S,n,rows',rfl,sh.same (e1.trans e2),ok,at',nd'.1,fun l2 nl2=>?_⟩;have u2:=zF (o:=.dK (rkv rows')) nl2;refine ⟨l2,rfl,.inl ⟨_,.inl zB⟩,_,rfl,_,DGet.k (k:=.inr lb) zB,?_⟩;have ev:((Uh (rkv rows') (.inr lb)).getD .non)=oV (rowAt rows' lb):=by
      rw [rkv_val];cases rowAt rows' lb<;>rfl
     rw [ev];refine ⟨_,rowAt rows' lb,rfl,e2.trans u2,by rw [etk,Xj ok at'],fun m hm=>?_⟩;exact nd'.2 _ (GZ hm)
    ·rw [show Uq S (oDS (some n)) "tree"=Uq S (.str n) "tree" from rfl,q1];exact iteNT (out (Id no lb))
  ·rintro σ H' ⟨o4,nm,rfl,e2,en,ht⟩;rw [Q5,ZA] at en;refine ⟨_,rfl,?_⟩;rw [show nm=atT S x (labs p) from en];exact k H' (e1.trans e2)
end t_found_at
end
end An06
namespace L2
open PySem PySem.Spec PyProof.Rows PySem.W
section
variable {X:Cx}
def tThawR (H₀:Hp)(t:TS):TS:=fun D σ H=>t { D with nx:=fun σ' H'=>∃ d ob kvs,H' d=some (.frz ob (.dK kvs))/\(∀ o u,H₀ d≠some (.frz o u))/\D.nx σ' (upd H' d (.dK kvs)),rt:=fun v H'=>∃ d ob kvs,H' d=some (.frz ob (.dK kvs))/\(∀ o u,H₀ d≠some (.frz o u))/\D.rt v (upd H' d (.dK kvs)) } σ H
theorem ps_thawR {st:Stmt}{t:TS}(h:PS X st t):PS X st (tThawR X.H₀ t):=by
 intro pins s σ H D I q;refine thn (h pins s σ H _ I q) fun f s1 z=>?_;cases f with
 | next =>
  obtain ⟨σ',H',I',d,ob,kvs,hd,n0,q⟩:=z;exact ⟨σ',_,I'.thaw hd n0,q⟩
 | ret v =>
  obtain ⟨x,σ',H',I',r,d,ob,kvs,hd,n0,q⟩:=z;exact ⟨x,σ',_,I'.thaw hd n0,r,q⟩
 | brk=>exact z
 | cont=>exact z
end
end L2
namespace An06
open PySem L2 An
seal L2.PS L2.PSs L2.PE L2.PT L2.PW L2.PA L2.PG L2.PGs L2.PI L2.PFi L2.PC
def MenuP (p:Nat->Bool)(n:Nat)(x:Str):Prop:=(cs x).length=n/\(cs x).all p=true
theorem MenuP.at {p:Nat->Bool}{n:Nat}{x:Str}(h:MenuP p n x){i:Int}(h0:0<=i)(h1:i<n):∃ c,atI x.cps.toList i=some c/\p c=true:=by
 obtain ⟨j,rfl⟩:=Jh h0;have hj:j<(cs x).length:=by rw [h.1];omega
 exact ⟨(cs x)[j],xI (Zj hj),ZI.mp h.2 _ (Yz hj)⟩
theorem MenuP.len {p:Nat->Bool}{n:Nat}{x:Str}(h:MenuP p n x)(hn:n<=1000):x.length<=sizeLine:=le_line (by rw [length_cs,h.1];omega)
def cellZ (ns:List Int)(k:Int):Int:=ns.getD k.toNat 0
def spCellA (K:ZZF):Sp:=fun vs H Q _=>∃ (a:Addr) (ns:List Int) (k:Int),vs=[.ref a,.int k]/\SqL K H a (ns.map V.int)/\0<=k/\Q (.int (cellZ ns k)) H
def menuZ:Str:=" !\"#$&'()*+,-./0123456789:;<=>?@ABCDEFGHIJKLMNOPQRSTUVWXYZ[\\]^_`"++"abcdefghijklmnopqrstuvwxyz{|}~"
def sizeZ (c:Int):Int:=if c / 4 % 9=1 then 17+c / 36 % 4 else c % 4
def sgZ (c:Int)(i:Nat):Nat:=(atI menuZ.cps.toList ((c / 4*(0+(i:Int)+1)+c / 7+5*(0+(i:Int))) % 94)).getD 0
def lnZ (c:Int)(n:Nat):List Nat:=(List.range n).map (sgZ c)
def lineZ (c:Int):Str:=⟨(lnZ c (sizeZ c).toNat).toArray⟩
theorem lnZ_succ (c:Int)(n:Nat):lnZ c (n+1)=lnZ c n++[sgZ c n]:=by
 unfold lnZ;rw [Ud,Zf];rfl
theorem cs_lineZ (c:Int):cs (lineZ c)=lnZ c (sizeZ c).toNat:=rfl
def B0:Sp:=fun vs H Q _=>∃ c,vs=[.int c]/\∀ x H',UM x=true->x=lineZ c->Same H H'->Q (.str x) H'
theorem cs_upto (x:Str)(n:Nat):cs (Txt.slice x none (some (n:Int)))=(cs x).take n:=cs_to x n
theorem over_law2 {x y:Str}:decide (Txt.slice y none (some ((x.length:Int)+1))=x++"/")=Ul x y:=by
 have e47:cs ("/":Str)=[47]:=by decide +kernel
 have en:((x.length:Int)+1)=((x.length+1:Nat):Int):=by omega
 rw [ZU,Zq,over_cs,en];have ee:Txt.slice y none (some ((x.length+1:Nat):Int))=x++"/"↔(cs y).take ((cs x).length+1)=cs x++[47]:=by
  rw [←e47,←cs_append,←length_cs,←cs_upto];exact ⟨fun z=>by rw [z],fun z=>cs_inj z⟩
 rw [ee];constructor
 ·intro h;refine ⟨(cs y).drop ((cs x).length+1),?_⟩;have:=ZX ((cs x).length+1) (cs y);rw [h,Z2] at this;exact this.symm
 ·rintro ⟨t,h⟩;rw [h,show cs x++47::t=(cs x++[47])++t by simp,List.take_left' (by simp)]
def LbOk (ls:List Str):Prop:=ls≠[]/\ls.length<=4/\∀ l∈ls,zS l=true
def Im:Sp:=fun vs H Q _=>∃ c,vs=[.int c]/\∀ ls H',LbOk ls->Same H H'->Q (.str (pth ls)) H'
def spOver:Sp:=fun vs H Q _=>∃ x y:Str,vs=[.str x,.str y]/\x.length<=1000/\y.length<=1000/\Q (.bl (Ul x y)) H
def spFree (K:ZZF):Sp:=fun vs H Q _=>∃ (c:Addr) (kvs:List (Key×V)) (fs:List Fi) (p:Str),vs=[.ref c,.str p]/\H c=some (.dK kvs)/\kvs.map (·.1)=fs.map (fun f=>(.inr (pth f.1):Key))/\(∀ f∈fs,(pth f.1).length<=1000)/\p.length<=1000/\∀ H',Same H H'->Q (.bl (fs.all fun f=>!(Ul (pth f.1) p||Ul p (pth f.1)))) H'
def linesZ (c:Int):List Str:=(List.range (c % 3).toNat).map fun (k:Nat)=>lineZ (c / 3+7*(0+(k:Int)))
def UY (K:ZZF):Sp:=fun vs H Q _=>∃ c,vs=[.int c]/\∀ p ls H',Same H H'->H' p=some (.tup (ls.map V.str))->Uv ls->ls=linesZ c->Q (.ref p) H'
theorem menu_low:MenuP Uy 26 "abcdefghijklmnopqrstuvwxyz":=⟨by decide +kernel,by decide +kernel⟩
theorem mul7:Txt.mul "a" 7="aaaaaaa":=by decide +kernel
section
variable {P:Program}{w:World}{K:ZZF}{mg:Str->Option Value}{base:Heap}{t1 t2 t3 t4 t5 t6 t7:Tok}{aL aC aN aT aA b1 b2:Addr}
namespace h_cell
abbrev st:Stmt:=top 55
theorem sc:FnScope ["_law_script","_law_k"] ["_law_script","_law_k"] (zG st):=QS0
theorem ok {f:Addr}{fd:FuncData}(F:Fun K "_law_cell_at" "_law_cell_at" st f fd)(T:Txt P w K mg t1 t2 t3 t4 t5 t6 t7 aL aC aN aT aA b1 b2):FnOk P w K mg base CX0 1 f fd ["_law_script","_law_k"] (spCellA K):=by
 refine F.ok sc (fun vs H Q E h=>?_) (fun cdv A outer s H vs Q E hr h=>?_)
 ·obtain ⟨a,ns,k,rfl,_⟩:=h;rfl
 ·obtain ⟨a,ns,k,rfl,hs,h0,q⟩:=h;refine ⟨_,(zD (yI (zW op_lt (pv 1) (zK zY (by rfl) T.len ZS (zA (pv 0) zC)) (zT _))
    (zE (zL (z8 (ix_list:IxR _ (rIxL K)) (pv 0) (pv 1) (fun _ _=>rfl))))
    zR)
   (zE (zL zI))),?_⟩
  refine ⟨_,rfl,_,rfl,a,_,rfl,.inl hs,_,_,rfl,rfl,_,rfl,Uk (fun h=>?_) (fun h=>?_)⟩
  ·have h1:k<ns.length:=by simpa using h
   have hj:k.toNat<ns.length:=by omega
   have hn:atI (ns.map V.int) k=some (.int (cellZ ns k)):=by
    have e:((k.toNat:Nat):Int)=k:=Int.toNat_of_nonneg h0
    conv=>lhs;rw [←e]
    refine xI ?_;rw [Zl,Zj hj];unfold cellZ;rw [Z9,Zj hj];rfl
   exact ⟨_,rfl,_,rfl,a,_,_,_,rfl,rfl,hs,hn,q⟩
  ·have h1:¬k<ns.length:=by simpa using h
   have e:cellZ ns k=0:=by
    unfold cellZ;rw [Z9,JR.mpr (by omega)];rfl
   rw [e] at q;exact q
end h_cell
namespace h_line
abbrev st:Stmt:=top 56
theorem sc:FnScope ["_law_cell","_law_some","_law_size"] ["_law_cell"] (zG st):=QS0
theorem ok {f:Addr}{fd:FuncData}(F:Fun K "_law_line_by" "_law_line_by" st f fd)(T:Txt P w K mg t1 t2 t3 t4 t5 t6 t7 aL aC aN aT aA b1 b2):FnOk P w K mg base CX0 1 f fd ["_law_cell"] B0:=by
 refine F.ok sc (fun vs H Q E h=>?_) (fun cdv A outer s H vs Q E hr h=>?_)
 ·obtain ⟨c,rfl,_⟩:=h;rfl
 ·obtain ⟨c,rfl,k⟩:=h;refine ⟨_,(zD (zP (i:=1) sc.nd rfl (Or.inr rfl) pe_str)
   (zD (zP (i:=1) sc.nd rfl (Or.inr rfl) (z7 yG (pv 1) pe_str))
   (zD (zP (i:=2) sc.nd rfl (Or.inl rfl) (z7 jL (pv 0) zI))
   (kU (yI (zW xR (z7 jL (z7 jJ (pv 0) zI) zI) zI (zT _))
    (zE (zP (i:=2) sc.nd rfl (Or.inl rfl) (z7 qA zI (z7 jL (z7 jJ (pv 0) zI) zI))))
    zR)
   (zE (zL (k9 Z0 Jx Jy XT pe_str (zA (y6 (sc:=zG st) (N:=["_law_cell","_law_some","_law_size"]) (N':=["_law_k","_law_some","_law_cell"]) (src:=[none,some 1,some 0]) ⟨by decide +kernel,rfl,rfl,by decide +kernel,by decide +kernel,by decide +kernel,by decide +kernel⟩ rfl rfl rfl (kH rfl T.range (zA (pv 2) zC)) (fun _ _ _ _=>(zQ (i:=0) (show (["_law_k","_law_some","_law_cell"]:List Str).Nodup by decide +kernel) rfl (Or.inl rfl))) (fun _ _ _ _=>xU) (fun _ _ _ _=>(z8 ix_str (pv 1) (z7 jL (z7 qA (z7 qA (z7 vP (z7 jJ (pv 2) zI) (z7 qA (pv 0) zI)) (z7 jJ (pv 2) zI)) (z7 vP zI (pv 0))) zI) (fun _ _=>rfl)))) zC)))))))),?_⟩
  refine ⟨_,rfl,_,_,rfl,rfl,le_line (by decide +kernel),_,rfl,_,_,rfl,rfl,(by show (0:Int)<4;decide),fun σ' H'=>∃ n S,σ'=[some (.int c),some (.str S),some (.int n)]/\H'=H/\0<=n/\n<=20/\n=sizeZ c/\S=menuZ/\MenuP Uw 94 S,?_,?_⟩
  ·refine ⟨_,rfl,_,_,rfl,rfl,⟨by decide,by decide⟩,_,_,rfl,rfl,(by show (0:Int)<9;decide),rfl,_,rfl,Uk (fun z=>?_) (fun z=>?_)⟩
   ·have z:c / 4 % 9=1:=by simpa using z
    exact ⟨_,rfl,_,_,rfl,rfl,⟨by decide,by decide⟩,_,_,rfl,rfl,(by show (0:Int)<4;decide),_,_,rfl,rfl,_,_,rfl,rfl,by omega,by omega,by unfold sizeZ;rw [Zz z],rfl,by decide +kernel,by decide +kernel⟩
   ·have z:¬c / 4 % 9=1:=by simpa using z
    exact ⟨_,_,rfl,rfl,by omega,by omega,by unfold sizeZ;rw [Zy z],rfl,by decide +kernel,by decide +kernel⟩
  ·rintro σ' H' ⟨n,S,rfl,rfl,h0,h20,en,eS,hS⟩;refine ⟨rfl,_,rfl,n,rfl,by omega,by omega,jZ (fun i ys σ H2=>∃ x l,σ=[x,some (.str S),some (.int c)]/\H2=H'/\ys=(l.map one).map V.str/\l.length=i/\l=lnZ c i/\∀ c∈l,Uw c=true) ⟨none,[],rfl,rfl,rfl,rfl,rfl,fun c hc=>nomatch hc⟩ (le_line (by omega))
    (fun i ys σ H2 hi ⟨x,l,_,_,ey,el,_,_⟩=>by rw [ey,Q5,Q5,el];exact Ze _) ?_ ?_⟩
   ·rintro i ys σ H2 hi ⟨x,l,rfl,rfl,rfl,rfl,lz,al⟩;refine ⟨_,rfl,_,rfl,_,_,rfl,rfl,⟨by decide,by decide⟩,_,rfl,_,_,rfl,rfl,_,_,rfl,rfl,.inr ⟨by omega,by omega⟩,_,rfl,_,_,rfl,rfl,⟨by decide,by decide⟩,_,_,rfl,rfl,_,rfl,_,_,rfl,rfl,.inl ⟨by decide,by decide⟩,_,_,rfl,rfl,_,_,rfl,rfl,(by show (0:Int)<94;decide),?_⟩;obtain ⟨d,hd1,hd2⟩:=hS.at (i:=(c / 4*(0+((l.length:Nat):Int)+1)+c / 7+5*(0+((l.length:Nat):Int))) % 94) (by omega) (by omega);refine ⟨S,_,d,rfl,rfl,hS.len (by decide),hd1,_,l++[d],rfl,rfl,?_,by simp,?_,vD al hd2⟩
    ·rw [Zf,Zf];rfl
    ·rw [lnZ_succ,←lz]
     congr 2
     unfold sgZ;rw [←eS,hd1];rfl
   ·rintro ys σ H2 ⟨x,l,rfl,rfl,rfl,el,lz,al⟩ p np;have c0:("":Str).length=0:=by decide +kernel
    refine ⟨_,p,l.map one,rfl,rfl,.inl (SqL.of zB),by rw [sum_ones,c0];omega,k _ _ (line_parts.mpr ⟨?_,?_⟩) (cs_inj (by rw [jX,cs_lineZ,←en];exact lz)) (zF np)⟩
    ·rw [length_cs,jX];omega
    ·rw [jX,ZI];exact al
end h_line
namespace g_over
abbrev st:Stmt:=top 58
theorem sc:FnScope ["_law_one","_law_other"] ["_law_one","_law_other"] (zG st):=QS0
theorem ok {f:Addr}{fd:FuncData}(F:Fun K "_law_over" "_law_over" st f fd)(T:Txt P w K mg t1 t2 t3 t4 t5 t6 t7 aL aC aN aT aA b1 b2):FnOk P w K mg base CX0 1 f fd ["_law_one","_law_other"] spOver:=by
 refine F.ok sc (fun vs H Q E h=>?_) (fun cdv A outer s H vs Q E hr h=>?_)
 ·obtain ⟨x,y,rfl,_⟩:=h;rfl
 ·obtain ⟨x,y,rfl,hx,hy,k⟩:=h;refine ⟨_,(zE (zL (yH xR (jM sl_str (pv 1) XG (jI (z7 qA (zK x8 (by rfl) T.len ZS (zA (pv 0) zC)) zI))) (z7 yG (pv 0) pe_str) (zT _)))),?_⟩;have e1:("/":Str).length=1:=by decide +kernel
  rw [←over_law2] at k;refine ⟨_,rfl,_,rfl,x,rfl,le_line (by omega),_,_,rfl,rfl,_,rfl,_,rfl,le_line (by omega),_,rfl,_,_,rfl,rfl,le_line (by rw [e1];omega),rfl,?_⟩;have ed:decide (V.str (Txt.slice y none (some ((x.length:Int)+1)))=V.str (x++"/"))=decide (Txt.slice y none (some ((x.length:Int)+1))=x++"/"):=by
   rw [ZU,Zq,Zq,V.str.injEq]
  rw [←ed] at k;exact k
end g_over
namespace g_lines
abbrev st:Stmt:=top 60
theorem sc:FnScope ["_law_cell"] ["_law_cell"] (zG st):=QS0
theorem ok {f:Addr}{fd:FuncData}(F:Fun K "_law_lines_by" "_law_lines_by" st f fd)(T:Txt P w K mg t1 t2 t3 t4 t5 t6 t7 aL aC aN aT aA b1 b2)(Q0:Cal P w K mg base 1 "_law_line_by" ["_law_cell"] B0):FnOk P w K mg base CX0 2 f fd ["_law_cell"] (UY K):=by
 refine F.ok sc (fun vs H Q E h=>?_) (fun cdv A outer s H vs Q E hr h=>?_)
 ·obtain ⟨c,rfl,_⟩:=h;rfl
 ·obtain ⟨c,rfl,k⟩:=h;refine ⟨_,(zE (zL (zZ kT (by rfl) T.tuple Yj (zA (y6 (sc:=zG st) (N:=["_law_cell"]) (N':=["_law_k","_law_cell"]) (src:=[none,some 0]) ⟨by decide +kernel,rfl,rfl,by decide +kernel,by decide +kernel,by decide +kernel,by decide +kernel⟩ rfl rfl rfl (kH rfl T.range (zA (z7 jL (pv 0) zI) zC)) (fun _ _ _ _=>(zQ (i:=0) (show (["_law_k","_law_cell"]:List Str).Nodup by decide +kernel) rfl (Or.inl rfl))) (fun _ _ _ _=>xU) (fun _ _ _ _=>(zJ Q0 hr.m (zA (z7 qA (z7 jJ (pv 1) zI) (z7 vP zI (pv 0))) zC)))) zC)))),?_⟩;have h0:0<=c % 3:=by omega
  have h3:c % 3<3:=by omega
  refine ⟨_,rfl,_,_,rfl,rfl,(by decide:(0:Int)<3),_,rfl,by omega,by omega,jZ (fun i ys σ H2=>∃ o ls,σ=[o,some (.int c)]/\Same H H2/\ys=ls.map V.str/\ls.length=i/\ls=(List.range i).map (fun (k:Nat)=>lineZ (c / 3+7*(0+(k:Int))))/\∀ l∈ls,UM l=true) ⟨none,[],rfl,Same.refl _,rfl,rfl,rfl,fun l hl=>(nomatch hl)⟩ (le_line (by omega)) ?_ ?_ ?_⟩
  ·rintro i ys σ H2 hi ⟨o,ls,rfl,e2,rfl,ll,_,_⟩;rw [Q5,ll];exact Ze _
  ·rintro i ys σ H2 hi ⟨o,ls,rfl,e2,rfl,ll,lz,lo⟩;refine ⟨_,rfl,_,_,rfl,rfl,⟨by decide,by decide⟩,_,rfl,_,_,rfl,rfl,.inl ⟨by decide,by decide⟩,_,_,rfl,rfl,_,rfl,fun x H3 hx ex s3=>⟨_,ls++[x],rfl,e2.trans s3,by rw [Zf];rfl,by rw [Zh,ll];rfl,by rw [Ud,Zf,←lz,ex];rfl,vD lo hx⟩⟩
  ·rintro ys σ H2 ⟨o,ls,rfl,e2,rfl,ll,lz,lo⟩ p np;refine ⟨p,_,rfl,.inl ⟨SqL.of zB,fun p2 n2=>?_⟩⟩;exact k p2 ls _ ((e2.trans (zF np)).trans (zF n2)) zB ⟨by omega,lo⟩ lz
end g_lines
namespace g_free
abbrev st:Stmt:=top 59
theorem sc:FnScope ["_law_files","_law_path","_law_other"] ["_law_files","_law_path"] (zG st):=QS0
theorem ok {f:Addr}{fd:FuncData}(F:Fun K "_law_free" "_law_free" st f fd)(T:Txt P w K mg t1 t2 t3 t4 t5 t6 t7 aL aC aN aT aA b1 b2)(QB:Cal P w K mg base 1 "_law_over" ["_law_one","_law_other"] spOver):FnOk P w K mg base CX0 2 f fd ["_law_files","_law_path"] (spFree K):=by
 refine F.ok sc (fun vs H Q E h=>?_) (fun cdv A outer s H vs Q E hr h=>?_)
 ·obtain ⟨c,kvs,fs,p,rfl,_⟩:=h;rfl
 ·obtain ⟨c,kvs,fs,p,rfl,hc,ky,fl,pl,k⟩:=h;refine ⟨_,(zD (ps_thawR (yW PassesOwn.never rfl (vO (uM (pv 0))) (zQ (i:=2) sc.nd rfl (Or.inl rfl))
    (zE (yI (PW.pt (j8 (zX (K:=K) (zJ QB hr.m (zA (pv 2) (zA (pv 1) zC))) (fun _=>rfl)) (qZ (zX (K:=K) (zJ QB hr.m (zA (pv 1) (zA (pv 2) zC))) (fun _=>rfl)))))
     (zE (zL x5))
     zR))))
   (zE (zL x5))),?_⟩
  refine ⟨_,rfl,c,kvs,rfl,hc,fun ob=>?_⟩;have kl:kvs.length=fs.length:=by
   have:=congrArg List.length ky;rw [Q5,Q5] at this;exact this
  have hc1:upd H c (.frz ob (.dK kvs)) c=some (.frz ob (.dK kvs)):=zB;have n0:∀ o u,H c≠some (.frz o u):=fun o u z=>by rw [hc] at z;cases z
  refine ⟨c,ob,kvs,rfl,hc1,vC (fun i σ H2=>∃ o2,σ=[some (.ref c),some (.str p),o2]/\Same (upd H c (.frz ob (.dK kvs))) H2/\((fs.take i).all fun f=>!(Ul (pth f.1) p||Ul p (pth f.1)))=true) ⟨none,rfl,Same.refl _,rfl⟩ (fun i σ H2 hi ⟨_,_,e2,_⟩=>e2 _ _ hc1) ?_ ?_⟩
  ·rintro i kk v σ H2 hi ⟨o2,rfl,e2,al⟩;have hl:=(Zr.mp hi).1;have hf:=Zj (l:=fs) (i:=i) (by rw [←kl];exact hl);have ek:=congrArg (fun l=>l[i]?) ky;simp only [Zl,hi,hf,Yp] at ek;have ek:kk=.inr (pth fs[i].1):=Option.some.inj ek;generalize fs[i]=f at hf ek;subst ek;have fl':=fl f (Zk hf);have bad:(Ul (pth f.1) p||Ul p (pth f.1))=true->(fs.all fun f=>!(Ul (pth f.1) p||Ul p (pth f.1)))=false:=fun z=>by
    rw [YC];intro q;have:=ZI.mp q f (Zk hf);rw [z] at this;cases this
   have out:(Ul (pth f.1) p||Ul p (pth f.1))=true->∃ d ob kvs,H2 d=some (.frz ob (.dK kvs))/\(∀ o u,H d≠some (.frz o u))/\Q (.bl false) (upd H2 d (.dK kvs)):=fun z=>⟨c,ob,kvs,e2 _ _ hc1,n0,by
    rw [bad z] at k;exact k _ (kS hc e2)⟩
   refine ⟨_,rfl,_,rfl,pth f.1,p,rfl,fl',pl,_,rfl,Uk (fun z=>Uf (out (by rw [z];rfl))) (fun z=>?_)⟩;refine ⟨_,rfl,_,rfl,p,pth f.1,rfl,pl,fl',_,rfl,Uk (fun z2=>out (by rw [z2,Bool.or_true])) (fun z2=>⟨_,rfl,e2,?_⟩)⟩;rw [take_snoc hf,Uc,al];show (true&&(!(Ul (pth f.1) p||Ul p (pth f.1))&&true))=true;rw [YC.mpr z,YC.mpr z2];rfl
  ·rintro σ H2 ⟨o2,rfl,e2,al⟩;rw [kl,ZA] at al;refine ⟨c,ob,kvs,e2 _ _ hc1,n0,?_⟩;rw [al] at k;exact k _ (kS hc e2)
end g_free
theorem pick4 {a b c d:Str}{i:Int}(h0:0<=i)(h1:i<4):∃ x,atI [V.str a,V.str b,V.str c,V.str d] i=some (.str x)/\(x=a\/x=b\/x=c\/x=d):=by
 match i,h0,h1 with
 | 0,_,_=>exact ⟨a,rfl,.inl rfl⟩
 | 1,_,_=>exact ⟨b,rfl,.inr (.inl rfl)⟩
 | 2,_,_=>exact ⟨c,rfl,.inr (.inr (.inl rfl))⟩
 | 3,_,_=>exact ⟨d,rfl,.inr (.inr (.inr rfl))⟩
theorem long_label {d:Nat}(h:Uy d=true):zS ("aaaaaaa"++⟨#[d]⟩)=true:=by
 have e:cs ("aaaaaaa"++(⟨#[d]⟩:Str))=[97,97,97,97,97,97,97,d]:=by
  rw [cs_append,show cs ("aaaaaaa":Str)=[97,97,97,97,97,97,97] by decide +kernel];rfl
 refine label_parts.mpr ⟨by rw [length_cs,e];show 1<=8;decide,by rw [length_cs,e];show 8<=8;decide,?_⟩;rw [e];show (Uy 97&&(Uy 97&&(Uy 97&&(Uy 97&&(Uy 97&&(Uy 97&&(Uy 97&&(Uy d&&true))))))))=true;rw [h];rfl
namespace g_path
abbrev st:Stmt:=top 57
theorem sc:FnScope ["_law_cell","_law_letters","_law_labels","_law_k","_law_label"] ["_law_cell"] (zG st):=QS0
theorem ok {f:Addr}{fd:FuncData}(F:Fun K "_law_path_by" "_law_path_by" st f fd)(T:Txt P w K mg t1 t2 t3 t4 t5 t6 t7 aL aC aN aT aA b1 b2):FnOk P w K mg base CX0 1 f fd ["_law_cell"] Im:=by
 refine F.ok sc (fun vs H Q E h=>?_) (fun cdv A outer s H vs Q E hr h=>?_)
 ·obtain ⟨c,rfl,_⟩:=h;rfl
 ·obtain ⟨c,rfl,k⟩:=h;refine ⟨_,(zD (zP (i:=1) sc.nd rfl (Or.inl rfl) pe_str)
   (zD (zP (i:=2) sc.nd rfl (Or.inl rfl) (qY zC))
   (zD (yW PassesOwn.never rfl (kH rfl T.range (zA (z7 qA zI (z7 jL (pv 0) zI)) zC)) (zQ (i:=3) sc.nd rfl (Or.inl rfl))
    (zD (zP (i:=4) sc.nd rfl (Or.inl rfl) (z8 (ix_list:IxR _ (rIxL K)) (qY (zA pe_str (zA pe_str (zA pe_str (zA (z7 yG (z7 op_mulS pe_str zI) (z8 ix_str (pv 1) (z7 jL (z7 jJ (pv 0) zI) zI) (fun _ _=>rfl))) zC))))) (z7 jL (z7 jJ (pv 0) (z7 qA zI (z7 vP zI (pv 3)))) zI) (fun _ _=>rfl)))
    (zE (yP (k9 Vc JY JZ U3 (pv 2) (zA (pv 4) zC))))))
   (zE (zL (k9 Z0 Jx Jy XT pe_str (zA (pv 2) zC))))))),?_⟩
  refine ⟨ZJ _,fun l0 nl0=>?_⟩;have u0:=zF (o:=.lst []) nl0;have h0:0<=c % 4:=by omega
  have h4:c % 4<4:=by omega
  refine ⟨_,rfl,_,_,rfl,rfl,(by decide:(0:Int)<4),_,_,rfl,rfl,_,rfl,by omega,by omega,GX (lo:=0) (n:=(1+c % 4).toNat) (fun i σ H'=>∃ o3 o4 ls,σ=[some (.int c),some (.str "abcdefghijklmnopqrstuvwxyz"),some (.ref l0),o3,o4]/\Same H H'/\H' l0=some (.lst (ls.map V.str))/\ls.length=i/\∀ l∈ls,zS l=true) ⟨none,none,[],rfl,u0,zB,rfl,fun l hl=>(nomatch hl)⟩ ?_ ?_⟩
  ·rintro i σ H' hi ⟨o3,o4,ls,rfl,e,hl,ll,lo⟩;have hi:i<4:=by omega
   obtain ⟨d,hd1,hd2⟩:=menu_low.at (i:=c / 64 % 26) (by omega) (by omega);have ml:MulOk "a" 7:=⟨by decide,fun _ _=>by decide,fun _ _=>by decide⟩;have l8:("aaaaaaa":Str).length=7:=by decide +kernel
   refine ⟨"a",7,rfl,rfl,ml,?_⟩;rw [mul7];refine ⟨_,rfl,_,rfl,_,_,rfl,rfl,⟨by decide,by decide⟩,_,_,rfl,rfl,(by decide:(0:Int)<26),_,_,d,rfl,rfl,menu_low.len (by decide),hd1,_,_,rfl,rfl,le_line (by rw [l8];show 7+1<=_;decide),Um 4,fun p np=>?_⟩;have up:=zF (o:=.lst [V.str "a",V.str "b",V.str "ab",V.str ("aaaaaaa"++⟨#[d]⟩)]) np;refine ⟨_,rfl,_,rfl,_,_,rfl,rfl,.inl ⟨by decide,by decide⟩,_,_,rfl,rfl,_,_,rfl,rfl,⟨by omega,by omega⟩,_,_,rfl,rfl,(by decide:(0:Int)<4),?_⟩;obtain ⟨x,hx,xc⟩:=pick4 (a:="a") (b:="b") (c:="ab") (d:="aaaaaaa"++⟨#[d]⟩) (i:=c / (4+12*(0+(i:Int))) % 4) (Int.emod_nonneg _ (by decide)) (Int.emod_lt_of_pos _ (by decide));have lx:zS x=true:=by
    rcases xc with z|z|z|z
    ·rw [z];decide +kernel
    ·rw [z];decide +kernel
    ·rw [z];decide +kernel
    ·rw [z];exact long_label hd2
   refine ⟨p,_,_,_,rfl,rfl,SqL.of zB,hx,?_⟩;have hl2:=up _ _ hl;refine ⟨_,rfl,.inl ⟨rfl,_,SqL.of hl2⟩,_,rfl,l0,_,_,rfl,rfl,hl2,yR (by rw [Q5];omega),_,_,ls++[x],rfl,An.Same.updF (e.trans up) nl0,by rw [zB,Zf];rfl,by rw [Zh,ll];rfl,vD lo lx⟩
  ·rintro σ H' ⟨o3,o4,ls,rfl,e,hl,ll,lo⟩;have e1:("/":Str).length=1:=by decide +kernel
   have l4:ls.length<=4:=by omega
   refine ⟨rfl,_,rfl,"/",l0,ls,rfl,rfl,.inl (SqL.of hl),?_,k ls H' ⟨fun z=>?_,l4,lo⟩ e⟩
   ·have:=Bz (n:=8) ls (fun y hy=>(label_parts.mp (lo y hy)).2.1);rw [e1];omega
   ·rw [z] at ll;have ll:0=(1+c % 4).toNat:=ll;omega
end g_path
end
end An06
namespace An
open PySem L2 AnJ
def Ut (fs:List Fi)(f:Fi):List Fi:=if f.1∈fs.map (·.1) then fs.map (fun g=>if g.1=f.1 then f else g) else fs++[f]
theorem IP (fs:List Fi)(f:Fi):(Ut fs f).map (·.1)=if f.1∈fs.map (·.1) then fs.map (·.1) else fs.map (·.1)++[f.1]:=by
 unfold Ut
 split
 ·rw [Zt];refine ZW fun g _=>?_;show (if g.1=f.1 then f else g).1=g.1
  split
  ·rename_i z;exact z.symm
  ·rfl
 ·rw [Zf];rfl
theorem j9 {fs:List Fi}{f k:Fi}(h:k∈Ut fs f):k∈fs\/k=f:=by
 unfold Ut at h
 split at h
 ·obtain ⟨g,hg,e⟩:=Za.mp h
  split at e
  ·exact .inr e.symm
  ·exact .inl (e▸hg)
 ·rcases Zs.mp h with z|z
  ·exact .inl z
  ·exact .inr (Q7.mp z)
theorem U9 (fs:List Fi)(f:Fi):(Ut fs f).length<=fs.length+1:=by
 unfold Ut
 split
 ·rw [Q5];exact JB _
 ·rw [Zh];exact Ze _
theorem pth_app {a t:List Str}(ha:a≠[])(ht:t≠[]):pth (a++t)=pth a++"/"++pth t:=cs_inj (by
 have e:cs ("/":Str)=[47]:=by decide +kernel
 unfold pth;rw [qE,Zf,jn_app (by simpa using ha) (by simpa using ht),cs_append,cs_append,qE,qE,e];simp)
theorem GoodF.put {fs:List Fi}(g:GoodF 4 fs){f:Fi}(h0:f.1≠[])(h4:f.1.length<=4)(hl:∀ l∈f.1,zS l=true)(hn:Uv f.2)(fr:∀ k∈fs,Ul (pth k.1) (pth f.1)=false/\Ul (pth f.1) (pth k.1)=false):GoodF 4 (Ut fs f):=by
 have ov:∀ {a b t:List Str},a≠[]->b=a++t->Ul (pth a) (pth b)=false->t=[]:=fun {a b t} ha e z=>by
  rcases Classical.em (t=[]) with q|q
  ·exact q
  ·rw [e,pth_app ha q,over_app] at z;cases z
 refine ⟨fun k hk=>?_,?_,fun k hk m hm t e=>?_⟩
 ·rcases j9 hk with z|z
  ·exact g.lab k z
  ·rw [z];exact ⟨h0,h4,hl,hn⟩
 ·rw [IP]
  split
  ·exact g.nd
  ·rename_i z;exact jB g.nd z
 ·rcases j9 hk with z|z<;>rcases j9 hm with y|y
  ·exact g.pre k z m y t e
  ·rw [y] at e;exact ov (g.lab k z).1 e (fr k z).1
  ·rw [z] at e;exact ov h0 e (fr m y).2
  ·rw [z,y] at e;have:=congrArg List.length e;rw [Zh] at this;exact Yd (by omega)
theorem FsAt.put {K:ZZF}{H:Hp}{fs:List Fi}{kvs:List (Key×V)}(h:FsAt K H fs kvs){n:Nat}(g:GoodF n fs){f:Fi}{v:V}(h0:f.1≠[])(hl:∀ l∈f.1,zS l=true)(hv:Dt K H (tupS f.2) v)(hn:Uv f.2):FsAt K H (Ut fs f) (putK kvs (.inr (pth f.1)) v):=by
 have key:∀ k∈fs,((.inr (pth k.1):Key)=.inr (pth f.1))↔k.1=f.1:=fun k hk=>⟨fun z=>j4 (d:=0) (g.lab k hk).1 h0 (g.lab k hk).2.2.1 hl (Sum.inr.inj z),fun z=>by rw [z]⟩
 by_cases z:f.1∈fs.map (·.1)
 ·have hin:∃ k∈fs,k.1=f.1:=let ⟨k,hk,e⟩:=Za.mp z;⟨k,hk,e⟩;have ha:(kvs.any fun kv=>decide (kv.1=.inr (pth f.1)))=true:=by
   obtain ⟨k,hk,e⟩:=hin;have:(.inr (pth f.1):Key)∈kvs.map (·.1):=by rw [h.keys];exact Za.mpr ⟨k,hk,by rw [e]⟩
   obtain ⟨kv,m,e2⟩:=Za.mp this;exact Z7.mpr ⟨kv,m,Zd e2⟩
  unfold putK Ut;rw [Zz ha,Zz z];refine ⟨?_,fun i k kv a b=>?_⟩
  ·rw [Zt,Zt];have e1:kvs.map ((fun p=>p.1)∘fun kv=>if kv.1=.inr (pth f.1) then (kv.1,v) else kv)=kvs.map (·.1):=ZW fun kv _=>by
    show (if kv.1=.inr (pth f.1) then (kv.1,v) else kv).1=kv.1
    split<;>rfl
   rw [e1,h.keys];refine ZW fun k _=>?_;show (Sum.inr (pth k.1):Key)=.inr (pth (if k.1=f.1 then f else k).1)
   split
   ·rename_i q;rw [q]
   ·rfl
  ·rw [Zl] at a b;obtain ⟨k0,hk0,ek⟩:=ZM.mp a;obtain ⟨kv0,hkv0,ekv⟩:=ZM.mp b;have e1:=congrArg (fun l=>l[i]?) h.keys;simp only [Zl,hk0,hkv0,Yp] at e1;have e1:kv0.1=.inr (pth k0.1):=Option.some.inj e1
   by_cases q:k0.1=f.1
   ·rw [Zz q] at ek;rw [Zz (by rw [e1,q])] at ekv;rw [←ek,←ekv];exact ⟨hv,hn⟩
   ·rw [Zy q] at ek;rw [Zy (fun y=>q ((key k0 (Zk hk0)).mp (e1.symm.trans y)))] at ekv;rw [←ek,←ekv];exact h.val i k0 kv0 hk0 hkv0
 ·have nk:(.inr (pth f.1):Key)∉kvs.map (·.1):=fun y=>by
   rw [h.keys] at y;obtain ⟨k,hk,e⟩:=Za.mp y;exact z (Za.mpr ⟨k,hk,(key k hk).mp e⟩)
  rw [qV nk];unfold Ut;rw [Zy z];exact h.snoc hv hn
end An
namespace An06
open PySem L2 An
seal L2.PS L2.PSs L2.PE L2.PT L2.PW L2.PA L2.PG L2.PGs L2.PI L2.PFi L2.PC
def GY (K:ZZF):Sp:=fun vs H Q _=>∃ (l:Addr) (ns:List Int),vs=[.ref l]/\SqL K H l (ns.map V.int)/\ns.length<=50/\∀ c kvs fs H',Same H H'->H c=none->H' c=some (.dK kvs)->FsAt K H' fs kvs->GoodF 4 fs->List.length fs<=ns.length->Q (.ref c) H'
section
variable {P:Program}{w:World}{K:ZZF}{mg:Str->Option Value}{base:Heap}{t1 t2 t3 t4 t5 t6 t7:Tok}{aL aC aN aT aA b1 b2:Addr}
theorem vA {ls:List Str}(h4:ls.length<=4)(h:∀ l∈ls,zS l=true):(pth ls).length<=1000:=by
 have:=vH h;rw [length_cs];omega
namespace g_files
abbrev st:Stmt:=top 65
theorem sc:FnScope ["_law_cells","_law_files","_law_cell","_law_path"] ["_law_cells"] (zG st):=QS0
theorem ok {f:Addr}{fd:FuncData}(F:Fun K "_law_files_by" "_law_files_by" st f fd)(T:Txt P w K mg t1 t2 t3 t4 t5 t6 t7 aL aC aN aT aA b1 b2)(Qv:Cal P w K mg base 1 "_law_path_by" ["_law_cell"] Im)(Q1:Cal P w K mg base 2 "_law_free" ["_law_files","_law_path"] (spFree K))(Qh:Cal P w K mg base 2 "_law_lines_by" ["_law_cell"] (UY K)):FnOk P w K mg base CX0 3 f fd ["_law_cells"] (GY K):=by
 refine F.ok sc (fun vs H Q E h=>?_) (fun cdv A outer s H vs Q E hr h=>?_)
 ·obtain ⟨l,ns,rfl,_⟩:=h;rfl
 ·obtain ⟨l,ns,rfl,hl,n50,k⟩:=h;have hu:=X6 hr;refine ⟨_,(zD (zP (i:=1) sc.nd rfl (Or.inl rfl) xO)
   (zD (yW PassesOwn.never rfl (qL (pv 0)) (zQ (i:=2) sc.nd rfl (Or.inl rfl))
    (zD (zP (i:=3) sc.nd rfl (Or.inl rfl) (zJ Qv hr.m (zA (pv 2) zC)))
    (zE (yI (zX (K:=K) (zJ Q1 hr.m (zA (pv 1) (zA (pv 3) zC))) (fun _=>rfl))
     (zE (xF hu (pv 1) (pv 3) (zJ Qh hr.m (zA (z7 jJ (pv 2) zI) zC)) rfl))
     zR))))
   (zE (zL (pv 1))))),?_⟩
  refine fun c nc=>?_;have u0:=zF (o:=.dK []) nc;refine ⟨_,rfl,l,rfl,⟨_,u0.seq hl⟩,kI (K:=K) (a:=l) (xs:=ns.map V.int) (fun i σ H'=>∃ o2 o3 kvs fs,σ=[some (.ref l),some (.ref c),o2,o3]/\Same H H'/\H' c=some (.dK kvs)/\FsAt K H' fs kvs/\GoodF 4 fs/\fs.length<=i) ⟨none,none,[],[],rfl,u0,zB,FsAt.nil,⟨fun f hf=>(nomatch hf),YE,fun f hf=>(nomatch hf)⟩,ZJ _⟩ (fun i σ H' _ h=>?_) ?_ ?_⟩
  ·obtain ⟨_,_,_,_,_,e,_⟩:=h;exact e.seq hl
  ·rintro i v σ H' hv ⟨o2,o3,kvs,fs,rfl,e,hc,ff,gf,fl⟩;have il:=(Zr.mp hv).1;rw [Q5] at il;rw [Zl] at hv;obtain ⟨x,_,rfl⟩:=ZM.mp hv;refine ⟨_,rfl,x,rfl,fun ls H1 lb e1=>?_⟩;obtain ⟨l0,l4,ll⟩:=lb;have pl:=vA l4 ll;refine ⟨_,rfl,_,rfl,c,kvs,fs,pth ls,rfl,e1 _ _ hc,ff.keys,fun f hf=>vA (gf.lab f hf).2.1 (gf.lab f hf).2.2.1,pl,fun H2 e2=>⟨_,rfl,Uk (fun z=>?_) (fun z=>⟨_,_,kvs,fs,rfl,(e.trans e1).trans e2,(e1.trans e2) _ _ hc,ff.same (e1.trans e2),gf,by omega⟩)⟩⟩;refine ⟨_,rfl,_,_,rfl,rfl,⟨by decide,by decide⟩,_,rfl,fun p lns H3 e3 hp ln _=>?_⟩;have e13:=(e1.trans e2).trans e3;have hc3:=e13 _ _ hc;have fr:∀ k∈fs,Ul (pth k.1) (pth ls)=false/\Ul (pth ls) (pth k.1)=false:=fun k hk=>by
    have:=ZI.mp z k hk;rw [Vf,YU] at this;exact this
   have dv:Dt K H3 (AnJ.tupS lns) (.ref p):=⟨p,_,rfl,SqT.of hp,DtAll.strs _⟩;have fp:=(ff.same e13).put gf (f:=(ls,lns)) l0 ll dv ln;have pc:Off [c] H3 (upd H3 c (.dK (putK kvs (.inr (pth ls)) (.ref p)))):=zU;refine ⟨_,rfl,_,rfl,c,_,rfl,DPut.k (k:=.inr (pth ls)) hc3 (yR (by have:=ff.len;omega)),_,_,_,Ut fs (ls,lns),rfl,An.Same.updF (e.trans e13) nc,zB,fp.off (zN hc3) pc,gf.put (f:=(ls,lns)) l0 l4 ll ln fr,?_⟩;have:=U9 fs (ls,lns);omega
  ·rintro σ H' ⟨o2,o3,kvs,fs,rfl,e,hc,ff,gf,fl⟩;rw [Q5] at fl;exact ⟨_,rfl,k c kvs fs H' e nc hc ff gf fl⟩
end g_files
end
end An06
namespace An06
open PySem L2 An
seal L2.PS L2.PSs L2.PE L2.PT L2.PW L2.PA L2.PG L2.PGs L2.PI L2.PFi L2.PC
def X5 (P:Program)(w:World)(K:ZZF)(C:Addr):Nat->Sp
 | 0=>fun _ _ _ _=>False
 | d+1=>fun vs H Q _=>∃ (a:Addr) (fp:List Addr) (S:List En) (x:Str),vs=[.ref a,.str x]/\ShAt P w K C H a fp S/\OkS S/\Tree (d+1) S x/\(met (d+1) S x).length<=2000/\∀ l H',Same H H'->H l=none->H' l=some (.lst ((met (d+1) S x).map V.str))->Q (.ref l) H'
def IZ (P:Program)(w:World)(K:ZZF)(C:Addr):Nat->Sp
 | 0=>fun _ _ _ _=>False
 | d+1=>fun vs H Q _=>∃ (a:Addr) (fp:List Addr) (S:List En) (x:Str),vs=[.ref a,.str x]/\ShAt P w K C H a fp S/\OkS S/\Tree (d+1) S x/\(∀ (y:Str) (rows:List (Str×Str)),At S y (.tree rows)->rows.length<=500)/\∀ H',Same H H'->Q (.bl (!(reads (d+1) S x).isEmpty)) H'
section
variable {P:Program}{w:World}{K:ZZF}{mg:Str->Option Value}{base:Heap}{t1 t2 t3 t4 t5 t6 t7:Tok}{aL aC aN aT aA b1 b2:Addr}
theorem uU {H H':Hp}{c:Addr}{xs:List V}(e:Same H H')(h:SqT K H c xs):SqT K H' c xs:=vL (X:=[]) (fun b hb=>(nomatch hb)) (Off.of e) h
namespace g_met
abbrev st:Stmt:=top 62
theorem sc:FnScope ["_law_store","_law_name_here","_law_found","_law_thing","_law_row"] ["_law_store","_law_name_here"] (zG st):=QS0
theorem step {f:Addr}{fd:FuncData}{L d:Nat}(F:Fun K "_law_met" "_law_met" st f fd)(T:Txt P w K mg t1 t2 t3 t4 t5 t6 t7 aL aC aN aT aA b1 b2)(Qa:MetX P w K mg base aC 4 "thing" ["self","name"] (xE P w K aC aN))(hL:8<=L)(Qw:Cal P w K mg base L "_law_met" ["_law_store","_law_name_here"] (X5 P w K aC d)):FnOk P w K mg base CX0 (L+1) f fd ["_law_store","_law_name_here"] (X5 P w K aC (d+1)):=by
 refine F.ok sc (fun vs H Q E h=>?_) (fun cdv A outer s H vs Q E hr h=>?_)
 ·obtain ⟨a,fp,S,x,rfl,_⟩:=h;rfl
 ·obtain ⟨a,fp,S,x,rfl,sh,ok,tr,ml,k⟩:=h;refine ⟨_,(zD (zP (i:=2) sc.nd rfl (Or.inl rfl) (qY (zA (pv 1) zC)))
   (zD (zP (i:=3) sc.nd rfl (Or.inl rfl) (yO (pv 0) T.cls Qa (hr.mono (by omega)) zO (zA (pv 1) zC)))
   (kU (yI (zW xR (z8 (ix_tup:IxR _ (Ui K)) (pv 3) zI (fun _ _=>rfl)) pe_str (zT _))
    (zE (yW PassesOwn.never rfl (qU (z8 (ix_tup:IxR _ (Ui K)) (pv 3) zI (fun _ _=>rfl))) (zQ (i:=4) sc.nd rfl (Or.inl rfl))
     (zE (zP (i:=2) sc.nd rfl (Or.inl rfl) (z7 vQ (pv 2) (zJ Qw (hr.mono (by omega)) (zA (pv 0) (zA (z8 (ix_tup:IxR _ (Ui K)) (pv 4) zI (fun _ _=>rfl)) zC))))))))
    zR)
   (zE (zL (pv 2)))))),?_⟩
  refine ⟨_,rfl,Um 1,fun l0 n0=>?_⟩;have u0:=zF (o:=.lst [V.str x]) n0;have h0:upd H l0 (.lst [V.str x]) l0=some (.lst [V.str x]):=zB;obtain ⟨ix,i1,i2,i3,hix⟩:=qH sh;have hx:UI S (.str x)=true:=Zd tr.mem;refine ⟨_,rfl,a,ix,_,rfl,u0 _ _ hix,rfl,_,rfl,a,fp,S,.str x,_,rfl,sh.same u0,rfl,fun e he ed t ht=>?_,fun z=>by rw [hx] at z;cases z⟩;generalize upd H l0 (.lst [V.str x])=H1 at u0 h0 ht ⊢;refine ⟨fun σ' H'=>∃ o4 l,σ'=[some (.ref a),some (.str x),some (.ref l),some (.ref t),o4]/\Same H H'/\H l=none/\H' l=some (.lst ((met (d+1) S x).map V.str)),?_,?_⟩
  rotate_left
  ·rintro σ' H' ⟨o4,l,rfl,e',nl,hl⟩;exact ⟨_,rfl,k l H' e' nl hl⟩
  rcases id tr with ⟨ls,atl⟩|⟨rows,att,so,hrr⟩
  ·rw [yZ ok atl he ed] at ht;obtain ⟨vv,ht3,hvv⟩:=vG ht;refine ⟨_,rfl,t,_,_,_,rfl,rfl,ht3,rfl,rfl,false,?_,Ug ?_⟩
   ·show V.bl (decide (V.str "leaf"=V.str "tree"))=V.bl false;rw [Zo (by intro z;injection z with z;exact absurd z (by decide +kernel))]
   exact ⟨_,l0,rfl,u0,n0,by rw [kB ok atl];exact h0⟩
  ·rw [yZ ok att he ed] at ht;obtain ⟨c,rs,ht1,hc,hrs⟩:=j5 ht;have rsl:rs.length=rows.length:=by rw [DtAll.length hrs,Q5]
   rw [jP ok att] at ml ⊢;rw [Zn] at ml;refine ⟨_,rfl,t,_,_,_,rfl,rfl,ht1,rfl,rfl,true,?_,Uf ?_⟩
   ·show V.bl (decide (V.str "tree"=V.str "tree"))=V.bl true;rw [Zd rfl]
   refine ⟨_,rfl,t,_,_,_,rfl,rfl,ht1,rfl,c,rfl,⟨_,hc⟩,uD (K:=K) (a:=c) (xs:=rs) (fun i σ H'=>∃ o4 l,σ=[some (.ref a),some (.str x),some (.ref l),some (.ref t),o4]/\Same H1 H'/\H l=none/\H' l=some (.lst ((x::(rows.take i).flatMap fun r=>met d S r.2).map V.str))) ⟨none,l0,rfl,Same.refl _,n0,h0⟩ (fun i σ H' _ h=>?_) ?_ ?_⟩
   ·obtain ⟨_,_,_,e',_⟩:=h;exact uU e' hc
   ·rintro i v σ H' hv ⟨o4,l,rfl,e',nl,hl⟩;obtain ⟨r,c',hr',rfl,hc'⟩:=Xd hrs hv;obtain ⟨lb,trr,nen⟩:=hrr r (Zk hr');have etk:(rows.take (i+1)).flatMap (fun r=>met d S r.2)=(rows.take i).flatMap (fun r=>met d S r.2)++met d S r.2:=by rw [take_snoc hr',YZ,Yg,JQ,ZF]
    have eall:rows.flatMap (fun r=>met d S r.2)=((rows.take i).flatMap (fun r=>met d S r.2)++met d S r.2)++(rows.drop (i+1)).flatMap (fun r=>met d S r.2):=by rw [←etk,←YZ,ZX]
    have tl:=congrArg List.length eall;rw [Zh,Zh] at tl;cases d with
    | zero=>exact absurd trr (fun z=>z)
    | succ d =>
     refine ⟨_,rfl,_,rfl,_,rfl,c',_,_,_,rfl,rfl,uU e' hc',rfl,a,fp,S,r.2,rfl,sh.same (u0.trans e'),ok,trr,by omega,fun l2 H2 e2 n2 h2=>?_⟩;refine ⟨l,l2,_,_,rfl,rfl,e2 _ _ hl,h2,le_line (by rw [Q5,Q5,Zn];omega),fun l3 n3=>?_⟩;refine ⟨_,l3,rfl,(e'.trans e2).trans (zF n3),((u0.trans e').trans e2).free n3,?_⟩;rw [zB,etk,←Zf];rfl
   ·rintro σ H' ⟨o4,l,rfl,e',nl,hl⟩;rw [rsl,ZA] at hl;exact ⟨_,l,rfl,u0.trans e',nl,hl⟩
theorem ok0 {f:Addr}{fd:FuncData}(F:Fun K "_law_met" "_law_met" st f fd):FnOk P w K mg base CX0 8 f fd ["_law_store","_law_name_here"] (X5 P w K aC 0) :=
 F.ok sc (fun vs H Q E h=>False.elim h) (fun cdv A outer s H vs Q E hr h=>False.elim h)
theorem ok {f:Addr}{fd:FuncData}(F:Fun K "_law_met" "_law_met" st f fd)(T:Txt P w K mg t1 t2 t3 t4 t5 t6 t7 aL aC aN aT aA b1 b2)(Qa:MetX P w K mg base aC 4 "thing" ["self","name"] (xE P w K aC aN))(Hm:mg "_law_met"=some (.ref f))(Hb:Binds K fd ["_law_store","_law_name_here"] []):FnOk P w K mg base CX0 13 f fd ["_law_store","_law_name_here"] (X5 P w K aC 5):=by
 have c0:=Cal.mk' F (ok0 (P:=P) (w:=w) (mg:=mg) (base:=base) (aC:=aC) F) Hm Hb;have c1:=Cal.mk' F (step F T Qa (by decide) c0) Hm Hb;have c2:=Cal.mk' F (step F T Qa (by decide) c1) Hm Hb;have c3:=Cal.mk' F (step F T Qa (by decide) c2) Hm Hb;have c4:=Cal.mk' F (step F T Qa (by decide) c3) Hm Hb;exact step F T Qa (by decide) c4
end g_met
namespace g_thin
abbrev st:Stmt:=top 63
theorem sc:FnScope ["_law_store","_law_name_here","_law_thing"] ["_law_store","_law_name_here"] (zG st):=QS0
theorem step {f:Addr}{fd:FuncData}{L d:Nat}(F:Fun K "_law_thin" "_law_thin" st f fd)(T:Txt P w K mg t1 t2 t3 t4 t5 t6 t7 aL aC aN aT aA b1 b2)(Qa:MetX P w K mg base aC 4 "thing" ["self","name"] (xE P w K aC aN))(hL:8<=L)(Qx:Cal P w K mg base L "_law_thin" ["_law_store","_law_name_here"] (IZ P w K aC d)):FnOk P w K mg base CX0 (L+1) f fd ["_law_store","_law_name_here"] (IZ P w K aC (d+1)):=by
 refine F.ok sc (fun vs H Q E h=>?_) (fun cdv A outer s H vs Q E hr h=>?_)
 ·obtain ⟨a,fp,S,x,rfl,_⟩:=h;rfl
 ·obtain ⟨a,fp,S,x,rfl,sh,ok,tr,rl,k⟩:=h;refine ⟨_,(zD (zP (i:=2) sc.nd rfl (Or.inl rfl) (yO (pv 0) T.cls Qa (hr.mono (by omega)) zO (zA (pv 1) zC)))
   (zD (yI (zW xR (z8 (ix_tup:IxR _ (Ui K)) (pv 2) zI (fun _ _=>rfl)) pe_str (zT _))
    (zE (zL x5))
    zR)
   (zE (zL (yV (yH op_gt (zK zY (by rfl) T.len ZS (zA (z8 (ix_tup:IxR _ (Ui K)) (pv 2) zI (fun _ _=>rfl)) zC)) zI (zT _)) (xK (zK (x6 rfl) (by rfl) T.all Yu (zA (y6 (sc:=zG st) (N:=["_law_store","_law_name_here","_law_thing"]) (N':=["_law_row","_law_store"]) (src:=[none,some 0]) ⟨by decide +kernel,rfl,rfl,by decide +kernel,by decide +kernel,by decide +kernel,by decide +kernel⟩ rfl rfl rfl (qU (z8 (ix_tup:IxR _ (Ui K)) (pv 2) zI (fun _ _=>rfl))) (fun _ _ _ _=>(zQ (i:=0) (show (["_law_row","_law_store"]:List Str).Nodup by decide +kernel) rfl (Or.inl rfl))) (fun _ _ _ _=>xU) (fun _ _ _ _=>(zJ Qx (hr.mono (by omega)) (zA (pv 1) (zA (z8 (ix_tup:IxR _ (Ui K)) (pv 0) zI (fun _ _=>rfl)) zC))))) zC)))))))),?_⟩
  obtain ⟨ix,i1,i2,i3,hix⟩:=qH sh;have hx:UI S (.str x)=true:=Zd tr.mem;refine ⟨_,rfl,a,ix,_,rfl,hix,rfl,_,rfl,a,fp,S,.str x,_,rfl,sh,rfl,fun e he ed t ht=>?_,fun z=>by rw [hx] at z;cases z⟩
  rcases id tr with ⟨ls,atl⟩|⟨rows,att,so,hrr⟩
  ·rw [yZ ok atl he ed] at ht;obtain ⟨vv,ht3,hvv⟩:=vG ht;rw [yC ok atl] at k;refine ⟨_,rfl,t,_,_,_,rfl,rfl,ht3,rfl,rfl,true,?_,Uf (k H (Same.refl _))⟩;show V.bl (decide (V.str "leaf"=V.str "leaf"))=V.bl true;rw [Zd rfl]
  ·rw [yZ ok att he ed] at ht;obtain ⟨c,rs,ht1,hc,hrs⟩:=j5 ht;have rsl:rs.length=rows.length:=by rw [DtAll.length hrs,Q5]
   have rlen:=rl x rows att;refine ⟨_,rfl,t,_,_,_,rfl,rfl,ht1,rfl,rfl,false,?_,Ug ?_⟩
   ·show V.bl (decide (V.str "tree"=V.str "leaf"))=V.bl false;rw [Zo (by intro z;injection z with z;exact absurd z (by decide +kernel))]
   refine ⟨_,rfl,t,_,_,_,rfl,rfl,ht1,rfl,c,_,rfl,.inr hc,_,_,rfl,rfl,_,rfl,Uk (fun z=>?_) (fun z=>?_)⟩
   ·have r0:rows≠[]:=fun q=>by
     rw [q] at rsl;have:=ZB z;rw [rsl] at this;exact absurd this (by decide)
    have ne:(reads (d+1) S x).isEmpty=false:=by
     rw [z9 ok att];cases rows with
     | nil=>exact absurd rfl r0
     | cons r rows =>
      rw [Yg];cases q:reads d S r.2 with
      | nil=>exact absurd q (hrr r (Zc ..)).2.2
      | cons f fs=>rfl
    rw [ne] at k;refine ⟨_,rfl,t,_,_,_,rfl,rfl,ht1,rfl,c,rfl,⟨_,hc⟩,jK (K:=K) (a:=c) (xs:=rs) (fun i ys σ H'=>∃ o,σ=[o,some (.ref a)]/\Same H H'/\ys.length=i/\∀ y∈ys,y=V.bl true) ⟨none,rfl,Same.refl _,rfl,fun y hy=>(nomatch hy)⟩ (le_line (by omega)) ?_ ?_ ?_⟩
    ·rintro i ys σ H' hi ⟨o,rfl,e',yl,_⟩;exact ⟨uU e' hc,by omega⟩
    ·rintro i v ys σ H' hv ⟨o,rfl,e',yl,yt⟩;obtain ⟨r,c',hr',rfl,hc'⟩:=Xd hrs hv;obtain ⟨lb,trr,nen⟩:=hrr r (Zk hr');cases d with
     | zero=>exact absurd trr (fun z=>z)
     | succ d =>
      refine ⟨_,rfl,_,rfl,c',_,_,_,rfl,rfl,uU e' hc',rfl,a,fp,S,r.2,rfl,sh.same e',ok,trr,rl,fun H2 e2=>⟨_,rfl,e'.trans e2,by rw [Zh,yl];rfl,fun y hy=>?_⟩⟩
      rcases Zs.mp hy with q|q
      ·exact yt y q
      ·rw [Q7.mp q];cases q2:reads (d+1) S r.2 with
       | nil=>exact absurd q2 nen
       | cons f fs=>rfl
    ·rintro ys σ H' ⟨o,rfl,e',yl,yt⟩ p np;have ey:ys=(List.replicate ys.length true).map V.bl:=by
      rw [VP];exact Vp.mpr ⟨rfl,yt⟩
     refine ⟨p,List.replicate ys.length true,rfl,SqL.of (by rw [zB];exact congrArg (fun z=>some (HO.lst z)) ey),?_⟩;have ea:(List.replicate ys.length true).all id=true:=ZI.mpr fun b hb=>by rw [J0 hb];rfl
     rw [ea];exact k _ (e'.trans (zF np))
   ·have r0:rows=[]:=Yd (by
     rcases Y5 rows.length with q|q
     ·exact q
     ·exact absurd (Zd (show (0:Int)<(rs.length:Int) by omega)) z)
    subst r0;rw [z9 ok att] at k;exact k H (Same.refl _)
theorem ok0 {f:Addr}{fd:FuncData}(F:Fun K "_law_thin" "_law_thin" st f fd):FnOk P w K mg base CX0 8 f fd ["_law_store","_law_name_here"] (IZ P w K aC 0) :=
 F.ok sc (fun vs H Q E h=>False.elim h) (fun cdv A outer s H vs Q E hr h=>False.elim h)
theorem ok {f:Addr}{fd:FuncData}(F:Fun K "_law_thin" "_law_thin" st f fd)(T:Txt P w K mg t1 t2 t3 t4 t5 t6 t7 aL aC aN aT aA b1 b2)(Qa:MetX P w K mg base aC 4 "thing" ["self","name"] (xE P w K aC aN))(Hm:mg "_law_thin"=some (.ref f))(Hb:Binds K fd ["_law_store","_law_name_here"] []):FnOk P w K mg base CX0 13 f fd ["_law_store","_law_name_here"] (IZ P w K aC 5):=by
 have c0:=Cal.mk' F (ok0 (P:=P) (w:=w) (mg:=mg) (base:=base) (aC:=aC) F) Hm Hb;have c1:=Cal.mk' F (step F T Qa (by decide) c0) Hm Hb;have c2:=Cal.mk' F (step F T Qa (by decide) c1) Hm Hb;have c3:=Cal.mk' F (step F T Qa (by decide) c2) Hm Hb;have c4:=Cal.mk' F (step F T Qa (by decide) c3) Hm Hb;exact step F T Qa (by decide) c4
end g_thin
end
end An06
namespace An
open PySem L2 AnJ
theorem Tree.labs {S:List En}(g:OkS S):∀ {d:Nat} {x:Str},Tree d S x->∀ f∈reads d S x,∀ l∈f.1,zS l=true
 | 0,_,h=>absurd h (fun z=>z)
 | d+1,x,h=>by
  rcases h with ⟨ls,h⟩|⟨rows,h,so,hr⟩
  ·rw [yC g h];intro f hf l hl;rw [Q7.mp hf] at hl;cases hl
  ·rw [z9 g h];intro f hf l hl;obtain ⟨r,hr',hf⟩:=Yf.mp hf;obtain ⟨f',hf',rfl⟩:=Za.mp hf
   rcases Zi.mp hl with z|z
   ·rw [z];exact (hr r hr').1
   ·exact Tree.labs g (hr r hr').2.1 f' hf' l z
theorem Tree.row_len {S:List En}(g:OkS S){y:Str}{rows:List (Str×Str)}(h:At S y (.tree rows)):rows.length<=500:=by
 obtain ⟨e,he,_,hd⟩:=h;obtain ⟨t,ht,gt,_⟩:=g.th e he;have:=vI (hd.symm.trans ht);subst this;have:=gt.1;have this:(z6 rows).length<=1000:=this;rw [flat_len] at this;omega
section
variable {K:ZZF}{H:Hp}{fs gs:List Fi}{kvs more:List (Key×V)}
theorem FsAt.app (h:FsAt K H fs kvs)(k:FsAt K H gs more):FsAt K H (fs++gs) (kvs++more):=by
 refine ⟨by rw [Zf,Zf,h.keys,k.keys],fun i g kv a b=>?_⟩
 by_cases z:i<fs.length
 ·rw [ZN z] at a;rw [ZN (by rw [h.len];exact z)] at b;exact h.val i g kv a b
 ·rw [ZP (by omega)] at a;rw [ZP (by rw [h.len];omega),h.len] at b;exact k.val _ g kv a b
end
def beh (B:List Str)(fs:List Fi):List Fi:=fs.map fun f=>(B++f.1,f.2)
theorem beh_nil (fs:List Fi):beh [] fs=fs:=by
 unfold beh
 conv=>rhs;rw [←VB fs]
 exact ZW fun f _=>rfl
theorem beh_row (B:List Str)(l:Str)(fs:List Fi):beh B (fs.map fun f=>(l::f.1,f.2))=beh (B++[l]) fs:=by
 unfold beh;rw [Zt];exact ZW fun f _=>by
  show (B++l::f.1,f.2)=(B++[l]++f.1,f.2);rw [Z2];rfl
theorem G8 (B:List Str)(fs gs:List Fi):beh B (fs++gs)=beh B fs++beh B gs:=Zf
theorem beh_nd {B:List Str}{fs:List Fi}(h:fs.Pairwise (fun f g=>ltS (pth f.1) (pth g.1)))(ne:∀ f∈fs,f.1≠[])(hB:∀ l∈B,zS l=true)(hl:∀ f∈fs,∀ l∈f.1,zS l=true):((beh B fs).map fun f=>(.inr (pth f.1):Key)).Nodup:=by
 unfold beh;rw [Zt,ZH,Yl];refine h.imp_of_mem fun {a b} ha hb z e=>?_;have e:pth (B++a.1)=pth (B++b.1):=Sum.inr.inj e;have nn:∀ {f:Fi},f∈fs->B++f.1≠[]:=fun {f} hf q=>ne f hf (Vj.mp q).2;have all:∀ {f:Fi},f∈fs->∀ l∈B++f.1,zS l=true:=fun {f} hf l q=>by
  rcases Zs.mp q with q|q
  ·exact hB l q
  ·exact hl f hf l q
 have:=j4 (d:=0) (nn ha) (nn hb) (all ha) (all hb) e;exact Xu z (by rw [Va this])
theorem pth_more (B:List Str)(l:Str)(hB:B≠[]):pth B++"/"++l=pth (B++[l]):=by
 rw [pth_app hB (ZR _ _),kM]
theorem Gp {B:List Str}(hB:∀ l∈B,zS l=true):pth B=""↔B=[]:=by
 constructor
 ·intro z;cases B with
  | nil=>rfl
  | cons b B =>
   obtain ⟨s,e,_⟩:=IN b B;have h1:=hB b (Zc ..);have:=congrArg (fun x=>(cs x).length) z;simp only [e,Zh] at this;unfold zS at h1;rw [Zg,Zg,ZL,length_cs] at h1;have h2:(cs ("":Str)).length=0:=by decide +kernel
   omega
 ·intro z;rw [z];exact cs_inj (by unfold pth;rw [qE];rfl)
end An
namespace An06
open PySem L2 An
seal L2.PS L2.PSs L2.PE L2.PT L2.PW L2.PA L2.PG L2.PGs L2.PI L2.PFi L2.PC
def Iu (P:Program)(w:World)(K:ZZF)(C:Addr):Nat->Sp
 | 0=>fun _ _ _ _=>False
 | d+1=>fun vs H Q _=>∃ (a:Addr) (fp:List Addr) (S:List En) (x:Str) (B:List Str),vs=[.ref a,.str x,.str (pth B)]/\ShAt P w K C H a fp S/\OkS S/\Tree (d+1) S x/\(∀ l∈B,zS l=true)/\B.length+(d+1)<=50/\(reads (d+1) S x).length<=60/\(∀ f∈reads (d+1) S x,Uv f.2) /\
  ∀ e kvs H',Same H H'->H e=none->H' e=some (.dK kvs)->FsAt K H' (beh B (reads (d+1) S x)) kvs->Q (.ref e) H'
section
variable {P:Program}{w:World}{K:ZZF}{mg:Str->Option Value}{base:Heap}{t1 t2 t3 t4 t5 t6 t7:Tok}{aL aC aN aT aA b1 b2:Addr}
theorem Gz {H:Hp}{c:Addr}{ob:Obj}{kvs:List (Key×V)}(h:H c=some (.frz ob (.dK kvs))):∀ b∈[c],∀ xs,¬Rd H b (.tup xs):=fun b hb xs z=>by
 rw [Q7.mp hb] at z
 rcases z with z|⟨o,z⟩<;>rw [h] at z<;>cases z
namespace g_read
abbrev st:Stmt:=top 61
theorem sc:FnScope ["_law_store","_law_name_here","_law_before","_law_found","_law_thing","_law_label","_law_inner","_law_path","_law_beneath","_law_other"] ["_law_store","_law_name_here","_law_before"] (zG st):=QS0
theorem step {f:Addr}{fd:FuncData}{L d:Nat}(F:Fun K "_law_read" "_law_read" st f fd)(T:Txt P w K mg t1 t2 t3 t4 t5 t6 t7 aL aC aN aT aA b1 b2)(Qa:MetX P w K mg base aC 4 "thing" ["self","name"] (xE P w K aC aN))(hL:8<=L)(Qy:Cal P w K mg base L "_law_read" ["_law_store","_law_name_here","_law_before"] (Iu P w K aC d)):FnOk P w K mg base CX0 (L+1) f fd ["_law_store","_law_name_here","_law_before"] (Iu P w K aC (d+1)):=by
 refine F.ok sc (fun vs H Q E h=>?_) (fun cdv A outer s H vs Q E hr h=>?_)
 ·obtain ⟨a,fp,S,x,B,rfl,_⟩:=h;rfl
 ·obtain ⟨a,fp,S,x,B,rfl,sh,ok,tr,hB,bl,rl,rn,k⟩:=h;have hu:=X6 hr;refine ⟨_,(zD (zP (i:=3) sc.nd rfl (Or.inl rfl) xO)
   (zD (zP (i:=4) sc.nd rfl (Or.inl rfl) (yO (pv 0) T.cls Qa (hr.mono (by omega)) zO (zA (pv 1) zC)))
   (zD (yI (zW xR (z8 (ix_tup:IxR _ (Ui K)) (pv 4) zI (fun _ _=>rfl)) pe_str (zT _))
    (zD (xF hu (pv 3) (pv 2) (z8 (ix_tup:IxR _ (Ui K)) (pv 4) zI (fun _ _=>rfl)) rfl)
    (zE (zL (pv 3))))
    zR)
   (zD (yW PassesOwn.never rfl (qU (z8 (ix_tup:IxR _ (Ui K)) (pv 4) zI (fun _ _=>rfl))) (UZ rfl (yY (zQ (i:=5) sc.nd rfl (Or.inl rfl)) (yY (zQ (i:=6) sc.nd rfl (Or.inl rfl)) kX)))
    (kU (zP (i:=7) sc.nd rfl (Or.inl rfl) (pe_ifExp (zW xR (pv 2) pe_str (zT _)) (pv 5) (z7 yG (z7 yG (pv 2) pe_str) (pv 5))))
    (zD (zP (i:=8) sc.nd rfl (Or.inl rfl) (zJ Qy (hr.mono (by omega)) (zA (pv 0) (zA (pv 6) (zA (pv 7) zC)))))
    (zE (k6 (yW PassesOwn.never rfl (vO (uM (pv 8))) (zQ (i:=9) sc.nd rfl (Or.inl rfl))
     (zE (xF hu (pv 3) (pv 9) (j2 hu (pv 8) (pv 9) (fun _ _=>rfl)) rfl))))))))
   (zE (zL (pv 3))))))),?_⟩
  refine fun e0 ne0=>?_;have u0:=zF (o:=.dK []) ne0;have he0:upd H e0 (.dK []) e0=some (.dK []):=zB;generalize upd H e0 (.dK [])=H1 at u0 he0 ⊢;obtain ⟨ix,i1,i2,i3,hix⟩:=qH sh;have hx:UI S (.str x)=true:=Zd tr.mem;refine ⟨_,rfl,a,ix,_,rfl,u0 _ _ hix,rfl,_,rfl,a,fp,S,.str x,_,rfl,sh.same u0,rfl,fun e he ed t ht=>?_,fun z=>by rw [hx] at z;cases z⟩;have pB:=vH hB;have l1:("/":Str).length=1:=by decide +kernel
  rcases id tr with ⟨ls,atl⟩|⟨rows,att,so,hrr⟩
  ·rw [yZ ok atl he ed] at ht;obtain ⟨vv,ht3,hvv⟩:=vG ht;have lnk:Uv ls:=rn ([],ls) (by rw [yC ok atl];exact Q7.mpr rfl);rw [yC ok atl] at k;refine ⟨_,rfl,t,_,_,_,rfl,rfl,ht3,rfl,rfl,true,?_,Uf ?_⟩
   ·show V.bl (decide (V.str "leaf"=V.str "leaf"))=V.bl true;rw [Zd rfl]
   refine ⟨_,rfl,t,_,_,_,rfl,rfl,ht3,rfl,_,rfl,_,rfl,e0,_,rfl,DPut.k (k:=.inr (pth B)) he0 (yR (by show 0<16777216;decide)),_,rfl,k e0 [(.inr (pth B),vv)] _ (An.Same.updF u0 ne0) ne0 zB ?_⟩;have f1:=FsAt.snoc (K:=K) (H:=upd H1 e0 (.dK [((.inr (pth B):Key),vv)])) (fs:=[]) FsAt.nil (f:=(B,ls)) (v:=vv) (Dt.off (zN he0) zU _ _ (qP lnk) hvv) lnk;have eb:beh B [(([],ls):Fi)]=[(B,ls)]:=by
    show [((B++[],ls):Fi)]=_;rw [ZF]
   rw [eb];exact f1
  ·rw [yZ ok att he ed] at ht;obtain ⟨c,rs,ht1,hc,hrs⟩:=j5 ht;have rd:reads (d+1) S x=rows.flatMap (rowF d S):=z9 ok att;have rise:=(tr.rise ok).1;have lbs:=tr.labs ok;have nem:∀ f∈reads (d+1) S x,f.1≠[]:=fun f hf=>by
    rw [rd] at hf;obtain ⟨r,_,hf⟩:=Yf.mp hf;obtain ⟨f',_,rfl⟩:=Za.mp hf;exact ZR _ _
   rw [rd] at rl rn rise k lbs nem;have ndA:=beh_nd (B:=B) rise nem hB lbs;have rsl:rs.length=rows.length:=by rw [DtAll.length hrs,Q5]
   have nt:=zN he0;refine ⟨_,rfl,t,_,_,_,rfl,rfl,ht1,rfl,rfl,false,?_,Ug ?_⟩
   ·show V.bl (decide (V.str "tree"=V.str "leaf"))=V.bl false;rw [Zo (by intro z;injection z with z;exact absurd z (by decide +kernel))]
   refine ⟨_,rfl,t,_,_,_,rfl,rfl,ht1,rfl,c,rfl,⟨_,hc⟩,uD (K:=K) (a:=c) (xs:=rs) (fun i σ H'=>∃ o5 o6 o7 o8 o9 kvs,σ=[some (.ref a),some (.str x),some (.str (pth B)),some (.ref e0),some (.ref t),o5,o6,o7,o8,o9]/\Off [e0] H1 H'/\H' e0=some (.dK kvs)/\FsAt K H' (beh B ((rows.take i).flatMap (rowF d S))) kvs) ⟨none,none,none,none,none,[],rfl,Off.refl _ _,he0,FsAt.nil⟩ (fun i σ H' _ h=>?_) ?_ ?_⟩
   ·obtain ⟨_,_,_,_,_,_,_,of',_⟩:=h;exact vL nt of' hc
   ·rintro i v σ H' hv ⟨o5,o6,o7,o8,o9,kvs,rfl,of',he',fs'⟩;obtain ⟨r,c',hr',rfl,hc'⟩:=Xd hrs hv;have sm:Same H H':=fun b o e=>of' b o (fun z=>by rw [Q7.mp z,ne0] at e;cases e) (u0 _ _ e);have sh':=sh.same sm;have hrm:=Zk hr';obtain ⟨lb,trr,nen⟩:=hrr r hrm;have etk:(rows.take (i+1)).flatMap (rowF d S)=(rows.take i).flatMap (rowF d S)++rowF d S r:=by rw [take_snoc hr',YZ,Yg,JQ,ZF]
    have eall:rows.flatMap (rowF d S)=((rows.take i).flatMap (rowF d S)++rowF d S r)++(rows.drop (i+1)).flatMap (rowF d S):=by rw [←etk,←YZ,ZX]
    have nd:=ndA;rw [eall,G8,G8,Zf,Zf,Yk,Yk] at nd;have er:beh B (rowF d S r)=beh (B++[r.1]) (reads d S r.2):=beh_row B r.1 (reads d S r.2);have lr:(rowF d S r).length=(reads d S r.2).length:=Q5 ..;have kl:kvs.length+(rowF d S r).length<=60:=by
     have:=congrArg List.length eall;rw [Zh,Zh] at this;have h2:=fs'.len;unfold beh at h2;rw [Q5] at h2;omega
    have inr:∀ f∈rowF d S r,Uv f.2:=fun f hf=>rn f (Yf.mpr ⟨r,hrm,hf⟩);have lbl:=(label_parts.mp lb).2.1;refine ⟨c',_,rfl,vL nt of' hc',rfl,_,_,rfl,_,_,rfl,rfl,?_⟩;refine ⟨fun σ' H''=>σ'=[some (.ref a),some (.str x),some (.str (pth B)),some (.ref e0),some (.ref t),some (.str r.1),some (.str r.2),some (.str (pth (B++[r.1]))),o8,o9]/\H''=H',?_,?_⟩
    ·by_cases b0:B=[]
     ·subst b0;have z1:pth []="":=(Gp (B:=[]) (fun l hl=>absurd hl Yi)).mpr rfl;refine ⟨_,rfl,rfl,true,?_,Uf ⟨_,rfl,?_⟩⟩
      ·show V.bl (decide (V.str (pth [])=V.str ""))=V.bl true;rw [z1,Zd rfl]
      ·show _=_/\_;rw [VD,kM];exact ⟨rfl,rfl⟩
     ·have z1:pth B≠"":=fun z=>b0 ((Gp hB).mp z);refine ⟨_,rfl,rfl,false,?_,Ug ⟨_,rfl,_,_,rfl,rfl,le_line ?_,_,rfl,_,_,rfl,rfl,le_line ?_,?_⟩⟩
      ·show V.bl (decide (V.str (pth B)=V.str ""))=V.bl false;rw [Zo (by intro z;injection z with z;exact z1 z)]
      ·rw [l1,length_cs];omega
      ·rw [len_append,l1,length_cs];omega
      ·show _=_/\_;rw [pth_more B r.1 b0];exact ⟨rfl,rfl⟩
    ·rintro σ' H'' ⟨rfl,rfl⟩;cases d with
     | zero=>exact absurd trr (fun z=>z)
     | succ d =>
      refine ⟨_,rfl,_,rfl,_,rfl,a,fp,S,r.2,B++[r.1],rfl,sh',ok,trr,fun l hl=>?_,by rw [Zh];show B.length+1+(d+1)<=50;omega,by omega,fun f hf=>inr (r.1::f.1,f.2) (Za.mpr ⟨f,hf,rfl⟩),fun e3 kv3 H3 s3 ne3 he3 ff3=>?_⟩
      ·rcases Zs.mp hl with q|q
       ·exact hB l q
       ·rw [Q7.mp q];exact lb
      rw [←er] at ff3;have l3:kv3.length=(rowF (d+1) S r).length:=by
       have h2:=ff3.len;unfold beh at h2;rw [Q5] at h2;exact h2
      have e03:e0≠e3:=fun z=>by rw [←z,he'] at ne3;cases ne3
      have kn3:(kv3.map (·.1)).Nodup:=by rw [ff3.keys];exact nd.1.2.1
      have kdj:∀ q∈kv3.map (·.1),q∉kvs.map (·.1):=fun q hq z=>nd.1.2.2 q (by rw [←fs'.keys];exact z) q (by rw [←ff3.keys];exact hq) rfl;refine ⟨_,rfl,e3,kv3,rfl,he3,fun ob=>?_⟩;have o4:Off [e3] H3 (upd H3 e3 (.frz ob (.dK kv3))):=zU;have h43:upd H3 e3 (.frz ob (.dK kv3)) e3=some (.frz ob (.dK kv3)):=zB;have h40:upd H3 e3 (.frz ob (.dK kv3)) e0=some (.dK kvs):=by rw [zH e03];exact s3 _ _ he'
      have f40:=(fs'.same s3).off (zN he3) o4;have f43:=ff3.off (zN he3) o4;have of4:∀ b o,b∉[e0]->H1 b=some o->upd H3 e3 (.frz ob (.dK kv3)) b=some o:=fun b o nb eb=>by
       have hb':=of' b o nb eb;rw [zH (fun z=>by rw [z,ne3] at hb';cases hb')];exact s3 _ _ hb'
      generalize upd H3 e3 (.frz ob (.dK kv3))=H4 at o4 h43 h40 f40 f43 of4 ⊢;refine ⟨e3,ob,kv3,rfl,h43,vC (fun j σ H5=>∃ o9,σ=[some (.ref a),some (.str x),some (.str (pth B)),some (.ref e0),some (.ref t),some (.str r.1),some (.str r.2),some (.str (pth (B++[r.1]))),some (.ref e3),o9]/\Off [e0] H4 H5/\H5 e0=some (.dK (kvs++kv3.take j))) ⟨o9,rfl,Off.refl _ _,by rw [List.take_zero,ZF];exact h40⟩ (fun j σ H5 hj ⟨_,_,o5,_⟩=>o5 _ _ (fun z=>e03 (Q7.mp z).symm) h43) ?_ ?_⟩
      ·rintro j kk v σ H5 hj ⟨o9,rfl,o5,h50⟩;have h53:=o5 _ _ (fun z=>e03 (Q7.mp z).symm) h43;have hm:=Zk hj;have vv:=jG kn3 hm;have nk:kk∉(kvs++kv3.take j).map (·.1):=fun z=>by
        rw [Zf] at z
        rcases Zs.mp z with z|z
        ·exact kdj kk (Za.mpr ⟨_,hm,rfl⟩) z
        ·have n2:=kn3;rw [←ZX j kv3,Zf,Yk] at n2;have hd:kv3.drop j=(kk,v)::kv3.drop (j+1):=by
          have:=Zr.mp hj;rw [←this.2];exact JS this.1
         exact n2.2.2 kk z kk (by rw [hd];exact Zc ..) rfl
       refine ⟨_,rfl,_,rfl,e3,v,rfl,.inl ⟨kv3,kk,.inr ⟨ob,h53⟩,rfl,vv.symm⟩,_,rfl,_,rfl,e0,_,rfl,DPut.k (k:=kk) h50 (yR (by rw [Zh,ZC];omega)),_,rfl,o5.trans zU,?_⟩;rw [zB,qV nk,take_snoc hj,Z2]
      ·rintro σ H5 ⟨o9,rfl,o5,h50⟩;rw [ZA] at h50;have h53:=o5 _ _ (fun z=>e03 (Q7.mp z).symm) h43;refine ⟨e3,ob,kv3,h53,fun o u z=>?_,?_⟩
       ·have z:H e3=some (.frz o u):=z;have:=sm _ _ z;rw [ne3] at this;cases this
       refine ⟨_,_,_,_,_,kvs++kv3,rfl,fun b o nb eb=>?_,by rw [zH e03];exact h50,?_⟩
       ·have hb':=of' b o nb eb;rw [zH (fun z=>by rw [z,ne3] at hb';cases hb')];exact o5 b o nb (of4 b o nb eb)
       ·rw [etk,G8];exact ((f40.app f43).off (zN h40) o5).off (Gz h53) zU
   ·rintro σ H' ⟨o5,o6,o7,o8,o9,kvs,rfl,of',he',fs'⟩;rw [rsl,ZA] at fs';exact ⟨_,rfl,k e0 kvs H' (fun b o e=>of' b o (fun z=>by rw [Q7.mp z,ne0] at e;cases e) (u0 _ _ e)) ne0 he' fs'⟩
theorem ok0 {f:Addr}{fd:FuncData}(F:Fun K "_law_read" "_law_read" st f fd):FnOk P w K mg base CX0 8 f fd ["_law_store","_law_name_here","_law_before"] (Iu P w K aC 0) :=
 F.ok sc (fun vs H Q E h=>False.elim h) (fun cdv A outer s H vs Q E hr h=>False.elim h)
theorem ok {f:Addr}{fd:FuncData}(F:Fun K "_law_read" "_law_read" st f fd)(T:Txt P w K mg t1 t2 t3 t4 t5 t6 t7 aL aC aN aT aA b1 b2)(Qa:MetX P w K mg base aC 4 "thing" ["self","name"] (xE P w K aC aN))(Hm:mg "_law_read"=some (.ref f))(Hb:Binds K fd ["_law_store","_law_name_here","_law_before"] []):FnOk P w K mg base CX0 13 f fd ["_law_store","_law_name_here","_law_before"] (Iu P w K aC 5):=by
 have c0:=Cal.mk' F (ok0 (P:=P) (w:=w) (mg:=mg) (base:=base) (aC:=aC) F) Hm Hb;have c1:=Cal.mk' F (step F T Qa (by decide) c0) Hm Hb;have c2:=Cal.mk' F (step F T Qa (by decide) c1) Hm Hb;have c3:=Cal.mk' F (step F T Qa (by decide) c2) Hm Hb;have c4:=Cal.mk' F (step F T Qa (by decide) c3) Hm Hb;exact step F T Qa (by decide) c4
end g_read
end
end An06
namespace An06
open PySem L2 An
seal L2.PS L2.PSs L2.PE L2.PT L2.PW L2.PA L2.PG L2.PGs L2.PI L2.PFi L2.PC
def IT (P:Program)(w:World)(K:ZZF)(C:Addr):Sp:=fun vs H Q _=>∃ (a:Addr) (fp:List Addr) (S:List En) (x:Str),vs=[.ref a,.str x]/\ShAt P w K C H a fp S/\OkS S/\Uq S (.str x) "tree"=false/\∀ H',Same H H'->Q (.bl true) H'
theorem path_a:IY "a"=true:=by decide +kernel
section
variable {P:Program}{w:World}{K:ZZF}{mg:Str->Option Value}{base:Heap}{t1 t2 t3 t4 t5 t6 t7:Tok}{aL aC aN aT aA b1 b2:Addr}
namespace g_refused
abbrev st:Stmt:=top 68
theorem sc:FnScope ["_law_shelf","_law_root","_law_missed"] ["_law_shelf","_law_root"] (zG st):=QS0
theorem ok {f:Addr}{fd:FuncData}(F:Fun K "_law_refused" "_law_refused" st f fd)(T:Txt P w K mg t1 t2 t3 t4 t5 t6 t7 aL aC aN aT aA b1 b2)(Qf:CalX P w K mg base 14 "files_of" ["store","root"] (U7 P w K aC aN))(Qg:CalX P w K mg base 7 "found_at" ["store","root","path"] (XM P w K aC aN)):FnOk P w K mg base CX0 15 f fd ["_law_shelf","_law_root"] (IT P w K aC):=by
 refine F.ok sc (fun vs H Q E h=>?_) (fun cdv A outer s H vs Q E hr h=>?_)
 ·obtain ⟨a,fp,S,x,rfl,_⟩:=h;rfl
 ·obtain ⟨a,fp,S,x,rfl,sh,ok,no,k⟩:=h;refine ⟨_,(zD (zP (i:=2) sc.nd rfl (Or.inl rfl) zI)
   (zD (ps_try0 rfl rfl rfl (fun _ _=>(zE (yP (yB Qf hr.m (Xp rfl) (zA (pv 0) (zA (pv 1) zC)))))) rfl T.NoName (fun _=>(zE (zP (i:=2) sc.nd rfl (Or.inl rfl) (z7 qA (pv 2) zI)))))
   (zD (ps_try0 rfl rfl rfl (fun _ _=>(zE (yP (yB Qg hr.m (Xp rfl) (zA (pv 0) (zA (pv 1) (zA pe_str zC))))))) rfl T.NoName (fun _=>(zE (zP (i:=2) sc.nd rfl (Or.inl rfl) (z7 qA (pv 2) zI)))))
   (zE (zL (yH xR (pv 2) zI (zT _))))))),?_⟩
  refine ⟨fun σ' H' cls=>σ'=[some (.ref a),some (.str x),some (.int 0)]/\H'=H/\cls=.ref aN,?_,?_⟩
  ·exact ⟨_,rfl,_,rfl,a,fp,S,x,rfl,sh,ok,.inr ⟨no,rfl,rfl,rfl⟩⟩
  ·rintro σ' H' cls z ⟨rfl,rfl,rfl⟩ nz;refine ⟨T.exmN,?_⟩;have uz:=zF (o:=XY z (.ref aN)) nz;refine ⟨_,rfl,_,_,rfl,rfl,?_⟩;refine ⟨fun σ' H2 cls=>σ'=[some (.ref a),some (.str x),some (.int (0+1))]/\H2=upd H' z (XY z (.ref aN))/\cls=.ref aN,?_,?_⟩
   ·exact ⟨_,rfl,_,rfl,a,fp,S,x,"a",rfl,sh.same uz,ok,path_a,by decide +kernel,.inr ⟨no,rfl,rfl,rfl⟩⟩
   ·rintro σ' H2 cls z2 ⟨rfl,rfl,rfl⟩ nz2;refine ⟨T.exmN,?_⟩;have uz2:=zF (o:=XY z2 (.ref aN)) nz2;refine ⟨_,rfl,_,_,rfl,rfl,?_⟩;refine ⟨_,rfl,rfl,?_⟩;exact k _ (uz.trans uz2)
end g_refused
end
end An06
namespace An06
open PySem L2 An
seal L2.PS L2.PSs L2.PE L2.PT L2.PW L2.PA L2.PG L2.PGs L2.PI L2.PFi L2.PC
def spName (P:Program)(w:World)(K:ZZF)(C:Addr):Sp:=fun vs H Q _=>∃ (a l:Addr) (fp:List Addr) (S:List En) (x:Str) (ls:List Str) (d:Nat),vs=[.ref a,.str x,.ref l]/\ShAt P w K C H a fp S/\OkS S/\Tree d S x/\SqL K H l (ls.map V.str)/\∀ H',Same H H'->Q (oV (atT S x ls)) H'
def uO (rows:List (Str×Str))(l:Str):List Str:=(rows.filter fun r=>decide (r.1=l)).map (·.2)
theorem BW (rows:List (Str×Str))(l:Str):(uO rows l).head?=rowAt rows l:=by
 unfold uO rowAt;rw [List.head?_map,List.head?_filter]
section
variable {P:Program}{w:World}{K:ZZF}{mg:Str->Option Value}{base:Heap}{t1 t2 t3 t4 t5 t6 t7:Tok}{aL aC aN aT aA b1 b2:Addr}
namespace g_name
abbrev st:Stmt:=top 67
theorem sc:FnScope ["_law_store","_law_root","_law_labels","_law_name_here","_law_label","_law_thing","_law_beneath"] ["_law_store","_law_root","_law_labels"] (zG st):=QS0
theorem ok {f:Addr}{fd:FuncData}(F:Fun K "_law_name" "_law_name" st f fd)(T:Txt P w K mg t1 t2 t3 t4 t5 t6 t7 aL aC aN aT aA b1 b2)(Qa:MetX P w K mg base aC 4 "thing" ["self","name"] (xE P w K aC aN)):FnOk P w K mg base CX0 5 f fd ["_law_store","_law_root","_law_labels"] (spName P w K aC):=by
 refine F.ok sc (fun vs H Q E h=>?_) (fun cdv A outer s H vs Q E hr h=>?_)
 ·obtain ⟨a,l,fp,S,x,ls,d,rfl,_⟩:=h;rfl
 ·obtain ⟨a,l,fp,S,x,ls,d,rfl,sh,ok,tr,hl,k⟩:=h;refine ⟨_,(zD (zP (i:=3) sc.nd rfl (Or.inl rfl) (pv 1))
   (zD (yW PassesOwn.never rfl (qL (pv 2)) (zQ (i:=4) sc.nd rfl (Or.inr rfl))
    (zD (zP (i:=5) sc.nd rfl (Or.inl rfl) (yO (pv 0) T.cls Qa hr.m zO (zA (pv 3) zC)))
    (kU (zP (i:=6) sc.nd rfl (Or.inl rfl) (pe_ifExp (zW xR (z8 (ix_tup:IxR _ (Ui K)) (pv 5) zI (fun _ _=>rfl)) pe_str (zT _)) (y6 (sc:=zG st) (N:=["_law_store","_law_root","_law_labels","_law_name_here","_law_label","_law_thing","_law_beneath"]) (N':=["_law_row","_law_label"]) (src:=[none,some 4]) ⟨by decide +kernel,rfl,rfl,by decide +kernel,by decide +kernel,by decide +kernel,by decide +kernel⟩ rfl rfl rfl (qU (z8 (ix_tup:IxR _ (Ui K)) (pv 5) zI (fun _ _=>rfl))) (fun _ _ _ _=>(zQ (i:=0) (show (["_law_row","_law_label"]:List Str).Nodup by decide +kernel) rfl (Or.inl rfl))) (fun _ _ _ _=>(pf_one (zW xR (z8 (ix_tup:IxR _ (Ui K)) (pv 0) zI (fun _ _=>rfl)) (pv 1) (zT _)))) (fun _ _ _ _=>(z8 (ix_tup:IxR _ (Ui K)) (pv 0) zI (fun _ _=>rfl)))) (qY zC)))
    (zD (yI (zW (op_eqD hr.units) (pv 6) (qY zC) (zT _))
     (zE (zL X0))
     zR)
    (zE (zP (i:=3) sc.nd rfl (Or.inl rfl) (z8 (ix_list:IxR _ (rIxL K)) (pv 6) zI (fun _ _=>rfl))))))))
   (zE (zL (pv 3))))),?_⟩
  obtain ⟨ix,i1,i2,i3,hix⟩:=qH sh;refine ⟨_,rfl,_,rfl,l,rfl,⟨_,hl⟩,kI (K:=K) (a:=l) (xs:=ls.map V.str) (fun i σ H'=>∃ o4 o5 o6 n e,σ=[some (.ref a),some (.str x),some (.ref l),some (.str n),o4,o5,o6]/\Same H H'/\some n=(ls.take i).foldl (stepT S) (some x)/\Tree e S n) ⟨none,none,none,x,d,rfl,Same.refl _,rfl,tr⟩ (fun i σ H' _ h=>?_) ?_ ?_⟩
  ·obtain ⟨_,_,_,_,_,_,e',_⟩:=h;exact e'.seq hl
  ·rintro i v σ H' hv ⟨o4,o5,o6,n,e,rfl,e',en,te⟩;rw [Zl] at hv;obtain ⟨lb,hlb,rfl⟩:=ZM.mp hv;have etk:(ls.take (i+1)).foldl (stepT S) (some x)=stepT S (some n) lb:=by rw [take_snoc hlb,Yw,←en];rfl
   have eall:atT S x ls=(ls.drop (i+1)).foldl (stepT S) (stepT S (some n) lb):=by
    unfold atT;rw [←etk,←Yw,ZX]
   have hx':UI S (.str n)=true:=Zd te.mem;refine ⟨_,rfl,a,ix,_,rfl,e' _ _ hix,rfl,_,rfl,a,fp,S,.str n,_,rfl,sh.same e',rfl,fun en2 he2 ed2 t ht=>?_,fun z=>by rw [hx'] at z;cases z⟩;refine ⟨fun σ' H2=>∃ (bl:Addr) (us:List Str),σ'=[some (.ref a),some (.str x),some (.ref l),some (.str n),some (.str lb),some (.ref t),some (.ref bl)]/\Same H' H2/\H2 bl=some (.lst (us.map V.str))/\us.head?=stepT S (some n) lb/\(∀ u∈us,PyData.strOk u=true/\∃ e,Tree e S u),?_,?_⟩
   ·rcases uW ok n with ⟨_,rows,att⟩|⟨_,not⟩
    ·rw [yZ ok att he2 ed2] at ht;obtain ⟨c,rs,ht1,hc,hrs⟩:=j5 ht;have rsl:rs.length=rows.length:=by rw [DtAll.length hrs,Q5]
     have rl:=Tree.row_len ok att;have sub:∀ r∈rows,PyData.strOk r.2=true/\∃ e,Tree e S r.2:=fun r hr=>by
      cases e with
      | zero=>exact absurd te (fun z=>z)
      | succ e =>
       rcases te with ⟨ls,z⟩|⟨rows2,z,h1,h2⟩
       ·cases z.thing ok att
       ·cases z.thing ok att;have t2:=(h2 r hr).2.1;obtain ⟨e9,he9,en9⟩:=Za.mp t2.mem;exact ⟨by rw [←en9];exact (ok.nm he9).ok,e,t2⟩
     refine ⟨_,rfl,t,_,_,_,rfl,rfl,ht1,rfl,rfl,true,?_,Uf ?_⟩
     ·show V.bl (decide (V.str "tree"=V.str "tree"))=V.bl true;rw [Zd rfl]
     refine ⟨_,rfl,t,_,_,_,rfl,rfl,ht1,rfl,c,rfl,⟨_,hc⟩,BQ (K:=K) (a:=c) (xs:=rs) (fun j ys σ H5=>∃ o,σ=[o,some (.str lb)]/\H5=H'/\ys=(uO (rows.take j) lb).map V.str) ⟨none,rfl,rfl,rfl⟩ (le_line (by omega)) ?_ ?_ ?_⟩
     ·rintro j ys σ H5 hj ⟨o,rfl,rfl,rfl⟩;refine ⟨hc,?_⟩;rw [Q5];unfold uO;rw [Q5];have:=List.length_filter_le (fun r:Str×Str=>decide (r.1=lb)) (rows.take j);rw [ZC] at this;omega
     ·rintro j v ys σ H5 hv ⟨o,rfl,rfl,rfl⟩;obtain ⟨r,c',hr',rfl,hc'⟩:=Xd hrs hv;refine ⟨_,rfl,c',_,_,_,rfl,rfl,hc',rfl,_,rfl,rfl,decide (r.1=lb),?_,Uk (fun z=>?_) (fun z=>?_)⟩
      ·congr 1
       show decide (V.str r.1=V.str lb)=decide (r.1=lb);rw [ZU,Zq,Zq,V.str.injEq]
      ·refine ⟨_,rfl,c',_,_,_,rfl,rfl,hc',rfl,_,rfl,rfl,?_⟩;unfold uO;rw [take_snoc hr',VO,List.filter_cons,Zz z,Zf,Zf];rfl
      ·refine ⟨_,rfl,rfl,?_⟩;unfold uO;rw [take_snoc hr',VO,List.filter_cons,Zy z];simp
     ·rintro ys σ H5 ⟨o,rfl,rfl,rfl⟩ p np;rw [rsl,ZA];refine ⟨p,uO rows lb,rfl,zF np,zB,by rw [BW,Xj ok att],fun u hu=>?_⟩;unfold uO at hu;obtain ⟨r,hr,rfl⟩:=Za.mp hu;exact sub r (V5.mp hr).1
    ·obtain ⟨ls2,atl⟩:∃ ls2,At S n (.leaf ls2):=by
      cases e with
      | zero=>exact absurd te (fun z=>z)
      | succ e =>
       rcases te with ⟨ls2,z⟩|⟨rows2,z,_⟩
       ·exact ⟨ls2,z⟩
       ·exact absurd z (not rows2)
     rw [yZ ok atl he2 ed2] at ht;obtain ⟨vv,ht3,hvv⟩:=vG ht;refine ⟨_,rfl,t,_,_,_,rfl,rfl,ht3,rfl,rfl,false,?_,Ug ⟨ZJ _,fun p np=>?_⟩⟩
     ·show V.bl (decide (V.str "leaf"=V.str "tree"))=V.bl false;rw [Zo (by intro z;injection z with z;exact absurd z (by decide +kernel))]
     exact ⟨p,[],rfl,zF np,zB,by rw [Id not];rfl,fun u hu=>absurd hu Yi⟩
   ·rintro σ' H2 ⟨bl,us,rfl,e2,hb,uh,uo⟩;refine ⟨_,rfl,ZJ _,fun l3 n3=>?_⟩;have u3:=zF (o:=.lst []) n3;refine ⟨.list (us.map .str),.list [],⟨bl,_,rfl,SqL.of (u3 _ _ hb),DtAll.strs _⟩,⟨l3,[],rfl,SqL.of zB,rfl⟩,(yD fun u hu=>(uo u hu).1).1,by decide +kernel,_,rfl,?_⟩;cases us with
    | nil =>
     have uh:none=stepT S (some n) lb:=uh;rw [←uh,kR] at eall;rw [eall] at k;exact Uf (k _ ((e'.trans e2).trans u3))
    | cons u us =>
     refine Ug ⟨_,rfl,bl,_,_,_,rfl,rfl,SqL.of (u3 _ _ hb),xI (j:=0) rfl,?_⟩;obtain ⟨e4,t4⟩:=(uo u (Zc ..)).2;exact ⟨_,_,_,u,e4,rfl,(e'.trans e2).trans u3,by rw [etk];exact uh,t4⟩
  ·rintro σ H' ⟨o4,o5,o6,n,e,rfl,e',en,te⟩;rw [Q5,ZA] at en;refine ⟨_,rfl,?_⟩;have:atT S x ls=some n:=en.symm;rw [this] at k;exact k H' e'
end g_name
end
end An06
namespace An
open PySem L2 AnJ
theorem GoodF.subs {n:Nat}{fs gs:List Fi}(g:GoodF n fs)(h:∀ k∈gs,k∈fs)(nd:(gs.map (·.1)).Nodup):GoodF n gs :=
 ⟨fun f hf=>g.lab f (h f hf),nd,fun f hf k hk t e=>g.pre f (h f hf) k (h k hk) t e⟩
theorem GoodF.one {n:Nat}{fs:List Fi}(g:GoodF n fs){f k:Fi}(hf:f∈fs)(hk:k∈fs)(e:f.1=k.1):f=k:=by
 obtain ⟨i,hi,rfl⟩:=ZO.mp hf;obtain ⟨j,hj,rfl⟩:=ZO.mp hk;have:=(Je (h₀:=by simpa using hi) (h₁:=by simpa using hj) g.nd).mp (by rw [ZQ,ZQ];exact e);subst this;rfl
theorem BU {n:Nat}{fs gs:List Fi}{f:Fi}(g:GoodF n fs)(h:∀ k∈gs,k∈fs)(nd:(gs.map (·.1)).Nodup)(hf:f∈fs) :
  (∀ k∈Ut gs f,k∈fs)/\((Ut gs f).map (·.1)).Nodup/\f∈Ut gs f/\∀ k∈gs,k∈Ut gs f:=by
 refine ⟨fun k hk=>(j9 hk).elim (h k) (fun z=>z▸hf),?_,?_,fun k hk=>?_⟩
 ·rw [IP]
  split
  ·exact nd
  ·rename_i z;exact jB nd z
 ·unfold Ut
  split
  ·rename_i z;obtain ⟨k,hk,e⟩:=Za.mp z;exact Za.mpr ⟨k,hk,Zz e⟩
  ·exact ZK _ (Q7.mpr rfl)
 ·unfold Ut
  split
  ·refine Za.mpr ⟨k,hk,?_⟩
   split
   ·rename_i e;exact g.one hf (h k hk) e.symm
   ·rfl
  ·exact Z5 _ hk
theorem wt_le {n:Nat}{fs:List Fi}(g:∀ f∈fs,f.1.length<=n):wt fs<=n*fs.length:=by
 unfold wt
 induction fs with
 | nil=>exact ZJ _
 | cons f fs ih =>
  have h1:=g f (Zc ..);have h2:=ih fun k hk=>g k (Zb _ hk);rw [Zw,YS,Zn,Nat.mul_succ];omega
theorem GoodF.wt {n:Nat}{fs:List Fi}(g:GoodF n fs):wt fs<=n*fs.length:=wt_le fun f hf=>(g.lab f hf).2.1
theorem paths_rise {n:Nat}{fs rs:List Fi}{ss:List Str}(g:GoodF n fs)(hr:rs.Pairwise fun f h=>ltS (pth f.1) (pth h.1))(e:∀ f,f∈rs↔f∈fs)(p:ss.Perm (fs.map fun f=>pth f.1))(so:PyProof.Rows.sortedS ss=true):rs.map (fun f=>pth f.1)=ss:=by
 have h1:(rs.map fun f=>pth f.1).Pairwise ltS:=Yl.mpr hr;have n1:(rs.map fun f=>pth f.1).Nodup:=ZH.mpr (h1.imp fun {a b} z=>Xu z);have n2:(fs.map fun f=>pth f.1).Nodup:=by
  have:=g.nd;rw [ZH,Yl] at this ⊢;refine this.imp_of_mem fun {a b} ha hb ne q=>ne (j4 (d:=0) (g.lab a ha).1 (g.lab b hb).1 (g.lab a ha).2.2.1 (g.lab b hb).2.2.1 q)
 refine Jb (le:=leS) (fun a b _ _ z q=>XZ z q) (h1.imp fun {a b} z q=>lt_asym z q) (UU so) ?_;refine ((YI n1 n2).mpr fun x=>?_).trans p.symm;rw [Za,Za];exact ⟨fun ⟨f,hf,q⟩=>⟨f,(e f).mp hf,q⟩,fun ⟨f,hf,q⟩=>⟨f,(e f).mpr hf,q⟩⟩
section
variable {K:ZZF}{H:Hp}{fs:List Fi}{kvs:List (Key×V)}
theorem FsAt.nd {n:Nat}(h:FsAt K H fs kvs)(g:GoodF n fs):(kvs.map (·.1)).Nodup:=by
 rw [h.keys];have:=g.nd;rw [ZH,Yl] at this ⊢;exact this.imp_of_mem fun {a b} ha hb ne q=>ne (j4 (d:=0) (g.lab a ha).1 (g.lab b hb).1 (g.lab a ha).2.2.1 (g.lab b hb).2.2.1 (Sum.inr.inj q))
theorem FsAt.at {n:Nat}(h:FsAt K H fs kvs)(g:GoodF n fs){f:Fi}(hf:f∈fs):∃ v,Uh kvs (.inr (pth f.1))=some v/\Dt K H (tupS f.2) v/\Uv f.2:=by
 obtain ⟨i,hi,rfl⟩:=ZO.mp hf;have hk:i<kvs.length:=by rw [h.len];exact hi
 obtain ⟨f',e1,e2,e3,e4⟩:=h.get (i:=i) (k:=kvs[i].1) (v:=kvs[i].2) (Zj hk);rw [Zj hi] at e1;cases e1;refine ⟨kvs[i].2,jG (h.nd g) ?_,e3,e4⟩;rw [←e2];exact Yz hk
theorem FsAt.kV (h:FsAt K H fs kvs):(kvs.map fun kv=>kV kv.1)=(fs.map fun f=>pth f.1).map V.str:=by
 have:(kvs.map fun kv=>L2.kV kv.1)=(kvs.map (·.1)).map L2.kV:=by rw [Zt];rfl
 rw [this,h.keys,Zt,Zt];rfl
theorem FsAt.allS (h:FsAt K H fs kvs):AllS kvs/\kvs.map Gk=fs.map fun f=>pth f.1:=by
 constructor
 ·intro kv hkv;have:kv.1∈kvs.map (·.1):=Za.mpr ⟨kv,hkv,rfl⟩;rw [h.keys] at this;obtain ⟨f,_,e⟩:=Za.mp this;unfold Gk;rw [←e]
 ·have e:kvs.map Gk=(kvs.map (·.1)).map fun k=>Gk (k,V.non):=by rw [Zt];rfl
  rw [e,h.keys,Zt];rfl
end
end An
namespace An06
open PySem L2 An
seal L2.PS L2.PSs L2.PE L2.PT L2.PW L2.PA L2.PG L2.PGs L2.PI L2.PFi L2.PC
def spTurned (K:ZZF):Sp:=fun vs H Q _=>∃ (c:Addr) (x:Int) (kvs:List (Key×V)) (fs:List Fi),vs=[.ref c,.int x]/\H c=some (.dK kvs)/\FsAt K H fs kvs/\GoodF 4 fs/\fs.length<=25/\∀ d kv2 gs H',Same H H'->H d=none->H' d=some (.dK kv2)->FsAt K H' gs kv2->GoodF 4 gs->(∀ f,f∈gs↔f∈fs)->List.length gs<=50->Q (.ref d) H'
section
variable {P:Program}{w:World}{K:ZZF}{mg:Str->Option Value}{base:Heap}{t1 t2 t3 t4 t5 t6 t7:Tok}{aL aC aN aT aA b1 b2:Addr}
namespace g_turned
abbrev st:Stmt:=top 66
theorem sc:FnScope ["_law_files","_law_cell","_law_paths","_law_turned_here","_law_k","_law_path"] ["_law_files","_law_cell"] (zG st):=QS0
theorem ok {f:Addr}{fd:FuncData}(F:Fun K "_law_turned" "_law_turned" st f fd)(T:Txt P w K mg t1 t2 t3 t4 t5 t6 t7 aL aC aN aT aA b1 b2):FnOk P w K mg base CX0 1 f fd ["_law_files","_law_cell"] (spTurned K):=by
 refine F.ok sc (fun vs H Q E h=>?_) (fun cdv A outer s H vs Q E hr h=>?_)
 ·obtain ⟨c,x,kvs,fs,rfl,_⟩:=h;rfl
 ·obtain ⟨c,x,kvs,fs,rfl,hc,ff,gf,fl,k⟩:=h;refine ⟨_,(zD (zP (i:=2) sc.nd rfl (Or.inl rfl) (zZ (xT rfl) (by rfl) T.list Z4 (zA (pv 0) zC)))
   (zD (zP (i:=3) sc.nd rfl (Or.inl rfl) xO)
   (zD (yW PassesOwn.never rfl (kH rfl T.range (zA (zK zY (by rfl) T.len ZS (zA (pv 2) zC)) zC)) (zQ (i:=4) sc.nd rfl (Or.inl rfl))
    (zD (zP (i:=5) sc.nd rfl (Or.inl rfl) (z8 (ix_list:IxR _ (rIxL K)) (pv 2) (z7 jL (z7 qA (z7 vP (pv 4) (z7 qA zI (z7 vP (z7 jL (pv 1) zI) (z7 op_sub (zK zY (by rfl) T.len ZS (zA (pv 2) zC)) zI)))) (pv 1)) (zK zY (by rfl) T.len ZS (zA (pv 2) zC))) (fun _ _=>rfl)))
    (zE (xF hr.units1 (pv 3) (pv 5) (j2 hr.units1 (pv 0) (pv 5) (fun _ _=>rfl)) rfl))))
   (zD (k6 (yW PassesOwn.never rfl (vO (uM (pv 0))) (zQ (i:=5) sc.nd rfl (Or.inl rfl))
    (zE (xF hr.units1 (pv 3) (pv 5) (j2 hr.units1 (pv 0) (pv 5) (fun _ _=>rfl)) rfl))))
   (zE (zL (pv 3))))))),?_⟩
  refine ⟨_,rfl,c,kvs,rfl,.inl hc,fun l nl d nd=>?_⟩;rw [ff.kV] at nd ⊢;have dl:d≠l:=fun z=>by rw [z,zB] at nd;cases nd
  have nd0:H d=none:=by rw [zH dl] at nd;exact nd
  have dc:d≠c:=fun z=>by rw [z,hc] at nd0;cases nd0
  have ul:=zF (o:=.lst ((fs.map fun f=>pth f.1).map V.str)) nl;have ud:=zF (o:=.dK []) nd;have hl0:=ud _ _ (zB (H:=H) (a:=l) (o:=.lst ((fs.map fun f=>pth f.1).map V.str)));have kl:=ff.len;refine ⟨_,rfl,l,_,rfl,.inl (SqL.of hl0),_,rfl,by omega,by rw [Q5,Q5];omega,?_⟩;rw [Q5,Q5];refine GX (lo:=0) (n:=((fs.length:Nat):Int).toNat) (fun i σ H'=>∃ o4 o5 kv2 gs,σ=[some (.ref c),some (.int x),some (.ref l),some (.ref d),o4,o5]/\Same H H'/\H' l=some (.lst ((fs.map fun f=>pth f.1).map V.str))/\H' d=some (.dK kv2)/\FsAt K H' gs kv2/\(∀ k∈gs,k∈fs)/\(gs.map (·.1)).Nodup/\gs.length<=i) ⟨none,none,[],[],rfl,ul.trans ud,hl0,zB,FsAt.nil,fun k hk=>(nomatch hk),YE,ZJ _⟩ ?_ ?_
  ·rintro i σ H' hi ⟨o4,o5,kv2,gs,rfl,e,hl,hd,fg,sg,ng,lg⟩;have hi:i<fs.length:=by omega
   have sq:SqL K H' l ((fs.map fun f=>pth f.1).map V.str):=SqL.of hl;refine ⟨_,rfl,_,rfl,_,rfl,_,_,rfl,rfl,(by show (0:Int)<2;decide),_,rfl,l,_,rfl,.inl sq,_,_,rfl,rfl,_,_,rfl,rfl,?_⟩;rw [Q5,Q5];refine ⟨.inl ⟨by omega,by omega⟩,_,_,rfl,rfl,_,_,rfl,rfl,.inl ⟨by omega,by omega⟩,_,rfl,_,_,rfl,rfl,_,rfl,l,_,rfl,.inl sq,?_⟩;rw [Q5,Q5];have pos:(0:Int)<(fs.length:Int):=by omega
   refine ⟨_,_,rfl,rfl,pos,?_⟩;generalize ix:(0+(i:Int))*(1+x % 2*((fs.length:Int)-2))+x=z;obtain ⟨p,hp,ep⟩:=at_map (f:=V.str) (xs:=fs.map fun f=>pth f.1) (i:=z % (fs.length:Int)) (Int.emod_nonneg _ (by omega)) (by rw [Q5];exact Int.emod_lt_of_pos _ pos);rw [Zl] at hp;obtain ⟨f,hf,rfl⟩:=ZM.mp hp;have hfm:=Zk hf;have ff':=ff.same e;obtain ⟨v,hv,dv,ln⟩:=ff'.at gf hfm;obtain ⟨i1,i2,i3,i4⟩:=BU gf sg ng hfm;obtain ⟨f0,f4,fb,_⟩:=gf.lab f hfm;refine ⟨l,_,_,_,rfl,rfl,sq,ep,_,rfl,_,rfl,c,v,rfl,by rw [←hv];exact DGet.k (k:=.inr (pth f.1)) (e _ _ hc),_,rfl,_,rfl,d,_,rfl,DPut.k (k:=.inr (pth f.1)) hd (yR (by have:=fg.len;omega)),?_⟩;refine ⟨_,_,_,Ut gs f,rfl,An.Same.updF e nd0,by rw [zH dl.symm];exact hl,zB,(fg.put (gf.subs sg ng) f0 fb dv ln).off (zN hd) zU,i1,i2,?_⟩;have:=U9 gs f;omega
  ·rintro σ H' ⟨o4,o5,kv2,gs,rfl,e,hl,hd,fg,sg,ng,lg⟩;have hc':=e _ _ hc;refine ⟨_,rfl,c,kvs,rfl,hc',fun ob=>?_⟩;have hc1:upd H' c (.frz ob (.dK kvs)) c=some (.frz ob (.dK kvs)):=zB;have oc:Off [c] H' (upd H' c (.frz ob (.dK kvs))):=zU;have ntc:=zN hc';have ff1:=(ff.same e).off ntc oc;have fg1:=fg.off ntc oc;have n0:∀ o u,H c≠some (.frz o u):=fun o u z=>by rw [hc] at z;cases z
   refine ⟨c,ob,kvs,rfl,hc1,vC (fun i σ H2=>∃ o4 o5 kv2 gs,σ=[some (.ref c),some (.int x),some (.ref l),some (.ref d),o4,o5]/\Off [d] (upd H' c (.frz ob (.dK kvs))) H2/\H2 d=some (.dK kv2)/\FsAt K H2 gs kv2/\(∀ k∈gs,k∈fs)/\(gs.map (·.1)).Nodup/\(∀ k∈fs.take i,k∈gs)/\gs.length<=fs.length+i) ⟨_,_,kv2,gs,rfl,Off.refl _ _,by rw [zH dc];exact hd,fg1,sg,ng,fun k hk=>(nomatch hk),by omega⟩ (fun i σ H2 hi ⟨_,_,_,_,_,o2,_⟩=>o2 _ _ (fun z=>dc (Q7.mp z).symm) hc1) ?_ ?_⟩
   ·rintro i kk v σ H2 hi ⟨o4,o5,kv3,gs3,rfl,o2,hd2,fg2,sg2,ng2,tk,lg2⟩;have il:=(Zr.mp hi).1;have hc2:=o2 _ _ (fun z=>dc (Q7.mp z).symm) hc1;have ntd:∀ b∈[d],∀ xs,¬Rd (upd H' c (.frz ob (.dK kvs))) b (.tup xs):=zN (show upd H' c (.frz ob (.dK kvs)) d=some (.dK kv2) by rw [zH dc];exact hd);have ff2:=ff1.off ntd o2;obtain ⟨f,hf,rfl,dv,ln⟩:=ff2.get hi;have hfm:=Zk hf;obtain ⟨i1,i2,i3,i4⟩:=BU gf sg2 ng2 hfm;obtain ⟨f0,f4,fb,_⟩:=gf.lab f hfm;have vv:=jG (ff2.nd gf) (Zk hi);refine ⟨_,rfl,_,rfl,c,v,rfl,.inl ⟨kvs,.inr (pth f.1),.inr ⟨ob,hc2⟩,rfl,vv.symm⟩,_,rfl,_,rfl,d,_,rfl,DPut.k (k:=.inr (pth f.1)) hd2 (yR (by have:=fg2.len;omega)),?_⟩;refine ⟨_,_,_,Ut gs3 f,rfl,o2.trans zU,zB,(fg2.put (gf.subs sg2 ng2) f0 fb dv ln).off (zN hd2) zU,i1,i2,fun k hk=>?_,?_⟩
    ·rw [take_snoc hf] at hk
     rcases Zs.mp hk with z|z
     ·exact i4 k (tk k z)
     ·rw [Q7.mp z];exact i3
    ·have:=U9 gs3 f;omega
   ·rintro σ H2 ⟨o4,o5,kv3,gs3,rfl,o2,hd2,fg2,sg2,ng2,tk,lg2⟩;have hc2:=o2 _ _ (fun z=>dc (Q7.mp z).symm) hc1;rw [kl,ZA] at tk;refine ⟨c,ob,kvs,hc2,n0,_,rfl,?_⟩;refine k d kv3 gs3 _ (fun b o eb=>?_) nd0 (by rw [zH dc];exact hd2) (fg2.off (Gz hc2) zU) (gf.subs sg2 ng2) (fun f=>⟨sg2 f,tk f⟩) (by omega)
    by_cases z:b=c
    ·rw [z,zB];rw [z,hc] at eb;exact eb
    ·rw [zH z];exact o2 b o (fun q=>by rw [Q7.mp q,nd0] at eb;cases eb) (by rw [zH z];exact e _ _ eb)
end g_turned
end
end An06
namespace L2
open PySem PySem.Spec PyProof.Rows
section
variable {X:Cx}{K:ZZF}
theorem op_eqDK (hu:X.A.units+64<cLine)(hK:X.K=K:=by rfl):OpR X (compareOp .Eq) (rEqD K):=by
 subst hK;exact op_eqD hu
end
end L2
namespace An06
open PySem L2 An
seal L2.PS L2.PSs L2.PE L2.PT L2.PW L2.PA L2.PG L2.PGs L2.PI L2.PFi L2.PC
theorem pth_mem:∀ {p:List Str} {c:Nat},c∈cs (pth p)->c=47\/∃ l∈p,c∈cs l
 | [],c,h=>by
  have e:cs (pth [])=[]:=by decide +kernel
  rw [e] at h;exact absurd h Yi
 | [l],c,h=>by
  rw [XL] at h;exact .inr ⟨l,Q7.mpr rfl,h⟩
 | l::b::r,c,h=>by
  rw [qC l (ZR b r)] at h
  rcases Zs.mp h with h|h
  ·exact .inr ⟨l,Zc ..,h⟩
  ·rcases Zi.mp h with h|h
   ·exact .inl h
   ·rcases pth_mem h with q|⟨m,hm,q⟩
    ·exact .inl q
    ·exact .inr ⟨m,Zb _ hm,q⟩
theorem pth_ok {p:List Str}(h:∀ l∈p,zS l=true):PyData.strOk (pth p)=true:=by
 rw [xC];intro c hc
 rcases pth_mem hc with q|⟨l,hl,q⟩
 ·omega
 ·exact ((xC _).mp (Xa (h l hl)).ok) c q
theorem comp_keys0 {d:Addr}{kvs:List (Key×V)}{ob:Obj}{src:List (Option Nat)}{g:TG}{te:TE}{Q:VK}{σ:St}{H:Hp}(Pv:Nat->List V->St->Hp->Prop)(h0:Pv 0 [] (Us src σ) H)(hz:kvs.length<=sizeLine)(hl:∀ i ys σ H,i<=kvs.length->Pv i ys σ H->H d=some (.frz ob (.dK kvs))/\ys.length<=i)
  (hs:∀ i k v ys σ H,kvs[i]?=some (k,v)->Pv i ys σ H->g (kV k) σ H fun σ2 H3=>te σ2 H3 fun y H5=>Pv (i+1) (ys++[y]) σ2 H5)
  (hd:∀ ys σ H,Pv kvs.length ys σ H->∀ p,H p=none->Q (.ref p) (upd H p (.lst ys))):UE src (ItK d kvs ob) g Ic te Q σ H :=
 comp_keys Pv h0 hz hl (fun i k v ys σ H e p=>by rw [IF];exact hs i k v ys σ H e p) hd
def spSame (K:ZZF):Sp:=fun vs H Q _=>∃ (c d:Addr) (kv1 kv2:List (Key×V)) (rs fs:List Fi),vs=[.ref c,.ref d]/\H c=some (.dK kv1)/\FsAt K H rs kv1/\rs.Pairwise (fun f h=>ltS (pth f.1) (pth h.1))/\(∀ f,f∈rs↔f∈fs)/\H d=some (.dK kv2)/\FsAt K H fs kv2/\GoodF 4 fs/\c≠d/\fs.length<=60/\∀ H',Same H H'->Q (.bl true) H'
section
variable {P:Program}{w:World}{K:ZZF}{mg:Str->Option Value}{base:Heap}{t1 t2 t3 t4 t5 t6 t7:Tok}{aL aC aN aT aA b1 b2:Addr}
namespace g_same
abbrev st:Stmt:=top 64
theorem sc:FnScope ["_law_found","_law_files"] ["_law_found","_law_files"] (zG st):=QS0
theorem ok {f:Addr}{fd:FuncData}(F:Fun K "_law_same" "_law_same" st f fd)(T:Txt P w K mg t1 t2 t3 t4 t5 t6 t7 aL aC aN aT aA b1 b2):FnOk P w K mg base CX0 1 f fd ["_law_found","_law_files"] (spSame K):=by
 refine F.ok sc (fun vs H Q E h=>?_) (fun cdv A outer s H vs Q E hr h=>?_)
 ·obtain ⟨c,d,kv1,kv2,rs,fs,rfl,_⟩:=h;rfl
 ·obtain ⟨c,d,kv1,kv2,rs,fs,rfl,hc,fr,rr,me,hd,ff,gf,cd,fl,k⟩:=h;refine ⟨_,(zD (yI (PW.pt (j8 (y9 (zX (K:=K) (zK (CallR.or (zV (K:=K)) (jA (K:=K))) (by rfl) T.isinstance Zx (zA (pv 0) (zA (yS (v:=.ty "dict") rfl T.dict Jt rfl) zC))) (fun _=>rfl))) (qZ (zW (X1 hr.units) (zZ (xT rfl) (by rfl) T.list Z4 (zA (pv 0) zC)) (zK (Bh rfl) (by rfl) T.sorted JX (zA (pv 1) zC)) (zT _)))))
    (zE (zL x5))
    zR)
   (zE (zL (zK (x6 rfl) (by rfl) T.all Yu (zA (pe_thaw (y6 (sc:=zG st) (N:=["_law_found","_law_files"]) (N':=["_law_path","_law_found","_law_files"]) (src:=[none,some 0,some 1]) ⟨by decide +kernel,rfl,rfl,by decide +kernel,by decide +kernel,by decide +kernel,by decide +kernel⟩ rfl rfl rfl (vO (uM (pv 1))) (fun _ _ _ _=>(zQ (i:=0) (show (["_law_path","_law_found","_law_files"]:List Str).Nodup by decide +kernel) rfl (Or.inl rfl))) (fun _ _ _ _=>xU) (fun _ _ _ _=>(yV (zK (CallR.or (zV (K:=K)) (jA (K:=K))) (by rfl) T.isinstance Zx (zA (j2 hr.units1 (pv 1) (pv 0) (fun _ _=>rfl)) (zA (yS (v:=.ty "tuple") rfl T.tuple Yj rfl) zC))) (xK (yH (op_eqDK (K:=K) hr.units) (j2 hr.units1 (pv 1) (pv 0) (fun _ _=>rfl)) (j2 hr.units1 (pv 2) (pv 0) (fun _ _=>rfl)) (zT _))))))) zC))))),?_⟩
  have gr:GoodF 4 rs:=gf.subs (fun f hf=>(me f).mp hf) (ZH.mpr (Yl.mpr (rr.imp fun {a b} (z:ltS (pth a.1) (pth b.1)) (q:a.1=b.1)=>Xu z (by rw [q]))));refine ⟨_,rfl,.inr ⟨c,"dict",kv1,_,rfl,.inl hc,T.kit _ (by simp [kinds]) _ (by simp [kinds]),_,rfl,Ug ?_⟩⟩;refine ⟨_,rfl,c,kv1,rfl,.inl hc,fun l nl=>?_⟩;rw [fr.kV];have ul:=zF (o:=.lst ((rs.map fun f=>pth f.1).map V.str)) nl;refine ⟨_,rfl,d,kv2,rfl,.inl (ul _ _ hd),ff.allS.1,by have:=ff.len;omega,fun l2 ss n2 pm so=>?_⟩;rw [ff.allS.2] at pm;have es:=paths_rise gf rr me pm so;have u2:=zF (o:=.lst (ss.map V.str)) n2;have so1:∀ p∈rs.map (fun f=>pth f.1),PyData.strOk p=true:=fun p hp=>by
   obtain ⟨f,hf,rfl⟩:=Za.mp hp;exact pth_ok (gr.lab f hf).2.2.1
  refine ⟨.list ((rs.map fun f=>pth f.1).map .str),.list (ss.map .str),⟨l,_,rfl,SqL.of (u2 _ _ zB),DtAll.strs _⟩,⟨l2,_,rfl,SqL.of zB,DtAll.strs _⟩,(yD so1).1,(yD (by rw [←es];exact so1)).1,_,rfl,Uk (fun z=>?_) (fun _=>?_)⟩
  ·exfalso;rw [←es] at z;have z:(!PyData.eqvAll _ _)=true:=z;rw [xP,Zd rfl] at z;cases z
  have e2:=ul.trans u2;have hd2:=e2 _ _ hd;have hc2:=e2 _ _ hc;have fr2:=fr.same e2;have ff2:=ff.same e2;generalize upd (upd H l (.lst ((rs.map fun f=>pth f.1).map V.str))) l2 (.lst (ss.map V.str))=H2 at e2 hd2 hc2 fr2 ff2 ⊢;refine ⟨_,rfl,d,kv2,rfl,hd2,fun ob=>?_⟩;have hd3:upd H2 d (.frz ob (.dK kv2)) d=some (.frz ob (.dK kv2)):=zB;have hc3:upd H2 d (.frz ob (.dK kv2)) c=some (.dK kv1):=by rw [zH cd];exact hc2
  have od:Off [d] H2 (upd H2 d (.frz ob (.dK kv2))):=zU;have fr3:=fr2.off (zN hd2) od;have ff3:=ff2.off (zN hd2) od;have n0:∀ o u,H d≠some (.frz o u):=fun o u z=>by rw [hd] at z;cases z
  refine ⟨d,ob,kv2,rfl,hd3,comp_keys0 (fun i ys σ H'=>∃ o,σ=[o,some (.ref c),some (.ref d)]/\Same (upd H2 d (.frz ob (.dK kv2))) H'/\ys.length=i/\∀ y∈ys,y=V.bl true) ⟨none,rfl,Same.refl _,rfl,fun y hy=>(nomatch hy)⟩ (le_line (by have:=ff.len;omega)) ?_ ?_ ?_⟩
  ·rintro i ys σ H' hi ⟨o,rfl,e',yl,_⟩;exact ⟨e' _ _ hd3,by omega⟩
  ·rintro i kk v ys σ H' hi ⟨o,rfl,e',yl,yt⟩;obtain ⟨f,hf,rfl,dv,ln⟩:=(ff3.same e').get hi;have hfm:=Zk hf;obtain ⟨v1,hv1,dv1,_⟩:=(fr3.same e').at gr ((me f).mpr hfm);have vv:=jG ((ff3.same e').nd gf) (Zk hi);have sh:SeqAt.shaped (AnJ.tupS f.2)=true:=(yD fun p hp=>(X7 (ln.2 p hp)).ok).2;have g1:DGet H' c (kV (.inr (pth f.1))) (some v1):=by rw [←hv1];exact DGet.k (k:=.inr (pth f.1)) (e' _ _ hc3)
   refine ⟨_,rfl,_,rfl,c,v1,rfl,g1,.inl ⟨v1,"tuple",AnJ.tupS f.2,_,rfl,Dt.dw dv1,T.kit _ (by show "tuple"∈kinds;simp [kinds]) _ (by simp [kinds]),_,rfl,Uf ?_⟩⟩;refine ⟨_,rfl,_,rfl,c,v1,rfl,g1,_,rfl,_,rfl,d,v,rfl,.inl ⟨kv2,.inr (pth f.1),.inr ⟨ob,e' _ _ hd3⟩,rfl,vv.symm⟩,AnJ.tupS f.2,AnJ.tupS f.2,dv1,dv,sh,sh,_,rfl,e',by rw [Zh,yl];rfl,fun y hy=>?_⟩
   rcases Zs.mp hy with q|q
   ·exact yt y q
   ·rw [Q7.mp q];show V.bl (PyData.eqvAll _ _)=_;rw [xP,Zd rfl]
  ·rintro ys σ H' ⟨o,rfl,e',yl,yt⟩ p np;have pd:p≠d:=fun z=>by rw [z,e' _ _ hd3] at np;cases np
   have ey:ys=(List.replicate ys.length true).map V.bl:=by
    rw [VP];exact Vp.mpr ⟨rfl,yt⟩
   refine ⟨d,ob,kv2,by rw [zH pd.symm];exact e' _ _ hd3,n0,p,List.replicate ys.length true,rfl,SqL.of (by rw [zH pd,zB];exact congrArg (fun z=>some (HO.lst z)) ey),?_⟩;have ea:(List.replicate ys.length true).all id=true:=ZI.mpr fun b hb=>by rw [J0 hb];rfl
   rw [ea];exact k _ (e2.trans (kS hd2 (e'.trans (zF np))))
end g_same
end
end An06
namespace An06
open PySem L2 An
seal L2.PS L2.PSs L2.PE L2.PT L2.PW L2.PA L2.PG L2.PGs L2.PI L2.PFi L2.PC
theorem Bx {S:List En}(ok:OkS S):∀ (ls:List Str) {x n:Str} {d:Nat},Tree d S x->atT S x ls=some n->∃ e,Tree e S n
 | [],x,n,d,t,h=>by
  have h:some x=some n:=h;cases h;exact ⟨d,t⟩
 | l::ls,x,n,d,t,h=>by
  have h:ls.foldl (stepT S) (stepT S (some x) l)=some n:=h;cases q:stepT S (some x) l with
  | none=>rw [q,kR] at h;cases h
  | some m =>
   rw [q] at h
   rcases uW ok x with ⟨_,rows,att⟩|⟨_,not⟩
   ·rw [Xj ok att] at q;have hm:=GZ q;cases d with
    | zero=>exact absurd t (fun z=>z)
    | succ d =>
     rcases t with ⟨ls2,z⟩|⟨rows2,z,h1,h2⟩
     ·cases z.thing ok att
     ·cases z.thing ok att;exact Bx ok ls (h2 _ hm).2.1 h
   ·rw [Id not] at q;cases q
theorem oV_dt {K:ZZF}{H:Hp}(o:Option Str):Dt K H (oDS o) (oV o):=by
 cases o<;>rfl
theorem oDS_ok {S:List En}(ok:OkS S){o:Option Str}(h:∀ n,o=some n->n∈S.map En.nm):SeqAt.shaped (oDS o)=true/\PyData.eqv (oDS o) (oDS o)=true:=by
 cases o with
 | none=>exact ⟨by decide +kernel,by decide +kernel⟩
 | some n =>
  obtain ⟨e,he,en⟩:=Za.mp (h n rfl);refine ⟨shaped_of (show PyData.strOk n=true by rw [←en];exact (ok.nm he).ok) (ZJ _),?_⟩;show (n==n)=true;exact beq_self_eq_true n
def hdL (ls:List Str):Str:=ls.headD ""
def spStand (P:Program)(w:World)(K:ZZF)(C:Addr):Sp:=fun vs H Q _=>∃ (a l:Addr) (fp:List Addr) (S:List En) (x:Str) (d:Nat) (rows:List (Str×Str)) (lss:List (List Str)),vs=[.ref a,.str x,.ref l]/\ShAt P w K C H a fp S/\OkS S/\Tree d S x/\At S x (.tree rows)/\H l=some (.lst (lss.map fun ls=>V.str (pth ls)))/\(∀ ls∈lss,LbOk ls)/\lss.length<=400/\∀ H',Same H H'->Q (.bl true) H'
section
variable {P:Program}{w:World}{K:ZZF}{mg:Str->Option Value}{base:Heap}{t1 t2 t3 t4 t5 t6 t7:Tok}{aL aC aN aT aA b1 b2:Addr}
namespace g_stand
abbrev st:Stmt:=top 69
theorem sc:FnScope ["_law_shelf","_law_root","_law_paths","_law_path"] ["_law_shelf","_law_root","_law_paths"] (zG st):=QS0
theorem ok {f:Addr}{fd:FuncData}(F:Fun K "_law_stand" "_law_stand" st f fd)(T:Txt P w K mg t1 t2 t3 t4 t5 t6 t7 aL aC aN aT aA b1 b2)(Qg:CalX P w K mg base 7 "found_at" ["store","root","path"] (XM P w K aC aN))(Qz:Cal P w K mg base 5 "_law_name" ["_law_store","_law_root","_law_labels"] (spName P w K aC)):FnOk P w K mg base CX0 8 f fd ["_law_shelf","_law_root","_law_paths"] (spStand P w K aC):=by
 refine F.ok sc (fun vs H Q E h=>?_) (fun cdv A outer s H vs Q E hr h=>?_)
 ·obtain ⟨a,l,fp,S,x,d,rows,lss,rfl,_⟩:=h;rfl
 ·obtain ⟨a,l,fp,S,x,d,rows,lss,rfl,sh,ok,tr,att,hl,lb,ln,k⟩:=h;refine ⟨_,(zD (yW PassesOwn.never rfl (qL (z7 vQ (pv 2) (y6 (sc:=zG st) (N:=["_law_shelf","_law_root","_law_paths","_law_path"]) (N':=["_law_path"]) (src:=[none]) ⟨by decide +kernel,rfl,rfl,by decide +kernel,by decide +kernel,by decide +kernel,by decide +kernel⟩ rfl rfl rfl (qL (pv 2)) (fun _ _ _ _=>(zQ (i:=0) (show (["_law_path"]:List Str).Nodup by decide +kernel) rfl (Or.inl rfl))) (fun _ _ _ _=>xU) (fun _ _ _ _=>(z8 (ix_tup:IxR _ (Ui K)) (pe_bmK (K:=K) Z0 JH JI kN (pv 0) (zA pe_str zC)) zI (fun _ _=>rfl)))))) (zQ (i:=3) sc.nd rfl (Or.inl rfl))
    (zE (yI (zW (X1 hr.units) (yB Qg hr.m zO (zA (pv 0) (zA (pv 1) (zA (pv 3) zC)))) (zJ Qz hr.m (zA (pv 0) (zA (pv 1) (zA (k9 Z0 Jr Js uR (pv 3) (zA pe_str zC)) zC)))) (zT _))
     (zE (zL x5))
     zR)))
   (zE (zL x5))),?_⟩
  refine ⟨_,rfl,_,rfl,l,rfl,⟨_,SqL.of hl⟩,jS (K:=K) (a:=l) (xs:=lss.map fun ls=>V.str (pth ls)) (fun i ys σ H'=>∃ o,σ=[o]/\Same H H'/\ys=(lss.take i).map fun ls=>V.str (hdL ls)) ⟨none,rfl,Same.refl _,rfl⟩ (le_line (by rw [Q5];omega)) ?_ ?_ ?_⟩
  ·rintro i ys σ H' hi ⟨o,rfl,e',rfl⟩;refine ⟨e'.seq (SqL.of hl),?_⟩;rw [Q5,ZC];omega
  ·rintro i v ys σ H' hv ⟨o,rfl,e',rfl⟩;rw [Zl] at hv;obtain ⟨ls,hls,rfl⟩:=ZM.mp hv;obtain ⟨l0,l4,lbl⟩:=lb ls (Zk hls);have pl:=vA l4 lbl;have fin:∀ H2,Same H' H2->∃ o,[some (V.str (pth ls))]=[o]/\Same H H2/\(lss.take i).map (fun ls=>V.str (hdL ls))++[V.str (hdL ls)]=(lss.take (i+1)).map fun ls=>V.str (hdL ls):=fun H2 e2=>⟨_,rfl,e'.trans e2,by rw [take_snoc hls,Zf];rfl⟩;cases ls with
   | nil=>exact absurd rfl l0
   | cons y r =>
    have lby:=lbl y (Zc ..);cases r with
    | nil =>
     rw [kM] at fin ⊢;refine ⟨_,rfl,rfl,.inr ⟨y,47,rfl,sl47,yT lby,fun p np=>⟨p,_,_,_,rfl,rfl,SqT.of zB,rfl,fin _ (zF np)⟩⟩⟩
    | cons b r =>
     have ep:=pth_two y b r;refine ⟨_,rfl,rfl,.inl ⟨y,pth (b::r),47,by rw [ep],sl47,yT lby,by rw [←ep];omega,fun p np=>⟨p,_,_,_,rfl,rfl,SqT.of zB,rfl,fin _ (zF np)⟩⟩⟩
  ·rintro ys σ H' ⟨o,rfl,e',rfl⟩ p np;have up:=zF (o:=.lst ((lss.take (lss.map fun ls=>V.str (pth ls)).length).map fun ls=>V.str (hdL ls))) np;rw [Q5,ZA] at up ⊢;refine ⟨l,p,_,_,rfl,rfl,up _ _ (e' _ _ hl),zB,le_line (by rw [Q5,Q5];omega),fun q nq=>?_⟩;have e2:=e'.trans (up.trans (zF nq (o:=.lst ((lss.map fun ls=>V.str (pth ls))++lss.map fun ls=>V.str (hdL ls)))));have eL:((lss.map fun ls=>V.str (pth ls))++lss.map fun ls=>V.str (hdL ls))=(lss++lss.map fun ls=>[hdL ls]).map fun ls=>V.str (pth ls):=by
    rw [Zf,Zt]
    congr 1
   rw [eL] at e2 ⊢;have lb2:∀ ls∈lss++lss.map (fun ls=>[hdL ls]),LbOk ls:=fun ls h=>by
    rcases Zs.mp h with h|h
    ·exact lb ls h
    ·obtain ⟨m,hm,rfl⟩:=Za.mp h;obtain ⟨l0,_,lbl⟩:=lb m hm;cases m with
     | nil=>exact absurd rfl l0
     | cons y r=>exact ⟨ZR _ _,by show 1<=4;decide,fun z hz=>by rw [Q7.mp hz];exact lbl y (Zc ..)⟩
   have hq:upd (upd H' p (.lst (lss.map fun ls=>V.str (hdL ls)))) q (.lst ((lss++lss.map fun ls=>[hdL ls]).map fun ls=>V.str (pth ls))) q=some (.lst ((lss++lss.map fun ls=>[hdL ls]).map fun ls=>V.str (pth ls))):=zB;generalize lss++lss.map (fun ls=>[hdL ls])=mss at e2 lb2 hq ⊢;generalize upd (upd H' p (.lst (lss.map fun ls=>V.str (hdL ls)))) q (.lst (mss.map fun ls=>V.str (pth ls)))=H2 at e2 hq ⊢;refine ⟨q,rfl,⟨_,SqL.of hq⟩,kI (K:=K) (a:=q) (xs:=mss.map fun ls=>V.str (pth ls)) (fun i σ H3=>∃ o,σ=[some (.ref a),some (.str x),some (.ref l),o]/\Same H2 H3) ⟨none,rfl,Same.refl _⟩ (fun i σ H3 _ ⟨_,_,e3⟩=>e3.seq (SqL.of hq)) ?_ ?_⟩
   ·rintro i v σ H3 hv ⟨o,rfl,e3⟩;rw [Zl] at hv;obtain ⟨ls,hls,rfl⟩:=ZM.mp hv;obtain ⟨l0,l4,lbl⟩:=lb2 ls (Zk hls);have pl:=vA l4 lbl;have lp:labs (pth ls)=ls:=qK l0 fun y hy=>yT (lbl y hy);have sh3:=sh.same (e2.trans e3);refine ⟨_,rfl,_,rfl,_,rfl,a,fp,S,x,pth ls,rfl,sh3,ok,GT l0 l4 lbl,pl,.inl ⟨d,rows,att,tr,fun H4 e4=>?_⟩⟩;rw [lp];refine ⟨_,rfl,_,rfl,_,rfl,rfl,pth ls,47,rfl,sl47,by omega,fun l5 n5=>?_⟩;rw [Bc,lp];have u5:=zF (o:=.lst (ls.map V.str)) n5;refine ⟨a,l5,fp,S,x,ls,d,rfl,(sh3.same e4).same u5,ok,tr,SqL.of zB,fun H6 e6=>?_⟩;have dk:=oDS_ok (o:=atT S x ls) ok fun n hn=>by
     obtain ⟨e,te⟩:=Bx ok ls tr hn;exact te.mem
    refine ⟨oDS (atT S x ls),oDS (atT S x ls),oV_dt _,oV_dt _,dk.1,dk.1,_,rfl,Uk (fun z=>?_) (fun _=>⟨_,rfl,((e3.trans e4).trans u5).trans e6⟩)⟩;exfalso;rw [dk.2] at z;cases z
   ·rintro σ H3 ⟨o,rfl,e3⟩;exact k H3 (e2.trans e3)
end g_stand
end
end An06
namespace L2
open PySem PySem.Spec PyProof.Rows
section
variable {X:Cx}
def rNeR (K:ZZF):R2:=fun x y H Q=>∃ a b ka kb r,x=.ref a/\y=.ref b/\Rd H a (.dK ka)/\Rd H b (.dK kb)/\Hits K H kb ka r/\Q (.bl (!(ka.length==kb.length&&r))) H
theorem op_neR (hu:X.A.units+128<cLine):OpR X (compareOp .NotEq) (rNeR X.K):=by
 intro pins s σ H x y v u Q I rx ry h;obtain ⟨a,b,ka,kb,r,rfl,rfl,ha,hb,hh,q⟩:=h;cases rx;cases ry;obtain ⟨va,_,ra,da,sa,_⟩:=Xr I ha;obtain ⟨vb,_,rb,db,sb,_⟩:=Xr I hb;have la:ka.length=va.length:=Paired.length ra;have lb:kb.length=vb.length:=Paired.length rb;refine PySem.W.keq_ne sa sb da.dictOf db.dictOf (by omega) (fun _=>hh.keq I (by show X.A.units+1+64<cLine;omega) rb ra) ⟨.bl _,H,I,?_,q⟩;rw [la,lb];rfl
def rEqR (K:ZZF):R2:=fun x y H Q=>∃ a b ka kb r,x=.ref a/\y=.ref b/\Rd H a (.dK ka)/\Rd H b (.dK kb)/\Hits K H kb ka r/\Q (.bl (ka.length==kb.length&&r)) H
theorem op_eqR (hu:X.A.units+128<cLine):OpR X (compareOp .Eq) (rEqR X.K):=by
 intro pins s σ H x y v u Q I rx ry h;obtain ⟨a,b,ka,kb,r,rfl,rfl,ha,hb,hh,q⟩:=h;cases rx;cases ry;obtain ⟨va,_,ra,da,sa,_⟩:=Xr I ha;obtain ⟨vb,_,rb,db,sb,_⟩:=Xr I hb;have la:ka.length=va.length:=Paired.length ra;have lb:kb.length=vb.length:=Paired.length rb;refine PySem.W.keq_eq sa sb da.dictOf db.dictOf (by omega) (fun _=>hh.keq I (by show X.A.units+1+64<cLine;omega) rb ra) ⟨.bl _,H,I,?_,q⟩;rw [la,lb];rfl
end
end L2
namespace An
open PySem L2 AnJ
theorem Tree.met_mem {S:List En}(g:OkS S):∀ {d:Nat} {x y:Str},Tree d S x->y∈met d S x->y∈S.map En.nm
 | 0,_,_,h,_=>absurd h (fun z=>z)
 | d+1,x,y,h,m=>by
  rcases id h with ⟨ls,a⟩|⟨rows,a,so,hr⟩
  ·rw [kB g a] at m;rw [Q7.mp m];exact h.mem
  ·rw [jP g a] at m
   rcases Zi.mp m with z|z
   ·rw [z];exact h.mem
   ·obtain ⟨r,hr',hm⟩:=Yf.mp z;exact Tree.met_mem g (hr r hr').2.1 hm
theorem wt_cons (l:Str)(fs:List Fi):wt (fs.map fun f=>(l::f.1,f.2))=fs.length+wt fs:=by
 unfold wt
 induction fs with
 | nil=>rfl
 | cons f fs ih =>
  rw [Zw,Zw,YS,ih,Zw,YS,Zn (as:=fs)];show f.1.length+1+_=_;omega
theorem Tree.met_len {S:List En}(g:OkS S):∀ {d:Nat} {x:Str},Tree d S x->(met d S x).length<=1+wt (reads d S x)
 | 0,_,h=>absurd h (fun z=>z)
 | d+1,x,h=>by
  rcases id h with ⟨ls,a⟩|⟨rows,a,so,hr⟩
  ·rw [kB g a];show 1<=_;omega
  ·rw [jP g a,z9 g a,Zn];have key:∀ rs:List (Str×Str),(∀ r∈rs,r∈rows)->(rs.flatMap fun r=>met d S r.2).length<=wt (rs.flatMap fun r=>(reads d S r.2).map fun f=>(r.1::f.1,f.2)):=fun rs hs=>by
    induction rs with
    | nil=>exact ZJ _
    | cons r rs ih =>
     have i1:=ih fun r m=>hs r (Zb _ m);obtain ⟨_,t,ne⟩:=hr r (hs r (Zc ..));have i2:=Tree.met_len g t;have p:0<(reads d S r.2).length:=List.length_pos_iff.mpr ne;rw [Yg,Yg,Zh,Bq,wt_cons];omega
   have:=key rows fun r m=>m;omega
section
variable {d n:Nat}{S:List En}{fs gs:List Fi}{q q2:List En×Str}
theorem rise_nd {l:List Fi}(h:l.Pairwise fun f h=>ltS (pth f.1) (pth h.1)):l.Nodup:=ZH.mpr (h.imp fun {a b} (z:ltS (pth a.1) (pth b.1)) (q:a=b)=>Xu z (by rw [q]))
theorem PutOk.perm (a:PutOk d S fs q)(g:GoodF n fs):(reads d q.1 q.2).Perm fs :=
 (YI (rise_nd (a.tree.rise a.ok).1) (qG g.nd)).mpr a.rd
theorem PutOk.lines (a:PutOk d S fs q)(g:GoodF n fs):∀ f∈reads d q.1 q.2,Uv f.2:=fun f hf=>(g.lab f ((a.rd f).mp hf)).2.2.2
theorem PutOk.many (a:PutOk d S fs q)(g:GoodF n fs):(met d q.1 q.2).length<=1+n*fs.length:=by
 have h1:=a.tree.met_len a.ok;have h2:wt (reads d q.1 q.2)<=n*(reads d q.1 q.2).length:=wt_le fun f hf=>(g.lab f ((a.rd f).mp hf)).2.1;rw [(a.perm g).length_eq] at h2;omega
theorem PutOk.again (a:PutOk d S fs q)(b:PutOk d q.1 gs q2)(e:∀ f,f∈fs↔f∈gs):q2=q:=by
 obtain ⟨T,eT,hT⟩:=b.new;have e2:q.2=q2.2:=(uP a b eT).mpr e;have ok:=b.ok;rw [eT] at ok;have T0:T=[]:=by
  cases T with
  | nil=>rfl
  | cons t T =>
   exfalso;have m:=hT t (Zc ..);rw [←e2,eT,a.tree.met_more ok a.ok] at m;have m:=a.tree.met_mem a.ok m;have nn:=ok.good.nn;rw [Zf,Yk] at nn;exact nn.2.2 t.nm m t.nm (Za.mpr ⟨t,Zc ..,rfl⟩) rfl
 rw [T0,ZF] at eT;exact Prod.ext eT e2.symm
theorem PutOk.names (a:PutOk d S fs q)(x:Str):x∈q.1.map En.nm↔x∈S.map En.nm\/x∈met d q.1 q.2:=by
 obtain ⟨T,eT,hT⟩:=a.new;constructor
 ·intro h;rw [eT,Zf] at h
  rcases Zs.mp h with h|h
  ·exact .inl h
  ·obtain ⟨t,ht,rfl⟩:=Za.mp h;exact .inr (hT t ht)
 ·rintro (h|h)
  ·rw [eT,Zf];exact Z5 _ h
  ·exact a.tree.met_mem a.ok h
end
theorem BH {α:Type} [DecidableEq α]:∀ {a b:List α},a.Nodup->(∀ x∈a,x∈b)->b.length<=a.length->∀ x∈b,x∈a
 | [],b,_,_,l,x,hx=>by
  have:b=[]:=Yd (Nat.le_zero.mp l);rw [this] at hx;exact hx
 | y::a,b,nd,h,l,x,hx=>by
  have hy:=h y (Zc ..);have nd:=Z8.mp nd
  by_cases z:x=y
  ·rw [z];exact Zc ..
  ·refine Zb _ (BH (b:=b.erase y) nd.2 (fun u hu=>?_) ?_ x ((List.mem_erase_of_ne z).mpr hx))
   ·exact (List.mem_erase_of_ne (fun (q:u=y)=>nd.1 (by rw [←q];exact hu))).mpr (h u (Zb _ hu))
   ·rw [List.length_erase_of_mem hy];rw [Zn] at l;omega
section
variable {K:ZZF}{H:Hp}{fs rs:List Fi}{ka kb:List (Key×V)}{n m:Nat}
theorem FsAt.tail {f:Fi}{kv:Key×V}(h:FsAt K H (f::fs) (kv::ka)):FsAt K H fs ka:=⟨List.tail_eq_of_cons_eq h.keys,fun i f kv a b=>h.val (i+1) f kv a b⟩
theorem XS (hb:FsAt K H fs kb)(gb:GoodF n fs):∀ {rs:List Fi} {ka:List (Key×V)},FsAt K H rs ka->(∀ f∈rs,f.1≠[]/\∀ l∈f.1,zS l=true)->Hits K H kb ka (decide (∀ f∈rs,f∈fs))
 | [],[],_,_=>by
  rw [Zd (fun f hf=>(nomatch hf))];exact .nil
 | [],_::_,h,_=>by cases h.keys
 | _::_,[],h,_=>by cases h.keys
 | f::rs,(k,v)::ka,h,ho=>by
  have ih:=XS hb gb h.tail fun k hk=>ho k (Zb _ hk);obtain ⟨f',e1,e2,dv,lv⟩:=h.get (i:=0) (k:=k) (v:=v) rfl;have e1:f=f':=Option.some.inj e1;subst e1 e2;obtain ⟨f0,fl⟩:=ho f (Zc ..);have sh:∀ {ls:List Str},Uv ls->SeqAt.shaped (tupS ls)=true:=fun {ls} h=>(yD fun p hp=>(X7 (h.2 p hp)).ok).2
  by_cases z:f.1∈fs.map (·.1)
  ·obtain ⟨g,hg,eg⟩:=Za.mp z;obtain ⟨y,hy,dy,ly⟩:=hb.at gb hg;rw [eg] at hy;have e:decide (∀ k∈f::rs,k∈fs)=(PyData.eqv (tupS f.2) (tupS g.2)&&decide (∀ k∈rs,k∈fs)):=by
    rw [eqv_tupS,ZU,Zg,Zq,Zq,Zq,List.forall_mem_cons];refine and_congr_left fun _=>⟨fun hf=>?_,fun hf=>?_⟩
    ·rw [gb.one hf hg eg.symm]
    ·have:f=g:=Prod.ext eg.symm hf;rw [this];exact hg
   rw [e];exact .hit hy dv dy (sh lv) (sh ly) ih
  ·have nv:Uh kb (.inr (pth f.1))=none:=by
    cases q:Uh kb (.inr (pth f.1)) with
    | none=>rfl
    | some y =>
     exfalso;have:=uE q;rw [hb.keys] at this;obtain ⟨g,hg,eg⟩:=Za.mp this;exact z (Za.mpr ⟨g,hg,j4 (d:=0) (gb.lab g hg).1 f0 (gb.lab g hg).2.2.1 fl (Sum.inr.inj eg)⟩)
   rw [Zo (fun q=>z (Za.mpr ⟨f,q f (Zc ..),rfl⟩))];exact .miss nv
theorem dicts_eq (ha:FsAt K H rs ka)(hb:FsAt K H fs kb)(gb:GoodF n fs)(ga:rs.Nodup):(ka.length==kb.length&&decide (∀ f∈rs,f∈fs))=true↔∀ f,f∈rs↔f∈fs:=by
 rw [Zg,Jl,Zq,ha.len,hb.len];constructor
 ·rintro ⟨l,h⟩ f;exact ⟨h f,BH ga h (by omega) f⟩
 ·intro h;exact ⟨((YI ga (qG gb.nd)).mpr h).length_eq,fun f hf=>(h f).mp hf⟩
end
theorem uniq_in:∀ (xs ks:List Str) {x:Str},x∈ks\/x∈xs->x∈xs.foldl AxS.step ks
 | [],ks,x,h=>h.elim id fun z=>(nomatch z)
 | y::xs,ks,x,h=>uniq_in xs _ (by
  rcases h with h|h
  ·exact .inl (AxS.step_mem.mpr (.inl h))
  ·rcases Zi.mp h with h|h
   ·exact .inl (AxS.step_mem.mpr (.inr h))
   ·exact .inr h)
theorem sets_same {a b:List Str}(h:∀ x,x∈a↔x∈b):(AxS.uniq a).length=(AxS.uniq b).length/\∀ x∈AxS.uniq a,x∈AxS.uniq b:=by
 have mu:∀ {xs:List Str} {x:Str},x∈AxS.uniq xs↔x∈xs:=fun {xs x}=>⟨uniq_mem,fun h=>uniq_in xs [] (.inr h)⟩;have p:(AxS.uniq a).Perm (AxS.uniq b):=(YI (kY a) (kY b)).mpr fun x=>by rw [mu,mu,h]
 exact ⟨p.length_eq,fun x hx=>p.mem_iff.mp hx⟩
end An
namespace AxS
open PySem PySem.Spec PyProof.Rows
theorem entry_ne:entryFor table "set.__ne__"=some Builtin.«frozenset.__ne__» :=
 entryFor_alias (id':="frozenset.__ne__") (by kernel_rfl) (by first|rfl|decide +kernel|(unfold String.splitOn;simp +decide [String.splitOnAux])) (by decide +kernel) (by kernel_rfl)
section
variable {prog:Program}{w:World}{A:Around}{E:Value->Shared->Prop}{s:Shared}
theorem Iw:isSubtype (.type "set") (.type "frozenset")=pure false:=by rw [Y6];kernel_rfl
theorem tx_find {a:Addr}{ks:List Str}{k:Str}{tk:Tok}{Q:Option Nat->Shared->Prop}(hS:TxSet prog w s.heap a ks)(hk:k∈ks)(h:∀ i,Q (some i) s):wpAny (model prog w) A (setFind a (.str k tk) (hashStr w k)) Q E s:=by
 obtain ⟨o,es,ep,t,ho,hex,hd,X⟩:=hS;obtain ⟨hel,hp,hb,hf,hled,hpl⟩:=X;have hkey:(strKind prog w).is k (.str k tk)=true:=by show Value.isStrOf k (.str k tk)=true;simp [Value.isStrOf]
 have hsc:(Value.str k tk).scannable=true:=rfl;have hh:hashStr w k=(strKind prog w).hash k:=rfl;rw [hh];unfold setFind setFindIn;refine Q6 (ZZ ho hd hf ?_);dsimp only;rw [byScan_of (knd:=strKind prog w) hsc hb hel];simp only [↓reduceIte];refine Q6 (JC (Q6 (wpAny_setScan_of (knd:=strKind prog w) hkey ho hd hf hel ?_)));cases hr:List.findIdx? (fun e=>(strKind prog w).is k e.2) es.toList with
 | some j=>exact Q8 (h _)
 | none =>
  exfalso;obtain ⟨e,he,q⟩:=(uS hel hp k).mp hk;have:=List.findIdx?_eq_none_iff.mp hr e he;rw [q] at this;cases this
theorem tx_sub {a b:Addr}{ks1 ks2:List Str}{nm:String}{Q:Bool->Shared->Prop}(hS:TxSet prog w s.heap a ks1)(hO:TxSet prog w s.heap b ks2)(hl:ks1.length<=ks2.length)(hm:∀ k∈ks1,k∈ks2)(h:Q true s):wpAny (model prog w) A (Builtin.Frozenset.subsetOf nm a b) Q E s:=by
 obtain ⟨o,es,ep,t,ho,hx,hd,X⟩:=id hS;obtain ⟨o2,es2,ep2,t2,ho2,hx2,hd2,X2⟩:=id hO;have l1:=vN X;have l2:=vN X2;obtain ⟨hel,hp,hbd,hf,hled,hpl⟩:=X;obtain ⟨hel2,hp2,hbd2,hf2,hled2,hpl2⟩:=X2;have noRef:∀ {es:Array (Int×Value)},ElemsOf (strKind prog w) es.toList->∀ e∈es.toList,∀ r,e.2≠.ref r:=fun {es} hel e he r z=>by
  have:=(hel e he).2;rw [z] at this;cases this
 unfold Builtin.Frozenset.subsetOf Builtin.Frozenset.sizeOf setEntries;refine Q6 (Q6 (Q6 (ZZ ho hd hf (Q8 (Q8 ?_)))));refine Q6 (Q6 (Q6 (ZZ ho2 hd2 hf2 (Q8 (Q8 ?_)))));refine YW (fun z=>?_) (fun _=>?_)
 ·have z:es.size>es2.size:=z;omega
 unfold setEpoch;refine Q6 (Q6 (ZZ ho hd hf (Q8 ?_)));refine Q6 ?_;unfold Builtin.Frozenset.walkUnseen setEntries;refine Q6 (Q6 (ZZ ho hd hf (Q8 ?_)));refine Q6 (Q6 (ZZ ho2 hd2 hf2 (Q8 ?_)));refine Q6 ?_;refine JO _ (fun rest q s'=>s'=s/\q=(none,())/\∀ e∈rest,∀ r,e.2≠.ref r) _ ?_ ?_ _ _ ⟨rfl,rfl,fun e he=>(Zs.mp he).elim (noRef hel e) (noRef hel2 e)⟩
 ·rintro ⟨hx,x⟩ rest q s' ⟨rfl,rfl,hr⟩;have nr:=hr (hx,x) (Zc ..);cases x with
  | ref r=>exact absurd rfl (nr r)
  | _=>exact Q6 (Q8 (Q8 ⟨rfl,rfl,fun e he=>hr e (Zb _ he)⟩))
 rintro q s' ⟨rfl,rfl,_⟩;refine Q8 ?_;refine Q6 ?_;refine JO _ (fun rest q s2=>s2=s'/\q=(none,())/\∀ e∈rest,e∈es.toList) _ ?_ ?_ _ _ ⟨rfl,rfl,fun e he=>he⟩
 ·rintro ⟨hh,x⟩ rest q s2 ⟨rfl,rfl,hr⟩;have mem:=hr (hh,x) (Zc ..);obtain ⟨⟨k,hk,hhk⟩,_⟩:=hel (hh,x) mem;obtain ⟨tk,et⟩:=YB (show Value.isStrOf k x=true from hk);have hhk:hh=hashStr w k:=hhk;have kin:k∈ks1:=(uS hel hp k).mpr ⟨(hh,x),mem,hk⟩;dsimp only;rw [et,hhk];refine Q6 (Yr (tx_find (s:=s2) hO (hm k kin) fun i=>?_));refine YW (fun z=>absurd z (by simp)) (fun _=>?_);unfold Builtin.Frozenset.unchanged setEpoch;refine Q6 (Q6 (Q6 (ZZ ho hd hf (Q8 ?_))));refine YW (fun z=>absurd z (by simp)) (fun _=>?_);exact Q8 (Q8 ⟨rfl,rfl,fun e he=>hr e (Zb _ he)⟩)
 ·rintro q s2 ⟨rfl,rfl,_⟩;exact Q8 h
theorem tx_ne {a b:Addr}{ks1 ks2:List Str}{Q:Value->Shared->Prop}(hS:TxSet prog w s.heap a ks1)(hO:TxSet prog w s.heap b ks2)(hl:ks1.length=ks2.length)(hm:∀ k∈ks1,k∈ks2)(hu:A.units+64<cLine)(h:Q (.bool false) s):wpAny (model prog w) A (compareOp .NotEq (.ref a) (.ref b)) Q E s:=by
 have hTa:=tx_type (h:=s.heap) hS;have hTb:=tx_type (h:=s.heap) hO;obtain ⟨o,es,ep,t,ho,hx,hd,X⟩:=id hS;obtain ⟨o2,es2,ep2,t2,ho2,hx2,hd2,X2⟩:=id hO;have l1:=vN X;have l2:=vN X2;have hf:=X.2.2.2.1;have hf2:=X2.2.2.2.1;show wpAny _ _ (richCompare .NotEq (.ref a) (.ref b)) _ _ _;refine VH (op:=.NotEq) hTa hTb PySem.F.slot_set_ne (Z6 PySem.F.slot_set_ne hTa entry_ne ?_ (PySem.F.args_set_ne_2 _ _)) (by omega);unfold Builtin.«frozenset.__ne__»;wp_delta;refine Q6 ?_;show wpAny _ _ (pure (Value.ref a,Value.ref b)) _ _ _;refine Q8 ?_;dsimp only;refine Q6 (any_set hTb ?_);simp only [Vx,Yx,↓reduceIte];refine Q6 (Q8 ?_);refine Q6 (Q8 ?_);unfold Builtin.Frozenset.sizeOf setEntries;refine Q6 (Q6 (Q6 (ZZ ho hd hf (Q8 (Q8 ?_)))));refine Q6 (Q6 (Q6 (ZZ ho2 hd2 hf2 (Q8 (Q8 ?_)))));dsimp only;refine Q6 ?_;refine YW (fun z=>?_) (fun _=>?_)
 ·exfalso;have z:=bne_iff_ne.mp z;omega
 refine Q6 ?_;show wpAny _ _ (isInstance (.ref a) (.type "frozenset")>>=_) _ _ _;refine Q6 (Y1 hTa Iw ?_);refine Q8 ?_;refine YW (fun z=>absurd z (by decide)) (fun _=>?_);refine tx_sub hS hO (JL hl) hm ?_;exact Q8 ⟨_,rfl,fun z=>(nomatch z),h⟩
end
end AxS
namespace L2
open PySem PySem.Spec PyProof.Rows AxS
section
variable {X:Cx}
def rNeS (P:Program)(w:World):R2:=fun x y H Q=>∃ (a b:Addr) (ks1 ks2:List Str),x=.ref a/\y=.ref b/\H a=some (UN P w a ks1)/\H b=some (UN P w b ks2)/\ks1.length=ks2.length/\(∀ k∈ks1,k∈ks2)/\Q (.bl false) H
theorem op_neS (hu:X.A.units+64<cLine):OpR X (compareOp .NotEq) (rNeS X.prog X.w):=by
 intro pins s σ H x y v u Q I rx ry h;obtain ⟨a,b,ks1,ks2,rfl,rfl,ha,hb,hl,hm,q⟩:=h;cases rx;cases ry;exact tx_ne (uX (I.hok a _ ha)) (uX (I.hok b _ hb)) hl hm hu ⟨.bl false,H,I,rfl,q⟩
end
end L2
namespace An06
open PySem L2 An
seal L2.PS L2.PSs L2.PE L2.PT L2.PW L2.PA L2.PG L2.PGs L2.PI L2.PFi L2.PC
def spLaw (K:ZZF):Sp:=fun vs H Q _=>∃ (a:Addr) (ns:List Int),vs=[.ref a]/\SqL K H a (ns.map V.int)/\ns.length<=63/\∀ H',Q (.bl true) H'
structure W2 (P:Program)(w:World)(K:ZZF)(C:Addr)(H0 H:Hp)(a:Addr)(fp:List Addr)(b:Addr)(fq:List Addr)(S S2:List En):Prop where
 same:Same H0 H
 sh:ShAt P w K C H a fp S
 tw:ShAt P w K C H b fq S2
 fr:∀ c∈fp,H0 c=none
 gr:∀ c∈fq,H0 c=none
 dj:∀ c∈fp,c∉fq
section
variable {P:Program}{w:World}{K:ZZF}{C:Addr}{H0 H H':Hp}{a:Addr}{fp:List Addr}{b:Addr}{fq:List Addr}{S S2 S':List En}
theorem noseq_t {fp:List Addr}(n:NoSeq H fp):∀ b∈fp,∀ xs,¬Rd H b (.tup xs):=fun b hb xs=>by
 obtain ⟨o,e,h1,_,h3⟩:=n b hb;exact Gb e h1 h3 xs
theorem not_lst {fp:List Addr}(n:NoSeq H fp){c:Addr}{xs:List V}(h:H c=some (.lst xs)):c∉fp:=fun z=>by
 obtain ⟨o,e,_,h2,_⟩:=n c z;rw [h] at e;exact h2 xs (Option.some.inj e).symm
theorem jO {fp:List Addr}(s:Same H0 H)(fr:∀ c∈fp,H0 c=none)(o:Off fp H H'):Same H0 H':=fun c x e=>o c x (fun z=>by rw [fr c z] at e;cases e) (s c x e)
theorem Gv {x dx:Addr}{o1 o2:HO}{fp:List Addr}(nx:H x=none)(ndx:H dx=none)(ne:dx≠x)(hfp:∀ c∈fp,c=x\/c=dx\/(L2.upd (L2.upd H dx o1) x o2) c=none)(o:Off [x] (L2.upd (L2.upd H dx o1) x o2) H'):Same H H'/\∀ c∈fp,H c=none:=by
 have h1:Same H (L2.upd (L2.upd H dx o1) x o2):=(zF ndx).trans (zF (by rw [zH (Ne.symm ne)];exact nx));refine ⟨fun c u e=>o c u (fun z=>?_) (h1 c u e),fun c hc=>?_⟩
 ·rw [Q7.mp z,nx] at e;cases e
 ·rcases hfp c hc with z|z|z
  ·rw [z];exact nx
  ·rw [z];exact ndx
  ·exact h1.free z
theorem W2.ins (W:W2 P w K C H0 H a fp b fq S S2)(s:Same H H'):W2 P w K C H0 H' a fp b fq S S2:=⟨W.same.trans s,W.sh.same s,W.tw.same s,W.fr,W.gr,W.dj⟩
theorem W2.put (W:W2 P w K C H0 H a fp b fq S S2)(o:Off fp H H')(u:ShAt P w K C H' a fp S'):W2 P w K C H0 H' a fp b fq S' S2 :=
 ⟨jO W.same W.fr o,u,W.tw.off (noseq_t W.sh.noseq) o (fun c hc z=>W.dj c z hc),W.fr,W.gr,W.dj⟩
theorem W2.putT (W:W2 P w K C H0 H a fp b fq S S2)(o:Off fq H H')(u:ShAt P w K C H' b fq S'):W2 P w K C H0 H' a fp b fq S S' :=
 ⟨jO W.same W.gr o,W.sh.off (noseq_t W.tw.noseq) o (fun c hc=>W.dj c hc),u,W.fr,W.gr,W.dj⟩
theorem W2.dic (W:W2 P w K C H0 H a fp b fq S S2){c:Addr}{xs ys:List (Key×V)}(h:H c=some (.dK xs))(n:H0 c=none)(n1:c∉fp)(n2:c∉fq):W2 P w K C H0 (upd H c (.dK ys)) a fp b fq S S2 :=
 ⟨jO W.same (fun d hd=>by rw [Q7.mp hd];exact n) (zU (c:=c)),W.sh.off (zN h) zU (fun d hd z=>n1 (Q7.mp z▸hd)),W.tw.off (zN h) zU (fun d hd z=>n2 (Q7.mp z▸hd)),W.fr,W.gr,W.dj⟩
end
theorem root_T {S:List En}(g:OkS S){x:Str}{rows:List (Str×Str)}(h:At S x (.tree rows)):Txt.slice x none (some 1)="T":=by
 obtain ⟨e,he,rfl,hd⟩:=h;obtain ⟨t,td,_,th⟩:=g.th e he;have:=vI (td.symm.trans hd);subst this;refine cs_inj ?_;have e1:cs (Txt.slice e.nm none (some ((1:Nat):Int)))=(cs e.nm).take 1:=cs_upto e.nm 1;have e1:cs (Txt.slice e.nm none (some 1))=(cs e.nm).take 1:=e1;have e2:cs e.nm=84::(cs (Ur (dg (Th.tree rows).sp).toNat)++cs dot++cs (Ur e.n)):=by
  unfold En.nm;rw [th];unfold Uo;rw [cs_append,cs_append,cs_append,qW];simp
 rw [e1,e2];show [84]=cs "T"
 decide +kernel
theorem dicts_self {K:ZZF}{H:Hp}{fs:List Fi}{kv:List (Key×V)}{n:Nat}(ff:FsAt K H fs kv)(g:GoodF n fs):Hits K H kv kv true:=by
 have:=XS ff g ff fun f hf=>⟨(g.lab f hf).1,(g.lab f hf).2.2.1⟩;rw [Zd (fun f hf=>hf)] at this;exact this
theorem cx_prog {CX:CXT}{P:Program}{w:World}{K:ZZF}{mg:Str->Option Value}{base:Heap}{N:List Str}{qual:Str}{scope:Scope}{f:Addr}{cd:Value}{A:Around}{outer:List Env}{s:Shared}{H:Hp}{E:XK}:(Iy CX P w K mg base N qual scope f cd A outer s H E).prog=P:=rfl
theorem cx_w {CX:CXT}{P:Program}{w:World}{K:ZZF}{mg:Str->Option Value}{base:Heap}{N:List Str}{qual:Str}{scope:Scope}{f:Addr}{cd:Value}{A:Around}{outer:List Env}{s:Shared}{H:Hp}{E:XK}:(Iy CX P w K mg base N qual scope f cd A outer s H E).w=w:=rfl
theorem cut6 (ns:List Int)(a b:Nat):∃ ms:List Int,Uz (ns.map V.int) (some (a:Int)) (some (b:Int))=ms.map V.int/\ms.length<=b-a:=by
 have e:Uz (ns.map V.int) (some (a:Int)) (some (b:Int))=((ns.map V.int).drop (min a (ns.map V.int).length)).take (min b (ns.map V.int).length-min a (ns.map V.int).length):=by
  unfold Uz;rw [HT.sIx_nat,HT.sIx_nat]
 refine ⟨(ns.drop (min a (ns.map V.int).length)).take (min b (ns.map V.int).length-min a (ns.map V.int).length),?_,?_⟩
 ·rw [e,Vy,List.map_drop]
 ·rw [ZC];omega
section
variable {P:Program}{w:World}{K:ZZF}{mg:Str->Option Value}{base:Heap}{t1 t2 t3 t4 t5 t6 t7:Tok}{aL aC aN aT aA b1 b2:Addr}
namespace g_law
abbrev st:Stmt:=top 70
theorem sc:FnScope ["_law_script","_law_files","_law_others","_law_shelf","_law_first","_law_handed","_law_root","_law_twin","_law_names","_law_other","_law_found","_law_paths"] ["_law_script"] (zG st):=QS0
theorem ok {f:Addr}{fd:FuncData}(F:Fun K "law" "law" st f fd)(T:Txt P w K mg t1 t2 t3 t4 t5 t6 t7 aL aC aN aT aA b1 b2)(QC:Cal P w K mg base 3 "_law_files_by" ["_law_cells"] (GY K))(Qi:Cal P w K mg base 1 "_law_cell_at" ["_law_script","_law_k"] (spCellA K))(Qh:Cal P w K mg base 2 "_law_lines_by" ["_law_cell"] (UY K))(Qv:Cal P w K mg base 1 "_law_path_by" ["_law_cell"] Im)(QD:Mak P w K mg base aC 5 "Shelf" ["self","base"] (spInit P w K aC))
  (Qb:MetX P w K mg base aC 7 "put" ["self","thing"] (UK P w K aC aN aT)) (Qe:Met P w K mg base aC 1 "names" ["self"] (Ba P w K aC)) (Qd:CalX P w K mg base 13 "keep_files" ["shelf","files"] (spKeep P w K aC)) (Qw:Cal P w K mg base 13 "_law_met" ["_law_store","_law_name_here"] (X5 P w K aC 5)) (Qy:Cal P w K mg base 13 "_law_read" ["_law_store","_law_name_here","_law_before"] (Iu P w K aC 5)) (Qx:Cal P w K mg base 13 "_law_thin" ["_law_store","_law_name_here"] (IZ P w K aC 5))
  (Q2:Cal P w K mg base 1 "_law_turned" ["_law_files","_law_cell"] (spTurned K)) (Q3:Cal P w K mg base 15 "_law_refused" ["_law_shelf","_law_root"] (IT P w K aC)) (Qg:CalX P w K mg base 7 "found_at" ["store","root","path"] (XM P w K aC aN)) (Qz:Cal P w K mg base 5 "_law_name" ["_law_store","_law_root","_law_labels"] (spName P w K aC)) (QA:Cal P w K mg base 1 "_law_same" ["_law_found","_law_files"] (spSame K)) (Qf:CalX P w K mg base 14 "files_of" ["store","root"] (U7 P w K aC aN)) (Q4:Cal P w K mg base 8 "_law_stand" ["_law_shelf","_law_root","_law_paths"] (spStand P w K aC)):FnOk P w K mg base CX0 16 f fd ["_law_script"] (spLaw K):=by
 refine F.ok sc (fun vs H Q E h=>?_) (fun cdv A outer s H vs Q E hr h=>?_)
 ·obtain ⟨sa,ns,rfl,_⟩:=h;rfl
 ·obtain ⟨sa,ns0,rfl,hsa,hlen,kQ⟩:=h;refine ⟨_,(zD (zP (i:=1) sc.nd rfl (Or.inl rfl) (zJ QC hr.m (zA (jM (sl_list:SlR _ (rSlL K)) (pv 0) (jI zI) (jI zI)) zC)))
   (zD (zP (i:=2) sc.nd rfl (Or.inl rfl) (zJ QC hr.m (zA (jM (sl_list:SlR _ (rSlL K)) (pv 0) (jI zI) (jI zI)) zC)))
   (zD (zP (i:=3) sc.nd rfl (Or.inl rfl) (pe_makC QD hr.m (zA X0 zC)))
   (zD (zP (i:=4) sc.nd rfl (Or.inl rfl) (yO (pv 3) T.cls Qb hr.m zO (zA (kD (zA pe_str (zA (zJ Qh hr.m (zA (zJ Qi hr.m (zA (pv 0) (zA zI zC))) zC)) zC))) zC)))
   (zD (zP (i:=5) sc.nd rfl (Or.inl rfl) (zZ call_dictR (by rfl) T.dict Jt (zA (pv 1) zC)))
   (zD (zP (i:=6) sc.nd rfl (Or.inl rfl) (yB Qd hr.m zO (zA (pv 3) (zA (pv 5) zC))))
   (zD (yI (zW (op_neS hr.units) (zZ (uZ (K:=K) rfl) (by rfl) T.set Jw (zA (vF (pv 3) T.cls Qe hr.m) zC)) (zZ (uZ (K:=K) rfl) (by rfl) T.set Jw (zA (z7 vQ (qY (zA (pv 4) zC)) (zJ Qw hr.m (zA (pv 3) (zA (pv 6) zC)))) zC)) (zT _))
    (zE (zL x5))
    zR)
   (zD (yI (PW.pt (j8 (zW (op_neR hr.units128) (pv 5) (pv 1) (zT _)) (j8 (zW (X1 hr.units) (zZ (xT rfl) (by rfl) T.list Z4 (zA (pv 5) zC)) (zZ (xT rfl) (by rfl) T.list Z4 (zA (pv 1) zC)) (zT _)) (qZ (y9 (zX (K:=K) (zK (Bs (K:=K)) (by rfl) T.isinstance Zx (zA (pv 6) (zA (yS (v:=.ty "str") rfl T.str ZY rfl) zC))) (fun _=>rfl)))))))
    (zE (zL x5))
    zR)
   (zD (xF hr.units1 (pv 5) pe_str (kD (zA pe_str zC)) rfl)
   (zD (yI (PW.pt (j8 (zW vS (jM sl_str (pv 6) XG (jI zI)) pe_str (zT _)) (j8 (zW (op_neR hr.units128) (zJ Qy hr.m (zA (pv 3) (zA (pv 6) (zA pe_str zC)))) (pv 1) (zT _)) (qZ (zW vS (yH op_gt (zK call_lenD (by rfl) T.len ZS (zA (pv 1) zC)) zI (zT _)) (zJ Qx hr.m (zA (pv 3) (zA (pv 6) zC))) (zT _))))))
    (zE (zL x5))
    zR)
   (zD (zP (i:=7) sc.nd rfl (Or.inl rfl) (pe_makC QD hr.m (zA X0 zC)))
   (zD (yP (yO (pv 7) T.cls Qb hr.m zO (zA (kD (zA pe_str (zA (zJ Qh hr.m (zA (zJ Qi hr.m (zA (pv 0) (zA zI zC))) zC)) zC))) zC)))
   (zD (yI (PW.pt (j8 (zW vS (yB Qd hr.m zO (zA (pv 7) (zA (pv 1) zC))) (pv 6) (zT _)) (qZ (zW vS (yB Qd hr.m zO (zA (pv 3) (zA (zJ Q2 hr.m (zA (pv 1) (zA (zJ Qi hr.m (zA (pv 0) (zA zI zC))) zC))) zC))) (pv 6) (zT _)))))
    (zE (zL x5))
    zR)
   (zD (zP (i:=8) sc.nd rfl (Or.inl rfl) (zZ qX (by rfl) T.list Z4 (zA (vF (pv 3) T.cls Qe hr.m) zC)))
   (zD (yI (zW (X1 hr.units) (pv 8) (vF (pv 7) T.cls Qe hr.m) (zT _))
    (zE (zL x5))
    zR)
   (zD (zP (i:=9) sc.nd rfl (Or.inl rfl) (yB Qd hr.m zO (zA (pv 7) (zA (pv 2) zC))))
   (kU (yI (PW.pt (pw_and (zW (op_ninD (K:=K) hr.units) (pv 9) (pv 8) (by with_unfolding_all rfl)) (pw_and1 (y9 (zX (K:=K) (zJ Q3 hr.m (zA (pv 3) (zA (pv 9) zC))) (fun _=>rfl))))))
    (zE (zL x5))
    zR)
   (zD (yI (zW vS (yB Qd hr.m zO (zA (pv 3) (zA (pv 2) zC))) (pv 9) (zT _))
    (zE (zL x5))
    zR)
   (zD (yI (PW.pt (j8 (zW vS (yH xR (pv 9) (pv 6) (zT _)) (yH (op_eqR hr.units128) (pv 2) (pv 1) (zT _)) (zT _)) (qZ (zW vS (yB Qd hr.m zO (zA (pv 3) (zA (pv 1) zC))) (pv 6) (zT _)))))
    (zE (zL x5))
    zR)
   (zD (yI (PW.pt (j8 (zW (X1 hr.units) (yB Qg hr.m zO (zA (pv 3) (zA (pv 9) (zA pe_str zC)))) (zJ Qz hr.m (zA (pv 3) (zA (pv 9) (zA (qY (zA pe_str zC)) zC)))) (zT _)) (qZ (y9 (zX (K:=K) (zJ QA hr.m (zA (yB Qf hr.m zO (zA (pv 3) (zA (pv 9) zC))) (zA (pv 2) zC))) (fun _=>rfl))))))
    (zE (zL x5))
    zR)
   (zD (zP (i:=10) sc.nd rfl (Or.inl rfl) (yB Qf hr.m zO (zA (pv 3) (zA (pv 6) zC))))
   (zD (yI (y9 (zX (K:=K) (zJ QA hr.m (zA (pv 10) (zA (pv 1) zC))) (fun _=>rfl)))
    (zE (zL x5))
    zR)
   (zD (xF hr.units1 (pv 10) pe_str (kD zC) rfl)
   (zD (zP (i:=11) sc.nd rfl (Or.inl rfl) (z7 vQ (z7 vQ (zZ (xT rfl) (by rfl) T.list Z4 (zA (pv 1) zC)) (zZ (xT rfl) (by rfl) T.list Z4 (zA (pv 2) zC))) (qY (zA (zJ Qv hr.m (zA (zJ Qi hr.m (zA (pv 0) (zA zI zC))) zC)) (zA pe_str (zA pe_str zC))))))
   (zE (zL (yV (zJ Q4 hr.m (zA (pv 3) (zA (pv 6) (zA (pv 11) zC)))) (xK (zJ QA hr.m (zA (yB Qf hr.m zO (zA (pv 3) (zA (pv 6) zC))) (zA (pv 1) zC))))))))))))))))))))))))))))))),?_⟩
  obtain ⟨m1,em1,lm1⟩:=cut6 ns0 3 9;obtain ⟨m2,em2,lm2⟩:=cut6 ns0 6 12;refine ⟨_,rfl,3,rfl,9,rfl,sa,_,rfl,hsa,fun p1 np1=>?_⟩;have u1:=zF (o:=.lst (Uz (ns0.map V.int) (some (3:Int)) (some (9:Int)))) np1;have em1:Uz (ns0.map V.int) (some 3) (some 9)=m1.map V.int:=em1;have em2:Uz (ns0.map V.int) (some 6) (some 12)=m2.map V.int:=em2;rw [em1] at u1 ⊢;refine ⟨p1,m1,rfl,SqL.of zB,by omega,fun c1 kv1 fs H1 s1 nc1 hc1 ff1 gf1 lf1=>?_⟩;have e1:=u1.trans s1;generalize upd H p1 (.lst (m1.map V.int))=Hx at s1 nc1 u1 e1 ⊢;clear u1;refine ⟨_,rfl,6,rfl,12,rfl,sa,_,rfl,e1.seq hsa,fun p2 np2=>?_⟩;have u2:=zF (o:=.lst (Uz (ns0.map V.int) (some (6:Int)) (some (12:Int)))) np2;rw [em2] at u2 ⊢;refine ⟨p2,m2,rfl,SqL.of zB,by omega,fun c2 kv2 os H2 s2 nc2 hc2 fo1 go1 lo1=>?_⟩;have e2:=e1.trans (u2.trans s2);have hc12:=(u2.trans s2) _ _ hc1;have ff2:=ff1.same (u2.trans s2);have c12:c1≠c2:=zM ((u2 _ _ hc1)) nc2;have hsa2:=e2.seq hsa;have lf6:fs.length<=6:=by omega
  have lo6:os.length<=6:=by omega
  clear s1 nc1 hc1 ff1 lf1 e1 u2 s2 nc2 e2 np1 np2 lm1 lm2 em1 em2 hsa;refine fun x dx nx ndx ne=>⟨x,dx,.non,[],rfl,zB,by rw [zH ne];exact zB,ne,.inl ⟨rfl,rfl⟩,fun fp H3 hfp off0 sh3=>⟨rfl,?_⟩⟩;obtain ⟨s3,fr3⟩:=Gv nx ndx ne hfp off0;have ok0:OkS []:=⟨sh3.good,fun e he=>(nomatch he),fun e he=>(nomatch he)⟩;clear off0 hfp nx ndx ne;obtain ⟨ix,i1,i2,i3,hix⟩:=qH sh3;refine ⟨_,rfl,x,ix,_,rfl,hix,rfl,_,rfl,sa,ns0,0,rfl,s3.seq hsa2,by omega,_,rfl,fun p L H4 s4 hp lk el=>⟨Um 2,fun p4 n4=>?_⟩⟩;have v4:=zF (o:=.tup [V.str "leaf",V.ref p]) n4;have d0:Dt K (upd H4 p4 (.tup [V.str "leaf",V.ref p])) (Th.leaf L).dat (.ref p4):=⟨p4,_,rfl,SqT.of zB,_,_,rfl,rfl,_,_,rfl,⟨p,_,rfl,SqT.of (v4 _ _ hp),DtAll.strs L⟩,rfl⟩;have s5:=s3.trans (s4.trans v4);have sh5:=sh3.same (s4.trans v4);delta tNil;dsimp only;show UK P w K aC aN aT [V.ref x,V.ref p4] (upd H4 p4 (.tup [V.str "leaf",V.ref p])) _ _;generalize upd H4 p4 (.tup [V.str "leaf",V.ref p])=H5 at d0 s5 sh5 ⊢;clear v4 hp s4 n4 hix s3 sh3;refine put_S sh5 ok0 (U1 lk.2 lk.1) rfl (by show 0<2000;decide) d0 fun H6 of6 sh6=>?_;have s6:=jO s5 fr3 of6;obtain ⟨oka,ata,la,Ta,eTa,hTa⟩:=BB ok0 (Bu lk) (by show 0<2000;decide);have nma:∀ y,y∈(putS [] (.leaf L)).1.map En.nm↔y=(putS [] (.leaf L)).2:=fun y=>⟨fun hy=>by
   obtain ⟨e,he,rfl⟩:=Za.mp hy;rw [eTa] at he;exact hTa e he,fun e=>by rw [e];exact ata.mem⟩
  have la:(putS [] (.leaf L)).1.length<=1:=la;clear Ta eTa hTa d0 of6 s5 sh5 ata;generalize eSa:putS [] (.leaf L)=qa at sh6 oka la nma ⊢;have hc16:=s6 _ _ hc12;refine ⟨_,rfl,c1,kv1,rfl,.inl hc16,fun hd nhd=>?_⟩;have vh:=zF (o:=.dK kv1) nhd;have hdf:hd∉fp:=sh6.ex.not nhd;have w1:wt fs<=24:=by have:=gf1.wt;omega
  have w2:wt os<=24:=by have:=go1.wt;omega
  obtain ⟨pk1,pl1⟩:=uI 3 (S:=qa.1) (fs:=fs) oka gf1 (by omega) (by omega);have hd0:H2 hd=none:=s6.free nhd;refine ⟨_,rfl,_,rfl,x,hd,fp,qa.1,fs,kv1,rfl,sh6.same vh,oka,zB,hdf,ff2.same (s6.trans vh),gf1,by omega,by omega,fun H7 of7 sh7=>?_⟩;have s7:=jO (s6.trans vh) fr3 of7;have hh7:=of7 _ _ hdf (zB (H:=H6) (a:=hd) (o:=.dK kv1));generalize eq1:Uj 4 qa.1 fs=q1 at pk1 pl1 sh7 ⊢;have pl1:q1.1.length<=26:=by omega
  clear vh of7 sh6 s6 hc16 nhd;have pk1:PutOk 5 qa.1 fs q1:=pk1;have mt1:(met 5 q1.1 q1.2).length<=1+4*fs.length:=pk1.many gf1;obtain ⟨ix,i1,i2,i3,hix⟩:=qH sh7;have enm:(q1.1.map fun e=>V.str e.nm)=(q1.1.map En.nm).map V.str:=by rw [Zt];rfl
  refine ⟨_,rfl,x,ix,_,rfl,hix,rfl,x,fp,q1.1,rfl,sh7,fun l nl=>?_⟩;rw [enm];have v1:=zF (o:=.lst ((q1.1.map En.nm).map V.str)) nl;refine ⟨l,q1.1.map En.nm,rfl,.inl (SqL.of zB),by rw [Q5];omega,fun z1 nz1=>?_⟩;rw [cx_prog,cx_w];have v2:=zF (o:=UN P w z1 (AxS.uniq (q1.1.map En.nm))) nz1;refine ⟨_,rfl,Um 1,fun l2 nl2=>?_⟩;have v3:=zF (o:=.lst [V.str qa.2]) nl2;have v13:=(v1.trans v2).trans v3;refine ⟨_,rfl,_,rfl,x,fp,q1.1,q1.2,rfl,sh7.same v13,pk1.ok,pk1.tree,by show (met 5 q1.1 q1.2).length<=2000;omega,fun l3 H8 s8 nl3 hl3=>?_⟩;have hl28:=s8 _ _ (zB (a:=l2) (o:=.lst [V.str qa.2]));have hz18:=s8 _ _ (v3 _ _ (zB (a:=z1) (o:=UN P w z1 (AxS.uniq (q1.1.map En.nm)))));have s8:=v13.trans s8;refine ⟨l2,l3,_,_,rfl,rfl,hl28,hl3,le_line (by rw [Q5];show 1+(met 5 q1.1 q1.2).length<=_;omega),fun l4 nl4=>?_⟩;have ecat:[V.str qa.2]++(met 5 q1.1 q1.2).map V.str=(qa.2::met 5 q1.1 q1.2).map V.str:=rfl;rw [ecat];have v4:=zF (o:=.lst ((qa.2::met 5 q1.1 q1.2).map V.str)) nl4;refine ⟨l4,qa.2::met 5 q1.1 q1.2,rfl,.inl (SqL.of zB),by rw [Zn];omega,fun z2 nz2=>?_⟩;have v5:=zF (o:=UN P w z2 (AxS.uniq (qa.2::met 5 q1.1 q1.2))) nz2;obtain ⟨ul,um⟩:=sets_same (a:=q1.1.map En.nm) (b:=qa.2::met 5 q1.1 q1.2) fun y=>by rw [pk1.names,nma,Zi]
  refine ⟨z1,z2,_,_,rfl,rfl,v5 _ _ (v4 _ _ hz18),zB,ul,um,_,rfl,Ug ?_⟩;have s8:=s8.trans (v4.trans v5);have s9:=s7.trans s8;have sh9:=sh7.same s8;have hh9:=s8 _ _ hh7;generalize upd (upd H8 l4 (.lst ((qa.2::met 5 q1.1 q1.2).map V.str))) z2 (UN P w z2 (AxS.uniq (qa.2::met 5 q1.1 q1.2)))=H9 at s9 sh9 hh9 ⊢;clear v1 v2 v3 v13 v4 v5 s8 s7 sh7 hh7 hl28 hz18 hl3 nl3 nl nl2 nz1 nz2 nl4 ul um ecat enm hix mt1;have lk1:=ff2.len;have nd1:fs.Nodup:=qG gf1.nd;have strs1:∀ p∈fs.map (fun f=>pth f.1),PyData.strOk p=true:=fun p hp=>by
   obtain ⟨f,hf,rfl⟩:=Za.mp hp;exact pth_ok (gf1.lab f hf).2.2.1
  refine ⟨_,rfl,_,rfl,hd,c1,kv1,kv1,true,rfl,rfl,.inl hh9,.inl (s9 _ _ hc12),dicts_self (ff2.same s9) gf1,_,rfl,Uk (fun z=>?_) (fun _=>?_)⟩
  ·exfalso;rw [beq_self_eq_true] at z;cases z
  refine ⟨_,rfl,hd,kv1,rfl,.inl hh9,fun l1 nl1=>?_⟩;have v1:=zF (o:=.lst (kv1.map fun kv=>kV kv.1)) nl1;refine ⟨_,rfl,c1,kv1,rfl,.inl (v1 _ _ (s9 _ _ hc12)),fun l2 nl2=>?_⟩;have v2:=zF (o:=.lst (kv1.map fun kv=>kV kv.1)) nl2;rw [ff2.kV] at v1 v2 ⊢;refine ⟨.list ((fs.map fun f=>pth f.1).map .str),.list ((fs.map fun f=>pth f.1).map .str),⟨l1,_,rfl,SqL.of (v2 _ _ zB),DtAll.strs _⟩,⟨l2,_,rfl,SqL.of zB,DtAll.strs _⟩,(yD strs1).1,(yD strs1).1,_,rfl,Uk (fun z=>?_) (fun _=>?_)⟩
  ·exfalso;have z:(!PyData.eqvAll _ _)=true:=z;rw [xP,Zd rfl] at z;cases z
  refine ⟨_,rfl,_,"str",.type "str",_,rfl,TyOf.str _,T.kit "str" (by simp [kinds]) "str" (by simp [kinds]),_,rfl,Ug ?_⟩;have s10:=s9.trans (v1.trans v2);have sh10:=sh9.same (v1.trans v2);have hh10:=(v1.trans v2) _ _ hh9;generalize upd (upd H9 l1 (.lst ((fs.map fun f=>pth f.1).map V.str))) l2 (.lst ((fs.map fun f=>pth f.1).map V.str))=H10 at s10 sh10 hh10 ⊢;clear v1 v2 s9 sh9 hh9 nl1 nl2;refine ⟨Um 1,fun p11 np11=>?_⟩;have v1:=zF (o:=.tup [V.str "more"]) np11;refine ⟨_,rfl,hd,_,rfl,DPut.k (k:=.inr "zz") (v1 _ _ hh10) (yR (by omega)),?_⟩;have s11:=jO (s10.trans v1) (fun d hd'=>by rw [Q7.mp hd'];exact hd0) (zU (c:=hd) (o:=.dK (putK kv1 (.inr "zz") (.ref p11))));have sh11:=(sh10.same v1).off (zN (v1 _ _ hh10)) (zU (c:=hd) (o:=.dK (putK kv1 (.inr "zz") (.ref p11)))) (fun d hd' z=>hdf (Q7.mp z▸hd'));generalize upd (upd H10 p11 (.tup [V.str "more"])) hd (.dK (putK kv1 (.inr "zz") (.ref p11)))=H11 at s11 sh11 ⊢;clear v1 s10 sh10 hh10 np11 hdf hd0;obtain ⟨rows1,at1⟩:=pk1.node;have rT:=root_T pk1.ok at1;have pm1:=pk1.perm gf1;have rl1:(reads 5 q1.1 q1.2).length=fs.length:=pm1.length_eq;have ln1:=pk1.lines gf1;obtain ⟨e1,he1,en1⟩:=Za.mp pk1.tree.mem;have r1ok:Ok 1000 q1.2:=by rw [←en1];exact pk1.ok.nm he1
  clear he1 en1 e1;refine ⟨_,rfl,1,rfl,q1.2,rfl,le_line (Yb r1ok.len (by decide)),rfl,_,rfl,Uk (fun z=>?_) (fun _=>?_)⟩
  ·exfalso;rw [rT,Zd rfl] at z;cases z
  refine ⟨_,rfl,_,rfl,x,fp,q1.1,q1.2,[],rfl,sh11,pk1.ok,pk1.tree,fun l hl=>(nomatch hl),by decide,by show (reads 5 q1.1 q1.2).length<=60;omega,ln1,fun e12 kv12 H12 s12 ne12 he12 fe12=>?_⟩;have fe12:FsAt K H12 (beh [] (reads 5 q1.1 q1.2)) kv12:=fe12;rw [beh_nil] at fe12;have s12':=s11.trans s12;have nr:(reads 5 q1.1 q1.2).Nodup:=rise_nd (pk1.tree.rise pk1.ok).1;have hts:=XS (ff2.same s12') gf1 fe12 fun f hf=>⟨(gf1.lab f ((pk1.rd f).mp hf)).1,(gf1.lab f ((pk1.rd f).mp hf)).2.2.1⟩;have eqd:=(dicts_eq fe12 (ff2.same s12') gf1 nr).mpr pk1.rd;refine ⟨_,rfl,e12,c1,kv12,kv1,_,rfl,rfl,.inl he12,.inl (s12' _ _ hc12),hts,_,rfl,Uk (fun z=>?_) (fun _=>?_)⟩
  ·exfalso;rw [eqd] at z;cases z
  refine ⟨_,rfl,c1,kv1,rfl,s12' _ _ hc12,_,_,rfl,rfl,_,rfl,_,rfl,x,fp,q1.1,q1.2,rfl,sh11.same s12,pk1.ok,pk1.tree,fun y rows h=>Tree.row_len pk1.ok h,fun H13 s13=>?_⟩;have eth:decide ((0:Int)<(kv1.length:Int))=!(reads 5 q1.1 q1.2).isEmpty:=by
   cases q:reads 5 q1.1 q1.2 with
   | nil =>
    rw [q] at rl1;rw [lk1,←rl1];rfl
   | cons f r =>
    rw [q,Zn] at rl1;rw [Zd (by omega)];rfl
  refine ⟨rfl,_,rfl,Uk (fun z=>?_) (fun _=>?_)⟩
  ·exfalso;have z:(!decide (V.bl (decide ((0:Int)<(kv1.length:Int)))=V.bl (!(reads 5 q1.1 q1.2).isEmpty)))=true:=z;rw [eth,Zd rfl] at z;cases z
  have s14:=s12'.trans s13;have sh14:=sh11.same (s12.trans s13);clear eqd hts nr fe12 he12 ne12 eth s12' s12 s13 s11 sh11;refine fun y dy ny ndy ne=>⟨y,dy,.non,[],rfl,zB,by rw [zH ne];exact zB,ne,.inl ⟨rfl,rfl⟩,fun fq H15 hfq off0 tw15=>⟨rfl,?_⟩⟩;obtain ⟨s15,fr15⟩:=Gv ny ndy ne hfq off0;have dj:∀ c∈fp,c∉fq:=fun c hc z=>by
   obtain ⟨o,eo⟩:=sh14.ex c hc;rw [fr15 c z] at eo;cases eo
  have W:W2 P w K aC H2 H15 x fp y fq q1.1 []:=⟨s14.trans s15,sh14.same s15,tw15,fr3,fun c hc=>s14.free (fr15 c hc),dj⟩;clear off0 hfq ny ndy ne s14 sh14 s15 fr15 tw15 dj;obtain ⟨iy,i1,i2,i3,hiy⟩:=qH W.tw;refine ⟨_,rfl,y,iy,_,rfl,hiy,rfl,_,rfl,sa,ns0,0,rfl,W.same.seq hsa2,by omega,_,rfl,fun p16 L2 H16 s16 hp16 lk16 el16=>⟨Um 2,fun p17 n17=>?_⟩⟩;have eL:L2=L:=el16.trans el.symm;subst eL;have v4:=zF (o:=.tup [V.str "leaf",V.ref p16]) n17;have d0:Dt K (upd H16 p17 (.tup [V.str "leaf",V.ref p16])) (Th.leaf L2).dat (.ref p17):=⟨p17,_,rfl,SqT.of zB,_,_,rfl,rfl,_,_,rfl,⟨p16,_,rfl,SqT.of (v4 _ _ hp16),DtAll.strs L2⟩,rfl⟩;have W:=W.ins (s16.trans v4)
  try dsimp only
  show UK P w K aC aN aT [V.ref y,V.ref p17] (upd H16 p17 (.tup [V.str "leaf",V.ref p16])) _ _;generalize upd H16 p17 (.tup [V.str "leaf",V.ref p16])=H17 at d0 W ⊢;clear v4 hp16 s16 n17 hiy;refine put_S W.tw ok0 (U1 lk.2 lk.1) rfl (by show 0<2000;decide) d0 fun H18 of18 sh18=>?_;have W:=W.putT of18 sh18;rw [eSa] at W;clear d0 of18 sh18;have W:W2 P w K aC H2 H18 x fp y fq q1.1 qa.1:=W;have n1p:c1∉fp:=fun z=>by have:=W.fr _ z;rw [hc12] at this;cases this
  have n1q:c1∉fq:=fun z=>by have:=W.gr _ z;rw [hc12] at this;cases this
  have n2p:c2∉fp:=fun z=>by have:=W.fr _ z;rw [hc2] at this;cases this
  have n2q:c2∉fq:=fun z=>by have:=W.gr _ z;rw [hc2] at this;cases this
  have neS:∀ {v:V},(!decide (v=v))=true->False:=fun {v} z=>by rw [Zd rfl] at z;cases z
  refine ⟨_,rfl,_,rfl,y,c1,fq,qa.1,fs,kv1,rfl,W.tw,oka,W.same _ _ hc12,n1q,ff2.same W.same,gf1,by omega,by omega,fun H19 of19 sh19=>?_⟩;rw [eq1] at sh19 ⊢;have W:=W.putT of19 sh19;clear of19 sh19;refine ⟨_,rfl,rfl,_,rfl,Uk (fun z=>(neS z).elim) (fun _=>?_)⟩;refine ⟨_,rfl,_,rfl,_,rfl,sa,ns0,1,rfl,W.same.seq hsa2,by omega,c1,_,kv1,fs,rfl,W.same _ _ hc12,ff2.same W.same,gf1,by omega,fun d kvd gs H20 s20 nd hd20 fg gg mgs lg=>?_⟩;have dfp:=W.sh.ex.not nd;have W:=W.ins s20;have wg:wt gs<=200:=by have:=gg.wt;omega
  obtain ⟨pk2,_⟩:=uI 3 (S:=q1.1) (fs:=gs) pk1.ok gg (by omega) (by omega);have e2:Uj 4 q1.1 gs=q1:=pk1.again pk2 fun f=>(mgs f).symm;refine ⟨x,d,fp,q1.1,gs,kvd,rfl,W.sh,pk1.ok,hd20,dfp,fg,gg,by omega,by omega,fun H21 of21 sh21=>?_⟩;rw [e2] at sh21 ⊢;have W:=W.put of21 sh21;clear of21 sh21 e2 pk2 wg dfp fg hd20 nd s20;refine ⟨_,rfl,rfl,_,rfl,Uk (fun z=>(neS z).elim) (fun _=>?_)⟩;have enm:(q1.1.map fun e=>V.str e.nm)=(q1.1.map En.nm).map V.str:=by rw [Zt];rfl
  have nmo:∀ p∈q1.1.map En.nm,PyData.strOk p=true:=fun p hp=>by
   obtain ⟨e,he,rfl⟩:=Za.mp hp;exact (pk1.ok.nm he).ok
  obtain ⟨ix,i1,i2,i3,hix⟩:=qH W.sh;refine ⟨_,rfl,x,ix,_,rfl,hix,rfl,x,fp,q1.1,rfl,W.sh,fun l22 nl22=>?_⟩;rw [enm];have v22:=zF (o:=.lst ((q1.1.map En.nm).map V.str)) nl22;refine ⟨l22,_,rfl,.inl (SqL.of zB),fun l23 nl23=>?_⟩;have v23:=zF (o:=.lst ((q1.1.map En.nm).map V.str)) nl23;have W:=W.ins (v22.trans v23);have h23:upd (upd H21 l22 (.lst ((q1.1.map En.nm).map V.str))) l23 (.lst ((q1.1.map En.nm).map V.str)) l23=some (.lst ((q1.1.map En.nm).map V.str)):=zB;generalize upd (upd H21 l22 (.lst ((q1.1.map En.nm).map V.str))) l23 (.lst ((q1.1.map En.nm).map V.str))=H23 at W h23 ⊢;clear v22 v23 nl22 nl23 hix;obtain ⟨iy,i1,i2,i3,hiy⟩:=qH W.tw;refine ⟨_,rfl,_,rfl,y,iy,_,rfl,hiy,rfl,y,fq,q1.1,rfl,W.tw,fun l24 nl24=>?_⟩;rw [enm];have v24:=zF (o:=.lst ((q1.1.map En.nm).map V.str)) nl24;refine ⟨.list ((q1.1.map En.nm).map .str),.list ((q1.1.map En.nm).map .str),⟨l23,_,rfl,SqL.of (v24 _ _ h23),DtAll.strs _⟩,⟨l24,_,rfl,SqL.of zB,DtAll.strs _⟩,(yD nmo).1,(yD nmo).1,_,rfl,Uk (fun z=>?_) (fun _=>?_)⟩
  ·exfalso;have z:(!PyData.eqvAll _ _)=true:=z;rw [xP,Zd rfl] at z;cases z
  have W:=W.ins v24;have h24:=v24 _ _ h23;generalize upd H23 l24 (.lst ((q1.1.map En.nm).map V.str))=H24 at W h24 ⊢;clear v24 nl24 h23 hiy enm;obtain ⟨pk3,pl3⟩:=uI 3 (S:=q1.1) (fs:=os) pk1.ok go1 (by omega) (by omega);refine ⟨_,rfl,_,rfl,y,c2,fq,q1.1,os,kv2,rfl,W.tw,pk1.ok,W.same _ _ hc2,n2q,fo1.same W.same,go1,by omega,by omega,fun H25 of25 sh25=>?_⟩;have h25:=of25 _ _ (not_lst W.tw.noseq h24) h24;have W:=W.putT of25 sh25;generalize eq3:Uj 4 q1.1 os=q3 at W pk3 pl3 ⊢;have pk3:PutOk 5 q1.1 os q3:=pk3;have pl3:q3.1.length<=51:=by omega
  clear of25 sh25 h24;obtain ⟨rows3,at3⟩:=pk3.node;obtain ⟨e3,he3,en3⟩:=Za.mp pk3.tree.mem;have r3ok:PyData.strOk q3.2=true:=by rw [←en3];exact (pk3.ok.nm he3).ok
  clear he3 en3 e3;refine ⟨fun σ' H'=>σ'=[some (.ref sa),some (.ref c1),some (.ref c2),some (.ref x),some (.str qa.2),some (.ref hd),some (.str q1.2),some (.ref y),some (.ref l23),some (.str q3.2),none,none]/\Same H25 H',?_,?_⟩
  ·refine ⟨_,rfl,_,rfl,.str q3.2,(q1.1.map En.nm).map .str,rfl,⟨l23,_,rfl,SqL.of h25,DtAll.strs _⟩,(vE _ nmo).1,r3ok,ZJ _,_,rfl,Uk (fun z=>?_) (fun _=>Ug ⟨rfl,Same.refl _⟩)⟩;have nin:q3.2∉q1.1.map En.nm:=fun q=>by
    rw [any_strs,Zd q] at z;cases z
   refine ⟨_,rfl,_,rfl,x,fp,q1.1,q3.2,rfl,W.sh,pk1.ok,?_,fun H26 s26=>⟨true,rfl,iteNF ⟨rfl,s26⟩⟩⟩
   rcases uW pk1.ok q3.2 with ⟨_,rows,att⟩|⟨q,_⟩
   ·exact absurd att.mem nin
   ·exact q
  rintro σ' H26 ⟨rfl,s26⟩;have W:=W.ins s26;clear s26 h25;refine ⟨_,rfl,_,rfl,x,c2,fp,q1.1,os,kv2,rfl,W.sh,pk1.ok,W.same _ _ hc2,n2p,fo1.same W.same,go1,by omega,by omega,fun H27 of27 sh27=>?_⟩;rw [eq3] at sh27 ⊢;have W:=W.put of27 sh27;clear of27 sh27;refine ⟨_,rfl,rfl,_,rfl,Uk (fun z=>(neS z).elim) (fun _=>?_)⟩;obtain ⟨T3,eT3,_⟩:=pk3.new;have hits3:=XS (ff2.same W.same) gf1 (fo1.same W.same) fun f hf=>⟨(go1.lab f hf).1,(go1.lab f hf).2.2.1⟩;have eqb:decide (V.str q3.2=V.str q1.2)=(kv2.length==kv1.length&&decide (∀ f∈os,f∈fs)):=by
   rw [ZU,Zq,dicts_eq (fo1.same W.same) (ff2.same W.same) gf1 (qG go1.nd),V.str.injEq];exact ⟨fun h f=>((uP pk1 pk3 eT3).mp h.symm f).symm,fun h=>((uP pk1 pk3 eT3).mpr fun f=>(h f).symm).symm⟩
  refine ⟨_,rfl,_,rfl,rfl,_,rfl,_,rfl,c2,c1,kv2,kv1,_,rfl,rfl,.inl (W.same _ _ hc2),.inl (W.same _ _ hc12),hits3,rfl,_,rfl,Uk (fun z=>?_) (fun _=>?_)⟩
  ·exfalso;rw [eqb] at z;exact neS z
  clear eqb hits3;obtain ⟨pk4,pl4⟩:=uI 3 (S:=q3.1) (fs:=fs) pk3.ok gf1 (by omega) (by omega);refine ⟨_,rfl,_,rfl,x,c1,fp,q3.1,fs,kv1,rfl,W.sh,pk3.ok,W.same _ _ hc12,n1p,ff2.same W.same,gf1,by omega,by omega,fun H28 of28 sh28=>?_⟩;have W:=W.put of28 sh28;clear of28 sh28;generalize eq4:Uj 4 q3.1 fs=q4 at W pk4 pl4 ⊢;have pk4:PutOk 5 q3.1 fs q4:=pk4;obtain ⟨T4,eT4,_⟩:=pk4.new;have E14:q4.1=q1.1++(T3++T4):=by rw [eT4,eT3,Z2]
  have e4:q4.2=q1.2:=((uP pk1 pk4 E14).mpr fun f=>Iff.rfl).symm;rw [e4];refine ⟨_,rfl,rfl,_,rfl,Uk (fun z=>(neS z).elim) (fun _=>?_)⟩;have ok4:=pk4.ok;have tr1:Tree 5 q4.1 q1.2/\reads 5 q4.1 q1.2=reads 5 q1.1 q1.2:=by
   rw [E14] at ok4 ⊢;exact pk1.tree.more ok4 pk1.ok
  have tr3:Tree 5 q4.1 q3.2/\reads 5 q4.1 q3.2=reads 5 q3.1 q3.2:=by
   rw [eT4] at ok4 ⊢;exact pk3.tree.more ok4 pk3.ok
  have at14:At q4.1 q1.2 (.tree rows1):=by rw [E14];exact at1.more
  have at34:At q4.1 q3.2 (.tree rows3):=by rw [eT4];exact at3.more
  have rd1:∀ f,f∈reads 5 q4.1 q1.2↔f∈fs:=by rw [tr1.2];exact pk1.rd
  have rd3:∀ f,f∈reads 5 q4.1 q3.2↔f∈os:=by rw [tr3.2];exact pk3.rd
  have len1:(reads 5 q4.1 q1.2).length<=6:=by rw [tr1.2,rl1];exact lf6
  have len3:(reads 5 q4.1 q3.2).length<=6:=by rw [tr3.2,(pk3.perm go1).length_eq];exact lo6
  have lns1:∀ f∈reads 5 q4.1 q1.2,Uv f.2:=by rw [tr1.2];exact ln1
  have lns3:∀ f∈reads 5 q4.1 q3.2,Uv f.2:=by rw [tr3.2];exact pk3.lines go1
  have ri1:=(tr1.1.rise ok4).1;have ri3:=(tr3.1.rise ok4).1;have tr1:=tr1.1;have tr3:=tr3.1;generalize q4.1=S4 at W ok4 tr1 tr3 at14 at34 rd1 rd3 len1 len3 lns1 lns3 ri1 ri3;have la:labs "a"=[("a":Str)]:=qK (ys:=[("a":Str)]) (ZR _ _) fun y hy=>by
   rw [Q7.mp hy];decide +kernel
  refine ⟨_,rfl,_,rfl,x,fp,S4,q3.2,("a":Str),rfl,W.sh,ok4,by decide +kernel,by decide +kernel,.inl ⟨5,rows3,at34,tr3,fun H29 s29=>?_⟩⟩;rw [la];refine ⟨_,rfl,_,rfl,Um 1,fun l30 n30=>?_⟩;have v30:=zF (o:=.lst [V.str "a"]) n30;refine ⟨x,l30,fp,S4,q3.2,[("a":Str)],5,rfl,W.sh.same (s29.trans v30),ok4,tr3,SqL.of zB,fun H31 s31=>?_⟩;have dk:=oDS_ok (o:=atT S4 q3.2 [("a":Str)]) ok4 fun n hn=>by
   obtain ⟨e,te⟩:=Bx ok4 [("a":Str)] tr3 hn;exact te.mem
  refine ⟨oDS (atT S4 q3.2 [("a":Str)]),oDS (atT S4 q3.2 [("a":Str)]),oV_dt _,oV_dt _,dk.1,dk.1,_,rfl,Uk (fun z=>?_) (fun _=>?_)⟩
  ·exfalso;rw [dk.2] at z;cases z
  have W:=W.ins ((s29.trans v30).trans s31);clear s29 s31 v30 n30 dk la;refine ⟨_,rfl,_,rfl,x,fp,S4,q3.2,rfl,W.sh,ok4,.inl ⟨rows3,at34,tr3,by omega,lns3,fun e32 kv32 H32 s32 ne32 he32 fe32=>?_⟩⟩;have W':=W.ins s32;refine ⟨_,rfl,e32,c2,kv32,kv2,_,os,rfl,he32,fe32,ri3,rd3,W'.same _ _ hc2,fo1.same W'.same,go1,(zM (W.same _ _ hc2) ne32).symm,by omega,fun H33 s33=>⟨true,rfl,iteNF ?_⟩⟩;have W:=W'.ins s33;clear W' s32 s33 ne32 he32 fe32;refine ⟨_,rfl,_,rfl,x,fp,S4,q1.2,rfl,W.sh,ok4,.inl ⟨rows1,at14,tr1,by omega,lns1,fun e34 kv34 H34 s34 ne34 he34 fe34=>?_⟩⟩;have W':=W.ins s34;refine ⟨_,rfl,_,rfl,e34,c1,kv34,kv1,_,fs,rfl,he34,fe34,ri1,rd1,W'.same _ _ hc12,ff2.same W'.same,gf1,(zM (W.same _ _ hc12) ne34).symm,by omega,fun H35 s35=>⟨true,rfl,iteNF ?_⟩⟩;have h35:=s35 _ _ he34;have lk34:=fe34.len;have n0:=W.same.free ne34;have np:=W.sh.ex.not ne34;have nq:=W.tw.ex.not ne34;have W:=W'.ins s35;clear W' s34 s35 ne34 he34 fe34;refine ⟨Um 0,fun p36 n36=>?_⟩;have v36:=zF (o:=.tup []) n36;refine ⟨_,rfl,e34,_,rfl,DPut.k (k:=.inr "zz") (v36 _ _ h35) (yR (by omega)),?_⟩;have W:=(W.ins v36).dic (ys:=putK kv34 (.inr "zz") (.ref p36)) (v36 _ _ h35) n0 np nq;generalize upd (upd H35 p36 (.tup [])) e34 (.dK (putK kv34 (.inr "zz") (.ref p36)))=H36 at W ⊢;clear v36 n36 h35 lk34 n0 np nq;refine ⟨_,rfl,c1,kv1,rfl,.inl (W.same _ _ hc12),fun l37 n37=>?_⟩;rw [ff2.kV];have v37:=zF (o:=.lst ((fs.map fun f=>pth f.1).map V.str)) n37;have W:=W.ins v37;refine ⟨_,rfl,c2,kv2,rfl,.inl (W.same _ _ hc2),fun l38 n38=>?_⟩;rw [fo1.kV];have v38:=zF (o:=.lst ((os.map fun f=>pth f.1).map V.str)) n38;have W:=W.ins v38;refine ⟨l37,l38,_,_,rfl,rfl,v38 _ _ zB,zB,le_line (by rw [Q5,Q5,Q5,Q5];omega),fun l39 n39=>?_⟩;have v39:=zF (o:=.lst ((fs.map fun f=>pth f.1).map V.str++(os.map fun f=>pth f.1).map V.str)) n39;have W:=W.ins v39;refine ⟨_,rfl,sa,ns0,2,rfl,W.same.seq hsa2,by omega,_,rfl,fun ls H40 lb s40=>⟨Um 3,fun l41 n41=>?_⟩⟩;have v41:=zF (o:=.lst [V.str (pth ls),V.str "a",V.str "zz"]) n41;have W:=(W.ins s40).ins v41;refine ⟨l39,l41,_,_,rfl,rfl,v41 _ _ (s40 _ _ zB),zB,le_line (by rw [Zh,Q5,Q5,Q5,Q5];show _+3<=_;omega),fun l42 n42=>?_⟩;have v42:=zF (o:=.lst (((fs.map fun f=>pth f.1).map V.str++(os.map fun f=>pth f.1).map V.str)++[V.str (pth ls),V.str "a",V.str "zz"])) n42;have W:=W.ins v42;have eP:((fs.map fun f=>pth f.1).map V.str++(os.map fun f=>pth f.1).map V.str)++[V.str (pth ls),V.str "a",V.str "zz"]=((fs.map (·.1)++os.map (·.1))++[ls,[("a":Str)],[("zz":Str)]]).map fun ls=>V.str (pth ls):=by
   rw [Zf,Zf,Zt,Zt,Zt,Zt];rfl
  have lbs:∀ m∈(fs.map (·.1)++os.map (·.1))++[ls,[("a":Str)],[("zz":Str)]],LbOk m:=fun m hm=>by
   rcases Zs.mp hm with hm|hm
   ·rcases Zs.mp hm with hm|hm
    ·obtain ⟨f,hf,rfl⟩:=Za.mp hm;exact ⟨(gf1.lab f hf).1,(gf1.lab f hf).2.1,(gf1.lab f hf).2.2.1⟩
    ·obtain ⟨f,hf,rfl⟩:=Za.mp hm;exact ⟨(go1.lab f hf).1,(go1.lab f hf).2.1,(go1.lab f hf).2.2.1⟩
   ·rcases Zi.mp hm with rfl|hm
    ·exact lb
    ·rcases Zi.mp hm with rfl|hm
     ·exact ⟨ZR _ _,by decide,by decide +kernel⟩
     ·rw [Q7.mp hm];exact ⟨ZR _ _,by decide,by decide +kernel⟩
  rw [eP] at W ⊢;refine ⟨_,rfl,_,rfl,_,rfl,x,l42,fp,S4,q1.2,5,rows1,_,rfl,W.sh,ok4,tr1,at14,zB,lbs,by rw [Zh,Zh,Q5,Q5];show _+3<=_;omega,fun H43 s43=>⟨_,rfl,Uf ?_⟩⟩;have W:=W.ins s43;refine ⟨_,rfl,_,rfl,x,fp,S4,q1.2,rfl,W.sh,ok4,.inl ⟨rows1,at14,tr1,by omega,lns1,fun e44 kv44 H44 s44 ne44 he44 fe44=>?_⟩⟩;have W':=W.ins s44;exact ⟨_,rfl,e44,c1,kv44,kv1,_,fs,rfl,he44,fe44,ri1,rd1,W'.same _ _ hc12,ff2.same W'.same,gf1,(zM (W.same _ _ hc12) ne44).symm,by omega,fun H45 s45=>kQ _⟩
end g_law
end
end An06
/-! the evaluating tactics look for a twin of each of these constants under these names;names that are taken keep them from laying one,for the twins' equations make the compiled file too large -/
namespace PySem.W.Fast
theorem tw18023829776047293357:True:=trivial
theorem tw5245504675226804724:True:=trivial
theorem tw3847056995456926077:True:=trivial
theorem tw14172665524483426804:True:=trivial
theorem tw3088044090591024823:True:=trivial
theorem tw2039252733728182224:True:=trivial
theorem tw15251878618535073616:True:=trivial
theorem tw11910571679608258213:True:=trivial
theorem tw5933109095457454466:True:=trivial
theorem tw8410811121574857:True:=trivial
theorem tw1339812432747247471:True:=trivial
theorem tw8331001207412793150:True:=trivial
theorem tw641475847132534332:True:=trivial
theorem tw7466879091188228825:True:=trivial
theorem tw15145677181060829710:True:=trivial
theorem tw4595209121607473880:True:=trivial
theorem tw7257567193187178733:True:=trivial
theorem tw14477095364938025149:True:=trivial
theorem tw2848955110758799164:True:=trivial
theorem tw8131552234596007052:True:=trivial
theorem tw7448364069001969073:True:=trivial
theorem tw16865648432776127116:True:=trivial
theorem tw14993766296484724728:True:=trivial
theorem tw15121993186657536982:True:=trivial
theorem tw10218299811698677087:True:=trivial
theorem tw9895539502857913084:True:=trivial
theorem tw9970835061534918791:True:=trivial
theorem tw3705809183741225901:True:=trivial
theorem tw5025252623344624920:True:=trivial
theorem tw4377629688764035058:True:=trivial
theorem tw7285992320902054629:True:=trivial
theorem tw12406611692181866276:True:=trivial
theorem tw8533622614150127382:True:=trivial
theorem tw5961472975697230334:True:=trivial
theorem tw10385961804671406162:True:=trivial
theorem tw12250821274703206017:True:=trivial
theorem tw452096165781734389:True:=trivial
theorem tw14342275109932333760:True:=trivial
theorem tw12596510620164332705:True:=trivial
theorem tw18228210041652686484:True:=trivial
theorem tw14327590440135667428:True:=trivial
theorem tw8105074031002930807:True:=trivial
theorem tw14842063532572487026:True:=trivial
theorem tw6390840534693806583:True:=trivial
theorem tw15950722464046678012:True:=trivial
theorem tw9976178268034845349:True:=trivial
theorem tw12172062419218923360:True:=trivial
theorem tw17152359500973982219:True:=trivial
theorem tw13547058981633533629:True:=trivial
theorem tw14204284921065099657:True:=trivial
theorem tw5654004868134967112:True:=trivial
theorem tw4130535242614913096:True:=trivial
theorem tw9218804899714776904:True:=trivial
theorem tw16892826264260582660:True:=trivial
theorem tw1422118619182434700:True:=trivial
theorem tw12388245449338789692:True:=trivial
theorem tw4492797266671899401:True:=trivial
theorem tw10333698346733378024:True:=trivial
theorem tw727221368806600384:True:=trivial
theorem tw2928037454224393950:True:=trivial
theorem tw8703009105119207229:True:=trivial
theorem tw15157628268925887236:True:=trivial
theorem tw14508932101180218609:True:=trivial
theorem tw11273769507169068238:True:=trivial
theorem tw9430909923542564009:True:=trivial
theorem tw13620106903524151278:True:=trivial
theorem tw8141355517563352131:True:=trivial
theorem tw2678619837365533555:True:=trivial
theorem tw14718846426782146320:True:=trivial
theorem tw16232187926968793564:True:=trivial
theorem tw16077098873983631064:True:=trivial
theorem tw15391413327023453119:True:=trivial
theorem tw11108749375348766427:True:=trivial
theorem tw18439141942968834859:True:=trivial
theorem tw6471360077293661984:True:=trivial
theorem tw2424781611353595102:True:=trivial
theorem tw427681034675412983:True:=trivial
theorem tw17388798666780493331:True:=trivial
theorem tw12340549643581649782:True:=trivial
theorem tw13547217775321295689:True:=trivial
theorem tw8948176763948131565:True:=trivial
theorem tw3611073145004666599:True:=trivial
theorem tw14868178242266394298:True:=trivial
theorem tw10512115326498180360:True:=trivial
theorem tw13158280163306021167:True:=trivial
theorem tw13629445757247577802:True:=trivial
theorem tw5079804458950430943:True:=trivial
theorem tw2604999183942327497:True:=trivial
theorem tw3560926654240448475:True:=trivial
theorem tw17859210246073769583:True:=trivial
theorem tw16668748860552885313:True:=trivial
theorem tw16140949974126419094:True:=trivial
theorem tw3261793695092413415:True:=trivial
theorem tw3874294836552962783:True:=trivial
theorem tw6277875539903007358:True:=trivial
theorem tw7341612554860399181:True:=trivial
theorem tw3563310274688761777:True:=trivial
theorem tw13787510433290374502:True:=trivial
theorem tw11005001226378439289:True:=trivial
theorem tw9836205297484980003:True:=trivial
theorem tw987190736120430974:True:=trivial
theorem tw13322469395978019451:True:=trivial
theorem tw3765693166664543030:True:=trivial
theorem tw12387707426855887734:True:=trivial
theorem tw15301434820642526679:True:=trivial
theorem tw6492014000493793501:True:=trivial
theorem tw13886384556020354294:True:=trivial
theorem tw10497522919668528980:True:=trivial
theorem tw12117425262633776578:True:=trivial
theorem tw6920138926998421115:True:=trivial
theorem tw18355192380700848399:True:=trivial
theorem tw3873152314220776301:True:=trivial
theorem tw12107940972453436345:True:=trivial
theorem tw4816295886846546408:True:=trivial
theorem tw11500310938905812570:True:=trivial
theorem tw18016418772965995501:True:=trivial
theorem tw11820371245458086138:True:=trivial
theorem tw5176827271618324009:True:=trivial
theorem tw6060332520832111690:True:=trivial
theorem tw15849518449854038551:True:=trivial
theorem tw5808443292123007004:True:=trivial
theorem tw6438417266347073046:True:=trivial
theorem tw9653456756707379863:True:=trivial
theorem tw12385935549281221350:True:=trivial
theorem tw16168772922738894675:True:=trivial
theorem tw14005254867312586101:True:=trivial
theorem tw17239087313717051767:True:=trivial
theorem tw18091340602554658465:True:=trivial
theorem tw15225118896158451522:True:=trivial
theorem tw15417013328792401565:True:=trivial
theorem tw7321676122227368821:True:=trivial
theorem tw7104040627528232606:True:=trivial
theorem tw3065039446053306089:True:=trivial
theorem tw17475204344289612866:True:=trivial
theorem tw4490684605177480210:True:=trivial
theorem tw14767838971202832329:True:=trivial
theorem tw1111597431383651078:True:=trivial
theorem tw15185160847722049952:True:=trivial
theorem tw2518714451569427106:True:=trivial
theorem tw4001988046664626374:True:=trivial
theorem tw5298977589694502321:True:=trivial
theorem tw15054065420558333570:True:=trivial
end PySem.W.Fast
namespace An06
open PySem L2 An
theorem kd_of {P:Program}{w:World}{K:ZZF}{a:Addr}{t1 u1 t2 u2 t3 u3:Tok}{n:Nat}(h:K.lookup a=some { cls:=.type "dict",data:=.dict #[⟨PyData.keyHash w.params "leaf",.str "leaf" t1,.str "L" u1⟩,⟨PyData.keyHash w.params "tree",.str "tree" t2,.str "T" u2⟩,⟨PyData.keyHash w.params "note",.str "note" t3,.str "N" u3⟩] n }) :
  KD P w K a xJ:=by
 intro hp X;refine ⟨[(Sum.inr "leaf",.str "L" u1),(Sum.inr "tree",.str "T" u2),(Sum.inr "note",.str "N" u3)],.cons ⟨rfl,u1,rfl⟩ (.cons ⟨rfl,u2,rfl⟩ (.cons ⟨rfl,u3,rfl⟩ .nil)),_,_,n,X a _ h,⟨rfl,rfl,rfl⟩,rfl,?_,?_,?_⟩
 ·intro e he;have he:e∈[(⟨PyData.keyHash w.params "leaf",.str "leaf" t1,.str "L" u1⟩:DictEntry),⟨PyData.keyHash w.params "tree",.str "tree" t2,.str "T" u2⟩,⟨PyData.keyHash w.params "note",.str "note" t3,.str "N" u3⟩]:=by simpa using he
  rcases Zi.mp he with z|z
  ·subst z;exact ⟨Sum.inr "leaf",x4 _ t1,rfl⟩
  ·rcases Zi.mp z with z|z
   ·subst z;exact ⟨Sum.inr "tree",x4 _ t2,rfl⟩
   ·rw [Q7.mp z];exact ⟨Sum.inr "note",x4 _ t3,rfl⟩
 ·exact .cons (x4 _ t1) rfl (.cons (x4 _ t2) rfl (.cons (x4 _ t3) rfl .nil))
 ·show ([Sum.inr "leaf",Sum.inr "tree",Sum.inr "note"]:List Key).Nodup
  decide +kernel
def GF (K:ZZF)(x:Str)(st:Stmt)(f:Addr):Prop:=PySem.W.nsIn K mainGlobals x=some (some (.ref f))/\∃ (oc:Value) (od an:Option Addr) (sl:Array (Option Value)) (kV dc pm cd ct:Value),K.lookup f=some ⟨oc,od,.func (PySem.W.fnOf x x (qF st) (xM st) (zG st) .none kV dc pm an cd ct),sl⟩/\PySem.W.codeIn K cd x=true/\PySem.W.keepIn K (.ref f)=true
def MF (K:ZZF)(C:Addr)(x q:Str)(st:Stmt)(f:Addr):Prop:=PySem.W.findIn K (.ref C) x=some (some (.ref f))/\PySem.W.isFn K (.ref f)=true/\∃ (oc:Value) (od an:Option Addr) (sl:Array (Option Value)) (kV dc pm cd ct:Value),K.lookup f=some ⟨oc,od,.func (PySem.W.fnOf x q (qF st) (xM st) (zG st) .none kV dc pm an cd ct),sl⟩/\PySem.W.codeIn K cd q=true/\PySem.W.keepIn K (.ref f)=true
section
variable {P:Program}{w:World}{K:ZZF}{h:Heap}{mg:Str->Option Value}{k:Nat}{x q:Str}{st:Stmt}{f C:Addr}{ps:List Str}{sp:Sp}{oc:Value}{od an:Option Addr}{sl:Array (Option Value)}{kV dc pm cd ct:Value}
theorem GF.mk (a:PySem.W.nsIn K mainGlobals x=some (some (.ref f)))(l:K.lookup f=some ⟨oc,od,.func (PySem.W.fnOf x x (qF st) (xM st) (zG st) .none kV dc pm an cd ct),sl⟩)(c:PySem.W.codeIn K cd x=true)(k:PySem.W.keepIn K (.ref f)=true):GF K x st f:=⟨a,_,_,_,_,_,_,_,_,_,l,c,k⟩
theorem MF.mk (a:PySem.W.findIn K (.ref C) x=some (some (.ref f)))(i:PySem.W.isFn K (.ref f)=true)(l:K.lookup f=some ⟨oc,od,.func (PySem.W.fnOf x q (qF st) (xM st) (zG st) .none kV dc pm an cd ct),sl⟩)(c:PySem.W.codeIn K cd q=true)(k:PySem.W.keepIn K (.ref f)=true):MF K C x q st f:=⟨a,i,_,_,_,_,_,_,_,_,_,l,c,k⟩
abbrev BA (x q:Str)(st:Stmt)(ps:List Str):Prop:=∀ (kV doc pm:Value) (an:Option Addr) (cdv ct:Value) (us:List Value),us.length=ps.length->bindArgs (PySem.W.fnOf x q (qF st) (xM st) (zG st) .none kV doc pm an cdv ct) ⟨us,[]⟩=pure (ps.zip us)
theorem GF.cal (X:K.In h)(G:h.Ns mainGlobals mg)(a:GF K x st f)(b:Heap)(g:∀ fd,Fun K x x st f fd->mg x=some (.ref f)->Binds K fd ps []->FnOk P w K mg b CX0 k f fd ps sp)(e:BA x x st ps:=by intro _ _ _ _ _ _ us l;first|exact (match us,l with|[_],_=>rfl)|exact (match us,l with|[_,_],_=>rfl)|exact (match us,l with|[_,_,_],_=>rfl)):Cal P w K mg b k x ps sp:=by
 obtain ⟨h1,_,_,_,_,_,_,_,_,_,l,c,kp⟩:=a;have F:=U6 l c kp;exact Cal.mk' F (g _ F (Z3 X G h1) (F.binds e)) (Z3 X G h1) (F.binds e)
theorem GF.calX (X:K.In h)(G:h.Ns mainGlobals mg)(a:GF K x st f)(b:Heap)(g:∀ fd,Fun K x x st f fd->mg x=some (.ref f)->Binds K fd ps []->FnOk P w K mg b (CXF P w) k f fd ps sp)(e:BA x x st ps:=by intro _ _ _ _ _ _ us l;first|exact (match us,l with|[_],_=>rfl)|exact (match us,l with|[_,_],_=>rfl)|exact (match us,l with|[_,_,_],_=>rfl)):CalX P w K mg b k x ps sp:=by
 obtain ⟨h1,_,_,_,_,_,_,_,_,_,l,c,kp⟩:=a;have F:=U6 l c kp;exact CalX.mk' F (g _ F (Z3 X G h1) (F.binds e)) (Z3 X G h1) (F.binds e)
theorem MF.met (a:MF K C x q st f)(b:Heap)(g:∀ fd,Fun K x q st f fd->FnOk P w K mg b CX0 k f fd ps sp)(e:BA x q st ps:=by intro _ _ _ _ _ _ us l;first|exact (match us,l with|[_],_=>rfl)|exact (match us,l with|[_,_],_=>rfl)|exact (match us,l with|[_,_,_],_=>rfl)):Met P w K mg b C k x ps sp:=by
 obtain ⟨h1,i,_,_,_,_,_,_,_,_,_,l,c,kp⟩:=a;have F:=U6 l c kp;exact ⟨⟨_,_,g _ F,⟨h1,i,kp⟩,F.binds e⟩⟩
theorem MF.metX (a:MF K C x q st f)(b:Heap)(g:∀ fd,Fun K x q st f fd->FnOk P w K mg b (CXF P w) k f fd ps sp)(e:BA x q st ps:=by intro _ _ _ _ _ _ us l;first|exact (match us,l with|[_],_=>rfl)|exact (match us,l with|[_,_],_=>rfl)|exact (match us,l with|[_,_,_],_=>rfl)):MetX P w K mg b C k x ps sp:=by
 obtain ⟨h1,i,_,_,_,_,_,_,_,_,_,l,c,kp⟩:=a;have F:=U6 l c kp;exact ⟨⟨_,_,g _ F,⟨h1,i,kp⟩,F.binds e⟩⟩
theorem MF.mak (a:MF K C "__init__" q st f)(b:Heap)(m:PySem.W.makesIn K C=true)(kc:PySem.W.keepIn K (.ref C)=true)(hx:mg x=some (.ref C))(g:∀ fd,Fun K "__init__" q st f fd->FnOk P w K mg b CX0 k f fd ps sp)(e:BA "__init__" q st ps:=by intro _ _ _ _ _ _ us l;first|exact (match us,l with|[_],_=>rfl)|exact (match us,l with|[_,_],_=>rfl)|exact (match us,l with|[_,_,_],_=>rfl)):Mak P w K mg b C k x ps sp:=by
 obtain ⟨h1,i,_,_,_,_,_,_,_,_,_,l,c,kp⟩:=a;have F:=U6 l c kp;exact ⟨⟨_,_,g _ F,⟨m,h1,i,kc⟩,F.binds e,hx⟩⟩
end
set_option maxHeartbeats 0 in
theorem all_mk {l:PySem.W.OpenLaw}{w:World}{K:ZZF}{h:Heap}{mg:Str->Option Value}{fa:Addr}{t1 t2 t3 t4 t5 t6 t7:Tok}{aL aC aN aT aA b1 b2:Addr}(X:K.In h)(G:h.Ns mainGlobals mg)(hfa:mg "law"=some (.ref fa))
  (z_len:PySem.W.nsIn K mainGlobals "len"=some none)
  (z_all:PySem.W.nsIn K mainGlobals "all"=some none)
  (z_ord:PySem.W.nsIn K mainGlobals "ord"=some none)
  (z_isinstance:PySem.W.nsIn K mainGlobals "isinstance"=some none)
  (z_str:PySem.W.nsIn K mainGlobals "str"=some none)
  (z_set:PySem.W.nsIn K mainGlobals "set"=some none)
  (z_sorted:PySem.W.nsIn K mainGlobals "sorted"=some none)
  (z_tuple:PySem.W.nsIn K mainGlobals "tuple"=some none)
  (z_list:PySem.W.nsIn K mainGlobals "list"=some none)
  (z_max:PySem.W.nsIn K mainGlobals "max"=some none)
  (z_int:PySem.W.nsIn K mainGlobals "int"=some none)
  (z_bool:PySem.W.nsIn K mainGlobals "bool"=some none)
  (z_range:PySem.W.nsIn K mainGlobals "range"=some none)
  (z_dict:PySem.W.nsIn K mainGlobals "dict"=some none)
  (z_any:PySem.W.nsIn K mainGlobals "any"=some none)
  (z_LONGEST_LINE:PySem.W.nsIn K mainGlobals "LONGEST_LINE"=some (some (.int 20 t1)))
  (z_LONGEST_LABEL:PySem.W.nsIn K mainGlobals "LONGEST_LABEL"=some (some (.int 8 t2)))
  (z_MOST_PARENTS:PySem.W.nsIn K mainGlobals "MOST_PARENTS"=some (some (.int 2 t3)))
  (z_PERCENT:PySem.W.nsIn K mainGlobals "PERCENT"=some (some (.int 37 t4)))
  (z_MOST_LABELS:PySem.W.nsIn K mainGlobals "MOST_LABELS"=some (some (.int 4 t7)))
  (z_DIGEST_FACTOR:PySem.W.nsIn K mainGlobals "DIGEST_FACTOR"=some (some (.int 31 t5)))
  (z_DIGEST_BOUND:PySem.W.nsIn K mainGlobals "DIGEST_BOUND"=some (some (.int 97 t6)))
  (z_LETTERS:PySem.W.nsIn K mainGlobals "LETTERS"=some (some (.ref aL)))
  (z_NoName:PySem.W.nsIn K mainGlobals "NoName"=some (some (.ref aN)))
  (z_NoThing:PySem.W.nsIn K mainGlobals "NoThing"=some (some (.ref aT)))
  (z_AnnalsError:PySem.W.nsIn K mainGlobals "AnnalsError"=some (some (.ref aA)))
  (z_BadPath:PySem.W.nsIn K mainGlobals "BadPath"=some (some (.ref b1)))
  (z_BadFiles:PySem.W.nsIn K mainGlobals "BadFiles"=some (some (.ref b2)))
  (z_Shelf:PySem.W.nsIn K mainGlobals "Shelf"=some (some (.ref aC)))
  (s_xNoName:PySem.W.excIn K aN US "ValueError.__new__"=true)
  (s_xNoThing:PySem.W.excIn K aT US "ValueError.__new__"=true)
  (s_xBadPath:PySem.W.excIn K b1 US "ValueError.__new__"=true)
  (s_xBadFiles:PySem.W.excIn K b2 US "ValueError.__new__"=true)
  (s_kd:KD l.prog w K aL xJ)
  (pg_aC:PySem.W.plainGet K aC Str.empty=true)
  (hd_aC:PySem.W.hasDictIn K aC=true)
  (po_aC:PySem.W.plainOver K aC=true)
  (sa_aC:PySem.W.findIn K (.ref aC) "__setattr__"=some (some (.builtin "object.__setattr__")))
  (mk_aC:PySem.W.makesIn K aC=true)
  (kc_aC:PySem.W.keepIn K (.ref aC)=true)
  (s_n1:PySem.W.findIn K (.ref aC) "thing_by_name"=some none)
  (s_n2:PySem.W.findIn K (.ref aC) "name_by_thing"=some none)
  (s_n3:PySem.W.findIn K (.ref aC) "next_numbers"=some none)
  (s_exmN:PySem.W.exmOne K (.ref aN) (.ref aN)=some true)
  (s_kit:∀ a∈kinds,∀ b∈kinds,PySem.W.kitOne K (.type a) (.type b)=some (a==b||(a=="bool"&&b=="int")))
  {f0 f1 f2 f3 f4 f5 f6 f7 f8 f9 f10 f11 f12 f13 f14 f15 f16 f17 f18 f19 f20 f21 f22 f23 f24 f25 f26 f27 f28 f29 f30 f31 f32 f33 f34 f35 f36 f37 f38 f39 f40 f41 f42 f43 f44 f45 f46 f47 f48 f49 f50 f51 f52 f53 f54 f55 f56 f57:Addr}
  (a0:GF K "_law_path_by" g_path.st f0)
  (a1:GF K "_law_over" g_over.st f1)
  (a2:GF K "_law_free" g_free.st f2)
  (a3:GF K "_law_line_by" h_line.st f3)
  (a4:GF K "_law_lines_by" g_lines.st f4)
  (a5:GF K "_law_files_by" g_files.st f5)
  (a6:GF K "_law_cell_at" h_cell.st f6)
  (a7:MF K aC "names" "Shelf.names" s_names.st f7)
  (a8:MF K aC "take" "Shelf.take" s_take.st f8)
  (a9:GF K "is_key" s_key.st f9)
  (a10:MF K aC "has" "Shelf.has" s_has.st f10)
  (a11:GF K "need_name" s_nname.st f11)
  (a12:MF K aC "thing" "Shelf.thing" s_thing.st f12)
  (a13:MF K aC "__init__" "Shelf.__init__" s_init.st f13)
  (a14:GF K "is_sign" f_is_sign.st f14)
  (a15:GF K "is_line" f_is_line.st f15)
  (a16:GF K "is_lines" f_is_lines.st f16)
  (a17:GF K "is_leaf" t_leaf.st f17)
  (a18:GF K "is_label" t_label.st f18)
  (a19:GF K "is_row" t_row.st f19)
  (a20:GF K "is_rows" t_rows.st f20)
  (a21:GF K "is_tree" t_tree.st f21)
  (a22:GF K "is_parents" t_parents.st f22)
  (a23:GF K "is_note" t_note.st f23)
  (a24:GF K "is_thing" t_thing.st f24)
  (a25:GF K "need_thing" t_need.st f25)
  (a26:MF K aC "need_form" "Shelf.need_form" s_form.st f26)
  (a27:MF K aC "need_names" "Shelf.need_names" s_need.st f27)
  (a28:GF K "letter_of" f_letter_of.st f28)
  (a29:GF K "tree_parts" f_tree_parts.st f29)
  (a30:GF K "parts_of" f_parts_of.st f30)
  (a31:GF K "counted" f_counted.st f31)
  (a32:GF K "spelled" f_spelled.st f32)
  (a33:GF K "digest" f_digest.st f33)
  (a34:MF K aC "put" "Shelf.put" s_put.st f34)
  (a35:GF K "is_path" p_path.st f35)
  (a36:GF K "is_file" p_file.st f36)
  (a37:GF K "folders_of" p_fols.st f37)
  (a38:GF K "need_files" t_need_files.st f38)
  (a39:GF K "put_rows" t_put_rows.st f39)
  (a40:GF K "put_files" t_put_files.st f40)
  (a41:GF K "keep_files" t_keep_files.st f41)
  (a42:GF K "_law_met" g_met.st f42)
  (a43:GF K "_law_read" g_read.st f43)
  (a44:GF K "_law_thin" g_thin.st f44)
  (a45:GF K "_law_turned" g_turned.st f45)
  (a46:GF K "names_form" w_nf.st f46)
  (a47:GF K "need_root" t_need_root.st f47)
  (a48:GF K "files_beneath" t_beneath.st f48)
  (a49:GF K "files_of" t_files_of.st f49)
  (a50:GF K "labels_of" p_labels.st f50)
  (a51:GF K "rows_of" t_rows_of.st f51)
  (a52:GF K "found_at" t_found_at.st f52)
  (a53:GF K "_law_refused" g_refused.st f53)
  (a54:GF K "_law_name" g_name.st f54)
  (a55:GF K "_law_same" g_same.st f55)
  (a56:GF K "_law_stand" g_stand.st f56)
  (a57:GF K "law" g_law.st f57) :
  ∃ fd:FuncData,(∀ (s:Shared) (v:Value),BindsTo s fd ⟨[v],[]⟩ [("_law_script",v)])/\∀ base:Heap,K.In base->base.Ns mainGlobals mg->FnOk l.prog w K mg base CX0 16 fa fd ["_law_script"] (spLaw K):=by
 have T:Txt l.prog w K mg t1 t2 t3 t4 t5 t6 t7 aL aC aN aT aA b1 b2:=⟨ZV X G z_len,ZV X G z_all,ZV X G z_ord,ZV X G z_isinstance,ZV X G z_str,ZV X G z_set,ZV X G z_sorted,ZV X G z_tuple,ZV X G z_list,ZV X G z_max,ZV X G z_int,ZV X G z_bool,ZV X G z_range,ZV X G z_dict,ZV X G z_any,Z3 X G z_LONGEST_LINE,Z3 X G z_LONGEST_LABEL,Z3 X G z_MOST_PARENTS,Z3 X G z_PERCENT,Z3 X G z_MOST_LABELS,Z3 X G z_DIGEST_FACTOR,Z3 X G z_DIGEST_BOUND,Z3 X G z_LETTERS,Z3 X G z_NoName,Z3 X G z_NoThing,Z3 X G z_AnnalsError,Z3 X G z_BadPath,Z3 X G z_BadFiles,Z3 X G z_Shelf,s_xNoName,s_xNoThing,s_xBadPath,s_xBadFiles,s_kd,⟨pg_aC,hd_aC,po_aC,sa_aC⟩,s_n1,s_n2,s_n3,s_exmN,s_kit⟩;obtain ⟨hL,oc,od,an,sl,kV,dc,pm,cd,ct,lL,cL,kL⟩:=a57;have e:=hfa.symm.trans (Z3 X G hL);cases e;refine ⟨PySem.W.fnOf "law" "law" (qF g_law.st) (xM g_law.st) (zG g_law.st) .none kV dc pm an cd ct,fun s v=>.of_eq rfl,fun b _ _=>?_⟩;have C0:=a0.cal X G b fun _ F _ _=>g_path.ok F T;have C1:=a1.cal X G b fun _ F _ _=>g_over.ok F T;have C2:=a2.cal X G b fun _ F _ _=>g_free.ok F T C1;have C3:=a3.cal X G b fun _ F _ _=>h_line.ok F T;have C4:=a4.cal X G b fun _ F _ _=>g_lines.ok F T C3;have C5:=a5.cal X G b fun _ F _ _=>g_files.ok F T C0 C2 C4;have C6:=a6.cal X G b fun _ F _ _=>h_cell.ok F T;have C7:=a7.met (mg:=mg) b fun _ F=>s_names.ok F T;have C8:=a8.met (mg:=mg) b fun _ F=>s_take.ok F T;have C9:=a9.cal X G b fun _ F _ _=>s_key.ok F T;have C10:=a10.met (mg:=mg) b fun _ F=>s_has.ok F T C9;have C11:=a11.calX X G b fun _ F _ _=>s_nname.ok F T C10;have C12:=a12.metX (mg:=mg) b fun _ F=>s_thing.ok F T C11;have C13:=a13.mak b mk_aC kc_aC T.Shelf fun _ F=>s_init.ok F T C7 C8 C12;have C14:=a14.cal X G b fun _ F _ _=>f_is_sign.ok F T;have C15:=a15.cal X G b fun _ F _ _=>f_is_line.ok F T C14;have C16:=a16.cal X G b fun _ F _ _=>f_is_lines.ok F T C15;have C17:=a17.cal X G b fun _ F _ _=>t_leaf.ok F T C16;have C18:=a18.cal X G b fun _ F _ _=>t_label.ok F T;have C19:=a19.cal X G b fun _ F _ _=>t_row.ok F T C18;have C20:=a20.cal X G b fun _ F _ _=>t_rows.ok F T C19;have C21:=a21.cal X G b fun _ F _ _=>t_tree.ok F T C20;have C22:=a22.cal X G b fun _ F _ _=>t_parents.ok F T;have C23:=a23.cal X G b fun _ F _ _=>t_note.ok F T C22 C15;have C24:=a24.cal X G b fun _ F _ _=>t_thing.ok F T C17 C21 C23;have C25:=a25.calX X G b fun _ F _ _=>t_need.ok F T C24;have C26:=a26.metX (mg:=mg) b fun _ F=>s_form.ok F T C12;have C27:=a27.metX (mg:=mg) b fun _ F=>s_need.ok F T C26;have C28:=a28.cal X G b fun _ F _ _=>f_letter_of.ok F T;have C29:=a29.cal X G b fun _ F _ _=>f_tree_parts.ok F T;have C30:=a30.cal X G b fun _ F _ _=>f_parts_of.ok F T C29;have C31:=a31.cal X G b fun _ F _ _=>f_counted.ok F T;have C32:=a32.cal X G b fun _ F _ _=>f_spelled.ok F T C28 C30 C31;have C33:=a33.cal X G b fun _ F _ _=>f_digest.ok F T C32;have C34:=a34.metX (mg:=mg) b fun _ F=>s_put.ok F T C25 C27 C28 C33 C8;have C35:=a35.cal X G b fun _ F _ _=>p_path.ok F T C18;have C36:=a36.cal X G b fun _ F _ _=>p_file.ok F T C35 C16;have C37:=a37.cal X G b fun _ F _ _=>p_fols.ok F T;have C38:=a38.calX X G b fun _ F _ _=>t_need_files.ok F T C36 C37;have C39:=a39.cal X G b fun _ F _ _=>t_put_rows.ok F T C34;have C40:=a40.cal X G b fun _ F m h=>t_put_files.ok F T C34 C39 m h;have C41:=a41.calX X G b fun _ F _ _=>t_keep_files.ok F T C38 C40;have C42:=a42.cal X G b fun _ F m h=>g_met.ok F T C12 m h;have C43:=a43.cal X G b fun _ F m h=>g_read.ok F T C12 m h;have C44:=a44.cal X G b fun _ F m h=>g_thin.ok F T C12 m h;have C45:=a45.cal X G b fun _ F _ _=>g_turned.ok F T;have C46:=a46.cal X G b fun _ F _ _=>w_nf.ok F T C10 C12;have C47:=a47.calX X G b fun _ F _ _=>t_need_root.ok F T C46;have C48:=a48.cal X G b fun _ F m h=>t_beneath.ok F T C12 m h;have C49:=a49.calX X G b fun _ F _ _=>t_files_of.ok F T C47 C48;have C50:=a50.calX X G b fun _ F _ _=>p_labels.ok F T C35;have C51:=a51.cal X G b fun _ F _ _=>t_rows_of.ok F T C12;have C52:=a52.calX X G b fun _ F _ _=>t_found_at.ok F T C47 C50 C46 C51;have C53:=a53.cal X G b fun _ F _ _=>g_refused.ok F T C49 C52;have C54:=a54.cal X G b fun _ F _ _=>g_name.ok F T C12;have C55:=a55.cal X G b fun _ F _ _=>g_same.ok F T;have C56:=a56.cal X G b fun _ F _ _=>g_stand.ok F T C52 C54;exact g_law.ok (U6 (st:=g_law.st) lL cL kL) T C5 C6 C4 C0 C13 C34 C7 C41 C42 C43 C44 C45 C53 C52 C54 C55 C49 C56
theorem walk {l:PySem.W.OpenLaw}{q:Program}{loose:List Str}{XP:(Str->Option Value)->Heap->Prop}{YP:World->Heap->Prop}{d:DefRec}{K:Params->ZZF}(hn:l.most=some 63)(hdf:d.params.defaults=[])
  (hY:∀ (w:World) (h:Heap),YP w h->(K w.params).In h)
  (F:∀ (w:World) (mg:Str->Option Value) (fa:Addr) (h:Heap),(K w.params).In h->h.Ns mainGlobals mg->mg d.name=some (.ref fa) ->
   ∃ fd:FuncData,(∀ (s:Shared) (u:Value),BindsTo s fd ⟨[u],[]⟩ [("_law_script",u)])/\∀ base:Heap,(K w.params).In base->base.Ns mainGlobals mg->FnOk l.prog w (K w.params) mg base CX0 16 fa fd ["_law_script"] (spLaw (K w.params))) :
  PySem.W.WalkO q loose XP YP l.row.toRowW d [] (fun f vs=>PySem.call f vs) :=
 L2.walk_of (n:=63) (k:=16) (x:="_law_script") (CX:=fun _=>CX0) (sp:=fun w=>spLaw (K w.params)) hn (by decide) hdf ⟨rfl,by decide,by decide⟩ hY F (fun _ _ a ns hl _ hS=>⟨a,ns,rfl,hS,hl,fun _=>rfl⟩) fun _ _ _ _ _ z=>z
end An06
open PySem PySem.W PyProof.Rows
set_option maxRecDepth 100000 in
set_option maxHeartbeats 0 in
theorem PySem.Challenge.cw_annals_k06_kept_and_read_again_holds : PySem.Challenge.rw_annals_k06_kept_and_read_again.Holds := by
 w_on;o_law;k_head;(case hw=>w_witness2)
 k_fill
 refine An06.walk (l:=PySem.Challenge.rw_annals_k06_kept_and_read_again) rfl rfl (fun w h Y=>PySem.W.kIn_of Y) ?F
 case F =>
  intro w mg fa h KX G hmg;refine' An06.all_mk KX G hmg ?z_len ?z_all ?z_ord ?z_isinstance ?z_str ?z_set ?z_sorted ?z_tuple ?z_list ?z_max ?z_int ?z_bool ?z_range ?z_dict ?z_any ?z_LONGEST_LINE ?z_LONGEST_LABEL ?z_MOST_PARENTS ?z_PERCENT ?z_MOST_LABELS ?z_DIGEST_FACTOR ?z_DIGEST_BOUND ?z_LETTERS ?z_NoName ?z_NoThing ?z_AnnalsError ?z_BadPath ?z_BadFiles ?z_Shelf ?s_xNoName ?s_xNoThing ?s_xBadPath ?s_xBadFiles ?s_kd ?pg_aC ?hd_aC ?po_aC ?sa_aC ?mk_aC ?kc_aC ?s_n1 ?s_n2 ?s_n3 ?s_exmN ?s_kit ?a0 ?a1 ?a2 ?a3 ?a4 ?a5 ?a6 ?a7 ?a8 ?a9 ?a10 ?a11 ?a12 ?a13 ?a14 ?a15 ?a16 ?a17 ?a18 ?a19 ?a20 ?a21 ?a22 ?a23 ?a24 ?a25 ?a26 ?a27 ?a28 ?a29 ?a30 ?a31 ?a32 ?a33 ?a34 ?a35 ?a36 ?a37 ?a38 ?a39 ?a40 ?a41 ?a42 ?a43 ?a44 ?a45 ?a46 ?a47 ?a48 ?a49 ?a50 ?a51 ?a52 ?a53 ?a54 ?a55 ?a56 ?a57
  case z_len|z_all|z_ord|z_isinstance|z_str|z_set|z_sorted|z_tuple|z_list|z_max|z_int|z_bool|z_range|z_dict|z_any|z_LONGEST_LINE|z_LONGEST_LABEL|z_MOST_PARENTS|z_PERCENT|z_MOST_LABELS|z_DIGEST_FACTOR|z_DIGEST_BOUND|z_LETTERS|z_NoName|z_NoThing|z_AnnalsError|z_BadPath|z_BadFiles|z_Shelf=>k_is
  case a0|a1|a2|a3|a4|a5|a6=>(apply An06.GF.mk;k_is;k_is;k_is;k_is)
  case a7|a8=>(apply An06.MF.mk;k_is;k_is;k_is;k_is;k_is)
  case a9=>(apply An06.GF.mk;k_is;k_is;k_is;k_is)
  case a10=>(apply An06.MF.mk;k_is;k_is;k_is;k_is;k_is)
  case a11=>(apply An06.GF.mk;k_is;k_is;k_is;k_is)
  case a12|a13=>(apply An06.MF.mk;k_is;k_is;k_is;k_is;k_is)
  case a14|a15|a16|a17|a18|a19|a20|a21|a22|a23|a24|a25=>(apply An06.GF.mk;k_is;k_is;k_is;k_is)
  case a26|a27=>(apply An06.MF.mk;k_is;k_is;k_is;k_is;k_is)
  case a28|a29|a30|a31|a32|a33=>(apply An06.GF.mk;k_is;k_is;k_is;k_is)
  case a34=>(apply An06.MF.mk;k_is;k_is;k_is;k_is;k_is)
  case a35|a36|a37|a38|a39|a40|a41|a42|a43|a44|a45|a46|a47|a48|a49|a50|a51|a52|a53|a54|a55|a56|a57=>(apply An06.GF.mk;k_is;k_is;k_is;k_is)
  case s_xNoName|s_xNoThing|s_xBadPath|s_xBadFiles=>first|k_is|kernel_rfl|rfl|(with_unfolding_all rfl)|decide +kernel +revert
  case s_kd=>exact An06.kd_of (by k_is)
  case pg_aC|hd_aC|po_aC|sa_aC|mk_aC|kc_aC|s_n1|s_n2|s_n3=>k_is
  case s_exmN=>first|k_is|kernel_rfl|rfl|(with_unfolding_all rfl)|decide +kernel +revert
  case s_kit=>(intro a ha b hb;simp only [An06.kinds,Zi,Yi,VM] at ha hb;rcases ha with rfl|rfl|rfl|rfl|rfl|rfl|rfl<;>rcases hb with rfl|rfl|rfl|rfl|rfl|rfl|rfl<;>rfl)
