import PyProof.Rows.All
import PyProof.StationsW
import PyProof.Rows.Catch
import Wide.All
import OpenK.AllK
import Wide.FinOn
import Lean
import PyProof.EqAt
import PyProof.EqKinds
import PyProof.TupleCall
import KE.KTryMore
import PyProof.Rows.Range3
import KE.KRevIter
import KE.LcSums
import PyProof.FString5
import PyProof.StrBlock2
import PyProof.P3In
import PyProof.Rows.SumAny
import PyProof.TupleKey
import PyProof.DictRoadsH
import PyProof.Rows.SeqWords
import PyProof.StrLawsFrom
import PyProof.Rows.FStr
import PyProof.Rows.RegStrFacts
import KE.KIntText
import KE.KDictList
import PyProof.Rows.ReprOcc
import PyProof.DictIter
import PyProof.DictWalks
import PyProof.DictItems
import KE.KPairComp
import KE.KEqDict
import PyProof.Rows.MinMaxN
import PyProof.FactsAll.list_3
import PyProof.Rows.StrClose5
import PyProof.Rows.StrClip
import PyProof.SetKind
import PyProof.Rows.SetFrom
import PyProof.FactsAll.set
import PyProof.SetRoads
import KE.KDictSum
import PyProof.WalksMore
import PyProof.Rows.StrMeet
import PyProof.FactsAll.dict_1
import PyProof.ExcArgsOwn
import PyProof.ExcAttrAll.ValueError
import KE.KIsAll
import KE.KSortTup
import PyProof.P3Eq
import PyProof.Rows.StrRules
import PyProof.Rows.IntRules
import PyProof.StrLawsChain
import PyProof.StrLawsTight
import PyProof.FactsAll.set_2
import PyProof.NeKinds
import PyProof.AttrMissHeap
import PyProof.StrBlockG
import PyProof.Rows.At
import PySem.Challenge.RW_annals_k20_what_lies_before
set_option Elab.async false
set_option linter.all false
set_option maxRecDepth 100000
set_option maxHeartbeats 4000000
namespace L2
open PySem
section
variable {M:Model} {A:Around} {E:Value -> Shared -> Prop} {s:Shared} {base:Heap} {q:Array Value -> Prop} {env:Env} {outer:List Env} {L x:Addr}
def Keep1 (q:Array Value -> Prop):Prop:=∀ (vs:Array Value) (v:Value),q vs -> q (vs.setIfInBounds 1 v)
def Trc (q:Array Value -> Prop) (h base:Heap) (x:Addr) (c fl:Value):Prop :=
 ∃ ob vs T ot ts,h.get? x = some ob /\ (ob.cls = c /\ q vs) /\ ob.data = .fields vs /\ vs[1]? = some (.ref T) /\ base.get? T = none /\ T ≠ x /\ h.get? T = some ot /\ ot.data = .fields ts /\ ts[3]? = some fl
theorem nrec {h:Heap} {y:Addr} {oy:Obj} {vs:Array Value} (hy:h.get? y = some oy) (hd:oy.data = .fields vs):∀ b o,h.get? b = some o -> (∀ ws,o.data ≠ .fields ws) -> b ≠ y:=fun b o hb nf z=>by
 subst z; rw [hy] at hb; cases hb; exact nf vs hd
theorem made_entry (hq:Keep1 q) {ob:Obj} {vs:Array Value} {head:Value} {nx:Bool} {Q:Unit -> Shared -> Prop} (hA:A.frames = some (env :: outer)) (fr:s.heap.FunFrames base (env :: outer)) (hL:env.frame = some L)
  (hx:s.heap.get? x = some ob) (kb:base.StaysIn s.heap) (nx0:base.get? x = none) (hd:ob.data = .fields vs) (sz:1 < vs.size) (hv:q vs)
  (k:∀ h',base.StaysIn h' -> h'.FunFrames base (env :: outer) -> Trc q h' base x ob.cls (rawInt L) -> s.heap.UpToSlots h' -> Q () { s with heap:=h' }) :
  wpAny M A (do let fo ← frameOf env; let pl ← entryPlaceOf L nx; let en ← EntryCells.newEntry head fo .none (rawInt L) .none pl; setField (.ref x) 1 en) Q E s:=by
 have nf:x ∉ (env :: outer).filterMap (·.frame):=fun z=>by
  obtain ⟨_,o,ho,hn⟩:=fr.mem z
  rw [hx] at ho; cases ho; exact hn vs hd
 refine wpAny_bind (wpAny_frameOf_fun hA fr hL fun g hg=>wpAny_bind (wpAny_entryPlaceOf fun pl hpl=>?_))
 unfold EntryCells.newEntry; unfold newFields
 refine wpAny_bind (wpAny_newObj_type (T:="traceback") ?_ (hpl.sizeOk5 _ _ _ _ _))
 have gx:g.get? x = some ob:=by rw [← hx]; exact hg.2.1 x nf
 have gb:base.StaysIn g:=fun b o e=>by
  rw [hg.2.1 b fun z=>by rw [(fr.mem z).1] at e; cases e]
  exact kb b o e
 obtain ⟨row,er⟩:∃ row:Obj,row = { cls:=.type "traceback",data:=.fields ([head,.ref L,.none,rawInt L,.none] ++ (if pl.isEmpty then List.replicate 6 Value.none else pl)).toArray }:=⟨_,rfl⟩
 have px:=Heap.get?_push_of_some (h:=g) row gx
 have hsz:g.objs.size ≠ x:=Nat.ne_of_gt (Heap.lt_size gx)
 rw [← er]
 have keep:∀ b o,b ≠ x -> g.get? b = some o -> ((g.push row).update x (Obj.mapFields (·.setIfInBounds 1 (Value.ref g.objs.size)))).get? b = some o:=fun b o nb e=>by
  rw [Heap.get?_update_other _ _ (Ne.symm nb)]; exact Heap.get?_push_of_some _ e
 refine wpAny_setField px hd sz (k _ ?_ ?_ ?_ ?_)
 ·intro b o e
  exact keep b o (fun z=>by rw [z,nx0] at e; cases e) (gb b o e)
 ·refine fr.of_keeps fun b o e hn=>?_
  obtain ⟨sl,e2⟩:=hg.2.2 b o e
  exact ⟨_,keep b _ (nrec hx hd b o e hn) e2,rfl⟩
 ·have d3:=Obj.data_mapFields hd (·.setIfInBounds 1 (Value.ref g.objs.size))
  refine ⟨_,_,g.objs.size,row,_,Heap.get?_update_self _ px (Obj.isFreed_of_fields d3),⟨Obj.cls_mapFields _ _,hq _ _ hv⟩,d3,by simp [sz],gb.fresh,hsz,?_,by rw [er],?_⟩
  ·rw [Heap.get?_update_other _ _ (Ne.symm hsz)]; exact Heap.get?_push_size g (by rw [er]; rfl)
  ·rcases hpl with rfl | ⟨_,_,_,_,_,_,_,rfl⟩ <;> simp
 ·intro b o e hn
  obtain ⟨sl,e2⟩:=hg.2.2 b o e
  exact ⟨sl,keep b _ (nrec hx hd b o e hn) e2⟩
theorem note_first (hq:Keep1 q) {ob:Obj} {vs:Array Value} {Q:Unit -> Shared -> Prop} (hA:A.frames = some (env :: outer)) (fr:s.heap.FunFrames base (env :: outer)) (hL:env.frame = some L)
  (hx:s.heap.get? x = some ob) (kb:base.StaysIn s.heap) (nx0:base.get? x = none) (hd:ob.data = .fields vs) (h1:vs[1]? = some .none) (hv:q vs)
  (k:∀ h',base.StaysIn h' -> h'.FunFrames base (env :: outer) -> Trc q h' base x ob.cls (rawInt L) -> s.heap.UpToSlots h' -> Q () { s with heap:=h' }):wpAny M A (noteFrame (.ref x) env) Q E s:=by
 unfold noteFrame; simp only [hL]
 refine wpAny_bind (wpAny_field hx hd h1 ?_)
 rw [if_neg (show ¬ (Value.none != Value.none) = true by decide)]
 exact made_entry hq hA fr hL hx kb nx0 hd (Array.getElem?_eq_some_iff.mp h1).1 hv k
theorem note_on (hq:Keep1 q) {c:Value} {Q:Unit -> Shared -> Prop} (hA:A.frames = some (env :: outer)) (fr:s.heap.FunFrames base (env :: outer)) (hL:env.frame = some L) (t:Trc q s.heap base x c .none) (kb:base.StaysIn s.heap) (nx0:base.get? x = none)
  (k:∀ h',base.StaysIn h' -> h'.FunFrames base (env :: outer) -> Trc q h' base x c (rawInt L) -> s.heap.UpToSlots h' -> Q () { s with heap:=h' }):wpAny M A (noteFrame (.ref x) env) Q E s:=by
 obtain ⟨ob,vs,T,ot,ts,hx,⟨hc,hv⟩,hd,h1,nT,Tx,hT,dT,h3⟩:=t
 subst hc
 unfold noteFrame; simp only [hL]
 refine wpAny_bind (wpAny_field hx hd h1 ?_)
 rw [if_pos (show (Value.ref T != Value.none) = true by simp)]
 refine wpAny_bind (wpAny_field hT dT h3 ?_)
 rw [if_neg (show ¬ (Value.none == rawInt L) = true by simp [rawInt])]
 have oth:∀ b,b ≠ T -> (s.heap.update T (Obj.mapFields (·.setIfInBounds 3 Value.none))).get? b = s.heap.get? b:=fun b nb=>Heap.get?_update_other _ _ (Ne.symm nb)
 have nr:=nrec hT dT
 refine wpAny_bind (wpAny_setField hT dT (Array.getElem?_eq_some_iff.mp h3).1 ?_)
 refine made_entry hq hA (fr.of_keeps fun b o e hn=>⟨o,by rw [oth b (nr b o e hn)]; exact e,rfl⟩) hL (by rw [oth x (Ne.symm Tx)]; exact hx) (fun b o e=>?_) nx0 hd (Array.getElem?_eq_some_iff.mp h1).1 hv fun h' y1 y2 y3 y4=>k h' y1 y2 y3 fun b o e hn=>?_
 ·rw [oth b fun z=>by rw [z,nT] at e; cases e]; exact kb b o e
 ·exact y4 b o (by rw [oth b (nr b o e hn)]; exact e) hn
theorem xZ {c fl:Value} {l:List Env} {Q:Unit -> Shared -> Prop} (kb:base.StaysIn s.heap) (fr:s.heap.FunFrames base l) (t:Trc q s.heap base x c fl)
  (k:∀ h',base.StaysIn h' -> h'.FunFrames base l -> Trc q h' base x c .none -> s.heap.UpToSlots h' -> Q () { s with heap:=h' }):wpAny M A (setFlight (.ref x) none) Q E s:=by
 obtain ⟨ob,vs,T,ot,ts,hx,hv,hd,h1,nT,Tx,hT,dT,h3⟩:=t
 have s3:3 < ts.size:=(Array.getElem?_eq_some_iff.mp h3).1
 have nr:=nrec hT dT
 have oth:∀ b,b ≠ T -> (s.heap.update T (Obj.mapFields (·.setIfInBounds 3 ((none:Option Addr).elim Value.none fun f=>rawInt f)))).get? b = s.heap.get? b:=fun b nb=>Heap.get?_update_other _ _ (Ne.symm nb)
 unfold setFlight; refine wpAny_bind (wpAny_field hx hd h1 ?_)
 rw [if_pos (show (Value.ref T != Value.none) = true by simp)]
 refine wpAny_setField hT dT s3 (k _ (fun b o e=>?_) (fr.of_keeps fun b o e hn=>⟨o,by rw [oth b (nr b o e hn)]; exact e,rfl⟩) ?_ fun b o e hn=>⟨o.slots,by rw [oth b (nr b o e hn)]; exact e⟩)
 ·rw [oth b fun z=>by rw [z,nT] at e; cases e]; exact kb b o e
 ·refine ⟨ob,vs,T,_,_,by rw [oth x (Ne.symm Tx)]; exact hx,hv,hd,h1,nT,Tx,Heap.get?_update_self _ hT (Obj.isFreed_of_fields (Obj.data_mapFields dT _)),Obj.data_mapFields dT _,?_⟩
  simp [s3]
theorem leave_first (hq:Keep1 q) {ob:Obj} {vs:Array Value} {Q:Unit -> Shared -> Prop} (hA:A.frames = some (env :: outer)) (fr:s.heap.FunFrames base (env :: outer)) (hL:env.frame = some L)
  (hx:s.heap.get? x = some ob) (kb:base.StaysIn s.heap) (nx0:base.get? x = none) (hd:ob.data = .fields vs) (h1:vs[1]? = some .none) (hv:q vs)
  (k:∀ h',base.StaysIn h' -> h'.FunFrames base (env :: outer) -> Trc q h' base x ob.cls .none -> s.heap.UpToSlots h' -> Q () { s with heap:=h' }):wpAny M A (leaving env (.ref x)) Q E s:=by
 unfold leaving
 exact wpAny_bind (note_first hq hA fr hL hx kb nx0 hd h1 hv fun g y1 y2 y3 y4=>xZ (s:={ s with heap:=g }) y1 y2 y3 fun h' z1 z2 z3 z4=>k h' z1 z2 z3 (y4.trans z4))
theorem leave_next (hq:Keep1 q) {c:Value} {Q:Unit -> Shared -> Prop} (hA:A.frames = some (env :: outer)) (fr:s.heap.FunFrames base (env :: outer)) (hL:env.frame = some L) (t:Trc q s.heap base x c .none) (kb:base.StaysIn s.heap) (nx0:base.get? x = none)
  (k:∀ h',base.StaysIn h' -> h'.FunFrames base (env :: outer) -> Trc q h' base x c .none -> s.heap.UpToSlots h' -> Q () { s with heap:=h' }):wpAny M A (leaving env (.ref x)) Q E s:=by
 unfold leaving
 exact wpAny_bind (note_on hq hA fr hL t kb nx0 fun g y1 y2 y3 y4=>xZ (s:={ s with heap:=g }) y1 y2 y3 fun h' z1 z2 z3 z4=>k h' z1 z2 z3 (y4.trans z4))
end
end L2
namespace L2
open PySem PySem.Spec PyProof.Rows
abbrev Key:=Sum Int Str
def keyIs:Key -> Value -> Bool
 | .inl k,v=>Value.isInt k v
 | .inr x,v=>Value.isStrOf x v
def keyH (w:World):Key -> Int
 | .inl k=>hashInt k
 | .inr x=>hashStr w x
theorem yN:∀ {k:Key} {v:Value},keyIs k v = true -> (∃ i t,k = Sum.inl i /\ v = Value.int i t) \/ (∃ x t,k = Sum.inr x /\ v = Value.str x t)
 | .inl i,v,h=>by
  obtain ⟨t,e⟩:=Value.isInt_shape (k:=i) (v:=v) h
  exact .inl ⟨i,t,rfl,e⟩
 | .inr x,v,h=>by
  obtain ⟨t,e⟩:=Value.isStrOf_shape (x:=x) (v:=v) h
  exact .inr ⟨x,t,rfl,e⟩
theorem keyIs_int (i:Int) (t:Tok):keyIs (.inl i) (.int i t) = true:=by simp [keyIs,Value.isInt]
theorem xV (x:Str) (t:Tok):keyIs (.inr x) (.str x t) = true:=by simp [keyIs,Value.isStrOf]
theorem key_ll (a b:Int):decide ((Sum.inl a:Key) = Sum.inl b) = (a == b):=by
 by_cases e:a = b
 ·subst e; simp
 ·have h:¬ (Sum.inl a:Key) = Sum.inl b:=fun q=>e (Sum.inl.inj q)
  rw [decide_eq_false h]
  exact (beq_eq_false_iff_ne.mpr e).symm
theorem key_rr (a b:Str):decide ((Sum.inr a:Key) = Sum.inr b) = decide (a = b):=by
 by_cases e:a = b
 ·subst e; simp
 ·have h:¬ (Sum.inr a:Key) = Sum.inr b:=fun q=>e (Sum.inr.inj q)
  rw [decide_eq_false h,decide_eq_false e]
theorem key_lr (a:Int) (b:Str):decide ((Sum.inl a:Key) = Sum.inr b) = false:=decide_eq_false (fun q=>nomatch q)
theorem key_rl (a:Str) (b:Int):decide ((Sum.inr a:Key) = Sum.inl b) = false:=decide_eq_false (fun q=>nomatch q)
def yC (prog:Program) (w:World):PySem.KeyKind prog w Key where
 is:=keyIs
 hash:=keyH w
 inj:=fun v a b ha hb=>by
  rcases yN ha with ⟨i,t,rfl,rfl⟩ | ⟨x,t,rfl,rfl⟩
  ·rcases yN hb with ⟨j,u,rfl,e⟩ | ⟨y,u,rfl,e⟩
   ·injection e with e1 _; rw [e1]
   ·exact nomatch e
  ·rcases yN hb with ⟨j,u,rfl,e⟩ | ⟨y,u,rfl,e⟩
   ·exact nomatch e
   ·injection e with e1 _; rw [e1]
 byValue:=fun k v h=>by
  rcases yN h with ⟨i,t,rfl,rfl⟩ | ⟨x,t,rfl,rfl⟩ <;> rfl
 pyHash:=fun hv h=>by
  rcases yN hv with ⟨i,t,rfl,rfl⟩ | ⟨x,t,rfl,rfl⟩
  ·exact wpAny_pyHash_int h
  ·exact wpAny_pyHash_str h
 eqBool:=fun hu hv h=>by
  rcases yN hu with ⟨i,t,rfl,rfl⟩ | ⟨x,t,rfl,rfl⟩
  ·rcases yN hv with ⟨j,u,rfl,rfl⟩ | ⟨y,u,rfl,rfl⟩
   ·rw [key_ll] at h; exact wpAny_eqBool_int h
   ·rw [key_lr] at h; exact SeqAt.EqAt.int_str i t y u _ _ _ _ h
  ·rcases yN hv with ⟨j,u,rfl,rfl⟩ | ⟨y,u,rfl,rfl⟩
   ·rw [key_rl] at h; exact SeqAt.EqAt.str_int x t j u _ _ _ _ h
   ·rw [key_rr] at h; exact wpAny_eqBool_str h
 «strs»:=fun k x t v h=>by
  rcases yN h with ⟨i,u,rfl,e⟩ | ⟨y,u,rfl,e⟩
  ·exact nomatch e
  ·injection e with e1 _
   subst e1
   cases v <;> rfl
theorem mixKind_int (prog:Program) (w:World) (i:Int) (t:Tok):(yC prog w).is (.inl i) (.int i t) = true:=keyIs_int i t
theorem mixKind_str (prog:Program) (w:World) (x:Str) (t:Tok):(yC prog w).is (.inr x) (.str x t) = true:=xV x t
end L2
namespace L2
open PySem PySem.Spec PyProof.Rows
inductive V where
 | non | bl (b:Bool) | int (i:Int) | str (x:Str) | byt (b:Array UInt8) | flt (b:UInt64) | ref (a:Addr) | ty (n:String)
 deriving DecidableEq
def RelV:V -> Value -> Prop
 | .non,u=>u = Value.none
 | .bl b,u=>u = Value.bool b
 | .int i,u=>∃ t,u = Value.int i t
 | .str x,u=>∃ t,u = Value.str x t
 | .byt b,u=>∃ t,u = Value.bytes b t
 | .flt b,u=>∃ t,u = Value.float b t
 | .ref a,u=>u = Value.ref a
 | .ty n,u=>u = Value.type n
abbrev Vals:List V -> List Value -> Prop:=Paired RelV
theorem Vals.length {xs:List V} {us:List Value} (r:Vals xs us):xs.length = us.length:=Paired.length r
theorem Vals.get:∀ {xs:List V} {us:List Value} {i:Nat} {x:V},Vals xs us -> xs[i]? = some x -> ∃ u,us[i]? = some u /\ RelV x u
 | _,_,_,_,.nil,e=>by simp at e
 | _,_,0,_,.cons r _,e=>by simp at e; subst e; exact ⟨_,rfl,r⟩
 | _,_,i + 1,x,.cons _ t,e=>by
  obtain ⟨u,h1,h2⟩:=Vals.get (i:=i) (x:=x) t (by simpa using e)
  exact ⟨u,by simpa using h1,h2⟩
theorem Vals.append:∀ {xs ys:List V} {us ws:List Value},Vals xs us -> Vals ys ws -> Vals (xs ++ ys) (us ++ ws)
 | _,_,_,_,.nil,s=>s
 | _,_,_,_,.cons r t,s=>.cons r (Vals.append t s)
theorem Vals.take:∀ {xs:List V} {us:List Value} (n:Nat),Vals xs us -> Vals (xs.take n) (us.take n)
 | _,_,0,_=>.nil
 | _,_,_ + 1,.nil=>.nil
 | _,_,n + 1,.cons r t=>.cons r (Vals.take n t)
theorem Vals.drop:∀ {xs:List V} {us:List Value} (n:Nat),Vals xs us -> Vals (xs.drop n) (us.drop n)
 | _,_,0,r=>r
 | _,_,_ + 1,.nil=>.nil
 | _,_,n + 1,.cons _ t=>Vals.drop n t
def RelO:Option V -> Option Value -> Prop
 | some v,some u=>RelV v u
 | none,none=>True
 | _,_=>False
def KV {κ:Type}:List (κ × V) -> List (κ × Value) -> Prop:=Paired fun (p:κ × V) (q:κ × Value)=>p.1 = q.1 /\ RelV p.2 q.2
def kV:Key -> V
 | .inl i=>.int i
 | .inr x=>.str x
inductive HO where
 | lst (xs:List V)
 | tup (xs:List V)
 | dK (kvs:List (Key × V)) | dT (kvs:List (List Key × V))
 | set (S:Int -> Bool) (n:Nat)
 | ins (C dx:Addr) (fs:List (Str × V))
 | own (x:Addr)
 | xd (fs:List (Str × V))
 | met (f x:Addr)
 | rng (lo hi:Int)
 | frz (o:Obj) (u:HO)
 | tbl (ps:Array Value)
 | ext (φ:Heap -> Prop)
abbrev Hp:=Addr -> Option HO
def upd (H:Hp) (a:Addr) (o:HO):Hp:=fun b=>if b = a then some o else H b
theorem zD {H:Hp} {a:Addr} {o:HO}:upd H a o a = some o:=by unfold upd; rw [if_pos rfl]
theorem zI {H:Hp} {a b:Addr} {o:HO} (h:b ≠ a):upd H a o b = H b:=by unfold upd; rw [if_neg h]
theorem upd_upd {H:Hp} {a:Addr} {o u:HO}:upd (upd H a o) a u = upd H a u:=by
 funext b; unfold upd; split <;> rfl
theorem ne_of {H:Hp} {a b:Addr} {o u:HO} (h:H a = some o) (h':H b = some u) (d:o ≠ u):a ≠ b:=by
 intro e; subst e; rw [h] at h'; exact d (Option.some.inj h')
theorem zJ {H:Hp} {a b:Addr} {o:HO} (h:H a = some o) (h':H b = none):a ≠ b:=by
 intro e; subst e; rw [h] at h'; cases h'
section
variable (P:Program) (w:World)
def ObjOk (H:Hp) (h:Heap) (a:Addr):HO -> Prop
 | .lst xs=>xs.length <= sizeLine /\ ∃ (its:List Value) (n:Nat),Vals xs its /\ h.get? a = some { cls:=.type "list",data:=.seq its.toArray n }
 | .tup xs=>xs.length <= sizeLine /\ ∃ its:List Value,Vals xs its /\ IsTup h a its.toArray
 | .dK kvs=>kvs.length <= sizeLine /\ (a == sysModules) = false /\ ∃ vs,KV kvs vs /\ h.DictOf (yC P w) a vs
 | .dT kvs=>kvs.length <= sizeLine /\ (a == sysModules) = false /\ ∃ xs:List (List Key × Addr × Value),
   Paired (fun (p:List Key × V) (q:List Key × Addr × Value)=>p.1 = q.1 /\ H q.2.1 = some (.tup (p.1.map kV)) /\ RelV p.2 q.2.2) kvs xs /\
   ∃ o es ep,h.get? a = some o /\ o.ExactDict /\ o.data = .dict es ep /\ es.toList = xs.map (entryOfKey (tupleKind (yC P w))) /\ (xs.map (·.1)).Nodup
 | .set S n=>h.SetOf (intKind P w) a S n
 | .ins C dx fs=>H dx = some (.own a) /\ fs.length <= 1000 /\ dx ≠ a /\ h.get? a = some (PySem.W.instObj C dx) /\
   ∃ mA,h.Ns1 dx mA /\ (∀ f,RelO (fs.lookup f) (mA f)) /\ PySem.Within mA (fs.map (·.1))
 | .own _=>∃ o,h.get? a = some o
 | .xd fs=>∃ mA,h.Ns1 a mA /\ ∀ f,RelO (fs.lookup f) (mA f)
 | .rng lo hi=>∃ t u v,h.get? a = some { cls:=.type "range",data:=.fields #[.int lo t,.int hi u,.int 1 v] }
 | .frz o u=>h.get? a = some o /\ ObjOk H h a u
 | .tbl ps=>h.get? a = some { cls:=.none,data:=.fields ps }
 | .met f x=>h.get? a = some (PySem.W.methodObj (.ref f) (.ref x))
 | .ext φ=>φ h /\ (∃ o,h.get? a = some o) /\ ∀ h1 h2:Heap,φ h1 -> (∀ o,h1.get? a = some o -> h2.get? a = some o) -> φ h2
def HOk (H:Hp) (h:Heap):Prop:=∀ a o,H a = some o -> ObjOk P w H h a o
end
section
variable {P:Program} {w:World} {H H':Hp} {h h':Heap} {a:Addr} {o:HO}
theorem ObjOk.lt (x:ObjOk P w H h a o):a < h.objs.size:=by
 cases o with
 | lst xs=>obtain ⟨_,_,_,_,e⟩:=x; exact Heap.lt_size e
 | tup xs=>obtain ⟨_,_,_,p⟩:=x; exact p.lt
 | dK kvs=>obtain ⟨_,_,_,_,o,_,_,e,_⟩:=x; exact Heap.lt_size e
 | dT kvs=>obtain ⟨_,_,_,_,o,_,_,e,_⟩:=x; exact Heap.lt_size e
 | set S n=>obtain ⟨o,_,_,_,e,_⟩:=x; exact Heap.lt_size e
 | ins C dx fs=>obtain ⟨_,_,_,e,_⟩:=x; exact Heap.lt_size e
 | own y=>obtain ⟨_,e⟩:=x; exact Heap.lt_size e
 | xd fs=>obtain ⟨_,⟨_,_,_,e,_⟩,_⟩:=x; exact Heap.lt_size e
 | rng lo hi=>obtain ⟨_,_,_,e⟩:=x; exact Heap.lt_size e
 | frz ob u=>obtain ⟨e,_⟩:=x; exact Heap.lt_size e
 | tbl ps=>exact Heap.lt_size (show h.get? a = some _ from x)
 | met f y=>exact Heap.lt_size (show h.get? a = some _ from x)
 | ext φ=>obtain ⟨_,⟨_,e⟩,_⟩:=x; exact Heap.lt_size e
theorem Paired.mapP {α β:Type} {F G:α -> β -> Prop}:∀ {l₁:List α} {l₂:List β},Paired F l₁ l₂ -> (∀ a b,F a b -> G a b) -> Paired G l₁ l₂
 | _,_,.nil,_=>.nil
 | _,_,.cons r t,f=>.cons (f _ _ r) (Paired.mapP t f)
theorem ObjOk.stay (x:ObjOk P w H h a o) (k:∀ b u,(b = a \/ H b = some (.own a)) -> h.get? b = some u -> h'.get? b = some u)
  (ho:∀ b,H b = some (.own a) -> H' b = some (.own a)) (ht:∀ b xs,H b = some (.tup xs) -> H' b = some (.tup xs)):ObjOk P w H' h' a o:=by
 induction o with
 | lst xs=>obtain ⟨z,its,n,r,e⟩:=x; exact ⟨z,its,n,r,k _ _ (.inl rfl) e⟩
 | tup xs=>obtain ⟨z,its,r,ob,e,c⟩:=x; exact ⟨z,its,r,ob,k _ _ (.inl rfl) e,c⟩
 | dK kvs=>obtain ⟨z,y,vs,r,ob,es,ep,e,c⟩:=x; exact ⟨z,y,vs,r,ob,es,ep,k _ _ (.inl rfl) e,c⟩
 | dT kvs =>
  obtain ⟨z,y,xs,r,ob,es,ep,e,c⟩:=x
  exact ⟨z,y,xs,Paired.mapP r fun p q z=>⟨z.1,ht _ _ z.2.1,z.2.2⟩,ob,es,ep,k _ _ (.inl rfl) e,c⟩
 | set S n=>obtain ⟨ob,es,ep,t,e,c⟩:=x; exact ⟨ob,es,ep,t,k _ _ (.inl rfl) e,c⟩
 | ins C dx fs =>
  obtain ⟨d,z,ne,e,mA,⟨od,es,ep,e2,c⟩,r⟩:=x
  exact ⟨ho _ d,z,ne,k _ _ (.inl rfl) e,mA,⟨od,es,ep,k _ _ (.inr d) e2,c⟩,r⟩
 | own y=>obtain ⟨ob,e⟩:=x; exact ⟨ob,k _ _ (.inl rfl) e⟩
 | xd fs=>obtain ⟨mA,⟨od,es,ep,e,c⟩,r⟩:=x; exact ⟨mA,⟨od,es,ep,k _ _ (.inl rfl) e,c⟩,r⟩
 | rng lo hi=>obtain ⟨t,u,v,e⟩:=x; exact ⟨t,u,v,k _ _ (.inl rfl) e⟩
 | frz ob u ih=>obtain ⟨e,q⟩:=x; exact ⟨k _ _ (.inl rfl) e,ih q⟩
 | tbl ps =>
  have e:h.get? a = some { cls:=.none,data:=.fields ps }:=x
  show h'.get? a = some { cls:=.none,data:=.fields ps }
  exact k a _ (.inl rfl) e
 | met f y =>
  have e:h.get? a = some (PySem.W.methodObj (.ref f) (.ref y)):=x
  show h'.get? a = some (PySem.W.methodObj (.ref f) (.ref y))
  exact k a _ (.inl rfl) e
 | ext φ=>obtain ⟨p,⟨o,e⟩,st⟩:=x; exact ⟨st _ _ p fun o q=>k _ _ (.inl rfl) q,⟨o,k _ _ (.inl rfl) e⟩,st⟩
theorem HOk.lt (x:HOk P w H h) (e:H a = some o):a < h.objs.size:=(x a o e).lt
theorem HOk.fresh (x:HOk P w H h) (e:h.objs.size <= a):H a = none:=by
 cases q:H a with
 | none=>rfl
 | some u=>exact absurd (Nat.lt_of_lt_of_le (x.lt q) e) (Nat.lt_irrefl _)
theorem HOk.kept (x:HOk P w H h) (k:∀ b u,h.get? b = some u -> h'.get? b = some u):HOk P w H h':=fun a o e =>
 (x a o e).stay (fun b u _ q=>k b u q) (fun _ q=>q) fun _ _ q=>q
theorem HOk.laid (x:HOk P w H h) (k:∀ b u,h.get? b = some u -> h'.get? b = some u) (hp:h.objs.size <= a) (new:ObjOk P w (upd H a o) h' a o):HOk P w (upd H a o) h':=fun b u e=>by
 have hn:=x.fresh hp
 by_cases hb:b = a
 ·subst hb; rw [zD] at e; cases e; exact new
 ·rw [zI hb] at e
  exact (x b u e).stay (fun c v _ q=>k c v q) (fun c q=>by rw [zI (zJ q hn)]; exact q) fun c xs q=>by rw [zI (zJ q hn)]; exact q
end
def Rd (H:Hp) (a:Addr) (u:HO):Prop:=H a = some u \/ ∃ o,H a = some (.frz o u)
theorem Rd.ok {P:Program} {w:World} {H:Hp} {h:Heap} {a:Addr} {u:HO} (r:Rd H a u) (x:HOk P w H h):ObjOk P w H h a u:=by
 rcases r with r | ⟨o,r⟩
 ·exact x a u r
 ·obtain ⟨_,q⟩:=x a _ r
  exact q
def Mut:Option HO -> Prop
 | some (.lst _)=>True
 | some (.dK _)=>True
 | some (.dT _)=>True
 | some (.set _ _)=>True
 | some (.ins _ _ _)=>True
 | some (.ext _)=>True
 | _=>False
section
variable {P:Program} {w:World} {H:Hp} {h h':Heap} {x e:Addr} {o':HO}
theorem HOk.write (ok:HOk P w H h) (mu:Mut (H x)) (he:e = x \/ H e = some (.own x)) (k:∀ b u,b ≠ e -> h.get? b = some u -> h'.get? b = some u) (heo:∃ u,h'.get? e = some u)
  (new:ObjOk P w (upd H x o') h' x o'):HOk P w (upd H x o') h':=fun b u q=>by
 have nown:∀ c y,H c = some (.own y) -> c ≠ x:=fun c y r z=>by subst z; rw [r] at mu; exact mu
 have ntup:∀ c xs,H c = some (.tup xs) -> c ≠ x:=fun c xs r z=>by subst z; rw [r] at mu; exact mu
 by_cases hb:b = x
 ·subst hb; rw [zD] at q; cases q; exact new
 ·rw [zI hb] at q
  by_cases hbe:b = e
  ·have q':H b = some (.own x):=by
    rcases he with z | z
    ·exact absurd (hbe.trans z) hb
    ·rw [hbe]; exact z
   rw [q] at q'; cases q'
   obtain ⟨v,hv⟩:=heo
   exact ⟨v,by rw [hbe]; exact hv⟩
  ·refine (ok b u q).stay (fun c v hc r=>k c v ?_ r) (fun c r=>by rw [zI (nown c b r)]; exact r) fun c xs r=>by rw [zI (ntup c xs r)]; exact r
   rcases hc with rfl | hc
   ·exact hbe
   ·rintro rfl
    rcases he with z | z
    ·exact nown c b hc z
    ·rw [hc] at z; cases z; exact hb rfl
end
structure Un (fs ex:List Addr) (H H':Hp) (h h':Heap):Prop where
 keep:∀ b o,h.get? b = some o -> H b = none -> b ∉ fs -> b ∉ ex -> h'.get? b = some o
 slot:∀ b o,h.get? b = some o -> H b = none -> b ∈ fs -> b ∉ ex -> ∃ sl,h'.get? b = some { o with slots:=sl }
 free:∀ b o,h.get? b = some o -> H b = none -> b ∉ ex -> H' b = none
 there:∀ b o,h.get? b = some o -> b ∉ ex -> ∃ o',h'.get? b = some o'
 tups:∀ b xs,H b = some (.tup xs) -> H' b = some (.tup xs)
 frzs:∀ b o u,H b = some (.frz o u) -> H' b = some (.frz o u)
 tbls:∀ b ps,H b = some (.tbl ps) -> ∃ more,H' b = some (.tbl (ps ++ more))
section
variable {fs fs' ex ex':List Addr} {H H1 H2:Hp} {h h1 h2 h':Heap} {a x e:Addr} {o:HO}
theorem Un.any (u:Un fs ex H H1 h h1) {b:Addr} {ob:Obj} (q:h.get? b = some ob) (n:H b = none) (hx:b ∉ ex):∃ sl,h1.get? b = some { ob with slots:=sl }:=by
 by_cases hb:b ∈ fs
 ·exact u.slot b ob q n hb hx
 ·exact ⟨ob.slots,u.keep b ob q n hb hx⟩
theorem Un.kept (k:∀ b u,h.get? b = some u -> h'.get? b = some u):Un fs ex H H h h' :=
 ⟨fun b ob q _ _ _=>k b ob q,fun b ob q _ _ _=>⟨ob.slots,k b ob q⟩,fun _ _ _ n _=>n,fun b ob q _=>⟨ob,k b ob q⟩,fun _ _ q=>q,fun _ _ _ q=>q,fun _ ps q=>⟨#[],by rw [q]; simp⟩⟩
theorem Un.refl:Un fs ex H H h h:=Un.kept fun _ _ q=>q
theorem Un.laid (k:∀ b u,h.get? b = some u -> h'.get? b = some u) (hp:h.objs.size <= a) (hn:H a = none):Un fs ex H (upd H a o) h h' where
 keep:=fun b u q _ _ _=>k b u q
 slot:=fun b u q _ _ _=>⟨u.slots,k b u q⟩
 free:=fun b u q n _=>by rw [zI (Nat.ne_of_lt (Nat.lt_of_lt_of_le (Heap.lt_size q) hp))]; exact n
 there:=fun b u q _=>⟨u,k b u q⟩
 tups:=fun b xs q=>by rw [zI (zJ q hn)]; exact q
 frzs:=fun b u xs q=>by rw [zI (zJ q hn)]; exact q
 tbls:=fun b ps q=>⟨#[],by rw [zI (zJ q hn),q]; simp⟩
theorem Un.write (mu:Mut (H x)) (he:e = x \/ H e = some (.own x)) (k:∀ b u,b ≠ e -> h.get? b = some u -> h'.get? b = some u) (heo:∃ u,h'.get? e = some u):Un fs ex H (upd H x o) h h':=by
 have hx:∀ b,H b = none -> b ≠ x:=fun b n z=>by subst z; rw [n] at mu; exact mu
 have hb:∀ b,H b = none -> b ≠ e:=fun b n z=>by
  subst z
  rcases he with r | r
  ·exact hx b n r
  ·rw [n] at r; cases r
 have hm:∀ b u,H b = some u -> ¬ Mut (some u) -> b ≠ x:=fun b u q nm z=>by subst z; rw [q] at mu; exact nm mu
 refine ⟨fun b u q n _ _=>k b u (hb b n) q,fun b u q n _ _=>⟨u.slots,k b u (hb b n) q⟩,fun b u q n _=>by rw [zI (hx b n)]; exact n,fun b u q _=>?_,
  fun b xs q=>by rw [zI (hm b _ q fun z=>z)]; exact q,fun b u xs q=>by rw [zI (hm b _ q fun z=>z)]; exact q,fun b ps q=>⟨#[],by rw [zI (hm b _ q fun z=>z),q]; simp⟩⟩
 by_cases hbe:b = e
 ·subst hbe; exact heo
 ·exact ⟨u,k b u hbe q⟩
end
def trk (h:Heap) (H:Hp):List Addr:=(List.range h.objs.size).filter fun a=>(H a).isSome
def hidT (h:Heap) (H:Hp):Heap:=PySem.W.hideAll h (trk h H)
theorem hidT_size (h:Heap) (H:Hp):(hidT h H).objs.size = h.objs.size:=PySem.W.hideAll_size _ _
theorem hidT_get {h:Heap} {H:Hp} {b:Addr} {o:Obj} (e:h.get? b = some o) (n:H b = none):(hidT h H).get? b = some o :=
 PySem.W.hideAll_get _ e fun hm=>by
  have q:(H b).isSome = true:=(List.mem_filter.mp hm).2
  rw [n] at q; simp at q
theorem of_hidT {h:Heap} {H:Hp} {b:Addr} {o:Obj} (e:(hidT h H).get? b = some o):h.get? b = some o /\ H b = none:=by
 have e':h.get? b = some o:=PySem.W.of_hideAll (trk h H) e
 refine ⟨e',?_⟩
 cases q:H b with
 | none=>rfl
 | some x =>
  have hm:b ∈ trk h H:=List.mem_filter.mpr ⟨List.mem_range.mpr (Heap.lt_size e'),by simp [q]⟩
  have z:(hidT h H).get? b = none:=PySem.W.hideAll_none (trk h H) hm
  rw [z] at e; cases e
end L2
namespace L2
open PySem PySem.Spec PyProof.Rows
structure Mod (K:PySem.W.Frag) (mg:Str -> Option Value) (base:Heap):Prop where
 kin:K.In base
 glob:base.Ns mainGlobals mg
 blt:∃ mb,base.Ns builtinsNs mb /\ ∀ x:Str,x ≠ "__name__" -> mb x = bootBuiltins x
 nolimit:base.NoLimit
structure Cx where
 prog:Program
 w:World
 K:PySem.W.Frag
 mg:Str -> Option Value
 base:Heap
 A:Around
 N:List Str
 s₀:Shared
 H₀:Hp
 env:Env
 outer:List Env
 stack:List Env
 ex:List Addr
 fn:Str -> Bool
 calm:Bool
 pn:List (Addr × Obj)
 xe:Value -> Shared -> Prop
def frs (l:List Env):List Addr:=l.filterMap (·.frame)
abbrev Cx.fs (X:Cx):List Addr:=frs X.outer
def Vis (sc:Scope) (x:Str):Prop:=sc.names.lookup x = some .local \/ sc.names.lookup x = some .cell \/ sc.names.lookup x = some .free
def Loc (sc:Scope) (x:Str):Prop:=sc.names.lookup x = some .local \/ sc.names.lookup x = some .cell
def Look (env:Env) (h:Heap) (m:Str -> Option Value) (x:Str) (u:Value):Prop :=
 (env.kindOf x = some .local /\ m x = some u) \/ ((env.kindOf x = some .cell \/ env.kindOf x = some .free) /\ ∃ c,env.cells.lookup x = some c /\ h.IsCell c (some u))
structure Cx.Ok (X:Cx):Prop where
 mod:Mod X.K X.mg X.base
 kind:X.env.scope.kind = .function
 glob:X.env.globals = mainGlobals
 blt:X.env.builtins = builtinsNs
 above:X.s₀.heap.objs.size <= X.env.locals
 inj:∀ x y c,X.env.cells.lookup x = some c -> X.env.cells.lookup y = some c -> x = y
 has:∀ x,(X.env.kindOf x = some .cell \/ X.env.kindOf x = some .free) -> ∃ c,X.env.cells.lookup x = some c
 cab:∀ x c,X.fn x = true -> X.env.cells.lookup x = some c -> X.s₀.heap.objs.size <= c
 hd:X.calm = true -> X.A.handled = none
 frames:X.A.frames = some X.stack
 stk:X.stack = X.outer \/ (X.stack = X.env :: X.outer /\ X.env.frame = some X.env.locals)
 exf:∀ b ∈ X.ex,b ≠ X.env.locals /\ ∀ x c,X.env.cells.lookup x = some c -> c ≠ b
 bs:∀ b o,X.base.get? b = some o -> X.s₀.heap.get? b = some o /\ X.H₀ b = none
 bsz:X.base.objs.size <= X.s₀.heap.objs.size
 noex:∀ b o,X.base.get? b = some o -> b ∉ X.ex
 exfs:∀ b ∈ X.ex,b ∉ X.fs
 funs:X.s₀.heap.FunFrames X.base X.outer
 frf:∀ b ∈ X.fs,X.H₀ b = none
structure Inv (X:Cx) (pins:List (Addr × Obj)) (σ:List (Option V)) (H:Hp) (s:Shared):Prop where
 ok:X.Ok
 os:s.os = X.s₀.os
 bare:AllBare s.gens
 base:Un X.fs X.ex X.H₀ H X.s₀.heap s.heap
 loc:∃ m,s.heap.Ns X.env.locals m /\ ∀ (i:Nat) (x:Str) (v:V),X.N[i]? = some x -> σ[i]? = some (some v) -> Vis X.env.scope x -> ∃ u,RelV v u /\ Look X.env s.heap m x u
 cell:∀ x c,X.env.cells.lookup x = some c -> ∃ v,s.heap.IsCell c v
 free:H X.env.locals = none
 freeC:∀ x c,X.env.cells.lookup x = some c -> H c = none
 pin:∀ p ∈ X.pn ++ pins,s.heap.get? p.1 = some p.2 /\ H p.1 = none /\ p.1 ≠ X.env.locals /\ p.1 ∉ X.fs /\ ∀ v,p.2.data ≠ .cell v
 hok:HOk X.prog X.w H s.heap
 len:σ.length = X.N.length
section
variable {X:Cx} {pins:List (Addr × Obj)} {σ:List (Option V)} {H H':Hp} {s:Shared} {h':Heap}
theorem Cx.Ok.nofr (ok:X.Ok) {b:Addr} {o:Obj} (e:X.base.get? b = some o):b ∉ X.fs:=fun hb=>by
 have:=(ok.funs.mem hb).1
 rw [e] at this; cases this
theorem Inv.bs (I:Inv X pins σ H s):∀ b o,X.base.get? b = some o -> s.heap.get? b = some o /\ H b = none:=fun b o e =>
 ⟨I.base.keep b o (I.ok.bs b o e).1 (I.ok.bs b o e).2 (I.ok.nofr e) (I.ok.noex b o e),I.base.free b o (I.ok.bs b o e).1 (I.ok.bs b o e).2 (I.ok.noex b o e)⟩
theorem Inv.bk (I:Inv X pins σ H s):∀ b o,X.base.get? b = some o -> s.heap.get? b = some o:=fun b o e=>(I.bs b o e).1
theorem Inv.mod (I:Inv X pins σ H s):Mod X.K X.mg X.base:=I.ok.mod
theorem Inv.kIn (I:Inv X pins σ H s):X.K.In s.heap:=I.ok.mod.kin.keeps I.bk
theorem Inv.lt (I:Inv X pins σ H s):X.env.locals < s.heap.objs.size:=let ⟨_,hn,_⟩:=I.loc; hn.lt
theorem Inv.sz (I:Inv X pins σ H s):X.s₀.heap.objs.size <= s.heap.objs.size:=Nat.le_trans I.ok.above (Nat.le_of_lt I.lt)
theorem Inv.nofs (I:Inv X pins σ H s) {a:Addr} (h:s.heap.objs.size <= a):a ∉ X.fs:=fun hb=>by
 obtain ⟨_,o,ho,_⟩:=I.ok.funs.mem hb
 exact absurd (Nat.lt_of_lt_of_le (Heap.lt_size ho) (Nat.le_trans I.sz h)) (Nat.lt_irrefl _)
theorem Inv.cne (I:Inv X pins σ H s):∀ x c,X.env.cells.lookup x = some c -> c ≠ X.env.locals:=fun x c e z=>by
 obtain ⟨v,o,ho,hd⟩:=I.cell x c e
 obtain ⟨m,⟨o',es,ep,ho',hd',_⟩,_⟩:=I.loc
 rw [z,ho'] at ho; cases ho; rw [hd'] at hd; cases hd
theorem Inv.funs (I:Inv X pins σ H s):s.heap.FunFrames X.base X.outer:=by
 have all:∀ (l:List Env),(∀ b ∈ frs l,b ∈ X.fs) -> X.s₀.heap.FunFrames X.base l -> s.heap.FunFrames X.base l:=by
  intro l
  induction l with
  | nil=>intro _ _; trivial
  | cons env r ih =>
   intro hs hl
   obtain ⟨hk,⟨L,o,hf,hn,ho,hd⟩,hr⟩:=hl
   have hL:L ∈ X.fs:=hs L (by unfold frs; rw [List.filterMap_cons,hf]; exact List.mem_cons_self)
   obtain ⟨sl,e⟩:=I.base.slot L o ho (I.ok.frf L hL) hL fun z=>I.ok.exfs L z hL
   exact ⟨hk,⟨L,_,hf,hn,e,hd⟩,ih (fun b hb=>hs b (by unfold frs; rw [List.filterMap_cons,hf]; exact List.mem_cons_of_mem _ hb)) hr⟩
 exact all X.outer (fun _ hb=>hb) I.ok.funs
theorem Inv.stack (I:Inv X pins σ H s):s.heap.FunFrames X.base X.stack:=by
 rcases I.ok.stk with e | ⟨e,hf⟩
 ·rw [e]; exact I.funs
 ·rw [e]
  obtain ⟨m,hn,_⟩:=I.loc
  refine .cons (by rw [I.ok.kind]; decide) hf hn ?_ I.funs
  exact Heap.get?_none_of_le (Nat.le_trans I.ok.bsz I.ok.above)
theorem Inv.stkSub (I:Inv X pins σ H s):∀ b ∈ frs X.stack,b ∈ X.env.locals :: X.fs:=fun b hb=>by
 rcases I.ok.stk with e | ⟨e,hf⟩
 ·rw [e] at hb; exact List.mem_cons_of_mem _ hb
 ·rw [e] at hb
  unfold frs at hb
  rw [List.filterMap_cons,hf] at hb
  exact hb
theorem Inv.stkFree (I:Inv X pins σ H s):∀ b ∈ frs X.stack,H b = none:=fun b hb=>by
 rcases List.mem_cons.mp (I.stkSub b hb) with e | hb
 ·rw [e]; exact I.free
 ·obtain ⟨_,o,ho,_⟩:=I.ok.funs.mem hb
  exact I.base.free b o ho (I.ok.frf b hb) fun z=>I.ok.exfs b z hb
theorem Inv.step {g':Array GenState} {t':Nat} {d':Drawn} {ch:List Addr} (I:Inv X pins σ H s)
  (hch:∀ b ∈ ch,(b ∈ X.ex \/ X.s₀.heap.objs.size <= b) /\ b ≠ X.env.locals /\ (∀ x c,X.env.cells.lookup x = some c -> c ≠ b) /\ ∀ p ∈ X.pn ++ pins,p.1 ≠ b)
  (keep:∀ b o,b ≠ X.env.locals -> b ∉ X.fs -> b ∉ ch -> s.heap.get? b = some o -> H b = none -> h'.get? b = some o)
  (slot:∀ b o,b ≠ X.env.locals -> b ∈ X.fs -> b ∉ ch -> s.heap.get? b = some o -> H b = none -> ∃ sl,h'.get? b = some { o with slots:=sl }) (free:∀ b o,b ∉ ch -> s.heap.get? b = some o -> H b = none -> H' b = none)
  (there:∀ b o,b ∉ ch -> s.heap.get? b = some o -> ∃ o',h'.get? b = some o')
  (tups:∀ b xs,H b = some (.tup xs) -> H' b = some (.tup xs)) (frzs:∀ b o u,H b = some (.frz o u) -> H' b = some (.frz o u)) (tbls:∀ b ps,H b = some (.tbl ps) -> ∃ more,H' b = some (.tbl (ps ++ more)))
  (ns:∀ m,s.heap.Ns X.env.locals m -> h'.Ns X.env.locals m) (hok:HOk X.prog X.w H' h') (hg:AllBare g') :
  Inv X pins σ H' { s with heap:=h',gens:=g',drawn:=d',toks:=t' }:=by
 have neL:∀ b o,X.s₀.heap.get? b = some o -> b ≠ X.env.locals:=fun b o e=>Nat.ne_of_lt (Nat.lt_of_lt_of_le (Heap.lt_size e) I.ok.above)
 have neC:∀ b o,X.s₀.heap.get? b = some o -> b ∉ X.ex -> b ∉ ch:=fun b o e hx hb=>by
  rcases (hch b hb).1 with z | z
  ·exact hx z
  ·exact absurd (Nat.lt_of_lt_of_le (Heap.lt_size e) z) (Nat.lt_irrefl _)
 have cellK:∀ x c,X.env.cells.lookup x = some c -> ∀ v,s.heap.IsCell c v -> h'.IsCell c v:=fun x c e v ⟨o,ho,hd⟩=>by
  have nch:c ∉ ch:=fun z=>(hch c z).2.2.1 x c e rfl
  by_cases hc:c ∈ X.fs
  ·obtain ⟨sl,q⟩:=slot c o (I.cne x c e) hc nch ho (I.freeC x c e)
   exact ⟨_,q,hd⟩
  ·exact ⟨o,keep c o (I.cne x c e) hc nch ho (I.freeC x c e),hd⟩
 refine ⟨I.ok,I.os,hg,⟨fun b o e n hb hx=>?_,fun b o e n hb hx=>?_,fun b o e n hx=>?_,fun b o e hx=>?_,fun b xs e=>tups b xs (I.base.tups b xs e),fun b o xs e=>frzs b o xs (I.base.frzs b o xs e),fun b ps e=>?_⟩,?_,fun x c e=>?_,?_,fun x c e=>?_,fun p hp=>?_,hok,I.len⟩
 ·exact keep b o (neL b o e) hb (neC b o e hx) (I.base.keep b o e n hb hx) (I.base.free b o e n hx)
 ·obtain ⟨sl,e1⟩:=I.base.slot b o e n hb hx
  obtain ⟨sl',e2⟩:=slot b _ (neL b o e) hb (neC b o e hx) e1 (I.base.free b o e n hx)
  exact ⟨sl',e2⟩
 ·obtain ⟨o',e1⟩:=I.base.there b o e hx
  exact free b o' (neC b o e hx) e1 (I.base.free b o e n hx)
 ·obtain ⟨o',e1⟩:=I.base.there b o e hx
  exact there b o' (neC b o e hx) e1
 ·obtain ⟨m1,e1⟩:=I.base.tbls b ps e
  obtain ⟨m2,e2⟩:=tbls b _ e1
  exact ⟨m1 ++ m2,by rw [e2,Array.append_assoc]⟩
 ·obtain ⟨m,hn,hl⟩:=I.loc
  refine ⟨m,ns m hn,fun i x v e1 e2 e3=>?_⟩
  obtain ⟨u,r,l⟩:=hl i x v e1 e2 e3
  refine ⟨u,r,?_⟩
  rcases l with l | ⟨k,c,e,z⟩
  ·exact .inl l
  ·exact .inr ⟨k,c,e,cellK x c e _ z⟩
 ·obtain ⟨v,z⟩:=I.cell x c e
  exact ⟨v,cellK x c e v z⟩
 ·obtain ⟨m,⟨o,_,_,ho,_⟩,_⟩:=I.loc
  exact free _ o (fun z=>(hch _ z).2.1 rfl) ho I.free
 ·obtain ⟨v,o,ho,hd⟩:=I.cell x c e
  exact free c o (fun z=>(hch c z).2.2.1 x c e rfl) ho (I.freeC x c e)
 ·obtain ⟨e,n,ne,nf,d⟩:=I.pin p hp
  have nch:p.1 ∉ ch:=fun z=>(hch p.1 z).2.2.2 p hp rfl
  exact ⟨keep p.1 p.2 ne nf nch e n,free p.1 p.2 nch e n,ne,nf,d⟩
theorem Inv.un {t':Nat} (I:Inv X pins σ H s) (u:Un X.fs [] H H' s.heap h') (hok:HOk X.prog X.w H' h'):Inv X pins σ H' { s with heap:=h',toks:=t' }:=by
 obtain ⟨m,⟨o,es,ep,ho,r⟩,_⟩:=id I.loc
 obtain ⟨sl,hL⟩:=u.any ho I.free (by simp)
 exact I.step (g':=s.gens) (d':=s.drawn) (ch:=[]) (fun _ z=>nomatch z) (fun b o _ hb _ e n=>u.keep b o e n hb (by simp)) (fun b o _ hb _ e n=>u.slot b o e n hb (by simp)) (fun b o _ e n=>u.free b o e n (by simp)) (fun b o _ e=>u.there b o e (by simp)) u.tups u.frzs u.tbls (fun m' hm=>by
  obtain ⟨o',es',ep',ho',r'⟩:=hm
  rw [ho] at ho'; cases ho'
  exact ⟨_,es',ep',hL,r'⟩) hok I.bare
theorem Inv.call {g':Array GenState} {t':Nat} {d':Drawn} {ch:List Addr} (I:Inv X pins σ H s) (u:Un (frs X.stack) ch H H' s.heap h') (hok:HOk X.prog X.w H' h') (hg:AllBare g')
  (hch:∀ b ∈ ch,(b ∈ X.ex \/ X.s₀.heap.objs.size <= b) /\ b ≠ X.env.locals /\ (∀ x c,X.env.cells.lookup x = some c -> c ≠ b) /\ ∀ p ∈ X.pn ++ pins,p.1 ≠ b) :
  Inv X pins σ H' { s with heap:=h',gens:=g',drawn:=d',toks:=t' }:=by
 obtain ⟨m,⟨o,es,ep,ho,r⟩,_⟩:=id I.loc
 obtain ⟨sl,hL⟩:=u.any ho I.free fun z=>(hch _ z).2.1 rfl
 exact I.step (ch:=ch) hch (fun b o hL hb hc e n=>u.keep b o e n (fun z=>(List.mem_cons.mp (I.stkSub b z)).elim hL hb) hc) (fun b o _ _ hc e n=>u.any e n hc) (fun b o hc e n=>u.free b o e n hc) (fun b o hc e=>u.there b o e hc) u.tups u.frzs u.tbls (fun m' hm=>by
  obtain ⟨o',es',ep',ho',r'⟩:=hm
  rw [ho] at ho'; cases ho'
  exact ⟨_,es',ep',hL,r'⟩) hok hg
theorem Inv.turned {t':Nat} {it:Addr} (I:Inv X pins σ H s) (k:∀ b o,b ≠ it -> s.heap.get? b = some o -> h'.get? b = some o) (hn:H it = none) (hL:it ≠ X.env.locals)
  (h1:it ∈ X.ex \/ X.s₀.heap.objs.size <= it) (h2:∀ x c,X.env.cells.lookup x = some c -> c ≠ it) (h3:∀ p ∈ X.pn ++ pins,p.1 ≠ it):Inv X pins σ H { s with heap:=h',toks:=t' }:=by
 have nit:∀ b u,H b = some u -> b ≠ it:=fun b u e z=>by rw [z,hn] at e; cases e
 refine I.step (g':=s.gens) (d':=s.drawn) (ch:=[it]) (fun b hb=>?_) (fun b o _ _ hc e _=>k b o (fun z=>hc (by simp [z])) e) (fun b o _ _ hc e _=>⟨o.slots,k b o (fun z=>hc (by simp [z])) e⟩) (fun _ _ _ _ n=>n)
  (fun b o hc e=>⟨o,k b o (fun z=>hc (by simp [z])) e⟩) (fun _ _ e=>e) (fun _ _ _ e=>e) (fun b ps e=>⟨#[],by rw [e]; simp⟩) (fun m hm=>?_) (fun b u e=>?_) I.bare
 ·have e:b = it:=by simpa using hb
  subst e
  exact ⟨h1,hL,h2,h3⟩
 ·obtain ⟨o,es,ep,ho,r⟩:=hm
  exact ⟨o,es,ep,k _ o (Ne.symm hL) ho,r⟩
 ·refine (I.hok b u e).stay (fun c v hc q=>k c v ?_ q) (fun _ q=>q) fun _ _ q=>q
  rcases hc with z | z
  ·rw [z]; exact nit b u e
  ·exact nit c _ z
theorem Inv.tok (I:Inv X pins σ H s) (t:Nat):Inv X pins σ H { s with toks:=t }:=I.un (h':=s.heap) (t':=t) Un.refl I.hok
theorem Inv.kept {t':Nat} (I:Inv X pins σ H s) (k:∀ b u,s.heap.get? b = some u -> h'.get? b = some u):Inv X pins σ H { s with heap:=h',toks:=t' }:=I.un (Un.kept k) (I.hok.kept k)
theorem Inv.laid {a:Addr} {o:HO} {t':Nat} (I:Inv X pins σ H s) (k:∀ b u,s.heap.get? b = some u -> h'.get? b = some u) (hp:s.heap.objs.size <= a) (new:ObjOk X.prog X.w (upd H a o) h' a o) :
  Inv X pins σ (upd H a o) { s with heap:=h',toks:=t' }:=I.un (Un.laid k hp (I.hok.fresh hp)) (I.hok.laid k hp new)
theorem Inv.write {x e:Addr} {o:HO} {t':Nat} (I:Inv X pins σ H s) (mu:Mut (H x)) (he:e = x \/ H e = some (.own x)) (k:∀ b u,b ≠ e -> s.heap.get? b = some u -> h'.get? b = some u) (heo:∃ u,h'.get? e = some u)
  (new:ObjOk X.prog X.w (upd H x o) h' x o):Inv X pins σ (upd H x o) { s with heap:=h',toks:=t' }:=I.un (Un.write mu he k heo) (I.hok.write mu he k heo new)
theorem Inv.pins_of {pins':List (Addr × Obj)} (I:Inv X pins σ H s) (h:∀ p ∈ pins',s.heap.get? p.1 = some p.2 /\ H p.1 = none /\ p.1 ≠ X.env.locals /\ p.1 ∉ X.fs /\ ∀ v,p.2.data ≠ .cell v):Inv X pins' σ H s :=
 ⟨I.ok,I.os,I.bare,I.base,I.loc,I.cell,I.free,I.freeC,fun p hp=>(List.mem_append.mp hp).elim (fun z=>I.pin p (List.mem_append_left _ z)) (h p),I.hok,I.len⟩
theorem nodup_ix {N:List Str} (hN:N.Nodup) {i j:Nat} {x:Str} (a:N[i]? = some x) (b:N[j]? = some x):i = j:=by
 obtain ⟨h1,e1⟩:=List.getElem?_eq_some_iff.mp a
 obtain ⟨h2,e2⟩:=List.getElem?_eq_some_iff.mp b
 exact (List.getElem_inj hN).mp (e1.trans e2.symm)
theorem store_ok2 {M:Model} {A:Around} {E:Value -> Shared -> Prop} {i:Nat} {x:Str} {v:V} {u:Value} {Q:Unit -> Shared -> Prop} (I:Inv X pins σ H s) (hN:X.N.Nodup) (hi:X.N[i]? = some x) (hx:Loc X.env.scope x) (r:RelV v u)
  (h:∀ s',Inv X pins (σ.set i (some v)) H s' -> (∃ a,Heap.SameBut a s.heap s'.heap /\ (a = X.env.locals \/ X.env.cells.lookup x = some a)) -> Q () s') (hf:X.fn x = true \/ X.env.scope.names.lookup x = some .local:=by first | exact .inl rfl | exact .inr rfl | assumption):wpAny M A (storeName X.env x u) Q E s:=by
 obtain ⟨m,hn,hl⟩:=id I.loc
 have hcls:(X.env.scope.kind == .class || (X.env.scope.kind == .module && X.env.locals != X.env.globals)) = false:=by rw [I.ok.kind]; rfl
 have hiσ:i < σ.length:=by rw [I.len]; exact (List.getElem?_eq_some_iff.mp hi).1
 have cne:=I.cne
 have tracked:∀ {a:Addr} {h':Heap},(∃ o,s.heap.get? a = some o /\ H a = none) -> Heap.SameBut a s.heap h' -> HOk X.prog X.w H h':=fun {a h'} ha hs b ob e=>by
  obtain ⟨_,_,hfree⟩:=ha
  refine (I.hok b ob e).stay (fun c w' hc q=>(hs.2 c ?_).trans q) (fun _ q=>q) fun _ _ q=>q
  rintro rfl
  rcases hc with rfl | hc
  ·rw [hfree] at e; cases e
  ·rw [hfree] at hc; cases hc
 rcases hx with hk | hk
 ·refine wpAny_storeName_local hk hn (fun h' hn' hs=>?_) hcls
  obtain ⟨oL,_,_,hoL,_⟩:=id hn
  refine h _ ⟨I.ok,I.os,I.bare,⟨fun b o e n hb hx=>?_,fun b o e n hb hx=>?_,I.base.free,fun b o e hx=>?_,I.base.tups,I.base.frzs,I.base.tbls⟩,⟨_,hn',fun j y v' e1 e2 e3=>?_⟩,fun y c e=>?_,I.free,I.freeC,fun p hp=>?_,tracked ⟨oL,hoL,I.free⟩ hs,by simpa using I.len⟩ ⟨_,hs,.inl rfl⟩
  ·exact (hs.2 b (Nat.ne_of_lt (Nat.lt_of_lt_of_le (Heap.lt_size e) I.ok.above))).trans (I.base.keep b o e n hb hx)
  ·obtain ⟨sl,e1⟩:=I.base.slot b o e n hb hx
   exact ⟨sl,(hs.2 b (Nat.ne_of_lt (Nat.lt_of_lt_of_le (Heap.lt_size e) I.ok.above))).trans e1⟩
  ·obtain ⟨o',e1⟩:=I.base.there b o e hx
   exact ⟨o',(hs.2 b (Nat.ne_of_lt (Nat.lt_of_lt_of_le (Heap.lt_size e) I.ok.above))).trans e1⟩
  ·by_cases hj:j = i
   ·subst hj
    rw [hi] at e1; cases e1
    rw [List.getElem?_set_self hiσ] at e2
    cases e2
    exact ⟨u,r,.inl ⟨hk,by simp⟩⟩
   ·rw [List.getElem?_set_ne (Ne.symm hj)] at e2
    obtain ⟨u',r',q⟩:=hl j y v' e1 e2 e3
    refine ⟨u',r',?_⟩
    rcases q with ⟨k,e⟩ | ⟨k,c,e,z⟩
    ·refine .inl ⟨k,?_⟩
     have:y ≠ x:=fun e=>hj (nodup_ix hN e1 (e ▸ hi))
     simp [this,e]
    ·exact .inr ⟨k,c,e,z.sameBut hs (cne y c e)⟩
  ·obtain ⟨w',z⟩:=I.cell y c e
   exact ⟨w',z.sameBut hs (cne y c e)⟩
  ·obtain ⟨e,n,ne,nf,d⟩:=I.pin p hp
   exact ⟨(hs.2 p.1 ne).trans e,n,ne,nf,d⟩
 ·have hfn:X.fn x = true:=by
   rcases hf with z | z
   ·exact z
   ·rw [z] at hk; cases hk
  obtain ⟨c,hc⟩:=I.ok.has x (.inl hk)
  obtain ⟨w',z⟩:=I.cell x c hc
  refine wpAny_storeName_cell I.ok.kind hk hc z (fun h' hc' hs=>?_)
  obtain ⟨oc,hoc,hocd⟩:=id z
  refine h { s with heap:=h' } ⟨I.ok,I.os,I.bare,⟨fun b o e n hb hx=>?_,fun b o e n hb hx=>?_,I.base.free,fun b o e hx=>?_,I.base.tups,I.base.frzs,I.base.tbls⟩,⟨m,hn.sameBut hs (Ne.symm (cne x c hc)),fun j y v' e1 e2 e3=>?_⟩,fun y c' e=>?_,I.free,I.freeC,fun p hp=>?_,tracked ⟨oc,hoc,I.freeC x c hc⟩ hs,by simpa using I.len⟩ ⟨c,hs,.inr hc⟩
  ·exact (hs.2 b (Nat.ne_of_lt (Nat.lt_of_lt_of_le (Heap.lt_size e) (I.ok.cab x c hfn hc)))).trans (I.base.keep b o e n hb hx)
  ·obtain ⟨sl,e1⟩:=I.base.slot b o e n hb hx
   exact ⟨sl,(hs.2 b (Nat.ne_of_lt (Nat.lt_of_lt_of_le (Heap.lt_size e) (I.ok.cab x c hfn hc)))).trans e1⟩
  ·obtain ⟨o',e1⟩:=I.base.there b o e hx
   exact ⟨o',(hs.2 b (Nat.ne_of_lt (Nat.lt_of_lt_of_le (Heap.lt_size e) (I.ok.cab x c hfn hc)))).trans e1⟩
  ·by_cases hj:j = i
   ·subst hj
    rw [hi] at e1; cases e1
    rw [List.getElem?_set_self hiσ] at e2
    cases e2
    exact ⟨u,r,.inr ⟨.inl hk,c,hc,hc'⟩⟩
   ·rw [List.getElem?_set_ne (Ne.symm hj)] at e2
    obtain ⟨u',r',q⟩:=hl j y v' e1 e2 e3
    refine ⟨u',r',?_⟩
    rcases q with q | ⟨k,c',e,z'⟩
    ·exact .inl q
    ·refine .inr ⟨k,c',e,z'.sameBut hs ?_⟩
     rintro rfl
     exact hj (nodup_ix hN e1 (I.ok.inj _ _ _ e hc ▸ hi))
  ·by_cases hcc:c' = c
   ·subst hcc; exact ⟨_,hc'⟩
   ·obtain ⟨w2,z2⟩:=I.cell y c' e
    exact ⟨w2,z2.sameBut hs hcc⟩
  ·obtain ⟨e,n,ne,nf,d⟩:=I.pin p hp
   refine ⟨(hs.2 p.1 ?_).trans e,n,ne,nf,d⟩
   intro q
   rw [q,hoc] at e
   have q':oc = p.2:=Option.some.inj e
   exact d w' (by rw [← q']; exact hocd)
theorem jF {M:Model} {A:Around} {E:Value -> Shared -> Prop} {i:Nat} {x:Str} {v:V} {u:Value} {Q:Unit -> Shared -> Prop} (I:Inv X pins σ H s) (hN:X.N.Nodup) (hi:X.N[i]? = some x) (hx:Loc X.env.scope x) (r:RelV v u)
  (h:∀ s',Inv X pins (σ.set i (some v)) H s' -> Q () s') (hf:X.fn x = true \/ X.env.scope.names.lookup x = some .local:=by first | exact .inl rfl | exact .inr rfl | assumption):wpAny M A (storeName X.env x u) Q E s :=
 store_ok2 I hN hi hx r (fun s' I' _=>h s' I') hf
theorem Inv.call' {s':Shared} {ch:List Addr} (I:Inv X pins σ H s) (ho:s'.os = s.os) (u:Un (frs X.stack) ch H H' s.heap s'.heap) (hok:HOk X.prog X.w H' s'.heap) (hg:AllBare s'.gens)
  (hch:∀ b ∈ ch,(b ∈ X.ex \/ X.s₀.heap.objs.size <= b) /\ b ≠ X.env.locals /\ (∀ x c,X.env.cells.lookup x = some c -> c ≠ b) /\ ∀ p ∈ X.pn ++ pins,p.1 ≠ b):Inv X pins σ H' s':=by
 obtain ⟨h',g',d',t',o'⟩:=s'
 have e:o' = s.os:=ho
 subst e
 exact I.call (g':=g') (t':=t') (d':=d') u hok hg hch
end
abbrev XK:=Value -> Option Addr -> Hp -> Prop
abbrev St:=List (Option V)
abbrev VK:=V -> Hp -> Prop
abbrev TE:=St -> Hp -> VK -> Prop
abbrev TT:=St -> Hp -> (Bool -> Hp -> Prop) -> Prop
abbrev TA:=St -> Hp -> (List V -> Hp -> Prop) -> Prop
structure Ends where
 nx:St -> Hp -> Prop
 rt:VK
 bk:St -> Hp -> Prop:=fun _ _=>False
 ct:St -> Hp -> Prop:=fun _ _=>False
abbrev TS:=Ends -> St -> Hp -> Prop
def EP (X:Cx) (pins:List (Addr × Obj)) (σ:St) (Q:VK) (u:Value) (s':Shared):Prop:=∃ v H',Inv X pins σ H' s' /\ RelV v u /\ Q v H'
def TP (X:Cx) (pins:List (Addr × Obj)) (σ:St) (Q:Bool -> Hp -> Prop) (b:Bool) (s':Shared):Prop:=∃ H',Inv X pins σ H' s' /\ Q b H'
def AP (X:Cx) (pins:List (Addr × Obj)) (σ:St) (Q:List V -> Hp -> Prop) (us:List Value) (s':Shared):Prop:=∃ vs H',Inv X pins σ H' s' /\ Vals vs us /\ Q vs H'
def SP (X:Cx) (pins:List (Addr × Obj)) (D:Ends) (f:Flow) (s':Shared):Prop :=
 match f with
 | .next=>∃ σ' H',Inv X pins σ' H' s' /\ D.nx σ' H'
 | .brk=>∃ σ' H',Inv X pins σ' H' s' /\ D.bk σ' H'
 | .cont=>∃ σ' H',Inv X pins σ' H' s' /\ D.ct σ' H'
 | .ret u=>∃ v σ' H',Inv X pins σ' H' s' /\ RelV v u /\ D.rt v H'
def PE (X:Cx) (e:Expr) (t:TE):Prop :=
 ∀ (pins:List (Addr × Obj)) (s:Shared) (σ:St) (H:Hp) (Q:VK),Inv X pins σ H s -> t σ H Q -> wpAny (model X.prog X.w) X.A (eval e X.env) (EP X pins σ Q) X.xe s
def PT (X:Cx) (e:Expr) (t:TT):Prop :=
 ∀ (pins:List (Addr × Obj)) (s:Shared) (σ:St) (H:Hp) (Q:Bool -> Hp -> Prop),Inv X pins σ H s -> t σ H Q -> wpAny (model X.prog X.w) X.A (isTrue e X.env (eval e X.env)) (TP X pins σ Q) X.xe s
def PW (X:Cx) (e:Expr) (t:TT):Prop :=
 ∀ (whole:Sem Value) (pins:List (Addr × Obj)) (s:Shared) (σ:St) (H:Hp) (Q:Bool -> Hp -> Prop),Inv X pins σ H s -> t σ H Q -> wpAny (model X.prog X.w) X.A (isTrue e X.env whole) (TP X pins σ Q) X.xe s
theorem PW.pt {X:Cx} {e:Expr} {t:TT} (h:PW X e t):PT X e t:=h _
def PA (X:Cx) (es:List Expr) (t:TA):Prop :=
 ∀ (pos:Pos) (pins:List (Addr × Obj)) (s:Shared) (σ:St) (H:Hp) (Q:List V -> Hp -> Prop),Inv X pins σ H s -> t σ H Q -> wpAny (model X.prog X.w) X.A (spliced (backTo pos (starEach es X.env))) (AP X pins σ Q) X.xe s
def PS (X:Cx) (st:Stmt) (t:TS):Prop :=
 ∀ (pins:List (Addr × Obj)) (s:Shared) (σ:St) (H:Hp) (D:Ends),Inv X pins σ H s -> t D σ H -> wpAny (model X.prog X.w) X.A (exec st X.env) (SP X pins D) X.xe s
def PSs (X:Cx) (st:List Stmt) (t:TS):Prop :=
 ∀ (pins:List (Addr × Obj)) (s:Shared) (σ:St) (H:Hp) (D:Ends),Inv X pins σ H s -> t D σ H -> wpAny (model X.prog X.w) X.A (execs st X.env) (SP X pins D) X.xe s
theorem thn {α:Type} {t:Sem α} {Q Q':α -> Shared -> Prop} {M:Model} {A:Around} {E:Value -> Shared -> Prop} {s:Shared} (h:wpAny M A t Q E s) (hQ:∀ a s,Q a s -> Q' a s):wpAny M A t Q' E s:=wpAny_mono h hQ fun _ _ x=>x
end L2
namespace L2
open PySem PySem.Spec PyProof.Rows
section
variable {X:Cx}
def tVar (i:Nat):TE:=fun σ H Q=>∃ v,σ[i]? = some (some v) /\ Q v H
def tC (v:V):TE:=fun _ H Q=>Q v H
theorem pe_var {i:Nat} {x:Str} {pos:Pos} (hN:X.N[i]? = some x) (hv:Vis X.env.scope x) (hd:(x == ("__debug__":Str)) = false:=by decide) (hcd:(x == ("__classdict__":Str)) = false:=by decide):PE X (.Name x pos) (tVar i):=by
 intro pins s σ H Q I h
 obtain ⟨v,e,h⟩:=h
 obtain ⟨m,hn,hl⟩:=I.loc
 obtain ⟨u,r,l⟩:=hl i x v hN e hv
 have fin:EP X pins σ Q u s:=⟨v,H,I,r,h⟩
 rcases l with ⟨hk,hm⟩ | ⟨hk,c,hc,hcell⟩
 ·exact wpAny_Name (wpAny_loadName_local I.ok.kind hk hn hm fin) hd
 ·rcases hk with hk | hk
  ·exact wpAny_Name (wpAny_loadName_cell I.ok.kind hk hc hcell fin) hd
  ·exact wpAny_Name (wpAny_loadName_free I.ok.kind hk hc hcell fin hcd) hd
theorem zH {i j pos}:PE X (.Constant (.int i) j pos) (tC (.int i)):=fun _ _ _ H _ I h=>wpAny_Constant_int ⟨.int i,H,I.tok _,⟨_,rfl⟩,h⟩
theorem xO {b j pos}:PE X (.Constant (.bool b) j pos) (tC (.bl b)):=fun _ _ _ H _ I h=>Constant_bool ⟨.bl b,H,I,rfl,h⟩
theorem pe_non {j pos}:PE X (.Constant .none j pos) (tC .non):=fun _ _ _ H _ I h=>Constant_none ⟨.non,H,I,rfl,h⟩
theorem pe_str {x j pos}:PE X (.Constant (.str x) j pos) (tC (.str x)):=fun _ _ _ H _ I h=>Calls.Constant_str ⟨.str x,H,I.tok _,⟨_,rfl⟩,h⟩
def Gl (X:Cx) (x:Str):Prop:=X.env.kindOf x = some .globalImplicit
theorem qI {E:Value -> Shared -> Prop} {pins:List (Addr × Obj)} {s:Shared} {σ:St} {H:Hp} {x:Str} {u:Value} {pos:Pos} {Q:Value -> Shared -> Prop} (I:Inv X pins σ H s) (hg:Gl X x) (hm:X.mg x = some u) (h:Q u s)
  (hd:(x == ("__debug__":Str)) = false:=by decide):wpAny (model X.prog X.w) X.A (eval (.Name x pos) X.env) Q E s :=
 Calls.Name_function_global I.ok.kind hg (Calls.loadGlobal_global (by rw [I.ok.glob]; exact I.mod.glob.keeps I.bk) hm h) hd
theorem ld_blt {E:Value -> Shared -> Prop} {pins:List (Addr × Obj)} {s:Shared} {σ:St} {H:Hp} {x:Str} {u:Value} {pos:Pos} {Q:Value -> Shared -> Prop} (I:Inv X pins σ H s) (hg:Gl X x) (hm:X.mg x = none) (hv:bootBuiltins x = some u) (h:Q u s)
  (hn:x ≠ "__name__":=by decide) (hd:(x == ("__debug__":Str)) = false:=by decide):wpAny (model X.prog X.w) X.A (eval (.Name x pos) X.env) Q E s:=by
 obtain ⟨mb,h1,h2⟩:=I.mod.blt
 exact Calls.Name_function_global I.ok.kind hg (Calls.loadGlobal_builtin (by rw [I.ok.glob]; exact I.mod.glob.keeps I.bk) hm (by rw [I.ok.blt]; exact h1.keeps I.bk) ((h2 x hn).trans hv) h) hd
theorem yR {x:Str} {v:V} {u:Value} {pos:Pos} (hg:Gl X x) (hm:X.mg x = some u) (r:RelV v u) (hd:(x == ("__debug__":Str)) = false:=by decide):PE X (.Name x pos) (tC v) :=
 fun _ _ _ H _ I h=>qI I hg hm ⟨v,H,I,r,h⟩ hd
theorem yT {x:Str} {v:V} {u:Value} {pos:Pos} (hg:Gl X x) (hm:X.mg x = none) (hv:bootBuiltins x = some u) (r:RelV v u) (hn:x ≠ "__name__":=by decide) (hd:(x == ("__debug__":Str)) = false:=by decide):PE X (.Name x pos) (tC v) :=
 fun _ _ _ H _ I h=>ld_blt I hg hm hv ⟨v,H,I,r,h⟩ hn hd
variable {a b:Expr} {ta tb:TE} {pos:Pos}
def PC (X:Cx) (op:CmpOp) (a b:Expr) (t:TE):Prop :=
 ∀ (pins:List (Addr × Obj)) (s:Shared) (σ:St) (H:Hp) (Q:VK),Inv X pins σ H s -> t σ H Q ->
  wpAny (model X.prog X.w) X.A (eval a X.env) (fun v s₁=>wpAny (model X.prog X.w) X.A (eval b X.env) (fun u s₂=>wpAny (model X.prog X.w) X.A (compareOp op v u) (EP X pins σ Q) X.xe s₂) X.xe s₁) X.xe s
variable {tA tB':TT} {rest:List Expr}
def tAnd (t u:TT):TT:=fun σ H Q=>t σ H fun c H1=>if c = true then u σ H1 Q else Q false H1
def tOr (t u:TT):TT:=fun σ H Q=>t σ H fun c H1=>if c = true then Q true H1 else u σ H1 Q
def tNot (t:TT):TT:=fun σ H Q=>t σ H fun c H1=>Q (!c) H1
theorem j0 (ha:PT X a tA):PW X (.BoolOp .And [a] pos) tA:=by
 intro wh pins s σ H Q I h
 refine isTrue_and (thn (ha pins s σ H Q I h) fun c s1 e=>?_)
 cases c with
 | true=>exact isTrue_and_nil e
 | false=>exact e
theorem kD (ha:PT X a tA):PW X (.BoolOp .Or [a] pos) tA:=by
 intro wh pins s σ H Q I h
 refine isTrue_or (thn (ha pins s σ H Q I h) fun c s1 e=>?_)
 cases c with
 | false=>exact isTrue_or_nil e
 | true=>exact e
theorem kN (ha:PT X a tA) (hb:PW X (.BoolOp .And (b :: rest) pos) tB'):PW X (.BoolOp .And (a :: b :: rest) pos) (tAnd tA tB'):=by
 intro wh pins s σ H Q I h
 refine isTrue_and (thn (ha pins s σ H _ I h) fun c s1 ⟨H1,I1,q1⟩=>?_)
 cases c with
 | true=>exact hb wh pins s1 σ H1 Q I1 q1
 | false=>exact ⟨H1,I1,q1⟩
theorem kR (ha:PT X a tA) (hb:PW X (.BoolOp .Or (b :: rest) pos) tB'):PW X (.BoolOp .Or (a :: b :: rest) pos) (tOr tA tB'):=by
 intro wh pins s σ H Q I h
 refine isTrue_or (thn (ha pins s σ H _ I h) fun c s1 ⟨H1,I1,q1⟩=>?_)
 cases c with
 | true=>exact ⟨H1,I1,q1⟩
 | false=>exact hb wh pins s1 σ H1 Q I1 q1
theorem yO (ha:PT X a tA):PT X (.UnaryOp .Not a pos) (tNot tA):=by
 intro pins s σ H Q I h
 exact isTrue_not (ha pins s σ H (fun c H1=>Q (!c) H1) I h)
def tAndV (ta tb:TE):TE:=fun σ H Q=>ta σ H fun x H1=>∃ c,x = .bl c /\ if c = true then tb σ H1 Q else Q (.bl false) H1
def tOrV (ta tb:TE):TE:=fun σ H Q=>ta σ H fun x H1=>∃ c,x = .bl c /\ if c = true then Q (.bl true) H1 else tb σ H1 Q
def tNotV (ta:TE):TE:=fun σ H Q=>ta σ H fun x H1=>∃ c,x = .bl c /\ Q (.bl (!c)) H1
theorem xT {op} {t:TE} (h:PE X a t):PE X (.BoolOp op [a] pos) t:=fun pins s σ H Q I hw=>BoolOp_one (h pins s σ H Q I hw)
theorem yX (ha:PE X a ta) (hb:PE X (.BoolOp .And (b :: rest) pos) tb):PE X (.BoolOp .And (a :: b :: rest) pos) (tAndV ta tb):=by
 intro pins s σ H Q I h
 refine BoolOp_and (thn (ha pins s σ H _ I h) fun v s1 ⟨x,H1,I1,r1,q1⟩=>?_)
 obtain ⟨c,rfl,q1⟩:=q1
 cases r1
 refine wpAny_truthy_bool ?_
 cases c with
 | true=>exact hb pins s1 σ H1 Q I1 q1
 | false=>exact ⟨.bl false,H1,I1,rfl,q1⟩
theorem pe_or (ha:PE X a ta) (hb:PE X (.BoolOp .Or (b :: rest) pos) tb):PE X (.BoolOp .Or (a :: b :: rest) pos) (tOrV ta tb):=by
 intro pins s σ H Q I h
 refine BoolOp_or (thn (ha pins s σ H _ I h) fun v s1 ⟨x,H1,I1,r1,q1⟩=>?_)
 obtain ⟨c,rfl,q1⟩:=q1
 cases r1
 refine wpAny_truthy_bool ?_
 cases c with
 | false=>exact hb pins s1 σ H1 Q I1 q1
 | true=>exact ⟨.bl true,H1,I1,rfl,q1⟩
theorem pe_not (ha:PE X a ta):PE X (.UnaryOp .Not a pos) (tNotV ta):=by
 intro pins s σ H Q I h
 refine UnaryOp_ (thn (ha pins s σ H _ I h) fun v s1 ⟨x,H1,I1,r1,q1⟩=>?_)
 obtain ⟨c,rfl,q1⟩:=q1
 cases r1
 exact not_of (wpAny_truthy_bool ⟨.bl (!c),H1,I1,rfl,q1⟩)
end
end L2
namespace L2
open PySem PySem.Spec PyProof.Rows
def SqL (K:PySem.W.Frag) (H:Hp) (a:Addr) (xs:List V):Prop :=
 Rd H a (.lst xs) \/
  ∃ (o:Obj) (its:Array Value) (n:Nat),K.lookup a = some o /\ o.cls = .type "list" /\ o.dict = none /\ o.data = .seq its n /\ its.size <= sizeLine /\ Vals xs its.toList
def SqT (K:PySem.W.Frag) (H:Hp) (a:Addr) (xs:List V):Prop :=
 Rd H a (.tup xs) \/
  ∃ (o:Obj) (its:Array Value) (n:Nat),K.lookup a = some o /\ o.cls = .type "tuple" /\ o.data = .seq its n /\ its.size <= sizeLine /\ Vals xs its.toList
def absV:Value -> Option V
 | .none=>some .non
 | .bool b=>some (.bl b)
 | .int i _=>some (.int i)
 | .str x _=>some (.str x)
 | .bytes b _=>some (.byt b)
 | .float b _=>some (.flt b)
 | .ref a=>some (.ref a)
 | .type n=>some (.ty n)
 | _=>none
theorem RelV.abs {x:V} {u:Value} (r:RelV x u):absV u = some x:=by
 cases x with
 | non=>cases r; rfl
 | bl _=>cases r; rfl
 | int _=>obtain ⟨t,rfl⟩:=r; rfl
 | str _=>obtain ⟨t,rfl⟩:=r; rfl
 | byt _=>obtain ⟨t,rfl⟩:=r; rfl
 | flt _=>obtain ⟨t,rfl⟩:=r; rfl
 | ref _=>cases r; rfl
 | ty _=>cases r; rfl
theorem RelV.inj {x y:V} {u:Value} (r:RelV x u) (q:RelV y u):x = y:=Option.some.inj (r.abs.symm.trans q.abs)
theorem Vals.inj:∀ {xs ys:List V} {us:List Value},Vals xs us -> Vals ys us -> xs = ys
 | _,_,_,.nil,.nil=>rfl
 | _,_,_,.cons r t,.cons r' t'=>by rw [r.inj r',Vals.inj t t']
section
variable {X:Cx} {pins:List (Addr × Obj)} {σ:St} {H:Hp} {s:Shared} {a:Addr} {xs ys:List V}
theorem SqL.of {K:PySem.W.Frag} (h:H a = some (.lst xs)):SqL K H a xs:=.inl (.inl h)
theorem SqT.of {K:PySem.W.Frag} (h:H a = some (.tup xs)):SqT K H a xs:=.inl (.inl h)
theorem Inv.list (I:Inv X pins σ H s) (h:SqL X.K H a xs):∃ its:List Value,Vals xs its /\ PlainL s.heap a its.toArray /\ xs.length <= sizeLine:=by
 rcases h with h | ⟨o,its,n,hk,hc,hd,hs,hz,r⟩
 ·obtain ⟨z,its,n,r,e⟩:=h.ok I.hok
  exact ⟨its,r,⟨_,n,e,rfl,rfl,rfl⟩,z⟩
 ·refine ⟨its.toList,r,⟨o,n,I.kIn a o hk,hc,hd,by simpa using hs⟩,?_⟩
  have e:=r.length
  simp only [Array.length_toList] at e
  omega
theorem Inv.tuple (I:Inv X pins σ H s) (h:SqT X.K H a xs):∃ its:List Value,Vals xs its /\ IsTup s.heap a its.toArray /\ xs.length <= sizeLine:=by
 rcases h with h | ⟨o,its,n,hk,hc,hs,hz,r⟩
 ·obtain ⟨z,its,r,p⟩:=h.ok I.hok
  exact ⟨its,r,p,z⟩
 ·refine ⟨its.toList,r,⟨o,I.kIn a o hk,hc,n,by simpa using hs⟩,?_⟩
  have e:=r.length
  simp only [Array.length_toList] at e
  omega
theorem Inv.list_inj (I:Inv X pins σ H s) (h:SqL X.K H a xs) (h':SqL X.K H a ys):xs = ys:=by
 obtain ⟨its,r,⟨o,n,e,_,_,d⟩,_⟩:=I.list h
 obtain ⟨its',r',⟨o',n',e',_,_,d'⟩,_⟩:=I.list h'
 rw [e] at e'; cases e'
 rw [d] at d'
 injection d' with d1 _
 have:its = its':=by simpa using congrArg Array.toList d1
 subst this
 exact r.inj r'
theorem Inv.tuple_inj (I:Inv X pins σ H s) (h:SqT X.K H a xs) (h':SqT X.K H a ys):xs = ys:=by
 obtain ⟨its,r,⟨o,e,_,n,d⟩,_⟩:=I.tuple h
 obtain ⟨its',r',⟨o',e',_,n',d'⟩,_⟩:=I.tuple h'
 rw [e] at e'; cases e'
 rw [d] at d'
 injection d' with d1 _
 have:its = its':=by simpa using congrArg Array.toList d1
 subst this
 exact r.inj r'
end
abbrev Cx.wish (X:Cx) (E:Value -> Shared -> Prop):Cx:={ X with xe:=E }
abbrev Cx.nox (X:Cx):Cx:=X.wish fun _ _=>False
theorem Cx.Ok.wish {X:Cx} (ok:X.Ok) (E:Value -> Shared -> Prop):(X.wish E).Ok :=
 ⟨ok.mod,ok.kind,ok.glob,ok.blt,ok.above,ok.inj,ok.has,ok.cab,ok.hd,ok.frames,ok.stk,ok.exf,ok.bs,ok.bsz,ok.noex,ok.exfs,ok.funs,ok.frf⟩
theorem Cx.Ok.unwish {X:Cx} {E:Value -> Shared -> Prop} (ok:(X.wish E).Ok):X.Ok :=
 ⟨ok.mod,ok.kind,ok.glob,ok.blt,ok.above,ok.inj,ok.has,ok.cab,ok.hd,ok.frames,ok.stk,ok.exf,ok.bs,ok.bsz,ok.noex,ok.exfs,ok.funs,ok.frf⟩
section
variable {X:Cx} {pins:List (Addr × Obj)} {σ:St} {H:Hp} {s:Shared} {E:Value -> Shared -> Prop}
theorem Inv.wish (I:Inv X pins σ H s) (E:Value -> Shared -> Prop):Inv (X.wish E) pins σ H s:=⟨I.ok.wish E,I.os,I.bare,I.base,I.loc,I.cell,I.free,I.freeC,I.pin,I.hok,I.len⟩
theorem Inv.unwish (I:Inv (X.wish E) pins σ H s):Inv X pins σ H s:=⟨I.ok.unwish,I.os,I.bare,I.base,I.loc,I.cell,I.free,I.freeC,I.pin,I.hok,I.len⟩
theorem SP.unwish {D:Ends} {f:Flow} {s':Shared} (h:SP (X.wish E) pins D f s'):SP X pins D f s':=by
 cases f with
 | next=>obtain ⟨σ',H',I,q⟩:=h; exact ⟨σ',H',I.unwish,q⟩
 | brk=>obtain ⟨σ',H',I,q⟩:=h; exact ⟨σ',H',I.unwish,q⟩
 | cont=>obtain ⟨σ',H',I,q⟩:=h; exact ⟨σ',H',I.unwish,q⟩
 | ret u=>obtain ⟨v,σ',H',I,r,q⟩:=h; exact ⟨v,σ',H',I.unwish,r,q⟩
theorem PSs.nox {st:List Stmt} {t:TS} (h:PSs X.nox st t):PSs X st t:=fun pins s σ H D I hw =>
 wpAny_mono (h pins s σ H D (I.wish _) hw) (fun _ _ q=>q.unwish) fun _ _ z=>False.elim z
end
section
variable {X:Cx} {st:Stmt} {rest:List Stmt} {t u:TS} {e:Expr} {te:TE} {pos:Pos}
def tNext:TS:=fun D σ H=>D.nx σ H
def tSeq (t u:TS):TS:=fun D σ H=>t { D with nx:=u D } σ H
theorem zV:PSs X [] tNext:=fun _ _ σ H _ I h=>wpAny_execs_nil ⟨σ,H,I,h⟩
theorem zF (h1:PS X st t) (h2:PSs X rest u):PSs X (st :: rest) (tSeq t u):=by
 intro pins s σ H D I h
 refine wpAny_execs_cons (thn (h1 pins s σ H { D with nx:=u D } I h) fun f s1 q=>?_)
 cases f with
 | next =>
  obtain ⟨σ',H',I',q⟩:=q
  exact h2 pins s1 σ' H' D I' q
 | ret v=>exact q
 | brk=>exact q
 | cont=>exact q
theorem zG (h1:PS X st t):PSs X [st] t:=by
 intro pins s σ H D I h
 refine wpAny_execs_cons (thn (h1 pins s σ H D I h) fun f s1 q=>?_)
 cases f with
 | next=>exact wpAny_execs_nil q
 | ret v=>exact q
 | brk=>exact q
 | cont=>exact q
theorem Inv.quiet {pins:List (Addr × Obj)} {σ:St} {H:Hp} {s:Shared} (I:Inv X pins σ H s):interactive X.env = false:=by simp [interactive,I.ok.kind]
def tDrop (te:TE):TS:=fun D σ H=>te σ H fun _ H1=>D.nx σ H1
theorem z5 (he:PE X e te) (hs:swapsWith e none pos.line X.env = pure false:=by rfl):PS X (.Expr e pos) (tDrop te):=by
 intro pins s σ H D I h
 exact wpAny_Expr_any (thn (he pins s σ H _ I h) fun v s1 ⟨x,H1,I1,r1,q1⟩=>⟨σ,H1,I1,q1⟩) I.quiet hs
def tRet (te:TE):TS:=fun D σ H=>te σ H D.rt
theorem zO (he:PE X e te):PS X (.Return (some e) pos) (tRet te):=by
 intro pins s σ H D I h
 exact wpAny_Return_some (thn (he pins s σ H _ I h) fun v s1 ⟨x,H1,I1,r1,q1⟩=>⟨x,σ,H1,I1,r1,q1⟩)
def tIfS (c:TT) (t u:TS):TS:=fun D σ H=>c σ H fun b H1=>if b = true then t D σ H1 else u D σ H1
theorem yL {c:Expr} {a b:List Stmt} {tc:TT} (hc:PT X c tc) (ha:PSs X a t) (hb:PSs X b u):PS X (.If c a b pos) (tIfS tc t u):=by
 intro pins s σ H D I h
 refine wpAny_If (thn (hc pins s σ H _ I h) fun d s1 ⟨H1,I1,q1⟩=>?_)
 cases d with
 | true=>exact ha pins s1 σ H1 D I1 q1
 | false=>exact hb pins s1 σ H1 D I1 q1
end
abbrev TG:=V -> St -> Hp -> (St -> Hp -> Prop) -> Prop
abbrev TGs:=List V -> St -> Hp -> (St -> Hp -> Prop) -> Prop
def PG (X:Cx) (target:Expr) (t:TG):Prop :=
 ∀ (pins:List (Addr × Obj)) (s:Shared) (σ:St) (H:Hp) (v:V) (u:Value) (Q:St -> Hp -> Prop),Inv X pins σ H s -> RelV v u -> t v σ H Q ->
  wpAny (model X.prog X.w) X.A (assign target X.env u) (fun _ s'=>∃ σ' H',Inv X pins σ' H' s' /\ Q σ' H') X.xe s
def PGs (X:Cx) (ts:List Expr) (t:TGs):Prop :=
 ∀ (pins:List (Addr × Obj)) (s:Shared) (σ:St) (H:Hp) (vs:List V) (us:List Value) (Q:St -> Hp -> Prop),Inv X pins σ H s -> Vals vs us -> t vs σ H Q ->
  wpAny (model X.prog X.w) X.A (assignInOrder ((assignEach ts X.env).map (·.2)) us) (fun _ s'=>∃ σ' H',Inv X pins σ' H' s' /\ Q σ' H') X.xe s
section
variable {X:Cx} {pos:Pos}
def gName (i:Nat):TG:=fun v σ H Q=>Q (σ.set i (some v)) H
theorem zT {i:Nat} {x:Str} (hN:X.N.Nodup) (hi:X.N[i]? = some x) (hx:Loc X.env.scope x) (hf:X.fn x = true \/ X.env.scope.names.lookup x = some .local:=by first | exact .inl rfl | exact .inr rfl | assumption):PG X (.Name x pos) (gName i):=by
 intro pins s σ H v u Q I r h
 exact wpAny_assign_Name (jF I hN hi hx r (fun s' I'=>⟨_,H,I',h⟩) hf)
def gNil:TGs:=fun vs σ H Q=>vs = [] /\ Q σ H
def gCons (t:TG) (u:TGs):TGs:=fun vs σ H Q=>∃ v r,vs = v :: r /\ t v σ H fun σ' H'=>u r σ' H' Q
theorem pgs_nil:PGs X [] gNil:=by
 intro pins s σ H vs us Q I r h
 obtain ⟨e,h⟩:=h
 subst e
 cases r
 exact assignInOrder_nil ⟨σ,H,I,h⟩
theorem qW {e:Expr} {es:List Expr} {t:TG} {u:TGs} (h1:PG X e t) (h2:PGs X es u)
  (hs:(assignEach (e :: es) X.env).map (·.2) = assign e X.env :: (assignEach es X.env).map (·.2):=by rfl):PGs X (e :: es) (gCons t u):=by
 intro pins s σ H vs us Q I r h
 obtain ⟨v,vr,e1,h⟩:=h
 subst e1
 cases r with
 | cons r rr =>
  rw [hs]
  refine assignInOrder_cons (thn (h1 pins s σ H _ _ _ I r h) fun _ s1 ⟨σ1,H1,I1,q1⟩=>?_)
  exact h2 pins s1 σ1 H1 _ _ Q I1 rr q1
def gTup (K:PySem.W.Frag) (n:Nat) (t:TGs):TG:=fun v σ H Q=>∃ a xs,v = .ref a /\ SqT K H a xs /\ xs.length = n /\ t xs σ H Q
theorem pg_tup {es:List Expr} {k:Nat} {t:TGs} {n:Nat} (hc:X.calm = true) (h:PGs X es t)
  (hn:(assignEach es X.env).length = n:=by rfl) (hst:(assignEach es X.env).findIdx? (·.1) = none:=by rfl):PG X (.Tuple es k pos) (gTup X.K n t):=by
 intro pins s σ H v u Q I r hw
 obtain ⟨a,xs,e1,hq,hl,hw⟩:=hw
 subst e1
 cases r
 obtain ⟨its,rv,ht,hz⟩:=I.tuple hq
 refine assign_Tuple_tuple (I.ok.hd hc) ht (by simp [hn,← hl,rv.length]) hst fun h' hx=>?_
 have I1:Inv X pins σ H { s with heap:=h' }:=I.kept (t':=s.toks) fun b o e=>hx b o (Nat.ne_of_lt (Heap.lt_size e)) e
 exact h pins _ σ H xs _ Q I1 (by simpa using rv) hw
def tAsg (te:TE) (g:TG):TS:=fun D σ H=>te σ H fun x H1=>g x σ H1 D.nx
theorem ps_asg {tg e:Expr} {te:TE} {g:TG} (he:PE X e te) (hg:PG X tg g) (hs:swapsWithSole [tg] e pos.line X.env = pure false:=by rfl) (hw:swappedStores [tg] e X.env = pure none:=by rfl)
  (h1:(assignEach [tg] X.env).map (·.2) = [assign tg X.env]:=by rfl):PS X (.Assign [tg] e pos) (tAsg te g):=by
 intro pins s σ H D I h
 refine wpAny_Assign_stores (thn (he pins s σ H _ I h) fun v s1 ⟨x,H1,I1,r1,q1⟩=>?_) hs hw
 rw [h1]
 exact thn (hg pins s1 σ H1 x v _ I1 r1 q1) fun _ s2 q=>q
theorem zY {i:Nat} {x:Str} {e:Expr} {te:TE} {pos':Pos} (hN:X.N.Nodup) (hi:X.N[i]? = some x) (hx:Loc X.env.scope x) (he:PE X e te) (hs:swapsWith e (some (.Name x pos')) pos.line X.env = pure false:=by rfl) (hf:X.fn x = true \/ X.env.scope.names.lookup x = some .local:=by first | exact .inl rfl | exact .inr rfl | assumption) :
  PS X (.Assign [.Name x pos'] e pos) (tAsg te (gName i)):=by
 intro pins s σ H D I h
 refine wpAny_Assign_Name (thn (he pins s σ H _ I h) fun v s1 ⟨y,H1,I1,r1,q1⟩=>?_) hs
 exact jF I1 hN hi hx r1 (fun s2 I2=>⟨_,H1,I2,q1⟩) hf
def tPar (i j:Nat) (ta:TA):TS:=fun D σ H=>ta σ H fun vs H1=>∃ v w,vs = [v,w] /\ D.nx ((σ.set i (some v)).set j (some w)) H1
theorem ps_par {i j:Nat} {x y:Str} {a b:Expr} {ta:TA} {px py pt:Pos} {kt k2 pt2} (hc:X.calm = true) (hN:X.N.Nodup) (hi:X.N[i]? = some x) (hj:X.N[j]? = some y) (hij:i ≠ j)
  (hx:X.env.scope.names.lookup x = some .local) (hy:X.env.scope.names.lookup y = some .local) (ha:PA X [a,b] ta)
  (hw:swappedStores [.Tuple [.Name x px,.Name y py] kt pt] (.Tuple [a,b] k2 pt2) X.env = pure (some [x,y]))
  (hs:swapsWithSole [.Tuple [.Name x px,.Name y py] kt pt] (.Tuple [a,b] k2 pt2) pos.line X.env = pure false:=by rfl) :
  PS X (.Assign [.Tuple [.Name x px,.Name y py] kt pt] (.Tuple [a,b] k2 pt2) pos) (tPar i j ta):=by
 intro pins s σ H D I h
 rw [exec_Assign_arm]
 refine wpAny_bind (wpAny_standAt ?_)
 rw [hs]
 refine wpAny_bind (wpAny_pure ?_)
 rw [if_neg (by decide)]
 refine wpAny_bind (Tuple_ (thn (ha _ pins s σ H _ I h) fun us s1 ⟨vs,H1,I1,r1,q1⟩=>?_))
 obtain ⟨v,w,e1,q1⟩:=q1
 subst e1
 obtain ⟨u1,u2,rfl,rv,rw'⟩:∃ u1 u2,us = [u1,u2] /\ RelV v u1 /\ RelV w u2:=by
  cases r1 with
  | cons p q =>
   cases q with
   | cons p' q' =>
    cases q'
    exact ⟨_,_,rfl,p,p'⟩
 refine wpAny_newObj_type ?_ (by show 2 <= sizeLine; decide)
 have I2:Inv X pins σ H1 { s1 with heap:=s1.heap.push { cls:=.type "tuple",data:=.seq [u1,u2].toArray } }:=I1.kept (t':=s1.toks) fun b o e=>Heap.get?_push_of_some _ e
 rw [hw]
 refine wpAny_bind (wpAny_pure ?_)
 show wpAny (model X.prog X.w) X.A (do rule "assign.swapped-stores"; let items ← unpackItems (.ref s1.heap.objs.size) 2 none; assignInOrder [fun v=>bindName X.env y v,fun v=>bindName X.env x v] items.reverse; pure Flow.next) _ _ _
 refine wpAny_bind (wpAny_rule (wpAny_bind (unpackItems_tuple (items:=#[u1,u2]) (I.ok.hd hc) (IsTup.new s1.heap _) fun h' hx'=>?_)))
 have I3:=I2.kept (h':=h') (t':=s1.toks) fun b o e=>hx' b o (Nat.ne_of_lt (Heap.lt_size e)) e
 show wpAny _ _ (assignInOrder [fun v=>bindName X.env y v,fun v=>bindName X.env x v] [u2,u1] >>= fun _=>pure Flow.next) _ _ _
 refine wpAny_bind (assignInOrder_cons (wpAny_bindName (jF I3 hN hj (.inl hy) rw' (fun s2 I4=>?_) (.inr hy))))
 refine assignInOrder_cons (wpAny_bindName (jF I4 hN hi (.inl hx) rv (fun s3 I5=>assignInOrder_nil (wpAny_pure ?_)) (.inr hx)))
 rw [List.set_comm _ _ (Ne.symm hij)] at I5
 exact ⟨_,H1,I5,q1⟩
end
section
variable {X:Cx} {pos:Pos}
def tWhile (c:TT) (tb:TS):TS:=fun D σ H=>∃ W:Nat -> St -> Hp -> Prop,(∃ m,W m σ H) /\ ∀ m σ H,W m σ H ->
 c σ H fun b H1=>if b = true then ∃ N:St -> Hp -> Prop,(∀ σ' H',N σ' H' -> ∃ m',m' < m /\ W m' σ' H') /\ tb { D with nx:=N,ct:=N,bk:=D.nx } σ H1 else D.nx σ H1
theorem ps_while {c:Expr} {body:List Stmt} {tc:TT} {tb:TS} (hp:PassesOwn (model X.prog X.w) X.A X.env X.xe) (hc:PT X c tc) (hb:PSs X body tb):PS X (.While c body [] pos) (tWhile tc tb):=by
 intro pins s σ H D I h
 obtain ⟨W,⟨m0,w0⟩,turn⟩:=h
 refine wpAny_While (codeAny_whileLoop (fun n s'=>∃ σ' H',Inv X pins σ' H' s' /\ W n σ' H') ?_ m0 ⟨σ,H,I,w0⟩)
 rintro n s1 ⟨σ1,H1,I1,w1⟩
 refine wpAny_passesOwn hp (thn (hc pins s1 σ1 H1 _ I1 (turn n σ1 H1 w1)) fun b s2 ⟨H2,I2,q2⟩=>?_)
 cases b with
 | true =>
  obtain ⟨N,hN,q2⟩:=q2
  rw [if_pos rfl]
  refine wpAny_passesOwn hp (thn (hb pins s2 σ1 H2 _ I2 q2) fun f s3 q3=>?_)
  cases f with
  | next =>
   obtain ⟨σ3,H3,I3,n3⟩:=q3
   obtain ⟨m',hm,w3⟩:=hN σ3 H3 n3
   exact ⟨m',hm,σ3,H3,I3,w3⟩
  | cont =>
   obtain ⟨σ3,H3,I3,n3⟩:=q3
   obtain ⟨m',hm,w3⟩:=hN σ3 H3 n3
   exact ⟨m',hm,σ3,H3,I3,w3⟩
  | brk=>exact q3
  | ret v=>exact q3
 | false =>
  rw [if_neg Bool.false_ne_true]
  exact wpAny_execs_nil ⟨σ1,H2,I2,q2⟩
end
structure It where
 go:Nat -> Hp -> Prop
 yld:Nat -> Hp -> V -> Hp -> Prop
 stop:Nat -> Hp -> Prop
def FpOk (X:Cx) (pins:List (Addr × Obj)) (H:Hp) (b:Addr):Prop :=
 H b = none /\ b ≠ X.env.locals /\ b ∉ X.fs /\ (b ∈ X.ex \/ X.s₀.heap.objs.size <= b) /\ (∀ x c,X.env.cells.lookup x = some c -> c ≠ b) /\ ∀ p ∈ X.pn ++ pins,p.1 ≠ b
theorem Inv.fpOk {X:Cx} {pins:List (Addr × Obj)} {σ:St} {H H':Hp} {s:Shared} {b:Addr} (I:Inv X pins σ H s) (hb:s.heap.objs.size <= b) (hn:H' b = none):FpOk X pins H' b:=by
 refine ⟨hn,Nat.ne_of_gt (Nat.lt_of_lt_of_le I.lt hb),I.nofs hb,.inr (Nat.le_trans I.sz hb),fun x c e z=>?_,fun p hp z=>?_⟩
 ·obtain ⟨v,q⟩:=I.cell x c e
  exact absurd (Nat.lt_of_lt_of_le q.lt (by rw [z]; exact hb)) (Nat.lt_irrefl _)
 ·exact absurd (Nat.lt_of_lt_of_le (Heap.lt_size (I.pin p hp).1) (by rw [z]; exact hb)) (Nat.lt_irrefl _)
structure Turn (P:Program) (w:World) (K:PySem.W.Frag) (tg:Expr) (J:It) (fp:List Addr) (it:Addr) (tn:Nat -> Heap -> Prop):Prop where
 mem:it ∈ fp
 obj:∀ i h,tn i h -> ∀ b ∈ fp,∃ o,h.get? b = some o /\ ∀ v,o.data ≠ .cell v
 keep:∀ i h h',tn i h -> (∀ b ∈ fp,∀ o,h.get? b = some o -> h'.get? b = some o) -> tn i h'
 item:∀ (X:Cx),X.prog = P -> X.w = w -> X.K = K -> X.calm = true -> ∀ (i:Nat) (pins:List (Addr × Obj)) (s:Shared) (σ:St) (H:Hp) (E:Value -> Shared -> Prop),Inv X pins σ H s -> (∀ b ∈ fp,FpOk X pins H b) -> tn i s.heap -> J.go i H ->
  wpAny (model P w) X.A (pyNext (.ref it)) (fun r s1=>∃ u,r = some u /\
   wpAny (model P w) X.A (letOwnedTupleGo tg (.ref it) u) (fun _ s2=>∃ x H',Inv X pins σ H' s2 /\ RelV x u /\ J.yld i H x H' /\ tn (i + 1) s2.heap /\ ∀ b ∈ fp,H' b = none) E s1) E s
 done:∀ (X:Cx),X.prog = P -> X.w = w -> X.K = K -> X.calm = true -> ∀ (i:Nat) (pins:List (Addr × Obj)) (s:Shared) (σ:St) (H:Hp) (E:Value -> Shared -> Prop),Inv X pins σ H s -> (∀ b ∈ fp,FpOk X pins H b) -> tn i s.heap -> J.stop i H ->
  wpAny (model P w) X.A (pyNext (.ref it)) (fun r s1=>r = none /\ Inv X pins σ H s1) E s
 self:∀ (A:Around) (i:Nat) (s:Shared) (Q:Value -> Shared -> Prop) (E:Value -> Shared -> Prop),tn i s.heap -> Q (.ref it) s -> wpAny (model P w) A (pyIter (.ref it)) Q E s
abbrev TI:=St -> Hp -> (It -> Hp -> Prop) -> Prop
def PIE (X:Cx) (pins:List (Addr × Obj)) (σ:St) (tg:Expr) (R:It -> Hp -> Prop) (itv:Value) (s2:Shared):Prop :=
 ∃ (it:Addr) (fp:List Addr) (tn:Nat -> Heap -> Prop) (J:It) (H':Hp),itv = .ref it /\ Inv X pins σ H' s2 /\ Turn X.prog X.w X.K tg J fp it tn /\ tn 0 s2.heap /\ (∀ b ∈ fp,FpOk X pins H' b) /\ R J H'
def PI (X:Cx) (tg iter:Expr) (wi:TI):Prop :=
 ∀ (pins:List (Addr × Obj)) (s:Shared) (σ:St) (H:Hp) (R:It -> Hp -> Prop),Inv X pins σ H s -> wi σ H R ->
  wpAny (model X.prog X.w) X.A (eval iter X.env) (fun v s1=>wpAny (model X.prog X.w) X.A (pyIter v) (PIE X pins σ tg R) X.xe s1) X.xe s
theorem go_of {M:Model} {A:Around} {E:Value -> Shared -> Prop} {s:Shared} {tg:Expr} {it:Addr} {u:Value} {o:Obj} {n:String} {vs:Array Value} {Q:Unit -> Shared -> Prop} (ho:s.heap.get? it = some o) (hc:o.cls = .type n) (hd:o.data = .fields vs)
  (hn:["enumerate","zip","dict_itemiterator","dict_reverseitemiterator","odict_iterator","itertools.zip_longest","itertools.pairwise"].contains n = false) (hQ:Q () s):wpAny M A (letOwnedTupleGo tg (.ref it) u) Q E s:=by
 unfold letOwnedTupleGo
 cases tg <;> first
  | exact wpAny_pure hQ
  | (cases u <;> first
    | exact wpAny_pure hQ
    | (refine wpAny_bind (wpAny_load ho ?_)
       rw [hc,hd]
       show wpAny M A (if (["enumerate","zip","dict_itemiterator","dict_reverseitemiterator","odict_iterator","itertools.zip_longest","itertools.pairwise"].contains n && vs[0]? == some (rawInt _)) = true then _ else _) Q E s
       rw [if_neg (by intro h; rw [hn,Bool.false_and] at h; cases h)]
       exact wpAny_pure hQ))
def Itl (K:PySem.W.Frag) (a:Addr):It :=
 ⟨fun i H=>∃ xs x,SqL K H a xs /\ xs[i]? = some x,fun i H x H'=>H' = H /\ ∀ xs,SqL K H a xs -> xs[i]? = some x,fun i H=>∃ xs,SqL K H a xs /\ xs.length <= i⟩
def Itt (K:PySem.W.Frag) (a:Addr):It :=
 ⟨fun i H=>∃ xs x,SqT K H a xs /\ xs[i]? = some x,fun i H x H'=>H' = H /\ ∀ xs,SqT K H a xs -> xs[i]? = some x,fun i H=>∃ xs,SqT K H a xs /\ xs.length <= i⟩
def Itr (lo:Int) (n:Nat):It:=⟨fun i _=>i < n,fun i H x H'=>H' = H /\ x = .int (lo + i),fun i _=>n <= i⟩
theorem turn_list {P:Program} {w:World} {K:PySem.W.Frag} {tg:Expr} (a it:Addr):Turn P w K tg (Itl K a) [it] it (fun i h=>h.IsListIter it a i) where
 mem:=by simp
 obj:=fun i h st b hb=>by
  have e:b = it:=by simpa using hb
  subst e
  obtain ⟨o,e,c,d⟩:=st
  exact ⟨o,e,fun v z=>by rw [d] at z; cases z⟩
 keep:=fun i h h' st k=>st.at fun o e=>k it (by simp) o e
 item:=by
  intro X hP hw hK hc i pins s σ H E I hf st hg
  subst hP hw hK
  obtain ⟨xs,x,hq,hx⟩:=hg
  obtain ⟨its,rv,p,hz⟩:=I.list hq
  obtain ⟨u,hu,ru⟩:=rv.get hx
  obtain ⟨f0,f1,f2,f3,f4,f5⟩:=hf it (by simp)
  refine wpAny_pyNext_list_item st p.isList (x:=u) (by simpa using hu) fun h' st' sb=>?_
  have I1:Inv X pins σ H { s with heap:=h' }:=I.turned (t':=s.toks) (fun b o hb e=>(sb.2 b hb).trans e) f0 f1 f3 f4 f5
  obtain ⟨o,e,c,d⟩:=id st'
  exact ⟨u,rfl,go_of (s:={ s with heap:=h' }) e c d (by decide) ⟨x,H,I1,ru,⟨rfl,fun ys hy=>by rw [I.list_inj hy hq]; exact hx⟩,st',fun b hb=>(hf b hb).1⟩⟩
 done:=by
  intro X hP hw hK hc i pins s σ H E I hf st hg
  subst hP hw hK
  obtain ⟨xs,hq,hx⟩:=hg
  obtain ⟨its,rv,p,hz⟩:=I.list hq
  obtain ⟨f0,f1,f2,f3,f4,f5⟩:=hf it (by simp)
  have hl:=rv.length
  exact wpAny_pyNext_list_end (I.ok.hd hc) st p.isList (by simp; omega) fun h' eb=>⟨rfl,I.turned (t':=s.toks) (fun b o hb e=>eb b o hb e) f0 f1 f3 f4 f5⟩
 self:=fun _ _ _ _ _ st h=>wpAny_pyIter_listiter st h
theorem turn_tuple {P:Program} {w:World} {K:PySem.W.Frag} {tg:Expr} (a it:Addr):Turn P w K tg (Itt K a) [it] it (fun i h=>h.IsTupleIter it a i) where
 mem:=by simp
 obj:=fun i h st b hb=>by
  have e:b = it:=by simpa using hb
  subst e
  obtain ⟨o,e,c,d⟩:=st
  exact ⟨o,e,fun v z=>by rw [d] at z; cases z⟩
 keep:=fun i h h' st k=>st.at fun o e=>k it (by simp) o e
 item:=by
  intro X hP hw hK hc i pins s σ H E I hf st hg
  subst hP hw hK
  obtain ⟨xs,x,hq,hx⟩:=hg
  obtain ⟨its,rv,p,hz⟩:=I.tuple hq
  obtain ⟨u,hu,ru⟩:=rv.get hx
  obtain ⟨f0,f1,f2,f3,f4,f5⟩:=hf it (by simp)
  refine wpAny_pyNext_tuple_item st (show s.heap.IsTuple a its.toArray from p) (x:=u) (by simpa using hu) fun h' st' sb=>?_
  have I1:Inv X pins σ H { s with heap:=h' }:=I.turned (t':=s.toks) (fun b o hb e=>(sb.2 b hb).trans e) f0 f1 f3 f4 f5
  obtain ⟨o,e,c,d⟩:=id st'
  exact ⟨u,rfl,go_of (s:={ s with heap:=h' }) e c d (by decide) ⟨x,H,I1,ru,⟨rfl,fun ys hy=>by rw [I.tuple_inj hy hq]; exact hx⟩,st',fun b hb=>(hf b hb).1⟩⟩
 done:=by
  intro X hP hw hK hc i pins s σ H E I hf st hg
  subst hP hw hK
  obtain ⟨xs,hq,hx⟩:=hg
  obtain ⟨its,rv,p,hz⟩:=I.tuple hq
  obtain ⟨f0,f1,f2,f3,f4,f5⟩:=hf it (by simp)
  have hl:=rv.length
  exact wpAny_pyNext_tuple_end (I.ok.hd hc) st (show s.heap.IsTuple a its.toArray from p) (by simp; omega) fun h' eb=>⟨rfl,I.turned (t':=s.toks) (fun b o hb e=>eb b o hb e) f0 f1 f3 f4 f5⟩
 self:=fun _ _ _ _ _ st h=>wpAny_pyIter_tupleiter st h
theorem turn_range {P:Program} {w:World} {K:PySem.W.Frag} {tg:Expr} (it:Addr) (lo:Int) (n:Nat):Turn P w K tg (Itr lo n) [it] it (fun i h=>IsRangeIter h it (lo + (i:Nat) * 1) ((n:Int) - (i:Nat)) 1) where
 mem:=by simp
 obj:=fun i h st b hb=>by
  have e:b = it:=by simpa using hb
  subst e
  exact ⟨_,st,fun v z=>by
   have z':Data.fields _ = Data.cell v:=z
   cases z'⟩
 keep:=fun i h h' st k=>k it (by simp) _ st
 item:=by
  intro X hP hw hK hc i pins s σ H E I hf st hg
  subst hP hw hK
  obtain ⟨f0,f1,f2,f3,f4,f5⟩:=hf it (by simp)
  have W:=Walks.range (prog:=X.prog) (w:=X.w) (I.ok.hd hc) it lo 1 n
  refine W.item i s _ _ hg st fun v h' tk hv st' kk=>?_
  obtain ⟨t,rfl⟩:=hv
  have I1:Inv X pins σ H { s with heap:=h',toks:=tk }:=I.turned (fun b o hb e=>kk b o (by simpa using hb) e) f0 f1 f3 f4 f5
  refine ⟨_,rfl,go_of (s:={ s with heap:=h',toks:=tk }) (n:="range_iterator") st' rfl rfl (by decide) ⟨.int (lo + i),H,I1,⟨t,?_⟩,⟨rfl,rfl⟩,st',fun b hb=>(hf b hb).1⟩⟩
  rw [Int.mul_one]
 done:=by
  intro X hP hw hK hc i pins s σ H E I hf st hg
  subst hP hw hK
  obtain ⟨f0,f1,f2,f3,f4,f5⟩:=hf it (by simp)
  exact wpAny_pyNext_range_end (I.ok.hd hc) st (by have:n <= i:=hg; omega) fun h' eb=>⟨rfl,I.turned (t':=s.toks) (fun b o hb e=>eb b o hb e) f0 f1 f3 f4 f5⟩
 self:=fun _ _ _ _ _ st h=>wpAny_pyIter_rangeiter st h
end L2
namespace L2
open PySem PySem.Spec PyProof.Rows
section
variable {X:Cx} {tg:Expr}
def iList (K:PySem.W.Frag) (tl:TE):TI:=fun σ H R=>tl σ H fun x H1=>∃ a,x = .ref a /\ (∃ xs,SqL K H1 a xs) /\ R (Itl K a) H1
def iTup (K:PySem.W.Frag) (tl:TE):TI:=fun σ H R=>tl σ H fun x H1=>∃ a,x = .ref a /\ (∃ xs,SqT K H1 a xs) /\ R (Itt K a) H1
theorem x9 {l:Expr} {tl:TE} (hl:PE X l tl):PI X tg l (iList X.K tl):=by
 intro pins s σ H R I h
 refine thn (hl pins s σ H _ I h) fun v s1 ⟨x,H1,I1,r1,q1⟩=>?_
 obtain ⟨a,e,⟨xs,hq⟩,q⟩:=q1
 subst e
 cases r1
 obtain ⟨its,rv,p,hz⟩:=I1.list hq
 refine wpAny_pyIter_list p.isList ?_
 refine ⟨s1.heap.objs.size,[s1.heap.objs.size],_,_,H1,rfl,I1.kept (t':=s1.toks) fun b o e=>Heap.get?_push_of_some _ e,turn_list a _,⟨_,Heap.get?_push_size _ rfl,rfl,rfl⟩,fun b hb=>?_,q⟩
 have e:b = s1.heap.objs.size:=by simpa using hb
 subst e
 exact I1.fpOk (Nat.le_refl _) (I1.hok.fresh (Nat.le_refl _))
theorem qD {l:Expr} {tl:TE} (hl:PE X l tl):PI X tg l (iTup X.K tl):=by
 intro pins s σ H R I h
 refine thn (hl pins s σ H _ I h) fun v s1 ⟨x,H1,I1,r1,q1⟩=>?_
 obtain ⟨a,e,⟨xs,hq⟩,q⟩:=q1
 subst e
 cases r1
 obtain ⟨its,rv,p,hz⟩:=I1.tuple hq
 refine wpAny_pyIter_tuple (show s1.heap.IsTuple a its.toArray from p) ?_
 refine ⟨s1.heap.objs.size,[s1.heap.objs.size],_,_,H1,rfl,I1.kept (t':=s1.toks) fun b o e=>Heap.get?_push_of_some _ e,turn_tuple a _,⟨_,Heap.get?_push_size _ rfl,rfl,rfl⟩,fun b hb=>?_,q⟩
 have e:b = s1.heap.objs.size:=by simpa using hb
 subst e
 exact I1.fpOk (Nat.le_refl _) (I1.hok.fresh (Nat.le_refl _))
theorem range_it {pins:List (Addr × Obj)} {σ:St} {H:Hp} {s:Shared} {R:It -> Hp -> Prop} {E:Value -> Shared -> Prop} {lo hi:Int} {t u v:Tok} {tk:Nat} (I:Inv X pins σ H s) (h1:-(2 ^ 62) <= lo) (h2:lo < 2 ^ 62) (h3:-(2 ^ 62) <= hi) (h4:hi < 2 ^ 62)
  (q:R (Itr lo (hi - lo).toNat) H):wpAny (model X.prog X.w) X.A (pyIter (.ref s.heap.objs.size)) (PIE X pins σ tg R) E { s with heap:=s.heap.push { cls:=.type "range",data:=.fields #[.int lo t,.int hi u,.int 1 v] },toks:=tk }:=by
 refine wpAny_pyIter_range (IsRange.new ..) (small_one h1 h2 h3 h4) ?_
 have I1:Inv X pins σ H { s with heap:=s.heap.push { cls:=.type "range",data:=.fields #[.int lo t,.int hi u,.int 1 v] },toks:=tk }:=I.kept fun b o e=>Heap.get?_push_of_some _ e
 refine ⟨(s.heap.push { cls:=.type "range",data:=.fields #[.int lo t,.int hi u,.int 1 v] }).objs.size,[(s.heap.push { cls:=.type "range",data:=.fields #[.int lo t,.int hi u,.int 1 v] }).objs.size],_,_,H,rfl,
  I1.kept (t':=tk) fun b o e=>Heap.get?_push_of_some _ e,turn_range _ lo (hi - lo).toNat,?_,fun b hb=>?_,q⟩
 ·have e1:lo + ((0:Nat):Int) * 1 = lo:=by simp
  have e2:(((hi - lo).toNat:Nat):Int) - ((0:Nat):Int) = Builtin.Range.rangeSize lo hi 1:=by rw [rangeSize_one]; split <;> omega
  show IsRangeIter _ _ (lo + ((0:Nat):Int) * 1) ((((hi - lo).toNat:Nat):Int) - ((0:Nat):Int)) 1
  rw [e1,e2]
  exact Heap.get?_push_size _ rfl
 ·have e:b = (s.heap.push { cls:=.type "range",data:=.fields #[.int lo t,.int hi u,.int 1 v] }).objs.size:=by simpa using hb
  subst e
  exact I1.fpOk (Nat.le_refl _) (I1.hok.fresh (Nat.le_refl _))
def iRng1 (ta:TA):TI:=fun σ H R=>ta σ H fun vs H1=>∃ j:Int,vs = [.int j] /\ -(2 ^ 62) <= j /\ j < 2 ^ 62 /\ R (Itr 0 j.toNat) H1
theorem xJ {a:Expr} {ta:TA} {p pos:Pos} (hg:Gl X "range") (hm:X.mg "range" = none) (ha:PA X [a] ta) (hs:starEach [a] X.env = [(false,eval a X.env)]:=by rfl):PI X tg (.Call (.Name "range" p) [a] [] pos) (iRng1 ta):=by
 intro pins s σ H R I h
 refine Call_ (ld_blt I hg hm boot_range (PyProof.Rows.callWith_type1 (thn (ha pos pins s σ H _ I h) fun us s1 ⟨vs,H1,I1,r1,q1⟩=>?_) hs rfl))
 obtain ⟨j,e,q1,q2,q⟩:=q1
 subst e
 cases r1 with
 | cons r rr =>
  cases rr
  obtain ⟨t,rfl⟩:=r
  exact call_range_1 (range_it I1 (by omega) (by omega) q1 q2 (by simpa using q))
def tFor (wi:TI) (g:TG) (tb:TS):TS:=fun D σ H=>wi σ H fun J H1=>∃ W:Nat -> Nat -> St -> Hp -> Prop,(∃ m,W 0 m σ H1) /\ ∀ i m σ H,W i m σ H ->
 (J.stop i H /\ D.nx σ H) \/ (J.go i H /\ ∃ N:St -> Hp -> Prop,(∀ σ' H',N σ' H' -> ∃ m',m' < m /\ W (i + 1) m' σ' H') /\ ∀ x H',J.yld i H x H' -> g x σ H' fun σ2 H2=>tb { D with nx:=N,ct:=N,bk:=D.nx } σ2 H2)
def kB (fp:List Addr) (h:Heap):List (Addr × Obj):=fp.filterMap fun b=>(h.get? b).map fun o=>(b,o)
theorem xP {fp:List Addr} {h:Heap} {b:Addr} {o:Obj} (hb:b ∈ fp) (e:h.get? b = some o):(b,o) ∈ kB fp h:=List.mem_filterMap.mpr ⟨b,hb,by rw [e]; rfl⟩
theorem of_pinsAt {fp:List Addr} {h:Heap} {p:Addr × Obj} (hp:p ∈ kB fp h):p.1 ∈ fp /\ h.get? p.1 = some p.2:=by
 obtain ⟨b,hb,e⟩:=List.mem_filterMap.mp hp
 cases q:h.get? b with
 | none=>rw [q] at e; cases e
 | some o =>
  rw [q] at e
  have e':(b,o) = p:=Option.some.inj e
  subst e'
  exact ⟨hb,q⟩
theorem Inv.pinned {pins:List (Addr × Obj)} {σ:St} {H:Hp} {s:Shared} {fp:List Addr} (I:Inv X pins σ H s) (hf:∀ b ∈ fp,FpOk X pins H b) (ho:∀ b ∈ fp,∃ o,s.heap.get? b = some o /\ ∀ v,o.data ≠ .cell v):Inv X (pins ++ kB fp s.heap) σ H s :=
 I.pins_of fun p hp=>(List.mem_append.mp hp).elim (fun z=>I.pin p (List.mem_append_right _ z)) fun z=>by
  obtain ⟨hb,e⟩:=of_pinsAt z
  obtain ⟨f0,f1,f2,_⟩:=hf p.1 hb
  obtain ⟨o,e',d⟩:=ho p.1 hb
  rw [e] at e'; cases e'
  exact ⟨e,f0,f1,f2,d⟩
theorem Inv.unpinned {pins pl:List (Addr × Obj)} {σ:St} {H:Hp} {s:Shared} (I:Inv X (pins ++ pl) σ H s):Inv X pins σ H s:=I.pins_of fun p hp=>I.pin p (List.mem_append_right _ (List.mem_append_left _ hp))
theorem xN {iter:Expr} {body:List Stmt} {wi:TI} {g:TG} {tb:TS} {pos:Pos} (hp:PassesOwn (model X.prog X.w) X.A X.env X.xe) (hc:X.calm = true) (hi:PI X tg iter wi) (hg:PG X tg g) (hb:PSs X body tb)
  (hs:∀ x,foldedSetIterable iter X.env x = pure x:=by intro _; rfl):PS X (.For tg iter body [] pos) (tFor wi g tb):=by
 intro pins s σ H D I h
 refine wpAny_For (thn (hi pins s σ H _ I h) fun v s1 h1=>thn h1 fun itv s2 h2=>?_) hs
 obtain ⟨it,fp,tn,J,H2,e,I2,T,st2,f2,W,⟨m0,w0⟩,turn⟩:=h2
 subst e
 have stat:∀ {H':Hp},(∀ b ∈ fp,H' b = none) -> ∀ b ∈ fp,FpOk X pins H' b:=fun hn b hb=>⟨hn b hb,(f2 b hb).2⟩
 refine codeAny_forLoop_any (fun n s'=>∃ i σ' H',Inv X pins σ' H' s' /\ tn i s'.heap /\ (∀ b ∈ fp,H' b = none) /\ W i n σ' H') ?_ m0 ⟨0,σ,H2,I2,st2,fun b hb=>(f2 b hb).1,w0⟩
 rintro n s3 ⟨i,σ3,H3,I3,st3,fr3,w3⟩
 rcases turn i n σ3 H3 w3 with ⟨stop,qn⟩ | ⟨go,N,hN,step⟩
 ·refine wpAny_passesOwn hp (thn (T.done X rfl rfl rfl hc i pins s3 σ3 H3 X.xe I3 (stat fr3) st3 stop) fun r s4 ⟨hr,I4⟩=>?_)
  subst hr
  exact wpAny_execs_nil ⟨σ3,H3,I4,qn⟩
 ·refine wpAny_passesOwn hp (thn (T.item X rfl rfl rfl hc i pins s3 σ3 H3 X.xe I3 (stat fr3) st3 go) fun r s4 ⟨u,hr,h4⟩=>?_)
  subst hr
  refine wpAny_passesOwn hp (thn h4 fun _ s5 ⟨x,H5,I5,r5,y5,st5,fr5⟩=>?_)
  have I5':=I5.pinned (stat fr5) (T.obj _ _ st5)
  refine wpAny_passesOwn hp (thn (hg _ s5 σ3 H5 x u _ I5' r5 (step x H5 y5)) fun _ s6 ⟨σ6,H6,I6,q6⟩=>?_)
  refine wpAny_passesOwn hp (thn (hb _ s6 σ6 H6 _ I6 q6) fun f s7 q7=>?_)
  have again:∀ {σ7:St} {H7:Hp},Inv X (pins ++ kB fp s5.heap) σ7 H7 s7 -> N σ7 H7 -> ∃ m,m < n /\ ∃ i σ' H',Inv X pins σ' H' s7 /\ tn i s7.heap /\ (∀ b ∈ fp,H' b = none) /\ W i m σ' H':=fun {σ7 H7} I7 n7=>by
   obtain ⟨m',hm,w7⟩:=hN σ7 H7 n7
   refine ⟨m',hm,i + 1,σ7,H7,I7.unpinned,T.keep _ _ _ st5 fun b hb o e=>(I7.pin (b,o) (List.mem_append_right _ (List.mem_append_right _ (xP hb e)))).1,fun b hb=>?_,w7⟩
   obtain ⟨o,e,d⟩:=T.obj _ _ st5 b hb
   exact (I7.pin (b,o) (List.mem_append_right _ (List.mem_append_right _ (xP hb e)))).2.1
  cases f with
  | next=>obtain ⟨σ7,H7,I7,n7⟩:=q7; exact again I7 n7
  | cont=>obtain ⟨σ7,H7,I7,n7⟩:=q7; exact again I7 n7
  | brk=>obtain ⟨σ7,H7,I7,q7⟩:=q7; exact ⟨σ7,H7,I7.unpinned,q7⟩
  | ret v=>obtain ⟨x7,σ7,H7,I7,r7,q7⟩:=q7; exact ⟨x7,σ7,H7,I7.unpinned,r7,q7⟩
end
theorem for_list {K:PySem.W.Frag} {a:Addr} {xs:List V} {g:TG} {tb:TS} {D:Ends} {σ:St} {H:Hp} (Pv:Nat -> St -> Hp -> Prop) (h0:Pv 0 σ H) (hl:∀ i σ H,i <= xs.length -> Pv i σ H -> SqL K H a xs)
  (hs:∀ i x σ H,xs[i]? = some x -> Pv i σ H -> g x σ H fun σ2 H2=>tb { D with nx:=Pv (i + 1),ct:=Pv (i + 1),bk:=D.nx } σ2 H2) (hd:∀ σ H,Pv xs.length σ H -> D.nx σ H) :
  ∃ W:Nat -> Nat -> St -> Hp -> Prop,(∃ m,W 0 m σ H) /\ ∀ i m σ H,W i m σ H ->
   ((Itl K a).stop i H /\ D.nx σ H) \/ ((Itl K a).go i H /\ ∃ N:St -> Hp -> Prop,(∀ σ' H',N σ' H' -> ∃ m',m' < m /\ W (i + 1) m' σ' H') /\ ∀ x H',(Itl K a).yld i H x H' -> g x σ H' fun σ2 H2=>tb { D with nx:=N,ct:=N,bk:=D.nx } σ2 H2):=by
 refine ⟨fun i m σ H=>m = xs.length - i /\ i <= xs.length /\ Pv i σ H,⟨xs.length,by simp,Nat.zero_le _,h0⟩,?_⟩
 rintro i m σ H ⟨rfl,hi,p⟩
 have q:=hl i σ H hi p
 by_cases hlt:i < xs.length
 ·refine .inr ⟨⟨xs,xs[i],q,by simp [hlt]⟩,Pv (i + 1),fun σ' H' p'=>⟨xs.length - (i + 1),by omega,rfl,hlt,p'⟩,fun x H' y=>?_⟩
  obtain ⟨e,y⟩:=y
  subst e
  exact hs i x σ _ (y xs q) p
 ·have e:i = xs.length:=by omega
  subst e
  exact .inl ⟨⟨xs,q,Nat.le_refl _⟩,hd σ H p⟩
theorem jU {K:PySem.W.Frag} {a:Addr} {xs:List V} {g:TG} {tb:TS} {D:Ends} {σ:St} {H:Hp} (Pv:Nat -> St -> Hp -> Prop) (h0:Pv 0 σ H) (hl:∀ i σ H,i <= xs.length -> Pv i σ H -> SqT K H a xs)
  (hs:∀ i x σ H,xs[i]? = some x -> Pv i σ H -> g x σ H fun σ2 H2=>tb { D with nx:=Pv (i + 1),ct:=Pv (i + 1),bk:=D.nx } σ2 H2) (hd:∀ σ H,Pv xs.length σ H -> D.nx σ H) :
  ∃ W:Nat -> Nat -> St -> Hp -> Prop,(∃ m,W 0 m σ H) /\ ∀ i m σ H,W i m σ H ->
   ((Itt K a).stop i H /\ D.nx σ H) \/ ((Itt K a).go i H /\ ∃ N:St -> Hp -> Prop,(∀ σ' H',N σ' H' -> ∃ m',m' < m /\ W (i + 1) m' σ' H') /\ ∀ x H',(Itt K a).yld i H x H' -> g x σ H' fun σ2 H2=>tb { D with nx:=N,ct:=N,bk:=D.nx } σ2 H2):=by
 refine ⟨fun i m σ H=>m = xs.length - i /\ i <= xs.length /\ Pv i σ H,⟨xs.length,by simp,Nat.zero_le _,h0⟩,?_⟩
 rintro i m σ H ⟨rfl,hi,p⟩
 have q:=hl i σ H hi p
 by_cases hlt:i < xs.length
 ·refine .inr ⟨⟨xs,xs[i],q,by simp [hlt]⟩,Pv (i + 1),fun σ' H' p'=>⟨xs.length - (i + 1),by omega,rfl,hlt,p'⟩,fun x H' y=>?_⟩
  obtain ⟨e,y⟩:=y
  subst e
  exact hs i x σ _ (y xs q) p
 ·have e:i = xs.length:=by omega
  subst e
  exact .inl ⟨⟨xs,q,Nat.le_refl _⟩,hd σ H p⟩
theorem xQ {lo:Int} {n:Nat} {g:TG} {tb:TS} {D:Ends} {σ:St} {H:Hp} (Pv:Nat -> St -> Hp -> Prop) (h0:Pv 0 σ H)
  (hs:∀ i σ H,i < n -> Pv i σ H -> g (.int (lo + i)) σ H fun σ2 H2=>tb { D with nx:=Pv (i + 1),ct:=Pv (i + 1),bk:=D.nx } σ2 H2) (hd:∀ σ H,Pv n σ H -> D.nx σ H) :
  ∃ W:Nat -> Nat -> St -> Hp -> Prop,(∃ m,W 0 m σ H) /\ ∀ i m σ H,W i m σ H ->
   ((Itr lo n).stop i H /\ D.nx σ H) \/ ((Itr lo n).go i H /\ ∃ N:St -> Hp -> Prop,(∀ σ' H',N σ' H' -> ∃ m',m' < m /\ W (i + 1) m' σ' H') /\ ∀ x H',(Itr lo n).yld i H x H' -> g x σ H' fun σ2 H2=>tb { D with nx:=N,ct:=N,bk:=D.nx } σ2 H2):=by
 refine ⟨fun i m σ H=>m = n - i /\ i <= n /\ Pv i σ H,⟨n,by simp,Nat.zero_le _,h0⟩,?_⟩
 rintro i m σ H ⟨rfl,hi,p⟩
 by_cases hlt:i < n
 ·refine .inr ⟨hlt,Pv (i + 1),fun σ' H' p'=>⟨n - (i + 1),by omega,rfl,hlt,p'⟩,fun x H' y=>?_⟩
  obtain ⟨e,y⟩:=y
  subst e y
  exact hs i σ _ hlt p
 ·have e:i = n:=by omega
  subst e
  exact .inl ⟨Nat.le_refl _,hd σ H p⟩
theorem while_by {c:TT} {tb:TS} {D:Ends} {σ:St} {H:Hp} (Pv:St -> Hp -> Prop) (μ:St -> Hp -> Nat) (h0:Pv σ H)
  (hs:∀ σ H,Pv σ H -> c σ H fun b H1=>if b = true then tb { D with nx:=fun σ' H'=>Pv σ' H' /\ μ σ' H' < μ σ H,ct:=fun σ' H'=>Pv σ' H' /\ μ σ' H' < μ σ H,bk:=D.nx } σ H1 else D.nx σ H1)
  (mono:∀ σ H Q Q',(∀ b H1,Q b H1 -> Q' b H1) -> c σ H Q -> c σ H Q'):tWhile c tb D σ H:=by
 refine ⟨fun m σ H=>m = μ σ H /\ Pv σ H,⟨_,rfl,h0⟩,?_⟩
 rintro m σ H ⟨rfl,p⟩
 refine mono σ H _ _ (fun b H1 q=>?_) (hs σ H p)
 cases b with
 | true=>exact ⟨_,fun σ' H' ⟨p',l⟩=>⟨_,l,rfl,p'⟩,q⟩
 | false=>exact q
end L2
namespace L2
open PySem PySem.Spec PyProof.Rows
abbrev R2:=V -> V -> Hp -> VK -> Prop
def OpR (X:Cx) (f:Value -> Value -> Sem Value) (r:R2):Prop :=
 ∀ (pins:List (Addr × Obj)) (s:Shared) (σ:St) (H:Hp) (x y:V) (v u:Value) (Q:VK),Inv X pins σ H s -> RelV x v -> RelV y u -> r x y H Q ->
  wpAny (model X.prog X.w) X.A (f v u) (EP X pins σ Q) X.xe s
def UnR (X:Cx) (f:Value -> Sem Value) (r:V -> Hp -> VK -> Prop):Prop :=
 ∀ (pins:List (Addr × Obj)) (s:Shared) (σ:St) (H:Hp) (x:V) (v:Value) (Q:VK),Inv X pins σ H s -> RelV x v -> r x H Q ->
  wpAny (model X.prog X.w) X.A (f v) (EP X pins σ Q) X.xe s
def CallR (X:Cx) (f:Value) (r:List V -> Hp -> VK -> Prop):Prop :=
 ∀ (pins:List (Addr × Obj)) (s:Shared) (σ:St) (H:Hp) (xs:List V) (us:List Value) (Q:VK),Inv X pins σ H s -> Vals xs us -> r xs H Q ->
  wpAny (model X.prog X.w) X.A (call f us) (EP X pins σ Q) X.xe s
def TruR (X:Cx) (r:V -> Hp -> (Bool -> Hp -> Prop) -> Prop):Prop :=
 ∀ (pins:List (Addr × Obj)) (s:Shared) (σ:St) (H:Hp) (x:V) (v:Value) (Q:Bool -> Hp -> Prop),Inv X pins σ H s -> RelV x v -> r x H Q ->
  wpAny (model X.prog X.w) X.A (truthy v) (TP X pins σ Q) X.xe s
def tOp (r:R2) (ta tb:TE):TE:=fun σ H Q=>ta σ H fun x H1=>tb σ H1 fun y H2=>r x y H2 Q
def tUn (r:V -> Hp -> VK -> Prop) (ta:TE):TE:=fun σ H Q=>ta σ H fun x H1=>r x H1 Q
def rI (C:Int -> Int -> Prop) (g:Int -> Int -> V):R2:=fun x y H Q=>∃ i j,x = .int i /\ y = .int j /\ C i j /\ Q (g i j) H
def rI0 (g:Int -> Int -> V):R2:=fun x y H Q=>∃ i j,x = .int i /\ y = .int j /\ Q (g i j) H
def rU (g:Int -> V):V -> Hp -> VK -> Prop:=fun x H Q=>∃ i,x = .int i /\ Q (g i) H
section
variable {X:Cx} {a b c:Expr} {ta tb tc:TE} {pos:Pos}
theorem binT (ha:PE X a ta) (hb:PE X b tb) {pins:List (Addr × Obj)} {s:Shared} {σ:St} {H:Hp} {R:V -> V -> Hp -> Prop} (I:Inv X pins σ H s)
  (h:ta σ H fun x H1=>tb σ H1 fun y H2=>R x y H2) {Q:Value -> Shared -> Prop} {f:Value -> Value -> Sem Value}
  (hf:∀ v u s2 x y H2,Inv X pins σ H2 s2 -> RelV x v -> RelV y u -> R x y H2 -> wpAny (model X.prog X.w) X.A (f v u) Q X.xe s2) :
  wpAny (model X.prog X.w) X.A (eval a X.env) (fun v s₁=>wpAny (model X.prog X.w) X.A (eval b X.env) (fun u s₂=>wpAny (model X.prog X.w) X.A (f v u) Q X.xe s₂) X.xe s₁) X.xe s:=by
 refine thn (ha pins s σ H _ I h) fun v s1 ⟨x,H1,I1,r1,q1⟩=>?_
 refine thn (hb pins s1 σ H1 _ I1 q1) fun u s2 ⟨y,H2,I2,r2,q2⟩=>?_
 exact hf v u s2 x y H2 I2 r1 r2 q2
theorem z9 {op:Operator} {r:R2} (ho:OpR X (binaryOp op) r) (ha:PE X a ta) (hb:PE X b tb):PE X (.BinOp a op b pos) (tOp r ta tb):=by
 intro pins s σ H Q I h
 exact wpAny_BinOp (binT ha hb I h fun v u s2 x y H2 I2 rx ry q=>ho pins s2 σ H2 x y v u Q I2 rx ry q)
theorem pe_un {op:UnaryOp} {r:V -> Hp -> VK -> Prop} (ho:UnR X (unaryOp op) r) (ha:PE X a ta):PE X (.UnaryOp op a pos) (tUn r ta):=by
 intro pins s σ H Q I h
 exact UnaryOp_ (thn (ha pins s σ H _ I h) fun v s1 ⟨x,H1,I1,r1,q1⟩=>ho pins s1 σ H1 x v Q I1 r1 q1)
theorem opI {f:Value -> Value -> Sem Value} {C:Int -> Int -> Prop} {g:Int -> Int -> Int}
  (rule:∀ (i j:Int) (t u:Tok) (s:Shared) (Q:Value -> Shared -> Prop) (E:Value -> Shared -> Prop),C i j -> Q (.int (g i j) s.toks) { s with toks:=s.toks + 1 } -> wpAny (model X.prog X.w) X.A (f (.int i t) (.int j u)) Q E s) :
  OpR X f (rI C fun i j=>.int (g i j)):=by
 intro pins s σ H x y v u Q I rx ry h
 obtain ⟨i,j,rfl,rfl,hc,q⟩:=h
 obtain ⟨t,rfl⟩:=rx
 obtain ⟨t',rfl⟩:=ry
 exact rule i j t t' s _ _ hc ⟨.int (g i j),H,I.tok _,⟨_,rfl⟩,q⟩
theorem opI0 {f:Value -> Value -> Sem Value} {g:Int -> Int -> Int}
  (rule:∀ (i j:Int) (t u:Tok) (s:Shared) (Q:Value -> Shared -> Prop) (E:Value -> Shared -> Prop),Q (.int (g i j) s.toks) { s with toks:=s.toks + 1 } -> wpAny (model X.prog X.w) X.A (f (.int i t) (.int j u)) Q E s) :
  OpR X f (rI0 fun i j=>.int (g i j)):=by
 intro pins s σ H x y v u Q I rx ry h
 obtain ⟨i,j,rfl,rfl,q⟩:=h
 obtain ⟨t,rfl⟩:=rx
 obtain ⟨t',rfl⟩:=ry
 exact rule i j t t' s _ _ ⟨.int (g i j),H,I.tok _,⟨_,rfl⟩,q⟩
theorem opB0 {f:Value -> Value -> Sem Value} {g:Int -> Int -> Bool}
  (rule:∀ (i j:Int) (t u:Tok) (s:Shared) (Q:Value -> Shared -> Prop) (E:Value -> Shared -> Prop),Q (.bool (g i j)) s -> wpAny (model X.prog X.w) X.A (f (.int i t) (.int j u)) Q E s) :
  OpR X f (rI0 fun i j=>.bl (g i j)):=by
 intro pins s σ H x y v u Q I rx ry h
 obtain ⟨i,j,rfl,rfl,q⟩:=h
 obtain ⟨t,rfl⟩:=rx
 obtain ⟨t',rfl⟩:=ry
 exact rule i j t t' s _ _ ⟨.bl (g i j),H,I,rfl,q⟩
def CDiv (i j:Int):Prop:=0 < j /\ j < 1073741824
def CMul (i j:Int):Prop:=(-(2 ^ 64) < i /\ i < 2 ^ 64) \/ (-(2 ^ 64) < j /\ j < 2 ^ 64)
theorem CMul.ok {i j:Int} (h:CMul i j):IntMulOk i j:=by
 rcases h with ⟨h1,h2⟩ | ⟨h1,h2⟩
 ·exact .of_left (intBits_le_64 h1 h2)
 ·exact .of_right (intBits_le_64 h1 h2)
theorem q8:OpR X (binaryOp .Add) (rI0 fun i j=>.int (i + j)):=opI0 fun _ _ _ _ _ _ _ q=>add_int q
theorem op_sub:OpR X (binaryOp .Sub) (rI0 fun i j=>.int (i - j)):=opI0 fun _ _ _ _ _ _ _ q=>sub_int q
theorem op_mul:OpR X (binaryOp .Mult) (rI CMul fun i j=>.int (i * j)):=opI fun _ _ _ _ _ _ _ hc q=>mul_int q hc.ok
theorem qO:OpR X (binaryOp .FloorDiv) (rI CDiv fun i j=>.int (i / j)):=opI fun i j _ _ _ _ _ hc q=>by
 have h1:(0:Int) < j:=hc.1
 have h2:j < 1073741824:=hc.2
 exact floordiv_int (by omega) (by rw [Int.fdiv_eq_ediv_of_nonneg i (by omega)]; exact q) (.inl (PyProof.noPylong_small (by omega)))
theorem xS:OpR X (binaryOp .Mod) (rI (fun _ j=>0 < j) fun i j=>.int (i % j)):=opI fun i j _ _ _ _ _ hc q=>by
 have h1:(0:Int) < j:=hc
 exact mod_int' (by omega) (by rw [Int.fmod_eq_emod_of_nonneg i (by omega)]; exact q)
theorem unI {f:Value -> Sem Value} {g:Int -> Int}
  (rule:∀ (i:Int) (t:Tok) (s:Shared) (Q:Value -> Shared -> Prop) (E:Value -> Shared -> Prop),Q (.int (g i) s.toks) { s with toks:=s.toks + 1 } -> wpAny (model X.prog X.w) X.A (f (.int i t)) Q E s) :
  UnR X f (rU fun i=>.int (g i)):=by
 intro pins s σ H x v Q I rx h
 obtain ⟨i,rfl,q⟩:=h
 obtain ⟨t,rfl⟩:=rx
 exact rule i t s _ _ ⟨.int (g i),H,I.tok _,⟨_,rfl⟩,q⟩
theorem j8:UnR X (unaryOp .USub) (rU fun i=>.int (-i)):=unI fun _ _ _ _ _ q=>neg_int q
end
def scal:V -> V -> Bool
 | .non,.non=>true | .non,.int _=>true | .int _,.non=>true | .non,.bl _=>true | .bl _,.non=>true | .non,.str _=>true | .str _,.non=>true
 | .int _,.int _=>true | .bl _,.bl _=>true | .str _,.str _=>true | .byt _,.byt _=>true
 | .int _,.str _=>true | .str _,.int _=>true | .bl _,.str _=>true | .str _,.bl _=>true
 | _,_=>false
def rEq:R2:=fun x y H Q=>scal x y = true /\ Q (.bl (decide (x = y))) H
def rNe:R2:=fun x y H Q=>scal x y = true /\ Q (.bl (!decide (x = y))) H
theorem dec_int {i j:Int}:decide (V.int i = V.int j) = (i == j):=by
 rw [Bool.eq_iff_iff]
 simp
theorem dec_bl {i j:Bool}:decide (V.bl i = V.bl j) = (i == j):=by
 rw [Bool.eq_iff_iff]
 simp
theorem dec_str {i j:Str}:decide (V.str i = V.str j) = (i == j):=by
 rw [Bool.eq_iff_iff]
 simp
theorem dec_byt {i j:Array UInt8}:decide (V.byt i = V.byt j) = (i.toList == j.toList):=by
 rw [Bool.eq_iff_iff]
 cases i
 cases j
 simp
section
variable {X:Cx} {a b c:Expr} {ta tb tc:TE} {pos:Pos}
theorem yG {pins:List (Addr × Obj)} {σ:St} {H:Hp} {s:Shared} {Q:VK} {k k':Bool} (I:Inv X pins σ H s) (q:Q (.bl k) H) (e:k = k'):EP X pins σ Q (.bool k') s:=by
 subst e
 exact ⟨.bl k,H,I,rfl,q⟩
theorem xI:OpR X (compareOp .Eq) rEq:=by
 intro pins s σ H x y v u Q I rx ry h
 obtain ⟨hs,q⟩:=h
 cases x with
 | non =>
  cases rx
  cases y with
  | non=>cases ry; exact PySem.EqNone.eq_none_none (yG I q (by simp))
  | bl j=>cases ry; exact PySem.EqNone.eq_none_bool (yG I q (by simp))
  | int j=>obtain ⟨t',rfl⟩:=ry; exact PySem.EqNone.eq_none_int (yG I q (by simp))
  | str j=>obtain ⟨t',rfl⟩:=ry; exact PySem.EqNone.eq_none_str (yG I q (by simp))
  | _=>exact absurd (show false = true from hs) Bool.false_ne_true
 | bl i =>
  cases rx
  cases y with
  | non=>cases ry; exact PySem.EqNone.eq_bool_none (yG I q (by simp))
  | bl j=>cases ry; exact eq_bool (yG I q dec_bl)
  | str j=>obtain ⟨t',rfl⟩:=ry; exact PySem.EqMixed.eq_bool_str (yG I q (by simp))
  | _=>exact absurd (show false = true from hs) Bool.false_ne_true
 | int i =>
  obtain ⟨t,rfl⟩:=rx
  cases y with
  | non=>cases ry; exact PySem.EqNone.eq_int_none (yG I q (by simp))
  | int j=>obtain ⟨t',rfl⟩:=ry; exact eq_int (yG I q dec_int)
  | str j=>obtain ⟨t',rfl⟩:=ry; exact PySem.EqMixed.eq_int_str (yG I q (by simp))
  | _=>exact absurd (show false = true from hs) Bool.false_ne_true
 | str i =>
  obtain ⟨t,rfl⟩:=rx
  cases y with
  | non=>cases ry; exact PySem.EqNone.eq_str_none (yG I q (by simp))
  | bl j=>cases ry; exact PySem.EqMixed.eq_str_bool (yG I q (by simp))
  | int j=>obtain ⟨t',rfl⟩:=ry; exact PySem.EqMixed.eq_str_int (yG I q (by simp))
  | str j=>obtain ⟨t',rfl⟩:=ry; exact eq_str (yG I q dec_str)
  | _=>exact absurd (show false = true from hs) Bool.false_ne_true
 | byt i =>
  obtain ⟨t,rfl⟩:=rx
  cases y with
  | byt j=>obtain ⟨t',rfl⟩:=ry; exact PySem.W.eq_bytes (yG I q dec_byt)
  | _=>exact absurd (show false = true from hs) Bool.false_ne_true
 | _=>cases y <;> exact absurd (show false = true from hs) Bool.false_ne_true
theorem op_ne:OpR X (compareOp .NotEq) rNe:=by
 intro pins s σ H x y v u Q I rx ry h
 obtain ⟨hs,q⟩:=h
 cases x with
 | non =>
  cases rx
  cases y with
  | non=>cases ry; exact PySem.EqNone.ne_none_none (yG I q (by simp))
  | bl j=>cases ry; exact PySem.EqNone.ne_none_bool (yG I q (by simp))
  | int j=>obtain ⟨t',rfl⟩:=ry; exact PySem.EqNone.ne_none_int (yG I q (by simp))
  | str j=>obtain ⟨t',rfl⟩:=ry; exact PySem.EqNone.ne_none_str (yG I q (by simp))
  | _=>exact absurd (show false = true from hs) Bool.false_ne_true
 | bl i =>
  cases rx
  cases y with
  | non=>cases ry; exact PySem.EqNone.ne_bool_none (yG I q (by simp))
  | bl j=>cases ry; exact ne_bool (yG I q (congrArg not dec_bl))
  | str j=>obtain ⟨t',rfl⟩:=ry; exact PySem.EqMixed.ne_bool_str (yG I q (by simp))
  | _=>exact absurd (show false = true from hs) Bool.false_ne_true
 | int i =>
  obtain ⟨t,rfl⟩:=rx
  cases y with
  | non=>cases ry; exact PySem.EqNone.ne_int_none (yG I q (by simp))
  | int j=>obtain ⟨t',rfl⟩:=ry; exact ne_int (yG I q (congrArg not dec_int))
  | str j=>obtain ⟨t',rfl⟩:=ry; exact PySem.EqMixed.ne_int_str (yG I q (by simp))
  | _=>exact absurd (show false = true from hs) Bool.false_ne_true
 | str i =>
  obtain ⟨t,rfl⟩:=rx
  cases y with
  | non=>cases ry; exact PySem.EqNone.ne_str_none (yG I q (by simp))
  | bl j=>cases ry; exact PySem.EqMixed.ne_str_bool (yG I q (by simp))
  | int j=>obtain ⟨t',rfl⟩:=ry; exact PySem.EqMixed.ne_str_int (yG I q (by simp))
  | str j=>obtain ⟨t',rfl⟩:=ry; exact ne_str (yG I q (congrArg not dec_str))
  | _=>exact absurd (show false = true from hs) Bool.false_ne_true
 | byt i =>
  obtain ⟨t,rfl⟩:=rx
  cases y with
  | byt j=>obtain ⟨t',rfl⟩:=ry; exact PySem.W.ne_bytes (yG I q (congrArg not dec_byt))
  | _=>exact absurd (show false = true from hs) Bool.false_ne_true
 | _=>cases y <;> exact absurd (show false = true from hs) Bool.false_ne_true
theorem op_lt:OpR X (compareOp .Lt) (rI0 fun i j=>.bl (decide (i < j))):=opB0 fun _ _ _ _ _ _ _ q=>lt_int q
theorem op_le:OpR X (compareOp .LtE) (rI0 fun i j=>.bl (decide (i <= j))):=opB0 fun _ _ _ _ _ _ _ q=>le_int q
theorem op_gt:OpR X (compareOp .Gt) (rI0 fun i j=>.bl (decide (j < i))):=opB0 fun _ _ _ _ _ _ _ q=>gt_int q
theorem op_notN:OpR X (compareOp .IsNot) (fun x y H Q=>y = .non /\ Q (.bl (!decide (x = .non))) H):=by
 intro pins s σ H x y v u Q I rx ry h
 obtain ⟨rfl,q⟩:=h
 cases ry
 refine isnot_none_gen (yG I q ?_)
 cases x <;> first
  | (cases rx; rfl)
  | (obtain ⟨t,rfl⟩:=rx; rfl)
theorem zU (b:Expr) {op:CmpOp} (h:op ≠ .In:=by decide) (h2:op ≠ .NotIn:=by decide):behindInMarks op b = false:=by
 have e1:(op == CmpOp.In) = false:=by cases op <;> first | rfl | exact absurd rfl h
 have e2:(op == CmpOp.NotIn) = false:=by cases op <;> first | rfl | exact absurd rfl h2
 cases b <;> simp [behindInMarks,e1,e2]
theorem yI {op:CmpOp} {r:R2} (ho:OpR X (compareOp op) r) (ha:PE X a ta) (hb:PE X b tb) (hm:behindInMarks op b = false):PE X (.Compare a [op] [b] pos) (tOp r ta tb):=by
 intro pins s σ H Q I h
 exact wpAny_Compare1 (binT ha hb I h fun v u s2 x y H2 I2 rx ry q=>ho pins s2 σ H2 x y v u Q I2 rx ry q) hm
def tTest (t:TE):TT:=fun σ H Q=>t σ H fun x H'=>∃ k,x = .bl k /\ Q k H'
theorem zW {op:CmpOp} {r:R2} (ho:OpR X (compareOp op) r) (ha:PE X a ta) (hb:PE X b tb) (hm:behindInMarks op b = false):PT X (.Compare a [op] [b] pos) (tTest (tOp r ta tb)):=by
 intro pins s σ H Q I h
 refine wpAny_isTrue_Compare1 (thn (ha pins s σ H _ I h) fun v s1 ⟨x,H1,I1,r1,q1⟩=>thn (hb pins s1 σ H1 _ I1 q1) fun u s2 ⟨y,H2,I2,r2,q2⟩ =>
  thn (ho pins s2 σ H2 x y v u _ I2 r1 r2 q2) fun c s3 ⟨z,H3,I3,r3,k,e,q3⟩=>?_) hm
 subst e
 cases r3
 exact wpAny_truthy_bool ⟨H3,I3,q3⟩
def tChain (r r':R2) (ta tb tc:TE):TE:=fun σ H Q=>ta σ H fun x H1=>tb σ H1 fun y H2=>r x y H2 fun z H3=>∃ k,z = .bl k /\
 (if k = true then tc σ H3 fun w' H4=>r' y w' H4 Q else Q (.bl false) H3)
theorem pe_chain {op op':CmpOp} {r r':R2} (ho:OpR X (compareOp op) r) (ho':OpR X (compareOp op') r') (ha:PE X a ta) (hb:PE X b tb) (hc:PE X c tc)
  (hm:lastMarks [op,op'] [b,c] = false:=by with_unfolding_all rfl):PE X (.Compare a [op,op'] [b,c] pos) (tChain r r' ta tb tc):=by
 intro pins s σ H Q I h
 refine Compare_chain (thn (ha pins s σ H _ I h) fun v s1 ⟨x,H1,I1,r1,q1⟩=>chain_link (thn (hb pins s1 σ H1 _ I1 q1) fun u s2 ⟨y,H2,I2,r2,q2⟩ =>
  thn (ho pins s2 σ H2 x y v u _ I2 r1 r2 q2) fun d s3 ⟨z,H3,I3,r3,k,e,q3⟩=>?_)) hm
 subst e
 cases r3
 refine wpAny_truthy_bool ?_
 cases k with
 | false=>exact ite_ff ⟨.bl false,H3,I3,rfl,q3⟩
 | true=>exact ite_tt (chain_last (thn (hc pins s3 σ H3 _ I3 q3) fun w' s4 ⟨z',H4,I4,r4,q4⟩=>ho' pins s4 σ H4 y z' u w' Q I4 r2 r4 q4))
def TruV (K:PySem.W.Frag) (x:V) (H:Hp) (k:Bool):Prop :=
 match x with
 | .non=>k = false
 | .bl b=>k = b
 | .int i=>k = (i != 0)
 | .str y=>y.length <= sizeLine /\ k = ((y.length:Int) != 0)
 | .byt y=>y.size <= sizeLine /\ k = ((y.size:Int) != 0)
 | .ref p=>(∃ xs,SqL K H p xs /\ k = !xs.isEmpty) \/ (∃ xs,SqT K H p xs /\ k = !xs.isEmpty) \/ ∃ kvs,H p = some (.dK kvs) /\ k = !kvs.isEmpty
 | _=>False
theorem isEmpty_kv {κ:Type} {kvs:List (κ × V)} {vs:List (κ × Value)} (r:KV kvs vs):(!vs.isEmpty) = !kvs.isEmpty:=by
 cases r <;> rfl
theorem isEmpty_of {xs:List V} {its:List Value} (r:Vals xs its):(!its.toArray.isEmpty) = !xs.isEmpty:=by
 cases r <;> simp
theorem line63:(sizeLine:Nat) < 2 ^ 63:=by rw [sizeLine_eq]; decide
theorem tru_ok:TruR X (fun x H Q=>∃ k,TruV X.K x H k /\ Q k H):=by
 intro pins s σ H x v Q I rx h
 obtain ⟨k,e,q⟩:=h
 have hl:=line63
 have hs:sizeLine = 16777216:=sizeLine_eq
 cases x with
 | non =>
  cases rx
  have e':k = false:=e
  subst e'
  exact truthy_none ⟨H,I,q⟩
 | bl b =>
  cases rx
  have e':k = b:=e
  subst e'
  exact wpAny_truthy_bool ⟨H,I,q⟩
 | int i =>
  obtain ⟨t,rfl⟩:=rx
  have e':k = (i != 0):=e
  subst e'
  exact PySem.P.truthy_int ⟨H,I,q⟩
 | str y =>
  obtain ⟨t,rfl⟩:=rx
  obtain ⟨hy,e'⟩:y.length <= sizeLine /\ k = ((y.length:Int) != 0):=e
  subst e'
  exact PySem.P.truthy_str (by omega) ⟨H,I.tok _,q⟩
 | byt y =>
  obtain ⟨t,rfl⟩:=rx
  obtain ⟨hy,e'⟩:y.size <= sizeLine /\ k = ((y.size:Int) != 0):=e
  subst e'
  exact PySem.W.truthy_bytes (by omega) ⟨H,I.tok _,q⟩
 | ref p =>
  cases rx
  have e':(∃ xs,SqL X.K H p xs /\ k = !xs.isEmpty) \/ (∃ xs,SqT X.K H p xs /\ k = !xs.isEmpty) \/ ∃ kvs,H p = some (.dK kvs) /\ k = !kvs.isEmpty:=e
  rcases e' with ⟨xs,hx,e'⟩ | ⟨xs,hx,e'⟩ | ⟨kvs,hx,e'⟩
  ·subst e'
   obtain ⟨its,r,pl,hz⟩:=I.list hx
   have hlen:=r.length
   exact wpAny_truthy_list pl.isList (by simp only [List.size_toArray]; omega) ⟨H,I.tok _,by rw [isEmpty_of r]; exact q⟩
  ·subst e'
   obtain ⟨its,r,pl,hz⟩:=I.tuple hx
   have hlen:=r.length
   exact truthy_tuple pl (by simp only [List.size_toArray]; omega) ⟨H,I.tok _,by rw [isEmpty_of r]; exact q⟩
  ·subst e'
   obtain ⟨hz,hS,vs,r,m⟩:kvs.length <= sizeLine /\ (p == sysModules) = false /\ ∃ vs,KV kvs vs /\ s.heap.DictOf (yC X.prog X.w) p vs:=I.hok p _ hx
   have hlen:kvs.length = vs.length:=Paired.length r
   exact wpAny_truthy_dict hS m (by omega) ⟨H,I.tok _,by rw [isEmpty_kv r]; exact q⟩
 | _=>exact (show False from e).elim
theorem pt_truth (ha:PE X a ta) (he:∀ whole,isTrue a X.env whole = (do let v ← whole; standAt a.pos; holding [v] (truthy v))) :
  PT X a (fun σ H Q=>ta σ H fun x H'=>∃ k,TruV X.K x H' k /\ Q k H'):=by
 intro pins s σ H Q I h
 exact isTrue_plain (thn (ha pins s σ H _ I h) fun v s1 ⟨x,H1,I1,r1,q1⟩=>tru_ok pins s1 σ H1 x v Q I1 r1 q1) (he _)
theorem y8:OpR X (binaryOp .Add) (fun x y H Q=>∃ i j,x = .str i /\ y = .str j /\ i.length + j.length <= sizeLine /\ Q (.str (i ++ j)) H):=by
 intro pins s σ H x y v u Q I rx ry h
 obtain ⟨i,j,rfl,rfl,hz,q⟩:=h
 obtain ⟨t,rfl⟩:=rx
 obtain ⟨t',rfl⟩:=ry
 exact add_str (fun t' tk=>⟨.str (i ++ j),H,I.tok _,⟨_,rfl⟩,q⟩) hz
theorem vals1 {x:V} {us:List Value} (r:Vals [x] us):∃ u,us = [u] /\ RelV x u:=by
 cases r with
 | cons r1 r2=>cases r2; exact ⟨_,rfl,r1⟩
theorem vals2 {x y:V} {us:List Value} (r:Vals [x,y] us):∃ u w',us = [u,w'] /\ RelV x u /\ RelV y w':=by
 cases r with
 | cons r1 r2 =>
  cases r2 with
  | cons r3 r4=>cases r4; exact ⟨_,_,rfl,r1,r3⟩
theorem call_max2 (hc:X.calm = true):CallR X (.builtin "max") (fun xs H Q=>∃ i j,xs = [.int i,.int j] /\ Q (.int (if j > i then j else i)) H):=by
 intro pins s σ H xs us Q I r h
 obtain ⟨i,j,rfl,q⟩:=h
 obtain ⟨u,w',rfl,⟨t,rfl⟩,⟨t',rfl⟩⟩:=vals2 r
 refine max_two_ints (I.ok.hd hc) fun h' tk k=>⟨_,H,I.kept k,?_,q⟩
 by_cases hj:j > i
 ·rw [if_pos hj,if_pos hj]; exact ⟨_,rfl⟩
 ·rw [if_neg hj,if_neg hj]; exact ⟨_,rfl⟩
theorem call_int1:CallR X (.type "int") (fun xs H Q=>(∃ i,xs = [.int i] /\ Q (.int i) H) \/ ∃ k,xs = [.bl k] /\ Q (.int (if k then 1 else 0)) H):=by
 intro pins s σ H xs us Q I r h
 rcases h with ⟨i,rfl,q⟩ | ⟨k,rfl,q⟩
 ·obtain ⟨u,rfl,t,rfl⟩:=vals1 r
  exact call_int_int ⟨.int i,H,I,⟨_,rfl⟩,q⟩
 ·obtain ⟨u,rfl,r1⟩:=vals1 r
  cases r1
  exact call_int_bool ⟨.int (if k then 1 else 0),H,I.tok _,⟨_,rfl⟩,q⟩
theorem y7:CallR X (.type "str") (fun xs H Q=>∃ i,xs = [.int i] /\ i.natAbs.log2 < 1920 /\ Q (.str (toString i)) H):=by
 intro pins s σ H xs us Q I r h
 obtain ⟨i,rfl,hz,q⟩:=h
 obtain ⟨u,rfl,t,rfl⟩:=vals1 r
 exact PySem.P.str_of_int hz ⟨.str _,H,I.tok _,⟨_,rfl⟩,q⟩
theorem call_ord:CallR X (.builtin "ord") (fun xs H Q=>∃ x,xs = [.str x] /\ x.length = 1 /\ Q (.int (x.cps.getD 0 0:Nat)) H):=by
 intro pins s σ H xs us Q I r h
 obtain ⟨x,rfl,hz,q⟩:=h
 obtain ⟨u,rfl,t,rfl⟩:=vals1 r
 exact ord_of_one hz ⟨.int _,H,I.tok _,⟨_,rfl⟩,q⟩
end
end L2
namespace L2
open PySem PySem.Spec PyProof.Rows
structure ObjM (h:Heap) (x dx C:Addr) (mA:Str -> Option Value):Prop where
 obj:h.get? x = some (PySem.W.instObj C dx)
 ns:h.Ns1 dx mA
 ne:dx ≠ x
theorem lookIn_ns {h:Heap} {dx:Addr} {mA:Str -> Option Value} (n:h.Ns1 dx mA):∃ od,h.get? dx = some od /\ ∀ name,PySem.W.lookIn name od = some (mA name):=by
 obtain ⟨o,es,ep,ho,hd,hk,_,hm⟩:=n
 refine ⟨o,ho,fun name=>?_⟩
 have e:=hm name
 unfold nsFind findBy at e
 rw [← Array.find?_toList] at e
 unfold PySem.W.lookIn
 rw [hd]
 dsimp only
 split
 ·rename_i y q
  rw [q] at e
  exact congrArg some e
 ·rename_i q
  rw [q] at e
  have a:es.toList.any (·.refKey) = false:=by
   rw [List.any_eq_false]
   intro y hy
   obtain ⟨z,t,hkey⟩:=hk y (Array.mem_toList_iff.mp hy)
   simp [DictEntry.refKey,hkey]
  have a':¬ es.toList.any (·.refKey) = true:=by rw [a]; exact Bool.false_ne_true
  rw [if_neg a']
  exact congrArg some e
theorem ObjM.look {h:Heap} {x dx C:Addr} {mA:Str -> Option Value} (I:ObjM h x dx C mA):∃ od,PySem.W.InstAt h x (PySem.W.instObj C dx) C (some od) /\ ∀ name,PySem.W.lookIn name od = some (mA name) :=
 let ⟨od,ho,hl⟩:=lookIn_ns I.ns
 ⟨od,⟨I.obj,rfl,rfl,ho⟩,hl⟩
section
variable {prog:Program} {w:World} {A:Around} {E:Value -> Shared -> Prop} {s:Shared} {K:PySem.W.Frag} {x dx C f:Addr} {mA:Str -> Option Value} {name:Str} {v:Value}
theorem get_map {expr:Bool} {Q:Value -> Shared -> Prop} (X:K.In s.heap) (I:ObjM s.heap x dx C mA) (hg:PySem.W.plainGet K C name = true) (hh:PySem.W.hasDictIn K C = true)
  (ha:PySem.W.findIn K (.ref C) name = some none) (hv:mA name = some v) (hv':PySem.W.handedIn v = true) (h:Q v { s with toks:=s.toks + 1 }) :
  wpAny (model prog w) A (getAttr (.ref x) name expr) Q E s:=by
 obtain ⟨od,J,hl⟩:=I.look
 exact PySem.W.get_value X J (PySem.W.plainGet_of hg).1 (PySem.W.findObj_own hh ha rfl (by rw [hl,hv])) hv' h
theorem get_meth {pl:Sem Bool} {Q:Value × List Value -> Shared -> Prop} (X:K.In s.heap) (I:ObjM s.heap x dx C mA) (hg:PySem.W.plainGet K C name = true)
  (hf:PySem.W.findIn K (.ref C) name = some (some (.ref f))) (ht:PySem.W.isFn K (.ref f) = true) (hv:mA name = none) (h:Q (.ref f,[.ref x]) s) :
  wpAny (model prog w) A (getMethod (.ref x) name pl) Q E s:=by
 obtain ⟨od,J,hl⟩:=I.look
 exact PySem.W.method_fn X J (PySem.W.plainGet_of hg).1 (PySem.W.plainGet_of hg).2 hf (beq_iff_eq.mp ht) (by show (PySem.W.lookIn name od).map (·.isSome) = some false; rw [hl,hv]; rfl) h
theorem set_map {ns:List Str} {Q:Unit -> Shared -> Prop} (X:K.In s.heap) (I:ObjM s.heap x dx C mA)
  (hs:PySem.W.findIn K (.ref C) "__setattr__" = some (some (.builtin "object.__setattr__"))) (hp:PySem.W.plainOver K C = true) (ht:PySem.W.takerIn K C name = some none) (hh:PySem.W.hasDictIn K C = true)
  (hw:PySem.Within mA ns) (hsz:ns.length <= sizeLine)
  (h:∀ h',ObjM h' x dx C (fun y=>if y = name then some v else mA y) -> Heap.SameBut dx s.heap h' -> Q () { s with heap:=h',toks:=s.toks + 2 }) :
  wpAny (model prog w) A (setAttr (.ref x) name v) Q E s:=by
 obtain ⟨od,J,hl⟩:=I.look
 refine PySem.W.set_plain X J hs (PySem.W.osa_open (s:={ s with toks:=s.toks + 1 }) (r:=none) X J hp ht fun b=>?_)
 obtain ⟨cd,hc,hd'⟩:=PySem.W.any_some hh
 have hx:s.heap.get? x = some ⟨.ref C,some dx,.plain,#[]⟩:=I.obj
 refine wpAny_bind (wpAny_pure (wpAny_bind (wpAny_bind (wpAny_loadPart hx (wpAny_bind (PySem.W.Looks.here (s:={ s with toks:=s.toks + 1 }) (PySem.W.looks_clsIn X hc) ?_))))))
 rw [hd']
 refine wpAny_pure (a:=some dx) (wpAny_bind (wpAny_pure (wpAny_bind ?_)))
 refine wpAny_nsSet1 (s:={ s with toks:=s.toks + 1 }) I.ns fun h' hn2 hs2=>?_
 obtain ⟨oD,esD,epD,hoD,hdD,hcD⟩:=hn2.count (PySem.Within.cons name v hw)
 refine wpAny_bind (wpAny_lookBehind hoD (by rw [hdD]; exact pastItsLine_dict (Nat.le_trans hcD (by rw [List.length_cons]; omega))) ?_)
 exact wpAny_pure (h _ ⟨(hs2.2 _ (Ne.symm I.ne)).trans I.obj,hn2,I.ne⟩ hs2)
theorem make_map {R:Result -> Shared -> Prop} {vs:List Value} {kw:List (Str × Value)} (X:K.In s.heap) (hm:PySem.W.makesIn K C = true)
  (hi:PySem.W.findIn K (.ref C) "__init__" = some (some (.ref f))) (hf:PySem.W.typeIn K (.ref f) = some (.type "function"))
  (h:codeAny (model prog w) (A.under (.builtin "type.__call__" ⟨.ref C :: vs,kw⟩)) (.call (.ref f) ⟨.ref (s.heap.objs.size + 1) :: vs,kw⟩) (PySem.W.InitBack (s.heap.objs.size + 1) R)
   { s with heap:=(s.heap.push PySem.W.emptyDict).push (PySem.W.instObj C s.heap.objs.size) }) :
  codeAny (model prog w) A (.call (.ref C) ⟨vs,kw⟩) R s:=by
 obtain ⟨hh,g,d,t,os⟩:=s
 exact PySem.W.make_core (PySem.W.makes_of X hm) (PySem.W.looks_findIn X hi) (fun self=>PySem.W.bind_fn X self hf) (.inl rfl) h
end
def putF (f:Str) (v:V):List (Str × V) -> List (Str × V)
 | []=>[(f,v)]
 | (g,x) :: r=>if g = f then (g,v) :: r else (g,x) :: putF f v r
theorem lookup_putF (f g:Str) (v:V):∀ fs:List (Str × V),(putF f v fs).lookup g = if g = f then some v else fs.lookup g
 | []=>by
  show List.lookup g [(f,v)] = _
  by_cases h:g = f
  ·have hb:(g == f) = true:=beq_iff_eq.mpr h
   simp only [List.lookup,hb,if_pos h]
  ·have hb:(g == f) = false:=beq_eq_false_iff_ne.mpr h
   simp only [List.lookup,hb,if_neg h]
 | (k,x) :: r=>by
  have ih:=lookup_putF f g v r
  rw [show putF f v ((k,x) :: r) = (if k = f then (k,v) :: r else (k,x) :: putF f v r) from rfl]
  by_cases hk:k = f
  ·rw [if_pos hk]
   by_cases h:g = k
   ·have hb:(g == k) = true:=beq_iff_eq.mpr h
    simp only [List.lookup,hb,if_pos (h.trans hk)]
   ·have hb:(g == k) = false:=beq_eq_false_iff_ne.mpr h
    simp only [List.lookup,hb,if_neg (fun e:g = f=>h (e.trans hk.symm))]
  ·rw [if_neg hk]
   by_cases h:g = k
   ·have hb:(g == k) = true:=beq_iff_eq.mpr h
    simp only [List.lookup,hb,if_neg (fun e:g = f=>hk (h.symm.trans e))]
   ·have hb:(g == k) = false:=beq_eq_false_iff_ne.mpr h
    simp only [List.lookup,hb]
    exact ih
theorem keys_putF (f:Str) (v:V):∀ fs:List (Str × V),f ∈ (putF f v fs).map (·.1) /\ ∀ g,g ∈ fs.map (·.1) -> g ∈ (putF f v fs).map (·.1)
 | []=>⟨by simp [putF],fun g h=>by simp at h⟩
 | (k,x) :: r=>by
  obtain ⟨i1,i2⟩:=keys_putF f v r
  rw [show putF f v ((k,x) :: r) = (if k = f then (k,v) :: r else (k,x) :: putF f v r) from rfl]
  by_cases hk:k = f
  ·rw [if_pos hk]
   subst hk
   exact ⟨by simp,fun g h=>by simpa using h⟩
  ·rw [if_neg hk]
   refine ⟨?_,fun g h=>?_⟩
   ·rw [List.map_cons]
    exact List.mem_cons_of_mem _ i1
   ·rw [List.map_cons] at h ⊢
    rcases List.mem_cons.mp h with e | e
    ·exact List.mem_cons.mpr (.inl e)
    ·exact List.mem_cons_of_mem _ (i2 g e)
theorem length_putF (f:Str) (v:V):∀ fs:List (Str × V),(putF f v fs).length <= fs.length + 1
 | []=>by simp [putF]
 | (k,x) :: r=>by
  have ih:=length_putF f v r
  rw [show putF f v ((k,x) :: r) = (if k = f then (k,v) :: r else (k,x) :: putF f v r) from rfl]
  by_cases hk:k = f
  ·rw [if_pos hk,List.length_cons,List.length_cons]; omega
  ·rw [if_neg hk,List.length_cons,List.length_cons]; omega
theorem RelO.some_of {v:V} {o:Option Value} (r:RelO (some v) o):∃ u,o = some u /\ RelV v u:=by
 cases o with
 | none=>exact (show False from r).elim
 | some u=>exact ⟨u,rfl,r⟩
theorem RelO.none_of {o:Option Value} (r:RelO none o):o = none:=by
 cases o with
 | none=>rfl
 | some u=>exact (show False from r).elim
theorem handed_of {v:V} {u:Value} (r:RelV v u):PySem.W.handedIn u = true:=by
 cases v with
 | non=>cases (show u = Value.none from r); rfl
 | bl b=>cases (show u = Value.bool b from r); rfl
 | int i=>obtain ⟨t,e⟩:=(show ∃ t,u = Value.int i t from r); cases e; rfl
 | str x=>obtain ⟨t,e⟩:=(show ∃ t,u = Value.str x t from r); cases e; rfl
 | byt b=>obtain ⟨t,e⟩:=(show ∃ t,u = Value.bytes b t from r); cases e; rfl
 | flt b=>obtain ⟨t,e⟩:=(show ∃ t,u = Value.float b t from r); cases e; rfl
 | ref a=>cases (show u = Value.ref a from r); rfl
 | ty n=>cases (show u = Value.type n from r); rfl
section
variable {P:Program} {w:World} {H H':Hp} {h h':Heap} {a C dx:Addr} {fs fs':List (Str × V)}
theorem ins_get (hok:HOk P w H h) (e:H a = some (.ins C dx fs)):∃ mA,ObjM h a dx C mA /\ (∀ f,RelO (fs.lookup f) (mA f)) /\ PySem.Within mA (fs.map (·.1)) /\ fs.length <= 1000 /\ H dx = some (.own a):=by
 obtain ⟨d,z,ne,ob,mA,n,r,q⟩:=(show ObjOk P w H h a (.ins C dx fs) from hok a _ e)
 exact ⟨mA,⟨ob,n,ne⟩,r,q,z,d⟩
end
structure Cls (K:PySem.W.Frag) (C:Addr):Prop where
 pg:PySem.W.plainGet K C Str.empty = true
 hd:PySem.W.hasDictIn K C = true
 po:PySem.W.plainOver K C = true
 sa:PySem.W.findIn K (.ref C) "__setattr__" = some (some (.builtin "object.__setattr__"))
theorem Cls.get {K:PySem.W.Frag} {C:Addr} (c:Cls K C) (f:Str):PySem.W.plainGet K C f = true:=c.pg
def NoAttr (K:PySem.W.Frag) (C:Addr) (f:Str):Prop:=PySem.W.findIn K (.ref C) f = some none
theorem NoAttr.taker {K:PySem.W.Frag} {C:Addr} {f:Str} (n:NoAttr K C f):PySem.W.takerIn K C f = some none:=by
 unfold PySem.W.takerIn
 rw [show PySem.W.findIn K (.ref C) f = some none from n]
 rfl
structure Meth (K:PySem.W.Frag) (C:Addr) (m:Str) (f:Addr):Prop where
 at_:PySem.W.findIn K (.ref C) m = some (some (.ref f))
 fn:PySem.W.isFn K (.ref f) = true
 kp:PySem.W.keepIn K (.ref f) = true
section
variable {X:Cx} {pins:List (Addr × Obj)} {σ:St} {H:Hp} {s:Shared} {a C dx:Addr} {fs:List (Str × V)} {f:Str} {v:V} {A:Around} {E:Value -> Shared -> Prop}
theorem getattr_ok {b:Bool} {Q:Value -> Shared -> Prop} (I:Inv X pins σ H s) (e:H a = some (.ins C dx fs)) (c:Cls X.K C) (n:NoAttr X.K C f) (l:fs.lookup f = some v)
  (h:∀ u s',Inv X pins σ H s' -> RelV v u -> Q u s'):wpAny (model X.prog X.w) A (getAttr (.ref a) f b) Q E s:=by
 obtain ⟨mA,O,r,_,_,_⟩:=ins_get I.hok e
 obtain ⟨u,hu,ru⟩:=RelO.some_of (v:=v) (o:=mA f) (by rw [← l]; exact r f)
 exact get_map I.kIn O (c.get f) c.hd n hu (handed_of ru) (h u _ (I.tok _) ru)
theorem jZ {m:Str} {g:Addr} {pl:Sem Bool} {Q:Value × List Value -> Shared -> Prop} (I:Inv X pins σ H s) (e:H a = some (.ins C dx fs)) (c:Cls X.K C) (k:Meth X.K C m g) (l:fs.lookup m = none)
  (h:Q (.ref g,[.ref a]) s):wpAny (model X.prog X.w) A (getMethod (.ref a) m pl) Q E s:=by
 obtain ⟨mA,O,r,_,_,_⟩:=ins_get I.hok e
 have hn:mA m = none:=RelO.none_of (by rw [← l]; exact r m)
 exact get_meth I.kIn O (c.get m) k.at_ k.fn hn h
theorem setattr_ok {y:V} {u:Value} {Q:Unit -> Shared -> Prop} (I:Inv X pins σ H s) (e:H a = some (.ins C dx fs)) (c:Cls X.K C) (n:NoAttr X.K C f) (hl:fs.length < 1000) (ry:RelV y u)
  (h:∀ s',Inv X pins σ (upd H a (.ins C dx (putF f y fs))) s' -> Q () s'):wpAny (model X.prog X.w) A (setAttr (.ref a) f u) Q E s:=by
 obtain ⟨mA,O,r,wi,_,ho⟩:=ins_get I.hok e
 have hz:(fs.map (·.1)).length <= sizeLine:=by rw [List.length_map,sizeLine_eq]; omega
 refine set_map I.kIn O c.sa c.po n.taker c.hd wi hz fun h' O' sb=>h _ ?_
 have hd:∃ o,h'.get? dx = some o:=let ⟨o,_,_,e',_⟩:=O'.ns; ⟨o,e'⟩
 refine I.write (x:=a) (e:=dx) (by rw [e]; exact True.intro) (.inr ho) (fun b q hb z=>(sb.2 b hb).trans z) hd ?_
 refine ⟨by rw [zI O.ne]; exact ho,?_,O.ne,O'.obj,_,O'.ns,fun g=>?_,fun g hg=>?_⟩
 ·have:=length_putF f y fs; omega
 ·show RelO ((putF f y fs).lookup g) (if g = f then some u else mA g)
  rw [lookup_putF]
  by_cases q:g = f
  ·rw [if_pos q,if_pos q]; exact ry
  ·rw [if_neg q,if_neg q]; exact r g
 ·by_cases q:g = f
  ·rw [q]; exact (keys_putF f y fs).1
  ·refine (keys_putF f y fs).2 g (wi g fun z=>hg ?_)
   show (if g = f then some u else mA g) = none
   rw [if_neg q]; exact z
theorem Inv.made (I:Inv X pins σ H s):Inv X pins σ (upd (upd H s.heap.objs.size (.own (s.heap.objs.size + 1))) (s.heap.objs.size + 1) (.ins C s.heap.objs.size []))
  { s with heap:=(s.heap.push PySem.W.emptyDict).push (PySem.W.instObj C s.heap.objs.size) }:=by
 have e1:(s.heap.push PySem.W.emptyDict).get? s.heap.objs.size = some PySem.W.emptyDict:=Heap.get?_push_size s.heap rfl
 have e2:((s.heap.push PySem.W.emptyDict).push (PySem.W.instObj C s.heap.objs.size)).get? (s.heap.objs.size + 1) = some (PySem.W.instObj C s.heap.objs.size):=by
  have:=Heap.get?_push_size (s.heap.push PySem.W.emptyDict) (o:=PySem.W.instObj C s.heap.objs.size) rfl
  rwa [Heap.size_push] at this
 have e3:(s.heap.push PySem.W.emptyDict).Ns s.heap.objs.size (fun _=>none):=⟨PySem.W.emptyDict,#[],_,e1,rfl,(fun e he=>absurd he (by simp)),fun _=>rfl⟩
 have I1:=I.laid (a:=s.heap.objs.size) (o:=.own (s.heap.objs.size + 1)) (h':=s.heap.push PySem.W.emptyDict) (t':=s.toks) (fun b u q=>Heap.get?_push_of_some _ q) (Nat.le_refl _) ⟨_,e1⟩
 refine I1.laid (a:=s.heap.objs.size + 1) (o:=.ins C s.heap.objs.size []) (t':=s.toks) (fun b u q=>Heap.get?_push_of_some _ q) (Nat.le_of_eq (Heap.size_push _ _)) ?_
 have ne:s.heap.objs.size ≠ s.heap.objs.size + 1:=Nat.ne_of_lt (Nat.lt_succ_self _)
 refine ⟨by rw [zI ne,zD],Nat.zero_le _,ne,e2,fun _=>none,(Heap.Ns1.of_empty e3).at fun o q=>Heap.get?_push_of_some _ q,fun _=>True.intro,fun y hy=>absurd rfl hy⟩
theorem attr_of {prog:Program} {w:World} {env:Env} {e:Expr} {f:Str} {pos:Pos} {s:Shared} {Q:Value -> Shared -> Prop} (hb:attributeBase e f env (eval e env) = eval e env)
  (h:wpAny (model prog w) A (eval e env) (fun o s₁=>wpAny (model prog w) A (getAttr o f true) Q E s₁) E s):wpAny (model prog w) A (eval (.Attribute e f pos) env) Q E s :=
 Attribute_any_ h (by rw [arm_eval_Attribute,hb])
end
def tFld (K:PySem.W.Frag) (ta:TE) (f:Str):TE:=fun σ H Q=>ta σ H fun x H1=>∃ a C dx fs v,x = .ref a /\ H1 a = some (.ins C dx fs) /\ Cls K C /\ NoAttr K C f /\ fs.lookup f = some v /\ Q v H1
def sFld (K:PySem.W.Frag) (ta tv:TE) (f:Str):TS:=fun D σ H=>tv σ H fun y H1=>ta σ H1 fun x H2=>∃ a C dx fs,x = .ref a /\ H2 a = some (.ins C dx fs) /\ Cls K C /\ NoAttr K C f /\ fs.length < 1000 /\
 D.nx σ (upd H2 a (.ins C dx (putF f y fs)))
section
variable {X:Cx} {o e value:Expr} {f:Str} {pos pos' tpos:Pos} {ta tv:TE}
theorem qY (he:PE X e ta) (hb:attributeBase e f X.env (eval e X.env) = eval e X.env):PE X (.Attribute e f pos) (tFld X.K ta f):=by
 intro pins s σ H Q I h
 refine attr_of hb (thn (he pins s σ H _ I h) fun u s1 ⟨x,H1,I1,rx,a,C,dx,fs,v,ex,ea,c,n,l,q⟩=>?_)
 subst ex
 obtain rfl:u = Value.ref a:=rx
 exact getattr_ok I1 ea c n l fun u' s2 I2 ru=>⟨v,H1,I2,ru,q⟩
theorem ps_fld (ha:PE X o ta) (hv:PE X value tv) (hs:swapsWith value (some (.Attribute o f pos')) pos.line X.env = pure false):PS X (.Assign [.Attribute o f pos'] value pos) (sFld X.K ta tv f):=by
 intro pins s σ H D I h
 refine plainObj_wpAny_Assign_Attribute (thn (hv pins s σ H _ I h) fun u s1 ⟨y,H1,I1,ry,q⟩=>thn (ha pins s1 σ H1 _ I1 q) fun ov s2 ⟨x,H2,I2,rx,a,C,dx,fs,ex,ea,c,n,l,q2⟩=>?_) hs
 subst ex
 obtain rfl:ov = Value.ref a:=rx
 exact setattr_ok I2 ea c n l ry fun s3 I3=>⟨σ,_,I3,q2⟩
end
section
variable {X:Cx} {pins:List (Addr × Obj)} {σ:St} {H:Hp} {s:Shared} {A:Around} {E:Value -> Shared -> Prop} {Q:Value -> Shared -> Prop} {c:Value} {b:Bool}
inductive TyOf (K:PySem.W.Frag) (H:Hp):V -> Value -> Prop where
 | non:TyOf K H .non (.type "NoneType")
 | bl (x:Bool):TyOf K H (.bl x) (.type "bool")
 | int (i:Int):TyOf K H (.int i) (.type "int")
 | str (x:Str):TyOf K H (.str x) (.type "str")
 | flt (x:UInt64):TyOf K H (.flt x) (.type "float")
 | lst {a:Addr} {xs:List V} (e:H a = some (.lst xs)):TyOf K H (.ref a) (.type "list")
 | frz {a:Addr} {o:Obj} {xs:List V} (e:H a = some (.frz o (.lst xs))):TyOf K H (.ref a) (.type "list")
 | tup {a:Addr} {xs:List V} (e:H a = some (.tup xs)):TyOf K H (.ref a) (.type "tuple")
 | dK {a:Addr} {kvs:List (Key × V)} (e:H a = some (.dK kvs)):TyOf K H (.ref a) (.type "dict")
 | dT {a:Addr} {kvs:List (List Key × V)} (e:H a = some (.dT kvs)):TyOf K H (.ref a) (.type "dict")
 | ins {a C dx:Addr} {fs:List (Str × V)} (e:H a = some (.ins C dx fs)) (cl:Cls K C) (ha:PySem.W.findIn K (.ref C) "__class__" = some (some (.builtin "object.__class__")))
   (hn:PySem.W.specialIn K (.builtin "object.__class__") "__get__" = some (some (.builtin "getset_descriptor.__get__"))) (htk:PySem.W.takesIn K (.builtin "object.__class__") = some true)
   (hm:PySem.W.mroIn K C (.type "object") = some true):TyOf K H (.ref a) (.ref C)
theorem xY {x:V} {u t:Value} (I:Inv X pins σ H s) (rx:RelV x u) (ty:TyOf X.K H x t) (e:PySem.W.kitOne X.K t c = some b) (h:∀ tk,Q (.bool b) { s with toks:=tk }) :
  wpAny (model X.prog X.w) A (call (.builtin "isinstance") [u,c]) Q E s:=by
 cases ty with
 | non=>cases (show u = Value.none from rx); exact PySem.W.kia_one PySem.W.kitx_none I.kIn True.intro e (fun z=>nomatch z) h
 | bl y=>cases (show u = Value.bool y from rx); exact PySem.W.kia_one PySem.W.kitx_bool I.kIn True.intro e (fun z=>nomatch z) h
 | int i=>obtain ⟨t,q⟩:=(show ∃ t,u = Value.int i t from rx); cases q; exact PySem.W.kia_one PySem.W.kitx_int I.kIn True.intro e (fun z=>nomatch z) h
 | str y=>obtain ⟨t,q⟩:=(show ∃ t,u = Value.str y t from rx); cases q; exact PySem.W.kia_one PySem.W.kitx_str I.kIn True.intro e (fun z=>nomatch z) h
 | flt y=>obtain ⟨t,q⟩:=(show ∃ t,u = Value.float y t from rx); cases q; exact PySem.W.kia_one PySem.W.kitx_float I.kIn True.intro e (fun z=>nomatch z) h
 | @lst a xs ea =>
  cases (show u = Value.ref a from rx)
  obtain ⟨_,_,n,_,h1⟩:=(show ObjOk X.prog X.w H s.heap a (.lst xs) from I.hok a _ ea)
  exact PySem.W.kia_one PySem.W.kitx_list I.kIn ⟨_,h1,rfl⟩ e (fun z=>nomatch z) h
 | @frz a ob xs ea =>
  cases (show u = Value.ref a from rx)
  obtain ⟨_,_,_,n,_,h1⟩:=(show ObjOk X.prog X.w H s.heap a (.frz ob (.lst xs)) from I.hok a _ ea)
  exact PySem.W.kia_one PySem.W.kitx_list I.kIn ⟨_,h1,rfl⟩ e (fun z=>nomatch z) h
 | @tup a xs ea =>
  cases (show u = Value.ref a from rx)
  obtain ⟨_,_,_,p⟩:=(show ObjOk X.prog X.w H s.heap a (.tup xs) from I.hok a _ ea)
  obtain ⟨o,h1,h2,_⟩:=p
  exact PySem.W.kia_one PySem.W.kitx_tuple I.kIn ⟨o,h1,h2⟩ e (fun z=>nomatch z) h
 | @dK a kvs ea =>
  cases (show u = Value.ref a from rx)
  obtain ⟨_,_,vs,_,p⟩:=(show ObjOk X.prog X.w H s.heap a (.dK kvs) from I.hok a _ ea)
  obtain ⟨o,es,ep,h1,h2,_⟩:=p
  exact PySem.W.kia_one PySem.W.kitx_dict I.kIn ⟨o,h1,h2.1⟩ e (fun z=>nomatch z) h
 | @dT a kvs ea =>
  cases (show u = Value.ref a from rx)
  obtain ⟨_,_,xs,_,o,es,ep,h1,h2,_⟩:=(show ObjOk X.prog X.w H s.heap a (.dT kvs) from I.hok a _ ea)
  exact PySem.W.kia_one PySem.W.kitx_dict I.kIn ⟨o,h1,h2.1⟩ e (fun z=>nomatch z) h
 | @ins a C dx fs ea cl ha hn htk hm =>
  cases (show u = Value.ref a from rx)
  obtain ⟨mA,O,_⟩:=ins_get I.hok ea
  obtain ⟨od,J,_⟩:=O.look
  exact PySem.W.kia_one (PySem.W.kitx_own (cl.get _) cl.hd ha hn htk hm) I.kIn J e (fun z=>nomatch z) h
end
end L2
namespace L2
open PySem PySem.Spec PyProof.Rows
structure Room (k:Nat) (A:Around):Prop where
 hd:A.handled = none
 dp:A.depth + 3 * k + 5 < recursionLimit
 un:A.units + 16 * k + 200 < cLine
theorem Room.mono {j k:Nat} {A:Around} (r:Room k A) (h:j <= k):Room j A:=⟨r.hd,by have:=r.dp; omega,by have:=r.un; omega⟩
theorem Room.deeper {k:Nat} {A:Around} (r:Room (k + 1) A) (env:Env):Room k (A.deeper env) :=
 ⟨r.hd,by have:=r.dp; show A.depth + 1 + 3 * k + 5 < _; omega,by have:=r.un; show A.units + 3 + 16 * k + 200 < _; omega⟩
theorem make_depth {A:Around} {C:Addr} {us:List Value} {kw:List (Str × Value)}:(A.under (.builtin "type.__call__" ⟨.ref C :: us,kw⟩)).depth = A.depth + 1:=by
 first | rfl | simp [Around.under,Code.weight,Code.isCreation,Code.isGuard,Code.isCaller,Code.frames,Code.isFrame,guardIds]
theorem make_units {A:Around} {C:Addr} {us:List Value} {kw:List (Str × Value)}:(A.under (.builtin "type.__call__" ⟨.ref C :: us,kw⟩)).units = A.units + 1:=by
 first | rfl | simp [Around.under,Code.cUnits,Code.frames,Code.isFrame]
theorem Room.make {k:Nat} {A:Around} (r:Room (k + 1) A) (C:Addr) (us:List Value) (kw:List (Str × Value)):Room k (A.under (.builtin "type.__call__" ⟨.ref C :: us,kw⟩)) :=
 ⟨r.hd,by have:=r.dp; rw [make_depth]; omega,by have:=r.un; rw [make_units]; omega⟩
theorem Room.depth {k:Nat} {A:Around} (r:Room k A):A.depth < recursionLimit:=by have:=r.dp; omega
theorem Room.units {k:Nat} {A:Around} (r:Room k A):A.units + 64 < cLine:=by have:=r.un; omega
def tNil:TA:=fun _ H Q=>Q [] H
def tCons (ta:TE) (tr:TA):TA:=fun σ H Q=>ta σ H fun x H1=>tr σ H1 fun xs H2=>Q (x :: xs) H2
section
variable {X:Cx} {e:Expr} {es:List Expr} {te:TE} {t:TA} {pos:Pos}
theorem zB:PA X [] tNil:=fun _ _ _ _ H Q I h=>Calls.spliced_nil ⟨[],H,I,.nil,h⟩
theorem zA (ha:PE X e te) (hr:PA X es t) (hs:starEach (e :: es) X.env = (false,eval e X.env) :: starEach es X.env:=by rfl):PA X (e :: es) (tCons te t):=by
 intro pos pins s σ H Q I h
 rw [hs]
 show wpAny _ _ (spliced ((false,eval e X.env) :: backTo pos (starEach es X.env))) _ _ s
 refine Calls.spliced_cons (thn (ha pins s σ H _ I h) fun u s1 ⟨x,H1,I1,r1,q1⟩=>?_)
 exact thn (hr pos pins s1 σ H1 _ I1 q1) fun us s2 ⟨xs,H2,I2,r2,q2⟩=>⟨x :: xs,H2,I2,.cons r1 r2,q2⟩
def tTup (t:TA):TE:=fun σ H Q=>t σ H fun xs H1=>xs.length <= sizeLine /\ ∀ p,H1 p = none -> Q (.ref p) (upd H1 p (.tup xs))
def tLst (t:TA):TE:=fun σ H Q=>t σ H fun xs H1=>xs.length <= sizeLine /\ ∀ p,H1 p = none -> Q (.ref p) (upd H1 p (.lst xs))
theorem z8 {x1} (h:PA X es t):PE X (.Tuple es x1 pos) (tTup t):=by
 intro pins s σ H Q I hq
 refine wpAny_Tuple_spliced (thn (h pos pins s σ H _ I hq) fun us s1 ⟨xs,H1,I1,r,z,q⟩=>⟨by rw [← r.length]; exact z,?_⟩)
 have hf:H1 s1.heap.objs.size = none:=I1.hok.fresh (Nat.le_refl _)
 refine ⟨.ref s1.heap.objs.size,upd H1 s1.heap.objs.size (.tup xs),I1.laid (t':=s1.toks) (fun b u e=>Heap.get?_push_of_some _ e) (Nat.le_refl _) ?_,rfl,q _ hf⟩
 exact ⟨z,us,r,⟨_,Heap.get?_push_size _ rfl,rfl,_,rfl⟩⟩
theorem yW (h:PA X es t):PE X (.List es pos) (tLst t):=by
 intro pins s σ H Q I hq
 refine wpAny_List_spliced (thn (h pos pins s σ H _ I hq) fun us s1 ⟨xs,H1,I1,r,z,q⟩=>⟨by rw [← r.length]; exact z,?_⟩)
 have hf:H1 s1.heap.objs.size = none:=I1.hok.fresh (Nat.le_refl _)
 refine ⟨.ref s1.heap.objs.size,upd H1 s1.heap.objs.size (.lst xs),I1.laid (t':=s1.toks) (fun b u e=>Heap.get?_push_of_some _ e) (Nat.le_refl _) ?_,rfl,q _ hf⟩
 exact ⟨z,us,0,r,Heap.get?_push_size _ rfl⟩
end
abbrev Sp:=List V -> Hp -> VK -> XK -> Prop
abbrev CXT:=List Env -> Hp -> Shared -> XK -> Value -> Shared -> Prop
structure Env0 (P:Program) (w:World) (K:PySem.W.Frag) (mg:Str -> Option Value) (base:Heap) (A:Around) (outer:List Env) (s:Shared) (H:Hp):Prop where
 frames:A.frames = some outer
 mod:Mod K mg base
 bs:∀ b o,base.get? b = some o -> s.heap.get? b = some o /\ H b = none
 bsz:base.objs.size <= s.heap.objs.size
 funs:s.heap.FunFrames base outer
 frf:∀ b ∈ frs outer,H b = none
 hok:HOk P w H s.heap
 bare:AllBare s.gens
def CE (outer:List Env) (P:Program) (w:World) (H:Hp) (s:Shared) (Q:VK) (u:Value) (s':Shared):Prop :=
 ∃ v H',s'.os = s.os /\ AllBare s'.gens /\ Un (frs outer) [] H H' s.heap s'.heap /\ HOk P w H' s'.heap /\ RelV v u /\ Q v H'
def CR (CX:CXT) (outer:List Env) (P:Program) (w:World) (H:Hp) (s:Shared) (Q:VK) (E:XK) (r:Result) (s':Shared):Prop :=
 match r with
 | .ok (.ret u)=>CE outer P w H s Q u s'
 | .ok _=>False
 | .error e=>CX outer H s E e s'
structure FnOk (P:Program) (w:World) (K:PySem.W.Frag) (mg:Str -> Option Value) (base:Heap) (CX:CXT) (k:Nat) (f:Addr) (fd:FuncData) (ps:List Str) (sp:Sp):Prop where
 len:∀ vs H Q E,sp vs H Q E -> vs.length = ps.length
 run:∀ (A:Around) (outer:List Env) (s:Shared) (H:Hp) (args:Args) (us:List Value) (vs:List V) (Q:VK) (E:XK),Room k A -> Env0 P w K mg base A outer s H -> BindsTo s fd args (ps.zip us) -> Vals vs us -> sp vs H Q E ->
  codeAny (model P w) A (.call (.ref f) args) (CR CX outer P w H s Q E) s
theorem Env0.make {P:Program} {w:World} {K:PySem.W.Frag} {mg:Str -> Option Value} {base:Heap} {A:Around} {outer:List Env} {s:Shared} {H:Hp} (e:Env0 P w K mg base A outer s H) (C:Addr) (us:List Value) (kw:List (Str × Value)) :
  Env0 P w K mg base (A.under (.builtin "type.__call__" ⟨.ref C :: us,kw⟩)) outer s H:=⟨by first | exact e.frames | (simpa [Around.under,Code.envs,Code.isFrame,pushEnvs] using e.frames),e.mod,e.bs,e.bsz,e.funs,e.frf,e.hok,e.bare⟩
section
variable {X:Cx} {pins:List (Addr × Obj)} {σ:St} {H:Hp} {s s':Shared}
theorem Inv.env0 (I:Inv X pins σ H s):Env0 X.prog X.w X.K X.mg X.base X.A X.stack s H :=
 ⟨I.ok.frames,I.ok.mod,I.bs,Nat.le_trans I.ok.bsz I.sz,I.stack,I.stkFree,I.hok,I.bare⟩
theorem Inv.after {Q:VK} {u:Value} (I:Inv X pins σ H s) (h:CE X.stack X.prog X.w H s Q u s'):EP X pins σ Q u s':=by
 obtain ⟨v,H',os,bare,un,hok,r,q⟩:=h
 obtain ⟨hh,g,d,t,os'⟩:=s'
 obtain rfl:os' = s.os:=os
 exact ⟨v,H',I.call (h':=hh) (g':=g) (d':=d) (t':=t) (ch:=[]) un hok bare (fun b z=>absurd z (by simp)),r,q⟩
end
def tCall (sp:Sp) (dvs:List V) (E:XK) (t:TA):TE:=fun σ H Q=>t σ H fun vs H1=>sp (vs ++ dvs) H1 Q E
def tMeth (C:Addr) (m:Str) (sp:Sp) (dvs:List V) (E:XK) (ta:TE) (t:TA):TE:=fun σ H Q=>ta σ H fun x H1=>∃ a dx fs,x = .ref a /\ H1 a = some (.ins C dx fs) /\ fs.lookup m = none /\
 t σ H1 fun vs H2=>sp (x :: (vs ++ dvs)) H2 Q E
def tMake (C:Addr) (sp:Sp) (dvs:List V) (E:XK) (t:TA):TE:=fun σ H Q=>t σ H fun vs H1=>∀ x dx,H1 x = none -> H1 dx = none -> dx ≠ x ->
 sp (.ref x :: (vs ++ dvs)) (upd (upd H1 dx (.own x)) x (.ins C dx [])) (fun v H2=>v = .non /\ Q (.ref x) H2) E
def Binds (K:PySem.W.Frag) (fd:FuncData) (ps:List Str) (ds:List Value):Prop :=
 ∀ (s:Shared) (us:List Value),K.In s.heap -> (us ++ ds).length = ps.length -> BindsTo s fd ⟨us,[]⟩ (ps.zip (us ++ ds))
theorem Binds.all {K:PySem.W.Frag} {fd:FuncData} {ps:List Str} (h:∀ us:List Value,us.length = ps.length -> bindArgs fd ⟨us,[]⟩ = pure (ps.zip us)):Binds K fd ps []:=fun s us _ hl=>by
 rw [List.append_nil] at hl ⊢
 exact .of_eq (h us hl)
def kC (CX:CXT) (X:Cx) (E:XK):Prop:=∀ (pins:List (Addr × Obj)) (σ:St) (H:Hp) (s:Shared) (e:Value) (s':Shared),Inv X pins σ H s -> CX X.stack H s E e s' -> X.xe e s'
section
variable {X:Cx} {CX:CXT} {k:Nat} {f C:Addr} {fd:FuncData} {ps:List Str} {sp:Sp} {dvs:List V} {ds:List Value} {E:XK} {x m:Str} {p pos apos:Pos} {e o:Expr} {es:List Expr} {ta:TE} {t:TA}
theorem run_fn {pins:List (Addr × Obj)} {σ:St} {H:Hp} {s:Shared} {Q:VK} {us:List Value} {vs:List V} (F:FnOk X.prog X.w X.K X.mg X.base CX k f fd ps sp) (hr:Room k X.A) (hb:Binds X.K fd ps ds) (hd:Vals dvs ds) (hx:kC CX X E)
  (I:Inv X pins σ H s) (r:Vals vs us) (h:sp (vs ++ dvs) H Q E):wpAny (model X.prog X.w) X.A (call (.ref f) us) (EP X pins σ Q) X.xe s:=by
 have r2:Vals (vs ++ dvs) (us ++ ds):=r.append hd
 have hl:(us ++ ds).length = ps.length:=by rw [← r2.length]; exact F.len _ _ _ _ h
 refine wpAny_call (codeAny_mono (F.run X.A X.stack s H ⟨us,[]⟩ (us ++ ds) (vs ++ dvs) Q E hr I.env0 (hb s us I.kIn hl) r2 h) fun r s' hq=>?_)
 cases r with
 | error e=>exact hx pins σ H s e s' I hq
 | ok fl =>
  cases fl with
  | ret u=>exact I.after hq
  | next=>exact False.elim hq
  | brk=>exact False.elim hq
  | cont=>exact False.elim hq
theorem pe_call (F:FnOk X.prog X.w X.K X.mg X.base CX k f fd ps sp) (hr:Room k X.A) (hg:Gl X x) (hm:X.mg x = some (.ref f)) (hk:PySem.W.keepIn X.K (.ref f) = true) (hb:Binds X.K fd ps ds) (hd:Vals dvs ds) (hx:kC CX X E)
  (ha:PA X (e :: es) t) (hdb:(x == ("__debug__":Str)) = false:=by decide) (he:starEach (e :: es) X.env = (false,eval e X.env) :: starEach es X.env:=by rfl) (hpl:(backTo pos (starEach es X.env)).any (·.1) = false:=by rfl) :
  PE X (.Call (.Name x p) (e :: es) [] pos) (tCall sp dvs E t):=by
 intro pins s σ H Q I h
 refine wpAny_Call_Name_kw (qI I hg hm ?_ hdb)
 refine PySem.W.callWith_K (h₀:=X.base) I.ok.mod.kin hk (thn (ha pos pins s σ H _ I h) fun us s1 ⟨vs,H1,I1,r,q⟩=>⟨I1.kIn,?_⟩) he hpl
 exact run_fn F hr hb hd hx I1 r q
theorem pe_call0 (F:FnOk X.prog X.w X.K X.mg X.base CX k f fd ps sp) (hr:Room k X.A) (hg:Gl X x) (hm:X.mg x = some (.ref f)) (hk:PySem.W.keepIn X.K (.ref f) = true) (hb:Binds X.K fd ps ds) (hd:Vals dvs ds) (hx:kC CX X E)
  (hdb:(x == ("__debug__":Str)) = false:=by decide):PE X (.Call (.Name x p) [] [] pos) (tCall sp dvs E tNil):=by
 intro pins s σ H Q I h
 refine wpAny_Call_Name_kw (qI I hg hm ?_ hdb)
 exact PySem.W.callWith_K0 I.kIn hk (run_fn (us:=[]) F hr hb hd hx I .nil h)
theorem pe_meth {pl:Sem Bool} (he:PE X o ta) (c:Cls X.K C) (hm:Meth X.K C m f) (F:FnOk X.prog X.w X.K X.mg X.base CX k f fd ps sp) (hr:Room k X.A) (hb:Binds X.K fd ps ds) (hd:Vals dvs ds) (hx:kC CX X E) (ha:PA X (e :: es) t)
  (hst:starEach (e :: es) X.env = (false,eval e X.env) :: starEach es X.env:=by rfl) (hpl:(backTo pos (starEach es X.env)).any (·.1) = false:=by rfl)
  (ht:eval (.Call (.Attribute o m apos) (e :: es) [] pos) X.env = (do
   let ov ← eval o X.env
   standAt apos.atName
   let (f,first) ← holding [ov] (getMethod ov m pl)
   callWith pos f first (backTo pos (starEach (e :: es) X.env)) (backToKw pos (keywordEach [] X.env))):=by rfl) :
  PE X (.Call (.Attribute o m apos) (e :: es) [] pos) (tMeth C m sp dvs E ta t):=by
 intro pins s σ H Q I h
 refine PySem.W.methodCall_KW (pl:=pl) (thn (he pins s σ H _ I h) fun u s1 ⟨x,H1,I1,rx,a,dx,fs,ex,ea,l,q⟩=>?_) ht
 subst ex
 obtain rfl:u = Value.ref a:=rx
 refine jZ I1 ea c hm l ?_
 refine PySem.W.callWith_K (first:=[.ref a]) (h₀:=X.base) I.ok.mod.kin hm.kp (thn (ha pos pins s1 σ H1 _ I1 q) fun us s2 ⟨vs,H2,I2,r,q2⟩=>⟨I2.kIn,?_⟩) hst hpl
 exact run_fn (us:=.ref a :: us) (vs:=.ref a :: vs) F hr hb hd hx I2 (.cons rfl r) q2
theorem pe_meth0 {pl:Sem Bool} (he:PE X o ta) (c:Cls X.K C) (hm:Meth X.K C m f) (F:FnOk X.prog X.w X.K X.mg X.base CX k f fd ps sp) (hr:Room k X.A) (hb:Binds X.K fd ps ds) (hd:Vals dvs ds) (hx:kC CX X E)
  (ht:eval (.Call (.Attribute o m apos) [] [] pos) X.env = (do
   let ov ← eval o X.env
   standAt apos.atName
   let (f,first) ← holding [ov] (getMethod ov m pl)
   callWith pos f first (backTo pos (starEach [] X.env)) (backToKw pos (keywordEach [] X.env))):=by rfl) :
  PE X (.Call (.Attribute o m apos) [] [] pos) (tMeth C m sp dvs E ta tNil):=by
 intro pins s σ H Q I h
 refine PySem.W.methodCall_KW (pl:=pl) (thn (he pins s σ H _ I h) fun u s1 ⟨x,H1,I1,rx,a,dx,fs,ex,ea,l,q⟩=>?_) ht
 subst ex
 obtain rfl:u = Value.ref a:=rx
 refine jZ I1 ea c hm l ?_
 exact PySem.W.callWith_K0 (first:=[.ref a]) I1.kIn hm.kp (run_fn (us:=[.ref a]) (vs:=[.ref a]) F hr hb hd hx I1 (.cons rfl .nil) q)
structure Mk (K:PySem.W.Frag) (C f:Addr):Prop where
 makes:PySem.W.makesIn K C = true
 init:PySem.W.findIn K (.ref C) "__init__" = some (some (.ref f))
 fn:PySem.W.isFn K (.ref f) = true
 kp:PySem.W.keepIn K (.ref C) = true
theorem run_make {pins:List (Addr × Obj)} {σ:St} {H:Hp} {s:Shared} {Q:VK} {us:List Value} {vs:List V} (M:Mk X.K C f) (F:FnOk X.prog X.w X.K X.mg X.base CX k f fd ps sp) (hr:Room (k + 1) X.A) (hb:Binds X.K fd ps ds) (hd:Vals dvs ds)
  (hx:kC CX X E) (I:Inv X pins σ H s) (r:Vals vs us)
  (h:∀ x dx,H x = none -> H dx = none -> dx ≠ x -> sp (.ref x :: (vs ++ dvs)) (upd (upd H dx (.own x)) x (.ins C dx [])) (fun v H2=>v = .non /\ Q (.ref x) H2) E) :
  wpAny (model X.prog X.w) X.A (call (.ref C) us) (EP X pins σ Q) X.xe s:=by
 have hq:=h (s.heap.objs.size + 1) s.heap.objs.size (I.hok.fresh (Nat.le_succ _)) (I.hok.fresh (Nat.le_refl _)) (Nat.ne_of_lt (Nat.lt_succ_self _))
 have I2:=Inv.made (C:=C) I
 have r2:Vals (V.ref (s.heap.objs.size + 1) :: (vs ++ dvs)) (Value.ref (s.heap.objs.size + 1) :: (us ++ ds)):=.cons rfl (r.append hd)
 have hl:(Value.ref (s.heap.objs.size + 1) :: us ++ ds).length = ps.length:=by
  have e:=r2.length
  rw [F.len _ _ _ _ hq] at e
  exact e.symm
 refine wpAny_call (make_map (f:=f) I.kIn M.makes M.init (beq_iff_eq.mp M.fn) (codeAny_mono (F.run _ X.stack _ _ ⟨Value.ref (s.heap.objs.size + 1) :: us,[]⟩ (Value.ref (s.heap.objs.size + 1) :: (us ++ ds)) _ _ E (hr.make C us [])
  (I2.env0.make C us []) (hb _ (Value.ref (s.heap.objs.size + 1) :: us) I2.kIn hl) r2 hq) fun r s' hq'=>?_))
 cases r with
 | error e=>exact hx pins σ _ _ e s' I2 hq'
 | ok fl =>
  cases fl with
  | ret u =>
   obtain ⟨v,H',I3,rv,ev,q3⟩:=I2.after hq'
   subst ev
   exact ⟨rv,⟨V.ref (s.heap.objs.size + 1),H',I3,rfl,q3⟩⟩
  | next=>exact False.elim hq'
  | brk=>exact False.elim hq'
  | cont=>exact False.elim hq'
theorem pe_make (M:Mk X.K C f) (F:FnOk X.prog X.w X.K X.mg X.base CX k f fd ps sp) (hr:Room (k + 1) X.A) (hg:Gl X x) (hm:X.mg x = some (.ref C)) (hb:Binds X.K fd ps ds) (hd:Vals dvs ds) (hx:kC CX X E)
  (ha:PA X (e :: es) t) (hdb:(x == ("__debug__":Str)) = false:=by decide) (he:starEach (e :: es) X.env = (false,eval e X.env) :: starEach es X.env:=by rfl) (hpl:(backTo pos (starEach es X.env)).any (·.1) = false:=by rfl) :
  PE X (.Call (.Name x p) (e :: es) [] pos) (tMake C sp dvs E t):=by
 intro pins s σ H Q I h
 refine wpAny_Call_Name_kw (qI I hg hm ?_ hdb)
 refine PySem.W.callWith_K (h₀:=X.base) I.ok.mod.kin M.kp (thn (ha pos pins s σ H _ I h) fun us s1 ⟨vs,H1,I1,r,q⟩=>⟨I1.kIn,?_⟩) he hpl
 exact run_make M F hr hb hd hx I1 r q
end
structure FnScope (N P:List Str) (sc:Scope):Prop where
 kind:sc.kind = .function
 co:sc.isCoroutine = false
 gen:sc.isGenerator = false
 nd:N.Nodup
 pre:N.take P.length = P
 par:∀ x ∈ P,sc.names.lookup x = some .local \/ sc.names.lookup x = some .cell
 nofree:∀ y ∈ sc.names,y.2 ≠ .free
theorem bindL_out {kindOf:Str -> Option NameKind} {x:Str}:∀ {binds:List (Str × Value)} {m:Str -> Option Value},(∀ v,(x,v) ∉ binds) -> bindL kindOf binds m x = m x
 | [],_,_=>rfl
 | (n,v) :: r,m,h=>by
  unfold bindL
  rw [bindL_out fun w hw=>h w (List.mem_cons_of_mem _ hw)]
  split
  ·have:x ≠ n:=by rintro rfl; exact h v List.mem_cons_self
   simp [this]
  ·rfl
theorem bindC_out {kindOf:Str -> Option NameKind} {x:Str}:∀ {binds:List (Str × Value)} {m:Str -> Option Value},(∀ v,(x,v) ∉ binds) -> bindC kindOf binds m x = m x
 | [],_,_=>rfl
 | (n,v) :: r,m,h=>by
  unfold bindC
  rw [bindC_out fun w hw=>h w (List.mem_cons_of_mem _ hw)]
  split
  ·rfl
  ·have:x ≠ n:=by rintro rfl; exact h v List.mem_cons_self
   simp [this]
theorem bindL_get {kindOf:Str -> Option NameKind} {x:Str} {v:Value}:∀ {P:List Str} {vs:List Value} {i:Nat} {m:Str -> Option Value},P.Nodup -> P[i]? = some x -> vs[i]? = some v -> kindOf x = some .local ->
  bindL kindOf (P.zip vs) m x = some v
 | [],_,_,_,_,h,_,_=>by simp at h
 | _ :: _,[],_,_,_,_,h,_=>by simp at h
 | p :: P,w :: vs,0,m,nd,h1,h2,hk=>by
  simp at h1 h2; subst h1; subst h2
  show bindL kindOf ((p,w) :: P.zip vs) m p = _
  unfold bindL
  rw [bindL_out fun v hv=>(List.nodup_cons.mp nd).1 (List.of_mem_zip hv).1,if_pos hk]
  simp
 | p :: P,w :: vs,i + 1,m,nd,h1,h2,hk=>by
  show bindL kindOf ((p,w) :: P.zip vs) m x = _
  unfold bindL
  exact bindL_get (i:=i) (List.nodup_cons.mp nd).2 (by simpa using h1) (by simpa using h2) hk
theorem bindC_get {kindOf:Str -> Option NameKind} {x:Str} {v:Value}:∀ {P:List Str} {vs:List Value} {i:Nat} {m:Str -> Option Value},P.Nodup -> P[i]? = some x -> vs[i]? = some v -> kindOf x ≠ some .local ->
  bindC kindOf (P.zip vs) m x = some v
 | [],_,_,_,_,h,_,_=>by simp at h
 | _ :: _,[],_,_,_,_,h,_=>by simp at h
 | p :: P,w :: vs,0,m,nd,h1,h2,hk=>by
  simp at h1 h2; subst h1; subst h2
  show bindC kindOf ((p,w) :: P.zip vs) m p = _
  unfold bindC
  rw [bindC_out fun v hv=>(List.nodup_cons.mp nd).1 (List.of_mem_zip hv).1,if_neg hk]
  simp
 | p :: P,w :: vs,i + 1,m,nd,h1,h2,hk=>by
  show bindC kindOf ((p,w) :: P.zip vs) m x = _
  unfold bindC
  exact bindC_get (i:=i) (List.nodup_cons.mp nd).2 (by simpa using h1) (by simpa using h2) hk
def start (N:List Str) (vs:List V):St:=vs.map some ++ List.replicate (N.length - vs.length) none
def cxOf (CX:CXT) (P:Program) (w:World) (K:PySem.W.Frag) (mg:Str -> Option Value) (base:Heap) (N:List Str) (qual:Str) (scope:Scope) (f:Addr) (cd:Value) (A:Around) (outer:List Env) (s:Shared) (H:Hp) (E:XK):Cx where
 prog:=P
 w:=w
 K:=K
 mg:=mg
 base:=base
 A:=A.deeper (envOfC qual scope s.heap.objs.size f cd)
 N:=N
 s₀:=s
 H₀:=H
 env:=envOfC qual scope s.heap.objs.size f cd
 outer:=outer
 stack:=envOfC qual scope s.heap.objs.size f cd :: outer
 ex:=[]
 calm:=true
 fn:=fun _=>true
 pn:=[]
 xe:=fun e s'=>wpAny (model P w) (A.deeper (envOfC qual scope s.heap.objs.size f cd)) (leaving (envOfC qual scope s.heap.objs.size f cd) e) (fun _ s''=>CX outer H s E e s'') (fun e' s''=>CX outer H s E e' s'') s'
theorem cell_has {sc:Scope} {n:Nat} {x:Str} (h:sc.names.lookup x = some .cell):∃ c,(cellsFrom n sc.names []).lookup x = some c:=by
 have q:=PySem.W.cellsFrom_some sc.names n [] (.inl h)
 exact Option.isSome_iff_exists.mp q
theorem inv_start {CX:CXT} {P:Program} {w:World} {K:PySem.W.Frag} {mg:Str -> Option Value} {base:Heap} {N ps:List Str} {qual:Str} {scope:Scope} {f:Addr} {cd:Value} {A:Around} {outer:List Env} {s s1:Shared} {H:Hp} {E:XK} {us:List Value} {vs:List V}
  (S:FnScope N ps scope) (hd:A.handled = none) (e0:Env0 P w K mg base A outer s H) (hl:vs.length = ps.length) (r:Vals vs us)
  (x:InCallC s s.heap.objs.size (bindL (envOfC qual scope s.heap.objs.size f cd).kindOf (ps.zip us) fun _=>none) (cellsFrom (s.heap.objs.size + 1) scope.names []) (bindC (envOfC qual scope s.heap.objs.size f cd).kindOf (ps.zip us) fun _=>none) s1) :
  Inv (cxOf CX P w K mg base N qual scope f cd A outer s H E) [] (start N vs) H s1:=by
 have hpl:ps.length <= N.length:=by have:=congrArg List.length S.pre; rw [List.length_take] at this; omega
 obtain ⟨h1,tk,rfl,hk⟩:=x.done
 have noA:∀ b:Addr,b ∉ (cxOf CX P w K mg base N qual scope f cd A outer s H E).ex:=fun b z=>absurd (show b ∈ ([]:List Addr) from z) (by simp)
 refine ⟨⟨e0.mod,S.kind,rfl,rfl,Nat.le_refl _,fun y z c h1 h2=>?_,fun y hy=>?_,fun y c _ h=>?_,fun _=>hd,Around.frames_deeper e0.frames,.inr ⟨rfl,rfl⟩,fun b z=>absurd z (noA b),e0.bs,e0.bsz,fun b _ _=>noA b,fun b z=>absurd z (noA b),e0.funs,e0.frf⟩,
  rfl,e0.bare,Un.kept hk,⟨_,x.toInCall.ns,fun i y v h1 h2 h3=>?_⟩,fun y c h=>⟨_,x.cell y c h⟩,e0.hok.fresh (Nat.le_refl _),fun y c h=>?_,fun p hp=>absurd (show p ∈ ([]:List (Addr × Obj)) from hp) (by simp),e0.hok.kept hk,?_⟩
 ·exact name_of_addr x.apart (PySem.mem_of_lookup h1) (PySem.mem_of_lookup h2)
 ·have hy:scope.names.lookup y = some .cell \/ scope.names.lookup y = some .free:=hy
  rcases hy with hy | hy
  ·exact cell_has hy
  ·exact absurd rfl (S.nofree _ (PySem.mem_of_lookup hy))
 ·exact Nat.le_of_lt (x.above y c (PySem.mem_of_lookup h))
 ·have hi:i < vs.length:=by
   unfold start at h2
   by_cases hi:i < vs.length
   ·exact hi
   ·rw [List.getElem?_append_right (by simpa using hi)] at h2
    rw [List.getElem?_replicate] at h2
    split at h2 <;> cases h2
  have ha:vs[i]? = some v:=by
   unfold start at h2
   rw [List.getElem?_append_left (by simpa using hi),List.getElem?_map] at h2
   cases e:vs[i]? with
   | none=>rw [e] at h2; cases h2
   | some a=>rw [e] at h2; cases h2; rfl
  obtain ⟨u,hu,rv⟩:=r.get ha
  have hp:ps[i]? = some y:=by
   rw [← S.pre,List.getElem?_take_of_lt (by omega)]; exact h1
  have ndP:ps.Nodup:=by rw [← S.pre]; exact S.nd.sublist (List.take_sublist _ _)
  refine ⟨u,rv,?_⟩
  rcases S.par y (List.mem_of_getElem? hp) with k | k
  ·exact .inl ⟨k,bindL_get ndP hp hu k⟩
  ·obtain ⟨c,e⟩:=cell_has (n:=s.heap.objs.size + 1) k
   refine .inr ⟨.inl k,c,e,?_⟩
   have q:=x.cell y c e
   rw [bindC_get ndP hp hu (by show scope.names.lookup y ≠ _; rw [k]; decide)] at q
   exact q
 ·exact e0.hok.fresh (Nat.le_of_lt (x.above y c (PySem.mem_of_lookup h)))
 ·unfold start
  show _ = N.length
  rw [List.length_append,List.length_map,List.length_replicate]
  omega
theorem fn_of {CX:CXT} {P:Program} {w:World} {K:PySem.W.Frag} {mg:Str -> Option Value} {base:Heap} {k:Nat} {f:Addr} {name qual:Str} {params:Arguments} {body:List Stmt} {scope:Scope} {dV kV doc pm cdv ct oc:Value} {an od:Option Addr}
  {osl:Array (Option Value)} {N ps:List Str} {sp:Sp} (lk:K.lookup f = some ⟨oc,od,.func (PySem.W.fnOf name qual params body scope dV kV doc pm an cdv ct),osl⟩) (hcd:PySem.W.codeIn K cdv qual = true) (S:FnScope N ps scope)
  (len:∀ vs H Q E,sp vs H Q E -> vs.length = ps.length)
  (hbody:∀ (A:Around) (outer:List Env) (s:Shared) (H:Hp) (vs:List V) (Q:VK) (E:XK),Room k (A.deeper (envOfC qual scope s.heap.objs.size f cdv)) -> sp vs H Q E ->
   ∃ t,PSs (cxOf CX P w K mg base N qual scope f cdv A outer s H E) body t /\ t { nx:=fun _ H'=>Q .non H',rt:=Q } (start N vs) H) :
  FnOk P w K mg base CX (k + 1) f (PySem.W.fnOf name qual params body scope dV kV doc pm an cdv ct) ps sp:=by
 refine ⟨len,fun A outer s H args us vs Q E hr e0 hb r hsp=>?_⟩
 have hl:=len _ _ _ _ hsp
 have KX:K.In s.heap:=e0.mod.kin.keeps fun b o e=>(e0.bs b o e).1
 have lim:s.heap.NoLimit:=e0.mod.nolimit.keeps fun b o e=>(e0.bs b o e).1
 have hkind:∀ y ∈ ps.zip us,scope.names.lookup y.1 = some .local \/ (scope.names.lookup y.1 = some .cell /\ ((cellsFrom (s.heap.objs.size + 1) scope.names []).lookup y.1).isSome = true):=fun ⟨n,v⟩ hy=>by
  rcases S.par n (List.of_mem_zip hy).1 with q | q
  ·exact .inl q
  ·exact .inr ⟨q,PySem.W.cellsFrom_some _ _ _ (.inl q)⟩
 refine codeAny_call_function hr.depth (KX _ _ lk) rfl S.co S.gen rfl (PySem.W.codeRec_of KX hcd) (hb _ _ _ _ ?_)
 refine wpAny_newFunctionEnv_cells S.kind hkind fun env he s1 x=>?_
 subst he
 refine ⟨lim.keeps x.toInCall.keep,codeAny_func ?_⟩
 obtain ⟨t,ht,hq⟩:=hbody A outer s H vs Q E (hr.deeper _) hsp
 have I:Inv (cxOf CX P w K mg base N qual scope f cdv A outer s H E) [] (start N vs) H s1:=inv_start S hr.hd e0 hl r x
 refine wpAny_mono (ht [] s1 (start N vs) H _ I hq) (fun fl s' hs=>?_) fun e s' hs=>hs
 have fin:∀ {σ':St} {H':Hp} {v:V} {u:Value},Inv (cxOf CX P w K mg base N qual scope f cdv A outer s H E) [] σ' H' s' -> RelV v u -> Q v H' -> CE outer P w H s Q u s' :=
  fun {σ' H' v u} J rv q=>⟨v,H',J.os,J.bare,J.base,J.hok,rv,q⟩
 cases fl with
 | ret u =>
  obtain ⟨v,σ',H',J,rv,q⟩:=hs
  exact fin J rv q
 | next =>
  obtain ⟨σ',H',J,q⟩:=hs
  exact fin (v:=V.non) (u:=Value.none) J rfl q
 | brk =>
  obtain ⟨_,_,_,q⟩:=hs
  exact False.elim q
 | cont =>
  obtain ⟨_,_,_,q⟩:=hs
  exact False.elim q
end L2
namespace L2
open PySem PySem.Spec PyProof.Rows
section
variable {X:Cx} {x:Str} {p pos:Pos} {e:Expr} {es:List Expr} {t:TA} {id T:String} {r:List V -> Hp -> VK -> Prop}
def tCB (r:List V -> Hp -> VK -> Prop) (t:TA):TE:=fun σ H Q=>t σ H fun vs H1=>r vs H1 Q
theorem zK (hc:CallR X (.builtin id) r) (hg:Gl X x) (hm:X.mg x = none) (hv:bootBuiltins x = some (.builtin id)) (ha:PA X (e :: es) t) (hn:x ≠ "__name__":=by decide) (hdb:(x == ("__debug__":Str)) = false:=by decide)
  (he:starEach (e :: es) X.env = (false,eval e X.env) :: starEach es X.env:=by rfl) (hpl:(backTo pos (starEach es X.env)).any (·.1) = false:=by rfl):PE X (.Call (.Name x p) (e :: es) [] pos) (tCB r t):=by
 intro pins s σ H Q I h
 refine wpAny_Call_Name_kw (ld_blt I hg hm hv ?_ hn hdb)
 exact PyProof.Rows.callWith_builtin1 (thn (ha pos pins s σ H _ I h) fun us s1 ⟨vs,H1,I1,r1,q1⟩=>hc pins s1 σ H1 vs us Q I1 r1 q1) he hpl
theorem z7 (hc:CallR X (.type T) r) (hg:Gl X x) (hm:X.mg x = none) (hv:bootBuiltins x = some (.type T)) (ha:PA X (e :: es) t) (hn:x ≠ "__name__":=by decide) (hdb:(x == ("__debug__":Str)) = false:=by decide)
  (he:starEach (e :: es) X.env = (false,eval e X.env) :: starEach es X.env:=by rfl) (hpl:(backTo pos (starEach es X.env)).any (·.1) = false:=by rfl):PE X (.Call (.Name x p) (e :: es) [] pos) (tCB r t):=by
 intro pins s σ H Q I h
 refine wpAny_Call_Name_kw (ld_blt I hg hm hv ?_ hn hdb)
 exact PyProof.Rows.callWith_type1 (thn (ha pos pins s σ H _ I h) fun us s1 ⟨vs,H1,I1,r1,q1⟩=>hc pins s1 σ H1 vs us Q I1 r1 q1) he hpl
end
end L2
namespace HT
open PySem PyProof.Rows
section
variable {prog:Program} {w:World} {A:Around} {E:Value -> Shared -> Prop} {s:Shared}
def sIx (n d:Nat):Option Int -> Nat
 | none=>d
 | some v=>if v < 0 then (v + (n:Int)).toNat else min v.toNat n
theorem sIx_none (n d:Nat):sIx n d none = d:=rfl
theorem sIx_nat (n d k:Nat):sIx n d (some (k:Int)) = min k n:=by
 show (if (k:Int) < 0 then ((k:Int) + (n:Int)).toNat else min (k:Int).toNat n) = min k n
 rw [if_neg (by omega),Int.toNat_natCast]
theorem sIx_le (n d:Nat) (hd:d <= n) (o:Option Int):sIx n d o <= n:=by
 cases o with
 | none=>exact hd
 | some v =>
  show (if v < 0 then (v + (n:Int)).toNat else min v.toNat n) <= n
  by_cases hv:v < 0
  ·rw [if_pos hv]; omega
  ·rw [if_neg hv]; exact Nat.min_le_right _ _
theorem clip_eq (v:Int) (n d:Nat):(if v < 0 then max (v + (n:Int)) 0 else min v (n:Int)) = ((sIx n d (some v):Nat):Int):=by
 show (if v < 0 then max (v + (n:Int)) 0 else min v (n:Int)) = (((if v < 0 then (v + (n:Int)).toNat else min v.toNat n):Nat):Int)
 by_cases hv:v < 0
 ·simp only [if_pos hv]; omega
 ·simp only [if_neg hv]; omega
theorem adjust_gen (lo hi:Option Int) (n:Nat):Builtin.Slice.sliceAdjust lo hi 1 (n:Int) = (((sIx n 0 lo:Nat):Int),((sIx n n hi:Nat):Int)):=by
 have h1:¬ ((1:Int) < 0):=by omega
 unfold Builtin.Slice.sliceAdjust
 simp only [h1,if_false]
 refine Prod.ext ?_ ?_
 ·cases lo with
  | none=>rfl
  | some v=>exact clip_eq v n 0
 ·cases hi with
  | none=>rfl
  | some v=>exact clip_eq v n n
theorem places_gen (i j:Nat):Builtin.Slice.slicePlaces (i:Int) (j:Int) 1 = j - i:=by
 unfold Builtin.Slice.slicePlaces
 have h1:(1:Int) > 0:=by omega
 simp only [h1,if_true,Int.ediv_one]
 split <;> omega
theorem slicePart_ {v:Value} {o:Option Int} {Q:Option Int -> Shared -> Prop} (p:IsPart v o) (h:Q o s):wpAny (model prog w) A (Builtin.Slice.slicePartIndex v) Q E s:=by
 cases p with
 | none=>exact slicePart_none h
 | int i t=>exact slicePart_int h
theorem qA {sl:Addr} {vl vu:Value} {lo hi:Option Int} {n:Nat} {Q:Int × Int × Nat -> Shared -> Prop} (hs:s.heap.IsSliceOf sl vl vu .none) (pl:IsPart vl lo) (pu:IsPart vu hi)
  (h:Q (((sIx n 0 lo:Nat):Int),1,sIx n n hi - sIx n 0 lo) s):wpAny (model prog w) A (Builtin.Slice.sliceApplied (.ref sl) (pure (n:Int))) Q E s:=by
 obtain ⟨os,hos,hcs,hds⟩:=id hs
 unfold Builtin.Slice.sliceApplied Builtin.Slice.sliceFields
 refine wpAny_bind (wpAny_bind (wpAny_field hos hds (x:=vl) rfl (wpAny_bind (wpAny_field hos hds (x:=vu) rfl (wpAny_bind (wpAny_field hos hds (x:=.none) rfl (wpAny_pure ?_)))))))
 refine wpAny_bind (slicePart_none ?_)
 show wpAny _ _ (if ((1:Int) == 0) = true then _ else _) _ _ s
 rw [if_neg (by decide)]
 refine wpAny_bind (slicePart_ pl (wpAny_bind (slicePart_ pu (wpAny_bind (wpAny_pure ?_)))))
 show wpAny _ _ (match Builtin.Slice.sliceAdjust lo hi 1 (n:Int) with | (lo,hi)=>pure (lo,(1:Int),Builtin.Slice.slicePlaces lo hi 1)) _ _ s
 rw [adjust_gen lo hi n]
 show wpAny _ _ (pure (((sIx n 0 lo:Nat):Int),(1:Int),Builtin.Slice.slicePlaces ((sIx n 0 lo:Nat):Int) ((sIx n n hi:Nat):Int) 1)) _ _ s
 rw [places_gen]
 exact wpAny_pure h
theorem pick_gen (xs:Array Value) (i k:Nat):((List.range k).filterMap fun (m:Nat)=>xs[((i:Int) + (m:Int) * 1).toNat]?).toArray = ((xs.toList.drop i).take k).toArray:=by
 have e:(fun (m:Nat)=>xs[((i:Int) + (m:Int) * 1).toNat]?) = fun m=>xs[i + m]?:=by
  funext m
  have:((i:Int) + (m:Int) * 1).toNat = i + m:=by omega
  rw [this]
 rw [e]
 have:=pick_run xs i k
 rw [List.filterMap_map] at this
 have e2:((fun x=>xs[x]?) ∘ fun x=>i + x) = fun m=>xs[i + m]?:=rfl
 rw [e2] at this
 rw [this]
theorem getItem_tuple_cut {t sl:Addr} {items:Array Value} {vl vu:Value} {lo hi:Option Int} {Q:Value -> Shared -> Prop} (ht:IsTup s.heap t items) (hs:s.heap.IsSliceOf sl vl vu .none) (pl:IsPart vl lo) (pu:IsPart vu hi)
  (hw:¬ (sIx items.size 0 lo = 0 /\ sIx items.size items.size hi = items.size))
  (h:Q (.ref s.heap.objs.size) { s with heap:=s.heap.push { cls:=.type "tuple",data:=.seq ((items.toList.drop (sIx items.size 0 lo)).take (sIx items.size items.size hi - sIx items.size 0 lo)).toArray } })
  (hsz:items.size <= sizeLine):wpAny (model prog w) A (getItem (.ref t) (.ref sl)) Q E s:=by
 have htake:sizeOk (.seq ((items.toList.drop (sIx items.size 0 lo)).take (sIx items.size items.size hi - sIx items.size 0 lo)).toArray):=by
  show ((items.toList.drop (sIx items.size 0 lo)).take (sIx items.size items.size hi - sIx items.size 0 lo)).toArray.size <= sizeLine
  rw [List.size_toArray,List.length_take,List.length_drop,Array.length_toList]
  omega
 have hj:sIx items.size items.size hi <= items.size:=sIx_le _ _ (Nat.le_refl _) hi
 obtain ⟨os,hos,hcs,hds⟩:=id hs
 have hTs:s.TypeIs (.ref sl) "slice":=⟨os,hos,hcs⟩
 unfold getItem
 try with_reducible refine wpAny_holding ?_
 first | refine wpAny_bind (wpAny_pure ?_) | skip
 refine wpAny_bind (wpAny_sequenceKey ht.typeIs (by decide) ?_)
 refine wpAny_bind (wpAny_callSpecial?_slot (name:=Str.ofString "__getitem__") ht.typeIs PyProof.Rows.slot_tuple_getitem
  (wpAny_call_entry PyProof.Rows.slot_tuple_getitem ht.typeIs entry_tuple_getitem ?_ (args_tuple_getitem _ _)))
 show wpAny _ _ (Builtin.Tuple.tupleItemsOf (.ref t) >>= _) _ _ s
 refine wpAny_bind (tupleItemsOf_ ht ?_)
 refine wpAny_bind (wpAny_typeOf hTs ?_)
 rw [if_pos (by decide)]
 refine wpAny_bind (qA hs pl pu ?_)
 have hno:¬ ((((sIx items.size 0 lo:Nat):Int) == 0 && (1:Int) == 1 && (sIx items.size items.size hi - sIx items.size 0 lo) == items.size) = true):=by
  intro q
  rw [Bool.and_eq_true,Bool.and_eq_true] at q
  have q1:((sIx items.size 0 lo:Nat):Int) = 0:=eq_of_beq q.1.1
  have q2:sIx items.size items.size hi - sIx items.size 0 lo = items.size:=eq_of_beq q.2
  exact hw ⟨by omega,by omega⟩
 show wpAny _ _ (if (((sIx items.size 0 lo:Nat):Int) == 0 && (1:Int) == 1 && (sIx items.size items.size hi - sIx items.size 0 lo) == items.size) = true then _ else _) _ _ s
 rw [if_neg hno,pick_gen]
 first
  | exact wpAny_bind (m:=Builtin.Tuple.tupleExact _) (wpAny_newObj_type (wpAny_pure ⟨_,rfl,wpAny_pure h⟩) htake)
  | exact wpAny_bind (m:=Builtin.Tuple.tupleExact _) (wpAny_newObj_type (wpAny_bind (wpAny_pure (wpAny_pure ⟨_,rfl,wpAny_pure h⟩))) htake)
  | exact wpAny_bind (wpAny_bind (m:=Builtin.Tuple.tupleExact _) (wpAny_newObj_type (wpAny_pure (wpAny_pure ⟨_,rfl,wpAny_pure h⟩)) htake))
  | exact wpAny_bind (wpAny_bind (m:=Builtin.Tuple.tupleExact _) (wpAny_newObj_type (wpAny_pure ⟨_,rfl,wpAny_pure h⟩) htake))
end
end HT
namespace L2
open PySem PySem.Spec PyProof.Rows
abbrev TO:=St -> Hp -> (Option Int -> Hp -> Prop) -> Prop
def PO (X:Cx) (e:Option Expr) (t:TO):Prop :=
 ∀ (pins:List (Addr × Obj)) (s:Shared) (σ:St) (H:Hp) (Q:Option Int -> Hp -> Prop),Inv X pins σ H s -> t σ H Q ->
  wpAny (model X.prog X.w) X.A (evalPart e X.env) (fun u s'=>∃ o H',Inv X pins σ H' s' /\ IsPart u o /\ Q o H') X.xe s
def tNoPart:TO:=fun _ H Q=>Q none H
def tPart (t:TE):TO:=fun σ H Q=>t σ H fun x H1=>∃ i,x = .int i /\ Q (some i) H1
section
variable {X:Cx} {e:Expr} {te:TE} {lo hi:Option Expr} {tl th:TO} {pos p2:Pos}
theorem po_none:PO X none tNoPart:=by
 intro pins s σ H Q I h
 rw [evalPart_none]
 exact wpAny_pure ⟨none,H,I,.none,h⟩
theorem po_some (h:PE X e te):PO X (some e) (tPart te):=by
 intro pins s σ H Q I hw
 rw [evalPart_some]
 refine thn (h pins s σ H _ I hw) fun u s1 ⟨x,H1,I1,r1,q1⟩=>?_
 obtain ⟨i,rfl,q⟩:=q1
 obtain ⟨t,rfl⟩:=r1
 exact ⟨some i,H1,I1,.int i t,q⟩
def SlR (X:Cx) (r:V -> Option Int -> Option Int -> Hp -> VK -> Prop):Prop :=
 ∀ (pins:List (Addr × Obj)) (s:Shared) (σ:St) (H:Hp) (x:V) (v vl vu:Value) (lo hi:Option Int) (sl:Addr) (Q:VK),Inv X pins σ H s -> RelV x v -> s.heap.IsSliceOf sl vl vu .none -> IsPart vl lo -> IsPart vu hi -> r x lo hi H Q ->
  ∃ T id,typeLookup (.type T) "__getitem__" = pure (some (.builtin id)) /\ s.TypeIs v T /\ wpAny (model X.prog X.w) X.A (getItem v (.ref sl)) (EP X pins σ Q) X.xe s
def tSl (r:V -> Option Int -> Option Int -> Hp -> VK -> Prop) (te:TE) (tl th:TO):TE:=fun σ H Q=>te σ H fun x H1=>tl σ H1 fun l H2=>th σ H2 fun u H3=>r x l u H3 Q
theorem pe_slice {r:V -> Option Int -> Option Int -> Hp -> VK -> Prop} (hr:SlR X r) (he:PE X e te) (hl:PO X lo tl) (hu:PO X hi th):PE X (.Subscript e (.Slice lo hi none p2) pos) (tSl r te tl th):=by
 intro pins s σ H Q I h
 refine Subscript_ (thn (he pins s σ H _ I h) fun v s1 ⟨x,H1,I1,r1,q1⟩=>?_)
 refine wpAny_Slice (thn (hl pins s1 σ H1 _ I1 q1) fun vl s2 ⟨l,H2,I2,pl,q2⟩=>thn (hu pins s2 σ H2 _ I2 q2) fun vu s3 ⟨u,H3,I3,pu,q3⟩=>?_)
 rw [evalPart_none]
 refine wpAny_pure ?_
 have I4:Inv X pins σ H3 { s3 with heap:=s3.heap.push { cls:=.type "slice",data:=.fields #[vl,vu,.none] } }:=I3.kept (t':=s3.toks) fun b ob q=>Heap.get?_push_of_some _ q
 obtain ⟨T,id,hT,ht,hg⟩:=hr pins { s3 with heap:=s3.heap.push { cls:=.type "slice",data:=.fields #[vl,vu,.none] } } σ H3 x v vl vu l u s3.heap.objs.size Q I4 r1 (Heap.IsSliceOf.new ..) pl pu q3
 show wpAny (model X.prog X.w) X.A (subscriptTail e (.Slice lo hi none p2) v (.ref s3.heap.objs.size)) (EP X pins σ Q) X.xe { s3 with heap:=s3.heap.push { cls:=.type "slice",data:=.fields #[vl,vu,.none] } }
 exact tail_any (ops:=[.ref s3.heap.objs.size,v]) ht hT hg (by with_unfolding_all rfl)
def cutV (xs:List V) (lo hi:Option Int):List V:=(xs.drop (HT.sIx xs.length 0 lo)).take (HT.sIx xs.length xs.length hi - HT.sIx xs.length 0 lo)
theorem cutV_length (xs:List V) (lo hi:Option Int):(cutV xs lo hi).length <= xs.length:=by
 unfold cutV
 rw [List.length_take,List.length_drop]
 omega
end
end L2
namespace L2
open PySem PySem.Spec PyProof.Rows
def ixN (n:Nat) (i:Int):Option Nat:=if 0 <= i then (if i < n then some i.toNat else none) else if -(n:Int) <= i then some (i + n).toNat else none
def atI {α:Type} (xs:List α) (i:Int):Option α:=(ixN xs.length i).bind fun j=>xs[j]?
theorem ixN_seq {n:Nat} {i:Int} {j:Nat} (h:ixN n i = some j):seqIndex? i n = some j /\ j < n /\ -(n:Int) <= i /\ i < n:=by
 unfold ixN at h
 by_cases h0:0 <= i
 ·rw [if_pos h0] at h
  by_cases h1:i < n
  ·rw [if_pos h1] at h
   have e:i.toNat = j:=Option.some.inj h
   exact ⟨by rw [seqIndex_of h0 h1,e],by omega,by omega,h1⟩
  ·rw [if_neg h1] at h; cases h
 ·rw [if_neg h0] at h
  by_cases h1:-(n:Int) <= i
  ·rw [if_pos h1] at h
   have e:(i + n).toNat = j:=Option.some.inj h
   exact ⟨by rw [seqIndex_neg (by omega) h1,e],by omega,h1,by omega⟩
  ·rw [if_neg h1] at h; cases h
theorem atI_get {α:Type} {xs:List α} {i:Int} {v:α} (h:atI xs i = some v):∃ j,seqIndex? i xs.length = some j /\ xs[j]? = some v /\ j < xs.length /\ -(xs.length:Int) <= i /\ i < xs.length:=by
 unfold atI at h
 cases e:ixN xs.length i with
 | none=>rw [e] at h; cases h
 | some j =>
  rw [e] at h
  obtain ⟨h1,h2,h3,h4⟩:=ixN_seq e
  exact ⟨j,h1,h,h2,h3,h4⟩
theorem yS {α:Type} {xs:List α} {j:Nat} {v:α} (h:xs[j]? = some v):atI xs (j:Int) = some v:=by
 have hj:j < xs.length:=(List.getElem?_eq_some_iff.mp h).1
 have e:ixN xs.length (j:Int) = some j:=by
  unfold ixN
  rw [if_pos (by omega),if_pos (by omega)]; simp
 unfold atI; rw [e]; exact h
theorem atI_last {α:Type} (xs:List α) (v:α):atI (xs ++ [v]) (-1) = some v:=by
 have hl:(xs ++ [v]).length = xs.length + 1:=by simp
 have e:ixN (xs ++ [v]).length (-1) = some xs.length:=by
  unfold ixN
  rw [hl,if_neg (by decide),if_pos (by omega)]
  congr 1
  omega
 unfold atI
 rw [e]
 show (xs ++ [v])[xs.length]? = some v
 simp
def PlainIx (b:Expr):Prop:=∀ o i,subscripted b false o i = operate [o,i] (getItem o i)
def IxR (X:Cx) (r:R2):Prop :=
 ∀ (value slice:Expr) (pins:List (Addr × Obj)) (s:Shared) (σ:St) (H:Hp) (x y:V) (v u:Value) (Q:VK),Inv X pins σ H s -> RelV x v -> RelV y u -> r x y H Q ->
  subscripted slice false v u = operate [v,u] (getItem v u) -> wpAny (model X.prog X.w) X.A (subscriptTail value slice v u) (EP X pins σ Q) X.xe s
def MtR (X:Cx) (id:String) (r:V -> List V -> Hp -> VK -> Prop):Prop :=
 ∀ (pins:List (Addr × Obj)) (s:Shared) (σ:St) (H:Hp) (x:V) (xs:List V) (v:Value) (us:List Value) (Q:VK),Inv X pins σ H s -> RelV x v -> Vals xs us -> r x xs H Q ->
  wpAny (model X.prog X.w) X.A (call (.builtin id) (v :: us)) (EP X pins σ Q) X.xe s
section
variable {X:Cx} {a b:Expr} {ta tb:TE} {pos:Pos}
theorem zS {r:R2} (hr:IxR X r) (ha:PE X a ta) (hb:PE X b tb) (hs:PlainIx b):PE X (.Subscript a b pos) (tOp r ta tb):=by
 intro pins s σ H Q I h
 exact Subscript_ (binT ha hb I h fun v u s2 x y H2 I2 rx ry q=>hr a b pins s2 σ H2 x y v u Q I2 rx ry q (hs _ _))
def rIxL (K:PySem.W.Frag):R2:=fun x y H Q=>∃ p xs i v,x = .ref p /\ y = .int i /\ SqL K H p xs /\ atI xs i = some v /\ Q v H
def rIxT (K:PySem.W.Frag):R2:=fun x y H Q=>∃ p xs i v,x = .ref p /\ y = .int i /\ SqT K H p xs /\ atI xs i = some v /\ Q v H
theorem ix_list:IxR X (rIxL X.K):=by
 intro value slice pins s σ H x y v u Q I rx ry h hs
 obtain ⟨p,xs,i,z,rfl,rfl,hq,he,q⟩:=h
 cases rx
 obtain ⟨t,rfl⟩:=ry
 obtain ⟨its,r,pl,hz⟩:=I.list hq
 obtain ⟨j,h1,h2,h3,h4,h5⟩:=atI_get he
 obtain ⟨w,ew,rw'⟩:=r.get h2
 have hl:=r.length
 have hn:=line63
 have fin:EP X pins σ Q w s:=⟨z,H,I,rw',q⟩
 by_cases h0:0 <= i
 ·have hj:i.toNat = j:=by
   rw [seqIndex_of h0 h5] at h1
   exact Option.some.inj h1
  exact item_listR pl.isList h0 (by omega) (by rw [hj]; simpa using ew) fin hs
 ·have hj:(i + (its.toArray.size:Int)).toNat = j:=by
   rw [seqIndex_neg (by omega) h4] at h1
   rw [List.size_toArray,← hl]
   exact Option.some.inj h1
  exact subscriptTail_builtinR (x:=w) pl.isList.typeIs slot_list_getitem.lookup
   (wpAny_getItem_list_neg (Q:=fun r s'=>r = w /\ EP X pins σ Q r s') pl.isList (by omega) (by rw [List.size_toArray] <;> omega) (by omega) (by rw [hj]; simpa using ew) ⟨rfl,fin⟩) hs
theorem ix_tup:IxR X (rIxT X.K):=by
 intro value slice pins s σ H x y v u Q I rx ry h hs
 obtain ⟨p,xs,i,z,rfl,rfl,hq,he,q⟩:=h
 cases rx
 obtain ⟨t,rfl⟩:=ry
 obtain ⟨its,r,pl,hz⟩:=I.tuple hq
 obtain ⟨j,h1,h2,h3,h4,h5⟩:=atI_get he
 obtain ⟨w,ew,rw'⟩:=r.get h2
 have hl:=r.length
 have hn:=line63
 have fin:EP X pins σ Q w s:=⟨z,H,I,rw',q⟩
 exact subscriptTail_builtinR (x:=w) pl.typeIs slot_tuple_getitem.lookup
  (getItem_tuple (j:=j) (Q:=fun r s'=>r = w /\ EP X pins σ Q r s') pl (by omega) (by omega) (by rw [List.size_toArray,← hl]; exact h1) (by simpa using ew) ⟨rfl,fin⟩) hs
theorem slice_bounds (lo hi:Option Int) (n:Nat):(sliceBounds lo hi none n).1 = ((HT.sIx n 0 lo:Nat):Int) /\ (sliceBounds lo hi none n).2.1 = ((HT.sIx n n hi:Nat):Int) /\ (sliceBounds lo hi none n).2.2 = 1:=by
 refine ⟨?_,?_,rfl⟩
 ·cases lo with
  | none=>simp [sliceBounds,HT.sIx]
  | some i =>
   simp only [sliceBounds,HT.sIx,Option.getD_none,show (1:Int) > 0 by decide,if_true]
   by_cases h:i < 0
   ·simp only [h,if_true] <;> omega
   ·simp only [h,if_false] <;> omega
 ·cases hi with
  | none=>simp [sliceBounds,HT.sIx]
  | some i =>
   simp only [sliceBounds,HT.sIx,Option.getD_none,show (1:Int) > 0 by decide,if_true]
   by_cases h:i < 0
   ·simp only [h,if_true] <;> omega
   ·simp only [h,if_false] <;> omega
theorem slicePick_cut (its:List Value) (lo hi:Option Int):slicePick its.toArray lo hi none = ((its.drop (HT.sIx its.length 0 lo)).take (HT.sIx its.length its.length hi - HT.sIx its.length 0 lo)).toArray:=by
 obtain ⟨h1,h2,h3⟩:=slice_bounds lo hi its.toArray.size
 unfold slicePick
 rw [h1,h2,h3]
 simp only [sliceRange_one,pick_run,List.size_toArray] <;> rfl
def rSlL (K:PySem.W.Frag):V -> Option Int -> Option Int -> Hp -> VK -> Prop:=fun x lo hi H Q=>∃ a xs,x = .ref a /\ SqL K H a xs /\ ∀ p,H p = none -> Q (.ref p) (upd H p (.lst (cutV xs lo hi)))
theorem sl_list:SlR X (rSlL X.K):=by
 intro pins s σ H x v vl vu lo hi sl Q I rx hs pl pu h
 obtain ⟨a,xs,rfl,hx,q⟩:=h
 cases rx
 obtain ⟨its,r,ht,hz⟩:=I.list hx
 have hlen:=r.length
 refine ⟨"list",_,slot_list_getitem.lookup,ht.isList.typeIs,?_⟩
 refine wpAny_getItem_list_slice ht.isList hs pl pu .none (by simp) ?_ (by rw [List.size_toArray] <;> omega)
 rw [slicePick_cut,← hlen]
 refine ⟨.ref s.heap.objs.size,_,I.laid (t':=s.toks) (o:=.lst (cutV xs lo hi)) (fun b ob q=>Heap.get?_push_of_some _ q) (Nat.le_refl _) ?_,rfl,q _ (I.hok.fresh (Nat.le_refl _))⟩
 exact ⟨Nat.le_trans (cutV_length xs lo hi) hz,_,0,(r.drop (HT.sIx xs.length 0 lo)).take (HT.sIx xs.length xs.length hi - HT.sIx xs.length 0 lo),Heap.get?_push_size _ rfl⟩
theorem z6:CallR X (.builtin "len") (fun xs H Q=>∃ p ys,xs = [.ref p] /\ (SqL X.K H p ys \/ SqT X.K H p ys) /\ Q (.int ys.length) H):=by
 intro pins s σ H xs us Q I r h
 obtain ⟨p,ys,rfl,hq,q⟩:=h
 obtain ⟨u,rfl,rx⟩:=vals1 r
 cases rx
 have hn:=line63
 rcases hq with hq | hq
 ·obtain ⟨its,r',pl,hz⟩:=I.list hq
  have hlen:=r'.length
  exact Calls.call_len_list pl.isList (by simp only [List.size_toArray] <;> omega) ⟨.int ys.length,H,I.tok _,⟨s.toks + 1,by rw [List.size_toArray,hlen]⟩,q⟩
 ·obtain ⟨its,r',pl,hz⟩:=I.tuple hq
  have hlen:=r'.length
  exact len_tuple pl (by simp only [List.size_toArray] <;> omega) ⟨.int ys.length,H,I.tok _,⟨s.toks + 1,by rw [List.size_toArray,hlen]⟩,q⟩
theorem qF:CallR X (.builtin "len") (fun xs H Q=>∃ z,xs = [.str z] /\ z.length <= sizeLine /\ Q (.int z.length) H):=by
 intro pins s σ H xs us Q I r h
 obtain ⟨z,rfl,hz,q⟩:=h
 obtain ⟨u,rfl,t,rfl⟩:=vals1 r
 have hn:=line63
 exact len_str (by omega) ⟨.int z.length,H,I.tok _,⟨_,rfl⟩,q⟩
theorem xK:CallR X (.type "list") (fun xs H Q=>∃ p ys,xs = [.ref p] /\ (SqL X.K H p ys \/ SqT X.K H p ys) /\ ∀ l,H l = none -> Q (.ref l) (upd H l (.lst ys))):=by
 intro pins s σ H xs us Q I r h
 obtain ⟨p,ys,rfl,hq,q⟩:=h
 obtain ⟨u,rfl,rx⟩:=vals1 r
 cases rx
 have fin:∀ (its:List Value),Vals ys its -> ys.length <= sizeLine -> ∀ (h':Heap) (c':Nat),(∀ b o',s.heap.get? b = some o' -> h'.get? b = some o') ->
   h'.get? s.heap.objs.size = some { cls:=.type "list",dict:=none,data:=.seq its.toArray c',slots:=#[] } -> EP X pins σ Q (.ref s.heap.objs.size) { s with heap:=h' }:=fun its r' hz h' c' kp e =>
  ⟨.ref s.heap.objs.size,_,I.laid (t':=s.toks) kp (Nat.le_refl _) (show ObjOk X.prog X.w _ h' _ (.lst ys) from ⟨hz,its,c',r',e⟩),rfl,q _ (I.hok.fresh (Nat.le_refl _))⟩
 rcases hq with hq | hq
 ·obtain ⟨its,r',pl,hz⟩:=I.list hq
  have hlen:=r'.length
  obtain ⟨o,ho,hc,n,hd⟩:=pl.isList
  exact call_list_seq p (.inl rfl) ho hc hd (fun h' c' kp e=>fin its r' hz h' c' kp e) (by simp only [List.size_toArray] <;> omega)
 ·obtain ⟨its,r',pl,hz⟩:=I.tuple hq
  have hlen:=r'.length
  obtain ⟨o,ho,hc,n,hd⟩:=pl
  exact call_list_seq p (.inr rfl) ho hc hd (fun h' c' kp e=>fin its r' hz h' c' kp e) (by simp only [List.size_toArray] <;> omega)
theorem jJ:CallR X (.type "tuple") (fun xs H Q=>∃ p ys,xs = [.ref p] /\ ((SqL X.K H p ys /\ ∀ l,H l = none -> Q (.ref l) (upd H l (.tup ys))) \/ (SqT X.K H p ys /\ Q (.ref p) H))):=by
 intro pins s σ H xs us Q I r h
 obtain ⟨p,ys,rfl,h⟩:=h
 obtain ⟨u,rfl,rx⟩:=vals1 r
 cases rx
 rcases h with ⟨hq,q⟩ | ⟨hq,q⟩
 ·obtain ⟨its,r',pl,hz⟩:=I.list hq
  have hlen:=r'.length
  refine call_tuple_list pl.isList (fun h' kp=>?_) (by simp only [List.size_toArray] <;> omega)
  have I1:Inv X pins σ H { s with heap:=h' }:=I.kept (t':=s.toks) kp
  have I2:Inv X pins σ (upd H h'.objs.size (.tup ys)) { s with heap:=h'.push { cls:=.type "tuple",data:=.seq its.toArray } } :=
   I1.laid (t':=s.toks) (fun b o e=>Heap.get?_push_of_some _ e) (Nat.le_refl _) (show ObjOk X.prog X.w _ _ _ (.tup ys) from ⟨hz,its,r',IsTup.new _ _⟩)
  exact ⟨.ref h'.objs.size,_,I2,rfl,q _ (I1.hok.fresh (Nat.le_refl _))⟩
 ·obtain ⟨its,r',pl,hz⟩:=I.tuple hq
  exact call_tuple_same pl ⟨.ref p,H,I,rfl,q⟩
def tyV (K:PySem.W.Frag) (T:String) (x:V) (H:Hp):Prop:=match x with
 | .str _=>T = "str"
 | .int _=>T = "int"
 | .ref p=>(T = "list" /\ ∃ xs,SqL K H p xs) \/ (T = "tuple" /\ ∃ o,K.lookup p = some o /\ o.cls = .type "tuple" /\ o.dict = none) \/
   (T = "dict" /\ ((∃ kvs,H p = some (.dK kvs)) \/ ∃ kvs,H p = some (.dT kvs))) \/ (T = "set" /\ ∃ S n,H p = some (.set S n))
 | _=>False
theorem tyV_is {pins:List (Addr × Obj)} {σ:St} {H:Hp} {s:Shared} {T:String} {x:V} {v:Value} (I:Inv X pins σ H s) (r:RelV x v) (ty:tyV X.K T x H) :
  s.TypeIs v T /\ ∀ a,v = .ref a -> ∃ ob,s.heap.get? a = some ob /\ ob.dict = none:=by
 cases x with
 | str z =>
  obtain ⟨t,rfl⟩:=r
  cases (show T = "str" from ty)
  exact ⟨typeIs_str s z t,fun _ e=>nomatch e⟩
 | int i =>
  obtain ⟨t,rfl⟩:=r
  cases (show T = "int" from ty)
  exact ⟨typeIs_int s i t,fun _ e=>nomatch e⟩
 | ref p =>
  cases r
  rcases ty with ⟨rfl,xs,hq⟩ | ⟨rfl,o,hk,hc,hd⟩ | ⟨rfl,hk⟩ | ⟨rfl,S,n,hk⟩
  ·obtain ⟨its,_,pl,_⟩:=I.list hq
   refine ⟨pl.isList.typeIs,fun a e=>?_⟩
   cases e
   obtain ⟨o,n,e,c,hd,_⟩:=pl
   exact ⟨o,e,hd⟩
  ·refine ⟨⟨o,I.kIn p o hk,hc⟩,fun a e=>?_⟩
   cases e
   exact ⟨o,I.kIn _ o hk,hd⟩
  ·have z:∃ o,s.heap.get? p = some o /\ o.ExactDict:=by
    rcases hk with ⟨kvs,hk⟩ | ⟨kvs,hk⟩
    ·obtain ⟨_,_,_,_,o,_,_,e,ex,_⟩:=I.hok p _ hk
     exact ⟨o,e,ex⟩
    ·obtain ⟨_,_,_,_,o,_,_,e,ex,_⟩:=I.hok p _ hk
     exact ⟨o,e,ex⟩
   obtain ⟨o,e,ex⟩:=z
   refine ⟨⟨o,e,ex.1⟩,fun a e2=>?_⟩
   cases e2
   exact ⟨o,e,ex.2.1⟩
  ·obtain ⟨o,_,_,_,e,ex,_⟩:=I.hok p _ hk
   refine ⟨⟨o,e,ex.1⟩,fun a e2=>?_⟩
   cases e2
   exact ⟨o,e,ex.2.1⟩
 | _=>exact False.elim ty
def tBM0 (K:PySem.W.Frag) (T:String) (r:V -> List V -> Hp -> VK -> Prop) (to:TE):TE:=fun σ H Q=>to σ H fun x H1=>tyV K T x H1 /\ r x [] H1 Q
def tBM (K:PySem.W.Frag) (T:String) (r:V -> List V -> Hp -> VK -> Prop) (to:TE) (t:TA):TE:=fun σ H Q=>to σ H fun x H1=>tyV K T x H1 /\ t σ H1 fun xs H2=>r x xs H2 Q
variable {o e:Expr} {es:List Expr} {to:TE} {t:TA} {name:Str} {apos cpos:Pos} {T id:String} {r:V -> List V -> Hp -> VK -> Prop}
theorem pe_bm0 (pa:PlainAttrs T) (slot:Slot T name id) (hty:typeOf (.builtin id) = pure (.type "method_descriptor")) (hm:MtR X id r) (ho:PE X o to)
  (hbase:attributeBase o name X.env (eval o X.env) = eval o X.env:=by rfl) (hline:(apos.endLine == cpos.line) = true:=by rfl):PE X (.Call (.Attribute o name apos) [] [] cpos) (tBM0 X.K T r to):=by
 intro pins s σ H Q I h
 refine wpAny_Call_method0_late hbase hline (thn (ho pins s σ H _ I h) fun v s1 ⟨x,H1,I1,r1,ty,q1⟩=>?_)
 obtain ⟨h1,h2⟩:=tyV_is I1 r1 ty
 exact ⟨T,id,pa,slot,hty,h1,h2,Calls.callWith_builtin rfl (PySem.evalArgs_none (hm pins s1 σ H1 x [] v [] Q I1 r1 .nil q1))⟩
theorem kP (pa:PlainAttrs T) (slot:Slot T name id) (hty:typeOf (.builtin id) = pure (.type "method_descriptor")) (hm:MtR X id r) (ho:PE X o to) (ha:PA X (e :: es) t)
  (hbase:attributeBase o name X.env (eval o X.env) = eval o X.env:=by rfl)
  (hfew:((backTo cpos (starEach (e :: es) X.env)).all (fun x=>!x.1) && (backToKw cpos (keywordEach [] X.env)).all (fun x=>x.1.isSome)
   && decide ((e :: es).length + ([]:List Keyword).length + (if ([]:List Keyword).isEmpty then 0 else 1) < 30)) = true:=by rfl)
  (hline:(apos.endLine == cpos.line) = true:=by rfl) (hs:starEach (e :: es) X.env = (false,eval e X.env) :: starEach es X.env:=by rfl) (hplain:(backTo cpos (starEach es X.env)).any (·.1) = false:=by rfl) :
  PE X (.Call (.Attribute o name apos) (e :: es) [] cpos) (tBM X.K T r to t):=by
 intro pins s σ H Q I h
 refine wpAny_Call_method_late hbase hfew hline rfl (thn (ho pins s σ H _ I h) fun v s1 ⟨x,H1,I1,r1,ty,q1⟩=>?_)
 obtain ⟨h1,h2⟩:=tyV_is I1 r1 ty
 refine ⟨T,id,pa,slot,hty,h1,h2,?_⟩
 have hA:=ha cpos pins s1 σ H1 _ I1 q1
 rw [hs] at hA ⊢
 refine Calls.callWith_builtin (by show (false || (backTo cpos (starEach es X.env)).any (·.1)) = false; rw [hplain] <;> rfl) (Calls.evalArgs_plain ?_)
 exact thn hA fun us s2 ⟨vs,H2,I2,r2,q2⟩=>hm pins s2 σ H2 x vs v us Q I2 r1 r2 q2
end
end L2
namespace L2
open PySem PySem.Spec PyProof.Rows
def MtM (X:Cx) (id:String) (r:V -> List V -> Hp -> VK -> Prop):Prop :=
 ∀ (pins:List (Addr × Obj)) (s:Shared) (σ:St) (H:Hp) (x:V) (xs:List V) (v:Value) (us:List Value) (Q:VK),Inv X pins σ H s -> RelV x v -> Vals xs us -> r x xs H Q ->
  wpAny (model X.prog X.w) X.A (call (.builtin id) (v :: us)) (EP X pins σ Q) X.xe s
theorem Vals.one:∀ {x:V} {us:List Value},Vals [x] us -> ∃ u,us = [u] /\ RelV x u
 | _,_,.cons r .nil=>⟨_,rfl,r⟩
theorem Vals.zero:∀ {us:List Value},Vals [] us -> us = []
 | _,.nil=>rfl
theorem Vals.dropLast {xs:List V} {us:List Value} (h:Vals xs us):Vals xs.dropLast us.dropLast:=by
 induction h with
 | nil=>exact .nil
 | cons r t ih =>
  cases t with
  | nil=>exact .nil
  | cons q t'=>exact .cons r ih
theorem erase_last {α:Type} (l:List α):l.eraseIdx (l.length - 1) = l.dropLast:=by
 induction l with
 | nil=>rfl
 | cons a r ih =>
  cases r with
  | nil=>rfl
  | cons b r =>
   have e:(a :: b :: r).length - 1 = ((b :: r).length - 1) + 1:=by
    have h1:(a :: b :: r).length = r.length + 2:=rfl
    have h2:(b :: r).length = r.length + 1:=rfl
    omega
   rw [e,List.eraseIdx_cons_succ,ih]
   all_goals rfl
section
variable {X:Cx} {pins:List (Addr × Obj)} {σ:St} {H:Hp} {s:Shared} {l b:Addr} {xs ys zs:List V}
theorem Inv.lset {its its':List Value} {n:Nat} {f:Array Value -> Array Value} {t':Nat} (I:Inv X pins σ H s) (hH:H l = some (.lst xs))
  (e:s.heap.get? l = some { cls:=.type "list",data:=.seq its.toArray n }) (hf:f its.toArray = its'.toArray) (hv:Vals ys its') (hz:ys.length <= sizeLine) :
  Inv X pins σ (upd H l (.lst ys)) { s with heap:=s.heap.update l (Obj.mapSeq f),toks:=t' }:=by
 have q:=PySem.IsL.update e f
 rw [hf] at q
 refine I.write (x:=l) (e:=l) (by rw [hH]; exact trivial) (.inl rfl) (fun b' u hb hu=>(Heap.get?_update_other s.heap (Obj.mapSeq f) (Ne.symm hb)).trans hu) ⟨_,q⟩ ?_
 exact ⟨hz,its',_,hv,q⟩
theorem Inv.lnew {its:List Value} {t':Nat} (I:Inv X pins σ H s) (hv:Vals ys its) (hz:ys.length <= sizeLine) :
  Inv X pins σ (upd H s.heap.objs.size (.lst ys)) { s with heap:=s.heap.push { cls:=.type "list",data:=.seq its.toArray },toks:=t' } :=
 I.laid (fun _ _ q=>Heap.get?_push_of_some _ q) (Nat.le_refl _) ⟨hz,its,0,hv,Heap.get?_push_size _ rfl⟩
theorem Inv.fresh (I:Inv X pins σ H s):H s.heap.objs.size = none:=I.hok.fresh (Nat.le_refl _)
theorem Inv.lstM (I:Inv X pins σ H s) (hH:H l = some (.lst xs)):xs.length <= sizeLine /\ ∃ (its:List Value) (n:Nat),Vals xs its /\ xs.length = its.length /\ s.heap.get? l = some { cls:=.type "list",data:=.seq its.toArray n }:=by
 obtain ⟨z,its,n,r,e⟩:=I.hok l _ hH
 exact ⟨z,its,n,r,r.length,e⟩
theorem notLongL {n:Nat} (h:n <= sizeLine):Builtin.List.listTooLong n = false:=by
 unfold Builtin.List.listTooLong
 exact decide_eq_false (by omega)
end
section
variable {X:Cx}
def rAppend:V -> List V -> Hp -> VK -> Prop:=fun x vs H Q=>∃ l xs y,x = .ref l /\ vs = [y] /\ H l = some (.lst xs) /\ xs.length < sizeLine /\ Q .non (upd H l (.lst (xs ++ [y])))
theorem xH:MtM X "list.append" rAppend:=by
 intro pins s σ H x vs v us Q I rx rv h
 obtain ⟨l,xs,y,rfl,rfl,hH,hz,q⟩:=h
 cases rx
 obtain ⟨u,rfl,ru⟩:=rv.one
 obtain ⟨z,its,n,r,hl,e⟩:=I.lstM hH
 refine call_meets F.slot_list_append ⟨_,e,rfl⟩ F.entry_list_append (F.args_list_append_2 _ _) (PySem.list_append l its.toArray n u (by rw [List.size_toArray]; omega)) ⟨e,?_⟩
 refine ⟨.non,_,I.lset (its':=its ++ [u]) hH e (by simp) (r.append (.cons ru .nil)) ?_,rfl,q⟩
 rw [List.length_append,List.length_singleton]
 omega
def rPop:V -> List V -> Hp -> VK -> Prop:=fun x vs H Q=>∃ l xs y,x = .ref l /\ vs = [] /\ H l = some (.lst xs) /\ xs[xs.length - 1]? = some y /\ Q y (upd H l (.lst xs.dropLast))
theorem mt_pop:MtM X "list.pop" rPop:=by
 intro pins s σ H x vs v us Q I rx rv h
 obtain ⟨l,xs,y,rfl,rfl,hH,hy,q⟩:=h
 cases rx
 have hus:=rv.zero
 subst hus
 obtain ⟨z,its,n,r,hl,e⟩:=I.lstM hH
 obtain ⟨u,hu,ru⟩:=r.get hy
 have hy':its.toArray[its.toArray.size - 1]? = some u:=by
  show its.toArray[its.length - 1]? = some u
  rw [← Array.getElem?_toList,← hl]
  exact hu
 refine call_meets F.slot_list_pop ⟨_,e,rfl⟩ F.entry_list_pop (F.args_list_pop_1 _) (MeetsSeq.list_pop_last l its.toArray n u hy' (by rw [List.size_toArray]; omega)) ⟨e,?_⟩
 refine ⟨y,_,I.lset (its':=its.dropLast) hH e ?_ r.dropLast ?_,ru,q⟩
 ·show its.toArray.eraseIdxIfInBounds (its.toArray.size - 1) = its.dropLast.toArray
  rw [List.size_toArray,List.eraseIdxIfInBounds_toArray,erase_last]
 ·rw [List.length_dropLast]
  omega
def rClear:V -> List V -> Hp -> VK -> Prop:=fun x vs H Q=>∃ l xs,x = .ref l /\ vs = [] /\ H l = some (.lst xs) /\ Q .non (upd H l (.lst []))
theorem mt_clear:MtM X "list.clear" rClear:=by
 intro pins s σ H x vs v us Q I rx rv h
 obtain ⟨l,xs,rfl,rfl,hH,q⟩:=h
 cases rx
 have hus:=rv.zero
 subst hus
 obtain ⟨z,its,n,r,hl,e⟩:=I.lstM hH
 refine call_meets F.slot_list_clear ⟨_,e,rfl⟩ F.entry_list_clear (F.args_list_clear_1 _) (AutoSeq1.list_clear_list_0 l its.toArray n (by rw [List.size_toArray]; omega)) ⟨e,?_⟩
 exact ⟨.non,_,I.lset (its':=[]) (ys:=[]) hH e rfl .nil (Nat.zero_le _),rfl,q⟩
def rCat:R2:=fun x y H Q=>∃ l b xs zs,x = .ref l /\ y = .ref b /\ H l = some (.lst xs) /\ H b = some (.lst zs) /\ xs.length + zs.length <= sizeLine /\ ∀ p,H p = none -> Q (.ref p) (upd H p (.lst (xs ++ zs)))
theorem j4:OpR X (binaryOp .Add) rCat:=by
 intro pins s σ H x y v u Q I rx ry h
 obtain ⟨l,b,xs,zs,rfl,rfl,hH,hB,hz,q⟩:=h
 cases rx
 cases ry
 obtain ⟨z,its,n,r,hl,e⟩:=I.lstM hH
 obtain ⟨z2,its2,n2,r2,hl2,e2⟩:=I.lstM hB
 refine PySem.P.add_list e e2 ?_ (by rw [List.size_toArray,List.size_toArray]; omega)
 have ea:its.toArray ++ its2.toArray = (its ++ its2).toArray:=by simp
 rw [ea]
 exact ⟨.ref _,_,I.lnew (t':=s.toks) (r.append r2) (by rw [List.length_append]; omega),rfl,q _ I.fresh⟩
end
section
variable {prog:Program} {w:World} {A:Around} {E:Value -> Shared -> Prop} {s:Shared}
set_option maxRecDepth 100000 in
end
end L2
namespace L2
open PySem PySem.Spec PyProof.Rows
section
variable {κ:Type} [DecidableEq κ]
def valV (kvs:List (κ × V)) (k:κ):Option V:=(kvs.find? fun kv=>decide (kv.1 = k)).map (·.2)
def putK (kvs:List (κ × V)) (k:κ) (v:V):List (κ × V) :=
 if (kvs.any fun kv=>decide (kv.1 = k)) = true then kvs.map (fun kv=>if kv.1 = k then (kv.1,v) else kv) else kvs ++ [(k,v)]
theorem valV_nil {k:κ}:valV ([]:List (κ × V)) k = none:=rfl
theorem yU {p:κ × V} {r:List (κ × V)} {k:κ} (e:p.1 = k):valV (p :: r) k = some p.2:=by simp [valV,List.find?_cons,e]
theorem yV {p:κ × V} {r:List (κ × V)} {k:κ} (e:¬ p.1 = k):valV (p :: r) k = valV r k:=by simp [valV,List.find?_cons,e]
theorem xX (k:κ):∀ kvs:List (κ × V),(kvs.any fun kv=>decide (kv.1 = k)) = (valV kvs k).isSome
 | []=>rfl
 | p :: r=>by
  rw [List.any_cons]
  by_cases e:p.1 = k
  ·simp only [yU e,decide_eq_true e,Bool.true_or,Option.isSome_some]
  ·rw [yV e,decide_eq_false e,Bool.false_or]; exact xX k r
theorem valV_map (k j:κ) (y:V):∀ kvs:List (κ × V),valV (kvs.map fun kv=>if kv.1 = k then (kv.1,y) else kv) j = (valV kvs j).map fun x=>if j = k then y else x
 | []=>rfl
 | p :: r=>by
  have ih:=valV_map k j y r
  rw [List.map_cons]
  by_cases h:p.1 = k
  ·rw [if_pos h]
   by_cases e:p.1 = j
   ·rw [yU (p:=(p.1,y)) e,yU e,Option.map_some,if_pos (e.symm.trans h)]
   ·rw [yV (p:=(p.1,y)) e,yV e,ih]
  ·rw [if_neg h]
   by_cases e:p.1 = j
   ·rw [yU (p:=p) e,yU e,Option.map_some,if_neg (fun z=>h (e.trans z))]
   ·rw [yV (p:=p) e,yV e,ih]
theorem valV_snoc (k j:κ) (y:V):∀ kvs:List (κ × V),valV kvs k = none -> valV (kvs ++ [(k,y)]) j = if j = k then some y else valV kvs j
 | [],_=>by
  by_cases e:k = j
  ·rw [if_pos e.symm]; exact yU (p:=(k,y)) e
  ·rw [if_neg (fun z=>e z.symm)]; exact yV (p:=(k,y)) e
 | p :: r,hn=>by
  rw [List.cons_append]
  have hk:¬ p.1 = k:=fun z=>by rw [yU z] at hn; cases hn
  rw [yV hk] at hn
  have ih:=valV_snoc k j y r hn
  by_cases e:p.1 = j
  ·rw [yU e,yU e,if_neg (fun z=>hk (e.trans z))]
  ·rw [yV e,yV e,ih]
theorem valV_put (kvs:List (κ × V)) (k j:κ) (y:V):valV (putK kvs k y) j = if j = k then some y else valV kvs j:=by
 unfold putK
 by_cases a:(kvs.any fun kv=>decide (kv.1 = k)) = true
 ·rw [if_pos a,valV_map]
  rw [xX] at a
  by_cases e:j = k
  ·obtain ⟨x,hx⟩:=Option.isSome_iff_exists.mp a
   rw [if_pos e,e,hx,Option.map_some,if_pos rfl]
  ·rw [if_neg e]
   cases valV kvs j with
   | none=>rfl
   | some x=>rw [Option.map_some,if_neg e]
 ·rw [if_neg a]
  refine valV_snoc k j y kvs ?_
  rw [xX] at a
  cases q:valV kvs k with
  | none=>rfl
  | some x=>rw [q] at a; exact (a rfl).elim
theorem xC (kvs:List (κ × V)) (k:κ) (v:V):(putK kvs k v).length <= kvs.length + 1:=by
 unfold putK
 split
 ·rw [List.length_map]; omega
 ·rw [List.length_append,List.length_cons,List.length_nil]; omega
theorem putK_new {kvs:List (κ × V)} {k:κ} (v:V) (h:valV kvs k = none):putK kvs k v = kvs ++ [(k,v)]:=by
 unfold putK
 rw [xX,h]
 exact if_neg (by decide)
theorem RelO.isSome_eq {o:Option V} {u:Option Value} (r:RelO o u):o.isSome = u.isSome:=by
 cases o with
 | none=>cases u with
  | none=>rfl
  | some _=>exact (show False from r).elim
 | some _=>cases u with
  | none=>exact (show False from r).elim
  | some _=>rfl
theorem RelO.getD {o:Option V} {u:Option Value} {d:V} {d':Value} (r:RelO o u) (rd:RelV d d'):RelV (o.getD d) (u.getD d'):=by
 cases o with
 | none=>cases u with
  | none=>exact rd
  | some _=>exact (show False from r).elim
 | some _=>cases u with
  | none=>exact (show False from r).elim
  | some _=>exact r
theorem KV.val {kvs:List (κ × V)} {vs:List (κ × Value)} (r:KV kvs vs) (k:κ):RelO (valV kvs k) (valueAt vs k):=by
 unfold KV at r
 induction r with
 | nil=>exact True.intro
 | @cons p q ps qs h t ih =>
  obtain ⟨h1,h2⟩:=h
  by_cases e:p.1 = k
  ·have e':q.1 = k:=h1.symm.trans e
   have b:valueAt (q :: qs) k = some q.2:=by simp [valueAt,List.find?_cons,e']
   rw [yU e,b]; exact h2
  ·have e':¬ q.1 = k:=fun z=>e (h1.trans z)
   have b:valueAt (q :: qs) k = valueAt qs k:=by simp [valueAt,List.find?_cons,e']
   rw [yV e,b]; exact ih
theorem KV.any {kvs:List (κ × V)} {vs:List (κ × Value)} (r:KV kvs vs) (k:κ):(kvs.any fun kv=>decide (kv.1 = k)) = vs.any fun kv=>decide (kv.1 = k):=by
 unfold KV at r
 induction r with
 | nil=>rfl
 | cons h t ih=>rw [List.any_cons,List.any_cons,ih,h.1]
theorem KV.repl {kvs:List (κ × V)} {vs:List (κ × Value)} (r:KV kvs vs) (k:κ) {y:V} {u:Value} (ry:RelV y u) :
  KV (kvs.map fun kv=>if kv.1 = k then (kv.1,y) else kv) (vs.map fun kv=>if kv.1 = k then (kv.1,u) else kv):=by
 unfold KV at r ⊢
 induction r with
 | nil=>exact .nil
 | @cons p q ps qs h t ih =>
  rw [List.map_cons,List.map_cons]
  refine .cons ?_ ih
  obtain ⟨h1,h2⟩:=h
  by_cases e:p.1 = k
  ·rw [if_pos e,if_pos (h1.symm.trans e)]; exact ⟨h1,ry⟩
  ·rw [if_neg e,if_neg (fun z=>e (h1.trans z))]; exact ⟨h1,h2⟩
theorem KV.put {kvs:List (κ × V)} {vs:List (κ × Value)} (r:KV kvs vs) (k:κ) {y:V} {u:Value} (ry:RelV y u):KV (putK kvs k y) (stored vs k u):=by
 unfold putK stored
 rw [r.any k]
 by_cases e:(vs.any fun kv=>decide (kv.1 = k)) = true
 ·rw [if_pos e,if_pos e]; exact r.repl k ry
 ·rw [if_neg e,if_neg e]; exact Paired.snoc r ⟨rfl,ry⟩
theorem KV.length {kvs:List (κ × V)} {vs:List (κ × Value)} (r:KV kvs vs):kvs.length = vs.length:=Paired.length r
end
theorem kV_is {P:Program} {w:World} {k:Key} {u:Value} (r:RelV (kV k) u):(yC P w).is k u = true:=by
 cases k with
 | inl i=>obtain ⟨t,e⟩:=(show ∃ t,u = Value.int i t from r); subst e; exact mixKind_int P w i t
 | inr x=>obtain ⟨t,e⟩:=(show ∃ t,u = Value.str x t from r); subst e; exact mixKind_str P w x t
theorem items_are {P:Program} {w:World}:∀ {ks:List Key} {us:List Value},Vals (ks.map kV) us -> ItemsAre (yC P w) ks us
 | [],_,r=>by rw [List.map_nil] at r; cases r; exact .nil
 | k :: ks,_,r=>by
  rw [List.map_cons] at r
  cases r with
  | cons h t=>exact .cons (kV_is h) (items_are t)
abbrev KT (H:Hp):List (List Key × V) -> List (List Key × Addr × Value) -> Prop:=Paired fun p q=>p.1 = q.1 /\ H q.2.1 = some (.tup (p.1.map kV)) /\ RelV p.2 q.2.2
theorem KT.val {H:Hp} {kvs:List (List Key × V)} {xs:List (List Key × Addr × Value)} (r:KT H kvs xs) (k:List Key):RelO (valV kvs k) ((atKey xs k).map (·.2)):=by
 induction r with
 | nil=>exact True.intro
 | @cons p q ps qs h t ih =>
  obtain ⟨h1,_,h2⟩:=h
  by_cases e:p.1 = k
  ·have e':q.1 = k:=h1.symm.trans e
   have b:atKey (q :: qs) k = some q.2:=by simp [atKey,List.find?_cons,e']
   rw [yU e,b]; exact h2
  ·have e':¬ q.1 = k:=fun z=>e (h1.trans z)
   have b:atKey (q :: qs) k = atKey qs k:=by simp [atKey,List.find?_cons,e']
   rw [yV e,b]; exact ih
theorem KT.repl {H:Hp} {kvs:List (List Key × V)} {xs:List (List Key × Addr × Value)} (r:KT H kvs xs) (k:List Key) {y:V} {u:Value} (ry:RelV y u) :
  KT H (kvs.map fun kv=>if kv.1 = k then (kv.1,y) else kv) (xs.map (putAt k u)):=by
 induction r with
 | nil=>exact .nil
 | @cons p q ps qs h t ih =>
  rw [List.map_cons,List.map_cons]
  refine .cons ?_ ih
  obtain ⟨h1,h2,h3⟩:=h
  unfold putAt
  by_cases e:p.1 = k
  ·rw [if_pos e,if_pos (h1.symm.trans e)]; exact ⟨h1,h2,ry⟩
  ·rw [if_neg e,if_neg (fun z=>e (h1.trans z))]; exact ⟨h1,h2,h3⟩
theorem KT.put {H:Hp} {kvs:List (List Key × V)} {xs:List (List Key × Addr × Value)} (r:KT H kvs xs) (k:List Key) {b:Addr} {y:V} {u:Value} (hb:H b = some (.tup (k.map kV))) (ry:RelV y u) :
  KT H (putK kvs k y) (storedH xs k b u):=by
 have e:(kvs.any fun kv=>decide (kv.1 = k)) = (atKey xs k).isSome:=by
  rw [xX,(r.val k).isSome_eq,Option.isSome_map]
 unfold putK storedH
 rw [e]
 by_cases q:(atKey xs k).isSome = true
 ·rw [if_pos q,if_pos q]; exact r.repl k ry
 ·rw [if_neg q,if_neg q]; exact Paired.snoc r ⟨rfl,hb,ry⟩
theorem KT.keeps {H H':Hp} {kvs:List (List Key × V)} {xs:List (List Key × Addr × Value)} (r:KT H kvs xs) (ht:∀ b ys,H b = some (.tup ys) -> H' b = some (.tup ys)):KT H' kvs xs :=
 Paired.mapP r fun _ _ z=>⟨z.1,ht _ _ z.2.1,z.2.2⟩
section
variable {P:Program} {w:World} {H:Hp} {h:Heap} {a:Addr}
theorem rd_of {u:HO} (ok:HOk P w H h) (e:Rd H a u):ObjOk P w H h a u:=e.ok ok
theorem dk_rd {kvs:List (Key × V)} (ok:HOk P w H h) (e:Rd H a (.dK kvs)):kvs.length <= sizeLine /\ (a == sysModules) = false /\ ∃ vs,KV kvs vs /\ h.DictOf (yC P w) a vs :=
 show ObjOk P w H h a (.dK kvs) from rd_of ok e
theorem dk_of {kvs:List (Key × V)} (ok:HOk P w H h) (e:H a = some (.dK kvs)):kvs.length <= sizeLine /\ (a == sysModules) = false /\ ∃ vs,KV kvs vs /\ h.DictOf (yC P w) a vs:=dk_rd ok (.inl e)
theorem key_of {ks:List Key} (ok:HOk P w H h) (e:H a = some (.tup (ks.map kV))):(tupleKind (yC P w)).is h ks a:=by
 obtain ⟨_,its,r,o,h1,h2,n,h3⟩:=(show ObjOk P w H h a (.tup (ks.map kV)) from ok a _ e)
 exact ⟨o,its.toArray,n,h1,h2,h3,by simpa using items_are r⟩
theorem dt_rd {kvs:List (List Key × V)} (ok:HOk P w H h) (e:Rd H a (.dT kvs)):kvs.length <= sizeLine /\ (a == sysModules) = false /\
  ∃ xs,KT H kvs xs /\ h.DictOfH (tupleKind (yC P w)) a xs:=by
 obtain ⟨z,y,xs,r,o,es,ep,h1,h2,h3,h4,h5⟩:=(show ObjOk P w H h a (.dT kvs) from rd_of ok e)
 refine ⟨z,y,xs,r,o,es,ep,h1,h2,h3,h4,fun x hx=>?_,h5⟩
 have all:∀ {l:List (List Key × V)} {m:List (List Key × Addr × Value)},KT H l m -> ∀ x ∈ m,(tupleKind (yC P w)).is h x.1 x.2.1:=by
  intro l m q
  induction q with
  | nil=>intro x hx; exact nomatch hx
  | @cons p q ps qs hq t ih =>
   intro x hx
   rcases List.mem_cons.mp hx with e | hx
   ·subst e
    exact key_of ok (by rw [← hq.1]; exact hq.2.1)
   ·exact ih x hx
 exact all r x hx
theorem dt_of {kvs:List (List Key × V)} (ok:HOk P w H h) (e:H a = some (.dT kvs)):kvs.length <= sizeLine /\ (a == sysModules) = false /\
  ∃ xs,KT H kvs xs /\ h.DictOfH (tupleKind (yC P w)) a xs:=dt_rd ok (.inl e)
end
def DGet (H:Hp) (a:Addr) (y:V) (r:Option V):Prop :=
 (∃ kvs k,Rd H a (.dK kvs) /\ y = kV k /\ r = valV kvs k) \/ ∃ kvs k b,Rd H a (.dT kvs) /\ y = .ref b /\ H b = some (.tup (k.map kV)) /\ r = valV kvs k
def DPut (H:Hp) (a:Addr) (y v:V) (H':Hp):Prop :=
 (∃ kvs k,H a = some (.dK kvs) /\ y = kV k /\ kvs.length < sizeLine /\ H' = upd H a (.dK (putK kvs k v))) \/
 ∃ kvs k b,H a = some (.dT kvs) /\ y = .ref b /\ H b = some (.tup (k.map kV)) /\ kvs.length < sizeLine /\ H' = upd H a (.dT (putK kvs k v))
theorem DGet.k {H:Hp} {a:Addr} {kvs:List (Key × V)} {k:Key} (e:H a = some (.dK kvs)):DGet H a (kV k) (valV kvs k):=.inl ⟨kvs,k,.inl e,rfl,rfl⟩
theorem DPut.k {H:Hp} {a:Addr} {kvs:List (Key × V)} {k:Key} {v:V} (e:H a = some (.dK kvs)) (hl:kvs.length < sizeLine):DPut H a (kV k) v (upd H a (.dK (putK kvs k v))):=.inl ⟨kvs,k,e,rfl,hl,rfl⟩
section
variable {X:Cx} {pins:List (Addr × Obj)} {σ:St} {H:Hp} {s:Shared} {a:Addr} {y v:V} {u r:Value} {o:Option V} {A:Around} {E:Value -> Shared -> Prop}
theorem Inv.big (I:Inv X pins σ H s):sysModules < s.heap.objs.size:=by
 have h:mainGlobals < s.heap.objs.size:=(I.mod.glob.keeps I.bk).lt
 exact Nat.lt_trans (by decide) h
theorem d_getItem {Q:Value -> Shared -> Prop} (hu:A.units + 1 < cLine) (I:Inv X pins σ H s) (g:DGet H a y (some v)) (ry:RelV y u) (h:∀ w' s',Inv X pins σ H s' -> RelV v w' -> Q w' s') :
  wpAny (model X.prog X.w) A (getItem (.ref a) u) Q E s:=by
 rcases g with ⟨kvs,k,e,ey,l⟩ | ⟨kvs,k,b,e,ey,eb,l⟩
 ·subst ey
  obtain ⟨z,hd,vs,rel,dd⟩:=dk_rd I.hok e
  obtain ⟨w',hw,rw'⟩:=RelO.some_of (v:=v) (o:=valueAt vs k) (by rw [l]; exact rel.val k)
  exact wpAny_getItem_of (kV_is ry) dd.mapOf hw (h w' _ (I.tok _) rw')
 ·subst ey
  cases (show u = Value.ref b from ry)
  obtain ⟨z,hd,xs,rel,dd⟩:=dt_rd I.hok e
  obtain ⟨w',hw,rw'⟩:=RelO.some_of (v:=v) (o:=(atKey xs k).map (·.2)) (by rw [l]; exact rel.val k)
  obtain ⟨p,hp,hp2⟩:=Option.map_eq_some_iff.mp hw
  refine wpAny_getItem_heap (tupleKind_room_in1 hu) (key_of I.hok eb) dd hp ?_
  rw [hp2]
  exact h w' _ (I.tok _) rw'
theorem d_in {Q:Value -> Shared -> Prop} (hu:A.units + 1 < cLine) (I:Inv X pins σ H s) (g:DGet H a y o) (ry:RelV y u) (h:∀ s',Inv X pins σ H s' -> Q (.bool o.isSome) s') :
  wpAny (model X.prog X.w) A (compareOp .In u (.ref a)) Q E s:=by
 rcases g with ⟨kvs,k,e,ey,l⟩ | ⟨kvs,k,b,e,ey,eb,l⟩
 ·subst ey
  obtain ⟨z,hd,vs,rel,dd⟩:=dk_rd I.hok e
  refine wpAny_in_of (kV_is ry) hd dd.mapOf ?_
  rw [← (rel.val k).isSome_eq,← l]
  exact h _ (I.tok _)
 ·subst ey
  cases (show u = Value.ref b from ry)
  obtain ⟨z,hd,xs,rel,dd⟩:=dt_rd I.hok e
  refine wpAny_in_heap (tupleKind_room_in1 hu) (key_of I.hok eb) hd dd ?_
  have q:=(rel.val k).isSome_eq
  rw [Option.isSome_map] at q
  rw [← q,← l]
  exact h _ (I.tok _)
theorem d_notIn {Q:Value -> Shared -> Prop} (hu:A.units + 1 < cLine) (I:Inv X pins σ H s) (g:DGet H a y o) (ry:RelV y u) (h:∀ s',Inv X pins σ H s' -> Q (.bool (!o.isSome)) s') :
  wpAny (model X.prog X.w) A (compareOp .NotIn u (.ref a)) Q E s:=by
 rcases g with ⟨kvs,k,e,ey,l⟩ | ⟨kvs,k,b,e,ey,eb,l⟩
 ·subst ey
  obtain ⟨z,hd,vs,rel,dd⟩:=dk_rd I.hok e
  refine wpAny_notIn_of (kV_is ry) hd dd.mapOf ?_
  rw [← (rel.val k).isSome_eq,← l]
  exact h _ (I.tok _)
 ·subst ey
  cases (show u = Value.ref b from ry)
  obtain ⟨z,hd,xs,rel,dd⟩:=dt_rd I.hok e
  refine wpAny_notIn_heap (tupleKind_room_in1 hu) (key_of I.hok eb) hd dd ?_
  have q:=(rel.val k).isSome_eq
  rw [Option.isSome_map] at q
  rw [← q,← l]
  exact h _ (I.tok _)
theorem kK {h':Heap} {t':Nat} {ob:HO} (I:Inv X pins σ H s) (mu:Mut (H a)) (hs:Heap.SameBut a s.heap h') (he:∃ q,h'.get? a = some q) (new:ObjOk X.prog X.w (upd H a ob) h' a ob) :
  Inv X pins σ (upd H a ob) { s with heap:=h',toks:=t' } :=
 I.write (x:=a) (e:=a) mu (.inl rfl) (fun b q hb z=>(hs.2 b hb).trans z) he new
theorem dk_new {P:Program} {w:World} {H':Hp} {h':Heap} {kvs:List (Key × V)} {vs:List (Key × Value)} (z:kvs.length <= sizeLine) (hd:(a == sysModules) = false) (rel:KV kvs vs) (dd:h'.DictOf (yC P w) a vs) :
  ObjOk P w H' h' a (.dK kvs):=⟨z,hd,vs,rel,dd⟩
theorem d_setItem {H':Hp} {Q:Unit -> Shared -> Prop} (hu:A.units + 1 < cLine) (I:Inv X pins σ H s) (g:DPut H a y v H') (ry:RelV y u) (rv:RelV v r) (h:∀ s',Inv X pins σ H' s' -> Q () s') :
  wpAny (model X.prog X.w) A (setItem (.ref a) u r) Q E s:=by
 rcases g with ⟨kvs,k,e,ey,l,eH⟩ | ⟨kvs,k,b,e,ey,eb,l,eH⟩
 ·subst ey eH
  obtain ⟨z,hd,vs,rel,dd⟩:=dk_of I.hok e
  have hz:vs.length <= sizeLine:=by rw [← rel.length]; exact z
  have hl:(putK kvs k v).length <= sizeLine:=by have:=xC kvs k v; omega
  refine wpAny_setItem_pairs (hsz:=hz) (kV_is ry) dd fun h' dd' hs=>h _ ?_
  have he:∃ q,h'.get? a = some q:=let ⟨q,_,_,hq,_⟩:=dd'; ⟨q,hq⟩
  exact kK I (by rw [e]; exact True.intro) hs he (dk_new hl hd (rel.put k rv) dd')
 ·subst ey eH
  cases (show u = Value.ref b from ry)
  obtain ⟨z,hd,xs,rel,dd⟩:=dt_of I.hok e
  have hz:xs.length <= sizeLine:=by rw [← Paired.length rel]; exact z
  have hl:(putK kvs k v).length <= sizeLine:=by have:=xC kvs k v; omega
  refine wpAny_setItem_heap (hsz:=hz) (tupleKind_room_in1 hu) (key_of I.hok eb) dd fun h' dd' hs=>h _ ?_
  obtain ⟨q,es,ep,hq,h2,h3,h4,_,h5⟩:=dd'
  refine kK I (by rw [e]; exact True.intro) hs ⟨q,hq⟩ ⟨hl,hd,_,(rel.put k eb rv).keeps fun c ys ec=>?_,q,es,ep,hq,h2,h3,h4,h5⟩
  rw [zI (ne_of ec e (fun z=>nomatch z))]
  exact ec
end
def NoSl (i:Expr):Prop:=∀ ov iv,subscripted i false ov iv = operate [ov,iv] (getItem ov iv)
theorem subD_of {prog:Program} {w:World} {A:Around} {E:Value -> Shared -> Prop} {s:Shared} {env:Env} {value slice:Expr} {pos:Pos} {T id:String} {Q:Value -> Shared -> Prop}
  (hl:typeLookup (.type T) "__getitem__" = pure (some (.builtin id))) (hs:NoSl slice)
  (h:wpAny (model prog w) A (eval value env) (fun o s₁=>wpAny (model prog w) A (eval slice env) (fun i s₂=>s₂.TypeIs o T /\ wpAny (model prog w) A (getItem o i) Q E s₂) E s₁) E s) :
  wpAny (model prog w) A (eval (.Subscript value slice pos) env) Q E s:=by
 refine Subscript_ (wpAny_mono h (fun o s₁ h₁=>wpAny_mono h₁ (fun i s₂ h₂=>?_) fun _ _ x=>x) fun _ _ x=>x)
 obtain ⟨hT,h₂⟩:=h₂
 unfold subscriptTail
 refine wpAny_bind ?_
 rw [getitemInPython_of_ne hT.not_modules]
 refine wpAny_bind (wpAny_specialOf hT hl ?_)
 have fin:wpAny (model prog w) A (subscripted slice false o i) (fun r s₃=>wpAny (model prog w) A (letTemporaryGo value o r >>= fun _=>pure r) Q E s₃) E s₂:=by
  rw [hs o i]
  exact wpAny_operating (wpAny_mono h₂ (fun r s₃ h₃=>wpAny_bind (wpAny_letTemporaryGo (wpAny_pure h₃))) fun _ _ x=>x)
 first
  | exact wpAny_pure (wpAny_bind fin)
  | exact wpAny_bind (wpAny_pure (wpAny_bind fin))
  | exact wpAny_bind fin
theorem dict_typeIs {X:Cx} {pins:List (Addr × Obj)} {σ:St} {H:Hp} {s:Shared} {a:Addr} {y:V} {o:Option V} (I:Inv X pins σ H s) (g:DGet H a y o):s.TypeIs (.ref a) "dict":=by
 rcases g with ⟨kvs,k,e,_,_⟩ | ⟨kvs,k,b,e,_,_,_⟩
 ·obtain ⟨_,_,vs,_,dd⟩:=dk_rd I.hok e
  exact dd.typeIs
 ·obtain ⟨_,_,xs,_,dd⟩:=dt_rd I.hok e
  exact dd.typeIs
def tDGet (td ty:TE):TE:=fun σ H Q=>td σ H fun x H1=>ty σ H1 fun y H2=>∃ a v,x = .ref a /\ DGet H2 a y (some v) /\ Q v H2
def sDPut (td ty tv:TE):TS:=fun D σ H=>tv σ H fun v H1=>td σ H1 fun x H2=>ty σ H2 fun y H3=>∃ a H4,x = .ref a /\ DPut H3 a y v H4 /\ D.nx σ H4
section
variable {X:Cx} {o i e value:Expr} {pos pos' tpos:Pos} {td ty tv:TE}
theorem pe_dget (hu:X.A.units + 1 < cLine) (ho:PE X o td) (hi:PE X i ty) (hs:NoSl i):PE X (.Subscript o i pos) (tDGet td ty):=by
 intro pins s σ H Q I h
 refine subD_of PySem.F.slot_dict_getitem.lookup hs (thn (ho pins s σ H _ I h) fun u s1 ⟨x,H1,I1,rx,q1⟩=>thn (hi pins s1 σ H1 _ I1 q1) fun iv s2 ⟨y,H2,I2,ry,a,v,ex,g,q2⟩=>?_)
 subst ex
 obtain rfl:u = Value.ref a:=rx
 exact ⟨dict_typeIs I2 g,d_getItem hu I2 g ry fun w' s3 I3 rw'=>⟨v,H2,I3,rw',q2⟩⟩
theorem ps_dput (hu:X.A.units + 1 < cLine) (ho:PE X o td) (hi:PE X i ty) (hv:PE X value tv) (hs:swapsWith value (some (.Subscript o i pos')) pos.line X.env = pure false) :
  PS X (.Assign [.Subscript o i pos'] value pos) (sDPut td ty tv):=by
 intro pins s σ H D I h
 refine wpAny_Assign_Subscript (thn (hv pins s σ H _ I h) fun r s1 ⟨v,H1,I1,rv,q1⟩=>thn (ho pins s1 σ H1 _ I1 q1) fun u s2 ⟨x,H2,I2,rx,q2⟩=>thn (hi pins s2 σ H2 _ I2 q2) fun iv s3 ⟨y,H3,I3,ry,a,H4,ex,g,q3⟩=>?_) hs
 subst ex
 obtain rfl:u = Value.ref a:=rx
 exact d_setItem hu I3 g ry rv fun s4 I4=>⟨σ,H4,I4,q3⟩
end
theorem dk_empty {P:Program} {w:World} {H:Hp} (h:Heap) (hb:sysModules < h.objs.size):ObjOk P w H (h.push { cls:=.type "dict",data:=.dict #[] }) h.objs.size (.dK []) :=
 ⟨Nat.zero_le _,beq_eq_false_iff_ne.mpr (Ne.symm (Nat.ne_of_lt hb)),[],.nil,Heap.DictOf.new h⟩
def tDNewK:TE:=fun _ H Q=>∀ p,H p = none -> Q (.ref p) (upd H p (.dK []))
section
variable {X:Cx} {pos:Pos}
theorem pe_dnewK:PE X (.Dict [] [] pos) tDNewK:=fun pins s σ H Q I h =>
 wpAny_Dict_empty ⟨.ref s.heap.objs.size,_,I.laid (a:=s.heap.objs.size) (o:=.dK []) (t':=s.toks) (fun _ _ q=>Heap.get?_push_of_some _ q) (Nat.le_refl _) (dk_empty s.heap I.big),rfl,h _ (I.hok.fresh (Nat.le_refl _))⟩
end
def tPairs:List (TE × TE) -> St -> Hp -> (List (V × V) -> Hp -> Prop) -> Prop
 | [],_,H,Q=>Q [] H
 | (tk,tv) :: r,σ,H,Q=>tk σ H fun x H1=>tv σ H1 fun y H2=>tPairs r σ H2 fun ps H3=>Q ((x,y) :: ps) H3
abbrev VV:List (V × V) -> List (Value × Value) -> Prop:=Paired fun p q=>RelV p.1 q.1 /\ RelV p.2 q.2
def PPs (X:Cx) (pos:Pos) (keys:List (Option Expr)) (values:List Expr) (trs:List (TE × TE)):Prop :=
 ∀ (pins:List (Addr × Obj)) (s:Shared) (σ:St) (H:Hp) (Q:List (V × V) -> Hp -> Prop),Inv X pins σ H s -> tPairs trs σ H Q ->
  wpAny (model X.prog X.w) X.A (evalPairs (pairTrees keys values X.env pos)) (fun vs s'=>∃ ps H',Inv X pins σ H' s' /\ VV ps vs /\ Q ps H') X.xe s
theorem pps_nil {X:Cx} {pos:Pos}:PPs X pos [] [] []:=fun pins s σ H Q I h=>pairTrees_nil_walk ⟨[],H,I,.nil,h⟩
theorem pps_cons {X:Cx} {pos:Pos} {k v:Expr} {ks:List (Option Expr)} {vs:List Expr} {tk tv:TE} {trs:List (TE × TE)} (hk:PE X k tk) (hv:PE X v tv) (hr:PPs X pos ks vs trs) :
  PPs X pos (some k :: ks) (v :: vs) ((tk,tv) :: trs):=fun pins s σ H Q I h =>
 pairTrees_cons_walk (thn (hk pins s σ H _ I h) fun u s1 ⟨x,H1,I1,rx,q1⟩=>thn (hv pins s1 σ H1 _ I1 q1) fun w2 s2 ⟨y,H2,I2,ry,q2⟩ =>
  thn (hr pins s2 σ H2 _ I2 q2) fun ws s3 ⟨ps,H3,I3,rel,q3⟩=>⟨(x,y) :: ps,H3,I3,.cons ⟨rx,ry⟩ rel,q3⟩)
def mergeK (kvs more:List (Key × V)):List (Key × V):=more.foldl (fun acc kv=>putK acc kv.1 kv.2) kvs
theorem KV.merge:∀ {more:List (Key × V)} {rs:List (Key × Value)} {kvs:List (Key × V)} {vs:List (Key × Value)},KV more rs -> KV kvs vs -> KV (mergeK kvs more) (merged vs rs):=by
 intro more rs kvs vs r
 unfold KV at r
 induction r generalizing kvs vs with
 | nil=>intro q; exact q
 | @cons p q ps qs h t ih =>
  intro r0
  have e:KV (putK kvs p.1 p.2) (stored vs q.1 q.2):=by
   have:=r0.put p.1 h.2
   rw [← h.1]; exact this
  exact ih e
theorem jO:∀ (more kvs:List (Key × V)),(mergeK kvs more).length <= kvs.length + more.length
 | [],kvs=>by show kvs.length <= kvs.length + 0; omega
 | p :: r,kvs=>by
  have h1:=jO r (putK kvs p.1 p.2)
  have h2:=xC kvs p.1 p.2
  show (mergeK (putK kvs p.1 p.2) r).length <= _
  rw [List.length_cons]; omega
theorem carries_of {P:Program} {w:World}:∀ {kvs:List (Key × V)} {ws:List (Value × Value)},VV (kvs.map fun kv=>(kV kv.1,kv.2)) ws -> ∃ rs,Carries (yC P w) ws rs /\ KV kvs rs
 | [],_,r=>by rw [List.map_nil] at r; cases r; exact ⟨[],True.intro,.nil⟩
 | p :: kvs,_,r=>by
  rw [List.map_cons] at r
  cases r with
  | @cons a b as bs h t =>
   obtain ⟨rs,c,q⟩:=carries_of (P:=P) (w:=w) t
   obtain ⟨b1,b2⟩:=b
   exact ⟨(p.1,b2) :: rs,⟨kV_is h.1,rfl,c⟩,.cons ⟨rfl,h.2⟩ q⟩
def tDisp (trs:List (TE × TE)):TE:=fun σ H Q=>∀ p,H p = none -> tPairs trs σ (upd H p (.dK [])) fun ps H2=>H2 p = some (.dK []) /\ ∃ kvs:List (Key × V),ps = kvs.map (fun kv=>(kV kv.1,kv.2)) /\ kvs.length <= 15 /\ Q (.ref p) (upd H2 p (.dK (mergeK [] kvs)))
theorem pe_disp {X:Cx} {pos:Pos} {keys:List (Option Expr)} {values:List Expr} {trs:List (TE × TE)} (h:PPs X pos keys values trs) (hall:keys.all (·.isSome) = true) (hl:keys.length = values.length) (h0:keys ≠ [])
  (h15:keys.length <= 15):PE X (.Dict keys values pos) (tDisp trs):=by
 intro pins s σ H Q I q
 have hn:=I.hok.fresh (Nat.le_refl s.heap.objs.size)
 have I1:=I.laid (a:=s.heap.objs.size) (o:=.dK []) (h':=s.heap.push { cls:=.type "dict",data:=.dict #[] }) (t':=s.toks) (fun _ _ q=>Heap.get?_push_of_some _ q) (Nat.le_refl _) (dk_empty s.heap I.big)
 refine wpAny_Dict_walk (knd:=yC X.prog X.w) hall hl h0 h15 (thn (h pins _ σ _ _ I1 (q _ hn)) fun ws s2 ⟨ps,H2,I2,rel,e,kvs,ep,lk,q2⟩=>?_)
 subst ep
 obtain ⟨rs,c,rk⟩:=carries_of (P:=X.prog) (w:=X.w) rel
 obtain ⟨z,hd,vs0,r0,dd⟩:=dk_of I2.hok e
 cases r0
 refine ⟨rs,c,dd,fun h' dd' hs=>⟨.ref s.heap.objs.size,_,?_,rfl,q2⟩⟩
 have hz:(mergeK [] kvs).length <= sizeLine:=by
  have h1:=jO kvs []
  rw [List.length_nil] at h1
  rw [sizeLine_eq]; omega
 have he:∃ q,h'.get? s.heap.objs.size = some q:=let ⟨q,_,_,hq,_⟩:=dd'; ⟨q,hq⟩
 exact kK I2 (by rw [e]; exact True.intro) hs he (dk_new hz hd (rk.merge .nil) dd')
structure M1 (X:Cx) (o:Expr) (m:Str) (apos:Pos) (e:Expr) (cpos:Pos):Prop where
 base:attributeBase o m X.env (eval o X.env) = eval o X.env
 few:((backTo cpos (starEach [e] X.env)).all (fun x=>!x.1) && (backToKw cpos (keywordEach [] X.env)).all (fun x=>x.1.isSome)
  && decide (([e]:List Expr).length + ([]:List Keyword).length + (if ([]:List Keyword).isEmpty then 0 else 1) < 30)) = true
 line:(apos.endLine == cpos.line) = true
 trees:backTo cpos (starEach [e] X.env) = [(false,eval e X.env)]
structure M2 (X:Cx) (o:Expr) (m:Str) (apos:Pos) (e f:Expr) (cpos:Pos):Prop where
 base:attributeBase o m X.env (eval o X.env) = eval o X.env
 few:((backTo cpos (starEach [e,f] X.env)).all (fun x=>!x.1) && (backToKw cpos (keywordEach [] X.env)).all (fun x=>x.1.isSome)
  && decide (([e,f]:List Expr).length + ([]:List Keyword).length + (if ([]:List Keyword).isEmpty then 0 else 1) < 30)) = true
 line:(apos.endLine == cpos.line) = true
 trees:backTo cpos (starEach [e,f] X.env) = [(false,eval e X.env),(false,eval f X.env)]
def IsD (H:Hp) (a:Addr):Prop:=(∃ kvs,Rd H a (.dK kvs)) \/ ∃ kvs,Rd H a (.dT kvs)
theorem isD_at {X:Cx} {pins:List (Addr × Obj)} {σ:St} {H:Hp} {s:Shared} {a:Addr} (I:Inv X pins σ H s) (d:IsD H a) :
  s.TypeIs (.ref a) "dict" /\ (∀ b,Value.ref a = .ref b -> ∃ ob,s.heap.get? b = some ob /\ ob.dict = none) /\ (a == sysModules) = false:=by
 rcases d with ⟨kvs,e⟩ | ⟨kvs,e⟩
 ·obtain ⟨_,hd,vs,_,dd⟩:=dk_rd I.hok e
  refine ⟨dd.typeIs,fun b q=>?_,hd⟩
  cases q
  obtain ⟨ob,_,_,h1,h2,_⟩:=dd
  exact ⟨ob,h1,h2.2.1⟩
 ·obtain ⟨_,hd,xs,_,dd⟩:=dt_rd I.hok e
  refine ⟨dd.typeIs,fun b q=>?_,hd⟩
  cases q
  obtain ⟨ob,_,_,h1,h2,_⟩:=dd
  exact ⟨ob,h1,h2.2.1⟩
section
variable {X:Cx} {pins:List (Addr × Obj)} {σ:St} {H:Hp} {s:Shared} {a:Addr} {y d:V} {u r:Value} {o:Option V} {A:Around} {E:Value -> Shared -> Prop}
theorem d_get2 {Q:Value -> Shared -> Prop} (hu:A.units + 1 < cLine) (I:Inv X pins σ H s) (g:DGet H a y o) (ry:RelV y u) (rd:RelV d r) (h:∀ w' s',Inv X pins σ H s' -> RelV (o.getD d) w' -> Q w' s') :
  wpAny (model X.prog X.w) A (call (.builtin "dict.get") [.ref a,u,r]) Q E s:=by
 rcases g with ⟨kvs,k,e,ey,l⟩ | ⟨kvs,k,b,e,ey,eb,l⟩
 ·subst ey
  obtain ⟨z,hd,vs,rel,dd⟩:=dk_rd I.hok e
  refine call_meetsIn PySem.F.slot_dict_get dd.typeIs PySem.F.entry_dict_get (PySem.F.args_dict_get_3 _ _ _) (meets_dict_get_default (yC X.prog X.w) a (kV_is ry) hd r) ⟨_,dd.mapOf,h _ _ (I.tok _) ?_⟩
  rw [l]
  exact (rel.val k).getD rd
 ·subst ey
  cases (show u = Value.ref b from ry)
  obtain ⟨z,hd,xs,rel,dd⟩:=dt_rd I.hok e
  refine call_meetsIn PySem.F.slot_dict_get dd.typeIs PySem.F.entry_dict_get (PySem.F.args_dict_get_3 _ _ _) (meetsH_dict_get_default (tupleKind (yC X.prog X.w)) a b hd r) ⟨tupleKind_room_in1 hu,k,xs,key_of I.hok eb,dd,h _ _ (I.tok _) ?_⟩
  rw [l]
  exact (rel.val k).getD rd
end
def tDGet2 (td ty tx:TE):TE:=fun σ H Q=>td σ H fun x H1=>∃ a,x = .ref a /\ IsD H1 a /\ ty σ H1 fun y H2=>tx σ H2 fun z H3=>∃ o,DGet H3 a y o /\ Q (o.getD z) H3
section
variable {X:Cx} {o e f:Expr} {apos cpos:Pos} {td ty tx:TE}
theorem pe_dget2 (hu:X.A.units + 1 < cLine) (ho:PE X o td) (he:PE X e ty) (hf:PE X f tx) (m:M2 X o "get" apos e f cpos):PE X (.Call (.Attribute o "get" apos) [e,f] [] cpos) (tDGet2 td ty tx):=by
 intro pins s σ H Q I h
 refine wpAny_Call_method m.base m.few m.line PySem.F.plainAttrs_dict PySem.F.slot_dict_get PySem.F.type_dict_get (thn (ho pins s σ H _ I h) fun u s1 ⟨x,H1,I1,rx,a,ex,d,q1⟩=>?_)
 subst ex
 obtain rfl:u = Value.ref a:=rx
 obtain ⟨t1,t2,_⟩:=isD_at I1 d
 refine ⟨t1,t2,?_⟩
 rw [m.trees]
 refine Calls.callWith_builtin rfl (Calls.evalArgs_plain (Calls.spliced_cons (thn (he pins s1 σ H1 _ I1 q1) fun iv s2 ⟨y,H2,I2,ry,q2⟩ =>
  Calls.spliced_cons (thn (hf pins s2 σ H2 _ I2 q2) fun fv s3 ⟨z,H3,I3,rz,ov,g,q3⟩=>Calls.spliced_nil ?_))))
 exact d_get2 hu I3 g ry rz fun w' s4 I4 rw'=>⟨_,H3,I4,rw',q3⟩
end
end L2
namespace Att
open PySem PySem.W PySem.Calls PyProof.Rows
theorem ints_of_wellAll {P:Params} {h:Heap}:∀ (ns:List Int) (vs:List Value),WellAll P h vs (ns.map WData.int) -> IntsAre vs ns:=by
 intro ns
 induction ns with
 | nil =>
  intro vs w
  rw [List.map_nil] at w
  cases w
  exact .nil
 | cons n ns ih =>
  intro vs w
  rw [List.map_cons] at w
  cases w with
  | cons a b =>
   cases a
   exact .cons _ _ (ih _ b)
theorem script_of {l:OpenLaw} {n:Nat} (hn:l.most = some n) {P:Params} {h:Heap} {args:List WData} {vals:List Value}
  (hpre:l.row.toRowW.claim.pre args = true) (hwl:WellAll P h vals args) :
  ∃ a vs ns,vals = [Value.ref a] /\ args = [WData.list (ns.map WData.int)] /\ h.get? a = some { cls:=.type "list",data:=.seq vs.toArray } /\ IntsAre vs ns /\ ns.length <= n:=by
 have hsh:WShape.hasAll [] args [.list .int] = true:=(pre_splitW hpre).1
 have hc:l.pre.holds [] { args:=args } = true:=(pre_splitW hpre).2
 obtain ⟨d,r,rfl,h1,h2⟩:=hasAllW_cons hsh
 obtain rfl:=hasAllW_nil h2
 obtain ⟨xs,rfl,h3⟩:=hasW_list h1
 obtain ⟨ns,rfl⟩:=items_int h3
 have hlen:ns.length <= n:=by
  unfold OpenLaw.pre at hc
  have h4:(WTm.not (.lt (.lit (.int (n:Int))) (.len (.arg 0)))).holds [] { args:=[.list (ns.map .int)] } = true:=by
   have h4:=(holds_andW hc).1
   rw [hn] at h4
   exact h4
  have h5:=condW_of h4 (w_not (w_lt w_lit (w_len_list (w_arg rfl))))
  rw [List.length_map] at h5
  refine Nat.le_of_not_lt fun q=>?_
  have q':(n:Int) < ((ns.length:Nat):Int):=by omega
  first
   | (rw [decide_eq_true q'] at h5; exact absurd h5 (by decide))
   | (simp at h5; omega)
 cases hwl with
 | cons w1 w2 =>
  cases w2
  cases w1 with
  | list ho hall=>exact ⟨_,_,ns,rfl,rfl,ho,ints_of_wellAll ns _ hall,hlen⟩
theorem post_true (l:OpenLaw) (args:List WData):l.row.toRowW.claim.post args (.bool true) args = true :=
 postW_of (r:=l.row.toRowW) (X:=(true == true))
  (show WShape.has [] (.bool true) .bool = true by first | rfl | decide | simp [WShape.has,WShape.arms,WShape.armsAll])
  (show (WTm.eq .res (.lit (.bool true))).value [] { args:=args,res:=some (.bool true),after:=args } = some (.bool (true == true)) from w_eq_bool (w_res rfl) w_lit) rfl
theorem attach_call {l:OpenLaw} {n:Nat} {q:Program} {loose:List Str} {XP:(Str -> Option Value) -> Heap -> Prop} {YP:World -> Heap -> Prop} {d:DefRec}
  (hn:l.most = some n) (hdf:d.params.defaults = [])
  (call:∀ (w:World) (s₀ s₁:Shared) (mg mb:Str -> Option Value) (fa:Addr) (o:Obj) (pm cd doc:Value) (a:Addr) (vs:List Value) (ns:List Int),
   Ground q loose [] XP w s₀ mg mb s₁.heap -> YP w s₁.heap ->
   s₁.heap.get? fa = some o -> o.data = .func (docDef d.name d.params d.body d.scope pm cd doc) -> s₁.heap.CodeRec cd d.name -> mg d.name = some (.ref fa) ->
   s₁.heap.get? a = some { cls:=.type "list",data:=.seq vs.toArray } -> IntsAre vs ns -> ns.length <= n -> s₁.gens = #[] ->
   codeAny (model l.prog w) callerA (.call (.ref fa) ⟨[.ref a],[]⟩) (fun r s'=>r = .ok (.ret (.bool true)) /\ OldK s₁.heap s'.heap /\ s'.os = s₁.os /\ AllBare s'.gens) s₁) :
  WalkO q loose XP YP l.row.toRowW d [] (fun f vs=>PySem.call f vs):=by
 intro w s₀ s₁ mg mb G Y fa o pm cd doc dV kV ho hd hcd hD hmg hg args vals as hpre hlay hrd hwl hlo
 obtain rfl:dV = .none:=Dflts.none hD hdf
 obtain rfl:kV = .none:=Dflts.noKw hD
 obtain ⟨a,vs,ns,rfl,rfl,hobj,hints,hlen⟩:=script_of hn hpre hwl
 refine enter_call (codeAny_mono (call w s₀ s₁ mg mb fa o pm cd doc a vs ns G Y ho (fd_plain hd) hcd hmg hobj hints hlen hg) fun r s' hq=>?_)
 obtain ⟨rfl,h2,h3,h4⟩:=hq
 exact ⟨.inl ⟨.bool true,.bool true,[],rfl,fun _=>rfl,.bool true,post_true l _,fun _=>⟨List.Pairwise.nil,fun _ hm=>(nomatch hm)⟩⟩,h2,h3,h4⟩
end Att
namespace L2
open PySem PySem.Spec PyProof.Rows
theorem vals_ints:∀ {vs:List Value} {ns:List Int},IntsAre vs ns -> Vals (ns.map V.int) vs
 | _,_,.nil=>.nil
 | _,_,.cons n t h=>.cons ⟨t,rfl⟩ (vals_ints h)
def Only (H:Hp):Prop:=∀ b,H b = none \/ ∃ o xs,H b = some (.frz o (.lst xs))
theorem law_call {P:Program} {w:World} {K:PySem.W.Frag} {mg mb:Str -> Option Value} {CX:CXT} {k:Nat} {fa a:Addr} {fd:FuncData} {x:Str} {sp:Sp} {s₁:Shared} {vs:List Value} {ns:List Int}
  (KX:K.In s₁.heap) (hns:s₁.heap.Ns mainGlobals mg) (hb:s₁.heap.Ns builtinsNs mb) (hbb:∀ x:Str,x ≠ "__name__" -> mb x = bootBuiltins x) (hlim:s₁.heap.NoLimit) (hg:s₁.gens = #[])
  (ha:s₁.heap.get? a = some { cls:=.type "list",data:=.seq vs.toArray }) (hi:IntsAre vs ns) (hl:ns.length <= sizeLine) (hr:Room k callerA)
  (F:∀ base:Heap,K.In base -> base.Ns mainGlobals mg -> FnOk P w K mg base CX k fa fd [x] sp) (hbind:∀ (s:Shared) (u:Value),BindsTo s fd ⟨[u],[]⟩ [(x,u)])
  (hsp:∀ H:Hp,Only H -> SqL K H a (ns.map V.int) -> sp [.ref a] H (fun v _=>v = .bl true) fun _ _ _=>False)
  (hCX:∀ H e s',CX [] H s₁ (fun _ _ _=>False) e s' -> False) :
  codeAny (model P w) callerA (.call (.ref fa) ⟨[.ref a],[]⟩) (fun r s'=>r = .ok (.ret (.bool true)) /\ OldK s₁.heap s'.heap /\ s'.os = s₁.os /\ AllBare s'.gens) s₁:=by
 have rv:=vals_ints hi
 have lenV:=hi.length
 have core:∀ H:Hp,Only H -> SqL K H a (ns.map V.int) -> HOk P w H s₁.heap -> (∀ b,H b ≠ none -> b = a) -> (H a ≠ none -> K.lookup a = none) ->
   codeAny (model P w) callerA (.call (.ref fa) ⟨[.ref a],[]⟩) (fun r s'=>r = .ok (.ret (.bool true)) /\ OldK s₁.heap s'.heap /\ s'.os = s₁.os /\ AllBare s'.gens) s₁:=by
  intro H hO hS hok hA hK
  have base_of:∀ {b:Addr} {o:Obj},s₁.heap.get? b = some o -> H b = none -> (hidT s₁.heap H).get? b = some o:=fun e n=>hidT_get e n
  have noA:∀ {b:Addr} {o:Obj} {es:Array DictEntry} {ep:Nat},s₁.heap.get? b = some o -> o.data = .dict es ep -> H b = none:=fun {b o es ep} e d=>by
   cases q:H b with
   | none=>rfl
   | some u =>
    have e':b = a:=hA b (by rw [q]; simp)
    subst e'
    rw [ha] at e; cases e
    have d':Data.seq vs.toArray _ = Data.dict es ep:=d
    cases d'
  have nsK:∀ {b:Addr} {m:Str -> Option Value},s₁.heap.Ns b m -> (hidT s₁.heap H).Ns b m:=fun {b m} ⟨o,es,ep,e,d,r⟩=>⟨o,es,ep,base_of e (noA e d),d,r⟩
  have hKb:K.In (hidT s₁.heap H):=fun b o e=>base_of (KX b o e) (by
   cases q:H b with
   | none=>rfl
   | some u =>
    have e':b = a:=hA b (by rw [q]; simp)
    subst e'
    rw [hK (by rw [q]; simp)] at e; cases e)
  have hM:Mod K mg (hidT s₁.heap H):=⟨hKb,nsK hns,⟨mb,nsK hb,hbb⟩,let ⟨mc,h1,h2⟩:=hlim; ⟨mc,nsK h1,h2⟩⟩
  have e0:Env0 P w K mg (hidT s₁.heap H) callerA [] s₁ H:=⟨rfl,hM,fun b o e=>of_hidT e,Nat.le_of_eq (hidT_size _ _),trivial,fun b hb=>absurd (show b ∈ ([]:List Addr) from hb) (by simp),hok,.of_eq hg⟩
  refine codeAny_mono ((F _ hKb (nsK hns)).run callerA [] s₁ H ⟨[.ref a],[]⟩ [.ref a] [.ref a] _ _ hr e0 (hbind s₁ (.ref a)) (.cons rfl .nil) (hsp H hO hS)) fun r s' h=>?_
  cases r with
  | error e=>exact (hCX H e s' h).elim
  | ok fl =>
   cases fl with
   | next=>exact False.elim h
   | brk=>exact False.elim h
   | cont=>exact False.elim h
   | ret u =>
    obtain ⟨v,H',os,bare,un,hok',r',q⟩:=h
    have q':v = .bl true:=q
    subst q'
    obtain rfl:u = Value.bool true:=r'
    refine ⟨rfl,OldK.of_keep fun b o e=>?_,os,bare⟩
    cases q:H b with
    | none=>exact un.keep b o e q (by intro z; exact absurd (show b ∈ ([]:List Addr) from z) (by simp)) (by simp)
    | some u =>
     rcases hO b with z | ⟨ob,xs,z⟩
     ·rw [q] at z; cases z
     ·have z2:=un.frzs b ob _ z
      obtain ⟨e1,_⟩:=hok b _ z
      obtain ⟨e2,_⟩:=hok' b _ z2
      rw [e] at e1; cases e1
      exact e2
 cases hk:K.lookup a with
 | some o =>
  have e:=KX a o hk
  rw [ha] at e
  cases e
  refine core (fun _=>none) (fun _=>.inl rfl) (.inr ⟨_,vs.toArray,_,hk,rfl,rfl,rfl,by rw [List.size_toArray,lenV]; exact hl,by simpa using rv⟩) (fun b u z=>by have z':(none:Option HO) = some u:=z; cases z') (fun b z=>absurd rfl z) fun z=>absurd rfl z
 | none =>
  refine core (fun b=>if b = a then some (.frz { cls:=.type "list",data:=.seq vs.toArray } (.lst (ns.map V.int))) else none) (fun b=>?_) (.inl (.inr ⟨{ cls:=.type "list",data:=.seq vs.toArray },if_pos rfl⟩)) (fun b u z=>?_) (fun b z=>?_) fun _=>hk
  ·by_cases hb:b = a
   ·exact .inr ⟨_,_,if_pos hb⟩
   ·exact .inl (if_neg hb)
  ·by_cases hb:b = a
   ·have z':=(if_pos hb).symm.trans z
    cases z'
    subst hb
    exact ⟨ha,by rw [List.length_map]; exact hl,vs,_,rv,ha⟩
   ·have z':=(if_neg hb).symm.trans z
    cases z'
  ·by_cases hb:b = a
   ·exact hb
   ·exact absurd (if_neg hb) z
end L2
namespace L2
open PySem PySem.Spec PyProof.Rows
theorem walk_of {l:PySem.W.OpenLaw} {n k:Nat} {q:Program} {loose:List Str} {XP:(Str -> Option Value) -> Heap -> Prop} {YP:World -> Heap -> Prop} {d:DefRec} {K:Params -> PySem.W.Frag} {CX:World -> CXT} {sp:World -> Sp} {x:Str}
  (hn:l.most = some n) (hn2:n <= sizeLine) (hdf:d.params.defaults = []) (hr:Room k callerA)
  (hY:∀ (w:World) (h:Heap),YP w h -> (K w.params).In h)
  (F:∀ (w:World) (mg:Str -> Option Value) (fa:Addr) (h:Heap),(K w.params).In h -> h.Ns mainGlobals mg -> mg d.name = some (.ref fa) ->
   ∃ fd:FuncData,(∀ (s:Shared) (u:Value),BindsTo s fd ⟨[u],[]⟩ [(x,u)]) /\
    ∀ base:Heap,(K w.params).In base -> base.Ns mainGlobals mg -> FnOk l.prog w (K w.params) mg base (CX w) k fa fd [x] (sp w))
  (hsp:∀ (w:World) (H:Hp) (a:Addr) (ns:List Int),ns.length <= n -> Only H -> SqL (K w.params) H a (ns.map V.int) -> sp w [.ref a] H (fun v _=>v = .bl true) fun _ _ _=>False)
  (hCX:∀ (w:World) (H:Hp) (s:Shared) (e:Value) (s':Shared),CX w [] H s (fun _ _ _=>False) e s' -> False) :
  PySem.W.WalkO q loose XP YP l.row.toRowW d [] (fun f vs=>PySem.call f vs):=by
 refine Att.attach_call hn hdf fun w s₀ s₁ mg mb fa o pm cd doc a vs ns G Y ho hd hcd hmg hobj hints hlen hg=>?_
 have KX:=hY w _ Y
 obtain ⟨fd,hb,hF⟩:=F w mg fa _ KX G.T.g hmg
 exact law_call KX G.T.g G.T.b G.T.builtins G.T.nolimit hg hobj hints (Nat.le_trans hlen hn2) hr hF hb (fun H hO hS=>hsp w H a ns hlen hO hS) fun H e s'=>hCX w H s₁ e s'
end L2
namespace L2
open PySem PySem.Spec PyProof.Rows
def inClass (s:Stmt) (j:Nat):Stmt:=match s with
 | .ClassDef _ _ _ body _ _ _ _ _ _ _=>body.getD j (.Pass ⟨0,0,0,0⟩)
 | _=>.Pass ⟨0,0,0,0⟩
def zN (s:Stmt):Arguments:=match s with
 | .FunctionDef _ a _ _ _ _ _ _ _ _=>a
 | _=>{ posonlyargs:=[],args:=[],vararg:=none,kwonlyargs:=[],kw_defaults:=[],kwarg:=none,defaults:=[] }
def zL (s:Stmt):List Stmt:=match s with
 | .FunctionDef _ _ b _ _ _ _ _ _ _=>b
 | _=>[]
def zC (s:Stmt):Scope:=match s with
 | .FunctionDef _ _ _ _ _ _ sc _ _ _=>sc
 | _=>{ kind:=.function,names:=[],isGenerator:=false,isCoroutine:=false }
abbrev CX0:CXT:=fun _ _ _ _ _ _=>False
abbrev E0:XK:=fun _ _ _=>False
theorem pass0 {X:Cx}:kC CX0 X E0:=fun _ _ _ _ _ _ _ h=>h.elim
structure Fun (K:PySem.W.Frag) (x qual:Str) (st:Stmt) (f:Addr) (fd:FuncData):Prop where
 ex:∃ (oc:Value) (od:Option Addr) (kV doc pm:Value) (an:Option Addr) (cdv ct:Value) (osl:Array (Option Value)),
  fd = PySem.W.fnOf x qual (zN st) (zL st) (zC st) .none kV doc pm an cdv ct /\ K.lookup f = some ⟨oc,od,.func fd,osl⟩ /\ PySem.W.codeIn K cdv qual = true
 kp:PySem.W.keepIn K (.ref f) = true
section
variable {P:Program} {w:World} {K:PySem.W.Frag} {mg:Str -> Option Value} {base:Heap}
theorem Fun.ok {x qual:Str} {st:Stmt} {f:Addr} {fd:FuncData} {N ps:List Str} {k:Nat} {sp:Sp} (F:Fun K x qual st f fd) (S:FnScope N ps (zC st)) (len:∀ vs H Q E,sp vs H Q E -> vs.length = ps.length)
  (hbody:∀ (cdv:Value) (A:Around) (outer:List Env) (s:Shared) (H:Hp) (vs:List V) (Q:VK) (E:XK),Room k (A.deeper (envOfC qual (zC st) s.heap.objs.size f cdv)) -> sp vs H Q E ->
   ∃ t,PSs (cxOf CX0 P w K mg base N qual (zC st) f cdv A outer s H E).nox (zL st) t /\ t { nx:=fun _ H'=>Q .non H',rt:=Q } (start N vs) H):FnOk P w K mg base CX0 (k + 1) f fd ps sp:=by
 obtain ⟨oc,od,kV,doc,pm,an,cdv,ct,osl,rfl,lk,hcd⟩:=F.ex
 refine fn_of lk hcd S len fun A outer s H vs Q E hr hsp=>?_
 obtain ⟨t,h,q⟩:=hbody cdv A outer s H vs Q E hr hsp
 exact ⟨t,h.nox,q⟩
theorem Fun.binds {x qual:Str} {st:Stmt} {f:Addr} {fd:FuncData} {ps:List Str} (F:Fun K x qual st f fd)
  (h:∀ (kV doc pm:Value) (an:Option Addr) (cdv ct:Value) (us:List Value),us.length = ps.length -> bindArgs (PySem.W.fnOf x qual (zN st) (zL st) (zC st) .none kV doc pm an cdv ct) ⟨us,[]⟩ = pure (ps.zip us)):Binds K fd ps []:=by
 obtain ⟨oc,od,kV,doc,pm,an,cdv,ct,osl,rfl,lk,hcd⟩:=F.ex
 exact .all (h kV doc pm an cdv ct)
theorem zR {x qual:Str} {st:Stmt} {f:Addr} {oc:Value} {od an:Option Addr} {osl:Array (Option Value)} {kV doc pm cdv ct:Value} (l:K.lookup f = some ⟨oc,od,.func (PySem.W.fnOf x qual (zN st) (zL st) (zC st) .none kV doc pm an cdv ct),osl⟩)
  (c:PySem.W.codeIn K cdv qual = true) (k:PySem.W.keepIn K (.ref f) = true):Fun K x qual st f (PySem.W.fnOf x qual (zN st) (zL st) (zC st) .none kV doc pm an cdv ct):=⟨⟨oc,od,kV,doc,pm,an,cdv,ct,osl,rfl,l,c⟩,k⟩
end
theorem hu_of {A:Around} {k:Nat} (hr:Room k A):A.units + 1 < cLine:=Nat.lt_of_le_of_lt (Nat.add_le_add_left (by decide:1 <= 64) _) hr.units
section
variable {X:Cx}
theorem pv (i:Nat) {x:Str} {pos:Pos} (hN:X.N[i]? = some x:=by rfl) (hv:Vis X.env.scope x:=by first | exact Or.inl rfl | exact Or.inr (Or.inl rfl) | exact Or.inr (Or.inr rfl)) (hd:(x == ("__debug__":Str)) = false:=by decide)
  (hcd:(x == ("__classdict__":Str)) = false:=by decide):PE X (.Name x pos) (tVar i):=pe_var hN hv hd hcd
end
theorem iteF {A B:Prop} (h:B):if false = true then A else B:=by
 rw [if_neg Bool.false_ne_true]
 exact h
theorem iteT {A B:Prop} (h:A):if true = true then A else B:=by
 rw [if_pos rfl]
 exact h
theorem ite2 {c A B:Prop} [Decidable c] (h1:c -> A) (h2:¬ c -> B):if c then A else B:=by
 by_cases h:c
 ·rw [if_pos h]
  exact h1 h
 ·rw [if_neg h]
  exact h2 h
theorem iteNS {c A B:Prop} [Decidable c] (hc:c) (h:B):if (!decide c) = true then A else B:=by
 rw [decide_eq_true hc]
 exact iteF h
def Same (H H':Hp):Prop:=∀ b o,H b = some o -> H' b = some o
theorem Same.refl (H:Hp):Same H H:=fun _ _ h=>h
theorem Same.trans {H H1 H2:Hp} (a:Same H H1) (b:Same H1 H2):Same H H2:=fun c o h=>b c o (a c o h)
theorem Same.free {H H':Hp} (e:Same H H') {l:Addr} (h:H' l = Option.none):H l = Option.none:=by
 cases q:H l with
 | none=>rfl
 | some o =>
  rw [e l o q] at h
  cases h
theorem Same.seq {K:PySem.W.Frag} {H H':Hp} {a:Addr} {xs:List V} (e:Same H H') (h:SqL K H a xs):SqL K H' a xs:=by
 rcases h with (h | ⟨o,h⟩) | h
 ·exact .inl (.inl (e _ _ h))
 ·exact .inl (.inr ⟨o,e _ _ h⟩)
 ·exact .inr h
section
variable {κ:Type} [DecidableEq κ]
theorem valV_not {kvs:List (κ × V)} {k:κ} (h:valV kvs k = none):¬ k ∈ kvs.map (·.1):=by
 intro m
 obtain ⟨p,hp,e⟩:=List.mem_map.mp m
 have q:(kvs.any fun kv=>decide (kv.1 = k)) = true:=List.any_eq_true.mpr ⟨p,hp,decide_eq_true e⟩
 rw [xX,h] at q
 exact absurd q (by simp)
theorem valV_in {kvs:List (κ × V)} {k:κ} {v:V} (h:valV kvs k = some v):k ∈ kvs.map (·.1):=by
 have q:(kvs.any fun kv=>decide (kv.1 = k)) = true:=by
  rw [xX,h]
  all_goals rfl
 obtain ⟨p,hp,e⟩:=List.any_eq_true.mp q
 exact List.mem_map.mpr ⟨p,hp,of_decide_eq_true e⟩
theorem jX:∀ {l:List κ} {k:κ},l.Nodup -> ¬ k ∈ l -> (l ++ [k]).Nodup
 | [],k,_,_=>by simp
 | a :: r,k,h,hk=>by
  obtain ⟨h1,h2⟩:=List.nodup_cons.mp h
  show (a :: (r ++ [k])).Nodup
  refine List.nodup_cons.mpr ⟨fun m=>?_,jX h2 fun m=>hk (List.mem_cons.mpr (Or.inr m))⟩
  rcases List.mem_append.mp m with q | q
  ·exact h1 q
  ·exact hk (List.mem_cons.mpr (Or.inl (List.mem_singleton.mp q).symm))
end
end L2
namespace L2
open PySem PySem.Spec PyProof.Rows
theorem qB {α β:Type} {f:α -> β -> Sem (ForInStep β)} (g:β -> α -> β):∀ (l:List α) (c:β),(∀ x ∈ l,∀ c,f x c = pure (.yield (g c x))) -> forIn l c f = pure (l.foldl g c)
 | [],c,_=>rfl
 | x :: l,c,h=>by
  rw [List.forIn_cons,h x List.mem_cons_self,pure_bind]
  exact qB g l (g c x) fun y hy=>h y (List.mem_cons_of_mem _ hy)
def closF (cells:List (Str × Addr)) (c:List (Str × Addr)) (x:Str × NameKind):List (Str × Addr) :=
 if x.2 == .free then (match cells.lookup x.1 with | some a=>(x.1,a) :: c | none=>c) else c
def xG (env:Env) (sc:Scope):List (Str × Addr):=sc.names.foldl (closF env.cells) []
theorem x6 {scope:Scope} {env:Env} (h:∀ x ∈ scope.names,x.2 = .free -> ∃ c,env.cells.lookup x.1 = some c):closureFor scope env = pure (xG env scope):=by
 simp only [closureFor]
 rw [qB (closF env.cells) scope.names [] (fun x hx c=>?_)]
 ·rfl
 ·obtain ⟨n,k⟩:=x
  unfold closF
  cases hk:(k == NameKind.free) with
  | true =>
   have e:k = .free:=by simpa using hk
   obtain ⟨a,ha⟩:=h (n,k) hx e
   have ha':env.cells.lookup n = some a:=ha
   simp only [hk,if_true,cellOf,ha',pure_bind]
  | false=>simp only [hk,Bool.false_eq_true,if_false]
theorem xW {β:Type} (x n:Str) (a:β) (l:List (Str × β)):List.lookup x ((n,a) :: l) = if x = n then some a else List.lookup x l:=by
 by_cases h:x = n
 ·have hb:(x == n) = true:=beq_iff_eq.mpr h
  simp only [List.lookup_cons,hb,if_pos h]
 ·have hb:(x == n) = false:=beq_eq_false_iff_ne.mpr h
  simp only [List.lookup_cons,hb,if_neg h]
theorem clos_sub {cells:List (Str × Addr)}:∀ (names:List (Str × NameKind)) (acc:List (Str × Addr)),(∀ x c,acc.lookup x = some c -> cells.lookup x = some c) ->
  ∀ x c,(names.foldl (closF cells) acc).lookup x = some c -> cells.lookup x = some c
 | [],acc,h=>h
 | (n,k) :: r,acc,h=>clos_sub r _ fun x c e=>by
  unfold closF at e
  by_cases hk:((n,k).2 == NameKind.free) = true
  ·rw [if_pos hk] at e
   dsimp only at e
   cases q:cells.lookup n with
   | none=>rw [q] at e; exact h x c e
   | some a =>
    rw [q] at e
    dsimp only at e
    rw [xW] at e
    by_cases hx:x = n
    ·rw [if_pos hx] at e; rw [hx,q]; exact e
    ·rw [if_neg hx] at e; exact h x c e
  ·rw [if_neg hk] at e; exact h x c e
theorem clos_mono {cells:List (Str × Addr)}:∀ (names:List (Str × NameKind)) (acc:List (Str × Addr)) (x:Str),(∃ c,acc.lookup x = some c) -> ∃ c,(names.foldl (closF cells) acc).lookup x = some c
 | [],acc,x,h=>h
 | (n,k) :: r,acc,x,h=>clos_mono r _ x (by
  obtain ⟨c,h⟩:=h
  unfold closF
  by_cases hk:((n,k).2 == NameKind.free) = true
  ·rw [if_pos hk]
   dsimp only
   cases q:cells.lookup n with
   | none=>exact ⟨c,h⟩
   | some a =>
    dsimp only
    rw [xW]
    by_cases hx:x = n
    ·exact ⟨a,by rw [if_pos hx]⟩
    ·exact ⟨c,by rw [if_neg hx]; exact h⟩
  ·rw [if_neg hk]; exact ⟨c,h⟩)
theorem clos_has {cells:List (Str × Addr)} {x:Str} {c:Addr} (hc:cells.lookup x = some c):∀ (names:List (Str × NameKind)) (acc:List (Str × Addr)),(x,NameKind.free) ∈ names -> ∃ c,(names.foldl (closF cells) acc).lookup x = some c
 | [],acc,h=>by cases h
 | (n,k) :: r,acc,h=>by
  rcases List.mem_cons.mp h with e | e
  ·cases e
   refine clos_mono r _ x ⟨c,?_⟩
   unfold closF
   rw [if_pos (by rfl)]
   dsimp only
   rw [hc]
   dsimp only
   rw [xW,if_pos rfl]
  ·exact clos_has hc r _ e
theorem clos_at {env:Env} {sc:Scope} {x:Str} {c:Addr} (hc:env.cells.lookup x = some c) (hm:(x,NameKind.free) ∈ sc.names):(xG env sc).lookup x = some c:=by
 obtain ⟨c',h⟩:=clos_has hc sc.names [] hm
 have e:=clos_sub sc.names [] (fun x c e=>by cases e) x c' h
 rw [hc] at e; cases e
 exact h
theorem qM {env:Env} {sc:Scope} {x:Str} {c:Addr} (h:(xG env sc).lookup x = some c):env.cells.lookup x = some c :=
 clos_sub sc.names [] (fun x c e=>by cases e) x c h
def relK (env:Env) (x:Str) (k:NameKind):NameKind:=if (k == .free && env.scope.kind == .function && env.kindOf x == some .cell) then .cell else k
theorem qX {env:Env} (x:Str):∀ names:List (Str × NameKind),
  (names.map fun (n,k)=>if (k == NameKind.free && env.scope.kind == .function && env.kindOf n == some .cell) then (n,NameKind.cell) else (n,k)).lookup x = (names.lookup x).map (relK env x)
 | []=>rfl
 | (n,k) :: r=>by
  have ih:=qX (env:=env) x r
  rw [List.map_cons]
  have e:(if (k == NameKind.free && env.scope.kind == .function && env.kindOf n == some .cell) = true then (n,NameKind.cell) else (n,k)) = (n,relK env n k):=by
   unfold relK
   split <;> rfl
  dsimp only
  rw [e,xW,xW]
  by_cases hx:x = n
  ·rw [if_pos hx,if_pos hx,hx]; rfl
  ·rw [if_neg hx,if_neg hx]; exact ih
theorem comp_lookup {env:Env} {scope:Scope} {cl:List (Str × Addr)} {C:Addr} (x:Str):(compEnvC scope cl C env).scope.names.lookup x = (scope.names.lookup x).map (relK env x):=qX x scope.names
def srcSt (src:List (Option Nat)) (σ:St):St:=src.map fun o=>o.bind fun i=>(σ[i]?).join
structure CompOk (sc:Scope) (N N':List Str) (src:List (Option Nat)) (scope:Scope):Prop where
 nd:N'.Nodup
 len:src.length = N'.length
 kind:scope.kind = .function
 nocell:∀ y ∈ scope.names,y.2 ≠ .cell
 names:∀ y ∈ scope.names,y.2 = .local -> scope.names.lookup y.1 = some .local
 free:∀ y ∈ scope.names,y.2 = .free -> sc.names.lookup y.1 = some .cell \/ sc.names.lookup y.1 = some .free
 srcs:((src.zip N').all fun (o,x)=>match o with | none=>true | some i=>N[i]? == some x && scope.names.lookup x == some .free) = true
theorem CompOk.at {sc:Scope} {N N':List Str} {src:List (Option Nat)} {scope:Scope} (O:CompOk sc N N' src scope) {j i:Nat} {x:Str} (h1:src[j]? = some (some i)) (h2:N'[j]? = some x):N[i]? = some x /\ scope.names.lookup x = some .free:=by
 have hz:(src.zip N')[j]? = some (some i,x):=by rw [List.getElem?_zip_eq_some]; exact ⟨h1,h2⟩
 have q:=List.all_eq_true.mp O.srcs _ (List.mem_of_getElem? hz)
 have q':(N[i]? == some x && scope.names.lookup x == some .free) = true:=q
 rw [Bool.and_eq_true] at q'
 exact ⟨eq_of_beq q'.1,eq_of_beq q'.2⟩
def Cx.comp (X:Cx) (N':List Str) (scope:Scope) (C:Addr) (s:Shared) (H:Hp) (fp:List Addr):Cx :=
 { X with N:=N',s₀:=s,H₀:=H,env:=compEnvC scope (xG X.env scope) C X.env,outer:=X.stack,ex:=fp,fn:=fun _=>false,pn:=[],xe:=fun _ _=>False }
theorem Un.adopt {fs ex:List Addr} {H H1:Hp} {h h1:Heap} {D:Addr} {o:HO} (u:Un fs ex H H1 h h1) (hD:h.get? D = none) (hH:H D = none):Un fs ex H (upd H1 D o) h h1 where
 keep:=u.keep
 slot:=u.slot
 free:=fun b ob q n hx=>by
  have hb:b ≠ D:=fun z=>by rw [z,hD] at q; cases q
  rw [zI hb]; exact u.free b ob q n hx
 there:=u.there
 tups:=fun b xs q=>by rw [zI (zJ q hH)]; exact u.tups b xs q
 frzs:=fun b ob xs q=>by rw [zI (zJ q hH)]; exact u.frzs b ob xs q
 tbls:=fun b ps q=>by rw [zI (zJ q hH)]; exact u.tbls b ps q
theorem HOk.adopt {P:Program} {w:World} {H:Hp} {h:Heap} {D:Addr} {o:HO} (x:HOk P w H h) (n:H D = none) (new:ObjOk P w (upd H D o) h D o):HOk P w (upd H D o) h:=fun b u e=>by
 by_cases hb:b = D
 ·subst hb; rw [zD] at e; cases e; exact new
 ·rw [zI hb] at e
  exact (x b u e).stay (fun c v _ q=>q) (fun c q=>by rw [zI (zJ q n)]; exact q) fun c xs q=>by rw [zI (zJ q n)]; exact q
def PFi (X:Cx) (ifs:List Expr) (tf:TT):Prop :=
 ∀ (pins:List (Addr × Obj)) (s:Shared) (σ:St) (H:Hp) (Q:Bool -> Hp -> Prop),Inv X pins σ H s -> tf σ H Q ->
  wpAny (model X.prog X.w) X.A (forIn ifs true fun c r=>if r = true then do let ok ← isTrue c X.env (eval c X.env); pure (ForInStep.yield ok) else pure (ForInStep.yield r)) (TP X pins σ Q) X.xe s
def tfNil:TT:=fun _ H Q=>Q true H
theorem qP {X:Cx}:PFi X [] tfNil:=by
 intro pins s σ H Q I h
 rw [List.forIn_nil]
 exact wpAny_pure ⟨H,I,h⟩
theorem pf_one {X:Cx} {c:Expr} {tc:TT} (hc:PT X c tc):PFi X [c] tc:=by
 intro pins s σ H Q I h
 rw [List.forIn_cons]
 refine wpAny_bind (wpAny_bind (thn (hc pins s σ H _ I h) fun b s1 ⟨H1,I1,q1⟩=>wpAny_pure ?_))
 dsimp only
 rw [List.forIn_nil]
 exact wpAny_pure ⟨H1,I1,q1⟩
def CompW (src:List (Option Nat)) (J:It) (g:TG) (tf:TT) (te:TE) (Q:VK) (σ:St) (H:Hp):Prop :=
 ∃ W:Nat -> Nat -> List V -> St -> Hp -> Prop,(∃ m,W 0 m [] (srcSt src σ) H) /\ ∀ i m ys σ' H',W i m ys σ' H' -> ys.length <= sizeLine /\
 ((J.stop i H' /\ ∀ p,H' p = none -> Q (.ref p) (upd H' p (.lst ys))) \/
  (J.go i H' /\ ∃ Nx:List V -> St -> Hp -> Prop,(∀ ys2 σ2 H2,Nx ys2 σ2 H2 -> ∃ m',m' < m /\ W (i + 1) m' ys2 σ2 H2) /\
    ∀ x H2,J.yld i H' x H2 -> g x σ' H2 fun σ2 H3=>tf σ2 H3 fun b H4=>if b = true then te σ2 H4 fun y H5=>Nx (ys ++ [y]) σ2 H5 else Nx ys σ2 H4))
def tComp (src:List (Option Nat)) (wi:TI) (g:TG) (tf:TT) (te:TE):TE:=fun σ H Q=>wi σ H fun J H1=>CompW src J g tf te Q σ H1
section
variable {X:Cx} {tg elt iter:Expr} {ifs:List Expr} {scope sc:Scope} {N N':List Str} {src:List (Option Nat)} {g:TG} {tf:TT} {te:TE} {wi:TI} {pos:Pos}
theorem loop_own {prog:Program} {w:World} {A:Around} {R:Result -> Shared -> Prop} {s:Shared} {it acc:Value} {env:Env} (I:Nat -> Shared -> Prop)
  (turn:∀ n s,I n s -> wpAny (model prog w) A (pyNext it) (fun r s₁=>match r with
   | none=>R (.ok .next) s₁
   | some v=>wpAny (model prog w) A (letOwnedTupleGo tg it v) (fun _ s₂=>wpAny (model prog w) A (assign tg env v) (fun _ s₃ =>
     wpAny (model prog w) A (forIn ifs true fun c r=>if r = true then do let ok ← isTrue c env (eval c env); pure (ForInStep.yield ok) else pure (ForInStep.yield r)) (fun ok s₄ =>
      if ok = true then wpAny (model prog w) A (eval elt env) (fun x s₅ =>
       wpAny (model prog w) A (call (.builtin "list.append") [acc,x]) (fun _ s₆=>∃ m,m < n /\ I m s₆) (fun _ _=>False) s₅) (fun _ _=>False) s₄
      else ∃ m,m < n /\ I m s₄) (fun _ _=>False) s₃) (fun _ _=>False) s₂) (fun _ _=>False) s₁) (fun _ _=>False) s)
  (n:Nat) (h:I n s):codeAny (model prog w) A (.compLoop (.ListComp elt [⟨tg,iter,ifs,0⟩] scope pos) 0 it acc env) R s:=by
 refine codeAny_loop rfl I (fun n s hI=>?_) n h
 show wpAny _ A ((compTurn (.ListComp elt [⟨tg,iter,ifs,0⟩] scope pos) 0 it acc env).onRaise (fun x=>do noteFrame x env; theTreesLotGoes x)) _ _ s
 refine wpAny_noted ?_
 rw [compTurn_list]
 refine wpAny_bind (wpAny_standAt (wpAny_bind (wpAny_mono (turn n s hI) (fun r s₁ h₁=>?_) fun _ _ h'=>h'.elim)))
 cases r with
 | none=>exact wpAny_pure h₁
 | some v =>
  refine wpAny_bind (wpAny_mono h₁ (fun _ s₂ h₂=>?_) fun _ _ h'=>h'.elim)
  refine wpAny_bind (wpAny_mono h₂ (fun _ s₃ h₃=>wpAny_bind (wpAny_mono h₃ (fun ok s₄ h₄=>?_) fun _ _ h'=>h'.elim)) fun _ _ h'=>h'.elim)
  cases ok with
  | false=>exact wpAny_pure ⟨rfl,h₄⟩
  | true =>
   exact wpAny_bind (wpAny_bind (wpAny_mono h₄ (fun x s₅ h₅=>wpAny_bind (wpAny_mono h₅ (fun _ s₆ h₆=>wpAny_pure (wpAny_pure ⟨rfl,h₆⟩)) fun _ _ h'=>h'.elim)) fun _ _ h'=>h'.elim))
theorem comp_ok {pins:List (Addr × Obj)} {σ:St} {H:Hp} {s:Shared} {fp:List Addr} {C:Addr} (O:CompOk sc N N' src scope) (hsc:X.env.scope = sc) (I:Inv X pins σ H s) (hf:∀ b ∈ fp,FpOk X pins H b)
  (ho:∀ b ∈ fp,∃ o,s.heap.get? b = some o) (hC:s.heap.objs.size <= C):(X.comp N' scope C s H fp).Ok:=by
 have hk:∀ x,((compEnvC scope (xG X.env scope) C X.env).kindOf x = some .cell \/ (compEnvC scope (xG X.env scope) C X.env).kindOf x = some .free) -> (x,NameKind.free) ∈ scope.names:=fun x h=>by
  have h:(compEnvC scope (xG X.env scope) C X.env).scope.names.lookup x = some .cell \/ (compEnvC scope (xG X.env scope) C X.env).scope.names.lookup x = some .free:=h
  rw [comp_lookup] at h
  cases q:scope.names.lookup x with
  | none=>rw [q] at h; rcases h with h | h <;> cases h
  | some k =>
   have hm:=PySem.mem_of_lookup q
   rw [q] at h
   cases k with
   | free=>exact hm
   | cell=>exact absurd rfl (O.nocell _ hm)
   | _ =>
    exfalso
    rcases h with h | h <;> (have h':=Option.some.inj h; unfold relK at h'; simp at h')
 refine ⟨I.ok.mod,O.kind,I.ok.glob,I.ok.blt,hC,fun x y c h1 h2=>I.ok.inj x y c (qM h1) (qM h2),fun x h=>?_,fun x c h=>(by cases h),I.ok.hd,I.ok.frames,.inl rfl,fun b hb=>?_,I.bs,Nat.le_trans I.ok.bsz I.sz,fun b o e hb=>?_,fun b hb z=>?_,I.stack,I.stkFree⟩
 ·have hm:=hk x h
  have hx:=O.free _ hm rfl
  rw [← hsc] at hx
  obtain ⟨c,hc⟩:=I.ok.has x hx
  exact ⟨c,clos_at hc hm⟩
 ·refine ⟨?_,fun x c h=>(hf b hb).2.2.2.2.1 x c (qM h)⟩
  obtain ⟨o,e⟩:=ho b hb
  exact Nat.ne_of_lt (Nat.lt_of_lt_of_le (Heap.lt_size e) hC)
 ·rcases (hf b hb).2.2.2.1 with z | z
  ·exact I.ok.noex b o e z
  ·exact absurd (Nat.lt_of_lt_of_le (Nat.lt_of_lt_of_le (Heap.lt_size e) I.ok.bsz) z) (Nat.lt_irrefl _)
 ·rcases List.mem_cons.mp (I.stkSub b z) with e | e
  ·exact (hf b hb).2.1 e
  ·exact (hf b hb).2.2.1 e
theorem comp_inv {pins:List (Addr × Obj)} {σ:St} {H:Hp} {s:Shared} {fp:List Addr} {C:Addr} {h':Heap} {tk:Nat} (O:CompOk sc N N' src scope) (hsc:X.env.scope = sc) (hN:X.N = N) (I:Inv X pins σ H s) (hf:∀ b ∈ fp,FpOk X pins H b)
  (ho:∀ b ∈ fp,∃ o,s.heap.get? b = some o) (hC:s.heap.objs.size <= C) (k:∀ b o,s.heap.get? b = some o -> h'.get? b = some o) {m':Str -> Option Value} (hn:h'.Ns C m') :
  Inv (X.comp N' scope C s H fp) [] (srcSt src σ) H { s with heap:=h',toks:=tk }:=by
 have cells:∀ x c,X.env.cells.lookup x = some c -> ∀ v,s.heap.IsCell c v -> h'.IsCell c v:=fun x c _ v ⟨o,e,d⟩=>⟨o,k c o e,d⟩
 refine ⟨comp_ok O hsc I hf ho hC,rfl,I.bare,Un.kept k,⟨_,hn,fun j x v e1 e2 e3=>?_⟩,fun x c e=>?_,I.hok.fresh hC,fun x c e=>I.freeC x c (qM e),fun p hp=>(by cases hp),I.hok.kept k,?_⟩
 ·have e2:(srcSt src σ)[j]? = some (some v):=e2
  have e1:N'[j]? = some x:=e1
  unfold srcSt at e2
  rw [List.getElem?_map] at e2
  cases q:src[j]? with
  | none=>rw [q] at e2; cases e2
  | some o =>
   rw [q] at e2
   have e2:(o.bind fun i=>(σ[i]?).join) = some v:=Option.some.inj e2
   cases o with
   | none=>cases e2
   | some i =>
    have e2:(σ[i]?).join = some v:=e2
    obtain ⟨y2,hlk⟩:=O.at q e1
    have y3:=PySem.mem_of_lookup hlk
    have e4:σ[i]? = some (some v):=by
     cases r:σ[i]? with
     | none=>rw [r] at e2; cases e2
     | some w=>rw [r] at e2; cases w with
      | none=>cases e2
      | some w'=>have:w' = v:=Option.some.inj e2; rw [this]
    have hx:=O.free _ y3 rfl
    rw [← hsc] at hx
    obtain ⟨m,hm,hl⟩:=I.loc
    obtain ⟨u,ru,lu⟩:=hl i x v (by rw [hN]; exact y2) e4 (.inr hx)
    refine ⟨u,ru,.inr ?_⟩
    obtain ⟨c,hc,hcell⟩:∃ c,X.env.cells.lookup x = some c /\ s.heap.IsCell c (some u):=by
     rcases lu with ⟨z,_⟩ | ⟨_,c,hc,hz⟩
     ·exfalso
      have z:X.env.scope.names.lookup x = some .local:=z
      rcases hx with hx | hx <;> (rw [hx] at z; cases z)
     ·exact ⟨c,hc,hz⟩
    refine ⟨?_,c,clos_at hc y3,cells x c hc _ hcell⟩
    show (compEnvC scope (xG X.env scope) C X.env).scope.names.lookup x = some .cell \/ (compEnvC scope (xG X.env scope) C X.env).scope.names.lookup x = some .free
    rw [comp_lookup,hlk]
    show some (relK X.env x .free) = some .cell \/ some (relK X.env x .free) = some .free
    unfold relK
    split
    ·exact .inl rfl
    ·exact .inr rfl
 ·obtain ⟨v,z⟩:=I.cell x c (qM e)
  exact ⟨v,cells x c (qM e) v z⟩
 ·show (srcSt src σ).length = N'.length
  unfold srcSt
  rw [List.length_map]
  exact O.len
theorem comp_block {pins:List (Addr × Obj)} {σ:St} {H:Hp} {s:Shared} {fp:List Addr} {it:Addr} {tn:Nat -> Heap -> Prop} {J:It} {E:Value -> Shared -> Prop} {RR:Value -> Addr -> Result -> Shared -> Prop} {Fin:List V -> Hp -> Prop} (O:CompOk sc N N' src scope) (hsc:X.env.scope = sc) (hN:X.N = N) (hcalm:X.calm = true)
  (hg:∀ C s H fp,PG (X.comp N' scope C s H fp) tg g) (hft:∀ C s H fp,PFi (X.comp N' scope C s H fp) ifs tf) (he:∀ C s H fp,PE (X.comp N' scope C s H fp) elt te)
  (I:Inv X pins σ H s) (T:Turn X.prog X.w X.K tg J fp it tn) (t0:tn 0 s.heap) (hf:∀ b ∈ fp,FpOk X pins H b)
  (W:Nat -> Nat -> List V -> St -> Hp -> Prop) (m0:Nat) (w0:W 0 m0 [] (srcSt src σ) H)
  (hW:∀ i m ys σ' H',W i m ys σ' H' -> ys.length <= sizeLine /\ ((J.stop i H' /\ Fin ys H') \/
   (J.go i H' /\ ∃ Nx:List V -> St -> Hp -> Prop,(∀ ys2 σ2 H2,Nx ys2 σ2 H2 -> ∃ m',m' < m /\ W (i + 1) m' ys2 σ2 H2) /\
    ∀ x H2,J.yld i H' x H2 -> g x σ' H2 fun σ2 H3=>tf σ2 H3 fun b H4=>if b = true then te σ2 H4 fun y H5=>Nx (ys ++ [y]) σ2 H5 else Nx ys σ2 H4)))
  (hRR:∀ (D C:Addr) (s':Shared) (σ':St) (H':Hp) (ys:List V) (its:List Value) (n:Nat),s.heap.objs.size <= D -> s.heap.objs.size <= C -> Inv (X.comp N' scope C s H fp) [] σ' H' s' -> s'.heap.get? D = some { cls:=.type "list",data:=.seq its.toArray n } -> Vals ys its -> ys.length <= sizeLine ->
   H' D = none -> D ≠ C -> Fin ys H' -> RR (.ref D) C (.ok .next) s') :
  wpAny (model X.prog X.w) X.A (newList []) (fun acc s₃=>wpAny (model X.prog X.w) X.A (newFunctionEnv scope X.env.globals (xG X.env scope) [] X.env.qual none .none (some X.env)) (fun cenv s₄ =>
   codeAny (model X.prog X.w) X.A (.compStart (.ListComp elt [⟨tg,iter,ifs,0⟩] scope pos) 0 (.ref it) acc { cenv with scope:=relabel scope X.env }) (RR acc cenv.locals) s₄) E s₃) E s:=by
 refine wpAny_newObj_type (wpAny_newFunctionEnv O.nocell (by intro y hy; cases hy) (fun h₁ hns₁ hsb₁=>?_) O.kind)
 dsimp only at hns₁ hsb₁ ⊢
 generalize hH2:s.heap.push { cls:=.type "list",dict:=none,data:=.seq ([]:List Value).toArray } = P2 at hns₁ hsb₁ ⊢
 have hCs:P2.objs.size = s.heap.objs.size + 1:=by rw [← hH2,Heap.size_push]
 have hDC:s.heap.objs.size ≠ P2.objs.size:=by rw [hCs]; exact Nat.ne_of_lt (Nat.lt_succ_self _)
 have hCle:s.heap.objs.size <= P2.objs.size:=by rw [hCs]; exact Nat.le_succ _
 have below:∀ b,b < s.heap.objs.size -> b ≠ P2.objs.size /\ b ≠ s.heap.objs.size:=fun b hb=>⟨by rw [hCs]; exact Nat.ne_of_lt (Nat.lt_succ_of_lt hb),Nat.ne_of_lt hb⟩
 have old:∀ b o,s.heap.get? b = some o -> h₁.get? b = some o:=fun b o e=>hsb₁.extBut b o (below b (Heap.lt_size e)).1 (Heap.get?_push_of_some _ (hH2 ▸ Heap.get?_push_of_some _ e))
 have hacc:h₁.get? s.heap.objs.size = some { cls:=.type "list",data:=.seq ([]:List Value).toArray 0 }:=hsb₁.extBut _ _ hDC (Heap.get?_push_of_some _ (hH2 ▸ Heap.get?_push_size _ rfl))
 have fpo:∀ b ∈ fp,∃ o,s.heap.get? b = some o:=fun b hb=>let ⟨o,e,_⟩:=T.obj 0 _ t0 b hb; ⟨o,e⟩
 have fplt:∀ b ∈ fp,b < s.heap.objs.size:=fun b hb=>let ⟨o,e⟩:=fpo b hb; Heap.lt_size e
 generalize hD:s.heap.objs.size = D at *
 generalize hC:P2.objs.size = C at *
 have ok1:∀ tk,Inv (X.comp N' scope C s H fp) [] (srcSt src σ) H { s with heap:=h₁,toks:=tk }:=fun tk=>comp_inv O hsc hN I hf fpo (by rw [hD]; exact hCle) old hns₁
 have okX:(X.comp N' scope C s H fp).Ok:=(ok1 0).ok
 have stat:∀ {H':Hp} {pl:List (Addr × Obj)},(∀ b ∈ fp,H' b = none) -> (∀ p ∈ pl,p.1 ∉ fp) -> ∀ b ∈ fp,FpOk (X.comp N' scope C s H fp) pl H' b:=fun {H' pl} hn hp b hb =>
  ⟨hn b hb,(okX.exf b hb).1,okX.exfs b hb,.inl hb,(okX.exf b hb).2,fun p hm=>by
   have hm:p ∈ pl:=by simpa [Cx.comp] using hm
   exact fun z=>hp p hm (z ▸ hb)⟩
 have Dfs:D ∉ (X.comp N' scope C s H fp).fs:=fun hb=>by
  obtain ⟨_,o,ho,_⟩:=okX.funs.mem hb
  have ho:s.heap.get? D = some o:=ho
  have h1:=Heap.lt_size ho
  rw [hD] at h1
  exact Nat.lt_irrefl _ h1
 have Dcell:∀ x c,(X.comp N' scope C s H fp).env.cells.lookup x = some c -> c ≠ D:=fun x c e z=>by
  obtain ⟨v,o,ho,_⟩:=I.cell x c (qM e)
  have h1:=Heap.lt_size ho
  rw [hD,z] at h1
  exact Nat.lt_irrefl _ h1
 have loop:∀ tk,codeAny (model X.prog X.w) X.A (.compLoop (.ListComp elt [⟨tg,iter,ifs,0⟩] scope pos) 0 (.ref it) (.ref D) (compEnvC scope (xG X.env scope) C X.env)) (RR (.ref D) C) { s with heap:=h₁,toks:=tk }:=by
  intro tk
  refine loop_own (fun n s'=>∃ i ys σ' H' its c,Inv (X.comp N' scope C s H fp) [] σ' H' s' /\ tn i s'.heap /\ (∀ b ∈ fp,H' b = none) /\ s'.heap.get? D = some { cls:=.type "list",data:=.seq (its:List Value).toArray c } /\ Vals ys its /\ H' D = none /\ W i n ys σ' H') ?_ m0
   ⟨0,[],srcSt src σ,H,[],0,ok1 tk,T.keep 0 _ _ t0 fun b _ o e=>old b o e,fun b hb=>(hf b hb).1,hacc,.nil,I.hok.fresh (by rw [hD]; exact Nat.le_refl _),w0⟩
  rintro n s3 ⟨i,ys,σ3,H3,its,c3,I3,st3,fr3,d3,v3,nD3,w3⟩
  obtain ⟨hlen,alt⟩:=hW i n ys σ3 H3 w3
  rcases alt with ⟨stop,fin⟩ | ⟨go,Nx,hNx,step⟩
  ·have I3':Inv (X.comp N' scope C s H fp) [(D,{ cls:=.type "list",data:=.seq its.toArray c3 })] σ3 H3 s3:=I3.pins_of fun p hp=>by
    have e:p = (D,{ cls:=.type "list",data:=.seq its.toArray c3 }):=by simpa using hp
    subst e
    exact ⟨d3,nD3,hDC,Dfs,fun v z=>by cases z⟩
   refine thn (T.done (X.comp N' scope C s H fp) rfl rfl rfl hcalm i _ s3 σ3 H3 _ I3' (stat fr3 fun p hp z=>by
    have e:p = (D,{ cls:=.type "list",data:=.seq its.toArray c3 }):=by simpa using hp
    rw [e] at z
    exact Nat.lt_irrefl _ (fplt D z)) st3 stop) fun r s4 ⟨hr,I4⟩=>?_
   subst hr
   obtain ⟨d4,nD4,_⟩:=I4.pin (D,{ cls:=.type "list",data:=.seq its.toArray c3 }) (by simp [Cx.comp])
   exact hRR D C s4 σ3 H3 ys its c3 (by omega) (by omega) (I4.pins_of fun p hp=>(by cases hp)) d4 v3 hlen nD4 hDC fin
  ·have I3':Inv (X.comp N' scope C s H fp) [(D,{ cls:=.type "list",data:=.seq its.toArray c3 })] σ3 H3 s3:=I3.pins_of fun p hp=>by
    have e:p = (D,{ cls:=.type "list",data:=.seq its.toArray c3 }):=by simpa using hp
    subst e
    exact ⟨d3,nD3,hDC,Dfs,fun v z=>by cases z⟩
   have hpD:∀ p ∈ [((D,{ cls:=.type "list",data:=.seq its.toArray c3 }):Addr × Obj)],p.1 ∉ fp:=fun p hp z=>by
    have e:p = (D,{ cls:=.type "list",data:=.seq its.toArray c3 }):=by simpa using hp
    rw [e] at z
    exact Nat.lt_irrefl _ (fplt D z)
   refine thn (T.item (X.comp N' scope C s H fp) rfl rfl rfl hcalm i _ s3 σ3 H3 _ I3' (stat fr3 hpD) st3 go) fun r s4 ⟨u,hr,h4⟩=>?_
   subst hr
   refine thn h4 fun _ s5 ⟨x,H5,I5,r5,y5,st5,fr5⟩=>?_
   have I5':=I5.pinned (stat fr5 hpD) (T.obj _ _ st5)
   have pinD:(D,({ cls:=.type "list",data:=.seq its.toArray c3 }:Obj)) ∈ (X.comp N' scope C s H fp).pn ++ ([((D,{ cls:=.type "list",data:=.seq its.toArray c3 }):Addr × Obj)] ++ kB fp s5.heap):=by simp [Cx.comp]
   have back:∀ {σ7:St} {H7:Hp} {s7:Shared},Inv (X.comp N' scope C s H fp) ([((D,{ cls:=.type "list",data:=.seq its.toArray c3 }):Addr × Obj)] ++ kB fp s5.heap) σ7 H7 s7 ->
     tn (i + 1) s7.heap /\ ∀ b ∈ fp,H7 b = none:=fun {σ7 H7 s7} I7=>⟨T.keep _ _ _ st5 fun b hb o e=>(I7.pin (b,o) (List.mem_append_right _ (List.mem_append_right _ (xP hb e)))).1,fun b hb=>by
    obtain ⟨o,e,d⟩:=T.obj _ _ st5 b hb
    exact (I7.pin (b,o) (List.mem_append_right _ (List.mem_append_right _ (xP hb e)))).2.1⟩
   refine thn (hg C s H fp _ s5 σ3 H5 x u _ I5' r5 (step x H5 y5)) fun _ s6 ⟨σ6,H6,I6,q6⟩=>?_
   refine thn (hft C s H fp _ s6 σ6 H6 _ I6 q6) fun b s7 ⟨H7,I7,q7⟩=>?_
   cases b with
   | false =>
    obtain ⟨m',hm',w7⟩:=hNx ys σ6 H7 (by simpa using q7)
    obtain ⟨b1,b2⟩:=back I7
    obtain ⟨d7,nD7,_⟩:=I7.pin _ pinD
    exact ⟨m',hm',i + 1,ys,σ6,H7,its,c3,I7.pins_of fun p hp=>(by cases hp),b1,b2,d7,v3,nD7,w7⟩
   | true =>
    have q7:te σ6 H7 fun y H5=>Nx (ys ++ [y]) σ6 H5:=by simpa using q7
    rw [if_pos rfl]
    refine thn (he C s H fp _ s7 σ6 H7 _ I7 q7) fun u8 s8 ⟨y,H8,I8,r8,n8⟩=>?_
    obtain ⟨m',hm',w8⟩:=hNx _ _ _ n8
    obtain ⟨b1,b2⟩:=back I8
    obtain ⟨d8,nD8,_⟩:=I8.pin _ pinD
    have hl:=v3.length
    refine wpAny_list_append_plain (items:=its.toArray) ⟨c3,d8⟩ (fun h9 ⟨c9,d9⟩ sb9=>?_) (by rw [List.size_toArray,← hl]; exact hlen)
    have I8':Inv (X.comp N' scope C s H fp) [] σ6 H8 s8:=I8.pins_of fun p hp=>by cases hp
    have I9:Inv (X.comp N' scope C s H fp) [] σ6 H8 { s8 with heap:=h9 }:=I8'.turned (t':=s8.toks) (it:=D) (fun b o hb e=>(sb9.2 b hb).trans e) nD8 hDC (.inr (by show s.heap.objs.size <= D; omega)) Dcell (fun p hp=>by
     have hp:p ∈ ([]:List (Addr × Obj)):=by simpa [Cx.comp] using hp
     cases hp)
    refine ⟨m',hm',i + 1,ys ++ [y],σ6,H8,its ++ [u8],c9,I9,T.keep _ _ _ b1 fun b hb o e=>(sb9.2 b (fun z=>Nat.lt_irrefl _ (z ▸ fplt b hb))).trans e,b2,?_,v3.append (.cons r8 .nil),nD8,w8⟩
    show h9.get? D = _
    rw [d9]
    simp
 exact codeAny_compStart_list (loop _) (T.self _ 0 _ _ _ (T.keep 0 _ _ t0 fun b _ o e=>old b o e) (loop _))
theorem comp_back {pins:List (Addr × Obj)} {σ σ':St} {H H':Hp} {s s':Shared} {fp:List Addr} {C D:Addr} {ys:List V} {its:List Value} {n:Nat} (I:Inv X pins σ H s) (hf:∀ b ∈ fp,FpOk X pins H b)
  (J:Inv (X.comp N' scope C s H fp) [] σ' H' s') (hD:s.heap.objs.size <= D) (d:s'.heap.get? D = some { cls:=.type "list",data:=.seq its.toArray n }) (v:Vals ys its) (hl:ys.length <= sizeLine) (nD:H' D = none) :
  Inv X pins σ (upd H' D (.lst ys)) s':=by
 have u:Un (frs X.stack) fp H H' s.heap s'.heap:=J.base
 refine I.call' (ch:=fp) J.os (u.adopt (Heap.get?_none_of_le hD) (I.hok.fresh hD)) (J.hok.adopt nD ⟨hl,its,n,v,d⟩) J.bare fun b hb=>?_
 obtain ⟨_,f1,_,f3,f4,f5⟩:=hf b hb
 exact ⟨f3,f1,f4,f5⟩
theorem comp_gone {pins:List (Addr × Obj)} {σ σ2:St} {H H2:Hp} {s s2:Shared} {C:Addr} {h':Heap} (I:Inv X pins σ H s) (I2:Inv X pins σ2 H2 s2) (hC:s.heap.objs.size <= C) (nC:H2 C = none) (sb:Heap.SameBut C s2.heap h'):Inv X pins σ2 H2 { s2 with heap:=h' }:=by
 obtain ⟨_,f1,_,f3,f4,f5⟩:=I.fpOk (H':=H2) hC nC
 exact I2.turned (t':=s2.toks) (it:=C) (fun b o hb e=>(sb.2 b hb).trans e) nC f1 f3 f4 f5
theorem xF (O:CompOk sc N N' src scope) (hsc:X.env.scope = sc) (hN:X.N = N) (hcalm:X.calm = true) (hi:PI X tg iter wi)
  (hg:∀ C s H fp,PG (X.comp N' scope C s H fp) tg g) (hft:∀ C s H fp,PFi (X.comp N' scope C s H fp) ifs tf) (he:∀ C s H fp,PE (X.comp N' scope C s H fp) elt te)
  (hs:∀ x,foldedSetIterable iter X.env x = pure x:=by intro _; rfl):PE X (.ListComp elt [⟨tg,iter,ifs,0⟩] scope pos) (tComp src wi g tf te):=by
 intro pins s σ H Q I h
 rw [eval_ListComp]
 have hclos:closureFor scope X.env = pure (xG X.env scope):=x6 fun x hx hk=>I.ok.has x.1 (by
  have:=O.free x hx hk
  rw [← hsc] at this
  exact this)
 refine wpAny_comprehension_free (use:=none) rfl hs hclos O.kind O.names (thn (hi pins s σ H _ I h) fun v s1 h1=>thn h1 fun itv s2 h2=>?_)
 obtain ⟨it,fp,tn,J,H2,e,I2,T,st2,f2,W,⟨m0,w0⟩,turn⟩:=h2
 subst e
 refine comp_block (RR:=fun acc C=>compPost (model X.prog X.w) X.A X.xe none (EP X pins σ Q) acc C) (Fin:=fun ys H'=>∀ p,H' p = none -> Q (.ref p) (upd H' p (.lst ys))) O hsc hN hcalm hg hft he I2 T st2 f2 W m0 w0 turn ?_
 intro D C s' σ' H' ys its n hD hC Jv d vv hl nD hDC fin
 have I3:=comp_back I2 f2 Jv hD d vv hl nD
 obtain ⟨m,hm,_⟩:=Jv.loc
 have nC:H' C = none:=Jv.free
 refine ⟨m,hm,fun h' sb=>⟨.ref D,_,comp_gone I2 I3 hC (by rw [zI (Ne.symm hDC)]; exact nC) sb,rfl,fin D nD⟩⟩
theorem ps_setc {k:Nat} {y:Str} {py spos:Pos} (O:CompOk sc N N' src scope) (hsc:X.env.scope = sc) (hN:X.N = N) (hcalm:X.calm = true) (hi:PI X tg iter wi)
  (hg:∀ C s H fp,PG (X.comp N' scope C s H fp) tg g) (hft:∀ C s H fp,PFi (X.comp N' scope C s H fp) ifs tf) (he:∀ C s H fp,PE (X.comp N' scope C s H fp) elt te)
  (nd:X.N.Nodup) (hk:X.N[k]? = some y) (hx:Loc X.env.scope y)
  (hsw:swapsWith (.ListComp elt [⟨tg,iter,ifs,0⟩] scope pos) (some (.Name y py)) spos.line X.env = pure true:=by rfl)
  (hf:X.fn y = true \/ X.env.scope.names.lookup y = some .local:=by first | exact .inl rfl | exact .inr rfl | assumption)
  (hs:∀ x,foldedSetIterable iter X.env x = pure x:=by intro _; rfl):PS X (.Assign [.Name y py] (.ListComp elt [⟨tg,iter,ifs,0⟩] scope pos) spos) (tAsg (tComp src wi g tf te) (gName k)):=by
 intro pins s σ H D₀ I h
 rw [exec_Assign_Name_used _ _ _ _ hsw]
 refine wpAny_bind (wpAny_standAt (wpAny_bind ?_))
 show wpAny _ X.A (do let _ ← comprehension (.ListComp elt [⟨tg,iter,ifs,0⟩] scope pos) scope X.env _ (newList []) false (eval iter X.env) (some (assign (.Name y py) X.env))) _ _ s
 have hclos:closureFor scope X.env = pure (xG X.env scope):=x6 fun x hx hk=>I.ok.has x.1 (by
  have:=O.free x hx hk
  rw [← hsc] at this
  exact this)
 refine wpAny_bind (wpAny_mono (wpAny_comprehension_free (use:=some (assign (.Name y py) X.env)) (Q:=fun _ s'=>SP X pins D₀ .next s') rfl hs hclos O.kind O.names (thn (hi pins s σ H _ I h) fun v s1 h1=>thn h1 fun itv s2 h2=>?_))
  (fun _ s' hq=>wpAny_pure (wpAny_pure hq)) fun _ _ e=>e)
 obtain ⟨it,fp,tn,J,H2,e,I2,T,st2,f2,W,⟨m0,w0⟩,turn⟩:=h2
 subst e
 refine comp_block (RR:=fun acc C=>compPost (model X.prog X.w) X.A X.xe (some (assign (.Name y py) X.env)) (fun _ s'=>SP X pins D₀ .next s') acc C) (Fin:=fun ys H'=>∀ p,H' p = none -> gName k (.ref p) σ (upd H' p (.lst ys)) D₀.nx) O hsc hN hcalm hg hft he I2 T st2 f2 W m0 w0 turn ?_
 intro D C s' σ' H' ys its n hD hC Jv d vv hl nD hDC fin
 have I3:=comp_back I2 f2 Jv hD d vv hl nD
 obtain ⟨m,hm,_⟩:=Jv.loc
 have nC:H' C = none:=Jv.free
 show wpAny _ X.A (assign (.Name y py) X.env (.ref D)) _ _ s'
 refine wpAny_assign_Name (store_ok2 I3 nd hk hx (v:=.ref D) rfl (fun s4 I4 ⟨a,sa,ha⟩=>?_) hf)
 have aC:C ≠ a:=by
  rcases ha with e | e
  ·rw [e]
   intro z
   exact Nat.lt_irrefl _ (Nat.lt_of_lt_of_le I2.lt (z ▸ hC))
  ·intro z
   obtain ⟨v,o,ho,_⟩:=I2.cell y a e
   exact Nat.lt_irrefl _ (Nat.lt_of_lt_of_le (Heap.lt_size ho) (z ▸ hC))
 refine ⟨m,Heap.Ns.sameBut hm sa aC,fun h' sb=>⟨_,_,comp_gone I2 I4 hC (by rw [zI (Ne.symm hDC)]; exact nC) sb,fin D nD⟩⟩
end
def tCut (t u:TS):TS:=fun D σ H=>∃ R:St -> Hp -> Prop,t { D with nx:=R } σ H /\ ∀ σ' H',R σ' H' -> u D σ' H'
theorem jW {X:Cx} {st:Stmt} {rest:List Stmt} {t u:TS} (h1:PS X st t) (h2:PSs X rest u):PSs X (st :: rest) (tCut t u):=by
 intro pins s σ H D I ⟨R,h,hu⟩
 refine wpAny_execs_cons (thn (h1 pins s σ H { D with nx:=R } I h) fun f s1 q=>?_)
 cases f with
 | next =>
  obtain ⟨σ',H',I',q⟩:=q
  exact h2 pins s1 σ' H' D I' (hu σ' H' q)
 | ret v=>exact q
 | brk=>exact q
 | cont=>exact q
section
variable {K:PySem.W.Frag} {src:List (Option Nat)} {g:TG} {tf:TT} {te:TE} {Q:VK} {a:Addr} {xs:List V} {σ:St} {H:Hp}
theorem comp_n {J:It} (n:Nat) (Pv:Nat -> List V -> St -> Hp -> Prop) (h0:Pv 0 [] (srcSt src σ) H) (hz:n <= sizeLine) (hl:∀ i ys σ H,i <= n -> Pv i ys σ H -> ys.length <= i)
  (hst:∀ ys σ H,Pv n ys σ H -> J.stop n H) (hgo:∀ i ys σ H,i < n -> Pv i ys σ H -> J.go i H)
  (hs:∀ i ys σ H,i < n -> Pv i ys σ H -> ∀ x H2,J.yld i H x H2 -> g x σ H2 fun σ2 H3=>tf σ2 H3 fun b H4=>if b = true then te σ2 H4 fun y H5=>Pv (i + 1) (ys ++ [y]) σ2 H5 else Pv (i + 1) ys σ2 H4)
  (hd:∀ ys σ H,Pv n ys σ H -> ∀ p,H p = none -> Q (.ref p) (upd H p (.lst ys))):CompW src J g tf te Q σ H:=by
 refine ⟨fun i m ys σ H=>m = n - i /\ i <= n /\ Pv i ys σ H,⟨n,by simp,Nat.zero_le _,h0⟩,?_⟩
 rintro i m ys σ' H' ⟨rfl,hi,p⟩
 have hy:=hl i ys σ' H' hi p
 refine ⟨by omega,?_⟩
 by_cases hlt:i < n
 ·exact .inr ⟨hgo i ys σ' H' hlt p,Pv (i + 1),fun ys2 σ2 H2 z=>⟨n - (i + 1),by omega,rfl,hlt,z⟩,fun x H2 y=>hs i ys σ' H' hlt p x H2 y⟩
 ·have e:i = n:=by omega
  subst e
  exact .inl ⟨hst ys σ' H' p,hd ys σ' H' p⟩
theorem jH (Pv:Nat -> List V -> St -> Hp -> Prop) (h0:Pv 0 [] (srcSt src σ) H) (hz:xs.length <= sizeLine) (hl:∀ i ys σ H,i <= xs.length -> Pv i ys σ H -> SqL K H a xs /\ ys.length <= i)
  (hs:∀ i x ys σ H,xs[i]? = some x -> Pv i ys σ H -> g x σ H fun σ2 H3=>tf σ2 H3 fun b H4=>if b = true then te σ2 H4 fun y H5=>Pv (i + 1) (ys ++ [y]) σ2 H5 else Pv (i + 1) ys σ2 H4)
  (hd:∀ ys σ H,Pv xs.length ys σ H -> ∀ p,H p = none -> Q (.ref p) (upd H p (.lst ys))):CompW src (Itl K a) g tf te Q σ H :=
 comp_n xs.length Pv h0 hz (fun i ys σ H hi p=>(hl i ys σ H hi p).2) (fun ys σ H p=>⟨xs,(hl _ ys σ H (Nat.le_refl _) p).1,Nat.le_refl _⟩) (fun i ys σ H hi p=>⟨xs,xs[i],(hl i ys σ H (Nat.le_of_lt hi) p).1,by simp [hi]⟩)
  (fun i ys σ H hi p x H2 y=>by
   obtain ⟨e,y⟩:=y
   subst e
   exact hs i x ys σ _ (y xs (hl i ys σ _ (Nat.le_of_lt hi) p).1) p) hd
theorem comp_tup (Pv:Nat -> List V -> St -> Hp -> Prop) (h0:Pv 0 [] (srcSt src σ) H) (hz:xs.length <= sizeLine) (hl:∀ i ys σ H,i <= xs.length -> Pv i ys σ H -> SqT K H a xs /\ ys.length <= i)
  (hs:∀ i x ys σ H,xs[i]? = some x -> Pv i ys σ H -> g x σ H fun σ2 H3=>tf σ2 H3 fun b H4=>if b = true then te σ2 H4 fun y H5=>Pv (i + 1) (ys ++ [y]) σ2 H5 else Pv (i + 1) ys σ2 H4)
  (hd:∀ ys σ H,Pv xs.length ys σ H -> ∀ p,H p = none -> Q (.ref p) (upd H p (.lst ys))):CompW src (Itt K a) g tf te Q σ H :=
 comp_n xs.length Pv h0 hz (fun i ys σ H hi p=>(hl i ys σ H hi p).2) (fun ys σ H p=>⟨xs,(hl _ ys σ H (Nat.le_refl _) p).1,Nat.le_refl _⟩) (fun i ys σ H hi p=>⟨xs,xs[i],(hl i ys σ H (Nat.le_of_lt hi) p).1,by simp [hi]⟩)
  (fun i ys σ H hi p x H2 y=>by
   obtain ⟨e,y⟩:=y
   subst e
   exact hs i x ys σ _ (y xs (hl i ys σ _ (Nat.le_of_lt hi) p).1) p) hd
theorem comp_range {lo:Int} {n:Nat} (Pv:Nat -> List V -> St -> Hp -> Prop) (h0:Pv 0 [] (srcSt src σ) H) (hz:n <= sizeLine) (hl:∀ i ys σ H,i <= n -> Pv i ys σ H -> ys.length <= i)
  (hs:∀ i ys σ H,i < n -> Pv i ys σ H -> g (.int (lo + i)) σ H fun σ2 H3=>tf σ2 H3 fun b H4=>if b = true then te σ2 H4 fun y H5=>Pv (i + 1) (ys ++ [y]) σ2 H5 else Pv (i + 1) ys σ2 H4)
  (hd:∀ ys σ H,Pv n ys σ H -> ∀ p,H p = none -> Q (.ref p) (upd H p (.lst ys))):CompW src (Itr lo n) g tf te Q σ H :=
 comp_n n Pv h0 hz hl (fun _ _ _ _=>Nat.le_refl _) (fun _ _ _ _ hi _=>hi)
  (fun i ys σ H hi p x H2 y=>by
   obtain ⟨e,y⟩:=y
   subst e y
   exact hs i ys σ _ hi p) hd
theorem noTest {te:TE} {A:V -> St -> Hp -> Prop} {B:St -> Hp -> Prop}:(fun σ2 H3=>tfNil σ2 H3 fun b H4=>if b = true then te σ2 H4 (fun y H5=>A y σ2 H5) else B σ2 H4) = fun (σ2:St) (H3:Hp)=>te σ2 H3 fun y H5=>A y σ2 H5:=by
 funext σ2 H3
 show (if true = true then (te σ2 H3 fun y H5=>A y σ2 H5) else B σ2 H3) = _
 rw [if_pos rfl]
theorem qU (Pv:Nat -> List V -> St -> Hp -> Prop) (h0:Pv 0 [] (srcSt src σ) H) (hz:xs.length <= sizeLine) (hl:∀ i ys σ H,i <= xs.length -> Pv i ys σ H -> SqL K H a xs /\ ys.length <= i)
  (hs:∀ i x ys σ H,xs[i]? = some x -> Pv i ys σ H -> g x σ H fun σ2 H3=>te σ2 H3 fun y H5=>Pv (i + 1) (ys ++ [y]) σ2 H5)
  (hd:∀ ys σ H,Pv xs.length ys σ H -> ∀ p,H p = none -> Q (.ref p) (upd H p (.lst ys))):CompW src (Itl K a) g tfNil te Q σ H :=
 jH Pv h0 hz hl (fun i x ys σ H e p=>by rw [noTest]; exact hs i x ys σ H e p) hd
theorem qE (Pv:Nat -> List V -> St -> Hp -> Prop) (h0:Pv 0 [] (srcSt src σ) H) (hz:xs.length <= sizeLine) (hl:∀ i ys σ H,i <= xs.length -> Pv i ys σ H -> SqT K H a xs /\ ys.length <= i)
  (hs:∀ i x ys σ H,xs[i]? = some x -> Pv i ys σ H -> g x σ H fun σ2 H3=>te σ2 H3 fun y H5=>Pv (i + 1) (ys ++ [y]) σ2 H5)
  (hd:∀ ys σ H,Pv xs.length ys σ H -> ∀ p,H p = none -> Q (.ref p) (upd H p (.lst ys))):CompW src (Itt K a) g tfNil te Q σ H :=
 comp_tup Pv h0 hz hl (fun i x ys σ H e p=>by rw [noTest]; exact hs i x ys σ H e p) hd
end
end L2
namespace L2
open PySem PySem.Spec PyProof.Rows
mutual
def Dt (K:PySem.W.Frag) (H:Hp):PyData -> V -> Prop
 | .none,v=>v = .non
 | .bool b,v=>v = .bl b
 | .int i,v=>v = .int i
 | .str x,v=>v = .str x
 | .list ds,v=>∃ a xs,v = .ref a /\ SqL K H a xs /\ DtAll K H ds xs
 | .tuple ds,v=>∃ a xs,v = .ref a /\ SqT K H a xs /\ DtAll K H ds xs
 | .dict _,_=>False
def DtAll (K:PySem.W.Frag) (H:Hp):List PyData -> List V -> Prop
 | [],xs=>xs = []
 | d :: ds,xs=>∃ x r,xs = x :: r /\ Dt K H d x /\ DtAll K H ds r
end
theorem Same.tupS {K:PySem.W.Frag} {H H':Hp} {a:Addr} {xs:List V} (e:Same H H') (h:SqT K H a xs):SqT K H' a xs:=by
 rcases h with (h | ⟨o,h⟩) | h
 ·exact .inl (.inl (e _ _ h))
 ·exact .inl (.inr ⟨o,e _ _ h⟩)
 ·exact .inr h
mutual
theorem Dt.same {K:PySem.W.Frag} {H H':Hp} (e:Same H H'):∀ (d:PyData) (v:V),Dt K H d v -> Dt K H' d v
 | .none,_,h=>h
 | .bool _,_,h=>h
 | .int _,_,h=>h
 | .str _,_,h=>h
 | .list ds,_,⟨a,xs,h1,h2,h3⟩=>⟨a,xs,h1,e.seq h2,DtAll.same e ds xs h3⟩
 | .tuple ds,_,⟨a,xs,h1,h2,h3⟩=>⟨a,xs,h1,e.tupS h2,DtAll.same e ds xs h3⟩
 | .dict _,_,h=>h
theorem DtAll.same {K:PySem.W.Frag} {H H':Hp} (e:Same H H'):∀ (ds:List PyData) (xs:List V),DtAll K H ds xs -> DtAll K H' ds xs
 | [],_,h=>h
 | d :: ds,_,⟨x,r,h1,h2,h3⟩=>⟨x,r,h1,Dt.same e d x h2,DtAll.same e ds r h3⟩
end
theorem DtAll.length {K:PySem.W.Frag} {H:Hp}:∀ {ds:List PyData} {xs:List V},DtAll K H ds xs -> xs.length = ds.length
 | [],_,h=>by cases (show _ = [] from h); rfl
 | d :: ds,_,⟨x,r,h1,h2,h3⟩=>by rw [h1,List.length_cons,List.length_cons,DtAll.length h3]
theorem DtAll.append {K:PySem.W.Frag} {H:Hp}:∀ {ds es:List PyData} {xs ys:List V},DtAll K H ds xs -> DtAll K H es ys -> DtAll K H (ds ++ es) (xs ++ ys)
 | [],_,_,_,h,h'=>by cases (show _ = [] from h); exact h'
 | d :: ds,_,_,_,⟨x,r,h1,h2,h3⟩,h'=>⟨x,r ++ _,by rw [h1]; rfl,h2,DtAll.append h3 h'⟩
theorem DtAll.get {K:PySem.W.Frag} {H:Hp}:∀ {ds:List PyData} {xs:List V} {i:Nat} {x:V},DtAll K H ds xs -> xs[i]? = some x -> ∃ d,ds[i]? = some d /\ Dt K H d x
 | [],_,_,_,h,e=>by cases (show _ = [] from h); simp at e
 | d :: ds,_,0,_,⟨x,r,h1,h2,h3⟩,e=>by rw [h1] at e; simp at e; subst e; exact ⟨d,rfl,h2⟩
 | d :: ds,_,i + 1,_,⟨x,r,h1,h2,h3⟩,e=>by
  rw [h1] at e
  obtain ⟨d',e1,e2⟩:=DtAll.get (i:=i) h3 (by simpa using e)
  exact ⟨d',by simpa using e1,e2⟩
theorem DtAll.strs {K:PySem.W.Frag} {H:Hp}:∀ (ls:List Str),DtAll K H (ls.map PyData.str) (ls.map V.str)
 | []=>rfl
 | x :: ls=>⟨.str x,ls.map V.str,rfl,rfl,DtAll.strs ls⟩
theorem DtAll.strs_of {K:PySem.W.Frag} {H:Hp}:∀ {ls:List Str} {xs:List V},DtAll K H (ls.map PyData.str) xs -> xs = ls.map V.str
 | [],_,h=>h
 | x :: ls,_,⟨v,r,h1,h2,h3⟩=>by
  have h2:v = V.str x:=h2
  rw [h1,h2,DtAll.strs_of h3]; rfl
section
variable {X:Cx} {pins:List (Addr × Obj)} {σ:St} {H:Hp} {s:Shared}
mutual
theorem Dt.reads (I:Inv X pins σ H s):∀ (d:PyData) (v:V) (u:Value),Dt X.K H d v -> RelV v u -> ∃ as,Reads s.heap u d as
 | .none,_,u,h,r=>by
  cases (show _ = V.non from h); cases (show u = Value.none from r); exact ⟨_,.none⟩
 | .bool b,_,u,h,r=>by
  cases (show _ = V.bl b from h); cases (show u = Value.bool b from r); exact ⟨_,.bool b⟩
 | .int i,_,u,h,r=>by
  cases (show _ = V.int i from h); obtain ⟨t,e⟩:=(show ∃ t,u = Value.int i t from r); cases e; exact ⟨_,.int i t⟩
 | .str x,_,u,h,r=>by
  cases (show _ = V.str x from h); obtain ⟨t,e⟩:=(show ∃ t,u = Value.str x t from r); cases e; exact ⟨_,.str x t⟩
 | .list ds,_,u,⟨a,xs,h1,h2,h3⟩,r=>by
  subst h1
  cases (show u = Value.ref a from r)
  obtain ⟨its,rv,⟨o,n,e,c,_,d⟩,_⟩:=I.list h2
  obtain ⟨as,q⟩:=DtAll.reads I ds xs its h3 rv
  exact ⟨_,.list e c d (by simpa using q)⟩
 | .tuple ds,_,u,⟨a,xs,h1,h2,h3⟩,r=>by
  subst h1
  cases (show u = Value.ref a from r)
  obtain ⟨its,rv,⟨o,e,c,n,d⟩,_⟩:=I.tuple h2
  obtain ⟨as,q⟩:=DtAll.reads I ds xs its h3 rv
  exact ⟨_,.tuple e c d (by simpa using q)⟩
 | .dict _,_,_,h,_=>False.elim h
theorem DtAll.reads (I:Inv X pins σ H s):∀ (ds:List PyData) (xs:List V) (us:List Value),DtAll X.K H ds xs -> Vals xs us -> ∃ as,ReadsAll s.heap us ds as
 | [],_,us,h,r=>by
  cases (show _ = [] from h)
  cases r
  exact ⟨_,.nil⟩
 | d :: ds,_,us,⟨x,rr,h1,h2,h3⟩,r=>by
  subst h1
  cases r with
  | cons r1 r2 =>
   obtain ⟨as,q1⟩:=Dt.reads I d x _ h2 r1
   obtain ⟨bs,q2⟩:=DtAll.reads I ds rr _ h3 r2
   exact ⟨_,.cons q1 q2⟩
end
end
section
variable {X:Cx}
def rEqD (K:PySem.W.Frag):R2:=fun x y H Q=>∃ d e,Dt K H d x /\ Dt K H e y /\ SeqAt.shaped d = true /\ SeqAt.shaped e = true /\ Q (.bl (PyData.eqv d e)) H
def rNeD (K:PySem.W.Frag):R2:=fun x y H Q=>∃ d e,Dt K H d x /\ Dt K H e y /\ SeqAt.shaped d = true /\ SeqAt.shaped e = true /\ Q (.bl (!PyData.eqv d e)) H
theorem op_eqD (hu:X.A.units + 64 < cLine):OpR X (compareOp .Eq) (rEqD X.K):=by
 intro pins s σ H x y v u Q I rx ry h
 obtain ⟨d,e,h1,h2,h3,h4,q⟩:=h
 obtain ⟨as,r1⟩:=Dt.reads I d x v h1 rx
 obtain ⟨bs,r2⟩:=Dt.reads I e y u h2 ry
 exact SeqAt.compareEq_shaped r1 r2 h3 h4 hu ⟨.bl _,H,I,rfl,q⟩
theorem op_neD (hu:X.A.units + 64 < cLine):OpR X (compareOp .NotEq) (rNeD X.K):=by
 intro pins s σ H x y v u Q I rx ry h
 obtain ⟨d,e,h1,h2,h3,h4,q⟩:=h
 obtain ⟨as,r1⟩:=Dt.reads I d x v h1 rx
 obtain ⟨bs,r2⟩:=Dt.reads I e y u h2 ry
 exact SeqAt.compareNe_shaped r1 r2 h3 h4 hu ⟨.bl _,H,I,rfl,q⟩
theorem jY:∀ {ys:List Str} {us:List Value},Vals (ys.map V.str) us -> StrsAre us ys
 | [],us,r=>by rw [List.map_nil] at r; cases r; exact .nil
 | y :: ys,us,r=>by
  rw [List.map_cons] at r
  cases r with
  | cons r1 r2 =>
   obtain ⟨t,e⟩:=r1
   subst e
   exact .cons y t (jY r2)
theorem vals_strs:∀ {us:List Value} {ys:List Str},StrsAre us ys -> Vals (ys.map V.str) us
 | _,_,.nil=>.nil
 | _,_,.cons y t r=>.cons ⟨t,rfl⟩ (vals_strs r)
def rJoin (K:PySem.W.Frag):V -> List V -> Hp -> VK -> Prop:=fun x vs H Q=>∃ sep p ys,x = .str sep /\ vs = [.ref p] /\ (SqL K H p (ys.map V.str) \/ SqT K H p (ys.map V.str)) /\ (ys.map (·.length)).sum + ys.length * sep.length <= 16777216 /\ Q (.str (Txt.join sep ys)) H
theorem mt_join:MtR X "str.join" (rJoin X.K):=by
 intro pins s σ H x xs v us Q I rx rs h
 obtain ⟨sep,p,ys,rfl,rfl,hq,hz,q⟩:=h
 obtain ⟨t,rfl⟩:=rx
 obtain ⟨u,rfl,ru⟩:=vals1 rs
 cases ru
 rcases hq with hq | hq
 ·obtain ⟨its,r,pl,_⟩:=I.list hq
  exact join_list pl.isList (by simpa using jY r) hz fun t' k=>⟨.str _,H,I.tok _,⟨_,rfl⟩,q⟩
 ·obtain ⟨its,r,pl,_⟩:=I.tuple hq
  exact join_tuple pl (by simpa using jY r) hz fun t' k=>⟨.str _,H,I.tok _,⟨_,rfl⟩,q⟩
end
section
variable {X:Cx} {pins:List (Addr × Obj)} {σ:St} {H:Hp} {s:Shared} {h':Heap}
theorem Un.adopt2 {fs ex:List Addr} {H H1:Hp} {h h1:Heap} {D:Addr} {o:HO} (u:Un fs ex H H1 h h1) (hD:h.get? D = none) (hH:H1 D = none):Un fs ex H (upd H1 D o) h h1 where
 keep:=u.keep
 slot:=u.slot
 free:=fun b ob q n hx=>by
  have hb:b ≠ D:=fun z=>by rw [z,hD] at q; cases q
  rw [zI hb]; exact u.free b ob q n hx
 there:=u.there
 tups:=fun b xs q=>by rw [zI (zJ (u.tups b xs q) hH)]; exact u.tups b xs q
 frzs:=fun b ob xs q=>by rw [zI (zJ (u.frzs b ob xs q) hH)]; exact u.frzs b ob xs q
 tbls:=fun b ps q=>by
  obtain ⟨m,e⟩:=u.tbls b ps q
  exact ⟨m,by rw [zI (zJ e hH)]; exact e⟩
end
def Its (x:Str):It:=⟨fun i _=>i < x.length,fun i H v H'=>H' = H /\ ∃ c,x.cps[i]? = some c /\ v = .str ⟨#[c]⟩,fun i _=>i = x.length⟩
theorem turn_walks {P:Program} {w:World} {K:PySem.W.Frag} {tg:Expr} {it:Addr} {x:Str} {tn:Nat -> Heap -> Prop} (hW:∀ A:Around,A.handled = none -> Walks P w A it [it] [it] x.cps.size (SignAt x) tn)
  (ho:∀ i h,tn i h -> ∃ o,h.get? it = some o /\ ∀ v,o.data ≠ .cell v) (hself:∀ (A:Around) (i:Nat) (s:Shared) (Q:Value -> Shared -> Prop) (E:Value -> Shared -> Prop),tn i s.heap -> Q (.ref it) s -> wpAny (model P w) A (pyIter (.ref it)) Q E s) :
  Turn P w K tg (Its x) [it] it tn where
 mem:=by simp
 obj:=fun i h st b hb=>by
  have e:b = it:=by simpa using hb
  subst e
  exact ho i h st
 keep:=fun i h h' st k=>(hW {} rfl).frame i h h' st k
 item:=by
  intro X hP hw hK hc i pins s σ H E I hf st hg
  subst hP hw hK
  obtain ⟨f0,f1,f2,f3,f4,f5⟩:=hf it (by simp)
  refine (hW X.A (I.ok.hd hc)).item i s _ _ hg st fun v h' tk hv st' kk=>?_
  obtain ⟨c,u,hcx,rfl⟩:=hv
  have I1:Inv X pins σ H { s with heap:=h',toks:=tk }:=I.turned (fun b o hb e=>kk b o (by simpa using hb) e) f0 f1 f3 f4 f5
  refine ⟨_,rfl,?_⟩
  have fin:∃ x' H',Inv X pins σ H' { s with heap:=h',toks:=tk } /\ RelV x' (.str ⟨#[c]⟩ u) /\ (Its x).yld i H x' H' /\ tn (i + 1) h' /\ ∀ b ∈ [it],H' b = none :=
   ⟨.str ⟨#[c]⟩,H,I1,⟨u,rfl⟩,⟨rfl,c,hcx,rfl⟩,st',fun b hb=>(hf b hb).1⟩
  unfold letOwnedTupleGo
  cases tg <;> exact wpAny_pure fin
 done:=by
  intro X hP hw hK hc i pins s σ H E I hf st hg
  subst hP hw hK
  obtain ⟨f0,f1,f2,f3,f4,f5⟩:=hf it (by simp)
  exact (hW X.A (I.ok.hd hc)).done s _ _ (by have e:i = x.length:=hg; subst e; exact st) fun h' tk kk=>⟨rfl,I.turned (fun b o hb e=>kk b o (by simpa using hb) e) f0 f1 f3 f4 f5⟩
 self:=hself
section
variable {X:Cx} {tg:Expr}
def iStr (te:TE):TI:=fun σ H R=>te σ H fun x H1=>∃ z,x = .str z /\ R (Its z) H1
theorem pi_str {e:Expr} {te:TE} (he:PE X e te):PI X tg e (iStr te):=by
 intro pins s σ H R I h
 refine thn (he pins s σ H _ I h) fun v s1 ⟨x,H1,I1,r1,q1⟩=>?_
 obtain ⟨z,e,q⟩:=q1
 subst e
 obtain ⟨t,rfl⟩:=r1
 have fr:H1 s1.heap.objs.size = none:=I1.hok.fresh (Nat.le_refl _)
 cases ha:z.cps.all (· < 128)
 ·refine wpAny_pyIter_wide ha ?_
  refine ⟨s1.heap.objs.size,[s1.heap.objs.size],fun i h=>h.IsStrIter s1.heap.objs.size "str_iterator" z t i,_,H1,rfl,I1.kept (t':=s1.toks) fun b o e=>Heap.get?_push_of_some _ e,
   turn_walks (fun A hA=>Walks.strWide hA _ z t) (fun i h ⟨o,ho,_,hd⟩=>⟨o,ho,fun v z=>by rw [hd] at z; cases z⟩) (fun _ _ _ _ _ st hQ=>wpAny_pyIter_striter_wide st hQ),⟨_,Heap.get?_push_size _ rfl,rfl,rfl⟩,fun b hb=>?_,q⟩
  have e:b = s1.heap.objs.size:=by simpa using hb
  subst e
  exact I1.fpOk (Nat.le_refl _) fr
 ·refine wpAny_pyIter_ascii ha ?_
  refine ⟨s1.heap.objs.size,[s1.heap.objs.size],fun i h=>h.IsStrIter s1.heap.objs.size "str_ascii_iterator" z t i,_,H1,rfl,I1.kept (t':=s1.toks) fun b o e=>Heap.get?_push_of_some _ e,
   turn_walks (fun A hA=>Walks.strAscii hA _ z t) (fun i h ⟨o,ho,_,hd⟩=>⟨o,ho,fun v z=>by rw [hd] at z; cases z⟩) (fun _ _ _ _ _ st hQ=>wpAny_pyIter_striter_ascii st hQ),⟨_,Heap.get?_push_size _ rfl,rfl,rfl⟩,fun b hb=>?_,q⟩
  have e:b = s1.heap.objs.size:=by simpa using hb
  subst e
  exact I1.fpOk (Nat.le_refl _) fr
end
abbrev ForW (J:It) (g:TG) (tb:TS) (D:Ends) (σ:St) (H:Hp):Prop :=
 ∃ W:Nat -> Nat -> St -> Hp -> Prop,(∃ m,W 0 m σ H) /\ ∀ i m σ H,W i m σ H ->
  (J.stop i H /\ D.nx σ H) \/ (J.go i H /\ ∃ N:St -> Hp -> Prop,(∀ σ' H',N σ' H' -> ∃ m',m' < m /\ W (i + 1) m' σ' H') /\ ∀ x H',J.yld i H x H' -> g x σ H' fun σ2 H2=>tb { D with nx:=N,ct:=N,bk:=D.nx } σ2 H2)
theorem for_n {J:It} {g:TG} {tb:TS} {D:Ends} {σ:St} {H:Hp} (n:Nat) (Pv:Nat -> St -> Hp -> Prop) (h0:Pv 0 σ H) (hst:∀ σ H,Pv n σ H -> J.stop n H) (hgo:∀ i σ H,i < n -> Pv i σ H -> J.go i H)
  (hs:∀ i σ H,i < n -> Pv i σ H -> ∀ x H',J.yld i H x H' -> g x σ H' fun σ2 H2=>tb { D with nx:=Pv (i + 1),ct:=Pv (i + 1),bk:=D.nx } σ2 H2) (hd:∀ σ H,Pv n σ H -> D.nx σ H):ForW J g tb D σ H:=by
 refine ⟨fun i m σ H=>m = n - i /\ i <= n /\ Pv i σ H,⟨n,by simp,Nat.zero_le _,h0⟩,?_⟩
 rintro i m σ H ⟨rfl,hi,p⟩
 by_cases hlt:i < n
 ·exact .inr ⟨hgo i σ H hlt p,Pv (i + 1),fun σ' H' p'=>⟨n - (i + 1),by omega,rfl,hlt,p'⟩,fun x H' y=>hs i σ H hlt p x H' y⟩
 ·have e:i = n:=by omega
  subst e
  exact .inl ⟨hst σ H p,hd σ H p⟩
theorem for_str {x:Str} {g:TG} {tb:TS} {D:Ends} {σ:St} {H:Hp} (Pv:Nat -> St -> Hp -> Prop) (h0:Pv 0 σ H)
  (hs:∀ i c σ H,x.cps[i]? = some c -> Pv i σ H -> g (.str ⟨#[c]⟩) σ H fun σ2 H2=>tb { D with nx:=Pv (i + 1),ct:=Pv (i + 1),bk:=D.nx } σ2 H2) (hd:∀ σ H,Pv x.length σ H -> D.nx σ H):ForW (Its x) g tb D σ H :=
 for_n x.length Pv h0 (fun _ _ _=>rfl) (fun _ _ _ hi _=>hi) (fun i σ H hi p v H' y=>by
  obtain ⟨e,c,hc,ev⟩:=y
  subst e ev
  exact hs i c σ _ hc p) hd
end L2
namespace L2
open PySem PySem.Spec PyProof.Rows
section
variable {X:Cx} {elts:List Expr} {x1:Nat} {tpos:Pos}
def rSlT2 (K:PySem.W.Frag):V -> Option Int -> Option Int -> Hp -> VK -> Prop:=fun x lo hi H Q=>∃ a xs,x = .ref a /\ SqT K H a xs /\ ∀ v H',(v = .ref a /\ H' = H /\ cutV xs lo hi = xs) \/ (∃ p,H p = none /\ v = .ref p /\ H' = upd H p (.tup (cutV xs lo hi))) -> Q v H'
end
namespace AxT
variable {prog:Program} {w:World} {A:Around} {E:Value -> Shared -> Prop} {s:Shared}
open HT
theorem getItem_tuple_whole {t sl:Addr} {items:Array Value} {vl vu:Value} {lo hi:Option Int} {Q:Value -> Shared -> Prop} (ht:IsTup s.heap t items) (hs:s.heap.IsSliceOf sl vl vu .none) (pl:IsPart vl lo) (pu:IsPart vu hi)
  (hw:sIx items.size 0 lo = 0 /\ sIx items.size items.size hi = items.size) (h:Q (.ref t) s):wpAny (model prog w) A (getItem (.ref t) (.ref sl)) Q E s:=by
 obtain ⟨os,hos,hcs,hds⟩:=id hs
 have hTs:s.TypeIs (.ref sl) "slice":=⟨os,hos,hcs⟩
 unfold getItem
 try with_reducible refine wpAny_holding ?_
 first | refine wpAny_bind (wpAny_pure ?_) | skip
 refine wpAny_bind (wpAny_sequenceKey ht.typeIs (by decide) ?_)
 refine wpAny_bind (wpAny_callSpecial?_slot (name:=Str.ofString "__getitem__") ht.typeIs PyProof.Rows.slot_tuple_getitem
  (wpAny_call_entry PyProof.Rows.slot_tuple_getitem ht.typeIs entry_tuple_getitem ?_ (args_tuple_getitem _ _)))
 show wpAny _ _ (Builtin.Tuple.tupleItemsOf (.ref t) >>= _) _ _ s
 refine wpAny_bind (tupleItemsOf_ ht ?_)
 refine wpAny_bind (wpAny_typeOf hTs ?_)
 rw [if_pos (by decide)]
 refine wpAny_bind (qA hs pl pu ?_)
 have hyes:(((sIx items.size 0 lo:Nat):Int) == 0 && (1:Int) == 1 && (sIx items.size items.size hi - sIx items.size 0 lo) == items.size) = true:=by
  rw [hw.1,hw.2]
  simp
 show wpAny _ _ (if (((sIx items.size 0 lo:Nat):Int) == 0 && (1:Int) == 1 && (sIx items.size items.size hi - sIx items.size 0 lo) == items.size) = true then _ else _) _ _ s
 rw [if_pos hyes]
 obtain ⟨o,ho,hc,n,hd⟩:=id ht
 refine wpAny_bind (m:=Builtin.Tuple.tupleIsExact _) ?_
 unfold Builtin.Tuple.tupleIsExact
 refine wpAny_bind (wpAny_typeOf ht.typeIs (wpAny_pure ?_))
 rw [if_pos (by decide)]
 exact wpAny_bind (wpAny_rule (wpAny_pure ⟨_,rfl,wpAny_pure h⟩))
end AxT
section
variable {X:Cx}
theorem sl_tup2:SlR X (rSlT2 X.K):=by
 intro pins s σ H x v vl vu lo hi sl Q I rx hs pl pu h
 obtain ⟨a,xs,rfl,hx,q⟩:=h
 cases rx
 obtain ⟨its,r,ht,hz⟩:=I.tuple hx
 have hlen:its.toArray.size = xs.length:=by rw [List.size_toArray]; exact r.length.symm
 refine ⟨"tuple",_,PyProof.Rows.slot_tuple_getitem.lookup,ht.typeIs,?_⟩
 by_cases hw:HT.sIx its.toArray.size 0 lo = 0 /\ HT.sIx its.toArray.size its.toArray.size hi = its.toArray.size
 ·refine AxT.getItem_tuple_whole ht hs pl pu hw ⟨.ref a,H,I,rfl,q _ _ (.inl ⟨rfl,rfl,?_⟩)⟩
  rw [hlen] at hw
  unfold cutV
  rw [hw.1,hw.2]
  simp
 ·refine HT.getItem_tuple_cut ht hs pl pu hw ?_ (by rw [hlen]; exact hz)
  rw [hlen]
  refine ⟨.ref s.heap.objs.size,_,I.laid (t':=s.toks) (o:=.tup (cutV xs lo hi)) (fun b ob q=>Heap.get?_push_of_some _ q) (Nat.le_refl _) ?_,rfl,q _ _ (.inr ⟨_,I.hok.fresh (Nat.le_refl _),rfl,rfl⟩)⟩
  exact ⟨Nat.le_trans (cutV_length xs lo hi) hz,_,(r.drop (HT.sIx xs.length 0 lo)).take (HT.sIx xs.length xs.length hi - HT.sIx xs.length 0 lo),IsTup.new _ _⟩
structure Cal (P:Program) (w:World) (K:PySem.W.Frag) (mg:Str -> Option Value) (base:Heap) (k:Nat) (x:Str) (ps:List Str) (sp:Sp):Prop where
 ex:∃ (f:Addr) (fd:FuncData),FnOk P w K mg base CX0 k f fd ps sp /\ mg x = some (.ref f) /\ PySem.W.keepIn K (.ref f) = true /\ Binds K fd ps []
theorem zM {k:Nat} {x:Str} {ps:List Str} {sp:Sp} {e:Expr} {es:List Expr} {t:TA} {p pos:Pos} (C:Cal X.prog X.w X.K X.mg X.base k x ps sp) (hr:Room k X.A) (ha:PA X (e :: es) t) (hg:Gl X x:=by rfl)
  (hdb:(x == ("__debug__":Str)) = false:=by decide) (he:starEach (e :: es) X.env = (false,eval e X.env) :: starEach es X.env:=by rfl) (hpl:(backTo pos (starEach es X.env)).any (·.1) = false:=by rfl) :
  PE X (.Call (.Name x p) (e :: es) [] pos) (tCall sp [] E0 t):=by
 obtain ⟨f,fd,F,hm,hk,hb⟩:=C.ex
 exact pe_call F hr hg hm hk hb .nil pass0 ha hdb he hpl
theorem Cal.mk' {P:Program} {w:World} {K:PySem.W.Frag} {mg:Str -> Option Value} {base:Heap} {k:Nat} {x qual:Str} {st:Stmt} {f:Addr} {fd:FuncData} {ps:List Str} {sp:Sp} (F:Fun K x qual st f fd) (G:FnOk P w K mg base CX0 k f fd ps sp) (hm:mg x = some (.ref f))
  (b:Binds K fd ps []):Cal P w K mg base k x ps sp:=⟨f,fd,G,hm,F.kp,b⟩
def KD (P:Program) (w:World) (K:PySem.W.Frag) (a:Addr) (kvs:List (Key × V)):Prop:=∀ h:Heap,K.In h -> ∃ vs,KV kvs vs /\ h.DictOf (yC P w) a vs
def tKGet (P:Program) (w:World) (K:PySem.W.Frag) (td ty:TE):TE:=fun σ H Q=>td σ H fun x H1=>ty σ H1 fun y H2=>∃ a kvs k v,x = .ref a /\ y = kV k /\ KD P w K a kvs /\ valV kvs k = some v /\ Q v H2
theorem pe_kget {o i:Expr} {td ty:TE} {pos:Pos} (ho:PE X o td) (hi:PE X i ty) (hs:NoSl i):PE X (.Subscript o i pos) (tKGet X.prog X.w X.K td ty):=by
 intro pins s σ H Q I h
 refine subD_of PySem.F.slot_dict_getitem.lookup hs (thn (ho pins s σ H _ I h) fun u s1 ⟨x,H1,I1,rx,q1⟩=>thn (hi pins s1 σ H1 _ I1 q1) fun iv s2 ⟨y,H2,I2,ry,a,kvs,k,v,ex,ey,kd,l,q2⟩=>?_)
 subst ex ey
 obtain rfl:u = Value.ref a:=rx
 obtain ⟨vs,rel,dd⟩:=kd _ I2.kIn
 obtain ⟨w',hw,rw'⟩:=RelO.some_of (v:=v) (o:=valueAt vs k) (by rw [← l]; exact rel.val k)
 exact ⟨dd.typeIs,wpAny_getItem_of (kV_is ry) dd.mapOf hw ⟨v,H2,I2.tok _,rw',q2⟩⟩
theorem call_isinst:CallR X (.builtin "isinstance") (fun xs H Q=>∃ y T t b,xs = [y,.ty T] /\ TyOf X.K H y t /\ PySem.W.kitOne X.K t (.type T) = some b /\ Q (.bl b) H):=by
 intro pins s σ H xs us Q I r h
 obtain ⟨y,T,t,b,rfl,ty,kt,q⟩:=h
 obtain ⟨u,w',rfl,ru,rw'⟩:=vals2 r
 cases (show w' = Value.type T from rw')
 exact xY I ru ty kt fun tk=>⟨.bl b,H,I.tok _,rfl,q⟩
end
end L2
namespace L2
open PySem PySem.Spec PyProof.Rows
theorem ObjOk.there {P:Program} {w:World} {H:Hp} {h:Heap} {a:Addr} {o:HO} (x:ObjOk P w H h a o):∃ ob,h.get? a = some ob:=by
 cases o with
 | lst xs=>obtain ⟨_,_,_,_,e⟩:=x; exact ⟨_,e⟩
 | tup xs=>obtain ⟨_,_,_,ob,e,_⟩:=x; exact ⟨_,e⟩
 | dK kvs=>obtain ⟨_,_,_,_,ob,_,_,e,_⟩:=x; exact ⟨_,e⟩
 | dT kvs=>obtain ⟨_,_,_,_,ob,_,_,e,_⟩:=x; exact ⟨_,e⟩
 | set S n=>obtain ⟨ob,_,_,_,e,_⟩:=x; exact ⟨_,e⟩
 | ins C dx fs=>obtain ⟨_,_,_,e,_⟩:=x; exact ⟨_,e⟩
 | own y=>exact x
 | xd fs=>obtain ⟨_,⟨_,_,_,e,_⟩,_⟩:=x; exact ⟨_,e⟩
 | rng lo hi=>obtain ⟨_,_,_,e⟩:=x; exact ⟨_,e⟩
 | frz ob u=>obtain ⟨e,_⟩:=x; exact ⟨_,e⟩
 | tbl ps=>exact ⟨_,(show h.get? a = some _ from x)⟩
 | met f y=>exact ⟨_,(show h.get? a = some _ from x)⟩
 | ext φ=>obtain ⟨_,e,_⟩:=x; exact e
def ctx0 (vs:Array Value):Prop:=vs[2]? = some .none
theorem ctx0_keep:Keep1 ctx0:=fun vs v h=>by
 show (vs.setIfInBounds 1 v)[2]? = some .none
 rw [Array.getElem?_setIfInBounds_ne (by decide)]; exact h
def ExcAt (h:Heap) (a T:Addr) (cls:Value):Prop :=
 ∃ oe vs oT ts,h.get? a = some oe /\ (oe.cls = cls /\ ctx0 vs) /\ oe.data = .fields vs /\ vs[1]? = some (.ref T) /\ T ≠ a /\ h.get? T = some oT /\ oT.data = .fields ts /\ ts[3]? = some .none
def CXF (P:Program) (w:World):CXT:=fun outer H s E e s'=>∃ a T cls H',e = .ref a /\ s'.os = s.os /\ AllBare s'.gens /\ Un (frs outer) [] H H' s.heap s'.heap /\ HOk P w H' s'.heap /\
 s.heap.get? a = none /\ s.heap.get? T = none /\ H' a = none /\ H' T = none /\ ExcAt s'.heap a T cls /\ E cls none H'
section
variable {X:Cx} {pins:List (Addr × Obj)} {σ:St} {H:Hp} {s:Shared}
theorem Inv.none_of (I:Inv X pins σ H s) {a:Addr} (e:s.heap.get? a = none):H a = none:=by
 cases q:H a with
 | none=>rfl
 | some u =>
  obtain ⟨ob,z⟩:=(I.hok a u q).there
  rw [e] at z; cases z
theorem Inv.old_none (I:Inv X pins σ H s) (hex:X.ex = []) {a:Addr} (e:s.heap.get? a = none):X.s₀.heap.get? a = none:=by
 cases q:X.s₀.heap.get? a with
 | none=>rfl
 | some o =>
  obtain ⟨ob,z⟩:=I.base.there a o q (by rw [hex]; simp)
  rw [e] at z; cases z
abbrev hidF (h:Heap) (as:List Addr) (l:List Env):Heap:=PySem.W.hideAll h (as ++ frs l)
theorem jC {h:Heap} {as:List Addr} {base:Heap} {l:List Env} (f:h.FunFrames base l):h.FunFrames (hidF h as l) l :=
 PySem.W.funFrames_hide f fun env he b hb=>List.mem_append_right _ (List.mem_filterMap.mpr ⟨env,he,hb⟩)
theorem qQ {h:Heap} {as:List Addr} {l:List Env}:(hidF h as l).StaysIn h:=fun _ _ q=>PySem.W.of_hideAll _ q
theorem raise_leaves (hst:X.stack = X.env :: X.outer) (hfr:X.env.frame = some X.env.locals) (hex:X.ex = []) (I:Inv X pins σ H s) {e:Addr} {cls:Value} {args:List Value} {h':Heap} (hx:Heap.MadeExcOf s.heap h' e cls args) {E:XK} (q:E cls none H)
  {Ex:Value -> Shared -> Prop}:wpAny (model X.prog X.w) X.A (leaving X.env (.ref e)) (fun _ s''=>CXF X.prog X.w X.outer X.H₀ X.s₀ E (.ref e) s'') Ex { s with heap:=h' }:=by
 have fr:=jC (as:=[]) I.stack
 have hA:X.A.frames = some (X.env :: X.outer):=by rw [I.ok.frames,hst]
 obtain ⟨t,he,htn,ht⟩:=hx.there
 have fresh:∀ b,s.heap.get? b = none -> (hidF s.heap [] X.stack).get? b = none:=fun b hb=>by
  cases hq:(hidF s.heap [] X.stack).get? b with
  | none=>rfl
  | some o'=>have:=qQ b o' hq; rw [hb] at this; cases this
 rw [hst] at fr
 refine leave_first (base:=hidF s.heap [] X.stack) (q:=ctx0) ctx0_keep hA ((by rw [hst]; exact fr:s.heap.FunFrames (hidF s.heap [] X.stack) (X.env :: X.outer)).of_keeps fun b o hb _=>⟨o,hx.keeps b o hb,rfl⟩) hfr he (fun b o hb=>hx.keeps b o (qQ b o hb)) (fresh e hx.new) rfl rfl rfl fun h2 k1 k2 L k4=>?_
 obtain ⟨oe,vs,T,oT,ts,t1,t2,t3,t4,t5,t6,t7,t8,t9⟩:=L
 have stk:∀ b ∈ frs X.stack,H b = none:=I.stkFree
 have kp:∀ b o,s.heap.get? b = some o -> b ∉ frs X.stack -> h2.get? b = some o:=fun b o e hb=>k1 b o (PySem.W.hideAll_get _ e (by simpa using hb))
 have sl:∀ b o,s.heap.get? b = some o -> b ∈ frs X.stack -> ∃ sl,h2.get? b = some { o with slots:=sl }:=fun b o e hb=>by
  obtain ⟨_,o',ho',hd⟩:=I.stack.mem hb
  rw [e] at ho'; cases ho'
  exact k4 b o (hx.keeps b o e) hd
 have nL:∀ b o,X.s₀.heap.get? b = some o -> b ≠ X.env.locals:=fun b o e=>Nat.ne_of_lt (Nat.lt_of_lt_of_le (Heap.lt_size e) I.ok.above)
 have nex:∀ b,b ∉ X.ex:=fun b=>by rw [hex]; simp
 have nT:s.heap.get? T = none:=by
  cases qT:s.heap.get? T with
  | none=>rfl
  | some o =>
   exfalso
   by_cases hT:T ∈ frs X.stack
   ·have k2':h2.FunFrames (hidF s.heap [] X.stack) X.stack:=by have z:=k2; rw [← hst] at z; exact z
    obtain ⟨_,o',ho',hd⟩:=k2'.mem hT
    rw [t7] at ho'; cases ho'
    exact hd _ t8
   ·have z:(hidF s.heap [] X.stack).get? T = some o:=PySem.W.hideAll_get _ qT (by simpa using hT)
    rw [t5] at z; cases z
 refine ⟨e,T,cls,H,rfl,I.os,I.bare,⟨fun b o e1 n hb _=>?_,fun b o e1 n hb _=>?_,fun b o e1 n _=>I.base.free b o e1 n (nex b),fun b o e1 _=>?_,I.base.tups,I.base.frzs,I.base.tbls⟩,fun b u e1=>?_,I.old_none hex hx.new,I.old_none hex nT,I.none_of hx.new,I.none_of nT,⟨oe,vs,oT,ts,t1,t2,t3,t4,t6,t7,t8,t9⟩,q⟩
 ·refine kp b o (I.base.keep b o e1 n hb (nex b)) fun z=>?_
  rcases List.mem_cons.mp (I.stkSub b z) with r | r
  ·exact nL b o e1 r
  ·exact hb r
 ·obtain ⟨sl1,e2⟩:=I.base.slot b o e1 n hb (nex b)
  by_cases hz:b ∈ frs X.stack
  ·obtain ⟨sl2,e3⟩:=sl b _ e2 hz
   exact ⟨sl2,e3⟩
  ·exact ⟨sl1,kp b _ e2 hz⟩
 ·obtain ⟨o',e2⟩:=I.base.there b o e1 (nex b)
  by_cases hz:b ∈ frs X.stack
  ·obtain ⟨sl2,e3⟩:=sl b _ e2 hz
   exact ⟨_,e3⟩
  ·exact ⟨o',kp b _ e2 hz⟩
 ·refine (I.hok b u e1).stay (fun c v hc r=>kp c v r fun z=>?_) (fun _ r=>r) fun _ _ r=>r
  have hz:=stk c z
  rcases hc with y | y
  ·rw [y,e1] at hz; cases hz
  ·rw [y] at hz; cases hz
end
theorem exc_of_in {K:PySem.W.Frag} {h:Heap} {C:Addr} {bmB:List Value} {newId:String} (X:K.In h) (q:PySem.W.excIn K C bmB newId = true) :
  ∃ bm N nm q bs hdct sn sub ab col dd k0 k1 k2 k3 k5 mN,h.get? C = some (excClassObj nm q C N bs bm hdct sn sub ab col dd k0 k1 k2 k3 k5 newId) /\ h.Ns N mN /\ mN "__init__" = none /\ OwnTail h bmB bm:=by
 unfold PySem.W.excIn at q
 split at q
 ·rename_i dd cd sl ho
  split at q
  ·rename_i C' bm k0 k1 k2 k3 n k5 hm hs
   simp only [Bool.and_eq_true,beq_iff_eq,Bool.not_eq_true'] at q
   obtain ⟨⟨⟨⟨⟨rfl,rfl⟩,hdel⟩,ht⟩,hok⟩,hni⟩:=q
   obtain ⟨nm,bs,mro,ns,qn,hd,sn,sub,ab,col,del⟩:=cd
   dsimp only at hm hdel hok hni
   subst hm hdel
   have hsl:sl = #[k0,k1,k2,k3,some (.builtin n),k5]:=by
    obtain ⟨l⟩:=sl
    simp only at hs
    rw [hs]
   subst hsl
   exact ⟨bm,ns,nm,qn,bs,hd,sn,sub,ab,col,dd,k0,k1,k2,k3,k5,_,X _ _ ho,.of_isNs (PySem.W.isNs_of_in X hok),PySem.W.nsMap_none_of_in X hok hni,PySem.W.tail_of_in X ht⟩
  ·cases q
 ·cases q
abbrev mroVE:List Value:=[.type "ValueError",.type "Exception",.type "BaseException",.type "object"]
def Throws (X:Cx) (R:St -> Hp -> Value -> Prop):Prop:=∀ (pins:List (Addr × Obj)) (σ:St) (H:Hp) (s:Shared) (e:Addr) (cls:Value) (args:List Value) (h':Heap),Inv X pins σ H s -> Heap.MadeExcOf s.heap h' e cls args -> R σ H cls -> X.xe (.ref e) { s with heap:=h' }
def tRaise (C:Addr) (R:St -> Hp -> Value -> Prop) (t:TA):TS:=fun _ σ H=>t σ H fun vs H1=>vs.length <= sizeLine /\ R σ H1 (.ref C)
section
variable {X:Cx}
theorem kH {x:Str} {C:Addr} {e₀:Expr} {rest:List Expr} {np cpos pos:Pos} {R:St -> Hp -> Value -> Prop} {t:TA} (hc:X.calm = true) (ht:Throws X R) (hg:Gl X x) (hm:X.mg x = some (.ref C)) (hex:PySem.W.excIn X.K C mroVE "ValueError.__new__" = true) (ha:PA X (e₀ :: rest) t)
  (he:starEach (e₀ :: rest) X.env = (false,eval e₀ X.env) :: starEach rest X.env:=by rfl) (hplain:(backTo cpos (starEach rest X.env)).any (·.1) = false:=by rfl) (hd:(x == ("__debug__":Str)) = false:=by decide) :
  PS X (.Raise (some (.Call (.Name x np) (e₀ :: rest) [] cpos)) none pos) (tRaise C R t):=by
 intro pins s σ H D I h
 obtain ⟨tl,N,nm,q,bs,hdct,sn,sub,ab,col,dd,k0,k1,k2,k3,k5,mN,hC,hN,hni,T⟩:=exc_of_in I.ok.mod.kin hex
 refine wpAny_Raise_call_subU (C:=C) (nm:=nm) (q:=q) (N:=N) (bs:=bs) (bm:=tl) (hdct:=hdct) (sn:=sn) (sub:=sub) (ab:=ab) (col:=col) (dd:=dd) (k0:=k0) (k1:=k1) (k2:=k2) (k3:=k3) (k5:=k5)
  F.excBase_ValueError (by decide +kernel) F.excBase_ValueError (mN:=mN) (T.hasType F.excBase_ValueError.hasBase) (I.ok.hd hc) (by rw [he]; show (false || (backTo cpos (starEach rest X.env)).any (·.1)) = false; rw [hplain]; rfl) hni (qI I hg hm ⟨rfl,?_⟩ hd)
 have ha':=ha cpos pins s σ H _ I h
 rw [he] at ha' ⊢
 exact Calls.evalArgs_plain (wpAny_mono ha' (fun us s₂ ⟨vs,H2,I2,r2,z2,q2⟩=>⟨rfl,by rw [← r2.length]; exact z2,I2.bk _ _ hC,hN.keeps I2.bk,T.keeps I2.bk,fun h' e hm'=>ht pins σ H2 s₂ e _ _ h' I2 hm' q2⟩) fun _ _ y=>y)
theorem jG {P:Program} {w:World} {K:PySem.W.Frag} {mg:Str -> Option Value} {base:Heap} {N:List Str} {qual:Str} {scope:Scope} {f:Addr} {cd:Value} {A:Around} {outer:List Env} {s:Shared} {H:Hp} {E:XK} :
  Throws (cxOf (CXF P w) P w K mg base N qual scope f cd A outer s H E) (fun _ H' cls=>E cls none H') :=
 fun _ _ _ _ _ _ _ _ I hx q=>raise_leaves rfl rfl rfl I hx q
end
def Raises (X:Cx) (R:St -> Hp -> Value -> Prop):Prop:=∀ (pins:List (Addr × Obj)) (σ:St) (H:Hp) (s:Shared) (e:Value) (s':Shared),Inv X pins σ H s -> CXF X.prog X.w X.stack H s (fun cls _ H'=>R σ H' cls) e s' -> X.xe e s'
def tCallX (sp:Sp) (R:St -> Hp -> Value -> Prop) (t:TA):TE:=fun σ H Q=>t σ H fun vs H1=>sp vs H1 Q (fun cls _ H'=>R σ H' cls)
section
variable {X:Cx} {k:Nat} {f:Addr} {fd:FuncData} {ps:List Str} {sp:Sp} {x:Str} {p pos:Pos} {e:Expr} {es:List Expr} {t:TA} {R:St -> Hp -> Value -> Prop}
theorem run_fnX {pins:List (Addr × Obj)} {σ:St} {H:Hp} {s:Shared} {Q:VK} {us:List Value} {vs:List V} (F:FnOk X.prog X.w X.K X.mg X.base (CXF X.prog X.w) k f fd ps sp) (hr:Room k X.A) (hb:Binds X.K fd ps []) (hx:Raises X R)
  (I:Inv X pins σ H s) (r:Vals vs us) (h:sp vs H Q (fun cls _ H'=>R σ H' cls)):wpAny (model X.prog X.w) X.A (call (.ref f) us) (EP X pins σ Q) X.xe s:=by
 have hl:us.length = ps.length:=by rw [← r.length]; exact F.len _ _ _ _ h
 have hb':=hb s us I.kIn (by simpa using hl)
 rw [List.append_nil] at hb'
 refine wpAny_call (codeAny_mono (F.run X.A X.stack s H ⟨us,[]⟩ us vs Q _ hr I.env0 hb' r h) fun r s' hq=>?_)
 cases r with
 | error e=>exact hx pins σ H s e s' I hq
 | ok fl =>
  cases fl with
  | ret u=>exact I.after hq
  | next=>exact False.elim hq
  | brk=>exact False.elim hq
  | cont=>exact False.elim hq
structure CalX (P:Program) (w:World) (K:PySem.W.Frag) (mg:Str -> Option Value) (base:Heap) (k:Nat) (x:Str) (ps:List Str) (sp:Sp):Prop where
 ex:∃ (f:Addr) (fd:FuncData),FnOk P w K mg base (CXF P w) k f fd ps sp /\ mg x = some (.ref f) /\ PySem.W.keepIn K (.ref f) = true /\ Binds K fd ps []
theorem zX (C:CalX X.prog X.w X.K X.mg X.base k x ps sp) (hr:Room k X.A) (hx:Raises X R) (ha:PA X (e :: es) t) (hg:Gl X x:=by rfl)
  (hdb:(x == ("__debug__":Str)) = false:=by decide) (he:starEach (e :: es) X.env = (false,eval e X.env) :: starEach es X.env:=by rfl) (hpl:(backTo pos (starEach es X.env)).any (·.1) = false:=by rfl) :
  PE X (.Call (.Name x p) (e :: es) [] pos) (tCallX sp R t):=by
 obtain ⟨f,fd,F,hm,hk,hb⟩:=C.ex
 intro pins s σ H Q I h
 refine wpAny_Call_Name_kw (qI I hg hm ?_ hdb)
 refine PySem.W.callWith_K (h₀:=X.base) I.ok.mod.kin hk (thn (ha pos pins s σ H _ I h) fun us s1 ⟨vs,H1,I1,r,q⟩=>⟨I1.kIn,?_⟩) he hpl
 exact run_fnX F hr hb hx I1 r q
end
end L2
namespace L2
open PySem PySem.Spec PyProof.Rows
def Fr1 (X:Cx) (pins:List (Addr × Obj)) (H:Hp) (b:Addr):Prop :=
 H b = none /\ X.s₀.heap.get? b = none /\ b ≠ X.env.locals /\ (∀ x c,X.env.cells.lookup x = some c -> c ≠ b) /\ ∀ p ∈ X.pn ++ pins,p.1 ≠ b
section
variable {X:Cx} {pins pins':List (Addr × Obj)} {σ:St} {H:Hp} {s:Shared} {h':Heap} {R:St -> Hp -> Value -> Prop}
theorem Inv.fr1 (I:Inv X pins σ H s) (hex:X.ex = []) {H':Hp} {b:Addr} (e:s.heap.get? b = none) (n:H' b = none):Fr1 X pins H' b:=by
 refine ⟨n,I.old_none hex e,fun z=>?_,fun x c q z=>?_,fun p hp z=>?_⟩
 ·obtain ⟨m,⟨o,_,_,ho,_⟩,_⟩:=I.loc
  rw [← z,e] at ho; cases ho
 ·obtain ⟨v,o,ho,_⟩:=I.cell x c q
  rw [z,e] at ho; cases ho
 ·have ho:=(I.pin p hp).1
  rw [z,e] at ho; cases ho
theorem Inv.land {ch:List Addr} (I:Inv X pins σ H s) (hch:∀ b ∈ ch,Fr1 X pins H b) (k1:(hidF s.heap ch X.stack).StaysIn h') (k2:s.heap.UpToSlots h') (tk:Nat):Inv X pins σ H { s with heap:=h',toks:=tk }:=by
 have kp:∀ b o,s.heap.get? b = some o -> b ∉ ch -> b ∉ frs X.stack -> h'.get? b = some o:=fun b o e hc hb=>k1 b o (PySem.W.hideAll_get _ e (by
  intro z
  rcases List.mem_append.mp z with z | z
  ·exact hc z
  ·exact hb z))
 have any:∀ b o,s.heap.get? b = some o -> b ∉ ch -> ∃ sl,h'.get? b = some { o with slots:=sl }:=fun b o e hc=>by
  by_cases hb:b ∈ frs X.stack
  ·obtain ⟨_,o',ho',hd⟩:=I.stack.mem hb
   rw [e] at ho'; cases ho'
   exact k2 b o e hd
  ·exact ⟨o.slots,kp b o e hc hb⟩
 have nst:∀ b,b ≠ X.env.locals -> b ∉ X.fs -> b ∉ frs X.stack:=fun b h1 h2 z=>(List.mem_cons.mp (I.stkSub b z)).elim h1 h2
 have nL:∀ b o,X.s₀.heap.get? b = some o -> b ≠ X.env.locals:=fun b o e=>Nat.ne_of_lt (Nat.lt_of_lt_of_le (Heap.lt_size e) I.ok.above)
 have nch:∀ b o,X.s₀.heap.get? b = some o -> b ∉ ch:=fun b o e z=>by rw [(hch b z).2.1] at e; cases e
 have cellK:∀ c v,s.heap.IsCell c v -> h'.IsCell c v:=fun c v ⟨o,ho,hd⟩=>by
  obtain ⟨sl,e⟩:=k2 c o ho fun vs z=>by rw [hd] at z; cases z
  exact ⟨_,e,hd⟩
 refine ⟨I.ok,I.os,I.bare,⟨fun b o e n hb hx=>?_,fun b o e n hb hx=>?_,I.base.free,fun b o e hx=>?_,I.base.tups,I.base.frzs,I.base.tbls⟩,?_,fun x c e=>?_,I.free,I.freeC,fun p hp=>?_,fun b u e=>?_,I.len⟩
 ·exact kp b o (I.base.keep b o e n hb hx) (nch b o e) (nst b (nL b o e) hb)
 ·obtain ⟨sl,e1⟩:=I.base.slot b o e n hb hx
  obtain ⟨sl',e2⟩:=any b _ e1 (nch b o e)
  exact ⟨sl',e2⟩
 ·obtain ⟨o',e1⟩:=I.base.there b o e hx
  obtain ⟨sl',e2⟩:=any b _ e1 (nch b o e)
  exact ⟨_,e2⟩
 ·obtain ⟨m,hn,hl⟩:=I.loc
  refine ⟨m,k2.ns hn,fun i x v e1 e2 e3=>?_⟩
  obtain ⟨u,r,l⟩:=hl i x v e1 e2 e3
  refine ⟨u,r,?_⟩
  rcases l with l | ⟨k,c,e,z⟩
  ·exact .inl l
  ·exact .inr ⟨k,c,e,cellK c _ z⟩
 ·obtain ⟨v,z⟩:=I.cell x c e
  exact ⟨v,cellK c v z⟩
 ·obtain ⟨e,n,ne,nf,d⟩:=I.pin p hp
  exact ⟨kp _ _ e (fun z=>(hch _ z).2.2.2.2 p hp rfl) (nst _ ne nf),n,ne,nf,d⟩
 ·refine (I.hok b u e).stay (fun c v hc r=>kp c v r (fun z=>?_) fun z=>?_) (fun _ r=>r) fun _ _ r=>r
  ·have hz:=(hch c z).1
   rcases hc with y | y
   ·rw [y,e] at hz; cases hz
   ·rw [y] at hz; cases hz
  ·have hz:=I.stkFree c z
   rcases hc with y | y
   ·rw [y,e] at hz; cases hz
   ·rw [y] at hz; cases hz
theorem Inv.takeUp2 {T:Addr} {o:HO} (I:Inv X pins σ H s) (f:Fr1 X pins H T) (new:ObjOk X.prog X.w (upd H T o) s.heap T o):Inv X pins σ (upd H T o) s:=by
 obtain ⟨n,h0,hL,hc,hp⟩:=f
 refine ⟨I.ok,I.os,I.bare,I.base.adopt2 h0 n,I.loc,I.cell,?_,fun x c e=>?_,fun p hpp=>?_,I.hok.adopt n new,I.len⟩
 ·rw [zI (Ne.symm hL)]; exact I.free
 ·rw [zI (hc x c e)]; exact I.freeC x c e
 ·obtain ⟨e,n',ne,nf,d⟩:=I.pin p hpp
  exact ⟨e,by rw [zI (hp p hpp)]; exact n',ne,nf,d⟩
theorem Inv.forgot (I:Inv X pins σ H s) {m:Str -> Option Value} (hn:h'.Ns X.env.locals m) (sb:Heap.SameBut X.env.locals s.heap h') (tk:Nat):Inv X pins (List.replicate X.N.length none) H { s with heap:=h',toks:=tk }:=by
 have nL:∀ b o,X.s₀.heap.get? b = some o -> b ≠ X.env.locals:=fun b o e=>Nat.ne_of_lt (Nat.lt_of_lt_of_le (Heap.lt_size e) I.ok.above)
 refine ⟨I.ok,I.os,I.bare,⟨fun b o e n hb hx=>(sb.2 b (nL b o e)).trans (I.base.keep b o e n hb hx),fun b o e n hb hx=>?_,I.base.free,fun b o e hx=>?_,I.base.tups,I.base.frzs,I.base.tbls⟩,⟨m,hn,fun i x v _ e2 _=>?_⟩,fun x c e=>?_,I.free,I.freeC,fun p hp=>?_,fun b u e=>?_,by simp⟩
 ·obtain ⟨sl,e1⟩:=I.base.slot b o e n hb hx
  exact ⟨sl,(sb.2 b (nL b o e)).trans e1⟩
 ·obtain ⟨o',e1⟩:=I.base.there b o e hx
  exact ⟨o',(sb.2 b (nL b o e)).trans e1⟩
 ·rw [List.getElem?_replicate] at e2
  split at e2 <;> cases e2
 ·obtain ⟨v,z⟩:=I.cell x c e
  exact ⟨v,z.sameBut sb (I.cne x c e)⟩
 ·obtain ⟨e,n,ne,nf,d⟩:=I.pin p hp
  exact ⟨(sb.2 p.1 ne).trans e,n,ne,nf,d⟩
 ·refine (I.hok b u e).stay (fun c v hc r=>(sb.2 c fun z=>?_).trans r) (fun _ r=>r) fun _ _ r=>r
  have hz:=I.free
  rw [← z] at hz
  rcases hc with y | y
  ·rw [y,e] at hz; cases hz
  ·rw [y] at hz; cases hz
def Cx.tryc (X:Cx) (pins:List (Addr × Obj)) (R:St -> Hp -> Value -> Prop):Cx :=
 { X with pn:=X.pn ++ pins,xe:=fun e s'=>∃ a T cls σ H,e = .ref a /\ Inv X pins σ H s' /\ Fr1 X pins H a /\ Fr1 X pins H T /\ ExcAt s'.heap a T cls /\ R σ H cls }
theorem Inv.into (I:Inv X pins σ H s) (R:St -> Hp -> Value -> Prop):Inv (X.tryc pins R) [] σ H s :=
 ⟨⟨I.ok.mod,I.ok.kind,I.ok.glob,I.ok.blt,I.ok.above,I.ok.inj,I.ok.has,I.ok.cab,I.ok.hd,I.ok.frames,I.ok.stk,I.ok.exf,I.ok.bs,I.ok.bsz,I.ok.noex,I.ok.exfs,I.ok.funs,I.ok.frf⟩,I.os,I.bare,I.base,I.loc,I.cell,I.free,I.freeC,fun p hp=>I.pin p (by
  have hp:p ∈ (X.pn ++ pins) ++ []:=hp
  simpa using hp),I.hok,I.len⟩
theorem Inv.outof (I:Inv (X.tryc pins R) pins' σ H s):Inv X pins σ H s :=
 ⟨⟨I.ok.mod,I.ok.kind,I.ok.glob,I.ok.blt,I.ok.above,I.ok.inj,I.ok.has,I.ok.cab,I.ok.hd,I.ok.frames,I.ok.stk,I.ok.exf,I.ok.bs,I.ok.bsz,I.ok.noex,I.ok.exfs,I.ok.funs,I.ok.frf⟩,I.os,I.bare,I.base,I.loc,I.cell,I.free,I.freeC,fun p hp=>I.pin p (List.mem_append_left _ hp),I.hok,I.len⟩
theorem SP.outof {D:Ends} {f:Flow} {s':Shared} (h:SP (X.tryc pins R) pins' D f s'):SP X pins D f s':=by
 cases f with
 | next=>obtain ⟨σ',H',I,q⟩:=h; exact ⟨σ',H',I.outof,q⟩
 | brk=>obtain ⟨σ',H',I,q⟩:=h; exact ⟨σ',H',I.outof,q⟩
 | cont=>obtain ⟨σ',H',I,q⟩:=h; exact ⟨σ',H',I.outof,q⟩
 | ret u=>obtain ⟨v,σ',H',I,r,q⟩:=h; exact ⟨v,σ',H',I.outof,r,q⟩
theorem xD (hex:X.ex = []):Raises (X.tryc pins R) R:=by
 intro pins' σ H s e s' I hx
 obtain ⟨a,T,cls,H',rfl,os,bare,un,hok,na,nT,ha,hT,ea,q⟩:=hx
 have I0:Inv X pins σ H s:=I.outof
 have I1:Inv X pins σ H' s':=I0.call' (ch:=[]) os un hok bare fun b z=>absurd z (by simp)
 exact ⟨a,T,cls,σ,H',rfl,I1,I0.fr1 hex na ha,I0.fr1 hex nT hT,ea,q⟩
def Cx.inexc (X:Cx) (e:Value):Cx:={ X with A:=X.A.mark (some e),calm:=false,xe:=fun _ _=>False }
theorem Inv.mark (I:Inv X pins σ H s) (e:Value):Inv (X.inexc e) pins σ H s :=
 ⟨⟨I.ok.mod,I.ok.kind,I.ok.glob,I.ok.blt,I.ok.above,I.ok.inj,I.ok.has,I.ok.cab,fun z=>(by cases z),I.ok.frames,I.ok.stk,I.ok.exf,I.ok.bs,I.ok.bsz,I.ok.noex,I.ok.exfs,I.ok.funs,I.ok.frf⟩,I.os,I.bare,I.base,I.loc,I.cell,I.free,I.freeC,I.pin,I.hok,I.len⟩
theorem Inv.unmark {e:Value} (ok:X.Ok) (I:Inv (X.inexc e) pins σ H s):Inv X pins σ H s :=
 ⟨ok,I.os,I.bare,I.base,I.loc,I.cell,I.free,I.freeC,I.pin,I.hok,I.len⟩
end
def IsExc (a:Addr) (cls:Value):HO:=.ext fun h=>∃ o vs,h.get? a = some o /\ o.cls = cls /\ o.data = .fields vs /\ ctx0 vs
def tTryA (K:PySem.W.Frag) (C:Addr) (i:Nat) (tb:(St -> Hp -> Value -> Prop) -> TS) (th:Addr -> TS):TS:=fun D σ H=>∃ R:St -> Hp -> Value -> Prop,tb R D σ H /\
 ∀ σ' H' cls a,R σ' H' cls -> H' a = none -> PySem.W.exmOne K cls (.ref C) = some true /\ th a { nx:=fun _ _=>False,rt:=D.rt } (σ'.set i (some (.ref a))) (upd H' a (IsExc a cls))
section
variable {X:Cx}
theorem ps_tryA {body suite:List Stmt} {b₀:Stmt} {c n:Str} {C:Addr} {i:Nat} {np hpos pos:Pos} {tb:(St -> Hp -> Value -> Prop) -> TS} {th:Addr -> TS} (hst:X.stack = X.env :: X.outer) (hfr:X.env.frame = some X.env.locals) (hex:X.ex = [])
  (hb:∀ pins R,PSs (X.tryc pins R) body (tb R)) (hg:Gl X c) (hm:X.mg c = some (.ref C)) (hN:X.N.Nodup) (hi:X.N[i]? = some n) (hl:X.env.scope.names.lookup n = some .local) (hs:∀ z:Addr,PSs (X.inexc (.ref z)) (b₀ :: suite) (th z))
  (hd:(c == ("__debug__":Str)) = false:=by decide):PS X (.Try body [.ExceptHandler (some (.Name c np)) (some n) (b₀ :: suite) hpos] [] [] pos) (tTryA X.K C i tb th):=by
 intro pins s σ H D I h
 obtain ⟨R,hb1,hh⟩:=h
 refine wpAny_Try_except (wpAny_mono (hb pins R [] s σ H D (I.into R) hb1) (fun f s1 q=>?_) fun e s1 q=>?_)
 ·have q':SP X pins D f s1:=q.outof
  cases f with
  | next=>exact wpAny_execs_nil q'
  | brk=>exact q'
  | cont=>exact q'
  | ret u=>exact q'
 ·obtain ⟨a,T,cls,σ1,H1,rfl,I1,fa,fT,⟨oe,vs,oT,ts,e1,e2,e3,e4,e5,e6,e7,e8⟩,r1⟩:=q
  obtain ⟨hx,hth⟩:=hh σ1 H1 cls a r1 fa.1
  have hA:X.A.frames = some (X.env :: X.outer):=by rw [I1.ok.frames,hst]
  have hch:∀ b ∈ [a,T],Fr1 X pins H1 b:=fun b z=>by
   rcases List.mem_cons.mp z with z | z
   ·rw [z]; exact fa
   ·rw [List.mem_singleton.mp z]; exact fT
  have fl3:s1.heap.FunFrames (hidF s1.heap [a,T] X.stack) (X.env :: X.outer):=by have z:=jC (as:=[a,T]) I1.stack; rw [hst] at z ⊢; exact z
  have fly:Trc ctx0 s1.heap (hidF s1.heap [a,T] X.stack) a cls .none:=⟨oe,vs,T,oT,ts,e1,e2,e3,e4,PySem.W.hideAll_none _ (by simp),e5,e6,e7,e8⟩
  refine note_on ctx0_keep hA fl3 hfr fly qQ (PySem.W.hideAll_none _ (by simp)) fun h2 g1 g2 held2 sm2=>?_
  refine xZ (s:={ s1 with heap:=h2 }) g1 g2 held2 fun h3 st3 ff3 fly3 sm3=>?_
  have I3:Inv X pins σ1 H1 { s1 with heap:=h3 }:=I1.land hch st3 (sm2.trans sm3) s1.toks
  refine wpAny_handleBy_cons (codeAny_handlers_test ?_) (by intro z; cases z)
  refine qI (X:=X.inexc (.ref a)) (I3.mark _) hg hm ?_ hd
  obtain ⟨ob,_,_,_,_,hob,⟨hobc,_⟩,_⟩:=id fly3
  have LT:PySem.W.Looks (model X.prog X.w) h3 (typeOf (.ref a)) cls:=hobc ▸ (PySem.W.Looks.ld hob).andThen .now
  refine (PySem.W.exm_one (K:=X.K) (h:=h3) I3.kIn LT hx).here ?_
  refine codeAny_handlers_suite_as (xZ (s:={ s1 with heap:=h3 }) st3 ff3 fly3 fun h4 st4 ff4 fly4 sm4=>?_)
  have I4:Inv X pins σ1 H1 { s1 with heap:=h4 }:=I1.land hch st4 ((sm2.trans sm3).trans sm4) s1.toks
  have new:ObjOk X.prog X.w (upd H1 a (IsExc a cls)) h4 a (IsExc a cls):=by
   obtain ⟨oe4,vs4,_,_,_,g1,⟨g2,gc⟩,g3,_⟩:=fly4
   exact ⟨⟨oe4,vs4,g1,g2,g3,gc⟩,⟨oe4,g1⟩,fun u1 u2 ⟨o,v,z1,z2,z3⟩ k=>⟨o,v,k o z1,z2,z3⟩⟩
  have I5:Inv X pins σ1 (upd H1 a (IsExc a cls)) { s1 with heap:=h4 }:=I4.takeUp2 fa new
  refine jF (X:=X.inexc (.ref a)) (v:=.ref a) (I5.mark _) hN hi (Or.inl hl) rfl (fun s6 I6=>?_) (Or.inr hl)
  refine wpAny_mono (hs a pins s6 _ _ _ I6 hth) (fun f s7 q7=>?_) fun _ _ z=>z.elim
  cases f with
  | ret u =>
   obtain ⟨v,σ7,H7,I7,rv,q⟩:=q7
   have I7':Inv X pins σ7 H7 s7:=I7.unmark I1.ok
   obtain ⟨m,hn,_⟩:=I7'.loc
   refine wpAny_nameGoes hl hn (by rw [I7'.ok.kind]; rfl) fun h8 m8 hn8 sb8=>?_
   exact ⟨v,_,H7,I7'.forgot hn8 sb8 _,rv,q⟩
  | next=>obtain ⟨_,_,_,z⟩:=q7; exact z.elim
  | brk=>obtain ⟨_,_,_,z⟩:=q7; exact z.elim
  | cont=>obtain ⟨_,_,_,z⟩:=q7; exact z.elim
end
end L2
namespace L2
open PySem PySem.Spec PyProof.Rows
section
variable {P:Program} {w:World} {K:PySem.W.Frag} {mg:Str -> Option Value} {base:Heap}
theorem Fun.okX {x qual:Str} {st:Stmt} {f:Addr} {fd:FuncData} {N ps:List Str} {k:Nat} {sp:Sp} (F:Fun K x qual st f fd) (S:FnScope N ps (zC st)) (len:∀ vs H Q E,sp vs H Q E -> vs.length = ps.length)
  (hbody:∀ (cdv:Value) (A:Around) (outer:List Env) (s:Shared) (H:Hp) (vs:List V) (Q:VK) (E:XK),Room k (A.deeper (envOfC qual (zC st) s.heap.objs.size f cdv)) -> sp vs H Q E ->
   ∃ t,PSs (cxOf (CXF P w) P w K mg base N qual (zC st) f cdv A outer s H E) (zL st) t /\ t { nx:=fun _ H'=>Q .non H',rt:=Q } (start N vs) H):FnOk P w K mg base (CXF P w) (k + 1) f fd ps sp:=by
 obtain ⟨oc,od,kV,doc,pm,an,cdv,ct,osl,rfl,lk,hcd⟩:=F.ex
 refine fn_of lk hcd S len fun A outer s H vs Q E hr hsp=>?_
 obtain ⟨t,h,q⟩:=hbody cdv A outer s H vs Q E hr hsp
 exact ⟨t,h,q⟩
end
end L2
namespace L2
open PySem PySem.Spec PyProof.Rows
section
variable {X:Cx} {a:Expr} {ta:TE} {K:PySem.W.Frag}
def tTru (K:PySem.W.Frag) (ta:TE):TT:=fun σ H Q=>ta σ H fun x H'=>∃ k,TruV K x H' k /\ Q k H'
theorem zQ (ha:PE X a ta) (he:∀ whole,isTrue a X.env whole = (do let v ← whole; standAt a.pos; holding [v] (truthy v))) (hK:X.K = K:=by rfl):PT X a (tTru K ta):=by
 subst hK
 exact pt_truth ha he
def rIsi (K:PySem.W.Frag):List V -> Hp -> VK -> Prop:=fun xs H Q=>∃ y T t b,xs = [y,.ty T] /\ TyOf K H y t /\ PySem.W.kitOne K t (.type T) = some b /\ Q (.bl b) H
theorem kA (hK:X.K = K:=by rfl):CallR X (.builtin "isinstance") (rIsi K):=by
 subst hK
 exact call_isinst
end
end L2
namespace An
open PySem L2
abbrev cs (x:Str):List Nat:=x.cps.toList
theorem cs_inj {x y:Str} (h:cs x = cs y):x = y:=by
 obtain ⟨a⟩:=x
 obtain ⟨b⟩:=y
 have:a = b:=by simpa using h
 rw [this]
theorem cs_append (x y:Str):cs (x ++ y) = cs x ++ cs y:=by
 show (x.cps ++ y.cps).toList = _
 simp
theorem length_cs (x:Str):x.length = (cs x).length:=by simp [Str.length]
theorem len_append (x y:Str):(x ++ y).length = x.length + y.length:=by rw [length_cs,length_cs,length_cs,cs_append,List.length_append]
theorem cs_joinNil:∀ xs:List Str,cs (Str.join "" xs) = xs.flatMap cs
 | []=>rfl
 | [x]=>by show cs x = _; simp
 | x :: y :: r=>by
  show cs (x ++ "" ++ Str.join "" (y :: r)) = _
  have:cs ("":Str) = []:=by decide +kernel
  rw [cs_append,cs_append,cs_joinNil (y :: r),this,List.append_nil]
  simp
theorem qV:∀ (a b:List Str),PyData.eqvAll (a.map .str) (b.map .str) = decide (a = b)
 | [],[]=>rfl
 | [],_ :: _=>rfl
 | _ :: _,[]=>rfl
 | x :: a,y :: b=>by
  show ((x == y) && PyData.eqvAll (a.map .str) (b.map .str)) = _
  rw [qV a b,Bool.eq_iff_iff]
  simp
structure Ok (n:Nat) (x:Str):Prop where
 len:x.length <= n
 ok:PyData.strOk x = true
theorem qJ (x:Str):PyData.strOk x = true ↔ ∀ c ∈ cs x,c < 1114112:=by
 unfold PyData.strOk
 rw [← Array.all_toList,List.all_eq_true]
 simp
theorem lay_strs:∀ ls:List Str,(∀ p ∈ ls,PyData.strOk p = true) -> PyData.canLayAll0 (ls.map .str) = true /\ PyData.depthAll (ls.map .str) = 0
 | [],_=>⟨rfl,rfl⟩
 | x :: ls,h=>by
  obtain ⟨h1,h2⟩:=lay_strs ls fun p hp=>h p (List.mem_cons_of_mem _ hp)
  refine ⟨?_,?_⟩
  ·show (PyData.strOk x && PyData.canLayAll0 (ls.map .str)) = true
   rw [h x List.mem_cons_self,h1]; rfl
  ·show max 0 (PyData.depthAll (ls.map .str)) = 0
   rw [h2]; rfl
theorem yJ {ls:List Str} (h:∀ p ∈ ls,PyData.strOk p = true):SeqAt.shaped (.list (ls.map .str)) = true /\ SeqAt.shaped (.tuple (ls.map .str)) = true:=by
 obtain ⟨h1,h2⟩:=lay_strs ls h
 refine ⟨?_,?_⟩
 ·show (PyData.canLayAll0 (ls.map .str) && decide (PyData.depthAll (ls.map .str) + 1 <= 64)) = true
  rw [h1,h2]; rfl
 ·show (PyData.canLayAll0 (ls.map .str) && decide (PyData.depthAll (ls.map .str) + 1 <= 64)) = true
  rw [h1,h2]; rfl
theorem zE {H:Hp} {l:Addr} {o:HO} (h:H l = none):Same H (upd H l o):=fun b u e=>by rw [zI (zJ e h)]; exact e
theorem Same.updF {H H2:Hp} {l:Addr} {o:HO} (e:Same H H2) (n:H l = none):Same H (upd H2 l o):=fun b u q=>by rw [zI (zJ q n)]; exact e b u q
theorem le_line {n:Nat} (h:n <= 16777216):n <= sizeLine:=by rw [sizeLine_eq]; exact h
theorem qG {n:Nat} (h:n < 16777216):n < sizeLine:=by rw [sizeLine_eq]; exact h
theorem atI_zero {α:Type} (x:α) (r:List α):atI (x :: r) 0 = some x:=yS (j:=0) rfl
theorem lineN (n:Nat) (h:n <= 16777216:=by decide):n <= sizeLine:=le_line h
theorem iteN {c A B:Prop} [Decidable c] (hc:¬ c) (h:B):if decide c = true then A else B:=by
 rw [decide_eq_false hc]; exact iteF h
theorem sum_le {n:Nat}:∀ (ys:List Str),(∀ y ∈ ys,y.length <= n) -> (ys.map (·.length)).sum <= ys.length * n
 | [],_=>by simp
 | y :: ys,h=>by
  have h1:=sum_le ys fun z hz=>h z (List.mem_cons_of_mem _ hz)
  have h2:=h y List.mem_cons_self
  rw [List.map_cons,List.sum_cons,List.length_cons,Nat.succ_mul]
  omega
theorem mem_snoc {α:Type} {p:α -> Prop} {l:List α} {x:α} (h:∀ y ∈ l,p y) (hx:p x):∀ y ∈ l ++ [x],p y:=fun y hy=>by
 rcases List.mem_append.mp hy with z | z
 ·exact h y z
 ·rw [List.mem_singleton.mp z]; exact hx
theorem at_map {α:Type} {f:α -> V} {xs:List α} {i:Int} (h0:0 <= i) (h1:i < xs.length):∃ x,xs[i.toNat]? = some x /\ atI (xs.map f) i = some (f x):=by
 obtain ⟨j,rfl⟩:=Int.eq_ofNat_of_zero_le h0
 have hj:j < xs.length:=by omega
 refine ⟨xs[j],by simp [hj],yS ?_⟩
 rw [List.getElem?_map,List.getElem?_eq_getElem hj]; rfl
theorem cut_to {xs:List V} {i:Int} (h0:0 <= i):cutV xs none (some i) = xs.take i.toNat:=by
 obtain ⟨j,rfl⟩:=Int.eq_ofNat_of_zero_le h0
 unfold cutV
 rw [HT.sIx_none,HT.sIx_nat,List.drop_zero]
 show xs.take (min j xs.length - 0) = xs.take j
 by_cases h:j <= xs.length
 ·rw [Nat.min_eq_left h]; rfl
 ·rw [Nat.min_eq_right (by omega),Nat.sub_zero,List.take_length,List.take_of_length_le (by omega)]
theorem cut_from {xs:List V} {i:Int} (h0:0 <= i):cutV xs (some i) none = xs.drop i.toNat:=by
 obtain ⟨j,rfl⟩:=Int.eq_ofNat_of_zero_le h0
 unfold cutV
 rw [HT.sIx_none,HT.sIx_nat]
 show (xs.drop (min j xs.length)).take (xs.length - min j xs.length) = xs.drop j
 by_cases h:j <= xs.length
 ·rw [Nat.min_eq_left h]
  exact List.take_of_length_le (by rw [List.length_drop]; omega)
 ·rw [Nat.min_eq_right (by omega),List.drop_eq_nil_of_le (Nat.le_refl _),List.drop_eq_nil_of_le (by omega)]; simp
def TSame (H H':Hp):Prop:=∀ b o,H b = some o -> (∀ xs,o ≠ .lst xs) -> H' b = some o
theorem TSame.upd {H:Hp} {l:Addr} {xs ys:List V} (h:H l = some (.lst xs)):TSame H (L2.upd H l (.lst ys)):=fun b o e n=>by
 have hb:b ≠ l:=fun z=>by rw [z,h] at e; cases e; exact n xs rfl
 rw [zI hb]; exact e
theorem iteNF {A B:Prop} (h:B):if (!true) = true then A else B:=by
 show if false = true then A else B
 exact iteF h
theorem iteNT {A B:Prop} (h:A):if (!false) = true then A else B:=by
 show if true = true then A else B
 exact iteT h
end An
namespace L2
open PySem PySem.Spec PyProof.Rows
end L2
namespace AxT
open PySem PySem.Spec PyProof.Rows PySem.SeqAt
open AutoSeq1 (wpAny_loadPart')
end AxT
namespace L2
open PySem PySem.Spec PyProof.Rows
end L2
namespace AxR
open PySem PySem.Spec PyProof.Rows
open AutoSeq1 (wpAny_loadPart')
end AxR
namespace L2
open PySem PySem.Spec PyProof.Rows
end L2
namespace L2
open PySem PySem.Spec PyProof.Rows
section
variable {X:Cx} {K:PySem.W.Frag}
def rLeS:R2:=fun x y H Q=>∃ i j:Str,x = .str i /\ y = .str j /\ Q (.bl (!decide (j.cps.toList < i.cps.toList))) H
theorem op_leS:OpR X (compareOp .LtE) rLeS:=by
 intro pins s σ H x y v u Q I rx ry h
 obtain ⟨i,j,rfl,rfl,q⟩:=h
 obtain ⟨t,rfl⟩:=rx
 obtain ⟨t',rfl⟩:=ry
 exact P.le_str ⟨.bl _,H,I,rfl,q⟩
theorem vals_bl:∀ {bs:List Bool} {us:List Value},Vals (bs.map V.bl) us -> us = bs.map Value.bool
 | [],us,h=>by cases h; rfl
 | b :: bs,us,h=>by
  cases h with
  | cons r1 r2=>rw [vals_bl r2]; cases r1; rfl
def rAll (K:PySem.W.Frag):List V -> Hp -> VK -> Prop:=fun xs H Q=>∃ (a:Addr) (bs:List Bool),xs = [.ref a] /\ SqL K H a (bs.map V.bl) /\ Q (.bl (bs.all id)) H
theorem qS (hc:X.calm = true) (hK:X.K = K:=by rfl):CallR X (.builtin "all") (rAll K):=by
 subst hK
 intro pins s σ H xs us Q I r h
 obtain ⟨a,bs,rfl,ha,q⟩:=h
 obtain ⟨u,rfl,ru⟩:=vals1 r
 cases ru
 obtain ⟨its,rv,pl,hz⟩:=I.list ha
 have ei:=vals_bl rv
 have hl:=pl.isList
 have hlt:a < s.heap.objs.size:=by obtain ⟨_,e,_⟩:=hl; exact Heap.lt_size e
 refine call_all_walk (wpAny_pyIter_list hl ?_)
 refine ⟨s.heap.objs.size,[s.heap.objs.size,a],[s.heap.objs.size],its.toArray.size,_,_,fun i=>(bs[i]?).getD true,rfl,Walks.list (A:=X.A.in1) (I.ok.hd hc) _ a (Nat.ne_of_lt hlt) its.toArray,
  ⟨⟨_,Heap.get?_push_size _ rfl,rfl,rfl⟩,hl.push _⟩,fun i v s' Q' E' hP hQ=>?_,fun h' tk hk=>?_⟩
 ·have hP:its[i]? = some v:=by simpa using hP
  rw [ei,List.getElem?_map] at hP
  cases e:bs[i]? with
  | none=>rw [e] at hP; cases hP
  | some b =>
   rw [e] at hP
   have hP:Value.bool b = v:=Option.some.inj hP
   subst hP
   simp only [e,Option.getD_some] at hQ
   exact wpAny_truthy_bool hQ
 ·have hlen:its.length = bs.length:=by rw [ei,List.length_map]
  have e:((List.range its.toArray.size).all fun i=>(bs[i]?).getD true) = bs.all id:=by
   rw [List.size_toArray,hlen]; exact PyProof.Rows.LSm.range_all bs
  rw [e]
  exact ⟨.bl _,H,I.kept (PyProof.Rows.LSm.kept_iter hk),rfl,q⟩
end
mutual
def Dw (K:PySem.W.Frag) (H:Hp):PyData -> V -> Prop
 | .none,v=>v = .non
 | .bool b,v=>v = .bl b
 | .int i,v=>v = .int i
 | .str x,v=>v = .str x
 | .list ds,v=>∃ a xs,v = .ref a /\ SqL K H a xs /\ DwAll K H ds xs
 | .tuple ds,v=>∃ a xs,v = .ref a /\ SqT K H a xs /\ DwAll K H ds xs
 | .dict _,v=>∃ a kvs,v = .ref a /\ H a = some (.dK kvs)
def DwAll (K:PySem.W.Frag) (H:Hp):List PyData -> List V -> Prop
 | [],xs=>xs = []
 | d :: ds,xs=>∃ x r,xs = x :: r /\ Dw K H d x /\ DwAll K H ds r
end
mutual
theorem Dw.same {K:PySem.W.Frag} {H H':Hp} (e:Same H H'):∀ (d:PyData) (v:V),Dw K H d v -> Dw K H' d v
 | .none,_,h=>h
 | .bool _,_,h=>h
 | .int _,_,h=>h
 | .str _,_,h=>h
 | .list ds,_,⟨a,xs,h1,h2,h3⟩=>⟨a,xs,h1,e.seq h2,DwAll.same e ds xs h3⟩
 | .tuple ds,_,⟨a,xs,h1,h2,h3⟩=>⟨a,xs,h1,e.tupS h2,DwAll.same e ds xs h3⟩
 | .dict _,_,⟨a,kvs,h1,h2⟩=>⟨a,kvs,h1,e _ _ h2⟩
theorem DwAll.same {K:PySem.W.Frag} {H H':Hp} (e:Same H H'):∀ (ds:List PyData) (xs:List V),DwAll K H ds xs -> DwAll K H' ds xs
 | [],_,h=>h
 | d :: ds,_,⟨x,r,h1,h2,h3⟩=>⟨x,r,h1,Dw.same e d x h2,DwAll.same e ds r h3⟩
end
mutual
theorem Dt.dw {K:PySem.W.Frag} {H:Hp}:∀ {d:PyData} {v:V},Dt K H d v -> Dw K H d v
 | .none,_,h=>h
 | .bool _,_,h=>h
 | .int _,_,h=>h
 | .str _,_,h=>h
 | .list ds,_,⟨a,xs,h1,h2,h3⟩=>⟨a,xs,h1,h2,DtAll.dw h3⟩
 | .tuple ds,_,⟨a,xs,h1,h2,h3⟩=>⟨a,xs,h1,h2,DtAll.dw h3⟩
 | .dict _,_,h=>h.elim
theorem DtAll.dw {K:PySem.W.Frag} {H:Hp}:∀ {ds:List PyData} {xs:List V},DtAll K H ds xs -> DwAll K H ds xs
 | [],_,h=>h
 | d :: ds,_,⟨x,r,h1,h2,h3⟩=>⟨x,r,h1,Dt.dw h2,DtAll.dw h3⟩
end
theorem DwAll.length {K:PySem.W.Frag} {H:Hp}:∀ {ds:List PyData} {xs:List V},DwAll K H ds xs -> xs.length = ds.length
 | [],_,h=>by rw [show _ = [] from h]; rfl
 | d :: ds,_,⟨x,r,h1,h2,h3⟩=>by rw [h1,List.length_cons,List.length_cons,DwAll.length h3]
theorem DwAll.get {K:PySem.W.Frag} {H:Hp}:∀ {ds:List PyData} {xs:List V} {i:Nat} {x:V},DwAll K H ds xs -> xs[i]? = some x -> ∃ d,ds[i]? = some d /\ Dw K H d x
 | [],_,i,x,h,e=>by rw [show _ = [] from h] at e; cases e
 | d :: ds,_,0,x,⟨x',r,h1,h2,h3⟩,e=>by
  rw [h1] at e
  cases e
  exact ⟨d,rfl,h2⟩
 | d :: ds,_,i + 1,x,⟨x',r,h1,h2,h3⟩,e=>by
  rw [h1] at e
  obtain ⟨d',e1,e2⟩:=DwAll.get (i:=i) h3 (by simpa using e)
  exact ⟨d',by simpa using e1,e2⟩
theorem DwAll.at {K:PySem.W.Frag} {H:Hp} {ds:List PyData} {xs:List V} {i:Nat} {d:PyData} (h:DwAll K H ds xs) (e:ds[i]? = some d):∃ x,xs[i]? = some x /\ Dw K H d x:=by
 have hi:i < xs.length:=by rw [h.length]; exact (List.getElem?_eq_some_iff.mp e).1
 obtain ⟨d',e',q⟩:=h.get (List.getElem?_eq_getElem hi)
 rw [e] at e'; cases e'
 exact ⟨_,List.getElem?_eq_getElem hi,q⟩
def nameD:PyData -> String
 | .none=>"NoneType"
 | .bool _=>"bool"
 | .int _=>"int"
 | .str _=>"str"
 | .list _=>"list"
 | .tuple _=>"tuple"
 | .dict _=>"dict"
section
variable {X:Cx} {pins:List (Addr × Obj)} {σ:St} {H:Hp} {s:Shared} {A:Around} {E:Value -> Shared -> Prop} {Q:Value -> Shared -> Prop} {c:Value} {b:Bool} {K:PySem.W.Frag}
theorem isinst_dw {x:V} {u:Value} {d:PyData} (I:Inv X pins σ H s) (rx:RelV x u) (hd:Dw X.K H d x) (e:PySem.W.kitOne X.K (.type (nameD d)) c = some b) (h:∀ tk,Q (.bool b) { s with toks:=tk }) :
  wpAny (model X.prog X.w) A (call (.builtin "isinstance") [u,c]) Q E s:=by
 cases d with
 | none=>cases (show x = _ from hd); exact xY I rx .non e h
 | bool y=>cases (show x = _ from hd); exact xY I rx (.bl y) e h
 | int i=>cases (show x = _ from hd); exact xY I rx (.int i) e h
 | str y=>cases (show x = _ from hd); exact xY I rx (.str y) e h
 | dict kvs=>obtain ⟨a,ks,rfl,ea⟩:=hd; exact xY I rx (.dK ea) e h
 | list ds =>
  obtain ⟨a,xs,rfl,hs,_⟩:=hd
  cases (show u = Value.ref a from rx)
  obtain ⟨its,_,⟨o,n,h1,h2,_⟩,_⟩:=I.list hs
  exact PySem.W.kia_one PySem.W.kitx_list I.kIn ⟨o,h1,h2⟩ e (fun z=>nomatch z) h
 | tuple ds =>
  obtain ⟨a,xs,rfl,hs,_⟩:=hd
  cases (show u = Value.ref a from rx)
  obtain ⟨its,_,p,_⟩:=I.tuple hs
  obtain ⟨o,h1,h2,_⟩:=p
  exact PySem.W.kia_one PySem.W.kitx_tuple I.kIn ⟨o,h1,h2⟩ e (fun z=>nomatch z) h
def rIsiD (K:PySem.W.Frag):List V -> Hp -> VK -> Prop:=fun xs H Q=>∃ y T d b,xs = [y,.ty T] /\ Dw K H d y /\ PySem.W.kitOne K (.type (nameD d)) (.type T) = some b /\ Q (.bl b) H
theorem zZ (hK:X.K = K:=by rfl):CallR X (.builtin "isinstance") (rIsiD K):=by
 subst hK
 intro pins s σ H xs us Q I r h
 obtain ⟨y,T,d,b,rfl,hd,kt,q⟩:=h
 obtain ⟨u,w',rfl,ru,rw'⟩:=vals2 r
 cases (show w' = Value.type T from rw')
 exact isinst_dw I ru hd kt fun tk=>⟨.bl b,H,I.tok _,rfl,q⟩
end
section
variable {src:List (Option Nat)} {g:TG} {te:TE} {Q:VK} {σ:St} {H:Hp}
theorem comp_str0 {x:Str} (Pv:Nat -> List V -> St -> Hp -> Prop) (h0:Pv 0 [] (srcSt src σ) H) (hz:x.length <= sizeLine) (hl:∀ i ys σ H,i <= x.length -> Pv i ys σ H -> ys.length <= i)
  (hs:∀ i c ys σ H,x.cps[i]? = some c -> Pv i ys σ H -> g (.str ⟨#[c]⟩) σ H fun σ2 H3=>te σ2 H3 fun y H5=>Pv (i + 1) (ys ++ [y]) σ2 H5)
  (hd:∀ ys σ H,Pv x.length ys σ H -> ∀ p,H p = none -> Q (.ref p) (upd H p (.lst ys))):CompW src (Its x) g tfNil te Q σ H :=
 comp_n x.length Pv h0 hz hl (fun _ _ _ _=>rfl) (fun _ _ _ _ hi _=>hi)
  (fun i ys σ H hi p x' H2 y=>by
   obtain ⟨e,c,hc,rfl⟩:=y
   subst e
   rw [noTest]
   exact hs i c ys σ _ hc p) hd
end
end L2
namespace L2
open PySem PySem.Spec PyProof.Rows
section
variable {X:Cx} {K:PySem.W.Frag} {a b c d:Expr} {ta tb tc td:TE} {pos:Pos}
def rInD (K:PySem.W.Frag) (tup neg:Bool):R2:=fun x y H Q=>∃ (d:PyData) (xs:List PyData),Dt K H d x /\ Dt K H (if tup then .tuple xs else .list xs) y /\ PyData.canLayAll0 xs = true /\ d.canLay0 = true /\ d.depth <= 60 /\ Q (.bl (neg != xs.any fun y=>PyData.eqv y d)) H
end
end L2
namespace L2
open PySem PySem.Spec PyProof.Rows
section
variable {X:Cx} {pins:List (Addr × Obj)} {σ:St} {H:Hp} {s:Shared}
theorem raises_leaves (hst:X.stack = X.env :: X.outer) (hfr:X.env.frame = some X.env.locals) (hex:X.ex = []) (I:Inv X pins σ H s) {a T:Addr} {cls:Value} (na:X.s₀.heap.get? a = none) (nT:X.s₀.heap.get? T = none) (ha:H a = none) (hT:H T = none) (ea:ExcAt s.heap a T cls) {E:XK} (q:E cls none H)
  {Ex:Value -> Shared -> Prop}:wpAny (model X.prog X.w) X.A (leaving X.env (.ref a)) (fun _ s''=>CXF X.prog X.w X.outer X.H₀ X.s₀ E (.ref a) s'') Ex s:=by
 have fr:=jC (as:=[a,T]) I.stack
 have hA:X.A.frames = some (X.env :: X.outer):=by rw [I.ok.frames,hst]
 have hid:∀ b,b = a \/ b = T -> (hidF s.heap [a,T] X.stack).get? b = none:=fun b hb=>by
  cases hq:(hidF s.heap [a,T] X.stack).get? b with
  | none=>rfl
  | some o =>
   exfalso
   have z:=PySem.W.hideAll_none ([a,T] ++ frs X.stack) (h:=s.heap) (b:=b) (List.mem_append_left _ (by simpa using hb))
   rw [z] at hq; cases hq
 obtain ⟨oe,vs,oT,ts,t1,t2,t3,t4,t6,t7,t8,t9⟩:=ea
 have tw:Trc ctx0 s.heap (hidF s.heap [a,T] X.stack) a cls .none:=⟨oe,vs,T,oT,ts,t1,t2,t3,t4,hid T (.inr rfl),t6,t7,t8,t9⟩
 refine leave_next (base:=hidF s.heap [a,T] X.stack) ctx0_keep hA (by rw [← hst]; exact fr) hfr tw qQ (hid a (.inl rfl)) fun h2 k1 k2 L k4=>?_
 obtain ⟨oe',vs',T',oT',ts',u1,u2,u3,u4,u5,u6,u7,u8,u9⟩:=L
 have stk:∀ b ∈ frs X.stack,H b = none:=I.stkFree
 have kp:∀ b o,s.heap.get? b = some o -> b ≠ a -> b ≠ T -> b ∉ frs X.stack -> h2.get? b = some o:=fun b o e h3 h4 hb=>k1 b o (PySem.W.hideAll_get _ e (by
  intro z
  rcases List.mem_append.mp z with z | z
  ·have z:b = a \/ b = T:=by simpa using z
   exact z.elim h3 h4
  ·exact hb z))
 have sl:∀ b o,s.heap.get? b = some o -> b ∈ frs X.stack -> ∃ sl,h2.get? b = some { o with slots:=sl }:=fun b o e hb=>by
  obtain ⟨_,o',ho',hd⟩:=I.stack.mem hb
  rw [e] at ho'; cases ho'
  exact k4 b o e hd
 have nL:∀ b o,X.s₀.heap.get? b = some o -> b ≠ X.env.locals:=fun b o e=>Nat.ne_of_lt (Nat.lt_of_lt_of_le (Heap.lt_size e) I.ok.above)
 have nex:∀ b,b ∉ X.ex:=fun b=>by rw [hex]; simp
 have nA:∀ b o,X.s₀.heap.get? b = some o -> b ≠ a:=fun b o e z=>by rw [z,na] at e; cases e
 have nTT:∀ b o,X.s₀.heap.get? b = some o -> b ≠ T:=fun b o e z=>by rw [z,nT] at e; cases e
 have nT':T' = T \/ s.heap.get? T' = none:=by
  by_cases hq:T' = T
  ·exact .inl hq
  ·refine .inr ?_
   cases qT:s.heap.get? T' with
   | none=>rfl
   | some o =>
    exfalso
    by_cases hf:T' ∈ frs X.stack
    ·have k2':h2.FunFrames (hidF s.heap [a,T] X.stack) X.stack:=by have z:=k2; rw [← hst] at z; exact z
     obtain ⟨_,o',ho',hd⟩:=k2'.mem hf
     rw [u7] at ho'; cases ho'
     exact hd _ u8
    ·have z:(hidF s.heap [a,T] X.stack).get? T' = some o:=PySem.W.hideAll_get _ qT (by
      intro z
      rcases List.mem_append.mp z with z | z
      ·have z:T' = a \/ T' = T:=by simpa using z
       exact z.elim u6 hq
      ·exact hf z)
     rw [u5] at z; cases z
 have oT1:X.s₀.heap.get? T' = none:=nT'.elim (fun z=>by rw [z]; exact nT) fun z=>I.old_none hex z
 have oT2:H T' = none:=nT'.elim (fun z=>by rw [z]; exact hT) fun z=>I.none_of z
 refine ⟨a,T',cls,H,rfl,I.os,I.bare,⟨fun b o e1 n hb _=>?_,fun b o e1 n hb _=>?_,fun b o e1 n _=>I.base.free b o e1 n (nex b),fun b o e1 _=>?_,I.base.tups,I.base.frzs,I.base.tbls⟩,fun b u e1=>?_,na,oT1,ha,oT2,⟨oe',vs',oT',ts',u1,u2,u3,u4,u6,u7,u8,u9⟩,q⟩
 ·refine kp b o (I.base.keep b o e1 n hb (nex b)) (nA b o e1) (nTT b o e1) fun z=>?_
  rcases List.mem_cons.mp (I.stkSub b z) with r | r
  ·exact nL b o e1 r
  ·exact hb r
 ·obtain ⟨sl1,e2⟩:=I.base.slot b o e1 n hb (nex b)
  by_cases hz:b ∈ frs X.stack
  ·obtain ⟨sl2,e3⟩:=sl b _ e2 hz
   exact ⟨sl2,e3⟩
  ·exact ⟨sl1,kp b _ e2 (nA b o e1) (nTT b o e1) hz⟩
 ·obtain ⟨o',e2⟩:=I.base.there b o e1 (nex b)
  by_cases hz:b ∈ frs X.stack
  ·obtain ⟨sl2,e3⟩:=sl b _ e2 hz
   exact ⟨_,e3⟩
  ·exact ⟨o',kp b _ e2 (nA b o e1) (nTT b o e1) hz⟩
 ·have off:∀ c,(c = b \/ H c = some (.own b)) -> H c ≠ none:=fun c hc z=>by
   rcases hc with y | y
   ·rw [y,e1] at z; cases z
   ·rw [y] at z; cases z
  refine (I.hok b u e1).stay (fun c v hc r=>kp c v r (fun z=>?_) (fun z=>?_) fun z=>?_) (fun _ r=>r) fun _ _ r=>r
  ·rw [z] at hc
   rcases hc with y | y
   ·rw [← y,ha] at e1; cases e1
   ·rw [ha] at y; cases y
  ·rw [z] at hc
   rcases hc with y | y
   ·rw [← y,hT] at e1; cases e1
   ·rw [hT] at y; cases y
  ·have hz:=stk c z
   rcases hc with y | y
   ·rw [y,e1] at hz; cases hz
   ·rw [y] at hz; cases hz
end
theorem yF {P:Program} {w:World} {K:PySem.W.Frag} {mg:Str -> Option Value} {base:Heap} {N:List Str} {qual:Str} {scope:Scope} {f:Addr} {cd:Value} {A:Around} {outer:List Env} {s:Shared} {H:Hp} {E:XK} :
  Raises (cxOf (CXF P w) P w K mg base N qual scope f cd A outer s H E) (fun _ H' cls=>E cls none H'):=by
 intro pins σ H1 s1 e s' I hx
 obtain ⟨a,T,cls,H',rfl,os,bare,un,hok,na,nT,ha,hT,ea,q⟩:=hx
 have I1:=I.call' (ch:=[]) os un hok bare fun b z=>absurd z (by simp)
 exact raises_leaves rfl rfl rfl I1 (I.old_none rfl na) (I.old_none rfl nT) ha hT ea q
theorem meets_extendT (l b:Addr) (items:Array Value) (n:Nat) (items2:Array Value) (hlong:¬ (!items.isEmpty && Builtin.List.listTooLong (items.size + items2.size)) = true) (h1:items.size <= sizeLine) (h2:items.size + items2.size <= sizeLine + 1) :
  Meets (Builtin.«list.extend» ⟨[.ref l,.ref b],[]⟩) (fun _ R s=>s.heap.get? l = some { cls:=.type "list",data:=.seq items n } /\ IsTup s.heap b items2 /\ R (.ok (.ret .none)) { s with heap:=s.heap.update l (Obj.mapSeq fun x=>x ++ items2) }) :=
 .of_wp fun prog w A R s h=>by
  obtain ⟨hl,ht,h⟩:=h
  have hT:s.TypeIs (.ref b) "tuple":=ht.typeIs
  unfold Builtin.«list.extend» Builtin.List.listExtendWith
  refine wpAny_bind (wpAny_of_eq (a:=(.ref l,.ref b)) rfl ?_)
  dsimp only
  refine wpAny_bind (wpAny_typeOf hT ?_)
  rw [if_pos (by rw [show (Value.type "tuple" == Value.type "tuple") = true by decide +kernel,Bool.or_true])]
  obtain ⟨o,ho,hc,m,hd⟩:=ht
  refine wpAny_bind (wpAny_listItems ho hd ?_)
  refine wpAny_bind (wpAny_listItems hl rfl ?_)
  rw [if_neg hlong]
  refine wpAny_bind (listUpdate_at hl rfl ?_ h1 (by rw [Array.size_append]; exact h2))
  exact wpAny_pure ⟨_,rfl,h⟩
section
variable {X:Cx}
def rExtendT (K:PySem.W.Frag):V -> List V -> Hp -> VK -> Prop:=fun x vs H Q=>∃ l b xs zs,x = .ref l /\ vs = [.ref b] /\ H l = some (.lst xs) /\ SqT K H b zs /\ xs.length + zs.length <= sizeLine /\ Q .non (upd H l (.lst (xs ++ zs)))
theorem mt_extendT:MtM X "list.extend" (rExtendT X.K):=by
 intro pins s σ H x vs v us Q I rx rv h
 obtain ⟨l,b,xs,zs,rfl,rfl,hH,hB,hz,q⟩:=h
 cases rx
 obtain ⟨u,rfl,ru⟩:=rv.one
 cases ru
 obtain ⟨z,its,n,r,hl,e⟩:=I.lstM hH
 obtain ⟨its2,r2,p2,hz2⟩:=I.tuple hB
 have hl2:=r2.length
 have hsz:its.toArray.size + its2.toArray.size <= sizeLine:=by rw [List.size_toArray,List.size_toArray]; omega
 have hlong:¬ (!its.toArray.isEmpty && Builtin.List.listTooLong (its.toArray.size + its2.toArray.size)) = true:=by
  rw [notLongL hsz,Bool.and_false]
  exact Bool.false_ne_true
 refine call_meets F.slot_list_extend ⟨_,e,rfl⟩ F.entry_list_extend (F.args_list_extend_2 _ _)
  (meets_extendT l b its.toArray n its2.toArray hlong (by rw [List.size_toArray]; omega) (by omega)) ⟨e,p2,?_⟩
 refine ⟨.non,_,I.lset (its':=its ++ its2) hH e (by simp) (r.append r2) ?_,rfl,q⟩
 rw [List.length_append]
 omega
end
theorem CalX.mk' {P:Program} {w:World} {K:PySem.W.Frag} {mg:Str -> Option Value} {base:Heap} {k:Nat} {x qual:Str} {st:Stmt} {f:Addr} {fd:FuncData} {ps:List Str} {sp:Sp} (F:Fun K x qual st f fd) (G:FnOk P w K mg base (CXF P w) k f fd ps sp) (hm:mg x = some (.ref f))
  (b:Binds K fd ps []):CalX P w K mg base k x ps sp:=⟨f,fd,G,hm,F.kp,b⟩
end L2
namespace L2
open PySem PySem.Spec PyProof.Rows
instance:DecidableEq PyData:=fun a b=>decidable_of_iff _ (same_iff (a:=a) (b:=b))
mutual
def txtT:PyData -> Bool
 | .str x=>PyData.strOk x
 | .tuple ds=>yY ds
 | _=>false
def yY:List PyData -> Bool
 | []=>true
 | d :: ds=>txtT d && yY ds
end
mutual
def depT:PyData -> Nat
 | .tuple ds=>xM ds + 1
 | _=>0
def xM:List PyData -> Nat
 | []=>0
 | d :: ds=>max (depT d) (xM ds)
end
mutual
def RdT (h:Heap):PyData -> Value -> Prop
 | .str x,v=>∃ t,v = .str x t
 | .tuple ds,v=>∃ a o vs n,v = .ref a /\ h.get? a = some o /\ o.cls = .type "tuple" /\ o.data = .seq vs n /\ RdAll h ds vs.toList
 | _,_=>False
def RdAll (h:Heap):List PyData -> List Value -> Prop
 | [],vs=>vs = []
 | d :: ds,vs=>∃ v r,vs = v :: r /\ RdT h d v /\ RdAll h ds r
end
mutual
def hashT (w:World):PyData -> Int
 | .str x=>hashStr w x
 | .tuple ds=>reduceHash (Builtin.Tuple.tupleHashOf (kJ w ds))
 | _=>0
def kJ (w:World):List PyData -> List Int
 | []=>[]
 | d :: ds=>hashT w d :: kJ w ds
end
mutual
def drawT:PyData -> Nat
 | .tuple ds=>yZ ds + 1
 | _=>1
def yZ:List PyData -> Nat
 | []=>0
 | d :: ds=>drawT d + yZ ds
end
theorem hashAll_eq (w:World):∀ ds,kJ w ds = ds.map (hashT w)
 | []=>rfl
 | d :: ds=>by rw [kJ,hashAll_eq w ds]; rfl
theorem drawAll_app:∀ (a b:List PyData),yZ (a ++ b) = yZ a + yZ b
 | [],b=>by simp [yZ]
 | d :: a,b=>by
  show drawT d + yZ (a ++ b) = (drawT d + yZ a) + yZ b
  rw [drawAll_app a b]; omega
mutual
theorem RdT.reads {h:Heap}:∀ (d:PyData) (v:Value),RdT h d v -> ∃ as,Reads h v d as
 | .str x,_,⟨t,e⟩=>by subst e; exact ⟨_,.str x t⟩
 | .tuple ds,_,⟨a,o,vs,n,e,h1,h2,h3,h4⟩=>by
  subst e
  obtain ⟨as,q⟩:=RdAll.reads ds vs.toList h4
  exact ⟨_,.tuple h1 h2 h3 q⟩
 | .none,_,q=>q.elim
 | .bool _,_,q=>q.elim
 | .int _,_,q=>q.elim
 | .list _,_,q=>q.elim
 | .dict _,_,q=>q.elim
theorem RdAll.reads {h:Heap}:∀ (ds:List PyData) (vs:List Value),RdAll h ds vs -> ∃ as,ReadsAll h vs ds as
 | [],vs,e=>by cases (show vs = [] from e); exact ⟨_,.nil⟩
 | d :: ds,_,⟨v,r,e,h1,h2⟩=>by
  subst e
  obtain ⟨as,q⟩:=RdT.reads d v h1
  obtain ⟨bs,q2⟩:=RdAll.reads ds r h2
  exact ⟨_,.cons q q2⟩
end
mutual
theorem RdT.inj {h:Heap}:∀ (d e:PyData) (v:Value),RdT h d v -> RdT h e v -> d = e
 | .str x,e,v,⟨t,h1⟩,h2=>by
  subst h1
  cases e with
  | str y=>obtain ⟨t',q⟩:=h2; cases q; rfl
  | tuple ds=>obtain ⟨a,o,vs,n,q,_⟩:=h2; cases q
  | none=>exact h2.elim
  | bool _=>exact h2.elim
  | int _=>exact h2.elim
  | list _=>exact h2.elim
  | dict _=>exact h2.elim
 | .tuple ds,e,v,⟨a,o,vs,n,h1,h3,h4,h5,h6⟩,h2=>by
  subst h1
  cases e with
  | str y=>obtain ⟨t',q⟩:=h2; cases q
  | tuple es =>
   obtain ⟨a',o',vs',n',q,q3,q4,q5,q6⟩:=h2
   cases q
   rw [h3] at q3; cases q3
   rw [h5] at q5; cases q5
   rw [RdAll.inj ds es vs.toList h6 q6]
  | none=>exact h2.elim
  | bool _=>exact h2.elim
  | int _=>exact h2.elim
  | list _=>exact h2.elim
  | dict _=>exact h2.elim
 | .none,_,_,q,_=>q.elim
 | .bool _,_,_,q,_=>q.elim
 | .int _,_,_,q,_=>q.elim
 | .list _,_,_,q,_=>q.elim
 | .dict _,_,_,q,_=>q.elim
theorem RdAll.inj {h:Heap}:∀ (ds es:List PyData) (vs:List Value),RdAll h ds vs -> RdAll h es vs -> ds = es
 | [],[],_,_,_=>rfl
 | [],e :: es,vs,h1,⟨v,r,q,_⟩=>by rw [show vs = [] from h1] at q; cases q
 | d :: ds,[],vs,⟨v,r,q,_⟩,h2=>by rw [show vs = [] from h2] at q; cases q
 | d :: ds,e :: es,_,⟨v,r,h1,h3,h4⟩,⟨v',r',q1,q3,q4⟩=>by
  subst h1
  injection q1 with z1 z2
  subst z1 z2
  rw [RdT.inj d e v h3 q3,RdAll.inj ds es r h4 q4]
end
mutual
theorem RdT.keeps {h h':Heap} {dd:Addr} {od:Obj} {es:Array DictEntry} {ep:Nat} (ho:h.get? dd = some od) (hd:od.data = .dict es ep) (hs:Heap.SameBut dd h h'):∀ (d:PyData) (v:Value),RdT h d v -> RdT h' d v
 | .str x,_,q=>q
 | .tuple ds,_,⟨a,o,vs,n,e,h1,h2,h3,h4⟩=>by
  have ne:a ≠ dd:=fun z=>by
   subst z
   rw [h1] at ho; cases ho
   rw [h3] at hd; cases hd
  exact ⟨a,o,vs,n,e,(hs.2 a ne).trans h1,h2,h3,RdAll.keeps ho hd hs ds vs.toList h4⟩
 | .none,_,q=>q.elim
 | .bool _,_,q=>q.elim
 | .int _,_,q=>q.elim
 | .list _,_,q=>q.elim
 | .dict _,_,q=>q.elim
theorem RdAll.keeps {h h':Heap} {dd:Addr} {od:Obj} {es:Array DictEntry} {ep:Nat} (ho:h.get? dd = some od) (hd:od.data = .dict es ep) (hs:Heap.SameBut dd h h'):∀ (ds:List PyData) (vs:List Value),RdAll h ds vs -> RdAll h' ds vs
 | [],_,q=>q
 | d :: ds,_,⟨v,r,e,h1,h2⟩=>⟨v,r,e,RdT.keeps ho hd hs d v h1,RdAll.keeps ho hd hs ds r h2⟩
end
section
variable {prog:Program} {w:World}
def HashOk (prog:Program) (w:World) (d:PyData):Prop:=∀ (A:Around) (E:Value -> Shared -> Prop) (s:Shared) (v:Value) (Q:Int -> Shared -> Prop),A.units + depT d < cLine -> RdT s.heap d v -> Q (hashT w d) { s with toks:=s.toks + drawT d } -> wpAny (model prog w) A (pyHash v) Q E s
theorem dep_mem:∀ {ds:List PyData} {d:PyData},d ∈ ds -> depT d <= xM ds
 | [],_,h=>nomatch h
 | e :: ds,d,h=>by
  show depT d <= max (depT e) (xM ds)
  rcases List.mem_cons.mp h with rfl | h
  ·omega
  ·have:=dep_mem h; omega
theorem hash_tuple {ds:List PyData} (ih:∀ d ∈ ds,HashOk prog w d):HashOk prog w (.tuple ds):=by
 intro A E s v Q hu hr h
 obtain ⟨a,o,items,n,rfl,ho,hc,hd,hi⟩:=hr
 have hu0:A.units < cLine:=by omega
 have hT:s.TypeIs (.ref a) "tuple":=⟨o,ho,hc⟩
 have hu1:A.units + (xM ds + 1) < cLine:=hu
 unfold pyHash
 first | unfold pyHashByItsType | skip
 first | refine wpAny_bind (wpAny_cRoomFor_or (.inr hu0) ?_) | skip
 refine wpAny_bind (wpAny_specialOf hT F.slot_tuple_hash.lookup ?_)
 show wpAny _ _ (if (some (Value.builtin "tuple.__hash__") == some Value.none) = true then _ else _) Q E s
 rw [if_neg (by rw [beq_builtin_none]; exact Bool.false_ne_true)]
 refine wpAny_bind (wpAny_specialOf hT F.slot_tuple_hash.lookup ?_)
 show wpAny _ _ (callSpecialIfBoundUnlessNone? (.ref a) "__hash__" _ >>= _) Q E s
 refine wpAny_bind (wpAny_callSpecialIfBoundUnlessNone?_slot hT F.slot_tuple_hash (wpAny_call_entry F.slot_tuple_hash hT F.entry_tuple_hash ?_ (F.args_tuple_hash_1 _)))
 show wpAny _ _ (Builtin.Tuple.tupleItemsOf (.ref a) >>= _) _ _ s
 refine wpAny_bind (wpAny_tupleItemsOf ho hd ?_)
 refine wpAny_bind ?_
 rw [← Array.forIn_toList]
 refine wpAny_forIn_list _
  (fun rest (b:Array Int) s'=>∃ done left,ds = done ++ left /\ RdAll s.heap left rest /\ b.toList = done.map (hashT w) /\ s' = { s with toks:=s.toks + yZ done })
  _ ?_ ?_ _ _ ⟨[],ds,rfl,hi,rfl,by simp [yZ]⟩
 ·rintro x rest b s' ⟨done,left,e,hl,hb,rfl⟩
  cases left with
  | nil=>cases (show x :: rest = [] from hl)
  | cons d left =>
   obtain ⟨v,r,ev,h1,h2⟩:=hl
   injection ev with e1 e2
   subst e1 e2
   have hm:d ∈ ds:=by rw [e]; simp
   have hdp:=dep_mem hm
   have hq:∃ done' left',ds = done' ++ left' /\ RdAll s.heap left' rest /\ (b.push (hashT w d)).toList = done'.map (hashT w) /\ ({ s with toks:=s.toks + yZ done + drawT d }:Shared) = { s with toks:=s.toks + yZ done' } :=
    ⟨done ++ [d],left,by simp [e],h2,by simp [hb],by rw [drawAll_app]; simp [yZ,Nat.add_assoc]⟩
   refine wpAny_bind (ih d hm A.in1 _ _ _ _ (by show A.units + 1 + depT d < cLine; omega) h1 ?_)
   first
    | exact wpAny_pure hq
    | exact wpAny_bind (wpAny_pure (wpAny_pure hq))
 ·rintro b s' ⟨done,left,e,hl,hb,rfl⟩
  cases left with
  | cons d left=>obtain ⟨v,r,ev,_⟩:=hl; cases ev
  | nil =>
   rw [List.append_nil] at e
   subst e
   show wpAny _ _ (retInt (Builtin.Tuple.tupleHashOf b.toList)) _ _ _
   rw [hb]
   have h:Q (reduceHash (Builtin.Tuple.tupleHashOf (kJ w ds))) { s with toks:=s.toks + (yZ ds + 1) }:=h
   rw [hashAll_eq] at h
   refine wpAny_ret_mkInt ?_
   show wpAny _ _ (if (decide (-(2:Int) ^ 63 <= Builtin.Tuple.tupleHashOf (ds.map (hashT w))) && decide (Builtin.Tuple.tupleHashOf (ds.map (hashT w)) < 2 ^ 63)) = true then _ else _) Q E _
   unfold reduceHash at h
   by_cases hr:(decide (-(2:Int) ^ 63 <= Builtin.Tuple.tupleHashOf (ds.map (hashT w))) && decide (Builtin.Tuple.tupleHashOf (ds.map (hashT w)) < 2 ^ 63)) = true
   ·rw [if_pos hr]
    rw [if_pos hr] at h
    exact wpAny_pure (by simpa [Nat.add_assoc] using h)
   ·rw [if_neg hr]
    rw [if_neg hr] at h
    exact wpAny_bind (wpAny_rule (wpAny_pure (by simpa [Nat.add_assoc] using h)))
mutual
theorem hash_ok:∀ d:PyData,HashOk prog w d
 | .str x=>fun A E s v Q _ hr h=>by
  obtain ⟨t,rfl⟩:=hr
  exact (strKind prog w).pyHash (k:=x) (by show Value.isStrOf x (.str x t) = true; simp [Value.isStrOf]) h
 | .tuple ds=>hash_tuple (hash_all ds)
 | .none=>fun _ _ _ _ _ _ hr _=>hr.elim
 | .bool _=>fun _ _ _ _ _ _ hr _=>hr.elim
 | .int _=>fun _ _ _ _ _ _ hr _=>hr.elim
 | .list _=>fun _ _ _ _ _ _ hr _=>hr.elim
 | .dict _=>fun _ _ _ _ _ _ hr _=>hr.elim
theorem hash_all:∀ ds:List PyData,∀ d ∈ ds,HashOk prog w d
 | [],_,h=>nomatch h
 | e :: ds,d,h=>(List.mem_cons.mp h).elim (fun z=>z ▸ hash_ok e) (hash_all ds d)
end
mutual
theorem eqv_dec:∀ (d e:PyData),txtT d = true -> txtT e = true -> PyData.eqv d e = decide (d = e)
 | .str x,.str y,_,_=>by
  show (x == y) = _
  rw [Bool.eq_iff_iff]
  simp
 | .str _,.tuple _,_,_=>by rw [decide_eq_false (by simp)]; rfl
 | .tuple _,.str _,_,_=>by rw [decide_eq_false (by simp)]; rfl
 | .tuple ds,.tuple es,h1,h2=>by
  show PyData.eqvAll ds es = _
  rw [eqvs_dec ds es h1 h2]
  exact decide_eq_decide.mpr (by simp)
 | .none,_,h,_=>by cases h
 | .bool _,_,h,_=>by cases h
 | .int _,_,h,_=>by cases h
 | .list _,_,h,_=>by cases h
 | .dict _,_,h,_=>by cases h
 | .str _,.none,_,h=>by cases h
 | .str _,.bool _,_,h=>by cases h
 | .str _,.int _,_,h=>by cases h
 | .str _,.list _,_,h=>by cases h
 | .str _,.dict _,_,h=>by cases h
 | .tuple _,.none,_,h=>by cases h
 | .tuple _,.bool _,_,h=>by cases h
 | .tuple _,.int _,_,h=>by cases h
 | .tuple _,.list _,_,h=>by cases h
 | .tuple _,.dict _,_,h=>by cases h
theorem eqvs_dec:∀ (ds es:List PyData),yY ds = true -> yY es = true -> PyData.eqvAll ds es = decide (ds = es)
 | [],[],_,_=>rfl
 | [],_ :: _,_,_=>rfl
 | _ :: _,[],_,_=>rfl
 | d :: ds,e :: es,h1,h2=>by
  have h1:(txtT d && yY ds) = true:=h1
  have h2:(txtT e && yY es) = true:=h2
  rw [Bool.and_eq_true] at h1 h2
  show (PyData.eqv d e && PyData.eqvAll ds es) = _
  rw [eqv_dec d e h1.1 h2.1,eqvs_dec ds es h1.2 h2.2,← Bool.decide_and]
  exact decide_eq_decide.mpr (by simp)
end
mutual
theorem txt_lay:∀ d:PyData,txtT d = true -> d.canLay0 = true /\ d.depth <= depT d
 | .str x,h=>⟨h,Nat.le_refl _⟩
 | .tuple ds,h=>by
  obtain ⟨h1,h2⟩:=txts_lay ds h
  refine ⟨h1,?_⟩
  show PyData.depthAll ds + 1 <= xM ds + 1
  omega
 | .none,h=>by cases h
 | .bool _,h=>by cases h
 | .int _,h=>by cases h
 | .list _,h=>by cases h
 | .dict _,h=>by cases h
theorem txts_lay:∀ ds:List PyData,yY ds = true -> PyData.canLayAll0 ds = true /\ PyData.depthAll ds <= xM ds
 | [],_=>⟨rfl,Nat.le_refl _⟩
 | d :: ds,h=>by
  have h:(txtT d && yY ds) = true:=h
  rw [Bool.and_eq_true] at h
  obtain ⟨h1,h2⟩:=txt_lay d h.1
  obtain ⟨h3,h4⟩:=txts_lay ds h.2
  refine ⟨?_,?_⟩
  ·show (d.canLay0 && PyData.canLayAll0 ds) = true
   rw [h1,h3]; rfl
  ·show max d.depth (PyData.depthAll ds) <= max (depT d) (xM ds)
   omega
end
def QuietOk (prog:Program) (w:World) (d:PyData):Prop:=∀ (A:Around) (E:Value -> Shared -> Prop) (s:Shared) (v:Value) (n:Nat) (Q:Bool -> Shared -> Prop),depT d <= n -> RdT s.heap d v -> Q true s -> wpAny (model prog w) A (eqIsQuiet n v) Q E s
theorem quiet_tuple {ds:List PyData} (ih:∀ d ∈ ds,QuietOk prog w d):QuietOk prog w (.tuple ds):=by
 intro A E s v n Q hn hr h
 obtain ⟨a,o,items,m,rfl,ho,hc,hd,hi⟩:=hr
 have hT:s.TypeIs (.ref a) "tuple":=⟨o,ho,hc⟩
 have hn:xM ds + 1 <= n:=hn
 obtain ⟨n,rfl⟩:∃ k,n = k + 1:=⟨n - 1,by omega⟩
 unfold eqIsQuiet
 refine wpAny_bind (wpAny_specialOf hT F.slot_tuple_eq.lookup ?_)
 show wpAny _ _ (isInstance (.ref a) (.type "tuple") >>= _) _ _ s
 refine wpAny_bind (wpAny_isInstance hT isSubtype_tuple_tuple ?_)
 simp only [Bool.not_true,Bool.false_eq_true,if_false]
 refine wpAny_bind (wpAny_seqItems ho hd ?_)
 refine wpAny_bind ?_
 show wpAny _ _ (forIn items _ _) _ _ s
 rw [← Array.forIn_toList]
 refine wpAny_forIn_list _ (fun rest r s'=>r.1 = none /\ s' = s /\ ∃ left,(∀ d ∈ left,d ∈ ds) /\ RdAll s.heap left rest) _ ?_ ?_ _ _ ⟨rfl,rfl,ds,fun _ z=>z,hi⟩
 ·rintro v rest r s' ⟨hr,rfl,left,hm,hl⟩
  cases left with
  | nil=>cases (show v :: rest = [] from hl)
  | cons d left =>
   obtain ⟨v',r',ev,h1,h2⟩:=hl
   injection ev with e1 e2
   subst e1 e2
   have hd':=hm d List.mem_cons_self
   have:=dep_mem hd'
   refine wpAny_bind (ih d hd' A _ s' _ n _ (by omega) h1 ?_)
   simp only [Bool.not_true,Bool.false_eq_true,if_false]
   exact wpAny_pure ⟨rfl,rfl,left,fun e he=>hm e (List.mem_cons_of_mem _ he),h2⟩
 ·rintro ⟨r1,r2⟩ s' ⟨hr,rfl,_⟩
  simp only at hr
  subst hr
  exact wpAny_pure h
mutual
theorem quiet_ok:∀ d:PyData,QuietOk prog w d
 | .str x=>fun A E s v n Q _ hr h=>by
  obtain ⟨t,rfl⟩:=hr
  rw [eqIsQuiet_byValue _ (by rfl)]
  exact wpAny_pure h
 | .tuple ds=>quiet_tuple (quiet_all ds)
 | .none=>fun _ _ _ _ _ _ _ hr _=>hr.elim
 | .bool _=>fun _ _ _ _ _ _ _ hr _=>hr.elim
 | .int _=>fun _ _ _ _ _ _ _ hr _=>hr.elim
 | .list _=>fun _ _ _ _ _ _ _ hr _=>hr.elim
 | .dict _=>fun _ _ _ _ _ _ _ hr _=>hr.elim
theorem quiet_all:∀ ds:List PyData,∀ d ∈ ds,QuietOk prog w d
 | [],_,h=>nomatch h
 | e :: ds,d,h=>(List.mem_cons.mp h).elim (fun z=>z ▸ quiet_ok e) (quiet_all ds d)
end
def yP (prog:Program) (w:World):HeapKind prog w PyData where
 is:=fun h d a=>RdT h d (.ref a) /\ txtT d = true /\ depT d <= 6
 hash:=hashT w
 draws:=drawT
 room:=fun A=>A.units + 8 < cLine
 inj:=fun hx hy=>RdT.inj _ _ _ hx.1 hy.1
 keeps:=fun x ho hd hs=>⟨RdT.keeps ho hd hs _ _ x.1,x.2⟩
 pyHash:=fun hu hk h=>hash_ok _ _ _ _ _ _ (by have:=hk.2.2; omega) hk.1 h
 eqBool:=fun {A E s x y a b Q} hu hx hy h=>by
  obtain ⟨as,ra⟩:=RdT.reads _ _ hx.1
  obtain ⟨bs,rb⟩:=RdT.reads _ _ hy.1
  obtain ⟨l1,d1⟩:=txt_lay _ hx.2.1
  obtain ⟨l2,d2⟩:=txt_lay _ hy.2.1
  have e:=SeqAt.eqAt_reads x y A s _ _ as bs ra rb l1 l2 (by have:=hx.2.2; omega)
  rw [eqv_dec _ _ hx.2.1 hy.2.1] at e
  exact e prog w E Q h
 quiet:=fun hk h=>quiet_ok _ _ _ _ _ _ _ (by have:=hk.2.2; omega) hk.1 h
end
end L2
namespace L2
open PySem PySem.Spec PyProof.Rows
def RawD (d:Addr) (es:List DictEntry):HO:=.ext fun h=>∃ o ep,h.get? d = some o /\ o.ExactDict /\ o.data = .dict es.toArray ep /\ (d == sysModules) = false
theorem rawD_ok {P:Program} {w:World} {H:Hp} {h:Heap} {d:Addr} {es:List DictEntry} {o:Obj} {ep:Nat} (h1:h.get? d = some o) (h2:o.ExactDict) (h3:o.data = .dict es.toArray ep) (h4:(d == sysModules) = false):ObjOk P w H h d (RawD d es) :=
 ⟨⟨o,ep,h1,h2,h3,h4⟩,⟨o,h1⟩,fun _ _ ⟨o',ep',q1,q2⟩ k=>⟨o',ep',k o' q1,q2⟩⟩
mutual
theorem Dt.other {K:PySem.W.Frag} {H:Hp} {d:Addr} {o:HO} (n:∀ xs,¬ Rd H d (.tup xs)):∀ (k:PyData) (v:V),txtT k = true -> Dt K H k v -> Dt K (upd H d o) k v
 | .str x,_,_,h=>h
 | .tuple ds,_,t,⟨a,xs,h1,h2,h3⟩=>by
  refine ⟨a,xs,h1,?_,DtAll.other n ds xs t h3⟩
  rcases h2 with h2 | h2
  ·have ne:a ≠ d:=fun z=>n xs (z ▸ h2)
   left
   unfold Rd
   rw [zI ne]
   exact h2
  ·exact .inr h2
 | .none,_,t,_=>by cases t
 | .bool _,_,t,_=>by cases t
 | .int _,_,t,_=>by cases t
 | .list _,_,t,_=>by cases t
 | .dict _,_,t,_=>by cases t
theorem DtAll.other {K:PySem.W.Frag} {H:Hp} {d:Addr} {o:HO} (n:∀ xs,¬ Rd H d (.tup xs)):∀ (ks:List PyData) (vs:List V),yY ks = true -> DtAll K H ks vs -> DtAll K (upd H d o) ks vs
 | [],_,_,h=>h
 | k :: ks,_,t,⟨x,r,h1,h2,h3⟩=>by
  have t:(txtT k && yY ks) = true:=t
  rw [Bool.and_eq_true] at t
  exact ⟨x,r,h1,Dt.other n k x t.1 h2,DtAll.other n ks r t.2 h3⟩
end
section
variable {X:Cx} {pins:List (Addr × Obj)} {σ:St} {H:Hp} {s:Shared}
mutual
theorem Dt.rdT (I:Inv X pins σ H s):∀ (d:PyData) (v:V) (u:Value),txtT d = true -> Dt X.K H d v -> RelV v u -> RdT s.heap d u
 | .str x,_,u,_,h,r=>by
  cases (show _ = V.str x from h); exact r
 | .tuple ds,_,u,t,⟨a,xs,h1,h2,h3⟩,r=>by
  subst h1
  cases (show u = Value.ref a from r)
  obtain ⟨its,rv,⟨o,e,c,n,d⟩,_⟩:=I.tuple h2
  exact ⟨a,o,its.toArray,n,rfl,e,c,d,by simpa using DtAll.rdT I ds xs its t h3 rv⟩
 | .none,_,_,t,_,_=>by cases t
 | .bool _,_,_,t,_,_=>by cases t
 | .int _,_,_,t,_,_=>by cases t
 | .list _,_,_,t,_,_=>by cases t
 | .dict _,_,_,t,_,_=>by cases t
theorem DtAll.rdT (I:Inv X pins σ H s):∀ (ds:List PyData) (xs:List V) (us:List Value),yY ds = true -> DtAll X.K H ds xs -> Vals xs us -> RdAll s.heap ds us
 | [],_,us,_,h,r=>by
  cases (show _ = [] from h)
  cases r
  exact rfl
 | d :: ds,_,us,t,⟨x,r,h1,h2,h3⟩,rv=>by
  have t:(txtT d && yY ds) = true:=t
  rw [Bool.and_eq_true] at t
  subst h1
  cases rv with
  | cons r1 r2=>exact ⟨_,_,rfl,Dt.rdT I d x _ t.1 h2 r1,DtAll.rdT I ds r _ t.2 h3 r2⟩
end
def KeyT (k:PyData):Prop:=txtT k = true /\ depT k <= 6
def TRel (K:PySem.W.Frag) (H:Hp) (p:PyData × V) (q:PyData × Addr × Value):Prop:=p.1 = q.1 /\ Dt K H p.1 (.ref q.2.1) /\ RelV p.2 q.2.2
def ThD (P:Program) (w:World) (K:PySem.W.Frag) (H:Hp) (d:Addr) (ps:List (PyData × V)):Prop :=
 ps.length <= 10000 /\ (∀ p ∈ ps,KeyT p.1) /\ (ps.map (·.1)).Nodup /\ ∃ xs:List (PyData × Addr × Value),H d = some (RawD d (xs.map (entryOfKey (yP P w)))) /\ Paired (TRel K H) ps xs
theorem TRel.keys {K:PySem.W.Frag}:∀ {ps:List (PyData × V)} {xs:List (PyData × Addr × Value)},Paired (TRel K H) ps xs -> xs.map (·.1) = ps.map (·.1)
 | _,_,.nil=>rfl
 | _,_,.cons r t=>by rw [List.map_cons,List.map_cons,TRel.keys t,r.1]
theorem TRel.at {K:PySem.W.Frag} {k:PyData}:∀ {ps:List (PyData × V)} {xs:List (PyData × Addr × Value)},Paired (TRel K H) ps xs -> (atKey xs k = none /\ valV ps k = none) \/ ∃ p v,atKey xs k = some p /\ valV ps k = some v /\ RelV v p.2
 | _,_,.nil=>.inl ⟨rfl,rfl⟩
 | p :: ps,q :: xs,.cons r t=>by
  unfold atKey valV
  rw [List.find?_cons,List.find?_cons]
  have e:p.1 = q.1:=r.1
  by_cases h:q.1 = k
  ·rw [decide_eq_true h,decide_eq_true (show p.1 = k by rw [e]; exact h)]
   exact .inr ⟨q.2,p.2,rfl,rfl,r.2.2⟩
  ·rw [decide_eq_false h,decide_eq_false (show ¬ p.1 = k by rw [e]; exact h)]
   exact TRel.at t
theorem TRel.is (I:Inv X pins σ H s):∀ {ps:List (PyData × V)} {xs:List (PyData × Addr × Value)},(∀ p ∈ ps,KeyT p.1) -> Paired (TRel X.K H) ps xs -> ∀ x ∈ xs,(yP X.prog X.w).is s.heap x.1 x.2.1
 | _,_,_,.nil,x,h=>nomatch h
 | p :: ps,q :: xs,hk,.cons r t,x,h=>by
  rcases List.mem_cons.mp h with rfl | h
  ·obtain ⟨k1,k2⟩:=hk p List.mem_cons_self
   rw [← r.1]
   exact ⟨Dt.rdT I _ _ _ k1 r.2.1 rfl,k1,k2⟩
  ·exact TRel.is I (fun p hp=>hk p (List.mem_cons_of_mem _ hp)) t x h
theorem ThD.heap {d:Addr} {ps:List (PyData × V)} (I:Inv X pins σ H s) (T:ThD X.prog X.w X.K H d ps):∃ xs,H d = some (RawD d (xs.map (entryOfKey (yP X.prog X.w)))) /\ Paired (TRel X.K H) ps xs /\ s.heap.DictOfH (yP X.prog X.w) d xs /\ (d == sysModules) = false:=by
 obtain ⟨hl,hk,nd,xs,e,r⟩:=T
 obtain ⟨⟨o,ep,h1,h2,h3,h4⟩,_⟩:(∃ o ep,s.heap.get? d = some o /\ o.ExactDict /\ o.data = .dict (xs.map (entryOfKey (yP X.prog X.w))).toArray ep /\ (d == sysModules) = false) /\ _:=I.hok d _ e
 exact ⟨xs,e,r,⟨o,_,ep,h1,h2,h3,by simp,TRel.is I hk r,by rw [TRel.keys r]; exact nd⟩,h4⟩
theorem room8 {A:Around} (hu:A.units + 64 < cLine) (prog:Program) (w:World):(yP prog w).room A.in1:=by
 show A.units + 1 + 8 < cLine
 omega
theorem key_is (I:Inv X pins σ H s) {k:PyData} {a:Addr} (hk:KeyT k) (h:Dt X.K H k (.ref a)):(yP X.prog X.w).is s.heap k a:=⟨Dt.rdT I _ _ _ hk.1 h rfl,hk⟩
end
section
variable {X:Cx} {K:PySem.W.Frag}
def rInT (P:Program) (w:World) (K:PySem.W.Frag):R2:=fun y x H Q=>∃ a d ps k,y = .ref a /\ x = .ref d /\ ThD P w K H d ps /\ KeyT k /\ Dt K H k (.ref a) /\ Q (.bl (valV ps k).isSome) H
theorem op_inT (hu:X.A.units + 64 < cLine):OpR X (compareOp .In) (rInT X.prog X.w X.K):=by
 intro pins s σ H y x v u Q I ry rx h
 obtain ⟨a,d,ps,k,rfl,rfl,T,hk,ha,q⟩:=h
 cases ry
 cases rx
 obtain ⟨xs,_,r,dd,hd⟩:=T.heap I
 refine wpAny_in_heap (room8 hu _ _) (key_is I hk ha) hd dd ⟨.bl _,H,I.tok _,?_,q⟩
 rcases TRel.at (k:=k) r with ⟨e1,e2⟩ | ⟨p,v,e1,e2,_⟩
 ·rw [e1,e2]; rfl
 ·rw [e1,e2]; rfl
def tTGet (P:Program) (w:World) (K:PySem.W.Frag) (td ty:TE):TE:=fun σ H Q=>td σ H fun x H1=>ty σ H1 fun y H2=>∃ a d ps k v,x = .ref d /\ y = .ref a /\ ThD P w K H2 d ps /\ KeyT k /\ Dt K H2 k (.ref a) /\ valV ps k = some v /\ Q v H2
theorem pe_tget {o i:Expr} {td ty:TE} {pos:Pos} (hu:X.A.units + 64 < cLine) (ho:PE X o td) (hi:PE X i ty) (hs:NoSl i):PE X (.Subscript o i pos) (tTGet X.prog X.w X.K td ty):=by
 intro pins s σ H Q I h
 refine subD_of PySem.F.slot_dict_getitem.lookup hs (thn (ho pins s σ H _ I h) fun u s1 ⟨x,H1,I1,rx,q1⟩=>thn (hi pins s1 σ H1 _ I1 q1) fun iv s2 ⟨y,H2,I2,ry,a,d,ps,k,v,ex,ey,T,hk,ha,hv,q2⟩=>?_)
 subst ex ey
 obtain rfl:u = Value.ref d:=rx
 obtain rfl:iv = Value.ref a:=ry
 obtain ⟨xs,_,r,dd,hd⟩:=T.heap I2
 refine ⟨dd.typeIs,?_⟩
 rcases TRel.at (k:=k) r with ⟨e1,e2⟩ | ⟨p,v',e1,e2,rv⟩
 ·rw [hv] at e2; cases e2
 ·rw [hv] at e2
  cases e2
  exact wpAny_getItem_heap (room8 hu _ _) (key_is I2 hk ha) dd e1 ⟨v,H2,I2.tok _,rv,q2⟩
def sTPut (P:Program) (w:World) (K:PySem.W.Frag) (td ty tv:TE):TS:=fun D σ H=>tv σ H fun v H1=>td σ H1 fun x H2=>ty σ H2 fun y H3=>∃ a d ps k,x = .ref d /\ y = .ref a /\ ThD P w K H3 d ps /\ ps.length < 10000 /\ KeyT k /\ Dt K H3 k (.ref a) /\
 ∀ o,ThD P w K (upd H3 d o) d (putK ps k v) -> (∃ es,o = RawD d es) -> D.nx σ (upd H3 d o)
theorem jP {α β:Type} {F:α -> β -> Prop}:∀ {l l':List α} {m m':List β},Paired F l m -> Paired F l' m' -> Paired F (l ++ l') (m ++ m')
 | _,_,_,_,.nil,h=>h
 | _,_,_,_,.cons r t,h=>.cons r (jP t h)
theorem TRel.repl {K:PySem.W.Frag} {H:Hp} {k:PyData} {v:V} {u:Value} (rv:RelV v u):∀ {ps:List (PyData × V)} {xs:List (PyData × Addr × Value)},Paired (TRel K H) ps xs -> Paired (TRel K H) (ps.map fun p=>if p.1 = k then (p.1,v) else p) (xs.map (putAt k u))
 | _,_,.nil=>.nil
 | p :: ps,q :: xs,.cons r t=>by
  rw [List.map_cons,List.map_cons]
  refine .cons ?_ (TRel.repl rv t)
  have e:p.1 = q.1:=r.1
  unfold putAt
  by_cases h:q.1 = k
  ·rw [if_pos h,if_pos (show p.1 = k by rw [e]; exact h)]
   exact ⟨r.1,r.2.1,rv⟩
  ·rw [if_neg h,if_neg (show ¬ p.1 = k by rw [e]; exact h)]
   exact r
theorem TRel.put {K:PySem.W.Frag} {H:Hp} {k:PyData} {a:Addr} {v:V} {u:Value} {ps:List (PyData × V)} {xs:List (PyData × Addr × Value)} (r:Paired (TRel K H) ps xs) (ha:Dt K H k (.ref a)) (rv:RelV v u):Paired (TRel K H) (putK ps k v) (storedH xs k a u):=by
 have e:(ps.any fun kv=>decide (kv.1 = k)) = (atKey xs k).isSome:=by
  rcases TRel.at (k:=k) r with ⟨e1,e2⟩ | ⟨p,v',e1,e2,_⟩
  ·rw [e1]
   refine Bool.eq_false_iff.mpr fun z=>?_
   obtain ⟨kv,hm,hk⟩:=List.any_eq_true.mp z
   exact valV_not e2 (List.mem_map.mpr ⟨kv,hm,of_decide_eq_true hk⟩)
  ·obtain ⟨kv,hm,hk⟩:=List.mem_map.mp (valV_in e2)
   rw [e1,List.any_eq_true.mpr ⟨kv,hm,decide_eq_true hk⟩]; rfl
 unfold putK storedH
 rw [e]
 split
 ·exact TRel.repl rv r
 ·exact jP r (.cons ⟨rfl,ha,rv⟩ .nil)
theorem put_keyT {ps:List (PyData × V)} {k:PyData} {v:V} (h:∀ p ∈ ps,KeyT p.1) (hk:KeyT k):∀ p ∈ putK ps k v,KeyT p.1:=by
 unfold putK
 split
 ·intro p hp
  obtain ⟨q,hq,rfl⟩:=List.mem_map.mp hp
  split
  ·exact h q hq
  ·exact h q hq
 ·intro p hp
  rcases List.mem_append.mp hp with hp | hp
  ·exact h p hp
  ·rw [List.mem_singleton.mp hp]; exact hk
theorem put_ndT {ps:List (PyData × V)} {k:PyData} {v:V} (h:(ps.map (·.1)).Nodup):((putK ps k v).map (·.1)).Nodup:=by
 unfold putK
 split
 ·have e:(ps.map fun kv=>if kv.1 = k then (kv.1,v) else kv).map (·.1) = ps.map (·.1):=by
   rw [List.map_map]
   refine List.map_congr_left fun p _=>?_
   show (if p.1 = k then (p.1,v) else p).1 = p.1
   split <;> rfl
  rw [e]; exact h
 ·rename_i hn
  rw [List.map_append]
  refine jX h fun z=>hn ?_
  obtain ⟨p,hp,e⟩:=List.mem_map.mp z
  exact List.any_eq_true.mpr ⟨p,hp,decide_eq_true e⟩
theorem ps_tput {o i value:Expr} {td ty tv:TE} {pos pos':Pos} (hu:X.A.units + 64 < cLine) (ho:PE X o td) (hi:PE X i ty) (hv:PE X value tv) (hs:swapsWith value (some (.Subscript o i pos')) pos.line X.env = pure false) :
  PS X (.Assign [.Subscript o i pos'] value pos) (sTPut X.prog X.w X.K td ty tv):=by
 intro pins s σ H D I h
 refine wpAny_Assign_Subscript (thn (hv pins s σ H _ I h) fun r s1 ⟨v,H1,I1,rv,q1⟩=>thn (ho pins s1 σ H1 _ I1 q1) fun u s2 ⟨x,H2,I2,rx,q2⟩=>thn (hi pins s2 σ H2 _ I2 q2) fun iv s3 ⟨y,H3,I3,ry,a,d,ps,k,ex,ey,T,hl,hk,ha,q3⟩=>?_) hs
 subst ex ey
 obtain rfl:u = Value.ref d:=rx
 obtain rfl:iv = Value.ref a:=ry
 obtain ⟨xs,e,rel,dd,hd⟩:=T.heap I3
 have hz:xs.length <= sizeLine:=by rw [← Paired.length rel]; exact An.le_line (by omega)
 refine wpAny_setItem_heap (hsz:=hz) (room8 hu _ _) (key_is I3 hk ha) dd fun h' dd' hs'=>?_
 obtain ⟨ob,es,ep,g1,g2,g3,g4,_,_⟩:=dd'
 have g3':ob.data = .dict ((storedH xs k a r).map (entryOfKey (yP X.prog X.w))).toArray ep:=by rw [g3,← g4]
 have mu:Mut (H3 d):=by rw [e]; exact True.intro
 have I4:=kK (t':=s3.toks + (yP X.prog X.w).draws k) I3 mu hs' ⟨ob,g1⟩ (rawD_ok (H:=upd H3 d (RawD d ((storedH xs k a r).map (entryOfKey (yP X.prog X.w))))) g1 g2 g3' hd)
 have nt:∀ xs,¬ Rd H3 d (.tup xs):=fun ys z=>by
  rcases z with z | ⟨o',z⟩
  ·rw [e] at z; cases z
  ·rw [e] at z; cases z
 refine ⟨σ,_,I4,q3 _ ⟨?_,put_keyT T.2.1 hk,put_ndT T.2.2.1,storedH xs k a r,zD,?_⟩ ⟨_,rfl⟩⟩
 ·have:=xC ps k v
  omega
 ·have r2:Paired (TRel X.K (upd H3 d (RawD d ((storedH xs k a r).map (entryOfKey (yP X.prog X.w)))))) ps xs:=by
   have key:∀ {ps:List (PyData × V)} {xs:List (PyData × Addr × Value)},(∀ p ∈ ps,KeyT p.1) -> Paired (TRel X.K H3) ps xs -> ∀ o,Paired (TRel X.K (upd H3 d o)) ps xs:=by
    intro ps xs hkk r
    induction r with
    | nil=>intro _; exact .nil
    | cons r1 _ ih=>intro o; exact .cons ⟨r1.1,Dt.other nt _ _ (hkk _ List.mem_cons_self).1 r1.2.1,r1.2.2⟩ (ih (fun p hp=>hkk p (List.mem_cons_of_mem _ hp)) o)
   exact key T.2.1 rel _
  exact TRel.put r2 (Dt.other nt _ _ hk.1 ha) rv
theorem pe_dnewX {pos:Pos}:PE X (.Dict [] [] pos) (fun _ H Q=>∀ p o,H p = none -> ThD X.prog X.w X.K (upd H p o) p [] -> (∃ es,o = RawD p es) -> Q (.ref p) (upd H p o)):=by
 intro pins s σ H Q I h
 have hn:H s.heap.objs.size = none:=I.hok.fresh (Nat.le_refl _)
 have hS:(s.heap.objs.size == sysModules) = false:=beq_eq_false_iff_ne.mpr (Ne.symm (Nat.ne_of_lt I.big))
 exact wpAny_Dict_empty ⟨.ref s.heap.objs.size,_,I.laid (a:=s.heap.objs.size) (o:=RawD s.heap.objs.size []) (t':=s.toks) (fun _ _ q=>Heap.get?_push_of_some _ q) (Nat.le_refl _) (rawD_ok (ep:=0) (Heap.get?_push_size _ rfl) ⟨rfl,rfl,rfl⟩ rfl hS),rfl,
  h _ _ hn ⟨Nat.zero_le _,fun _ z=>(nomatch z),List.nodup_nil,[],zD,.nil⟩ ⟨_,rfl⟩⟩
end
end L2
namespace L2
open PySem PySem.Spec PyProof.Rows
structure Met (P:Program) (w:World) (K:PySem.W.Frag) (mg:Str -> Option Value) (base:Heap) (C:Addr) (k:Nat) (m:Str) (ps:List Str) (sp:Sp):Prop where
 ex:∃ (f:Addr) (fd:FuncData),FnOk P w K mg base CX0 k f fd ps sp /\ Meth K C m f /\ Binds K fd ps []
structure MetX (P:Program) (w:World) (K:PySem.W.Frag) (mg:Str -> Option Value) (base:Heap) (C:Addr) (k:Nat) (m:Str) (ps:List Str) (sp:Sp):Prop where
 ex:∃ (f:Addr) (fd:FuncData),FnOk P w K mg base (CXF P w) k f fd ps sp /\ Meth K C m f /\ Binds K fd ps []
def tMethX (C:Addr) (m:Str) (sp:Sp) (R:St -> Hp -> Value -> Prop) (ta:TE) (t:TA):TE:=fun σ H Q=>ta σ H fun x H1=>∃ a dx fs,x = .ref a /\ H1 a = some (.ins C dx fs) /\ fs.lookup m = none /\
 t σ H1 fun vs H2=>sp (x :: vs) H2 Q (fun cls _ H'=>R σ H' cls)
section
variable {X:Cx} {C:Addr} {k:Nat} {m:Str} {ps:List Str} {sp:Sp} {o e:Expr} {es:List Expr} {ta:TE} {t:TA} {apos pos:Pos} {R:St -> Hp -> Value -> Prop}
theorem pe_metC {pl:Sem Bool} (he:PE X o ta) (c:Cls X.K C) (M:Met X.prog X.w X.K X.mg X.base C k m ps sp) (hr:Room k X.A) (ha:PA X (e :: es) t)
  (hst:starEach (e :: es) X.env = (false,eval e X.env) :: starEach es X.env:=by rfl) (hpl:(backTo pos (starEach es X.env)).any (·.1) = false:=by rfl)
  (ht:eval (.Call (.Attribute o m apos) (e :: es) [] pos) X.env = (do
   let ov ← eval o X.env
   standAt apos.atName
   let (f,first) ← holding [ov] (getMethod ov m pl)
   callWith pos f first (backTo pos (starEach (e :: es) X.env)) (backToKw pos (keywordEach [] X.env))):=by rfl) :
  PE X (.Call (.Attribute o m apos) (e :: es) [] pos) (tMeth C m sp [] E0 ta t):=by
 obtain ⟨f,fd,F,hm,hb⟩:=M.ex
 exact pe_meth (pl:=pl) he c hm F hr hb .nil pass0 ha hst hpl ht
theorem pe_metC0 {pl:Sem Bool} (he:PE X o ta) (c:Cls X.K C) (M:Met X.prog X.w X.K X.mg X.base C k m ps sp) (hr:Room k X.A)
  (ht:eval (.Call (.Attribute o m apos) [] [] pos) X.env = (do
   let ov ← eval o X.env
   standAt apos.atName
   let (f,first) ← holding [ov] (getMethod ov m pl)
   callWith pos f first (backTo pos (starEach [] X.env)) (backToKw pos (keywordEach [] X.env))):=by rfl) :
  PE X (.Call (.Attribute o m apos) [] [] pos) (tMeth C m sp [] E0 ta tNil):=by
 obtain ⟨f,fd,F,hm,hb⟩:=M.ex
 exact pe_meth0 (pl:=pl) he c hm F hr hb .nil pass0 ht
theorem yQ {pl:Sem Bool} (he:PE X o ta) (c:Cls X.K C) (M:MetX X.prog X.w X.K X.mg X.base C k m ps sp) (hr:Room k X.A) (hx:Raises X R) (ha:PA X (e :: es) t)
  (hst:starEach (e :: es) X.env = (false,eval e X.env) :: starEach es X.env:=by rfl) (hpl:(backTo pos (starEach es X.env)).any (·.1) = false:=by rfl)
  (ht:eval (.Call (.Attribute o m apos) (e :: es) [] pos) X.env = (do
   let ov ← eval o X.env
   standAt apos.atName
   let (f,first) ← holding [ov] (getMethod ov m pl)
   callWith pos f first (backTo pos (starEach (e :: es) X.env)) (backToKw pos (keywordEach [] X.env))):=by rfl) :
  PE X (.Call (.Attribute o m apos) (e :: es) [] pos) (tMethX C m sp R ta t):=by
 obtain ⟨f,fd,F,hm,hb⟩:=M.ex
 intro pins s σ H Q I h
 refine PySem.W.methodCall_KW (pl:=pl) (thn (he pins s σ H _ I h) fun u s1 ⟨x,H1,I1,rx,a,dx,fs,ex,ea,l,q⟩=>?_) ht
 subst ex
 obtain rfl:u = Value.ref a:=rx
 refine jZ I1 ea c hm l ?_
 refine PySem.W.callWith_K (first:=[.ref a]) (h₀:=X.base) I.ok.mod.kin hm.kp (thn (ha pos pins s1 σ H1 _ I1 q) fun us s2 ⟨vs,H2,I2,r,q2⟩=>⟨I2.kIn,?_⟩) hst hpl
 exact run_fnX (us:=.ref a :: us) (vs:=.ref a :: vs) F hr hb hx I2 (.cons rfl r) q2
end
structure Mak (P:Program) (w:World) (K:PySem.W.Frag) (mg:Str -> Option Value) (base:Heap) (C:Addr) (k:Nat) (x:Str) (ps:List Str) (sp:Sp):Prop where
 ex:∃ (f:Addr) (fd:FuncData),FnOk P w K mg base CX0 k f fd ps sp /\ Mk K C f /\ Binds K fd ps [] /\ mg x = some (.ref C)
theorem pe_makC {X:Cx} {C:Addr} {k:Nat} {x:Str} {ps:List Str} {sp:Sp} {e:Expr} {es:List Expr} {t:TA} {p pos:Pos} (M:Mak X.prog X.w X.K X.mg X.base C k x ps sp) (hr:Room (k + 1) X.A) (ha:PA X (e :: es) t) (hg:Gl X x:=by rfl)
  (hdb:(x == ("__debug__":Str)) = false:=by decide) (he:starEach (e :: es) X.env = (false,eval e X.env) :: starEach es X.env:=by rfl) (hpl:(backTo pos (starEach es X.env)).any (·.1) = false:=by rfl) :
  PE X (.Call (.Name x p) (e :: es) [] pos) (tMake C sp [] E0 t):=by
 obtain ⟨f,fd,F,hm,hb,hx⟩:=M.ex
 exact pe_make hm F hr hg hx hb .nil pass0 ha hdb he hpl
theorem cs_sub (x:Str) (i j:Nat):An.cs (Builtin.Str.strSub x i j) = ((An.cs x).take j).drop i:=by
 show (x.cps.extract i j).toList = _
 rw [Array.toList_extract,List.extract_eq_drop_take,List.drop_take]
theorem meets_partition (x:Str) (c i:Nat) (t u:Tok) (r:List Nat) (ho:Builtin.Str.occurrences x ⟨#[c]⟩ 0 x.length 1 = i :: r) (hz:x.length <= 100000):Meets (Builtin.«str.partition» ⟨[.str x t,.str ⟨#[c]⟩ u],[]⟩)
  (fun _ R s=>R (.ok (.ret (.ref s.heap.objs.size))) { s with heap:=s.heap.push { cls:=.type "tuple",data:=.seq #[.str (Builtin.Str.strSub x 0 i) s.toks,.str ⟨#[c]⟩ u,.str (Builtin.Str.strSub x (i + 1) x.length) (s.toks + 1)] },toks:=s.toks + 1 + 1 }) :=
 .of_wp fun prog w A R s h=>by
  obtain ⟨raising,e⟩:=partition_tree x ⟨#[c]⟩ t u
  rw [e,if_neg (show ¬ ((⟨#[c]⟩:Str).length == 0) = true from (by show ¬ (1 == 0) = true; decide)),ho]
  have z1:(Builtin.Str.strSub x 0 i).length <= sizeLine:=by
   rw [An.length_cs,cs_sub,List.length_drop,List.length_take]
   refine An.le_line ?_
   rw [← An.length_cs]; omega
  have z2:(Builtin.Str.strSub x (i + (⟨#[c]⟩:Str).length) x.length).length <= sizeLine:=by
   rw [An.length_cs,cs_sub,List.length_drop,List.length_take]
   refine An.le_line ?_
   rw [← An.length_cs]; omega
  refine wpAny_bind (wpAny_mkStr ?_ z1)
  refine wpAny_bind (wpAny_mkStr ?_ z2)
  refine wpAny_bind (wpAny_newTuple ?_ (by show 3 <= sizeLine; decide))
  exact wpAny_pure ⟨_,rfl,h⟩
section
variable {X:Cx}
def rPart:V -> List V -> Hp -> VK -> Prop:=fun x vs H Q=>∃ (u v:Str) (c:Nat),x = .str (u ++ ⟨#[c]⟩ ++ v) /\ vs = [.str ⟨#[c]⟩] /\ c ∉ An.cs u /\ (u ++ ⟨#[c]⟩ ++ v).length <= 100000 /\ ∀ p,H p = none -> Q (.ref p) (upd H p (.tup [.str u,.str ⟨#[c]⟩,.str v]))
theorem mt_partition:MtR X "str.partition" rPart:=by
 intro pins s σ H x xs v us Q I rx rs h
 obtain ⟨a,b,c,rfl,rfl,hc,hz,q⟩:=h
 obtain ⟨t,rfl⟩:=rx
 obtain ⟨w,rfl,t',rfl⟩:=vals1 rs
 have ecs:An.cs (a ++ ⟨#[c]⟩ ++ b) = An.cs a ++ c :: An.cs b:=by
  rw [An.cs_append,An.cs_append]
  show An.cs a ++ [c] ++ An.cs b = _
  simp
 have hat:(An.cs (a ++ ⟨#[c]⟩ ++ b))[(An.cs a).length]? = some c:=by rw [ecs]; simp
 have hi:∃ r,Builtin.Str.occurrences (a ++ ⟨#[c]⟩ ++ b) ⟨#[c]⟩ 0 (a ++ ⟨#[c]⟩ ++ b).length 1 = (An.cs a).length :: r:=by
  rcases StrLaws.occ_head_from (a ++ ⟨#[c]⟩ ++ b) ⟨#[c]⟩ 0 1 (Nat.le_refl 1) with ⟨h0,hn⟩ | ⟨k,r,h0,hlo,hk,hn⟩
  ·exact absurd ((StrLaws.subAt_one _ c _).mpr hat) (hn _ (Nat.zero_le _))
  ·have hm:=(StrLaws.subAt_one _ c k).mp hk
   have hm:(An.cs (a ++ ⟨#[c]⟩ ++ b))[k]? = some c:=hm
   rcases Nat.lt_trichotomy k (An.cs a).length with z | z | z
   ·rw [ecs,List.getElem?_append_left z] at hm
    exact absurd (List.mem_of_getElem? hm) hc
   ·exact ⟨r,by rw [h0,z]⟩
   ·exact absurd ((StrLaws.subAt_one _ c _).mpr hat) (hn _ (Nat.zero_le _) z)
 obtain ⟨r,hi⟩:=hi
 refine call_meets F.slot_str_partition (typeIs_str s _ t) F.entry_str_partition (F.args_str_partition_2 _ _) (meets_partition _ c _ t t' r hi hz) ?_
 have e1:Builtin.Str.strSub (a ++ ⟨#[c]⟩ ++ b) 0 (An.cs a).length = a:=An.cs_inj (by rw [cs_sub,ecs,List.drop_zero,List.take_left])
 have e2:Builtin.Str.strSub (a ++ ⟨#[c]⟩ ++ b) ((An.cs a).length + 1) (a ++ ⟨#[c]⟩ ++ b).length = b:=An.cs_inj (by
  rw [cs_sub,An.length_cs,List.take_length,ecs]
  rw [show An.cs a ++ c :: An.cs b = (An.cs a ++ [c]) ++ An.cs b by simp]
  rw [show (An.cs a).length + 1 = (An.cs a ++ [c]).length by simp]
  exact List.drop_left)
 rw [e1,e2]
 have hn:H s.heap.objs.size = none:=I.hok.fresh (Nat.le_refl _)
 refine ⟨.ref s.heap.objs.size,_,I.laid (t':=s.toks + 1 + 1) (a:=s.heap.objs.size) (o:=.tup [.str a,.str ⟨#[c]⟩,.str b]) (fun _ _ q=>Heap.get?_push_of_some _ q) (Nat.le_refl _) ?_,rfl,q _ hn⟩
 exact ⟨by show 3 <= sizeLine; decide,_,.cons ⟨_,rfl⟩ (.cons ⟨_,rfl⟩ (.cons ⟨_,rfl⟩ .nil)),⟨_,Heap.get?_push_size _ rfl,rfl,_,rfl⟩⟩
def numT (n:Nat):Str:=Str.ofString (toString ((n:Nat):Int))
theorem call_intT:CallR X (.type "int") (fun xs H Q=>∃ n:Nat,xs = [.str (numT n)] /\ n < 10000000000 /\ Q (.int n) H):=by
 intro pins s σ H xs us Q I r h
 obtain ⟨n,rfl,hn,q⟩:=h
 obtain ⟨u,rfl,t,rfl⟩:=vals1 r
 exact PySem.W.KIN.call_num (by omega) (by omega) ⟨.int n,H,I.tok _,⟨_,rfl⟩,q⟩
def tF3 (t1:TE) (y:Str) (t2:TE):TE:=fun σ H Q=>t1 σ H fun v H1=>∃ x:Str,v = .str x /\ x.length <= 100000 /\ y.length <= 1000 /\ t2 σ H1 fun u H2=>∃ n:Nat,u = .int n /\ n < 1000000 /\ Q (.str (x ++ y ++ numT n)) H2
theorem pe_f3 {e1 e2:Expr} {y:Str} {k:Nat} {p1 p2 p3 pos:Pos} {t1 t2:TE} (h1:PE X e1 t1) (h2:PE X e2 t2):PE X (.JoinedStr [.FormattedValue e1 (-1) none p1,.Constant (.str y) k p2,.FormattedValue e2 (-1) none p3] pos) (tF3 t1 y t2):=by
 intro pins s σ H Q I h
 refine JoinedStr_many (joinParts_cons (FormattedValue_plain (thn (h1 pins s σ H _ I h) fun v s1 ⟨x1,H1,I1,r1,x,ex,xl,yl,q1⟩=>?_)))
 subst ex
 obtain ⟨t,rfl⟩:=r1
 refine formatField_str (fun t' tk=>⟨?_,?_⟩) (An.le_line (by omega))
 ·show (Str.empty ++ x).length <= sizeLine
  rw [An.len_append]
  exact An.le_line (by show 0 + x.length <= _; omega)
 refine joinParts_cons (thn ((pe_str:PE X (.Constant (.str y) k p2) _) pins _ σ H1 (fun v H'=>v = .str y /\ H' = H1) (I1.tok tk) ⟨rfl,rfl⟩) fun v2 s2 ⟨x2,H2,I2,r2,e2,eH⟩=>?_)
 subst e2 eH
 obtain ⟨t2',rfl⟩:=r2
 refine ⟨?_,?_⟩
 ·show (Str.empty ++ x ++ y).length <= sizeLine
  rw [An.len_append,An.len_append]
  exact An.le_line (by show 0 + x.length + y.length <= _; omega)
 refine joinParts_cons (FormattedValue_plain (thn (h2 pins s2 σ H2 _ I2 q1) fun v3 s3 ⟨x3,H3,I3,r3,n,en,nl,q3⟩=>?_))
 subst en
 obtain ⟨t3,rfl⟩:=r3
 have hlog:((n:Int)).natAbs.log2 < 1920:=by
  rw [Int.natAbs_natCast]
  rcases Nat.eq_zero_or_pos n with z | z
  ·subst z; decide
  ·have:n.log2 < 20:=(Nat.log2_lt (by omega)).mpr (by omega)
   omega
 have hz:(Str.empty ++ x ++ y ++ numT n).length <= sizeLine:=by
  rw [An.len_append,An.len_append,An.len_append]
  have:=PyProof.Rows.int_text_len_1921 hlog
  exact An.le_line (by show 0 + x.length + y.length + (numT n).length <= _; have e:(numT n).length <= 1921:=this; omega)
 refine formatField_int_small hlog ⟨hz,joinParts_nil ⟨.str _,H3,I3.tok _,⟨_,rfl⟩,?_⟩ hz⟩
 have e:Str.empty ++ x ++ y ++ (Str.ofString (toString (n:Int))) = x ++ y ++ numT n:=An.cs_inj (by
  rw [An.cs_append,An.cs_append,An.cs_append,An.cs_append,An.cs_append]
  rfl)
 rw [e]
 exact q3
end
section
variable {X:Cx}
theorem vals_keysD {P:Program} {w:World}:∀ {kvs:List (Key × V)} {vs:List (Key × Value)} {us:List Value},KV kvs vs -> us.length = vs.length -> (∀ (j:Nat) (v:Value),us[j]? = some v -> ∃ k x,vs[j]? = some (k,x) /\ (yC P w).is k v = true) -> Vals (kvs.map fun kv=>kV kv.1) us
 | [],_,[],.nil,_,_=>.nil
 | [],_,_ :: _,.nil,hl,_=>by cases hl
 | _ :: _,_,[],.cons _ _,hl,_=>by cases hl
 | p :: _,q :: _,u :: us,.cons r1 r2,hl,hm=>by
  obtain ⟨k,x,e,hk⟩:=hm 0 u rfl
  have e:q = (k,x):=by simpa using e
  have e1:p.1 = k:=by rw [show p.1 = q.1 from r1.1,e]
  refine .cons (by
   show RelV (kV p.1) u
   rw [e1]
   cases k with
   | inl i =>
    have hk:Value.isInt i u = true:=hk
    cases u <;> simp [Value.isInt] at hk
    subst hk
    exact ⟨_,rfl⟩
   | inr z =>
    obtain ⟨t,rfl⟩:=Value.isStrOf_shape (show Value.isStrOf z u = true from hk)
    exact ⟨t,rfl⟩) (vals_keysD (P:=P) (w:=w) r2 (by simpa using hl) fun j v hj=>?_)
  obtain ⟨k2,x2,q1,q2⟩:=hm (j + 1) v (by simpa using hj)
  exact ⟨k2,x2,by simpa using q1,q2⟩
theorem call_listD (hc:X.calm = true):CallR X (.type "list") (fun xs H Q=>∃ a kvs,xs = [.ref a] /\ H a = some (.dK kvs) /\ ∀ l,H l = none -> Q (.ref l) (upd H l (.lst (kvs.map fun kv=>kV kv.1)))):=by
 intro pins s σ H xs us Q I r h
 obtain ⟨a,kvs,rfl,ha,q⟩:=h
 obtain ⟨u,rfl,ru⟩:=vals1 r
 cases ru
 obtain ⟨hz,hS,vs,rel,o,es,ep,ho,hx,hd,hk,hp,hnd⟩:kvs.length <= sizeLine /\ (a == sysModules) = false /\ ∃ vs,KV kvs vs /\ s.heap.DictOf (yC X.prog X.w) a vs:=I.hok a _ ha
 have da:s.heap.DictAt (yC X.prog X.w) a vs ep:=⟨o,es,ho,hx,hd,hk,hp,hnd⟩
 have hlen:kvs.length = vs.length:=Paired.length rel
 refine PySem.W.kdl_call (PySem.W.kdl_dict (knd:=yC X.prog X.w) (kvs:=vs) (ep:=ep) hS) (I.ok.hd hc) da (by omega) fun h' tk acc c hkp hl hacc=>?_
 have rv:Vals (kvs.map fun kv=>kV kv.1) acc.toList:=vals_keysD rel (by rw [Array.length_toList]; exact hacc.1) fun j v e=>hacc.2 j v (by rw [← Array.getElem?_toList]; exact e)
 exact ⟨.ref s.heap.objs.size,_,I.laid (t':=tk) hkp (Nat.le_refl _) (show ObjOk X.prog X.w _ h' _ (.lst (kvs.map fun kv=>kV kv.1)) from ⟨by rw [List.length_map]; exact hz,acc.toList,c,rv,hl⟩),rfl,q _ (I.hok.fresh (Nat.le_refl _))⟩
end
end L2
namespace An
open PySem L2
def signB (c:Nat):Bool:=decide (32 <= c) && decide (c <= 126) && decide (c ≠ 37)
def lineB (x:Str):Bool:=decide (x.length <= 20) && (cs x).all signB
def lowB (c:Nat):Bool:=decide (97 <= c) && decide (c <= 122)
def jA (x:Str):Bool:=decide (1 <= x.length) && decide (x.length <= 8) && (cs x).all lowB
def lineD:PyData -> Bool
 | .str x=>lineB x
 | _=>false
def linesD:PyData -> Bool
 | .tuple ds=>ds.all lineD
 | _=>false
def j6:PyData -> Bool
 | .str x=>jA x
 | _=>false
def textD:PyData -> Bool
 | .str _=>true
 | _=>false
def rowD:PyData -> Bool
 | .tuple [l,n]=>j6 l && textD n
 | _=>false
mutual
def small:PyData -> Bool
 | .str x=>decide (x.length <= 1000)
 | .list ds=>decide (ds.length <= 1000) && yH ds
 | .tuple ds=>decide (ds.length <= 1000) && yH ds
 | _=>true
def yH:List PyData -> Bool
 | []=>true
 | d :: ds=>small d && yH ds
end
theorem yM:∀ {ds:List PyData} {i:Nat} {d:PyData},yH ds = true -> ds[i]? = some d -> small d = true
 | [],_,_,_,h=>by cases h
 | e :: ds,0,d,h,q=>by
  have h:(small e && yH ds) = true:=h
  have q:e = d:=Option.some.inj q
  rw [Bool.and_eq_true] at h
  rw [← q]; exact h.1
 | e :: ds,i + 1,d,h,q=>by
  have h:(small e && yH ds) = true:=h
  rw [Bool.and_eq_true] at h
  exact yM h.2 (by simpa using q)
theorem xU {ds:List PyData} (h:small (.tuple ds) = true):ds.length <= 1000 /\ yH ds = true:=by
 have h:(decide (ds.length <= 1000) && yH ds) = true:=h
 rw [Bool.and_eq_true] at h
 exact ⟨of_decide_eq_true h.1,h.2⟩
theorem lt_one (a c:Nat):[a] < [c] ↔ a < c:=by
 rw [List.cons_lt_cons_iff]
 constructor
 ·rintro (h | ⟨_,h⟩)
  ·exact h
  ·exact absurd h (by simp)
 ·exact .inl
theorem not_dec {p q:Prop} [Decidable p] [Decidable q] (h:¬ p ↔ q):(!decide p) = decide q:=by
 by_cases hp:p
 ·rw [decide_eq_true hp,decide_eq_false (fun z=>h.mpr z hp)]; rfl
 ·rw [decide_eq_false hp,decide_eq_true (h.mp hp)]; rfl
theorem le_one (c a:Nat) (x:Str) (hx:x.cps.toList = [a]):(!decide ((⟨#[c]⟩:Str).cps.toList < x.cps.toList)) = decide (a <= c):=by
 rw [hx]
 exact not_dec (by show ¬ [c] < [a] ↔ _; rw [lt_one]; omega)
theorem one_le (c a:Nat) (x:Str) (hx:x.cps.toList = [a]):(!decide (x.cps.toList < (⟨#[c]⟩:Str).cps.toList)) = decide (c <= a):=by
 rw [hx]
 exact not_dec (by show ¬ [a] < [c] ↔ _; rw [lt_one]; omega)
def spSign:Sp:=fun vs H Q _=>∃ c:Nat,vs = [.str ⟨#[c]⟩] /\ Q (.bl (signB c)) H
def spLine (K:PySem.W.Frag):Sp:=fun vs H Q _=>∃ (d:PyData) (v:V),vs = [v] /\ Dw K H d v /\ small d = true /\ ∀ H',Same H H' -> Q (.bl (lineD d)) H'
def spLines (K:PySem.W.Frag):Sp:=fun vs H Q _=>∃ (d:PyData) (v:V),vs = [v] /\ Dw K H d v /\ small d = true /\ ∀ H',Same H H' -> Q (.bl (linesD d)) H'
def spLabel (K:PySem.W.Frag):Sp:=fun vs H Q _=>∃ (d:PyData) (v:V),vs = [v] /\ Dw K H d v /\ small d = true /\ ∀ H',Same H H' -> Q (.bl (j6 d)) H'
def spRow (K:PySem.W.Frag):Sp:=fun vs H Q _=>∃ (d:PyData) (v:V),vs = [v] /\ Dw K H d v /\ small d = true /\ ∀ H',Same H H' -> Q (.bl (rowD d)) H'
theorem y9 {α:Type} {l:List α} {f:α -> Bool} {i:Nat} {c:α} (h:l[i]? = some c):(l.take (i + 1)).map f = (l.take i).map f ++ [f c]:=by
 rw [List.take_add_one,h,List.map_append]
 rfl
theorem cs_get {x:Str} {i c:Nat} (h:x.cps[i]? = some c):(cs x)[i]? = some c:=by rw [← h]; simp
theorem all_map (l:List α) (f:α -> Bool):(l.map f).all id = l.all f:=by
 rw [List.all_map]; rfl
end An
namespace L2
open PySem PySem.Spec PyProof.Rows
end L2
namespace An
open PySem L2
mutual
def kM:PyData -> Bool
 | .list _=>false
 | .dict _=>false
 | .tuple ds=>yK ds
 | _=>true
def yK:List PyData -> Bool
 | []=>true
 | d :: ds=>kM d && yK ds
end
mutual
def jI:PyData -> Bool
 | .dict _=>false
 | .list ds=>y6 ds
 | .tuple ds=>y6 ds
 | _=>true
def y6:List PyData -> Bool
 | []=>true
 | d :: ds=>jI d && y6 ds
end
mutual
theorem Dw.dt {K:PySem.W.Frag} {H:Hp}:∀ (d:PyData) (v:V),jI d = true -> Dw K H d v -> Dt K H d v
 | .none,_,_,h=>h
 | .bool _,_,_,h=>h
 | .int _,_,_,h=>h
 | .str _,_,_,h=>h
 | .list ds,_,t,⟨a,xs,h1,h2,h3⟩=>⟨a,xs,h1,h2,DwAll.dt ds xs t h3⟩
 | .tuple ds,_,t,⟨a,xs,h1,h2,h3⟩=>⟨a,xs,h1,h2,DwAll.dt ds xs t h3⟩
 | .dict _,_,t,_=>by cases t
theorem DwAll.dt {K:PySem.W.Frag} {H:Hp}:∀ (ds:List PyData) (xs:List V),y6 ds = true -> DwAll K H ds xs -> DtAll K H ds xs
 | [],_,_,h=>h
 | d :: ds,_,t,⟨x,r,h1,h2,h3⟩=>by
  have t:(jI d && y6 ds) = true:=t
  rw [Bool.and_eq_true] at t
  exact ⟨x,r,h1,Dw.dt d x t.1 h2,DwAll.dt ds r t.2 h3⟩
end
theorem qN:∀ ls:List Str,yK (ls.map .str) = true
 | []=>rfl
 | l :: ls=>by
  show (true && yK (ls.map .str)) = true
  rw [qN ls]; rfl
mutual
theorem dictFree_of:∀ d:PyData,kM d = true -> jI d = true
 | .none,_=>rfl
 | .bool _,_=>rfl
 | .int _,_=>rfl
 | .str _,_=>rfl
 | .list _,t=>by cases t
 | .tuple ds,t=>j7 ds t
 | .dict _,t=>by cases t
theorem j7:∀ ds:List PyData,yK ds = true -> y6 ds = true
 | [],_=>rfl
 | d :: ds,t=>by
  have t:(kM d && yK ds) = true:=t
  rw [Bool.and_eq_true] at t
  show (jI d && y6 ds) = true
  rw [dictFree_of d t.1,j7 ds t.2]; rfl
end
end An
namespace An
open PySem L2
structure En where
 h:Str
 n:Nat
 d:PyData
def dot:Str:=⟨#[46]⟩
theorem dot_is:(".":Str) = dot:=by decide +kernel
def En.nm (e:En):Str:=e.h ++ dot ++ numT e.n
def nextOf (S:List En) (h:Str):Option Nat:=S.foldl (fun acc e=>if e.h = h then some (max (acc.getD 0) (e.n + 1)) else acc) none
theorem nextOf_snoc (S:List En) (e:En) (h:Str):nextOf (S ++ [e]) h = if e.h = h then some (max ((nextOf S h).getD 0) (e.n + 1)) else nextOf S h:=by
 unfold nextOf
 rw [List.foldl_append]; rfl
structure GoodE (e:En):Prop where
 key:KeyT e.d
 free:46 ∉ cs e.h
 num:e.n < 1000000
 hl:e.h.length <= 100
structure GoodS (S:List En):Prop where
 ent:∀ e ∈ S,GoodE e
 nd:(S.map (·.d)).Nodup
 nn:(S.map En.nm).Nodup
 len:S.length <= 2000
theorem GoodS.nil:GoodS []:=⟨fun _ h=>(nomatch h),List.nodup_nil,List.nodup_nil,Nat.zero_le _⟩
theorem GoodS.snoc {S:List En} {e:En} (g:GoodS S) (h:GoodE e) (h1:e.d ∉ S.map (·.d)) (h2:e.nm ∉ S.map En.nm) (h3:S.length < 2000):GoodS (S ++ [e]) :=
 ⟨mem_snoc g.ent h,by rw [List.map_append]; exact jX g.nd h1,by rw [List.map_append]; exact jX g.nn h2,by rw [List.length_append,List.length_singleton]; omega⟩
def Off (fp:List Addr) (H H':Hp):Prop:=∀ b o,b ∉ fp -> H b = some o -> H' b = some o
theorem Off.refl (fp:List Addr) (H:Hp):Off fp H H:=fun _ _ _ h=>h
theorem Off.trans {fp:List Addr} {H H1 H2:Hp} (a:Off fp H H1) (b:Off fp H1 H2):Off fp H H2:=fun c o n h=>b c o n (a c o n h)
theorem Off.of {fp:List Addr} {H H':Hp} (s:Same H H'):Off fp H H':=fun b o _ h=>s b o h
theorem Off.upd {fp:List Addr} {H H':Hp} {a:Addr} {o:HO} (h:Off fp H H') (m:a ∈ fp):Off fp H (L2.upd H' a o):=fun b u n e=>by
 have ne:b ≠ a:=fun z=>n (by rw [z]; exact m)
 rw [zI ne]
 exact h b u n e
def flds (d1 d2 d3:Addr):List (Str × V):=[("thing_by_name",.ref d1),("name_by_thing",.ref d2),("next_numbers",.ref d3)]
def NoSeq (H:Hp) (fp:List Addr):Prop:=∀ b ∈ fp,∃ o,H b = some o /\ (∀ xs,o ≠ .tup xs) /\ (∀ xs,o ≠ .lst xs) /\ ∀ u v,o ≠ .frz u v
structure ShAt (P:Program) (w:World) (K:PySem.W.Frag) (C:Addr) (H:Hp) (a:Addr) (fp:List Addr) (S:List En):Prop where
 good:GoodS S
 at_:∃ (dx d1 d2 d3:Addr) (ts:List Addr) (nx:List (Key × V)),fp = [a,dx,d1,d2,d3] /\ (fp).Nodup /\ H a = some (.ins C dx (flds d1 d2 d3)) /\ H dx = some (.own a) /\ ts.length = S.length /\
  H d1 = some (.dK ((S.zip ts).map fun e=>((Sum.inr e.1.nm:Key),V.ref e.2))) /\ ThD P w K H d2 (S.map fun e=>(e.d,V.str e.nm)) /\
  H d3 = some (.dK nx) /\ nx.length <= S.length /\ (∀ h,valV nx (Sum.inr h:Key) = (nextOf S h).map fun n:Nat=>V.int (n:Int)) /\
  ∀ (i:Nat) (e:En) (t:Addr),S[i]? = some e -> ts[i]? = some t -> Dt K H e.d (.ref t)
theorem kF {H:Hp} {b:Addr} {o:HO} (h:H b = some o) (h1:∀ xs,o ≠ .tup xs) (h2:∀ u v,o ≠ .frz u v):∀ xs,¬ Rd H b (.tup xs):=fun xs z=>by
 rcases z with z | ⟨u,z⟩
 ·rw [h] at z; exact h1 xs (Option.some.inj z)
 ·rw [h] at z; exact h2 u _ (Option.some.inj z)
mutual
theorem Dt.off {K:PySem.W.Frag} {H H':Hp} {fp:List Addr} (n:∀ b ∈ fp,∀ xs,¬ Rd H b (.tup xs)) (o:Off fp H H'):∀ (k:PyData) (v:V),txtT k = true -> Dt K H k v -> Dt K H' k v
 | .str x,_,_,h=>h
 | .tuple ds,_,t,⟨a,xs,h1,h2,h3⟩=>by
  refine ⟨a,xs,h1,?_,DtAll.off n o ds xs t h3⟩
  rcases h2 with h2 | h2
  ·have ne:a ∉ fp:=fun z=>n a z xs h2
   rcases h2 with h2 | ⟨u,h2⟩
   ·exact .inl (.inl (o a _ ne h2))
   ·exact .inl (.inr ⟨u,o a _ ne h2⟩)
  ·exact .inr h2
 | .none,_,t,_=>by cases t
 | .bool _,_,t,_=>by cases t
 | .int _,_,t,_=>by cases t
 | .list _,_,t,_=>by cases t
 | .dict _,_,t,_=>by cases t
theorem DtAll.off {K:PySem.W.Frag} {H H':Hp} {fp:List Addr} (n:∀ b ∈ fp,∀ xs,¬ Rd H b (.tup xs)) (o:Off fp H H'):∀ (ks:List PyData) (vs:List V),yY ks = true -> DtAll K H ks vs -> DtAll K H' ks vs
 | [],_,_,h=>h
 | k :: ks,_,t,⟨x,r,h1,h2,h3⟩=>by
  have t:(txtT k && yY ks) = true:=t
  rw [Bool.and_eq_true] at t
  exact ⟨x,r,h1,Dt.off n o k x t.1 h2,DtAll.off n o ks r t.2 h3⟩
end
theorem ThD.off {P:Program} {w:World} {K:PySem.W.Frag} {H H':Hp} {fp:List Addr} {d:Addr} {ps:List (PyData × V)} (n:∀ b ∈ fp,∀ xs,¬ Rd H b (.tup xs)) (o:Off fp H H') (e:H' d = H d) (T:ThD P w K H d ps):ThD P w K H' d ps:=by
 obtain ⟨hl,hk,nd,xs,e1,r⟩:=T
 refine ⟨hl,hk,nd,xs,by rw [e]; exact e1,?_⟩
 have key:∀ {ps:List (PyData × V)} {xs:List (PyData × Addr × Value)},(∀ p ∈ ps,KeyT p.1) -> Paired (TRel K H) ps xs -> Paired (TRel K H') ps xs:=by
  intro ps xs hkk r
  induction r with
  | nil=>exact .nil
  | cons r1 _ ih=>exact .cons ⟨r1.1,Dt.off n o _ _ (hkk _ List.mem_cons_self).1 r1.2.1,r1.2.2⟩ (ih fun p hp=>hkk p (List.mem_cons_of_mem _ hp))
 exact key hk r
theorem ShAt.off {P:Program} {w:World} {K:PySem.W.Frag} {C:Addr} {H H':Hp} {a:Addr} {fp gp:List Addr} {S:List En} (n:∀ b ∈ gp,∀ xs,¬ Rd H b (.tup xs)) (o:Off gp H H') (dj:∀ b ∈ fp,b ∉ gp) (h:ShAt P w K C H a fp S):ShAt P w K C H' a fp S:=by
 obtain ⟨g,dx,d1,d2,d3,ts,nx,rfl,nd,h1,h2,h3,h4,h5,h6,h7,h8,h9⟩:=h
 have k:∀ b u,b ∈ [a,dx,d1,d2,d3] -> H b = some u -> H' b = some u:=fun b u m e=>o b u (dj b m) e
 obtain ⟨xs,e5,_⟩:=h5.2.2.2
 refine ⟨g,dx,d1,d2,d3,ts,nx,rfl,nd,k _ _ (by simp) h1,k _ _ (by simp) h2,h3,k _ _ (by simp) h4,ThD.off n o ?_ h5,k _ _ (by simp) h6,h7,h8,fun i e t q1 q2=>Dt.off n o _ _ (g.ent e (List.mem_of_getElem? q1)).key.1 (h9 i e t q1 q2)⟩
 rw [e5]; exact k _ _ (by simp) e5
theorem ShAt.same {P:Program} {w:World} {K:PySem.W.Frag} {C:Addr} {H H':Hp} {a:Addr} {fp:List Addr} {S:List En} (s:Same H H') (h:ShAt P w K C H a fp S):ShAt P w K C H' a fp S :=
 h.off (gp:=[]) (fun b m=>(nomatch m)) (Off.of s) (fun b _=>by simp)
theorem ShAt.noseq {P:Program} {w:World} {K:PySem.W.Frag} {C:Addr} {H:Hp} {a:Addr} {fp:List Addr} {S:List En} (h:ShAt P w K C H a fp S):NoSeq H fp:=by
 obtain ⟨g,dx,d1,d2,d3,ts,nx,rfl,nd,h1,h2,h3,h4,h5,h6,h7,h8,h9⟩:=h
 obtain ⟨xs,e5,_⟩:=h5.2.2.2
 intro b m
 simp only [List.mem_cons,List.not_mem_nil,or_false] at m
 rcases m with rfl | rfl | rfl | rfl | rfl
 ·exact ⟨_,h1,fun _ z=>(nomatch z),fun _ z=>(nomatch z),fun _ _ z=>(nomatch z)⟩
 ·exact ⟨_,h2,fun _ z=>(nomatch z),fun _ z=>(nomatch z),fun _ _ z=>(nomatch z)⟩
 ·exact ⟨_,h4,fun _ z=>(nomatch z),fun _ z=>(nomatch z),fun _ _ z=>(nomatch z)⟩
 ·exact ⟨_,e5,fun _ z=>(nomatch z),fun _ z=>(nomatch z),fun _ _ z=>(nomatch z)⟩
 ·exact ⟨_,h6,fun _ z=>(nomatch z),fun _ z=>(nomatch z),fun _ _ z=>(nomatch z)⟩
theorem NoSeq.tup {H:Hp} {fp:List Addr} (h:NoSeq H fp):∀ b ∈ fp,∀ xs,¬ Rd H b (.tup xs):=fun b m xs=>by
 obtain ⟨o,e,n1,_,n2⟩:=h b m
 exact kF e n1 n2 xs
theorem put_new {κ:Type} [DecidableEq κ] {kvs:List (κ × V)} {k:κ} {v:V} (h:k ∉ kvs.map (·.1)):putK kvs k v = kvs ++ [(k,v)]:=by
 unfold putK
 rw [if_neg]
 intro z
 obtain ⟨kv,hm,e⟩:=List.any_eq_true.mp z
 exact h (List.mem_map.mpr ⟨kv,hm,of_decide_eq_true e⟩)
theorem val_mem {κ:Type} [DecidableEq κ]:∀ {kvs:List (κ × V)} {k:κ} {v:V},(kvs.map (·.1)).Nodup -> (k,v) ∈ kvs -> valV kvs k = some v
 | [],_,_,_,h=>(nomatch h)
 | p :: r,k,v,nd,h=>by
  rw [List.map_cons,List.nodup_cons] at nd
  unfold valV
  rw [List.find?_cons]
  rcases List.mem_cons.mp h with e | h
  ·subst e
   rw [decide_eq_true (show ((k,v):κ × V).1 = k from rfl)]; rfl
  ·rw [decide_eq_false (show ¬ p.1 = k from fun z=>nd.1 (List.mem_map.mpr ⟨(k,v),h,z.symm⟩))]
   exact val_mem nd.2 h
theorem nm_cs (e:En):cs e.nm = cs e.h ++ 46 :: cs (numT e.n):=by
 unfold En.nm
 rw [cs_append,cs_append]
 show cs e.h ++ [46] ++ cs (numT e.n) = _
 simp
theorem numT_inj {m n:Nat} (h:numT m = numT n):m = n:=by
 have h0:cs (numT m) = cs (numT n):=by rw [h]
 have h1:=PySem.W.KIN.signs_num m
 have h2:=PySem.W.KIN.signs_num n
 have h3:=PySem.W.KIN.val_back m
 have h4:=PySem.W.KIN.val_back n
 rw [← h1] at h3
 rw [← h2] at h4
 have h0:(Str.ofString (toString ((m:Nat):Int))).cps.toList = (Str.ofString (toString ((n:Nat):Int))).cps.toList:=h0
 rw [h0] at h3
 exact h3.symm.trans h4
theorem split46:∀ {a b r s:List Nat},¬ (46 ∈ a) -> ¬ (46 ∈ b) -> a ++ 46 :: r = b ++ 46 :: s -> a = b /\ r = s
 | [],[],r,s,_,_,h=>⟨rfl,by injection h⟩
 | [],y :: b,r,s,_,hb,h=>by
  injection h with h1 h2
  exact absurd (by rw [← h1]; exact List.mem_cons_self) hb
 | x :: a,[],r,s,ha,_,h=>by
  injection h with h1 h2
  exact absurd (by rw [h1]; exact List.mem_cons_self) ha
 | x :: a,y :: b,r,s,ha,hb,h=>by
  injection h with h1 h2
  obtain ⟨e1,e2⟩:=split46 (fun z=>ha (List.mem_cons_of_mem _ z)) (fun z=>hb (List.mem_cons_of_mem _ z)) h2
  exact ⟨by rw [h1,e1],e2⟩
theorem nm_inj {e f:En} (he:46 ∉ cs e.h) (hf:46 ∉ cs f.h) (h:e.nm = f.nm):e.h = f.h /\ e.n = f.n:=by
 have:=congrArg cs h
 rw [nm_cs,nm_cs] at this
 obtain ⟨h1,h2⟩:=split46 he hf this
 exact ⟨cs_inj h1,numT_inj (cs_inj h2)⟩
theorem next_gt:∀ {S:List En} {e:En},e ∈ S -> e.n < (nextOf S e.h).getD 0:=by
 have key:∀ (S:List En) (acc:Option Nat) (h:Str),acc.getD 0 <= (S.foldl (fun acc e=>if e.h = h then some (max (acc.getD 0) (e.n + 1)) else acc) acc).getD 0 /\ ∀ e ∈ S,e.h = h -> e.n < (S.foldl (fun acc e=>if e.h = h then some (max (acc.getD 0) (e.n + 1)) else acc) acc).getD 0:=by
  intro S
  induction S with
  | nil=>intro acc h; exact ⟨Nat.le_refl _,fun e he=>(nomatch he)⟩
  | cons f S ih =>
   intro acc h
   rw [List.foldl_cons]
   obtain ⟨i1,i2⟩:=ih (if f.h = h then some (max (acc.getD 0) (f.n + 1)) else acc) h
   have mono:acc.getD 0 <= (if f.h = h then some (max (acc.getD 0) (f.n + 1)) else acc).getD 0:=by
    split
    ·exact Nat.le_max_left _ _
    ·exact Nat.le_refl _
   refine ⟨Nat.le_trans mono i1,fun e he eh=>?_⟩
   rcases List.mem_cons.mp he with rfl | he
   ·rw [if_pos eh] at i1 ⊢
    have:e.n + 1 <= (some (max (acc.getD 0) (e.n + 1))).getD 0:=Nat.le_max_right _ _
    omega
   ·exact i2 e he eh
 intro S e he
 exact (key S none e.h).2 e he rfl
theorem new_nm {S:List En} (g:GoodS S) {h:Str} {d:PyData} (hf:46 ∉ cs h):(En.mk h ((nextOf S h).getD 0) d).nm ∉ S.map En.nm:=fun z=>by
 obtain ⟨e,he,q⟩:=List.mem_map.mp z
 obtain ⟨h1,h2⟩:=nm_inj (g.ent e he).free hf q
 have:=next_gt he
 have h1:e.h = h:=h1
 have h2:e.n = (nextOf S h).getD 0:=h2
 rw [h1] at this
 omega
end An
namespace An
open PySem L2
def dig (n:Nat):Str:=Str.ofString (toString ((n:Nat):Int))
def enc (p:Str):List Nat:=cs (dig p.length) ++ 58 :: cs p
inductive Th where
 | leaf (ls:List Str)
 | tree (rows:List (Str × Str))
 | note (t:Str) (ps:List Str) (w:Str)
def yB:List (Str × Str) -> List Str
 | []=>[]
 | r :: rs=>r.1 :: r.2 :: yB rs
theorem qK:∀ (a b:List (Str × Str)),yB (a ++ b) = yB a ++ yB b
 | [],_=>rfl
 | (x,y) :: a,b=>by
  show x :: y :: yB (a ++ b) = x :: y :: (yB a ++ yB b)
  rw [qK a b]
def Th.word:Th -> Str
 | .leaf _=>"leaf" | .tree _=>"tree" | .note _ _ _=>"note"
def Th.letter:Th -> Str
 | .leaf _=>"L" | .tree _=>"T" | .note _ _ _=>"N"
def Th.parts:Th -> List Str
 | .leaf ls=>ls
 | .tree rows=>yB rows
 | .note t ps w=>[t,dig ps.length] ++ ps ++ [w]
def counted (p:Str):Str:=dig p.length ++ ":" ++ p
def more (x p:Str):Str:=x ++ dig p.length ++ ":" ++ p
def Th.sp (t:Th):Str:=t.parts.foldl more t.letter
theorem cs_colon:cs (":":Str) = [58]:=by decide +kernel
theorem cs_counted (p:Str):cs (counted p) = enc p:=by
 unfold counted enc
 rw [cs_append,cs_append,cs_colon]
 simp
theorem cs_more (x p:Str):cs (more x p) = cs x ++ enc p:=by
 unfold more enc
 rw [cs_append,cs_append,cs_append,cs_colon]
 simp
theorem cs_foldl:∀ (ps:List Str) (x:Str),cs (ps.foldl more x) = cs x ++ ps.flatMap enc
 | [],x=>by simp
 | p :: ps,x=>by
  rw [List.foldl_cons,cs_foldl ps,cs_more,List.flatMap_cons,List.append_assoc]
theorem cs_sp (t:Th):cs t.sp = cs t.letter ++ t.parts.flatMap enc:=cs_foldl _ _
theorem sp_eq (t:Th):t.letter ++ Txt.join "" (t.parts.map counted) = t.sp:=by
 apply cs_inj
 rw [cs_append,cs_sp]
 have e:cs (Txt.join "" (t.parts.map counted)) = t.parts.flatMap enc:=by
  show cs (Builtin.Str.glued "" (t.parts.map counted)) = _
  rw [StrLaws.glued_eq_join]
  rw [cs_joinNil,List.flatMap_map]
  congr 1
  funext p
  exact cs_counted p
 rw [e]
theorem jM (t:Th):cs t.letter = [match t with | .leaf _=>76 | .tree _=>84 | .note _ _ _=>78]:=by
 cases t
 ·show cs ("L":Str) = [76]
  decide +kernel
 ·show cs ("T":Str) = [84]
  decide +kernel
 ·show cs ("N":Str) = [78]
  decide +kernel
def dgs (n:Int) (c:Nat):Int:=(31 * n + c) % 97
def dg (x:Str):Int:=(cs x).foldl dgs 0
def yD (r:Str × Str):PyData:=.tuple [.str r.1,.str r.2]
def Th.dat:Th -> PyData
 | .leaf ls=>.tuple [.str "leaf",.tuple (ls.map .str)]
 | .tree rows=>.tuple [.str "tree",.tuple (rows.map yD)]
 | .note t ps w=>.tuple [.str "note",.str t,.tuple (ps.map .str),.str w]
theorem eqv_rows:∀ (a b:List (Str × Str)),PyData.eqvAll (a.map yD) (b.map yD) = decide (a = b)
 | [],[]=>rfl
 | [],_ :: _=>rfl
 | _ :: _,[]=>rfl
 | (x,y) :: a,(z,w) :: b=>by
  show (((x == z) && ((y == w) && true)) && PyData.eqvAll (a.map yD) (b.map yD)) = _
  rw [eqv_rows a b,Bool.eq_iff_iff]
  simp [and_assoc]
theorem qR {x y:Str} {xs ys:List PyData} (h:(x == y) = false):PyData.eqv (.tuple (.str x :: xs)) (.tuple (.str y :: ys)) = false:=by
 show ((x == y) && PyData.eqvAll xs ys) = false
 rw [h]
 rfl
theorem eqv_dat (a b:Th):PyData.eqv a.dat b.dat = true ↔ a = b:=by
 have w1:(("leaf":Str) == "tree") = false:=by decide +kernel
 have w2:(("leaf":Str) == "note") = false:=by decide +kernel
 have w3:(("tree":Str) == "leaf") = false:=by decide +kernel
 have w4:(("tree":Str) == "note") = false:=by decide +kernel
 have w5:(("note":Str) == "leaf") = false:=by decide +kernel
 have w6:(("note":Str) == "tree") = false:=by decide +kernel
 cases a with
 | leaf ls =>
  cases b with
  | leaf ms =>
   show ((("leaf":Str) == "leaf") && (PyData.eqvAll (ls.map .str) (ms.map .str) && true)) = true ↔ _
   rw [qV]
   simp
  | tree _ =>
   exact iff_of_false (fun z=>absurd ((qR w1).symm.trans z) Bool.false_ne_true) (fun z=>by cases z)
  | note _ _ _ =>
   exact iff_of_false (fun z=>absurd ((qR w2).symm.trans z) Bool.false_ne_true) (fun z=>by cases z)
 | tree rs =>
  cases b with
  | leaf ms =>
   exact iff_of_false (fun z=>absurd ((qR w3).symm.trans z) Bool.false_ne_true) (fun z=>by cases z)
  | tree qs =>
   show ((("tree":Str) == "tree") && (PyData.eqvAll (rs.map yD) (qs.map yD) && true)) = true ↔ _
   rw [eqv_rows]
   simp
  | note _ _ _ =>
   exact iff_of_false (fun z=>absurd ((qR w4).symm.trans z) Bool.false_ne_true) (fun z=>by cases z)
 | note t ps w =>
  cases b with
  | leaf ms =>
   exact iff_of_false (fun z=>absurd ((qR w5).symm.trans z) Bool.false_ne_true) (fun z=>by cases z)
  | tree qs =>
   exact iff_of_false (fun z=>absurd ((qR w6).symm.trans z) Bool.false_ne_true) (fun z=>by cases z)
  | note t' ps' w' =>
   show ((("note":Str) == "note") && ((t == t') && (PyData.eqvAll (ps.map .str) (ps'.map .str) && ((w == w') && true)))) = true ↔ _
   rw [qV]
   simp
def Th.Good (t:Th):Prop:=t.parts.length <= 1000 /\ ∀ p ∈ t.parts,Ok 1000 p
end An
namespace L2
open PySem PySem.Spec PyProof.Rows
section
variable {X:Cx} {tg:Expr}
def rInZ:R2:=fun y x H Q=>∃ a o,x = .ref a /\ DGet H a y o /\ Q (.bl o.isSome) H
theorem op_inZ (hu:X.A.units + 64 < cLine):OpR X (compareOp .In) rInZ:=by
 intro pins s σ H y x v u Q I ry rx h
 obtain ⟨a,o,rfl,g,q⟩:=h
 cases rx
 exact d_in (by omega) I g ry fun s' I'=>⟨.bl _,H,I',rfl,q⟩
inductive Hits (K:PySem.W.Frag) (H:Hp) (kb:List (Key × V)):List (Key × V) -> Bool -> Prop
 | nil:Hits K H kb [] true
 | miss {k:Key} {v:V} {r:List (Key × V)}:valV kb k = none -> Hits K H kb ((k,v) :: r) false
 | hit {k:Key} {v y:V} {d e:PyData} {r:List (Key × V)} {b:Bool}:valV kb k = some y -> Dt K H d v -> Dt K H e y -> SeqAt.shaped d = true -> SeqAt.shaped e = true -> Hits K H kb r b -> Hits K H kb ((k,v) :: r) (PyData.eqv d e && b)
end
end L2
namespace L2
open PySem PySem.Spec PyProof.Rows
section
variable {X:Cx} {K:PySem.W.Frag}
theorem op_ninDT (hu:X.A.units + 64 < cLine) (hK:X.K = K:=by rfl):OpR X (compareOp .NotIn) (rInD K true true):=by
 subst hK
 intro pins s σ H x y v u Q I rx ry h
 obtain ⟨d,xs,h1,h2,h3,h4,h5,q⟩:=h
 obtain ⟨as,r1⟩:=Dt.reads I d x v h1 rx
 obtain ⟨bs,r2⟩:=Dt.reads I _ y u h2 ry
 have hm:min (PyData.depthAll xs) d.depth <= d.depth:=Nat.min_le_right _ _
 exact SeqAt.notIn_tuple_reads r2 r1 h3 h4 (by omega) ⟨.bl _,H,I,rfl,by simpa using q⟩
end
end L2
namespace An
open PySem L2
theorem dg_bound (x:Str):0 <= dg x /\ dg x < 97:=by
 unfold dg
 have:∀ (l:List Nat) (n:Int),(0 <= n /\ n < 97) -> 0 <= l.foldl dgs n /\ l.foldl dgs n < 97:=by
  intro l
  induction l with
  | nil=>intro n h; exact h
  | cons c l ih =>
   intro n _
   rw [List.foldl_cons]
   refine ih _ ?_
   unfold dgs
   omega
 exact this _ 0 ⟨by decide,by decide⟩
theorem num_dg (x:Str):Str.ofString (toString (dg x)) = numT (dg x).toNat:=by
 unfold numT
 rw [Int.toNat_of_nonneg (dg_bound x).1]
theorem num_len2 {n:Nat} (h:n < 97):(numT n).length <= 10:=PyProof.Rows.toString_length_le (by omega) (by decide) (by
 have:n < 10 ^ 9:=by omega
 omega)
theorem snoc_ind {α:Type} {p:List α -> Prop} (h0:p []) (h1:∀ l x,p l -> p (l ++ [x])) (l:List α):p l:=by
 have:∀ l:List α,p l.reverse:=by
  intro l
  induction l with
  | nil=>exact h0
  | cons x l ih=>rw [List.reverse_cons]; exact h1 _ _ ih
 have:=this l.reverse
 rwa [List.reverse_reverse] at this
theorem next_in (S:List En) (h:Str):(nextOf S h).getD 0 = 0 \/ ∃ e ∈ S,e.h = h /\ e.n + 1 = (nextOf S h).getD 0:=by
 induction S using snoc_ind with
 | h0=>exact .inl rfl
 | h1 S e ih =>
  rw [nextOf_snoc]
  by_cases q:e.h = h
  ·rw [if_pos q]
   show max ((nextOf S h).getD 0) (e.n + 1) = 0 \/ _
   rcases Nat.le_total ((nextOf S h).getD 0) (e.n + 1) with z | z
   ·exact .inr ⟨e,by simp,q,(Nat.max_eq_right z).symm⟩
   ·have mz:max ((nextOf S h).getD 0) (e.n + 1) = (nextOf S h).getD 0:=Nat.max_eq_left z
    rcases ih with i | ⟨f,hf,h1,h2⟩
    ·exact .inl (mz.trans i)
    ·exact .inr ⟨f,by simp [hf],h1,h2.trans mz.symm⟩
  ·rw [if_neg q]
   rcases ih with i | ⟨f,hf,h1,h2⟩
   ·exact .inl i
   ·exact .inr ⟨f,by simp [hf],h1,h2⟩
theorem next_le {S:List En} (hS:∀ e ∈ S,e.n < S.length) (h:Str):(nextOf S h).getD 0 <= S.length:=by
 rcases next_in S h with i | ⟨f,hf,_,h2⟩
 ·omega
 ·have:=hS f hf; omega
theorem num_ok (n:Nat):PyData.strOk (numT n) = true:=by
 rw [qJ]
 intro c hc
 have hc:c ∈ (Str.ofString (toString ((n:Nat):Int))).cps.toList:=hc
 rw [PySem.W.KIN.signs_num] at hc
 obtain ⟨d,hd,rfl⟩:=List.mem_map.mp hc
 show d.val.toNat < 1114112
 rcases d.valid with h | ⟨_,h⟩
 ·exact Nat.lt_trans h (by decide)
 ·exact h
theorem ok_app {x y:Str} (h1:PyData.strOk x = true) (h2:PyData.strOk y = true):PyData.strOk (x ++ y) = true:=by
 rw [qJ] at *
 intro c hc
 rw [cs_append,List.mem_append] at hc
 exact hc.elim (h1 c) (h2 c)
theorem any_strs (xs:List Str) (x:Str):(xs.map PyData.str).any (fun y=>PyData.eqv y (.str x)) = decide (x ∈ xs):=by
 induction xs with
 | nil=>rfl
 | cons y xs ih =>
  show ((y == x) || (xs.map PyData.str).any (fun y=>PyData.eqv y (.str x))) = _
  rw [ih,Bool.eq_iff_iff,Bool.or_eq_true,decide_eq_true_iff,decide_eq_true_iff,List.mem_cons,beq_iff_eq]
  exact ⟨fun h=>h.elim (fun z=>.inl z.symm) .inr,fun h=>h.elim (fun z=>.inl z.symm) .inr⟩
def Ex (H:Hp) (X:List Addr):Prop:=∀ c ∈ X,∃ o,H c = some o
theorem Ex.not {H:Hp} {X:List Addr} {c:Addr} (h:Ex H X) (n:H c = none):c ∉ X:=fun z=>by
 obtain ⟨o,e⟩:=h c z
 rw [n] at e; cases e
section
variable {P:Program} {w:World} {K:PySem.W.Frag} {C:Addr} {H H' H0:Hp} {S:List En}
theorem ShAt.ex {a:Addr} {fp:List Addr} (h:ShAt P w K C H a fp S):Ex H fp:=fun c hc=>by
 obtain ⟨o,e,_⟩:=h.noseq c hc
 exact ⟨o,e⟩
theorem new_facts {x dx:Addr} {o1 o2:HO} {fp:List Addr} (nx:H x = none) (ndx:H dx = none) (ne:dx ≠ x) (hfp:∀ c ∈ fp,c = x \/ c = dx \/ (L2.upd (L2.upd H dx o1) x o2) c = none) (o:Off [x] (L2.upd (L2.upd H dx o1) x o2) H'):Same H H' /\ ∀ c ∈ fp,H c = none:=by
 have h1:Same H (L2.upd (L2.upd H dx o1) x o2):=(zE ndx).trans (zE (by rw [zI (Ne.symm ne)]; exact nx))
 refine ⟨fun c u e=>o c u (fun z=>?_) (h1 c u e),fun c hc=>?_⟩
 ·rw [List.mem_singleton.mp z,nx] at e; cases e
 ·rcases hfp c hc with z | z | z
  ·rw [z]; exact nx
  ·rw [z]; exact ndx
  ·exact h1.free z
end
theorem nodup_take {α:Type} {l:List α} {i:Nat} {x:α} (nd:l.Nodup) (h:l[i]? = some x):x ∉ l.take i:=fun z=>by
 obtain ⟨j,hj,e⟩:=List.mem_iff_getElem.mp z
 rw [List.length_take] at hj
 rw [List.getElem_take] at e
 obtain ⟨hi,e'⟩:=List.getElem?_eq_some_iff.mp h
 exact List.pairwise_iff_getElem.mp nd j i (by omega) hi (by omega) (e.trans e'.symm)
def headT (t:Th):Str:=t.letter ++ numT (dg t.sp).toNat
def entT (S:List En) (t:Th):En:=⟨headT t,(nextOf S (headT t)).getD 0,t.dat⟩
theorem letter_len (t:Th):t.letter.length = 1:=by rw [length_cs,jM]; rfl
theorem letter_free (t:Th):46 ∉ cs t.letter:=by
 rw [jM]
 cases t
 ·show 46 ∉ [76]; decide
 ·show 46 ∉ [84]; decide
 ·show 46 ∉ [78]; decide
theorem headT_free (t:Th):46 ∉ cs (headT t):=by
 unfold headT
 rw [cs_append,List.mem_append,not_or]
 exact ⟨letter_free t,fun h=>(PyProof.Rows.intText_free_46 _).mp h⟩
theorem headT_len (t:Th):(headT t).length <= 100:=by
 unfold headT
 have h1:=num_len2 (n:=(dg t.sp).toNat) (by have:=dg_bound t.sp; omega)
 rw [len_append,letter_len]
 omega
theorem letter_ok (t:Th):PyData.strOk t.letter = true:=by
 rw [qJ,jM]
 intro c hc
 rw [List.mem_singleton.mp hc]
 cases t
 ·show 76 < 1114112; decide
 ·show 84 < 1114112; decide
 ·show 78 < 1114112; decide
theorem entT_ok (S:List En) (t:Th):PyData.strOk (entT S t).nm = true:=by
 unfold En.nm entT headT
 exact ok_app (ok_app (ok_app (letter_ok t) (num_ok _)) (by decide +kernel)) (num_ok _)
theorem txt_strs:∀ {ls:List Str},(∀ l ∈ ls,PyData.strOk l = true) -> yY (ls.map .str) = true /\ xM (ls.map .str) = 0
 | [],_=>⟨rfl,rfl⟩
 | l :: ls,h=>by
  obtain ⟨h1,h2⟩:=txt_strs fun x hx=>h x (List.mem_cons_of_mem _ hx)
  refine ⟨?_,?_⟩
  ·show (PyData.strOk l && yY (ls.map .str)) = true
   rw [h l List.mem_cons_self,h1]; rfl
  ·show max 0 (xM (ls.map .str)) = 0
   rw [h2]; rfl
theorem txt_rows:∀ {rs:List (Str × Str)},(∀ p ∈ yB rs,PyData.strOk p = true) -> yY (rs.map yD) = true /\ xM (rs.map yD) <= 1
 | [],_=>⟨rfl,Nat.zero_le _⟩
 | (x,y) :: rs,h=>by
  obtain ⟨h1,h2⟩:=txt_rows (rs:=rs) fun p hp=>h p (List.mem_cons_of_mem _ (List.mem_cons_of_mem _ hp))
  refine ⟨?_,?_⟩
  ·show ((PyData.strOk x && (PyData.strOk y && true)) && yY (rs.map yD)) = true
   rw [h x List.mem_cons_self,h y (List.mem_cons_of_mem _ List.mem_cons_self),h1]; rfl
  ·show max (max 0 (max 0 0) + 1) (xM (rs.map yD)) <= 1
   omega
theorem dat_key {t:Th} (g:t.Good):KeyT t.dat:=by
 have hs:∀ p ∈ t.parts,PyData.strOk p = true:=fun p hp=>(g.2 p hp).ok
 cases t with
 | leaf ls =>
  obtain ⟨h1,h2⟩:=txt_strs (ls:=ls) hs
  refine ⟨?_,?_⟩
  ·show (PyData.strOk "leaf" && (yY (ls.map .str) && true)) = true
   rw [h1]; decide +kernel
  ·show max 0 (max (xM (ls.map .str) + 1) 0) + 1 <= 6
   rw [h2]; decide
 | tree rs =>
  obtain ⟨h1,h2⟩:=txt_rows (rs:=rs) hs
  refine ⟨?_,?_⟩
  ·show (PyData.strOk "tree" && (yY (rs.map yD) && true)) = true
   rw [h1]; decide +kernel
  ·show max 0 (max (xM (rs.map yD) + 1) 0) + 1 <= 6
   omega
 | note x ps y =>
  have p1:∀ p ∈ ps,PyData.strOk p = true:=fun p hp=>hs p (by show p ∈ [x,dig ps.length] ++ ps ++ [y]; simp [hp])
  have p2:PyData.strOk x = true:=hs x (by show x ∈ [x,dig ps.length] ++ ps ++ [y]; simp)
  have p3:PyData.strOk y = true:=hs y (by show y ∈ [x,dig ps.length] ++ ps ++ [y]; simp)
  obtain ⟨h1,h2⟩:=txt_strs p1
  refine ⟨?_,?_⟩
  ·show (PyData.strOk "note" && (PyData.strOk x && (yY (ps.map .str) && (PyData.strOk y && true)))) = true
   rw [h1,p2,p3]; decide +kernel
  ·show max 0 (max 0 (max (xM (ps.map .str) + 1) (max 0 0))) + 1 <= 6
   rw [h2]; decide
theorem xL {a b:Th} (h:a.dat = b.dat):a = b:=(eqv_dat a b).mp (by
 rw [h]
 exact (eqv_dat b b).mpr rfl)
def isThE (e:En):Prop:=∃ t:Th,e.d = t.dat /\ t.Good /\ e.h = headT t
def wordE (e:En):Str:=match e.d with | .tuple (.str x :: _)=>x | _=>""
theorem word_dat (t:Th) (h:Str) (n:Nat):wordE ⟨h,n,t.dat⟩ = t.word:=by cases t <;> rfl
theorem kI {e:En} {t:Th} (h:e.d = t.dat):wordE e = t.word:=by
 obtain ⟨a,b,c⟩:=e
 have h:c = t.dat:=h
 subst h
 exact word_dat t a b
def yA (S:List En) (x:Str) (ws:List Str):Bool:=S.any fun e=>decide (e.nm = x) && decide (wordE e ∈ ws)
def namesOk (S:List En):Th -> Bool
 | .leaf _=>true
 | .tree rows=>rows.all fun r=>yA S r.2 ["leaf","tree"]
 | .note t ps _=>yA S t ["tree"] && ps.all fun p=>yA S p ["note"]
theorem form_in {S:List En} (g:GoodS S) {e:En} (he:e ∈ S) (ws:List Str):yA S e.nm ws = decide (wordE e ∈ ws):=by
 unfold yA
 rw [Bool.eq_iff_iff,List.any_eq_true,decide_eq_true_iff]
 constructor
 ·rintro ⟨f,hf,h⟩
  rw [Bool.and_eq_true,decide_eq_true_iff,decide_eq_true_iff] at h
  obtain ⟨i,hi,ei⟩:=List.mem_iff_getElem.mp he
  obtain ⟨j,hj,ej⟩:=List.mem_iff_getElem.mp hf
  have:i = j:=by
   have hp:=List.pairwise_iff_getElem.mp g.nn
   rcases Nat.lt_trichotomy i j with z | z | z
   ·exact absurd (by rw [List.getElem_map,List.getElem_map,ei,ej]; exact h.1.symm) (hp i j (by rw [List.length_map]; exact hi) (by rw [List.length_map]; exact hj) z)
   ·exact z
   ·exact absurd (by rw [List.getElem_map,List.getElem_map,ei,ej]; exact h.1) (hp j i (by rw [List.length_map]; exact hj) (by rw [List.length_map]; exact hi) z)
  subst this
  rw [← ei,ej]; exact h.2
 ·intro h
  exact ⟨e,he,by rw [decide_eq_true rfl,decide_eq_true h]; rfl⟩
theorem form_out {S:List En} {x:Str} (h:x ∉ S.map En.nm) (ws:List Str):yA S x ws = false:=by
 unfold yA
 rw [List.any_eq_false]
 intro e he z
 rw [Bool.and_eq_true,decide_eq_true_iff] at z
 exact h (List.mem_map.mpr ⟨e,he,z.1⟩)
end An
namespace AxS
open PySem PySem.Spec PyProof.Rows
theorem orStandIn_marks (t:SetTable) (n:Nat):(t.orStandIn n).led = t.led /\ (t.plain = false -> (t.orStandIn n).plain = false):=by
 unfold SetTable.orStandIn
 split
 ·exact ⟨rfl,id⟩
 ·exact ⟨rfl,fun _=>rfl⟩
theorem layNew_marks (t:SetTable) (es:Array (Int × Value)) (h:Int) (x:Value):(layNew t es h x).2.1.led = t.led /\ (t.plain = false -> (layNew t es h x).2.1.plain = false):=by
 unfold layNew
 split
 ·rename_i slot wd _
  have m:=orStandIn_marks (t.put slot).1 (SetTable.insertAt es (t.put slot).2 (h,x)).size
  exact ⟨m.1,m.2⟩
 ·exact ⟨rfl,fun _=>rfl⟩
theorem laid_marks {mask finger moves:Nat} {led plain:Bool} {hs:Array Int} {t:SetTable} {o:Array Nat} (h:SetTable.laid mask finger moves led plain hs = some (t,o)):t.led = led /\ t.plain = plain:=by
 unfold SetTable.laid at h
 simp only [Option.bind_eq_bind,Option.bind_eq_some_iff,Option.pure_def,Option.some.injEq,Prod.mk.injEq] at h
 obtain ⟨_,_,h,_⟩:=h
 rw [← h]
 exact ⟨rfl,rfl⟩
theorem relayAll_marks (t:SetTable) (es:Array (Int × Value)) (n:Nat):(relayAll t es n).2.1.led = t.led /\ (t.plain = false -> (relayAll t es n).2.1.plain = false):=by
 unfold relayAll
 split
 ·rename_i t' order he
  have m:=laid_marks he
  dsimp only
  split
  ·exact ⟨m.1,fun z=>m.2.trans z⟩
  ·exact ⟨rfl,fun _=>rfl⟩
 ·exact ⟨rfl,fun _=>rfl⟩
def keyOf (e:Int × Value):Str:=match e.2 with
 | .str k _=>k
 | _=>""
def TxData (prog:Program) (w:World) (es:Array (Int × Value)) (t:SetTable) (ks:List Str):Prop :=
 ElemsOf (strKind prog w) es.toList /\ (es.toList.map keyOf).Perm ks /\ es.size < scanBound /\ t.fits es.size = true /\ t.led = !(w.params.followText "set-order") /\ (es.size ≠ 0 -> t.plain = false)
def TxSet (prog:Program) (w:World) (h:Heap) (a:Addr) (ks:List Str):Prop:=∃ o es ep t,h.get? a = some o /\ o.ExactSet /\ o.data = .set es ep t /\ TxData prog w es t ks
section
variable {prog:Program} {w:World} {A:Around} {E:Value -> Shared -> Prop} {s:Shared}
theorem TxSet.at {h h':Heap} {a:Addr} {ks:List Str} (x:TxSet prog w h a ks) (e:∀ o,h.get? a = some o -> h'.get? a = some o):TxSet prog w h' a ks:=by
 obtain ⟨o,es,ep,t,ho,r⟩:=x
 exact ⟨o,es,ep,t,e _ ho,r⟩
theorem key_is {es:Array (Int × Value)} (h:ElemsOf (strKind prog w) es.toList) {e:Int × Value} (he:e ∈ es.toList) (k:Str):(strKind prog w).is k e.2 = true ↔ keyOf e = k:=by
 obtain ⟨⟨k',hk',_⟩,_⟩:=h e he
 obtain ⟨t,et⟩:=Value.isStrOf_shape hk'
 have ek:keyOf e = k':=by unfold keyOf; rw [et]
 constructor
 ·intro z
  rw [ek]
  exact (strKind prog w).inj e.2 k' k hk' z
 ·intro z
  rw [← z,ek]
  exact hk'
theorem mem_keys {es:Array (Int × Value)} {ks:List Str} (h:ElemsOf (strKind prog w) es.toList) (p:(es.toList.map keyOf).Perm ks) (k:Str):k ∈ ks ↔ ∃ e ∈ es.toList,(strKind prog w).is k e.2 = true:=by
 rw [← p.mem_iff,List.mem_map]
 exact ⟨fun ⟨e,he,z⟩=>⟨e,he,(key_is h he k).mpr z⟩,fun ⟨e,he,z⟩=>⟨e,he,(key_is h he k).mp z⟩⟩
theorem tx_len {es:Array (Int × Value)} {t:SetTable} {ks:List Str} (x:TxData prog w es t ks):es.size = ks.length:=by
 rw [← x.2.1.length_eq,List.length_map,Array.length_toList]
theorem tx_add {a:Addr} {ks:List Str} {k:Str} {tk:Tok} {Q:Bool -> Shared -> Prop} (hS:TxSet prog w s.heap a ks) (hroom:ks.length + 1 < scanBound)
  (h:∀ h' r,Heap.SameBut a s.heap h' -> TxSet prog w h' a (if k ∈ ks then ks else ks ++ [k]) -> Q r { s with heap:=h' }) :
  wpAny (model prog w) A (setAddHashed a (.str k tk) (hashStr w k)) Q E s:=by
 obtain ⟨o,es,ep,t,ho,hex,hd,X⟩:=hS
 have hlen:=tx_len X
 obtain ⟨hel,hp,hb,hf,hled,hpl⟩:=X
 have hkey:(strKind prog w).is k (.str k tk) = true:=by show Value.isStrOf k (.str k tk) = true; simp [Value.isStrOf]
 have hsc:(Value.str k tk).scannable = true:=rfl
 have hh:hashStr w k = (strKind prog w).hash k:=rfl
 rw [hh]
 unfold setAddHashed setAddHashedIn
 refine wpAny_holding (wpAny_bind (wpAny_setState_of ho hd hf ?_))
 dsimp only
 rw [byScan_of (knd:=strKind prog w) hsc hb hel]
 simp only [↓reduceIte]
 unfold setAddByScan
 refine wpAny_bind (wpAny_bind (wpAny_rule (wpAny_bind (wpAny_setScan_of (knd:=strKind prog w) hkey ho hd hf hel ?_))))
 cases hr:List.findIdx? (fun e=>(strKind prog w).is k e.2) es.toList with
 | some j =>
  obtain ⟨hj,hpj,_⟩:=List.findIdx?_eq_some_iff_getElem.mp hr
  have hk:k ∈ ks:=(mem_keys hel hp k).mpr ⟨es.toList[j],List.getElem_mem hj,hpj⟩
  have:=h s.heap false (Heap.SameBut.refl a s.heap) (by rw [if_pos hk]; exact ⟨o,es,ep,t,ho,hex,hd,hel,hp,hb,hf,hled,hpl⟩)
  exact wpAny_pure (wpAny_pure this)
 | none =>
  have hk:k ∉ ks:=fun z=>by
   obtain ⟨e,he,q⟩:=(mem_keys hel hp k).mp z
   have:=List.findIdx?_eq_none_iff.mp hr e he
   rw [q] at this; cases this
  rw [if_neg hk] at h
  have hgw:∀ (b:Bool) {s₁:Shared} {Q':Unit -> Shared -> Prop},Q' () s₁ -> wpAny (model prog w) A (match b with | true=>rule "set.scan.the-table-gave-way" | false=>pure ()) Q' E s₁:=by
   intro b s₁ Q' hq
   cases b
   ·exact wpAny_pure hq
   ·exact wpAny_rule hq
  have hperm:=layNew_perm t es ((strKind prog w).hash k) (.str k tk)
  have hfits:=layNew_fits t es ((strKind prog w).hash k) (.str k tk)
  have hmk:=layNew_marks t es ((strKind prog w).hash k) (.str k tk)
  dsimp only
  generalize layNew t es ((strKind prog w).hash k) (.str k tk) = L at hperm hfits hmk ⊢
  obtain ⟨es1,t1,wd,gave⟩:=L
  dsimp only at hperm hfits hmk ⊢
  rw [Array.toList_push] at hperm
  have hsz:es1.size = es.size + 1:=by rw [← Array.length_toList,hperm.length_eq,List.length_append,Array.length_toList]; rfl
  have hel1:ElemsOf (strKind prog w) es1.toList:=(hel.push hkey hsc).perm hperm
  have hp1:(es1.toList.map keyOf).Perm (ks ++ [k]):=by
   refine (hperm.map keyOf).trans ?_
   rw [List.map_append]
   exact hp.append (List.Perm.refl _)
  have hb1:es1.size < scanBound:=by omega
  refine wpAny_bind (hgw _ ?_)
  have tail:∀ (t2:SetTable),t2.fits es1.size = true -> t2.led = t.led -> t2.plain = false -> wpAny (model prog w) A (do
    storeSet a es1 t2
    if (!wd && t2.tooFull) = true then do
      (match (relayAll t2 es1 (SetTable.grown es1.size)).2.2 with | true=>rule "set.scan.the-table-gave-way" | false=>pure ())
      storeSet a (relayAll t2 es1 (SetTable.grown es1.size)).1 (relayAll t2 es1 (SetTable.grown es1.size)).2.1
      pure (some true)
     else pure (some true)) (fun r s'=>r = some true /\ Q true s') E s:=by
   intro t2 hf2 hl2 hp2
   refine wpAny_bind (wpAny_storeSet_of ho hd ?_ (fits_of_scanBound hb1))
   have sb1:=Heap.SameBut.update s.heap a (Obj.putSet es1 t2)
   have ho1:(s.heap.update a (Obj.putSet es1 t2)).get? a = some { o with data:=.set es1 (ep + 1) t2 }:=by
    have:=Heap.get?_update_self (Obj.putSet es1 t2) ho (by rw [putSet_of es1 t2 hd]; rfl)
    rw [putSet_of es1 t2 hd] at this; exact this
   split
   ·have hpR:=relayAll_perm t2 es1 (SetTable.grown es1.size)
    have hfR:=relayAll_fits t2 es1 (SetTable.grown es1.size)
    have hmR:=relayAll_marks t2 es1 (SetTable.grown es1.size)
    generalize relayAll t2 es1 (SetTable.grown es1.size) = Rl at hpR hfR hmR ⊢
    obtain ⟨es2,t3,gv⟩:=Rl
    dsimp only at hpR hfR hmR ⊢
    have hsz2:es2.size = es1.size:=by rw [← Array.length_toList,hpR.length_eq,Array.length_toList]
    refine wpAny_bind (hgw _ (wpAny_bind (wpAny_storeSet_of ho1 rfl ?_ (fits_of_scanBound (by omega)))))
    have ho2:((s.heap.update a (Obj.putSet es1 t2)).update a (Obj.putSet es2 t3)).get? a = some { o with data:=.set es2 (ep + 1 + 1) t3 }:=by
     have:=Heap.get?_update_self (Obj.putSet es2 t3) ho1 (by rw [putSet_of es2 t3 rfl]; rfl)
     rw [putSet_of es2 t3 rfl] at this; exact this
    exact wpAny_pure ⟨rfl,h _ true (sb1.trans (Heap.SameBut.update _ a _)) ⟨_,es2,_,t3,ho2,hex,rfl,hel1.perm hpR,((hpR.map keyOf)).trans hp1,by omega,hfR,hmR.1.trans (hl2.trans hled),fun _=>hmR.2 hp2⟩⟩
   ·exact wpAny_pure ⟨rfl,h _ true sb1 ⟨_,es1,_,t2,ho1,hex,rfl,hel1,hp1,hb1,hf2,hl2.trans hled,fun _=>hp2⟩⟩
  split
  ·refine wpAny_bind ?_
   rw [hashByValue_scannable 8 hsc]
   refine wpAny_pure ?_
   refine wpAny_mono (tail { t1 with plain:=false } (SetTable.fits_plain_off hfits) hmk.1 rfl) (fun r s' q=>?_) fun _ _ z=>z
   obtain ⟨rfl,q⟩:=q
   exact wpAny_pure q
  ·rename_i hpf
   refine wpAny_bind (wpAny_pure ?_)
   simp only [↓reduceIte]
   refine wpAny_mono (tail t1 hfits hmk.1 (by simpa using hpf)) (fun r s' q=>?_) fun _ _ z=>z
   obtain ⟨rfl,q⟩:=q
   exact wpAny_pure q
def step (ks:List Str) (k:Str):List Str:=if k ∈ ks then ks else ks ++ [k]
def uniq (xs:List Str):List Str:=xs.foldl step []
theorem uniq_snoc (xs:List Str) (k:Str):uniq (xs ++ [k]) = step (uniq xs) k:=by unfold uniq; rw [List.foldl_append]; rfl
theorem step_len (ks:List Str) (k:Str):(step ks k).length <= ks.length + 1:=by unfold step; split <;> simp
theorem uniq_len:∀ (n:Nat) (xs:List Str),xs.length = n -> (uniq xs).length <= n
 | 0,xs,h=>by rw [List.eq_nil_of_length_eq_zero h]; exact Nat.le_refl _
 | n + 1,xs,h=>by
  have hne:xs ≠ []:=fun z=>by rw [z] at h; cases h
  rw [← List.dropLast_concat_getLast hne,uniq_snoc]
  have:=uniq_len n xs.dropLast (by rw [List.length_dropLast]; omega)
  have:=step_len (uniq xs.dropLast) (xs.getLast hne)
  omega
theorem uniq_take {xs:List Str} {i:Nat} {k:Str} (h:xs[i]? = some k):uniq (xs.take (i + 1)) = if k ∈ uniq (xs.take i) then uniq (xs.take i) else uniq (xs.take i) ++ [k]:=by
 have e:xs.take (i + 1) = xs.take i ++ [k]:=by rw [List.take_add_one,h]; rfl
 rw [e,uniq_snoc]; rfl
end
section
variable {prog:Program} {w:World} {A:Around} {R:Result -> Shared -> Prop} {I:Addr} {fp wr:List Addr} {G:Array GenState -> Array GenState -> Prop} {n:Nat} {P:Nat -> Value -> Prop} {St:Nat -> Shared -> Prop}
theorem tx_loop (W:WalksS prog w A.in1 I fp wr G n P St) (S:Addr) (hSf:S ∉ fp) (xs:List Str) (hn:xs.length = n) (hval:∀ i v,P i v -> ∃ k t,xs[i]? = some k /\ v = .str k t) (hb:n + 1 < scanBound) :
  ∀ (m i:Nat) (s:Shared),n - i = m -> i <= n -> St i s -> TxSet prog w s.heap S (uniq (xs.take i)) ->
   (∀ s',Moved (S :: wr) G s s' -> TxSet prog w s'.heap S (uniq xs) -> R (.ok (.ret .none)) s') -> codeAny (model prog w) A (.builtin "set.update.loop" ⟨[.ref S,.ref I],[]⟩) R s:=by
 have hSw:S ∉ wr:=fun h=>hSf (W.sub _ h)
 have hsub:∀ b ∈ wr,b ∈ S :: wr:=fun b hb=>List.mem_cons_of_mem _ hb
 intro m
 induction m with
 | zero =>
  intro i s hk hi hst hS hR
  have hin:i = n:=by omega
  subst hin
  refine codeAny_builtin PyProof.Rows.F.entry_set_update_loop ?_
  rw [Around.under_plainId PyProof.Rows.F.plain_set_update_loop _]
  show wpAny _ A.in1 (pyNext (.ref I) >>= _) _ _ s
  refine wpAny_bind (W.done s _ _ hst fun s' hm=>?_)
  show wpAny _ A.in1 (ret Value.none) _ _ s'
  rw [← hn,List.take_length] at hS
  exact wpAny_pure (hR s' (hm.mono hsub) (hS.at fun o e=>hm.heap S _ hSw e))
 | succ m ih =>
  intro i s hk hi hst hS hR
  have hlt:i < n:=by omega
  refine codeAny_builtin PyProof.Rows.F.entry_set_update_loop ?_
  rw [Around.under_plainId PyProof.Rows.F.plain_set_update_loop _]
  show wpAny _ A.in1 (pyNext (.ref I) >>= _) _ _ s
  refine wpAny_bind (W.item i s _ _ hlt hst fun v s' hP hst' hm=>?_)
  obtain ⟨k,t,hxk,rfl⟩:=hval i v hP
  have hS':=hS.at (h':=s'.heap) fun o e=>hm.heap S _ hSw e
  show wpAny _ A.in1 (holding [Value.str k t] (setAdd S (.str k t)) >>= _) _ _ s'
  refine wpAny_bind (wpAny_holding ?_)
  unfold setAdd
  refine wpAny_holding ?_
  refine wpAny_bind ((strKind prog w).pyHash (k:=k) (by show Value.isStrOf k (.str k t) = true; simp [Value.isStrOf]) ?_)
  have hl:=uniq_len _ (xs.take i) rfl
  rw [List.length_take] at hl
  refine tx_add (s:={ s' with toks:=s'.toks + 1 }) hS' (by omega) fun h' r hsb hS2=>?_
  rw [← uniq_take hxk] at hS2
  refine wpAny_pure ⟨plainId_quiet PyProof.Rows.F.plain_set_update_loop _,ih (i + 1) _ (by omega) hlt (W.frame _ s' _ _ hst' (Nat.le_succ _) fun b hb o e=>?_) hS2 fun s'' hm'' hS''=>?_⟩
  ·rw [hsb.2 b (fun h:b = S=>hSf (by rw [← h]; exact hb))]; exact e
  ·refine hR s'' (Moved.trans W.gtrans ((hm.mono hsub).then_heap (Nat.le_succ _) fun b o hb e=>?_) hm'') hS''
   rw [hsb.2 b (fun h:b = S=>hb (by rw [h]; exact List.mem_cons_self))]; exact e
end
section
variable {prog:Program} {w:World} {A:Around} {E:Value -> Shared -> Prop} {s:Shared}
def z0 (w:World):Obj:={ cls:=.type "set",dict:=none,data:=.set #[] 0 (.fresh 0 0 (!(w.params.followText "set-order"))) }
theorem tx_fresh {h:Heap} {a:Addr} {xs:List Str} (e:h.get? a = some (z0 w)):TxSet prog w h a (uniq (xs.take 0)) :=
 ⟨_,#[],0,_,e,⟨rfl,rfl,rfl⟩,rfl,fun _ z=>by simp at z,List.Perm.refl _,by decide,by rfl,rfl,fun z=>absurd rfl z⟩
theorem set_new (a:Value) {Q₁:Value -> Shared -> Prop} (h:Q₁ (.ref s.heap.objs.size) { s with heap:=s.heap.push (z0 w) }) :
  codeAny (model prog w) A (.call (.builtin "set.__new__") ⟨[.type "set",a],[]⟩) (wants Q₁ E) s:=by
 refine codeAny_of_tree ?_
 show wpAny _ A.in1 (do checkBuiltinCall "set.__new__" ⟨[.type "set",a],[]⟩; again (.builtin "set.__new__" ⟨[.type "set",a],[]⟩)) _ _ s
 refine wpAny_bind (wpAny_of_eq (F.newCall_set_1 a) (wpAny_pure ⟨plainId_quiet F.plain_set_new _,codeAny_builtin F.entry_set_new ?_⟩))
 rw [Around.under_plainId F.plain_set_new _]
 unfold Builtin.«set.__new__» Builtin.Frozenset.newClass
 have hsub:=sub_set_self
 obtain ⟨hp,g,d,tk,os⟩:=s
 dsimp only
 wp_walk
 refine wpAny_askSetting (wpAny_pure ?_)
 dsimp only
 simp only [newObj]
 refine wpAny_bind (wpAny_alloc (wpAny_pure ?_))
 exact wpAny_pure h
theorem sub_list_set:isSubtype (.type "list") (.type "set") = pure false:=by rw [isSubtype_type]; kernel_rfl
theorem sub_list_frozenset:isSubtype (.type "list") (.type "frozenset") = pure false:=by rw [isSubtype_type]; kernel_rfl
theorem sub_tuple_set:isSubtype (.type "tuple") (.type "set") = pure false:=by rw [isSubtype_type]; kernel_rfl
theorem sub_tuple_frozenset:isSubtype (.type "tuple") (.type "frozenset") = pure false:=by rw [isSubtype_type]; kernel_rfl
end
end AxS
namespace AxS
open PySem PySem.Spec PyProof.Rows
section
variable {M:Model} {A:Around} {E:Value -> Shared -> Prop} {s:Shared}
theorem wpAny_choose {src:Source} {n:Nat} {Q:Nat -> Shared -> Prop} (hn:n ≠ 0) (h:∀ i,i < n -> Q i { s with drawn:=s.drawn.bump src }):wpAny M A (choose src n) Q E s :=
 fun Γ p _=>⟨hn,h _ (Nat.mod_lt _ (Nat.pos_of_ne_zero hn))⟩
theorem perm_erase {α:Type} {xs:List α} {i:Nat} {x:α} (h:xs[i]? = some x):(x :: xs.eraseIdx i).Perm xs:=by
 induction xs generalizing i with
 | nil=>cases h
 | cons y ys ih =>
  cases i with
  | zero =>
   have h:y = x:=Option.some.inj h
   subst h
   exact List.Perm.refl _
  | succ i =>
   have h:ys[i]? = some x:=by simpa using h
   show (x :: y :: ys.eraseIdx i).Perm (y :: ys)
   exact (List.Perm.swap y x _).trans (List.Perm.cons y (ih h))
theorem qH {α:Type}:∀ (n:Nat) (xs:List α) (s:Shared) {Q:List α -> Shared -> Prop},xs.length <= n -> (∀ ys d,ys.Perm xs -> Q ys { s with drawn:=d }) -> wpAny M A (drawOrder n xs) Q E s
 | 0,xs,s,Q,hl,h=>by
  have e:xs = []:=List.eq_nil_of_length_eq_zero (by omega)
  subst e
  exact wpAny_pure (h [] s.drawn (List.Perm.refl _))
 | n + 1,[],s,Q,hl,h=>wpAny_pure (h [] s.drawn (List.Perm.refl _))
 | n + 1,x :: xs,s,Q,hl,h=>by
  refine wpAny_bind (wpAny_choose (by simp) fun i hi=>?_)
  have hx:(x :: xs)[i]? = some ((x :: xs)[i]):=List.getElem?_eq_getElem hi
  have hp:=perm_erase hx
  show wpAny M A (match (x :: xs)[i]? with | some x_1=>_ | none=>_) Q E _
  rw [hx]
  refine wpAny_bind (qH n _ _ (by rw [List.length_eraseIdx_of_lt hi]; simp at hl ⊢; omega) fun ys d hy=>?_)
  exact wpAny_pure (h _ d ((List.Perm.cons _ hy).trans hp))
theorem pick_go {α:Type} (next:Nat -> Nat):∀ (fuel k:Nat) (left:List α) (out:Array α),left.length = fuel -> (pickOrder.go next fuel k left out).toList.Perm (out.toList ++ left)
 | 0,k,left,out,h=>by
  rw [List.eq_nil_of_length_eq_zero h,List.append_nil]
  exact List.Perm.refl _
 | fuel + 1,k,left,out,h=>by
  unfold pickOrder.go
  have hlt:next k % left.length < left.length:=Nat.mod_lt _ (by omega)
  have hx:left[next k % left.length]? = some (left[next k % left.length]):=List.getElem?_eq_getElem hlt
  rw [hx]
  refine (pick_go next fuel (k + 1) _ _ (by rw [List.length_eraseIdx_of_lt hlt]; omega)).trans ?_
  rw [Array.toList_push,List.append_assoc]
  exact List.Perm.append_left _ (perm_erase hx)
theorem pick_perm {α:Type} (next:Nat -> Nat) (xs:Array α):(pickOrder next xs).toList.Perm xs.toList:=by
 have:=pick_go next xs.size 0 xs.toList #[] (by simp)
 simpa [pickOrder] using this
end
section
variable {prog:Program} {w:World} {A:Around} {E:Value -> Shared -> Prop} {s:Shared}
def byText (w:World):Bool:=w.params.followText "set-order"
theorem wpAny_setDrawn {a:Addr} {o:Obj} {es:Array (Int × Value)} {ep:Nat} {t:SetTable} {Q:Bool -> Shared -> Prop} (ho:s.heap.get? a = some o) (hd:o.data = .set es ep t) (hf:t.fits es.size = true)
  (h:Q (!byText w && (!t.plain && decide (es.size > 1))) s):wpAny (model prog w) A (setDrawn a) Q E s:=by
 unfold setDrawn setsByText
 refine wpAny_bind (wpAny_setState_of ho hd hf ?_)
 refine wpAny_bind (wpAny_bind (wpAny_askSetting (wpAny_pure ?_)))
 exact wpAny_pure h
theorem entry_iter:entryFor table "set.__iter__" = some Builtin.«frozenset.__iter__» :=
 entryFor_alias (id':="frozenset.__iter__") (by kernel_rfl) (by first | rfl | decide +kernel | (unfold String.splitOn; simp +decide [String.splitOnAux])) (by decide +kernel) (by kernel_rfl)
theorem owner_si:Manifest.owners.lookup (String.ofList ['r','o','t','a','r','e','t','i','_','t','e','s'].reverse) = some Manifest.sig_set_iterator:=by kernel_rfl
theorem slot_next:Slot "set_iterator" "__next__" "set_iterator.__next__" :=
 .of (owner:="set_iterator") (n:="__next__") (by rw [typeLookup_type,builtinLookup_eq_fast]; kernel_rfl) (by decide +kernel) (by decide +kernel) (by decide +kernel)
  (by first | exact .inl (by decide +kernel) | exact .inr (by decide +kernel)) (by rw [isSubtype_type]; kernel_rfl)
theorem entry_next:entryFor table "set_iterator.__next__" = some Builtin.«set_iterator.__next__»:=entryFor_of_tree (by kernel_rfl)
theorem args_next (a:Value):argsOk "set_iterator.__next__" ⟨[a],[]⟩:=by
 unfold argsOk; rw [signature?_of (id:="set_iterator.__next__") (n:=['_','_','t','x','e','n','_','_']) (o:=['r','o','t','a','r','e','t','i','_','t','e','s']) (by kernel_rfl) owner_si]; kernel_rfl
theorem slot_itself:Slot "set_iterator" "__iter__" "set_iterator.__iter__" :=
 .of (owner:="set_iterator") (n:="__iter__") (by rw [typeLookup_type,builtinLookup_eq_fast]; kernel_rfl) (by decide +kernel) (by decide +kernel) (by decide +kernel)
  (by first | exact .inl (by decide +kernel) | exact .inr (by decide +kernel)) (by rw [isSubtype_type]; kernel_rfl)
theorem args_itself (a:Value):argsOk "set_iterator.__iter__" ⟨[a],[]⟩:=by
 unfold argsOk; rw [signature?_of (id:="set_iterator.__iter__") (n:=['_','_','r','e','t','i','_','_']) (o:=['r','o','t','a','r','e','t','i','_','t','e','s']) (by kernel_rfl) owner_si]; kernel_rfl
theorem entry_itself:entryFor table "set_iterator.__iter__" = some Builtin.«dict_keyiterator.__iter__» :=
 entryFor_alias (id':="dict_keyiterator.__iter__") (by kernel_rfl) (by first | rfl | decide +kernel | (unfold String.splitOn; simp +decide [String.splitOnAux])) (by decide +kernel) (by kernel_rfl)
end
end AxS
namespace AxS
open PySem PySem.Spec PyProof.Rows
section
variable {prog:Program} {w:World} {A:Around} {E:Value -> Shared -> Prop} {s:Shared}
def itO (first:Value) (i:Int) (a:Addr) (n ep:Nat):Obj:={ cls:=.type "set_iterator",data:=.fields #[first,rawInt i,.ref a,rawInt n,rawInt ep] }
theorem iter_set {a:Addr} {o:Obj} {es:Array (Int × Value)} {ep:Nat} {t:SetTable} {Q:Value -> Shared -> Prop} (ho:s.heap.get? a = some o) (hx:o.ExactSet) (hd:o.data = .set es ep t) (hf:t.fits es.size = true) (hz:es.size <= 1000)
  (h1:(!byText w && (!t.plain && decide (es.size > 1))) = false -> Q (.ref s.heap.objs.size) { s with heap:=s.heap.push (itO (rawInt 0) 0 a es.size ep) })
  (h2:(!byText w && (!t.plain && decide (es.size > 1))) = true -> ∀ (ps:List Nat) d tk,ps.Perm (List.range es.size) -> Q (.ref (s.heap.objs.size + 1)) { s with heap:=(s.heap.push { cls:=.type "tuple",data:=.seq (ps.map fun i=>rawInt (i:Nat)).toArray }).push (itO (.ref s.heap.objs.size) 0 a es.size ep),drawn:=d,toks:=tk }) :
  wpAny (model prog w) A (pyIter (.ref a)) Q E s:=by
 have hT:s.TypeIs (.ref a) "set":=⟨o,ho,hx.1⟩
 refine wpAny_pyIter_slot hT PySem.F.slot_set_iter (wpAny_call_entry PySem.F.slot_set_iter hT entry_iter ?_ (PySem.F.args_set_iter_1 _))
 unfold Builtin.«frozenset.__iter__»
 refine wpAny_bind (m:=Builtin.Frozenset.slot0 _ _) (wpAny_of_eq (a:=a) rfl ?_)
 unfold Builtin.Frozenset.sizeOf
 refine wpAny_bind (wpAny_bind (wpAny_setEntries_of ho hd hf (wpAny_pure ?_)))
 refine wpAny_bind (wpAny_setDrawn ho hd hf ?_)
 cases q:(!byText w && (!t.plain && decide (es.size > 1))) with
 | false =>
  rw [if_neg (by decide)]
  refine wpAny_bind (wpAny_pure (wpAny_bind (wpAny_setEpoch_of ho hd hf ?_)))
  simp only [newFields]
  refine wpAny_bind (wpAny_newObj_type ?_)
  exact wpAny_pure ⟨_,rfl,"set_iterator",_,⟨_,Heap.get?_push_size _ rfl,rfl⟩,slot_next.lookup,h1 q⟩
 | true =>
  rw [if_pos rfl]
  refine wpAny_bind (qH es.size (List.range es.size) s (by rw [List.length_range]; exact Nat.le_refl _) fun ps d hp=>?_)
  have pl:ps.length = es.size:=by rw [hp.length_eq,List.length_range]
  simp only [newTuple]
  refine wpAny_bind (wpAny_newObj_type ?_ ?_)
  ·have ho':(s.heap.push { cls:=.type "tuple",data:=.seq (ps.map fun i=>rawInt (i:Nat)).toArray }).get? a = some o:=Heap.get?_push_of_some _ ho
   refine wpAny_bind (wpAny_setEpoch_of (s:={ s with heap:=s.heap.push { cls:=.type "tuple",data:=.seq (ps.map fun i=>rawInt (i:Nat)).toArray },drawn:=d }) ho' hd hf ?_)
   simp only [newFields]
   refine wpAny_bind (wpAny_newObj_type ?_)
   have e:(s.heap.push { cls:=.type "tuple",data:=.seq (ps.map fun i=>rawInt (i:Nat)).toArray }).objs.size = s.heap.objs.size + 1:=Heap.size_push _ _
   refine wpAny_pure ⟨_,rfl,"set_iterator",_,⟨_,Heap.get?_push_size _ rfl,rfl⟩,slot_next.lookup,?_⟩
   have:=h2 q ps d s.toks hp
   rw [← e] at this
   exact this
  ·show (ps.map fun i=>rawInt (i:Nat)).toArray.size <= sizeLine
   rw [List.size_toArray,List.length_map,pl,sizeLine_eq]
   omega
theorem xR {it:Addr} {f:Value} {i:Int} {a:Addr} {n ep:Nat} (h:s.heap.get? it = some (itO f i a n ep)):s.TypeIs (.ref it) "set_iterator":=⟨_,h,rfl⟩
theorem next_slot {it a:Addr} {o:Obj} {es:Array (Int × Value)} {ep:Nat} {t:SetTable} {slot i slot':Nat} {x:Value} {Q:Option Value -> Shared -> Prop} (hit:s.heap.get? it = some (itO (rawInt slot) i a es.size ep)) (hne:a ≠ it) (ho:s.heap.get? a = some o) (hd:o.data = .set es ep t) (hf:t.fits es.size = true)
  (hn:∀ (A:Around) (E:Value -> Shared -> Prop) (Q:Option (Value × Nat) -> Shared -> Prop),Q (some (x,slot')) s -> wpAny (model prog w) A (setNext a slot i ep) Q E s)
  (h:∀ h',h'.get? it = some (itO (rawInt slot') (i + 1) a es.size ep) -> Heap.SameBut it s.heap h' -> Q (some x) { s with heap:=h' }):wpAny (model prog w) A (pyNext (.ref it)) Q E s:=by
 unfold pyNext
 refine wpAny_bind (wpAny_attempt (wpAny_callSpecial?_slot (name:=Str.ofString "__next__") (xR hit) slot_next
  (wpAny_call_entry slot_next (xR hit) entry_next ?_ (args_next _))))
 unfold Builtin.«set_iterator.__next__»
 refine wpAny_bind (wpAny_of_eq (a:=(Value.ref it,[])) rfl ?_)
 refine wpAny_bind (wpAny_fieldsOf hit rfl ?_)
 show wpAny _ _ (setEntries a >>= _) _ _ s
 refine wpAny_bind (wpAny_setEntries_of ho hd hf ?_)
 have e1:(((es.size:Nat):Int) != ((es.size:Nat):Int)) = false:=by simp
 rw [if_neg (by rw [e1]; decide)]
 show wpAny _ _ (setNext a slot i ep >>= _) _ _ s
 refine wpAny_bind (hn _ _ _ ?_)
 show wpAny _ _ (setField (.ref it) 0 (rawInt slot') >>= _) _ _ s
 refine wpAny_bind (wpAny_setField hit rfl (by simp) ?_)
 have h1:=Heap.get?_update_self (Obj.mapFields (·.setIfInBounds 0 (rawInt (slot':Nat)))) hit rfl
 refine wpAny_bind (wpAny_setField h1 rfl (by simp) ?_)
 have h2:=Heap.get?_update_self (Obj.mapFields (·.setIfInBounds 1 (rawInt ((i:Int) + 1)))) h1 rfl
 exact wpAny_pure ⟨x,rfl,wpAny_pure (h _ h2 ((Heap.SameBut.update ..).trans (Heap.SameBut.update ..)))⟩
theorem jL {it a:Addr} {o:Obj} {es:Array (Int × Value)} {ep:Nat} {t:SetTable} {slot i:Nat} {Q:Option Value -> Shared -> Prop} (hh:A.handled = none) (hit:s.heap.get? it = some (itO (rawInt slot) i a es.size ep)) (ho:s.heap.get? a = some o) (hd:o.data = .set es ep t) (hf:t.fits es.size = true)
  (hn:∀ (A:Around) (E:Value -> Shared -> Prop) (Q:Option (Value × Nat) -> Shared -> Prop),Q none s -> wpAny (model prog w) A (setNext a slot i ep) Q E s)
  (h:∀ h',Heap.ExtBut it s.heap h' -> Q none { s with heap:=h' }):wpAny (model prog w) A (pyNext (.ref it)) Q E s:=by
 unfold pyNext
 refine wpAny_bind (wpAny_attempt (wpAny_callSpecial?_slot (name:=Str.ofString "__next__") (xR hit) slot_next
  (wpAny_call_entry slot_next (xR hit) entry_next ?_ (args_next _))))
 unfold Builtin.«set_iterator.__next__»
 refine wpAny_bind (wpAny_of_eq (a:=(Value.ref it,[])) rfl ?_)
 refine wpAny_bind (wpAny_fieldsOf hit rfl ?_)
 show wpAny _ _ (setEntries a >>= _) _ _ s
 refine wpAny_bind (wpAny_setEntries_of ho hd hf ?_)
 have e1:(((es.size:Nat):Int) != ((es.size:Nat):Int)) = false:=by simp
 rw [if_neg (by rw [e1]; decide)]
 show wpAny _ _ (setNext a slot i ep >>= _) _ _ s
 refine wpAny_bind (hn _ _ _ ?_)
 show wpAny _ _ (setField (.ref it) 2 .none >>= _) _ _ s
 refine wpAny_bind (wpAny_setField hit rfl (by simp) ?_)
 refine wpAny_bind ?_
 simp only [newExc,newTuple]
 refine wpAny_bind (wpAny_newObj_type ?_ (by size_fits))
 refine wpAny_bind (m:=firstArgMember _ _) (wpAny_of_eq (a:=Value.none) (by first | rfl | (simp only [firstArgMember]; rfl)) ?_)
 refine wpAny_newObj_type ?_ (by size_fits)
 simp only [raiseNew]
 refine wpAny_bind (wpAny_handled ?_)
 first | rw [show A.in1.handled = none from hh] | rw [hh]
 refine wpAny_bind (wpAny_pure (wpAny_throw ?_))
 refine wpAny_bind (wpAny_isInstance (T:="StopIteration") (b:=true) ⟨_,Heap.get?_push_size _ rfl,rfl⟩ isSubtype_stop ?_)
 refine wpAny_pure (h _ ?_)
 refine ((Heap.ExtBut.push ?_ _).push _)
 exact (Heap.SameBut.update ..).extBut
def tupO (ps:List Nat):Obj:={ cls:=.type "tuple",data:=.seq (ps.map fun i=>rawInt (i:Nat)).toArray }
theorem next_drawn {it a u:Addr} {o:Obj} {es:Array (Int × Value)} {ep:Nat} {t:SetTable} {i p:Nat} {ps:List Nat} {e:Int × Value} {Q:Option Value -> Shared -> Prop} (hit:s.heap.get? it = some (itO (.ref u) i a es.size ep)) (hu:s.heap.get? u = some (tupO ps)) (ho:s.heap.get? a = some o) (hd:o.data = .set es ep t) (hf:t.fits es.size = true)
  (hp:ps[i]? = some p) (he:es[p]? = some e) (h:∀ h',h'.get? it = some (itO (.ref u) (i + 1) a es.size ep) -> Heap.SameBut it s.heap h' -> Q (some e.2) { s with heap:=h' }):wpAny (model prog w) A (pyNext (.ref it)) Q E s:=by
 unfold pyNext
 refine wpAny_bind (wpAny_attempt (wpAny_callSpecial?_slot (name:=Str.ofString "__next__") (xR hit) slot_next
  (wpAny_call_entry slot_next (xR hit) entry_next ?_ (args_next _))))
 unfold Builtin.«set_iterator.__next__»
 refine wpAny_bind (wpAny_of_eq (a:=(Value.ref it,[])) rfl ?_)
 refine wpAny_bind (wpAny_fieldsOf hit rfl ?_)
 show wpAny _ _ (setEntries a >>= _) _ _ s
 refine wpAny_bind (wpAny_setEntries_of ho hd hf ?_)
 have e1:(((es.size:Nat):Int) != ((es.size:Nat):Int)) = false:=by simp
 rw [if_neg (by rw [e1]; decide)]
 show wpAny _ _ (seqItems? (.ref u) >>= _) _ _ s
 refine wpAny_bind (wpAny_seqItems hu rfl ?_)
 have hpi:(ps.map fun i=>rawInt ((i:Nat):Int)).toArray[i]? = some (rawInt (p:Nat)):=by
  rw [List.getElem?_toArray,List.getElem?_map,hp]; rfl
 show wpAny _ _ (match (ps.map fun i=>rawInt ((i:Nat):Int)).toArray[i]? with | some (.int place _)=>_ | some _=>_ | none=>_) _ _ s
 rw [hpi]
 show wpAny _ _ (setNextDrawn a p ep >>= _) _ _ s
 unfold setNextDrawn
 refine wpAny_bind (wpAny_bind (wpAny_setState_of ho hd hf ?_))
 have e2:(ep != ep) = false:=by simp
 dsimp only
 rw [if_neg (by rw [e2]; decide)]
 rw [he]
 refine wpAny_pure ?_
 show wpAny _ _ (setField (.ref it) 1 (rawInt ((i:Int) + 1)) >>= _) _ _ s
 refine wpAny_bind (wpAny_setField hit rfl (by simp) ?_)
 have h2:=Heap.get?_update_self (Obj.mapFields (·.setIfInBounds 1 (rawInt ((i:Int) + 1)))) hit rfl
 exact wpAny_pure ⟨e.2,rfl,wpAny_pure (h _ h2 (Heap.SameBut.update ..))⟩
theorem next_drawn_end {it a u:Addr} {o:Obj} {es:Array (Int × Value)} {ep:Nat} {t:SetTable} {i:Nat} {ps:List Nat} {Q:Option Value -> Shared -> Prop} (hh:A.handled = none) (hit:s.heap.get? it = some (itO (.ref u) i a es.size ep)) (hu:s.heap.get? u = some (tupO ps)) (ho:s.heap.get? a = some o) (hd:o.data = .set es ep t) (hf:t.fits es.size = true)
  (hp:ps[i]? = none) (h:∀ h',Heap.ExtBut it s.heap h' -> Q none { s with heap:=h' }):wpAny (model prog w) A (pyNext (.ref it)) Q E s:=by
 unfold pyNext
 refine wpAny_bind (wpAny_attempt (wpAny_callSpecial?_slot (name:=Str.ofString "__next__") (xR hit) slot_next
  (wpAny_call_entry slot_next (xR hit) entry_next ?_ (args_next _))))
 unfold Builtin.«set_iterator.__next__»
 refine wpAny_bind (wpAny_of_eq (a:=(Value.ref it,[])) rfl ?_)
 refine wpAny_bind (wpAny_fieldsOf hit rfl ?_)
 show wpAny _ _ (setEntries a >>= _) _ _ s
 refine wpAny_bind (wpAny_setEntries_of ho hd hf ?_)
 have e1:(((es.size:Nat):Int) != ((es.size:Nat):Int)) = false:=by simp
 rw [if_neg (by rw [e1]; decide)]
 show wpAny _ _ (seqItems? (.ref u) >>= _) _ _ s
 refine wpAny_bind (wpAny_seqItems hu rfl ?_)
 have hpi:(ps.map fun i=>rawInt ((i:Nat):Int)).toArray[i]? = none:=by
  rw [List.getElem?_toArray,List.getElem?_map,hp]; rfl
 show wpAny _ _ (match (ps.map fun i=>rawInt ((i:Nat):Int)).toArray[i]? with | some (.int place _)=>_ | some _=>_ | none=>_) _ _ s
 rw [hpi]
 show wpAny _ _ (setField (.ref it) 0 (rawInt 0) >>= _) _ _ s
 refine wpAny_bind (wpAny_setField hit rfl (by simp) ?_)
 have h1:=Heap.get?_update_self (Obj.mapFields (·.setIfInBounds 0 (rawInt 0))) hit rfl
 refine wpAny_bind (wpAny_setField h1 rfl (by simp) ?_)
 refine wpAny_bind ?_
 simp only [newExc,newTuple]
 refine wpAny_bind (wpAny_newObj_type ?_ (by size_fits))
 refine wpAny_bind (m:=firstArgMember _ _) (wpAny_of_eq (a:=Value.none) (by first | rfl | (simp only [firstArgMember]; rfl)) ?_)
 refine wpAny_newObj_type ?_ (by size_fits)
 simp only [raiseNew]
 refine wpAny_bind (wpAny_handled ?_)
 first | rw [show A.in1.handled = none from hh] | rw [hh]
 refine wpAny_bind (wpAny_pure (wpAny_throw ?_))
 refine wpAny_bind (wpAny_isInstance (T:="StopIteration") (b:=true) ⟨_,Heap.get?_push_size _ rfl,rfl⟩ isSubtype_stop ?_)
 refine wpAny_pure (h _ ?_)
 refine ((Heap.ExtBut.push ?_ _).push _)
 exact ((Heap.SameBut.update ..).trans (Heap.SameBut.update ..)).extBut
end
end AxS
namespace AxS
open PySem PySem.Spec PyProof.Rows
section
variable {prog:Program} {w:World} {A:Around} {E:Value -> Shared -> Prop} {s:Shared} {a:Addr} {o:Obj} {es:Array (Int × Value)} {ep:Nat} {t:SetTable}
theorem j5 {slot i:Nat} {Q:Option (Value × Nat) -> Shared -> Prop} (hb:byText w = true) (ho:s.heap.get? a = some o) (hd:o.data = .set es ep t) (hf:t.fits es.size = true)
  (h:Q (((pickOrder (w.params.setOrder a ep) es)[i]?).map fun e=>(e.2,slot)) s):wpAny (model prog w) A (setNext a slot i ep) Q E s:=by
 have hb':(Setting.mk (model prog w).prog (model prog w).w.params).params.followText "set-order" = true:=hb
 unfold setNext setsByText
 refine wpAny_bind (wpAny_setState_of ho hd hf ?_)
 refine wpAny_bind (wpAny_bind (wpAny_askSetting (wpAny_pure ?_)))
 dsimp only
 rw [if_pos hb']
 have e2:(ep != ep) = false:=by simp
 rw [if_neg (by rw [e2]; decide)]
 unfold setWalk setsByText
 refine wpAny_bind (wpAny_bind (wpAny_setState_of ho hd hf ?_))
 refine wpAny_bind (wpAny_bind (wpAny_askSetting (wpAny_pure ?_)))
 dsimp only
 rw [if_pos hb']
 refine wpAny_bind (wpAny_askSetting ?_)
 exact wpAny_pure (wpAny_pure h)
theorem setNext_led {slot i:Nat} {Q:Option (Value × Nat) -> Shared -> Prop} (hb:byText w = false) (hl:t.led = true) (h1:es.size <= 1) (ho:s.heap.get? a = some o) (hd:o.data = .set es ep t) (hf:t.fits es.size = true)
  (h:Q (match es[SetTable.below t.place slot]?,t.place[SetTable.below t.place slot]? with | some (_,x),some j=>some (x,j + 1) | _,_=>none) s):wpAny (model prog w) A (setNext a slot i ep) Q E s:=by
 have hb':(Setting.mk (model prog w).prog (model prog w).w.params).params.followText "set-order" = false:=hb
 have hdr:(!t.plain && decide (es.size > 1)) = false:=by rw [decide_eq_false (by omega),Bool.and_false]
 have hml:(!t.led && !es.isEmpty) = false:=by rw [hl]; rfl
 unfold setNext setsByText
 refine wpAny_bind (wpAny_setState_of ho hd hf ?_)
 refine wpAny_bind (wpAny_bind (wpAny_askSetting (wpAny_pure ?_)))
 dsimp only
 rw [if_neg (by rw [hb']; decide)]
 refine wpAny_bind (wpAny_pure ?_)
 show wpAny _ _ (if (!t.plain && decide (es.size > 1)) = true then _ else _) _ _ _
 rw [if_neg (by rw [hdr]; decide)]
 refine wpAny_bind ?_
 show wpAny _ _ (if (!t.led && !es.isEmpty) = true then _ else _) _ _ _
 rw [if_neg (by rw [hml]; decide)]
 exact wpAny_pure (wpAny_pure h)
theorem it_self {it:Addr} {f:Value} {i:Int} {n:Nat} {Q:Value -> Shared -> Prop} (hit:s.heap.get? it = some (itO f i a n ep)) (h:Q (.ref it) s):wpAny (model prog w) A (pyIter (.ref it)) Q E s:=by
 refine wpAny_pyIter_slot (xR hit) slot_itself (wpAny_call_entry slot_itself (xR hit) entry_itself ?_ (args_itself _))
 show wpAny _ _ (ret (.ref it)) _ _ s
 exact wpAny_pure ⟨_,rfl,"set_iterator",_,xR hit,slot_next.lookup,h⟩
theorem walkA (hh:A.handled = none) (I:Addr) (hne:a ≠ I) (hb:byText w = true) (hd:o.data = .set es ep t) (hf:t.fits es.size = true) :
  Walks prog w A I [I,a] [I] es.size (fun i v=>((pickOrder (w.params.setOrder a ep) es).toList.map (·.2))[i]? = some v) (fun i h=>h.get? I = some (itO (rawInt (0:Nat)) (i:Nat) a es.size ep) /\ h.get? a = some o) where
 sub:=fun b hb=>by simp at hb; simp [hb]
 frame:=fun _ _ _ st hk=>⟨hk I (by simp) _ st.1,hk a (by simp) _ st.2⟩
 item:=fun i s Q E hi st hQ=>by
  have hl:(pickOrder (w.params.setOrder a ep) es).toList.length = es.size:=by rw [(pick_perm _ es).length_eq,Array.length_toList]
  have he:(pickOrder (w.params.setOrder a ep) es).toList[i]? = some ((pickOrder (w.params.setOrder a ep) es).toList[i]'(by omega)):=List.getElem?_eq_getElem (by omega)
  generalize (pickOrder (w.params.setOrder a ep) es).toList[i]'(by omega) = e at he
  refine next_slot (slot:=0) (slot':=0) (x:=e.2) st.1 hne st.2 hd hf (fun A E Q q=>j5 hb st.2 hd hf ?_) fun h' h1 sb=>?_
  ·rw [← Array.getElem?_toList,he]; exact q
  ·exact hQ _ h' s.toks (by rw [List.getElem?_map,he]; rfl) ⟨h1,(sb.2 a hne).trans st.2⟩ fun b o' hb e=>(sb.2 b (by simpa using hb)).trans e
 done:=fun s Q E st hQ=>by
  have hl:(pickOrder (w.params.setOrder a ep) es).toList.length = es.size:=by rw [(pick_perm _ es).length_eq,Array.length_toList]
  refine jL (slot:=0) hh st.1 st.2 hd hf (fun A E Q q=>j5 hb st.2 hd hf ?_) fun h' eb=>hQ h' s.toks fun b o' hb e=>eb b o' (by simpa using hb) e
  rw [← Array.getElem?_toList,List.getElem?_eq_none (by omega)]; exact q
 self:=fun _ _ _ _ st h=>it_self st.1 h
theorem walkC (hh:A.handled = none) (I u:Addr) (hne:a ≠ I) (hnu:u ≠ I) (ps:List Nat) (hp:ps.Perm (List.range es.size)) (hd:o.data = .set es ep t) (hf:t.fits es.size = true) :
  Walks prog w A I [I,a,u] [I] es.size (fun i v=>(ps.filterMap fun p=>(es[p]?).map (·.2))[i]? = some v) (fun i h=>h.get? I = some (itO (.ref u) (i:Nat) a es.size ep) /\ h.get? a = some o /\ h.get? u = some (tupO ps)) where
 sub:=fun b hb=>by simp at hb; simp [hb]
 frame:=fun _ _ _ st hk=>⟨hk I (by simp) _ st.1,hk a (by simp) _ st.2.1,hk u (by simp) _ st.2.2⟩
 item:=fun i s Q E hi st hQ=>by
  have hl:ps.length = es.size:=by rw [hp.length_eq,List.length_range]
  have hpi:ps[i]? = some (ps[i]'(by omega)):=List.getElem?_eq_getElem (by omega)
  have hm:ps[i]'(by omega) < es.size:=List.mem_range.mp (hp.mem_iff.mp (List.getElem_mem _))
  have he:es[ps[i]'(by omega)]? = some (es[ps[i]'(by omega)]'hm):=Array.getElem?_eq_getElem hm
  have all:ps.filterMap (fun p=>(es[p]?).map (·.2)) = ps.map fun p=>(((es[p]?).map (·.2)).getD .none):=by
   have:∀ qs:List Nat,(∀ q ∈ qs,q < es.size) -> qs.filterMap (fun p=>(es[p]?).map (·.2)) = qs.map fun p=>(((es[p]?).map (·.2)).getD .none):=fun qs=>by
    induction qs with
    | nil=>intro _; rfl
    | cons q qs ih =>
     intro hq
     have hq0:es[q]? = some (es[q]'(hq q List.mem_cons_self)):=Array.getElem?_eq_getElem _
     rw [List.filterMap_cons,List.map_cons,hq0]
     simp only [Option.map_some,Option.getD_some]
     rw [ih fun z hz=>hq z (List.mem_cons_of_mem _ hz)]
   exact this ps fun q hq=>List.mem_range.mp (hp.mem_iff.mp hq)
  refine next_drawn st.1 st.2.2 st.2.1 hd hf hpi he fun h' h1 sb=>?_
  refine hQ _ h' s.toks ?_ ⟨h1,(sb.2 a hne).trans st.2.1,(sb.2 u hnu).trans st.2.2⟩ fun b o' hb e=>(sb.2 b (by simpa using hb)).trans e
  rw [all,List.getElem?_map,hpi]
  simp only [Option.map_some,he,Option.getD_some]
 done:=fun s Q E st hQ=>by
  have hl:ps.length = es.size:=by rw [hp.length_eq,List.length_range]
  exact next_drawn_end hh st.1 st.2.2 st.2.1 hd hf (List.getElem?_eq_none (by omega)) fun h' eb=>hQ h' s.toks fun b o' hb e=>eb b o' (by simpa using hb) e
 self:=fun _ _ _ _ st h=>it_self st.1 h
theorem below_zero (xs:Array Nat) (h:xs.size <= 1):SetTable.below xs 0 = 0:=by
 unfold SetTable.below
 have h2:xs.size = 0 \/ xs.size = 1:=by omega
 rcases h2 with e | e
 ·rw [e]; rfl
 ·rw [e]
  unfold SetTable.below.go
  rw [if_pos (by decide)]
  show (if xs.getD 0 0 < 0 then _ else _) = _
  rw [if_neg (by omega)]
  rfl
theorem below_one (xs:Array Nat) (h:xs.size = 1):SetTable.below xs (xs.getD 0 0 + 1) = 1:=by
 unfold SetTable.below
 rw [h]
 unfold SetTable.below.go
 rw [if_pos (by decide)]
 show (if xs.getD 0 (xs.getD 0 0 + 1) < xs.getD 0 0 + 1 then _ else _) = _
 have e:∀ d,xs.getD 0 d = xs[0]'(by omega):=fun d=>by
  rw [Array.getD_eq_getD_getElem?,Array.getElem?_eq_getElem (by omega)]; rfl
 rw [e,e,if_pos (by omega)]
 rfl
def slotB (t:SetTable):Nat -> Nat
 | 0=>0
 | _ + 1=>t.place.getD 0 0 + 1
theorem walkB (hh:A.handled = none) (I:Addr) (hne:a ≠ I) (hb:byText w = false) (hl:t.led = true) (h1:es.size <= 1) (hd:o.data = .set es ep t) (hf:t.fits es.size = true) :
  Walks prog w A I [I,a] [I] es.size (fun i v=>(es.toList.map (·.2))[i]? = some v) (fun i h=>h.get? I = some (itO (rawInt ((slotB t i:Nat):Int)) (i:Nat) a es.size ep) /\ h.get? a = some o) where
 sub:=fun b hb=>by simp at hb; simp [hb]
 frame:=fun _ _ _ st hk=>⟨hk I (by simp) _ st.1,hk a (by simp) _ st.2⟩
 item:=fun i s Q E hi st hQ=>by
  have i0:i = 0:=by omega
  subst i0
  have hpz:t.place.size = es.size:=by
   unfold SetTable.fits at hf
   rw [Bool.and_eq_true] at hf
   exact eq_of_beq hf.1
  have he:es[0]? = some (es[0]'hi):=Array.getElem?_eq_getElem hi
  have hp:t.place[0]? = some (t.place[0]'(by omega)):=Array.getElem?_eq_getElem (by omega)
  have hgd:t.place.getD 0 0 = t.place[0]'(by omega):=by rw [Array.getD_eq_getD_getElem?,hp]; rfl
  refine next_slot (slot:=0) (slot':=t.place.getD 0 0 + 1) (x:=(es[0]'hi).2) st.1 hne st.2 hd hf (fun A E Q q=>setNext_led hb hl h1 st.2 hd hf ?_) fun h' h1 sb=>?_
  ·rw [below_zero _ (by omega),he,hp,← hgd]; exact q
  ·refine hQ _ h' s.toks ?_ ⟨h1,(sb.2 a hne).trans st.2⟩ fun b o' hb e=>(sb.2 b (by simpa using hb)).trans e
   rw [List.getElem?_map,Array.getElem?_toList,he]; rfl
 done:=fun s Q E st hQ=>by
  have hpz:t.place.size = es.size:=by
   unfold SetTable.fits at hf
   rw [Bool.and_eq_true] at hf
   exact eq_of_beq hf.1
  refine jL (slot:=slotB t es.size) hh st.1 st.2 hd hf (fun A E Q q=>setNext_led hb hl h1 st.2 hd hf ?_) fun h' eb=>hQ h' s.toks fun b o' hb e=>eb b o' (by simpa using hb) e
  have h2:es.size = 0 \/ es.size = 1:=by omega
  rcases h2 with e | e
  ·rw [e]
   show Q (match es[SetTable.below t.place 0]?,t.place[SetTable.below t.place 0]? with | some (_,x),some j=>some (x,j + 1) | _,_=>none) s
   rw [below_zero _ (by omega),Array.getElem?_eq_none (by omega)]
   exact q
  ·rw [e]
   show Q (match es[SetTable.below t.place (t.place.getD 0 0 + 1)]?,t.place[SetTable.below t.place (t.place.getD 0 0 + 1)]? with | some (_,x),some j=>some (x,j + 1) | _,_=>none) s
   rw [below_one _ (by omega),Array.getElem?_eq_none (by omega)]
   exact q
 self:=fun _ _ _ _ st h=>it_self st.1 h
end
end AxS
namespace AxS
open PySem PySem.Spec PyProof.Rows
def x5 (vs:List Value) (zs:List Str):Prop:=vs.length = zs.length /\ ∀ (i:Nat) (v:Value),vs[i]? = some v -> ∃ k t,zs[i]? = some k /\ v = .str k t
section
variable {prog:Program} {w:World} {A:Around} {E:Value -> Shared -> Prop} {s:Shared} {a:Addr} {ks:List Str}
theorem texts_of {l:List (Int × Value)} (h:ElemsOf (strKind prog w) l):x5 (l.map (·.2)) (l.map keyOf):=by
 refine ⟨by rw [List.length_map,List.length_map],fun i v e=>?_⟩
 rw [List.getElem?_map] at e
 cases q:l[i]? with
 | none=>rw [q] at e; cases e
 | some x =>
  rw [q] at e
  have e:x.2 = v:=Option.some.inj e
  obtain ⟨⟨k,hk,_⟩,_⟩:=h x (List.mem_of_getElem? q)
  obtain ⟨t,et⟩:=Value.isStrOf_shape hk
  exact ⟨k,t,by rw [List.getElem?_map,q]; show some (keyOf x) = _; unfold keyOf; rw [et],by rw [← e]; exact et⟩
theorem tx_iter {Q:Value -> Shared -> Prop} (hS:TxSet prog w s.heap a ks) (hk:ks.length <= 1000) (hh:A.handled = none)
  (h:∀ (I:Addr) (fp:List Addr) (h':Heap) d tk (vs:List Value) (zs:List Str) (St:Nat -> Heap -> Prop),s.heap.objs.size <= I -> (∀ b ∈ fp,b = a \/ s.heap.objs.size <= b) -> (∀ b o,s.heap.get? b = some o -> h'.get? b = some o) -> zs.Perm ks -> x5 vs zs ->
   Walks prog w A I fp [I] ks.length (fun i v=>vs[i]? = some v) St -> St 0 h' -> Q (.ref I) { s with heap:=h',drawn:=d,toks:=tk }):wpAny (model prog w) A (pyIter (.ref a)) Q E s:=by
 obtain ⟨o,es,ep,t,ho,hx,hd,X⟩:=hS
 have hlen:=tx_len X
 obtain ⟨hel,hp,hb,hf,hled,hpl⟩:=X
 have hlt:a < s.heap.objs.size:=Heap.lt_size ho
 have hne:a ≠ s.heap.objs.size:=Nat.ne_of_lt hlt
 refine iter_set ho hx hd hf (by omega) (fun q=>?_) (fun q ps d tk hps=>?_)
 ·have kp:∀ b u,s.heap.get? b = some u -> (s.heap.push (itO (rawInt 0) 0 a es.size ep)).get? b = some u:=fun b u e=>Heap.get?_push_of_some _ e
  have fpo:∀ b ∈ [s.heap.objs.size,a],b = a \/ s.heap.objs.size <= b:=fun b hb=>by
   rcases List.mem_cons.mp hb with z | z
   ·exact .inr (Nat.le_of_eq z.symm)
   ·exact .inl (List.mem_singleton.mp z)
  cases hbt:byText w with
  | true =>
   have W:=walkA (prog:=prog) (A:=A) (es:=es) (ep:=ep) (t:=t) (o:=o) hh s.heap.objs.size hne hbt hd hf
   have pp:=pick_perm (w.params.setOrder a ep) es
   rw [hlen] at W
   exact h _ _ _ s.drawn s.toks _ _ _ (Nat.le_refl _) fpo kp ((pp.map keyOf).trans hp) (texts_of (hel.perm pp)) W ⟨by rw [← hlen]; exact Heap.get?_push_size _ rfl,Heap.get?_push_of_some _ ho⟩
  | false =>
   have h1:es.size <= 1:=by
    rw [hbt] at q
    by_cases z:es.size > 1
    ·rw [hpl (by omega),decide_eq_true z] at q; cases q
    ·omega
   have hl:t.led = true:=by rw [hled]; show (!byText w) = true; rw [hbt]; rfl
   have W:=walkB (prog:=prog) (A:=A) (es:=es) (ep:=ep) (t:=t) (o:=o) hh s.heap.objs.size hne hbt hl h1 hd hf
   rw [hlen] at W
   exact h _ _ _ s.drawn s.toks _ _ _ (Nat.le_refl _) fpo kp hp (texts_of hel) W ⟨by rw [← hlen]; exact Heap.get?_push_size _ rfl,Heap.get?_push_of_some _ ho⟩
 ·have hnI:a ≠ s.heap.objs.size + 1:=Nat.ne_of_lt (Nat.lt_succ_of_lt hlt)
  have W:=walkC (prog:=prog) (w:=w) (A:=A) (es:=es) (ep:=ep) (t:=t) (o:=o) (a:=a) hh (s.heap.objs.size + 1) s.heap.objs.size hnI (Nat.ne_of_lt (Nat.lt_succ_self _)) ps hps hd hf
  have hL:(ps.filterMap fun p=>es[p]?).Perm es.toList:=by
   refine (hps.filterMap _).trans ?_
   have e:=List.filterMap_getElem?_range_length es.toList
   rw [Array.length_toList] at e
   have e2:(List.range es.size).filterMap (fun p=>es[p]?) = (List.range es.size).filterMap fun i=>es.toList[i]?:=by congr 1; funext p; exact (Array.getElem?_toList ..).symm
   rw [e2,e]
  have hv:(ps.filterMap fun p=>(es[p]?).map (·.2)) = (ps.filterMap fun p=>es[p]?).map (·.2):=by rw [List.map_filterMap]
  rw [hlen] at W
  rw [hv] at W
  have g0:(s.heap.push (tupO ps)).objs.size = s.heap.objs.size + 1:=Heap.size_push _ _
  refine h _ _ _ d tk _ _ _ (Nat.le_succ _) (fun b hb=>?_) (fun b u e=>Heap.get?_push_of_some _ (Heap.get?_push_of_some _ e)) ((hL.map keyOf).trans hp) (texts_of (hel.perm hL)) W ⟨?_,Heap.get?_push_of_some _ (Heap.get?_push_of_some _ ho),Heap.get?_push_of_some _ (Heap.get?_push_size _ rfl)⟩
  ·rcases List.mem_cons.mp hb with z | z
   ·exact .inr (by rw [z]; exact Nat.le_succ _)
   ·rcases List.mem_cons.mp z with z | z
    ·exact .inl z
    ·exact .inr (Nat.le_of_eq (List.mem_singleton.mp z).symm)
  ·rw [← g0,← hlen]
   exact Heap.get?_push_size _ rfl
theorem hint_set (hT:s.TypeIs (.ref a) "set") {Q:Bool -> Shared -> Prop} (h:Q false s):wpAny (model prog w) A (Builtin.List.listLengthHint (.ref a)) Q E s:=by
 unfold Builtin.List.listLengthHint
 refine wpAny_bind (wpAny_specialOf hT PySem.F.slot_set_len.lookup ?_)
 generalize hid:("set.__len__":String) = id0
 wp_delta
 rw [show splitId id0 = some ("set","__len__") from by subst hid; decide +kernel]
 subst hid
 refine wpAny_bind (wpAny_isInstance (T:="set") (b:=true) hT (by rw [isSubtype_type]; kernel_rfl) ?_)
 refine wpAny_ite_split (fun hab=>absurd hab (by decide)) (fun _=>?_)
 refine wpAny_ite_split (fun _=>?_) (fun hab=>absurd (by decide +kernel) hab)
 refine wpAny_bind (wpAny_typeOf hT ?_)
 exact wpAny_pure h
open PySem.Calls PyProof.V in
theorem tx_extend {R:Result -> Shared -> Prop} (hh:A.handled = none) (hT:TxSet prog w s.heap a ks) (hk:ks.length <= 1000) (S:Addr) (hSa:S ≠ a) (res:Value) (c₀:Nat) (hS:s.heap.get? S = some { cls:=.type "list",data:=.seq #[] c₀ })
  (hR:∀ h' d tk acc' c' (zs:List Str),(∀ b o,b ≠ S -> s.heap.get? b = some o -> h'.get? b = some o) -> h'.get? S = some { cls:=.type "list",dict:=none,data:=.seq acc' c',slots:=#[] } -> zs.Perm ks -> x5 acc'.toList zs -> R (.ok (.ret res)) { s with heap:=h',drawn:=d,toks:=tk }) :
  wpAny (model prog w) A.in1 (Builtin.List.listExtendWith (.ref S) (.ref a) res)
   (fun fin s'=>match fin with | .done f=>R (.ok f) s' | .again c'=>c'.quiet = true /\ codeAny (model prog w) A c' R s') (fun e s'=>R (.error e) s') s:=by
 have hSlt:S < s.heap.objs.size:=Heap.lt_size hS
 have ty:s.TypeIs (.ref a) "set":=by obtain ⟨o,es,ep,t,ho,hx,_⟩:=hT; exact ⟨o,ho,hx.1⟩
 unfold Builtin.List.listExtendWith
 refine wpAny_bind (wpAny_typeOf (T:="set") ty ?_)
 have h1:Builtin.List.listSameRef (.ref S) (.ref a) = false:=by simp [Builtin.List.listSameRef,hSa]
 have nl:(Value.type "set" == Value.type "list") = false:=by decide
 have nt:(Value.type "set" == Value.type "tuple") = false:=by decide
 simp only [h1,nl,nt,Bool.or_false,Bool.false_eq_true,if_false]
 refine wpAny_bind (tx_iter (A:=A.in1) hT hk hh fun I fp h' d tk vs zs St hI hfp kp hz tx W st=>?_)
 have ty':Shared.TypeIs { s with heap:=h',drawn:=d,toks:=tk } (.ref a) "set":=by obtain ⟨o,es,ep,t,ho,hx,_⟩:=hT; exact ⟨o,kp _ _ ho,hx.1⟩
 refine wpAny_bind (wpAny_holding (hint_set ty' ?_))
 have hSf:S ∉ fp:=fun z=>by
  rcases hfp S z with e | e
  ·exact hSa e
  ·exact Nat.lt_irrefl _ (Nat.lt_of_lt_of_le hSlt e)
 have hS₁:=kp _ _ hS
 refine wpAny_ite_split (fun _=>?_) (fun z=>absurd (by decide) z)
 refine wpAny_bind (wpAny_rule ?_)
 refine wpAny_bind ?_
 show wpAny _ _ (updateSeq S (·.push .none) >>= fun _=>updateSeq S (·.pop)) _ _ _
 refine wpAny_bind (wpAny_updateSeq hS₁ rfl ?_)
 have hS₂:=Heap.get?_update_self (Obj.mapSeq (·.push Value.none)) hS₁ rfl
 refine wpAny_updateSeq (hz:=by seq_fits) hS₂ rfl ?_
 have hS₃:=Heap.get?_update_self (Obj.mapSeq (·.pop)) hS₂ rfl
 refine wpAny_pure ⟨plainId_quiet PySem.F.plain_extend_loop _,?_⟩
 have oth:∀ b o,b ≠ S -> h'.get? b = some o -> ((h'.update S (Obj.mapSeq (·.push Value.none))).update S (Obj.mapSeq (·.pop))).get? b = some o:=fun b o hb e =>
  (Heap.get?_update_other _ _ (Ne.symm hb)).trans ((Heap.get?_update_other _ _ (Ne.symm hb)).trans e)
 have st':=W.frame 0 _ _ st fun b hb o e=>oth b o (fun z=>hSf (z ▸ hb)) e
 refine codeAny_extend_loopS W.toS (by rw [sizeLine_eq]; omega) S hSf res ks.length 0 _ #[] _ rfl (Nat.zero_le _) st' hS₃ (ItemsOf.nil _) fun s' acc' c' hm hS' hacc=>?_
 rw [Moved.eq_with hm]
 have hva:acc'.toList = vs:=by
  have hl:acc'.toList.length = vs.length:=by rw [Array.length_toList,hacc.1,tx.1,hz.length_eq]
  refine List.ext_getElem? fun i=>?_
  by_cases hi:i < acc'.size
  ·have e:=Array.getElem?_eq_getElem hi
   rw [Array.getElem?_toList,e]
   exact (hacc.2 i _ e).symm
  ·rw [List.getElem?_eq_none (by rw [Array.length_toList]; omega),List.getElem?_eq_none (by rw [← hl,Array.length_toList]; omega)]
 refine hR s'.heap d s'.toks acc' c' zs (fun b o hb e=>hm.heap b o (fun hmem=>?_) (oth b o hb (kp b o e))) hS' hz (by rw [hva]; exact tx)
 rcases List.mem_cons.mp hmem with e' | hmem
 ·exact hb e'
 ·have hbI:b = I:=List.mem_singleton.mp hmem
  exact absurd (hbI ▸ Heap.lt_size e) (Nat.not_lt.mpr hI)
open PySem.Calls PyProof.V PySem.W in
theorem tx_collect {R:List Value -> Shared -> Prop} (hh:A.handled = none) (hT:TxSet prog w s.heap a ks) (hk:ks.length <= 1000)
  (h:∀ (h':Heap) d (tk:Nat) (vs:List Value) (zs:List Str),(∀ b o,s.heap.get? b = some o -> h'.get? b = some o) -> zs.Perm ks -> x5 vs zs -> R vs { s with heap:=h',drawn:=d,toks:=tk }):wpAny (model prog w) A (collect (.ref a)) R E s:=by
 have hlt:a < s.heap.objs.size:=by obtain ⟨o,es,ep,t,ho,_⟩:=hT; exact Heap.lt_size ho
 unfold collect
 refine wpAny_bind (wpAny_runValue (codeAny_builtin entry_proto_collect' ?_))
 rw [Around.under_plainId PySem.F.plain_proto_collect _]
 show wpAny _ A.in1 (newList [] >>= fun l=>again (.builtin "list.__iadd__" ⟨[l,.ref a],[]⟩)) _ _ s
 refine wpAny_bind (wpAny_newObj_type ?_)
 refine wpAny_pure ⟨plainId_quiet PySem.F.plain_list_iadd _,codeAny_builtin entry_list_iadd' ?_⟩
 rw [Around.under_plainId PySem.F.plain_list_iadd _]
 have hS₁:(s.heap.push { cls:=.type "list",data:=.seq ([]:List Value).toArray }).get? s.heap.objs.size = some { cls:=.type "list",data:=.seq #[] }:=Heap.get?_push_size _ rfl
 show wpAny _ A.in1 (Builtin.List.listExtendWith (.ref s.heap.objs.size) (.ref a) (.ref s.heap.objs.size)) _ _ _
 have key:=tx_extend (prog:=prog) (w:=w) (A:=A) (a:=a) (ks:=ks) (s:={ s with heap:=s.heap.push { cls:=.type "list",data:=.seq ([]:List Value).toArray } })
  (R:=fun (q:Result) (s':Shared)=>∃ (h':Heap) (d:Drawn) (tk:Nat) (acc':Array Value) (c':Nat) (zs:List Str),q = .ok (.ret (.ref s.heap.objs.size)) /\ s' = { s with heap:=h',drawn:=d,toks:=tk } /\
   (∀ b o,s.heap.get? b = some o -> h'.get? b = some o) /\ h'.get? s.heap.objs.size = some { cls:=.type "list",dict:=none,data:=.seq acc' c',slots:=#[] } /\ zs.Perm ks /\ x5 acc'.toList zs)
  hh (hT.at fun o e=>Heap.get?_push_of_some _ e) hk s.heap.objs.size (Nat.ne_of_gt hlt) (.ref s.heap.objs.size) 0 hS₁
  (fun h' d tk acc' c' zs hk hS' hz tx=>⟨h',d,tk,acc',c',zs,rfl,rfl,fun b o e=>hk b o (Nat.ne_of_lt (Heap.lt_size e)) (Heap.get?_push_of_some _ e),hS',hz,tx⟩)
 refine wpAny_mono key (fun fin s' x=>?_) fun e s' x=>?_
 ·cases fin with
  | done f =>
   obtain ⟨h',d,tk,acc',c',zs,e,rfl,hk,hS',hz,tx⟩:=x
   cases e
   show wpAny _ A (load s.heap.objs.size >>= _) _ _ _
   refine wpAny_bind (wpAny_load hS' ?_)
   exact wpAny_pure (h h' d tk _ zs hk hz tx)
  | again c₁ =>
   refine ⟨x.1,codeAny_mono x.2 fun q s₂ y=>?_⟩
   obtain ⟨h',d,tk,acc',c',zs,rfl,rfl,hk,hS',hz,tx⟩:=y
   show wpAny _ A (load s.heap.objs.size >>= _) _ _ _
   refine wpAny_bind (wpAny_load hS' ?_)
   exact wpAny_pure (h h' d tk _ zs hk hz tx)
 ·obtain ⟨_,_,_,_,_,_,e',_⟩:=x
  cases e'
end
end AxS
namespace AxS
open PySem PySem.Spec PyProof.Rows
section
variable {prog:Program} {w:World} {A:Around} {E:Value -> Shared -> Prop} {s:Shared}
set_option maxHeartbeats 6400000 in
theorem call_set_list {l:Addr} {items:Array Value} {xs:List Str} {Q:Value -> Shared -> Prop} (hh:A.handled = none) (hl:s.heap.IsList l items) (hlen:xs.length = items.size) (hi:∀ (i:Nat) (v:Value),items[i]? = some v -> ∃ k t,xs[i]? = some k /\ v = .str k t) (hb:items.size + 1 < scanBound)
  (h:∀ (h':Heap) (tk:Nat),TxSet prog w h' s.heap.objs.size (uniq xs) -> (∀ b o,s.heap.get? b = some o -> h'.get? b = some o) -> Q (.ref s.heap.objs.size) { s with heap:=h',toks:=tk }):wpAny (model prog w) A (call (.type "set") [.ref l]) Q E s:=by
 obtain ⟨c,tl,hmro⟩:=F.called_set.mro
 have hmade:=F.called_set.made
 have hsub:=F.called_set.sub
 have h1:=F.called_set.notType
 have h2:=F.called_set.canCreate
 have hct:=F.typeCall_set_1 (.ref l)
 refine wpAny_call (codeAny_of_tree ?_)
 show wpAny _ _ (callAny (.type "set") _) _ _ _
 refine wpAny_pure ⟨Code.quiet_builtin _ (by decide +kernel),codeAny_builtin F.entry_type_call ?_⟩
 rw [Around.under_plain (weight_type_call_type "set" [.ref l] []) rfl]
 repeat (any_goals (first | assumption | wp_step))
 refine codeAny_mono (set_new (.ref l) (E:=E) (Q₁:=fun obj s₁=>obj = .ref s.heap.objs.size /\ s₁ = { s with heap:=s.heap.push (z0 w) }) ⟨rfl,rfl⟩) fun r s₁ hr=>?_
 cases r with
 | error e=>exact hr
 | ok fl =>
  cases fl with
  | ret obj =>
   obtain ⟨rfl,rfl⟩:=hr
   have hS:(s.heap.push (z0 w)).get? s.heap.objs.size = some (z0 w):=Heap.get?_push_size _ rfl
   have hT:Shared.TypeIs { s with heap:=s.heap.push (z0 w) } (.ref s.heap.objs.size) "set":=⟨_,hS,rfl⟩
   have hli:=F.called_set.init.lookup
   have hbi:=F.called_set.init.bind (.ref s.heap.objs.size)
   repeat (any_goals (first | assumption | wp_step))
   refine codeAny_mono (codeAny_call_builtin (R:=wants (fun r s₂=>r = .none /\ ∃ h' tk,s₂ = { s with heap:=h',toks:=tk } /\ TxSet prog w h' s.heap.objs.size (uniq xs) /\
     (∀ b o,s.heap.get? b = some o -> h'.get? b = some o)) E) F.called_set.init.plain F.entry_set_init (check_set_init_1 hT ?_)) fun r₂ s₂ hr₂=>?_
   ·have hl1:(s.heap.push (z0 w)).IsList l items:=hl.push _
    obtain ⟨ol,hol,hcl,nl,hdl⟩:=id hl1
    have hlS:l < s.heap.objs.size:=by obtain ⟨_,e,_⟩:=hl; exact Heap.lt_size e
    obtain ⟨ocls,odict,odata,oslots⟩:=ol
    simp only at hcl hdl
    subst hcl; subst hdl
    have hsls:=sub_list_set
    have hslf:=sub_list_frozenset
    have hne:(Value.type "list" == Value.type "dict") = false:=by decide
    unfold z0 at hS hol
    unfold Builtin.«set.__init__» noKeywords Builtin.Frozenset.updateFrom
    generalize hPI:pyIter = PI
    unfold z0
    wp_walk
    subst hPI
    refine wpAny_pyIter_list hl1 ?_
    refine wpAny_bind (wpAny_runValue ?_)
    have hh3:A.in1.in1.in1.handled = none:=by simp [hh]
    have hneI:l ≠ (s.heap.push (z0 w)).objs.size:=by
     rw [Heap.size_push]; exact Nat.ne_of_lt (Nat.lt_succ_of_lt hlS)
    have hSf:s.heap.objs.size ∉ [(s.heap.push (z0 w)).objs.size,l]:=by
     rw [Heap.size_push]; simp only [List.mem_cons,List.mem_singleton,List.not_mem_nil,or_false,not_or]
     exact ⟨Nat.ne_of_lt (Nat.lt_succ_self _),Nat.ne_of_gt hlS⟩
    refine tx_loop ((Walks.list hh3 _ l hneI items).toS) s.heap.objs.size hSf xs hlen hi hb (items.size - 0) 0 _ (by omega) (Nat.zero_le _)
     ⟨⟨_,Heap.get?_push_size _ rfl,rfl,rfl⟩,(hl1.push _)⟩ ?hS0 ?hR
    case hS0 =>
     have hget:((s.heap.push (z0 w)).push { cls:=.type "list_iterator",data:=.fields #[.ref l,.int 0 0] }).get? s.heap.objs.size = some (z0 w):=Heap.get?_push_of_some _ hS
     exact tx_fresh hget
    case hR =>
     intro s' hm hS'
     obtain ⟨h',g',d',tk',os'⟩:=s'
     have eg:g' = s.gens:=hm.gens
     have ed:d' = s.drawn:=hm.drawn
     have eo:os' = s.os:=hm.os
     subst eg; subst ed; subst eo
     show wpAny _ _ _ _ _ _
     refine wpAny_pure ?_
     show wpAny _ _ (ret Value.none) _ _ _
     refine wpAny_pure ⟨rfl,h',tk',rfl,hS',fun b o e=>?_⟩
     have hb0:=Heap.lt_size e
     have hb1:b ≠ s.heap.objs.size:=Nat.ne_of_lt hb0
     have hb2:b ≠ (s.heap.push (z0 w)).objs.size:=by
      rw [Heap.size_push]; exact Nat.ne_of_lt (Nat.lt_succ_of_lt hb0)
     exact hm.heap b o (by simp only [List.mem_cons,List.mem_singleton,List.not_mem_nil,or_false,not_or]; exact ⟨hb1,hb2⟩) (Heap.get?_push_of_some _ (Heap.get?_push_of_some _ e))
   ·cases r₂ with
    | error e=>exact hr₂
    | ok fl₂ =>
     cases fl₂ with
     | ret r =>
      obtain ⟨rfl,h',tk,rfl,hS',hk'⟩:=hr₂
      repeat (any_goals (first | assumption | wp_step))
      exact h _ _ hS' hk'
     | _=>exact hr₂.elim
  | _=>exact hr.elim
set_option maxHeartbeats 6400000 in
theorem call_set_tuple {l:Addr} {items:Array Value} {xs:List Str} {Q:Value -> Shared -> Prop} (hh:A.handled = none) (hl:s.heap.IsTuple l items) (hlen:xs.length = items.size) (hi:∀ (i:Nat) (v:Value),items[i]? = some v -> ∃ k t,xs[i]? = some k /\ v = .str k t) (hb:items.size + 1 < scanBound)
  (h:∀ (h':Heap) (tk:Nat),TxSet prog w h' s.heap.objs.size (uniq xs) -> (∀ b o,s.heap.get? b = some o -> h'.get? b = some o) -> Q (.ref s.heap.objs.size) { s with heap:=h',toks:=tk }):wpAny (model prog w) A (call (.type "set") [.ref l]) Q E s:=by
 obtain ⟨c,tl,hmro⟩:=F.called_set.mro
 have hmade:=F.called_set.made
 have hsub:=F.called_set.sub
 have h1:=F.called_set.notType
 have h2:=F.called_set.canCreate
 have hct:=F.typeCall_set_1 (.ref l)
 refine wpAny_call (codeAny_of_tree ?_)
 show wpAny _ _ (callAny (.type "set") _) _ _ _
 refine wpAny_pure ⟨Code.quiet_builtin _ (by decide +kernel),codeAny_builtin F.entry_type_call ?_⟩
 rw [Around.under_plain (weight_type_call_type "set" [.ref l] []) rfl]
 repeat (any_goals (first | assumption | wp_step))
 refine codeAny_mono (set_new (.ref l) (E:=E) (Q₁:=fun obj s₁=>obj = .ref s.heap.objs.size /\ s₁ = { s with heap:=s.heap.push (z0 w) }) ⟨rfl,rfl⟩) fun r s₁ hr=>?_
 cases r with
 | error e=>exact hr
 | ok fl =>
  cases fl with
  | ret obj =>
   obtain ⟨rfl,rfl⟩:=hr
   have hS:(s.heap.push (z0 w)).get? s.heap.objs.size = some (z0 w):=Heap.get?_push_size _ rfl
   have hT:Shared.TypeIs { s with heap:=s.heap.push (z0 w) } (.ref s.heap.objs.size) "set":=⟨_,hS,rfl⟩
   have hli:=F.called_set.init.lookup
   have hbi:=F.called_set.init.bind (.ref s.heap.objs.size)
   repeat (any_goals (first | assumption | wp_step))
   refine codeAny_mono (codeAny_call_builtin (R:=wants (fun r s₂=>r = .none /\ ∃ h' tk,s₂ = { s with heap:=h',toks:=tk } /\ TxSet prog w h' s.heap.objs.size (uniq xs) /\
     (∀ b o,s.heap.get? b = some o -> h'.get? b = some o)) E) F.called_set.init.plain F.entry_set_init (check_set_init_1 hT ?_)) fun r₂ s₂ hr₂=>?_
   ·have hl1:(s.heap.push (z0 w)).IsTuple l items:=hl.push _
    obtain ⟨ol,hol,hcl,nl,hdl⟩:=id hl1
    have hlS:l < s.heap.objs.size:=by obtain ⟨_,e,_⟩:=hl; exact Heap.lt_size e
    obtain ⟨ocls,odict,odata,oslots⟩:=ol
    simp only at hcl hdl
    subst hcl; subst hdl
    have hsls:=sub_tuple_set
    have hslf:=sub_tuple_frozenset
    have hne:(Value.type "tuple" == Value.type "dict") = false:=by decide
    unfold z0 at hS hol
    unfold Builtin.«set.__init__» noKeywords Builtin.Frozenset.updateFrom
    generalize hPI:pyIter = PI
    unfold z0
    wp_walk
    subst hPI
    refine wpAny_pyIter_tuple hl1 ?_
    refine wpAny_bind (wpAny_runValue ?_)
    have hh3:A.in1.in1.in1.handled = none:=by simp [hh]
    have hneI:l ≠ (s.heap.push (z0 w)).objs.size:=by
     rw [Heap.size_push]; exact Nat.ne_of_lt (Nat.lt_succ_of_lt hlS)
    have hSf:s.heap.objs.size ∉ [(s.heap.push (z0 w)).objs.size,l]:=by
     rw [Heap.size_push]; simp only [List.mem_cons,List.mem_singleton,List.not_mem_nil,or_false,not_or]
     exact ⟨Nat.ne_of_lt (Nat.lt_succ_self _),Nat.ne_of_gt hlS⟩
    refine tx_loop ((Walks.tuple hh3 _ l hneI items).toS) s.heap.objs.size hSf xs hlen hi hb (items.size - 0) 0 _ (by omega) (Nat.zero_le _)
     ⟨⟨_,Heap.get?_push_size _ rfl,rfl,rfl⟩,(hl1.push _)⟩ ?hS0 ?hR
    case hS0 =>
     have hget:((s.heap.push (z0 w)).push { cls:=.type "tuple_iterator",data:=.fields #[.ref l,.int 0 0] }).get? s.heap.objs.size = some (z0 w):=Heap.get?_push_of_some _ hS
     exact tx_fresh hget
    case hR =>
     intro s' hm hS'
     obtain ⟨h',g',d',tk',os'⟩:=s'
     have eg:g' = s.gens:=hm.gens
     have ed:d' = s.drawn:=hm.drawn
     have eo:os' = s.os:=hm.os
     subst eg; subst ed; subst eo
     show wpAny _ _ _ _ _ _
     refine wpAny_pure ?_
     show wpAny _ _ (ret Value.none) _ _ _
     refine wpAny_pure ⟨rfl,h',tk',rfl,hS',fun b o e=>?_⟩
     have hb0:=Heap.lt_size e
     have hb1:b ≠ s.heap.objs.size:=Nat.ne_of_lt hb0
     have hb2:b ≠ (s.heap.push (z0 w)).objs.size:=by
      rw [Heap.size_push]; exact Nat.ne_of_lt (Nat.lt_succ_of_lt hb0)
     exact hm.heap b o (by simp only [List.mem_cons,List.mem_singleton,List.not_mem_nil,or_false,not_or]; exact ⟨hb1,hb2⟩) (Heap.get?_push_of_some _ (Heap.get?_push_of_some _ e))
   ·cases r₂ with
    | error e=>exact hr₂
    | ok fl₂ =>
     cases fl₂ with
     | ret r =>
      obtain ⟨rfl,h',tk,rfl,hS',hk'⟩:=hr₂
      repeat (any_goals (first | assumption | wp_step))
      exact h _ _ hS' hk'
     | _=>exact hr₂.elim
  | _=>exact hr.elim
end
end AxS
namespace L2
open PySem PySem.Spec PyProof.Rows AxS
def TxHO (P:Program) (w:World) (a:Addr) (ks:List Str):HO:=.ext fun h=>TxSet P w h a ks
theorem txho_ok {P:Program} {w:World} {H:Hp} {h:Heap} {a:Addr} {ks:List Str} (x:TxSet P w h a ks):ObjOk P w H h a (TxHO P w a ks):=by
 obtain ⟨o,es,ep,t,ho,r⟩:=id x
 exact ⟨x,⟨o,ho⟩,fun u1 u2 z k=>TxSet.at z fun o e=>k o e⟩
theorem txho_get {P:Program} {w:World} {H:Hp} {h:Heap} {a:Addr} {ks:List Str} (x:ObjOk P w H h a (TxHO P w a ks)):TxSet P w h a ks:=x.1
section
variable {X:Cx} {K:PySem.W.Frag}
def rLenSet (P:Program) (w:World):List V -> Hp -> VK -> Prop:=fun xs H Q=>∃ (a:Addr) (ks:List Str),xs = [.ref a] /\ H a = some (TxHO P w a ks) /\ Q (.int ks.length) H
theorem call_lenS:CallR X (.builtin "len") (rLenSet X.prog X.w):=by
 intro pins s σ H xs us Q I r h
 obtain ⟨a,ks,rfl,ha,q⟩:=h
 obtain ⟨u,rfl,ru⟩:=vals1 r
 cases ru
 obtain ⟨o,es,ep,t,ho,hex,hd,X'⟩:=txho_get (I.hok a _ ha)
 have hlen:=tx_len X'
 obtain ⟨_,_,hb,hf,_⟩:=X'
 have hb:es.size < 4096:=hb
 refine call_len_set ho hex hd hf (by omega) ?_
 rw [hlen]
 exact ⟨.int _,H,I.tok _,⟨_,rfl⟩,q⟩
theorem Inv.drew {pins:List (Addr × Obj)} {σ:St} {H:Hp} {s:Shared} {d:Drawn} (I:Inv X pins σ H s):Inv X pins σ H { s with drawn:=d } :=
 ⟨I.ok,I.os,I.bare,I.base,I.loc,I.cell,I.free,I.freeC,I.pin,I.hok,I.len⟩
theorem strs_of:∀ {vs:List Value} {zs:List Str},x5 vs zs -> StrsAre vs zs
 | [],[],_=>.nil
 | [],_ :: _,h=>by cases h.1
 | _ :: _,[],h=>by cases h.1
 | v :: vs,z :: zs,h=>by
  obtain ⟨k,t,e,rfl⟩:=h.2 0 v rfl
  have e:z = k:=Option.some.inj e
  subst e
  exact .cons _ _ (strs_of ⟨by have:=h.1; simpa using this,fun i v e=>by
   obtain ⟨k,t,e1,e2⟩:=h.2 (i + 1) v (by simpa using e)
   exact ⟨k,t,by simpa using e1,e2⟩⟩)
def rSortedS (P:Program) (w:World):List V -> Hp -> VK -> Prop:=fun xs H Q=>∃ (a:Addr) (ks:List Str),xs = [.ref a] /\ H a = some (TxHO P w a ks) /\ ks.length < 64 /\ ∀ l ss,H l = none -> ss.Perm ks -> sortedS ss = true -> Q (.ref l) (upd H l (.lst (ss.map V.str)))
theorem call_sortedS (hc:X.calm = true):CallR X (.builtin "sorted") (rSortedS X.prog X.w):=by
 intro pins s σ H xs us Q I r h
 obtain ⟨a,ks,rfl,ha,h64,q⟩:=h
 obtain ⟨u,rfl,ru⟩:=vals1 r
 cases ru
 have hT:=txho_get (I.hok a _ ha)
 refine Calls.call_function_entry kind_sorted plain_sorted entry_sorted (args_sorted1 _) ?_
 unfold Builtin.«sorted»
 refine wpAny_bind (m:=checkCount "sorted" 1 1 _) (wpAny_pure ?_)
 refine wpAny_bind (tx_collect (A:=X.A.in1) (I.ok.hd hc) hT (by omega) fun h' d tk acc zs hkp hz tx=>?_)
 have hstr:=strs_of tx
 have hal:acc.length < 64:=by rw [tx.1,hz.length_eq]; exact h64
 have hline:64 <= sizeLine:=by rw [sizeLine_eq]; decide
 refine wpAny_bind (wpAny_newList ?_ (by omega))
 have hoL:(h'.push (seqObj "list" acc.toArray 0)).get? h'.objs.size = some (seqObj "list" acc.toArray 0):=Heap.get?_push_size _ rfl
 refine wpAny_bind (wpAny_holding (wpAny_call_entry slot_list_sort ⟨_,hoL,rfl⟩ entry_list_sort (list_sort_treeK strKind_oneLt hoL hstr.keysOf (fun v₁ v₂ rest e=>keyKind_strs (by rw [← e]; exact hstr)) (by omega) fun st' a1 a2=>⟨_,rfl,?_⟩) (args_list_sort _)))
 obtain ⟨ss',b1,b2,b3⟩:=sorted_out_str hstr a1 a2
 refine wpAny_pure ⟨_,rfl,?_⟩
 obtain ⟨e,he⟩:=sortedHeap_at (out:=(arrOf st').map (·.2)) hoL
 have nl:=vals_strs b1
 have I1:Inv X pins σ H { s with heap:=h',drawn:=d,toks:=tk }:=(I.kept (t':=tk) hkp).drew (d:=d)
 have kp2:∀ b ob,h'.get? b = some ob -> (sortedHeap (h'.push (seqObj "list" acc.toArray 0)) h'.objs.size acc ((arrOf st').map (·.2))).get? b = some ob:=fun b ob q1=>by
  have hb:b < h'.objs.size:=Heap.lt_size q1
  rw [sortedHeap_old (Nat.ne_of_lt hb) (by rw [Heap.size_push]; exact Nat.lt_succ_of_lt hb)]
  exact Heap.get?_push_of_some _ q1
 have fr:H h'.objs.size = none:=I1.hok.fresh (Nat.le_refl _)
 have hz2:(ss'.map V.str).length <= sizeLine:=by
  have:=b2.length_eq
  have:=hz.length_eq
  rw [List.length_map]
  omega
 exact ⟨.ref h'.objs.size,_,I1.laid (o:=.lst (ss'.map V.str)) (t':=tk) kp2 (Nat.le_refl _) ⟨hz2,_,e,nl,he⟩,rfl,q _ ss' fr (b2.trans hz) b3⟩
def rSet (K:PySem.W.Frag) (P:Program) (w:World):List V -> Hp -> VK -> Prop:=fun xs H Q=>∃ (a:Addr) (ls:List Str),xs = [.ref a] /\ (SqL K H a (ls.map V.str) \/ SqT K H a (ls.map V.str)) /\ ls.length <= 1000 /\ ∀ p,H p = none -> Q (.ref p) (upd H p (TxHO P w p (uniq ls)))
theorem vals_texts {ls:List Str} {us:List Value} (r:Vals (ls.map V.str) us):x5 us ls:=by
 refine ⟨by rw [← r.length,List.length_map],fun i v e=>?_⟩
 have hi:i < ls.length:=by have:=(List.getElem?_eq_some_iff.mp e).1; rw [← r.length,List.length_map] at this; exact this
 obtain ⟨u,hu,ru⟩:=r.get (show (ls.map V.str)[i]? = some (V.str ls[i]) by rw [List.getElem?_map,List.getElem?_eq_getElem hi]; rfl)
 rw [hu] at e
 cases e
 obtain ⟨t,rfl⟩:=ru
 exact ⟨_,t,List.getElem?_eq_getElem hi,rfl⟩
theorem call_set (hc:X.calm = true) (hK:X.K = K:=by rfl):CallR X (.type "set") (rSet K X.prog X.w):=by
 subst hK
 intro pins s σ H xs us Q I r h
 obtain ⟨a,ls,rfl,ha,hl,q⟩:=h
 obtain ⟨u,rfl,ru⟩:=vals1 r
 cases ru
 have fin:∀ (h':Heap) (tk:Nat),TxSet X.prog X.w h' s.heap.objs.size (uniq ls) -> (∀ b o,s.heap.get? b = some o -> h'.get? b = some o) -> EP X pins σ Q (.ref s.heap.objs.size) { s with heap:=h',toks:=tk }:=fun h' tk x k =>
  ⟨.ref s.heap.objs.size,_,I.laid (o:=TxHO X.prog X.w s.heap.objs.size (uniq ls)) (t':=tk) k (Nat.le_refl _) (txho_ok x),rfl,q _ (I.hok.fresh (Nat.le_refl _))⟩
 have sb:scanBound = 4096:=rfl
 rcases ha with ha | ha
 ·obtain ⟨its,rv,pl,_⟩:=I.list ha
  have tx:=vals_texts rv
  exact call_set_list (I.ok.hd hc) pl.isList (by rw [List.size_toArray]; exact tx.1.symm) (fun i v e=>tx.2 i v (by simpa using e)) (by rw [List.size_toArray,tx.1,sb]; omega) fin
 ·obtain ⟨its,rv,pl,_⟩:=I.tuple ha
  have tx:=vals_texts rv
  exact call_set_tuple (I.ok.hd hc) pl (by rw [List.size_toArray]; exact tx.1.symm) (fun i v e=>tx.2 i v (by simpa using e)) (by rw [List.size_toArray,tx.1,sb]; omega) fin
end
end L2
namespace An
open PySem PySem.Spec PyProof.Rows L2
def leS (a b:Str):Prop:=¬ b.cps.toList < a.cps.toList
theorem leS_trans {a b c:Str} (h1:leS a b) (h2:leS b c):leS a c:=by
 have h1:a.cps.toList <= b.cps.toList:=List.not_lt.mp h1
 have h2:b.cps.toList <= c.cps.toList:=List.not_lt.mp h2
 exact List.not_lt.mpr (List.le_trans h1 h2)
theorem leS_anti {a b:Str} (h1:leS a b) (h2:leS b a):a = b:=by
 have e:a.cps.toList = b.cps.toList:=List.le_antisymm (List.not_lt.mp h1) (List.not_lt.mp h2)
 exact cs_inj e
theorem rising_pw:∀ (l:List Str) (p:Str),risingS p l = true -> (p :: l).Pairwise leS
 | [],p,_=>List.pairwise_singleton _ _
 | x :: r,p,h=>by
  have h:(!ltCps x.cps.toList p.cps.toList && risingS x r) = true:=h
  rw [Bool.and_eq_true,ltCps_eq] at h
  have hx:leS p x:=fun z=>by rw [decide_eq_true z] at h; exact absurd h.1 (by decide)
  have ih:=rising_pw r x h.2
  refine List.pairwise_cons.mpr ⟨fun y hy=>?_,ih⟩
  rcases List.mem_cons.mp hy with rfl | hy
  ·exact hx
  ·exact leS_trans hx ((List.pairwise_cons.mp ih).1 y hy)
theorem sorted_pw:∀ {l:List Str},sortedS l = true -> l.Pairwise leS
 | [],_=>List.Pairwise.nil
 | x :: r,h=>rising_pw r x h
def riseB:List Str -> Bool
 | []=>true
 | x :: r=>r.all (fun y=>decide (x.cps.toList < y.cps.toList)) && riseB r
theorem rise_iff:∀ {l:List Str},riseB l = true ↔ l.Pairwise leS /\ l.Nodup
 | []=>⟨fun _=>⟨List.Pairwise.nil,List.nodup_nil⟩,fun _=>rfl⟩
 | x :: r=>by
  show (r.all _ && riseB r) = true ↔ _
  rw [Bool.and_eq_true,rise_iff,List.all_eq_true,List.pairwise_cons,List.nodup_cons]
  constructor
  ·rintro ⟨h1,h2,h3⟩
   refine ⟨⟨fun y hy=>?_,h2⟩,fun z=>?_,h3⟩
   ·have:=of_decide_eq_true (h1 y hy)
    exact fun z=>List.lt_irrefl _ (List.lt_trans this z)
   ·exact List.lt_irrefl _ (of_decide_eq_true (h1 x z))
  ·rintro ⟨⟨h1,h2⟩,h3,h4⟩
   refine ⟨fun y hy=>decide_eq_true ?_,h2,h4⟩
   by_cases z:x.cps.toList < y.cps.toList
   ·exact z
   ·have:=leS_anti (h1 y hy) z
    exact absurd (this ▸ hy) h3
theorem step_nodup {ks:List Str} {k:Str} (h:ks.Nodup):(AxS.step ks k).Nodup:=by
 unfold AxS.step
 split
 ·exact h
 ·rename_i z
  rw [List.nodup_append]
  exact ⟨h,by simp,fun a ha b hb=>by rw [List.mem_singleton.mp hb]; exact fun e=>z (e ▸ ha)⟩
theorem fold_nodup:∀ (xs ks:List Str),ks.Nodup -> (xs.foldl AxS.step ks).Nodup
 | [],ks,h=>h
 | x :: xs,ks,h=>fold_nodup xs _ (step_nodup h)
theorem fold_all:∀ (xs ks:List Str),(ks ++ xs).Nodup -> xs.foldl AxS.step ks = ks ++ xs
 | [],ks,_=>by rw [List.append_nil]; rfl
 | x :: xs,ks,h=>by
  have e:AxS.step ks x = ks ++ [x]:=by
   unfold AxS.step
   rw [if_neg]
   intro z
   exact (List.nodup_append.mp h).2.2 x z x List.mem_cons_self rfl
  rw [List.foldl_cons,e,fold_all xs (ks ++ [x]) (by rw [List.append_assoc]; exact h),List.append_assoc]
  rfl
theorem uniq_nodup (xs:List Str):(AxS.uniq xs).Nodup:=fold_nodup xs [] List.nodup_nil
theorem uniq_self {xs:List Str} (h:xs.Nodup):AxS.uniq xs = xs:=fold_all xs [] h
theorem fold_mem:∀ (xs ks:List Str) {x:Str},x ∈ xs.foldl AxS.step ks -> x ∈ ks \/ x ∈ xs
 | [],ks,x,h=>.inl h
 | y :: xs,ks,x,h=>by
  rcases fold_mem xs _ h with z | z
  ·unfold AxS.step at z
   split at z
   ·exact .inl z
   ·rcases List.mem_append.mp z with z | z
    ·exact .inl z
    ·exact .inr (List.mem_cons.mpr (.inl (List.mem_singleton.mp z)))
  ·exact .inr (List.mem_cons_of_mem _ z)
theorem uniq_mem {xs:List Str} {x:Str} (h:x ∈ AxS.uniq xs):x ∈ xs:=(fold_mem xs [] h).elim (fun z=>nomatch z) id
theorem sorted_set {xs ss:List Str} (hp:ss.Perm (AxS.uniq xs)) (hs:sortedS ss = true):decide (xs = ss) = riseB xs:=by
 rw [Bool.eq_iff_iff,decide_eq_true_iff,rise_iff]
 constructor
 ·intro e
  subst e
  exact ⟨sorted_pw hs,hp.nodup_iff.mpr (uniq_nodup _)⟩
 ·rintro ⟨h1,h2⟩
  rw [uniq_self h2] at hp
  exact (List.Perm.eq_of_pairwise (fun a b _ _=>leS_anti) (sorted_pw hs) h1 hp).symm
end An
namespace PySem.SeqAt
open MeetsSeq PyProof.Rows
end PySem.SeqAt
namespace L2
open PySem PySem.Spec PyProof.Rows
end L2
namespace PySem.W
open PySem PySem.Spec PySem.Calls PyProof.Rows Builtin Builtin.ObjectAttr Builtin.Getset_descriptor
section
variable {prog:Program} {w:World} {A:Around} {E:Value -> Shared -> Prop} {s:Shared} {K:Frag} {x D:Addr} {ox:Obj}
structure ExcKit (K:Frag) (D:Addr):Prop where
 ga:findIn K (.ref D) "__getattribute__" = some (some (.builtin "BaseException.__getattribute__"))
 hk:findIn K (.ref D) "__getattr__" = some none
 ha:findIn K (.ref D) "__class__" = some (some (.builtin "object.__class__"))
 hn:specialIn K (.builtin "object.__class__") "__get__" = some (some (.builtin "getset_descriptor.__get__"))
 htk:takesIn K (.builtin "object.__class__") = some true
 hm:mroIn K D (.type "object") = some true
 hb:subIn K (.ref D) (.type "BaseException") = some true
 cl:(clsIn K D).isSome = true
structure ExcIn (h:Heap) (x D:Addr):Prop where
 ex:∃ o,h.get? x = some o /\ o.cls = .ref D /\ notCls o = true
theorem ExcIn.type {M:Model} {h:Heap} (I:ExcIn h x D):Looks M h (typeOf (.ref x)) (.ref D):=by
 obtain ⟨o,ho,hc,_⟩:=I.ex
 exact hc ▸ (Looks.ld ho).andThen .now
theorem exc_class_get {R:Result -> Shared -> Prop} {tp:Value} (X:K.In s.heap) (I:ExcIn s.heap x D) (hm:mroIn K D (.type "object") = some true)
  (h:R (.ok (.ret (.ref D))) s):codeAny (model prog w) A (.call (.builtin "getset_descriptor.__get__") ⟨[.builtin "object.__class__",.ref x,tp],[]⟩) R s:=by
 obtain ⟨hh,g,dr,t,os⟩:=s
 have L0:=I.type (M:=model prog w)
 have L1:=looks_mroIn (M:=model prog w) X hm
 refine codeAny_call_builtin KF.slot_gs.plain KF.entry_gs (KF.slot_gs.check _ _ _ _ _ _ _ _ KF.type_class (KF.args_gs _ _ _) ?_)
 unfold Builtin.«getset_descriptor.__get__» descrGet
 rw [dga_obj]
 refine wpAny_bind (wpAny_pure ?_)
 unfold descrGetter descrCheckInstance descrNameAndClass isInstance
 simp only [KF.owner_class]
 repeat lk
 refine ⟨Code.quiet_builtin _ (by decide +kernel),codeAny_builtin KF.entry_class ?_⟩
 unfold Builtin.«object.__class__» shownTypeOf
 repeat lk
 exact h
theorem exc_find {M:Model} {h:Heap} (X:K.In h) (k:ExcKit K D):Looks M h (find (.ref x) (.ref D) "__class__") (.bind (.builtin "getset_descriptor.__get__") (.builtin "object.__class__")):=by
 have L1:=looks_findIn (M:=M) X k.ha
 have L2:=looks_specialIn (M:=M) X k.hn
 have L3:=looks_takesIn (M:=M) X k.htk
 unfold find
 exact L1.andThen (Looks.andThen L2 (Looks.andThen (L3.andThen .now) (Looks.tag .now)))
theorem exc_check {M:Model} {nameV:Value} {Q:Unit -> Shared -> Prop} (k:ExcKit K D) (X:K.In s.heap) (I:ExcIn s.heap x D) (hq:Q () s):wpAny M A (checkBuiltinCall "BaseException.__getattribute__" ⟨[.ref x,nameV],[]⟩) Q E s:=by
 have hk:builtinKind "BaseException.__getattribute__" = some .slot:=by decide +kernel
 have hsplit:splitId "BaseException.__getattribute__" = some ("BaseException","__getattribute__"):=by decide +kernel
 have ha:=F.args_bexc_ga (.ref x) nameV
 obtain ⟨hh,g,d,t,os⟩:=s
 have L0:=I.type (M:=M)
 have L1:=looks_subIn (M:=M) X k.hb
 simp only [checkBuiltinCall,hk,hsplit]
 refine wpAny_bind ?_
 ·unfold isInstance
  repeat (first | lk | wp_step)
  exact hq
theorem exc_entry {tk:Tok} {Q:Fin -> Shared -> Prop} (k:ExcKit K D) (X:K.In s.heap) (I:ExcIn s.heap x D) (hq:Q (.done (.ret (.ref D))) s) :
  wpAny (model prog w) A (Builtin.«object.__getattribute__» ⟨[.ref x,.str "__class__" tk],[]⟩) Q E s:=by
 obtain ⟨hh,g,d,t,os⟩:=s
 have L0:=I.type (M:=model prog w)
 have L1:=exc_find (M:=model prog w) (x:=x) X k
 unfold Builtin.«object.__getattribute__»
 refine wpAny_bind (wpAny_pure (wpAny_bind (wpAny_pure (wpAny_bind (L0.at (wpAny_bind (L1.at ?_)))))))
 show wpAny _ _ (bindTo _ _ _ _) _ _ _
 show wpAny _ _ (holding [Value.builtin "object.__class__"] (call (Value.builtin "getset_descriptor.__get__") [Value.builtin "object.__class__",Value.ref x,Value.ref D]) >>= ret) _ _ _
 exact wpAny_bind (wpAny_holding (wpAny_call (exc_class_get (s:=⟨hh,g,d,t,os⟩) X I k.hm (wpAny_pure hq))))
theorem exc_class {Q:Option Value -> Shared -> Prop} (k:ExcKit K D) (X:K.In s.heap) (I:ExcIn s.heap x D) (h:Q (some (.ref D)) { s with toks:=s.toks + 1 }):wpAny (model prog w) A (getAttr? (.ref x) "__class__") Q E s:=by
 obtain ⟨hh,g,d,t,os⟩:=s
 have L0:=I.type (M:=model prog w)
 have L1:=looks_findIn (M:=model prog w) X k.ga
 have L2:=looks_findIn (M:=model prog w) X k.hk
 unfold getAttr? getAttrBy? getAttrBy
 refine wpAny_bind (wpAny_mkText (wpAny_bind (wpAny_attempt (wpAny_holding (wpAny_bind (L0.at (wpAny_bind (L1.at ?_))))))))
 show wpAny _ _ (getAttrByItsOwn _ _ _ _ _ _) _ _ _
 unfold getAttrByItsOwn hookBefore
 refine wpAny_bind (L2.at ?_)
 refine wpAny_bind (wpAny_attempt (wpAny_holding ?_))
 show wpAny _ _ (boundAndCalled _ _ _) _ _ _
 unfold boundAndCalled
 rw [F.attr_ValueError.ga.bind]
 refine wpAny_bind (wpAny_pure ?_)
 refine wpAny_call (codeAny_call_builtin F.attr_ValueError.ga.plain F.entry_bexc_ga (exc_check k X I (exc_entry k X I ?_)))
 exact handed_on (s:=⟨hh,g,d,t + 1,os⟩) rfl (wpAny_pure h)
theorem kitx_exc (k:ExcKit K D):KitX K (.ref x) (.ref D) (fun h=>ExcIn h x D) where
 ty:=fun _ _ _ I=>I.type
 it:=fun _ _ X _=>by
  obtain ⟨cdD,hcD⟩:=Option.isSome_iff_exists.mp k.cl
  unfold clsIn at hcD
  split at hcD
  ·rename_i c' d' cd' sl' ho
   intro A' Q' E' s' k q
   unfold isType loadHead
   exact wpAny_bind (wpAny_loadPart (k _ _ (X _ _ ho)) (wpAny_pure q))
  ·cases hcD
 ne:=fun h tp dd its n sl X htp=>by
  obtain ⟨cdD,hcD⟩:=Option.isSome_iff_exists.mp k.cl
  refine Bool.eq_false_iff.mpr fun q=>?_
  have e:D = tp:=Value.ref.inj (beq_iff_eq.mp q)
  subst e
  unfold clsIn at hcD
  split at hcD
  ·rename_i c' d' cd' sl' ho
   have z:=(X _ _ ho).symm.trans htp
   cases z
  ·cases hcD
 ca:=fun X I q=>exc_class k X I q
end
end PySem.W
namespace L2
open PySem PySem.Spec PyProof.Rows
section
variable {X:Cx} {K:PySem.W.Frag}
def rIsiE (K:PySem.W.Frag) (c:Value) (cv:V):List V -> Hp -> VK -> Prop:=fun xs H Q=>∃ (a D:Addr) (b:Bool),xs = [.ref a,cv] /\ H a = some (IsExc a (.ref D)) /\ PySem.W.ExcKit K D /\ PySem.W.kitOne K (.ref D) c = some b /\ Q (.bl b) H
theorem isi_exc {pins:List (Addr × Obj)} {s:Shared} {σ:St} {H:Hp} {a D:Addr} {b:Bool} {c:Value} {Q:VK} (I:Inv X pins σ H s) (ha:H a = some (IsExc a (.ref D))) (k:PySem.W.ExcKit X.K D) (e:PySem.W.kitOne X.K (.ref D) c = some b) (q:Q (.bl b) H) :
  wpAny (model X.prog X.w) X.A (call (.builtin "isinstance") [.ref a,c]) (EP X pins σ Q) X.xe s:=by
 obtain ⟨⟨o,vs,h1,h2,h3,_⟩,_⟩:=(I.hok a _ ha)
 refine PySem.W.kia_one (PySem.W.kitx_exc k) I.kIn ⟨o,h1,h2,?_⟩ e (fun z=>nomatch z) fun tk=>⟨.bl b,H,I.tok _,rfl,q⟩
 unfold PySem.W.notCls
 rw [h3]
theorem yE (hK:X.K = K:=by rfl) {C:Addr}:CallR X (.builtin "isinstance") (rIsiE K (.ref C) (.ref C)):=by
 subst hK
 intro pins s σ H xs us Q I r h
 obtain ⟨a,D,b,rfl,ha,k,e,q⟩:=h
 obtain ⟨u,w',rfl,ru,rw'⟩:=vals2 r
 cases (show u = Value.ref a from ru)
 cases (show w' = Value.ref C from rw')
 exact isi_exc I ha k e q
theorem call_isinstET (hK:X.K = K:=by rfl) {T:String}:CallR X (.builtin "isinstance") (rIsiE K (.type T) (.ty T)):=by
 subst hK
 intro pins s σ H xs us Q I r h
 obtain ⟨a,D,b,rfl,ha,k,e,q⟩:=h
 obtain ⟨u,w',rfl,ru,rw'⟩:=vals2 r
 cases (show u = Value.ref a from ru)
 cases (show w' = Value.type T from rw')
 exact isi_exc I ha k e q
end
end L2
namespace L2
open PySem PySem.Spec PyProof.Rows
structure RoomH (k:Nat) (A:Around):Prop where
 dp:A.depth + 3 * k + 5 < recursionLimit
 un:A.units + 16 * k + 200 < cLine
theorem Room.h {k:Nat} {A:Around} (r:Room k A):RoomH k A:=⟨r.dp,r.un⟩
theorem RoomH.mark {k:Nat} {A:Around} (r:RoomH k A) (e:Value):RoomH k (A.mark (some e)):=⟨r.dp,r.un⟩
theorem RoomH.deeper {k:Nat} {A:Around} (r:RoomH (k + 1) A) (env:Env):RoomH k (A.deeper env) :=
 ⟨by have:=r.dp; show A.depth + 1 + 3 * k + 5 < _; omega,by have:=r.un; show A.units + 3 + 16 * k + 200 < _; omega⟩
def cxH (P:Program) (w:World) (K:PySem.W.Frag) (mg:Str -> Option Value) (base:Heap) (N:List Str) (qual:Str) (scope:Scope) (f:Addr) (cd:Value) (A:Around) (outer:List Env) (s:Shared) (H:Hp) (E:XK):Cx :=
 { cxOf CX0 P w K mg base N qual scope f cd A outer s H E with calm:=false,xe:=fun _ _=>False }
section
variable {P:Program} {w:World} {K:PySem.W.Frag} {mg:Str -> Option Value} {base:Heap}
theorem inv_startH {N ps:List Str} {qual:Str} {scope:Scope} {f:Addr} {cd:Value} {A:Around} {outer:List Env} {s s1:Shared} {H:Hp} {E:XK} {us:List Value} {vs:List V}
  (S:FnScope N ps scope) (e0:Env0 P w K mg base A outer s H) (hl:vs.length = ps.length) (r:Vals vs us)
  (x:InCallC s s.heap.objs.size (bindL (envOfC qual scope s.heap.objs.size f cd).kindOf (ps.zip us) fun _=>none) (cellsFrom (s.heap.objs.size + 1) scope.names []) (bindC (envOfC qual scope s.heap.objs.size f cd).kindOf (ps.zip us) fun _=>none) s1) :
  Inv (cxH P w K mg base N qual scope f cd A outer s H E) [] (start N vs) H s1:=by
 have e1:Env0 P w K mg base { A with handled:=none } outer s H:=⟨e0.frames,e0.mod,e0.bs,e0.bsz,e0.funs,e0.frf,e0.hok,e0.bare⟩
 have I:=inv_start (CX:=CX0) (E:=E) (A:={ A with handled:=none }) S rfl e1 hl r x
 exact ⟨⟨I.ok.mod,I.ok.kind,I.ok.glob,I.ok.blt,I.ok.above,I.ok.inj,I.ok.has,I.ok.cab,fun z=>(by cases z),Around.frames_deeper e0.frames,I.ok.stk,I.ok.exf,I.ok.bs,I.ok.bsz,I.ok.noex,I.ok.exfs,I.ok.funs,I.ok.frf⟩,I.os,I.bare,I.base,I.loc,I.cell,I.free,I.freeC,I.pin,I.hok,I.len⟩
end
end L2
namespace An20
open PySem L2 An
seal L2.PS L2.PSs L2.PE L2.PT L2.PW L2.PA L2.PG L2.PGs L2.PI L2.PFi L2.PC
def top (i:Nat):Stmt:=PySem.Challenge.pw_annals_k20_what_lies_before.main.body.getD i (.Pass ⟨0,0,0,0⟩)
def kinds:List String:=["NoneType","bool","int","str","list","tuple","dict"]
def xE:List (Key × V):=[(Sum.inr "leaf",.str "L"),(Sum.inr "tree",.str "T"),(Sum.inr "note",.str "N")]
theorem letters_at (t:Th):valV xE (Sum.inr t.word:Key) = some (.str t.letter):=by
 cases t
 ·show valV xE (Sum.inr "leaf":Key) = some (.str "L")
  decide +kernel
 ·show valV xE (Sum.inr "tree":Key) = some (.str "T")
  decide +kernel
 ·show valV xE (Sum.inr "note":Key) = some (.str "N")
  decide +kernel
section
variable {K:PySem.W.Frag} {H:Hp}
theorem leaf_at {ls:List Str} {v:V} (h:Dt K H (Th.leaf ls).dat v):∃ a b,v = .ref a /\ SqT K H a [.str "leaf",.ref b] /\ SqT K H b (ls.map V.str):=by
 obtain ⟨a,xs,rfl,hs,x0,r0,rfl,e0,x1,r1,rfl,⟨b,ys,rfl,hb,hy⟩,e2⟩:=h
 have e0:x0 = .str "leaf":=e0
 have e2:r1 = []:=e2
 subst e0 e2
 rw [DtAll.strs_of hy] at hb
 exact ⟨a,b,rfl,hs,hb⟩
theorem tree_at {rs:List (Str × Str)} {v:V} (h:Dt K H (Th.tree rs).dat v):∃ a b,v = .ref a /\ SqT K H a [.str "tree",.ref b] /\ Dt K H (.tuple (rs.map yD)) (.ref b):=by
 obtain ⟨a,xs,rfl,hs,x0,r0,rfl,e0,x1,r1,rfl,⟨b,ys,rfl,hb,hy⟩,e2⟩:=h
 have e0:x0 = .str "tree":=e0
 have e2:r1 = []:=e2
 subst e0 e2
 exact ⟨a,b,rfl,hs,b,ys,rfl,hb,hy⟩
theorem jB {t:Str} {ps:List Str} {w:Str} {v:V} (h:Dt K H (Th.note t ps w).dat v):∃ a b,v = .ref a /\ SqT K H a [.str "note",.str t,.ref b,.str w] /\ SqT K H b (ps.map V.str):=by
 obtain ⟨a,xs,rfl,hs,x0,r0,rfl,e0,x1,r1,rfl,e1,x2,r2,rfl,⟨b,ys,rfl,hb,hy⟩,x3,r3,rfl,e3,e4⟩:=h
 have e0:x0 = .str "note":=e0
 have e1:x1 = .str t:=e1
 have e3:x3 = .str w:=e3
 have e4:r3 = []:=e4
 subst e0 e1 e3 e4
 rw [DtAll.strs_of hy] at hb
 exact ⟨a,b,rfl,hs,hb⟩
theorem kE {t:Th} {v:V} (h:Dt K H t.dat v):∃ a r,v = .ref a /\ SqT K H a (.str t.word :: r):=by
 cases t with
 | leaf ls=>obtain ⟨a,b,e,h1,_⟩:=leaf_at h; exact ⟨a,_,e,h1⟩
 | tree rs=>obtain ⟨a,b,e,h1,_⟩:=tree_at h; exact ⟨a,_,e,h1⟩
 | note t ps w=>obtain ⟨a,b,e,h1,_⟩:=jB h; exact ⟨a,_,e,h1⟩
theorem row_at {r:Str × Str} {v:V} (h:Dt K H (yD r) v):∃ a,v = .ref a /\ SqT K H a [.str r.1,.str r.2]:=by
 obtain ⟨a,xs,rfl,hs,x0,r0,rfl,e0,x1,r1,rfl,e1,e2⟩:=h
 have e0:x0 = .str r.1:=e0
 have e1:x1 = .str r.2:=e1
 have e2:r1 = []:=e2
 subst e0 e1 e2
 exact ⟨a,rfl,hs⟩
theorem rows_get {rs:List (Str × Str)} {xs:List V} {i:Nat} {x:V} (h:DtAll K H (rs.map yD) xs) (e:xs[i]? = some x):∃ r a,rs[i]? = some r /\ x = .ref a /\ SqT K H a [.str r.1,.str r.2]:=by
 obtain ⟨d,e1,e2⟩:=h.get e
 rw [List.getElem?_map] at e1
 cases q:rs[i]? with
 | none=>rw [q] at e1; cases e1
 | some r =>
  rw [q] at e1
  have e1:yD r = d:=Option.some.inj e1
  subst e1
  obtain ⟨a,e3,e4⟩:=row_at e2
  exact ⟨r,a,rfl,e3,e4⟩
end
def spLetter (K:PySem.W.Frag):Sp:=fun vs H Q _=>∃ v t,vs = [v] /\ Dt K H (Th.dat t) v /\ Q (.str t.letter) H
def spTreeParts (K:PySem.W.Frag):Sp:=fun vs H Q _=>∃ v rs,vs = [v] /\ Dt K H (.tuple (rs.map yD)) v /\ rs.length <= 1000 /\ ∀ l,H l = none -> Q (.ref l) (upd H l (.lst ((yB rs).map V.str)))
def spParts (K:PySem.W.Frag):Sp:=fun vs H Q _=>∃ v t,vs = [v] /\ Dt K H (Th.dat t) v /\ t.Good /\ ∀ l H',Same H H' -> H l = none -> H' l = some (.lst (t.parts.map V.str)) -> Q (.ref l) H'
def spCounted:Sp:=fun vs H Q _=>∃ x,vs = [.str x] /\ x.length <= 1000 /\ Q (.str (counted x)) H
def spSpelled (K:PySem.W.Frag):Sp:=fun vs H Q _=>∃ v t,vs = [v] /\ Dt K H (Th.dat t) v /\ t.Good /\ ∀ H',Same H H' -> Q (.str t.sp) H'
def spDigest (K:PySem.W.Frag):Sp:=fun vs H Q _=>∃ v t,vs = [v] /\ Dt K H (Th.dat t) v /\ t.Good /\ ∀ H',Same H H' -> Q (.int (dg t.sp)) H'
structure Txt (P:Program) (w:World) (K:PySem.W.Frag) (mg:Str -> Option Value) (t1 t2 t3 t4 t5 t6:Tok) (aL aC aN aT aA b1 b2 b3 b4 b5 b6 b7 b8 fP:Addr):Prop where
 len:mg "len" = none
 all:mg "all" = none
 ord:mg "ord" = none
 isinstance:mg "isinstance" = none
 str:mg "str" = none
 set:mg "set" = none
 sorted:mg "sorted" = none
 tuple:mg "tuple" = none
 list:mg "list" = none
 max:mg "max" = none
 int:mg "int" = none
 bool:mg "bool" = none
 range:mg "range" = none
 ValueError:mg "ValueError" = none
 LONGEST_LINE:mg "LONGEST_LINE" = some (.int 20 t1)
 LONGEST_LABEL:mg "LONGEST_LABEL" = some (.int 8 t2)
 MOST_PARENTS:mg "MOST_PARENTS" = some (.int 2 t3)
 PERCENT:mg "PERCENT" = some (.int 37 t4)
 DIGEST_FACTOR:mg "DIGEST_FACTOR" = some (.int 31 t5)
 DIGEST_BOUND:mg "DIGEST_BOUND" = some (.int 97 t6)
 LETTERS:mg "LETTERS" = some (.ref aL)
 NoName:mg "NoName" = some (.ref aN)
 NoThing:mg "NoThing" = some (.ref aT)
 AnnalsError:mg "AnnalsError" = some (.ref aA)
 BadPath:mg "BadPath" = some (.ref b1)
 BadFiles:mg "BadFiles" = some (.ref b2)
 NoFit:mg "NoFit" = some (.ref b3)
 Clash:mg "Clash" = some (.ref b4)
 NoVersion:mg "NoVersion" = some (.ref b5)
 BadLine:mg "BadLine" = some (.ref b6)
 NoBranch:mg "NoBranch" = some (.ref b7)
 BadBranch:mg "BadBranch" = some (.ref b8)
 parents_in:mg "parents_in" = some (.ref fP)
 Shelf:mg "Shelf" = some (.ref aC)
 xNoName:PySem.W.excIn K aN mroVE "ValueError.__new__" = true
 xNoThing:PySem.W.excIn K aT mroVE "ValueError.__new__" = true
 xNoVersion:PySem.W.excIn K b5 mroVE "ValueError.__new__" = true
 kd:KD P w K aL xE
 cls:Cls K aC
 n1:NoAttr K aC "thing_by_name"
 n2:NoAttr K aC "name_by_thing"
 n3:NoAttr K aC "next_numbers"
 exmV:PySem.W.exmOne K (.ref b5) (.ref aA) = some true
 ekV:PySem.W.ExcKit K b5
 kV0:PySem.W.kitOne K (.ref b5) (.ref aT) = some false
 kV1:PySem.W.kitOne K (.ref b5) (.ref aN) = some false
 kV2:PySem.W.kitOne K (.ref b5) (.ref b2) = some false
 kV3:PySem.W.kitOne K (.ref b5) (.ref b1) = some false
 kV4:PySem.W.kitOne K (.ref b5) (.ref b3) = some false
 kV5:PySem.W.kitOne K (.ref b5) (.ref b4) = some false
 kV6:PySem.W.kitOne K (.ref b5) (.ref b7) = some false
 kV7:PySem.W.kitOne K (.ref b5) (.ref b8) = some false
 kV8:PySem.W.kitOne K (.ref b5) (.ref b5) = some true
 kV9:PySem.W.kitOne K (.ref b5) (.ref b6) = some false
 kVV:PySem.W.kitOne K (.ref b5) (.type "ValueError") = some true
 kit:∀ a ∈ kinds,∀ b ∈ kinds,PySem.W.kitOne K (.type a) (.type b) = some (a == b || (a == "bool" && b == "int"))
theorem nameD_in (d:PyData):nameD d ∈ kinds:=by cases d <;> simp [nameD,kinds]
def txtD:PyData -> Str
 | .str x=>x
 | _=>""
def x8:PyData -> Bool
 | .tuple ds=>ds.all textD && (decide (ds.length <= 2) && decide ((AxS.uniq (ds.map txtD)).length = ds.length))
 | _=>false
def spParentsB (K:PySem.W.Frag):Sp:=fun vs H Q _=>∃ (d:PyData) (v:V),vs = [v] /\ Dw K H d v /\ small d = true /\ ∀ H',Same H H' -> Q (.bl (x8 d)) H'
theorem texts_at {K:PySem.W.Frag} {H:Hp}:∀ {ds:List PyData} {xs:List V},DwAll K H ds xs -> ds.all textD = true -> xs = (ds.map txtD).map V.str
 | [],_,h,_=>by rw [show _ = [] from h]; rfl
 | .str x :: ds,_,⟨v,r,e,hv,hr⟩,h=>by
  rw [List.all_cons,Bool.and_eq_true] at h
  rw [e,texts_at hr h.2,show v = V.str x from hv]; rfl
 | .none :: _,_,_,h=>by cases h
 | .bool _ :: _,_,_,h=>by cases h
 | .int _ :: _,_,_,h=>by cases h
 | .list _ :: _,_,_,h=>by cases h
 | .tuple _ :: _,_,_,h=>by cases h
 | .dict _ :: _,_,_,h=>by cases h
theorem jV (d:PyData):(nameD d == "str" || (nameD d == "bool" && "str" == "int")) = textD d:=by cases d <;> rfl
def labD:PyData -> Str
 | .tuple (.str l :: _)=>l
 | _=>""
def rowsD:PyData -> Bool
 | .tuple ds=>ds.all rowD && riseB (ds.map labD)
 | _=>false
def spRows (K:PySem.W.Frag):Sp:=fun vs H Q _=>∃ (d:PyData) (v:V),vs = [v] /\ Dw K H d v /\ small d = true /\ (∀ ds,d = .tuple ds -> ds.length <= 60) /\ ∀ H',Same H H' -> Q (.bl (rowsD d)) H'
theorem row_atW {K:PySem.W.Frag} {H:Hp} {d:PyData} {v:V} (h:Dw K H d v) (r:rowD d = true):∃ (t:Addr) (y:V),v = .ref t /\ SqT K H t [.str (labD d),y] /\ jA (labD d) = true:=by
 match d,r with
 | .tuple [l,n],r =>
  have r:(j6 l && textD n) = true:=r
  rw [Bool.and_eq_true] at r
  obtain ⟨t,xs,rfl,ht,x0,r0,rfl,h0,x1,r1,rfl,h1,e⟩:=h
  have e:r1 = []:=e
  subst e
  cases l with
  | str x=>cases (show x0 = _ from h0); exact ⟨t,x1,rfl,ht,r.1⟩
  | none=>cases r.1
  | bool _=>cases r.1
  | int _=>cases r.1
  | list _=>cases r.1
  | tuple _=>cases r.1
  | dict _=>cases r.1
theorem labelB_ok {x:Str} (h:jA x = true):PyData.strOk x = true:=by
 unfold jA at h
 rw [Bool.and_eq_true] at h
 rw [qJ]
 intro c hc
 have:=List.all_eq_true.mp h.2 c hc
 unfold lowB at this
 rw [Bool.and_eq_true] at this
 have:=of_decide_eq_true this.2
 omega
def atD (ds:List PyData) (i:Nat):PyData:=(ds[i]?).getD .none
def leafB (word:Str) (ds:List PyData):Bool:=decide (word = "leaf") && (decide (ds.length = 1) && linesD (atD ds 0))
def treeB (word:Str) (ds:List PyData):Bool:=decide (word = "tree") && (decide (ds.length = 1) && rowsD (atD ds 0))
def spForm (K:PySem.W.Frag) (b:Str -> List PyData -> Bool):Sp:=fun vs H Q _=>∃ (word:Str) (a:Addr) (ds:List PyData) (xs:List V),vs = [.str word,.ref a] /\ SqT K H a xs /\ DwAll K H ds xs /\ yH ds = true /\ ds.length <= 60 /\ (∀ e ∈ ds,∀ es,e = .tuple es -> es.length <= 60) /\ ∀ H',Same H H' -> Q (.bl (b word ds)) H'
def noteB (word:Str) (ds:List PyData):Bool:=decide (word = "note") && (decide (ds.length = 3) && (textD (atD ds 0) && (x8 (atD ds 1) && lineD (atD ds 2))))
def jN:PyData -> Bool
 | .tuple (.str word :: ds)=>leafB word ds || (treeB word ds || noteB word ds)
 | _=>false
def narrow (d:PyData):Prop:=∀ ds,d = .tuple ds -> ds.length <= 60 /\ ∀ e ∈ ds,∀ es,e = .tuple es -> es.length <= 60
def spThingB (K:PySem.W.Frag):Sp:=fun vs H Q _=>∃ (d:PyData) (v:V),vs = [v] /\ Dw K H d v /\ small d = true /\ narrow d /\ ∀ H',Same H H' -> Q (.bl (jN d)) H'
theorem cut_any {K:PySem.W.Frag} {H H':Hp} {a:Addr} {xs:List V} {lo hi:Option Int} {v:V} (hs:SqT K H a xs) (h:(v = .ref a /\ H' = H /\ cutV xs lo hi = xs) \/ (∃ p,H p = none /\ v = .ref p /\ H' = upd H p (.tup (cutV xs lo hi)))) :
  ∃ p:Addr,v = .ref p /\ Same H H' /\ SqT K H' p (cutV xs lo hi):=by
 rcases h with ⟨rfl,rfl,e2⟩ | ⟨p,np,rfl,rfl⟩
 ·exact ⟨a,rfl,Same.refl _,by rw [e2]; exact hs⟩
 ·exact ⟨p,rfl,zE np,SqT.of zD⟩
def spNeed (K:PySem.W.Frag) (aT:Addr):Sp:=fun vs H Q E=>∃ (d:PyData) (v:V),vs = [v] /\ Dw K H d v /\ small d = true /\ narrow d /\ (jN d = true -> ∀ H',Same H H' -> Q v H') /\ (jN d = false -> ∀ H',Same H H' -> E (.ref aT) none H')
def hasD (S:List En):PyData -> Bool
 | .str x=>decide (x ∈ S.map En.nm)
 | _=>false
def spTake (P:Program) (w:World) (K:PySem.W.Frag) (C:Addr):Sp:=fun vs H Q _=>∃ (a:Addr) (fp:List Addr) (S:List En) (e:En) (t:Addr),vs = [.ref a,.str e.nm,.ref t] /\ ShAt P w K C H a fp S /\ GoodE e /\ Dt K H e.d (.ref t) /\ e.d ∉ S.map (·.d) /\ e.nm ∉ S.map En.nm /\ S.length < 2000 /\
 ∀ H',Off fp H H' -> ShAt P w K C H' a fp (S ++ [e]) -> Q .non H'
def kL (P:Program) (w:World) (K:PySem.W.Frag) (C:Addr):Sp:=fun vs H Q _=>∃ (a:Addr) (fp:List Addr) (S:List En),vs = [.ref a] /\ ShAt P w K C H a fp S /\ ∀ l,H l = none -> Q (.ref l) (upd H l (.lst (S.map fun e=>V.str e.nm)))
def hasK (kvs:List (Key × V)):PyData -> Bool
 | .str x=>(valV kvs (Sum.inr x:Key)).isSome
 | _=>false
def spKey (K:PySem.W.Frag):Sp:=fun vs H Q _=>∃ (d1:Addr) (kvs:List (Key × V)) (d:PyData) (v:V),vs = [.ref d1,v] /\ H d1 = some (.dK kvs) /\ Dw K H d v /\ Q (.bl (hasK kvs d)) H
def spNeedName (P:Program) (w:World) (K:PySem.W.Frag) (C aN:Addr):Sp:=fun vs H Q E=>∃ (a:Addr) (fp:List Addr) (S:List En) (d:PyData) (v:V),vs = [.ref a,v] /\ ShAt P w K C H a fp S /\ Dw K H d v /\ (hasD S d = true -> Q .non H) /\ (hasD S d = false -> E (.ref aN) none H)
def spHas (P:Program) (w:World) (K:PySem.W.Frag) (C:Addr):Sp:=fun vs H Q _=>∃ (a:Addr) (fp:List Addr) (S:List En) (d:PyData) (v:V),vs = [.ref a,v] /\ ShAt P w K C H a fp S /\ Dw K H d v /\ Q (.bl (hasD S d)) H
def jD (P:Program) (w:World) (K:PySem.W.Frag) (C aN:Addr):Sp:=fun vs H Q E=>∃ (a:Addr) (fp:List Addr) (S:List En) (d:PyData) (v:V),vs = [.ref a,v] /\ ShAt P w K C H a fp S /\ Dw K H d v /\ (∀ e ∈ S,d = .str e.nm -> ∀ t,Dt K H e.d (.ref t) -> Q (.ref t) H) /\ (hasD S d = false -> E (.ref aN) none H)
def spForm1 (P:Program) (w:World) (K:PySem.W.Frag) (C aN:Addr):Sp:=fun vs H Q E=>∃ (a f:Addr) (fp:List Addr) (S:List En) (x:Str) (ws:List Str),vs = [.ref a,.str x,.ref f] /\ ShAt P w K C H a fp S /\ (∀ e ∈ S,isThE e) /\ SqT K H f (ws.map V.str) /\ (∀ y ∈ ws,PyData.strOk y = true) /\
 (yA S x ws = true -> Q .non H) /\ (yA S x ws = false -> E (.ref aN) none H)
def spNeedN (P:Program) (w:World) (K:PySem.W.Frag) (C aN:Addr):Sp:=fun vs H Q E=>∃ (a:Addr) (fp:List Addr) (S:List En) (t:Th) (v:V),vs = [.ref a,v] /\ ShAt P w K C H a fp S /\ (∀ e ∈ S,isThE e) /\ Dt K H t.dat v /\
 (namesOk S t = true -> ∀ H',Same H H' -> Q .non H') /\ (namesOk S t = false -> ∀ H',Same H H' -> E (.ref aN) none H')
def PutRes (P:Program) (w:World) (K:PySem.W.Frag) (C:Addr) (H:Hp) (a:Addr) (fp:List Addr) (S:List En) (t:Th) (H2:Hp) (S':List En) (e:En):Prop :=
 Off fp H H2 /\ ShAt P w K C H2 a fp S' /\ e ∈ S' /\ e.d = t.dat /\ (S' = S \/ (S' = S ++ [e] /\ e = entT S t /\ t.dat ∉ S.map (·.d)))
def spPut (P:Program) (w:World) (K:PySem.W.Frag) (C aN aT:Addr):Sp:=fun vs H Q E=>∃ (a:Addr) (fp:List Addr) (S:List En) (d:PyData) (v:V),vs = [.ref a,v] /\ ShAt P w K C H a fp S /\ (∀ e ∈ S,isThE e) /\ Dw K H d v /\ small d = true /\ narrow d /\ (jN d = true -> ∃ t:Th,d = t.dat /\ t.Good) /\ S.length < 2000 /\ (∀ h,(nextOf S h).getD 0 < 1000000) /\
 (jN d = false -> ∀ H',Same H H' -> E (.ref aT) none H') /\
 (∀ t,d = t.dat -> jN d = true -> namesOk S t = false -> ∀ H',Same H H' -> E (.ref aN) none H') /\
 (∀ t,d = t.dat -> jN d = true -> namesOk S t = true -> ∀ H2 S' e,PutRes P w K C H a fp S t H2 S' e -> Q (.str e.nm) H2)
def spInit (P:Program) (w:World) (K:PySem.W.Frag) (C:Addr):Sp:=fun vs H Q _=>∃ (x dx:Addr) (b:V) (S:List En),vs = [.ref x,b] /\ H x = some (.ins C dx []) /\ H dx = some (.own x) /\ dx ≠ x /\
 ((b = .non /\ S = []) \/ ∃ a fp0,b = .ref a /\ ShAt P w K C H a fp0 S /\ x ∉ fp0 /\ dx ∉ fp0 /\ S.length < 2000) /\ ∀ fp H',(∀ c ∈ fp,c = x \/ c = dx \/ H c = none) -> Off [x] H H' -> ShAt P w K C H' x fp S -> Q .non H'
section
variable {P:Program} {w:World} {K:PySem.W.Frag} {mg:Str -> Option Value} {base:Heap} {t1 t2 t3 t4 t5 t6:Tok} {aL aC aN aT aA b1 b2 b3 b4 b5 b6 b7 b8 fP:Addr}
theorem Txt.is {d:PyData} {T:String} (t:Txt P w K mg t1 t2 t3 t4 t5 t6 aL aC aN aT aA b1 b2 b3 b4 b5 b6 b7 b8 fP) (hT:T ∈ kinds):PySem.W.kitOne K (.type (nameD d)) (.type T) = some (nameD d == T || (nameD d == "bool" && T == "int")):=t.kit _ (nameD_in d) _ hT
namespace f_is_sign
abbrev st:Stmt:=top 23
theorem sc:FnScope ["sign"] ["sign"] (zC st):=⟨rfl,rfl,rfl,by decide +kernel,rfl,by decide +kernel,by decide +kernel⟩
theorem ok {f:Addr} {fd:FuncData} (F:Fun K "is_sign" "is_sign" st f fd) (T:Txt P w K mg t1 t2 t3 t4 t5 t6 aL aC aN aT aA b1 b2 b3 b4 b5 b6 b7 b8 fP):FnOk P w K mg base CX0 1 f fd ["sign"] spSign:=by
 refine F.ok sc (fun vs H Q E h=>?_) (fun cdv A outer s H vs Q E hr h=>?_)
 ·obtain ⟨c,rfl,_⟩:=h
  rfl
 ·obtain ⟨c,rfl,k⟩:=h
  refine ⟨_,(zG (zO (yX (pe_chain op_leS op_leS pe_str (pv 0) pe_str) (xT (yI op_ne (zK call_ord (by rfl) T.ord PyProof.Rows.boot_ord (zA (pv 0) zB)) (yR (v:=.int 37) rfl T.PERCENT ⟨_,rfl⟩) (zU _)))))),?_⟩
  refine ⟨_,rfl,_,_,rfl,rfl,_,rfl,?_⟩
  rw [le_one c 32 " " (by decide +kernel)]
  refine ite2 (fun h1=>?_) (fun h1=>?_)
  ·refine ⟨_,_,rfl,rfl,_,rfl,?_⟩
   rw [one_le c 126 "~" (by decide +kernel)]
   refine ite2 (fun h2=>?_) (fun h2=>?_)
   ·refine ⟨_,rfl,_,rfl,rfl,rfl,?_⟩
    have e:signB c = !decide (V.int (((⟨#[c]⟩:Str).cps.getD 0 0:Nat):Int) = V.int 37):=by
     unfold signB
     rw [h1,h2]
     show decide (c ≠ 37) = !decide (V.int (c:Int) = V.int 37)
     rw [eq_comm]
     exact not_dec ⟨fun h z=>h (by rw [z]; rfl),fun h z=>h (by injection z with z; omega)⟩
    rw [e] at k
    exact k
   ·have e:signB c = false:=by
     unfold signB
     rw [h1,Bool.eq_false_iff.mpr h2]; rfl
    rw [e] at k
    exact k
  ·have e:signB c = false:=by
    unfold signB
    rw [Bool.eq_false_iff.mpr h1]; rfl
   rw [e] at k
   exact ⟨_,rfl,k⟩
end f_is_sign
namespace f_is_line
abbrev st:Stmt:=top 24
theorem sc:FnScope ["thing"] ["thing"] (zC st):=⟨rfl,rfl,rfl,by decide +kernel,rfl,by decide +kernel,by decide +kernel⟩
theorem ok {f:Addr} {fd:FuncData} (F:Fun K "is_line" "is_line" st f fd) (T:Txt P w K mg t1 t2 t3 t4 t5 t6 aL aC aN aT aA b1 b2 b3 b4 b5 b6 b7 b8 fP) (C_is_sign:Cal P w K mg base 1 "is_sign" ["sign"] spSign):FnOk P w K mg base CX0 2 f fd ["thing"] (spLine K):=by
 refine F.ok sc (fun vs H Q E h=>?_) (fun cdv A outer s H vs Q E hr h=>?_)
 ·obtain ⟨d,v,rfl,_⟩:=h
  rfl
 ·obtain ⟨d,v,rfl,hd,sm,k⟩:=h
  refine ⟨_,(zG (zO (yX (zK (zZ (K:=K)) (by rfl) T.isinstance PyProof.Rows.boot_isinstance (zA (pv 0) (zA (yT (v:=.ty "str") rfl T.str PyProof.Rows.boot_str rfl) zB))) (yX (yI op_le (zK qF (by rfl) T.len PySem.boot_len (zA (pv 0) zB)) (yR (v:=.int 20) rfl T.LONGEST_LINE ⟨_,rfl⟩) (zU _)) (xT (zK (qS rfl) (by rfl) T.all PyProof.Rows.boot_all (zA (xF (sc:=zC st) (N:=["thing"]) (N':=["sign"]) (src:=[none]) ⟨by decide +kernel,rfl,rfl,by decide +kernel,by decide +kernel,by decide +kernel,by decide +kernel⟩ rfl rfl rfl (pi_str (pv 0)) (fun _ _ _ _=>(zT (i:=0) (show (["sign"]:List Str).Nodup by decide +kernel) rfl (Or.inl rfl))) (fun _ _ _ _=>qP) (fun _ _ _ _=>(zM C_is_sign (hr.mono (by decide)) (zA (pv 0) zB)))) zB))))))),?_⟩
  refine ⟨_,rfl,_,_,d,_,rfl,hd,T.is (by simp [kinds]),_,rfl,?_⟩
  cases d with
  | str x =>
   cases (show v = _ from hd)
   have xl:x.length <= 1000:=of_decide_eq_true sm
   refine iteT ⟨_,rfl,x,rfl,le_line (by omega),_,_,rfl,rfl,_,rfl,ite2 (fun h1=>?_) (fun h1=>?_)⟩
   ·have h1:x.length <= 20:=by have:=of_decide_eq_true h1; omega
    refine ⟨_,rfl,_,rfl,comp_str0 (fun i ys σ H2=>∃ o,σ = [o] /\ H2 = H /\ ys = (((cs x).take i).map signB).map V.bl) ⟨none,rfl,rfl,rfl⟩ (le_line (by omega)) ?_ ?_ ?_⟩
    ·rintro i ys σ H2 hi ⟨o,rfl,rfl,rfl⟩
     rw [List.length_map,List.length_map,List.length_take]; omega
    ·rintro i c ys σ H2 hc ⟨o,rfl,rfl,rfl⟩
     refine ⟨_,rfl,c,rfl,_,rfl,rfl,?_⟩
     rw [y9 (cs_get hc),List.map_append]; rfl
    ·rintro ys σ H2 ⟨o,rfl,rfl,rfl⟩ p np
     refine ⟨p,_,rfl,SqL.of zD,?_⟩
     rw [length_cs,List.take_length,all_map]
     have e:lineD (.str x) = (cs x).all signB:=by
      show (decide (x.length <= 20) && (cs x).all signB) = _
      rw [decide_eq_true h1]; rfl
     rw [e] at k
     exact k _ (zE np)
   ·have e:lineD (.str x) = false:=by
     show (decide (x.length <= 20) && (cs x).all signB) = _
     rw [decide_eq_false (fun z=>h1 (decide_eq_true (by omega)))]; rfl
    rw [e] at k
    exact k _ (Same.refl _)
  | none=>exact iteF (k _ (Same.refl _))
  | bool b=>exact iteF (k _ (Same.refl _))
  | int i=>exact iteF (k _ (Same.refl _))
  | list ds=>exact iteF (k _ (Same.refl _))
  | tuple ds=>exact iteF (k _ (Same.refl _))
  | dict kvs=>exact iteF (k _ (Same.refl _))
end f_is_line
namespace f_is_lines
abbrev st:Stmt:=top 25
theorem sc:FnScope ["thing"] ["thing"] (zC st):=⟨rfl,rfl,rfl,by decide +kernel,rfl,by decide +kernel,by decide +kernel⟩
theorem ok {f:Addr} {fd:FuncData} (F:Fun K "is_lines" "is_lines" st f fd) (T:Txt P w K mg t1 t2 t3 t4 t5 t6 aL aC aN aT aA b1 b2 b3 b4 b5 b6 b7 b8 fP) (C_is_line:Cal P w K mg base 2 "is_line" ["thing"] (spLine K)):FnOk P w K mg base CX0 3 f fd ["thing"] (spLines K):=by
 refine F.ok sc (fun vs H Q E h=>?_) (fun cdv A outer s H vs Q E hr h=>?_)
 ·obtain ⟨d,v,rfl,_⟩:=h
  rfl
 ·obtain ⟨d,v,rfl,hd,sm,k⟩:=h
  refine ⟨_,(zG (zO (yX (zK (zZ (K:=K)) (by rfl) T.isinstance PyProof.Rows.boot_isinstance (zA (pv 0) (zA (yT (v:=.ty "tuple") rfl T.tuple PyProof.Rows.boot_tuple rfl) zB))) (xT (zK (qS rfl) (by rfl) T.all PyProof.Rows.boot_all (zA (xF (sc:=zC st) (N:=["thing"]) (N':=["line"]) (src:=[none]) ⟨by decide +kernel,rfl,rfl,by decide +kernel,by decide +kernel,by decide +kernel,by decide +kernel⟩ rfl rfl rfl (qD (pv 0)) (fun _ _ _ _=>(zT (i:=0) (show (["line"]:List Str).Nodup by decide +kernel) rfl (Or.inl rfl))) (fun _ _ _ _=>qP) (fun _ _ _ _=>(zM C_is_line (hr.mono (by decide)) (zA (pv 0) zB)))) zB)))))),?_⟩
  refine ⟨_,rfl,_,_,d,_,rfl,hd,T.is (by simp [kinds]),_,rfl,?_⟩
  cases d with
  | tuple ds =>
   obtain ⟨a,xs,rfl,hs,ha⟩:=hd
   obtain ⟨sl,sa⟩:=xU sm
   have hlen:=ha.length
   refine iteT ⟨_,rfl,a,rfl,⟨_,hs⟩,qE (K:=K) (a:=a) (xs:=xs) (fun i ys σ H2=>∃ o,σ = [o] /\ Same H H2 /\ ys = ((ds.take i).map lineD).map V.bl) ⟨none,rfl,Same.refl _,rfl⟩ (le_line (by omega)) ?_ ?_ ?_⟩
   ·rintro i ys σ H2 hi ⟨o,rfl,e2,rfl⟩
    refine ⟨e2.tupS hs,?_⟩
    rw [List.length_map,List.length_map,List.length_take]; omega
   ·rintro i x ys σ H2 hx ⟨o,rfl,e2,rfl⟩
    obtain ⟨d,hd,dx⟩:=ha.get hx
    refine ⟨_,rfl,d,x,rfl,dx.same e2,yM sa hd,fun H3 e3=>⟨_,rfl,e2.trans e3,?_⟩⟩
    rw [y9 hd,List.map_append]; rfl
   ·rintro ys σ H2 ⟨o,rfl,e2,rfl⟩ p np
    refine ⟨p,_,rfl,SqL.of zD,?_⟩
    rw [hlen,List.take_length,all_map]
    exact k _ (e2.trans (zE np))
  | none=>exact iteF (k _ (Same.refl _))
  | bool b=>exact iteF (k _ (Same.refl _))
  | int i=>exact iteF (k _ (Same.refl _))
  | list ds=>exact iteF (k _ (Same.refl _))
  | str x=>exact iteF (k _ (Same.refl _))
  | dict kvs=>exact iteF (k _ (Same.refl _))
end f_is_lines
namespace t_label
abbrev st:Stmt:=top 26
theorem sc:FnScope ["thing"] ["thing"] (zC st):=⟨rfl,rfl,rfl,by decide +kernel,rfl,by decide +kernel,by decide +kernel⟩
theorem ok {f:Addr} {fd:FuncData} (F:Fun K "is_label" "is_label" st f fd) (T:Txt P w K mg t1 t2 t3 t4 t5 t6 aL aC aN aT aA b1 b2 b3 b4 b5 b6 b7 b8 fP):FnOk P w K mg base CX0 1 f fd ["thing"] (spLabel K):=by
 refine F.ok sc (fun vs H Q E h=>?_) (fun cdv A outer s H vs Q E hr h=>?_)
 ·obtain ⟨d,v,rfl,_⟩:=h
  rfl
 ·obtain ⟨d,v,rfl,hd,sm,k⟩:=h
  refine ⟨_,(zF (yL (yO (zQ (K:=K) (zK (zZ (K:=K)) (by rfl) T.isinstance PyProof.Rows.boot_isinstance (zA (pv 0) (zA (yT (v:=.ty "str") rfl T.str PyProof.Rows.boot_str rfl) zB))) (fun _=>rfl)))
    (zG (zO xO))
    zV)
   (zG (zO (yX (pe_chain op_le op_le zH (zK qF (by rfl) T.len PySem.boot_len (zA (pv 0) zB)) (yR (v:=.int 8) rfl T.LONGEST_LABEL ⟨_,rfl⟩)) (xT (zK (qS rfl) (by rfl) T.all PyProof.Rows.boot_all (zA (xF (sc:=zC st) (N:=["thing"]) (N':=["sign"]) (src:=[none]) ⟨by decide +kernel,rfl,rfl,by decide +kernel,by decide +kernel,by decide +kernel,by decide +kernel⟩ rfl rfl rfl (pi_str (pv 0)) (fun _ _ _ _=>(zT (i:=0) (show (["sign"]:List Str).Nodup by decide +kernel) rfl (Or.inl rfl))) (fun _ _ _ _=>qP) (fun _ _ _ _=>(pe_chain op_leS op_leS pe_str (pv 0) pe_str))) zB))))))),?_⟩
  refine ⟨_,rfl,_,_,d,_,rfl,hd,T.is (by simp [kinds]),_,rfl,?_⟩
  cases d with
  | str x =>
   cases (show v = _ from hd)
   have xl:x.length <= 1000:=of_decide_eq_true sm
   refine iteF ?_
   refine ⟨_,rfl,x,rfl,le_line (by omega),_,_,rfl,rfl,_,rfl,ite2 (fun h0=>?_) (fun h0=>?_)⟩
   ·refine ⟨_,_,rfl,rfl,_,rfl,ite2 (fun h1=>?_) (fun h1=>?_)⟩
    ·have h0:1 <= x.length:=by have:=of_decide_eq_true h0; omega
     have h1:x.length <= 8:=by have:=of_decide_eq_true h1; omega
     refine ⟨_,rfl,_,rfl,comp_str0 (fun i ys σ H2=>∃ o,σ = [o] /\ H2 = H /\ ys = (((cs x).take i).map lowB).map V.bl) ⟨none,rfl,rfl,rfl⟩ (le_line (by omega)) ?_ ?_ ?_⟩
     ·rintro i ys σ H2 hi ⟨o,rfl,rfl,rfl⟩
      rw [List.length_map,List.length_map,List.length_take]; omega
     ·rintro i c ys σ H2 hc ⟨o,rfl,rfl,rfl⟩
      rw [y9 (cs_get hc),List.map_append]
      refine ⟨_,rfl,_,_,rfl,rfl,_,rfl,?_⟩
      rw [le_one c 97 "a" (by decide +kernel)]
      refine ite2 (fun h3=>?_) (fun h3=>?_)
      ·refine ⟨_,_,rfl,rfl,?_⟩
       rw [one_le c 122 "z" (by decide +kernel)]
       have e:lowB c = decide (c <= 122):=by unfold lowB; rw [h3]; rfl
       rw [e]
       exact ⟨_,rfl,rfl,rfl⟩
      ·have e:lowB c = false:=by unfold lowB; rw [Bool.eq_false_iff.mpr h3]; rfl
       rw [e]
       exact ⟨_,rfl,rfl,rfl⟩
     ·rintro ys σ H2 ⟨o,rfl,rfl,rfl⟩ p np
      refine ⟨p,_,rfl,SqL.of zD,?_⟩
      rw [length_cs,List.take_length,all_map]
      have e:j6 (.str x) = (cs x).all lowB:=by
       show (decide (1 <= x.length) && decide (x.length <= 8) && (cs x).all lowB) = _
       rw [decide_eq_true h0,decide_eq_true h1]; rfl
      rw [e] at k
      exact k _ (zE np)
    ·have e:j6 (.str x) = false:=by
      show (decide (1 <= x.length) && decide (x.length <= 8) && (cs x).all lowB) = _
      rw [decide_eq_false (p:=x.length <= 8) (fun z=>h1 (decide_eq_true (by omega))),Bool.and_false]; rfl
     rw [e] at k
     exact k _ (Same.refl _)
   ·have e:j6 (.str x) = false:=by
     show (decide (1 <= x.length) && decide (x.length <= 8) && (cs x).all lowB) = _
     rw [decide_eq_false (p:=1 <= x.length) (fun z=>h0 (decide_eq_true (by omega)))]; rfl
    rw [e] at k
    exact ⟨_,rfl,k _ (Same.refl _)⟩
  | none=>exact iteT (k _ (Same.refl _))
  | bool b=>exact iteT (k _ (Same.refl _))
  | int i=>exact iteT (k _ (Same.refl _))
  | list ds=>exact iteT (k _ (Same.refl _))
  | tuple ds=>exact iteT (k _ (Same.refl _))
  | dict kvs=>exact iteT (k _ (Same.refl _))
end t_label
namespace t_row
abbrev st:Stmt:=top 27
theorem sc:FnScope ["thing"] ["thing"] (zC st):=⟨rfl,rfl,rfl,by decide +kernel,rfl,by decide +kernel,by decide +kernel⟩
theorem ok {f:Addr} {fd:FuncData} (F:Fun K "is_row" "is_row" st f fd) (T:Txt P w K mg t1 t2 t3 t4 t5 t6 aL aC aN aT aA b1 b2 b3 b4 b5 b6 b7 b8 fP) (C_is_label:Cal P w K mg base 1 "is_label" ["thing"] (spLabel K)):FnOk P w K mg base CX0 2 f fd ["thing"] (spRow K):=by
 refine F.ok sc (fun vs H Q E h=>?_) (fun cdv A outer s H vs Q E hr h=>?_)
 ·obtain ⟨d,v,rfl,_⟩:=h
  rfl
 ·obtain ⟨d,v,rfl,hd,sm,k⟩:=h
  refine ⟨_,(zG (zO (yX (zK (zZ (K:=K)) (by rfl) T.isinstance PyProof.Rows.boot_isinstance (zA (pv 0) (zA (yT (v:=.ty "tuple") rfl T.tuple PyProof.Rows.boot_tuple rfl) zB))) (yX (yI xI (zK z6 (by rfl) T.len PySem.boot_len (zA (pv 0) zB)) zH (zU _)) (yX (zM C_is_label (hr.mono (by decide)) (zA (zS (ix_tup:IxR _ (rIxT K)) (pv 0) zH (fun _ _=>rfl)) zB)) (xT (zK (zZ (K:=K)) (by rfl) T.isinstance PyProof.Rows.boot_isinstance (zA (zS (ix_tup:IxR _ (rIxT K)) (pv 0) zH (fun _ _=>rfl)) (zA (yT (v:=.ty "str") rfl T.str PyProof.Rows.boot_str rfl) zB))))))))),?_⟩
  refine ⟨_,rfl,_,_,d,_,rfl,hd,T.is (by simp [kinds]),_,rfl,?_⟩
  cases d with
  | tuple ds =>
   obtain ⟨a,xs,rfl,hs,ha⟩:=hd
   obtain ⟨sl,sa⟩:=xU sm
   have hlen:=ha.length
   refine iteT ⟨_,rfl,a,_,rfl,.inr hs,rfl,_,rfl,ite2 (fun h1=>?_) (fun h1=>?_)⟩
   ·have h1:xs.length = 2:=by have:=of_decide_eq_true h1; injection this with z; omega
    match ds,ha,hlen,sa,k with
    | [l,n],⟨x0,r0,e0,d0,x1,r1,e1,d1,e2⟩,_,sa,k =>
     have e2:r1 = []:=e2
     subst e2 e1 e0
     refine ⟨_,rfl,a,_,_,_,rfl,rfl,hs,rfl,l,_,rfl,d0,yM (i:=0) sa rfl,fun H2 s2=>⟨_,rfl,ite2 (fun h2=>?_) (fun h2=>?_)⟩⟩
     ·refine ⟨_,rfl,a,_,_,_,rfl,rfl,s2.tupS hs,rfl,_,_,n,_,rfl,d1.same s2,T.is (by simp [kinds]),?_⟩
      have e:rowD (.tuple [l,n]) = (nameD n == "str" || (nameD n == "bool" && "str" == "int")):=by
       show (j6 l && textD n) = _
       rw [h2]
       cases n <;> rfl
      rw [e] at k
      exact k _ s2
     ·have e:rowD (.tuple [l,n]) = false:=by
       show (j6 l && textD n) = _
       rw [Bool.eq_false_iff.mpr h2]; rfl
      rw [e] at k
      exact k _ s2
    | [],_,hl,_,_=>exact absurd (hl.symm.trans h1) (by simp)
    | [_],_,hl,_,_=>exact absurd (hl.symm.trans h1) (by simp)
    | _ :: _ :: _ :: _,_,hl,_,_=>exact absurd (hl.symm.trans h1) (by simp)
   ·have e:rowD (.tuple ds) = false:=by
     match ds,hlen with
     | [_,_],hl=>exact absurd (decide_eq_true (by rw [hl]; rfl)) h1
     | [],_=>rfl
     | [_],_=>rfl
     | _ :: _ :: _ :: _,_=>rfl
    rw [e] at k
    exact k _ (Same.refl _)
  | none=>exact iteF (k _ (Same.refl _))
  | bool b=>exact iteF (k _ (Same.refl _))
  | int i=>exact iteF (k _ (Same.refl _))
  | list ds=>exact iteF (k _ (Same.refl _))
  | str x=>exact iteF (k _ (Same.refl _))
  | dict kvs=>exact iteF (k _ (Same.refl _))
end t_row
namespace t_parents
abbrev st:Stmt:=top 29
theorem sc:FnScope ["thing"] ["thing"] (zC st):=⟨rfl,rfl,rfl,by decide +kernel,rfl,by decide +kernel,by decide +kernel⟩
theorem ok {f:Addr} {fd:FuncData} (F:Fun K "is_parents" "is_parents" st f fd) (T:Txt P w K mg t1 t2 t3 t4 t5 t6 aL aC aN aT aA b1 b2 b3 b4 b5 b6 b7 b8 fP):FnOk P w K mg base CX0 1 f fd ["thing"] (spParentsB K):=by
 refine F.ok sc (fun vs H Q E h=>?_) (fun cdv A outer s H vs Q E hr h=>?_)
 ·obtain ⟨d,v,rfl,_⟩:=h
  rfl
 ·obtain ⟨d,v,rfl,hd,sm,k⟩:=h
  refine ⟨_,(zF (yL (PW.pt (kR (yO (zQ (K:=K) (zK (zZ (K:=K)) (by rfl) T.isinstance PyProof.Rows.boot_isinstance (zA (pv 0) (zA (yT (v:=.ty "tuple") rfl T.tuple PyProof.Rows.boot_tuple rfl) zB))) (fun _=>rfl))) (kD (yO (zQ (K:=K) (zK (qS rfl) (by rfl) T.all PyProof.Rows.boot_all (zA (xF (sc:=zC st) (N:=["thing"]) (N':=["name"]) (src:=[none]) ⟨by decide +kernel,rfl,rfl,by decide +kernel,by decide +kernel,by decide +kernel,by decide +kernel⟩ rfl rfl rfl (qD (pv 0)) (fun _ _ _ _=>(zT (i:=0) (show (["name"]:List Str).Nodup by decide +kernel) rfl (Or.inl rfl))) (fun _ _ _ _=>qP) (fun _ _ _ _=>(zK (zZ (K:=K)) (by rfl) T.isinstance PyProof.Rows.boot_isinstance (zA (pv 0) (zA (yT (v:=.ty "str") rfl T.str PyProof.Rows.boot_str rfl) zB))))) zB)) (fun _=>rfl))))))
    (zG (zO xO))
    zV)
   (zG (zO (yX (yI op_le (zK z6 (by rfl) T.len PySem.boot_len (zA (pv 0) zB)) (yR (v:=.int 2) rfl T.MOST_PARENTS ⟨_,rfl⟩) (zU _)) (xT (yI xI (zK call_lenS (by rfl) T.len PySem.boot_len (zA (z7 (call_set (K:=K) rfl) (by rfl) T.set PyProof.Rows.boot_set (zA (pv 0) zB)) zB)) (zK z6 (by rfl) T.len PySem.boot_len (zA (pv 0) zB)) (zU _))))))),?_⟩
  refine ⟨_,rfl,_,_,d,_,rfl,hd,T.is (by simp [kinds]),_,rfl,?_⟩
  cases d with
  | tuple ds =>
   obtain ⟨a,xs,rfl,hs,ha⟩:=hd
   obtain ⟨sl,sa⟩:=xU sm
   have hlen:=ha.length
   refine iteF ⟨_,rfl,a,rfl,⟨_,hs⟩,qE (K:=K) (a:=a) (xs:=xs) (fun i ys σ H2=>∃ o,σ = [o] /\ H2 = H /\ ys = ((ds.take i).map textD).map V.bl) ⟨none,rfl,rfl,rfl⟩ (le_line (by omega)) ?_ ?_ ?_⟩
   ·rintro i ys σ H2 hi ⟨o,rfl,rfl,rfl⟩
    refine ⟨hs,?_⟩
    rw [List.length_map,List.length_map,List.length_take]; omega
   ·rintro i x ys σ H2 hx ⟨o,rfl,rfl,rfl⟩
    obtain ⟨d,hd,dx⟩:=ha.get hx
    refine ⟨_,rfl,_,_,d,_,rfl,dx,T.is (by simp [kinds]),_,rfl,rfl,?_⟩
    rw [jV,y9 hd,List.map_append]; rfl
   ·rintro ys σ H2 ⟨o,rfl,rfl,rfl⟩ p np
    refine ⟨p,_,rfl,SqL.of zD,?_⟩
    rw [hlen,List.take_length,all_map]
    have u:=zE (o:=.lst ((ds.map textD).map V.bl)) np
    cases q:ds.all textD with
    | false =>
     have e:x8 (.tuple ds) = false:=by show (ds.all textD && _) = false; rw [q]; rfl
     rw [e] at k
     exact ⟨_,rfl,iteT (k _ u)⟩
    | true =>
     have ex:=texts_at ha q
     rw [ex] at hs
     refine ⟨_,rfl,iteF ?_⟩
     refine ⟨_,rfl,a,_,rfl,.inr (u.tupS hs),_,_,rfl,rfl,_,rfl,ite2 (fun h1=>?_) (fun h1=>?_)⟩
     ·refine ⟨_,rfl,a,ds.map txtD,rfl,.inr (u.tupS hs),by rw [List.length_map]; exact sl,fun p2 n2=>?_⟩
      have u2:=zE (o:=TxHO P w p2 (AxS.uniq (ds.map txtD))) n2
      refine ⟨p2,_,rfl,zD,_,rfl,a,_,rfl,.inr ((u.trans u2).tupS hs),rfl,?_⟩
      have l2:ds.length <= 2:=by have:=of_decide_eq_true h1; rw [List.length_map,List.length_map] at this; omega
      have e:x8 (.tuple ds) = decide (V.int (((AxS.uniq (ds.map txtD)).length:Nat):Int) = V.int (((((ds.map txtD).map V.str).length:Nat)):Int)):=by
       show (ds.all textD && (decide (ds.length <= 2) && decide _)) = _
       rw [q,decide_eq_true l2,Bool.true_and,Bool.true_and,Bool.eq_iff_iff,decide_eq_true_iff,decide_eq_true_iff,List.length_map,List.length_map]
       constructor
       ·intro z; rw [z]
       ·intro z
        injection z with z
        omega
      rw [e] at k
      exact k _ (u.trans u2)
     ·have e:x8 (.tuple ds) = false:=by
       show (ds.all textD && (decide (ds.length <= 2) && _)) = false
       rw [decide_eq_false (p:=ds.length <= 2) (fun z=>h1 (decide_eq_true (by rw [List.length_map,List.length_map]; omega))),Bool.false_and,Bool.and_false]
      rw [e] at k
      exact k _ u
  | none=>exact iteT (k _ (Same.refl _))
  | bool b=>exact iteT (k _ (Same.refl _))
  | int i=>exact iteT (k _ (Same.refl _))
  | list ds=>exact iteT (k _ (Same.refl _))
  | str x=>exact iteT (k _ (Same.refl _))
  | dict kvs=>exact iteT (k _ (Same.refl _))
end t_parents
namespace t_rows
abbrev st:Stmt:=top 28
theorem sc:FnScope ["thing","labels"] ["thing"] (zC st):=⟨rfl,rfl,rfl,by decide +kernel,rfl,by decide +kernel,by decide +kernel⟩
theorem ok {f:Addr} {fd:FuncData} (F:Fun K "is_rows" "is_rows" st f fd) (T:Txt P w K mg t1 t2 t3 t4 t5 t6 aL aC aN aT aA b1 b2 b3 b4 b5 b6 b7 b8 fP) (C_is_row:Cal P w K mg base 2 "is_row" ["thing"] (spRow K)):FnOk P w K mg base CX0 3 f fd ["thing"] (spRows K):=by
 refine F.ok sc (fun vs H Q E h=>?_) (fun cdv A outer s H vs Q E hr h=>?_)
 ·obtain ⟨d,v,rfl,_⟩:=h
  rfl
 ·obtain ⟨d,v,rfl,hd,sm,d60,k⟩:=h
  refine ⟨_,(zF (yL (PW.pt (kR (yO (zQ (K:=K) (zK (zZ (K:=K)) (by rfl) T.isinstance PyProof.Rows.boot_isinstance (zA (pv 0) (zA (yT (v:=.ty "tuple") rfl T.tuple PyProof.Rows.boot_tuple rfl) zB))) (fun _=>rfl))) (kD (yO (zQ (K:=K) (zK (qS rfl) (by rfl) T.all PyProof.Rows.boot_all (zA (xF (sc:=zC st) (N:=["thing","labels"]) (N':=["row"]) (src:=[none]) ⟨by decide +kernel,rfl,rfl,by decide +kernel,by decide +kernel,by decide +kernel,by decide +kernel⟩ rfl rfl rfl (qD (pv 0)) (fun _ _ _ _=>(zT (i:=0) (show (["row"]:List Str).Nodup by decide +kernel) rfl (Or.inl rfl))) (fun _ _ _ _=>qP) (fun _ _ _ _=>(zM C_is_row (hr.mono (by decide)) (zA (pv 0) zB)))) zB)) (fun _=>rfl))))))
    (zG (zO xO))
    zV)
   (zF (ps_setc (sc:=zC st) (N:=["thing","labels"]) (N':=["row"]) (src:=[none]) ⟨by decide +kernel,rfl,rfl,by decide +kernel,by decide +kernel,by decide +kernel,by decide +kernel⟩ rfl rfl rfl (qD (pv 0)) (fun _ _ _ _=>(zT (i:=0) (show (["row"]:List Str).Nodup by decide +kernel) rfl (Or.inl rfl))) (fun _ _ _ _=>qP) (fun _ _ _ _=>(zS (ix_tup:IxR _ (rIxT K)) (pv 0) zH (fun _ _=>rfl))) sc.nd rfl (Or.inl rfl) (k:=1))
   (zG (zO (yI (op_eqD hr.units) (pv 1) (zK (call_sortedS rfl) (by rfl) T.sorted PyProof.Rows.boot_sorted (zA (z7 (call_set (K:=K) rfl) (by rfl) T.set PyProof.Rows.boot_set (zA (pv 1) zB)) zB)) (zU _)))))),?_⟩
  refine ⟨_,rfl,_,_,d,_,rfl,hd,T.is (by simp [kinds]),_,rfl,?_⟩
  cases d with
  | tuple ds =>
   have d60:=d60 ds rfl
   obtain ⟨a,xs,rfl,hs,ha⟩:=hd
   obtain ⟨sl,sa⟩:=xU sm
   have hlen:=ha.length
   refine iteF ⟨_,rfl,a,rfl,⟨_,hs⟩,qE (K:=K) (a:=a) (xs:=xs) (fun i ys σ H2=>∃ o,σ = [o] /\ Same H H2 /\ ys = ((ds.take i).map rowD).map V.bl) ⟨none,rfl,Same.refl _,rfl⟩ (le_line (by omega)) ?_ ?_ ?_⟩
   ·rintro i ys σ H2 hi ⟨o,rfl,e2,rfl⟩
    refine ⟨e2.tupS hs,?_⟩
    rw [List.length_map,List.length_map,List.length_take]; omega
   ·rintro i x ys σ H2 hx ⟨o,rfl,e2,rfl⟩
    obtain ⟨d,hd,dx⟩:=ha.get hx
    refine ⟨_,rfl,d,x,rfl,dx.same e2,yM sa hd,fun H3 e3=>⟨_,rfl,e2.trans e3,?_⟩⟩
    rw [y9 hd,List.map_append]; rfl
   ·rintro ys σ H2 ⟨o,rfl,e2,rfl⟩ p np
    refine ⟨p,_,rfl,SqL.of zD,?_⟩
    rw [hlen,List.take_length,all_map]
    have u:=e2.trans (zE (o:=.lst ((ds.map rowD).map V.bl)) np)
    cases q:ds.all rowD with
    | false =>
     have e:rowsD (.tuple ds) = false:=by show (ds.all rowD && _) = false; rw [q]; rfl
     rw [e] at k
     exact ⟨_,rfl,iteT (k _ u)⟩
    | true =>
     refine ⟨_,rfl,iteF ?_⟩
     show tSeq _ _ _ _ (upd H2 p (.lst ((ds.map rowD).map V.bl)))
     generalize upd H2 p (.lst ((ds.map rowD).map V.bl)) = G at u
     have haG:=DwAll.same u _ _ ha
     refine ⟨_,rfl,a,rfl,⟨_,u.tupS hs⟩,qE (K:=K) (a:=a) (xs:=xs) (fun i ys σ H2=>∃ o,σ = [o] /\ H2 = G /\ ys = ((ds.take i).map labD).map V.str) ⟨none,rfl,rfl,rfl⟩ (le_line (by omega)) ?_ ?_ ?_⟩
     ·rintro i ys σ H2 hi ⟨o,rfl,rfl,rfl⟩
      refine ⟨u.tupS hs,?_⟩
      rw [List.length_map,List.length_map,List.length_take]; omega
     ·rintro i x ys σ H2 hx ⟨o,rfl,rfl,rfl⟩
      obtain ⟨d,hd,dx⟩:=haG.get hx
      obtain ⟨t,y,rfl,ht,_⟩:=row_atW dx (List.all_eq_true.mp q d (List.mem_of_getElem? hd))
      refine ⟨_,rfl,t,_,_,_,rfl,rfl,ht,rfl,_,rfl,rfl,?_⟩
      have e1:ds.take (i + 1) = ds.take i ++ [d]:=by rw [List.take_add_one,hd]; rfl
      rw [e1,List.map_append,List.map_append]; rfl
     ·rintro ys σ H2 ⟨o,rfl,rfl,rfl⟩ l nl
      rw [hlen,List.take_length]
      have v1:=zE (o:=.lst ((ds.map labD).map V.str)) nl
      have ul:=AxS.uniq_len _ (ds.map labD) rfl
      rw [List.length_map] at ul
      refine ⟨_,rfl,_,rfl,l,ds.map labD,rfl,.inl (SqL.of zD),by rw [List.length_map]; omega,fun p2 n2=>?_⟩
      have v2:=v1.trans (zE (o:=TxHO P w p2 (AxS.uniq (ds.map labD))) n2)
      refine ⟨p2,_,rfl,zD,by omega,fun l3 ss n3 hp hso=>?_⟩
      have v3:=v2.trans (zE (o:=.lst (ss.map V.str)) n3)
      have okL:∀ x ∈ ds.map labD,PyData.strOk x = true:=fun x hx=>by
       obtain ⟨d,hd,rfl⟩:=List.mem_map.mp hx
       obtain ⟨j,hj⟩:=List.getElem?_of_mem hd
       obtain ⟨z,hz,dz⟩:=haG.at hj
       obtain ⟨_,_,_,_,hl⟩:=row_atW dz (List.all_eq_true.mp q d hd)
       exact labelB_ok hl
      have okS:∀ x ∈ ss,PyData.strOk x = true:=fun x hx=>okL x (uniq_mem (hp.mem_iff.mp hx))
      have hlb:=(v2.trans (zE (o:=.lst (ss.map V.str)) n3))
      have hl3:=(((zE (o:=TxHO P w p2 (AxS.uniq (ds.map labD))) n2).trans (zE (o:=.lst (ss.map V.str)) n3))) _ _ (zD (H:=H2) (a:=l) (o:=.lst ((ds.map labD).map V.str)))
      refine ⟨.list ((ds.map labD).map .str),.list (ss.map .str),⟨l,_,rfl,SqL.of hl3,DtAll.strs _⟩,⟨l3,_,rfl,SqL.of zD,DtAll.strs _⟩,(yJ okL).1,(yJ okS).1,?_⟩
      have ev:PyData.eqv (.list ((ds.map labD).map .str)) (.list (ss.map .str)) = decide (ds.map labD = ss):=qV _ _
      rw [ev,sorted_set hp hso]
      have e:rowsD (.tuple ds) = riseB (ds.map labD):=by show (ds.all rowD && _) = _; rw [q]; rfl
      rw [e] at k
      exact k _ (u.trans v3)
  | none=>exact iteT (k _ (Same.refl _))
  | bool b=>exact iteT (k _ (Same.refl _))
  | int i=>exact iteT (k _ (Same.refl _))
  | list ds=>exact iteT (k _ (Same.refl _))
  | str x=>exact iteT (k _ (Same.refl _))
  | dict kvs=>exact iteT (k _ (Same.refl _))
end t_rows
namespace t_leaf
abbrev st:Stmt:=top 30
theorem sc:FnScope ["word","parts"] ["word","parts"] (zC st):=⟨rfl,rfl,rfl,by decide +kernel,rfl,by decide +kernel,by decide +kernel⟩
theorem ok {f:Addr} {fd:FuncData} (F:Fun K "is_leaf" "is_leaf" st f fd) (T:Txt P w K mg t1 t2 t3 t4 t5 t6 aL aC aN aT aA b1 b2 b3 b4 b5 b6 b7 b8 fP) (C_is_lines:Cal P w K mg base 3 "is_lines" ["thing"] (spLines K)):FnOk P w K mg base CX0 4 f fd ["word","parts"] (spForm K leafB):=by
 refine F.ok sc (fun vs H Q E h=>?_) (fun cdv A outer s H vs Q E hr h=>?_)
 ·obtain ⟨word,a,ds,xs,rfl,_⟩:=h
  rfl
 ·obtain ⟨word,a,ds,xs,rfl,hs,ha,sa,d60,e60,k⟩:=h
  refine ⟨_,(zG (zO (yX (yI xI (pv 0) pe_str (zU _)) (yX (yI xI (zK z6 (by rfl) T.len PySem.boot_len (zA (pv 1) zB)) zH (zU _)) (xT (zM C_is_lines (hr.mono (by decide)) (zA (zS (ix_tup:IxR _ (rIxT K)) (pv 1) zH (fun _ _=>rfl)) zB))))))),?_⟩
  have hlen:=ha.length
  refine ⟨_,rfl,rfl,_,rfl,ite2 (fun h1=>?_) (fun h1=>?_)⟩
  ·have h1:V.str word = V.str "leaf":=of_decide_eq_true h1
   have h1:word = "leaf":=by injection h1
   refine ⟨_,rfl,a,_,rfl,.inr hs,rfl,_,rfl,ite2 (fun h2=>?_) (fun h2=>?_)⟩
   ·have h2:xs.length = 1:=by have:=of_decide_eq_true h2; injection this with z; omega
    have hd0:ds[0]? = some (atD ds 0):=by
     have:ds[0]? = some (ds[0]'(by omega)):=List.getElem?_eq_getElem _
     unfold atD; rw [this]; rfl
    obtain ⟨x,hx,dx⟩:=ha.at hd0
    refine ⟨_,rfl,a,_,_,_,rfl,rfl,hs,yS (j:=0) hx,atD ds 0,_,rfl,dx,yM sa hd0,fun H2 s2=>?_⟩
    have e:leafB word ds = linesD (atD ds 0):=by
     unfold leafB
     rw [decide_eq_true h1,decide_eq_true (show ds.length = 1 by omega)]; rfl
    rw [e] at k
    exact k _ s2
   ·have e:leafB word ds = false:=by
     unfold leafB
     rw [decide_eq_false (p:=ds.length = 1) (fun z=>h2 (decide_eq_true (by rw [hlen,z]; rfl))),Bool.false_and,Bool.and_false]
    rw [e] at k
    exact k _ (Same.refl _)
  ·have e:leafB word ds = false:=by
    unfold leafB
    rw [decide_eq_false (p:=word = "leaf") (fun z=>h1 (decide_eq_true (by rw [z]))),Bool.false_and]
   rw [e] at k
   exact k _ (Same.refl _)
end t_leaf
namespace t_tree
abbrev st:Stmt:=top 31
theorem sc:FnScope ["word","parts"] ["word","parts"] (zC st):=⟨rfl,rfl,rfl,by decide +kernel,rfl,by decide +kernel,by decide +kernel⟩
theorem ok {f:Addr} {fd:FuncData} (F:Fun K "is_tree" "is_tree" st f fd) (T:Txt P w K mg t1 t2 t3 t4 t5 t6 aL aC aN aT aA b1 b2 b3 b4 b5 b6 b7 b8 fP) (C_is_rows:Cal P w K mg base 3 "is_rows" ["thing"] (spRows K)):FnOk P w K mg base CX0 4 f fd ["word","parts"] (spForm K treeB):=by
 refine F.ok sc (fun vs H Q E h=>?_) (fun cdv A outer s H vs Q E hr h=>?_)
 ·obtain ⟨word,a,ds,xs,rfl,_⟩:=h
  rfl
 ·obtain ⟨word,a,ds,xs,rfl,hs,ha,sa,d60,e60,k⟩:=h
  refine ⟨_,(zG (zO (yX (yI xI (pv 0) pe_str (zU _)) (yX (yI xI (zK z6 (by rfl) T.len PySem.boot_len (zA (pv 1) zB)) zH (zU _)) (xT (zM C_is_rows (hr.mono (by decide)) (zA (zS (ix_tup:IxR _ (rIxT K)) (pv 1) zH (fun _ _=>rfl)) zB))))))),?_⟩
  have hlen:=ha.length
  refine ⟨_,rfl,rfl,_,rfl,ite2 (fun h1=>?_) (fun h1=>?_)⟩
  ·have h1:V.str word = V.str "tree":=of_decide_eq_true h1
   have h1:word = "tree":=by injection h1
   refine ⟨_,rfl,a,_,rfl,.inr hs,rfl,_,rfl,ite2 (fun h2=>?_) (fun h2=>?_)⟩
   ·have h2:xs.length = 1:=by have:=of_decide_eq_true h2; injection this with z; omega
    have hd0:ds[0]? = some (atD ds 0):=by
     have:ds[0]? = some (ds[0]'(by omega)):=List.getElem?_eq_getElem _
     unfold atD; rw [this]; rfl
    obtain ⟨x,hx,dx⟩:=ha.at hd0
    refine ⟨_,rfl,a,_,_,_,rfl,rfl,hs,yS (j:=0) hx,atD ds 0,_,rfl,dx,yM sa hd0,fun es he=>e60 _ (List.mem_of_getElem? hd0) es he,fun H2 s2=>?_⟩
    have e:treeB word ds = rowsD (atD ds 0):=by
     unfold treeB
     rw [decide_eq_true h1,decide_eq_true (show ds.length = 1 by omega)]; rfl
    rw [e] at k
    exact k _ s2
   ·have e:treeB word ds = false:=by
     unfold treeB
     rw [decide_eq_false (p:=ds.length = 1) (fun z=>h2 (decide_eq_true (by rw [hlen,z]; rfl))),Bool.false_and,Bool.and_false]
    rw [e] at k
    exact k _ (Same.refl _)
  ·have e:treeB word ds = false:=by
    unfold treeB
    rw [decide_eq_false (p:=word = "tree") (fun z=>h1 (decide_eq_true (by rw [z]))),Bool.false_and]
   rw [e] at k
   exact k _ (Same.refl _)
end t_tree
namespace t_note
abbrev st:Stmt:=top 32
theorem sc:FnScope ["word","parts"] ["word","parts"] (zC st):=⟨rfl,rfl,rfl,by decide +kernel,rfl,by decide +kernel,by decide +kernel⟩
theorem ok {f:Addr} {fd:FuncData} (F:Fun K "is_note" "is_note" st f fd) (T:Txt P w K mg t1 t2 t3 t4 t5 t6 aL aC aN aT aA b1 b2 b3 b4 b5 b6 b7 b8 fP) (C_is_parents:Cal P w K mg base 1 "is_parents" ["thing"] (spParentsB K)) (C_is_line:Cal P w K mg base 2 "is_line" ["thing"] (spLine K)):FnOk P w K mg base CX0 3 f fd ["word","parts"] (spForm K noteB):=by
 refine F.ok sc (fun vs H Q E h=>?_) (fun cdv A outer s H vs Q E hr h=>?_)
 ·obtain ⟨word,a,ds,xs,rfl,_⟩:=h
  rfl
 ·obtain ⟨word,a,ds,xs,rfl,hs,ha,sa,d60,e60,k⟩:=h
  refine ⟨_,(zF (yL (PW.pt (kR (zW op_ne (pv 0) pe_str (zU _)) (kD (zW op_ne (zK z6 (by rfl) T.len PySem.boot_len (zA (pv 1) zB)) zH (zU _)))))
    (zG (zO xO))
    zV)
   (zG (zO (yX (zK (zZ (K:=K)) (by rfl) T.isinstance PyProof.Rows.boot_isinstance (zA (zS (ix_tup:IxR _ (rIxT K)) (pv 1) zH (fun _ _=>rfl)) (zA (yT (v:=.ty "str") rfl T.str PyProof.Rows.boot_str rfl) zB))) (yX (zM C_is_parents (hr.mono (by decide)) (zA (zS (ix_tup:IxR _ (rIxT K)) (pv 1) zH (fun _ _=>rfl)) zB)) (xT (zM C_is_line (hr.mono (by decide)) (zA (zS (ix_tup:IxR _ (rIxT K)) (pv 1) zH (fun _ _=>rfl)) zB)))))))),?_⟩
  have hlen:=ha.length
  by_cases h1:word = "note"
  ·refine ⟨_,rfl,rfl,_,rfl,iteNS (by rw [h1]) ?_⟩
   by_cases h2:ds.length = 3
   ·refine ⟨_,rfl,a,_,rfl,.inr hs,rfl,_,rfl,iteNS (by rw [hlen,h2]; rfl) ?_⟩
    have get:∀ i,i < 3 -> ds[i]? = some (atD ds i):=fun i hi=>by
     have:ds[i]? = some (ds[i]'(by omega)):=List.getElem?_eq_getElem _
     unfold atD; rw [this]; rfl
    obtain ⟨x0,hx0,dx0⟩:=ha.at (get 0 (by decide))
    obtain ⟨x1,hx1,dx1⟩:=ha.at (get 1 (by decide))
    obtain ⟨x2,hx2,dx2⟩:=ha.at (get 2 (by decide))
    have e:noteB word ds = (textD (atD ds 0) && (x8 (atD ds 1) && lineD (atD ds 2))):=by
     unfold noteB
     rw [decide_eq_true h1,decide_eq_true h2]; rfl
    rw [e] at k
    refine ⟨_,rfl,a,_,_,_,rfl,rfl,hs,yS (j:=0) hx0,_,_,atD ds 0,_,rfl,dx0,T.is (by simp [kinds]),_,rfl,?_⟩
    rw [jV]
    cases q0:textD (atD ds 0) with
    | false =>
     rw [q0] at k
     exact iteF (k _ (Same.refl _))
    | true =>
     rw [q0] at k
     refine iteT ⟨_,rfl,a,_,_,_,rfl,rfl,hs,yS (j:=1) hx1,atD ds 1,_,rfl,dx1,yM sa (get 1 (by decide)),fun H2 s2=>⟨_,rfl,?_⟩⟩
     cases q1:x8 (atD ds 1) with
     | false =>
      rw [q1] at k
      exact iteF (k _ s2)
     | true =>
      rw [q1] at k
      exact iteT ⟨_,rfl,a,_,_,_,rfl,rfl,s2.tupS hs,yS (j:=2) hx2,atD ds 2,_,rfl,dx2.same s2,yM sa (get 2 (by decide)),fun H3 s3=>k _ (s2.trans s3)⟩
   ·have e:noteB word ds = false:=by
     unfold noteB
     rw [decide_eq_false h2,Bool.false_and,Bool.and_false]
    rw [e] at k
    refine ⟨_,rfl,a,_,rfl,.inr hs,rfl,_,rfl,?_⟩
    rw [decide_eq_false (p:=V.int ((xs.length:Nat):Int) = V.int 3) (fun z=>h2 (by injection z with z; omega))]
    exact iteT (k _ (Same.refl _))
  ·have e:noteB word ds = false:=by
    unfold noteB
    rw [decide_eq_false h1,Bool.false_and]
   rw [e] at k
   refine ⟨_,rfl,rfl,_,rfl,?_⟩
   rw [decide_eq_false (p:=V.str word = V.str "note") (fun z=>h1 (by injection z))]
   exact iteT (iteT (k _ (Same.refl _)))
end t_note
namespace t_thing
abbrev st:Stmt:=top 33
theorem sc:FnScope ["thing","word","parts"] ["thing"] (zC st):=⟨rfl,rfl,rfl,by decide +kernel,rfl,by decide +kernel,by decide +kernel⟩
theorem ok {f:Addr} {fd:FuncData} (F:Fun K "is_thing" "is_thing" st f fd) (T:Txt P w K mg t1 t2 t3 t4 t5 t6 aL aC aN aT aA b1 b2 b3 b4 b5 b6 b7 b8 fP) (C_is_leaf:Cal P w K mg base 4 "is_leaf" ["word","parts"] (spForm K leafB)) (C_is_tree:Cal P w K mg base 4 "is_tree" ["word","parts"] (spForm K treeB)) (C_is_note:Cal P w K mg base 3 "is_note" ["word","parts"] (spForm K noteB)) :
  FnOk P w K mg base CX0 5 f fd ["thing"] (spThingB K):=by
 refine F.ok sc (fun vs H Q E h=>?_) (fun cdv A outer s H vs Q E hr h=>?_)
 ·obtain ⟨d,v,rfl,_⟩:=h
  rfl
 ·obtain ⟨d,v,rfl,hd,sm,nar,k⟩:=h
  refine ⟨_,(zF (yL (PW.pt (kR (yO (zQ (K:=K) (zK (zZ (K:=K)) (by rfl) T.isinstance PyProof.Rows.boot_isinstance (zA (pv 0) (zA (yT (v:=.ty "tuple") rfl T.tuple PyProof.Rows.boot_tuple rfl) zB))) (fun _=>rfl))) (kR (zW xI (zK z6 (by rfl) T.len PySem.boot_len (zA (pv 0) zB)) zH (zU _)) (kD (yO (zQ (K:=K) (zK (zZ (K:=K)) (by rfl) T.isinstance PyProof.Rows.boot_isinstance (zA (zS (ix_tup:IxR _ (rIxT K)) (pv 0) zH (fun _ _=>rfl)) (zA (yT (v:=.ty "str") rfl T.str PyProof.Rows.boot_str rfl) zB))) (fun _=>rfl)))))))
    (zG (zO xO))
    zV)
   (zF (zY (i:=1) sc.nd rfl (Or.inl rfl) (zS (ix_tup:IxR _ (rIxT K)) (pv 0) zH (fun _ _=>rfl)))
   (zF (zY (i:=2) sc.nd rfl (Or.inl rfl) (pe_slice (sl_tup2:SlR _ (rSlT2 K)) (pv 0) (po_some zH) po_none))
   (zG (zO (pe_or (zM C_is_leaf (hr.mono (by decide)) (zA (pv 1) (zA (pv 2) zB))) (pe_or (zM C_is_tree (hr.mono (by decide)) (zA (pv 1) (zA (pv 2) zB))) (xT (zM C_is_note (hr.mono (by decide)) (zA (pv 1) (zA (pv 2) zB))))))))))),?_⟩
  refine ⟨_,rfl,_,_,d,_,rfl,hd,T.is (by simp [kinds]),_,rfl,?_⟩
  cases d with
  | tuple ds =>
   obtain ⟨n1,n2⟩:=nar ds rfl
   obtain ⟨a,xs,rfl,hs,ha⟩:=hd
   obtain ⟨sl,sa⟩:=xU sm
   have hlen:=ha.length
   refine iteF ?_
   match ds,ha,hlen,sa,n1,n2,k with
   | [],ha,hlen,sa,n1,n2,k =>
    refine ⟨_,rfl,a,_,rfl,.inr hs,rfl,_,rfl,?_⟩
    rw [decide_eq_true (show V.int ((xs.length:Nat):Int) = V.int 0 by rw [hlen]; rfl)]
    exact iteT (iteT (k _ (Same.refl _)))
   | d0 :: ds,⟨x0,r,ex,hd0,hr'⟩,hlen,sa,n1,n2,k =>
    subst ex
    refine ⟨_,rfl,a,_,rfl,.inr hs,rfl,_,rfl,iteN (fun z=>by injection z with z; simp at z; omega) ?_⟩
    refine ⟨_,rfl,a,_,_,_,rfl,rfl,hs,yS (j:=0) rfl,_,_,d0,_,rfl,hd0,T.is (by simp [kinds]),_,rfl,?_⟩
    rw [jV]
    cases d0 with
    | str word =>
     cases (show x0 = _ from hd0)
     refine iteF ?_
     refine ⟨_,rfl,a,_,_,_,rfl,rfl,hs,yS (j:=0) rfl,?_⟩
     refine ⟨_,rfl,_,rfl,a,_,rfl,hs,fun v H1 hv=>?_⟩
     obtain ⟨q,rfl,s1,hq⟩:=cut_any hs hv
     rw [cut_from (by decide)] at hq
     have hq:SqT K H1 q r:=hq
     have sa':yH ds = true:=by
      have sa:(small (.str word) && yH ds) = true:=sa
      rw [Bool.and_eq_true] at sa
      exact sa.2
     have n1':ds.length <= 60:=by have:=n1; simp at this; omega
     have n2':∀ e ∈ ds,∀ es,e = .tuple es -> es.length <= 60:=fun e he=>n2 e (List.mem_cons_of_mem _ he)
     refine ⟨_,rfl,_,rfl,word,q,ds,r,rfl,hq,DwAll.same s1 _ _ hr',sa',n1',n2',fun H2 s2=>⟨_,rfl,?_⟩⟩
     have k:∀ H',Same H H' -> Q (.bl (leafB word ds || (treeB word ds || noteB word ds))) H':=k
     cases q0:leafB word ds with
     | true =>
      rw [q0] at k
      exact iteT (k _ (s1.trans s2))
     | false =>
      rw [q0,Bool.false_or] at k
      have s12:=s1.trans s2
      refine iteF ⟨_,rfl,_,rfl,word,q,ds,r,rfl,s2.tupS hq,DwAll.same s12 _ _ hr',sa',n1',n2',fun H3 s3=>⟨_,rfl,?_⟩⟩
      cases q1:treeB word ds with
      | true =>
       rw [q1] at k
       exact iteT (k _ (s12.trans s3))
      | false =>
       rw [q1,Bool.false_or] at k
       exact iteF ⟨_,rfl,_,rfl,word,q,ds,r,rfl,(s2.trans s3).tupS hq,DwAll.same (s12.trans s3) _ _ hr',sa',n1',n2',fun H4 s4=>k _ ((s12.trans s3).trans s4)⟩
    | none=>exact iteT (k _ (Same.refl _))
    | bool _=>exact iteT (k _ (Same.refl _))
    | int _=>exact iteT (k _ (Same.refl _))
    | list _=>exact iteT (k _ (Same.refl _))
    | tuple _=>exact iteT (k _ (Same.refl _))
    | dict _=>exact iteT (k _ (Same.refl _))
  | none=>exact iteT (iteT (k _ (Same.refl _)))
  | bool b=>exact iteT (iteT (k _ (Same.refl _)))
  | int i=>exact iteT (iteT (k _ (Same.refl _)))
  | list ds=>exact iteT (iteT (k _ (Same.refl _)))
  | str x=>exact iteT (iteT (k _ (Same.refl _)))
  | dict kvs=>exact iteT (iteT (k _ (Same.refl _)))
end t_thing
namespace t_need
abbrev st:Stmt:=top 34
theorem sc:FnScope ["thing"] ["thing"] (zC st):=⟨rfl,rfl,rfl,by decide +kernel,rfl,by decide +kernel,by decide +kernel⟩
theorem ok {f:Addr} {fd:FuncData} (F:Fun K "need_thing" "need_thing" st f fd) (T:Txt P w K mg t1 t2 t3 t4 t5 t6 aL aC aN aT aA b1 b2 b3 b4 b5 b6 b7 b8 fP) (C_is_thing:Cal P w K mg base 5 "is_thing" ["thing"] (spThingB K)):FnOk P w K mg base (CXF P w) 6 f fd ["thing"] (spNeed K aT):=by
 refine F.okX sc (fun vs H Q E h=>?_) (fun cdv A outer s H vs Q E hr h=>?_)
 ·obtain ⟨d,v,rfl,_⟩:=h
  rfl
 ·obtain ⟨d,v,rfl,hd,sm,nar,k1,k2⟩:=h
  refine ⟨_,(zF (yL (yO (zQ (K:=K) (zM C_is_thing (hr.mono (by decide)) (zA (pv 0) zB)) (fun _=>rfl)))
    (zG (kH rfl jG rfl T.NoThing T.xNoThing (zA pe_str zB)))
    zV)
   (zG (zO (pv 0)))),?_⟩
  refine ⟨_,rfl,d,v,rfl,hd,sm,nar,fun H2 s2=>⟨_,rfl,?_⟩⟩
  cases q:jN d with
  | true=>exact iteF ⟨_,rfl,k1 q _ s2⟩
  | false=>exact iteT ⟨lineN 1,k2 q _ s2⟩
end t_need
namespace f_letter_of
abbrev st:Stmt:=top 35
theorem sc:FnScope ["thing"] ["thing"] (zC st):=⟨rfl,rfl,rfl,by decide +kernel,rfl,by decide +kernel,by decide +kernel⟩
theorem ok {f:Addr} {fd:FuncData} (F:Fun K "letter_of" "letter_of" st f fd) (T:Txt P w K mg t1 t2 t3 t4 t5 t6 aL aC aN aT aA b1 b2 b3 b4 b5 b6 b7 b8 fP):FnOk P w K mg base CX0 1 f fd ["thing"] (spLetter K):=by
 refine F.ok sc (fun vs H Q E h=>?_) (fun cdv A outer s H vs Q E hr h=>?_)
 ·obtain ⟨v,t,rfl,_⟩:=h
  rfl
 ·obtain ⟨v,t,rfl,hd,k⟩:=h
  refine ⟨_,(zG (zO (pe_kget (yR (v:=.ref aL) rfl T.LETTERS rfl) (zS (ix_tup:IxR _ (rIxT K)) (pv 0) zH (fun _ _=>rfl)) (fun _ _=>rfl)))),?_⟩
  obtain ⟨a,r,rfl,hs⟩:=kE hd
  exact ⟨_,rfl,a,_,_,_,rfl,rfl,hs,atI_zero _ _,_,_,Sum.inr t.word,_,rfl,rfl,T.kd,letters_at t,k⟩
end f_letter_of
namespace f_tree_parts
abbrev st:Stmt:=top 36
theorem sc:FnScope ["rows","parts","label","name"] ["rows"] (zC st):=⟨rfl,rfl,rfl,by decide +kernel,rfl,by decide +kernel,by decide +kernel⟩
theorem flat_len:∀ rs:List (Str × Str),(yB rs).length = 2 * rs.length
 | []=>rfl
 | r :: rs=>by
  show (yB rs).length + 2 = 2 * (rs.length + 1)
  rw [flat_len rs]; omega
theorem ok {f:Addr} {fd:FuncData} (F:Fun K "tree_parts" "tree_parts" st f fd) (T:Txt P w K mg t1 t2 t3 t4 t5 t6 aL aC aN aT aA b1 b2 b3 b4 b5 b6 b7 b8 fP):FnOk P w K mg base CX0 1 f fd ["rows"] (spTreeParts K):=by
 refine F.ok sc (fun vs H Q E h=>?_) (fun cdv A outer s H vs Q E hr h=>?_)
 ·obtain ⟨v,t,rfl,_⟩:=h
  rfl
 ·obtain ⟨v,rs,rfl,hd,hl,k⟩:=h
  obtain ⟨a,xs,rfl,hs,hx⟩:=hd
  have hxl:xs.length = rs.length:=by rw [hx.length,List.length_map]
  refine ⟨_,(zF (zY (i:=1) sc.nd rfl (Or.inl rfl) (yW zB))
   (zF (xN PassesOwn.never rfl (qD (pv 0)) (pg_tup rfl (qW (zT (i:=2) sc.nd rfl (Or.inl rfl)) (qW (zT (i:=3) sc.nd rfl (Or.inl rfl)) pgs_nil)))
    (zF (z5 (kP PySem.F.plainAttrs_list PySem.F.slot_list_append PySem.F.type_list_append xH (pv 1) (zA (pv 2) zB)))
    (zG (z5 (kP PySem.F.plainAttrs_list PySem.F.slot_list_append PySem.F.type_list_append xH (pv 1) (zA (pv 3) zB))))))
   (zG (zO (pv 1))))),?_⟩
  refine ⟨Nat.zero_le _,fun l nl=>?_⟩
  refine ⟨_,rfl,a,rfl,⟨_,(zE nl).tupS hs⟩,jU (K:=K) (a:=a) (xs:=xs) (fun i σ H2=>∃ (x y:Option V),σ = [some (.ref a),some (.ref l),x,y] /\ H2 = upd H l (.lst ((yB (rs.take i)).map V.str)))
   ⟨none,none,rfl,rfl⟩ (fun i σ H2 _ ⟨_,_,_,e⟩=>by rw [e]; exact (zE nl).tupS hs) ?_ ?_⟩
  ·rintro i x σ H2 hi ⟨x0,y0,rfl,rfl⟩
   obtain ⟨r,b,er,rfl,hb⟩:=rows_get hx hi
   have hil:i < rs.length:=(List.getElem?_eq_some_iff.mp er).1
   have hll:((yB (rs.take i)).map V.str).length <= 2000:=by
    rw [List.length_map,flat_len,List.length_take]; omega
   refine ⟨b,_,rfl,(zE nl).tupS hb,rfl,_,_,rfl,_,_,rfl,rfl,?_⟩
   refine ⟨_,rfl,.inl ⟨rfl,_,SqL.of zD⟩,_,rfl,l,_,_,rfl,rfl,zD,Nat.lt_of_le_of_lt hll (by rw [sizeLine_eq]; decide),?_⟩
   refine ⟨_,rfl,.inl ⟨rfl,_,SqL.of zD⟩,_,rfl,l,_,_,rfl,rfl,zD,?_,?_⟩
   ·rw [List.length_append,List.length_singleton]
    exact Nat.lt_of_le_of_lt (Nat.succ_le_succ hll) (by rw [sizeLine_eq]; decide)
   ·refine ⟨_,_,rfl,?_⟩
    rw [upd_upd,upd_upd]
    congr 2
    rw [List.take_add_one,er]
    show _ = (yB (rs.take i ++ [r])).map V.str
    rw [qK,List.map_append]
    show _ = (yB (rs.take i)).map V.str ++ [V.str r.1,V.str r.2]
    rw [List.append_assoc]
    rfl
  ·rintro σ H2 ⟨x0,y0,rfl,rfl⟩
   refine ⟨_,rfl,?_⟩
   rw [hxl,List.take_length]
   exact k l nl
end f_tree_parts
theorem iteY {c A B:Prop} [Decidable c] (hc:c) (h:A):if decide c = true then A else B:=by
 rw [decide_eq_true hc]; exact iteT h
theorem iteN {c A B:Prop} [Decidable c] (hc:¬ c) (h:B):if decide c = true then A else B:=by
 rw [decide_eq_false hc]; exact iteF h
theorem dig_len {n:Nat} (h:n <= 100000):(dig n).length <= 10:=PyProof.Rows.toString_length_le (by omega) (by decide) (by
 have:(10:Int) ^ 10 = 10000000000:=by decide
 rw [this]; omega)
theorem log_small {n:Nat} (h:n <= 1900):((n:Int)).natAbs.log2 < 1920:=by
 rw [Int.natAbs_natCast]
 exact Nat.lt_of_le_of_lt (Nat.log2_le_self n) (by omega)
theorem good_rows {rs:List (Str × Str)} (g:(Th.tree rs).Good):rs.length <= 1000:=by
 have h:=g.1
 have e:(yB rs).length <= 1000:=h
 rw [f_tree_parts.flat_len] at e
 omega
theorem good_pars {x:Str} {ps:List Str} {w:Str} (g:(Th.note x ps w).Good):ps.length <= 1000:=by
 have h:=g.1
 have e:([x,dig ps.length] ++ ps ++ [w]).length <= 1000:=h
 simp at e
 omega
namespace f_parts_of
abbrev st:Stmt:=top 37
theorem sc:FnScope ["thing","parents"] ["thing"] (zC st):=⟨rfl,rfl,rfl,by decide +kernel,rfl,by decide +kernel,by decide +kernel⟩
theorem ok {f:Addr} {fd:FuncData} (F:Fun K "parts_of" "parts_of" st f fd) (T:Txt P w K mg t1 t2 t3 t4 t5 t6 aL aC aN aT aA b1 b2 b3 b4 b5 b6 b7 b8 fP) (C_tree_parts:Cal P w K mg base 1 "tree_parts" ["rows"] (spTreeParts K)):FnOk P w K mg base CX0 2 f fd ["thing"] (spParts K):=by
 refine F.ok sc (fun vs H Q E h=>?_) (fun cdv A outer s H vs Q E hr h=>?_)
 ·obtain ⟨v,t,rfl,_⟩:=h
  rfl
 ·obtain ⟨v,t,rfl,hd,g,k⟩:=h
  refine ⟨_,(zF (yL (zW xI (zS (ix_tup:IxR _ (rIxT K)) (pv 0) zH (fun _ _=>rfl)) pe_str (zU _))
    (zG (zO (z7 xK (by rfl) T.list PyProof.Rows.boot_list (zA (zS (ix_tup:IxR _ (rIxT K)) (pv 0) zH (fun _ _=>rfl)) zB))))
    zV)
   (zF (yL (zW xI (zS (ix_tup:IxR _ (rIxT K)) (pv 0) zH (fun _ _=>rfl)) pe_str (zU _))
    (zG (zO (zM C_tree_parts (hr.mono (by decide)) (zA (zS (ix_tup:IxR _ (rIxT K)) (pv 0) zH (fun _ _=>rfl)) zB))))
    zV)
   (zF (zY (i:=1) sc.nd rfl (Or.inl rfl) (zS (ix_tup:IxR _ (rIxT K)) (pv 0) zH (fun _ _=>rfl)))
   (zG (zO (z9 j4 (z9 j4 (yW (zA (zS (ix_tup:IxR _ (rIxT K)) (pv 0) zH (fun _ _=>rfl)) (zA (z7 y7 (by rfl) T.str PyProof.Rows.boot_str (zA (zK z6 (by rfl) T.len PySem.boot_len (zA (pv 1) zB)) zB)) zB))) (z7 xK (by rfl) T.list PyProof.Rows.boot_list (zA (pv 1) zB))) (yW (zA (zS (ix_tup:IxR _ (rIxT K)) (pv 0) zH (fun _ _=>rfl)) zB)))))))),?_⟩
  cases t with
  | leaf ls =>
   obtain ⟨a,b,rfl,hs,hb⟩:=leaf_at hd
   refine ⟨_,rfl,a,_,_,_,rfl,rfl,hs,rfl,rfl,_,rfl,iteY rfl ?_⟩
   exact ⟨_,rfl,a,_,_,_,rfl,rfl,hs,rfl,b,_,rfl,.inr hb,fun l nl=>k l _ (zE nl) nl zD⟩
  | tree rs =>
   obtain ⟨a,b,rfl,hs,hb⟩:=tree_at hd
   refine ⟨_,rfl,a,_,_,_,rfl,rfl,hs,rfl,rfl,_,rfl,iteN (by decide +kernel) ?_⟩
   refine ⟨_,rfl,a,_,_,_,rfl,rfl,hs,rfl,rfl,_,rfl,iteY rfl ?_⟩
   exact ⟨_,rfl,a,_,_,_,rfl,rfl,hs,rfl,_,rs,rfl,hb,good_rows g,fun l nl=>k l _ (zE nl) nl zD⟩
  | note x ps y =>
   obtain ⟨a,b,rfl,hs,hb⟩:=jB hd
   have hp:=good_pars g
   refine ⟨_,rfl,a,_,_,_,rfl,rfl,hs,rfl,rfl,_,rfl,iteN (by decide +kernel) ?_⟩
   refine ⟨_,rfl,a,_,_,_,rfl,rfl,hs,rfl,rfl,_,rfl,iteN (by decide +kernel) ?_⟩
   refine ⟨_,rfl,a,_,_,_,rfl,rfl,hs,rfl,?_⟩
   refine ⟨_,rfl,a,_,_,_,rfl,rfl,hs,rfl,_,rfl,b,_,rfl,.inr hb,_,rfl,?_,lineN 2,fun l1 n1=>?_⟩
   ·rw [List.length_map]; exact log_small (by omega)
   have s1:=zE (o:=.lst [V.str x,V.str (Str.ofString (toString (((ps.map V.str).length:Nat):Int)))]) n1
   refine ⟨_,rfl,b,_,rfl,.inr (s1.tupS hb),fun l2 n2=>?_⟩
   have s2:=s1.trans (zE (o:=.lst (ps.map V.str)) n2)
   have d12:l1 ≠ l2:=zJ zD n2
   refine ⟨l1,l2,_,_,rfl,rfl,(by rw [zI d12]; exact zD),zD,(by rw [List.length_map]; exact le_line (by simp only [List.length_cons,List.length_nil]; omega)),fun l3 n3=>?_⟩
   have s3:=s2.trans (zE (o:=.lst ([V.str x,V.str (Str.ofString (toString (((ps.map V.str).length:Nat):Int)))] ++ ps.map V.str)) n3)
   refine ⟨_,rfl,a,_,_,_,rfl,rfl,s3.tupS hs,rfl,lineN 1,fun l4 n4=>?_⟩
   have s4:=s3.trans (zE (o:=.lst [V.str y]) n4)
   have d34:l3 ≠ l4:=zJ zD n4
   refine ⟨l3,l4,_,_,rfl,rfl,(by rw [zI d34]; exact zD),zD,?_,fun l5 n5=>?_⟩
   ·rw [List.length_append,List.length_map]
    exact le_line (by simp only [List.length_cons,List.length_nil]; omega)
   ·refine k l5 _ (s4.trans (zE n5)) (s4.free n5) ?_
    rw [zD]
    congr 2
    show _ = ([x,dig ps.length] ++ ps ++ [y]).map V.str
    rw [List.map_append,List.map_append]
    show ([V.str x,V.str (Str.ofString (toString (((ps.map V.str).length:Nat):Int)))] ++ ps.map V.str) ++ [V.str y] = _
    rw [List.length_map]
    rfl
end f_parts_of
namespace f_counted
abbrev st:Stmt:=top 38
theorem sc:FnScope ["part"] ["part"] (zC st):=⟨rfl,rfl,rfl,by decide +kernel,rfl,by decide +kernel,by decide +kernel⟩
theorem ok {f:Addr} {fd:FuncData} (F:Fun K "counted" "counted" st f fd) (T:Txt P w K mg t1 t2 t3 t4 t5 t6 aL aC aN aT aA b1 b2 b3 b4 b5 b6 b7 b8 fP):FnOk P w K mg base CX0 1 f fd ["part"] spCounted:=by
 refine F.ok sc (fun vs H Q E h=>?_) (fun cdv A outer s H vs Q E hr h=>?_)
 ·obtain ⟨x,rfl,_⟩:=h
  rfl
 ·obtain ⟨x,rfl,hl,k⟩:=h
  refine ⟨_,(zG (zO (z9 y8 (z9 y8 (z7 y7 (by rfl) T.str PyProof.Rows.boot_str (zA (zK qF (by rfl) T.len PySem.boot_len (zA (pv 0) zB)) zB)) pe_str) (pv 0)))),?_⟩
  have d:=dig_len (n:=x.length) (by omega)
  have c1:("" ++ ":":String).length = 1:=by decide
  have c2:(":":Str).length = 1:=by decide +kernel
  refine ⟨_,rfl,x,rfl,le_line (by omega),_,rfl,log_small (by omega),_,_,rfl,rfl,le_line (by rw [c2]; exact Nat.le_trans (Nat.add_le_add_right d 1) (by decide)),_,rfl,_,_,rfl,rfl,le_line ?_,k⟩
  show (dig x.length ++ ":").length + x.length <= _
  rw [len_append,c2]
  omega
end f_counted
namespace f_spelled
abbrev st:Stmt:=top 39
theorem sc:FnScope ["thing"] ["thing"] (zC st):=⟨rfl,rfl,rfl,by decide +kernel,rfl,by decide +kernel,by decide +kernel⟩
theorem len_counted {x:Str} (h:x.length <= 1000):(counted x).length <= 1011:=by
 have d:=dig_len (n:=x.length) (by omega)
 have c2:(":":Str).length = 1:=by decide +kernel
 show (dig x.length ++ ":" ++ x).length <= _
 rw [len_append,len_append,c2]
 omega
theorem ok {f:Addr} {fd:FuncData} (F:Fun K "spelled" "spelled" st f fd) (T:Txt P w K mg t1 t2 t3 t4 t5 t6 aL aC aN aT aA b1 b2 b3 b4 b5 b6 b7 b8 fP) (C_letter_of:Cal P w K mg base 1 "letter_of" ["thing"] (spLetter K)) (C_parts_of:Cal P w K mg base 2 "parts_of" ["thing"] (spParts K))
  (C_counted:Cal P w K mg base 1 "counted" ["part"] spCounted):FnOk P w K mg base CX0 3 f fd ["thing"] (spSpelled K):=by
 refine F.ok sc (fun vs H Q E h=>?_) (fun cdv A outer s H vs Q E hr h=>?_)
 ·obtain ⟨v,t,rfl,_⟩:=h
  rfl
 ·obtain ⟨v,t,rfl,hd,g,k⟩:=h
  refine ⟨_,(zG (zO (z9 y8 (zM C_letter_of (hr.mono (by decide)) (zA (pv 0) zB)) (kP PySem.F.plainAttrs_str PySem.F.slot_str_join PySem.F.type_str_join mt_join pe_str (zA (xF (sc:=zC st) (N:=["thing"]) (N':=["part"]) (src:=[none]) ⟨by decide +kernel,rfl,rfl,by decide +kernel,by decide +kernel,by decide +kernel,by decide +kernel⟩ rfl rfl rfl (x9 (zM C_parts_of (hr.mono (by decide)) (zA (pv 0) zB))) (fun _ _ _ _=>(zT (i:=0) (show (["part"]:List Str).Nodup by decide +kernel) rfl (Or.inl rfl))) (fun _ _ _ _=>qP) (fun _ _ _ _=>(zM C_counted (hr.mono (by decide)) (zA (pv 0) zB)))) zB))))),?_⟩
  refine ⟨_,rfl,v,t,rfl,hd,rfl,_,rfl,v,t,rfl,hd,g,fun l H1 s1 nl hl=>?_⟩
  have hlen:(t.parts.map V.str).length <= 1000:=by rw [List.length_map]; exact g.1
  refine ⟨l,rfl,⟨_,SqL.of hl⟩,qU (K:=K) (a:=l) (xs:=t.parts.map V.str) (fun i ys σ H2=>∃ x,σ = [x] /\ H2 = H1 /\ ys = ((t.parts.take i).map counted).map V.str) ⟨none,rfl,rfl,rfl⟩ (le_line (by omega)) (fun i ys σ H2 hi ⟨x,_,e,ey⟩=>⟨by rw [e]; exact SqL.of hl,?_⟩) ?_ ?_⟩
  ·rw [ey,List.length_map,List.length_map,List.length_take]
   exact Nat.min_le_left _ _
  ·rintro i x ys σ H2 hi ⟨x0,rfl,rfl,rfl⟩
   rw [List.getElem?_map] at hi
   cases q:t.parts[i]? with
   | none=>rw [q] at hi; cases hi
   | some p =>
    rw [q] at hi
    have hi:V.str p = x:=Option.some.inj hi
    subst hi
    have hp:=g.2 p (List.mem_of_getElem? q)
    refine ⟨_,rfl,p,rfl,hp.len,_,rfl,rfl,?_⟩
    rw [List.take_add_one,q,List.map_append,List.map_append]
    rfl
  ·rintro ys σ H2 ⟨x0,rfl,rfl,rfl⟩ p np
   have e:(t.parts.take (t.parts.map V.str).length) = t.parts:=by rw [List.length_map,List.take_length]
   rw [e]
   have b1:∀ y ∈ t.parts.map counted,y.length <= 1011:=fun y hy=>by
    obtain ⟨z,hz,rfl⟩:=List.mem_map.mp hy
    exact len_counted (g.2 z hz).len
   have b2:=sum_le _ b1
   have b3:(t.parts.map counted).length <= 1000:=by rw [List.length_map]; exact g.1
   have b4:(t.parts.map counted).length * 1011 <= 1011000:=Nat.mul_le_mul_right 1011 b3
   have c0:("":Str).length = 0:=by decide +kernel
   have c1:t.letter.length = 1:=by rw [length_cs,jM]; rfl
   refine ⟨_,p,t.parts.map counted,rfl,rfl,.inl (SqL.of zD),by rw [c0]; omega,_,_,rfl,rfl,?_,?_⟩
   ·have:=StrLaws.join_length_le "" (t.parts.map counted)
    have e2:Txt.join "" (t.parts.map counted) = Str.join "" (t.parts.map counted):=StrLaws.glued_eq_join _ _
    rw [e2]
    rw [c0] at this
    exact le_line (by omega)
   ·rw [sp_eq]
    exact k _ (s1.trans (zE np))
end f_spelled
namespace f_digest
abbrev st:Stmt:=top 40
theorem sc:FnScope ["thing","number","sign"] ["thing"] (zC st):=⟨rfl,rfl,rfl,by decide +kernel,rfl,by decide +kernel,by decide +kernel⟩
theorem ok {f:Addr} {fd:FuncData} (F:Fun K "digest" "digest" st f fd) (T:Txt P w K mg t1 t2 t3 t4 t5 t6 aL aC aN aT aA b1 b2 b3 b4 b5 b6 b7 b8 fP) (C_spelled:Cal P w K mg base 3 "spelled" ["thing"] (spSpelled K)):FnOk P w K mg base CX0 4 f fd ["thing"] (spDigest K):=by
 refine F.ok sc (fun vs H Q E h=>?_) (fun cdv A outer s H vs Q E hr h=>?_)
 ·obtain ⟨v,t,rfl,_⟩:=h
  rfl
 ·obtain ⟨v,t,rfl,hd,g,k⟩:=h
  refine ⟨_,(zF (zY (i:=1) sc.nd rfl (Or.inl rfl) zH)
   (zF (xN PassesOwn.never rfl (pi_str (zM C_spelled (hr.mono (by decide)) (zA (pv 0) zB))) (zT (i:=2) sc.nd rfl (Or.inl rfl))
    (zG (zY (i:=1) sc.nd rfl (Or.inl rfl) (z9 xS (z9 q8 (z9 op_mul (yR (v:=.int 31) rfl T.DIGEST_FACTOR ⟨_,rfl⟩) (pv 1)) (zK call_ord (by rfl) T.ord PyProof.Rows.boot_ord (zA (pv 2) zB))) (yR (v:=.int 97) rfl T.DIGEST_BOUND ⟨_,rfl⟩)))))
   (zG (zO (pv 1))))),?_⟩
  refine ⟨_,rfl,v,t,rfl,hd,g,fun H1 s1=>⟨_,rfl,for_str (fun i σ H2=>∃ x,σ = [some v,some (.int (((cs t.sp).take i).foldl dgs 0)),x] /\ H2 = H1) ⟨none,rfl,rfl⟩ ?_ ?_⟩⟩
  ·rintro i c σ H2 hc ⟨x,rfl,rfl⟩
   refine ⟨_,rfl,_,_,rfl,rfl,.inl ⟨by decide,by decide⟩,_,rfl,_,rfl,rfl,_,_,rfl,rfl,_,_,rfl,rfl,(by show (0:Int) < 97; decide),some (.str ⟨#[c]⟩),?_,rfl⟩
   have hc':(cs t.sp)[i]? = some c:=by rw [← hc]; simp
   rw [List.take_add_one,hc',List.foldl_append]
   rfl
  ·rintro σ H2 ⟨x,rfl,rfl⟩
   refine ⟨_,rfl,?_⟩
   rw [length_cs,List.take_length]
   exact k _ s1
end f_digest
namespace s_names
abbrev st:Stmt:=inClass (top 57) 7
theorem sc:FnScope ["self"] ["self"] (zC st):=⟨rfl,rfl,rfl,by decide +kernel,rfl,by decide +kernel,by decide +kernel⟩
theorem ok {f:Addr} {fd:FuncData} (F:Fun K "names" "Shelf.names" st f fd) (T:Txt P w K mg t1 t2 t3 t4 t5 t6 aL aC aN aT aA b1 b2 b3 b4 b5 b6 b7 b8 fP):FnOk P w K mg base CX0 1 f fd ["self"] (kL P w K aC):=by
 refine F.ok sc (fun vs H Q E h=>?_) (fun cdv A outer s H vs Q E hr h=>?_)
 ·obtain ⟨a,fp,S,rfl,_⟩:=h
  rfl
 ·obtain ⟨a,fp,S,rfl,sh,k⟩:=h
  refine ⟨_,(zG (zO (z7 (call_listD rfl) (by rfl) T.list PyProof.Rows.boot_list (zA (qY (pv 0) rfl) zB)))),?_⟩
  obtain ⟨g,dx,d1,d2,d3,ts,nx,rfl,nd,h1,h2,h3,h4,h5,h6,h7,h8,h9⟩:=sh
  refine ⟨_,rfl,a,aC,dx,_,_,rfl,h1,T.cls,T.n1,rfl,d1,_,rfl,h4,fun l nl=>?_⟩
  have e:(((S.zip ts).map fun e=>((Sum.inr e.1.nm:Key),V.ref e.2)).map fun kv=>kV kv.1) = S.map fun e=>V.str e.nm:=by
   rw [List.map_map]
   have:(S.zip ts).map (·.1) = S:=List.map_fst_zip (by omega)
   conv=>rhs; rw [← this]
   rw [List.map_map]; rfl
  rw [e]
  exact k l nl
end s_names
namespace s_take
abbrev st:Stmt:=inClass (top 57) 1
theorem sc:FnScope ["self","name","thing","halves","head"] ["self","name","thing"] (zC st):=⟨rfl,rfl,rfl,by decide +kernel,rfl,by decide +kernel,by decide +kernel⟩
theorem ok {f:Addr} {fd:FuncData} (F:Fun K "take" "Shelf.take" st f fd) (T:Txt P w K mg t1 t2 t3 t4 t5 t6 aL aC aN aT aA b1 b2 b3 b4 b5 b6 b7 b8 fP):FnOk P w K mg base CX0 1 f fd ["self","name","thing"] (spTake P w K aC):=by
 refine F.ok sc (fun vs H Q E h=>?_) (fun cdv A outer s H vs Q E hr h=>?_)
 ·obtain ⟨a,fp,S,e,t,rfl,_⟩:=h
  rfl
 ·obtain ⟨a,fp,S,e,t,rfl,sh,ge,ht,hd,hn,hl,k⟩:=h
  have hu:=hu_of hr
  refine ⟨_,(zF (zY (i:=3) sc.nd rfl (Or.inl rfl) (kP PySem.F.plainAttrs_str PySem.F.slot_str_partition PySem.F.type_str_partition mt_partition (pv 1) (zA pe_str zB)))
   (zF (zY (i:=4) sc.nd rfl (Or.inl rfl) (zS (ix_tup:IxR _ (rIxT K)) (pv 3) zH (fun _ _=>rfl)))
   (zF (ps_dput hu (qY (pv 0) rfl) (pv 4) (zK (call_max2 rfl) (by rfl) T.max PyProof.Rows.boot_max (zA (pe_dget2 hu (qY (pv 0) rfl) (pv 4) zH ⟨rfl,rfl,rfl,rfl⟩) (zA (z9 q8 (z7 call_intT (by rfl) T.int PyProof.Rows.boot_int (zA (zS (ix_tup:IxR _ (rIxT K)) (pv 3) zH (fun _ _=>rfl)) zB)) zH) zB))) rfl)
   (zF (ps_dput hu (qY (pv 0) rfl) (pv 1) (pv 2) rfl)
   (zG (ps_tput hr.units (qY (pv 0) rfl) (pv 2) (pv 1) rfl)))))),?_⟩
  obtain ⟨g,dx,d1,d2,d3,ts,nx,rfl,nd,h1,h2,h3,h4,h5,h6,h7,h8,h9⟩:=id sh
  have noseq:=sh.noseq.tup
  have nl:(numT e.n).length <= 2000:=by
   have hlog:((e.n:Int)).natAbs.log2 < 1920:=by
    have:=ge.num
    rw [Int.natAbs_natCast]
    rcases Nat.eq_zero_or_pos e.n with z | z
    ·rw [z]; decide
    ·have:e.n.log2 < 20:=(Nat.log2_lt (by omega)).mpr (by omega)
     omega
   have:=PyProof.Rows.int_text_len_1921 hlog
   have e':(numT e.n).length <= 1921:=this
   omega
  have nml:e.nm.length <= 100000:=by
   have:=ge.hl
   have e1:dot.length = 1:=rfl
   unfold En.nm
   rw [len_append,len_append,e1]
   omega
  simp only [List.nodup_cons,List.mem_cons,List.not_mem_nil,or_false,not_or,List.nodup_nil,and_true,not_false_eq_true] at nd
  obtain ⟨⟨n01,n02,n03,n04⟩,⟨n12,n13,n14⟩,⟨n23,n24⟩,n34⟩:=nd
  refine ⟨_,rfl,rfl,e.h,numT e.n,46,rfl,by rw [dot_is]; rfl,ge.free,nml,fun p np=>?_⟩
  have u1:=zE (o:=.tup [V.str e.h,V.str ⟨#[46]⟩,V.str (numT e.n)]) np
  have hp:SqT K (upd H p (.tup [V.str e.h,V.str ⟨#[46]⟩,V.str (numT e.n)])) p [V.str e.h,V.str ⟨#[46]⟩,V.str (numT e.n)]:=SqT.of zD
  show tSeq _ _ _ _ (upd H p (.tup [V.str e.h,V.str ⟨#[46]⟩,V.str (numT e.n)]))
  generalize upd H p (.tup [V.str e.h,V.str ⟨#[46]⟩,V.str (numT e.n)]) = H1 at u1 hp
  have g1:=u1 _ _ h1
  have g4:=u1 _ _ h4
  have g6:=u1 _ _ h6
  refine ⟨_,rfl,p,_,_,_,rfl,rfl,hp,rfl,?_⟩
  refine ⟨_,rfl,a,aC,dx,_,_,rfl,g1,T.cls,T.n3,rfl,d3,rfl,.inl ⟨_,.inl g6⟩,_,rfl,_,DGet.k (k:=(Sum.inr e.h:Key)) g6,?_⟩
  obtain ⟨m,em,en⟩:∃ m:Nat,(valV nx (Sum.inr e.h:Key)).getD (V.int 0) = V.int (m:Int) /\ m = (nextOf S e.h).getD 0:=by
   rw [h8]
   cases nextOf S e.h with
   | none=>exact ⟨0,rfl,rfl⟩
   | some m=>exact ⟨m,rfl,rfl⟩
  rw [em]
  refine ⟨_,rfl,p,_,_,_,rfl,rfl,hp,rfl,e.n,rfl,by have:=ge.num; omega,_,_,rfl,rfl,_,_,rfl,?_⟩
  have emax:(if (e.n:Int) + 1 > (m:Int) then (e.n:Int) + 1 else (m:Int)) = ((max m (e.n + 1):Nat):Int):=by
   split <;> omega
  rw [emax]
  have nxl:nx.length < 2000:=by omega
  refine ⟨_,rfl,a,aC,dx,_,_,rfl,g1,T.cls,T.n3,rfl,_,rfl,d3,_,rfl,DPut.k (k:=(Sum.inr e.h:Key)) g6 (qG (by omega)),?_⟩
  have o1:Off [a,dx,d1,d2,d3] H (upd H1 d3 (.dK (putK nx (Sum.inr e.h:Key) (V.int ((max m (e.n + 1):Nat):Int))))):=(Off.of u1).upd (by simp)
  have g1b:upd H1 d3 (.dK (putK nx (Sum.inr e.h:Key) (V.int ((max m (e.n + 1):Nat):Int)))) a = some (.ins aC dx (flds d1 d2 d3)):=by rw [zI n04]; exact g1
  have g4b:upd H1 d3 (.dK (putK nx (Sum.inr e.h:Key) (V.int ((max m (e.n + 1):Nat):Int)))) d1 = some (.dK ((S.zip ts).map fun e=>((Sum.inr e.1.nm:Key),V.ref e.2))):=by rw [zI n24]; exact g4
  have g6b:upd H1 d3 (.dK (putK nx (Sum.inr e.h:Key) (V.int ((max m (e.n + 1):Nat):Int)))) d3 = some (.dK (putK nx (Sum.inr e.h:Key) (V.int ((max m (e.n + 1):Nat):Int)))):=zD
  have g2b:upd H1 d3 (.dK (putK nx (Sum.inr e.h:Key) (V.int ((max m (e.n + 1):Nat):Int)))) dx = some (.own a):=by rw [zI n14]; exact u1 _ _ h2
  obtain ⟨xs5,e5,_⟩:=h5.2.2.2
  have g5b:upd H1 d3 (.dK (putK nx (Sum.inr e.h:Key) (V.int ((max m (e.n + 1):Nat):Int)))) d2 = H d2:=by rw [zI n34,e5]; exact u1 _ _ e5
  show tSeq _ _ _ _ (upd H1 d3 (.dK (putK nx (Sum.inr e.h:Key) (V.int ((max m (e.n + 1):Nat):Int)))))
  generalize upd H1 d3 (.dK (putK nx (Sum.inr e.h:Key) (V.int ((max m (e.n + 1):Nat):Int)))) = H2 at o1 g1b g4b g6b g2b g5b
  have zl:((S.zip ts).map fun e=>((Sum.inr e.1.nm:Key),V.ref e.2)).length <= 2000:=by rw [List.length_map,List.length_zip]; omega
  refine ⟨_,rfl,_,rfl,a,aC,dx,_,_,rfl,g1b,T.cls,T.n1,rfl,_,rfl,d1,_,rfl,DPut.k (k:=(Sum.inr e.nm:Key)) g4b (qG (by omega)),?_⟩
  have ek:((S.zip ts).map fun e=>((Sum.inr e.1.nm:Key),V.ref e.2)).map (·.1) = S.map fun e=>(Sum.inr e.nm:Key):=by
   rw [List.map_map]
   have:(S.zip ts).map (·.1) = S:=List.map_fst_zip (by omega)
   conv=>rhs; rw [← this]
   rw [List.map_map]; rfl
  have hk:(Sum.inr e.nm:Key) ∉ ((S.zip ts).map fun e=>((Sum.inr e.1.nm:Key),V.ref e.2)).map (·.1):=fun z=>by
   rw [ek] at z
   obtain ⟨e',he',q⟩:=List.mem_map.mp z
   exact hn (List.mem_map.mpr ⟨e',he',Sum.inr.inj q⟩)
  rw [put_new hk]
  have o2:Off [a,dx,d1,d2,d3] H (upd H2 d1 (.dK ((S.zip ts).map (fun e=>((Sum.inr e.1.nm:Key),V.ref e.2)) ++ [(Sum.inr e.nm,V.ref t)]))):=o1.upd (by simp)
  have g1c:upd H2 d1 (.dK ((S.zip ts).map (fun e=>((Sum.inr e.1.nm:Key),V.ref e.2)) ++ [(Sum.inr e.nm,V.ref t)])) a = some (.ins aC dx (flds d1 d2 d3)):=by rw [zI n02]; exact g1b
  have g2c:upd H2 d1 (.dK ((S.zip ts).map (fun e=>((Sum.inr e.1.nm:Key),V.ref e.2)) ++ [(Sum.inr e.nm,V.ref t)])) dx = some (.own a):=by rw [zI n12]; exact g2b
  have g4c:upd H2 d1 (.dK ((S.zip ts).map (fun e=>((Sum.inr e.1.nm:Key),V.ref e.2)) ++ [(Sum.inr e.nm,V.ref t)])) d1 = some (.dK ((S.zip ts).map (fun e=>((Sum.inr e.1.nm:Key),V.ref e.2)) ++ [(Sum.inr e.nm,V.ref t)])):=zD
  have g5c:upd H2 d1 (.dK ((S.zip ts).map (fun e=>((Sum.inr e.1.nm:Key),V.ref e.2)) ++ [(Sum.inr e.nm,V.ref t)])) d2 = H d2:=by rw [zI (Ne.symm n23)]; exact g5b
  have g6c:upd H2 d1 (.dK ((S.zip ts).map (fun e=>((Sum.inr e.1.nm:Key),V.ref e.2)) ++ [(Sum.inr e.nm,V.ref t)])) d3 = some (.dK (putK nx (Sum.inr e.h:Key) (V.int ((max m (e.n + 1):Nat):Int)))):=by rw [zI (Ne.symm n24)]; exact g6b
  generalize upd H2 d1 (.dK ((S.zip ts).map (fun e=>((Sum.inr e.1.nm:Key),V.ref e.2)) ++ [(Sum.inr e.nm,V.ref t)])) = H3 at o2 g1c g2c g4c g5c g6c
  have T3:ThD P w K H3 d2 (S.map fun e=>(e.d,V.str e.nm)):=ThD.off noseq o2 g5c h5
  have ht3:Dt K H3 e.d (.ref t):=Dt.off noseq o2 _ _ ge.key.1 ht
  refine ⟨_,rfl,_,rfl,a,aC,dx,_,_,rfl,g1c,T.cls,T.n2,rfl,_,rfl,t,d2,_,e.d,rfl,rfl,T3,by rw [List.length_map]; omega,ge.key,ht3,fun o T4 ⟨es,eo⟩=>?_⟩
  have hk2:e.d ∉ (S.map fun e=>(e.d,V.str e.nm)).map (·.1):=by rw [List.map_map]; exact hd
  rw [put_new hk2] at T4
  have o3:Off [a,dx,d1,d2,d3] H (upd H3 d2 o):=o2.upd (by simp)
  refine k _ o3 ⟨g.snoc ge hd hn (by omega),dx,d1,d2,d3,ts ++ [t],_,rfl,by simp [n01,n02,n03,n04,n12,n13,n14,n23,n24,n34],by rw [zI n03]; exact g1c,by rw [zI n13]; exact g2c,by rw [List.length_append,List.length_append,h3]; rfl,?_,?_,by rw [zI (Ne.symm n34)]; exact g6c,?_,?_,?_⟩
  ·rw [zI n23,g4c,List.zip_append h3.symm,List.map_append]; rfl
  ·rw [List.map_append]; exact T4
  ·have:=xC nx (Sum.inr e.h:Key) (V.int ((max m (e.n + 1):Nat):Int))
   rw [List.length_append,List.length_singleton]
   omega
  ·intro h
   rw [valV_put,nextOf_snoc]
   by_cases q:e.h = h
   ·rw [if_pos (by rw [q]),if_pos q,← q,← en]; rfl
   ·rw [if_neg (fun z=>q (Sum.inr.inj z).symm),if_neg q]
    exact h8 h
  ·intro i e' t' q1 q2
   rcases Nat.lt_trichotomy i S.length with z | z | z
   ·rw [List.getElem?_append_left z] at q1
    rw [List.getElem?_append_left (by omega)] at q2
    exact Dt.off noseq o3 _ _ (g.ent e' (List.mem_of_getElem? q1)).key.1 (h9 i e' t' q1 q2)
   ·subst z
    rw [List.getElem?_append_right (Nat.le_refl _),Nat.sub_self] at q1
    rw [List.getElem?_append_right (by omega),h3,Nat.sub_self] at q2
    cases q1
    cases q2
    exact Dt.off noseq o3 _ _ ge.key.1 ht
   ·rw [List.getElem?_eq_none (by rw [List.length_append,List.length_singleton]; omega)] at q1
    cases q1
end s_take
end
end An20
namespace An20
open PySem L2 An
seal L2.PS L2.PSs L2.PE L2.PT L2.PW L2.PA L2.PG L2.PGs L2.PI L2.PFi L2.PC
section
variable {P:Program} {w:World} {K:PySem.W.Frag} {mg:Str -> Option Value} {base:Heap} {t1 t2 t3 t4 t5 t6:Tok} {aL aC aN aT aA b1 b2 b3 b4 b5 b6 b7 b8 fP:Addr}
theorem keys_eq {S:List En} {ts:List Addr} (h:ts.length = S.length):((S.zip ts).map fun e=>((Sum.inr e.1.nm:Key),V.ref e.2)).map (·.1) = S.map fun e=>(Sum.inr e.nm:Key):=by
 rw [List.map_map]
 have:(S.zip ts).map (·.1) = S:=List.map_fst_zip (by omega)
 conv=>rhs; rw [← this]
 rw [List.map_map]; rfl
theorem has_val {S:List En} {ts:List Addr} (h:ts.length = S.length) (x:Str):(valV ((S.zip ts).map fun e=>((Sum.inr e.1.nm:Key),V.ref e.2)) (Sum.inr x:Key)).isSome = decide (x ∈ S.map En.nm):=by
 have ek:=keys_eq h
 rw [Bool.eq_iff_iff,decide_eq_true_iff]
 constructor
 ·intro z
  obtain ⟨v,hv⟩:=Option.isSome_iff_exists.mp z
  have:=valV_in hv
  rw [ek] at this
  obtain ⟨e,he,q⟩:=List.mem_map.mp this
  exact List.mem_map.mpr ⟨e,he,Sum.inr.inj q⟩
 ·intro z
  obtain ⟨e,he,q⟩:=List.mem_map.mp z
  cases hv:valV ((S.zip ts).map fun e=>((Sum.inr e.1.nm:Key),V.ref e.2)) (Sum.inr x:Key) with
  | some v=>rfl
  | none =>
   refine absurd ?_ (valV_not hv)
   rw [ek]
   exact List.mem_map.mpr ⟨e,he,by rw [q]⟩
theorem at_val {S:List En} {ts:List Addr} (g:GoodS S) (h:ts.length = S.length) {i:Nat} {e:En} {t:Addr} (q1:S[i]? = some e) (q2:ts[i]? = some t):valV ((S.zip ts).map fun e=>((Sum.inr e.1.nm:Key),V.ref e.2)) (Sum.inr e.nm:Key) = some (V.ref t):=by
 have nd':(((S.zip ts).map fun e=>((Sum.inr e.1.nm:Key),V.ref e.2)).map (·.1)).Nodup:=by
  rw [keys_eq h]
  have:=List.Pairwise.map (S:=fun a b:Key=>a ≠ b) (fun x=>(Sum.inr x:Key)) (fun a b h z=>h (Sum.inr.inj z)) g.nn
  rw [List.map_map] at this
  exact this
 have hm:((Sum.inr e.nm:Key),V.ref t) ∈ (S.zip ts).map fun e=>((Sum.inr e.1.nm:Key),V.ref e.2) :=
  List.mem_map.mpr ⟨(e,t),List.mem_of_getElem? (i:=i) (by rw [List.getElem?_zip_eq_some]; exact ⟨q1,q2⟩),rfl⟩
 exact val_mem nd' hm
namespace s_key
abbrev st:Stmt:=top 13
theorem sc:FnScope ["table","thing"] ["table","thing"] (zC st):=⟨rfl,rfl,rfl,by decide +kernel,rfl,by decide +kernel,by decide +kernel⟩
theorem ok {f:Addr} {fd:FuncData} (F:Fun K "is_key" "is_key" st f fd) (T:Txt P w K mg t1 t2 t3 t4 t5 t6 aL aC aN aT aA b1 b2 b3 b4 b5 b6 b7 b8 fP):FnOk P w K mg base CX0 1 f fd ["table","thing"] (spKey K):=by
 refine F.ok sc (fun vs H Q E h=>?_) (fun cdv A outer s H vs Q E hr h=>?_)
 ·obtain ⟨d1,kvs,d,v,rfl,_⟩:=h
  rfl
 ·obtain ⟨d1,kvs,d,v,rfl,h4,hd,k⟩:=h
  refine ⟨_,(zG (zO (yX (zK (zZ (K:=K)) (by rfl) T.isinstance PyProof.Rows.boot_isinstance (zA (pv 1) (zA (yT (v:=.ty "str") rfl T.str PyProof.Rows.boot_str rfl) zB))) (xT (yI (op_inZ hr.units) (pv 1) (pv 0) (by with_unfolding_all rfl)))))),?_⟩
  refine ⟨_,rfl,_,_,d,_,rfl,hd,T.is (by simp [kinds]),_,rfl,?_⟩
  cases d with
  | str x =>
   cases (show v = _ from hd)
   exact iteT ⟨_,rfl,_,rfl,d1,_,rfl,DGet.k (k:=(Sum.inr x:Key)) h4,k⟩
  | none=>exact iteF k
  | bool b=>exact iteF k
  | int i=>exact iteF k
  | list ds=>exact iteF k
  | tuple ds=>exact iteF k
  | dict kvs=>exact iteF k
end s_key
theorem hasK_eq {S:List En} {ts:List Addr} (h:ts.length = S.length) (d:PyData):hasK ((S.zip ts).map fun e=>((Sum.inr e.1.nm:Key),V.ref e.2)) d = hasD S d:=by
 cases d with
 | str x=>exact has_val h x
 | none=>rfl
 | bool b=>rfl
 | int i=>rfl
 | list ds=>rfl
 | tuple ds=>rfl
 | dict kvs=>rfl
namespace s_has
abbrev st:Stmt:=inClass (top 57) 5
theorem sc:FnScope ["self","name"] ["self","name"] (zC st):=⟨rfl,rfl,rfl,by decide +kernel,rfl,by decide +kernel,by decide +kernel⟩
theorem ok {f:Addr} {fd:FuncData} (F:Fun K "has" "Shelf.has" st f fd) (T:Txt P w K mg t1 t2 t3 t4 t5 t6 aL aC aN aT aA b1 b2 b3 b4 b5 b6 b7 b8 fP) (C_is_key:Cal P w K mg base 1 "is_key" ["table","thing"] (spKey K)):FnOk P w K mg base CX0 2 f fd ["self","name"] (spHas P w K aC):=by
 refine F.ok sc (fun vs H Q E h=>?_) (fun cdv A outer s H vs Q E hr h=>?_)
 ·obtain ⟨a,fp,S,d,v,rfl,_⟩:=h
  rfl
 ·obtain ⟨a,fp,S,d,v,rfl,sh,hd,k⟩:=h
  refine ⟨_,(zG (zO (zM C_is_key (hr.mono (by decide)) (zA (qY (pv 0) rfl) (zA (pv 1) zB))))),?_⟩
  obtain ⟨g,dx,d1,d2,d3,ts,nx,rfl,nd,h1,h2,h3,h4,h5,h6,h7,h8,h9⟩:=sh
  refine ⟨_,rfl,a,aC,dx,_,_,rfl,h1,T.cls,T.n1,rfl,_,rfl,d1,_,d,v,rfl,h4,hd,?_⟩
  rw [hasK_eq h3 d]
  exact k
end s_has
namespace s_nname
abbrev st:Stmt:=top 14
theorem sc:FnScope ["store","name"] ["store","name"] (zC st):=⟨rfl,rfl,rfl,by decide +kernel,rfl,by decide +kernel,by decide +kernel⟩
theorem ok {f:Addr} {fd:FuncData} (F:Fun K "need_name" "need_name" st f fd) (T:Txt P w K mg t1 t2 t3 t4 t5 t6 aL aC aN aT aA b1 b2 b3 b4 b5 b6 b7 b8 fP) (M_has:Met P w K mg base aC 2 "has" ["self","name"] (spHas P w K aC)):FnOk P w K mg base (CXF P w) 3 f fd ["store","name"] (spNeedName P w K aC aN):=by
 refine F.okX sc (fun vs H Q E h=>?_) (fun cdv A outer s H vs Q E hr h=>?_)
 ·obtain ⟨a,fp,S,d,v,rfl,_⟩:=h
  rfl
 ·obtain ⟨a,fp,S,d,v,rfl,sh,hd,k1,k2⟩:=h
  refine ⟨_,(zG (yL (yO (zQ (K:=K) (pe_metC (pv 0) T.cls M_has (hr.mono (by decide)) (zA (pv 1) zB)) (fun _=>rfl)))
    (zG (kH rfl jG rfl T.NoName T.xNoName (zA pe_str zB)))
    zV)),?_⟩
  obtain ⟨g,dx,d1,d2,d3,ts,nx,efp,nd,h1,h2,h3,h4,h5,h6,h7,h8,h9⟩:=id sh
  refine ⟨_,rfl,a,dx,_,rfl,h1,rfl,_,rfl,a,_,S,d,v,rfl,sh,hd,_,rfl,?_⟩
  cases q:hasD S d with
  | false=>exact iteT ⟨lineN 1,k2 q⟩
  | true=>exact iteF (k1 q)
end s_nname
namespace s_thing
abbrev st:Stmt:=inClass (top 57) 6
theorem sc:FnScope ["self","name"] ["self","name"] (zC st):=⟨rfl,rfl,rfl,by decide +kernel,rfl,by decide +kernel,by decide +kernel⟩
theorem ok {f:Addr} {fd:FuncData} (F:Fun K "thing" "Shelf.thing" st f fd) (T:Txt P w K mg t1 t2 t3 t4 t5 t6 aL aC aN aT aA b1 b2 b3 b4 b5 b6 b7 b8 fP) (C_need_name:CalX P w K mg base 3 "need_name" ["store","name"] (spNeedName P w K aC aN)):FnOk P w K mg base (CXF P w) 4 f fd ["self","name"] (jD P w K aC aN):=by
 refine F.okX sc (fun vs H Q E h=>?_) (fun cdv A outer s H vs Q E hr h=>?_)
 ·obtain ⟨a,fp,S,d,v,rfl,_⟩:=h
  rfl
 ·obtain ⟨a,fp,S,d,v,rfl,sh,hd,k1,k2⟩:=h
  have hu:=hu_of hr
  refine ⟨_,(zF (z5 (zX C_need_name (hr.mono (by decide)) yF (zA (pv 0) (zA (pv 1) zB))))
   (zG (zO (pe_dget hu (qY (pv 0) rfl) (pv 1) (fun _ _=>rfl))))),?_⟩
  obtain ⟨g,dx,d1,d2,d3,ts,nx,efp,nd,h1,h2,h3,h4,h5,h6,h7,h8,h9⟩:=id sh
  refine ⟨_,rfl,_,rfl,a,_,S,d,v,rfl,sh,hd,fun q=>?_,k2⟩
  cases d with
  | str x =>
   cases (show v = _ from hd)
   have q:x ∈ S.map En.nm:=of_decide_eq_true q
   obtain ⟨e,he,rfl⟩:=List.mem_map.mp q
   obtain ⟨i,hi,ei⟩:=List.mem_iff_getElem.mp he
   have hi':i < ts.length:=by omega
   have q1:S[i]? = some e:=by rw [List.getElem?_eq_getElem hi,ei]
   have q2:ts[i]? = some ts[i]:=List.getElem?_eq_getElem hi'
   have hv:=at_val g h3 q1 q2
   exact ⟨_,rfl,a,aC,dx,_,_,rfl,h1,T.cls,T.n1,rfl,_,rfl,d1,_,rfl,by rw [← hv]; exact DGet.k (k:=(Sum.inr e.nm:Key)) h4,k1 e he rfl _ (h9 i e _ q1 q2)⟩
  | none=>cases q
  | bool b=>cases q
  | int i=>cases q
  | list ds=>cases q
  | tuple ds=>cases q
  | dict kvs=>cases q
end s_thing
namespace s_form
abbrev st:Stmt:=inClass (top 57) 4
theorem sc:FnScope ["self","name","forms"] ["self","name","forms"] (zC st):=⟨rfl,rfl,rfl,by decide +kernel,rfl,by decide +kernel,by decide +kernel⟩
theorem ok {f:Addr} {fd:FuncData} (F:Fun K "need_form" "Shelf.need_form" st f fd) (T:Txt P w K mg t1 t2 t3 t4 t5 t6 aL aC aN aT aA b1 b2 b3 b4 b5 b6 b7 b8 fP) (M_thing:MetX P w K mg base aC 4 "thing" ["self","name"] (jD P w K aC aN)):FnOk P w K mg base (CXF P w) 5 f fd ["self","name","forms"] (spForm1 P w K aC aN):=by
 refine F.okX sc (fun vs H Q E h=>?_) (fun cdv A outer s H vs Q E hr h=>?_)
 ·obtain ⟨a,f,fp,S,x,ws,rfl,_⟩:=h
  rfl
 ·obtain ⟨a,fo,fp,S,x,ws,rfl,sh,th,hf,okw,k1,k2⟩:=h
  refine ⟨_,(zG (yL (zW (op_ninDT (K:=K) hr.units) (zS (ix_tup:IxR _ (rIxT K)) (yQ (pv 0) T.cls M_thing (hr.mono (by decide)) yF (zA (pv 1) zB)) zH (fun _ _=>rfl)) (pv 2) (by with_unfolding_all rfl))
    (zG (kH rfl jG rfl T.NoName T.xNoName (zA pe_str zB)))
    zV)),?_⟩
  obtain ⟨g,dx,d1,d2,d3,ts,nx,efp,nd,h1,_⟩:=id sh
  refine ⟨_,rfl,a,dx,_,rfl,h1,rfl,_,rfl,a,_,S,.str x,.str x,rfl,sh,rfl,fun e he ex t ht=>?_,fun no=>?_⟩
  ·have ex:x = e.nm:=by injection ex
   obtain ⟨t',ed,gt,_⟩:=th e he
   rw [ed] at ht
   obtain ⟨c,r,ec,hc⟩:=kE ht
   cases ec
   have wd:=kI ed
   have fe:=form_in g he ws
   rw [← ex,wd] at fe
   refine ⟨t,_,_,_,rfl,rfl,hc,atI_zero _ _,_,rfl,.str t'.word,ws.map .str,rfl,⟨fo,_,rfl,hf,DtAll.strs ws⟩,(lay_strs ws okw).1,?_,(show 0 <= 60 by decide),!decide (t'.word ∈ ws),?_,?_⟩
   ·cases t'
    ·show PyData.strOk "leaf" = true; decide +kernel
    ·show PyData.strOk "tree" = true; decide +kernel
    ·show PyData.strOk "note" = true; decide +kernel
   ·rw [any_strs]
    cases decide (t'.word ∈ ws) <;> rfl
   ·cases q:decide (t'.word ∈ ws) with
    | true=>rw [q] at fe; exact iteF (k1 fe)
    | false=>rw [q] at fe; exact iteT ⟨lineN 1,k2 fe⟩
  ·have no:x ∉ S.map En.nm:=of_decide_eq_false no
   exact k2 (form_out no ws)
end s_form
theorem lt_ok:∀ y ∈ (["leaf","tree"]:List Str),PyData.strOk y = true:=fun y hy=>by
 rcases List.mem_cons.mp hy with rfl | hy
 ·decide +kernel
 ·rw [List.mem_singleton.mp hy]; decide +kernel
theorem t_ok:∀ y ∈ (["tree"]:List Str),PyData.strOk y = true:=fun y hy=>by
 rw [List.mem_singleton.mp hy]; decide +kernel
theorem n_ok:∀ y ∈ (["note"]:List Str),PyData.strOk y = true:=fun y hy=>by
 rw [List.mem_singleton.mp hy]; decide +kernel
namespace s_need
abbrev st:Stmt:=inClass (top 57) 3
theorem sc:FnScope ["self","thing","row","parent"] ["self","thing"] (zC st):=⟨rfl,rfl,rfl,by decide +kernel,rfl,by decide +kernel,by decide +kernel⟩
theorem ok {f:Addr} {fd:FuncData} (F:Fun K "need_names" "Shelf.need_names" st f fd) (T:Txt P w K mg t1 t2 t3 t4 t5 t6 aL aC aN aT aA b1 b2 b3 b4 b5 b6 b7 b8 fP) (M_need_form:MetX P w K mg base aC 5 "need_form" ["self","name","forms"] (spForm1 P w K aC aN)):FnOk P w K mg base (CXF P w) 6 f fd ["self","thing"] (spNeedN P w K aC aN):=by
 refine F.okX sc (fun vs H Q E h=>?_) (fun cdv A outer s H vs Q E hr h=>?_)
 ·obtain ⟨a,fp,S,t,v,rfl,_⟩:=h
  rfl
 ·obtain ⟨a,fp,S,t,v,rfl,sh,th,hd,k1,k2⟩:=h
  refine ⟨_,(jW (yL (zW xI (zS (ix_tup:IxR _ (rIxT K)) (pv 1) zH (fun _ _=>rfl)) pe_str (zU _))
    (zG (xN PassesOwn.leaving rfl (qD (zS (ix_tup:IxR _ (rIxT K)) (pv 1) zH (fun _ _=>rfl))) (zT (i:=2) sc.nd rfl (Or.inl rfl))
     (zG (z5 (yQ (pv 0) T.cls M_need_form (hr.mono (by decide)) yF (zA (zS (ix_tup:IxR _ (rIxT K)) (pv 2) zH (fun _ _=>rfl)) (zA (z8 (zA pe_str (zA pe_str zB))) zB)))))))
    zV)
   (zG (yL (zW xI (zS (ix_tup:IxR _ (rIxT K)) (pv 1) zH (fun _ _=>rfl)) pe_str (zU _))
    (zF (z5 (yQ (pv 0) T.cls M_need_form (hr.mono (by decide)) yF (zA (zS (ix_tup:IxR _ (rIxT K)) (pv 1) zH (fun _ _=>rfl)) (zA (z8 (zA pe_str zB)) zB))))
    (zG (xN PassesOwn.leaving rfl (qD (zS (ix_tup:IxR _ (rIxT K)) (pv 1) zH (fun _ _=>rfl))) (zT (i:=3) sc.nd rfl (Or.inl rfl))
     (zG (z5 (yQ (pv 0) T.cls M_need_form (hr.mono (by decide)) yF (zA (pv 3) (zA (z8 (zA pe_str zB)) zB))))))))
    zV))),?_⟩
  obtain ⟨g,dx,d1,d2,d3,ts,nx,efp,nd,h1,_⟩:=id sh
  cases t with
  | leaf ls =>
   obtain ⟨p,b,rfl,hs,hb⟩:=leaf_at hd
   refine ⟨fun σ' H'=>σ' = [some (.ref a),some (.ref p),none,none] /\ H' = H,⟨_,rfl,p,_,_,_,rfl,rfl,hs,rfl,rfl,false,congrArg V.bl (by decide +kernel),iteF (A:=False) ⟨rfl,rfl⟩⟩,?_⟩
   rintro σ' H' ⟨rfl,rfl⟩
   exact ⟨_,rfl,p,_,_,_,rfl,rfl,hs,rfl,rfl,false,congrArg V.bl (by decide +kernel),iteF (A:=False) (k1 rfl _ (Same.refl _))⟩
  | tree rs =>
   obtain ⟨p,b,rfl,hs,hb⟩:=tree_at hd
   obtain ⟨b',xs,e,hb1,hx⟩:=hb
   cases e
   have hxl:xs.length = rs.length:=by rw [hx.length,List.length_map]
   refine ⟨fun σ' H'=>∃ o,σ' = [some (.ref a),some (.ref p),o,none] /\ Same H H' /\ (rs.all fun r=>yA S r.2 ["leaf","tree"]) = true,?_,?_⟩
   ·refine ⟨_,rfl,p,_,_,_,rfl,rfl,hs,rfl,rfl,true,congrArg V.bl (decide_eq_true rfl),iteT (B:=False) ?_⟩
    refine ⟨_,rfl,p,_,_,_,rfl,rfl,hs,rfl,b,rfl,⟨_,hb1⟩,jU (K:=K) (a:=b) (xs:=xs) (fun i σ H2=>∃ o,σ = [some (.ref a),some (.ref p),o,none] /\ Same H H2 /\ ((rs.take i).all fun r=>yA S r.2 ["leaf","tree"]) = true) ⟨none,rfl,Same.refl _,rfl⟩ (fun i σ H2 _ ⟨_,_,e,_⟩=>e.tupS hb1) ?_ ?_⟩
    ·rintro i x σ H2 hi ⟨o,rfl,s2,al⟩
     obtain ⟨r,c,er,rfl,hc⟩:=rows_get hx hi
     refine ⟨_,rfl,a,dx,_,rfl,s2 _ _ h1,rfl,_,rfl,c,_,_,_,rfl,rfl,s2.tupS hc,rfl,lineN 2,fun q nq=>?_⟩
     have s3:=s2.trans (zE (o:=.tup [V.str "leaf",V.str "tree"]) nq)
     refine ⟨a,q,fp,S,r.2,["leaf","tree"],rfl,sh.same s3,th,SqT.of zD,lt_ok,fun ok=>⟨_,rfl,s3,?_⟩,fun no=>?_⟩
     ·rw [List.take_add_one,er,List.all_append,al]
      show (yA S r.2 ["leaf","tree"] && true) = true
      rw [ok]; rfl
     ·refine k2 ?_ _ s3
      show (rs.all fun r=>yA S r.2 ["leaf","tree"]) = false
      rw [List.all_eq_false]
      exact ⟨r,List.mem_of_getElem? er,by rw [no]; decide⟩
    ·rintro σ H2 ⟨o,rfl,s2,al⟩
     rw [hxl,List.take_length] at al
     exact ⟨o,rfl,s2,al⟩
   ·rintro σ' H' ⟨o,rfl,s2,al⟩
    exact ⟨_,rfl,p,_,_,_,rfl,rfl,s2.tupS hs,rfl,rfl,false,congrArg V.bl (by decide +kernel),iteF (A:=False) (k1 al _ s2)⟩
  | note x ps y =>
   obtain ⟨p,b,rfl,hs,hb⟩:=jB hd
   refine ⟨fun σ' H'=>σ' = [some (.ref a),some (.ref p),none,none] /\ H' = H,⟨_,rfl,p,_,_,_,rfl,rfl,hs,rfl,rfl,false,congrArg V.bl (by decide +kernel),iteF (A:=False) ⟨rfl,rfl⟩⟩,?_⟩
   rintro σ' H' ⟨rfl,rfl⟩
   refine ⟨_,rfl,p,_,_,_,rfl,rfl,hs,rfl,rfl,true,congrArg V.bl (decide_eq_true rfl),iteT (B:=False) ?_⟩
   refine ⟨_,rfl,a,dx,_,rfl,h1,rfl,_,rfl,p,_,_,_,rfl,rfl,hs,rfl,lineN 1,fun q nq=>?_⟩
   have s3:=zE (o:=.tup [V.str "tree"]) nq
   refine ⟨a,q,fp,S,x,["tree"],rfl,sh.same s3,th,SqT.of zD,t_ok,fun ok=>?_,fun no=>k2 ?_ _ s3⟩
   ·show tNext _ _ (upd H' q (.tup [V.str "tree"]))
    generalize upd H' q (.tup [V.str "tree"]) = G at s3
    refine ⟨_,rfl,p,_,_,_,rfl,rfl,s3.tupS hs,rfl,b,rfl,⟨_,s3.tupS hb⟩,jU (K:=K) (a:=b) (xs:=ps.map V.str) (fun i σ H2=>∃ o,σ = [some (.ref a),some (.ref p),none,o] /\ Same H' H2 /\ ((ps.take i).all fun r=>yA S r ["note"]) = true) ⟨none,rfl,s3,rfl⟩ (fun i σ H2 _ ⟨_,_,e,_⟩=>e.tupS hb) ?_ ?_⟩
    ·rintro i z σ H2 hi ⟨o,rfl,s2,al⟩
     rw [List.getElem?_map] at hi
     cases er:ps[i]? with
     | none=>rw [er] at hi; cases hi
     | some r =>
      rw [er] at hi
      have hi:V.str r = z:=Option.some.inj hi
      subst hi
      refine ⟨_,rfl,a,dx,_,rfl,s2 _ _ h1,rfl,_,rfl,lineN 1,fun q2 nq2=>?_⟩
      have s4:=s2.trans (zE (o:=.tup [V.str "note"]) nq2)
      refine ⟨a,q2,fp,S,r,["note"],rfl,sh.same s4,th,SqT.of zD,n_ok,fun ok2=>⟨_,rfl,s4,?_⟩,fun no=>k2 ?_ _ s4⟩
      ·rw [List.take_add_one,er,List.all_append,al]
       show (yA S r ["note"] && true) = true
       rw [ok2]; rfl
      ·show (yA S x ["tree"] && ps.all fun p=>yA S p ["note"]) = false
       rw [ok,Bool.true_and,List.all_eq_false]
       exact ⟨r,List.mem_of_getElem? er,by rw [no]; decide⟩
    ·rintro σ H2 ⟨o,rfl,s2,al⟩
     rw [List.length_map,List.take_length] at al
     refine k1 ?_ _ s2
     show (yA S x ["tree"] && ps.all fun p=>yA S p ["note"]) = true
     rw [ok,al]; rfl
   ·show (yA S x ["tree"] && ps.all fun p=>yA S p ["note"]) = false
    rw [no]; rfl
end s_need
end
end An20
namespace An20
open PySem L2 An
seal L2.PS L2.PSs L2.PE L2.PT L2.PW L2.PA L2.PG L2.PGs L2.PI L2.PFi L2.PC
theorem zP {X:Cx}:Raises X (fun _ _ _=>False):=by
 intro pins σ H s e s' I hx
 obtain ⟨_,_,_,_,_,_,_,_,_,_,_,_,_,_,q⟩:=hx
 exact q.elim
theorem nm_uniq {S:List En} (g:GoodS S) {e f:En} (he:e ∈ S) (hf:f ∈ S) (h:e.nm = f.nm):e = f:=by
 obtain ⟨i,hi,ei⟩:=List.mem_iff_getElem.mp he
 obtain ⟨j,hj,ej⟩:=List.mem_iff_getElem.mp hf
 have hp:=List.pairwise_iff_getElem.mp g.nn
 have:i = j:=by
  rcases Nat.lt_trichotomy i j with z | z | z
  ·exact absurd (by rw [List.getElem_map,List.getElem_map,ei,ej]; exact h) (hp i j (by rw [List.length_map]; exact hi) (by rw [List.length_map]; exact hj) z)
  ·exact z
  ·exact absurd (by rw [List.getElem_map,List.getElem_map,ei,ej]; exact h.symm) (hp j i (by rw [List.length_map]; exact hj) (by rw [List.length_map]; exact hi) z)
 subst this
 rw [← ei,ej]
theorem tup_rows:∀ rs:List (Str × Str),yK (rs.map yD) = true
 | []=>rfl
 | r :: rs=>by
  show (kM (yD r) && yK (rs.map yD)) = true
  rw [tup_rows rs]; rfl
theorem tup_dat (t:Th):kM t.dat = true:=by
 cases t with
 | leaf ls=>show (true && (yK (ls.map .str) && true)) = true; rw [qN]; rfl
 | tree rs=>show (true && (yK (rs.map yD) && true)) = true; rw [tup_rows]; rfl
 | note x ps y=>show (true && (true && (yK (ps.map .str) && (true && true)))) = true; rw [qN]; rfl
theorem dat_dt {K:PySem.W.Frag} {H:Hp} {t:Th} {v:V} (h:Dw K H t.dat v):Dt K H t.dat v:=Dw.dt _ _ (dictFree_of _ (tup_dat t)) h
section
variable {P:Program} {w:World} {K:PySem.W.Frag} {mg:Str -> Option Value} {base:Heap} {t1 t2 t3 t4 t5 t6:Tok} {aL aC aN aT aA b1 b2 b3 b4 b5 b6 b7 b8 fP:Addr}
namespace s_put
abbrev st:Stmt:=inClass (top 57) 2
theorem sc:FnScope ["self","thing","head","number","name"] ["self","thing"] (zC st):=⟨rfl,rfl,rfl,by decide +kernel,rfl,by decide +kernel,by decide +kernel⟩
theorem ok {f:Addr} {fd:FuncData} (F:Fun K "put" "Shelf.put" st f fd) (T:Txt P w K mg t1 t2 t3 t4 t5 t6 aL aC aN aT aA b1 b2 b3 b4 b5 b6 b7 b8 fP) (C_need_thing:CalX P w K mg base 6 "need_thing" ["thing"] (spNeed K aT)) (M_need_names:MetX P w K mg base aC 6 "need_names" ["self","thing"] (spNeedN P w K aC aN))
  (C_letter_of:Cal P w K mg base 1 "letter_of" ["thing"] (spLetter K)) (C_digest:Cal P w K mg base 4 "digest" ["thing"] (spDigest K)) (M_take:Met P w K mg base aC 1 "take" ["self","name","thing"] (spTake P w K aC)):FnOk P w K mg base (CXF P w) 7 f fd ["self","thing"] (spPut P w K aC aN aT):=by
 refine F.okX sc (fun vs H Q E h=>?_) (fun cdv A outer s H vs Q E hr h=>?_)
 ·obtain ⟨a,fp,S,d,v,rfl,_⟩:=h
  rfl
 ·obtain ⟨a,fp,S,d,v,rfl,sh,th,hd,sm,nar,tg,hl,hn,k1,k2,k3⟩:=h
  have hu:=hu_of hr
  refine ⟨_,(zF (z5 (zX C_need_thing (hr.mono (by decide)) yF (zA (pv 1) zB)))
   (zF (z5 (yQ (pv 0) T.cls M_need_names (hr.mono (by decide)) yF (zA (pv 1) zB)))
   (zF (yL (zW (op_inT hr.units) (pv 1) (qY (pv 0) rfl) (by with_unfolding_all rfl))
    (zG (zO (pe_tget hr.units (qY (pv 0) rfl) (pv 1) (fun _ _=>rfl))))
    zV)
   (zF (zY (i:=2) sc.nd rfl (Or.inl rfl) (z9 y8 (zM C_letter_of (hr.mono (by decide)) (zA (pv 1) zB)) (z7 y7 (by rfl) T.str PyProof.Rows.boot_str (zA (zM C_digest (hr.mono (by decide)) (zA (pv 1) zB)) zB))))
   (zF (zY (i:=3) sc.nd rfl (Or.inl rfl) (pe_dget2 hu (qY (pv 0) rfl) (pv 2) zH ⟨rfl,rfl,rfl,rfl⟩))
   (zF (zY (i:=4) sc.nd rfl (Or.inl rfl) (pe_f3 (pv 2) (pv 3)))
   (zF (z5 (pe_metC (pv 0) T.cls M_take (hr.mono (by decide)) (zA (pv 4) (zA (pv 1) zB))))
   (zG (zO (pv 4)))))))))),?_⟩
  refine ⟨_,rfl,d,v,rfl,hd,sm,nar,fun tb H1 s1=>?_,fun tb H1 s1=>k1 tb _ s1⟩
  obtain ⟨t,rfl,gt⟩:=tg tb
  have hd:=dat_dt hd
  obtain ⟨tv,ev⟩:∃ t,v = .ref t:=by
   obtain ⟨c,r,e,_⟩:=kE hd
   exact ⟨c,e⟩
  subst ev
  have sh1:=sh.same s1
  have hd1:=Dt.same s1 _ _ hd
  obtain ⟨gS,dx,d1,d2,d3,ts,nx,efp,nd,h1,h2,h3,h4,h5,h6,h7,h8,h9⟩:=id sh1
  refine ⟨_,rfl,a,dx,_,rfl,h1,rfl,_,rfl,a,fp,S,t,.ref tv,rfl,sh1,th,hd1,fun nok H2 s2=>?_,fun no H2 s2=>k2 t rfl tb no _ (s1.trans s2)⟩
  have k3:=k3 t rfl tb nok
  have s12:=s1.trans s2
  have sh2:=sh1.same s2
  have hd2:=Dt.same s2 _ _ hd1
  clear sh1 h2 h3 h4 h5 h6 h7 h8 h9 h1 hd1 efp nd
  obtain ⟨gS,dx,d1,d2,d3,ts,nx,efp,nd,h1,h2,h3,h4,h5,h6,h7,h8,h9⟩:=id sh2
  have kt:=dat_key gt
  refine ⟨_,rfl,_,rfl,a,aC,dx,_,_,rfl,h1,T.cls,T.n2,rfl,tv,d2,_,t.dat,rfl,rfl,h5,kt,hd2,_,rfl,?_⟩
  cases hv:valV (S.map fun e=>(e.d,V.str e.nm)) t.dat with
  | some u =>
   obtain ⟨p,hp,e⟩:=List.mem_map.mp (valV_in hv)
   obtain ⟨en,hen,rfl⟩:=List.mem_map.mp hp
   have e:en.d = t.dat:=e
   have hu':valV (S.map fun e=>(e.d,V.str e.nm)) t.dat = some (V.str en.nm):=val_mem (by rw [List.map_map]; exact gS.nd) (List.mem_map.mpr ⟨en,hen,by rw [e]⟩)
   exact iteT ⟨_,rfl,a,aC,dx,_,_,rfl,h1,T.cls,T.n2,rfl,_,rfl,tv,d2,_,t.dat,_,rfl,rfl,h5,kt,hd2,hu',k3 _ S en ⟨Off.of s12,sh2,hen,e,.inl rfl⟩⟩
  | none =>
   have hnd:t.dat ∉ S.map (·.d):=fun z=>by
    have:=valV_not hv
    rw [List.map_map] at this
    exact this z
   refine iteF (A:=False) ?_
   have db:=dg_bound t.sp
   have hnt:=hn (headT t)
   refine ⟨_,rfl,.ref tv,t,rfl,hd2,_,rfl,.ref tv,t,rfl,hd2,gt,fun H3 s3=>⟨_,rfl,?_,_,_,rfl,rfl,?_,?_⟩⟩
   ·have hz:(dg t.sp).natAbs < 97:=by omega
    rcases Nat.eq_zero_or_pos (dg t.sp).natAbs with z | z
    ·rw [z]; decide
    ·have:(dg t.sp).natAbs.log2 < 7:=(Nat.log2_lt (by omega)).mpr (by omega)
     omega
   ·rw [num_dg]
    have h1:=num_len2 (n:=(dg t.sp).toNat) (by omega)
    have h2:=letter_len t
    exact le_line (by omega)
   rw [num_dg]
   show gName 2 (V.str (headT t)) _ H3 _
   have sh3:=sh2.same s3
   have g1:=s3 _ _ h1
   have g6:=s3 _ _ h6
   refine ⟨_,rfl,a,aC,dx,_,_,rfl,g1,T.cls,T.n3,rfl,d3,rfl,.inl ⟨_,.inl g6⟩,_,rfl,_,DGet.k (k:=(Sum.inr (headT t):Key)) g6,?_⟩
   have em:(valV nx (Sum.inr (headT t):Key)).getD (V.int 0) = V.int (((nextOf S (headT t)).getD 0:Nat):Int):=by
    rw [h8]
    cases nextOf S (headT t) with
    | none=>rfl
    | some m=>rfl
   rw [em]
   have dl:(".":Str).length = 1:=by decide +kernel
   refine ⟨_,rfl,_,rfl,by have:=headT_len t; omega,by rw [dl]; decide,_,rfl,_,rfl,hnt,?_⟩
   have enm:headT t ++ "." ++ numT ((nextOf S (headT t)).getD 0) = (entT S t).nm:=by unfold En.nm entT; rw [dot_is]
   rw [enm]
   refine ⟨_,rfl,a,dx,_,rfl,g1,rfl,_,rfl,_,rfl,a,fp,S,entT S t,tv,rfl,sh3,⟨kt,headT_free t,hnt,headT_len t⟩,Dt.same s3 _ _ hd2,hnd,new_nm gS (headT_free t),hl,fun H4 o4 sh4=>?_⟩
   exact ⟨_,rfl,k3 _ _ _ ⟨(Off.of (s12.trans s3)).trans o4,sh4,by simp,rfl,.inr ⟨rfl,rfl,hnd⟩⟩⟩
end s_put
namespace s_init
abbrev st:Stmt:=inClass (top 57) 0
theorem sc:FnScope ["self","base","name"] ["self","base"] (zC st):=⟨rfl,rfl,rfl,by decide +kernel,rfl,by decide +kernel,by decide +kernel⟩
theorem ok {f:Addr} {fd:FuncData} (F:Fun K "__init__" "Shelf.__init__" st f fd) (T:Txt P w K mg t1 t2 t3 t4 t5 t6 aL aC aN aT aA b1 b2 b3 b4 b5 b6 b7 b8 fP) (M_names:Met P w K mg base aC 1 "names" ["self"] (kL P w K aC)) (M_take:Met P w K mg base aC 1 "take" ["self","name","thing"] (spTake P w K aC))
  (M_thing:MetX P w K mg base aC 4 "thing" ["self","name"] (jD P w K aC aN)):FnOk P w K mg base CX0 5 f fd ["self","base"] (spInit P w K aC):=by
 refine F.ok sc (fun vs H Q E h=>?_) (fun cdv A outer s H vs Q E hr h=>?_)
 ·obtain ⟨x,dx,b,S,rfl,_⟩:=h
  rfl
 ·obtain ⟨x,dx,b,S,rfl,hx,hdx,ne,hb,k⟩:=h
  refine ⟨_,(zF (ps_fld (pv 0) pe_dnewK rfl)
   (zF (ps_fld (pv 0) pe_dnewX rfl)
   (zF (ps_fld (pv 0) pe_dnewK rfl)
   (zG (yL (zW op_notN (pv 1) pe_non (zU _))
    (zG (xN PassesOwn.never rfl (x9 (pe_metC0 (pv 1) T.cls M_names (hr.mono (by decide)))) (zT (i:=2) sc.nd rfl (Or.inl rfl))
     (zG (z5 (pe_metC (pv 0) T.cls M_take (hr.mono (by decide)) (zA (pv 2) (zA (yQ (pv 1) T.cls M_thing (hr.mono (by decide)) zP (zA (pv 2) zB)) zB)))))))
    zV))))),?_⟩
  refine fun d1 n1=>⟨_,rfl,x,aC,dx,_,rfl,(zE n1) _ _ hx,T.cls,T.n1,by decide,?_⟩
  have x1:x ≠ d1:=zJ hx n1
  have dx1:dx ≠ d1:=zJ hdx n1
  refine fun d2 o2 n2 T2 e2=>?_
  obtain ⟨es,rfl⟩:=e2
  have n2':d2 ≠ x /\ d2 ≠ d1 /\ H d2 = none:=by
   refine ⟨fun z=>?_,fun z=>?_,?_⟩
   ·rw [z,zD] at n2; cases n2
   ·rw [z,zI (Ne.symm x1),zD] at n2; cases n2
   ·have a1:d2 ≠ x:=fun z=>by rw [z,zD] at n2; cases n2
    have a2:d2 ≠ d1:=fun z=>by rw [z,zI (Ne.symm x1),zD] at n2; cases n2
    rw [zI a1,zI a2] at n2
    exact n2
  obtain ⟨c2x,c21,c2n⟩:=n2'
  have dx2:dx ≠ d2:=zJ hdx c2n
  refine ⟨_,rfl,x,aC,dx,[("thing_by_name",V.ref d1)],rfl,by rw [zI (Ne.symm c2x),zD]; rfl,T.cls,T.n2,(show 1 < 1000 by decide),?_⟩
  refine fun d3 n3=>?_
  have n3':d3 ≠ x /\ d3 ≠ d2 /\ d3 ≠ d1 /\ H d3 = none:=by
   have a1:d3 ≠ x:=fun z=>by rw [z,zD] at n3; cases n3
   have a2:d3 ≠ d2:=fun z=>by rw [z,zI c2x,zD] at n3; cases n3
   have a3:d3 ≠ d1:=fun z=>by rw [z,zI (Ne.symm x1),zI (Ne.symm c21),zI (Ne.symm x1),zD] at n3; cases n3
   refine ⟨a1,a2,a3,?_⟩
   rw [zI a1,zI a2,zI a1,zI a3] at n3
   exact n3
  obtain ⟨c3x,c32,c31,c3n⟩:=n3'
  have dx3:dx ≠ d3:=zJ hdx c3n
  refine ⟨_,rfl,x,aC,dx,[("thing_by_name",V.ref d1),("name_by_thing",V.ref d2)],rfl,by rw [zI (Ne.symm c3x),zD]; rfl,T.cls,T.n3,(show 2 < 1000 by decide),?_⟩
  obtain ⟨H4,e4⟩:∃ H4,H4 = upd (upd (upd (upd (upd (upd H d1 (.dK [])) x (.ins aC dx (putF "thing_by_name" (V.ref d1) []))) d2 (RawD d2 es)) x (.ins aC dx (putF "name_by_thing" (V.ref d2) [("thing_by_name",V.ref d1)]))) d3 (.dK [])) x (.ins aC dx (putF "next_numbers" (V.ref d3) [("thing_by_name",V.ref d1),("name_by_thing",V.ref d2)])):=⟨_,rfl⟩
  have q0:H4 x = some (.ins aC dx (flds d1 d2 d3)):=by rw [e4,zD]; rfl
  have q1:H4 d1 = some (.dK []):=by rw [e4,zI (Ne.symm x1),zI (Ne.symm c31),zI (Ne.symm x1),zI (Ne.symm c21),zI (Ne.symm x1),zD]
  have q2:H4 d2 = some (RawD d2 es):=by rw [e4,zI c2x,zI (Ne.symm c32),zI c2x,zD]
  have q3:H4 d3 = some (.dK []):=by rw [e4,zI c3x,zD]
  have qx:H4 dx = some (.own x):=by rw [e4,zI ne,zI dx3,zI ne,zI dx2,zI ne,zI dx1]; exact hdx
  have of4:Off [x] H H4:=fun c o hc e=>by
   have cx:c ≠ x:=fun z=>hc (by rw [z]; exact List.mem_cons_self)
   rw [e4,zI cx,zI (zJ e c3n),zI cx,zI (zJ e c2n),zI cx,zI (zJ e n1)]
   exact e
  have fpn:∀ c ∈ [x,dx,d1,d2,d3],c = x \/ c = dx \/ H c = none:=fun c hc=>by
   simp only [List.mem_cons,List.not_mem_nil,or_false] at hc
   rcases hc with rfl | rfl | rfl | rfl | rfl
   ·exact .inl rfl
   ·exact .inr (.inl rfl)
   ·exact .inr (.inr n1)
   ·exact .inr (.inr c2n)
   ·exact .inr (.inr c3n)
  have sh4:ShAt P w K aC H4 x [x,dx,d1,d2,d3] []:=by
   obtain ⟨_,_,_,xs,exs,r⟩:=T2
   cases r
   rw [zD] at exs
   have q2':H4 d2 = some (RawD d2 (List.map (entryOfKey (yP P w)) [])):=q2.trans exs
   exact ⟨GoodS.nil,dx,d1,d2,d3,[],[],rfl,by simp [Ne.symm ne,x1,Ne.symm c2x,Ne.symm c3x,dx1,dx2,dx3,Ne.symm c21,Ne.symm c31,Ne.symm c32],q0,qx,rfl,q1,⟨Nat.zero_le _,fun _ z=>(nomatch z),List.nodup_nil,[],q2',.nil⟩,q3,Nat.zero_le _,fun h=>rfl,fun i e t z=>by cases z⟩
  rw [← e4]
  clear e4
  rcases hb with ⟨rfl,rfl⟩ | ⟨a,fp0,rfl,sh0,x0,dx0,Sl⟩
  ·exact ⟨_,rfl,rfl,false,congrArg V.bl (by rw [decide_eq_true rfl]; rfl),iteF (A:=False) (k _ _ fpn of4 sh4)⟩
  ·refine ⟨_,rfl,rfl,true,congrArg V.bl (by rw [decide_eq_false (fun z=>by cases z)]; rfl),iteT (B:=False) ?_⟩
   have dj:∀ c ∈ fp0,c ∉ [x,dx,d1,d2,d3]:=fun c hc z=>by
    obtain ⟨o,eo,_⟩:=sh0.noseq c hc
    rcases fpn c z with rfl | rfl | q
    ·exact x0 hc
    ·exact dx0 hc
    ·rw [eo] at q; cases q
   have sh04:ShAt P w K aC H4 a fp0 S:=sh0.off (gp:=[x]) (fun b hb xs z=>by
    rw [List.mem_singleton.mp hb] at z
    rcases z with z | ⟨u,z⟩
    ·rw [hx] at z; cases z
    ·rw [hx] at z; cases z) of4 (fun c hc z=>x0 (by rw [← List.mem_singleton.mp z]; exact hc))
   obtain ⟨gS,dy,e1,e2,e3,ts,nx,efp,nd,h1,h2,h3,h4,h5,h6,h7,h8,h9⟩:=id sh04
   refine ⟨_,rfl,a,dy,_,rfl,h1,rfl,a,fp0,S,rfl,sh04,fun l nl=>?_⟩
   have ul:=zE (o:=.lst (S.map fun e=>V.str e.nm)) nl
   have hl5:upd H4 l (.lst (S.map fun e=>V.str e.nm)) l = some (.lst (S.map fun e=>V.str e.nm)):=zD
   have sh5:=sh4.same ul
   have sh05:=sh04.same ul
   have lfp:l ∉ [x,dx,d1,d2,d3]:=fun z=>by
    obtain ⟨o,eo,_⟩:=sh4.noseq l z
    rw [eo] at nl; cases nl
   have of5:Off [x] H (upd H4 l (.lst (S.map fun e=>V.str e.nm))):=of4.trans (Off.of ul)
   refine ⟨l,rfl,⟨_,SqL.of hl5⟩,?_⟩
   generalize upd H4 l (.lst (S.map fun e=>V.str e.nm)) = H5 at ul hl5 sh5 sh05 of5
   have ns5:=sh5.noseq.tup
   refine for_list (K:=K) (a:=l) (xs:=S.map fun e=>V.str e.nm) (fun i σ H6=>∃ o,σ = [some (.ref x),some (.ref a),o] /\ Off [x,dx,d1,d2,d3] H5 H6 /\ ShAt P w K aC H6 x [x,dx,d1,d2,d3] (S.take i)) ⟨none,rfl,Off.refl _ _,sh5⟩ (fun i σ H6 hi ⟨_,_,o6,_⟩=>SqL.of (o6 _ _ lfp hl5)) ?_ ?_
   ·rintro i v σ H6 hv ⟨o,rfl,o6,sh6⟩
    rw [List.getElem?_map] at hv
    cases q:S[i]? with
    | none=>rw [q] at hv; cases hv
    | some e =>
     rw [q] at hv
     have hv:V.str e.nm = v:=Option.some.inj hv
     subst hv
     have he:=List.mem_of_getElem? q
     have sh06:=sh05.off ns5 o6 dj
     obtain ⟨_,dy',_,_,_,_,_,_,_,k1,_⟩:=id sh06
     obtain ⟨_,dz',_,_,_,_,_,_,_,z1,_⟩:=id sh6
     refine ⟨_,rfl,x,dz',_,rfl,z1,rfl,_,rfl,_,rfl,a,dy',_,rfl,k1,rfl,_,rfl,a,fp0,S,.str e.nm,.str e.nm,rfl,sh06,rfl,fun e2 he2 ex t ht=>?_,fun no=>(of_decide_eq_false no (List.mem_map.mpr ⟨e,he,rfl⟩))⟩
     cases nm_uniq gS he he2 (by injection ex)
     refine ⟨x,_,S.take i,e,t,rfl,sh6,gS.ent e he,ht,?_,?_,by rw [List.length_take]; omega,fun H7 o7 sh7=>?_⟩
     ·rw [List.map_take]; exact nodup_take gS.nd (by rw [List.getElem?_map,q]; rfl)
     ·rw [List.map_take]; exact nodup_take gS.nn (by rw [List.getElem?_map,q]; rfl)
     ·refine ⟨_,rfl,o6.trans o7,?_⟩
      rw [List.take_add_one,q]
      exact sh7
   ·rintro σ H6 ⟨o,rfl,o6,sh6⟩
    rw [List.length_map,List.take_length] at sh6
    refine k _ _ fpn (fun c u hc e=>?_) sh6
    have e5:=of5 c u hc e
    by_cases z:c ∈ [x,dx,d1,d2,d3]
    ·rcases fpn c z with q | q | q
     ·exact absurd (by rw [q]; exact List.mem_cons_self) hc
     ·subst q
      obtain ⟨_,dz',y1,y2,y3,_,_,efp',_,_,z2,_⟩:=id sh6
      injection efp' with w1 w2
      injection w2 with w2 w3
      subst w2
      rw [hdx] at e
      cases e
      exact z2
     ·rw [e] at q; cases q
    ·exact o6 c u z e5
end s_init
end
end An20
namespace An10
end An10
namespace An10
end An10
namespace An12
open PySem L2 An An10
end An12
namespace An10
open PySem L2 An
end An10
namespace An10
open PySem L2 An
end An10
namespace An12
open PySem L2 An An10
end An12
namespace AnJ
section
variable {α:Type}
inductive Pt (α:Type) where
 | same (ls:List α)
 | clash (b m y:List α)
end
end AnJ
namespace AnJ
open An10
end AnJ
namespace AxK
end AxK
namespace AnJ
open AxK
end AnJ
namespace AxK
open PySem PySem.W PyProof.Rows
end AxK
namespace L2
open PySem PyProof.Rows
end L2
namespace L2
open PySem PySem.Spec PyProof.Rows PySem.W AxK
end L2
namespace AnJ
open PySem L2 An An10 An12 AxK
end AnJ
namespace AnJ
open AxK
end AnJ
namespace AnJ
open PySem L2 An An10 An12 AxK
end AnJ
namespace An
open PySem L2
end An
namespace AxS
open PySem PySem.Spec PyProof.Rows
end AxS
namespace AxS
open PySem PySem.Spec PyProof.Rows
end AxS
namespace AxS
open PySem PySem.Spec PyProof.Rows
end AxS
namespace AxS
open PySem PySem.Spec PyProof.Rows
end AxS
namespace L2
open PySem PySem.Spec PyProof.Rows AxS
end L2
namespace L2
open PySem PySem.Spec PyProof.Rows AxS
section
variable {X:Cx} {tg:Expr}
def putAll (kvs more:List (Key × V)):List (Key × V):=more.foldl (fun acc kv=>putK acc kv.1 kv.2) kvs
theorem KV.putAll:∀ {more:List (Key × V)} {um:List (Key × Value)} {kvs:List (Key × V)} {vs:List (Key × Value)},KV kvs vs -> KV more um -> KV (putAll kvs more) (merged vs um)
 | [],_,_,_,r,.nil=>r
 | p :: more,q :: um,kvs,vs,r,.cons h t=>by
  have e:p.1 = q.1:=h.1
  have:=KV.putAll (kvs:=putK kvs p.1 p.2) (vs:=stored vs q.1 q.2) (by rw [← e]; exact r.put p.1 h.2) t
  exact this
theorem x4:∀ (more kvs:List (Key × V)),(putAll kvs more).length <= kvs.length + more.length
 | [],kvs=>Nat.le_refl _
 | p :: more,kvs=>by
  have:=x4 more (putK kvs p.1 p.2)
  have:=xC kvs p.1 p.2
  show (putAll (putK kvs p.1 p.2) more).length <= _
  rw [List.length_cons]
  omega
def tDUpd (td ty:TE):TE:=fun σ H Q=>td σ H fun x H1=>∃ a,x = .ref a /\ IsD H1 a /\ ty σ H1 fun y H2=>∃ b kvs more,y = .ref b /\ a ≠ b /\ H2 a = some (.dK kvs) /\ Rd H2 b (.dK more) /\ kvs.length + more.length <= sizeLine /\ Q .non (upd H2 a (.dK (putAll kvs more)))
theorem pe_dupd {o e:Expr} {apos cpos:Pos} {td ty:TE} (ho:PE X o td) (he:PE X e ty) (m:M1 X o "update" apos e cpos):PE X (.Call (.Attribute o "update" apos) [e] [] cpos) (tDUpd td ty):=by
 intro pins s σ H Q I h
 refine wpAny_Call_method m.base m.few m.line PySem.F.plainAttrs_dict PySem.F.slot_dict_update PySem.F.type_dict_update (thn (ho pins s σ H _ I h) fun u s1 ⟨x,H1,I1,rx,a,ex,d,q1⟩=>?_)
 subst ex
 obtain rfl:u = Value.ref a:=rx
 obtain ⟨t1,t2,_⟩:=isD_at I1 d
 refine ⟨t1,t2,?_⟩
 rw [m.trees]
 refine Calls.callWith_builtin rfl (Calls.evalArgs_plain (Calls.spliced_cons (thn (he pins s1 σ H1 _ I1 q1) fun iv s2 ⟨y,H2,I2,ry,b,kvs,more,ey,ne,ea,eb,hz,q2⟩=>Calls.spliced_nil ?_)))
 subst ey
 cases ry
 obtain ⟨z,hd,vs,rel,dd⟩:=dk_of I2.hok ea
 obtain ⟨z2,hd2,um,rel2,dd2⟩:=dk_rd I2.hok eb
 refine call_meetsIn PySem.F.slot_dict_update dd.typeIs PySem.F.entry_dict_update (PySem.F.args_dict_update_2 _ _) (meets_dict_update (yC X.prog X.w) a b ne hd2)
  ⟨vs,um,dd,dd2,by rw [← rel.length,← rel2.length]; exact hz,fun h' dd' _ hs=>⟨.non,_,?_,rfl,q2⟩⟩
 have hex:∃ q,h'.get? a = some q:=let ⟨q,_,_,hq,_⟩:=dd'; ⟨q,hq⟩
 exact kK I2 (by rw [ea]; exact True.intro) hs hex (dk_new (Nat.le_trans (x4 more kvs) hz) hd (rel.putAll rel2) dd')
end
end L2
namespace L2
open PySem PySem.Spec PyProof.Rows
end L2
namespace AxS
open PySem PySem.Spec PyProof.Rows
section
variable {prog:Program} {w:World} {A:Around} {E:Value -> Shared -> Prop} {s:Shared}
set_option maxHeartbeats 6400000 in
end
end AxS
namespace L2
open PySem PySem.Spec PyProof.Rows AxS
end L2
namespace AxS
open PySem PySem.Spec PyProof.Rows
end AxS
namespace L2
open PySem PySem.Spec PyProof.Rows AxS
end L2
namespace L2
open PySem PySem.Spec PyProof.Rows
end L2
namespace L2
open PySem PySem.Spec PyProof.Rows
theorem Room.units1 {k:Nat} {A:Around} (r:Room k A):A.units + 1 < cLine:=by have:=r.un; omega
section
variable {X:Cx}
def rNinZ:R2:=fun y x H Q=>∃ a o,x = .ref a /\ DGet H a y o /\ Q (.bl (!o.isSome)) H
theorem op_ninZ (hu:X.A.units + 64 < cLine):OpR X (compareOp .NotIn) rNinZ:=by
 intro pins s σ H y x v u Q I ry rx h
 obtain ⟨a,o,rfl,g,q⟩:=h
 cases rx
 exact d_notIn (by omega) I g ry fun s' I'=>⟨.bl _,H,I',rfl,q⟩
end
end L2
namespace AnS
open PySem L2 An AnJ
structure DictIs (K:PySem.W.Frag) (H:Hp) (kvs:List (Key × V)) (L:List Str) (g:Str -> PyData):Prop where
 keys:kvs.map (·.1) = L.map Sum.inr
 nd:L.Nodup
 val:∀ p ∈ L,∃ v,valV kvs (.inr p) = some v /\ Dt K H (g p) v
section
variable {K:PySem.W.Frag} {H H':Hp} {kvs more:List (Key × V)} {L M:List Str} {g:Str -> PyData}
theorem DictIs.nil:DictIs K H [] [] g:=⟨rfl,List.nodup_nil,fun _ h=>(nomatch h)⟩
theorem DictIs.len (h:DictIs K H kvs L g):kvs.length = L.length:=by
 have:=congrArg List.length h.keys
 rw [List.length_map,List.length_map] at this
 exact this
theorem DictIs.cong {g':Str -> PyData} (h:DictIs K H kvs L g) (e:∀ p ∈ L,g p = g' p):DictIs K H kvs L g':=⟨h.keys,h.nd,fun p hp=>let ⟨v,a,b⟩:=h.val p hp; ⟨v,a,e p hp ▸ b⟩⟩
theorem DictIs.mem (h:DictIs K H kvs L g) {p:Str}:(.inr p:Key) ∈ kvs.map (·.1) ↔ p ∈ L:=by
 rw [h.keys,List.mem_map]
 exact ⟨fun ⟨q,hq,e⟩=>by cases e; exact hq,fun z=>⟨p,z,rfl⟩⟩
theorem DictIs.no (h:DictIs K H kvs L g) {p:Str} (n:p ∉ L):valV kvs (.inr p) = none:=by
 cases e:valV kvs (.inr p) with
 | none=>rfl
 | some v=>exact absurd (h.mem.mp (valV_in e)) n
theorem DictIs.isSome (h:DictIs K H kvs L g) (p:Str):(valV kvs (.inr p)).isSome = decide (p ∈ L):=by
 by_cases z:p ∈ L
 ·obtain ⟨v,e,_⟩:=h.val p z
  rw [e,decide_eq_true z]; rfl
 ·rw [h.no z,decide_eq_false z]; rfl
def addL (L:List Str) (p:Str):List Str:=if p ∈ L then L else L ++ [p]
theorem mem_addL {p q:Str}:q ∈ addL L p ↔ q ∈ L \/ q = p:=by
 unfold addL
 by_cases z:p ∈ L
 ·rw [if_pos z]
  exact ⟨.inl,fun h=>h.elim id fun e=>e ▸ z⟩
 ·rw [if_neg z,List.mem_append,List.mem_singleton]
theorem DictIs.put (h:DictIs K H kvs L g) (p:Str) {v:V} {d:PyData} (hv:Dt K H d v):DictIs K H (putK kvs (.inr p) v) (addL L p) (fun q=>if q = p then d else g q):=by
 refine ⟨?_,?_,fun q hq=>?_⟩
 ·unfold addL
  by_cases z:p ∈ L
  ·rw [if_pos z]
   unfold putK
   rw [if_pos (by rw [xX,h.isSome,decide_eq_true z]),List.map_map,← h.keys]
   refine List.map_congr_left fun kv _=>?_
   show (if kv.1 = .inr p then (kv.1,v) else kv).1 = kv.1
   split <;> rfl
  ·rw [if_neg z,putK_new v (h.no z),List.map_append,List.map_append,h.keys]
   rfl
 ·unfold addL
  by_cases z:p ∈ L
  ·rw [if_pos z]; exact h.nd
  ·rw [if_neg z]; exact jX h.nd z
 ·rw [valV_put]
  by_cases e:q = p
  ·subst e
   rw [if_pos rfl]
   exact ⟨v,rfl,by show Dt K H (if q = q then d else g q) v; rw [if_pos rfl]; exact hv⟩
  ·have e':¬ ((.inr q:Key) = .inr p):=fun z=>by cases z; exact e rfl
   rw [if_neg e']
   obtain ⟨w,a,b⟩:=h.val q ((mem_addL.mp hq).resolve_right e)
   exact ⟨w,a,by show Dt K H (if q = p then d else g q) w; rw [if_neg e]; exact b⟩
end
end AnS
namespace AnS
open PySem L2 An AnJ
end AnS
namespace AnS
theorem len_sub {l m:List PySem.Str} (n1:l.Nodup) (n2:m.Nodup) (h:∀ p ∈ l,p ∈ m):l.length <= m.length:=by
 have:=(List.perm_ext_iff_of_nodup n1 (n2.filter (fun p=>decide (p ∈ l)))).mpr fun p=>by
  rw [List.mem_filter,decide_eq_true_iff]
  exact ⟨fun z=>⟨h p z,z⟩,fun z=>z.2⟩
 rw [this.length_eq]
 exact List.length_filter_le _ _
end AnS
namespace An
open PySem L2
def strsD (ds:List PyData):List Str:=ds.filterMap fun d=>match d with
 | .str x=>some x
 | _=>none
def parD:PyData -> List Str
 | .tuple [_,_,.tuple ds,_]=>strsD ds
 | _=>[]
theorem strsD_map:∀ ps:List Str,strsD (ps.map .str) = ps
 | []=>rfl
 | p :: ps=>by
  show p :: strsD (ps.map .str) = _
  rw [strsD_map ps]
theorem jK (x:Str) (ps:List Str) (y:Str):parD (Th.note x ps y).dat = ps:=strsD_map ps
def parS (S:List En) (x:Str):List Str:=match S.find? (fun e=>decide (e.nm = x)) with
 | some e=>parD e.d
 | none=>[]
inductive Rch (par:Str -> List Str) (rs:List Str):Str -> Prop
 | root {x:Str}:x ∈ rs -> Rch par rs x
 | step {x y:Str}:Rch par rs x -> y ∈ par x -> Rch par rs y
def notB (S:List En) (x:Str):Bool:=yA S x ["note"]
theorem find_nm {S:List En} (g:(S.map En.nm).Nodup) {e:En} (he:e ∈ S):S.find? (fun f=>decide (f.nm = e.nm)) = some e:=by
 cases q:S.find? (fun f=>decide (f.nm = e.nm)) with
 | none =>
  rw [List.find?_eq_none] at q
  exact absurd (decide_eq_true rfl) (q e he)
 | some f =>
  have h1:=List.find?_some q
  have h2:=List.mem_of_find?_eq_some q
  have h1:f.nm = e.nm:=of_decide_eq_true h1
  obtain ⟨i,hi,ei⟩:=List.mem_iff_getElem.mp he
  obtain ⟨j,hj,ej⟩:=List.mem_iff_getElem.mp h2
  have:(S.map En.nm)[i]'(by simpa using hi) = (S.map En.nm)[j]'(by simpa using hj):=by
   rw [List.getElem_map,List.getElem_map,ei,ej,h1]
  have:=(List.getElem_inj g).mp this
  subst this
  rw [← ei,ej]
theorem par_at {S:List En} (g:(S.map En.nm).Nodup) {e:En} (he:e ∈ S):parS S e.nm = parD e.d:=by
 unfold parS
 rw [find_nm g he]
theorem note_in {S:List En} (th:∀ e ∈ S,isThE e) {x:Str} (h:notB S x = true):∃ e ∈ S,e.nm = x /\ ∃ t ps y,e.d = (Th.note t ps y).dat:=by
 unfold notB yA at h
 rw [List.any_eq_true] at h
 obtain ⟨e,he,h⟩:=h
 rw [Bool.and_eq_true,decide_eq_true_iff,decide_eq_true_iff] at h
 obtain ⟨t,ht,_⟩:=th e he
 refine ⟨e,he,h.1,?_⟩
 have hw:=h.2
 rw [kI ht] at hw
 cases t with
 | note t ps y=>exact ⟨t,ps,y,ht⟩
 | leaf ls=>exact absurd (show ("leaf":Str) ∈ (["note"]:List Str) from hw) (by decide +kernel)
 | tree rs=>exact absurd (show ("tree":Str) ∈ (["note"]:List Str) from hw) (by decide +kernel)
theorem qC {S:List En} {e:En} (he:e ∈ S) {t:Str} {ps:List Str} {y:Str} (hd:e.d = (Th.note t ps y).dat):notB S e.nm = true:=by
 unfold notB yA
 rw [List.any_eq_true]
 refine ⟨e,he,?_⟩
 rw [Bool.and_eq_true,decide_eq_true_iff,decide_eq_true_iff,kI hd]
 exact ⟨rfl,List.mem_singleton.mpr rfl⟩
def Vc (S:List En):Prop:=∀ x,notB S x = true -> ∀ p ∈ parS S x,notB S p = true
theorem Rch.note {S:List En} (c:Vc S) {rs:List Str} (hr:∀ r ∈ rs,notB S r = true) {x:Str} (h:Rch (parS S) rs x):notB S x = true:=by
 induction h with
 | root h=>exact hr _ h
 | step h1 h2 ih=>exact c _ ih _ h2
theorem notB_mem {S:List En} {x:Str} (h:notB S x = true):x ∈ S.map En.nm:=by
 unfold notB yA at h
 rw [List.any_eq_true] at h
 obtain ⟨e,he,h⟩:=h
 rw [Bool.and_eq_true,decide_eq_true_iff] at h
 exact List.mem_map.mpr ⟨e,he,h.1⟩
theorem rch_all {par:Str -> List Str} {rs F:List Str} (h1:∀ r ∈ rs,r ∈ F) (h2:∀ x ∈ F,∀ y ∈ par x,y ∈ F) {x:Str} (h:Rch par rs x):x ∈ F:=by
 induction h with
 | root h=>exact h1 _ h
 | step _ b ih=>exact h2 _ ih _ b
def formD (S:List En):PyData -> Str -> Bool
 | .str x,f=>yA S x [f]
 | _,_=>false
end An
namespace L2
open PySem PySem.Spec PyProof.Rows
section
variable {X:Cx}
def tCallV (i:Nat) (f:Addr) (sp:Sp) (t:TA):TE:=fun σ H Q=>σ[i]? = some (some (.ref f)) /\ t σ H fun vs H1=>sp vs H1 Q E0
theorem pe_callV {k i:Nat} {x y:Str} {ps:List Str} {sp:Sp} {e:Expr} {es:List Expr} {t:TA} {p pos:Pos} {f:Addr} (C:Cal X.prog X.w X.K X.mg X.base k y ps sp) (hy:X.mg y = some (.ref f)) (hr:Room k X.A) (hv:PE X (.Name x p) (tVar i)) (ha:PA X (e :: es) t)
  (he:starEach (e :: es) X.env = (false,eval e X.env) :: starEach es X.env:=by rfl) (hpl:(backTo pos (starEach es X.env)).any (·.1) = false:=by rfl) :
  PE X (.Call (.Name x p) (e :: es) [] pos) (tCallV i f sp t):=by
 obtain ⟨g,fd,F,hm,hk,hb⟩:=C.ex
 have e0:g = f:=by
  rw [hm] at hy
  injection hy with z
  injection z
 subst e0
 intro pins s σ H Q I ⟨hσ,h⟩
 refine wpAny_Call_Name_kw (thn (hv pins s σ H (fun v H1=>v = .ref g /\ H1 = H) I ⟨_,hσ,rfl,rfl⟩) fun u s0 ⟨v0,H0,I0,r0,ev,eH⟩=>?_)
 subst ev eH
 cases r0
 refine PySem.W.callWith_K (h₀:=X.base) I0.ok.mod.kin hk (thn (ha pos pins s0 σ H0 _ I0 h) fun us s1 ⟨vs,H1,I1,r,q⟩=>⟨I1.kIn,?_⟩) he hpl
 exact run_fn (E:=E0) F hr hb .nil pass0 I1 r (by rw [List.append_nil]; exact q)
end
end L2
namespace L2
open PySem PySem.Spec PyProof.Rows
theorem entry_unchain:entryFor table "proto.unchain" = some Builtin.«proto.unchain»:=entryFor_of_tree (by kernel_rfl)
section
variable {prog:Program} {w:World} {A:Around} {E:Value -> Shared -> Prop} {s:Shared}
theorem raise_h {α:Type} {e x:Addr} {oe ox:Obj} {ve vx:Array Value} {Q:α -> Shared -> Prop} (hh:A.handled = some (.ref x)) (ne:x ≠ e) (he:s.heap.get? e = some oe) (hde:oe.data = .fields ve) (hz:2 < ve.size) (hx:s.heap.get? x = some ox) (hdx:ox.data = .fields vx) (hc:vx[2]? = some .none)
  (h:E (.ref e) { s with heap:=s.heap.update e (Obj.mapFields (·.setIfInBounds 2 (.ref x))) }):wpAny (model prog w) A (raiseNew (.ref e):Sem α) Q E s:=by
 unfold raiseNew
 refine wpAny_bind (wpAny_handled ?_)
 rw [hh]
 have hb:(Value.ref x != Value.ref e) = true:=by simp [ne]
 simp only [hb,if_true]
 refine wpAny_bind (wpAny_holding (wpAny_runValue (codeAny_builtin entry_unchain ?_)))
 show wpAny _ _ (field (.ref x) 2 >>= _) _ _ s
 refine wpAny_bind (wpAny_field hx hdx hc ?_)
 simp only [show (Value.none == Value.none) = true from rfl,if_true]
 refine wpAny_bind (wpAny_pure (wpAny_pure ?_))
 refine wpAny_bind ?_
 unfold updateField
 refine wpAny_bind (wpAny_load he ?_)
 rw [hde]
 simp only [if_pos hz]
 refine wpAny_update he ?_
 exact wpAny_throw h
theorem list_end_h {it l x:Addr} {i:Nat} {items:Array Value} {ox:Obj} {vx:Array Value} {Q:Option Value -> Shared -> Prop} (hh:A.handled = some (.ref x)) (hx:s.heap.get? x = some ox) (hdx:ox.data = .fields vx) (hc:vx[2]? = some .none) (nit:it ≠ x)
  (hit:s.heap.IsListIter it l i) (hl:s.heap.IsList l items) (hno:items[i]? = none) (hQ:∀ h',Heap.ExtBut it s.heap h' -> Q none { s with heap:=h' }):wpAny (model prog w) A (pyNext (.ref it)) Q E s:=by
 obtain ⟨o,ho,_,hd⟩:=id hit
 obtain ⟨ol,hol,_,nl,hdl⟩:=id hl
 unfold pyNext
 refine wpAny_bind (wpAny_attempt (wpAny_callSpecial?_slot (name:=Str.ofString "__next__") hit.typeIs slot_listiter_next (wpAny_call_entry slot_listiter_next hit.typeIs entry_listiter_next ?_ (args_listiter_next _))))
 show wpAny _ _ (field (.ref it) 0 >>= _) _ _ _
 refine wpAny_bind (wpAny_field ho hd (x:=.ref l) rfl ?_)
 show wpAny _ _ (if (Value.ref l == Value.none) = true then _ else _) _ _ _
 rw [if_neg (show ¬ (Value.ref l == Value.none) = true from Bool.false_ne_true)]
 show wpAny _ _ (field (.ref it) 1 >>= _) _ _ _
 refine wpAny_bind (wpAny_field ho hd (x:=.int i 0) rfl ?_)
 show wpAny _ _ (seqItems? (.ref l) >>= _) _ _ _
 refine wpAny_bind (wpAny_seqItems hol hdl ?_)
 simp only [Int.toNat_natCast,hno]
 refine wpAny_bind (wpAny_rule (wpAny_bind (wpAny_setField ho hd (by simp) ?_)))
 show wpAny _ _ (newExc (.type "StopIteration") [] >>= _) _ _ _
 refine wpAny_bind ?_
 simp only [newExc,newTuple]; refine wpAny_bind (wpAny_newObj_type ?_ (by size_fits))
 refine wpAny_bind (m:=firstArgMember _ _) (wpAny_of_eq (a:=Value.none) (by first | rfl | (simp only [firstArgMember]; rfl)) ?_); refine wpAny_newObj_type ?_ (by size_fits)
 have kx:∀ b ob,b ≠ it -> s.heap.get? b = some ob -> ((s.heap.update it (Obj.mapFields (·.setIfInBounds 0 Value.none))).push { cls:=Value.type "tuple",data:=Data.seq #[] }).get? b = some ob:=fun b ob nb e=>Heap.get?_push_of_some _ (by rw [Heap.get?_update_other _ _ (Ne.symm nb)]; exact e)
 have x2:=kx x ox (Ne.symm nit) hx
 refine raise_h (x:=x) hh (Nat.ne_of_lt (Heap.lt_size x2)) (Heap.get?_push_size _ rfl) rfl (by simp; omega) (Heap.get?_push_of_some _ x2) hdx hc ?_
 refine wpAny_bind (wpAny_isInstance (T:="StopIteration") (b:=true) ⟨_,Heap.get?_update_self _ (Heap.get?_push_size _ rfl) (Obj.isFreed_of_fields (Obj.data_mapFields rfl _)),Obj.cls_mapFields _ _⟩ isSubtype_stop ?_)
 refine wpAny_pure (hQ _ fun b ob nb e=>?_)
 have x3:=kx b ob nb e
 rw [Heap.get?_update_other _ _ (Nat.ne_of_gt (Heap.lt_size x3))]
 exact Heap.get?_push_of_some _ x3
end
structure FnOkE (P:Program) (w:World) (K:PySem.W.Frag) (mg:Str -> Option Value) (base:Heap) (k:Nat) (f:Addr) (fd:FuncData) (ps:List Str) (sp:Addr -> Sp):Prop where
 len:∀ x vs H Q E,sp x vs H Q E -> vs.length = ps.length
 run:∀ (x:Addr) (A:Around) (outer:List Env) (s:Shared) (H:Hp) (args:Args) (us:List Value) (vs:List V) (Q:VK) (E:XK),RoomH k A -> A.handled = some (.ref x) -> Env0 P w K mg base A outer s H -> BindsTo s fd args (ps.zip us) -> Vals vs us -> sp x vs H Q E ->
  codeAny (model P w) A (.call (.ref f) args) (CR CX0 outer P w H s Q E) s
section
variable {P:Program} {w:World} {K:PySem.W.Frag} {mg:Str -> Option Value} {base:Heap}
theorem Fun.runH {x qual:Str} {st:Stmt} {f:Addr} {fd:FuncData} {N ps:List Str} {k:Nat} (F:Fun K x qual st f fd) (S:FnScope N ps (zC st)) {A:Around} {outer:List Env} {s:Shared} {H:Hp} {args:Args} {us:List Value} {vs:List V} {Q:VK} {E:XK}
  (hr:RoomH (k + 1) A) (e0:Env0 P w K mg base A outer s H) (hb:BindsTo s fd args (ps.zip us)) (r:Vals vs us) (hl:vs.length = ps.length)
  (hbody:∀ (cdv:Value),RoomH k (A.deeper (envOfC qual (zC st) s.heap.objs.size f cdv)) -> ∃ t,PSs (cxH P w K mg base N qual (zC st) f cdv A outer s H E) (zL st) t /\ t { nx:=fun _ H'=>Q .non H',rt:=Q } (start N vs) H) :
  codeAny (model P w) A (.call (.ref f) args) (CR CX0 outer P w H s Q E) s:=by
 obtain ⟨oc,od,kV,doc,pm,an,cdv,ct,osl,rfl,lk,hcd⟩:=F.ex
 have KX:K.In s.heap:=e0.mod.kin.keeps fun b o e=>(e0.bs b o e).1
 have lim:s.heap.NoLimit:=e0.mod.nolimit.keeps fun b o e=>(e0.bs b o e).1
 have hkind:∀ y ∈ ps.zip us,(zC st).names.lookup y.1 = some .local \/ ((zC st).names.lookup y.1 = some .cell /\ ((cellsFrom (s.heap.objs.size + 1) (zC st).names []).lookup y.1).isSome = true):=fun ⟨n,v⟩ hy=>by
  rcases S.par n (List.of_mem_zip hy).1 with q | q
  ·exact .inl q
  ·exact .inr ⟨q,PySem.W.cellsFrom_some _ _ _ (.inl q)⟩
 refine codeAny_call_function (by have:=hr.dp; omega) (KX _ _ lk) rfl S.co S.gen rfl (PySem.W.codeRec_of KX hcd) (hb _ _ _ _ ?_)
 refine wpAny_newFunctionEnv_cells S.kind hkind fun env he s1 x=>?_
 subst he
 refine ⟨lim.keeps x.toInCall.keep,codeAny_func ?_⟩
 obtain ⟨t,ht,hq⟩:=hbody cdv (hr.deeper _)
 have I:Inv (cxH P w K mg base N qual (zC st) f cdv A outer s H E) [] (start N vs) H s1:=inv_startH S e0 hl r x
 refine wpAny_mono (ht [] s1 (start N vs) H _ I hq) (fun fl s' hs=>?_) fun e s' hs=>False.elim hs
 have fin:∀ {σ':St} {H':Hp} {v:V} {u:Value},Inv (cxH P w K mg base N qual (zC st) f cdv A outer s H E) [] σ' H' s' -> RelV v u -> Q v H' -> CE outer P w H s Q u s' :=
  fun {σ' H' v u} J rv q=>⟨v,H',J.os,J.bare,J.base,J.hok,rv,q⟩
 cases fl with
 | ret u =>
  obtain ⟨v,σ',H',J,rv,q⟩:=hs
  exact fin J rv q
 | next =>
  obtain ⟨σ',H',J,q⟩:=hs
  exact fin (v:=V.non) (u:=Value.none) J rfl q
 | brk =>
  obtain ⟨_,_,_,q⟩:=hs
  exact False.elim q
 | cont =>
  obtain ⟨_,_,_,q⟩:=hs
  exact False.elim q
theorem Fun.okE {x qual:Str} {st:Stmt} {f:Addr} {fd:FuncData} {N ps:List Str} {k:Nat} {sp:Addr -> Sp} (F:Fun K x qual st f fd) (S:FnScope N ps (zC st)) (len:∀ z vs H Q E,sp z vs H Q E -> vs.length = ps.length)
  (hbody:∀ (z:Addr) (cdv:Value) (A:Around) (outer:List Env) (s:Shared) (H:Hp) (vs:List V) (Q:VK) (E:XK),RoomH k (A.deeper (envOfC qual (zC st) s.heap.objs.size f cdv)) -> A.handled = some (.ref z) -> sp z vs H Q E ->
   ∃ t,PSs (cxH P w K mg base N qual (zC st) f cdv A outer s H E) (zL st) t /\ t { nx:=fun _ H'=>Q .non H',rt:=Q } (start N vs) H):FnOkE P w K mg base (k + 1) f fd ps sp :=
 ⟨len,fun z A outer s H args us vs Q E hr hh e0 hb r hsp=>F.runH S hr e0 hb r (len _ _ _ _ _ hsp) fun cdv hr2=>hbody z cdv A outer s H vs Q E hr2 hh hsp⟩
end
structure CalE (P:Program) (w:World) (K:PySem.W.Frag) (mg:Str -> Option Value) (base:Heap) (k:Nat) (x:Str) (ps:List Str) (sp:Addr -> Sp):Prop where
 ex:∃ (f:Addr) (fd:FuncData),FnOkE P w K mg base k f fd ps sp /\ mg x = some (.ref f) /\ PySem.W.keepIn K (.ref f) = true /\ Binds K fd ps []
theorem CalE.mk' {P:Program} {w:World} {K:PySem.W.Frag} {mg:Str -> Option Value} {base:Heap} {k:Nat} {x qual:Str} {st:Stmt} {f:Addr} {fd:FuncData} {ps:List Str} {sp:Addr -> Sp} (F:Fun K x qual st f fd) (G:FnOkE P w K mg base k f fd ps sp) (hm:mg x = some (.ref f))
  (b:Binds K fd ps []):CalE P w K mg base k x ps sp:=⟨f,fd,G,hm,F.kp,b⟩
section
variable {X:Cx}
theorem pe_callE {k:Nat} {x:Str} {ps:List Str} {sp:Addr -> Sp} {e:Expr} {es:List Expr} {t:TA} {p pos:Pos} {z:Addr} (C:CalE X.prog X.w X.K X.mg X.base k x ps sp) (hr:RoomH k X.A) (hh:X.A.handled = some (.ref z)) (ha:PA X (e :: es) t) (hg:Gl X x:=by rfl)
  (hdb:(x == ("__debug__":Str)) = false:=by decide) (he:starEach (e :: es) X.env = (false,eval e X.env) :: starEach es X.env:=by rfl) (hpl:(backTo pos (starEach es X.env)).any (·.1) = false:=by rfl) :
  PE X (.Call (.Name x p) (e :: es) [] pos) (tCall (sp z) [] E0 t):=by
 obtain ⟨f,fd,F,hm,hk,hb⟩:=C.ex
 intro pins s σ H Q I h
 refine wpAny_Call_Name_kw (qI I hg hm ?_ hdb)
 refine PySem.W.callWith_K (h₀:=X.base) I.ok.mod.kin hk (thn (ha pos pins s σ H _ I h) fun us s1 ⟨vs,H1,I1,r,q⟩=>⟨I1.kIn,?_⟩) he hpl
 have r2:Vals (vs ++ []) (us ++ []):=r.append .nil
 have hl:(us ++ []).length = ps.length:=by rw [← r2.length]; exact F.len _ _ _ _ _ q
 refine wpAny_call (codeAny_mono (F.run z X.A X.stack s1 H1 ⟨us,[]⟩ (us ++ []) (vs ++ []) Q E0 hr hh I1.env0 (hb s1 us I1.kIn hl) r2 q) fun r s' hq=>?_)
 cases r with
 | error e=>exact pass0 pins σ H1 s1 e s' I1 hq
 | ok fl =>
  cases fl with
  | ret u=>exact I1.after hq
  | next=>exact False.elim hq
  | brk=>exact False.elim hq
  | cont=>exact False.elim hq
end
end L2
namespace L2
open PySem PySem.Spec PyProof.Rows
structure TurnH (P:Program) (w:World) (K:PySem.W.Frag) (A:Around) (tg:Expr) (J:It) (fp:List Addr) (it:Addr) (tn:Nat -> Heap -> Prop):Prop where
 mem:it ∈ fp
 obj:∀ i h,tn i h -> ∀ b ∈ fp,∃ o,h.get? b = some o /\ ∀ v,o.data ≠ .cell v
 keep:∀ i h h',tn i h -> (∀ b ∈ fp,∀ o,h.get? b = some o -> h'.get? b = some o) -> tn i h'
 item:∀ (X:Cx),X.prog = P -> X.w = w -> X.K = K -> X.A = A -> ∀ (i:Nat) (pins:List (Addr × Obj)) (s:Shared) (σ:St) (H:Hp) (E:Value -> Shared -> Prop),Inv X pins σ H s -> (∀ b ∈ fp,FpOk X pins H b) -> tn i s.heap -> J.go i H ->
  wpAny (model P w) A (pyNext (.ref it)) (fun r s1=>∃ u,r = some u /\
   wpAny (model P w) A (letOwnedTupleGo tg (.ref it) u) (fun _ s2=>∃ x H',Inv X pins σ H' s2 /\ RelV x u /\ J.yld i H x H' /\ tn (i + 1) s2.heap /\ ∀ b ∈ fp,H' b = none) E s1) E s
 done:∀ (X:Cx),X.prog = P -> X.w = w -> X.K = K -> X.A = A -> ∀ (i:Nat) (pins:List (Addr × Obj)) (s:Shared) (σ:St) (H:Hp) (E:Value -> Shared -> Prop),Inv X pins σ H s -> (∀ b ∈ fp,FpOk X pins H b) -> tn i s.heap -> J.stop i H ->
  wpAny (model P w) A (pyNext (.ref it)) (fun r s1=>r = none /\ Inv X pins σ H s1) E s
 self:∀ (A:Around) (i:Nat) (s:Shared) (Q:Value -> Shared -> Prop) (E:Value -> Shared -> Prop),tn i s.heap -> Q (.ref it) s -> wpAny (model P w) A (pyIter (.ref it)) Q E s
def ItlH (K:PySem.W.Frag) (a z:Addr):It :=
 ⟨(Itl K a).go,(Itl K a).yld,fun i H=>(∃ xs,SqL K H a xs /\ xs.length <= i) /\ ∃ cls,H z = some (IsExc z cls)⟩
theorem turn_listH {P:Program} {w:World} {K:PySem.W.Frag} {A:Around} {tg:Expr} {z:Addr} (hh:A.handled = some (.ref z)) (a it:Addr):TurnH P w K A tg (ItlH K a z) [it] it (fun i h=>h.IsListIter it a i) where
 mem:=by simp
 obj:=fun i h st b hb=>by
  have e:b = it:=by simpa using hb
  subst e
  obtain ⟨o,e,c,d⟩:=st
  exact ⟨o,e,fun v z=>by rw [d] at z; cases z⟩
 keep:=fun i h h' st k=>st.at fun o e=>k it (by simp) o e
 item:=by
  intro X hP hw hK hA i pins s σ H E I hf st hg
  subst hP hw hK hA
  obtain ⟨xs,x,hq,hx⟩:=hg
  obtain ⟨its,rv,p,hz⟩:=I.list hq
  obtain ⟨u,hu,ru⟩:=rv.get hx
  obtain ⟨f0,f1,f2,f3,f4,f5⟩:=hf it (by simp)
  refine wpAny_pyNext_list_item st p.isList (x:=u) (by simpa using hu) fun h' st' sb=>?_
  have I1:Inv X pins σ H { s with heap:=h' }:=I.turned (t':=s.toks) (fun b o hb e=>(sb.2 b hb).trans e) f0 f1 f3 f4 f5
  obtain ⟨o,e,c,d⟩:=id st'
  exact ⟨u,rfl,go_of (s:={ s with heap:=h' }) e c d (by decide) ⟨x,H,I1,ru,⟨rfl,fun ys hy=>by rw [I.list_inj hy hq]; exact hx⟩,st',fun b hb=>(hf b hb).1⟩⟩
 done:=by
  intro X hP hw hK hA i pins s σ H E I hf st hg
  subst hP hw hK hA
  obtain ⟨⟨xs,hq,hx⟩,cls,hx3⟩:=hg
  obtain ⟨its,rv,p,hz⟩:=I.list hq
  obtain ⟨f0,f1,f2,f3,f4,f5⟩:=hf it (by simp)
  have hl:=rv.length
  obtain ⟨⟨ox,vx,hx1,hx2,hx4,hx5⟩,_⟩:=I.hok z _ hx3
  exact list_end_h hh hx1 hx4 hx5 (fun q=>by rw [q,hx3] at f0; cases f0) st p.isList (by simp; omega) fun h' eb=>⟨rfl,I.turned (t':=s.toks) (fun b o hb e=>eb b o hb e) f0 f1 f3 f4 f5⟩
 self:=fun _ _ _ _ _ st h=>wpAny_pyIter_listiter st h
def tCompH (K:PySem.W.Frag) (z:Addr) (src:List (Option Nat)) (tl:TE) (g:TG) (tf:TT) (te:TE):TE:=fun σ H Q=>tl σ H fun v H1=>∃ a,v = .ref a /\ (∃ xs,SqL K H1 a xs) /\ CompW src (ItlH K a z) g tf te Q σ H1
section
variable {X:Cx} {tg elt iter:Expr} {ifs:List Expr} {scope sc:Scope} {N N':List Str} {src:List (Option Nat)} {g:TG} {tf:TT} {te:TE} {wi:TI} {pos:Pos}
theorem comp_blockH {pins:List (Addr × Obj)} {σ:St} {H:Hp} {s:Shared} {fp:List Addr} {it:Addr} {tn:Nat -> Heap -> Prop} {J:It} {E:Value -> Shared -> Prop} {RR:Value -> Addr -> Result -> Shared -> Prop} {Fin:List V -> Hp -> Prop} (O:CompOk sc N N' src scope) (hsc:X.env.scope = sc) (hN:X.N = N)
  (hg:∀ C s H fp,PG (X.comp N' scope C s H fp) tg g) (hft:∀ C s H fp,PFi (X.comp N' scope C s H fp) ifs tf) (he:∀ C s H fp,PE (X.comp N' scope C s H fp) elt te)
  (I:Inv X pins σ H s) (T:TurnH X.prog X.w X.K X.A tg J fp it tn) (t0:tn 0 s.heap) (hf:∀ b ∈ fp,FpOk X pins H b)
  (W:Nat -> Nat -> List V -> St -> Hp -> Prop) (m0:Nat) (w0:W 0 m0 [] (srcSt src σ) H)
  (hW:∀ i m ys σ' H',W i m ys σ' H' -> ys.length <= sizeLine /\ ((J.stop i H' /\ Fin ys H') \/
   (J.go i H' /\ ∃ Nx:List V -> St -> Hp -> Prop,(∀ ys2 σ2 H2,Nx ys2 σ2 H2 -> ∃ m',m' < m /\ W (i + 1) m' ys2 σ2 H2) /\
    ∀ x H2,J.yld i H' x H2 -> g x σ' H2 fun σ2 H3=>tf σ2 H3 fun b H4=>if b = true then te σ2 H4 fun y H5=>Nx (ys ++ [y]) σ2 H5 else Nx ys σ2 H4)))
  (hRR:∀ (D C:Addr) (s':Shared) (σ':St) (H':Hp) (ys:List V) (its:List Value) (n:Nat),s.heap.objs.size <= D -> s.heap.objs.size <= C -> Inv (X.comp N' scope C s H fp) [] σ' H' s' -> s'.heap.get? D = some { cls:=.type "list",data:=.seq its.toArray n } -> Vals ys its -> ys.length <= sizeLine ->
   H' D = none -> D ≠ C -> Fin ys H' -> RR (.ref D) C (.ok .next) s') :
  wpAny (model X.prog X.w) X.A (newList []) (fun acc s₃=>wpAny (model X.prog X.w) X.A (newFunctionEnv scope X.env.globals (xG X.env scope) [] X.env.qual none .none (some X.env)) (fun cenv s₄ =>
   codeAny (model X.prog X.w) X.A (.compStart (.ListComp elt [⟨tg,iter,ifs,0⟩] scope pos) 0 (.ref it) acc { cenv with scope:=relabel scope X.env }) (RR acc cenv.locals) s₄) E s₃) E s:=by
 refine wpAny_newObj_type (wpAny_newFunctionEnv O.nocell (by intro y hy; cases hy) (fun h₁ hns₁ hsb₁=>?_) O.kind)
 dsimp only at hns₁ hsb₁ ⊢
 generalize hH2:s.heap.push { cls:=.type "list",dict:=none,data:=.seq ([]:List Value).toArray } = P2 at hns₁ hsb₁ ⊢
 have hCs:P2.objs.size = s.heap.objs.size + 1:=by rw [← hH2,Heap.size_push]
 have hDC:s.heap.objs.size ≠ P2.objs.size:=by rw [hCs]; exact Nat.ne_of_lt (Nat.lt_succ_self _)
 have hCle:s.heap.objs.size <= P2.objs.size:=by rw [hCs]; exact Nat.le_succ _
 have below:∀ b,b < s.heap.objs.size -> b ≠ P2.objs.size /\ b ≠ s.heap.objs.size:=fun b hb=>⟨by rw [hCs]; exact Nat.ne_of_lt (Nat.lt_succ_of_lt hb),Nat.ne_of_lt hb⟩
 have old:∀ b o,s.heap.get? b = some o -> h₁.get? b = some o:=fun b o e=>hsb₁.extBut b o (below b (Heap.lt_size e)).1 (Heap.get?_push_of_some _ (hH2 ▸ Heap.get?_push_of_some _ e))
 have hacc:h₁.get? s.heap.objs.size = some { cls:=.type "list",data:=.seq ([]:List Value).toArray 0 }:=hsb₁.extBut _ _ hDC (Heap.get?_push_of_some _ (hH2 ▸ Heap.get?_push_size _ rfl))
 have fpo:∀ b ∈ fp,∃ o,s.heap.get? b = some o:=fun b hb=>let ⟨o,e,_⟩:=T.obj 0 _ t0 b hb; ⟨o,e⟩
 have fplt:∀ b ∈ fp,b < s.heap.objs.size:=fun b hb=>let ⟨o,e⟩:=fpo b hb; Heap.lt_size e
 generalize hD:s.heap.objs.size = D at *
 generalize hC:P2.objs.size = C at *
 have ok1:∀ tk,Inv (X.comp N' scope C s H fp) [] (srcSt src σ) H { s with heap:=h₁,toks:=tk }:=fun tk=>comp_inv O hsc hN I hf fpo (by rw [hD]; exact hCle) old hns₁
 have okX:(X.comp N' scope C s H fp).Ok:=(ok1 0).ok
 have stat:∀ {H':Hp} {pl:List (Addr × Obj)},(∀ b ∈ fp,H' b = none) -> (∀ p ∈ pl,p.1 ∉ fp) -> ∀ b ∈ fp,FpOk (X.comp N' scope C s H fp) pl H' b:=fun {H' pl} hn hp b hb =>
  ⟨hn b hb,(okX.exf b hb).1,okX.exfs b hb,.inl hb,(okX.exf b hb).2,fun p hm=>by
   have hm:p ∈ pl:=by simpa [Cx.comp] using hm
   exact fun z=>hp p hm (z ▸ hb)⟩
 have Dfs:D ∉ (X.comp N' scope C s H fp).fs:=fun hb=>by
  obtain ⟨_,o,ho,_⟩:=okX.funs.mem hb
  have ho:s.heap.get? D = some o:=ho
  have h1:=Heap.lt_size ho
  rw [hD] at h1
  exact Nat.lt_irrefl _ h1
 have Dcell:∀ x c,(X.comp N' scope C s H fp).env.cells.lookup x = some c -> c ≠ D:=fun x c e z=>by
  obtain ⟨v,o,ho,_⟩:=I.cell x c (qM e)
  have h1:=Heap.lt_size ho
  rw [hD,z] at h1
  exact Nat.lt_irrefl _ h1
 have loop:∀ tk,codeAny (model X.prog X.w) X.A (.compLoop (.ListComp elt [⟨tg,iter,ifs,0⟩] scope pos) 0 (.ref it) (.ref D) (compEnvC scope (xG X.env scope) C X.env)) (RR (.ref D) C) { s with heap:=h₁,toks:=tk }:=by
  intro tk
  refine loop_own (fun n s'=>∃ i ys σ' H' its c,Inv (X.comp N' scope C s H fp) [] σ' H' s' /\ tn i s'.heap /\ (∀ b ∈ fp,H' b = none) /\ s'.heap.get? D = some { cls:=.type "list",data:=.seq (its:List Value).toArray c } /\ Vals ys its /\ H' D = none /\ W i n ys σ' H') ?_ m0
   ⟨0,[],srcSt src σ,H,[],0,ok1 tk,T.keep 0 _ _ t0 fun b _ o e=>old b o e,fun b hb=>(hf b hb).1,hacc,.nil,I.hok.fresh (by rw [hD]; exact Nat.le_refl _),w0⟩
  rintro n s3 ⟨i,ys,σ3,H3,its,c3,I3,st3,fr3,d3,v3,nD3,w3⟩
  obtain ⟨hlen,alt⟩:=hW i n ys σ3 H3 w3
  rcases alt with ⟨stop,fin⟩ | ⟨go,Nx,hNx,step⟩
  ·have I3':Inv (X.comp N' scope C s H fp) [(D,{ cls:=.type "list",data:=.seq its.toArray c3 })] σ3 H3 s3:=I3.pins_of fun p hp=>by
    have e:p = (D,{ cls:=.type "list",data:=.seq its.toArray c3 }):=by simpa using hp
    subst e
    exact ⟨d3,nD3,hDC,Dfs,fun v z=>by cases z⟩
   refine thn (T.done (X.comp N' scope C s H fp) rfl rfl rfl rfl i _ s3 σ3 H3 _ I3' (stat fr3 fun p hp z=>by
    have e:p = (D,{ cls:=.type "list",data:=.seq its.toArray c3 }):=by simpa using hp
    rw [e] at z
    exact Nat.lt_irrefl _ (fplt D z)) st3 stop) fun r s4 ⟨hr,I4⟩=>?_
   subst hr
   obtain ⟨d4,nD4,_⟩:=I4.pin (D,{ cls:=.type "list",data:=.seq its.toArray c3 }) (by simp [Cx.comp])
   exact hRR D C s4 σ3 H3 ys its c3 (by omega) (by omega) (I4.pins_of fun p hp=>(by cases hp)) d4 v3 hlen nD4 hDC fin
  ·have I3':Inv (X.comp N' scope C s H fp) [(D,{ cls:=.type "list",data:=.seq its.toArray c3 })] σ3 H3 s3:=I3.pins_of fun p hp=>by
    have e:p = (D,{ cls:=.type "list",data:=.seq its.toArray c3 }):=by simpa using hp
    subst e
    exact ⟨d3,nD3,hDC,Dfs,fun v z=>by cases z⟩
   have hpD:∀ p ∈ [((D,{ cls:=.type "list",data:=.seq its.toArray c3 }):Addr × Obj)],p.1 ∉ fp:=fun p hp z=>by
    have e:p = (D,{ cls:=.type "list",data:=.seq its.toArray c3 }):=by simpa using hp
    rw [e] at z
    exact Nat.lt_irrefl _ (fplt D z)
   refine thn (T.item (X.comp N' scope C s H fp) rfl rfl rfl rfl i _ s3 σ3 H3 _ I3' (stat fr3 hpD) st3 go) fun r s4 ⟨u,hr,h4⟩=>?_
   subst hr
   refine thn h4 fun _ s5 ⟨x,H5,I5,r5,y5,st5,fr5⟩=>?_
   have I5':=I5.pinned (stat fr5 hpD) (T.obj _ _ st5)
   have pinD:(D,({ cls:=.type "list",data:=.seq its.toArray c3 }:Obj)) ∈ (X.comp N' scope C s H fp).pn ++ ([((D,{ cls:=.type "list",data:=.seq its.toArray c3 }):Addr × Obj)] ++ kB fp s5.heap):=by simp [Cx.comp]
   have back:∀ {σ7:St} {H7:Hp} {s7:Shared},Inv (X.comp N' scope C s H fp) ([((D,{ cls:=.type "list",data:=.seq its.toArray c3 }):Addr × Obj)] ++ kB fp s5.heap) σ7 H7 s7 ->
     tn (i + 1) s7.heap /\ ∀ b ∈ fp,H7 b = none:=fun {σ7 H7 s7} I7=>⟨T.keep _ _ _ st5 fun b hb o e=>(I7.pin (b,o) (List.mem_append_right _ (List.mem_append_right _ (xP hb e)))).1,fun b hb=>by
    obtain ⟨o,e,d⟩:=T.obj _ _ st5 b hb
    exact (I7.pin (b,o) (List.mem_append_right _ (List.mem_append_right _ (xP hb e)))).2.1⟩
   refine thn (hg C s H fp _ s5 σ3 H5 x u _ I5' r5 (step x H5 y5)) fun _ s6 ⟨σ6,H6,I6,q6⟩=>?_
   refine thn (hft C s H fp _ s6 σ6 H6 _ I6 q6) fun b s7 ⟨H7,I7,q7⟩=>?_
   cases b with
   | false =>
    obtain ⟨m',hm',w7⟩:=hNx ys σ6 H7 (by simpa using q7)
    obtain ⟨b1,b2⟩:=back I7
    obtain ⟨d7,nD7,_⟩:=I7.pin _ pinD
    exact ⟨m',hm',i + 1,ys,σ6,H7,its,c3,I7.pins_of fun p hp=>(by cases hp),b1,b2,d7,v3,nD7,w7⟩
   | true =>
    have q7:te σ6 H7 fun y H5=>Nx (ys ++ [y]) σ6 H5:=by simpa using q7
    rw [if_pos rfl]
    refine thn (he C s H fp _ s7 σ6 H7 _ I7 q7) fun u8 s8 ⟨y,H8,I8,r8,n8⟩=>?_
    obtain ⟨m',hm',w8⟩:=hNx _ _ _ n8
    obtain ⟨b1,b2⟩:=back I8
    obtain ⟨d8,nD8,_⟩:=I8.pin _ pinD
    have hl:=v3.length
    refine wpAny_list_append_plain (items:=its.toArray) ⟨c3,d8⟩ (fun h9 ⟨c9,d9⟩ sb9=>?_) (by rw [List.size_toArray,← hl]; exact hlen)
    have I8':Inv (X.comp N' scope C s H fp) [] σ6 H8 s8:=I8.pins_of fun p hp=>by cases hp
    have I9:Inv (X.comp N' scope C s H fp) [] σ6 H8 { s8 with heap:=h9 }:=I8'.turned (t':=s8.toks) (it:=D) (fun b o hb e=>(sb9.2 b hb).trans e) nD8 hDC (.inr (by show s.heap.objs.size <= D; omega)) Dcell (fun p hp=>by
     have hp:p ∈ ([]:List (Addr × Obj)):=by simpa [Cx.comp] using hp
     cases hp)
    refine ⟨m',hm',i + 1,ys ++ [y],σ6,H8,its ++ [u8],c9,I9,T.keep _ _ _ b1 fun b hb o e=>(sb9.2 b (fun z=>Nat.lt_irrefl _ (z ▸ fplt b hb))).trans e,b2,?_,v3.append (.cons r8 .nil),nD8,w8⟩
    show h9.get? D = _
    rw [d9]
    simp
 exact codeAny_compStart_list (loop _) (T.self _ 0 _ _ _ (T.keep 0 _ _ t0 fun b _ o e=>old b o e) (loop _))
theorem ps_setcH {k:Nat} {y:Str} {py spos:Pos} (O:CompOk sc N N' src scope) (hsc:X.env.scope = sc) (hN:X.N = N) {z:Addr} {tl:TE} (hh:X.A.handled = some (.ref z)) (hl:PE X iter tl)
  (hg:∀ C s H fp,PG (X.comp N' scope C s H fp) tg g) (hft:∀ C s H fp,PFi (X.comp N' scope C s H fp) ifs tf) (he:∀ C s H fp,PE (X.comp N' scope C s H fp) elt te)
  (nd:X.N.Nodup) (hk:X.N[k]? = some y) (hx:Loc X.env.scope y)
  (hsw:swapsWith (.ListComp elt [⟨tg,iter,ifs,0⟩] scope pos) (some (.Name y py)) spos.line X.env = pure true:=by rfl)
  (hf:X.fn y = true \/ X.env.scope.names.lookup y = some .local:=by first | exact .inl rfl | exact .inr rfl | assumption)
  (hs:∀ x,foldedSetIterable iter X.env x = pure x:=by intro _; rfl):PS X (.Assign [.Name y py] (.ListComp elt [⟨tg,iter,ifs,0⟩] scope pos) spos) (tAsg (tCompH X.K z src tl g tf te) (gName k)):=by
 intro pins s σ H D₀ I h
 rw [exec_Assign_Name_used _ _ _ _ hsw]
 refine wpAny_bind (wpAny_standAt (wpAny_bind ?_))
 show wpAny _ X.A (do let _ ← comprehension (.ListComp elt [⟨tg,iter,ifs,0⟩] scope pos) scope X.env _ (newList []) false (eval iter X.env) (some (assign (.Name y py) X.env))) _ _ s
 have hclos:closureFor scope X.env = pure (xG X.env scope):=x6 fun x hx hk=>I.ok.has x.1 (by
  have:=O.free x hx hk
  rw [← hsc] at this
  exact this)
 refine wpAny_bind (wpAny_mono (wpAny_comprehension_free (use:=some (assign (.Name y py) X.env)) (Q:=fun _ s'=>SP X pins D₀ .next s') rfl hs hclos O.kind O.names (thn (hl pins s σ H _ I h) fun v s1 h1=>?_))
  (fun _ s' hq=>wpAny_pure (wpAny_pure hq)) fun _ _ e=>e)
 obtain ⟨y0,H2,I1,r1,a,e0,⟨xs0,hq0⟩,W,⟨m0,w0⟩,turn⟩:=h1
 subst e0
 cases r1
 obtain ⟨its0,rv0,pl0,hz0⟩:=I1.list hq0
 refine wpAny_pyIter_list pl0.isList ?_
 have I2:Inv X pins σ H2 { s1 with heap:=s1.heap.push { cls:=.type "list_iterator",data:=.fields #[.ref a,.int 0 0] } }:=I1.kept (t':=s1.toks) fun b o e=>Heap.get?_push_of_some _ e
 have T:TurnH X.prog X.w X.K X.A tg (ItlH X.K a z) [s1.heap.objs.size] s1.heap.objs.size (fun i h=>h.IsListIter s1.heap.objs.size a i):=turn_listH hh a _
 have st2:(s1.heap.push { cls:=.type "list_iterator",data:=.fields #[.ref a,.int 0 0] }).IsListIter s1.heap.objs.size a 0:=⟨_,Heap.get?_push_size _ rfl,rfl,rfl⟩
 have f2:∀ b ∈ [s1.heap.objs.size],FpOk X pins H2 b:=fun b hb=>by
  rw [List.mem_singleton.mp hb]
  exact I1.fpOk (Nat.le_refl _) (I1.hok.fresh (Nat.le_refl _))
 refine comp_blockH (RR:=fun acc C=>compPost (model X.prog X.w) X.A X.xe (some (assign (.Name y py) X.env)) (fun _ s'=>SP X pins D₀ .next s') acc C) (Fin:=fun ys H'=>∀ p,H' p = none -> gName k (.ref p) σ (upd H' p (.lst ys)) D₀.nx) O hsc hN hg hft he I2 T st2 f2 W m0 w0 turn ?_
 intro D C s' σ' H' ys its n hD hC Jv d vv hl nD hDC fin
 have I3:=comp_back I2 f2 Jv hD d vv hl nD
 obtain ⟨m,hm,_⟩:=Jv.loc
 have nC:H' C = none:=Jv.free
 show wpAny _ X.A (assign (.Name y py) X.env (.ref D)) _ _ s'
 refine wpAny_assign_Name (store_ok2 I3 nd hk hx (v:=.ref D) rfl (fun s4 I4 ⟨a,sa,ha⟩=>?_) hf)
 have aC:C ≠ a:=by
  rcases ha with e | e
  ·rw [e]
   intro z
   exact Nat.lt_irrefl _ (Nat.lt_of_lt_of_le I2.lt (z ▸ hC))
  ·intro z
   obtain ⟨v,o,ho,_⟩:=I2.cell y a e
   exact Nat.lt_irrefl _ (Nat.lt_of_lt_of_le (Heap.lt_size ho) (z ▸ hC))
 refine ⟨m,Heap.Ns.sameBut hm sa aC,fun h' sb=>⟨_,_,comp_gone I2 I4 hC (by rw [zI (Ne.symm hDC)]; exact nC) sb,fin D nD⟩⟩
end
section
variable {K:PySem.W.Frag} {src:List (Option Nat)} {g:TG} {tf:TT} {te:TE} {Q:VK} {a z:Addr} {xs:List V} {σ:St} {H:Hp}
theorem comp_listH (Pv:Nat -> List V -> St -> Hp -> Prop) (h0:Pv 0 [] (srcSt src σ) H) (hz:xs.length <= sizeLine) (hl:∀ i ys σ H,i <= xs.length -> Pv i ys σ H -> SqL K H a xs /\ (∃ cls,H z = some (IsExc z cls)) /\ ys.length <= i)
  (hs:∀ i x ys σ H,xs[i]? = some x -> Pv i ys σ H -> g x σ H fun σ2 H3=>tf σ2 H3 fun b H4=>if b = true then te σ2 H4 fun y H5=>Pv (i + 1) (ys ++ [y]) σ2 H5 else Pv (i + 1) ys σ2 H4)
  (hd:∀ ys σ H,Pv xs.length ys σ H -> ∀ p,H p = none -> Q (.ref p) (upd H p (.lst ys))):CompW src (ItlH K a z) g tf te Q σ H :=
 comp_n xs.length Pv h0 hz (fun i ys σ H hi p=>(hl i ys σ H hi p).2.2) (fun ys σ H p=>⟨⟨xs,(hl _ ys σ H (Nat.le_refl _) p).1,Nat.le_refl _⟩,(hl _ ys σ H (Nat.le_refl _) p).2.1⟩) (fun i ys σ H hi p=>⟨xs,xs[i],(hl i ys σ H (Nat.le_of_lt hi) p).1,by simp [hi]⟩)
  (fun i ys σ H hi p x H2 y=>by
   obtain ⟨e,y⟩:=y
   subst e
   exact hs i x ys σ _ (y xs (hl i ys σ _ (Nat.le_of_lt hi) p).1) p) hd
end
section
variable {prog:Program} {w:World} {A:Around} {E:Value -> Shared -> Prop} {s:Shared}
theorem tup_end_h {it l x:Addr} {i:Nat} {items:Array Value} {ox:Obj} {vx:Array Value} {Q:Option Value -> Shared -> Prop} (hh:A.handled = some (.ref x)) (hx:s.heap.get? x = some ox) (hdx:ox.data = .fields vx) (hc:vx[2]? = some .none) (nit:it ≠ x)
  (hit:IsTupIter s.heap it l i) (hl:IsTup s.heap l items) (hno:items[i]? = none) (hQ:∀ h',Heap.ExtBut it s.heap h' -> Q none { s with heap:=h' }):wpAny (model prog w) A (pyNext (.ref it)) Q E s:=by
 obtain ⟨o,ho,_,hd⟩:=id hit
 obtain ⟨ol,hol,_,nl,hdl⟩:=id hl
 unfold pyNext
 refine wpAny_bind (wpAny_attempt (wpAny_callSpecial?_slot (name:=Str.ofString "__next__") hit.typeIs slot_tupleiter_next (wpAny_call_entry slot_tupleiter_next hit.typeIs entry_tupleiter_next ?_ (args_tupleiter_next _))))
 show wpAny _ _ (field (.ref it) 0 >>= _) _ _ _
 refine wpAny_bind (wpAny_field ho hd (x:=.ref l) rfl ?_)
 show wpAny _ _ (if (Value.ref l == Value.none) = true then _ else _) _ _ _
 rw [if_neg (show ¬ (Value.ref l == Value.none) = true from Bool.false_ne_true)]
 show wpAny _ _ (field (.ref it) 1 >>= _) _ _ _
 refine wpAny_bind (wpAny_field ho hd (x:=.int i 0) rfl ?_)
 show wpAny _ _ (seqItems? (.ref l) >>= _) _ _ _
 refine wpAny_bind (wpAny_seqItems hol hdl ?_)
 simp only [Int.toNat_natCast,hno]
 refine wpAny_bind (wpAny_rule (wpAny_bind (wpAny_setField ho hd (by simp) ?_)))
 show wpAny _ _ (newExc (.type "StopIteration") [] >>= _) _ _ _
 refine wpAny_bind ?_
 simp only [newExc,newTuple]; refine wpAny_bind (wpAny_newObj_type ?_ (by size_fits))
 refine wpAny_bind (m:=firstArgMember _ _) (wpAny_of_eq (a:=Value.none) (by first | rfl | (simp only [firstArgMember]; rfl)) ?_); refine wpAny_newObj_type ?_ (by size_fits)
 have kx:∀ b ob,b ≠ it -> s.heap.get? b = some ob -> ((s.heap.update it (Obj.mapFields (·.setIfInBounds 0 Value.none))).push { cls:=Value.type "tuple",data:=Data.seq #[] }).get? b = some ob:=fun b ob nb e=>Heap.get?_push_of_some _ (by rw [Heap.get?_update_other _ _ (Ne.symm nb)]; exact e)
 have x2:=kx x ox (Ne.symm nit) hx
 refine raise_h (x:=x) hh (Nat.ne_of_lt (Heap.lt_size x2)) (Heap.get?_push_size _ rfl) rfl (by simp; omega) (Heap.get?_push_of_some _ x2) hdx hc ?_
 refine wpAny_bind (wpAny_isInstance (T:="StopIteration") (b:=true) ⟨_,Heap.get?_update_self _ (Heap.get?_push_size _ rfl) (Obj.isFreed_of_fields (Obj.data_mapFields rfl _)),Obj.cls_mapFields _ _⟩ isSubtype_stop ?_)
 refine wpAny_pure (hQ _ fun b ob nb e=>?_)
 have x3:=kx b ob nb e
 rw [Heap.get?_update_other _ _ (Nat.ne_of_gt (Heap.lt_size x3))]
 exact Heap.get?_push_of_some _ x3
theorem assign_tupH {env:Env} {elts:List Expr} {x1} {pos:Pos} {t x:Addr} {items:Array Value} {ox:Obj} {vx:Array Value} {Q:Unit -> Shared -> Prop} (hh:A.handled = some (.ref x)) (hx:s.heap.get? x = some ox) (hdx:ox.data = .fields vx) (hc:vx[2]? = some .none) (ht:IsTup s.heap t items)
  (hn:(assignEach elts env).length = items.size) (hstar:(assignEach elts env).findIdx? (·.1) = none)
  (h:∀ h',Heap.ExtBut s.heap.objs.size s.heap h' -> wpAny (model prog w) A (assignInOrder ((assignEach elts env).map (·.2)) items.toList) Q E { s with heap:=h' }) :
  wpAny (model prog w) A (assign (.Tuple elts x1 pos) env (.ref t)) Q E s:=by
 rw [assign_Tuple]
 refine wpAny_bind (wpAny_standAt ?_)
 unfold unpack
 rw [hn,hstar]
 refine wpAny_bind (wpAny_holding ?_)
 have hlt:t ≠ s.heap.objs.size:=by obtain ⟨o,ho,_⟩:=ht; exact Nat.ne_of_lt (Heap.lt_size ho)
 have hxlt:x ≠ s.heap.objs.size:=Nat.ne_of_lt (Heap.lt_size hx)
 unfold unpackItems
 refine wpAny_bind ?_
 unfold notIterableAtAll
 refine wpAny_bind (wpAny_specialOf ht.typeIs slot_tuple_iter.lookup ?_)
 refine wpAny_pure ?_
 simp only [Bool.false_eq_true,if_false]
 refine wpAny_bind (wpAny_holding (iter_tuple ht ?_))
 refine wpAny_bind (wpAny_holding (draw_tuple hlt items.size 0 _ _ ⟨_,Heap.get?_push_size _ rfl,rfl,rfl⟩ (ht.push _) (by omega) fun h₁ hit₁ hs₁=>?_))
 have hall:List.take items.size (List.drop 0 items.toList) = items.toList:=by
  rw [List.drop_zero]; exact List.take_of_length_le (by simp)
 rw [hall]
 rw [if_neg (by simp)]
 have ht₁:IsTup h₁ t items:=(ht.push _).extBut hs₁.extBut hlt
 have hx₁:h₁.get? x = some ox:=hs₁.extBut x ox hxlt (Heap.get?_push_of_some _ hx)
 refine wpAny_bind (wpAny_holding (tup_end_h (s:={ s with heap:=h₁ }) hh hx₁ hdx hc (Ne.symm hxlt) hit₁ ht₁ (by simp) fun h₂ he₂=>?_))
 simp only [Option.isSome_none,Bool.false_eq_true,if_false]
 exact wpAny_pure (h h₂ fun b o hb e=>he₂ b o hb (hs₁.extBut b o hb (Heap.get?_push_of_some _ e)))
end
section
variable {X:Cx} {K:PySem.W.Frag} {pos:Pos}
def gTupH (K:PySem.W.Frag) (n:Nat) (z:Addr) (t:TGs):TG:=fun v σ H Q=>∃ a xs cls,v = .ref a /\ SqT K H a xs /\ xs.length = n /\ H z = some (IsExc z cls) /\ t xs σ H Q
theorem pg_tupH {es:List Expr} {k:Nat} {t:TGs} {n:Nat} {z:Addr} (hh:X.A.handled = some (.ref z)) (h:PGs X es t) (hK:X.K = K:=by rfl)
  (hn:(assignEach es X.env).length = n:=by rfl) (hst:(assignEach es X.env).findIdx? (·.1) = none:=by rfl):PG X (.Tuple es k pos) (gTupH K n z t):=by
 subst hK
 intro pins s σ H v u Q I r hw
 obtain ⟨a,xs,cls,e1,hq,hl,hz,hw⟩:=hw
 subst e1
 cases r
 obtain ⟨its,rv,ht,_⟩:=I.tuple hq
 obtain ⟨⟨ox,vx,hx1,hx2,hx4,hx5⟩,_⟩:=I.hok z _ hz
 refine assign_tupH hh hx1 hx4 hx5 ht (by simp [hn,← hl,rv.length]) hst fun h' hx=>?_
 have I1:Inv X pins σ H { s with heap:=h' }:=I.kept (t':=s.toks) fun b o e=>hx b o (Nat.ne_of_lt (Heap.lt_size e)) e
 exact h pins _ σ H xs _ Q I1 (by simpa using rv) hw
end
end L2
namespace An20
open PySem L2 An
seal L2.PS L2.PSs L2.PE L2.PT L2.PW L2.PA L2.PG L2.PGs L2.PI L2.PFi L2.PC
theorem kO {i:Nat} {v:V} {σ:St} {H:Hp} {Q:St -> Hp -> Prop} (h:Q (σ.set i (some v)) H):gName i v σ H Q:=h
def spNF (P:Program) (w:World) (K:PySem.W.Frag) (C:Addr):Sp:=fun vs H Q _=>∃ (a:Addr) (fp:List Addr) (S:List En) (d:PyData) (v:V) (f:Str),vs = [.ref a,v,.str f] /\ ShAt P w K C H a fp S /\ (∀ e ∈ S,isThE e) /\ Dw K H d v /\ Q (.bl (formD S d f)) H
def spNote (P:Program) (w:World) (K:PySem.W.Frag) (C aV:Addr):Sp:=fun vs H Q E=>∃ (a:Addr) (fp:List Addr) (S:List En) (d:PyData) (v:V),vs = [.ref a,v] /\ ShAt P w K C H a fp S /\ (∀ e ∈ S,isThE e) /\ Dw K H d v /\
 (∀ e ∈ S,∀ t ps y,d = .str e.nm -> e.d = (Th.note t ps y).dat -> ∀ a,Dt K H (Th.note t ps y).dat (.ref a) -> Q (.ref a) H) /\ (formD S d "note" = false -> E (.ref aV) none H)
def jQ (P:Program) (w:World) (K:PySem.W.Frag) (C aV:Addr):Sp:=fun vs H Q E=>∃ (a:Addr) (fp:List Addr) (S:List En) (d:PyData) (v:V),vs = [.ref a,v] /\ ShAt P w K C H a fp S /\ (∀ e ∈ S,isThE e) /\ Dw K H d v /\
 (∀ x,d = .str x -> notB S x = true -> ∀ l,H l = none -> Q (.ref l) (upd H l (.lst ((parS S x).map V.str)))) /\ (formD S d "note" = false -> E (.ref aV) none H)
def spPart (P:Program) (w:World) (K:PySem.W.Frag) (C aV:Addr) (g:Str -> Str -> Str):Sp:=fun vs H Q E=>∃ (a:Addr) (fp:List Addr) (S:List En) (d:PyData) (v:V),vs = [.ref a,v] /\ ShAt P w K C H a fp S /\ (∀ e ∈ S,isThE e) /\ Dw K H d v /\
 (∀ e ∈ S,∀ t ps y,d = .str e.nm -> e.d = (Th.note t ps y).dat -> Q (.str (g t y)) H) /\ (formD S d "note" = false -> E (.ref aV) none H)
def spTreeOf (P:Program) (w:World) (K:PySem.W.Frag) (C aV:Addr):Sp:=spPart P w K C aV fun t _=>t
def spWordsOf (P:Program) (w:World) (K:PySem.W.Frag) (C aV:Addr):Sp:=spPart P w K C aV fun _ y=>y
def spParIn (K:PySem.W.Frag):Sp:=fun vs H Q _=>∃ (a:Addr) (t:Str) (ps:List Str) (y:Str),vs = [.ref a] /\ Dt K H (Th.note t ps y).dat (.ref a) /\ ∀ b,SqT K H b (ps.map V.str) -> Q (.ref b) H
def FndAt (K:PySem.W.Frag) (H:Hp) (fo:Addr) (S:List En) (rs:List Str):Prop:=∃ ke F,H fo = some (.dK ke) /\ AnS.DictIs K H ke F (fun _=>.bool true) /\ (∀ x,x ∈ F ↔ Rch (parS S) rs x)
def spAddF (P:Program) (w:World) (K:PySem.W.Frag) (C fP:Addr):Sp:=fun vs H Q _=>∃ (a fo rl:Addr) (fp:List Addr) (S:List En) (rs:List Str),vs = [.ref a,.ref fo,.ref rl,.ref fP] /\ ShAt P w K C H a fp S /\ (∀ e ∈ S,isThE e) /\ (∀ e ∈ S,∀ t ps y,e.d = (Th.note t ps y).dat -> ps.length <= 2) /\ Vc S /\ H fo = some (.dK []) /\ fo ∉ fp /\ SqL K H rl (rs.map V.str) /\ rs.length <= 1000 /\ (∀ r ∈ rs,notB S r = true) /\
 ∀ H',Off [fo] H H' -> FndAt K H' fo S rs -> Q .non H'
def spAddB (P:Program) (w:World) (K:PySem.W.Frag) (C:Addr):Sp:=fun vs H Q _=>∃ (a fo:Addr) (fp:List Addr) (S:List En) (r:Str),vs = [.ref a,.ref fo,.str r] /\ ShAt P w K C H a fp S /\ (∀ e ∈ S,isThE e) /\ (∀ e ∈ S,∀ t ps y,e.d = (Th.note t ps y).dat -> ps.length <= 2) /\ Vc S /\ H fo = some (.dK []) /\ fo ∉ fp /\ notB S r = true /\
 ∀ H',Off [fo] H H' -> FndAt K H' fo S [r] -> Q .non H'
def spOrder (P:Program) (w:World) (K:PySem.W.Frag) (C:Addr):Sp:=fun vs H Q _=>∃ (a fo:Addr) (fp:List Addr) (S:List En) (ke:List (Key × V)) (F:List Str),vs = [.ref a,.ref fo] /\ ShAt P w K C H a fp S /\ H fo = some (.dK ke) /\ AnS.DictIs K H ke F (fun _=>.bool true) /\
 ∀ l H',Same H H' -> H l = none -> H' l = some (.lst (((S.map En.nm).filter fun x=>decide (x ∈ F)).map V.str)) -> Q (.ref l) H'
structure VShelf (P:Program) (w:World) (K:PySem.W.Frag) (C:Addr) (H:Hp) (a:Addr) (fp:List Addr) (S:List En):Prop where
 sh:ShAt P w K C H a fp S
 th:∀ e ∈ S,isThE e
 two:∀ e ∈ S,∀ t ps y,e.d = (Th.note t ps y).dat -> ps.length <= 2
 vc:Vc S
theorem VShelf.same {P:Program} {w:World} {K:PySem.W.Frag} {C:Addr} {H H':Hp} {a:Addr} {fp:List Addr} {S:List En} (h:VShelf P w K C H a fp S) (s:Same H H'):VShelf P w K C H' a fp S:=⟨h.sh.same s,h.th,h.two,h.vc⟩
def spFB (P:Program) (w:World) (K:PySem.W.Frag) (C aV:Addr):Sp:=fun vs H Q E=>∃ (a:Addr) (fp:List Addr) (S:List En) (d:PyData) (v:V),vs = [.ref a,v] /\ VShelf P w K C H a fp S /\ Dw K H d v /\
 (∀ x,d = .str x -> notB S x = true -> ∀ fo H',Same H H' -> H fo = none -> FndAt K H' fo S [x] -> Q (.ref fo) H') /\ (formD S d "note" = false -> ∀ H',Same H H' -> E (.ref aV) none H')
def spAB (P:Program) (w:World) (K:PySem.W.Frag) (C aV:Addr):Sp:=fun vs H Q E=>∃ (a:Addr) (fp:List Addr) (S:List En) (d:PyData) (v:V),vs = [.ref a,v] /\ VShelf P w K C H a fp S /\ Dw K H d v /\
 (∀ x,d = .str x -> notB S x = true -> ∀ (l:Addr) (H':Hp) (F:List Str),Same H H' -> H l = none -> (∀ v,v ∈ F ↔ Rch (parS S) [x] v) -> H' l = some (.lst (((S.map En.nm).filter fun x=>decide (x ∈ F)).map V.str)) -> Q (.ref l) H') /\ (formD S d "note" = false -> ∀ H',Same H H' -> E (.ref aV) none H')
def spIsB (P:Program) (w:World) (K:PySem.W.Frag) (C aV:Addr):Sp:=fun vs H Q E=>∃ (a:Addr) (fp:List Addr) (S:List En) (d e:PyData) (v u:V),vs = [.ref a,v,u] /\ VShelf P w K C H a fp S /\ Dw K H d v /\ Dw K H e u /\
 (∀ x y,d = .str x -> e = .str y -> notB S x = true -> notB S y = true -> ∀ H' b,Same H H' -> (b = true ↔ Rch (parS S) [y] x) -> Q (.bl b) H') /\
 (formD S d "note" = false \/ formD S e "note" = false -> ∀ H',Same H H' -> E (.ref aV) none H')
section
variable {P:Program} {w:World} {K:PySem.W.Frag} {mg:Str -> Option Value} {base:Heap} {t1 t2 t3 t4 t5 t6:Tok} {aL aC aN aT aA b1 b2 b3 b4 b5 b6 b7 b8 fP:Addr}
theorem formD_in {S:List En} {d:PyData} {f:Str} (h:formD S d f = true):∃ x,d = .str x /\ yA S x [f] = true /\ x ∈ S.map En.nm:=by
 cases d with
 | str x =>
  have h:yA S x [f] = true:=h
  refine ⟨x,rfl,h,?_⟩
  rcases Classical.em (x ∈ S.map En.nm) with z | z
  ·exact z
  ·rw [form_out z] at h; cases h
 | none=>cases h
 | bool b=>cases h
 | int i=>cases h
 | list ds=>cases h
 | tuple ds=>cases h
 | dict kvs=>cases h
namespace w_nf
abbrev st:Stmt:=top 45
theorem sc:FnScope ["store","name","form"] ["store","name","form"] (zC st):=⟨rfl,rfl,rfl,by decide +kernel,rfl,by decide +kernel,by decide +kernel⟩
theorem ok {f:Addr} {fd:FuncData} (F:Fun K "names_form" "names_form" st f fd) (T:Txt P w K mg t1 t2 t3 t4 t5 t6 aL aC aN aT aA b1 b2 b3 b4 b5 b6 b7 b8 fP) (M_has:Met P w K mg base aC 2 "has" ["self","name"] (spHas P w K aC)) (M_thing:MetX P w K mg base aC 4 "thing" ["self","name"] (jD P w K aC aN)):FnOk P w K mg base CX0 5 f fd ["store","name","form"] (spNF P w K aC):=by
 refine F.ok sc (fun vs H Q E h=>?_) (fun cdv A outer s H vs Q E hr h=>?_)
 ·obtain ⟨a,fp,S,d,v,g,rfl,_⟩:=h
  rfl
 ·obtain ⟨a,fp,S,d,v,g,rfl,sh,th,hd,k⟩:=h
  refine ⟨_,(zG (zO (yX (pe_metC (pv 0) T.cls M_has (hr.mono (by decide)) (zA (pv 1) zB)) (xT (yI xI (zS (ix_tup:IxR _ (rIxT K)) (yQ (pv 0) T.cls M_thing (hr.mono (by decide)) zP (zA (pv 1) zB)) zH (fun _ _=>rfl)) (pv 2) (zU _)))))),?_⟩
  obtain ⟨gS,dx,d1,d2,d3,ts,nx,efp,nd,h1,h2,h3,h4,h5,h6,h7,h8,h9⟩:=id sh
  refine ⟨_,rfl,a,dx,_,rfl,h1,rfl,_,rfl,a,fp,S,d,v,rfl,sh,hd,hasD S d,rfl,?_⟩
  cases q:hasD S d with
  | false =>
   refine iteF ?_
   have:formD S d g = false:=by
    cases e:formD S d g with
    | false=>rfl
    | true =>
     obtain ⟨x,rfl,_,hx⟩:=formD_in e
     rw [show hasD S (.str x) = decide (x ∈ S.map En.nm) from rfl,decide_eq_true hx] at q
     cases q
   rw [this] at k
   exact k
  | true =>
   refine iteT ⟨_,rfl,a,dx,_,rfl,h1,rfl,_,rfl,a,fp,S,d,v,rfl,sh,hd,fun e he ed t ht=>?_,fun z=>by rw [q] at z; cases z⟩
   obtain ⟨tt,et,_⟩:=th e he
   rw [et] at ht
   obtain ⟨c,r,ec,hc⟩:=kE ht
   cases ec
   refine ⟨t,_,_,_,rfl,rfl,hc,yS (j:=0) rfl,_,rfl,rfl,?_⟩
   subst ed
   have:formD S (.str e.nm) g = decide (V.str tt.word = V.str g):=by
    show yA S e.nm [g] = _
    rw [form_in gS he,kI et,Bool.eq_iff_iff,decide_eq_true_iff,decide_eq_true_iff,List.mem_singleton,V.str.injEq]
   rw [this] at k
   exact k
end w_nf
namespace w_note
abbrev st:Stmt:=top 47
theorem sc:FnScope ["store","name"] ["store","name"] (zC st):=⟨rfl,rfl,rfl,by decide +kernel,rfl,by decide +kernel,by decide +kernel⟩
theorem ok {f:Addr} {fd:FuncData} (F:Fun K "note_of" "note_of" st f fd) (T:Txt P w K mg t1 t2 t3 t4 t5 t6 aL aC aN aT aA b1 b2 b3 b4 b5 b6 b7 b8 fP) (C_names_form:Cal P w K mg base 5 "names_form" ["store","name","form"] (spNF P w K aC)) (M_thing:MetX P w K mg base aC 4 "thing" ["self","name"] (jD P w K aC aN)):FnOk P w K mg base (CXF P w) 6 f fd ["store","name"] (spNote P w K aC b5):=by
 refine F.okX sc (fun vs H Q E h=>?_) (fun cdv A outer s H vs Q E hr h=>?_)
 ·obtain ⟨a,fp,S,d,v,rfl,_⟩:=h
  rfl
 ·obtain ⟨a,fp,S,d,v,rfl,sh,th,hd,k1,k2⟩:=h
  refine ⟨_,(zF (yL (yO (zQ (K:=K) (zM C_names_form (hr.mono (by decide)) (zA (pv 0) (zA (pv 1) (zA pe_str zB)))) (fun _=>rfl)))
    (zG (kH rfl jG rfl T.NoVersion T.xNoVersion (zA pe_str zB)))
    zV)
   (zG (zO (yQ (pv 0) T.cls M_thing (hr.mono (by decide)) yF (zA (pv 1) zB))))),?_⟩
  obtain ⟨gS,dx,d1,d2,d3,ts,nx,efp,nd,h1,h2,h3,h4,h5,h6,h7,h8,h9⟩:=id sh
  refine ⟨_,rfl,_,rfl,a,fp,S,d,v,"note",rfl,sh,th,hd,_,rfl,?_⟩
  cases q:formD S d "note" with
  | false=>exact iteNT ⟨lineN 1,k2 q⟩
  | true =>
   obtain ⟨x,rfl,hf,hx⟩:=formD_in q
   obtain ⟨e,he,rfl,t,ps,y,hd'⟩:=note_in th hf
   refine iteNF ⟨_,rfl,a,dx,_,rfl,h1,rfl,_,rfl,a,fp,S,.str e.nm,v,rfl,sh,hd,fun e2 he2 ed tt ht=>?_,fun z=>?_⟩
   ·have:e = e2:=nm_uniq gS he he2 (by injection ed)
    subst this
    rw [hd'] at ht
    exact k1 e he t ps y rfl hd' tt ht
   ·rw [show hasD S (.str e.nm) = decide (e.nm ∈ S.map En.nm) from rfl,decide_eq_true hx] at z
    cases z
end w_note
namespace w_parents
abbrev st:Stmt:=top 49
theorem sc:FnScope ["store","name"] ["store","name"] (zC st):=⟨rfl,rfl,rfl,by decide +kernel,rfl,by decide +kernel,by decide +kernel⟩
theorem ok {f:Addr} {fd:FuncData} (F:Fun K "parents_of" "parents_of" st f fd) (T:Txt P w K mg t1 t2 t3 t4 t5 t6 aL aC aN aT aA b1 b2 b3 b4 b5 b6 b7 b8 fP) (C_note_of:CalX P w K mg base 6 "note_of" ["store","name"] (spNote P w K aC b5)):FnOk P w K mg base (CXF P w) 7 f fd ["store","name"] (jQ P w K aC b5):=by
 refine F.okX sc (fun vs H Q E h=>?_) (fun cdv A outer s H vs Q E hr h=>?_)
 ·obtain ⟨a,fp,S,d,v,rfl,_⟩:=h
  rfl
 ·obtain ⟨a,fp,S,d,v,rfl,sh,th,hd,k1,k2⟩:=h
  refine ⟨_,(zG (zO (z7 xK (by rfl) T.list PyProof.Rows.boot_list (zA (zS (ix_tup:IxR _ (rIxT K)) (zX C_note_of (hr.mono (by decide)) yF (zA (pv 0) (zA (pv 1) zB))) zH (fun _ _=>rfl)) zB)))),?_⟩
  refine ⟨_,rfl,_,rfl,a,fp,S,d,v,rfl,sh,th,hd,fun e he t ps y ed hd' c hc=>?_,k2⟩
  obtain ⟨c',b,ec,hc1,hb⟩:=jB hc
  cases ec
  refine ⟨c,_,_,_,rfl,rfl,hc1,rfl,b,_,rfl,.inr hb,fun l nl=>?_⟩
  have hn:=qC he hd'
  have ep:parS S e.nm = ps:=by rw [par_at sh.good.nn he,hd',jK]
  rw [← ep]
  exact k1 e.nm ed hn l nl
end w_parents
namespace w_treeof
abbrev st:Stmt:=top 48
theorem sc:FnScope ["store","name"] ["store","name"] (zC st):=⟨rfl,rfl,rfl,by decide +kernel,rfl,by decide +kernel,by decide +kernel⟩
theorem ok {f:Addr} {fd:FuncData} (F:Fun K "tree_of" "tree_of" st f fd) (T:Txt P w K mg t1 t2 t3 t4 t5 t6 aL aC aN aT aA b1 b2 b3 b4 b5 b6 b7 b8 fP) (C_note_of:CalX P w K mg base 6 "note_of" ["store","name"] (spNote P w K aC b5)):FnOk P w K mg base (CXF P w) 7 f fd ["store","name"] (spTreeOf P w K aC b5):=by
 refine F.okX sc (fun vs H Q E h=>?_) (fun cdv A outer s H vs Q E hr h=>?_)
 ·obtain ⟨a,fp,S,d,v,rfl,_⟩:=h
  rfl
 ·obtain ⟨a,fp,S,d,v,rfl,sh,th,hd,k1,k2⟩:=h
  refine ⟨_,(zG (zO (zS (ix_tup:IxR _ (rIxT K)) (zX C_note_of (hr.mono (by decide)) yF (zA (pv 0) (zA (pv 1) zB))) zH (fun _ _=>rfl)))),?_⟩
  refine ⟨_,rfl,_,rfl,a,fp,S,d,v,rfl,sh,th,hd,fun e he t ps y ed hd' c hc=>?_,k2⟩
  obtain ⟨c',b,ec,hc1,hb⟩:=jB hc
  cases ec
  exact ⟨c,_,_,_,rfl,rfl,hc1,rfl,k1 e he t ps y ed hd'⟩
end w_treeof
namespace w_words
abbrev st:Stmt:=top 50
theorem sc:FnScope ["store","name"] ["store","name"] (zC st):=⟨rfl,rfl,rfl,by decide +kernel,rfl,by decide +kernel,by decide +kernel⟩
theorem ok {f:Addr} {fd:FuncData} (F:Fun K "words_of" "words_of" st f fd) (T:Txt P w K mg t1 t2 t3 t4 t5 t6 aL aC aN aT aA b1 b2 b3 b4 b5 b6 b7 b8 fP) (C_note_of:CalX P w K mg base 6 "note_of" ["store","name"] (spNote P w K aC b5)):FnOk P w K mg base (CXF P w) 7 f fd ["store","name"] (spWordsOf P w K aC b5):=by
 refine F.okX sc (fun vs H Q E h=>?_) (fun cdv A outer s H vs Q E hr h=>?_)
 ·obtain ⟨a,fp,S,d,v,rfl,_⟩:=h
  rfl
 ·obtain ⟨a,fp,S,d,v,rfl,sh,th,hd,k1,k2⟩:=h
  refine ⟨_,(zG (zO (zS (ix_tup:IxR _ (rIxT K)) (zX C_note_of (hr.mono (by decide)) yF (zA (pv 0) (zA (pv 1) zB))) zH (fun _ _=>rfl)))),?_⟩
  refine ⟨_,rfl,_,rfl,a,fp,S,d,v,rfl,sh,th,hd,fun e he t ps y ed hd' c hc=>?_,k2⟩
  obtain ⟨c',b,ec,hc1,hb⟩:=jB hc
  cases ec
  exact ⟨c,_,_,_,rfl,rfl,hc1,rfl,k1 e he t ps y ed hd'⟩
end w_words
namespace w_parin
abbrev st:Stmt:=top 51
theorem sc:FnScope ["note"] ["note"] (zC st):=⟨rfl,rfl,rfl,by decide +kernel,rfl,by decide +kernel,by decide +kernel⟩
theorem ok {f:Addr} {fd:FuncData} (F:Fun K "parents_in" "parents_in" st f fd) (T:Txt P w K mg t1 t2 t3 t4 t5 t6 aL aC aN aT aA b1 b2 b3 b4 b5 b6 b7 b8 fP):FnOk P w K mg base CX0 1 f fd ["note"] (spParIn K):=by
 refine F.ok sc (fun vs H Q E h=>?_) (fun cdv A outer s H vs Q E hr h=>?_)
 ·obtain ⟨a,t,ps,y,rfl,_⟩:=h
  rfl
 ·obtain ⟨a,t,ps,y,rfl,ha,k⟩:=h
  refine ⟨_,(zG (zO (zS (ix_tup:IxR _ (rIxT K)) (pv 0) zH (fun _ _=>rfl)))),?_⟩
  obtain ⟨c',b,ec,hc1,hb⟩:=jB ha
  cases ec
  exact ⟨_,rfl,a,_,_,_,rfl,rfl,hc1,rfl,k b hb⟩
end w_parin
end
end An20
namespace An20
open PySem L2 An
seal L2.PS L2.PSs L2.PE L2.PT L2.PW L2.PA L2.PG L2.PGs L2.PI L2.PFi L2.PC
section
variable {P:Program} {w:World} {K:PySem.W.Frag} {mg:Str -> Option Value} {base:Heap} {t1 t2 t3 t4 t5 t6:Tok} {aL aC aN aT aA b1 b2 b3 b4 b5 b6 b7 b8 fP:Addr}
structure Wk (S:List En) (rs F L:List Str):Prop where
 nd:F.Nodup
 rch:∀ x,x ∈ F \/ x ∈ L -> Rch (parS S) rs x
 roots:∀ r ∈ rs,r ∈ F \/ r ∈ L
 par:∀ x ∈ F,∀ y ∈ parS S x,y ∈ F \/ y ∈ L
theorem Wk.len {S:List En} {rs F L:List Str} (h:Wk S rs F L) (c:Vc S) (hr:∀ r ∈ rs,notB S r = true) (g:(S.map En.nm).Nodup):F.length <= S.length:=by
 have:=AnS.len_sub h.nd g fun p hp=>notB_mem (Rch.note c hr (h.rch p (.inl hp)))
 rw [List.length_map] at this
 exact this
theorem Wk.skip {S:List En} {rs F L:List Str} {x:Str} (h:Wk S rs F (L ++ [x])) (hx:x ∈ F):Wk S rs F L:=by
 have sub:∀ y,y ∈ F \/ y ∈ L ++ [x] -> y ∈ F \/ y ∈ L:=fun y hy=>by
  rcases hy with z | z
  ·exact .inl z
  ·rcases List.mem_append.mp z with z | z
   ·exact .inr z
   ·rw [List.mem_singleton.mp z]; exact .inl hx
 exact ⟨h.nd,fun y hy=>h.rch y (hy.imp id fun z=>List.mem_append_left _ z),fun r hr=>sub r (h.roots r hr),fun y hy z hz=>sub z (h.par y hy z hz)⟩
theorem Wk.take {S:List En} {rs F L:List Str} {x:Str} (h:Wk S rs F (L ++ [x])) (hx:x ∉ F):Wk S rs (AnS.addL F x) (L ++ parS S x):=by
 have rx:=h.rch x (.inr (List.mem_append_right _ (List.mem_singleton.mpr rfl)))
 have sub:∀ y,y ∈ F \/ y ∈ L ++ [x] -> y ∈ AnS.addL F x \/ y ∈ L ++ parS S x:=fun y hy=>by
  rcases hy with z | z
  ·exact .inl (AnS.mem_addL.mpr (.inl z))
  ·rcases List.mem_append.mp z with z | z
   ·exact .inr (List.mem_append_left _ z)
   ·rw [List.mem_singleton.mp z]; exact .inl (AnS.mem_addL.mpr (.inr rfl))
 refine ⟨?_,fun y hy=>?_,fun r hr=>sub r (h.roots r hr),fun y hy z hz=>?_⟩
 ·unfold AnS.addL
  rw [if_neg hx]
  exact jX h.nd hx
 ·rcases hy with z | z
  ·rcases AnS.mem_addL.mp z with z | z
   ·exact h.rch y (.inl z)
   ·rw [z]; exact rx
  ·rcases List.mem_append.mp z with z | z
   ·exact h.rch y (.inr (List.mem_append_left _ z))
   ·exact .step rx z
 ·rcases AnS.mem_addL.mp hy with q | q
  ·exact sub z (h.par y q z hz)
  ·rw [q] at hz; exact .inr (List.mem_append_right _ hz)
theorem not_tup {H:Hp} {fo:Addr} {kv:List (Key × V)} (h:H fo = some (.dK kv)):∀ b ∈ [fo],∀ xs,¬ Rd H b (.tup xs):=fun b hb xs z=>by
 rw [List.mem_singleton.mp hb] at z
 rcases z with z | ⟨u,z⟩
 ·rw [h] at z; cases z
 ·rw [h] at z; cases z
namespace w_addf
abbrev st:Stmt:=top 42
theorem sc:FnScope ["store","found","roots","names_behind","left","name"] ["store","found","roots","names_behind"] (zC st):=⟨rfl,rfl,rfl,by decide +kernel,rfl,by decide +kernel,by decide +kernel⟩
theorem ok {f:Addr} {fd:FuncData} (F:Fun K "add_found" "add_found" st f fd) (T:Txt P w K mg t1 t2 t3 t4 t5 t6 aL aC aN aT aA b1 b2 b3 b4 b5 b6 b7 b8 fP) (M_thing:MetX P w K mg base aC 4 "thing" ["self","name"] (jD P w K aC aN)) (C_parents_in:Cal P w K mg base 1 "parents_in" ["note"] (spParIn K)):FnOk P w K mg base CX0 5 f fd ["store","found","roots","names_behind"] (spAddF P w K aC fP):=by
 refine F.ok sc (fun vs H Q E h=>?_) (fun cdv A outer s H vs Q E hr h=>?_)
 ·obtain ⟨a,fo,rl,fp,S,rs,rfl,_⟩:=h
  rfl
 ·obtain ⟨a,fo,rl,fp,S,rs,rfl,sh,th,two,vc,hfo,nfo,hrl,rsl,rn,k⟩:=h
  refine ⟨_,(zF (zY (i:=4) sc.nd rfl (Or.inl rfl) (z7 xK (by rfl) T.list PyProof.Rows.boot_list (zA (pv 2) zB)))
   (zG (ps_while PassesOwn.never (zW op_gt (zK z6 (by rfl) T.len PySem.boot_len (zA (pv 4) zB)) zH (zU _))
    (zF (zY (i:=5) sc.nd rfl (Or.inl rfl) (pe_bm0 PySem.F.plainAttrs_list PySem.F.slot_list_pop PySem.F.type_list_pop mt_pop (pv 4)))
    (zG (yL (zW (op_ninZ hr.units) (pv 5) (pv 1) (by with_unfolding_all rfl))
     (zF (ps_dput hr.units1 (pv 1) (pv 5) xO rfl)
     (zG (z5 (kP PySem.F.plainAttrs_list PySem.F.slot_list_extend PySem.F.type_list_extend mt_extendT (pv 4) (zA (pe_callV C_parents_in T.parents_in (hr.mono (by decide)) (pv 3) (zA (yQ (pv 0) T.cls M_thing (hr.mono (by decide)) zP (zA (pv 5) zB)) zB)) zB)))))
     zV)))))),?_⟩
  have gn:=sh.good.nn
  have gl:=sh.good.len
  refine ⟨_,rfl,rl,_,rfl,.inl hrl,fun lf nlf=>?_⟩
  have flf:fo ≠ lf:=zJ hfo nlf
  let Pv:St -> Hp -> Prop:=fun σ H2=>∃ o5 kv F L,σ = [some (.ref a),some (.ref fo),some (.ref rl),some (.ref fP),some (.ref lf),o5] /\ Off [fo] H H2 /\ H2 fo = some (.dK kv) /\ AnS.DictIs K H2 kv F (fun _=>.bool true) /\ H2 lf = some (.lst (L.map V.str)) /\ Wk S rs F L /\ L.length <= 1000 + 2 * F.length
  let μ:St -> Hp -> Nat:=fun σ H2=>match H2 fo,H2 lf with
   | some (.dK kv),some (.lst xs)=>3 * (S.length - kv.length) + xs.length
   | _,_=>0
  have μ_is:∀ {σ H2 kv xs},H2 fo = some (.dK kv) -> H2 lf = some (.lst xs) -> μ σ H2 = 3 * (S.length - kv.length) + xs.length:=fun {σ H2 kv xs} h1 h2=>by
   show (match H2 fo,H2 lf with
    | some (.dK kv),some (.lst xs)=>3 * (S.length - kv.length) + xs.length
    | _,_=>0) = _
   rw [h1,h2]
  refine kO ?_
  refine while_by Pv μ ?_ ?_ ?_
  ·exact ⟨none,[],[],rs,rfl,Off.of (zE nlf),by rw [zI flf]; exact hfo,AnS.DictIs.nil,zD,⟨List.nodup_nil,fun x hx=>.root (hx.resolve_left (fun z=>nomatch z)),fun r hr=>.inr hr,fun x hx=>(nomatch hx)⟩,by rw [List.length_nil]; omega⟩
  ·rintro σ H2 ⟨o5,kv,F',L,rfl,of2,hf2,df2,hl2,wk,bd⟩
   have sh2:=sh.off (not_tup hfo) of2 (fun b hb z=>nfo (List.mem_singleton.mp z ▸ hb))
   refine ⟨_,rfl,lf,_,rfl,.inl (SqL.of hl2),_,_,rfl,rfl,_,rfl,ite2 (fun c=>?_) (fun c=>?_)⟩
   ·have c:0 < L.length:=by
     have c:decide ((0:Int) < ((L.map V.str).length:Int)) = true:=c
     have:=of_decide_eq_true c
     rw [List.length_map] at this
     omega
    obtain ⟨L',x,rfl⟩:∃ L' x,L = L' ++ [x]:=⟨L.dropLast,L.getLast (by intro z; rw [z] at c; exact absurd c (by decide)),(List.dropLast_concat_getLast _).symm⟩
    rw [List.length_append,List.length_singleton] at bd
    have ml:(L' ++ [x]).map V.str = L'.map V.str ++ [V.str x]:=by rw [List.map_append]; rfl
    refine ⟨_,rfl,.inl ⟨rfl,_,SqL.of hl2⟩,lf,_,V.str x,rfl,rfl,hl2,by rw [ml,List.length_append,List.length_singleton,Nat.add_sub_cancel,List.getElem?_append_right (Nat.le_refl _),Nat.sub_self]; rfl,?_⟩
    rw [ml,List.dropLast_concat]
    have hl2':H2 lf = some (.lst (L'.map V.str ++ [V.str x])):=by rw [← ml]; exact hl2
    have hf3:upd H2 lf (.lst (L'.map V.str)) fo = some (.dK kv):=by rw [zI flf]; exact hf2
    have ts3:TSame H2 (upd H2 lf (.lst (L'.map V.str))):=TSame.upd hl2'
    have of3:Off [fo] H (upd H2 lf (.lst (L'.map V.str))):=fun b o nb e=>by
     rw [zI (fun z=>by rw [z,nlf] at e; cases e)]
     exact of2 b o nb e
    have hl3:upd H2 lf (.lst (L'.map V.str)) lf = some (.lst (L'.map V.str)):=zD
    have df3:AnS.DictIs K (upd H2 lf (.lst (L'.map V.str))) kv F' (fun _=>.bool true):=⟨df2.keys,df2.nd,df2.val⟩
    have m0:=μ_is (σ:=[some (.ref a),some (.ref fo),some (.ref rl),some (.ref fP),some (.ref lf),o5]) hf2 hl2'
    rw [List.length_append,List.length_map,List.length_singleton] at m0
    generalize upd H2 lf (.lst (L'.map V.str)) = H3 at hf3 ts3 of3 hl3 df3 ⊢
    have fl:=wk.len vc rn gn
    have kl:=df3.len
    refine ⟨_,rfl,_,rfl,fo,_,rfl,DGet.k (k:=.inr x) hf3,_,rfl,ite2 (fun c2=>?_) (fun c2=>?_)⟩
    ·rw [df3.isSome,Bool.not_eq_true',decide_eq_false_iff_not] at c2
     have wk2:=wk.take c2
     have fl2:=wk2.len vc rn gn
     have ea:AnS.addL F' x = F' ++ [x]:=by unfold AnS.addL; rw [if_neg c2]
     rw [ea,List.length_append,List.length_singleton] at fl2
     have nx:=Rch.note vc rn (wk.rch x (.inr (List.mem_append_right _ (List.mem_singleton.mpr rfl))))
     obtain ⟨e,he,rfl,t,ps,y,hd'⟩:=note_in th nx
     have ep:parS S e.nm = ps:=by rw [par_at gn he,hd',jK]
     have pl:=two e he t ps y hd'
     refine ⟨_,rfl,_,rfl,fo,_,rfl,DPut.k (k:=.inr e.nm) hf3 (Nat.lt_of_lt_of_le (by omega:kv.length < 16777216) (le_line (Nat.le_refl _))),?_⟩
     have p1:=(df3.put e.nm (v:=.bl true) (d:=.bool true) rfl).cong (g':=fun _=>.bool true) fun p _=>by show (if p = e.nm then PyData.bool true else .bool true) = _; rw [ite_self]
     have kl4:=p1.len
     have hf4:upd H3 fo (.dK (putK kv (.inr e.nm) (.bl true))) fo = some (.dK (putK kv (.inr e.nm) (.bl true))):=zD
     have hl4:upd H3 fo (.dK (putK kv (.inr e.nm) (.bl true))) lf = some (.lst (L'.map V.str)):=by rw [zI (Ne.symm flf)]; exact hl3
     have of4:Off [fo] H (upd H3 fo (.dK (putK kv (.inr e.nm) (.bl true)))):=of3.upd (List.mem_singleton.mpr rfl)
     have df4:AnS.DictIs K (upd H3 fo (.dK (putK kv (.inr e.nm) (.bl true)))) (putK kv (.inr e.nm) (.bl true)) (AnS.addL F' e.nm) (fun _=>.bool true):=⟨p1.keys,p1.nd,p1.val⟩
     generalize upd H3 fo (.dK (putK kv (.inr e.nm) (.bl true))) = H4 at hf4 hl4 of4 df4 ⊢
     generalize putK kv (.inr e.nm) (.bl true) = kv4 at hf4 df4 kl4
     have sh4:=sh.off (not_tup hfo) of4 (fun b hb z=>nfo (List.mem_singleton.mp z ▸ hb))
     obtain ⟨gS,dx,d1,d2,d3,tts,nx',efp,nd',h1,_⟩:=id sh4
     refine ⟨_,rfl,.inl ⟨rfl,_,SqL.of hl4⟩,rfl,_,rfl,a,dx,_,rfl,h1,rfl,_,rfl,a,fp,S,.str e.nm,.str e.nm,rfl,sh4,rfl,fun e2 he2 ed tt ht=>?_,fun z=>?_⟩
     ·have:e = e2:=nm_uniq gS he he2 (by injection ed)
      subst this
      rw [hd'] at ht
      refine ⟨tt,t,ps,y,rfl,ht,fun b hb=>⟨lf,b,_,_,rfl,rfl,hl4,hb,le_line (by rw [List.length_map,List.length_map]; omega),?_⟩⟩
      have hl5:upd H4 lf (.lst (L'.map V.str ++ ps.map V.str)) lf = some (.lst ((L' ++ ps).map V.str)):=by rw [zD,List.map_append]
      have hf5:upd H4 lf (.lst (L'.map V.str ++ ps.map V.str)) fo = some (.dK kv4):=by rw [zI flf]; exact hf4
      refine ⟨⟨_,kv4,AnS.addL F' e.nm,L' ++ ps,rfl,fun b o nb q=>?_,hf5,⟨df4.keys,df4.nd,df4.val⟩,hl5,?_,?_⟩,?_⟩
      ·rw [zI (fun z=>by rw [z,nlf] at q; cases q)]
       exact of4 b o nb q
      ·rw [ep] at wk2
       exact wk2
      ·rw [ea,List.length_append,List.length_append,List.length_singleton]
       omega
      ·rw [m0,μ_is (σ:=[]) hf5 hl5,kl4,ea,List.length_append,List.length_map,List.length_append,List.length_singleton]
       omega
     ·rw [show hasD S (.str e.nm) = decide (e.nm ∈ S.map En.nm) from rfl,decide_eq_true (List.mem_map.mpr ⟨e,he,rfl⟩)] at z
      cases z
    ·rw [df3.isSome,Bool.not_eq_true',decide_eq_false_iff_not,Decidable.not_not] at c2
     refine ⟨⟨_,kv,F',L',rfl,of3,hf3,df3,hl3,wk.skip c2,by omega⟩,?_⟩
     rw [m0,μ_is (σ:=[]) hf3 hl3,List.length_map]
     omega
   ·have e0:L = []:=by
     cases L with
     | nil=>rfl
     | cons x l=>exact absurd (show decide ((0:Int) < ((((x :: l).map V.str).length:Nat):Int)) = true from decide_eq_true (by rw [List.length_map,List.length_cons]; omega)) c
    subst e0
    refine k H2 of2 ⟨kv,F',hf2,df2,fun x=>⟨fun hx=>wk.rch x (.inl hx),fun hx=>rch_all (fun r hr=>(wk.roots r hr).resolve_right (fun z=>nomatch z)) (fun y hy z hz=>(wk.par y hy z hz).resolve_right (fun q=>nomatch q)) hx⟩⟩
  ·intro σ H Q Q' hq hc
   obtain ⟨v,e1,l,xs,e2,e3,i,j,e4,e5,b,e6,q⟩:=hc
   exact ⟨v,e1,l,xs,e2,e3,i,j,e4,e5,b,e6,hq _ _ q⟩
end w_addf
end
end An20
namespace An20
open PySem L2 An
seal L2.PS L2.PSs L2.PE L2.PT L2.PW L2.PA L2.PG L2.PGs L2.PI L2.PFi L2.PC
section
variable {P:Program} {w:World} {K:PySem.W.Frag} {mg:Str -> Option Value} {base:Heap} {t1 t2 t3 t4 t5 t6:Tok} {aL aC aN aT aA b1 b2 b3 b4 b5 b6 b7 b8 fP:Addr}
namespace w_addb
abbrev st:Stmt:=top 52
theorem sc:FnScope ["store","found","name"] ["store","found","name"] (zC st):=⟨rfl,rfl,rfl,by decide +kernel,rfl,by decide +kernel,by decide +kernel⟩
theorem ok {f:Addr} {fd:FuncData} (F:Fun K "add_before" "add_before" st f fd) (T:Txt P w K mg t1 t2 t3 t4 t5 t6 aL aC aN aT aA b1 b2 b3 b4 b5 b6 b7 b8 fP) (C_add_found:Cal P w K mg base 5 "add_found" ["store","found","roots","names_behind"] (spAddF P w K aC fP)):FnOk P w K mg base CX0 6 f fd ["store","found","name"] (spAddB P w K aC):=by
 refine F.ok sc (fun vs H Q E h=>?_) (fun cdv A outer s H vs Q E hr h=>?_)
 ·obtain ⟨a,fo,fp,S,r,rfl,_⟩:=h
  rfl
 ·obtain ⟨a,fo,fp,S,r,rfl,sh,th,two,vc,hfo,nfo,hn,k⟩:=h
  refine ⟨_,(zG (z5 (zM C_add_found (hr.mono (by decide)) (zA (pv 0) (zA (pv 1) (zA (yW (zA (pv 2) zB)) (zA (yR (v:=.ref fP) rfl T.parents_in rfl) zB))))))),?_⟩
  refine ⟨_,rfl,_,rfl,_,rfl,lineN 1,fun l nl=>?_⟩
  have u:=zE (o:=.lst [V.str r]) nl
  exact ⟨a,fo,l,fp,S,[r],rfl,sh.same u,th,two,vc,u _ _ hfo,nfo,SqL.of zD,by rw [List.length_singleton]; omega,fun x hx=>by rw [List.mem_singleton.mp hx]; exact hn,fun H' o' fn=>k H' ((Off.of u).trans o') fn⟩
end w_addb
namespace w_order
abbrev st:Stmt:=top 43
theorem sc:FnScope ["store","found"] ["store","found"] (zC st):=⟨rfl,rfl,rfl,by decide +kernel,rfl,by decide +kernel,by decide +kernel⟩
theorem ok {f:Addr} {fd:FuncData} (F:Fun K "in_order" "in_order" st f fd) (T:Txt P w K mg t1 t2 t3 t4 t5 t6 aL aC aN aT aA b1 b2 b3 b4 b5 b6 b7 b8 fP) (M_names:Met P w K mg base aC 1 "names" ["self"] (kL P w K aC)):FnOk P w K mg base CX0 2 f fd ["store","found"] (spOrder P w K aC):=by
 refine F.ok sc (fun vs H Q E h=>?_) (fun cdv A outer s H vs Q E hr h=>?_)
 ·obtain ⟨a,fo,fp,S,ke,F',rfl,_⟩:=h
  rfl
 ·obtain ⟨a,fo,fp,S,ke,F',rfl,sh,hfo,df,k⟩:=h
  refine ⟨_,(zG (zO (xF (sc:=zC st) (N:=["store","found"]) (N':=["name","found"]) (src:=[none,some 1]) ⟨by decide +kernel,rfl,rfl,by decide +kernel,by decide +kernel,by decide +kernel,by decide +kernel⟩ rfl rfl rfl (x9 (pe_metC0 (pv 0) T.cls M_names (hr.mono (by decide)))) (fun _ _ _ _=>(zT (i:=0) (show (["name","found"]:List Str).Nodup by decide +kernel) rfl (Or.inl rfl))) (fun _ _ _ _=>(pf_one (zW (op_inZ hr.units) (pv 0) (pv 1) (by with_unfolding_all rfl)))) (fun _ _ _ _=>(pv 0))))),?_⟩
  obtain ⟨gS,dx,d1,d2,d3,tts,nx',efp,nd',h1,_⟩:=id sh
  refine ⟨_,rfl,a,dx,_,rfl,h1,rfl,a,fp,S,rfl,sh,fun l nl=>⟨l,rfl,⟨_,SqL.of zD⟩,?_⟩⟩
  have em:(S.map fun e=>V.str e.nm) = (S.map En.nm).map V.str:=by rw [List.map_map]; rfl
  rw [em]
  have u:=zE (o:=.lst ((S.map En.nm).map V.str)) nl
  have hl:SqL K (upd H l (.lst ((S.map En.nm).map V.str))) l ((S.map En.nm).map V.str):=SqL.of zD
  have hf1:=u _ _ hfo
  generalize upd H l (.lst ((S.map En.nm).map V.str)) = H1 at u hl hf1 ⊢
  have gl:=gS.len
  refine jH (K:=K) (a:=l) (xs:=(S.map En.nm).map V.str) (fun i ys σ H2=>∃ o,σ = [o,some (.ref fo)] /\ Same H1 H2 /\ ys.length <= i /\ ys = (((S.map En.nm).take i).filter fun x=>decide (x ∈ F')).map V.str) ⟨none,rfl,Same.refl _,Nat.le_refl _,rfl⟩ (le_line (by rw [List.length_map,List.length_map]; omega)) ?_ ?_ ?_
  ·rintro i ys σ H2 hi ⟨o,rfl,e2,yl,_⟩
   exact ⟨e2.seq hl,yl⟩
  ·rintro i y ys σ H2 hy ⟨o,rfl,e2,yl,rfl⟩
   rw [List.getElem?_map] at hy
   obtain ⟨x,hx,ex⟩:=Option.map_eq_some_iff.mp hy
   subst ex
   have tk:((S.map En.nm).take (i + 1)).filter (fun x=>decide (x ∈ F')) = ((S.map En.nm).take i).filter (fun x=>decide (x ∈ F')) ++ (if x ∈ F' then [x] else []):=by
    rw [List.take_add_one,hx,List.filter_append]
    show _ ++ [x].filter _ = _
    rw [List.filter_cons]
    by_cases z:x ∈ F'
    ·rw [if_pos (decide_eq_true z),if_pos z]; rfl
    ·rw [if_neg (fun q=>z (of_decide_eq_true q)),if_neg z]; rfl
   refine ⟨_,rfl,_,rfl,fo,_,rfl,DGet.k (k:=.inr x) (e2 _ _ hf1),_,rfl,ite2 (fun c=>⟨_,rfl,_,rfl,e2,?_,?_⟩) (fun c=>⟨_,rfl,e2,Nat.le_succ_of_le yl,?_⟩)⟩
   ·rw [List.length_append]; exact Nat.succ_le_succ yl
   ·rw [df.isSome] at c
    rw [tk,if_pos (of_decide_eq_true c),List.map_append]; rfl
   ·rw [df.isSome] at c
    rw [tk,if_neg (fun z=>c (decide_eq_true z)),List.append_nil]
  ·rintro ys σ H2 ⟨o,rfl,e2,yl,rfl⟩ r nr
   rw [List.length_map,List.take_length]
   exact k r _ ((u.trans e2).trans (zE nr)) ((u.trans e2).free nr) zD
end w_order
theorem off_same {H H':Hp} {fo:Addr} {o:HO} (n:H fo = none) (h:Off [fo] (upd H fo o) H'):Same H H':=fun b u e=>by
 have ne:b ≠ fo:=zJ e n
 exact h b u (fun z=>ne (List.mem_singleton.mp z)) (by rw [zI ne]; exact e)
namespace w_fb
abbrev st:Stmt:=top 53
theorem sc:FnScope ["store","name","found"] ["store","name"] (zC st):=⟨rfl,rfl,rfl,by decide +kernel,rfl,by decide +kernel,by decide +kernel⟩
theorem ok {f:Addr} {fd:FuncData} (F:Fun K "found_before" "found_before" st f fd) (T:Txt P w K mg t1 t2 t3 t4 t5 t6 aL aC aN aT aA b1 b2 b3 b4 b5 b6 b7 b8 fP) (C_note_of:CalX P w K mg base 6 "note_of" ["store","name"] (spNote P w K aC b5)) (C_add_before:Cal P w K mg base 6 "add_before" ["store","found","name"] (spAddB P w K aC)):FnOk P w K mg base (CXF P w) 7 f fd ["store","name"] (spFB P w K aC b5):=by
 refine F.okX sc (fun vs H Q E h=>?_) (fun cdv A outer s H vs Q E hr h=>?_)
 ·obtain ⟨a,fp,S,d,v,rfl,_⟩:=h
  rfl
 ·obtain ⟨a,fp,S,d,v,rfl,vs,hd,k1,k2⟩:=h
  refine ⟨_,(zF (z5 (zX C_note_of (hr.mono (by decide)) yF (zA (pv 0) (zA (pv 1) zB))))
   (zF (zY (i:=2) sc.nd rfl (Or.inl rfl) pe_dnewK)
   (zF (z5 (zM C_add_before (hr.mono (by decide)) (zA (pv 0) (zA (pv 2) (zA (pv 1) zB)))))
   (zG (zO (pv 2)))))),?_⟩
  refine ⟨_,rfl,_,rfl,a,fp,S,d,v,rfl,vs.sh,vs.th,hd,fun e he t ps y ed hd' c hc=>?_,fun z=>k2 z H (Same.refl _)⟩
  subst ed
  have hv:v = .str e.nm:=hd
  subst hv
  have hn:=qC he hd'
  refine fun fo nfo=>⟨_,rfl,_,rfl,_,rfl,?_⟩
  have u:=zE (o:=.dK []) nfo
  have nfp:fo ∉ fp:=fun z=>by
   obtain ⟨o,q⟩:=vs.sh.ex fo z
   rw [nfo] at q; cases q
  exact ⟨a,fo,fp,S,e.nm,rfl,vs.sh.same u,vs.th,vs.two,vs.vc,zD,nfp,hn,fun H' o' fn=>⟨_,rfl,k1 e.nm rfl hn fo H' (off_same nfo o') nfo fn⟩⟩
end w_fb
namespace w_ab
abbrev st:Stmt:=top 54
theorem sc:FnScope ["store","name"] ["store","name"] (zC st):=⟨rfl,rfl,rfl,by decide +kernel,rfl,by decide +kernel,by decide +kernel⟩
theorem ok {f:Addr} {fd:FuncData} (F:Fun K "all_before" "all_before" st f fd) (T:Txt P w K mg t1 t2 t3 t4 t5 t6 aL aC aN aT aA b1 b2 b3 b4 b5 b6 b7 b8 fP) (C_found_before:CalX P w K mg base 7 "found_before" ["store","name"] (spFB P w K aC b5)) (C_in_order:Cal P w K mg base 2 "in_order" ["store","found"] (spOrder P w K aC)):FnOk P w K mg base (CXF P w) 8 f fd ["store","name"] (spAB P w K aC b5):=by
 refine F.okX sc (fun vs H Q E h=>?_) (fun cdv A outer s H vs Q E hr h=>?_)
 ·obtain ⟨a,fp,S,d,v,rfl,_⟩:=h
  rfl
 ·obtain ⟨a,fp,S,d,v,rfl,vs,hd,k1,k2⟩:=h
  refine ⟨_,(zG (zO (zM C_in_order (hr.mono (by decide)) (zA (pv 0) (zA (zX C_found_before (hr.mono (by decide)) yF (zA (pv 0) (zA (pv 1) zB))) zB))))),?_⟩
  refine ⟨_,rfl,_,rfl,_,rfl,a,fp,S,d,v,rfl,vs,hd,fun x ed hn fo H1 s1 nfo fn=>?_,k2⟩
  obtain ⟨ke,F',hf,df,mF⟩:=fn
  exact ⟨a,fo,fp,S,ke,F',rfl,vs.sh.same s1,hf,df,fun l H2 s2 nl hl=>k1 x ed hn l H2 F' (s1.trans s2) (s1.free nl) mF hl⟩
end w_ab
namespace w_isb
abbrev st:Stmt:=top 55
theorem sc:FnScope ["store","one","other"] ["store","one","other"] (zC st):=⟨rfl,rfl,rfl,by decide +kernel,rfl,by decide +kernel,by decide +kernel⟩
theorem ok {f:Addr} {fd:FuncData} (F:Fun K "is_before" "is_before" st f fd) (T:Txt P w K mg t1 t2 t3 t4 t5 t6 aL aC aN aT aA b1 b2 b3 b4 b5 b6 b7 b8 fP) (C_note_of:CalX P w K mg base 6 "note_of" ["store","name"] (spNote P w K aC b5)) (C_found_before:CalX P w K mg base 7 "found_before" ["store","name"] (spFB P w K aC b5)):FnOk P w K mg base (CXF P w) 8 f fd ["store","one","other"] (spIsB P w K aC b5):=by
 refine F.okX sc (fun vs H Q E h=>?_) (fun cdv A outer s H vs Q E hr h=>?_)
 ·obtain ⟨a,fp,S,d,e,v,u,rfl,_⟩:=h
  rfl
 ·obtain ⟨a,fp,S,d,e,v,u,rfl,vs,hd,he,k1,k2⟩:=h
  refine ⟨_,(zF (z5 (zX C_note_of (hr.mono (by decide)) yF (zA (pv 0) (zA (pv 1) zB))))
   (zG (zO (yI (op_inZ hr.units) (pv 1) (zX C_found_before (hr.mono (by decide)) yF (zA (pv 0) (zA (pv 2) zB))) (by with_unfolding_all rfl))))),?_⟩
  refine ⟨_,rfl,_,rfl,a,fp,S,d,v,rfl,vs.sh,vs.th,hd,fun e1 he1 t ps y ed hd' c hc=>?_,fun z=>k2 (.inl z) H (Same.refl _)⟩
  subst ed
  have hv:v = .str e1.nm:=hd
  subst hv
  have hn:=qC he1 hd'
  refine ⟨_,rfl,_,rfl,_,rfl,a,fp,S,e,u,rfl,vs,he,fun x ed hx fo H1 s1 nfo fn=>?_,fun z H' s'=>k2 (.inr z) H' s'⟩
  obtain ⟨ke,F',hf,df,mF⟩:=fn
  refine ⟨fo,_,rfl,DGet.k (k:=.inr e1.nm) hf,k1 e1.nm x rfl ed hn hx H1 _ s1 ?_⟩
  rw [df.isSome,decide_eq_true_iff]
  exact mF e1.nm
end w_isb
end
end An20
namespace An
open PySem L2
inductive RchN (rows:List (List Nat)) (k:Nat):Nat -> Prop
 | root:RchN rows k k
 | step {i j:Nat} {r:List Nat}:RchN rows k i -> rows[i]? = some r -> j ∈ r -> RchN rows k j
def Down (rows:List (List Nat)):Prop:=∀ (k:Nat) (r:List Nat),rows[k]? = some r -> (∀ j ∈ r,j < k) /\ r.length <= 2 /\ r.Nodup
section
variable {rows:List (List Nat)}
theorem RchN.le (d:Down rows) {k j:Nat} (h:RchN rows k j):j <= k:=by
 induction h with
 | root=>exact Nat.le_refl _
 | step _ hr hj ih=>have:=(d _ _ hr).1 _ hj; omega
theorem RchN.trans {k i j:Nat} (h:RchN rows k i) (h2:RchN rows i j):RchN rows k j:=by
 induction h2 with
 | root=>exact h
 | step _ hr hj ih=>exact .step ih hr hj
theorem rchN_iff {k j:Nat} {r:List Nat} (hr:rows[k]? = some r):RchN rows k j ↔ j = k \/ ∃ p ∈ r,RchN rows p j:=by
 constructor
 ·intro h
  induction h with
  | root=>exact .inl rfl
  | step h1 hr2 hj ih =>
   rcases ih with z | ⟨p,hp,z⟩
   ·subst z
    rw [hr] at hr2
    cases hr2
    exact .inr ⟨_,hj,.root⟩
   ·exact .inr ⟨p,hp,.step z hr2 hj⟩
 ·rintro (z | ⟨p,hp,z⟩)
  ·rw [z]; exact .root
  ·exact (RchN.step .root hr hp).trans z
end
section
variable {S:List En} {root:Str} {rows:List (List Nat)} {ns ws:List Str}
theorem ns_range (ns:List Str):(List.range ns.length).map (fun j=>ns.getD j "") = ns:=by
 apply List.ext_getElem?
 intro i
 rw [List.getElem?_map]
 rcases Nat.lt_or_ge i ns.length with q | q
 ·rw [List.getElem?_range q,List.getElem?_eq_getElem q]
  simp [List.getD_eq_getElem?_getD,List.getElem?_eq_getElem q]
 ·rw [List.getElem?_eq_none (by rw [List.length_range]; exact q),List.getElem?_eq_none q]
  rfl
end
end An
namespace An20
open PySem L2 An
seal L2.PS L2.PSs L2.PE L2.PT L2.PW L2.PA L2.PG L2.PGs L2.PI L2.PFi L2.PC
def spCell (K:PySem.W.Frag):Sp:=fun vs H Q _=>∃ (a:Addr) (ns:List Int) (k:Int),vs = [.ref a,.int k] /\ SqL K H a (ns.map V.int) /\ 0 <= k /\ ∀ i,Q (.int i) H
def spWord (aV z:Addr):Sp:=fun vs H Q _=>vs = [.ref z] /\ H z = some (IsExc z (.ref aV)) /\ ∀ H',Same H H' -> Q (.str "version") H'
def spRefused (P:Program) (w:World) (K:PySem.W.Frag) (C:Addr):Sp:=fun vs H Q _=>∃ (a:Addr) (fp:List Addr) (S:List En) (i:Int) (d e:PyData) (v u:V),vs = [.ref a,.int i,v,u] /\ VShelf P w K C H a fp S /\ Dw K H d v /\ Dw K H e u /\ formD S d "note" = false /\ ∀ H',Same H H' -> Q (.bl true) H'
def spSix (P:Program) (w:World) (K:PySem.W.Frag) (C:Addr):Sp:=fun vs H Q _=>∃ (a:Addr) (fp:List Addr) (S:List En) (d e:PyData) (v u:V),vs = [.ref a,v,u] /\ VShelf P w K C H a fp S /\ Dw K H d v /\ Dw K H e u /\ formD S d "note" = false /\ ∀ H',Same H H' -> Q (.bl true) H'
def spTexts (K:PySem.W.Frag):Sp:=fun vs H Q _=>∃ (l m:Addr) (us:List Str),vs = [.ref l,.ref m] /\ H l = some (.lst (us.map V.str)) /\ SqL K H m (us.map V.str) /\ l ≠ m /\ us.length <= 2000 /\ (∀ x ∈ us,PyData.strOk x = true) /\ ∀ H',Off [l] H H' -> H' l = some (.lst []) -> Q (.bl true) H'
section
variable {P:Program} {w:World} {K:PySem.W.Frag} {mg:Str -> Option Value} {base:Heap} {t1 t2 t3 t4 t5 t6:Tok} {aL aC aN aT aA b1 b2 b3 b4 b5 b6 b7 b8 fP:Addr}
namespace g_cell
abbrev st:Stmt:=top 59
theorem sc:FnScope ["_law_script","_law_k"] ["_law_script","_law_k"] (zC st):=⟨rfl,rfl,rfl,by decide +kernel,rfl,by decide +kernel,by decide +kernel⟩
theorem ok {f:Addr} {fd:FuncData} (F:Fun K "_law_cell_at" "_law_cell_at" st f fd) (T:Txt P w K mg t1 t2 t3 t4 t5 t6 aL aC aN aT aA b1 b2 b3 b4 b5 b6 b7 b8 fP):FnOk P w K mg base CX0 1 f fd ["_law_script","_law_k"] (spCell K):=by
 refine F.ok sc (fun vs H Q E h=>?_) (fun cdv A outer s H vs Q E hr h=>?_)
 ·obtain ⟨a,ns,k,rfl,_⟩:=h
  rfl
 ·obtain ⟨a,ns,k,rfl,hs,h0,q⟩:=h
  refine ⟨_,(zF (yL (zW op_lt (pv 1) (zK z6 (by rfl) T.len PySem.boot_len (zA (pv 0) zB)) (zU _))
    (zG (zO (zS (ix_list:IxR _ (rIxL K)) (pv 0) (pv 1) (fun _ _=>rfl))))
    zV)
   (zG (zO zH))),?_⟩
  refine ⟨_,rfl,_,rfl,a,_,rfl,.inl hs,_,_,rfl,rfl,_,rfl,ite2 (fun h=>?_) (fun h=>?_)⟩
  ·have h1:k < ns.length:=by simpa using h
   obtain ⟨n,_,hn⟩:=at_map (f:=V.int) h0 h1
   exact ⟨_,rfl,_,rfl,a,_,_,_,rfl,rfl,hs,hn,q n⟩
  ·exact q 0
end g_cell
def wordsL:List (Str × Bool):=[("thing",false),("name",false),("files",false),("path",false),("fit",false),("clash",false),("nobranch",false),("branch",false),("version",true),("line",false)]
def wdD (x:Str × Bool):PyData:=.tuple [.str x.1,.bool x.2]
theorem q9 {H:Hp} {p:Addr} (x:Str × Bool):Dt K (upd H p (.tup [.str x.1,.bl x.2])) (wdD x) (.ref p):=⟨p,_,rfl,SqT.of zD,_,_,rfl,rfl,_,_,rfl,rfl,rfl⟩
namespace g_word
abbrev st:Stmt:=top 62
theorem sc:FnScope ["_law_e","_law_some","_law_found"] ["_law_e"] (zC st):=⟨rfl,rfl,rfl,by decide +kernel,rfl,by decide +kernel,by decide +kernel⟩
theorem ok {f:Addr} {fd:FuncData} (F:Fun K "_law_word" "_law_word" st f fd) (T:Txt P w K mg t1 t2 t3 t4 t5 t6 aL aC aN aT aA b1 b2 b3 b4 b5 b6 b7 b8 fP):FnOkE P w K mg base 1 f fd ["_law_e"] (spWord b5):=by
 refine F.okE sc (fun z vs H Q E h=>?_) (fun z cdv A outer s H vs Q E hr hh h=>?_)
 ·obtain ⟨rfl,_⟩:=h
  rfl
 ·obtain ⟨rfl,he,k⟩:=h
  refine ⟨_,(zF (zY (i:=1) sc.nd rfl (Or.inl rfl) (yW (zA (z8 (zA pe_str (zA (zK (yE (K:=K) (C:=aT)) (by rfl) T.isinstance PyProof.Rows.boot_isinstance (zA (pv 0) (zA (yR (v:=.ref aT) rfl T.NoThing rfl) zB))) zB))) (zA (z8 (zA pe_str (zA (zK (yE (K:=K) (C:=aN)) (by rfl) T.isinstance PyProof.Rows.boot_isinstance (zA (pv 0) (zA (yR (v:=.ref aN) rfl T.NoName rfl) zB))) zB))) (zA (z8 (zA pe_str (zA (zK (yE (K:=K) (C:=b2)) (by rfl) T.isinstance PyProof.Rows.boot_isinstance (zA (pv 0) (zA (yR (v:=.ref b2) rfl T.BadFiles rfl) zB))) zB))) zB)))))
   (zF (zY (i:=1) sc.nd rfl (Or.inl rfl) (z9 j4 (pv 1) (yW (zA (z8 (zA pe_str (zA (zK (yE (K:=K) (C:=b1)) (by rfl) T.isinstance PyProof.Rows.boot_isinstance (zA (pv 0) (zA (yR (v:=.ref b1) rfl T.BadPath rfl) zB))) zB))) (zA (z8 (zA pe_str (zA (zK (yE (K:=K) (C:=b3)) (by rfl) T.isinstance PyProof.Rows.boot_isinstance (zA (pv 0) (zA (yR (v:=.ref b3) rfl T.NoFit rfl) zB))) zB))) (zA (z8 (zA pe_str (zA (zK (yE (K:=K) (C:=b4)) (by rfl) T.isinstance PyProof.Rows.boot_isinstance (zA (pv 0) (zA (yR (v:=.ref b4) rfl T.Clash rfl) zB))) zB))) zB))))))
   (zF (zY (i:=1) sc.nd rfl (Or.inl rfl) (z9 j4 (pv 1) (yW (zA (z8 (zA pe_str (zA (zK (yE (K:=K) (C:=b7)) (by rfl) T.isinstance PyProof.Rows.boot_isinstance (zA (pv 0) (zA (yR (v:=.ref b7) rfl T.NoBranch rfl) zB))) zB))) (zA (z8 (zA pe_str (zA (zK (yE (K:=K) (C:=b8)) (by rfl) T.isinstance PyProof.Rows.boot_isinstance (zA (pv 0) (zA (yR (v:=.ref b8) rfl T.BadBranch rfl) zB))) zB))) zB)))))
   (zF (zY (i:=1) sc.nd rfl (Or.inl rfl) (z9 j4 (pv 1) (yW (zA (z8 (zA pe_str (zA (zK (yE (K:=K) (C:=b5)) (by rfl) T.isinstance PyProof.Rows.boot_isinstance (zA (pv 0) (zA (yR (v:=.ref b5) rfl T.NoVersion rfl) zB))) zB))) (zA (z8 (zA pe_str (zA (zK (yE (K:=K) (C:=b6)) (by rfl) T.isinstance PyProof.Rows.boot_isinstance (zA (pv 0) (zA (yR (v:=.ref b6) rfl T.BadLine rfl) zB))) zB))) zB)))))
   (zF (ps_setcH (sc:=zC st) (N:=["_law_e","_law_some","_law_found"]) (N':=["_law_word_here","_law_fits","_law_e"]) (src:=[none,none,some 0]) ⟨by decide +kernel,rfl,rfl,by decide +kernel,by decide +kernel,by decide +kernel,by decide +kernel⟩ rfl rfl hh (pv 1) (fun _ _ _ _=>(pg_tupH (K:=K) (n:=2) hh (qW (zT (i:=0) (show (["_law_word_here","_law_fits","_law_e"]:List Str).Nodup by decide +kernel) rfl (Or.inl rfl)) (qW (zT (i:=1) (show (["_law_word_here","_law_fits","_law_e"]:List Str).Nodup by decide +kernel) rfl (Or.inl rfl)) pgs_nil)))) (fun _ _ _ _=>(pf_one (PW.pt (kN (zQ (K:=K) (pv 1) (fun _=>rfl)) (j0 (zQ (K:=K) (zK (call_isinstET (K:=K) (T:="ValueError")) (by rfl) T.isinstance PyProof.Rows.boot_isinstance (zA (pv 2) (zA (yT (v:=.ty "ValueError") rfl T.ValueError (by decide +kernel) rfl) zB))) (fun _=>rfl))))))) (fun _ _ _ _=>(pv 0)) sc.nd rfl (Or.inl rfl) (k:=2))
   (zF (yL (zW xI (zK z6 (by rfl) T.len PySem.boot_len (zA (pv 2) zB)) zH (zU _))
    (zG (zO (zS (ix_list:IxR _ (rIxL K)) (pv 2) zH (fun _ _=>rfl))))
    zV)
   (zG (zO pe_str)))))))),?_⟩
  refine ⟨_,rfl,z,b5,false,rfl,he,T.ekV,T.kV0,lineN 2,fun p0 n0=>?_⟩
  have s0:=zE (o:=.tup [.str "thing",.bl false]) n0
  refine ⟨_,rfl,z,b5,false,rfl,s0 _ _ he,T.ekV,T.kV1,lineN 2,fun p1 n1=>?_⟩
  have s1:=s0.trans (zE (o:=.tup [.str "name",.bl false]) n1)
  refine ⟨_,rfl,z,b5,false,rfl,s1 _ _ he,T.ekV,T.kV2,lineN 2,fun p2 n2=>⟨lineN 3,fun l0 m0=>?_⟩⟩
  have d0:=q9 (K:=K) (H:=H) (p:=p0) ("thing",false)
  have d1:=q9 (K:=K) (H:=upd H p0 (.tup [.str "thing",.bl false])) (p:=p1) ("name",false)
  have d2:=q9 (K:=K) (H:=upd (upd H p0 (.tup [.str "thing",.bl false])) p1 (.tup [.str "name",.bl false])) (p:=p2) ("files",false)
  have q2:=zE (o:=.tup [.str "files",.bl false]) n2
  have q1:=(zE (o:=.tup [.str "name",.bl false]) n1).trans q2
  have s2:=s1.trans q2
  have v0:=zE (o:=.lst [V.ref p0,.ref p1,.ref p2]) m0
  have DA:DtAll K (upd (upd (upd (upd H p0 (.tup [.str "thing",.bl false])) p1 (.tup [.str "name",.bl false])) p2 (.tup [.str "files",.bl false])) l0 (.lst [V.ref p0,.ref p1,.ref p2])) ((wordsL.take 3).map wdD) [V.ref p0,.ref p1,.ref p2] :=
   ⟨_,_,rfl,Dt.same (q1.trans v0) _ _ d0,_,_,rfl,Dt.same (q2.trans v0) _ _ d1,_,_,rfl,Dt.same v0 _ _ d2,rfl⟩
  have sA:=s2.trans v0
  have lA:upd (upd (upd (upd H p0 (.tup [.str "thing",.bl false])) p1 (.tup [.str "name",.bl false])) p2 (.tup [.str "files",.bl false])) l0 (.lst [V.ref p0,.ref p1,.ref p2]) l0 = some (.lst [V.ref p0,.ref p1,.ref p2]):=zD
  refine kO ?_
  clear d0 d1 d2 q1 q2 s0 s1 s2 v0
  generalize upd (upd (upd (upd H p0 (.tup [.str "thing",.bl false])) p1 (.tup [.str "name",.bl false])) p2 (.tup [.str "files",.bl false])) l0 (.lst [V.ref p0,.ref p1,.ref p2]) = HA at DA sA lA ⊢
  have he:=sA _ _ he
  refine ⟨_,rfl,_,rfl,z,b5,false,rfl,he,T.ekV,T.kV3,lineN 2,fun p3 n3=>?_⟩
  have s0:=zE (o:=.tup [.str "path",.bl false]) n3
  refine ⟨_,rfl,z,b5,false,rfl,s0 _ _ he,T.ekV,T.kV4,lineN 2,fun p4 n4=>?_⟩
  have s1:=s0.trans (zE (o:=.tup [.str "fit",.bl false]) n4)
  refine ⟨_,rfl,z,b5,false,rfl,s1 _ _ he,T.ekV,T.kV5,lineN 2,fun p5 n5=>⟨lineN 3,fun l1 m1=>?_⟩⟩
  have d0:=q9 (K:=K) (H:=HA) (p:=p3) ("path",false)
  have d1:=q9 (K:=K) (H:=upd HA p3 (.tup [.str "path",.bl false])) (p:=p4) ("fit",false)
  have d2:=q9 (K:=K) (H:=upd (upd HA p3 (.tup [.str "path",.bl false])) p4 (.tup [.str "fit",.bl false])) (p:=p5) ("clash",false)
  have q2:=zE (o:=.tup [.str "clash",.bl false]) n5
  have q1:=(zE (o:=.tup [.str "fit",.bl false]) n4).trans q2
  have s2:=s1.trans q2
  have v0:=zE (o:=.lst [V.ref p3,.ref p4,.ref p5]) m1
  refine ⟨l0,l1,_,_,rfl,rfl,(s2.trans v0) _ _ lA,zD,lineN 6,fun l2 m2=>?_⟩
  have w0:=v0.trans (zE (o:=.lst ([V.ref p0,.ref p1,.ref p2] ++ [V.ref p3,.ref p4,.ref p5])) m2)
  have DB:DtAll K (upd (upd (upd (upd (upd HA p3 (.tup [.str "path",.bl false])) p4 (.tup [.str "fit",.bl false])) p5 (.tup [.str "clash",.bl false])) l1 (.lst [V.ref p3,.ref p4,.ref p5])) l2 (.lst ([V.ref p0,.ref p1,.ref p2] ++ [V.ref p3,.ref p4,.ref p5]))) ((wordsL.take 6).map wdD) ([V.ref p0,.ref p1,.ref p2] ++ [V.ref p3,.ref p4,.ref p5]) :=
   DtAll.append (ds:=(wordsL.take 3).map wdD) (es:=[wdD ("path",false),wdD ("fit",false),wdD ("clash",false)]) (DtAll.same (s2.trans w0) _ _ DA) ⟨_,_,rfl,Dt.same (q1.trans w0) _ _ d0,_,_,rfl,Dt.same (q2.trans w0) _ _ d1,_,_,rfl,Dt.same w0 _ _ d2,rfl⟩
  have sB:=(sA.trans s2).trans w0
  have lB:upd (upd (upd (upd (upd HA p3 (.tup [.str "path",.bl false])) p4 (.tup [.str "fit",.bl false])) p5 (.tup [.str "clash",.bl false])) l1 (.lst [V.ref p3,.ref p4,.ref p5])) l2 (.lst ([V.ref p0,.ref p1,.ref p2] ++ [V.ref p3,.ref p4,.ref p5])) l2 = some (.lst ([V.ref p0,.ref p1,.ref p2] ++ [V.ref p3,.ref p4,.ref p5])):=zD
  have he:=(s2.trans w0) _ _ he
  refine kO ?_
  clear d0 d1 d2 q1 q2 s0 s1 s2 v0 w0 DA sA lA
  generalize upd (upd (upd (upd (upd HA p3 (.tup [.str "path",.bl false])) p4 (.tup [.str "fit",.bl false])) p5 (.tup [.str "clash",.bl false])) l1 (.lst [V.ref p3,.ref p4,.ref p5])) l2 (.lst ([V.ref p0,.ref p1,.ref p2] ++ [V.ref p3,.ref p4,.ref p5])) = HB at DB sB lB he ⊢
  generalize [V.ref p0,.ref p1,.ref p2] ++ [V.ref p3,.ref p4,.ref p5] = vB at DB lB ⊢
  have vBl:=DB.length
  refine ⟨_,rfl,_,rfl,z,b5,false,rfl,he,T.ekV,T.kV6,lineN 2,fun p6 n6=>?_⟩
  have s0:=zE (o:=.tup [.str "nobranch",.bl false]) n6
  refine ⟨_,rfl,z,b5,false,rfl,s0 _ _ he,T.ekV,T.kV7,lineN 2,fun p7 n7=>⟨lineN 2,fun l3 m3=>?_⟩⟩
  have d0:=q9 (K:=K) (H:=HB) (p:=p6) ("nobranch",false)
  have d1:=q9 (K:=K) (H:=upd HB p6 (.tup [.str "nobranch",.bl false])) (p:=p7) ("branch",false)
  have q1:=zE (o:=.tup [.str "branch",.bl false]) n7
  have s1:=s0.trans q1
  have v0:=zE (o:=.lst [V.ref p6,.ref p7]) m3
  refine ⟨l2,l3,_,_,rfl,rfl,(s1.trans v0) _ _ lB,zD,le_line (by rw [vBl]; show 6 + 2 <= 16777216; decide),fun l4 m4=>?_⟩
  have w0:=v0.trans (zE (o:=.lst (vB ++ [V.ref p6,.ref p7])) m4)
  have DC:DtAll K (upd (upd (upd (upd HB p6 (.tup [.str "nobranch",.bl false])) p7 (.tup [.str "branch",.bl false])) l3 (.lst [V.ref p6,.ref p7])) l4 (.lst (vB ++ [V.ref p6,.ref p7]))) ((wordsL.take 8).map wdD) (vB ++ [V.ref p6,.ref p7]) :=
   DtAll.append (ds:=(wordsL.take 6).map wdD) (es:=[wdD ("nobranch",false),wdD ("branch",false)]) (DtAll.same (s1.trans w0) _ _ DB) ⟨_,_,rfl,Dt.same (q1.trans w0) _ _ d0,_,_,rfl,Dt.same w0 _ _ d1,rfl⟩
  have sC:=(sB.trans s1).trans w0
  have lC:upd (upd (upd (upd HB p6 (.tup [.str "nobranch",.bl false])) p7 (.tup [.str "branch",.bl false])) l3 (.lst [V.ref p6,.ref p7])) l4 (.lst (vB ++ [V.ref p6,.ref p7])) l4 = some (.lst (vB ++ [V.ref p6,.ref p7])):=zD
  have he:=(s1.trans w0) _ _ he
  refine kO ?_
  clear d0 d1 q1 s0 s1 v0 w0 DB sB lB
  generalize upd (upd (upd (upd HB p6 (.tup [.str "nobranch",.bl false])) p7 (.tup [.str "branch",.bl false])) l3 (.lst [V.ref p6,.ref p7])) l4 (.lst (vB ++ [V.ref p6,.ref p7])) = HC at DC sC lC he ⊢
  generalize vB ++ [V.ref p6,.ref p7] = vC at DC lC ⊢
  have vCl:=DC.length
  refine ⟨_,rfl,_,rfl,z,b5,true,rfl,he,T.ekV,T.kV8,lineN 2,fun p8 n8=>?_⟩
  have s0:=zE (o:=.tup [.str "version",.bl true]) n8
  refine ⟨_,rfl,z,b5,false,rfl,s0 _ _ he,T.ekV,T.kV9,lineN 2,fun p9 n9=>⟨lineN 2,fun l5 m5=>?_⟩⟩
  have d0:=q9 (K:=K) (H:=HC) (p:=p8) ("version",true)
  have d1:=q9 (K:=K) (H:=upd HC p8 (.tup [.str "version",.bl true])) (p:=p9) ("line",false)
  have q1:=zE (o:=.tup [.str "line",.bl false]) n9
  have s1:=s0.trans q1
  have v0:=zE (o:=.lst [V.ref p8,.ref p9]) m5
  refine ⟨l4,l5,_,_,rfl,rfl,(s1.trans v0) _ _ lC,zD,le_line (by rw [vCl]; show 8 + 2 <= 16777216; decide),fun l6 m6=>?_⟩
  have w0:=v0.trans (zE (o:=.lst (vC ++ [V.ref p8,.ref p9])) m6)
  have DD:DtAll K (upd (upd (upd (upd HC p8 (.tup [.str "version",.bl true])) p9 (.tup [.str "line",.bl false])) l5 (.lst [V.ref p8,.ref p9])) l6 (.lst (vC ++ [V.ref p8,.ref p9]))) (wordsL.map wdD) (vC ++ [V.ref p8,.ref p9]) :=
   DtAll.append (ds:=(wordsL.take 8).map wdD) (es:=[wdD ("version",true),wdD ("line",false)]) (DtAll.same (s1.trans w0) _ _ DC) ⟨_,_,rfl,Dt.same (q1.trans w0) _ _ d0,_,_,rfl,Dt.same w0 _ _ d1,rfl⟩
  have sD:=(sC.trans s1).trans w0
  have lD:upd (upd (upd (upd HC p8 (.tup [.str "version",.bl true])) p9 (.tup [.str "line",.bl false])) l5 (.lst [V.ref p8,.ref p9])) l6 (.lst (vC ++ [V.ref p8,.ref p9])) l6 = some (.lst (vC ++ [V.ref p8,.ref p9])):=zD
  have he:=(s1.trans w0) _ _ he
  refine kO ?_
  clear d0 d1 q1 s0 s1 v0 w0 DC sC lC
  generalize upd (upd (upd (upd HC p8 (.tup [.str "version",.bl true])) p9 (.tup [.str "line",.bl false])) l5 (.lst [V.ref p8,.ref p9])) l6 (.lst (vC ++ [V.ref p8,.ref p9])) = HD at DD sD lD he ⊢
  generalize vC ++ [V.ref p8,.ref p9] = vD at DD lD
  have vDl:=DD.length
  have vDl:vD.length = 10:=vDl
  refine ⟨_,rfl,l6,rfl,⟨_,SqL.of lD⟩,comp_listH (K:=K) (a:=l6) (z:=z) (xs:=vD) (fun i ys σ H2=>∃ o1 o2,σ = [o1,o2,some (.ref z)] /\ Same HD H2 /\ ys.length <= i /\ ys = ((wordsL.take i).filter (·.2)).map fun x=>V.str x.1) ⟨none,none,rfl,Same.refl _,Nat.le_refl _,rfl⟩ (le_line (by omega)) ?_ ?_ ?_⟩
  ·rintro i ys σ H2 hi ⟨o1,o2,rfl,e2,yl,_⟩
   exact ⟨SqL.of (e2 _ _ lD),⟨_,e2 _ _ he⟩,yl⟩
  ·rintro i x ys σ H2 hx ⟨o1,o2,rfl,e2,yl,rfl⟩
   obtain ⟨dd,hd1,hd2⟩:=DD.get hx
   rw [List.getElem?_map] at hd1
   obtain ⟨⟨wd,b⟩,hw,ed⟩:=Option.map_eq_some_iff.mp hd1
   subst ed
   obtain ⟨tp,wv,rfl,ht,w0,r0,rfl,q0,w1,r1,rfl,q1,q2⟩:=(show ∃ tp wv,x = .ref tp /\ SqT K HD tp wv /\ DtAll K HD [.str wd,.bool b] wv from hd2)
   have q0:w0 = .str wd:=q0
   have q1:w1 = .bl b:=q1
   have q2:r1 = []:=q2
   subst q0 q1 q2
   have tk:(wordsL.take (i + 1)).filter (·.2) = (wordsL.take i).filter (·.2) ++ (if b = true then [(wd,b)] else []):=by
    rw [List.take_add_one,hw,List.filter_append]
    show _ ++ [(wd,b)].filter _ = _
    rw [List.filter_cons]
    rfl
   refine ⟨tp,_,_,rfl,e2.tupS ht,rfl,e2 _ _ he,_,_,rfl,_,_,rfl,rfl,?_⟩
   cases b with
   | false =>
    refine ⟨_,rfl,_,rfl,iteF (iteF ⟨_,_,rfl,e2,Nat.le_succ_of_le yl,?_⟩)⟩
    rw [tk,if_neg Bool.false_ne_true,List.append_nil]
   | true =>
    refine ⟨_,rfl,_,rfl,iteT ⟨_,rfl,z,b5,true,rfl,e2 _ _ he,T.ekV,T.kVV,_,rfl,iteT ⟨_,rfl,_,_,rfl,e2,?_,?_⟩⟩⟩
    ·rw [List.length_append]; exact Nat.succ_le_succ yl
    ·rw [tk,if_pos rfl,List.map_append]; rfl
  ·rintro ys σ H2 ⟨o1,o2,rfl,e2,yl,rfl⟩ r nr
   rw [vDl]
   have ev:((wordsL.take 10).filter (·.2)).map (fun x=>V.str x.1) = [V.str "version"]:=rfl
   rw [ev]
   have u:=zE (o:=.lst [V.str "version"]) nr
   exact ⟨_,rfl,r,_,rfl,.inl (SqL.of zD),rfl,_,rfl,iteY rfl ⟨_,rfl,r,_,_,_,rfl,rfl,SqL.of zD,rfl,k _ ((sD.trans e2).trans u)⟩⟩
end g_word
namespace g_refused
abbrev st:Stmt:=top 65
theorem sc:FnScope ["_law_store","_law_which","_law_wrong","_law_good","_law_e"] ["_law_store","_law_which","_law_wrong","_law_good"] (zC st):=⟨rfl,rfl,rfl,by decide +kernel,rfl,by decide +kernel,by decide +kernel⟩
theorem ok {f:Addr} {fd:FuncData} (F:Fun K "_law_refused" "_law_refused" st f fd) (T:Txt P w K mg t1 t2 t3 t4 t5 t6 aL aC aN aT aA b1 b2 b3 b4 b5 b6 b7 b8 fP) (C_tree_of:CalX P w K mg base 7 "tree_of" ["store","name"] (spTreeOf P w K aC b5)) (C_parents_of:CalX P w K mg base 7 "parents_of" ["store","name"] (jQ P w K aC b5)) (C_words_of:CalX P w K mg base 7 "words_of" ["store","name"] (spWordsOf P w K aC b5)) (C_all_before:CalX P w K mg base 8 "all_before" ["store","name"] (spAB P w K aC b5)) (C_is_before:CalX P w K mg base 8 "is_before" ["store","one","other"] (spIsB P w K aC b5))
  (C__law_word:CalE P w K mg base 1 "_law_word" ["_law_e"] (spWord b5)):FnOk P w K mg base CX0 10 f fd ["_law_store","_law_which","_law_wrong","_law_good"] (spRefused P w K aC):=by
 refine F.ok sc (fun vs H Q E h=>?_) (fun cdv A outer s H vs Q E hr h=>?_)
 ·obtain ⟨a,fp,S,i,d,e,v,u,rfl,_⟩:=h
  rfl
 ·obtain ⟨a,fp,S,i,d,e,v,u,rfl,vs,hd,he,no,k⟩:=h
  have ab:∀ {x:Str},d = .str x -> notB S x = true -> False:=fun {x} ed hx=>by
   subst ed
   have hx:formD S (.str x) "note" = true:=hx
   rw [hx] at no
   cases no
  refine ⟨_,(zF (ps_tryA rfl rfl rfl (fun _ _=>(zG (yL (zW xI (pv 1) zH (zU _))
     (zG (z5 (zX C_tree_of (hr.mono (by decide)) (xD rfl) (zA (pv 0) (zA (pv 2) zB)))))
     (zG (yL (zW xI (pv 1) zH (zU _))
      (zG (z5 (zX C_parents_of (hr.mono (by decide)) (xD rfl) (zA (pv 0) (zA (pv 2) zB)))))
      (zG (yL (zW xI (pv 1) zH (zU _))
       (zG (z5 (zX C_words_of (hr.mono (by decide)) (xD rfl) (zA (pv 0) (zA (pv 2) zB)))))
       (zG (yL (zW xI (pv 1) zH (zU _))
        (zG (z5 (zX C_all_before (hr.mono (by decide)) (xD rfl) (zA (pv 0) (zA (pv 2) zB)))))
        (zG (yL (zW xI (pv 1) zH (zU _))
         (zG (z5 (zX C_is_before (hr.mono (by decide)) (xD rfl) (zA (pv 0) (zA (pv 2) (zA (pv 3) zB))))))
         (zG (z5 (zX C_is_before (hr.mono (by decide)) (xD rfl) (zA (pv 0) (zA (pv 3) (zA (pv 2) zB))))))))))))))))) rfl T.AnnalsError sc.nd (i:=4) rfl rfl (fun z=>(zG (zO (yI xI (pe_callE (z:=z) C__law_word ((hr.mono (by decide)).h.mark _) rfl (zA (pv 4) zB)) pe_str (zU _))))))
   (zG (zO xO))),?_⟩
  refine ⟨fun σ' H' cls=>Same H H' /\ σ' = [some (.ref a),some (.int i),some v,some u,none] /\ cls = .ref b5,?_,?_⟩
  ·refine ⟨_,rfl,rfl,_,rfl,ite2 (fun c=>?_) (fun c=>?_)⟩
   ·exact ⟨_,rfl,_,rfl,a,fp,S,d,v,rfl,vs.sh,vs.th,hd,fun e he t ps y ed hd'=>(ab ed (qC he hd')).elim,fun _=>⟨Same.refl _,rfl,rfl⟩⟩
   refine ⟨_,rfl,rfl,_,rfl,ite2 (fun c=>?_) (fun c=>?_)⟩
   ·exact ⟨_,rfl,_,rfl,a,fp,S,d,v,rfl,vs.sh,vs.th,hd,fun x ed hx=>(ab ed hx).elim,fun _=>⟨Same.refl _,rfl,rfl⟩⟩
   refine ⟨_,rfl,rfl,_,rfl,ite2 (fun c=>?_) (fun c=>?_)⟩
   ·exact ⟨_,rfl,_,rfl,a,fp,S,d,v,rfl,vs.sh,vs.th,hd,fun e he t ps y ed hd'=>(ab ed (qC he hd')).elim,fun _=>⟨Same.refl _,rfl,rfl⟩⟩
   refine ⟨_,rfl,rfl,_,rfl,ite2 (fun c=>?_) (fun c=>?_)⟩
   ·exact ⟨_,rfl,_,rfl,a,fp,S,d,v,rfl,vs,hd,fun x ed hx=>(ab ed hx).elim,fun _ H' s'=>⟨s',rfl,rfl⟩⟩
   refine ⟨_,rfl,rfl,_,rfl,ite2 (fun c=>?_) (fun c=>?_)⟩
   ·exact ⟨_,rfl,_,rfl,_,rfl,a,fp,S,d,e,v,u,rfl,vs,hd,he,fun x y ed _ hx=>(ab ed hx).elim,fun _ H' s'=>⟨s',rfl,rfl⟩⟩
   ·exact ⟨_,rfl,_,rfl,_,rfl,a,fp,S,e,d,u,v,rfl,vs,he,hd,fun x y _ ed _ hy=>(ab ed hy).elim,fun _ H' s'=>⟨s',rfl,rfl⟩⟩
  ·rintro σ' H' cls z ⟨s',rfl,rfl⟩ nz
   have u:=zE (o:=IsExc z (.ref b5)) nz
   refine ⟨T.exmV,?_⟩
   exact ⟨_,rfl,rfl,zD,fun H3 s3=>⟨rfl,k _ ((s'.trans u).trans s3)⟩⟩
end g_refused
namespace g_six
abbrev st:Stmt:=top 67
theorem sc:FnScope ["_law_shelf_here","_law_wrong","_law_good","_law_which"] ["_law_shelf_here","_law_wrong","_law_good"] (zC st):=⟨rfl,rfl,rfl,by decide +kernel,rfl,by decide +kernel,by decide +kernel⟩
theorem ok {f:Addr} {fd:FuncData} (F:Fun K "_law_six_refused" "_law_six_refused" st f fd) (T:Txt P w K mg t1 t2 t3 t4 t5 t6 aL aC aN aT aA b1 b2 b3 b4 b5 b6 b7 b8 fP) (C__law_refused:Cal P w K mg base 10 "_law_refused" ["_law_store","_law_which","_law_wrong","_law_good"] (spRefused P w K aC)):FnOk P w K mg base CX0 11 f fd ["_law_shelf_here","_law_wrong","_law_good"] (spSix P w K aC):=by
 refine F.ok sc (fun vs H Q E h=>?_) (fun cdv A outer s H vs Q E hr h=>?_)
 ·obtain ⟨a,fp,S,d,e,v,u,rfl,_⟩:=h
  rfl
 ·obtain ⟨a,fp,S,d,e,v,u,rfl,vs,hd,he,no,k⟩:=h
  refine ⟨_,(zF (xN PassesOwn.never rfl (xJ rfl T.range (zA zH zB)) (zT (i:=3) sc.nd rfl (Or.inl rfl))
    (zG (yL (yO (zQ (K:=K) (zM C__law_refused (hr.mono (by decide)) (zA (pv 0) (zA (pv 3) (zA (pv 1) (zA (pv 2) zB))))) (fun _=>rfl)))
     (zG (zO xO))
     zV)))
   (zG (zO xO))),?_⟩
  refine ⟨_,rfl,by decide,by decide,xQ (lo:=0) (n:=6) (fun t σ H2=>∃ o3,σ = [some (.ref a),some v,some u,o3] /\ Same H H2) ⟨none,rfl,Same.refl _⟩ ?_ ?_⟩
  ·rintro t σ H2 ht ⟨o3,rfl,e2⟩
   exact ⟨_,rfl,_,rfl,_,rfl,_,rfl,a,fp,S,_,d,e,v,u,rfl,vs.same e2,Dw.same e2 _ _ hd,Dw.same e2 _ _ he,no,fun H3 e3=>⟨true,rfl,iteNF ⟨_,rfl,e2.trans e3⟩⟩⟩
  ·rintro σ H2 ⟨o3,rfl,e2⟩
   exact k H2 e2
end g_six
namespace g_texts
abbrev st:Stmt:=top 63
theorem sc:FnScope ["_law_found","_law_due","_law_good"] ["_law_found","_law_due"] (zC st):=⟨rfl,rfl,rfl,by decide +kernel,rfl,by decide +kernel,by decide +kernel⟩
theorem ok {f:Addr} {fd:FuncData} (F:Fun K "_law_texts" "_law_texts" st f fd) (T:Txt P w K mg t1 t2 t3 t4 t5 t6 aL aC aN aT aA b1 b2 b3 b4 b5 b6 b7 b8 fP):FnOk P w K mg base CX0 1 f fd ["_law_found","_law_due"] (spTexts K):=by
 refine F.ok sc (fun vs H Q E h=>?_) (fun cdv A outer s H vs Q E hr h=>?_)
 ·obtain ⟨l,m,us,rfl,_⟩:=h
  rfl
 ·obtain ⟨l,m,us,rfl,hl,hm,ne,ul,ok,k⟩:=h
  refine ⟨_,(zF (yL (PW.pt (kR (yO (zQ (K:=K) (zK (zZ (K:=K)) (by rfl) T.isinstance PyProof.Rows.boot_isinstance (zA (pv 0) (zA (yT (v:=.ty "list") rfl T.list PyProof.Rows.boot_list rfl) zB))) (fun _=>rfl))) (kD (yO (zQ (K:=K) (zK (qS rfl) (by rfl) T.all PyProof.Rows.boot_all (zA (xF (sc:=zC st) (N:=["_law_found","_law_due","_law_good"]) (N':=["_law_one"]) (src:=[none]) ⟨by decide +kernel,rfl,rfl,by decide +kernel,by decide +kernel,by decide +kernel,by decide +kernel⟩ rfl rfl rfl (x9 (pv 0)) (fun _ _ _ _=>(zT (i:=0) (show (["_law_one"]:List Str).Nodup by decide +kernel) rfl (Or.inl rfl))) (fun _ _ _ _=>qP) (fun _ _ _ _=>(zK (zZ (K:=K)) (by rfl) T.isinstance PyProof.Rows.boot_isinstance (zA (pv 0) (zA (yT (v:=.ty "str") rfl T.str PyProof.Rows.boot_str rfl) zB))))) zB)) (fun _=>rfl))))))
    (zG (zO xO))
    zV)
   (zF (zY (i:=2) sc.nd rfl (Or.inl rfl) (yI (op_eqD hr.units) (pv 0) (pv 1) (zU _)))
   (zF (z5 (pe_bm0 PySem.F.plainAttrs_list PySem.F.slot_list_clear PySem.F.type_list_clear mt_clear (pv 0)))
   (zG (zO (pv 2)))))),?_⟩
  have kl:PySem.W.kitOne K (.type "list") (.type "list") = some true:=by simpa using T.kit "list" (by simp [kinds]) "list" (by simp [kinds])
  have ks:PySem.W.kitOne K (.type "str") (.type "str") = some true:=by simpa using T.kit "str" (by simp [kinds]) "str" (by simp [kinds])
  have dl:Dw K H (.list (us.map .str)) (.ref l):=⟨l,_,rfl,SqL.of hl,DtAll.dw (DtAll.strs _)⟩
  refine ⟨_,rfl,_,_,.list (us.map .str),true,rfl,dl,kl,_,rfl,iteNF ⟨_,rfl,l,rfl,⟨_,SqL.of hl⟩,qU (K:=K) (a:=l) (xs:=us.map V.str) (fun i ys σ H2=>∃ o,σ = [o] /\ Same H H2 /\ ys.length <= i /\ ys = (List.replicate i true).map V.bl) ⟨none,rfl,Same.refl _,Nat.le_refl _,rfl⟩ (le_line (by rw [List.length_map]; omega)) ?_ ?_ ?_⟩⟩
  ·rintro i ys σ H2 hi ⟨o,rfl,e2,yl,_⟩
   exact ⟨SqL.of (e2 _ _ hl),yl⟩
  ·rintro i x ys σ H2 hx ⟨o,rfl,e2,yl,rfl⟩
   rw [List.getElem?_map] at hx
   obtain ⟨q,hq,ex⟩:=Option.map_eq_some_iff.mp hx
   subst ex
   refine ⟨_,rfl,_,_,.str q,true,rfl,rfl,ks,_,rfl,e2,by rw [List.length_append]; exact Nat.succ_le_succ yl,?_⟩
   rw [List.replicate_succ',List.map_append]; rfl
  ·rintro ys σ H2 ⟨o,rfl,e2,yl,rfl⟩ r nr
   rw [List.length_map]
   have u:=zE (o:=.lst ((List.replicate us.length true).map V.bl)) nr
   have hl2:=u _ _ (e2 _ _ hl)
   have hm2:=u.seq (e2.seq hm)
   have al:(List.replicate us.length true).all id = true:=by rw [List.all_eq_true]; intro b hb; exact (List.mem_replicate.mp hb).2
   refine ⟨r,List.replicate us.length true,rfl,SqL.of zD,true,by rw [al]; rfl,iteNF ⟨_,rfl,_,rfl,.list (us.map .str),.list (us.map .str),⟨l,_,rfl,SqL.of hl2,DtAll.strs _⟩,⟨m,_,rfl,hm2,DtAll.strs _⟩,(yJ ok).1,(yJ ok).1,?_⟩⟩
   have ev:PyData.eqv (.list (us.map .str)) (.list (us.map .str)) = true:=by
    show PyData.eqvAll _ _ = _
    rw [qV,decide_eq_true rfl]
   rw [ev]
   refine ⟨_,rfl,.inl ⟨rfl,_,SqL.of hl2⟩,l,_,rfl,rfl,hl2,_,rfl,k _ (fun b o nb q=>?_) zD⟩
   rw [zI (fun z=>nb (List.mem_singleton.mpr z))]
   exact u _ _ (e2 _ _ q)
end g_texts
end
end An20
namespace An20
open PySem L2 An
seal L2.PS L2.PSs L2.PE L2.PT L2.PW L2.PA L2.PG L2.PGs L2.PI L2.PFi L2.PC
abbrev vI (r:List Nat):List V:=r.map fun n:Nat=>V.int (n:Int)
def RV (H:Hp) (l:Addr) (vs:List V) (rows:List (List Nat)):Prop:=vs.length = rows.length /\ ∀ (i:Nat) (v:V) (r:List Nat),vs[i]? = some v -> rows[i]? = some r -> ∃ q,v = .ref q /\ q ≠ l /\ H q = some (.lst (vI r))
def RL (H:Hp) (l:Addr) (rows:List (List Nat)):Prop:=∃ vs,H l = some (.lst vs) /\ RV H l vs rows
section
variable {H H':Hp} {l q:Addr} {vs:List V} {rows:List (List Nat)} {r:List Nat}
theorem RV.same (h:RV H l vs rows) (e:Same H H'):RV H' l vs rows:=⟨h.1,fun i v r hv hr=>let ⟨q,a,b,c⟩:=h.2 i v r hv hr; ⟨q,a,b,e _ _ c⟩⟩
theorem RL.same (h:RL H l rows) (e:Same H H'):RL H' l rows:=let ⟨vs,a,b⟩:=h; ⟨vs,e _ _ a,b.same e⟩
theorem RV.off {o:HO} (h:RV H l vs rows):RV (upd H l o) l vs rows:=⟨h.1,fun i v r hv hr=>let ⟨q,a,b,c⟩:=h.2 i v r hv hr; ⟨q,a,b,by rw [zI b]; exact c⟩⟩
theorem RV.snoc (h:RV H l vs rows) (ne:q ≠ l) (hq:H q = some (.lst (vI r))):RV H l (vs ++ [.ref q]) (rows ++ [r]):=by
 refine ⟨by rw [List.length_append,List.length_append,h.1]; rfl,fun i v r' hv hr=>?_⟩
 by_cases z:i < vs.length
 ·rw [List.getElem?_append_left z] at hv
  rw [List.getElem?_append_left (by rw [← h.1]; exact z)] at hr
  exact h.2 i v r' hv hr
 ·rw [List.getElem?_append_right (by omega)] at hv
  rw [List.getElem?_append_right (by rw [← h.1]; omega)] at hr
  have hi:i - vs.length = 0:=by
   rcases Nat.eq_zero_or_pos (i - vs.length) with q | q
   ·exact q
   ·rw [List.getElem?_eq_none_iff.mpr (by show 1 <= _; omega)] at hv; cases hv
  rw [hi] at hv
  rw [← h.1,hi] at hr
  cases hv
  cases hr
  exact ⟨q,rfl,ne,hq⟩
theorem down_snoc (d:Down rows) (h1:∀ j ∈ r,j < rows.length) (h2:r.length <= 2) (h3:r.Nodup):Down (rows ++ [r]):=fun k r' hk=>by
 by_cases z:k < rows.length
 ·rw [List.getElem?_append_left z] at hk
  exact d k r' hk
 ·rw [List.getElem?_append_right (by omega)] at hk
  have hk0:k - rows.length = 0:=by
   rcases Nat.eq_zero_or_pos (k - rows.length) with q | q
   ·exact q
   ·rw [List.getElem?_eq_none_iff.mpr (by show 1 <= _; omega)] at hk; cases hk
  have ek:k = rows.length:=by omega
  rw [hk0] at hk
  cases hk
  rw [ek]
  exact ⟨h1,h2,h3⟩
end
def spRowsL (K:PySem.W.Frag):Sp:=fun vs H Q _=>∃ (a:Addr) (ns:List Int) (m:Nat),vs = [.ref a,.int m] /\ SqL K H a (ns.map V.int) /\ m <= 9 /\ ∀ l rows H',Same H H' -> H l = none -> RL H' l rows -> List.length rows = m -> Down rows -> Q (.ref l) H'
section
variable {P:Program} {w:World} {K:PySem.W.Frag} {mg:Str -> Option Value} {base:Heap} {t1 t2 t3 t4 t5 t6:Tok} {aL aC aN aT aA b1 b2 b3 b4 b5 b6 b7 b8 fP:Addr}
theorem ix2 {x y:V} {b:Bool}:atI [x,y] (if b = true then (1:Int) else 0) = some (if b = true then y else x):=by
 cases b <;> rfl
namespace g_rows
abbrev st:Stmt:=top 60
theorem sc:FnScope ["_law_script","_law_many","_law_rows_here","_law_k","_law_cell","_law_kind","_law_parents"] ["_law_script","_law_many"] (zC st):=⟨rfl,rfl,rfl,by decide +kernel,rfl,by decide +kernel,by decide +kernel⟩
theorem ok {f:Addr} {fd:FuncData} (F:Fun K "_law_rows" "_law_rows" st f fd) (T:Txt P w K mg t1 t2 t3 t4 t5 t6 aL aC aN aT aA b1 b2 b3 b4 b5 b6 b7 b8 fP) (C__law_cell_at:Cal P w K mg base 1 "_law_cell_at" ["_law_script","_law_k"] (spCell K)):FnOk P w K mg base CX0 2 f fd ["_law_script","_law_many"] (spRowsL K):=by
 refine F.ok sc (fun vs H Q E h=>?_) (fun cdv A outer s H vs Q E hr h=>?_)
 ·obtain ⟨a,ns,m,rfl,_⟩:=h
  rfl
 ·obtain ⟨a,ns,m,rfl,ha,m9,k⟩:=h
  refine ⟨_,(zF (zY (i:=2) sc.nd rfl (Or.inl rfl) (yW zB))
   (zF (xN PassesOwn.never rfl (xJ rfl T.range (zA (pv 1) zB)) (zT (i:=3) sc.nd rfl (Or.inl rfl))
    (zF (zY (i:=4) sc.nd rfl (Or.inl rfl) (zM C__law_cell_at (hr.mono (by decide)) (zA (pv 0) (zA (z9 q8 zH (pv 3)) zB))))
    (zF (zY (i:=5) sc.nd rfl (Or.inl rfl) (z9 xS (pv 4) zH))
    (zF (zY (i:=6) sc.nd rfl (Or.inl rfl) (yW zB))
    (jW (yL (PW.pt (kN (zW op_gt (pv 3) zH (zU _)) (j0 (zW op_gt (pv 5) zH (zU _)))))
     (zG (zY (i:=6) sc.nd rfl (Or.inl rfl) (yW (zA (zS (ix_list:IxR _ (rIxL K)) (yW (zA (z9 op_sub (pv 3) zH) (zA (z9 xS (z9 qO (pv 4) zH) (pv 3)) zB))) (z7 call_int1 (by rfl) T.int PyProof.Rows.boot_int (zA (yI op_gt (pv 5) zH (zU _)) zB)) (fun _ _=>rfl)) zB))))
     zV)
    (jW (yL (PW.pt (kN (zW op_gt (pv 3) zH (zU _)) (kN (zW op_gt (pv 5) zH (zU _)) (j0 (zW op_ne (z9 xS (z9 qO (pv 4) zH) (pv 3)) (zS (ix_list:IxR _ (rIxL K)) (pv 6) zH (fun _ _=>rfl)) (zU _))))))
     (zG (z5 (kP PySem.F.plainAttrs_list PySem.F.slot_list_append PySem.F.type_list_append xH (pv 6) (zA (z9 xS (z9 qO (pv 4) zH) (pv 3)) zB))))
     zV)
    (zG (z5 (kP PySem.F.plainAttrs_list PySem.F.slot_list_append PySem.F.type_list_append xH (pv 2) (zA (pv 6) zB))))))))))
   (zG (zO (pv 2))))),?_⟩
  refine ⟨Nat.zero_le _,fun l nl=>?_⟩
  have u0:=zE (o:=.lst []) nl
  refine ⟨_,rfl,_,rfl,by omega,by omega,xQ (lo:=0) (n:=((m:Nat):Int).toNat) (fun i σ H2=>∃ o3 o4 o5 o6,σ = [some (.ref a),some (.int m),some (.ref l),o3,o4,o5,o6] /\ Same H H2 /\ ∃ rows,RL H2 l rows /\ rows.length = i /\ Down rows)
   ⟨none,none,none,none,rfl,u0,[],⟨[],zD,rfl,fun i v r hv=>(nomatch hv)⟩,rfl,fun k r hk=>(nomatch hk)⟩ ?_ ?_⟩
  ·rintro i σ H2 hi ⟨o3,o4,o5,o6,rfl,e2,rows,⟨vs,hl2,rv⟩,rl,dn⟩
   have hi:i < m:=by omega
   refine ⟨_,rfl,_,rfl,_,_,rfl,rfl,a,ns,3 + (0 + (i:Int)),rfl,e2.seq ha,by omega,fun c=>?_⟩
   refine ⟨_,rfl,_,_,rfl,rfl,(by decide:(0:Int) < 5),Nat.zero_le _,fun p np=>?_⟩
   have up:=zE (o:=.lst []) np
   have pl:p ≠ l:=Ne.symm (zJ hl2 np)
   have mk:0 < i -> ∀ x:Int,x % (0 + (i:Int)) = ((x % (0 + (i:Int))).toNat:Int) /\ (x % (0 + (i:Int))).toNat < i:=fun i0 x=>by
    have h1:=Int.emod_nonneg x (show 0 + (i:Int) ≠ 0 by omega)
    have h2:=Int.emod_lt_of_pos x (show 0 < 0 + (i:Int) by omega)
    omega
   refine ⟨fun σ' H'=>∃ q r,σ' = [some (.ref a),some (.int m),some (.ref l),some (.int (0 + (i:Int))),some (.int c),some (.int (c % 5)),some (.ref q)] /\ Same H2 H' /\ H2 q = none /\ H' q = some (.lst (vI r)) /\ (r = [] \/ ∃ x,x < i /\ r = [x]) /\ (0 < i -> 2 < c % 5 -> r ≠ []),?_,?_⟩
   ·refine ⟨_,rfl,_,_,rfl,rfl,_,rfl,ite2 (fun c1=>?_) (fun c1=>iteF ⟨p,[],rfl,up,np,zD,.inl rfl,fun z=>absurd (decide_eq_true (show (0:Int) < 0 + (i:Int) by omega)) c1⟩)⟩
    have c1:0 < i:=by have:=of_decide_eq_true c1; omega
    refine ⟨_,rfl,_,_,rfl,rfl,_,rfl,ite2 (fun c2=>?_) (fun c2=>⟨p,[],rfl,up,np,zD,.inl rfl,fun _ z=>absurd (decide_eq_true (show (0:Int) < c % 5 by omega)) c2⟩)⟩
    refine ⟨_,rfl,_,_,rfl,rfl,_,rfl,_,_,rfl,rfl,⟨by decide,by decide⟩,_,rfl,_,_,rfl,rfl,(show (0:Int) < 0 + (i:Int) by omega),lineN 2,fun q1 n1=>?_⟩
    refine ⟨_,rfl,_,_,rfl,rfl,.inr ⟨_,rfl,q1,_,_,_,rfl,rfl,SqL.of zD,ix2,lineN 1,fun q2 n2=>?_⟩⟩
    have e1:=zE (o:=.lst [V.int (0 + (i:Int) - 1),V.int (c / 5 % (0 + (i:Int)))]) n1
    obtain ⟨x,xi,ex⟩:∃ x:Nat,x < i /\ (if decide ((1:Int) < c % 5) = true then V.int (c / 5 % (0 + (i:Int))) else V.int (0 + (i:Int) - 1)) = V.int (x:Int):=by
     split
     ·exact ⟨_,(mk c1 (c / 5)).2,by congr 1; exact (mk c1 (c / 5)).1⟩
     ·exact ⟨i - 1,by omega,by congr 1; omega⟩
    refine ⟨q2,[x],rfl,(up.trans e1).trans (zE n2),(up.trans e1).free n2,?_,.inr ⟨x,xi,rfl⟩,fun _ _ z=>nomatch z⟩
    show upd _ q2 _ q2 = _
    rw [zD]
    congr 3
   ·rintro σ3 H3 ⟨q,r,rfl,e3,nq,hq,hr',hne⟩
    have ql:q ≠ l:=Ne.symm (zJ hl2 nq)
    have hr0:(∀ j ∈ r,j < i) /\ r.length <= 2 /\ r.Nodup:=by
     rcases hr' with z | ⟨x,hx,z⟩
     ·rw [z]; exact ⟨fun j hj=>(nomatch hj),Nat.zero_le _,List.nodup_nil⟩
     ·rw [z]; exact ⟨fun j hj=>by rw [List.mem_singleton.mp hj]; exact hx,by show 1 <= 2; decide,by simp⟩
    refine ⟨fun σ' H'=>∃ r2,σ' = [some (.ref a),some (.int m),some (.ref l),some (.int (0 + (i:Int))),some (.int c),some (.int (c % 5)),some (.ref q)] /\ Same H2 H' /\ H' q = some (.lst (vI r2)) /\ (∀ j ∈ r2,j < i) /\ r2.length <= 2 /\ r2.Nodup,?_,?_⟩
    ·refine ⟨_,rfl,_,_,rfl,rfl,_,rfl,ite2 (fun c1=>?_) (fun c1=>iteF ⟨r,rfl,e3,hq,hr0⟩)⟩
     refine ⟨_,rfl,_,_,rfl,rfl,_,rfl,ite2 (fun c2=>?_) (fun c2=>iteF ⟨r,rfl,e3,hq,hr0⟩)⟩
     have c1:0 < i:=by have:=of_decide_eq_true c1; omega
     have c2:2 < c % 5:=of_decide_eq_true c2
     obtain ⟨x,hx,rfl⟩:∃ x,x < i /\ r = [x]:=hr'.resolve_left (hne c1 c2)
     obtain ⟨mk1,mk2⟩:=mk c1 (c / 60)
     refine ⟨_,rfl,_,_,rfl,rfl,⟨by decide,by decide⟩,_,rfl,_,_,rfl,rfl,(show (0:Int) < 0 + (i:Int) by omega),_,rfl,q,_,_,_,rfl,rfl,SqL.of hq,rfl,rfl,_,rfl,ite2 (fun c3=>?_) (fun c3=>⟨[x],rfl,e3,hq,hr0⟩)⟩
     refine ⟨_,rfl,.inl ⟨rfl,_,SqL.of hq⟩,_,rfl,_,_,rfl,rfl,⟨by decide,by decide⟩,_,rfl,_,_,rfl,rfl,(show (0:Int) < 0 + (i:Int) by omega),q,_,_,rfl,rfl,hq,qG (by show 1 < 16777216; decide),[x,(c / 60 % (0 + (i:Int))).toNat],rfl,An.Same.updF e3 nq,?_,?_,by show 2 <= 2; decide,?_⟩
     ·rw [zD]
      show some (HO.lst [V.int x,V.int (c / 60 % (0 + (i:Int)))]) = some (HO.lst [V.int x,V.int ((c / 60 % (0 + (i:Int))).toNat:Int)])
      rw [← mk1]
     ·intro j hj
      rcases List.mem_cons.mp hj with z | z
      ·rw [z]; exact hx
      ·rw [List.mem_singleton.mp z]; exact mk2
     ·rw [List.nodup_cons]
      refine ⟨fun z=>?_,by simp⟩
      have z:=List.mem_singleton.mp z
      rw [Bool.not_eq_true',decide_eq_false_iff_not] at c3
      refine c3 ?_
      show V.int (c / 60 % (0 + (i:Int))) = V.int x
      rw [mk1,z]
    ·rintro σ4 H4 ⟨r2,rfl,e4,hq4,h21,h22,h23⟩
     refine ⟨_,rfl,.inl ⟨rfl,_,SqL.of (e4 _ _ hl2)⟩,_,rfl,l,_,_,rfl,rfl,e4 _ _ hl2,qG (by have:=rv.1; omega),_,_,_,_,rfl,An.Same.updF (e2.trans e4) nl,rows ++ [r2],⟨_,zD,((rv.same e4).snoc ql hq4).off⟩,by rw [List.length_append,rl]; rfl,down_snoc dn (by rw [rl]; exact h21) h22 h23⟩
  ·rintro σ H3 ⟨o3,o4,o5,o6,rfl,e3,rows,rl,len,dn⟩
   exact ⟨_,rfl,k l rows H3 e3 nl rl (by omega) dn⟩
end g_rows
end
end An20
namespace An20
open PySem L2 An
seal L2.PS L2.PSs L2.PE L2.PT L2.PW L2.PA L2.PG L2.PGs L2.PI L2.PFi L2.PC
theorem putAll_some (k:Key):∀ (more kvs:List (Key × V)),(valV (putAll kvs more) k).isSome = ((valV kvs k).isSome || (valV more k).isSome)
 | [],kvs=>by
  show (valV kvs k).isSome = _
  rw [valV_nil]; simp
 | p :: more,kvs=>by
  show (valV (putAll (putK kvs p.1 p.2) more) k).isSome = _
  rw [putAll_some k more,valV_put]
  by_cases e:k = p.1
  ·rw [if_pos e,yU e.symm]; simp
  ·rw [if_neg e,yV (fun z=>e z.symm)]
def LV (H:Hp) (l:Addr) (vs:List V) (rows:List (List Nat)) (n:Nat):Prop:=vs.length = n /\ ∀ (i:Nat) (v:V),vs[i]? = some v -> ∃ q kvs,v = .ref q /\ q ≠ l /\ H q = some (.dK kvs) /\ kvs.length <= 3 ^ i /\ ∀ j:Nat,((valV kvs (.inl (j:Int))).isSome = true ↔ RchN rows i j)
def LL (H:Hp) (l:Addr) (rows:List (List Nat)) (n:Nat):Prop:=∃ vs,H l = some (.lst vs) /\ LV H l vs rows n
section
variable {H H':Hp} {l q:Addr} {vs:List V} {rows:List (List Nat)} {n:Nat}
theorem LV.same (h:LV H l vs rows n) (e:Same H H'):LV H' l vs rows n:=⟨h.1,fun i v hv=>let ⟨q,kvs,a,b,c,d⟩:=h.2 i v hv; ⟨q,kvs,a,b,e _ _ c,d⟩⟩
theorem LL.same (h:LL H l rows n) (e:Same H H'):LL H' l rows n:=let ⟨vs,a,b⟩:=h; ⟨vs,e _ _ a,b.same e⟩
theorem LV.off {o:HO} (h:LV H l vs rows n):LV (upd H l o) l vs rows n:=⟨h.1,fun i v hv=>let ⟨q,kvs,a,b,c,d⟩:=h.2 i v hv; ⟨q,kvs,a,b,by rw [zI b]; exact c,d⟩⟩
theorem LV.snoc (h:LV H l vs rows n) {kvs:List (Key × V)} (ne:q ≠ l) (hq:H q = some (.dK kvs)) (hl:kvs.length <= 3 ^ n) (hk:∀ j:Nat,((valV kvs (.inl (j:Int))).isSome = true ↔ RchN rows n j)):LV H l (vs ++ [.ref q]) rows (n + 1):=by
 refine ⟨by rw [List.length_append,h.1]; rfl,fun i v hv=>?_⟩
 by_cases z:i < vs.length
 ·rw [List.getElem?_append_left z] at hv
  exact h.2 i v hv
 ·rw [List.getElem?_append_right (by omega)] at hv
  have hi:i - vs.length = 0:=by
   rcases Nat.eq_zero_or_pos (i - vs.length) with q | q
   ·exact q
   ·rw [List.getElem?_eq_none_iff.mpr (by show 1 <= _; omega)] at hv; cases hv
  have ei:i = n:=by have:=h.1; omega
  rw [hi] at hv
  cases hv
  rw [ei]
  exact ⟨q,kvs,rfl,ne,hq,hl,hk⟩
end
def spLies (K:PySem.W.Frag):Sp:=fun vs H Q _=>∃ (a:Addr) (rows:List (List Nat)),vs = [.ref a] /\ RL H a rows /\ Down rows /\ rows.length <= 9 /\ ∀ l H',Same H H' -> H l = none -> LL H' l rows rows.length -> Q (.ref l) H'
section
variable {P:Program} {w:World} {K:PySem.W.Frag} {mg:Str -> Option Value} {base:Heap} {t1 t2 t3 t4 t5 t6:Tok} {aL aC aN aT aA b1 b2 b3 b4 b5 b6 b7 b8 fP:Addr}
namespace g_lies
abbrev st:Stmt:=top 61
theorem sc:FnScope ["_law_rows_here","_law_found","_law_k","_law_met","_law_parent"] ["_law_rows_here"] (zC st):=⟨rfl,rfl,rfl,by decide +kernel,rfl,by decide +kernel,by decide +kernel⟩
theorem ok {f:Addr} {fd:FuncData} (F:Fun K "_law_lies" "_law_lies" st f fd) (T:Txt P w K mg t1 t2 t3 t4 t5 t6 aL aC aN aT aA b1 b2 b3 b4 b5 b6 b7 b8 fP):FnOk P w K mg base CX0 1 f fd ["_law_rows_here"] (spLies K):=by
 refine F.ok sc (fun vs H Q E h=>?_) (fun cdv A outer s H vs Q E hr h=>?_)
 ·obtain ⟨a,rows,rfl,_⟩:=h
  rfl
 ·obtain ⟨a,rows,rfl,⟨va,ha,rv⟩,dn,m9,k⟩:=h
  refine ⟨_,(zF (zY (i:=1) sc.nd rfl (Or.inl rfl) (yW zB))
   (zF (xN PassesOwn.never rfl (xJ rfl T.range (zA (zK z6 (by rfl) T.len PySem.boot_len (zA (pv 0) zB)) zB)) (zT (i:=2) sc.nd rfl (Or.inl rfl))
    (zF (zY (i:=3) sc.nd rfl (Or.inl rfl) (pe_disp (pps_cons (pv 2) xO pps_nil) rfl rfl (by simp) (by decide)))
    (zF (xN PassesOwn.never rfl (x9 (zS (ix_list:IxR _ (rIxL K)) (pv 0) (pv 2) (fun _ _=>rfl))) (zT (i:=4) sc.nd rfl (Or.inl rfl))
     (zG (z5 (pe_dupd (pv 3) (zS (ix_list:IxR _ (rIxL K)) (pv 1) (pv 4) (fun _ _=>rfl)) ⟨rfl,rfl,rfl,rfl⟩))))
    (zG (z5 (kP PySem.F.plainAttrs_list PySem.F.slot_list_append PySem.F.type_list_append xH (pv 1) (zA (pv 3) zB)))))))
   (zG (zO (pv 1))))),?_⟩
  refine ⟨Nat.zero_le _,fun l nl=>?_⟩
  have u0:=zE (o:=.lst []) nl
  refine ⟨_,rfl,a,va,rfl,.inl (SqL.of (u0 _ _ ha)),_,rfl,by omega,by have:=rv.1; omega,xQ (lo:=0) (n:=((va.length:Nat):Int).toNat) (fun i σ H2=>∃ o2 o3 o4,σ = [some (.ref a),some (.ref l),o2,o3,o4] /\ Same H H2 /\ LL H2 l rows i)
   ⟨none,none,none,rfl,u0,[],zD,rfl,fun i v hv=>(nomatch hv)⟩ ?_ ?_⟩
  ·rintro i σ H2 hi ⟨o2,o3,o4,rfl,e2,vs,hl2,lv⟩
   have hi:i < rows.length:=by have:=rv.1; omega
   refine fun p np=>⟨_,rfl,zD,[(.inl (0 + (i:Int)),.bl true)],rfl,by show 1 <= 15; decide,?_⟩
   have eu:upd (upd H2 p (.dK [])) p (.dK (mergeK [] [(.inl (0 + (i:Int)),V.bl true)])) = upd H2 p (.dK [(.inl (i:Int),V.bl true)]):=by
    rw [upd_upd,Int.zero_add]; rfl
   rw [eu]
   have up:=zE (o:=.dK [(.inl (i:Int),V.bl true)]) np
   have pl:p ≠ l:=Ne.symm (zJ hl2 np)
   have hr:rows[i]? = some rows[i]:=List.getElem?_eq_getElem hi
   have hv:va[i]? = some (va[i]'(by rw [rv.1]; exact hi)):=List.getElem?_eq_getElem _
   obtain ⟨q,eq,qa,hq⟩:=rv.2 i _ _ hv hr
   rw [eq] at hv
   obtain ⟨d1,d2,d3⟩:=dn i _ hr
   generalize rows[i] = r at hr hq d1 d2 d3
   have e02:=e2.trans up
   refine ⟨_,rfl,_,rfl,a,va,_,_,rfl,rfl,SqL.of (e02 _ _ ha),(by rw [Int.zero_add]; exact yS hv),q,rfl,⟨_,SqL.of (e02 _ _ hq)⟩,for_list (K:=K) (a:=q) (xs:=vI r) (fun t σ H3=>∃ o4 kvs,σ = [some (.ref a),some (.ref l),some (.int (0 + (i:Int))),some (.ref p),o4] /\ Same H2 H3 /\ H3 p = some (.dK kvs) /\ kvs.length <= 1 + t * 3 ^ (i - 1) /\ ∀ j:Nat,((valV kvs (.inl (j:Int))).isSome = true ↔ j = i \/ ∃ x ∈ r.take t,RchN rows x j))
    ⟨o4,_,rfl,up,zD,by show 1 <= _; omega,fun j=>?_⟩ (fun t σ H3 _ h=>?_) ?_ ?_⟩
   ·by_cases z:j = i
    ·rw [yU (by rw [z])]; simp [z]
    ·rw [yV (by simp; omega),valV_nil]; simp [z]
   ·obtain ⟨_,_,_,e3,_⟩:=h
    exact SqL.of (e3 _ _ (e2 _ _ hq))
   ·rintro t v σ H3 hv ⟨o4,kvs,rfl,e3,hp,hln,hk⟩
    rw [List.getElem?_map] at hv
    obtain ⟨x,hx,rfl⟩:=Option.map_eq_some_iff.mp hv
    have xi:=d1 x (List.mem_of_getElem? hx)
    have hvx:vs[x]? = some (vs[x]'(by rw [lv.1]; exact xi)):=List.getElem?_eq_getElem _
    obtain ⟨q',more,eq',qa',hq',hm,hk'⟩:=lv.2 x _ hvx
    rw [eq'] at hvx
    have pq:p ≠ q':=Ne.symm (zJ hq' np)
    have tl:t < r.length:=(List.getElem?_eq_some_iff.mp hx).1
    have hpw:3 ^ x <= 3 ^ (i - 1):=Nat.pow_le_pow_right (by decide) (by omega)
    have hpi:3 ^ (i - 1) <= 3 ^ 9:=Nat.pow_le_pow_right (by decide) (by omega)
    have htm:t * 3 ^ (i - 1) <= 2 * 3 ^ (i - 1):=Nat.mul_le_mul_right _ (by omega)
    refine ⟨_,rfl,p,rfl,.inl ⟨_,.inl hp⟩,_,rfl,_,rfl,l,vs,_,_,rfl,rfl,SqL.of (e3 _ _ hl2),yS hvx,q',kvs,more,rfl,pq,hp,.inl (e3 _ _ hq'),le_line (by omega),_,_,rfl,An.Same.updF e3 np,zD,?_,fun j=>?_⟩
    ·have:=x4 more kvs
     rw [Nat.succ_mul]
     omega
    ·rw [putAll_some,Bool.or_eq_true,hk,hk',List.take_succ,hx]
     constructor
     ·rintro ((z | ⟨y,hy,z⟩) | z)
      ·exact .inl z
      ·exact .inr ⟨y,List.mem_append_left _ hy,z⟩
      ·exact .inr ⟨x,List.mem_append_right _ (by simp),z⟩
     ·rintro (z | ⟨y,hy,z⟩)
      ·exact .inl (.inl z)
      ·rcases List.mem_append.mp hy with y' | y'
       ·exact .inl (.inr ⟨y,y',z⟩)
       ·have:y = x:=by simpa using y'
        rw [← this]; exact .inr z
   ·rintro σ H3 ⟨o4',kvs,rfl,e3,hp,hln,hk⟩
    have hpw:1 + (vI r).length * 3 ^ (i - 1) <= 3 ^ i:=by
     rw [List.length_map]
     rcases Nat.eq_zero_or_pos i with z | z
     ·have:r = []:=by
       cases r with
       | nil=>rfl
       | cons x r=>have:=d1 x (List.mem_cons_self ..); omega
      rw [this,z]; decide
     ·have e:3 ^ i = 3 * 3 ^ (i - 1):=by
       rw [← Nat.pow_succ']; congr 1; omega
      have h1:1 <= 3 ^ (i - 1):=Nat.pos_of_ne_zero (by simp)
      have htm:r.length * 3 ^ (i - 1) <= 2 * 3 ^ (i - 1):=Nat.mul_le_mul_right _ d2
      omega
    refine ⟨_,rfl,.inl ⟨rfl,_,SqL.of (e3 _ _ hl2)⟩,_,rfl,l,_,_,rfl,rfl,e3 _ _ hl2,qG (by have:=lv.1; omega),_,_,_,rfl,An.Same.updF (e2.trans e3) nl,_,zD,((lv.same e3).snoc pl hp (Nat.le_trans hln hpw) fun j=>?_).off⟩
    rw [hk,rchN_iff hr,List.length_map,List.take_length]
  ·rintro σ H3 ⟨o2,o3,o4,rfl,e3,ll⟩
   have:((va.length:Nat):Int).toNat = rows.length:=by have:=rv.1; omega
   rw [this] at ll
   exact ⟨_,rfl,k l H3 e3 nl ll⟩
end g_lies
end
end An20
namespace An
open PySem L2
structure Sw (S:List En) (pre:List Str) (root:Str) (rows:List (List Nat)) (ns ws:List Str):Prop where
 nm:S.map En.nm = pre ++ ns
 len:ns.length = rows.length
 tree:∃ e ∈ S,e.nm = root /\ e.d = (Th.tree []).dat
 pr:∀ e ∈ S,e.nm ∈ pre -> ∀ t ps y,e.d ≠ (Th.note t ps y).dat
 row:∀ (k:Nat) (r:List Nat),rows[k]? = some r -> ∃ e ∈ S,∃ y,ns[k]? = some e.nm /\ ws[k]? = some y /\ e.d = (Th.note root (r.map fun j=>ns.getD j "") y).dat
 down:Down rows
 nd:(S.map En.nm).Nodup
 th:∀ e ∈ S,isThE e
 num:∀ e ∈ S,e.n < S.length
 ok:∀ e ∈ S,PyData.strOk e.nm = true
 wl:ws.length = rows.length
section
variable {S:List En} {pre:List Str} {root:Str} {rows:List (List Nat)} {ns ws:List Str}
theorem Sw.slen (h:Sw S pre root rows ns ws):S.length = pre.length + rows.length:=by
 have:=congrArg List.length h.nm
 rw [List.length_map,List.length_append,h.len] at this
 exact this
theorem Sw.ent (h:Sw S pre root rows ns ws) {e:En} (he:e ∈ S):e.nm ∈ pre \/ ∃ k:Nat,ns[k]? = some e.nm:=by
 have:e.nm ∈ pre ++ ns:=by rw [← h.nm]; exact List.mem_map.mpr ⟨e,he,rfl⟩
 rcases List.mem_append.mp this with z | z
 ·exact .inl z
 ·exact .inr (List.mem_iff_getElem?.mp z)
theorem Sw.uniq (h:Sw S pre root rows ns ws) {e f:En} (he:e ∈ S) (hf:f ∈ S) (z:e.nm = f.nm):e = f:=by
 have h1:=find_nm h.nd he
 have h2:=find_nm h.nd hf
 rw [z,h2] at h1
 exact (Option.some.inj h1).symm
theorem Sw.par (h:Sw S pre root rows ns ws) {k:Nat} {r:List Nat} (hr:rows[k]? = some r):parS S (ns.getD k "") = r.map fun j=>ns.getD j "":=by
 obtain ⟨e,he,y,hn,_,hd⟩:=h.row k r hr
 have:ns.getD k "" = e.nm:=by rw [List.getD_eq_getElem?_getD,hn]; rfl
 rw [this,par_at h.nd he,hd,jK]
theorem Sw.nnd (h:Sw S pre root rows ns ws):ns.Nodup /\ ∀ p ∈ pre,p ∉ ns:=by
 have:=h.nd
 rw [h.nm,List.nodup_append] at this
 exact ⟨this.2.1,fun p hp hn=>this.2.2 p hp p hn rfl⟩
theorem Sw.inj (h:Sw S pre root rows ns ws) {i j:Nat} (hi:i < rows.length) (hj:j < rows.length) (e:ns.getD i "" = ns.getD j ""):i = j:=by
 have li:i < ns.length:=by rw [h.len]; exact hi
 have lj:j < ns.length:=by rw [h.len]; exact hj
 rw [List.getD_eq_getElem?_getD,List.getD_eq_getElem?_getD,List.getElem?_eq_getElem li,List.getElem?_eq_getElem lj] at e
 exact (List.getElem_inj h.nnd.1).mp e
theorem Sw.noteN (h:Sw S pre root rows ns ws) {k:Nat} (hk:k < rows.length):notB S (ns.getD k "") = true:=by
 obtain ⟨e,he,y,hn,_,hd⟩:=h.row k _ (List.getElem?_eq_getElem hk)
 have:ns.getD k "" = e.nm:=by rw [List.getD_eq_getElem?_getD,hn]; rfl
 rw [this]
 exact qC he hd
theorem Sw.note_of (h:Sw S pre root rows ns ws) {x:Str} (hx:notB S x = true):∃ k,k < rows.length /\ x = ns.getD k "":=by
 obtain ⟨e,he,rfl,t,ps,y,hd⟩:=note_in h.th hx
 rcases h.ent he with z | ⟨k,z⟩
 ·exact absurd hd (h.pr e he z t ps y)
 ·have:=(List.getElem?_eq_some_iff.mp z).1
  exact ⟨k,by rw [← h.len]; exact this,by rw [List.getD_eq_getElem?_getD,z]; rfl⟩
theorem Sw.pre_no (h:Sw S pre root rows ns ws) {x:Str} (hx:x ∈ pre):notB S x = false:=by
 cases q:notB S x with
 | false=>rfl
 | true =>
  obtain ⟨k,hk,e⟩:=h.note_of q
  have:ns.getD k "" ∈ ns:=by
   rw [List.getD_eq_getElem?_getD,List.getElem?_eq_getElem (by rw [h.len]; exact hk)]
   exact List.getElem_mem _
  rw [← e] at this
  exact absurd this (h.nnd.2 x hx)
theorem Sw.vc (h:Sw S pre root rows ns ws):Vc S:=fun x hx p hp=>by
 obtain ⟨k,hk,rfl⟩:=h.note_of hx
 have hr:rows[k]? = some rows[k]:=List.getElem?_eq_getElem hk
 rw [h.par hr] at hp
 obtain ⟨j,hj,rfl⟩:=List.mem_map.mp hp
 have:=(h.down _ _ hr).1 j hj
 exact h.noteN (by omega)
theorem Sw.two (h:Sw S pre root rows ns ws):∀ e ∈ S,∀ t ps y,e.d = (Th.note t ps y).dat -> ps.length <= 2:=fun e he t ps y hd=>by
 obtain ⟨k,hk,ek⟩:=h.note_of (qC he hd)
 have hr:rows[k]? = some rows[k]:=List.getElem?_eq_getElem hk
 have:=h.par hr
 rw [← ek,par_at h.nd he,hd,jK] at this
 rw [this,List.length_map]
 exact (h.down _ _ hr).2.1
theorem Sw.rch (h:Sw S pre root rows ns ws) {k:Nat} (hk:k < rows.length) {v:Str}:Rch (parS S) [ns.getD k ""] v ↔ ∃ j,j < rows.length /\ v = ns.getD j "" /\ RchN rows k j:=by
 constructor
 ·intro z
  induction z with
  | root z=>exact ⟨k,hk,List.mem_singleton.mp z,.root⟩
  | step _ hy ih =>
   obtain ⟨j,hj,rfl,rj⟩:=ih
   have hr:rows[j]? = some rows[j]:=List.getElem?_eq_getElem hj
   rw [h.par hr] at hy
   obtain ⟨i,hi,rfl⟩:=List.mem_map.mp hy
   have:=(h.down _ _ hr).1 i hi
   exact ⟨i,by omega,rfl,.step rj hr hi⟩
 ·rintro ⟨j,hj,rfl,z⟩
  induction z with
  | root=>exact .root (List.mem_singleton.mpr rfl)
  | step h1 hr hj2 ih =>
   have:=(List.getElem?_eq_some_iff.mp hr).1
   exact .step (ih this) (by rw [h.par hr]; exact List.mem_map.mpr ⟨_,hj2,rfl⟩)
theorem Sw.rchN (h:Sw S pre root rows ns ws) {k j:Nat} (hk:k < rows.length) (hj:j < rows.length):Rch (parS S) [ns.getD k ""] (ns.getD j "") ↔ RchN rows k j:=by
 rw [h.rch hk]
 constructor
 ·rintro ⟨i,hi,e,z⟩
  rw [h.inj hj hi e]; exact z
 ·exact fun z=>⟨j,hj,rfl,z⟩
theorem Sw.before (h:Sw S pre root rows ns ws) {k:Nat} (hk:k < rows.length) {F:List Str} (hF:∀ x,x ∈ F ↔ Rch (parS S) [ns.getD k ""] x) {q:Nat -> Bool} (hq:∀ j,q j = true ↔ RchN rows k j) {n:Nat} (hn:k < n) (hnr:n <= rows.length):(S.map En.nm).filter (fun x=>decide (x ∈ F)) = ((List.range n).filter q).map fun j=>ns.getD j "":=by
 have p0:pre.filter (fun x=>decide (x ∈ F)) = []:=by
  rw [List.filter_eq_nil_iff]
  intro x hx z
  obtain ⟨j,hj,e,_⟩:=(h.rch hk).mp ((hF x).mp (of_decide_eq_true z))
  have:ns.getD j "" ∈ ns:=by
   rw [List.getD_eq_getElem?_getD,List.getElem?_eq_getElem (by rw [h.len]; exact hj)]
   exact List.getElem_mem _
  rw [← e] at this
  exact h.nnd.2 x hx this
 rw [h.nm,List.filter_append,p0,List.nil_append]
 have er:ns = (List.range rows.length).map fun j=>ns.getD j "":=by rw [← h.len]; exact (ns_range ns).symm
 conv=>lhs; rw [er]
 rw [List.filter_map]
 congr 1
 have es:List.range rows.length = List.range n ++ (List.range (rows.length - n)).map (n + ·):=by
  rw [← List.range_add]; congr 1; omega
 rw [es,List.filter_append]
 have key:∀ j,j < rows.length -> (((fun x=>decide (x ∈ F)) ∘ fun j=>ns.getD j "") j = true ↔ RchN rows k j):=fun j hj=>by
  show decide (ns.getD j "" ∈ F) = true ↔ _
  rw [decide_eq_true_iff,hF,h.rchN hk hj]
 have e2:((List.range (rows.length - n)).map (n + ·)).filter ((fun x=>decide (x ∈ F)) ∘ fun j=>ns.getD j "") = []:=by
  rw [List.filter_eq_nil_iff]
  intro j hj z
  obtain ⟨d,hd,rfl⟩:=List.mem_map.mp hj
  have hd:=List.mem_range.mp hd
  have:=((key (n + d) (by omega)).mp z).le h.down
  omega
 rw [e2,List.append_nil]
 refine List.filter_congr fun j hj=>?_
 have hj:=List.mem_range.mp hj
 rw [Bool.eq_iff_iff,hq j]
 exact key j (by omega)
theorem Sw.snoc (h:Sw S pre root rows ns ws) {r:List Nat} {y:Str} (hr:∀ j ∈ r,j < rows.length) (h2:r.length <= 2) (hnd:r.Nodup) {t:Th} (et:t = .note root (r.map fun j=>ns.getD j "") y) (gt:t.Good) (g:GoodS (S ++ [entT S t])) :
  Sw (S ++ [entT S t]) pre root (rows ++ [r]) (ns ++ [(entT S t).nm]) (ws ++ [y]):=by
 have gd:∀ {k:Nat},k < ns.length -> (ns ++ [(entT S t).nm]).getD k "" = ns.getD k "":=fun {k} hk=>by
  rw [List.getD_eq_getElem?_getD,List.getD_eq_getElem?_getD,List.getElem?_append_left hk]
 have nl:=next_le h.num (headT t)
 refine ⟨by rw [List.map_append,h.nm,List.append_assoc]; rfl,by rw [List.length_append,List.length_append,h.len]; rfl,?_,fun e he hp=>?_,fun k r' hk=>?_,fun k r' hk=>?_,g.nn,fun e he=>?_,fun e he=>?_,fun e he=>?_,by rw [List.length_append,List.length_append,h.wl]; rfl⟩
 ·obtain ⟨e,he,h1,h3⟩:=h.tree
  exact ⟨e,List.mem_append_left _ he,h1,h3⟩
 ·rcases List.mem_append.mp he with z | z
  ·exact h.pr e z hp
  ·rw [List.mem_singleton.mp z] at hp
   have:=g.nn
   rw [List.map_append,h.nm,List.nodup_append] at this
   exact absurd rfl (this.2.2 _ (List.mem_append_left _ hp) _ (List.mem_singleton.mpr rfl))
 ·by_cases z:k < rows.length
  ·rw [List.getElem?_append_left z] at hk
   obtain ⟨e,he,y',hn,hw,hd⟩:=h.row k r' hk
   refine ⟨e,List.mem_append_left _ he,y',by rw [List.getElem?_append_left (by rw [h.len]; exact z)]; exact hn,by rw [List.getElem?_append_left (by rw [h.wl]; exact z)]; exact hw,?_⟩
   rw [hd]
   have:(r'.map fun j=>ns.getD j "") = r'.map fun j=>(ns ++ [(entT S t).nm]).getD j "":=List.map_congr_left fun j hj=>(gd (by have:=(h.down _ _ hk).1 j hj; rw [h.len]; omega)).symm
   rw [this]
  ·rw [List.getElem?_append_right (by omega)] at hk
   have hk0:k - rows.length = 0:=by
    rcases Nat.eq_zero_or_pos (k - rows.length) with q | q
    ·exact q
    ·rw [List.getElem?_eq_none_iff.mpr (by show 1 <= _; omega)] at hk; cases hk
   have ek:k = rows.length:=by omega
   rw [hk0] at hk
   cases hk
   refine ⟨entT S t,List.mem_append_right _ (List.mem_singleton.mpr rfl),y,?_,?_,?_⟩
   ·rw [ek,← h.len,List.getElem?_append_right (Nat.le_refl _),Nat.sub_self]; rfl
   ·rw [ek,← h.wl,List.getElem?_append_right (Nat.le_refl _),Nat.sub_self]; rfl
   ·show t.dat = _
    have:(r.map fun j=>ns.getD j "") = r.map fun j=>(ns ++ [(entT S t).nm]).getD j "":=List.map_congr_left fun j hj=>(gd (by rw [h.len]; exact hr j hj)).symm
    rw [← this,← et]
 ·by_cases z:k < rows.length
  ·rw [List.getElem?_append_left z] at hk
   exact h.down k r' hk
  ·rw [List.getElem?_append_right (by omega)] at hk
   have hk0:k - rows.length = 0:=by
    rcases Nat.eq_zero_or_pos (k - rows.length) with q | q
    ·exact q
    ·rw [List.getElem?_eq_none_iff.mpr (by show 1 <= _; omega)] at hk; cases hk
   have ek:k = rows.length:=by omega
   rw [hk0] at hk
   cases hk
   rw [ek]
   exact ⟨hr,h2,hnd⟩
 ·rcases List.mem_append.mp he with z | z
  ·exact h.th e z
  ·rw [List.mem_singleton.mp z]; exact ⟨t,rfl,gt,rfl⟩
 ·rw [List.length_append,List.length_singleton]
  rcases List.mem_append.mp he with z | z
  ·have:=h.num e z; omega
  ·rw [List.mem_singleton.mp z]
   show (nextOf S (headT t)).getD 0 < _
   omega
 ·rcases List.mem_append.mp he with z | z
  ·exact h.ok e z
  ·rw [List.mem_singleton.mp z]; exact entT_ok S t
end
end An
namespace An20
open PySem L2 An
seal L2.PS L2.PSs L2.PE L2.PT L2.PW L2.PA L2.PG L2.PGs L2.PI L2.PFi L2.PC
noncomputable def rB (rows:List (List Nat)) (i j:Nat):Bool:=@decide (RchN rows i j) (Classical.propDecidable _)
theorem rB_iff {rows:List (List Nat)} {i j:Nat}:rB rows i j = true ↔ RchN rows i j:=by
 unfold rB
 exact @decide_eq_true_iff _ (Classical.propDecidable _)
theorem LL.get {H:Hp} {l:Addr} {rows:List (List Nat)} {n x:Nat} (h:LL H l rows n) (hx:x < n):∃ vs q kvs,H l = some (.lst vs) /\ atI vs (x:Int) = some (.ref q) /\ H q = some (.dK kvs) /\ ∀ j:Nat,(valV kvs (.inl (j:Int))).isSome = rB rows x j:=by
 obtain ⟨vs,hl,lv⟩:=h
 have hv:vs[x]? = some (vs[x]'(by rw [lv.1]; exact hx)):=List.getElem?_eq_getElem _
 obtain ⟨q,kvs,e,_,hq,_,hk⟩:=lv.2 x _ hv
 rw [e] at hv
 exact ⟨vs,q,kvs,hl,yS hv,hq,fun j=>by rw [Bool.eq_iff_iff,hk j,rB_iff]⟩
theorem filter_snoc {B:Nat -> Bool} {l:List Nat} {x:Nat}:(l ++ [x]).filter B = if B x = true then l.filter B ++ [x] else l.filter B:=by
 rw [List.filter_append]
 by_cases z:B x = true
 ·rw [if_pos z,List.filter_cons,if_pos z]; rfl
 ·rw [if_neg z,List.filter_cons,if_neg z]; simp
theorem xA {nms:List Str} {k:Nat} (hk:k < nms.length):atI (nms.map V.str) (k:Int) = some (.str (nms.getD k "")):=by
 refine yS ?_
 rw [List.getElem?_map,List.getD_eq_getElem?_getD,List.getElem?_eq_getElem hk]
 rfl
theorem sw_vs {P:Program} {w:World} {K:PySem.W.Frag} {C:Addr} {H:Hp} {a:Addr} {fp:List Addr} {S:List En} {pre:List Str} {root:Str} {rows:List (List Nat)} {ns ws:List Str} (sw:Sw S pre root rows ns ws) (sh:ShAt P w K C H a fp S):VShelf P w K C H a fp S:=⟨sh,sw.th,sw.two,sw.vc⟩
theorem sw_str {S:List En} {pre:List Str} {root:Str} {rows:List (List Nat)} {ns ws:List Str} (sw:Sw S pre root rows ns ws) {k:Nat} (hk:k < rows.length):PyData.strOk (ns.getD k "") = true:=by
 obtain ⟨e,he,y,hn,_⟩:=sw.row k _ (List.getElem?_eq_getElem hk)
 have:ns.getD k "" = e.nm:=by rw [List.getD_eq_getElem?_getD,hn]; rfl
 rw [this]
 exact sw.ok e he
def spBefore (P:Program) (w:World) (K:PySem.W.Frag) (C:Addr):Sp:=fun vs H Q _=>∃ (a nl L:Addr) (fp:List Addr) (S:List En) (pre:List Str) (root:Str) (rowsS rows:List (List Nat)) (ns ws:List Str) (n k:Nat),vs = [.ref a,.ref nl,.ref L,.int k] /\ ShAt P w K C H a fp S /\ Sw S pre root rowsS ns ws /\
 H nl = some (.lst (ns.map V.str)) /\ LL H L rows n /\ n <= 9 /\ k < n /\ k < rowsS.length /\ (∀ j,RchN rowsS k j ↔ RchN rows k j) /\ ∀ H',Same H H' -> Q (.bl true) H'
section
variable {P:Program} {w:World} {K:PySem.W.Frag} {mg:Str -> Option Value} {base:Heap} {t1 t2 t3 t4 t5 t6:Tok} {aL aC aN aT aA b1 b2 b3 b4 b5 b6 b7 b8 fP:Addr}
namespace g_before
abbrev st:Stmt:=top 64
theorem sc:FnScope ["_law_store","_law_names","_law_lies_here","_law_k"] ["_law_store","_law_names","_law_lies_here","_law_k"] (zC st):=⟨rfl,rfl,rfl,by decide +kernel,rfl,by decide +kernel,by decide +kernel⟩
theorem ok {f:Addr} {fd:FuncData} (F:Fun K "_law_before_good" "_law_before_good" st f fd) (T:Txt P w K mg t1 t2 t3 t4 t5 t6 aL aC aN aT aA b1 b2 b3 b4 b5 b6 b7 b8 fP) (C_all_before:CalX P w K mg base 8 "all_before" ["store","name"] (spAB P w K aC b5)) (C__law_texts:Cal P w K mg base 1 "_law_texts" ["_law_found","_law_due"] (spTexts K)):FnOk P w K mg base CX0 9 f fd ["_law_store","_law_names","_law_lies_here","_law_k"] (spBefore P w K aC):=by
 refine F.ok sc (fun vs H Q E h=>?_) (fun cdv A outer s H vs Q E hr h=>?_)
 ·obtain ⟨a,nl,L,fp,S,pre,root,rowsS,rows,ns,ws,n,k,rfl,_⟩:=h
  rfl
 ·obtain ⟨a,nl,L,fp,S,pre,root,rowsS,rows,ns,ws,n,k,rfl,sh,sw,hnl,hL,n9,kn,kS,rr,kQ⟩:=h
  have nsl:ns.length = rowsS.length:=sw.len
  have nk:=sw.noteN kS
  refine ⟨_,(zG (zO (zM C__law_texts (hr.mono (by decide)) (zA (zX C_all_before (hr.mono (by decide)) zP (zA (pv 0) (zA (zS (ix_list:IxR _ (rIxL K)) (pv 1) (pv 3) (fun _ _=>rfl)) zB))) (zA (xF (sc:=zC st) (N:=["_law_store","_law_names","_law_lies_here","_law_k"]) (N':=["_law_j","_law_names","_law_lies_here","_law_k"]) (src:=[none,some 1,some 2,some 3]) ⟨by decide +kernel,rfl,rfl,by decide +kernel,by decide +kernel,by decide +kernel,by decide +kernel⟩ rfl rfl rfl (xJ rfl T.range (zA (z9 q8 (pv 3) zH) zB)) (fun _ _ _ _=>(zT (i:=0) (show (["_law_j","_law_names","_law_lies_here","_law_k"]:List Str).Nodup by decide +kernel) rfl (Or.inl rfl))) (fun _ _ _ _=>(pf_one (zW (op_inZ hr.units) (pv 0) (zS (ix_list:IxR _ (rIxL K)) (pv 2) (pv 3) (fun _ _=>rfl)) (by with_unfolding_all rfl)))) (fun _ _ _ _=>(zS (ix_list:IxR _ (rIxL K)) (pv 1) (pv 0) (fun _ _=>rfl)))) zB))))),?_⟩
  refine ⟨_,rfl,_,rfl,_,rfl,nl,_,_,_,rfl,rfl,SqL.of hnl,xA (by omega),a,fp,S,.str (ns.getD k ""),_,rfl,sw_vs sw sh,rfl,fun x ex hx l H1 F' e1 nl1 mF hl=>?_,fun no=>?_⟩
  rotate_left
  ·rw [show formD S (.str (ns.getD k "")) "note" = true from nk] at no
   cases no
  cases ex
  rw [sw.before kS mF (q:=rB rows k) (fun j=>rB_iff.trans (rr j).symm) (Nat.lt_succ_self k) kS] at hl
  obtain ⟨vb,qy,ky,hb,hvy,hqy,hky⟩:=(hL.same e1).get kn
  have hn1:=e1 _ _ hnl
  refine ⟨_,rfl,_,_,rfl,rfl,_,rfl,by omega,by omega,comp_range (lo:=0) (n:=((k:Nat) + 1:Int).toNat) (fun t ys σ H5=>∃ o,σ = [o,some (.ref nl),some (.ref L),some (.int k)] /\ H5 = H1 /\ ys = (((List.range t).filter (rB rows k)).map fun j=>ns.getD j "").map V.str) ⟨none,rfl,rfl,rfl⟩ (le_line (by omega)) ?_ ?_ ?_⟩
  ·rintro t ys σ H5 ht ⟨o,rfl,rfl,rfl⟩
   rw [List.length_map,List.length_map]
   have:=List.length_filter_le (rB rows k) (List.range t)
   rw [List.length_range] at this
   exact this
  ·rintro t ys σ H5 ht ⟨o,rfl,rfl,rfl⟩
   have et:(0:Int) + (t:Int) = (t:Int):=by omega
   rw [et]
   have ef:=filter_snoc (B:=rB rows k) (l:=List.range t) (x:=t)
   rw [← List.range_succ] at ef
   refine ⟨_,rfl,_,rfl,_,rfl,L,vb,_,_,rfl,rfl,SqL.of hb,hvy,qy,_,rfl,DGet.k (k:=.inl (t:Int)) hqy,_,rfl,?_⟩
   rw [hky]
   refine ite2 (fun c=>⟨_,rfl,_,rfl,nl,_,_,_,rfl,rfl,SqL.of hn1,xA (by omega),_,rfl,rfl,?_⟩) (fun c=>⟨_,rfl,rfl,?_⟩)
   ·rw [ef,if_pos c,List.map_append,List.map_append]; rfl
   ·rw [ef,if_neg c]
  ·rintro ys σ H5 ⟨o,rfl,rfl,rfl⟩ du ndu
   have ek:((k:Nat) + 1:Int).toNat = k + 1:=by omega
   rw [ek]
   have ud:=zE (o:=.lst ((((List.range (k + 1)).filter (rB rows k)).map fun j=>ns.getD j "").map V.str)) ndu
   have ne:l ≠ du:=zJ hl ndu
   have ll:(((List.range (k + 1)).filter (rB rows k)).map fun j=>ns.getD j "").length <= 2000:=by
    rw [List.length_map]
    have:=List.length_filter_le (rB rows k) (List.range (k + 1))
    rw [List.length_range] at this
    omega
   refine ⟨l,du,_,rfl,ud _ _ hl,SqL.of zD,ne,ll,fun x hx=>?_,fun H6 o6 h6=>kQ H6 fun b o hb'=>o6 _ _ (fun z=>zJ hb' nl1 (List.mem_singleton.mp z)) (ud _ _ (e1 _ _ hb'))⟩
   obtain ⟨j,hj,rfl⟩:=List.mem_map.mp hx
   have:=List.mem_range.mp (List.mem_filter.mp hj).1
   exact sw_str sw (by omega)
end g_before
end
end An20
namespace An20
open PySem L2 An
seal L2.PS L2.PSs L2.PE L2.PT L2.PW L2.PA L2.PG L2.PGs L2.PI L2.PFi L2.PC
def vW (k:Nat):Str:="v" ++ (toString ((k:Nat):Int):Str)
theorem vw_len:∀ k:Fin 9,("v":Str).length + (toString ((k.val:Nat):Int):Str).length <= 100:=by decide +kernel
def spPartG (P:Program) (w:World) (K:PySem.W.Frag) (C:Addr):Sp:=fun vs H Q _=>∃ (a nl rl:Addr) (fp:List Addr) (S:List En) (pre:List Str) (root:Str) (rowsS rows:List (List Nat)) (ns ws:List Str) (k:Nat) (r:List Nat),vs = [.ref a,.ref nl,.ref rl,.int k,.str root] /\ ShAt P w K C H a fp S /\ Sw S pre root rowsS ns ws /\
 H nl = some (.lst (ns.map V.str)) /\ RL H rl rows /\ rowsS[k]? = some r /\ rows[k]? = some r /\ ws[k]? = some (vW k) /\ k < 9 /\ ∀ H',Same H H' -> Q (.bl true) H'
def spOnes (P:Program) (w:World) (K:PySem.W.Frag) (C:Addr):Sp:=fun vs H Q _=>∃ (a nl L t:Addr) (fp:List Addr) (S:List En) (pre:List Str) (root:Str) (rows:List (List Nat)) (ns ws:List Str) (n k:Nat) (os:List Nat),vs = [.ref a,.ref nl,.ref L,.int k,.ref t] /\ ShAt P w K C H a fp S /\ Sw S pre root rows ns ws /\
 H nl = some (.lst (ns.map V.str)) /\ LL H L rows n /\ n = rows.length /\ k < n /\ H t = some (.tup (vI os)) /\ (∀ o ∈ os,o < n) /\ ∀ H',Same H H' -> Q (.bl true) H'
section
variable {P:Program} {w:World} {K:PySem.W.Frag} {mg:Str -> Option Value} {base:Heap} {t1 t2 t3 t4 t5 t6:Tok} {aL aC aN aT aA b1 b2 b3 b4 b5 b6 b7 b8 fP:Addr}
theorem sw_at {S:List En} {pre:List Str} {root:Str} {rows:List (List Nat)} {ns ws:List Str} (sw:Sw S pre root rows ns ws) {k:Nat} {r:List Nat} {y:Str} (hr:rows[k]? = some r) (hw:ws[k]? = some y) {e:En} (he:e ∈ S) {t:Str} {ps:List Str} {z:Str} (en:PyData.str (ns.getD k "") = .str e.nm) (ed:e.d = (Th.note t ps z).dat):t = root /\ z = y:=by
 obtain ⟨f,hf,y',fn,fw,fd⟩:=sw.row k r hr
 rw [hw] at fw
 cases fw
 have en:ns.getD k "" = e.nm:=by injection en
 have fnm:ns.getD k "" = f.nm:=by rw [List.getD_eq_getElem?_getD,fn]; rfl
 have:=sw.uniq he hf (en.symm.trans fnm)
 subst this
 rw [ed] at fd
 have:=xL fd
 injection this with h1 h2 h3
 exact ⟨h1,h3⟩
namespace g_parts
abbrev st:Stmt:=top 66
theorem sc:FnScope ["_law_store","_law_names","_law_rows_here","_law_k","_law_root","_law_words"] ["_law_store","_law_names","_law_rows_here","_law_k","_law_root"] (zC st):=⟨rfl,rfl,rfl,by decide +kernel,rfl,by decide +kernel,by decide +kernel⟩
theorem ok {f:Addr} {fd:FuncData} (F:Fun K "_law_parts_good" "_law_parts_good" st f fd) (T:Txt P w K mg t1 t2 t3 t4 t5 t6 aL aC aN aT aA b1 b2 b3 b4 b5 b6 b7 b8 fP) (C_parents_of:CalX P w K mg base 7 "parents_of" ["store","name"] (jQ P w K aC b5)) (C__law_texts:Cal P w K mg base 1 "_law_texts" ["_law_found","_law_due"] (spTexts K)) (C_words_of:CalX P w K mg base 7 "words_of" ["store","name"] (spWordsOf P w K aC b5)) (C_tree_of:CalX P w K mg base 7 "tree_of" ["store","name"] (spTreeOf P w K aC b5)):FnOk P w K mg base CX0 8 f fd ["_law_store","_law_names","_law_rows_here","_law_k","_law_root"] (spPartG P w K aC):=by
 refine F.ok sc (fun vs H Q E h=>?_) (fun cdv A outer s H vs Q E hr h=>?_)
 ·obtain ⟨a,nl,rl,fp,S,pre,root,rowsS,rows,ns,ws,k,r,rfl,_⟩:=h
  rfl
 ·obtain ⟨a,nl,rl,fp,S,pre,root,rowsS,rows,ns,ws,k,r,rfl,sh,sw,hnl,⟨vrl,hvrl,rvr⟩,hrS,hrr,hw,k9,kQ⟩:=h
  have kS:=(List.getElem?_eq_some_iff.mp hrS).1
  have nsl:ns.length = rowsS.length:=sw.len
  have nk:=sw.noteN kS
  have fk:formD S (.str (ns.getD k "")) "note" = true:=nk
  have ks:PySem.W.kitOne K (.type "str") (.type "str") = some true:=by simpa using T.kit "str" (by simp [kinds]) "str" (by simp [kinds])
  obtain ⟨d1,d2,d3⟩:=sw.down k r hrS
  have hv0:vrl[k]? = some (vrl[k]'(by rw [rvr.1]; exact (List.getElem?_eq_some_iff.mp hrr).1)):=List.getElem?_eq_getElem _
  obtain ⟨q,eq,_,hq⟩:=rvr.2 k _ _ hv0 hrr
  rw [eq] at hv0
  refine ⟨_,(zF (yL (yO (zQ (K:=K) (zM C__law_texts (hr.mono (by decide)) (zA (zX C_parents_of (hr.mono (by decide)) zP (zA (pv 0) (zA (zS (ix_list:IxR _ (rIxL K)) (pv 1) (pv 3) (fun _ _=>rfl)) zB))) (zA (xF (sc:=zC st) (N:=["_law_store","_law_names","_law_rows_here","_law_k","_law_root","_law_words"]) (N':=["_law_one","_law_names"]) (src:=[none,some 1]) ⟨by decide +kernel,rfl,rfl,by decide +kernel,by decide +kernel,by decide +kernel,by decide +kernel⟩ rfl rfl rfl (x9 (zS (ix_list:IxR _ (rIxL K)) (pv 2) (pv 3) (fun _ _=>rfl))) (fun _ _ _ _=>(zT (i:=0) (show (["_law_one","_law_names"]:List Str).Nodup by decide +kernel) rfl (Or.inl rfl))) (fun _ _ _ _=>qP) (fun _ _ _ _=>(zS (ix_list:IxR _ (rIxL K)) (pv 1) (pv 0) (fun _ _=>rfl)))) zB))) (fun _=>rfl)))
    (zG (zO xO))
    zV)
   (zF (zY (i:=5) sc.nd rfl (Or.inl rfl) (zX C_words_of (hr.mono (by decide)) zP (zA (pv 0) (zA (zS (ix_list:IxR _ (rIxL K)) (pv 1) (pv 3) (fun _ _=>rfl)) zB))))
   (zG (zO (yX (zK (kA (K:=K)) (by rfl) T.isinstance PyProof.Rows.boot_isinstance (zA (pv 5) (zA (yT (v:=.ty "str") rfl T.str PyProof.Rows.boot_str rfl) zB))) (yX (yI xI (pv 5) (z9 y8 pe_str (z7 y7 (by rfl) T.str PyProof.Rows.boot_str (zA (pv 3) zB))) (zU _)) (xT (yI xI (zX C_tree_of (hr.mono (by decide)) zP (zA (pv 0) (zA (zS (ix_list:IxR _ (rIxL K)) (pv 1) (pv 3) (fun _ _=>rfl)) zB))) (pv 4) (zU _))))))))),?_⟩
  refine ⟨_,rfl,_,rfl,_,rfl,nl,_,_,_,rfl,rfl,SqL.of hnl,xA (by omega),a,fp,S,.str (ns.getD k ""),_,rfl,sh,sw.th,rfl,fun x ex hx l nl1=>?_,fun no=>?_⟩
  rotate_left
  ·rw [fk] at no
   cases no
  cases ex
  rw [sw.par hrS]
  have u1:=zE (o:=.lst ((r.map fun j=>ns.getD j "").map V.str)) nl1
  have hl:upd H l (.lst ((r.map fun j=>ns.getD j "").map V.str)) l = some (.lst ((r.map fun j=>ns.getD j "").map V.str)):=zD
  generalize upd H l (.lst ((r.map fun j=>ns.getD j "").map V.str)) = H1 at u1 hl ⊢
  refine ⟨_,rfl,_,rfl,rl,vrl,_,_,rfl,rfl,SqL.of (u1 _ _ hvrl),yS hv0,q,rfl,⟨_,SqL.of (u1 _ _ hq)⟩,qU (K:=K) (a:=q) (xs:=vI r) (fun u ys σ H5=>∃ o,σ = [o,some (.ref nl)] /\ H5 = H1 /\ ys = ((r.take u).map fun j=>ns.getD j "").map V.str) ⟨none,rfl,rfl,rfl⟩ (le_line (by rw [List.length_map]; omega)) ?_ ?_ ?_⟩
  ·rintro u ys σ H5 hu ⟨o,rfl,rfl,rfl⟩
   refine ⟨SqL.of (u1 _ _ hq),?_⟩
   rw [List.length_map,List.length_map,List.length_take]
   omega
  ·rintro u v ys σ H5 hv ⟨o,rfl,rfl,rfl⟩
   rw [List.getElem?_map] at hv
   obtain ⟨j,hj,rfl⟩:=Option.map_eq_some_iff.mp hv
   have jt:=d1 j (List.mem_of_getElem? hj)
   refine ⟨_,rfl,_,rfl,nl,_,_,_,rfl,rfl,SqL.of (u1 _ _ hnl),xA (by omega),_,rfl,rfl,?_⟩
   rw [List.take_add_one,hj,List.map_append,List.map_append]
   rfl
  ·rintro ys σ H5 ⟨o,rfl,rfl,rfl⟩ du ndu
   rw [List.length_map,List.take_length]
   have ud:=zE (o:=.lst ((r.map fun j=>ns.getD j "").map V.str)) ndu
   have ne:l ≠ du:=zJ hl ndu
   refine ⟨l,du,_,rfl,ud _ _ hl,SqL.of zD,ne,by rw [List.length_map]; omega,fun x hx=>?_,fun H6 o6 h6=>⟨true,rfl,iteNF ?_⟩⟩
   ·obtain ⟨j,hj,rfl⟩:=List.mem_map.mp hx
    have:=d1 j hj
    exact sw_str sw (by omega)
   have e6:Same H H6:=fun b o hb=>o6 _ _ (fun z=>zJ hb nl1 (List.mem_singleton.mp z)) (ud _ _ (u1 _ _ hb))
   have hn6:=e6 _ _ hnl
   refine ⟨_,rfl,_,rfl,_,rfl,nl,_,_,_,rfl,rfl,SqL.of hn6,xA (by omega),a,fp,S,.str (ns.getD k ""),_,rfl,sh.same e6,sw.th,rfl,fun e he t ps y ed hd'=>?_,fun no=>by rw [fk] at no; cases no⟩
   obtain ⟨_,rfl⟩:=sw_at sw hrS hw he ed hd'
   have vl:=vw_len ⟨k,by omega⟩
   refine ⟨_,rfl,_,_,_,_,rfl,.str _,ks,true,rfl,iteT ?_⟩
   refine ⟨_,rfl,_,rfl,_,rfl,Nat.lt_of_le_of_lt (Nat.log2_le_self _) (by omega),_,_,rfl,rfl,le_line (Nat.le_trans vl (by decide)),rfl,true,?_,iteT ?_⟩
   ·show V.bl (decide (V.str (vW k) = V.str (vW k))) = V.bl true
    rw [decide_eq_true rfl]
   ·refine ⟨_,rfl,_,rfl,_,rfl,nl,_,_,_,rfl,rfl,SqL.of hn6,xA (by omega),a,fp,S,.str (ns.getD k ""),_,rfl,sh.same e6,sw.th,rfl,fun e he t ps y ed hd'=>?_,fun no=>by rw [fk] at no; cases no⟩
    obtain ⟨rfl,_⟩:=sw_at sw hrS hw he ed hd'
    refine ⟨_,rfl,rfl,?_⟩
    show Q (V.bl (decide (V.str t = V.str t))) H6
    rw [decide_eq_true rfl]
    exact kQ H6 e6
end g_parts
namespace g_ones
abbrev st:Stmt:=top 69
theorem sc:FnScope ["_law_shelf_here","_law_names","_law_lies_here","_law_k","_law_others","_law_other","_law_found"] ["_law_shelf_here","_law_names","_law_lies_here","_law_k","_law_others"] (zC st):=⟨rfl,rfl,rfl,by decide +kernel,rfl,by decide +kernel,by decide +kernel⟩
theorem ok {f:Addr} {fd:FuncData} (F:Fun K "_law_ones_before" "_law_ones_before" st f fd) (T:Txt P w K mg t1 t2 t3 t4 t5 t6 aL aC aN aT aA b1 b2 b3 b4 b5 b6 b7 b8 fP) (C_is_before:CalX P w K mg base 8 "is_before" ["store","one","other"] (spIsB P w K aC b5)):FnOk P w K mg base CX0 9 f fd ["_law_shelf_here","_law_names","_law_lies_here","_law_k","_law_others"] (spOnes P w K aC):=by
 refine F.ok sc (fun vs H Q E h=>?_) (fun cdv A outer s H vs Q E hr h=>?_)
 ·obtain ⟨a,nl,L,t,fp,S,pre,root,rows,ns,ws,n,k,os,rfl,_⟩:=h
  rfl
 ·obtain ⟨a,nl,L,t,fp,S,pre,root,rows,ns,ws,n,k,os,rfl,sh,sw,hnl,hL,en,kn,ht,hos,kQ⟩:=h
  have nsl:ns.length = rows.length:=sw.len
  have kb:PySem.W.kitOne K (.type "bool") (.type "bool") = some true:=by simpa using T.kit "bool" (by simp [kinds]) "bool" (by simp [kinds])
  refine ⟨_,(zF (xN PassesOwn.never rfl (qD (pv 4)) (zT (i:=5) sc.nd rfl (Or.inl rfl))
    (zF (zY (i:=6) sc.nd rfl (Or.inl rfl) (zX C_is_before (hr.mono (by decide)) zP (zA (pv 0) (zA (zS (ix_list:IxR _ (rIxL K)) (pv 1) (pv 3) (fun _ _=>rfl)) (zA (zS (ix_list:IxR _ (rIxL K)) (pv 1) (pv 5) (fun _ _=>rfl)) zB)))))
    (zG (yL (PW.pt (kR (yO (zQ (K:=K) (zK (kA (K:=K)) (by rfl) T.isinstance PyProof.Rows.boot_isinstance (zA (pv 6) (zA (yT (v:=.ty "bool") rfl T.bool PyProof.Rows.boot_bool rfl) zB))) (fun _=>rfl))) (kD (zW op_ne (pv 6) (yI (op_inZ hr.units) (pv 3) (zS (ix_list:IxR _ (rIxL K)) (pv 2) (pv 5) (fun _ _=>rfl)) (by with_unfolding_all rfl)) (zU _)))))
     (zG (zO xO))
     zV))))
   (zG (zO xO))),?_⟩
  refine ⟨_,rfl,t,rfl,⟨_,SqT.of ht⟩,jU (K:=K) (a:=t) (xs:=vI os) (fun i σ H2=>∃ o5 o6,σ = [some (.ref a),some (.ref nl),some (.ref L),some (.int k),some (.ref t),o5,o6] /\ Same H H2) ⟨none,none,rfl,Same.refl _⟩ (fun i σ H2 _ h=>?_) ?_ ?_⟩
  ·obtain ⟨_,_,_,e2⟩:=h
   exact SqT.of (e2 _ _ ht)
  ·rintro i v σ H2 hv ⟨o5,o6,rfl,e2⟩
   rw [List.getElem?_map] at hv
   obtain ⟨o,ho,rfl⟩:=Option.map_eq_some_iff.mp hv
   have on:=hos o (List.mem_of_getElem? ho)
   have hn2:=e2 _ _ hnl
   have fk:formD S (.str (ns.getD k "")) "note" = true:=sw.noteN (by omega)
   have fo:formD S (.str (ns.getD o "")) "note" = true:=sw.noteN (by omega)
   refine ⟨_,rfl,_,rfl,_,rfl,nl,_,_,_,rfl,rfl,SqL.of hn2,xA (by omega),_,rfl,_,rfl,nl,_,_,_,rfl,rfl,SqL.of hn2,xA (by omega),a,fp,S,.str (ns.getD k ""),.str (ns.getD o ""),_,_,rfl,sw_vs sw (sh.same e2),rfl,rfl,fun x y ex ey hx hy H3 b e3 hb=>?_,fun no=>?_⟩
   rotate_left
   ·rw [fk,fo] at no
    rcases no with z | z <;> cases z
   cases ex
   cases ey
   rw [sw.rchN (by omega) (by omega)] at hb
   have e13:=e2.trans e3
   obtain ⟨vb,qy,ky,hvb,hvy,hqy,hky⟩:=(hL.same e13).get on
   have eb:b = rB rows o k:=by rw [Bool.eq_iff_iff,hb,rB_iff]
   refine ⟨_,rfl,_,_,_,_,rfl,.bl _,kb,true,rfl,iteNF ?_⟩
   refine ⟨_,rfl,_,rfl,_,rfl,_,rfl,L,vb,_,_,rfl,rfl,SqL.of hvb,hvy,qy,_,rfl,DGet.k (k:=.inl (k:Int)) hqy,rfl,_,rfl,?_⟩
   rw [hky,eb]
   exact iteNS rfl ⟨_,_,rfl,e13⟩
  ·rintro σ H2 ⟨o5,o6,rfl,e2⟩
   exact kQ H2 e2
end g_ones
end
end An20
namespace An20
open PySem L2 An
seal L2.PS L2.PSs L2.PE L2.PT L2.PW L2.PA L2.PG L2.PGs L2.PI L2.PFi L2.PC
theorem line_parts {x:Str}:lineB x = true ↔ x.length <= 20 /\ (cs x).all signB = true:=by
 unfold lineB
 rw [Bool.and_eq_true,decide_eq_true_eq]
theorem label_parts {x:Str}:jA x = true ↔ 1 <= x.length /\ x.length <= 8 /\ (cs x).all lowB = true:=by
 unfold jA
 rw [Bool.and_eq_true,Bool.and_eq_true,decide_eq_true_eq,decide_eq_true_eq,and_assoc]
def goodTh (t:Th):Prop:=t.Good /\ jN t.dat = true /\ small t.dat = true /\ narrow t.dat
theorem line_ok {x:Str} (h:lineB x = true):Ok 1000 x:=by
 obtain ⟨h1,h2⟩:=line_parts.mp h
 refine ⟨by omega,?_⟩
 rw [qJ]
 intro c hc
 have:=List.all_eq_true.mp h2 c hc
 unfold signB at this
 simp only [Bool.and_eq_true,decide_eq_true_eq] at this
 omega
theorem label_ok {x:Str} (h:jA x = true):Ok 1000 x:=⟨by have:=(label_parts.mp h).2.1; omega,labelB_ok h⟩
theorem jS:∀ {ls:List Str},(∀ l ∈ ls,l.length <= 1000) -> yH (ls.map .str) = true
 | [],_=>rfl
 | l :: ls,h=>by
  show (decide (l.length <= 1000) && yH (ls.map .str)) = true
  rw [decide_eq_true (h l List.mem_cons_self),jS fun x hx=>h x (List.mem_cons_of_mem _ hx)]; rfl
theorem small_rows:∀ {rs:List (Str × Str)},(∀ r ∈ rs,r.1.length <= 1000 /\ r.2.length <= 1000) -> yH (rs.map yD) = true
 | [],_=>rfl
 | r :: rs,h=>by
  obtain ⟨h1,h2⟩:=h r List.mem_cons_self
  show ((decide (2 <= 1000) && (decide (r.1.length <= 1000) && (decide (r.2.length <= 1000) && true))) && yH (rs.map yD)) = true
  rw [decide_eq_true h1,decide_eq_true h2,small_rows fun x hx=>h x (List.mem_cons_of_mem _ hx)]; rfl
theorem good_leaf {ls:List Str} (h:∀ l ∈ ls,lineB l = true) (hl:ls.length <= 60):goodTh (.leaf ls):=by
 have h1:∀ l ∈ ls,l.length <= 1000:=fun l hl=>(line_ok (h l hl)).len
 refine ⟨⟨by show ls.length <= 1000; omega,fun p hp=>line_ok (h p hp)⟩,?_,?_,fun ds e=>?_⟩
 ·show ((decide (("leaf":Str) = "leaf") && (decide (1 = 1) && ((ls.map PyData.str).all lineD))) || _) = true
  have:(ls.map PyData.str).all lineD = true:=by rw [List.all_map,List.all_eq_true]; exact h
  rw [this,decide_eq_true rfl]; rfl
 ·show (decide (2 <= 1000) && (decide (("leaf":Str).length <= 1000) && ((decide ((ls.map PyData.str).length <= 1000) && yH (ls.map .str)) && true))) = true
  rw [jS h1,List.length_map,decide_eq_true (show ls.length <= 1000 by omega),decide_eq_true (show ("leaf":Str).length <= 1000 by decide +kernel)]; rfl
 ·have e:[PyData.str "leaf",.tuple (ls.map .str)] = ds:=by injection e
  subst e
  refine ⟨by show 2 <= 60; decide,fun e he es ee=>?_⟩
  rcases List.mem_cons.mp he with q | q
  ·rw [q] at ee; cases ee
  ·rw [List.mem_singleton.mp q] at ee
   cases ee
   rw [List.length_map]; exact hl
theorem good_tree {rs:List (Str × Str)} (h:∀ r ∈ rs,jA r.1 = true /\ Ok 1000 r.2) (hr:riseB (rs.map (·.1)) = true) (hl:rs.length <= 60):goodTh (.tree rs):=by
 have fl:∀ rs:List (Str × Str),(∀ r ∈ rs,jA r.1 = true /\ Ok 1000 r.2) -> ∀ p ∈ yB rs,Ok 1000 p:=by
  intro rs
  induction rs with
  | nil=>intro _ p hp; cases hp
  | cons r rs ih =>
   intro h p hp
   rcases List.mem_cons.mp hp with q | hp
   ·rw [q]; exact label_ok (h r List.mem_cons_self).1
   ·rcases List.mem_cons.mp hp with q | hp
    ·rw [q]; exact (h r List.mem_cons_self).2
    ·exact ih (fun x hx=>h x (List.mem_cons_of_mem _ hx)) p hp
 refine ⟨⟨?_,fl rs h⟩,?_,?_,fun ds e=>?_⟩
 ·show (yB rs).length <= 1000
  rw [f_tree_parts.flat_len]; omega
 ·show ((decide (("tree":Str) = "leaf") && (decide (1 = 1) && linesD (.tuple (rs.map yD)))) || ((decide (("tree":Str) = "tree") && (decide (1 = 1) && ((rs.map yD).all rowD && riseB ((rs.map yD).map labD)))) || _)) = true
  have e1:(rs.map yD).all rowD = true:=by
   rw [List.all_map,List.all_eq_true]
   intro r hr
   show (jA r.1 && true) = true
   rw [(h r hr).1]; rfl
  have e2:(rs.map yD).map labD = rs.map (·.1):=by rw [List.map_map]; rfl
  rw [e1,e2,hr,decide_eq_false (show ¬ ("tree":Str) = "leaf" by decide +kernel),decide_eq_true (show ("tree":Str) = "tree" from rfl)]; rfl
 ·show (decide (2 <= 1000) && (decide (("tree":Str).length <= 1000) && ((decide ((rs.map yD).length <= 1000) && yH (rs.map yD)) && true))) = true
  rw [small_rows fun r hr=>⟨(label_ok (h r hr).1).len,(h r hr).2.len⟩,List.length_map,decide_eq_true (show rs.length <= 1000 by omega),decide_eq_true (show ("tree":Str).length <= 1000 by decide +kernel)]; rfl
 ·have e:[PyData.str "tree",.tuple (rs.map yD)] = ds:=by injection e
  subst e
  refine ⟨by show 2 <= 60; decide,fun e he es ee=>?_⟩
  rcases List.mem_cons.mp he with q | q
  ·rw [q] at ee; cases ee
  ·rw [List.mem_singleton.mp q] at ee
   cases ee
   rw [List.length_map]; exact hl
theorem good_note {x y:Str} {ps:List Str} (hx:Ok 1000 x) (hy:lineB y = true) (hp:∀ p ∈ ps,Ok 1000 p) (nd:ps.Nodup) (hl:ps.length <= 2):goodTh (.note x ps y):=by
 refine ⟨⟨?_,fun p h=>?_⟩,?_,?_,fun ds e=>?_⟩
 ·show ([x,dig ps.length] ++ ps ++ [y]).length <= 1000
  simp; omega
 ·have h:p ∈ [x,dig ps.length] ++ ps ++ [y]:=h
  simp at h
  rcases h with z | z | z | z
  ·rw [z]; exact hx
  ·rw [z]
   exact ⟨Nat.le_trans (dig_len (by omega)) (by decide),num_ok _⟩
  ·exact hp p z
  ·rw [z]; exact line_ok hy
 ·show ((decide (("note":Str) = "leaf") && (decide (3 = 1) && linesD (.str x))) || ((decide (("note":Str) = "tree") && (decide (3 = 1) && rowsD (.str x))) || (decide (("note":Str) = "note") && (decide (3 = 3) && (true && (((ps.map PyData.str).all textD && (decide ((ps.map PyData.str).length <= 2) && decide ((AxS.uniq ((ps.map PyData.str).map txtD)).length = (ps.map PyData.str).length))) && lineB y)))))) = true
  have e1:(ps.map PyData.str).all textD = true:=by rw [List.all_map,List.all_eq_true]; exact fun _ _=>rfl
  have e2:(ps.map PyData.str).map txtD = ps:=by rw [List.map_map]; exact List.map_id _
  rw [e1,e2,uniq_self nd,List.length_map,hy,decide_eq_true hl,decide_eq_true (show ps.length = ps.length from rfl),decide_eq_false (show ¬ ("note":Str) = "leaf" by decide +kernel),decide_eq_false (show ¬ ("note":Str) = "tree" by decide +kernel),decide_eq_true (show ("note":Str) = "note" from rfl)]; rfl
 ·show (decide (4 <= 1000) && (decide (("note":Str).length <= 1000) && (decide (x.length <= 1000) && ((decide ((ps.map PyData.str).length <= 1000) && yH (ps.map .str)) && (decide (y.length <= 1000) && true))))) = true
  rw [jS fun p h=>(hp p h).len,List.length_map,decide_eq_true (show ps.length <= 1000 by omega),decide_eq_true hx.len,decide_eq_true (line_ok hy).len,decide_eq_true (show ("note":Str).length <= 1000 by decide +kernel)]; rfl
 ·have e:[PyData.str "note",.str x,.tuple (ps.map .str),.str y] = ds:=by injection e
  subst e
  refine ⟨by show 4 <= 60; decide,fun e he es ee=>?_⟩
  simp only [List.mem_cons,List.not_mem_nil,or_false] at he
  rcases he with q | q | q | q
  ·rw [q] at ee; cases ee
  ·rw [q] at ee; cases ee
  ·rw [q] at ee
   cases ee
   rw [List.length_map]; omega
  ·rw [q] at ee; cases ee
theorem nm_short {e:En} {t:Th} (h:e.h = headT t) (hn:e.n < 1000000):e.nm.length <= 300:=by
 have h1:=headT_len t
 have h2:(numT e.n).length <= 10:=PyProof.Rows.toString_length_le (by omega) (by decide) (by
  have:e.n < 10 ^ 9:=by omega
  omega)
 unfold En.nm
 rw [len_append,len_append,h]
 have:dot.length = 1:=rfl
 omega
section
variable {S:List En} {pre:List Str} {root:Str} {rows:List (List Nat)} {ns ws:List Str}
theorem sw_ok (sv:Sw S pre root rows ns ws) (hl:S.length < 2000) {e:En} (he:e ∈ S):Ok 1000 e.nm:=by
 obtain ⟨t,_,_,h⟩:=sv.th e he
 refine ⟨?_,sv.ok e he⟩
 have:=nm_short h (by have:=sv.num e he; omega)
 omega
theorem map_inj (sv:Sw S pre root rows ns ws):∀ {r r':List Nat},(∀ j ∈ r,j < rows.length) -> (∀ j ∈ r',j < rows.length) -> r.map (fun j=>ns.getD j "") = r'.map (fun j=>ns.getD j "") -> r = r'
 | [],[],_,_,_=>rfl
 | [],_ :: _,_,_,e=>by cases e
 | _ :: _,[],_,_,e=>by cases e
 | x :: r,y :: r',h1,h2,e=>by
  have e:ns.getD x "" :: r.map (fun j=>ns.getD j "") = ns.getD y "" :: r'.map (fun j=>ns.getD j ""):=e
  injection e with e1 e2
  rw [sv.inj (h1 x (List.mem_cons_self ..)) (h2 y (List.mem_cons_self ..)) e1,map_inj sv (fun j hj=>h1 j (List.mem_cons_of_mem _ hj)) (fun j hj=>h2 j (List.mem_cons_of_mem _ hj)) e2]
theorem sw_fresh (sv:Sw S pre root rows ns ws) {r:List Nat} {y:Str} (hr:∀ j ∈ r,j < rows.length) (hf:∀ k:Nat,rows[k]? = some r -> ws[k]? ≠ some y):∀ e ∈ S,e.d ≠ (Th.note root (r.map fun j=>ns.getD j "") y).dat:=fun e he z=>by
 obtain ⟨k,hk,ek⟩:=sv.note_of (qC he z)
 have hrk:rows[k]? = some rows[k]:=List.getElem?_eq_getElem hk
 obtain ⟨f,hf',y',fn,fy,fd⟩:=sv.row k _ hrk
 have fnm:ns.getD k "" = f.nm:=by rw [List.getD_eq_getElem?_getD,fn]; rfl
 have:=sv.uniq he hf' (ek.trans fnm)
 subst this
 rw [z] at fd
 have:=xL fd
 injection this with h1 h2 h3
 have er:=map_inj sv hr (fun j hj=>by have:=(sv.down k _ hrk).1 j hj; omega) h2
 rw [← er] at hrk
 rw [← h3] at fy
 exact hf k hrk fy
theorem form_tree (sv:Sw S pre root rows ns ws):yA S root ["tree"] = true:=by
 obtain ⟨f,hf,fn,fd⟩:=sv.tree
 unfold yA
 rw [List.any_eq_true]
 refine ⟨f,hf,?_⟩
 rw [Bool.and_eq_true,decide_eq_true_iff,decide_eq_true_iff,kI fd]
 exact ⟨fn,List.mem_singleton.mpr rfl⟩
theorem no_note {x:Str} (h:x ∉ S.map En.nm):notB S x = false:=by
 cases q:notB S x with
 | false=>rfl
 | true=>exact absurd (notB_mem q) h
theorem has_dot (e:En):46 ∈ cs e.nm:=by
 rw [nm_cs]
 exact List.mem_append_right _ List.mem_cons_self
theorem last_dig:∀ n:Fin 20,(46 :: cs (numT n.val)).getLast? ≠ some 120:=by decide +kernel
theorem no_x {e:En} (hn:e.n < 20) (x:Str):e.nm ≠ x ++ "x":=fun z=>by
 have h:=congrArg cs z
 rw [nm_cs,cs_append,show cs ("x":Str) = [120] by decide +kernel] at h
 have h:=congrArg List.getLast? h
 rw [List.getLast?_append,List.getLast?_append] at h
 have hd:=last_dig ⟨e.n,hn⟩
 cases q:(46 :: cs (numT e.n)).getLast? with
 | none=>exact absurd (List.getLast?_eq_none_iff.mp q) (by simp)
 | some c =>
  rw [q] at h
  have h:some c = some 120:=h
  exact hd (q.trans h)
theorem wrong_no (sv:Sw S pre root rows ns ws) (hl:S.length <= 20) {x:Str} (hx:x = "nosuch" \/ x = "" \/ x ∈ pre \/ ∃ y,x = y ++ "x"):notB S x = false:=by
 rcases hx with rfl | rfl | hx | ⟨y,rfl⟩
 ·refine no_note fun z=>?_
  obtain ⟨e,_,q⟩:=List.mem_map.mp z
  have:=has_dot e
  rw [q] at this
  exact absurd this (by decide +kernel)
 ·refine no_note fun z=>?_
  obtain ⟨e,_,q⟩:=List.mem_map.mp z
  have:=has_dot e
  rw [q] at this
  exact absurd this (by decide +kernel)
 ·exact sv.pre_no hx
 ·refine no_note fun z=>?_
  obtain ⟨e,he,q⟩:=List.mem_map.mp z
  exact no_x (by have:=sv.num e he; omega) y q
end
theorem put_note {P:Program} {w:World} {K:PySem.W.Frag} {C aN aT:Addr} {H:Hp} {a:Addr} {fp:List Addr} {S:List En} {pre:List Str} {root:Str} {rows:List (List Nat)} {ns ws:List Str} {v:V} {Q:VK} {E:XK} (sh:ShAt P w K C H a fp S) (sv:Sw S pre root rows ns ws) (hl:S.length < 1999)
  {r:List Nat} {y:Str} (hr:∀ j ∈ r,j < rows.length) (h2:r.length <= 2) (hnd:r.Nodup) (hy:∀ k:Nat,rows[k]? = some r -> ws[k]? ≠ some y) (ly:lineB y = true) (hv:Dt K H (Th.note root (r.map fun j=>ns.getD j "") y).dat v)
  (k:∀ H2,Off fp H H2 -> ShAt P w K C H2 a fp (S ++ [entT S (Th.note root (r.map fun j=>ns.getD j "") y)]) -> Sw (S ++ [entT S (Th.note root (r.map fun j=>ns.getD j "") y)]) pre root (rows ++ [r]) (ns ++ [(entT S (Th.note root (r.map fun j=>ns.getD j "") y)).nm]) (ws ++ [y]) -> Q (.str (entT S (Th.note root (r.map fun j=>ns.getD j "") y)).nm) H2):spPut P w K C aN aT [.ref a,v] H Q E:=by
 have pin:∀ p ∈ r.map (fun j=>ns.getD j ""),∃ j,j < rows.length /\ p = ns.getD j "":=fun p hp=>by
  obtain ⟨j,hj,rfl⟩:=List.mem_map.mp hp
  exact ⟨j,hr j hj,rfl⟩
 have mem:∀ {j},j < rows.length -> ∃ e ∈ S,e.nm = ns.getD j "":=fun {j} hj=>by
  obtain ⟨e,he,_,hn,_⟩:=sv.row j _ (List.getElem?_eq_getElem hj)
  exact ⟨e,he,by rw [List.getD_eq_getElem?_getD,hn]; rfl⟩
 have pnd:(r.map fun j=>ns.getD j "").Nodup:=by
  rw [List.nodup_iff_pairwise_ne,List.pairwise_map]
  refine List.Pairwise.imp_of_mem (fun {x z} hx hz ne e=>?_) (List.nodup_iff_pairwise_ne.mp hnd)
  exact ne (sv.inj (hr x hx) (hr z hz) e)
 have rok:Ok 1000 root:=by
  obtain ⟨f,hf,fn,_⟩:=sv.tree
  rw [← fn]
  exact sw_ok sv (by omega) hf
 have g:goodTh (Th.note root (r.map fun j=>ns.getD j "") y):=good_note rok ly (fun p hp=>by
  obtain ⟨j,hj,rfl⟩:=pin p hp
  obtain ⟨e,he,en⟩:=mem hj
  rw [← en]
  exact sw_ok sv (by omega) he) pnd (by rw [List.length_map]; exact h2)
 have nok:namesOk S (Th.note root (r.map fun j=>ns.getD j "") y) = true:=by
  show (yA S root ["tree"] && (r.map fun j=>ns.getD j "").all fun p=>yA S p ["note"]) = true
  rw [form_tree sv,Bool.true_and,List.all_eq_true]
  intro p hp
  obtain ⟨j,hj,rfl⟩:=pin p hp
  exact sv.noteN hj
 have fresh:=sw_fresh sv hr hy
 generalize et:Th.note root (r.map fun j=>ns.getD j "") y = t at hv k g nok fresh
 refine ⟨a,fp,S,t.dat,v,rfl,sh,sv.th,Dt.dw hv,g.2.2.1,g.2.2.2,fun _=>⟨t,rfl,g.1⟩,by omega,fun h=>by have:=next_le sv.num h; omega,fun z=>?_,fun t' e _ no=>?_,fun t' e _ _ H2 S' e2 pr=>?_⟩
 ·rw [g.2.1] at z; cases z
 ·have:=xL e
  subst this
  rw [nok] at no; cases no
 ·have:=xL e
  subst this
  obtain ⟨of,sh2,he2,ed,q⟩:=pr
  rcases q with q | ⟨q,q2,q3⟩
  ·rw [q] at he2
   exact absurd ed (fresh e2 he2)
  ·rw [q2] at q
   rw [q] at sh2
   rw [q2]
   exact k H2 of sh2 (sv.snoc hr h2 hnd et.symm g.1 sh2.good)
theorem tree_good:goodTh (Th.tree []):=good_tree (fun r h=>(nomatch h)) (by rfl) (by decide)
theorem sw_nil (g:GoodS [entT [] (Th.tree [])]):Sw [entT [] (Th.tree [])] [(entT [] (Th.tree [])).nm] (entT [] (Th.tree [])).nm [] [] [] :=
 ⟨rfl,rfl,⟨_,List.mem_singleton.mpr rfl,rfl,rfl⟩,fun e he _ t ps y z=>(by rw [List.mem_singleton.mp he] at z; cases xL (show (Th.tree []).dat = _ from z)),fun k r h=>(nomatch h),fun k r h=>(nomatch h),g.nn,fun e he=>⟨Th.tree [],by rw [List.mem_singleton.mp he]; exact ⟨rfl,tree_good.1,rfl⟩⟩,fun e he=>by rw [List.mem_singleton.mp he]; decide +kernel,fun e he=>by rw [List.mem_singleton.mp he]; exact entT_ok _ _,rfl⟩
theorem put_tree {P:Program} {w:World} {K:PySem.W.Frag} {C aN aT:Addr} {H:Hp} {a:Addr} {fp:List Addr} {v:V} {Q:VK} {E:XK} (sh:ShAt P w K C H a fp []) (hv:Dt K H (Th.tree []).dat v)
  (k:∀ H2,Off fp H H2 -> ShAt P w K C H2 a fp [entT [] (Th.tree [])] -> Q (.str (entT [] (Th.tree [])).nm) H2):spPut P w K C aN aT [.ref a,v] H Q E:=by
 refine ⟨a,fp,[],(Th.tree []).dat,v,rfl,sh,fun e he=>(nomatch he),Dt.dw hv,tree_good.2.2.1,tree_good.2.2.2,fun _=>⟨_,rfl,tree_good.1⟩,by decide,fun h=>by show 0 < 1000000; decide,fun z=>?_,fun t' e _ no=>?_,fun t' e _ _ H2 S' e2 pr=>?_⟩
 ·rw [tree_good.2.1] at z; cases z
 ·have:=xL e
  subst this
  cases no
 ·have:=xL e
  subst this
  obtain ⟨of,sh2,he2,ed,q⟩:=pr
  rcases q with q | ⟨q,q2,q3⟩
  ·rw [q] at he2
   cases he2
  ·rw [q2] at q
   rw [q] at sh2
   rw [q2]
   exact k H2 of sh2
structure W2 (P:Program) (w:World) (K:PySem.W.Frag) (C:Addr) (H0 H:Hp) (a:Addr) (fp:List Addr) (b:Addr) (fq:List Addr) (S S2:List En):Prop where
 same:Same H0 H
 sh:ShAt P w K C H a fp S
 tw:ShAt P w K C H b fq S2
 fr:∀ c ∈ fp,H0 c = none
 gr:∀ c ∈ fq,H0 c = none
 dj:∀ c ∈ fp,c ∉ fq
section
variable {P:Program} {w:World} {K:PySem.W.Frag} {C:Addr} {H0 H H':Hp} {a:Addr} {fp:List Addr} {b:Addr} {fq:List Addr} {S S2 S':List En}
theorem noseq_t {fp:List Addr} (n:NoSeq H fp):∀ b ∈ fp,∀ xs,¬ Rd H b (.tup xs):=fun b hb xs=>by
 obtain ⟨o,e,h1,_,h3⟩:=n b hb
 exact kF e h1 h3 xs
theorem xB {fp:List Addr} (n:NoSeq H fp) {c:Addr} {xs:List V} (h:H c = some (.lst xs)):c ∉ fp:=fun z=>by
 obtain ⟨o,e,_,h2,_⟩:=n c z
 rw [h] at e
 exact h2 xs (Option.some.inj e).symm
theorem W2.ins (W:W2 P w K C H0 H a fp b fq S S2) (s:Same H H'):W2 P w K C H0 H' a fp b fq S S2:=⟨W.same.trans s,W.sh.same s,W.tw.same s,W.fr,W.gr,W.dj⟩
theorem W2.put (W:W2 P w K C H0 H a fp b fq S S2) (o:Off fp H H') (u:ShAt P w K C H' a fp S'):W2 P w K C H0 H' a fp b fq S' S2 :=
 ⟨fun c x e=>o c x (fun z=>by rw [W.fr c z] at e; cases e) (W.same c x e),u,W.tw.off (noseq_t W.sh.noseq) o (fun c hc z=>W.dj c z hc),W.fr,W.gr,W.dj⟩
theorem W2.putT (W:W2 P w K C H0 H a fp b fq S S2) (o:Off fq H H') (u:ShAt P w K C H' b fq S'):W2 P w K C H0 H' a fp b fq S S' :=
 ⟨fun c x e=>o c x (fun z=>by rw [W.gr c z] at e; cases e) (W.same c x e),W.sh.off (noseq_t W.tw.noseq) o (fun c hc=>W.dj c hc),u,W.fr,W.gr,W.dj⟩
theorem W2.lst (W:W2 P w K C H0 H a fp b fq S S2) {c:Addr} {xs ys:List V} (h:H c = some (.lst xs)) (n:H0 c = none):W2 P w K C H0 (upd H c (.lst ys)) a fp b fq S S2:=by
 have o:Off [c] H (upd H c (.lst ys)):=(Off.refl _ _).upd (List.mem_singleton.mpr rfl)
 have nt:∀ b ∈ [c],∀ xs,¬ Rd H b (.tup xs):=fun b hb zs=>by
  rw [List.mem_singleton.mp hb]
  exact kF h (fun _ z=>(nomatch z)) (fun _ _ z=>(nomatch z)) zs
 exact ⟨fun d x e=>o d x (fun z=>by rw [List.mem_singleton.mp z,n] at e; cases e) (W.same d x e),W.sh.off nt o (fun d hd z=>xB W.sh.noseq h (List.mem_singleton.mp z ▸ hd)),W.tw.off nt o (fun d hd z=>xB W.tw.noseq h (List.mem_singleton.mp z ▸ hd)),W.fr,W.gr,W.dj⟩
end
end An20
namespace An20
open PySem L2 An
seal L2.PS L2.PSs L2.PE L2.PT L2.PW L2.PA L2.PG L2.PGs L2.PI L2.PFi L2.PC
def S1:List En:=[entT [] (Th.tree [])]
def S0:List En:=S1 ++ [entT S1 (Th.leaf ["v0"])]
theorem leaf_good:goodTh (Th.leaf ["v0"]):=good_leaf (fun l h=>by rw [List.mem_singleton.mp h]; decide +kernel) (by decide)
theorem sw_zero (g:GoodS S0):Sw S0 [(entT [] (Th.tree [])).nm,(entT S1 (Th.leaf ["v0"])).nm] (entT [] (Th.tree [])).nm [] [] []:=by
 have two:∀ e ∈ S0,e = entT [] (Th.tree []) \/ e = entT S1 (Th.leaf ["v0"]):=fun e he=>by
  rcases List.mem_append.mp he with z | z
  ·exact .inl (List.mem_singleton.mp z)
  ·exact .inr (List.mem_singleton.mp z)
 refine ⟨rfl,rfl,⟨_,List.mem_append_left _ (List.mem_singleton.mpr rfl),rfl,rfl⟩,fun e he _ t ps y z=>?_,fun k r h=>(nomatch h),fun k r h=>(nomatch h),g.nn,fun e he=>?_,fun e he=>?_,fun e he=>?_,rfl⟩
 ·rcases two e he with rfl | rfl
  ·cases xL (show (Th.tree []).dat = _ from z)
  ·cases xL (show (Th.leaf ["v0"]).dat = _ from z)
 ·rcases two e he with rfl | rfl
  ·exact ⟨Th.tree [],rfl,tree_good.1,rfl⟩
  ·exact ⟨Th.leaf ["v0"],rfl,leaf_good.1,rfl⟩
 ·rcases two e he with rfl | rfl <;> decide +kernel
 ·rcases two e he with rfl | rfl <;> exact entT_ok _ _
theorem put_leaf {P:Program} {w:World} {K:PySem.W.Frag} {C aN aT:Addr} {H:Hp} {a:Addr} {fp:List Addr} {v:V} {Q:VK} {E:XK} (sh:ShAt P w K C H a fp S1) (hv:Dt K H (Th.leaf ["v0"]).dat v)
  (k:∀ H2 x,Off fp H H2 -> ShAt P w K C H2 a fp S0 -> Q (.str x) H2):spPut P w K C aN aT [.ref a,v] H Q E:=by
 have th:∀ e ∈ S1,isThE e:=fun e he=>⟨Th.tree [],by rw [List.mem_singleton.mp he]; exact ⟨rfl,tree_good.1,rfl⟩⟩
 refine ⟨a,fp,S1,(Th.leaf ["v0"]).dat,v,rfl,sh,th,Dt.dw hv,leaf_good.2.2.1,leaf_good.2.2.2,fun _=>⟨_,rfl,leaf_good.1⟩,by show 1 < 2000; decide,fun h=>by
  have:=next_le (S:=S1) (fun e he=>by rw [List.mem_singleton.mp he]; decide +kernel) h
  have e:S1.length = 1:=rfl
  omega,fun z=>?_,fun t' e _ no=>?_,fun t' e _ _ H2 S' e2 pr=>?_⟩
 ·rw [leaf_good.2.1] at z; cases z
 ·have:=xL e
  subst this
  cases no
 ·have:=xL e
  subst this
  obtain ⟨of,sh2,he2,ed,q⟩:=pr
  rcases q with q | ⟨q,q2,q3⟩
  ·rw [q] at he2
   rw [List.mem_singleton.mp he2] at ed
   cases xL (show (Th.tree []).dat = _ from ed)
  ·rw [q2] at q
   rw [q] at sh2
   exact k H2 _ of sh2
def spShelf0 (P:Program) (w:World) (K:PySem.W.Frag) (C:Addr):Sp:=fun vs H Q _=>vs = [] /\ ∀ x fp H',Same H H' -> (∀ c ∈ fp,H c = none) -> ShAt P w K C H' x fp S0 -> Q (.ref x) H'
section
variable {P:Program} {w:World} {K:PySem.W.Frag} {mg:Str -> Option Value} {base:Heap} {t1 t2 t3 t4 t5 t6:Tok} {aL aC aN aT aA b1 b2 b3 b4 b5 b6 b7 b8 fP:Addr}
theorem qZ {C:Addr} {H:Hp} {a:Addr} {fp:List Addr} {S:List En} (h:ShAt P w K C H a fp S):∃ dx d1 d2 d3,H a = some (.ins C dx (flds d1 d2 d3)):=by
 obtain ⟨_,dx,d1,d2,d3,_,_,_,_,h1,_⟩:=h
 exact ⟨dx,d1,d2,d3,h1⟩
theorem kG {H0 H H':Hp} {fp:List Addr} (s:Same H0 H) (fr:∀ c ∈ fp,H0 c = none) (o:Off fp H H'):Same H0 H':=fun c x e=>o c x (fun z=>by rw [fr c z] at e; cases e) (s c x e)
namespace g_shelf0
abbrev st:Stmt:=top 70
theorem sc:FnScope ["_law_found"] [] (zC st):=⟨rfl,rfl,rfl,by decide +kernel,rfl,by decide +kernel,by decide +kernel⟩
theorem ok {f:Addr} {fd:FuncData} (F:Fun K "_law_shelf" "_law_shelf" st f fd) (T:Txt P w K mg t1 t2 t3 t4 t5 t6 aL aC aN aT aA b1 b2 b3 b4 b5 b6 b7 b8 fP) (M_Shelf:Mak P w K mg base aC 5 "Shelf" ["self","base"] (spInit P w K aC)) (M_put:MetX P w K mg base aC 7 "put" ["self","thing"] (spPut P w K aC aN aT)):FnOk P w K mg base CX0 8 f fd [] (spShelf0 P w K aC):=by
 refine F.ok sc (fun vs H Q E h=>?_) (fun cdv A outer s H vs Q E hr h=>?_)
 ·obtain ⟨rfl,_⟩:=h
  rfl
 ·obtain ⟨rfl,k⟩:=h
  refine ⟨_,(zF (zY (i:=0) sc.nd rfl (Or.inl rfl) (pe_makC M_Shelf (hr.mono (by decide)) (zA pe_non zB)))
   (zF (z5 (yQ (pv 0) T.cls M_put (hr.mono (by decide)) zP (zA (z8 (zA pe_str (zA (z8 zB) zB))) zB)))
   (zF (z5 (yQ (pv 0) T.cls M_put (hr.mono (by decide)) zP (zA (z8 (zA pe_str (zA (z8 (zA pe_str zB)) zB))) zB)))
   (zG (zO (pv 0)))))),?_⟩
  refine fun x dx nx ndx ne=>⟨x,dx,.non,[],rfl,zD,by rw [zI ne]; exact zD,ne,.inl ⟨rfl,rfl⟩,fun fp H3 hfp off0 sh=>⟨rfl,?_⟩⟩
  obtain ⟨s3,fr3⟩:=new_facts nx ndx ne hfp off0
  obtain ⟨ix,i1,i2,i3,hix⟩:=qZ sh
  refine ⟨_,rfl,x,ix,_,rfl,hix,rfl,lineN 0,fun p1 n1=>⟨lineN 2,fun p2 n2=>?_⟩⟩
  have v1:=zE (o:=.tup []) n1
  have v2:=zE (o:=.tup [V.str "tree",V.ref p1]) n2
  have d0:Dt K (upd (upd H3 p1 (.tup [])) p2 (.tup [V.str "tree",V.ref p1])) (Th.tree []).dat (.ref p2):=⟨p2,_,rfl,SqT.of zD,_,_,rfl,rfl,_,_,rfl,⟨p1,[],rfl,SqT.of (v2 _ _ zD),rfl⟩,rfl⟩
  have s5:=s3.trans (v1.trans v2)
  have sh5:=sh.same (v1.trans v2)
  delta tNil
  dsimp only
  show spPut P w K aC aN aT [V.ref x,V.ref p2] (upd (upd H3 p1 (.tup [])) p2 (.tup [V.str "tree",V.ref p1])) _ _
  generalize upd (upd H3 p1 (.tup [])) p2 (.tup [V.str "tree",V.ref p1]) = H5 at d0 s5 sh5 ⊢
  refine put_tree sh5 d0 fun H6 of6 sh6=>?_
  have s6:=kG s5 fr3 of6
  clear d0 v1 v2 n1 n2 hix
  obtain ⟨ix,i1,i2,i3,hix⟩:=qZ sh6
  refine ⟨_,rfl,x,ix,_,rfl,hix,rfl,lineN 1,fun p1 n1=>⟨lineN 2,fun p2 n2=>?_⟩⟩
  have v1:=zE (o:=.tup [V.str "v0"]) n1
  have v2:=zE (o:=.tup [V.str "leaf",V.ref p1]) n2
  have d0:Dt K (upd (upd H6 p1 (.tup [V.str "v0"])) p2 (.tup [V.str "leaf",V.ref p1])) (Th.leaf ["v0"]).dat (.ref p2):=⟨p2,_,rfl,SqT.of zD,_,_,rfl,rfl,_,_,rfl,⟨p1,_,rfl,SqT.of (v2 _ _ zD),DtAll.strs ["v0"]⟩,rfl⟩
  have s7:=s6.trans (v1.trans v2)
  have sh7:=sh6.same (v1.trans v2)
  try dsimp only
  show spPut P w K aC aN aT [V.ref x,V.ref p2] (upd (upd H6 p1 (.tup [V.str "v0"])) p2 (.tup [V.str "leaf",V.ref p1])) _ _
  generalize upd (upd H6 p1 (.tup [V.str "v0"])) p2 (.tup [V.str "leaf",V.ref p1]) = H7 at d0 s7 sh7 ⊢
  refine put_leaf sh7 d0 fun H8 y of8 sh8=>?_
  exact ⟨_,rfl,k x fp H8 (kG s7 fr3 of8) fr3 sh8⟩
end g_shelf0
end
end An20
namespace An20
open PySem L2 An
seal L2.PS L2.PSs L2.PE L2.PT L2.PW L2.PA L2.PG L2.PGs L2.PI L2.PFi L2.PC
theorem sw_txt {S:List En} {t:Th} {pre:List Str} {root:Str} {rows:List (List Nat)} {ns ws:List Str} (sv:Sw (S ++ [entT S t]) pre root rows ns ws):txtT t.dat = true:=by
 obtain ⟨t',e1,e2,_⟩:=sv.th _ (List.mem_append_right _ (List.mem_singleton.mpr rfl))
 have:=(dat_key e2).1
 rw [← e1] at this
 exact this
def spComes (P:Program) (w:World) (K:PySem.W.Frag) (C:Addr):Sp:=fun vs H Q _=>∃ (H0:Hp) (a b nl:Addr) (fp fq:List Addr) (S:List En) (pre:List Str) (root:Str) (rows:List (List Nat)) (ns ws:List Str) (v:V) (r:List Nat) (y:Str),vs = [.ref a,.ref b,.ref nl,v] /\ W2 P w K C H0 H a fp b fq S S /\ Sw S pre root rows ns ws /\ S.length < 100 /\
 H nl = some (.lst (ns.map V.str)) /\ H0 nl = none /\ (∀ j ∈ r,j < rows.length) /\ r.length <= 2 /\ r.Nodup /\ (∀ k:Nat,rows[k]? = some r -> ws[k]? ≠ some y) /\ lineB y = true /\ Dt K H (Th.note root (r.map fun j=>ns.getD j "") y).dat v /\
 ∀ H' S' x,Off (nl :: (fp ++ fq)) H H' -> W2 P w K C H0 H' a fp b fq S' S' -> Sw S' pre root (rows ++ [r]) (ns ++ [x]) (ws ++ [y]) -> H' nl = some (.lst ((ns ++ [x]).map V.str)) -> Q (.bl true) H'
section
variable {P:Program} {w:World} {K:PySem.W.Frag} {mg:Str -> Option Value} {base:Heap} {t1 t2 t3 t4 t5 t6:Tok} {aL aC aN aT aA b1 b2 b3 b4 b5 b6 b7 b8 fP:Addr}
namespace g_comes
abbrev st:Stmt:=top 68
theorem sc:FnScope ["_law_shelf_here","_law_twin","_law_names","_law_note","_law_name"] ["_law_shelf_here","_law_twin","_law_names","_law_note"] (zC st):=⟨rfl,rfl,rfl,by decide +kernel,rfl,by decide +kernel,by decide +kernel⟩
theorem ok {f:Addr} {fd:FuncData} (F:Fun K "_law_comes" "_law_comes" st f fd) (T:Txt P w K mg t1 t2 t3 t4 t5 t6 aL aC aN aT aA b1 b2 b3 b4 b5 b6 b7 b8 fP) (M_put:MetX P w K mg base aC 7 "put" ["self","thing"] (spPut P w K aC aN aT)) (C__law_six_refused:Cal P w K mg base 11 "_law_six_refused" ["_law_shelf_here","_law_wrong","_law_good"] (spSix P w K aC)):FnOk P w K mg base CX0 12 f fd ["_law_shelf_here","_law_twin","_law_names","_law_note"] (spComes P w K aC):=by
 refine F.ok sc (fun vs H Q E h=>?_) (fun cdv A outer s H vs Q E hr h=>?_)
 ·obtain ⟨H0,a,b,nl,fp,fq,S,pre,root,rows,ns,ws,v,r,y,rfl,_⟩:=h
  rfl
 ·obtain ⟨H0,a,b,nl,fp,fq,S,pre,root,rows,ns,ws,v,r,y,rfl,W,sw,Sl,hnl,nl0,hr1,hr2,hr3,hy,ly,hv,k⟩:=h
  refine ⟨_,(zF (zY (i:=4) sc.nd rfl (Or.inl rfl) (yQ (pv 1) T.cls M_put (hr.mono (by decide)) zP (zA (pv 3) zB)))
   (zF (yL (yO (zQ (K:=K) (zM C__law_six_refused (hr.mono (by decide)) (zA (pv 0) (zA (pv 4) (zA (zS (ix_list:IxR _ (rIxL K)) (z9 j4 (pv 2) (yW (zA pe_str zB))) zH (fun _ _=>rfl)) zB)))) (fun _=>rfl)))
    (zG (zO xO))
    zV)
   (zF (z5 (kP PySem.F.plainAttrs_list PySem.F.slot_list_append PySem.F.type_list_append xH (pv 2) (zA (yQ (pv 0) T.cls M_put (hr.mono (by decide)) zP (zA (pv 3) zB)) zB)))
   (zG (zO (yI xI (zS (ix_list:IxR _ (rIxL K)) (pv 2) (pe_un j8 zH) (fun _ _=>rfl)) (pv 4) (zU _))))))),?_⟩
  obtain ⟨jx,j1,j2,j3,hjx⟩:=qZ W.tw
  refine ⟨_,rfl,b,jx,_,rfl,hjx,rfl,_,rfl,?_⟩
  delta tNil
  dsimp only
  show spPut P w K aC aN aT [V.ref b,v] H _ _
  refine put_note W.tw sw (by omega) hr1 hr2 hr3 hy ly hv fun H1 of1 sh1 sw1=>?_
  have tx:=sw_txt sw1
  have W1:=W.putT of1 sh1
  have hnl1:=of1 _ _ (xB W.tw.noseq hnl) hnl
  have hv1:=Dt.off (noseq_t W.tw.noseq) of1 _ _ tx hv
  have nsnm:=sw1.nd
  rw [List.map_append,List.nodup_append] at nsnm
  have nin:(entT S (Th.note root (r.map fun j=>ns.getD j "") y)).nm ∉ S.map En.nm:=fun z=>nsnm.2.2 _ z _ (List.mem_singleton.mpr rfl) rfl
  have fno:formD S (.str (entT S (Th.note root (r.map fun j=>ns.getD j "") y)).nm) "note" = false:=no_note nin
  have nsl:ns.length < 100:=by have:=sw.slen; rw [sw.len]; omega
  refine ⟨_,rfl,_,rfl,_,rfl,lineN 1,fun l1 m1=>?_⟩
  have u1:=zE (o:=.lst [V.str "nosuch"]) m1
  refine ⟨nl,l1,_,_,rfl,rfl,u1 _ _ hnl1,zD,le_line (by rw [List.length_map]; show ns.length + 1 <= _; omega),fun l2 m2=>?_⟩
  have u2:=zE (o:=.lst (ns.map V.str ++ [V.str "nosuch"])) m2
  obtain ⟨g0,eg⟩:∃ g0,(ns.map V.str ++ [V.str "nosuch"])[0]? = some (.str g0):=by
   cases ns with
   | nil=>exact ⟨_,rfl⟩
   | cons x xs=>exact ⟨_,rfl⟩
  have u12:=u1.trans u2
  refine ⟨l2,_,_,_,rfl,rfl,SqL.of zD,yS (j:=0) eg,a,fp,S,.str (entT S (Th.note root (r.map fun j=>ns.getD j "") y)).nm,.str g0,_,_,rfl,sw_vs sw (W1.sh.same u12),rfl,rfl,fno,fun H3 e3=>⟨true,rfl,iteNF ?_⟩⟩
  have e13:=u12.trans e3
  have W3:=W1.ins e13
  have hnl3:=e13 _ _ hnl1
  have hv3:=Dt.same e13 _ _ hv1
  obtain ⟨ix,i1,i2,i3,hix⟩:=qZ W3.sh
  refine ⟨_,rfl,.inl ⟨rfl,_,SqL.of hnl3⟩,_,rfl,a,ix,_,rfl,hix,rfl,_,rfl,?_⟩
  try dsimp only
  show spPut P w K aC aN aT [V.ref a,v] H3 _ _
  refine put_note W3.sh sw (by omega) hr1 hr2 hr3 hy ly hv3 fun H4 of4 sh4 sw4=>?_
  have W4:=W3.put of4 sh4
  have hnl4:=of4 _ _ (xB W3.sh.noseq hnl3) hnl3
  refine ⟨nl,_,_,rfl,rfl,hnl4,qG (by rw [List.length_map]; omega),?_⟩
  have W5:=W4.lst (ys:=ns.map V.str ++ [V.str (entT S (Th.note root (r.map fun j=>ns.getD j "") y)).nm]) hnl4 nl0
  refine ⟨_,rfl,_,rfl,nl,_,_,_,rfl,rfl,SqL.of zD,atI_last _ _,_,rfl,rfl,?_⟩
  show Q (V.bl (decide (V.str (entT S (Th.note root (r.map fun j=>ns.getD j "") y)).nm = V.str (entT S (Th.note root (r.map fun j=>ns.getD j "") y)).nm))) _
  rw [decide_eq_true rfl]
  refine k _ _ _ (fun c o nc e=>?_) W5 sw4 (by rw [zD,List.map_append]; rfl)
  have c1:c ≠ nl:=fun z=>nc (by rw [z]; exact List.mem_cons_self ..)
  have c2:c ∉ fp:=fun z=>nc (List.mem_cons_of_mem _ (List.mem_append_left _ z))
  have c3:c ∉ fq:=fun z=>nc (List.mem_cons_of_mem _ (List.mem_append_right _ z))
  rw [zI c1]
  exact of4 _ _ c2 (e13 _ _ (of1 _ _ c3 e))
end g_comes
end
end An20
namespace An
open PySem L2
def lr (i:Nat):List Nat:=if i = 0 then [] else if 90 < i then [i - 1] else if i % 3 = 1 then [i - 1] else if i % 3 = 2 then [i - 2] else [i - 2,i - 1]
def lRows (n:Nat):List (List Nat):=(List.range n).map lr
theorem lRows_succ (n:Nat):lRows (n + 1) = lRows n ++ [lr n]:=by
 unfold lRows
 rw [List.range_succ,List.map_append]; rfl
theorem qL (n:Nat):(lRows n).length = n:=by unfold lRows; rw [List.length_map,List.length_range]
theorem lRows_at {n k:Nat} (h:k < n):(lRows n)[k]? = some (lr k):=by
 unfold lRows
 rw [List.getElem?_map,List.getElem?_range h]; rfl
theorem lRows_of {n k:Nat} {r:List Nat} (h:(lRows n)[k]? = some r):k < n /\ r = lr k:=by
 have hk:k < n:=by have:=(List.getElem?_eq_some_iff.mp h).1; rw [qL] at this; exact this
 rw [lRows_at hk] at h
 exact ⟨hk,(Option.some.inj h).symm⟩
theorem lr_ok (i:Nat):(∀ j ∈ lr i,j < i) /\ (lr i).length <= 2 /\ (lr i).Nodup:=by
 unfold lr
 split
 ·exact ⟨fun j h=>(nomatch h),Nat.zero_le _,List.nodup_nil⟩
 ·split
  ·exact ⟨fun j h=>by rw [List.mem_singleton.mp h]; omega,by show 1 <= 2; decide,by simp⟩
  ·split
   ·exact ⟨fun j h=>by rw [List.mem_singleton.mp h]; omega,by show 1 <= 2; decide,by simp⟩
   ·split
    ·exact ⟨fun j h=>by rw [List.mem_singleton.mp h]; omega,by show 1 <= 2; decide,by simp⟩
    ·exact ⟨fun j h=>by simp at h; omega,by show 2 <= 2; decide,by simp; omega⟩
theorem lr_three {k:Nat} (h:k < 30):lr (3 * k + 1) = [3 * k] /\ lr (3 * k + 2) = [3 * k] /\ lr (3 * k + 3) = [3 * k + 1,3 * k + 2]:=by
 refine ⟨?_,?_,?_⟩ <;> unfold lr
 ·rw [if_neg (by omega),if_neg (by omega),if_pos (by omega)]; rfl
 ·rw [if_neg (by omega),if_neg (by omega),if_neg (by omega),if_pos (by omega)]; rfl
 ·rw [if_neg (by omega),if_neg (by omega),if_neg (by omega),if_neg (by omega)]; rfl
theorem lr_on {k:Nat} (h:90 < k):lr k = [k - 1]:=by
 unfold lr
 rw [if_neg (by omega),if_pos h]
theorem lr_new {k n:Nat} (h:k < n) (e:lr k = lr n):n <= 90 /\ n % 3 = 2 /\ k + 1 = n:=by
 unfold lr at e
 by_cases k0:k = 0
 ·rw [if_pos k0,if_neg (by omega)] at e
  split at e
  ·cases e
  ·split at e
   ·cases e
   ·split at e <;> cases e
 ·rw [if_neg k0,if_neg (show ¬ n = 0 by omega)] at e
  by_cases k9:90 < k
  ·rw [if_pos k9,if_pos (by omega)] at e
   injection e with e
   omega
  ·rw [if_neg k9] at e
   by_cases n9:90 < n
   ·rw [if_pos n9] at e
    split at e
    ·injection e with e; omega
    ·split at e
     ·injection e with e; omega
     ·injection e with e1 e2; cases e2
   ·rw [if_neg n9] at e
    split at e
    ·split at e
     ·injection e with e; omega
     ·split at e
      ·injection e with e; omega
      ·injection e with e1 e2; cases e2
    ·split at e
     ·split at e
      ·injection e with e; omega
      ·split at e
       ·injection e with e; omega
       ·injection e with e1 e2; cases e2
     ·split at e
      ·injection e with e1 e2; cases e2
      ·split at e
       ·injection e with e1 e2; cases e2
       ·injection e with e1 e2; omega
theorem l_step {n i j:Nat} (hi:i < n) (hj:j ∈ lr i):RchN (lRows n) i j:=.step .root (lRows_at hi) hj
theorem l_three {n:Nat}:∀ i,i <= 30 -> 3 * i < n -> ∀ j,j <= 3 * i -> RchN (lRows n) (3 * i) j
 | 0,_,_,j,hj=>by
  obtain rfl:j = 0:=by omega
  exact .root
 | i + 1,hi,hn,j,hj=>by
  obtain ⟨h1,h2,h3⟩:=lr_three (k:=i) (by omega)
  have e:3 * (i + 1) = 3 * i + 3:=by omega
  rw [e] at hn hj ⊢
  have a:RchN (lRows n) (3 * i + 3) (3 * i + 1):=l_step hn (by rw [h3]; simp)
  have b:RchN (lRows n) (3 * i + 3) (3 * i + 2):=l_step hn (by rw [h3]; simp)
  have c:RchN (lRows n) (3 * i + 3) (3 * i):=a.trans (l_step (by omega) (by rw [h1]; simp))
  by_cases z:j <= 3 * i
  ·exact c.trans (l_three i (by omega) (by omega) j z)
  ·have:j = 3 * i + 1 \/ j = 3 * i + 2 \/ j = 3 * i + 3:=by omega
   rcases this with rfl | rfl | rfl
   ·exact a
   ·exact b
   ·exact .root
theorem l_all {n:Nat}:∀ d,90 + d < n -> ∀ j,j <= 90 + d -> RchN (lRows n) (90 + d) j
 | 0,hn,j,hj=>l_three 30 (Nat.le_refl _) hn j hj
 | d + 1,hn,j,hj=>by
  by_cases z:j = 90 + (d + 1)
  ·rw [z]; exact .root
  ·have s:RchN (lRows n) (90 + (d + 1)) (90 + d):=l_step hn (by rw [lr_on (by omega)]; simp)
   exact s.trans (l_all d (by omega) j (by omega))
theorem l_down (n:Nat):Down (lRows n):=fun k r h=>by
 obtain ⟨_,rfl⟩:=lRows_of h
 exact lr_ok k
theorem l_iff {n k:Nat} (h9:90 <= k) (hk:k < n) (j:Nat):decide (j <= k) = true ↔ RchN (lRows n) k j:=by
 rw [decide_eq_true_iff]
 constructor
 ·intro h
  have:=l_all (n:=n) (k - 90) (by omega) j (by omega)
  rw [show 90 + (k - 90) = k by omega] at this
  exact this
 ·exact fun h=>h.le (l_down n)
theorem l_apart {n:Nat} (hn:2 < n):¬ RchN (lRows n) 2 1:=fun h=>by
 rcases (rchN_iff (lRows_at hn)).mp h with z | ⟨p,hp,z⟩
 ·omega
 ·have e:lr 2 = [0]:=(lr_three (k:=0) (by decide)).2.1
  rw [e] at hp
  rw [List.mem_singleton.mp hp] at z
  have:=z.le (l_down n)
  omega
end An
namespace An20
open PySem L2 An
seal L2.PS L2.PSs L2.PE L2.PT L2.PW L2.PA L2.PG L2.PGs L2.PI L2.PFi L2.PC
def lw (i:Nat):Str:=if i = 0 then "first" else if 90 < i then "on" else if i % 3 = 1 then "mine" ++ (toString ((i / 3:Nat):Int):Str) else if i % 3 = 2 then "yours" ++ (toString ((i / 3:Nat):Int):Str) else "join"
def lws (n:Nat):List Str:=(List.range n).map lw
theorem lws_succ (n:Nat):lws (n + 1) = lws n ++ [lw n]:=by
 unfold lws
 rw [List.range_succ,List.map_append]; rfl
theorem lw_line91:∀ k:Fin 91,lineB (lw k.val) = true:=by decide +kernel
theorem lw_line (k:Nat):lineB (lw k) = true:=by
 by_cases h:k < 91
 ·exact lw_line91 ⟨k,h⟩
 ·unfold lw
  rw [if_neg (by omega),if_pos (by omega)]
  decide +kernel
theorem lw_ne:∀ n:Fin 91,n.val % 3 = 2 -> lw (n.val - 1) ≠ lw n.val:=by decide +kernel
theorem lw_new {n k:Nat} (h:(lRows n)[k]? = some (lr n)):(lws n)[k]? ≠ some (lw n):=by
 obtain ⟨hk,e⟩:=lRows_of h
 obtain ⟨n9,n3,kn⟩:=lr_new hk e.symm
 have e2:(lws n)[k]? = some (lw k):=by
  unfold lws
  rw [List.getElem?_map,List.getElem?_range hk]; rfl
 rw [e2]
 intro z
 have:=lw_ne ⟨n,by omega⟩ n3
 rw [show n - 1 = k by omega] at this
 exact this (Option.some.inj z)
theorem lw_three:∀ k:Fin 30,lw (3 * k.val + 1) = "mine" ++ (toString ((k.val:Nat):Int):Str) /\ lw (3 * k.val + 2) = "yours" ++ (toString ((k.val:Nat):Int):Str) /\ lw (3 * k.val + 3) = "join" /\ ("mine":Str).length + (toString ((k.val:Nat):Int):Str).length <= 100 /\ ("yours":Str).length + (toString ((k.val:Nat):Int):Str).length <= 100:=by decide +kernel
structure LS (P:Program) (w:World) (K:PySem.W.Frag) (C:Addr) (H0 H:Hp) (x:Addr) (fp:List Addr) (root:Str) (S:List En) (n:Nat) (ns:List Str):Prop where
 same:Same H0 H
 fr:∀ c ∈ fp,H0 c = none
 sh:ShAt P w K C H x fp S
 sw:Sw S [root] root (lRows n) ns (lws n)
section
variable {P:Program} {w:World} {K:PySem.W.Frag} {C:Addr} {H0 H H':Hp} {x:Addr} {fp:List Addr} {root:Str} {S:List En} {n:Nat} {ns:List Str}
theorem LS.ins (h:LS P w K C H0 H x fp root S n ns) (s:Same H H'):LS P w K C H0 H' x fp root S n ns:=⟨h.same.trans s,h.fr,h.sh.same s,h.sw⟩
theorem LS.nl (h:LS P w K C H0 H x fp root S n ns):ns.length = n:=by rw [h.sw.len,qL]
theorem LS.sl (h:LS P w K C H0 H x fp root S n ns):S.length = 1 + n:=by have:=h.sw.slen; rw [qL] at this; exact this
theorem LS.put {aN aT:Addr} {v:V} {Q:VK} {E:XK} (h:LS P w K C H0 H x fp root S n ns) (hn:n < 1500) (hv:Dt K H (Th.note root ((lr n).map fun j=>ns.getD j "") (lw n)).dat v)
  (k:∀ H2 S' nm,Off fp H H2 -> LS P w K C H0 H2 x fp root S' (n + 1) (ns ++ [nm]) -> Q (.str nm) H2):spPut P w K C aN aT [.ref x,v] H Q E:=by
 obtain ⟨r1,r2,r3⟩:=lr_ok n
 refine put_note h.sh h.sw (by have:=h.sl; omega) (by rw [qL]; exact r1) r2 r3 (fun k hk=>lw_new hk) (lw_line n) hv fun H2 of sh sw=>?_
 refine k H2 _ _ of ⟨kG h.same h.fr of,h.fr,sh,?_⟩
 rw [lRows_succ,lws_succ]
 exact sw
theorem LS.lst (h:LS P w K C H0 H x fp root S n ns) {c:Addr} {xs ys:List V} (hc:H c = some (.lst xs)) (nc:H0 c = none):LS P w K C H0 (upd H c (.lst ys)) x fp root S n ns:=by
 have o:Off [c] H (upd H c (.lst ys)):=(Off.refl _ _).upd (List.mem_singleton.mpr rfl)
 have nt:∀ b ∈ [c],∀ xs,¬ Rd H b (.tup xs):=fun b hb zs=>by
  rw [List.mem_singleton.mp hb]
  exact kF hc (fun _ z=>(nomatch z)) (fun _ _ z=>(nomatch z)) zs
 exact ⟨fun d x e=>o d x (fun z=>by rw [List.mem_singleton.mp z,nc] at e; cases e) (h.same d x e),h.fr,h.sh.off nt o (fun d hd z=>xB h.sh.noseq hc (List.mem_singleton.mp z ▸ hd)),h.sw⟩
theorem jE {n:Nat} {ns:List Str} (h:ns.length = n + 1):atI (ns.map V.str) (-1) = some (.str (ns.getD n "")):=by
 rcases List.eq_nil_or_concat ns with z | ⟨l,y,z⟩
 ·rw [z] at h; cases h
 ·have z:ns = l ++ [y]:=by rw [z]; simp
  subst z
  have hl:l.length = n:=by rw [List.length_append] at h; simp at h; exact h
  rw [List.map_append,show [y].map V.str = [V.str y] from rfl,atI_last,List.getD_eq_getElem?_getD,List.getElem?_append_right (by omega),hl,Nat.sub_self]
  rfl
end
theorem take_names {ns:List Str} {k:Nat} (h:k < ns.length):((List.range (k + 1)).filter fun j=>decide (j <= k)).map (fun j=>ns.getD j "") = ns.take (k + 1):=by
 rw [List.filter_eq_self.mpr (fun j hj=>decide_eq_true (by have:=List.mem_range.mp hj; omega))]
 have e:=ns_range (ns.take (k + 1))
 rw [List.length_take,Nat.min_eq_left (by omega)] at e
 rw [← e]
 refine List.map_congr_left fun j hj=>?_
 have:=List.mem_range.mp hj
 rw [List.getD_eq_getElem?_getD,List.getD_eq_getElem?_getD,List.getElem?_take,if_pos this]
theorem eqv_strl (us:List Str):PyData.eqv (.list (us.map .str)) (.list (us.map .str)) = true:=by
 show PyData.eqvAll _ _ = _
 rw [qV,decide_eq_true rfl]
def spLong (P:Program) (w:World) (K:PySem.W.Frag) (C:Addr):Sp:=fun vs H Q _=>∃ m:Nat,vs = [.int m] /\ m <= 1200 /\ ∀ H',Same H H' -> Q (.bl true) H'
end An20
namespace An20
open PySem L2 An
seal L2.PS L2.PSs L2.PE L2.PT L2.PW L2.PA L2.PG L2.PGs L2.PI L2.PFi L2.PC
section
variable {P:Program} {w:World} {K:PySem.W.Frag} {mg:Str -> Option Value} {base:Heap} {t1 t2 t3 t4 t5 t6:Tok} {aL aC aN aT aA b1 b2 b3 b4 b5 b6 b7 b8 fP:Addr}
namespace g_long
abbrev st:Stmt:=top 71
theorem sc:FnScope ["_law_many","_law_shelf_here","_law_root","_law_names","_law_k","_law_both","_law_some"] ["_law_many"] (zC st):=⟨rfl,rfl,rfl,by decide +kernel,rfl,by decide +kernel,by decide +kernel⟩
theorem ok {f:Addr} {fd:FuncData} (F:Fun K "_law_long_good" "_law_long_good" st f fd) (T:Txt P w K mg t1 t2 t3 t4 t5 t6 aL aC aN aT aA b1 b2 b3 b4 b5 b6 b7 b8 fP) (M_Shelf:Mak P w K mg base aC 5 "Shelf" ["self","base"] (spInit P w K aC)) (M_put:MetX P w K mg base aC 7 "put" ["self","thing"] (spPut P w K aC aN aT)) (C_all_before:CalX P w K mg base 8 "all_before" ["store","name"] (spAB P w K aC b5)) (C_is_before:CalX P w K mg base 8 "is_before" ["store","one","other"] (spIsB P w K aC b5)):FnOk P w K mg base CX0 9 f fd ["_law_many"] (spLong P w K aC):=by
 refine F.ok sc (fun vs H Q E h=>?_) (fun cdv A outer s H vs Q E hr h=>?_)
 ·obtain ⟨m,rfl,_⟩:=h
  rfl
 ·obtain ⟨m,rfl,m12,kQ⟩:=h
  refine ⟨_,(zF (zY (i:=1) sc.nd rfl (Or.inr rfl) (pe_makC M_Shelf (hr.mono (by decide)) (zA pe_non zB)))
   (zF (zY (i:=2) sc.nd rfl (Or.inr rfl) (yQ (pv 1) T.cls M_put (hr.mono (by decide)) zP (zA (z8 (zA pe_str (zA (z8 zB) zB))) zB)))
   (zF (zY (i:=3) sc.nd rfl (Or.inr rfl) (yW (zA (yQ (pv 1) T.cls M_put (hr.mono (by decide)) zP (zA (z8 (zA pe_str (zA (pv 2) (zA (z8 zB) (zA pe_str zB))))) zB)) zB)))
   (zF (xN PassesOwn.never rfl (xJ rfl T.range (zA zH zB)) (zT (i:=4) sc.nd rfl (Or.inr rfl))
    (zF (ps_setc (sc:=zC st) (N:=["_law_many","_law_shelf_here","_law_root","_law_names","_law_k","_law_both","_law_some"]) (N':=["_law_word_here","_law_shelf_here","_law_root","_law_names","_law_k"]) (src:=[none,some 1,some 2,some 3,some 4]) ⟨by decide +kernel,rfl,rfl,by decide +kernel,by decide +kernel,by decide +kernel,by decide +kernel⟩ rfl rfl rfl (qD (z8 (zA pe_str (zA pe_str zB)))) (fun _ _ _ _=>(zT (i:=0) (show (["_law_word_here","_law_shelf_here","_law_root","_law_names","_law_k"]:List Str).Nodup by decide +kernel) rfl (Or.inl rfl))) (fun _ _ _ _=>qP) (fun _ _ _ _=>(yQ (pv 1) T.cls M_put (hr.mono (by decide)) zP (zA (z8 (zA pe_str (zA (pv 2) (zA (z8 (zA (zS (ix_list:IxR _ (rIxL K)) (pv 3) (pe_un j8 zH) (fun _ _=>rfl)) zB)) (zA (z9 y8 (pv 0) (z7 y7 (by rfl) T.str PyProof.Rows.boot_str (zA (pv 4) zB))) zB))))) zB))) sc.nd rfl (Or.inl rfl) (k:=5))
    (zG (zY (i:=3) sc.nd rfl (Or.inr rfl) (z9 j4 (z9 j4 (pv 3) (pv 5)) (yW (zA (yQ (pv 1) T.cls M_put (hr.mono (by decide)) zP (zA (z8 (zA pe_str (zA (pv 2) (zA (z7 jJ (by rfl) T.tuple PyProof.Rows.boot_tuple (zA (pv 5) zB)) (zA pe_str zB))))) zB)) zB)))))))
   (zF (xN PassesOwn.never rfl (xJ rfl T.range (zA (pv 0) zB)) (zT (i:=4) sc.nd rfl (Or.inr rfl))
    (zG (z5 (kP PySem.F.plainAttrs_list PySem.F.slot_list_append PySem.F.type_list_append xH (pv 3) (zA (yQ (pv 1) T.cls M_put (hr.mono (by decide)) zP (zA (z8 (zA pe_str (zA (pv 2) (zA (z8 (zA (zS (ix_list:IxR _ (rIxL K)) (pv 3) (pe_un j8 zH) (fun _ _=>rfl)) zB)) (zA pe_str zB))))) zB)) zB)))))
   (zF (yL (PW.pt (kR (zW (op_neD hr.units) (zX C_all_before (hr.mono (by decide)) zP (zA (pv 1) (zA (zS (ix_list:IxR _ (rIxL K)) (pv 3) (pe_un j8 zH) (fun _ _=>rfl)) zB))) (pv 3) (zU _)) (kD (zQ (K:=K) (zX C_is_before (hr.mono (by decide)) zP (zA (pv 1) (zA (zS (ix_list:IxR _ (rIxL K)) (pv 3) zH (fun _ _=>rfl)) (zA (zS (ix_list:IxR _ (rIxL K)) (pv 3) zH (fun _ _=>rfl)) zB)))) (fun _=>rfl)))))
    (zG (zO xO))
    zV)
   (zF (zY (i:=6) sc.nd rfl (Or.inl rfl) (yW (zA (z8 (zA (zS (ix_list:IxR _ (rIxL K)) (pv 3) zH (fun _ _=>rfl)) (zA (zS (ix_list:IxR _ (rIxL K)) (pv 3) zH (fun _ _=>rfl)) zB))) (zA (z8 (zA (zS (ix_list:IxR _ (rIxL K)) (pv 3) zH (fun _ _=>rfl)) (zA (zS (ix_list:IxR _ (rIxL K)) (pv 3) (pe_un j8 zH) (fun _ _=>rfl)) zB))) (zA (z8 (zA (zS (ix_list:IxR _ (rIxL K)) (pv 3) zH (fun _ _=>rfl)) (zA (zS (ix_list:IxR _ (rIxL K)) (pv 3) (pe_un j8 zH) (fun _ _=>rfl)) zB))) (zA (z8 (zA (zS (ix_list:IxR _ (rIxL K)) (pv 3) zH (fun _ _=>rfl)) (zA (zS (ix_list:IxR _ (rIxL K)) (pv 3) (pe_un j8 zH) (fun _ _=>rfl)) zB))) zB))))))
   (zF (yL (zW (op_neD hr.units) (xF (sc:=zC st) (N:=["_law_many","_law_shelf_here","_law_root","_law_names","_law_k","_law_both","_law_some"]) (N':=["_law_pair","_law_shelf_here"]) (src:=[none,some 1]) ⟨by decide +kernel,rfl,rfl,by decide +kernel,by decide +kernel,by decide +kernel,by decide +kernel⟩ rfl rfl rfl (x9 (pv 6)) (fun _ _ _ _=>(zT (i:=0) (show (["_law_pair","_law_shelf_here"]:List Str).Nodup by decide +kernel) rfl (Or.inl rfl))) (fun _ _ _ _=>(pf_one (yO (zQ (K:=K) (zX C_is_before (hr.mono (by decide)) zP (zA (pv 1) (zA (zS (ix_tup:IxR _ (rIxT K)) (pv 0) zH (fun _ _=>rfl)) (zA (zS (ix_tup:IxR _ (rIxT K)) (pv 0) zH (fun _ _=>rfl)) zB)))) (fun _=>rfl))))) (fun _ _ _ _=>(pv 0))) (yW zB) (zU _))
    (zG (zO xO))
    zV)
   (zG (zO (yX (pe_not (zX C_is_before (hr.mono (by decide)) zP (zA (pv 1) (zA (zS (ix_list:IxR _ (rIxL K)) (pv 3) (pe_un j8 zH) (fun _ _=>rfl)) (zA (zS (ix_list:IxR _ (rIxL K)) (pv 3) zH (fun _ _=>rfl)) zB))))) (xT (yI (op_eqD hr.units) (zX C_all_before (hr.mono (by decide)) zP (zA (pv 1) (zA (zS (ix_list:IxR _ (rIxL K)) (pv 3) zH (fun _ _=>rfl)) zB))) (pe_slice (sl_list:SlR _ (rSlL K)) (pv 3) po_none (po_some zH)) (zU _)))))))))))))),?_⟩
  refine fun x dx nx ndx ne=>⟨x,dx,.non,[],rfl,zD,by rw [zI ne]; exact zD,ne,.inl ⟨rfl,rfl⟩,fun fp H3 hfp off0 sh=>⟨rfl,?_⟩⟩
  obtain ⟨s3,fr3⟩:=new_facts nx ndx ne hfp off0
  obtain ⟨ix,i1,i2,i3,hix⟩:=qZ sh
  refine ⟨_,rfl,x,ix,_,rfl,hix,rfl,lineN 0,fun p1 n1=>⟨lineN 2,fun p2 n2=>?_⟩⟩
  have v1:=zE (o:=.tup []) n1
  have v2:=zE (o:=.tup [V.str "tree",V.ref p1]) n2
  have d0:Dt K (upd (upd H3 p1 (.tup [])) p2 (.tup [V.str "tree",V.ref p1])) (Th.tree []).dat (.ref p2):=⟨p2,_,rfl,SqT.of zD,_,_,rfl,rfl,_,_,rfl,⟨p1,[],rfl,SqT.of (v2 _ _ zD),rfl⟩,rfl⟩
  have s5:=s3.trans (v1.trans v2)
  have sh5:=sh.same (v1.trans v2)
  delta tNil
  dsimp only
  show spPut P w K aC aN aT [V.ref x,V.ref p2] (upd (upd H3 p1 (.tup [])) p2 (.tup [V.str "tree",V.ref p1])) _ _
  generalize upd (upd H3 p1 (.tup [])) p2 (.tup [V.str "tree",V.ref p1]) = H5 at d0 s5 sh5 ⊢
  refine put_tree sh5 d0 fun H6 of6 sh6=>?_
  have sw0:=sw_nil sh6.good
  generalize (entT [] (Th.tree [])).nm = root at sw0 ⊢
  generalize [entT [] (Th.tree [])] = S0 at sw0 sh6
  have L0:LS P w K aC H H6 x fp root S0 0 []:=⟨kG s5 fr3 of6,fr3,sh6,sw0⟩
  clear d0 v1 v2 n1 n2 hix sh5 sh6 s5 s3 sh of6 sw0 fr3 hfp off0
  obtain ⟨ix,i1,i2,i3,hix⟩:=qZ L0.sh
  refine ⟨_,rfl,x,ix,_,rfl,hix,rfl,_,rfl,lineN 0,fun p1 n1=>⟨lineN 4,fun p2 n2=>?_⟩⟩
  have v1:=zE (o:=.tup []) n1
  have v2:=zE (o:=.tup [V.str "note",V.str root,V.ref p1,V.str "first"]) n2
  have d0:Dt K (upd (upd H6 p1 (.tup [])) p2 (.tup [V.str "note",V.str root,V.ref p1,V.str "first"])) (Th.note root ((lr 0).map fun j=>([]:List Str).getD j "") (lw 0)).dat (.ref p2):=⟨p2,_,rfl,SqT.of zD,_,_,rfl,rfl,_,_,rfl,rfl,_,_,rfl,⟨p1,[],rfl,SqT.of (v2 _ _ zD),rfl⟩,_,_,rfl,rfl,rfl⟩
  have L1:=L0.ins (v1.trans v2)
  try dsimp only
  show spPut P w K aC aN aT [V.ref x,V.ref p2] (upd (upd H6 p1 (.tup [])) p2 (.tup [V.str "note",V.str root,V.ref p1,V.str "first"])) _ _
  generalize upd (upd H6 p1 (.tup [])) p2 (.tup [V.str "note",V.str root,V.ref p1,V.str "first"]) = H7 at d0 L1 ⊢
  refine L1.put (by decide) d0 fun H8 S8 nm8 of8 L8=>?_
  refine ⟨lineN 1,fun nl nnl=>?_⟩
  have nl0:H nl = none:=L8.same.free nnl
  have L9:=L8.ins (zE (o:=.lst [V.str nm8]) nnl)
  have hnl9:upd H8 nl (.lst [V.str nm8]) nl = some (.lst (([] ++ [nm8]:List Str).map V.str)):=zD
  generalize [] ++ [nm8] = ns9 at L9 hnl9 L8
  show gName 3 (V.ref nl) _ (upd H8 nl (.lst [V.str nm8])) _
  generalize upd H8 nl (.lst [V.str nm8]) = H9 at L9 hnl9 ⊢
  clear d0 v1 v2 n1 n2 hix L0 L1 L8 nnl of8
  refine ⟨_,rfl,by decide,by decide,xQ (lo:=0) (n:=30) (fun t σ H'=>∃ nl o4 o5 S ns,σ = [some (.int m),some (.ref x),some (.str root),some (.ref nl),o4,o5,none] /\ LS P w K aC H H' x fp root S (3 * t + 1) ns /\ H' nl = some (.lst (ns.map V.str)) /\ H nl = none)
   ⟨nl,none,none,S8,ns9,rfl,L9,hnl9,nl0⟩ ?_ ?_⟩
  ·clear L9 hnl9
   rintro t σ H2 ht ⟨nl,o4,o5,S,ns,rfl,L,hnl,nl0'⟩
   have et:(0:Int) + (t:Int) = (t:Int):=by omega
   rw [et]
   obtain ⟨w1,w2,w3,wl1,wl2⟩:=lw_three ⟨t,ht⟩
   obtain ⟨lr1,lr2,lr3⟩:=lr_three ht
   refine ⟨lineN 2,fun tp ntp=>?_⟩
   have vt:=zE (o:=.tup [V.str "mine",V.str "yours"]) ntp
   have Lt:=L.ins vt
   have hnlt:=vt _ _ hnl
   have htp:upd H2 tp (.tup [V.str "mine",V.str "yours"]) tp = some (.tup [V.str "mine",V.str "yours"]):=zD
   have nsl:=L.nl
   generalize upd H2 tp (.tup [V.str "mine",V.str "yours"]) = H3 at Lt hnlt htp ⊢
   clear L hnl vt ntp
   refine ⟨tp,rfl,⟨_,SqT.of htp⟩,qE (K:=K) (a:=tp) (xs:=[V.str "mine",V.str "yours"]) (fun u ys σ H5=>∃ o S' nu,σ = [o,some (.ref x),some (.str root),some (.ref nl),some (.int t)] /\ LS P w K aC H H5 x fp root S' (3 * t + 1 + u) (ns ++ nu) /\ ys = nu.map V.str /\ nu.length = u /\ H5 nl = some (.lst (ns.map V.str)) /\ H5 tp = some (.tup [V.str "mine",V.str "yours"]))
    ⟨none,S,[],rfl,by rw [List.append_nil]; exact Lt,rfl,rfl,hnlt,htp⟩ (lineN 2) ?_ ?_ ?_⟩
   ·rintro u ys σ H5 hu ⟨o,S',nu,rfl,L5,rfl,nul,hn5,ht5⟩
    exact ⟨SqT.of ht5,by rw [List.length_map,nul]; exact Nat.le_refl _⟩
   ·rintro u v ys σ H5 hv ⟨o,S',nu,rfl,L5,rfl,nul,hn5,ht5⟩
    have gd:(ns ++ nu).getD (3 * t) "" = ns.getD (3 * t) "":=by rw [List.getD_eq_getElem?_getD,List.getElem?_append_left (by omega),← List.getD_eq_getElem?_getD]
    obtain ⟨wd,rfl,ewd,wlen,elr⟩:∃ wd:Str,v = .str wd /\ lw (3 * t + 1 + u) = wd ++ (toString ((t:Nat):Int):Str) /\ wd.length + (toString ((t:Nat):Int):Str).length <= 100 /\ lr (3 * t + 1 + u) = [3 * t]:=by
     match u,hv with
     | 0,hv=>cases hv; exact ⟨_,rfl,w1,wl1,lr1⟩
     | 1,hv=>cases hv; exact ⟨_,rfl,w2,wl2,lr2⟩
     | u + 2,hv=>exact nomatch hv
    obtain ⟨ix,i1,i2,i3,hix⟩:=qZ L5.sh
    refine ⟨_,rfl,x,ix,_,rfl,hix,rfl,_,rfl,_,rfl,_,rfl,nl,_,_,_,rfl,rfl,SqL.of hn5,jE nsl,lineN 1,fun p1 n1=>⟨_,rfl,_,rfl,_,rfl,Nat.lt_of_le_of_lt (Nat.log2_le_self _) (by omega),_,_,rfl,rfl,le_line (Nat.le_trans wlen (by decide)),lineN 4,fun p2 n2=>?_⟩⟩
    have v1:=zE (o:=.tup [V.str (ns.getD (3 * t) "")]) n1
    have v2:=zE (o:=.tup [V.str "note",V.str root,V.ref p1,V.str (wd ++ (toString ((t:Nat):Int):Str))]) n2
    have d0:Dt K (upd (upd H5 p1 (.tup [V.str (ns.getD (3 * t) "")])) p2 (.tup [V.str "note",V.str root,V.ref p1,V.str (wd ++ (toString ((t:Nat):Int):Str))])) (Th.note root ((lr (3 * t + 1 + u)).map fun j=>(ns ++ nu).getD j "") (lw (3 * t + 1 + u))).dat (.ref p2):=by
     rw [elr,ewd,show [3 * t].map (fun j=>(ns ++ nu).getD j "") = [ns.getD (3 * t) ""] by rw [← gd]; rfl]
     exact ⟨p2,_,rfl,SqT.of zD,_,_,rfl,rfl,_,_,rfl,rfl,_,_,rfl,⟨p1,_,rfl,SqT.of (v2 _ _ zD),DtAll.strs [ns.getD (3 * t) ""]⟩,_,_,rfl,rfl,rfl⟩
    have L6:=L5.ins (v1.trans v2)
    have hn6:=(v1.trans v2) _ _ hn5
    have ht6:=(v1.trans v2) _ _ ht5
    try dsimp only
    show spPut P w K aC aN aT [V.ref x,V.ref p2] (upd (upd H5 p1 (.tup [V.str (ns.getD (3 * t) "")])) p2 (.tup [V.str "note",V.str root,V.ref p1,V.str (wd ++ (toString ((t:Nat):Int):Str))])) _ _
    generalize upd (upd H5 p1 (.tup [V.str (ns.getD (3 * t) "")])) p2 (.tup [V.str "note",V.str root,V.ref p1,V.str (wd ++ (toString ((t:Nat):Int):Str))]) = H6 at d0 L6 hn6 ht6 ⊢
    refine L6.put (by have:u < 2:=(List.getElem?_eq_some_iff.mp hv).1; omega) d0 fun H7 S7 nm7 of7 L7=>?_
    refine ⟨_,S7,nu ++ [nm7],rfl,by rw [← List.append_assoc]; exact L7,by rw [List.map_append]; rfl,by rw [List.length_append,nul]; rfl,of7 _ _ (xB L6.sh.noseq hn6) hn6,of7 _ _ (fun z=>?_) ht6⟩
    obtain ⟨o,eo,h2,_⟩:=L6.sh.noseq tp z
    rw [ht6] at eo
    cases eo
    exact h2 _ rfl
   ·rintro ys σ H5 ⟨o,S',nu,rfl,L5,rfl,nul,hn5,ht5⟩ bl nbl
    have nul:nu.length = 2:=nul
    have L5:LS P w K aC H H5 x fp root S' (3 * t + 3) (ns ++ nu):=L5
    have ub:=zE (o:=.lst (nu.map V.str)) nbl
    have L6:=L5.ins ub
    have hn6:=ub _ _ hn5
    have hb6:upd H5 bl (.lst (nu.map V.str)) bl = some (.lst (nu.map V.str)):=zD
    show gName 5 (V.ref bl) _ (upd H5 bl (.lst (nu.map V.str))) _
    generalize upd H5 bl (.lst (nu.map V.str)) = H6 at L6 hn6 hb6 ⊢
    clear L5 hn5 ht5 ub nbl
    refine ⟨_,rfl,_,rfl,nl,bl,_,_,rfl,rfl,hn6,hb6,le_line (by rw [List.length_map,List.length_map]; omega),fun l1 m1=>?_⟩
    have v1:=zE (o:=.lst (ns.map V.str ++ nu.map V.str)) m1
    have L7:=L6.ins v1
    have hb7:=v1 _ _ hb6
    have hl7:upd H6 l1 (.lst (ns.map V.str ++ nu.map V.str)) l1 = some (.lst (ns.map V.str ++ nu.map V.str)):=zD
    generalize upd H6 l1 (.lst (ns.map V.str ++ nu.map V.str)) = H7 at L7 hb7 hl7 ⊢
    obtain ⟨ix,i1,i2,i3,hix⟩:=qZ L7.sh
    refine ⟨_,rfl,x,ix,_,rfl,hix,rfl,_,rfl,_,rfl,bl,_,rfl,.inl ⟨SqL.of hb7,fun p1 n1=>⟨lineN 4,fun p2 n2=>?_⟩⟩⟩
    have u1:=zE (o:=.tup (nu.map V.str)) n1
    have u2:=zE (o:=.tup [V.str "note",V.str root,V.ref p1,V.str "join"]) n2
    have enu:(lr (3 * t + 3)).map (fun j=>(ns ++ nu).getD j "") = nu:=by
     rw [lr3]
     match nu,nul with
     | [a,b],_ =>
      show [(ns ++ [a,b]).getD (3 * t + 1) "",(ns ++ [a,b]).getD (3 * t + 2) ""] = [a,b]
      rw [List.getD_eq_getElem?_getD,List.getD_eq_getElem?_getD,List.getElem?_append_right (by omega),List.getElem?_append_right (by omega),nsl,Nat.sub_self,show 3 * t + 2 - (3 * t + 1) = 1 by omega]
      rfl
    have d0:Dt K (upd (upd H7 p1 (.tup (nu.map V.str))) p2 (.tup [V.str "note",V.str root,V.ref p1,V.str "join"])) (Th.note root ((lr (3 * t + 3)).map fun j=>(ns ++ nu).getD j "") (lw (3 * t + 3))).dat (.ref p2):=by
     rw [enu,w3]
     exact ⟨p2,_,rfl,SqT.of zD,_,_,rfl,rfl,_,_,rfl,rfl,_,_,rfl,⟨p1,_,rfl,SqT.of (u2 _ _ zD),DtAll.strs nu⟩,_,_,rfl,rfl,rfl⟩
    have L8:=L7.ins (u1.trans u2)
    have hl8:=(u1.trans u2) _ _ hl7
    try dsimp only
    show spPut P w K aC aN aT [V.ref x,V.ref p2] (upd (upd H7 p1 (.tup (nu.map V.str))) p2 (.tup [V.str "note",V.str root,V.ref p1,V.str "join"])) _ _
    generalize upd (upd H7 p1 (.tup (nu.map V.str))) p2 (.tup [V.str "note",V.str root,V.ref p1,V.str "join"]) = H8 at d0 L8 hl8 ⊢
    refine L8.put (by omega) d0 fun H9 S9 nm9 of9 L9=>?_
    have hl9:=of9 _ _ (xB L8.sh.noseq hl8) hl8
    refine ⟨lineN 1,fun l2 m2=>?_⟩
    have q2:=zE (o:=.lst [V.str nm9]) m2
    refine ⟨l1,l2,_,_,rfl,rfl,q2 _ _ hl9,zD,le_line (by rw [List.length_append,List.length_map,List.length_map]; show _ + 1 <= _; omega),fun l3 m3=>?_⟩
    have q3:=zE (o:=.lst (ns.map V.str ++ nu.map V.str ++ [V.str nm9])) m3
    refine ⟨l3,_,_,S9,ns ++ nu ++ [nm9],rfl,?_,?_,(L9.ins q2).same.free m3⟩
    ·rw [show 3 * (t + 1) + 1 = 3 * t + 3 + 1 by omega]
     exact L9.ins (q2.trans q3)
    ·rw [zD,List.map_append,List.map_append]; rfl
  ·clear L9 hnl9 nl0
   rintro σ H2 ⟨nl,o4,o5,S,ns,rfl,L,hnl,nl0⟩
   have L:LS P w K aC H H2 x fp root S 91 ns:=L
   refine ⟨_,rfl,_,rfl,by omega,by omega,xQ (lo:=0) (n:=((m:Nat):Int).toNat) (fun t σ H'=>∃ o4 S ns,σ = [some (.int m),some (.ref x),some (.str root),some (.ref nl),o4,o5,none] /\ LS P w K aC H H' x fp root S (91 + t) ns /\ H' nl = some (.lst (ns.map V.str)))
    ⟨o4,S,ns,rfl,L,hnl⟩ ?_ ?_⟩
   ·clear L hnl
    rintro t σ H3 ht ⟨o4,S,ns,rfl,L,hnl⟩
    have nsl:ns.length = 90 + t + 1:=by rw [L.nl]; omega
    obtain ⟨ix,i1,i2,i3,hix⟩:=qZ L.sh
    refine ⟨_,rfl,.inl ⟨rfl,_,SqL.of hnl⟩,_,rfl,x,ix,_,rfl,hix,rfl,_,rfl,_,rfl,_,rfl,nl,_,_,_,rfl,rfl,SqL.of hnl,jE nsl,lineN 1,fun p1 n1=>⟨lineN 4,fun p2 n2=>?_⟩⟩
    have v1:=zE (o:=.tup [V.str (ns.getD (90 + t) "")]) n1
    have v2:=zE (o:=.tup [V.str "note",V.str root,V.ref p1,V.str "on"]) n2
    have ewd:lw (91 + t) = "on":=by unfold lw; rw [if_neg (by omega),if_pos (by omega)]
    have elr:lr (91 + t) = [90 + t]:=by rw [lr_on (by omega)]; congr 1; omega
    have d0:Dt K (upd (upd H3 p1 (.tup [V.str (ns.getD (90 + t) "")])) p2 (.tup [V.str "note",V.str root,V.ref p1,V.str "on"])) (Th.note root ((lr (91 + t)).map fun j=>ns.getD j "") (lw (91 + t))).dat (.ref p2):=by
     rw [elr,ewd]
     exact ⟨p2,_,rfl,SqT.of zD,_,_,rfl,rfl,_,_,rfl,rfl,_,_,rfl,⟨p1,_,rfl,SqT.of (v2 _ _ zD),DtAll.strs [ns.getD (90 + t) ""]⟩,_,_,rfl,rfl,rfl⟩
    have L4:=L.ins (v1.trans v2)
    have hn4:=(v1.trans v2) _ _ hnl
    try dsimp only
    show spPut P w K aC aN aT [V.ref x,V.ref p2] (upd (upd H3 p1 (.tup [V.str (ns.getD (90 + t) "")])) p2 (.tup [V.str "note",V.str root,V.ref p1,V.str "on"])) _ _
    generalize upd (upd H3 p1 (.tup [V.str (ns.getD (90 + t) "")])) p2 (.tup [V.str "note",V.str root,V.ref p1,V.str "on"]) = H4 at d0 L4 hn4 ⊢
    refine L4.put (by omega) d0 fun H5 S5 nm5 of5 L5=>?_
    have hn5:=of5 _ _ (xB L4.sh.noseq hn4) hn4
    refine ⟨nl,_,_,rfl,rfl,hn5,qG (by rw [List.length_map]; omega),_,S5,ns ++ [nm5],rfl,L5.lst hn5 nl0,?_⟩
    rw [zD,List.map_append]; rfl
   ·clear L hnl
    rintro σ H3 ⟨o4,S,ns,rfl,L,hnl⟩
    have etm:91 + ((m:Nat):Int).toNat = 90 + m + 1:=by omega
    rw [etm] at L
    have nsl:=L.nl
    have rl:(lRows (90 + m + 1)).length = 90 + m + 1:=qL _
    have note:∀ k,k < 90 + m + 1 -> formD S (.str (ns.getD k "")) "note" = true:=fun k hk=>L.sw.noteN (by omega)
    have okn:∀ z ∈ ns,PyData.strOk z = true:=fun z hz=>by
     have:z ∈ S.map En.nm:=by rw [L.sw.nm]; exact List.mem_append_right _ hz
     obtain ⟨e,he,rfl⟩:=List.mem_map.mp this
     exact L.sw.ok e he
    have vs:=sw_vs L.sw L.sh
    refine ⟨_,rfl,_,rfl,_,rfl,nl,_,_,_,rfl,rfl,SqL.of hnl,jE nsl,x,fp,S,.str (ns.getD (90 + m) ""),_,rfl,vs,rfl,fun y ex hx l H4 F' e4 nl4 mF hl=>?_,fun no=>?_⟩
    rotate_left
    ·rw [note _ (by omega)] at no
     cases no
    cases ex
    rw [L.sw.before (by omega) mF (q:=fun j=>decide (j <= 90 + m)) (l_iff (by omega) (by omega)) (Nat.lt_succ_self _) (by omega),take_names (by omega),List.take_of_length_le (by omega)] at hl
    refine ⟨_,rfl,.list (ns.map .str),.list (ns.map .str),⟨l,_,rfl,SqL.of hl,DtAll.strs _⟩,⟨nl,_,rfl,SqL.of (e4 _ _ hnl),DtAll.strs _⟩,(yJ okn).1,(yJ okn).1,_,rfl,?_⟩
    rw [eqv_strl]
    refine iteNF ?_
    have hn4:=e4 _ _ hnl
    have at0:∀ k,k < 90 + m + 1 -> atI (ns.map V.str) (k:Int) = some (.str (ns.getD k "")):=fun k hk=>xA (by omega)
    refine ⟨_,rfl,_,rfl,nl,_,_,_,rfl,rfl,SqL.of hn4,at0 1 (by omega),_,rfl,nl,_,_,_,rfl,rfl,SqL.of hn4,at0 2 (by omega),x,fp,S,.str (ns.getD 1 ""),.str (ns.getD 2 ""),_,_,rfl,vs.same e4,rfl,rfl,fun y1 y2 ex ey hx hy H5 b e5 hb=>?_,fun no=>?_⟩
    rotate_left
    ·rw [note _ (by omega),note _ (by omega)] at no
     rcases no with z | z <;> cases z
    cases ex
    cases ey
    rw [L.sw.rchN (by omega) (by omega)] at hb
    obtain rfl:b = false:=by
     cases b with
     | false=>rfl
     | true=>exact absurd (hb.mp rfl) (l_apart (by omega))
    refine ⟨false,rfl,iteF ?_⟩
    have e35:=e4.trans e5
    have hn5:=e35 _ _ hnl
    have vs5:=vs.same e35
    refine ⟨_,rfl,nl,_,_,_,rfl,rfl,SqL.of hn5,at0 0 (by omega),_,rfl,nl,_,_,_,rfl,rfl,SqL.of hn5,at0 90 (by omega),lineN 2,fun q1 n1=>?_⟩
    have g1:=zE (o:=.tup [V.str (ns.getD 0 ""),V.str (ns.getD 90 "")]) n1
    refine ⟨_,rfl,nl,_,_,_,rfl,rfl,SqL.of (g1 _ _ hn5),at0 1 (by omega),_,rfl,_,rfl,nl,_,_,_,rfl,rfl,SqL.of (g1 _ _ hn5),jE nsl,lineN 2,fun q2 n2=>?_⟩
    have g2:=zE (o:=.tup [V.str (ns.getD 1 ""),V.str (ns.getD (90 + m) "")]) n2
    have g12:=g1.trans g2
    refine ⟨_,rfl,nl,_,_,_,rfl,rfl,SqL.of (g12 _ _ hn5),at0 90 (by omega),_,rfl,_,rfl,nl,_,_,_,rfl,rfl,SqL.of (g12 _ _ hn5),jE nsl,lineN 2,fun q3 n3=>?_⟩
    have g3:=zE (o:=.tup [V.str (ns.getD 90 ""),V.str (ns.getD (90 + m) "")]) n3
    have g13:=g12.trans g3
    refine ⟨_,rfl,nl,_,_,_,rfl,rfl,SqL.of (g13 _ _ hn5),at0 0 (by omega),_,rfl,_,rfl,nl,_,_,_,rfl,rfl,SqL.of (g13 _ _ hn5),jE nsl,lineN 2,fun q4 n4=>?_⟩
    have g4:=zE (o:=.tup [V.str (ns.getD 0 ""),V.str (ns.getD (90 + m) "")]) n4
    refine ⟨lineN 4,fun sl nsl2=>?_⟩
    have g5:=zE (o:=.lst [V.ref q1,V.ref q2,V.ref q3,V.ref q4]) nsl2
    have h1:=g5 _ _ (g4 _ _ (g3 _ _ (g2 _ _ (zD (H:=H5) (a:=q1) (o:=.tup [V.str (ns.getD 0 ""),V.str (ns.getD 90 "")])))))
    have h2:=g5 _ _ (g4 _ _ (g3 _ _ (zD (H:=upd H5 q1 (.tup [V.str (ns.getD 0 ""),V.str (ns.getD 90 "")])) (a:=q2) (o:=.tup [V.str (ns.getD 1 ""),V.str (ns.getD (90 + m) "")]))))
    have h3:=g5 _ _ (g4 _ _ (zD (H:=upd (upd H5 q1 (.tup [V.str (ns.getD 0 ""),V.str (ns.getD 90 "")])) q2 (.tup [V.str (ns.getD 1 ""),V.str (ns.getD (90 + m) "")])) (a:=q3) (o:=.tup [V.str (ns.getD 90 ""),V.str (ns.getD (90 + m) "")])))
    have h4:=g5 _ _ (zD (H:=upd (upd (upd H5 q1 (.tup [V.str (ns.getD 0 ""),V.str (ns.getD 90 "")])) q2 (.tup [V.str (ns.getD 1 ""),V.str (ns.getD (90 + m) "")])) q3 (.tup [V.str (ns.getD 90 ""),V.str (ns.getD (90 + m) "")])) (a:=q4) (o:=.tup [V.str (ns.getD 0 ""),V.str (ns.getD (90 + m) "")]))
    have e56:=(g13.trans g4).trans g5
    have hsl:upd (upd (upd (upd (upd H5 q1 (.tup [V.str (ns.getD 0 ""),V.str (ns.getD 90 "")])) q2 (.tup [V.str (ns.getD 1 ""),V.str (ns.getD (90 + m) "")])) q3 (.tup [V.str (ns.getD 90 ""),V.str (ns.getD (90 + m) "")])) q4 (.tup [V.str (ns.getD 0 ""),V.str (ns.getD (90 + m) "")])) sl (.lst [V.ref q1,V.ref q2,V.ref q3,V.ref q4]) sl = some (.lst [V.ref q1,V.ref q2,V.ref q3,V.ref q4]):=zD
    show gName 6 (V.ref sl) _ (upd (upd (upd (upd (upd H5 q1 (.tup [V.str (ns.getD 0 ""),V.str (ns.getD 90 "")])) q2 (.tup [V.str (ns.getD 1 ""),V.str (ns.getD (90 + m) "")])) q3 (.tup [V.str (ns.getD 90 ""),V.str (ns.getD (90 + m) "")])) q4 (.tup [V.str (ns.getD 0 ""),V.str (ns.getD (90 + m) "")])) sl (.lst [V.ref q1,V.ref q2,V.ref q3,V.ref q4])) _
    generalize upd (upd (upd (upd (upd H5 q1 (.tup [V.str (ns.getD 0 ""),V.str (ns.getD 90 "")])) q2 (.tup [V.str (ns.getD 1 ""),V.str (ns.getD (90 + m) "")])) q3 (.tup [V.str (ns.getD 90 ""),V.str (ns.getD (90 + m) "")])) q4 (.tup [V.str (ns.getD 0 ""),V.str (ns.getD (90 + m) "")])) sl (.lst [V.ref q1,V.ref q2,V.ref q3,V.ref q4]) = H6 at h1 h2 h3 h4 e56 hsl ⊢
    have e36:=e35.trans e56
    have pairs:∀ (u:Nat) (v:V),[V.ref q1,V.ref q2,V.ref q3,V.ref q4][u]? = some v -> ∃ q i j,v = .ref q /\ H6 q = some (.tup [V.str (ns.getD i ""),V.str (ns.getD j "")]) /\ i <= j /\ 90 <= j /\ j < 90 + m + 1:=fun u v hv=>by
     match u,hv with
     | 0,hv=>cases hv; exact ⟨q1,0,90,rfl,h1,by omega,by omega,by omega⟩
     | 1,hv=>cases hv; exact ⟨q2,1,90 + m,rfl,h2,by omega,by omega,by omega⟩
     | 2,hv=>cases hv; exact ⟨q3,90,90 + m,rfl,h3,by omega,by omega,by omega⟩
     | 3,hv=>cases hv; exact ⟨q4,0,90 + m,rfl,h4,by omega,by omega,by omega⟩
     | u + 4,hv=>exact nomatch hv
    clear h1 h2 h3 h4 g1 g2 g3 g4 g5 g12 g13 n1 n2 n3 n4 nsl2
    refine ⟨_,rfl,sl,rfl,⟨_,SqL.of hsl⟩,jH (K:=K) (a:=sl) (xs:=[V.ref q1,V.ref q2,V.ref q3,V.ref q4]) (fun u ys σ H7=>∃ o,σ = [o,some (.ref x)] /\ Same H6 H7 /\ ys = []) ⟨none,rfl,Same.refl _,rfl⟩ (lineN 4) ?_ ?_ ?_⟩
    ·rintro u ys σ H7 hu ⟨o,rfl,e7,rfl⟩
     exact ⟨SqL.of (e7 _ _ hsl),Nat.zero_le _⟩
    ·rintro u v ys σ H7 hv ⟨o,rfl,e7,rfl⟩
     obtain ⟨q,i,j,rfl,hq,ij,j9,jn⟩:=pairs u v hv
     have hq7:=e7 _ _ hq
     refine ⟨_,rfl,_,rfl,q,_,_,_,rfl,rfl,SqT.of hq7,rfl,_,rfl,q,_,_,_,rfl,rfl,SqT.of hq7,rfl,x,fp,S,.str (ns.getD i ""),.str (ns.getD j ""),_,_,rfl,vs.same (e36.trans e7),rfl,rfl,fun y1 y2 ex ey hx hy H8 b e8 hb=>?_,fun no=>?_⟩
     rotate_left
     ·rw [note _ (by omega),note _ (by omega)] at no
      rcases no with z | z <;> cases z
     cases ex
     cases ey
     rw [L.sw.rchN (by omega) (by omega)] at hb
     have bt:b = true:=hb.mpr ((l_iff j9 jn i).mp (decide_eq_true ij))
     subst bt
     exact ⟨true,rfl,iteNF ⟨_,rfl,e7.trans e8,rfl⟩⟩
    ·rintro ys σ H7 ⟨o,rfl,e7,rfl⟩ cl ncl
     have c1:=zE (o:=.lst []) ncl
     refine ⟨Nat.zero_le _,fun c2l nc2=>?_⟩
     have c2:=zE (o:=.lst []) nc2
     refine ⟨.list [],.list [],⟨cl,[],rfl,SqL.of (c2 _ _ zD),rfl⟩,⟨c2l,[],rfl,SqL.of zD,rfl⟩,by decide +kernel,by decide +kernel,_,rfl,?_⟩
     rw [show PyData.eqv (.list []) (.list []) = true from rfl]
     refine iteNF ?_
     have e38:=((e36.trans e7).trans c1).trans c2
     have hn8:=e38 _ _ hnl
     have vs8:=vs.same e38
     generalize upd (upd H7 cl (.lst [])) c2l (.lst []) = H8 at e38 hn8 vs8 ⊢
     refine ⟨_,rfl,_,rfl,_,rfl,nl,_,_,_,rfl,rfl,SqL.of hn8,jE nsl,_,rfl,nl,_,_,_,rfl,rfl,SqL.of hn8,at0 0 (by omega),x,fp,S,.str (ns.getD (90 + m) ""),.str (ns.getD 0 ""),_,_,rfl,vs8,rfl,rfl,fun y1 y2 ex ey hx hy H9 b e9 hb=>?_,fun no=>?_⟩
     rotate_left
     ·rw [note _ (by omega),note _ (by omega)] at no
      rcases no with z | z <;> cases z
     cases ex
     cases ey
     rw [L.sw.rchN (by omega) (by omega)] at hb
     obtain rfl:b = false:=by
      cases b with
      | false=>rfl
      | true =>
       have:=(hb.mp rfl).le (l_down _)
       omega
     refine ⟨false,rfl,true,rfl,iteT ?_⟩
     have e39:=e38.trans e9
     have hn9:=e39 _ _ hnl
     refine ⟨_,rfl,_,rfl,nl,_,_,_,rfl,rfl,SqL.of hn9,at0 90 (by omega),x,fp,S,.str (ns.getD 90 ""),_,rfl,vs.same e39,rfl,fun y ex hx l H10 F' e10 nl10 mF hl=>?_,fun no=>?_⟩
     rotate_left
     ·rw [note _ (by omega)] at no
      cases no
     cases ex
     rw [L.sw.before (by omega) mF (q:=fun j=>decide (j <= 90)) (l_iff (by omega) (by omega)) (Nat.lt_succ_self _) (by omega),take_names (by omega)] at hl
     refine ⟨_,rfl,_,rfl,nl,_,rfl,SqL.of (e10 _ _ hn9),fun p3 n3=>?_⟩
     rw [cut_to (by decide:(0:Int) <= 91),← List.map_take]
     have u3:=zE (o:=.lst ((ns.take 91).map V.str)) n3
     have okt:∀ z ∈ ns.take 91,PyData.strOk z = true:=fun z hz=>okn z (List.mem_of_mem_take hz)
     refine ⟨.list ((ns.take 91).map .str),.list ((ns.take 91).map .str),⟨l,_,rfl,SqL.of (u3 _ _ hl),DtAll.strs _⟩,⟨p3,_,rfl,SqL.of zD,DtAll.strs _⟩,(yJ okt).1,(yJ okt).1,?_⟩
     rw [eqv_strl]
     exact kQ _ (((L.same.trans e39).trans e10).trans u3)
end g_long
end
end An20
namespace L2
open PySem PySem.Spec PyProof.Rows
section
variable {X:Cx} {K:PySem.W.Frag}
theorem pe_callC0 {k:Nat} {x:Str} {ps:List Str} {sp:Sp} {p pos:Pos} (C:Cal X.prog X.w X.K X.mg X.base k x ps sp) (hr:Room k X.A) (hg:Gl X x:=by rfl) (hdb:(x == ("__debug__":Str)) = false:=by decide):PE X (.Call (.Name x p) [] [] pos) (tCall sp [] E0 tNil):=by
 obtain ⟨f,fd,F,hm,hk,hb⟩:=C.ex
 exact pe_call0 F hr hg hm hk hb .nil pass0 hdb
theorem op_neDK (hu:X.A.units + 64 < cLine) (hK:X.K = K:=by rfl):OpR X (compareOp .NotEq) (rNeD K):=by
 subst hK
 exact op_neD hu
end
end L2
namespace L2
open PySem PySem.Spec PyProof.Rows
section
variable {prog:Program} {w:World} {A:Around} {E:Value -> Shared -> Prop} {s:Shared}
theorem jR {h h':Heap} {l it:Addr} {items:Array Value} (hl:h.IsList l items) (k:∀ b o,b ≠ it -> h.get? b = some o -> h'.get? b = some o) (ne:l ≠ it):h'.IsList l items:=by
 obtain ⟨o,e,r⟩:=hl
 exact ⟨o,k _ _ ne e,r⟩
theorem drawL {it t:Addr} {items:Array Value} (hne:t ≠ it):∀ (n i:Nat) (s:Shared) (Q:List Value -> Shared -> Prop),s.heap.IsListIter it t i -> s.heap.IsList t items -> i + n <= items.size ->
  (∀ h':Heap,h'.IsListIter it t (i + n) -> Heap.SameBut it s.heap h' -> Q ((items.toList.drop i).take n) { s with heap:=h' }) -> wpAny (model prog w) A (draw (.ref it) n) Q E s
 | 0,i,s,Q,hit,_,_,hQ=>by
  show wpAny _ _ (pure []) Q E s
  exact wpAny_pure (by simpa using hQ s.heap hit (Heap.SameBut.refl ..))
 | n + 1,i,s,Q,hit,ht,hle,hQ=>by
  have hlt:i < items.size:=by omega
  show wpAny _ _ (pyNext (.ref it) >>= _) Q E s
  refine wpAny_bind (wpAny_pyNext_list_item hit ht (x:=items[i]) (by simp [hlt]) fun h₁ hit₁ hs₁=>?_)
  refine wpAny_bind (wpAny_holding (drawL hne n (i + 1) _ _ hit₁ (jR ht (fun b o hb e=>(hs₁.2 b hb).trans e) hne) (by omega) fun h₂ hit₂ hs₂=>wpAny_pure ?_))
  have hd:items.toList.drop i = items[i] :: items.toList.drop (i + 1):=by simp [List.drop_eq_getElem_cons,hlt]
  have:=hQ h₂ (by rw [show i + (n + 1) = i + 1 + n by omega]; exact hit₂) (hs₁.trans hs₂)
  rw [hd,List.take_succ_cons] at this
  exact this
theorem unpackItemsL {t:Addr} {items:Array Value} {Q:List Value -> Shared -> Prop} (hh:A.handled = none) (ht:s.heap.IsList t items)
  (hQ:∀ h',Heap.ExtBut s.heap.objs.size s.heap h' -> Q items.toList { s with heap:=h' }):wpAny (model prog w) A (unpackItems (.ref t) items.size none) Q E s:=by
 have hlt:t ≠ s.heap.objs.size:=by obtain ⟨o,ho,_⟩:=ht; exact Nat.ne_of_lt (Heap.lt_size ho)
 unfold unpackItems
 refine wpAny_bind ?_
 ·unfold notIterableAtAll
  refine wpAny_bind (wpAny_specialOf ht.typeIs slot_list_iter.lookup ?_)
  refine wpAny_pure ?_
  simp only [Bool.false_eq_true,if_false]
  refine wpAny_bind (wpAny_holding (wpAny_pyIter_list ht ?_))
  have hp:∀ (ob:Obj),(s.heap.push ob).IsList t items:=fun ob=>jR (it:=s.heap.objs.size) ht (fun b o _ e=>Heap.get?_push_of_some _ e) hlt
  refine wpAny_bind (wpAny_holding (drawL hlt items.size 0 _ _ ⟨_,Heap.get?_push_size _ rfl,rfl,rfl⟩ (hp _) (by omega) fun h₁ hit₁ hs₁=>?_))
  have hall:List.take items.size (List.drop 0 items.toList) = items.toList:=by
   rw [List.drop_zero]; exact List.take_of_length_le (by simp)
  rw [hall]
  rw [if_neg (by simp)]
  have ht₁:h₁.IsList t items:=jR (hp _) (fun b o hb e=>(hs₁.2 b hb).trans e) hlt
  refine wpAny_bind (wpAny_holding (wpAny_pyNext_list_end hh hit₁ ht₁ (by simp) fun h₂ he₂=>?_))
  simp only [Option.isSome_none,Bool.false_eq_true,if_false]
  refine wpAny_pure (hQ h₂ fun b o hb e=>he₂ b o hb (hs₁.extBut b o hb (Heap.get?_push_of_some _ e)))
theorem jT {env:Env} {elts:List Expr} {x1} {pos:Pos} {t:Addr} {items:Array Value} {Q:Unit -> Shared -> Prop} (hh:A.handled = none) (ht:s.heap.IsList t items)
  (hn:(assignEach elts env).length = items.size) (hstar:(assignEach elts env).findIdx? (·.1) = none)
  (h:∀ h',Heap.ExtBut s.heap.objs.size s.heap h' -> wpAny (model prog w) A (assignInOrder ((assignEach elts env).map (·.2)) items.toList) Q E { s with heap:=h' }) :
  wpAny (model prog w) A (assign (.Tuple elts x1 pos) env (.ref t)) Q E s:=by
 rw [assign_Tuple]
 refine wpAny_bind (wpAny_standAt ?_)
 unfold unpack
 rw [hn,hstar]
 exact wpAny_bind (wpAny_holding (unpackItemsL hh ht h))
end
section
variable {X:Cx} {K:PySem.W.Frag} {pos:Pos}
def gLst (K:PySem.W.Frag) (n:Nat) (t:TGs):TG:=fun v σ H Q=>∃ a xs,v = .ref a /\ SqL K H a xs /\ xs.length = n /\ t xs σ H Q
theorem pg_lstK {es:List Expr} {k:Nat} {t:TGs} {n:Nat} (hc:X.calm = true) (h:PGs X es t) (hK:X.K = K:=by rfl)
  (hn:(assignEach es X.env).length = n:=by rfl) (hst:(assignEach es X.env).findIdx? (·.1) = none:=by rfl):PG X (.Tuple es k pos) (gLst K n t):=by
 subst hK
 intro pins s σ H v u Q I r hw
 obtain ⟨a,xs,e1,hq,hl,hw⟩:=hw
 subst e1
 cases r
 obtain ⟨its,rv,p,hz⟩:=I.list hq
 refine jT (I.ok.hd hc) p.isList (by simp [hn,← hl,rv.length]) hst fun h' hx=>?_
 have I1:Inv X pins σ H { s with heap:=h' }:=I.kept (t':=s.toks) fun b o e=>hx b o (Nat.ne_of_lt (Heap.lt_size e)) e
 exact h pins _ σ H xs _ Q I1 (by simpa using rv) hw
end
end L2
namespace L2
open PySem PySem.Spec PyProof.Rows
end L2
namespace An20
open PySem L2 An
seal L2.PS L2.PSs L2.PE L2.PT L2.PW L2.PA L2.PG L2.PGs L2.PI L2.PFi L2.PC
def vws (n:Nat):List Str:=(List.range n).map vW
theorem vw_line:∀ k:Fin 9,lineB (vW k.val) = true:=by decide +kernel
theorem vw_new:∀ k:Fin 9,vW k.val ∉ vws k.val:=by decide +kernel
theorem vws_succ (n:Nat):vws (n + 1) = vws n ++ [vW n]:=by
 unfold vws
 rw [List.range_succ,List.map_append]; rfl
theorem vws_at {k n:Nat} (h:k < n):(vws n)[k]? = some (vW k):=by
 unfold vws
 rw [List.getElem?_map,List.getElem?_range h]; rfl
theorem rch_take {rows:List (List Nat)} (d:Down rows) {n k j:Nat} (hk:k < n):RchN (rows.take n) k j ↔ RchN rows k j:=by
 constructor
 ·intro h
  induction h with
  | root=>exact .root
  | step h1 hr hj ih =>
   rw [List.getElem?_take] at hr
   split at hr
   ·exact .step ih hr hj
   ·cases hr
 ·intro h
  induction h with
  | root=>exact .root
  | step h1 hr hj ih =>
   have:=h1.le d
   exact .step ih (by rw [List.getElem?_take,if_pos (by omega)]; exact hr) hj
def HP (H:Hp) (nl hl:Addr) (v:V):Prop:=∃ (t l1 l2:Addr) (us:List Str),v = .ref t /\ H t = some (.tup [.ref l1,.ref l2]) /\ H l1 = some (.lst (us.map V.str)) /\ H l2 = some (.lst (us.map V.str)) /\ l1 ≠ nl /\ l2 ≠ nl /\ l1 ≠ hl /\ l2 ≠ hl /\ us.length <= 9 /\ ∀ x ∈ us,PyData.strOk x = true
def HV (H:Hp) (nl hl:Addr) (vs:List V):Prop:=∀ v ∈ vs,HP H nl hl v
section
variable {H H':Hp} {nl hl:Addr} {vs:List V} {fp fq:List Addr}
theorem HP.same {v:V} (h:HP H nl hl v) (e:Same H H'):HP H' nl hl v:=let ⟨t,l1,l2,us,a,b,c,d,r⟩:=h; ⟨t,l1,l2,us,a,e _ _ b,e _ _ c,e _ _ d,r⟩
theorem HV.same (h:HV H nl hl vs) (e:Same H H'):HV H' nl hl vs:=fun v hv=>(h v hv).same e
theorem not_tp (n:NoSeq H fp) {c:Addr} {xs:List V} (h:H c = some (.tup xs)):c ∉ fp:=fun z=>noseq_t n c z xs (.inl h)
theorem HV.off (h:HV H nl hl vs) (n1:NoSeq H fp) (n2:NoSeq H fq) {ys:List V} (hn:H nl = some (.lst ys)) (o:Off (nl :: (fp ++ fq)) H H'):HV H' nl hl vs:=fun v hv=>by
 obtain ⟨t,l1,l2,us,a,b,c,d,e1,e2,r⟩:=h v hv
 have key:∀ {k:Addr} {x:HO},H k = some x -> k ≠ nl -> k ∉ fp -> k ∉ fq -> H' k = some x:=fun {k x} hk h1 h2 h3=>o _ _ (fun z=>by
  rcases List.mem_cons.mp z with z | z
  ·exact h1 z
  ·rcases List.mem_append.mp z with z | z
   ·exact h2 z
   ·exact h3 z) hk
 exact ⟨t,l1,l2,us,a,key b (fun z=>by rw [z,hn] at b; cases b) (not_tp n1 b) (not_tp n2 b),key c e1 (xB n1 c) (xB n2 c),key d e2 (xB n1 d) (xB n2 d),e1,e2,r⟩
theorem HV.push (h:HV H nl hl vs) {v:V} (hv:HP H nl hl v) {ys zs:List V} (hh:H hl = some (.lst ys)):HV (upd H hl (.lst zs)) nl hl (vs ++ [v]):=fun u hu=>by
 have hu:HP H nl hl u:=by
  rcases List.mem_append.mp hu with z | z
  ·exact h u z
  ·rw [List.mem_singleton.mp z]; exact hv
 obtain ⟨t,l1,l2,us,a,b,c,d,e1,e2,e3,e4,r⟩:=hu
 exact ⟨t,l1,l2,us,a,by rw [zI (fun z=>by rw [z,hh] at b; cases b)]; exact b,by rw [zI e3]; exact c,by rw [zI e4]; exact d,e1,e2,e3,e4,r⟩
end
structure LA (P:Program) (w:World) (K:PySem.W.Frag) (C:Addr) (H2 H:Hp) (x:Addr) (fp:List Addr) (x':Addr) (fq:List Addr) (nl hl:Addr) (root leaf:Str) (S:List En) (rows:List (List Nat)) (ns:List Str) (t:Nat) (hs:List V) (n:Nat):Prop where
 W:W2 P w K C H2 H x fp x' fq S S
 sw:Sw S [root,leaf] root (rows.take t) ns (vws t)
 hn:H nl = some (.lst (ns.map V.str))
 hh:H hl = some (.lst hs)
 ln:hs.length <= n
 hv:HV H nl hl hs
section
variable {P:Program} {w:World} {K:PySem.W.Frag} {C:Addr} {H2 H H':Hp} {x:Addr} {fp:List Addr} {x':Addr} {fq:List Addr} {nl hl:Addr} {root leaf:Str} {S:List En} {rows:List (List Nat)} {ns:List Str} {t:Nat} {hs:List V} {n:Nat}
theorem LA.same (h:LA P w K C H2 H x fp x' fq nl hl root leaf S rows ns t hs n) (e:Same H H'):LA P w K C H2 H' x fp x' fq nl hl root leaf S rows ns t hs n:=⟨h.W.ins e,h.sw,e _ _ h.hn,e _ _ h.hh,h.ln,h.hv.same e⟩
theorem LA.copy (h:LA P w K C H2 H x fp x' fq nl hl root leaf S rows ns t hs n) (e:Same H H') {y:Addr} {fr:List Addr} (f:∀ c ∈ fr,H c = none) (sh:ShAt P w K C H' y fr S):LA P w K C H2 H' y fr x' fq nl hl root leaf S rows ns t hs n :=
 ⟨⟨h.W.same.trans e,sh,h.W.tw.same e,fun c hc=>h.W.same.free (f c hc),h.W.gr,fun c hc z=>by
   obtain ⟨o,eo⟩:=h.W.tw.ex c z
   rw [f c hc] at eo
   cases eo⟩,h.sw,e _ _ h.hn,e _ _ h.hh,h.ln,h.hv.same e⟩
theorem LA.push (h:LA P w K C H2 H x fp x' fq nl hl root leaf S rows ns t hs n) (ne:nl ≠ hl) (f:H2 hl = none) {v:V} (hv:HP H nl hl v):LA P w K C H2 (upd H hl (.lst (hs ++ [v]))) x fp x' fq nl hl root leaf S rows ns t (hs ++ [v]) (n + 1) :=
 ⟨h.W.lst h.hh f,h.sw,by rw [zI ne]; exact h.hn,zD,by rw [List.length_append]; exact Nat.succ_le_succ h.ln,h.hv.push hv h.hh⟩
theorem LA.comes (h:LA P w K C H2 H x fp x' fq nl hl root leaf S rows ns t hs n) (ne:nl ≠ hl) {r:List Nat} (hr:rows[t]? = some r) (o:Off (nl :: (fp ++ fq)) H H') {S':List En} (W:W2 P w K C H2 H' x fp x' fq S' S') {y:Str} (sw:Sw S' [root,leaf] root (rows.take t ++ [r]) (ns ++ [y]) (vws t ++ [vW t])) (hn:H' nl = some (.lst ((ns ++ [y]).map V.str))):LA P w K C H2 H' x fp x' fq nl hl root leaf S' rows (ns ++ [y]) (t + 1) hs n:=by
 have ek:rows.take (t + 1) = rows.take t ++ [r]:=by rw [List.take_add_one,hr]; rfl
 refine ⟨W,by rw [ek,vws_succ]; exact sw,hn,o _ _ (fun z=>?_) h.hh,h.ln,h.hv.off h.W.sh.noseq h.W.tw.noseq h.hn o⟩
 rcases List.mem_cons.mp z with z | z
 ·exact ne z.symm
 ·rcases List.mem_append.mp z with z | z
  ·exact xB h.W.sh.noseq h.hh z
  ·exact xB h.W.tw.noseq h.hh z
end
theorem wrong_at {x y z u l:Str} (c:Int):∃ v,atI [V.str x,V.str y,V.str z,V.str l,V.str u] (c / 5 % 5) = some (.str v) /\ (v = x \/ v = y \/ v = z \/ v = l \/ v = u):=by
 have h0:0 <= c / 5 % 5:=by omega
 have h1:c / 5 % 5 < 5:=by omega
 generalize c / 5 % 5 = i at h0 h1
 match i,h0,h1 with
 | 0,_,_=>exact ⟨x,rfl,.inl rfl⟩
 | 1,_,_=>exact ⟨y,rfl,.inr (.inl rfl)⟩
 | 2,_,_=>exact ⟨z,rfl,.inr (.inr (.inl rfl))⟩
 | 3,_,_=>exact ⟨l,rfl,.inr (.inr (.inr (.inl rfl)))⟩
 | 4,_,_=>exact ⟨u,rfl,.inr (.inr (.inr (.inr rfl)))⟩
end An20
namespace An20
open PySem L2 An
seal L2.PS L2.PSs L2.PE L2.PT L2.PW L2.PA L2.PG L2.PGs L2.PI L2.PFi L2.PC
def spLaw (K:PySem.W.Frag):Sp:=fun vs H Q _=>∃ (a:Addr) (ns:List Int),vs = [.ref a] /\ SqL K H a (ns.map V.int) /\ ns.length <= 63 /\ ∀ H',Q (.bl true) H'
section
variable {P:Program} {w:World} {K:PySem.W.Frag} {mg:Str -> Option Value} {base:Heap} {t1 t2 t3 t4 t5 t6:Tok} {aL aC aN aT aA b1 b2 b3 b4 b5 b6 b7 b8 fP:Addr}
namespace g_law
abbrev st:Stmt:=top 72
theorem sc:FnScope ["_law_script","_law_many","_law_rows_here","_law_lies_here","_law_shelf_here","_law_twin","_law_root","_law_leaf","_law_names","_law_held","_law_k","_law_note","_law_one","_law_told","_law_others","_law_wrong","_law_cell"] ["_law_script"] (zC st):=⟨rfl,rfl,rfl,by decide +kernel,rfl,by decide +kernel,by decide +kernel⟩
theorem ok {f:Addr} {fd:FuncData} (F:Fun K "law" "law" st f fd) (T:Txt P w K mg t1 t2 t3 t4 t5 t6 aL aC aN aT aA b1 b2 b3 b4 b5 b6 b7 b8 fP) (C__law_cell_at:Cal P w K mg base 1 "_law_cell_at" ["_law_script","_law_k"] (spCell K)) (C__law_rows:Cal P w K mg base 2 "_law_rows" ["_law_script","_law_many"] (spRowsL K)) (C__law_lies:Cal P w K mg base 1 "_law_lies" ["_law_rows_here"] (spLies K)) (C__law_shelf:Cal P w K mg base 8 "_law_shelf" [] (spShelf0 P w K aC)) (M_names:Met P w K mg base aC 1 "names" ["self"] (kL P w K aC))
  (M_Shelf:Mak P w K mg base aC 5 "Shelf" ["self","base"] (spInit P w K aC)) (C__law_comes:Cal P w K mg base 12 "_law_comes" ["_law_shelf_here","_law_twin","_law_names","_law_note"] (spComes P w K aC)) (C__law_parts_good:Cal P w K mg base 8 "_law_parts_good" ["_law_store","_law_names","_law_rows_here","_law_k","_law_root"] (spPartG P w K aC)) (C__law_before_good:Cal P w K mg base 9 "_law_before_good" ["_law_store","_law_names","_law_lies_here","_law_k"] (spBefore P w K aC))
  (C_all_before:CalX P w K mg base 8 "all_before" ["store","name"] (spAB P w K aC b5)) (C_parents_of:CalX P w K mg base 7 "parents_of" ["store","name"] (jQ P w K aC b5)) (C__law_ones_before:Cal P w K mg base 9 "_law_ones_before" ["_law_shelf_here","_law_names","_law_lies_here","_law_k","_law_others"] (spOnes P w K aC)) (C__law_long_good:Cal P w K mg base 9 "_law_long_good" ["_law_many"] (spLong P w K aC)) (C__law_six_refused:Cal P w K mg base 11 "_law_six_refused" ["_law_shelf_here","_law_wrong","_law_good"] (spSix P w K aC)):FnOk P w K mg base CX0 13 f fd ["_law_script"] (spLaw K):=by
 refine F.ok sc (fun vs H Q E h=>?_) (fun cdv A outer s H vs Q E hr h=>?_)
 ·obtain ⟨sa,ns,rfl,_⟩:=h
  rfl
 ·obtain ⟨sa,ns0,rfl,hsa,hlen,kQ⟩:=h
  refine ⟨_,(zF (zY (i:=1) sc.nd rfl (Or.inl rfl) (z9 q8 zH (z9 xS (zM C__law_cell_at (hr.mono (by decide)) (zA (pv 0) (zA zH zB))) zH)))
   (zF (zY (i:=2) sc.nd rfl (Or.inl rfl) (zM C__law_rows (hr.mono (by decide)) (zA (pv 0) (zA (pv 1) zB))))
   (zF (zY (i:=3) sc.nd rfl (Or.inl rfl) (zM C__law_lies (hr.mono (by decide)) (zA (pv 2) zB)))
   (zF (ps_par (i:=4) (j:=5) rfl sc.nd rfl rfl (by decide) rfl rfl (zA (pe_callC0 C__law_shelf (hr.mono (by decide))) (zA (pe_callC0 C__law_shelf (hr.mono (by decide))) zB)) rfl)
   (zF (ps_asg (pe_metC0 (pv 4) T.cls M_names (hr.mono (by decide))) (pg_lstK (K:=K) (n:=2) rfl (qW (zT (i:=6) sc.nd rfl (Or.inl rfl)) (qW (zT (i:=7) sc.nd rfl (Or.inl rfl)) pgs_nil))))
   (zF (zY (i:=8) sc.nd rfl (Or.inr rfl) (yW zB))
   (zF (zY (i:=9) sc.nd rfl (Or.inl rfl) (yW zB))
   (zF (xN PassesOwn.never rfl (xJ rfl T.range (zA (pv 1) zB)) (zT (i:=10) sc.nd rfl (Or.inl rfl))
    (jW (yL (PW.pt (kN (zW xI (z9 xS (z9 qO (zM C__law_cell_at (hr.mono (by decide)) (zA (pv 0) (zA zH zB))) zH) zH) zH (zU _)) (j0 (zW xI (pv 10) (z9 qO (pv 1) zH) (zU _)))))
     (zG (zY (i:=4) sc.nd rfl (Or.inl rfl) (pe_makC M_Shelf (hr.mono (by decide)) (zA (pv 4) zB))))
     zV)
    (zF (zY (i:=11) sc.nd rfl (Or.inl rfl) (z8 (zA pe_str (zA (pv 6) (zA (z7 jJ (by rfl) T.tuple PyProof.Rows.boot_tuple (zA (xF (sc:=zC st) (N:=["_law_script","_law_many","_law_rows_here","_law_lies_here","_law_shelf_here","_law_twin","_law_root","_law_leaf","_law_names","_law_held","_law_k","_law_note","_law_one","_law_told","_law_others","_law_wrong","_law_cell"]) (N':=["_law_one","_law_names"]) (src:=[none,some 8]) ⟨by decide +kernel,rfl,rfl,by decide +kernel,by decide +kernel,by decide +kernel,by decide +kernel⟩ rfl rfl rfl (x9 (zS (ix_list:IxR _ (rIxL K)) (pv 2) (pv 10) (fun _ _=>rfl))) (fun _ _ _ _=>(zT (i:=0) (show (["_law_one","_law_names"]:List Str).Nodup by decide +kernel) rfl (Or.inl rfl))) (fun _ _ _ _=>qP) (fun _ _ _ _=>(zS (ix_list:IxR _ (rIxL K)) (pv 1) (pv 0) (fun _ _=>rfl)))) zB)) (zA (z9 y8 pe_str (z7 y7 (by rfl) T.str PyProof.Rows.boot_str (zA (pv 10) zB))) zB))))))
    (zF (yL (yO (zQ (K:=K) (zM C__law_comes (hr.mono (by decide)) (zA (pv 4) (zA (pv 5) (zA (pv 8) (zA (pv 11) zB))))) (fun _=>rfl)))
     (zG (zO xO))
     zV)
    (jW (yL (PW.pt (kN (zW xI (z9 xS (z9 q8 (z9 qO (zM C__law_cell_at (hr.mono (by decide)) (zA (pv 0) (zA zH zB))) zH) (pv 10)) zH) zH (zU _)) (j0 (yO (zQ (K:=K) (zM C__law_parts_good (hr.mono (by decide)) (zA (pv 4) (zA (pv 8) (zA (pv 2) (zA (pv 10) (zA (pv 6) zB)))))) (fun _=>rfl))))))
     (zG (zO xO))
     zV)
    (zF (xN PassesOwn.never rfl (qD (z8 (zA (pv 10) (zA (z9 xS (zM C__law_cell_at (hr.mono (by decide)) (zA (pv 0) (zA zH zB))) (z9 q8 (pv 10) zH)) zB)))) (zT (i:=12) sc.nd rfl (Or.inl rfl))
     (zG (yL (yO (zQ (K:=K) (zM C__law_before_good (hr.mono (by decide)) (zA (pv 4) (zA (pv 8) (zA (pv 3) (zA (pv 12) zB))))) (fun _=>rfl)))
      (zG (zO xO))
      zV)))
    (zF (yL (yO (zQ (K:=K) (zM C__law_parts_good (hr.mono (by decide)) (zA (pv 4) (zA (pv 8) (zA (pv 2) (zA (pv 10) (zA (pv 6) zB)))))) (fun _=>rfl)))
     (zG (zO xO))
     zV)
    (zG (xN PassesOwn.never rfl (qD (z8 (zA (zX C_all_before (hr.mono (by decide)) zP (zA (pv 4) (zA (zS (ix_list:IxR _ (rIxL K)) (pv 8) (pv 10) (fun _ _=>rfl)) zB))) (zA (zX C_parents_of (hr.mono (by decide)) zP (zA (pv 4) (zA (zS (ix_list:IxR _ (rIxL K)) (pv 8) (pv 10) (fun _ _=>rfl)) zB))) zB)))) (zT (i:=13) sc.nd rfl (Or.inl rfl))
     (zG (z5 (kP PySem.F.plainAttrs_list PySem.F.slot_list_append PySem.F.type_list_append xH (pv 9) (zA (z8 (zA (pv 13) (zA (z7 xK (by rfl) T.list PyProof.Rows.boot_list (zA (pv 13) zB)) zB))) zB)))))))))))))
   (zF (xN PassesOwn.never rfl (xJ rfl T.range (zA (pv 1) zB)) (zT (i:=10) sc.nd rfl (Or.inl rfl))
    (zF (yL (PW.pt (kR (yO (zQ (K:=K) (zM C__law_before_good (hr.mono (by decide)) (zA (pv 4) (zA (pv 8) (zA (pv 3) (zA (pv 10) zB))))) (fun _=>rfl))) (kD (yO (zQ (K:=K) (zM C__law_parts_good (hr.mono (by decide)) (zA (pv 4) (zA (pv 8) (zA (pv 2) (zA (pv 10) (zA (pv 6) zB)))))) (fun _=>rfl))))))
     (zG (zO xO))
     zV)
    (zF (zY (i:=14) sc.nd rfl (Or.inl rfl) (z8 (zA (z9 xS (zM C__law_cell_at (hr.mono (by decide)) (zA (pv 0) (zA zH zB))) (pv 1)) (zA (z9 xS (z9 q8 (z9 q8 (pv 10) zH) (z9 xS (zM C__law_cell_at (hr.mono (by decide)) (zA (pv 0) (zA zH zB))) zH)) (pv 1)) zB))))
    (zG (yL (yO (zQ (K:=K) (zM C__law_ones_before (hr.mono (by decide)) (zA (pv 4) (zA (pv 8) (zA (pv 3) (zA (pv 10) (zA (pv 14) zB)))))) (fun _=>rfl)))
     (zG (zO xO))
     zV)))))
   (zF (zY (i:=15) sc.nd rfl (Or.inl rfl) (zS (ix_list:IxR _ (rIxL K)) (yW (zA pe_str (zA pe_str (zA (pv 6) (zA (pv 7) (zA (z9 y8 (zS (ix_list:IxR _ (rIxL K)) (pv 8) zH (fun _ _=>rfl)) pe_str) zB)))))) (z9 xS (z9 qO (zM C__law_cell_at (hr.mono (by decide)) (zA (pv 0) (zA zH zB))) zH) zH) (fun _ _=>rfl)))
   (zF (zY (i:=16) sc.nd rfl (Or.inl rfl) (zM C__law_cell_at (hr.mono (by decide)) (zA (pv 0) (zA zH zB))))
   (jW (yL (PW.pt (kN (zW xI (z9 xS (pv 16) zH) zH (zU _)) (j0 (yO (zQ (K:=K) (zM C__law_long_good (hr.mono (by decide)) (zA (z9 q8 zH (z9 xS (z9 qO (pv 16) zH) zH)) zB)) (fun _=>rfl))))))
    (zG (zO xO))
    zV)
   (zG (zO (yX (zM C__law_six_refused (hr.mono (by decide)) (zA (pv 4) (zA (pv 15) (zA (zS (ix_list:IxR _ (rIxL K)) (pv 8) zH (fun _ _=>rfl)) zB)))) (xT (yI (op_eqD hr.units) (xF (sc:=zC st) (N:=["_law_script","_law_many","_law_rows_here","_law_lies_here","_law_shelf_here","_law_twin","_law_root","_law_leaf","_law_names","_law_held","_law_k","_law_note","_law_one","_law_told","_law_others","_law_wrong","_law_cell"]) (N':=["_law_pair"]) (src:=[none]) ⟨by decide +kernel,rfl,rfl,by decide +kernel,by decide +kernel,by decide +kernel,by decide +kernel⟩ rfl rfl rfl (x9 (pv 9)) (fun _ _ _ _=>(zT (i:=0) (show (["_law_pair"]:List Str).Nodup by decide +kernel) rfl (Or.inl rfl))) (fun _ _ _ _=>(pf_one (zW (op_neDK (K:=K) hr.units) (zS (ix_tup:IxR _ (rIxT K)) (pv 0) zH (fun _ _=>rfl)) (zS (ix_tup:IxR _ (rIxT K)) (pv 0) zH (fun _ _=>rfl)) (zU _)))) (fun _ _ _ _=>(pv 0))) (yW zB) (zU _)))))))))))))))))),?_⟩
  refine ⟨_,rfl,sa,ns0,0,rfl,hsa,by omega,fun c0=>⟨_,_,rfl,rfl,(by decide:(0:Int) < 9),_,_,rfl,rfl,?_⟩⟩
  obtain ⟨m,em,m2,m9⟩:∃ m:Nat,1 + c0 % 9 = (m:Int) /\ 1 <= m /\ m <= 9:=⟨(1 + c0 % 9).toNat,by omega,by omega,by omega⟩
  show gName 1 (V.int (1 + c0 % 9)) _ _ _
  rw [em]
  refine ⟨_,rfl,_,rfl,sa,ns0,m,rfl,hsa,m9,fun rl rows H1 e1 nrl hrl lrows dn=>?_⟩
  refine ⟨_,rfl,rl,rows,rfl,hrl,dn,by omega,fun ll H2 e2 nll hll=>?_⟩
  rw [lrows] at hll
  have hsa2:=(e1.trans e2).seq hsa
  have hrl2:=hrl.same e2
  clear e1 e2 hrl hsa nrl nll
  refine ⟨rfl,fun x fp H3 s3 fr3 sh3=>⟨rfl,fun x' fq H4 s4 fr4 sh4=>⟨_,_,rfl,?_⟩⟩⟩
  have W:W2 P w K aC H2 H4 x fp x' fq S0 S0:=⟨s3.trans s4,sh3.same s4,sh4,fr3,fun c hc=>s3.free (fr4 c hc),fun c hc z=>by
   obtain ⟨o,eo⟩:=sh3.ex c hc
   rw [fr4 c z] at eo
   cases eo⟩
  have sw0:=sw_zero sh4.good
  clear sh3 sh4 fr3 fr4 s3 s4
  obtain ⟨ix,i1,i2,i3,hix⟩:=qZ W.sh
  refine ⟨_,rfl,x,ix,_,rfl,hix,rfl,x,fp,S0,rfl,W.sh,fun l0 nl0=>?_⟩
  have u0:=zE (o:=.lst (S0.map fun e=>V.str e.nm)) nl0
  refine ⟨l0,_,rfl,SqL.of zD,rfl,V.str (entT [] (Th.tree [])).nm,_,rfl,V.str (entT S1 (Th.leaf ["v0"])).nm,_,rfl,rfl,?_⟩
  have W1:=W.ins u0
  generalize upd H4 l0 (.lst (S0.map fun e=>V.str e.nm)) = H5 at W1 ⊢
  clear W hix u0 nl0
  generalize (entT [] (Th.tree [])).nm = root at sw0 ⊢
  generalize (entT S1 (Th.leaf ["v0"])).nm = leaf at sw0 ⊢
  generalize S0 = S00 at sw0 W1
  refine ⟨Nat.zero_le _,fun nl nnl=>⟨Nat.zero_le _,fun hl nhl=>?_⟩⟩
  have v1:=zE (o:=.lst []) nnl
  have v2:=zE (o:=.lst []) nhl
  have nl2:H2 nl = none:=W1.same.free nnl
  have hl2:H2 hl = none:=W1.same.free (v1.free nhl)
  have nh:nl ≠ hl:=zJ zD nhl
  have la0:LA P w K aC H2 (upd (upd H5 nl (.lst [])) hl (.lst [])) x fp x' fq nl hl root leaf S00 rows [] 0 [] (2 * 0):=⟨(W1.ins v1).ins v2,sw0,v2 _ _ zD,zD,Nat.zero_le _,fun v hv=>(nomatch hv)⟩
  generalize upd (upd H5 nl (.lst [])) hl (.lst []) = H6 at la0 ⊢
  clear v1 v2 W1 sw0 nnl nhl
  obtain ⟨vrl,hvrl,rvr⟩:=id hrl2
  refine ⟨_,rfl,_,rfl,by omega,by omega,xQ (lo:=0) (n:=((m:Nat):Int).toNat) (fun t σ H'=>∃ x fp o10 o11 o12 o13 S ns hs,σ = [some (.ref sa),some (.int m),some (.ref rl),some (.ref ll),some (.ref x),some (.ref x'),some (.str root),some (.str leaf),some (.ref nl),some (.ref hl),o10,o11,o12,o13,none,none,none] /\ LA P w K aC H2 H' x fp x' fq nl hl root leaf S rows ns t hs (2 * t))
   ⟨x,fp,none,none,none,none,S00,[],[],rfl,la0⟩ ?_ ?_⟩
  ·clear la0
   clear x fp
   rintro t σ H9 ht ⟨x,fp,o10,o11,o12,o13,S,ns,hs,rfl,la⟩
   have ht:t < m:=by omega
   have et:(0:Int) + (t:Int) = (t:Int):=by omega
   rw [et]
   have hr0:rows[t]? = some rows[t]:=List.getElem?_eq_getElem (by omega)
   have hv0:vrl[t]? = some (vrl[t]'(by rw [rvr.1]; omega)):=List.getElem?_eq_getElem _
   obtain ⟨q,eq,_,hq⟩:=rvr.2 t _ _ hv0 hr0
   rw [eq] at hv0
   obtain ⟨r1,r2,r3⟩:=dn t _ hr0
   generalize rows[t] = r at hr0 hq r1 r2 r3
   have ltk:(rows.take t).length = t:=by rw [List.length_take]; omega
   have nsl:ns.length = t:=by rw [la.sw.len,ltk]
   have Sl:S.length < 100:=by have:=la.sw.slen; rw [ltk] at this; simp at this; omega
   refine ⟨fun σ' H'=>∃ x fp,σ' = [some (.ref sa),some (.int m),some (.ref rl),some (.ref ll),some (.ref x),some (.ref x'),some (.str root),some (.str leaf),some (.ref nl),some (.ref hl),some (.int t),o11,o12,o13,none,none,none] /\ LA P w K aC H2 H' x fp x' fq nl hl root leaf S rows ns t hs (2 * t),?_,?_⟩
   ·refine ⟨_,rfl,sa,ns0,2,rfl,la.W.same.seq hsa2,by omega,fun c2=>⟨_,_,rfl,rfl,⟨by decide,by decide⟩,_,_,rfl,rfl,(by decide:(0:Int) < 3),rfl,_,rfl,ite2 (fun d1=>?_) (fun d1=>iteF ⟨x,fp,rfl,la⟩)⟩⟩
    refine ⟨_,rfl,_,rfl,_,_,rfl,rfl,⟨by decide,by decide⟩,rfl,_,rfl,ite2 (fun d2=>?_) (fun d2=>⟨x,fp,rfl,la⟩)⟩
    refine ⟨_,rfl,fun y dy ny ndy ne=>⟨y,dy,.ref x,S,rfl,zD,by rw [zI ne]; exact zD,ne,.inr ⟨x,fp,rfl,la.W.sh.same ((zE ndy).trans (zE (by rw [zI (Ne.symm ne)]; exact ny))),(ShAt.ex la.W.sh).not ny,(ShAt.ex la.W.sh).not ndy,by omega⟩,fun fr H10 hfr off0 sh=>⟨rfl,?_⟩⟩⟩
    obtain ⟨s3,fr3⟩:=new_facts ny ndy ne hfr off0
    exact ⟨y,fr,rfl,la.copy s3 fr3 sh⟩
   ·clear la
    clear x fp
    rintro σ' H10 ⟨x,fp,rfl,la⟩
    refine ⟨_,rfl,_,rfl,_,rfl,rl,vrl,_,_,rfl,rfl,SqL.of (la.W.same _ _ hvrl),yS hv0,q,rfl,⟨_,SqL.of (la.W.same _ _ hq)⟩,qU (K:=K) (a:=q) (xs:=vI r) (fun u ys σ H5=>∃ o,σ = [o,some (.ref nl)] /\ H5 = H10 /\ ys = ((r.take u).map fun j=>ns.getD j "").map V.str) ⟨none,rfl,rfl,rfl⟩ (le_line (by rw [List.length_map]; omega)) ?_ ?_ ?_⟩
    ·rintro u ys σ H5 hu ⟨o,rfl,rfl,rfl⟩
     refine ⟨SqL.of (la.W.same _ _ hq),?_⟩
     rw [List.length_map,List.length_map,List.length_take]
     omega
    ·rintro u v ys σ H5 hv ⟨o,rfl,rfl,rfl⟩
     rw [List.getElem?_map] at hv
     obtain ⟨j,hj,rfl⟩:=Option.map_eq_some_iff.mp hv
     have jt:=r1 j (List.mem_of_getElem? hj)
     refine ⟨_,rfl,_,rfl,nl,_,_,_,rfl,rfl,SqL.of la.hn,xA (by omega),_,rfl,rfl,?_⟩
     rw [List.take_add_one,hj,List.map_append,List.map_append]
     rfl
    ·rintro ys σ H5 ⟨o,rfl,rfl,rfl⟩ p1 n1
     rw [List.length_map,List.take_length]
     have v1:=zE (o:=.lst ((r.map fun j=>ns.getD j "").map V.str)) n1
     refine ⟨p1,_,rfl,.inl ⟨SqL.of zD,fun p2 n2=>?_⟩⟩
     have v2:=zE (o:=.tup ((r.map fun j=>ns.getD j "").map V.str)) n2
     have vl:=vw_len ⟨t,by omega⟩
     refine ⟨_,rfl,_,rfl,Nat.lt_of_le_of_lt (Nat.log2_le_self _) (by omega),_,_,rfl,rfl,le_line (Nat.le_trans vl (by decide)),lineN 4,fun p4 n4=>?_⟩
     have v4:=zE (o:=.tup [V.str "note",V.str root,V.ref p2,V.str (vW t)]) n4
     have d0:Dt K (upd (upd (upd H5 p1 (.lst ((r.map fun j=>ns.getD j "").map V.str))) p2 (.tup ((r.map fun j=>ns.getD j "").map V.str))) p4 (.tup [V.str "note",V.str root,V.ref p2,V.str (vW t)])) (Th.note root (r.map fun j=>ns.getD j "") (vW t)).dat (.ref p4):=⟨p4,_,rfl,SqT.of zD,_,_,rfl,rfl,_,_,rfl,rfl,_,_,rfl,⟨p2,_,rfl,SqT.of (v4 _ _ zD),DtAll.strs _⟩,_,_,rfl,rfl,rfl⟩
     have la9:=la.same ((v1.trans v2).trans v4)
     show gName 11 (V.ref p4) _ (upd (upd (upd H5 p1 (.lst ((r.map fun j=>ns.getD j "").map V.str))) p2 (.tup ((r.map fun j=>ns.getD j "").map V.str))) p4 (.tup [V.str "note",V.str root,V.ref p2,V.str (vW t)])) _
     generalize upd (upd (upd H5 p1 (.lst ((r.map fun j=>ns.getD j "").map V.str))) p2 (.tup ((r.map fun j=>ns.getD j "").map V.str))) p4 (.tup [V.str "note",V.str root,V.ref p2,V.str (vW t)]) = H11 at d0 la9 ⊢
     have hrt:∀ j ∈ r,j < (rows.take t).length:=by rw [ltk]; exact r1
     have vn:=vw_new ⟨t,by omega⟩
     have vli:=vw_line ⟨t,by omega⟩
     clear v1 v2 v4 n1 n2 n4 la hv0 hq
     refine ⟨_,rfl,_,rfl,_,rfl,_,rfl,H2,x,x',nl,fp,fq,S,[root,leaf],root,rows.take t,ns,vws t,.ref p4,r,vW t,rfl,la9.W,la9.sw,Sl,la9.hn,nl2,hrt,r2,r3,fun k _ z=>vn (List.mem_of_getElem? z),vli,d0,fun H12 S' y o12 W12 sw12 hn12=>⟨true,rfl,iteNF ?_⟩⟩
     have la:=la9.comes nh hr0 o12 W12 sw12 hn12
     clear la9 d0 o12 W12 sw12 hn12 vn vli
     have hrS:(rows.take (t + 1))[t]? = some r:=by rw [List.getElem?_take,if_pos (by omega)]; exact hr0
     have ltk1:(rows.take (t + 1)).length = t + 1:=by rw [List.length_take]; omega
     generalize ns ++ [y] = ns' at la
     generalize S' = S'' at la
     have nsl':ns'.length = t + 1:=by rw [la.sw.len,ltk1]
     refine ⟨fun σ' H'=>σ' = [some (.ref sa),some (.int m),some (.ref rl),some (.ref ll),some (.ref x),some (.ref x'),some (.str root),some (.str leaf),some (.ref nl),some (.ref hl),some (.int t),some (.ref p4),o12,o13,none,none,none] /\ LA P w K aC H2 H' x fp x' fq nl hl root leaf S'' rows ns' (t + 1) hs (2 * t),?_,?_⟩
     ·refine ⟨_,rfl,sa,ns0,1,rfl,la.W.same.seq hsa2,by omega,fun c2=>⟨_,_,rfl,rfl,⟨by decide,by decide⟩,_,rfl,_,_,rfl,rfl,_,_,rfl,rfl,(by decide:(0:Int) < 2),rfl,_,rfl,ite2 (fun d1=>?_) (fun d1=>iteF ⟨rfl,la⟩)⟩⟩
      exact ⟨_,rfl,_,rfl,_,rfl,_,rfl,_,rfl,x,nl,rl,fp,S'',[root,leaf],root,rows.take (t + 1),rows,ns',vws (t + 1),t,r,rfl,la.W.sh,la.sw,la.hn,hrl2.same la.W.same,hrS,hr0,vws_at (Nat.lt_succ_self t),by omega,fun H' e=>⟨true,rfl,iteNF ⟨rfl,la.same e⟩⟩⟩
     ·clear la
      rintro σ' H13 ⟨rfl,la⟩
      refine ⟨_,rfl,_,rfl,sa,ns0,1,rfl,la.W.same.seq hsa2,by omega,fun c1=>⟨_,rfl,_,_,rfl,rfl,_,_,rfl,rfl,(show (0:Int) < (t:Int) + 1 by omega),lineN 2,fun p np=>?_⟩⟩
      obtain ⟨z,ez,hz⟩:∃ z:Nat,c1 % ((t:Int) + 1) = (z:Int) /\ z < t + 1:=⟨(c1 % ((t:Int) + 1)).toNat,by
       have:=Int.emod_nonneg c1 (show (t:Int) + 1 ≠ 0 by omega)
       omega,by
       have:=Int.emod_lt_of_pos c1 (show 0 < (t:Int) + 1 by omega)
       omega⟩
      have up:=zE (o:=.tup [V.int t,V.int (c1 % ((t:Int) + 1))]) np
      have hp:upd H13 p (.tup [V.int t,V.int (c1 % ((t:Int) + 1))]) p = some (.tup (vI [t,z])):=by rw [zD,ez]; rfl
      have la:=la.same up
      generalize upd H13 p (.tup [V.int t,V.int (c1 % ((t:Int) + 1))]) = H14 at hp la ⊢
      clear up np
      refine ⟨p,rfl,⟨_,SqT.of hp⟩,jU (K:=K) (a:=p) (xs:=vI [t,z]) (fun i σ H'=>∃ o12,σ = [some (.ref sa),some (.int m),some (.ref rl),some (.ref ll),some (.ref x),some (.ref x'),some (.str root),some (.str leaf),some (.ref nl),some (.ref hl),some (.int t),some (.ref p4),o12,o13,none,none,none] /\ LA P w K aC H2 H' x fp x' fq nl hl root leaf S'' rows ns' (t + 1) hs (2 * t) /\ H' p = some (.tup (vI [t,z]))) ⟨o12,rfl,la,hp⟩ (fun i σ H' _ h=>?_) ?_ ?_⟩
      ·obtain ⟨_,_,_,hp⟩:=h
       exact SqT.of hp
      ·clear la hp
       rintro i v σ H' hv ⟨o12,rfl,la,hp⟩
       rw [List.getElem?_map] at hv
       obtain ⟨j,hj,rfl⟩:=Option.map_eq_some_iff.mp hv
       have jt:j < t + 1:=by
        have:=List.mem_of_getElem? hj
        rcases List.mem_cons.mp this with z1 | z1
        ·omega
        ·have:=List.mem_singleton.mp z1
         omega
       exact ⟨_,rfl,_,rfl,_,rfl,_,rfl,x,nl,ll,fp,S'',[root,leaf],root,rows.take (t + 1),rows,ns',vws (t + 1),m,j,rfl,la.W.sh,la.sw,la.hn,hll.same la.W.same,m9,by omega,by omega,fun i=>rch_take dn jt,fun H15 e=>⟨true,rfl,iteNF ⟨_,rfl,la.same e,e _ _ hp⟩⟩⟩
      ·clear la hp
       rintro σ' H15 ⟨o12,rfl,la,hp⟩
       refine ⟨_,rfl,_,rfl,_,rfl,_,rfl,_,rfl,x,nl,rl,fp,S'',[root,leaf],root,rows.take (t + 1),rows,ns',vws (t + 1),t,r,rfl,la.W.sh,la.sw,la.hn,hrl2.same la.W.same,hrS,hr0,vws_at (Nat.lt_succ_self t),by omega,fun H16 e16=>⟨true,rfl,iteNF ?_⟩⟩
       have la:=la.same e16
       clear hp
       have nk:=la.sw.noteN (k:=t) (by omega)
       have fk:formD S'' (.str (ns'.getD t "")) "note" = true:=nk
       refine ⟨_,rfl,_,rfl,_,rfl,nl,_,_,_,rfl,rfl,SqL.of la.hn,xA (by omega),x,fp,S'',.str (ns'.getD t ""),_,rfl,sw_vs la.sw la.W.sh,rfl,fun y1 ey hy l1 H17 F' e17 nl1 mF hl1=>?_,fun no=>by rw [fk] at no; cases no⟩
       cases ey
       rw [la.sw.before (by omega) mF (q:=rB rows t) (fun j=>rB_iff.trans (rch_take dn (Nat.lt_succ_self t)).symm) (Nat.lt_succ_self t) (by omega)] at hl1
       have d17:=la.same e17
       have ne1:l1 ≠ nl:=Ne.symm (zJ la.hn nl1)
       have ne2:l1 ≠ hl:=Ne.symm (zJ la.hh nl1)
       have b1:(((List.range (t + 1)).filter (rB rows t)).map fun j=>ns'.getD j "").length <= 9:=by
        rw [List.length_map]
        have:=List.length_filter_le (rB rows t) (List.range (t + 1))
        rw [List.length_range] at this
        omega
       have k1:∀ u ∈ ((List.range (t + 1)).filter (rB rows t)).map (fun j=>ns'.getD j ""),PyData.strOk u = true:=fun u hu=>by
        obtain ⟨j,hj,rfl⟩:=List.mem_map.mp hu
        have:=List.mem_range.mp (List.mem_filter.mp hj).1
        exact sw_str la.sw (by omega)
       generalize ((List.range (t + 1)).filter (rB rows t)).map (fun j=>ns'.getD j "") = us1 at hl1 b1 k1
       refine ⟨_,rfl,_,rfl,_,rfl,nl,_,_,_,rfl,rfl,SqL.of d17.hn,xA (by omega),x,fp,S'',.str (ns'.getD t ""),_,rfl,d17.W.sh,d17.sw.th,rfl,fun y1 ey hy l2 nl2'=>?_,fun no=>by rw [fk] at no; cases no⟩
       cases ey
       rw [d17.sw.par hrS]
       have ne3:l2 ≠ nl:=Ne.symm (zJ d17.hn nl2')
       have ne4:l2 ≠ hl:=Ne.symm (zJ d17.hh nl2')
       have b2:(r.map fun j=>ns'.getD j "").length <= 9:=by rw [List.length_map]; omega
       have k2:∀ u ∈ r.map (fun j=>ns'.getD j ""),PyData.strOk u = true:=fun u hu=>by
        obtain ⟨j,hj,rfl⟩:=List.mem_map.mp hu
        have:=r1 j hj
        exact sw_str d17.sw (by omega)
       generalize (r.map fun j=>ns'.getD j "") = us2 at b2 k2 ⊢
       have u18:=zE (o:=.lst (us2.map V.str)) nl2'
       refine ⟨lineN 2,fun p np=>?_⟩
       have u19:=zE (o:=.tup [V.ref l1,V.ref l2]) np
       have d19:=d17.same (u18.trans u19)
       have h1:=(u18.trans u19) _ _ hl1
       have h2:=u19 _ _ (zD (H:=H17) (a:=l2) (o:=.lst (us2.map V.str)))
       have hp:upd (upd H17 l2 (.lst (us2.map V.str))) p (.tup [V.ref l1,V.ref l2]) p = some (.tup [V.ref l1,V.ref l2]):=zD
       generalize upd (upd H17 l2 (.lst (us2.map V.str))) p (.tup [V.ref l1,V.ref l2]) = H19 at d19 h1 h2 hp ⊢
       clear d17 u18 u19 hl1 np nl2' e17 la e16 nl1
       refine ⟨p,rfl,⟨_,SqT.of hp⟩,jU (K:=K) (a:=p) (xs:=[V.ref l1,V.ref l2]) (fun i σ H'=>∃ o13 hs,σ = [some (.ref sa),some (.int m),some (.ref rl),some (.ref ll),some (.ref x),some (.ref x'),some (.str root),some (.str leaf),some (.ref nl),some (.ref hl),some (.int t),some (.ref p4),o12,o13,none,none,none] /\ LA P w K aC H2 H' x fp x' fq nl hl root leaf S'' rows ns' (t + 1) hs (2 * t + i) /\ H' p = some (.tup [V.ref l1,V.ref l2]) /\ H' l1 = some (.lst (us1.map V.str)) /\ H' l2 = some (.lst (us2.map V.str))) ⟨o13,hs,rfl,d19,hp,h1,h2⟩ (fun i σ H' _ h=>?_) ?_ ?_⟩
       ·obtain ⟨_,_,_,_,hp,_⟩:=h
        exact SqT.of hp
       ·clear d19 hp h1 h2
        rintro i v σ H' hv ⟨o13,hs,rfl,la,hp,h1,h2⟩
        obtain ⟨l,us,rfl,hl',n1,n2,bu,ku⟩:∃ (l:Addr) (us:List Str),v = .ref l /\ H' l = some (.lst (us.map V.str)) /\ l ≠ nl /\ l ≠ hl /\ us.length <= 9 /\ ∀ u ∈ us,PyData.strOk u = true:=by
         match i,hv with
         | 0,hv=>cases hv; exact ⟨l1,us1,rfl,h1,ne1,ne2,b1,k1⟩
         | 1,hv=>cases hv; exact ⟨l2,us2,rfl,h2,ne3,ne4,b2,k2⟩
        have i2:i < 2:=(List.getElem?_eq_some_iff.mp hv).1
        refine ⟨_,rfl,.inl ⟨rfl,_,SqL.of la.hh⟩,_,rfl,_,rfl,l,_,rfl,.inl (SqL.of hl'),fun l3 n3=>⟨lineN 2,fun p3 np3=>?_⟩⟩
        have w1:=zE (o:=.lst (us.map V.str)) n3
        have w2:=zE (o:=.tup [V.ref l,V.ref l3]) np3
        have la':=la.same (w1.trans w2)
        have e':=w1.trans w2
        have hp':=e' _ _ hp
        have h1':=e' _ _ h1
        have h2':=e' _ _ h2
        have hP:HP (upd (upd H' l3 (.lst (us.map V.str))) p3 (.tup [V.ref l,V.ref l3])) nl hl (.ref p3):=⟨p3,l,l3,us,rfl,zD,e' _ _ hl',w2 _ _ zD,n1,Ne.symm (zJ la.hn n3),n2,Ne.symm (zJ la.hh n3),bu,ku⟩
        generalize upd (upd H' l3 (.lst (us.map V.str))) p3 (.tup [V.ref l,V.ref l3]) = H20 at la' hp' h1' h2' hP ⊢
        have np:p ≠ hl:=fun z=>by rw [z,la'.hh] at hp'; cases hp'
        exact ⟨hl,_,_,rfl,rfl,la'.hh,qG (by have:=la'.ln; omega),_,_,rfl,la'.push nh hl2 hP,by rw [zI np]; exact hp',by rw [zI ne2]; exact h1',by rw [zI ne4]; exact h2'⟩
       ·rintro σ' H20 ⟨o13,hs,rfl,la,_⟩
        exact ⟨x,fp,_,_,_,_,S'',ns',hs,rfl,la⟩
  ·clear la0
   clear x fp
   rintro σ H9 ⟨x,fp,o10,o11,o12,o13,S,ns,hs,rfl,la⟩
   have etm:((m:Nat):Int).toNat = m:=by omega
   rw [etm] at la
   have tkm:rows.take m = rows:=List.take_of_length_le (by omega)
   have nsl:ns.length = m:=by rw [la.sw.len,tkm,lrows]
   have Sl:S.length <= 20:=by have:=la.sw.slen; rw [tkm] at this; simp at this; omega
   have swr:Sw S [root,leaf] root rows ns (vws m):=by have:=la.sw; rw [tkm] at this; exact this
   refine ⟨_,rfl,_,rfl,by omega,by omega,xQ (lo:=0) (n:=((m:Nat):Int).toNat) (fun t σ H'=>∃ o10 o14,σ = [some (.ref sa),some (.int m),some (.ref rl),some (.ref ll),some (.ref x),some (.ref x'),some (.str root),some (.str leaf),some (.ref nl),some (.ref hl),o10,o11,o12,o13,o14,none,none] /\ LA P w K aC H2 H' x fp x' fq nl hl root leaf S rows ns m hs (2 * m))
    ⟨o10,none,rfl,la⟩ ?_ ?_⟩
   ·clear la
    rintro t σ H10 ht ⟨o10,o14,rfl,la⟩
    have ht:t < m:=by omega
    have et:(0:Int) + (t:Int) = (t:Int):=by omega
    rw [et]
    have hr0:rows[t]? = some rows[t]:=List.getElem?_eq_getElem (by omega)
    generalize rows[t] = r at hr0
    refine ⟨_,rfl,_,rfl,_,rfl,_,rfl,x,nl,ll,fp,S,[root,leaf],root,rows,rows,ns,vws m,m,t,rfl,la.W.sh,swr,la.hn,hll.same la.W.same,m9,ht,by omega,fun _=>Iff.rfl,fun H11 e11=>⟨true,rfl,iteNF ?_⟩⟩
    have la:=la.same e11
    refine ⟨_,rfl,_,rfl,_,rfl,_,rfl,_,rfl,x,nl,rl,fp,S,[root,leaf],root,rows,rows,ns,vws m,t,r,rfl,la.W.sh,swr,la.hn,hrl2.same la.W.same,hr0,hr0,vws_at ht,by omega,fun H12 e12=>⟨true,rfl,iteNF ?_⟩⟩
    have la:=la.same e12
    clear e11 e12
    have mk:∀ c:Int,∃ z:Nat,c % (m:Int) = (z:Int) /\ z < m:=fun c=>⟨(c % (m:Int)).toNat,by
     have:=Int.emod_nonneg c (show (m:Int) ≠ 0 by omega)
     omega,by
     have:=Int.emod_lt_of_pos c (show 0 < (m:Int) by omega)
     omega⟩
    refine ⟨_,rfl,sa,ns0,1,rfl,la.W.same.seq hsa2,by omega,fun c1=>⟨_,rfl,_,_,rfl,rfl,(show (0:Int) < (m:Int) by omega),_,rfl,_,_,rfl,rfl,_,rfl,sa,ns0,2,rfl,la.W.same.seq hsa2,by omega,fun c2=>⟨_,_,rfl,rfl,(by decide:(0:Int) < 5),_,_,rfl,rfl,_,rfl,_,_,rfl,rfl,(show (0:Int) < (m:Int) by omega),lineN 2,fun p np=>?_⟩⟩⟩
    obtain ⟨z1,ez1,hz1⟩:=mk c1
    obtain ⟨z2,ez2,hz2⟩:=mk ((t:Int) + 1 + c2 % 5)
    have up:=zE (o:=.tup [V.int (c1 % (m:Int)),V.int (((t:Int) + 1 + c2 % 5) % (m:Int))]) np
    have hp:upd H12 p (.tup [V.int (c1 % (m:Int)),V.int (((t:Int) + 1 + c2 % 5) % (m:Int))]) p = some (.tup (vI [z1,z2])):=by rw [zD,ez1,ez2]; rfl
    have la:=la.same up
    show gName 14 (V.ref p) _ (upd H12 p (.tup [V.int (c1 % (m:Int)),V.int (((t:Int) + 1 + c2 % 5) % (m:Int))])) _
    generalize upd H12 p (.tup [V.int (c1 % (m:Int)),V.int (((t:Int) + 1 + c2 % 5) % (m:Int))]) = H13 at hp la ⊢
    refine ⟨_,rfl,_,rfl,_,rfl,_,rfl,_,rfl,x,nl,ll,p,fp,S,[root,leaf],root,rows,ns,vws m,m,t,[z1,z2],rfl,la.W.sh,swr,la.hn,hll.same la.W.same,lrows.symm,ht,hp,fun o ho=>?_,fun H14 e14=>⟨true,rfl,iteNF ⟨_,_,rfl,la.same e14⟩⟩⟩
    rcases List.mem_cons.mp ho with z | z
    ·omega
    ·have:=List.mem_singleton.mp z
     omega
   ·clear la
    rintro σ H10 ⟨o10,o14,rfl,la⟩
    have n0:(ns.getD 0 "").length + ("x":Str).length <= 16777216:=by
     obtain ⟨e,he,_,hn,_⟩:=swr.row 0 _ (List.getElem?_eq_getElem (by omega))
     have:ns.getD 0 "" = e.nm:=by rw [List.getD_eq_getElem?_getD,hn]; rfl
     rw [this]
     have:=(sw_ok swr (by omega) he).len
     have h1:("x":Str).length = 1:=by decide +kernel
     omega
    refine ⟨_,rfl,_,rfl,_,rfl,nl,_,_,_,rfl,rfl,SqL.of la.hn,xA (k:=0) (by omega),_,_,rfl,rfl,le_line n0,lineN 5,fun p5 n5=>?_⟩
    have u5:=zE (o:=.lst [V.str "nosuch",V.str "",V.str root,V.str leaf,V.str (ns.getD 0 "" ++ "x")]) n5
    have la:=la.same u5
    refine ⟨_,rfl,sa,ns0,2,rfl,la.W.same.seq hsa2,by omega,fun c2=>⟨_,_,rfl,rfl,⟨by decide,by decide⟩,_,_,rfl,rfl,(by decide:(0:Int) < 5),?_⟩⟩
    obtain ⟨wx,hwx,wc⟩:=wrong_at (x:="nosuch") (y:="") (z:=root) (l:=leaf) (u:=ns.getD 0 "" ++ "x") c2
    refine ⟨p5,_,_,_,rfl,rfl,SqL.of zD,hwx,?_⟩
    generalize upd H10 p5 (.lst [V.str "nosuch",V.str "",V.str root,V.str leaf,V.str (ns.getD 0 "" ++ "x")]) = H11 at la ⊢
    have wno:formD S (.str wx) "note" = false:=wrong_no swr Sl (by
     rcases wc with z | z | z | z | z
     ·exact .inl z
     ·exact .inr (.inl z)
     ·exact .inr (.inr (.inl (by rw [z]; exact List.mem_cons_self ..)))
     ·exact .inr (.inr (.inl (by rw [z]; exact List.mem_cons_of_mem _ (List.mem_cons_self ..))))
     ·exact .inr (.inr (.inr ⟨_,z⟩)))
    clear u5 n5 hwx wc n0
    refine ⟨_,rfl,sa,ns0,1,rfl,la.W.same.seq hsa2,by omega,fun c1=>?_⟩
    refine ⟨fun σ' H'=>σ' = [some (.ref sa),some (.int m),some (.ref rl),some (.ref ll),some (.ref x),some (.ref x'),some (.str root),some (.str leaf),some (.ref nl),some (.ref hl),o10,o11,o12,o13,o14,some (.str wx),some (.int c1)] /\ LA P w K aC H2 H' x fp x' fq nl hl root leaf S rows ns m hs (2 * m),?_,?_⟩
    ·refine ⟨_,rfl,_,_,rfl,rfl,(by decide:(0:Int) < 9),rfl,_,rfl,ite2 (fun d1=>?_) (fun d1=>iteF ⟨rfl,la⟩)⟩
     exact ⟨_,rfl,_,_,rfl,rfl,⟨by decide,by decide⟩,_,_,rfl,rfl,(by decide:(0:Int) < 99),_,_,rfl,rfl,(1050 + c1 / 9 % 99).toNat,by
      show [V.int (1050 + c1 / 9 % 99)] = _
      congr 2
      omega,by omega,fun H' e=>⟨true,rfl,iteNF ⟨rfl,la.same e⟩⟩⟩
    ·clear la
     rintro σ H12 ⟨rfl,la⟩
     refine ⟨_,rfl,_,rfl,_,rfl,nl,_,_,_,rfl,rfl,SqL.of la.hn,xA (k:=0) (by omega),x,fp,S,.str wx,.str (ns.getD 0 ""),_,_,rfl,sw_vs swr la.W.sh,rfl,rfl,wno,fun H13 e13=>⟨true,rfl,iteT ?_⟩⟩
     have la:=la.same e13
     refine ⟨_,rfl,hl,rfl,⟨_,SqL.of la.hh⟩,jH (K:=K) (a:=hl) (xs:=hs) (fun u ys σ H5=>∃ o,σ = [o] /\ H5 = H13 /\ ys = []) ⟨none,rfl,rfl,rfl⟩ (le_line (by have:=la.ln; omega)) ?_ ?_ ?_⟩
     ·rintro u ys σ H5 hu ⟨o,rfl,rfl,rfl⟩
      exact ⟨SqL.of la.hh,Nat.zero_le _⟩
     ·rintro u v ys σ H5 hv ⟨o,rfl,rfl,rfl⟩
      obtain ⟨t,l1,l2,us,rfl,ht,h1,h2,_,_,_,_,bu,ku⟩:=la.hv v (List.mem_of_getElem? hv)
      refine ⟨_,rfl,t,_,_,_,rfl,rfl,SqT.of ht,rfl,_,rfl,t,_,_,_,rfl,rfl,SqT.of ht,rfl,.list (us.map .str),.list (us.map .str),⟨l1,_,rfl,SqL.of h1,DtAll.strs _⟩,⟨l2,_,rfl,SqL.of h2,DtAll.strs _⟩,(yJ ku).1,(yJ ku).1,_,rfl,?_⟩
      rw [eqv_strl]
      exact iteF ⟨_,rfl,rfl,rfl⟩
     ·rintro ys σ H5 ⟨o,rfl,rfl,rfl⟩ cl ncl
      refine ⟨Nat.zero_le _,fun c2l nc2=>?_⟩
      have c2:=zE (o:=.lst []) nc2
      refine ⟨.list [],.list [],⟨cl,[],rfl,SqL.of (c2 _ _ zD),rfl⟩,⟨c2l,[],rfl,SqL.of zD,rfl⟩,by decide +kernel,by decide +kernel,?_⟩
      rw [show PyData.eqv (.list []) (.list []) = true from rfl]
      exact kQ _
end g_law
end
end An20
/-! the evaluating tactics look for a twin of each of these constants under these names; names that are taken keep them from laying one,for the twins' equations make the compiled file too large -/
theorem PySem.W.Fast.tw14873153950703881418:True:=trivial
theorem PySem.W.Fast.tw12279290234224058612:True:=trivial
theorem PySem.W.Fast.tw6762657590281112453:True:=trivial
theorem PySem.W.Fast.tw13197426705553826342:True:=trivial
theorem PySem.W.Fast.tw9623313561706450911:True:=trivial
theorem PySem.W.Fast.tw17342679695073921432:True:=trivial
theorem PySem.W.Fast.tw8746360859553833091:True:=trivial
theorem PySem.W.Fast.tw6972764515614256421:True:=trivial
theorem PySem.W.Fast.tw9652315512437124622:True:=trivial
theorem PySem.W.Fast.tw18347313355221610268:True:=trivial
theorem PySem.W.Fast.tw6253028890085233153:True:=trivial
theorem PySem.W.Fast.tw9300918019248079574:True:=trivial
theorem PySem.W.Fast.tw12626203969621331319:True:=trivial
theorem PySem.W.Fast.tw17334889811758933406:True:=trivial
theorem PySem.W.Fast.tw1168132125876200897:True:=trivial
theorem PySem.W.Fast.tw18279752175522205727:True:=trivial
theorem PySem.W.Fast.tw5823913890549368547:True:=trivial
theorem PySem.W.Fast.tw6688815513636962859:True:=trivial
theorem PySem.W.Fast.tw6852753606709417354:True:=trivial
theorem PySem.W.Fast.tw17290657950143935304:True:=trivial
theorem PySem.W.Fast.tw6287543847469536969:True:=trivial
theorem PySem.W.Fast.tw329808354255980310:True:=trivial
theorem PySem.W.Fast.tw16324486489712503156:True:=trivial
theorem PySem.W.Fast.tw5758013063342930785:True:=trivial
theorem PySem.W.Fast.tw16136305903382659268:True:=trivial
theorem PySem.W.Fast.tw13132580270814585397:True:=trivial
theorem PySem.W.Fast.tw1049258824381505597:True:=trivial
theorem PySem.W.Fast.tw12731001273256563395:True:=trivial
theorem PySem.W.Fast.tw9400598258911504832:True:=trivial
theorem PySem.W.Fast.tw17176159114565514076:True:=trivial
theorem PySem.W.Fast.tw5046153333170795524:True:=trivial
theorem PySem.W.Fast.tw973168275407073500:True:=trivial
theorem PySem.W.Fast.tw8639450238551310609:True:=trivial
theorem PySem.W.Fast.tw10028198363696974060:True:=trivial
theorem PySem.W.Fast.tw12034353492569561914:True:=trivial
theorem PySem.W.Fast.tw3532401059534004514:True:=trivial
theorem PySem.W.Fast.tw10107712462205402343:True:=trivial
theorem PySem.W.Fast.tw1754952330296873152:True:=trivial
theorem PySem.W.Fast.tw3156281839609138448:True:=trivial
theorem PySem.W.Fast.tw9231820379684998570:True:=trivial
theorem PySem.W.Fast.tw404170318962559839:True:=trivial
theorem PySem.W.Fast.tw6035717086532705940:True:=trivial
theorem PySem.W.Fast.tw4635801198984949021:True:=trivial
theorem PySem.W.Fast.tw12951899385612702479:True:=trivial
theorem PySem.W.Fast.tw12498338566789741061:True:=trivial
theorem PySem.W.Fast.tw7834080728820010469:True:=trivial
theorem PySem.W.Fast.tw16789928797061693079:True:=trivial
theorem PySem.W.Fast.tw11997562103381803627:True:=trivial
theorem PySem.W.Fast.tw9678553335006783141:True:=trivial
theorem PySem.W.Fast.tw3373279898462563043:True:=trivial
theorem PySem.W.Fast.tw8424510492501329658:True:=trivial
theorem PySem.W.Fast.tw8450286304421628588:True:=trivial
namespace An20
open PySem L2 An
theorem kd_of {P:Program} {w:World} {K:PySem.W.Frag} {a:Addr} {t1 u1 t2 u2 t3 u3:Tok} {n:Nat} (h:K.lookup a = some { cls:=.type "dict",data:=.dict #[⟨PyData.keyHash w.params "leaf",.str "leaf" t1,.str "L" u1⟩,⟨PyData.keyHash w.params "tree",.str "tree" t2,.str "T" u2⟩,⟨PyData.keyHash w.params "note",.str "note" t3,.str "N" u3⟩] n }) :
  KD P w K a xE:=by
 intro hp X
 refine ⟨[(Sum.inr "leaf",.str "L" u1),(Sum.inr "tree",.str "T" u2),(Sum.inr "note",.str "N" u3)],.cons ⟨rfl,u1,rfl⟩ (.cons ⟨rfl,u2,rfl⟩ (.cons ⟨rfl,u3,rfl⟩ .nil)),_,_,n,X a _ h,⟨rfl,rfl,rfl⟩,rfl,?_,?_,?_⟩
 ·intro e he
  have he:e ∈ [(⟨PyData.keyHash w.params "leaf",.str "leaf" t1,.str "L" u1⟩:DictEntry),⟨PyData.keyHash w.params "tree",.str "tree" t2,.str "T" u2⟩,⟨PyData.keyHash w.params "note",.str "note" t3,.str "N" u3⟩]:=by simpa using he
  rcases List.mem_cons.mp he with z | z
  ·subst z; exact ⟨Sum.inr "leaf",xV _ t1,rfl⟩
  ·rcases List.mem_cons.mp z with z | z
   ·subst z; exact ⟨Sum.inr "tree",xV _ t2,rfl⟩
   ·rw [List.mem_singleton.mp z]; exact ⟨Sum.inr "note",xV _ t3,rfl⟩
 ·exact .cons (xV _ t1) rfl (.cons (xV _ t2) rfl (.cons (xV _ t3) rfl .nil))
 ·show ([Sum.inr "leaf",Sum.inr "tree",Sum.inr "note"]:List Key).Nodup
  decide +kernel
set_option maxHeartbeats 0 in
theorem all_mk {l:PySem.W.OpenLaw} {w:World} {K:PySem.W.Frag} {h:Heap} {mg:Str -> Option Value} {fa:Addr} {t1 t2 t3 t4 t5 t6:Tok} {aL aC aN aT aA b1 b2 b3 b4 b5 b6 b7 b8 fP:Addr} (X:K.In h) (G:h.Ns mainGlobals mg) (hfa:mg "law" = some (.ref fa))
  (z_len:PySem.W.nsIn K mainGlobals "len" = some none)
  (z_all:PySem.W.nsIn K mainGlobals "all" = some none)
  (z_ord:PySem.W.nsIn K mainGlobals "ord" = some none)
  (z_isinstance:PySem.W.nsIn K mainGlobals "isinstance" = some none)
  (z_str:PySem.W.nsIn K mainGlobals "str" = some none)
  (z_set:PySem.W.nsIn K mainGlobals "set" = some none)
  (z_sorted:PySem.W.nsIn K mainGlobals "sorted" = some none)
  (z_tuple:PySem.W.nsIn K mainGlobals "tuple" = some none)
  (z_list:PySem.W.nsIn K mainGlobals "list" = some none)
  (z_max:PySem.W.nsIn K mainGlobals "max" = some none)
  (z_int:PySem.W.nsIn K mainGlobals "int" = some none)
  (z_bool:PySem.W.nsIn K mainGlobals "bool" = some none)
  (z_range:PySem.W.nsIn K mainGlobals "range" = some none)
  (z_ValueError:PySem.W.nsIn K mainGlobals "ValueError" = some none)
  (z_LONGEST_LINE:PySem.W.nsIn K mainGlobals "LONGEST_LINE" = some (some (.int 20 t1)))
  (z_LONGEST_LABEL:PySem.W.nsIn K mainGlobals "LONGEST_LABEL" = some (some (.int 8 t2)))
  (z_MOST_PARENTS:PySem.W.nsIn K mainGlobals "MOST_PARENTS" = some (some (.int 2 t3)))
  (z_PERCENT:PySem.W.nsIn K mainGlobals "PERCENT" = some (some (.int 37 t4)))
  (z_DIGEST_FACTOR:PySem.W.nsIn K mainGlobals "DIGEST_FACTOR" = some (some (.int 31 t5)))
  (z_DIGEST_BOUND:PySem.W.nsIn K mainGlobals "DIGEST_BOUND" = some (some (.int 97 t6)))
  (z_LETTERS:PySem.W.nsIn K mainGlobals "LETTERS" = some (some (.ref aL)))
  (z_NoName:PySem.W.nsIn K mainGlobals "NoName" = some (some (.ref aN)))
  (z_NoThing:PySem.W.nsIn K mainGlobals "NoThing" = some (some (.ref aT)))
  (z_AnnalsError:PySem.W.nsIn K mainGlobals "AnnalsError" = some (some (.ref aA)))
  (z_BadPath:PySem.W.nsIn K mainGlobals "BadPath" = some (some (.ref b1)))
  (z_BadFiles:PySem.W.nsIn K mainGlobals "BadFiles" = some (some (.ref b2)))
  (z_NoFit:PySem.W.nsIn K mainGlobals "NoFit" = some (some (.ref b3)))
  (z_Clash:PySem.W.nsIn K mainGlobals "Clash" = some (some (.ref b4)))
  (z_NoVersion:PySem.W.nsIn K mainGlobals "NoVersion" = some (some (.ref b5)))
  (z_BadLine:PySem.W.nsIn K mainGlobals "BadLine" = some (some (.ref b6)))
  (z_NoBranch:PySem.W.nsIn K mainGlobals "NoBranch" = some (some (.ref b7)))
  (z_BadBranch:PySem.W.nsIn K mainGlobals "BadBranch" = some (some (.ref b8)))
  (z_parents_in:PySem.W.nsIn K mainGlobals "parents_in" = some (some (.ref fP)))
  (z_Shelf:PySem.W.nsIn K mainGlobals "Shelf" = some (some (.ref aC)))
  (s_xNoName:PySem.W.excIn K aN mroVE "ValueError.__new__" = true)
  (s_xNoThing:PySem.W.excIn K aT mroVE "ValueError.__new__" = true)
  (s_xNoVersion:PySem.W.excIn K b5 mroVE "ValueError.__new__" = true)
  (s_kd:KD l.prog w K aL xE)
  (pg_aC:PySem.W.plainGet K aC Str.empty = true)
  (hd_aC:PySem.W.hasDictIn K aC = true)
  (po_aC:PySem.W.plainOver K aC = true)
  (sa_aC:PySem.W.findIn K (.ref aC) "__setattr__" = some (some (.builtin "object.__setattr__")))
  (mk_aC:PySem.W.makesIn K aC = true)
  (kc_aC:PySem.W.keepIn K (.ref aC) = true)
  (s_n1:PySem.W.findIn K (.ref aC) "thing_by_name" = some none)
  (s_n2:PySem.W.findIn K (.ref aC) "name_by_thing" = some none)
  (s_n3:PySem.W.findIn K (.ref aC) "next_numbers" = some none)
  (s_exmV:PySem.W.exmOne K (.ref b5) (.ref aA) = some true)
  (s_ekV:PySem.W.ExcKit K b5)
  (s_kV0:PySem.W.kitOne K (.ref b5) (.ref aT) = some false)
  (s_kV1:PySem.W.kitOne K (.ref b5) (.ref aN) = some false)
  (s_kV2:PySem.W.kitOne K (.ref b5) (.ref b2) = some false)
  (s_kV3:PySem.W.kitOne K (.ref b5) (.ref b1) = some false)
  (s_kV4:PySem.W.kitOne K (.ref b5) (.ref b3) = some false)
  (s_kV5:PySem.W.kitOne K (.ref b5) (.ref b4) = some false)
  (s_kV6:PySem.W.kitOne K (.ref b5) (.ref b7) = some false)
  (s_kV7:PySem.W.kitOne K (.ref b5) (.ref b8) = some false)
  (s_kV8:PySem.W.kitOne K (.ref b5) (.ref b5) = some true)
  (s_kV9:PySem.W.kitOne K (.ref b5) (.ref b6) = some false)
  (s_kVV:PySem.W.kitOne K (.ref b5) (.type "ValueError") = some true)
  (s_kit:∀ a ∈ kinds,∀ b ∈ kinds,PySem.W.kitOne K (.type a) (.type b) = some (a == b || (a == "bool" && b == "int")))
  {f0 f1 f2 f3 f4 f5 f6 f7 f8 f9 f10 f11 f12 f13 f14 f15 f16 f17 f18 f19 f20 f21 f22 f23 f24 f25 f26 f27 f28 f29 f30 f31 f32 f33 f34 f35 f36 f37 f38 f39 f40 f41 f42 f43 f44 f45 f46 f47 f48 f49 f50 f51 f52 f53:Addr} {od0 an0 od1 an1 od2 an2 od3 an3 od4 an4 od5 an5 od6 an6 od7 an7 od8 an8 od9 an9 od10 an10 od11 an11 od12 an12 od13 an13 od14 an14 od15 an15 od16 an16 od17 an17 od18 an18 od19 an19 od20 an20 od21 an21 od22 an22 od23 an23 od24 an24 od25 an25 od26 an26 od27 an27 od28 an28 od29 an29 od30 an30 od31 an31 od32 an32 od33 an33 od34 an34 od35 an35 od36 an36 od37 an37 od38 an38 od39 an39 od40 an40 od41 an41 od42 an42 od43 an43 od44 an44 od45 an45 od46 an46 od47 an47 od48 an48 od49 an49 od50 an50 od51 an51 od52 an52 od53 an53:Option Addr} {sl0 sl1 sl2 sl3 sl4 sl5 sl6 sl7 sl8 sl9 sl10 sl11 sl12 sl13 sl14 sl15 sl16 sl17 sl18 sl19 sl20 sl21 sl22 sl23 sl24 sl25 sl26 sl27 sl28 sl29 sl30 sl31 sl32 sl33 sl34 sl35 sl36 sl37 sl38 sl39 sl40 sl41 sl42 sl43 sl44 sl45 sl46 sl47 sl48 sl49 sl50 sl51 sl52 sl53:Array (Option Value)} {oc0 kV0 dc0 pm0 cd0 ct0 oc1 kV1 dc1 pm1 cd1 ct1 oc2 kV2 dc2 pm2 cd2 ct2 oc3 kV3 dc3 pm3 cd3 ct3 oc4 kV4 dc4 pm4 cd4 ct4 oc5 kV5 dc5 pm5 cd5 ct5 oc6 kV6 dc6 pm6 cd6 ct6 oc7 kV7 dc7 pm7 cd7 ct7 oc8 kV8 dc8 pm8 cd8 ct8 oc9 kV9 dc9 pm9 cd9 ct9 oc10 kV10 dc10 pm10 cd10 ct10 oc11 kV11 dc11 pm11 cd11 ct11 oc12 kV12 dc12 pm12 cd12 ct12 oc13 kV13 dc13 pm13 cd13 ct13 oc14 kV14 dc14 pm14 cd14 ct14 oc15 kV15 dc15 pm15 cd15 ct15 oc16 kV16 dc16 pm16 cd16 ct16 oc17 kV17 dc17 pm17 cd17 ct17 oc18 kV18 dc18 pm18 cd18 ct18 oc19 kV19 dc19 pm19 cd19 ct19 oc20 kV20 dc20 pm20 cd20 ct20 oc21 kV21 dc21 pm21 cd21 ct21 oc22 kV22 dc22 pm22 cd22 ct22 oc23 kV23 dc23 pm23 cd23 ct23 oc24 kV24 dc24 pm24 cd24 ct24 oc25 kV25 dc25 pm25 cd25 ct25 oc26 kV26 dc26 pm26 cd26 ct26 oc27 kV27 dc27 pm27 cd27 ct27 oc28 kV28 dc28 pm28 cd28 ct28 oc29 kV29 dc29 pm29 cd29 ct29 oc30 kV30 dc30 pm30 cd30 ct30 oc31 kV31 dc31 pm31 cd31 ct31 oc32 kV32 dc32 pm32 cd32 ct32 oc33 kV33 dc33 pm33 cd33 ct33 oc34 kV34 dc34 pm34 cd34 ct34 oc35 kV35 dc35 pm35 cd35 ct35 oc36 kV36 dc36 pm36 cd36 ct36 oc37 kV37 dc37 pm37 cd37 ct37 oc38 kV38 dc38 pm38 cd38 ct38 oc39 kV39 dc39 pm39 cd39 ct39 oc40 kV40 dc40 pm40 cd40 ct40 oc41 kV41 dc41 pm41 cd41 ct41 oc42 kV42 dc42 pm42 cd42 ct42 oc43 kV43 dc43 pm43 cd43 ct43 oc44 kV44 dc44 pm44 cd44 ct44 oc45 kV45 dc45 pm45 cd45 ct45 oc46 kV46 dc46 pm46 cd46 ct46 oc47 kV47 dc47 pm47 cd47 ct47 oc48 kV48 dc48 pm48 cd48 ct48 oc49 kV49 dc49 pm49 cd49 ct49 oc50 kV50 dc50 pm50 cd50 ct50 oc51 kV51 dc51 pm51 cd51 ct51 oc52 kV52 dc52 pm52 cd52 ct52 oc53 kV53 dc53 pm53 cd53 ct53:Value}
  (a0:PySem.W.nsIn K mainGlobals "_law_cell_at" = some (some (.ref f0)))
  (l0:K.lookup f0 = some ⟨oc0,od0,.func (PySem.W.fnOf "_law_cell_at" "_law_cell_at" (zN g_cell.st) (zL g_cell.st) (zC g_cell.st) .none kV0 dc0 pm0 an0 cd0 ct0),sl0⟩)
  (c0:PySem.W.codeIn K cd0 "_law_cell_at" = true)
  (k0:PySem.W.keepIn K (.ref f0) = true)
  (a1:PySem.W.nsIn K mainGlobals "_law_rows" = some (some (.ref f1)))
  (l1:K.lookup f1 = some ⟨oc1,od1,.func (PySem.W.fnOf "_law_rows" "_law_rows" (zN g_rows.st) (zL g_rows.st) (zC g_rows.st) .none kV1 dc1 pm1 an1 cd1 ct1),sl1⟩)
  (c1:PySem.W.codeIn K cd1 "_law_rows" = true)
  (k1:PySem.W.keepIn K (.ref f1) = true)
  (a2:PySem.W.nsIn K mainGlobals "_law_lies" = some (some (.ref f2)))
  (l2:K.lookup f2 = some ⟨oc2,od2,.func (PySem.W.fnOf "_law_lies" "_law_lies" (zN g_lies.st) (zL g_lies.st) (zC g_lies.st) .none kV2 dc2 pm2 an2 cd2 ct2),sl2⟩)
  (c2:PySem.W.codeIn K cd2 "_law_lies" = true)
  (k2:PySem.W.keepIn K (.ref f2) = true)
  (a3:PySem.W.findIn K (.ref aC) "names" = some (some (.ref f3)))
  (i3:PySem.W.isFn K (.ref f3) = true)
  (l3:K.lookup f3 = some ⟨oc3,od3,.func (PySem.W.fnOf "names" "Shelf.names" (zN s_names.st) (zL s_names.st) (zC s_names.st) .none kV3 dc3 pm3 an3 cd3 ct3),sl3⟩)
  (c3:PySem.W.codeIn K cd3 "Shelf.names" = true)
  (k3:PySem.W.keepIn K (.ref f3) = true)
  (a4:PySem.W.findIn K (.ref aC) "take" = some (some (.ref f4)))
  (i4:PySem.W.isFn K (.ref f4) = true)
  (l4:K.lookup f4 = some ⟨oc4,od4,.func (PySem.W.fnOf "take" "Shelf.take" (zN s_take.st) (zL s_take.st) (zC s_take.st) .none kV4 dc4 pm4 an4 cd4 ct4),sl4⟩)
  (c4:PySem.W.codeIn K cd4 "Shelf.take" = true)
  (k4:PySem.W.keepIn K (.ref f4) = true)
  (a5:PySem.W.nsIn K mainGlobals "is_key" = some (some (.ref f5)))
  (l5:K.lookup f5 = some ⟨oc5,od5,.func (PySem.W.fnOf "is_key" "is_key" (zN s_key.st) (zL s_key.st) (zC s_key.st) .none kV5 dc5 pm5 an5 cd5 ct5),sl5⟩)
  (c5:PySem.W.codeIn K cd5 "is_key" = true)
  (k5:PySem.W.keepIn K (.ref f5) = true)
  (a6:PySem.W.findIn K (.ref aC) "has" = some (some (.ref f6)))
  (i6:PySem.W.isFn K (.ref f6) = true)
  (l6:K.lookup f6 = some ⟨oc6,od6,.func (PySem.W.fnOf "has" "Shelf.has" (zN s_has.st) (zL s_has.st) (zC s_has.st) .none kV6 dc6 pm6 an6 cd6 ct6),sl6⟩)
  (c6:PySem.W.codeIn K cd6 "Shelf.has" = true)
  (k6:PySem.W.keepIn K (.ref f6) = true)
  (a7:PySem.W.nsIn K mainGlobals "need_name" = some (some (.ref f7)))
  (l7:K.lookup f7 = some ⟨oc7,od7,.func (PySem.W.fnOf "need_name" "need_name" (zN s_nname.st) (zL s_nname.st) (zC s_nname.st) .none kV7 dc7 pm7 an7 cd7 ct7),sl7⟩)
  (c7:PySem.W.codeIn K cd7 "need_name" = true)
  (k7:PySem.W.keepIn K (.ref f7) = true)
  (a8:PySem.W.findIn K (.ref aC) "thing" = some (some (.ref f8)))
  (i8:PySem.W.isFn K (.ref f8) = true)
  (l8:K.lookup f8 = some ⟨oc8,od8,.func (PySem.W.fnOf "thing" "Shelf.thing" (zN s_thing.st) (zL s_thing.st) (zC s_thing.st) .none kV8 dc8 pm8 an8 cd8 ct8),sl8⟩)
  (c8:PySem.W.codeIn K cd8 "Shelf.thing" = true)
  (k8:PySem.W.keepIn K (.ref f8) = true)
  (a9:PySem.W.findIn K (.ref aC) "__init__" = some (some (.ref f9)))
  (i9:PySem.W.isFn K (.ref f9) = true)
  (l9:K.lookup f9 = some ⟨oc9,od9,.func (PySem.W.fnOf "__init__" "Shelf.__init__" (zN s_init.st) (zL s_init.st) (zC s_init.st) .none kV9 dc9 pm9 an9 cd9 ct9),sl9⟩)
  (c9:PySem.W.codeIn K cd9 "Shelf.__init__" = true)
  (k9:PySem.W.keepIn K (.ref f9) = true)
  (a10:PySem.W.nsIn K mainGlobals "is_sign" = some (some (.ref f10)))
  (l10:K.lookup f10 = some ⟨oc10,od10,.func (PySem.W.fnOf "is_sign" "is_sign" (zN f_is_sign.st) (zL f_is_sign.st) (zC f_is_sign.st) .none kV10 dc10 pm10 an10 cd10 ct10),sl10⟩)
  (c10:PySem.W.codeIn K cd10 "is_sign" = true)
  (k10:PySem.W.keepIn K (.ref f10) = true)
  (a11:PySem.W.nsIn K mainGlobals "is_line" = some (some (.ref f11)))
  (l11:K.lookup f11 = some ⟨oc11,od11,.func (PySem.W.fnOf "is_line" "is_line" (zN f_is_line.st) (zL f_is_line.st) (zC f_is_line.st) .none kV11 dc11 pm11 an11 cd11 ct11),sl11⟩)
  (c11:PySem.W.codeIn K cd11 "is_line" = true)
  (k11:PySem.W.keepIn K (.ref f11) = true)
  (a12:PySem.W.nsIn K mainGlobals "is_lines" = some (some (.ref f12)))
  (l12:K.lookup f12 = some ⟨oc12,od12,.func (PySem.W.fnOf "is_lines" "is_lines" (zN f_is_lines.st) (zL f_is_lines.st) (zC f_is_lines.st) .none kV12 dc12 pm12 an12 cd12 ct12),sl12⟩)
  (c12:PySem.W.codeIn K cd12 "is_lines" = true)
  (k12:PySem.W.keepIn K (.ref f12) = true)
  (a13:PySem.W.nsIn K mainGlobals "is_leaf" = some (some (.ref f13)))
  (l13:K.lookup f13 = some ⟨oc13,od13,.func (PySem.W.fnOf "is_leaf" "is_leaf" (zN t_leaf.st) (zL t_leaf.st) (zC t_leaf.st) .none kV13 dc13 pm13 an13 cd13 ct13),sl13⟩)
  (c13:PySem.W.codeIn K cd13 "is_leaf" = true)
  (k13:PySem.W.keepIn K (.ref f13) = true)
  (a14:PySem.W.nsIn K mainGlobals "is_label" = some (some (.ref f14)))
  (l14:K.lookup f14 = some ⟨oc14,od14,.func (PySem.W.fnOf "is_label" "is_label" (zN t_label.st) (zL t_label.st) (zC t_label.st) .none kV14 dc14 pm14 an14 cd14 ct14),sl14⟩)
  (c14:PySem.W.codeIn K cd14 "is_label" = true)
  (k14:PySem.W.keepIn K (.ref f14) = true)
  (a15:PySem.W.nsIn K mainGlobals "is_row" = some (some (.ref f15)))
  (l15:K.lookup f15 = some ⟨oc15,od15,.func (PySem.W.fnOf "is_row" "is_row" (zN t_row.st) (zL t_row.st) (zC t_row.st) .none kV15 dc15 pm15 an15 cd15 ct15),sl15⟩)
  (c15:PySem.W.codeIn K cd15 "is_row" = true)
  (k15:PySem.W.keepIn K (.ref f15) = true)
  (a16:PySem.W.nsIn K mainGlobals "is_rows" = some (some (.ref f16)))
  (l16:K.lookup f16 = some ⟨oc16,od16,.func (PySem.W.fnOf "is_rows" "is_rows" (zN t_rows.st) (zL t_rows.st) (zC t_rows.st) .none kV16 dc16 pm16 an16 cd16 ct16),sl16⟩)
  (c16:PySem.W.codeIn K cd16 "is_rows" = true)
  (k16:PySem.W.keepIn K (.ref f16) = true)
  (a17:PySem.W.nsIn K mainGlobals "is_tree" = some (some (.ref f17)))
  (l17:K.lookup f17 = some ⟨oc17,od17,.func (PySem.W.fnOf "is_tree" "is_tree" (zN t_tree.st) (zL t_tree.st) (zC t_tree.st) .none kV17 dc17 pm17 an17 cd17 ct17),sl17⟩)
  (c17:PySem.W.codeIn K cd17 "is_tree" = true)
  (k17:PySem.W.keepIn K (.ref f17) = true)
  (a18:PySem.W.nsIn K mainGlobals "is_parents" = some (some (.ref f18)))
  (l18:K.lookup f18 = some ⟨oc18,od18,.func (PySem.W.fnOf "is_parents" "is_parents" (zN t_parents.st) (zL t_parents.st) (zC t_parents.st) .none kV18 dc18 pm18 an18 cd18 ct18),sl18⟩)
  (c18:PySem.W.codeIn K cd18 "is_parents" = true)
  (k18:PySem.W.keepIn K (.ref f18) = true)
  (a19:PySem.W.nsIn K mainGlobals "is_note" = some (some (.ref f19)))
  (l19:K.lookup f19 = some ⟨oc19,od19,.func (PySem.W.fnOf "is_note" "is_note" (zN t_note.st) (zL t_note.st) (zC t_note.st) .none kV19 dc19 pm19 an19 cd19 ct19),sl19⟩)
  (c19:PySem.W.codeIn K cd19 "is_note" = true)
  (k19:PySem.W.keepIn K (.ref f19) = true)
  (a20:PySem.W.nsIn K mainGlobals "is_thing" = some (some (.ref f20)))
  (l20:K.lookup f20 = some ⟨oc20,od20,.func (PySem.W.fnOf "is_thing" "is_thing" (zN t_thing.st) (zL t_thing.st) (zC t_thing.st) .none kV20 dc20 pm20 an20 cd20 ct20),sl20⟩)
  (c20:PySem.W.codeIn K cd20 "is_thing" = true)
  (k20:PySem.W.keepIn K (.ref f20) = true)
  (a21:PySem.W.nsIn K mainGlobals "need_thing" = some (some (.ref f21)))
  (l21:K.lookup f21 = some ⟨oc21,od21,.func (PySem.W.fnOf "need_thing" "need_thing" (zN t_need.st) (zL t_need.st) (zC t_need.st) .none kV21 dc21 pm21 an21 cd21 ct21),sl21⟩)
  (c21:PySem.W.codeIn K cd21 "need_thing" = true)
  (k21:PySem.W.keepIn K (.ref f21) = true)
  (a22:PySem.W.findIn K (.ref aC) "need_form" = some (some (.ref f22)))
  (i22:PySem.W.isFn K (.ref f22) = true)
  (l22:K.lookup f22 = some ⟨oc22,od22,.func (PySem.W.fnOf "need_form" "Shelf.need_form" (zN s_form.st) (zL s_form.st) (zC s_form.st) .none kV22 dc22 pm22 an22 cd22 ct22),sl22⟩)
  (c22:PySem.W.codeIn K cd22 "Shelf.need_form" = true)
  (k22:PySem.W.keepIn K (.ref f22) = true)
  (a23:PySem.W.findIn K (.ref aC) "need_names" = some (some (.ref f23)))
  (i23:PySem.W.isFn K (.ref f23) = true)
  (l23:K.lookup f23 = some ⟨oc23,od23,.func (PySem.W.fnOf "need_names" "Shelf.need_names" (zN s_need.st) (zL s_need.st) (zC s_need.st) .none kV23 dc23 pm23 an23 cd23 ct23),sl23⟩)
  (c23:PySem.W.codeIn K cd23 "Shelf.need_names" = true)
  (k23:PySem.W.keepIn K (.ref f23) = true)
  (a24:PySem.W.nsIn K mainGlobals "letter_of" = some (some (.ref f24)))
  (l24:K.lookup f24 = some ⟨oc24,od24,.func (PySem.W.fnOf "letter_of" "letter_of" (zN f_letter_of.st) (zL f_letter_of.st) (zC f_letter_of.st) .none kV24 dc24 pm24 an24 cd24 ct24),sl24⟩)
  (c24:PySem.W.codeIn K cd24 "letter_of" = true)
  (k24:PySem.W.keepIn K (.ref f24) = true)
  (a25:PySem.W.nsIn K mainGlobals "tree_parts" = some (some (.ref f25)))
  (l25:K.lookup f25 = some ⟨oc25,od25,.func (PySem.W.fnOf "tree_parts" "tree_parts" (zN f_tree_parts.st) (zL f_tree_parts.st) (zC f_tree_parts.st) .none kV25 dc25 pm25 an25 cd25 ct25),sl25⟩)
  (c25:PySem.W.codeIn K cd25 "tree_parts" = true)
  (k25:PySem.W.keepIn K (.ref f25) = true)
  (a26:PySem.W.nsIn K mainGlobals "parts_of" = some (some (.ref f26)))
  (l26:K.lookup f26 = some ⟨oc26,od26,.func (PySem.W.fnOf "parts_of" "parts_of" (zN f_parts_of.st) (zL f_parts_of.st) (zC f_parts_of.st) .none kV26 dc26 pm26 an26 cd26 ct26),sl26⟩)
  (c26:PySem.W.codeIn K cd26 "parts_of" = true)
  (k26:PySem.W.keepIn K (.ref f26) = true)
  (a27:PySem.W.nsIn K mainGlobals "counted" = some (some (.ref f27)))
  (l27:K.lookup f27 = some ⟨oc27,od27,.func (PySem.W.fnOf "counted" "counted" (zN f_counted.st) (zL f_counted.st) (zC f_counted.st) .none kV27 dc27 pm27 an27 cd27 ct27),sl27⟩)
  (c27:PySem.W.codeIn K cd27 "counted" = true)
  (k27:PySem.W.keepIn K (.ref f27) = true)
  (a28:PySem.W.nsIn K mainGlobals "spelled" = some (some (.ref f28)))
  (l28:K.lookup f28 = some ⟨oc28,od28,.func (PySem.W.fnOf "spelled" "spelled" (zN f_spelled.st) (zL f_spelled.st) (zC f_spelled.st) .none kV28 dc28 pm28 an28 cd28 ct28),sl28⟩)
  (c28:PySem.W.codeIn K cd28 "spelled" = true)
  (k28:PySem.W.keepIn K (.ref f28) = true)
  (a29:PySem.W.nsIn K mainGlobals "digest" = some (some (.ref f29)))
  (l29:K.lookup f29 = some ⟨oc29,od29,.func (PySem.W.fnOf "digest" "digest" (zN f_digest.st) (zL f_digest.st) (zC f_digest.st) .none kV29 dc29 pm29 an29 cd29 ct29),sl29⟩)
  (c29:PySem.W.codeIn K cd29 "digest" = true)
  (k29:PySem.W.keepIn K (.ref f29) = true)
  (a30:PySem.W.findIn K (.ref aC) "put" = some (some (.ref f30)))
  (i30:PySem.W.isFn K (.ref f30) = true)
  (l30:K.lookup f30 = some ⟨oc30,od30,.func (PySem.W.fnOf "put" "Shelf.put" (zN s_put.st) (zL s_put.st) (zC s_put.st) .none kV30 dc30 pm30 an30 cd30 ct30),sl30⟩)
  (c30:PySem.W.codeIn K cd30 "Shelf.put" = true)
  (k30:PySem.W.keepIn K (.ref f30) = true)
  (a31:PySem.W.nsIn K mainGlobals "_law_shelf" = some (some (.ref f31)))
  (l31:K.lookup f31 = some ⟨oc31,od31,.func (PySem.W.fnOf "_law_shelf" "_law_shelf" (zN g_shelf0.st) (zL g_shelf0.st) (zC g_shelf0.st) .none kV31 dc31 pm31 an31 cd31 ct31),sl31⟩)
  (c31:PySem.W.codeIn K cd31 "_law_shelf" = true)
  (k31:PySem.W.keepIn K (.ref f31) = true)
  (a32:PySem.W.nsIn K mainGlobals "names_form" = some (some (.ref f32)))
  (l32:K.lookup f32 = some ⟨oc32,od32,.func (PySem.W.fnOf "names_form" "names_form" (zN w_nf.st) (zL w_nf.st) (zC w_nf.st) .none kV32 dc32 pm32 an32 cd32 ct32),sl32⟩)
  (c32:PySem.W.codeIn K cd32 "names_form" = true)
  (k32:PySem.W.keepIn K (.ref f32) = true)
  (a33:PySem.W.nsIn K mainGlobals "note_of" = some (some (.ref f33)))
  (l33:K.lookup f33 = some ⟨oc33,od33,.func (PySem.W.fnOf "note_of" "note_of" (zN w_note.st) (zL w_note.st) (zC w_note.st) .none kV33 dc33 pm33 an33 cd33 ct33),sl33⟩)
  (c33:PySem.W.codeIn K cd33 "note_of" = true)
  (k33:PySem.W.keepIn K (.ref f33) = true)
  (a34:PySem.W.nsIn K mainGlobals "tree_of" = some (some (.ref f34)))
  (l34:K.lookup f34 = some ⟨oc34,od34,.func (PySem.W.fnOf "tree_of" "tree_of" (zN w_treeof.st) (zL w_treeof.st) (zC w_treeof.st) .none kV34 dc34 pm34 an34 cd34 ct34),sl34⟩)
  (c34:PySem.W.codeIn K cd34 "tree_of" = true)
  (k34:PySem.W.keepIn K (.ref f34) = true)
  (a35:PySem.W.nsIn K mainGlobals "parents_of" = some (some (.ref f35)))
  (l35:K.lookup f35 = some ⟨oc35,od35,.func (PySem.W.fnOf "parents_of" "parents_of" (zN w_parents.st) (zL w_parents.st) (zC w_parents.st) .none kV35 dc35 pm35 an35 cd35 ct35),sl35⟩)
  (c35:PySem.W.codeIn K cd35 "parents_of" = true)
  (k35:PySem.W.keepIn K (.ref f35) = true)
  (a36:PySem.W.nsIn K mainGlobals "words_of" = some (some (.ref f36)))
  (l36:K.lookup f36 = some ⟨oc36,od36,.func (PySem.W.fnOf "words_of" "words_of" (zN w_words.st) (zL w_words.st) (zC w_words.st) .none kV36 dc36 pm36 an36 cd36 ct36),sl36⟩)
  (c36:PySem.W.codeIn K cd36 "words_of" = true)
  (k36:PySem.W.keepIn K (.ref f36) = true)
  (a37:PySem.W.nsIn K mainGlobals "parents_in" = some (some (.ref f37)))
  (l37:K.lookup f37 = some ⟨oc37,od37,.func (PySem.W.fnOf "parents_in" "parents_in" (zN w_parin.st) (zL w_parin.st) (zC w_parin.st) .none kV37 dc37 pm37 an37 cd37 ct37),sl37⟩)
  (c37:PySem.W.codeIn K cd37 "parents_in" = true)
  (k37:PySem.W.keepIn K (.ref f37) = true)
  (a38:PySem.W.nsIn K mainGlobals "add_found" = some (some (.ref f38)))
  (l38:K.lookup f38 = some ⟨oc38,od38,.func (PySem.W.fnOf "add_found" "add_found" (zN w_addf.st) (zL w_addf.st) (zC w_addf.st) .none kV38 dc38 pm38 an38 cd38 ct38),sl38⟩)
  (c38:PySem.W.codeIn K cd38 "add_found" = true)
  (k38:PySem.W.keepIn K (.ref f38) = true)
  (a39:PySem.W.nsIn K mainGlobals "add_before" = some (some (.ref f39)))
  (l39:K.lookup f39 = some ⟨oc39,od39,.func (PySem.W.fnOf "add_before" "add_before" (zN w_addb.st) (zL w_addb.st) (zC w_addb.st) .none kV39 dc39 pm39 an39 cd39 ct39),sl39⟩)
  (c39:PySem.W.codeIn K cd39 "add_before" = true)
  (k39:PySem.W.keepIn K (.ref f39) = true)
  (a40:PySem.W.nsIn K mainGlobals "found_before" = some (some (.ref f40)))
  (l40:K.lookup f40 = some ⟨oc40,od40,.func (PySem.W.fnOf "found_before" "found_before" (zN w_fb.st) (zL w_fb.st) (zC w_fb.st) .none kV40 dc40 pm40 an40 cd40 ct40),sl40⟩)
  (c40:PySem.W.codeIn K cd40 "found_before" = true)
  (k40:PySem.W.keepIn K (.ref f40) = true)
  (a41:PySem.W.nsIn K mainGlobals "in_order" = some (some (.ref f41)))
  (l41:K.lookup f41 = some ⟨oc41,od41,.func (PySem.W.fnOf "in_order" "in_order" (zN w_order.st) (zL w_order.st) (zC w_order.st) .none kV41 dc41 pm41 an41 cd41 ct41),sl41⟩)
  (c41:PySem.W.codeIn K cd41 "in_order" = true)
  (k41:PySem.W.keepIn K (.ref f41) = true)
  (a42:PySem.W.nsIn K mainGlobals "all_before" = some (some (.ref f42)))
  (l42:K.lookup f42 = some ⟨oc42,od42,.func (PySem.W.fnOf "all_before" "all_before" (zN w_ab.st) (zL w_ab.st) (zC w_ab.st) .none kV42 dc42 pm42 an42 cd42 ct42),sl42⟩)
  (c42:PySem.W.codeIn K cd42 "all_before" = true)
  (k42:PySem.W.keepIn K (.ref f42) = true)
  (a43:PySem.W.nsIn K mainGlobals "is_before" = some (some (.ref f43)))
  (l43:K.lookup f43 = some ⟨oc43,od43,.func (PySem.W.fnOf "is_before" "is_before" (zN w_isb.st) (zL w_isb.st) (zC w_isb.st) .none kV43 dc43 pm43 an43 cd43 ct43),sl43⟩)
  (c43:PySem.W.codeIn K cd43 "is_before" = true)
  (k43:PySem.W.keepIn K (.ref f43) = true)
  (a44:PySem.W.nsIn K mainGlobals "_law_word" = some (some (.ref f44)))
  (l44:K.lookup f44 = some ⟨oc44,od44,.func (PySem.W.fnOf "_law_word" "_law_word" (zN g_word.st) (zL g_word.st) (zC g_word.st) .none kV44 dc44 pm44 an44 cd44 ct44),sl44⟩)
  (c44:PySem.W.codeIn K cd44 "_law_word" = true)
  (k44:PySem.W.keepIn K (.ref f44) = true)
  (a45:PySem.W.nsIn K mainGlobals "_law_refused" = some (some (.ref f45)))
  (l45:K.lookup f45 = some ⟨oc45,od45,.func (PySem.W.fnOf "_law_refused" "_law_refused" (zN g_refused.st) (zL g_refused.st) (zC g_refused.st) .none kV45 dc45 pm45 an45 cd45 ct45),sl45⟩)
  (c45:PySem.W.codeIn K cd45 "_law_refused" = true)
  (k45:PySem.W.keepIn K (.ref f45) = true)
  (a46:PySem.W.nsIn K mainGlobals "_law_six_refused" = some (some (.ref f46)))
  (l46:K.lookup f46 = some ⟨oc46,od46,.func (PySem.W.fnOf "_law_six_refused" "_law_six_refused" (zN g_six.st) (zL g_six.st) (zC g_six.st) .none kV46 dc46 pm46 an46 cd46 ct46),sl46⟩)
  (c46:PySem.W.codeIn K cd46 "_law_six_refused" = true)
  (k46:PySem.W.keepIn K (.ref f46) = true)
  (a47:PySem.W.nsIn K mainGlobals "_law_comes" = some (some (.ref f47)))
  (l47:K.lookup f47 = some ⟨oc47,od47,.func (PySem.W.fnOf "_law_comes" "_law_comes" (zN g_comes.st) (zL g_comes.st) (zC g_comes.st) .none kV47 dc47 pm47 an47 cd47 ct47),sl47⟩)
  (c47:PySem.W.codeIn K cd47 "_law_comes" = true)
  (k47:PySem.W.keepIn K (.ref f47) = true)
  (a48:PySem.W.nsIn K mainGlobals "_law_texts" = some (some (.ref f48)))
  (l48:K.lookup f48 = some ⟨oc48,od48,.func (PySem.W.fnOf "_law_texts" "_law_texts" (zN g_texts.st) (zL g_texts.st) (zC g_texts.st) .none kV48 dc48 pm48 an48 cd48 ct48),sl48⟩)
  (c48:PySem.W.codeIn K cd48 "_law_texts" = true)
  (k48:PySem.W.keepIn K (.ref f48) = true)
  (a49:PySem.W.nsIn K mainGlobals "_law_parts_good" = some (some (.ref f49)))
  (l49:K.lookup f49 = some ⟨oc49,od49,.func (PySem.W.fnOf "_law_parts_good" "_law_parts_good" (zN g_parts.st) (zL g_parts.st) (zC g_parts.st) .none kV49 dc49 pm49 an49 cd49 ct49),sl49⟩)
  (c49:PySem.W.codeIn K cd49 "_law_parts_good" = true)
  (k49:PySem.W.keepIn K (.ref f49) = true)
  (a50:PySem.W.nsIn K mainGlobals "_law_before_good" = some (some (.ref f50)))
  (l50:K.lookup f50 = some ⟨oc50,od50,.func (PySem.W.fnOf "_law_before_good" "_law_before_good" (zN g_before.st) (zL g_before.st) (zC g_before.st) .none kV50 dc50 pm50 an50 cd50 ct50),sl50⟩)
  (c50:PySem.W.codeIn K cd50 "_law_before_good" = true)
  (k50:PySem.W.keepIn K (.ref f50) = true)
  (a51:PySem.W.nsIn K mainGlobals "_law_ones_before" = some (some (.ref f51)))
  (l51:K.lookup f51 = some ⟨oc51,od51,.func (PySem.W.fnOf "_law_ones_before" "_law_ones_before" (zN g_ones.st) (zL g_ones.st) (zC g_ones.st) .none kV51 dc51 pm51 an51 cd51 ct51),sl51⟩)
  (c51:PySem.W.codeIn K cd51 "_law_ones_before" = true)
  (k51:PySem.W.keepIn K (.ref f51) = true)
  (a52:PySem.W.nsIn K mainGlobals "_law_long_good" = some (some (.ref f52)))
  (l52:K.lookup f52 = some ⟨oc52,od52,.func (PySem.W.fnOf "_law_long_good" "_law_long_good" (zN g_long.st) (zL g_long.st) (zC g_long.st) .none kV52 dc52 pm52 an52 cd52 ct52),sl52⟩)
  (c52:PySem.W.codeIn K cd52 "_law_long_good" = true)
  (k52:PySem.W.keepIn K (.ref f52) = true)
  (a53:PySem.W.nsIn K mainGlobals "law" = some (some (.ref f53)))
  (l53:K.lookup f53 = some ⟨oc53,od53,.func (PySem.W.fnOf "law" "law" (zN g_law.st) (zL g_law.st) (zC g_law.st) .none kV53 dc53 pm53 an53 cd53 ct53),sl53⟩)
  (c53:PySem.W.codeIn K cd53 "law" = true)
  (k53:PySem.W.keepIn K (.ref f53) = true) :
  ∃ fd:FuncData,(∀ (s:Shared) (v:Value),BindsTo s fd ⟨[v],[]⟩ [("_law_script",v)]) /\ ∀ base:Heap,K.In base -> base.Ns mainGlobals mg -> FnOk l.prog w K mg base CX0 13 fa fd ["_law_script"] (spLaw K):=by
 have e:=hfa.symm.trans (PySem.W.mg_of X G a53)
 cases e
 have T:Txt l.prog w K mg t1 t2 t3 t4 t5 t6 aL aC aN aT aA b1 b2 b3 b4 b5 b6 b7 b8 fP:=⟨PySem.W.mg_none_of X G z_len,PySem.W.mg_none_of X G z_all,PySem.W.mg_none_of X G z_ord,PySem.W.mg_none_of X G z_isinstance,PySem.W.mg_none_of X G z_str,PySem.W.mg_none_of X G z_set,PySem.W.mg_none_of X G z_sorted,PySem.W.mg_none_of X G z_tuple,PySem.W.mg_none_of X G z_list,PySem.W.mg_none_of X G z_max,PySem.W.mg_none_of X G z_int,PySem.W.mg_none_of X G z_bool,PySem.W.mg_none_of X G z_range,PySem.W.mg_none_of X G z_ValueError,PySem.W.mg_of X G z_LONGEST_LINE,PySem.W.mg_of X G z_LONGEST_LABEL,PySem.W.mg_of X G z_MOST_PARENTS,PySem.W.mg_of X G z_PERCENT,PySem.W.mg_of X G z_DIGEST_FACTOR,PySem.W.mg_of X G z_DIGEST_BOUND,PySem.W.mg_of X G z_LETTERS,PySem.W.mg_of X G z_NoName,PySem.W.mg_of X G z_NoThing,PySem.W.mg_of X G z_AnnalsError,PySem.W.mg_of X G z_BadPath,PySem.W.mg_of X G z_BadFiles,PySem.W.mg_of X G z_NoFit,PySem.W.mg_of X G z_Clash,PySem.W.mg_of X G z_NoVersion,PySem.W.mg_of X G z_BadLine,PySem.W.mg_of X G z_NoBranch,PySem.W.mg_of X G z_BadBranch,PySem.W.mg_of X G z_parents_in,PySem.W.mg_of X G z_Shelf,s_xNoName,s_xNoThing,s_xNoVersion,s_kd,⟨pg_aC,hd_aC,po_aC,sa_aC⟩,s_n1,s_n2,s_n3,s_exmV,s_ekV,s_kV0,s_kV1,s_kV2,s_kV3,s_kV4,s_kV5,s_kV6,s_kV7,s_kV8,s_kV9,s_kVV,s_kit⟩
 have F0:=zR (st:=g_cell.st) l0 c0 k0
 have b0:=F0.binds (ps:=["_law_script","_law_k"]) fun _ _ _ _ _ _ us hl=>match us,hl with | [_,_],_=>rfl
 have F1:=zR (st:=g_rows.st) l1 c1 k1
 have b1:=F1.binds (ps:=["_law_script","_law_many"]) fun _ _ _ _ _ _ us hl=>match us,hl with | [_,_],_=>rfl
 have F2:=zR (st:=g_lies.st) l2 c2 k2
 have b2:=F2.binds (ps:=["_law_rows_here"]) fun _ _ _ _ _ _ us hl=>match us,hl with | [_],_=>rfl
 have F3:=zR (st:=s_names.st) l3 c3 k3
 have b3:=F3.binds (ps:=["self"]) fun _ _ _ _ _ _ us hl=>match us,hl with | [_],_=>rfl
 have F4:=zR (st:=s_take.st) l4 c4 k4
 have b4:=F4.binds (ps:=["self","name","thing"]) fun _ _ _ _ _ _ us hl=>match us,hl with | [_,_,_],_=>rfl
 have F5:=zR (st:=s_key.st) l5 c5 k5
 have b5:=F5.binds (ps:=["table","thing"]) fun _ _ _ _ _ _ us hl=>match us,hl with | [_,_],_=>rfl
 have F6:=zR (st:=s_has.st) l6 c6 k6
 have b6:=F6.binds (ps:=["self","name"]) fun _ _ _ _ _ _ us hl=>match us,hl with | [_,_],_=>rfl
 have F7:=zR (st:=s_nname.st) l7 c7 k7
 have b7:=F7.binds (ps:=["store","name"]) fun _ _ _ _ _ _ us hl=>match us,hl with | [_,_],_=>rfl
 have F8:=zR (st:=s_thing.st) l8 c8 k8
 have b8:=F8.binds (ps:=["self","name"]) fun _ _ _ _ _ _ us hl=>match us,hl with | [_,_],_=>rfl
 have F9:=zR (st:=s_init.st) l9 c9 k9
 have b9:=F9.binds (ps:=["self","base"]) fun _ _ _ _ _ _ us hl=>match us,hl with | [_,_],_=>rfl
 have F10:=zR (st:=f_is_sign.st) l10 c10 k10
 have b10:=F10.binds (ps:=["sign"]) fun _ _ _ _ _ _ us hl=>match us,hl with | [_],_=>rfl
 have F11:=zR (st:=f_is_line.st) l11 c11 k11
 have b11:=F11.binds (ps:=["thing"]) fun _ _ _ _ _ _ us hl=>match us,hl with | [_],_=>rfl
 have F12:=zR (st:=f_is_lines.st) l12 c12 k12
 have b12:=F12.binds (ps:=["thing"]) fun _ _ _ _ _ _ us hl=>match us,hl with | [_],_=>rfl
 have F13:=zR (st:=t_leaf.st) l13 c13 k13
 have b13:=F13.binds (ps:=["word","parts"]) fun _ _ _ _ _ _ us hl=>match us,hl with | [_,_],_=>rfl
 have F14:=zR (st:=t_label.st) l14 c14 k14
 have b14:=F14.binds (ps:=["thing"]) fun _ _ _ _ _ _ us hl=>match us,hl with | [_],_=>rfl
 have F15:=zR (st:=t_row.st) l15 c15 k15
 have b15:=F15.binds (ps:=["thing"]) fun _ _ _ _ _ _ us hl=>match us,hl with | [_],_=>rfl
 have F16:=zR (st:=t_rows.st) l16 c16 k16
 have b16:=F16.binds (ps:=["thing"]) fun _ _ _ _ _ _ us hl=>match us,hl with | [_],_=>rfl
 have F17:=zR (st:=t_tree.st) l17 c17 k17
 have b17:=F17.binds (ps:=["word","parts"]) fun _ _ _ _ _ _ us hl=>match us,hl with | [_,_],_=>rfl
 have F18:=zR (st:=t_parents.st) l18 c18 k18
 have b18:=F18.binds (ps:=["thing"]) fun _ _ _ _ _ _ us hl=>match us,hl with | [_],_=>rfl
 have F19:=zR (st:=t_note.st) l19 c19 k19
 have b19:=F19.binds (ps:=["word","parts"]) fun _ _ _ _ _ _ us hl=>match us,hl with | [_,_],_=>rfl
 have F20:=zR (st:=t_thing.st) l20 c20 k20
 have b20:=F20.binds (ps:=["thing"]) fun _ _ _ _ _ _ us hl=>match us,hl with | [_],_=>rfl
 have F21:=zR (st:=t_need.st) l21 c21 k21
 have b21:=F21.binds (ps:=["thing"]) fun _ _ _ _ _ _ us hl=>match us,hl with | [_],_=>rfl
 have F22:=zR (st:=s_form.st) l22 c22 k22
 have b22:=F22.binds (ps:=["self","name","forms"]) fun _ _ _ _ _ _ us hl=>match us,hl with | [_,_,_],_=>rfl
 have F23:=zR (st:=s_need.st) l23 c23 k23
 have b23:=F23.binds (ps:=["self","thing"]) fun _ _ _ _ _ _ us hl=>match us,hl with | [_,_],_=>rfl
 have F24:=zR (st:=f_letter_of.st) l24 c24 k24
 have b24:=F24.binds (ps:=["thing"]) fun _ _ _ _ _ _ us hl=>match us,hl with | [_],_=>rfl
 have F25:=zR (st:=f_tree_parts.st) l25 c25 k25
 have b25:=F25.binds (ps:=["rows"]) fun _ _ _ _ _ _ us hl=>match us,hl with | [_],_=>rfl
 have F26:=zR (st:=f_parts_of.st) l26 c26 k26
 have b26:=F26.binds (ps:=["thing"]) fun _ _ _ _ _ _ us hl=>match us,hl with | [_],_=>rfl
 have F27:=zR (st:=f_counted.st) l27 c27 k27
 have b27:=F27.binds (ps:=["part"]) fun _ _ _ _ _ _ us hl=>match us,hl with | [_],_=>rfl
 have F28:=zR (st:=f_spelled.st) l28 c28 k28
 have b28:=F28.binds (ps:=["thing"]) fun _ _ _ _ _ _ us hl=>match us,hl with | [_],_=>rfl
 have F29:=zR (st:=f_digest.st) l29 c29 k29
 have b29:=F29.binds (ps:=["thing"]) fun _ _ _ _ _ _ us hl=>match us,hl with | [_],_=>rfl
 have F30:=zR (st:=s_put.st) l30 c30 k30
 have b30:=F30.binds (ps:=["self","thing"]) fun _ _ _ _ _ _ us hl=>match us,hl with | [_,_],_=>rfl
 have F31:=zR (st:=g_shelf0.st) l31 c31 k31
 have b31:=F31.binds (ps:=[]) fun _ _ _ _ _ _ us hl=>match us,hl with | [],_=>rfl
 have F32:=zR (st:=w_nf.st) l32 c32 k32
 have b32:=F32.binds (ps:=["store","name","form"]) fun _ _ _ _ _ _ us hl=>match us,hl with | [_,_,_],_=>rfl
 have F33:=zR (st:=w_note.st) l33 c33 k33
 have b33:=F33.binds (ps:=["store","name"]) fun _ _ _ _ _ _ us hl=>match us,hl with | [_,_],_=>rfl
 have F34:=zR (st:=w_treeof.st) l34 c34 k34
 have b34:=F34.binds (ps:=["store","name"]) fun _ _ _ _ _ _ us hl=>match us,hl with | [_,_],_=>rfl
 have F35:=zR (st:=w_parents.st) l35 c35 k35
 have b35:=F35.binds (ps:=["store","name"]) fun _ _ _ _ _ _ us hl=>match us,hl with | [_,_],_=>rfl
 have F36:=zR (st:=w_words.st) l36 c36 k36
 have b36:=F36.binds (ps:=["store","name"]) fun _ _ _ _ _ _ us hl=>match us,hl with | [_,_],_=>rfl
 have F37:=zR (st:=w_parin.st) l37 c37 k37
 have b37:=F37.binds (ps:=["note"]) fun _ _ _ _ _ _ us hl=>match us,hl with | [_],_=>rfl
 have F38:=zR (st:=w_addf.st) l38 c38 k38
 have b38:=F38.binds (ps:=["store","found","roots","names_behind"]) fun _ _ _ _ _ _ us hl=>match us,hl with | [_,_,_,_],_=>rfl
 have F39:=zR (st:=w_addb.st) l39 c39 k39
 have b39:=F39.binds (ps:=["store","found","name"]) fun _ _ _ _ _ _ us hl=>match us,hl with | [_,_,_],_=>rfl
 have F40:=zR (st:=w_fb.st) l40 c40 k40
 have b40:=F40.binds (ps:=["store","name"]) fun _ _ _ _ _ _ us hl=>match us,hl with | [_,_],_=>rfl
 have F41:=zR (st:=w_order.st) l41 c41 k41
 have b41:=F41.binds (ps:=["store","found"]) fun _ _ _ _ _ _ us hl=>match us,hl with | [_,_],_=>rfl
 have F42:=zR (st:=w_ab.st) l42 c42 k42
 have b42:=F42.binds (ps:=["store","name"]) fun _ _ _ _ _ _ us hl=>match us,hl with | [_,_],_=>rfl
 have F43:=zR (st:=w_isb.st) l43 c43 k43
 have b43:=F43.binds (ps:=["store","one","other"]) fun _ _ _ _ _ _ us hl=>match us,hl with | [_,_,_],_=>rfl
 have F44:=zR (st:=g_word.st) l44 c44 k44
 have b44:=F44.binds (ps:=["_law_e"]) fun _ _ _ _ _ _ us hl=>match us,hl with | [_],_=>rfl
 have F45:=zR (st:=g_refused.st) l45 c45 k45
 have b45:=F45.binds (ps:=["_law_store","_law_which","_law_wrong","_law_good"]) fun _ _ _ _ _ _ us hl=>match us,hl with | [_,_,_,_],_=>rfl
 have F46:=zR (st:=g_six.st) l46 c46 k46
 have b46:=F46.binds (ps:=["_law_shelf_here","_law_wrong","_law_good"]) fun _ _ _ _ _ _ us hl=>match us,hl with | [_,_,_],_=>rfl
 have F47:=zR (st:=g_comes.st) l47 c47 k47
 have b47:=F47.binds (ps:=["_law_shelf_here","_law_twin","_law_names","_law_note"]) fun _ _ _ _ _ _ us hl=>match us,hl with | [_,_,_,_],_=>rfl
 have F48:=zR (st:=g_texts.st) l48 c48 k48
 have b48:=F48.binds (ps:=["_law_found","_law_due"]) fun _ _ _ _ _ _ us hl=>match us,hl with | [_,_],_=>rfl
 have F49:=zR (st:=g_parts.st) l49 c49 k49
 have b49:=F49.binds (ps:=["_law_store","_law_names","_law_rows_here","_law_k","_law_root"]) fun _ _ _ _ _ _ us hl=>match us,hl with | [_,_,_,_,_],_=>rfl
 have F50:=zR (st:=g_before.st) l50 c50 k50
 have b50:=F50.binds (ps:=["_law_store","_law_names","_law_lies_here","_law_k"]) fun _ _ _ _ _ _ us hl=>match us,hl with | [_,_,_,_],_=>rfl
 have F51:=zR (st:=g_ones.st) l51 c51 k51
 have b51:=F51.binds (ps:=["_law_shelf_here","_law_names","_law_lies_here","_law_k","_law_others"]) fun _ _ _ _ _ _ us hl=>match us,hl with | [_,_,_,_,_],_=>rfl
 have F52:=zR (st:=g_long.st) l52 c52 k52
 have b52:=F52.binds (ps:=["_law_many"]) fun _ _ _ _ _ _ us hl=>match us,hl with | [_],_=>rfl
 have F53:=zR (st:=g_law.st) l53 c53 k53
 have b53:=F53.binds (ps:=["_law_script"]) fun _ _ _ _ _ _ us hl=>match us,hl with | [_],_=>rfl
 refine ⟨PySem.W.fnOf "law" "law" (zN g_law.st) (zL g_law.st) (zC g_law.st) .none kV53 dc53 pm53 an53 cd53 ct53,fun s v=>.of_eq rfl,fun base _ _=>?_⟩
 have C0:=Cal.mk' F0 (g_cell.ok (P:=l.prog) (w:=w) (base:=base) F0 T ) (PySem.W.mg_of X G a0) b0
 have C1:=Cal.mk' F1 (g_rows.ok (P:=l.prog) (w:=w) (base:=base) F1 T C0) (PySem.W.mg_of X G a1) b1
 have C2:=Cal.mk' F2 (g_lies.ok (P:=l.prog) (w:=w) (base:=base) F2 T ) (PySem.W.mg_of X G a2) b2
 have C3:Met l.prog w K mg base aC 1 "names" ["self"] (kL l.prog w K aC):=⟨⟨_,_,(s_names.ok (P:=l.prog) (w:=w) (base:=base) F3 T ),⟨a3,i3,k3⟩,b3⟩⟩
 have C4:Met l.prog w K mg base aC 1 "take" ["self","name","thing"] (spTake l.prog w K aC):=⟨⟨_,_,(s_take.ok (P:=l.prog) (w:=w) (base:=base) F4 T ),⟨a4,i4,k4⟩,b4⟩⟩
 have C5:=Cal.mk' F5 (s_key.ok (P:=l.prog) (w:=w) (base:=base) F5 T ) (PySem.W.mg_of X G a5) b5
 have C6:Met l.prog w K mg base aC 2 "has" ["self","name"] (spHas l.prog w K aC):=⟨⟨_,_,(s_has.ok (P:=l.prog) (w:=w) (base:=base) F6 T C5),⟨a6,i6,k6⟩,b6⟩⟩
 have C7:=CalX.mk' F7 (s_nname.ok (P:=l.prog) (w:=w) (base:=base) F7 T C6) (PySem.W.mg_of X G a7) b7
 have C8:MetX l.prog w K mg base aC 4 "thing" ["self","name"] (jD l.prog w K aC aN):=⟨⟨_,_,(s_thing.ok (P:=l.prog) (w:=w) (base:=base) F8 T C7),⟨a8,i8,k8⟩,b8⟩⟩
 have C9:Mak l.prog w K mg base aC 5 "Shelf" ["self","base"] (spInit l.prog w K aC):=⟨⟨_,_,(s_init.ok (P:=l.prog) (w:=w) (base:=base) F9 T C3 C4 C8),⟨mk_aC,a9,i9,kc_aC⟩,b9,T.Shelf⟩⟩
 have C10:=Cal.mk' F10 (f_is_sign.ok (P:=l.prog) (w:=w) (base:=base) F10 T ) (PySem.W.mg_of X G a10) b10
 have C11:=Cal.mk' F11 (f_is_line.ok (P:=l.prog) (w:=w) (base:=base) F11 T C10) (PySem.W.mg_of X G a11) b11
 have C12:=Cal.mk' F12 (f_is_lines.ok (P:=l.prog) (w:=w) (base:=base) F12 T C11) (PySem.W.mg_of X G a12) b12
 have C13:=Cal.mk' F13 (t_leaf.ok (P:=l.prog) (w:=w) (base:=base) F13 T C12) (PySem.W.mg_of X G a13) b13
 have C14:=Cal.mk' F14 (t_label.ok (P:=l.prog) (w:=w) (base:=base) F14 T ) (PySem.W.mg_of X G a14) b14
 have C15:=Cal.mk' F15 (t_row.ok (P:=l.prog) (w:=w) (base:=base) F15 T C14) (PySem.W.mg_of X G a15) b15
 have C16:=Cal.mk' F16 (t_rows.ok (P:=l.prog) (w:=w) (base:=base) F16 T C15) (PySem.W.mg_of X G a16) b16
 have C17:=Cal.mk' F17 (t_tree.ok (P:=l.prog) (w:=w) (base:=base) F17 T C16) (PySem.W.mg_of X G a17) b17
 have C18:=Cal.mk' F18 (t_parents.ok (P:=l.prog) (w:=w) (base:=base) F18 T ) (PySem.W.mg_of X G a18) b18
 have C19:=Cal.mk' F19 (t_note.ok (P:=l.prog) (w:=w) (base:=base) F19 T C18 C11) (PySem.W.mg_of X G a19) b19
 have C20:=Cal.mk' F20 (t_thing.ok (P:=l.prog) (w:=w) (base:=base) F20 T C13 C17 C19) (PySem.W.mg_of X G a20) b20
 have C21:=CalX.mk' F21 (t_need.ok (P:=l.prog) (w:=w) (base:=base) F21 T C20) (PySem.W.mg_of X G a21) b21
 have C22:MetX l.prog w K mg base aC 5 "need_form" ["self","name","forms"] (spForm1 l.prog w K aC aN):=⟨⟨_,_,(s_form.ok (P:=l.prog) (w:=w) (base:=base) F22 T C8),⟨a22,i22,k22⟩,b22⟩⟩
 have C23:MetX l.prog w K mg base aC 6 "need_names" ["self","thing"] (spNeedN l.prog w K aC aN):=⟨⟨_,_,(s_need.ok (P:=l.prog) (w:=w) (base:=base) F23 T C22),⟨a23,i23,k23⟩,b23⟩⟩
 have C24:=Cal.mk' F24 (f_letter_of.ok (P:=l.prog) (w:=w) (base:=base) F24 T ) (PySem.W.mg_of X G a24) b24
 have C25:=Cal.mk' F25 (f_tree_parts.ok (P:=l.prog) (w:=w) (base:=base) F25 T ) (PySem.W.mg_of X G a25) b25
 have C26:=Cal.mk' F26 (f_parts_of.ok (P:=l.prog) (w:=w) (base:=base) F26 T C25) (PySem.W.mg_of X G a26) b26
 have C27:=Cal.mk' F27 (f_counted.ok (P:=l.prog) (w:=w) (base:=base) F27 T ) (PySem.W.mg_of X G a27) b27
 have C28:=Cal.mk' F28 (f_spelled.ok (P:=l.prog) (w:=w) (base:=base) F28 T C24 C26 C27) (PySem.W.mg_of X G a28) b28
 have C29:=Cal.mk' F29 (f_digest.ok (P:=l.prog) (w:=w) (base:=base) F29 T C28) (PySem.W.mg_of X G a29) b29
 have C30:MetX l.prog w K mg base aC 7 "put" ["self","thing"] (spPut l.prog w K aC aN aT):=⟨⟨_,_,(s_put.ok (P:=l.prog) (w:=w) (base:=base) F30 T C21 C23 C24 C29 C4),⟨a30,i30,k30⟩,b30⟩⟩
 have C31:=Cal.mk' F31 (g_shelf0.ok (P:=l.prog) (w:=w) (base:=base) F31 T C9 C30) (PySem.W.mg_of X G a31) b31
 have C32:=Cal.mk' F32 (w_nf.ok (P:=l.prog) (w:=w) (base:=base) F32 T C6 C8) (PySem.W.mg_of X G a32) b32
 have C33:=CalX.mk' F33 (w_note.ok (P:=l.prog) (w:=w) (base:=base) F33 T C32 C8) (PySem.W.mg_of X G a33) b33
 have C34:=CalX.mk' F34 (w_treeof.ok (P:=l.prog) (w:=w) (base:=base) F34 T C33) (PySem.W.mg_of X G a34) b34
 have C35:=CalX.mk' F35 (w_parents.ok (P:=l.prog) (w:=w) (base:=base) F35 T C33) (PySem.W.mg_of X G a35) b35
 have C36:=CalX.mk' F36 (w_words.ok (P:=l.prog) (w:=w) (base:=base) F36 T C33) (PySem.W.mg_of X G a36) b36
 have C37:=Cal.mk' F37 (w_parin.ok (P:=l.prog) (w:=w) (base:=base) F37 T ) (PySem.W.mg_of X G a37) b37
 have C38:=Cal.mk' F38 (w_addf.ok (P:=l.prog) (w:=w) (base:=base) F38 T C8 C37) (PySem.W.mg_of X G a38) b38
 have C39:=Cal.mk' F39 (w_addb.ok (P:=l.prog) (w:=w) (base:=base) F39 T C38) (PySem.W.mg_of X G a39) b39
 have C40:=CalX.mk' F40 (w_fb.ok (P:=l.prog) (w:=w) (base:=base) F40 T C33 C39) (PySem.W.mg_of X G a40) b40
 have C41:=Cal.mk' F41 (w_order.ok (P:=l.prog) (w:=w) (base:=base) F41 T C3) (PySem.W.mg_of X G a41) b41
 have C42:=CalX.mk' F42 (w_ab.ok (P:=l.prog) (w:=w) (base:=base) F42 T C40 C41) (PySem.W.mg_of X G a42) b42
 have C43:=CalX.mk' F43 (w_isb.ok (P:=l.prog) (w:=w) (base:=base) F43 T C33 C40) (PySem.W.mg_of X G a43) b43
 have C44:=CalE.mk' F44 (g_word.ok (P:=l.prog) (w:=w) (base:=base) F44 T ) (PySem.W.mg_of X G a44) b44
 have C45:=Cal.mk' F45 (g_refused.ok (P:=l.prog) (w:=w) (base:=base) F45 T C34 C35 C36 C42 C43 C44) (PySem.W.mg_of X G a45) b45
 have C46:=Cal.mk' F46 (g_six.ok (P:=l.prog) (w:=w) (base:=base) F46 T C45) (PySem.W.mg_of X G a46) b46
 have C47:=Cal.mk' F47 (g_comes.ok (P:=l.prog) (w:=w) (base:=base) F47 T C30 C46) (PySem.W.mg_of X G a47) b47
 have C48:=Cal.mk' F48 (g_texts.ok (P:=l.prog) (w:=w) (base:=base) F48 T ) (PySem.W.mg_of X G a48) b48
 have C49:=Cal.mk' F49 (g_parts.ok (P:=l.prog) (w:=w) (base:=base) F49 T C35 C48 C36 C34) (PySem.W.mg_of X G a49) b49
 have C50:=Cal.mk' F50 (g_before.ok (P:=l.prog) (w:=w) (base:=base) F50 T C42 C48) (PySem.W.mg_of X G a50) b50
 have C51:=Cal.mk' F51 (g_ones.ok (P:=l.prog) (w:=w) (base:=base) F51 T C43) (PySem.W.mg_of X G a51) b51
 have C52:=Cal.mk' F52 (g_long.ok (P:=l.prog) (w:=w) (base:=base) F52 T C9 C30 C42 C43) (PySem.W.mg_of X G a52) b52
 exact g_law.ok F53 T C0 C1 C2 C31 C3 C9 C47 C49 C50 C42 C35 C51 C52 C46
theorem walk {l:PySem.W.OpenLaw} {q:Program} {loose:List Str} {XP:(Str -> Option Value) -> Heap -> Prop} {YP:World -> Heap -> Prop} {d:DefRec} {K:Params -> PySem.W.Frag} (hn:l.most = some 63) (hdf:d.params.defaults = [])
  (hY:∀ (w:World) (h:Heap),YP w h -> (K w.params).In h)
  (F:∀ (w:World) (mg:Str -> Option Value) (fa:Addr) (h:Heap),(K w.params).In h -> h.Ns mainGlobals mg -> mg d.name = some (.ref fa) ->
   ∃ fd:FuncData,(∀ (s:Shared) (u:Value),BindsTo s fd ⟨[u],[]⟩ [("_law_script",u)]) /\ ∀ base:Heap,(K w.params).In base -> base.Ns mainGlobals mg -> FnOk l.prog w (K w.params) mg base CX0 13 fa fd ["_law_script"] (spLaw (K w.params))) :
  PySem.W.WalkO q loose XP YP l.row.toRowW d [] (fun f vs=>PySem.call f vs) :=
 L2.walk_of (n:=63) (k:=13) (x:="_law_script") (CX:=fun _=>CX0) (sp:=fun w=>spLaw (K w.params)) hn (by decide) hdf ⟨rfl,by decide,by decide⟩ hY F (fun _ _ a ns hl _ hS=>⟨a,ns,rfl,hS,hl,fun _=>rfl⟩) fun _ _ _ _ _ z=>z
end An20
open PySem PySem.W PyProof.Rows
set_option maxRecDepth 100000 in
set_option maxHeartbeats 0 in
theorem PySem.Challenge.cw_annals_k20_what_lies_before_holds : PySem.Challenge.rw_annals_k20_what_lies_before.Holds := by
 w_on; o_law; k_head; (case hw=>w_witness2)
 k_fill
 refine An20.walk (l:=PySem.Challenge.rw_annals_k20_what_lies_before) rfl rfl (fun w h Y=>PySem.W.kIn_of Y) ?F
 case F =>
  intro w mg fa h KX G hmg
  refine' An20.all_mk KX G hmg ?z_len ?z_all ?z_ord ?z_isinstance ?z_str ?z_set ?z_sorted ?z_tuple ?z_list ?z_max ?z_int ?z_bool ?z_range ?z_ValueError ?z_LONGEST_LINE ?z_LONGEST_LABEL ?z_MOST_PARENTS ?z_PERCENT ?z_DIGEST_FACTOR ?z_DIGEST_BOUND ?z_LETTERS ?z_NoName ?z_NoThing ?z_AnnalsError ?z_BadPath ?z_BadFiles ?z_NoFit ?z_Clash ?z_NoVersion ?z_BadLine ?z_NoBranch ?z_BadBranch ?z_parents_in ?z_Shelf ?s_xNoName ?s_xNoThing ?s_xNoVersion ?s_kd ?pg_aC ?hd_aC ?po_aC ?sa_aC ?mk_aC ?kc_aC ?s_n1 ?s_n2 ?s_n3 ?s_exmV ?s_ekV ?s_kV0 ?s_kV1 ?s_kV2 ?s_kV3 ?s_kV4 ?s_kV5 ?s_kV6 ?s_kV7 ?s_kV8 ?s_kV9 ?s_kVV ?s_kit ?a0 ?l0 ?c0 ?k0 ?a1 ?l1 ?c1 ?k1 ?a2 ?l2 ?c2 ?k2 ?a3 ?i3 ?l3 ?c3 ?k3 ?a4 ?i4 ?l4 ?c4 ?k4 ?a5 ?l5 ?c5 ?k5 ?a6 ?i6 ?l6 ?c6 ?k6 ?a7 ?l7 ?c7 ?k7 ?a8 ?i8 ?l8 ?c8 ?k8 ?a9 ?i9 ?l9 ?c9 ?k9 ?a10 ?l10 ?c10 ?k10 ?a11 ?l11 ?c11 ?k11 ?a12 ?l12 ?c12 ?k12 ?a13 ?l13 ?c13 ?k13 ?a14 ?l14 ?c14 ?k14 ?a15 ?l15 ?c15 ?k15 ?a16 ?l16 ?c16 ?k16 ?a17 ?l17 ?c17 ?k17 ?a18 ?l18 ?c18 ?k18 ?a19 ?l19 ?c19 ?k19 ?a20 ?l20 ?c20 ?k20 ?a21 ?l21 ?c21 ?k21 ?a22 ?i22 ?l22 ?c22 ?k22 ?a23 ?i23 ?l23 ?c23 ?k23 ?a24 ?l24 ?c24 ?k24 ?a25 ?l25 ?c25 ?k25 ?a26 ?l26 ?c26 ?k26 ?a27 ?l27 ?c27 ?k27 ?a28 ?l28 ?c28 ?k28 ?a29 ?l29 ?c29 ?k29 ?a30 ?i30 ?l30 ?c30 ?k30 ?a31 ?l31 ?c31 ?k31 ?a32 ?l32 ?c32 ?k32 ?a33 ?l33 ?c33 ?k33 ?a34 ?l34 ?c34 ?k34 ?a35 ?l35 ?c35 ?k35 ?a36 ?l36 ?c36 ?k36 ?a37 ?l37 ?c37 ?k37 ?a38 ?l38 ?c38 ?k38 ?a39 ?l39 ?c39 ?k39 ?a40 ?l40 ?c40 ?k40 ?a41 ?l41 ?c41 ?k41 ?a42 ?l42 ?c42 ?k42 ?a43 ?l43 ?c43 ?k43 ?a44 ?l44 ?c44 ?k44 ?a45 ?l45 ?c45 ?k45 ?a46 ?l46 ?c46 ?k46 ?a47 ?l47 ?c47 ?k47 ?a48 ?l48 ?c48 ?k48 ?a49 ?l49 ?c49 ?k49 ?a50 ?l50 ?c50 ?k50 ?a51 ?l51 ?c51 ?k51 ?a52 ?l52 ?c52 ?k52 ?a53 ?l53 ?c53 ?k53
  case z_len | z_all | z_ord | z_isinstance | z_str | z_set | z_sorted | z_tuple | z_list | z_max | z_int | z_bool | z_range | z_ValueError | z_LONGEST_LINE | z_LONGEST_LABEL | z_MOST_PARENTS | z_PERCENT | z_DIGEST_FACTOR | z_DIGEST_BOUND | z_LETTERS | z_NoName | z_NoThing | z_AnnalsError | z_BadPath | z_BadFiles | z_NoFit | z_Clash | z_NoVersion | z_BadLine | z_NoBranch | z_BadBranch | z_parents_in | z_Shelf | a0 | l0 | c0 | k0 | a1 | l1 | c1 | k1 | a2 | l2 | c2 | k2 | a3 | i3 | l3 | c3 | k3 | a4 | i4 | l4 | c4 | k4 | a5 | l5 | c5 | k5 | a6 | i6 | l6 | c6 | k6 | a7 | l7 | c7 | k7 | a8 | i8 | l8 | c8 | k8 | a9 | i9 | l9 | c9 | k9 | a10 | l10 | c10 | k10 | a11 | l11 | c11 | k11 | a12 | l12 | c12 | k12 | a13 | l13 | c13 | k13 | a14 | l14 | c14 | k14 | a15 | l15 | c15 | k15 | a16 | l16 | c16 | k16 | a17 | l17 | c17 | k17 | a18 | l18 | c18 | k18 | a19 | l19 | c19 | k19 | a20 | l20 | c20 | k20 | a21 | l21 | c21 | k21 | a22 | i22 | l22 | c22 | k22 | a23 | i23 | l23 | c23 | k23 | a24 | l24 | c24 | k24 | a25 | l25 | c25 | k25 | a26 | l26 | c26 | k26 | a27 | l27 | c27 | k27 | a28 | l28 | c28 | k28 | a29 | l29 | c29 | k29 | a30 | i30 | l30 | c30 | k30 | a31 | l31 | c31 | k31 | a32 | l32 | c32 | k32 | a33 | l33 | c33 | k33 | a34 | l34 | c34 | k34 | a35 | l35 | c35 | k35 | a36 | l36 | c36 | k36 | a37 | l37 | c37 | k37 | a38 | l38 | c38 | k38 | a39 | l39 | c39 | k39 | a40 | l40 | c40 | k40 | a41 | l41 | c41 | k41 | a42 | l42 | c42 | k42 | a43 | l43 | c43 | k43 | a44 | l44 | c44 | k44 | a45 | l45 | c45 | k45 | a46 | l46 | c46 | k46 | a47 | l47 | c47 | k47 | a48 | l48 | c48 | k48 | a49 | l49 | c49 | k49 | a50 | l50 | c50 | k50 | a51 | l51 | c51 | k51 | a52 | l52 | c52 | k52 | a53 | l53 | c53 | k53=>k_is
  case s_xNoName | s_xNoThing | s_xNoVersion=>first | k_is | kernel_rfl | rfl | (with_unfolding_all rfl) | decide +kernel +revert
  case s_kd=>exact An20.kd_of (by k_is)
  case pg_aC | hd_aC | po_aC | sa_aC | mk_aC | kc_aC | s_n1 | s_n2 | s_n3=>k_is
  case s_exmV=>first | k_is | kernel_rfl | rfl | (with_unfolding_all rfl) | decide +kernel +revert
  case s_ekV=>(constructor <;> first | k_is | kernel_rfl | rfl | (with_unfolding_all rfl) | decide +kernel +revert)
  case s_kV0 | s_kV1 | s_kV2 | s_kV3 | s_kV4 | s_kV5 | s_kV6 | s_kV7 | s_kV8 | s_kV9 | s_kVV=>first | k_is | kernel_rfl | rfl | (with_unfolding_all rfl) | decide +kernel +revert
  case s_kit=>(intro a ha b hb; simp only [An20.kinds,List.mem_cons,List.not_mem_nil,or_false] at ha hb; rcases ha with rfl | rfl | rfl | rfl | rfl | rfl | rfl <;> rcases hb with rfl | rfl | rfl | rfl | rfl | rfl | rfl <;> rfl)
