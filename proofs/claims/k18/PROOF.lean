import PyProof.Rows.All
import Wide.All
import OpenK.AllK
import Wide.FinOn
import Lean
import PyProof.EqAt
import PyProof.EqKinds
import PyProof.TupleCall
import KE.LcSums
import PyProof.FString5
import PyProof.StationsW
import PyProof.Rows.Catch
import KE.KTryMore
import PyProof.Rows.Range3
import KE.KRevIter
import PyProof.StrBlock2
import PyProof.P3In
import PyProof.Rows.SumAny
import KE.KSortTup
import PyProof.P3Eq
import PyProof.TupleKey
import PyProof.Rows.StrRules
import PyProof.Rows.IntRules
import PyProof.StrLawsChain
import PyProof.StrLawsTight
import PyProof.DictIter
import PyProof.DictWalks
import PyProof.DictItems
import KE.KDictList
import KE.KPairComp
import KE.KEqDict
import PyProof.SetKind
import PyProof.Rows.SetFrom
import PyProof.FactsAll.set
import PyProof.SetRoads
import KE.KDictSum
import PyProof.WalksMore
import PyProof.FactsAll.set_2
import PyProof.NeKinds
import PyProof.AttrMissHeap
import PyProof.StrBlockG
import PyProof.Rows.StrMeet
import PyProof.Rows.MinMaxN
import PyProof.FactsAll.list_3
import PySem.Challenge.RW_annals_k18_whole_joins
set_option Elab.async false
set_option linter.all false
set_option maxRecDepth 100000
namespace L2
open PySem PySem.Spec PyProof.Rows
abbrev Key:=Sum Int Str
def keyIs:Key -> Value -> Bool
 | .inl k,v=>Value.isInt k v
 | .inr x,v=>Value.isStrOf x v
def keyH (w:World):Key -> Int
 | .inl k=>hashInt k
 | .inr x=>hashStr w x
theorem z9:∀ {k:Key} {v:Value},keyIs k v = true -> (∃ i t,k = Sum.inl i /\ v = Value.int i t) \/ (∃ x t,k = Sum.inr x /\ v = Value.str x t)
 | .inl i,v,h=>by
  obtain ⟨t,e⟩:=Value.isInt_shape (k:=i) (v:=v) h
  exact .inl ⟨i,t,rfl,e⟩
 | .inr x,v,h=>by
  obtain ⟨t,e⟩:=Value.isStrOf_shape (x:=x) (v:=v) h
  exact .inr ⟨x,t,rfl,e⟩
theorem keyIs_int (i:Int) (t:Tok):keyIs (.inl i) (.int i t) = true:=by simp [keyIs,Value.isInt]
theorem keyIs_str (x:Str) (t:Tok):keyIs (.inr x) (.str x t) = true:=by simp [keyIs,Value.isStrOf]
theorem key_ll (a b:Int):decide ((Sum.inl a:Key) = Sum.inl b) = (a == b):=by
 by_cases e:a = b
 ·subst e; simp
 ·have h:¬ (Sum.inl a:Key) = Sum.inl b:=fun q=>e (Sum.inl.inj q)
  rw [decide_eq_false h]
  exact (beq_eq_false_iff_ne.mpr e).symm
theorem key_rr (a b:Str):decide ((Sum.inr a:Key) = Sum.inr b) = decide (a = b):=by
 by_cases e:a = b
 ·subst e; simp
 ·have h:¬ (Sum.inr a:Key) = Sum.inr b:=fun q=>e (Sum.inr.inj q)
  rw [decide_eq_false h,decide_eq_false e]
theorem key_lr (a:Int) (b:Str):decide ((Sum.inl a:Key) = Sum.inr b) = false:=decide_eq_false (fun q=>nomatch q)
theorem key_rl (a:Str) (b:Int):decide ((Sum.inr a:Key) = Sum.inl b) = false:=decide_eq_false (fun q=>nomatch q)
def mixKind (prog:Program) (w:World):PySem.KeyKind prog w Key where
 is:=keyIs
 hash:=keyH w
 inj:=fun v a b ha hb=>by
  rcases z9 ha with ⟨i,t,rfl,rfl⟩ | ⟨x,t,rfl,rfl⟩
  ·rcases z9 hb with ⟨j,u,rfl,e⟩ | ⟨y,u,rfl,e⟩
   ·injection e with e1 _; rw [e1]
   ·exact nomatch e
  ·rcases z9 hb with ⟨j,u,rfl,e⟩ | ⟨y,u,rfl,e⟩
   ·exact nomatch e
   ·injection e with e1 _; rw [e1]
 byValue:=fun k v h=>by
  rcases z9 h with ⟨i,t,rfl,rfl⟩ | ⟨x,t,rfl,rfl⟩ <;> rfl
 pyHash:=fun hv h=>by
  rcases z9 hv with ⟨i,t,rfl,rfl⟩ | ⟨x,t,rfl,rfl⟩
  ·exact wpAny_pyHash_int h
  ·exact wpAny_pyHash_str h
 eqBool:=fun hu hv h=>by
  rcases z9 hu with ⟨i,t,rfl,rfl⟩ | ⟨x,t,rfl,rfl⟩
  ·rcases z9 hv with ⟨j,u,rfl,rfl⟩ | ⟨y,u,rfl,rfl⟩
   ·rw [key_ll] at h; exact wpAny_eqBool_int h
   ·rw [key_lr] at h; exact SeqAt.EqAt.int_str i t y u _ _ _ _ h
  ·rcases z9 hv with ⟨j,u,rfl,rfl⟩ | ⟨y,u,rfl,rfl⟩
   ·rw [key_rl] at h; exact SeqAt.EqAt.str_int x t j u _ _ _ _ h
   ·rw [key_rr] at h; exact wpAny_eqBool_str h
 «strs»:=fun k x t v h=>by
  rcases z9 h with ⟨i,u,rfl,e⟩ | ⟨y,u,rfl,e⟩
  ·exact nomatch e
  ·injection e with e1 _
   subst e1
   cases v <;> rfl
theorem mixKind_int (prog:Program) (w:World) (i:Int) (t:Tok):(mixKind prog w).is (.inl i) (.int i t) = true:=keyIs_int i t
theorem mixKind_str (prog:Program) (w:World) (x:Str) (t:Tok):(mixKind prog w).is (.inr x) (.str x t) = true:=keyIs_str x t
end L2
namespace L2
open PySem PySem.Spec PyProof.Rows
inductive V where
 | non | bl (b:Bool) | int (i:Int) | str (x:Str) | byt (b:Array UInt8) | flt (b:UInt64) | ref (a:Addr) | ty (n:String)
 deriving DecidableEq
def RelV:V -> Value -> Prop
 | .non,u=>u = Value.none
 | .bl b,u=>u = Value.bool b
 | .int i,u=>∃ t,u = Value.int i t
 | .str x,u=>∃ t,u = Value.str x t
 | .byt b,u=>∃ t,u = Value.bytes b t
 | .flt b,u=>∃ t,u = Value.float b t
 | .ref a,u=>u = Value.ref a
 | .ty n,u=>u = Value.type n
abbrev Vals:List V -> List Value -> Prop:=Paired RelV
theorem Vals.length {xs:List V} {us:List Value} (r:Vals xs us):xs.length = us.length:=Paired.length r
theorem Vals.get:∀ {xs:List V} {us:List Value} {i:Nat} {x:V},Vals xs us -> xs[i]? = some x -> ∃ u,us[i]? = some u /\ RelV x u
 | _,_,_,_,.nil,e=>by simp at e
 | _,_,0,_,.cons r _,e=>by simp at e; subst e; exact ⟨_,rfl,r⟩
 | _,_,i + 1,x,.cons _ t,e=>by
  obtain ⟨u,h1,h2⟩:=Vals.get (i:=i) (x:=x) t (by simpa using e)
  exact ⟨u,by simpa using h1,h2⟩
theorem Vals.set {x:V} {u:Value} (r:RelV x u):∀ {xs:List V} {us:List Value} (i:Nat),Vals xs us -> Vals (xs.set i x) (us.set i u)
 | _,_,_,.nil=>.nil
 | _,_,0,.cons _ t=>.cons r t
 | _,_,i + 1,.cons q t=>.cons q (Vals.set r i t)
theorem Vals.append:∀ {xs ys:List V} {us ws:List Value},Vals xs us -> Vals ys ws -> Vals (xs ++ ys) (us ++ ws)
 | _,_,_,_,.nil,s=>s
 | _,_,_,_,.cons r t,s=>.cons r (Vals.append t s)
theorem Vals.take:∀ {xs:List V} {us:List Value} (n:Nat),Vals xs us -> Vals (xs.take n) (us.take n)
 | _,_,0,_=>.nil
 | _,_,_ + 1,.nil=>.nil
 | _,_,n + 1,.cons r t=>.cons r (Vals.take n t)
theorem Vals.drop:∀ {xs:List V} {us:List Value} (n:Nat),Vals xs us -> Vals (xs.drop n) (us.drop n)
 | _,_,0,r=>r
 | _,_,_ + 1,.nil=>.nil
 | _,_,n + 1,.cons _ t=>Vals.drop n t
def RelO:Option V -> Option Value -> Prop
 | some v,some u=>RelV v u
 | none,none=>True
 | _,_=>False
def KV {κ:Type}:List (κ × V) -> List (κ × Value) -> Prop:=Paired fun (p:κ × V) (q:κ × Value)=>p.1 = q.1 /\ RelV p.2 q.2
def kV:Key -> V
 | .inl i=>.int i
 | .inr x=>.str x
inductive HO where
 | lst (xs:List V)
 | tup (xs:List V)
 | dK (kvs:List (Key × V)) | dT (kvs:List (List Key × V))
 | set (S:Int -> Bool) (n:Nat)
 | ins (C dx:Addr) (fs:List (Str × V))
 | own (x:Addr)
 | xd (fs:List (Str × V))
 | met (f x:Addr)
 | rng (lo hi:Int)
 | frz (o:Obj) (u:HO)
 | tbl (ps:Array Value)
 | ext (φ:Heap -> Prop)
abbrev Hp:=Addr -> Option HO
def upd (H:Hp) (a:Addr) (o:HO):Hp:=fun b=>if b = a then some o else H b
theorem upd_same {H:Hp} {a:Addr} {o:HO}:upd H a o a = some o:=by unfold upd; rw [if_pos rfl]
theorem zF {H:Hp} {a b:Addr} {o:HO} (h:b ≠ a):upd H a o b = H b:=by unfold upd; rw [if_neg h]
theorem upd_upd {H:Hp} {a:Addr} {o u:HO}:upd (upd H a o) a u = upd H a u:=by
 funext b; unfold upd; split <;> rfl
theorem ne_of {H:Hp} {a b:Addr} {o u:HO} (h:H a = some o) (h':H b = some u) (d:o ≠ u):a ≠ b:=by
 intro e; subst e; rw [h] at h'; exact d (Option.some.inj h')
theorem zG {H:Hp} {a b:Addr} {o:HO} (h:H a = some o) (h':H b = none):a ≠ b:=by
 intro e; subst e; rw [h] at h'; cases h'
section
variable (P:Program) (w:World)
def ObjOk (H:Hp) (h:Heap) (a:Addr):HO -> Prop
 | .lst xs=>xs.length <= sizeLine /\ ∃ (its:List Value) (n:Nat),Vals xs its /\ h.get? a = some { cls:=.type "list",data:=.seq its.toArray n }
 | .tup xs=>xs.length <= sizeLine /\ ∃ its:List Value,Vals xs its /\ IsTup h a its.toArray
 | .dK kvs=>kvs.length <= sizeLine /\ (a == sysModules) = false /\ ∃ vs,KV kvs vs /\ h.DictOf (mixKind P w) a vs
 | .dT kvs=>kvs.length <= sizeLine /\ (a == sysModules) = false /\ ∃ xs:List (List Key × Addr × Value),
   Paired (fun (p:List Key × V) (q:List Key × Addr × Value)=>p.1 = q.1 /\ H q.2.1 = some (.tup (p.1.map kV)) /\ RelV p.2 q.2.2) kvs xs /\
   ∃ o es ep,h.get? a = some o /\ o.ExactDict /\ o.data = .dict es ep /\ es.toList = xs.map (entryOfKey (tupleKind (mixKind P w))) /\ (xs.map (·.1)).Nodup
 | .set S n=>h.SetOf (intKind P w) a S n
 | .ins C dx fs=>H dx = some (.own a) /\ fs.length <= 1000 /\ dx ≠ a /\ h.get? a = some (PySem.W.instObj C dx) /\
   ∃ mA,h.Ns1 dx mA /\ (∀ f,RelO (fs.lookup f) (mA f)) /\ PySem.Within mA (fs.map (·.1))
 | .own _=>∃ o,h.get? a = some o
 | .xd fs=>∃ mA,h.Ns1 a mA /\ ∀ f,RelO (fs.lookup f) (mA f)
 | .rng lo hi=>∃ t u v,h.get? a = some { cls:=.type "range",data:=.fields #[.int lo t,.int hi u,.int 1 v] }
 | .frz o u=>h.get? a = some o /\ ObjOk H h a u
 | .tbl ps=>h.get? a = some { cls:=.none,data:=.fields ps }
 | .met f x=>h.get? a = some (PySem.W.methodObj (.ref f) (.ref x))
 | .ext φ=>φ h /\ (∃ o,h.get? a = some o) /\ ∀ h1 h2:Heap,φ h1 -> (∀ o,h1.get? a = some o -> h2.get? a = some o) -> φ h2
def HOk (H:Hp) (h:Heap):Prop:=∀ a o,H a = some o -> ObjOk P w H h a o
end
section
variable {P:Program} {w:World} {H H':Hp} {h h':Heap} {a:Addr} {o:HO}
theorem ObjOk.lt (x:ObjOk P w H h a o):a < h.objs.size:=by
 cases o with
 | lst xs=>obtain ⟨_,_,_,_,e⟩:=x; exact Heap.lt_size e
 | tup xs=>obtain ⟨_,_,_,p⟩:=x; exact p.lt
 | dK kvs=>obtain ⟨_,_,_,_,o,_,_,e,_⟩:=x; exact Heap.lt_size e
 | dT kvs=>obtain ⟨_,_,_,_,o,_,_,e,_⟩:=x; exact Heap.lt_size e
 | set S n=>obtain ⟨o,_,_,_,e,_⟩:=x; exact Heap.lt_size e
 | ins C dx fs=>obtain ⟨_,_,_,e,_⟩:=x; exact Heap.lt_size e
 | own y=>obtain ⟨_,e⟩:=x; exact Heap.lt_size e
 | xd fs=>obtain ⟨_,⟨_,_,_,e,_⟩,_⟩:=x; exact Heap.lt_size e
 | rng lo hi=>obtain ⟨_,_,_,e⟩:=x; exact Heap.lt_size e
 | frz ob u=>obtain ⟨e,_⟩:=x; exact Heap.lt_size e
 | tbl ps=>exact Heap.lt_size (show h.get? a = some _ from x)
 | met f y=>exact Heap.lt_size (show h.get? a = some _ from x)
 | ext φ=>obtain ⟨_,⟨_,e⟩,_⟩:=x; exact Heap.lt_size e
theorem Paired.mapP {α β:Type} {F G:α -> β -> Prop}:∀ {l₁:List α} {l₂:List β},Paired F l₁ l₂ -> (∀ a b,F a b -> G a b) -> Paired G l₁ l₂
 | _,_,.nil,_=>.nil
 | _,_,.cons r t,f=>.cons (f _ _ r) (Paired.mapP t f)
theorem ObjOk.stay (x:ObjOk P w H h a o) (k:∀ b u,(b = a \/ H b = some (.own a)) -> h.get? b = some u -> h'.get? b = some u)
  (ho:∀ b,H b = some (.own a) -> H' b = some (.own a)) (ht:∀ b xs,H b = some (.tup xs) -> H' b = some (.tup xs)):ObjOk P w H' h' a o:=by
 induction o with
 | lst xs=>obtain ⟨z,its,n,r,e⟩:=x; exact ⟨z,its,n,r,k _ _ (.inl rfl) e⟩
 | tup xs=>obtain ⟨z,its,r,ob,e,c⟩:=x; exact ⟨z,its,r,ob,k _ _ (.inl rfl) e,c⟩
 | dK kvs=>obtain ⟨z,y,vs,r,ob,es,ep,e,c⟩:=x; exact ⟨z,y,vs,r,ob,es,ep,k _ _ (.inl rfl) e,c⟩
 | dT kvs =>
  obtain ⟨z,y,xs,r,ob,es,ep,e,c⟩:=x
  exact ⟨z,y,xs,Paired.mapP r fun p q z=>⟨z.1,ht _ _ z.2.1,z.2.2⟩,ob,es,ep,k _ _ (.inl rfl) e,c⟩
 | set S n=>obtain ⟨ob,es,ep,t,e,c⟩:=x; exact ⟨ob,es,ep,t,k _ _ (.inl rfl) e,c⟩
 | ins C dx fs =>
  obtain ⟨d,z,ne,e,mA,⟨od,es,ep,e2,c⟩,r⟩:=x
  exact ⟨ho _ d,z,ne,k _ _ (.inl rfl) e,mA,⟨od,es,ep,k _ _ (.inr d) e2,c⟩,r⟩
 | own y=>obtain ⟨ob,e⟩:=x; exact ⟨ob,k _ _ (.inl rfl) e⟩
 | xd fs=>obtain ⟨mA,⟨od,es,ep,e,c⟩,r⟩:=x; exact ⟨mA,⟨od,es,ep,k _ _ (.inl rfl) e,c⟩,r⟩
 | rng lo hi=>obtain ⟨t,u,v,e⟩:=x; exact ⟨t,u,v,k _ _ (.inl rfl) e⟩
 | frz ob u ih=>obtain ⟨e,q⟩:=x; exact ⟨k _ _ (.inl rfl) e,ih q⟩
 | tbl ps =>
  have e:h.get? a = some { cls:=.none,data:=.fields ps }:=x
  show h'.get? a = some { cls:=.none,data:=.fields ps }
  exact k a _ (.inl rfl) e
 | met f y =>
  have e:h.get? a = some (PySem.W.methodObj (.ref f) (.ref y)):=x
  show h'.get? a = some (PySem.W.methodObj (.ref f) (.ref y))
  exact k a _ (.inl rfl) e
 | ext φ=>obtain ⟨p,⟨o,e⟩,st⟩:=x; exact ⟨st _ _ p fun o q=>k _ _ (.inl rfl) q,⟨o,k _ _ (.inl rfl) e⟩,st⟩
theorem HOk.lt (x:HOk P w H h) (e:H a = some o):a < h.objs.size:=(x a o e).lt
theorem HOk.fresh (x:HOk P w H h) (e:h.objs.size <= a):H a = none:=by
 cases q:H a with
 | none=>rfl
 | some u=>exact absurd (Nat.lt_of_lt_of_le (x.lt q) e) (Nat.lt_irrefl _)
theorem HOk.kept (x:HOk P w H h) (k:∀ b u,h.get? b = some u -> h'.get? b = some u):HOk P w H h':=fun a o e =>
 (x a o e).stay (fun b u _ q=>k b u q) (fun _ q=>q) fun _ _ q=>q
theorem HOk.laid (x:HOk P w H h) (k:∀ b u,h.get? b = some u -> h'.get? b = some u) (hp:h.objs.size <= a) (new:ObjOk P w (upd H a o) h' a o):HOk P w (upd H a o) h':=fun b u e=>by
 have hn:=x.fresh hp
 by_cases hb:b = a
 ·subst hb; rw [upd_same] at e; cases e; exact new
 ·rw [zF hb] at e
  exact (x b u e).stay (fun c v _ q=>k c v q) (fun c q=>by rw [zF (zG q hn)]; exact q) fun c xs q=>by rw [zF (zG q hn)]; exact q
end
def Rd (H:Hp) (a:Addr) (u:HO):Prop:=H a = some u \/ ∃ o,H a = some (.frz o u)
theorem Rd.ok {P:Program} {w:World} {H:Hp} {h:Heap} {a:Addr} {u:HO} (r:Rd H a u) (x:HOk P w H h):ObjOk P w H h a u:=by
 rcases r with r | ⟨o,r⟩
 ·exact x a u r
 ·obtain ⟨_,q⟩:=x a _ r
  exact q
def Mut:Option HO -> Prop
 | some (.lst _)=>True
 | some (.dK _)=>True
 | some (.dT _)=>True
 | some (.set _ _)=>True
 | some (.ins _ _ _)=>True
 | some (.ext _)=>True
 | _=>False
section
variable {P:Program} {w:World} {H:Hp} {h h':Heap} {x e:Addr} {o':HO}
theorem HOk.write (ok:HOk P w H h) (mu:Mut (H x)) (he:e = x \/ H e = some (.own x)) (k:∀ b u,b ≠ e -> h.get? b = some u -> h'.get? b = some u) (heo:∃ u,h'.get? e = some u)
  (new:ObjOk P w (upd H x o') h' x o'):HOk P w (upd H x o') h':=fun b u q=>by
 have nown:∀ c y,H c = some (.own y) -> c ≠ x:=fun c y r z=>by subst z; rw [r] at mu; exact mu
 have ntup:∀ c xs,H c = some (.tup xs) -> c ≠ x:=fun c xs r z=>by subst z; rw [r] at mu; exact mu
 by_cases hb:b = x
 ·subst hb; rw [upd_same] at q; cases q; exact new
 ·rw [zF hb] at q
  by_cases hbe:b = e
  ·have q':H b = some (.own x):=by
    rcases he with z | z
    ·exact absurd (hbe.trans z) hb
    ·rw [hbe]; exact z
   rw [q] at q'; cases q'
   obtain ⟨v,hv⟩:=heo
   exact ⟨v,by rw [hbe]; exact hv⟩
  ·refine (ok b u q).stay (fun c v hc r=>k c v ?_ r) (fun c r=>by rw [zF (nown c b r)]; exact r) fun c xs r=>by rw [zF (ntup c xs r)]; exact r
   rcases hc with rfl | hc
   ·exact hbe
   ·rintro rfl
    rcases he with z | z
    ·exact nown c b hc z
    ·rw [hc] at z; cases z; exact hb rfl
end
structure Un (fs ex:List Addr) (H H':Hp) (h h':Heap):Prop where
 keep:∀ b o,h.get? b = some o -> H b = none -> b ∉ fs -> b ∉ ex -> h'.get? b = some o
 slot:∀ b o,h.get? b = some o -> H b = none -> b ∈ fs -> b ∉ ex -> ∃ sl,h'.get? b = some { o with slots:=sl }
 free:∀ b o,h.get? b = some o -> H b = none -> b ∉ ex -> H' b = none
 there:∀ b o,h.get? b = some o -> b ∉ ex -> ∃ o',h'.get? b = some o'
 tups:∀ b xs,H b = some (.tup xs) -> H' b = some (.tup xs)
 frzs:∀ b o u,H b = some (.frz o u) -> H' b = some (.frz o u)
 tbls:∀ b ps,H b = some (.tbl ps) -> ∃ more,H' b = some (.tbl (ps ++ more))
section
variable {fs fs' ex ex':List Addr} {H H1 H2:Hp} {h h1 h2 h':Heap} {a x e:Addr} {o:HO}
theorem Un.any (u:Un fs ex H H1 h h1) {b:Addr} {ob:Obj} (q:h.get? b = some ob) (n:H b = none) (hx:b ∉ ex):∃ sl,h1.get? b = some { ob with slots:=sl }:=by
 by_cases hb:b ∈ fs
 ·exact u.slot b ob q n hb hx
 ·exact ⟨ob.slots,u.keep b ob q n hb hx⟩
theorem Un.kept (k:∀ b u,h.get? b = some u -> h'.get? b = some u):Un fs ex H H h h' :=
 ⟨fun b ob q _ _ _=>k b ob q,fun b ob q _ _ _=>⟨ob.slots,k b ob q⟩,fun _ _ _ n _=>n,fun b ob q _=>⟨ob,k b ob q⟩,fun _ _ q=>q,fun _ _ _ q=>q,fun _ ps q=>⟨#[],by rw [q]; simp⟩⟩
theorem Un.refl:Un fs ex H H h h:=Un.kept fun _ _ q=>q
theorem Un.laid (k:∀ b u,h.get? b = some u -> h'.get? b = some u) (hp:h.objs.size <= a) (hn:H a = none):Un fs ex H (upd H a o) h h' where
 keep:=fun b u q _ _ _=>k b u q
 slot:=fun b u q _ _ _=>⟨u.slots,k b u q⟩
 free:=fun b u q n _=>by rw [zF (Nat.ne_of_lt (Nat.lt_of_lt_of_le (Heap.lt_size q) hp))]; exact n
 there:=fun b u q _=>⟨u,k b u q⟩
 tups:=fun b xs q=>by rw [zF (zG q hn)]; exact q
 frzs:=fun b u xs q=>by rw [zF (zG q hn)]; exact q
 tbls:=fun b ps q=>⟨#[],by rw [zF (zG q hn),q]; simp⟩
theorem Un.write (mu:Mut (H x)) (he:e = x \/ H e = some (.own x)) (k:∀ b u,b ≠ e -> h.get? b = some u -> h'.get? b = some u) (heo:∃ u,h'.get? e = some u):Un fs ex H (upd H x o) h h':=by
 have hx:∀ b,H b = none -> b ≠ x:=fun b n z=>by subst z; rw [n] at mu; exact mu
 have hb:∀ b,H b = none -> b ≠ e:=fun b n z=>by
  subst z
  rcases he with r | r
  ·exact hx b n r
  ·rw [n] at r; cases r
 have hm:∀ b u,H b = some u -> ¬ Mut (some u) -> b ≠ x:=fun b u q nm z=>by subst z; rw [q] at mu; exact nm mu
 refine ⟨fun b u q n _ _=>k b u (hb b n) q,fun b u q n _ _=>⟨u.slots,k b u (hb b n) q⟩,fun b u q n _=>by rw [zF (hx b n)]; exact n,fun b u q _=>?_,
  fun b xs q=>by rw [zF (hm b _ q fun z=>z)]; exact q,fun b u xs q=>by rw [zF (hm b _ q fun z=>z)]; exact q,fun b ps q=>⟨#[],by rw [zF (hm b _ q fun z=>z),q]; simp⟩⟩
 by_cases hbe:b = e
 ·subst hbe; exact heo
 ·exact ⟨u,k b u hbe q⟩
end
def trk (h:Heap) (H:Hp):List Addr:=(List.range h.objs.size).filter fun a=>(H a).isSome
def hidT (h:Heap) (H:Hp):Heap:=PySem.W.hideAll h (trk h H)
theorem hidT_size (h:Heap) (H:Hp):(hidT h H).objs.size = h.objs.size:=PySem.W.hideAll_size _ _
theorem hidT_get {h:Heap} {H:Hp} {b:Addr} {o:Obj} (e:h.get? b = some o) (n:H b = none):(hidT h H).get? b = some o :=
 PySem.W.hideAll_get _ e fun hm=>by
  have q:(H b).isSome = true:=(List.mem_filter.mp hm).2
  rw [n] at q; simp at q
theorem of_hidT {h:Heap} {H:Hp} {b:Addr} {o:Obj} (e:(hidT h H).get? b = some o):h.get? b = some o /\ H b = none:=by
 have e':h.get? b = some o:=PySem.W.of_hideAll (trk h H) e
 refine ⟨e',?_⟩
 cases q:H b with
 | none=>rfl
 | some x =>
  have hm:b ∈ trk h H:=List.mem_filter.mpr ⟨List.mem_range.mpr (Heap.lt_size e'),by simp [q]⟩
  have z:(hidT h H).get? b = none:=PySem.W.hideAll_none (trk h H) hm
  rw [z] at e; cases e
end L2
namespace L2
open PySem PySem.Spec PyProof.Rows
structure Mod (K:PySem.W.Frag) (mg:Str -> Option Value) (base:Heap):Prop where
 kin:K.In base
 glob:base.Ns mainGlobals mg
 blt:∃ mb,base.Ns builtinsNs mb /\ ∀ x:Str,x ≠ "__name__" -> mb x = bootBuiltins x
 nolimit:base.NoLimit
structure Cx where
 prog:Program
 w:World
 K:PySem.W.Frag
 mg:Str -> Option Value
 base:Heap
 A:Around
 N:List Str
 s₀:Shared
 H₀:Hp
 env:Env
 outer:List Env
 stack:List Env
 ex:List Addr
 fn:Str -> Bool
 calm:Bool
 pn:List (Addr × Obj)
 xe:Value -> Shared -> Prop
def frs (l:List Env):List Addr:=l.filterMap (·.frame)
abbrev Cx.fs (X:Cx):List Addr:=frs X.outer
def Vis (sc:Scope) (x:Str):Prop:=sc.names.lookup x = some .local \/ sc.names.lookup x = some .cell \/ sc.names.lookup x = some .free
def Loc (sc:Scope) (x:Str):Prop:=sc.names.lookup x = some .local \/ sc.names.lookup x = some .cell
def Look (env:Env) (h:Heap) (m:Str -> Option Value) (x:Str) (u:Value):Prop :=
 (env.kindOf x = some .local /\ m x = some u) \/ ((env.kindOf x = some .cell \/ env.kindOf x = some .free) /\ ∃ c,env.cells.lookup x = some c /\ h.IsCell c (some u))
structure Cx.Ok (X:Cx):Prop where
 mod:Mod X.K X.mg X.base
 kind:X.env.scope.kind = .function
 glob:X.env.globals = mainGlobals
 blt:X.env.builtins = builtinsNs
 above:X.s₀.heap.objs.size <= X.env.locals
 inj:∀ x y c,X.env.cells.lookup x = some c -> X.env.cells.lookup y = some c -> x = y
 has:∀ x,(X.env.kindOf x = some .cell \/ X.env.kindOf x = some .free) -> ∃ c,X.env.cells.lookup x = some c
 cab:∀ x c,X.fn x = true -> X.env.cells.lookup x = some c -> X.s₀.heap.objs.size <= c
 hd:X.calm = true -> X.A.handled = none
 frames:X.A.frames = some X.stack
 stk:X.stack = X.outer \/ (X.stack = X.env :: X.outer /\ X.env.frame = some X.env.locals)
 exf:∀ b ∈ X.ex,b ≠ X.env.locals /\ ∀ x c,X.env.cells.lookup x = some c -> c ≠ b
 bs:∀ b o,X.base.get? b = some o -> X.s₀.heap.get? b = some o /\ X.H₀ b = none
 bsz:X.base.objs.size <= X.s₀.heap.objs.size
 noex:∀ b o,X.base.get? b = some o -> b ∉ X.ex
 exfs:∀ b ∈ X.ex,b ∉ X.fs
 funs:X.s₀.heap.FunFrames X.base X.outer
 frf:∀ b ∈ X.fs,X.H₀ b = none
structure Inv (X:Cx) (pins:List (Addr × Obj)) (σ:List (Option V)) (H:Hp) (s:Shared):Prop where
 ok:X.Ok
 os:s.os = X.s₀.os
 bare:AllBare s.gens
 base:Un X.fs X.ex X.H₀ H X.s₀.heap s.heap
 loc:∃ m,s.heap.Ns X.env.locals m /\ ∀ (i:Nat) (x:Str) (v:V),X.N[i]? = some x -> σ[i]? = some (some v) -> Vis X.env.scope x -> ∃ u,RelV v u /\ Look X.env s.heap m x u
 cell:∀ x c,X.env.cells.lookup x = some c -> ∃ v,s.heap.IsCell c v
 free:H X.env.locals = none
 freeC:∀ x c,X.env.cells.lookup x = some c -> H c = none
 pin:∀ p ∈ X.pn ++ pins,s.heap.get? p.1 = some p.2 /\ H p.1 = none /\ p.1 ≠ X.env.locals /\ p.1 ∉ X.fs /\ ∀ v,p.2.data ≠ .cell v
 hok:HOk X.prog X.w H s.heap
 len:σ.length = X.N.length
section
variable {X:Cx} {pins:List (Addr × Obj)} {σ:List (Option V)} {H H':Hp} {s:Shared} {h':Heap}
theorem Cx.Ok.nofr (ok:X.Ok) {b:Addr} {o:Obj} (e:X.base.get? b = some o):b ∉ X.fs:=fun hb=>by
 have:=(ok.funs.mem hb).1
 rw [e] at this; cases this
theorem Inv.bs (I:Inv X pins σ H s):∀ b o,X.base.get? b = some o -> s.heap.get? b = some o /\ H b = none:=fun b o e =>
 ⟨I.base.keep b o (I.ok.bs b o e).1 (I.ok.bs b o e).2 (I.ok.nofr e) (I.ok.noex b o e),I.base.free b o (I.ok.bs b o e).1 (I.ok.bs b o e).2 (I.ok.noex b o e)⟩
theorem Inv.bk (I:Inv X pins σ H s):∀ b o,X.base.get? b = some o -> s.heap.get? b = some o:=fun b o e=>(I.bs b o e).1
theorem Inv.mod (I:Inv X pins σ H s):Mod X.K X.mg X.base:=I.ok.mod
theorem Inv.kIn (I:Inv X pins σ H s):X.K.In s.heap:=I.ok.mod.kin.keeps I.bk
theorem Inv.lt (I:Inv X pins σ H s):X.env.locals < s.heap.objs.size:=let ⟨_,hn,_⟩:=I.loc; hn.lt
theorem Inv.sz (I:Inv X pins σ H s):X.s₀.heap.objs.size <= s.heap.objs.size:=Nat.le_trans I.ok.above (Nat.le_of_lt I.lt)
theorem Inv.nofs (I:Inv X pins σ H s) {a:Addr} (h:s.heap.objs.size <= a):a ∉ X.fs:=fun hb=>by
 obtain ⟨_,o,ho,_⟩:=I.ok.funs.mem hb
 exact absurd (Nat.lt_of_lt_of_le (Heap.lt_size ho) (Nat.le_trans I.sz h)) (Nat.lt_irrefl _)
theorem Inv.cne (I:Inv X pins σ H s):∀ x c,X.env.cells.lookup x = some c -> c ≠ X.env.locals:=fun x c e z=>by
 obtain ⟨v,o,ho,hd⟩:=I.cell x c e
 obtain ⟨m,⟨o',es,ep,ho',hd',_⟩,_⟩:=I.loc
 rw [z,ho'] at ho; cases ho; rw [hd'] at hd; cases hd
theorem Inv.funs (I:Inv X pins σ H s):s.heap.FunFrames X.base X.outer:=by
 have all:∀ (l:List Env),(∀ b ∈ frs l,b ∈ X.fs) -> X.s₀.heap.FunFrames X.base l -> s.heap.FunFrames X.base l:=by
  intro l
  induction l with
  | nil=>intro _ _; trivial
  | cons env r ih =>
   intro hs hl
   obtain ⟨hk,⟨L,o,hf,hn,ho,hd⟩,hr⟩:=hl
   have hL:L ∈ X.fs:=hs L (by unfold frs; rw [List.filterMap_cons,hf]; exact List.mem_cons_self)
   obtain ⟨sl,e⟩:=I.base.slot L o ho (I.ok.frf L hL) hL fun z=>I.ok.exfs L z hL
   exact ⟨hk,⟨L,_,hf,hn,e,hd⟩,ih (fun b hb=>hs b (by unfold frs; rw [List.filterMap_cons,hf]; exact List.mem_cons_of_mem _ hb)) hr⟩
 exact all X.outer (fun _ hb=>hb) I.ok.funs
theorem Inv.stack (I:Inv X pins σ H s):s.heap.FunFrames X.base X.stack:=by
 rcases I.ok.stk with e | ⟨e,hf⟩
 ·rw [e]; exact I.funs
 ·rw [e]
  obtain ⟨m,hn,_⟩:=I.loc
  refine .cons (by rw [I.ok.kind]; decide) hf hn ?_ I.funs
  exact Heap.get?_none_of_le (Nat.le_trans I.ok.bsz I.ok.above)
theorem Inv.stkSub (I:Inv X pins σ H s):∀ b ∈ frs X.stack,b ∈ X.env.locals :: X.fs:=fun b hb=>by
 rcases I.ok.stk with e | ⟨e,hf⟩
 ·rw [e] at hb; exact List.mem_cons_of_mem _ hb
 ·rw [e] at hb
  unfold frs at hb
  rw [List.filterMap_cons,hf] at hb
  exact hb
theorem Inv.stkFree (I:Inv X pins σ H s):∀ b ∈ frs X.stack,H b = none:=fun b hb=>by
 rcases List.mem_cons.mp (I.stkSub b hb) with e | hb
 ·rw [e]; exact I.free
 ·obtain ⟨_,o,ho,_⟩:=I.ok.funs.mem hb
  exact I.base.free b o ho (I.ok.frf b hb) fun z=>I.ok.exfs b z hb
theorem Inv.step {g':Array GenState} {t':Nat} {d':Drawn} {ch:List Addr} (I:Inv X pins σ H s)
  (hch:∀ b ∈ ch,(b ∈ X.ex \/ X.s₀.heap.objs.size <= b) /\ b ≠ X.env.locals /\ (∀ x c,X.env.cells.lookup x = some c -> c ≠ b) /\ ∀ p ∈ X.pn ++ pins,p.1 ≠ b)
  (keep:∀ b o,b ≠ X.env.locals -> b ∉ X.fs -> b ∉ ch -> s.heap.get? b = some o -> H b = none -> h'.get? b = some o)
  (slot:∀ b o,b ≠ X.env.locals -> b ∈ X.fs -> b ∉ ch -> s.heap.get? b = some o -> H b = none -> ∃ sl,h'.get? b = some { o with slots:=sl }) (free:∀ b o,b ∉ ch -> s.heap.get? b = some o -> H b = none -> H' b = none)
  (there:∀ b o,b ∉ ch -> s.heap.get? b = some o -> ∃ o',h'.get? b = some o')
  (tups:∀ b xs,H b = some (.tup xs) -> H' b = some (.tup xs)) (frzs:∀ b o u,H b = some (.frz o u) -> H' b = some (.frz o u)) (tbls:∀ b ps,H b = some (.tbl ps) -> ∃ more,H' b = some (.tbl (ps ++ more)))
  (ns:∀ m,s.heap.Ns X.env.locals m -> h'.Ns X.env.locals m) (hok:HOk X.prog X.w H' h') (hg:AllBare g') :
  Inv X pins σ H' { s with heap:=h',gens:=g',drawn:=d',toks:=t' }:=by
 have neL:∀ b o,X.s₀.heap.get? b = some o -> b ≠ X.env.locals:=fun b o e=>Nat.ne_of_lt (Nat.lt_of_lt_of_le (Heap.lt_size e) I.ok.above)
 have neC:∀ b o,X.s₀.heap.get? b = some o -> b ∉ X.ex -> b ∉ ch:=fun b o e hx hb=>by
  rcases (hch b hb).1 with z | z
  ·exact hx z
  ·exact absurd (Nat.lt_of_lt_of_le (Heap.lt_size e) z) (Nat.lt_irrefl _)
 have cellK:∀ x c,X.env.cells.lookup x = some c -> ∀ v,s.heap.IsCell c v -> h'.IsCell c v:=fun x c e v ⟨o,ho,hd⟩=>by
  have nch:c ∉ ch:=fun z=>(hch c z).2.2.1 x c e rfl
  by_cases hc:c ∈ X.fs
  ·obtain ⟨sl,q⟩:=slot c o (I.cne x c e) hc nch ho (I.freeC x c e)
   exact ⟨_,q,hd⟩
  ·exact ⟨o,keep c o (I.cne x c e) hc nch ho (I.freeC x c e),hd⟩
 refine ⟨I.ok,I.os,hg,⟨fun b o e n hb hx=>?_,fun b o e n hb hx=>?_,fun b o e n hx=>?_,fun b o e hx=>?_,fun b xs e=>tups b xs (I.base.tups b xs e),fun b o xs e=>frzs b o xs (I.base.frzs b o xs e),fun b ps e=>?_⟩,?_,fun x c e=>?_,?_,fun x c e=>?_,fun p hp=>?_,hok,I.len⟩
 ·exact keep b o (neL b o e) hb (neC b o e hx) (I.base.keep b o e n hb hx) (I.base.free b o e n hx)
 ·obtain ⟨sl,e1⟩:=I.base.slot b o e n hb hx
  obtain ⟨sl',e2⟩:=slot b _ (neL b o e) hb (neC b o e hx) e1 (I.base.free b o e n hx)
  exact ⟨sl',e2⟩
 ·obtain ⟨o',e1⟩:=I.base.there b o e hx
  exact free b o' (neC b o e hx) e1 (I.base.free b o e n hx)
 ·obtain ⟨o',e1⟩:=I.base.there b o e hx
  exact there b o' (neC b o e hx) e1
 ·obtain ⟨m1,e1⟩:=I.base.tbls b ps e
  obtain ⟨m2,e2⟩:=tbls b _ e1
  exact ⟨m1 ++ m2,by rw [e2,Array.append_assoc]⟩
 ·obtain ⟨m,hn,hl⟩:=I.loc
  refine ⟨m,ns m hn,fun i x v e1 e2 e3=>?_⟩
  obtain ⟨u,r,l⟩:=hl i x v e1 e2 e3
  refine ⟨u,r,?_⟩
  rcases l with l | ⟨k,c,e,z⟩
  ·exact .inl l
  ·exact .inr ⟨k,c,e,cellK x c e _ z⟩
 ·obtain ⟨v,z⟩:=I.cell x c e
  exact ⟨v,cellK x c e v z⟩
 ·obtain ⟨m,⟨o,_,_,ho,_⟩,_⟩:=I.loc
  exact free _ o (fun z=>(hch _ z).2.1 rfl) ho I.free
 ·obtain ⟨v,o,ho,hd⟩:=I.cell x c e
  exact free c o (fun z=>(hch c z).2.2.1 x c e rfl) ho (I.freeC x c e)
 ·obtain ⟨e,n,ne,nf,d⟩:=I.pin p hp
  have nch:p.1 ∉ ch:=fun z=>(hch p.1 z).2.2.2 p hp rfl
  exact ⟨keep p.1 p.2 ne nf nch e n,free p.1 p.2 nch e n,ne,nf,d⟩
theorem Inv.un {t':Nat} (I:Inv X pins σ H s) (u:Un X.fs [] H H' s.heap h') (hok:HOk X.prog X.w H' h'):Inv X pins σ H' { s with heap:=h',toks:=t' }:=by
 obtain ⟨m,⟨o,es,ep,ho,r⟩,_⟩:=id I.loc
 obtain ⟨sl,hL⟩:=u.any ho I.free (by simp)
 exact I.step (g':=s.gens) (d':=s.drawn) (ch:=[]) (fun _ z=>nomatch z) (fun b o _ hb _ e n=>u.keep b o e n hb (by simp)) (fun b o _ hb _ e n=>u.slot b o e n hb (by simp)) (fun b o _ e n=>u.free b o e n (by simp)) (fun b o _ e=>u.there b o e (by simp)) u.tups u.frzs u.tbls (fun m' hm=>by
  obtain ⟨o',es',ep',ho',r'⟩:=hm
  rw [ho] at ho'; cases ho'
  exact ⟨_,es',ep',hL,r'⟩) hok I.bare
theorem Inv.call {g':Array GenState} {t':Nat} {d':Drawn} {ch:List Addr} (I:Inv X pins σ H s) (u:Un (frs X.stack) ch H H' s.heap h') (hok:HOk X.prog X.w H' h') (hg:AllBare g')
  (hch:∀ b ∈ ch,(b ∈ X.ex \/ X.s₀.heap.objs.size <= b) /\ b ≠ X.env.locals /\ (∀ x c,X.env.cells.lookup x = some c -> c ≠ b) /\ ∀ p ∈ X.pn ++ pins,p.1 ≠ b) :
  Inv X pins σ H' { s with heap:=h',gens:=g',drawn:=d',toks:=t' }:=by
 obtain ⟨m,⟨o,es,ep,ho,r⟩,_⟩:=id I.loc
 obtain ⟨sl,hL⟩:=u.any ho I.free fun z=>(hch _ z).2.1 rfl
 exact I.step (ch:=ch) hch (fun b o hL hb hc e n=>u.keep b o e n (fun z=>(List.mem_cons.mp (I.stkSub b z)).elim hL hb) hc) (fun b o _ _ hc e n=>u.any e n hc) (fun b o hc e n=>u.free b o e n hc) (fun b o hc e=>u.there b o e hc) u.tups u.frzs u.tbls (fun m' hm=>by
  obtain ⟨o',es',ep',ho',r'⟩:=hm
  rw [ho] at ho'; cases ho'
  exact ⟨_,es',ep',hL,r'⟩) hok hg
theorem Inv.turned {t':Nat} {it:Addr} (I:Inv X pins σ H s) (k:∀ b o,b ≠ it -> s.heap.get? b = some o -> h'.get? b = some o) (hn:H it = none) (hL:it ≠ X.env.locals)
  (h1:it ∈ X.ex \/ X.s₀.heap.objs.size <= it) (h2:∀ x c,X.env.cells.lookup x = some c -> c ≠ it) (h3:∀ p ∈ X.pn ++ pins,p.1 ≠ it):Inv X pins σ H { s with heap:=h',toks:=t' }:=by
 have nit:∀ b u,H b = some u -> b ≠ it:=fun b u e z=>by rw [z,hn] at e; cases e
 refine I.step (g':=s.gens) (d':=s.drawn) (ch:=[it]) (fun b hb=>?_) (fun b o _ _ hc e _=>k b o (fun z=>hc (by simp [z])) e) (fun b o _ _ hc e _=>⟨o.slots,k b o (fun z=>hc (by simp [z])) e⟩) (fun _ _ _ _ n=>n)
  (fun b o hc e=>⟨o,k b o (fun z=>hc (by simp [z])) e⟩) (fun _ _ e=>e) (fun _ _ _ e=>e) (fun b ps e=>⟨#[],by rw [e]; simp⟩) (fun m hm=>?_) (fun b u e=>?_) I.bare
 ·have e:b = it:=by simpa using hb
  subst e
  exact ⟨h1,hL,h2,h3⟩
 ·obtain ⟨o,es,ep,ho,r⟩:=hm
  exact ⟨o,es,ep,k _ o (Ne.symm hL) ho,r⟩
 ·refine (I.hok b u e).stay (fun c v hc q=>k c v ?_ q) (fun _ q=>q) fun _ _ q=>q
  rcases hc with z | z
  ·rw [z]; exact nit b u e
  ·exact nit c _ z
theorem Inv.tok (I:Inv X pins σ H s) (t:Nat):Inv X pins σ H { s with toks:=t }:=I.un (h':=s.heap) (t':=t) Un.refl I.hok
theorem Inv.kept {t':Nat} (I:Inv X pins σ H s) (k:∀ b u,s.heap.get? b = some u -> h'.get? b = some u):Inv X pins σ H { s with heap:=h',toks:=t' }:=I.un (Un.kept k) (I.hok.kept k)
theorem Inv.laid {a:Addr} {o:HO} {t':Nat} (I:Inv X pins σ H s) (k:∀ b u,s.heap.get? b = some u -> h'.get? b = some u) (hp:s.heap.objs.size <= a) (new:ObjOk X.prog X.w (upd H a o) h' a o) :
  Inv X pins σ (upd H a o) { s with heap:=h',toks:=t' }:=I.un (Un.laid k hp (I.hok.fresh hp)) (I.hok.laid k hp new)
theorem Inv.write {x e:Addr} {o:HO} {t':Nat} (I:Inv X pins σ H s) (mu:Mut (H x)) (he:e = x \/ H e = some (.own x)) (k:∀ b u,b ≠ e -> s.heap.get? b = some u -> h'.get? b = some u) (heo:∃ u,h'.get? e = some u)
  (new:ObjOk X.prog X.w (upd H x o) h' x o):Inv X pins σ (upd H x o) { s with heap:=h',toks:=t' }:=I.un (Un.write mu he k heo) (I.hok.write mu he k heo new)
theorem Inv.pins_of {pins':List (Addr × Obj)} (I:Inv X pins σ H s) (h:∀ p ∈ pins',s.heap.get? p.1 = some p.2 /\ H p.1 = none /\ p.1 ≠ X.env.locals /\ p.1 ∉ X.fs /\ ∀ v,p.2.data ≠ .cell v):Inv X pins' σ H s :=
 ⟨I.ok,I.os,I.bare,I.base,I.loc,I.cell,I.free,I.freeC,fun p hp=>(List.mem_append.mp hp).elim (fun z=>I.pin p (List.mem_append_left _ z)) (h p),I.hok,I.len⟩
theorem nodup_ix {N:List Str} (hN:N.Nodup) {i j:Nat} {x:Str} (a:N[i]? = some x) (b:N[j]? = some x):i = j:=by
 obtain ⟨h1,e1⟩:=List.getElem?_eq_some_iff.mp a
 obtain ⟨h2,e2⟩:=List.getElem?_eq_some_iff.mp b
 exact (List.getElem_inj hN).mp (e1.trans e2.symm)
theorem store_ok2 {M:Model} {A:Around} {E:Value -> Shared -> Prop} {i:Nat} {x:Str} {v:V} {u:Value} {Q:Unit -> Shared -> Prop} (I:Inv X pins σ H s) (hN:X.N.Nodup) (hi:X.N[i]? = some x) (hx:Loc X.env.scope x) (r:RelV v u)
  (h:∀ s',Inv X pins (σ.set i (some v)) H s' -> (∃ a,Heap.SameBut a s.heap s'.heap /\ (a = X.env.locals \/ X.env.cells.lookup x = some a)) -> Q () s') (hf:X.fn x = true \/ X.env.scope.names.lookup x = some .local:=by first | exact .inl rfl | exact .inr rfl | assumption):wpAny M A (storeName X.env x u) Q E s:=by
 obtain ⟨m,hn,hl⟩:=id I.loc
 have hcls:(X.env.scope.kind == .class || (X.env.scope.kind == .module && X.env.locals != X.env.globals)) = false:=by rw [I.ok.kind]; rfl
 have hiσ:i < σ.length:=by rw [I.len]; exact (List.getElem?_eq_some_iff.mp hi).1
 have cne:=I.cne
 have tracked:∀ {a:Addr} {h':Heap},(∃ o,s.heap.get? a = some o /\ H a = none) -> Heap.SameBut a s.heap h' -> HOk X.prog X.w H h':=fun {a h'} ha hs b ob e=>by
  obtain ⟨_,_,hfree⟩:=ha
  refine (I.hok b ob e).stay (fun c w' hc q=>(hs.2 c ?_).trans q) (fun _ q=>q) fun _ _ q=>q
  rintro rfl
  rcases hc with rfl | hc
  ·rw [hfree] at e; cases e
  ·rw [hfree] at hc; cases hc
 rcases hx with hk | hk
 ·refine wpAny_storeName_local hk hn (fun h' hn' hs=>?_) hcls
  obtain ⟨oL,_,_,hoL,_⟩:=id hn
  refine h _ ⟨I.ok,I.os,I.bare,⟨fun b o e n hb hx=>?_,fun b o e n hb hx=>?_,I.base.free,fun b o e hx=>?_,I.base.tups,I.base.frzs,I.base.tbls⟩,⟨_,hn',fun j y v' e1 e2 e3=>?_⟩,fun y c e=>?_,I.free,I.freeC,fun p hp=>?_,tracked ⟨oL,hoL,I.free⟩ hs,by simpa using I.len⟩ ⟨_,hs,.inl rfl⟩
  ·exact (hs.2 b (Nat.ne_of_lt (Nat.lt_of_lt_of_le (Heap.lt_size e) I.ok.above))).trans (I.base.keep b o e n hb hx)
  ·obtain ⟨sl,e1⟩:=I.base.slot b o e n hb hx
   exact ⟨sl,(hs.2 b (Nat.ne_of_lt (Nat.lt_of_lt_of_le (Heap.lt_size e) I.ok.above))).trans e1⟩
  ·obtain ⟨o',e1⟩:=I.base.there b o e hx
   exact ⟨o',(hs.2 b (Nat.ne_of_lt (Nat.lt_of_lt_of_le (Heap.lt_size e) I.ok.above))).trans e1⟩
  ·by_cases hj:j = i
   ·subst hj
    rw [hi] at e1; cases e1
    rw [List.getElem?_set_self hiσ] at e2
    cases e2
    exact ⟨u,r,.inl ⟨hk,by simp⟩⟩
   ·rw [List.getElem?_set_ne (Ne.symm hj)] at e2
    obtain ⟨u',r',q⟩:=hl j y v' e1 e2 e3
    refine ⟨u',r',?_⟩
    rcases q with ⟨k,e⟩ | ⟨k,c,e,z⟩
    ·refine .inl ⟨k,?_⟩
     have:y ≠ x:=fun e=>hj (nodup_ix hN e1 (e ▸ hi))
     simp [this,e]
    ·exact .inr ⟨k,c,e,z.sameBut hs (cne y c e)⟩
  ·obtain ⟨w',z⟩:=I.cell y c e
   exact ⟨w',z.sameBut hs (cne y c e)⟩
  ·obtain ⟨e,n,ne,nf,d⟩:=I.pin p hp
   exact ⟨(hs.2 p.1 ne).trans e,n,ne,nf,d⟩
 ·have hfn:X.fn x = true:=by
   rcases hf with z | z
   ·exact z
   ·rw [z] at hk; cases hk
  obtain ⟨c,hc⟩:=I.ok.has x (.inl hk)
  obtain ⟨w',z⟩:=I.cell x c hc
  refine wpAny_storeName_cell I.ok.kind hk hc z (fun h' hc' hs=>?_)
  obtain ⟨oc,hoc,hocd⟩:=id z
  refine h { s with heap:=h' } ⟨I.ok,I.os,I.bare,⟨fun b o e n hb hx=>?_,fun b o e n hb hx=>?_,I.base.free,fun b o e hx=>?_,I.base.tups,I.base.frzs,I.base.tbls⟩,⟨m,hn.sameBut hs (Ne.symm (cne x c hc)),fun j y v' e1 e2 e3=>?_⟩,fun y c' e=>?_,I.free,I.freeC,fun p hp=>?_,tracked ⟨oc,hoc,I.freeC x c hc⟩ hs,by simpa using I.len⟩ ⟨c,hs,.inr hc⟩
  ·exact (hs.2 b (Nat.ne_of_lt (Nat.lt_of_lt_of_le (Heap.lt_size e) (I.ok.cab x c hfn hc)))).trans (I.base.keep b o e n hb hx)
  ·obtain ⟨sl,e1⟩:=I.base.slot b o e n hb hx
   exact ⟨sl,(hs.2 b (Nat.ne_of_lt (Nat.lt_of_lt_of_le (Heap.lt_size e) (I.ok.cab x c hfn hc)))).trans e1⟩
  ·obtain ⟨o',e1⟩:=I.base.there b o e hx
   exact ⟨o',(hs.2 b (Nat.ne_of_lt (Nat.lt_of_lt_of_le (Heap.lt_size e) (I.ok.cab x c hfn hc)))).trans e1⟩
  ·by_cases hj:j = i
   ·subst hj
    rw [hi] at e1; cases e1
    rw [List.getElem?_set_self hiσ] at e2
    cases e2
    exact ⟨u,r,.inr ⟨.inl hk,c,hc,hc'⟩⟩
   ·rw [List.getElem?_set_ne (Ne.symm hj)] at e2
    obtain ⟨u',r',q⟩:=hl j y v' e1 e2 e3
    refine ⟨u',r',?_⟩
    rcases q with q | ⟨k,c',e,z'⟩
    ·exact .inl q
    ·refine .inr ⟨k,c',e,z'.sameBut hs ?_⟩
     rintro rfl
     exact hj (nodup_ix hN e1 (I.ok.inj _ _ _ e hc ▸ hi))
  ·by_cases hcc:c' = c
   ·subst hcc; exact ⟨_,hc'⟩
   ·obtain ⟨w2,z2⟩:=I.cell y c' e
    exact ⟨w2,z2.sameBut hs hcc⟩
  ·obtain ⟨e,n,ne,nf,d⟩:=I.pin p hp
   refine ⟨(hs.2 p.1 ?_).trans e,n,ne,nf,d⟩
   intro q
   rw [q,hoc] at e
   have q':oc = p.2:=Option.some.inj e
   exact d w' (by rw [← q']; exact hocd)
theorem store_ok {M:Model} {A:Around} {E:Value -> Shared -> Prop} {i:Nat} {x:Str} {v:V} {u:Value} {Q:Unit -> Shared -> Prop} (I:Inv X pins σ H s) (hN:X.N.Nodup) (hi:X.N[i]? = some x) (hx:Loc X.env.scope x) (r:RelV v u)
  (h:∀ s',Inv X pins (σ.set i (some v)) H s' -> Q () s') (hf:X.fn x = true \/ X.env.scope.names.lookup x = some .local:=by first | exact .inl rfl | exact .inr rfl | assumption):wpAny M A (storeName X.env x u) Q E s :=
 store_ok2 I hN hi hx r (fun s' I' _=>h s' I') hf
theorem Inv.call' {s':Shared} {ch:List Addr} (I:Inv X pins σ H s) (ho:s'.os = s.os) (u:Un (frs X.stack) ch H H' s.heap s'.heap) (hok:HOk X.prog X.w H' s'.heap) (hg:AllBare s'.gens)
  (hch:∀ b ∈ ch,(b ∈ X.ex \/ X.s₀.heap.objs.size <= b) /\ b ≠ X.env.locals /\ (∀ x c,X.env.cells.lookup x = some c -> c ≠ b) /\ ∀ p ∈ X.pn ++ pins,p.1 ≠ b):Inv X pins σ H' s':=by
 obtain ⟨h',g',d',t',o'⟩:=s'
 have e:o' = s.os:=ho
 subst e
 exact I.call (g':=g') (t':=t') (d':=d') u hok hg hch
end
abbrev XK:=Value -> Option Addr -> Hp -> Prop
abbrev St:=List (Option V)
abbrev VK:=V -> Hp -> Prop
abbrev TE:=St -> Hp -> VK -> Prop
abbrev TT:=St -> Hp -> (Bool -> Hp -> Prop) -> Prop
abbrev TA:=St -> Hp -> (List V -> Hp -> Prop) -> Prop
structure Ends where
 nx:St -> Hp -> Prop
 rt:VK
 bk:St -> Hp -> Prop:=fun _ _=>False
 ct:St -> Hp -> Prop:=fun _ _=>False
abbrev TS:=Ends -> St -> Hp -> Prop
def EP (X:Cx) (pins:List (Addr × Obj)) (σ:St) (Q:VK) (u:Value) (s':Shared):Prop:=∃ v H',Inv X pins σ H' s' /\ RelV v u /\ Q v H'
def TP (X:Cx) (pins:List (Addr × Obj)) (σ:St) (Q:Bool -> Hp -> Prop) (b:Bool) (s':Shared):Prop:=∃ H',Inv X pins σ H' s' /\ Q b H'
def AP (X:Cx) (pins:List (Addr × Obj)) (σ:St) (Q:List V -> Hp -> Prop) (us:List Value) (s':Shared):Prop:=∃ vs H',Inv X pins σ H' s' /\ Vals vs us /\ Q vs H'
def SP (X:Cx) (pins:List (Addr × Obj)) (D:Ends) (f:Flow) (s':Shared):Prop :=
 match f with
 | .next=>∃ σ' H',Inv X pins σ' H' s' /\ D.nx σ' H'
 | .brk=>∃ σ' H',Inv X pins σ' H' s' /\ D.bk σ' H'
 | .cont=>∃ σ' H',Inv X pins σ' H' s' /\ D.ct σ' H'
 | .ret u=>∃ v σ' H',Inv X pins σ' H' s' /\ RelV v u /\ D.rt v H'
def PE (X:Cx) (e:Expr) (t:TE):Prop :=
 ∀ (pins:List (Addr × Obj)) (s:Shared) (σ:St) (H:Hp) (Q:VK),Inv X pins σ H s -> t σ H Q -> wpAny (model X.prog X.w) X.A (eval e X.env) (EP X pins σ Q) X.xe s
def PT (X:Cx) (e:Expr) (t:TT):Prop :=
 ∀ (pins:List (Addr × Obj)) (s:Shared) (σ:St) (H:Hp) (Q:Bool -> Hp -> Prop),Inv X pins σ H s -> t σ H Q -> wpAny (model X.prog X.w) X.A (isTrue e X.env (eval e X.env)) (TP X pins σ Q) X.xe s
def PW (X:Cx) (e:Expr) (t:TT):Prop :=
 ∀ (whole:Sem Value) (pins:List (Addr × Obj)) (s:Shared) (σ:St) (H:Hp) (Q:Bool -> Hp -> Prop),Inv X pins σ H s -> t σ H Q -> wpAny (model X.prog X.w) X.A (isTrue e X.env whole) (TP X pins σ Q) X.xe s
theorem PW.pt {X:Cx} {e:Expr} {t:TT} (h:PW X e t):PT X e t:=h _
def PA (X:Cx) (es:List Expr) (t:TA):Prop :=
 ∀ (pos:Pos) (pins:List (Addr × Obj)) (s:Shared) (σ:St) (H:Hp) (Q:List V -> Hp -> Prop),Inv X pins σ H s -> t σ H Q -> wpAny (model X.prog X.w) X.A (spliced (backTo pos (starEach es X.env))) (AP X pins σ Q) X.xe s
def PS (X:Cx) (st:Stmt) (t:TS):Prop :=
 ∀ (pins:List (Addr × Obj)) (s:Shared) (σ:St) (H:Hp) (D:Ends),Inv X pins σ H s -> t D σ H -> wpAny (model X.prog X.w) X.A (exec st X.env) (SP X pins D) X.xe s
def PSs (X:Cx) (st:List Stmt) (t:TS):Prop :=
 ∀ (pins:List (Addr × Obj)) (s:Shared) (σ:St) (H:Hp) (D:Ends),Inv X pins σ H s -> t D σ H -> wpAny (model X.prog X.w) X.A (execs st X.env) (SP X pins D) X.xe s
theorem thn {α:Type} {t:Sem α} {Q Q':α -> Shared -> Prop} {M:Model} {A:Around} {E:Value -> Shared -> Prop} {s:Shared} (h:wpAny M A t Q E s) (hQ:∀ a s,Q a s -> Q' a s):wpAny M A t Q' E s:=wpAny_mono h hQ fun _ _ x=>x
end L2
namespace L2
open PySem PySem.Spec PyProof.Rows
section
variable {X:Cx}
def tVar (i:Nat):TE:=fun σ H Q=>∃ v,σ[i]? = some (some v) /\ Q v H
def tC (v:V):TE:=fun _ H Q=>Q v H
theorem pe_var {i:Nat} {x:Str} {pos:Pos} (hN:X.N[i]? = some x) (hv:Vis X.env.scope x) (hd:(x == ("__debug__":Str)) = false:=by decide) (hcd:(x == ("__classdict__":Str)) = false:=by decide):PE X (.Name x pos) (tVar i):=by
 intro pins s σ H Q I h
 obtain ⟨v,e,h⟩:=h
 obtain ⟨m,hn,hl⟩:=I.loc
 obtain ⟨u,r,l⟩:=hl i x v hN e hv
 have fin:EP X pins σ Q u s:=⟨v,H,I,r,h⟩
 rcases l with ⟨hk,hm⟩ | ⟨hk,c,hc,hcell⟩
 ·exact wpAny_Name (wpAny_loadName_local I.ok.kind hk hn hm fin) hd
 ·rcases hk with hk | hk
  ·exact wpAny_Name (wpAny_loadName_cell I.ok.kind hk hc hcell fin) hd
  ·exact wpAny_Name (wpAny_loadName_free I.ok.kind hk hc hcell fin hcd) hd
theorem zH {i j pos}:PE X (.Constant (.int i) j pos) (tC (.int i)):=fun _ _ _ H _ I h=>wpAny_Constant_int ⟨.int i,H,I.tok _,⟨_,rfl⟩,h⟩
theorem xW {b j pos}:PE X (.Constant (.bool b) j pos) (tC (.bl b)):=fun _ _ _ H _ I h=>Constant_bool ⟨.bl b,H,I,rfl,h⟩
theorem yE {j pos}:PE X (.Constant .none j pos) (tC .non):=fun _ _ _ H _ I h=>Constant_none ⟨.non,H,I,rfl,h⟩
theorem zZ {x j pos}:PE X (.Constant (.str x) j pos) (tC (.str x)):=fun _ _ _ H _ I h=>Calls.Constant_str ⟨.str x,H,I.tok _,⟨_,rfl⟩,h⟩
def Gl (X:Cx) (x:Str):Prop:=X.env.kindOf x = some .globalImplicit
theorem ld_glob {E:Value -> Shared -> Prop} {pins:List (Addr × Obj)} {s:Shared} {σ:St} {H:Hp} {x:Str} {u:Value} {pos:Pos} {Q:Value -> Shared -> Prop} (I:Inv X pins σ H s) (hg:Gl X x) (hm:X.mg x = some u) (h:Q u s)
  (hd:(x == ("__debug__":Str)) = false:=by decide):wpAny (model X.prog X.w) X.A (eval (.Name x pos) X.env) Q E s :=
 Calls.Name_function_global I.ok.kind hg (Calls.loadGlobal_global (by rw [I.ok.glob]; exact I.mod.glob.keeps I.bk) hm h) hd
theorem jM {E:Value -> Shared -> Prop} {pins:List (Addr × Obj)} {s:Shared} {σ:St} {H:Hp} {x:Str} {u:Value} {pos:Pos} {Q:Value -> Shared -> Prop} (I:Inv X pins σ H s) (hg:Gl X x) (hm:X.mg x = none) (hv:bootBuiltins x = some u) (h:Q u s)
  (hn:x ≠ "__name__":=by decide) (hd:(x == ("__debug__":Str)) = false:=by decide):wpAny (model X.prog X.w) X.A (eval (.Name x pos) X.env) Q E s:=by
 obtain ⟨mb,h1,h2⟩:=I.mod.blt
 exact Calls.Name_function_global I.ok.kind hg (Calls.loadGlobal_builtin (by rw [I.ok.glob]; exact I.mod.glob.keeps I.bk) hm (by rw [I.ok.blt]; exact h1.keeps I.bk) ((h2 x hn).trans hv) h) hd
theorem pe_glob {x:Str} {v:V} {u:Value} {pos:Pos} (hg:Gl X x) (hm:X.mg x = some u) (r:RelV v u) (hd:(x == ("__debug__":Str)) = false:=by decide):PE X (.Name x pos) (tC v) :=
 fun _ _ _ H _ I h=>ld_glob I hg hm ⟨v,H,I,r,h⟩ hd
theorem pe_bltn {x:Str} {v:V} {u:Value} {pos:Pos} (hg:Gl X x) (hm:X.mg x = none) (hv:bootBuiltins x = some u) (r:RelV v u) (hn:x ≠ "__name__":=by decide) (hd:(x == ("__debug__":Str)) = false:=by decide):PE X (.Name x pos) (tC v) :=
 fun _ _ _ H _ I h=>jM I hg hm hv ⟨v,H,I,r,h⟩ hn hd
variable {a b:Expr} {ta tb:TE} {pos:Pos}
def PC (X:Cx) (op:CmpOp) (a b:Expr) (t:TE):Prop :=
 ∀ (pins:List (Addr × Obj)) (s:Shared) (σ:St) (H:Hp) (Q:VK),Inv X pins σ H s -> t σ H Q ->
  wpAny (model X.prog X.w) X.A (eval a X.env) (fun v s₁=>wpAny (model X.prog X.w) X.A (eval b X.env) (fun u s₂=>wpAny (model X.prog X.w) X.A (compareOp op v u) (EP X pins σ Q) X.xe s₂) X.xe s₁) X.xe s
variable {tA tB':TT} {rest:List Expr}
def tAnd (t u:TT):TT:=fun σ H Q=>t σ H fun c H1=>if c = true then u σ H1 Q else Q false H1
def tOr (t u:TT):TT:=fun σ H Q=>t σ H fun c H1=>if c = true then Q true H1 else u σ H1 Q
def tNot (t:TT):TT:=fun σ H Q=>t σ H fun c H1=>Q (!c) H1
theorem jQ (ha:PT X a tA):PW X (.BoolOp .And [a] pos) tA:=by
 intro wh pins s σ H Q I h
 refine isTrue_and (thn (ha pins s σ H Q I h) fun c s1 e=>?_)
 cases c with
 | true=>exact isTrue_and_nil e
 | false=>exact e
theorem y6 (ha:PT X a tA):PW X (.BoolOp .Or [a] pos) tA:=by
 intro wh pins s σ H Q I h
 refine isTrue_or (thn (ha pins s σ H Q I h) fun c s1 e=>?_)
 cases c with
 | false=>exact isTrue_or_nil e
 | true=>exact e
theorem pw_and (ha:PT X a tA) (hb:PW X (.BoolOp .And (b :: rest) pos) tB'):PW X (.BoolOp .And (a :: b :: rest) pos) (tAnd tA tB'):=by
 intro wh pins s σ H Q I h
 refine isTrue_and (thn (ha pins s σ H _ I h) fun c s1 ⟨H1,I1,q1⟩=>?_)
 cases c with
 | true=>exact hb wh pins s1 σ H1 Q I1 q1
 | false=>exact ⟨H1,I1,q1⟩
theorem xH (ha:PT X a tA) (hb:PW X (.BoolOp .Or (b :: rest) pos) tB'):PW X (.BoolOp .Or (a :: b :: rest) pos) (tOr tA tB'):=by
 intro wh pins s σ H Q I h
 refine isTrue_or (thn (ha pins s σ H _ I h) fun c s1 ⟨H1,I1,q1⟩=>?_)
 cases c with
 | true=>exact ⟨H1,I1,q1⟩
 | false=>exact hb wh pins s1 σ H1 Q I1 q1
theorem pt_not (ha:PT X a tA):PT X (.UnaryOp .Not a pos) (tNot tA):=by
 intro pins s σ H Q I h
 exact isTrue_not (ha pins s σ H (fun c H1=>Q (!c) H1) I h)
def tAndV (ta tb:TE):TE:=fun σ H Q=>ta σ H fun x H1=>∃ c,x = .bl c /\ if c = true then tb σ H1 Q else Q (.bl false) H1
theorem pe_one {op} {t:TE} (h:PE X a t):PE X (.BoolOp op [a] pos) t:=fun pins s σ H Q I hw=>BoolOp_one (h pins s σ H Q I hw)
theorem pe_and (ha:PE X a ta) (hb:PE X (.BoolOp .And (b :: rest) pos) tb):PE X (.BoolOp .And (a :: b :: rest) pos) (tAndV ta tb):=by
 intro pins s σ H Q I h
 refine BoolOp_and (thn (ha pins s σ H _ I h) fun v s1 ⟨x,H1,I1,r1,q1⟩=>?_)
 obtain ⟨c,rfl,q1⟩:=q1
 cases r1
 refine wpAny_truthy_bool ?_
 cases c with
 | true=>exact hb pins s1 σ H1 Q I1 q1
 | false=>exact ⟨.bl false,H1,I1,rfl,q1⟩
def tIf (t:TT) (ta tb:TE):TE:=fun σ H Q=>t σ H fun c H1=>if c = true then ta σ H1 Q else tb σ H1 Q
theorem pe_ifExp {c:Expr} (hc:PT X c tA) (ha:PE X a ta) (hb:PE X b tb):PE X (.IfExp c a b pos) (tIf tA ta tb):=by
 intro pins s σ H Q I h
 refine wpAny_IfExp (thn (hc pins s σ H _ I h) fun d s1 ⟨H1,I1,q1⟩=>?_)
 cases d with
 | true=>exact ha pins s1 σ H1 Q I1 q1
 | false=>exact hb pins s1 σ H1 Q I1 q1
end
end L2
namespace L2
open PySem PySem.Spec PyProof.Rows
def SqL (K:PySem.W.Frag) (H:Hp) (a:Addr) (xs:List V):Prop :=
 Rd H a (.lst xs) \/
  ∃ (o:Obj) (its:Array Value) (n:Nat),K.lookup a = some o /\ o.cls = .type "list" /\ o.dict = none /\ o.data = .seq its n /\ its.size <= sizeLine /\ Vals xs its.toList
def SqT (K:PySem.W.Frag) (H:Hp) (a:Addr) (xs:List V):Prop :=
 Rd H a (.tup xs) \/
  ∃ (o:Obj) (its:Array Value) (n:Nat),K.lookup a = some o /\ o.cls = .type "tuple" /\ o.data = .seq its n /\ its.size <= sizeLine /\ Vals xs its.toList
def absV:Value -> Option V
 | .none=>some .non
 | .bool b=>some (.bl b)
 | .int i _=>some (.int i)
 | .str x _=>some (.str x)
 | .bytes b _=>some (.byt b)
 | .float b _=>some (.flt b)
 | .ref a=>some (.ref a)
 | .type n=>some (.ty n)
 | _=>none
theorem RelV.abs {x:V} {u:Value} (r:RelV x u):absV u = some x:=by
 cases x with
 | non=>cases r; rfl
 | bl _=>cases r; rfl
 | int _=>obtain ⟨t,rfl⟩:=r; rfl
 | str _=>obtain ⟨t,rfl⟩:=r; rfl
 | byt _=>obtain ⟨t,rfl⟩:=r; rfl
 | flt _=>obtain ⟨t,rfl⟩:=r; rfl
 | ref _=>cases r; rfl
 | ty _=>cases r; rfl
theorem RelV.inj {x y:V} {u:Value} (r:RelV x u) (q:RelV y u):x = y:=Option.some.inj (r.abs.symm.trans q.abs)
theorem Vals.inj:∀ {xs ys:List V} {us:List Value},Vals xs us -> Vals ys us -> xs = ys
 | _,_,_,.nil,.nil=>rfl
 | _,_,_,.cons r t,.cons r' t'=>by rw [r.inj r',Vals.inj t t']
section
variable {X:Cx} {pins:List (Addr × Obj)} {σ:St} {H:Hp} {s:Shared} {a:Addr} {xs ys:List V}
theorem SqL.of {K:PySem.W.Frag} (h:H a = some (.lst xs)):SqL K H a xs:=.inl (.inl h)
theorem SqT.of {K:PySem.W.Frag} (h:H a = some (.tup xs)):SqT K H a xs:=.inl (.inl h)
theorem Inv.list (I:Inv X pins σ H s) (h:SqL X.K H a xs):∃ its:List Value,Vals xs its /\ PlainL s.heap a its.toArray /\ xs.length <= sizeLine:=by
 rcases h with h | ⟨o,its,n,hk,hc,hd,hs,hz,r⟩
 ·obtain ⟨z,its,n,r,e⟩:=h.ok I.hok
  exact ⟨its,r,⟨_,n,e,rfl,rfl,rfl⟩,z⟩
 ·refine ⟨its.toList,r,⟨o,n,I.kIn a o hk,hc,hd,by simpa using hs⟩,?_⟩
  have e:=r.length
  simp only [Array.length_toList] at e
  omega
theorem Inv.tuple (I:Inv X pins σ H s) (h:SqT X.K H a xs):∃ its:List Value,Vals xs its /\ IsTup s.heap a its.toArray /\ xs.length <= sizeLine:=by
 rcases h with h | ⟨o,its,n,hk,hc,hs,hz,r⟩
 ·obtain ⟨z,its,r,p⟩:=h.ok I.hok
  exact ⟨its,r,p,z⟩
 ·refine ⟨its.toList,r,⟨o,I.kIn a o hk,hc,n,by simpa using hs⟩,?_⟩
  have e:=r.length
  simp only [Array.length_toList] at e
  omega
theorem Inv.list_inj (I:Inv X pins σ H s) (h:SqL X.K H a xs) (h':SqL X.K H a ys):xs = ys:=by
 obtain ⟨its,r,⟨o,n,e,_,_,d⟩,_⟩:=I.list h
 obtain ⟨its',r',⟨o',n',e',_,_,d'⟩,_⟩:=I.list h'
 rw [e] at e'; cases e'
 rw [d] at d'
 injection d' with d1 _
 have:its = its':=by simpa using congrArg Array.toList d1
 subst this
 exact r.inj r'
theorem Inv.tuple_inj (I:Inv X pins σ H s) (h:SqT X.K H a xs) (h':SqT X.K H a ys):xs = ys:=by
 obtain ⟨its,r,⟨o,e,_,n,d⟩,_⟩:=I.tuple h
 obtain ⟨its',r',⟨o',e',_,n',d'⟩,_⟩:=I.tuple h'
 rw [e] at e'; cases e'
 rw [d] at d'
 injection d' with d1 _
 have:its = its':=by simpa using congrArg Array.toList d1
 subst this
 exact r.inj r'
end
abbrev Cx.wish (X:Cx) (E:Value -> Shared -> Prop):Cx:={ X with xe:=E }
abbrev Cx.nox (X:Cx):Cx:=X.wish fun _ _=>False
theorem Cx.Ok.wish {X:Cx} (ok:X.Ok) (E:Value -> Shared -> Prop):(X.wish E).Ok :=
 ⟨ok.mod,ok.kind,ok.glob,ok.blt,ok.above,ok.inj,ok.has,ok.cab,ok.hd,ok.frames,ok.stk,ok.exf,ok.bs,ok.bsz,ok.noex,ok.exfs,ok.funs,ok.frf⟩
theorem Cx.Ok.unwish {X:Cx} {E:Value -> Shared -> Prop} (ok:(X.wish E).Ok):X.Ok :=
 ⟨ok.mod,ok.kind,ok.glob,ok.blt,ok.above,ok.inj,ok.has,ok.cab,ok.hd,ok.frames,ok.stk,ok.exf,ok.bs,ok.bsz,ok.noex,ok.exfs,ok.funs,ok.frf⟩
section
variable {X:Cx} {pins:List (Addr × Obj)} {σ:St} {H:Hp} {s:Shared} {E:Value -> Shared -> Prop}
theorem Inv.wish (I:Inv X pins σ H s) (E:Value -> Shared -> Prop):Inv (X.wish E) pins σ H s:=⟨I.ok.wish E,I.os,I.bare,I.base,I.loc,I.cell,I.free,I.freeC,I.pin,I.hok,I.len⟩
theorem Inv.unwish (I:Inv (X.wish E) pins σ H s):Inv X pins σ H s:=⟨I.ok.unwish,I.os,I.bare,I.base,I.loc,I.cell,I.free,I.freeC,I.pin,I.hok,I.len⟩
theorem SP.unwish {D:Ends} {f:Flow} {s':Shared} (h:SP (X.wish E) pins D f s'):SP X pins D f s':=by
 cases f with
 | next=>obtain ⟨σ',H',I,q⟩:=h; exact ⟨σ',H',I.unwish,q⟩
 | brk=>obtain ⟨σ',H',I,q⟩:=h; exact ⟨σ',H',I.unwish,q⟩
 | cont=>obtain ⟨σ',H',I,q⟩:=h; exact ⟨σ',H',I.unwish,q⟩
 | ret u=>obtain ⟨v,σ',H',I,r,q⟩:=h; exact ⟨v,σ',H',I.unwish,r,q⟩
theorem PSs.nox {st:List Stmt} {t:TS} (h:PSs X.nox st t):PSs X st t:=fun pins s σ H D I hw =>
 wpAny_mono (h pins s σ H D (I.wish _) hw) (fun _ _ q=>q.unwish) fun _ _ z=>False.elim z
end
section
variable {X:Cx} {st:Stmt} {rest:List Stmt} {t u:TS} {e:Expr} {te:TE} {pos:Pos}
def tNext:TS:=fun D σ H=>D.nx σ H
def tSeq (t u:TS):TS:=fun D σ H=>t { D with nx:=u D } σ H
theorem zT:PSs X [] tNext:=fun _ _ σ H _ I h=>wpAny_execs_nil ⟨σ,H,I,h⟩
theorem zB (h1:PS X st t) (h2:PSs X rest u):PSs X (st :: rest) (tSeq t u):=by
 intro pins s σ H D I h
 refine wpAny_execs_cons (thn (h1 pins s σ H { D with nx:=u D } I h) fun f s1 q=>?_)
 cases f with
 | next =>
  obtain ⟨σ',H',I',q⟩:=q
  exact h2 pins s1 σ' H' D I' q
 | ret v=>exact q
 | brk=>exact q
 | cont=>exact q
theorem zE (h1:PS X st t):PSs X [st] t:=by
 intro pins s σ H D I h
 refine wpAny_execs_cons (thn (h1 pins s σ H D I h) fun f s1 q=>?_)
 cases f with
 | next=>exact wpAny_execs_nil q
 | ret v=>exact q
 | brk=>exact q
 | cont=>exact q
theorem Inv.quiet {pins:List (Addr × Obj)} {σ:St} {H:Hp} {s:Shared} (I:Inv X pins σ H s):interactive X.env = false:=by simp [interactive,I.ok.kind]
def tDrop (te:TE):TS:=fun D σ H=>te σ H fun _ H1=>D.nx σ H1
theorem z6 (he:PE X e te) (hs:swapsWith e none pos.line X.env = pure false:=by rfl):PS X (.Expr e pos) (tDrop te):=by
 intro pins s σ H D I h
 exact wpAny_Expr_any (thn (he pins s σ H _ I h) fun v s1 ⟨x,H1,I1,r1,q1⟩=>⟨σ,H1,I1,q1⟩) I.quiet hs
def tRet (te:TE):TS:=fun D σ H=>te σ H D.rt
theorem zP (he:PE X e te):PS X (.Return (some e) pos) (tRet te):=by
 intro pins s σ H D I h
 exact wpAny_Return_some (thn (he pins s σ H _ I h) fun v s1 ⟨x,H1,I1,r1,q1⟩=>⟨x,σ,H1,I1,r1,q1⟩)
def tIfS (c:TT) (t u:TS):TS:=fun D σ H=>c σ H fun b H1=>if b = true then t D σ H1 else u D σ H1
theorem z5 {c:Expr} {a b:List Stmt} {tc:TT} (hc:PT X c tc) (ha:PSs X a t) (hb:PSs X b u):PS X (.If c a b pos) (tIfS tc t u):=by
 intro pins s σ H D I h
 refine wpAny_If (thn (hc pins s σ H _ I h) fun d s1 ⟨H1,I1,q1⟩=>?_)
 cases d with
 | true=>exact ha pins s1 σ H1 D I1 q1
 | false=>exact hb pins s1 σ H1 D I1 q1
end
abbrev TG:=V -> St -> Hp -> (St -> Hp -> Prop) -> Prop
abbrev TGs:=List V -> St -> Hp -> (St -> Hp -> Prop) -> Prop
def PG (X:Cx) (target:Expr) (t:TG):Prop :=
 ∀ (pins:List (Addr × Obj)) (s:Shared) (σ:St) (H:Hp) (v:V) (u:Value) (Q:St -> Hp -> Prop),Inv X pins σ H s -> RelV v u -> t v σ H Q ->
  wpAny (model X.prog X.w) X.A (assign target X.env u) (fun _ s'=>∃ σ' H',Inv X pins σ' H' s' /\ Q σ' H') X.xe s
def PGs (X:Cx) (ts:List Expr) (t:TGs):Prop :=
 ∀ (pins:List (Addr × Obj)) (s:Shared) (σ:St) (H:Hp) (vs:List V) (us:List Value) (Q:St -> Hp -> Prop),Inv X pins σ H s -> Vals vs us -> t vs σ H Q ->
  wpAny (model X.prog X.w) X.A (assignInOrder ((assignEach ts X.env).map (·.2)) us) (fun _ s'=>∃ σ' H',Inv X pins σ' H' s' /\ Q σ' H') X.xe s
abbrev TSet:=V -> V -> V -> Hp -> (Hp -> Prop) -> Prop
def PSet (X:Cx) (t:TSet):Prop :=
 ∀ (pins:List (Addr × Obj)) (s:Shared) (σ:St) (H:Hp) (o i v:V) (ov iv u:Value) (Q:Hp -> Prop),Inv X pins σ H s -> RelV o ov -> RelV i iv -> RelV v u -> t o i v H Q ->
  wpAny (model X.prog X.w) X.A (setItem ov iv u) (fun _ s'=>∃ H',Inv X pins σ H' s' /\ Q H') X.xe s
abbrev TIp:=V -> V -> Hp -> VK -> Prop
def PIp (X:Cx) (op:Operator) (t:TIp):Prop :=
 ∀ (pins:List (Addr × Obj)) (s:Shared) (σ:St) (H:Hp) (x y:V) (v u:Value) (Q:VK),Inv X pins σ H s -> RelV x v -> RelV y u -> t x y H Q ->
  wpAny (model X.prog X.w) X.A (inplaceOp op v u) (EP X pins σ Q) X.xe s
section
variable {X:Cx} {pos:Pos}
def gName (i:Nat):TG:=fun v σ H Q=>Q (σ.set i (some v)) H
theorem zM {i:Nat} {x:Str} (hN:X.N.Nodup) (hi:X.N[i]? = some x) (hx:Loc X.env.scope x) (hf:X.fn x = true \/ X.env.scope.names.lookup x = some .local:=by first | exact .inl rfl | exact .inr rfl | assumption):PG X (.Name x pos) (gName i):=by
 intro pins s σ H v u Q I r h
 exact wpAny_assign_Name (store_ok I hN hi hx r (fun s' I'=>⟨_,H,I',h⟩) hf)
def gNil:TGs:=fun vs σ H Q=>vs = [] /\ Q σ H
def gCons (t:TG) (u:TGs):TGs:=fun vs σ H Q=>∃ v r,vs = v :: r /\ t v σ H fun σ' H'=>u r σ' H' Q
theorem qE:PGs X [] gNil:=by
 intro pins s σ H vs us Q I r h
 obtain ⟨e,h⟩:=h
 subst e
 cases r
 exact assignInOrder_nil ⟨σ,H,I,h⟩
theorem zY {e:Expr} {es:List Expr} {t:TG} {u:TGs} (h1:PG X e t) (h2:PGs X es u)
  (hs:(assignEach (e :: es) X.env).map (·.2) = assign e X.env :: (assignEach es X.env).map (·.2):=by rfl):PGs X (e :: es) (gCons t u):=by
 intro pins s σ H vs us Q I r h
 obtain ⟨v,vr,e1,h⟩:=h
 subst e1
 cases r with
 | cons r rr =>
  rw [hs]
  refine assignInOrder_cons (thn (h1 pins s σ H _ _ _ I r h) fun _ s1 ⟨σ1,H1,I1,q1⟩=>?_)
  exact h2 pins s1 σ1 H1 _ _ Q I1 rr q1
def gTup (K:PySem.W.Frag) (n:Nat) (t:TGs):TG:=fun v σ H Q=>∃ a xs,v = .ref a /\ SqT K H a xs /\ xs.length = n /\ t xs σ H Q
theorem jN {es:List Expr} {k:Nat} {t:TGs} {n:Nat} (hc:X.calm = true) (h:PGs X es t)
  (hn:(assignEach es X.env).length = n:=by rfl) (hst:(assignEach es X.env).findIdx? (·.1) = none:=by rfl):PG X (.Tuple es k pos) (gTup X.K n t):=by
 intro pins s σ H v u Q I r hw
 obtain ⟨a,xs,e1,hq,hl,hw⟩:=hw
 subst e1
 cases r
 obtain ⟨its,rv,ht,hz⟩:=I.tuple hq
 refine assign_Tuple_tuple (I.ok.hd hc) ht (by simp [hn,← hl,rv.length]) hst fun h' hx=>?_
 have I1:Inv X pins σ H { s with heap:=h' }:=I.kept (t':=s.toks) fun b o e=>hx b o (Nat.ne_of_lt (Heap.lt_size e)) e
 exact h pins _ σ H xs _ Q I1 (by simpa using rv) hw
def gSub (to ti:TE) (t:TSet):TG:=fun v σ H Q=>to σ H fun o H1=>ti σ H1 fun i H2=>t o i v H2 fun H3=>Q σ H3
theorem pg_sub {o i:Expr} {to ti:TE} {t:TSet} (ho:PE X o to) (hi:PE X i ti) (hs:PSet X t)
  (ha:∀ v,assign (.Subscript o i pos) X.env v = (do
   let ov ← holding [v] (eval o X.env)
   let iv ← holding [v,ov] (eval i X.env)
   standAt pos
   holding [v,ov,iv] (setItem ov iv v)
   release [v,ov,iv] []):=by intro _; rfl):PG X (.Subscript o i pos) (gSub to ti t):=by
 intro pins s σ H v u Q I r h
 rw [ha]
 refine wpAny_bind (wpAny_holding (thn (ho pins s σ H _ I h) fun ov s1 ⟨x,H1,I1,r1,q1⟩=>?_))
 refine wpAny_bind (wpAny_holding (thn (hi pins s1 σ H1 _ I1 q1) fun iv s2 ⟨y,H2,I2,r2,q2⟩=>?_))
 refine wpAny_bind (wpAny_standAt (wpAny_bind (wpAny_holding (thn (hs pins s2 σ H2 x y v ov iv u _ I2 r1 r2 r q2) fun _ s3 ⟨H3,I3,q3⟩=>?_))))
 exact wpAny_release ⟨σ,H3,I3,q3⟩
def tAsg (te:TE) (g:TG):TS:=fun D σ H=>te σ H fun x H1=>g x σ H1 D.nx
theorem ps_asg {tg e:Expr} {te:TE} {g:TG} (he:PE X e te) (hg:PG X tg g) (hs:swapsWithSole [tg] e pos.line X.env = pure false:=by rfl) (hw:swappedStores [tg] e X.env = pure none:=by rfl)
  (h1:(assignEach [tg] X.env).map (·.2) = [assign tg X.env]:=by rfl):PS X (.Assign [tg] e pos) (tAsg te g):=by
 intro pins s σ H D I h
 refine wpAny_Assign_stores (thn (he pins s σ H _ I h) fun v s1 ⟨x,H1,I1,r1,q1⟩=>?_) hs hw
 rw [h1]
 exact thn (hg pins s1 σ H1 x v _ I1 r1 q1) fun _ s2 q=>q
theorem zO {i:Nat} {x:Str} {e:Expr} {te:TE} {pos':Pos} (hN:X.N.Nodup) (hi:X.N[i]? = some x) (hx:Loc X.env.scope x) (he:PE X e te) (hs:swapsWith e (some (.Name x pos')) pos.line X.env = pure false:=by rfl) (hf:X.fn x = true \/ X.env.scope.names.lookup x = some .local:=by first | exact .inl rfl | exact .inr rfl | assumption) :
  PS X (.Assign [.Name x pos'] e pos) (tAsg te (gName i)):=by
 intro pins s σ H D I h
 refine wpAny_Assign_Name (thn (he pins s σ H _ I h) fun v s1 ⟨y,H1,I1,r1,q1⟩=>?_) hs
 exact store_ok I1 hN hi hx r1 (fun s2 I2=>⟨_,H1,I2,q1⟩) hf
def tAug (i:Nat) (te:TE) (ti:TIp):TS:=fun D σ H=>∃ x,σ[i]? = some (some x) /\ te σ H fun y H1=>ti x y H1 fun z H2=>D.nx (σ.set i (some z)) H2
theorem ps_aug {i:Nat} {x:Str} {e:Expr} {te:TE} {op:Operator} {ti:TIp} {pos':Pos} (hN:X.N.Nodup) (hi:X.N[i]? = some x) (hx:Loc X.env.scope x) (he:PE X e te) (ho:PIp X op ti) (hf:X.fn x = true \/ X.env.scope.names.lookup x = some .local:=by first | exact .inl rfl | exact .inr rfl | assumption) :
  PS X (.AugAssign (.Name x pos') op e pos) (tAug i te ti):=by
 intro pins s σ H D I h
 obtain ⟨v,e1,h⟩:=h
 obtain ⟨m,hn,hl⟩:=I.loc
 have vis:Vis X.env.scope x:=by rcases hx with k | k; exact .inl k; exact .inr (.inl k)
 obtain ⟨u,r,l⟩:=hl i x v hi e1 vis
 refine wpAny_AugAssign_Name ?_
 have go:wpAny (model X.prog X.w) X.A (eval e X.env) (fun w s₂=>wpAny (model X.prog X.w) X.A (inplaceOp op u w) (fun r s₃=>wpAny (model X.prog X.w) X.A (storeName X.env x r) (fun _=>SP X pins D .next) X.xe s₃) X.xe s₂) X.xe s:=by
  refine thn (he pins s σ H _ I h) fun w s1 ⟨y,H1,I1,r1,q1⟩=>?_
  refine thn (ho pins s1 σ H1 v y u w _ I1 r r1 q1) fun z s2 ⟨zv,H2,I2,r2,q2⟩=>?_
  exact store_ok I2 hN hi hx r2 (fun s3 I3=>⟨_,H2,I3,q2⟩) hf
 rcases l with ⟨hk,hm⟩ | ⟨hk,c,hc,hcell⟩
 ·exact wpAny_loadName_local I.ok.kind hk hn hm go
 ·rcases hk with hk | hk
  ·exact wpAny_loadName_cell I.ok.kind hk hc hcell go
  ·rcases hx with k | k
   ·have:X.env.scope.names.lookup x = some .free:=hk
    rw [k] at this; cases this
   ·have:X.env.scope.names.lookup x = some .free:=hk
    rw [k] at this; cases this
def ipI (f:Int -> Int -> Int):TIp:=fun x y H Q=>∃ i j,x = .int i /\ y = .int j /\ Q (.int (f i j)) H
theorem ip_add:PIp X .Add (ipI fun i j=>i + j):=by
 intro pins s σ H x y v u Q I r1 r2 h
 obtain ⟨i,j,e1,e2,q⟩:=h
 subst e1; subst e2
 obtain ⟨t,rfl⟩:=r1
 obtain ⟨t',rfl⟩:=r2
 exact iadd_int ⟨.int _,H,I.tok _,⟨_,rfl⟩,q⟩
end
section
variable {X:Cx} {pos:Pos}
def tWhile (c:TT) (tb:TS):TS:=fun D σ H=>∃ W:Nat -> St -> Hp -> Prop,(∃ m,W m σ H) /\ ∀ m σ H,W m σ H ->
 c σ H fun b H1=>if b = true then ∃ N:St -> Hp -> Prop,(∀ σ' H',N σ' H' -> ∃ m',m' < m /\ W m' σ' H') /\ tb { D with nx:=N,ct:=N,bk:=D.nx } σ H1 else D.nx σ H1
theorem ps_while {c:Expr} {body:List Stmt} {tc:TT} {tb:TS} (hp:PassesOwn (model X.prog X.w) X.A X.env X.xe) (hc:PT X c tc) (hb:PSs X body tb):PS X (.While c body [] pos) (tWhile tc tb):=by
 intro pins s σ H D I h
 obtain ⟨W,⟨m0,w0⟩,turn⟩:=h
 refine wpAny_While (codeAny_whileLoop (fun n s'=>∃ σ' H',Inv X pins σ' H' s' /\ W n σ' H') ?_ m0 ⟨σ,H,I,w0⟩)
 rintro n s1 ⟨σ1,H1,I1,w1⟩
 refine wpAny_passesOwn hp (thn (hc pins s1 σ1 H1 _ I1 (turn n σ1 H1 w1)) fun b s2 ⟨H2,I2,q2⟩=>?_)
 cases b with
 | true =>
  obtain ⟨N,hN,q2⟩:=q2
  rw [if_pos rfl]
  refine wpAny_passesOwn hp (thn (hb pins s2 σ1 H2 _ I2 q2) fun f s3 q3=>?_)
  cases f with
  | next =>
   obtain ⟨σ3,H3,I3,n3⟩:=q3
   obtain ⟨m',hm,w3⟩:=hN σ3 H3 n3
   exact ⟨m',hm,σ3,H3,I3,w3⟩
  | cont =>
   obtain ⟨σ3,H3,I3,n3⟩:=q3
   obtain ⟨m',hm,w3⟩:=hN σ3 H3 n3
   exact ⟨m',hm,σ3,H3,I3,w3⟩
  | brk=>exact q3
  | ret v=>exact q3
 | false =>
  rw [if_neg Bool.false_ne_true]
  exact wpAny_execs_nil ⟨σ1,H2,I2,q2⟩
end
structure It where
 go:Nat -> Hp -> Prop
 yld:Nat -> Hp -> V -> Hp -> Prop
 stop:Nat -> Hp -> Prop
def FpOk (X:Cx) (pins:List (Addr × Obj)) (H:Hp) (b:Addr):Prop :=
 H b = none /\ b ≠ X.env.locals /\ b ∉ X.fs /\ (b ∈ X.ex \/ X.s₀.heap.objs.size <= b) /\ (∀ x c,X.env.cells.lookup x = some c -> c ≠ b) /\ ∀ p ∈ X.pn ++ pins,p.1 ≠ b
theorem Inv.fpOk {X:Cx} {pins:List (Addr × Obj)} {σ:St} {H H':Hp} {s:Shared} {b:Addr} (I:Inv X pins σ H s) (hb:s.heap.objs.size <= b) (hn:H' b = none):FpOk X pins H' b:=by
 refine ⟨hn,Nat.ne_of_gt (Nat.lt_of_lt_of_le I.lt hb),I.nofs hb,.inr (Nat.le_trans I.sz hb),fun x c e z=>?_,fun p hp z=>?_⟩
 ·obtain ⟨v,q⟩:=I.cell x c e
  exact absurd (Nat.lt_of_lt_of_le q.lt (by rw [z]; exact hb)) (Nat.lt_irrefl _)
 ·exact absurd (Nat.lt_of_lt_of_le (Heap.lt_size (I.pin p hp).1) (by rw [z]; exact hb)) (Nat.lt_irrefl _)
structure Turn (P:Program) (w:World) (K:PySem.W.Frag) (tg:Expr) (J:It) (fp:List Addr) (it:Addr) (tn:Nat -> Heap -> Prop):Prop where
 mem:it ∈ fp
 obj:∀ i h,tn i h -> ∀ b ∈ fp,∃ o,h.get? b = some o /\ ∀ v,o.data ≠ .cell v
 keep:∀ i h h',tn i h -> (∀ b ∈ fp,∀ o,h.get? b = some o -> h'.get? b = some o) -> tn i h'
 item:∀ (X:Cx),X.prog = P -> X.w = w -> X.K = K -> X.calm = true -> ∀ (i:Nat) (pins:List (Addr × Obj)) (s:Shared) (σ:St) (H:Hp) (E:Value -> Shared -> Prop),Inv X pins σ H s -> (∀ b ∈ fp,FpOk X pins H b) -> tn i s.heap -> J.go i H ->
  wpAny (model P w) X.A (pyNext (.ref it)) (fun r s1=>∃ u,r = some u /\
   wpAny (model P w) X.A (letOwnedTupleGo tg (.ref it) u) (fun _ s2=>∃ x H',Inv X pins σ H' s2 /\ RelV x u /\ J.yld i H x H' /\ tn (i + 1) s2.heap /\ ∀ b ∈ fp,H' b = none) E s1) E s
 done:∀ (X:Cx),X.prog = P -> X.w = w -> X.K = K -> X.calm = true -> ∀ (i:Nat) (pins:List (Addr × Obj)) (s:Shared) (σ:St) (H:Hp) (E:Value -> Shared -> Prop),Inv X pins σ H s -> (∀ b ∈ fp,FpOk X pins H b) -> tn i s.heap -> J.stop i H ->
  wpAny (model P w) X.A (pyNext (.ref it)) (fun r s1=>r = none /\ Inv X pins σ H s1) E s
 self:∀ (A:Around) (i:Nat) (s:Shared) (Q:Value -> Shared -> Prop) (E:Value -> Shared -> Prop),tn i s.heap -> Q (.ref it) s -> wpAny (model P w) A (pyIter (.ref it)) Q E s
abbrev TI:=St -> Hp -> (It -> Hp -> Prop) -> Prop
def PIE (X:Cx) (pins:List (Addr × Obj)) (σ:St) (tg:Expr) (R:It -> Hp -> Prop) (itv:Value) (s2:Shared):Prop :=
 ∃ (it:Addr) (fp:List Addr) (tn:Nat -> Heap -> Prop) (J:It) (H':Hp),itv = .ref it /\ Inv X pins σ H' s2 /\ Turn X.prog X.w X.K tg J fp it tn /\ tn 0 s2.heap /\ (∀ b ∈ fp,FpOk X pins H' b) /\ R J H'
def PI (X:Cx) (tg iter:Expr) (wi:TI):Prop :=
 ∀ (pins:List (Addr × Obj)) (s:Shared) (σ:St) (H:Hp) (R:It -> Hp -> Prop),Inv X pins σ H s -> wi σ H R ->
  wpAny (model X.prog X.w) X.A (eval iter X.env) (fun v s1=>wpAny (model X.prog X.w) X.A (pyIter v) (PIE X pins σ tg R) X.xe s1) X.xe s
theorem go_of {M:Model} {A:Around} {E:Value -> Shared -> Prop} {s:Shared} {tg:Expr} {it:Addr} {u:Value} {o:Obj} {n:String} {vs:Array Value} {Q:Unit -> Shared -> Prop} (ho:s.heap.get? it = some o) (hc:o.cls = .type n) (hd:o.data = .fields vs)
  (hn:["enumerate","zip","dict_itemiterator","dict_reverseitemiterator","odict_iterator","itertools.zip_longest","itertools.pairwise"].contains n = false) (hQ:Q () s):wpAny M A (letOwnedTupleGo tg (.ref it) u) Q E s:=by
 unfold letOwnedTupleGo
 cases tg <;> first
  | exact wpAny_pure hQ
  | (cases u <;> first
    | exact wpAny_pure hQ
    | (refine wpAny_bind (wpAny_load ho ?_)
       rw [hc,hd]
       show wpAny M A (if (["enumerate","zip","dict_itemiterator","dict_reverseitemiterator","odict_iterator","itertools.zip_longest","itertools.pairwise"].contains n && vs[0]? == some (rawInt _)) = true then _ else _) Q E s
       rw [if_neg (by intro h; rw [hn,Bool.false_and] at h; cases h)]
       exact wpAny_pure hQ))
def Itl (K:PySem.W.Frag) (a:Addr):It :=
 ⟨fun i H=>∃ xs x,SqL K H a xs /\ xs[i]? = some x,fun i H x H'=>H' = H /\ ∀ xs,SqL K H a xs -> xs[i]? = some x,fun i H=>∃ xs,SqL K H a xs /\ xs.length <= i⟩
def Itt (K:PySem.W.Frag) (a:Addr):It :=
 ⟨fun i H=>∃ xs x,SqT K H a xs /\ xs[i]? = some x,fun i H x H'=>H' = H /\ ∀ xs,SqT K H a xs -> xs[i]? = some x,fun i H=>∃ xs,SqT K H a xs /\ xs.length <= i⟩
def Itr (lo:Int) (n:Nat):It:=⟨fun i _=>i < n,fun i H x H'=>H' = H /\ x = .int (lo + i),fun i _=>n <= i⟩
theorem turn_list {P:Program} {w:World} {K:PySem.W.Frag} {tg:Expr} (a it:Addr):Turn P w K tg (Itl K a) [it] it (fun i h=>h.IsListIter it a i) where
 mem:=by simp
 obj:=fun i h st b hb=>by
  have e:b = it:=by simpa using hb
  subst e
  obtain ⟨o,e,c,d⟩:=st
  exact ⟨o,e,fun v z=>by rw [d] at z; cases z⟩
 keep:=fun i h h' st k=>st.at fun o e=>k it (by simp) o e
 item:=by
  intro X hP hw hK hc i pins s σ H E I hf st hg
  subst hP hw hK
  obtain ⟨xs,x,hq,hx⟩:=hg
  obtain ⟨its,rv,p,hz⟩:=I.list hq
  obtain ⟨u,hu,ru⟩:=rv.get hx
  obtain ⟨f0,f1,f2,f3,f4,f5⟩:=hf it (by simp)
  refine wpAny_pyNext_list_item st p.isList (x:=u) (by simpa using hu) fun h' st' sb=>?_
  have I1:Inv X pins σ H { s with heap:=h' }:=I.turned (t':=s.toks) (fun b o hb e=>(sb.2 b hb).trans e) f0 f1 f3 f4 f5
  obtain ⟨o,e,c,d⟩:=id st'
  exact ⟨u,rfl,go_of (s:={ s with heap:=h' }) e c d (by decide) ⟨x,H,I1,ru,⟨rfl,fun ys hy=>by rw [I.list_inj hy hq]; exact hx⟩,st',fun b hb=>(hf b hb).1⟩⟩
 done:=by
  intro X hP hw hK hc i pins s σ H E I hf st hg
  subst hP hw hK
  obtain ⟨xs,hq,hx⟩:=hg
  obtain ⟨its,rv,p,hz⟩:=I.list hq
  obtain ⟨f0,f1,f2,f3,f4,f5⟩:=hf it (by simp)
  have hl:=rv.length
  exact wpAny_pyNext_list_end (I.ok.hd hc) st p.isList (by simp; omega) fun h' eb=>⟨rfl,I.turned (t':=s.toks) (fun b o hb e=>eb b o hb e) f0 f1 f3 f4 f5⟩
 self:=fun _ _ _ _ _ st h=>wpAny_pyIter_listiter st h
theorem turn_tuple {P:Program} {w:World} {K:PySem.W.Frag} {tg:Expr} (a it:Addr):Turn P w K tg (Itt K a) [it] it (fun i h=>h.IsTupleIter it a i) where
 mem:=by simp
 obj:=fun i h st b hb=>by
  have e:b = it:=by simpa using hb
  subst e
  obtain ⟨o,e,c,d⟩:=st
  exact ⟨o,e,fun v z=>by rw [d] at z; cases z⟩
 keep:=fun i h h' st k=>st.at fun o e=>k it (by simp) o e
 item:=by
  intro X hP hw hK hc i pins s σ H E I hf st hg
  subst hP hw hK
  obtain ⟨xs,x,hq,hx⟩:=hg
  obtain ⟨its,rv,p,hz⟩:=I.tuple hq
  obtain ⟨u,hu,ru⟩:=rv.get hx
  obtain ⟨f0,f1,f2,f3,f4,f5⟩:=hf it (by simp)
  refine wpAny_pyNext_tuple_item st (show s.heap.IsTuple a its.toArray from p) (x:=u) (by simpa using hu) fun h' st' sb=>?_
  have I1:Inv X pins σ H { s with heap:=h' }:=I.turned (t':=s.toks) (fun b o hb e=>(sb.2 b hb).trans e) f0 f1 f3 f4 f5
  obtain ⟨o,e,c,d⟩:=id st'
  exact ⟨u,rfl,go_of (s:={ s with heap:=h' }) e c d (by decide) ⟨x,H,I1,ru,⟨rfl,fun ys hy=>by rw [I.tuple_inj hy hq]; exact hx⟩,st',fun b hb=>(hf b hb).1⟩⟩
 done:=by
  intro X hP hw hK hc i pins s σ H E I hf st hg
  subst hP hw hK
  obtain ⟨xs,hq,hx⟩:=hg
  obtain ⟨its,rv,p,hz⟩:=I.tuple hq
  obtain ⟨f0,f1,f2,f3,f4,f5⟩:=hf it (by simp)
  have hl:=rv.length
  exact wpAny_pyNext_tuple_end (I.ok.hd hc) st (show s.heap.IsTuple a its.toArray from p) (by simp; omega) fun h' eb=>⟨rfl,I.turned (t':=s.toks) (fun b o hb e=>eb b o hb e) f0 f1 f3 f4 f5⟩
 self:=fun _ _ _ _ _ st h=>wpAny_pyIter_tupleiter st h
theorem turn_range {P:Program} {w:World} {K:PySem.W.Frag} {tg:Expr} (it:Addr) (lo:Int) (n:Nat):Turn P w K tg (Itr lo n) [it] it (fun i h=>IsRangeIter h it (lo + (i:Nat) * 1) ((n:Int) - (i:Nat)) 1) where
 mem:=by simp
 obj:=fun i h st b hb=>by
  have e:b = it:=by simpa using hb
  subst e
  exact ⟨_,st,fun v z=>by
   have z':Data.fields _ = Data.cell v:=z
   cases z'⟩
 keep:=fun i h h' st k=>k it (by simp) _ st
 item:=by
  intro X hP hw hK hc i pins s σ H E I hf st hg
  subst hP hw hK
  obtain ⟨f0,f1,f2,f3,f4,f5⟩:=hf it (by simp)
  have W:=Walks.range (prog:=X.prog) (w:=X.w) (I.ok.hd hc) it lo 1 n
  refine W.item i s _ _ hg st fun v h' tk hv st' kk=>?_
  obtain ⟨t,rfl⟩:=hv
  have I1:Inv X pins σ H { s with heap:=h',toks:=tk }:=I.turned (fun b o hb e=>kk b o (by simpa using hb) e) f0 f1 f3 f4 f5
  refine ⟨_,rfl,go_of (s:={ s with heap:=h',toks:=tk }) (n:="range_iterator") st' rfl rfl (by decide) ⟨.int (lo + i),H,I1,⟨t,?_⟩,⟨rfl,rfl⟩,st',fun b hb=>(hf b hb).1⟩⟩
  rw [Int.mul_one]
 done:=by
  intro X hP hw hK hc i pins s σ H E I hf st hg
  subst hP hw hK
  obtain ⟨f0,f1,f2,f3,f4,f5⟩:=hf it (by simp)
  exact wpAny_pyNext_range_end (I.ok.hd hc) st (by have:n <= i:=hg; omega) fun h' eb=>⟨rfl,I.turned (t':=s.toks) (fun b o hb e=>eb b o hb e) f0 f1 f3 f4 f5⟩
 self:=fun _ _ _ _ _ st h=>wpAny_pyIter_rangeiter st h
end L2
namespace L2
open PySem PySem.Spec PyProof.Rows
section
variable {X:Cx} {tg:Expr}
def iList (K:PySem.W.Frag) (tl:TE):TI:=fun σ H R=>tl σ H fun x H1=>∃ a,x = .ref a /\ (∃ xs,SqL K H1 a xs) /\ R (Itl K a) H1
def iTup (K:PySem.W.Frag) (tl:TE):TI:=fun σ H R=>tl σ H fun x H1=>∃ a,x = .ref a /\ (∃ xs,SqT K H1 a xs) /\ R (Itt K a) H1
theorem z8 {l:Expr} {tl:TE} (hl:PE X l tl):PI X tg l (iList X.K tl):=by
 intro pins s σ H R I h
 refine thn (hl pins s σ H _ I h) fun v s1 ⟨x,H1,I1,r1,q1⟩=>?_
 obtain ⟨a,e,⟨xs,hq⟩,q⟩:=q1
 subst e
 cases r1
 obtain ⟨its,rv,p,hz⟩:=I1.list hq
 refine wpAny_pyIter_list p.isList ?_
 refine ⟨s1.heap.objs.size,[s1.heap.objs.size],_,_,H1,rfl,I1.kept (t':=s1.toks) fun b o e=>Heap.get?_push_of_some _ e,turn_list a _,⟨_,Heap.get?_push_size _ rfl,rfl,rfl⟩,fun b hb=>?_,q⟩
 have e:b = s1.heap.objs.size:=by simpa using hb
 subst e
 exact I1.fpOk (Nat.le_refl _) (I1.hok.fresh (Nat.le_refl _))
theorem pi_tup {l:Expr} {tl:TE} (hl:PE X l tl):PI X tg l (iTup X.K tl):=by
 intro pins s σ H R I h
 refine thn (hl pins s σ H _ I h) fun v s1 ⟨x,H1,I1,r1,q1⟩=>?_
 obtain ⟨a,e,⟨xs,hq⟩,q⟩:=q1
 subst e
 cases r1
 obtain ⟨its,rv,p,hz⟩:=I1.tuple hq
 refine wpAny_pyIter_tuple (show s1.heap.IsTuple a its.toArray from p) ?_
 refine ⟨s1.heap.objs.size,[s1.heap.objs.size],_,_,H1,rfl,I1.kept (t':=s1.toks) fun b o e=>Heap.get?_push_of_some _ e,turn_tuple a _,⟨_,Heap.get?_push_size _ rfl,rfl,rfl⟩,fun b hb=>?_,q⟩
 have e:b = s1.heap.objs.size:=by simpa using hb
 subst e
 exact I1.fpOk (Nat.le_refl _) (I1.hok.fresh (Nat.le_refl _))
theorem range_it {pins:List (Addr × Obj)} {σ:St} {H:Hp} {s:Shared} {R:It -> Hp -> Prop} {E:Value -> Shared -> Prop} {lo hi:Int} {t u v:Tok} {tk:Nat} (I:Inv X pins σ H s) (h1:-(2 ^ 62) <= lo) (h2:lo < 2 ^ 62) (h3:-(2 ^ 62) <= hi) (h4:hi < 2 ^ 62)
  (q:R (Itr lo (hi - lo).toNat) H):wpAny (model X.prog X.w) X.A (pyIter (.ref s.heap.objs.size)) (PIE X pins σ tg R) E { s with heap:=s.heap.push { cls:=.type "range",data:=.fields #[.int lo t,.int hi u,.int 1 v] },toks:=tk }:=by
 refine wpAny_pyIter_range (IsRange.new ..) (small_one h1 h2 h3 h4) ?_
 have I1:Inv X pins σ H { s with heap:=s.heap.push { cls:=.type "range",data:=.fields #[.int lo t,.int hi u,.int 1 v] },toks:=tk }:=I.kept fun b o e=>Heap.get?_push_of_some _ e
 refine ⟨(s.heap.push { cls:=.type "range",data:=.fields #[.int lo t,.int hi u,.int 1 v] }).objs.size,[(s.heap.push { cls:=.type "range",data:=.fields #[.int lo t,.int hi u,.int 1 v] }).objs.size],_,_,H,rfl,
  I1.kept (t':=tk) fun b o e=>Heap.get?_push_of_some _ e,turn_range _ lo (hi - lo).toNat,?_,fun b hb=>?_,q⟩
 ·have e1:lo + ((0:Nat):Int) * 1 = lo:=by simp
  have e2:(((hi - lo).toNat:Nat):Int) - ((0:Nat):Int) = Builtin.Range.rangeSize lo hi 1:=by rw [rangeSize_one]; split <;> omega
  show IsRangeIter _ _ (lo + ((0:Nat):Int) * 1) ((((hi - lo).toNat:Nat):Int) - ((0:Nat):Int)) 1
  rw [e1,e2]
  exact Heap.get?_push_size _ rfl
 ·have e:b = (s.heap.push { cls:=.type "range",data:=.fields #[.int lo t,.int hi u,.int 1 v] }).objs.size:=by simpa using hb
  subst e
  exact I1.fpOk (Nat.le_refl _) (I1.hok.fresh (Nat.le_refl _))
def iRng1 (ta:TA):TI:=fun σ H R=>ta σ H fun vs H1=>∃ j:Int,vs = [.int j] /\ -(2 ^ 62) <= j /\ j < 2 ^ 62 /\ R (Itr 0 j.toNat) H1
def iRng2 (ta:TA):TI:=fun σ H R=>ta σ H fun vs H1=>∃ i j:Int,vs = [.int i,.int j] /\ (-(2 ^ 62) <= i /\ i < 2 ^ 62 /\ -(2 ^ 62) <= j /\ j < 2 ^ 62) /\ R (Itr i (j - i).toNat) H1
theorem pi_range1 {a:Expr} {ta:TA} {p pos:Pos} (hg:Gl X "range") (hm:X.mg "range" = none) (ha:PA X [a] ta) (hs:starEach [a] X.env = [(false,eval a X.env)]:=by rfl):PI X tg (.Call (.Name "range" p) [a] [] pos) (iRng1 ta):=by
 intro pins s σ H R I h
 refine Call_ (jM I hg hm boot_range (PyProof.Rows.callWith_type1 (thn (ha pos pins s σ H _ I h) fun us s1 ⟨vs,H1,I1,r1,q1⟩=>?_) hs rfl))
 obtain ⟨j,e,q1,q2,q⟩:=q1
 subst e
 cases r1 with
 | cons r rr =>
  cases rr
  obtain ⟨t,rfl⟩:=r
  exact call_range_1 (range_it I1 (by omega) (by omega) q1 q2 (by simpa using q))
theorem pi_range2 {a b:Expr} {ta:TA} {p pos:Pos} (hg:Gl X "range") (hm:X.mg "range" = none) (ha:PA X [a,b] ta) (hs:starEach [a,b] X.env = [(false,eval a X.env),(false,eval b X.env)]:=by rfl) (hs2:starEach [b] X.env = [(false,eval b X.env)]:=by rfl) :
  PI X tg (.Call (.Name "range" p) [a,b] [] pos) (iRng2 ta):=by
 intro pins s σ H R I h
 refine Call_ (jM I hg hm boot_range (PyProof.Rows.callWith_type1 (thn (ha pos pins s σ H _ I h) fun us s1 ⟨vs,H1,I1,r1,q1⟩=>?_) (by rw [hs,hs2]) (by rw [hs2]; rfl)))
 obtain ⟨i,j,e,⟨q1,q2,q3,q4⟩,q⟩:=q1
 subst e
 cases r1 with
 | cons r rr =>
  cases rr with
  | cons r' rr =>
   cases rr
   obtain ⟨t,rfl⟩:=r
   obtain ⟨t',rfl⟩:=r'
   exact call_range_2 (range_it I1 q1 q2 q3 q4 q)
def tFor (wi:TI) (g:TG) (tb:TS):TS:=fun D σ H=>wi σ H fun J H1=>∃ W:Nat -> Nat -> St -> Hp -> Prop,(∃ m,W 0 m σ H1) /\ ∀ i m σ H,W i m σ H ->
 (J.stop i H /\ D.nx σ H) \/ (J.go i H /\ ∃ N:St -> Hp -> Prop,(∀ σ' H',N σ' H' -> ∃ m',m' < m /\ W (i + 1) m' σ' H') /\ ∀ x H',J.yld i H x H' -> g x σ H' fun σ2 H2=>tb { D with nx:=N,ct:=N,bk:=D.nx } σ2 H2)
def pinsAt (fp:List Addr) (h:Heap):List (Addr × Obj):=fp.filterMap fun b=>(h.get? b).map fun o=>(b,o)
theorem x6 {fp:List Addr} {h:Heap} {b:Addr} {o:Obj} (hb:b ∈ fp) (e:h.get? b = some o):(b,o) ∈ pinsAt fp h:=List.mem_filterMap.mpr ⟨b,hb,by rw [e]; rfl⟩
theorem of_pinsAt {fp:List Addr} {h:Heap} {p:Addr × Obj} (hp:p ∈ pinsAt fp h):p.1 ∈ fp /\ h.get? p.1 = some p.2:=by
 obtain ⟨b,hb,e⟩:=List.mem_filterMap.mp hp
 cases q:h.get? b with
 | none=>rw [q] at e; cases e
 | some o =>
  rw [q] at e
  have e':(b,o) = p:=Option.some.inj e
  subst e'
  exact ⟨hb,q⟩
theorem Inv.pinned {pins:List (Addr × Obj)} {σ:St} {H:Hp} {s:Shared} {fp:List Addr} (I:Inv X pins σ H s) (hf:∀ b ∈ fp,FpOk X pins H b) (ho:∀ b ∈ fp,∃ o,s.heap.get? b = some o /\ ∀ v,o.data ≠ .cell v):Inv X (pins ++ pinsAt fp s.heap) σ H s :=
 I.pins_of fun p hp=>(List.mem_append.mp hp).elim (fun z=>I.pin p (List.mem_append_right _ z)) fun z=>by
  obtain ⟨hb,e⟩:=of_pinsAt z
  obtain ⟨f0,f1,f2,_⟩:=hf p.1 hb
  obtain ⟨o,e',d⟩:=ho p.1 hb
  rw [e] at e'; cases e'
  exact ⟨e,f0,f1,f2,d⟩
theorem Inv.unpinned {pins pl:List (Addr × Obj)} {σ:St} {H:Hp} {s:Shared} (I:Inv X (pins ++ pl) σ H s):Inv X pins σ H s:=I.pins_of fun p hp=>I.pin p (List.mem_append_right _ (List.mem_append_left _ hp))
theorem xA {iter:Expr} {body:List Stmt} {wi:TI} {g:TG} {tb:TS} {pos:Pos} (hp:PassesOwn (model X.prog X.w) X.A X.env X.xe) (hc:X.calm = true) (hi:PI X tg iter wi) (hg:PG X tg g) (hb:PSs X body tb)
  (hs:∀ x,foldedSetIterable iter X.env x = pure x:=by intro _; rfl):PS X (.For tg iter body [] pos) (tFor wi g tb):=by
 intro pins s σ H D I h
 refine wpAny_For (thn (hi pins s σ H _ I h) fun v s1 h1=>thn h1 fun itv s2 h2=>?_) hs
 obtain ⟨it,fp,tn,J,H2,e,I2,T,st2,f2,W,⟨m0,w0⟩,turn⟩:=h2
 subst e
 have stat:∀ {H':Hp},(∀ b ∈ fp,H' b = none) -> ∀ b ∈ fp,FpOk X pins H' b:=fun hn b hb=>⟨hn b hb,(f2 b hb).2⟩
 refine codeAny_forLoop_any (fun n s'=>∃ i σ' H',Inv X pins σ' H' s' /\ tn i s'.heap /\ (∀ b ∈ fp,H' b = none) /\ W i n σ' H') ?_ m0 ⟨0,σ,H2,I2,st2,fun b hb=>(f2 b hb).1,w0⟩
 rintro n s3 ⟨i,σ3,H3,I3,st3,fr3,w3⟩
 rcases turn i n σ3 H3 w3 with ⟨stop,qn⟩ | ⟨go,N,hN,step⟩
 ·refine wpAny_passesOwn hp (thn (T.done X rfl rfl rfl hc i pins s3 σ3 H3 X.xe I3 (stat fr3) st3 stop) fun r s4 ⟨hr,I4⟩=>?_)
  subst hr
  exact wpAny_execs_nil ⟨σ3,H3,I4,qn⟩
 ·refine wpAny_passesOwn hp (thn (T.item X rfl rfl rfl hc i pins s3 σ3 H3 X.xe I3 (stat fr3) st3 go) fun r s4 ⟨u,hr,h4⟩=>?_)
  subst hr
  refine wpAny_passesOwn hp (thn h4 fun _ s5 ⟨x,H5,I5,r5,y5,st5,fr5⟩=>?_)
  have I5':=I5.pinned (stat fr5) (T.obj _ _ st5)
  refine wpAny_passesOwn hp (thn (hg _ s5 σ3 H5 x u _ I5' r5 (step x H5 y5)) fun _ s6 ⟨σ6,H6,I6,q6⟩=>?_)
  refine wpAny_passesOwn hp (thn (hb _ s6 σ6 H6 _ I6 q6) fun f s7 q7=>?_)
  have again:∀ {σ7:St} {H7:Hp},Inv X (pins ++ pinsAt fp s5.heap) σ7 H7 s7 -> N σ7 H7 -> ∃ m,m < n /\ ∃ i σ' H',Inv X pins σ' H' s7 /\ tn i s7.heap /\ (∀ b ∈ fp,H' b = none) /\ W i m σ' H':=fun {σ7 H7} I7 n7=>by
   obtain ⟨m',hm,w7⟩:=hN σ7 H7 n7
   refine ⟨m',hm,i + 1,σ7,H7,I7.unpinned,T.keep _ _ _ st5 fun b hb o e=>(I7.pin (b,o) (List.mem_append_right _ (List.mem_append_right _ (x6 hb e)))).1,fun b hb=>?_,w7⟩
   obtain ⟨o,e,d⟩:=T.obj _ _ st5 b hb
   exact (I7.pin (b,o) (List.mem_append_right _ (List.mem_append_right _ (x6 hb e)))).2.1
  cases f with
  | next=>obtain ⟨σ7,H7,I7,n7⟩:=q7; exact again I7 n7
  | cont=>obtain ⟨σ7,H7,I7,n7⟩:=q7; exact again I7 n7
  | brk=>obtain ⟨σ7,H7,I7,q7⟩:=q7; exact ⟨σ7,H7,I7.unpinned,q7⟩
  | ret v=>obtain ⟨x7,σ7,H7,I7,r7,q7⟩:=q7; exact ⟨x7,σ7,H7,I7.unpinned,r7,q7⟩
end
theorem yP {K:PySem.W.Frag} {a:Addr} {xs:List V} {g:TG} {tb:TS} {D:Ends} {σ:St} {H:Hp} (Pv:Nat -> St -> Hp -> Prop) (h0:Pv 0 σ H) (hl:∀ i σ H,i <= xs.length -> Pv i σ H -> SqL K H a xs)
  (hs:∀ i x σ H,xs[i]? = some x -> Pv i σ H -> g x σ H fun σ2 H2=>tb { D with nx:=Pv (i + 1),ct:=Pv (i + 1),bk:=D.nx } σ2 H2) (hd:∀ σ H,Pv xs.length σ H -> D.nx σ H) :
  ∃ W:Nat -> Nat -> St -> Hp -> Prop,(∃ m,W 0 m σ H) /\ ∀ i m σ H,W i m σ H ->
   ((Itl K a).stop i H /\ D.nx σ H) \/ ((Itl K a).go i H /\ ∃ N:St -> Hp -> Prop,(∀ σ' H',N σ' H' -> ∃ m',m' < m /\ W (i + 1) m' σ' H') /\ ∀ x H',(Itl K a).yld i H x H' -> g x σ H' fun σ2 H2=>tb { D with nx:=N,ct:=N,bk:=D.nx } σ2 H2):=by
 refine ⟨fun i m σ H=>m = xs.length - i /\ i <= xs.length /\ Pv i σ H,⟨xs.length,by simp,Nat.zero_le _,h0⟩,?_⟩
 rintro i m σ H ⟨rfl,hi,p⟩
 have q:=hl i σ H hi p
 by_cases hlt:i < xs.length
 ·refine .inr ⟨⟨xs,xs[i],q,by simp [hlt]⟩,Pv (i + 1),fun σ' H' p'=>⟨xs.length - (i + 1),by omega,rfl,hlt,p'⟩,fun x H' y=>?_⟩
  obtain ⟨e,y⟩:=y
  subst e
  exact hs i x σ _ (y xs q) p
 ·have e:i = xs.length:=by omega
  subst e
  exact .inl ⟨⟨xs,q,Nat.le_refl _⟩,hd σ H p⟩
end L2
namespace L2
open PySem PySem.Spec PyProof.Rows
abbrev R2:=V -> V -> Hp -> VK -> Prop
def OpR (X:Cx) (f:Value -> Value -> Sem Value) (r:R2):Prop :=
 ∀ (pins:List (Addr × Obj)) (s:Shared) (σ:St) (H:Hp) (x y:V) (v u:Value) (Q:VK),Inv X pins σ H s -> RelV x v -> RelV y u -> r x y H Q ->
  wpAny (model X.prog X.w) X.A (f v u) (EP X pins σ Q) X.xe s
def UnR (X:Cx) (f:Value -> Sem Value) (r:V -> Hp -> VK -> Prop):Prop :=
 ∀ (pins:List (Addr × Obj)) (s:Shared) (σ:St) (H:Hp) (x:V) (v:Value) (Q:VK),Inv X pins σ H s -> RelV x v -> r x H Q ->
  wpAny (model X.prog X.w) X.A (f v) (EP X pins σ Q) X.xe s
def CallR (X:Cx) (f:Value) (r:List V -> Hp -> VK -> Prop):Prop :=
 ∀ (pins:List (Addr × Obj)) (s:Shared) (σ:St) (H:Hp) (xs:List V) (us:List Value) (Q:VK),Inv X pins σ H s -> Vals xs us -> r xs H Q ->
  wpAny (model X.prog X.w) X.A (call f us) (EP X pins σ Q) X.xe s
def TruR (X:Cx) (r:V -> Hp -> (Bool -> Hp -> Prop) -> Prop):Prop :=
 ∀ (pins:List (Addr × Obj)) (s:Shared) (σ:St) (H:Hp) (x:V) (v:Value) (Q:Bool -> Hp -> Prop),Inv X pins σ H s -> RelV x v -> r x H Q ->
  wpAny (model X.prog X.w) X.A (truthy v) (TP X pins σ Q) X.xe s
def tOp (r:R2) (ta tb:TE):TE:=fun σ H Q=>ta σ H fun x H1=>tb σ H1 fun y H2=>r x y H2 Q
def tUn (r:V -> Hp -> VK -> Prop) (ta:TE):TE:=fun σ H Q=>ta σ H fun x H1=>r x H1 Q
def rI (C:Int -> Int -> Prop) (g:Int -> Int -> V):R2:=fun x y H Q=>∃ i j,x = .int i /\ y = .int j /\ C i j /\ Q (g i j) H
def rI0 (g:Int -> Int -> V):R2:=fun x y H Q=>∃ i j,x = .int i /\ y = .int j /\ Q (g i j) H
def rU (g:Int -> V):V -> Hp -> VK -> Prop:=fun x H Q=>∃ i,x = .int i /\ Q (g i) H
section
variable {X:Cx} {a b c:Expr} {ta tb tc:TE} {pos:Pos}
theorem binT (ha:PE X a ta) (hb:PE X b tb) {pins:List (Addr × Obj)} {s:Shared} {σ:St} {H:Hp} {R:V -> V -> Hp -> Prop} (I:Inv X pins σ H s)
  (h:ta σ H fun x H1=>tb σ H1 fun y H2=>R x y H2) {Q:Value -> Shared -> Prop} {f:Value -> Value -> Sem Value}
  (hf:∀ v u s2 x y H2,Inv X pins σ H2 s2 -> RelV x v -> RelV y u -> R x y H2 -> wpAny (model X.prog X.w) X.A (f v u) Q X.xe s2) :
  wpAny (model X.prog X.w) X.A (eval a X.env) (fun v s₁=>wpAny (model X.prog X.w) X.A (eval b X.env) (fun u s₂=>wpAny (model X.prog X.w) X.A (f v u) Q X.xe s₂) X.xe s₁) X.xe s:=by
 refine thn (ha pins s σ H _ I h) fun v s1 ⟨x,H1,I1,r1,q1⟩=>?_
 refine thn (hb pins s1 σ H1 _ I1 q1) fun u s2 ⟨y,H2,I2,r2,q2⟩=>?_
 exact hf v u s2 x y H2 I2 r1 r2 q2
theorem zU {op:Operator} {r:R2} (ho:OpR X (binaryOp op) r) (ha:PE X a ta) (hb:PE X b tb):PE X (.BinOp a op b pos) (tOp r ta tb):=by
 intro pins s σ H Q I h
 exact wpAny_BinOp (binT ha hb I h fun v u s2 x y H2 I2 rx ry q=>ho pins s2 σ H2 x y v u Q I2 rx ry q)
theorem pe_un {op:UnaryOp} {r:V -> Hp -> VK -> Prop} (ho:UnR X (unaryOp op) r) (ha:PE X a ta):PE X (.UnaryOp op a pos) (tUn r ta):=by
 intro pins s σ H Q I h
 exact UnaryOp_ (thn (ha pins s σ H _ I h) fun v s1 ⟨x,H1,I1,r1,q1⟩=>ho pins s1 σ H1 x v Q I1 r1 q1)
theorem opI {f:Value -> Value -> Sem Value} {C:Int -> Int -> Prop} {g:Int -> Int -> Int}
  (rule:∀ (i j:Int) (t u:Tok) (s:Shared) (Q:Value -> Shared -> Prop) (E:Value -> Shared -> Prop),C i j -> Q (.int (g i j) s.toks) { s with toks:=s.toks + 1 } -> wpAny (model X.prog X.w) X.A (f (.int i t) (.int j u)) Q E s) :
  OpR X f (rI C fun i j=>.int (g i j)):=by
 intro pins s σ H x y v u Q I rx ry h
 obtain ⟨i,j,rfl,rfl,hc,q⟩:=h
 obtain ⟨t,rfl⟩:=rx
 obtain ⟨t',rfl⟩:=ry
 exact rule i j t t' s _ _ hc ⟨.int (g i j),H,I.tok _,⟨_,rfl⟩,q⟩
theorem opI0 {f:Value -> Value -> Sem Value} {g:Int -> Int -> Int}
  (rule:∀ (i j:Int) (t u:Tok) (s:Shared) (Q:Value -> Shared -> Prop) (E:Value -> Shared -> Prop),Q (.int (g i j) s.toks) { s with toks:=s.toks + 1 } -> wpAny (model X.prog X.w) X.A (f (.int i t) (.int j u)) Q E s) :
  OpR X f (rI0 fun i j=>.int (g i j)):=by
 intro pins s σ H x y v u Q I rx ry h
 obtain ⟨i,j,rfl,rfl,q⟩:=h
 obtain ⟨t,rfl⟩:=rx
 obtain ⟨t',rfl⟩:=ry
 exact rule i j t t' s _ _ ⟨.int (g i j),H,I.tok _,⟨_,rfl⟩,q⟩
theorem opB0 {f:Value -> Value -> Sem Value} {g:Int -> Int -> Bool}
  (rule:∀ (i j:Int) (t u:Tok) (s:Shared) (Q:Value -> Shared -> Prop) (E:Value -> Shared -> Prop),Q (.bool (g i j)) s -> wpAny (model X.prog X.w) X.A (f (.int i t) (.int j u)) Q E s) :
  OpR X f (rI0 fun i j=>.bl (g i j)):=by
 intro pins s σ H x y v u Q I rx ry h
 obtain ⟨i,j,rfl,rfl,q⟩:=h
 obtain ⟨t,rfl⟩:=rx
 obtain ⟨t',rfl⟩:=ry
 exact rule i j t t' s _ _ ⟨.bl (g i j),H,I,rfl,q⟩
def CDiv (i j:Int):Prop:=0 < j /\ j < 1073741824
def CMul (i j:Int):Prop:=(-(2 ^ 64) < i /\ i < 2 ^ 64) \/ (-(2 ^ 64) < j /\ j < 2 ^ 64)
theorem CMul.ok {i j:Int} (h:CMul i j):IntMulOk i j:=by
 rcases h with ⟨h1,h2⟩ | ⟨h1,h2⟩
 ·exact .of_left (intBits_le_64 h1 h2)
 ·exact .of_right (intBits_le_64 h1 h2)
theorem yN:OpR X (binaryOp .Add) (rI0 fun i j=>.int (i + j)):=opI0 fun _ _ _ _ _ _ _ q=>add_int q
theorem op_sub:OpR X (binaryOp .Sub) (rI0 fun i j=>.int (i - j)):=opI0 fun _ _ _ _ _ _ _ q=>sub_int q
theorem op_mul:OpR X (binaryOp .Mult) (rI CMul fun i j=>.int (i * j)):=opI fun _ _ _ _ _ _ _ hc q=>mul_int q hc.ok
theorem xU:OpR X (binaryOp .FloorDiv) (rI CDiv fun i j=>.int (i / j)):=opI fun i j _ _ _ _ _ hc q=>by
 have h1:(0:Int) < j:=hc.1
 have h2:j < 1073741824:=hc.2
 exact floordiv_int (by omega) (by rw [Int.fdiv_eq_ediv_of_nonneg i (by omega)]; exact q) (.inl (PyProof.noPylong_small (by omega)))
theorem yZ:OpR X (binaryOp .Mod) (rI (fun _ j=>0 < j) fun i j=>.int (i % j)):=opI fun i j _ _ _ _ _ hc q=>by
 have h1:(0:Int) < j:=hc
 exact mod_int' (by omega) (by rw [Int.fmod_eq_emod_of_nonneg i (by omega)]; exact q)
theorem unI {f:Value -> Sem Value} {g:Int -> Int}
  (rule:∀ (i:Int) (t:Tok) (s:Shared) (Q:Value -> Shared -> Prop) (E:Value -> Shared -> Prop),Q (.int (g i) s.toks) { s with toks:=s.toks + 1 } -> wpAny (model X.prog X.w) X.A (f (.int i t)) Q E s) :
  UnR X f (rU fun i=>.int (g i)):=by
 intro pins s σ H x v Q I rx h
 obtain ⟨i,rfl,q⟩:=h
 obtain ⟨t,rfl⟩:=rx
 exact rule i t s _ _ ⟨.int (g i),H,I.tok _,⟨_,rfl⟩,q⟩
theorem un_neg:UnR X (unaryOp .USub) (rU fun i=>.int (-i)):=unI fun _ _ _ _ _ q=>neg_int q
end
def scal:V -> V -> Bool
 | .non,.non=>true | .non,.int _=>true | .int _,.non=>true | .non,.bl _=>true | .bl _,.non=>true | .non,.str _=>true | .str _,.non=>true
 | .int _,.int _=>true | .bl _,.bl _=>true | .str _,.str _=>true | .byt _,.byt _=>true
 | .int _,.str _=>true | .str _,.int _=>true | .bl _,.str _=>true | .str _,.bl _=>true
 | _,_=>false
def rEq:R2:=fun x y H Q=>scal x y = true /\ Q (.bl (decide (x = y))) H
def rNe:R2:=fun x y H Q=>scal x y = true /\ Q (.bl (!decide (x = y))) H
theorem dec_int {i j:Int}:decide (V.int i = V.int j) = (i == j):=by
 rw [Bool.eq_iff_iff]
 simp
theorem dec_bl {i j:Bool}:decide (V.bl i = V.bl j) = (i == j):=by
 rw [Bool.eq_iff_iff]
 simp
theorem dec_str {i j:Str}:decide (V.str i = V.str j) = (i == j):=by
 rw [Bool.eq_iff_iff]
 simp
theorem dec_byt {i j:Array UInt8}:decide (V.byt i = V.byt j) = (i.toList == j.toList):=by
 rw [Bool.eq_iff_iff]
 cases i
 cases j
 simp
section
variable {X:Cx} {a b c:Expr} {ta tb tc:TE} {pos:Pos}
theorem z0 {pins:List (Addr × Obj)} {σ:St} {H:Hp} {s:Shared} {Q:VK} {k k':Bool} (I:Inv X pins σ H s) (q:Q (.bl k) H) (e:k = k'):EP X pins σ Q (.bool k') s:=by
 subst e
 exact ⟨.bl k,H,I,rfl,q⟩
theorem qX:OpR X (compareOp .Eq) rEq:=by
 intro pins s σ H x y v u Q I rx ry h
 obtain ⟨hs,q⟩:=h
 cases x with
 | non =>
  cases rx
  cases y with
  | non=>cases ry; exact PySem.EqNone.eq_none_none (z0 I q (by simp))
  | bl j=>cases ry; exact PySem.EqNone.eq_none_bool (z0 I q (by simp))
  | int j=>obtain ⟨t',rfl⟩:=ry; exact PySem.EqNone.eq_none_int (z0 I q (by simp))
  | str j=>obtain ⟨t',rfl⟩:=ry; exact PySem.EqNone.eq_none_str (z0 I q (by simp))
  | _=>exact absurd (show false = true from hs) Bool.false_ne_true
 | bl i =>
  cases rx
  cases y with
  | non=>cases ry; exact PySem.EqNone.eq_bool_none (z0 I q (by simp))
  | bl j=>cases ry; exact eq_bool (z0 I q dec_bl)
  | str j=>obtain ⟨t',rfl⟩:=ry; exact PySem.EqMixed.eq_bool_str (z0 I q (by simp))
  | _=>exact absurd (show false = true from hs) Bool.false_ne_true
 | int i =>
  obtain ⟨t,rfl⟩:=rx
  cases y with
  | non=>cases ry; exact PySem.EqNone.eq_int_none (z0 I q (by simp))
  | int j=>obtain ⟨t',rfl⟩:=ry; exact eq_int (z0 I q dec_int)
  | str j=>obtain ⟨t',rfl⟩:=ry; exact PySem.EqMixed.eq_int_str (z0 I q (by simp))
  | _=>exact absurd (show false = true from hs) Bool.false_ne_true
 | str i =>
  obtain ⟨t,rfl⟩:=rx
  cases y with
  | non=>cases ry; exact PySem.EqNone.eq_str_none (z0 I q (by simp))
  | bl j=>cases ry; exact PySem.EqMixed.eq_str_bool (z0 I q (by simp))
  | int j=>obtain ⟨t',rfl⟩:=ry; exact PySem.EqMixed.eq_str_int (z0 I q (by simp))
  | str j=>obtain ⟨t',rfl⟩:=ry; exact eq_str (z0 I q dec_str)
  | _=>exact absurd (show false = true from hs) Bool.false_ne_true
 | byt i =>
  obtain ⟨t,rfl⟩:=rx
  cases y with
  | byt j=>obtain ⟨t',rfl⟩:=ry; exact PySem.W.eq_bytes (z0 I q dec_byt)
  | _=>exact absurd (show false = true from hs) Bool.false_ne_true
 | _=>cases y <;> exact absurd (show false = true from hs) Bool.false_ne_true
theorem op_ne:OpR X (compareOp .NotEq) rNe:=by
 intro pins s σ H x y v u Q I rx ry h
 obtain ⟨hs,q⟩:=h
 cases x with
 | non =>
  cases rx
  cases y with
  | non=>cases ry; exact PySem.EqNone.ne_none_none (z0 I q (by simp))
  | bl j=>cases ry; exact PySem.EqNone.ne_none_bool (z0 I q (by simp))
  | int j=>obtain ⟨t',rfl⟩:=ry; exact PySem.EqNone.ne_none_int (z0 I q (by simp))
  | str j=>obtain ⟨t',rfl⟩:=ry; exact PySem.EqNone.ne_none_str (z0 I q (by simp))
  | _=>exact absurd (show false = true from hs) Bool.false_ne_true
 | bl i =>
  cases rx
  cases y with
  | non=>cases ry; exact PySem.EqNone.ne_bool_none (z0 I q (by simp))
  | bl j=>cases ry; exact ne_bool (z0 I q (congrArg not dec_bl))
  | str j=>obtain ⟨t',rfl⟩:=ry; exact PySem.EqMixed.ne_bool_str (z0 I q (by simp))
  | _=>exact absurd (show false = true from hs) Bool.false_ne_true
 | int i =>
  obtain ⟨t,rfl⟩:=rx
  cases y with
  | non=>cases ry; exact PySem.EqNone.ne_int_none (z0 I q (by simp))
  | int j=>obtain ⟨t',rfl⟩:=ry; exact ne_int (z0 I q (congrArg not dec_int))
  | str j=>obtain ⟨t',rfl⟩:=ry; exact PySem.EqMixed.ne_int_str (z0 I q (by simp))
  | _=>exact absurd (show false = true from hs) Bool.false_ne_true
 | str i =>
  obtain ⟨t,rfl⟩:=rx
  cases y with
  | non=>cases ry; exact PySem.EqNone.ne_str_none (z0 I q (by simp))
  | bl j=>cases ry; exact PySem.EqMixed.ne_str_bool (z0 I q (by simp))
  | int j=>obtain ⟨t',rfl⟩:=ry; exact PySem.EqMixed.ne_str_int (z0 I q (by simp))
  | str j=>obtain ⟨t',rfl⟩:=ry; exact ne_str (z0 I q (congrArg not dec_str))
  | _=>exact absurd (show false = true from hs) Bool.false_ne_true
 | byt i =>
  obtain ⟨t,rfl⟩:=rx
  cases y with
  | byt j=>obtain ⟨t',rfl⟩:=ry; exact PySem.W.ne_bytes (z0 I q (congrArg not dec_byt))
  | _=>exact absurd (show false = true from hs) Bool.false_ne_true
 | _=>cases y <;> exact absurd (show false = true from hs) Bool.false_ne_true
theorem op_lt:OpR X (compareOp .Lt) (rI0 fun i j=>.bl (decide (i < j))):=opB0 fun _ _ _ _ _ _ _ q=>lt_int q
theorem op_le:OpR X (compareOp .LtE) (rI0 fun i j=>.bl (decide (i <= j))):=opB0 fun _ _ _ _ _ _ _ q=>le_int q
theorem op_gt:OpR X (compareOp .Gt) (rI0 fun i j=>.bl (decide (j < i))):=opB0 fun _ _ _ _ _ _ _ q=>gt_int q
theorem op_ge:OpR X (compareOp .GtE) (rI0 fun i j=>.bl (decide (j <= i))):=opB0 fun _ _ _ _ _ _ _ q=>ge_int q
theorem xE:OpR X (compareOp .Is) (fun x y H Q=>y = .non /\ Q (.bl (decide (x = .non))) H):=by
 intro pins s σ H x y v u Q I rx ry h
 obtain ⟨rfl,q⟩:=h
 cases ry
 refine is_none_gen (z0 I q ?_)
 cases x <;> first
  | (cases rx; rfl)
  | (obtain ⟨t,rfl⟩:=rx; rfl)
theorem jP:OpR X (compareOp .IsNot) (fun x y H Q=>y = .non /\ Q (.bl (!decide (x = .non))) H):=by
 intro pins s σ H x y v u Q I rx ry h
 obtain ⟨rfl,q⟩:=h
 cases ry
 refine isnot_none_gen (z0 I q ?_)
 cases x <;> first
  | (cases rx; rfl)
  | (obtain ⟨t,rfl⟩:=rx; rfl)
theorem zK (b:Expr) {op:CmpOp} (h:op ≠ .In:=by decide) (h2:op ≠ .NotIn:=by decide):behindInMarks op b = false:=by
 have e1:(op == CmpOp.In) = false:=by cases op <;> first | rfl | exact absurd rfl h
 have e2:(op == CmpOp.NotIn) = false:=by cases op <;> first | rfl | exact absurd rfl h2
 cases b <;> simp [behindInMarks,e1,e2]
theorem yM {op:CmpOp} {r:R2} (ho:OpR X (compareOp op) r) (ha:PE X a ta) (hb:PE X b tb) (hm:behindInMarks op b = false):PE X (.Compare a [op] [b] pos) (tOp r ta tb):=by
 intro pins s σ H Q I h
 exact wpAny_Compare1 (binT ha hb I h fun v u s2 x y H2 I2 rx ry q=>ho pins s2 σ H2 x y v u Q I2 rx ry q) hm
def tTest (t:TE):TT:=fun σ H Q=>t σ H fun x H'=>∃ k,x = .bl k /\ Q k H'
theorem zI {op:CmpOp} {r:R2} (ho:OpR X (compareOp op) r) (ha:PE X a ta) (hb:PE X b tb) (hm:behindInMarks op b = false):PT X (.Compare a [op] [b] pos) (tTest (tOp r ta tb)):=by
 intro pins s σ H Q I h
 refine wpAny_isTrue_Compare1 (thn (ha pins s σ H _ I h) fun v s1 ⟨x,H1,I1,r1,q1⟩=>thn (hb pins s1 σ H1 _ I1 q1) fun u s2 ⟨y,H2,I2,r2,q2⟩ =>
  thn (ho pins s2 σ H2 x y v u _ I2 r1 r2 q2) fun c s3 ⟨z,H3,I3,r3,k,e,q3⟩=>?_) hm
 subst e
 cases r3
 exact wpAny_truthy_bool ⟨H3,I3,q3⟩
def TruV (K:PySem.W.Frag) (x:V) (H:Hp) (k:Bool):Prop :=
 match x with
 | .non=>k = false
 | .bl b=>k = b
 | .int i=>k = (i != 0)
 | .str y=>y.length <= sizeLine /\ k = ((y.length:Int) != 0)
 | .byt y=>y.size <= sizeLine /\ k = ((y.size:Int) != 0)
 | .ref p=>(∃ xs,SqL K H p xs /\ k = !xs.isEmpty) \/ (∃ xs,SqT K H p xs /\ k = !xs.isEmpty) \/ ∃ kvs,H p = some (.dK kvs) /\ k = !kvs.isEmpty
 | _=>False
theorem isEmpty_kv {κ:Type} {kvs:List (κ × V)} {vs:List (κ × Value)} (r:KV kvs vs):(!vs.isEmpty) = !kvs.isEmpty:=by
 cases r <;> rfl
theorem isEmpty_of {xs:List V} {its:List Value} (r:Vals xs its):(!its.toArray.isEmpty) = !xs.isEmpty:=by
 cases r <;> simp
theorem line63:(sizeLine:Nat) < 2 ^ 63:=by rw [sizeLine_eq]; decide
theorem tru_ok:TruR X (fun x H Q=>∃ k,TruV X.K x H k /\ Q k H):=by
 intro pins s σ H x v Q I rx h
 obtain ⟨k,e,q⟩:=h
 have hl:=line63
 have hs:sizeLine = 16777216:=sizeLine_eq
 cases x with
 | non =>
  cases rx
  have e':k = false:=e
  subst e'
  exact truthy_none ⟨H,I,q⟩
 | bl b =>
  cases rx
  have e':k = b:=e
  subst e'
  exact wpAny_truthy_bool ⟨H,I,q⟩
 | int i =>
  obtain ⟨t,rfl⟩:=rx
  have e':k = (i != 0):=e
  subst e'
  exact PySem.P.truthy_int ⟨H,I,q⟩
 | str y =>
  obtain ⟨t,rfl⟩:=rx
  obtain ⟨hy,e'⟩:y.length <= sizeLine /\ k = ((y.length:Int) != 0):=e
  subst e'
  exact PySem.P.truthy_str (by omega) ⟨H,I.tok _,q⟩
 | byt y =>
  obtain ⟨t,rfl⟩:=rx
  obtain ⟨hy,e'⟩:y.size <= sizeLine /\ k = ((y.size:Int) != 0):=e
  subst e'
  exact PySem.W.truthy_bytes (by omega) ⟨H,I.tok _,q⟩
 | ref p =>
  cases rx
  have e':(∃ xs,SqL X.K H p xs /\ k = !xs.isEmpty) \/ (∃ xs,SqT X.K H p xs /\ k = !xs.isEmpty) \/ ∃ kvs,H p = some (.dK kvs) /\ k = !kvs.isEmpty:=e
  rcases e' with ⟨xs,hx,e'⟩ | ⟨xs,hx,e'⟩ | ⟨kvs,hx,e'⟩
  ·subst e'
   obtain ⟨its,r,pl,hz⟩:=I.list hx
   have hlen:=r.length
   exact wpAny_truthy_list pl.isList (by simp only [List.size_toArray]; omega) ⟨H,I.tok _,by rw [isEmpty_of r]; exact q⟩
  ·subst e'
   obtain ⟨its,r,pl,hz⟩:=I.tuple hx
   have hlen:=r.length
   exact truthy_tuple pl (by simp only [List.size_toArray]; omega) ⟨H,I.tok _,by rw [isEmpty_of r]; exact q⟩
  ·subst e'
   obtain ⟨hz,hS,vs,r,m⟩:kvs.length <= sizeLine /\ (p == sysModules) = false /\ ∃ vs,KV kvs vs /\ s.heap.DictOf (mixKind X.prog X.w) p vs:=I.hok p _ hx
   have hlen:kvs.length = vs.length:=Paired.length r
   exact wpAny_truthy_dict hS m (by omega) ⟨H,I.tok _,by rw [isEmpty_kv r]; exact q⟩
 | _=>exact (show False from e).elim
theorem pt_truth (ha:PE X a ta) (he:∀ whole,isTrue a X.env whole = (do let v ← whole; standAt a.pos; holding [v] (truthy v))) :
  PT X a (fun σ H Q=>ta σ H fun x H'=>∃ k,TruV X.K x H' k /\ Q k H'):=by
 intro pins s σ H Q I h
 exact isTrue_plain (thn (ha pins s σ H _ I h) fun v s1 ⟨x,H1,I1,r1,q1⟩=>tru_ok pins s1 σ H1 x v Q I1 r1 q1) (he _)
theorem op_add_str:OpR X (binaryOp .Add) (fun x y H Q=>∃ i j,x = .str i /\ y = .str j /\ i.length + j.length <= sizeLine /\ Q (.str (i ++ j)) H):=by
 intro pins s σ H x y v u Q I rx ry h
 obtain ⟨i,j,rfl,rfl,hz,q⟩:=h
 obtain ⟨t,rfl⟩:=rx
 obtain ⟨t',rfl⟩:=ry
 exact add_str (fun t' tk=>⟨.str (i ++ j),H,I.tok _,⟨_,rfl⟩,q⟩) hz
theorem vals1 {x:V} {us:List Value} (r:Vals [x] us):∃ u,us = [u] /\ RelV x u:=by
 cases r with
 | cons r1 r2=>cases r2; exact ⟨_,rfl,r1⟩
theorem vals2 {x y:V} {us:List Value} (r:Vals [x,y] us):∃ u w',us = [u,w'] /\ RelV x u /\ RelV y w':=by
 cases r with
 | cons r1 r2 =>
  cases r2 with
  | cons r3 r4=>cases r4; exact ⟨_,_,rfl,r1,r3⟩
theorem call_max2 (hc:X.calm = true):CallR X (.builtin "max") (fun xs H Q=>∃ i j,xs = [.int i,.int j] /\ Q (.int (if j > i then j else i)) H):=by
 intro pins s σ H xs us Q I r h
 obtain ⟨i,j,rfl,q⟩:=h
 obtain ⟨u,w',rfl,⟨t,rfl⟩,⟨t',rfl⟩⟩:=vals2 r
 refine max_two_ints (I.ok.hd hc) fun h' tk k=>⟨_,H,I.kept k,?_,q⟩
 by_cases hj:j > i
 ·rw [if_pos hj,if_pos hj]; exact ⟨_,rfl⟩
 ·rw [if_neg hj,if_neg hj]; exact ⟨_,rfl⟩
end
end L2
namespace L2
open PySem PySem.Spec PyProof.Rows
structure ObjM (h:Heap) (x dx C:Addr) (mA:Str -> Option Value):Prop where
 obj:h.get? x = some (PySem.W.instObj C dx)
 ns:h.Ns1 dx mA
 ne:dx ≠ x
theorem lookIn_ns {h:Heap} {dx:Addr} {mA:Str -> Option Value} (n:h.Ns1 dx mA):∃ od,h.get? dx = some od /\ ∀ name,PySem.W.lookIn name od = some (mA name):=by
 obtain ⟨o,es,ep,ho,hd,hk,_,hm⟩:=n
 refine ⟨o,ho,fun name=>?_⟩
 have e:=hm name
 unfold nsFind findBy at e
 rw [← Array.find?_toList] at e
 unfold PySem.W.lookIn
 rw [hd]
 dsimp only
 split
 ·rename_i y q
  rw [q] at e
  exact congrArg some e
 ·rename_i q
  rw [q] at e
  have a:es.toList.any (·.refKey) = false:=by
   rw [List.any_eq_false]
   intro y hy
   obtain ⟨z,t,hkey⟩:=hk y (Array.mem_toList_iff.mp hy)
   simp [DictEntry.refKey,hkey]
  have a':¬ es.toList.any (·.refKey) = true:=by rw [a]; exact Bool.false_ne_true
  rw [if_neg a']
  exact congrArg some e
theorem ObjM.look {h:Heap} {x dx C:Addr} {mA:Str -> Option Value} (I:ObjM h x dx C mA):∃ od,PySem.W.InstAt h x (PySem.W.instObj C dx) C (some od) /\ ∀ name,PySem.W.lookIn name od = some (mA name) :=
 let ⟨od,ho,hl⟩:=lookIn_ns I.ns
 ⟨od,⟨I.obj,rfl,rfl,ho⟩,hl⟩
section
variable {prog:Program} {w:World} {A:Around} {E:Value -> Shared -> Prop} {s:Shared} {K:PySem.W.Frag} {x dx C f:Addr} {mA:Str -> Option Value} {name:Str} {v:Value}
end
theorem RelO.some_of {v:V} {o:Option Value} (r:RelO (some v) o):∃ u,o = some u /\ RelV v u:=by
 cases o with
 | none=>exact (show False from r).elim
 | some u=>exact ⟨u,rfl,r⟩
section
variable {P:Program} {w:World} {H H':Hp} {h h':Heap} {a C dx:Addr} {fs fs':List (Str × V)}
theorem ins_get (hok:HOk P w H h) (e:H a = some (.ins C dx fs)):∃ mA,ObjM h a dx C mA /\ (∀ f,RelO (fs.lookup f) (mA f)) /\ PySem.Within mA (fs.map (·.1)) /\ fs.length <= 1000 /\ H dx = some (.own a):=by
 obtain ⟨d,z,ne,ob,mA,n,r,q⟩:=(show ObjOk P w H h a (.ins C dx fs) from hok a _ e)
 exact ⟨mA,⟨ob,n,ne⟩,r,q,z,d⟩
end
structure Cls (K:PySem.W.Frag) (C:Addr):Prop where
 pg:PySem.W.plainGet K C Str.empty = true
 hd:PySem.W.hasDictIn K C = true
 po:PySem.W.plainOver K C = true
 sa:PySem.W.findIn K (.ref C) "__setattr__" = some (some (.builtin "object.__setattr__"))
theorem Cls.get {K:PySem.W.Frag} {C:Addr} (c:Cls K C) (f:Str):PySem.W.plainGet K C f = true:=c.pg
section
variable {X:Cx} {pins:List (Addr × Obj)} {σ:St} {H:Hp} {s:Shared} {a C dx:Addr} {fs:List (Str × V)} {f:Str} {v:V} {A:Around} {E:Value -> Shared -> Prop}
end
section
variable {X:Cx} {o e value:Expr} {f:Str} {pos pos' tpos:Pos} {ta tv:TE}
end
section
variable {X:Cx} {pins:List (Addr × Obj)} {σ:St} {H:Hp} {s:Shared} {A:Around} {E:Value -> Shared -> Prop} {Q:Value -> Shared -> Prop} {c:Value} {b:Bool}
inductive TyOf (K:PySem.W.Frag) (H:Hp):V -> Value -> Prop where
 | non:TyOf K H .non (.type "NoneType")
 | bl (x:Bool):TyOf K H (.bl x) (.type "bool")
 | int (i:Int):TyOf K H (.int i) (.type "int")
 | str (x:Str):TyOf K H (.str x) (.type "str")
 | flt (x:UInt64):TyOf K H (.flt x) (.type "float")
 | lst {a:Addr} {xs:List V} (e:H a = some (.lst xs)):TyOf K H (.ref a) (.type "list")
 | frz {a:Addr} {o:Obj} {xs:List V} (e:H a = some (.frz o (.lst xs))):TyOf K H (.ref a) (.type "list")
 | tup {a:Addr} {xs:List V} (e:H a = some (.tup xs)):TyOf K H (.ref a) (.type "tuple")
 | dK {a:Addr} {kvs:List (Key × V)} (e:H a = some (.dK kvs)):TyOf K H (.ref a) (.type "dict")
 | dT {a:Addr} {kvs:List (List Key × V)} (e:H a = some (.dT kvs)):TyOf K H (.ref a) (.type "dict")
 | ins {a C dx:Addr} {fs:List (Str × V)} (e:H a = some (.ins C dx fs)) (cl:Cls K C) (ha:PySem.W.findIn K (.ref C) "__class__" = some (some (.builtin "object.__class__")))
   (hn:PySem.W.specialIn K (.builtin "object.__class__") "__get__" = some (some (.builtin "getset_descriptor.__get__"))) (htk:PySem.W.takesIn K (.builtin "object.__class__") = some true)
   (hm:PySem.W.mroIn K C (.type "object") = some true):TyOf K H (.ref a) (.ref C)
theorem xV {x:V} {u t:Value} (I:Inv X pins σ H s) (rx:RelV x u) (ty:TyOf X.K H x t) (e:PySem.W.kitOne X.K t c = some b) (h:∀ tk,Q (.bool b) { s with toks:=tk }) :
  wpAny (model X.prog X.w) A (call (.builtin "isinstance") [u,c]) Q E s:=by
 cases ty with
 | non=>cases (show u = Value.none from rx); exact PySem.W.kia_one PySem.W.kitx_none I.kIn True.intro e (fun z=>nomatch z) h
 | bl y=>cases (show u = Value.bool y from rx); exact PySem.W.kia_one PySem.W.kitx_bool I.kIn True.intro e (fun z=>nomatch z) h
 | int i=>obtain ⟨t,q⟩:=(show ∃ t,u = Value.int i t from rx); cases q; exact PySem.W.kia_one PySem.W.kitx_int I.kIn True.intro e (fun z=>nomatch z) h
 | str y=>obtain ⟨t,q⟩:=(show ∃ t,u = Value.str y t from rx); cases q; exact PySem.W.kia_one PySem.W.kitx_str I.kIn True.intro e (fun z=>nomatch z) h
 | flt y=>obtain ⟨t,q⟩:=(show ∃ t,u = Value.float y t from rx); cases q; exact PySem.W.kia_one PySem.W.kitx_float I.kIn True.intro e (fun z=>nomatch z) h
 | @lst a xs ea =>
  cases (show u = Value.ref a from rx)
  obtain ⟨_,_,n,_,h1⟩:=(show ObjOk X.prog X.w H s.heap a (.lst xs) from I.hok a _ ea)
  exact PySem.W.kia_one PySem.W.kitx_list I.kIn ⟨_,h1,rfl⟩ e (fun z=>nomatch z) h
 | @frz a ob xs ea =>
  cases (show u = Value.ref a from rx)
  obtain ⟨_,_,_,n,_,h1⟩:=(show ObjOk X.prog X.w H s.heap a (.frz ob (.lst xs)) from I.hok a _ ea)
  exact PySem.W.kia_one PySem.W.kitx_list I.kIn ⟨_,h1,rfl⟩ e (fun z=>nomatch z) h
 | @tup a xs ea =>
  cases (show u = Value.ref a from rx)
  obtain ⟨_,_,_,p⟩:=(show ObjOk X.prog X.w H s.heap a (.tup xs) from I.hok a _ ea)
  obtain ⟨o,h1,h2,_⟩:=p
  exact PySem.W.kia_one PySem.W.kitx_tuple I.kIn ⟨o,h1,h2⟩ e (fun z=>nomatch z) h
 | @dK a kvs ea =>
  cases (show u = Value.ref a from rx)
  obtain ⟨_,_,vs,_,p⟩:=(show ObjOk X.prog X.w H s.heap a (.dK kvs) from I.hok a _ ea)
  obtain ⟨o,es,ep,h1,h2,_⟩:=p
  exact PySem.W.kia_one PySem.W.kitx_dict I.kIn ⟨o,h1,h2.1⟩ e (fun z=>nomatch z) h
 | @dT a kvs ea =>
  cases (show u = Value.ref a from rx)
  obtain ⟨_,_,xs,_,o,es,ep,h1,h2,_⟩:=(show ObjOk X.prog X.w H s.heap a (.dT kvs) from I.hok a _ ea)
  exact PySem.W.kia_one PySem.W.kitx_dict I.kIn ⟨o,h1,h2.1⟩ e (fun z=>nomatch z) h
 | @ins a C dx fs ea cl ha hn htk hm =>
  cases (show u = Value.ref a from rx)
  obtain ⟨mA,O,_⟩:=ins_get I.hok ea
  obtain ⟨od,J,_⟩:=O.look
  exact PySem.W.kia_one (PySem.W.kitx_own (cl.get _) cl.hd ha hn htk hm) I.kIn J e (fun z=>nomatch z) h
end
end L2
namespace L2
open PySem PySem.Spec PyProof.Rows
structure Room (k:Nat) (A:Around):Prop where
 hd:A.handled = none
 dp:A.depth + 3 * k + 5 < recursionLimit
 un:A.units + 16 * k + 200 < cLine
theorem Room.mono {j k:Nat} {A:Around} (r:Room k A) (h:j <= k):Room j A:=⟨r.hd,by have:=r.dp; omega,by have:=r.un; omega⟩
theorem Room.deeper {k:Nat} {A:Around} (r:Room (k + 1) A) (env:Env):Room k (A.deeper env) :=
 ⟨r.hd,by have:=r.dp; show A.depth + 1 + 3 * k + 5 < _; omega,by have:=r.un; show A.units + 3 + 16 * k + 200 < _; omega⟩
theorem Room.depth {k:Nat} {A:Around} (r:Room k A):A.depth < recursionLimit:=by have:=r.dp; omega
theorem Room.units {k:Nat} {A:Around} (r:Room k A):A.units + 64 < cLine:=by have:=r.un; omega
def tNil:TA:=fun _ H Q=>Q [] H
def tCons (ta:TE) (tr:TA):TA:=fun σ H Q=>ta σ H fun x H1=>tr σ H1 fun xs H2=>Q (x :: xs) H2
section
variable {X:Cx} {e:Expr} {es:List Expr} {te:TE} {t:TA} {pos:Pos}
theorem zC:PA X [] tNil:=fun _ _ _ _ H Q I h=>Calls.spliced_nil ⟨[],H,I,.nil,h⟩
theorem zA (ha:PE X e te) (hr:PA X es t) (hs:starEach (e :: es) X.env = (false,eval e X.env) :: starEach es X.env:=by rfl):PA X (e :: es) (tCons te t):=by
 intro pos pins s σ H Q I h
 rw [hs]
 show wpAny _ _ (spliced ((false,eval e X.env) :: backTo pos (starEach es X.env))) _ _ s
 refine Calls.spliced_cons (thn (ha pins s σ H _ I h) fun u s1 ⟨x,H1,I1,r1,q1⟩=>?_)
 exact thn (hr pos pins s1 σ H1 _ I1 q1) fun us s2 ⟨xs,H2,I2,r2,q2⟩=>⟨x :: xs,H2,I2,.cons r1 r2,q2⟩
def tTup (t:TA):TE:=fun σ H Q=>t σ H fun xs H1=>xs.length <= sizeLine /\ ∀ p,H1 p = none -> Q (.ref p) (upd H1 p (.tup xs))
def tLst (t:TA):TE:=fun σ H Q=>t σ H fun xs H1=>xs.length <= sizeLine /\ ∀ p,H1 p = none -> Q (.ref p) (upd H1 p (.lst xs))
theorem yA {x1} (h:PA X es t):PE X (.Tuple es x1 pos) (tTup t):=by
 intro pins s σ H Q I hq
 refine wpAny_Tuple_spliced (thn (h pos pins s σ H _ I hq) fun us s1 ⟨xs,H1,I1,r,z,q⟩=>⟨by rw [← r.length]; exact z,?_⟩)
 have hf:H1 s1.heap.objs.size = none:=I1.hok.fresh (Nat.le_refl _)
 refine ⟨.ref s1.heap.objs.size,upd H1 s1.heap.objs.size (.tup xs),I1.laid (t':=s1.toks) (fun b u e=>Heap.get?_push_of_some _ e) (Nat.le_refl _) ?_,rfl,q _ hf⟩
 exact ⟨z,us,r,⟨_,Heap.get?_push_size _ rfl,rfl,_,rfl⟩⟩
theorem yG (h:PA X es t):PE X (.List es pos) (tLst t):=by
 intro pins s σ H Q I hq
 refine wpAny_List_spliced (thn (h pos pins s σ H _ I hq) fun us s1 ⟨xs,H1,I1,r,z,q⟩=>⟨by rw [← r.length]; exact z,?_⟩)
 have hf:H1 s1.heap.objs.size = none:=I1.hok.fresh (Nat.le_refl _)
 refine ⟨.ref s1.heap.objs.size,upd H1 s1.heap.objs.size (.lst xs),I1.laid (t':=s1.toks) (fun b u e=>Heap.get?_push_of_some _ e) (Nat.le_refl _) ?_,rfl,q _ hf⟩
 exact ⟨z,us,0,r,Heap.get?_push_size _ rfl⟩
end
abbrev Sp:=List V -> Hp -> VK -> XK -> Prop
abbrev CXT:=List Env -> Hp -> Shared -> XK -> Value -> Shared -> Prop
structure Env0 (P:Program) (w:World) (K:PySem.W.Frag) (mg:Str -> Option Value) (base:Heap) (A:Around) (outer:List Env) (s:Shared) (H:Hp):Prop where
 frames:A.frames = some outer
 mod:Mod K mg base
 bs:∀ b o,base.get? b = some o -> s.heap.get? b = some o /\ H b = none
 bsz:base.objs.size <= s.heap.objs.size
 funs:s.heap.FunFrames base outer
 frf:∀ b ∈ frs outer,H b = none
 hok:HOk P w H s.heap
 bare:AllBare s.gens
def CE (outer:List Env) (P:Program) (w:World) (H:Hp) (s:Shared) (Q:VK) (u:Value) (s':Shared):Prop :=
 ∃ v H',s'.os = s.os /\ AllBare s'.gens /\ Un (frs outer) [] H H' s.heap s'.heap /\ HOk P w H' s'.heap /\ RelV v u /\ Q v H'
def CR (CX:CXT) (outer:List Env) (P:Program) (w:World) (H:Hp) (s:Shared) (Q:VK) (E:XK) (r:Result) (s':Shared):Prop :=
 match r with
 | .ok (.ret u)=>CE outer P w H s Q u s'
 | .ok _=>False
 | .error e=>CX outer H s E e s'
structure FnOk (P:Program) (w:World) (K:PySem.W.Frag) (mg:Str -> Option Value) (base:Heap) (CX:CXT) (k:Nat) (f:Addr) (fd:FuncData) (ps:List Str) (sp:Sp):Prop where
 len:∀ vs H Q E,sp vs H Q E -> vs.length = ps.length
 run:∀ (A:Around) (outer:List Env) (s:Shared) (H:Hp) (args:Args) (us:List Value) (vs:List V) (Q:VK) (E:XK),Room k A -> Env0 P w K mg base A outer s H -> BindsTo s fd args (ps.zip us) -> Vals vs us -> sp vs H Q E ->
  codeAny (model P w) A (.call (.ref f) args) (CR CX outer P w H s Q E) s
section
variable {X:Cx} {pins:List (Addr × Obj)} {σ:St} {H:Hp} {s s':Shared}
theorem Inv.env0 (I:Inv X pins σ H s):Env0 X.prog X.w X.K X.mg X.base X.A X.stack s H :=
 ⟨I.ok.frames,I.ok.mod,I.bs,Nat.le_trans I.ok.bsz I.sz,I.stack,I.stkFree,I.hok,I.bare⟩
theorem Inv.after {Q:VK} {u:Value} (I:Inv X pins σ H s) (h:CE X.stack X.prog X.w H s Q u s'):EP X pins σ Q u s':=by
 obtain ⟨v,H',os,bare,un,hok,r,q⟩:=h
 obtain ⟨hh,g,d,t,os'⟩:=s'
 obtain rfl:os' = s.os:=os
 exact ⟨v,H',I.call (h':=hh) (g':=g) (d':=d) (t':=t) (ch:=[]) un hok bare (fun b z=>absurd z (by simp)),r,q⟩
end
def tCall (sp:Sp) (dvs:List V) (E:XK) (t:TA):TE:=fun σ H Q=>t σ H fun vs H1=>sp (vs ++ dvs) H1 Q E
def Binds (K:PySem.W.Frag) (fd:FuncData) (ps:List Str) (ds:List Value):Prop :=
 ∀ (s:Shared) (us:List Value),K.In s.heap -> (us ++ ds).length = ps.length -> BindsTo s fd ⟨us,[]⟩ (ps.zip (us ++ ds))
theorem Binds.all {K:PySem.W.Frag} {fd:FuncData} {ps:List Str} (h:∀ us:List Value,us.length = ps.length -> bindArgs fd ⟨us,[]⟩ = pure (ps.zip us)):Binds K fd ps []:=fun s us _ hl=>by
 rw [List.append_nil] at hl ⊢
 exact .of_eq (h us hl)
def Passes (CX:CXT) (X:Cx) (E:XK):Prop:=∀ (pins:List (Addr × Obj)) (σ:St) (H:Hp) (s:Shared) (e:Value) (s':Shared),Inv X pins σ H s -> CX X.stack H s E e s' -> X.xe e s'
section
variable {X:Cx} {CX:CXT} {k:Nat} {f C:Addr} {fd:FuncData} {ps:List Str} {sp:Sp} {dvs:List V} {ds:List Value} {E:XK} {x m:Str} {p pos apos:Pos} {e o:Expr} {es:List Expr} {ta:TE} {t:TA}
theorem run_fn {pins:List (Addr × Obj)} {σ:St} {H:Hp} {s:Shared} {Q:VK} {us:List Value} {vs:List V} (F:FnOk X.prog X.w X.K X.mg X.base CX k f fd ps sp) (hr:Room k X.A) (hb:Binds X.K fd ps ds) (hd:Vals dvs ds) (hx:Passes CX X E)
  (I:Inv X pins σ H s) (r:Vals vs us) (h:sp (vs ++ dvs) H Q E):wpAny (model X.prog X.w) X.A (call (.ref f) us) (EP X pins σ Q) X.xe s:=by
 have r2:Vals (vs ++ dvs) (us ++ ds):=r.append hd
 have hl:(us ++ ds).length = ps.length:=by rw [← r2.length]; exact F.len _ _ _ _ h
 refine wpAny_call (codeAny_mono (F.run X.A X.stack s H ⟨us,[]⟩ (us ++ ds) (vs ++ dvs) Q E hr I.env0 (hb s us I.kIn hl) r2 h) fun r s' hq=>?_)
 cases r with
 | error e=>exact hx pins σ H s e s' I hq
 | ok fl =>
  cases fl with
  | ret u=>exact I.after hq
  | next=>exact False.elim hq
  | brk=>exact False.elim hq
  | cont=>exact False.elim hq
theorem pe_call (F:FnOk X.prog X.w X.K X.mg X.base CX k f fd ps sp) (hr:Room k X.A) (hg:Gl X x) (hm:X.mg x = some (.ref f)) (hk:PySem.W.keepIn X.K (.ref f) = true) (hb:Binds X.K fd ps ds) (hd:Vals dvs ds) (hx:Passes CX X E)
  (ha:PA X (e :: es) t) (hdb:(x == ("__debug__":Str)) = false:=by decide) (he:starEach (e :: es) X.env = (false,eval e X.env) :: starEach es X.env:=by rfl) (hpl:(backTo pos (starEach es X.env)).any (·.1) = false:=by rfl) :
  PE X (.Call (.Name x p) (e :: es) [] pos) (tCall sp dvs E t):=by
 intro pins s σ H Q I h
 refine wpAny_Call_Name_kw (ld_glob I hg hm ?_ hdb)
 refine PySem.W.callWith_K (h₀:=X.base) I.ok.mod.kin hk (thn (ha pos pins s σ H _ I h) fun us s1 ⟨vs,H1,I1,r,q⟩=>⟨I1.kIn,?_⟩) he hpl
 exact run_fn F hr hb hd hx I1 r q
end
section
variable {X:Cx} {CX:CXT} {k:Nat} {f C:Addr} {fd:FuncData} {ps ks:List Str} {sp:Sp} {E:XK} {x m:Str} {p pos apos kpos:Pos} {e o:Expr} {es:List Expr} {kws:List Keyword} {te ta:TE} {t tk:TA} {nm:Option Str}
variable {g:List Value -> List Value -> List Value} {gV:List V -> List V -> List V}
end
structure FnScope (N P:List Str) (sc:Scope):Prop where
 kind:sc.kind = .function
 co:sc.isCoroutine = false
 gen:sc.isGenerator = false
 nd:N.Nodup
 pre:N.take P.length = P
 par:∀ x ∈ P,sc.names.lookup x = some .local \/ sc.names.lookup x = some .cell
 nofree:∀ y ∈ sc.names,y.2 ≠ .free
theorem bindL_out {kindOf:Str -> Option NameKind} {x:Str}:∀ {binds:List (Str × Value)} {m:Str -> Option Value},(∀ v,(x,v) ∉ binds) -> bindL kindOf binds m x = m x
 | [],_,_=>rfl
 | (n,v) :: r,m,h=>by
  unfold bindL
  rw [bindL_out fun w hw=>h w (List.mem_cons_of_mem _ hw)]
  split
  ·have:x ≠ n:=by rintro rfl; exact h v List.mem_cons_self
   simp [this]
  ·rfl
theorem bindC_out {kindOf:Str -> Option NameKind} {x:Str}:∀ {binds:List (Str × Value)} {m:Str -> Option Value},(∀ v,(x,v) ∉ binds) -> bindC kindOf binds m x = m x
 | [],_,_=>rfl
 | (n,v) :: r,m,h=>by
  unfold bindC
  rw [bindC_out fun w hw=>h w (List.mem_cons_of_mem _ hw)]
  split
  ·rfl
  ·have:x ≠ n:=by rintro rfl; exact h v List.mem_cons_self
   simp [this]
theorem bindL_get {kindOf:Str -> Option NameKind} {x:Str} {v:Value}:∀ {P:List Str} {vs:List Value} {i:Nat} {m:Str -> Option Value},P.Nodup -> P[i]? = some x -> vs[i]? = some v -> kindOf x = some .local ->
  bindL kindOf (P.zip vs) m x = some v
 | [],_,_,_,_,h,_,_=>by simp at h
 | _ :: _,[],_,_,_,_,h,_=>by simp at h
 | p :: P,w :: vs,0,m,nd,h1,h2,hk=>by
  simp at h1 h2; subst h1; subst h2
  show bindL kindOf ((p,w) :: P.zip vs) m p = _
  unfold bindL
  rw [bindL_out fun v hv=>(List.nodup_cons.mp nd).1 (List.of_mem_zip hv).1,if_pos hk]
  simp
 | p :: P,w :: vs,i + 1,m,nd,h1,h2,hk=>by
  show bindL kindOf ((p,w) :: P.zip vs) m x = _
  unfold bindL
  exact bindL_get (i:=i) (List.nodup_cons.mp nd).2 (by simpa using h1) (by simpa using h2) hk
theorem bindC_get {kindOf:Str -> Option NameKind} {x:Str} {v:Value}:∀ {P:List Str} {vs:List Value} {i:Nat} {m:Str -> Option Value},P.Nodup -> P[i]? = some x -> vs[i]? = some v -> kindOf x ≠ some .local ->
  bindC kindOf (P.zip vs) m x = some v
 | [],_,_,_,_,h,_,_=>by simp at h
 | _ :: _,[],_,_,_,_,h,_=>by simp at h
 | p :: P,w :: vs,0,m,nd,h1,h2,hk=>by
  simp at h1 h2; subst h1; subst h2
  show bindC kindOf ((p,w) :: P.zip vs) m p = _
  unfold bindC
  rw [bindC_out fun v hv=>(List.nodup_cons.mp nd).1 (List.of_mem_zip hv).1,if_neg hk]
  simp
 | p :: P,w :: vs,i + 1,m,nd,h1,h2,hk=>by
  show bindC kindOf ((p,w) :: P.zip vs) m x = _
  unfold bindC
  exact bindC_get (i:=i) (List.nodup_cons.mp nd).2 (by simpa using h1) (by simpa using h2) hk
def start (N:List Str) (vs:List V):St:=vs.map some ++ List.replicate (N.length - vs.length) none
def cxOf (CX:CXT) (P:Program) (w:World) (K:PySem.W.Frag) (mg:Str -> Option Value) (base:Heap) (N:List Str) (qual:Str) (scope:Scope) (f:Addr) (cd:Value) (A:Around) (outer:List Env) (s:Shared) (H:Hp) (E:XK):Cx where
 prog:=P
 w:=w
 K:=K
 mg:=mg
 base:=base
 A:=A.deeper (envOfC qual scope s.heap.objs.size f cd)
 N:=N
 s₀:=s
 H₀:=H
 env:=envOfC qual scope s.heap.objs.size f cd
 outer:=outer
 stack:=envOfC qual scope s.heap.objs.size f cd :: outer
 ex:=[]
 calm:=true
 fn:=fun _=>true
 pn:=[]
 xe:=fun e s'=>wpAny (model P w) (A.deeper (envOfC qual scope s.heap.objs.size f cd)) (leaving (envOfC qual scope s.heap.objs.size f cd) e) (fun _ s''=>CX outer H s E e s'') (fun e' s''=>CX outer H s E e' s'') s'
theorem cell_has {sc:Scope} {n:Nat} {x:Str} (h:sc.names.lookup x = some .cell):∃ c,(cellsFrom n sc.names []).lookup x = some c:=by
 have q:=PySem.W.cellsFrom_some sc.names n [] (.inl h)
 exact Option.isSome_iff_exists.mp q
theorem inv_start {CX:CXT} {P:Program} {w:World} {K:PySem.W.Frag} {mg:Str -> Option Value} {base:Heap} {N ps:List Str} {qual:Str} {scope:Scope} {f:Addr} {cd:Value} {A:Around} {outer:List Env} {s s1:Shared} {H:Hp} {E:XK} {us:List Value} {vs:List V}
  (S:FnScope N ps scope) (hd:A.handled = none) (e0:Env0 P w K mg base A outer s H) (hl:vs.length = ps.length) (r:Vals vs us)
  (x:InCallC s s.heap.objs.size (bindL (envOfC qual scope s.heap.objs.size f cd).kindOf (ps.zip us) fun _=>none) (cellsFrom (s.heap.objs.size + 1) scope.names []) (bindC (envOfC qual scope s.heap.objs.size f cd).kindOf (ps.zip us) fun _=>none) s1) :
  Inv (cxOf CX P w K mg base N qual scope f cd A outer s H E) [] (start N vs) H s1:=by
 have hpl:ps.length <= N.length:=by have:=congrArg List.length S.pre; rw [List.length_take] at this; omega
 obtain ⟨h1,tk,rfl,hk⟩:=x.done
 have noA:∀ b:Addr,b ∉ (cxOf CX P w K mg base N qual scope f cd A outer s H E).ex:=fun b z=>absurd (show b ∈ ([]:List Addr) from z) (by simp)
 refine ⟨⟨e0.mod,S.kind,rfl,rfl,Nat.le_refl _,fun y z c h1 h2=>?_,fun y hy=>?_,fun y c _ h=>?_,fun _=>hd,Around.frames_deeper e0.frames,.inr ⟨rfl,rfl⟩,fun b z=>absurd z (noA b),e0.bs,e0.bsz,fun b _ _=>noA b,fun b z=>absurd z (noA b),e0.funs,e0.frf⟩,
  rfl,e0.bare,Un.kept hk,⟨_,x.toInCall.ns,fun i y v h1 h2 h3=>?_⟩,fun y c h=>⟨_,x.cell y c h⟩,e0.hok.fresh (Nat.le_refl _),fun y c h=>?_,fun p hp=>absurd (show p ∈ ([]:List (Addr × Obj)) from hp) (by simp),e0.hok.kept hk,?_⟩
 ·exact name_of_addr x.apart (PySem.mem_of_lookup h1) (PySem.mem_of_lookup h2)
 ·have hy:scope.names.lookup y = some .cell \/ scope.names.lookup y = some .free:=hy
  rcases hy with hy | hy
  ·exact cell_has hy
  ·exact absurd rfl (S.nofree _ (PySem.mem_of_lookup hy))
 ·exact Nat.le_of_lt (x.above y c (PySem.mem_of_lookup h))
 ·have hi:i < vs.length:=by
   unfold start at h2
   by_cases hi:i < vs.length
   ·exact hi
   ·rw [List.getElem?_append_right (by simpa using hi)] at h2
    rw [List.getElem?_replicate] at h2
    split at h2 <;> cases h2
  have ha:vs[i]? = some v:=by
   unfold start at h2
   rw [List.getElem?_append_left (by simpa using hi),List.getElem?_map] at h2
   cases e:vs[i]? with
   | none=>rw [e] at h2; cases h2
   | some a=>rw [e] at h2; cases h2; rfl
  obtain ⟨u,hu,rv⟩:=r.get ha
  have hp:ps[i]? = some y:=by
   rw [← S.pre,List.getElem?_take_of_lt (by omega)]; exact h1
  have ndP:ps.Nodup:=by rw [← S.pre]; exact S.nd.sublist (List.take_sublist _ _)
  refine ⟨u,rv,?_⟩
  rcases S.par y (List.mem_of_getElem? hp) with k | k
  ·exact .inl ⟨k,bindL_get ndP hp hu k⟩
  ·obtain ⟨c,e⟩:=cell_has (n:=s.heap.objs.size + 1) k
   refine .inr ⟨.inl k,c,e,?_⟩
   have q:=x.cell y c e
   rw [bindC_get ndP hp hu (by show scope.names.lookup y ≠ _; rw [k]; decide)] at q
   exact q
 ·exact e0.hok.fresh (Nat.le_of_lt (x.above y c (PySem.mem_of_lookup h)))
 ·unfold start
  show _ = N.length
  rw [List.length_append,List.length_map,List.length_replicate]
  omega
theorem fn_of {CX:CXT} {P:Program} {w:World} {K:PySem.W.Frag} {mg:Str -> Option Value} {base:Heap} {k:Nat} {f:Addr} {name qual:Str} {params:Arguments} {body:List Stmt} {scope:Scope} {dV kV doc pm cdv ct oc:Value} {an od:Option Addr}
  {osl:Array (Option Value)} {N ps:List Str} {sp:Sp} (lk:K.lookup f = some ⟨oc,od,.func (PySem.W.fnOf name qual params body scope dV kV doc pm an cdv ct),osl⟩) (hcd:PySem.W.codeIn K cdv qual = true) (S:FnScope N ps scope)
  (len:∀ vs H Q E,sp vs H Q E -> vs.length = ps.length)
  (hbody:∀ (A:Around) (outer:List Env) (s:Shared) (H:Hp) (vs:List V) (Q:VK) (E:XK),Room k (A.deeper (envOfC qual scope s.heap.objs.size f cdv)) -> sp vs H Q E ->
   ∃ t,PSs (cxOf CX P w K mg base N qual scope f cdv A outer s H E) body t /\ t { nx:=fun _ H'=>Q .non H',rt:=Q } (start N vs) H) :
  FnOk P w K mg base CX (k + 1) f (PySem.W.fnOf name qual params body scope dV kV doc pm an cdv ct) ps sp:=by
 refine ⟨len,fun A outer s H args us vs Q E hr e0 hb r hsp=>?_⟩
 have hl:=len _ _ _ _ hsp
 have KX:K.In s.heap:=e0.mod.kin.keeps fun b o e=>(e0.bs b o e).1
 have lim:s.heap.NoLimit:=e0.mod.nolimit.keeps fun b o e=>(e0.bs b o e).1
 have hkind:∀ y ∈ ps.zip us,scope.names.lookup y.1 = some .local \/ (scope.names.lookup y.1 = some .cell /\ ((cellsFrom (s.heap.objs.size + 1) scope.names []).lookup y.1).isSome = true):=fun ⟨n,v⟩ hy=>by
  rcases S.par n (List.of_mem_zip hy).1 with q | q
  ·exact .inl q
  ·exact .inr ⟨q,PySem.W.cellsFrom_some _ _ _ (.inl q)⟩
 refine codeAny_call_function hr.depth (KX _ _ lk) rfl S.co S.gen rfl (PySem.W.codeRec_of KX hcd) (hb _ _ _ _ ?_)
 refine wpAny_newFunctionEnv_cells S.kind hkind fun env he s1 x=>?_
 subst he
 refine ⟨lim.keeps x.toInCall.keep,codeAny_func ?_⟩
 obtain ⟨t,ht,hq⟩:=hbody A outer s H vs Q E (hr.deeper _) hsp
 have I:Inv (cxOf CX P w K mg base N qual scope f cdv A outer s H E) [] (start N vs) H s1:=inv_start S hr.hd e0 hl r x
 refine wpAny_mono (ht [] s1 (start N vs) H _ I hq) (fun fl s' hs=>?_) fun e s' hs=>hs
 have fin:∀ {σ':St} {H':Hp} {v:V} {u:Value},Inv (cxOf CX P w K mg base N qual scope f cdv A outer s H E) [] σ' H' s' -> RelV v u -> Q v H' -> CE outer P w H s Q u s' :=
  fun {σ' H' v u} J rv q=>⟨v,H',J.os,J.bare,J.base,J.hok,rv,q⟩
 cases fl with
 | ret u =>
  obtain ⟨v,σ',H',J,rv,q⟩:=hs
  exact fin J rv q
 | next =>
  obtain ⟨σ',H',J,q⟩:=hs
  exact fin (v:=V.non) (u:=Value.none) J rfl q
 | brk =>
  obtain ⟨_,_,_,q⟩:=hs
  exact False.elim q
 | cont =>
  obtain ⟨_,_,_,q⟩:=hs
  exact False.elim q
end L2
namespace L2
open PySem PySem.Spec PyProof.Rows
section
variable {X:Cx} {x:Str} {p pos:Pos} {e:Expr} {es:List Expr} {t:TA} {id T:String} {r:List V -> Hp -> VK -> Prop}
def tCB (r:List V -> Hp -> VK -> Prop) (t:TA):TE:=fun σ H Q=>t σ H fun vs H1=>r vs H1 Q
theorem zQ (hc:CallR X (.builtin id) r) (hg:Gl X x) (hm:X.mg x = none) (hv:bootBuiltins x = some (.builtin id)) (ha:PA X (e :: es) t) (hn:x ≠ "__name__":=by decide) (hdb:(x == ("__debug__":Str)) = false:=by decide)
  (he:starEach (e :: es) X.env = (false,eval e X.env) :: starEach es X.env:=by rfl) (hpl:(backTo pos (starEach es X.env)).any (·.1) = false:=by rfl):PE X (.Call (.Name x p) (e :: es) [] pos) (tCB r t):=by
 intro pins s σ H Q I h
 refine wpAny_Call_Name_kw (jM I hg hm hv ?_ hn hdb)
 exact PyProof.Rows.callWith_builtin1 (thn (ha pos pins s σ H _ I h) fun us s1 ⟨vs,H1,I1,r1,q1⟩=>hc pins s1 σ H1 vs us Q I1 r1 q1) he hpl
theorem zV (hc:CallR X (.type T) r) (hg:Gl X x) (hm:X.mg x = none) (hv:bootBuiltins x = some (.type T)) (ha:PA X (e :: es) t) (hn:x ≠ "__name__":=by decide) (hdb:(x == ("__debug__":Str)) = false:=by decide)
  (he:starEach (e :: es) X.env = (false,eval e X.env) :: starEach es X.env:=by rfl) (hpl:(backTo pos (starEach es X.env)).any (·.1) = false:=by rfl):PE X (.Call (.Name x p) (e :: es) [] pos) (tCB r t):=by
 intro pins s σ H Q I h
 refine wpAny_Call_Name_kw (jM I hg hm hv ?_ hn hdb)
 exact PyProof.Rows.callWith_type1 (thn (ha pos pins s σ H _ I h) fun us s1 ⟨vs,H1,I1,r1,q1⟩=>hc pins s1 σ H1 vs us Q I1 r1 q1) he hpl
end
end L2
namespace HT
open PySem PyProof.Rows
section
open PySem.SeqAt
open PySem.AutoSeq1 (wpAny_loadPart')
open PySem.MeetsSeq PySem.MeetsSeq2 PySem.MeetsSeq3
end
section
variable {prog:Program} {w:World} {A:Around} {E:Value -> Shared -> Prop} {s:Shared}
theorem cat_tup {t b:Addr} {vs ws:List Value} {Q:Value -> Shared -> Prop} (ht:IsTup s.heap t vs.toArray) (hb:IsTup s.heap b ws.toArray) (hv:vs ≠ [])
  (h1:ws = [] -> Q (.ref t) s) (h2:ws ≠ [] -> Q (.ref s.heap.objs.size) { s with heap:=s.heap.push { cls:=.type "tuple",data:=.seq (vs ++ ws).toArray } })
  (hsz:vs.length + ws.length <= sizeLine):wpAny (model prog w) A (binaryOp .Add (.ref t) (.ref b)) Q E s:=by
 obtain ⟨⟨cls,dd,data,sl⟩,ho,hc,n,hd⟩:=id ht
 obtain ⟨⟨cls2,dd2,data2,sl2⟩,ho2,hc2,n2,hd2⟩:=id hb
 simp only at hc hd hc2 hd2
 subst hc hd hc2 hd2
 have e:vs.toArray ++ ws.toArray = (vs ++ ws).toArray:=by simp
 by_cases hw:ws = []
 ·exact concat_meets ⟨_,ho,rfl⟩ ⟨_,ho2,rfl⟩ noFill_tuple_add seq_tuple_add PySem.F.slot_tuple_add PySem.F.entry_tuple_add (PySem.F.args_tuple_add_2 _ _)
   (tuple_addW1 t b vs.toArray ws.toArray n n2 dd dd2 sl sl2 (by simpa using hv) (by simp [hw])) ⟨ho,ho2,h1 hw⟩
 ·refine concat_meets ⟨_,ho,rfl⟩ ⟨_,ho2,rfl⟩ noFill_tuple_add seq_tuple_add PySem.F.slot_tuple_add PySem.F.entry_tuple_add (PySem.F.args_tuple_add_2 _ _)
   (tuple_addW2 t b vs.toArray ws.toArray n n2 dd dd2 sl sl2 (by simpa using hv) (by simpa using hw) (by rw [List.size_toArray,List.size_toArray]; exact hsz)) ⟨ho,ho2,?_⟩
  rw [e]
  exact h2 hw
def sIx (n d:Nat):Option Int -> Nat
 | none=>d
 | some v=>if v < 0 then (v + (n:Int)).toNat else min v.toNat n
theorem sIx_none (n d:Nat):sIx n d none = d:=rfl
theorem sIx_nat (n d k:Nat):sIx n d (some (k:Int)) = min k n:=by
 show (if (k:Int) < 0 then ((k:Int) + (n:Int)).toNat else min (k:Int).toNat n) = min k n
 rw [if_neg (by omega),Int.toNat_natCast]
theorem sIx_le (n d:Nat) (hd:d <= n) (o:Option Int):sIx n d o <= n:=by
 cases o with
 | none=>exact hd
 | some v =>
  show (if v < 0 then (v + (n:Int)).toNat else min v.toNat n) <= n
  by_cases hv:v < 0
  ·rw [if_pos hv]; omega
  ·rw [if_neg hv]; exact Nat.min_le_right _ _
theorem clip_eq (v:Int) (n d:Nat):(if v < 0 then max (v + (n:Int)) 0 else min v (n:Int)) = ((sIx n d (some v):Nat):Int):=by
 show (if v < 0 then max (v + (n:Int)) 0 else min v (n:Int)) = (((if v < 0 then (v + (n:Int)).toNat else min v.toNat n):Nat):Int)
 by_cases hv:v < 0
 ·simp only [if_pos hv]; omega
 ·simp only [if_neg hv]; omega
theorem adjust_gen (lo hi:Option Int) (n:Nat):Builtin.Slice.sliceAdjust lo hi 1 (n:Int) = (((sIx n 0 lo:Nat):Int),((sIx n n hi:Nat):Int)):=by
 have h1:¬ ((1:Int) < 0):=by omega
 unfold Builtin.Slice.sliceAdjust
 simp only [h1,if_false]
 refine Prod.ext ?_ ?_
 ·cases lo with
  | none=>rfl
  | some v=>exact clip_eq v n 0
 ·cases hi with
  | none=>rfl
  | some v=>exact clip_eq v n n
theorem places_gen (i j:Nat):Builtin.Slice.slicePlaces (i:Int) (j:Int) 1 = j - i:=by
 unfold Builtin.Slice.slicePlaces
 have h1:(1:Int) > 0:=by omega
 simp only [h1,if_true,Int.ediv_one]
 split <;> omega
theorem slicePart_ {v:Value} {o:Option Int} {Q:Option Int -> Shared -> Prop} (p:IsPart v o) (h:Q o s):wpAny (model prog w) A (Builtin.Slice.slicePartIndex v) Q E s:=by
 cases p with
 | none=>exact slicePart_none h
 | int i t=>exact slicePart_int h
theorem xT {sl:Addr} {vl vu:Value} {lo hi:Option Int} {n:Nat} {Q:Int × Int × Nat -> Shared -> Prop} (hs:s.heap.IsSliceOf sl vl vu .none) (pl:IsPart vl lo) (pu:IsPart vu hi)
  (h:Q (((sIx n 0 lo:Nat):Int),1,sIx n n hi - sIx n 0 lo) s):wpAny (model prog w) A (Builtin.Slice.sliceApplied (.ref sl) (pure (n:Int))) Q E s:=by
 obtain ⟨os,hos,hcs,hds⟩:=id hs
 unfold Builtin.Slice.sliceApplied Builtin.Slice.sliceFields
 refine wpAny_bind (wpAny_bind (wpAny_field hos hds (x:=vl) rfl (wpAny_bind (wpAny_field hos hds (x:=vu) rfl (wpAny_bind (wpAny_field hos hds (x:=.none) rfl (wpAny_pure ?_)))))))
 refine wpAny_bind (slicePart_none ?_)
 show wpAny _ _ (if ((1:Int) == 0) = true then _ else _) _ _ s
 rw [if_neg (by decide)]
 refine wpAny_bind (slicePart_ pl (wpAny_bind (slicePart_ pu (wpAny_bind (wpAny_pure ?_)))))
 show wpAny _ _ (match Builtin.Slice.sliceAdjust lo hi 1 (n:Int) with | (lo,hi)=>pure (lo,(1:Int),Builtin.Slice.slicePlaces lo hi 1)) _ _ s
 rw [adjust_gen lo hi n]
 show wpAny _ _ (pure (((sIx n 0 lo:Nat):Int),(1:Int),Builtin.Slice.slicePlaces ((sIx n 0 lo:Nat):Int) ((sIx n n hi:Nat):Int) 1)) _ _ s
 rw [places_gen]
 exact wpAny_pure h
theorem pick_gen (xs:Array Value) (i k:Nat):((List.range k).filterMap fun (m:Nat)=>xs[((i:Int) + (m:Int) * 1).toNat]?).toArray = ((xs.toList.drop i).take k).toArray:=by
 have e:(fun (m:Nat)=>xs[((i:Int) + (m:Int) * 1).toNat]?) = fun m=>xs[i + m]?:=by
  funext m
  have:((i:Int) + (m:Int) * 1).toNat = i + m:=by omega
  rw [this]
 rw [e]
 have:=pick_run xs i k
 rw [List.filterMap_map] at this
 have e2:((fun x=>xs[x]?) ∘ fun x=>i + x) = fun m=>xs[i + m]?:=rfl
 rw [e2] at this
 rw [this]
theorem getItem_tuple_cut {t sl:Addr} {items:Array Value} {vl vu:Value} {lo hi:Option Int} {Q:Value -> Shared -> Prop} (ht:IsTup s.heap t items) (hs:s.heap.IsSliceOf sl vl vu .none) (pl:IsPart vl lo) (pu:IsPart vu hi)
  (hw:¬ (sIx items.size 0 lo = 0 /\ sIx items.size items.size hi = items.size))
  (h:Q (.ref s.heap.objs.size) { s with heap:=s.heap.push { cls:=.type "tuple",data:=.seq ((items.toList.drop (sIx items.size 0 lo)).take (sIx items.size items.size hi - sIx items.size 0 lo)).toArray } })
  (hsz:items.size <= sizeLine):wpAny (model prog w) A (getItem (.ref t) (.ref sl)) Q E s:=by
 have htake:sizeOk (.seq ((items.toList.drop (sIx items.size 0 lo)).take (sIx items.size items.size hi - sIx items.size 0 lo)).toArray):=by
  show ((items.toList.drop (sIx items.size 0 lo)).take (sIx items.size items.size hi - sIx items.size 0 lo)).toArray.size <= sizeLine
  rw [List.size_toArray,List.length_take,List.length_drop,Array.length_toList]
  omega
 have hj:sIx items.size items.size hi <= items.size:=sIx_le _ _ (Nat.le_refl _) hi
 obtain ⟨os,hos,hcs,hds⟩:=id hs
 have hTs:s.TypeIs (.ref sl) "slice":=⟨os,hos,hcs⟩
 unfold getItem
 try with_reducible refine wpAny_holding ?_
 first | refine wpAny_bind (wpAny_pure ?_) | skip
 refine wpAny_bind (wpAny_sequenceKey ht.typeIs (by decide) ?_)
 refine wpAny_bind (wpAny_callSpecial?_slot (name:=Str.ofString "__getitem__") ht.typeIs PyProof.Rows.slot_tuple_getitem
  (wpAny_call_entry PyProof.Rows.slot_tuple_getitem ht.typeIs entry_tuple_getitem ?_ (args_tuple_getitem _ _)))
 show wpAny _ _ (Builtin.Tuple.tupleItemsOf (.ref t) >>= _) _ _ s
 refine wpAny_bind (tupleItemsOf_ ht ?_)
 refine wpAny_bind (wpAny_typeOf hTs ?_)
 rw [if_pos (by decide)]
 refine wpAny_bind (xT hs pl pu ?_)
 have hno:¬ ((((sIx items.size 0 lo:Nat):Int) == 0 && (1:Int) == 1 && (sIx items.size items.size hi - sIx items.size 0 lo) == items.size) = true):=by
  intro q
  rw [Bool.and_eq_true,Bool.and_eq_true] at q
  have q1:((sIx items.size 0 lo:Nat):Int) = 0:=eq_of_beq q.1.1
  have q2:sIx items.size items.size hi - sIx items.size 0 lo = items.size:=eq_of_beq q.2
  exact hw ⟨by omega,by omega⟩
 show wpAny _ _ (if (((sIx items.size 0 lo:Nat):Int) == 0 && (1:Int) == 1 && (sIx items.size items.size hi - sIx items.size 0 lo) == items.size) = true then _ else _) _ _ s
 rw [if_neg hno,pick_gen]
 first
  | exact wpAny_bind (m:=Builtin.Tuple.tupleExact _) (wpAny_newObj_type (wpAny_pure ⟨_,rfl,wpAny_pure h⟩) htake)
  | exact wpAny_bind (m:=Builtin.Tuple.tupleExact _) (wpAny_newObj_type (wpAny_bind (wpAny_pure (wpAny_pure ⟨_,rfl,wpAny_pure h⟩))) htake)
  | exact wpAny_bind (wpAny_bind (m:=Builtin.Tuple.tupleExact _) (wpAny_newObj_type (wpAny_pure (wpAny_pure ⟨_,rfl,wpAny_pure h⟩)) htake))
  | exact wpAny_bind (wpAny_bind (m:=Builtin.Tuple.tupleExact _) (wpAny_newObj_type (wpAny_pure ⟨_,rfl,wpAny_pure h⟩) htake))
end
end HT
namespace L2
open PySem PySem.Spec PyProof.Rows
abbrev TO:=St -> Hp -> (Option Int -> Hp -> Prop) -> Prop
def PO (X:Cx) (e:Option Expr) (t:TO):Prop :=
 ∀ (pins:List (Addr × Obj)) (s:Shared) (σ:St) (H:Hp) (Q:Option Int -> Hp -> Prop),Inv X pins σ H s -> t σ H Q ->
  wpAny (model X.prog X.w) X.A (evalPart e X.env) (fun u s'=>∃ o H',Inv X pins σ H' s' /\ IsPart u o /\ Q o H') X.xe s
def tNoPart:TO:=fun _ H Q=>Q none H
def tPart (t:TE):TO:=fun σ H Q=>t σ H fun x H1=>∃ i,x = .int i /\ Q (some i) H1
section
variable {X:Cx} {e:Expr} {te:TE} {lo hi:Option Expr} {tl th:TO} {pos p2:Pos}
theorem xJ:PO X none tNoPart:=by
 intro pins s σ H Q I h
 rw [evalPart_none]
 exact wpAny_pure ⟨none,H,I,.none,h⟩
theorem zX (h:PE X e te):PO X (some e) (tPart te):=by
 intro pins s σ H Q I hw
 rw [evalPart_some]
 refine thn (h pins s σ H _ I hw) fun u s1 ⟨x,H1,I1,r1,q1⟩=>?_
 obtain ⟨i,rfl,q⟩:=q1
 obtain ⟨t,rfl⟩:=r1
 exact ⟨some i,H1,I1,.int i t,q⟩
def SlR (X:Cx) (r:V -> Option Int -> Option Int -> Hp -> VK -> Prop):Prop :=
 ∀ (pins:List (Addr × Obj)) (s:Shared) (σ:St) (H:Hp) (x:V) (v vl vu:Value) (lo hi:Option Int) (sl:Addr) (Q:VK),Inv X pins σ H s -> RelV x v -> s.heap.IsSliceOf sl vl vu .none -> IsPart vl lo -> IsPart vu hi -> r x lo hi H Q ->
  ∃ T id,typeLookup (.type T) "__getitem__" = pure (some (.builtin id)) /\ s.TypeIs v T /\ wpAny (model X.prog X.w) X.A (getItem v (.ref sl)) (EP X pins σ Q) X.xe s
def tSl (r:V -> Option Int -> Option Int -> Hp -> VK -> Prop) (te:TE) (tl th:TO):TE:=fun σ H Q=>te σ H fun x H1=>tl σ H1 fun l H2=>th σ H2 fun u H3=>r x l u H3 Q
theorem z3 {r:V -> Option Int -> Option Int -> Hp -> VK -> Prop} (hr:SlR X r) (he:PE X e te) (hl:PO X lo tl) (hu:PO X hi th):PE X (.Subscript e (.Slice lo hi none p2) pos) (tSl r te tl th):=by
 intro pins s σ H Q I h
 refine Subscript_ (thn (he pins s σ H _ I h) fun v s1 ⟨x,H1,I1,r1,q1⟩=>?_)
 refine wpAny_Slice (thn (hl pins s1 σ H1 _ I1 q1) fun vl s2 ⟨l,H2,I2,pl,q2⟩=>thn (hu pins s2 σ H2 _ I2 q2) fun vu s3 ⟨u,H3,I3,pu,q3⟩=>?_)
 rw [evalPart_none]
 refine wpAny_pure ?_
 have I4:Inv X pins σ H3 { s3 with heap:=s3.heap.push { cls:=.type "slice",data:=.fields #[vl,vu,.none] } }:=I3.kept (t':=s3.toks) fun b ob q=>Heap.get?_push_of_some _ q
 obtain ⟨T,id,hT,ht,hg⟩:=hr pins { s3 with heap:=s3.heap.push { cls:=.type "slice",data:=.fields #[vl,vu,.none] } } σ H3 x v vl vu l u s3.heap.objs.size Q I4 r1 (Heap.IsSliceOf.new ..) pl pu q3
 show wpAny (model X.prog X.w) X.A (subscriptTail e (.Slice lo hi none p2) v (.ref s3.heap.objs.size)) (EP X pins σ Q) X.xe { s3 with heap:=s3.heap.push { cls:=.type "slice",data:=.fields #[vl,vu,.none] } }
 exact tail_any (ops:=[.ref s3.heap.objs.size,v]) ht hT hg (by with_unfolding_all rfl)
def cutV (xs:List V) (lo hi:Option Int):List V:=(xs.drop (HT.sIx xs.length 0 lo)).take (HT.sIx xs.length xs.length hi - HT.sIx xs.length 0 lo)
theorem cutV_length (xs:List V) (lo hi:Option Int):(cutV xs lo hi).length <= xs.length:=by
 unfold cutV
 rw [List.length_take,List.length_drop]
 omega
def rCatT (K:PySem.W.Frag):R2:=fun x y H Q=>∃ a b xs ys,x = .ref a /\ y = .ref b /\ SqT K H a xs /\ SqT K H b ys /\ xs ≠ [] /\ xs.length + ys.length <= sizeLine /\
 (ys = [] -> Q (.ref a) H) /\ (ys ≠ [] -> ∀ p,H p = none -> Q (.ref p) (upd H p (.tup (xs ++ ys))))
theorem Vals.nil_iff {xs:List V} {us:List Value} (r:Vals xs us):us = [] ↔ xs = []:=by
 cases r with
 | nil=>simp
 | cons _ _=>simp
theorem op_catT:OpR X (binaryOp .Add) (rCatT X.K):=by
 intro pins s σ H x y v u Q I rx ry h
 obtain ⟨a,b,xs,ys,rfl,rfl,ha,hb,hx,hz,q1,q2⟩:=h
 cases rx
 cases ry
 obtain ⟨its,r1,p1,_⟩:=I.tuple ha
 obtain ⟨its2,r2,p2,_⟩:=I.tuple hb
 refine HT.cat_tup p1 p2 (fun z=>hx (r1.nil_iff.mp z)) (fun z=>⟨.ref a,H,I,rfl,q1 (r2.nil_iff.mp z)⟩) (fun z=>?_) (by rw [← r1.length,← r2.length]; exact hz)
 refine ⟨.ref s.heap.objs.size,_,I.laid (t':=s.toks) (o:=.tup (xs ++ ys)) (fun b ob q=>Heap.get?_push_of_some _ q) (Nat.le_refl _) ?_,rfl,q2 (fun w=>z (r2.nil_iff.mpr w)) _ (I.hok.fresh (Nat.le_refl _))⟩
 exact ⟨by rw [List.length_append]; exact hz,_,r1.append r2,IsTup.new _ _⟩
end
end L2
namespace L2
open PySem PySem.Spec PyProof.Rows
def ixN (n:Nat) (i:Int):Option Nat:=if 0 <= i then (if i < n then some i.toNat else none) else if -(n:Int) <= i then some (i + n).toNat else none
def atI {α:Type} (xs:List α) (i:Int):Option α:=(ixN xs.length i).bind fun j=>xs[j]?
theorem ixN_seq {n:Nat} {i:Int} {j:Nat} (h:ixN n i = some j):seqIndex? i n = some j /\ j < n /\ -(n:Int) <= i /\ i < n:=by
 unfold ixN at h
 by_cases h0:0 <= i
 ·rw [if_pos h0] at h
  by_cases h1:i < n
  ·rw [if_pos h1] at h
   have e:i.toNat = j:=Option.some.inj h
   exact ⟨by rw [seqIndex_of h0 h1,e],by omega,by omega,h1⟩
  ·rw [if_neg h1] at h; cases h
 ·rw [if_neg h0] at h
  by_cases h1:-(n:Int) <= i
  ·rw [if_pos h1] at h
   have e:(i + n).toNat = j:=Option.some.inj h
   exact ⟨by rw [seqIndex_neg (by omega) h1,e],by omega,h1,by omega⟩
  ·rw [if_neg h1] at h; cases h
theorem atI_get {α:Type} {xs:List α} {i:Int} {v:α} (h:atI xs i = some v):∃ j,seqIndex? i xs.length = some j /\ xs[j]? = some v /\ j < xs.length /\ -(xs.length:Int) <= i /\ i < xs.length:=by
 unfold atI at h
 cases e:ixN xs.length i with
 | none=>rw [e] at h; cases h
 | some j =>
  rw [e] at h
  obtain ⟨h1,h2,h3,h4⟩:=ixN_seq e
  exact ⟨j,h1,h,h2,h3,h4⟩
theorem jS {α:Type} {xs:List α} {j:Nat} {v:α} (h:xs[j]? = some v):atI xs (j:Int) = some v:=by
 have hj:j < xs.length:=(List.getElem?_eq_some_iff.mp h).1
 have e:ixN xs.length (j:Int) = some j:=by
  unfold ixN
  rw [if_pos (by omega),if_pos (by omega)]; simp
 unfold atI; rw [e]; exact h
def PlainIx (b:Expr):Prop:=∀ o i,subscripted b false o i = operate [o,i] (getItem o i)
def IxR (X:Cx) (r:R2):Prop :=
 ∀ (value slice:Expr) (pins:List (Addr × Obj)) (s:Shared) (σ:St) (H:Hp) (x y:V) (v u:Value) (Q:VK),Inv X pins σ H s -> RelV x v -> RelV y u -> r x y H Q ->
  subscripted slice false v u = operate [v,u] (getItem v u) -> wpAny (model X.prog X.w) X.A (subscriptTail value slice v u) (EP X pins σ Q) X.xe s
def MtR (X:Cx) (id:String) (r:V -> List V -> Hp -> VK -> Prop):Prop :=
 ∀ (pins:List (Addr × Obj)) (s:Shared) (σ:St) (H:Hp) (x:V) (xs:List V) (v:Value) (us:List Value) (Q:VK),Inv X pins σ H s -> RelV x v -> Vals xs us -> r x xs H Q ->
  wpAny (model X.prog X.w) X.A (call (.builtin id) (v :: us)) (EP X pins σ Q) X.xe s
section
variable {X:Cx} {a b:Expr} {ta tb:TE} {pos:Pos}
theorem zW {r:R2} (hr:IxR X r) (ha:PE X a ta) (hb:PE X b tb) (hs:PlainIx b):PE X (.Subscript a b pos) (tOp r ta tb):=by
 intro pins s σ H Q I h
 exact Subscript_ (binT ha hb I h fun v u s2 x y H2 I2 rx ry q=>hr a b pins s2 σ H2 x y v u Q I2 rx ry q (hs _ _))
def rIxL (K:PySem.W.Frag):R2:=fun x y H Q=>∃ p xs i v,x = .ref p /\ y = .int i /\ SqL K H p xs /\ atI xs i = some v /\ Q v H
def rIxT (K:PySem.W.Frag):R2:=fun x y H Q=>∃ p xs i v,x = .ref p /\ y = .int i /\ SqT K H p xs /\ atI xs i = some v /\ Q v H
theorem ix_list:IxR X (rIxL X.K):=by
 intro value slice pins s σ H x y v u Q I rx ry h hs
 obtain ⟨p,xs,i,z,rfl,rfl,hq,he,q⟩:=h
 cases rx
 obtain ⟨t,rfl⟩:=ry
 obtain ⟨its,r,pl,hz⟩:=I.list hq
 obtain ⟨j,h1,h2,h3,h4,h5⟩:=atI_get he
 obtain ⟨w,ew,rw'⟩:=r.get h2
 have hl:=r.length
 have hn:=line63
 have fin:EP X pins σ Q w s:=⟨z,H,I,rw',q⟩
 by_cases h0:0 <= i
 ·have hj:i.toNat = j:=by
   rw [seqIndex_of h0 h5] at h1
   exact Option.some.inj h1
  exact item_listR pl.isList h0 (by omega) (by rw [hj]; simpa using ew) fin hs
 ·have hj:(i + (its.toArray.size:Int)).toNat = j:=by
   rw [seqIndex_neg (by omega) h4] at h1
   rw [List.size_toArray,← hl]
   exact Option.some.inj h1
  exact subscriptTail_builtinR (x:=w) pl.isList.typeIs slot_list_getitem.lookup
   (wpAny_getItem_list_neg (Q:=fun r s'=>r = w /\ EP X pins σ Q r s') pl.isList (by omega) (by rw [List.size_toArray] <;> omega) (by omega) (by rw [hj]; simpa using ew) ⟨rfl,fin⟩) hs
theorem ix_tup:IxR X (rIxT X.K):=by
 intro value slice pins s σ H x y v u Q I rx ry h hs
 obtain ⟨p,xs,i,z,rfl,rfl,hq,he,q⟩:=h
 cases rx
 obtain ⟨t,rfl⟩:=ry
 obtain ⟨its,r,pl,hz⟩:=I.tuple hq
 obtain ⟨j,h1,h2,h3,h4,h5⟩:=atI_get he
 obtain ⟨w,ew,rw'⟩:=r.get h2
 have hl:=r.length
 have hn:=line63
 have fin:EP X pins σ Q w s:=⟨z,H,I,rw',q⟩
 exact subscriptTail_builtinR (x:=w) pl.typeIs slot_tuple_getitem.lookup
  (getItem_tuple (j:=j) (Q:=fun r s'=>r = w /\ EP X pins σ Q r s') pl (by omega) (by omega) (by rw [List.size_toArray,← hl]; exact h1) (by simpa using ew) ⟨rfl,fin⟩) hs
theorem mapSeq_set (its:List Value) (n j:Nat) (u:Value):Obj.mapSeq (·.setIfInBounds j u) { cls:=.type "list",data:=.seq its.toArray n } = { cls:=.type "list",data:=.seq (its.set j u).toArray n }:=by
 simp [Obj.mapSeq]
theorem Inv.lst {pins:List (Addr × Obj)} {σ:St} {H:Hp} {s:Shared} {p:Addr} {xs:List V} (I:Inv X pins σ H s) (h:H p = some (.lst xs)) :
  ∃ (its:List Value) (n:Nat),Vals xs its /\ s.heap.get? p = some { cls:=.type "list",data:=.seq its.toArray n } /\ xs.length <= sizeLine:=by
 obtain ⟨z,its,n,r,e⟩:=I.hok p _ h
 exact ⟨its,n,r,e,z⟩
theorem Inv.lstUpd {pins:List (Addr × Obj)} {σ:St} {H:Hp} {s:Shared} {p:Addr} {xs ys:List V} {its its':List Value} {n n':Nat} {f:Obj -> Obj} (I:Inv X pins σ H s) (h:H p = some (.lst xs))
  (ho:s.heap.get? p = some { cls:=.type "list",data:=.seq its.toArray n }) (hf:f { cls:=.type "list",data:=.seq its.toArray n } = { cls:=.type "list",data:=.seq its'.toArray n' }) (r:Vals ys its') (hz:ys.length <= sizeLine) (t:Nat) :
  Inv X pins σ (upd H p (.lst ys)) { s with heap:=s.heap.update p f,toks:=t }:=by
 have e:(s.heap.update p f).get? p = some { cls:=.type "list",data:=.seq its'.toArray n' }:=by
  rw [Heap.get?_update_self f ho (by rw [hf] <;> rfl),hf]
 refine I.write (x:=p) (e:=p) (by rw [h]; trivial) (.inl rfl) (fun b u hb q=>(Heap.get?_update_other _ _ (Ne.symm hb)).trans q) ⟨_,e⟩ ?_
 exact ⟨hz,its',n',r,e⟩
def rSetL:V -> V -> V -> Hp -> (Hp -> Prop) -> Prop:=fun o i v H Q=>∃ p xs k j,o = .ref p /\ i = .int k /\ H p = some (.lst xs) /\ ixN xs.length k = some j /\ Q (upd H p (.lst (xs.set j v)))
theorem set_list:PSet X rSetL:=by
 intro pins s σ H o i v ov iv u Q I ro ri rv h
 obtain ⟨p,xs,k,j,rfl,rfl,hp,hj,q⟩:=h
 cases ro
 obtain ⟨t,rfl⟩:=ri
 obtain ⟨its,n,r,ho,hz⟩:=I.lst hp
 obtain ⟨h1,h2,h3,h4⟩:=ixN_seq hj
 have hl:=r.length
 have hn:=line63
 have I':Inv X pins σ (upd H p (.lst (xs.set j v))) { s with heap:=s.heap.update p (Obj.mapSeq (·.setIfInBounds j u)) } :=
  I.lstUpd hp ho (mapSeq_set its n j u) (r.set rv j) (by rw [List.length_set]; exact hz) s.toks
 by_cases h0:0 <= k
 ·have hk:k.toNat = j:=by
   rw [seqIndex_of h0 h4] at h1
   exact Option.some.inj h1
  exact PySem.W.ki_setAt ho h0 (by omega) (by rw [List.size_toArray,← hl]; exact h4) (by rw [hk]; exact ⟨_,I',q⟩)
 ·have hk:(k + (its.toArray.size:Int)).toNat = j:=by
   rw [seqIndex_neg (by omega) h3] at h1
   rw [List.size_toArray,← hl]
   exact Option.some.inj h1
  exact PySem.W.ki_setBack ho (by omega) (by rw [List.size_toArray,← hl]; exact h3) (by omega) (by rw [hk]; exact ⟨_,I',q⟩)
theorem slice_bounds (lo hi:Option Int) (n:Nat):(sliceBounds lo hi none n).1 = ((HT.sIx n 0 lo:Nat):Int) /\ (sliceBounds lo hi none n).2.1 = ((HT.sIx n n hi:Nat):Int) /\ (sliceBounds lo hi none n).2.2 = 1:=by
 refine ⟨?_,?_,rfl⟩
 ·cases lo with
  | none=>simp [sliceBounds,HT.sIx]
  | some i =>
   simp only [sliceBounds,HT.sIx,Option.getD_none,show (1:Int) > 0 by decide,if_true]
   by_cases h:i < 0
   ·simp only [h,if_true] <;> omega
   ·simp only [h,if_false] <;> omega
 ·cases hi with
  | none=>simp [sliceBounds,HT.sIx]
  | some i =>
   simp only [sliceBounds,HT.sIx,Option.getD_none,show (1:Int) > 0 by decide,if_true]
   by_cases h:i < 0
   ·simp only [h,if_true] <;> omega
   ·simp only [h,if_false] <;> omega
theorem slicePick_cut (its:List Value) (lo hi:Option Int):slicePick its.toArray lo hi none = ((its.drop (HT.sIx its.length 0 lo)).take (HT.sIx its.length its.length hi - HT.sIx its.length 0 lo)).toArray:=by
 obtain ⟨h1,h2,h3⟩:=slice_bounds lo hi its.toArray.size
 unfold slicePick
 rw [h1,h2,h3]
 simp only [sliceRange_one,pick_run,List.size_toArray] <;> rfl
def rSlL (K:PySem.W.Frag):V -> Option Int -> Option Int -> Hp -> VK -> Prop:=fun x lo hi H Q=>∃ a xs,x = .ref a /\ SqL K H a xs /\ ∀ p,H p = none -> Q (.ref p) (upd H p (.lst (cutV xs lo hi)))
theorem sl_list:SlR X (rSlL X.K):=by
 intro pins s σ H x v vl vu lo hi sl Q I rx hs pl pu h
 obtain ⟨a,xs,rfl,hx,q⟩:=h
 cases rx
 obtain ⟨its,r,ht,hz⟩:=I.list hx
 have hlen:=r.length
 refine ⟨"list",_,slot_list_getitem.lookup,ht.isList.typeIs,?_⟩
 refine wpAny_getItem_list_slice ht.isList hs pl pu .none (by simp) ?_ (by rw [List.size_toArray] <;> omega)
 rw [slicePick_cut,← hlen]
 refine ⟨.ref s.heap.objs.size,_,I.laid (t':=s.toks) (o:=.lst (cutV xs lo hi)) (fun b ob q=>Heap.get?_push_of_some _ q) (Nat.le_refl _) ?_,rfl,q _ (I.hok.fresh (Nat.le_refl _))⟩
 exact ⟨Nat.le_trans (cutV_length xs lo hi) hz,_,0,(r.drop (HT.sIx xs.length 0 lo)).take (HT.sIx xs.length xs.length hi - HT.sIx xs.length 0 lo),Heap.get?_push_size _ rfl⟩
theorem zN:CallR X (.builtin "len") (fun xs H Q=>∃ p ys,xs = [.ref p] /\ (SqL X.K H p ys \/ SqT X.K H p ys) /\ Q (.int ys.length) H):=by
 intro pins s σ H xs us Q I r h
 obtain ⟨p,ys,rfl,hq,q⟩:=h
 obtain ⟨u,rfl,rx⟩:=vals1 r
 cases rx
 have hn:=line63
 rcases hq with hq | hq
 ·obtain ⟨its,r',pl,hz⟩:=I.list hq
  have hlen:=r'.length
  exact Calls.call_len_list pl.isList (by simp only [List.size_toArray] <;> omega) ⟨.int ys.length,H,I.tok _,⟨s.toks + 1,by rw [List.size_toArray,hlen]⟩,q⟩
 ·obtain ⟨its,r',pl,hz⟩:=I.tuple hq
  have hlen:=r'.length
  exact len_tuple pl (by simp only [List.size_toArray] <;> omega) ⟨.int ys.length,H,I.tok _,⟨s.toks + 1,by rw [List.size_toArray,hlen]⟩,q⟩
theorem call_len_str:CallR X (.builtin "len") (fun xs H Q=>∃ z,xs = [.str z] /\ z.length <= sizeLine /\ Q (.int z.length) H):=by
 intro pins s σ H xs us Q I r h
 obtain ⟨z,rfl,hz,q⟩:=h
 obtain ⟨u,rfl,t,rfl⟩:=vals1 r
 have hn:=line63
 exact len_str (by omega) ⟨.int z.length,H,I.tok _,⟨_,rfl⟩,q⟩
theorem xM:CallR X (.type "tuple") (fun xs H Q=>∃ p ys,xs = [.ref p] /\ ((SqL X.K H p ys /\ ∀ l,H l = none -> Q (.ref l) (upd H l (.tup ys))) \/ (SqT X.K H p ys /\ Q (.ref p) H))):=by
 intro pins s σ H xs us Q I r h
 obtain ⟨p,ys,rfl,h⟩:=h
 obtain ⟨u,rfl,rx⟩:=vals1 r
 cases rx
 rcases h with ⟨hq,q⟩ | ⟨hq,q⟩
 ·obtain ⟨its,r',pl,hz⟩:=I.list hq
  have hlen:=r'.length
  refine call_tuple_list pl.isList (fun h' kp=>?_) (by simp only [List.size_toArray] <;> omega)
  have I1:Inv X pins σ H { s with heap:=h' }:=I.kept (t':=s.toks) kp
  have I2:Inv X pins σ (upd H h'.objs.size (.tup ys)) { s with heap:=h'.push { cls:=.type "tuple",data:=.seq its.toArray } } :=
   I1.laid (t':=s.toks) (fun b o e=>Heap.get?_push_of_some _ e) (Nat.le_refl _) (show ObjOk X.prog X.w _ _ _ (.tup ys) from ⟨hz,its,r',IsTup.new _ _⟩)
  exact ⟨.ref h'.objs.size,_,I2,rfl,q _ (I1.hok.fresh (Nat.le_refl _))⟩
 ·obtain ⟨its,r',pl,hz⟩:=I.tuple hq
  exact call_tuple_same pl ⟨.ref p,H,I,rfl,q⟩
def tyV (K:PySem.W.Frag) (T:String) (x:V) (H:Hp):Prop:=match x with
 | .str _=>T = "str"
 | .int _=>T = "int"
 | .ref p=>(T = "list" /\ ∃ xs,SqL K H p xs) \/ (T = "tuple" /\ ∃ o,K.lookup p = some o /\ o.cls = .type "tuple" /\ o.dict = none) \/
   (T = "dict" /\ ((∃ kvs,H p = some (.dK kvs)) \/ ∃ kvs,H p = some (.dT kvs))) \/ (T = "set" /\ ∃ S n,H p = some (.set S n))
 | _=>False
theorem tyV_is {pins:List (Addr × Obj)} {σ:St} {H:Hp} {s:Shared} {T:String} {x:V} {v:Value} (I:Inv X pins σ H s) (r:RelV x v) (ty:tyV X.K T x H) :
  s.TypeIs v T /\ ∀ a,v = .ref a -> ∃ ob,s.heap.get? a = some ob /\ ob.dict = none:=by
 cases x with
 | str z =>
  obtain ⟨t,rfl⟩:=r
  cases (show T = "str" from ty)
  exact ⟨typeIs_str s z t,fun _ e=>nomatch e⟩
 | int i =>
  obtain ⟨t,rfl⟩:=r
  cases (show T = "int" from ty)
  exact ⟨typeIs_int s i t,fun _ e=>nomatch e⟩
 | ref p =>
  cases r
  rcases ty with ⟨rfl,xs,hq⟩ | ⟨rfl,o,hk,hc,hd⟩ | ⟨rfl,hk⟩ | ⟨rfl,S,n,hk⟩
  ·obtain ⟨its,_,pl,_⟩:=I.list hq
   refine ⟨pl.isList.typeIs,fun a e=>?_⟩
   cases e
   obtain ⟨o,n,e,c,hd,_⟩:=pl
   exact ⟨o,e,hd⟩
  ·refine ⟨⟨o,I.kIn p o hk,hc⟩,fun a e=>?_⟩
   cases e
   exact ⟨o,I.kIn _ o hk,hd⟩
  ·have z:∃ o,s.heap.get? p = some o /\ o.ExactDict:=by
    rcases hk with ⟨kvs,hk⟩ | ⟨kvs,hk⟩
    ·obtain ⟨_,_,_,_,o,_,_,e,ex,_⟩:=I.hok p _ hk
     exact ⟨o,e,ex⟩
    ·obtain ⟨_,_,_,_,o,_,_,e,ex,_⟩:=I.hok p _ hk
     exact ⟨o,e,ex⟩
   obtain ⟨o,e,ex⟩:=z
   refine ⟨⟨o,e,ex.1⟩,fun a e2=>?_⟩
   cases e2
   exact ⟨o,e,ex.2.1⟩
  ·obtain ⟨o,_,_,_,e,ex,_⟩:=I.hok p _ hk
   refine ⟨⟨o,e,ex.1⟩,fun a e2=>?_⟩
   cases e2
   exact ⟨o,e,ex.2.1⟩
 | _=>exact False.elim ty
def tBM0 (K:PySem.W.Frag) (T:String) (r:V -> List V -> Hp -> VK -> Prop) (to:TE):TE:=fun σ H Q=>to σ H fun x H1=>tyV K T x H1 /\ r x [] H1 Q
def tBM (K:PySem.W.Frag) (T:String) (r:V -> List V -> Hp -> VK -> Prop) (to:TE) (t:TA):TE:=fun σ H Q=>to σ H fun x H1=>tyV K T x H1 /\ t σ H1 fun xs H2=>r x xs H2 Q
variable {o e:Expr} {es:List Expr} {to:TE} {t:TA} {name:Str} {apos cpos:Pos} {T id:String} {r:V -> List V -> Hp -> VK -> Prop}
theorem pe_bm0 (pa:PlainAttrs T) (slot:Slot T name id) (hty:typeOf (.builtin id) = pure (.type "method_descriptor")) (hm:MtR X id r) (ho:PE X o to)
  (hbase:attributeBase o name X.env (eval o X.env) = eval o X.env:=by rfl) (hline:(apos.endLine == cpos.line) = true:=by rfl):PE X (.Call (.Attribute o name apos) [] [] cpos) (tBM0 X.K T r to):=by
 intro pins s σ H Q I h
 refine wpAny_Call_method0_late hbase hline (thn (ho pins s σ H _ I h) fun v s1 ⟨x,H1,I1,r1,ty,q1⟩=>?_)
 obtain ⟨h1,h2⟩:=tyV_is I1 r1 ty
 exact ⟨T,id,pa,slot,hty,h1,h2,Calls.callWith_builtin rfl (PySem.evalArgs_none (hm pins s1 σ H1 x [] v [] Q I1 r1 .nil q1))⟩
theorem qG (pa:PlainAttrs T) (slot:Slot T name id) (hty:typeOf (.builtin id) = pure (.type "method_descriptor")) (hm:MtR X id r) (ho:PE X o to) (ha:PA X (e :: es) t)
  (hbase:attributeBase o name X.env (eval o X.env) = eval o X.env:=by rfl)
  (hfew:((backTo cpos (starEach (e :: es) X.env)).all (fun x=>!x.1) && (backToKw cpos (keywordEach [] X.env)).all (fun x=>x.1.isSome)
   && decide ((e :: es).length + ([]:List Keyword).length + (if ([]:List Keyword).isEmpty then 0 else 1) < 30)) = true:=by rfl)
  (hline:(apos.endLine == cpos.line) = true:=by rfl) (hs:starEach (e :: es) X.env = (false,eval e X.env) :: starEach es X.env:=by rfl) (hplain:(backTo cpos (starEach es X.env)).any (·.1) = false:=by rfl) :
  PE X (.Call (.Attribute o name apos) (e :: es) [] cpos) (tBM X.K T r to t):=by
 intro pins s σ H Q I h
 refine wpAny_Call_method_late hbase hfew hline rfl (thn (ho pins s σ H _ I h) fun v s1 ⟨x,H1,I1,r1,ty,q1⟩=>?_)
 obtain ⟨h1,h2⟩:=tyV_is I1 r1 ty
 refine ⟨T,id,pa,slot,hty,h1,h2,?_⟩
 have hA:=ha cpos pins s1 σ H1 _ I1 q1
 rw [hs] at hA ⊢
 refine Calls.callWith_builtin (by show (false || (backTo cpos (starEach es X.env)).any (·.1)) = false; rw [hplain] <;> rfl) (Calls.evalArgs_plain ?_)
 exact thn hA fun us s2 ⟨vs,H2,I2,r2,q2⟩=>hm pins s2 σ H2 x vs v us Q I2 r1 r2 q2
end
end L2
namespace L2
open PySem PySem.Spec PyProof.Rows
def MtM (X:Cx) (id:String) (r:V -> List V -> Hp -> VK -> Prop):Prop :=
 ∀ (pins:List (Addr × Obj)) (s:Shared) (σ:St) (H:Hp) (x:V) (xs:List V) (v:Value) (us:List Value) (Q:VK),Inv X pins σ H s -> RelV x v -> Vals xs us -> r x xs H Q ->
  wpAny (model X.prog X.w) X.A (call (.builtin id) (v :: us)) (EP X pins σ Q) X.xe s
theorem Vals.one:∀ {x:V} {us:List Value},Vals [x] us -> ∃ u,us = [u] /\ RelV x u
 | _,_,.cons r .nil=>⟨_,rfl,r⟩
theorem Vals.zero:∀ {us:List Value},Vals [] us -> us = []
 | _,.nil=>rfl
theorem Vals.dropLast {xs:List V} {us:List Value} (h:Vals xs us):Vals xs.dropLast us.dropLast:=by
 induction h with
 | nil=>exact .nil
 | cons r t ih =>
  cases t with
  | nil=>exact .nil
  | cons q t'=>exact .cons r ih
theorem Vals.reverse {xs:List V} {us:List Value} (h:Vals xs us):Vals xs.reverse us.reverse:=by
 induction h with
 | nil=>exact .nil
 | cons r t ih=>rw [List.reverse_cons,List.reverse_cons]; exact Vals.append ih (.cons r .nil)
theorem Vals.rep {xs:List V} {us:List Value} (h:Vals xs us):∀ k:Nat,Vals (List.replicate k xs).flatten (List.replicate k us).flatten
 | 0=>.nil
 | k + 1=>by
  rw [List.replicate_succ,List.replicate_succ,List.flatten_cons,List.flatten_cons]
  exact Vals.append h (Vals.rep h k)
theorem erase_last {α:Type} (l:List α):l.eraseIdx (l.length - 1) = l.dropLast:=by
 induction l with
 | nil=>rfl
 | cons a r ih =>
  cases r with
  | nil=>rfl
  | cons b r =>
   have e:(a :: b :: r).length - 1 = ((b :: r).length - 1) + 1:=by
    have h1:(a :: b :: r).length = r.length + 2:=rfl
    have h2:(b :: r).length = r.length + 1:=rfl
    omega
   rw [e,List.eraseIdx_cons_succ,ih]
   all_goals rfl
theorem foldl_rep (its:List Value):∀ (k:Nat) (acc:List Value),
  List.foldl (fun x1 x2=>x1 ++ x2) acc.toArray (List.replicate k its.toArray) = (acc ++ (List.replicate k its).flatten).toArray
 | 0,acc=>by simp
 | k + 1,acc=>by
  have e:acc.toArray ++ its.toArray = (acc ++ its).toArray:=by simp
  have e2:(acc ++ its) ++ (List.replicate k its).flatten = acc ++ (List.replicate (k + 1) its).flatten:=by
   rw [List.replicate_succ,List.flatten_cons,List.append_assoc]
  rw [← e2,← foldl_rep its k (acc ++ its),← e,List.replicate_succ,List.foldl_cons]
section
variable {X:Cx} {pins:List (Addr × Obj)} {σ:St} {H:Hp} {s:Shared} {l b:Addr} {xs ys zs:List V}
theorem Inv.lset {its its':List Value} {n:Nat} {f:Array Value -> Array Value} {t':Nat} (I:Inv X pins σ H s) (hH:H l = some (.lst xs))
  (e:s.heap.get? l = some { cls:=.type "list",data:=.seq its.toArray n }) (hf:f its.toArray = its'.toArray) (hv:Vals ys its') (hz:ys.length <= sizeLine) :
  Inv X pins σ (upd H l (.lst ys)) { s with heap:=s.heap.update l (Obj.mapSeq f),toks:=t' }:=by
 have q:=PySem.IsL.update e f
 rw [hf] at q
 refine I.write (x:=l) (e:=l) (by rw [hH]; exact trivial) (.inl rfl) (fun b' u hb hu=>(Heap.get?_update_other s.heap (Obj.mapSeq f) (Ne.symm hb)).trans hu) ⟨_,q⟩ ?_
 exact ⟨hz,its',_,hv,q⟩
theorem Inv.lnew {its:List Value} {t':Nat} (I:Inv X pins σ H s) (hv:Vals ys its) (hz:ys.length <= sizeLine) :
  Inv X pins σ (upd H s.heap.objs.size (.lst ys)) { s with heap:=s.heap.push { cls:=.type "list",data:=.seq its.toArray },toks:=t' } :=
 I.laid (fun _ _ q=>Heap.get?_push_of_some _ q) (Nat.le_refl _) ⟨hz,its,0,hv,Heap.get?_push_size _ rfl⟩
theorem Inv.fresh (I:Inv X pins σ H s):H s.heap.objs.size = none:=I.hok.fresh (Nat.le_refl _)
theorem Inv.lstM (I:Inv X pins σ H s) (hH:H l = some (.lst xs)):xs.length <= sizeLine /\ ∃ (its:List Value) (n:Nat),Vals xs its /\ xs.length = its.length /\ s.heap.get? l = some { cls:=.type "list",data:=.seq its.toArray n }:=by
 obtain ⟨z,its,n,r,e⟩:=I.hok l _ hH
 exact ⟨z,its,n,r,r.length,e⟩
theorem notLongL {n:Nat} (h:n <= sizeLine):Builtin.List.listTooLong n = false:=by
 unfold Builtin.List.listTooLong
 exact decide_eq_false (by omega)
end
section
variable {X:Cx}
def rAppend:V -> List V -> Hp -> VK -> Prop:=fun x vs H Q=>∃ l xs y,x = .ref l /\ vs = [y] /\ H l = some (.lst xs) /\ xs.length < sizeLine /\ Q .non (upd H l (.lst (xs ++ [y])))
theorem yQ:MtM X "list.append" rAppend:=by
 intro pins s σ H x vs v us Q I rx rv h
 obtain ⟨l,xs,y,rfl,rfl,hH,hz,q⟩:=h
 cases rx
 obtain ⟨u,rfl,ru⟩:=rv.one
 obtain ⟨z,its,n,r,hl,e⟩:=I.lstM hH
 refine call_meets F.slot_list_append ⟨_,e,rfl⟩ F.entry_list_append (F.args_list_append_2 _ _) (PySem.list_append l its.toArray n u (by rw [List.size_toArray]; omega)) ⟨e,?_⟩
 refine ⟨.non,_,I.lset (its':=its ++ [u]) hH e (by simp) (r.append (.cons ru .nil)) ?_,rfl,q⟩
 rw [List.length_append,List.length_singleton]
 omega
def rPop:V -> List V -> Hp -> VK -> Prop:=fun x vs H Q=>∃ l xs y,x = .ref l /\ vs = [] /\ H l = some (.lst xs) /\ xs[xs.length - 1]? = some y /\ Q y (upd H l (.lst xs.dropLast))
theorem mt_pop:MtM X "list.pop" rPop:=by
 intro pins s σ H x vs v us Q I rx rv h
 obtain ⟨l,xs,y,rfl,rfl,hH,hy,q⟩:=h
 cases rx
 have hus:=rv.zero
 subst hus
 obtain ⟨z,its,n,r,hl,e⟩:=I.lstM hH
 obtain ⟨u,hu,ru⟩:=r.get hy
 have hy':its.toArray[its.toArray.size - 1]? = some u:=by
  show its.toArray[its.length - 1]? = some u
  rw [← Array.getElem?_toList,← hl]
  exact hu
 refine call_meets F.slot_list_pop ⟨_,e,rfl⟩ F.entry_list_pop (F.args_list_pop_1 _) (MeetsSeq.list_pop_last l its.toArray n u hy' (by rw [List.size_toArray]; omega)) ⟨e,?_⟩
 refine ⟨y,_,I.lset (its':=its.dropLast) hH e ?_ r.dropLast ?_,ru,q⟩
 ·show its.toArray.eraseIdxIfInBounds (its.toArray.size - 1) = its.dropLast.toArray
  rw [List.size_toArray,List.eraseIdxIfInBounds_toArray,erase_last]
 ·rw [List.length_dropLast]
  omega
def rReverse:V -> List V -> Hp -> VK -> Prop:=fun x vs H Q=>∃ l xs,x = .ref l /\ vs = [] /\ H l = some (.lst xs) /\ Q .non (upd H l (.lst xs.reverse))
theorem mt_reverse:MtM X "list.reverse" rReverse:=by
 intro pins s σ H x vs v us Q I rx rv h
 obtain ⟨l,xs,rfl,rfl,hH,q⟩:=h
 cases rx
 have hus:=rv.zero
 subst hus
 obtain ⟨z,its,n,r,hl,e⟩:=I.lstM hH
 refine call_meets F.slot_list_reverse ⟨_,e,rfl⟩ F.entry_list_reverse (F.args_list_reverse_1 _) (AutoSeq1.list_reverse_list_0 l its.toArray n (by rw [List.size_toArray]; omega)) ⟨e,?_⟩
 refine ⟨.non,_,I.lset (its':=its.reverse) hH e (by simp) r.reverse ?_,rfl,q⟩
 rw [List.length_reverse]
 omega
def rCat:R2:=fun x y H Q=>∃ l b xs zs,x = .ref l /\ y = .ref b /\ H l = some (.lst xs) /\ H b = some (.lst zs) /\ xs.length + zs.length <= sizeLine /\ ∀ p,H p = none -> Q (.ref p) (upd H p (.lst (xs ++ zs)))
theorem op_cat:OpR X (binaryOp .Add) rCat:=by
 intro pins s σ H x y v u Q I rx ry h
 obtain ⟨l,b,xs,zs,rfl,rfl,hH,hB,hz,q⟩:=h
 cases rx
 cases ry
 obtain ⟨z,its,n,r,hl,e⟩:=I.lstM hH
 obtain ⟨z2,its2,n2,r2,hl2,e2⟩:=I.lstM hB
 refine PySem.P.add_list e e2 ?_ (by rw [List.size_toArray,List.size_toArray]; omega)
 have ea:its.toArray ++ its2.toArray = (its ++ its2).toArray:=by simp
 rw [ea]
 exact ⟨.ref _,_,I.lnew (t':=s.toks) (r.append r2) (by rw [List.length_append]; omega),rfl,q _ I.fresh⟩
def rRep:R2:=fun x y H Q=>∃ l k xs,x = .ref l /\ y = .int k /\ H l = some (.lst xs) /\ -(2 ^ 63) <= k /\ k < 2 ^ 63 /\ xs.length * k.toNat <= sizeLine /\
 ∀ p,H p = none -> Q (.ref p) (upd H p (.lst (List.replicate k.toNat xs).flatten))
theorem len_rep {α:Type} (xs:List α) (k:Nat):(List.replicate k xs).flatten.length = k * xs.length:=by
 induction k with
 | zero=>simp
 | succ k ih=>rw [List.replicate_succ,List.flatten_cons,List.length_append,ih,Nat.succ_mul,Nat.add_comm]
theorem op_rep:OpR X (binaryOp .Mult) rRep:=by
 intro pins s σ H x y v u Q I rx ry h
 obtain ⟨l,k,xs,rfl,rfl,hH,h1,h2,hz,q⟩:=h
 cases rx
 obtain ⟨t,rfl⟩:=ry
 obtain ⟨z,its,n,r,hl,e⟩:=I.lstM hH
 have hlen:its.toArray.size * k.toNat <= sizeLine:=by rw [List.size_toArray,← hl]; exact hz
 have hcap:¬ its.toArray.size * k.toNat > (2 ^ 63 - 1) / 8:=by
  have:(sizeLine:Nat) <= (2 ^ 63 - 1) / 8:=by decide
  omega
 have hfit:¬ (!Builtin.List.listFitsIndex k) = true:=by
  rw [fitsIndex_both h1 h2]
  exact Bool.false_ne_true
 have hlong:¬ Builtin.List.listTooLong (its.toArray.size * k.toNat) = true:=by
  rw [notLongL hlen]
  exact Bool.false_ne_true
 have hnew:List.foldl (fun x1 x2=>x1 ++ x2) #[] (List.replicate (if its.toArray.isEmpty = true then 0 else k.toNat) its.toArray) = (List.replicate k.toNat its).flatten.toArray:=by
  have f0:∀ m:Nat,List.foldl (fun x1 x2=>x1 ++ x2) #[] (List.replicate m its.toArray) = (List.replicate m its).flatten.toArray:=fun m=>by
   have:=foldl_rep its m []
   rw [List.nil_append] at this
   exact this
  rw [f0]
  cases its with
  | nil=>simp
  | cons a r'=>rw [if_neg (by simp)]
 refine wpAny_binaryOp_repeat_ref (T:="list") (U:="int") (by decide) ⟨_,e,rfl⟩ (fun s'=>typeIs_int s' k t) noFill_list_mul F.fills_int_mul F.slot_int_rmul repeat_list F.slot_int_index.lookup
  (call_meets F.slot_int_rmul (typeIs_int s k t) F.entry_int_rmul (F.args_int_rmul_2 _ _) (int___rmul___int_list k t l its.toArray n)
   ⟨e,rfl,⟨_,e,rfl⟩,call_meets F.slot_list_mul ⟨_,e,rfl⟩ F.entry_list_mul (F.args_list_mul_2 _ _) (AutoListH.list___mul___list_int_3 l its.toArray n k t hfit hcap hlong) ⟨e,?_⟩⟩)
 rw [hnew]
 exact ⟨.ref _,_,I.lnew (t':=s.toks) (r.rep k.toNat) (by rw [len_rep,Nat.mul_comm]; exact hz),rfl,q _ I.fresh⟩
end
section
variable {prog:Program} {w:World} {A:Around} {E:Value -> Shared -> Prop} {s:Shared}
set_option maxRecDepth 100000 in
end
section
variable {X:Cx}
end
end L2
namespace L2
open PySem PySem.Spec PyProof.Rows
section
variable {κ:Type} [DecidableEq κ]
def valV (kvs:List (κ × V)) (k:κ):Option V:=(kvs.find? fun kv=>decide (kv.1 = k)).map (·.2)
def putK (kvs:List (κ × V)) (k:κ) (v:V):List (κ × V) :=
 if (kvs.any fun kv=>decide (kv.1 = k)) = true then kvs.map (fun kv=>if kv.1 = k then (kv.1,v) else kv) else kvs ++ [(k,v)]
def dropK (kvs:List (κ × V)) (k:κ):List (κ × V):=kvs.filter fun kv=>decide (kv.1 ≠ k)
theorem yI {p:κ × V} {r:List (κ × V)} {k:κ} (e:p.1 = k):valV (p :: r) k = some p.2:=by simp [valV,List.find?_cons,e]
theorem yH {p:κ × V} {r:List (κ × V)} {k:κ} (e:¬ p.1 = k):valV (p :: r) k = valV r k:=by simp [valV,List.find?_cons,e]
theorem xL (k:κ):∀ kvs:List (κ × V),(kvs.any fun kv=>decide (kv.1 = k)) = (valV kvs k).isSome
 | []=>rfl
 | p :: r=>by
  rw [List.any_cons]
  by_cases e:p.1 = k
  ·simp only [yI e,decide_eq_true e,Bool.true_or,Option.isSome_some]
  ·rw [yH e,decide_eq_false e,Bool.false_or]; exact xL k r
theorem valV_map (k j:κ) (y:V):∀ kvs:List (κ × V),valV (kvs.map fun kv=>if kv.1 = k then (kv.1,y) else kv) j = (valV kvs j).map fun x=>if j = k then y else x
 | []=>rfl
 | p :: r=>by
  have ih:=valV_map k j y r
  rw [List.map_cons]
  by_cases h:p.1 = k
  ·rw [if_pos h]
   by_cases e:p.1 = j
   ·rw [yI (p:=(p.1,y)) e,yI e,Option.map_some,if_pos (e.symm.trans h)]
   ·rw [yH (p:=(p.1,y)) e,yH e,ih]
  ·rw [if_neg h]
   by_cases e:p.1 = j
   ·rw [yI (p:=p) e,yI e,Option.map_some,if_neg (fun z=>h (e.trans z))]
   ·rw [yH (p:=p) e,yH e,ih]
theorem valV_snoc (k j:κ) (y:V):∀ kvs:List (κ × V),valV kvs k = none -> valV (kvs ++ [(k,y)]) j = if j = k then some y else valV kvs j
 | [],_=>by
  by_cases e:k = j
  ·rw [if_pos e.symm]; exact yI (p:=(k,y)) e
  ·rw [if_neg (fun z=>e z.symm)]; exact yH (p:=(k,y)) e
 | p :: r,hn=>by
  rw [List.cons_append]
  have hk:¬ p.1 = k:=fun z=>by rw [yI z] at hn; cases hn
  rw [yH hk] at hn
  have ih:=valV_snoc k j y r hn
  by_cases e:p.1 = j
  ·rw [yI e,yI e,if_neg (fun z=>hk (e.trans z))]
  ·rw [yH e,yH e,ih]
theorem valV_put (kvs:List (κ × V)) (k j:κ) (y:V):valV (putK kvs k y) j = if j = k then some y else valV kvs j:=by
 unfold putK
 by_cases a:(kvs.any fun kv=>decide (kv.1 = k)) = true
 ·rw [if_pos a,valV_map]
  rw [xL] at a
  by_cases e:j = k
  ·obtain ⟨x,hx⟩:=Option.isSome_iff_exists.mp a
   rw [if_pos e,e,hx,Option.map_some,if_pos rfl]
  ·rw [if_neg e]
   cases valV kvs j with
   | none=>rfl
   | some x=>rw [Option.map_some,if_neg e]
 ·rw [if_neg a]
  refine valV_snoc k j y kvs ?_
  rw [xL] at a
  cases q:valV kvs k with
  | none=>rfl
  | some x=>rw [q] at a; exact (a rfl).elim
theorem xO (kvs:List (κ × V)) (k:κ) (v:V):(putK kvs k v).length <= kvs.length + 1:=by
 unfold putK
 split
 ·rw [List.length_map]; omega
 ·rw [List.length_append,List.length_cons,List.length_nil]; omega
theorem putK_new {kvs:List (κ × V)} {k:κ} (v:V) (h:valV kvs k = none):putK kvs k v = kvs ++ [(k,v)]:=by
 unfold putK
 rw [xL,h]
 exact if_neg (by decide)
theorem RelO.isSome_eq {o:Option V} {u:Option Value} (r:RelO o u):o.isSome = u.isSome:=by
 cases o with
 | none=>cases u with
  | none=>rfl
  | some _=>exact (show False from r).elim
 | some _=>cases u with
  | none=>exact (show False from r).elim
  | some _=>rfl
theorem RelO.getD {o:Option V} {u:Option Value} {d:V} {d':Value} (r:RelO o u) (rd:RelV d d'):RelV (o.getD d) (u.getD d'):=by
 cases o with
 | none=>cases u with
  | none=>exact rd
  | some _=>exact (show False from r).elim
 | some _=>cases u with
  | none=>exact (show False from r).elim
  | some _=>exact r
theorem KV.val {kvs:List (κ × V)} {vs:List (κ × Value)} (r:KV kvs vs) (k:κ):RelO (valV kvs k) (valueAt vs k):=by
 unfold KV at r
 induction r with
 | nil=>exact True.intro
 | @cons p q ps qs h t ih =>
  obtain ⟨h1,h2⟩:=h
  by_cases e:p.1 = k
  ·have e':q.1 = k:=h1.symm.trans e
   have b:valueAt (q :: qs) k = some q.2:=by simp [valueAt,List.find?_cons,e']
   rw [yI e,b]; exact h2
  ·have e':¬ q.1 = k:=fun z=>e (h1.trans z)
   have b:valueAt (q :: qs) k = valueAt qs k:=by simp [valueAt,List.find?_cons,e']
   rw [yH e,b]; exact ih
theorem KV.any {kvs:List (κ × V)} {vs:List (κ × Value)} (r:KV kvs vs) (k:κ):(kvs.any fun kv=>decide (kv.1 = k)) = vs.any fun kv=>decide (kv.1 = k):=by
 unfold KV at r
 induction r with
 | nil=>rfl
 | cons h t ih=>rw [List.any_cons,List.any_cons,ih,h.1]
theorem KV.repl {kvs:List (κ × V)} {vs:List (κ × Value)} (r:KV kvs vs) (k:κ) {y:V} {u:Value} (ry:RelV y u) :
  KV (kvs.map fun kv=>if kv.1 = k then (kv.1,y) else kv) (vs.map fun kv=>if kv.1 = k then (kv.1,u) else kv):=by
 unfold KV at r ⊢
 induction r with
 | nil=>exact .nil
 | @cons p q ps qs h t ih =>
  rw [List.map_cons,List.map_cons]
  refine .cons ?_ ih
  obtain ⟨h1,h2⟩:=h
  by_cases e:p.1 = k
  ·rw [if_pos e,if_pos (h1.symm.trans e)]; exact ⟨h1,ry⟩
  ·rw [if_neg e,if_neg (fun z=>e (h1.trans z))]; exact ⟨h1,h2⟩
theorem KV.put {kvs:List (κ × V)} {vs:List (κ × Value)} (r:KV kvs vs) (k:κ) {y:V} {u:Value} (ry:RelV y u):KV (putK kvs k y) (stored vs k u):=by
 unfold putK stored
 rw [r.any k]
 by_cases e:(vs.any fun kv=>decide (kv.1 = k)) = true
 ·rw [if_pos e,if_pos e]; exact r.repl k ry
 ·rw [if_neg e,if_neg e]; exact Paired.snoc r ⟨rfl,ry⟩
theorem KV.drop {kvs:List (κ × V)} {vs:List (κ × Value)} (r:KV kvs vs) (k:κ):KV (dropK kvs k) (without vs k):=by
 unfold KV at r ⊢
 unfold dropK without
 induction r with
 | nil=>exact .nil
 | @cons p q ps qs h t ih =>
  obtain ⟨h1,h2⟩:=h
  rw [List.filter_cons,List.filter_cons]
  by_cases e:p.1 = k
  ·have a:¬ decide (p.1 ≠ k) = true:=by simp [e]
   have b:¬ decide (q.1 ≠ k) = true:=by simp [h1.symm.trans e]
   rw [if_neg a,if_neg b]; exact ih
  ·have e':¬ q.1 = k:=fun z=>e (h1.trans z)
   have a:decide (p.1 ≠ k) = true:=by simp [e]
   have b:decide (q.1 ≠ k) = true:=by simp [e']
   rw [if_pos a,if_pos b]; exact .cons ⟨h1,h2⟩ ih
theorem KV.length {kvs:List (κ × V)} {vs:List (κ × Value)} (r:KV kvs vs):kvs.length = vs.length:=Paired.length r
theorem dropK_le (kvs:List (κ × V)) (k:κ):(dropK kvs k).length <= kvs.length:=List.length_filter_le _ _
end
theorem kV_is {P:Program} {w:World} {k:Key} {u:Value} (r:RelV (kV k) u):(mixKind P w).is k u = true:=by
 cases k with
 | inl i=>obtain ⟨t,e⟩:=(show ∃ t,u = Value.int i t from r); subst e; exact mixKind_int P w i t
 | inr x=>obtain ⟨t,e⟩:=(show ∃ t,u = Value.str x t from r); subst e; exact mixKind_str P w x t
theorem items_are {P:Program} {w:World}:∀ {ks:List Key} {us:List Value},Vals (ks.map kV) us -> ItemsAre (mixKind P w) ks us
 | [],_,r=>by rw [List.map_nil] at r; cases r; exact .nil
 | k :: ks,_,r=>by
  rw [List.map_cons] at r
  cases r with
  | cons h t=>exact .cons (kV_is h) (items_are t)
abbrev KT (H:Hp):List (List Key × V) -> List (List Key × Addr × Value) -> Prop:=Paired fun p q=>p.1 = q.1 /\ H q.2.1 = some (.tup (p.1.map kV)) /\ RelV p.2 q.2.2
theorem KT.val {H:Hp} {kvs:List (List Key × V)} {xs:List (List Key × Addr × Value)} (r:KT H kvs xs) (k:List Key):RelO (valV kvs k) ((atKey xs k).map (·.2)):=by
 induction r with
 | nil=>exact True.intro
 | @cons p q ps qs h t ih =>
  obtain ⟨h1,_,h2⟩:=h
  by_cases e:p.1 = k
  ·have e':q.1 = k:=h1.symm.trans e
   have b:atKey (q :: qs) k = some q.2:=by simp [atKey,List.find?_cons,e']
   rw [yI e,b]; exact h2
  ·have e':¬ q.1 = k:=fun z=>e (h1.trans z)
   have b:atKey (q :: qs) k = atKey qs k:=by simp [atKey,List.find?_cons,e']
   rw [yH e,b]; exact ih
theorem KT.repl {H:Hp} {kvs:List (List Key × V)} {xs:List (List Key × Addr × Value)} (r:KT H kvs xs) (k:List Key) {y:V} {u:Value} (ry:RelV y u) :
  KT H (kvs.map fun kv=>if kv.1 = k then (kv.1,y) else kv) (xs.map (putAt k u)):=by
 induction r with
 | nil=>exact .nil
 | @cons p q ps qs h t ih =>
  rw [List.map_cons,List.map_cons]
  refine .cons ?_ ih
  obtain ⟨h1,h2,h3⟩:=h
  unfold putAt
  by_cases e:p.1 = k
  ·rw [if_pos e,if_pos (h1.symm.trans e)]; exact ⟨h1,h2,ry⟩
  ·rw [if_neg e,if_neg (fun z=>e (h1.trans z))]; exact ⟨h1,h2,h3⟩
theorem KT.put {H:Hp} {kvs:List (List Key × V)} {xs:List (List Key × Addr × Value)} (r:KT H kvs xs) (k:List Key) {b:Addr} {y:V} {u:Value} (hb:H b = some (.tup (k.map kV))) (ry:RelV y u) :
  KT H (putK kvs k y) (storedH xs k b u):=by
 have e:(kvs.any fun kv=>decide (kv.1 = k)) = (atKey xs k).isSome:=by
  rw [xL,(r.val k).isSome_eq,Option.isSome_map]
 unfold putK storedH
 rw [e]
 by_cases q:(atKey xs k).isSome = true
 ·rw [if_pos q,if_pos q]; exact r.repl k ry
 ·rw [if_neg q,if_neg q]; exact Paired.snoc r ⟨rfl,hb,ry⟩
theorem KT.keeps {H H':Hp} {kvs:List (List Key × V)} {xs:List (List Key × Addr × Value)} (r:KT H kvs xs) (ht:∀ b ys,H b = some (.tup ys) -> H' b = some (.tup ys)):KT H' kvs xs :=
 Paired.mapP r fun _ _ z=>⟨z.1,ht _ _ z.2.1,z.2.2⟩
section
variable {P:Program} {w:World} {H:Hp} {h:Heap} {a:Addr}
theorem rd_of {u:HO} (ok:HOk P w H h) (e:Rd H a u):ObjOk P w H h a u:=e.ok ok
theorem jT {kvs:List (Key × V)} (ok:HOk P w H h) (e:Rd H a (.dK kvs)):kvs.length <= sizeLine /\ (a == sysModules) = false /\ ∃ vs,KV kvs vs /\ h.DictOf (mixKind P w) a vs :=
 show ObjOk P w H h a (.dK kvs) from rd_of ok e
theorem dk_of {kvs:List (Key × V)} (ok:HOk P w H h) (e:H a = some (.dK kvs)):kvs.length <= sizeLine /\ (a == sysModules) = false /\ ∃ vs,KV kvs vs /\ h.DictOf (mixKind P w) a vs:=jT ok (.inl e)
theorem key_of {ks:List Key} (ok:HOk P w H h) (e:H a = some (.tup (ks.map kV))):(tupleKind (mixKind P w)).is h ks a:=by
 obtain ⟨_,its,r,o,h1,h2,n,h3⟩:=(show ObjOk P w H h a (.tup (ks.map kV)) from ok a _ e)
 exact ⟨o,its.toArray,n,h1,h2,h3,by simpa using items_are r⟩
theorem dt_rd {kvs:List (List Key × V)} (ok:HOk P w H h) (e:Rd H a (.dT kvs)):kvs.length <= sizeLine /\ (a == sysModules) = false /\
  ∃ xs,KT H kvs xs /\ h.DictOfH (tupleKind (mixKind P w)) a xs:=by
 obtain ⟨z,y,xs,r,o,es,ep,h1,h2,h3,h4,h5⟩:=(show ObjOk P w H h a (.dT kvs) from rd_of ok e)
 refine ⟨z,y,xs,r,o,es,ep,h1,h2,h3,h4,fun x hx=>?_,h5⟩
 have all:∀ {l:List (List Key × V)} {m:List (List Key × Addr × Value)},KT H l m -> ∀ x ∈ m,(tupleKind (mixKind P w)).is h x.1 x.2.1:=by
  intro l m q
  induction q with
  | nil=>intro x hx; exact nomatch hx
  | @cons p q ps qs hq t ih =>
   intro x hx
   rcases List.mem_cons.mp hx with e | hx
   ·subst e
    exact key_of ok (by rw [← hq.1]; exact hq.2.1)
   ·exact ih x hx
 exact all r x hx
theorem dt_of {kvs:List (List Key × V)} (ok:HOk P w H h) (e:H a = some (.dT kvs)):kvs.length <= sizeLine /\ (a == sysModules) = false /\
  ∃ xs,KT H kvs xs /\ h.DictOfH (tupleKind (mixKind P w)) a xs:=dt_rd ok (.inl e)
end
def DGet (H:Hp) (a:Addr) (y:V) (r:Option V):Prop :=
 (∃ kvs k,Rd H a (.dK kvs) /\ y = kV k /\ r = valV kvs k) \/ ∃ kvs k b,Rd H a (.dT kvs) /\ y = .ref b /\ H b = some (.tup (k.map kV)) /\ r = valV kvs k
def DPut (H:Hp) (a:Addr) (y v:V) (H':Hp):Prop :=
 (∃ kvs k,H a = some (.dK kvs) /\ y = kV k /\ kvs.length < sizeLine /\ H' = upd H a (.dK (putK kvs k v))) \/
 ∃ kvs k b,H a = some (.dT kvs) /\ y = .ref b /\ H b = some (.tup (k.map kV)) /\ kvs.length < sizeLine /\ H' = upd H a (.dT (putK kvs k v))
theorem DGet.k {H:Hp} {a:Addr} {kvs:List (Key × V)} {k:Key} (e:H a = some (.dK kvs)):DGet H a (kV k) (valV kvs k):=.inl ⟨kvs,k,.inl e,rfl,rfl⟩
theorem DPut.k {H:Hp} {a:Addr} {kvs:List (Key × V)} {k:Key} {v:V} (e:H a = some (.dK kvs)) (hl:kvs.length < sizeLine):DPut H a (kV k) v (upd H a (.dK (putK kvs k v))):=.inl ⟨kvs,k,e,rfl,hl,rfl⟩
section
variable {X:Cx} {pins:List (Addr × Obj)} {σ:St} {H:Hp} {s:Shared} {a:Addr} {y v:V} {u r:Value} {o:Option V} {A:Around} {E:Value -> Shared -> Prop}
theorem Inv.big (I:Inv X pins σ H s):sysModules < s.heap.objs.size:=by
 have h:mainGlobals < s.heap.objs.size:=(I.mod.glob.keeps I.bk).lt
 exact Nat.lt_trans (by decide) h
theorem d_getItem {Q:Value -> Shared -> Prop} (hu:A.units + 1 < cLine) (I:Inv X pins σ H s) (g:DGet H a y (some v)) (ry:RelV y u) (h:∀ w' s',Inv X pins σ H s' -> RelV v w' -> Q w' s') :
  wpAny (model X.prog X.w) A (getItem (.ref a) u) Q E s:=by
 rcases g with ⟨kvs,k,e,ey,l⟩ | ⟨kvs,k,b,e,ey,eb,l⟩
 ·subst ey
  obtain ⟨z,hd,vs,rel,dd⟩:=jT I.hok e
  obtain ⟨w',hw,rw'⟩:=RelO.some_of (v:=v) (o:=valueAt vs k) (by rw [l]; exact rel.val k)
  exact wpAny_getItem_of (kV_is ry) dd.mapOf hw (h w' _ (I.tok _) rw')
 ·subst ey
  cases (show u = Value.ref b from ry)
  obtain ⟨z,hd,xs,rel,dd⟩:=dt_rd I.hok e
  obtain ⟨w',hw,rw'⟩:=RelO.some_of (v:=v) (o:=(atKey xs k).map (·.2)) (by rw [l]; exact rel.val k)
  obtain ⟨p,hp,hp2⟩:=Option.map_eq_some_iff.mp hw
  refine wpAny_getItem_heap (tupleKind_room_in1 hu) (key_of I.hok eb) dd hp ?_
  rw [hp2]
  exact h w' _ (I.tok _) rw'
theorem d_in {Q:Value -> Shared -> Prop} (hu:A.units + 1 < cLine) (I:Inv X pins σ H s) (g:DGet H a y o) (ry:RelV y u) (h:∀ s',Inv X pins σ H s' -> Q (.bool o.isSome) s') :
  wpAny (model X.prog X.w) A (compareOp .In u (.ref a)) Q E s:=by
 rcases g with ⟨kvs,k,e,ey,l⟩ | ⟨kvs,k,b,e,ey,eb,l⟩
 ·subst ey
  obtain ⟨z,hd,vs,rel,dd⟩:=jT I.hok e
  refine wpAny_in_of (kV_is ry) hd dd.mapOf ?_
  rw [← (rel.val k).isSome_eq,← l]
  exact h _ (I.tok _)
 ·subst ey
  cases (show u = Value.ref b from ry)
  obtain ⟨z,hd,xs,rel,dd⟩:=dt_rd I.hok e
  refine wpAny_in_heap (tupleKind_room_in1 hu) (key_of I.hok eb) hd dd ?_
  have q:=(rel.val k).isSome_eq
  rw [Option.isSome_map] at q
  rw [← q,← l]
  exact h _ (I.tok _)
theorem d_notIn {Q:Value -> Shared -> Prop} (hu:A.units + 1 < cLine) (I:Inv X pins σ H s) (g:DGet H a y o) (ry:RelV y u) (h:∀ s',Inv X pins σ H s' -> Q (.bool (!o.isSome)) s') :
  wpAny (model X.prog X.w) A (compareOp .NotIn u (.ref a)) Q E s:=by
 rcases g with ⟨kvs,k,e,ey,l⟩ | ⟨kvs,k,b,e,ey,eb,l⟩
 ·subst ey
  obtain ⟨z,hd,vs,rel,dd⟩:=jT I.hok e
  refine wpAny_notIn_of (kV_is ry) hd dd.mapOf ?_
  rw [← (rel.val k).isSome_eq,← l]
  exact h _ (I.tok _)
 ·subst ey
  cases (show u = Value.ref b from ry)
  obtain ⟨z,hd,xs,rel,dd⟩:=dt_rd I.hok e
  refine wpAny_notIn_heap (tupleKind_room_in1 hu) (key_of I.hok eb) hd dd ?_
  have q:=(rel.val k).isSome_eq
  rw [Option.isSome_map] at q
  rw [← q,← l]
  exact h _ (I.tok _)
theorem d_write {h':Heap} {t':Nat} {ob:HO} (I:Inv X pins σ H s) (mu:Mut (H a)) (hs:Heap.SameBut a s.heap h') (he:∃ q,h'.get? a = some q) (new:ObjOk X.prog X.w (upd H a ob) h' a ob) :
  Inv X pins σ (upd H a ob) { s with heap:=h',toks:=t' } :=
 I.write (x:=a) (e:=a) mu (.inl rfl) (fun b q hb z=>(hs.2 b hb).trans z) he new
theorem dk_new {P:Program} {w:World} {H':Hp} {h':Heap} {kvs:List (Key × V)} {vs:List (Key × Value)} (z:kvs.length <= sizeLine) (hd:(a == sysModules) = false) (rel:KV kvs vs) (dd:h'.DictOf (mixKind P w) a vs) :
  ObjOk P w H' h' a (.dK kvs):=⟨z,hd,vs,rel,dd⟩
theorem d_setItem {H':Hp} {Q:Unit -> Shared -> Prop} (hu:A.units + 1 < cLine) (I:Inv X pins σ H s) (g:DPut H a y v H') (ry:RelV y u) (rv:RelV v r) (h:∀ s',Inv X pins σ H' s' -> Q () s') :
  wpAny (model X.prog X.w) A (setItem (.ref a) u r) Q E s:=by
 rcases g with ⟨kvs,k,e,ey,l,eH⟩ | ⟨kvs,k,b,e,ey,eb,l,eH⟩
 ·subst ey eH
  obtain ⟨z,hd,vs,rel,dd⟩:=dk_of I.hok e
  have hz:vs.length <= sizeLine:=by rw [← rel.length]; exact z
  have hl:(putK kvs k v).length <= sizeLine:=by have:=xO kvs k v; omega
  refine wpAny_setItem_pairs (hsz:=hz) (kV_is ry) dd fun h' dd' hs=>h _ ?_
  have he:∃ q,h'.get? a = some q:=let ⟨q,_,_,hq,_⟩:=dd'; ⟨q,hq⟩
  exact d_write I (by rw [e]; exact True.intro) hs he (dk_new hl hd (rel.put k rv) dd')
 ·subst ey eH
  cases (show u = Value.ref b from ry)
  obtain ⟨z,hd,xs,rel,dd⟩:=dt_of I.hok e
  have hz:xs.length <= sizeLine:=by rw [← Paired.length rel]; exact z
  have hl:(putK kvs k v).length <= sizeLine:=by have:=xO kvs k v; omega
  refine wpAny_setItem_heap (hsz:=hz) (tupleKind_room_in1 hu) (key_of I.hok eb) dd fun h' dd' hs=>h _ ?_
  obtain ⟨q,es,ep,hq,h2,h3,h4,_,h5⟩:=dd'
  refine d_write I (by rw [e]; exact True.intro) hs ⟨q,hq⟩ ⟨hl,hd,_,(rel.put k eb rv).keeps fun c ys ec=>?_,q,es,ep,hq,h2,h3,h4,h5⟩
  rw [zF (ne_of ec e (fun z=>nomatch z))]
  exact ec
end
section
variable {X:Cx} {pins:List (Addr × Obj)} {σ:St} {H:Hp} {s:Shared} {a:Addr} {kvs:List (Key × V)} {k:Key} {u:Value} {A:Around} {E:Value -> Shared -> Prop}
theorem d_pop {v:V} {more:List Value} {Q:Value -> Shared -> Prop} (I:Inv X pins σ H s) (e:H a = some (.dK kvs)) (ry:RelV (kV k) u) (l:valV kvs k = some v) (hm:more = [] \/ ∃ x,more = [x])
  (h:∀ w' s',Inv X pins σ (upd H a (.dK (dropK kvs k))) s' -> RelV v w' -> Q w' s'):wpAny (model X.prog X.w) A (call (.builtin "dict.pop") (.ref a :: u :: more)) Q E s:=by
 obtain ⟨z,hd,vs,rel,dd⟩:=dk_of I.hok e
 obtain ⟨w',hw,rw'⟩:=RelO.some_of (v:=v) (o:=valueAt vs k) (by rw [← l]; exact rel.val k)
 have hp:(keyPart u).isSome = true:=by
  cases k with
  | inl i=>obtain ⟨t,q⟩:=(show ∃ t,u = Value.int i t from ry); subst q; rfl
  | inr x=>obtain ⟨t,q⟩:=(show ∃ t,u = Value.str x t from ry); subst q; rfl
 have ha:argsOk "dict.pop" ⟨.ref a :: u :: more,[]⟩:=by
  rcases hm with q | ⟨x,q⟩
  ·subst q; exact PySem.F.args_dict_pop_2 _ _
  ·subst q; exact PySem.F.args_dict_pop_3 _ _ _
 refine call_meetsIn PySem.F.slot_dict_pop dd.typeIs PySem.F.entry_dict_pop ha (meets_dict_pop_there (mixKind X.prog X.w) a (kV_is ry) more hm hp)
  ⟨vs,w',dd,by rw [← rel.length]; exact z,hw,fun h' dd' hs=>h w' _ ?_ rw'⟩
 have he:∃ q,h'.get? a = some q:=let ⟨q,_,_,hq,_⟩:=dd'; ⟨q,hq⟩
 exact d_write I (by rw [e]; exact True.intro) hs he (dk_new (Nat.le_trans (dropK_le kvs k) z) hd (rel.drop k) dd')
end
def NoSl (i:Expr):Prop:=∀ ov iv,subscripted i false ov iv = operate [ov,iv] (getItem ov iv)
theorem subD_of {prog:Program} {w:World} {A:Around} {E:Value -> Shared -> Prop} {s:Shared} {env:Env} {value slice:Expr} {pos:Pos} {T id:String} {Q:Value -> Shared -> Prop}
  (hl:typeLookup (.type T) "__getitem__" = pure (some (.builtin id))) (hs:NoSl slice)
  (h:wpAny (model prog w) A (eval value env) (fun o s₁=>wpAny (model prog w) A (eval slice env) (fun i s₂=>s₂.TypeIs o T /\ wpAny (model prog w) A (getItem o i) Q E s₂) E s₁) E s) :
  wpAny (model prog w) A (eval (.Subscript value slice pos) env) Q E s:=by
 refine Subscript_ (wpAny_mono h (fun o s₁ h₁=>wpAny_mono h₁ (fun i s₂ h₂=>?_) fun _ _ x=>x) fun _ _ x=>x)
 obtain ⟨hT,h₂⟩:=h₂
 unfold subscriptTail
 refine wpAny_bind ?_
 rw [getitemInPython_of_ne hT.not_modules]
 refine wpAny_bind (wpAny_specialOf hT hl ?_)
 have fin:wpAny (model prog w) A (subscripted slice false o i) (fun r s₃=>wpAny (model prog w) A (letTemporaryGo value o r >>= fun _=>pure r) Q E s₃) E s₂:=by
  rw [hs o i]
  exact wpAny_operating (wpAny_mono h₂ (fun r s₃ h₃=>wpAny_bind (wpAny_letTemporaryGo (wpAny_pure h₃))) fun _ _ x=>x)
 first
  | exact wpAny_pure (wpAny_bind fin)
  | exact wpAny_bind (wpAny_pure (wpAny_bind fin))
  | exact wpAny_bind fin
theorem dict_typeIs {X:Cx} {pins:List (Addr × Obj)} {σ:St} {H:Hp} {s:Shared} {a:Addr} {y:V} {o:Option V} (I:Inv X pins σ H s) (g:DGet H a y o):s.TypeIs (.ref a) "dict":=by
 rcases g with ⟨kvs,k,e,_,_⟩ | ⟨kvs,k,b,e,_,_,_⟩
 ·obtain ⟨_,_,vs,_,dd⟩:=jT I.hok e
  exact dd.typeIs
 ·obtain ⟨_,_,xs,_,dd⟩:=dt_rd I.hok e
  exact dd.typeIs
def tDGet (td ty:TE):TE:=fun σ H Q=>td σ H fun x H1=>ty σ H1 fun y H2=>∃ a v,x = .ref a /\ DGet H2 a y (some v) /\ Q v H2
def sDPut (td ty tv:TE):TS:=fun D σ H=>tv σ H fun v H1=>td σ H1 fun x H2=>ty σ H2 fun y H3=>∃ a H4,x = .ref a /\ DPut H3 a y v H4 /\ D.nx σ H4
section
variable {X:Cx} {o i e value:Expr} {pos pos' tpos:Pos} {td ty tv:TE}
theorem pe_dget (hu:X.A.units + 1 < cLine) (ho:PE X o td) (hi:PE X i ty) (hs:NoSl i):PE X (.Subscript o i pos) (tDGet td ty):=by
 intro pins s σ H Q I h
 refine subD_of PySem.F.slot_dict_getitem.lookup hs (thn (ho pins s σ H _ I h) fun u s1 ⟨x,H1,I1,rx,q1⟩=>thn (hi pins s1 σ H1 _ I1 q1) fun iv s2 ⟨y,H2,I2,ry,a,v,ex,g,q2⟩=>?_)
 subst ex
 obtain rfl:u = Value.ref a:=rx
 exact ⟨dict_typeIs I2 g,d_getItem hu I2 g ry fun w' s3 I3 rw'=>⟨v,H2,I3,rw',q2⟩⟩
theorem jA (hu:X.A.units + 1 < cLine) (ho:PE X o td) (hi:PE X i ty) (hv:PE X value tv) (hs:swapsWith value (some (.Subscript o i pos')) pos.line X.env = pure false) :
  PS X (.Assign [.Subscript o i pos'] value pos) (sDPut td ty tv):=by
 intro pins s σ H D I h
 refine wpAny_Assign_Subscript (thn (hv pins s σ H _ I h) fun r s1 ⟨v,H1,I1,rv,q1⟩=>thn (ho pins s1 σ H1 _ I1 q1) fun u s2 ⟨x,H2,I2,rx,q2⟩=>thn (hi pins s2 σ H2 _ I2 q2) fun iv s3 ⟨y,H3,I3,ry,a,H4,ex,g,q3⟩=>?_) hs
 subst ex
 obtain rfl:u = Value.ref a:=rx
 exact d_setItem hu I3 g ry rv fun s4 I4=>⟨σ,H4,I4,q3⟩
end
theorem dk_empty {P:Program} {w:World} {H:Hp} (h:Heap) (hb:sysModules < h.objs.size):ObjOk P w H (h.push { cls:=.type "dict",data:=.dict #[] }) h.objs.size (.dK []) :=
 ⟨Nat.zero_le _,beq_eq_false_iff_ne.mpr (Ne.symm (Nat.ne_of_lt hb)),[],.nil,Heap.DictOf.new h⟩
def tDNewK:TE:=fun _ H Q=>∀ p,H p = none -> Q (.ref p) (upd H p (.dK []))
section
variable {X:Cx} {pos:Pos}
theorem jK:PE X (.Dict [] [] pos) tDNewK:=fun pins s σ H Q I h =>
 wpAny_Dict_empty ⟨.ref s.heap.objs.size,_,I.laid (a:=s.heap.objs.size) (o:=.dK []) (t':=s.toks) (fun _ _ q=>Heap.get?_push_of_some _ q) (Nat.le_refl _) (dk_empty s.heap I.big),rfl,h _ (I.hok.fresh (Nat.le_refl _))⟩
end
structure M1 (X:Cx) (o:Expr) (m:Str) (apos:Pos) (e:Expr) (cpos:Pos):Prop where
 base:attributeBase o m X.env (eval o X.env) = eval o X.env
 few:((backTo cpos (starEach [e] X.env)).all (fun x=>!x.1) && (backToKw cpos (keywordEach [] X.env)).all (fun x=>x.1.isSome)
  && decide (([e]:List Expr).length + ([]:List Keyword).length + (if ([]:List Keyword).isEmpty then 0 else 1) < 30)) = true
 line:(apos.endLine == cpos.line) = true
 trees:backTo cpos (starEach [e] X.env) = [(false,eval e X.env)]
def IsD (H:Hp) (a:Addr):Prop:=(∃ kvs,Rd H a (.dK kvs)) \/ ∃ kvs,Rd H a (.dT kvs)
theorem isD_at {X:Cx} {pins:List (Addr × Obj)} {σ:St} {H:Hp} {s:Shared} {a:Addr} (I:Inv X pins σ H s) (d:IsD H a) :
  s.TypeIs (.ref a) "dict" /\ (∀ b,Value.ref a = .ref b -> ∃ ob,s.heap.get? b = some ob /\ ob.dict = none) /\ (a == sysModules) = false:=by
 rcases d with ⟨kvs,e⟩ | ⟨kvs,e⟩
 ·obtain ⟨_,hd,vs,_,dd⟩:=jT I.hok e
  refine ⟨dd.typeIs,fun b q=>?_,hd⟩
  cases q
  obtain ⟨ob,_,_,h1,h2,_⟩:=dd
  exact ⟨ob,h1,h2.2.1⟩
 ·obtain ⟨_,hd,xs,_,dd⟩:=dt_rd I.hok e
  refine ⟨dd.typeIs,fun b q=>?_,hd⟩
  cases q
  obtain ⟨ob,_,_,h1,h2,_⟩:=dd
  exact ⟨ob,h1,h2.2.1⟩
section
variable {X:Cx} {pins:List (Addr × Obj)} {σ:St} {H:Hp} {s:Shared} {a:Addr} {y d:V} {u r:Value} {o:Option V} {A:Around} {E:Value -> Shared -> Prop}
theorem d_get1 {Q:Value -> Shared -> Prop} (hu:A.units + 1 < cLine) (I:Inv X pins σ H s) (g:DGet H a y o) (ry:RelV y u) (h:∀ w' s',Inv X pins σ H s' -> RelV (o.getD .non) w' -> Q w' s') :
  wpAny (model X.prog X.w) A (call (.builtin "dict.get") [.ref a,u]) Q E s:=by
 rcases g with ⟨kvs,k,e,ey,l⟩ | ⟨kvs,k,b,e,ey,eb,l⟩
 ·subst ey
  obtain ⟨z,hd,vs,rel,dd⟩:=jT I.hok e
  refine call_meetsIn PySem.F.slot_dict_get dd.typeIs PySem.F.entry_dict_get (PySem.F.args_dict_get_2 _ _) (meets_dict_get (mixKind X.prog X.w) a (kV_is ry) hd) ⟨_,dd.mapOf,h _ _ (I.tok _) ?_⟩
  rw [l]
  exact (rel.val k).getD rfl
 ·subst ey
  cases (show u = Value.ref b from ry)
  obtain ⟨z,hd,xs,rel,dd⟩:=dt_rd I.hok e
  refine call_meetsIn PySem.F.slot_dict_get dd.typeIs PySem.F.entry_dict_get (PySem.F.args_dict_get_2 _ _) (meetsH_dict_get (tupleKind (mixKind X.prog X.w)) a b hd) ⟨tupleKind_room_in1 hu,k,xs,key_of I.hok eb,dd,h _ _ (I.tok _) ?_⟩
  rw [l]
  exact (rel.val k).getD rfl
end
def tDGet1 (td ty:TE):TE:=fun σ H Q=>td σ H fun x H1=>∃ a,x = .ref a /\ IsD H1 a /\ ty σ H1 fun y H2=>∃ o,DGet H2 a y o /\ Q (o.getD .non) H2
def tDPop1 (td ty:TE):TE:=fun σ H Q=>td σ H fun x H1=>∃ a,x = .ref a /\ IsD H1 a /\ ty σ H1 fun y H2=>∃ kvs k v,H2 a = some (.dK kvs) /\ y = kV k /\ valV kvs k = some v /\ Q v (upd H2 a (.dK (dropK kvs k)))
section
variable {X:Cx} {o e f:Expr} {apos cpos:Pos} {td ty tx:TE}
theorem yD (hu:X.A.units + 1 < cLine) (ho:PE X o td) (he:PE X e ty) (m:M1 X o "get" apos e cpos):PE X (.Call (.Attribute o "get" apos) [e] [] cpos) (tDGet1 td ty):=by
 intro pins s σ H Q I h
 refine wpAny_Call_method m.base m.few m.line PySem.F.plainAttrs_dict PySem.F.slot_dict_get PySem.F.type_dict_get (thn (ho pins s σ H _ I h) fun u s1 ⟨x,H1,I1,rx,a,ex,d,q1⟩=>?_)
 subst ex
 obtain rfl:u = Value.ref a:=rx
 obtain ⟨t1,t2,_⟩:=isD_at I1 d
 refine ⟨t1,t2,?_⟩
 rw [m.trees]
 refine Calls.callWith_builtin rfl (Calls.evalArgs_plain (Calls.spliced_cons (thn (he pins s1 σ H1 _ I1 q1) fun iv s2 ⟨y,H2,I2,ry,ov,g,q2⟩=>Calls.spliced_nil ?_)))
 exact d_get1 hu I2 g ry fun w' s3 I3 rw'=>⟨_,H2,I3,rw',q2⟩
theorem pe_dpop1 (ho:PE X o td) (he:PE X e ty) (m:M1 X o "pop" apos e cpos):PE X (.Call (.Attribute o "pop" apos) [e] [] cpos) (tDPop1 td ty):=by
 intro pins s σ H Q I h
 refine wpAny_Call_method m.base m.few m.line PySem.F.plainAttrs_dict PySem.F.slot_dict_pop PySem.F.type_dict_pop (thn (ho pins s σ H _ I h) fun u s1 ⟨x,H1,I1,rx,a,ex,d,q1⟩=>?_)
 subst ex
 obtain rfl:u = Value.ref a:=rx
 obtain ⟨t1,t2,_⟩:=isD_at I1 d
 refine ⟨t1,t2,?_⟩
 rw [m.trees]
 refine Calls.callWith_builtin rfl (Calls.evalArgs_plain (Calls.spliced_cons (thn (he pins s1 σ H1 _ I1 q1) fun iv s2 ⟨y,H2,I2,ry,kvs,k,v,ea,ey,l,q2⟩=>Calls.spliced_nil ?_)))
 subst ey
 exact d_pop I2 ea ry l (.inl rfl) fun w' s3 I3 rw'=>⟨v,_,I3,rw',q2⟩
end
section
variable {X:Cx} {pins:List (Addr × Obj)} {σ:St} {H:Hp} {s:Shared} {a:Addr} {kvs:List (Key × V)} {A:Around} {E:Value -> Shared -> Prop}
theorem d_copyOf {Q:Value -> Shared -> Prop} (I:Inv X pins σ H s) (e:Rd H a (.dK kvs)) (h:∀ p s',H p = none -> Inv X pins σ (upd H p (.dK kvs)) s' -> Q (.ref p) s'):wpAny (model X.prog X.w) A (call (.type "dict") [.ref a]) Q E s:=by
 obtain ⟨z,hd,vs,rel,dd⟩:=jT I.hok e
 refine kt_call_dict hd dd (by rw [← rel.length]; exact z) fun h' dd' hs=>?_
 refine h _ _ (I.hok.fresh (Nat.le_refl _)) (I.laid (a:=s.heap.objs.size) (o:=.dK kvs) (t':=s.toks) (fun b q hq=>?_) (Nat.le_refl _) (dk_new z (beq_eq_false_iff_ne.mpr (Ne.symm (Nat.ne_of_lt I.big))) rel dd'))
 exact (hs.2 b (Nat.ne_of_lt (Heap.lt_size hq))).trans (Heap.get?_push_of_some _ hq)
end
section
variable {X:Cx} {pins:List (Addr × Obj)} {σ:St} {H:Hp} {s:Shared} {a:Addr} {y:V} {u:Value} {A:Around} {E:Value -> Shared -> Prop}
end
end L2
namespace Att
open PySem PySem.W PySem.Calls PyProof.Rows
theorem ints_of_wellAll {P:Params} {h:Heap}:∀ (ns:List Int) (vs:List Value),WellAll P h vs (ns.map WData.int) -> IntsAre vs ns:=by
 intro ns
 induction ns with
 | nil =>
  intro vs w
  rw [List.map_nil] at w
  cases w
  exact .nil
 | cons n ns ih =>
  intro vs w
  rw [List.map_cons] at w
  cases w with
  | cons a b =>
   cases a
   exact .cons _ _ (ih _ b)
theorem script_of {l:OpenLaw} {n:Nat} (hn:l.most = some n) {P:Params} {h:Heap} {args:List WData} {vals:List Value}
  (hpre:l.row.toRowW.claim.pre args = true) (hwl:WellAll P h vals args) :
  ∃ a vs ns,vals = [Value.ref a] /\ args = [WData.list (ns.map WData.int)] /\ h.get? a = some { cls:=.type "list",data:=.seq vs.toArray } /\ IntsAre vs ns /\ ns.length <= n:=by
 have hsh:WShape.hasAll [] args [.list .int] = true:=(pre_splitW hpre).1
 have hc:l.pre.holds [] { args:=args } = true:=(pre_splitW hpre).2
 obtain ⟨d,r,rfl,h1,h2⟩:=hasAllW_cons hsh
 obtain rfl:=hasAllW_nil h2
 obtain ⟨xs,rfl,h3⟩:=hasW_list h1
 obtain ⟨ns,rfl⟩:=items_int h3
 have hlen:ns.length <= n:=by
  unfold OpenLaw.pre at hc
  have h4:(WTm.not (.lt (.lit (.int (n:Int))) (.len (.arg 0)))).holds [] { args:=[.list (ns.map .int)] } = true:=by
   have h4:=(holds_andW hc).1
   rw [hn] at h4
   exact h4
  have h5:=condW_of h4 (w_not (w_lt w_lit (w_len_list (w_arg rfl))))
  rw [List.length_map] at h5
  refine Nat.le_of_not_lt fun q=>?_
  have q':(n:Int) < ((ns.length:Nat):Int):=by omega
  first
   | (rw [decide_eq_true q'] at h5; exact absurd h5 (by decide))
   | (simp at h5; omega)
 cases hwl with
 | cons w1 w2 =>
  cases w2
  cases w1 with
  | list ho hall=>exact ⟨_,_,ns,rfl,rfl,ho,ints_of_wellAll ns _ hall,hlen⟩
theorem post_true (l:OpenLaw) (args:List WData):l.row.toRowW.claim.post args (.bool true) args = true :=
 postW_of (r:=l.row.toRowW) (X:=(true == true))
  (show WShape.has [] (.bool true) .bool = true by first | rfl | decide | simp [WShape.has,WShape.arms,WShape.armsAll])
  (show (WTm.eq .res (.lit (.bool true))).value [] { args:=args,res:=some (.bool true),after:=args } = some (.bool (true == true)) from w_eq_bool (w_res rfl) w_lit) rfl
theorem attach_call {l:OpenLaw} {n:Nat} {q:Program} {loose:List Str} {XP:(Str -> Option Value) -> Heap -> Prop} {YP:World -> Heap -> Prop} {d:DefRec}
  (hn:l.most = some n) (hdf:d.params.defaults = [])
  (call:∀ (w:World) (s₀ s₁:Shared) (mg mb:Str -> Option Value) (fa:Addr) (o:Obj) (pm cd doc:Value) (a:Addr) (vs:List Value) (ns:List Int),
   Ground q loose [] XP w s₀ mg mb s₁.heap -> YP w s₁.heap ->
   s₁.heap.get? fa = some o -> o.data = .func (docDef d.name d.params d.body d.scope pm cd doc) -> s₁.heap.CodeRec cd d.name -> mg d.name = some (.ref fa) ->
   s₁.heap.get? a = some { cls:=.type "list",data:=.seq vs.toArray } -> IntsAre vs ns -> ns.length <= n -> s₁.gens = #[] ->
   codeAny (model l.prog w) callerA (.call (.ref fa) ⟨[.ref a],[]⟩) (fun r s'=>r = .ok (.ret (.bool true)) /\ OldK s₁.heap s'.heap /\ s'.os = s₁.os /\ AllBare s'.gens) s₁) :
  WalkO q loose XP YP l.row.toRowW d [] (fun f vs=>PySem.call f vs):=by
 intro w s₀ s₁ mg mb G Y fa o pm cd doc dV kV ho hd hcd hD hmg hg args vals as hpre hlay hrd hwl hlo
 obtain rfl:dV = .none:=Dflts.none hD hdf
 obtain rfl:kV = .none:=Dflts.noKw hD
 obtain ⟨a,vs,ns,rfl,rfl,hobj,hints,hlen⟩:=script_of hn hpre hwl
 refine enter_call (codeAny_mono (call w s₀ s₁ mg mb fa o pm cd doc a vs ns G Y ho (fd_plain hd) hcd hmg hobj hints hlen hg) fun r s' hq=>?_)
 obtain ⟨rfl,h2,h3,h4⟩:=hq
 exact ⟨.inl ⟨.bool true,.bool true,[],rfl,fun _=>rfl,.bool true,post_true l _,fun _=>⟨List.Pairwise.nil,fun _ hm=>(nomatch hm)⟩⟩,h2,h3,h4⟩
section
variable {prog:Program} {w:World} {A:Around} {E:Value -> Shared -> Prop} {s:Shared} {K:Frag}
end
end Att
namespace L2
open PySem PySem.Spec PyProof.Rows
theorem vals_ints:∀ {vs:List Value} {ns:List Int},IntsAre vs ns -> Vals (ns.map V.int) vs
 | _,_,.nil=>.nil
 | _,_,.cons n t h=>.cons ⟨t,rfl⟩ (vals_ints h)
def Only (H:Hp):Prop:=∀ b,H b = none \/ ∃ o xs,H b = some (.frz o (.lst xs))
theorem law_call {P:Program} {w:World} {K:PySem.W.Frag} {mg mb:Str -> Option Value} {CX:CXT} {k:Nat} {fa a:Addr} {fd:FuncData} {x:Str} {sp:Sp} {s₁:Shared} {vs:List Value} {ns:List Int}
  (KX:K.In s₁.heap) (hns:s₁.heap.Ns mainGlobals mg) (hb:s₁.heap.Ns builtinsNs mb) (hbb:∀ x:Str,x ≠ "__name__" -> mb x = bootBuiltins x) (hlim:s₁.heap.NoLimit) (hg:s₁.gens = #[])
  (ha:s₁.heap.get? a = some { cls:=.type "list",data:=.seq vs.toArray }) (hi:IntsAre vs ns) (hl:ns.length <= sizeLine) (hr:Room k callerA)
  (F:∀ base:Heap,K.In base -> base.Ns mainGlobals mg -> FnOk P w K mg base CX k fa fd [x] sp) (hbind:∀ (s:Shared) (u:Value),BindsTo s fd ⟨[u],[]⟩ [(x,u)])
  (hsp:∀ H:Hp,Only H -> SqL K H a (ns.map V.int) -> sp [.ref a] H (fun v _=>v = .bl true) fun _ _ _=>False)
  (hCX:∀ H e s',CX [] H s₁ (fun _ _ _=>False) e s' -> False) :
  codeAny (model P w) callerA (.call (.ref fa) ⟨[.ref a],[]⟩) (fun r s'=>r = .ok (.ret (.bool true)) /\ OldK s₁.heap s'.heap /\ s'.os = s₁.os /\ AllBare s'.gens) s₁:=by
 have rv:=vals_ints hi
 have lenV:=hi.length
 have core:∀ H:Hp,Only H -> SqL K H a (ns.map V.int) -> HOk P w H s₁.heap -> (∀ b,H b ≠ none -> b = a) -> (H a ≠ none -> K.lookup a = none) ->
   codeAny (model P w) callerA (.call (.ref fa) ⟨[.ref a],[]⟩) (fun r s'=>r = .ok (.ret (.bool true)) /\ OldK s₁.heap s'.heap /\ s'.os = s₁.os /\ AllBare s'.gens) s₁:=by
  intro H hO hS hok hA hK
  have base_of:∀ {b:Addr} {o:Obj},s₁.heap.get? b = some o -> H b = none -> (hidT s₁.heap H).get? b = some o:=fun e n=>hidT_get e n
  have noA:∀ {b:Addr} {o:Obj} {es:Array DictEntry} {ep:Nat},s₁.heap.get? b = some o -> o.data = .dict es ep -> H b = none:=fun {b o es ep} e d=>by
   cases q:H b with
   | none=>rfl
   | some u =>
    have e':b = a:=hA b (by rw [q]; simp)
    subst e'
    rw [ha] at e; cases e
    have d':Data.seq vs.toArray _ = Data.dict es ep:=d
    cases d'
  have nsK:∀ {b:Addr} {m:Str -> Option Value},s₁.heap.Ns b m -> (hidT s₁.heap H).Ns b m:=fun {b m} ⟨o,es,ep,e,d,r⟩=>⟨o,es,ep,base_of e (noA e d),d,r⟩
  have hKb:K.In (hidT s₁.heap H):=fun b o e=>base_of (KX b o e) (by
   cases q:H b with
   | none=>rfl
   | some u =>
    have e':b = a:=hA b (by rw [q]; simp)
    subst e'
    rw [hK (by rw [q]; simp)] at e; cases e)
  have hM:Mod K mg (hidT s₁.heap H):=⟨hKb,nsK hns,⟨mb,nsK hb,hbb⟩,let ⟨mc,h1,h2⟩:=hlim; ⟨mc,nsK h1,h2⟩⟩
  have e0:Env0 P w K mg (hidT s₁.heap H) callerA [] s₁ H:=⟨rfl,hM,fun b o e=>of_hidT e,Nat.le_of_eq (hidT_size _ _),trivial,fun b hb=>absurd (show b ∈ ([]:List Addr) from hb) (by simp),hok,.of_eq hg⟩
  refine codeAny_mono ((F _ hKb (nsK hns)).run callerA [] s₁ H ⟨[.ref a],[]⟩ [.ref a] [.ref a] _ _ hr e0 (hbind s₁ (.ref a)) (.cons rfl .nil) (hsp H hO hS)) fun r s' h=>?_
  cases r with
  | error e=>exact (hCX H e s' h).elim
  | ok fl =>
   cases fl with
   | next=>exact False.elim h
   | brk=>exact False.elim h
   | cont=>exact False.elim h
   | ret u =>
    obtain ⟨v,H',os,bare,un,hok',r',q⟩:=h
    have q':v = .bl true:=q
    subst q'
    obtain rfl:u = Value.bool true:=r'
    refine ⟨rfl,OldK.of_keep fun b o e=>?_,os,bare⟩
    cases q:H b with
    | none=>exact un.keep b o e q (by intro z; exact absurd (show b ∈ ([]:List Addr) from z) (by simp)) (by simp)
    | some u =>
     rcases hO b with z | ⟨ob,xs,z⟩
     ·rw [q] at z; cases z
     ·have z2:=un.frzs b ob _ z
      obtain ⟨e1,_⟩:=hok b _ z
      obtain ⟨e2,_⟩:=hok' b _ z2
      rw [e] at e1; cases e1
      exact e2
 cases hk:K.lookup a with
 | some o =>
  have e:=KX a o hk
  rw [ha] at e
  cases e
  refine core (fun _=>none) (fun _=>.inl rfl) (.inr ⟨_,vs.toArray,_,hk,rfl,rfl,rfl,by rw [List.size_toArray,lenV]; exact hl,by simpa using rv⟩) (fun b u z=>by have z':(none:Option HO) = some u:=z; cases z') (fun b z=>absurd rfl z) fun z=>absurd rfl z
 | none =>
  refine core (fun b=>if b = a then some (.frz { cls:=.type "list",data:=.seq vs.toArray } (.lst (ns.map V.int))) else none) (fun b=>?_) (.inl (.inr ⟨{ cls:=.type "list",data:=.seq vs.toArray },if_pos rfl⟩)) (fun b u z=>?_) (fun b z=>?_) fun _=>hk
  ·by_cases hb:b = a
   ·exact .inr ⟨_,_,if_pos hb⟩
   ·exact .inl (if_neg hb)
  ·by_cases hb:b = a
   ·have z':=(if_pos hb).symm.trans z
    cases z'
    subst hb
    exact ⟨ha,by rw [List.length_map]; exact hl,vs,_,rv,ha⟩
   ·have z':=(if_neg hb).symm.trans z
    cases z'
  ·by_cases hb:b = a
   ·exact hb
   ·exact absurd (if_neg hb) z
end L2
namespace L2
open PySem PySem.Spec PyProof.Rows
theorem walk_of {l:PySem.W.OpenLaw} {n k:Nat} {q:Program} {loose:List Str} {XP:(Str -> Option Value) -> Heap -> Prop} {YP:World -> Heap -> Prop} {d:DefRec} {K:Params -> PySem.W.Frag} {CX:World -> CXT} {sp:World -> Sp} {x:Str}
  (hn:l.most = some n) (hn2:n <= sizeLine) (hdf:d.params.defaults = []) (hr:Room k callerA)
  (hY:∀ (w:World) (h:Heap),YP w h -> (K w.params).In h)
  (F:∀ (w:World) (mg:Str -> Option Value) (fa:Addr) (h:Heap),(K w.params).In h -> h.Ns mainGlobals mg -> mg d.name = some (.ref fa) ->
   ∃ fd:FuncData,(∀ (s:Shared) (u:Value),BindsTo s fd ⟨[u],[]⟩ [(x,u)]) /\
    ∀ base:Heap,(K w.params).In base -> base.Ns mainGlobals mg -> FnOk l.prog w (K w.params) mg base (CX w) k fa fd [x] (sp w))
  (hsp:∀ (w:World) (H:Hp) (a:Addr) (ns:List Int),ns.length <= n -> Only H -> SqL (K w.params) H a (ns.map V.int) -> sp w [.ref a] H (fun v _=>v = .bl true) fun _ _ _=>False)
  (hCX:∀ (w:World) (H:Hp) (s:Shared) (e:Value) (s':Shared),CX w [] H s (fun _ _ _=>False) e s' -> False) :
  PySem.W.WalkO q loose XP YP l.row.toRowW d [] (fun f vs=>PySem.call f vs):=by
 refine Att.attach_call hn hdf fun w s₀ s₁ mg mb fa o pm cd doc a vs ns G Y ho hd hcd hmg hobj hints hlen hg=>?_
 have KX:=hY w _ Y
 obtain ⟨fd,hb,hF⟩:=F w mg fa _ KX G.T.g hmg
 exact law_call KX G.T.g G.T.b G.T.builtins G.T.nolimit hg hobj hints (Nat.le_trans hlen hn2) hr hF hb (fun H hO hS=>hsp w H a ns hlen hO hS) fun H e s'=>hCX w H s₁ e s'
end L2
namespace L2
open PySem PySem.Spec PyProof.Rows
def zS (s:Stmt):Arguments:=match s with
 | .FunctionDef _ a _ _ _ _ _ _ _ _=>a
 | _=>{ posonlyargs:=[],args:=[],vararg:=none,kwonlyargs:=[],kw_defaults:=[],kwarg:=none,defaults:=[] }
def zR (s:Stmt):List Stmt:=match s with
 | .FunctionDef _ _ b _ _ _ _ _ _ _=>b
 | _=>[]
def zD (s:Stmt):Scope:=match s with
 | .FunctionDef _ _ _ _ _ _ sc _ _ _=>sc
 | _=>{ kind:=.function,names:=[],isGenerator:=false,isCoroutine:=false }
abbrev CX0:CXT:=fun _ _ _ _ _ _=>False
abbrev E0:XK:=fun _ _ _=>False
theorem pass0 {X:Cx}:Passes CX0 X E0:=fun _ _ _ _ _ _ _ h=>h.elim
structure Fun (K:PySem.W.Frag) (x qual:Str) (st:Stmt) (f:Addr) (fd:FuncData):Prop where
 ex:∃ (oc:Value) (od:Option Addr) (kV doc pm:Value) (an:Option Addr) (cdv ct:Value) (osl:Array (Option Value)),
  fd = PySem.W.fnOf x qual (zS st) (zR st) (zD st) .none kV doc pm an cdv ct /\ K.lookup f = some ⟨oc,od,.func fd,osl⟩ /\ PySem.W.codeIn K cdv qual = true
 kp:PySem.W.keepIn K (.ref f) = true
section
variable {P:Program} {w:World} {K:PySem.W.Frag} {mg:Str -> Option Value} {base:Heap}
theorem Fun.ok {x qual:Str} {st:Stmt} {f:Addr} {fd:FuncData} {N ps:List Str} {k:Nat} {sp:Sp} (F:Fun K x qual st f fd) (S:FnScope N ps (zD st)) (len:∀ vs H Q E,sp vs H Q E -> vs.length = ps.length)
  (hbody:∀ (cdv:Value) (A:Around) (outer:List Env) (s:Shared) (H:Hp) (vs:List V) (Q:VK) (E:XK),Room k (A.deeper (envOfC qual (zD st) s.heap.objs.size f cdv)) -> sp vs H Q E ->
   ∃ t,PSs (cxOf CX0 P w K mg base N qual (zD st) f cdv A outer s H E).nox (zR st) t /\ t { nx:=fun _ H'=>Q .non H',rt:=Q } (start N vs) H):FnOk P w K mg base CX0 (k + 1) f fd ps sp:=by
 obtain ⟨oc,od,kV,doc,pm,an,cdv,ct,osl,rfl,lk,hcd⟩:=F.ex
 refine fn_of lk hcd S len fun A outer s H vs Q E hr hsp=>?_
 obtain ⟨t,h,q⟩:=hbody cdv A outer s H vs Q E hr hsp
 exact ⟨t,h.nox,q⟩
theorem Fun.binds {x qual:Str} {st:Stmt} {f:Addr} {fd:FuncData} {ps:List Str} (F:Fun K x qual st f fd)
  (h:∀ (kV doc pm:Value) (an:Option Addr) (cdv ct:Value) (us:List Value),us.length = ps.length -> bindArgs (PySem.W.fnOf x qual (zS st) (zR st) (zD st) .none kV doc pm an cdv ct) ⟨us,[]⟩ = pure (ps.zip us)):Binds K fd ps []:=by
 obtain ⟨oc,od,kV,doc,pm,an,cdv,ct,osl,rfl,lk,hcd⟩:=F.ex
 exact .all (h kV doc pm an cdv ct)
theorem z4 {x qual:Str} {st:Stmt} {f:Addr} {oc:Value} {od an:Option Addr} {osl:Array (Option Value)} {kV doc pm cdv ct:Value} (l:K.lookup f = some ⟨oc,od,.func (PySem.W.fnOf x qual (zS st) (zR st) (zD st) .none kV doc pm an cdv ct),osl⟩)
  (c:PySem.W.codeIn K cdv qual = true) (k:PySem.W.keepIn K (.ref f) = true):Fun K x qual st f (PySem.W.fnOf x qual (zS st) (zR st) (zD st) .none kV doc pm an cdv ct):=⟨⟨oc,od,kV,doc,pm,an,cdv,ct,osl,rfl,l,c⟩,k⟩
end
section
variable {X:Cx}
theorem pv (i:Nat) {x:Str} {pos:Pos} (hN:X.N[i]? = some x:=by rfl) (hv:Vis X.env.scope x:=by first | exact Or.inl rfl | exact Or.inr (Or.inl rfl) | exact Or.inr (Or.inr rfl)) (hd:(x == ("__debug__":Str)) = false:=by decide)
  (hcd:(x == ("__classdict__":Str)) = false:=by decide):PE X (.Name x pos) (tVar i):=pe_var hN hv hd hcd
end
theorem iteF {A B:Prop} (h:B):if false = true then A else B:=by
 rw [if_neg Bool.false_ne_true]
 exact h
theorem iteT {A B:Prop} (h:A):if true = true then A else B:=by
 rw [if_pos rfl]
 exact h
theorem ite2 {c A B:Prop} [Decidable c] (h1:c -> A) (h2:¬ c -> B):if c then A else B:=by
 by_cases h:c
 ·rw [if_pos h]
  exact h1 h
 ·rw [if_neg h]
  exact h2 h
def Same (H H':Hp):Prop:=∀ b o,H b = some o -> H' b = some o
theorem Same.refl (H:Hp):Same H H:=fun _ _ h=>h
theorem Same.trans {H H1 H2:Hp} (a:Same H H1) (b:Same H1 H2):Same H H2:=fun c o h=>b c o (a c o h)
theorem Same.free {H H':Hp} (e:Same H H') {l:Addr} (h:H' l = Option.none):H l = Option.none:=by
 cases q:H l with
 | none=>rfl
 | some o =>
  rw [e l o q] at h
  cases h
theorem Same.seq {K:PySem.W.Frag} {H H':Hp} {a:Addr} {xs:List V} (e:Same H H') (h:SqL K H a xs):SqL K H' a xs:=by
 rcases h with (h | ⟨o,h⟩) | h
 ·exact .inl (.inl (e _ _ h))
 ·exact .inl (.inr ⟨o,e _ _ h⟩)
 ·exact .inr h
section
variable {κ:Type} [DecidableEq κ]
theorem valV_in {kvs:List (κ × V)} {k:κ} {v:V} (h:valV kvs k = some v):k ∈ kvs.map (·.1):=by
 have q:(kvs.any fun kv=>decide (kv.1 = k)) = true:=by
  rw [xL,h]
  all_goals rfl
 obtain ⟨p,hp,e⟩:=List.any_eq_true.mp q
 exact List.mem_map.mpr ⟨p,hp,of_decide_eq_true e⟩
theorem nd_snoc:∀ {l:List κ} {k:κ},l.Nodup -> ¬ k ∈ l -> (l ++ [k]).Nodup
 | [],k,_,_=>by simp
 | a :: r,k,h,hk=>by
  obtain ⟨h1,h2⟩:=List.nodup_cons.mp h
  show (a :: (r ++ [k])).Nodup
  refine List.nodup_cons.mpr ⟨fun m=>?_,nd_snoc h2 fun m=>hk (List.mem_cons.mpr (Or.inr m))⟩
  rcases List.mem_append.mp m with q | q
  ·exact h1 q
  ·exact hk (List.mem_cons.mpr (Or.inl (List.mem_singleton.mp q).symm))
theorem dropK_pos {p:κ × V} {r:List (κ × V)} {k:κ} (e:p.1 = k):dropK (p :: r) k = dropK r k:=by
 unfold dropK
 rw [List.filter_cons,if_neg (by simp [e])]
theorem dropK_neg {p:κ × V} {r:List (κ × V)} {k:κ} (e:¬ p.1 = k):dropK (p :: r) k = p :: dropK r k:=by
 unfold dropK
 rw [List.filter_cons,if_pos (by simp [e])]
end
end L2
set_option maxHeartbeats 4000000
namespace L2
open PySem PySem.Spec PyProof.Rows
theorem xR {α β:Type} {f:α -> β -> Sem (ForInStep β)} (g:β -> α -> β):∀ (l:List α) (c:β),(∀ x ∈ l,∀ c,f x c = pure (.yield (g c x))) -> forIn l c f = pure (l.foldl g c)
 | [],c,_=>rfl
 | x :: l,c,h=>by
  rw [List.forIn_cons,h x List.mem_cons_self,pure_bind]
  exact xR g l (g c x) fun y hy=>h y (List.mem_cons_of_mem _ hy)
def closF (cells:List (Str × Addr)) (c:List (Str × Addr)) (x:Str × NameKind):List (Str × Addr) :=
 if x.2 == .free then (match cells.lookup x.1 with | some a=>(x.1,a) :: c | none=>c) else c
def xG (env:Env) (sc:Scope):List (Str × Addr):=sc.names.foldl (closF env.cells) []
theorem qH {scope:Scope} {env:Env} (h:∀ x ∈ scope.names,x.2 = .free -> ∃ c,env.cells.lookup x.1 = some c):closureFor scope env = pure (xG env scope):=by
 simp only [closureFor]
 rw [xR (closF env.cells) scope.names [] (fun x hx c=>?_)]
 ·rfl
 ·obtain ⟨n,k⟩:=x
  unfold closF
  cases hk:(k == NameKind.free) with
  | true =>
   have e:k = .free:=by simpa using hk
   obtain ⟨a,ha⟩:=h (n,k) hx e
   have ha':env.cells.lookup n = some a:=ha
   simp only [hk,if_true,cellOf,ha',pure_bind]
  | false=>simp only [hk,Bool.false_eq_true,if_false]
theorem y9 {β:Type} (x n:Str) (a:β) (l:List (Str × β)):List.lookup x ((n,a) :: l) = if x = n then some a else List.lookup x l:=by
 by_cases h:x = n
 ·have hb:(x == n) = true:=beq_iff_eq.mpr h
  simp only [List.lookup_cons,hb,if_pos h]
 ·have hb:(x == n) = false:=beq_eq_false_iff_ne.mpr h
  simp only [List.lookup_cons,hb,if_neg h]
theorem clos_sub {cells:List (Str × Addr)}:∀ (names:List (Str × NameKind)) (acc:List (Str × Addr)),(∀ x c,acc.lookup x = some c -> cells.lookup x = some c) ->
  ∀ x c,(names.foldl (closF cells) acc).lookup x = some c -> cells.lookup x = some c
 | [],acc,h=>h
 | (n,k) :: r,acc,h=>clos_sub r _ fun x c e=>by
  unfold closF at e
  by_cases hk:((n,k).2 == NameKind.free) = true
  ·rw [if_pos hk] at e
   dsimp only at e
   cases q:cells.lookup n with
   | none=>rw [q] at e; exact h x c e
   | some a =>
    rw [q] at e
    dsimp only at e
    rw [y9] at e
    by_cases hx:x = n
    ·rw [if_pos hx] at e; rw [hx,q]; exact e
    ·rw [if_neg hx] at e; exact h x c e
  ·rw [if_neg hk] at e; exact h x c e
theorem clos_mono {cells:List (Str × Addr)}:∀ (names:List (Str × NameKind)) (acc:List (Str × Addr)) (x:Str),(∃ c,acc.lookup x = some c) -> ∃ c,(names.foldl (closF cells) acc).lookup x = some c
 | [],acc,x,h=>h
 | (n,k) :: r,acc,x,h=>clos_mono r _ x (by
  obtain ⟨c,h⟩:=h
  unfold closF
  by_cases hk:((n,k).2 == NameKind.free) = true
  ·rw [if_pos hk]
   dsimp only
   cases q:cells.lookup n with
   | none=>exact ⟨c,h⟩
   | some a =>
    dsimp only
    rw [y9]
    by_cases hx:x = n
    ·exact ⟨a,by rw [if_pos hx]⟩
    ·exact ⟨c,by rw [if_neg hx]; exact h⟩
  ·rw [if_neg hk]; exact ⟨c,h⟩)
theorem clos_has {cells:List (Str × Addr)} {x:Str} {c:Addr} (hc:cells.lookup x = some c):∀ (names:List (Str × NameKind)) (acc:List (Str × Addr)),(x,NameKind.free) ∈ names -> ∃ c,(names.foldl (closF cells) acc).lookup x = some c
 | [],acc,h=>by cases h
 | (n,k) :: r,acc,h=>by
  rcases List.mem_cons.mp h with e | e
  ·cases e
   refine clos_mono r _ x ⟨c,?_⟩
   unfold closF
   rw [if_pos (by rfl)]
   dsimp only
   rw [hc]
   dsimp only
   rw [y9,if_pos rfl]
  ·exact clos_has hc r _ e
theorem clos_at {env:Env} {sc:Scope} {x:Str} {c:Addr} (hc:env.cells.lookup x = some c) (hm:(x,NameKind.free) ∈ sc.names):(xG env sc).lookup x = some c:=by
 obtain ⟨c',h⟩:=clos_has hc sc.names [] hm
 have e:=clos_sub sc.names [] (fun x c e=>by cases e) x c' h
 rw [hc] at e; cases e
 exact h
theorem qB {env:Env} {sc:Scope} {x:Str} {c:Addr} (h:(xG env sc).lookup x = some c):env.cells.lookup x = some c :=
 clos_sub sc.names [] (fun x c e=>by cases e) x c h
def relK (env:Env) (x:Str) (k:NameKind):NameKind:=if (k == .free && env.scope.kind == .function && env.kindOf x == some .cell) then .cell else k
theorem x8 {env:Env} (x:Str):∀ names:List (Str × NameKind),
  (names.map fun (n,k)=>if (k == NameKind.free && env.scope.kind == .function && env.kindOf n == some .cell) then (n,NameKind.cell) else (n,k)).lookup x = (names.lookup x).map (relK env x)
 | []=>rfl
 | (n,k) :: r=>by
  have ih:=x8 (env:=env) x r
  rw [List.map_cons]
  have e:(if (k == NameKind.free && env.scope.kind == .function && env.kindOf n == some .cell) = true then (n,NameKind.cell) else (n,k)) = (n,relK env n k):=by
   unfold relK
   split <;> rfl
  dsimp only
  rw [e,y9,y9]
  by_cases hx:x = n
  ·rw [if_pos hx,if_pos hx,hx]; rfl
  ·rw [if_neg hx,if_neg hx]; exact ih
theorem comp_lookup {env:Env} {scope:Scope} {cl:List (Str × Addr)} {C:Addr} (x:Str):(compEnvC scope cl C env).scope.names.lookup x = (scope.names.lookup x).map (relK env x):=x8 x scope.names
def srcSt (src:List (Option Nat)) (σ:St):St:=src.map fun o=>o.bind fun i=>(σ[i]?).join
structure CompOk (sc:Scope) (N N':List Str) (src:List (Option Nat)) (scope:Scope):Prop where
 nd:N'.Nodup
 len:src.length = N'.length
 kind:scope.kind = .function
 nocell:∀ y ∈ scope.names,y.2 ≠ .cell
 names:∀ y ∈ scope.names,y.2 = .local -> scope.names.lookup y.1 = some .local
 free:∀ y ∈ scope.names,y.2 = .free -> sc.names.lookup y.1 = some .cell \/ sc.names.lookup y.1 = some .free
 srcs:((src.zip N').all fun (o,x)=>match o with | none=>true | some i=>N[i]? == some x && scope.names.lookup x == some .free) = true
theorem CompOk.at {sc:Scope} {N N':List Str} {src:List (Option Nat)} {scope:Scope} (O:CompOk sc N N' src scope) {j i:Nat} {x:Str} (h1:src[j]? = some (some i)) (h2:N'[j]? = some x):N[i]? = some x /\ scope.names.lookup x = some .free:=by
 have hz:(src.zip N')[j]? = some (some i,x):=by rw [List.getElem?_zip_eq_some]; exact ⟨h1,h2⟩
 have q:=List.all_eq_true.mp O.srcs _ (List.mem_of_getElem? hz)
 have q':(N[i]? == some x && scope.names.lookup x == some .free) = true:=q
 rw [Bool.and_eq_true] at q'
 exact ⟨eq_of_beq q'.1,eq_of_beq q'.2⟩
def Cx.comp (X:Cx) (N':List Str) (scope:Scope) (C:Addr) (s:Shared) (H:Hp) (fp:List Addr):Cx :=
 { X with N:=N',s₀:=s,H₀:=H,env:=compEnvC scope (xG X.env scope) C X.env,outer:=X.stack,ex:=fp,fn:=fun _=>false,pn:=[],xe:=fun _ _=>False }
theorem Un.adopt {fs ex:List Addr} {H H1:Hp} {h h1:Heap} {D:Addr} {o:HO} (u:Un fs ex H H1 h h1) (hD:h.get? D = none) (hH:H D = none):Un fs ex H (upd H1 D o) h h1 where
 keep:=u.keep
 slot:=u.slot
 free:=fun b ob q n hx=>by
  have hb:b ≠ D:=fun z=>by rw [z,hD] at q; cases q
  rw [zF hb]; exact u.free b ob q n hx
 there:=u.there
 tups:=fun b xs q=>by rw [zF (zG q hH)]; exact u.tups b xs q
 frzs:=fun b ob xs q=>by rw [zF (zG q hH)]; exact u.frzs b ob xs q
 tbls:=fun b ps q=>by rw [zF (zG q hH)]; exact u.tbls b ps q
theorem HOk.adopt {P:Program} {w:World} {H:Hp} {h:Heap} {D:Addr} {o:HO} (x:HOk P w H h) (n:H D = none) (new:ObjOk P w (upd H D o) h D o):HOk P w (upd H D o) h:=fun b u e=>by
 by_cases hb:b = D
 ·subst hb; rw [upd_same] at e; cases e; exact new
 ·rw [zF hb] at e
  exact (x b u e).stay (fun c v _ q=>q) (fun c q=>by rw [zF (zG q n)]; exact q) fun c xs q=>by rw [zF (zG q n)]; exact q
def PFi (X:Cx) (ifs:List Expr) (tf:TT):Prop :=
 ∀ (pins:List (Addr × Obj)) (s:Shared) (σ:St) (H:Hp) (Q:Bool -> Hp -> Prop),Inv X pins σ H s -> tf σ H Q ->
  wpAny (model X.prog X.w) X.A (forIn ifs true fun c r=>if r = true then do let ok ← isTrue c X.env (eval c X.env); pure (ForInStep.yield ok) else pure (ForInStep.yield r)) (TP X pins σ Q) X.xe s
def tfNil:TT:=fun _ H Q=>Q true H
theorem xX {X:Cx}:PFi X [] tfNil:=by
 intro pins s σ H Q I h
 rw [List.forIn_nil]
 exact wpAny_pure ⟨H,I,h⟩
theorem pf_one {X:Cx} {c:Expr} {tc:TT} (hc:PT X c tc):PFi X [c] tc:=by
 intro pins s σ H Q I h
 rw [List.forIn_cons]
 refine wpAny_bind (wpAny_bind (thn (hc pins s σ H _ I h) fun b s1 ⟨H1,I1,q1⟩=>wpAny_pure ?_))
 dsimp only
 rw [List.forIn_nil]
 exact wpAny_pure ⟨H1,I1,q1⟩
def CompW (src:List (Option Nat)) (J:It) (g:TG) (tf:TT) (te:TE) (Q:VK) (σ:St) (H:Hp):Prop :=
 ∃ W:Nat -> Nat -> List V -> St -> Hp -> Prop,(∃ m,W 0 m [] (srcSt src σ) H) /\ ∀ i m ys σ' H',W i m ys σ' H' -> ys.length <= sizeLine /\
 ((J.stop i H' /\ ∀ p,H' p = none -> Q (.ref p) (upd H' p (.lst ys))) \/
  (J.go i H' /\ ∃ Nx:List V -> St -> Hp -> Prop,(∀ ys2 σ2 H2,Nx ys2 σ2 H2 -> ∃ m',m' < m /\ W (i + 1) m' ys2 σ2 H2) /\
    ∀ x H2,J.yld i H' x H2 -> g x σ' H2 fun σ2 H3=>tf σ2 H3 fun b H4=>if b = true then te σ2 H4 fun y H5=>Nx (ys ++ [y]) σ2 H5 else Nx ys σ2 H4))
def tComp (src:List (Option Nat)) (wi:TI) (g:TG) (tf:TT) (te:TE):TE:=fun σ H Q=>wi σ H fun J H1=>CompW src J g tf te Q σ H1
section
variable {X:Cx} {tg elt iter:Expr} {ifs:List Expr} {scope sc:Scope} {N N':List Str} {src:List (Option Nat)} {g:TG} {tf:TT} {te:TE} {wi:TI} {pos:Pos}
theorem loop_own {prog:Program} {w:World} {A:Around} {R:Result -> Shared -> Prop} {s:Shared} {it acc:Value} {env:Env} (I:Nat -> Shared -> Prop)
  (turn:∀ n s,I n s -> wpAny (model prog w) A (pyNext it) (fun r s₁=>match r with
   | none=>R (.ok .next) s₁
   | some v=>wpAny (model prog w) A (letOwnedTupleGo tg it v) (fun _ s₂=>wpAny (model prog w) A (assign tg env v) (fun _ s₃ =>
     wpAny (model prog w) A (forIn ifs true fun c r=>if r = true then do let ok ← isTrue c env (eval c env); pure (ForInStep.yield ok) else pure (ForInStep.yield r)) (fun ok s₄ =>
      if ok = true then wpAny (model prog w) A (eval elt env) (fun x s₅ =>
       wpAny (model prog w) A (call (.builtin "list.append") [acc,x]) (fun _ s₆=>∃ m,m < n /\ I m s₆) (fun _ _=>False) s₅) (fun _ _=>False) s₄
      else ∃ m,m < n /\ I m s₄) (fun _ _=>False) s₃) (fun _ _=>False) s₂) (fun _ _=>False) s₁) (fun _ _=>False) s)
  (n:Nat) (h:I n s):codeAny (model prog w) A (.compLoop (.ListComp elt [⟨tg,iter,ifs,0⟩] scope pos) 0 it acc env) R s:=by
 refine codeAny_loop rfl I (fun n s hI=>?_) n h
 show wpAny _ A ((compTurn (.ListComp elt [⟨tg,iter,ifs,0⟩] scope pos) 0 it acc env).onRaise (fun x=>do noteFrame x env; theTreesLotGoes x)) _ _ s
 refine wpAny_noted ?_
 rw [compTurn_list]
 refine wpAny_bind (wpAny_standAt (wpAny_bind (wpAny_mono (turn n s hI) (fun r s₁ h₁=>?_) fun _ _ h'=>h'.elim)))
 cases r with
 | none=>exact wpAny_pure h₁
 | some v =>
  refine wpAny_bind (wpAny_mono h₁ (fun _ s₂ h₂=>?_) fun _ _ h'=>h'.elim)
  refine wpAny_bind (wpAny_mono h₂ (fun _ s₃ h₃=>wpAny_bind (wpAny_mono h₃ (fun ok s₄ h₄=>?_) fun _ _ h'=>h'.elim)) fun _ _ h'=>h'.elim)
  cases ok with
  | false=>exact wpAny_pure ⟨rfl,h₄⟩
  | true =>
   exact wpAny_bind (wpAny_bind (wpAny_mono h₄ (fun x s₅ h₅=>wpAny_bind (wpAny_mono h₅ (fun _ s₆ h₆=>wpAny_pure (wpAny_pure ⟨rfl,h₆⟩)) fun _ _ h'=>h'.elim)) fun _ _ h'=>h'.elim))
theorem comp_ok {pins:List (Addr × Obj)} {σ:St} {H:Hp} {s:Shared} {fp:List Addr} {C:Addr} (O:CompOk sc N N' src scope) (hsc:X.env.scope = sc) (I:Inv X pins σ H s) (hf:∀ b ∈ fp,FpOk X pins H b)
  (ho:∀ b ∈ fp,∃ o,s.heap.get? b = some o) (hC:s.heap.objs.size <= C):(X.comp N' scope C s H fp).Ok:=by
 have hk:∀ x,((compEnvC scope (xG X.env scope) C X.env).kindOf x = some .cell \/ (compEnvC scope (xG X.env scope) C X.env).kindOf x = some .free) -> (x,NameKind.free) ∈ scope.names:=fun x h=>by
  have h:(compEnvC scope (xG X.env scope) C X.env).scope.names.lookup x = some .cell \/ (compEnvC scope (xG X.env scope) C X.env).scope.names.lookup x = some .free:=h
  rw [comp_lookup] at h
  cases q:scope.names.lookup x with
  | none=>rw [q] at h; rcases h with h | h <;> cases h
  | some k =>
   have hm:=PySem.mem_of_lookup q
   rw [q] at h
   cases k with
   | free=>exact hm
   | cell=>exact absurd rfl (O.nocell _ hm)
   | _ =>
    exfalso
    rcases h with h | h <;> (have h':=Option.some.inj h; unfold relK at h'; simp at h')
 refine ⟨I.ok.mod,O.kind,I.ok.glob,I.ok.blt,hC,fun x y c h1 h2=>I.ok.inj x y c (qB h1) (qB h2),fun x h=>?_,fun x c h=>(by cases h),I.ok.hd,I.ok.frames,.inl rfl,fun b hb=>?_,I.bs,Nat.le_trans I.ok.bsz I.sz,fun b o e hb=>?_,fun b hb z=>?_,I.stack,I.stkFree⟩
 ·have hm:=hk x h
  have hx:=O.free _ hm rfl
  rw [← hsc] at hx
  obtain ⟨c,hc⟩:=I.ok.has x hx
  exact ⟨c,clos_at hc hm⟩
 ·refine ⟨?_,fun x c h=>(hf b hb).2.2.2.2.1 x c (qB h)⟩
  obtain ⟨o,e⟩:=ho b hb
  exact Nat.ne_of_lt (Nat.lt_of_lt_of_le (Heap.lt_size e) hC)
 ·rcases (hf b hb).2.2.2.1 with z | z
  ·exact I.ok.noex b o e z
  ·exact absurd (Nat.lt_of_lt_of_le (Nat.lt_of_lt_of_le (Heap.lt_size e) I.ok.bsz) z) (Nat.lt_irrefl _)
 ·rcases List.mem_cons.mp (I.stkSub b z) with e | e
  ·exact (hf b hb).2.1 e
  ·exact (hf b hb).2.2.1 e
theorem comp_inv {pins:List (Addr × Obj)} {σ:St} {H:Hp} {s:Shared} {fp:List Addr} {C:Addr} {h':Heap} {tk:Nat} (O:CompOk sc N N' src scope) (hsc:X.env.scope = sc) (hN:X.N = N) (I:Inv X pins σ H s) (hf:∀ b ∈ fp,FpOk X pins H b)
  (ho:∀ b ∈ fp,∃ o,s.heap.get? b = some o) (hC:s.heap.objs.size <= C) (k:∀ b o,s.heap.get? b = some o -> h'.get? b = some o) {m':Str -> Option Value} (hn:h'.Ns C m') :
  Inv (X.comp N' scope C s H fp) [] (srcSt src σ) H { s with heap:=h',toks:=tk }:=by
 have cells:∀ x c,X.env.cells.lookup x = some c -> ∀ v,s.heap.IsCell c v -> h'.IsCell c v:=fun x c _ v ⟨o,e,d⟩=>⟨o,k c o e,d⟩
 refine ⟨comp_ok O hsc I hf ho hC,rfl,I.bare,Un.kept k,⟨_,hn,fun j x v e1 e2 e3=>?_⟩,fun x c e=>?_,I.hok.fresh hC,fun x c e=>I.freeC x c (qB e),fun p hp=>(by cases hp),I.hok.kept k,?_⟩
 ·have e2:(srcSt src σ)[j]? = some (some v):=e2
  have e1:N'[j]? = some x:=e1
  unfold srcSt at e2
  rw [List.getElem?_map] at e2
  cases q:src[j]? with
  | none=>rw [q] at e2; cases e2
  | some o =>
   rw [q] at e2
   have e2:(o.bind fun i=>(σ[i]?).join) = some v:=Option.some.inj e2
   cases o with
   | none=>cases e2
   | some i =>
    have e2:(σ[i]?).join = some v:=e2
    obtain ⟨y2,hlk⟩:=O.at q e1
    have y3:=PySem.mem_of_lookup hlk
    have e4:σ[i]? = some (some v):=by
     cases r:σ[i]? with
     | none=>rw [r] at e2; cases e2
     | some w=>rw [r] at e2; cases w with
      | none=>cases e2
      | some w'=>have:w' = v:=Option.some.inj e2; rw [this]
    have hx:=O.free _ y3 rfl
    rw [← hsc] at hx
    obtain ⟨m,hm,hl⟩:=I.loc
    obtain ⟨u,ru,lu⟩:=hl i x v (by rw [hN]; exact y2) e4 (.inr hx)
    refine ⟨u,ru,.inr ?_⟩
    obtain ⟨c,hc,hcell⟩:∃ c,X.env.cells.lookup x = some c /\ s.heap.IsCell c (some u):=by
     rcases lu with ⟨z,_⟩ | ⟨_,c,hc,hz⟩
     ·exfalso
      have z:X.env.scope.names.lookup x = some .local:=z
      rcases hx with hx | hx <;> (rw [hx] at z; cases z)
     ·exact ⟨c,hc,hz⟩
    refine ⟨?_,c,clos_at hc y3,cells x c hc _ hcell⟩
    show (compEnvC scope (xG X.env scope) C X.env).scope.names.lookup x = some .cell \/ (compEnvC scope (xG X.env scope) C X.env).scope.names.lookup x = some .free
    rw [comp_lookup,hlk]
    show some (relK X.env x .free) = some .cell \/ some (relK X.env x .free) = some .free
    unfold relK
    split
    ·exact .inl rfl
    ·exact .inr rfl
 ·obtain ⟨v,z⟩:=I.cell x c (qB e)
  exact ⟨v,cells x c (qB e) v z⟩
 ·show (srcSt src σ).length = N'.length
  unfold srcSt
  rw [List.length_map]
  exact O.len
theorem comp_block {pins:List (Addr × Obj)} {σ:St} {H:Hp} {s:Shared} {fp:List Addr} {it:Addr} {tn:Nat -> Heap -> Prop} {J:It} {E:Value -> Shared -> Prop} {RR:Value -> Addr -> Result -> Shared -> Prop} {Fin:List V -> Hp -> Prop} (O:CompOk sc N N' src scope) (hsc:X.env.scope = sc) (hN:X.N = N) (hcalm:X.calm = true)
  (hg:∀ C s H fp,PG (X.comp N' scope C s H fp) tg g) (hft:∀ C s H fp,PFi (X.comp N' scope C s H fp) ifs tf) (he:∀ C s H fp,PE (X.comp N' scope C s H fp) elt te)
  (I:Inv X pins σ H s) (T:Turn X.prog X.w X.K tg J fp it tn) (t0:tn 0 s.heap) (hf:∀ b ∈ fp,FpOk X pins H b)
  (W:Nat -> Nat -> List V -> St -> Hp -> Prop) (m0:Nat) (w0:W 0 m0 [] (srcSt src σ) H)
  (hW:∀ i m ys σ' H',W i m ys σ' H' -> ys.length <= sizeLine /\ ((J.stop i H' /\ Fin ys H') \/
   (J.go i H' /\ ∃ Nx:List V -> St -> Hp -> Prop,(∀ ys2 σ2 H2,Nx ys2 σ2 H2 -> ∃ m',m' < m /\ W (i + 1) m' ys2 σ2 H2) /\
    ∀ x H2,J.yld i H' x H2 -> g x σ' H2 fun σ2 H3=>tf σ2 H3 fun b H4=>if b = true then te σ2 H4 fun y H5=>Nx (ys ++ [y]) σ2 H5 else Nx ys σ2 H4)))
  (hRR:∀ (D C:Addr) (s':Shared) (σ':St) (H':Hp) (ys:List V) (its:List Value) (n:Nat),s.heap.objs.size <= D -> s.heap.objs.size <= C -> Inv (X.comp N' scope C s H fp) [] σ' H' s' -> s'.heap.get? D = some { cls:=.type "list",data:=.seq its.toArray n } -> Vals ys its -> ys.length <= sizeLine ->
   H' D = none -> D ≠ C -> Fin ys H' -> RR (.ref D) C (.ok .next) s') :
  wpAny (model X.prog X.w) X.A (newList []) (fun acc s₃=>wpAny (model X.prog X.w) X.A (newFunctionEnv scope X.env.globals (xG X.env scope) [] X.env.qual none .none (some X.env)) (fun cenv s₄ =>
   codeAny (model X.prog X.w) X.A (.compStart (.ListComp elt [⟨tg,iter,ifs,0⟩] scope pos) 0 (.ref it) acc { cenv with scope:=relabel scope X.env }) (RR acc cenv.locals) s₄) E s₃) E s:=by
 refine wpAny_newObj_type (wpAny_newFunctionEnv O.nocell (by intro y hy; cases hy) (fun h₁ hns₁ hsb₁=>?_) O.kind)
 dsimp only at hns₁ hsb₁ ⊢
 generalize hH2:s.heap.push { cls:=.type "list",dict:=none,data:=.seq ([]:List Value).toArray } = P2 at hns₁ hsb₁ ⊢
 have hCs:P2.objs.size = s.heap.objs.size + 1:=by rw [← hH2,Heap.size_push]
 have hDC:s.heap.objs.size ≠ P2.objs.size:=by rw [hCs]; exact Nat.ne_of_lt (Nat.lt_succ_self _)
 have hCle:s.heap.objs.size <= P2.objs.size:=by rw [hCs]; exact Nat.le_succ _
 have below:∀ b,b < s.heap.objs.size -> b ≠ P2.objs.size /\ b ≠ s.heap.objs.size:=fun b hb=>⟨by rw [hCs]; exact Nat.ne_of_lt (Nat.lt_succ_of_lt hb),Nat.ne_of_lt hb⟩
 have old:∀ b o,s.heap.get? b = some o -> h₁.get? b = some o:=fun b o e=>hsb₁.extBut b o (below b (Heap.lt_size e)).1 (Heap.get?_push_of_some _ (hH2 ▸ Heap.get?_push_of_some _ e))
 have hacc:h₁.get? s.heap.objs.size = some { cls:=.type "list",data:=.seq ([]:List Value).toArray 0 }:=hsb₁.extBut _ _ hDC (Heap.get?_push_of_some _ (hH2 ▸ Heap.get?_push_size _ rfl))
 have fpo:∀ b ∈ fp,∃ o,s.heap.get? b = some o:=fun b hb=>let ⟨o,e,_⟩:=T.obj 0 _ t0 b hb; ⟨o,e⟩
 have fplt:∀ b ∈ fp,b < s.heap.objs.size:=fun b hb=>let ⟨o,e⟩:=fpo b hb; Heap.lt_size e
 generalize hD:s.heap.objs.size = D at *
 generalize hC:P2.objs.size = C at *
 have ok1:∀ tk,Inv (X.comp N' scope C s H fp) [] (srcSt src σ) H { s with heap:=h₁,toks:=tk }:=fun tk=>comp_inv O hsc hN I hf fpo (by rw [hD]; exact hCle) old hns₁
 have okX:(X.comp N' scope C s H fp).Ok:=(ok1 0).ok
 have stat:∀ {H':Hp} {pl:List (Addr × Obj)},(∀ b ∈ fp,H' b = none) -> (∀ p ∈ pl,p.1 ∉ fp) -> ∀ b ∈ fp,FpOk (X.comp N' scope C s H fp) pl H' b:=fun {H' pl} hn hp b hb =>
  ⟨hn b hb,(okX.exf b hb).1,okX.exfs b hb,.inl hb,(okX.exf b hb).2,fun p hm=>by
   have hm:p ∈ pl:=by simpa [Cx.comp] using hm
   exact fun z=>hp p hm (z ▸ hb)⟩
 have Dfs:D ∉ (X.comp N' scope C s H fp).fs:=fun hb=>by
  obtain ⟨_,o,ho,_⟩:=okX.funs.mem hb
  have ho:s.heap.get? D = some o:=ho
  have h1:=Heap.lt_size ho
  rw [hD] at h1
  exact Nat.lt_irrefl _ h1
 have Dcell:∀ x c,(X.comp N' scope C s H fp).env.cells.lookup x = some c -> c ≠ D:=fun x c e z=>by
  obtain ⟨v,o,ho,_⟩:=I.cell x c (qB e)
  have h1:=Heap.lt_size ho
  rw [hD,z] at h1
  exact Nat.lt_irrefl _ h1
 have loop:∀ tk,codeAny (model X.prog X.w) X.A (.compLoop (.ListComp elt [⟨tg,iter,ifs,0⟩] scope pos) 0 (.ref it) (.ref D) (compEnvC scope (xG X.env scope) C X.env)) (RR (.ref D) C) { s with heap:=h₁,toks:=tk }:=by
  intro tk
  refine loop_own (fun n s'=>∃ i ys σ' H' its c,Inv (X.comp N' scope C s H fp) [] σ' H' s' /\ tn i s'.heap /\ (∀ b ∈ fp,H' b = none) /\ s'.heap.get? D = some { cls:=.type "list",data:=.seq (its:List Value).toArray c } /\ Vals ys its /\ H' D = none /\ W i n ys σ' H') ?_ m0
   ⟨0,[],srcSt src σ,H,[],0,ok1 tk,T.keep 0 _ _ t0 fun b _ o e=>old b o e,fun b hb=>(hf b hb).1,hacc,.nil,I.hok.fresh (by rw [hD]; exact Nat.le_refl _),w0⟩
  rintro n s3 ⟨i,ys,σ3,H3,its,c3,I3,st3,fr3,d3,v3,nD3,w3⟩
  obtain ⟨hlen,alt⟩:=hW i n ys σ3 H3 w3
  rcases alt with ⟨stop,fin⟩ | ⟨go,Nx,hNx,step⟩
  ·have I3':Inv (X.comp N' scope C s H fp) [(D,{ cls:=.type "list",data:=.seq its.toArray c3 })] σ3 H3 s3:=I3.pins_of fun p hp=>by
    have e:p = (D,{ cls:=.type "list",data:=.seq its.toArray c3 }):=by simpa using hp
    subst e
    exact ⟨d3,nD3,hDC,Dfs,fun v z=>by cases z⟩
   refine thn (T.done (X.comp N' scope C s H fp) rfl rfl rfl hcalm i _ s3 σ3 H3 _ I3' (stat fr3 fun p hp z=>by
    have e:p = (D,{ cls:=.type "list",data:=.seq its.toArray c3 }):=by simpa using hp
    rw [e] at z
    exact Nat.lt_irrefl _ (fplt D z)) st3 stop) fun r s4 ⟨hr,I4⟩=>?_
   subst hr
   obtain ⟨d4,nD4,_⟩:=I4.pin (D,{ cls:=.type "list",data:=.seq its.toArray c3 }) (by simp [Cx.comp])
   exact hRR D C s4 σ3 H3 ys its c3 (by omega) (by omega) (I4.pins_of fun p hp=>(by cases hp)) d4 v3 hlen nD4 hDC fin
  ·have I3':Inv (X.comp N' scope C s H fp) [(D,{ cls:=.type "list",data:=.seq its.toArray c3 })] σ3 H3 s3:=I3.pins_of fun p hp=>by
    have e:p = (D,{ cls:=.type "list",data:=.seq its.toArray c3 }):=by simpa using hp
    subst e
    exact ⟨d3,nD3,hDC,Dfs,fun v z=>by cases z⟩
   have hpD:∀ p ∈ [((D,{ cls:=.type "list",data:=.seq its.toArray c3 }):Addr × Obj)],p.1 ∉ fp:=fun p hp z=>by
    have e:p = (D,{ cls:=.type "list",data:=.seq its.toArray c3 }):=by simpa using hp
    rw [e] at z
    exact Nat.lt_irrefl _ (fplt D z)
   refine thn (T.item (X.comp N' scope C s H fp) rfl rfl rfl hcalm i _ s3 σ3 H3 _ I3' (stat fr3 hpD) st3 go) fun r s4 ⟨u,hr,h4⟩=>?_
   subst hr
   refine thn h4 fun _ s5 ⟨x,H5,I5,r5,y5,st5,fr5⟩=>?_
   have I5':=I5.pinned (stat fr5 hpD) (T.obj _ _ st5)
   have pinD:(D,({ cls:=.type "list",data:=.seq its.toArray c3 }:Obj)) ∈ (X.comp N' scope C s H fp).pn ++ ([((D,{ cls:=.type "list",data:=.seq its.toArray c3 }):Addr × Obj)] ++ pinsAt fp s5.heap):=by simp [Cx.comp]
   have back:∀ {σ7:St} {H7:Hp} {s7:Shared},Inv (X.comp N' scope C s H fp) ([((D,{ cls:=.type "list",data:=.seq its.toArray c3 }):Addr × Obj)] ++ pinsAt fp s5.heap) σ7 H7 s7 ->
     tn (i + 1) s7.heap /\ ∀ b ∈ fp,H7 b = none:=fun {σ7 H7 s7} I7=>⟨T.keep _ _ _ st5 fun b hb o e=>(I7.pin (b,o) (List.mem_append_right _ (List.mem_append_right _ (x6 hb e)))).1,fun b hb=>by
    obtain ⟨o,e,d⟩:=T.obj _ _ st5 b hb
    exact (I7.pin (b,o) (List.mem_append_right _ (List.mem_append_right _ (x6 hb e)))).2.1⟩
   refine thn (hg C s H fp _ s5 σ3 H5 x u _ I5' r5 (step x H5 y5)) fun _ s6 ⟨σ6,H6,I6,q6⟩=>?_
   refine thn (hft C s H fp _ s6 σ6 H6 _ I6 q6) fun b s7 ⟨H7,I7,q7⟩=>?_
   cases b with
   | false =>
    obtain ⟨m',hm',w7⟩:=hNx ys σ6 H7 (by simpa using q7)
    obtain ⟨b1,b2⟩:=back I7
    obtain ⟨d7,nD7,_⟩:=I7.pin _ pinD
    exact ⟨m',hm',i + 1,ys,σ6,H7,its,c3,I7.pins_of fun p hp=>(by cases hp),b1,b2,d7,v3,nD7,w7⟩
   | true =>
    have q7:te σ6 H7 fun y H5=>Nx (ys ++ [y]) σ6 H5:=by simpa using q7
    rw [if_pos rfl]
    refine thn (he C s H fp _ s7 σ6 H7 _ I7 q7) fun u8 s8 ⟨y,H8,I8,r8,n8⟩=>?_
    obtain ⟨m',hm',w8⟩:=hNx _ _ _ n8
    obtain ⟨b1,b2⟩:=back I8
    obtain ⟨d8,nD8,_⟩:=I8.pin _ pinD
    have hl:=v3.length
    refine wpAny_list_append_plain (items:=its.toArray) ⟨c3,d8⟩ (fun h9 ⟨c9,d9⟩ sb9=>?_) (by rw [List.size_toArray,← hl]; exact hlen)
    have I8':Inv (X.comp N' scope C s H fp) [] σ6 H8 s8:=I8.pins_of fun p hp=>by cases hp
    have I9:Inv (X.comp N' scope C s H fp) [] σ6 H8 { s8 with heap:=h9 }:=I8'.turned (t':=s8.toks) (it:=D) (fun b o hb e=>(sb9.2 b hb).trans e) nD8 hDC (.inr (by show s.heap.objs.size <= D; omega)) Dcell (fun p hp=>by
     have hp:p ∈ ([]:List (Addr × Obj)):=by simpa [Cx.comp] using hp
     cases hp)
    refine ⟨m',hm',i + 1,ys ++ [y],σ6,H8,its ++ [u8],c9,I9,T.keep _ _ _ b1 fun b hb o e=>(sb9.2 b (fun z=>Nat.lt_irrefl _ (z ▸ fplt b hb))).trans e,b2,?_,v3.append (.cons r8 .nil),nD8,w8⟩
    show h9.get? D = _
    rw [d9]
    simp
 exact codeAny_compStart_list (loop _) (T.self _ 0 _ _ _ (T.keep 0 _ _ t0 fun b _ o e=>old b o e) (loop _))
theorem comp_back {pins:List (Addr × Obj)} {σ σ':St} {H H':Hp} {s s':Shared} {fp:List Addr} {C D:Addr} {ys:List V} {its:List Value} {n:Nat} (I:Inv X pins σ H s) (hf:∀ b ∈ fp,FpOk X pins H b)
  (J:Inv (X.comp N' scope C s H fp) [] σ' H' s') (hD:s.heap.objs.size <= D) (d:s'.heap.get? D = some { cls:=.type "list",data:=.seq its.toArray n }) (v:Vals ys its) (hl:ys.length <= sizeLine) (nD:H' D = none) :
  Inv X pins σ (upd H' D (.lst ys)) s':=by
 have u:Un (frs X.stack) fp H H' s.heap s'.heap:=J.base
 refine I.call' (ch:=fp) J.os (u.adopt (Heap.get?_none_of_le hD) (I.hok.fresh hD)) (J.hok.adopt nD ⟨hl,its,n,v,d⟩) J.bare fun b hb=>?_
 obtain ⟨_,f1,_,f3,f4,f5⟩:=hf b hb
 exact ⟨f3,f1,f4,f5⟩
theorem comp_gone {pins:List (Addr × Obj)} {σ σ2:St} {H H2:Hp} {s s2:Shared} {C:Addr} {h':Heap} (I:Inv X pins σ H s) (I2:Inv X pins σ2 H2 s2) (hC:s.heap.objs.size <= C) (nC:H2 C = none) (sb:Heap.SameBut C s2.heap h'):Inv X pins σ2 H2 { s2 with heap:=h' }:=by
 obtain ⟨_,f1,_,f3,f4,f5⟩:=I.fpOk (H':=H2) hC nC
 exact I2.turned (t':=s2.toks) (it:=C) (fun b o hb e=>(sb.2 b hb).trans e) nC f1 f3 f4 f5
theorem y4 (O:CompOk sc N N' src scope) (hsc:X.env.scope = sc) (hN:X.N = N) (hcalm:X.calm = true) (hi:PI X tg iter wi)
  (hg:∀ C s H fp,PG (X.comp N' scope C s H fp) tg g) (hft:∀ C s H fp,PFi (X.comp N' scope C s H fp) ifs tf) (he:∀ C s H fp,PE (X.comp N' scope C s H fp) elt te)
  (hs:∀ x,foldedSetIterable iter X.env x = pure x:=by intro _; rfl):PE X (.ListComp elt [⟨tg,iter,ifs,0⟩] scope pos) (tComp src wi g tf te):=by
 intro pins s σ H Q I h
 rw [eval_ListComp]
 have hclos:closureFor scope X.env = pure (xG X.env scope):=qH fun x hx hk=>I.ok.has x.1 (by
  have:=O.free x hx hk
  rw [← hsc] at this
  exact this)
 refine wpAny_comprehension_free (use:=none) rfl hs hclos O.kind O.names (thn (hi pins s σ H _ I h) fun v s1 h1=>thn h1 fun itv s2 h2=>?_)
 obtain ⟨it,fp,tn,J,H2,e,I2,T,st2,f2,W,⟨m0,w0⟩,turn⟩:=h2
 subst e
 refine comp_block (RR:=fun acc C=>compPost (model X.prog X.w) X.A X.xe none (EP X pins σ Q) acc C) (Fin:=fun ys H'=>∀ p,H' p = none -> Q (.ref p) (upd H' p (.lst ys))) O hsc hN hcalm hg hft he I2 T st2 f2 W m0 w0 turn ?_
 intro D C s' σ' H' ys its n hD hC Jv d vv hl nD hDC fin
 have I3:=comp_back I2 f2 Jv hD d vv hl nD
 obtain ⟨m,hm,_⟩:=Jv.loc
 have nC:H' C = none:=Jv.free
 refine ⟨m,hm,fun h' sb=>⟨.ref D,_,comp_gone I2 I3 hC (by rw [zF (Ne.symm hDC)]; exact nC) sb,rfl,fin D nD⟩⟩
theorem ps_setc {k:Nat} {y:Str} {py spos:Pos} (O:CompOk sc N N' src scope) (hsc:X.env.scope = sc) (hN:X.N = N) (hcalm:X.calm = true) (hi:PI X tg iter wi)
  (hg:∀ C s H fp,PG (X.comp N' scope C s H fp) tg g) (hft:∀ C s H fp,PFi (X.comp N' scope C s H fp) ifs tf) (he:∀ C s H fp,PE (X.comp N' scope C s H fp) elt te)
  (nd:X.N.Nodup) (hk:X.N[k]? = some y) (hx:Loc X.env.scope y)
  (hsw:swapsWith (.ListComp elt [⟨tg,iter,ifs,0⟩] scope pos) (some (.Name y py)) spos.line X.env = pure true:=by rfl)
  (hf:X.fn y = true \/ X.env.scope.names.lookup y = some .local:=by first | exact .inl rfl | exact .inr rfl | assumption)
  (hs:∀ x,foldedSetIterable iter X.env x = pure x:=by intro _; rfl):PS X (.Assign [.Name y py] (.ListComp elt [⟨tg,iter,ifs,0⟩] scope pos) spos) (tAsg (tComp src wi g tf te) (gName k)):=by
 intro pins s σ H D₀ I h
 rw [exec_Assign_Name_used _ _ _ _ hsw]
 refine wpAny_bind (wpAny_standAt (wpAny_bind ?_))
 show wpAny _ X.A (do let _ ← comprehension (.ListComp elt [⟨tg,iter,ifs,0⟩] scope pos) scope X.env _ (newList []) false (eval iter X.env) (some (assign (.Name y py) X.env))) _ _ s
 have hclos:closureFor scope X.env = pure (xG X.env scope):=qH fun x hx hk=>I.ok.has x.1 (by
  have:=O.free x hx hk
  rw [← hsc] at this
  exact this)
 refine wpAny_bind (wpAny_mono (wpAny_comprehension_free (use:=some (assign (.Name y py) X.env)) (Q:=fun _ s'=>SP X pins D₀ .next s') rfl hs hclos O.kind O.names (thn (hi pins s σ H _ I h) fun v s1 h1=>thn h1 fun itv s2 h2=>?_))
  (fun _ s' hq=>wpAny_pure (wpAny_pure hq)) fun _ _ e=>e)
 obtain ⟨it,fp,tn,J,H2,e,I2,T,st2,f2,W,⟨m0,w0⟩,turn⟩:=h2
 subst e
 refine comp_block (RR:=fun acc C=>compPost (model X.prog X.w) X.A X.xe (some (assign (.Name y py) X.env)) (fun _ s'=>SP X pins D₀ .next s') acc C) (Fin:=fun ys H'=>∀ p,H' p = none -> gName k (.ref p) σ (upd H' p (.lst ys)) D₀.nx) O hsc hN hcalm hg hft he I2 T st2 f2 W m0 w0 turn ?_
 intro D C s' σ' H' ys its n hD hC Jv d vv hl nD hDC fin
 have I3:=comp_back I2 f2 Jv hD d vv hl nD
 obtain ⟨m,hm,_⟩:=Jv.loc
 have nC:H' C = none:=Jv.free
 show wpAny _ X.A (assign (.Name y py) X.env (.ref D)) _ _ s'
 refine wpAny_assign_Name (store_ok2 I3 nd hk hx (v:=.ref D) rfl (fun s4 I4 ⟨a,sa,ha⟩=>?_) hf)
 have aC:C ≠ a:=by
  rcases ha with e | e
  ·rw [e]
   intro z
   exact Nat.lt_irrefl _ (Nat.lt_of_lt_of_le I2.lt (z ▸ hC))
  ·intro z
   obtain ⟨v,o,ho,_⟩:=I2.cell y a e
   exact Nat.lt_irrefl _ (Nat.lt_of_lt_of_le (Heap.lt_size ho) (z ▸ hC))
 refine ⟨m,Heap.Ns.sameBut hm sa aC,fun h' sb=>⟨_,_,comp_gone I2 I4 hC (by rw [zF (Ne.symm hDC)]; exact nC) sb,fin D nD⟩⟩
end
def tCut (t u:TS):TS:=fun D σ H=>∃ R:St -> Hp -> Prop,t { D with nx:=R } σ H /\ ∀ σ' H',R σ' H' -> u D σ' H'
theorem pss_cut {X:Cx} {st:Stmt} {rest:List Stmt} {t u:TS} (h1:PS X st t) (h2:PSs X rest u):PSs X (st :: rest) (tCut t u):=by
 intro pins s σ H D I ⟨R,h,hu⟩
 refine wpAny_execs_cons (thn (h1 pins s σ H { D with nx:=R } I h) fun f s1 q=>?_)
 cases f with
 | next =>
  obtain ⟨σ',H',I',q⟩:=q
  exact h2 pins s1 σ' H' D I' (hu σ' H' q)
 | ret v=>exact q
 | brk=>exact q
 | cont=>exact q
section
variable {K:PySem.W.Frag} {src:List (Option Nat)} {g:TG} {tf:TT} {te:TE} {Q:VK} {a:Addr} {xs:List V} {σ:St} {H:Hp}
theorem comp_n {J:It} (n:Nat) (Pv:Nat -> List V -> St -> Hp -> Prop) (h0:Pv 0 [] (srcSt src σ) H) (hz:n <= sizeLine) (hl:∀ i ys σ H,i <= n -> Pv i ys σ H -> ys.length <= i)
  (hst:∀ ys σ H,Pv n ys σ H -> J.stop n H) (hgo:∀ i ys σ H,i < n -> Pv i ys σ H -> J.go i H)
  (hs:∀ i ys σ H,i < n -> Pv i ys σ H -> ∀ x H2,J.yld i H x H2 -> g x σ H2 fun σ2 H3=>tf σ2 H3 fun b H4=>if b = true then te σ2 H4 fun y H5=>Pv (i + 1) (ys ++ [y]) σ2 H5 else Pv (i + 1) ys σ2 H4)
  (hd:∀ ys σ H,Pv n ys σ H -> ∀ p,H p = none -> Q (.ref p) (upd H p (.lst ys))):CompW src J g tf te Q σ H:=by
 refine ⟨fun i m ys σ H=>m = n - i /\ i <= n /\ Pv i ys σ H,⟨n,by simp,Nat.zero_le _,h0⟩,?_⟩
 rintro i m ys σ' H' ⟨rfl,hi,p⟩
 have hy:=hl i ys σ' H' hi p
 refine ⟨by omega,?_⟩
 by_cases hlt:i < n
 ·exact .inr ⟨hgo i ys σ' H' hlt p,Pv (i + 1),fun ys2 σ2 H2 z=>⟨n - (i + 1),by omega,rfl,hlt,z⟩,fun x H2 y=>hs i ys σ' H' hlt p x H2 y⟩
 ·have e:i = n:=by omega
  subst e
  exact .inl ⟨hst ys σ' H' p,hd ys σ' H' p⟩
theorem comp_list (Pv:Nat -> List V -> St -> Hp -> Prop) (h0:Pv 0 [] (srcSt src σ) H) (hz:xs.length <= sizeLine) (hl:∀ i ys σ H,i <= xs.length -> Pv i ys σ H -> SqL K H a xs /\ ys.length <= i)
  (hs:∀ i x ys σ H,xs[i]? = some x -> Pv i ys σ H -> g x σ H fun σ2 H3=>tf σ2 H3 fun b H4=>if b = true then te σ2 H4 fun y H5=>Pv (i + 1) (ys ++ [y]) σ2 H5 else Pv (i + 1) ys σ2 H4)
  (hd:∀ ys σ H,Pv xs.length ys σ H -> ∀ p,H p = none -> Q (.ref p) (upd H p (.lst ys))):CompW src (Itl K a) g tf te Q σ H :=
 comp_n xs.length Pv h0 hz (fun i ys σ H hi p=>(hl i ys σ H hi p).2) (fun ys σ H p=>⟨xs,(hl _ ys σ H (Nat.le_refl _) p).1,Nat.le_refl _⟩) (fun i ys σ H hi p=>⟨xs,xs[i],(hl i ys σ H (Nat.le_of_lt hi) p).1,by simp [hi]⟩)
  (fun i ys σ H hi p x H2 y=>by
   obtain ⟨e,y⟩:=y
   subst e
   exact hs i x ys σ _ (y xs (hl i ys σ _ (Nat.le_of_lt hi) p).1) p) hd
theorem comp_tup (Pv:Nat -> List V -> St -> Hp -> Prop) (h0:Pv 0 [] (srcSt src σ) H) (hz:xs.length <= sizeLine) (hl:∀ i ys σ H,i <= xs.length -> Pv i ys σ H -> SqT K H a xs /\ ys.length <= i)
  (hs:∀ i x ys σ H,xs[i]? = some x -> Pv i ys σ H -> g x σ H fun σ2 H3=>tf σ2 H3 fun b H4=>if b = true then te σ2 H4 fun y H5=>Pv (i + 1) (ys ++ [y]) σ2 H5 else Pv (i + 1) ys σ2 H4)
  (hd:∀ ys σ H,Pv xs.length ys σ H -> ∀ p,H p = none -> Q (.ref p) (upd H p (.lst ys))):CompW src (Itt K a) g tf te Q σ H :=
 comp_n xs.length Pv h0 hz (fun i ys σ H hi p=>(hl i ys σ H hi p).2) (fun ys σ H p=>⟨xs,(hl _ ys σ H (Nat.le_refl _) p).1,Nat.le_refl _⟩) (fun i ys σ H hi p=>⟨xs,xs[i],(hl i ys σ H (Nat.le_of_lt hi) p).1,by simp [hi]⟩)
  (fun i ys σ H hi p x H2 y=>by
   obtain ⟨e,y⟩:=y
   subst e
   exact hs i x ys σ _ (y xs (hl i ys σ _ (Nat.le_of_lt hi) p).1) p) hd
theorem comp_range {lo:Int} {n:Nat} (Pv:Nat -> List V -> St -> Hp -> Prop) (h0:Pv 0 [] (srcSt src σ) H) (hz:n <= sizeLine) (hl:∀ i ys σ H,i <= n -> Pv i ys σ H -> ys.length <= i)
  (hs:∀ i ys σ H,i < n -> Pv i ys σ H -> g (.int (lo + i)) σ H fun σ2 H3=>tf σ2 H3 fun b H4=>if b = true then te σ2 H4 fun y H5=>Pv (i + 1) (ys ++ [y]) σ2 H5 else Pv (i + 1) ys σ2 H4)
  (hd:∀ ys σ H,Pv n ys σ H -> ∀ p,H p = none -> Q (.ref p) (upd H p (.lst ys))):CompW src (Itr lo n) g tf te Q σ H :=
 comp_n n Pv h0 hz hl (fun _ _ _ _=>Nat.le_refl _) (fun _ _ _ _ hi _=>hi)
  (fun i ys σ H hi p x H2 y=>by
   obtain ⟨e,y⟩:=y
   subst e y
   exact hs i ys σ _ hi p) hd
theorem noTest {te:TE} {A:V -> St -> Hp -> Prop} {B:St -> Hp -> Prop}:(fun σ2 H3=>tfNil σ2 H3 fun b H4=>if b = true then te σ2 H4 (fun y H5=>A y σ2 H5) else B σ2 H4) = fun (σ2:St) (H3:Hp)=>te σ2 H3 fun y H5=>A y σ2 H5:=by
 funext σ2 H3
 show (if true = true then (te σ2 H3 fun y H5=>A y σ2 H5) else B σ2 H3) = _
 rw [if_pos rfl]
theorem yK (Pv:Nat -> List V -> St -> Hp -> Prop) (h0:Pv 0 [] (srcSt src σ) H) (hz:xs.length <= sizeLine) (hl:∀ i ys σ H,i <= xs.length -> Pv i ys σ H -> SqL K H a xs /\ ys.length <= i)
  (hs:∀ i x ys σ H,xs[i]? = some x -> Pv i ys σ H -> g x σ H fun σ2 H3=>te σ2 H3 fun y H5=>Pv (i + 1) (ys ++ [y]) σ2 H5)
  (hd:∀ ys σ H,Pv xs.length ys σ H -> ∀ p,H p = none -> Q (.ref p) (upd H p (.lst ys))):CompW src (Itl K a) g tfNil te Q σ H :=
 comp_list Pv h0 hz hl (fun i x ys σ H e p=>by rw [noTest]; exact hs i x ys σ H e p) hd
theorem comp_tup0 (Pv:Nat -> List V -> St -> Hp -> Prop) (h0:Pv 0 [] (srcSt src σ) H) (hz:xs.length <= sizeLine) (hl:∀ i ys σ H,i <= xs.length -> Pv i ys σ H -> SqT K H a xs /\ ys.length <= i)
  (hs:∀ i x ys σ H,xs[i]? = some x -> Pv i ys σ H -> g x σ H fun σ2 H3=>te σ2 H3 fun y H5=>Pv (i + 1) (ys ++ [y]) σ2 H5)
  (hd:∀ ys σ H,Pv xs.length ys σ H -> ∀ p,H p = none -> Q (.ref p) (upd H p (.lst ys))):CompW src (Itt K a) g tfNil te Q σ H :=
 comp_tup Pv h0 hz hl (fun i x ys σ H e p=>by rw [noTest]; exact hs i x ys σ H e p) hd
theorem comp_range0 {lo:Int} {n:Nat} (Pv:Nat -> List V -> St -> Hp -> Prop) (h0:Pv 0 [] (srcSt src σ) H) (hz:n <= sizeLine) (hl:∀ i ys σ H,i <= n -> Pv i ys σ H -> ys.length <= i)
  (hs:∀ i ys σ H,i < n -> Pv i ys σ H -> g (.int (lo + i)) σ H fun σ2 H3=>te σ2 H3 fun y H5=>Pv (i + 1) (ys ++ [y]) σ2 H5)
  (hd:∀ ys σ H,Pv n ys σ H -> ∀ p,H p = none -> Q (.ref p) (upd H p (.lst ys))):CompW src (Itr lo n) g tfNil te Q σ H :=
 comp_range Pv h0 hz hl (fun i ys σ H e p=>by rw [noTest]; exact hs i ys σ H e p) hd
end
end L2
namespace L2
open PySem PySem.Spec PyProof.Rows
mutual
def Dt (K:PySem.W.Frag) (H:Hp):PyData -> V -> Prop
 | .none,v=>v = .non
 | .bool b,v=>v = .bl b
 | .int i,v=>v = .int i
 | .str x,v=>v = .str x
 | .list ds,v=>∃ a xs,v = .ref a /\ SqL K H a xs /\ DtAll K H ds xs
 | .tuple ds,v=>∃ a xs,v = .ref a /\ SqT K H a xs /\ DtAll K H ds xs
 | .dict _,_=>False
def DtAll (K:PySem.W.Frag) (H:Hp):List PyData -> List V -> Prop
 | [],xs=>xs = []
 | d :: ds,xs=>∃ x r,xs = x :: r /\ Dt K H d x /\ DtAll K H ds r
end
theorem Same.tupS {K:PySem.W.Frag} {H H':Hp} {a:Addr} {xs:List V} (e:Same H H') (h:SqT K H a xs):SqT K H' a xs:=by
 rcases h with (h | ⟨o,h⟩) | h
 ·exact .inl (.inl (e _ _ h))
 ·exact .inl (.inr ⟨o,e _ _ h⟩)
 ·exact .inr h
mutual
theorem Dt.same {K:PySem.W.Frag} {H H':Hp} (e:Same H H'):∀ (d:PyData) (v:V),Dt K H d v -> Dt K H' d v
 | .none,_,h=>h
 | .bool _,_,h=>h
 | .int _,_,h=>h
 | .str _,_,h=>h
 | .list ds,_,⟨a,xs,h1,h2,h3⟩=>⟨a,xs,h1,e.seq h2,DtAll.same e ds xs h3⟩
 | .tuple ds,_,⟨a,xs,h1,h2,h3⟩=>⟨a,xs,h1,e.tupS h2,DtAll.same e ds xs h3⟩
 | .dict _,_,h=>h
theorem DtAll.same {K:PySem.W.Frag} {H H':Hp} (e:Same H H'):∀ (ds:List PyData) (xs:List V),DtAll K H ds xs -> DtAll K H' ds xs
 | [],_,h=>h
 | d :: ds,_,⟨x,r,h1,h2,h3⟩=>⟨x,r,h1,Dt.same e d x h2,DtAll.same e ds r h3⟩
end
theorem DtAll.length {K:PySem.W.Frag} {H:Hp}:∀ {ds:List PyData} {xs:List V},DtAll K H ds xs -> xs.length = ds.length
 | [],_,h=>by cases (show _ = [] from h); rfl
 | d :: ds,_,⟨x,r,h1,h2,h3⟩=>by rw [h1,List.length_cons,List.length_cons,DtAll.length h3]
theorem DtAll.append {K:PySem.W.Frag} {H:Hp}:∀ {ds es:List PyData} {xs ys:List V},DtAll K H ds xs -> DtAll K H es ys -> DtAll K H (ds ++ es) (xs ++ ys)
 | [],_,_,_,h,h'=>by cases (show _ = [] from h); exact h'
 | d :: ds,_,_,_,⟨x,r,h1,h2,h3⟩,h'=>⟨x,r ++ _,by rw [h1]; rfl,h2,DtAll.append h3 h'⟩
theorem DtAll.get {K:PySem.W.Frag} {H:Hp}:∀ {ds:List PyData} {xs:List V} {i:Nat} {x:V},DtAll K H ds xs -> xs[i]? = some x -> ∃ d,ds[i]? = some d /\ Dt K H d x
 | [],_,_,_,h,e=>by cases (show _ = [] from h); simp at e
 | d :: ds,_,0,_,⟨x,r,h1,h2,h3⟩,e=>by rw [h1] at e; simp at e; subst e; exact ⟨d,rfl,h2⟩
 | d :: ds,_,i + 1,_,⟨x,r,h1,h2,h3⟩,e=>by
  rw [h1] at e
  obtain ⟨d',e1,e2⟩:=DtAll.get (i:=i) h3 (by simpa using e)
  exact ⟨d',by simpa using e1,e2⟩
theorem DtAll.strs {K:PySem.W.Frag} {H:Hp}:∀ (ls:List Str),DtAll K H (ls.map PyData.str) (ls.map V.str)
 | []=>rfl
 | x :: ls=>⟨.str x,ls.map V.str,rfl,rfl,DtAll.strs ls⟩
theorem DtAll.strs_of {K:PySem.W.Frag} {H:Hp}:∀ {ls:List Str} {xs:List V},DtAll K H (ls.map PyData.str) xs -> xs = ls.map V.str
 | [],_,h=>h
 | x :: ls,_,⟨v,r,h1,h2,h3⟩=>by
  have h2:v = V.str x:=h2
  rw [h1,h2,DtAll.strs_of h3]; rfl
section
variable {X:Cx} {pins:List (Addr × Obj)} {σ:St} {H:Hp} {s:Shared}
mutual
theorem Dt.reads (I:Inv X pins σ H s):∀ (d:PyData) (v:V) (u:Value),Dt X.K H d v -> RelV v u -> ∃ as,Reads s.heap u d as
 | .none,_,u,h,r=>by
  cases (show _ = V.non from h); cases (show u = Value.none from r); exact ⟨_,.none⟩
 | .bool b,_,u,h,r=>by
  cases (show _ = V.bl b from h); cases (show u = Value.bool b from r); exact ⟨_,.bool b⟩
 | .int i,_,u,h,r=>by
  cases (show _ = V.int i from h); obtain ⟨t,e⟩:=(show ∃ t,u = Value.int i t from r); cases e; exact ⟨_,.int i t⟩
 | .str x,_,u,h,r=>by
  cases (show _ = V.str x from h); obtain ⟨t,e⟩:=(show ∃ t,u = Value.str x t from r); cases e; exact ⟨_,.str x t⟩
 | .list ds,_,u,⟨a,xs,h1,h2,h3⟩,r=>by
  subst h1
  cases (show u = Value.ref a from r)
  obtain ⟨its,rv,⟨o,n,e,c,_,d⟩,_⟩:=I.list h2
  obtain ⟨as,q⟩:=DtAll.reads I ds xs its h3 rv
  exact ⟨_,.list e c d (by simpa using q)⟩
 | .tuple ds,_,u,⟨a,xs,h1,h2,h3⟩,r=>by
  subst h1
  cases (show u = Value.ref a from r)
  obtain ⟨its,rv,⟨o,e,c,n,d⟩,_⟩:=I.tuple h2
  obtain ⟨as,q⟩:=DtAll.reads I ds xs its h3 rv
  exact ⟨_,.tuple e c d (by simpa using q)⟩
 | .dict _,_,_,h,_=>False.elim h
theorem DtAll.reads (I:Inv X pins σ H s):∀ (ds:List PyData) (xs:List V) (us:List Value),DtAll X.K H ds xs -> Vals xs us -> ∃ as,ReadsAll s.heap us ds as
 | [],_,us,h,r=>by
  cases (show _ = [] from h)
  cases r
  exact ⟨_,.nil⟩
 | d :: ds,_,us,⟨x,rr,h1,h2,h3⟩,r=>by
  subst h1
  cases r with
  | cons r1 r2 =>
   obtain ⟨as,q1⟩:=Dt.reads I d x _ h2 r1
   obtain ⟨bs,q2⟩:=DtAll.reads I ds rr _ h3 r2
   exact ⟨_,.cons q1 q2⟩
end
end
section
variable {X:Cx}
def rEqD (K:PySem.W.Frag):R2:=fun x y H Q=>∃ d e,Dt K H d x /\ Dt K H e y /\ SeqAt.shaped d = true /\ SeqAt.shaped e = true /\ Q (.bl (PyData.eqv d e)) H
def rNeD (K:PySem.W.Frag):R2:=fun x y H Q=>∃ d e,Dt K H d x /\ Dt K H e y /\ SeqAt.shaped d = true /\ SeqAt.shaped e = true /\ Q (.bl (!PyData.eqv d e)) H
theorem yR (hu:X.A.units + 64 < cLine):OpR X (compareOp .Eq) (rEqD X.K):=by
 intro pins s σ H x y v u Q I rx ry h
 obtain ⟨d,e,h1,h2,h3,h4,q⟩:=h
 obtain ⟨as,r1⟩:=Dt.reads I d x v h1 rx
 obtain ⟨bs,r2⟩:=Dt.reads I e y u h2 ry
 exact SeqAt.compareEq_shaped r1 r2 h3 h4 hu ⟨.bl _,H,I,rfl,q⟩
theorem jF (hu:X.A.units + 64 < cLine):OpR X (compareOp .NotEq) (rNeD X.K):=by
 intro pins s σ H x y v u Q I rx ry h
 obtain ⟨d,e,h1,h2,h3,h4,q⟩:=h
 obtain ⟨as,r1⟩:=Dt.reads I d x v h1 rx
 obtain ⟨bs,r2⟩:=Dt.reads I e y u h2 ry
 exact SeqAt.compareNe_shaped r1 r2 h3 h4 hu ⟨.bl _,H,I,rfl,q⟩
theorem jC:∀ {ys:List Str} {us:List Value},Vals (ys.map V.str) us -> StrsAre us ys
 | [],us,r=>by rw [List.map_nil] at r; cases r; exact .nil
 | y :: ys,us,r=>by
  rw [List.map_cons] at r
  cases r with
  | cons r1 r2 =>
   obtain ⟨t,e⟩:=r1
   subst e
   exact .cons y t (jC r2)
theorem vals_strs:∀ {us:List Value} {ys:List Str},StrsAre us ys -> Vals (ys.map V.str) us
 | _,_,.nil=>.nil
 | _,_,.cons y t r=>.cons ⟨t,rfl⟩ (vals_strs r)
def rJoin (K:PySem.W.Frag):V -> List V -> Hp -> VK -> Prop:=fun x vs H Q=>∃ sep p ys,x = .str sep /\ vs = [.ref p] /\ (SqL K H p (ys.map V.str) \/ SqT K H p (ys.map V.str)) /\ (ys.map (·.length)).sum + ys.length * sep.length <= 16777216 /\ Q (.str (Txt.join sep ys)) H
theorem mt_join:MtR X "str.join" (rJoin X.K):=by
 intro pins s σ H x xs v us Q I rx rs h
 obtain ⟨sep,p,ys,rfl,rfl,hq,hz,q⟩:=h
 obtain ⟨t,rfl⟩:=rx
 obtain ⟨u,rfl,ru⟩:=vals1 rs
 cases ru
 rcases hq with hq | hq
 ·obtain ⟨its,r,pl,_⟩:=I.list hq
  exact join_list pl.isList (by simpa using jC r) hz fun t' k=>⟨.str _,H,I.tok _,⟨_,rfl⟩,q⟩
 ·obtain ⟨its,r,pl,_⟩:=I.tuple hq
  exact join_tuple pl (by simpa using jC r) hz fun t' k=>⟨.str _,H,I.tok _,⟨_,rfl⟩,q⟩
theorem isPart_some {vl:Value} {lo:Option Int} (h:IsPart vl lo):∃ o:Option (Int × Tok),vl = partValue o /\ lo = o.map (·.1):=by
 cases h with
 | none=>exact ⟨none,rfl,rfl⟩
 | int i t=>exact ⟨some (i,t),rfl,rfl⟩
def rSlS:V -> Option Int -> Option Int -> Hp -> VK -> Prop:=fun x lo hi H Q=>∃ z,x = .str z /\ z.length <= sizeLine /\ Q (.str (Txt.slice z lo hi)) H
theorem sl_str:SlR X rSlS:=by
 intro pins s σ H x v vl vu lo hi sl Q I rx hs pl pu h
 obtain ⟨z,rfl,hz,q⟩:=h
 obtain ⟨t,rfl⟩:=rx
 obtain ⟨ol,rfl,rfl⟩:=isPart_some pl
 obtain ⟨ou,rfl,rfl⟩:=isPart_some pu
 refine ⟨"str",_,F.slot_str_getitem.lookup,typeIs_str _ _ _,wpAny_getItem_str_slice (l:=ol) (u:=ou) (st:=none) ?_ rfl (post_val_or_str ⟨Nat.le_trans (Txt.slice_le z _ _) hz,fun t' k=>⟨.str _,H,I.tok _,⟨_,rfl⟩,q⟩⟩)⟩
 exact hs
end
section
variable {X:Cx} {pins:List (Addr × Obj)} {σ:St} {H:Hp} {s:Shared} {h':Heap}
theorem Inv.turnedAll {t':Nat} {ch:List Addr} (I:Inv X pins σ H s) (hf:∀ b ∈ ch,FpOk X pins H b) (k:∀ b o,b ∉ ch -> s.heap.get? b = some o -> h'.get? b = some o) (th:∀ b ∈ ch,∃ o,h'.get? b = some o):Inv X pins σ H { s with heap:=h',toks:=t' }:=by
 have nch:∀ b u,H b = some u -> b ∉ ch:=fun b u e z=>by rw [(hf b z).1] at e; cases e
 refine I.step (g':=s.gens) (d':=s.drawn) (ch:=ch) (fun b hb=>?_) (fun b o _ _ hc e _=>k b o hc e) (fun b o _ _ hc e _=>⟨o.slots,k b o hc e⟩) (fun _ _ _ _ n=>n)
  (fun b o hc e=>⟨o,k b o hc e⟩) (fun _ _ e=>e) (fun _ _ _ e=>e) (fun b ps e=>⟨#[],by rw [e]; simp⟩) (fun m hm=>?_) (fun b u e=>?_) I.bare
 ·obtain ⟨_,f1,_,f3,f4,f5⟩:=hf b hb
  exact ⟨f3,f1,f4,f5⟩
 ·obtain ⟨o,es,ep,ho,r⟩:=hm
  exact ⟨o,es,ep,k _ o (fun z=>(hf _ z).2.1 rfl) ho,r⟩
 ·refine (I.hok b u e).stay (fun c v hc q=>k c v ?_ q) (fun _ q=>q) fun _ _ q=>q
  rcases hc with z | z
  ·rw [z]; exact nch b u e
  ·exact nch c _ z
theorem Un.adopt2 {fs ex:List Addr} {H H1:Hp} {h h1:Heap} {D:Addr} {o:HO} (u:Un fs ex H H1 h h1) (hD:h.get? D = none) (hH:H1 D = none):Un fs ex H (upd H1 D o) h h1 where
 keep:=u.keep
 slot:=u.slot
 free:=fun b ob q n hx=>by
  have hb:b ≠ D:=fun z=>by rw [z,hD] at q; cases q
  rw [zF hb]; exact u.free b ob q n hx
 there:=u.there
 tups:=fun b xs q=>by rw [zF (zG (u.tups b xs q) hH)]; exact u.tups b xs q
 frzs:=fun b ob xs q=>by rw [zF (zG (u.frzs b ob xs q) hH)]; exact u.frzs b ob xs q
 tbls:=fun b ps q=>by
  obtain ⟨m,e⟩:=u.tbls b ps q
  exact ⟨m,by rw [zF (zG e hH)]; exact e⟩
theorem Inv.takeUp {T:Addr} {o:HO} (I:Inv X pins σ H s) (n:H T = none) (h0:X.s₀.heap.objs.size <= T) (hL:T ≠ X.env.locals) (hc:∀ x c,X.env.cells.lookup x = some c -> c ≠ T) (hp:∀ p ∈ X.pn ++ pins,p.1 ≠ T)
  (new:ObjOk X.prog X.w (upd H T o) s.heap T o):Inv X pins σ (upd H T o) s:=by
 refine ⟨I.ok,I.os,I.bare,I.base.adopt2 (Heap.get?_none_of_le h0) n,I.loc,I.cell,?_,fun x c e=>?_,fun p hpp=>?_,I.hok.adopt n new,I.len⟩
 ·rw [zF (Ne.symm hL)]; exact I.free
 ·rw [zF (hc x c e)]; exact I.freeC x c e
 ·obtain ⟨e,n',ne,nf,d⟩:=I.pin p hpp
  exact ⟨e,by rw [zF (hp p hpp)]; exact n',ne,nf,d⟩
end
section
variable {X:Cx} {tg:Expr}
end
abbrev ForW (J:It) (g:TG) (tb:TS) (D:Ends) (σ:St) (H:Hp):Prop :=
 ∃ W:Nat -> Nat -> St -> Hp -> Prop,(∃ m,W 0 m σ H) /\ ∀ i m σ H,W i m σ H ->
  (J.stop i H /\ D.nx σ H) \/ (J.go i H /\ ∃ N:St -> Hp -> Prop,(∀ σ' H',N σ' H' -> ∃ m',m' < m /\ W (i + 1) m' σ' H') /\ ∀ x H',J.yld i H x H' -> g x σ H' fun σ2 H2=>tb { D with nx:=N,ct:=N,bk:=D.nx } σ2 H2)
theorem for_n {J:It} {g:TG} {tb:TS} {D:Ends} {σ:St} {H:Hp} (n:Nat) (Pv:Nat -> St -> Hp -> Prop) (h0:Pv 0 σ H) (hst:∀ σ H,Pv n σ H -> J.stop n H) (hgo:∀ i σ H,i < n -> Pv i σ H -> J.go i H)
  (hs:∀ i σ H,i < n -> Pv i σ H -> ∀ x H',J.yld i H x H' -> g x σ H' fun σ2 H2=>tb { D with nx:=Pv (i + 1),ct:=Pv (i + 1),bk:=D.nx } σ2 H2) (hd:∀ σ H,Pv n σ H -> D.nx σ H):ForW J g tb D σ H:=by
 refine ⟨fun i m σ H=>m = n - i /\ i <= n /\ Pv i σ H,⟨n,by simp,Nat.zero_le _,h0⟩,?_⟩
 rintro i m σ H ⟨rfl,hi,p⟩
 by_cases hlt:i < n
 ·exact .inr ⟨hgo i σ H hlt p,Pv (i + 1),fun σ' H' p'=>⟨n - (i + 1),by omega,rfl,hlt,p'⟩,fun x H' y=>hs i σ H hlt p x H' y⟩
 ·have e:i = n:=by omega
  subst e
  exact .inl ⟨hst σ H p,hd σ H p⟩
end L2
namespace L2
open PySem PySem.Spec PyProof.Rows
section
variable {X:Cx} {elts:List Expr} {x1:Nat} {tpos:Pos}
def rSlT2 (K:PySem.W.Frag):V -> Option Int -> Option Int -> Hp -> VK -> Prop:=fun x lo hi H Q=>∃ a xs,x = .ref a /\ SqT K H a xs /\ ∀ v H',(v = .ref a /\ H' = H /\ cutV xs lo hi = xs) \/ (∃ p,H p = none /\ v = .ref p /\ H' = upd H p (.tup (cutV xs lo hi))) -> Q v H'
end
namespace AxT
variable {prog:Program} {w:World} {A:Around} {E:Value -> Shared -> Prop} {s:Shared}
open HT
theorem getItem_tuple_whole {t sl:Addr} {items:Array Value} {vl vu:Value} {lo hi:Option Int} {Q:Value -> Shared -> Prop} (ht:IsTup s.heap t items) (hs:s.heap.IsSliceOf sl vl vu .none) (pl:IsPart vl lo) (pu:IsPart vu hi)
  (hw:sIx items.size 0 lo = 0 /\ sIx items.size items.size hi = items.size) (h:Q (.ref t) s):wpAny (model prog w) A (getItem (.ref t) (.ref sl)) Q E s:=by
 obtain ⟨os,hos,hcs,hds⟩:=id hs
 have hTs:s.TypeIs (.ref sl) "slice":=⟨os,hos,hcs⟩
 unfold getItem
 try with_reducible refine wpAny_holding ?_
 first | refine wpAny_bind (wpAny_pure ?_) | skip
 refine wpAny_bind (wpAny_sequenceKey ht.typeIs (by decide) ?_)
 refine wpAny_bind (wpAny_callSpecial?_slot (name:=Str.ofString "__getitem__") ht.typeIs PyProof.Rows.slot_tuple_getitem
  (wpAny_call_entry PyProof.Rows.slot_tuple_getitem ht.typeIs entry_tuple_getitem ?_ (args_tuple_getitem _ _)))
 show wpAny _ _ (Builtin.Tuple.tupleItemsOf (.ref t) >>= _) _ _ s
 refine wpAny_bind (tupleItemsOf_ ht ?_)
 refine wpAny_bind (wpAny_typeOf hTs ?_)
 rw [if_pos (by decide)]
 refine wpAny_bind (xT hs pl pu ?_)
 have hyes:(((sIx items.size 0 lo:Nat):Int) == 0 && (1:Int) == 1 && (sIx items.size items.size hi - sIx items.size 0 lo) == items.size) = true:=by
  rw [hw.1,hw.2]
  simp
 show wpAny _ _ (if (((sIx items.size 0 lo:Nat):Int) == 0 && (1:Int) == 1 && (sIx items.size items.size hi - sIx items.size 0 lo) == items.size) = true then _ else _) _ _ s
 rw [if_pos hyes]
 obtain ⟨o,ho,hc,n,hd⟩:=id ht
 refine wpAny_bind (m:=Builtin.Tuple.tupleIsExact _) ?_
 unfold Builtin.Tuple.tupleIsExact
 refine wpAny_bind (wpAny_typeOf ht.typeIs (wpAny_pure ?_))
 rw [if_pos (by decide)]
 exact wpAny_bind (wpAny_rule (wpAny_pure ⟨_,rfl,wpAny_pure h⟩))
end AxT
section
variable {X:Cx}
theorem sl_tup2:SlR X (rSlT2 X.K):=by
 intro pins s σ H x v vl vu lo hi sl Q I rx hs pl pu h
 obtain ⟨a,xs,rfl,hx,q⟩:=h
 cases rx
 obtain ⟨its,r,ht,hz⟩:=I.tuple hx
 have hlen:its.toArray.size = xs.length:=by rw [List.size_toArray]; exact r.length.symm
 refine ⟨"tuple",_,PyProof.Rows.slot_tuple_getitem.lookup,ht.typeIs,?_⟩
 by_cases hw:HT.sIx its.toArray.size 0 lo = 0 /\ HT.sIx its.toArray.size its.toArray.size hi = its.toArray.size
 ·refine AxT.getItem_tuple_whole ht hs pl pu hw ⟨.ref a,H,I,rfl,q _ _ (.inl ⟨rfl,rfl,?_⟩)⟩
  rw [hlen] at hw
  unfold cutV
  rw [hw.1,hw.2]
  simp
 ·refine HT.getItem_tuple_cut ht hs pl pu hw ?_ (by rw [hlen]; exact hz)
  rw [hlen]
  refine ⟨.ref s.heap.objs.size,_,I.laid (t':=s.toks) (o:=.tup (cutV xs lo hi)) (fun b ob q=>Heap.get?_push_of_some _ q) (Nat.le_refl _) ?_,rfl,q _ _ (.inr ⟨_,I.hok.fresh (Nat.le_refl _),rfl,rfl⟩)⟩
  exact ⟨Nat.le_trans (cutV_length xs lo hi) hz,_,(r.drop (HT.sIx xs.length 0 lo)).take (HT.sIx xs.length xs.length hi - HT.sIx xs.length 0 lo),IsTup.new _ _⟩
structure Cal (P:Program) (w:World) (K:PySem.W.Frag) (mg:Str -> Option Value) (base:Heap) (k:Nat) (x:Str) (ps:List Str) (sp:Sp):Prop where
 ex:∃ (f:Addr) (fd:FuncData),FnOk P w K mg base CX0 k f fd ps sp /\ mg x = some (.ref f) /\ PySem.W.keepIn K (.ref f) = true /\ Binds K fd ps []
theorem zJ {k:Nat} {x:Str} {ps:List Str} {sp:Sp} {e:Expr} {es:List Expr} {t:TA} {p pos:Pos} (C:Cal X.prog X.w X.K X.mg X.base k x ps sp) (hr:Room k X.A) (ha:PA X (e :: es) t) (hg:Gl X x:=by rfl)
  (hdb:(x == ("__debug__":Str)) = false:=by decide) (he:starEach (e :: es) X.env = (false,eval e X.env) :: starEach es X.env:=by rfl) (hpl:(backTo pos (starEach es X.env)).any (·.1) = false:=by rfl) :
  PE X (.Call (.Name x p) (e :: es) [] pos) (tCall sp [] E0 t):=by
 obtain ⟨f,fd,F,hm,hk,hb⟩:=C.ex
 exact pe_call F hr hg hm hk hb .nil pass0 ha hdb he hpl
theorem Cal.mk' {P:Program} {w:World} {K:PySem.W.Frag} {mg:Str -> Option Value} {base:Heap} {k:Nat} {x qual:Str} {st:Stmt} {f:Addr} {fd:FuncData} {ps:List Str} {sp:Sp} (F:Fun K x qual st f fd) (G:FnOk P w K mg base CX0 k f fd ps sp) (hm:mg x = some (.ref f))
  (b:Binds K fd ps []):Cal P w K mg base k x ps sp:=⟨f,fd,G,hm,F.kp,b⟩
end
end L2
namespace L2
open PySem PySem.Spec PyProof.Rows
section
variable {X:Cx} {a:Expr} {ta:TE} {K:PySem.W.Frag}
def tTru (K:PySem.W.Frag) (ta:TE):TT:=fun σ H Q=>ta σ H fun x H'=>∃ k,TruV K x H' k /\ Q k H'
theorem yC (ha:PE X a ta) (he:∀ whole,isTrue a X.env whole = (do let v ← whole; standAt a.pos; holding [v] (truthy v))) (hK:X.K = K:=by rfl):PT X a (tTru K ta):=by
 subst hK
 exact pt_truth ha he
end
end L2
namespace An
open PySem L2
abbrev cs (x:Str):List Nat:=x.cps.toList
theorem cs_inj {x y:Str} (h:cs x = cs y):x = y:=by
 obtain ⟨a⟩:=x
 obtain ⟨b⟩:=y
 have:a = b:=by simpa using h
 rw [this]
theorem qQ (x y:Str):cs (x ++ y) = cs x ++ cs y:=by
 show (x.cps ++ y.cps).toList = _
 simp
theorem yY (x:Str):x.length = (cs x).length:=by simp [Str.length]
theorem qI:∀ (a b:List Str),PyData.eqvAll (a.map .str) (b.map .str) = decide (a = b)
 | [],[]=>rfl
 | [],_ :: _=>rfl
 | _ :: _,[]=>rfl
 | x :: a,y :: b=>by
  show ((x == y) && PyData.eqvAll (a.map .str) (b.map .str)) = _
  rw [qI a b,Bool.eq_iff_iff]
  simp
structure Ok (n:Nat) (x:Str):Prop where
 len:x.length <= n
 ok:PyData.strOk x = true
theorem strOk_iff (x:Str):PyData.strOk x = true ↔ ∀ c ∈ cs x,c < 1114112:=by
 unfold PyData.strOk
 rw [← Array.all_toList,List.all_eq_true]
 simp
theorem jJ:∀ ls:List Str,(∀ p ∈ ls,PyData.strOk p = true) -> PyData.canLayAll0 (ls.map .str) = true /\ PyData.depthAll (ls.map .str) = 0
 | [],_=>⟨rfl,rfl⟩
 | x :: ls,h=>by
  obtain ⟨h1,h2⟩:=jJ ls fun p hp=>h p (List.mem_cons_of_mem _ hp)
  refine ⟨?_,?_⟩
  ·show (PyData.strOk x && PyData.canLayAll0 (ls.map .str)) = true
   rw [h x List.mem_cons_self,h1]; rfl
  ·show max 0 (PyData.depthAll (ls.map .str)) = 0
   rw [h2]; rfl
theorem qA {ls:List Str} (h:∀ p ∈ ls,PyData.strOk p = true):SeqAt.shaped (.list (ls.map .str)) = true /\ SeqAt.shaped (.tuple (ls.map .str)) = true:=by
 obtain ⟨h1,h2⟩:=jJ ls h
 refine ⟨?_,?_⟩
 ·show (PyData.canLayAll0 (ls.map .str) && decide (PyData.depthAll (ls.map .str) + 1 <= 64)) = true
  rw [h1,h2]; rfl
 ·show (PyData.canLayAll0 (ls.map .str) && decide (PyData.depthAll (ls.map .str) + 1 <= 64)) = true
  rw [h1,h2]; rfl
theorem same_upd {H:Hp} {l:Addr} {o:HO} (h:H l = none):Same H (upd H l o):=fun b u e=>by rw [zF (zG e h)]; exact e
theorem Same.updF {H H2:Hp} {l:Addr} {o:HO} (e:Same H H2) (n:H l = none):Same H (upd H2 l o):=fun b u q=>by rw [zF (zG q n)]; exact e b u q
theorem snoc_get {α:Type} {xs:List α} {x y:α} {i:Nat} (h:(xs ++ [x])[i]? = some y):(i < xs.length /\ xs[i]? = some y) \/ (i = xs.length /\ y = x):=by
 by_cases hi:i < xs.length
 ·rw [List.getElem?_append_left hi] at h; exact .inl ⟨hi,h⟩
 ·rw [List.getElem?_append_right (by omega)] at h
  have:i - xs.length = 0:=by
   cases q:i - xs.length with
   | zero=>rfl
   | succ n=>rw [q] at h; simp at h
  rw [this] at h
  exact .inr ⟨by omega,(Option.some.inj h).symm⟩
theorem le_line {n:Nat} (h:n <= 16777216):n <= sizeLine:=by rw [sizeLine_eq]; exact h
theorem yX {n:Nat} (h:n < 16777216):n < sizeLine:=by rw [sizeLine_eq]; exact h
theorem atI_zero {α:Type} (x:α) (r:List α):atI (x :: r) 0 = some x:=jS (j:=0) rfl
theorem lineN (n:Nat) (h:n <= 16777216:=by decide):n <= sizeLine:=le_line h
theorem iteY {c A B:Prop} [Decidable c] (hc:c) (h:A):if decide c = true then A else B:=by
 rw [decide_eq_true hc]; exact iteT h
theorem iteN {c A B:Prop} [Decidable c] (hc:¬ c) (h:B):if decide c = true then A else B:=by
 rw [decide_eq_false hc]; exact iteF h
theorem sum_le {n:Nat}:∀ (ys:List Str),(∀ y ∈ ys,y.length <= n) -> (ys.map (·.length)).sum <= ys.length * n
 | [],_=>by simp
 | y :: ys,h=>by
  have h1:=sum_le ys fun z hz=>h z (List.mem_cons_of_mem _ hz)
  have h2:=h y List.mem_cons_self
  rw [List.map_cons,List.sum_cons,List.length_cons,Nat.succ_mul]
  omega
theorem qK {α:Type} {f:α -> V} {xs:List α} {i:Int} (h0:0 <= i) (h1:i < xs.length):∃ x,xs[i.toNat]? = some x /\ atI (xs.map f) i = some (f x):=by
 obtain ⟨j,rfl⟩:=Int.eq_ofNat_of_zero_le h0
 have hj:j < xs.length:=by omega
 refine ⟨xs[j],by simp [hj],jS ?_⟩
 rw [List.getElem?_map,List.getElem?_eq_getElem hj]; rfl
theorem cut_to {xs:List V} {i:Int} (h0:0 <= i):cutV xs none (some i) = xs.take i.toNat:=by
 obtain ⟨j,rfl⟩:=Int.eq_ofNat_of_zero_le h0
 unfold cutV
 rw [HT.sIx_none,HT.sIx_nat,List.drop_zero]
 show xs.take (min j xs.length - 0) = xs.take j
 by_cases h:j <= xs.length
 ·rw [Nat.min_eq_left h]; rfl
 ·rw [Nat.min_eq_right (by omega),Nat.sub_zero,List.take_length,List.take_of_length_le (by omega)]
theorem cut_from {xs:List V} {i:Int} (h0:0 <= i):cutV xs (some i) none = xs.drop i.toNat:=by
 obtain ⟨j,rfl⟩:=Int.eq_ofNat_of_zero_le h0
 unfold cutV
 rw [HT.sIx_none,HT.sIx_nat]
 show (xs.drop (min j xs.length)).take (xs.length - min j xs.length) = xs.drop j
 by_cases h:j <= xs.length
 ·rw [Nat.min_eq_left h]
  exact List.take_of_length_le (by rw [List.length_drop]; omega)
 ·rw [Nat.min_eq_right (by omega),List.drop_eq_nil_of_le (Nat.le_refl _),List.drop_eq_nil_of_le (by omega)]; simp
def TSame (H H':Hp):Prop:=∀ b o,H b = some o -> (∀ xs,o ≠ .lst xs) -> H' b = some o
theorem same_t {H H':Hp} (e:Same H H'):TSame H H':=fun b o h _=>e b o h
theorem TSame.trans {H H1 H2:Hp} (a:TSame H H1) (b:TSame H1 H2):TSame H H2:=fun c o h n=>b c o (a c o h n) n
theorem TSame.upd {H:Hp} {l:Addr} {xs ys:List V} (h:H l = some (.lst xs)):TSame H (L2.upd H l (.lst ys)):=fun b o e n=>by
 have hb:b ≠ l:=fun z=>by rw [z,h] at e; cases e; exact n xs rfl
 rw [zF hb]; exact e
theorem TSame.tup {K:PySem.W.Frag} {H H':Hp} {a:Addr} {xs:List V} (e:TSame H H') (h:SqT K H a xs):SqT K H' a xs:=by
 rcases h with (h | ⟨o,h⟩) | h
 ·exact .inl (.inl (e _ _ h fun xs z=>nomatch z))
 ·exact .inl (.inr ⟨o,e _ _ h fun xs z=>nomatch z⟩)
 ·exact .inr h
theorem iteNF {A B:Prop} (h:B):if (!true) = true then A else B:=by
 show if false = true then A else B
 exact iteF h
end An
namespace L2
open PySem PySem.Spec PyProof.Rows
section
variable {X:Cx} {K:PySem.W.Frag}
end
mutual
def Dw (K:PySem.W.Frag) (H:Hp):PyData -> V -> Prop
 | .none,v=>v = .non
 | .bool b,v=>v = .bl b
 | .int i,v=>v = .int i
 | .str x,v=>v = .str x
 | .list ds,v=>∃ a xs,v = .ref a /\ SqL K H a xs /\ DwAll K H ds xs
 | .tuple ds,v=>∃ a xs,v = .ref a /\ SqT K H a xs /\ DwAll K H ds xs
 | .dict _,v=>∃ a kvs,v = .ref a /\ H a = some (.dK kvs)
def DwAll (K:PySem.W.Frag) (H:Hp):List PyData -> List V -> Prop
 | [],xs=>xs = []
 | d :: ds,xs=>∃ x r,xs = x :: r /\ Dw K H d x /\ DwAll K H ds r
end
mutual
theorem Dt.dw {K:PySem.W.Frag} {H:Hp}:∀ {d:PyData} {v:V},Dt K H d v -> Dw K H d v
 | .none,_,h=>h
 | .bool _,_,h=>h
 | .int _,_,h=>h
 | .str _,_,h=>h
 | .list ds,_,⟨a,xs,h1,h2,h3⟩=>⟨a,xs,h1,h2,DtAll.dw h3⟩
 | .tuple ds,_,⟨a,xs,h1,h2,h3⟩=>⟨a,xs,h1,h2,DtAll.dw h3⟩
 | .dict _,_,h=>h.elim
theorem DtAll.dw {K:PySem.W.Frag} {H:Hp}:∀ {ds:List PyData} {xs:List V},DtAll K H ds xs -> DwAll K H ds xs
 | [],_,h=>h
 | d :: ds,_,⟨x,r,h1,h2,h3⟩=>⟨x,r,h1,Dt.dw h2,DtAll.dw h3⟩
end
def nameD:PyData -> String
 | .none=>"NoneType"
 | .bool _=>"bool"
 | .int _=>"int"
 | .str _=>"str"
 | .list _=>"list"
 | .tuple _=>"tuple"
 | .dict _=>"dict"
section
variable {X:Cx} {pins:List (Addr × Obj)} {σ:St} {H:Hp} {s:Shared} {A:Around} {E:Value -> Shared -> Prop} {Q:Value -> Shared -> Prop} {c:Value} {b:Bool} {K:PySem.W.Frag}
theorem isinst_dw {x:V} {u:Value} {d:PyData} (I:Inv X pins σ H s) (rx:RelV x u) (hd:Dw X.K H d x) (e:PySem.W.kitOne X.K (.type (nameD d)) c = some b) (h:∀ tk,Q (.bool b) { s with toks:=tk }) :
  wpAny (model X.prog X.w) A (call (.builtin "isinstance") [u,c]) Q E s:=by
 cases d with
 | none=>cases (show x = _ from hd); exact xV I rx .non e h
 | bool y=>cases (show x = _ from hd); exact xV I rx (.bl y) e h
 | int i=>cases (show x = _ from hd); exact xV I rx (.int i) e h
 | str y=>cases (show x = _ from hd); exact xV I rx (.str y) e h
 | dict kvs=>obtain ⟨a,ks,rfl,ea⟩:=hd; exact xV I rx (.dK ea) e h
 | list ds =>
  obtain ⟨a,xs,rfl,hs,_⟩:=hd
  cases (show u = Value.ref a from rx)
  obtain ⟨its,_,⟨o,n,h1,h2,_⟩,_⟩:=I.list hs
  exact PySem.W.kia_one PySem.W.kitx_list I.kIn ⟨o,h1,h2⟩ e (fun z=>nomatch z) h
 | tuple ds =>
  obtain ⟨a,xs,rfl,hs,_⟩:=hd
  cases (show u = Value.ref a from rx)
  obtain ⟨its,_,p,_⟩:=I.tuple hs
  obtain ⟨o,h1,h2,_⟩:=p
  exact PySem.W.kia_one PySem.W.kitx_tuple I.kIn ⟨o,h1,h2⟩ e (fun z=>nomatch z) h
def rIsiD (K:PySem.W.Frag):List V -> Hp -> VK -> Prop:=fun xs H Q=>∃ y T d b,xs = [y,.ty T] /\ Dw K H d y /\ PySem.W.kitOne K (.type (nameD d)) (.type T) = some b /\ Q (.bl b) H
theorem call_isinstD (hK:X.K = K:=by rfl):CallR X (.builtin "isinstance") (rIsiD K):=by
 subst hK
 intro pins s σ H xs us Q I r h
 obtain ⟨y,T,d,b,rfl,hd,kt,q⟩:=h
 obtain ⟨u,w',rfl,ru,rw'⟩:=vals2 r
 cases (show w' = Value.type T from rw')
 exact isinst_dw I ru hd kt fun tk=>⟨.bl b,H,I.tok _,rfl,q⟩
end
section
variable {src:List (Option Nat)} {g:TG} {te:TE} {Q:VK} {σ:St} {H:Hp}
end
end L2
namespace An
open PySem L2
def signB (c:Nat):Bool:=decide (32 <= c) && decide (c <= 126) && decide (c ≠ 37)
def lineB (x:Str):Bool:=decide (x.length <= 20) && (cs x).all signB
end An
namespace An10
def lcs {α:Type} [DecidableEq α]:List α -> List α -> Nat
 | [],_=>0
 | _ :: _,[]=>0
 | x :: xs,y :: ys=>if x = y then 1 + lcs xs ys else max (lcs xs (y :: ys)) (lcs (x :: xs) ys)
termination_by xs ys=>xs.length + ys.length
section
variable {α:Type} [DecidableEq α]
theorem yU (ys:List α):lcs [] ys = 0:=by unfold lcs; rfl
theorem xB (xs:List α):lcs xs [] = 0:=by cases xs <;> (unfold lcs; rfl)
theorem xD (x y:α) (xs ys:List α):lcs (x :: xs) (y :: ys) = if x = y then 1 + lcs xs ys else max (lcs xs (y :: ys)) (lcs (x :: xs) ys):=by rw [lcs]
theorem xP:∀ (n:Nat) (xs ys:List α),xs.length + ys.length <= n -> (∀ x,lcs xs ys <= lcs (x :: xs) ys) /\ (∀ y,lcs xs ys <= lcs xs (y :: ys)) /\ (∀ x,lcs (x :: xs) ys <= 1 + lcs xs ys) /\ (∀ y,lcs xs (y :: ys) <= 1 + lcs xs ys)
 | n,[],ys,h=>by
  refine ⟨fun x=>by rw [yU]; exact Nat.zero_le _,fun y=>by rw [yU]; exact Nat.zero_le _,fun x=>?_,fun y=>by rw [yU]; exact Nat.zero_le _⟩
  induction ys with
  | nil=>rw [xB,yU]; exact Nat.zero_le _
  | cons y ys ih =>
   rw [xD]
   split
   ·rw [yU,yU]; exact Nat.le_refl _
   ·have:=ih (by simp at h ⊢; omega)
    rw [yU] at this ⊢
    try rw [yU]
    omega
 | n,x' :: xs,[],h=>by
  refine ⟨fun x=>by rw [xB]; exact Nat.zero_le _,fun y=>by rw [xB]; exact Nat.zero_le _,fun x=>by rw [xB]; exact Nat.zero_le _,fun y=>?_⟩
  have:∀ l:List α,lcs l [y] <= 1:=by
   intro l
   induction l with
   | nil=>rw [yU]; exact Nat.zero_le _
   | cons a l ih =>
    rw [xD]
    split
    ·rw [xB]; exact Nat.le_refl _
    ·rw [xB]; omega
  rw [xB]
  exact this _
 | 0,x' :: xs,y' :: ys,h=>by simp at h
 | n + 1,x' :: xs,y' :: ys,h=>by
  simp only [List.length_cons] at h
  obtain ⟨a1,a2,a3,a4⟩:=xP n xs ys (by omega)
  obtain ⟨b1,b2,b3,b4⟩:=xP n xs (y' :: ys) (by simp; omega)
  obtain ⟨c1,c2,c3,c4⟩:=xP n (x' :: xs) ys (by simp; omega)
  have e:=xD x' y' xs ys
  have b3':=b3 x'
  have c4':=c4 y'
  have b1':=b1 x'
  have c2':=c2 y'
  have a1':=a1 x'
  have a2':=a2 y'
  have a3':=a3 x'
  have a4':=a4 y'
  refine ⟨fun x=>?_,fun y=>?_,fun x=>?_,fun y=>?_⟩
  ·rw [xD x y' (x' :: xs) ys]
   split
   ·omega
   ·omega
  ·rw [xD x' y xs (y' :: ys)]
   split
   ·omega
   ·omega
  ·have c3':=c3 x
   rw [xD x y' (x' :: xs) ys]
   split
   ·omega
   ·omega
  ·have b4':=b4 y
   rw [xD x' y xs (y' :: ys)]
   split
   ·omega
   ·omega
def tab (xs ys:List α) (i k:Nat):Nat:=lcs (xs.drop i) (ys.drop k)
theorem tab_end_l {xs ys:List α} {i k:Nat} (h:xs.length <= i):tab xs ys i k = 0:=by unfold tab; rw [List.drop_eq_nil_of_le h,yU]
theorem tab_end_r {xs ys:List α} {i k:Nat} (h:ys.length <= k):tab xs ys i k = 0:=by unfold tab; rw [List.drop_eq_nil_of_le h,xB]
theorem tab_step {xs ys:List α} {i k:Nat} {x y:α} (hx:xs[i]? = some x) (hy:ys[k]? = some y):tab xs ys i k = if x = y then 1 + tab xs ys (i + 1) (k + 1) else max (tab xs ys (i + 1) k) (tab xs ys i (k + 1)):=by
 have h1:xs.drop i = x :: xs.drop (i + 1):=by
  obtain ⟨h,e⟩:=List.getElem?_eq_some_iff.mp hx
  rw [List.drop_eq_getElem_cons h,e]
 have h2:ys.drop k = y :: ys.drop (k + 1):=by
  obtain ⟨h,e⟩:=List.getElem?_eq_some_iff.mp hy
  rw [List.drop_eq_getElem_cons h,e]
 unfold tab
 rw [h1,h2,xD,← h1,← h2]
theorem tab_le {xs ys:List α}:∀ {i k:Nat},tab xs ys i k <= xs.length - i:=by
 intro i k
 unfold tab
 generalize hz:xs.drop i = zs
 have hl:zs.length = xs.length - i:=by rw [← hz,List.length_drop]
 rw [← hl]
 clear hz hl
 induction zs generalizing k with
 | nil=>rw [yU]; exact Nat.le_refl _
 | cons z zs ih =>
  have:=(xP _ zs (ys.drop k) (Nat.le_refl _)).2.2.1 z
  have:=ih (k:=k)
  rw [List.length_cons]
  omega
end
end An10
namespace An10
section
variable {α:Type} [DecidableEq α]
def path (xs ys:List α):Nat -> Nat -> Nat -> List (Nat × Nat)
 | 0,_,_=>[]
 | f + 1,i,k=>match xs[i]?,ys[k]? with
  | some x,some y=>if x = y then (i,k) :: path xs ys f (i + 1) (k + 1) else if tab xs ys i (k + 1) <= tab xs ys (i + 1) k then path xs ys f (i + 1) k else path xs ys f i (k + 1)
  | _,_=>[]
theorem path_end {xs ys:List α} {f i k:Nat} (h:xs.length <= i \/ ys.length <= k):path xs ys f i k = []:=by
 cases f with
 | zero=>rfl
 | succ f =>
  unfold path
  rcases h with h | h
  ·rw [List.getElem?_eq_none h]
  ·rw [List.getElem?_eq_none h]
   cases xs[i]? <;> rfl
theorem path_step {xs ys:List α} {f i k:Nat} {x y:α} (hx:xs[i]? = some x) (hy:ys[k]? = some y) :
  path xs ys (f + 1) i k = if x = y then (i,k) :: path xs ys f (i + 1) (k + 1) else if tab xs ys i (k + 1) <= tab xs ys (i + 1) k then path xs ys f (i + 1) k else path xs ys f i (k + 1):=by
 rw [path,hx,hy]
theorem path_len {xs ys:List α}:∀ (f i k:Nat),(xs.length - i) + (ys.length - k) <= f -> (path xs ys f i k).length = tab xs ys i k
 | 0,i,k,h=>by
  rw [path_end (by omega)]
  by_cases hi:xs.length <= i
  ·rw [tab_end_l hi]; rfl
  ·rw [tab_end_r (by omega)]; rfl
 | f + 1,i,k,h=>by
  by_cases hi:i < xs.length
  ·by_cases hk:k < ys.length
   ·have hx:xs[i]? = some xs[i]:=List.getElem?_eq_getElem hi
    have hy:ys[k]? = some ys[k]:=List.getElem?_eq_getElem hk
    have a:=path_len (xs:=xs) (ys:=ys) f (i + 1) (k + 1) (by omega)
    have b:=path_len (xs:=xs) (ys:=ys) f (i + 1) k (by omega)
    have c:=path_len (xs:=xs) (ys:=ys) f i (k + 1) (by omega)
    rw [path_step hx hy,tab_step hx hy]
    split
    ·rw [List.length_cons,a]; omega
    ·split
     ·rw [b]; omega
     ·rw [c]; omega
   ·rw [path_end (.inr (by omega)),tab_end_r (by omega)]; rfl
  ·rw [path_end (.inl (by omega)),tab_end_l (by omega)]; rfl
def Rise (xs ys:List α):Nat -> Nat -> List (Nat × Nat) -> Prop
 | _,_,[]=>True
 | i,k,p :: ps=>i <= p.1 /\ k <= p.2 /\ (∃ x,xs[p.1]? = some x /\ ys[p.2]? = some x) /\ Rise xs ys (p.1 + 1) (p.2 + 1) ps
theorem Rise.mono {xs ys:List α}:∀ {ps:List (Nat × Nat)} {i k i' k':Nat},Rise xs ys i k ps -> i' <= i -> k' <= k -> Rise xs ys i' k' ps
 | [],_,_,_,_,_,_,_=>trivial
 | p :: ps,_,_,_,_,⟨h1,h2,h3⟩,hi,hk=>⟨Nat.le_trans hi h1,Nat.le_trans hk h2,h3⟩
theorem path_rise {xs ys:List α}:∀ (f i k:Nat),Rise xs ys i k (path xs ys f i k)
 | 0,i,k=>trivial
 | f + 1,i,k=>by
  by_cases hi:i < xs.length
  ·by_cases hk:k < ys.length
   ·have hx:xs[i]? = some xs[i]:=List.getElem?_eq_getElem hi
    have hy:ys[k]? = some ys[k]:=List.getElem?_eq_getElem hk
    rw [path_step hx hy]
    split
    ·rename_i e
     exact ⟨Nat.le_refl _,Nat.le_refl _,⟨xs[i],hx,by rw [e]; exact hy⟩,path_rise f (i + 1) (k + 1)⟩
    ·split
     ·exact (path_rise f (i + 1) k).mono (Nat.le_succ _) (Nat.le_refl _)
     ·exact (path_rise f i (k + 1)).mono (Nat.le_refl _) (Nat.le_succ _)
   ·rw [path_end (.inr (by omega))]; trivial
  ·rw [path_end (.inl (by omega))]; trivial
end
end An10
namespace An12
open PySem L2 An An10
abbrev Row:=Int × Int × PyData
def rowDat (r:Row):PyData:=.tuple [.int r.1,.int r.2.1,r.2.2]
def strD:PyData -> Str
 | .str x=>x
 | _=>""
def linesOf:PyData -> List Str
 | .tuple ds=>ds.map strD
 | _=>[]
theorem linesOf_strs (ls:List Str):linesOf (.tuple (ls.map .str)) = ls:=by
 show (ls.map PyData.str).map strD = ls
 rw [List.map_map]
 exact (List.map_congr_left (g:=id) fun _ _=>rfl).trans (List.map_id _)
def patchL (xs:List Str):Nat -> List Row -> List Str
 | e,[]=>xs.drop e
 | e,r :: rs=>(xs.drop e).take (r.1.toNat - e) ++ linesOf r.2.2 ++ patchL xs r.2.1.toNat rs
def spanR (lo hi:Nat) (ls:List Str):Row:=(lo,hi,.tuple (ls.map .str))
def spanL (xs ys:List Str):Nat -> Nat -> List (Nat × Nat) -> List Row
 | lo,fi,[]=>if lo < xs.length \/ fi < ys.length then [spanR lo xs.length (ys.drop fi)] else []
 | lo,fi,p :: ps=>(if lo < p.1 \/ fi < p.2 then [spanR lo p.1 ((ys.drop fi).take (p.2 - fi))] else []) ++ spanL xs ys (p.1 + 1) (p.2 + 1) ps
def spans (xs ys:List Str):List Row:=spanL xs ys 0 0 (path xs ys (xs.length + ys.length) 0 0)
end An12
namespace An10
open PySem L2 An
def rowV (xs ys:List Str) (i:Nat):List V:=(List.range (ys.length + 1)).map fun k=>V.int (tab xs ys i k)
structure TabAt (H:Hp) (xs ys:List Str) (t:Addr) (as:List Addr):Prop where
 at_:H t = some (.lst (as.map V.ref))
 len:as.length = xs.length + 1
 row:∀ i a,as[i]? = some a -> H a = some (.lst (rowV xs ys i))
def spTable (K:PySem.W.Frag):Sp:=fun vs H Q _=>∃ (a b:Addr) (xs ys:List Str),vs = [.ref a,.ref b] /\ SqT K H a (xs.map V.str) /\ SqT K H b (ys.map V.str) /\ xs.length <= 100 /\ ys.length <= 140 /\
 ∀ (t:Addr) (as:List Addr) H',Same H H' -> TabAt H' xs ys t as -> (t :: as).Nodup -> (∀ b ∈ t :: as,H b = none) -> Q (.ref t) H'
theorem row_at {xs ys:List Str} {i:Nat} {k:Int} (h0:0 <= k) (h1:k <= ys.length):atI (rowV xs ys i) k = some (V.int (tab xs ys i k.toNat)):=by
 obtain ⟨j,rfl⟩:=Int.eq_ofNat_of_zero_le h0
 refine jS ?_
 unfold rowV
 rw [List.getElem?_map,List.getElem?_range (by omega)]
 rfl
theorem rowV_len {xs ys:List Str} {i:Nat}:(rowV xs ys i).length = ys.length + 1:=by unfold rowV; rw [List.length_map,List.length_range]
theorem rowV_ext {xs ys:List Str} {i:Nat} {zs:List V} (hl:zs.length = ys.length + 1) (h:∀ m,m <= ys.length -> zs[m]? = some (V.int (tab xs ys i m))):zs = rowV xs ys i:=by
 refine List.ext_getElem? fun m=>?_
 rcases Nat.lt_or_ge m (ys.length + 1) with hm | hm
 ·rw [h m (by omega)]
  unfold rowV
  rw [List.getElem?_map,List.getElem?_range hm]
  rfl
 ·rw [List.getElem?_eq_none (by omega),List.getElem?_eq_none (by rw [rowV_len]; omega)]
def spTRow (K:PySem.W.Frag):Sp:=fun vs H Q _=>∃ (x:Str) (b p:Addr) (xs ys:List Str) (i:Nat),vs = [.str x,.ref b,.ref p] /\ SqT K H b (ys.map V.str) /\ H p = some (.lst (rowV xs ys (i + 1))) /\ xs[i]? = some x /\ ys.length <= 140 /\
 ∀ (l:Addr) H',Same H H' -> H l = none -> H' l = some (.lst (rowV xs ys i)) -> Q (.ref l) H'
theorem flat_rep {α:Type} (x:α) (n:Nat):(List.replicate n [x]).flatten = List.replicate n x:=by
 induction n with
 | zero=>rfl
 | succ n ih=>rw [List.replicate_succ,List.replicate_succ,List.flatten_cons,ih]; rfl
theorem ixN_nat {n k:Nat} (h:k < n):ixN n (k:Int) = some k:=by
 unfold ixN
 rw [if_pos (by omega),if_pos (by omega)]
 rfl
theorem atI_nat' {xs:List V} {n:Nat} {i:Int} {v:V} (e:i = (n:Int)) (h:xs[n]? = some v):atI xs i = some v:=by
 subst e
 exact jS h
theorem get_one {α:Type} {x c:α} {m:Nat} (h:[x][m]? = some c):m = 0 /\ c = x:=by
 match m,h with
 | 0,h=>exact ⟨rfl,(Option.some.inj h).symm⟩
end An10
namespace An10
open PySem L2 An
def PairsAt (H:Hp) (l:Addr) (ps:List (Nat × Nat)):Prop:=∃ ts:List Addr,H l = some (.lst (ts.map V.ref)) /\ ts.length = ps.length /\ ∀ (i:Nat) (t:Addr) (p:Nat × Nat),ts[i]? = some t -> ps[i]? = some p -> H t = some (.tup [V.int p.1,V.int p.2])
def spKept (K:PySem.W.Frag):Sp:=fun vs H Q _=>∃ (a b:Addr) (xs ys:List Str),vs = [.ref a,.ref b] /\ SqT K H a (xs.map V.str) /\ SqT K H b (ys.map V.str) /\ xs.length <= 100 /\ ys.length <= 140 /\ (∀ x ∈ xs,Ok 200 x) /\ (∀ y ∈ ys,Ok 200 y) /\
 ∀ (l:Addr) H',Same H H' -> H l = none -> PairsAt H' l (path xs ys (xs.length + ys.length) 0 0) -> Q (.ref l) H'
end An10
namespace L2
open PySem
section
variable {M:Model} {A:Around} {E:Value -> Shared -> Prop} {s:Shared} {base:Heap} {q:Array Value -> Prop} {env:Env} {outer:List Env} {L x:Addr}
end
end L2
namespace L2
open PySem PySem.Spec PyProof.Rows
section
variable {X:Cx} {pins:List (Addr × Obj)} {σ:St} {H:Hp} {s:Shared}
end
section
variable {X:Cx}
end
section
variable {X:Cx} {k:Nat} {f:Addr} {fd:FuncData} {ps:List Str} {sp:Sp} {x:Str} {p pos:Pos} {e:Expr} {es:List Expr} {t:TA} {R:St -> Hp -> Value -> Prop}
end
end L2
namespace L2
open PySem PySem.Spec PyProof.Rows
section
variable {X:Cx} {pins pins':List (Addr × Obj)} {σ:St} {H:Hp} {s:Shared} {h':Heap} {R:St -> Hp -> Value -> Prop}
end
section
variable {X:Cx}
end
end L2
namespace L2
open PySem PySem.Spec PyProof.Rows
section
variable {P:Program} {w:World} {K:PySem.W.Frag} {mg:Str -> Option Value} {base:Heap}
end
end L2
namespace L2
open PySem PySem.Spec PyProof.Rows
def Itd (lo:Int) (n:Nat):It:=⟨fun i _=>i < n,fun i H x H'=>H' = H /\ x = .int (lo - i),fun i _=>n <= i⟩
theorem turn_rangeD {P:Program} {w:World} {K:PySem.W.Frag} {tg:Expr} (it:Addr) (lo:Int) (n:Nat):Turn P w K tg (Itd lo n) [it] it (fun i h=>IsRangeIter h it (lo + (i:Nat) * (-1)) ((n:Int) - (i:Nat)) (-1)) where
 mem:=by simp
 obj:=fun i h st b hb=>by
  have e:b = it:=by simpa using hb
  subst e
  exact ⟨_,st,fun v z=>by
   have z':Data.fields _ = Data.cell v:=z
   cases z'⟩
 keep:=fun i h h' st k=>k it (by simp) _ st
 item:=by
  intro X hP hw hK hc i pins s σ H E I hf st hg
  subst hP hw hK
  obtain ⟨f0,f1,f2,f3,f4,f5⟩:=hf it (by simp)
  have W:=Walks.range (prog:=X.prog) (w:=X.w) (I.ok.hd hc) it lo (-1) n
  refine W.item i s _ _ hg st fun v h' tk hv st' kk=>?_
  obtain ⟨t,rfl⟩:=hv
  have I1:Inv X pins σ H { s with heap:=h',toks:=tk }:=I.turned (fun b o hb e=>kk b o (by simpa using hb) e) f0 f1 f3 f4 f5
  refine ⟨_,rfl,go_of (s:={ s with heap:=h',toks:=tk }) (n:="range_iterator") st' rfl rfl (by decide) ⟨.int (lo - i),H,I1,⟨t,?_⟩,⟨rfl,rfl⟩,st',fun b hb=>(hf b hb).1⟩⟩
  congr 1
  omega
 done:=by
  intro X hP hw hK hc i pins s σ H E I hf st hg
  subst hP hw hK
  obtain ⟨f0,f1,f2,f3,f4,f5⟩:=hf it (by simp)
  exact wpAny_pyNext_range_end (I.ok.hd hc) st (by have:n <= i:=hg; omega) fun h' eb=>⟨rfl,I.turned (t':=s.toks) (fun b o hb e=>eb b o hb e) f0 f1 f3 f4 f5⟩
 self:=fun _ _ _ _ _ st h=>wpAny_pyIter_rangeiter st h
theorem rangeSize_down (a b:Int):Builtin.Range.rangeSize a b (-1) = if a > b then a - b else 0:=by
 unfold Builtin.Range.rangeSize
 rw [if_neg (by decide)]
 by_cases h:a > b
 ·rw [if_pos h,if_pos h]; simp
 ·rw [if_neg h,if_neg h]
theorem small_down {a b:Int} (ha:-(2 ^ 62) <= a) (ha':a < 2 ^ 62) (hb:-(2 ^ 62) <= b) (hb':b < 2 ^ 62):Builtin.Range.small a b (-1) = true:=by
 unfold Builtin.Range.small
 rw [rangeSize_down]
 simp only [Builtin.Range.rangeFitsLong,Bool.and_eq_true,Bool.or_eq_true,decide_eq_true_eq,beq_iff_eq,show ¬ ((-1:Int) > 0) by decide,if_false]
 split <;> omega
section
variable {X:Cx} {tg:Expr}
def iRngD (ta:TA):TI:=fun σ H R=>ta σ H fun vs H1=>∃ i j:Int,vs = [.int i,.int j,.int (-1)] /\ (-(2 ^ 28) <= i /\ i < 2 ^ 28 /\ -(2 ^ 28) <= j /\ j < 2 ^ 28) /\ R (Itd i (i - j).toNat) H1
theorem pi_rangeD {a b c:Expr} {ta:TA} {p pos:Pos} (hg:Gl X "range") (hm:X.mg "range" = none) (ha:PA X [a,b,c] ta) (hs:starEach [a,b,c] X.env = [(false,eval a X.env),(false,eval b X.env),(false,eval c X.env)]:=by rfl)
  (hs2:starEach [b,c] X.env = [(false,eval b X.env),(false,eval c X.env)]:=by rfl):PI X tg (.Call (.Name "range" p) [a,b,c] [] pos) (iRngD ta):=by
 intro pins s σ H R I h
 refine Call_ (jM I hg hm boot_range (PyProof.Rows.callWith_type1 (thn (ha pos pins s σ H _ I h) fun us s1 ⟨vs,H1,I1,r1,q1⟩=>?_) (by rw [hs,hs2]) (by rw [hs2]; rfl)))
 obtain ⟨i,j,e,⟨q1,q2,q3,q4⟩,q⟩:=q1
 subst e
 cases r1 with
 | cons r rr =>
  cases rr with
  | cons r' rr =>
   cases rr with
   | cons r'' rr =>
    cases rr
    obtain ⟨t,rfl⟩:=r
    obtain ⟨u,rfl⟩:=r'
    obtain ⟨v,rfl⟩:=r''
    refine call_range_3 (by decide) ?_ (Or.inl (PyProof.noPylong_small (by decide)))
    refine wpAny_pyIter_range (IsRange.new ..) (small_down (by omega) (by omega) (by omega) (by omega)) ?_
    have I2:Inv X pins σ H1 { s1 with heap:=s1.heap.push { cls:=.type "range",data:=.fields #[.int i t,.int j u,.int (-1) v] },toks:=s1.toks }:=I1.kept fun b o e=>Heap.get?_push_of_some _ e
    refine ⟨(s1.heap.push { cls:=.type "range",data:=.fields #[.int i t,.int j u,.int (-1) v] }).objs.size,[(s1.heap.push { cls:=.type "range",data:=.fields #[.int i t,.int j u,.int (-1) v] }).objs.size],_,_,H1,rfl,
     I2.kept (t':=s1.toks) fun b o e=>Heap.get?_push_of_some _ e,turn_rangeD _ i (i - j).toNat,?_,fun b hb=>?_,q⟩
    ·have e1:i + ((0:Nat):Int) * (-1) = i:=by simp
     have e2:(((i - j).toNat:Nat):Int) - ((0:Nat):Int) = Builtin.Range.rangeSize i j (-1):=by rw [rangeSize_down]; split <;> omega
     show IsRangeIter _ _ (i + ((0:Nat):Int) * (-1)) ((((i - j).toNat:Nat):Int) - ((0:Nat):Int)) (-1)
     rw [e1,e2]
     exact Heap.get?_push_size _ rfl
    ·have e:b = (s1.heap.push { cls:=.type "range",data:=.fields #[.int i t,.int j u,.int (-1) v] }).objs.size:=by simpa using hb
     subst e
     exact I2.fpOk (Nat.le_refl _) (I2.hok.fresh (Nat.le_refl _))
theorem for_rangeD {lo:Int} {n:Nat} {g:TG} {tb:TS} {D:Ends} {σ:St} {H:Hp} (Pv:Nat -> St -> Hp -> Prop) (h0:Pv 0 σ H)
  (hs:∀ i σ H,i < n -> Pv i σ H -> g (.int (lo - i)) σ H fun σ2 H2=>tb { D with nx:=Pv (i + 1),ct:=Pv (i + 1),bk:=D.nx } σ2 H2) (hd:∀ σ H,Pv n σ H -> D.nx σ H):ForW (Itd lo n) g tb D σ H :=
 for_n n Pv h0 (fun _ _ _=>Nat.le_refl _) (fun _ _ _ hi _=>hi) (fun i σ H hi p v H' y=>by
  obtain ⟨e,ev⟩:=y
  subst e ev
  exact hs i σ _ hi p) hd
end
end L2
namespace AxT
open PySem PySem.Spec PyProof.Rows PySem.SeqAt
open AutoSeq1 (wpAny_loadPart')
end AxT
namespace L2
open PySem PySem.Spec PyProof.Rows
section
variable {X:Cx}
def jD (K:PySem.W.Frag):R2:=fun x y H Q=>∃ a b xs ys,x = .ref a /\ y = .ref b /\ SqT K H a xs /\ SqT K H b ys /\ xs.length + ys.length <= sizeLine /\ ∀ p H',Same H H' -> SqT K H' p (xs ++ ys) -> Q (.ref p) H'
theorem op_catT2:OpR X (binaryOp .Add) (jD X.K):=by
 intro pins s σ H x y v u Q I rx ry h
 obtain ⟨a,b,xs,ys,rfl,rfl,ha,hb,hz,q⟩:=h
 by_cases hx:xs = []
 ·subst hx
  cases rx
  cases ry
  obtain ⟨its,r1,p1,_⟩:=I.tuple ha
  obtain ⟨its2,r2,p2,_⟩:=I.tuple hb
  have hi:its = []:=r1.nil_iff.mpr rfl
  subst hi
  obtain ⟨⟨cls,dd,data,sl⟩,ho,hc,n,hd⟩:=id p1
  obtain ⟨⟨cls2,dd2,data2,sl2⟩,ho2,hc2,n2,hd2⟩:=id p2
  simp only at hc hd hc2 hd2
  subst hc hd hc2 hd2
  exact concat_meets ⟨_,ho,rfl⟩ ⟨_,ho2,rfl⟩ noFill_tuple_add seq_tuple_add PySem.F.slot_tuple_add PySem.F.entry_tuple_add (PySem.F.args_tuple_add_2 _ _)
   (tuple_addW0 a b ([]:List Value).toArray its2.toArray n n2 dd dd2 sl sl2 (by simp)) ⟨ho,ho2,⟨.ref b,H,I,rfl,q b H (Same.refl _) hb⟩⟩
 ·exact op_catT pins s σ H _ _ v u Q I rx ry ⟨a,b,xs,ys,rfl,rfl,ha,hb,hx,hz,fun e=>q a H (Same.refl _) (by rw [e,List.append_nil]; exact ha),fun _ p np=>q p _ (An.same_upd np) (SqT.of upd_same)⟩
end
end L2
namespace AxR
open PySem PySem.Spec PyProof.Rows
open AutoSeq1 (wpAny_loadPart')
theorem owner_rev:Manifest.owners.lookup (String.ofList ['d','e','s','r','e','v','e','r'].reverse) = some Manifest.sig_reversed:=by kernel_rfl
theorem slot_next:Slot "reversed" "__next__" "reversed.__next__" :=
 .of (owner:="reversed") (n:="__next__") (by rw [typeLookup_type,builtinLookup_eq_fast]; kernel_rfl) (by decide +kernel) (by decide +kernel) (by decide +kernel)
  (by first | exact .inl (by decide +kernel) | exact .inr (by decide +kernel)) (by rw [isSubtype_type]; kernel_rfl)
theorem entry_next:entryFor table "reversed.__next__" = some Builtin.«reversed.__next__»:=entryFor_of_tree (by kernel_rfl)
theorem args_next (a:Value):argsOk "reversed.__next__" ⟨[a],[]⟩:=by
 unfold argsOk; rw [signature?_of (id:="reversed.__next__") (n:=['_','_','t','x','e','n','_','_']) (o:=['d','e','s','r','e','v','e','r']) (by kernel_rfl) owner_rev]; kernel_rfl
theorem slot_iter:Slot "reversed" "__iter__" "reversed.__iter__" :=
 .of (owner:="reversed") (n:="__iter__") (by rw [typeLookup_type,builtinLookup_eq_fast]; kernel_rfl) (by decide +kernel) (by decide +kernel) (by decide +kernel)
  (by first | exact .inl (by decide +kernel) | exact .inr (by decide +kernel)) (by rw [isSubtype_type]; kernel_rfl)
theorem args_iter (a:Value):argsOk "reversed.__iter__" ⟨[a],[]⟩:=by
 unfold argsOk; rw [signature?_of (id:="reversed.__iter__") (n:=['_','_','r','e','t','i','_','_']) (o:=['d','e','s','r','e','v','e','r']) (by kernel_rfl) owner_rev]; kernel_rfl
theorem qU:entryFor table "reversed.__iter__" = some Builtin.«dict_keyiterator.__iter__» :=
 entryFor_alias (id':="dict_keyiterator.__iter__") (by kernel_rfl) (by first | rfl | decide +kernel | (unfold String.splitOn; simp +decide [String.splitOnAux])) (by decide +kernel) (by kernel_rfl)
theorem slot_init:Slot "reversed" "__init__" "object.__init__" :=
 .of (owner:="object") (n:="__init__") (by rw [typeLookup_type,builtinLookup_eq_fast]; kernel_rfl) (by decide +kernel) (by decide +kernel) (by decide +kernel)
  (by first | exact .inl (by decide +kernel) | exact .inr (by decide +kernel)) (by rw [isSubtype_type]; kernel_rfl)
theorem called:TypeCalled "reversed" "reversed.__new__" "object.__init__":=⟨by decide +kernel,F.create_reversed,⟨_,_,F.mro_reversed⟩,F.made_reversed,F.plain_reversed_new,F.sub_reversed_self,slot_init⟩
theorem no_reversed:typeLookup (.type "tuple") "__reversed__" = pure none:=by rw [typeLookup_type,builtinLookup_eq_fast]; kernel_rfl
def revO (l:Addr) (i:Int):Obj:={ cls:=.type "reversed",data:=.fields #[.ref l,rawInt i] }
def IsRev (h:Heap) (a l:Addr) (i:Int):Prop:=h.get? a = some (revO l i)
theorem sub_tuple_dict:isSubtype (.type "tuple") (.type "dict") = pure false:=by rw [isSubtype_type]; kernel_rfl
theorem meets_new (l:Addr) (items:Array Value) (hz:items.size <= sizeLine) :
  Meets (Builtin.«reversed.__new__» ⟨[.type "reversed",.ref l],[]⟩) (fun _ R s=>IsTup s.heap l items /\ ∀ tk,R (.ok (.ret (.ref s.heap.objs.size))) { s with heap:=s.heap.push (revO l ((items.size:Int) - 1)),toks:=tk }) :=
 .of_wp fun prog w A R s h=>by
  obtain ⟨ht,h⟩:=h
  unfold Builtin.«reversed.__new__»
  refine wpAny_bind (wpAny_of_eq (newClass_reversed _) ?_)
  try dsimp only
  refine wpAny_bind (wpAny_of_eq (a:=()) (by first | rfl | kernel_rfl) ?_)
  refine wpAny_bind (wpAny_of_eq (a:=()) (by first | rfl | kernel_rfl) ?_)
  try dsimp only
  refine wpAny_bind (wpAny_specialOf ht.typeIs no_reversed ?_)
  try dsimp only
  have hT:s.TypeIs (.ref l) "tuple":=ht.typeIs
  have f1:=sub_tuple_dict
  have f2:=PyProof.Rows.slot_tuple_getitem.lookup
  refine wpAny_bind (wpAny_mono (Q:=fun (b:Bool) s'=>b = true /\ s' = s) (E:=fun _ _=>False) ?_ (fun b s' hb=>?_) (fun _ _ z=>z.elim))
  ·wp_walk
   exact ⟨rfl,rfl⟩
  ·obtain ⟨rfl,rfl⟩:=hb
   rw [if_neg (by decide)]
   have hn:=L2.line63
   refine wpAny_bind (len_tuple ht (by omega) ?_)
   refine wpAny_bind (wpAny_of_eq (a:=some ((items.size:Nat):Int)) rfl ?_)
   try dsimp only
   unfold Builtin.SmallTypes.newRecord
   refine wpAny_bind (wpAny_newObj_type ?_)
   exact wpAny_pure ⟨_,rfl,h _⟩
section
variable {prog:Program} {w:World} {A:Around} {E:Value -> Shared -> Prop} {s:Shared}
theorem call_rev {l:Addr} {items:Array Value} (hz:items.size <= sizeLine) {Q:Value -> Shared -> Prop} (ht:IsTup s.heap l items) (h:∀ tk,Q (.ref s.heap.objs.size) { s with heap:=s.heap.push (revO l ((items.size:Int) - 1)),toks:=tk }) :
  wpAny (model prog w) A (call (.type "reversed") [.ref l]) Q E s :=
 callType_new called (by decide) (F.typeCall_reversed_1 _) (F.newCall_reversed_1 _) (fun obj=>F.args_object_init_2 obj _) F.entry_reversed_new (meets_new l items hz) ⟨ht,fun tk=>⟨⟨_,Heap.get?_push_size _ rfl,rfl⟩,h tk⟩⟩
theorem typeIs {a l:Addr} {i:Int} (x:IsRev s.heap a l i):s.TypeIs (.ref a) "reversed":=⟨_,x,rfl⟩
theorem next_item {it l:Addr} {i:Nat} {items:Array Value} {x:Value} {Q:Option Value -> Shared -> Prop} (hit:IsRev s.heap it l (i:Int)) (ht:IsTup s.heap l items) (hne:l ≠ it) (hz:items.size <= sizeLine) (hx:items[i]? = some x)
  (hQ:∀ h' tk,IsRev h' it l ((i:Int) - 1) -> Heap.SameBut it s.heap h' -> Q (some x) { s with heap:=h',toks:=tk }):wpAny (model prog w) A (pyNext (.ref it)) Q E s:=by
 have ho:s.heap.get? it = some (revO l i):=hit
 have hi:i < items.size:=(Array.getElem?_eq_some_iff.mp hx).1
 unfold pyNext
 refine wpAny_bind (wpAny_attempt (wpAny_callSpecial?_slot (name:=Str.ofString "__next__") (typeIs hit) slot_next
  (wpAny_call_entry slot_next (typeIs hit) entry_next ?_ (args_next _))))
 unfold Builtin.«reversed.__next__»
 refine wpAny_bind (wpAny_of_eq (a:=(Value.ref it,[])) rfl ?_)
 try dsimp only
 refine wpAny_bind (wpAny_field ho (x:=.ref l) rfl rfl ?_)
 refine wpAny_bind (wpAny_field ho (x:=rawInt (i:Int)) rfl rfl ?_)
 show wpAny _ _ (if (i:Int) < 0 then _ else _) _ _ s
 rw [if_neg (by omega)]
 refine wpAny_bind (wpAny_specialOf ht.typeIs PyProof.Rows.slot_tuple_getitem.lookup ?_)
 rw [if_neg (by decide)]
 have hn:=L2.line63
 refine wpAny_bind (wpAny_mkInt ?_)
 have ht1:IsTup ({ s with toks:=s.toks + 1 }:Shared).heap l items:=ht
 refine wpAny_bind (wpAny_attempt (getItem_tuple (j:=i) ht1 (by omega) (by omega) (by unfold seqIndex?; simp; omega) hx ?_))
 try dsimp only
 refine wpAny_bind (wpAny_field ho (x:=rawInt (i:Int)) rfl rfl ?_)
 show wpAny _ _ (setField (.ref it) 1 (rawInt ((i:Int) - 1)) >>= _) _ _ _
 refine wpAny_bind (wpAny_setField ho rfl (by simp) ?_)
 refine wpAny_pure ⟨x,rfl,wpAny_pure (hQ _ _ ?_ (Heap.SameBut.update ..))⟩
 have e:=Heap.get?_update_self (Obj.mapFields (·.setIfInBounds 1 (rawInt ((i:Int) - 1)))) ho rfl
 exact e
theorem next_end {it l:Addr} {Q:Option Value -> Shared -> Prop} (hh:A.handled = none) (hit:IsRev s.heap it l (-1))
  (hQ:∀ h',Heap.ExtBut it s.heap h' -> Q none { s with heap:=h' }):wpAny (model prog w) A (pyNext (.ref it)) Q E s:=by
 have ho:s.heap.get? it = some (revO l (-1)):=hit
 unfold pyNext
 refine wpAny_bind (wpAny_attempt (wpAny_callSpecial?_slot (name:=Str.ofString "__next__") (typeIs hit) slot_next
  (wpAny_call_entry slot_next (typeIs hit) entry_next ?_ (args_next _))))
 unfold Builtin.«reversed.__next__»
 refine wpAny_bind (wpAny_of_eq (a:=(Value.ref it,[])) rfl ?_)
 try dsimp only
 refine wpAny_bind (wpAny_field ho (x:=.ref l) rfl rfl ?_)
 refine wpAny_bind (wpAny_field ho (x:=rawInt (-1)) rfl rfl ?_)
 show wpAny _ _ (if (-1:Int) < 0 then _ else _) _ _ s
 rw [if_pos (by decide)]
 refine wpAny_bind (wpAny_rule ?_)
 refine wpAny_bind ?_
 show wpAny _ _ (setField (.ref it) 1 (rawInt (-1)) >>= fun _=>setField (.ref it) 0 .none) _ _ s
 refine wpAny_bind (wpAny_setField ho rfl (by simp) ?_)
 have ho1:(s.heap.update it (Obj.mapFields (·.setIfInBounds 1 (rawInt (-1))))).get? it = some (revO l (-1)):=Heap.get?_update_self (Obj.mapFields (·.setIfInBounds 1 (rawInt (-1)))) ho rfl
 refine wpAny_setField ho1 rfl (by simp) ?_
 refine wpAny_bind ?_
 unfold Builtin.SmallTypes.stopIteration
 refine wpAny_bind ?_
 simp only [newExc,newTuple]
 refine wpAny_bind (wpAny_newObj_type ?_ (by size_fits))
 refine wpAny_bind (m:=firstArgMember _ _) (wpAny_of_eq (a:=Value.none) (by first | rfl | (simp only [firstArgMember]; rfl)) ?_)
 refine wpAny_newObj_type ?_ (by size_fits)
 simp only [raiseNew]
 refine wpAny_bind (wpAny_handled ?_)
 first | rw [show A.in1.handled = none from hh] | rw [hh]
 refine wpAny_bind (wpAny_pure (wpAny_throw ?_))
 refine wpAny_bind (wpAny_isInstance (T:="StopIteration") (b:=true) ⟨_,Heap.get?_push_size _ rfl,rfl⟩ isSubtype_stop ?_)
 refine wpAny_pure (hQ _ ?_)
 refine ((Heap.ExtBut.push ?_ _).push _)
 exact fun b o hb e=>by rw [Heap.get?_update_other _ _ (Ne.symm hb),Heap.get?_update_other _ _ (Ne.symm hb)]; exact e
theorem iter_self {it l:Addr} {i:Int} {Q:Value -> Shared -> Prop} (hit:IsRev s.heap it l i) (h:Q (.ref it) s):wpAny (model prog w) A (pyIter (.ref it)) Q E s:=by
 refine wpAny_pyIter_slot (typeIs hit) slot_iter (wpAny_call_entry slot_iter (typeIs hit) qU ?_ (args_iter _))
 show wpAny _ _ (ret (.ref it)) _ _ s
 exact wpAny_pure ⟨_,rfl,"reversed",_,typeIs hit,slot_next.lookup,h⟩
end
end AxR
namespace L2
open PySem PySem.Spec PyProof.Rows
def ItRev (K:PySem.W.Frag) (a:Addr) (n:Nat):It :=
 ⟨fun i H=>∃ xs,SqT K H a xs /\ xs.length = n /\ i < n,fun i H v H'=>H' = H /\ ∀ xs,SqT K H a xs -> xs[n - 1 - i]? = some v,fun i _=>i = n⟩
theorem turn_rev {P:Program} {w:World} {K:PySem.W.Frag} {tg:Expr} (a it:Addr) (n:Nat) :
  Turn P w K tg (ItRev K a n) [it] it (fun i h=>i <= n /\ AxR.IsRev h it a ((n:Int) - 1 - (i:Int))) where
 mem:=by simp
 obj:=fun i h st b hb=>by
  have e:b = it:=by simpa using hb
  subst e
  exact ⟨_,st.2,fun v z=>by cases z⟩
 keep:=fun i h h' st k=>⟨st.1,k it (by simp) _ st.2⟩
 item:=by
  intro X hP hw hK hc i pins s σ H E I hf st hg
  subst hP hw hK
  obtain ⟨xs,hq,hl,hi⟩:=hg
  obtain ⟨its,rv,p,hz⟩:=I.tuple hq
  have hx:xs[n - 1 - i]? = some (xs[n - 1 - i]'(by omega)):=List.getElem?_eq_getElem (by omega)
  obtain ⟨u,hu,ru⟩:=rv.get hx
  obtain ⟨f0,f1,f2,f3,f4,f5⟩:=hf it (by simp)
  have st1:=st.2
  have e:(n:Int) - 1 - (i:Int) = ((n - 1 - i:Nat):Int):=by omega
  rw [e] at st1
  have hne:a ≠ it:=fun z=>by
   obtain ⟨o,ho,hcl,_⟩:=p
   have st2:s.heap.get? it = some _:=st1
   rw [z,st2] at ho
   cases ho
   have hcl:Value.type "reversed" = Value.type "tuple":=hcl
   exact absurd hcl (by decide)
  refine AxR.next_item st1 p hne (by rw [List.size_toArray,← rv.length]; exact hz) (x:=u) (by simpa using hu) fun h' tk st' sb=>?_
  have I1:Inv X pins σ H { s with heap:=h',toks:=tk }:=I.turned (fun b o hb e=>(sb.2 b hb).trans e) f0 f1 f3 f4 f5
  have e2:((n - 1 - i:Nat):Int) - 1 = (n:Int) - 1 - ((i + 1:Nat):Int):=by omega
  rw [e2] at st'
  exact ⟨u,rfl,go_of (s:={ s with heap:=h',toks:=tk }) (n:="reversed") st' rfl rfl (by decide) ⟨_,H,I1,ru,⟨rfl,fun ys hy=>by rw [I.tuple_inj hy hq]; exact hx⟩,⟨hi,st'⟩,fun b hb=>(hf b hb).1⟩⟩
 done:=by
  intro X hP hw hK hc i pins s σ H E I hf st hg
  subst hP hw hK
  have hg:i = n:=hg
  subst hg
  obtain ⟨f0,f1,f2,f3,f4,f5⟩:=hf it (by simp)
  have st1:=st.2
  have e:(i:Int) - 1 - (i:Int) = -1:=by omega
  rw [e] at st1
  exact AxR.next_end (I.ok.hd hc) st1 fun h' eb=>⟨rfl,I.turned (t':=s.toks) (fun b o hb e=>eb b o hb e) f0 f1 f3 f4 f5⟩
 self:=fun _ _ _ _ _ st h=>AxR.iter_self st.2 h
section
variable {X:Cx} {tg:Expr}
def iRev (K:PySem.W.Frag) (ta:TA):TI:=fun σ H R=>ta σ H fun vs H1=>∃ a xs,vs = [.ref a] /\ SqT K H1 a xs /\ R (ItRev K a xs.length) H1
theorem boot_reversed:bootBuiltins "reversed" = some (.type "reversed"):=by decide +kernel
theorem pi_rev {a:Expr} {ta:TA} {p pos:Pos} (hg:Gl X "reversed") (hm:X.mg "reversed" = none) (ha:PA X [a] ta) (hs:starEach [a] X.env = [(false,eval a X.env)]:=by rfl):PI X tg (.Call (.Name "reversed" p) [a] [] pos) (iRev X.K ta):=by
 intro pins s σ H R I h
 refine Call_ (jM I hg hm boot_reversed (PyProof.Rows.callWith_type1 (thn (ha pos pins s σ H _ I h) fun us s1 ⟨vs,H1,I1,r1,q1⟩=>?_) hs rfl))
 obtain ⟨a',xs,e,hq,q⟩:=q1
 subst e
 obtain ⟨u,rfl,ru⟩:=vals1 r1
 cases ru
 obtain ⟨its,rv,p',hz⟩:=I1.tuple hq
 refine AxR.call_rev (by rw [List.size_toArray,← rv.length]; exact hz) p' fun tk=>AxR.iter_self (l:=a') (i:=((its.toArray.size:Nat):Int) - 1) (Heap.get?_push_size _ rfl) ?_
 have hl:its.toArray.size = xs.length:=by rw [List.size_toArray]; exact rv.length.symm
 refine ⟨s1.heap.objs.size,[s1.heap.objs.size],_,_,H1,rfl,I1.kept (t':=tk) fun b o e=>Heap.get?_push_of_some _ e,turn_rev a' _ xs.length,⟨Nat.zero_le _,?_⟩,fun b hb=>?_,q⟩
 ·rw [hl]
  have e:(xs.length:Int) - 1 - ((0:Nat):Int) = (xs.length:Int) - 1:=by omega
  rw [e]
  exact Heap.get?_push_size _ rfl
 ·have e:b = s1.heap.objs.size:=by simpa using hb
  subst e
  exact I1.fpOk (Nat.le_refl _) (I1.hok.fresh (Nat.le_refl _))
theorem for_rev {K:PySem.W.Frag} {a:Addr} {xs:List V} {g:TG} {tb:TS} {D:Ends} {σ:St} {H:Hp} (Pv:Nat -> St -> Hp -> Prop) (h0:Pv 0 σ H) (hl:∀ i σ H,i <= xs.length -> Pv i σ H -> SqT K H a xs)
  (hs:∀ i x σ H,i < xs.length -> xs[xs.length - 1 - i]? = some x -> Pv i σ H -> g x σ H fun σ2 H2=>tb { D with nx:=Pv (i + 1),ct:=Pv (i + 1),bk:=D.nx } σ2 H2) (hd:∀ σ H,Pv xs.length σ H -> D.nx σ H):ForW (ItRev K a xs.length) g tb D σ H :=
 for_n xs.length Pv h0 (fun _ _ _=>rfl) (fun i σ H hi p=>⟨xs,hl i σ H (Nat.le_of_lt hi) p,rfl,hi⟩) (fun i σ H hi p v H' y=>by
  obtain ⟨e,hx⟩:=y
  subst e
  exact hs i v σ _ hi (hx xs (hl i σ _ (Nat.le_of_lt hi) p)) p) hd
end
end L2
namespace L2
open PySem PySem.Spec PyProof.Rows
section
variable {X:Cx} {K:PySem.W.Frag} {a b c d:Expr} {ta tb tc td:TE} {pos:Pos}
def rInD (K:PySem.W.Frag) (tup neg:Bool):R2:=fun x y H Q=>∃ (d:PyData) (xs:List PyData),Dt K H d x /\ Dt K H (if tup then .tuple xs else .list xs) y /\ PyData.canLayAll0 xs = true /\ d.canLay0 = true /\ d.depth <= 60 /\ Q (.bl (neg != xs.any fun y=>PyData.eqv y d)) H
theorem op_inD (hu:X.A.units + 64 < cLine) (hK:X.K = K:=by rfl):OpR X (compareOp .In) (rInD K false false):=by
 subst hK
 intro pins s σ H x y v u Q I rx ry h
 obtain ⟨d,xs,h1,h2,h3,h4,h5,q⟩:=h
 obtain ⟨as,r1⟩:=Dt.reads I d x v h1 rx
 obtain ⟨bs,r2⟩:=Dt.reads I _ y u h2 ry
 have hm:min (PyData.depthAll xs) d.depth <= d.depth:=Nat.min_le_right _ _
 exact SeqAt.in_list_reads r2 r1 h3 h4 (by omega) ⟨.bl _,H,I,rfl,by simpa using q⟩
end
section
variable {X:Cx} {tg:Expr}
end
end L2
namespace L2
open PySem PySem.Spec PyProof.Rows
section
variable {X:Cx} {pins:List (Addr × Obj)} {σ:St} {H:Hp} {s:Shared}
end
theorem meets_extendT (l b:Addr) (items:Array Value) (n:Nat) (items2:Array Value) (hlong:¬ (!items.isEmpty && Builtin.List.listTooLong (items.size + items2.size)) = true) (h1:items.size <= sizeLine) (h2:items.size + items2.size <= sizeLine + 1) :
  Meets (Builtin.«list.extend» ⟨[.ref l,.ref b],[]⟩) (fun _ R s=>s.heap.get? l = some { cls:=.type "list",data:=.seq items n } /\ IsTup s.heap b items2 /\ R (.ok (.ret .none)) { s with heap:=s.heap.update l (Obj.mapSeq fun x=>x ++ items2) }) :=
 .of_wp fun prog w A R s h=>by
  obtain ⟨hl,ht,h⟩:=h
  have hT:s.TypeIs (.ref b) "tuple":=ht.typeIs
  unfold Builtin.«list.extend» Builtin.List.listExtendWith
  refine wpAny_bind (wpAny_of_eq (a:=(.ref l,.ref b)) rfl ?_)
  dsimp only
  refine wpAny_bind (wpAny_typeOf hT ?_)
  rw [if_pos (by rw [show (Value.type "tuple" == Value.type "tuple") = true by decide +kernel,Bool.or_true])]
  obtain ⟨o,ho,hc,m,hd⟩:=ht
  refine wpAny_bind (wpAny_listItems ho hd ?_)
  refine wpAny_bind (wpAny_listItems hl rfl ?_)
  rw [if_neg hlong]
  refine wpAny_bind (listUpdate_at hl rfl ?_ h1 (by rw [Array.size_append]; exact h2))
  exact wpAny_pure ⟨_,rfl,h⟩
section
variable {X:Cx}
def rExtendT (K:PySem.W.Frag):V -> List V -> Hp -> VK -> Prop:=fun x vs H Q=>∃ l b xs zs,x = .ref l /\ vs = [.ref b] /\ H l = some (.lst xs) /\ SqT K H b zs /\ xs.length + zs.length <= sizeLine /\ Q .non (upd H l (.lst (xs ++ zs)))
theorem x5:MtM X "list.extend" (rExtendT X.K):=by
 intro pins s σ H x vs v us Q I rx rv h
 obtain ⟨l,b,xs,zs,rfl,rfl,hH,hB,hz,q⟩:=h
 cases rx
 obtain ⟨u,rfl,ru⟩:=rv.one
 cases ru
 obtain ⟨z,its,n,r,hl,e⟩:=I.lstM hH
 obtain ⟨its2,r2,p2,hz2⟩:=I.tuple hB
 have hl2:=r2.length
 have hsz:its.toArray.size + its2.toArray.size <= sizeLine:=by rw [List.size_toArray,List.size_toArray]; omega
 have hlong:¬ (!its.toArray.isEmpty && Builtin.List.listTooLong (its.toArray.size + its2.toArray.size)) = true:=by
  rw [notLongL hsz,Bool.and_false]
  exact Bool.false_ne_true
 refine call_meets F.slot_list_extend ⟨_,e,rfl⟩ F.entry_list_extend (F.args_list_extend_2 _ _)
  (meets_extendT l b its.toArray n its2.toArray hlong (by rw [List.size_toArray]; omega) (by omega)) ⟨e,p2,?_⟩
 refine ⟨.non,_,I.lset (its':=its ++ its2) hH e (by simp) (r.append r2) ?_,rfl,q⟩
 rw [List.length_append]
 omega
end
end L2
namespace An12
open PySem L2 An An10
def hide (H:Hp) (o:Addr):Hp:=fun b=>if b = o then none else H b
theorem hide_ne {H:Hp} {o b:Addr} (h:b ≠ o):hide H o b = H b:=if_neg h
theorem hide_same (H:Hp) (o:Addr):Same (hide H o) H:=fun b u e=>by
 by_cases h:b = o
 ·rw [h] at e
  have:hide H o o = none:=if_pos rfl
  rw [this] at e; cases e
 ·rwa [hide_ne h] at e
theorem same_hide {H H':Hp} (o:Addr) (e:Same H H'):Same (hide H o) (hide H' o):=fun b u q=>by
 by_cases h:b = o
 ·rw [h] at q
  have:hide H o o = none:=if_pos rfl
  rw [this] at q; cases q
 ·rw [hide_ne h] at q ⊢
  exact e b u q
theorem hide_upd {H:Hp} {o:Addr} {x:HO}:hide (upd H o x) o = hide H o:=by
 funext b
 by_cases h:b = o
 ·rw [h]
  exact (if_pos rfl).trans (if_pos rfl).symm
 ·rw [hide_ne h,hide_ne h,zF h]
theorem tup_hide {K:PySem.W.Frag} {H:Hp} {o a:Addr} {zs ys:List V} (h:H o = some (.lst zs)) (t:SqT K H a ys):SqT K (hide H o) a ys:=by
 rcases t with (t | ⟨ob,t⟩) | t
 ·refine .inl (.inl ?_)
  have t:H a = some (.tup ys):=t
  have:a ≠ o:=fun z=>by rw [z,h] at t; cases t
  exact (hide_ne this).trans t
 ·refine .inl (.inr ⟨ob,?_⟩)
  have t:H a = some (.frz ob (.tup ys)):=t
  have:a ≠ o:=fun z=>by rw [z,h] at t; cases t
  exact (hide_ne this).trans t
 ·exact .inr t
theorem cut_any {K:PySem.W.Frag} {H H':Hp} {a:Addr} {xs:List V} {lo hi:Option Int} {v:V} (hs:SqT K H a xs) (h:(v = .ref a /\ H' = H /\ cutV xs lo hi = xs) \/ (∃ p,H p = none /\ v = .ref p /\ H' = upd H p (.tup (cutV xs lo hi)))) :
  ∃ p:Addr,v = .ref p /\ Same H H' /\ SqT K H' p (cutV xs lo hi):=by
 rcases h with ⟨rfl,rfl,e2⟩ | ⟨p,np,rfl,rfl⟩
 ·exact ⟨a,rfl,Same.refl _,by rw [e2]; exact hs⟩
 ·exact ⟨p,rfl,same_upd np,SqT.of upd_same⟩
theorem cut_mid {ys:List Str} {f k:Nat} (hf:f <= ys.length) (hk:k <= ys.length):cutV (ys.map V.str) (some (f:Int)) (some (k:Int)) = ((ys.drop f).take (k - f)).map V.str:=by
 unfold cutV
 rw [HT.sIx_nat,HT.sIx_nat,List.length_map,List.map_take,List.map_drop,Nat.min_eq_left hf,Nat.min_eq_left hk]
def spanT (ys:List Str):Nat -> Nat -> List (Nat × Nat) -> List Row
 | _,_,[]=>[]
 | lo,fi,p :: ps=>(if lo < p.1 \/ fi < p.2 then [spanR lo p.1 ((ys.drop fi).take (p.2 - fi))] else []) ++ spanT ys (p.1 + 1) (p.2 + 1) ps
theorem spanT_all {xs ys:List Str}:∀ {ps:List (Nat × Nat)} {lo fi:Nat},spanT ys lo fi (ps ++ [(xs.length,ys.length)]) = spanL xs ys lo fi ps
 | [],lo,fi=>by
  show (if lo < xs.length \/ fi < ys.length then [spanR lo xs.length ((ys.drop fi).take (ys.length - fi))] else []) ++ [] = _
  rw [List.append_nil,List.take_of_length_le (by rw [List.length_drop]; omega)]
  rfl
 | p :: ps,lo,fi=>by
  show _ ++ spanT ys (p.1 + 1) (p.2 + 1) (ps ++ [(xs.length,ys.length)]) = _
  rw [spanT_all]
  rfl
theorem rise_le {xs ys:List Str}:∀ {ps:List (Nat × Nat)} {i k:Nat},Rise xs ys i k ps -> ∀ p ∈ ps,p.1 < xs.length /\ p.2 < ys.length
 | [],_,_,_,_,h=>by cases h
 | q :: ps,i,k,⟨_,_,⟨x,h1,h2⟩,h4⟩,p,h=>by
  rcases List.mem_cons.mp h with rfl | h
  ·exact ⟨(List.getElem?_eq_some_iff.mp h1).1,(List.getElem?_eq_some_iff.mp h2).1⟩
  ·exact rise_le h4 p h
theorem lineB_ok {x:Str} (h:lineB x = true):PyData.strOk x = true:=by
 unfold lineB at h
 rw [Bool.and_eq_true] at h
 rw [strOk_iff]
 intro c hc
 have:=List.all_eq_true.mp h.2 c hc
 unfold signB at this
 simp only [Bool.and_eq_true,decide_eq_true_eq] at this
 omega
theorem rows_get {K:PySem.W.Frag} {H:Hp} {rs:List Row} {vs:List V} {i:Nat} {x:V} (h:DtAll K H (rs.map rowDat) vs) (e:vs[i]? = some x):∃ (r:Row) (t:Addr) (v:V),rs[i]? = some r /\ x = .ref t /\ SqT K H t [V.int r.1,V.int r.2.1,v] /\ Dt K H r.2.2 v:=by
 obtain ⟨d,e1,hd⟩:=h.get e
 rw [List.getElem?_map] at e1
 cases q:rs[i]? with
 | none=>rw [q] at e1; cases e1
 | some r =>
  rw [q] at e1
  have e1:rowDat r = d:=Option.some.inj e1
  subst e1
  obtain ⟨t,vt,rfl,ht,x0,r0,rfl,e6,x7,r7,rfl,e8,x9,r9,rfl,d9,e10⟩:=hd
  have e6:x0 = V.int r.1:=e6
  have e8:x7 = V.int r.2.1:=e8
  have e10:r9 = []:=e10
  subst e6 e8 e10
  exact ⟨r,t,x9,rfl,rfl,ht,d9⟩
def spSpans (K:PySem.W.Frag):Sp:=fun vs H Q _=>∃ (a b:Addr) (xs ys:List Str),vs = [.ref a,.ref b] /\ SqT K H a (xs.map V.str) /\ SqT K H b (ys.map V.str) /\ xs.length <= 100 /\ ys.length <= 140 /\ (∀ x ∈ xs,lineB x = true) /\ (∀ y ∈ ys,lineB y = true) /\
 ∀ (l:Addr) H',Same H H' -> H l = none -> Dt K H' (.list ((spans xs ys).map rowDat)) (.ref l) -> Q (.ref l) H'
theorem lineB_len {x:Str} (h:lineB x = true):x.length <= 20:=by
 unfold lineB at h
 rw [Bool.and_eq_true] at h
 exact of_decide_eq_true h.1
theorem lineB_Ok {x:Str} (h:lineB x = true):Ok 200 x:=⟨by have:=lineB_len h; omega,lineB_ok h⟩
theorem spanT_lines {xs ys:List Str}:∀ {ps:List (Nat × Nat)} {lo fi:Nat},∀ r ∈ spanL xs ys lo fi ps,∃ (i k:Nat) (ls:List Str),r = spanR i k ls /\ ls.length <= ys.length /\ ∀ l ∈ ls,l ∈ ys
 | [],lo,fi,r,h=>by
  unfold spanL at h
  split at h
  ·rw [List.mem_singleton] at h
   exact ⟨lo,xs.length,ys.drop fi,h,by rw [List.length_drop]; omega,fun l hl=>List.mem_of_mem_drop hl⟩
  ·cases h
 | p :: ps,lo,fi,r,h=>by
  unfold spanL at h
  rcases List.mem_append.mp h with h | h
  ·split at h
   ·rw [List.mem_singleton] at h
    exact ⟨lo,p.1,_,h,by rw [List.length_take,List.length_drop]; omega,fun l hl=>List.mem_of_mem_drop (List.mem_of_mem_take hl)⟩
   ·cases h
  ·exact spanT_lines r h
def Ends (n:Nat):Nat -> List Row -> Prop
 | _,[]=>True
 | e,r :: rs=>(e:Int) <= r.1 /\ r.1 <= r.2.1 /\ r.2.1 <= n /\ (∃ ls:List Str,r.2.2 = .tuple (ls.map .str) /\ ls.length <= 1000) /\ Ends n r.2.1.toNat rs
def spDone (K:PySem.W.Frag):Sp:=fun vs H Q _=>∃ (a l:Addr) (xs:List Str) (rs:List Row),vs = [.ref a,.ref l] /\ SqT K H a (xs.map V.str) /\ Dt K H (.list (rs.map rowDat)) (.ref l) /\ xs.length <= 1000 /\ rs.length <= 200 /\ Ends xs.length 0 rs /\
 ∀ (p:Addr) H',Same H H' -> H p = none -> SqT K H' p ((patchL xs 0 rs).map V.str) -> Q (.ref p) H'
theorem cut_rest {ys:List Str} {f:Nat} (hf:f <= ys.length):cutV (ys.map V.str) (some (f:Int)) none = (ys.drop f).map V.str:=by
 rw [cut_from (by omega),Int.toNat_natCast,List.map_drop]
end An12
namespace AnJ
section
variable {α:Type}
abbrev S (α:Type):=Nat × Nat × List α
structure G (α:Type) where
 lo:Nat
 hi:Nat
 ones:List (S α)
 others:List (S α)
structure GoodG (g:G α):Prop where
 ins:∀ s ∈ g.ones ++ g.others,g.lo <= s.1 /\ s.1 <= s.2.1 /\ s.2.1 <= g.hi
 low:∃ s ∈ g.ones ++ g.others,s.1 = g.lo
 cell:∀ c,g.lo <= c -> c < g.hi -> ∃ s ∈ g.ones ++ g.others,s.1 <= c /\ c < s.2.1
theorem GoodG.le {g:G α} (h:GoodG g):g.lo <= g.hi:=by
 obtain ⟨s,hs,e⟩:=h.low
 have:=h.ins s hs
 omega
structure Good (A B:List (S α)) (gs:List (G α)):Prop where
 pa:(gs.flatMap G.ones).Perm A
 pb:(gs.flatMap G.others).Perm B
 gg:∀ g ∈ gs,GoodG g
 ap:gs.Pairwise fun g h=>g.hi < h.lo
theorem Good.mem {A B:List (S α)} {gs:List (G α)} (h:Good A B gs) {s:S α} (hs:s ∈ A ++ B):∃ g ∈ gs,s ∈ g.ones ++ g.others:=by
 rcases List.mem_append.mp hs with z | z
 ·obtain ⟨g,hg,hs⟩:=List.mem_flatMap.mp (h.pa.mem_iff.mpr z)
  exact ⟨g,hg,List.mem_append_left _ hs⟩
 ·obtain ⟨g,hg,hs⟩:=List.mem_flatMap.mp (h.pb.mem_iff.mpr z)
  exact ⟨g,hg,List.mem_append_right _ hs⟩
theorem Good.of_mem {A B:List (S α)} {gs:List (G α)} (h:Good A B gs) {s:S α} {g:G α} (hg:g ∈ gs) (hs:s ∈ g.ones ++ g.others):s ∈ A ++ B:=by
 rcases List.mem_append.mp hs with z | z
 ·exact List.mem_append_left _ (h.pa.mem_iff.mp (List.mem_flatMap.mpr ⟨g,hg,z⟩))
 ·exact List.mem_append_right _ (h.pb.mem_iff.mp (List.mem_flatMap.mpr ⟨g,hg,z⟩))
theorem Good.nil_of {gs:List (G α)} (h:Good [] [] gs):gs = []:=by
 cases gs with
 | nil=>rfl
 | cons g r =>
  obtain ⟨s,hs,_⟩:=(h.gg g (List.mem_cons_self ..)).low
  have:=h.of_mem (List.mem_cons_self ..) hs
  simp at this
theorem Good.lo_le {A B A' B':List (S α)} {g g':G α} {r r':List (G α)} (h:Good A B (g :: r)) (h':Good A' B' (g' :: r')) (e:∀ s,s ∈ A ++ B -> s ∈ A' ++ B'):g'.lo <= g.lo:=by
 obtain ⟨s,hs,es⟩:=(h.gg g (List.mem_cons_self ..)).low
 obtain ⟨x,hx,hsx⟩:=h'.mem (e s (h.of_mem (List.mem_cons_self ..) hs))
 have:=(h'.gg x hx).ins s hsx
 rcases List.mem_cons.mp hx with rfl | hx
 ·omega
 ·have q:=(List.pairwise_cons.mp h'.ap).1 x hx
  have:=(h'.gg g' (List.mem_cons_self ..)).le
  omega
theorem Good.hi_le {A B A' B':List (S α)} {g g':G α} {r r':List (G α)} (h:Good A B (g :: r)) (h':Good A' B' (g' :: r')) (e:∀ s,s ∈ A' ++ B' -> s ∈ A ++ B) (el:g'.lo <= g.hi):g'.hi <= g.hi:=by
 rcases Nat.lt_or_ge g.hi g'.hi with z | z
 ·obtain ⟨s,hs,s1,s2⟩:=(h'.gg g' (List.mem_cons_self ..)).cell g.hi el z
  obtain ⟨x,hx,hsx⟩:=h.mem (e s (h'.of_mem (List.mem_cons_self ..) hs))
  have q:=(h.gg x hx).ins s hsx
  rcases List.mem_cons.mp hx with rfl | hx
  ·omega
  ·have q:=(List.pairwise_cons.mp h.ap).1 x hx
   omega
 ·exact z
theorem filter_all {β:Type} {p:β -> Bool} {l:List β} (h:∀ x ∈ l,p x = true):l.filter p = l:=List.filter_eq_self.mpr h
theorem z7 {β:Type} {p:β -> Bool} {l:List β} (h:∀ x ∈ l,p x = false):l.filter p = []:=List.filter_eq_nil_iff.mpr (fun x hx=>by rw [h x hx]; decide)
theorem Good.head {A B:List (S α)} {g:G α} {r:List (G α)} (h:Good A B (g :: r)) :
  g.ones.Perm (A.filter fun s=>decide (s.2.1 <= g.hi)) /\ g.others.Perm (B.filter fun s=>decide (s.2.1 <= g.hi)) /\ Good (A.filter fun s=>!decide (s.2.1 <= g.hi)) (B.filter fun s=>!decide (s.2.1 <= g.hi)) r:=by
 have gg:=h.gg g (List.mem_cons_self ..)
 have a1:∀ s ∈ g.ones,decide (s.2.1 <= g.hi) = true:=fun s hs=>decide_eq_true (gg.ins s (List.mem_append_left _ hs)).2.2
 have a2:∀ s ∈ g.others,decide (s.2.1 <= g.hi) = true:=fun s hs=>decide_eq_true (gg.ins s (List.mem_append_right _ hs)).2.2
 have far:∀ x ∈ r,∀ s ∈ x.ones ++ x.others,decide (s.2.1 <= g.hi) = false:=fun x hx s hs=>by
  have q:=(h.gg x (List.mem_cons_of_mem _ hx)).ins s hs
  have q':=(List.pairwise_cons.mp h.ap).1 x hx
  exact decide_eq_false (by omega)
 have b1:∀ s ∈ r.flatMap G.ones,decide (s.2.1 <= g.hi) = false:=fun s hs=>by
  obtain ⟨x,hx,hs⟩:=List.mem_flatMap.mp hs
  exact far x hx s (List.mem_append_left _ hs)
 have b2:∀ s ∈ r.flatMap G.others,decide (s.2.1 <= g.hi) = false:=fun s hs=>by
  obtain ⟨x,hx,hs⟩:=List.mem_flatMap.mp hs
  exact far x hx s (List.mem_append_right _ hs)
 have pa:=h.pa
 have pb:=h.pb
 rw [List.flatMap_cons] at pa pb
 refine ⟨?_,?_,?_,?_,fun x hx=>h.gg x (List.mem_cons_of_mem _ hx),(List.pairwise_cons.mp h.ap).2⟩
 ·have:=pa.filter fun s=>decide (s.2.1 <= g.hi)
  rw [List.filter_append,filter_all a1,z7 b1,List.append_nil] at this
  exact this
 ·have:=pb.filter fun s=>decide (s.2.1 <= g.hi)
  rw [List.filter_append,filter_all a2,z7 b2,List.append_nil] at this
  exact this
 ·have:=pa.filter fun s=>!decide (s.2.1 <= g.hi)
  rw [List.filter_append,z7 (fun s hs=>by rw [a1 s hs]; rfl),filter_all (fun s hs=>by rw [b1 s hs]; rfl),List.nil_append] at this
  exact this
 ·have:=pb.filter fun s=>!decide (s.2.1 <= g.hi)
  rw [List.filter_append,z7 (fun s hs=>by rw [a2 s hs]; rfl),filter_all (fun s hs=>by rw [b2 s hs]; rfl),List.nil_append] at this
  exact this
theorem uniq {le:S α -> S α -> Prop} (anti:∀ a b,le a b -> le b a -> a = b):∀ {gs gs':List (G α)} {A B A' B':List (S α)},Good A B gs -> Good A' B' gs' -> A.Perm A' -> B.Perm B' ->
  (∀ g ∈ gs,g.ones.Pairwise le /\ g.others.Pairwise le) -> (∀ g ∈ gs',g.ones.Pairwise le /\ g.others.Pairwise le) -> gs = gs'
 | [],gs',A,B,A',B',h,h',ea,eb,_,_=>by
  have e1:A = []:=List.Perm.nil_eq h.pa |>.symm
  have e2:B = []:=List.Perm.nil_eq h.pb |>.symm
  subst e1 e2
  have e1:A' = []:=(List.Perm.nil_eq ea).symm
  have e2:B' = []:=(List.Perm.nil_eq eb).symm
  subst e1 e2
  exact h'.nil_of.symm
 | g :: r,[],A,B,A',B',h,h',ea,eb,_,_=>by
  have e1:A' = []:=List.Perm.nil_eq h'.pa |>.symm
  have e2:B' = []:=List.Perm.nil_eq h'.pb |>.symm
  subst e1 e2
  have e1:A = []:=(List.Perm.nil_eq ea.symm).symm
  have e2:B = []:=(List.Perm.nil_eq eb.symm).symm
  subst e1 e2
  exact h.nil_of
 | g :: r,g' :: r',A,B,A',B',h,h',ea,eb,o,o'=>by
  have em:∀ s,s ∈ A ++ B ↔ s ∈ A' ++ B':=fun s=>(ea.append eb).mem_iff
  have l1:=h.lo_le h' fun s=>(em s).mp
  have l2:=h'.lo_le h fun s=>(em s).mpr
  have g0:=(h.gg g (List.mem_cons_self ..)).le
  have g0':=(h'.gg g' (List.mem_cons_self ..)).le
  have u1:=h.hi_le h' (fun s=>(em s).mpr) (by omega)
  have u2:=h'.hi_le h (fun s=>(em s).mp) (by omega)
  have el:g.lo = g'.lo:=by omega
  have eh:g.hi = g'.hi:=by omega
  obtain ⟨a1,a2,a3⟩:=h.head
  obtain ⟨b1,b2,b3⟩:=h'.head
  rw [← eh] at b1 b2 b3
  have e1:g.ones = g'.ones:=((a1.trans (ea.filter _)).trans b1.symm).eq_of_pairwise (fun a b _ _=>anti a b) (o g (List.mem_cons_self ..)).1 (o' g' (List.mem_cons_self ..)).1
  have e2:g.others = g'.others:=((a2.trans (eb.filter _)).trans b2.symm).eq_of_pairwise (fun a b _ _=>anti a b) (o g (List.mem_cons_self ..)).2 (o' g' (List.mem_cons_self ..)).2
  have e3:=uniq anti a3 b3 (ea.filter _) (eb.filter _) (fun x hx=>o x (List.mem_cons_of_mem _ hx)) (fun x hx=>o' x (List.mem_cons_of_mem _ hx))
  have e0:g = g':=by
   cases g
   cases g'
   simp only at el eh e1 e2
   rw [el,eh,e1,e2]
  rw [e0,e3]
def nearB (g:G α) (s:S α):Bool:=decide (g.lo <= s.2.1) && decide (s.1 <= g.hi)
def addG (g:G α) (x:S α × Bool):G α:=⟨g.lo,max g.hi x.1.2.1,if x.2 then g.ones else g.ones ++ [x.1],if x.2 then g.others ++ [x.1] else g.others⟩
def single (x:S α × Bool):G α:=⟨x.1.1,x.1.2.1,if x.2 then [] else [x.1],if x.2 then [x.1] else []⟩
def sw:G α -> List (S α × Bool) -> List (G α)
 | g,[]=>[g]
 | g,x :: r=>if nearB g x.1 then sw (addG g x) r else g :: sw (single x) r
def sweep:List (S α × Bool) -> List (G α)
 | []=>[]
 | x :: r=>sw (single x) r
def xS (xs:List (S α × Bool)):List (S α):=(xs.filter fun x=>!x.2).map (·.1)
def yJ (xs:List (S α × Bool)):List (S α):=(xs.filter fun x=>x.2).map (·.1)
theorem single_good {x:S α × Bool} (h:x.1.1 <= x.1.2.1):GoodG (single x):=by
 have hm:x.1 ∈ (single x).ones ++ (single x).others:=by
  unfold single
  cases x.2 <;> simp
 have ho:∀ s ∈ (single x).ones ++ (single x).others,s = x.1:=fun s hs=>by
  unfold single at hs
  cases q:x.2 <;> rw [q] at hs <;> simpa using hs
 refine ⟨fun s hs=>?_,⟨x.1,hm,rfl⟩,fun c h1 h2=>⟨x.1,hm,h1,h2⟩⟩
 rw [ho s hs]
 exact ⟨Nat.le_refl _,h,Nat.le_refl _⟩
theorem addG_good {g:G α} {x:S α × Bool} (hg:GoodG g) (h:x.1.1 <= x.1.2.1) (hl:g.lo <= x.1.1) (hn:x.1.1 <= g.hi):GoodG (addG g x):=by
 have hm:∀ s,s ∈ (addG g x).ones ++ (addG g x).others ↔ s ∈ g.ones ++ g.others \/ s = x.1:=fun s=>by
  unfold addG
  cases x.2 <;> simp [or_assoc,or_comm,or_left_comm]
 have e1:(addG g x).lo = g.lo:=rfl
 have e2:(addG g x).hi = max g.hi x.1.2.1:=rfl
 refine ⟨fun s hs=>?_,?_,fun c h1 h2=>?_⟩
 ·rw [e1,e2]
  rcases (hm s).mp hs with z | rfl
  ·have:=hg.ins s z
   omega
  ·omega
 ·obtain ⟨s,hs,es⟩:=hg.low
  exact ⟨s,(hm s).mpr (.inl hs),es⟩
 ·rw [e1] at h1
  rw [e2] at h2
  rcases Nat.lt_or_ge c g.hi with z | z
  ·obtain ⟨s,hs,q⟩:=hg.cell c h1 z
   exact ⟨s,(hm s).mpr (.inl hs),q⟩
  ·exact ⟨x.1,(hm _).mpr (.inr rfl),by omega,by omega⟩
theorem sw_ones:∀ (r:List (S α × Bool)) (g:G α),(sw g r).flatMap G.ones = g.ones ++ xS r /\ (sw g r).flatMap G.others = g.others ++ yJ r
 | [],g=>by simp [sw,xS,yJ]
 | x :: r,g=>by
  unfold sw
  split
  ·obtain ⟨e1,e2⟩:=sw_ones r (addG g x)
   rw [e1,e2]
   unfold addG xS yJ
   cases q:x.2 <;> simp [q,List.filter_cons]
  ·obtain ⟨e1,e2⟩:=sw_ones r (single x)
   rw [List.flatMap_cons,List.flatMap_cons,e1,e2]
   unfold single xS yJ
   cases q:x.2 <;> simp [q,List.filter_cons]
theorem sw_lo:∀ (r:List (S α × Bool)) (g:G α),(∀ x ∈ r,g.lo <= x.1.1) -> r.Pairwise (fun x y=>x.1.1 <= y.1.1) -> ∀ h ∈ sw g r,g.lo <= h.lo
 | [],g,_,_,h,hh=>by
  rw [List.mem_singleton.mp hh]
  exact Nat.le_refl _
 | x :: r,g,hl,hp,h,hh=>by
  have hp':=List.pairwise_cons.mp hp
  unfold sw at hh
  split at hh
  ·exact sw_lo r (addG g x) (fun y hy=>hl y (List.mem_cons_of_mem _ hy)) hp'.2 h hh
  ·rcases List.mem_cons.mp hh with rfl | hh
   ·exact Nat.le_refl _
   ·exact Nat.le_trans (hl x (List.mem_cons_self ..)) (sw_lo r (single x) (fun y hy=>hp'.1 y hy) hp'.2 h hh)
theorem sw_good:∀ (r:List (S α × Bool)) (g:G α),GoodG g -> (∀ x ∈ r,g.lo <= x.1.1 /\ x.1.1 <= x.1.2.1) -> r.Pairwise (fun x y=>x.1.1 <= y.1.1) -> (∀ h ∈ sw g r,GoodG h) /\ (sw g r).Pairwise fun g h=>g.hi < h.lo
 | [],g,hg,_,_=>⟨fun h hh=>by rw [List.mem_singleton.mp hh]; exact hg,List.pairwise_singleton _ _⟩
 | x :: r,g,hg,hl,hp=>by
  have hp':=List.pairwise_cons.mp hp
  have hx:=hl x (List.mem_cons_self ..)
  unfold sw
  split
  ·next q =>
   have q:=Bool.and_eq_true_iff.mp q
   exact sw_good r (addG g x) (addG_good hg hx.2 hx.1 (of_decide_eq_true q.2)) (fun y hy=>hl y (List.mem_cons_of_mem _ hy)) hp'.2
  ·next q =>
   have far:g.hi < x.1.1:=by
    rcases Nat.lt_or_ge g.hi x.1.1 with z | z
    ·exact z
    ·exact absurd (Bool.and_eq_true_iff.mpr ⟨decide_eq_true (by omega),decide_eq_true z⟩) q
   obtain ⟨a,b⟩:=sw_good r (single x) (single_good hx.2) (fun y hy=>⟨hp'.1 y hy,(hl y (List.mem_cons_of_mem _ hy)).2⟩) hp'.2
   refine ⟨fun h hh=>?_,List.pairwise_cons.mpr ⟨fun h hh=>?_,b⟩⟩
   ·rcases List.mem_cons.mp hh with rfl | hh
    ·exact hg
    ·exact a h hh
   ·exact Nat.lt_of_lt_of_le far (sw_lo r (single x) (fun y hy=>hp'.1 y hy) hp'.2 h hh)
theorem sweep_ones (xs:List (S α × Bool)):(sweep xs).flatMap G.ones = xS xs /\ (sweep xs).flatMap G.others = yJ xs:=by
 cases xs with
 | nil=>exact ⟨rfl,rfl⟩
 | cons x r =>
  obtain ⟨e1,e2⟩:=sw_ones r (single x)
  refine ⟨e1.trans ?_,e2.trans ?_⟩
  ·unfold single xS
   cases q:x.2 <;> simp [q,List.filter_cons]
  ·unfold single yJ
   cases q:x.2 <;> simp [q,List.filter_cons]
theorem sweep_good {xs:List (S α × Bool)} (h:∀ x ∈ xs,x.1.1 <= x.1.2.1) (hp:xs.Pairwise fun x y=>x.1.1 <= y.1.1):Good (xS xs) (yJ xs) (sweep xs):=by
 obtain ⟨e1,e2⟩:=sweep_ones xs
 cases xs with
 | nil=>exact ⟨List.Perm.refl _,List.Perm.refl _,fun g hg=>(nomatch hg),List.Pairwise.nil⟩
 | cons x r =>
  have hp':=List.pairwise_cons.mp hp
  obtain ⟨a,b⟩:=sw_good r (single x) (single_good (h x (List.mem_cons_self ..))) (fun y hy=>⟨hp'.1 y hy,h y (List.mem_cons_of_mem _ hy)⟩) hp'.2
  exact ⟨e1 ▸ List.Perm.refl _,e2 ▸ List.Perm.refl _,a,b⟩
def cut {β:Type} (b:List β) (lo hi:Nat):List β:=(b.drop lo).take (hi - lo)
def there (b:List α):Nat -> Nat -> List (S α) -> List α
 | at_,hi,[]=>cut b at_ hi
 | at_,hi,s :: r=>cut b at_ s.1 ++ s.2.2 ++ there b s.2.1 hi r
def Val (n:Nat):Nat -> List (S α) -> Prop
 | at_,[]=>at_ <= n
 | at_,s :: r=>at_ <= s.1 /\ s.1 <= s.2.1 /\ Val n s.2.1 r
theorem Val.le {n:Nat}:∀ {r:List (S α)} {at_:Nat},Val n at_ r -> at_ <= n
 | [],_,h=>h
 | s :: r,at_,h=>by
  have:=h.2.2.le
  have:=h.1
  have:=h.2.1
  omega
theorem Val.mono {n:Nat} {a b:Nat} (h:a <= b):∀ {r:List (S α)},Val n b r -> Val n a r
 | [],q=>Nat.le_trans h q
 | _ :: _,q=>⟨Nat.le_trans h q.1,q.2⟩
theorem Val.join {n m:Nat}:∀ {r q:List (S α)} {a:Nat},Val m a r -> Val n m q -> Val n a (r ++ q)
 | [],q,a,h1,h2=>h2.mono h1
 | s :: r,q,a,h1,h2=>⟨h1.1,h1.2.1,Val.join h1.2.2 h2⟩
theorem jL {β:Type} {b:List β} {i j k:Nat} (h1:i <= j) (h2:j <= k):cut b i j ++ cut b j k = cut b i k:=by
 unfold cut
 have e:k - i = (j - i) + (k - j):=by omega
 rw [e,List.take_add,List.drop_drop]
 congr 3
 omega
theorem cut_same {β:Type} {b:List β} {i:Nat}:cut b i i = []:=by
 unfold cut
 rw [Nat.sub_self,List.take_zero]
theorem cut_all {β:Type} {b:List β} {i n:Nat} (h:b.length <= n):cut b i n = b.drop i:=by
 unfold cut
 refine List.take_of_length_le ?_
 rw [List.length_drop]
 omega
theorem cut_len {β:Type} {b:List β} {i k:Nat} (h:k <= b.length):(cut b i k).length = k - i:=by
 unfold cut
 rw [List.length_take,List.length_drop]
 omega
theorem there_skip {b:List α} {i m n:Nat} (h:i <= m):∀ {r:List (S α)},Val n m r -> there b i n r = cut b i m ++ there b m n r
 | [],q=>(jL h q).symm
 | s :: r,q=>by
  have:cut b i s.1 ++ s.2.2 ++ there b s.2.1 n r = cut b i m ++ (cut b m s.1 ++ s.2.2 ++ there b s.2.1 n r):=by
   rw [← jL h q.1]
   simp only [List.append_assoc]
  exact this
def kept (b:List α):Nat -> Nat -> List (S α) -> List α
 | at_,hi,[]=>cut b at_ hi
 | at_,hi,s :: r=>cut b at_ s.1 ++ kept b s.2.1 hi r
def del:List (S α) -> Nat
 | []=>0
 | s :: r=>s.2.1 - s.1 + del r
def put:List (S α) -> Nat
 | []=>0
 | s :: r=>s.2.2.length + put r
theorem kept_len {b:List α} {n:Nat} (hn:n <= b.length):∀ {r:List (S α)} {i:Nat},Val n i r -> (kept b i n r).length + del r = n - i
 | [],i,h=>by
  show (cut b i n).length + 0 = n - i
  rw [cut_len hn,Nat.add_zero]
 | s :: r,i,h=>by
  have e:=kept_len hn h.2.2
  have l:=h.2.2.le
  have:=h.1
  have:=h.2.1
  show (cut b i s.1 ++ kept b s.2.1 n r).length + (s.2.1 - s.1 + del r) = n - i
  rw [List.length_append,cut_len (by omega)]
  omega
theorem there_len {b:List α} {n:Nat} (hn:n <= b.length):∀ {r:List (S α)} {i:Nat},Val n i r -> (there b i n r).length + del r = n - i + put r
 | [],i,h=>by
  show (cut b i n).length + 0 = n - i + 0
  rw [cut_len hn]
 | s :: r,i,h=>by
  have e:=there_len hn h.2.2
  have l:=h.2.2.le
  have:=h.1
  have:=h.2.1
  show (cut b i s.1 ++ s.2.2 ++ there b s.2.1 n r).length + (s.2.1 - s.1 + del r) = n - i + (s.2.2.length + put r)
  rw [List.length_append,List.length_append,cut_len (by omega)]
  omega
inductive Pt (α:Type) where
 | same (ls:List α)
 | clash (b m y:List α)
def flush (x:List α):List (Pt α):=if x.length = 0 then [] else [.same x]
section
variable [DecidableEq α]
def G.mine (b:List α) (g:G α):List α:=there b g.lo g.hi g.ones
def G.yours (b:List α) (g:G α):List α:=there b g.lo g.hi g.others
def G.one (b:List α) (g:G α):Option (List α):=if g.ones = [] \/ g.mine b = g.yours b then some (g.yours b) else if g.others = [] then some (g.mine b) else none
def J (b:List α):List α -> Nat -> List (G α) -> List (Pt α)
 | acc,at_,[]=>flush (acc ++ b.drop at_)
 | acc,at_,g :: r=>match g.one b with
  | some x=>J b (acc ++ cut b at_ g.lo ++ x) g.hi r
  | none=>flush (acc ++ cut b at_ g.lo) ++ .clash (cut b g.lo g.hi) (g.mine b) (g.yours b) :: J b [] g.hi r
def Pt.turn:Pt α -> Pt α
 | .same x=>.same x
 | .clash b m y=>.clash b y m
def G.turn (g:G α):G α:=⟨g.lo,g.hi,g.others,g.ones⟩
theorem one_turn {b:List α} {g:G α} (h:g.ones ++ g.others ≠ []):g.turn.one b = g.one b:=by
 have e1:g.turn.ones = g.others:=rfl
 have e2:g.turn.others = g.ones:=rfl
 have e3:g.turn.mine b = g.yours b:=rfl
 have e4:g.turn.yours b = g.mine b:=rfl
 have e5:(g.yours b = g.mine b) = (g.mine b = g.yours b):=propext eq_comm
 unfold G.one
 rw [e1,e2,e3,e4]
 simp only [e5]
 by_cases h1:g.ones = [] <;> by_cases h2:g.others = [] <;> by_cases h3:g.mine b = g.yours b <;> simp_all
theorem flush_turn (x:List α):(flush x).map Pt.turn = flush x:=by
 unfold flush
 split <;> rfl
theorem J_turn {b:List α}:∀ {gs:List (G α)} {acc:List α} {i:Nat},(∀ g ∈ gs,g.ones ++ g.others ≠ []) -> J b acc i (gs.map G.turn) = (J b acc i gs).map Pt.turn
 | [],acc,i,_=>by
  show flush _ = (flush _).map Pt.turn
  unfold flush
  split <;> rfl
 | g :: r,acc,i,h=>by
  have ih:=fun acc i=>J_turn (b:=b) (gs:=r) (acc:=acc) (i:=i) fun x hx=>h x (List.mem_cons_of_mem _ hx)
  have e:=one_turn (b:=b) (h g (List.mem_cons_self ..))
  rw [List.map_cons]
  unfold J
  cases q:g.one b with
  | some x =>
   rw [e,q]
   exact ih _ _
  | none =>
   rw [e,q]
   show flush (acc ++ cut b i g.lo) ++ Pt.clash (cut b g.lo g.hi) (g.yours b) (g.mine b) :: J b [] g.hi (r.map G.turn) = (flush (acc ++ cut b i g.lo) ++ Pt.clash (cut b g.lo g.hi) (g.mine b) (g.yours b) :: J b [] g.hi r).map Pt.turn
   rw [List.map_append,List.map_cons,ih,flush_turn]
   rfl
def Chain (n:Nat) (f:G α -> List (S α)):Nat -> List (G α) -> Prop
 | i,[]=>i <= n
 | i,g :: r=>i <= g.lo /\ Val g.hi g.lo (f g) /\ Chain n f g.hi r
theorem Chain.val {n:Nat} {f:G α -> List (S α)}:∀ {gs:List (G α)} {i:Nat},Chain n f i gs -> Val n i (gs.flatMap f)
 | [],_,h=>h
 | g :: r,i,h=>by
  rw [List.flatMap_cons]
  exact (h.2.1.join (Chain.val h.2.2)).mono h.1
end
end
end AnJ
namespace AnJ
open An10
section
variable {α:Type} [DecidableEq α]
def yF (xs ys:List α):Nat -> Nat -> List (Nat × Nat) -> List (S α)
 | lo,fi,[]=>if lo < xs.length \/ fi < ys.length then [(lo,xs.length,ys.drop fi)] else []
 | lo,fi,p :: ps=>(if lo < p.1 \/ fi < p.2 then [(lo,p.1,(ys.drop fi).take (p.2 - fi))] else []) ++ yF xs ys (p.1 + 1) (p.2 + 1) ps
def spansS (xs ys:List α):List (S α):=yF xs ys 0 0 (path xs ys (xs.length + ys.length) 0 0)
theorem rise_lt {xs ys:List α}:∀ {ps:List (Nat × Nat)} {i k:Nat},Rise xs ys i k ps -> ∀ p ∈ ps,p.1 < xs.length /\ p.2 < ys.length
 | p :: ps,i,k,⟨_,_,⟨x,hx,hy⟩,r⟩,q,hq=>by
  rcases List.mem_cons.mp hq with rfl | hq
  ·exact ⟨(List.getElem?_eq_some_iff.mp hx).1,(List.getElem?_eq_some_iff.mp hy).1⟩
  ·exact rise_lt r q hq
theorem span_val {xs ys:List α}:∀ {ps:List (Nat × Nat)} {lo fi:Nat},Rise xs ys lo fi ps -> lo <= xs.length -> Val xs.length lo (yF xs ys lo fi ps)
 | [],lo,fi,_,h=>by
  unfold yF
  split
  ·exact ⟨Nat.le_refl _,h,Nat.le_refl _⟩
  ·exact h
 | p :: ps,lo,fi,r,h=>by
  have q:=(rise_lt r p (List.mem_cons_self ..)).1
  have ih:=span_val (ys:=ys) r.2.2.2 (by omega)
  have r1:=r.1
  unfold yF
  split
  ·exact ⟨Nat.le_refl _,r1,ih.mono (Nat.le_succ p.1)⟩
  ·exact ih.mono (by omega)
theorem span_there {xs ys:List α}:∀ {ps:List (Nat × Nat)} {lo fi:Nat},Rise xs ys lo fi ps -> lo <= xs.length -> there xs lo xs.length (yF xs ys lo fi ps) = ys.drop fi
 | [],lo,fi,_,hl=>by
  unfold yF
  split
  ·show cut xs lo lo ++ ys.drop fi ++ cut xs xs.length xs.length = _
   rw [cut_same,cut_same,List.nil_append,List.append_nil]
  ·rename_i h
   show cut xs lo xs.length = ys.drop fi
   rw [cut_all (Nat.le_refl _),List.drop_of_length_le (by omega),List.drop_of_length_le (by omega)]
 | p :: ps,lo,fi,⟨h1,h2,⟨x,hx,hy⟩,h4⟩,hl=>by
  obtain ⟨xl,xe⟩:=List.getElem?_eq_some_iff.mp hx
  obtain ⟨yl,ye⟩:=List.getElem?_eq_some_iff.mp hy
  have ih:=span_there h4 (by omega)
  have fr:=span_val h4 (by omega)
  have one:there xs p.1 xs.length (yF xs ys (p.1 + 1) (p.2 + 1) ps) = ys.drop p.2:=by
   rw [there_skip (Nat.le_succ p.1) fr,ih]
   unfold cut
   have e1:p.1.succ - p.1 = 1:=by omega
   rw [e1,List.drop_eq_getElem_cons xl,List.drop_eq_getElem_cons yl,xe,ye]
   rfl
  unfold yF
  split
  ·show cut xs lo lo ++ (ys.drop fi).take (p.2 - fi) ++ there xs p.1 xs.length (yF xs ys (p.1 + 1) (p.2 + 1) ps) = _
   rw [cut_same,List.nil_append,one]
   have:ys.drop p.2 = (ys.drop fi).drop (p.2 - fi):=by rw [List.drop_drop]; congr 1; omega
   rw [this,List.take_append_drop]
  ·rename_i h
   have a1:lo = p.1:=by omega
   have a2:fi = p.2:=by omega
   subst a1 a2
   exact one
def Apart:List (S α) -> Prop:=List.Pairwise fun s t=>s.2.1 < t.1
theorem span_lo {xs ys:List α}:∀ {ps:List (Nat × Nat)} {lo fi:Nat},Rise xs ys lo fi ps -> ∀ s ∈ yF xs ys lo fi ps,lo <= s.1
 | [],lo,fi,_,s,hs=>by
  unfold yF at hs
  split at hs
  ·rw [List.mem_singleton.mp hs]
   exact Nat.le_refl _
  ·cases hs
 | p :: ps,lo,fi,r,s,hs=>by
  unfold yF at hs
  rcases List.mem_append.mp hs with z | z
  ·split at z
   ·rw [List.mem_singleton.mp z]
    exact Nat.le_refl _
   ·cases z
  ·have:=span_lo r.2.2.2 s z
   have:=r.1
   omega
theorem span_apart {xs ys:List α}:∀ {ps:List (Nat × Nat)} {lo fi:Nat},Rise xs ys lo fi ps -> Apart (yF xs ys lo fi ps)
 | [],lo,fi,_=>by
  unfold yF
  split
  ·exact List.pairwise_singleton _ _
  ·exact List.Pairwise.nil
 | p :: ps,lo,fi,r=>by
  have ih:=span_apart r.2.2.2
  unfold yF
  split
  ·refine List.pairwise_cons.mpr ⟨fun t ht=>?_,ih⟩
   have:=span_lo r.2.2.2 t ht
   exact this
  ·exact ih
theorem yW (xs ys:List α):Val xs.length 0 (spansS xs ys):=span_val (path_rise _ 0 0) (Nat.zero_le _)
theorem spans_there (xs ys:List α):there xs 0 xs.length (spansS xs ys) = ys:=span_there (path_rise _ 0 0) (Nat.zero_le _)
theorem yV (xs ys:List α):Apart (spansS xs ys):=span_apart (path_rise _ 0 0)
theorem Val.ends {n:Nat}:∀ {r:List (S α)} {i:Nat},Val n i r -> ∀ s ∈ r,i <= s.1 /\ s.1 <= s.2.1 /\ s.2.1 <= n
 | s :: r,i,h,t,ht=>by
  rcases List.mem_cons.mp ht with rfl | ht
  ·exact ⟨h.1,h.2.1,h.2.2.le⟩
  ·have:=Val.ends h.2.2 t ht
   have:=h.1
   have:=h.2.1
   omega
structure Grp (b:List α) (A B:List (S α)) (gs:List (G α)):Prop where
 good:Good A B gs
 fa:gs.flatMap G.ones = A
 fb:gs.flatMap G.others = B
theorem chain_of {n:Nat} {f:G α -> List (S α)} (hf:∀ g:G α,∀ s ∈ f g,s ∈ g.ones ++ g.others):∀ {gs:List (G α)} {i:Nat},(∀ g ∈ gs,GoodG g /\ g.hi <= n) -> (gs.Pairwise fun g h=>g.hi < h.lo) -> (∀ g ∈ gs,i <= g.lo) -> i <= n -> (gs.flatMap f).Pairwise (fun s t=>s.2.1 < t.1) -> Chain n f i gs
 | [],i,_,_,_,h,_=>h
 | g :: r,i,hg,hp,hl,hn,ho=>by
  have hp':=List.pairwise_cons.mp hp
  have gg:=hg g (List.mem_cons_self ..)
  rw [List.flatMap_cons] at ho
  have ho':=List.pairwise_append.mp ho
  refine ⟨hl g (List.mem_cons_self ..),?_,chain_of hf (fun x hx=>hg x (List.mem_cons_of_mem _ hx)) hp'.2 (fun x hx=>Nat.le_of_lt (hp'.1 x hx)) gg.2 ho'.2.1⟩
  have go:∀ {l:List (S α)} {i:Nat},(∀ s ∈ l,i <= s.1 /\ s.1 <= s.2.1 /\ s.2.1 <= g.hi) -> i <= g.hi -> l.Pairwise (fun s t=>s.2.1 < t.1) -> Val g.hi i l:=fun {l}=>by
   induction l with
   | nil=>exact fun {i} _ h _=>h
   | cons s l ih =>
    intro i h h0 hp
    have hp':=List.pairwise_cons.mp hp
    have hs:=h s (List.mem_cons_self ..)
    refine ⟨hs.1,hs.2.1,ih (fun t ht=>?_) hs.2.2 hp'.2⟩
    have:=h t (List.mem_cons_of_mem _ ht)
    have:=hp'.1 t ht
    omega
  exact go (fun s hs=>gg.1.ins s (hf g s hs)) gg.1.le ho'.1
theorem Good.hi {n:Nat} {A B:List (S α)} {gs:List (G α)} (h:Good A B gs) (hn:∀ s ∈ A ++ B,s.2.1 <= n):∀ g ∈ gs,GoodG g /\ g.hi <= n:=fun g hg=>by
 have gg:=h.gg g hg
 refine ⟨gg,?_⟩
 rcases Nat.lt_or_ge g.lo g.hi with z | z
 ·obtain ⟨s,hs,s1,s2⟩:=gg.cell (g.hi - 1) (by omega) (by omega)
  have:=hn s (h.of_mem hg hs)
  omega
 ·obtain ⟨s,hs,s1⟩:=gg.low
  have:=hn s (h.of_mem hg hs)
  have:=gg.ins s hs
  omega
theorem Grp.chains {b:List α} {A B:List (S α)} {gs:List (G α)} (h:Grp b A B gs) (va:Val b.length 0 A) (vb:Val b.length 0 B) (pa:Apart A) (pb:Apart B):Chain b.length G.ones 0 gs /\ Chain b.length G.others 0 gs:=by
 have hn:∀ s ∈ A ++ B,s.2.1 <= b.length:=fun s hs=>by
  rcases List.mem_append.mp hs with z | z
  ·exact (va.ends s z).2.2
  ·exact (vb.ends s z).2.2
 have g:=h.good.hi hn
 exact ⟨chain_of (fun g s hs=>List.mem_append_left _ hs) g h.good.ap (fun _ _=>Nat.zero_le _) (Nat.zero_le _) (by rw [h.fa]; exact pa),
  chain_of (fun g s hs=>List.mem_append_right _ hs) g h.good.ap (fun _ _=>Nat.zero_le _) (Nat.zero_le _) (by rw [h.fb]; exact pb)⟩
theorem qC {n:Nat} {f:G α -> List (S α)}:∀ {gs:List (G α)} {i:Nat} {g:G α},Chain n f i gs -> g ∈ gs -> ∃ q1 q2,gs.flatMap f = q1 ++ f g ++ q2 /\ Val g.lo i q1 /\ Val g.hi g.lo (f g) /\ Val n g.hi q2
 | x :: r,i,g,h,hg=>by
  rcases List.mem_cons.mp hg with rfl | hg
  ·exact ⟨[],r.flatMap f,by rw [List.flatMap_cons,List.nil_append],h.1,h.2.1,h.2.2.val⟩
  ·obtain ⟨q1,q2,e,v1,v2,v3⟩:=qC h.2.2 hg
   refine ⟨f x ++ q1,q2,by rw [List.flatMap_cons,e]; simp only [List.append_assoc],?_,v2,v3⟩
   exact (h.2.1.join v1).mono h.1
def Pt.isSame:Pt α -> Bool
 | .same _=>true
 | .clash ..=>false
end
end AnJ
namespace AxK
structure TO (β:Type) where
 lt:β -> β -> Bool
 asy:∀ a b,lt a b = true -> lt b a = false
 tra:∀ a b c,lt b a = false -> lt c b = false -> lt c a = false
 ant:∀ a b,lt a b = false -> lt b a = false -> a = b
section
variable {β γ:Type} {O:TO β}
def TO.le (O:TO β) (a b:β):Prop:=O.lt b a = false
theorem TO.refl (O:TO β) (a:β):O.le a a:=by
 show O.lt a a = false
 cases h:O.lt a a with
 | false=>rfl
 | true=>exact h.symm.trans (O.asy a a h)
theorem TO.of_lt {a b:β} (h:O.lt a b = true):O.le a b:=O.asy a b h
theorem TO.trans {a b c:β} (h1:O.le a b) (h2:O.le b c):O.le a c:=O.tra a b c h1 h2
def TO.nat:TO Nat:=⟨fun a b=>decide (a < b),fun a b h=>by have:=of_decide_eq_true h; exact decide_eq_false (by omega),fun a b c h1 h2=>by
 have:=of_decide_eq_false h1
 have:=of_decide_eq_false h2
 exact decide_eq_false (by omega),fun a b h1 h2=>by
 have:=of_decide_eq_false h1
 have:=of_decide_eq_false h2
 omega⟩
def TO.bool:TO Bool:=⟨fun a b=>!a && b,by decide,by decide,by decide⟩
def qP (O:TO β) (P:TO γ) (a b:β × γ):Bool:=O.lt a.1 b.1 || (!O.lt b.1 a.1 && P.lt a.2 b.2)
def TO.pair (O:TO β) (P:TO γ):TO (β × γ):=⟨qP O P,fun a b h=>by
 unfold qP at h ⊢
 cases h1:O.lt a.1 b.1 with
 | true =>
  rw [O.asy _ _ h1]
  simp
 | false =>
  rw [h1] at h
  have h:O.lt b.1 a.1 = false /\ P.lt a.2 b.2 = true:=by simpa using h
  rw [h.1,P.asy _ _ h.2]
  rfl,fun a b c h1 h2=>by
 unfold qP at h1 h2 ⊢
 have h1:=Bool.or_eq_false_iff.mp h1
 have h2:=Bool.or_eq_false_iff.mp h2
 rw [O.tra _ _ _ h1.1 h2.1,Bool.false_or]
 cases q:O.lt a.1 c.1 with
 | true=>rfl
 | false =>
  have e1:a.1 = c.1:=O.ant _ _ q (O.tra _ _ _ h1.1 h2.1)
  have e2:O.lt a.1 b.1 = false:=by rw [e1]; exact h2.1
  have e3:O.lt b.1 c.1 = false:=by rw [← e1]; exact h1.1
  have g1:P.lt b.2 a.2 = false:=by have:=h1.2; rw [e2] at this; simpa using this
  have g2:P.lt c.2 b.2 = false:=by have:=h2.2; rw [e3] at this; simpa using this
  rw [P.tra _ _ _ g1 g2]
  rfl,fun a b h1 h2=>by
 unfold qP at h1 h2
 have h1:=Bool.or_eq_false_iff.mp h1
 have h2:=Bool.or_eq_false_iff.mp h2
 have e:=O.ant _ _ h1.1 h2.1
 have g1:P.lt a.2 b.2 = false:=by have:=h1.2; rw [h2.1] at this; simpa using this
 have g2:P.lt b.2 a.2 = false:=by have:=h2.2; rw [h1.1] at this; simpa using this
 exact Prod.ext e (P.ant _ _ g1 g2)⟩
def yB (O:TO β):List β -> List β -> Bool
 | [],[]=>false
 | [],_ :: _=>true
 | _ :: _,[]=>false
 | a :: as,b :: bs=>O.lt a b || (!O.lt b a && yB O as bs)
theorem list_asy (O:TO β):∀ a b:List β,yB O a b = true -> yB O b a = false
 | [],[],h=>nomatch h
 | [],_ :: _,_=>rfl
 | _ :: _,[],h=>nomatch h
 | a :: as,b :: bs,h=>by
  unfold yB at h ⊢
  cases h1:O.lt a b with
  | true =>
   rw [O.asy _ _ h1]
   simp
  | false =>
   rw [h1] at h
   have h:O.lt b a = false /\ yB O as bs = true:=by simpa using h
   rw [h.1,list_asy O as bs h.2]
   rfl
theorem list_ant (O:TO β):∀ a b:List β,yB O a b = false -> yB O b a = false -> a = b
 | [],[],_,_=>rfl
 | [],_ :: _,h,_=>nomatch h
 | _ :: _,[],_,h=>nomatch h
 | a :: as,b :: bs,h1,h2=>by
  unfold yB at h1 h2
  have h1:=Bool.or_eq_false_iff.mp h1
  have h2:=Bool.or_eq_false_iff.mp h2
  have e:=O.ant _ _ h1.1 h2.1
  have g1:yB O as bs = false:=by have:=h1.2; rw [h2.1] at this; simpa using this
  have g2:yB O bs as = false:=by have:=h2.2; rw [h1.1] at this; simpa using this
  rw [e,list_ant O as bs g1 g2]
theorem list_tra (O:TO β):∀ a b c:List β,yB O b a = false -> yB O c b = false -> yB O c a = false
 | [],[],c,_,h=>h
 | [],_ :: _,[],_,_=>rfl
 | [],_ :: _,_ :: _,_,_=>rfl
 | _ :: _,[],c,h,_=>nomatch h
 | _ :: _,_ :: _,[],_,h=>nomatch h
 | a :: as,b :: bs,c :: cs,h1,h2=>by
  unfold yB at h1 h2 ⊢
  have h1:=Bool.or_eq_false_iff.mp h1
  have h2:=Bool.or_eq_false_iff.mp h2
  rw [O.tra _ _ _ h1.1 h2.1,Bool.false_or]
  cases q:O.lt a c with
  | true=>rfl
  | false =>
   have e1:a = c:=O.ant _ _ q (O.tra _ _ _ h1.1 h2.1)
   have e2:O.lt a b = false:=by rw [e1]; exact h2.1
   have e3:O.lt b c = false:=by rw [← e1]; exact h1.1
   have g1:yB O bs as = false:=by have:=h1.2; rw [e2] at this; simpa using this
   have g2:yB O cs bs = false:=by have:=h2.2; rw [e3] at this; simpa using this
   rw [list_tra O as bs cs g1 g2]
   rfl
def TO.list (O:TO β):TO (List β):=⟨yB O,list_asy O,list_tra O,list_ant O⟩
def TO.by_ (O:TO β) (f:γ -> β) (h:∀ a b,f a = f b -> a = b):TO γ:=⟨fun a b=>O.lt (f a) (f b),fun a b=>O.asy _ _,fun a b c=>O.tra _ _ _,fun a b h1 h2=>h a b (O.ant _ _ h1 h2)⟩
theorem TO.anti {a b:β} (h1:O.le a b) (h2:O.le b a):a = b:=O.ant a b h2 h1
end
end AxK
namespace AnJ
open AxK
section
variable {α:Type} [DecidableEq α]
def spanO (T:TO α):TO (S α):=TO.pair TO.nat (TO.pair TO.nat (TO.list T))
theorem span_le {T:TO α} {s t:S α} (h:(spanO T).le s t):s.1 <= t.1:=by
 have h:qP TO.nat (TO.pair TO.nat (TO.list T)) t s = false:=h
 unfold qP at h
 have:=of_decide_eq_false (Bool.or_eq_false_iff.mp h).1
 omega
theorem span_lt {T:TO α} {s t:S α} (h:s.1 < t.1):(spanO T).le s t:=by
 refine TO.of_lt ?_
 show qP TO.nat (TO.pair TO.nat (TO.list T)) s t = true
 unfold qP
 rw [show TO.nat.lt s.1 t.1 = true from decide_eq_true h]
 rfl
theorem xF {T:TO α} {n i:Nat} {A:List (S α)} (v:Val n i A) (p:Apart A):A.Pairwise (spanO T).le :=
 p.imp_of_mem fun {s t} hs ht h=>span_lt (by have:=(v.ends s hs).2.1; omega)
def both (A B:List (S α)):List (S α × Bool):=A.map (fun s=>(s,false)) ++ B.map fun s=>(s,true)
theorem ones_both (A B:List (S α)):xS (both A B) = A:=by
 unfold xS both
 rw [List.filter_append,filter_all (p:=fun x:S α × Bool=>!x.2) (fun x hx=>by obtain ⟨s,_,rfl⟩:=List.mem_map.mp hx; rfl),z7 (p:=fun x:S α × Bool=>!x.2) (fun x hx=>by obtain ⟨s,_,rfl⟩:=List.mem_map.mp hx; rfl),List.append_nil,List.map_map]
 exact List.map_id' _
theorem others_both (A B:List (S α)):yJ (both A B) = B:=by
 unfold yJ both
 rw [List.filter_append,z7 (p:=fun x:S α × Bool=>x.2) (fun x hx=>by obtain ⟨s,_,rfl⟩:=List.mem_map.mp hx; rfl),filter_all (p:=fun x:S α × Bool=>x.2) (fun x hx=>by obtain ⟨s,_,rfl⟩:=List.mem_map.mp hx; rfl),List.nil_append,List.map_map]
 exact List.map_id' _
theorem sweep_grp {T:TO α} {b:List α} {A B:List (S α)} {xs:List (S α × Bool)} (va:Val b.length 0 A) (vb:Val b.length 0 B) (pa:Apart A) (pb:Apart B) (hp:xs.Perm (both A B)) (ho:xs.Pairwise fun x y=>(spanO T).le x.1 y.1):Grp b A B (sweep xs):=by
 have ends:∀ x ∈ xs,x.1.1 <= x.1.2.1:=fun x hx=>by
  rcases List.mem_append.mp (hp.mem_iff.mp hx) with z | z
  ·obtain ⟨s,hs,rfl⟩:=List.mem_map.mp z
   exact (va.ends s hs).2.1
  ·obtain ⟨s,hs,rfl⟩:=List.mem_map.mp z
   exact (vb.ends s hs).2.1
 have e1:xS xs = A:=by
  have p1:(xS xs).Perm (xS (both A B)):=(hp.filter _).map _
  rw [ones_both] at p1
  refine p1.eq_of_pairwise (le:=(spanO T).le) (fun a b _ _=>TO.anti) ?_ (xF va pa)
  exact List.pairwise_map.mpr (ho.filter _)
 have e2:yJ xs = B:=by
  have p1:(yJ xs).Perm (yJ (both A B)):=(hp.filter _).map _
  rw [others_both] at p1
  refine p1.eq_of_pairwise (le:=(spanO T).le) (fun a b _ _=>TO.anti) ?_ (xF vb pb)
  exact List.pairwise_map.mpr (ho.filter _)
 have g:=sweep_good ends (ho.imp fun h=>span_le h)
 obtain ⟨f1,f2⟩:=sweep_ones xs
 rw [e1,e2] at g
 exact ⟨g,f1.trans e1,f2.trans e2⟩
theorem flat_part {β γ:Type} {f:γ -> List β} {le:β -> β -> Prop}:∀ {gs:List γ},(gs.flatMap f).Pairwise le -> ∀ g ∈ gs,(f g).Pairwise le
 | x :: r,h,g,hg=>by
  rw [List.flatMap_cons] at h
  have h':=List.pairwise_append.mp h
  rcases List.mem_cons.mp hg with rfl | hg
  ·exact h'.1
  ·exact flat_part h'.2.1 g hg
theorem Grp.sorted {T:TO α} {b:List α} {A B:List (S α)} {gs:List (G α)} (h:Grp b A B gs) (va:Val b.length 0 A) (vb:Val b.length 0 B) (pa:Apart A) (pb:Apart B):∀ g ∈ gs,g.ones.Pairwise (spanO T).le /\ g.others.Pairwise (spanO T).le:=fun g hg =>
 ⟨flat_part (by rw [h.fa]; exact xF va pa) g hg,flat_part (by rw [h.fb]; exact xF vb pb) g hg⟩
theorem Grp.uniq (T:TO α) {b:List α} {A B:List (S α)} {gs gs':List (G α)} (h:Grp b A B gs) (va:Val b.length 0 A) (vb:Val b.length 0 B) (pa:Apart A) (pb:Apart B) (h':Good A B gs') (o:∀ g ∈ gs',g.ones.Pairwise (spanO T).le /\ g.others.Pairwise (spanO T).le):gs' = gs :=
 AnJ.uniq (le:=(spanO T).le) (fun a b=>TO.anti) h' h.good (List.Perm.refl _) (List.Perm.refl _) o (h.sorted va vb pa pb)
theorem flat_turn (gs:List (G α)):(gs.map G.turn).flatMap G.ones = gs.flatMap G.others /\ (gs.map G.turn).flatMap G.others = gs.flatMap G.ones:=by
 constructor
 ·rw [List.flatMap_map]; rfl
 ·rw [List.flatMap_map]; rfl
theorem Grp.turn {b:List α} {A B:List (S α)} {gs:List (G α)} (h:Grp b A B gs):Grp b B A (gs.map G.turn):=by
 obtain ⟨e1,e2⟩:=flat_turn gs
 have sw:∀ (g:G α) s,s ∈ g.turn.ones ++ g.turn.others ↔ s ∈ g.ones ++ g.others:=fun g s=>by
  show s ∈ g.others ++ g.ones ↔ _
  rw [List.mem_append,List.mem_append,or_comm]
 refine ⟨⟨e1 ▸ h.good.pb,e2 ▸ h.good.pa,fun g hg=>?_,?_⟩,e1.trans h.fb,e2.trans h.fa⟩
 ·obtain ⟨g',hg',rfl⟩:=List.mem_map.mp hg
  have gg:=h.good.gg g' hg'
  exact ⟨fun s hs=>gg.ins s ((sw g' s).mp hs),by obtain ⟨s,hs,e⟩:=gg.low; exact ⟨s,(sw g' s).mpr hs,e⟩,fun c h1 h2=>by obtain ⟨s,hs,e⟩:=gg.cell c h1 h2; exact ⟨s,(sw g' s).mpr hs,e⟩⟩
 ·exact List.pairwise_map.mpr h.good.ap
theorem Grp.some {b:List α} {A B:List (S α)} {gs:List (G α)} (h:Grp b A B gs):∀ g ∈ gs,g.ones ++ g.others ≠ []:=fun g hg z=>by
 obtain ⟨s,hs,_⟩:=(h.good.gg g hg).low
 rw [z] at hs
 cases hs
def Joined (b m y:List α) (ps:List (Pt α)):Prop:=∃ gs,Grp b (spansS b m) (spansS b y) gs /\ ps = J b [] 0 gs
theorem Joined.uniq (T:TO α) {b m y:List α} {ps qs:List (Pt α)} (h:Joined b m y ps) (h':Joined b m y qs):ps = qs:=by
 obtain ⟨gs,g,rfl⟩:=h
 obtain ⟨hs,g',rfl⟩:=h'
 have:=g.uniq T (yW b m) (yW b y) (yV b m) (yV b y) g'.good (g'.sorted (yW b m) (yW b y) (yV b m) (yV b y))
 rw [this]
end
end AnJ
namespace AxK
open PySem PySem.W PyProof.Rows
def run {β:Type} (lt:Nat -> Nat -> Bool):KasT β -> β
 | .ret a=>a
 | .ask i j k=>run lt (k (lt i j))
theorem run_bind {β γ:Type} {lt:Nat -> Nat -> Bool} {f:β -> KasT γ}:∀ t:KasT β,run lt (t.bind f) = run lt (f (run lt t))
 | .ret _=>rfl
 | .ask i j k=>run_bind (k (lt i j))
section
variable {β:Type} {O:TO β} {key:Nat -> β}
def kn (key:Nat -> β) (p:Array Nat) (i:Nat):β:=key (p.getD i 0)
def Up (O:TO β) (key:Nat -> β) (p:Array Nat) (n:Nat):Prop:=∀ i j,i <= j -> j < n -> O.le (kn key p i) (kn key p j)
def Down (O:TO β) (key:Nat -> β) (p:Array Nat) (n:Nat):Prop:=∀ i j,i <= j -> j < n -> O.le (kn key p j) (kn key p i)
theorem kn_of {p q:Array Nat} {i j:Nat} (h:p[i]? = q[j]?):kn key p i = kn key q j:=by
 unfold kn
 rw [Array.getD_eq_getD_getElem?,Array.getD_eq_getD_getElem?,h]
theorem Up.snoc {p:Array Nat} {n:Nat} (h1:1 <= n) (h:Up O key p n) (hl:O.le (kn key p (n - 1)) (kn key p n)):Up O key p (n + 1):=fun i j hij hj=>by
 by_cases z:j < n
 ·exact h i j hij z
 ·have z:j = n:=by omega
  subst z
  by_cases z:i = j
  ·subst z
   exact O.refl _
  ·exact TO.trans (h i (j - 1) (by omega) (by omega)) hl
theorem Down.snoc {p:Array Nat} {n:Nat} (h1:1 <= n) (h:Down O key p n) (hl:O.le (kn key p n) (kn key p (n - 1))):Down O key p (n + 1):=fun i j hij hj=>by
 by_cases z:j < n
 ·exact h i j hij z
 ·have z:j = n:=by omega
  subst z
  by_cases z:i = j
  ·subst z
   exact O.refl _
  ·exact TO.trans hl (h i (j - 1) (by omega) (by omega))
theorem one_up (p:Array Nat):Up O key p 1:=fun i j hij hj=>by
 have:i = j:=by omega
 subst this
 exact O.refl _
theorem asc_ok {p:Array Nat}:∀ (f n:Nat),1 <= n -> Up O key p n -> ∃ m,run (fun i j=>O.lt (key i) (key j)) (kas_asc p f n) = m /\ n <= m /\ m <= n + f /\ Up O key p m /\ (m = n + f \/ O.lt (kn key p m) (kn key p (m - 1)) = true)
 | 0,n,_,h=>⟨n,rfl,Nat.le_refl _,Nat.le_refl _,h,.inl rfl⟩
 | f + 1,n,h1,h=>by
  unfold kas_asc
  show ∃ m,run _ (if O.lt (kn key p n) (kn key p (n - 1)) = true then KasT.ret n else kas_asc p f (n + 1)) = m /\ _
  cases q:O.lt (kn key p n) (kn key p (n - 1)) with
  | true=>exact ⟨n,by rw [if_pos rfl]; rfl,Nat.le_refl _,by omega,h,.inr q⟩
  | false =>
   rw [if_neg (by decide)]
   obtain ⟨m,e,a,b,c,d⟩:=asc_ok f (n + 1) (by omega) (h.snoc h1 q)
   exact ⟨m,e,by omega,by omega,c,d.imp (fun z=>by omega) id⟩
theorem rev_kn {p:Array Nat} {i j:Nat} (hj:j <= p.size) (k:Nat):kn key (kas_rev p i j) k = if i <= k /\ k < j then kn key p (i + j - 1 - k) else kn key p k:=by
 have e:=getElem?_mirror_all (i:=i) hj k
 unfold kas_rev
 by_cases z:i <= k /\ k < j
 ·rw [if_pos z] at e ⊢
  exact kn_of e
 ·rw [if_neg z] at e ⊢
  exact kn_of e
theorem rev_flat {p:Array Nat} {i j:Nat} (hj:j <= p.size) (h:∀ k,i <= k -> k < j -> kn key p k = kn key p (j - 1)) (k:Nat):kn key (kas_rev p i j) k = kn key p k:=by
 rw [rev_kn hj]
 split
 ·rw [h _ (by omega) (by omega),h k (by omega) (by omega)]
 ·rfl
theorem yL (p:Array Nat) (i j:Nat):(kas_rev p i j).Perm p:=mirror_perm _ _ _ _
theorem Down.of_kn {p q:Array Nat} {n:Nat} (h:Down O key p n) (e:∀ k,kn key q k = kn key p k):Down O key q n:=fun i j h1 h2=>by
 rw [e,e]
 exact h i j h1 h2
def Flat (key:Nat -> β) (p:Array Nat) (n q:Nat):Prop:=q + 1 <= n /\ ∀ i,n - (q + 1) <= i -> i < n -> kn key p i = kn key p (n - 1)
theorem flat_one {p:Array Nat} {n:Nat} (h:1 <= n):Flat key p n 0:=⟨h,fun i h1 h2=>by
 have:i = n - 1:=by omega
 rw [this]⟩
theorem desc_ok:∀ (f:Nat) (p:Array Nat) (n q:Nat),1 <= n -> n + f <= p.size -> Down O key p n -> Flat key p n q ->
  ∃ p' n' q',run (fun i j=>O.lt (key i) (key j)) (kas_desc f p n q) = (p',n',q') /\ p'.Perm p /\ n <= n' /\ n' <= n + f /\ Down O key p' n' /\ Flat key p' n' q'
 | 0,p,n,q,_,_,h,hq=>⟨p,n,q,rfl,Array.Perm.refl _,Nat.le_refl _,Nat.le_refl _,h,hq⟩
 | f + 1,p,n,q,h1,hz,h,hq=>by
  unfold kas_desc
  show ∃ p' n' q',run (fun i j=>O.lt (key i) (key j)) (if O.lt (kn key p n) (kn key p (n - 1)) = true then (if q > 0 then kas_desc f (kas_rev p (n - (q + 1)) n) (n + 1) 0 else kas_desc f p (n + 1) 0)
   else .ask (p.getD (n - 1) 0) (p.getD n 0) fun d=>if d = true then .ret (p,n,q) else kas_desc f p (n + 1) (q + 1)) = (p',n',q') /\ _
  cases c:O.lt (kn key p n) (kn key p (n - 1)) with
  | true =>
   rw [if_pos rfl]
   have hd:=h.snoc h1 (TO.of_lt c)
   by_cases z:q > 0
   ·rw [if_pos z]
    have fl:=rev_flat (key:=key) (p:=p) (i:=n - (q + 1)) (j:=n) (by omega) hq.2
    obtain ⟨p',n',q',e,a,b,d,g,k⟩:=desc_ok f (kas_rev p (n - (q + 1)) n) (n + 1) 0 (by omega) (by rw [(yL p _ _).size_eq]; omega) (hd.of_kn fl) (flat_one (by omega))
    exact ⟨p',n',q',e,a.trans (yL _ _ _),by omega,by omega,g,k⟩
   ·rw [if_neg z]
    obtain ⟨p',n',q',e,a,b,d,g,k⟩:=desc_ok f p (n + 1) 0 (by omega) (by omega) hd (flat_one (by omega))
    exact ⟨p',n',q',e,a,by omega,by omega,g,k⟩
  | false =>
   rw [if_neg (by decide)]
   show ∃ p' n' q',run (fun i j=>O.lt (key i) (key j)) (if O.lt (kn key p (n - 1)) (kn key p n) = true then KasT.ret (p,n,q) else kas_desc f p (n + 1) (q + 1)) = (p',n',q') /\ _
   cases d:O.lt (kn key p (n - 1)) (kn key p n) with
   | true=>exact ⟨p,n,q,by rw [if_pos rfl]; rfl,Array.Perm.refl _,Nat.le_refl _,by omega,h,hq⟩
   | false =>
    rw [if_neg (by decide)]
    have eq:kn key p n = kn key p (n - 1):=O.ant _ _ c d
    have fl:Flat key p (n + 1) (q + 1):=⟨by have:=hq.1; omega,fun i i1 i2=>by
     rw [show n + 1 - 1 = n by omega]
     by_cases z:i = n
     ·rw [z]
     ·rw [eq]
      exact hq.2 i (by omega) (by omega)⟩
    obtain ⟨p',n',q',e,a,b,g,k,l⟩:=desc_ok f p (n + 1) (q + 1) (by omega) (by omega) (h.snoc h1 d) fl
    exact ⟨p',n',q',e,a,by omega,by omega,k,l⟩
theorem tail3_ok {p:Array Nat} {n nrem:Nat} (h1:1 <= n) (hn:n <= nrem) (hz:nrem <= p.size) (h:Down O key p n) :
  ∃ m p',run (fun i j=>O.lt (key i) (key j)) (kas_tail3 n nrem p) = (m,p') /\ p'.Perm p /\ 1 <= m /\ m <= nrem /\ Up O key p' m:=by
 have up:Up O key (kas_rev p 0 n) n:=fun i j hij hj=>by
  rw [rev_kn (by omega),rev_kn (by omega),if_pos (by omega),if_pos (by omega)]
  exact h _ _ (by omega) (by omega)
 obtain ⟨m,e,a,b,c,_⟩:=asc_ok (nrem - n) n h1 up
 refine ⟨m,kas_rev p 0 n,?_,yL _ _ _,by omega,by omega,c⟩
 unfold kas_tail3
 rw [run_bind,e]
 rfl
theorem descPart_ok {p:Array Nat} {n nrem:Nat} (hn:n + 1 <= nrem) (hz:nrem <= p.size) (h:Down O key p (n + 1)) :
  ∃ m p',run (fun i j=>O.lt (key i) (key j)) (kas_descPart n nrem p) = (m,p') /\ p'.Perm p /\ 1 <= m /\ m <= nrem /\ Up O key p' m:=by
 obtain ⟨p',n',q',e,a,b,c,d,fl⟩:=desc_ok (nrem - (n + 1)) p (n + 1) 0 (by omega) (by omega) h (flat_one (by omega))
 have hz':nrem <= p'.size:=by rw [a.size_eq]; exact hz
 unfold kas_descPart
 rw [run_bind,e]
 show ∃ m p'',run _ (if q' > 0 then kas_tail3 n' nrem (kas_rev p' (n' - (q' + 1)) n') else kas_tail3 n' nrem p') = (m,p'') /\ _
 by_cases z:q' > 0
 ·rw [if_pos z]
  have hf:=rev_flat (key:=key) (p:=p') (i:=n' - (q' + 1)) (j:=n') (by omega) fl.2
  obtain ⟨m,p'',e1,a1,b1,c1,d1⟩:=tail3_ok (nrem:=nrem) (by omega) (by omega) (by rw [(yL p' _ _).size_eq]; exact hz') (d.of_kn hf)
  exact ⟨m,p'',e1,(a1.trans (yL _ _ _)).trans a,b1,c1,d1⟩
 ·rw [if_neg z]
  obtain ⟨m,p'',e1,a1,b1,c1,d1⟩:=tail3_ok (nrem:=nrem) (by omega) (by omega) hz' d
  exact ⟨m,p'',e1,a1.trans a,b1,c1,d1⟩
theorem count_ok {p:Array Nat} {nrem:Nat} (h1:1 <= nrem) (hz:nrem <= p.size) :
  ∃ m p',run (fun i j=>O.lt (key i) (key j)) (kas_count nrem p) = (m,p') /\ p'.Perm p /\ 1 <= m /\ m <= nrem /\ Up O key p' m:=by
 obtain ⟨n,e,a,b,c,d⟩:=asc_ok (O:=O) (key:=key) (p:=p) (nrem - 1) 1 (Nat.le_refl _) (one_up p)
 unfold kas_count
 rw [run_bind,e]
 by_cases z:n = nrem
 ·rw [if_pos (by simpa using z)]
  exact ⟨n,p,rfl,Array.Perm.refl _,a,by omega,c⟩
 rw [if_neg (by simpa using z)]
 have less:O.lt (kn key p n) (kn key p (n - 1)) = true:=d.resolve_left (by omega)
 by_cases g:n > 1
 ·rw [if_pos g]
  show ∃ m p',run _ (if O.lt (kn key p 0) (kn key p (n - 1)) = true then KasT.ret (n,p) else kas_descPart n nrem (kas_rev p 0 n)) = (m,p') /\ _
  cases q:O.lt (kn key p 0) (kn key p (n - 1)) with
  | true =>
   rw [if_pos rfl]
   exact ⟨n,p,rfl,Array.Perm.refl _,a,by omega,c⟩
  | false =>
   rw [if_neg (by decide)]
   have flat:∀ k,0 <= k -> k < n -> kn key p k = kn key p (n - 1):=fun k _ hk =>
    O.ant _ _ (TO.trans q (c 0 k (by omega) hk)) (c k (n - 1) (by omega) (by omega))
   have fl:=rev_flat (key:=key) (p:=p) (i:=0) (j:=n) (by omega) flat
   have dn:Down O key p n:=fun i j hij hj=>by
    rw [flat i (by omega) (by omega),flat j (by omega) hj]
    exact O.refl _
   obtain ⟨m,p',e1,a1,b1,c1,d1⟩:=descPart_ok (O:=O) (key:=key) (p:=kas_rev p 0 n) (n:=n) (nrem:=nrem) (by omega) (by rw [(yL p _ _).size_eq]; exact hz) ((dn.snoc a (TO.of_lt less)).of_kn fl)
   exact ⟨m,p',e1,a1.trans (yL _ _ _),b1,c1,d1⟩
 ·rw [if_neg g]
  have g:n = 1:=by omega
  subst g
  exact descPart_ok (by omega) hz (Down.snoc (Nat.le_refl _) (fun i j hij hj=>by
   have:i = j:=by omega
   subst this
   exact O.refl _) (TO.of_lt less))
theorem place_ok {p:Array Nat} {k:Nat} (hs:Up O key p k):∀ (f l r:Nat),l <= r -> r <= k -> r - l <= f -> (∀ i,i < l -> O.le (kn key p i) (kn key p k)) -> (∀ i,r <= i -> i < k -> O.lt (kn key p k) (kn key p i) = true) ->
  ∃ m,run (fun i j=>O.lt (key i) (key j)) (kas_place p k f l r) = m /\ m <= k /\ (∀ i,i < m -> O.le (kn key p i) (kn key p k)) /\ (∀ i,m <= i -> i < k -> O.lt (kn key p k) (kn key p i) = true)
 | 0,l,r,h1,h2,h3,h4,h5=>⟨l,rfl,by omega,h4,fun i i1 i2=>h5 i (by omega) i2⟩
 | f + 1,l,r,h1,h2,h3,h4,h5=>by
  unfold kas_place
  by_cases z:l ≥ r
  ·rw [if_pos z]
   exact ⟨l,rfl,by omega,h4,fun i i1 i2=>h5 i (by omega) i2⟩
  rw [if_neg z]
  show ∃ m,run _ (if O.lt (kn key p k) (kn key p ((l + r) / 2)) = true then kas_place p k f l ((l + r) / 2) else kas_place p k f ((l + r) / 2 + 1) r) = m /\ _
  cases q:O.lt (kn key p k) (kn key p ((l + r) / 2)) with
  | true =>
   rw [if_pos rfl]
   refine place_ok hs f l ((l + r) / 2) (by omega) (by omega) (by omega) h4 fun i i1 i2=>?_
   cases w:O.lt (kn key p k) (kn key p i) with
   | true=>rfl
   | false =>
    have:=O.tra _ _ _ (hs _ _ i1 i2) w
    rw [q] at this
    exact this.symm
  | false =>
   rw [if_neg (by decide)]
   exact place_ok hs f ((l + r) / 2 + 1) r (by omega) (by omega) (by omega) (fun i i1=>TO.trans (hs i ((l + r) / 2) (by omega) (by omega)) q) h5
theorem bubble_kn {p:Array Nat} {k l:Nat} (hk:k < p.size) (hl:l <= k) (i:Nat):kn key (bubble p k (k - l)) i = if i = l then kn key p k else if l < i /\ i <= k then kn key p (i - 1) else kn key p i:=by
 have e:=getElem?_bubble hk (k - l) (by omega) i
 rw [show k - (k - l) = l by omega] at e
 by_cases z:i = l
 ·rw [if_pos z] at e ⊢
  exact kn_of e
 ·rw [if_neg z] at e ⊢
  by_cases z:l < i /\ i <= k
  ·rw [if_pos z] at e ⊢
   exact kn_of e
  ·rw [if_neg z] at e ⊢
   exact kn_of e
theorem bin_ok:∀ (f:Nat) (p:Array Nat) (k:Nat),k + f <= p.size -> Up O key p k -> ∃ p',run (fun i j=>O.lt (key i) (key j)) (kas_bin f p k) = p' /\ p'.Perm p /\ Up O key p' (k + f)
 | 0,p,k,_,h=>⟨p,rfl,Array.Perm.refl _,h⟩
 | f + 1,p,k,hz,h=>by
  obtain ⟨m,e,a,b,c⟩:=place_ok h k 0 k (by omega) (Nat.le_refl _) (by omega) (fun i hi=>by omega) (fun i i1 i2=>by omega)
  have up:Up O key (bubble p k (k - m)) (k + 1):=fun i j hij hj=>by
   rw [bubble_kn (by omega) a,bubble_kn (by omega) a]
   repeat' split
   all_goals first
    | (exfalso; omega)
    | exact O.refl _
    | exact b _ (by omega)
    | exact TO.of_lt (c _ (by omega) (by omega))
    | exact h _ _ (by omega) (by omega)
  obtain ⟨p',e1,a1,b1⟩:=bin_ok f (bubble p k (k - m)) (k + 1) (by rw [bubble_size]; omega) up
  unfold kas_bin
  rw [run_bind,e]
  exact ⟨p',e1,a1.trans (bubble_perm _ _ _),by rw [show k + (f + 1) = k + 1 + f by omega]; exact b1⟩
theorem sort_ok {n:Nat} (h1:1 <= n):∃ p',run (fun i j=>O.lt (key i) (key j)) (kas_sort n) = p' /\ p'.Perm (List.toArray (List.range n)) /\ Up O key p' n:=by
 have hz:(List.toArray (List.range n)).size = n:=by simp
 obtain ⟨m,p',e,a,b,c,d⟩:=count_ok (O:=O) (key:=key) (p:=List.toArray (List.range n)) (nrem:=n) h1 (Nat.le_of_eq hz.symm)
 unfold kas_sort
 rw [run_bind,e]
 show ∃ p'',run _ (if m < n then kas_bin (n - max m 1) p' (max m 1) else KasT.ret p') = p'' /\ _
 have em:max m 1 = m:=by omega
 rw [em]
 by_cases z:m < n
 ·rw [if_pos z]
  obtain ⟨p'',e1,a1,b1⟩:=bin_ok (n - m) p' m (by rw [a.size_eq,hz]; omega) d
  exact ⟨p'',e1,a1.trans a,by rw [show m + (n - m) = n by omega] at b1; exact b1⟩
 ·rw [if_neg z]
  have z:m = n:=by omega
  rw [z] at d
  exact ⟨p',rfl,a,d⟩
end
def Asks (n:Nat) {β:Type} (R:β -> Prop):KasT β -> Prop
 | .ret a=>R a
 | .ask i j k=>i < n /\ j < n /\ ∀ b,Asks n R (k b)
theorem Asks.bind {n:Nat} {β γ:Type} {R:β -> Prop} {R':γ -> Prop} {f:β -> KasT γ} (hf:∀ a,R a -> Asks n R' (f a)):∀ {t:KasT β},Asks n R t -> Asks n R' (t.bind f)
 | .ret a,h=>hf a h
 | .ask i j k,h=>⟨h.1,h.2.1,fun b=>Asks.bind hf (h.2.2 b)⟩
theorem Asks.wp {n:Nat} {β:Type} {R:β -> Prop} {cmp:Nat -> Nat -> (Bool -> Shared -> Prop) -> Shared -> Prop} {lt:Nat -> Nat -> Bool} {s:Shared} (hc:∀ i j,i < n -> j < n -> ∀ C:Bool -> Shared -> Prop,C (lt i j) s -> cmp i j C s) {Q:β -> Shared -> Prop} :
  ∀ {t:KasT β},Asks n R t -> Q (run lt t) s -> t.kasWp cmp Q s
 | .ret _,_,q=>q
 | .ask i j k,h,q=>hc i j h.1 h.2.1 _ (Asks.wp hc (h.2.2 _) q)
def Bd (n:Nat) (p:Array Nat):Prop:=∀ i:Nat,p.getD i 0 < n
theorem Bd.perm {n:Nat} {p q:Array Nat} (h:Bd n p) (e:q.Perm p):Bd n q:=fun i=>by
 rw [Array.getD_eq_getD_getElem?]
 rcases Nat.lt_or_ge i q.size with z | z
 ·rw [getElem?_pos q i z]
  have hm:q[i] ∈ p:=e.mem_iff.mp (Array.getElem_mem z)
  obtain ⟨j,hj,ej⟩:=Array.getElem_of_mem hm
  have:=h j
  rw [Array.getD_eq_getD_getElem?,getElem?_pos p j hj,ej] at this
  exact this
 ·rw [Array.getElem?_eq_none z]
  have:=h p.size
  rw [Array.getD_eq_getD_getElem?,Array.getElem?_eq_none (Nat.le_refl _)] at this
  exact this
theorem asc_asks {n:Nat} {p:Array Nat} (h:Bd n p):∀ f m:Nat,Asks n (fun _=>True) (kas_asc p f m)
 | 0,m=>trivial
 | f + 1,m=>⟨h _,h _,fun c=>by
  show Asks n _ (if c = true then KasT.ret m else kas_asc p f (m + 1))
  split
  ·trivial
  ·exact asc_asks h f (m + 1)⟩
theorem qL {n:Nat}:∀ (f:Nat) (p:Array Nat) (m q:Nat),Bd n p -> Asks n (fun r=>Bd n r.1) (kas_desc f p m q)
 | 0,p,m,q,h=>h
 | f + 1,p,m,q,h=>⟨h _,h _,fun c=>by
  cases c with
  | true =>
   show Asks n _ (if q > 0 then kas_desc f (kas_rev p (m - (q + 1)) m) (m + 1) 0 else kas_desc f p (m + 1) 0)
   split
   ·exact qL f _ _ _ (h.perm (yL _ _ _))
   ·exact qL f _ _ _ h
  | false =>
   refine ⟨h _,h _,fun d=>?_⟩
   cases d with
   | true=>exact h
   | false=>exact qL f _ _ _ h⟩
theorem tail3_asks {n m r:Nat} {p:Array Nat} (h:Bd n p):Asks n (fun r=>Bd n r.2) (kas_tail3 m r p):=by
 have h':Bd n (kas_rev p 0 m):=h.perm (yL _ _ _)
 unfold kas_tail3
 refine Asks.bind (fun a _=>?_) (asc_asks h' _ _)
 exact h'
theorem qJ {n m r:Nat} {p:Array Nat} (h:Bd n p):Asks n (fun r=>Bd n r.2) (kas_descPart m r p):=by
 refine Asks.bind (fun a ha=>?_) (qL _ _ _ _ h)
 show Asks n _ (if a.2.2 > 0 then _ else _)
 split
 ·exact tail3_asks (Bd.perm ha (yL _ _ _))
 ·exact tail3_asks ha
theorem count_asks {n r:Nat} {p:Array Nat} (h:Bd n p):Asks n (fun r=>Bd n r.2) (kas_count r p):=by
 refine Asks.bind (fun a _=>?_) (asc_asks h _ _)
 show Asks n _ (if (a == r) = true then _ else _)
 split
 ·exact h
 ·split
  ·refine ⟨h _,h _,fun c=>?_⟩
   cases c with
   | true=>exact h
   | false=>exact qJ (h.perm (yL _ _ _))
  ·exact qJ h
theorem qY {n k:Nat} {p:Array Nat} (h:Bd n p):∀ f l r:Nat,Asks n (fun _=>True) (kas_place p k f l r)
 | 0,l,r=>trivial
 | f + 1,l,r=>by
  unfold kas_place
  split
  ·trivial
  ·refine ⟨h _,h _,fun c=>?_⟩
   cases c with
   | true=>exact qY h f _ _
   | false=>exact qY h f _ _
theorem bin_asks {n:Nat}:∀ (f:Nat) (p:Array Nat) (k:Nat),Bd n p -> Asks n (fun r=>Bd n r) (kas_bin f p k)
 | 0,p,k,h=>h
 | f + 1,p,k,h=>Asks.bind (fun l _=>bin_asks f _ _ (h.perm (bubble_perm _ _ _))) (qY h _ _ _)
theorem sort_asks {n:Nat} (h1:1 <= n):Asks n (fun r=>Bd n r) (kas_sort n):=by
 have h:Bd n (List.toArray (List.range n)):=fun i=>by
  rw [Array.getD_eq_getD_getElem?,List.getElem?_toArray]
  rcases Nat.lt_or_ge i n with z | z
  ·rw [List.getElem?_range z]
   exact z
  ·rw [List.getElem?_eq_none (by rw [List.length_range]; exact z)]
   exact h1
 refine Asks.bind (fun a ha=>?_) (count_asks h)
 show Asks n _ (if a.1 < n then _ else _)
 split
 ·exact bin_asks _ _ _ ha
 ·exact ha
end AxK
namespace L2
open PySem PyProof.Rows
mutual
def Lt1:PyData -> PyData -> Bool -> Prop
 | .int a,.int b,r=>r = decide (a < b)
 | .str a,.str b,r=>r = decide (a.cps.toList < b.cps.toList)
 | .tuple xs,.tuple ys,r=>LtL xs ys r
 | _,_,_=>False
def LtL:List PyData -> List PyData -> Bool -> Prop
 | [],ys,r=>r = decide (0 < ys.length)
 | _ :: _,[],r=>r = false
 | x :: xs,y :: ys,r=>(PyData.eqv x y = true /\ LtL xs ys r) \/ (PyData.eqv x y = false /\ Lt1 x y r)
end
section
variable {prog:Program} {w:World}
def Asked (prog:Program) (w:World) (A:Around) (r:Bool) (fin:Bool) (s:Shared):List (Value × Value) -> Prop
 | []=>fin = r
 | p :: l=>(∀ (Q:Bool -> Shared -> Prop) (E:Value -> Shared -> Prop),Q true s -> wpAny (model prog w) A (eqBool p.1 p.2) Q E s) /\ Asked prog w A r fin s l \/
  (∀ (Q:Bool -> Shared -> Prop) (E:Value -> Shared -> Prop),Q false s -> wpAny (model prog w) A (eqBool p.1 p.2) Q E s) /\
  (∀ (Q:Value -> Shared -> Prop) (E:Value -> Shared -> Prop),Q (.bool r) s -> wpAny (model prog w) A (richCompare .Lt p.1 p.2) Q E s)
theorem tuple_lt_tree {A:Around} {E:Value -> Shared -> Prop} {s:Shared} {a b:Addr} {oa ob:Obj} {xs ys:Array Value} {na nb:Nat} {r:Bool} {P:Fin -> Shared -> Prop}
  (hoa:s.heap.get? a = some oa) (hda:oa.data = .seq xs na) (hob:s.heap.get? b = some ob) (hcb:ob.cls = .type "tuple") (hdb:ob.data = .seq ys nb)
  (hq:Asked prog w A r (decide (xs.size < ys.size)) s (xs.toList.zip ys.toList)) (h:P (.done (.ret (.bool r))) s) :
  wpAny (model prog w) A (Builtin.«tuple.__lt__» ⟨[.ref a,.ref b],[]⟩) P E s:=by
 have hTb:s.TypeIs (.ref b) "tuple":=⟨ob,hob,hcb⟩
 show wpAny _ _ (isInstance (.ref b) (.type "tuple") >>= _) _ _ s
 refine wpAny_bind (wpAny_isInstance hTb isSubtype_tuple_tuple ?_)
 simp only [Bool.not_true,Bool.false_eq_true,if_false]
 refine wpAny_bind (wpAny_tupleItemsOf hoa hda (wpAny_bind (wpAny_tupleItemsOf hob hdb (wpAny_bind ?_))))
 refine wpAny_forIn_list _ (fun rest c s'=>c.1 = none /\ s' = s /\ Asked prog w A r (decide (xs.size < ys.size)) s rest) _ ?_ ?_ _ _ ⟨rfl,rfl,hq⟩
 ·rintro ⟨u,v⟩ rest c s' ⟨hc,rfl,ha⟩
  rcases ha with ⟨h1,h2⟩ | ⟨h1,h2⟩
  ·refine wpAny_bind (h1 _ _ ?_)
   simp only [Bool.not_true,Bool.false_eq_true,if_false]
   exact wpAny_pure ⟨rfl,rfl,h2⟩
  ·refine wpAny_bind (h1 _ _ ?_)
   simp only [Bool.not_false,if_true]
   refine wpAny_bind (wpAny_rule (wpAny_bind (h2 _ _ (wpAny_bind (wpAny_pure (wpAny_pure ?_))))))
   exact wpAny_pure h
 ·rintro ⟨c1,c2⟩ s' ⟨hc,rfl,ha⟩
  simp only at hc
  subst hc
  refine wpAny_pure ?_
  have ha:decide (xs.size < ys.size) = r:=ha
  show P (.done (.ret (.bool (decide (xs.size < ys.size))))) s'
  rw [ha]
  exact h
def LtAt (prog:Program) (w:World) (d:PyData):Prop:=∀ (e:PyData) (r:Bool) (A:Around) (s:Shared) (a b:Value) (as bs:List Addr),Reads s.heap a d as -> Reads s.heap b e bs -> d.canLay0 = true -> e.canLay0 = true -> A.units + min d.depth e.depth < cLine -> Lt1 d e r ->
  ∀ (Q:Value -> Shared -> Prop) (E:Value -> Shared -> Prop),Q (.bool r) s -> wpAny (model prog w) A (richCompare .Lt a b) Q E s
def LtsAt (prog:Program) (w:World) (xs:List PyData):Prop:=∀ (ys:List PyData) (r:Bool) (A:Around) (s:Shared) (vs us:List Value) (as bs:List Addr),ReadsAll s.heap vs xs as -> ReadsAll s.heap us ys bs -> PyData.canLayAll0 xs = true -> PyData.canLayAll0 ys = true -> A.units + min (PyData.depthAll xs) (PyData.depthAll ys) < cLine -> LtL xs ys r ->
  ∀ k:Nat,Asked prog w A r (decide (k + vs.length < k + us.length)) s (vs.zip us)
theorem lt_int_at (i:Int):LtAt prog w (.int i):=by
 intro e r A s a b as bs ra rb _ _ _ h Q E q
 cases e with
 | int j =>
  cases ra
  cases rb
  cases (show r = _ from h)
  exact (lt_int q:wpAny _ _ (compareOp .Lt _ _) _ _ _)
 | _=>exact False.elim h
theorem lt_str_at (i:Str):LtAt prog w (.str i):=by
 intro e r A s a b as bs ra rb _ _ _ h Q E q
 cases e with
 | str j =>
  cases ra
  cases rb
  cases (show r = _ from h)
  exact (lt_str q:wpAny _ _ (compareOp .Lt _ _) _ _ _)
 | _=>exact False.elim h
theorem lt_tup_at {xs:List PyData} (ih:LtsAt prog w xs):LtAt prog w (.tuple xs):=by
 intro e r A s a b as bs ra rb ha hb hu h Q E q
 cases e with
 | tuple ys =>
  cases ra with
  | tuple h1 h2 h3 h4 =>
   cases rb with
   | tuple k1 k2 k3 k4 =>
    have asked:=ih ys r A.in1 s _ _ _ _ h4 k4 ha hb (SeqAt.room_in hu) h 0
    rw [Nat.zero_add,Nat.zero_add,Array.length_toList,Array.length_toList] at asked
    exact wpAny_richCompare_same_room (op:=.Lt) ⟨_,h1,h2⟩ ⟨_,k1,k2⟩ F.slot_tuple_lt
     (wpAny_call_entry F.slot_tuple_lt ⟨_,h1,h2⟩ F.entry_tuple_lt (tuple_lt_tree h1 h3 k1 k2 k3 (r:=r) asked ⟨_,rfl,(fun e=>nomatch e),q⟩) (F.args_tuple_lt_2 _ _)) (SeqAt.room_here hu)
 | _=>exact False.elim h
theorem lts_nil:LtsAt prog w []:=by
 intro ys r A s vs us as bs rx ry _ _ _ h k
 cases rx
 have e:us.length = ys.length:=SeqAt.ReadsAll.length _ _ _ ry
 rw [List.zip_nil_left]
 show decide (k + 0 < k + us.length) = r
 rw [show r = _ from h,e]
 exact decide_eq_decide.mpr (by omega)
theorem lts_cons {x:PyData} {xs:List PyData} (h1:LtAt prog w x) (h2:LtsAt prog w xs):LtsAt prog w (x :: xs):=by
 intro ys r A s vs us as bs rx ry hx hy hu h k
 cases ys with
 | nil =>
  cases ry
  cases rx
  rw [List.zip_nil_right]
  show decide (k + _ < k + 0) = r
  rw [show r = _ from h]
  exact decide_eq_false (by omega)
 | cons y ys =>
  have hx':x.canLay0 = true /\ PyData.canLayAll0 xs = true:=by simpa [PyData.canLayAll0] using hx
  have hy':y.canLay0 = true /\ PyData.canLayAll0 ys = true:=by simpa [PyData.canLayAll0] using hy
  have hu1:A.units + min x.depth y.depth < cLine:=SeqAt.room_head hu
  have hu2:A.units + min (PyData.depthAll xs) (PyData.depthAll ys) < cLine:=SeqAt.room_tail hu
  cases rx with
  | @cons v vs _ _ _ _ p1 p2 =>
   cases ry with
   | @cons u us _ _ _ _ q1 q2 =>
    rw [List.zip_cons_cons]
    have h:(PyData.eqv x y = true /\ LtL xs ys r) \/ (PyData.eqv x y = false /\ Lt1 x y r):=h
    rcases h with ⟨e,h⟩ | ⟨e,h⟩
    ·refine .inl ⟨fun Q E q=>SeqAt.eqBoolOverData prog w A E s _ _ _ _ _ _ Q p1 q1 hx'.1 hy'.1 hu1 (by rw [e]; exact q),?_⟩
     have ih:=h2 ys r A s _ _ _ _ p2 q2 hx'.2 hy'.2 hu2 h (k + 1)
     rw [List.length_cons,List.length_cons,show k + (vs.length + 1) = k + 1 + vs.length by omega,show k + (us.length + 1) = k + 1 + us.length by omega]
     exact ih
    ·exact .inr ⟨fun Q E q=>SeqAt.eqBoolOverData prog w A E s _ _ _ _ _ _ Q p1 q1 hx'.1 hy'.1 hu1 (by rw [e]; exact q),fun Q E q=>h1 y r A s _ _ _ _ p1 q1 hx'.1 hy'.1 hu1 h Q E q⟩
mutual
theorem lt1_ok:∀ d:PyData,LtAt prog w d
 | .int i=>lt_int_at i
 | .str i=>lt_str_at i
 | .tuple xs=>lt_tup_at (ltL_ok xs)
 | .none=>fun e r A s a b as bs ra rb _ _ _ h=>False.elim h
 | .bool _=>fun e r A s a b as bs ra rb _ _ _ h=>False.elim h
 | .list _=>fun e r A s a b as bs ra rb _ _ _ h=>False.elim h
 | .dict _=>fun e r A s a b as bs ra rb _ _ _ h=>False.elim h
theorem ltL_ok:∀ xs:List PyData,LtsAt prog w xs
 | []=>lts_nil
 | x :: xs=>lts_cons (lt1_ok x) (ltL_ok xs)
end
end
end L2
namespace L2
open PySem PySem.Spec PyProof.Rows PySem.W AxK
section
variable {prog:Program} {w:World} {A:Around} {E:Value -> Shared -> Prop} {s:Shared}
theorem sort_shell {a:Addr} {vs:List Value} {n:Nat} {κ:SortKind} {lt:Nat -> Nat -> Bool} {P:PySem.Fin -> Shared -> Prop} (ho:s.heap.get? a = some (seqObj "list" vs.toArray n)) (h64:vs.length < 64)
  (hk:2 <= vs.length -> ∀ s1:Shared,(∀ b o,b ≠ a -> s.heap.get? b = some o -> s1.heap.get? b = some o) -> (∀ (Q:SortKind -> Shared -> Prop) (E':Value -> Shared -> Prop),Q κ s1 -> wpAny (model prog w) A (keyKind' vs.toArray) Q E' s1) /\
   ∀ i j,i < vs.length -> j < vs.length -> ∀ C:Bool -> Shared -> Prop,C (lt i j) s1 -> kas_ask prog w A κ vs i j C s1)
  (h:∀ p:Array Nat,(vs.length < 2 /\ p = List.toArray (List.range vs.length)) \/ (2 <= vs.length /\ p = run lt (kas_sort vs.length)) -> P (.done (.ret .none)) { s with heap:=sortedHeap s.heap a vs (List.toArray (p.toList.map fun i=>vs.getD i Value.none)) }) :
  wpAny (model prog w) A (Builtin.«list.sort» ⟨[.ref a],[]⟩) P E s:=by
 have ha:a < s.heap.objs.size:=Heap.lt_size ho
 have e0:=Heap.SameBut.update s.heap a (Obj.mapSeq fun _=>(#[]:Array Value))
 obtain ⟨n1,ho1⟩:∃ e1,(s.heap.update a (Obj.mapSeq fun _=>(#[]:Array Value))).get? a = some (seqObj "list" #[] e1):=⟨_,get?_update_seq ho fun _=>#[]⟩
 have ho2:(((s.heap.update a (Obj.mapSeq fun _=>(#[]:Array Value))).push (seqObj "tuple" vs.toArray 0)).push (seqObj "list" #[] 0)).get? a = some (seqObj "list" #[] n1):=Heap.get?_push_of_some _ (Heap.get?_push_of_some _ ho1)
 have keep:∀ b o,b ≠ a -> s.heap.get? b = some o -> (((s.heap.update a (Obj.mapSeq fun _=>(#[]:Array Value))).push (seqObj "tuple" vs.toArray 0)).push (seqObj "list" #[] 0)).get? b = some o:=fun b o hb q =>
  Heap.get?_push_of_some _ (Heap.get?_push_of_some _ (by rw [Heap.get?_update_ne _ _ _ _ hb]; exact q))
 have hsz:vs.toArray.size = vs.length:=by simp
 rw [list_sort_plain]
 refine wpAny_bind (listItems_at ho rfl (wpAny_bind (listUpdate_at ho rfl (wpAny_bind (seqEpoch_at ho1 rfl (wpAny_bind (wpAny_newTuple (wpAny_bind (wpAny_newList (wpAny_holding ?_) (Nat.zero_le _))) (by show vs.length <= _; rw [sizeLine_eq]; omega))))) (by rw [List.size_toArray,sizeLine_eq]; omega) (Nat.zero_le _))))
 show wpAny (model prog w) A _ P E { s with heap:=((s.heap.update a (Obj.mapSeq fun _=>#[])).push (seqObj "tuple" vs.toArray 0)).push (seqObj "list" #[] 0) }
 dsimp only
 by_cases h2:vs.length < 2
 ·have fin:=h (List.toArray (List.range vs.length)) (.inl ⟨h2,rfl⟩)
  have eo:(List.toArray ((List.toArray (List.range vs.length)).toList.map fun i=>vs.getD i Value.none)) = (vs.toArray.zip vs.toArray).map (·.2):=by
   have e:=kas_range (vs.toArray.zip vs.toArray)
   rw [show (vs.toArray.zip vs.toArray).size = vs.length by simp] at e
   exact (kat_snds (ks:=vs) (vs:=vs) (st:=SortSt.mk' general' (vs.toArray.zip vs.toArray) #[] 7 none) rfl e.symm).symm
  rw [eo] at fin
  rw [if_pos (by rw [hsz]; exact h2),if_pos (by rw [hsz]; exact h2)]
  refine wpAny_bind (wpAny_pure ?_)
  rw [StateT.run_pure]
  refine wpAny_bind (wpAny_pure ?_)
  dsimp only
  refine wpAny_bind (seqEpoch_at ho2 rfl (wpAny_bind (listUpdate_at ho2 rfl ?_ (Nat.zero_le _) (by rw [Array.size_map,Array.size_zip,hsz,Nat.min_self,sizeLine_eq]; omega))))
  simp only [bne_self_eq_false,Bool.false_eq_true,if_false]
  exact wpAny_pure fin
 ·have h2':2 <= vs.length:=by omega
  rw [if_neg (by rw [hsz]; exact h2),if_neg (by rw [hsz]; exact h2)]
  obtain ⟨k1,k2⟩:=hk h2' { s with heap:=((s.heap.update a (Obj.mapSeq fun _=>(#[]:Array Value))).push (seqObj "tuple" vs.toArray 0)).push (seqObj "list" #[] 0) } keep
  refine wpAny_bind (k1 _ _ ?_)
  have asked:(kas_sort vs.length).kasWp (kas_ask prog w A κ vs) (fun p s'=>p = run lt (kas_sort vs.length) /\ s' = { s with heap:=((s.heap.update a (Obj.mapSeq fun _=>(#[]:Array Value))).push (seqObj "tuple" vs.toArray 0)).push (seqObj "list" #[] 0) })
    { s with heap:=((s.heap.update a (Obj.mapSeq fun _=>(#[]:Array Value))).push (seqObj "tuple" vs.toArray 0)).push (seqObj "list" #[] 0) }:=(sort_asks (by omega)).wp k2 ⟨rfl,rfl⟩
  refine wpAny_bind (wpAny_mono (kat_run (Q:=fun st' s'=>arrOf st' = (run lt (kas_sort vs.length)).map (kas_item (vs.toArray.zip vs.toArray)) /\ failedOf st' = none /\ (run lt (kas_sort vs.length)).size = vs.length /\ s' = { s with heap:=((s.heap.update a (Obj.mapSeq fun _=>(#[]:Array Value))).push (seqObj "tuple" vs.toArray 0)).push (seqObj "list" #[] 0) })
   rfl h2' h64 (fun p' st' s' a1 a2 a3 a4=>by obtain ⟨rfl,rfl⟩:=a4; exact ⟨a2,a3,a1,rfl⟩) asked) ?_ fun _ _ e=>e)
  rintro ⟨⟨⟩,st'⟩ s' ⟨har,hf,hp,rfl⟩
  dsimp only
  have hout:=kat_snds rfl har
  rw [hout]
  refine wpAny_bind (seqEpoch_at ho2 rfl (wpAny_bind (listUpdate_at ho2 rfl ?_ (Nat.zero_le _) (by rw [List.size_toArray,List.length_map,Array.length_toList,hp,sizeLine_eq]; omega))))
  rw [hf]
  simp only [bne_self_eq_false,Bool.false_eq_true,if_false]
  exact wpAny_pure (h _ (.inr ⟨h2',rfl⟩))
def First (T:String):PyData -> Prop
 | .tuple (.int _ :: _)=>T = "int"
 | .tuple (.str _ :: _)=>T = "str"
 | .tuple (.tuple _ :: _)=>T = "tuple"
 | _=>False
def KeepAt (h h':Heap) (d:PyData):Prop:=∀ (v:Value) (as:List Addr),d.canLay0 = true -> Reads h v d as -> Reads h' v d as
def KeepsAt (h h':Heap) (ds:List PyData):Prop:=∀ (vs:List Value) (as:List Addr),PyData.canLayAll0 ds = true -> ReadsAll h vs ds as -> ReadsAll h' vs ds as
mutual
theorem reads_keep {h h':Heap} (k:∀ b o,h.get? b = some o -> h'.get? b = some o):∀ d:PyData,KeepAt h h' d
 | .none=>fun v as _ r=>by cases r; exact .none
 | .bool _=>fun v as _ r=>by cases r; exact .bool _
 | .int _=>fun v as _ r=>by cases r; exact .int _ _
 | .str _=>fun v as _ r=>by cases r; exact .str _ _
 | .list xs=>fun v as l r=>by
  have ih:=yT k xs
  cases r with
  | list h1 h2 h3 h4=>exact .list (k _ _ h1) h2 h3 (ih _ _ l h4)
 | .tuple xs=>fun v as l r=>by
  have ih:=yT k xs
  cases r with
  | tuple h1 h2 h3 h4=>exact .tuple (k _ _ h1) h2 h3 (ih _ _ l h4)
 | .dict kvs=>fun v as l r=>nomatch l
theorem yT {h h':Heap} (k:∀ b o,h.get? b = some o -> h'.get? b = some o):∀ ds:List PyData,KeepsAt h h' ds
 | []=>fun vs as _ r=>by cases r; exact .nil
 | d :: ds=>fun vs as l r=>by
  have i1:=reads_keep k d
  have i2:=yT k ds
  have l:d.canLay0 = true /\ PyData.canLayAll0 ds = true:=by simpa [PyData.canLayAll0] using l
  cases r with
  | cons h1 h2=>exact .cons (i1 _ _ l.1 h1) (i2 _ _ l.2 h2)
end
theorem firsts_of {h:Heap} {T:String}:∀ {ds:List PyData} {us:List Value} {as:List Addr},ReadsAll h us ds as -> (∀ d ∈ ds,First T d) -> ∃ fs:List Value,fs.length = ds.length /\ KatTups h us fs /\ ∀ v ∈ fs,(T = "int" /\ ∃ i t,v = .int i t) \/ (T = "str" /\ ∃ i t,v = .str i t) \/ (T = "tuple" /\ ∃ a o,v = .ref a /\ h.get? a = some o /\ o.cls = .type "tuple")
 | [],_,_,r,_=>by
  cases r
  exact ⟨[],rfl,KatTups.nil,fun v hv=>(nomatch hv)⟩
 | d :: ds,_,_,r,hf=>by
  cases r with
  | cons r1 r2 =>
   obtain ⟨fs,e1,e2,e3⟩:=firsts_of r2 fun x hx=>hf x (List.mem_cons_of_mem _ hx)
   have hd:=hf d (List.mem_cons_self ..)
   unfold First at hd
   split at hd
   all_goals first
    | exact hd.elim
    | (cases r1 with
     | tuple h1 h2 h3 h4 =>
      rename_i vsx nx
      cases q:vsx.toList with
      | nil=>rw [q] at h4; cases h4
      | cons v0 vr =>
       rw [q] at h4
       have q0:vsx[0]? = some v0:=by rw [← Array.getElem?_toList,q]; rfl
       cases h4 with
       | cons g1 g2 =>
        refine ⟨v0 :: fs,by rw [List.length_cons,List.length_cons,e1],KatTups.cons h1 h2 h3 q0 e2,fun v hv=>?_⟩
        rcases List.mem_cons.mp hv with rfl | hv
        ·cases g1
         first
          | exact .inl ⟨hd,_,_,rfl⟩
          | exact .inr (.inl ⟨hd,_,_,rfl⟩)
          | (rename_i k1 k2 k3 k4; exact .inr (.inr ⟨hd,_,_,rfl,k1,k2⟩))
        ·exact e3 v hv)
theorem kind_ok {T:String} {ds:List PyData} {us:List Value} {as:List Addr} (r:ReadsAll s.heap us ds as) (hf:∀ d ∈ ds,First T d) (hn:0 < ds.length) {Q:SortKind -> Shared -> Prop} (q:Q (tuples' (Value.type T != Value.type "tuple")) s) :
  wpAny (model prog w) A (keyKind' us.toArray) Q E s:=by
 obtain ⟨fs,e1,e2,e3⟩:=firsts_of r hf
 refine kat_kind e2 (by omega) (T:=.type T) (fun v hv=>?_) (by simp) q
 rcases e3 v hv with ⟨rfl,i,t,rfl⟩ | ⟨rfl,i,t,rfl⟩ | ⟨rfl,a,o,rfl,ho,hc⟩
 ·exact .now
 ·exact .now
 ·rw [← hc]
  exact (Looks.ld ho).andThen .now
def Plain2 (x y:PyData):Prop:=(∃ i j,x = .int i /\ y = .int j) \/ (∃ i j,x = .str i /\ y = .str j)
theorem lex_ok {b:Bool} {Q:Bool -> Shared -> Prop} {r:Bool} (q:Q r s) (xs:List PyData):∀ (ys:List PyData) (vs us:List Value) (as bs:List Addr) (i k:Nat),ReadsAll s.heap vs xs as -> ReadsAll s.heap us ys bs -> PyData.canLayAll0 xs = true -> PyData.canLayAll0 ys = true -> A.units + min (PyData.depthAll xs) (PyData.depthAll ys) < cLine ->
  LtL xs ys r -> (b = true -> i = 0 -> ∀ x xs' y ys',xs = x :: xs' -> ys = y :: ys' -> Plain2 x y) -> KatLex prog w A b (decide (k + vs.length < k + us.length)) Q (vs.zip us) i s:=by
 induction xs with
 | nil =>
  intro ys vs us as bs i k rx ry _ _ _ h _
  cases rx
  have e:us.length = ys.length:=SeqAt.ReadsAll.length _ _ _ ry
  rw [List.zip_nil_left]
  show Q (decide (k + 0 < k + us.length)) s
  rw [show decide (k + 0 < k + us.length) = r by rw [show r = _ from h,e]; exact decide_eq_decide.mpr (by omega)]
  exact q
 | cons x xs ih =>
  intro ys vs us as bs i k rx ry hx hy hu h hb
  cases ys with
  | nil =>
   cases ry
   cases rx with
   | @cons v vs _ _ _ _ p1 p2 =>
    rw [List.zip_nil_right]
    show Q (decide (k + (vs.length + 1) < k + 0)) s
    rw [show decide (k + (vs.length + 1) < k + 0) = r by rw [show r = _ from h]; exact decide_eq_false (by omega)]
    exact q
  | cons y ys =>
   have hx':x.canLay0 = true /\ PyData.canLayAll0 xs = true:=by simpa [PyData.canLayAll0] using hx
   have hy':y.canLay0 = true /\ PyData.canLayAll0 ys = true:=by simpa [PyData.canLayAll0] using hy
   have hu1:A.units + min x.depth y.depth < cLine:=SeqAt.room_head hu
   have hu2:A.units + min (PyData.depthAll xs) (PyData.depthAll ys) < cLine:=SeqAt.room_tail hu
   cases rx with
   | @cons v vs _ _ _ _ p1 p2 =>
    cases ry with
    | @cons u us _ _ _ _ q1 q2 =>
     rw [List.zip_cons_cons]
     refine kat_cons ?_
     have h:(PyData.eqv x y = true /\ LtL xs ys r) \/ (PyData.eqv x y = false /\ Lt1 x y r):=h
     rcases h with ⟨e,h⟩ | ⟨e,h⟩
     ·refine SeqAt.eqBoolOverData prog w A _ s _ _ _ _ _ _ _ p1 q1 hx'.1 hy'.1 hu1 ?_
      rw [e]
      refine kat_yes ?_
      have ih:=ih ys vs us _ _ (i + 1) (k + 1) p2 q2 hx'.2 hy'.2 hu2 h (fun _ z=>by omega)
      rw [List.length_cons,List.length_cons,show k + (vs.length + 1) = k + 1 + vs.length by omega,show k + (us.length + 1) = k + 1 + us.length by omega]
      exact ih
     ·refine SeqAt.eqBoolOverData prog w A _ s _ _ _ _ _ _ _ p1 q1 hx'.1 hy'.1 hu1 ?_
      rw [e]
      refine kat_no ?_
      cases c:(b && i == 0) with
      | true =>
       have c':b = true /\ i = 0:=by simpa using c
       rcases hb c'.1 c'.2 x xs y ys rfl rfl with ⟨i1,j1,rfl,rfl⟩ | ⟨i1,j1,rfl,rfl⟩
       ·cases p1
        cases q1
        refine kat_lt_int ?_
        rw [← (show r = _ from h)]
        exact q
       ·cases p1
        cases q1
        refine kas_lt_str ?_
        rw [← (show r = _ from h)]
        exact q
      | false=>exact kat_one _ _ (lt1_ok x y r A s _ _ _ _ p1 q1 hx'.1 hy'.1 hu1 h _ _ q)
theorem key_lt_ok {T:String} {d e:PyData} {u v:Value} {as bs:List Addr} {r:Bool} {C:Bool -> Shared -> Prop} (ru:Reads s.heap u d as) (rv:Reads s.heap v e bs) (fd:First T d) (fe:First T e) (ld:d.canLay0 = true) (le:e.canLay0 = true) (hu:A.units + min d.depth e.depth < cLine) (h:Lt1 d e r) (c:C r s) :
  wpAny (model prog w) A (keyLt' (tuples' (Value.type T != Value.type "tuple")) u v) C (fun _ _=>False) s:=by
 cases d with
 | tuple xs =>
  cases e with
  | tuple ys =>
   cases ru with
   | tuple h1 h2 h3 h4 =>
    cases rv with
    | tuple k1 k2 k3 k4 =>
     refine kat_lt h1 h3 k1 k3 ?_
     have:=lex_ok (prog:=prog) (w:=w) (A:=A) (b:=(Value.type T != Value.type "tuple")) c xs ys _ _ _ _ 0 0 h4 k4 ld le (by
      have e1:(PyData.tuple xs).depth = PyData.depthAll xs + 1:=rfl
      have e2:(PyData.tuple ys).depth = PyData.depthAll ys + 1:=rfl
      rw [e1,e2] at hu
      omega) h (fun hb _ x xs' y ys' ex ey=>by
      subst ex ey
      unfold First at fd fe
      split at fd
      ·rename_i e
       cases e
       split at fe
       ·rename_i e; cases e; exact .inl ⟨_,_,rfl,rfl⟩
       ·rw [fd] at fe; exact absurd fe (by decide)
       ·rw [fd] at fe; exact absurd fe (by decide)
       ·exact fe.elim
      ·rename_i e
       cases e
       split at fe
       ·rw [fd] at fe; exact absurd fe (by decide)
       ·rename_i e; cases e; exact .inr ⟨_,_,rfl,rfl⟩
       ·rw [fd] at fe; exact absurd fe (by decide)
       ·exact fe.elim
      ·subst fd
       simp at hb
      ·exact fd.elim)
     simpa using this
  | _=>exact fe.elim
 | _=>exact fd.elim
end
section
variable {X:Cx} {K:PySem.W.Frag}
def rSortedT (K:PySem.W.Frag):List V -> Hp -> VK -> Prop:=fun xs H Q=>∃ (a:Addr) (vs:List V) (ds:List PyData) (T:String) (β:Type) (O:AxK.TO β) (key:PyData -> β),xs = [.ref a] /\ SqL K H a vs /\ DtAll K H ds vs /\ ds.length < 64 /\ (∀ d ∈ ds,First T d /\ d.canLay0 = true /\ d.depth <= 60) /\
 (∀ d ∈ ds,∀ e ∈ ds,Lt1 d e (O.lt (key d) (key e))) /\ ∀ l vs' ds',H l = none -> ds'.Perm ds -> DtAll K H ds' vs' -> (ds'.Pairwise fun d e=>O.le (key d) (key e)) -> (∀ v ∈ vs',v ∈ vs) -> Q (.ref l) (upd H l (.lst vs'))
theorem vals_pick:∀ {vs:List V} {us:List Value},Vals vs us -> ∀ (p:List Nat),(∀ i ∈ p,i < vs.length) -> Vals (p.map fun i=>vs.getD i .non) (p.map fun i=>us.getD i Value.none)
 | vs,us,r,[],_=>.nil
 | vs,us,r,i :: p,h=>by
  refine .cons ?_ (vals_pick r p fun j hj=>h j (List.mem_cons_of_mem _ hj))
  have hi:=h i (List.mem_cons_self ..)
  have go:∀ {vs:List V} {us:List Value} (i:Nat),Vals vs us -> i < vs.length -> RelV (vs.getD i .non) (us.getD i Value.none):=fun {vs us} i r hi=>by
   induction i generalizing vs us with
   | zero =>
    cases r with
    | nil=>exact absurd hi (Nat.not_lt_zero _)
    | cons a b=>exact a
   | succ i ih =>
    cases r with
    | nil=>exact absurd hi (Nat.not_lt_zero _)
    | cons a b=>exact ih b (by simpa using hi)
  exact go i r hi
theorem dt_pick {H:Hp} {ds:List PyData} {vs:List V} (h:DtAll K H ds vs):∀ (p:List Nat),(∀ i ∈ p,i < vs.length) -> DtAll K H (p.map fun i=>ds.getD i .none) (p.map fun i=>vs.getD i .non)
 | [],_=>rfl
 | i :: p,hp=>by
  have hi:=hp i (List.mem_cons_self ..)
  obtain ⟨d,e1,e2⟩:=h.get (List.getElem?_eq_getElem hi)
  refine ⟨vs.getD i .non,_,rfl,?_,dt_pick h p fun j hj=>hp j (List.mem_cons_of_mem _ hj)⟩
  show Dt K H (ds.getD i .none) (vs.getD i .non)
  rw [List.getD_eq_getElem?_getD,List.getD_eq_getElem?_getD,e1,List.getElem?_eq_getElem hi]
  exact e2
theorem reads_get {h:Heap}:∀ {ds:List PyData} {us:List Value} {as:List Addr} (i:Nat),ReadsAll h us ds as -> i < ds.length -> ∃ bs,Reads h (us.getD i Value.none) (ds.getD i .none) bs
 | [],_,_,i,_,hi=>absurd hi (Nat.not_lt_zero _)
 | d :: ds,_,_,0,r,_=>by
  cases r with
  | cons r1 r2=>exact ⟨_,r1⟩
 | d :: ds,_,_,i + 1,r,hi=>by
  cases r with
  | cons r1 r2=>exact reads_get i r2 (by simpa using hi)
theorem pick_all {β:Type} {l:List β} {z:β}:(List.range l.length).map (fun i=>l.getD i z) = l:=by
 apply List.ext_getElem?
 intro i
 rw [List.getElem?_map]
 rcases Nat.lt_or_ge i l.length with q | q
 ·rw [List.getElem?_range q,List.getElem?_eq_getElem q]
  simp [List.getD_eq_getElem?_getD,List.getElem?_eq_getElem q]
 ·rw [List.getElem?_eq_none (by rw [List.length_range]; exact q),List.getElem?_eq_none q]
  rfl
theorem call_sortedT (hu:X.A.units + 64 < cLine) (hK:X.K = K:=by rfl):CallR X (.builtin "sorted") (rSortedT K):=by
 subst hK
 intro pins s σ H xs us Q I r h
 obtain ⟨a,vs,ds,T,β,O,key,rfl,ha,hds,h64,hd,hlt,q⟩:=h
 obtain ⟨u,rfl,ru⟩:=vals1 r
 cases ru
 obtain ⟨its,rv,pl,hz⟩:=I.list ha
 obtain ⟨as,rd⟩:=DtAll.reads I ds vs its hds rv
 have l1:vs.length = ds.length:=hds.length
 have l2:its.length = ds.length:=SeqAt.ReadsAll.length _ _ _ rd
 have lay:PyData.canLayAll0 ds = true:=by
  have go:∀ l:List PyData,(∀ d ∈ l,d.canLay0 = true) -> PyData.canLayAll0 l = true:=fun l=>by
   induction l with
   | nil=>exact fun _=>rfl
   | cons d l ih =>
    intro hl
    show (d.canLay0 && PyData.canLayAll0 l) = true
    rw [hl d (List.mem_cons_self ..),ih fun x hx=>hl x (List.mem_cons_of_mem _ hx)]
    rfl
  exact go ds fun d hd'=>(hd d hd').2.1
 refine Calls.call_function_entry kind_sorted plain_sorted entry_sorted (args_sorted1 _) ?_
 unfold Builtin.«sorted»
 refine wpAny_bind (m:=checkCount "sorted" 1 1 _) (wpAny_pure (wpAny_bind (collect_list pl.isList (wpAny_bind (wpAny_newList ?_ (by rw [sizeLine_eq]; omega))) (by rw [sizeLine_eq]; omega))))
 have hsz:((s.heap.push (seqObj "list" #[] 0)).update s.heap.objs.size (Obj.mapSeq (· ++ its.toArray))).objs.size = s.heap.objs.size + 1:=by
  rw [Heap.size_update,size_push']
 have hoL:(((s.heap.push (seqObj "list" #[] 0)).update s.heap.objs.size (Obj.mapSeq (· ++ its.toArray))).push (seqObj "list" its.toArray 0)).get? (s.heap.objs.size + 1) = some (seqObj "list" its.toArray 0):=by
  rw [← hsz]; exact Heap.get?_push_size _ rfl
 have kp:∀ b o,s.heap.get? b = some o -> (((s.heap.push (seqObj "list" #[] 0)).update s.heap.objs.size (Obj.mapSeq (· ++ its.toArray))).push (seqObj "list" its.toArray 0)).get? b = some o:=fun b o z=>by
  have hlt:b < s.heap.objs.size:=Heap.lt_size z
  rw [Heap.get?_push_ne _ _ _ (by rw [hsz]; exact Nat.ne_of_lt (Nat.lt_succ_of_lt hlt)),Heap.get?_update_ne _ _ _ _ (Nat.ne_of_lt hlt),Heap.get?_push_ne _ _ _ (Nat.ne_of_lt hlt)]
  exact z
 show wpAny _ _ _ _ _ { s with heap:=((s.heap.push (seqObj "list" #[] 0)).update s.heap.objs.size (Obj.mapSeq (· ++ its.toArray))).push (seqObj "list" its.toArray 0) }
 rw [hsz]
 generalize ((s.heap.push (seqObj "list" #[] 0)).update s.heap.objs.size (Obj.mapSeq (· ++ its.toArray))).push (seqObj "list" its.toArray 0) = h1 at hoL kp
 refine wpAny_bind (wpAny_holding (wpAny_call_entry slot_list_sort ⟨_,hoL,rfl⟩ entry_list_sort ?body (args_list_sort _)))
 refine sort_shell (s:={ s with heap:=h1 }) (κ:=tuples' (Value.type T != Value.type "tuple")) (lt:=fun i j=>O.lt (key (ds.getD i .none)) (key (ds.getD j .none))) hoL (by omega) (fun h2 s1 k1=>?_) fun p hp=>⟨_,rfl,wpAny_pure ⟨_,rfl,?_⟩⟩
 ·have rd1:ReadsAll s1.heap its ds as:=yT (fun b o z=>k1 b o (Nat.ne_of_lt (Nat.lt_succ_of_lt (Heap.lt_size z))) (kp b o z)) _ _ _ lay rd
  refine ⟨fun Q' E' z=>kind_ok rd1 (fun d hd'=>(hd d hd').1) (by omega) z,fun i j hi hj C c=>?_⟩
  obtain ⟨b1,r1⟩:=reads_get i rd1 (by omega)
  obtain ⟨b2,r2⟩:=reads_get j rd1 (by omega)
  have m:∀ k,k < its.length -> ds.getD k .none ∈ ds:=fun k hk=>by
   rw [List.getD_eq_getElem?_getD,List.getElem?_eq_getElem (by omega)]
   exact List.getElem_mem _
  have d1:=hd _ (m i hi)
  have d2:=hd _ (m j hj)
  exact key_lt_ok r1 r2 d1.1 d2.1 d1.2.1 d2.2.1 (by show X.A.units + 1 + 1 + _ < _; omega) (hlt _ (m i hi) _ (m j hj)) c
 ·have pp:p.Perm (List.toArray (List.range its.length)) /\ Up O (fun i=>key (ds.getD i .none)) p its.length:=by
   rcases hp with ⟨n2,rfl⟩ | ⟨n2,rfl⟩
   ·refine ⟨Array.Perm.refl _,fun (i j:Nat) (hij:i <= j) (hj:j < its.length)=>?_⟩
    have:i = j:=by omega
    subst this
    exact O.refl _
   ·obtain ⟨p',e,a1,a2⟩:=sort_ok (O:=O) (key:=fun i=>key (ds.getD i .none)) (n:=its.length) (by omega)
    rw [e]
    exact ⟨a1,a2⟩
  obtain ⟨pp,up⟩:=pp
  have pl':p.toList.Perm (List.range its.length):=by simpa using Array.perm_iff_toList_perm.mp pp
  have pm:∀ i ∈ p.toList,i < vs.length:=fun i hi=>by
   have:=List.mem_range.mp (pl'.mem_iff.mp hi)
   omega
  obtain ⟨e,he⟩:=sortedHeap_at (out:=List.toArray (p.toList.map fun i=>its.getD i Value.none)) hoL
  have nl:=vals_pick rv p.toList pm
  have kp2:∀ b ob,s.heap.get? b = some ob -> (sortedHeap h1 (s.heap.objs.size + 1) its (List.toArray (p.toList.map fun i=>its.getD i Value.none))).get? b = some ob:=fun b ob q1=>by
   have hb:b < s.heap.objs.size:=Heap.lt_size q1
   rw [sortedHeap_old (Nat.ne_of_lt (Nat.lt_succ_of_lt hb)) (Heap.lt_size (kp b ob q1))]
   exact kp b ob q1
  have hl:p.toList.length = its.length:=by rw [pl'.length_eq,List.length_range]
  refine ⟨.ref (s.heap.objs.size + 1),_,I.laid (o:=.lst (p.toList.map fun i=>vs.getD i .non)) (t':=s.toks) kp2 (Nat.le_succ _) ⟨by rw [List.length_map,hl,sizeLine_eq]; omega,_,e,nl,he⟩,rfl,q _ _ (p.toList.map fun i=>ds.getD i .none) (I.hok.fresh (Nat.le_succ _)) ?_ (dt_pick hds p.toList pm) ?_ fun v hv=>?_⟩
  ·have:=pl'.map fun i=>ds.getD i PyData.none
   rw [l2,pick_all] at this
   exact this
  ·rw [List.pairwise_iff_getElem]
   intro i j hi hj hij
   rw [List.getElem_map,List.getElem_map]
   have:=up i j (Nat.le_of_lt hij) (by rw [List.length_map,hl] at hj; exact hj)
   unfold kn at this
   rw [List.length_map,Array.length_toList] at hi hj
   rw [Array.getD_eq_getD_getElem?,Array.getD_eq_getD_getElem?,getElem?_pos p i hi,getElem?_pos p j hj] at this
   simpa using this
  ·obtain ⟨i,hi,rfl⟩:=List.mem_map.mp hv
   rw [List.getD_eq_getElem?_getD,List.getElem?_eq_getElem (pm i hi)]
   exact List.getElem_mem _
end
end L2
namespace AnJ
open PySem L2 An An10 An12 AxK
def tupS (ls:List Str):PyData:=.tuple (ls.map .str)
def spD (s:S Str):PyData:=.tuple [.int s.1,.int s.2.1,tupS s.2.2]
def prD (x:S Str × Bool):PyData:=.tuple [spD x.1,.int (if x.2 then 3 else 2)]
def grD (g:G Str):PyData:=.tuple [.int g.lo,.int g.hi,.list (g.ones.map spD),.list (g.others.map spD)]
def ptD:Pt Str -> PyData
 | .same x=>.tuple [.str "same",tupS x]
 | .clash b m y=>.tuple [.str "clash",tupS b,tupS m,tupS y]
def toRow (s:S Str):Row:=spanR s.1 s.2.1 s.2.2
theorem rows_sp (l:List (S Str)):(l.map toRow).map rowDat = l.map spD:=by rw [List.map_map]; rfl
theorem span_to {xs ys:List Str}:∀ {ps:List (Nat × Nat)} {lo fi:Nat},(yF xs ys lo fi ps).map toRow = spanL xs ys lo fi ps
 | [],lo,fi=>by
  unfold yF spanL
  split <;> rfl
 | p :: ps,lo,fi=>by
  unfold yF spanL
  rw [List.map_append,span_to]
  split <;> rfl
theorem spans_to (xs ys:List Str):(spansS xs ys).map toRow = spans xs ys:=span_to
mutual
def y0:PyData -> Bool
 | .list _=>false
 | .tuple ds=>xI ds
 | .dict _=>false
 | .none | .bool _ | .int _ | .str _=>true
def xI:List PyData -> Bool
 | []=>true
 | d :: ds=>y0 d && xI ds
end
mutual
theorem Dt.ts {K:PySem.W.Frag} {H H':Hp} (e:TSame H H'):∀ (d:PyData) (v:V),y0 d = true -> Dt K H d v -> Dt K H' d v
 | .none,_,_,h=>h
 | .bool _,_,_,h=>h
 | .int _,_,_,h=>h
 | .str _,_,_,h=>h
 | .list _,_,n,_=>nomatch n
 | .tuple ds,_,n,⟨a,xs,h1,h2,h3⟩=>⟨a,xs,h1,e.tup h2,DtAll.ts e ds xs n h3⟩
 | .dict _,_,n,_=>nomatch n
theorem DtAll.ts {K:PySem.W.Frag} {H H':Hp} (e:TSame H H'):∀ (ds:List PyData) (xs:List V),xI ds = true -> DtAll K H ds xs -> DtAll K H' ds xs
 | [],_,_,h=>h
 | d :: ds,_,n,⟨x,r,h1,h2,h3⟩=>by
  have n:y0 d = true /\ xI ds = true:=by simpa [xI] using n
  exact ⟨x,r,h1,Dt.ts e d x n.1 h2,DtAll.ts e ds r n.2 h3⟩
end
theorem y8:∀ {ds:List PyData},(∀ d ∈ ds,y0 d = true) -> xI ds = true
 | [],_=>rfl
 | d :: ds,h=>by
  show (y0 d && xI ds) = true
  rw [h d (List.mem_cons_self ..),y8 fun x hx=>h x (List.mem_cons_of_mem _ hx)]
  rfl
theorem qF (ls:List Str):y0 (tupS ls) = true:=y8 fun d hd=>by
 obtain ⟨x,_,rfl⟩:=List.mem_map.mp hd
 rfl
theorem noL_sp (s:S Str):y0 (spD s) = true:=by
 show (true && (true && (y0 (tupS s.2.2) && true))) = true
 rw [qF]
 rfl
theorem noL_sps (l:List (S Str)):xI (l.map spD) = true:=y8 fun d hd=>by
 obtain ⟨x,_,rfl⟩:=List.mem_map.mp hd
 exact noL_sp x
theorem noL_pt (p:Pt Str):y0 (ptD p) = true:=by
 cases p with
 | same x =>
  show (true && (y0 (tupS x) && true)) = true
  rw [qF]
  rfl
 | clash b m y =>
  show (true && (y0 (tupS b) && (y0 (tupS m) && (y0 (tupS y) && true)))) = true
  rw [qF,qF,qF]
  rfl
theorem noL_pts (l:List (Pt Str)):xI (l.map ptD) = true:=y8 fun d hd=>by
 obtain ⟨x,_,rfl⟩:=List.mem_map.mp hd
 exact noL_pt x
def hideS (S:List Addr) (H:Hp):Hp:=fun b=>if b ∈ S then none else H b
theorem hideS_ne {S:List Addr} {H:Hp} {b:Addr} (h:b ∉ S):hideS S H b = H b:=if_neg h
theorem hideS_in {S:List Addr} {H:Hp} {b:Addr} (h:b ∈ S):hideS S H b = none:=if_pos h
theorem hideS_same (S:List Addr) (H:Hp):Same (hideS S H) H:=fun b u e=>by
 unfold hideS at e
 split at e
 ·cases e
 ·exact e
theorem hideS_ts {S:List Addr} {H:Hp} (h:∀ a ∈ S,∃ xs,H a = some (.lst xs)):TSame H (hideS S H):=fun b o e n=>by
 rw [hideS_ne fun z=>?_]
 ·exact e
 ·obtain ⟨xs,q⟩:=h b z
  rw [q] at e
  exact n xs (Option.some.inj e).symm
theorem eqv_tupS (l m:List Str):PyData.eqv (tupS l) (tupS m) = decide (l = m):=by
 show PyData.eqvAll (l.map .str) (m.map .str) = _
 exact qI l m
theorem eqv_sp (s t:S Str):PyData.eqv (spD s) (spD t) = decide (s = t):=by
 show (((s.1:Int) == (t.1:Int)) && (((s.2.1:Int) == (t.2.1:Int)) && (PyData.eqv (tupS s.2.2) (tupS t.2.2) && true))) = _
 rw [eqv_tupS,Bool.eq_iff_iff]
 obtain ⟨a,b,c⟩:=s
 obtain ⟨d,e,f⟩:=t
 simp [Int.ofNat_inj]
def okL (ls:List Str):Prop:=∀ l ∈ ls,PyData.strOk l = true
theorem lay_tupS {ls:List Str} (h:okL ls):(tupS ls).canLay0 = true /\ (tupS ls).depth <= 1:=by
 obtain ⟨a,b⟩:=jJ ls h
 refine ⟨a,?_⟩
 show PyData.depthAll (ls.map .str) + 1 <= 1
 rw [b]
 omega
theorem lay_sp {s:S Str} (h:okL s.2.2):(spD s).canLay0 = true /\ (spD s).depth <= 2:=by
 obtain ⟨a,b⟩:=lay_tupS h
 constructor
 ·show (true && (true && ((tupS s.2.2).canLay0 && true))) = true
  rw [a]
  rfl
 ·show max 0 (max 0 (max (tupS s.2.2).depth 0)) + 1 <= 2
  omega
theorem lay_all {β:Type} {f:β -> PyData} {n:Nat}:∀ {l:List β},(∀ x ∈ l,(f x).canLay0 = true /\ (f x).depth <= n) -> PyData.canLayAll0 (l.map f) = true /\ PyData.depthAll (l.map f) <= n
 | [],_=>⟨rfl,Nat.zero_le _⟩
 | x :: l,h=>by
  obtain ⟨a,b⟩:=lay_all fun y hy=>h y (List.mem_cons_of_mem _ hy)
  obtain ⟨c,d⟩:=h x (List.mem_cons_self ..)
  constructor
  ·show ((f x).canLay0 && PyData.canLayAll0 (l.map f)) = true
   rw [a,c]
   rfl
  ·show max (f x).depth (PyData.depthAll (l.map f)) <= n
   omega
theorem lay_pr {x:S Str × Bool} (h:okL x.1.2.2):(prD x).canLay0 = true /\ (prD x).depth <= 3:=by
 obtain ⟨a,b⟩:=lay_sp h
 constructor
 ·show ((spD x.1).canLay0 && (true && true)) = true
  rw [a]
  rfl
 ·show max (spD x.1).depth (max 0 0) + 1 <= 3
  omega
def okP:Pt Str -> Prop
 | .same x=>okL x
 | .clash b m y=>okL b /\ okL m /\ okL y
theorem shaped_of {d:PyData} (h:d.canLay0 = true) (n:d.depth <= 60):SeqAt.shaped d = true:=by
 unfold SeqAt.shaped
 rw [h,decide_eq_true (by omega)]
 rfl
theorem shaped_list {β:Type} {f:β -> PyData} {n:Nat} (hn:n <= 50) {l:List β} (h:∀ x ∈ l,(f x).canLay0 = true /\ (f x).depth <= n):SeqAt.shaped (.list (l.map f)) = true:=by
 obtain ⟨a,b⟩:=lay_all h
 exact shaped_of a (by show PyData.depthAll (l.map f) + 1 <= 60; omega)
theorem list_lt:∀ a b:List Nat,decide (a < b) = yB TO.nat a b
 | [],[]=>by decide
 | [],_ :: _=>by simp [yB]
 | _ :: _,[]=>by simp [yB]
 | a :: as,b :: bs=>by
  have ih:=list_lt as bs
  unfold yB
  rw [← ih,Bool.eq_iff_iff,decide_eq_true_iff,List.cons_lt_cons_iff]
  show _ ↔ (decide (a < b) || (!decide (b < a) && decide (as < bs))) = true
  rw [Bool.or_eq_true,Bool.and_eq_true,decide_eq_true_iff,decide_eq_true_iff,Bool.not_eq_true',decide_eq_false_iff_not]
  constructor
  ·rintro (h | ⟨h,h'⟩)
   ·exact .inl h
   ·exact .inr ⟨by omega,h'⟩
  ·rintro (h | ⟨h,h'⟩)
   ·exact .inl h
   ·by_cases z:a < b
    ·exact .inl z
    ·exact .inr ⟨by omega,h'⟩
def strO:TO Str:=TO.by_ (TO.list TO.nat) cs fun a b h=>cs_inj h
theorem strO_lt (a b:Str):strO.lt a b = decide (a.cps.toList < b.cps.toList):=(list_lt _ _).symm
theorem lt_strs:∀ a b:List Str,LtL (a.map .str) (b.map .str) ((TO.list strO).lt a b)
 | [],[]=>by
  show false = decide (0 < 0)
  rfl
 | [],_ :: _=>by
  show true = decide (0 < _)
  simp
 | _ :: _,[]=>rfl
 | x :: a,y :: b=>by
  show ((x == y) = true /\ LtL (a.map .str) (b.map .str) (yB strO (x :: a) (y :: b))) \/ ((x == y) = false /\ yB strO (x :: a) (y :: b) = decide (x.cps.toList < y.cps.toList))
  by_cases e:x = y
  ·subst e
   refine .inl ⟨by simp,?_⟩
   unfold yB
   have:strO.lt x x = false:=strO.refl x
   rw [this]
   exact lt_strs a b
  ·refine .inr ⟨by simpa using e,?_⟩
   unfold yB
   rw [← strO_lt]
   cases q:strO.lt x y with
   | true=>rfl
   | false =>
    cases q':strO.lt y x with
    | true=>rfl
    | false=>exact absurd (strO.ant _ _ q q') e
theorem lt_sp (s t:S Str):Lt1 (spD s) (spD t) ((spanO strO).lt s t):=by
 show (((s.1:Int) == (t.1:Int)) = true /\ _) \/ (((s.1:Int) == (t.1:Int)) = false /\ _)
 have un:(spanO strO).lt s t = (decide (s.1 < t.1) || (!decide (t.1 < s.1) && (decide (s.2.1 < t.2.1) || (!decide (t.2.1 < s.2.1) && (TO.list strO).lt s.2.2 t.2.2)))):=rfl
 rw [un]
 by_cases e:s.1 = t.1
 ·refine .inl ⟨by rw [e]; simp,?_⟩
  rw [e,show decide (t.1 < t.1) = false by simp]
  show (((s.2.1:Int) == (t.2.1:Int)) = true /\ _) \/ (((s.2.1:Int) == (t.2.1:Int)) = false /\ _)
  by_cases e:s.2.1 = t.2.1
  ·refine .inl ⟨by rw [e]; simp,?_⟩
   rw [e,show decide (t.2.1 < t.2.1) = false by simp]
   show (PyData.eqv (tupS s.2.2) (tupS t.2.2) = true /\ LtL [] [] _) \/ (PyData.eqv (tupS s.2.2) (tupS t.2.2) = false /\ LtL (s.2.2.map .str) (t.2.2.map .str) _)
   rw [eqv_tupS]
   by_cases e:s.2.2 = t.2.2
   ·refine .inl ⟨decide_eq_true e,?_⟩
    show _ = decide (0 < 0)
    rw [e,show (TO.list strO).lt t.2.2 t.2.2 = false from (TO.list strO).refl _]
    rfl
   ·refine .inr ⟨decide_eq_false e,?_⟩
    exact lt_strs _ _
  ·refine .inr ⟨by simp; omega,?_⟩
   show _ = decide ((s.2.1:Int) < (t.2.1:Int))
   rcases Nat.lt_or_gt_of_ne e with z | z
   ·rw [decide_eq_true z,decide_eq_true (show (s.2.1:Int) < (t.2.1:Int) by omega)]
    rfl
   ·rw [decide_eq_false (show ¬ s.2.1 < t.2.1 by omega),decide_eq_true z,decide_eq_false (show ¬ (s.2.1:Int) < (t.2.1:Int) by omega)]
    rfl
 ·refine .inr ⟨by simp; omega,?_⟩
  show _ = decide ((s.1:Int) < (t.1:Int))
  rcases Nat.lt_or_gt_of_ne e with z | z
  ·rw [decide_eq_true z,decide_eq_true (show (s.1:Int) < (t.1:Int) by omega)]
   rfl
  ·rw [decide_eq_false (show ¬ s.1 < t.1 by omega),decide_eq_true z,decide_eq_false (show ¬ (s.1:Int) < (t.1:Int) by omega)]
   rfl
def prO:TO (S Str × Bool):=TO.pair (spanO strO) TO.bool
theorem lt_pr (x y:S Str × Bool):Lt1 (prD x) (prD y) (prO.lt x y):=by
 show (PyData.eqv (spD x.1) (spD y.1) = true /\ _) \/ (PyData.eqv (spD x.1) (spD y.1) = false /\ _)
 have un:prO.lt x y = ((spanO strO).lt x.1 y.1 || (!(spanO strO).lt y.1 x.1 && TO.bool.lt x.2 y.2)):=rfl
 rw [un,eqv_sp]
 by_cases e:x.1 = y.1
 ·refine .inl ⟨decide_eq_true e,?_⟩
  rw [e,show (spanO strO).lt y.1 y.1 = false from (spanO strO).refl _]
  show (((if x.2 = true then (3:Int) else 2) == (if y.2 = true then (3:Int) else 2)) = true /\ (_ = decide (0 < 0))) \/ (((if x.2 = true then (3:Int) else 2) == (if y.2 = true then (3:Int) else 2)) = false /\ (_ = decide ((if x.2 = true then (3:Int) else 2) < (if y.2 = true then (3:Int) else 2))))
  cases x.2 <;> cases y.2 <;> first | exact .inl ⟨rfl,rfl⟩ | exact .inr ⟨rfl,rfl⟩
 ·refine .inr ⟨decide_eq_false e,?_⟩
  have:=lt_sp x.1 y.1
  cases q:(spanO strO).lt x.1 y.1 with
  | true =>
   rw [q] at this
   exact this
  | false =>
   rw [q] at this
   cases q':(spanO strO).lt y.1 x.1 with
   | true=>exact this
   | false=>exact absurd ((spanO strO).ant _ _ q q') e
def unSp:PyData -> S Str
 | .tuple [.int a,.int b,d]=>(a.toNat,b.toNat,linesOf d)
 | _=>(0,0,[])
theorem unSp_sp (s:S Str):unSp (spD s) = s:=by
 show (((s.1:Int).toNat),((s.2.1:Int).toNat),linesOf (.tuple (s.2.2.map .str))) = s
 rw [linesOf_strs,Int.toNat_natCast,Int.toNat_natCast]
def unPr:PyData -> S Str × Bool
 | .tuple [d,.int n]=>(unSp d,decide (n = 3))
 | _=>((0,0,[]),false)
theorem unPr_pr (x:S Str × Bool):unPr (prD x) = x:=by
 show (unSp (spD x.1),decide ((if x.2 = true then (3:Int) else 2) = 3)) = x
 rw [unSp_sp]
 obtain ⟨s,b⟩:=x
 cases b <;> rfl
theorem unmap {β:Type} {f:β -> PyData} {u:PyData -> β} (h:∀ x,u (f x) = x) (l:List β):(l.map f).map u = l:=by
 rw [List.map_map]
 have:u ∘ f = id:=funext h
 rw [this,List.map_id]
theorem sorted_back {β:Type} {f:β -> PyData} {u:PyData -> β} (h:∀ x,u (f x) = x) {O:TO β} {l:List β} {ds:List PyData} (p:ds.Perm (l.map f)) (o:ds.Pairwise fun d e=>O.le (u d) (u e)):∃ m:List β,ds = m.map f /\ m.Perm l /\ m.Pairwise O.le:=by
 refine ⟨ds.map u,?_,?_,List.pairwise_map.mpr o⟩
 ·have:∀ d ∈ ds,f (u d) = d:=fun d hd=>by
   obtain ⟨x,_,rfl⟩:=List.mem_map.mp (p.mem_iff.mp hd)
   rw [h]
  rw [List.map_map]
  conv=>lhs; rw [← List.map_id ds]
  exact List.map_congr_left fun d hd=>(this d hd).symm
 ·have:=p.map u
  rw [unmap h] at this
  exact this
end AnJ
namespace AnJ
open AxK
section
variable {β:Type}
end
section
variable {α:Type}
variable {le:S α -> S α -> Prop}
end
end AnJ
namespace AnJ
open PySem L2 An An10 An12 AxK
def spNear (K:PySem.W.Frag):Sp:=fun vs H Q _=>∃ (p q:Addr) (a b c d:Int) (r r':List V),vs = [.ref p,.ref q] /\ SqT K H p (.int a :: .int b :: r) /\ SqT K H q (.int c :: .int d :: r') /\ Q (.bl (decide (a <= d) && decide (c <= b))) H
structure Row1 (n:Nat) (A:List (S Str)):Prop where
 val:Val n 0 A
 apart:Apart A
 len:A.length <= 30
 ok:∀ s ∈ A,okL s.2.2 /\ s.2.2.length <= 100
 tot:put A <= 100
def NewV (B H:Hp) (vs:List V):Prop:=∀ v ∈ vs,∃ (t m1 m2:Addr) (x y:V) (us1 us2:List V),v = .ref t /\ H t = some (.tup [x,y,.ref m1,.ref m2]) /\ B m1 = none /\ B m2 = none /\ H m1 = some (.lst us1) /\ H m2 = some (.lst us2) /\ us1.length <= 60 /\ us2.length <= 60
theorem NewV.same {B H H':Hp} {vs:List V} (e:Same H H') (h:NewV B H vs):NewV B H' vs:=fun v hv=>by
 obtain ⟨t,m1,m2,x,y,us1,us2,e0,h1,h2,h3,h4,h5,h6,h7⟩:=h v hv
 exact ⟨t,m1,m2,x,y,us1,us2,e0,e _ _ h1,h2,h3,e _ _ h4,e _ _ h5,h6,h7⟩
def DN (K:PySem.W.Frag) (B H:Hp) (gs:List (G Str)) (vs:List V):Prop:=DtAll K H (gs.map grD) vs /\ NewV B H vs
theorem DN.same {K:PySem.W.Frag} {B H H':Hp} {gs:List (G Str)} {vs:List V} (e:Same H H') (h:DN K B H gs vs):DN K B H' gs vs:=⟨DtAll.same e _ _ h.1,h.2.same e⟩
def GrpsAt (K:PySem.W.Frag) (H H':Hp) (l:Addr) (gs:List (G Str)):Prop:=∃ vs:List V,H' l = some (.lst vs) /\ ∀ Z:List Addr,(∀ a ∈ Z,∃ xs,H a = some (.lst xs)) -> DN K H (hideS (l :: Z) H') gs vs
def spGroups (K:PySem.W.Frag):Sp:=fun vs H Q _=>∃ (a b:Addr) (n:Nat) (A B:List (S Str)),vs = [.ref a,.ref b] /\ Dt K H (.list (A.map spD)) (.ref a) /\ Dt K H (.list (B.map spD)) (.ref b) /\ Row1 n A /\ Row1 n B /\
 ∀ (l:Addr) (gs:List (G Str)) (b:List Str) H',b.length = n -> Same H H' -> H l = none -> Grp b A B gs -> GrpsAt K H H' l gs -> Q (.ref l) H'
def spSide (K:PySem.W.Frag):Sp:=fun vs H Q _=>∃ (a l:Addr) (lo hi:Nat) (xs:List Str) (rs:List (S Str)),vs = [.ref a,.int lo,.int hi,.ref l] /\ SqT K H a (xs.map V.str) /\ Dt K H (.list (rs.map spD)) (.ref l) /\ xs.length <= 100 /\ rs.length <= 30 /\ (∀ s ∈ rs,s.2.2.length <= 100) /\ Val hi lo rs /\ hi <= xs.length /\
 ∀ (p:Addr) H',Same H H' -> SqT K H' p ((there xs lo hi rs).map V.str) -> Q (.ref p) H'
def PartsAt (K:PySem.W.Frag) (H:Hp) (o:Addr) (ps:List (Pt Str)):Prop:=∃ vs:List V,H o = some (.lst vs) /\ DtAll K H (ps.map ptD) vs
def noSame:List (Pt Str) -> Prop
 | []=>True
 | [p]=>p.isSame = false
 | _ :: q :: r=>noSame (q :: r)
theorem noSame_snoc:∀ {ps:List (Pt Str)} {p:Pt Str},p.isSame = false -> noSame (ps ++ [p])
 | [],p,h=>h
 | [x],p,h=>h
 | x :: y :: r,p,h=>noSame_snoc (ps:=y :: r) h
theorem noSame_last:∀ {ps:List (Pt Str)} {p:Pt Str},noSame (ps ++ [p]) -> p.isSame = false
 | [],p,h=>h
 | [x],p,h=>h
 | x :: y :: r,p,h=>noSame_last (ps:=y :: r) h
def spAddSame (K:PySem.W.Frag):Sp:=fun vs H Q _=>∃ (o q:Addr) (done:List (Pt Str)) (acc ls:List Str),vs = [.ref o,.ref q] /\ PartsAt K H o (done ++ flush acc) /\ noSame done /\ SqT K H q (ls.map V.str) /\ done.length <= 1000 /\ acc.length <= 4000000 /\ ls.length <= 4000000 /\
 ∀ H',TSame H H' -> Same (hide H o) (hide H' o) -> PartsAt K H' o (done ++ flush (acc ++ ls)) -> Q .non H'
def okJ (b m y:List Str):Prop:=(∀ x ∈ b,lineB x = true) /\ (∀ x ∈ m,lineB x = true) /\ (∀ x ∈ y,lineB x = true) /\ b.length <= 40 /\ m.length <= 140 /\ y.length <= 140 /\ (spansS b m).length <= 30 /\ (spansS b y).length <= 30 /\ put (spansS b m) <= 100 /\ put (spansS b y) <= 100
def spJoined (K:PySem.W.Frag):Sp:=fun vs H Q _=>∃ (a b c:Addr) (xs ms ys:List Str),vs = [.ref a,.ref b,.ref c] /\ SqT K H a (xs.map V.str) /\ SqT K H b (ms.map V.str) /\ SqT K H c (ys.map V.str) /\ okJ xs ms ys /\
 ∀ (l:Addr) (ps:List (Pt Str)) H',Same H H' -> H l = none -> Joined xs ms ys ps -> PartsAt K H' l ps -> Q (.ref l) H'
def cleanL:List (Pt Str) -> Option (List Str)
 | []=>some []
 | .same x :: r=>(cleanL r).map (x ++ ·)
 | .clash .. :: _=>none
def spClean (K:PySem.W.Frag):Sp:=fun vs H Q _=>∃ (l:Addr) (ps:List (Pt Str)),vs = [.ref l] /\ Dt K H (.list (ps.map ptD)) (.ref l) /\ ps.length <= 200 /\ (∀ x,Pt.same x ∈ ps -> x.length <= 20000) /\
 (cleanL ps = none -> ∀ H',Same H H' -> Q .non H') /\ ∀ ls,cleanL ps = some ls -> ∀ (p:Addr) H',Same H H' -> SqT K H' p (ls.map V.str) -> Q (.ref p) H'
theorem PartsAt.dt {K:PySem.W.Frag} {H:Hp} {o:Addr} {ps:List (Pt Str)} (h:PartsAt K H o ps):Dt K H (.list (ps.map ptD)) (.ref o):=by
 obtain ⟨vs,h1,h2⟩:=h
 exact ⟨o,vs,rfl,SqL.of h1,h2⟩
theorem PartsAt.same {K:PySem.W.Frag} {H H':Hp} {o:Addr} {ps:List (Pt Str)} (h:PartsAt K H o ps) (e:Same H H'):PartsAt K H' o ps:=by
 obtain ⟨vs,h1,h2⟩:=h
 exact ⟨vs,e _ _ h1,DtAll.same e _ _ h2⟩
theorem same_step {B H H':Hp} {o:Addr} (e:Same B H) (n:B o = none) (h:Same (hide H o) (hide H' o)):Same B H':=fun b u q=>by
 have hb:b ≠ o:=zG q n
 have:=h b u (by rw [hide_ne hb]; exact e b u q)
 rw [hide_ne hb] at this
 exact this
theorem grps_len:∀ {gs:List (G Str)},(∀ g ∈ gs,g.ones ++ g.others ≠ []) -> gs.length <= (gs.flatMap G.ones).length + (gs.flatMap G.others).length
 | [],_=>Nat.zero_le _
 | g :: r,h=>by
  have ih:=grps_len fun x hx=>h x (List.mem_cons_of_mem _ hx)
  have:=List.length_pos_iff.mpr (h g (List.mem_cons_self ..))
  rw [List.length_append] at this
  rw [List.flatMap_cons,List.flatMap_cons,List.length_append,List.length_append,List.length_cons]
  omega
structure GFact (xs:List Str) (g:G Str):Prop where
 v1:Val g.hi g.lo g.ones
 v2:Val g.hi g.lo g.others
 hi:g.hi <= xs.length
 n1:g.ones.length <= 30
 n2:g.others.length <= 30
 l1:∀ s ∈ g.ones,okL s.2.2 /\ s.2.2.length <= 100
 l2:∀ s ∈ g.others,okL s.2.2 /\ s.2.2.length <= 100
 p1:put g.ones <= 100
 p2:put g.others <= 100
theorem put_append:∀ (r q:List (S Str)),put (r ++ q) = put r + put q
 | [],q=>by simp [put]
 | s :: r,q=>by
  show s.2.2.length + put (r ++ q) = s.2.2.length + put r + put q
  rw [put_append r q]
  omega
theorem flat_put {f:G Str -> List (S Str)}:∀ {gs:List (G Str)} {g:G Str},g ∈ gs -> put (f g) <= put (gs.flatMap f)
 | x :: r,g,h=>by
  rw [List.flatMap_cons,put_append]
  rcases List.mem_cons.mp h with rfl | h
  ·omega
  ·have:=flat_put (f:=f) h
   omega
theorem flat_len {f:G Str -> List (S Str)}:∀ {gs:List (G Str)} {g:G Str},g ∈ gs -> (f g).length <= (gs.flatMap f).length
 | x :: r,g,h=>by
  rw [List.flatMap_cons,List.length_append]
  rcases List.mem_cons.mp h with rfl | h
  ·omega
  ·have:=flat_len (f:=f) h
   omega
theorem Grp.fact {xs:List Str} {A B:List (S Str)} {gs:List (G Str)} (h:Grp xs A B gs) (a:Row1 xs.length A) (b:Row1 xs.length B):∀ g ∈ gs,GFact xs g:=fun g hg=>by
 obtain ⟨c1,c2⟩:=h.chains a.val b.val a.apart b.apart
 obtain ⟨_,_,_,_,v1,w1⟩:=qC c1 hg
 obtain ⟨_,_,_,_,v2,_⟩:=qC c2 hg
 have e1:=flat_len (f:=G.ones) hg
 have e2:=flat_len (f:=G.others) hg
 rw [h.fa] at e1
 rw [h.fb] at e2
 have p1:=flat_put (f:=G.ones) hg
 have p2:=flat_put (f:=G.others) hg
 rw [h.fa] at p1
 rw [h.fb] at p2
 refine ⟨v1,v2,w1.le,Nat.le_trans e1 a.len,Nat.le_trans e2 b.len,fun s hs=>a.ok s ?_,fun s hs=>b.ok s ?_,Nat.le_trans p1 a.tot,Nat.le_trans p2 b.tot⟩
 ·rw [← h.fa]; exact List.mem_flatMap.mpr ⟨g,hg,hs⟩
 ·rw [← h.fb]; exact List.mem_flatMap.mpr ⟨g,hg,hs⟩
theorem there_mem {b:List Str} {x:Str}:∀ {r:List (S Str)} {i n:Nat},x ∈ there b i n r -> x ∈ b \/ ∃ s ∈ r,x ∈ s.2.2
 | [],i,n,h=>by
  have h:x ∈ cut b i n:=h
  exact .inl (List.mem_of_mem_drop (List.mem_of_mem_take h))
 | s :: r,i,n,h=>by
  have h:x ∈ cut b i s.1 ++ s.2.2 ++ there b s.2.1 n r:=h
  rcases List.mem_append.mp h with h | h
  ·rcases List.mem_append.mp h with h | h
   ·exact .inl (List.mem_of_mem_drop (List.mem_of_mem_take h))
   ·exact .inr ⟨s,List.mem_cons_self ..,h⟩
  ·rcases there_mem h with h | ⟨t,ht,h⟩
   ·exact .inl h
   ·exact .inr ⟨t,List.mem_cons_of_mem _ ht,h⟩
theorem there_ok {xs:List Str} {lo hi:Nat} {r:List (S Str)} (hx:okL xs) (hr:∀ s ∈ r,okL s.2.2 /\ s.2.2.length <= 100) (v:Val hi lo r) (hh:hi <= xs.length) (hn:xs.length <= 100) (rn:put r <= 100):okL (there xs lo hi r) /\ (there xs lo hi r).length <= 200:=by
 constructor
 ·intro l hl
  rcases there_mem hl with h | ⟨s,hs,h⟩
  ·exact hx l h
  ·exact (hr s hs).1 l h
 ·have:=there_len hh v
  omega
theorem dts_snoc {β:Type} {f:β -> PyData} {K:PySem.W.Frag} {H:Hp} {x:β}:∀ {l:List β} {vs:List V},DtAll K H ((l ++ [x]).map f) vs -> ∃ v1 v2,vs = v1 ++ [v2] /\ DtAll K H (l.map f) v1 /\ Dt K H (f x) v2
 | [],vs,⟨v,r,e1,h1,e2⟩=>by
  cases (show r = [] from e2)
  exact ⟨[],v,e1,rfl,h1⟩
 | y :: l,vs,⟨v,r,e1,h1,h2⟩=>by
  obtain ⟨v1,v2,rfl,h3,h4⟩:=dts_snoc h2
  exact ⟨v :: v1,v2,e1,⟨v,v1,rfl,h1,h3⟩,h4⟩
theorem at_one {α:Type} (x y:α) (r:List α):atI (x :: y :: r) 1 = some y:=jS (j:=1) rfl
theorem ne_cs:V.str "clash" ≠ V.str "same":=fun h=>by
 injection h with h
 exact absurd h (by decide +kernel)
theorem ne_sc:V.str "same" ≠ V.str "clash":=fun h=>ne_cs h.symm
theorem ne_zero {n:Nat} (h:n ≠ 0):¬ (V.int (n:Int) = V.int 0):=fun z=>by
 injection z with z
 omega
theorem int_zero {n:Nat} (h:V.int (n:Int) = V.int 0):n = 0:=by
 injection h with h
 omega
theorem at_last {vs:List V} {v:V}:atI (vs ++ [v]) (-1) = some v:=by
 unfold atI ixN
 have e:(-1:Int) + ((vs ++ [v]).length:Int) = (vs.length:Int):=by rw [List.length_append,List.length_singleton]; omega
 rw [if_neg (by decide),e]
 rw [if_pos (by rw [List.length_append,List.length_singleton]; omega)]
 simp
theorem last_get {vs:List V} {v:V}:(vs ++ [v])[(vs ++ [v]).length - 1]? = some v:=by
 simp
theorem spans_few {xs ys:List Str} (h1:xs.length <= 25):(spansS xs ys).length <= 30:=by
 have go:∀ {ps:List (Nat × Nat)} {lo fi:Nat},(yF xs ys lo fi ps).length <= ps.length + 1:=fun {ps}=>by
  induction ps with
  | nil =>
   intro lo fi
   unfold yF
   split <;> simp
  | cons p ps ih =>
   intro lo fi
   unfold yF
   rw [List.length_append,List.length_cons]
   have:=ih (lo:=p.1 + 1) (fi:=p.2 + 1)
   split <;> simp <;> omega
 have e:=go (ps:=path xs ys (xs.length + ys.length) 0 0) (lo:=0) (fi:=0)
 rw [path_len _ 0 0 (by omega)] at e
 have:=tab_le (xs:=xs) (ys:=ys) (i:=0) (k:=0)
 unfold spansS
 omega
theorem put_mem {s:S Str}:∀ {r:List (S Str)},s ∈ r -> s.2.2.length <= put r
 | t :: r,h=>by
  show s.2.2.length <= t.2.2.length + put r
  rcases List.mem_cons.mp h with rfl | h
  ·omega
  ·have:=put_mem h
   omega
theorem spans_put {xs ys:List Str}:put (spansS xs ys) <= ys.length:=by
 have e1:=there_len (b:=xs) (Nat.le_refl _) (yW xs ys)
 have e2:=kept_len (b:=xs) (Nat.le_refl _) (yW xs ys)
 rw [spans_there] at e1
 omega
theorem row1_spans {xs ys:List Str} (h1:(spansS xs ys).length <= 30) (h2:put (spansS xs ys) <= 100) (h3:∀ y ∈ ys,lineB y = true):Row1 xs.length (spansS xs ys):=by
 refine ⟨yW xs ys,yV xs ys,h1,fun s hs=>?_,h2⟩
 ·have m:toRow s ∈ spans xs ys:=by rw [← spans_to]; exact List.mem_map.mpr ⟨s,hs,rfl⟩
  obtain ⟨i,k,ls,e,e1,e2⟩:=spanT_lines (toRow s) m
  have e:toRow s = spanR i k ls:=e
  have:PyData.tuple (s.2.2.map .str) = .tuple (ls.map .str):=congrArg (fun r:Row=>r.2.2) e
  have:s.2.2 = ls:=by
   have:=congrArg An12.linesOf this
   rw [linesOf_strs,linesOf_strs] at this
   exact this
  rw [this]
  exact ⟨fun l hl=>lineB_ok (h3 l (e2 l hl)),by rw [← this]; exact Nat.le_trans (put_mem hs) h2⟩
theorem dts_get {β:Type} {f:β -> PyData} {K:PySem.W.Frag} {H:Hp} {l:List β} {vs:List V} {i:Nat} {x:V} (h:DtAll K H (l.map f) vs) (e:vs[i]? = some x):∃ b,l[i]? = some b /\ Dt K H (f b) x:=by
 obtain ⟨d,e1,e2⟩:=h.get e
 rw [List.getElem?_map] at e1
 cases q:l[i]? with
 | none=>rw [q] at e1; cases e1
 | some b =>
  rw [q] at e1
  cases e1
  exact ⟨b,rfl,e2⟩
theorem sp_open {K:PySem.W.Frag} {H:Hp} {s:S Str} {v:V} (h:Dt K H (spD s) v):∃ t q:Addr,v = .ref t /\ SqT K H t [.int s.1,.int s.2.1,.ref q] /\ SqT K H q (s.2.2.map V.str):=by
 obtain ⟨t,xs,rfl,h1,x1,r1,rfl,e1,x2,r2,rfl,e2,x3,r3,rfl,⟨q,ys,rfl,h3,h4⟩,e3⟩:=h
 cases e1
 cases e2
 cases e3
 rw [DtAll.strs_of h4] at h3
 exact ⟨t,q,rfl,h1,h3⟩
theorem gr_open {K:PySem.W.Frag} {H:Hp} {g:G Str} {v:V} (h:Dt K H (grD g) v):∃ t l1 l2:Addr,v = .ref t /\ SqT K H t [.int g.lo,.int g.hi,.ref l1,.ref l2] /\ Dt K H (.list (g.ones.map spD)) (.ref l1) /\ Dt K H (.list (g.others.map spD)) (.ref l2):=by
 obtain ⟨t,xs,rfl,h1,x1,r1,rfl,e1,x2,r2,rfl,e2,x3,r3,rfl,⟨l1,y1,rfl,h3,h4⟩,x4,r4,rfl,⟨l2,y2,rfl,h5,h6⟩,e3⟩:=h
 cases e1
 cases e2
 cases e3
 exact ⟨t,l1,l2,rfl,h1,⟨l1,y1,rfl,h3,h4⟩,⟨l2,y2,rfl,h5,h6⟩⟩
theorem gr_close {K:PySem.W.Frag} {H:Hp} {g:G Str} {t l1 l2:Addr} (h1:SqT K H t [.int g.lo,.int g.hi,.ref l1,.ref l2]) (h2:Dt K H (.list (g.ones.map spD)) (.ref l1)) (h3:Dt K H (.list (g.others.map spD)) (.ref l2)):Dt K H (grD g) (.ref t) :=
 ⟨t,_,rfl,h1,_,_,rfl,rfl,_,_,rfl,rfl,_,_,rfl,h2,_,_,rfl,h3,rfl⟩
theorem same_open {K:PySem.W.Frag} {H:Hp} {x:List Str} {v:V} (h:Dt K H (ptD (.same x)) v):∃ t q:Addr,v = .ref t /\ SqT K H t [.str "same",.ref q] /\ SqT K H q (x.map V.str):=by
 obtain ⟨t,xs,rfl,h1,x1,r1,rfl,e1,x3,r3,rfl,⟨q,ys,rfl,h3,h4⟩,e3⟩:=h
 cases e1
 cases e3
 rw [DtAll.strs_of h4] at h3
 exact ⟨t,q,rfl,h1,h3⟩
theorem clash_open {K:PySem.W.Frag} {H:Hp} {b m y:List Str} {v:V} (h:Dt K H (ptD (.clash b m y)) v):∃ t q1 q2 q3:Addr,v = .ref t /\ SqT K H t [.str "clash",.ref q1,.ref q2,.ref q3] /\ SqT K H q1 (b.map V.str) /\ SqT K H q2 (m.map V.str) /\ SqT K H q3 (y.map V.str):=by
 obtain ⟨t,xs,rfl,h1,x1,r1,rfl,e1,x2,r2,rfl,⟨q1,y1,rfl,a1,b1⟩,x3,r3,rfl,⟨q2,y2,rfl,a2,b2⟩,x4,r4,rfl,⟨q3,y3,rfl,a3,b3⟩,e3⟩:=h
 cases e1
 cases e3
 rw [DtAll.strs_of b1] at a1
 rw [DtAll.strs_of b2] at a2
 rw [DtAll.strs_of b3] at a3
 exact ⟨t,q1,q2,q3,rfl,h1,a1,a2,a3⟩
theorem lines_dt {K:PySem.W.Frag} {H:Hp} {x:List Str} {q:Addr} (h:SqT K H q (x.map V.str)):Dt K H (tupS x) (.ref q):=⟨q,_,rfl,h,DtAll.strs _⟩
theorem same_close {K:PySem.W.Frag} {H:Hp} {x:List Str} {t q:Addr} (h1:SqT K H t [.str "same",.ref q]) (h2:SqT K H q (x.map V.str)):Dt K H (ptD (.same x)) (.ref t) :=
 ⟨t,_,rfl,h1,_,_,rfl,rfl,_,_,rfl,lines_dt h2,rfl⟩
theorem clash_close {K:PySem.W.Frag} {H:Hp} {b m y:List Str} {t q1 q2 q3:Addr} (h1:SqT K H t [.str "clash",.ref q1,.ref q2,.ref q3]) (a1:SqT K H q1 (b.map V.str)) (a2:SqT K H q2 (m.map V.str)) (a3:SqT K H q3 (y.map V.str)):Dt K H (ptD (.clash b m y)) (.ref t) :=
 ⟨t,_,rfl,h1,_,_,rfl,rfl,_,_,rfl,lines_dt a1,_,_,rfl,lines_dt a2,_,_,rfl,lines_dt a3,rfl⟩
theorem side_patch {xs:List Str} {lo hi:Nat} (hx:hi <= xs.length):∀ {rs:List (S Str)} {i:Nat},lo <= i -> Val hi i rs -> patchL (cut xs lo hi) (i - lo) (rs.map fun s=>((s.1:Int) - lo,(s.2.1:Int) - lo,tupS s.2.2)) = there xs i hi rs
 | [],i,h,v=>by
  show (cut xs lo hi).drop (i - lo) = cut xs i hi
  have e:=jL (b:=xs) h v
  have l:=cut_len (b:=xs) (i:=lo) (k:=i) (Nat.le_trans v hx)
  rw [← e,← l,List.drop_left]
 | s :: r,i,h,v=>by
  have ih:=side_patch (lo:=lo) hx (i:=s.2.1) (by have:=v.1; have:=v.2.1; omega) v.2.2
  have l:=v.2.2.le
  have v1:=v.1
  have v2:=v.2.1
  show ((cut xs lo hi).drop (i - lo)).take (((s.1:Int) - lo).toNat - (i - lo)) ++ linesOf (tupS s.2.2) ++ patchL (cut xs lo hi) (((s.2.1:Int) - lo).toNat) (r.map _) = cut xs i s.1 ++ s.2.2 ++ there xs s.2.1 hi r
  have e1:((s.2.1:Int) - lo).toNat = s.2.1 - lo:=by omega
  have e2:((s.1:Int) - lo).toNat - (i - lo) = s.1 - i:=by omega
  rw [e1,ih,e2]
  congr 2
  ·have a1:=jL (b:=xs) h (Nat.le_trans v1 (Nat.le_trans v2 l))
   have a2:=jL (b:=xs) v1 (Nat.le_trans v2 l)
   have n1:=cut_len (b:=xs) (i:=lo) (k:=i) (by omega)
   have n2:=cut_len (b:=xs) (i:=i) (k:=s.1) (by omega)
   rw [← a1,← n1,List.drop_left,← a2,← n2,List.take_left]
  ·exact linesOf_strs _
theorem side_ends {xs:List Str} {lo hi:Nat} (hx:hi <= xs.length):∀ {rs:List (S Str)} {i:Nat},lo <= i -> Val hi i rs -> (∀ s ∈ rs,s.2.2.length <= 100) -> Ends (cut xs lo hi).length (i - lo) (rs.map fun s=>((s.1:Int) - lo,(s.2.1:Int) - lo,tupS s.2.2))
 | [],i,h,v,_=>trivial
 | s :: r,i,h,v,hl=>by
  have l:=v.2.2.le
  have v1:=v.1
  have v2:=v.2.1
  have ih:=side_ends (lo:=lo) hx (i:=s.2.1) (by omega) v.2.2 fun x hx=>hl x (List.mem_cons_of_mem _ hx)
  have n:=cut_len (b:=xs) (i:=lo) hx
  refine ⟨?_,?_,?_,⟨s.2.2,rfl,by have:=hl s (List.mem_cons_self ..); omega⟩,?_⟩
  ·show ((i - lo:Nat):Int) <= (s.1:Int) - lo
   omega
  ·show (s.1:Int) - lo <= (s.2.1:Int) - lo
   omega
  ·show (s.2.1:Int) - lo <= ((cut xs lo hi).length:Int)
   omega
  ·have e1:((s.2.1:Int) - lo).toNat = s.2.1 - lo:=by omega
   show Ends _ (((s.2.1:Int) - lo).toNat) _
   rw [e1]
   exact ih
theorem J_step {b:List Str} {acc:List Str} {i:Nat} {g:G Str} {r:List (G Str)}:(∀ x,g.one b = some x -> J b acc i (g :: r) = J b (acc ++ cut b i g.lo ++ x) g.hi r) /\ (g.one b = none -> J b acc i (g :: r) = flush (acc ++ cut b i g.lo) ++ .clash (cut b g.lo g.hi) (g.mine b) (g.yours b) :: J b [] g.hi r):=by
 constructor
 ·intro x hx
  rw [J,hx]
 ·intro hx
  rw [J,hx]
def Lists (B:Hp) (Z:List Addr):Prop:=∀ a ∈ Z,∃ xs,B a = some (.lst xs)
theorem lists_ts {B:Hp} {Z:List Addr} (h:Lists B Z):TSame B (hideS Z B):=hideS_ts h
theorem sps_hide {K:PySem.W.Frag} {B H:Hp} {Y Z:List Addr} (e:Same B H) (hz:Lists B Z) (hs:∀ a ∈ Y,B a = none) {l:List (S Str)} {us:List V} (h:DtAll K B (l.map spD) us):DtAll K (hideS (Y ++ Z) H) (l.map spD) us:=by
 have h1:=DtAll.ts (lists_ts hz) _ _ (noL_sps l) h
 refine DtAll.same (fun b u q=>?_) _ _ h1
 have nz:b ∉ Z:=fun z=>by rw [hideS_in z] at q; cases q
 rw [hideS_ne nz] at q
 rw [hideS_ne]
 ·exact e b u q
 ·intro z
  rcases List.mem_append.mp z with z | z
  ·rw [hs b z] at q; cases q
  ·exact nz z
structure GSt (K:PySem.W.Frag) (B H:Hp) (o:Addr) (done:List (G Str)) (c:G Str) (t m1 m2:Addr) (vs us1 us2:List V):Prop where
 ho:H o = some (.lst (vs ++ [.ref t]))
 ht:H t = some (.tup [.int c.lo,.int c.hi,.ref m1,.ref m2])
 h1:H m1 = some (.lst us1)
 h2:H m2 = some (.lst us2)
 b1:B m1 = none
 b2:B m2 = none
 n12:m1 ≠ m2
 n1:m1 ≠ o
 n2:m2 ≠ o
 d1:DtAll K B (c.ones.map spD) us1
 d2:DtAll K B (c.others.map spD) us2
 d3:∀ Z,Lists B Z -> DN K B (hideS (o :: m1 :: m2 :: Z) H) done vs
theorem GSt.close {K:PySem.W.Frag} {B H:Hp} {o:Addr} {done:List (G Str)} {c:G Str} {t m1 m2:Addr} {vs us1 us2:List V} (g:GSt K B H o done c t m1 m2 vs us1 us2) (e:Same B H) (bo:B o = none) (u1:us1.length <= 60) (u2:us2.length <= 60) (Z:List Addr) (hz:Lists B Z):DN K B (hideS (o :: Z) H) (done ++ [c]) (vs ++ [.ref t]):=by
 have nz:∀ {m},B m = none -> m ∉ Z:=fun {m} hm z=>by
  obtain ⟨xs,q⟩:=hz m z
  rw [hm] at q
  cases q
 have no:∀ {m},m ≠ o -> B m = none -> m ∉ o :: Z:=fun {m} h1 h2 z=>by
  rcases List.mem_cons.mp z with z | z
  ·exact h1 z
  ·exact nz h2 z
 have nt:t ∉ o :: Z:=fun z=>by
  rcases List.mem_cons.mp z with z | z
  ·have:=g.ho
   rw [← z,g.ht] at this
   cases this
  ·obtain ⟨xs,q⟩:=hz t z
   have:=e _ _ q
   rw [g.ht] at this
   cases this
 have sp:∀ {l:List (S Str)} {us:List V},DtAll K B (l.map spD) us -> DtAll K (hideS (o :: Z) H) (l.map spD) us:=fun h=>sps_hide (Y:=[o]) e hz (fun a ha=>by rw [List.mem_singleton.mp ha]; exact bo) h
 have ok:Same (hideS (o :: m1 :: m2 :: Z) H) (hideS (o :: Z) H):=fun b u q=>by
  have nb:b ∉ o :: m1 :: m2 :: Z:=fun z=>by rw [hideS_in z] at q; cases q
  rw [hideS_ne nb] at q
  rw [hideS_ne fun z=>nb ?_]
  ·exact q
  ·rcases List.mem_cons.mp z with z | z
   ·rw [z]; exact List.mem_cons_self ..
   ·exact List.mem_cons_of_mem _ (List.mem_cons_of_mem _ (List.mem_cons_of_mem _ z))
 obtain ⟨dd,dn⟩:=(g.d3 Z hz).same ok
 have ht:hideS (o :: Z) H t = some (.tup [.int c.lo,.int c.hi,.ref m1,.ref m2]):=by rw [hideS_ne nt]; exact g.ht
 have h1:hideS (o :: Z) H m1 = some (.lst us1):=by rw [hideS_ne (no g.n1 g.b1)]; exact g.h1
 have h2:hideS (o :: Z) H m2 = some (.lst us2):=by rw [hideS_ne (no g.n2 g.b2)]; exact g.h2
 refine ⟨?_,fun v hv=>?_⟩
 ·rw [List.map_append]
  exact DtAll.append dd ⟨_,_,rfl,gr_close (SqT.of ht) ⟨m1,us1,rfl,SqL.of h1,sp g.d1⟩ ⟨m2,us2,rfl,SqL.of h2,sp g.d2⟩,rfl⟩
 ·rcases List.mem_append.mp hv with z | z
  ·exact dn v z
  ·exact ⟨t,m1,m2,_,_,us1,us2,List.mem_singleton.mp z,ht,g.b1,g.b2,h1,h2,u1,u2⟩
theorem gst_begin {K:PySem.W.Frag} {B H:Hp} {o m1 m2 t:Addr} {done:List (G Str)} {vs:List V} {lo hi:Nat} (e:Same B H) (bo:B o = none) (ho:H o = some (.lst vs)) (d:∀ Z,Lists B Z -> DN K B (hideS (o :: Z) H) done vs) (f1:H m1 = none) (f2:upd H m1 (.lst []) m2 = none) (f3:upd (upd H m1 (.lst [])) m2 (.lst []) t = none) :
  Same B (upd (upd (upd (upd H m1 (.lst [])) m2 (.lst [])) t (.tup [.int lo,.int hi,.ref m1,.ref m2])) o (.lst (vs ++ [.ref t]))) /\ GSt K B (upd (upd (upd (upd H m1 (.lst [])) m2 (.lst [])) t (.tup [.int lo,.int hi,.ref m1,.ref m2])) o (.lst (vs ++ [.ref t]))) o done ⟨lo,hi,[],[]⟩ t m1 m2 vs [] []:=by
 have s1:=same_upd (o:=.lst []) f1
 have s2:=same_upd (o:=.lst []) f2
 have s3:=same_upd (o:=.tup [.int lo,.int hi,.ref m1,.ref m2]) f3
 have s123:=s1.trans (s2.trans s3)
 have om1:m1 ≠ o:=fun z=>by rw [z,ho] at f1; cases f1
 have om2:m2 ≠ o:=fun z=>by
  have:=s1 _ _ ho
  rw [← z,f2] at this
  cases this
 have ot:t ≠ o:=fun z=>by
  have:=(s1.trans s2) _ _ ho
  rw [← z,f3] at this
  cases this
 have m12:m1 ≠ m2:=fun z=>by rw [← z,upd_same] at f2; cases f2
 have bn:∀ {m},H m = none -> B m = none:=fun {m} h=>by
  cases q:B m with
  | none=>rfl
  | some u=>rw [e _ _ q] at h; cases h
 have h2:H m2 = none:=by rw [zF m12.symm] at f2; exact f2
 refine ⟨An.Same.updF (e.trans s123) bo,⟨upd_same,?_,?_,?_,bn f1,bn h2,m12,om1,om2,rfl,rfl,fun Z hz=>DN.same (fun b u q=>?_) (d Z hz)⟩⟩
 ·rw [zF ot,upd_same]
 ·rw [zF om1]
  exact (s2.trans s3) _ _ upd_same
 ·rw [zF om2]
  exact s3 _ _ upd_same
 ·have nb:b ∉ o :: Z:=fun z=>by rw [hideS_in z] at q; cases q
  rw [hideS_ne nb] at q
  rw [hideS_ne,zF fun z=>nb (by rw [z]; exact List.mem_cons_self ..)]
  ·exact s123 _ _ q
  ·intro z
   rcases List.mem_cons.mp z with z | z
   ·exact nb (by rw [z]; exact List.mem_cons_self ..)
   rcases List.mem_cons.mp z with z | z
   ·rw [z,f1] at q; cases q
   rcases List.mem_cons.mp z with z | z
   ·rw [z,h2] at q; cases q
   ·exact nb (List.mem_cons_of_mem _ z)
theorem gst_add {K:PySem.W.Frag} {B H:Hp} {o m1 m2 t t2:Addr} {done:List (G Str)} {c:G Str} {vs us1 us2:List V} {s:S Str} {sv:V} {hi:Nat} (g:GSt K B H o done c t m1 m2 vs us1 us2) (e:Same B H) (bo:B o = none) (hs:Dt K B (spD s) sv) (p:Bool)
  (f:upd (upd H o (.lst vs)) (if p then m2 else m1) (.lst ((if p then us2 else us1) ++ [sv])) t2 = none) :
  Same B (upd (upd (upd (upd H o (.lst vs)) (if p then m2 else m1) (.lst ((if p then us2 else us1) ++ [sv]))) t2 (.tup [.int c.lo,.int hi,.ref m1,.ref m2])) o (.lst (vs ++ [.ref t2]))) /\
  GSt K B (upd (upd (upd (upd H o (.lst vs)) (if p then m2 else m1) (.lst ((if p then us2 else us1) ++ [sv]))) t2 (.tup [.int c.lo,.int hi,.ref m1,.ref m2])) o (.lst (vs ++ [.ref t2]))) o done ⟨c.lo,hi,if p then c.ones else c.ones ++ [s],if p then c.others ++ [s] else c.others⟩ t2 m1 m2 vs (if p then us1 else us1 ++ [sv]) (if p then us2 ++ [sv] else us2):=by
 have bm:B (if p then m2 else m1) = none:=by cases p <;> simp [g.b1,g.b2]
 have om:(if p then m2 else m1) ≠ o:=by cases p <;> simp [g.n1,g.n2]
 have s3:=same_upd (o:=.tup [.int c.lo,.int hi,.ref m1,.ref m2]) f
 have e2:Same B (upd (upd H o (.lst vs)) (if p then m2 else m1) (.lst ((if p then us2 else us1) ++ [sv]))):=An.Same.updF (An.Same.updF e bo) bm
 have ot:t2 ≠ o:=fun z=>by
  rw [z,zF om.symm,upd_same] at f
  cases f
 have t1:t2 ≠ m1:=fun z=>by
  rw [z] at f
  cases p with
  | true =>
   rw [if_pos rfl,if_pos rfl,zF g.n12,zF g.n1,g.h1] at f
   cases f
  | false =>
   rw [if_neg (by decide),if_neg (by decide),upd_same] at f
   cases f
 have t2':t2 ≠ m2:=fun z=>by
  rw [z] at f
  cases p with
  | true =>
   rw [if_pos rfl,if_pos rfl,upd_same] at f
   cases f
  | false =>
   rw [if_neg (by decide),if_neg (by decide),zF g.n12.symm,zF g.n2,g.h2] at f
   cases f
 refine ⟨An.Same.updF (e2.trans s3) bo,⟨upd_same,?_,?_,?_,g.b1,g.b2,g.n12,g.n1,g.n2,?_,?_,fun Z hz=>DN.same (fun b u q=>?_) (g.d3 Z hz)⟩⟩
 ·rw [zF ot,upd_same]
 ·rw [zF g.n1,zF t1.symm]
  cases p with
  | true =>
   rw [if_pos rfl,if_pos rfl,if_pos rfl,zF g.n12,zF g.n1]
   exact g.h1
  | false =>
   rw [if_neg (by decide),if_neg (by decide),if_neg (by decide),upd_same]
 ·rw [zF g.n2,zF t2'.symm]
  cases p with
  | true =>
   rw [if_pos rfl,if_pos rfl,if_pos rfl,upd_same]
  | false =>
   rw [if_neg (by decide),if_neg (by decide),if_neg (by decide),zF g.n12.symm,zF g.n2]
   exact g.h2
 ·cases p with
  | true=>exact g.d1
  | false =>
   show DtAll K B ((c.ones ++ [s]).map spD) (us1 ++ [sv])
   rw [List.map_append]
   exact DtAll.append g.d1 ⟨_,_,rfl,hs,rfl⟩
 ·cases p with
  | true =>
   show DtAll K B ((c.others ++ [s]).map spD) (us2 ++ [sv])
   rw [List.map_append]
   exact DtAll.append g.d2 ⟨_,_,rfl,hs,rfl⟩
  | false=>exact g.d2
 ·have nb:b ∉ o :: m1 :: m2 :: Z:=fun z=>by rw [hideS_in z] at q; cases q
  rw [hideS_ne nb] at q
  rw [hideS_ne nb,zF fun z=>nb (by rw [z]; exact List.mem_cons_self ..)]
  refine s3 _ _ ?_
  rw [zF,zF fun z=>nb (by rw [z]; exact List.mem_cons_self ..)]
  ·exact q
  ·intro z
   cases p with
   | true=>exact nb (by rw [z,if_pos rfl]; exact List.mem_cons_of_mem _ (List.mem_cons_of_mem _ (List.mem_cons_self ..)))
   | false=>exact nb (by rw [z,if_neg (by decide)]; exact List.mem_cons_of_mem _ (List.mem_cons_self ..))
theorem gst_add0 {K:PySem.W.Frag} {B H:Hp} {o m1 m2 t t2:Addr} {done:List (G Str)} {c:G Str} {vs us1 us2:List V} {s:S Str} {sv:V} {hi:Nat} (g:GSt K B H o done c t m1 m2 vs us1 us2) (e:Same B H) (bo:B o = none) (hs:Dt K B (spD s) sv) (f:upd (upd H o (.lst vs)) m1 (.lst (us1 ++ [sv])) t2 = none) :
  Same B (upd (upd (upd (upd H o (.lst vs)) m1 (.lst (us1 ++ [sv]))) t2 (.tup [.int c.lo,.int hi,.ref m1,.ref m2])) o (.lst (vs ++ [.ref t2]))) /\ GSt K B (upd (upd (upd (upd H o (.lst vs)) m1 (.lst (us1 ++ [sv]))) t2 (.tup [.int c.lo,.int hi,.ref m1,.ref m2])) o (.lst (vs ++ [.ref t2]))) o done ⟨c.lo,hi,c.ones ++ [s],c.others⟩ t2 m1 m2 vs (us1 ++ [sv]) us2 :=
 gst_add g e bo hs false f
theorem gst_add1 {K:PySem.W.Frag} {B H:Hp} {o m1 m2 t t2:Addr} {done:List (G Str)} {c:G Str} {vs us1 us2:List V} {s:S Str} {sv:V} {hi:Nat} (g:GSt K B H o done c t m1 m2 vs us1 us2) (e:Same B H) (bo:B o = none) (hs:Dt K B (spD s) sv) (f:upd (upd H o (.lst vs)) m2 (.lst (us2 ++ [sv])) t2 = none) :
  Same B (upd (upd (upd (upd H o (.lst vs)) m2 (.lst (us2 ++ [sv]))) t2 (.tup [.int c.lo,.int hi,.ref m1,.ref m2])) o (.lst (vs ++ [.ref t2]))) /\ GSt K B (upd (upd (upd (upd H o (.lst vs)) m2 (.lst (us2 ++ [sv]))) t2 (.tup [.int c.lo,.int hi,.ref m1,.ref m2])) o (.lst (vs ++ [.ref t2]))) o done ⟨c.lo,hi,c.ones,c.others ++ [s]⟩ t2 m1 m2 vs us1 (us2 ++ [sv]) :=
 gst_add g e bo hs true f
theorem GSt.tne {K:PySem.W.Frag} {B H:Hp} {o:Addr} {done:List (G Str)} {c:G Str} {t m1 m2:Addr} {vs us1 us2:List V} (g:GSt K B H o done c t m1 m2 vs us1 us2):t ≠ o /\ t ≠ m1 /\ t ≠ m2 :=
 ⟨fun z=>(by have:=g.ho; rw [← z,g.ht] at this; cases this),fun z=>(by have:=g.h1; rw [← z,g.ht] at this; cases this),fun z=>(by have:=g.h2; rw [← z,g.ht] at this; cases this)⟩
theorem max_int (a b:Nat):(if (b:Int) > (a:Int) then (b:Int) else (a:Int)) = ((max a b:Nat):Int):=by
 split <;> omega
theorem addG_new {x:S Str × Bool}:addG ⟨x.1.1,x.1.2.1,[],[]⟩ x = single x:=by
 unfold addG single
 cases x.2 <;> simp
theorem pr_le {x y:S Str × Bool} (h:prO.le x y):(spanO strO).le x.1 y.1:=(Bool.or_eq_false_iff.mp (show qP _ _ _ _ = false from h)).1
theorem pr_open {K:PySem.W.Frag} {H:Hp} {x:S Str × Bool} {v:V} (h:Dt K H (prD x) v):∃ (t:Addr) (sv:V),v = .ref t /\ SqT K H t [sv,.int (if x.2 then 3 else 2)] /\ Dt K H (spD x.1) sv:=by
 obtain ⟨t,xs,rfl,h1,x1,r1,rfl,e1,x2,r2,rfl,e2,e3⟩:=h
 cases e2
 cases e3
 exact ⟨t,x1,rfl,h1,e1⟩
theorem noL_pr (x:S Str × Bool):y0 (prD x) = true:=by
 show (y0 (spD x.1) && (true && true)) = true
 rw [noL_sp]
 rfl
theorem noL_prs (l:List (S Str × Bool)):xI (l.map prD) = true:=y8 fun d hd=>by
 obtain ⟨x,_,rfl⟩:=List.mem_map.mp hd
 exact noL_pr x
def bndP (n:Nat):Pt Str -> Prop
 | .same x=>x.length <= n
 | .clash b m y=>b.length <= n /\ m.length <= n /\ y.length <= n
theorem flush_bnd {x:List Str} {n:Nat} (h:x.length <= n) (ho:okL x):(∀ p ∈ flush x,okP p /\ bndP n p) /\ (flush x).length <= 1:=by
 unfold flush
 split
 ·exact ⟨fun p hp=>(nomatch hp),Nat.zero_le _⟩
 ·exact ⟨fun p hp=>by rw [List.mem_singleton.mp hp]; exact ⟨ho,h⟩,Nat.le_refl _⟩
theorem xK {x y:List Str} (h1:okL x) (h2:okL y):okL (x ++ y):=fun l hl=>(List.mem_append.mp hl).elim (h1 l) (h2 l)
theorem okL_cut {x:List Str} (h:okL x) (i k:Nat):okL (cut x i k):=fun l hl=>h l (List.mem_of_mem_drop (List.mem_of_mem_take hl))
theorem J_bnd {b:List Str} (hb:okL b) (bn:b.length <= 40):∀ {gs:List (G Str)} {acc:List Str} {i:Nat},(∀ g ∈ gs,GFact b g) -> okL acc -> (∀ p ∈ J b acc i gs,okP p /\ bndP (acc.length + 250 * gs.length + 250) p) /\ (J b acc i gs).length <= 2 * gs.length + 1
 | [],acc,i,_,ha=>by
  have dl:(b.drop i).length <= 40:=by rw [List.length_drop]; omega
  obtain ⟨h1,h2⟩:=flush_bnd (x:=acc ++ b.drop i) (n:=acc.length + 250 * 0 + 250) (by rw [List.length_append]; omega) (xK ha fun l hl=>hb l (List.mem_of_mem_drop hl))
  exact ⟨h1,by show (flush (acc ++ b.drop i)).length <= 1; exact h2⟩
 | g :: r,acc,i,hg,ha=>by
  have gf:=hg g (List.mem_cons_self ..)
  have hr:=fun x hx=>hg x (List.mem_cons_of_mem _ hx)
  obtain ⟨o1,n1⟩:=there_ok hb gf.l1 gf.v1 gf.hi (by omega) gf.p1
  obtain ⟨o2,n2⟩:=there_ok hb gf.l2 gf.v2 gf.hi (by omega) gf.p2
  have cl:∀ i k,(cut b i k).length <= 40:=fun i k=>by
   unfold cut
   rw [List.length_take,List.length_drop]
   omega
  have wk:∀ {n m:Nat} {p:Pt Str},n <= m -> bndP n p -> bndP m p:=fun {n m p} h z=>by
   cases p with
   | same x=>exact Nat.le_trans z h
   | clash b m y=>exact ⟨Nat.le_trans z.1 h,Nat.le_trans z.2.1 h,Nat.le_trans z.2.2 h⟩
  obtain ⟨st1,st2⟩:=J_step (b:=b) (acc:=acc) (i:=i) (g:=g) (r:=r)
  cases q:g.one b with
  | some x =>
   have hx:okL x /\ x.length <= 200:=by
    unfold G.one at q
    split at q
    ·cases q; exact ⟨o2,n2⟩
    ·split at q
     ·cases q; exact ⟨o1,n1⟩
     ·cases q
   obtain ⟨h1,h2⟩:=J_bnd hb bn (acc:=acc ++ cut b i g.lo ++ x) (i:=g.hi) hr (xK (xK ha (okL_cut hb _ _)) hx.1)
   rw [st1 x q,List.length_cons]
   refine ⟨fun p hp=>⟨(h1 p hp).1,wk ?_ (h1 p hp).2⟩,by omega⟩
   have:=cl i g.lo
   rw [List.length_append,List.length_append]
   omega
  | none =>
   obtain ⟨h1,h2⟩:=J_bnd hb bn (acc:=[]) (i:=g.hi) hr (fun l hl=>nomatch hl)
   have:=cl i g.lo
   obtain ⟨f1,f2⟩:=flush_bnd (x:=acc ++ cut b i g.lo) (n:=acc.length + 250 * (g :: r).length + 250) (by rw [List.length_append]; omega) (xK ha (okL_cut hb _ _))
   rw [st2 q,List.length_append,List.length_cons,List.length_cons]
   rw [List.length_cons] at f1
   refine ⟨fun p hp=>?_,by omega⟩
   rcases List.mem_append.mp hp with hp | hp
   ·exact f1 p hp
   ·rcases List.mem_cons.mp hp with rfl | hp
    ·exact ⟨⟨okL_cut hb _ _,o1,o2⟩,by have:=cl g.lo g.hi; show (cut b g.lo g.hi).length <= _; omega,Nat.le_trans n1 (by omega),Nat.le_trans n2 (by omega)⟩
    ·exact ⟨(h1 p hp).1,wk (by simp; omega) (h1 p hp).2⟩
def okPs (ps:List (Pt Str)):Prop:=ps.length <= 200 /\ ∀ p ∈ ps,okP p /\ bndP 20000 p
theorem Joined.okPs {b m y:List Str} {ps:List (Pt Str)} (h:Joined b m y ps) (ok:okJ b m y):AnJ.okPs ps:=by
 obtain ⟨gs,g,rfl⟩:=h
 obtain ⟨xok,mok,yok,xl,ml,yl,x1,x2,p1,p2⟩:=ok
 have r1:=row1_spans (xs:=b) (ys:=m) x1 p1 mok
 have r2:=row1_spans (xs:=b) (ys:=y) x2 p2 yok
 have gl:=grps_len g.some
 rw [g.fa,g.fb] at gl
 have:=r1.len
 have:=r2.len
 obtain ⟨h1,h2⟩:=J_bnd (b:=b) (gs:=gs) (acc:=[]) (i:=0) (fun l hl=>lineB_ok (xok l hl)) xl (g.fact r1 r2) (fun l hl=>nomatch hl)
 refine ⟨by omega,fun p hp=>⟨(h1 p hp).1,?_⟩⟩
 have z:=(h1 p hp).2
 cases p with
 | same x =>
  have z:x.length <= 0 + 250 * gs.length + 250:=z
  show x.length <= 20000
  omega
 | clash b m y =>
  have z:b.length <= 0 + 250 * gs.length + 250 /\ m.length <= 0 + 250 * gs.length + 250 /\ y.length <= 0 + 250 * gs.length + 250:=z
  show b.length <= 20000 /\ m.length <= 20000 /\ y.length <= 20000
  omega
theorem clean_ok:∀ {ps:List (Pt Str)} {ls:List Str},cleanL ps = some ls -> (∀ p ∈ ps,okP p) -> okL ls
 | [],ls,h,_=>by
  cases h
  exact fun l hl=>nomatch hl
 | .same x :: r,ls,h,ho=>by
  have h:(cleanL r).map (x ++ ·) = some ls:=h
  cases q:cleanL r with
  | none=>rw [q] at h; cases h
  | some z =>
   rw [q] at h
   cases h
   exact xK (ho _ (List.mem_cons_self ..)) (clean_ok q fun p hp=>ho p (List.mem_cons_of_mem _ hp))
 | .clash .. :: _,ls,h,_=>nomatch h
end AnJ
namespace An
open PySem L2
def stroke:Str:=⟨#[47]⟩
theorem stroke_is:("/":Str) = stroke:=by decide +kernel
def jn:List (List Nat) -> List Nat
 | []=>[]
 | [x]=>x
 | x :: y :: r=>x ++ 47 :: jn (y :: r)
def spl:List Nat -> List (List Nat)
 | []=>[[]]
 | c :: r=>if c = 47 then [] :: spl r else match spl r with
  | []=>[[c]]
  | p :: ps=>(c :: p) :: ps
theorem spl_ne:∀ l,spl l ≠ []
 | []=>by simp [spl]
 | c :: r=>by
  unfold spl
  split
  ·simp
  ·split <;> simp
theorem jn_cons {x:List Nat} {r:List (List Nat)} (h:r ≠ []):jn (x :: r) = x ++ 47 :: jn r:=by
 cases r with
 | nil=>exact absurd rfl h
 | cons y r=>rfl
theorem jn_spl:∀ l,jn (spl l) = l
 | []=>rfl
 | c :: r=>by
  have ih:=jn_spl r
  unfold spl
  split
  ·rename_i e
   rw [jn_cons (spl_ne r),ih,e]; rfl
  ·cases q:spl r with
   | nil=>exact absurd q (spl_ne r)
   | cons p ps =>
    rw [q] at ih
    cases ps with
    | nil=>show c :: p = _; rw [show p = r from ih]
    | cons y ps =>
     show (c :: p) ++ 47 :: jn (y :: ps) = _
     rw [← ih]; rfl
theorem spl_app:∀ (a b:List Nat),spl (a ++ 47 :: b) = spl a ++ spl b
 | [],b=>by
  show (if 47 = 47 then [] :: spl b else _) = [[]] ++ spl b
  rw [if_pos rfl]; rfl
 | c :: a,b=>by
  have ih:=spl_app a b
  show spl (c :: (a ++ 47 :: b)) = _
  rw [spl,spl,ih]
  split
  ·rfl
  ·cases q:spl a with
   | nil=>exact absurd q (spl_ne a)
   | cons p ps=>rfl
theorem spl_free:∀ {p:List Nat},47 ∉ p -> spl p = [p]
 | [],_=>rfl
 | c :: p,h=>by
  have ih:=spl_free (p:=p) fun z=>h (List.mem_cons_of_mem _ z)
  unfold spl
  rw [if_neg (fun z=>h (by rw [z]; exact List.mem_cons_self)),ih]
theorem spl_jn:∀ {ps:List (List Nat)},ps ≠ [] -> (∀ p ∈ ps,47 ∉ p) -> spl (jn ps) = ps
 | [],h,_=>absurd rfl h
 | [p],_,h=>spl_free (h p List.mem_cons_self)
 | p :: q :: r,_,h=>by
  rw [jn_cons (by simp),spl_app,spl_free (h p List.mem_cons_self),spl_jn (ps:=q :: r) (by simp) fun x hx=>h x (List.mem_cons_of_mem _ hx)]
  rfl
theorem jn_app:∀ {a b:List (List Nat)},a ≠ [] -> b ≠ [] -> jn (a ++ b) = jn a ++ 47 :: jn b
 | [],_,h,_=>absurd rfl h
 | [x],b,_,hb=>jn_cons hb
 | x :: y :: r,b,_,hb=>by
  show x ++ 47 :: jn ((y :: r) ++ b) = (x ++ 47 :: jn (y :: r)) ++ 47 :: jn b
  rw [jn_app (a:=y :: r) (by simp) hb]
  simp
theorem jn_len:∀ {ps:List (List Nat)} {p:List Nat},p ∈ ps -> p.length <= (jn ps).length
 | [],_,h=>by cases h
 | [x],p,h=>by rw [List.mem_singleton.mp h]; exact Nat.le_refl _
 | x :: y :: r,p,h=>by
  show _ <= (x ++ 47 :: jn (y :: r)).length
  rw [List.length_append,List.length_cons]
  rcases List.mem_cons.mp h with rfl | h
  ·omega
  ·have:=jn_len h; omega
theorem jn_cnt:∀ {ps:List (List Nat)},ps.length <= (jn ps).length + 1
 | []=>by simp
 | [x]=>by simp
 | x :: y :: r=>by
  show _ <= (x ++ 47 :: jn (y :: r)).length + 1
  have:=jn_cnt (ps:=y :: r)
  have e1:(x ++ 47 :: jn (y :: r)).length = x.length + ((jn (y :: r)).length + 1):=by rw [List.length_append,List.length_cons]
  have e2:(x :: y :: r).length = (y :: r).length + 1:=List.length_cons
  omega
theorem over_iff {l p:List Nat}:(∃ t,l = p ++ 47 :: t) ↔ ∃ i,i + 1 < (spl l).length /\ p = jn ((spl l).take (i + 1)):=by
 constructor
 ·rintro ⟨t,rfl⟩
  rw [spl_app]
  have h1:0 < (spl p).length:=List.length_pos_iff.mpr (spl_ne p)
  have h2:0 < (spl t).length:=List.length_pos_iff.mpr (spl_ne t)
  refine ⟨(spl p).length - 1,by rw [List.length_append]; omega,?_⟩
  rw [show (spl p).length - 1 + 1 = (spl p).length by omega,List.take_left,jn_spl]
 ·rintro ⟨i,hi,rfl⟩
  refine ⟨jn ((spl l).drop (i + 1)),?_⟩
  rw [← jn_app,List.take_append_drop,jn_spl]
  ·intro z
   have:=congrArg List.length z
   rw [List.length_take,List.length_nil] at this
   omega
  ·intro z
   have:=congrArg List.length z
   rw [List.length_drop,List.length_nil] at this
   omega
def ofL (l:List Nat):Str:=⟨l.toArray⟩
theorem cs_ofL (l:List Nat):cs (ofL l) = l:=by simp [ofL,cs]
theorem ofL_cs (x:Str):ofL (cs x) = x:=cs_inj (cs_ofL _)
theorem cs_join:∀ ys:List Str,cs (Txt.join "/" ys) = jn (ys.map cs):=by
 intro ys
 have e:Txt.join "/" ys = Str.join "/" ys:=StrLaws.glued_eq_join "/" ys
 rw [e]
 clear e
 induction ys with
 | nil=>rfl
 | cons x r ih =>
  cases r with
  | nil=>rfl
  | cons y r =>
   show cs (x ++ "/" ++ Str.join "/" (y :: r)) = cs x ++ 47 :: jn ((y :: r).map cs)
   have:cs ("/":Str) = [47]:=by decide +kernel
   rw [qQ,qQ,ih,this]
   simp
theorem split_is (x:Str):Txt.split x "/" = (spl (cs x)).map ofL:=by
 have h1:cs (Str.join "/" (Txt.split x "/")) = cs x:=by rw [StrLaws.join_split]
 have e:Txt.join "/" (Txt.split x "/") = Str.join "/" (Txt.split x "/"):=StrLaws.glued_eq_join "/" _
 rw [← e,cs_join] at h1
 have hne:Txt.split x "/" ≠ []:=by
  unfold Txt.split
  split
  ·simp
  ·split
   ·simp
   ·unfold Builtin.Str.partsBetween
    intro z
    have:=congrArg List.length z
    simp at this
 have h2:=spl_jn (ps:=(Txt.split x "/").map cs) (by simpa using hne) (fun p hp=>by
  obtain ⟨y,hy,rfl⟩:=List.mem_map.mp hp
  rw [stroke_is] at hy
  exact StrLaws.split_free x 47 y hy)
 rw [h1] at h2
 rw [h2,List.map_map]
 have:(ofL ∘ cs) = (id:Str -> Str):=funext ofL_cs
 rw [this,List.map_id]
def labs (x:Str):List Str:=Txt.split x "/"
theorem qW (x:Str):(labs x).map cs = spl (cs x):=by
 unfold labs
 rw [split_is,List.map_map]
 have:(cs ∘ ofL) = (id:List Nat -> List Nat):=funext cs_ofL
 rw [this,List.map_id]
theorem labs_len {x y:Str} (h:y ∈ labs x):y.length <= x.length:=by
 rw [yY,yY,← jn_spl (cs x),← qW]
 exact jn_len (List.mem_map_of_mem h)
theorem labs_cnt (x:Str):(labs x).length <= x.length + 1:=by
 have:=jn_cnt (ps:=spl (cs x))
 rw [jn_spl,← qW,List.length_map] at this
 rw [yY]; exact this
theorem labs_pos (x:Str):0 < (labs x).length:=by
 have:=List.length_pos_iff.mpr (spl_ne (cs x))
 rw [← qW,List.length_map] at this
 exact this
def fols (x:Str):List Str:=(List.range ((labs x).length - 1)).map fun i=>Txt.join "/" ((labs x).take (i + 1))
def overB (p q:Str):Bool:=Txt.startswith q (p ++ "/")
theorem over_cs {p q:Str}:overB p q = true ↔ ∃ t,cs q = cs p ++ 47 :: t:=by
 unfold overB Txt.startswith
 rw [StrLaws.subAt_eq,List.drop_zero,Nat.zero_add,Bool.and_eq_true,decide_eq_true_eq,beq_iff_eq]
 have e:(p ++ "/":Str).cps.toList = cs p ++ [47]:=by
  have:cs ("/":Str) = [47]:=by decide +kernel
  show cs (p ++ "/") = _
  rw [qQ,this]
 have el:(p ++ "/":Str).length = (cs p).length + 1:=by
  rw [yY]
  show (cs (p ++ "/")).length = _
  rw [show cs (p ++ "/") = cs p ++ [47] from e,List.length_append]; rfl
 rw [e,el]
 constructor
 ·rintro ⟨h1,h2⟩
  refine ⟨(cs q).drop ((cs p).length + 1),?_⟩
  have:=List.take_append_drop ((cs p).length + 1) (cs q)
  rw [h2,List.append_assoc] at this
  exact this.symm
 ·rintro ⟨t,h⟩
  rw [yY,h]
  refine ⟨by simp,?_⟩
  show (cs q).take _ = _
  rw [h]
  rw [show cs p ++ 47 :: t = (cs p ++ [47]) ++ t by simp]
  rw [List.take_left' (by simp)]
theorem fols_iff {p q:Str}:p ∈ fols q ↔ overB p q = true:=by
 rw [over_cs,over_iff]
 unfold fols
 rw [List.mem_map]
 have hl:(spl (cs q)).length = (labs q).length:=by rw [← qW,List.length_map]
 constructor
 ·rintro ⟨i,hi,rfl⟩
  have:=List.mem_range.mp hi
  refine ⟨i,by omega,?_⟩
  rw [cs_join,List.map_take,qW]
 ·rintro ⟨i,hi,h⟩
  refine ⟨i,List.mem_range.mpr (by omega),cs_inj ?_⟩
  rw [cs_join,List.map_take,qW,h]
theorem not_over_self (p:Str):overB p p = false:=by
 rw [Bool.eq_false_iff]
 intro h
 obtain ⟨t,e⟩:=over_cs.mp h
 have:=congrArg List.length e
 simp at this
end An
namespace L2
open PySem PySem.Spec PyProof.Rows
section
variable {X:Cx} {pins:List (Addr × Obj)} {σ:St} {H:Hp} {s:Shared} {d:Addr} {kvs:List (Key × V)}
theorem Room.units128 {k:Nat} {A:Around} (r:Room k A):A.units + 128 < cLine:=by have:=r.un; omega
theorem Inv.freeze (I:Inv X pins σ H s) (e:H d = some (.dK kvs)):∃ ob:Obj,Inv X pins σ (upd H d (.frz ob (.dK kvs))) s:=by
 obtain ⟨hz,hS,vs,rel,o,es,ep,ho,hx,hd,hk,hp,hnd⟩:kvs.length <= sizeLine /\ (d == sysModules) = false /\ ∃ vs,KV kvs vs /\ s.heap.DictOf (mixKind X.prog X.w) d vs:=I.hok d _ e
 refine ⟨o,?_⟩
 have mu:Mut (H d):=by rw [e]; trivial
 exact I.write (x:=d) (e:=d) (h':=s.heap) (t':=s.toks) mu (.inl rfl) (fun b u _ q=>q) ⟨o,ho⟩ ⟨ho,hz,hS,vs,rel,o,es,ep,ho,hx,hd,hk,hp,hnd⟩
theorem rel_kV {P:Program} {w:World} {k:Key} {u:Value} (h:(mixKind P w).is k u = true):RelV (kV k) u:=by
 cases k with
 | inl i =>
  have h:Value.isInt i u = true:=h
  cases u <;> simp [Value.isInt] at h
  subst h
  exact ⟨_,rfl⟩
 | inr x =>
  obtain ⟨t,rfl⟩:=Value.isStrOf_shape (show Value.isStrOf x u = true from h)
  exact ⟨t,rfl⟩
theorem qO {α β:Type} {F:α -> β -> Prop}:∀ {l₁:List α} {l₂:List β} {i:Nat} {y:β},Paired F l₁ l₂ -> l₂[i]? = some y -> ∃ x,l₁[i]? = some x /\ F x y
 | _,_,_,_,.nil,h=>by cases h
 | _,_,0,_,.cons r _,h=>by cases h; exact ⟨_,rfl,r⟩
 | _,_,i + 1,_,.cons _ t,h=>by
  obtain ⟨x,h1,h2⟩:=qO (i:=i) t (by simpa using h)
  exact ⟨x,by simpa using h1,h2⟩
theorem frz_at {P:Program} {w:World} {h:Heap} {ob:Obj} (z:ObjOk P w H h d (.frz ob (.dK kvs))):∃ vs es ep,ob.data = .dict es ep /\ KV kvs vs /\ h.DictAt (mixKind P w) d vs ep /\ (d == sysModules) = false /\ kvs.length <= sizeLine:=by
 obtain ⟨h0,hz,hS,vs,rel,o,es',ep',ho,hx,hd',hk,hp,hnd⟩:=z
 rw [h0] at ho; cases ho
 exact ⟨vs,es',ep',hd',rel,⟨ob,es',h0,hx,hd',hk,hp,hnd⟩,hS,hz⟩
theorem dict_at {P:Program} {w:World} {h:Heap} {ob:Obj} {es:Array DictEntry} {ep:Nat} (hd:ob.data = .dict es ep) (z:ObjOk P w H h d (.frz ob (.dK kvs))):∃ vs,KV kvs vs /\ h.DictAt (mixKind P w) d vs ep /\ (d == sysModules) = false:=by
 obtain ⟨vs,es',ep',hd',rel,da,hS,_⟩:=frz_at z
 rw [hd] at hd'; cases hd'
 exact ⟨vs,rel,da,hS⟩
def ItK (d:Addr) (kvs:List (Key × V)) (ob:Obj):It where
 go:=fun i H=>H d = some (.frz ob (.dK kvs)) /\ i < kvs.length
 yld:=fun i H x H'=>H' = H /\ ∃ k v,kvs[i]? = some (k,v) /\ x = kV k
 stop:=fun i H=>H d = some (.frz ob (.dK kvs)) /\ i = kvs.length
theorem turn_keys {P:Program} {w:World} {K:PySem.W.Frag} {tg:Expr} {ob:Obj} {es:Array DictEntry} {ep:Nat} (hd:ob.data = .dict es ep) (it:Addr):Turn P w K tg (ItK d kvs ob) [it] it (fun i h=>h.IsKeyIter it d i kvs.length ep) where
 mem:=by simp
 obj:=fun i h st b hb=>by
  have e:b = it:=by simpa using hb
  subst e
  obtain ⟨o,e,c,dd⟩:=st
  exact ⟨o,e,fun v z=>by rw [dd] at z; cases z⟩
 keep:=fun i h h' st k=>by
  obtain ⟨o,e,c⟩:=st
  exact ⟨o,k it (by simp) o e,c⟩
 item:=by
  intro X hP hw hK hc i pins s σ H E I hf st hg
  subst hP hw hK
  obtain ⟨hfr,hi⟩:=hg
  obtain ⟨vs,rel,da,hS⟩:=dict_at hd (I.hok d _ hfr)
  have hl:kvs.length = vs.length:=Paired.length rel
  rw [hl] at st
  have hx:vs[i]? = some (vs[i]'(by omega)):=List.getElem?_eq_getElem (by omega)
  obtain ⟨f0,f1,f2,f3,f4,f5⟩:=hf it (by simp)
  refine wpAny_pyNext_dict_item (k:=(vs[i]'(by omega)).1) (v:=(vs[i]'(by omega)).2) st da hx fun key h' hkey st' sb=>?_
  have I1:Inv X pins σ H { s with heap:=h' }:=I.turned (t':=s.toks) (fun b o hb e=>(sb.2 b hb).trans e) f0 f1 f3 f4 f5
  rw [← hl] at st'
  obtain ⟨o,e,c,dd⟩:=id st'
  have hk:∃ v,kvs[i]? = some ((vs[i]'(by omega)).1,v):=by
   obtain ⟨⟨k0,v0⟩,h0,h1,_⟩:=qO rel hx
   have h1:k0 = _:=h1
   subst h1
   exact ⟨v0,h0⟩
  obtain ⟨v0,hk⟩:=hk
  exact ⟨key,rfl,go_of (s:={ s with heap:=h' }) e c dd (by decide) ⟨kV (vs[i]'(by omega)).1,H,I1,rel_kV hkey,⟨rfl,_,v0,hk,rfl⟩,st',fun b hb=>(hf b hb).1⟩⟩
 done:=by
  intro X hP hw hK hc i pins s σ H E I hf st hg
  subst hP hw hK
  obtain ⟨hfr,hi⟩:=hg
  subst hi
  obtain ⟨vs,rel,da,hS⟩:=dict_at hd (I.hok d _ hfr)
  have hl:kvs.length = vs.length:=Paired.length rel
  obtain ⟨f0,f1,f2,f3,f4,f5⟩:=hf it (by simp)
  rw [hl] at st
  exact wpAny_pyNext_dict_end (I.ok.hd hc) st da (List.getElem?_eq_none (by omega)) fun h' eb=>⟨rfl,I.turned (t':=s.toks) (fun b o hb e=>eb b o hb e) f0 f1 f3 f4 f5⟩
 self:=fun _ _ _ _ _ st h=>wpAny_pyIter_keyiter st h
def ItP (d:Addr) (kvs:List (Key × V)) (ob:Obj):It where
 go:=fun i H=>H d = some (.frz ob (.dK kvs)) /\ i < kvs.length
 yld:=fun i H x H'=>∃ T k v,kvs[i]? = some (k,v) /\ H T = none /\ x = .ref T /\ H' = upd H T (.tup [kV k,v])
 stop:=fun i H=>H d = some (.frz ob (.dK kvs)) /\ i = kvs.length
theorem turn_pairs {P:Program} {w:World} {K:PySem.W.Frag} {elts:List Expr} {x1} {tpos:Pos} {ob:Obj} {es:Array DictEntry} {ep:Nat} (hd:ob.data = .dict es ep) (it:Addr) :
  Turn P w K (.Tuple elts x1 tpos) (ItP d kvs ob) [it] it (fun i h=>∃ ok ov,IsItemIter h it d i kvs.length ep ok ov) where
 mem:=by simp
 obj:=fun i h st b hb=>by
  have e:b = it:=by simpa using hb
  subst e
  obtain ⟨ok,ov,e⟩:=st
  exact ⟨_,e,fun v z=>by cases z⟩
 keep:=fun i h h' st k=>by
  obtain ⟨ok,ov,e⟩:=st
  exact ⟨ok,ov,k it (by simp) _ e⟩
 item:=by
  intro X hP hw hK hc i pins s σ H E I hf st hg
  subst hP hw hK
  obtain ⟨hfr,hi⟩:=hg
  obtain ⟨vs,rel,da,hS⟩:=dict_at hd (I.hok d _ hfr)
  have hl:kvs.length = vs.length:=Paired.length rel
  obtain ⟨ok,ov,st⟩:=st
  rw [hl] at st
  obtain ⟨⟨kk,vv⟩,hx⟩:∃ p,vs[i]? = some p:=⟨_,List.getElem?_eq_getElem (show i < vs.length by omega)⟩
  obtain ⟨⟨k0,v0⟩,h0,h1,rv⟩:=qO rel hx
  have h1:k0 = kk:=h1
  have rv:RelV v0 vv:=rv
  have fi:=hf it (by simp)
  have hT:H s.heap.objs.size = none:=I.hok.fresh (Nat.le_refl _)
  have ltI:it < s.heap.objs.size:=Heap.lt_size st
  refine wpAny_pyNext_items_item (k:=kk) (v:=vv) st da hx fun key h' hkey out tup sz kp=>?_
  refine ⟨_,rfl,wpAny_letOwnedTupleGo_items out fun h2 en sb=>?_⟩
  have tup2:h2.get? s.heap.objs.size = some { cls:=.type "tuple",data:=.seq #[key,vv] }:=(sb.2 _ (Nat.ne_of_gt ltI)).trans tup
  have I1:Inv X pins σ H { s with heap:=h2 }:=I.turnedAll (t':=s.toks) (ch:=[it]) hf (fun b o hb q=>by
   have b1:b ≠ it:=fun z=>hb (by simp [z])
   exact (sb.2 b b1).trans (kp b o b1 q)) (fun b hb=>by
   have z:b = it:=by simpa using hb
   subst z; exact ⟨_,en⟩)
  have fT:=I.fpOk (Nat.le_refl _) hT
  have new:ObjOk X.prog X.w (upd H s.heap.objs.size (.tup [kV k0,v0])) h2 s.heap.objs.size (.tup [kV k0,v0]) :=
   ⟨by show 2 <= sizeLine; decide,[key,vv],.cons (by rw [h1]; exact rel_kV hkey) (.cons rv .nil),⟨_,tup2,rfl,_,rfl⟩⟩
  have I2:Inv X pins σ (upd H s.heap.objs.size (.tup [kV k0,v0])) { s with heap:=h2 } :=
   I1.takeUp hT (Nat.le_trans I.sz (Nat.le_refl _)) fT.2.1 fT.2.2.2.2.1 fT.2.2.2.2.2 new
  refine ⟨.ref s.heap.objs.size,_,I2,rfl,⟨_,k0,v0,h0,hT,rfl,rfl⟩,⟨key,vv,by rw [hl]; exact en⟩,fun b hb=>?_⟩
  have z:b = it:=by simpa using hb
  subst z
  rw [zF (Nat.ne_of_lt ltI)]
  exact fi.1
 done:=by
  intro X hP hw hK hc i pins s σ H E I hf st hg
  subst hP hw hK
  obtain ⟨hfr,hi⟩:=hg
  subst hi
  obtain ⟨vs,rel,da,hS⟩:=dict_at hd (I.hok d _ hfr)
  have hl:kvs.length = vs.length:=Paired.length rel
  obtain ⟨f0,f1,f2,f3,f4,f5⟩:=hf it (by simp)
  obtain ⟨ok,ov,st⟩:=st
  rw [hl] at st
  exact wpAny_pyNext_items_end (I.ok.hd hc) st da (List.getElem?_eq_none (by omega)) fun h' eb=>⟨rfl,I.turned (t':=s.toks) (fun b o hb e=>eb b o hb e) f0 f1 f3 f4 f5⟩
 self:=fun _ _ _ _ _ st h=>by
  obtain ⟨ok,ov,st⟩:=st
  exact PySem.W.kcp_self st h
end
section
variable {X:Cx} {tg:Expr}
def tFrz (t:TE):TE:=fun σ H Q=>t σ H fun v H1=>∃ d kvs,v = .ref d /\ H1 d = some (.dK kvs) /\ ∀ ob,Q v (upd H1 d (.frz ob (.dK kvs)))
theorem pe_frz {e:Expr} {t:TE} (h:PE X e t):PE X e (tFrz t):=by
 intro pins s σ H Q I q
 refine thn (h pins s σ H _ I q) fun v s1 ⟨x,H1,I1,r,d,kvs,ex,hd,q⟩=>?_
 subst ex
 obtain ⟨ob,I2⟩:=I1.freeze hd
 exact ⟨.ref d,_,I2,r,q ob⟩
def iKeys (td:TE):TI:=fun σ H R=>td σ H fun v H1=>∃ d ob kvs,v = .ref d /\ H1 d = some (.frz ob (.dK kvs)) /\ R (ItK d kvs ob) H1
theorem pi_keys {l:Expr} {tl:TE} (hl:PE X l tl):PI X tg l (iKeys tl):=by
 intro pins s σ H R I h
 refine thn (hl pins s σ H _ I h) fun v s1 ⟨x,H1,I1,r,d,ob,kvs,ex,hd,q⟩=>?_
 subst ex
 cases r
 obtain ⟨vs,es,ep,hdat,rel,da,hS,_⟩:=frz_at (I1.hok d _ hd)
 have hlen:kvs.length = vs.length:=Paired.length rel
 refine wpAny_pyIter_dict hS da ?_
 have I3:Inv X pins σ H1 { s1 with heap:=s1.heap.push { cls:=.type "dict_keyiterator",data:=.fields #[.ref d,.int 0 0,.int vs.length 0,.int ep 0] } }:=I1.kept (t':=s1.toks) fun b o e=>Heap.get?_push_of_some _ e
 refine ⟨s1.heap.objs.size,[s1.heap.objs.size],_,_,_,rfl,I3,turn_keys hdat _,?_,fun b hb=>?_,q⟩
 ·exact ⟨_,Heap.get?_push_size _ rfl,rfl,by rw [hlen]; rfl⟩
 ·have e:b = s1.heap.objs.size:=by simpa using hb
  subst e
  exact I1.fpOk (Nat.le_refl _) (I1.hok.fresh (Nat.le_refl _))
def iPairs (td:TE):TI:=fun σ H R=>td σ H fun v H1=>∃ d ob kvs,v = .ref d /\ H1 d = some (.frz ob (.dK kvs)) /\ R (ItP d kvs ob) H1
theorem pi_pairs {o:Expr} {td:TE} {elts:List Expr} {x1} {tpos apos cpos:Pos} (ho:PE X o td) (hbase:attributeBase o "items" X.env (eval o X.env) = eval o X.env:=by rfl) (hline:(apos.endLine == cpos.line) = true:=by rfl) :
  PI X (.Tuple elts x1 tpos) (.Call (.Attribute o "items" apos) [] [] cpos) (iPairs td):=by
 intro pins s σ H R I h
 refine wpAny_Call_method0_late hbase hline (thn (ho pins s σ H _ I h) fun v s1 ⟨x,H1,I1,r,d,ob,kvs,ex,hd,q⟩=>?_)
 subst ex
 cases r
 obtain ⟨vs,es,ep,hdat,rel,da,hS,_⟩:=frz_at (I1.hok d _ hd)
 have hlen:kvs.length = vs.length:=Paired.length rel
 have dO:=da.dictOf
 obtain ⟨ob',es',h1,h2,h3⟩:=id da
 refine ⟨"dict","dict.items",F.plainAttrs_dict,F.slot_dict_items,F.type_dict_items,dO.typeIs,fun b q=>by cases q; exact ⟨ob',h1,h2.2.1⟩,Calls.callWith_builtin rfl (PySem.evalArgs_none ?_)⟩
 refine call_meetsIn F.slot_dict_items dO.typeIs F.entry_dict_items (F.args_dict_items_1 _) (meets_dict_items (mixKind X.prog X.w) d hS) ⟨⟨vs,dO⟩,?_⟩
 have I2:Inv X pins σ H1 { s1 with heap:=s1.heap.push { cls:=.type "dict_items",data:=.fields #[.ref d] } }:=I1.kept (t':=s1.toks) fun b o e=>Heap.get?_push_of_some _ e
 have da2:(s1.heap.push { cls:=.type "dict_items",data:=.fields #[.ref d] }).DictAt (mixKind X.prog X.w) d vs ep:=da.at' fun o e=>Heap.get?_push_of_some _ e
 refine wpAny_pyIter_items (v:=s1.heap.objs.size) (d:=d) ⟨_,Heap.get?_push_size _ rfl,rfl,rfl⟩ da2 ?_
 refine ⟨_,[_],_,_,_,rfl,I2.kept (t':=s1.toks) fun b o e=>Heap.get?_push_of_some _ e,turn_pairs hdat _,⟨_,_,by rw [hlen]; exact Heap.get?_push_size _ rfl⟩,fun b hb=>?_,q⟩
 have e:=List.mem_singleton.mp hb
 subst e
 exact I2.fpOk (Nat.le_refl _) (I2.hok.fresh (Nat.le_refl _))
section
variable {d:Addr} {kvs:List (Key × V)} {ob:Obj} {g:TG} {tb:TS} {D:Ends} {σ:St} {H:Hp}
theorem for_keys (Pv:Nat -> St -> Hp -> Prop) (h0:Pv 0 σ H) (hl:∀ i σ H,i <= kvs.length -> Pv i σ H -> H d = some (.frz ob (.dK kvs)))
  (hs:∀ i k v σ H,kvs[i]? = some (k,v) -> Pv i σ H -> g (kV k) σ H fun σ2 H2=>tb { D with nx:=Pv (i + 1),ct:=Pv (i + 1),bk:=D.nx } σ2 H2) (hd:∀ σ H,Pv kvs.length σ H -> D.nx σ H):ForW (ItK d kvs ob) g tb D σ H :=
 for_n kvs.length Pv h0 (fun σ H p=>⟨hl _ σ H (Nat.le_refl _) p,rfl⟩) (fun i σ H hi p=>⟨hl i σ H (Nat.le_of_lt hi) p,hi⟩) (fun i σ H hi p v H' y=>by
  obtain ⟨eH,k,x,hx,ev⟩:=y
  subst ev eH
  exact hs i k x σ _ hx p) hd
end
def rInZ:R2:=fun y x H Q=>∃ a o,x = .ref a /\ DGet H a y o /\ Q (.bl o.isSome) H
theorem op_inZ (hu:X.A.units + 64 < cLine):OpR X (compareOp .In) rInZ:=by
 intro pins s σ H y x v u Q I ry rx h
 obtain ⟨a,o,rfl,g,q⟩:=h
 cases rx
 exact d_in (by omega) I g ry fun s' I'=>⟨.bl _,H,I',rfl,q⟩
theorem get_frz {H:Hp} {a:Addr} {ob:Obj} {kvs:List (Key × V)} {k:Key} (e:H a = some (.frz ob (.dK kvs))):DGet H a (kV k) (valV kvs k):=.inl ⟨kvs,k,.inr ⟨ob,e⟩,rfl,rfl⟩
theorem vals_keys {P:Program} {w:World}:∀ {kvs:List (Key × V)} {vs:List (Key × Value)} {us:List Value},KV kvs vs -> us.length = vs.length -> (∀ (j:Nat) (v:Value),us[j]? = some v -> ∃ k x,vs[j]? = some (k,x) /\ (mixKind P w).is k v = true) -> Vals (kvs.map fun kv=>kV kv.1) us
 | [],_,[],.nil,_,_=>.nil
 | [],_,_ :: _,.nil,hl,_=>by cases hl
 | _ :: _,_,[],.cons _ _,hl,_=>by cases hl
 | p :: _,q :: _,u :: us,.cons r1 r2,hl,hm=>by
  obtain ⟨k,x,e,hk⟩:=hm 0 u rfl
  have e:q = (k,x):=by simpa using e
  have e1:p.1 = k:=by rw [show p.1 = q.1 from r1.1,e]
  refine .cons (by show RelV (kV p.1) u; rw [e1]; exact rel_kV hk) (vals_keys (P:=P) (w:=w) r2 (by simpa using hl) fun j v hj=>?_)
  obtain ⟨k2,x2,q1,q2⟩:=hm (j + 1) v (by simpa using hj)
  exact ⟨k2,x2,by simpa using q1,q2⟩
inductive Hits (K:PySem.W.Frag) (H:Hp) (kb:List (Key × V)):List (Key × V) -> Bool -> Prop
 | nil:Hits K H kb [] true
 | miss {k:Key} {v:V} {r:List (Key × V)}:valV kb k = none -> Hits K H kb ((k,v) :: r) false
 | hit {k:Key} {v y:V} {d e:PyData} {r:List (Key × V)} {b:Bool}:valV kb k = some y -> Dt K H d v -> Dt K H e y -> SeqAt.shaped d = true -> SeqAt.shaped e = true -> Hits K H kb r b -> Hits K H kb ((k,v) :: r) (PyData.eqv d e && b)
end
end L2
namespace AxS
open PySem PySem.Spec PyProof.Rows
theorem orStandIn_marks (t:SetTable) (n:Nat):(t.orStandIn n).led = t.led /\ (t.plain = false -> (t.orStandIn n).plain = false):=by
 unfold SetTable.orStandIn
 split
 ·exact ⟨rfl,id⟩
 ·exact ⟨rfl,fun _=>rfl⟩
theorem layNew_marks (t:SetTable) (es:Array (Int × Value)) (h:Int) (x:Value):(layNew t es h x).2.1.led = t.led /\ (t.plain = false -> (layNew t es h x).2.1.plain = false):=by
 unfold layNew
 split
 ·rename_i slot wd _
  have m:=orStandIn_marks (t.put slot).1 (SetTable.insertAt es (t.put slot).2 (h,x)).size
  exact ⟨m.1,m.2⟩
 ·exact ⟨rfl,fun _=>rfl⟩
theorem laid_marks {mask finger moves:Nat} {led plain:Bool} {hs:Array Int} {t:SetTable} {o:Array Nat} (h:SetTable.laid mask finger moves led plain hs = some (t,o)):t.led = led /\ t.plain = plain:=by
 unfold SetTable.laid at h
 simp only [Option.bind_eq_bind,Option.bind_eq_some_iff,Option.pure_def,Option.some.injEq,Prod.mk.injEq] at h
 obtain ⟨_,_,h,_⟩:=h
 rw [← h]
 exact ⟨rfl,rfl⟩
theorem relayAll_marks (t:SetTable) (es:Array (Int × Value)) (n:Nat):(relayAll t es n).2.1.led = t.led /\ (t.plain = false -> (relayAll t es n).2.1.plain = false):=by
 unfold relayAll
 split
 ·rename_i t' order he
  have m:=laid_marks he
  dsimp only
  split
  ·exact ⟨m.1,fun z=>m.2.trans z⟩
  ·exact ⟨rfl,fun _=>rfl⟩
 ·exact ⟨rfl,fun _=>rfl⟩
def keyOf (e:Int × Value):Str:=match e.2 with
 | .str k _=>k
 | _=>""
def TxData (prog:Program) (w:World) (es:Array (Int × Value)) (t:SetTable) (ks:List Str):Prop :=
 ElemsOf (strKind prog w) es.toList /\ (es.toList.map keyOf).Perm ks /\ es.size < scanBound /\ t.fits es.size = true /\ t.led = !(w.params.followText "set-order") /\ (es.size ≠ 0 -> t.plain = false)
def TxSet (prog:Program) (w:World) (h:Heap) (a:Addr) (ks:List Str):Prop:=∃ o es ep t,h.get? a = some o /\ o.ExactSet /\ o.data = .set es ep t /\ TxData prog w es t ks
section
variable {prog:Program} {w:World} {A:Around} {E:Value -> Shared -> Prop} {s:Shared}
theorem TxSet.at {h h':Heap} {a:Addr} {ks:List Str} (x:TxSet prog w h a ks) (e:∀ o,h.get? a = some o -> h'.get? a = some o):TxSet prog w h' a ks:=by
 obtain ⟨o,es,ep,t,ho,r⟩:=x
 exact ⟨o,es,ep,t,e _ ho,r⟩
theorem key_is {es:Array (Int × Value)} (h:ElemsOf (strKind prog w) es.toList) {e:Int × Value} (he:e ∈ es.toList) (k:Str):(strKind prog w).is k e.2 = true ↔ keyOf e = k:=by
 obtain ⟨⟨k',hk',_⟩,_⟩:=h e he
 obtain ⟨t,et⟩:=Value.isStrOf_shape hk'
 have ek:keyOf e = k':=by unfold keyOf; rw [et]
 constructor
 ·intro z
  rw [ek]
  exact (strKind prog w).inj e.2 k' k hk' z
 ·intro z
  rw [← z,ek]
  exact hk'
theorem mem_keys {es:Array (Int × Value)} {ks:List Str} (h:ElemsOf (strKind prog w) es.toList) (p:(es.toList.map keyOf).Perm ks) (k:Str):k ∈ ks ↔ ∃ e ∈ es.toList,(strKind prog w).is k e.2 = true:=by
 rw [← p.mem_iff,List.mem_map]
 exact ⟨fun ⟨e,he,z⟩=>⟨e,he,(key_is h he k).mpr z⟩,fun ⟨e,he,z⟩=>⟨e,he,(key_is h he k).mp z⟩⟩
theorem tx_len {es:Array (Int × Value)} {t:SetTable} {ks:List Str} (x:TxData prog w es t ks):es.size = ks.length:=by
 rw [← x.2.1.length_eq,List.length_map,Array.length_toList]
theorem tx_add {a:Addr} {ks:List Str} {k:Str} {tk:Tok} {Q:Bool -> Shared -> Prop} (hS:TxSet prog w s.heap a ks) (hroom:ks.length + 1 < scanBound)
  (h:∀ h' r,Heap.SameBut a s.heap h' -> TxSet prog w h' a (if k ∈ ks then ks else ks ++ [k]) -> Q r { s with heap:=h' }) :
  wpAny (model prog w) A (setAddHashed a (.str k tk) (hashStr w k)) Q E s:=by
 obtain ⟨o,es,ep,t,ho,hex,hd,X⟩:=hS
 have hlen:=tx_len X
 obtain ⟨hel,hp,hb,hf,hled,hpl⟩:=X
 have hkey:(strKind prog w).is k (.str k tk) = true:=by show Value.isStrOf k (.str k tk) = true; simp [Value.isStrOf]
 have hsc:(Value.str k tk).scannable = true:=rfl
 have hh:hashStr w k = (strKind prog w).hash k:=rfl
 rw [hh]
 unfold setAddHashed setAddHashedIn
 refine wpAny_holding (wpAny_bind (wpAny_setState_of ho hd hf ?_))
 dsimp only
 rw [byScan_of (knd:=strKind prog w) hsc hb hel]
 simp only [↓reduceIte]
 unfold setAddByScan
 refine wpAny_bind (wpAny_bind (wpAny_rule (wpAny_bind (wpAny_setScan_of (knd:=strKind prog w) hkey ho hd hf hel ?_))))
 cases hr:List.findIdx? (fun e=>(strKind prog w).is k e.2) es.toList with
 | some j =>
  obtain ⟨hj,hpj,_⟩:=List.findIdx?_eq_some_iff_getElem.mp hr
  have hk:k ∈ ks:=(mem_keys hel hp k).mpr ⟨es.toList[j],List.getElem_mem hj,hpj⟩
  have:=h s.heap false (Heap.SameBut.refl a s.heap) (by rw [if_pos hk]; exact ⟨o,es,ep,t,ho,hex,hd,hel,hp,hb,hf,hled,hpl⟩)
  exact wpAny_pure (wpAny_pure this)
 | none =>
  have hk:k ∉ ks:=fun z=>by
   obtain ⟨e,he,q⟩:=(mem_keys hel hp k).mp z
   have:=List.findIdx?_eq_none_iff.mp hr e he
   rw [q] at this; cases this
  rw [if_neg hk] at h
  have hgw:∀ (b:Bool) {s₁:Shared} {Q':Unit -> Shared -> Prop},Q' () s₁ -> wpAny (model prog w) A (match b with | true=>rule "set.scan.the-table-gave-way" | false=>pure ()) Q' E s₁:=by
   intro b s₁ Q' hq
   cases b
   ·exact wpAny_pure hq
   ·exact wpAny_rule hq
  have hperm:=layNew_perm t es ((strKind prog w).hash k) (.str k tk)
  have hfits:=layNew_fits t es ((strKind prog w).hash k) (.str k tk)
  have hmk:=layNew_marks t es ((strKind prog w).hash k) (.str k tk)
  dsimp only
  generalize layNew t es ((strKind prog w).hash k) (.str k tk) = L at hperm hfits hmk ⊢
  obtain ⟨es1,t1,wd,gave⟩:=L
  dsimp only at hperm hfits hmk ⊢
  rw [Array.toList_push] at hperm
  have hsz:es1.size = es.size + 1:=by rw [← Array.length_toList,hperm.length_eq,List.length_append,Array.length_toList]; rfl
  have hel1:ElemsOf (strKind prog w) es1.toList:=(hel.push hkey hsc).perm hperm
  have hp1:(es1.toList.map keyOf).Perm (ks ++ [k]):=by
   refine (hperm.map keyOf).trans ?_
   rw [List.map_append]
   exact hp.append (List.Perm.refl _)
  have hb1:es1.size < scanBound:=by omega
  refine wpAny_bind (hgw _ ?_)
  have tail:∀ (t2:SetTable),t2.fits es1.size = true -> t2.led = t.led -> t2.plain = false -> wpAny (model prog w) A (do
    storeSet a es1 t2
    if (!wd && t2.tooFull) = true then do
      (match (relayAll t2 es1 (SetTable.grown es1.size)).2.2 with | true=>rule "set.scan.the-table-gave-way" | false=>pure ())
      storeSet a (relayAll t2 es1 (SetTable.grown es1.size)).1 (relayAll t2 es1 (SetTable.grown es1.size)).2.1
      pure (some true)
     else pure (some true)) (fun r s'=>r = some true /\ Q true s') E s:=by
   intro t2 hf2 hl2 hp2
   refine wpAny_bind (wpAny_storeSet_of ho hd ?_ (fits_of_scanBound hb1))
   have sb1:=Heap.SameBut.update s.heap a (Obj.putSet es1 t2)
   have ho1:(s.heap.update a (Obj.putSet es1 t2)).get? a = some { o with data:=.set es1 (ep + 1) t2 }:=by
    have:=Heap.get?_update_self (Obj.putSet es1 t2) ho (by rw [putSet_of es1 t2 hd]; rfl)
    rw [putSet_of es1 t2 hd] at this; exact this
   split
   ·have hpR:=relayAll_perm t2 es1 (SetTable.grown es1.size)
    have hfR:=relayAll_fits t2 es1 (SetTable.grown es1.size)
    have hmR:=relayAll_marks t2 es1 (SetTable.grown es1.size)
    generalize relayAll t2 es1 (SetTable.grown es1.size) = Rl at hpR hfR hmR ⊢
    obtain ⟨es2,t3,gv⟩:=Rl
    dsimp only at hpR hfR hmR ⊢
    have hsz2:es2.size = es1.size:=by rw [← Array.length_toList,hpR.length_eq,Array.length_toList]
    refine wpAny_bind (hgw _ (wpAny_bind (wpAny_storeSet_of ho1 rfl ?_ (fits_of_scanBound (by omega)))))
    have ho2:((s.heap.update a (Obj.putSet es1 t2)).update a (Obj.putSet es2 t3)).get? a = some { o with data:=.set es2 (ep + 1 + 1) t3 }:=by
     have:=Heap.get?_update_self (Obj.putSet es2 t3) ho1 (by rw [putSet_of es2 t3 rfl]; rfl)
     rw [putSet_of es2 t3 rfl] at this; exact this
    exact wpAny_pure ⟨rfl,h _ true (sb1.trans (Heap.SameBut.update _ a _)) ⟨_,es2,_,t3,ho2,hex,rfl,hel1.perm hpR,((hpR.map keyOf)).trans hp1,by omega,hfR,hmR.1.trans (hl2.trans hled),fun _=>hmR.2 hp2⟩⟩
   ·exact wpAny_pure ⟨rfl,h _ true sb1 ⟨_,es1,_,t2,ho1,hex,rfl,hel1,hp1,hb1,hf2,hl2.trans hled,fun _=>hp2⟩⟩
  split
  ·refine wpAny_bind ?_
   rw [hashByValue_scannable 8 hsc]
   refine wpAny_pure ?_
   refine wpAny_mono (tail { t1 with plain:=false } (SetTable.fits_plain_off hfits) hmk.1 rfl) (fun r s' q=>?_) fun _ _ z=>z
   obtain ⟨rfl,q⟩:=q
   exact wpAny_pure q
  ·rename_i hpf
   refine wpAny_bind (wpAny_pure ?_)
   simp only [↓reduceIte]
   refine wpAny_mono (tail t1 hfits hmk.1 (by simpa using hpf)) (fun r s' q=>?_) fun _ _ z=>z
   obtain ⟨rfl,q⟩:=q
   exact wpAny_pure q
def step (ks:List Str) (k:Str):List Str:=if k ∈ ks then ks else ks ++ [k]
def uniq (xs:List Str):List Str:=xs.foldl step []
theorem uniq_snoc (xs:List Str) (k:Str):uniq (xs ++ [k]) = step (uniq xs) k:=by unfold uniq; rw [List.foldl_append]; rfl
theorem step_len (ks:List Str) (k:Str):(step ks k).length <= ks.length + 1:=by unfold step; split <;> simp
theorem uniq_len:∀ (n:Nat) (xs:List Str),xs.length = n -> (uniq xs).length <= n
 | 0,xs,h=>by rw [List.eq_nil_of_length_eq_zero h]; exact Nat.le_refl _
 | n + 1,xs,h=>by
  have hne:xs ≠ []:=fun z=>by rw [z] at h; cases h
  rw [← List.dropLast_concat_getLast hne,uniq_snoc]
  have:=uniq_len n xs.dropLast (by rw [List.length_dropLast]; omega)
  have:=step_len (uniq xs.dropLast) (xs.getLast hne)
  omega
theorem uniq_take {xs:List Str} {i:Nat} {k:Str} (h:xs[i]? = some k):uniq (xs.take (i + 1)) = if k ∈ uniq (xs.take i) then uniq (xs.take i) else uniq (xs.take i) ++ [k]:=by
 have e:xs.take (i + 1) = xs.take i ++ [k]:=by rw [List.take_add_one,h]; rfl
 rw [e,uniq_snoc]; rfl
end
section
variable {prog:Program} {w:World} {A:Around} {R:Result -> Shared -> Prop} {I:Addr} {fp wr:List Addr} {G:Array GenState -> Array GenState -> Prop} {n:Nat} {P:Nat -> Value -> Prop} {St:Nat -> Shared -> Prop}
theorem tx_loop (W:WalksS prog w A.in1 I fp wr G n P St) (S:Addr) (hSf:S ∉ fp) (xs:List Str) (hn:xs.length = n) (hval:∀ i v,P i v -> ∃ k t,xs[i]? = some k /\ v = .str k t) (hb:n + 1 < scanBound) :
  ∀ (m i:Nat) (s:Shared),n - i = m -> i <= n -> St i s -> TxSet prog w s.heap S (uniq (xs.take i)) ->
   (∀ s',Moved (S :: wr) G s s' -> TxSet prog w s'.heap S (uniq xs) -> R (.ok (.ret .none)) s') -> codeAny (model prog w) A (.builtin "set.update.loop" ⟨[.ref S,.ref I],[]⟩) R s:=by
 have hSw:S ∉ wr:=fun h=>hSf (W.sub _ h)
 have hsub:∀ b ∈ wr,b ∈ S :: wr:=fun b hb=>List.mem_cons_of_mem _ hb
 intro m
 induction m with
 | zero =>
  intro i s hk hi hst hS hR
  have hin:i = n:=by omega
  subst hin
  refine codeAny_builtin PyProof.Rows.F.entry_set_update_loop ?_
  rw [Around.under_plainId PyProof.Rows.F.plain_set_update_loop _]
  show wpAny _ A.in1 (pyNext (.ref I) >>= _) _ _ s
  refine wpAny_bind (W.done s _ _ hst fun s' hm=>?_)
  show wpAny _ A.in1 (ret Value.none) _ _ s'
  rw [← hn,List.take_length] at hS
  exact wpAny_pure (hR s' (hm.mono hsub) (hS.at fun o e=>hm.heap S _ hSw e))
 | succ m ih =>
  intro i s hk hi hst hS hR
  have hlt:i < n:=by omega
  refine codeAny_builtin PyProof.Rows.F.entry_set_update_loop ?_
  rw [Around.under_plainId PyProof.Rows.F.plain_set_update_loop _]
  show wpAny _ A.in1 (pyNext (.ref I) >>= _) _ _ s
  refine wpAny_bind (W.item i s _ _ hlt hst fun v s' hP hst' hm=>?_)
  obtain ⟨k,t,hxk,rfl⟩:=hval i v hP
  have hS':=hS.at (h':=s'.heap) fun o e=>hm.heap S _ hSw e
  show wpAny _ A.in1 (holding [Value.str k t] (setAdd S (.str k t)) >>= _) _ _ s'
  refine wpAny_bind (wpAny_holding ?_)
  unfold setAdd
  refine wpAny_holding ?_
  refine wpAny_bind ((strKind prog w).pyHash (k:=k) (by show Value.isStrOf k (.str k t) = true; simp [Value.isStrOf]) ?_)
  have hl:=uniq_len _ (xs.take i) rfl
  rw [List.length_take] at hl
  refine tx_add (s:={ s' with toks:=s'.toks + 1 }) hS' (by omega) fun h' r hsb hS2=>?_
  rw [← uniq_take hxk] at hS2
  refine wpAny_pure ⟨plainId_quiet PyProof.Rows.F.plain_set_update_loop _,ih (i + 1) _ (by omega) hlt (W.frame _ s' _ _ hst' (Nat.le_succ _) fun b hb o e=>?_) hS2 fun s'' hm'' hS''=>?_⟩
  ·rw [hsb.2 b (fun h:b = S=>hSf (by rw [← h]; exact hb))]; exact e
  ·refine hR s'' (Moved.trans W.gtrans ((hm.mono hsub).then_heap (Nat.le_succ _) fun b o hb e=>?_) hm'') hS''
   rw [hsb.2 b (fun h:b = S=>hb (by rw [h]; exact List.mem_cons_self))]; exact e
end
section
variable {prog:Program} {w:World} {A:Around} {E:Value -> Shared -> Prop} {s:Shared}
def zL (w:World):Obj:={ cls:=.type "set",dict:=none,data:=.set #[] 0 (.fresh 0 0 (!(w.params.followText "set-order"))) }
theorem tx_fresh {h:Heap} {a:Addr} {xs:List Str} (e:h.get? a = some (zL w)):TxSet prog w h a (uniq (xs.take 0)) :=
 ⟨_,#[],0,_,e,⟨rfl,rfl,rfl⟩,rfl,fun _ z=>by simp at z,List.Perm.refl _,by decide,by rfl,rfl,fun z=>absurd rfl z⟩
theorem set_new (a:Value) {Q₁:Value -> Shared -> Prop} (h:Q₁ (.ref s.heap.objs.size) { s with heap:=s.heap.push (zL w) }) :
  codeAny (model prog w) A (.call (.builtin "set.__new__") ⟨[.type "set",a],[]⟩) (wants Q₁ E) s:=by
 refine codeAny_of_tree ?_
 show wpAny _ A.in1 (do checkBuiltinCall "set.__new__" ⟨[.type "set",a],[]⟩; again (.builtin "set.__new__" ⟨[.type "set",a],[]⟩)) _ _ s
 refine wpAny_bind (wpAny_of_eq (F.newCall_set_1 a) (wpAny_pure ⟨plainId_quiet F.plain_set_new _,codeAny_builtin F.entry_set_new ?_⟩))
 rw [Around.under_plainId F.plain_set_new _]
 unfold Builtin.«set.__new__» Builtin.Frozenset.newClass
 have hsub:=sub_set_self
 obtain ⟨hp,g,d,tk,os⟩:=s
 dsimp only
 wp_walk
 refine wpAny_askSetting (wpAny_pure ?_)
 dsimp only
 simp only [newObj]
 refine wpAny_bind (wpAny_alloc (wpAny_pure ?_))
 exact wpAny_pure h
theorem sub_list_set:isSubtype (.type "list") (.type "set") = pure false:=by rw [isSubtype_type]; kernel_rfl
theorem sub_list_frozenset:isSubtype (.type "list") (.type "frozenset") = pure false:=by rw [isSubtype_type]; kernel_rfl
theorem sub_tuple_set:isSubtype (.type "tuple") (.type "set") = pure false:=by rw [isSubtype_type]; kernel_rfl
theorem sub_tuple_frozenset:isSubtype (.type "tuple") (.type "frozenset") = pure false:=by rw [isSubtype_type]; kernel_rfl
end
end AxS
namespace AxS
open PySem PySem.Spec PyProof.Rows
def f5 (N i:Nat):Nat:=(i * 5 + 1) % N
def orb (N:Nat):Nat -> Nat -> Nat
 | 0,i=>i
 | k + 1,i=>orb N k (f5 N i)
theorem orb_add (N:Nat):∀ (a b i:Nat),orb N (a + b) i = orb N b (orb N a i)
 | 0,b,i=>by rw [Nat.zero_add]; rfl
 | a + 1,b,i=>by
  rw [show a + 1 + b = (a + b) + 1 by omega]
  show orb N (a + b) (f5 N i) = orb N b (orb N a (f5 N i))
  exact orb_add N a b (f5 N i)
def orbL (N:Nat):Nat -> Nat -> List Nat
 | 0,_=>[]
 | n + 1,i=>i :: orbL N n (f5 N i)
theorem orbL_mem {N:Nat}:∀ {n i s:Nat},s ∈ orbL N n i -> ∃ k,k < n /\ orb N k i = s
 | n + 1,i,s,h=>by
  rcases List.mem_cons.mp h with rfl | h
  ·exact ⟨0,by omega,rfl⟩
  ·obtain ⟨k,hk,e⟩:=orbL_mem h
   exact ⟨k + 1,by omega,e⟩
structure Full (N:Nat):Prop where
 all:∀ s,s < N -> ∃ k,k < N /\ orb N k 0 = s
 per:orb N N 0 = 0
theorem qT {N:Nat} (h1:(List.range N).all (fun s=>(orbL N N 0).contains s) = true) (h2:orb N N 0 = 0):Full N:=⟨fun s hs=>by
 have:=List.all_eq_true.mp h1 s (List.mem_range.mpr hs)
 exact orbL_mem (List.contains_iff_mem.mp this),h2⟩
theorem full8:Full 8:=qT (by decide +kernel) (by decide +kernel)
theorem full16:Full 16:=qT (by decide +kernel) (by decide +kernel)
theorem full32:Full 32:=qT (by decide +kernel) (by decide +kernel)
theorem full64:Full 64:=qT (by decide +kernel) (by decide +kernel)
theorem full128:Full 128:=qT (by decide +kernel) (by decide +kernel)
theorem full256:Full 256:=qT (by decide +kernel) (by decide +kernel)
theorem Full.any {N:Nat} (h:Full N) {i s:Nat} (hi:i < N) (hs:s < N):∃ k,k < N /\ orb N k i = s:=by
 obtain ⟨a,ha,ea⟩:=h.all i hi
 obtain ⟨b,hb,eb⟩:=h.all s hs
 by_cases z:a <= b
 ·refine ⟨b - a,by omega,?_⟩
  rw [← ea,← orb_add,show a + (b - a) = b by omega,eb]
 ·refine ⟨N - a + b,by omega,?_⟩
  rw [← ea,← orb_add,show a + (N - a + b) = N + b by omega,orb_add,h.per,eb]
section
variable {mask:Nat} {owner:Array (Option Nat)}
theorem free_at {i k:Nat} (h:((List.range (SetTable.runEnd mask i + 1 - i)).find? fun k=>(owner.getD (i + k) (some 0)).isNone) = some k):owner.getD (i + k) (some 0) = none:=by
 have:=List.find?_some h
 exact Option.isNone_iff_eq_none.mp this
theorem free_none {i:Nat} (h:((List.range (SetTable.runEnd mask i + 1 - i)).find? fun k=>(owner.getD (i + k) (some 0)).isNone) = none):owner.getD i (some 0) ≠ none:=by
 have:=List.find?_eq_none.mp h 0 (List.mem_range.mpr (by unfold SetTable.runEnd; split <;> omega))
 intro z
 rw [Nat.add_zero,z] at this
 exact this rfl
theorem free_zero:∀ (n fuel i:Nat),(∃ k,k <= n /\ owner.getD (orb (mask + 1) k i) (some 0) = none) -> n < fuel -> ∃ j,SetTable.layClean.free mask owner fuel i 0 = some j /\ owner.getD j (some 0) = none:=by
 intro n
 induction n with
 | zero =>
  intro fuel i ⟨k,hk,e⟩ hf
  have:k = 0:=by omega
  subst this
  obtain ⟨f,rfl⟩:∃ f,fuel = f + 1:=⟨fuel - 1,by omega⟩
  unfold SetTable.layClean.free
  cases q:(List.range (SetTable.runEnd mask i + 1 - i)).find? fun k=>(owner.getD (i + k) (some 0)).isNone with
  | some k=>exact ⟨_,rfl,free_at q⟩
  | none=>exact absurd e (free_none q)
 | succ n ih =>
  intro fuel i ⟨k,hk,e⟩ hf
  obtain ⟨f,rfl⟩:∃ f,fuel = f + 1:=⟨fuel - 1,by omega⟩
  unfold SetTable.layClean.free
  cases q:(List.range (SetTable.runEnd mask i + 1 - i)).find? fun k=>(owner.getD (i + k) (some 0)).isNone with
  | some k=>exact ⟨_,rfl,free_at q⟩
  | none =>
   cases k with
   | zero=>exact absurd e (free_none q)
   | succ k =>
    exact ih f _ ⟨k,by omega,e⟩ (by omega)
theorem free_some (F:Full (mask + 1)) (he:∃ s,s < mask + 1 /\ owner.getD s (some 0) = none):∀ (m fuel i p:Nat),p < 32 ^ m -> m + (mask + 1) <= fuel -> i < mask + 1 -> ∃ j,SetTable.layClean.free mask owner fuel i p = some j /\ owner.getD j (some 0) = none:=by
 obtain ⟨s,hs,es⟩:=he
 intro m
 induction m with
 | zero =>
  intro fuel i p hp hf hi
  have:p = 0:=by omega
  subst this
  obtain ⟨k,hk,e⟩:=F.any hi hs
  exact free_zero mask fuel i ⟨k,by omega,by rw [e]; exact es⟩ (by omega)
 | succ m ih =>
  intro fuel i p hp hf hi
  obtain ⟨f,rfl⟩:∃ f,fuel = f + 1:=⟨fuel - 1,by omega⟩
  unfold SetTable.layClean.free
  cases q:(List.range (SetTable.runEnd mask i + 1 - i)).find? fun k=>(owner.getD (i + k) (some 0)).isNone with
  | some k=>exact ⟨_,rfl,free_at q⟩
  | none =>
   refine ih f _ _ ?_ (by omega) (Nat.mod_lt _ (by omega))
   rw [Nat.pow_succ] at hp
   exact Nat.div_lt_of_lt_mul (by omega)
end
theorem bits_lt (h:Int):SetTable.bits h < 32 ^ 13:=by
 unfold SetTable.bits
 have h1:0 <= h % (2 ^ 64:Int):=Int.emod_nonneg _ (by decide)
 have h2:h % (2 ^ 64:Int) < 2 ^ 64:=Int.emod_lt_of_pos _ (by decide)
 have:(2 ^ 64:Int) < (32 ^ 13:Nat):=by decide
 omega
theorem set_perm {k:Nat}:∀ {l:List (Option Nat)} {j:Nat},l[j]? = some none -> ((l.set j (some k)).filterMap id).Perm (k :: l.filterMap id)
 | x :: l,0,h=>by
  have:x = none:=Option.some.inj h
  subst this
  exact List.Perm.refl _
 | x :: l,j + 1,h=>by
  have ih:=set_perm (k:=k) (l:=l) (j:=j) h
  rw [List.set_cons_succ]
  cases x with
  | none=>exact ih
  | some y =>
   show (y :: (l.set j (some k)).filterMap id).Perm (k :: y :: l.filterMap id)
   exact (ih.cons y).trans (List.Perm.swap ..)
theorem z7:∀ {l:List (Option Nat)},(l.filterMap id).length < l.length -> ∃ j,j < l.length /\ l[j]? = some none
 | [],h=>absurd h (Nat.not_lt_zero _)
 | none :: l,_=>⟨0,by simp,rfl⟩
 | some x :: l,h=>by
  have h:(l.filterMap id).length + 1 < l.length + 1:=h
  obtain ⟨j,hj,e⟩:=z7 (l:=l) (by omega)
  exact ⟨j + 1,by simp; omega,e⟩
structure Laid (N k:Nat) (owner:Array (Option Nat)):Prop where
 sz:owner.size = N
 pm:(owner.toList.filterMap id).Perm (List.range k)
theorem lay_all {mask:Nat} (F:Full (mask + 1)):∀ (hs:List Int) (owner:Array (Option Nat)) (k:Nat),Laid (mask + 1) k owner -> k + hs.length <= mask -> ∃ owner',Laid (mask + 1) (k + hs.length) owner' /\
  (hs.foldl (fun acc h=>do
   let (owner,k) ← acc
   let j ← SetTable.layClean.free mask owner (SetTable.turns mask) (SetTable.bits h % (mask + 1)) (SetTable.bits h)
   pure (owner.setIfInBounds j (some k),k + 1)) (some (owner,k)):Option (Array (Option Nat) × Nat)) = some (owner',k + hs.length):=by
 intro hs
 induction hs with
 | nil=>intro owner k L _; exact ⟨owner,L,rfl⟩
 | cons h hs ih =>
  intro owner k L hk
  rw [List.length_cons] at hk
  have pl:=L.pm.length_eq
  rw [List.length_range] at pl
  have ol:owner.toList.length = mask + 1:=by rw [Array.length_toList]; exact L.sz
  obtain ⟨s,hs1,es⟩:=z7 (l:=owner.toList) (by omega)
  have es':owner.getD s (some 0) = none:=by
   rw [Array.getElem?_toList] at es
   rw [Array.getD_eq_getD_getElem?,es]
   rfl
  obtain ⟨j,ej,en⟩:=free_some (owner:=owner) F ⟨s,by omega,es'⟩ 13 (SetTable.turns mask) (SetTable.bits h % (mask + 1)) (SetTable.bits h) (bits_lt h) (by unfold SetTable.turns; omega) (Nat.mod_lt _ (by omega))
  have hj:j < owner.size:=by
   rcases Nat.lt_or_ge j owner.size with z | z
   ·exact z
   ·rw [Array.getD_eq_getD_getElem?,Array.getElem?_eq_none z] at en
    cases en
  have L':Laid (mask + 1) (k + 1) (owner.setIfInBounds j (some k)):=by
   refine ⟨by rw [Array.size_setIfInBounds]; exact L.sz,?_⟩
   rw [Array.toList_setIfInBounds]
   have ej':owner.toList[j]? = some none:=by
    rw [Array.getElem?_toList,Array.getElem?_eq_getElem hj]
    rw [Array.getD_eq_getD_getElem?,Array.getElem?_eq_getElem hj] at en
    exact congrArg some en
   refine (set_perm ej').trans ((L.pm.cons k).trans ?_)
   rw [List.range_succ]
   exact (List.perm_append_singleton k (List.range k)).symm
  obtain ⟨owner',L2,e2⟩:=ih (owner.setIfInBounds j (some k)) (k + 1) L' (by omega)
  refine ⟨owner',by rw [List.length_cons,show k + (hs.length + 1) = k + 1 + hs.length by omega]; exact L2,?_⟩
  rw [List.foldl_cons,List.length_cons,show k + (hs.length + 1) = k + 1 + hs.length by omega,← e2]
  congr 1
  show (do
   let j ← SetTable.layClean.free mask owner (SetTable.turns mask) (SetTable.bits h % (mask + 1)) (SetTable.bits h)
   pure (owner.setIfInBounds j (some k),k + 1):Option (Array (Option Nat) × Nat)) = _
  rw [ej]
  rfl
theorem live_map (owner:Array (Option Nat)):∀ n,n = owner.size -> ((List.range n).filterMap fun j=>(owner.getD j none).map (j,·)).map (·.2) = owner.toList.filterMap id:=by
 intro n hn
 have e:owner.toList = (List.range n).map fun j=>owner.getD j none:=by
  apply List.ext_getElem?
  intro i
  rw [Array.getElem?_toList,List.getElem?_map]
  by_cases z:i < n
  ·rw [List.getElem?_range z,Array.getElem?_eq_getElem (by omega),Option.map_some,Array.getD_eq_getD_getElem?,Array.getElem?_eq_getElem (by omega)]
   rfl
  ·rw [List.getElem?_eq_none (by simp; omega),Array.getElem?_eq_none (by omega)]
   rfl
 rw [e,List.filterMap_map,List.map_filterMap]
 congr 1
 funext j
 show ((owner.getD j none).map (j,·)).map (·.2) = id (owner.getD j none)
 cases owner.getD j none <;> rfl
theorem laid_ok {mask finger moves:Nat} {led plain:Bool} {hs:Array Int} (F:Full (mask + 1)) (hn:hs.size <= mask):∃ t order,SetTable.laid mask finger moves led plain hs = some (t,order) /\ order.toList.Perm (List.range hs.size) /\ t.place.size = hs.size /\ t.dummies = #[] /\ t.mask = mask /\ t.led = led /\ t.plain = plain:=by
 have L0:Laid (mask + 1) 0 (Array.replicate (mask + 1) none):=by
  refine ⟨Array.size_replicate,?_⟩
  rw [Array.toList_replicate]
  have:∀ n,(List.replicate n (none:Option Nat)).filterMap id = []:=fun n=>by
   induction n with
   | zero=>rfl
   | succ n ih=>rw [List.replicate_succ]; exact ih
  rw [this]
  exact List.Perm.refl _
 obtain ⟨owner,L,e⟩:=lay_all F hs.toList _ 0 L0 (by rw [Array.length_toList]; omega)
 rw [Nat.zero_add,Array.length_toList] at L e
 have ec:SetTable.layClean mask hs = some owner:=by
  unfold SetTable.layClean
  rw [← Array.foldl_toList]
  exact congrArg (Option.map (·.1)) e
 have lm:=live_map owner (mask + 1) L.sz.symm
 have pl:=L.pm
 rw [← lm] at pl
 have ll:=pl.length_eq
 rw [List.length_map,List.length_range] at ll
 refine ⟨_,_,by unfold SetTable.laid; rw [ec]; rfl,by simpa using pl,?_,rfl,rfl,rfl,rfl⟩
 show (List.map _ _).toArray.size = _
 rw [List.size_toArray,List.length_map]
 exact ll
end AxS
namespace AxS
open PySem PySem.Spec PyProof.Rows
section
variable {M:Model} {A:Around} {E:Value -> Shared -> Prop} {s:Shared}
theorem wpAny_choose {src:Source} {n:Nat} {Q:Nat -> Shared -> Prop} (hn:n ≠ 0) (h:∀ i,i < n -> Q i { s with drawn:=s.drawn.bump src }):wpAny M A (choose src n) Q E s :=
 fun Γ p _=>⟨hn,h _ (Nat.mod_lt _ (Nat.pos_of_ne_zero hn))⟩
theorem perm_erase {α:Type} {xs:List α} {i:Nat} {x:α} (h:xs[i]? = some x):(x :: xs.eraseIdx i).Perm xs:=by
 induction xs generalizing i with
 | nil=>cases h
 | cons y ys ih =>
  cases i with
  | zero =>
   have h:y = x:=Option.some.inj h
   subst h
   exact List.Perm.refl _
  | succ i =>
   have h:ys[i]? = some x:=by simpa using h
   show (x :: y :: ys.eraseIdx i).Perm (y :: ys)
   exact (List.Perm.swap y x _).trans (List.Perm.cons y (ih h))
theorem xY {α:Type}:∀ (n:Nat) (xs:List α) (s:Shared) {Q:List α -> Shared -> Prop},xs.length <= n -> (∀ ys d,ys.Perm xs -> Q ys { s with drawn:=d }) -> wpAny M A (drawOrder n xs) Q E s
 | 0,xs,s,Q,hl,h=>by
  have e:xs = []:=List.eq_nil_of_length_eq_zero (by omega)
  subst e
  exact wpAny_pure (h [] s.drawn (List.Perm.refl _))
 | n + 1,[],s,Q,hl,h=>wpAny_pure (h [] s.drawn (List.Perm.refl _))
 | n + 1,x :: xs,s,Q,hl,h=>by
  refine wpAny_bind (wpAny_choose (by simp) fun i hi=>?_)
  have hx:(x :: xs)[i]? = some ((x :: xs)[i]):=List.getElem?_eq_getElem hi
  have hp:=perm_erase hx
  show wpAny M A (match (x :: xs)[i]? with | some x_1=>_ | none=>_) Q E _
  rw [hx]
  refine wpAny_bind (xY n _ _ (by rw [List.length_eraseIdx_of_lt hi]; simp at hl ⊢; omega) fun ys d hy=>?_)
  exact wpAny_pure (h _ d ((List.Perm.cons _ hy).trans hp))
theorem pick_go {α:Type} (next:Nat -> Nat):∀ (fuel k:Nat) (left:List α) (out:Array α),left.length = fuel -> (pickOrder.go next fuel k left out).toList.Perm (out.toList ++ left)
 | 0,k,left,out,h=>by
  rw [List.eq_nil_of_length_eq_zero h,List.append_nil]
  exact List.Perm.refl _
 | fuel + 1,k,left,out,h=>by
  unfold pickOrder.go
  have hlt:next k % left.length < left.length:=Nat.mod_lt _ (by omega)
  have hx:left[next k % left.length]? = some (left[next k % left.length]):=List.getElem?_eq_getElem hlt
  rw [hx]
  refine (pick_go next fuel (k + 1) _ _ (by rw [List.length_eraseIdx_of_lt hlt]; omega)).trans ?_
  rw [Array.toList_push,List.append_assoc]
  exact List.Perm.append_left _ (perm_erase hx)
theorem qN {α:Type} (next:Nat -> Nat) (xs:Array α):(pickOrder next xs).toList.Perm xs.toList:=by
 have:=pick_go next xs.size 0 xs.toList #[] (by simp)
 simpa [pickOrder] using this
end
section
variable {prog:Program} {w:World} {A:Around} {E:Value -> Shared -> Prop} {s:Shared}
def byText (w:World):Bool:=w.params.followText "set-order"
theorem wpAny_setDrawn {a:Addr} {o:Obj} {es:Array (Int × Value)} {ep:Nat} {t:SetTable} {Q:Bool -> Shared -> Prop} (ho:s.heap.get? a = some o) (hd:o.data = .set es ep t) (hf:t.fits es.size = true)
  (h:Q (!byText w && (!t.plain && decide (es.size > 1))) s):wpAny (model prog w) A (setDrawn a) Q E s:=by
 unfold setDrawn setsByText
 refine wpAny_bind (wpAny_setState_of ho hd hf ?_)
 refine wpAny_bind (wpAny_bind (wpAny_askSetting (wpAny_pure ?_)))
 exact wpAny_pure h
theorem qU:entryFor table "set.__iter__" = some Builtin.«frozenset.__iter__» :=
 entryFor_alias (id':="frozenset.__iter__") (by kernel_rfl) (by first | rfl | decide +kernel | (unfold String.splitOn; simp +decide [String.splitOnAux])) (by decide +kernel) (by kernel_rfl)
theorem owner_si:Manifest.owners.lookup (String.ofList ['r','o','t','a','r','e','t','i','_','t','e','s'].reverse) = some Manifest.sig_set_iterator:=by kernel_rfl
theorem slot_next:Slot "set_iterator" "__next__" "set_iterator.__next__" :=
 .of (owner:="set_iterator") (n:="__next__") (by rw [typeLookup_type,builtinLookup_eq_fast]; kernel_rfl) (by decide +kernel) (by decide +kernel) (by decide +kernel)
  (by first | exact .inl (by decide +kernel) | exact .inr (by decide +kernel)) (by rw [isSubtype_type]; kernel_rfl)
theorem entry_next:entryFor table "set_iterator.__next__" = some Builtin.«set_iterator.__next__»:=entryFor_of_tree (by kernel_rfl)
theorem args_next (a:Value):argsOk "set_iterator.__next__" ⟨[a],[]⟩:=by
 unfold argsOk; rw [signature?_of (id:="set_iterator.__next__") (n:=['_','_','t','x','e','n','_','_']) (o:=['r','o','t','a','r','e','t','i','_','t','e','s']) (by kernel_rfl) owner_si]; kernel_rfl
theorem slot_itself:Slot "set_iterator" "__iter__" "set_iterator.__iter__" :=
 .of (owner:="set_iterator") (n:="__iter__") (by rw [typeLookup_type,builtinLookup_eq_fast]; kernel_rfl) (by decide +kernel) (by decide +kernel) (by decide +kernel)
  (by first | exact .inl (by decide +kernel) | exact .inr (by decide +kernel)) (by rw [isSubtype_type]; kernel_rfl)
theorem args_itself (a:Value):argsOk "set_iterator.__iter__" ⟨[a],[]⟩:=by
 unfold argsOk; rw [signature?_of (id:="set_iterator.__iter__") (n:=['_','_','r','e','t','i','_','_']) (o:=['r','o','t','a','r','e','t','i','_','t','e','s']) (by kernel_rfl) owner_si]; kernel_rfl
theorem entry_itself:entryFor table "set_iterator.__iter__" = some Builtin.«dict_keyiterator.__iter__» :=
 entryFor_alias (id':="dict_keyiterator.__iter__") (by kernel_rfl) (by first | rfl | decide +kernel | (unfold String.splitOn; simp +decide [String.splitOnAux])) (by decide +kernel) (by kernel_rfl)
end
end AxS
namespace AxS
open PySem PySem.Spec PyProof.Rows
section
variable {prog:Program} {w:World} {A:Around} {E:Value -> Shared -> Prop} {s:Shared}
def itO (first:Value) (i:Int) (a:Addr) (n ep:Nat):Obj:={ cls:=.type "set_iterator",data:=.fields #[first,rawInt i,.ref a,rawInt n,rawInt ep] }
theorem iter_set {a:Addr} {o:Obj} {es:Array (Int × Value)} {ep:Nat} {t:SetTable} {Q:Value -> Shared -> Prop} (ho:s.heap.get? a = some o) (hx:o.ExactSet) (hd:o.data = .set es ep t) (hf:t.fits es.size = true) (hz:es.size <= 1000)
  (h1:(!byText w && (!t.plain && decide (es.size > 1))) = false -> Q (.ref s.heap.objs.size) { s with heap:=s.heap.push (itO (rawInt 0) 0 a es.size ep) })
  (h2:(!byText w && (!t.plain && decide (es.size > 1))) = true -> ∀ (ps:List Nat) d tk,ps.Perm (List.range es.size) -> Q (.ref (s.heap.objs.size + 1)) { s with heap:=(s.heap.push { cls:=.type "tuple",data:=.seq (ps.map fun i=>rawInt (i:Nat)).toArray }).push (itO (.ref s.heap.objs.size) 0 a es.size ep),drawn:=d,toks:=tk }) :
  wpAny (model prog w) A (pyIter (.ref a)) Q E s:=by
 have hT:s.TypeIs (.ref a) "set":=⟨o,ho,hx.1⟩
 refine wpAny_pyIter_slot hT PySem.F.slot_set_iter (wpAny_call_entry PySem.F.slot_set_iter hT qU ?_ (PySem.F.args_set_iter_1 _))
 unfold Builtin.«frozenset.__iter__»
 refine wpAny_bind (m:=Builtin.Frozenset.slot0 _ _) (wpAny_of_eq (a:=a) rfl ?_)
 unfold Builtin.Frozenset.sizeOf
 refine wpAny_bind (wpAny_bind (wpAny_setEntries_of ho hd hf (wpAny_pure ?_)))
 refine wpAny_bind (wpAny_setDrawn ho hd hf ?_)
 cases q:(!byText w && (!t.plain && decide (es.size > 1))) with
 | false =>
  rw [if_neg (by decide)]
  refine wpAny_bind (wpAny_pure (wpAny_bind (wpAny_setEpoch_of ho hd hf ?_)))
  simp only [newFields]
  refine wpAny_bind (wpAny_newObj_type ?_)
  exact wpAny_pure ⟨_,rfl,"set_iterator",_,⟨_,Heap.get?_push_size _ rfl,rfl⟩,slot_next.lookup,h1 q⟩
 | true =>
  rw [if_pos rfl]
  refine wpAny_bind (xY es.size (List.range es.size) s (by rw [List.length_range]; exact Nat.le_refl _) fun ps d hp=>?_)
  have pl:ps.length = es.size:=by rw [hp.length_eq,List.length_range]
  simp only [newTuple]
  refine wpAny_bind (wpAny_newObj_type ?_ ?_)
  ·have ho':(s.heap.push { cls:=.type "tuple",data:=.seq (ps.map fun i=>rawInt (i:Nat)).toArray }).get? a = some o:=Heap.get?_push_of_some _ ho
   refine wpAny_bind (wpAny_setEpoch_of (s:={ s with heap:=s.heap.push { cls:=.type "tuple",data:=.seq (ps.map fun i=>rawInt (i:Nat)).toArray },drawn:=d }) ho' hd hf ?_)
   simp only [newFields]
   refine wpAny_bind (wpAny_newObj_type ?_)
   have e:(s.heap.push { cls:=.type "tuple",data:=.seq (ps.map fun i=>rawInt (i:Nat)).toArray }).objs.size = s.heap.objs.size + 1:=Heap.size_push _ _
   refine wpAny_pure ⟨_,rfl,"set_iterator",_,⟨_,Heap.get?_push_size _ rfl,rfl⟩,slot_next.lookup,?_⟩
   have:=h2 q ps d s.toks hp
   rw [← e] at this
   exact this
  ·show (ps.map fun i=>rawInt (i:Nat)).toArray.size <= sizeLine
   rw [List.size_toArray,List.length_map,pl,sizeLine_eq]
   omega
theorem y7 {it:Addr} {f:Value} {i:Int} {a:Addr} {n ep:Nat} (h:s.heap.get? it = some (itO f i a n ep)):s.TypeIs (.ref it) "set_iterator":=⟨_,h,rfl⟩
theorem next_slot {it a:Addr} {o:Obj} {es:Array (Int × Value)} {ep:Nat} {t:SetTable} {slot i slot':Nat} {x:Value} {Q:Option Value -> Shared -> Prop} (hit:s.heap.get? it = some (itO (rawInt slot) i a es.size ep)) (hne:a ≠ it) (ho:s.heap.get? a = some o) (hd:o.data = .set es ep t) (hf:t.fits es.size = true)
  (hn:∀ (A:Around) (E:Value -> Shared -> Prop) (Q:Option (Value × Nat) -> Shared -> Prop),Q (some (x,slot')) s -> wpAny (model prog w) A (setNext a slot i ep) Q E s)
  (h:∀ h',h'.get? it = some (itO (rawInt slot') (i + 1) a es.size ep) -> Heap.SameBut it s.heap h' -> Q (some x) { s with heap:=h' }):wpAny (model prog w) A (pyNext (.ref it)) Q E s:=by
 unfold pyNext
 refine wpAny_bind (wpAny_attempt (wpAny_callSpecial?_slot (name:=Str.ofString "__next__") (y7 hit) slot_next
  (wpAny_call_entry slot_next (y7 hit) entry_next ?_ (args_next _))))
 unfold Builtin.«set_iterator.__next__»
 refine wpAny_bind (wpAny_of_eq (a:=(Value.ref it,[])) rfl ?_)
 refine wpAny_bind (wpAny_fieldsOf hit rfl ?_)
 show wpAny _ _ (setEntries a >>= _) _ _ s
 refine wpAny_bind (wpAny_setEntries_of ho hd hf ?_)
 have e1:(((es.size:Nat):Int) != ((es.size:Nat):Int)) = false:=by simp
 rw [if_neg (by rw [e1]; decide)]
 show wpAny _ _ (setNext a slot i ep >>= _) _ _ s
 refine wpAny_bind (hn _ _ _ ?_)
 show wpAny _ _ (setField (.ref it) 0 (rawInt slot') >>= _) _ _ s
 refine wpAny_bind (wpAny_setField hit rfl (by simp) ?_)
 have h1:=Heap.get?_update_self (Obj.mapFields (·.setIfInBounds 0 (rawInt (slot':Nat)))) hit rfl
 refine wpAny_bind (wpAny_setField h1 rfl (by simp) ?_)
 have h2:=Heap.get?_update_self (Obj.mapFields (·.setIfInBounds 1 (rawInt ((i:Int) + 1)))) h1 rfl
 exact wpAny_pure ⟨x,rfl,wpAny_pure (h _ h2 ((Heap.SameBut.update ..).trans (Heap.SameBut.update ..)))⟩
theorem qM {it a:Addr} {o:Obj} {es:Array (Int × Value)} {ep:Nat} {t:SetTable} {slot i:Nat} {Q:Option Value -> Shared -> Prop} (hh:A.handled = none) (hit:s.heap.get? it = some (itO (rawInt slot) i a es.size ep)) (ho:s.heap.get? a = some o) (hd:o.data = .set es ep t) (hf:t.fits es.size = true)
  (hn:∀ (A:Around) (E:Value -> Shared -> Prop) (Q:Option (Value × Nat) -> Shared -> Prop),Q none s -> wpAny (model prog w) A (setNext a slot i ep) Q E s)
  (h:∀ h',Heap.ExtBut it s.heap h' -> Q none { s with heap:=h' }):wpAny (model prog w) A (pyNext (.ref it)) Q E s:=by
 unfold pyNext
 refine wpAny_bind (wpAny_attempt (wpAny_callSpecial?_slot (name:=Str.ofString "__next__") (y7 hit) slot_next
  (wpAny_call_entry slot_next (y7 hit) entry_next ?_ (args_next _))))
 unfold Builtin.«set_iterator.__next__»
 refine wpAny_bind (wpAny_of_eq (a:=(Value.ref it,[])) rfl ?_)
 refine wpAny_bind (wpAny_fieldsOf hit rfl ?_)
 show wpAny _ _ (setEntries a >>= _) _ _ s
 refine wpAny_bind (wpAny_setEntries_of ho hd hf ?_)
 have e1:(((es.size:Nat):Int) != ((es.size:Nat):Int)) = false:=by simp
 rw [if_neg (by rw [e1]; decide)]
 show wpAny _ _ (setNext a slot i ep >>= _) _ _ s
 refine wpAny_bind (hn _ _ _ ?_)
 show wpAny _ _ (setField (.ref it) 2 .none >>= _) _ _ s
 refine wpAny_bind (wpAny_setField hit rfl (by simp) ?_)
 refine wpAny_bind ?_
 simp only [newExc,newTuple]
 refine wpAny_bind (wpAny_newObj_type ?_ (by size_fits))
 refine wpAny_bind (m:=firstArgMember _ _) (wpAny_of_eq (a:=Value.none) (by first | rfl | (simp only [firstArgMember]; rfl)) ?_)
 refine wpAny_newObj_type ?_ (by size_fits)
 simp only [raiseNew]
 refine wpAny_bind (wpAny_handled ?_)
 first | rw [show A.in1.handled = none from hh] | rw [hh]
 refine wpAny_bind (wpAny_pure (wpAny_throw ?_))
 refine wpAny_bind (wpAny_isInstance (T:="StopIteration") (b:=true) ⟨_,Heap.get?_push_size _ rfl,rfl⟩ isSubtype_stop ?_)
 refine wpAny_pure (h _ ?_)
 refine ((Heap.ExtBut.push ?_ _).push _)
 exact (Heap.SameBut.update ..).extBut
def tupO (ps:List Nat):Obj:={ cls:=.type "tuple",data:=.seq (ps.map fun i=>rawInt (i:Nat)).toArray }
theorem next_drawn {it a u:Addr} {o:Obj} {es:Array (Int × Value)} {ep:Nat} {t:SetTable} {i p:Nat} {ps:List Nat} {e:Int × Value} {Q:Option Value -> Shared -> Prop} (hit:s.heap.get? it = some (itO (.ref u) i a es.size ep)) (hu:s.heap.get? u = some (tupO ps)) (ho:s.heap.get? a = some o) (hd:o.data = .set es ep t) (hf:t.fits es.size = true)
  (hp:ps[i]? = some p) (he:es[p]? = some e) (h:∀ h',h'.get? it = some (itO (.ref u) (i + 1) a es.size ep) -> Heap.SameBut it s.heap h' -> Q (some e.2) { s with heap:=h' }):wpAny (model prog w) A (pyNext (.ref it)) Q E s:=by
 unfold pyNext
 refine wpAny_bind (wpAny_attempt (wpAny_callSpecial?_slot (name:=Str.ofString "__next__") (y7 hit) slot_next
  (wpAny_call_entry slot_next (y7 hit) entry_next ?_ (args_next _))))
 unfold Builtin.«set_iterator.__next__»
 refine wpAny_bind (wpAny_of_eq (a:=(Value.ref it,[])) rfl ?_)
 refine wpAny_bind (wpAny_fieldsOf hit rfl ?_)
 show wpAny _ _ (setEntries a >>= _) _ _ s
 refine wpAny_bind (wpAny_setEntries_of ho hd hf ?_)
 have e1:(((es.size:Nat):Int) != ((es.size:Nat):Int)) = false:=by simp
 rw [if_neg (by rw [e1]; decide)]
 show wpAny _ _ (seqItems? (.ref u) >>= _) _ _ s
 refine wpAny_bind (wpAny_seqItems hu rfl ?_)
 have hpi:(ps.map fun i=>rawInt ((i:Nat):Int)).toArray[i]? = some (rawInt (p:Nat)):=by
  rw [List.getElem?_toArray,List.getElem?_map,hp]; rfl
 show wpAny _ _ (match (ps.map fun i=>rawInt ((i:Nat):Int)).toArray[i]? with | some (.int place _)=>_ | some _=>_ | none=>_) _ _ s
 rw [hpi]
 show wpAny _ _ (setNextDrawn a p ep >>= _) _ _ s
 unfold setNextDrawn
 refine wpAny_bind (wpAny_bind (wpAny_setState_of ho hd hf ?_))
 have e2:(ep != ep) = false:=by simp
 dsimp only
 rw [if_neg (by rw [e2]; decide)]
 rw [he]
 refine wpAny_pure ?_
 show wpAny _ _ (setField (.ref it) 1 (rawInt ((i:Int) + 1)) >>= _) _ _ s
 refine wpAny_bind (wpAny_setField hit rfl (by simp) ?_)
 have h2:=Heap.get?_update_self (Obj.mapFields (·.setIfInBounds 1 (rawInt ((i:Int) + 1)))) hit rfl
 exact wpAny_pure ⟨e.2,rfl,wpAny_pure (h _ h2 (Heap.SameBut.update ..))⟩
theorem next_drawn_end {it a u:Addr} {o:Obj} {es:Array (Int × Value)} {ep:Nat} {t:SetTable} {i:Nat} {ps:List Nat} {Q:Option Value -> Shared -> Prop} (hh:A.handled = none) (hit:s.heap.get? it = some (itO (.ref u) i a es.size ep)) (hu:s.heap.get? u = some (tupO ps)) (ho:s.heap.get? a = some o) (hd:o.data = .set es ep t) (hf:t.fits es.size = true)
  (hp:ps[i]? = none) (h:∀ h',Heap.ExtBut it s.heap h' -> Q none { s with heap:=h' }):wpAny (model prog w) A (pyNext (.ref it)) Q E s:=by
 unfold pyNext
 refine wpAny_bind (wpAny_attempt (wpAny_callSpecial?_slot (name:=Str.ofString "__next__") (y7 hit) slot_next
  (wpAny_call_entry slot_next (y7 hit) entry_next ?_ (args_next _))))
 unfold Builtin.«set_iterator.__next__»
 refine wpAny_bind (wpAny_of_eq (a:=(Value.ref it,[])) rfl ?_)
 refine wpAny_bind (wpAny_fieldsOf hit rfl ?_)
 show wpAny _ _ (setEntries a >>= _) _ _ s
 refine wpAny_bind (wpAny_setEntries_of ho hd hf ?_)
 have e1:(((es.size:Nat):Int) != ((es.size:Nat):Int)) = false:=by simp
 rw [if_neg (by rw [e1]; decide)]
 show wpAny _ _ (seqItems? (.ref u) >>= _) _ _ s
 refine wpAny_bind (wpAny_seqItems hu rfl ?_)
 have hpi:(ps.map fun i=>rawInt ((i:Nat):Int)).toArray[i]? = none:=by
  rw [List.getElem?_toArray,List.getElem?_map,hp]; rfl
 show wpAny _ _ (match (ps.map fun i=>rawInt ((i:Nat):Int)).toArray[i]? with | some (.int place _)=>_ | some _=>_ | none=>_) _ _ s
 rw [hpi]
 show wpAny _ _ (setField (.ref it) 0 (rawInt 0) >>= _) _ _ s
 refine wpAny_bind (wpAny_setField hit rfl (by simp) ?_)
 have h1:=Heap.get?_update_self (Obj.mapFields (·.setIfInBounds 0 (rawInt 0))) hit rfl
 refine wpAny_bind (wpAny_setField h1 rfl (by simp) ?_)
 refine wpAny_bind ?_
 simp only [newExc,newTuple]
 refine wpAny_bind (wpAny_newObj_type ?_ (by size_fits))
 refine wpAny_bind (m:=firstArgMember _ _) (wpAny_of_eq (a:=Value.none) (by first | rfl | (simp only [firstArgMember]; rfl)) ?_)
 refine wpAny_newObj_type ?_ (by size_fits)
 simp only [raiseNew]
 refine wpAny_bind (wpAny_handled ?_)
 first | rw [show A.in1.handled = none from hh] | rw [hh]
 refine wpAny_bind (wpAny_pure (wpAny_throw ?_))
 refine wpAny_bind (wpAny_isInstance (T:="StopIteration") (b:=true) ⟨_,Heap.get?_push_size _ rfl,rfl⟩ isSubtype_stop ?_)
 refine wpAny_pure (h _ ?_)
 refine ((Heap.ExtBut.push ?_ _).push _)
 exact ((Heap.SameBut.update ..).trans (Heap.SameBut.update ..)).extBut
end
end AxS
namespace AxS
open PySem PySem.Spec PyProof.Rows
section
variable {prog:Program} {w:World} {A:Around} {E:Value -> Shared -> Prop} {s:Shared} {a:Addr} {o:Obj} {es:Array (Int × Value)} {ep:Nat} {t:SetTable}
theorem jI {slot i:Nat} {Q:Option (Value × Nat) -> Shared -> Prop} (hb:byText w = true) (ho:s.heap.get? a = some o) (hd:o.data = .set es ep t) (hf:t.fits es.size = true)
  (h:Q (((pickOrder (w.params.setOrder a ep) es)[i]?).map fun e=>(e.2,slot)) s):wpAny (model prog w) A (setNext a slot i ep) Q E s:=by
 have hb':(Setting.mk (model prog w).prog (model prog w).w.params).params.followText "set-order" = true:=hb
 unfold setNext setsByText
 refine wpAny_bind (wpAny_setState_of ho hd hf ?_)
 refine wpAny_bind (wpAny_bind (wpAny_askSetting (wpAny_pure ?_)))
 dsimp only
 rw [if_pos hb']
 have e2:(ep != ep) = false:=by simp
 rw [if_neg (by rw [e2]; decide)]
 unfold setWalk setsByText
 refine wpAny_bind (wpAny_bind (wpAny_setState_of ho hd hf ?_))
 refine wpAny_bind (wpAny_bind (wpAny_askSetting (wpAny_pure ?_)))
 dsimp only
 rw [if_pos hb']
 refine wpAny_bind (wpAny_askSetting ?_)
 exact wpAny_pure (wpAny_pure h)
theorem setNext_led {slot i:Nat} {Q:Option (Value × Nat) -> Shared -> Prop} (hb:byText w = false) (hl:t.led = true) (h1:es.size <= 1) (ho:s.heap.get? a = some o) (hd:o.data = .set es ep t) (hf:t.fits es.size = true)
  (h:Q (match es[SetTable.below t.place slot]?,t.place[SetTable.below t.place slot]? with | some (_,x),some j=>some (x,j + 1) | _,_=>none) s):wpAny (model prog w) A (setNext a slot i ep) Q E s:=by
 have hb':(Setting.mk (model prog w).prog (model prog w).w.params).params.followText "set-order" = false:=hb
 have hdr:(!t.plain && decide (es.size > 1)) = false:=by rw [decide_eq_false (by omega),Bool.and_false]
 have hml:(!t.led && !es.isEmpty) = false:=by rw [hl]; rfl
 unfold setNext setsByText
 refine wpAny_bind (wpAny_setState_of ho hd hf ?_)
 refine wpAny_bind (wpAny_bind (wpAny_askSetting (wpAny_pure ?_)))
 dsimp only
 rw [if_neg (by rw [hb']; decide)]
 refine wpAny_bind (wpAny_pure ?_)
 show wpAny _ _ (if (!t.plain && decide (es.size > 1)) = true then _ else _) _ _ _
 rw [if_neg (by rw [hdr]; decide)]
 refine wpAny_bind ?_
 show wpAny _ _ (if (!t.led && !es.isEmpty) = true then _ else _) _ _ _
 rw [if_neg (by rw [hml]; decide)]
 exact wpAny_pure (wpAny_pure h)
theorem it_self {it:Addr} {f:Value} {i:Int} {n:Nat} {Q:Value -> Shared -> Prop} (hit:s.heap.get? it = some (itO f i a n ep)) (h:Q (.ref it) s):wpAny (model prog w) A (pyIter (.ref it)) Q E s:=by
 refine wpAny_pyIter_slot (y7 hit) slot_itself (wpAny_call_entry slot_itself (y7 hit) entry_itself ?_ (args_itself _))
 show wpAny _ _ (ret (.ref it)) _ _ s
 exact wpAny_pure ⟨_,rfl,"set_iterator",_,y7 hit,slot_next.lookup,h⟩
theorem walkA (hh:A.handled = none) (I:Addr) (hne:a ≠ I) (hb:byText w = true) (hd:o.data = .set es ep t) (hf:t.fits es.size = true) :
  Walks prog w A I [I,a] [I] es.size (fun i v=>((pickOrder (w.params.setOrder a ep) es).toList.map (·.2))[i]? = some v) (fun i h=>h.get? I = some (itO (rawInt (0:Nat)) (i:Nat) a es.size ep) /\ h.get? a = some o) where
 sub:=fun b hb=>by simp at hb; simp [hb]
 frame:=fun _ _ _ st hk=>⟨hk I (by simp) _ st.1,hk a (by simp) _ st.2⟩
 item:=fun i s Q E hi st hQ=>by
  have hl:(pickOrder (w.params.setOrder a ep) es).toList.length = es.size:=by rw [(qN _ es).length_eq,Array.length_toList]
  have he:(pickOrder (w.params.setOrder a ep) es).toList[i]? = some ((pickOrder (w.params.setOrder a ep) es).toList[i]'(by omega)):=List.getElem?_eq_getElem (by omega)
  generalize (pickOrder (w.params.setOrder a ep) es).toList[i]'(by omega) = e at he
  refine next_slot (slot:=0) (slot':=0) (x:=e.2) st.1 hne st.2 hd hf (fun A E Q q=>jI hb st.2 hd hf ?_) fun h' h1 sb=>?_
  ·rw [← Array.getElem?_toList,he]; exact q
  ·exact hQ _ h' s.toks (by rw [List.getElem?_map,he]; rfl) ⟨h1,(sb.2 a hne).trans st.2⟩ fun b o' hb e=>(sb.2 b (by simpa using hb)).trans e
 done:=fun s Q E st hQ=>by
  have hl:(pickOrder (w.params.setOrder a ep) es).toList.length = es.size:=by rw [(qN _ es).length_eq,Array.length_toList]
  refine qM (slot:=0) hh st.1 st.2 hd hf (fun A E Q q=>jI hb st.2 hd hf ?_) fun h' eb=>hQ h' s.toks fun b o' hb e=>eb b o' (by simpa using hb) e
  rw [← Array.getElem?_toList,List.getElem?_eq_none (by omega)]; exact q
 self:=fun _ _ _ _ st h=>it_self st.1 h
theorem walkC (hh:A.handled = none) (I u:Addr) (hne:a ≠ I) (hnu:u ≠ I) (ps:List Nat) (hp:ps.Perm (List.range es.size)) (hd:o.data = .set es ep t) (hf:t.fits es.size = true) :
  Walks prog w A I [I,a,u] [I] es.size (fun i v=>(ps.filterMap fun p=>(es[p]?).map (·.2))[i]? = some v) (fun i h=>h.get? I = some (itO (.ref u) (i:Nat) a es.size ep) /\ h.get? a = some o /\ h.get? u = some (tupO ps)) where
 sub:=fun b hb=>by simp at hb; simp [hb]
 frame:=fun _ _ _ st hk=>⟨hk I (by simp) _ st.1,hk a (by simp) _ st.2.1,hk u (by simp) _ st.2.2⟩
 item:=fun i s Q E hi st hQ=>by
  have hl:ps.length = es.size:=by rw [hp.length_eq,List.length_range]
  have hpi:ps[i]? = some (ps[i]'(by omega)):=List.getElem?_eq_getElem (by omega)
  have hm:ps[i]'(by omega) < es.size:=List.mem_range.mp (hp.mem_iff.mp (List.getElem_mem _))
  have he:es[ps[i]'(by omega)]? = some (es[ps[i]'(by omega)]'hm):=Array.getElem?_eq_getElem hm
  have all:ps.filterMap (fun p=>(es[p]?).map (·.2)) = ps.map fun p=>(((es[p]?).map (·.2)).getD .none):=by
   have:∀ qs:List Nat,(∀ q ∈ qs,q < es.size) -> qs.filterMap (fun p=>(es[p]?).map (·.2)) = qs.map fun p=>(((es[p]?).map (·.2)).getD .none):=fun qs=>by
    induction qs with
    | nil=>intro _; rfl
    | cons q qs ih =>
     intro hq
     have hq0:es[q]? = some (es[q]'(hq q List.mem_cons_self)):=Array.getElem?_eq_getElem _
     rw [List.filterMap_cons,List.map_cons,hq0]
     simp only [Option.map_some,Option.getD_some]
     rw [ih fun z hz=>hq z (List.mem_cons_of_mem _ hz)]
   exact this ps fun q hq=>List.mem_range.mp (hp.mem_iff.mp hq)
  refine next_drawn st.1 st.2.2 st.2.1 hd hf hpi he fun h' h1 sb=>?_
  refine hQ _ h' s.toks ?_ ⟨h1,(sb.2 a hne).trans st.2.1,(sb.2 u hnu).trans st.2.2⟩ fun b o' hb e=>(sb.2 b (by simpa using hb)).trans e
  rw [all,List.getElem?_map,hpi]
  simp only [Option.map_some,he,Option.getD_some]
 done:=fun s Q E st hQ=>by
  have hl:ps.length = es.size:=by rw [hp.length_eq,List.length_range]
  exact next_drawn_end hh st.1 st.2.2 st.2.1 hd hf (List.getElem?_eq_none (by omega)) fun h' eb=>hQ h' s.toks fun b o' hb e=>eb b o' (by simpa using hb) e
 self:=fun _ _ _ _ st h=>it_self st.1 h
theorem below_zero (xs:Array Nat) (h:xs.size <= 1):SetTable.below xs 0 = 0:=by
 unfold SetTable.below
 have h2:xs.size = 0 \/ xs.size = 1:=by omega
 rcases h2 with e | e
 ·rw [e]; rfl
 ·rw [e]
  unfold SetTable.below.go
  rw [if_pos (by decide)]
  show (if xs.getD 0 0 < 0 then _ else _) = _
  rw [if_neg (by omega)]
  rfl
theorem below_one (xs:Array Nat) (h:xs.size = 1):SetTable.below xs (xs.getD 0 0 + 1) = 1:=by
 unfold SetTable.below
 rw [h]
 unfold SetTable.below.go
 rw [if_pos (by decide)]
 show (if xs.getD 0 (xs.getD 0 0 + 1) < xs.getD 0 0 + 1 then _ else _) = _
 have e:∀ d,xs.getD 0 d = xs[0]'(by omega):=fun d=>by
  rw [Array.getD_eq_getD_getElem?,Array.getElem?_eq_getElem (by omega)]; rfl
 rw [e,e,if_pos (by omega)]
 rfl
def slotB (t:SetTable):Nat -> Nat
 | 0=>0
 | _ + 1=>t.place.getD 0 0 + 1
theorem walkB (hh:A.handled = none) (I:Addr) (hne:a ≠ I) (hb:byText w = false) (hl:t.led = true) (h1:es.size <= 1) (hd:o.data = .set es ep t) (hf:t.fits es.size = true) :
  Walks prog w A I [I,a] [I] es.size (fun i v=>(es.toList.map (·.2))[i]? = some v) (fun i h=>h.get? I = some (itO (rawInt ((slotB t i:Nat):Int)) (i:Nat) a es.size ep) /\ h.get? a = some o) where
 sub:=fun b hb=>by simp at hb; simp [hb]
 frame:=fun _ _ _ st hk=>⟨hk I (by simp) _ st.1,hk a (by simp) _ st.2⟩
 item:=fun i s Q E hi st hQ=>by
  have i0:i = 0:=by omega
  subst i0
  have hpz:t.place.size = es.size:=by
   unfold SetTable.fits at hf
   rw [Bool.and_eq_true] at hf
   exact eq_of_beq hf.1
  have he:es[0]? = some (es[0]'hi):=Array.getElem?_eq_getElem hi
  have hp:t.place[0]? = some (t.place[0]'(by omega)):=Array.getElem?_eq_getElem (by omega)
  have hgd:t.place.getD 0 0 = t.place[0]'(by omega):=by rw [Array.getD_eq_getD_getElem?,hp]; rfl
  refine next_slot (slot:=0) (slot':=t.place.getD 0 0 + 1) (x:=(es[0]'hi).2) st.1 hne st.2 hd hf (fun A E Q q=>setNext_led hb hl h1 st.2 hd hf ?_) fun h' h1 sb=>?_
  ·rw [below_zero _ (by omega),he,hp,← hgd]; exact q
  ·refine hQ _ h' s.toks ?_ ⟨h1,(sb.2 a hne).trans st.2⟩ fun b o' hb e=>(sb.2 b (by simpa using hb)).trans e
   rw [List.getElem?_map,Array.getElem?_toList,he]; rfl
 done:=fun s Q E st hQ=>by
  have hpz:t.place.size = es.size:=by
   unfold SetTable.fits at hf
   rw [Bool.and_eq_true] at hf
   exact eq_of_beq hf.1
  refine qM (slot:=slotB t es.size) hh st.1 st.2 hd hf (fun A E Q q=>setNext_led hb hl h1 st.2 hd hf ?_) fun h' eb=>hQ h' s.toks fun b o' hb e=>eb b o' (by simpa using hb) e
  have h2:es.size = 0 \/ es.size = 1:=by omega
  rcases h2 with e | e
  ·rw [e]
   show Q (match es[SetTable.below t.place 0]?,t.place[SetTable.below t.place 0]? with | some (_,x),some j=>some (x,j + 1) | _,_=>none) s
   rw [below_zero _ (by omega),Array.getElem?_eq_none (by omega)]
   exact q
  ·rw [e]
   show Q (match es[SetTable.below t.place (t.place.getD 0 0 + 1)]?,t.place[SetTable.below t.place (t.place.getD 0 0 + 1)]? with | some (_,x),some j=>some (x,j + 1) | _,_=>none) s
   rw [below_one _ (by omega),Array.getElem?_eq_none (by omega)]
   exact q
 self:=fun _ _ _ _ st h=>it_self st.1 h
end
end AxS
namespace AxS
open PySem PySem.Spec PyProof.Rows
def yS (vs:List Value) (zs:List Str):Prop:=vs.length = zs.length /\ ∀ (i:Nat) (v:Value),vs[i]? = some v -> ∃ k t,zs[i]? = some k /\ v = .str k t
section
variable {prog:Program} {w:World} {A:Around} {E:Value -> Shared -> Prop} {s:Shared} {a:Addr} {ks:List Str}
theorem texts_of {l:List (Int × Value)} (h:ElemsOf (strKind prog w) l):yS (l.map (·.2)) (l.map keyOf):=by
 refine ⟨by rw [List.length_map,List.length_map],fun i v e=>?_⟩
 rw [List.getElem?_map] at e
 cases q:l[i]? with
 | none=>rw [q] at e; cases e
 | some x =>
  rw [q] at e
  have e:x.2 = v:=Option.some.inj e
  obtain ⟨⟨k,hk,_⟩,_⟩:=h x (List.mem_of_getElem? q)
  obtain ⟨t,et⟩:=Value.isStrOf_shape hk
  exact ⟨k,t,by rw [List.getElem?_map,q]; show some (keyOf x) = _; unfold keyOf; rw [et],by rw [← e]; exact et⟩
theorem tx_iter {Q:Value -> Shared -> Prop} (hS:TxSet prog w s.heap a ks) (hk:ks.length <= 1000) (hh:A.handled = none)
  (h:∀ (I:Addr) (fp:List Addr) (h':Heap) d tk (vs:List Value) (zs:List Str) (St:Nat -> Heap -> Prop),s.heap.objs.size <= I -> (∀ b ∈ fp,b = a \/ s.heap.objs.size <= b) -> (∀ b o,s.heap.get? b = some o -> h'.get? b = some o) -> zs.Perm ks -> yS vs zs ->
   Walks prog w A I fp [I] ks.length (fun i v=>vs[i]? = some v) St -> St 0 h' -> Q (.ref I) { s with heap:=h',drawn:=d,toks:=tk }):wpAny (model prog w) A (pyIter (.ref a)) Q E s:=by
 obtain ⟨o,es,ep,t,ho,hx,hd,X⟩:=hS
 have hlen:=tx_len X
 obtain ⟨hel,hp,hb,hf,hled,hpl⟩:=X
 have hlt:a < s.heap.objs.size:=Heap.lt_size ho
 have hne:a ≠ s.heap.objs.size:=Nat.ne_of_lt hlt
 refine iter_set ho hx hd hf (by omega) (fun q=>?_) (fun q ps d tk hps=>?_)
 ·have kp:∀ b u,s.heap.get? b = some u -> (s.heap.push (itO (rawInt 0) 0 a es.size ep)).get? b = some u:=fun b u e=>Heap.get?_push_of_some _ e
  have fpo:∀ b ∈ [s.heap.objs.size,a],b = a \/ s.heap.objs.size <= b:=fun b hb=>by
   rcases List.mem_cons.mp hb with z | z
   ·exact .inr (Nat.le_of_eq z.symm)
   ·exact .inl (List.mem_singleton.mp z)
  cases hbt:byText w with
  | true =>
   have W:=walkA (prog:=prog) (A:=A) (es:=es) (ep:=ep) (t:=t) (o:=o) hh s.heap.objs.size hne hbt hd hf
   have pp:=qN (w.params.setOrder a ep) es
   rw [hlen] at W
   exact h _ _ _ s.drawn s.toks _ _ _ (Nat.le_refl _) fpo kp ((pp.map keyOf).trans hp) (texts_of (hel.perm pp)) W ⟨by rw [← hlen]; exact Heap.get?_push_size _ rfl,Heap.get?_push_of_some _ ho⟩
  | false =>
   have h1:es.size <= 1:=by
    rw [hbt] at q
    by_cases z:es.size > 1
    ·rw [hpl (by omega),decide_eq_true z] at q; cases q
    ·omega
   have hl:t.led = true:=by rw [hled]; show (!byText w) = true; rw [hbt]; rfl
   have W:=walkB (prog:=prog) (A:=A) (es:=es) (ep:=ep) (t:=t) (o:=o) hh s.heap.objs.size hne hbt hl h1 hd hf
   rw [hlen] at W
   exact h _ _ _ s.drawn s.toks _ _ _ (Nat.le_refl _) fpo kp hp (texts_of hel) W ⟨by rw [← hlen]; exact Heap.get?_push_size _ rfl,Heap.get?_push_of_some _ ho⟩
 ·have hnI:a ≠ s.heap.objs.size + 1:=Nat.ne_of_lt (Nat.lt_succ_of_lt hlt)
  have W:=walkC (prog:=prog) (w:=w) (A:=A) (es:=es) (ep:=ep) (t:=t) (o:=o) (a:=a) hh (s.heap.objs.size + 1) s.heap.objs.size hnI (Nat.ne_of_lt (Nat.lt_succ_self _)) ps hps hd hf
  have hL:(ps.filterMap fun p=>es[p]?).Perm es.toList:=by
   refine (hps.filterMap _).trans ?_
   have e:=List.filterMap_getElem?_range_length es.toList
   rw [Array.length_toList] at e
   have e2:(List.range es.size).filterMap (fun p=>es[p]?) = (List.range es.size).filterMap fun i=>es.toList[i]?:=by congr 1; funext p; exact (Array.getElem?_toList ..).symm
   rw [e2,e]
  have hv:(ps.filterMap fun p=>(es[p]?).map (·.2)) = (ps.filterMap fun p=>es[p]?).map (·.2):=by rw [List.map_filterMap]
  rw [hlen] at W
  rw [hv] at W
  have g0:(s.heap.push (tupO ps)).objs.size = s.heap.objs.size + 1:=Heap.size_push _ _
  refine h _ _ _ d tk _ _ _ (Nat.le_succ _) (fun b hb=>?_) (fun b u e=>Heap.get?_push_of_some _ (Heap.get?_push_of_some _ e)) ((hL.map keyOf).trans hp) (texts_of (hel.perm hL)) W ⟨?_,Heap.get?_push_of_some _ (Heap.get?_push_of_some _ ho),Heap.get?_push_of_some _ (Heap.get?_push_size _ rfl)⟩
  ·rcases List.mem_cons.mp hb with z | z
   ·exact .inr (by rw [z]; exact Nat.le_succ _)
   ·rcases List.mem_cons.mp z with z | z
    ·exact .inl z
    ·exact .inr (Nat.le_of_eq (List.mem_singleton.mp z).symm)
  ·rw [← g0,← hlen]
   exact Heap.get?_push_size _ rfl
theorem hint_set (hT:s.TypeIs (.ref a) "set") {Q:Bool -> Shared -> Prop} (h:Q false s):wpAny (model prog w) A (Builtin.List.listLengthHint (.ref a)) Q E s:=by
 unfold Builtin.List.listLengthHint
 refine wpAny_bind (wpAny_specialOf hT PySem.F.slot_set_len.lookup ?_)
 generalize hid:("set.__len__":String) = id0
 wp_delta
 rw [show splitId id0 = some ("set","__len__") from by subst hid; decide +kernel]
 subst hid
 refine wpAny_bind (wpAny_isInstance (T:="set") (b:=true) hT (by rw [isSubtype_type]; kernel_rfl) ?_)
 refine wpAny_ite_split (fun hab=>absurd hab (by decide)) (fun _=>?_)
 refine wpAny_ite_split (fun _=>?_) (fun hab=>absurd (by decide +kernel) hab)
 refine wpAny_bind (wpAny_typeOf hT ?_)
 exact wpAny_pure h
open PySem.Calls PyProof.V in
theorem tx_extend {R:Result -> Shared -> Prop} (hh:A.handled = none) (hT:TxSet prog w s.heap a ks) (hk:ks.length <= 1000) (S:Addr) (hSa:S ≠ a) (res:Value) (c₀:Nat) (hS:s.heap.get? S = some { cls:=.type "list",data:=.seq #[] c₀ })
  (hR:∀ h' d tk acc' c' (zs:List Str),(∀ b o,b ≠ S -> s.heap.get? b = some o -> h'.get? b = some o) -> h'.get? S = some { cls:=.type "list",dict:=none,data:=.seq acc' c',slots:=#[] } -> zs.Perm ks -> yS acc'.toList zs -> R (.ok (.ret res)) { s with heap:=h',drawn:=d,toks:=tk }) :
  wpAny (model prog w) A.in1 (Builtin.List.listExtendWith (.ref S) (.ref a) res)
   (fun fin s'=>match fin with | .done f=>R (.ok f) s' | .again c'=>c'.quiet = true /\ codeAny (model prog w) A c' R s') (fun e s'=>R (.error e) s') s:=by
 have hSlt:S < s.heap.objs.size:=Heap.lt_size hS
 have ty:s.TypeIs (.ref a) "set":=by obtain ⟨o,es,ep,t,ho,hx,_⟩:=hT; exact ⟨o,ho,hx.1⟩
 unfold Builtin.List.listExtendWith
 refine wpAny_bind (wpAny_typeOf (T:="set") ty ?_)
 have h1:Builtin.List.listSameRef (.ref S) (.ref a) = false:=by simp [Builtin.List.listSameRef,hSa]
 have nl:(Value.type "set" == Value.type "list") = false:=by decide
 have nt:(Value.type "set" == Value.type "tuple") = false:=by decide
 simp only [h1,nl,nt,Bool.or_false,Bool.false_eq_true,if_false]
 refine wpAny_bind (tx_iter (A:=A.in1) hT hk hh fun I fp h' d tk vs zs St hI hfp kp hz tx W st=>?_)
 have ty':Shared.TypeIs { s with heap:=h',drawn:=d,toks:=tk } (.ref a) "set":=by obtain ⟨o,es,ep,t,ho,hx,_⟩:=hT; exact ⟨o,kp _ _ ho,hx.1⟩
 refine wpAny_bind (wpAny_holding (hint_set ty' ?_))
 have hSf:S ∉ fp:=fun z=>by
  rcases hfp S z with e | e
  ·exact hSa e
  ·exact Nat.lt_irrefl _ (Nat.lt_of_lt_of_le hSlt e)
 have hS₁:=kp _ _ hS
 refine wpAny_ite_split (fun _=>?_) (fun z=>absurd (by decide) z)
 refine wpAny_bind (wpAny_rule ?_)
 refine wpAny_bind ?_
 show wpAny _ _ (updateSeq S (·.push .none) >>= fun _=>updateSeq S (·.pop)) _ _ _
 refine wpAny_bind (wpAny_updateSeq hS₁ rfl ?_)
 have hS₂:=Heap.get?_update_self (Obj.mapSeq (·.push Value.none)) hS₁ rfl
 refine wpAny_updateSeq (hz:=by seq_fits) hS₂ rfl ?_
 have hS₃:=Heap.get?_update_self (Obj.mapSeq (·.pop)) hS₂ rfl
 refine wpAny_pure ⟨plainId_quiet PySem.F.plain_extend_loop _,?_⟩
 have oth:∀ b o,b ≠ S -> h'.get? b = some o -> ((h'.update S (Obj.mapSeq (·.push Value.none))).update S (Obj.mapSeq (·.pop))).get? b = some o:=fun b o hb e =>
  (Heap.get?_update_other _ _ (Ne.symm hb)).trans ((Heap.get?_update_other _ _ (Ne.symm hb)).trans e)
 have st':=W.frame 0 _ _ st fun b hb o e=>oth b o (fun z=>hSf (z ▸ hb)) e
 refine codeAny_extend_loopS W.toS (by rw [sizeLine_eq]; omega) S hSf res ks.length 0 _ #[] _ rfl (Nat.zero_le _) st' hS₃ (ItemsOf.nil _) fun s' acc' c' hm hS' hacc=>?_
 rw [Moved.eq_with hm]
 have hva:acc'.toList = vs:=by
  have hl:acc'.toList.length = vs.length:=by rw [Array.length_toList,hacc.1,tx.1,hz.length_eq]
  refine List.ext_getElem? fun i=>?_
  by_cases hi:i < acc'.size
  ·have e:=Array.getElem?_eq_getElem hi
   rw [Array.getElem?_toList,e]
   exact (hacc.2 i _ e).symm
  ·rw [List.getElem?_eq_none (by rw [Array.length_toList]; omega),List.getElem?_eq_none (by rw [← hl,Array.length_toList]; omega)]
 refine hR s'.heap d s'.toks acc' c' zs (fun b o hb e=>hm.heap b o (fun hmem=>?_) (oth b o hb (kp b o e))) hS' hz (by rw [hva]; exact tx)
 rcases List.mem_cons.mp hmem with e' | hmem
 ·exact hb e'
 ·have hbI:b = I:=List.mem_singleton.mp hmem
  exact absurd (hbI ▸ Heap.lt_size e) (Nat.not_lt.mpr hI)
open PySem.Calls PyProof.V PySem.W in
theorem tx_collect {R:List Value -> Shared -> Prop} (hh:A.handled = none) (hT:TxSet prog w s.heap a ks) (hk:ks.length <= 1000)
  (h:∀ (h':Heap) d (tk:Nat) (vs:List Value) (zs:List Str),(∀ b o,s.heap.get? b = some o -> h'.get? b = some o) -> zs.Perm ks -> yS vs zs -> R vs { s with heap:=h',drawn:=d,toks:=tk }):wpAny (model prog w) A (collect (.ref a)) R E s:=by
 have hlt:a < s.heap.objs.size:=by obtain ⟨o,es,ep,t,ho,_⟩:=hT; exact Heap.lt_size ho
 unfold collect
 refine wpAny_bind (wpAny_runValue (codeAny_builtin entry_proto_collect' ?_))
 rw [Around.under_plainId PySem.F.plain_proto_collect _]
 show wpAny _ A.in1 (newList [] >>= fun l=>again (.builtin "list.__iadd__" ⟨[l,.ref a],[]⟩)) _ _ s
 refine wpAny_bind (wpAny_newObj_type ?_)
 refine wpAny_pure ⟨plainId_quiet PySem.F.plain_list_iadd _,codeAny_builtin entry_list_iadd' ?_⟩
 rw [Around.under_plainId PySem.F.plain_list_iadd _]
 have hS₁:(s.heap.push { cls:=.type "list",data:=.seq ([]:List Value).toArray }).get? s.heap.objs.size = some { cls:=.type "list",data:=.seq #[] }:=Heap.get?_push_size _ rfl
 show wpAny _ A.in1 (Builtin.List.listExtendWith (.ref s.heap.objs.size) (.ref a) (.ref s.heap.objs.size)) _ _ _
 have key:=tx_extend (prog:=prog) (w:=w) (A:=A) (a:=a) (ks:=ks) (s:={ s with heap:=s.heap.push { cls:=.type "list",data:=.seq ([]:List Value).toArray } })
  (R:=fun (q:Result) (s':Shared)=>∃ (h':Heap) (d:Drawn) (tk:Nat) (acc':Array Value) (c':Nat) (zs:List Str),q = .ok (.ret (.ref s.heap.objs.size)) /\ s' = { s with heap:=h',drawn:=d,toks:=tk } /\
   (∀ b o,s.heap.get? b = some o -> h'.get? b = some o) /\ h'.get? s.heap.objs.size = some { cls:=.type "list",dict:=none,data:=.seq acc' c',slots:=#[] } /\ zs.Perm ks /\ yS acc'.toList zs)
  hh (hT.at fun o e=>Heap.get?_push_of_some _ e) hk s.heap.objs.size (Nat.ne_of_gt hlt) (.ref s.heap.objs.size) 0 hS₁
  (fun h' d tk acc' c' zs hk hS' hz tx=>⟨h',d,tk,acc',c',zs,rfl,rfl,fun b o e=>hk b o (Nat.ne_of_lt (Heap.lt_size e)) (Heap.get?_push_of_some _ e),hS',hz,tx⟩)
 refine wpAny_mono key (fun fin s' x=>?_) fun e s' x=>?_
 ·cases fin with
  | done f =>
   obtain ⟨h',d,tk,acc',c',zs,e,rfl,hk,hS',hz,tx⟩:=x
   cases e
   show wpAny _ A (load s.heap.objs.size >>= _) _ _ _
   refine wpAny_bind (wpAny_load hS' ?_)
   exact wpAny_pure (h h' d tk _ zs hk hz tx)
  | again c₁ =>
   refine ⟨x.1,codeAny_mono x.2 fun q s₂ y=>?_⟩
   obtain ⟨h',d,tk,acc',c',zs,rfl,rfl,hk,hS',hz,tx⟩:=y
   show wpAny _ A (load s.heap.objs.size >>= _) _ _ _
   refine wpAny_bind (wpAny_load hS' ?_)
   exact wpAny_pure (h h' d tk _ zs hk hz tx)
 ·obtain ⟨_,_,_,_,_,_,e',_⟩:=x
  cases e'
end
end AxS
namespace AxS
open PySem PySem.Spec PyProof.Rows
section
variable {prog:Program} {w:World} {A:Around} {E:Value -> Shared -> Prop} {s:Shared}
set_option maxHeartbeats 6400000 in
theorem call_set_list {l:Addr} {items:Array Value} {xs:List Str} {Q:Value -> Shared -> Prop} (hh:A.handled = none) (hl:s.heap.IsList l items) (hlen:xs.length = items.size) (hi:∀ (i:Nat) (v:Value),items[i]? = some v -> ∃ k t,xs[i]? = some k /\ v = .str k t) (hb:items.size + 1 < scanBound)
  (h:∀ (h':Heap) (tk:Nat),TxSet prog w h' s.heap.objs.size (uniq xs) -> (∀ b o,s.heap.get? b = some o -> h'.get? b = some o) -> Q (.ref s.heap.objs.size) { s with heap:=h',toks:=tk }):wpAny (model prog w) A (call (.type "set") [.ref l]) Q E s:=by
 obtain ⟨c,tl,hmro⟩:=F.called_set.mro
 have hmade:=F.called_set.made
 have hsub:=F.called_set.sub
 have h1:=F.called_set.notType
 have h2:=F.called_set.canCreate
 have hct:=F.typeCall_set_1 (.ref l)
 refine wpAny_call (codeAny_of_tree ?_)
 show wpAny _ _ (callAny (.type "set") _) _ _ _
 refine wpAny_pure ⟨Code.quiet_builtin _ (by decide +kernel),codeAny_builtin F.entry_type_call ?_⟩
 rw [Around.under_plain (weight_type_call_type "set" [.ref l] []) rfl]
 repeat (any_goals (first | assumption | wp_step))
 refine codeAny_mono (set_new (.ref l) (E:=E) (Q₁:=fun obj s₁=>obj = .ref s.heap.objs.size /\ s₁ = { s with heap:=s.heap.push (zL w) }) ⟨rfl,rfl⟩) fun r s₁ hr=>?_
 cases r with
 | error e=>exact hr
 | ok fl =>
  cases fl with
  | ret obj =>
   obtain ⟨rfl,rfl⟩:=hr
   have hS:(s.heap.push (zL w)).get? s.heap.objs.size = some (zL w):=Heap.get?_push_size _ rfl
   have hT:Shared.TypeIs { s with heap:=s.heap.push (zL w) } (.ref s.heap.objs.size) "set":=⟨_,hS,rfl⟩
   have hli:=F.called_set.init.lookup
   have hbi:=F.called_set.init.bind (.ref s.heap.objs.size)
   repeat (any_goals (first | assumption | wp_step))
   refine codeAny_mono (codeAny_call_builtin (R:=wants (fun r s₂=>r = .none /\ ∃ h' tk,s₂ = { s with heap:=h',toks:=tk } /\ TxSet prog w h' s.heap.objs.size (uniq xs) /\
     (∀ b o,s.heap.get? b = some o -> h'.get? b = some o)) E) F.called_set.init.plain F.entry_set_init (check_set_init_1 hT ?_)) fun r₂ s₂ hr₂=>?_
   ·have hl1:(s.heap.push (zL w)).IsList l items:=hl.push _
    obtain ⟨ol,hol,hcl,nl,hdl⟩:=id hl1
    have hlS:l < s.heap.objs.size:=by obtain ⟨_,e,_⟩:=hl; exact Heap.lt_size e
    obtain ⟨ocls,odict,odata,oslots⟩:=ol
    simp only at hcl hdl
    subst hcl; subst hdl
    have hsls:=sub_list_set
    have hslf:=sub_list_frozenset
    have hne:(Value.type "list" == Value.type "dict") = false:=by decide
    unfold zL at hS hol
    unfold Builtin.«set.__init__» noKeywords Builtin.Frozenset.updateFrom
    generalize hPI:pyIter = PI
    unfold zL
    wp_walk
    subst hPI
    refine wpAny_pyIter_list hl1 ?_
    refine wpAny_bind (wpAny_runValue ?_)
    have hh3:A.in1.in1.in1.handled = none:=by simp [hh]
    have hneI:l ≠ (s.heap.push (zL w)).objs.size:=by
     rw [Heap.size_push]; exact Nat.ne_of_lt (Nat.lt_succ_of_lt hlS)
    have hSf:s.heap.objs.size ∉ [(s.heap.push (zL w)).objs.size,l]:=by
     rw [Heap.size_push]; simp only [List.mem_cons,List.mem_singleton,List.not_mem_nil,or_false,not_or]
     exact ⟨Nat.ne_of_lt (Nat.lt_succ_self _),Nat.ne_of_gt hlS⟩
    refine tx_loop ((Walks.list hh3 _ l hneI items).toS) s.heap.objs.size hSf xs hlen hi hb (items.size - 0) 0 _ (by omega) (Nat.zero_le _)
     ⟨⟨_,Heap.get?_push_size _ rfl,rfl,rfl⟩,(hl1.push _)⟩ ?hS0 ?hR
    case hS0 =>
     have hget:((s.heap.push (zL w)).push { cls:=.type "list_iterator",data:=.fields #[.ref l,.int 0 0] }).get? s.heap.objs.size = some (zL w):=Heap.get?_push_of_some _ hS
     exact tx_fresh hget
    case hR =>
     intro s' hm hS'
     obtain ⟨h',g',d',tk',os'⟩:=s'
     have eg:g' = s.gens:=hm.gens
     have ed:d' = s.drawn:=hm.drawn
     have eo:os' = s.os:=hm.os
     subst eg; subst ed; subst eo
     show wpAny _ _ _ _ _ _
     refine wpAny_pure ?_
     show wpAny _ _ (ret Value.none) _ _ _
     refine wpAny_pure ⟨rfl,h',tk',rfl,hS',fun b o e=>?_⟩
     have hb0:=Heap.lt_size e
     have hb1:b ≠ s.heap.objs.size:=Nat.ne_of_lt hb0
     have hb2:b ≠ (s.heap.push (zL w)).objs.size:=by
      rw [Heap.size_push]; exact Nat.ne_of_lt (Nat.lt_succ_of_lt hb0)
     exact hm.heap b o (by simp only [List.mem_cons,List.mem_singleton,List.not_mem_nil,or_false,not_or]; exact ⟨hb1,hb2⟩) (Heap.get?_push_of_some _ (Heap.get?_push_of_some _ e))
   ·cases r₂ with
    | error e=>exact hr₂
    | ok fl₂ =>
     cases fl₂ with
     | ret r =>
      obtain ⟨rfl,h',tk,rfl,hS',hk'⟩:=hr₂
      repeat (any_goals (first | assumption | wp_step))
      exact h _ _ hS' hk'
     | _=>exact hr₂.elim
  | _=>exact hr.elim
set_option maxHeartbeats 6400000 in
theorem call_set_tuple {l:Addr} {items:Array Value} {xs:List Str} {Q:Value -> Shared -> Prop} (hh:A.handled = none) (hl:s.heap.IsTuple l items) (hlen:xs.length = items.size) (hi:∀ (i:Nat) (v:Value),items[i]? = some v -> ∃ k t,xs[i]? = some k /\ v = .str k t) (hb:items.size + 1 < scanBound)
  (h:∀ (h':Heap) (tk:Nat),TxSet prog w h' s.heap.objs.size (uniq xs) -> (∀ b o,s.heap.get? b = some o -> h'.get? b = some o) -> Q (.ref s.heap.objs.size) { s with heap:=h',toks:=tk }):wpAny (model prog w) A (call (.type "set") [.ref l]) Q E s:=by
 obtain ⟨c,tl,hmro⟩:=F.called_set.mro
 have hmade:=F.called_set.made
 have hsub:=F.called_set.sub
 have h1:=F.called_set.notType
 have h2:=F.called_set.canCreate
 have hct:=F.typeCall_set_1 (.ref l)
 refine wpAny_call (codeAny_of_tree ?_)
 show wpAny _ _ (callAny (.type "set") _) _ _ _
 refine wpAny_pure ⟨Code.quiet_builtin _ (by decide +kernel),codeAny_builtin F.entry_type_call ?_⟩
 rw [Around.under_plain (weight_type_call_type "set" [.ref l] []) rfl]
 repeat (any_goals (first | assumption | wp_step))
 refine codeAny_mono (set_new (.ref l) (E:=E) (Q₁:=fun obj s₁=>obj = .ref s.heap.objs.size /\ s₁ = { s with heap:=s.heap.push (zL w) }) ⟨rfl,rfl⟩) fun r s₁ hr=>?_
 cases r with
 | error e=>exact hr
 | ok fl =>
  cases fl with
  | ret obj =>
   obtain ⟨rfl,rfl⟩:=hr
   have hS:(s.heap.push (zL w)).get? s.heap.objs.size = some (zL w):=Heap.get?_push_size _ rfl
   have hT:Shared.TypeIs { s with heap:=s.heap.push (zL w) } (.ref s.heap.objs.size) "set":=⟨_,hS,rfl⟩
   have hli:=F.called_set.init.lookup
   have hbi:=F.called_set.init.bind (.ref s.heap.objs.size)
   repeat (any_goals (first | assumption | wp_step))
   refine codeAny_mono (codeAny_call_builtin (R:=wants (fun r s₂=>r = .none /\ ∃ h' tk,s₂ = { s with heap:=h',toks:=tk } /\ TxSet prog w h' s.heap.objs.size (uniq xs) /\
     (∀ b o,s.heap.get? b = some o -> h'.get? b = some o)) E) F.called_set.init.plain F.entry_set_init (check_set_init_1 hT ?_)) fun r₂ s₂ hr₂=>?_
   ·have hl1:(s.heap.push (zL w)).IsTuple l items:=hl.push _
    obtain ⟨ol,hol,hcl,nl,hdl⟩:=id hl1
    have hlS:l < s.heap.objs.size:=by obtain ⟨_,e,_⟩:=hl; exact Heap.lt_size e
    obtain ⟨ocls,odict,odata,oslots⟩:=ol
    simp only at hcl hdl
    subst hcl; subst hdl
    have hsls:=sub_tuple_set
    have hslf:=sub_tuple_frozenset
    have hne:(Value.type "tuple" == Value.type "dict") = false:=by decide
    unfold zL at hS hol
    unfold Builtin.«set.__init__» noKeywords Builtin.Frozenset.updateFrom
    generalize hPI:pyIter = PI
    unfold zL
    wp_walk
    subst hPI
    refine wpAny_pyIter_tuple hl1 ?_
    refine wpAny_bind (wpAny_runValue ?_)
    have hh3:A.in1.in1.in1.handled = none:=by simp [hh]
    have hneI:l ≠ (s.heap.push (zL w)).objs.size:=by
     rw [Heap.size_push]; exact Nat.ne_of_lt (Nat.lt_succ_of_lt hlS)
    have hSf:s.heap.objs.size ∉ [(s.heap.push (zL w)).objs.size,l]:=by
     rw [Heap.size_push]; simp only [List.mem_cons,List.mem_singleton,List.not_mem_nil,or_false,not_or]
     exact ⟨Nat.ne_of_lt (Nat.lt_succ_self _),Nat.ne_of_gt hlS⟩
    refine tx_loop ((Walks.tuple hh3 _ l hneI items).toS) s.heap.objs.size hSf xs hlen hi hb (items.size - 0) 0 _ (by omega) (Nat.zero_le _)
     ⟨⟨_,Heap.get?_push_size _ rfl,rfl,rfl⟩,(hl1.push _)⟩ ?hS0 ?hR
    case hS0 =>
     have hget:((s.heap.push (zL w)).push { cls:=.type "tuple_iterator",data:=.fields #[.ref l,.int 0 0] }).get? s.heap.objs.size = some (zL w):=Heap.get?_push_of_some _ hS
     exact tx_fresh hget
    case hR =>
     intro s' hm hS'
     obtain ⟨h',g',d',tk',os'⟩:=s'
     have eg:g' = s.gens:=hm.gens
     have ed:d' = s.drawn:=hm.drawn
     have eo:os' = s.os:=hm.os
     subst eg; subst ed; subst eo
     show wpAny _ _ _ _ _ _
     refine wpAny_pure ?_
     show wpAny _ _ (ret Value.none) _ _ _
     refine wpAny_pure ⟨rfl,h',tk',rfl,hS',fun b o e=>?_⟩
     have hb0:=Heap.lt_size e
     have hb1:b ≠ s.heap.objs.size:=Nat.ne_of_lt hb0
     have hb2:b ≠ (s.heap.push (zL w)).objs.size:=by
      rw [Heap.size_push]; exact Nat.ne_of_lt (Nat.lt_succ_of_lt hb0)
     exact hm.heap b o (by simp only [List.mem_cons,List.mem_singleton,List.not_mem_nil,or_false,not_or]; exact ⟨hb1,hb2⟩) (Heap.get?_push_of_some _ (Heap.get?_push_of_some _ e))
   ·cases r₂ with
    | error e=>exact hr₂
    | ok fl₂ =>
     cases fl₂ with
     | ret r =>
      obtain ⟨rfl,h',tk,rfl,hS',hk'⟩:=hr₂
      repeat (any_goals (first | assumption | wp_step))
      exact h _ _ hS' hk'
     | _=>exact hr₂.elim
  | _=>exact hr.elim
end
end AxS
namespace L2
open PySem PySem.Spec PyProof.Rows AxS
def TxHO (P:Program) (w:World) (a:Addr) (ks:List Str):HO:=.ext fun h=>TxSet P w h a ks
theorem txho_ok {P:Program} {w:World} {H:Hp} {h:Heap} {a:Addr} {ks:List Str} (x:TxSet P w h a ks):ObjOk P w H h a (TxHO P w a ks):=by
 obtain ⟨o,es,ep,t,ho,r⟩:=id x
 exact ⟨x,⟨o,ho⟩,fun u1 u2 z k=>TxSet.at z fun o e=>k o e⟩
theorem txho_get {P:Program} {w:World} {H:Hp} {h:Heap} {a:Addr} {ks:List Str} (x:ObjOk P w H h a (TxHO P w a ks)):TxSet P w h a ks:=x.1
section
variable {X:Cx} {K:PySem.W.Frag}
theorem Inv.drew {pins:List (Addr × Obj)} {σ:St} {H:Hp} {s:Shared} {d:Drawn} (I:Inv X pins σ H s):Inv X pins σ H { s with drawn:=d } :=
 ⟨I.ok,I.os,I.bare,I.base,I.loc,I.cell,I.free,I.freeC,I.pin,I.hok,I.len⟩
theorem strs_of:∀ {vs:List Value} {zs:List Str},yS vs zs -> StrsAre vs zs
 | [],[],_=>.nil
 | [],_ :: _,h=>by cases h.1
 | _ :: _,[],h=>by cases h.1
 | v :: vs,z :: zs,h=>by
  obtain ⟨k,t,e,rfl⟩:=h.2 0 v rfl
  have e:z = k:=Option.some.inj e
  subst e
  exact .cons _ _ (strs_of ⟨by have:=h.1; simpa using this,fun i v e=>by
   obtain ⟨k,t,e1,e2⟩:=h.2 (i + 1) v (by simpa using e)
   exact ⟨k,t,by simpa using e1,e2⟩⟩)
def rSortedS (P:Program) (w:World):List V -> Hp -> VK -> Prop:=fun xs H Q=>∃ (a:Addr) (ks:List Str),xs = [.ref a] /\ H a = some (TxHO P w a ks) /\ ks.length < 64 /\ ∀ l ss,H l = none -> ss.Perm ks -> sortedS ss = true -> Q (.ref l) (upd H l (.lst (ss.map V.str)))
theorem xC (hc:X.calm = true):CallR X (.builtin "sorted") (rSortedS X.prog X.w):=by
 intro pins s σ H xs us Q I r h
 obtain ⟨a,ks,rfl,ha,h64,q⟩:=h
 obtain ⟨u,rfl,ru⟩:=vals1 r
 cases ru
 have hT:=txho_get (I.hok a _ ha)
 refine Calls.call_function_entry kind_sorted plain_sorted entry_sorted (args_sorted1 _) ?_
 unfold Builtin.«sorted»
 refine wpAny_bind (m:=checkCount "sorted" 1 1 _) (wpAny_pure ?_)
 refine wpAny_bind (tx_collect (A:=X.A.in1) (I.ok.hd hc) hT (by omega) fun h' d tk acc zs hkp hz tx=>?_)
 have hstr:=strs_of tx
 have hal:acc.length < 64:=by rw [tx.1,hz.length_eq]; exact h64
 have hline:64 <= sizeLine:=by rw [sizeLine_eq]; decide
 refine wpAny_bind (wpAny_newList ?_ (by omega))
 have hoL:(h'.push (seqObj "list" acc.toArray 0)).get? h'.objs.size = some (seqObj "list" acc.toArray 0):=Heap.get?_push_size _ rfl
 refine wpAny_bind (wpAny_holding (wpAny_call_entry slot_list_sort ⟨_,hoL,rfl⟩ entry_list_sort (list_sort_treeK strKind_oneLt hoL hstr.keysOf (fun v₁ v₂ rest e=>keyKind_strs (by rw [← e]; exact hstr)) (by omega) fun st' a1 a2=>⟨_,rfl,?_⟩) (args_list_sort _)))
 obtain ⟨ss',b1,b2,b3⟩:=sorted_out_str hstr a1 a2
 refine wpAny_pure ⟨_,rfl,?_⟩
 obtain ⟨e,he⟩:=sortedHeap_at (out:=(arrOf st').map (·.2)) hoL
 have nl:=vals_strs b1
 have I1:Inv X pins σ H { s with heap:=h',drawn:=d,toks:=tk }:=(I.kept (t':=tk) hkp).drew (d:=d)
 have kp2:∀ b ob,h'.get? b = some ob -> (sortedHeap (h'.push (seqObj "list" acc.toArray 0)) h'.objs.size acc ((arrOf st').map (·.2))).get? b = some ob:=fun b ob q1=>by
  have hb:b < h'.objs.size:=Heap.lt_size q1
  rw [sortedHeap_old (Nat.ne_of_lt hb) (by rw [Heap.size_push]; exact Nat.lt_succ_of_lt hb)]
  exact Heap.get?_push_of_some _ q1
 have fr:H h'.objs.size = none:=I1.hok.fresh (Nat.le_refl _)
 have hz2:(ss'.map V.str).length <= sizeLine:=by
  have:=b2.length_eq
  have:=hz.length_eq
  rw [List.length_map]
  omega
 exact ⟨.ref h'.objs.size,_,I1.laid (o:=.lst (ss'.map V.str)) (t':=tk) kp2 (Nat.le_refl _) ⟨hz2,_,e,nl,he⟩,rfl,q _ ss' fr (b2.trans hz) b3⟩
def rSet (K:PySem.W.Frag) (P:Program) (w:World):List V -> Hp -> VK -> Prop:=fun xs H Q=>∃ (a:Addr) (ls:List Str),xs = [.ref a] /\ (SqL K H a (ls.map V.str) \/ SqT K H a (ls.map V.str)) /\ ls.length <= 1000 /\ ∀ p,H p = none -> Q (.ref p) (upd H p (TxHO P w p (uniq ls)))
theorem vals_texts {ls:List Str} {us:List Value} (r:Vals (ls.map V.str) us):yS us ls:=by
 refine ⟨by rw [← r.length,List.length_map],fun i v e=>?_⟩
 have hi:i < ls.length:=by have:=(List.getElem?_eq_some_iff.mp e).1; rw [← r.length,List.length_map] at this; exact this
 obtain ⟨u,hu,ru⟩:=r.get (show (ls.map V.str)[i]? = some (V.str ls[i]) by rw [List.getElem?_map,List.getElem?_eq_getElem hi]; rfl)
 rw [hu] at e
 cases e
 obtain ⟨t,rfl⟩:=ru
 exact ⟨_,t,List.getElem?_eq_getElem hi,rfl⟩
theorem call_set (hc:X.calm = true) (hK:X.K = K:=by rfl):CallR X (.type "set") (rSet K X.prog X.w):=by
 subst hK
 intro pins s σ H xs us Q I r h
 obtain ⟨a,ls,rfl,ha,hl,q⟩:=h
 obtain ⟨u,rfl,ru⟩:=vals1 r
 cases ru
 have fin:∀ (h':Heap) (tk:Nat),TxSet X.prog X.w h' s.heap.objs.size (uniq ls) -> (∀ b o,s.heap.get? b = some o -> h'.get? b = some o) -> EP X pins σ Q (.ref s.heap.objs.size) { s with heap:=h',toks:=tk }:=fun h' tk x k =>
  ⟨.ref s.heap.objs.size,_,I.laid (o:=TxHO X.prog X.w s.heap.objs.size (uniq ls)) (t':=tk) k (Nat.le_refl _) (txho_ok x),rfl,q _ (I.hok.fresh (Nat.le_refl _))⟩
 have sb:scanBound = 4096:=rfl
 rcases ha with ha | ha
 ·obtain ⟨its,rv,pl,_⟩:=I.list ha
  have tx:=vals_texts rv
  exact call_set_list (I.ok.hd hc) pl.isList (by rw [List.size_toArray]; exact tx.1.symm) (fun i v e=>tx.2 i v (by simpa using e)) (by rw [List.size_toArray,tx.1,sb]; omega) fin
 ·obtain ⟨its,rv,pl,_⟩:=I.tuple ha
  have tx:=vals_texts rv
  exact call_set_tuple (I.ok.hd hc) pl (by rw [List.size_toArray]; exact tx.1.symm) (fun i v e=>tx.2 i v (by simpa using e)) (by rw [List.size_toArray,tx.1,sb]; omega) fin
end
end L2
namespace AxS
open PySem PySem.Spec PyProof.Rows
theorem above_full {n:Nat} (h:n < 256):Full (SetTable.sizeAbove n) /\ n < SetTable.sizeAbove n:=by
 have go:∀ n,n < 256 -> (SetTable.sizeAbove n = 8 \/ SetTable.sizeAbove n = 16 \/ SetTable.sizeAbove n = 32 \/ SetTable.sizeAbove n = 64 \/ SetTable.sizeAbove n = 128 \/ SetTable.sizeAbove n = 256) /\ n < SetTable.sizeAbove n:=by decide +kernel
 obtain ⟨h1,h2⟩:=go n h
 refine ⟨?_,h2⟩
 rcases h1 with e | e | e | e | e | e <;> rw [e]
 ·exact full8
 ·exact full16
 ·exact full32
 ·exact full64
 ·exact full128
 ·exact full256
theorem order_perm {es:Array (Int × Value)} {order:Array Nat} (h:order.toList.Perm (List.range es.size)):(order.filterMap (es[·]?)).toList.Perm es.toList /\ (order.filterMap (es[·]?)).size = es.size:=by
 have hL:(order.filterMap (es[·]?)).toList.Perm es.toList:=by
  rw [Array.toList_filterMap]
  refine (h.filterMap _).trans ?_
  have e:=List.filterMap_getElem?_range_length es.toList
  rw [Array.length_toList] at e
  have e2:(List.range es.size).filterMap (fun p=>es[p]?) = (List.range es.size).filterMap fun i=>es.toList[i]?:=by congr 1; funext p; exact (Array.getElem?_toList ..).symm
  rw [e2,e]
 exact ⟨hL,by rw [← Array.length_toList,hL.length_eq,Array.length_toList]⟩
section
variable {prog:Program} {w:World} {A:Around} {E:Value -> Shared -> Prop} {s:Shared}
theorem relay_ok {a:Addr} {o:Obj} {es:Array (Int × Value)} {ep n:Nat} {t:SetTable} {Q:Unit -> Shared -> Prop} (ho:s.heap.get? a = some o) (hd:o.data = .set es ep t) (hf:t.fits es.size = true) (hn:n < 256) (hes:es.size <= n)
  (h:∀ es' t',es'.toList.Perm es.toList -> t'.fits es'.size = true -> t'.led = t.led -> t'.plain = t.plain -> t'.dummies = #[] -> t'.mask = SetTable.sizeAbove n - 1 -> Q () { s with heap:=s.heap.update a (Obj.putSet es' t') }):wpAny (model prog w) A (setRelay a n) Q E s:=by
 obtain ⟨F,hlt⟩:=above_full hn
 have hz:SetTable.sizeAbove n - 1 + 1 = SetTable.sizeAbove n:=by omega
 obtain ⟨t',order,el,pm,ps,du,mk,le,pl⟩:=laid_ok (mask:=SetTable.sizeAbove n - 1) (finger:=t.finger) (moves:=t.movedTo (SetTable.sizeAbove n - 1)) (led:=t.led) (plain:=t.plain) (hs:=es.map (·.1)) (by rw [hz]; exact F) (by rw [Array.size_map]; omega)
 rw [Array.size_map] at pm ps
 obtain ⟨op,osz⟩:=order_perm pm
 have sl:¬ SetTable.sizeAbove n > sizeLine:=by
  have:∀ n,n < 256 -> SetTable.sizeAbove n <= 256:=by decide +kernel
  have:=this n hn
  rw [sizeLine_eq]
  omega
 unfold setRelay
 refine wpAny_bind (wpAny_setState_of ho hd hf ?_)
 dsimp only
 rw [if_neg sl]
 have er:t.relaid (es.map (·.1)) n = some (t',order):=el
 rw [er]
 refine wpAny_bind ?_
 wp_delta
 dsimp only
 rw [if_neg (by rw [osz]; simp)]
 refine wpAny_pure ?_
 refine wpAny_storeSet_of ho hd (h _ t' op (by unfold SetTable.fits SetTable.fill; rw [ps,du,osz,mk]; simp; omega) le pl du mk) ?_
 rw [sizeLine_eq,osz]
 omega
theorem put_at {h:Heap} {a:Addr} {o:Obj} {es es':Array (Int × Value)} {ep:Nat} {t t':SetTable} (ho:h.get? a = some o) (hd:o.data = .set es ep t):(h.update a (Obj.putSet es' t')).get? a = some { o with data:=.set es' (ep + 1) t' }:=by
 have:=Heap.get?_update_self (Obj.putSet es' t') ho (by rw [putSet_of es' t' hd]; rfl)
 rw [putSet_of es' t' hd] at this
 exact this
theorem wp_byText {Q:Bool -> Shared -> Prop} (h:Q (byText w) s):wpAny (model prog w) A setsByText Q E s:=by
 unfold setsByText
 exact wpAny_bind (wpAny_askSetting (wpAny_pure h))
theorem room_ok {a:Addr} {o:Obj} {es:Array (Int × Value)} {ep n:Nat} {t:SetTable} {Q:Unit -> Shared -> Prop} (ho:s.heap.get? a = some o) (hd:o.data = .set es ep t) (hf:t.fits es.size = true) (hn:(es.size + n) * 2 < 256)
  (h1:t.roomFor n = none -> Q () s)
  (h2:∀ es' t',es'.toList.Perm es.toList -> t'.fits es'.size = true -> t'.led = t.led -> t'.plain = t.plain -> t'.dummies = #[] -> t'.mask = SetTable.sizeAbove ((es.size + n) * 2) - 1 -> Q () { s with heap:=s.heap.update a (Obj.putSet es' t') }):wpAny (model prog w) A (setRoomFor a n) Q E s:=by
 unfold setRoomFor
 refine wpAny_bind (wpAny_setState_of ho hd hf ?_)
 have ps:t.place.size = es.size:=by
  unfold SetTable.fits at hf
  have:=(Bool.and_eq_true_iff.mp hf).1
  exact beq_iff_eq.mp this
 dsimp only
 cases q:t.roomFor n with
 | none=>exact wpAny_pure (h1 q)
 | some wanted =>
  have ew:wanted = (es.size + n) * 2:=by
   unfold SetTable.roomFor at q
   split at q
   ·cases q; rw [ps]
   ·cases q
  subst ew
  exact relay_ok ho hd hf hn (by omega) h2
theorem room_any {a:Addr} {o:Obj} {es:Array (Int × Value)} {ep n:Nat} {t:SetTable} {Q:Unit -> Shared -> Prop} (ho:s.heap.get? a = some o) (hx:o.ExactSet) (hd:o.data = .set es ep t) (hf:t.fits es.size = true) (hn:(es.size + n) * 2 < 256)
  (h:∀ (h1:Heap) (o':Obj) (es':Array (Int × Value)) (ep':Nat) (t':SetTable),Heap.SameBut a s.heap h1 -> h1.get? a = some o' -> o'.ExactSet -> o'.data = .set es' ep' t' -> es'.toList.Perm es.toList -> t'.fits es'.size = true -> t'.led = t.led -> t'.plain = t.plain -> Q () { s with heap:=h1 }):wpAny (model prog w) A (setRoomFor a n) Q E s :=
 room_ok ho hd hf hn (fun _=>h s.heap o es ep t (Heap.SameBut.refl a s.heap) ho hx hd (List.Perm.refl _) hf rfl rfl) fun es' t' pm f1 f2 f3 _ _=>h _ _ es' (ep + 1) t' (Heap.SameBut.update s.heap a _) (put_at ho hd) hx rfl pm f1 f2 f3
theorem walk_ok {a b:Addr} {o o2:Obj} {es es2:Array (Int × Value)} {ep ep2:Nat} {t t2:SetTable} {Q:Array (Int × Value) -> Shared -> Prop} (ho:s.heap.get? a = some o) (hd:o.data = .set es ep t) (hf:t.fits es.size = true) (hel:ElemsOf (strKind prog w) es.toList) (hl:t.led = !byText w) (hp:t.plain = false)
  (ho2:s.heap.get? b = some o2) (hd2:o2.data = .set es2 ep2 t2) (hf2:t2.fits es2.size = true) (hel2:ElemsOf (strKind prog w) es2.toList) (hl2:t2.led = !byText w) (hp2:t2.plain = false)
  (h:∀ W d,W.toList.Perm es.toList -> Q W { s with drawn:=d }):wpAny (model prog w) A (setWalkUnseen a [b] (some b)) Q E s:=by
 have noRef:∀ {es:Array (Int × Value)},ElemsOf (strKind prog w) es.toList -> ∀ e ∈ es.toList,∀ r,e.2 ≠ .ref r:=fun {es} hel e he r z=>by
  have:=(hel e he).2
  rw [z] at this
  cases this
 have wk:(byText w = true \/ es.size <= 1) -> wpAny (model prog w) A (setWalk a) Q E s:=fun c=>by
  unfold setWalk
  refine wpAny_bind (wpAny_setState_of ho hd hf ?_)
  dsimp only
  refine wpAny_bind (wp_byText ?_)
  cases q:byText w with
  | true =>
   simp only [↓reduceIte]
   exact wpAny_bind (wpAny_askSetting (wpAny_pure (h _ s.drawn (qN _ _))))
  | false =>
   have c1:es.size <= 1:=c.resolve_left (by rw [q]; decide)
   simp only [Bool.false_eq_true,↓reduceIte]
   refine wpAny_ite_split (fun z=>?_) (fun _=>?_)
   ·exfalso
    have z:(!t.plain && decide (es.size > 1)) = true:=z
    rw [decide_eq_false (by omega),Bool.and_false] at z
    cases z
   ·refine wpAny_bind ?_
    wp_delta
    rw [hl,q]
    refine wpAny_ite_split (fun z=>?_) (fun _=>?_)
    ·exfalso
     have z:(!(!false) && decide (es.size > 1)) = true:=z
     cases z
    ·exact wpAny_pure (wpAny_pure (h es s.drawn (List.Perm.refl _)))
 unfold setWalkUnseen
 refine wpAny_bind (wpAny_setState_of ho hd hf ?_)
 dsimp only
 refine wpAny_bind (wp_byText ?_)
 refine wpAny_ite_split (fun z=>?_) (fun z=>?_)
 ·refine wk ?_
  rw [hp,Bool.and_false,Bool.or_false,Bool.or_eq_true] at z
  exact z.imp id of_decide_eq_true
 ·refine wpAny_bind ?_
  have quiet:∀ (l:List Addr),(∀ c ∈ l,∃ o es ep t,s.heap.get? c = some o /\ o.data = .set es ep t /\ t.fits es.size = true /\ ElemsOf (strKind prog w) es.toList) -> ∀ {Q':Bool -> Shared -> Prop},Q' true s -> wpAny (model prog w) A (setsQuiet l) Q' E s:=fun l hl Q' hq=>by
   unfold setsQuiet
   refine wpAny_bind ?_
   refine wpAny_forIn_list _ (fun rest q s'=>s' = s /\ q = (none,()) /\ ∀ c ∈ rest,∃ o es ep t,s.heap.get? c = some o /\ o.data = .set es ep t /\ t.fits es.size = true /\ ElemsOf (strKind prog w) es.toList) _ ?_ ?_ l _ ⟨rfl,rfl,hl⟩
   ·rintro c rest q s' ⟨rfl,rfl,hc⟩
    obtain ⟨o,es,ep,t,h1,h2,h3,h4⟩:=hc c (List.mem_cons_self ..)
    refine wpAny_bind ?_
    unfold setEntries
    refine wpAny_bind (wpAny_setState_of h1 h2 h3 (wpAny_pure ?_))
    refine wpAny_bind ?_
    refine MeetsSeq2.wpAny_forIn_array _ (fun rest q s2=>s2 = s' /\ q = (none,()) /\ ∀ e ∈ rest,∀ r,e.2 ≠ .ref r) _ ?_ ?_ _ _ ⟨rfl,rfl,noRef h4⟩
    ·rintro ⟨hx,x⟩ rest2 q2 s2 ⟨rfl,rfl,hr⟩
     have nr:=hr (hx,x) (List.mem_cons_self ..)
     cases x with
     | ref r=>exact absurd rfl (nr r)
     | _=>exact wpAny_pure ⟨rfl,rfl,fun e he=>hr e (List.mem_cons_of_mem _ he)⟩
    ·rintro q2 s2 ⟨rfl,rfl,_⟩
     exact wpAny_pure ⟨rfl,rfl,fun d hd=>hc d (List.mem_cons_of_mem _ hd)⟩
   ·rintro q s' ⟨rfl,rfl,_⟩
    exact wpAny_pure hq
  refine quiet [a,b] (fun c hc=>?_) ?_
  ·rcases List.mem_cons.mp hc with rfl | hc
   ·exact ⟨o,es,ep,t,ho,hd,hf,hel⟩
   ·rw [List.mem_singleton.mp hc]; exact ⟨o2,es2,ep2,t2,ho2,hd2,hf2,hel2⟩
  ·simp only [Bool.not_true,Bool.false_eq_true,↓reduceIte]
   refine wpAny_bind (wpAny_rule ?_)
   refine wpAny_bind (wpAny_setState_of ho2 hd2 hf2 ?_)
   dsimp only
   refine wpAny_ite_split (fun z=>?_) (fun _=>?_)
   ·exfalso
    rw [hl,hl2,hp,hp2] at z
    cases q:byText w <;> rw [q] at z <;> cases z
   ·exact wpAny_pure (h es s.drawn (List.Perm.refl _))
theorem step_mem {ks:List Str} {k x:Str}:x ∈ step ks k ↔ x ∈ ks \/ x = k:=by
 unfold step
 split
 ·rename_i h
  exact ⟨.inl,fun z=>z.elim id fun e=>by rw [e]; exact h⟩
 ·rw [List.mem_append,List.mem_singleton]
theorem jB {ks:List Str} {k:Str} (h:ks.Nodup):(step ks k).Nodup:=by
 unfold step
 split
 ·exact h
 ·rename_i n
  refine List.nodup_append.mpr ⟨h,List.nodup_cons.mpr ⟨by simp,List.nodup_nil⟩,fun x hx y hy e=>n ?_⟩
  rw [List.mem_singleton] at hy
  rw [← hy,← e]
  exact hx
theorem fits_size {t:SetTable} {n:Nat} (hf:t.fits n = true):t.place.size = n:=beq_iff_eq.mp (Bool.and_eq_true_iff.mp hf).1
structure Both (ks1 ks2 ks:List Str):Prop where
 mem:∀ x,x ∈ ks ↔ x ∈ ks1 \/ x ∈ ks2
 nd:ks1.Nodup -> ks2.Nodup -> ks.Nodup
 len:ks.length <= ks1.length + ks2.length
theorem tx_merge {a b:Addr} {ks1 ks2:List Str} {each:Sem Unit} {Q:Unit -> Shared -> Prop} (hS:TxSet prog w s.heap a ks1) (hO:TxSet prog w s.heap b ks2) (ne:a ≠ b) (n1:ks1 ≠ []) (hb:(ks1.length + ks2.length) * 2 < 256)
  (hE:∀ (s':Shared) (Q':Unit -> Shared -> Prop),s'.heap.get? b = s.heap.get? b -> Q' () s' -> wpAny (model prog w) A each Q' E s')
  (h:∀ h' d ks',Heap.SameBut a s.heap h' -> TxSet prog w h' a ks' -> Both ks1 ks2 ks' -> Q () { s with heap:=h',drawn:=d }):wpAny (model prog w) A (setMerge a b each) Q E s:=by
 obtain ⟨o,es,ep,t,ho,hx,hd,X⟩:=id hS
 obtain ⟨o2,es2,ep2,t2,ho2,hx2,hd2,X2⟩:=id hO
 have hl:=tx_len X
 have hl2:=tx_len X2
 obtain ⟨hel,hp,hbd,hf,hled,hpl⟩:=X
 obtain ⟨hel2,hp2,hbd2,hf2,hled2,hpl2⟩:=X2
 have k0:0 < ks1.length:=List.length_pos_iff.mpr n1
 unfold setMerge
 refine wpAny_ite_split (fun z=>absurd (beq_iff_eq.mp z) ne) (fun _=>?_)
 refine wpAny_bind (wpAny_setState_of ho2 hd2 hf2 ?_)
 dsimp only
 refine wpAny_ite_split (fun z=>?_) (fun z=>?_)
 ·have e:es2.size = 0:=by simpa [Array.isEmpty] using z
  have e:ks2 = []:=List.eq_nil_of_length_eq_zero (by omega)
  subst e
  exact wpAny_pure (h s.heap s.drawn ks1 (Heap.SameBut.refl a s.heap) hS ⟨fun x=>by simp,fun n _=>n,by omega⟩)
 ·have e2:es2.size ≠ 0:=fun e=>z (by simpa [Array.isEmpty] using e)
  refine wpAny_bind (room_any ho hx hd hf (by omega) fun h1 o' es' ep' t' sb1 ho' hx' hd' pm hf' hle hpl'=>?_)
  have sz':es'.size = es.size:=by rw [← Array.length_toList,pm.length_eq,Array.length_toList]
  have ho2':h1.get? b = some o2:=by rw [sb1.2 b ne.symm]; exact ho2
  refine wpAny_bind (wpAny_setState_of (s:={ s with heap:=h1 }) ho' hd' hf' ?_)
  dsimp only
  have rd:t'.road t2 = .oneByOne:=by
   unfold SetTable.road SetTable.fill
   rw [fits_size hf']
   exact if_pos (bne_iff_ne.mpr (by omega))
  rw [rd]
  dsimp only
  have hel':=hel.perm pm
  refine wpAny_bind (walk_ok (s:={ s with heap:=h1 }) ho2' hd2 hf2 hel2 hled2 (hpl2 e2) ho' hd' hf' hel' (hle.trans hled) (hpl'.trans (hpl (by omega))) fun W d wp=>?_)
  have tx1:TxSet prog w h1 a ks1:=⟨o',es',ep',t',ho',hx',hd',hel',(pm.map keyOf).trans hp,by omega,hf',hle.trans hled,fun _=>hpl'.trans (hpl (by omega))⟩
  have helW:=hel2.perm wp
  have wl:W.toList.length = ks2.length:=by rw [wp.length_eq,Array.length_toList]; exact hl2
  refine wpAny_bind ?_
  refine MeetsSeq2.wpAny_forIn_array _ (fun rest _ s2=>∃ (done:List (Int × Value)) (h2:Heap) (ks:List Str),W.toList = done ++ rest /\ s2 = { s with heap:=h2,drawn:=d } /\ Heap.SameBut a s.heap h2 /\ TxSet prog w h2 a ks /\ Both ks1 (done.map keyOf) ks) _ ?_ ?_ W _ ⟨[],h1,ks1,rfl,rfl,sb1,tx1,fun x=>by simp,fun n _=>n,by simp⟩
  ·rintro ⟨hh,x⟩ rest _ s2 ⟨done,h2,ks,ew,rfl,sb2,tx,bo⟩
   have mem:(hh,x) ∈ W.toList:=by rw [ew]; exact List.mem_append_right _ (List.mem_cons_self ..)
   obtain ⟨⟨k,hk,hhk⟩,_⟩:=helW (hh,x) mem
   obtain ⟨tk,et⟩:=Value.isStrOf_shape (show Value.isStrOf k x = true from hk)
   have hhk:hh = hashStr w k:=hhk
   have ek:keyOf (hh,x) = k:=by unfold keyOf; rw [et]
   dsimp only
   rw [et,hhk]
   have dl:done.length + rest.length + 1 = ks2.length:=by
    rw [ew,List.length_append,List.length_cons] at wl
    omega
   have kl:=bo.len
   rw [List.length_map] at kl
   have sbn:scanBound = 4096:=rfl
   refine wpAny_bind (wpAny_holding (tx_add (s:={ s with heap:=h2,drawn:=d }) tx (by omega) fun h3 r sb3 tx3=>?_))
   have e3:h3.get? b = s.heap.get? b:=(sb3.2 b ne.symm).trans (sb2.2 b ne.symm)
   refine wpAny_bind (hE _ _ e3 ?_)
   refine wpAny_bind (wpAny_setState_of (s:={ s with heap:=h3,drawn:=d }) (show h3.get? b = some o2 by rw [e3]; exact ho2) hd2 hf2 ?_)
   refine wpAny_ite_split (fun z=>absurd z (by simp)) (fun _=>?_)
   refine wpAny_pure ⟨done ++ [(hh,x)],h3,step ks k,by rw [ew,List.append_assoc]; rfl,rfl,sb2.trans sb3,tx3,fun y=>?_,fun n m=>jB (bo.nd n (by rw [List.map_append] at m; exact (List.nodup_append.mp m).1)),?_⟩
   ·rw [step_mem,bo.mem,List.map_append,List.mem_append]
    show _ ↔ y ∈ ks1 \/ y ∈ done.map keyOf \/ y ∈ [keyOf (hh,x)]
    rw [ek,List.mem_singleton,or_assoc]
   ·have:=step_len ks k
    rw [List.length_map,List.length_append,List.length_singleton]
    omega
  ·rintro _ s2 ⟨done,h2,ks,ew,rfl,sb2,tx,bo⟩
   rw [List.append_nil] at ew
   refine wpAny_pure (h h2 d ks sb2 tx ⟨fun x=>?_,fun n m=>bo.nd n (by rw [← ew]; exact ((wp.map keyOf).trans hp2).nodup_iff.mpr m),?_⟩)
   ·rw [bo.mem,← ew]
    have pk:(W.toList.map keyOf).Perm ks2:=(wp.map keyOf).trans hp2
    rw [pk.mem_iff]
   ·have:=bo.len
    rw [List.length_map,← ew,wl] at this
    exact this
theorem room_fresh {a:Addr} {n:Nat} {Q:Unit -> Shared -> Prop} (ho:s.heap.get? a = some (zL w)) (hn:n * 2 < 256)
  (h:∀ (h1:Heap) (o':Obj) (ep':Nat) (t':SetTable),Heap.SameBut a s.heap h1 -> h1.get? a = some o' -> o'.ExactSet -> o'.data = .set #[] ep' t' -> t'.fits 0 = true -> t'.led = !byText w -> t'.plain = true -> t'.dummies = #[] -> Full (t'.mask + 1) -> n <= t'.mask -> Q () { s with heap:=h1 }):wpAny (model prog w) A (setRoomFor a n) Q E s:=by
 refine room_ok (es:=#[]) ho rfl rfl (by show (0 + n) * 2 < 256; omega) (fun z=>?_) fun es' t' pm f1 f2 f3 f4 f5=>?_
 ·refine h s.heap _ 0 _ (Heap.SameBut.refl a s.heap) ho ⟨rfl,rfl,rfl⟩ rfl rfl rfl rfl rfl full8 ?_
  unfold SetTable.roomFor at z
  split at z
  ·cases z
  ·rename_i q
   have q:¬ (0 + n) * 5 ≥ 7 * 3:=q
   show n <= 7
   omega
 ·have e0:es' = #[]:=by
   have:=pm.length_eq
   rw [Array.length_toList] at this
   exact Array.eq_empty_of_size_eq_zero this
  subst e0
  have f5:t'.mask = SetTable.sizeAbove (n * 2) - 1:=by
   rw [f5]
   show SetTable.sizeAbove ((0 + n) * 2) - 1 = _
   rw [Nat.zero_add]
  obtain ⟨F,hlt⟩:=above_full hn
  refine h _ _ 1 t' (Heap.SameBut.update s.heap a _) (put_at ho rfl) ⟨rfl,rfl,rfl⟩ rfl f1 f2 f3 f4 ?_ (by omega)
  rw [f5,show SetTable.sizeAbove (n * 2) - 1 + 1 = SetTable.sizeAbove (n * 2) by omega]
  exact F
theorem tx_copy {a b:Addr} {ks2:List Str} {each:Sem Unit} {Q:Unit -> Shared -> Prop} (hS:s.heap.get? a = some (zL w)) (hO:TxSet prog w s.heap b ks2) (ne:a ≠ b) (hb:ks2.length * 2 < 256)
  (h:∀ h',Heap.SameBut a s.heap h' -> (ks2 = [] -> h'.get? a = some (zL w)) -> TxSet prog w h' a ks2 -> Q () { s with heap:=h' }):wpAny (model prog w) A (setMerge a b each) Q E s:=by
 obtain ⟨o2,es2,ep2,t2,ho2,hx2,hd2,X2⟩:=id hO
 have hl2:=tx_len X2
 obtain ⟨hel2,hp2,hbd2,hf2,hled2,hpl2⟩:=X2
 unfold setMerge
 refine wpAny_ite_split (fun z=>absurd (beq_iff_eq.mp z) ne) (fun _=>?_)
 refine wpAny_bind (wpAny_setState_of ho2 hd2 hf2 ?_)
 dsimp only
 refine wpAny_ite_split (fun z=>?_) (fun z=>?_)
 ·have e:es2.size = 0:=by simpa [Array.isEmpty] using z
  have e:ks2 = []:=List.eq_nil_of_length_eq_zero (by omega)
  subst e
  exact wpAny_pure (h s.heap (Heap.SameBut.refl a s.heap) (fun _=>hS) (tx_fresh (xs:=[]) hS))
 ·have e2:es2.size ≠ 0:=fun e=>z (by simpa [Array.isEmpty] using e)
  have n2:ks2 ≠ []:=fun e=>e2 (by rw [hl2,e]; rfl)
  refine wpAny_bind (room_fresh hS (by omega) fun h1 o' ep' t' sb1 ho' hx' hd' hf' hle hpl hdu F hn=>?_)
  refine wpAny_bind (wpAny_setState_of (s:={ s with heap:=h1 }) ho' hd' hf' ?_)
  dsimp only
  have f0:t'.fill = 0:=by unfold SetTable.fill; rw [fits_size hf',hdu]; rfl
  have hled2':t2.led = !byText w:=hled2
  cases rd:t'.road t2 with
  | oneByOne =>
   exfalso
   unfold SetTable.road at rd
   rw [f0] at rd
   rw [if_neg (by simp)] at rd
   split at rd <;> cases rd
  | slotForSlot =>
   refine wpAny_storeSet_of (s:={ s with heap:=h1 }) ho' hd' ?_ (fits_of_scanBound hbd2)
   refine h _ (sb1.trans (Heap.SameBut.update _ a _)) (fun z=>absurd z n2) ⟨_,es2,_,_,put_at ho' hd',hx',rfl,hel2,hp2,hbd2,hf2,?_,fun _=>?_⟩
   ·show (t'.led && t2.led) = !byText w
    rw [hle,hled2',Bool.and_self]
   ·show (t'.plain && t2.plain) = false
    rw [hpl2 e2,Bool.and_false]
  | clean =>
   obtain ⟨t3,order,el,pm,ps,du,mk,le,pl⟩:=laid_ok (mask:=t'.mask) (finger:=t'.finger) (moves:=t'.moves) (led:=t'.led && t2.led) (plain:=t'.plain && t2.plain) (hs:=es2.map (·.1)) F (by rw [Array.size_map]; omega)
   rw [Array.size_map] at pm ps
   obtain ⟨op,osz⟩:=order_perm pm
   dsimp only
   rw [el]
   refine wpAny_bind ?_
   wp_delta
   dsimp only
   rw [if_neg (by rw [osz]; simp)]
   refine wpAny_pure ?_
   refine wpAny_storeSet_of (s:={ s with heap:=h1 }) ho' hd' ?_ (by rw [osz]; exact fits_of_scanBound hbd2)
   refine h _ (sb1.trans (Heap.SameBut.update _ a _)) (fun z=>absurd z n2) ⟨_,_,_,t3,put_at ho' hd',hx',rfl,hel2.perm op,(op.map keyOf).trans hp2,by rw [osz]; exact hbd2,?_,?_,fun _=>?_⟩
   ·unfold SetTable.fits SetTable.fill
    rw [ps,du,osz,mk]
    simp
    omega
   ·rw [le,hle,hled2',Bool.and_self]
    rfl
   ·rw [pl,hpl2 e2,Bool.and_false]
end
end AxS
namespace AxS
open PySem PySem.Spec PyProof.Rows
theorem entry_or:entryFor table "set.__or__" = some Builtin.«frozenset.__or__» :=
 entryFor_alias (id':="frozenset.__or__") (by kernel_rfl) (by first | rfl | decide +kernel | (unfold String.splitOn; simp +decide [String.splitOnAux])) (by decide +kernel) (by kernel_rfl)
end AxS
namespace AxS
open PySem PySem.Spec PyProof.Rows
section
variable {prog:Program} {w:World} {A:Around} {E:Value -> Shared -> Prop} {s:Shared}
theorem jO {h:Heap} {a:Addr} {ks:List Str} {s:Shared} (x:TxSet prog w s.heap a ks):s.TypeIs (.ref a) "set":=by
 obtain ⟨o,es,ep,t,ho,hx,_⟩:=x
 exact ⟨o,ho,hx.1⟩
theorem any_set {a:Addr} {Q:Bool -> Shared -> Prop} (hT:s.TypeIs (.ref a) "set") (h:Q true s):wpAny (model prog w) A (Builtin.Frozenset.isAnySet (.ref a)) Q E s:=by
 unfold Builtin.Frozenset.isAnySet
 show wpAny _ _ (isInstance (.ref a) (.type "set") >>= _) _ _ _
 refine wpAny_bind (wpAny_isInstance hT sub_set_self ?_)
 exact wpAny_pure h
theorem tx_or {a b:Addr} {ks1 ks2:List Str} {Q:Value -> Shared -> Prop} (hS:TxSet prog w s.heap a ks1) (hO:TxSet prog w s.heap b ks2) (ne:a ≠ b) (hb:(ks1.length + ks2.length) * 2 < 256)
  (h:∀ h' d ks',(∀ x o,s.heap.get? x = some o -> h'.get? x = some o) -> TxSet prog w h' s.heap.objs.size ks' -> Both ks1 ks2 ks' -> Q (.ref s.heap.objs.size) { s with heap:=h',drawn:=d }) :
  wpAny (model prog w) A (call (.builtin "set.__or__") [.ref a,.ref b]) Q E s:=by
 have hTa:=jO (h:=s.heap) hS
 have hTb:=jO (h:=s.heap) hO
 refine wpAny_call_entry PySem.F.slot_set_or hTa entry_or ?_ (PySem.F.args_set_or_2 _ _)
 unfold Builtin.«frozenset.__or__»
 wp_delta
 refine wpAny_bind ?_
 show wpAny _ _ (pure (Value.ref a,Value.ref b)) _ _ _
 refine wpAny_pure ?_
 dsimp only
 refine wpAny_bind ?_
 show wpAny _ _ (Builtin.Frozenset.isAnySet (.ref a) >>= _) _ _ _
 refine wpAny_bind (any_set hTa ?_)
 show wpAny _ _ (Builtin.Frozenset.isAnySet (.ref b)) _ _ _
 refine any_set hTb ?_
 simp only [Bool.not_true,Bool.false_eq_true,↓reduceIte]
 refine wpAny_bind (wpAny_pure ?_)
 refine wpAny_bind ?_
 wp_delta
 refine wpAny_bind ?_
 unfold Builtin.Frozenset.copyOf Builtin.Frozenset.baseOf newSet
 refine wpAny_bind (wpAny_bind (wpAny_isInstance hTa sub_set_self (wpAny_pure ?_)))
 simp only [↓reduceIte]
 refine wpAny_bind (wpAny_bind (wp_byText ?_))
 simp only [newObj]
 refine wpAny_bind (wpAny_alloc (wpAny_pure ?_))
 have hP:(s.heap.push (zL w)).get? s.heap.objs.size = some (zL w):=Heap.get?_push_size _ rfl
 have kp:∀ x o,s.heap.get? x = some o -> (s.heap.push (zL w)).get? x = some o:=fun x o e=>Heap.get?_push_of_some _ e
 have la:a < s.heap.objs.size:=by obtain ⟨o,_,_,_,e,_⟩:=hS; exact Heap.lt_size e
 have lb:b < s.heap.objs.size:=by obtain ⟨o,_,_,_,e,_⟩:=hO; exact Heap.lt_size e
 refine wpAny_bind (wpAny_pure ?_)
 refine wpAny_bind ?_
 refine tx_copy (s:={ s with heap:=s.heap.push (zL w) }) hP (hS.at (kp a)) (Nat.ne_of_gt la) (by omega) fun h1 sb1 fr1 tx1=>?_
 have kp1:∀ x o,s.heap.get? x = some o -> h1.get? x = some o:=fun x o e=>(sb1.2 x (Nat.ne_of_lt (Heap.lt_size e))).trans (kp x o e)
 refine wpAny_pure ?_
 rw [if_pos (by simpa using fun z=>ne z.symm)]
 refine wpAny_bind (wpAny_pure ?_)
 refine wpAny_bind (wpAny_holding ?_)
 unfold Builtin.Frozenset.updateFrom
 have hTb1:Shared.TypeIs { s with heap:=h1 } (.ref b) "set":=jO (h:=h1) (hO.at (kp1 b))
 refine wpAny_bind (any_set (s:={ s with heap:=h1 }) hTb1 ?_)
 simp only [↓reduceIte]
 refine wpAny_bind (wpAny_pure ?_)
 unfold Builtin.Frozenset.merge
 obtain ⟨o2,es2,ep2,t2,ho2,hx2,hd2,X2⟩:=id (hO.at (kp1 b))
 have hf2:=X2.2.2.2.1
 refine wpAny_bind ?_
 unfold setEpoch
 refine wpAny_bind (wpAny_setState_of (s:={ s with heap:=h1 }) ho2 hd2 hf2 (wpAny_pure ?_))
 have nb:s.heap.objs.size ≠ b:=Nat.ne_of_gt lb
 have fin:∀ (h2:Heap) (d:Drawn) (ks:List Str),Heap.SameBut s.heap.objs.size h1 h2 -> TxSet prog w h2 s.heap.objs.size ks -> Both ks1 ks2 ks -> Q (.ref s.heap.objs.size) { s with heap:=h2,drawn:=d }:=fun h2 d ks sb tx bo =>
  h h2 d ks (fun x o e=>(sb.2 x (Nat.ne_of_lt (Heap.lt_size e))).trans (kp1 x o e)) tx bo
 by_cases e1:ks1 = []
 ·subst e1
  refine tx_copy (s:={ s with heap:=h1 }) (fr1 rfl) (hO.at (kp1 b)) nb (by omega) fun h2 sb2 _ tx2=>?_
  exact wpAny_pure (wpAny_pure ⟨_,rfl,fin h2 s.drawn ks2 sb2 tx2 ⟨fun x=>by simp,fun _ m=>m,by omega⟩⟩)
 ·refine tx_merge (s:={ s with heap:=h1 }) tx1 (hO.at (kp1 b)) nb e1 hb (fun s' Q' eb q=>?_) fun h2 d ks sb2 tx2 bo=>?_
  ·unfold Builtin.Frozenset.unchanged setEpoch
   refine wpAny_bind (wpAny_bind (wpAny_setState_of (s:=s') (show s'.heap.get? b = some o2 by rw [eb]; exact ho2) hd2 hf2 (wpAny_pure ?_)))
   refine wpAny_ite_split (fun z=>absurd z (by simp)) (fun _=>wpAny_pure q)
  ·exact wpAny_pure (wpAny_pure ⟨_,rfl,fin h2 d ks sb2 tx2 bo⟩)
end
end AxS
namespace L2
open PySem PySem.Spec PyProof.Rows AxS
section
variable {X:Cx}
def rOrS (P:Program) (w:World):R2:=fun x y H Q=>∃ (a b:Addr) (ks1 ks2:List Str),x = .ref a /\ y = .ref b /\ H a = some (TxHO P w a ks1) /\ H b = some (TxHO P w b ks2) /\ a ≠ b /\ (ks1.length + ks2.length) * 2 < 256 /\ ∀ p ks,H p = none -> Both ks1 ks2 ks -> Q (.ref p) (upd H p (TxHO P w p ks))
theorem op_orS:OpR X (binaryOp .BitOr) (rOrS X.prog X.w):=by
 intro pins s σ H x y v u Q I rx ry h
 obtain ⟨a,b,ks1,ks2,rfl,rfl,ha,hb,ne,n,q⟩:=h
 cases rx
 cases ry
 have hS:=txho_get (I.hok a _ ha)
 have hO:=txho_get (I.hok b _ hb)
 refine wpAny_binaryOp_same (op:=.BitOr) (jO (h:=s.heap) hS) (jO (h:=s.heap) hO) PySem.F.fills_set_or PySem.F.slot_set_or (tx_or hS hO ne n fun h' d ks' k tx bo=>⟨fun z=>(nomatch z),?_⟩)
 exact ⟨.ref s.heap.objs.size,_,(I.laid (o:=TxHO X.prog X.w s.heap.objs.size ks') (t':=s.toks) k (Nat.le_refl _) (txho_ok tx)).drew (d:=d),rfl,q _ ks' (I.hok.fresh (Nat.le_refl _)) bo⟩
end
end L2
namespace L2
open PySem PySem.Spec PyProof.Rows AxS
section
variable {X:Cx} {pins:List (Addr × Obj)} {σ:St} {H:Hp} {s:Shared} {d:Addr} {kvs:List (Key × V)}
theorem rd_at (I:Inv X pins σ H s) (e:Rd H d (.dK kvs)):∃ vs ep,KV kvs vs /\ s.heap.DictAt (mixKind X.prog X.w) d vs ep /\ (d == sysModules) = false /\ kvs.length <= sizeLine:=by
 obtain ⟨z,hd,vs,rel,o,es,ep,ho,hx,hdat,hk,hp,hnd⟩:=jT I.hok e
 exact ⟨vs,ep,rel,⟨o,es,ho,hx,hdat,hk,hp,hnd⟩,hd,z⟩
theorem paired_imp {α β:Type} {F G:α -> β -> Prop} (h:∀ a b,F a b -> G a b):∀ {l:List α} {m:List β},Paired F l m -> Paired G l m
 | _,_,.nil=>.nil
 | _,_,.cons r t=>.cons (h _ _ r) (paired_imp h t)
theorem ObjOk.thaw {P:Program} {w:World} {h:Heap} {b:Addr} {u:HO} {ob:Obj} {x:HO} (hd:H d = some (.frz ob x)) {y:HO} (ok:ObjOk P w H h b u):ObjOk P w (upd H d y) h b u:=by
 have keep:∀ {c:Addr} {z:HO},H c = some z -> (∀ o v,z ≠ .frz o v) -> upd H d y c = some z:=fun {c z} e n=>by
  rw [zF fun q=>by rw [q,hd] at e; exact n _ _ (Option.some.inj e).symm]
  exact e
 induction u generalizing b with
 | lst xs=>exact ok
 | tup xs=>exact ok
 | dK kvs=>exact ok
 | dT kvs =>
  obtain ⟨h1,h2,xs,hp,h3⟩:=ok
  exact ⟨h1,h2,xs,paired_imp (fun p q r=>⟨r.1,keep r.2.1 (fun o v z=>(nomatch z)),r.2.2⟩) hp,h3⟩
 | set S n=>exact ok
 | ins C dx fs=>exact ⟨keep ok.1 (fun o v z=>(nomatch z)),ok.2⟩
 | own x=>exact ok
 | xd fs=>exact ok
 | rng lo hi=>exact ok
 | frz o u ih=>exact ⟨ok.1,ih ok.2⟩
 | tbl ps=>exact ok
 | met f x=>exact ok
 | ext φ=>exact ok
theorem Inv.thaw {ob:Obj} (I:Inv X pins σ H s) (hd:H d = some (.frz ob (.dK kvs))) (n0:∀ o u,X.H₀ d ≠ some (.frz o u)):Inv X pins σ (upd H d (.dK kvs)) s:=by
 have ne:∀ {b:Addr},H b = none -> b ≠ d:=fun {b} e z=>by rw [z,hd] at e; cases e
 have nt:∀ {b:Addr} {z:HO},H b = some z -> (∀ o v,z ≠ .frz o v) -> b ≠ d:=fun {b z} e n q=>by rw [q,hd] at e; exact n _ _ (Option.some.inj e).symm
 refine ⟨I.ok,I.os,I.bare,⟨I.base.keep,I.base.slot,fun b o h1 h2 h3=>?_,I.base.there,fun b xs h1=>?_,fun b o u h1=>?_,fun b ps h1=>?_⟩,I.loc,I.cell,?_,fun x c h1=>?_,fun p hp=>?_,fun b u h1=>?_,I.len⟩
 ·have:=I.base.free b o h1 h2 h3
  rw [zF (ne this)]
  exact this
 ·have:=I.base.tups b xs h1
  rw [zF (nt this fun o v z=>(nomatch z))]
  exact this
 ·have:=I.base.frzs b o u h1
  rw [zF fun z=>n0 o u (by rw [← z]; exact h1)]
  exact this
 ·obtain ⟨more,this⟩:=I.base.tbls b ps h1
  exact ⟨more,by rw [zF (nt this fun o v z=>(nomatch z))]; exact this⟩
 ·rw [zF (ne I.free)]; exact I.free
 ·have:=I.freeC x c h1
  rw [zF (ne this)]; exact this
 ·obtain ⟨a1,a2,a3⟩:=I.pin p hp
  exact ⟨a1,by rw [zF (ne a2)]; exact a2,a3⟩
 ·by_cases z:b = d
  ·rw [z,upd_same] at h1
   cases h1
   rw [z]
   exact (I.hok d _ hd).2
  ·rw [zF z] at h1
   exact (I.hok b u h1).thaw hd
end
section
variable {X:Cx} {tg:Expr}
def tThaw (H₀:Hp) (t:TE):TE:=fun σ H Q=>t σ H fun v H1=>∃ d ob kvs,H1 d = some (.frz ob (.dK kvs)) /\ (∀ o u,H₀ d ≠ some (.frz o u)) /\ Q v (upd H1 d (.dK kvs))
theorem qD {e:Expr} {t:TE} (h:PE X e t):PE X e (tThaw X.H₀ t):=by
 intro pins s σ H Q I q
 refine thn (h pins s σ H _ I q) fun v s1 ⟨x,H1,I1,r,d,ob,kvs,hd,n0,q⟩=>?_
 exact ⟨x,_,I1.thaw hd n0,r,q⟩
def rListR:List V -> Hp -> VK -> Prop:=fun xs H Q=>∃ a kvs,xs = [.ref a] /\ Rd H a (.dK kvs) /\ ∀ l,H l = none -> Q (.ref l) (upd H l (.lst (kvs.map fun kv=>kV kv.1)))
theorem yO (hc:X.calm = true):CallR X (.type "list") rListR:=by
 intro pins s σ H xs us Q I r h
 obtain ⟨a,kvs,rfl,ha,q⟩:=h
 obtain ⟨u,rfl,ru⟩:=vals1 r
 cases ru
 obtain ⟨vs,ep,rel,da,hS,hz⟩:=rd_at I ha
 have hlen:kvs.length = vs.length:=Paired.length rel
 refine PySem.W.kdl_call (PySem.W.kdl_dict (knd:=mixKind X.prog X.w) (kvs:=vs) (ep:=ep) hS) (I.ok.hd hc) da (by omega) fun h' tk acc c hkp hl hacc=>?_
 have rv:Vals (kvs.map fun kv=>kV kv.1) acc.toList:=vals_keys rel (by rw [Array.length_toList]; exact hacc.1) fun j v e=>hacc.2 j v (by rw [← Array.getElem?_toList]; exact e)
 exact ⟨.ref s.heap.objs.size,_,I.laid (t':=tk) hkp (Nat.le_refl _) (show ObjOk X.prog X.w _ h' _ (.lst (kvs.map fun kv=>kV kv.1)) from ⟨by rw [List.length_map]; exact hz,acc.toList,c,rv,hl⟩),rfl,q _ (I.hok.fresh (Nat.le_refl _))⟩
def rDictR:List V -> Hp -> VK -> Prop:=fun xs H Q=>∃ a kvs,xs = [.ref a] /\ Rd H a (.dK kvs) /\ ∀ l,H l = none -> Q (.ref l) (upd H l (.dK kvs))
theorem xZ:CallR X (.type "dict") rDictR:=by
 intro pins s σ H xs us Q I r h
 obtain ⟨a,kvs,rfl,ha,q⟩:=h
 obtain ⟨u,rfl,ru⟩:=vals1 r
 cases ru
 exact d_copyOf I ha fun p s' hp I'=>⟨.ref p,_,I',rfl,q p hp⟩
def keyS (kv:Key × V):Str:=match kv.1 with
 | .inr x=>x
 | .inl _=>""
def AllS (kvs:List (Key × V)):Prop:=∀ kv ∈ kvs,kv.1 = .inr (keyS kv)
theorem keys_texts {P:Program} {w:World} {kvs:List (Key × V)} {vs:List (Key × Value)} {us:List Value} (al:AllS kvs) (rel:KV kvs vs) (hl:us.length = vs.length) (hm:∀ (j:Nat) (v:Value),us[j]? = some v -> ∃ k x,vs[j]? = some (k,x) /\ (mixKind P w).is k v = true):yS us (kvs.map keyS):=by
 have hlen:kvs.length = vs.length:=Paired.length rel
 refine ⟨by rw [List.length_map]; omega,fun i v e=>?_⟩
 obtain ⟨k,x,e1,hk⟩:=hm i v e
 obtain ⟨p,ep,ekk,_⟩:=qO rel e1
 have ekk:p.1 = k:=ekk
 have ap:=al p (List.mem_of_getElem? ep)
 rw [← ekk,ap] at hk
 obtain ⟨t,et⟩:=Value.isStrOf_shape (show Value.isStrOf (keyS p) v = true from hk)
 exact ⟨keyS p,t,by rw [List.getElem?_map,ep]; rfl,et⟩
def rSortedR:List V -> Hp -> VK -> Prop:=fun xs H Q=>∃ a kvs,xs = [.ref a] /\ Rd H a (.dK kvs) /\ AllS kvs /\ kvs.length < 64 /\ ∀ l ss,H l = none -> ss.Perm (kvs.map keyS) -> sortedS ss = true -> Q (.ref l) (upd H l (.lst (ss.map V.str)))
theorem jE (hc:X.calm = true):CallR X (.builtin "sorted") rSortedR:=by
 intro pins s σ H xs us Q I r h
 obtain ⟨a,kvs,rfl,ha,al,h64,q⟩:=h
 obtain ⟨u,rfl,ru⟩:=vals1 r
 cases ru
 obtain ⟨vs,ep,rel,da,hS,hz⟩:=rd_at I ha
 have hlen:kvs.length = vs.length:=Paired.length rel
 refine Calls.call_function_entry kind_sorted plain_sorted entry_sorted (args_sorted1 _) ?_
 unfold Builtin.«sorted»
 refine wpAny_bind (m:=checkCount "sorted" 1 1 _) (wpAny_pure ?_)
 refine wpAny_bind (PySem.W.kdu_collect (A:=X.A.in1) (PySem.W.kdl_dict (knd:=mixKind X.prog X.w) (kvs:=vs) (ep:=ep) hS) (I.ok.hd hc) da (by omega) fun h' tk acc0 hkp hacc=>?_)
 have tx:yS acc0.toList (kvs.map keyS):=keys_texts al rel (by rw [Array.length_toList]; exact hacc.1) fun j v e=>hacc.2 j v (by rw [← Array.getElem?_toList]; exact e)
 generalize acc0.toList = acc at tx ⊢
 have hstr:=strs_of tx
 have hal:acc.length < 64:=by rw [tx.1,List.length_map]; exact h64
 have hline:64 <= sizeLine:=by rw [sizeLine_eq]; decide
 refine wpAny_bind (wpAny_newList ?_ (by omega))
 have hoL:(h'.push (seqObj "list" acc.toArray 0)).get? h'.objs.size = some (seqObj "list" acc.toArray 0):=Heap.get?_push_size _ rfl
 refine wpAny_bind (wpAny_holding (wpAny_call_entry slot_list_sort ⟨_,hoL,rfl⟩ entry_list_sort (list_sort_treeK strKind_oneLt hoL hstr.keysOf (fun v₁ v₂ rest e=>keyKind_strs (by rw [← e]; exact hstr)) (by omega) fun st' a1 a2=>⟨_,rfl,?_⟩) (args_list_sort _)))
 obtain ⟨ss',b1,b2,b3⟩:=sorted_out_str hstr a1 a2
 refine wpAny_pure ⟨_,rfl,?_⟩
 obtain ⟨e,he⟩:=sortedHeap_at (out:=(arrOf st').map (·.2)) hoL
 have nl:=vals_strs b1
 have I1:Inv X pins σ H { s with heap:=h',toks:=tk }:=I.kept (t':=tk) hkp
 have kp2:∀ b ob,h'.get? b = some ob -> (sortedHeap (h'.push (seqObj "list" acc.toArray 0)) h'.objs.size acc ((arrOf st').map (·.2))).get? b = some ob:=fun b ob q1=>by
  have hb:b < h'.objs.size:=Heap.lt_size q1
  rw [sortedHeap_old (Nat.ne_of_lt hb) (by rw [Heap.size_push]; exact Nat.lt_succ_of_lt hb)]
  exact Heap.get?_push_of_some _ q1
 have fr:H h'.objs.size = none:=I1.hok.fresh (Nat.le_refl _)
 have hz2:(ss'.map V.str).length <= sizeLine:=by
  have:=b2.length_eq
  rw [List.length_map] at this ⊢
  omega
 exact ⟨.ref h'.objs.size,_,I1.laid (o:=.lst (ss'.map V.str)) (t':=tk) kp2 (Nat.le_refl _) ⟨hz2,_,e,nl,he⟩,rfl,q _ ss' fr b2 b3⟩
def putAll (kvs more:List (Key × V)):List (Key × V):=more.foldl (fun acc kv=>putK acc kv.1 kv.2) kvs
theorem KV.putAll:∀ {more:List (Key × V)} {um:List (Key × Value)} {kvs:List (Key × V)} {vs:List (Key × Value)},KV kvs vs -> KV more um -> KV (putAll kvs more) (merged vs um)
 | [],_,_,_,r,.nil=>r
 | p :: more,q :: um,kvs,vs,r,.cons h t=>by
  have e:p.1 = q.1:=h.1
  have:=KV.putAll (kvs:=putK kvs p.1 p.2) (vs:=stored vs q.1 q.2) (by rw [← e]; exact r.put p.1 h.2) t
  exact this
theorem xQ:∀ (more kvs:List (Key × V)),(putAll kvs more).length <= kvs.length + more.length
 | [],kvs=>Nat.le_refl _
 | p :: more,kvs=>by
  have:=xQ more (putK kvs p.1 p.2)
  have:=xO kvs p.1 p.2
  show (putAll (putK kvs p.1 p.2) more).length <= _
  rw [List.length_cons]
  omega
def tDUpd (td ty:TE):TE:=fun σ H Q=>td σ H fun x H1=>∃ a,x = .ref a /\ IsD H1 a /\ ty σ H1 fun y H2=>∃ b kvs more,y = .ref b /\ a ≠ b /\ H2 a = some (.dK kvs) /\ Rd H2 b (.dK more) /\ kvs.length + more.length <= sizeLine /\ Q .non (upd H2 a (.dK (putAll kvs more)))
theorem pe_dupd {o e:Expr} {apos cpos:Pos} {td ty:TE} (ho:PE X o td) (he:PE X e ty) (m:M1 X o "update" apos e cpos):PE X (.Call (.Attribute o "update" apos) [e] [] cpos) (tDUpd td ty):=by
 intro pins s σ H Q I h
 refine wpAny_Call_method m.base m.few m.line PySem.F.plainAttrs_dict PySem.F.slot_dict_update PySem.F.type_dict_update (thn (ho pins s σ H _ I h) fun u s1 ⟨x,H1,I1,rx,a,ex,d,q1⟩=>?_)
 subst ex
 obtain rfl:u = Value.ref a:=rx
 obtain ⟨t1,t2,_⟩:=isD_at I1 d
 refine ⟨t1,t2,?_⟩
 rw [m.trees]
 refine Calls.callWith_builtin rfl (Calls.evalArgs_plain (Calls.spliced_cons (thn (he pins s1 σ H1 _ I1 q1) fun iv s2 ⟨y,H2,I2,ry,b,kvs,more,ey,ne,ea,eb,hz,q2⟩=>Calls.spliced_nil ?_)))
 subst ey
 cases ry
 obtain ⟨z,hd,vs,rel,dd⟩:=dk_of I2.hok ea
 obtain ⟨z2,hd2,um,rel2,dd2⟩:=jT I2.hok eb
 refine call_meetsIn PySem.F.slot_dict_update dd.typeIs PySem.F.entry_dict_update (PySem.F.args_dict_update_2 _ _) (meets_dict_update (mixKind X.prog X.w) a b ne hd2)
  ⟨vs,um,dd,dd2,by rw [← rel.length,← rel2.length]; exact hz,fun h' dd' _ hs=>⟨.non,_,?_,rfl,q2⟩⟩
 have hex:∃ q,h'.get? a = some q:=let ⟨q,_,_,hq,_⟩:=dd'; ⟨q,hq⟩
 exact d_write I2 (by rw [ea]; exact True.intro) hs hex (dk_new (Nat.le_trans (xQ more kvs) hz) hd (rel.putAll rel2) dd')
end
end L2
namespace L2
open PySem PySem.Spec PyProof.Rows
section
variable {prog:Program} {w:World} {A:Around} {s:Shared}
def EqW (prog:Program) (w:World) (A:Around) (s:Shared) (u v:Value):Prop:=∀ (E:Value -> Shared -> Prop) (Q:Bool -> Shared -> Prop),Q true s -> wpAny (model prog w) A (eqBool u v) Q E s
theorem EqW.self (u:Value):EqW prog w A s u u:=fun E Q q=>SeqAt.EqAt.same u prog w E Q q
theorem EqW.refs {p q:Addr} (ne:p ≠ q) (h:∀ (E:Value -> Shared -> Prop) (Q:Value -> Shared -> Prop),Q (.bool true) s -> wpAny (model prog w) A (richCompare .Eq (.ref p) (.ref q)) Q E s):EqW prog w A s (.ref p) (.ref q):=fun E Q k=>by
 unfold eqBool
 refine wpAny_holding (wpAny_ite_split (fun z=>?_) fun _=>wpAny_bind (h E _ (wpAny_truthy_bool k)))
 have:=eq_of_beq z
 injection this with this
 exact absurd this ne
theorem lists_alike {p q:Addr} {us vs:Array Value} {n m code:Nat} {d1 d2:Option Addr} {l1 l2:Array (Option Value)} {R:Result -> Shared -> Prop} (hc:code = 2 \/ code = 3) (hp:s.heap.get? p = some { cls:=.type "list",dict:=d1,data:=.seq us n,slots:=l1 }) (hq:s.heap.get? q = some { cls:=.type "list",dict:=d2,data:=.seq vs m,slots:=l2 }) (sz:us.size = vs.size)
  (al:∀ j (h1:j < us.size) (h2:j < vs.size),EqW prog w A.in1 s us[j] vs[j]) (k:R (.ok (.ret (.bool (code == 2)))) s) :
  ∀ (left i:Nat),us.size - i = left -> codeAny (model prog w) A (.builtin "list.__eq__.loop" ⟨[.ref p,.ref q,rawInt i,rawInt code],[]⟩) R s:=by
 intro left
 induction left with
 | zero =>
  intro i hi
  refine codeAny_builtin MeetsSeq3.entry_eq_loop ?_
  rw [Around.under_plainId MeetsSeq3.plain_eq_loop _]
  obtain ⟨hh,g,d,tk,os⟩:=s
  have e1:us[((i:Nat):Int).toNat]? = none:=by simp; omega
  have e2:vs[((i:Nat):Int).toNat]? = none:=by simp; omega
  have ec:(us.size == vs.size) = true:=by rw [sz]; exact beq_self_eq_true _
  have en:(us.size != vs.size) = false:=by rw [sz]; simp
  rcases hc with rfl | rfl
  ·wp_walk using AutoSeq1.wpAny_loadPart' hp,AutoSeq1.wpAny_loadPart' hq
   rw [e1,e2]
   wp_walk using AutoSeq1.wpAny_loadPart' hp,AutoSeq1.wpAny_loadPart' hq
   show R (.ok (.ret (.bool (us.size == vs.size)))) _
   rw [ec]
   exact k
  ·wp_walk using AutoSeq1.wpAny_loadPart' hp,AutoSeq1.wpAny_loadPart' hq
   rw [e1,e2]
   wp_walk using AutoSeq1.wpAny_loadPart' hp,AutoSeq1.wpAny_loadPart' hq
   show R (.ok (.ret (.bool (us.size != vs.size)))) _
   rw [en]
   exact k
 | succ left ih =>
  intro i hi
  have h1:i < us.size:=by omega
  have h2:i < vs.size:=by omega
  have step:=ih (i + 1) (by omega)
  refine codeAny_builtin MeetsSeq3.entry_eq_loop ?_
  rw [Around.under_plainId MeetsSeq3.plain_eq_loop _]
  obtain ⟨hh,g,d,tk,os⟩:=s
  have e1:us[((i:Nat):Int).toNat]? = some us[i]:=by simp [h1]
  have e2:vs[((i:Nat):Int).toNat]? = some vs[i]:=by simp [h2]
  have ei:((i:Int) + 1) = ((i + 1:Nat):Int):=by push_cast; rfl
  have one:=al i h1 h2
  rcases hc with rfl | rfl
  ·wp_walk using AutoSeq1.wpAny_loadPart' hp,AutoSeq1.wpAny_loadPart' hq
   rw [e1,e2]
   refine wpAny_bind (one _ _ ?_)
   wp_walk
   rw [ei]
   exact ⟨plainId_quiet MeetsSeq3.plain_eq_loop _,step⟩
  ·wp_walk using AutoSeq1.wpAny_loadPart' hp,AutoSeq1.wpAny_loadPart' hq
   rw [e1,e2]
   refine wpAny_bind (one _ _ ?_)
   wp_walk
   rw [ei]
   exact ⟨plainId_quiet MeetsSeq3.plain_eq_loop _,step⟩
theorem list_meets {p q:Addr} {us vs:Array Value} {n m:Nat} {d1 d2:Option Addr} {l1 l2:Array (Option Value)} (sz:us.size = vs.size) :
  MeetsIn prog w (Builtin.«list.__eq__» ⟨[.ref p,.ref q],[]⟩) (fun A R s=>s.heap.get? p = some { cls:=.type "list",dict:=d1,data:=.seq us n,slots:=l1 } /\ s.heap.get? q = some { cls:=.type "list",dict:=d2,data:=.seq vs m,slots:=l2 } /\ (∀ j (h1:j < us.size) (h2:j < vs.size),EqW prog w A.in1 s us[j] vs[j]) /\ R (.ok (.ret (.bool true))) s):=by
 intro A R s ⟨hp,hq,al,k⟩
 have lp:=lists_alike (code:=2) (.inl rfl) hp hq sz al k _ 0 rfl
 obtain ⟨hh,g,d,tk,os⟩:=s
 have sub:=AutoSeq1.sub_list_list
 have ne:¬ (us.size != vs.size) = true:=by simp [sz]
 wp_walk using AutoSeq1.wpAny_loadPart' hp,AutoSeq1.wpAny_loadPart' hq
 exact ⟨plainId_quiet MeetsSeq3.plain_eq_loop _,lp⟩
theorem list_meetsN {p q:Addr} {us vs:Array Value} {n m:Nat} {d1 d2:Option Addr} {l1 l2:Array (Option Value)} (sz:us.size = vs.size) :
  MeetsIn prog w (Builtin.«list.__ne__» ⟨[.ref p,.ref q],[]⟩) (fun A R s=>s.heap.get? p = some { cls:=.type "list",dict:=d1,data:=.seq us n,slots:=l1 } /\ s.heap.get? q = some { cls:=.type "list",dict:=d2,data:=.seq vs m,slots:=l2 } /\ (∀ j (h1:j < us.size) (h2:j < vs.size),EqW prog w A.in1 s us[j] vs[j]) /\ R (.ok (.ret (.bool false))) s):=by
 intro A R s ⟨hp,hq,al,k⟩
 have lp:=lists_alike (code:=3) (.inr rfl) hp hq sz al k _ 0 rfl
 obtain ⟨hh,g,d,tk,os⟩:=s
 have sub:=AutoSeq1.sub_list_list
 have ne:¬ (us.size != vs.size) = true:=by simp [sz]
 wp_walk using AutoSeq1.wpAny_loadPart' hp,AutoSeq1.wpAny_loadPart' hq
 exact ⟨plainId_quiet MeetsSeq3.plain_eq_loop _,lp⟩
structure EqS (prog:Program) (w:World) (A:Around) (s:Shared) (u v:Value):Prop where
 eq:EqW prog w A s u v
 rc:∀ (E:Value -> Shared -> Prop) (Q:Value -> Shared -> Prop),Q (.bool true) s -> wpAny (model prog w) A (richCompare .Eq u v) Q E s
 ne:∀ (E:Value -> Shared -> Prop) (Q:Value -> Shared -> Prop),Q (.bool false) s -> wpAny (model prog w) A (richCompare .NotEq u v) Q E s
theorem EqS.of {p q:Addr} (rc:∀ (E:Value -> Shared -> Prop) (Q:Value -> Shared -> Prop),Q (.bool true) s -> wpAny (model prog w) A (richCompare .Eq (.ref p) (.ref q)) Q E s) (ne:∀ (E:Value -> Shared -> Prop) (Q:Value -> Shared -> Prop),Q (.bool false) s -> wpAny (model prog w) A (richCompare .NotEq (.ref p) (.ref q)) Q E s):EqS prog w A s (.ref p) (.ref q):=by
 refine ⟨?_,rc,ne⟩
 by_cases z:p = q
 ·subst z; exact EqW.self _
 ·exact EqW.refs z rc
theorem EqS.lists {p q:Addr} {us vs:Array Value} (hp:s.heap.IsList p us) (hq:s.heap.IsList q vs) (sz:us.size = vs.size) (hu:A.units < cLine) (al:∀ j (h1:j < us.size) (h2:j < vs.size),EqW prog w A.in1 s us[j] vs[j]):EqS prog w A s (.ref p) (.ref q):=by
 obtain ⟨⟨c1,d1,da1,l1⟩,ho1,hc1,n,hd1⟩:=id hp
 obtain ⟨⟨c2,d2,da2,l2⟩,ho2,hc2,m,hd2⟩:=id hq
 simp only at hc1 hd1 hc2 hd2
 subst hc1 hd1 hc2 hd2
 exact .of (fun E Q k=>wpAny_richCompare_same_room (op:=.Eq) ⟨_,ho1,rfl⟩ ⟨_,ho2,rfl⟩ F.slot_list_eq (call_meetsIn F.slot_list_eq ⟨_,ho1,rfl⟩ F.entry_list_eq (F.args_list_eq_2 _ _) (list_meets sz) ⟨ho1,ho2,al,⟨fun z=>(nomatch z),k⟩⟩) hu)
  fun E Q k=>wpAny_richCompare_same_room (op:=.NotEq) ⟨_,ho1,rfl⟩ ⟨_,ho2,rfl⟩ F.slot_list_ne (call_meetsIn F.slot_list_ne ⟨_,ho1,rfl⟩ F.entry_list_ne (F.args_list_ne_2 _ _) (list_meetsN sz) ⟨ho1,ho2,al,⟨fun z=>(nomatch z),k⟩⟩) hu
theorem zip_get {us vs:Array Value} (sz:us.size = vs.size) {i:Nat} {u v:Value} {rest:List (Value × Value)} (h:(u,v) :: rest = (us.toList.zip vs.toList).drop i):∃ (h1:i < us.size) (h2:i < vs.size),u = us[i] /\ v = vs[i] /\ rest = (us.toList.zip vs.toList).drop (i + 1):=by
 have zl:(us.toList.zip vs.toList).length = us.size:=by rw [List.length_zip,Array.length_toList,Array.length_toList]; omega
 have hi:i < (us.toList.zip vs.toList).length:=by
  rcases Nat.lt_or_ge i (us.toList.zip vs.toList).length with z | z
  ·exact z
  ·rw [List.drop_of_length_le z] at h; cases h
 rw [List.drop_eq_getElem_cons hi] at h
 injection h with e1 e2
 refine ⟨by omega,by omega,?_,?_,e2⟩
 ·have:=congrArg Prod.fst e1
  simpa using this
 ·have:=congrArg Prod.snd e1
  simpa using this
theorem tuple_meets {p q:Addr} {us vs:Array Value} {n m:Nat} {d1 d2:Option Addr} {l1 l2:Array (Option Value)} (sz:us.size = vs.size) :
  MeetsIn prog w (Builtin.«tuple.__eq__» ⟨[.ref p,.ref q],[]⟩) (fun A R s=>s.heap.get? p = some { cls:=.type "tuple",dict:=d1,data:=.seq us n,slots:=l1 } /\ s.heap.get? q = some { cls:=.type "tuple",dict:=d2,data:=.seq vs m,slots:=l2 } /\ (∀ j (h1:j < us.size) (h2:j < vs.size),EqW prog w A.in1 s us[j] vs[j]) /\ R (.ok (.ret (.bool true))) s) :=
 .of_wp fun A R s ⟨hp,hq,al,k⟩=>by
  obtain ⟨hh,g,d,tk,os⟩:=s
  have sub:=AutoSeq1.sub_tuple_tuple
  wp_walk using AutoSeq1.wpAny_loadPart' hp,AutoSeq1.wpAny_loadPart' hq,wpAny_forIn_list _ (fun rest b s'=>b.1 = none /\ s' = ⟨hh,g,d,tk,os⟩ /\ ∃ i,rest = (us.toList.zip vs.toList).drop i) _
  case turn =>
   rintro ⟨u,v⟩ rest b s' ⟨hb,rfl,i,hz⟩
   obtain ⟨h1,h2,rfl,rfl,er⟩:=zip_get sz hz
   refine wpAny_bind (al i h1 h2 _ _ ?_)
   wp_walk
   exact ⟨rfl,rfl,i + 1,er⟩
  case fin =>
   rintro ⟨b1,b2⟩ s' ⟨hb,rfl,i,hz⟩
   simp only at hb
   subst hb
   wp_walk
   exact ⟨_,rfl,by simpa [Builtin.Tuple.tupleCompareSizes,sz] using k⟩
  case h=>exact ⟨rfl,rfl,0,rfl⟩
theorem tuple_meetsN {p q:Addr} {us vs:Array Value} {n m:Nat} {d1 d2:Option Addr} {l1 l2:Array (Option Value)} (sz:us.size = vs.size) :
  MeetsIn prog w (Builtin.«tuple.__ne__» ⟨[.ref p,.ref q],[]⟩) (fun A R s=>s.heap.get? p = some { cls:=.type "tuple",dict:=d1,data:=.seq us n,slots:=l1 } /\ s.heap.get? q = some { cls:=.type "tuple",dict:=d2,data:=.seq vs m,slots:=l2 } /\ (∀ j (h1:j < us.size) (h2:j < vs.size),EqW prog w A.in1 s us[j] vs[j]) /\ R (.ok (.ret (.bool false))) s) :=
 .of_wp fun A R s ⟨hp,hq,al,k⟩=>by
  obtain ⟨hh,g,d,tk,os⟩:=s
  have sub:=AutoSeq1.sub_tuple_tuple
  wp_walk using AutoSeq1.wpAny_loadPart' hp,AutoSeq1.wpAny_loadPart' hq,wpAny_forIn_list _ (fun rest b s'=>b.1 = none /\ s' = ⟨hh,g,d,tk,os⟩ /\ ∃ i,rest = (us.toList.zip vs.toList).drop i) _
  case turn =>
   rintro ⟨u,v⟩ rest b s' ⟨hb,rfl,i,hz⟩
   obtain ⟨h1,h2,rfl,rfl,er⟩:=zip_get sz hz
   refine wpAny_bind (al i h1 h2 _ _ ?_)
   wp_walk
   exact ⟨rfl,rfl,i + 1,er⟩
  case fin =>
   rintro ⟨b1,b2⟩ s' ⟨hb,rfl,i,hz⟩
   simp only at hb
   subst hb
   wp_walk
   exact ⟨_,rfl,by simpa [Builtin.Tuple.tupleCompareSizes,sz] using k⟩
  case h=>exact ⟨rfl,rfl,0,rfl⟩
theorem EqS.tuples {p q:Addr} {us vs:Array Value} (hp:s.heap.IsTuple p us) (hq:s.heap.IsTuple q vs) (sz:us.size = vs.size) (hu:A.units < cLine) (al:∀ j (h1:j < us.size) (h2:j < vs.size),EqW prog w A.in1 s us[j] vs[j]):EqS prog w A s (.ref p) (.ref q):=by
 obtain ⟨⟨c1,d1,da1,l1⟩,ho1,hc1,n,hd1⟩:=id hp
 obtain ⟨⟨c2,d2,da2,l2⟩,ho2,hc2,m,hd2⟩:=id hq
 simp only at hc1 hd1 hc2 hd2
 subst hc1 hd1 hc2 hd2
 exact .of (fun E Q k=>wpAny_richCompare_same_room (op:=.Eq) ⟨_,ho1,rfl⟩ ⟨_,ho2,rfl⟩ F.slot_tuple_eq (call_meetsIn F.slot_tuple_eq ⟨_,ho1,rfl⟩ F.entry_tuple_eq (F.args_tuple_eq_2 _ _) (tuple_meets sz) ⟨ho1,ho2,al,⟨fun z=>(nomatch z),k⟩⟩) hu)
  fun E Q k=>wpAny_richCompare_same_room (op:=.NotEq) ⟨_,ho1,rfl⟩ ⟨_,ho2,rfl⟩ F.slot_tuple_ne (call_meetsIn F.slot_tuple_ne ⟨_,ho1,rfl⟩ F.entry_tuple_ne (F.args_tuple_ne_2 _ _) (tuple_meetsN sz) ⟨ho1,ho2,al,⟨fun z=>(nomatch z),k⟩⟩) hu
end
def EqT (K:PySem.W.Frag) (n:Nat) (H:Hp) (x y:V):Prop:=∀ (X:Cx) (pins:List (Addr × Obj)) (σ:St) (s:Shared) (A:Around),X.K = K -> Inv X pins σ H s -> A.units + n < cLine -> ∀ u v,RelV x u -> RelV y v -> EqS X.prog X.w A s u v
theorem EqT.more {K:PySem.W.Frag} {n m:Nat} {H:Hp} {x y:V} (h:EqT K n H x y) (l:n <= m):EqT K m H x y:=fun X pins σ s A k I hu u v ru rv=>h X pins σ s A k I (by omega) u v ru rv
theorem EqT.data {K:PySem.W.Frag} {H:Hp} {x y:V} {d e:PyData} (h1:Dt K H d x) (h2:Dt K H e y) (s1:SeqAt.shaped d = true) (s2:SeqAt.shaped e = true) (q:PyData.eqv d e = true):EqT K 64 H x y:=fun X pins σ s A k I hu u v ru rv=>by
 subst k
 obtain ⟨as,r1⟩:=Dt.reads I d x u h1 ru
 obtain ⟨bs,r2⟩:=Dt.reads I e y v h2 rv
 refine ⟨fun E Q hq=>?_,fun E Q hq=>SeqAt.compareEq_shaped r1 r2 s1 s2 hu (by rw [q]; exact hq),fun E Q hq=>SeqAt.compareNe_shaped r1 r2 s1 s2 hu (by rw [q]; exact hq)⟩
 have:=SeqAt.eqAt_reads d e A s u v as bs r1 r2 (SeqAt.canLay_of_shaped s1) (SeqAt.canLay_of_shaped s2) (SeqAt.room_of_shaped s1 hu)
 rw [q] at this
 exact this _ _ E Q hq
theorem vals_at {xs:List V} {us:List Value} (r:Vals xs us) {i:Nat} (h:i < us.length):∃ x,xs[i]? = some x /\ RelV x us[i]:=by
 have hx:i < xs.length:=by rw [r.length]; exact h
 obtain ⟨u,hu,ru⟩:=r.get (List.getElem?_eq_getElem hx)
 rw [List.getElem?_eq_getElem h] at hu
 cases hu
 exact ⟨_,List.getElem?_eq_getElem hx,ru⟩
theorem EqT.tup {K:PySem.W.Frag} {n:Nat} {H:Hp} {a b:Addr} {xs ys:List V} (ha:SqT K H a xs) (hb:SqT K H b ys) (hl:xs.length = ys.length) (h:∀ (i:Nat) (x y:V),xs[i]? = some x -> ys[i]? = some y -> EqT K n H x y):EqT K (n + 1) H (.ref a) (.ref b):=fun X pins σ s A k I hu u v ru rv=>by
 subst k
 cases ru
 cases rv
 obtain ⟨ua,ra,ta,_⟩:=I.tuple ha
 obtain ⟨ub,rb,tb,_⟩:=I.tuple hb
 have la:=ra.length
 have lb:=rb.length
 refine EqS.tuples ta tb (by rw [List.size_toArray,List.size_toArray]; omega) (by omega) fun j h1 h2=>?_
 rw [List.size_toArray] at h1 h2
 obtain ⟨x,ex,rx⟩:=vals_at ra h1
 obtain ⟨y,ey,ry⟩:=vals_at rb h2
 exact (h j x y ex ey X pins σ s A.in1 rfl I (by show A.units + 1 + n < cLine; omega) _ _ rx ry).eq
theorem EqT.lst {K:PySem.W.Frag} {n:Nat} {H:Hp} {a b:Addr} {xs ys:List V} (ha:SqL K H a xs) (hb:SqL K H b ys) (hl:xs.length = ys.length) (h:∀ (i:Nat) (x y:V),xs[i]? = some x -> ys[i]? = some y -> EqT K n H x y):EqT K (n + 1) H (.ref a) (.ref b):=fun X pins σ s A k I hu u v ru rv=>by
 subst k
 cases ru
 cases rv
 obtain ⟨ua,ra,ta,_⟩:=I.list ha
 obtain ⟨ub,rb,tb,_⟩:=I.list hb
 have la:=ra.length
 have lb:=rb.length
 refine EqS.lists ta.isList tb.isList (by rw [List.size_toArray,List.size_toArray]; omega) (by omega) fun j h1 h2=>?_
 rw [List.size_toArray] at h1 h2
 obtain ⟨x,ex,rx⟩:=vals_at ra h1
 obtain ⟨y,ey,ry⟩:=vals_at rb h2
 exact (h j x y ex ey X pins σ s A.in1 rfl I (by show A.units + 1 + n < cLine; omega) _ _ rx ry).eq
def Vals2 (K:PySem.W.Frag) (H:Hp) (kb ka:List (Key × V)):Prop:=∀ kv ∈ ka,∃ y d e,valV kb kv.1 = some y /\ Dt K H d kv.2 /\ Dt K H e y /\ SeqAt.shaped d = true /\ SeqAt.shaped e = true /\ PyData.eqv d e = true
theorem keq_all {X:Cx} {pins:List (Addr × Obj)} {σ:St} {H:Hp} {s:Shared} {A:Around} (I:Inv X pins σ H s) (hu:A.in1.units + 64 < cLine) {kb:List (Key × V)} {ub:List (Key × Value)} (rb:KV kb ub) :
  ∀ {ka:List (Key × V)} {ua:List (Key × Value)},KV ka ua -> Vals2 X.K H kb ka -> PySem.W.KeqHits A.in1 s ub ua true
 | [],_,.nil,_=>.nil
 | p :: ka,q :: ua,.cons r1 r2,h=>by
  obtain ⟨y,d,e,hy,d1,d2,s1,s2,qe⟩:=h p (List.mem_cons_self ..)
  have e1:p.1 = q.1:=r1.1
  have rel:=rb.val p.1
  rw [hy] at rel
  cases ev:valueAt ub p.1 with
  | none=>rw [ev] at rel; exact rel.elim
  | some v =>
   rw [ev] at rel
   obtain ⟨as,q1⟩:=Dt.reads I _ _ _ d1 r1.2
   obtain ⟨bs,q2⟩:=Dt.reads I _ _ _ d2 rel
   have kk:=PySem.W.keq_at (A:=A) q1 q2 s1 s2 hu
   rw [qe] at kk
   exact PySem.W.KeqHits.hit (k:=q.1) (v:=q.2) (e1 ▸ ev) kk (keq_all I hu rb r2 fun kv hkv=>h kv (List.mem_cons_of_mem _ hkv))
theorem EqT.dic {K:PySem.W.Frag} {H:Hp} {a b:Addr} {ka kb:List (Key × V)} (ha:Rd H a (.dK ka)) (hb:Rd H b (.dK kb)) (hl:ka.length = kb.length) (h:Vals2 K H kb ka):EqT K 65 H (.ref a) (.ref b):=fun X pins σ s A k I hu u v ru rv=>by
 subst k
 cases ru
 cases rv
 obtain ⟨ua,ea,ra,da,sa,_⟩:=rd_at I ha
 obtain ⟨ub,eb,rb,db,sb,_⟩:=rd_at I hb
 have la:ka.length = ua.length:=Paired.length ra
 have lb:kb.length = ub.length:=Paired.length rb
 have hits:=keq_all (A:=A) I (by show A.units + 1 + 64 < cLine; omega) rb ra h
 have e1:(ua.length == ub.length && true) = true:=by rw [show ua.length = ub.length by omega,beq_self_eq_true]; rfl
 exact .of (fun E Q q=>PySem.W.keq_eq sa sb da.dictOf db.dictOf (by omega) (fun _=>hits) (by rw [e1]; exact q)) fun E Q q=>PySem.W.keq_ne sa sb da.dictOf db.dictOf (by omega) (fun _=>hits) (by rw [e1]; exact q)
section
variable {X:Cx}
def rEqT (K:PySem.W.Frag) (n:Nat):R2:=fun x y H Q=>EqT K n H x y /\ Q (.bl true) H
def rNeT (K:PySem.W.Frag) (n:Nat):R2:=fun x y H Q=>EqT K n H x y /\ Q (.bl false) H
theorem op_eqT (hu:X.A.units + 128 < cLine):OpR X (compareOp .Eq) (rEqT X.K 100):=by
 intro pins s σ H x y v u Q I rx ry h
 exact (h.1 X pins σ s X.A rfl I (by omega) v u rx ry).rc _ _ ⟨.bl true,H,I,rfl,h.2⟩
theorem op_neT (hu:X.A.units + 128 < cLine):OpR X (compareOp .NotEq) (rNeT X.K 100):=by
 intro pins s σ H x y v u Q I rx ry h
 exact (h.1 X pins σ s X.A rfl I (by omega) v u rx ry).ne _ _ ⟨.bl false,H,I,rfl,h.2⟩
end
end L2
namespace AxS
open PySem PySem.Spec PyProof.Rows
section
variable {prog:Program} {w:World} {A:Around} {E:Value -> Shared -> Prop} {s:Shared}
theorem sub_dict_set:isSubtype (.type "dict") (.type "set") = pure false:=by rw [isSubtype_type]; kernel_rfl
theorem sub_dict_frozenset:isSubtype (.type "dict") (.type "frozenset") = pure false:=by rw [isSubtype_type]; kernel_rfl
theorem no_set {d:Addr} {Q:Bool -> Shared -> Prop} (hT:s.TypeIs (.ref d) "dict") (h:Q false s):wpAny (model prog w) A (Builtin.Frozenset.isAnySet (.ref d)) Q E s:=by
 unfold Builtin.Frozenset.isAnySet
 show wpAny _ _ (isInstance (.ref d) (.type "set") >>= _) _ _ _
 refine wpAny_bind (wpAny_isInstance hT sub_dict_set ?_)
 show wpAny _ _ (isInstance (.ref d) (.type "frozenset")) _ _ _
 exact wpAny_isInstance hT sub_dict_frozenset h
theorem from_dict {P d:Addr} {vs:List (L2.Key × Value)} {ks:List Str} {nm:String} {Q:Unit -> Shared -> Prop} (hP:s.heap.get? P = some (zL w)) (da:s.heap.DictOf (L2.mixKind prog w) d vs) (hS:(d == sysModules) = false) (ne:P ≠ d) (hn:vs.length * 2 < 256) (ek:vs.map (·.1) = ks.map Sum.inr)
  (h:∀ h',Heap.SameBut P s.heap h' -> TxSet prog w h' P ks -> Q () { s with heap:=h' }):wpAny (model prog w) A (Builtin.Frozenset.updateFrom nm P (.ref d)) Q E s:=by
 obtain ⟨o,es,ep,ho,hx,hd,hk,hp,hnd⟩:=id da
 have hlen:vs.length = es.size:=by rw [← hp.length]; exact Array.length_toList.symm
 have hkl:ks.length = vs.length:=by have:=congrArg List.length ek; rw [List.length_map,List.length_map] at this; exact this.symm
 have nd:ks.Nodup:=by
  have z:(ks.map (Sum.inr (α:=Int))).Nodup:=by rw [← ek]; exact hnd
  exact (List.Pairwise.of_map _ (fun a b (q:Sum.inr a ≠ Sum.inr b) e=>q (by rw [e])) z)
 unfold Builtin.Frozenset.updateFrom
 refine wpAny_bind (no_set da.typeIs ?_)
 simp only [Bool.false_eq_true,↓reduceIte]
 refine wpAny_bind (wpAny_typeOf da.typeIs ?_)
 rw [if_pos (by decide)]
 refine wpAny_bind (wpAny_rule ?_)
 refine wpAny_bind (wpAny_pure ?_)
 rw [if_neg (show ¬ (d == sysModules) = true by rw [hS]; exact Bool.false_ne_true)]
 refine wpAny_bind (wpAny_dictEpoch ho hd ?_)
 refine wpAny_bind (wpAny_dictEntries ho hd ?_)
 refine wpAny_bind (room_fresh hP (by omega) fun h1 o' ep' t' sb1 ho' hx' hd' hf' hle hpl hdu F hn'=>?_)
 have tx0:TxSet prog w h1 P (ks.take 0):=⟨o',#[],ep',t',ho',hx',hd',fun e he=>by simp at he,by rw [List.take_zero]; exact List.Perm.refl _,by decide,hf',hle,fun z=>absurd rfl z⟩
 have hod:∀ {h2:Heap},Heap.SameBut P s.heap h2 -> h2.get? d = some o:=fun {h2} sb=>by rw [sb.2 d ne.symm]; exact ho
 refine wpAny_bind (wpAny_dictEntries (s:={ s with heap:=h1 }) (hod sb1) hd ?_)
 refine wpAny_bind ?_
 rw [Std.Legacy.Range.forIn_eq_forIn_range']
 simp only [Std.Legacy.Range.size,Nat.sub_zero,Nat.add_sub_cancel,Nat.div_one]
 refine wpAny_forIn_list _ (fun rest _ s'=>∃ (h2:Heap) (i:Nat),s' = { s with heap:=h2 } /\ rest = List.range' i (es.size - i) /\ i <= es.size /\ Heap.SameBut P s.heap h2 /\ TxSet prog w h2 P (ks.take i)) _ ?_ ?_ _ _ ⟨h1,0,rfl,by simp,Nat.zero_le _,sb1,tx0⟩
 ·rintro x rest _ s' ⟨h2,i,rfl,hr,hi,sb2,tx⟩
  have hlt:i < es.size:=by
   rcases Nat.lt_or_ge i es.size with z | z
   ·exact z
   ·rw [Nat.sub_eq_zero_of_le z] at hr
    cases hr
  have es1:es.size - i = (es.size - (i + 1)) + 1:=by omega
  rw [es1,List.range'_succ] at hr
  injection hr with r1 r2
  subst r1
  refine wpAny_bind (wpAny_dictEntries (s:={ s with heap:=h2 }) (hod sb2) hd ?_)
  rw [Array.getElem?_eq_getElem hlt]
  have hv:x < vs.length:=by omega
  have hkx:x < ks.length:=by omega
  obtain ⟨hkey,_⟩:=hp.get? (i:=x) (e:=es[x]) (k:=vs[x].1) (v:=vs[x].2) (by rw [Array.getElem?_toList]; exact Array.getElem?_eq_getElem hlt) (List.getElem?_eq_getElem hv)
  obtain ⟨k',hk',hh⟩:=hk es[x] (Array.getElem_mem hlt)
  have ekk:k' = vs[x].1:=(L2.mixKind prog w).inj _ _ _ hk' hkey
  have ex:vs[x].1 = .inr ks[x]:=by
   have:=congrArg (fun l=>l[x]?) ek
   rw [List.getElem?_map,List.getElem?_map,List.getElem?_eq_getElem hv,List.getElem?_eq_getElem hkx] at this
   exact Option.some.inj this
  rw [ekk,ex] at hh
  rw [ex] at hkey
  obtain ⟨tk,et⟩:=Value.isStrOf_shape (show Value.isStrOf ks[x] es[x].key = true from hkey)
  have hh:es[x].hash = hashStr w ks[x]:=hh
  dsimp only
  rw [et,hh]
  have tl:(ks.take x).length = x:=by rw [List.length_take]; omega
  have sbn:scanBound = 4096:=rfl
  refine wpAny_bind (wpAny_holding (tx_add (s:={ s with heap:=h2 }) tx (by omega) fun h3 r sb3 tx3=>?_))
  have e3:=sb2.trans sb3
  refine wpAny_bind (wpAny_dictEpoch (s:={ s with heap:=h3 }) (hod e3) hd ?_)
  refine wpAny_ite_split (fun z=>absurd z (by simp)) (fun _=>?_)
  refine wpAny_pure ⟨h3,x + 1,rfl,r2,hlt,e3,?_⟩
  have nin:ks[x] ∉ ks.take x:=fun z=>by
   obtain ⟨j,hj,ej⟩:=List.mem_iff_getElem.mp z
   rw [List.getElem_take] at ej
   have:=(List.getElem_inj nd).mp ej
   rw [tl] at hj
   omega
  rw [if_neg nin] at tx3
  rw [List.take_add_one,List.getElem?_eq_getElem hkx]
  exact tx3
 ·rintro _ s' ⟨h2,i,rfl,hr,hi,sb2,tx⟩
  have hin:i = es.size:=by
   rcases Nat.lt_or_ge i es.size with z | z
   ·rw [show es.size - i = (es.size - (i + 1)) + 1 by omega,List.range'_succ] at hr
    cases hr
   ·omega
  rw [hin,List.take_of_length_le (by omega)] at tx
  exact wpAny_pure (h h2 sb2 tx)
set_option maxHeartbeats 6400000 in
theorem call_set_dict {d:Addr} {vs:List (L2.Key × Value)} {ks:List Str} {Q:Value -> Shared -> Prop} (da:s.heap.DictOf (L2.mixKind prog w) d vs) (hSm:(d == sysModules) = false) (hn:vs.length * 2 < 256) (ek:vs.map (·.1) = ks.map Sum.inr)
  (h:∀ (h':Heap) (tk:Nat),TxSet prog w h' s.heap.objs.size ks -> (∀ b o,s.heap.get? b = some o -> h'.get? b = some o) -> Q (.ref s.heap.objs.size) { s with heap:=h',toks:=tk }):wpAny (model prog w) A (call (.type "set") [.ref d]) Q E s:=by
 obtain ⟨c,tl,hmro⟩:=F.called_set.mro
 have hmade:=F.called_set.made
 have hsub:=F.called_set.sub
 have h1:=F.called_set.notType
 have h2:=F.called_set.canCreate
 have hct:=F.typeCall_set_1 (.ref d)
 refine wpAny_call (codeAny_of_tree ?_)
 show wpAny _ _ (callAny (.type "set") _) _ _ _
 refine wpAny_pure ⟨Code.quiet_builtin _ (by decide +kernel),codeAny_builtin F.entry_type_call ?_⟩
 rw [Around.under_plain (weight_type_call_type "set" [.ref d] []) rfl]
 repeat (any_goals (first | assumption | wp_step))
 refine codeAny_mono (set_new (.ref d) (E:=E) (Q₁:=fun obj s₁=>obj = .ref s.heap.objs.size /\ s₁ = { s with heap:=s.heap.push (zL w) }) ⟨rfl,rfl⟩) fun r s₁ hr=>?_
 cases r with
 | error e=>exact hr
 | ok fl =>
  cases fl with
  | ret obj =>
   obtain ⟨rfl,rfl⟩:=hr
   have hS:(s.heap.push (zL w)).get? s.heap.objs.size = some (zL w):=Heap.get?_push_size _ rfl
   have hT:Shared.TypeIs { s with heap:=s.heap.push (zL w) } (.ref s.heap.objs.size) "set":=⟨_,hS,rfl⟩
   have hli:=F.called_set.init.lookup
   have hbi:=F.called_set.init.bind (.ref s.heap.objs.size)
   repeat (any_goals (first | assumption | wp_step))
   refine codeAny_mono (codeAny_call_builtin (R:=wants (fun r s₂=>r = .none /\ ∃ h' tk,s₂ = { s with heap:=h',toks:=tk } /\ TxSet prog w h' s.heap.objs.size ks /\
     (∀ b o,s.heap.get? b = some o -> h'.get? b = some o)) E) F.called_set.init.plain F.entry_set_init (check_set_init_1 hT ?_)) fun r₂ s₂ hr₂=>?_
   ·have dlt:d < s.heap.objs.size:=by obtain ⟨_,_,_,e,_⟩:=da; exact Heap.lt_size e
    have da1:(s.heap.push (zL w)).DictOf (L2.mixKind prog w) d vs:=da.push _
    have fd:=from_dict (A:=A.in1.in1) (E:=fun e s'=>(wants (fun r s₂=>r = .none /\ ∃ h' tk,s₂ = { s with heap:=h',toks:=tk } /\ TxSet prog w h' s.heap.objs.size ks /\ (∀ b o,s.heap.get? b = some o -> h'.get? b = some o)) E) (.error e) s') (s:={ s with heap:=s.heap.push (zL w) }) (nm:="set.__init__") (Q:=fun _ s₂=>∃ h',s₂ = { s with heap:=h' } /\ TxSet prog w h' s.heap.objs.size ks /\ (∀ b o,s.heap.get? b = some o -> h'.get? b = some o)) hS da1 hSm (Nat.ne_of_gt dlt) hn ek (fun h' sb tx=>⟨h',rfl,tx,fun b o e=>(sb.2 b (Nat.ne_of_lt (Heap.lt_size e))).trans (Heap.get?_push_of_some _ e)⟩)
    unfold zL at hS
    unfold Builtin.«set.__init__» noKeywords
    generalize hU:Builtin.Frozenset.updateFrom = U at fd ⊢
    unfold zL at fd ⊢
    wp_walk
    exact wpAny_mono fd (fun _ s2 ⟨h',e,tx,kp⟩=>by subst e; exact wpAny_pure ⟨rfl,h',s.toks,rfl,tx,kp⟩) fun _ _ z=>z
   ·cases r₂ with
    | error e=>exact hr₂
    | ok fl₂ =>
     cases fl₂ with
     | ret r =>
      obtain ⟨rfl,h',tk,rfl,hS',hk'⟩:=hr₂
      repeat (any_goals (first | assumption | wp_step))
      exact h _ _ hS' hk'
     | _=>exact hr₂.elim
  | _=>exact hr.elim
end
end AxS
namespace L2
open PySem PySem.Spec PyProof.Rows AxS
section
variable {X:Cx}
def rSetR (P:Program) (w:World):List V -> Hp -> VK -> Prop:=fun xs H Q=>∃ a kvs,xs = [.ref a] /\ Rd H a (.dK kvs) /\ AllS kvs /\ kvs.length * 2 < 256 /\ ∀ p,H p = none -> Q (.ref p) (upd H p (TxHO P w p (kvs.map keyS)))
theorem call_setR:CallR X (.type "set") (rSetR X.prog X.w):=by
 intro pins s σ H xs us Q I r h
 obtain ⟨a,kvs,rfl,ha,al,hn,q⟩:=h
 obtain ⟨u,rfl,ru⟩:=vals1 r
 cases ru
 obtain ⟨vs,ep,rel,da,hS,hz⟩:=rd_at I ha
 have hlen:kvs.length = vs.length:=Paired.length rel
 have ek:vs.map (·.1) = (kvs.map keyS).map Sum.inr:=by
  clear q ha hz hn da hlen
  unfold KV at rel
  induction rel with
  | nil=>rfl
  | @cons p q ps qs r _ ih =>
   rw [List.map_cons,List.map_cons,List.map_cons,ih fun kv hkv=>al kv (List.mem_cons_of_mem _ hkv),← al p (List.mem_cons_self ..)]
   have e:p.1 = q.1:=r.1
   rw [e]
 exact call_set_dict da.dictOf hS (by omega) ek fun h' tk tx kp=>⟨.ref s.heap.objs.size,_,I.laid (o:=TxHO X.prog X.w s.heap.objs.size (kvs.map keyS)) (t':=tk) kp (Nat.le_refl _) (txho_ok tx),rfl,q _ (I.hok.fresh (Nat.le_refl _))⟩
end
end L2
namespace AxS
open PySem PySem.Spec PyProof.Rows
section
variable {prog:Program} {w:World} {A:Around} {E:Value -> Shared -> Prop} {s:Shared}
theorem xN:plainId "dict.update.loop" = true:=by decide +kernel
theorem entry_pairs:entryFor table "dict.update.loop" = some Builtin.«dict.update.loop»:=entryFor_of_fast (by kernel_rfl)
theorem list_no_keys:typeLookup (.type "list") "keys" = pure none:=by rw [typeLookup_type,builtinLookup_eq_fast]; kernel_rfl
theorem no_keys {a:Addr} {xs:Array Value} {n:Nat} {sl:Array (Option Value)} {Q:Option Value -> Shared -> Prop} (hx:s.heap.get? a = some { cls:=.type "list",dict:=none,data:=.seq xs n,slots:=sl }) (hA:A.handled = none)
  (h:∀ h' tk,(∀ b o,s.heap.get? b = some o -> h'.get? b = some o) -> Q none { s with heap:=h',toks:=tk }):wpAny (model prog w) A (getAttr? (.ref a) "keys") Q E s:=by
 obtain ⟨hp,g,d,tk,os⟩:=s
 have hT:∀ tk',(⟨hp,g,d,tk',os⟩:Shared).TypeIs (.ref a) "list":=fun _=>⟨_,hx,rfl⟩
 have f1:=sub_AttributeError
 have f3:=F.slot_list_getattribute.lookup
 have f4:=F.slot_list_getattribute.bind (.ref a)
 have f5:=am_list_getattr_none
 unfold getAttr? getAttrBy? getAttrBy
 repeat (any_goals (first | assumption | exact hT _ | ((with_reducible show wpAny _ _ (call (Value.builtin "list.__getattribute__") _ _) _ _ _); refine call_meets F.slot_list_getattribute (hT _) am_entry_list_getattribute (F.args_list_getattribute_2 _ _) (meets_getattribute_miss_list a xs n sl "keys" _ list_no_keys (by decide +kernel)) ⟨hx,hA,fun h' tk' e hx'=>?_⟩) | wp_step))
 obtain ⟨t',u',he⟩:=hx'.there
 show wpAny _ _ (getattributeRaised _ _ _ _ _ _ _) _ _ _
 unfold getattributeRaised
 repeat (any_goals (first | assumption | wp_step))
 exact h h' tk' hx'.of.keeps
def PairsAt (prog:Program) (w:World) (h:Heap) (items:Array Value) (kvs:List (L2.Key × Value)):Prop:=kvs.length = items.size /\ ∀ (i:Nat) (v:Value),items[i]? = some v -> ∃ (T:Addr) (k:L2.Key) (key x:Value),v = .ref T /\ h.IsTuple T #[key,x] /\ (L2.mixKind prog w).is k key = true /\ kvs[i]? = some (k,x)
theorem PairsAt.at {h h':Heap} {items:Array Value} {kvs:List (L2.Key × Value)} (p:PairsAt prog w h items kvs) (e:∀ T o,(∃ xs,h.IsTuple T xs) -> h.get? T = some o -> h'.get? T = some o):PairsAt prog w h' items kvs:=by
 refine ⟨p.1,fun i v hv=>?_⟩
 obtain ⟨T,k,key,x,e0,hT,hk,hx⟩:=p.2 i v hv
 obtain ⟨o,ho,r⟩:=id hT
 exact ⟨T,k,key,x,e0,⟨o,e T o ⟨_,hT⟩ ho,r⟩,hk,hx⟩
theorem pairs_loop {d I l:Addr} {items:Array Value} {kvs:List (L2.Key × Value)} {R:Result -> Shared -> Prop} {res:Value} (hh:A.in1.handled = none) (hne:l ≠ I) (dI:d ≠ I) (dl:d ≠ l) (hz:kvs.length <= sizeLine) :
  ∀ (m i:Nat) (s:Shared),items.size - i = m -> i <= items.size -> (s.heap.IsListIter I l i /\ s.heap.IsList l items) -> s.heap.DictOf (L2.mixKind prog w) d (merged [] (kvs.take i)) -> PairsAt prog w s.heap items kvs ->
   (∀ h' tk,h'.DictOf (L2.mixKind prog w) d (merged [] kvs) -> (∀ b o,b ≠ d -> b ≠ I -> s.heap.get? b = some o -> h'.get? b = some o) -> R (.ok (.ret res)) { s with heap:=h',toks:=tk }) ->
   codeAny (model prog w) A (.builtin "dict.update.loop" ⟨[.ref d,.ref I,rawInt i,res],[]⟩) R s:=by
 have W:=Walks.list (prog:=prog) (w:=w) hh I l hne items
 intro m
 induction m with
 | zero =>
  intro i s hm hi st hD hP k
  have ei:i = items.size:=by omega
  subst ei
  refine codeAny_builtin entry_pairs ?_
  rw [Around.under_plainId xN _]
  show wpAny _ A.in1 (pyNext (.ref I) >>= _) _ _ s
  refine wpAny_bind (W.done s _ _ st fun h' tk kp=>?_)
  rw [List.take_of_length_le (by rw [hP.1]; exact Nat.le_refl _)] at hD
  refine wpAny_bind (wpAny_pure (wpAny_pure (k h' tk (hD.at fun o e=>kp d o (by simp [dI]) e) fun b o b1 b2 e=>kp b o (by simp [b2]) e)))
 | succ m ih =>
  intro i s hm hi st hD hP k
  have hlt:i < items.size:=by omega
  refine codeAny_builtin entry_pairs ?_
  rw [Around.under_plainId xN _]
  show wpAny _ A.in1 (pyNext (.ref I) >>= _) _ _ s
  refine wpAny_bind (W.item i s _ _ hlt st fun v h' tk hv st' kp=>?_)
  obtain ⟨T,k1,key,x,rfl,hT,hk,hx⟩:=hP.2 i v hv
  have TI:T ≠ I:=fun z=>by
   obtain ⟨o,ho,hc,_⟩:=hT
   obtain ⟨o2,ho2,hc2,_⟩:=st.1
   rw [z,ho2] at ho
   cases ho
   rw [hc2] at hc
   exact absurd hc (by decide)
  have Td:T ≠ d:=fun z=>by
   obtain ⟨o,ho,hc,_⟩:=hT
   obtain ⟨o2,_,_,ho2,hc2,_⟩:=hD
   rw [z,ho2] at ho
   cases ho
   rw [hc2.1] at hc
   exact absurd hc (by decide)
  have hD1:h'.DictOf (L2.mixKind prog w) d (merged [] (kvs.take i)):=hD.at fun o e=>kp d o (by simp [dI]) e
  obtain ⟨⟨oc,od,oda,osl⟩,ho,hc,n1,hdt⟩:=id hT
  have ho1:h'.get? T = some ⟨oc,od,oda,osl⟩:=kp T _ (by simp [TI]) ho
  simp only at hc hdt
  subst hc hdt
  dsimp only
  refine wpAny_bind (wpAny_holding (wpAny_bind (wpAny_tryCatch ?_)))
  have ty:Shared.TypeIs { s with heap:=h',toks:=tk } (.ref T) "tuple":=⟨_,ho1,rfl⟩
  unfold Builtin.Dict.pairItems
  refine wpAny_bind (wpAny_typeOf ty ?_)
  rw [if_pos (by decide)]
  refine wpAny_bind ?_
  unfold seqItems?
  dsimp only
  refine wpAny_bind (wpAny_load (s:={ s with heap:=h',toks:=tk }) ho1 (wpAny_pure (wpAny_pure ?_)))
  dsimp only [Option.getD]
  refine wpAny_holding ?_
  unfold dictSet
  refine wpAny_holding (wpAny_bind ((L2.mixKind prog w).pyHash hk ?_))
  have ml:(merged ([]:List (L2.Key × Value)) (kvs.take i)).length <= sizeLine:=by
   have:=merged_length_le ([]:List (L2.Key × Value)) (kvs.take i)
   rw [List.length_take] at this
   simp at this
   omega
  refine wpAny_dictSetHashed_pairs (hsz:=ml) hk hD1 fun h2 hD2 sb2=>?_
  rw [← merged_take_succ [] kvs i (k1,x) hx] at hD2
  refine wpAny_pure ⟨plainId_quiet xN _,?_⟩
  rw [show ((i:Nat):Int) + 1 = ((i + 1:Nat):Int) by push_cast; rfl]
  have kp2:∀ b o,b ≠ d -> b ≠ I -> s.heap.get? b = some o -> h2.get? b = some o:=fun b o b1 b2 e=>(sb2.2 b b1).trans (kp b o (by simp [b2]) e)
  refine ih (i + 1) _ (by omega) hlt ⟨?_,?_⟩ hD2 (hP.at fun T' o ⟨xs,hT'⟩ e=>kp2 T' o (fun z=>?_) (fun z=>?_) e) fun h3 tk3 hD3 kp3=>k h3 tk3 hD3 fun b o b1 b2 e=>kp3 b o b1 b2 (kp2 b o b1 b2 e)
  ·exact st'.1.at fun o e=>(sb2.2 I dI.symm).trans e
  ·exact st'.2.at fun o e=>(sb2.2 l dl.symm).trans e
  ·obtain ⟨o1,ho1,hc1,_⟩:=hT'
   obtain ⟨o2,_,_,ho2,hc2,_⟩:=hD
   rw [z,ho2] at ho1
   cases ho1
   rw [hc2.1] at hc1
   exact absurd hc1 (by decide)
  ·obtain ⟨o1,ho1,hc1,_⟩:=hT'
   obtain ⟨o2,ho2,hc2,_⟩:=st.1
   rw [z,ho2] at ho1
   cases ho1
   rw [hc2] at hc1
   exact absurd hc1 (by decide)
theorem call_dict_pairs {l:Addr} {items:Array Value} {n:Nat} {kvs:List (L2.Key × Value)} {Q:Value -> Shared -> Prop} (hh:A.handled = none) (hl:s.heap.get? l = some { cls:=.type "list",data:=.seq items n }) (hP:PairsAt prog w s.heap items kvs) (hz:kvs.length <= sizeLine)
  (h:∀ h' tk,h'.DictOf (L2.mixKind prog w) s.heap.objs.size (merged [] kvs) -> (∀ b o,s.heap.get? b = some o -> h'.get? b = some o) -> Q (.ref s.heap.objs.size) { s with heap:=h',toks:=tk }):wpAny (model prog w) A (call (.type "dict") [.ref l]) Q E s:=by
 refine callType_codes (Q₁:=fun obj s₁=>obj = .ref s.heap.objs.size /\ s₁ = { s with heap:=s.heap.push { cls:=.type "dict",data:=.dict #[] } }) F.kt_called_dict (F.kt_typeCall_dict_1 _) F.entry_dict_init (kt_code_dict_new _ ⟨rfl,rfl⟩) ?_
 rintro obj s₁ ⟨rfl,rfl⟩
 have hnew:(s.heap.push { cls:=.type "dict",data:=.dict #[] }).DictOf (L2.mixKind prog w) s.heap.objs.size []:=Heap.DictOf.new s.heap
 have llt:l < s.heap.objs.size:=Heap.lt_size hl
 have hl1:(s.heap.push { cls:=.type "dict",data:=.dict #[] }).get? l = some { cls:=.type "list",data:=.seq items n }:=Heap.get?_push_of_some _ hl
 refine ⟨hnew.typeIs,F.args_dict_init_2 _ _,?_⟩
 unfold Builtin.«dict.__init__»
 refine wpAny_bind ?_
 unfold Builtin.Dict.selfAndRest
 refine wpAny_bind (wpAny_notOrdered_dict hnew.typeIs ?_)
 show wpAny _ _ (pure (s.heap.objs.size,[Value.ref l])) _ _ _
 refine wpAny_pure ?_
 show wpAny _ _ (Builtin.Dict.updateFrom "dict.__init__" s.heap.objs.size (.ref l) [] .none) _ _ _
 unfold Builtin.Dict.updateFrom
 have tyl:Shared.TypeIs { s with heap:=s.heap.push { cls:=.type "dict",data:=.dict #[] } } (.ref l) "list":=⟨_,hl1,rfl⟩
 refine wpAny_bind (wpAny_typeOf tyl ?_)
 rw [if_pos (by decide)]
 refine wpAny_bind (no_keys (s:={ s with heap:=s.heap.push { cls:=.type "dict",data:=.dict #[] } }) hl1 (by simp [hh]) fun h2 tk2 kp2=>?_)
 simp only [Option.isNone_none,↓reduceIte]
 refine wpAny_bind (wpAny_rule ?_)
 have hl2:h2.IsList l items:=⟨_,kp2 l _ hl1,rfl,n,rfl⟩
 have nlt:s.heap.objs.size < h2.objs.size:=by
  obtain ⟨o,_,_,e,_⟩:=hnew
  exact Heap.lt_size (kp2 _ _ e)
 refine wpAny_bind (wpAny_pyIter_list (s:={ s with heap:=h2,toks:=tk2 }) hl2 ?_)
 refine wpAny_pure ⟨plainId_quiet xN _,?_⟩
 have kp3:∀ b o,s.heap.get? b = some o -> (h2.push { cls:=.type "list_iterator",data:=.fields #[.ref l,.int 0 0] }).get? b = some o:=fun b o e=>Heap.get?_push_of_some _ (kp2 b o (Heap.get?_push_of_some _ e))
 refine pairs_loop (A:=A.in1) (d:=s.heap.objs.size) (I:=h2.objs.size) (l:=l) (items:=items) (kvs:=kvs) (by simp [hh]) (Nat.ne_of_lt (Nat.lt_trans llt nlt)) (Nat.ne_of_lt nlt) (Nat.ne_of_gt llt) hz (items.size - 0) 0 _ (by omega) (Nat.zero_le _) ⟨⟨_,Heap.get?_push_size _ rfl,rfl,rfl⟩,hl2.push _⟩ ?_ (hP.at fun T o _ e=>kp3 T o e) fun h3 tk3 hD3 kp4=>?_
 ·rw [List.take_zero]
  exact (hnew.at fun o e=>kp2 _ o e).push _
 ·refine ⟨rfl,h h3 tk3 hD3 fun b o e=>kp4 b o (Nat.ne_of_lt (Heap.lt_size e)) (Nat.ne_of_lt (Nat.lt_trans (Heap.lt_size e) nlt)) (kp3 b o e)⟩
end
end AxS
namespace L2
open PySem PySem.Spec PyProof.Rows AxS
section
variable {X:Cx} {K:PySem.W.Frag}
def jH (K:PySem.W.Frag) (H:Hp) (xs:List V) (kvs:List (Key × V)):Prop:=xs.length = kvs.length /\ ∀ (i:Nat) (x:V),xs[i]? = some x -> ∃ (T:Addr) (k:Key) (v:V),x = .ref T /\ SqT K H T [kV k,v] /\ kvs[i]? = some (k,v)
def rDictP (K:PySem.W.Frag):List V -> Hp -> VK -> Prop:=fun xs H Q=>∃ (a:Addr) (vs:List V) (kvs:List (Key × V)),xs = [.ref a] /\ H a = some (.lst vs) /\ jH K H vs kvs /\ ∀ l,H l = none -> Q (.ref l) (upd H l (.dK (putAll [] kvs)))
theorem pairs_vals {pins:List (Addr × Obj)} {σ:St} {H:Hp} {s:Shared} (I:Inv X pins σ H s):∀ {vs:List V} {its:List Value} {kvs:List (Key × V)},Vals vs its -> jH X.K H vs kvs -> ∃ um:List (Key × Value),KV kvs um /\ um.length = its.length /\ ∀ (i:Nat) (v:Value),its[i]? = some v -> ∃ (T:Addr) (k:Key) (key x:Value),v = .ref T /\ s.heap.IsTuple T #[key,x] /\ (mixKind X.prog X.w).is k key = true /\ um[i]? = some (k,x)
 | [],_,kvs,.nil,p=>by
  have:kvs = []:=List.eq_nil_of_length_eq_zero p.1.symm
  subst this
  exact ⟨[],.nil,rfl,fun i v z=>(nomatch z)⟩
 | x :: vs,u :: its,kvs,.cons r1 r2,p=>by
  obtain ⟨T,k,y,rfl,hT,hk⟩:=p.2 0 x rfl
  cases kvs with
  | nil=>cases hk
  | cons kv kvs =>
   have ek:kv = (k,y):=Option.some.inj hk
   subst ek
   obtain ⟨um,rel,len,all⟩:=pairs_vals I (kvs:=kvs) r2 ⟨by have:=p.1; simpa using this,fun i z hz=>by
    obtain ⟨T',k',y',e1,e2,e3⟩:=p.2 (i + 1) z (by simpa using hz)
    exact ⟨T',k',y',e1,e2,by simpa using e3⟩⟩
   cases r1
   obtain ⟨us,rv,ht,_⟩:=I.tuple hT
   cases rv with
   | cons q1 rv =>
    cases rv with
    | cons q2 rv =>
     cases rv
     rename_i key val
     refine ⟨(k,val) :: um,.cons ⟨rfl,q2⟩ rel,by rw [List.length_cons,List.length_cons,len],fun i v hv=>?_⟩
     cases i with
     | zero =>
      cases hv
      exact ⟨T,k,key,val,rfl,ht,kV_is q1,rfl⟩
     | succ i=>exact all i v (by simpa using hv)
theorem call_dictP (hc:X.calm = true) (hK:X.K = K:=by rfl):CallR X (.type "dict") (rDictP K):=by
 subst hK
 intro pins s σ H xs us Q I r h
 obtain ⟨a,vs,kvs,rfl,ha,pv,q⟩:=h
 obtain ⟨u,rfl,ru⟩:=vals1 r
 cases ru
 obtain ⟨z,its,n,rv,hl,e⟩:=I.lstM ha
 obtain ⟨um,rel,len,all⟩:=pairs_vals I rv pv
 have vl:=rv.length
 have kl:kvs.length = um.length:=Paired.length rel
 refine call_dict_pairs (I.ok.hd hc) e ⟨by rw [List.size_toArray]; exact len,fun i v hv=>all i v (by simpa using hv)⟩ (by omega) fun h' tk hD kp=>?_
 have zl:=xQ kvs []
 exact ⟨.ref s.heap.objs.size,_,I.laid (o:=.dK (putAll [] kvs)) (t':=tk) kp (Nat.le_refl _) (dk_new (by rw [List.length_nil] at zl; omega) (beq_eq_false_iff_ne.mpr (Ne.symm (Nat.ne_of_lt I.big))) (KV.putAll (kvs:=[]) (vs:=[]) .nil rel) hD),rfl,q _ (I.hok.fresh (Nat.le_refl _))⟩
end
end L2
namespace L2
open PySem PySem.Spec PyProof.Rows
section
variable {X:Cx}
theorem qR:∀ {l:List (Str × Tok)} {ys:List Str},l.map (·.1) = ys -> Vals (ys.map V.str) (strValues l)
 | [],_,h=>by rw [← h]; exact .nil
 | p :: l,_,h=>by
  rw [← h]
  exact .cons ⟨p.2,rfl⟩ (qR rfl)
def rSplit:V -> List V -> Hp -> VK -> Prop:=fun x vs H Q=>∃ (a:Str) (c:Nat),x = .str a /\ vs = [.str ⟨#[c]⟩] /\ a.length <= 100000 /\ ∀ l,H l = none -> Q (.ref l) (upd H l (.lst ((Txt.split a ⟨#[c]⟩).map V.str)))
theorem mt_split:MtR X "str.split" rSplit:=by
 intro pins s σ H x xs v us Q I rx rs h
 obtain ⟨a,c,rfl,rfl,ha,q⟩:=h
 obtain ⟨t,rfl⟩:=rx
 obtain ⟨u,rfl,t',rfl⟩:=vals1 rs
 have hz:a.length <= sizeLine:=An.le_line (by omega)
 have hy:((⟨#[c]⟩:Str).length == 0) = false:=rfl
 have hn:(Builtin.Str.partsBetween a (Builtin.Str.occurrences a ⟨#[c]⟩ 0 a.length (a.length + 1)) (⟨#[c]⟩:Str).length).length <= 200000:=by
  unfold Builtin.Str.partsBetween
  have:=StrLaws.occ_length_le a ⟨#[c]⟩ 0 a.length (a.length + 1)
  simp only [List.length_map,List.length_zip,List.length_cons,List.length_append,List.length_nil]
  omega
 cases h1:(decide (a.length < (⟨#[c]⟩:Str).length) || decide (Builtin.Str.strKind a < Builtin.Str.strKind ⟨#[c]⟩))
 ·cases hf:(Builtin.Str.occurrences a ⟨#[c]⟩ 0 a.length (a.length + 1)).isEmpty
  ·have e:Txt.split a ⟨#[c]⟩ = Builtin.Str.partsBetween a (Builtin.Str.occurrences a ⟨#[c]⟩ 0 a.length (a.length + 1)) (⟨#[c]⟩:Str).length:=(if_neg (ne_true_of_eq_false h1)).trans (if_neg (ne_true_of_eq_false hf))
   refine call_meets F.slot_str_split (typeIs_str s a t) F.entry_str_split (F.args_str_split_2 _ _) (meets_str_split_sep a ⟨#[c]⟩ t t' h1 hy hf hz (An.le_line (by omega))) ?_
   rw [strsFrom_eq]
   refine ⟨.ref _,_,I.lnew (qR (numbered_texts _ _)) (by rw [List.length_map]; exact An.le_line (by omega)),rfl,?_⟩
   rw [← e]
   exact q _ I.fresh
  ·have e:Txt.split a ⟨#[c]⟩ = [a]:=(if_neg (ne_true_of_eq_false h1)).trans (if_pos hf)
   rw [e] at q
   refine call_meets F.slot_str_split (typeIs_str s a t) F.entry_str_split (F.args_str_split_2 _ _) (meets_str_split_not_found a ⟨#[c]⟩ t t' h1 hy hf) ?_
   exact ⟨.ref _,_,I.lnew (t':=s.toks) (qR (l:=[(a,t)]) rfl) (by show 1 <= sizeLine; decide),rfl,q _ I.fresh⟩
 ·have e:Txt.split a ⟨#[c]⟩ = [a]:=if_pos h1
  rw [e] at q
  refine call_meets F.slot_str_split (typeIs_str s a t) F.entry_str_split (F.args_str_split_2 _ _) (meets_str_split_cannot_occur a ⟨#[c]⟩ t t' h1) ?_
  exact ⟨.ref _,_,I.lnew (t':=s.toks) (qR (l:=[(a,t)]) rfl) (by show 1 <= sizeLine; decide),rfl,q _ I.fresh⟩
theorem mt_joinK {K:PySem.W.Frag} (hK:X.K = K:=by rfl):MtR X "str.join" (rJoin K):=by
 subst hK
 exact mt_join
theorem pe_bmK {K:PySem.W.Frag} {o e:Expr} {es:List Expr} {to:TE} {t:TA} {name:Str} {apos cpos:Pos} {T id:String} {r:V -> List V -> Hp -> VK -> Prop} (pa:PlainAttrs T) (slot:Slot T name id) (hty:typeOf (.builtin id) = pure (.type "method_descriptor")) (hm:MtR X id r) (ho:PE X o to) (ha:PA X (e :: es) t)
  (hbase:attributeBase o name X.env (eval o X.env) = eval o X.env:=by rfl)
  (hfew:((backTo cpos (starEach (e :: es) X.env)).all (fun x=>!x.1) && (backToKw cpos (keywordEach [] X.env)).all (fun x=>x.1.isSome)
   && decide ((e :: es).length + ([]:List Keyword).length + (if ([]:List Keyword).isEmpty then 0 else 1) < 30)) = true:=by rfl)
  (hline:(apos.endLine == cpos.line) = true:=by rfl) (hs:starEach (e :: es) X.env = (false,eval e X.env) :: starEach es X.env:=by rfl) (hplain:(backTo cpos (starEach es X.env)).any (·.1) = false:=by rfl) (hK:X.K = K:=by rfl) :
  PE X (.Call (.Attribute o name apos) (e :: es) [] cpos) (tBM K T r to t):=by
 subst hK
 exact qG pa slot hty hm ho ha hbase hfew hline hs hplain
end
end L2
namespace L2
open PySem PySem.Spec PyProof.Rows
theorem Room.units1 {k:Nat} {A:Around} (r:Room k A):A.units + 1 < cLine:=by have:=r.un; omega
section
variable {d:Addr} {kvs:List (Key × V)} {ob:Obj} {src:List (Option Nat)} {g:TG} {tf:St -> Hp -> (Bool -> Hp -> Prop) -> Prop} {te:TE} {Q:VK} {σ:St} {H:Hp}
theorem comp_keys (Pv:Nat -> List V -> St -> Hp -> Prop) (h0:Pv 0 [] (srcSt src σ) H) (hz:kvs.length <= sizeLine) (hl:∀ i ys σ H,i <= kvs.length -> Pv i ys σ H -> H d = some (.frz ob (.dK kvs)) /\ ys.length <= i)
  (hs:∀ i k v ys σ H,kvs[i]? = some (k,v) -> Pv i ys σ H -> g (kV k) σ H fun σ2 H3=>tf σ2 H3 fun b H4=>if b = true then te σ2 H4 fun y H5=>Pv (i + 1) (ys ++ [y]) σ2 H5 else Pv (i + 1) ys σ2 H4)
  (hd:∀ ys σ H,Pv kvs.length ys σ H -> ∀ p,H p = none -> Q (.ref p) (upd H p (.lst ys))):CompW src (ItK d kvs ob) g tf te Q σ H :=
 comp_n kvs.length Pv h0 hz (fun i ys σ H hi p=>(hl i ys σ H hi p).2) (fun ys σ H p=>⟨(hl _ ys σ H (Nat.le_refl _) p).1,rfl⟩) (fun i ys σ H hi p=>⟨(hl i ys σ H (Nat.le_of_lt hi) p).1,hi⟩)
  (fun i ys σ H hi p x H2 y=>by
   obtain ⟨eH,k,v,hx,ev⟩:=y
   subst ev eH
   exact hs i k v ys σ _ hx p) hd
theorem comp_pairs (Pv:Nat -> List V -> St -> Hp -> Prop) (h0:Pv 0 [] (srcSt src σ) H) (hz:kvs.length <= sizeLine) (hl:∀ i ys σ H,i <= kvs.length -> Pv i ys σ H -> H d = some (.frz ob (.dK kvs)) /\ ys.length <= i)
  (hs:∀ i k v T ys σ H,kvs[i]? = some (k,v) -> Pv i ys σ H -> H T = none -> g (.ref T) σ (upd H T (.tup [kV k,v])) fun σ2 H3=>tf σ2 H3 fun b H4=>if b = true then te σ2 H4 fun y H5=>Pv (i + 1) (ys ++ [y]) σ2 H5 else Pv (i + 1) ys σ2 H4)
  (hd:∀ ys σ H,Pv kvs.length ys σ H -> ∀ p,H p = none -> Q (.ref p) (upd H p (.lst ys))):CompW src (ItP d kvs ob) g tf te Q σ H :=
 comp_n kvs.length Pv h0 hz (fun i ys σ H hi p=>(hl i ys σ H hi p).2) (fun ys σ H p=>⟨(hl _ ys σ H (Nat.le_refl _) p).1,rfl⟩) (fun i ys σ H hi p=>⟨(hl i ys σ H (Nat.le_of_lt hi) p).1,hi⟩)
  (fun i ys σ H hi p x H2 y=>by
   obtain ⟨T,k,v,hx,hT,ev,eH⟩:=y
   subst ev eH
   exact hs i k v T ys σ H hx p hT) hd
end
section
variable {X:Cx}
def rNinZ:R2:=fun y x H Q=>∃ a o,x = .ref a /\ DGet H a y o /\ Q (.bl (!o.isSome)) H
theorem op_ninZ (hu:X.A.units + 64 < cLine):OpR X (compareOp .NotIn) rNinZ:=by
 intro pins s σ H y x v u Q I ry rx h
 obtain ⟨a,o,rfl,g,q⟩:=h
 cases rx
 exact d_notIn (by omega) I g ry fun s' I'=>⟨.bl _,H,I',rfl,q⟩
end
end L2
namespace An
open PySem PySem.Spec PyProof.Rows L2
def leS (a b:Str):Prop:=¬ b.cps.toList < a.cps.toList
theorem leS_trans {a b c:Str} (h1:leS a b) (h2:leS b c):leS a c:=by
 have h1:a.cps.toList <= b.cps.toList:=List.not_lt.mp h1
 have h2:b.cps.toList <= c.cps.toList:=List.not_lt.mp h2
 exact List.not_lt.mpr (List.le_trans h1 h2)
theorem leS_anti {a b:Str} (h1:leS a b) (h2:leS b a):a = b:=by
 have e:a.cps.toList = b.cps.toList:=List.le_antisymm (List.not_lt.mp h1) (List.not_lt.mp h2)
 exact cs_inj e
theorem rising_pw:∀ (l:List Str) (p:Str),risingS p l = true -> (p :: l).Pairwise leS
 | [],p,_=>List.pairwise_singleton _ _
 | x :: r,p,h=>by
  have h:(!ltCps x.cps.toList p.cps.toList && risingS x r) = true:=h
  rw [Bool.and_eq_true,ltCps_eq] at h
  have hx:leS p x:=fun z=>by rw [decide_eq_true z] at h; exact absurd h.1 (by decide)
  have ih:=rising_pw r x h.2
  refine List.pairwise_cons.mpr ⟨fun y hy=>?_,ih⟩
  rcases List.mem_cons.mp hy with rfl | hy
  ·exact hx
  ·exact leS_trans hx ((List.pairwise_cons.mp ih).1 y hy)
theorem qS:∀ {l:List Str},sortedS l = true -> l.Pairwise leS
 | [],_=>List.Pairwise.nil
 | x :: r,h=>rising_pw r x h
theorem jB {ks:List Str} {k:Str} (h:ks.Nodup):(AxS.step ks k).Nodup:=by
 unfold AxS.step
 split
 ·exact h
 ·rename_i z
  rw [List.nodup_append]
  exact ⟨h,by simp,fun a ha b hb=>by rw [List.mem_singleton.mp hb]; exact fun e=>z (e ▸ ha)⟩
theorem fold_nodup:∀ (xs ks:List Str),ks.Nodup -> (xs.foldl AxS.step ks).Nodup
 | [],ks,h=>h
 | x :: xs,ks,h=>fold_nodup xs _ (jB h)
theorem fold_all:∀ (xs ks:List Str),(ks ++ xs).Nodup -> xs.foldl AxS.step ks = ks ++ xs
 | [],ks,_=>by rw [List.append_nil]; rfl
 | x :: xs,ks,h=>by
  have e:AxS.step ks x = ks ++ [x]:=by
   unfold AxS.step
   rw [if_neg]
   intro z
   exact (List.nodup_append.mp h).2.2 x z x List.mem_cons_self rfl
  rw [List.foldl_cons,e,fold_all xs (ks ++ [x]) (by rw [List.append_assoc]; exact h),List.append_assoc]
  rfl
theorem uniq_nodup (xs:List Str):(AxS.uniq xs).Nodup:=fold_nodup xs [] List.nodup_nil
theorem uniq_self {xs:List Str} (h:xs.Nodup):AxS.uniq xs = xs:=fold_all xs [] h
theorem fold_mem:∀ (xs ks:List Str) {x:Str},x ∈ xs.foldl AxS.step ks -> x ∈ ks \/ x ∈ xs
 | [],ks,x,h=>.inl h
 | y :: xs,ks,x,h=>by
  rcases fold_mem xs _ h with z | z
  ·unfold AxS.step at z
   split at z
   ·exact .inl z
   ·rcases List.mem_append.mp z with z | z
    ·exact .inl z
    ·exact .inr (List.mem_cons.mpr (.inl (List.mem_singleton.mp z)))
  ·exact .inr (List.mem_cons_of_mem _ z)
theorem uniq_mem {xs:List Str} {x:Str} (h:x ∈ AxS.uniq xs):x ∈ xs:=(fold_mem xs [] h).elim (fun z=>nomatch z) id
end An
namespace An18
open PySem L2 An An10 An12
seal L2.PS L2.PSs L2.PE L2.PT L2.PW L2.PA L2.PG L2.PGs L2.PI L2.PFi L2.PC
def top (i:Nat):Stmt:=PySem.Challenge.pw_annals_k18_whole_joins.main.body.getD i (.Pass ⟨0,0,0,0⟩)
def kinds:List String:=["NoneType","bool","int","str","list","tuple","dict"]
structure Txt (K:PySem.W.Frag) (mg:Str -> Option Value) (t1 t2:Tok):Prop where
 len:mg "len" = none
 list:mg "list" = none
 tuple:mg "tuple" = none
 range:mg "range" = none
 isinstance:mg "isinstance" = none
 int:mg "int" = none
 max:mg "max" = none
 min:mg "min" = none
 sorted:mg "sorted" = none
 reversed:mg "reversed" = none
 all:mg "all" = none
 set:mg "set" = none
 dict:mg "dict" = none
 ONES:mg "ONES" = some (.int 2 t1)
 OTHERS:mg "OTHERS" = some (.int 3 t2)
 kit:∀ a ∈ kinds,∀ b ∈ kinds,PySem.W.kitOne K (.type a) (.type b) = some (a == b || (a == "bool" && b == "int"))
theorem nameD_in (d:PyData):nameD d ∈ kinds:=by cases d <;> simp [nameD,kinds]
theorem Txt.is {K:PySem.W.Frag} {mg:Str -> Option Value} {t1 t2:Tok} {d:PyData} {T:String} (t:Txt K mg t1 t2) (hT:T ∈ kinds):PySem.W.kitOne K (.type (nameD d)) (.type T) = some (nameD d == T || (nameD d == "bool" && T == "int")):=t.kit _ (nameD_in d) _ hT
section
variable {P:Program} {w:World} {K:PySem.W.Frag} {mg:Str -> Option Value} {base:Heap} {t1 t2:Tok}
namespace f_table_row
abbrev st:Stmt:=top 2
theorem sc:FnScope ["line","new","behind","row","k"] ["line","new","behind"] (zD st):=⟨rfl,rfl,rfl,by decide +kernel,rfl,by decide +kernel,by decide +kernel⟩
theorem ok {f:Addr} {fd:FuncData} (F:Fun K "table_row" "table_row" st f fd) (T:Txt K mg t1 t2):FnOk P w K mg base CX0 1 f fd ["line","new","behind"] (An10.spTRow K):=by
 refine F.ok sc (fun vs H Q E h=>?_) (fun cdv A outer s H vs Q E hr h=>?_)
 ·obtain ⟨x,b,p,xs,ys,i,rfl,_⟩:=h
  rfl
 ·obtain ⟨x,b,p,xs,ys,i,rfl,hb,hp,hx,y1,k⟩:=h
  refine ⟨_,(zB (zO (i:=3) sc.nd rfl (Or.inl rfl) (zU op_rep (yG (zA zH zC)) (zU yN (zQ zN (by rfl) T.len PySem.boot_len (zA (pv 1) zC)) zH)))
   (zB (xA PassesOwn.never rfl (pi_rangeD rfl T.range (zA (zU op_sub (zQ zN (by rfl) T.len PySem.boot_len (zA (pv 1) zC)) zH) (zA (pe_un un_neg zH) (zA (pe_un un_neg zH) zC)))) (zM (i:=4) sc.nd rfl (Or.inl rfl))
    (zE (z5 (zI qX (pv 0) (zW (ix_tup:IxR _ (rIxT K)) (pv 1) (pv 4) (fun _ _=>rfl)) (zK _))
     (zE (ps_asg (zU yN (zW (ix_list:IxR _ (rIxL K)) (pv 2) (zU yN (pv 4) zH) (fun _ _=>rfl)) zH) (pg_sub (pv 3) (pv 4) set_list)))
     (zE (ps_asg (zQ (call_max2 rfl) (by rfl) T.max PyProof.Rows.boot_max (zA (zW (ix_list:IxR _ (rIxL K)) (pv 2) (pv 4) (fun _ _=>rfl)) (zA (zW (ix_list:IxR _ (rIxL K)) (pv 3) (zU yN (pv 4) zH) (fun _ _=>rfl)) zC))) (pg_sub (pv 3) (pv 4) set_list))))))
   (zE (zP (pv 3))))),?_⟩
  refine ⟨lineN 1,fun l0 n0=>?_⟩
  have s0:=same_upd (o:=.lst [V.int 0]) n0
  refine ⟨_,rfl,b,_,rfl,.inr (s0.tupS hb),_,_,rfl,rfl,l0,_,_,rfl,rfl,upd_same,by rw [List.length_map]; omega,by rw [List.length_map]; omega,le_line ?_,fun l nl=>?_⟩
  ·rw [List.length_map]
   simp only [List.length_cons,List.length_nil]; omega
  have s1:=s0.trans (same_upd (o:=.lst (List.replicate ((((ys.map V.str).length:Nat):Int) + 1).toNat [V.int 0]).flatten) nl)
  have lz:(List.replicate ((((ys.map V.str).length:Nat):Int) + 1).toNat [V.int 0]).flatten = List.replicate (ys.length + 1) (V.int 0):=by
   rw [List.length_map]
   have e:Int.toNat ((ys.length:Int) + 1) = ys.length + 1:=by omega
   rw [e]
   exact An10.flat_rep _ _
  rw [lz] at s1 ⊢
  generalize upd H l0 (.lst [V.int 0]) = H0 at s0 nl s1 ⊢
  refine ⟨_,rfl,b,_,rfl,.inr (s1.tupS hb),_,_,rfl,rfl,_,rfl,_,rfl,_,_,rfl,⟨by rw [List.length_map]; omega,by rw [List.length_map]; omega,by omega,by omega⟩,?_⟩
  rw [List.length_map]
  have en:((ys.length:Int) - 1 - -1).toNat = ys.length:=by omega
  rw [en]
  refine for_rangeD (n:=ys.length) (fun j σ H2=>∃ (o4:Option V) (zs:List V),σ = [some (.str x),some (.ref b),some (.ref p),some (.ref l),o4] /\ H2 = upd H0 l (.lst zs) /\ zs.length = ys.length + 1 /\ ∀ m,ys.length <= m + j -> m <= ys.length -> zs[m]? = some (V.int (An10.tab xs ys i m))) ⟨none,_,rfl,rfl,List.length_replicate,fun m h1 h2=>?_⟩ ?_ ?_
  ·rw [List.getElem?_replicate,if_pos (by omega),An10.tab_end_r (by omega)]
   rfl
  ·rintro j σ H2 hj ⟨o4,zs,rfl,rfl,zl,hz⟩
   have hs2:Same H (upd H0 l (.lst zs)):=fun c u q=>(by rw [zF (zG (s0 c u q) nl)]; exact s0 c u q)
   obtain ⟨q,eq⟩:∃ q:Nat,(ys.length:Int) - 1 - (j:Int) = (q:Int):=⟨ys.length - 1 - j,by omega⟩
   rw [eq]
   have q1:q + j + 1 = ys.length:=by omega
   obtain ⟨y,hy,hyat⟩:=qK (f:=V.str) (xs:=ys) (i:=(q:Int)) (by omega) (by omega)
   have hy:ys[q]? = some y:=by rw [← hy]; congr 1
   have st:=An10.tab_step hx hy
   have hpl:p ≠ l:=zG (s0 _ _ hp) nl
   refine ⟨_,rfl,_,rfl,_,rfl,b,_,_,_,rfl,rfl,hs2.tupS hb,hyat,rfl,_,rfl,ite2 (fun h3=>?_) (fun h3=>?_)⟩
   ·have h3:V.str x = V.str y:=of_decide_eq_true h3
    injection h3 with h3
    refine ⟨_,rfl,_,rfl,_,_,rfl,rfl,p,_,_,_,rfl,rfl,SqL.of (hs2 _ _ hp),An10.row_at (by omega) (by omega),_,_,rfl,rfl,_,rfl,_,rfl,l,_,_,q,rfl,rfl,upd_same,An10.ixN_nat (by omega),_,_,rfl,by rw [upd_upd],by rw [List.length_set]; exact zl,fun m h1 h2=>?_⟩
    rcases Nat.lt_or_ge q m with hm | hm
    ·rw [List.getElem?_set_ne (by omega)]
     exact hz m (by omega) h2
    ·have:m = q:=by omega
     subst this
     rw [List.getElem?_set_self (by omega),st,if_pos h3]
     have e2:Int.toNat ((m:Int) + 1) = m + 1:=by omega
     rw [e2]
     show some (V.int (((An10.tab xs ys (i + 1) (m + 1):Nat):Int) + 1)) = _
     congr 2
     omega
   ·have h3:¬ x = y:=fun z=>h3 (decide_eq_true (by rw [z]))
    refine ⟨_,rfl,_,rfl,p,_,_,_,rfl,rfl,SqL.of (hs2 _ _ hp),An10.row_at (by omega) (by omega),_,rfl,_,rfl,_,_,rfl,rfl,l,_,_,_,rfl,rfl,SqL.of upd_same,An10.atI_nat' (n:=q + 1) (by omega) (hz (q + 1) (by omega) (by omega)),_,_,rfl,?_⟩
    refine ⟨_,rfl,_,rfl,l,_,_,q,rfl,rfl,upd_same,An10.ixN_nat (by omega),_,_,rfl,by rw [upd_upd],by rw [List.length_set]; exact zl,fun m h1 h2=>?_⟩
    rcases Nat.lt_or_ge q m with hm | hm
    ·rw [List.getElem?_set_ne (by omega)]
     exact hz m (by omega) h2
    ·have:m = q:=by omega
     subst this
     rw [List.getElem?_set_self (by omega),st,if_neg h3]
     have e1:Int.toNat (m:Int) = m:=by omega
     rw [e1]
     have em:(if ((An10.tab xs ys i (m + 1):Nat):Int) > ((An10.tab xs ys (i + 1) m:Nat):Int) then ((An10.tab xs ys i (m + 1):Nat):Int) else ((An10.tab xs ys (i + 1) m:Nat):Int)) = ((max (An10.tab xs ys (i + 1) m) (An10.tab xs ys i (m + 1)):Nat):Int):=by
      split <;> omega
     rw [← em]
  ·rintro σ H2 ⟨o4,zs,rfl,rfl,zl,hz⟩
   have e:=An10.rowV_ext zl fun m hm=>hz m (by omega) hm
   subst e
   exact ⟨_,rfl,k l _ (fun c u q=>(by rw [zF (zG (s0 c u q) nl)]; exact s0 c u q)) (s0.free nl) upd_same⟩
end f_table_row
namespace f_common_table
abbrev st:Stmt:=top 1
theorem sc:FnScope ["old","new","behind","table","line"] ["old","new"] (zD st):=⟨rfl,rfl,rfl,by decide +kernel,rfl,by decide +kernel,by decide +kernel⟩
theorem ok {f:Addr} {fd:FuncData} (F:Fun K "common_table" "common_table" st f fd) (T:Txt K mg t1 t2) (C_table_row:Cal P w K mg base 1 "table_row" ["line","new","behind"] (An10.spTRow K)):FnOk P w K mg base CX0 4 f fd ["old","new"] (An10.spTable K):=by
 refine F.ok sc (fun vs H Q E h=>?_) (fun cdv A outer s H vs Q E hr h=>?_)
 ·obtain ⟨a,b,xs,ys,rfl,_⟩:=h
  rfl
 ·obtain ⟨a,b,xs,ys,rfl,ha,hb,x1,y1,k⟩:=h
  refine ⟨_,(zB (zO (i:=2) sc.nd rfl (Or.inl rfl) (zU op_rep (yG (zA zH zC)) (zU yN (zQ zN (by rfl) T.len PySem.boot_len (zA (pv 1) zC)) zH)))
   (zB (zO (i:=3) sc.nd rfl (Or.inl rfl) (yG (zA (pv 2) zC)))
   (zB (xA PassesOwn.never rfl (pi_rev rfl T.reversed (zA (pv 0) zC)) (zM (i:=4) sc.nd rfl (Or.inl rfl))
    (zB (zO (i:=2) sc.nd rfl (Or.inl rfl) (zJ C_table_row (hr.mono (by decide)) (zA (pv 4) (zA (pv 1) (zA (pv 2) zC)))))
    (zE (z6 (qG PySem.F.plainAttrs_list PySem.F.slot_list_append PySem.F.type_list_append yQ (pv 3) (zA (pv 2) zC))))))
   (zB (z6 (pe_bm0 PySem.F.plainAttrs_list PySem.F.slot_list_reverse PySem.F.type_list_reverse mt_reverse (pv 3)))
   (zE (zP (pv 3))))))),?_⟩
  refine ⟨lineN 1,fun l0 n0=>?_⟩
  have s0:=same_upd (o:=.lst [V.int 0]) n0
  refine ⟨_,rfl,b,_,rfl,.inr (s0.tupS hb),_,_,rfl,rfl,l0,_,_,rfl,rfl,upd_same,by rw [List.length_map]; omega,by rw [List.length_map]; omega,le_line ?_,fun l nl=>?_⟩
  ·rw [List.length_map]
   simp only [List.length_cons,List.length_nil]; omega
  have lz:(List.replicate ((((ys.map V.str).length:Nat):Int) + 1).toNat [V.int 0]).flatten = An10.rowV xs ys xs.length:=by
   rw [List.length_map]
   have e:Int.toNat ((ys.length:Int) + 1) = ys.length + 1:=by omega
   rw [e,An10.flat_rep]
   refine An10.rowV_ext List.length_replicate fun m hm=>?_
   rw [List.getElem?_replicate,if_pos (by omega),An10.tab_end_l (Nat.le_refl _)]
   rfl
  rw [lz]
  have s1:=s0.trans (same_upd (o:=.lst (An10.rowV xs ys xs.length)) nl)
  have nl0:=s0.free nl
  refine ⟨_,rfl,lineN 1,fun t nt=>?_⟩
  have hl1:upd (upd H l0 (.lst [V.int 0])) l (.lst (An10.rowV xs ys xs.length)) l = some (.lst (An10.rowV xs ys xs.length)):=upd_same
  have nt0:=s1.free nt
  have lt:l ≠ t:=zG hl1 nt
  generalize upd (upd H l0 (.lst [V.int 0])) l (.lst (An10.rowV xs ys xs.length)) = H1 at s1 nt hl1 ⊢
  have s2:=s1.trans (same_upd (o:=.lst [V.ref l]) nt)
  refine ⟨_,rfl,a,_,rfl,s2.tupS ha,for_rev (K:=K) (a:=a) (xs:=xs.map V.str) (fun j σ H2=>∃ (as:List Addr) (bh:Addr) (o4:Option V),σ = [some (.ref a),some (.ref b),some (.ref bh),some (.ref t),o4] /\ Same H H2 /\ H2 t = some (.lst (as.map V.ref)) /\ as.length = j + 1 /\ as[j]? = some bh /\ (∀ m c,as[m]? = some c -> H2 c = some (.lst (An10.rowV xs ys (xs.length - m)))) /\ (t :: as).Nodup /\ ∀ c ∈ t :: as,H c = none)
   ⟨[l],l,none,rfl,s2,upd_same,rfl,rfl,?_,?_,?_⟩ (fun j σ H2 _ ⟨_,_,_,_,e,_⟩=>e.tupS ha) ?_ ?_⟩
  ·intro m c hm
   obtain ⟨rfl,rfl⟩:=An10.get_one hm
   rw [zF lt]
   exact hl1
  ·simp [Ne.symm lt]
  ·intro c hc
   have hc:c = t \/ c = l:=by simpa using hc
   rcases hc with rfl | rfl
   ·exact nt0
   ·exact nl0
  ·rintro j v σ H2 hj hv ⟨as,bh,o4,rfl,s3,ht,asl,abh,rows,nd,fr⟩
   rw [List.length_map] at hj hv
   rw [List.getElem?_map] at hv
   cases q:xs[xs.length - 1 - j]? with
   | none=>rw [q] at hv; cases hv
   | some x =>
    rw [q] at hv
    have hv:V.str x = v:=Option.some.inj hv
    subst hv
    have hbh:=rows j bh abh
    have ej:xs.length - j = xs.length - 1 - j + 1:=by omega
    rw [ej] at hbh
    refine ⟨_,rfl,_,rfl,_,rfl,x,b,bh,xs,ys,_,rfl,s3.tupS hb,hbh,q,y1,fun r H3 s4 nr hr3=>?_⟩
    have ht3:=s4 _ _ ht
    have rt:r ≠ t:=fun z=>zG ht nr z.symm
    refine ⟨_,rfl,.inl ⟨rfl,_,SqL.of ht3⟩,_,rfl,t,_,_,rfl,rfl,ht3,yX (by rw [List.length_map]; omega),as ++ [r],r,_,rfl,?_,?_,?_,?_,?_,?_,?_⟩
    ·exact An.Same.updF (s3.trans s4) (fr t List.mem_cons_self)
    ·rw [upd_same,List.map_append]; rfl
    ·rw [List.length_append,asl]; rfl
    ·rw [List.getElem?_append_right (by omega),asl,Nat.sub_self]; rfl
    ·intro m c hm
     rcases Nat.lt_or_ge m as.length with hm1 | hm1
     ·rw [List.getElem?_append_left hm1] at hm
      have ct:c ≠ t:=fun z=>(List.nodup_cons.mp nd).1 (z ▸ List.mem_of_getElem? hm)
      rw [zF ct]
      exact s4 _ _ (rows m c hm)
     ·rw [List.getElem?_append_right hm1] at hm
      obtain ⟨e0,rfl⟩:=An10.get_one hm
      have em:xs.length - m = xs.length - 1 - j:=by omega
      rw [zF rt,em]
      exact hr3
    ·have nra:r ∉ as:=fun z=>by
      obtain ⟨m,hm⟩:=List.getElem?_of_mem z
      exact zG (rows m r hm) nr rfl
     rw [← List.cons_append]
     refine List.nodup_append.mpr ⟨nd,by simp,?_⟩
     intro c hc d hd
     rw [List.mem_singleton.mp hd]
     rcases List.mem_cons.mp hc with rfl | hc
     ·exact Ne.symm rt
     ·exact fun z=>nra (z ▸ hc)
    ·intro c hc
     rcases List.mem_cons.mp hc with rfl | hc
     ·exact fr _ List.mem_cons_self
     ·rcases List.mem_append.mp hc with hc | hc
      ·exact fr c (List.mem_cons_of_mem _ hc)
      ·rw [List.mem_singleton.mp hc]; exact s3.free nr
  ·rintro σ H2 ⟨as,bh,o4,rfl,s3,ht,asl,abh,rows,nd,fr⟩
   rw [List.length_map] at asl
   refine ⟨_,rfl,.inl ⟨rfl,_,SqL.of ht⟩,t,_,rfl,rfl,ht,_,rfl,k t as.reverse _ (An.Same.updF s3 (fr t List.mem_cons_self)) ⟨?_,by rw [List.length_reverse]; exact asl,?_⟩ ?_ ?_⟩
   ·rw [upd_same,List.map_reverse]
   ·intro i c hc
    have hi:i < as.length:=by
     have:=(List.getElem?_eq_some_iff.mp hc).1
     rwa [List.length_reverse] at this
    rw [List.getElem?_reverse hi] at hc
    have ct:c ≠ t:=fun z=>(List.nodup_cons.mp nd).1 (z ▸ List.mem_of_getElem? hc)
    rw [zF ct,rows _ c hc]
    have e:xs.length - (as.length - 1 - i) = i:=by omega
    rw [e]
   ·rw [List.nodup_cons] at nd ⊢
    exact ⟨fun z=>nd.1 (List.mem_reverse.mp z),List.pairwise_reverse.mpr (nd.2.imp fun h=>Ne.symm h)⟩
   ·intro c hc
    rcases List.mem_cons.mp hc with rfl | hc
    ·exact fr _ List.mem_cons_self
    ·exact fr c (List.mem_cons_of_mem _ (List.mem_reverse.mp hc))
end f_common_table
namespace f_kept_pairs
abbrev st:Stmt:=top 3
theorem sc:FnScope ["old","new","table","pairs","i","k"] ["old","new"] (zD st):=⟨rfl,rfl,rfl,by decide +kernel,rfl,by decide +kernel,by decide +kernel⟩
theorem ok {f:Addr} {fd:FuncData} (F:Fun K "kept_pairs" "kept_pairs" st f fd) (T:Txt K mg t1 t2) (C_common_table:Cal P w K mg base 4 "common_table" ["old","new"] (An10.spTable K)):FnOk P w K mg base CX0 5 f fd ["old","new"] (An10.spKept K):=by
 refine F.ok sc (fun vs H Q E h=>?_) (fun cdv A outer s H vs Q E hr h=>?_)
 ·obtain ⟨a,b,xs,ys,rfl,_⟩:=h
  rfl
 ·obtain ⟨a,b,xs,ys,rfl,ha,hb,x1,y1,_,_,k⟩:=h
  refine ⟨_,(zB (zO (i:=2) sc.nd rfl (Or.inl rfl) (zJ C_common_table (hr.mono (by decide)) (zA (pv 0) (zA (pv 1) zC))))
   (zB (zO (i:=3) sc.nd rfl (Or.inl rfl) (yG zC))
   (zB (zO (i:=4) sc.nd rfl (Or.inl rfl) zH)
   (zB (zO (i:=5) sc.nd rfl (Or.inl rfl) zH)
   (zB (ps_while PassesOwn.never (PW.pt (pw_and (zI op_lt (pv 4) (zQ zN (by rfl) T.len PySem.boot_len (zA (pv 0) zC)) (zK _)) (jQ (zI op_lt (pv 5) (zQ zN (by rfl) T.len PySem.boot_len (zA (pv 1) zC)) (zK _)))))
    (zE (z5 (zI qX (zW (ix_tup:IxR _ (rIxT K)) (pv 0) (pv 4) (fun _ _=>rfl)) (zW (ix_tup:IxR _ (rIxT K)) (pv 1) (pv 5) (fun _ _=>rfl)) (zK _))
     (zB (z6 (qG PySem.F.plainAttrs_list PySem.F.slot_list_append PySem.F.type_list_append yQ (pv 3) (zA (yA (zA (pv 4) (zA (pv 5) zC))) zC)))
     (zB (ps_aug (i:=4) sc.nd rfl (Or.inl rfl) zH ip_add)
     (zE (ps_aug (i:=5) sc.nd rfl (Or.inl rfl) zH ip_add))))
     (zE (z5 (zI op_ge (zW (ix_list:IxR _ (rIxL K)) (zW (ix_list:IxR _ (rIxL K)) (pv 2) (zU yN (pv 4) zH) (fun _ _=>rfl)) (pv 5) (fun _ _=>rfl)) (zW (ix_list:IxR _ (rIxL K)) (zW (ix_list:IxR _ (rIxL K)) (pv 2) (pv 4) (fun _ _=>rfl)) (zU yN (pv 5) zH) (fun _ _=>rfl)) (zK _))
      (zE (ps_aug (i:=4) sc.nd rfl (Or.inl rfl) zH ip_add))
      (zE (ps_aug (i:=5) sc.nd rfl (Or.inl rfl) zH ip_add)))))))
   (zE (zP (pv 3)))))))),?_⟩
  refine ⟨_,rfl,_,rfl,a,b,xs,ys,rfl,ha,hb,x1,y1,fun t as H1 s1 hT _ _=>⟨Nat.zero_le _,fun l nl=>?_⟩⟩
  have asl:=hT.len
  have nl0:=s1.free nl
  have s0:=s1.trans (same_upd (o:=.lst []) nl)
  have hT0:An10.TabAt (upd H1 l (.lst [])) xs ys t as:=⟨same_upd nl _ _ hT.at_,asl,fun i c hc=>same_upd nl _ _ (hT.row i c hc)⟩
  have tl0:t ≠ l:=zG hT.at_ nl
  refine ⟨fun m σ H2=>∃ (i j f:Nat) (ts:List Addr) (ps:List (Nat × Nat)),m = (xs.length - i) + (ys.length - j) /\ σ = [some (.ref a),some (.ref b),some (.ref t),some (.ref l),some (.int i),some (.int j)] /\ Same H H2 /\ An10.TabAt H2 xs ys t as /\ H2 l = some (.lst (ts.map V.ref)) /\ ts.length = ps.length /\
    (∀ (m:Nat) (c:Addr) (p:Nat × Nat),ts[m]? = some c -> ps[m]? = some p -> H2 c = some (.tup [V.int p.1,V.int p.2])) /\ ps.length <= i /\ i <= xs.length /\ j <= ys.length /\ (xs.length - i) + (ys.length - j) <= f /\ ps ++ An10.path xs ys f i j = An10.path xs ys (xs.length + ys.length) 0 0,
   ⟨_,0,0,xs.length + ys.length,[],[],rfl,rfl,s0,hT0,upd_same,rfl,fun m c p h=>(by simp at h),Nat.zero_le _,Nat.zero_le _,Nat.zero_le _,by omega,rfl⟩,?_⟩
  rintro m σ H2 ⟨i,j,f,ts,ps,rfl,rfl,s2,hT2,hl,tl,rows,pl,il,jl,fl,eq⟩
  have fin:(xs.length <= i \/ ys.length <= j) -> Q (.ref l) H2:=fun hd=>by
   rw [An10.path_end hd,List.append_nil] at eq
   rw [← eq] at k
   exact k l _ s2 nl0 ⟨ts,hl,tl,rows⟩
  refine ⟨_,rfl,_,rfl,a,_,rfl,.inr (s2.tupS ha),_,_,rfl,rfl,_,rfl,ite2 (fun h1=>?_) (fun h1=>?_)⟩
  ·have h1:i < xs.length:=by rw [List.length_map] at h1; have:=of_decide_eq_true h1; omega
   refine ⟨_,rfl,_,rfl,b,_,rfl,.inr (s2.tupS hb),_,_,rfl,rfl,_,rfl,ite2 (fun h2=>?_) (fun h2=>?_)⟩
   ·have h2:j < ys.length:=by rw [List.length_map] at h2; have:=of_decide_eq_true h2; omega
    refine ⟨_,fun _ _ z=>z,?_⟩
    obtain ⟨f,rfl⟩:∃ g,f = g + 1:=⟨f - 1,by omega⟩
    obtain ⟨x,hx,hxat⟩:=qK (f:=V.str) (xs:=xs) (i:=((i:Nat):Int)) (by omega) (by omega)
    obtain ⟨y,hy,hyat⟩:=qK (f:=V.str) (xs:=ys) (i:=((j:Nat):Int)) (by omega) (by omega)
    have hx:xs[i]? = some x:=hx
    have hy:ys[j]? = some y:=hy
    have stp:=An10.path_step (f:=f) hx hy
    refine ⟨_,rfl,_,rfl,a,_,_,_,rfl,rfl,s2.tupS ha,hxat,_,rfl,_,rfl,b,_,_,_,rfl,rfl,s2.tupS hb,hyat,rfl,_,rfl,ite2 (fun h3=>?_) (fun h3=>?_)⟩
    ·have h3:V.str x = V.str y:=of_decide_eq_true h3
     injection h3 with h3
     rw [if_pos h3] at stp
     rw [stp] at eq
     refine ⟨_,rfl,.inl ⟨rfl,_,SqL.of hl⟩,_,rfl,_,rfl,lineN 2,fun c nc=>?_⟩
     have lc:l ≠ c:=zG hl nc
     have sc2:=same_upd (o:=.tup [V.int i,V.int j]) nc
     refine ⟨l,_,_,rfl,rfl,by rw [zF lc]; exact hl,yX (by rw [List.length_map]; omega),_,rfl,_,_,rfl,rfl,_,rfl,_,_,rfl,rfl,_,?_,i + 1,j + 1,f,ts ++ [c],ps ++ [(i,j)],rfl,rfl,An.Same.updF (s2.trans sc2) nl0,⟨?_,asl,?_⟩,?_,by simp [tl],?_,by simp; omega,by omega,by omega,by omega,?_⟩
     ·omega
     ·rw [zF tl0]; exact sc2 _ _ hT2.at_
     ·intro i' c' hc'
      have hr:=hT2.row i' c' hc'
      have cl:c' ≠ l:=zG (hT.row i' c' hc') nl
      rw [zF cl]; exact sc2 _ _ hr
     ·rw [upd_same,List.map_append]; rfl
     ·intro m c' p hc hp
      rcases An.snoc_get hc with ⟨m1,hc1⟩ | ⟨m1,hc1⟩
      ·rcases An.snoc_get hp with ⟨m2,hp1⟩ | ⟨m2,hp1⟩
       ·have hr:=rows m c' p hc1 hp1
        have d1:c' ≠ c:=zG hr nc
        have d2:c' ≠ l:=fun z=>by rw [z,hl] at hr; cases hr
        rw [zF d2,zF d1]
        exact hr
       ·omega
      ·rcases An.snoc_get hp with ⟨m2,hp1⟩ | ⟨m2,hp1⟩
       ·omega
       ·rw [hc1,hp1,zF (Ne.symm lc)]
        exact upd_same
     ·rw [List.append_assoc]
      exact eq
    ·have h3:¬ x = y:=fun z=>h3 (decide_eq_true (by rw [z]))
     rw [if_neg h3] at stp
     rw [stp] at eq
     have tb:∀ {i:Nat},i <= xs.length -> ∃ ai,atI (as.map V.ref) ((i:Nat):Int) = some (.ref ai) /\ H2 ai = some (.lst (An10.rowV xs ys i)):=fun {i} hi=>by
      obtain ⟨ai,h1,h2⟩:=qK (f:=V.ref) (xs:=as) (i:=((i:Nat):Int)) (by omega) (by omega)
      have h1:as[i]? = some ai:=h1
      exact ⟨ai,h2,hT2.row i ai h1⟩
     obtain ⟨ai,hat,hrow⟩:=tb il
     obtain ⟨ai1,hat1,hrow1⟩:=tb (i:=i + 1) h1
     have hat1:atI (as.map V.ref) (((i:Nat):Int) + 1) = some (.ref ai1):=hat1
     have T0:=SqL.of (K:=K) hT2.at_
     refine ⟨_,rfl,_,rfl,_,_,rfl,rfl,t,_,_,_,rfl,rfl,T0,hat1,_,rfl,ai1,_,_,_,rfl,rfl,SqL.of hrow1,An10.row_at (by omega) (by omega),_,rfl,_,rfl,t,_,_,_,rfl,rfl,T0,hat,_,rfl,_,_,rfl,rfl,ai,_,_,_,rfl,rfl,SqL.of hrow,An10.row_at (by omega) (by omega),_,_,rfl,rfl,_,rfl,ite2 (fun h4=>?_) (fun h4=>?_)⟩
     ·have h4:An10.tab xs ys i (j + 1) <= An10.tab xs ys (i + 1) j:=Int.ofNat_le.mp (of_decide_eq_true h4)
      rw [if_pos h4] at eq
      exact ⟨_,rfl,_,_,rfl,rfl,_,by omega,i + 1,j,f,ts,ps,rfl,rfl,s2,hT2,hl,tl,rows,by omega,h1,jl,by omega,eq⟩
     ·have h4:¬ An10.tab xs ys i (j + 1) <= An10.tab xs ys (i + 1) j:=fun z=>h4 (decide_eq_true (Int.ofNat_le.mpr z))
      rw [if_neg h4] at eq
      exact ⟨_,rfl,_,_,rfl,rfl,_,by omega,i,j + 1,f,ts,ps,rfl,rfl,s2,hT2,hl,tl,rows,by omega,il,h2,by omega,eq⟩
   ·have h2:ys.length <= j:=by rw [List.length_map] at h2; have h2':¬ ((j:Int)) < ys.length:=fun z=>h2 (decide_eq_true z); omega
    exact ⟨_,rfl,fin (.inr h2)⟩
  ·have h1:xs.length <= i:=by rw [List.length_map] at h1; have h1':¬ ((i:Int)) < xs.length:=fun z=>h1 (decide_eq_true z); omega
   exact ⟨_,rfl,fin (.inl h1)⟩
end f_kept_pairs
namespace f_spans_of
abbrev st:Stmt:=top 4
theorem sc:FnScope ["old","new","spans","low","start","high","end"] ["old","new"] (zD st):=⟨rfl,rfl,rfl,by decide +kernel,rfl,by decide +kernel,by decide +kernel⟩
theorem ok {f:Addr} {fd:FuncData} (F:Fun K "spans_of" "spans_of" st f fd) (T:Txt K mg t1 t2) (C_kept_pairs:Cal P w K mg base 5 "kept_pairs" ["old","new"] (An10.spKept K)):FnOk P w K mg base CX0 6 f fd ["old","new"] (An12.spSpans K):=by
 refine F.ok sc (fun vs H Q E h=>?_) (fun cdv A outer s H vs Q E hr h=>?_)
 ·obtain ⟨a,b,xs,ys,rfl,_⟩:=h
  rfl
 ·obtain ⟨a,b,xs,ys,rfl,ha,hb,x1,y1,xok,yok,k⟩:=h
  refine ⟨_,(zB (zO (i:=2) sc.nd rfl (Or.inl rfl) (yG zC))
   (zB (zO (i:=3) sc.nd rfl (Or.inl rfl) zH)
   (zB (zO (i:=4) sc.nd rfl (Or.inl rfl) zH)
   (zB (xA PassesOwn.never rfl (z8 (zU op_cat (zJ C_kept_pairs (hr.mono (by decide)) (zA (pv 0) (zA (pv 1) zC))) (yG (zA (yA (zA (zQ zN (by rfl) T.len PySem.boot_len (zA (pv 0) zC)) (zA (zQ zN (by rfl) T.len PySem.boot_len (zA (pv 1) zC)) zC))) zC)))) (jN rfl (zY (zM (i:=5) sc.nd rfl (Or.inl rfl)) (zY (zM (i:=6) sc.nd rfl (Or.inl rfl)) qE)))
    (pss_cut (z5 (PW.pt (xH (zI op_lt (pv 3) (pv 5) (zK _)) (y6 (zI op_lt (pv 4) (pv 6) (zK _)))))
     (zE (z6 (qG PySem.F.plainAttrs_list PySem.F.slot_list_append PySem.F.type_list_append yQ (pv 2) (zA (yA (zA (pv 3) (zA (pv 5) (zA (z3 (sl_tup2:SlR _ (rSlT2 K)) (pv 1) (zX (pv 4)) (zX (pv 6))) zC)))) zC))))
     zT)
    (zB (zO (i:=3) sc.nd rfl (Or.inl rfl) (zU yN (pv 5) zH))
    (zE (zO (i:=4) sc.nd rfl (Or.inl rfl) (zU yN (pv 6) zH))))))
   (zE (zP (pv 2))))))),?_⟩
  refine ⟨Nat.zero_le _,fun o no=>?_⟩
  have s00:=same_upd (o:=.lst []) no
  refine ⟨_,rfl,_,rfl,a,b,xs,ys,rfl,s00.tupS ha,s00.tupS hb,x1,y1,fun x hx=>An12.lineB_Ok (xok x hx),fun y hy=>An12.lineB_Ok (yok y hy),fun l Hk sk nl hp=>?_⟩
  have s0:=s00.trans sk
  have hok:=sk _ _ (upd_same (H:=H) (a:=o) (o:=.lst []))
  have rise:An10.Rise xs ys 0 0 (An10.path xs ys (xs.length + ys.length) 0 0):=An10.path_rise _ 0 0
  have p1:(An10.path xs ys (xs.length + ys.length) 0 0).length <= xs.length:=by
   rw [An10.path_len _ 0 0 (by omega)]
   have:=An10.tab_le (xs:=xs) (ys:=ys) (i:=0) (k:=0)
   omega
  generalize hps:An10.path xs ys (xs.length + ys.length) 0 0 = ps at hp rise p1
  have k:∀ (l:Addr) H',Same H H' -> H l = none -> Dt K H' (.list ((An12.spanL xs ys 0 0 ps).map An12.rowDat)) (.ref l) -> Q (.ref l) H':=by rw [← hps]; exact k
  obtain ⟨ts,hts,tl,rows⟩:=hp
  refine ⟨_,rfl,a,_,rfl,.inr (s0.tupS ha),_,rfl,b,_,rfl,.inr (s0.tupS hb),lineN 2,fun t0 n0=>?_⟩
  have u0:=same_upd (o:=.tup [V.int ((xs.map V.str).length:Nat),V.int ((ys.map V.str).length:Nat)]) n0
  refine ⟨lineN 1,fun l1 n1=>?_⟩
  have u1:=same_upd (o:=.lst [V.ref t0]) n1
  refine ⟨l,l1,_,_,rfl,rfl,(u0.trans u1) _ _ hts,upd_same,le_line (by rw [List.length_map]; simp; omega),fun l2 n2=>?_⟩
  have u2:=same_upd (o:=.lst (ts.map V.ref ++ [V.ref t0])) n2
  have v3:=(u0.trans u1).trans u2
  have s3:=s0.trans v3
  have ho3:=v3 _ _ hok
  have h03:upd (upd (upd Hk t0 (.tup [V.int ((xs.map V.str).length:Nat),V.int ((ys.map V.str).length:Nat)])) l1 (.lst [V.ref t0])) l2 (.lst (ts.map V.ref ++ [V.ref t0])) t0 = some (.tup [V.int ((xs.length:Nat):Int),V.int ((ys.length:Nat):Int)]):=by
   have e:=(u1.trans u2) _ _ upd_same
   rw [e,List.length_map,List.length_map]
  have hl3:upd (upd (upd Hk t0 (.tup [V.int ((xs.map V.str).length:Nat),V.int ((ys.map V.str).length:Nat)])) l1 (.lst [V.ref t0])) l2 (.lst (ts.map V.ref ++ [V.ref t0])) l2 = some (.lst ((ts ++ [t0]).map V.ref)):=by
   rw [upd_same,List.map_append]; rfl
  have dol:l2 ≠ o:=(zG ((u0.trans u1) _ _ hok) n2).symm
  generalize upd (upd (upd Hk t0 (.tup [V.int ((xs.map V.str).length:Nat),V.int ((ys.map V.str).length:Nat)])) l1 (.lst [V.ref t0])) l2 (.lst (ts.map V.ref ++ [V.ref t0])) = H3 at v3 s3 ho3 h03 hl3
  obtain ⟨all,hall⟩:∃ all,all = ps ++ [(xs.length,ys.length)]:=⟨_,rfl⟩
  have al:all.length = ps.length + 1:=by rw [hall]; simp
  have rows3:∀ (i:Nat) (t:Addr),(ts ++ [t0])[i]? = some t -> ∃ p:Nat × Nat,all[i]? = some p /\ p.2 <= ys.length /\ (i < ps.length -> p.2 < ys.length) /\ t ≠ o /\ H3 t = some (.tup [V.int p.1,V.int p.2]):=fun i t ht=>by
   rcases An.snoc_get ht with ⟨hi,q⟩ | ⟨hi,rfl⟩
   ·have hil:i < ps.length:=by rw [← tl]; exact hi
    have hpi:ps[i]? = some ps[i]:=List.getElem?_eq_getElem hil
    have hq:=rows i t _ q hpi
    have hle:=(An12.rise_le rise ps[i] (List.getElem_mem hil)).2
    have tno:t ≠ o:=fun z=>by rw [z,hok] at hq; cases hq
    exact ⟨ps[i],by rw [hall,List.getElem?_append_left hil]; exact hpi,Nat.le_of_lt hle,fun _=>hle,tno,v3 _ _ hq⟩
   ·refine ⟨(xs.length,ys.length),by rw [hall,hi,tl,List.getElem?_append_right (Nat.le_refl _)]; simp,Nat.le_refl _,fun z=>by omega,fun z=>?_,h03⟩
    rw [z] at h03
    rw [ho3] at h03; cases h03
  have k3:Same (An12.hide H3 o) (An12.hide H3 o):=Same.refl _
  refine ⟨l2,rfl,⟨_,SqL.of hl3⟩,yP (K:=K) (a:=l2) (xs:=(ts ++ [t0]).map V.ref) (fun j σ H2=>∃ (lo fi:Nat) (acc:List An12.Row) (vs:List V) (o6 o7:Option V),σ = [some (.ref a),some (.ref b),some (.ref o),some (.int lo),some (.int fi),o6,o7] /\ Same (An12.hide H3 o) (An12.hide H2 o) /\ H2 o = some (.lst vs) /\ DtAll K (An12.hide H2 o) (acc.map An12.rowDat) vs /\ acc.length <= j /\ (j <= ps.length -> fi <= ys.length) /\ acc ++ An12.spanT ys lo fi (all.drop j) = An12.spanL xs ys 0 0 ps)
   ⟨0,0,[],[],none,none,rfl,k3,ho3,rfl,Nat.le_refl _,fun _=>Nat.zero_le _,by rw [List.drop_zero,List.nil_append,hall,An12.spanT_all]⟩ (fun j σ H2 _ ⟨_,_,_,_,_,_,_,e,_⟩=>SqL.of ((An12.hide_same H2 o) _ _ (e _ _ ((An12.hide_ne dol).trans hl3)))) ?_ ?_⟩
  ·rintro j x σ H2 hj ⟨lo,fi,acc,vs,o6,o7,rfl,e2,ho2,hacc,accl,fil,eq⟩
   rw [List.getElem?_map] at hj
   cases q:(ts ++ [t0])[j]? with
   | none=>rw [q] at hj; cases hj
   | some t =>
    rw [q] at hj
    have hj:V.ref t = x:=Option.some.inj hj
    subst hj
    obtain ⟨p,hp,hp2,hp3,tno,hpt⟩:=rows3 j t q
    have hjl:j < all.length:=(List.getElem?_eq_some_iff.mp hp).1
    have hd:all.drop j = p :: all.drop (j + 1):=by
     obtain ⟨hj',ej⟩:=List.getElem?_eq_some_iff.mp hp
     rw [List.drop_eq_getElem_cons hj',ej]
    have fil:=fil (by omega)
    have keep:∀ {b u},b ≠ o -> H3 b = some u -> H2 b = some u:=fun {b u} hb h=>(An12.hide_same H2 o) _ _ (e2 _ _ ((An12.hide_ne hb).trans h))
    have hb2:SqT K H2 b (ys.map V.str):=(An12.hide_same H2 o).tupS (e2.tupS (An12.tup_hide ho3 (s3.tupS hb)))
    rw [hd] at eq
    refine ⟨t,_,rfl,SqT.of (keep tno hpt),rfl,_,_,rfl,_,_,rfl,rfl,?_⟩
    refine ⟨fun σ' H'=>∃ (acc:List An12.Row) (vs:List V),σ' = [some (.ref a),some (.ref b),some (.ref o),some (.int lo),some (.int fi),some (.int p.1),some (.int p.2)] /\ Same (An12.hide H3 o) (An12.hide H' o) /\ H' o = some (.lst vs) /\ DtAll K (An12.hide H' o) (acc.map An12.rowDat) vs /\ acc.length <= j + 1 /\ acc ++ An12.spanT ys (p.1 + 1) (p.2 + 1) (all.drop (j + 1)) = An12.spanL xs ys 0 0 ps,?_,?_⟩
    ·refine ⟨_,rfl,_,rfl,_,_,rfl,rfl,_,rfl,ite2 (fun h1=>iteT ?b) (fun h1=>⟨_,rfl,_,rfl,_,_,rfl,rfl,_,rfl,ite2 (fun h2=>?c) (fun h2=>?_)⟩)⟩
     case b | c =>
      have hc:lo < p.1 \/ fi < p.2:=by
       first
        | exact .inl (by have:=of_decide_eq_true h1; omega)
        | exact .inr (by have:=of_decide_eq_true h2; omega)
      have eq:acc ++ ((if lo < p.1 \/ fi < p.2 then [An12.spanR lo p.1 ((ys.drop fi).take (p.2 - fi))] else []) ++ An12.spanT ys (p.1 + 1) (p.2 + 1) (all.drop (j + 1))) = An12.spanL xs ys 0 0 ps:=eq
      rw [if_pos hc] at eq
      have vl:=hacc.length
      rw [List.length_map] at vl
      refine ⟨_,rfl,.inl ⟨rfl,_,SqL.of ho2⟩,_,rfl,_,rfl,_,rfl,_,rfl,_,rfl,_,rfl,_,rfl,b,_,rfl,hb2,fun v H4 hv=>?_⟩
      obtain ⟨q4,rfl,s4,hq4⟩:=An12.cut_any hb2 hv
      rw [An12.cut_mid fil hp2] at hq4
      refine ⟨lineN 3,fun t1 n1=>?_⟩
      have s5:=s4.trans (same_upd (o:=.tup [V.int lo,V.int p.1,V.ref q4]) n1)
      have hot:o ≠ t1:=zG (s4 _ _ ho2) n1
      have ho5:=s5 _ _ ho2
      refine ⟨o,_,_,rfl,rfl,ho5,yX (by omega),acc ++ [An12.spanR lo p.1 ((ys.drop fi).take (p.2 - fi))],vs ++ [V.ref t1],rfl,?_,upd_same,?_,by rw [List.length_append,List.length_singleton]; omega,by rw [List.append_assoc]; exact eq⟩
      ·rw [An12.hide_upd]
       exact e2.trans (An12.same_hide o s5)
      ·rw [An12.hide_upd,List.map_append]
       refine DtAll.append (DtAll.same (An12.same_hide o s5) _ _ hacc) ⟨.ref t1,[],rfl,⟨t1,_,rfl,An12.tup_hide ho5 (SqT.of upd_same),_,_,rfl,rfl,_,_,rfl,rfl,_,_,rfl,⟨q4,_,rfl,An12.tup_hide ho5 ((same_upd n1).tupS hq4),DtAll.strs _⟩,rfl⟩,rfl⟩
     have eq:acc ++ ((if lo < p.1 \/ fi < p.2 then [An12.spanR lo p.1 ((ys.drop fi).take (p.2 - fi))] else []) ++ An12.spanT ys (p.1 + 1) (p.2 + 1) (all.drop (j + 1))) = An12.spanL xs ys 0 0 ps:=eq
     rw [if_neg (fun z=>z.elim (fun z=>h1 (decide_eq_true (by omega))) fun z=>h2 (decide_eq_true (by omega)))] at eq
     exact ⟨acc,vs,rfl,e2,ho2,hacc,by omega,eq⟩
    ·rintro σ' H' ⟨acc,vs,rfl,e3,ho',hacc',accl',eq'⟩
     refine ⟨_,rfl,_,_,rfl,rfl,_,rfl,_,_,rfl,rfl,p.1 + 1,p.2 + 1,acc,vs,_,_,rfl,e3,ho',hacc',accl',fun z=>?_,eq'⟩
     have:=hp3 (by omega)
     omega
  ·rintro σ H2 ⟨lo,fi,acc,vs,o6,o7,rfl,e2,ho2,hacc,accl,_,eq⟩
   have e0:all.drop ((ts ++ [t0]).map V.ref).length = []:=List.drop_of_length_le (by rw [List.length_map,List.length_append,tl,al]; exact Nat.le_refl _)
   rw [e0] at eq
   have eq:acc ++ [] = An12.spanL xs ys 0 0 ps:=eq
   rw [List.append_nil] at eq
   refine ⟨_,rfl,k o H2 (fun c u hc=>?_) no ?_⟩
   ·have hco:c ≠ o:=zG hc no
    exact (An12.hide_same H2 o) _ _ (e2 _ _ ((An12.hide_ne hco).trans (s3 _ _ hc)))
   ·rw [← eq]
    exact ⟨o,vs,rfl,SqL.of ho2,DtAll.same (An12.hide_same H2 o) _ _ hacc⟩
end f_spans_of
namespace f_spans_done
abbrev st:Stmt:=top 5
theorem sc:FnScope ["old","rows","done","place","low","high","lines"] ["old","rows"] (zD st):=⟨rfl,rfl,rfl,by decide +kernel,rfl,by decide +kernel,by decide +kernel⟩
theorem ok {f:Addr} {fd:FuncData} (F:Fun K "spans_done" "spans_done" st f fd) (T:Txt K mg t1 t2):FnOk P w K mg base CX0 1 f fd ["old","rows"] (An12.spDone K):=by
 refine F.ok sc (fun vs H Q E h=>?_) (fun cdv A outer s H vs Q E hr h=>?_)
 ·obtain ⟨a,l,xs,rs,rfl,_⟩:=h
  rfl
 ·obtain ⟨a,l,xs,rs,rfl,ha,hd,x1,r1,ends,k⟩:=h
  refine ⟨_,(zB (zO (i:=2) sc.nd rfl (Or.inl rfl) (yG zC))
   (zB (zO (i:=3) sc.nd rfl (Or.inl rfl) zH)
   (zB (xA PassesOwn.never rfl (z8 (pv 1)) (jN rfl (zY (zM (i:=4) sc.nd rfl (Or.inl rfl)) (zY (zM (i:=5) sc.nd rfl (Or.inl rfl)) (zY (zM (i:=6) sc.nd rfl (Or.inl rfl)) qE))))
    (zB (z6 (qG PySem.F.plainAttrs_list PySem.F.slot_list_extend PySem.F.type_list_extend x5 (pv 2) (zA (z3 (sl_tup2:SlR _ (rSlT2 K)) (pv 0) (zX (pv 3)) (zX (pv 4))) zC)))
    (zB (z6 (qG PySem.F.plainAttrs_list PySem.F.slot_list_extend PySem.F.type_list_extend x5 (pv 2) (zA (pv 6) zC)))
    (zE (zO (i:=3) sc.nd rfl (Or.inl rfl) (pv 5))))))
   (zB (z6 (qG PySem.F.plainAttrs_list PySem.F.slot_list_extend PySem.F.type_list_extend x5 (pv 2) (zA (z3 (sl_tup2:SlR _ (rSlT2 K)) (pv 0) (zX (pv 3)) xJ) zC)))
   (zE (zP (zV xM (by rfl) T.tuple PyProof.Rows.boot_tuple (zA (pv 2) zC)))))))),?_⟩
  obtain ⟨l',vs,e0,hl,hvs⟩:=hd
  have e0:l = l':=by injection e0
  subst e0
  have vl:=hvs.length
  rw [List.length_map] at vl
  refine ⟨Nat.zero_le _,fun o no=>?_⟩
  have s0:=same_upd (o:=.lst []) no
  refine ⟨_,rfl,l,rfl,⟨_,s0.seq hl⟩,yP (K:=K) (a:=l) (xs:=vs) (fun i σ H2=>∃ (pl:Nat) (fr:List Str) (o4 o5 o6:Option V),σ = [some (.ref a),some (.ref l),some (.ref o),some (.int pl),o4,o5,o6] /\ Same H H2 /\ H2 o = some (.lst (fr.map V.str)) /\ fr.length <= 2000 * i /\ pl <= xs.length /\ An12.Ends xs.length pl (rs.drop i) /\ fr ++ An12.patchL xs pl (rs.drop i) = An12.patchL xs 0 rs)
   ⟨0,[],none,none,none,rfl,s0,upd_same,Nat.zero_le _,Nat.zero_le _,ends,rfl⟩ (fun i σ H2 _ ⟨_,_,_,_,_,_,e,_⟩=>e.seq hl) ?_ ?_⟩
  ·rintro i x σ H2 hi ⟨pl,fr,o4,o5,o6,rfl,e2,ho2,frl,pll,end2,eq⟩
   have hil:i < vs.length:=(List.getElem?_eq_some_iff.mp hi).1
   obtain ⟨r,t,v,er,rfl,ht,hd⟩:=An12.rows_get hvs hi
   have hdr:rs.drop i = r :: rs.drop (i + 1):=by
    obtain ⟨hj',ej⟩:=List.getElem?_eq_some_iff.mp er
    rw [List.drop_eq_getElem_cons hj',ej]
   rw [hdr] at end2 eq
   obtain ⟨g1,g2,g3,⟨ls,el,ll⟩,g5⟩:=end2
   rw [el] at hd
   obtain ⟨tl,xs2,rfl,htl,hxs2⟩:=hd
   have hxs2:=DtAll.strs_of hxs2
   subst hxs2
   obtain ⟨lo,hlo⟩:∃ n:Nat,r.1 = n:=⟨r.1.toNat,by omega⟩
   obtain ⟨hi',hhi⟩:∃ n:Nat,r.2.1 = n:=⟨r.2.1.toNat,by omega⟩
   rw [hlo,hhi] at ht
   have ha2:=e2.tupS ha
   refine ⟨t,_,rfl,e2.tupS ht,rfl,_,_,rfl,_,_,rfl,_,_,rfl,rfl,?_⟩
   refine ⟨_,rfl,.inl ⟨rfl,_,SqL.of ho2⟩,_,rfl,_,rfl,_,rfl,_,rfl,_,rfl,a,_,rfl,ha2,fun v H4 hv=>?_⟩
   obtain ⟨q4,rfl,s4,hq4⟩:=An12.cut_any ha2 hv
   rw [An12.cut_mid pll (by omega)] at hq4
   have cl:((xs.drop pl).take (lo - pl)).length <= 1000:=by rw [List.length_take,List.length_drop]; omega
   refine ⟨o,q4,_,_,rfl,rfl,s4 _ _ ho2,hq4,le_line (by rw [List.length_map,List.length_map]; omega),?_⟩
   have s5:Same H (upd H4 o (.lst (fr.map V.str ++ ((xs.drop pl).take (lo - pl)).map V.str))):=An.Same.updF (e2.trans s4) no
   refine ⟨_,rfl,.inl ⟨rfl,_,SqL.of upd_same⟩,_,rfl,o,tl,_,_,rfl,rfl,upd_same,s5.tupS htl,le_line (by rw [List.length_append,List.length_map,List.length_map,List.length_map]; omega),?_⟩
   refine ⟨_,rfl,hi',fr ++ (xs.drop pl).take (lo - pl) ++ ls,_,_,_,rfl,An.Same.updF s5 no,?_,?_,by omega,?_,?_⟩
   ·rw [upd_upd,upd_same,List.map_append,List.map_append]
   ·rw [List.length_append,List.length_append]; omega
   ·rw [hhi,Int.toNat_natCast] at g5; exact g5
   ·have eq:fr ++ ((xs.drop pl).take (r.1.toNat - pl) ++ An12.linesOf r.2.2 ++ An12.patchL xs r.2.1.toNat (rs.drop (i + 1))) = _:=eq
    rw [el,An12.linesOf_strs,hlo,hhi,Int.toNat_natCast,Int.toNat_natCast] at eq
    rw [← eq]
    simp only [List.append_assoc]
  ·rintro σ H2 ⟨pl,fr,o4,o5,o6,rfl,e2,ho2,frl,pll,end2,eq⟩
   have e0:rs.drop vs.length = []:=List.drop_of_length_le (by omega)
   rw [e0] at eq
   have ha2:=e2.tupS ha
   refine ⟨_,rfl,.inl ⟨rfl,_,SqL.of ho2⟩,_,rfl,_,rfl,_,rfl,a,_,rfl,ha2,fun v H4 hv=>?_⟩
   obtain ⟨q4,rfl,s4,hq4⟩:=An12.cut_any ha2 hv
   rw [An12.cut_rest pll] at hq4
   refine ⟨o,q4,_,_,rfl,rfl,s4 _ _ ho2,hq4,le_line (by rw [List.length_map,List.length_map,List.length_drop]; omega),?_⟩
   have s5:Same H (upd H4 o (.lst (fr.map V.str ++ (xs.drop pl).map V.str))):=An.Same.updF (e2.trans s4) no
   refine ⟨_,rfl,o,_,rfl,.inl ⟨SqL.of upd_same,fun p np=>k p _ (s5.trans (same_upd np)) (s5.free np) (SqT.of ?_)⟩⟩
   rw [upd_same,← eq,List.map_append]
   rfl
end f_spans_done
namespace j_near
abbrev st:Stmt:=top 9
theorem sc:FnScope ["one","other"] ["one","other"] (zD st):=⟨rfl,rfl,rfl,by decide +kernel,rfl,by decide +kernel,by decide +kernel⟩
theorem ok {f:Addr} {fd:FuncData} (F:Fun K "near_spans" "near_spans" st f fd) (T:Txt K mg t1 t2):FnOk P w K mg base CX0 1 f fd ["one","other"] (AnJ.spNear K):=by
 refine F.ok sc (fun vs H Q E h=>?_) (fun cdv A outer s H vs Q E hr h=>?_)
 ·obtain ⟨p,q,a,b,c,d,r,r',rfl,_⟩:=h
  rfl
 ·obtain ⟨p,q,a,b,c,d,r,r',rfl,hp,hq,k⟩:=h
  refine ⟨_,(zE (zP (pe_and (yM op_le (zW (ix_tup:IxR _ (rIxT K)) (pv 0) zH (fun _ _=>rfl)) (zW (ix_tup:IxR _ (rIxT K)) (pv 1) zH (fun _ _=>rfl)) (zK _)) (pe_one (yM op_le (zW (ix_tup:IxR _ (rIxT K)) (pv 1) zH (fun _ _=>rfl)) (zW (ix_tup:IxR _ (rIxT K)) (pv 0) zH (fun _ _=>rfl)) (zK _)))))),?_⟩
  refine ⟨_,rfl,p,_,_,_,rfl,rfl,hp,atI_zero _ _,_,rfl,q,_,_,_,rfl,rfl,hq,AnJ.at_one _ _ _,_,_,rfl,rfl,_,rfl,ite2 (fun h1=>?_) (fun h1=>?_)⟩
  ·rw [h1] at k
   exact ⟨_,rfl,q,_,_,_,rfl,rfl,hq,atI_zero _ _,_,rfl,p,_,_,_,rfl,rfl,hp,AnJ.at_one _ _ _,_,_,rfl,rfl,k⟩
  ·rw [Bool.not_eq_true] at h1
   rw [h1] at k
   exact k
end j_near
namespace j_clean
abbrev st:Stmt:=top 14
theorem sc:FnScope ["parts","lines","part"] ["parts"] (zD st):=⟨rfl,rfl,rfl,by decide +kernel,rfl,by decide +kernel,by decide +kernel⟩
theorem ok {f:Addr} {fd:FuncData} (F:Fun K "clean_lines" "clean_lines" st f fd) (T:Txt K mg t1 t2):FnOk P w K mg base CX0 1 f fd ["parts"] (AnJ.spClean K):=by
 refine F.ok sc (fun vs H Q E h=>?_) (fun cdv A outer s H vs Q E hr h=>?_)
 ·obtain ⟨l,ps,rfl,_⟩:=h
  rfl
 ·obtain ⟨l,ps,rfl,hd,n,hs,k1,k2⟩:=h
  refine ⟨_,(zB (zO (i:=1) sc.nd rfl (Or.inl rfl) (yG zC))
   (zB (xA PassesOwn.never rfl (z8 (pv 0)) (zM (i:=2) sc.nd rfl (Or.inl rfl))
    (zB (z5 (zI qX (zW (ix_tup:IxR _ (rIxT K)) (pv 2) zH (fun _ _=>rfl)) zZ (zK _))
     (zE (zP yE))
     zT)
    (zE (z6 (qG PySem.F.plainAttrs_list PySem.F.slot_list_extend PySem.F.type_list_extend x5 (pv 1) (zA (zW (ix_tup:IxR _ (rIxT K)) (pv 2) zH (fun _ _=>rfl)) zC))))))
   (zE (zP (zV xM (by rfl) T.tuple PyProof.Rows.boot_tuple (zA (pv 1) zC)))))),?_⟩
  obtain ⟨l',vs,e0,hl,hvs⟩:=hd
  cases e0
  have vl:=hvs.length
  rw [List.length_map] at vl
  refine ⟨Nat.zero_le _,fun o no=>?_⟩
  have s0:=same_upd (o:=.lst []) no
  refine ⟨_,rfl,l,rfl,⟨_,s0.seq hl⟩,yP (K:=K) (a:=l) (xs:=vs) (fun i σ H2=>∃ (fr:List Str) (o2:Option V),σ = [some (.ref l),some (.ref o),o2] /\ Same H H2 /\ H2 o = some (.lst (fr.map V.str)) /\ fr.length <= 20000 * i /\ AnJ.cleanL ps = (AnJ.cleanL (ps.drop i)).map (fr ++ ·))
   ⟨[],none,rfl,s0,upd_same,Nat.zero_le _,by rw [List.drop_zero]; cases AnJ.cleanL ps <;> rfl⟩ (fun i σ H2 _ ⟨_,_,_,e,_⟩=>e.seq hl) ?_ ?_⟩
  ·rintro i x σ H2 hi ⟨fr,o2,rfl,e2,ho,frl,eq⟩
   obtain ⟨p,ep,hp⟩:=AnJ.dts_get hvs hi
   have hil:i < vs.length:=(List.getElem?_eq_some_iff.mp hi).1
   have hdr:ps.drop i = p :: ps.drop (i + 1):=by
    obtain ⟨hj',ej⟩:=List.getElem?_eq_some_iff.mp ep
    rw [List.drop_eq_getElem_cons hj',ej]
   rw [hdr] at eq
   cases p with
   | same y =>
    obtain ⟨t,q,rfl,h1,h2⟩:=AnJ.same_open hp
    have yl:=hs y (List.mem_of_getElem? ep)
    refine ⟨_,rfl,t,_,_,_,rfl,rfl,e2.tupS h1,rfl,rfl,_,rfl,iteN AnJ.ne_sc ?_⟩
    refine ⟨_,rfl,.inl ⟨rfl,_,SqL.of ho⟩,_,rfl,t,_,_,_,rfl,rfl,e2.tupS h1,rfl,o,q,_,_,rfl,rfl,ho,e2.tupS h2,le_line (by rw [List.length_map,List.length_map]; omega),?_⟩
    refine ⟨fr ++ y,_,rfl,An.Same.updF e2 no,by rw [upd_same,List.map_append],by rw [List.length_append]; omega,?_⟩
    rw [eq]
    show Option.map _ ((AnJ.cleanL (ps.drop (i + 1))).map (y ++ ·)) = _
    cases AnJ.cleanL (ps.drop (i + 1)) with
    | none=>rfl
    | some z =>
     show some (fr ++ (y ++ z)) = some (fr ++ y ++ z)
     rw [List.append_assoc]
   | clash b m y =>
    obtain ⟨t,q1,q2,q3,rfl,h1,h2,h3,h4⟩:=AnJ.clash_open hp
    refine ⟨_,rfl,t,_,_,_,rfl,rfl,e2.tupS h1,rfl,rfl,_,rfl,iteY rfl ?_⟩
    exact k1 eq H2 e2
  ·rintro σ H2 ⟨fr,o2,rfl,e2,ho,frl,eq⟩
   rw [List.drop_of_length_le (by omega)] at eq
   have eq:AnJ.cleanL ps = some (fr ++ []):=eq
   rw [List.append_nil] at eq
   exact ⟨_,rfl,o,_,rfl,.inl ⟨SqL.of ho,fun p np=>k2 fr eq p _ (e2.trans (same_upd np)) (SqT.of upd_same)⟩⟩
end j_clean
namespace j_side
abbrev st:Stmt:=top 11
theorem sc:FnScope ["base","low","high","rows"] ["base","low","high","rows"] (zD st):=⟨rfl,rfl,rfl,by decide +kernel,rfl,by decide +kernel,by decide +kernel⟩
theorem ok {f:Addr} {fd:FuncData} (F:Fun K "side_lines" "side_lines" st f fd) (T:Txt K mg t1 t2) (C_spans_done:Cal P w K mg base 1 "spans_done" ["old","rows"] (An12.spDone K)):FnOk P w K mg base CX0 2 f fd ["base","low","high","rows"] (AnJ.spSide K):=by
 refine F.ok sc (fun vs H Q E h=>?_) (fun cdv A outer s H vs Q E hr h=>?_)
 ·obtain ⟨a,l,lo,hi,xs,rs,rfl,_⟩:=h
  rfl
 ·obtain ⟨a,l,lo,hi,xs,rs,rfl,ha,hd,x1,r1,rl,val,hx,k⟩:=h
  refine ⟨_,(zE (zP (zJ C_spans_done (hr.mono (by decide)) (zA (z3 (sl_tup2:SlR _ (rSlT2 K)) (pv 0) (zX (pv 1)) (zX (pv 2))) (zA (y4 (sc:=zD st) (N:=["base","low","high","rows"]) (N':=["row","low"]) (src:=[none,some 1]) ⟨by decide +kernel,rfl,rfl,by decide +kernel,by decide +kernel,by decide +kernel,by decide +kernel⟩ rfl rfl rfl (z8 (pv 3)) (fun _ _ _ _=>(zM (i:=0) (show (["row","low"]:List Str).Nodup by decide +kernel) rfl (Or.inl rfl))) (fun _ _ _ _=>xX) (fun _ _ _ _=>(yA (zA (zU op_sub (zW (ix_tup:IxR _ (rIxT K)) (pv 0) zH (fun _ _=>rfl)) (pv 1)) (zA (zU op_sub (zW (ix_tup:IxR _ (rIxT K)) (pv 0) zH (fun _ _=>rfl)) (pv 1)) (zA (zW (ix_tup:IxR _ (rIxT K)) (pv 0) zH (fun _ _=>rfl)) zC)))))) zC))))),?_⟩
  obtain ⟨l',vs,e0,hl,hvs⟩:=hd
  cases e0
  have vl:=hvs.length
  rw [List.length_map] at vl
  have lh:=val.le
  refine ⟨_,rfl,_,rfl,_,rfl,_,rfl,_,rfl,a,_,rfl,ha,fun v H1 hv=>?_⟩
  obtain ⟨q1,rfl,s1,hq1⟩:=An12.cut_any ha hv
  rw [An12.cut_mid (by omega) hx] at hq1
  have hq1:SqT K H1 q1 ((AnJ.cut xs lo hi).map V.str):=hq1
  refine ⟨_,rfl,l,rfl,⟨_,s1.seq hl⟩,yK (K:=K) (a:=l) (xs:=vs) (fun i ys σ H2=>∃ o,σ = [o,some (.int lo)] /\ Same H1 H2 /\ ys.length <= i /\ DtAll K H2 (((rs.take i).map fun s=>((s.1:Int) - lo,(s.2.1:Int) - lo,AnJ.tupS s.2.2)).map An12.rowDat) ys) ⟨none,rfl,Same.refl _,Nat.le_refl _,rfl⟩ (le_line (by omega)) ?_ ?_ ?_⟩
  ·rintro i ys σ H2 hi ⟨o,rfl,e,n2,_⟩
   exact ⟨e.seq (s1.seq hl),n2⟩
  ·rintro i x ys σ H2 hi' ⟨o,rfl,e,n2,hy⟩
   obtain ⟨sp,ep,hp⟩:=AnJ.dts_get hvs hi'
   obtain ⟨t,q,rfl,h1,h2⟩:=AnJ.sp_open hp
   have e1:=s1.trans e
   have h1:=e1.tupS h1
   refine ⟨_,rfl,t,_,_,_,rfl,rfl,h1,rfl,_,rfl,_,_,rfl,rfl,_,rfl,t,_,_,_,rfl,rfl,h1,rfl,_,rfl,_,_,rfl,rfl,_,rfl,t,_,_,_,rfl,rfl,h1,rfl,lineN 3,fun p np=>?_⟩
   have u:=same_upd (o:=.tup [V.int ((sp.1:Int) - lo),V.int ((sp.2.1:Int) - lo),V.ref q]) np
   refine ⟨_,rfl,e.trans u,by rw [List.length_append,List.length_singleton]; omega,?_⟩
   rw [List.take_add_one,ep,List.map_append,List.map_append]
   exact DtAll.append (DtAll.same u _ _ hy) ⟨_,_,rfl,⟨p,_,rfl,SqT.of upd_same,_,_,rfl,rfl,_,_,rfl,rfl,_,_,rfl,AnJ.lines_dt (u.tupS (e1.tupS h2)),rfl⟩,rfl⟩
  ·rintro ys σ H2 ⟨o,rfl,e,n2,hy⟩ p np
   rw [vl,List.take_length] at hy
   have u:=same_upd (o:=.lst ys) np
   have e3:=e.trans u
   refine ⟨q1,p,AnJ.cut xs lo hi,_,rfl,e3.tupS hq1,⟨p,ys,rfl,SqL.of upd_same,DtAll.same u _ _ hy⟩,by rw [AnJ.cut_len hx]; omega,by rw [List.length_map]; omega,?_,fun p' H4 s4 f4 hp'=>?_⟩
   ·have:=AnJ.side_ends hx (Nat.le_refl lo) val rl
    rw [Nat.sub_self] at this
    exact this
   ·have:=AnJ.side_patch hx (Nat.le_refl lo) val
    rw [Nat.sub_self] at this
    rw [this] at hp'
    exact k p' H4 (s1.trans (e3.trans s4)) hp'
end j_side
namespace j_add
abbrev st:Stmt:=top 13
theorem sc:FnScope ["parts","lines","ahead","last"] ["parts","lines"] (zD st):=⟨rfl,rfl,rfl,by decide +kernel,rfl,by decide +kernel,by decide +kernel⟩
theorem ok {f:Addr} {fd:FuncData} (F:Fun K "add_same" "add_same" st f fd) (T:Txt K mg t1 t2):FnOk P w K mg base CX0 1 f fd ["parts","lines"] (AnJ.spAddSame K):=by
 refine F.ok sc (fun vs H Q E h=>?_) (fun cdv A outer s H vs Q E hr h=>?_)
 ·obtain ⟨o,q,done,acc,ls,rfl,_⟩:=h
  rfl
 ·obtain ⟨o,q,done,acc,ls,rfl,⟨vs,ho,hv⟩,ns,hq,n1,n2,n3,k⟩:=h
  refine ⟨_,(zB (zO (i:=2) sc.nd rfl (Or.inl rfl) (yA zC))
   (pss_cut (z5 (PW.pt (pw_and (zI op_gt (zQ zN (by rfl) T.len PySem.boot_len (zA (pv 0) zC)) zH (zK _)) (jQ (zI qX (zW (ix_tup:IxR _ (rIxT K)) (zW (ix_list:IxR _ (rIxL K)) (pv 0) (pe_un un_neg zH) (fun _ _=>rfl)) zH (fun _ _=>rfl)) zZ (zK _)))))
    (zB (zO (i:=3) sc.nd rfl (Or.inl rfl) (pe_bm0 PySem.F.plainAttrs_list PySem.F.slot_list_pop PySem.F.type_list_pop mt_pop (pv 0)))
    (zE (zO (i:=2) sc.nd rfl (Or.inl rfl) (zW (ix_tup:IxR _ (rIxT K)) (pv 3) zH (fun _ _=>rfl)))))
    zT)
   (zE (z5 (zI op_gt (zQ zN (by rfl) T.len PySem.boot_len (zA (zU (op_catT2:OpR _ _ (jD K)) (pv 2) (pv 1)) zC)) zH (zK _))
    (zE (z6 (qG PySem.F.plainAttrs_list PySem.F.slot_list_append PySem.F.type_list_append yQ (pv 0) (zA (yA (zA zZ (zA (zU (op_catT2:OpR _ _ (jD K)) (pv 2) (pv 1)) zC))) zC))))
    zT)))),?_⟩
  refine ⟨lineN 0,fun t0 m0=>?_⟩
  have u0:=same_upd (o:=.tup []) m0
  have vl:=hv.length
  rw [List.length_map,List.length_append] at vl
  have ho0:=u0 _ _ ho
  have hv0:=DtAll.same u0 _ _ hv
  have hq0:=u0.tupS hq
  have ht0:SqT K (upd H t0 (.tup [])) t0 (([]:List Str).map V.str):=SqT.of upd_same
  show tSeq _ _ _ _ (upd H t0 (.tup []))
  generalize upd H t0 (.tup []) = H0 at u0 ho0 hv0 hq0 ht0
  refine ⟨fun σ' H'=>∃ (q2:Addr) (o3:Option V),σ' = [some (.ref o),some (.ref q),some (.ref q2),o3] /\ TSame H H' /\ Same (An12.hide H o) (An12.hide H' o) /\ AnJ.PartsAt K H' o done /\ SqT K H' q2 (acc.map V.str),?_,?_⟩
  ·by_cases ea:acc = []
   ·subst ea
    have ef:done ++ AnJ.flush ([]:List Str) = done:=List.append_nil _
    rw [ef] at hv0
    have fin:∃ (q2:Addr) (o3:Option V),[some (V.ref o),some (.ref q),some (.ref t0),none] = [some (.ref o),some (.ref q),some (.ref q2),o3] /\ TSame H H0 /\ Same (An12.hide H o) (An12.hide H0 o) /\ AnJ.PartsAt K H0 o done /\ SqT K H0 q2 (([]:List Str).map V.str) :=
     ⟨t0,none,rfl,same_t u0,An12.same_hide o u0,⟨vs,ho0,hv0⟩,ht0⟩
    rcases List.eq_nil_or_concat done with rfl | ⟨d,p,ed⟩
    ·have e0:vs = []:=List.eq_nil_of_length_eq_zero (by simpa [AnJ.flush] using vl)
     subst e0
     exact ⟨_,rfl,o,_,rfl,.inl (SqL.of ho0),_,_,rfl,rfl,_,rfl,ite2 (fun h=>absurd h (by simp)) fun h=>fin⟩
    ·rw [List.concat_eq_append] at ed
     subst ed
     have hp:=AnJ.noSame_last ns
     cases p with
     | same x=>cases hp
     | clash b m y =>
      obtain ⟨v1,v2,rfl,h1,h2⟩:=AnJ.dts_snoc hv0
      obtain ⟨t,q1,q2,q3,rfl,g1,g2,g3,g4⟩:=AnJ.clash_open h2
      refine ⟨_,rfl,o,_,rfl,.inl (SqL.of ho0),_,_,rfl,rfl,_,rfl,ite2 (fun h=>?_) fun h=>fin⟩
      exact ⟨_,rfl,_,rfl,o,_,_,_,rfl,rfl,SqL.of ho0,AnJ.at_last,t,_,_,_,rfl,rfl,g1,rfl,rfl,_,rfl,iteN AnJ.ne_cs fin⟩
   ·have ef:AnJ.flush acc = [.same acc]:=by
     unfold AnJ.flush
     rw [if_neg fun z=>ea (List.eq_nil_of_length_eq_zero z)]
    rw [ef] at hv0
    obtain ⟨v1,v2,rfl,h1,h2⟩:=AnJ.dts_snoc hv0
    obtain ⟨t,q1,rfl,g1,g2⟩:=AnJ.same_open h2
    refine ⟨_,rfl,o,_,rfl,.inl (SqL.of ho0),_,_,rfl,rfl,_,rfl,ite2 (fun h=>?_) fun h=>absurd (show decide _ = true from decide_eq_true (by rw [List.length_append,List.length_singleton]; omega)) h⟩
    refine ⟨_,rfl,_,rfl,o,_,_,_,rfl,rfl,SqL.of ho0,AnJ.at_last,t,_,_,_,rfl,rfl,g1,rfl,rfl,_,rfl,iteY rfl ?_⟩
    refine ⟨_,rfl,.inl ⟨rfl,_,SqL.of ho0⟩,o,_,_,rfl,rfl,ho0,AnJ.last_get,?_⟩
    have ts:TSame H0 (upd H0 o (.lst (v1 ++ [V.ref t]).dropLast)):=TSame.upd ho0
    refine ⟨_,rfl,t,_,_,_,rfl,rfl,ts.tup g1,rfl,q1,_,rfl,(same_t u0).trans ts,?_,⟨v1,by rw [upd_same,List.dropLast_concat],AnJ.DtAll.ts ts _ _ (AnJ.noL_pts _) h1⟩,ts.tup g2⟩
    rw [An12.hide_upd]
    exact An12.same_hide o u0
  ·rintro σ' H1 ⟨q2,o3,rfl,ts,sh,⟨v1,h1,d1⟩,a1⟩
   have hq1:=ts.tup hq
   have vl1:=d1.length
   rw [List.length_map] at vl1
   refine ⟨_,rfl,_,rfl,q2,q,_,_,rfl,rfl,a1,hq1,le_line (by rw [List.length_map,List.length_map]; omega),fun p2 H2 s2 hp2=>?_⟩
   refine ⟨p2,_,rfl,.inr hp2,_,_,rfl,rfl,_,rfl,ite2 (fun h=>?_) fun h=>?_⟩
   ·have ne:acc ++ ls ≠ []:=fun z=>by
     have h:=of_decide_eq_true h
     have:(acc.map V.str ++ ls.map V.str).length = (acc ++ ls).length:=by simp
     rw [this,z] at h
     exact absurd h (by decide)
    have ef:AnJ.flush (acc ++ ls) = [.same (acc ++ ls)]:=by
     unfold AnJ.flush
     rw [if_neg fun z=>ne (List.eq_nil_of_length_eq_zero z)]
    refine ⟨_,rfl,.inl ⟨rfl,_,SqL.of (s2 _ _ h1)⟩,_,rfl,_,rfl,q2,q,_,_,rfl,rfl,s2.tupS a1,s2.tupS hq1,le_line (by rw [List.length_map,List.length_map]; omega),fun p3 H3 s3 hp3=>⟨lineN 2,fun t m=>?_⟩⟩
    have u3:=same_upd (o:=.tup [V.str "same",V.ref p3]) m
    have s13:=s2.trans (s3.trans u3)
    have ho3:=s13 _ _ h1
    have d3:=DtAll.same s13 _ _ d1
    have hp3':=u3.tupS hp3
    rw [← List.map_append] at hp3'
    have hd3:Dt K (upd H3 t (.tup [V.str "same",V.ref p3])) (AnJ.ptD (.same (acc ++ ls))) (.ref t):=AnJ.same_close (SqT.of upd_same) hp3'
    refine ⟨o,_,_,rfl,rfl,ho3,yX (by omega),?_⟩
    have ts3:TSame (upd H3 t (.tup [V.str "same",V.ref p3])) (upd (upd H3 t (.tup [V.str "same",V.ref p3])) o (.lst (v1 ++ [V.ref t]))):=TSame.upd ho3
    refine k _ ((ts.trans (same_t s13)).trans ts3) ?_ ⟨v1 ++ [V.ref t],upd_same,?_⟩
    ·rw [An12.hide_upd]
     exact sh.trans (An12.same_hide o s13)
    ·rw [ef,List.map_append]
     exact AnJ.DtAll.ts ts3 _ _ (by rw [← List.map_append]; exact AnJ.noL_pts _) (DtAll.append d3 ⟨_,_,rfl,hd3,rfl⟩)
   ·have e0:acc ++ ls = []:=List.eq_nil_of_length_eq_zero (by
     have:(acc.map V.str ++ ls.map V.str).length = (acc ++ ls).length:=by simp
     rw [this] at h
     have h:¬ ((acc ++ ls).length:Int) > 0:=fun z=>h (decide_eq_true z)
     omega)
    refine k _ (ts.trans (same_t s2)) (sh.trans (An12.same_hide o s2)) ⟨v1,s2 _ _ h1,?_⟩
    rw [e0]
    have ef:done ++ AnJ.flush ([]:List Str) = done:=List.append_nil _
    rw [ef]
    exact DtAll.same s2 _ _ d1
end j_add
namespace j_groups
abbrev st:Stmt:=top 10
theorem sc:FnScope ["ones","others","groups","span","place","last"] ["ones","others"] (zD st):=⟨rfl,rfl,rfl,by decide +kernel,rfl,by decide +kernel,by decide +kernel⟩
theorem ok {f:Addr} {fd:FuncData} (F:Fun K "groups_of" "groups_of" st f fd) (T:Txt K mg t1 t2) (C_near_spans:Cal P w K mg base 1 "near_spans" ["one","other"] (AnJ.spNear K)):FnOk P w K mg base CX0 2 f fd ["ones","others"] (AnJ.spGroups K):=by
 refine F.ok sc (fun vs H Q E h=>?_) (fun cdv A outer s H vs Q E hr h=>?_)
 ·obtain ⟨a,b,n,A1,B1,rfl,_⟩:=h
  rfl
 ·obtain ⟨a,b,n,A1,B1,rfl,⟨a',va,e0,hla,hva⟩,⟨b',vb,e1,hlb,hvb⟩,ra,rb,k⟩:=h
  cases e0
  cases e1
  refine ⟨_,(zB (zO (i:=2) sc.nd rfl (Or.inl rfl) (yG zC))
   (zB (xA PassesOwn.never rfl (z8 (zQ (call_sortedT (K:=K) hr.units) (by rfl) T.sorted PyProof.Rows.boot_sorted (zA (zU op_cat (y4 (sc:=zD st) (N:=["ones","others","groups","span","place","last"]) (N':=["one"]) (src:=[none]) ⟨by decide +kernel,rfl,rfl,by decide +kernel,by decide +kernel,by decide +kernel,by decide +kernel⟩ rfl rfl rfl (z8 (pv 0)) (fun _ _ _ _=>(zM (i:=0) (show (["one"]:List Str).Nodup by decide +kernel) rfl (Or.inl rfl))) (fun _ _ _ _=>xX) (fun _ _ _ _=>(yA (zA (pv 0) (zA (pe_glob (v:=.int 2) rfl T.ONES ⟨_,rfl⟩) zC))))) (y4 (sc:=zD st) (N:=["ones","others","groups","span","place","last"]) (N':=["other"]) (src:=[none]) ⟨by decide +kernel,rfl,rfl,by decide +kernel,by decide +kernel,by decide +kernel,by decide +kernel⟩ rfl rfl rfl (z8 (pv 1)) (fun _ _ _ _=>(zM (i:=0) (show (["other"]:List Str).Nodup by decide +kernel) rfl (Or.inl rfl))) (fun _ _ _ _=>xX) (fun _ _ _ _=>(yA (zA (pv 0) (zA (pe_glob (v:=.int 3) rfl T.OTHERS ⟨_,rfl⟩) zC)))))) zC))) (jN rfl (zY (zM (i:=3) sc.nd rfl (Or.inl rfl)) (zY (zM (i:=4) sc.nd rfl (Or.inl rfl)) qE)))
    (pss_cut (z5 (PW.pt (xH (zI qX (zQ zN (by rfl) T.len PySem.boot_len (zA (pv 2) zC)) zH (zK _)) (y6 (pt_not (yC (K:=K) (zJ C_near_spans (hr.mono (by decide)) (zA (zW (ix_list:IxR _ (rIxL K)) (pv 2) (pe_un un_neg zH) (fun _ _=>rfl)) (zA (pv 3) zC))) (fun _=>rfl))))))
     (zE (z6 (qG PySem.F.plainAttrs_list PySem.F.slot_list_append PySem.F.type_list_append yQ (pv 2) (zA (yA (zA (zW (ix_tup:IxR _ (rIxT K)) (pv 3) zH (fun _ _=>rfl)) (zA (zW (ix_tup:IxR _ (rIxT K)) (pv 3) zH (fun _ _=>rfl)) (zA (yG zC) (zA (yG zC) zC))))) zC))))
     zT)
    (zB (zO (i:=5) sc.nd rfl (Or.inl rfl) (pe_bm0 PySem.F.plainAttrs_list PySem.F.slot_list_pop PySem.F.type_list_pop mt_pop (pv 2)))
    (zB (z6 (qG PySem.F.plainAttrs_list PySem.F.slot_list_append PySem.F.type_list_append yQ (zW (ix_tup:IxR _ (rIxT K)) (pv 5) (pv 4) (fun _ _=>rfl)) (zA (pv 3) zC)))
    (zE (z6 (qG PySem.F.plainAttrs_list PySem.F.slot_list_append PySem.F.type_list_append yQ (pv 2) (zA (yA (zA (zW (ix_tup:IxR _ (rIxT K)) (pv 5) zH (fun _ _=>rfl)) (zA (zQ (call_max2 rfl) (by rfl) T.max PyProof.Rows.boot_max (zA (zW (ix_tup:IxR _ (rIxT K)) (pv 5) zH (fun _ _=>rfl)) (zA (zW (ix_tup:IxR _ (rIxT K)) (pv 3) zH (fun _ _=>rfl)) zC))) (zA (zW (ix_tup:IxR _ (rIxT K)) (pv 5) (pe_glob (v:=.int 2) rfl T.ONES ⟨_,rfl⟩) (fun _ _=>rfl)) (zA (zW (ix_tup:IxR _ (rIxT K)) (pv 5) (pe_glob (v:=.int 3) rfl T.OTHERS ⟨_,rfl⟩) (fun _ _=>rfl)) zC))))) zC))))))))
   (zE (zP (pv 2))))),?_⟩
  have val:=hva.length
  have vbl:=hvb.length
  rw [List.length_map] at val vbl
  have ral:=ra.len
  have rbl:=rb.len
  refine ⟨Nat.zero_le _,fun o no=>?_⟩
  have s0:=same_upd (o:=.lst []) no
  have ho0:upd H o (.lst []) o = some (.lst []):=upd_same
  generalize upd H o (.lst []) = H0 at s0 ho0
  refine ⟨_,rfl,a,rfl,⟨_,s0.seq hla⟩,yK (K:=K) (a:=a) (xs:=va) (fun i ys σ H2=>∃ q,σ = [q] /\ Same H0 H2 /\ ys.length = i /\ DtAll K H2 (((A1.take i).map fun s=>(s,false)).map AnJ.prD) ys) ⟨none,rfl,Same.refl _,rfl,rfl⟩ (le_line (by omega)) ?_ ?_ ?_⟩
  ·rintro i ys σ H2 hi ⟨q,rfl,e,n2,_⟩
   exact ⟨e.seq (s0.seq hla),Nat.le_of_eq n2⟩
  ·rintro i x ys σ H2 hi ⟨q,rfl,e,n2,hy⟩
   obtain ⟨sp,ep,hp⟩:=AnJ.dts_get hva hi
   have hp:=Dt.same (s0.trans e) _ _ hp
   refine ⟨_,rfl,lineN 2,fun p np=>?_⟩
   have u:=same_upd (o:=.tup [x,V.int 2]) np
   refine ⟨_,rfl,e.trans u,by rw [List.length_append,n2]; rfl,?_⟩
   rw [List.take_add_one,ep,List.map_append,List.map_append]
   exact DtAll.append (DtAll.same u _ _ hy) ⟨_,_,rfl,⟨p,_,rfl,SqT.of upd_same,_,_,rfl,Dt.same u _ _ hp,_,_,rfl,rfl,rfl⟩,rfl⟩
  rintro y1 σ1 H1 ⟨q1,rfl,e1,n1,hy1⟩ p1 np1
  rw [val,List.take_length] at hy1
  have u1:=same_upd (o:=.lst y1) np1
  have hp1:upd H1 p1 (.lst y1) p1 = some (.lst y1):=upd_same
  have hy1:=DtAll.same u1 _ _ hy1
  have e1:=e1.trans u1
  generalize upd H1 p1 (.lst y1) = H1 at e1 hp1 hy1
  refine ⟨_,rfl,b,rfl,⟨_,e1.seq (s0.seq hlb)⟩,yK (K:=K) (a:=b) (xs:=vb) (fun i ys σ H2=>∃ q,σ = [q] /\ Same H1 H2 /\ ys.length = i /\ DtAll K H2 (((B1.take i).map fun s=>(s,true)).map AnJ.prD) ys) ⟨none,rfl,Same.refl _,rfl,rfl⟩ (le_line (by omega)) ?_ ?_ ?_⟩
  ·rintro i ys σ H2 hi ⟨q,rfl,e,n2,_⟩
   exact ⟨e.seq (e1.seq (s0.seq hlb)),Nat.le_of_eq n2⟩
  ·rintro i x ys σ H2 hi ⟨q,rfl,e,n2,hy⟩
   obtain ⟨sp,ep,hp⟩:=AnJ.dts_get hvb hi
   have hp:=Dt.same (s0.trans (e1.trans e)) _ _ hp
   refine ⟨_,rfl,lineN 2,fun p np=>?_⟩
   have u:=same_upd (o:=.tup [x,V.int 3]) np
   refine ⟨_,rfl,e.trans u,by rw [List.length_append,n2]; rfl,?_⟩
   rw [List.take_add_one,ep,List.map_append,List.map_append]
   exact DtAll.append (DtAll.same u _ _ hy) ⟨_,_,rfl,⟨p,_,rfl,SqT.of upd_same,_,_,rfl,Dt.same u _ _ hp,_,_,rfl,rfl,rfl⟩,rfl⟩
  rintro y2 σ2 H2 ⟨q2,rfl,e2,n2,hy2⟩ p2 np2
  rw [vbl,List.take_length] at hy2
  have u2:=same_upd (o:=.lst y2) np2
  refine ⟨p1,p2,_,_,rfl,rfl,(e2.trans u2) _ _ hp1,upd_same,le_line (by omega),fun p3 np3=>?_⟩
  have u3:=same_upd (o:=.lst (y1 ++ y2)) np3
  have e3:=e1.trans (e2.trans (u2.trans u3))
  have hy3:=DtAll.append (DtAll.same (e2.trans (u2.trans u3)) _ _ hy1) (DtAll.same (u2.trans u3) _ _ hy2)
  rw [← List.map_append] at hy3
  have hp3:upd (upd H2 p2 (.lst y2)) p3 (.lst (y1 ++ y2)) p3 = some (.lst (y1 ++ y2)):=upd_same
  generalize upd (upd H2 p2 (.lst y2)) p3 (.lst (y1 ++ y2)) = H3 at e3 hy3 hp3
  have ok:∀ x ∈ AnJ.both A1 B1,AnJ.okL x.1.2.2:=fun x hx=>by
   rcases List.mem_append.mp hx with z | z
   ·obtain ⟨s,hs,rfl⟩:=List.mem_map.mp z
    exact (ra.ok s hs).1
   ·obtain ⟨s,hs,rfl⟩:=List.mem_map.mp z
    exact (rb.ok s hs).1
  refine ⟨p3,_,(AnJ.both A1 B1).map AnJ.prD,"tuple",_,AnJ.prO,AnJ.unPr,rfl,SqL.of hp3,hy3,?_,fun d hd=>?_,fun d hd e he=>?_,fun l vs' ds' nl hperm hds ho _=>?_⟩
  ·rw [List.length_map]
   unfold AnJ.both
   rw [List.length_append,List.length_map,List.length_map]
   omega
  ·obtain ⟨x,hx,rfl⟩:=List.mem_map.mp hd
   obtain ⟨l1,l2⟩:=AnJ.lay_pr (ok x hx)
   exact ⟨rfl,l1,by omega⟩
  ·obtain ⟨x,hx,rfl⟩:=List.mem_map.mp hd
   obtain ⟨y,hy,rfl⟩:=List.mem_map.mp he
   rw [AnJ.unPr_pr,AnJ.unPr_pr]
   exact AnJ.lt_pr x y
  obtain ⟨xs,rfl,xp,xo⟩:=AnJ.sorted_back AnJ.unPr_pr hperm ho
  have u4:=same_upd (o:=.lst vs') nl
  have e4:=e3.trans u4
  have hds:=DtAll.same u4 _ _ hds
  have hl4:upd H3 l (.lst vs') l = some (.lst vs'):=upd_same
  have ho4:=e4 _ _ ho0
  generalize upd H3 l (.lst vs') = H4 at e4 hds hl4 ho4
  have xl:vs'.length = xs.length:=by rw [hds.length,List.length_map]
  have xn:xs.length <= 60:=by
   have:=xp.length_eq
   unfold AnJ.both at this
   rw [List.length_append,List.length_map,List.length_map] at this
   omega
  have lo:l ≠ o:=fun z=>by
   have:=e3 _ _ ho0
   rw [← z,nl] at this
   cases this
  have grp:∀ bs:List Str,bs.length = n -> AnJ.Grp bs A1 B1 (AnJ.sweep xs):=fun bs eb=>AnJ.sweep_grp (T:=AnJ.strO) (by rw [eb]; exact ra.val) (by rw [eb]; exact rb.val) ra.apart rb.apart xp (xo.imp fun h=>AnJ.pr_le h)
  obtain ⟨Bs,eBs⟩:∃ Bs,Bs = An12.hide H4 o:=⟨_,rfl⟩
  have bt:TSame H4 Bs:=fun c u hc hn=>by
   rw [eBs,An12.hide_ne fun z=>?_]
   ·exact hc
   ·rw [z,ho4] at hc
    exact hn _ (Option.some.inj hc).symm
  have bo:Bs o = none:=by rw [eBs]; exact if_pos rfl
  have b4:Same Bs H4:=by rw [eBs]; exact An12.hide_same _ _
  have bl:Bs l = some (.lst vs'):=by rw [eBs,An12.hide_ne lo]; exact hl4
  have bd:=AnJ.DtAll.ts bt _ _ (AnJ.noL_prs xs) hds
  have back:∀ c u,H c = some u -> Bs c = some u:=fun c u hc=>by
   rw [eBs,An12.hide_ne (zG hc no)]
   exact (s0.trans e4) _ _ hc
  clear eBs bt
  refine ⟨l,rfl,⟨_,SqL.of hl4⟩,yP (K:=K) (a:=l) (xs:=vs') (fun i σ H'=>∃ o3 o4 o5:Option V,σ = [some (.ref a),some (.ref b),some (.ref o),o3,o4,o5] /\ Same Bs H' /\ ((i = 0 /\ H' o = some (.lst [])) \/ ∃ done c t m1 m2 vs us1 us2,AnJ.GSt K Bs H' o done c t m1 m2 vs us1 us2 /\ done.length < i /\ c.ones.length <= i /\ c.others.length <= i /\ done ++ AnJ.sw c (xs.drop i) = AnJ.sweep xs))
   ⟨none,none,none,rfl,b4,.inl ⟨rfl,ho4⟩⟩ (fun i σ H' _ ⟨_,_,_,_,e,_⟩=>SqL.of (e _ _ bl)) ?_ ?_⟩
  ·rintro i x σ H5 hi ⟨o3,o4,o5,rfl,e5,st⟩
   obtain ⟨pr,ep,hp⟩:=AnJ.dts_get bd hi
   have hil:i < vs'.length:=(List.getElem?_eq_some_iff.mp hi).1
   have hdr:xs.drop i = pr :: xs.drop (i + 1):=by
    obtain ⟨hj',ej⟩:=List.getElem?_eq_some_iff.mp ep
    rw [List.drop_eq_getElem_cons hj',ej]
   obtain ⟨t,sv,rfl,h1,h2⟩:=AnJ.pr_open hp
   obtain ⟨ts,tq,rfl,h3,h4⟩:=AnJ.sp_open h2
   refine ⟨t,_,rfl,e5.tupS h1,rfl,_,_,rfl,_,_,rfl,rfl,?_⟩
   refine ⟨fun σ' H'=>σ' = [some (.ref a),some (.ref b),some (.ref o),some (.ref ts),some (.int (if pr.2 then 3 else 2)),o5] /\ Same Bs H' /\ ∃ done c t m1 m2 vs us1 us2,AnJ.GSt K Bs H' o done c t m1 m2 vs us1 us2 /\ done.length <= i /\ c.ones.length <= i /\ c.others.length <= i /\ done ++ AnJ.sw (AnJ.addG c pr) (xs.drop (i + 1)) = AnJ.sweep xs,?_,?_⟩
   ·have s5:=e5.tupS h3
    rcases st with ⟨rfl,ho5⟩ | ⟨done,c,t',m1,m2,vs,us1,us2,gst,dl,c1,c2,eq⟩
    ·refine ⟨_,rfl,o,_,rfl,.inl (SqL.of ho5),rfl,_,rfl,iteY rfl (iteT ?_)⟩
     refine ⟨_,rfl,.inl ⟨rfl,_,SqL.of ho5⟩,_,rfl,ts,_,_,_,rfl,rfl,s5,rfl,_,rfl,ts,_,_,_,rfl,rfl,s5,rfl,Nat.zero_le _,fun m1 f1=>⟨Nat.zero_le _,fun m2 f2=>⟨lineN 4,fun t2 f3=>?_⟩⟩⟩
     obtain ⟨e6,gst⟩:=AnJ.gst_begin (K:=K) (done:=[]) (lo:=pr.1.1) (hi:=pr.1.2.1) e5 bo ho5 (fun Z _=>⟨rfl,fun v hv=>(nomatch hv)⟩) f1 f2 f3
     refine ⟨o,_,_,rfl,rfl,?_,yX (by decide),rfl,e6,[],_,_,_,_,_,_,_,gst,Nat.zero_le _,Nat.zero_le _,Nat.zero_le _,?_⟩
     ·exact ((same_upd f1).trans ((same_upd f2).trans (same_upd f3))) _ _ ho5
     ·rw [List.drop_zero] at hdr
      rw [AnJ.addG_new,hdr]
      rfl
    ·rw [hdr] at eq
     have vsl:=(gst.d3 [] fun a ha=>(nomatch ha)).1.length
     rw [List.length_map] at vsl
     refine ⟨_,rfl,o,_,rfl,.inl (SqL.of gst.ho),rfl,_,rfl,iteN (AnJ.ne_zero (by rw [List.length_append,List.length_singleton]; omega)) ?_⟩
     refine ⟨_,rfl,_,rfl,o,_,_,_,rfl,rfl,SqL.of gst.ho,AnJ.at_last,_,rfl,t',ts,_,_,_,_,_,_,rfl,SqT.of gst.ht,s5,_,rfl,?_⟩
     have un:(decide ((c.lo:Int) <= (pr.1.2.1:Int)) && decide ((pr.1.1:Int) <= (c.hi:Int))) = AnJ.nearB c pr.1:=by
      unfold AnJ.nearB
      congr 1 <;> exact decide_eq_decide.mpr (by omega)
     rw [un]
     cases q:AnJ.nearB c pr.1 with
     | true =>
      refine iteF ⟨rfl,e5,done,c,t',m1,m2,vs,us1,us2,gst,Nat.le_of_lt dl,c1,c2,?_⟩
      unfold AnJ.sw at eq
      rw [q] at eq
      exact eq
     | false =>
      refine iteT ?_
      refine ⟨_,rfl,.inl ⟨rfl,_,SqL.of gst.ho⟩,_,rfl,ts,_,_,_,rfl,rfl,s5,rfl,_,rfl,ts,_,_,_,rfl,rfl,s5,rfl,Nat.zero_le _,fun n1 f1=>⟨Nat.zero_le _,fun n2 f2=>⟨lineN 4,fun t2 f3=>?_⟩⟩⟩
      obtain ⟨e6,gst'⟩:=AnJ.gst_begin (K:=K) (lo:=pr.1.1) (hi:=pr.1.2.1) e5 bo gst.ho (fun Z hz=>gst.close e5 bo (by have:=gst.d1.length; rw [List.length_map] at this; omega) (by have:=gst.d2.length; rw [List.length_map] at this; omega) Z hz) f1 f2 f3
      refine ⟨o,_,_,rfl,rfl,?_,yX (by rw [List.length_append,List.length_singleton]; omega),rfl,e6,done ++ [c],_,_,_,_,_,_,_,gst',?_,Nat.zero_le _,Nat.zero_le _,?_⟩
      ·exact ((same_upd f1).trans ((same_upd f2).trans (same_upd f3))) _ _ gst.ho
      ·rw [List.length_append]; exact dl
      ·unfold AnJ.sw at eq
       rw [q] at eq
       rw [AnJ.addG_new,List.append_assoc]
       exact eq
   ·rintro σ' H6 ⟨rfl,e6,done,c,t',m1,m2,vs,us1,us2,gst,dl,c1,c2,eq⟩
    have vsl:=(gst.d3 [] fun a ha=>(nomatch ha)).1.length
    have l1:=gst.d1.length
    have l2:=gst.d2.length
    rw [List.length_map] at vsl l1 l2
    refine ⟨_,rfl,.inl ⟨rfl,_,SqL.of gst.ho⟩,o,_,_,rfl,rfl,gst.ho,AnJ.last_get,?_⟩
    rw [List.dropLast_concat]
    obtain ⟨tno,tn1,tn2⟩:=gst.tne
    have e7:Same Bs (upd H6 o (.lst vs)):=An.Same.updF e6 bo
    have ht7:SqT K (upd H6 o (.lst vs)) t' [.int c.lo,.int c.hi,.ref m1,.ref m2]:=SqT.of (by rw [zF tno]; exact gst.ht)
    have ho7:upd H6 o (.lst vs) o = some (.lst vs):=upd_same
    have hm1:upd H6 o (.lst vs) m1 = some (.lst us1):=by rw [zF gst.n1]; exact gst.h1
    have hm2:upd H6 o (.lst vs) m2 = some (.lst us2):=by rw [zF gst.n2]; exact gst.h2
    obtain ⟨sp,pl⟩:=pr
    cases pl with
    | false =>
     refine ⟨_,rfl,_,rfl,t',_,_,_,rfl,rfl,ht7,rfl,.inl ⟨rfl,_,SqL.of hm1⟩,_,rfl,m1,us1,_,rfl,rfl,hm1,yX (by omega),?_⟩
     have t8:SqT K (upd (upd H6 o (.lst vs)) m1 (.lst (us1 ++ [V.ref ts]))) t' [.int c.lo,.int c.hi,.ref m1,.ref m2]:=SqT.of (by rw [zF tn1,zF tno]; exact gst.ht)
     have o8:upd (upd H6 o (.lst vs)) m1 (.lst (us1 ++ [V.ref ts])) o = some (.lst vs):=by rw [zF gst.n1.symm]; exact upd_same
     have s8:=(An.Same.updF (o:=.lst (us1 ++ [V.ref ts])) e7 gst.b1).tupS h3
     refine ⟨_,rfl,.inl ⟨rfl,_,SqL.of o8⟩,_,rfl,t',_,_,_,rfl,rfl,t8,rfl,_,rfl,t',_,_,_,rfl,rfl,t8,rfl,_,rfl,ts,_,_,_,rfl,rfl,s8,rfl,_,_,rfl,_,rfl,t',_,_,_,rfl,rfl,t8,rfl,_,rfl,t',_,_,_,rfl,rfl,t8,rfl,lineN 4,fun t2 f2=>?_⟩
     rw [AnJ.max_int]
     obtain ⟨e9,gst'⟩:=AnJ.gst_add0 (hi:=max c.hi sp.2.1) gst e6 bo h2 f2
     refine ⟨o,_,_,rfl,rfl,(same_upd f2) _ _ o8,yX (by omega),_,_,_,rfl,e9,.inr ⟨done,_,_,_,_,_,_,_,gst',by omega,by rw [List.length_append]; simp; omega,by simp; omega,eq⟩⟩
    | true =>
     refine ⟨_,rfl,_,rfl,t',_,_,_,rfl,rfl,ht7,rfl,.inl ⟨rfl,_,SqL.of hm2⟩,_,rfl,m2,us2,_,rfl,rfl,hm2,yX (by omega),?_⟩
     have t8:SqT K (upd (upd H6 o (.lst vs)) m2 (.lst (us2 ++ [V.ref ts]))) t' [.int c.lo,.int c.hi,.ref m1,.ref m2]:=SqT.of (by rw [zF tn2,zF tno]; exact gst.ht)
     have o8:upd (upd H6 o (.lst vs)) m2 (.lst (us2 ++ [V.ref ts])) o = some (.lst vs):=by rw [zF gst.n2.symm]; exact upd_same
     have s8:=(An.Same.updF (o:=.lst (us2 ++ [V.ref ts])) e7 gst.b2).tupS h3
     refine ⟨_,rfl,.inl ⟨rfl,_,SqL.of o8⟩,_,rfl,t',_,_,_,rfl,rfl,t8,rfl,_,rfl,t',_,_,_,rfl,rfl,t8,rfl,_,rfl,ts,_,_,_,rfl,rfl,s8,rfl,_,_,rfl,_,rfl,t',_,_,_,rfl,rfl,t8,rfl,_,rfl,t',_,_,_,rfl,rfl,t8,rfl,lineN 4,fun t2 f2=>?_⟩
     rw [AnJ.max_int]
     obtain ⟨e9,gst'⟩:=AnJ.gst_add1 (hi:=max c.hi sp.2.1) gst e6 bo h2 f2
     refine ⟨o,_,_,rfl,rfl,(same_upd f2) _ _ o8,yX (by omega),_,_,_,rfl,e9,.inr ⟨done,_,_,_,_,_,_,_,gst',by omega,by simp; omega,by rw [List.length_append]; simp; omega,eq⟩⟩
  ·rintro σ H5 ⟨o3,o4,o5,rfl,e5,st⟩
   rcases st with ⟨i0,ho5⟩ | ⟨done,c,t',m1,m2,vs,us1,us2,gst,dl,c1,c2,eq⟩
   ·have x0:xs = []:=List.eq_nil_of_length_eq_zero (by omega)
    refine ⟨_,rfl,k o [] (List.replicate n "") H5 (by simp) (fun c u hc=>e5 _ _ (back c u hc)) no ?_ ⟨[],ho5,fun Z _=>⟨rfl,fun v hv=>(nomatch hv)⟩⟩⟩
    have:=grp (List.replicate n "") (by simp)
    rw [x0] at this
    exact this
   ·rw [List.drop_of_length_le (by omega)] at eq
    have eq:done ++ [c] = AnJ.sweep xs:=eq
    refine ⟨_,rfl,k o _ (List.replicate n "") H5 (by simp) (fun c u hc=>e5 _ _ (back c u hc)) no (grp (List.replicate n "") (by simp)) ⟨vs ++ [.ref t'],gst.ho,fun Z hz=>?_⟩⟩
    rw [← eq]
    have fr:∀ {m},Bs m = none -> H m = none:=fun {m} z=>by
     cases q:H m with
     | none=>rfl
     | some u=>rw [back _ _ q] at z; cases z
    obtain ⟨c3,c4⟩:=gst.close e5 bo (by have:=gst.d1.length; rw [List.length_map] at this; omega) (by have:=gst.d2.length; rw [List.length_map] at this; omega) Z fun a ha=>by
     obtain ⟨xs,q⟩:=hz a ha
     exact ⟨xs,back _ _ q⟩
    refine ⟨c3,fun v hv=>?_⟩
    obtain ⟨t,m1,m2,x,y,us1,us2,e0,g1,g2,g3,g4⟩:=c4 v hv
    exact ⟨t,m1,m2,x,y,us1,us2,e0,g1,fr g2,fr g3,g4⟩
end j_groups
namespace j_joined
abbrev st:Stmt:=top 12
theorem sc:FnScope ["base","mine","yours","parts","place","low","high","ones","others","my_lines","your_lines"] ["base","mine","yours"] (zD st):=⟨rfl,rfl,rfl,by decide +kernel,rfl,by decide +kernel,by decide +kernel⟩
theorem ok {f:Addr} {fd:FuncData} (F:Fun K "joined_lines" "joined_lines" st f fd) (T:Txt K mg t1 t2) (C_spans_of:Cal P w K mg base 6 "spans_of" ["old","new"] (An12.spSpans K)) (C_groups_of:Cal P w K mg base 2 "groups_of" ["ones","others"] (AnJ.spGroups K)) (C_side_lines:Cal P w K mg base 2 "side_lines" ["base","low","high","rows"] (AnJ.spSide K)) (C_add_same:Cal P w K mg base 1 "add_same" ["parts","lines"] (AnJ.spAddSame K)):FnOk P w K mg base CX0 7 f fd ["base","mine","yours"] (AnJ.spJoined K):=by
 refine F.ok sc (fun vs H Q E h=>?_) (fun cdv A outer s H vs Q E hr h=>?_)
 ·obtain ⟨a,b,c,xs,ms,ys,rfl,_⟩:=h
  rfl
 ·obtain ⟨a,b,c,xs,ms,ys,rfl,ha,hb,hc,ok,k⟩:=h
  refine ⟨_,(zB (zO (i:=3) sc.nd rfl (Or.inl rfl) (yG zC))
   (zB (zO (i:=4) sc.nd rfl (Or.inl rfl) zH)
   (zB (xA PassesOwn.never rfl (z8 (zJ C_groups_of (hr.mono (by decide)) (zA (zJ C_spans_of (hr.mono (by decide)) (zA (pv 0) (zA (pv 1) zC))) (zA (zJ C_spans_of (hr.mono (by decide)) (zA (pv 0) (zA (pv 2) zC))) zC)))) (jN rfl (zY (zM (i:=5) sc.nd rfl (Or.inl rfl)) (zY (zM (i:=6) sc.nd rfl (Or.inl rfl)) (zY (zM (i:=7) sc.nd rfl (Or.inl rfl)) (zY (zM (i:=8) sc.nd rfl (Or.inl rfl)) qE)))))
    (zB (z6 (zJ C_add_same (hr.mono (by decide)) (zA (pv 3) (zA (z3 (sl_tup2:SlR _ (rSlT2 K)) (pv 0) (zX (pv 4)) (zX (pv 5))) zC))))
    (zB (zO (i:=9) sc.nd rfl (Or.inl rfl) (zJ C_side_lines (hr.mono (by decide)) (zA (pv 0) (zA (pv 5) (zA (pv 6) (zA (pv 7) zC))))))
    (zB (zO (i:=10) sc.nd rfl (Or.inl rfl) (zJ C_side_lines (hr.mono (by decide)) (zA (pv 0) (zA (pv 5) (zA (pv 6) (zA (pv 8) zC))))))
    (pss_cut (z5 (PW.pt (xH (zI qX (zQ zN (by rfl) T.len PySem.boot_len (zA (pv 7) zC)) zH (zK _)) (y6 (zI (yR hr.units) (pv 9) (pv 10) (zK _)))))
     (zE (z6 (zJ C_add_same (hr.mono (by decide)) (zA (pv 3) (zA (pv 10) zC)))))
     (zE (z5 (zI qX (zQ zN (by rfl) T.len PySem.boot_len (zA (pv 8) zC)) zH (zK _))
      (zE (z6 (zJ C_add_same (hr.mono (by decide)) (zA (pv 3) (zA (pv 9) zC)))))
      (zE (z6 (qG PySem.F.plainAttrs_list PySem.F.slot_list_append PySem.F.type_list_append yQ (pv 3) (zA (yA (zA zZ (zA (z3 (sl_tup2:SlR _ (rSlT2 K)) (pv 0) (zX (pv 5)) (zX (pv 6))) (zA (pv 9) (zA (pv 10) zC))))) zC)))))))
    (zE (zO (i:=4) sc.nd rfl (Or.inl rfl) (pv 6))))))))
   (zB (z6 (zJ C_add_same (hr.mono (by decide)) (zA (pv 3) (zA (z3 (sl_tup2:SlR _ (rSlT2 K)) (pv 0) (zX (pv 4)) xJ) zC))))
   (zE (zP (pv 3))))))),?_⟩
  obtain ⟨xok,mok,yok,xl,ml,yl,x1,x2,p1',p2'⟩:=id ok
  refine ⟨Nat.zero_le _,fun o no=>?_⟩
  have s0:=same_upd (o:=.lst []) no
  refine ⟨_,rfl,_,rfl,a,b,xs,ms,rfl,s0.tupS ha,s0.tupS hb,by omega,by omega,xok,mok,fun l1 H1 s1 _ d1=>?_⟩
  refine ⟨_,rfl,_,rfl,a,c,xs,ys,rfl,s1.tupS (s0.tupS ha),s1.tupS (s0.tupS hc),by omega,by omega,xok,yok,fun l2 H2 s2 _ d2=>?_⟩
  rw [← AnJ.spans_to,AnJ.rows_sp] at d1 d2
  have r1:=AnJ.row1_spans (xs:=xs) (ys:=ms) x1 p1' mok
  have r2:=AnJ.row1_spans (xs:=xs) (ys:=ys) x2 p2' yok
  have ho2:H2 o = some (.lst []):=(s1.trans s2) _ _ upd_same
  have s02:=s0.trans (s1.trans s2)
  refine ⟨l1,l2,xs.length,AnJ.spansS xs ms,AnJ.spansS xs ys,rfl,Dt.same s2 _ _ d1,d2,r1,r2,fun l3 gs b' H3 eb s3 f3 grp ⟨vs,hl3,hz⟩=>?_⟩
  have grp:AnJ.Grp xs (AnJ.spansS xs ms) (AnJ.spansS xs ys) gs:=⟨grp.good,grp.fa,grp.fb⟩
  have hg:=(hz [o] fun z hz=>⟨[],by rw [List.mem_singleton.mp hz]; exact ho2⟩).1
  have ho3:=s3 _ _ ho2
  have lo3:l3 ≠ o:=fun z=>by rw [z,ho2] at f3; cases f3
  have vl:=hg.length
  rw [List.length_map] at vl
  have gl:=AnJ.grps_len grp.some
  rw [grp.fa,grp.fb] at gl
  have:=r1.len
  have:=r2.len
  have facts:=grp.fact r1 r2
  obtain ⟨Bs,eBs⟩:∃ Bs,Bs = AnJ.hideS [l3,o] H3:=⟨_,rfl⟩
  have bt:TSame H3 Bs:=by
   rw [eBs]
   exact AnJ.hideS_ts fun z hz=>by
    rcases List.mem_cons.mp hz with rfl | hz
    ·exact ⟨_,hl3⟩
    ·rw [List.mem_singleton.mp hz]; exact ⟨_,ho3⟩
  have bo:Bs o = none:=by rw [eBs]; exact AnJ.hideS_in (by simp)
  have b3:Same Bs H3:=by rw [eBs]; exact AnJ.hideS_same _ _
  have bg:DtAll K Bs (gs.map AnJ.grD) vs:=by rw [eBs]; exact hg
  have ba:SqT K Bs a (xs.map V.str):=bt.tup ((s02.trans s3).tupS ha)
  have back:∀ H',Same Bs H' -> Same H H':=fun H' e c u hc=>by
   refine e c u ?_
   rw [eBs,AnJ.hideS_ne]
   ·exact (s02.trans s3) c u hc
   ·intro z
    rcases List.mem_cons.mp z with rfl | z
    ·have:=s02 _ _ hc
     rw [f3] at this
     cases this
    ·rw [List.mem_singleton.mp z,no] at hc
     cases hc
  have xsok:AnJ.okL xs:=fun l hl=>An12.lineB_ok (xok l hl)
  clear eBs hg hz bt
  refine ⟨l3,rfl,⟨_,SqL.of hl3⟩,yP (K:=K) (a:=l3) (xs:=vs) (fun i σ H'=>∃ (pl:Nat) (done:List (AnJ.Pt Str)) (acc:List Str) (q5 q6 q7 q8 q9 q10:Option V),σ = [some (.ref a),some (.ref b),some (.ref c),some (.ref o),some (.int pl),q5,q6,q7,q8,q9,q10] /\ Same Bs H' /\ H' l3 = some (.lst vs) /\ AnJ.PartsAt K H' o (done ++ AnJ.flush acc) /\ AnJ.noSame done /\ done.length <= 2 * i /\ acc.length <= 250 * i /\ pl <= xs.length /\ done ++ AnJ.J xs acc pl (gs.drop i) = AnJ.J xs [] 0 gs)
   ⟨0,[],[],none,none,none,none,none,none,rfl,b3,hl3,⟨[],ho3,rfl⟩,trivial,Nat.le_refl _,Nat.le_refl _,Nat.zero_le _,rfl⟩ (fun i σ H' _ ⟨_,_,_,_,_,_,_,_,_,_,_,e,_⟩=>SqL.of e) ?_ ?_⟩
  ·rintro i x σ H4 hi ⟨pl,done,acc,q5,q6,q7,q8,q9,q10,rfl,e4,hl4,hp4,nsm,dl,al,pll,eq⟩
   obtain ⟨g,eg,hg⟩:=AnJ.dts_get bg hi
   have hil:i < vs.length:=(List.getElem?_eq_some_iff.mp hi).1
   have hdr:gs.drop i = g :: gs.drop (i + 1):=by
    obtain ⟨hj',ej⟩:=List.getElem?_eq_some_iff.mp eg
    rw [List.drop_eq_getElem_cons hj',ej]
   rw [hdr] at eq
   have gf:=facts g (List.mem_of_getElem? eg)
   have glh:=gf.v1.le
   have ghi:=gf.hi
   obtain ⟨t,k1,k2,rfl,g1,g2,g3⟩:=AnJ.gr_open hg
   refine ⟨t,_,rfl,e4.tupS g1,rfl,_,_,rfl,_,_,rfl,_,_,rfl,_,_,rfl,rfl,?_⟩
   refine ⟨_,rfl,_,rfl,_,rfl,_,rfl,_,rfl,_,rfl,a,_,rfl,e4.tupS ba,fun v H5 hv=>?_⟩
   obtain ⟨p5,rfl,s5,hp5⟩:=An12.cut_any (e4.tupS ba) hv
   rw [An12.cut_mid pll (by omega)] at hp5
   have cl:(AnJ.cut xs pl g.lo).length <= 40:=by
    have:(AnJ.cut xs pl g.lo).length = g.lo - pl:=AnJ.cut_len (by omega)
    omega
   refine ⟨o,p5,done,acc,AnJ.cut xs pl g.lo,rfl,hp4.same s5,nsm,hp5,by omega,by omega,by omega,fun H6 t6 s6 hp6=>?_⟩
   have e6:=AnJ.same_step (e4.trans s5) bo s6
   have hl6:H6 l3 = some (.lst vs):=by
    have:=s6 l3 _ (by rw [An12.hide_ne lo3]; exact s5 _ _ hl4)
    rw [An12.hide_ne lo3] at this
    exact this
   obtain ⟨ok1,len1⟩:=AnJ.there_ok xsok gf.l1 gf.v1 ghi (by omega) gf.p1
   obtain ⟨ok2,len2⟩:=AnJ.there_ok xsok gf.l2 gf.v2 ghi (by omega) gf.p2
   refine ⟨_,rfl,_,rfl,_,rfl,_,rfl,a,k1,g.lo,g.hi,xs,g.ones,rfl,e6.tupS ba,Dt.same e6 _ _ g2,by omega,gf.n1,fun s hs=>(gf.l1 s hs).2,gf.v1,ghi,fun p7 H7 s7 hp7=>?_⟩
   have e7:=e6.trans s7
   refine ⟨_,rfl,_,rfl,_,rfl,_,rfl,a,k2,g.lo,g.hi,xs,g.others,rfl,e7.tupS ba,Dt.same e7 _ _ g3,by omega,gf.n2,fun s hs=>(gf.l2 s hs).2,gf.v2,ghi,fun p8 H8 s8 hp8=>?_⟩
   have e8:=e7.trans s8
   have hl8:=(s7.trans s8) _ _ hl6
   have hP8:=hp6.same (s7.trans s8)
   have hm8:SqT K H8 p7 ((g.mine xs).map V.str):=s8.tupS hp7
   have hy8:SqT K H8 p8 ((g.yours xs).map V.str):=hp8
   have ok1:AnJ.okL (g.mine xs):=ok1
   have ok2:AnJ.okL (g.yours xs):=ok2
   have len1:(g.mine xs).length <= 200:=len1
   have len2:(g.yours xs).length <= 200:=len2
   obtain ⟨st1,st2⟩:=AnJ.J_step (b:=xs) (acc:=acc) (i:=pl) (g:=g) (r:=gs.drop (i + 1))
   obtain ⟨k1',us1,z1,u1,w1⟩:=Dt.same e8 _ _ g2
   cases z1
   obtain ⟨k2',us2,z2,u2,w2⟩:=Dt.same e8 _ _ g3
   cases z2
   have w1:=w1.length
   have w2:=w2.length
   rw [List.length_map] at w1 w2
   refine ⟨fun σ' H'=>∃ (done:List (AnJ.Pt Str)) (acc:List Str),σ' = [some (.ref a),some (.ref b),some (.ref c),some (.ref o),some (.int pl),some (.int g.lo),some (.int g.hi),some (.ref k1),some (.ref k2),some (.ref p7),some (.ref p8)] /\ Same Bs H' /\ H' l3 = some (.lst vs) /\ AnJ.PartsAt K H' o (done ++ AnJ.flush acc) /\ AnJ.noSame done /\ done.length <= 2 * (i + 1) /\ acc.length <= 250 * (i + 1) /\ done ++ AnJ.J xs acc g.hi (gs.drop (i + 1)) = AnJ.J xs [] 0 gs,?_,?_⟩
   ·have add:∀ (p:Addr) (x:List Str),SqT K H8 p (x.map V.str) -> x.length <= 200 -> g.one xs = some x -> AnJ.spAddSame K [.ref o,.ref p] H8 (fun _ H'=>∃ (done:List (AnJ.Pt Str)) (acc:List Str),[some (V.ref a),some (.ref b),some (.ref c),some (.ref o),some (.int pl),some (.int g.lo),some (.int g.hi),some (.ref k1),some (.ref k2),some (.ref p7),some (.ref p8)] = [some (.ref a),some (.ref b),some (.ref c),some (.ref o),some (.int pl),some (.int g.lo),some (.int g.hi),some (.ref k1),some (.ref k2),some (.ref p7),some (.ref p8)] /\ Same Bs H' /\ H' l3 = some (.lst vs) /\ AnJ.PartsAt K H' o (done ++ AnJ.flush acc) /\ AnJ.noSame done /\ done.length <= 2 * (i + 1) /\ acc.length <= 250 * (i + 1) /\ done ++ AnJ.J xs acc g.hi (gs.drop (i + 1)) = AnJ.J xs [] 0 gs) (fun _ _ _=>False):=fun p x hp hl h1=>by
     refine ⟨o,p,done,acc ++ AnJ.cut xs pl g.lo,x,rfl,hP8,nsm,hp,by omega,by rw [List.length_append]; omega,by omega,fun H9 t9 s9 hp9=>⟨done,acc ++ AnJ.cut xs pl g.lo ++ x,rfl,AnJ.same_step e8 bo s9,?_,hp9,nsm,by omega,by rw [List.length_append,List.length_append]; omega,by rw [← st1 x h1]; exact eq⟩⟩
     have:=s9 l3 _ (by rw [An12.hide_ne lo3]; exact hl8)
     rw [An12.hide_ne lo3] at this
     exact this
    have sm:=AnJ.shaped_of (AnJ.lay_tupS ok1).1 (by have:=(AnJ.lay_tupS ok1).2; omega)
    have sy:=AnJ.shaped_of (AnJ.lay_tupS ok2).1 (by have:=(AnJ.lay_tupS ok2).2; omega)
    refine ⟨_,rfl,k1,_,rfl,.inl u1,rfl,_,rfl,ite2 (fun h1=>iteT ?b) (fun h1=>⟨_,rfl,_,rfl,AnJ.tupS (g.mine xs),AnJ.tupS (g.yours xs),AnJ.lines_dt hm8,AnJ.lines_dt hy8,sm,sy,_,rfl,ite2 (fun h2=>?c) (fun h2=>?_)⟩)⟩
    case b | c =>
     have h1:g.one xs = some (g.yours xs):=by
      unfold AnJ.G.one
      first
       | exact if_pos (.inl (List.eq_nil_of_length_eq_zero (by have:=AnJ.int_zero (of_decide_eq_true h1); omega)))
       | (rw [AnJ.eqv_tupS] at h2; exact if_pos (.inr (of_decide_eq_true h2)))
     exact ⟨_,rfl,_,rfl,add p8 _ hy8 len2 h1⟩
    have n1:¬ (g.ones = [] \/ g.mine xs = g.yours xs):=fun z=>by
     rcases z with z | z
     ·exact h1 (decide_eq_true (by rw [w1,z]; rfl))
     ·rw [AnJ.eqv_tupS] at h2
      exact h2 (decide_eq_true z)
    refine ⟨_,rfl,k2,_,rfl,.inl u2,rfl,_,rfl,ite2 (fun h3=>?_) (fun h3=>?_)⟩
    ·have h1:g.one xs = some (g.mine xs):=by
      unfold AnJ.G.one
      rw [if_neg n1,if_pos (List.eq_nil_of_length_eq_zero (by have:=AnJ.int_zero (of_decide_eq_true h3); omega))]
     exact ⟨_,rfl,_,rfl,add p7 _ hm8 len1 h1⟩
    ·have h1:g.one xs = none:=by
      unfold AnJ.G.one
      rw [if_neg n1,if_neg fun z=>h3 (decide_eq_true (by rw [w2,z]; rfl))]
     obtain ⟨v8,ho8,d8⟩:=hP8
     have v8l:=d8.length
     rw [List.length_map,List.length_append] at v8l
     have fl:(AnJ.flush (acc ++ AnJ.cut xs pl g.lo)).length <= 1:=by
      unfold AnJ.flush
      split <;> simp
     refine ⟨_,rfl,.inl ⟨rfl,_,SqL.of ho8⟩,_,rfl,_,rfl,_,rfl,_,rfl,_,rfl,a,_,rfl,e8.tupS ba,fun v H9 hv=>?_⟩
     obtain ⟨p9,rfl,s9,hp9⟩:=An12.cut_any (e8.tupS ba) hv
     rw [An12.cut_mid (by omega) ghi] at hp9
     refine ⟨_,rfl,_,rfl,lineN 4,fun t m=>?_⟩
     have u9:=same_upd (o:=.tup [V.str "clash",V.ref p9,V.ref p7,V.ref p8]) m
     have s10:=s9.trans u9
     have ho10:=s10 _ _ ho8
     have hd10:Dt K (upd H9 t (.tup [V.str "clash",V.ref p9,V.ref p7,V.ref p8])) (AnJ.ptD (.clash (AnJ.cut xs g.lo g.hi) (g.mine xs) (g.yours xs))) (.ref t):=AnJ.clash_close (SqT.of upd_same) (u9.tupS hp9) (s10.tupS hm8) (s10.tupS hy8)
     refine ⟨o,_,_,rfl,rfl,ho10,yX (by omega),?_⟩
     have t11:TSame (upd H9 t (.tup [V.str "clash",V.ref p9,V.ref p7,V.ref p8])) (upd (upd H9 t (.tup [V.str "clash",V.ref p9,V.ref p7,V.ref p8])) o (.lst (v8 ++ [V.ref t]))):=TSame.upd ho10
     refine ⟨done ++ AnJ.flush (acc ++ AnJ.cut xs pl g.lo) ++ [.clash (AnJ.cut xs g.lo g.hi) (g.mine xs) (g.yours xs)],[],rfl,?_,?_,?_,AnJ.noSame_snoc rfl,?_,Nat.zero_le _,?_⟩
     ·exact An.Same.updF (e8.trans s10) bo
     ·rw [zF lo3]; exact s10 _ _ hl8
     ·have ef:∀ l:List (AnJ.Pt Str),l ++ AnJ.flush ([]:List Str) = l:=fun l=>List.append_nil _
      rw [ef]
      refine ⟨v8 ++ [V.ref t],upd_same,?_⟩
      rw [List.map_append]
      exact AnJ.DtAll.ts t11 _ _ (by rw [← List.map_append]; exact AnJ.noL_pts _) (DtAll.append (DtAll.same s10 _ _ d8) ⟨_,_,rfl,hd10,rfl⟩)
     ·rw [List.length_append,List.length_append,List.length_singleton]; omega
     ·rw [List.append_assoc,List.append_assoc,List.singleton_append,← st2 h1]
      exact eq
   ·rintro σ' H9 ⟨done,acc,rfl,e9,hl9,hp9,ns9,dl9,al9,eq9⟩
    exact ⟨_,rfl,g.hi,done,acc,_,_,_,_,_,_,rfl,e9,hl9,hp9,ns9,dl9,al9,ghi,eq9⟩
  ·rintro σ H4 ⟨pl,done,acc,q5,q6,q7,q8,q9,q10,rfl,e4,hl4,hp4,nsm,dl,al,pll,eq⟩
   rw [List.drop_of_length_le (by omega)] at eq
   have eq:done ++ AnJ.flush (acc ++ xs.drop pl) = AnJ.J xs [] 0 gs:=eq
   refine ⟨_,rfl,_,rfl,_,rfl,_,rfl,a,_,rfl,e4.tupS ba,fun v H5 hv=>?_⟩
   obtain ⟨p5,rfl,s5,hp5⟩:=An12.cut_any (e4.tupS ba) hv
   rw [An12.cut_rest pll] at hp5
   refine ⟨o,p5,done,acc,xs.drop pl,rfl,hp4.same s5,nsm,hp5,by omega,by omega,by rw [List.length_drop]; omega,fun H6 t6 s6 hp6=>?_⟩
   rw [eq] at hp6
   exact ⟨_,rfl,k o (AnJ.J xs [] 0 gs) H6 (back _ (AnJ.same_step (e4.trans s5) bo s6)) no ⟨gs,grp,rfl⟩ hp6⟩
end j_joined
theorem sl47:[V.str "/"] = [V.str ⟨#[47]⟩]:=by rw [An.stroke_is]; rfl
theorem labs47 (x:Str):PySem.Txt.split x ⟨#[47]⟩ = An.labs x:=by unfold An.labs; rw [An.stroke_is]; rfl
def spFols (K:PySem.W.Frag):Sp:=fun vs H Q _=>∃ x:Str,vs = [.str x] /\ x.length <= 1000 /\ ∀ p H',Same H H' -> SqL K H' p ((fols x).map V.str) -> Q (.ref p) H'
namespace p_fols
abbrev st:Stmt:=top 16
theorem sc:FnScope ["path","labels"] ["path"] (zD st):=⟨rfl,rfl,rfl,by decide +kernel,rfl,by decide +kernel,by decide +kernel⟩
theorem ok {f:Addr} {fd:FuncData} (F:Fun K "folders_of" "folders_of" st f fd) (T:Txt K mg t1 t2):FnOk P w K mg base CX0 1 f fd ["path"] (spFols K):=by
 refine F.ok sc (fun vs H Q E h=>?_) (fun cdv A outer s H vs Q E hr h=>?_)
 ·obtain ⟨x,rfl,_⟩:=h
  rfl
 ·obtain ⟨x,rfl,xl,k⟩:=h
  refine ⟨_,(zB (zO (i:=1) sc.nd rfl (Or.inr rfl) (qG PySem.F.plainAttrs_str PySem.F.slot_str_split PySem.F.type_str_split mt_split (pv 0) (zA zZ zC)))
   (zE (zP (y4 (sc:=zD st) (N:=["path","labels"]) (N':=["count","labels"]) (src:=[none,some 1]) ⟨by decide +kernel,rfl,rfl,by decide +kernel,by decide +kernel,by decide +kernel,by decide +kernel⟩ rfl rfl rfl (pi_range2 rfl T.range (zA zH (zA (zQ zN (by rfl) T.len PySem.boot_len (zA (pv 1) zC)) zC))) (fun _ _ _ _=>(zM (i:=0) (show (["count","labels"]:List Str).Nodup by decide +kernel) rfl (Or.inl rfl))) (fun _ _ _ _=>xX) (fun _ _ _ _=>(pe_bmK (K:=K) PySem.F.plainAttrs_str PySem.F.slot_str_join PySem.F.type_str_join (mt_joinK (K:=K)) zZ (zA (z3 (sl_list:SlR _ (rSlL K)) (pv 1) xJ (zX (pv 0))) zC))))))),?_⟩
  have cl:=labs_cnt x
  have cp:=labs_pos x
  have e1:("/":Str).length = 1:=by decide +kernel
  refine ⟨_,rfl,rfl,x,47,rfl,sl47,by omega,fun l nl=>?_⟩
  rw [labs47]
  have u:=same_upd (o:=.lst ((labs x).map V.str)) nl
  refine ⟨_,rfl,l,_,rfl,.inl (SqL.of upd_same),1,(((labs x).map V.str).length:Int),rfl,⟨by decide,by decide,by omega,by rw [List.length_map]; omega⟩,?_⟩
  have en:((((labs x).map V.str).length:Int) - 1).toNat = (labs x).length - 1:=by rw [List.length_map]; omega
  rw [en]
  refine comp_range0 (fun i ys σ H2=>∃ o,σ = [o,some (.ref l)] /\ Same (upd H l (.lst ((labs x).map V.str))) H2 /\ ys = ((List.range i).map fun i=>PySem.Txt.join "/" ((labs x).take (i + 1))).map V.str) ⟨none,rfl,Same.refl _,rfl⟩ (le_line (by omega)) ?_ ?_ ?_
  ·rintro i ys σ H2 hi ⟨o,rfl,e2,rfl⟩
   rw [List.length_map,List.length_map,List.length_range]
   exact Nat.le_refl _
  ·rintro i ys σ H2 hi ⟨o,rfl,e2,rfl⟩
   refine ⟨rfl,_,rfl,_,rfl,_,rfl,l,_,rfl,SqL.of (e2 _ _ upd_same),fun p np=>?_⟩
   have et:cutV ((labs x).map V.str) none (some (1 + (i:Int))) = ((labs x).take (i + 1)).map V.str:=by
    rw [cut_to (by omega),List.map_take]
    congr 1
    omega
   rw [et]
   refine ⟨"/",p,(labs x).take (i + 1),rfl,rfl,.inl (SqL.of upd_same),?_,_,rfl,e2.trans (same_upd np),?_⟩
   ·have h1:=sum_le (n:=1000) ((labs x).take (i + 1)) (fun y hy=>by have:=labs_len (List.mem_of_mem_take hy); omega)
    have h2:((labs x).take (i + 1)).length <= 1001:=by rw [List.length_take]; omega
    have h3:((labs x).take (i + 1)).length * 1000 <= 1001 * 1000:=Nat.mul_le_mul_right _ h2
    refine le_line ?_
    rw [e1]
    omega
   ·rw [List.range_succ,List.map_append,List.map_append]; rfl
  ·rintro ys σ H2 ⟨o,rfl,e2,rfl⟩ p np
   exact k p _ ((u.trans e2).trans (same_upd np)) (SqL.of upd_same)
end p_fols
end
end An18
namespace AnS
open PySem L2 An AnJ
def oD:Option (List Str) -> PyData
 | none=>.none
 | some ls=>tupS ls
theorem eqv_oD (a b:Option (List Str)):PyData.eqv (oD a) (oD b) = decide (a = b):=by
 cases a with
 | none =>
  cases b with
  | none=>rfl
  | some y=>rfl
 | some x =>
  cases b with
  | none=>rfl
  | some y =>
   show PyData.eqv (tupS x) (tupS y) = _
   rw [eqv_tupS,Bool.eq_iff_iff,decide_eq_true_iff,decide_eq_true_iff,Option.some.injEq]
def okO (o:Option (List Str)):Prop:=∀ ls,o = some ls -> okL ls
theorem lay_oD {o:Option (List Str)} (h:okO o):(oD o).canLay0 = true /\ (oD o).depth <= 1:=by
 cases o with
 | none=>exact ⟨rfl,Nat.zero_le _⟩
 | some ls=>exact lay_tupS (h ls rfl)
theorem shaped_oD {o:Option (List Str)} (h:okO o):SeqAt.shaped (oD o) = true:=shaped_of (lay_oD h).1 (Nat.le_trans (lay_oD h).2 (by decide))
def DS (H H':Hp):Prop:=∀ b o,H b = some o -> (∀ kvs,o ≠ .dK kvs) -> H' b = some o
theorem DS.of {H H':Hp} (e:Same H H'):DS H H':=fun b o h _=>e b o h
theorem DS.trans {H H1 H2:Hp} (a:DS H H1) (b:DS H1 H2):DS H H2:=fun c o h n=>b c o (a c o h n) n
theorem DS.upd {H:Hp} {d:Addr} {kvs:List (Key × V)} {o:HO} (h:H d = some (.dK kvs)):DS H (upd H d o):=fun b u e n=>by
 rw [zF fun z=>by rw [z,h] at e; exact n kvs (Option.some.inj e).symm]
 exact e
theorem DS.sqT {K:PySem.W.Frag} {H H':Hp} {a:Addr} {xs:List V} (e:DS H H') (h:SqT K H a xs):SqT K H' a xs:=by
 rcases h with (h | ⟨o,h⟩) | h
 ·exact .inl (.inl (e _ _ h fun _ z=>(nomatch z)))
 ·exact .inl (.inr ⟨o,e _ _ h fun _ z=>(nomatch z)⟩)
 ·exact .inr h
theorem DS.sqL {K:PySem.W.Frag} {H H':Hp} {a:Addr} {xs:List V} (e:DS H H') (h:SqL K H a xs):SqL K H' a xs:=by
 rcases h with (h | ⟨o,h⟩) | h
 ·exact .inl (.inl (e _ _ h fun _ z=>(nomatch z)))
 ·exact .inl (.inr ⟨o,e _ _ h fun _ z=>(nomatch z)⟩)
 ·exact .inr h
mutual
theorem DS.dt {K:PySem.W.Frag} {H H':Hp} (e:DS H H'):∀ (d:PyData) (v:V),Dt K H d v -> Dt K H' d v
 | .none,_,h=>h
 | .bool _,_,h=>h
 | .int _,_,h=>h
 | .str _,_,h=>h
 | .list ds,_,⟨a,xs,h1,h2,h3⟩=>⟨a,xs,h1,e.sqL h2,DS.dts e ds xs h3⟩
 | .tuple ds,_,⟨a,xs,h1,h2,h3⟩=>⟨a,xs,h1,e.sqT h2,DS.dts e ds xs h3⟩
 | .dict _,_,h=>h
theorem DS.dts {K:PySem.W.Frag} {H H':Hp} (e:DS H H'):∀ (ds:List PyData) (xs:List V),DtAll K H ds xs -> DtAll K H' ds xs
 | [],_,h=>h
 | d :: ds,_,⟨x,r,h1,h2,h3⟩=>⟨x,r,h1,DS.dt e d x h2,DS.dts e ds r h3⟩
end
structure DictIs (K:PySem.W.Frag) (H:Hp) (kvs:List (Key × V)) (L:List Str) (g:Str -> PyData):Prop where
 keys:kvs.map (·.1) = L.map Sum.inr
 nd:L.Nodup
 val:∀ p ∈ L,∃ v,valV kvs (.inr p) = some v /\ Dt K H (g p) v
section
variable {K:PySem.W.Frag} {H H':Hp} {kvs more:List (Key × V)} {L M:List Str} {g:Str -> PyData}
theorem DictIs.nil:DictIs K H [] [] g:=⟨rfl,List.nodup_nil,fun _ h=>(nomatch h)⟩
theorem DictIs.len (h:DictIs K H kvs L g):kvs.length = L.length:=by
 have:=congrArg List.length h.keys
 rw [List.length_map,List.length_map] at this
 exact this
theorem DictIs.mono (h:DictIs K H kvs L g) (e:DS H H'):DictIs K H' kvs L g:=⟨h.keys,h.nd,fun p hp=>let ⟨v,a,b⟩:=h.val p hp; ⟨v,a,e.dt _ _ b⟩⟩
theorem DictIs.same (h:DictIs K H kvs L g) (e:Same H H'):DictIs K H' kvs L g:=h.mono (.of e)
theorem DictIs.cong {g':Str -> PyData} (h:DictIs K H kvs L g) (e:∀ p ∈ L,g p = g' p):DictIs K H kvs L g':=⟨h.keys,h.nd,fun p hp=>let ⟨v,a,b⟩:=h.val p hp; ⟨v,a,e p hp ▸ b⟩⟩
theorem DictIs.at (h:DictIs K H kvs L g) {i:Nat} {kv:Key × V} (e:kvs[i]? = some kv):L[i]? = some (keyS kv) /\ kv.1 = .inr (keyS kv):=by
 have:=congrArg (fun l=>l[i]?) h.keys
 simp only [List.getElem?_map,e,Option.map_some] at this
 cases q:L[i]? with
 | none=>rw [q] at this; cases this
 | some p =>
  rw [q] at this
  have this:kv.1 = .inr p:=Option.some.inj this
  have ek:keyS kv = p:=by unfold keyS; rw [this]
  exact ⟨by rw [ek],by rw [ek,this]⟩
theorem DictIs.allS (h:DictIs K H kvs L g):AllS kvs:=fun kv hkv=>by
 obtain ⟨i,e⟩:=List.mem_iff_getElem?.mp hkv
 exact (h.at e).2
theorem DictIs.keysS (h:DictIs K H kvs L g):kvs.map keyS = L:=by
 refine List.ext_getElem? fun i=>?_
 rw [List.getElem?_map]
 cases e:kvs[i]? with
 | none =>
  have:L.length <= i:=by rw [← h.len]; exact List.getElem?_eq_none_iff.mp e
  rw [List.getElem?_eq_none_iff.mpr this]; rfl
 | some kv=>rw [(h.at e).1]; rfl
theorem DictIs.kV (h:DictIs K H kvs L g):(kvs.map fun kv=>L2.kV kv.1) = L.map V.str:=by
 rw [← h.keysS,List.map_map]
 refine List.map_congr_left fun kv hkv=>?_
 show L2.kV kv.1 = V.str (keyS kv)
 rw [h.allS kv hkv]
 rfl
theorem DictIs.mem (h:DictIs K H kvs L g) {p:Str}:(.inr p:Key) ∈ kvs.map (·.1) ↔ p ∈ L:=by
 rw [h.keys,List.mem_map]
 exact ⟨fun ⟨q,hq,e⟩=>by cases e; exact hq,fun z=>⟨p,z,rfl⟩⟩
theorem DictIs.no (h:DictIs K H kvs L g) {p:Str} (n:p ∉ L):valV kvs (.inr p) = none:=by
 cases e:valV kvs (.inr p) with
 | none=>rfl
 | some v=>exact absurd (h.mem.mp (valV_in e)) n
theorem DictIs.isSome (h:DictIs K H kvs L g) (p:Str):(valV kvs (.inr p)).isSome = decide (p ∈ L):=by
 by_cases z:p ∈ L
 ·obtain ⟨v,e,_⟩:=h.val p z
  rw [e,decide_eq_true z]; rfl
 ·rw [h.no z,decide_eq_false z]; rfl
def addL (L:List Str) (p:Str):List Str:=if p ∈ L then L else L ++ [p]
theorem mem_addL {p q:Str}:q ∈ addL L p ↔ q ∈ L \/ q = p:=by
 unfold addL
 by_cases z:p ∈ L
 ·rw [if_pos z]
  exact ⟨.inl,fun h=>h.elim id fun e=>e ▸ z⟩
 ·rw [if_neg z,List.mem_append,List.mem_singleton]
theorem addL_len (p:Str):(addL L p).length <= L.length + 1:=by
 unfold addL
 split
 ·omega
 ·rw [List.length_append]; exact Nat.le_refl _
theorem DictIs.put (h:DictIs K H kvs L g) (p:Str) {v:V} {d:PyData} (hv:Dt K H d v):DictIs K H (putK kvs (.inr p) v) (addL L p) (fun q=>if q = p then d else g q):=by
 refine ⟨?_,?_,fun q hq=>?_⟩
 ·unfold addL
  by_cases z:p ∈ L
  ·rw [if_pos z]
   unfold putK
   rw [if_pos (by rw [xL,h.isSome,decide_eq_true z]),List.map_map,← h.keys]
   refine List.map_congr_left fun kv _=>?_
   show (if kv.1 = .inr p then (kv.1,v) else kv).1 = kv.1
   split <;> rfl
  ·rw [if_neg z,putK_new v (h.no z),List.map_append,List.map_append,h.keys]
   rfl
 ·unfold addL
  by_cases z:p ∈ L
  ·rw [if_pos z]; exact h.nd
  ·rw [if_neg z]; exact nd_snoc h.nd z
 ·rw [valV_put]
  by_cases e:q = p
  ·subst e
   rw [if_pos rfl]
   exact ⟨v,rfl,by show Dt K H (if q = q then d else g q) v; rw [if_pos rfl]; exact hv⟩
  ·have e':¬ ((.inr q:Key) = .inr p):=fun z=>by cases z; exact e rfl
   rw [if_neg e']
   obtain ⟨w,a,b⟩:=h.val q ((mem_addL.mp hq).resolve_right e)
   exact ⟨w,a,by show Dt K H (if q = p then d else g q) w; rw [if_neg e]; exact b⟩
theorem DictIs.nodup (h:DictIs K H kvs L g):(kvs.map (·.1)).Nodup:=by
 rw [h.keys]
 exact List.Pairwise.map _ (fun a b n e=>by cases e; exact n rfl) h.nd
theorem qZ {κ:Type} [DecidableEq κ]:∀ {kvs:List (κ × V)} {kv:κ × V},(kvs.map (·.1)).Nodup -> kv ∈ kvs -> valV kvs kv.1 = some kv.2
 | p :: r,kv,nd,h=>by
  rw [List.map_cons,List.nodup_cons] at nd
  rcases List.mem_cons.mp h with rfl | h
  ·exact yI rfl
  ·rw [yH fun e=>nd.1 (e ▸ List.mem_map.mpr ⟨kv,h,rfl⟩)]
   exact qZ nd.2 h
theorem DictIs.pair (h:DictIs K H kvs L g) {kv:Key × V} (hkv:kv ∈ kvs):kv.1 = .inr (keyS kv) /\ keyS kv ∈ L /\ Dt K H (g (keyS kv)) kv.2:=by
 have e:=h.allS kv hkv
 have hm:keyS kv ∈ L:=by rw [← h.keysS]; exact List.mem_map.mpr ⟨kv,hkv,rfl⟩
 obtain ⟨v,a,b⟩:=h.val _ hm
 have:=qZ h.nodup hkv
 rw [e,a] at this
 exact ⟨e,hm,Option.some.inj this ▸ b⟩
theorem DictIs.drop (h:DictIs K H kvs L g) (p:Str):DictIs K H (dropK kvs (.inr p)) (L.filter fun q=>decide (q ≠ p)) g:=by
 have go:∀ {kvs:List (Key × V)} {L:List Str},kvs.map (·.1) = L.map Sum.inr -> (dropK kvs (.inr p)).map (·.1) = (L.filter fun q=>decide (q ≠ p)).map Sum.inr:=fun {kvs}=>by
  induction kvs with
  | nil=>intro L e; cases L with
   | nil=>rfl
   | cons=>cases e
  | cons kv r ih=>intro L e; cases L with
   | nil=>cases e
   | cons x L =>
    rw [List.map_cons,List.map_cons] at e
    injection e with e1 e2
    by_cases z:x = p
    ·rw [dropK_pos (by rw [e1,z]),List.filter_cons,if_neg (by simp [z])]
     exact ih e2
    ·rw [dropK_neg (by rw [e1]; exact fun q=>by cases q; exact z rfl),List.filter_cons,if_pos (by simp [z]),List.map_cons,List.map_cons,e1,ih e2]
 have e:=go h.keys
 refine ⟨e,h.nd.filter _,fun q hq=>?_⟩
 obtain ⟨hq,ne⟩:=List.mem_filter.mp hq
 obtain ⟨v,a,b⟩:=h.val q hq
 refine ⟨v,?_,b⟩
 have ne:q ≠ p:=of_decide_eq_true ne
 obtain ⟨kv,hkv,ek⟩:=List.mem_map.mp (valV_in a)
 have e2:=qZ h.nodup hkv
 rw [ek,a] at e2
 have hm:kv ∈ dropK kvs (.inr p):=List.mem_filter.mpr ⟨hkv,decide_eq_true (by rw [ek]; exact fun z=>by cases z; exact ne rfl)⟩
 have nd2:((dropK kvs (.inr p)).map (·.1)).Nodup:=by
  rw [e]
  exact List.Pairwise.map _ (fun a b n e=>by cases e; exact n rfl) (h.nd.filter _)
 have:=qZ nd2 hm
 rw [ek] at this
 rw [this,Option.some.inj e2]
theorem putAll_is {d:PyData}:∀ {more kvs:List (Key × V)} {L:List Str},DictIs K H kvs L (fun _=>d) -> (∀ kv ∈ more,kv.1 = .inr (keyS kv) /\ Dt K H d kv.2) -> ∃ L',DictIs K H (putAll kvs more) L' (fun _=>d) /\ ∀ p,p ∈ L' ↔ p ∈ L \/ p ∈ more.map keyS
 | [],kvs,L,h,_=>⟨L,h,fun p=>by simp⟩
 | kv :: more,kvs,L,h,al=>by
  obtain ⟨e,hd⟩:=al kv (List.mem_cons_self ..)
  have h1:=(h.put (keyS kv) hd).cong (g':=fun _=>d) fun p _=>by show (if p = keyS kv then d else d) = d; rw [ite_self]
  rw [← e] at h1
  obtain ⟨L',h2,m⟩:=putAll_is h1 fun x hx=>al x (List.mem_cons_of_mem _ hx)
  refine ⟨L',h2,fun p=>?_⟩
  rw [m,mem_addL,List.map_cons,List.mem_cons,or_assoc]
theorem putAll_self:∀ (more acc:List (Key × V)),((acc ++ more).map (·.1)).Nodup -> putAll acc more = acc ++ more
 | [],acc,_=>by rw [List.append_nil]; rfl
 | kv :: more,acc,nd=>by
  have e:putK acc kv.1 kv.2 = acc ++ [kv]:=putK_new _ (by
   cases q:valV acc kv.1 with
   | none=>rfl
   | some v =>
    have:=valV_in q
    rw [List.map_append,List.map_cons] at nd
    exact absurd rfl ((List.nodup_append.mp nd).2.2 _ this _ (List.mem_cons_self ..)))
  show putAll (putK acc kv.1 kv.2) more = _
  rw [e,putAll_self more (acc ++ [kv]) (by rw [List.append_assoc]; exact nd),List.append_assoc]
  rfl
theorem DictIs.vals2 {ka kb:List (Key × V)} (a:DictIs K H ka L g) (b:DictIs K H kb L g) (s:∀ p ∈ L,SeqAt.shaped (g p) = true) (e:∀ p ∈ L,PyData.eqv (g p) (g p) = true):Vals2 K H kb ka:=fun kv hkv=>by
 obtain ⟨ek,hm,hd⟩:=a.pair hkv
 obtain ⟨y,h1,h2⟩:=b.val _ hm
 exact ⟨y,_,_,by rw [ek]; exact h1,hd,h2,s _ hm,s _ hm,e _ hm⟩
end
structure Files (K:PySem.W.Frag) (H:Hp) (kvs:List (Key × V)) (L:List Str) (F:Str -> Option (List Str)):Prop where
 is:DictIs K H kvs L (fun p=>oD (F p))
 mem:∀ p,p ∈ L ↔ (F p).isSome = true
section
variable {K:PySem.W.Frag} {H H':Hp} {kvs:List (Key × V)} {L:List Str} {F:Str -> Option (List Str)}
theorem Files.get (h:Files K H kvs L F) (p:Str):Dt K H (oD (F p)) ((valV kvs (.inr p)).getD .non):=by
 by_cases z:p ∈ L
 ·obtain ⟨v,e,d⟩:=h.is.val p z
  rw [e]; exact d
 ·rw [h.is.no z]
  have:F p = none:=by
   cases q:F p with
   | none=>rfl
   | some x=>exact absurd ((h.mem p).mpr (by rw [q]; rfl)) z
  rw [this]
  rfl
theorem Files.mono (h:Files K H kvs L F) (e:DS H H'):Files K H' kvs L F:=⟨h.is.mono e,h.mem⟩
theorem Files.same (h:Files K H kvs L F) (e:Same H H'):Files K H' kvs L F:=h.mono (.of e)
theorem Files.put (h:Files K H kvs L F) (p:Str) {v:V} {ls:List Str} (hv:Dt K H (tupS ls) v):Files K H (putK kvs (.inr p) v) (addL L p) (fun q=>if q = p then some ls else F q):=by
 refine ⟨(h.is.put p hv).cong fun q _=>?_,fun q=>?_⟩
 ·show (if q = p then tupS ls else oD (F q)) = oD (if q = p then some ls else F q)
  split <;> rfl
 ·rw [mem_addL,h.mem]
  show _ ↔ (if q = p then some ls else F q).isSome = true
  by_cases z:q = p
  ·rw [if_pos z]; exact ⟨fun _=>rfl,fun _=>.inr z⟩
  ·rw [if_neg z]; exact ⟨fun q=>q.resolve_right z,.inl⟩
theorem Files.drop (h:Files K H kvs L F) (p:Str):Files K H (dropK kvs (.inr p)) (L.filter fun q=>decide (q ≠ p)) (fun q=>if q = p then none else F q):=by
 refine ⟨(h.is.drop p).cong fun q hq=>?_,fun q=>?_⟩
 ·have:q ≠ p:=of_decide_eq_true (List.mem_filter.mp hq).2
  show oD (F q) = oD (if q = p then none else F q)
  rw [if_neg this]
 ·rw [List.mem_filter,h.mem]
  show _ ↔ (if q = p then none else F q).isSome = true
  by_cases z:q = p
  ·rw [if_pos z]; exact ⟨fun w=>absurd z (of_decide_eq_true w.2),fun w=>(nomatch w)⟩
  ·rw [if_neg z]; exact ⟨fun w=>w.1,fun w=>⟨w,decide_eq_true z⟩⟩
end
def J3 (b m y:Option (List Str)) (r:Option (Option (List Str))):Prop :=
 (m = y /\ r = some m) \/ (m ≠ y /\ m = b /\ r = some y) \/ (m ≠ y /\ m ≠ b /\ y = b /\ r = some m) \/ (m ≠ y /\ m ≠ b /\ y ≠ b /\ (b = none \/ m = none \/ y = none) /\ r = none) \/
 (m ≠ y /\ m ≠ b /\ y ≠ b /\ ∃ xs ms ys ps,b = some xs /\ m = some ms /\ y = some ys /\ Joined xs ms ys ps /\ r = (cleanL ps).map some)
def OutAt (K:PySem.W.Frag) (H:Hp) (t:Addr):Option (Option (List Str)) -> Prop
 | none=>SqT K H t [.str "clash",.non]
 | some o=>∃ v,SqT K H t [.str "stands",v] /\ Dt K H (oD o) v
def spAt (K:PySem.W.Frag):Sp:=fun vs H Q _=>∃ (vb vm vy:V) (b m y:Option (List Str)),vs = [vb,vm,vy] /\ Dt K H (oD b) vb /\ Dt K H (oD m) vm /\ Dt K H (oD y) vy /\ okO b /\ okO m /\ okO y /\ (∀ xs ms ys,b = some xs -> m = some ms -> y = some ys -> okJ xs ms ys) /\
 ∀ (t:Addr) r H',Same H H' -> J3 b m y r -> OutAt K H' t r -> Q (.ref t) H'
def blB (L:List Str) (p:Str):Bool:=L.any fun q=>overB q p || overB p q
def spWay (K:PySem.W.Frag):Sp:=fun vs H Q _=>∃ (d:Addr) (kvs:List (Key × V)) (L:List Str) (g:Str -> PyData),vs = [.ref d] /\ H d = some (.dK kvs) /\ DictIs K H kvs L g /\ (∀ p ∈ L,p.length <= 1000) /\ L.length <= 100 /\
 ∀ (e:Addr) (ke:List (Key × V)) (M:List Str) H',Same H H' -> H e = none -> H' e = some (.dK ke) -> DictIs K H' ke M (fun _=>.bool true) -> (∀ p,p ∈ M ↔ p ∈ L /\ blB L p = true) -> Q (.ref e) H'
abbrev Js:=Str -> Option (Option (List Str))
def stB (j:Js) (p:Str):Bool:=match j p with
 | some (some _)=>true
 | _=>false
def ST (ss:List Str) (j:Js):List Str:=ss.filter (stB j)
def LF (ss:List Str) (j:Js):List Str:=(ST ss j).filter fun p=>!blB (ST ss j) p
def LC (ss:List Str) (j:Js):List Str:=ss.filter fun p=>(j p).isNone || (stB j p && blB (ST ss j) p)
def gF (j:Js) (p:Str):PyData:=oD ((j p).getD none)
def rowD (B M Y:Str -> Option (List Str)) (p:Str):PyData:=.tuple [.str p,oD (B p),oD (M p),oD (Y p)]
def ResAt (K:PySem.W.Frag) (H:Hp) (t:Addr) (ss:List Str) (j:Js) (B M Y:Str -> Option (List Str)):Prop:=∃ (af ac:Addr) (kf:List (Key × V)),H t = some (.tup [.ref af,.ref ac]) /\ H af = some (.dK kf) /\ DictIs K H kf (LF ss j) (gF j) /\ Dt K H (.list ((LC ss j).map (rowD B M Y))) (.ref ac)
structure Uni (LB LM LY ss:List Str):Prop where
 sorted:ss.Pairwise leS
 nd:ss.Nodup
 mem:∀ p,p ∈ ss ↔ p ∈ LB \/ p ∈ LM \/ p ∈ LY
theorem same_sorted {l m:List Str} (h1:l.Pairwise leS) (h2:m.Pairwise leS) (n1:l.Nodup) (n2:m.Nodup) (e:∀ p,p ∈ l ↔ p ∈ m):l = m :=
 List.Perm.eq_of_pairwise (fun a b _ _=>leS_anti) h1 h2 ((List.perm_ext_iff_of_nodup n1 n2).mpr e)
theorem Uni.uniq {LB LM LY ss tt:List Str} (h:Uni LB LM LY ss) (k:Uni LB LM LY tt):ss = tt:=same_sorted h.sorted k.sorted h.nd k.nd fun p=>by rw [h.mem,k.mem]
theorem Uni.turn {LB LM LY ss:List Str} (h:Uni LB LM LY ss):Uni LB LY LM ss:=⟨h.sorted,h.nd,fun p=>by rw [h.mem]; exact or_congr Iff.rfl or_comm⟩
structure Three (K:PySem.W.Frag) (H:Hp) (kb km ky:List (Key × V)) (LB LM LY:List Str) (B M Y:Str -> Option (List Str)):Prop where
 fb:Files K H kb LB B
 fm:Files K H km LM M
 fy:Files K H ky LY Y
 len:LB.length + LM.length + LY.length < 60
 path:∀ p,p ∈ LB \/ p ∈ LM \/ p ∈ LY -> p.length <= 1000 /\ PyData.strOk p = true
 ok:∀ p,okO (B p) /\ okO (M p) /\ okO (Y p)
theorem Three.mono {K:PySem.W.Frag} {H H':Hp} {kb km ky:List (Key × V)} {LB LM LY:List Str} {B M Y:Str -> Option (List Str)} (h:Three K H kb km ky LB LM LY B M Y) (e:DS H H'):Three K H' kb km ky LB LM LY B M Y:=⟨h.fb.mono e,h.fm.mono e,h.fy.mono e,h.len,h.path,h.ok⟩
theorem Three.turn {K:PySem.W.Frag} {H:Hp} {kb km ky:List (Key × V)} {LB LM LY:List Str} {B M Y:Str -> Option (List Str)} (h:Three K H kb km ky LB LM LY B M Y):Three K H kb ky km LB LY LM B Y M:=⟨h.fb,h.fy,h.fm,by have:=h.len; omega,fun p hp=>h.path p (hp.elim .inl fun z=>.inr z.symm),fun p=>⟨(h.ok p).1,(h.ok p).2.2,(h.ok p).2.1⟩⟩
def spFiles (K:PySem.W.Frag):Sp:=fun vs H Q _=>∃ (ab am ay:Addr) (kb km ky:List (Key × V)) (LB LM LY:List Str) (B M Y:Str -> Option (List Str)) (j:Js),vs = [.ref ab,.ref am,.ref ay] /\ H ab = some (.dK kb) /\ H am = some (.dK km) /\ H ay = some (.dK ky) /\ Three K H kb km ky LB LM LY B M Y /\
 (∀ p xs ms ys,B p = some xs -> M p = some ms -> Y p = some ys -> okJ xs ms ys) /\ (∀ p r,J3 (B p) (M p) (Y p) r -> r = j p) /\
 ∀ (t:Addr) (ss:List Str) H',Same H H' -> Uni LB LM LY ss -> ResAt K H' t ss j B M Y -> Q (.ref t) H'
end AnS
namespace AnS
open PySem L2 An AnJ
section
variable {K:PySem.W.Frag} {H H':Hp}
theorem take_yes {ss:List Str} {i:Nat} {p:Str} {f:Str -> Bool} (nd:ss.Nodup) (hx:ss[i]? = some p) (h:f p = true):addL ((ss.take i).filter f) p = (ss.take (i + 1)).filter f:=by
 have nin:p ∉ (ss.take i).filter f:=fun z=>by
  obtain ⟨k,hk,e⟩:=List.mem_iff_getElem.mp (List.mem_filter.mp z).1
  rw [List.getElem_take] at e
  obtain ⟨hi,ei⟩:=List.getElem?_eq_some_iff.mp hx
  rw [List.length_take] at hk
  have:=(List.getElem_inj nd).mp (e.trans ei.symm)
  omega
 unfold addL
 rw [if_neg nin,List.take_add_one,hx,List.filter_append]
 show _ = _ ++ [p].filter f
 rw [List.filter_cons,if_pos h]
 rfl
theorem take_no {ss:List Str} {i:Nat} {p:Str} {f:Str -> Bool} (hx:ss[i]? = some p) (h:f p = false):(ss.take i).filter f = (ss.take (i + 1)).filter f:=by
 rw [List.take_add_one,hx,List.filter_append]
 show _ = _ ++ [p].filter f
 rw [List.filter_cons,if_neg (by rw [h]; exact Bool.false_ne_true)]
 exact (List.append_nil _).symm
theorem DictIs.filter {kvs:List (Key × V)} {L:List Str} {g:Str -> PyData} (h:DictIs K H kvs L g) (f:Str -> Bool):DictIs K H (kvs.filter fun kv=>f (keyS kv)) (L.filter f) g:=by
 have e:(kvs.filter fun kv=>f (keyS kv)).map (·.1) = (L.filter f).map Sum.inr:=by
  rw [← h.keysS,List.filter_map,List.map_map]
  refine List.map_congr_left fun kv hkv=>?_
  exact h.allS kv (List.mem_filter.mp hkv).1
 refine ⟨e,h.nd.filter _,fun p hp=>?_⟩
 obtain ⟨hp,hf⟩:=List.mem_filter.mp hp
 obtain ⟨v,a,b⟩:=h.val p hp
 refine ⟨v,?_,b⟩
 obtain ⟨kv,hkv,ek⟩:=List.mem_map.mp (valV_in a)
 have e2:=qZ h.nodup hkv
 rw [ek,a] at e2
 have hk:keyS kv = p:=by unfold keyS; rw [ek]
 have nd2:((kvs.filter fun kv=>f (keyS kv)).map (·.1)).Nodup:=by
  rw [e]
  exact List.Pairwise.map _ (fun a b n e=>by cases e; exact n rfl) (h.nd.filter _)
 have:=qZ nd2 (List.mem_filter.mpr ⟨hkv,by rw [hk]; exact hf⟩)
 rw [ek] at this
 rw [this,Option.some.inj e2]
theorem pairs_same {xs:List V} {kvs:List (Key × V)} (h:jH K H xs kvs) (e:Same H H'):jH K H' xs kvs:=⟨h.1,fun i x hx=>let ⟨T,k,v,a,b,c⟩:=h.2 i x hx; ⟨T,k,v,a,e.tupS b,c⟩⟩
theorem pairs_snoc {xs:List V} {kvs:List (Key × V)} {T:Addr} {k:Key} {v:V} (h:jH K H xs kvs) (hT:SqT K H T [kV k,v]):jH K H (xs ++ [.ref T]) (kvs ++ [(k,v)]):=by
 refine ⟨by rw [List.length_append,List.length_append,h.1]; rfl,fun i x hx=>?_⟩
 by_cases z:i < xs.length
 ·rw [List.getElem?_append_left z] at hx
  obtain ⟨T,k,v,a,b,c⟩:=h.2 i x hx
  exact ⟨T,k,v,a,b,by rw [List.getElem?_append_left (by rw [← h.1]; exact z)]; exact c⟩
 ·rw [List.getElem?_append_right (by omega)] at hx
  have hi:i - xs.length = 0:=by
   rcases Nat.eq_zero_or_pos (i - xs.length) with q | q
   ·exact q
   ·rw [List.getElem?_eq_none_iff.mpr (by show 1 <= _; omega)] at hx; cases hx
  rw [hi] at hx
  cases hx
  exact ⟨T,k,v,rfl,hT,by rw [List.getElem?_append_right (by rw [← h.1]; omega),← h.1,hi]; rfl⟩
theorem pairs_nil:jH K H [] []:=⟨rfl,fun i x hx=>(nomatch hx)⟩
theorem uni_of {LB LM LY ks3 ks5 ss:List Str} (b3:AxS.Both LB LM ks3) (b5:AxS.Both ks3 LY ks5) (pm:ss.Perm ks5) (so:PyProof.Rows.sortedS ss = true) (nb:LB.Nodup) (nm:LM.Nodup) (ny:LY.Nodup):Uni LB LM LY ss :=
 ⟨qS so,pm.nodup_iff.mpr (b5.nd (b3.nd nb nm) ny),fun p=>by rw [pm.mem_iff,b5.mem,b3.mem,or_assoc]⟩
theorem Uni.len {LB LM LY ks3 ks5 ss:List Str} (b3:AxS.Both LB LM ks3) (b5:AxS.Both ks3 LY ks5) (pm:ss.Perm ks5):ss.length <= LB.length + LM.length + LY.length:=by
 have:=b3.len
 have:=b5.len
 rw [pm.length_eq]
 omega
theorem LC_sorted {ss:List Str} {j:Js} (h:ss.Pairwise leS) (nd:ss.Nodup):(LC ss j).Pairwise leS /\ (LC ss j).Nodup:=⟨h.filter _,nd.filter _⟩
theorem LC_mem {ss:List Str} {j:Js} {p:Str}:p ∈ LC ss j ↔ p ∈ ss.filter (fun p=>(j p).isNone) \/ (p ∈ ST ss j /\ blB (ST ss j) p = true):=by
 unfold LC ST
 rw [List.mem_filter,List.mem_filter,List.mem_filter]
 constructor
 ·rintro ⟨h,z⟩
  rcases Bool.or_eq_true_iff.mp z with z | z
  ·exact .inl ⟨h,z⟩
  ·have:=Bool.and_eq_true_iff.mp z
   exact .inr ⟨⟨h,this.1⟩,this.2⟩
 ·rintro (⟨h,z⟩ | ⟨⟨h,a⟩,b⟩)
  ·exact ⟨h,by rw [z]; rfl⟩
  ·refine ⟨h,?_⟩
   rw [a,b]
   exact Bool.or_true _
theorem ST_mem {ss:List Str} {j:Js} {p:Str} (h:p ∈ ST ss j):p ∈ ss:=(List.mem_filter.mp h).1
theorem LF_of {ss M:List Str} {j:Js} (h:∀ p,p ∈ M ↔ p ∈ ST ss j /\ blB (ST ss j) p = true):(ST ss j).filter (fun p=>decide (p ∉ M)) = LF ss j:=by
 unfold LF
 refine List.filter_congr fun p hp=>?_
 rw [Bool.eq_iff_iff,decide_eq_true_iff,h,Bool.not_eq_true',Bool.eq_false_iff]
 exact ⟨fun z w=>z ⟨hp,w⟩,fun z w=>z w.2⟩
end
end AnS
namespace AnS
theorem len_sub {l m:List PySem.Str} (n1:l.Nodup) (n2:m.Nodup) (h:∀ p ∈ l,p ∈ m):l.length <= m.length:=by
 have:=(List.perm_ext_iff_of_nodup n1 (n2.filter (fun p=>decide (p ∈ l)))).mpr fun p=>by
  rw [List.mem_filter,decide_eq_true_iff]
  exact ⟨fun z=>⟨h p z,z⟩,fun z=>z.2⟩
 rw [this.length_eq]
 exact List.length_filter_le _ _
end AnS
namespace An18
open PySem L2 An An10 An12
seal L2.PS L2.PSs L2.PE L2.PT L2.PW L2.PA L2.PG L2.PGs L2.PI L2.PFi L2.PC
section
variable {P:Program} {w:World} {K:PySem.W.Frag} {mg:Str -> Option Value} {base:Heap} {t1 t2:Tok}
namespace s_at
theorem non_iff {H:Hp} {o:Option (List Str)} {v:V} (h:Dt K H (AnS.oD o) v):v = .non ↔ o = none:=by
 cases o with
 | none=>exact ⟨fun _=>rfl,fun _=>h⟩
 | some ls =>
  obtain ⟨a,xs,e,_⟩:=(show ∃ a xs,v = .ref a /\ _ from h)
  exact ⟨fun z=>(by rw [e] at z; cases z),fun z=>(by cases z)⟩
theorem tup_of {H:Hp} {ls:List Str} {v:V} (h:Dt K H (AnS.oD (some ls)) v):∃ q,v = .ref q /\ SqT K H q (ls.map V.str):=by
 obtain ⟨a,xs,e,h1,h2⟩:=(show ∃ a xs,v = .ref a /\ SqT K H a xs /\ DtAll K H (ls.map PyData.str) xs from h)
 rw [DtAll.strs_of h2] at h1
 exact ⟨a,e,h1⟩
abbrev st:Stmt:=top 19
theorem sc:FnScope ["base","mine","yours","lines"] ["base","mine","yours"] (zD st):=⟨rfl,rfl,rfl,by decide +kernel,rfl,by decide +kernel,by decide +kernel⟩
theorem ok {f:Addr} {fd:FuncData} (F:Fun K "joined_at" "joined_at" st f fd) (T:Txt K mg t1 t2) (C_joined_lines:Cal P w K mg base 7 "joined_lines" ["base","mine","yours"] (AnJ.spJoined K)) (C_clean_lines:Cal P w K mg base 1 "clean_lines" ["parts"] (AnJ.spClean K)):FnOk P w K mg base CX0 8 f fd ["base","mine","yours"] (AnS.spAt K):=by
 refine F.ok sc (fun vs H Q E h=>?_) (fun cdv A outer s H vs Q E hr h=>?_)
 ·obtain ⟨vb,vm,vy,b,m,y,rfl,_⟩:=h
  rfl
 ·obtain ⟨vb,vm,vy,b,m,y,rfl,hb,hm,hy,ob,om,oy,oj,k⟩:=h
  refine ⟨_,(zB (z5 (zI (yR hr.units) (pv 1) (pv 2) (zK _))
    (zE (zP (yA (zA zZ (zA (pv 1) zC)))))
    zT)
   (zB (z5 (zI (yR hr.units) (pv 1) (pv 0) (zK _))
    (zE (zP (yA (zA zZ (zA (pv 2) zC)))))
    zT)
   (zB (z5 (zI (yR hr.units) (pv 2) (pv 0) (zK _))
    (zE (zP (yA (zA zZ (zA (pv 1) zC)))))
    zT)
   (zB (z5 (PW.pt (xH (zI xE (pv 0) yE (zK _)) (xH (zI xE (pv 1) yE (zK _)) (y6 (zI xE (pv 2) yE (zK _))))))
    (zE (zP (yA (zA zZ (zA yE zC)))))
    zT)
   (zB (zO (i:=3) sc.nd rfl (Or.inl rfl) (zJ C_clean_lines (hr.mono (by decide)) (zA (zJ C_joined_lines (hr.mono (by decide)) (zA (pv 0) (zA (pv 1) (zA (pv 2) zC)))) zC)))
   (zE (zP (pe_ifExp (zI xE (pv 3) yE (zK _)) (yA (zA zZ (zA yE zC))) (yA (zA zZ (zA (pv 3) zC))))))))))),?_⟩
  refine ⟨_,rfl,_,rfl,AnS.oD m,AnS.oD y,hm,hy,AnS.shaped_oD om,AnS.shaped_oD oy,_,rfl,ite2 (fun h1=>?_) (fun h1=>?_)⟩
  ·rw [AnS.eqv_oD] at h1
   exact ⟨_,rfl,lineN 2,fun t nt=>k t (some m) _ (same_upd nt) (.inl ⟨of_decide_eq_true h1,rfl⟩) ⟨vm,SqT.of upd_same,Dt.same (same_upd nt) _ _ hm⟩⟩
  rw [AnS.eqv_oD] at h1
  have h1:m ≠ y:=fun z=>h1 (decide_eq_true z)
  refine ⟨_,rfl,_,rfl,AnS.oD m,AnS.oD b,hm,hb,AnS.shaped_oD om,AnS.shaped_oD ob,_,rfl,ite2 (fun h2=>?_) (fun h2=>?_)⟩
  ·rw [AnS.eqv_oD] at h2
   exact ⟨_,rfl,lineN 2,fun t nt=>k t (some y) _ (same_upd nt) (.inr (.inl ⟨h1,of_decide_eq_true h2,rfl⟩)) ⟨vy,SqT.of upd_same,Dt.same (same_upd nt) _ _ hy⟩⟩
  rw [AnS.eqv_oD] at h2
  have h2:m ≠ b:=fun z=>h2 (decide_eq_true z)
  refine ⟨_,rfl,_,rfl,AnS.oD y,AnS.oD b,hy,hb,AnS.shaped_oD oy,AnS.shaped_oD ob,_,rfl,ite2 (fun h3=>?_) (fun h3=>?_)⟩
  ·rw [AnS.eqv_oD] at h3
   exact ⟨_,rfl,lineN 2,fun t nt=>k t (some m) _ (same_upd nt) (.inr (.inr (.inl ⟨h1,h2,of_decide_eq_true h3,rfl⟩))) ⟨vm,SqT.of upd_same,Dt.same (same_upd nt) _ _ hm⟩⟩
  rw [AnS.eqv_oD] at h3
  have h3:y ≠ b:=fun z=>h3 (decide_eq_true z)
  have cl:(b = none \/ m = none \/ y = none) -> ∀ t,H t = none -> Q (.ref t) (upd H t (.tup [.str "clash",.non])):=fun z t nt=>k t none _ (same_upd nt) (.inr (.inr (.inr (.inl ⟨h1,h2,h3,z,rfl⟩)))) (SqT.of upd_same)
  refine ⟨_,rfl,rfl,_,rfl,ite2 (fun a1=>iteT ⟨lineN 2,cl (.inl ((non_iff hb).mp (of_decide_eq_true a1)))⟩) (fun a1=>⟨_,rfl,rfl,_,rfl,ite2 (fun a2=>iteT ⟨lineN 2,cl (.inr (.inl ((non_iff hm).mp (of_decide_eq_true a2))))⟩) (fun a2=>⟨_,rfl,rfl,_,rfl,ite2 (fun a3=>⟨lineN 2,cl (.inr (.inr ((non_iff hy).mp (of_decide_eq_true a3))))⟩) (fun a3=>?_)⟩)⟩)⟩
  have nb:b ≠ none:=fun z=>a1 (decide_eq_true ((non_iff hb).mpr z))
  have nm:m ≠ none:=fun z=>a2 (decide_eq_true ((non_iff hm).mpr z))
  have ny:y ≠ none:=fun z=>a3 (decide_eq_true ((non_iff hy).mpr z))
  obtain ⟨xs,rfl⟩:=Option.ne_none_iff_exists'.mp nb
  obtain ⟨ms,rfl⟩:=Option.ne_none_iff_exists'.mp nm
  obtain ⟨ys,rfl⟩:=Option.ne_none_iff_exists'.mp ny
  obtain ⟨qb,rfl,sb⟩:=tup_of hb
  obtain ⟨qm,rfl,sm⟩:=tup_of hm
  obtain ⟨qy,rfl,sy⟩:=tup_of hy
  have okj:=oj xs ms ys rfl rfl rfl
  refine ⟨_,rfl,_,rfl,_,rfl,qb,qm,qy,xs,ms,ys,rfl,sb,sm,sy,okj,fun l ps H1 s1 nl jn pa=>?_⟩
  have okp:=jn.okPs okj
  refine ⟨l,ps,rfl,pa.dt,okp.1,fun x hx=>(okp.2 _ hx).2,fun e H2 s2=>?_,fun ls e p H2 s2 hp=>?_⟩
  ·have u:=s1.trans s2
   exact ⟨_,rfl,rfl,_,rfl,iteY rfl ⟨lineN 2,fun t nt=>k t none _ (u.trans (same_upd nt)) (.inr (.inr (.inr (.inr ⟨h1,h2,h3,xs,ms,ys,ps,rfl,rfl,rfl,jn,by rw [e]; rfl⟩)))) (SqT.of upd_same)⟩⟩
  ·have u:=s1.trans s2
   exact ⟨_,rfl,rfl,_,rfl,iteN (fun z=>(nomatch z)) ⟨_,rfl,lineN 2,fun t nt=>k t (some (some ls)) _ (u.trans (same_upd nt)) (.inr (.inr (.inr (.inr ⟨h1,h2,h3,xs,ms,ys,ps,rfl,rfl,rfl,jn,by rw [e]; rfl⟩)))) ⟨.ref p,SqT.of upd_same,Dt.same (same_upd nt) _ _ (AnJ.lines_dt hp)⟩⟩⟩
end s_at
namespace s_way
abbrev st:Stmt:=top 20
theorem sc:FnScope ["files","found","path","folder"] ["files"] (zD st):=⟨rfl,rfl,rfl,by decide +kernel,rfl,by decide +kernel,by decide +kernel⟩
def W (L:List Str) (xs:List Str) (p:Str):Prop:=∃ x ∈ xs,∃ f ∈ fols x,f ∈ L /\ (p = f \/ p = x)
theorem W_all {L:List Str} {p:Str}:W L L p ↔ p ∈ L /\ AnS.blB L p = true:=by
 unfold AnS.blB
 rw [List.any_eq_true]
 constructor
 ·rintro ⟨x,hx,f,hf,hL,rfl | rfl⟩
  ·exact ⟨hL,x,hx,by rw [fols_iff.mp hf,Bool.or_true]⟩
  ·exact ⟨hx,f,hL,by rw [fols_iff.mp hf,Bool.true_or]⟩
 ·rintro ⟨hp,q,hq,h⟩
  rcases Bool.or_eq_true_iff.mp h with h | h
  ·exact ⟨p,hp,q,fols_iff.mpr h,hq,.inr rfl⟩
  ·exact ⟨q,hq,p,fols_iff.mpr h,hp,.inl rfl⟩
def I (H:Hp) (d e:Addr) (ob:Obj) (kvs:List (Key × V)) (K:PySem.W.Frag) (H2:Hp) (R:List Str -> Prop):Prop:=(∀ b o,b ≠ d -> H b = some o -> H2 b = some o) /\ H2 d = some (.frz ob (.dK kvs)) /\ ∃ ke M,H2 e = some (.dK ke) /\ AnS.DictIs K H2 ke M (fun _=>.bool true) /\ R M
theorem ok {f:Addr} {fd:FuncData} (F:Fun K "in_the_way" "in_the_way" st f fd) (T:Txt K mg t1 t2) (C_folders_of:Cal P w K mg base 1 "folders_of" ["path"] (spFols K)):FnOk P w K mg base CX0 2 f fd ["files"] (AnS.spWay K):=by
 refine F.ok sc (fun vs H Q E h=>?_) (fun cdv A outer s H vs Q E hr h=>?_)
 ·obtain ⟨d,kvs,L,g,rfl,_⟩:=h
  rfl
 ·obtain ⟨d,kvs,L,g,rfl,hd,di,pl,ll,k⟩:=h
  refine ⟨_,(zB (zO (i:=1) sc.nd rfl (Or.inl rfl) jK)
   (zB (xA PassesOwn.never rfl (pi_keys (pe_frz (pv 0))) (zM (i:=2) sc.nd rfl (Or.inl rfl))
    (zE (xA PassesOwn.never rfl (z8 (zJ C_folders_of (hr.mono (by decide)) (zA (pv 2) zC))) (zM (i:=3) sc.nd rfl (Or.inl rfl))
     (zE (z5 (zI (op_inZ hr.units) (pv 3) (pv 0) (by with_unfolding_all rfl))
      (zB (jA hr.units1 (pv 1) (pv 3) xW rfl)
      (zE (jA hr.units1 (pv 1) (pv 2) xW rfl)))
      zT)))))
   (zE (zP (qD (pv 1)))))),?_⟩
  have vl:=di.len
  refine fun e ne=>?_
  have de:d ≠ e:=zG hd ne
  refine ⟨_,rfl,d,kvs,rfl,by rw [zF de]; exact hd,fun ob=>⟨d,ob,kvs,rfl,upd_same,?_⟩⟩
  refine for_keys (fun i σ H2=>∃ o3 o4,σ = [some (.ref d),some (.ref e),o3,o4] /\ I H d e ob kvs K H2 (fun M=>(∀ p,p ∈ M ↔ W L (L.take i) p) /\ M.length <= 2002 * i)) ?_ ?_ ?_ ?_
  ·refine ⟨none,none,rfl,fun b o nb hb=>?_,upd_same,[],[],?_,AnS.DictIs.nil,fun p=>?_,Nat.zero_le _⟩
   ·rw [zF nb,zF (zG hb ne)]
    exact hb
   ·rw [zF (Ne.symm de),upd_same]
   ·exact ⟨fun z=>(nomatch z),fun ⟨x,hx,_⟩=>(nomatch hx)⟩
  ·rintro i σ H2 hi ⟨o3,o4,rfl,h1,h2,_⟩
   exact h2
  ·rintro i ky v σ H2 hi ⟨o3,o4,rfl,h1,h2,ke,M,h3,h4,h5,h6⟩
   obtain ⟨hx,ek⟩:=di.at hi
   have ek:ky = .inr (keyS (ky,v)):=ek
   generalize keyS (ky,v) = x at hx ek
   subst ek
   have xm:=List.mem_of_getElem? hx
   have il:i < 100:=by have:=(List.getElem?_eq_some_iff.mp hx).1; omega
   refine ⟨_,rfl,x,rfl,pl x xm,fun l H3 s3 hl=>⟨l,rfl,⟨_,hl⟩,?_⟩⟩
   have fl:(fols x).length <= 1000:=by
    have:=labs_cnt x
    have:=pl x xm
    unfold fols
    rw [List.length_map,List.length_range]
    omega
   refine yP (K:=K) (a:=l) (xs:=(fols x).map V.str) (fun i' σ H4=>∃ o4,σ = [some (.ref d),some (.ref e),some (.str x),o4] /\ SqL K H4 l ((fols x).map V.str) /\ I H d e ob kvs K H4 (fun M=>(∀ p,p ∈ M ↔ W L (L.take i) p \/ ∃ f ∈ (fols x).take i',f ∈ L /\ (p = f \/ p = x)) /\ M.length <= 2002 * i + 2 * i')) ?_ ?_ ?_ ?_
   ·exact ⟨_,rfl,hl,fun b o nb hb=>s3 _ _ (h1 b o nb hb),s3 _ _ h2,ke,M,s3 _ _ h3,h4.same s3,fun p=>by rw [h5]; exact ⟨.inl,fun z=>z.elim id fun ⟨f,hf,_⟩=>(nomatch hf)⟩,by omega⟩
   ·rintro i' σ H4 hi' ⟨o4,rfl,hl4,_⟩
    exact hl4
   ·rintro i' y σ H4 hy ⟨o4,rfl,hl4,g1,g2,ke,M,g3,g4,g5,g6⟩
    rw [List.getElem?_map] at hy
    cases q:(fols x)[i']? with
    | none=>rw [q] at hy; cases hy
    | some z =>
     rw [q] at hy
     have hy:V.str z = y:=Option.some.inj hy
     subst hy
     have i'l:i' < 1000:=by have:=(List.getElem?_eq_some_iff.mp q).1; omega
     have tk:(fols x).take (i' + 1) = (fols x).take i' ++ [z]:=by rw [List.take_add_one,q]; rfl
     have kl:=g4.len
     refine ⟨_,rfl,_,rfl,d,_,rfl,get_frz (k:=.inr z) g2,_,rfl,ite2 (fun c=>?_) (fun c=>?_)⟩
     ·rw [di.isSome] at c
      have c:z ∈ L:=of_decide_eq_true c
      have kl1:=xO ke (.inr z:Key) (V.bl true)
      refine ⟨_,rfl,_,rfl,e,_,rfl,DPut.k (k:=.inr z) g3 (Nat.lt_of_lt_of_le (by omega:ke.length < 16777216) (le_line (Nat.le_refl _))),_,rfl,_,rfl,e,_,rfl,DPut.k (k:=.inr x) upd_same (Nat.lt_of_lt_of_le (by omega:(putK ke (.inr z) (V.bl true)).length < 16777216) (le_line (Nat.le_refl _))),?_⟩
      have ds:AnS.DS H4 (upd (upd H4 e (.dK (putK ke (.inr z) (V.bl true)))) e (.dK (putK (putK ke (.inr z) (V.bl true)) (.inr x) (V.bl true)))):=(AnS.DS.upd g3).trans (AnS.DS.upd upd_same)
      have p1:=(g4.put z (v:=.bl true) (d:=.bool true) rfl).cong (g':=fun _=>.bool true) fun p _=>by show (if p = z then PyData.bool true else .bool true) = _; rw [ite_self]
      have p2:=(p1.put x (v:=.bl true) (d:=.bool true) rfl).cong (g':=fun _=>.bool true) fun p _=>by show (if p = x then PyData.bool true else .bool true) = _; rw [ite_self]
      refine ⟨_,rfl,ds.sqL hl4,fun b o nb hb=>?_,?_,_,_,upd_same,p2.mono ds,fun p=>?_,?_⟩
      ·have be:b ≠ e:=zG hb ne
       rw [zF be,zF be]
       exact g1 b o nb hb
      ·rw [zF de,zF de]
       exact g2
      ·rw [AnS.mem_addL,AnS.mem_addL,g5,tk]
       constructor
       ·rintro (((a | ⟨f,hf,a⟩) | rfl) | rfl)
        ·exact .inl a
        ·exact .inr ⟨f,List.mem_append_left _ hf,a⟩
        ·exact .inr ⟨p,List.mem_append_right _ (List.mem_singleton.mpr rfl),c,.inl rfl⟩
        ·exact .inr ⟨z,List.mem_append_right _ (List.mem_singleton.mpr rfl),c,.inr rfl⟩
       ·rintro (a | ⟨f,hf,a⟩)
        ·exact .inl (.inl (.inl a))
        ·rcases List.mem_append.mp hf with hf | hf
         ·exact .inl (.inl (.inr ⟨f,hf,a⟩))
         ·cases List.mem_singleton.mp hf
          rcases a.2 with a | a
          ·exact .inl (.inr a)
          ·exact .inr a
      ·have e1:=AnS.addL_len (L:=M) z
       have e2:=AnS.addL_len (L:=AnS.addL M z) x
       omega
     ·rw [di.isSome] at c
      have c:z ∉ L:=fun w=>c (decide_eq_true w)
      refine ⟨_,rfl,hl4,g1,g2,ke,M,g3,g4,fun p=>?_,by omega⟩
      rw [g5,tk]
      constructor
      ·rintro (a | ⟨f,hf,a⟩)
       ·exact .inl a
       ·exact .inr ⟨f,List.mem_append_left _ hf,a⟩
      ·rintro (a | ⟨f,hf,a⟩)
       ·exact .inl a
       ·rcases List.mem_append.mp hf with hf | hf
        ·exact .inr ⟨f,hf,a⟩
        ·cases List.mem_singleton.mp hf
         exact absurd a.1 c
   ·rintro σ H4 ⟨o4,rfl,hl4,g1,g2,ke,M,g3,g4,g5,g6⟩
    rw [List.length_map] at g5 g6
    refine ⟨_,_,rfl,g1,g2,ke,M,g3,g4,fun p=>?_,by omega⟩
    rw [g5,List.take_length,List.take_add_one,hx]
    constructor
    ·rintro (⟨y,hy,a⟩ | ⟨f,hf,a⟩)
     ·exact ⟨y,List.mem_append_left _ hy,a⟩
     ·exact ⟨x,List.mem_append_right _ (List.mem_singleton.mpr rfl),f,hf,a⟩
    ·rintro ⟨y,hy,f,hf,a⟩
     rcases List.mem_append.mp hy with hy | hy
     ·exact .inl ⟨y,hy,f,hf,a⟩
     ·cases List.mem_singleton.mp hy
      exact .inr ⟨f,hf,a⟩
  ·rintro σ H2 ⟨o3,o4,rfl,h1,h2,ke,M,h3,h4,h5,h6⟩
   refine ⟨_,rfl,d,ob,kvs,h2,fun o u (z:H d = some (.frz o u))=>(by rw [hd] at z; cases z),k e ke M _ (fun b o hb=>?_) ne (by rw [zF (Ne.symm de)]; exact h3) ?_ fun p=>?_⟩
   ·by_cases z:b = d
    ·subst z
     rw [upd_same,← hd]
     exact hb
    ·rw [zF z]
     exact h1 b o z hb
   ·exact ⟨h4.keys,h4.nd,fun p hp=>let ⟨v,a,b⟩:=h4.val p hp; ⟨v,a,b⟩⟩
   ·rw [h5,vl,List.take_length,W_all]
end s_way
end
end An18
namespace L2
open PySem PySem.Spec PyProof.Rows
section
variable {X:Cx} {K:PySem.W.Frag}
def rCatS (K:PySem.W.Frag):R2:=fun x y H Q=>∃ l b xs zs,x = .ref l /\ y = .ref b /\ SqL K H l xs /\ SqL K H b zs /\ xs.length + zs.length <= sizeLine /\ ∀ p,H p = none -> Q (.ref p) (upd H p (.lst (xs ++ zs)))
theorem jR (hK:X.K = K:=by rfl):OpR X (binaryOp .Add) (rCatS K):=by
 subst hK
 intro pins s σ H x y v u Q I rx ry h
 obtain ⟨l,b,xs,zs,rfl,rfl,hH,hB,hz,q⟩:=h
 cases rx
 cases ry
 obtain ⟨its,r,pl,z1⟩:=I.list hH
 obtain ⟨its2,r2,pl2,z2⟩:=I.list hB
 have l1:=r.length
 have l2:=r2.length
 obtain ⟨⟨cls,dd,data,sl⟩,ho,hc,n,hd⟩:=pl.isList
 obtain ⟨⟨cls2,dd2,data2,sl2⟩,ho2,hc2,n2,hd2⟩:=pl2.isList
 simp only at hc hd hc2 hd2
 subst hc hd hc2 hd2
 refine concat_meets ⟨_,ho,rfl⟩ ⟨_,ho2,rfl⟩ noFill_list_add seq_list_add PySem.F.slot_list_add PySem.F.entry_list_add (PySem.F.args_list_add_2 _ _) (list_addW l b its.toArray its2.toArray n n2 dd dd2 sl sl2 (by rw [List.size_toArray,List.size_toArray]; omega)) ⟨ho,ho2,?_⟩
 have ea:its.toArray ++ its2.toArray = (its ++ its2).toArray:=by simp
 rw [ea]
 exact ⟨.ref _,_,I.lnew (t':=s.toks) (r.append r2) (by rw [List.length_append]; omega),rfl,q _ I.fresh⟩
theorem pg_tupK {pos:Pos} {es:List Expr} {k:Nat} {t:TGs} {n:Nat} (hc:X.calm = true) (h:PGs X es t) (hK:X.K = K:=by rfl)
  (hn:(assignEach es X.env).length = n:=by rfl) (hst:(assignEach es X.env).findIdx? (·.1) = none:=by rfl):PG X (.Tuple es k pos) (gTup K n t):=by
 subst hK
 exact jN hc h hn hst
end
end L2
namespace An18
open PySem L2 An An10 An12
seal L2.PS L2.PSs L2.PE L2.PT L2.PW L2.PA L2.PG L2.PGs L2.PI L2.PFi L2.PC
section
variable {P:Program} {w:World} {K:PySem.W.Frag} {mg:Str -> Option Value} {base:Heap} {t1 t2:Tok}
namespace s_files
abbrev st:Stmt:=top 18
theorem sc:FnScope ["base","mine","yours","standing","clashing","path","outcome","blocked","files","clashes"] ["base","mine","yours"] (zD st):=⟨rfl,rfl,rfl,by decide +kernel,rfl,by decide +kernel,by decide +kernel⟩
theorem ok {f:Addr} {fd:FuncData} (F:Fun K "joined_files" "joined_files" st f fd) (T:Txt K mg t1 t2) (C_joined_at:Cal P w K mg base 8 "joined_at" ["base","mine","yours"] (AnS.spAt K)) (C_in_the_way:Cal P w K mg base 2 "in_the_way" ["files"] (AnS.spWay K)):FnOk P w K mg base CX0 9 f fd ["base","mine","yours"] (AnS.spFiles K):=by
 refine F.ok sc (fun vs H Q E h=>?_) (fun cdv A outer s H vs Q E hr h=>?_)
 ·obtain ⟨ab,am,ay,kb,km,ky,LB,LM,LY,B,M,Y,j,rfl,_⟩:=h
  rfl
 ·obtain ⟨ab,am,ay,kb,km,ky,LB,LM,LY,B,M,Y,j,rfl,hb,hm,hy,th,oj,det,k⟩:=h
  refine ⟨_,(zB (zO (i:=3) sc.nd rfl (Or.inl rfl) jK)
   (zB (zO (i:=4) sc.nd rfl (Or.inl rfl) jK)
   (zB (xA PassesOwn.never rfl (z8 (zQ (xC rfl) (by rfl) T.sorted PyProof.Rows.boot_sorted (zA (zU op_orS (zU op_orS (zV call_setR (by rfl) T.set PyProof.Rows.boot_set (zA (pv 0) zC)) (zV call_setR (by rfl) T.set PyProof.Rows.boot_set (zA (pv 1) zC))) (zV call_setR (by rfl) T.set PyProof.Rows.boot_set (zA (pv 2) zC))) zC))) (zM (i:=5) sc.nd rfl (Or.inl rfl))
    (zB (zO (i:=6) sc.nd rfl (Or.inl rfl) (zJ C_joined_at (hr.mono (by decide)) (zA (yD hr.units1 (pv 0) (pv 5) ⟨rfl,rfl,rfl,rfl⟩) (zA (yD hr.units1 (pv 1) (pv 5) ⟨rfl,rfl,rfl,rfl⟩) (zA (yD hr.units1 (pv 2) (pv 5) ⟨rfl,rfl,rfl,rfl⟩) zC)))))
    (zE (z5 (zI qX (zW (ix_tup:IxR _ (rIxT K)) (pv 6) zH (fun _ _=>rfl)) zZ (zK _))
     (zE (jA hr.units1 (pv 4) (pv 5) xW rfl))
     (zE (z5 (zI jP (zW (ix_tup:IxR _ (rIxT K)) (pv 6) zH (fun _ _=>rfl)) yE (zK _))
      (zE (jA hr.units1 (pv 3) (pv 5) (zW (ix_tup:IxR _ (rIxT K)) (pv 6) zH (fun _ _=>rfl)) rfl))
      zT))))))
   (zB (zO (i:=7) sc.nd rfl (Or.inr rfl) (zJ C_in_the_way (hr.mono (by decide)) (zA (pv 3) zC)))
   (zB (z6 (pe_dupd (pv 4) (pv 7) ⟨rfl,rfl,rfl,rfl⟩))
   (zB (zO (i:=8) sc.nd rfl (Or.inl rfl) (zV (call_dictP (K:=K) rfl) (by rfl) T.dict PyProof.Rows.boot_dict (zA (y4 (sc:=zD st) (N:=["base","mine","yours","standing","clashing","path","outcome","blocked","files","clashes"]) (N':=["path","lines","blocked"]) (src:=[none,none,some 7]) ⟨by decide +kernel,rfl,rfl,by decide +kernel,by decide +kernel,by decide +kernel,by decide +kernel⟩ rfl rfl rfl (pi_pairs (pe_frz (pv 3))) (fun _ _ _ _=>(pg_tupK (K:=K) (n:=2) rfl (zY (zM (i:=0) (show (["path","lines","blocked"]:List Str).Nodup by decide +kernel) rfl (Or.inl rfl)) (zY (zM (i:=1) (show (["path","lines","blocked"]:List Str).Nodup by decide +kernel) rfl (Or.inl rfl)) qE)))) (fun _ _ _ _=>(pf_one (zI (op_ninZ hr.units) (pv 0) (pv 2) (by with_unfolding_all rfl)))) (fun _ _ _ _=>(yA (zA (pv 0) (zA (pv 1) zC))))) zC)))
   (zB (ps_setc (sc:=zD st) (N:=["base","mine","yours","standing","clashing","path","outcome","blocked","files","clashes"]) (N':=["path","base","mine","yours"]) (src:=[none,some 0,some 1,some 2]) ⟨by decide +kernel,rfl,rfl,by decide +kernel,by decide +kernel,by decide +kernel,by decide +kernel⟩ rfl rfl rfl (z8 (zQ (jE rfl) (by rfl) T.sorted PyProof.Rows.boot_sorted (zA (pv 4) zC))) (fun _ _ _ _=>(zM (i:=0) (show (["path","base","mine","yours"]:List Str).Nodup by decide +kernel) rfl (Or.inl rfl))) (fun _ _ _ _=>xX) (fun _ _ _ _=>(yA (zA (pv 0) (zA (yD hr.units1 (pv 1) (pv 0) ⟨rfl,rfl,rfl,rfl⟩) (zA (yD hr.units1 (pv 2) (pv 0) ⟨rfl,rfl,rfl,rfl⟩) (zA (yD hr.units1 (pv 3) (pv 0) ⟨rfl,rfl,rfl,rfl⟩) zC)))))) sc.nd rfl (Or.inl rfl) (k:=9))
   (zE (zP (yA (zA (pv 8) (zA (pv 9) zC)))))))))))),?_⟩
  have l1:=th.fb.is.len
  have l2:=th.fm.is.len
  have l3:=th.fy.is.len
  have ll:=th.len
  have e1:=th.fb.is.keysS
  have e2:=th.fm.is.keysS
  have e3:=th.fy.is.keysS
  refine fun ds n1=>?_
  refine fun dc n2'=>?_
  have n2:H dc = none:=(same_upd n1).free n2'
  have dsc:ds ≠ dc:=zG upd_same n2'
  have s1:Same H (upd (upd H ds (.dK [])) dc (.dK [])):=(same_upd n1).trans (same_upd n2')
  refine ⟨_,rfl,ab,kb,rfl,.inl (s1 _ _ hb),th.fb.is.allS,by omega,fun p1 np1=>?_⟩
  rw [e1]
  have s2:=s1.trans (same_upd (o:=TxHO P w p1 LB) np1)
  refine ⟨_,rfl,am,km,rfl,.inl (s2 _ _ hm),th.fm.is.allS,by omega,fun p2 np2=>?_⟩
  rw [e2]
  have s3:=s2.trans (same_upd (o:=TxHO P w p2 LM) np2)
  refine ⟨p1,p2,LB,LM,rfl,rfl,by rw [zF (zG upd_same np2),upd_same],upd_same,zG upd_same np2,by omega,fun p3 ks3 np3 b3=>?_⟩
  have s4:=s3.trans (same_upd (o:=TxHO P w p3 ks3) np3)
  have:=b3.len
  refine ⟨_,rfl,ay,ky,rfl,.inl (s4 _ _ hy),th.fy.is.allS,by omega,fun p4 np4=>?_⟩
  rw [e3]
  have s5:=s4.trans (same_upd (o:=TxHO P w p4 LY) np4)
  refine ⟨p3,p4,ks3,LY,rfl,rfl,by rw [zF (zG upd_same np4),upd_same],upd_same,zG upd_same np4,by omega,fun p5 ks5 np5 b5=>?_⟩
  have s6:=s5.trans (same_upd (o:=TxHO P w p5 ks5) np5)
  have:=b5.len
  refine ⟨p5,ks5,rfl,upd_same,by omega,fun l ss nl pm so=>⟨l,rfl,⟨_,SqL.of upd_same⟩,?_⟩⟩
  have s7:=s6.trans (same_upd (o:=.lst (ss.map V.str)) nl)
  have un:=AnS.uni_of b3 b5 pm so th.fb.is.nd th.fm.is.nd th.fy.is.nd
  have sl:=AnS.Uni.len b3 b5 pm
  have t1:Same (upd (upd H ds (.dK [])) dc (.dK [])) (upd (upd (upd (upd (upd (upd (upd (upd H ds (.dK [])) dc (.dK [])) p1 (TxHO P w p1 LB)) p2 (TxHO P w p2 LM)) p3 (TxHO P w p3 ks3)) p4 (TxHO P w p4 LY)) p5 (TxHO P w p5 ks5)) l (.lst (ss.map V.str))) :=
   (((((same_upd np1).trans (same_upd np2)).trans (same_upd np3)).trans (same_upd np4)).trans (same_upd np5)).trans (same_upd nl)
  have hds0:=t1 ds (.dK []) (by rw [zF dsc,upd_same])
  have hdc0:=t1 dc (.dK []) upd_same
  have hl0:SqL K (upd (upd (upd (upd (upd (upd (upd (upd H ds (.dK [])) dc (.dK [])) p1 (TxHO P w p1 LB)) p2 (TxHO P w p2 LM)) p3 (TxHO P w p3 ks3)) p4 (TxHO P w p4 LY)) p5 (TxHO P w p5 ks5)) l (.lst (ss.map V.str))) l (ss.map V.str):=SqL.of upd_same
  clear s6 s5 s4 s3 s2
  have pathOf:∀ p ∈ ss,p.length <= 1000 /\ PyData.strOk p = true:=fun p hp=>th.path p ((un.mem p).mp hp)
  refine yP (K:=K) (a:=l) (xs:=ss.map V.str) (fun i σ H2=>∃ o5 o6,σ = [some (.ref ab),some (.ref am),some (.ref ay),some (.ref ds),some (.ref dc),o5,o6,none,none,none] /\ Same H H2 /\ SqL K H2 l (ss.map V.str) /\ ∃ ks kc,H2 ds = some (.dK ks) /\ H2 dc = some (.dK kc) /\ AnS.DictIs K H2 ks ((ss.take i).filter (AnS.stB j)) (AnS.gF j) /\ AnS.DictIs K H2 kc ((ss.take i).filter fun p=>(j p).isNone) (fun _=>.bool true)) ?_ ?_ ?_ ?_
  ·exact ⟨none,none,rfl,s7,hl0,[],[],hds0,hdc0,AnS.DictIs.nil,AnS.DictIs.nil⟩
  ·rintro i σ H2 hi ⟨o5,o6,rfl,e,hl,_⟩
   exact hl
  ·rintro i y σ H2 hy' ⟨o5,o6,rfl,e,hl,ks,kc,hs,hc,d1,d2⟩
   rw [List.getElem?_map] at hy'
   cases q:ss[i]? with
   | none=>rw [q] at hy'; cases hy'
   | some p =>
    rw [q] at hy'
    have hy':V.str p = y:=Option.some.inj hy'
    subst hy'
    have th2:=th.mono (.of e)
    have il:=(List.getElem?_eq_some_iff.mp q).1
    refine ⟨_,rfl,ab,rfl,.inl ⟨kb,.inl (e _ _ hb)⟩,_,rfl,_,DGet.k (k:=.inr p) (e _ _ hb),_,rfl,am,rfl,.inl ⟨km,.inl (e _ _ hm)⟩,_,rfl,_,DGet.k (k:=.inr p) (e _ _ hm),_,rfl,ay,rfl,.inl ⟨ky,.inl (e _ _ hy)⟩,_,rfl,_,DGet.k (k:=.inr p) (e _ _ hy),?_⟩
    refine ⟨_,_,_,B p,M p,Y p,rfl,th2.fb.get p,th2.fm.get p,th2.fy.get p,(th.ok p).1,(th.ok p).2.1,(th.ok p).2.2,oj p,fun t r H3 s3 hj ho=>?_⟩
    have er:=det p r hj
    have e3:=e.trans s3
    have hl3:=s3.seq hl
    have d1:=d1.same s3
    have d2:=d2.same s3
    have hs:=s3 _ _ hs
    have hc:=s3 _ _ hc
    have kl1:=d1.len
    have kl2:=d2.len
    have fl1:=List.length_filter_le (AnS.stB j) (ss.take i)
    have fl2:=List.length_filter_le (fun p=>(j p).isNone) (ss.take i)
    rw [List.length_take] at fl1 fl2
    have r1:ks.length < sizeLine:=Nat.lt_of_lt_of_le (by omega:ks.length < 16777216) (le_line (Nat.le_refl _))
    have r2:kc.length < sizeLine:=Nat.lt_of_lt_of_le (by omega:kc.length < 16777216) (le_line (Nat.le_refl _))
    subst er
    cases q2:j p with
    | none =>
     rw [q2] at ho
     have ho:SqT K H3 t [.str "clash",.non]:=ho
     refine ⟨_,rfl,t,_,_,_,rfl,rfl,ho,rfl,rfl,_,rfl,iteY rfl ⟨_,rfl,_,rfl,dc,_,rfl,DPut.k (k:=.inr p) hc r2,?_⟩⟩
     have u:=AnS.DS.upd (o:=.dK (putK kc (.inr p) (V.bl true))) hc
     refine ⟨_,_,rfl,An.Same.updF e3 n2,u.sqL hl3,ks,_,by rw [zF dsc]; exact hs,upd_same,?_,?_⟩
     ·rw [← AnS.take_no q (by unfold AnS.stB; rw [q2])]
      exact d1.mono u
     ·rw [← AnS.take_yes un.nd q (by rw [q2]; rfl)]
      exact ((d2.put p (v:=.bl true) (d:=.bool true) rfl).cong (g':=fun _=>.bool true) fun x _=>by show (if x = p then PyData.bool true else .bool true) = _; rw [ite_self]).mono u
    | some o =>
     rw [q2] at ho
     obtain ⟨v,hp2,hv⟩:=(show ∃ v,SqT K H3 t [.str "stands",v] /\ Dt K H3 (AnS.oD o) v from ho)
     clear ho
     refine ⟨_,rfl,t,_,_,_,rfl,rfl,hp2,rfl,rfl,_,rfl,iteN (by decide +kernel) ⟨_,rfl,t,_,_,_,rfl,rfl,hp2,rfl,rfl,_,rfl,ite2 (fun c=>?_) (fun c=>?_)⟩⟩
     ·cases o with
      | none =>
       have hv:v = .non:=hv
       rw [hv] at c
       cases c
      | some ls =>
       refine ⟨_,rfl,t,_,_,_,rfl,rfl,hp2,rfl,_,rfl,_,rfl,ds,_,rfl,DPut.k (k:=.inr p) hs r1,?_⟩
       have u:=AnS.DS.upd (o:=.dK (putK ks (.inr p) v)) hs
       refine ⟨_,_,rfl,An.Same.updF e3 n1,u.sqL hl3,_,kc,upd_same,by rw [zF (Ne.symm dsc)]; exact hc,?_,?_⟩
       ·rw [← AnS.take_yes un.nd q (by unfold AnS.stB; rw [q2])]
        refine ((d1.put p hv).cong (g':=AnS.gF j) fun x _=>?_).mono u
        show (if x = p then AnS.oD (some ls) else AnS.gF j x) = _
        by_cases z:x = p
        ·rw [if_pos z,z]; unfold AnS.gF; rw [q2]; rfl
        ·rw [if_neg z]
       ·rw [← AnS.take_no q (by rw [q2]; rfl)]
        exact d2.mono u
     ·cases o with
      | some ls =>
       obtain ⟨a,xs,e',_⟩:=(show ∃ a xs,v = .ref a /\ _ from hv)
       rw [e'] at c
       exact absurd rfl c
      | none =>
       refine ⟨_,_,rfl,e3,hl3,ks,kc,hs,hc,?_,?_⟩
       ·rw [← AnS.take_no q (by unfold AnS.stB; rw [q2])]
        exact d1
       ·rw [← AnS.take_no q (by rw [q2]; rfl)]
        exact d2
  ·rintro σ H2 ⟨o5,o6,rfl,e,hl,ks,kc,hs,hc,d1,d2⟩
   rw [List.length_map,List.take_length] at d1 d2
   have d1:AnS.DictIs K H2 ks (AnS.ST ss j) (AnS.gF j):=d1
   have fl1:=List.length_filter_le (AnS.stB j) ss
   have fl2:=List.length_filter_le (fun p=>(j p).isNone) ss
   have stl:(AnS.ST ss j).length <= ss.length:=fl1
   refine ⟨_,rfl,ds,ks,AnS.ST ss j,AnS.gF j,rfl,hs,d1,fun p hp=>(pathOf p (AnS.ST_mem hp)).1,by omega,fun bl kl W H3 s3 nbl hbl dbl mbl=>?_⟩
   have e3:=e.trans s3
   have hs3:=s3 _ _ hs
   have hc3:=s3 _ _ hc
   have d1:=d1.same s3
   have d2:=d2.same s3
   have dcb:dc ≠ bl:=zG hc nbl
   have dsb:ds ≠ bl:=zG hs nbl
   have kl1:=d1.len
   have kl2:=d2.len
   have kl3:=dbl.len
   have wl:W.length <= ss.length:=AnS.len_sub dbl.nd un.nd fun p hp=>AnS.ST_mem ((mbl p).mp hp).1
   refine ⟨_,rfl,dc,rfl,.inl ⟨_,.inl hc3⟩,_,rfl,bl,kc,kl,rfl,dcb,hc3,.inl hbl,le_line (by omega),?_⟩
   obtain ⟨LX,dX,mX⟩:=AnS.putAll_is (more:=kl) d2 fun kv hkv=>⟨(dbl.pair hkv).1,(dbl.pair hkv).2.2⟩
   rw [dbl.keysS] at mX
   have xl:LX.length <= ss.length:=AnS.len_sub dX.nd un.nd fun p hp=>by
    rcases (mX p).mp hp with z | z
    ·exact (List.mem_filter.mp z).1
    ·exact AnS.ST_mem ((mbl p).mp z).1
   have u4:=AnS.DS.upd (o:=.dK (putAll kc kl)) hc3
   have e4:Same H (upd H3 dc (.dK (putAll kc kl))):=An.Same.updF e3 n2
   have hs4:upd H3 dc (.dK (putAll kc kl)) ds = some (.dK ks):=by rw [zF dsc]; exact hs3
   have hb4:upd H3 dc (.dK (putAll kc kl)) bl = some (.dK kl):=by rw [zF (Ne.symm dcb)]; exact hbl
   have hc4:upd H3 dc (.dK (putAll kc kl)) dc = some (.dK (putAll kc kl)):=upd_same
   have d1:=d1.mono u4
   have dX:=dX.mono u4
   have dbl:=dbl.mono u4
   clear u4 hs3 hc3 hbl e3 d2 s3
   generalize upd H3 dc (.dK (putAll kc kl)) = H4 at e4 hs4 hb4 hc4 d1 dX dbl ⊢
   refine ⟨_,rfl,ds,ks,rfl,hs4,fun ob=>⟨ds,ob,ks,rfl,upd_same,?_⟩⟩
   have u5:=AnS.DS.upd (o:=.frz ob (.dK ks)) hs4
   have e5:Same H (upd H4 ds (.frz ob (.dK ks))):=An.Same.updF e4 n1
   have hb5:upd H4 ds (.frz ob (.dK ks)) bl = some (.dK kl):=by rw [zF (Ne.symm dsb)]; exact hb4
   have hc5:upd H4 ds (.frz ob (.dK ks)) dc = some (.dK (putAll kc kl)):=by rw [zF (Ne.symm dsc)]; exact hc4
   have hs5:upd H4 ds (.frz ob (.dK ks)) ds = some (.frz ob (.dK ks)):=upd_same
   have d1:=d1.mono u5
   have dX:=dX.mono u5
   have dbl:=dbl.mono u5
   clear u5
   generalize upd H4 ds (.frz ob (.dK ks)) = H5 at e5 hb5 hc5 hs5 d1 dX dbl ⊢
   refine comp_pairs (fun i ys σ H6=>∃ o1 o2,σ = [o1,o2,some (.ref bl)] /\ Same H5 H6 /\ ys.length <= i /\ jH K H6 ys ((ks.take i).filter fun kv=>decide (keyS kv ∉ W))) ⟨none,none,rfl,Same.refl _,Nat.le_refl _,AnS.pairs_nil⟩ (le_line (by omega)) ?_ ?_ ?_
   ·rintro i ys σ H6 hi ⟨o1,o2,rfl,s6,hl6,_⟩
    exact ⟨s6 _ _ hs5,hl6⟩
   ·rintro i kx v TT ys σ H6 hx ⟨o1,o2,rfl,s6,hl6,hp6⟩ nT
    obtain ⟨hx',ek⟩:=d1.at hx
    have u:=same_upd (o:=.tup [kV kx,v]) nT
    have ft:(ks.take (i + 1)).filter (fun kv=>decide (keyS kv ∉ W)) = (ks.take i).filter (fun kv=>decide (keyS kv ∉ W)) ++ [(kx,v)].filter (fun kv=>decide (keyS kv ∉ W)):=by
     rw [List.take_add_one,hx,List.filter_append]
     rfl
    have isS:(valV kl kx).isSome = decide (keyS (kx,v) ∈ W):=by
     rw [← dbl.isSome]
     exact congrArg (fun z=>(valV kl z).isSome) ek
    refine ⟨TT,_,rfl,SqT.of upd_same,rfl,_,_,rfl,_,_,rfl,rfl,?_⟩
    refine ⟨_,rfl,_,rfl,bl,_,rfl,DGet.k (k:=kx) (u _ _ (s6 _ _ hb5)),_,rfl,ite2 (fun c=>?_) (fun c=>?_)⟩
    ·refine ⟨_,rfl,_,rfl,lineN 2,fun p2 np2=>?_⟩
     have u2:=same_upd (o:=.tup [kV kx,v]) np2
     rw [isS,Bool.not_eq_true',decide_eq_false_iff_not] at c
     refine ⟨_,_,rfl,(s6.trans u).trans u2,by rw [List.length_append]; exact Nat.succ_le_succ hl6,?_⟩
     rw [ft,List.filter_cons,if_pos (decide_eq_true c)]
     exact AnS.pairs_snoc (AnS.pairs_same hp6 (u.trans u2)) (SqT.of upd_same)
    ·rw [isS,Bool.not_eq_true',decide_eq_false_iff_not,Decidable.not_not] at c
     refine ⟨_,_,rfl,s6.trans u,by omega,?_⟩
     rw [ft,List.filter_cons,if_neg (fun z=>absurd c (of_decide_eq_true z)),List.filter_nil,List.append_nil]
     exact AnS.pairs_same hp6 u
   ·rintro ys σ H6 ⟨o1,o2,rfl,s6,hl6,hp6⟩ p6 np6
    rw [List.take_length] at hp6
    have u6:=same_upd (o:=.lst ys) np6
    refine ⟨p6,ys,_,rfl,upd_same,AnS.pairs_same hp6 u6,fun lf nlf=>?_⟩
    have dF:=d1.filter (fun p=>decide (p ∉ W))
    rw [AnS.LF_of mbl] at dF
    have ep:putAll [] (ks.filter fun kv=>decide (keyS kv ∉ W)) = ks.filter fun kv=>decide (keyS kv ∉ W):=AnS.putAll_self _ [] dF.nodup
    rw [ep]
    generalize ks.filter (fun kv=>decide (keyS kv ∉ W)) = kf at dF ⊢
    have t7:Same H5 (upd (upd H6 p6 (.lst ys)) lf (.dK kf)):=(s6.trans u6).trans (same_upd nlf)
    have hf7:upd (upd H6 p6 (.lst ys)) lf (.dK kf) lf = some (.dK kf):=upd_same
    generalize upd (upd H6 p6 (.lst ys)) lf (.dK kf) = H7 at t7 hf7 ⊢
    have e7:=e5.trans t7
    refine ⟨_,rfl,dc,_,rfl,.inl (t7 _ _ hc5),dX.allS,by rw [dX.len]; omega,fun l2 s2 nl2 pm2 so2=>⟨l2,rfl,⟨_,SqL.of upd_same⟩,?_⟩⟩
    rw [dX.keysS] at pm2
    have el:s2 = AnS.LC ss j:=AnS.same_sorted (qS so2) (AnS.LC_sorted un.sorted un.nd).1 (pm2.nodup_iff.mpr dX.nd) (AnS.LC_sorted un.sorted un.nd).2 fun p=>by rw [pm2.mem_iff,mX,AnS.LC_mem,mbl]
    have ll2:s2.length <= ss.length:=by rw [pm2.length_eq]; exact xl
    have u8:=same_upd (o:=.lst (s2.map V.str)) nl2
    have hl8:SqL K (upd H7 l2 (.lst (s2.map V.str))) l2 (s2.map V.str):=SqL.of upd_same
    have t8:=t7.trans u8
    have e8:=e7.trans u8
    have hf8:=u8 _ _ hf7
    clear u8
    generalize upd H7 l2 (.lst (s2.map V.str)) = H8 at hl8 t8 e8 hf8 ⊢
    refine yK (K:=K) (a:=l2) (xs:=s2.map V.str) (fun i zs σ H9=>∃ o,σ = [o,some (.ref ab),some (.ref am),some (.ref ay)] /\ Same H8 H9 /\ zs.length <= i /\ DtAll K H9 ((s2.take i).map (AnS.rowD B M Y)) zs) ⟨none,rfl,Same.refl _,Nat.le_refl _,rfl⟩ (le_line (by rw [List.length_map]; omega)) ?_ ?_ ?_
    ·rintro i zs σ H9 hi ⟨o,rfl,s9,hl9,_⟩
     exact ⟨s9.seq hl8,hl9⟩
    ·rintro i x zs σ H9 hx ⟨o,rfl,s9,hl9,hz⟩
     rw [List.getElem?_map] at hx
     cases q:s2[i]? with
     | none=>rw [q] at hx; cases hx
     | some p =>
      rw [q] at hx
      have hx:V.str p = x:=Option.some.inj hx
      subst hx
      have e9:=e8.trans s9
      have th9:=th.mono (.of e9)
      refine ⟨_,rfl,_,rfl,ab,rfl,.inl ⟨kb,.inl (e9 _ _ hb)⟩,_,rfl,_,DGet.k (k:=.inr p) (e9 _ _ hb),_,rfl,am,rfl,.inl ⟨km,.inl (e9 _ _ hm)⟩,_,rfl,_,DGet.k (k:=.inr p) (e9 _ _ hm),_,rfl,ay,rfl,.inl ⟨ky,.inl (e9 _ _ hy)⟩,_,rfl,_,DGet.k (k:=.inr p) (e9 _ _ hy),lineN 4,fun p9 np9=>?_⟩
      have u9:=same_upd (o:=.tup [.str p,(valV kb (.inr p)).getD .non,(valV km (.inr p)).getD .non,(valV ky (.inr p)).getD .non]) np9
      refine ⟨_,rfl,s9.trans u9,by rw [List.length_append]; exact Nat.succ_le_succ hl9,?_⟩
      rw [List.take_add_one,q,List.map_append]
      refine DtAll.append (DtAll.same u9 _ _ hz) ⟨_,_,rfl,?_,rfl⟩
      exact ⟨p9,_,rfl,SqT.of upd_same,_,_,rfl,rfl,_,_,rfl,Dt.same u9 _ _ (th9.fb.get p),_,_,rfl,Dt.same u9 _ _ (th9.fm.get p),_,_,rfl,Dt.same u9 _ _ (th9.fy.get p),rfl⟩
    ·rintro zs σ H9 ⟨o,rfl,s9,hl9,hz⟩ p9 np9
     rw [List.length_map,List.take_length,el] at hz
     have u9:=same_upd (o:=.lst zs) np9
     refine ⟨_,rfl,_,rfl,lineN 2,fun t nt=>?_⟩
     have u10:=same_upd (o:=.tup [.ref lf,.ref p9]) nt
     have v:=(s9.trans u9).trans u10
     refine k t ss _ (e8.trans v) un ⟨lf,p9,kf,upd_same,v _ _ hf8,dF.same (t8.trans v),p9,zs,rfl,SqL.of (u10 _ _ upd_same),DtAll.same (u9.trans u10) _ _ hz⟩
end s_files
end
end An18
namespace AnS
open PySem L2 An AnJ
theorem cs_upto (x:Str) (n:Nat):cs (Txt.slice x none (some (n:Int))) = (cs x).take n:=by
 by_cases h:n <= x.length
 ·have e:=eq_of_beq (PyProof.Rows.slice_closes_toL (x:=x) (j:=(n:Int)) (by omega) (by omega))
  rw [e]
  show ((x.cps.toList.drop (0:Int).toNat).take ((n:Int) - 0).toNat).toArray.toList = _
  simp [cs]
 ·have e:=eq_of_beq (PyProof.Rows.slice_closes_toL (x:=x) (j:=(x.length:Int)) (by omega) (by omega))
  rw [PyProof.Rows.slice_to_beyond (by omega),e]
  have hl:(cs x).length <= n:=by rw [← yY]; omega
  rw [List.take_of_length_le hl]
  show ((x.cps.toList.drop (0:Int).toNat).take ((x.length:Int) - 0).toNat).toArray.toList = _
  have:((x.length:Int) - 0).toNat = x.cps.toList.length:=by simp [Str.length]
  rw [this]
  show (x.cps.toList.take x.cps.toList.length) = cs x
  rw [List.take_length]
end AnS
namespace AnS
open PySem L2 An AnJ
theorem fold_in:∀ (xs ks:List Str) {x:Str},x ∈ ks \/ x ∈ xs -> x ∈ xs.foldl AxS.step ks
 | [],ks,x,h=>h.elim id fun z=>(nomatch z)
 | y :: xs,ks,x,h=>by
  refine fold_in xs _ ?_
  have st:∀ z,z ∈ ks \/ z = y -> z ∈ AxS.step ks y:=fun z hz=>by
   unfold AxS.step
   split
   ·rename_i w
    exact hz.elim id fun e=>e ▸ w
   ·exact List.mem_append.mpr (hz.imp id fun e=>List.mem_singleton.mpr e)
  rcases h with h | h
  ·exact .inl (st x (.inl h))
  ·rcases List.mem_cons.mp h with h | h
   ·exact .inl (st x (.inr h))
   ·exact .inr h
theorem mem_uniq {xs:List Str} {x:Str}:x ∈ AxS.uniq xs ↔ x ∈ xs:=⟨uniq_mem,fun h=>fold_in xs [] (.inr h)⟩
theorem uni_of2 {LB LM LY ss:List Str} (pm:ss.Perm (AxS.uniq (LB ++ LM ++ LY))) (so:PyProof.Rows.sortedS ss = true):Uni LB LM LY ss :=
 ⟨qS so,pm.nodup_iff.mpr (uniq_nodup _),fun p=>by rw [pm.mem_iff,mem_uniq,List.mem_append,List.mem_append,or_assoc]⟩
theorem st_some {j:Js} {p:Str} (h:stB j p = true):(j p).isNone = false:=by
 unfold stB at h
 cases q:j p with
 | none=>rw [q] at h; cases h
 | some o=>rfl
end AnS
namespace AnS
open PySem L2 An AnJ
theorem eqv_row (B M Y:Str -> Option (List Str)) (p:Str):PyData.eqv (rowD B M Y p) (rowD B M Y p) = true:=by
 show (PyData.eqv (.str p) (.str p) && (PyData.eqv (oD (B p)) (oD (B p)) && (PyData.eqv (oD (M p)) (oD (M p)) && (PyData.eqv (oD (Y p)) (oD (Y p)) && true)))) = true
 rw [eqv_oD,eqv_oD,eqv_oD,decide_eq_true rfl,decide_eq_true rfl,decide_eq_true rfl]
 show (p == p && true) = true
 rw [beq_self_eq_true]
 rfl
theorem eqv_rows2 (B M Y:Str -> Option (List Str)):∀ l:List Str,PyData.eqvAll (l.map (rowD B M Y)) (l.map (rowD B M Y)) = true
 | []=>rfl
 | p :: l=>by
  show (PyData.eqv (rowD B M Y p) (rowD B M Y p) && PyData.eqvAll (l.map (rowD B M Y)) (l.map (rowD B M Y))) = true
  rw [eqv_row,eqv_rows2 B M Y l]
  rfl
theorem lay_row {B M Y:Str -> Option (List Str)} {p:Str} (ob:okO (B p)) (om:okO (M p)) (oy:okO (Y p)) (op:PyData.strOk p = true):(rowD B M Y p).canLay0 = true /\ (rowD B M Y p).depth <= 2:=by
 obtain ⟨a1,b1⟩:=lay_oD ob
 obtain ⟨a2,b2⟩:=lay_oD om
 obtain ⟨a3,b3⟩:=lay_oD oy
 constructor
 ·show (PyData.strOk p && ((oD (B p)).canLay0 && ((oD (M p)).canLay0 && ((oD (Y p)).canLay0 && true)))) = true
  rw [op,a1,a2,a3]
  rfl
 ·show max 0 (max (oD (B p)).depth (max (oD (M p)).depth (max (oD (Y p)).depth 0))) + 1 <= 2
  omega
theorem eq_res {K:PySem.W.Frag} {H:Hp} {t u:Addr} {ss:List Str} {j:Js} {B M Y:Str -> Option (List Str)} (h1:ResAt K H t ss j B M Y) (h2:ResAt K H u ss j B M Y) (oj:∀ p,okO ((j p).getD none)) (ok:∀ p,okO (B p) /\ okO (M p) /\ okO (Y p)) (op:∀ p ∈ ss,PyData.strOk p = true):EqT K 100 H (.ref t) (.ref u):=by
 obtain ⟨af,ac,kf,a1,a2,a3,a4⟩:=h1
 obtain ⟨bf,bc,kg,b1,b2,b3,b4⟩:=h2
 refine (EqT.tup (n:=65) (SqT.of a1) (SqT.of b1) rfl fun i x y hx hy=>?_).more (by decide)
 match i,hx,hy with
 | 0,hx,hy =>
  cases hx
  cases hy
  exact EqT.dic (.inl a2) (.inl b2) (by rw [a3.len,b3.len]) (a3.vals2 b3 (fun p _=>shaped_oD (oj p)) fun p _=>by unfold gF; rw [eqv_oD,decide_eq_true rfl])
 | 1,hx,hy =>
  cases hx
  cases hy
  have sh:SeqAt.shaped (.list ((LC ss j).map (rowD B M Y))) = true:=shaped_list (n:=2) (by decide) fun p hp=>lay_row (ok p).1 (ok p).2.1 (ok p).2.2 (op p (List.mem_filter.mp hp).1)
  exact (EqT.data a4 b4 sh sh (eqv_rows2 B M Y _)).more (by decide)
 | i + 2,hx,hy=>cases hx
theorem ResAt.same {K:PySem.W.Frag} {H H':Hp} {t:Addr} {ss:List Str} {j:Js} {B M Y:Str -> Option (List Str)} (h:ResAt K H t ss j B M Y) (e:Same H H'):ResAt K H' t ss j B M Y:=by
 obtain ⟨af,ac,kf,a1,a2,a3,a4⟩:=h
 exact ⟨af,ac,kf,e _ _ a1,e _ _ a2,a3.same e,Dt.same e _ _ a4⟩
theorem files_nil {K:PySem.W.Frag} {H:Hp}:Files K H [] [] (fun _=>none):=⟨DictIs.nil,fun p=>⟨fun z=>(nomatch z),fun z=>(nomatch z)⟩⟩
end AnS
namespace AnJ
open PySem L2 An An10 An12 AxK
end AnJ
namespace AnS
open PySem L2 An AnJ
theorem cleanL_turn:∀ ps:List (Pt Str),cleanL (ps.map Pt.turn) = cleanL ps
 | []=>rfl
 | .same x :: r=>by
  show (cleanL (r.map Pt.turn)).map (x ++ ·) = (cleanL r).map (x ++ ·)
  rw [cleanL_turn r]
 | .clash .. :: r=>rfl
section
variable {b m y:Option (List Str)} {r r':Option (Option (List Str))}
theorem J3.eq1 (h:J3 b m y r) (e:m = y):r = some m:=by
 rcases h with ⟨_,e⟩ | ⟨h1,_⟩ | ⟨h1,_⟩ | ⟨h1,_⟩ | ⟨h1,_⟩
 ·exact e
 all_goals exact absurd e h1
theorem J3.eq2 (h:J3 b m y r) (n:m ≠ y) (e:m = b):r = some y:=by
 rcases h with ⟨z,_⟩ | ⟨_,_,e⟩ | ⟨_,h1,_⟩ | ⟨_,h1,_⟩ | ⟨_,h1,_⟩
 ·exact absurd z n
 ·exact e
 all_goals exact absurd e h1
theorem J3.eq3 (h:J3 b m y r) (n:m ≠ y) (n2:m ≠ b) (e:y = b):r = some m:=by
 rcases h with ⟨z,_⟩ | ⟨_,z,e⟩ | ⟨_,_,_,e⟩ | ⟨_,_,h1,_⟩ | ⟨_,_,h1,_⟩
 ·exact absurd z n
 ·exact absurd z n2
 ·exact e
 all_goals exact absurd e h1
theorem J3.eq4 (h:J3 b m y r) (n:m ≠ y) (n2:m ≠ b) (n3:y ≠ b) (e:b = none \/ m = none \/ y = none):r = none:=by
 rcases h with ⟨z,_⟩ | ⟨_,z,e⟩ | ⟨_,_,z,e⟩ | ⟨_,_,_,_,z⟩ | ⟨_,_,_,xs,ms,ys,ps,e1,e2,e3,_⟩
 ·exact absurd z n
 ·exact absurd z n2
 ·exact absurd z n3
 ·exact z
 ·rw [e1,e2,e3] at e
  rcases e with e | e | e <;> cases e
theorem J3.eq5 (h:J3 b m y r) (n:m ≠ y) (n2:m ≠ b) (n3:y ≠ b) {xs ms ys:List Str} {ps:List (Pt Str)} (e1:b = some xs) (e2:m = some ms) (e3:y = some ys) (jn:Joined xs ms ys ps):r = (cleanL ps).map some:=by
 rcases h with ⟨z,_⟩ | ⟨_,z,e⟩ | ⟨_,_,z,e⟩ | ⟨_,_,_,z,_⟩ | ⟨_,_,_,xs',ms',ys',ps',e1',e2',e3',jn',e⟩
 ·exact absurd z n
 ·exact absurd z n2
 ·exact absurd z n3
 ·rw [e1,e2,e3] at z
  rcases z with z | z | z <;> cases z
 ·rw [e1] at e1'
  rw [e2] at e2'
  rw [e3] at e3'
  cases e1'
  cases e2'
  cases e3'
  rw [e,jn'.uniq strO jn]
theorem J3.uniq (h:J3 b m y r) (h':J3 b m y r'):r = r':=by
 rcases h with ⟨z,e⟩ | ⟨n,z,e⟩ | ⟨n,n2,z,e⟩ | ⟨n,n2,n3,z,e⟩ | ⟨n,n2,n3,xs,ms,ys,ps,e1,e2,e3,jn,e⟩
 ·rw [e,h'.eq1 z]
 ·rw [e,h'.eq2 n z]
 ·rw [e,h'.eq3 n n2 z]
 ·rw [e,h'.eq4 n n2 n3 z]
 ·rw [e,h'.eq5 n n2 n3 e1 e2 e3 jn]
end
open Classical in
noncomputable def jG (B M Y:Str -> Option (List Str)):Js:=fun p=>if h:∃ r,J3 (B p) (M p) (Y p) r then h.choose else none
theorem jG_is {B M Y:Str -> Option (List Str)} {p:Str} {r:Option (Option (List Str))} (h:J3 (B p) (M p) (Y p) r):r = jG B M Y p:=by
 have hx:∃ r,J3 (B p) (M p) (Y p) r:=⟨r,h⟩
 unfold jG
 rw [dif_pos hx]
 exact h.uniq hx.choose_spec
theorem over_law2 {x y:Str}:decide (Txt.slice y none (some ((x.length:Int) + 1)) = x ++ "/") = overB x y:=by
 have e47:cs ("/":Str) = [47]:=by decide +kernel
 have en:((x.length:Int) + 1) = ((x.length + 1:Nat):Int):=by omega
 rw [Bool.eq_iff_iff,decide_eq_true_iff,over_cs,en]
 have ee:Txt.slice y none (some ((x.length + 1:Nat):Int)) = x ++ "/" ↔ (cs y).take ((cs x).length + 1) = cs x ++ [47]:=by
  rw [← e47,← qQ,← yY,← cs_upto]
  exact ⟨fun z=>by rw [z],fun z=>cs_inj z⟩
 rw [ee]
 constructor
 ·intro h
  refine ⟨(cs y).drop ((cs x).length + 1),?_⟩
  have:=List.take_append_drop ((cs x).length + 1) (cs y)
  rw [h,List.append_assoc] at this
  exact this.symm
 ·rintro ⟨t,h⟩
  rw [h,show cs x ++ 47 :: t = (cs x ++ [47]) ++ t by simp,List.take_left' (by simp)]
def FreeL (L:List Str):Prop:=∀ p ∈ L,∀ q ∈ L,overB p q = false
theorem bl_false {L:List Str} {p:Str}:blB L p = false ↔ ∀ q ∈ L,overB q p = false /\ overB p q = false:=by
 unfold blB
 rw [List.any_eq_false]
 constructor
 ·intro h q hq
  have:=h q hq
  rw [Bool.or_eq_true,not_or,Bool.not_eq_true,Bool.not_eq_true] at this
  exact this
 ·intro h q hq z
  rcases Bool.or_eq_true_iff.mp z with z | z
  ·rw [(h q hq).1] at z; cases z
  ·rw [(h q hq).2] at z; cases z
theorem FreeL.add {L:List Str} {p:Str} (h:FreeL L) (n:blB L p = false):FreeL (addL L p):=fun x hx y hy=>by
 have n:=bl_false.mp n
 rcases mem_addL.mp hx with hx | ex
 ·rcases mem_addL.mp hy with hy | ey
  ·exact h x hx y hy
  ·rw [ey]; exact (n x hx).1
 ·rw [ex]
  rcases mem_addL.mp hy with hy | ey
  ·exact (n y hy).2
  ·rw [ey]; exact not_over_self _
theorem FreeL.sub {L M:List Str} (h:FreeL L) (s:∀ p ∈ M,p ∈ L):FreeL M:=fun x hx y hy=>h x (s x hx) y (s y hy)
def Few (n:Nat) (F:Str -> Option (List Str)):Prop:=∀ p ls,F p = some ls -> ls.length <= n /\ ∀ x ∈ ls,lineB x = true
theorem Few.okO {n:Nat} {F:Str -> Option (List Str)} (h:Few n F) (p:Str):AnS.okO (F p):=fun ls e x hx=>An12.lineB_ok ((h p ls e).2 x hx)
theorem Few.okJ {B M Y:Str -> Option (List Str)} (sb:Few 20 B) (sm:Few 20 M) (sy:Few 20 Y) (p:Str) (xs ms ys:List Str) (eb:B p = some xs) (em:M p = some ms) (ey:Y p = some ys):AnJ.okJ xs ms ys:=by
 have h1:=sb p xs eb
 have h2:=sm p ms em
 have h3:=sy p ys ey
 exact ⟨h1.2,h2.2,h3.2,by omega,by omega,by omega,AnJ.spans_few (by omega),AnJ.spans_few (by omega),Nat.le_trans AnJ.spans_put (by omega),Nat.le_trans AnJ.spans_put (by omega)⟩
theorem Few.up {n m:Nat} {F:Str -> Option (List Str)} (h:Few n F) (l:n <= m):Few m F:=fun p ls e=>⟨Nat.le_trans (h p ls e).1 l,(h p ls e).2⟩
end AnS
namespace An18
open PySem L2 An An10 An12
seal L2.PS L2.PSs L2.PE L2.PT L2.PW L2.PA L2.PG L2.PGs L2.PI L2.PFi L2.PC
def okPa (n:Nat) (p:Str):Prop:=p.length <= n /\ PyData.strOk p = true
theorem okPa.more {n m:Nat} {x:Str} (h:okPa n x) (l:n <= m):okPa m x:=⟨Nat.le_trans h.1 l,h.2⟩
def spCell (K:PySem.W.Frag):Sp:=fun vs H Q _=>∃ (a:Addr) (ns:List Int) (k:Int),vs = [.ref a,.int k] /\ SqL K H a (ns.map V.int) /\ 0 <= k /\ ∀ i,Q (.int i) H
def spPath:Sp:=fun vs H Q _=>∃ c,vs = [.int c] /\ ∀ x H',okPa 10 x -> Same H H' -> Q (.str x) H'
def spOver:Sp:=fun vs H Q _=>∃ x y:Str,vs = [.str x,.str y] /\ x.length <= 1000 /\ y.length <= 1000 /\ Q (.bl (overB x y)) H
def spPut (K:PySem.W.Frag):Sp:=fun vs H Q _=>∃ (d q:Addr) (p:Str) (kvs:List (Key × V)) (L:List Str) (g:Str -> PyData),vs = [.ref d,.str p,.ref q] /\ H d = some (.dK kvs) /\ AnS.DictIs K H kvs L g /\ (∀ x ∈ L,okPa 1000 x) /\ p.length <= 1000 /\ L.length <= 100 /\
 ∀ H',(∀ b o,b ≠ d -> H b = some o -> H' b = some o) -> (AnS.blB L p = true /\ H' d = some (.dK kvs) \/ AnS.blB L p = false /\ H' d = some (.dK (putK kvs (.inr p) (.ref q)))) -> Q .non H'
section
variable {P:Program} {w:World} {K:PySem.W.Frag} {mg:Str -> Option Value} {base:Heap} {t1 t2:Tok}
namespace g_cell
abbrev st:Stmt:=top 22
theorem sc:FnScope ["_law_script","_law_k"] ["_law_script","_law_k"] (zD st):=⟨rfl,rfl,rfl,by decide +kernel,rfl,by decide +kernel,by decide +kernel⟩
theorem ok {f:Addr} {fd:FuncData} (F:Fun K "_law_cell_at" "_law_cell_at" st f fd) (T:Txt K mg t1 t2):FnOk P w K mg base CX0 1 f fd ["_law_script","_law_k"] (spCell K):=by
 refine F.ok sc (fun vs H Q E h=>?_) (fun cdv A outer s H vs Q E hr h=>?_)
 ·obtain ⟨a,ns,k,rfl,_⟩:=h
  rfl
 ·obtain ⟨a,ns,k,rfl,hs,h0,q⟩:=h
  refine ⟨_,(zB (z5 (zI op_lt (pv 1) (zQ zN (by rfl) T.len PySem.boot_len (zA (pv 0) zC)) (zK _))
    (zE (zP (zW (ix_list:IxR _ (rIxL K)) (pv 0) (pv 1) (fun _ _=>rfl))))
    zT)
   (zE (zP zH))),?_⟩
  refine ⟨_,rfl,_,rfl,a,_,rfl,.inl hs,_,_,rfl,rfl,_,rfl,ite2 (fun h=>?_) (fun h=>?_)⟩
  ·have h1:k < ns.length:=by simpa using h
   obtain ⟨n,_,hn⟩:=qK (f:=V.int) h0 h1
   exact ⟨_,rfl,_,rfl,a,_,_,_,rfl,rfl,hs,hn,q n⟩
  ·exact q 0
end g_cell
theorem pool_path {i:Int} (h0:0 <= i) (h1:i < 10):∃ x:Str,atI [V.str "a",V.str "b",V.str "a/b",V.str "b/a",V.str "a/b/c",V.str "c",V.str "ab",V.str "c/a",V.str "ab/a",V.str "c/a/b/b"] i = some (.str x) /\ okPa 10 x:=by
 obtain ⟨x,hx,e⟩:=qK (f:=V.str) (xs:=(["a","b","a/b","b/a","a/b/c","c","ab","c/a","ab/a","c/a/b/b"]:List Str)) h0 h1
 refine ⟨x,e,?_⟩
 have hm:=List.mem_of_getElem? hx
 have al:∀ x ∈ (["a","b","a/b","b/a","a/b/c","c","ab","c/a","ab/a","c/a/b/b"]:List Str),x.length <= 10 /\ PyData.strOk x = true:=by decide +kernel
 exact al x hm
namespace g_path
abbrev st:Stmt:=top 23
theorem sc:FnScope ["_law_cell"] ["_law_cell"] (zD st):=⟨rfl,rfl,rfl,by decide +kernel,rfl,by decide +kernel,by decide +kernel⟩
theorem ok {f:Addr} {fd:FuncData} (F:Fun K "_law_path" "_law_path" st f fd) (T:Txt K mg t1 t2):FnOk P w K mg base CX0 1 f fd ["_law_cell"] spPath:=by
 refine F.ok sc (fun vs H Q E h=>?_) (fun cdv A outer s H vs Q E hr h=>?_)
 ·obtain ⟨c,rfl,_⟩:=h
  rfl
 ·obtain ⟨c,rfl,k⟩:=h
  refine ⟨_,(zE (zP (zW (ix_list:IxR _ (rIxL K)) (yG (zA zZ (zA zZ (zA zZ (zA zZ (zA zZ (zA zZ (zA zZ (zA zZ (zA zZ (zA zZ zC))))))))))) (zU yZ (pv 0) zH) (fun _ _=>rfl)))),?_⟩
  refine ⟨lineN 10,fun l nl=>⟨_,rfl,_,_,rfl,rfl,(by decide:(0:Int) < 10),?_⟩⟩
  obtain ⟨x,e,hx⟩:=pool_path (i:=c % 10) (Int.emod_nonneg _ (by decide)) (Int.emod_lt_of_pos _ (by decide))
  exact ⟨l,_,_,_,rfl,rfl,SqL.of upd_same,e,k x _ hx (same_upd nl)⟩
end g_path
namespace g_over
abbrev st:Stmt:=top 24
theorem sc:FnScope ["_law_one","_law_other"] ["_law_one","_law_other"] (zD st):=⟨rfl,rfl,rfl,by decide +kernel,rfl,by decide +kernel,by decide +kernel⟩
theorem ok {f:Addr} {fd:FuncData} (F:Fun K "_law_over" "_law_over" st f fd) (T:Txt K mg t1 t2):FnOk P w K mg base CX0 1 f fd ["_law_one","_law_other"] spOver:=by
 refine F.ok sc (fun vs H Q E h=>?_) (fun cdv A outer s H vs Q E hr h=>?_)
 ·obtain ⟨x,y,rfl,_⟩:=h
  rfl
 ·obtain ⟨x,y,rfl,hx,hy,k⟩:=h
  refine ⟨_,(zE (zP (yM qX (z3 sl_str (pv 1) xJ (zX (zU yN (zQ call_len_str (by rfl) T.len PySem.boot_len (zA (pv 0) zC)) zH))) (zU op_add_str (pv 0) zZ) (zK _)))),?_⟩
  have e1:("/":Str).length = 1:=by decide +kernel
  rw [← AnS.over_law2] at k
  refine ⟨_,rfl,_,rfl,x,rfl,le_line (by omega),_,_,rfl,rfl,_,rfl,_,rfl,le_line (by omega),_,rfl,_,_,rfl,rfl,le_line (by rw [e1]; omega),rfl,?_⟩
  have ed:decide (V.str (Txt.slice y none (some ((x.length:Int) + 1))) = V.str (x ++ "/")) = decide (Txt.slice y none (some ((x.length:Int) + 1)) = x ++ "/"):=by
   rw [Bool.eq_iff_iff,decide_eq_true_iff,decide_eq_true_iff,V.str.injEq]
  rw [← ed] at k
  exact k
end g_over
namespace g_put
abbrev st:Stmt:=top 25
theorem sc:FnScope ["_law_files","_law_path_here","_law_lines_here"] ["_law_files","_law_path_here","_law_lines_here"] (zD st):=⟨rfl,rfl,rfl,by decide +kernel,rfl,by decide +kernel,by decide +kernel⟩
theorem ok {f:Addr} {fd:FuncData} (F:Fun K "_law_put" "_law_put" st f fd) (T:Txt K mg t1 t2) (C__law_over:Cal P w K mg base 1 "_law_over" ["_law_one","_law_other"] spOver):FnOk P w K mg base CX0 2 f fd ["_law_files","_law_path_here","_law_lines_here"] (spPut K):=by
 refine F.ok sc (fun vs H Q E h=>?_) (fun cdv A outer s H vs Q E hr h=>?_)
 ·obtain ⟨d,q,p,kvs,L,g,rfl,_⟩:=h
  rfl
 ·obtain ⟨a,q,p,kvs,L,g,rfl,ha,di,ok,pl,ll,k⟩:=h
  refine ⟨_,(zE (z5 (zI (yR hr.units) (qD (y4 (sc:=zD st) (N:=["_law_files","_law_path_here","_law_lines_here"]) (N':=["_law_one","_law_path_here"]) (src:=[none,some 1]) ⟨by decide +kernel,rfl,rfl,by decide +kernel,by decide +kernel,by decide +kernel,by decide +kernel⟩ rfl rfl rfl (pi_keys (pe_frz (pv 0))) (fun _ _ _ _=>(zM (i:=0) (show (["_law_one","_law_path_here"]:List Str).Nodup by decide +kernel) rfl (Or.inl rfl))) (fun _ _ _ _=>(pf_one (PW.pt (xH (yC (K:=K) (zJ C__law_over (hr.mono (by decide)) (zA (pv 0) (zA (pv 1) zC))) (fun _=>rfl)) (y6 (yC (K:=K) (zJ C__law_over (hr.mono (by decide)) (zA (pv 1) (zA (pv 0) zC))) (fun _=>rfl))))))) (fun _ _ _ _=>(pv 0)))) (yG zC) (zK _))
    (zE (jA hr.units1 (pv 0) (pv 1) (pv 2) rfl))
    zT)),?_⟩
  have take1:∀ {i:Nat} {q:Str},L[i]? = some q -> (L.take (i + 1)).filter (fun q=>overB q p || overB p q) = (L.take i).filter (fun q=>overB q p || overB p q) ++ (if (overB q p || overB p q) = true then [q] else []):=fun {i q} hx=>by
   rw [List.take_add_one,hx,List.filter_append]
   show _ ++ [q].filter _ = _
   rw [List.filter_cons]
   rfl
  have vl:=di.len
  refine ⟨_,rfl,a,kvs,rfl,ha,fun ob=>⟨a,ob,kvs,rfl,upd_same,comp_keys (fun i ys σ H2=>∃ o,σ = [o,some (.str p)] /\ Same (upd H a (.frz ob (.dK kvs))) H2 /\ ys.length <= i /\ ys = ((L.take i).filter fun q=>overB q p || overB p q).map V.str) ⟨none,rfl,Same.refl _,Nat.le_refl _,rfl⟩ (le_line (by omega)) ?_ ?_ ?_⟩⟩
  ·rintro i ys σ H2 hi ⟨o,rfl,e2,yl,_⟩
   exact ⟨e2 _ _ upd_same,yl⟩
  ·rintro i kx v ys σ H2 hi ⟨o,rfl,e2,yl,rfl⟩
   obtain ⟨hx,ek⟩:=di.at hi
   have ek:kx = .inr (keyS (kx,v)):=ek
   generalize keyS (kx,v) = z at hx ek
   subst ek
   have zl:=(ok z (List.mem_of_getElem? hx)).1
   have tk:=take1 hx
   refine ⟨_,rfl,_,rfl,z,p,rfl,zl,pl,_,rfl,ite2 (fun c=>iteT ⟨_,rfl,_,rfl,e2,?_,?_⟩) (fun c=>⟨_,rfl,_,rfl,p,z,rfl,pl,zl,_,rfl,ite2 (fun c2=>⟨_,rfl,_,rfl,e2,?_,?_⟩) (fun c2=>⟨_,rfl,e2,?_,?_⟩)⟩)⟩
   ·rw [List.length_append]; exact Nat.succ_le_succ yl
   ·rw [tk,if_pos (by rw [c]; rfl),List.map_append]; rfl
   ·rw [List.length_append]; exact Nat.succ_le_succ yl
   ·rw [tk,if_pos (by rw [c2,Bool.or_true]),List.map_append]; rfl
   ·exact Nat.le_succ_of_le yl
   ·rw [tk,if_neg (by rw [Bool.or_eq_true]; exact fun z=>z.elim c c2),List.append_nil]
  ·rintro ys σ H2 ⟨o,rfl,e2,yl,rfl⟩ r nr
   rw [vl,List.take_length]
   have ha2:=e2 _ _ upd_same
   have ra:a ≠ r:=zG ha2 nr
   refine ⟨a,ob,kvs,by rw [zF ra]; exact ha2,fun o u (z:H a = some (.frz o u))=>(by rw [ha] at z; cases z),Nat.zero_le _,fun n nn=>?_⟩
   have hr3:upd (upd H2 r (.lst ((L.filter fun q=>overB q p || overB p q).map V.str))) a (.dK kvs) r = some (.lst ((L.filter fun q=>overB q p || overB p q).map V.str)):=by rw [zF (Ne.symm ra),upd_same]
   have ha3:upd (upd H2 r (.lst ((L.filter fun q=>overB q p || overB p q).map V.str))) a (.dK kvs) a = some (.dK kvs):=upd_same
   have fr:∀ b o,H b = some o -> upd (upd H2 r (.lst ((L.filter fun q=>overB q p || overB p q).map V.str))) a (.dK kvs) b = some o:=fun b o hb=>by
    by_cases z:b = a
    ·subst z
     rw [upd_same,← ha]
     exact hb
    ·have h2:=e2 b o (by rw [zF z]; exact hb)
     rw [zF z,zF (zG h2 nr)]
     exact h2
   generalize upd (upd H2 r (.lst ((L.filter fun q=>overB q p || overB p q).map V.str))) a (.dK kvs) = H3 at hr3 ha3 fr nn ⊢
   have u:=same_upd (o:=.lst []) nn
   refine ⟨.list ((L.filter fun q=>overB q p || overB p q).map .str),.list (([]:List Str).map .str),⟨r,_,rfl,SqL.of (u _ _ hr3),DtAll.strs _⟩,⟨n,[],rfl,SqL.of upd_same,rfl⟩,(qA fun q hq=>(ok q (List.mem_filter.mp hq).1).2).1,by decide,_,rfl,?_⟩
   have ev:PyData.eqv (.list ((L.filter fun q=>overB q p || overB p q).map .str)) (.list (([]:List Str).map .str)) = !AnS.blB L p:=by
    show PyData.eqvAll _ _ = _
    rw [qI,Bool.eq_iff_iff,decide_eq_true_iff,Bool.not_eq_true',Bool.eq_false_iff]
    unfold AnS.blB
    rw [ne_eq,List.any_eq_true,List.filter_eq_nil_iff]
    exact ⟨fun z ⟨q,h1,h2⟩=>z q h1 h2,fun z q h1 h2=>z ⟨q,h1,h2⟩⟩
   rw [ev]
   refine ite2 (fun c=>?_) (fun c=>?_)
   ·rw [Bool.not_eq_true'] at c
    have ha4:=u _ _ ha3
    refine ⟨_,rfl,_,rfl,_,rfl,a,_,rfl,DPut.k (k:=.inr p) ha4 (Nat.lt_of_lt_of_le (by omega:kvs.length < 16777216) (le_line (Nat.le_refl _))),k _ (fun b o nb hb=>?_) (.inr ⟨c,upd_same⟩)⟩
    rw [zF nb]
    exact u _ _ (fr b o hb)
   ·rw [Bool.not_eq_true,Bool.not_eq_false'] at c
    exact k _ (fun b o nb hb=>u _ _ (fr b o hb)) (.inl ⟨c,u _ _ ha3⟩)
end g_put
end
end An18
namespace An18
open PySem L2 An An10 An12
seal L2.PS L2.PSs L2.PE L2.PT L2.PW L2.PA L2.PG L2.PGs L2.PI L2.PFi L2.PC
def spLines (K:PySem.W.Frag):Sp:=fun vs H Q _=>∃ c:Int,vs = [.int c] /\ ∀ (q:Addr) (ls:List Str) H',Same H H' -> SqT K H' q (ls.map V.str) -> ls.length <= 5 -> (∀ x ∈ ls,lineB x = true) -> Q (.ref q) H'
def spChg (K:PySem.W.Frag):Sp:=fun vs H Q _=>∃ (q:Addr) (c:Int) (ls:List Str),vs = [.ref q,.int c] /\ SqT K H q (ls.map V.str) /\ ls.length <= 1000 /\ (∀ x ∈ ls,lineB x = true) /\
 ∀ (q':Addr) (ls':List Str) H',Same H H' -> SqT K H' q' (ls'.map V.str) -> ls'.length <= ls.length + 1 -> (∀ x ∈ ls',lineB x = true) -> Q (.ref q') H'
structure okG (n:Nat) (L:List Str) (F:Str -> Option (List Str)):Prop where
 path:∀ p ∈ L,okPa 10 p
 free:AnS.FreeL L
 few:AnS.Few n F
theorem okG.up {n m:Nat} {L:List Str} {F:Str -> Option (List Str)} (h:okG n L F) (l:n <= m):okG m L F:=⟨h.path,h.free,h.few.up l⟩
theorem okG.put {n:Nat} {L:List Str} {F:Str -> Option (List Str)} {p:Str} {ls:List Str} (h:okG n L F) (hp:okPa 10 p) (b:AnS.blB L p = false) (ll:ls.length <= n) (ok:∀ x ∈ ls,lineB x = true):okG n (AnS.addL L p) (fun q=>if q = p then some ls else F q):=by
 refine ⟨fun x hx=>?_,h.free.add b,fun x xs e=>?_⟩
 ·rcases AnS.mem_addL.mp hx with z | z
  ·exact h.path x z
  ·rw [z]; exact hp
 ·have e:(if x = p then some ls else F x) = some xs:=e
  by_cases z:x = p
  ·rw [if_pos z] at e
   cases e
   exact ⟨ll,ok⟩
  ·rw [if_neg z] at e
   exact h.few x xs e
theorem okG.drop {n:Nat} {L:List Str} {F:Str -> Option (List Str)} (h:okG n L F) (g:Str):okG n (L.filter fun q=>decide (q ≠ g)) (fun q=>if q = g then none else F q):=by
 refine ⟨fun x hx=>h.path x (List.mem_filter.mp hx).1,h.free.sub fun x hx=>(List.mem_filter.mp hx).1,fun x xs e=>?_⟩
 have e:(if x = g then none else F x) = some xs:=e
 by_cases z:x = g
 ·rw [if_pos z] at e; cases e
 ·rw [if_neg z] at e; exact h.few x xs e
def spSide (K:PySem.W.Frag):Sp:=fun vs H Q _=>∃ (a c:Addr) (kvs:List (Key × V)) (L:List Str) (F:Str -> Option (List Str)) (ns:List Int) (n:Nat),vs = [.ref a,.ref c] /\ H a = some (.dK kvs) /\ AnS.Files K H kvs L F /\ okG n L F /\ 5 <= n /\ n <= 100 /\ L.length <= 20 /\ SqL K H c (ns.map V.int) /\ ns.length <= 10 /\
 ∀ (d:Addr) (kd:List (Key × V)) (L':List Str) (F':Str -> Option (List Str)) H',Same H H' -> H d = none -> H' d = some (.dK kd) -> AnS.Files K H' kd L' F' -> okG (n + ns.length) L' F' -> L'.length <= L.length + ns.length -> Q (.ref d) H'
section
variable {P:Program} {w:World} {K:PySem.W.Frag} {mg:Str -> Option Value} {base:Heap} {t1 t2:Tok}
theorem pool4 {i:Int} (h0:0 <= i) (h1:i < 4):∃ x:Str,atI [V.str "a",V.str "b",V.str "",V.str "ab"] i = some (.str x) /\ lineB x = true:=by
 obtain ⟨x,hx,e⟩:=qK (f:=V.str) (xs:=(["a","b","","ab"]:List Str)) h0 h1
 refine ⟨x,e,?_⟩
 have hm:=List.mem_of_getElem? hx
 have al:∀ x ∈ (["a","b","","ab"]:List Str),lineB x = true:=by decide +kernel
 exact al x hm
theorem pool5 {i:Int} (h0:0 <= i) (h1:i < 4):∃ x:Str,atI [V.str "m",V.str "y",V.str "a",V.str "b"] i = some (.str x) /\ lineB x = true:=by
 obtain ⟨x,hx,e⟩:=qK (f:=V.str) (xs:=(["m","y","a","b"]:List Str)) h0 h1
 refine ⟨x,e,?_⟩
 have hm:=List.mem_of_getElem? hx
 have al:∀ x ∈ (["m","y","a","b"]:List Str),lineB x = true:=by decide +kernel
 exact al x hm
namespace g_lines
abbrev st:Stmt:=top 26
theorem sc:FnScope ["_law_cell","_law_step","_law_some"] ["_law_cell"] (zD st):=⟨rfl,rfl,rfl,by decide +kernel,rfl,by decide +kernel,by decide +kernel⟩
theorem ok {f:Addr} {fd:FuncData} (F:Fun K "_law_lines" "_law_lines" st f fd) (T:Txt K mg t1 t2):FnOk P w K mg base CX0 1 f fd ["_law_cell"] (spLines K):=by
 refine F.ok sc (fun vs H Q E h=>?_) (fun cdv A outer s H vs Q E hr h=>?_)
 ·obtain ⟨c,rfl,_⟩:=h
  rfl
 ·obtain ⟨c,rfl,k⟩:=h
  refine ⟨_,(zB (zO (i:=1) sc.nd rfl (Or.inr rfl) (zU yN zH (zU yZ (zU xU (pv 0) zH) zH)))
   (zB (zO (i:=2) sc.nd rfl (Or.inr rfl) (yG (zA zZ (zA zZ (zA zZ (zA zZ zC))))))
   (zE (zP (zV xM (by rfl) T.tuple PyProof.Rows.boot_tuple (zA (y4 (sc:=zD st) (N:=["_law_cell","_law_step","_law_some"]) (N':=["_law_k","_law_some","_law_cell","_law_step"]) (src:=[none,some 2,some 0,some 1]) ⟨by decide +kernel,rfl,rfl,by decide +kernel,by decide +kernel,by decide +kernel,by decide +kernel⟩ rfl rfl rfl (pi_range1 rfl T.range (zA (zU yZ (pv 0) zH) zC)) (fun _ _ _ _=>(zM (i:=0) (show (["_law_k","_law_some","_law_cell","_law_step"]:List Str).Nodup by decide +kernel) rfl (Or.inl rfl))) (fun _ _ _ _=>xX) (fun _ _ _ _=>(zW (ix_list:IxR _ (rIxL K)) (pv 1) (zU yZ (zU xU (zU yN (zU xU (pv 2) zH) (zU op_mul (pv 0) (pv 3))) (zU yN zH (zU yZ (pv 0) zH))) zH) (fun _ _=>rfl)))) zC)))))),?_⟩
  refine ⟨_,rfl,_,_,rfl,rfl,(by decide:(0:Int) < 24 /\ (24:Int) < 1073741824),_,_,rfl,rfl,(by decide:(0:Int) < 5),_,_,rfl,rfl,lineN 4,fun l nl=>?_⟩
  have u:=same_upd (o:=.lst [.str "a",.str "b",.str "",.str "ab"]) nl
  have g0:0 <= c % 6:=Int.emod_nonneg _ (by decide)
  have g1:c % 6 < 6:=Int.emod_lt_of_pos _ (by decide)
  have s0:0 <= c / 24 % 5:=Int.emod_nonneg _ (by decide)
  have s1:c / 24 % 5 < 5:=Int.emod_lt_of_pos _ (by decide)
  refine ⟨_,rfl,_,_,rfl,rfl,(by decide:(0:Int) < 6),_,rfl,by omega,by omega,?_⟩
  refine comp_range0 (fun i ys σ H2=>∃ o ls,σ = [o,some (.ref l),some (.int c),some (.int (1 + c / 24 % 5))] /\ Same (upd H l (.lst [.str "a",.str "b",.str "",.str "ab"])) H2 /\ ys = ls.map V.str /\ ls.length = i /\ ∀ x ∈ ls,lineB x = true) ⟨none,[],rfl,Same.refl _,rfl,rfl,fun x z=>(nomatch z)⟩ (le_line (by omega)) ?_ ?_ ?_
  ·rintro i ys σ H2 hi ⟨o,ls,rfl,e,rfl,n,_⟩
   rw [List.length_map]
   omega
  ·rintro i ys σ H2 hi ⟨o,ls,rfl,e,rfl,n,ok⟩
   have i0:0 <= (0 + (i:Int)) % 3:=Int.emod_nonneg _ (by decide)
   have i1:(0 + (i:Int)) % 3 < 3:=Int.emod_lt_of_pos _ (by decide)
   obtain ⟨x,ex,lx⟩:=pool4 (i:=(c / 6 + (0 + (i:Int)) * (1 + c / 24 % 5)) / (1 + (0 + (i:Int)) % 3) % 4) (Int.emod_nonneg _ (by decide)) (Int.emod_lt_of_pos _ (by decide))
   refine ⟨_,rfl,_,rfl,_,_,rfl,rfl,(by decide:(0:Int) < 6 /\ (6:Int) < 1073741824),_,rfl,_,rfl,_,_,rfl,rfl,.inr ⟨by omega,by omega⟩,_,_,rfl,rfl,_,rfl,_,_,rfl,rfl,(by decide:(0:Int) < 3),_,_,rfl,rfl,_,_,rfl,rfl,(⟨by omega,by omega⟩:CDiv _ _),_,_,rfl,rfl,(by decide:(0:Int) < 4),l,_,_,_,rfl,rfl,SqL.of (e _ _ upd_same),ex,?_⟩
   refine ⟨_,ls ++ [x],rfl,e,by rw [List.map_append]; rfl,by rw [List.length_append,n]; rfl,fun y hy=>?_⟩
   rcases List.mem_append.mp hy with z | z
   ·exact ok y z
   ·rw [List.mem_singleton.mp z]; exact lx
  ·rintro ys σ H2 ⟨o,ls,rfl,e,rfl,n,ok⟩ p np
   have u2:=same_upd (o:=.lst (ls.map V.str)) np
   exact ⟨p,_,rfl,.inl ⟨SqL.of upd_same,fun t nt=>k t ls _ (((u.trans e).trans u2).trans (same_upd nt)) (SqT.of upd_same) (by omega) ok⟩⟩
end g_lines
namespace g_chg
abbrev st:Stmt:=top 27
theorem sc:FnScope ["_law_lines_here","_law_cell","_law_at","_law_line"] ["_law_lines_here","_law_cell"] (zD st):=⟨rfl,rfl,rfl,by decide +kernel,rfl,by decide +kernel,by decide +kernel⟩
theorem ok {f:Addr} {fd:FuncData} (F:Fun K "_law_line_changed" "_law_line_changed" st f fd) (T:Txt K mg t1 t2):FnOk P w K mg base CX0 1 f fd ["_law_lines_here","_law_cell"] (spChg K):=by
 refine F.ok sc (fun vs H Q E h=>?_) (fun cdv A outer s H vs Q E hr h=>?_)
 ·obtain ⟨q,c,ls,rfl,_⟩:=h
  rfl
 ·obtain ⟨q,c,ls,rfl,hq,ll,ok,k⟩:=h
  refine ⟨_,(zB (zO (i:=2) sc.nd rfl (Or.inl rfl) (zU yZ (zU xU (pv 1) zH) (zU yN (zQ zN (by rfl) T.len PySem.boot_len (zA (pv 0) zC)) zH)))
   (zB (zO (i:=3) sc.nd rfl (Or.inl rfl) (yA (zA (zW (ix_list:IxR _ (rIxL K)) (yG (zA zZ (zA zZ (zA zZ (zA zZ zC))))) (zU yZ (zU xU (pv 1) zH) zH) (fun _ _=>rfl)) zC)))
   (zB (z5 (zI qX (zU yZ (pv 1) zH) zH (zK _))
    (zE (zP (zU (op_catT2:OpR _ _ (jD K)) (zU (op_catT2:OpR _ _ (jD K)) (z3 (sl_tup2:SlR _ (rSlT2 K)) (pv 0) xJ (zX (pv 2))) (pv 3)) (z3 (sl_tup2:SlR _ (rSlT2 K)) (pv 0) (zX (pv 2)) xJ))))
    zT)
   (zB (z5 (zI qX (zU yZ (pv 1) zH) zH (zK _))
    (zE (zP (zU (op_catT2:OpR _ _ (jD K)) (z3 (sl_tup2:SlR _ (rSlT2 K)) (pv 0) xJ (zX (pv 2))) (z3 (sl_tup2:SlR _ (rSlT2 K)) (pv 0) (zX (zU yN (pv 2) zH)) xJ))))
    zT)
   (zE (zP (zU (op_catT2:OpR _ _ (jD K)) (zU (op_catT2:OpR _ _ (jD K)) (z3 (sl_tup2:SlR _ (rSlT2 K)) (pv 0) xJ (zX (pv 2))) (pv 3)) (z3 (sl_tup2:SlR _ (rSlT2 K)) (pv 0) (zX (zU yN (pv 2) zH)) xJ)))))))),?_⟩
  refine ⟨_,rfl,_,_,rfl,rfl,(by decide:(0:Int) < 3 /\ (3:Int) < 1073741824),_,rfl,q,_,rfl,.inr hq,_,_,rfl,rfl,_,_,rfl,rfl,(by omega:(0:Int) < _),?_⟩
  rw [List.length_map]
  have a0:0 <= c / 3 % ((ls.length:Int) + 1):=Int.emod_nonneg _ (by omega)
  have a1:c / 3 % ((ls.length:Int) + 1) < (ls.length:Int) + 1:=Int.emod_lt_of_pos _ (by omega)
  obtain ⟨n,en⟩:=Int.eq_ofNat_of_zero_le a0
  obtain ⟨x,ex,lx⟩:=pool5 (i:=c / 21 % 4) (Int.emod_nonneg _ (by decide)) (Int.emod_lt_of_pos _ (by decide))
  refine ⟨lineN 4,fun l nl=>⟨_,rfl,_,_,rfl,rfl,(by decide:(0:Int) < 21 /\ (21:Int) < 1073741824),_,_,rfl,rfl,(by decide:(0:Int) < 4),l,_,_,_,rfl,rfl,SqL.of upd_same,ex,lineN 1,fun t nt=>?_⟩⟩
  have u:=(same_upd (o:=.lst [.str "m",.str "y",.str "a",.str "b"]) nl).trans (same_upd (o:=.tup [.str x]) nt)
  have ht:SqT K (upd (upd H l (.lst [.str "m",.str "y",.str "a",.str "b"])) t (.tup [.str x])) t ([x].map V.str):=SqT.of upd_same
  have hq:=u.tupS hq
  generalize upd (upd H l (.lst [.str "m",.str "y",.str "a",.str "b"])) t (.tup [.str x]) = H1 at u ht hq ⊢
  have ca:cutV (ls.map V.str) none (some (c / 3 % ((ls.length:Int) + 1))) = (ls.take n).map V.str:=by rw [en,cut_to (by omega),Int.toNat_natCast,List.map_take]
  have cb:cutV (ls.map V.str) (some (c / 3 % ((ls.length:Int) + 1))) none = (ls.drop n).map V.str:=by rw [en,cut_from (by omega),Int.toNat_natCast,List.map_drop]
  have cc:cutV (ls.map V.str) (some (c / 3 % ((ls.length:Int) + 1) + 1)) none = (ls.drop (n + 1)).map V.str:=by
   rw [en,cut_from (by omega),List.map_drop]
   congr 1
  have n1:(ls.take n).length <= n:=by rw [List.length_take]; omega
  have n2:(ls.drop n).length = ls.length - n:=List.length_drop ..
  have n3:(ls.drop (n + 1)).length = ls.length - (n + 1):=List.length_drop ..
  have n4:(ls.take n).length <= ls.length:=by rw [List.length_take]; omega
  have okt:∀ {a b:List Str},(∀ y ∈ a,y ∈ ls \/ y = x) -> (∀ y ∈ b,y ∈ ls) -> ∀ y ∈ a ++ b,lineB y = true:=fun {a b} h1 h2 y hy=>by
   rcases List.mem_append.mp hy with z | z
   ·rcases h1 y z with w | w
    ·exact ok y w
    ·rw [w]; exact lx
   ·exact ok y (h2 y z)
  refine ⟨_,rfl,_,_,rfl,rfl,(by decide:(0:Int) < 3),rfl,_,rfl,ite2 (fun h1=>?_) (fun h1=>?_)⟩
  ·refine ⟨_,rfl,_,rfl,_,rfl,q,_,rfl,hq,fun v H2 hv=>?_⟩
   obtain ⟨p1,rfl,s2,hp1⟩:=An12.cut_any hq hv
   rw [ca] at hp1
   refine ⟨_,rfl,p1,t,_,_,rfl,rfl,hp1,s2.tupS ht,le_line (by rw [List.length_map,List.length_map,List.length_singleton]; omega),fun p2 H3 s3 hp2=>?_⟩
   have hq3:=s3.tupS (s2.tupS hq)
   refine ⟨_,rfl,_,rfl,_,rfl,q,_,rfl,hq3,fun v H4 hv=>?_⟩
   obtain ⟨p3,rfl,s4,hp3⟩:=An12.cut_any hq3 hv
   rw [cb] at hp3
   refine ⟨p2,p3,_,_,rfl,rfl,s4.tupS hp2,hp3,le_line (by rw [List.length_append,List.length_map,List.length_map,List.length_map,List.length_singleton]; omega),fun p5 H5 s5 hp5=>?_⟩
   rw [← List.map_append,← List.map_append] at hp5
   refine k p5 _ H5 (((u.trans s2).trans s3).trans (s4.trans s5)) hp5 (by rw [List.length_append,List.length_append,List.length_singleton]; omega) (okt (fun y hy=>?_) fun y hy=>List.mem_of_mem_drop hy)
   rcases List.mem_append.mp hy with z | z
   ·exact .inl (List.mem_of_mem_take z)
   ·exact .inr (List.mem_singleton.mp z)
  ·refine ⟨_,rfl,_,_,rfl,rfl,(by decide:(0:Int) < 3),rfl,_,rfl,ite2 (fun h2=>?_) (fun h2=>?_)⟩
   ·refine ⟨_,rfl,_,rfl,_,rfl,q,_,rfl,hq,fun v H2 hv=>?_⟩
    obtain ⟨p1,rfl,s2,hp1⟩:=An12.cut_any hq hv
    rw [ca] at hp1
    have hq3:=s2.tupS hq
    refine ⟨_,rfl,_,rfl,_,_,rfl,rfl,_,rfl,q,_,rfl,hq3,fun v H4 hv=>?_⟩
    obtain ⟨p3,rfl,s4,hp3⟩:=An12.cut_any hq3 hv
    rw [cc] at hp3
    refine ⟨p1,p3,_,_,rfl,rfl,s4.tupS hp1,hp3,le_line (by rw [List.length_map,List.length_map]; omega),fun p5 H5 s5 hp5=>?_⟩
    rw [← List.map_append] at hp5
    exact k p5 _ H5 ((u.trans s2).trans (s4.trans s5)) hp5 (by rw [List.length_append]; omega) (okt (fun y hy=>.inl (List.mem_of_mem_take hy)) fun y hy=>List.mem_of_mem_drop hy)
   ·refine ⟨_,rfl,_,rfl,_,rfl,q,_,rfl,hq,fun v H2 hv=>?_⟩
    obtain ⟨p1,rfl,s2,hp1⟩:=An12.cut_any hq hv
    rw [ca] at hp1
    refine ⟨_,rfl,p1,t,_,_,rfl,rfl,hp1,s2.tupS ht,le_line (by rw [List.length_map,List.length_map,List.length_singleton]; omega),fun p2 H3 s3 hp2=>?_⟩
    have hq3:=s3.tupS (s2.tupS hq)
    refine ⟨_,rfl,_,rfl,_,_,rfl,rfl,_,rfl,q,_,rfl,hq3,fun v H4 hv=>?_⟩
    obtain ⟨p3,rfl,s4,hp3⟩:=An12.cut_any hq3 hv
    rw [cc] at hp3
    refine ⟨p2,p3,_,_,rfl,rfl,s4.tupS hp2,hp3,le_line (by rw [List.length_append,List.length_map,List.length_map,List.length_map,List.length_singleton]; omega),fun p5 H5 s5 hp5=>?_⟩
    rw [← List.map_append,← List.map_append] at hp5
    refine k p5 _ H5 (((u.trans s2).trans s3).trans (s4.trans s5)) hp5 (by rw [List.length_append,List.length_append,List.length_singleton]; omega) (okt (fun y hy=>?_) fun y hy=>List.mem_of_mem_drop hy)
    rcases List.mem_append.mp hy with z | z
    ·exact .inl (List.mem_of_mem_take z)
    ·exact .inr (List.mem_singleton.mp z)
end g_chg
end
end An18
namespace An18
open PySem L2 An An10 An12
seal L2.PS L2.PSs L2.PE L2.PT L2.PW L2.PA L2.PG L2.PGs L2.PI L2.PFi L2.PC
section
variable {P:Program} {w:World} {K:PySem.W.Frag} {mg:Str -> Option Value} {base:Heap} {t1 t2:Tok}
namespace g_side
abbrev st:Stmt:=top 28
theorem sc:FnScope ["_law_base","_law_cells","_law_files","_law_cell","_law_paths","_law_more","_law_path_here"] ["_law_base","_law_cells"] (zD st):=⟨rfl,rfl,rfl,by decide +kernel,rfl,by decide +kernel,by decide +kernel⟩
theorem ok {f:Addr} {fd:FuncData} (F:Fun K "_law_side" "_law_side" st f fd) (T:Txt K mg t1 t2) (C__law_path:Cal P w K mg base 1 "_law_path" ["_law_cell"] spPath) (C__law_put:Cal P w K mg base 2 "_law_put" ["_law_files","_law_path_here","_law_lines_here"] (spPut K)) (C__law_lines:Cal P w K mg base 1 "_law_lines" ["_law_cell"] (spLines K)) (C__law_line_changed:Cal P w K mg base 1 "_law_line_changed" ["_law_lines_here","_law_cell"] (spChg K)):FnOk P w K mg base CX0 3 f fd ["_law_base","_law_cells"] (spSide K):=by
 refine F.ok sc (fun vs H Q E h=>?_) (fun cdv A outer s H vs Q E hr h=>?_)
 ·obtain ⟨a,c,kvs,L,FF,ns,n,rfl,_⟩:=h
  rfl
 ·obtain ⟨a,c,kvs,L,FF,ns,n,rfl,ha,fi,ok,n5,n100,ll,hc,nl,k⟩:=h
  refine ⟨_,(zB (zO (i:=2) sc.nd rfl (Or.inl rfl) (zV xZ (by rfl) T.dict PyProof.Rows.boot_dict (zA (pv 0) zC)))
   (zB (xA PassesOwn.never rfl (z8 (pv 1)) (zM (i:=3) sc.nd rfl (Or.inl rfl))
    (zB (zO (i:=4) sc.nd rfl (Or.inl rfl) (zQ (jE rfl) (by rfl) T.sorted PyProof.Rows.boot_sorted (zA (pv 2) zC)))
    (zB (zO (i:=5) sc.nd rfl (Or.inl rfl) (zU xU (pv 3) zH))
    (zE (z5 (PW.pt (xH (zI qX (zU yZ (pv 3) zH) zH (zK _)) (y6 (zI (yR hr.units) (pv 4) (yG zC) (zK _)))))
     (zE (z6 (zJ C__law_put (hr.mono (by decide)) (zA (pv 2) (zA (zJ C__law_path (hr.mono (by decide)) (zA (pv 5) zC)) (zA (zJ C__law_lines (hr.mono (by decide)) (zA (zU xU (pv 5) zH) zC)) zC))))))
     (zE (z5 (zI qX (zU yZ (pv 3) zH) zH (zK _))
      (zE (z6 (pe_dpop1 (pv 2) (zW (ix_list:IxR _ (rIxL K)) (pv 4) (zU yZ (pv 5) (zQ zN (by rfl) T.len PySem.boot_len (zA (pv 4) zC))) (fun _ _=>rfl)) ⟨rfl,rfl,rfl,rfl⟩)))
      (zB (zO (i:=6) sc.nd rfl (Or.inl rfl) (zW (ix_list:IxR _ (rIxL K)) (pv 4) (zU yZ (pv 5) (zQ zN (by rfl) T.len PySem.boot_len (zA (pv 4) zC))) (fun _ _=>rfl)))
      (zE (jA hr.units1 (pv 2) (pv 6) (zJ C__law_line_changed (hr.mono (by decide)) (zA (pe_dget hr.units1 (pv 2) (pv 6) (fun _ _=>rfl)) (zA (zU xU (pv 5) zH) zC))) rfl))))))))))
   (zE (zP (pv 2))))),?_⟩
  refine ⟨_,rfl,a,kvs,rfl,.inl ha,fun d nd=>?_⟩
  have u0:=same_upd (o:=.dK kvs) nd
  refine ⟨_,rfl,c,rfl,⟨_,u0.seq hc⟩,yP (K:=K) (a:=c) (xs:=ns.map V.int) (fun i σ H2=>∃ o3 o4 o5 o6,σ = [some (.ref a),some (.ref c),some (.ref d),o3,o4,o5,o6] /\ Same H H2 /\ ∃ kd L' F',H2 d = some (.dK kd) /\ AnS.Files K H2 kd L' F' /\ okG (n + i) L' F' /\ L'.length <= L.length + i)
   ⟨none,none,none,none,rfl,u0,kvs,L,FF,upd_same,fi.same u0,ok,Nat.le_refl _⟩ (fun i σ H2 _ ⟨_,_,_,_,_,e,_⟩=>e.seq hc) ?_ ?_⟩
  ·rintro i y σ H2 hy ⟨o3,o4,o5,o6,rfl,e,kd,L',F',hd,fi',ok',len⟩
   rw [List.getElem?_map] at hy
   cases q:ns[i]? with
   | none=>rw [q] at hy; cases hy
   | some v =>
    rw [q] at hy
    have hy:V.int v = y:=Option.some.inj hy
    subst hy
    have il:=(List.getElem?_eq_some_iff.mp q).1
    have kl:=fi'.is.len
    refine ⟨_,rfl,d,kd,rfl,.inl hd,fi'.is.allS,by omega,fun l ss nl' pm so=>?_⟩
    rw [fi'.is.keysS] at pm
    have u1:=same_upd (o:=.lst (ss.map V.str)) nl'
    have hl1:SqL K (upd H2 l (.lst (ss.map V.str))) l (ss.map V.str):=SqL.of upd_same
    have e1:=e.trans u1
    have hd1:=u1 _ _ hd
    have fi1:=fi'.same u1
    clear u1
    generalize upd H2 l (.lst (ss.map V.str)) = H3 at hl1 e1 hd1 fi1 ⊢
    have ssm:∀ p,p ∈ ss ↔ p ∈ L':=fun p=>pm.mem_iff
    refine ⟨_,rfl,_,_,rfl,rfl,(by decide:(0:Int) < 5 /\ (5:Int) < 1073741824),?_⟩
    have fin:∀ (p:Str) H4,Same H3 H4 -> okPa 10 p -> ∀ (q:Addr) (ls:List Str),SqT K H4 q (ls.map V.str) -> ls.length <= 5 -> (∀ x ∈ ls,lineB x = true) -> ∀ H',(∀ b o,b ≠ d -> H4 b = some o -> H' b = some o) -> (AnS.blB L' p = true /\ H' d = some (.dK kd) \/ AnS.blB L' p = false /\ H' d = some (.dK (putK kd (.inr p) (.ref q)))) -> Same H H' /\ ∃ kd L' F',H' d = some (.dK kd) /\ AnS.Files K H' kd L' F' /\ okG (n + (i + 1)) L' F' /\ L'.length <= L.length + (i + 1):=fun p H4 s4 hp q ls hq ll okl H' fr alt=>by
     have hd4:=s4 _ _ hd1
     have ds:AnS.DS H4 H':=fun b o hb nb=>fr b o (fun z=>by rw [z,hd4] at hb; exact nb _ (Option.some.inj hb).symm) hb
     have sm:Same H H':=fun b o hb=>fr b o (zG hb nd) (s4 _ _ (e1 _ _ hb))
     refine ⟨sm,?_⟩
     rcases alt with ⟨_,h⟩ | ⟨b,h⟩
     ·exact ⟨kd,L',F',h,(fi1.same s4).mono ds,ok'.up (by omega),by omega⟩
     ·have al:=AnS.addL_len (L:=L') p
      exact ⟨_,_,_,h,((fi1.same s4).put p (v:=.ref q) (ls:=ls) (AnJ.lines_dt hq)).mono ds,(ok'.up (by omega)).put hp b (by omega) okl,by omega⟩
    have lok:∀ x ∈ L',okPa 1000 x:=fun x hx=>(ok'.path x hx).more (by decide)
    refine ⟨_,rfl,_,_,rfl,rfl,(by decide:(0:Int) < 5),rfl,_,rfl,ite2 (fun h1=>iteT ?_) (fun h1=>⟨_,rfl,Nat.zero_le _,fun nn nnn=>?_⟩)⟩
    ·refine ⟨_,rfl,_,rfl,_,rfl,fun p H5 hp s5=>⟨_,rfl,_,_,rfl,rfl,(by decide:(0:Int) < 10 /\ (10:Int) < 1073741824),_,rfl,fun q ls H6 s6 hq ll okl=>⟨d,q,p,kd,L',_,rfl,(s5.trans s6) _ _ hd1,(fi1.same (s5.trans s6)).is,lok,Nat.le_trans hp.1 (by decide),by omega,fun H' fr alt=>⟨_,_,_,_,rfl,fin p H6 (s5.trans s6) hp q ls hq ll okl H' fr alt⟩⟩⟩⟩
    ·have u4:=same_upd (o:=.lst []) nnn
     have hl4:=u4.seq hl1
     have hd4:=u4 _ _ hd1
     have fi4:=fi1.same u4
     have e4:=e1.trans u4
     refine ⟨.list (ss.map .str),.list (([]:List Str).map .str),⟨l,_,rfl,hl4,DtAll.strs _⟩,⟨nn,[],rfl,SqL.of upd_same,rfl⟩,(qA fun x hx=>(lok x ((ssm x).mp hx)).2).1,by decide,_,rfl,?_⟩
     have ev:PyData.eqv (.list (ss.map .str)) (.list (([]:List Str).map .str)) = decide (ss = []):=qI ss []
     rw [ev]
     generalize upd H3 nn (.lst []) = H4 at u4 hl4 hd4 fi4 e4 ⊢
     refine ite2 (fun h2=>?_) (fun h2=>?_)
     ·refine ⟨_,rfl,_,rfl,_,rfl,fun p H5 hp s5=>⟨_,rfl,_,_,rfl,rfl,(by decide:(0:Int) < 10 /\ (10:Int) < 1073741824),_,rfl,fun q ls H6 s6 hq ll okl=>⟨d,q,p,kd,L',_,rfl,(s5.trans s6) _ _ hd4,(fi4.same (s5.trans s6)).is,lok,Nat.le_trans hp.1 (by decide),by omega,fun H' fr alt=>⟨_,_,_,_,rfl,fin p H6 (u4.trans (s5.trans s6)) hp q ls hq ll okl H' fr alt⟩⟩⟩⟩
     ·have sp:0 < ss.length:=by
       rcases Nat.eq_zero_or_pos ss.length with z | z
       ·exact absurd (decide_eq_true (List.eq_nil_of_length_eq_zero z)) h2
       ·exact z
      obtain ⟨g,hg,eg⟩:=qK (f:=V.str) (xs:=ss) (i:=v / 5 % (((ss.map V.str).length:Nat):Int)) (Int.emod_nonneg _ (by rw [List.length_map]; omega)) (by rw [List.length_map]; exact Int.emod_lt_of_pos _ (by omega))
      have gL:g ∈ L':=(ssm g).mp (List.mem_of_getElem? hg)
      obtain ⟨v',ev',dv⟩:=fi4.is.val g gL
      refine ⟨_,rfl,_,_,rfl,rfl,(by decide:(0:Int) < 5),rfl,_,rfl,ite2 (fun h3=>?_) (fun h3=>?_)⟩
      ·refine ⟨_,rfl,d,rfl,.inl ⟨_,.inl hd4⟩,_,rfl,_,rfl,_,rfl,l,_,rfl,.inl hl4,_,_,rfl,rfl,(by rw [List.length_map]; omega),l,_,_,_,rfl,rfl,hl4,eg,kd,.inr g,v',hd4,rfl,ev',?_⟩
       have fl:=List.length_filter_le (fun q=>decide (q ≠ g)) L'
       exact ⟨_,_,_,_,rfl,An.Same.updF e4 nd,_,_,_,upd_same,(fi4.drop g).mono (AnS.DS.upd hd4),(ok'.up (by omega)).drop g,by omega⟩
      ·have sg:(F' g).isSome = true:=(fi4.mem g).mp gL
       obtain ⟨ls,els⟩:=Option.isSome_iff_exists.mp sg
       rw [els] at dv
       obtain ⟨qa,rfl,hqa⟩:=s_at.tup_of dv
       have few:=ok'.few g ls els
       refine ⟨_,rfl,_,rfl,_,rfl,l,_,rfl,.inl hl4,_,_,rfl,rfl,(by rw [List.length_map]; omega),l,_,_,_,rfl,rfl,hl4,eg,?_⟩
       refine ⟨_,rfl,_,rfl,d,.ref qa,rfl,(by have:=DGet.k (k:=.inr g) hd4; rw [ev'] at this; exact this),_,rfl,_,_,rfl,rfl,(by decide:(0:Int) < 7 /\ (7:Int) < 1073741824),qa,_,ls,rfl,hqa,by omega,few.2,fun q' ls' H5 s5 hq' ll' okl'=>?_⟩
       have hd5:=s5 _ _ hd4
       refine ⟨_,rfl,_,rfl,d,_,rfl,DPut.k (k:=.inr g) hd5 (Nat.lt_of_lt_of_le (by omega:kd.length < 16777216) (le_line (Nat.le_refl _))),?_⟩
       have bl:AnS.blB L' g = false:=AnS.bl_false.mpr fun x hx=>⟨ok'.free x hx g gL,ok'.free g gL x hx⟩
       have al:=AnS.addL_len (L:=L') g
       exact ⟨_,_,_,_,rfl,An.Same.updF (e4.trans s5) nd,_,_,_,upd_same,((fi4.same s5).put g (v:=.ref q') (ls:=ls') (AnJ.lines_dt hq')).mono (AnS.DS.upd hd5),(ok'.up (by omega)).put (ok'.path g gL) bl (by omega) okl',by omega⟩
  ·rintro σ H2 ⟨o3,o4,o5,o6,rfl,e,kd,L',F',hd,fi',ok',len⟩
   rw [List.length_map] at len ok'
   exact ⟨_,rfl,k d kd L' F' H2 e nd hd fi' ok' len⟩
end g_side
end
end An18
namespace An18
open PySem L2 An An10 An12
seal L2.PS L2.PSs L2.PE L2.PT L2.PW L2.PA L2.PG L2.PGs L2.PI L2.PFi L2.PC
structure Tw (K:PySem.W.Frag) (H:Hp) (ab am ay:Addr) (kb km ky:List (Key × V)) (LB LM LY:List Str) (B M Y:Str -> Option (List Str)):Prop where
 hb:H ab = some (.dK kb)
 hm:H am = some (.dK km)
 hy:H ay = some (.dK ky)
 th:AnS.Three K H kb km ky LB LM LY B M Y
 sb:AnS.Few 20 B
 sm:AnS.Few 20 M
 sy:AnS.Few 20 Y
theorem Tw.same {K:PySem.W.Frag} {H H':Hp} {ab am ay:Addr} {kb km ky:List (Key × V)} {LB LM LY:List Str} {B M Y:Str -> Option (List Str)} (h:Tw K H ab am ay kb km ky LB LM LY B M Y) (e:Same H H'):Tw K H' ab am ay kb km ky LB LM LY B M Y:=⟨e _ _ h.hb,e _ _ h.hm,e _ _ h.hy,h.th.mono (.of e),h.sb,h.sm,h.sy⟩
def spStands (K:PySem.W.Frag):Sp:=fun vs H Q _=>∃ (p:Str) (ab am ay:Addr) (kb km ky:List (Key × V)) (LB LM LY:List Str) (B M Y:Str -> Option (List Str)),vs = [.str p,.ref ab,.ref am,.ref ay] /\ Tw K H ab am ay kb km ky LB LM LY B M Y /\ ∀ H',Same H H' -> Q (.bl (AnS.stB (AnS.jG B M Y) p)) H'
def spRightP (K:PySem.W.Frag):Sp:=fun vs H Q _=>∃ (p:Str) (vl vb vm vy:V) (o:Option (List Str)) (B M Y:Str -> Option (List Str)),vs = [vl,vb,vm,vy] /\ Dt K H (AnS.oD o) vl /\ Dt K H (AnS.oD (B p)) vb /\ Dt K H (AnS.oD (M p)) vm /\ Dt K H (AnS.oD (Y p)) vy /\ AnS.okO o /\ AnS.Few 20 B /\ AnS.Few 20 M /\ AnS.Few 20 Y /\ ∀ r H',Same H H' -> (AnS.jG B M Y p = some o -> r = true) -> Q (.bl r) H'
section
variable {P:Program} {w:World} {K:PySem.W.Frag} {mg:Str -> Option Value} {base:Heap} {t1 t2:Tok}
theorem nn_some {H:Hp} {o:Option (List Str)} {v:V} (h:Dt K H (AnS.oD o) v):(!decide (v = .non)) = o.isSome:=by
 have:=s_at.non_iff h
 cases o with
 | none=>rw [decide_eq_true (this.mpr rfl)]; rfl
 | some x=>rw [decide_eq_false (fun z=>by cases this.mp z)]; rfl
theorem st_of {j:AnS.Js} {p:Str} {o:Option (List Str)} (h:j p = some o):AnS.stB j p = o.isSome:=by
 unfold AnS.stB
 rw [h]
 cases o <;> rfl
theorem st_no {j:AnS.Js} {p:Str} (h:j p = none):AnS.stB j p = false:=by
 unfold AnS.stB
 rw [h]
theorem jG_spec {B M Y:Str -> Option (List Str)} {p:Str} {o:Option (List Str)} (h:AnS.jG B M Y p = some o):AnS.J3 (B p) (M p) (Y p) (some o):=by
 unfold AnS.jG at h
 split at h
 ·rename_i hx
  rw [← h]
  exact hx.choose_spec
 ·cases h
namespace g_stands
abbrev st:Stmt:=top 29
theorem sc:FnScope ["_law_path_here","_law_base","_law_mine","_law_yours","_law_one","_law_two","_law_three"] ["_law_path_here","_law_base","_law_mine","_law_yours"] (zD st):=⟨rfl,rfl,rfl,by decide +kernel,rfl,by decide +kernel,by decide +kernel⟩
theorem ok {f:Addr} {fd:FuncData} (F:Fun K "_law_stands" "_law_stands" st f fd) (T:Txt K mg t1 t2) (C_joined_lines:Cal P w K mg base 7 "joined_lines" ["base","mine","yours"] (AnJ.spJoined K)) (C_clean_lines:Cal P w K mg base 1 "clean_lines" ["parts"] (AnJ.spClean K)):FnOk P w K mg base CX0 8 f fd ["_law_path_here","_law_base","_law_mine","_law_yours"] (spStands K):=by
 refine F.ok sc (fun vs H Q E h=>?_) (fun cdv A outer s H vs Q E hr h=>?_)
 ·obtain ⟨p,ab,am,ay,kb,km,ky,LB,LM,LY,B,M,Y,rfl,_⟩:=h
  rfl
 ·obtain ⟨p,ab,am,ay,kb,km,ky,LB,LM,LY,B,M,Y,rfl,tw,k⟩:=h
  refine ⟨_,(zB (zO (i:=4) sc.nd rfl (Or.inl rfl) (yD hr.units1 (pv 1) (pv 0) ⟨rfl,rfl,rfl,rfl⟩))
   (zB (zO (i:=5) sc.nd rfl (Or.inl rfl) (yD hr.units1 (pv 2) (pv 0) ⟨rfl,rfl,rfl,rfl⟩))
   (zB (zO (i:=6) sc.nd rfl (Or.inl rfl) (yD hr.units1 (pv 3) (pv 0) ⟨rfl,rfl,rfl,rfl⟩))
   (zB (z5 (PW.pt (xH (zI (yR hr.units) (pv 5) (pv 6) (zK _)) (y6 (zI (yR hr.units) (pv 6) (pv 4) (zK _)))))
    (zE (zP (yM jP (pv 5) yE (zK _))))
    zT)
   (zB (z5 (zI (yR hr.units) (pv 5) (pv 4) (zK _))
    (zE (zP (yM jP (pv 6) yE (zK _))))
    zT)
   (zB (z5 (PW.pt (xH (zI xE (pv 4) yE (zK _)) (xH (zI xE (pv 5) yE (zK _)) (y6 (zI xE (pv 6) yE (zK _))))))
    (zE (zP xW))
    zT)
   (zE (zP (yM jP (zJ C_clean_lines (hr.mono (by decide)) (zA (zJ C_joined_lines (hr.mono (by decide)) (zA (pv 4) (zA (pv 5) (zA (pv 6) zC)))) zC)) yE (zK _)))))))))),?_⟩
  have db:=tw.th.fb.get p
  have dm:=tw.th.fm.get p
  have dy:=tw.th.fy.get p
  have ob:=AnS.shaped_oD (tw.sb.okO p)
  have om:=AnS.shaped_oD (tw.sm.okO p)
  have oy:=AnS.shaped_oD (tw.sy.okO p)
  refine ⟨_,rfl,ab,rfl,.inl ⟨kb,.inl tw.hb⟩,_,rfl,_,DGet.k (k:=.inr p) tw.hb,?_⟩
  refine ⟨_,rfl,am,rfl,.inl ⟨km,.inl tw.hm⟩,_,rfl,_,DGet.k (k:=.inr p) tw.hm,?_⟩
  refine ⟨_,rfl,ay,rfl,.inl ⟨ky,.inl tw.hy⟩,_,rfl,_,DGet.k (k:=.inr p) tw.hy,?_⟩
  generalize (valV kb (.inr p)).getD .non = vb at db ⊢
  generalize (valV km (.inr p)).getD .non = vm at dm ⊢
  generalize (valV ky (.inr p)).getD .non = vy at dy ⊢
  have ret:∀ {o:Option (List Str)} {v:V},Dt K H (AnS.oD o) v -> AnS.J3 (B p) (M p) (Y p) (some o) -> Q (.bl (!decide (v = .non))) H:=fun {o v} hd hj=>by
   rw [nn_some hd,← st_of (AnS.jG_is hj).symm]
   exact k _ (Same.refl _)
  have retM:(M p = Y p \/ Y p = B p) -> Q (.bl (!decide (vm = .non))) H:=fun h=>ret dm (by
   by_cases z:M p = Y p
   ·exact .inl ⟨z,rfl⟩
   ·have h2:=h.resolve_left z
    exact .inr (.inr (.inl ⟨z,fun q=>z (q.trans h2.symm),h2,rfl⟩)))
  refine ⟨_,rfl,_,rfl,AnS.oD (M p),AnS.oD (Y p),dm,dy,om,oy,_,rfl,ite2 (fun c1=>iteT ⟨_,rfl,rfl,retM (.inl ?_)⟩) (fun c1=>⟨_,rfl,_,rfl,AnS.oD (Y p),AnS.oD (B p),dy,db,oy,ob,_,rfl,ite2 (fun c2=>⟨_,rfl,rfl,retM (.inr ?_)⟩) (fun c2=>?_)⟩)⟩
  ·rw [AnS.eqv_oD] at c1
   exact of_decide_eq_true c1
  ·rw [AnS.eqv_oD] at c2
   exact of_decide_eq_true c2
  rw [AnS.eqv_oD] at c1 c2
  have c1:M p ≠ Y p:=fun z=>c1 (decide_eq_true z)
  have c2:Y p ≠ B p:=fun z=>c2 (decide_eq_true z)
  refine ⟨_,rfl,_,rfl,AnS.oD (M p),AnS.oD (B p),dm,db,om,ob,_,rfl,ite2 (fun c3=>⟨_,rfl,rfl,ret dy (.inr (.inl ⟨c1,?_,rfl⟩))⟩) (fun c3=>?_)⟩
  ·rw [AnS.eqv_oD] at c3
   exact of_decide_eq_true c3
  rw [AnS.eqv_oD] at c3
  have c3:M p ≠ B p:=fun z=>c3 (decide_eq_true z)
  have cl:(B p = none \/ M p = none \/ Y p = none) -> Q (.bl false) H:=fun z=>by
   rw [← st_no (AnS.jG_is (B:=B) (M:=M) (Y:=Y) (p:=p) (r:=none) (.inr (.inr (.inr (.inl ⟨c1,c3,c2,z,rfl⟩))))).symm]
   exact k _ (Same.refl _)
  refine ⟨_,rfl,rfl,_,rfl,ite2 (fun a1=>iteT (cl (.inl ((s_at.non_iff db).mp (of_decide_eq_true a1))))) (fun a1=>⟨_,rfl,rfl,_,rfl,ite2 (fun a2=>iteT (cl (.inr (.inl ((s_at.non_iff dm).mp (of_decide_eq_true a2)))))) (fun a2=>⟨_,rfl,rfl,_,rfl,ite2 (fun a3=>cl (.inr (.inr ((s_at.non_iff dy).mp (of_decide_eq_true a3))))) (fun a3=>?_)⟩)⟩)⟩
  have nb:B p ≠ none:=fun z=>a1 (decide_eq_true ((s_at.non_iff db).mpr z))
  have nm:M p ≠ none:=fun z=>a2 (decide_eq_true ((s_at.non_iff dm).mpr z))
  have ny:Y p ≠ none:=fun z=>a3 (decide_eq_true ((s_at.non_iff dy).mpr z))
  obtain ⟨xs,ex⟩:=Option.ne_none_iff_exists'.mp nb
  obtain ⟨ms,em⟩:=Option.ne_none_iff_exists'.mp nm
  obtain ⟨ys,ey⟩:=Option.ne_none_iff_exists'.mp ny
  have okj:=AnS.Few.okJ tw.sb tw.sm tw.sy p xs ms ys ex em ey
  rw [ex] at db
  rw [em] at dm
  rw [ey] at dy
  obtain ⟨qb,rfl,sb⟩:=s_at.tup_of db
  obtain ⟨qm,rfl,sm⟩:=s_at.tup_of dm
  obtain ⟨qy,rfl,sy⟩:=s_at.tup_of dy
  refine ⟨_,rfl,_,rfl,_,rfl,qb,qm,qy,xs,ms,ys,rfl,sb,sm,sy,okj,fun l ps H1 s1 nl jn pa=>?_⟩
  have okp:=jn.okPs okj
  have hj:AnS.J3 (B p) (M p) (Y p) ((AnJ.cleanL ps).map some):=.inr (.inr (.inr (.inr ⟨c1,c3,c2,xs,ms,ys,ps,ex,em,ey,jn,rfl⟩)))
  refine ⟨l,ps,rfl,pa.dt,okp.1,fun x hx=>(okp.2 _ hx).2,fun e H2 s2=>⟨rfl,?_⟩,fun ls e q H2 s2 hp=>⟨rfl,?_⟩⟩
  ·rw [e] at hj
   have:=st_no (AnS.jG_is hj).symm
   have kk:=k _ (s1.trans s2)
   rw [this] at kk
   exact kk
  ·rw [e] at hj
   have:=st_of (AnS.jG_is hj).symm
   have kk:=k _ (s1.trans s2)
   rw [this] at kk
   exact kk
end g_stands
namespace g_pathR
abbrev st:Stmt:=top 32
theorem sc:FnScope ["_law_lines_here","_law_one","_law_mine","_law_yours"] ["_law_lines_here","_law_one","_law_mine","_law_yours"] (zD st):=⟨rfl,rfl,rfl,by decide +kernel,rfl,by decide +kernel,by decide +kernel⟩
theorem ok {f:Addr} {fd:FuncData} (F:Fun K "_law_path_right" "_law_path_right" st f fd) (T:Txt K mg t1 t2) (C_joined_lines:Cal P w K mg base 7 "joined_lines" ["base","mine","yours"] (AnJ.spJoined K)) (C_clean_lines:Cal P w K mg base 1 "clean_lines" ["parts"] (AnJ.spClean K)):FnOk P w K mg base CX0 8 f fd ["_law_lines_here","_law_one","_law_mine","_law_yours"] (spRightP K):=by
 refine F.ok sc (fun vs H Q E h=>?_) (fun cdv A outer s H vs Q E hr h=>?_)
 ·obtain ⟨p,vl,vb,vm,vy,o,B,M,Y,rfl,_⟩:=h
  rfl
 ·obtain ⟨p,vl,vb,vm,vy,o,B,M,Y,rfl,dl,db,dm,dy,oo,fb,fm,fy,k⟩:=h
  refine ⟨_,(zB (z5 (zI (yR hr.units) (pv 2) (pv 3) (zK _))
    (zE (zP (yM (yR hr.units) (pv 0) (pv 2) (zK _))))
    zT)
   (zB (z5 (zI (yR hr.units) (pv 2) (pv 1) (zK _))
    (zE (zP (yM (yR hr.units) (pv 0) (pv 3) (zK _))))
    zT)
   (zB (z5 (zI (yR hr.units) (pv 3) (pv 1) (zK _))
    (zE (zP (yM (yR hr.units) (pv 0) (pv 2) (zK _))))
    zT)
   (zB (z5 (PW.pt (xH (zI xE (pv 1) yE (zK _)) (xH (zI xE (pv 2) yE (zK _)) (y6 (zI xE (pv 3) yE (zK _))))))
    (zE (zP xW))
    zT)
   (zE (zP (pe_and (yM jP (pv 0) yE (zK _)) (pe_one (yM (yR hr.units) (pv 0) (zJ C_clean_lines (hr.mono (by decide)) (zA (zJ C_joined_lines (hr.mono (by decide)) (zA (pv 1) (zA (pv 2) (zA (pv 3) zC)))) zC)) (zK _)))))))))),?_⟩
  have ol:=AnS.shaped_oD oo
  have ob:=AnS.shaped_oD (fb.okO p)
  have om:=AnS.shaped_oD (fm.okO p)
  have oy:=AnS.shaped_oD (fy.okO p)
  have ret:∀ {x:Option (List Str)},AnS.J3 (B p) (M p) (Y p) (some x) -> Q (.bl (PyData.eqv (AnS.oD o) (AnS.oD x))) H:=fun {x} hj=>by
   rw [AnS.eqv_oD]
   refine k _ _ (Same.refl _) fun e=>decide_eq_true ?_
   have:=AnS.jG_is hj
   rw [e] at this
   exact (Option.some.inj this).symm
  refine ⟨_,rfl,_,rfl,AnS.oD (M p),AnS.oD (Y p),dm,dy,om,oy,_,rfl,ite2 (fun c1=>⟨_,rfl,_,rfl,_,_,dl,dm,ol,om,ret (.inl ⟨?_,rfl⟩)⟩) (fun c1=>?_)⟩
  ·rw [AnS.eqv_oD] at c1
   exact of_decide_eq_true c1
  rw [AnS.eqv_oD] at c1
  have c1:M p ≠ Y p:=fun z=>c1 (decide_eq_true z)
  refine ⟨_,rfl,_,rfl,AnS.oD (M p),AnS.oD (B p),dm,db,om,ob,_,rfl,ite2 (fun c3=>⟨_,rfl,_,rfl,_,_,dl,dy,ol,oy,ret (.inr (.inl ⟨c1,?_,rfl⟩))⟩) (fun c3=>?_)⟩
  ·rw [AnS.eqv_oD] at c3
   exact of_decide_eq_true c3
  rw [AnS.eqv_oD] at c3
  have c3:M p ≠ B p:=fun z=>c3 (decide_eq_true z)
  refine ⟨_,rfl,_,rfl,AnS.oD (Y p),AnS.oD (B p),dy,db,oy,ob,_,rfl,ite2 (fun c2=>⟨_,rfl,_,rfl,_,_,dl,dm,ol,om,ret (.inr (.inr (.inl ⟨c1,c3,?_,rfl⟩)))⟩) (fun c2=>?_)⟩
  ·rw [AnS.eqv_oD] at c2
   exact of_decide_eq_true c2
  rw [AnS.eqv_oD] at c2
  have c2:Y p ≠ B p:=fun z=>c2 (decide_eq_true z)
  have cl:(B p = none \/ M p = none \/ Y p = none) -> Q (.bl false) H:=fun z=>k _ _ (Same.refl _) fun e=>by
   have:=AnS.jG_is (B:=B) (M:=M) (Y:=Y) (p:=p) (r:=none) (.inr (.inr (.inr (.inl ⟨c1,c3,c2,z,rfl⟩))))
   rw [e] at this
   cases this
  refine ⟨_,rfl,rfl,_,rfl,ite2 (fun a1=>iteT (cl (.inl ((s_at.non_iff db).mp (of_decide_eq_true a1))))) (fun a1=>⟨_,rfl,rfl,_,rfl,ite2 (fun a2=>iteT (cl (.inr (.inl ((s_at.non_iff dm).mp (of_decide_eq_true a2)))))) (fun a2=>⟨_,rfl,rfl,_,rfl,ite2 (fun a3=>cl (.inr (.inr ((s_at.non_iff dy).mp (of_decide_eq_true a3))))) (fun a3=>?_)⟩)⟩)⟩
  have nb:B p ≠ none:=fun z=>a1 (decide_eq_true ((s_at.non_iff db).mpr z))
  have nm:M p ≠ none:=fun z=>a2 (decide_eq_true ((s_at.non_iff dm).mpr z))
  have ny:Y p ≠ none:=fun z=>a3 (decide_eq_true ((s_at.non_iff dy).mpr z))
  obtain ⟨xs,ex⟩:=Option.ne_none_iff_exists'.mp nb
  obtain ⟨ms,em⟩:=Option.ne_none_iff_exists'.mp nm
  obtain ⟨ys,ey⟩:=Option.ne_none_iff_exists'.mp ny
  have okj:=AnS.Few.okJ fb fm fy p xs ms ys ex em ey
  rw [ex] at db
  rw [em] at dm
  rw [ey] at dy
  obtain ⟨qb,rfl,sb⟩:=s_at.tup_of db
  obtain ⟨qm,rfl,sm⟩:=s_at.tup_of dm
  obtain ⟨qy,rfl,sy⟩:=s_at.tup_of dy
  have hj:∀ {ps},AnJ.Joined xs ms ys ps -> AnS.J3 (B p) (M p) (Y p) ((AnJ.cleanL ps).map some):=fun {ps} jn=>.inr (.inr (.inr (.inr ⟨c1,c3,c2,xs,ms,ys,ps,ex,em,ey,jn,rfl⟩)))
  refine ⟨_,rfl,rfl,_,rfl,ite2 (fun h4=>⟨_,rfl,_,rfl,_,rfl,_,rfl,qb,qm,qy,xs,ms,ys,rfl,sb,sm,sy,okj,fun l ps H1 s1 nl jn pa=>?_⟩) (fun h4=>?_)⟩
  ·have okp:=jn.okPs okj
   refine ⟨l,ps,rfl,pa.dt,okp.1,fun x hx=>(okp.2 _ hx).2,fun e H2 s2=>⟨AnS.oD o,AnS.oD none,Dt.same (s1.trans s2) _ _ dl,rfl,ol,by decide,?_⟩,fun ls e q H2 s2 hp=>⟨AnS.oD o,AnS.oD (some ls),Dt.same (s1.trans s2) _ _ dl,AnJ.lines_dt hp,ol,?_,?_⟩⟩
   ·refine k _ _ (s1.trans s2) fun e'=>?_
    have:=AnS.jG_is (hj jn)
    rw [e,e'] at this
    cases this
   ·have:=AnJ.clean_ok e fun p hp=>(okp.2 p hp).1
    exact AnS.shaped_oD fun ls' e'=>by cases e'; exact this
   ·rw [AnS.eqv_oD]
    refine k _ _ (s1.trans s2) fun e'=>decide_eq_true ?_
    have:=AnS.jG_is (hj jn)
    rw [e,e'] at this
    exact (Option.some.inj this).symm
  ·refine k _ _ (Same.refl _) fun e'=>?_
   have on:o = none:=by
    rw [nn_some dl] at h4
    cases o with
    | none=>rfl
    | some x=>exact absurd rfl h4
   rw [on] at e'
   rcases jG_spec e' with ⟨z,_⟩ | ⟨_,z,_⟩ | ⟨_,_,z,_⟩ | ⟨_,_,_,_,z⟩ | ⟨_,_,_,xs',ms',ys',ps',_,_,_,_,z⟩
   ·exact absurd z c1
   ·exact absurd z c3
   ·exact absurd z c2
   ·cases z
   ·cases q:AnJ.cleanL ps' with
    | none=>rw [q] at z; cases z
    | some x=>rw [q] at z; cases z
end g_pathR
end
end An18
namespace An18
open PySem L2 An An10 An12
seal L2.PS L2.PSs L2.PE L2.PT L2.PW L2.PA L2.PG L2.PGs L2.PI L2.PFi L2.PC
def spNear (K:PySem.W.Frag):Sp:=fun vs H Q _=>∃ (p:Str) (ab am ay:Addr) (kb km ky:List (Key × V)) (LB LM LY:List Str) (B M Y:Str -> Option (List Str)),vs = [.str p,.ref ab,.ref am,.ref ay] /\ Tw K H ab am ay kb km ky LB LM LY B M Y /\ p.length <= 1000 /\ ∀ ss H',Same H H' -> AnS.Uni LB LM LY ss -> Q (.bl (AnS.stB (AnS.jG B M Y) p && AnS.blB (AnS.ST ss (AnS.jG B M Y)) p)) H'
section
variable {P:Program} {w:World} {K:PySem.W.Frag} {mg:Str -> Option Value} {base:Heap} {t1 t2:Tok}
theorem near_any (ss:List Str) (j:AnS.Js) (p:Str):(false != ((ss.filter fun q=>overB q p || overB p q).map fun q=>PyData.bool (AnS.stB j q)).any fun y=>PyData.eqv y (.bool true)) = AnS.blB (AnS.ST ss j) p:=by
 unfold AnS.blB AnS.ST
 rw [List.any_map,List.any_filter,List.any_filter,Bool.false_bne]
 refine congrArg (fun f=>ss.any f) (funext fun q=>?_)
 show ((overB q p || overB p q) && PyData.eqv (.bool (AnS.stB j q)) (.bool true)) = _
 rw [Bool.and_comm]
 cases AnS.stB j q <;> rfl
namespace g_near
abbrev st:Stmt:=top 30
theorem sc:FnScope ["_law_path_here","_law_base","_law_mine","_law_yours","_law_paths","_law_near"] ["_law_path_here","_law_base","_law_mine","_law_yours"] (zD st):=⟨rfl,rfl,rfl,by decide +kernel,rfl,by decide +kernel,by decide +kernel⟩
theorem ok {f:Addr} {fd:FuncData} (F:Fun K "_law_in_the_way" "_law_in_the_way" st f fd) (T:Txt K mg t1 t2) (C__law_over:Cal P w K mg base 1 "_law_over" ["_law_one","_law_other"] spOver) (C__law_stands:Cal P w K mg base 8 "_law_stands" ["_law_path_here","_law_base","_law_mine","_law_yours"] (spStands K)):FnOk P w K mg base CX0 9 f fd ["_law_path_here","_law_base","_law_mine","_law_yours"] (spNear K):=by
 refine F.ok sc (fun vs H Q E h=>?_) (fun cdv A outer s H vs Q E hr h=>?_)
 ·obtain ⟨p,ab,am,ay,kb,km,ky,LB,LM,LY,B,M,Y,rfl,_⟩:=h
  rfl
 ·obtain ⟨p,ab,am,ay,kb,km,ky,LB,LM,LY,B,M,Y,rfl,tw,pl,k⟩:=h
  refine ⟨_,(zB (zO (i:=4) sc.nd rfl (Or.inl rfl) (zQ (xC rfl) (by rfl) T.sorted PyProof.Rows.boot_sorted (zA (zV (call_set (K:=K) rfl) (by rfl) T.set PyProof.Rows.boot_set (zA (zU (jR (K:=K)) (zU (jR (K:=K)) (zV (yO rfl) (by rfl) T.list PyProof.Rows.boot_list (zA (pv 1) zC)) (zV (yO rfl) (by rfl) T.list PyProof.Rows.boot_list (zA (pv 2) zC))) (zV (yO rfl) (by rfl) T.list PyProof.Rows.boot_list (zA (pv 3) zC))) zC)) zC)))
   (zB (ps_setc (sc:=zD st) (N:=["_law_path_here","_law_base","_law_mine","_law_yours","_law_paths","_law_near"]) (N':=["_law_one","_law_path_here"]) (src:=[none,some 0]) ⟨by decide +kernel,rfl,rfl,by decide +kernel,by decide +kernel,by decide +kernel,by decide +kernel⟩ rfl rfl rfl (z8 (pv 4)) (fun _ _ _ _=>(zM (i:=0) (show (["_law_one","_law_path_here"]:List Str).Nodup by decide +kernel) rfl (Or.inl rfl))) (fun _ _ _ _=>(pf_one (PW.pt (xH (yC (K:=K) (zJ C__law_over (hr.mono (by decide)) (zA (pv 0) (zA (pv 1) zC))) (fun _=>rfl)) (y6 (yC (K:=K) (zJ C__law_over (hr.mono (by decide)) (zA (pv 1) (zA (pv 0) zC))) (fun _=>rfl))))))) (fun _ _ _ _=>(pv 0)) sc.nd rfl (Or.inl rfl) (k:=5))
   (zB (z5 (pt_not (yC (K:=K) (zJ C__law_stands (hr.mono (by decide)) (zA (pv 0) (zA (pv 1) (zA (pv 2) (zA (pv 3) zC))))) (fun _=>rfl)))
    (zE (zP xW))
    zT)
   (zE (zP (yM (op_inD (K:=K) hr.units) xW (y4 (sc:=zD st) (N:=["_law_path_here","_law_base","_law_mine","_law_yours","_law_paths","_law_near"]) (N':=["_law_one","_law_base","_law_mine","_law_yours"]) (src:=[none,some 1,some 2,some 3]) ⟨by decide +kernel,rfl,rfl,by decide +kernel,by decide +kernel,by decide +kernel,by decide +kernel⟩ rfl rfl rfl (z8 (pv 5)) (fun _ _ _ _=>(zM (i:=0) (show (["_law_one","_law_base","_law_mine","_law_yours"]:List Str).Nodup by decide +kernel) rfl (Or.inl rfl))) (fun _ _ _ _=>xX) (fun _ _ _ _=>(zJ C__law_stands (hr.mono (by decide)) (zA (pv 0) (zA (pv 1) (zA (pv 2) (zA (pv 3) zC))))))) (by with_unfolding_all rfl))))))),?_⟩
  have th:=tw.th
  have ll:=th.len
  have e1:=th.fb.is.kV
  have e2:=th.fm.is.kV
  have e3:=th.fy.is.kV
  refine ⟨_,rfl,ab,kb,rfl,.inl tw.hb,fun p1 np1=>?_⟩
  rw [e1]
  have s2:=same_upd (o:=.lst (LB.map V.str)) np1
  refine ⟨_,rfl,am,km,rfl,.inl (s2 _ _ tw.hm),fun p2 np2=>?_⟩
  rw [e2]
  have s3:=s2.trans (same_upd (o:=.lst (LM.map V.str)) np2)
  refine ⟨p1,p2,LB.map V.str,LM.map V.str,rfl,rfl,SqL.of (by rw [zF (zG upd_same np2),upd_same]),SqL.of upd_same,le_line (by rw [List.length_map,List.length_map]; omega),fun p3 np3=>?_⟩
  have s4:=s3.trans (same_upd (o:=.lst (LB.map V.str ++ LM.map V.str)) np3)
  refine ⟨_,rfl,ay,ky,rfl,.inl (s4 _ _ tw.hy),fun p4 np4=>?_⟩
  rw [e3]
  have s5:=s4.trans (same_upd (o:=.lst (LY.map V.str)) np4)
  refine ⟨p3,p4,LB.map V.str ++ LM.map V.str,LY.map V.str,rfl,rfl,SqL.of (by rw [zF (zG upd_same np4),upd_same]),SqL.of upd_same,le_line (by rw [List.length_append,List.length_map,List.length_map,List.length_map]; omega),fun p5 np5=>?_⟩
  have em:LB.map V.str ++ LM.map V.str ++ LY.map V.str = (LB ++ LM ++ LY).map V.str:=by rw [List.map_append,List.map_append]
  rw [em]
  have s6:=s5.trans (same_upd (o:=.lst ((LB ++ LM ++ LY).map V.str)) np5)
  have ul:=AxS.uniq_len _ (LB ++ LM ++ LY) rfl
  rw [List.length_append,List.length_append] at ul
  refine ⟨p5,LB ++ LM ++ LY,rfl,.inl (SqL.of upd_same),by rw [List.length_append,List.length_append]; omega,fun p6 np6=>?_⟩
  have s7:=s6.trans (same_upd (o:=TxHO P w p6 (AxS.uniq (LB ++ LM ++ LY))) np6)
  refine ⟨p6,_,rfl,upd_same,by omega,fun l ss nl pm so=>?_⟩
  have un:=AnS.uni_of2 pm so
  have sl:ss.length <= LB.length + LM.length + LY.length:=by rw [pm.length_eq]; omega
  have s8:=s7.trans (same_upd (o:=.lst (ss.map V.str)) nl)
  have okp:∀ q ∈ ss,okPa 1000 q:=fun q hq=>th.path q ((un.mem q).mp hq)
  have take1:∀ {i:Nat} {q:Str},ss[i]? = some q -> (ss.take (i + 1)).filter (fun q=>overB q p || overB p q) = (ss.take i).filter (fun q=>overB q p || overB p q) ++ (if (overB q p || overB p q) = true then [q] else []):=fun {i q} hx=>by
   rw [List.take_add_one,hx,List.filter_append]
   show _ ++ [q].filter _ = _
   rw [List.filter_cons]
   rfl
  refine ⟨_,rfl,l,rfl,⟨_,SqL.of upd_same⟩,comp_list (K:=K) (a:=l) (xs:=ss.map V.str) (fun i ys σ H2=>∃ o,σ = [o,some (.str p)] /\ Same H H2 /\ SqL K H2 l (ss.map V.str) /\ ys.length <= i /\ ys = ((ss.take i).filter fun q=>overB q p || overB p q).map V.str) ⟨none,rfl,s8,SqL.of upd_same,Nat.le_refl _,rfl⟩ (le_line (by rw [List.length_map]; omega)) ?_ ?_ ?_⟩
  ·rintro i ys σ H2 hi ⟨o,rfl,e2,hl2,yl,_⟩
   exact ⟨hl2,yl⟩
  ·rintro i y ys σ H2 hy ⟨o,rfl,e2,hl2,yl,rfl⟩
   rw [List.getElem?_map] at hy
   cases q:ss[i]? with
   | none=>rw [q] at hy; cases hy
   | some z =>
    rw [q] at hy
    have hy:V.str z = y:=Option.some.inj hy
    subst hy
    have zl:=(okp z (List.mem_of_getElem? q)).1
    have tk:=take1 q
    refine ⟨_,rfl,_,rfl,z,p,rfl,zl,pl,_,rfl,ite2 (fun c=>iteT ⟨_,rfl,_,rfl,e2,hl2,?_,?_⟩) (fun c=>⟨_,rfl,_,rfl,p,z,rfl,pl,zl,_,rfl,ite2 (fun c2=>⟨_,rfl,_,rfl,e2,hl2,?_,?_⟩) (fun c2=>⟨_,rfl,e2,hl2,?_,?_⟩)⟩)⟩
    ·rw [List.length_append]; exact Nat.succ_le_succ yl
    ·rw [tk,if_pos (by rw [c]; rfl),List.map_append]; rfl
    ·rw [List.length_append]; exact Nat.succ_le_succ yl
    ·rw [tk,if_pos (by rw [c2,Bool.or_true]),List.map_append]; rfl
    ·exact Nat.le_succ_of_le yl
    ·rw [tk,if_neg (by rw [Bool.or_eq_true]; exact fun z=>z.elim c c2),List.append_nil]
  ·rintro ys σ H2 ⟨o,rfl,e2,hl2,yl,rfl⟩ r nr
   rw [List.length_map,List.take_length]
   have u3:=same_upd (o:=.lst ((ss.filter fun q=>overB q p || overB p q).map V.str)) nr
   have hr3:SqL K (upd H2 r (.lst ((ss.filter fun q=>overB q p || overB p q).map V.str))) r ((ss.filter fun q=>overB q p || overB p q).map V.str):=SqL.of upd_same
   have e3:=e2.trans u3
   clear u3
   generalize upd H2 r (.lst ((ss.filter fun q=>overB q p || overB p q).map V.str)) = H3 at hr3 e3 ⊢
   refine ⟨_,rfl,_,rfl,_,rfl,_,rfl,p,ab,am,ay,kb,km,ky,LB,LM,LY,B,M,Y,rfl,tw.same e3,fun H4 s4=>⟨_,rfl,ite2 (fun c=>?_) (fun c=>?_)⟩⟩
   ·rw [Bool.not_eq_true'] at c
    have kk:=k ss _ (e3.trans s4) un
    rw [c] at kk
    exact kk
   ·rw [Bool.not_eq_true,Bool.not_eq_false'] at c
    have fl:=List.length_filter_le (fun q=>overB q p || overB p q) ss
    have hr4:=s4.seq hr3
    have e4:=e3.trans s4
    refine ⟨_,rfl,r,rfl,⟨_,hr4⟩,yK (K:=K) (a:=r) (xs:=(ss.filter fun q=>overB q p || overB p q).map V.str) (fun i zs σ H5=>∃ o,σ = [o,some (.ref ab),some (.ref am),some (.ref ay)] /\ Same H4 H5 /\ zs.length <= i /\ DtAll K H5 (((ss.filter fun q=>overB q p || overB p q).take i).map fun q=>.bool (AnS.stB (AnS.jG B M Y) q)) zs) ⟨none,rfl,Same.refl _,Nat.le_refl _,rfl⟩ (le_line (by rw [List.length_map]; omega)) ?_ ?_ ?_⟩
    ·rintro i zs σ H5 hi ⟨o,rfl,s5,zl,_⟩
     exact ⟨s5.seq hr4,zl⟩
    ·rintro i x zs σ H5 hx ⟨o,rfl,s5,zl,hz⟩
     rw [List.getElem?_map] at hx
     cases q:(ss.filter fun q=>overB q p || overB p q)[i]? with
     | none=>rw [q] at hx; cases hx
     | some z =>
      rw [q] at hx
      have hx:V.str z = x:=Option.some.inj hx
      subst hx
      refine ⟨_,rfl,_,rfl,_,rfl,_,rfl,z,ab,am,ay,kb,km,ky,LB,LM,LY,B,M,Y,rfl,tw.same (e4.trans s5),fun H6 s6=>⟨_,rfl,s5.trans s6,by rw [List.length_append]; exact Nat.succ_le_succ zl,?_⟩⟩
      rw [List.take_add_one,q,List.map_append]
      exact DtAll.append (DtAll.same s6 _ _ hz) ⟨_,_,rfl,rfl,rfl⟩
    ·rintro zs σ H5 ⟨o,rfl,s5,zl,hz⟩ p9 np9
     rw [List.length_map,List.take_length] at hz
     have u6:=same_upd (o:=.lst zs) np9
     refine ⟨.bool true,_,rfl,⟨p9,zs,rfl,SqL.of upd_same,DtAll.same u6 _ _ hz⟩,(AnJ.lay_all (n:=0) fun x _=>⟨rfl,Nat.le_refl _⟩).1,rfl,by decide,?_⟩
     rw [near_any]
     have kk:=k ss _ ((e4.trans s5).trans u6) un
     rw [c] at kk
     exact kk
end g_near
end
end An18
namespace An18
open PySem L2 An An10 An12
seal L2.PS L2.PSs L2.PE L2.PT L2.PW L2.PA L2.PG L2.PGs L2.PI L2.PFi L2.PC
def spRow (K:PySem.W.Frag):Sp:=fun vs H Q _=>∃ (t:Addr) (p:Str) (ab am ay:Addr) (kb km ky:List (Key × V)) (LB LM LY:List Str) (B M Y:Str -> Option (List Str)) (ss:List Str),vs = [.ref t,.ref ab,.ref am,.ref ay] /\ Dt K H (AnS.rowD B M Y p) (.ref t) /\ Tw K H ab am ay kb km ky LB LM LY B M Y /\ okPa 1000 p /\ AnS.Uni LB LM LY ss /\ p ∈ AnS.LC ss (AnS.jG B M Y) /\ ∀ H',Same H H' -> Q (.bl true) H'
section
variable {P:Program} {w:World} {K:PySem.W.Frag} {mg:Str -> Option Value} {base:Heap} {t1 t2:Tok}
theorem neN {x:Option (List Str)} (c:(!PyData.eqv (AnS.oD x) (AnS.oD x)) = true):False:=by
 rw [AnS.eqv_oD,decide_eq_true rfl] at c
 cases c
namespace g_row
abbrev st:Stmt:=top 31
theorem sc:FnScope ["_law_row","_law_base","_law_mine","_law_yours","_law_path_here","_law_one","_law_two","_law_three"] ["_law_row","_law_base","_law_mine","_law_yours"] (zD st):=⟨rfl,rfl,rfl,by decide +kernel,rfl,by decide +kernel,by decide +kernel⟩
theorem ok {f:Addr} {fd:FuncData} (F:Fun K "_law_row_right" "_law_row_right" st f fd) (T:Txt K mg t1 t2) (C_joined_lines:Cal P w K mg base 7 "joined_lines" ["base","mine","yours"] (AnJ.spJoined K)) (C_clean_lines:Cal P w K mg base 1 "clean_lines" ["parts"] (AnJ.spClean K)) (C__law_in_the_way:Cal P w K mg base 9 "_law_in_the_way" ["_law_path_here","_law_base","_law_mine","_law_yours"] (spNear K)):FnOk P w K mg base CX0 10 f fd ["_law_row","_law_base","_law_mine","_law_yours"] (spRow K):=by
 refine F.ok sc (fun vs H Q E h=>?_) (fun cdv A outer s H vs Q E hr h=>?_)
 ·obtain ⟨t,p,ab,am,ay,kb,km,ky,LB,LM,LY,B,M,Y,ss,rfl,_⟩:=h
  rfl
 ·obtain ⟨t,p,ab,am,ay,kb,km,ky,LB,LM,LY,B,M,Y,ss,rfl,dr,tw,op,un,hp,k⟩:=h
  refine ⟨_,(zB (z5 (PW.pt (xH (pt_not (yC (K:=K) (zQ (call_isinstD (K:=K)) (by rfl) T.isinstance PyProof.Rows.boot_isinstance (zA (pv 0) (zA (pe_bltn (v:=.ty "tuple") rfl T.tuple PyProof.Rows.boot_tuple rfl) zC))) (fun _=>rfl))) (y6 (zI op_ne (zQ zN (by rfl) T.len PySem.boot_len (zA (pv 0) zC)) zH (zK _)))))
    (zE (zP xW))
    zT)
   (zB (ps_asg (pv 0) (jN rfl (zY (zM (i:=4) sc.nd rfl (Or.inl rfl)) (zY (zM (i:=5) sc.nd rfl (Or.inl rfl)) (zY (zM (i:=6) sc.nd rfl (Or.inl rfl)) (zY (zM (i:=7) sc.nd rfl (Or.inl rfl)) qE))))))
   (zB (z5 (PW.pt (xH (zI (jF hr.units) (pv 5) (yD hr.units1 (pv 1) (pv 4) ⟨rfl,rfl,rfl,rfl⟩) (zK _)) (xH (zI (jF hr.units) (pv 6) (yD hr.units1 (pv 2) (pv 4) ⟨rfl,rfl,rfl,rfl⟩) (zK _)) (y6 (zI (jF hr.units) (pv 7) (yD hr.units1 (pv 3) (pv 4) ⟨rfl,rfl,rfl,rfl⟩) (zK _))))))
    (zE (zP xW))
    zT)
   (zB (z5 (PW.pt (pw_and (zI (jF hr.units) (pv 5) (pv 6) (zK _)) (pw_and (zI (jF hr.units) (pv 5) (pv 7) (zK _)) (jQ (zI (jF hr.units) (pv 6) (pv 7) (zK _))))))
    (zE (z5 (PW.pt (xH (zI xE (pv 5) yE (zK _)) (xH (zI xE (pv 6) yE (zK _)) (xH (zI xE (pv 7) yE (zK _)) (y6 (zI xE (zJ C_clean_lines (hr.mono (by decide)) (zA (zJ C_joined_lines (hr.mono (by decide)) (zA (pv 5) (zA (pv 6) (zA (pv 7) zC)))) zC)) yE (zK _)))))))
     (zE (zP xW))
     zT))
    zT)
   (zE (zP (zJ C__law_in_the_way (hr.mono (by decide)) (zA (pv 4) (zA (pv 1) (zA (pv 2) (zA (pv 3) zC))))))))))),?_⟩
  obtain ⟨tr,ws,e0,hw,w0,r0,rfl,q0,w1,r1,rfl,q1,w2,r2,rfl,q2,w3,r3,rfl,q3,q4⟩:=(show ∃ tr ws,V.ref t = .ref tr /\ SqT K H tr ws /\ DtAll K H [.str p,AnS.oD (B p),AnS.oD (M p),AnS.oD (Y p)] ws from dr)
  cases e0
  have q0:w0 = .str p:=q0
  have q4:r3 = []:=q4
  subst q0 q4
  have ob:=AnS.shaped_oD (tw.sb.okO p)
  have om:=AnS.shaped_oD (tw.sm.okO p)
  have oy:=AnS.shaped_oD (tw.sy.okO p)
  have sp:=List.mem_filter.mp hp
  have rest:AnS.jG B M Y p ≠ none -> ∀ H',Same H H' -> ∃ (p':Str) (ab' am' ay':Addr) (kb km ky:List (Key × V)) (LB LM LY:List Str) (B M Y:Str -> Option (List Str)),[V.str p,.ref ab,.ref am,.ref ay] = [.str p',.ref ab',.ref am',.ref ay'] /\ Tw K H' ab' am' ay' kb km ky LB LM LY B M Y /\ p'.length <= 1000 /\ ∀ ss H'',Same H' H'' -> AnS.Uni LB LM LY ss -> Q (.bl (AnS.stB (AnS.jG B M Y) p' && AnS.blB (AnS.ST ss (AnS.jG B M Y)) p')) H'':=fun nj H' s'=>by
   refine ⟨p,ab,am,ay,kb,km,ky,LB,LM,LY,B,M,Y,rfl,tw.same s',op.1,fun ss2 H2 s2 un2=>?_⟩
   cases un2.uniq un
   have z:=sp.2
   have ni:(AnS.jG B M Y p).isNone = false:=by
    cases q:AnS.jG B M Y p with
    | none=>exact absurd q nj
    | some x=>rfl
   rw [ni,Bool.false_or] at z
   rw [z]
   exact k _ (s'.trans s2)
  have jsome:∀ {r},AnS.J3 (B p) (M p) (Y p) (some r) -> AnS.jG B M Y p ≠ none:=fun {r} hj z=>by
   have:=AnS.jG_is hj
   rw [z] at this
   cases this
  have jBM:B p = M p -> AnS.jG B M Y p ≠ none:=fun z=>by
   by_cases h:M p = Y p
   ·exact jsome (.inl ⟨h,rfl⟩)
   ·exact jsome (.inr (.inl ⟨h,z.symm,rfl⟩))
  have jMY:M p = Y p -> AnS.jG B M Y p ≠ none:=fun z=>jsome (.inl ⟨z,rfl⟩)
  have jBY:B p = Y p -> AnS.jG B M Y p ≠ none:=fun z=>by
   by_cases h:M p = Y p
   ·exact jsome (.inl ⟨h,rfl⟩)
   ·exact jsome (.inr (.inr (.inl ⟨h,fun q=>h (q.trans z),z.symm,rfl⟩)))
  refine ⟨_,rfl,_,_,_,_,rfl,dr.dw,T.is (by simp [kinds]),true,rfl,iteNF ⟨_,rfl,t,_,rfl,.inr hw,rfl,_,rfl,ite2 (fun c2=>(by simp at c2)) (fun c2=>?_)⟩⟩
  refine ⟨_,rfl,t,_,rfl,hw,rfl,_,_,rfl,_,_,rfl,_,_,rfl,_,_,rfl,rfl,?_⟩
  refine ⟨_,rfl,_,rfl,ab,rfl,.inl ⟨kb,.inl tw.hb⟩,_,rfl,_,DGet.k (k:=.inr p) tw.hb,AnS.oD (B p),AnS.oD (B p),q1,tw.th.fb.get p,ob,ob,_,rfl,ite2 (fun c=>(neN c).elim) (fun c=>?_)⟩
  refine ⟨_,rfl,_,rfl,am,rfl,.inl ⟨km,.inl tw.hm⟩,_,rfl,_,DGet.k (k:=.inr p) tw.hm,AnS.oD (M p),AnS.oD (M p),q2,tw.th.fm.get p,om,om,_,rfl,ite2 (fun c=>(neN c).elim) (fun c=>?_)⟩
  refine ⟨_,rfl,_,rfl,ay,rfl,.inl ⟨ky,.inl tw.hy⟩,_,rfl,_,DGet.k (k:=.inr p) tw.hy,AnS.oD (Y p),AnS.oD (Y p),q3,tw.th.fy.get p,oy,oy,_,rfl,ite2 (fun c=>(neN c).elim) (fun c=>?_)⟩
  have eqO:∀ {x y:Option (List Str)},¬ (!PyData.eqv (AnS.oD x) (AnS.oD y)) = true -> x = y:=fun {x y} h=>by
   rw [AnS.eqv_oD,Bool.not_eq_true,Bool.not_eq_false'] at h
   exact of_decide_eq_true h
  have neO:∀ {x y:Option (List Str)},(!PyData.eqv (AnS.oD x) (AnS.oD y)) = true -> x ≠ y:=fun {x y} h=>by
   rw [AnS.eqv_oD,Bool.not_eq_true'] at h
   exact of_decide_eq_false h
  refine ⟨_,rfl,_,rfl,AnS.oD (B p),AnS.oD (M p),q1,q2,ob,om,_,rfl,ite2 (fun c1=>?_) (fun c1=>iteF ⟨_,rfl,_,rfl,_,rfl,_,rfl,rest (jBM (eqO c1)) H (Same.refl _)⟩)⟩
  refine ⟨_,rfl,_,rfl,AnS.oD (B p),AnS.oD (Y p),q1,q3,ob,oy,_,rfl,ite2 (fun c2=>?_) (fun c2=>iteF ⟨_,rfl,_,rfl,_,rfl,_,rfl,rest (jBY (eqO c2)) H (Same.refl _)⟩)⟩
  refine ⟨_,rfl,_,rfl,AnS.oD (M p),AnS.oD (Y p),q2,q3,om,oy,_,rfl,ite2 (fun c3=>?_) (fun c3=>⟨_,rfl,_,rfl,_,rfl,_,rfl,rest (jMY (eqO c3)) H (Same.refl _)⟩)⟩
  have n1:=neO c1
  have n2:=neO c2
  have n3:=neO c3
  have tt:=k _ (Same.refl _)
  refine ⟨_,rfl,rfl,_,rfl,ite2 (fun a1=>iteT tt) (fun a1=>⟨_,rfl,rfl,_,rfl,ite2 (fun a2=>iteT tt) (fun a2=>⟨_,rfl,rfl,_,rfl,ite2 (fun a3=>iteT tt) (fun a3=>?_)⟩)⟩)⟩
  have nb:B p ≠ none:=fun z=>a1 (decide_eq_true ((s_at.non_iff q1).mpr z))
  have nm:M p ≠ none:=fun z=>a2 (decide_eq_true ((s_at.non_iff q2).mpr z))
  have ny:Y p ≠ none:=fun z=>a3 (decide_eq_true ((s_at.non_iff q3).mpr z))
  obtain ⟨xs,ex⟩:=Option.ne_none_iff_exists'.mp nb
  obtain ⟨ms,em⟩:=Option.ne_none_iff_exists'.mp nm
  obtain ⟨ys,ey⟩:=Option.ne_none_iff_exists'.mp ny
  have okj:=AnS.Few.okJ tw.sb tw.sm tw.sy p xs ms ys ex em ey
  rw [ex] at q1
  rw [em] at q2
  rw [ey] at q3
  obtain ⟨qb,rfl,sb⟩:=s_at.tup_of q1
  obtain ⟨qm,rfl,sm⟩:=s_at.tup_of q2
  obtain ⟨qy,rfl,sy⟩:=s_at.tup_of q3
  refine ⟨_,rfl,_,rfl,_,rfl,qb,qm,qy,xs,ms,ys,rfl,sb,sm,sy,okj,fun l ps H1 s1 nl jn pa=>?_⟩
  have okp:=jn.okPs okj
  have hj:AnS.J3 (B p) (M p) (Y p) ((AnJ.cleanL ps).map some):=.inr (.inr (.inr (.inr ⟨n3,Ne.symm n1,Ne.symm n2,xs,ms,ys,ps,ex,em,ey,jn,rfl⟩)))
  refine ⟨l,ps,rfl,pa.dt,okp.1,fun x hx=>(okp.2 _ hx).2,fun e H2 s2=>⟨rfl,_,rfl,iteY rfl (k _ (s1.trans s2))⟩,fun ls e q H2 s2 hp'=>⟨rfl,_,rfl,iteN (fun z=>(nomatch z)) ⟨_,rfl,_,rfl,_,rfl,_,rfl,rest ?_ H2 (s1.trans s2)⟩⟩⟩
  rw [e] at hj
  exact jsome hj
end g_row
end
end An18
namespace L2
open PySem PySem.Spec PyProof.Rows
section
variable {X:Cx} {K:PySem.W.Frag}
theorem op_ninD (hu:X.A.units + 64 < cLine) (hK:X.K = K:=by rfl):OpR X (compareOp .NotIn) (rInD K false true):=by
 subst hK
 intro pins s σ H x y v u Q I rx ry h
 obtain ⟨d,xs,h1,h2,h3,h4,h5,q⟩:=h
 obtain ⟨as,r1⟩:=Dt.reads I d x v h1 rx
 obtain ⟨bs,r2⟩:=Dt.reads I _ y u h2 ry
 have hm:min (PyData.depthAll xs) d.depth <= d.depth:=Nat.min_le_right _ _
 exact SeqAt.notIn_list_reads r2 r1 h3 h4 (by omega) ⟨.bl _,H,I,rfl,by simpa using q⟩
end
end L2
namespace An18
open PySem L2 An An10 An12
seal L2.PS L2.PSs L2.PE L2.PT L2.PW L2.PA L2.PG L2.PGs L2.PI L2.PFi L2.PC
def spRight (K:PySem.W.Frag):Sp:=fun vs H Q _=>∃ (t ab am ay:Addr) (kb km ky:List (Key × V)) (LB LM LY:List Str) (B M Y:Str -> Option (List Str)) (ss:List Str),vs = [.ref t,.ref ab,.ref am,.ref ay] /\ Tw K H ab am ay kb km ky LB LM LY B M Y /\ AnS.Uni LB LM LY ss /\ AnS.ResAt K H t ss (AnS.jG B M Y) B M Y /\ (∀ p,AnS.okO ((AnS.jG B M Y p).getD none)) /\ ∀ H',Same H H' -> Q (.bl true) H'
theorem LF_mem {ss:List Str} {j:AnS.Js} {p:Str} (h:p ∈ AnS.LF ss j):p ∈ ss /\ AnS.stB j p = true /\ AnS.blB (AnS.ST ss j) p = false:=by
 obtain ⟨a,b⟩:=List.mem_filter.mp h
 obtain ⟨c,d⟩:=List.mem_filter.mp a
 exact ⟨c,d,by rw [Bool.not_eq_true'] at b; exact b⟩
theorem LF_LC {ss:List Str} {j:AnS.Js} {p:Str} (h:p ∈ AnS.LC ss j):p ∉ AnS.LF ss j:=fun z=>by
 obtain ⟨a,b,c⟩:=LF_mem z
 have:=(List.mem_filter.mp h).2
 rw [AnS.st_some b,b,c] at this
 cases this
theorem LF_free {ss:List Str} {j:AnS.Js} {p q:Str} (h:p ∈ AnS.LF ss j) (h':q ∈ AnS.LF ss j):overB p q = false:=by
 obtain ⟨a,b,c⟩:=LF_mem h
 obtain ⟨a',b',c'⟩:=LF_mem h'
 exact (AnS.bl_false.mp c q (List.mem_filter.mpr ⟨a',b'⟩)).2
theorem LF_val {ss:List Str} {j:AnS.Js} {p:Str} (hs:p ∈ ss) (n:p ∉ AnS.LC ss j):j p = some (if p ∈ AnS.LF ss j then (j p).getD none else none):=by
 have z:¬ ((j p).isNone || (AnS.stB j p && AnS.blB (AnS.ST ss j) p)) = true:=fun z=>n (List.mem_filter.mpr ⟨hs,z⟩)
 rw [Bool.or_eq_true,not_or] at z
 cases q:j p with
 | none=>rw [q] at z; exact absurd rfl z.1
 | some o =>
  cases o with
  | none =>
   split <;> rfl
  | some ls =>
   have st:AnS.stB j p = true:=by unfold AnS.stB; rw [q]
   have bl:AnS.blB (AnS.ST ss j) p = false:=by
    cases w:AnS.blB (AnS.ST ss j) p with
    | false=>rfl
    | true=>exact absurd (by rw [st,w]; rfl) z.2
   have hm:p ∈ AnS.LF ss j:=List.mem_filter.mpr ⟨List.mem_filter.mpr ⟨hs,st⟩,by show (!AnS.blB (AnS.ST ss j) p) = true; rw [bl]; rfl⟩
   rw [if_pos hm]
   rfl
section
variable {P:Program} {w:World} {K:PySem.W.Frag} {mg:Str -> Option Value} {base:Heap} {t1 t2:Tok}
theorem any_str (L:List Str) (p:Str):((L.map PyData.str).any fun y=>PyData.eqv y (.str p)) = decide (p ∈ L):=by
 rw [List.any_map,Bool.eq_iff_iff,List.any_eq_true,decide_eq_true_iff]
 constructor
 ·rintro ⟨x,hx,h⟩
  have h:(x == p) = true:=h
  rw [← beq_iff_eq.mp h]
  exact hx
 ·intro h
  exact ⟨p,h,(beq_self_eq_true p:(p == p) = true)⟩
namespace g_right
abbrev st:Stmt:=top 33
theorem sc:FnScope ["_law_found","_law_base","_law_mine","_law_yours","_law_files","_law_clashes","_law_paths","_law_row","_law_path_here","_law_there","_law_right_here","_law_one"] ["_law_found","_law_base","_law_mine","_law_yours"] (zD st):=⟨rfl,rfl,rfl,by decide +kernel,rfl,by decide +kernel,by decide +kernel⟩
theorem ok {f:Addr} {fd:FuncData} (F:Fun K "_law_right" "_law_right" st f fd) (T:Txt K mg t1 t2) (C__law_over:Cal P w K mg base 1 "_law_over" ["_law_one","_law_other"] spOver) (C__law_row_right:Cal P w K mg base 10 "_law_row_right" ["_law_row","_law_base","_law_mine","_law_yours"] (spRow K)) (C__law_path_right:Cal P w K mg base 8 "_law_path_right" ["_law_lines_here","_law_one","_law_mine","_law_yours"] (spRightP K)):FnOk P w K mg base CX0 11 f fd ["_law_found","_law_base","_law_mine","_law_yours"] (spRight K):=by
 refine F.ok sc (fun vs H Q E h=>?_) (fun cdv A outer s H vs Q E hr h=>?_)
 ·obtain ⟨t,ab,am,ay,kb,km,ky,LB,LM,LY,B,M,Y,ss,rfl,_⟩:=h
  rfl
 ·obtain ⟨t,ab,am,ay,kb,km,ky,LB,LM,LY,B,M,Y,ss,rfl,tw,un,res,oj,k⟩:=h
  refine ⟨_,(zB (ps_asg (pv 0) (jN rfl (zY (zM (i:=4) sc.nd rfl (Or.inl rfl)) (zY (zM (i:=5) sc.nd rfl (Or.inl rfl)) qE))))
   (zB (ps_setc (sc:=zD st) (N:=["_law_found","_law_base","_law_mine","_law_yours","_law_files","_law_clashes","_law_paths","_law_row","_law_path_here","_law_there","_law_right_here","_law_one"]) (N':=["_law_row"]) (src:=[none]) ⟨by decide +kernel,rfl,rfl,by decide +kernel,by decide +kernel,by decide +kernel,by decide +kernel⟩ rfl rfl rfl (z8 (pv 5)) (fun _ _ _ _=>(zM (i:=0) (show (["_law_row"]:List Str).Nodup by decide +kernel) rfl (Or.inl rfl))) (fun _ _ _ _=>xX) (fun _ _ _ _=>(zW (ix_tup:IxR _ (rIxT K)) (pv 0) zH (fun _ _=>rfl))) sc.nd rfl (Or.inl rfl) (k:=6))
   (zB (z5 (zI (jF hr.units) (pv 6) (zQ (xC rfl) (by rfl) T.sorted PyProof.Rows.boot_sorted (zA (zV (call_set (K:=K) rfl) (by rfl) T.set PyProof.Rows.boot_set (zA (pv 6) zC)) zC)) (zK _))
    (zE (zP (qD xW)))
    zT)
   (zB (xA PassesOwn.never rfl (z8 (pv 5)) (zM (i:=7) sc.nd rfl (Or.inl rfl))
    (zE (z5 (pt_not (yC (K:=K) (zJ C__law_row_right (hr.mono (by decide)) (zA (pv 7) (zA (pv 1) (zA (pv 2) (zA (pv 3) zC))))) (fun _=>rfl)))
     (zE (zP (qD xW)))
     zT)))
   (zB (xA PassesOwn.never rfl (z8 (zQ (xC rfl) (by rfl) T.sorted PyProof.Rows.boot_sorted (zA (zV (call_set (K:=K) rfl) (by rfl) T.set PyProof.Rows.boot_set (zA (zU (jR (K:=K)) (zU (jR (K:=K)) (zU (jR (K:=K)) (zV (yO rfl) (by rfl) T.list PyProof.Rows.boot_list (zA (pv 1) zC)) (zV (yO rfl) (by rfl) T.list PyProof.Rows.boot_list (zA (pv 2) zC))) (zV (yO rfl) (by rfl) T.list PyProof.Rows.boot_list (zA (pv 3) zC))) (zV (yO rfl) (by rfl) T.list PyProof.Rows.boot_list (zA (pv 4) zC))) zC)) zC))) (zM (i:=8) sc.nd rfl (Or.inr rfl))
    (zB (ps_setc (sc:=zD st) (N:=["_law_found","_law_base","_law_mine","_law_yours","_law_files","_law_clashes","_law_paths","_law_row","_law_path_here","_law_there","_law_right_here","_law_one"]) (N':=["_law_side_here","_law_path_here"]) (src:=[none,some 8]) ⟨by decide +kernel,rfl,rfl,by decide +kernel,by decide +kernel,by decide +kernel,by decide +kernel⟩ rfl rfl rfl (pi_tup (yA (zA (pv 4) (zA (pv 1) (zA (pv 2) (zA (pv 3) zC)))))) (fun _ _ _ _=>(zM (i:=0) (show (["_law_side_here","_law_path_here"]:List Str).Nodup by decide +kernel) rfl (Or.inl rfl))) (fun _ _ _ _=>xX) (fun _ _ _ _=>(yD hr.units1 (pv 0) (pv 1) ⟨rfl,rfl,rfl,rfl⟩)) sc.nd rfl (Or.inl rfl) (k:=9))
    (zB (zO (i:=10) sc.nd rfl (Or.inl rfl) (zJ C__law_path_right (hr.mono (by decide)) (zA (zW (ix_list:IxR _ (rIxL K)) (pv 9) zH (fun _ _=>rfl)) (zA (zW (ix_list:IxR _ (rIxL K)) (pv 9) zH (fun _ _=>rfl)) (zA (zW (ix_list:IxR _ (rIxL K)) (pv 9) zH (fun _ _=>rfl)) (zA (zW (ix_list:IxR _ (rIxL K)) (pv 9) zH (fun _ _=>rfl)) zC))))))
    (zE (z5 (PW.pt (xH (PW.pt (pw_and (zI (op_inD (K:=K) hr.units) (pv 8) (pv 6) (by with_unfolding_all rfl)) (jQ (zI (op_inZ hr.units) (pv 8) (pv 4) (by with_unfolding_all rfl))))) (y6 (PW.pt (pw_and (zI (op_ninD (K:=K) hr.units) (pv 8) (pv 6) (by with_unfolding_all rfl)) (jQ (pt_not (yC (K:=K) (pv 10) (fun _=>rfl)))))))))
     (zE (zP (qD xW)))
     zT)))))
   (zB (xA PassesOwn.never rfl (pi_keys (pe_frz (pv 4))) (zM (i:=11) sc.nd rfl (Or.inr rfl))
    (zE (z5 (zI (jF hr.units) (y4 (sc:=zD st) (N:=["_law_found","_law_base","_law_mine","_law_yours","_law_files","_law_clashes","_law_paths","_law_row","_law_path_here","_law_there","_law_right_here","_law_one"]) (N':=["_law_other","_law_one"]) (src:=[none,some 11]) ⟨by decide +kernel,rfl,rfl,by decide +kernel,by decide +kernel,by decide +kernel,by decide +kernel⟩ rfl rfl rfl (pi_keys (pv 4)) (fun _ _ _ _=>(zM (i:=0) (show (["_law_other","_law_one"]:List Str).Nodup by decide +kernel) rfl (Or.inl rfl))) (fun _ _ _ _=>(pf_one (yC (K:=K) (zJ C__law_over (hr.mono (by decide)) (zA (pv 1) (zA (pv 0) zC))) (fun _=>rfl)))) (fun _ _ _ _=>(pv 0))) (yG zC) (zK _))
     (zE (zP (qD xW)))
     zT)))
   (zE (zP (qD xW))))))))),?_⟩
  obtain ⟨af,ac,kf,ht,hf,df,a',xs,e',hsq,hdt⟩:=res
  cases e'
  have th:=tw.th
  have ll:=th.len
  generalize ej:AnS.jG B M Y = j at df hdt oj
  have xl:=hdt.length
  rw [List.length_map] at xl
  have sl:ss.length <= LB.length + LM.length + LY.length:=by
   have:=AnS.len_sub un.nd (An.uniq_nodup (LB ++ LM ++ LY)) fun p hp=>AnS.mem_uniq.mpr (by rw [List.mem_append,List.mem_append,or_assoc]; exact (un.mem p).mp hp)
   have:=AxS.uniq_len _ (LB ++ LM ++ LY) rfl
   rw [List.length_append,List.length_append] at this
   omega
  have lcl:(AnS.LC ss j).length <= ss.length:=List.length_filter_le _ _
  have lcs:=AnS.LC_sorted (j:=j) un.sorted un.nd
  have okp:∀ q ∈ ss,okPa 1000 q:=fun q hq=>th.path q ((un.mem q).mp hq)
  refine ⟨_,rfl,t,_,rfl,SqT.of ht,rfl,_,_,rfl,_,_,rfl,rfl,?_⟩
  refine ⟨_,rfl,ac,rfl,⟨_,hsq⟩,yK (K:=K) (a:=ac) (xs:=xs) (fun i ys σ H2=>∃ o,σ = [o] /\ Same H H2 /\ ys.length <= i /\ ys = ((AnS.LC ss j).take i).map V.str) ⟨none,rfl,Same.refl _,Nat.le_refl _,rfl⟩ (le_line (by omega)) ?_ ?_ ?_⟩
  ·rintro i ys σ H2 hi ⟨o,rfl,s2,yl,_⟩
   exact ⟨s2.seq hsq,yl⟩
  ·rintro i x ys σ H2 hx ⟨o,rfl,s2,yl,rfl⟩
   obtain ⟨p,ep,dp⟩:=AnJ.dts_get (DtAll.same s2 _ _ hdt) hx
   obtain ⟨tr,ws,rfl,hw,w0,r0,rfl,q0,_⟩:=(show ∃ tr ws,x = .ref tr /\ SqT K H2 tr ws /\ DtAll K H2 [.str p,AnS.oD (B p),AnS.oD (M p),AnS.oD (Y p)] ws from dp)
   have q0:w0 = .str p:=q0
   subst q0
   refine ⟨_,rfl,tr,_,_,_,rfl,rfl,hw,atI_zero _ _,_,rfl,s2,by rw [List.length_append]; exact Nat.succ_le_succ yl,?_⟩
   rw [List.take_add_one,ep,List.map_append]
   rfl
  rintro ys σ H2 ⟨o,rfl,s2,yl,rfl⟩ pl npl
  rw [xl,List.take_length]
  have u3:=same_upd (o:=.lst ((AnS.LC ss j).map V.str)) npl
  have hp3:SqL K (upd H2 pl (.lst ((AnS.LC ss j).map V.str))) pl ((AnS.LC ss j).map V.str):=SqL.of upd_same
  have e3:=s2.trans u3
  clear u3
  generalize upd H2 pl (.lst ((AnS.LC ss j).map V.str)) = H3 at hp3 e3 ⊢
  have us:AxS.uniq (AnS.LC ss j) = AnS.LC ss j:=An.uniq_self lcs.2
  refine ⟨_,rfl,_,rfl,pl,AnS.LC ss j,rfl,.inl hp3,by omega,fun p1 np1=>⟨p1,_,rfl,upd_same,by rw [us]; omega,fun l s2' nl pm so=>?_⟩⟩
  rw [us] at pm
  cases AnS.same_sorted (qS so) lcs.1 (pm.nodup_iff.mpr lcs.2) lcs.2 fun p=>pm.mem_iff
  have v4:=(same_upd (o:=TxHO P w p1 (AxS.uniq (AnS.LC ss j))) np1).trans (same_upd (o:=.lst ((AnS.LC ss j).map V.str)) nl)
  have shl:SeqAt.shaped (.list ((AnS.LC ss j).map .str)) = true:=(qA fun q hq=>(okp q (List.mem_filter.mp hq).1).2).1
  refine ⟨.list ((AnS.LC ss j).map .str),.list ((AnS.LC ss j).map .str),⟨pl,_,rfl,v4.seq hp3,DtAll.strs _⟩,⟨l,_,rfl,SqL.of upd_same,DtAll.strs _⟩,shl,shl,_,rfl,ite2 (fun c=>?_) (fun c=>?_)⟩
  ·have ev:PyData.eqv (.list ((AnS.LC ss j).map .str)) (.list ((AnS.LC ss j).map .str)) = decide (AnS.LC ss j = AnS.LC ss j):=qI _ _
   rw [ev,decide_eq_true rfl] at c
   cases c
  have e4:=e3.trans v4
  have hp4:=v4.seq hp3
  clear v4
  refine ⟨_,rfl,ac,rfl,⟨_,e4.seq hsq⟩,yP (K:=K) (a:=ac) (xs:=xs) (fun i σ H5=>∃ o7,σ = [some (.ref t),some (.ref ab),some (.ref am),some (.ref ay),some (.ref af),some (.ref ac),some (.ref pl),o7,none,none,none,none] /\ Same H H5 /\ SqL K H5 pl ((AnS.LC ss j).map V.str)) ⟨none,rfl,e4,hp4⟩ (fun i σ H5 _ ⟨_,_,e,_⟩=>e.seq hsq) ?_ ?_⟩
  ·rintro i x σ H5 hx ⟨o7,rfl,e5,hp5⟩
   obtain ⟨p,ep,dp⟩:=AnJ.dts_get (DtAll.same e5 _ _ hdt) hx
   obtain ⟨tr,_,rfl,_⟩:=(show ∃ tr ws,x = .ref tr /\ _ from dp)
   have pm:=List.mem_of_getElem? ep
   exact ⟨_,rfl,_,rfl,_,rfl,_,rfl,tr,p,ab,am,ay,kb,km,ky,LB,LM,LY,B,M,Y,ss,rfl,dp,tw.same e5,okp p (List.mem_filter.mp pm).1,un,by rw [ej]; exact pm,fun H6 s6=>⟨_,rfl,iteNF ⟨_,rfl,e5.trans s6,s6.seq hp5⟩⟩⟩
  rintro σ H5 ⟨o7,rfl,e5,hp5⟩
  have tw5:=tw.same e5
  have hf5:=e5 _ _ hf
  have lfl:(AnS.LF ss j).length <= ss.length:=Nat.le_trans (List.length_filter_le _ _) (List.length_filter_le _ _)
  have x1:=th.fb.is.kV
  have x2:=th.fm.is.kV
  have x3:=th.fy.is.kV
  have x4:=df.kV
  refine ⟨_,rfl,ab,kb,rfl,.inl tw5.hb,fun p1 np1=>?_⟩
  rw [x1]
  have s2:=same_upd (o:=.lst (LB.map V.str)) np1
  refine ⟨_,rfl,am,km,rfl,.inl (s2 _ _ tw5.hm),fun p2 np2=>?_⟩
  rw [x2]
  have s3:=s2.trans (same_upd (o:=.lst (LM.map V.str)) np2)
  refine ⟨p1,p2,LB.map V.str,LM.map V.str,rfl,rfl,SqL.of (by rw [zF (zG upd_same np2),upd_same]),SqL.of upd_same,le_line (by rw [List.length_map,List.length_map]; omega),fun p3 np3=>?_⟩
  have s4:=s3.trans (same_upd (o:=.lst (LB.map V.str ++ LM.map V.str)) np3)
  refine ⟨_,rfl,ay,ky,rfl,.inl (s4 _ _ tw5.hy),fun p4 np4=>?_⟩
  rw [x3]
  have s5:=s4.trans (same_upd (o:=.lst (LY.map V.str)) np4)
  refine ⟨p3,p4,LB.map V.str ++ LM.map V.str,LY.map V.str,rfl,rfl,SqL.of (by rw [zF (zG upd_same np4),upd_same]),SqL.of upd_same,le_line (by rw [List.length_append,List.length_map,List.length_map,List.length_map]; omega),fun p5 np5=>?_⟩
  have s6:=s5.trans (same_upd (o:=.lst (LB.map V.str ++ LM.map V.str ++ LY.map V.str)) np5)
  refine ⟨_,rfl,af,kf,rfl,.inl (s6 _ _ hf5),fun p6 np6=>?_⟩
  rw [x4]
  have s7:=s6.trans (same_upd (o:=.lst ((AnS.LF ss j).map V.str)) np6)
  refine ⟨p5,p6,LB.map V.str ++ LM.map V.str ++ LY.map V.str,(AnS.LF ss j).map V.str,rfl,rfl,SqL.of (by rw [zF (zG upd_same np6),upd_same]),SqL.of upd_same,le_line (by rw [List.length_append,List.length_append,List.length_map,List.length_map,List.length_map,List.length_map]; omega),fun p7 np7=>?_⟩
  have em:LB.map V.str ++ LM.map V.str ++ LY.map V.str ++ (AnS.LF ss j).map V.str = (LB ++ LM ++ LY ++ AnS.LF ss j).map V.str:=by rw [List.map_append,List.map_append,List.map_append]
  rw [em]
  have s8:=s7.trans (same_upd (o:=.lst ((LB ++ LM ++ LY ++ AnS.LF ss j).map V.str)) np7)
  have inS:∀ p ∈ AxS.uniq (LB ++ LM ++ LY ++ AnS.LF ss j),p ∈ ss:=fun p hp=>by
   have:=AnS.mem_uniq.mp hp
   rcases List.mem_append.mp this with z | z
   ·rw [List.mem_append,List.mem_append,or_assoc] at z
    exact (un.mem p).mpr z
   ·exact (LF_mem z).1
  have ul:=AnS.len_sub (An.uniq_nodup (LB ++ LM ++ LY ++ AnS.LF ss j)) un.nd inS
  refine ⟨p7,LB ++ LM ++ LY ++ AnS.LF ss j,rfl,.inl (SqL.of upd_same),by rw [List.length_append,List.length_append,List.length_append]; omega,fun p8 np8=>?_⟩
  have s9:=s8.trans (same_upd (o:=TxHO P w p8 (AxS.uniq (LB ++ LM ++ LY ++ AnS.LF ss j))) np8)
  refine ⟨p8,_,rfl,upd_same,by omega,fun l5 sv nl5 pm5 so5=>⟨l5,rfl,⟨_,SqL.of upd_same⟩,?_⟩⟩
  have s10:=s9.trans (same_upd (o:=.lst (sv.map V.str)) nl5)
  have inV:∀ p ∈ sv,p ∈ ss:=fun p hp=>inS p (pm5.mem_iff.mp hp)
  refine yP (K:=K) (a:=l5) (xs:=sv.map V.str) (fun i σ H6=>∃ o8 o9 o10,σ = [some (.ref t),some (.ref ab),some (.ref am),some (.ref ay),some (.ref af),some (.ref ac),some (.ref pl),o7,o8,o9,o10,none] /\ Same H H6 /\ SqL K H6 pl ((AnS.LC ss j).map V.str) /\ SqL K H6 l5 (sv.map V.str)) ⟨none,none,none,rfl,e5.trans s10,s10.seq hp5,SqL.of upd_same⟩ (fun i σ H6 _ ⟨_,_,_,_,_,_,e⟩=>e) ?_ ?_
  ·rintro i y σ H6 hy ⟨o8,o9,o10,rfl,e6,hp6,hl6⟩
   rw [List.getElem?_map] at hy
   cases q:sv[i]? with
   | none=>rw [q] at hy; cases hy
   | some p =>
    rw [q] at hy
    have hy:V.str p = y:=Option.some.inj hy
    subst hy
    have ps:=inV p (List.mem_of_getElem? q)
    have tw6:=tw.same e6
    have hf6:=e6 _ _ hf
    have df6:=df.same e6
    refine ⟨_,rfl,_,rfl,_,rfl,_,rfl,lineN 4,fun tt ntt=>⟨tt,rfl,⟨_,SqT.of upd_same⟩,?_⟩⟩
    have u7:=same_upd (o:=.tup [.ref af,.ref ab,.ref am,.ref ay]) ntt
    have e7:=e6.trans u7
    have ht7:SqT K (upd H6 tt (.tup [.ref af,.ref ab,.ref am,.ref ay])) tt [.ref af,.ref ab,.ref am,.ref ay]:=SqT.of upd_same
    have hp7:=u7.seq hp6
    have hl7:=u7.seq hl6
    clear u7
    generalize upd H6 tt (.tup [.ref af,.ref ab,.ref am,.ref ay]) = H7 at e7 ht7 hp7 hl7 ⊢
    refine comp_tup0 (K:=K) (a:=tt) (xs:=[.ref af,.ref ab,.ref am,.ref ay]) (fun i ys σ H8=>∃ o,σ = [o,some (.str p)] /\ Same H7 H8 /\ ys.length <= i /\ ys = [(valV kf (.inr p)).getD .non,(valV kb (.inr p)).getD .non,(valV km (.inr p)).getD .non,(valV ky (.inr p)).getD .non].take i) ⟨none,rfl,Same.refl _,Nat.le_refl _,rfl⟩ (lineN 4) ?_ ?_ ?_
    ·rintro i ys σ H8 hi ⟨o,rfl,s8,yl,_⟩
     exact ⟨s8.tupS ht7,yl⟩
    ·rintro i x ys σ H8 hx ⟨o,rfl,s8,yl,rfl⟩
     have e8:=e7.trans s8
     have tw8:=tw.same e8
     match i,hx with
     | 0,hx =>
      cases hx
      exact ⟨_,rfl,af,rfl,.inl ⟨kf,.inl (e8 _ _ hf)⟩,_,rfl,_,DGet.k (k:=.inr p) (e8 _ _ hf),_,rfl,s8,Nat.le_refl _,rfl⟩
     | 1,hx =>
      cases hx
      exact ⟨_,rfl,ab,rfl,.inl ⟨kb,.inl tw8.hb⟩,_,rfl,_,DGet.k (k:=.inr p) tw8.hb,_,rfl,s8,Nat.le_refl _,rfl⟩
     | 2,hx =>
      cases hx
      exact ⟨_,rfl,am,rfl,.inl ⟨km,.inl tw8.hm⟩,_,rfl,_,DGet.k (k:=.inr p) tw8.hm,_,rfl,s8,Nat.le_refl _,rfl⟩
     | 3,hx =>
      cases hx
      exact ⟨_,rfl,ay,rfl,.inl ⟨ky,.inl tw8.hy⟩,_,rfl,_,DGet.k (k:=.inr p) tw8.hy,_,rfl,s8,Nat.le_refl _,rfl⟩
     | i + 4,hx=>cases hx
    ·rintro ys σ H8 ⟨o,rfl,s8,yl,rfl⟩ tl ntl
     have u8:=same_upd (o:=.lst [(valV kf (.inr p)).getD .non,(valV kb (.inr p)).getD .non,(valV km (.inr p)).getD .non,(valV ky (.inr p)).getD .non]) ntl
     have e8:=e7.trans (s8.trans u8)
     have tw8:=tw.same e8
     have df8:=df.same e8
     have dl:Dt K (upd H8 tl (.lst [(valV kf (.inr p)).getD .non,(valV kb (.inr p)).getD .non,(valV km (.inr p)).getD .non,(valV ky (.inr p)).getD .non])) (AnS.oD (if p ∈ AnS.LF ss j then (j p).getD none else none)) ((valV kf (.inr p)).getD .non):=by
      by_cases z:p ∈ AnS.LF ss j
      ·obtain ⟨v,ev,dv⟩:=df8.val p z
       rw [if_pos z]
       have eg:(valV kf (.inr p)).getD .non = v:=by rw [ev]; rfl
       exact eg.symm ▸ dv
      ·rw [if_neg z]
       show (valV kf (.inr p)).getD .non = V.non
       rw [df8.no z]
       rfl
     have oo:AnS.okO (if p ∈ AnS.LF ss j then (j p).getD none else none):=by
      split
      ·exact oj p
      ·exact fun ls e=>by cases e
     refine ⟨_,rfl,tl,_,_,_,rfl,rfl,SqL.of upd_same,rfl,_,rfl,tl,_,_,_,rfl,rfl,SqL.of upd_same,rfl,_,rfl,tl,_,_,_,rfl,rfl,SqL.of upd_same,rfl,_,rfl,tl,_,_,_,rfl,rfl,SqL.of upd_same,rfl,?_⟩
     refine ⟨p,_,_,_,_,_,B,M,Y,rfl,dl,tw8.th.fb.get p,tw8.th.fm.get p,tw8.th.fy.get p,oo,tw.sb,tw.sm,tw.sy,fun r H9 s9 hr9=>?_⟩
     rw [ej] at hr9
     have v9:=(s8.trans u8).trans s9
     have hp9:=v9.seq hp7
     have e9:=e8.trans s9
     have clay:=(jJ (AnS.LC ss j) fun q hq=>(okp q (List.mem_filter.mp hq).1).2).1
     have fin:∃ o8' o9' o10',[some (V.ref t),some (.ref ab),some (.ref am),some (.ref ay),some (.ref af),some (.ref ac),some (.ref pl),o7,some (.str p),some (.ref tl),some (.bl r),none] = [some (.ref t),some (.ref ab),some (.ref am),some (.ref ay),some (.ref af),some (.ref ac),some (.ref pl),o7,o8',o9',o10',none] /\ Same H H9 /\ SqL K H9 pl ((AnS.LC ss j).map V.str) /\ SqL K H9 l5 (sv.map V.str):=⟨_,_,_,rfl,e9,hp9,v9.seq hl7⟩
     refine ⟨_,rfl,_,rfl,.str p,(AnS.LC ss j).map .str,rfl,⟨pl,_,rfl,hp9,DtAll.strs _⟩,clay,(okp p ps).2,Nat.zero_le _,_,rfl,ite2 (fun c1=>⟨_,rfl,_,rfl,af,_,rfl,DGet.k (k:=.inr p) (e9 _ _ hf),_,rfl,ite2 (fun c=>?_) (fun c=>?_)⟩) (fun c1=>iteF ?_)⟩
     ·rw [any_str] at c1
      have inl:p ∈ AnS.LC ss j:=by
       by_cases z:p ∈ AnS.LC ss j
       ·exact z
       ·rw [decide_eq_false z] at c1; cases c1
      rw [df8.isSome,decide_eq_false (LF_LC inl)] at c
      cases c
     ·refine ⟨_,rfl,_,rfl,.str p,(AnS.LC ss j).map .str,rfl,⟨pl,_,rfl,hp9,DtAll.strs _⟩,clay,(okp p ps).2,Nat.zero_le _,_,rfl,ite2 (fun c2=>?_) (fun c2=>iteF fin)⟩
      rw [any_str] at c2
      have nl:p ∉ AnS.LC ss j:=fun z=>by rw [decide_eq_true z] at c2; cases c2
      have rt:=hr9 (LF_val ps nl)
      subst rt
      exact ⟨_,rfl,_,rfl,iteNF fin⟩
     ·refine ⟨_,rfl,_,rfl,.str p,(AnS.LC ss j).map .str,rfl,⟨pl,_,rfl,hp9,DtAll.strs _⟩,clay,(okp p ps).2,Nat.zero_le _,_,rfl,ite2 (fun c2=>?_) (fun c2=>iteF fin)⟩
      rw [any_str] at c2
      have nl:p ∉ AnS.LC ss j:=fun z=>by rw [decide_eq_true z] at c2; cases c2
      have rt:=hr9 (LF_val ps nl)
      subst rt
      exact ⟨_,rfl,_,rfl,iteNF fin⟩
  rintro σ H6 ⟨o8,o9,o10,rfl,e6,hp6,hl6⟩
  have hf6:=e6 _ _ hf
  have df6:=df.same e6
  have kfl:=df6.len
  refine ⟨_,rfl,af,kf,rfl,hf6,fun ob=>⟨af,ob,kf,rfl,upd_same,?_⟩⟩
  refine for_keys (fun i σ H7=>∃ o11,σ = [some (.ref t),some (.ref ab),some (.ref am),some (.ref ay),some (.ref af),some (.ref ac),some (.ref pl),o7,o8,o9,o10,o11] /\ Same (upd H6 af (.frz ob (.dK kf))) H7) ⟨none,rfl,Same.refl _⟩ (fun i σ H7 _ ⟨_,_,e⟩=>e _ _ upd_same) ?_ ?_
  ·rintro i kx v σ H7 hi ⟨o11,rfl,e7⟩
   obtain ⟨hx,ek⟩:=df6.at hi
   have ek:kx = .inr (keyS (kx,v)):=ek
   generalize keyS (kx,v) = z at hx ek
   subst ek
   have zm:=List.mem_of_getElem? hx
   have zl:=(okp z (LF_mem zm).1).1
   refine ⟨_,rfl,af,ob,kf,rfl,e7 _ _ upd_same,comp_keys (fun i ys σ H8=>∃ o,σ = [o,some (.str z)] /\ Same H7 H8 /\ ys = []) ⟨none,rfl,Same.refl _,rfl⟩ (le_line (by omega)) ?_ ?_ ?_⟩
   ·rintro i ys σ H8 hi ⟨o,rfl,s8,rfl⟩
    exact ⟨s8 _ _ (e7 _ _ upd_same),Nat.zero_le _⟩
   ·rintro i kx v ys σ H8 hi ⟨o,rfl,s8,rfl⟩
    obtain ⟨hx2,ek2⟩:=df6.at hi
    have ek2:kx = .inr (keyS (kx,v)):=ek2
    generalize keyS (kx,v) = z2 at hx2 ek2
    subst ek2
    have zm2:=List.mem_of_getElem? hx2
    refine ⟨_,rfl,_,rfl,z,z2,rfl,zl,(okp z2 (LF_mem zm2).1).1,_,rfl,ite2 (fun c=>?_) (fun c=>⟨_,rfl,s8,rfl⟩)⟩
    rw [LF_free zm zm2] at c
    cases c
   ·rintro ys σ H8 ⟨o,rfl,s8,rfl⟩ r nr
    refine ⟨Nat.zero_le _,fun n nn=>⟨.list [],.list [],⟨r,_,rfl,SqL.of (same_upd nn _ _ upd_same),rfl⟩,⟨n,_,rfl,SqL.of upd_same,rfl⟩,by decide,by decide,_,rfl,ite2 (fun c=>absurd c (by decide)) (fun c=>⟨_,rfl,(e7.trans s8).trans ((same_upd nr).trans (same_upd nn))⟩)⟩⟩
  ·rintro σ H7 ⟨o11,rfl,e7⟩
   have hf7:=e7 _ _ upd_same
   refine ⟨af,ob,kf,hf7,fun o u (z:H af = some (.frz o u))=>(by rw [hf] at z; cases z),k _ fun b o hb=>?_⟩
   by_cases z:b = af
   ·subst z
    rw [upd_same,← hf]
    exact hb
   ·rw [zF z]
    exact e7 b o (by rw [zF z]; exact e6 b o hb)
end g_right
end
end An18
namespace An18
open PySem L2 An An10 An12
seal L2.PS L2.PSs L2.PE L2.PT L2.PW L2.PA L2.PG L2.PGs L2.PI L2.PFi L2.PC
theorem joined_turn {b m y:List Str} {ps:List (AnJ.Pt Str)} (h:AnJ.Joined b m y ps):AnJ.Joined b y m (ps.map AnJ.Pt.turn):=by
 obtain ⟨gs,g,rfl⟩:=h
 exact ⟨_,g.turn,(AnJ.J_turn g.some).symm⟩
theorem j3_turn {b m y:Option (List Str)} {r:Option (Option (List Str))} (h:AnS.J3 b m y r):AnS.J3 b y m r:=by
 rcases h with ⟨z,e⟩ | ⟨n,z,e⟩ | ⟨n,n2,z,e⟩ | ⟨n,n2,n3,z,e⟩ | ⟨n,n2,n3,xs,ms,ys,ps,e1,e2,e3,jn',e⟩
 ·exact .inl ⟨z.symm,by rw [e,z]⟩
 ·by_cases w:y = b
  ·exact absurd (z.trans w.symm) n
  ·exact .inr (.inr (.inl ⟨Ne.symm n,w,z,e⟩))
 ·exact .inr (.inl ⟨Ne.symm n,z,e⟩)
 ·exact .inr (.inr (.inr (.inl ⟨Ne.symm n,n3,n2,z.imp id Or.symm,e⟩)))
 ·exact .inr (.inr (.inr (.inr ⟨Ne.symm n,n3,n2,xs,ys,ms,_,e1,e3,e2,joined_turn jn',by rw [AnS.cleanL_turn]; exact e⟩)))
theorem jG_turn (B M Y:Str -> Option (List Str)):AnS.jG B Y M = AnS.jG B M Y:=by
 funext p
 by_cases h:∃ r,AnS.J3 (B p) (M p) (Y p) r
 ·obtain ⟨r,hr⟩:=h
  rw [← AnS.jG_is hr,← AnS.jG_is (j3_turn hr)]
 ·have h':¬ ∃ r,AnS.J3 (B p) (Y p) (M p) r:=fun ⟨r,hr⟩=>h ⟨r,j3_turn hr⟩
  unfold AnS.jG
  rw [dif_neg h,dif_neg h']
theorem jG_ok {B M Y:Str -> Option (List Str)} (sb:AnS.Few 20 B) (sm:AnS.Few 20 M) (sy:AnS.Few 20 Y) (p:Str):AnS.okO ((AnS.jG B M Y p).getD none):=by
 cases q:AnS.jG B M Y p with
 | none=>exact fun ls e=>by cases e
 | some o =>
  show AnS.okO o
  rcases jG_spec q with ⟨_,e⟩ | ⟨_,_,e⟩ | ⟨_,_,_,e⟩ | ⟨_,_,_,_,e⟩ | ⟨_,_,_,xs,ms,ys,ps,e1,e2,e3,jn,e⟩
  ·cases e; exact sm.okO p
  ·cases e; exact sy.okO p
  ·cases e; exact sm.okO p
  ·cases e
  ·cases w:AnJ.cleanL ps with
   | none=>rw [w] at e; cases e
   | some ls =>
    rw [w] at e
    cases e
    have okj:=AnS.Few.okJ sb sm sy p xs ms ys e1 e2 e3
    exact fun ls' e'=>by cases e'; exact AnJ.clean_ok w fun x hx=>((jn.okPs okj).2 x hx).1
theorem own_mem {LB LY ss:List Str} {Y:Str -> Option (List Str)} (un:AnS.Uni LB LB LY ss) (my:∀ p,p ∈ LY ↔ (Y p).isSome = true) (p:Str):p ∈ AnS.ST ss (fun p=>some (Y p)) ↔ p ∈ LY:=by
 unfold AnS.ST
 rw [List.mem_filter,st_of (j:=fun p=>some (Y p)) rfl,← my p]
 exact ⟨fun z=>z.2,fun z=>⟨(un.mem p).mpr (.inr (.inr z)),z⟩⟩
theorem own_bl {LB LY ss:List Str} {Y:Str -> Option (List Str)} (un:AnS.Uni LB LB LY ss) (my:∀ p,p ∈ LY ↔ (Y p).isSome = true) (fr:AnS.FreeL LY) {p:Str} (hp:p ∈ LY):AnS.blB (AnS.ST ss (fun p=>some (Y p))) p = false:=AnS.bl_false.mpr fun q hq=>by
 have hq:=(own_mem un my q).mp hq
 exact ⟨fr q hq p hp,fr p hp q hq⟩
theorem own_LC {LB LY ss:List Str} {Y:Str -> Option (List Str)} (un:AnS.Uni LB LB LY ss) (my:∀ p,p ∈ LY ↔ (Y p).isSome = true) (fr:AnS.FreeL LY):AnS.LC ss (fun p=>some (Y p)) = []:=List.filter_eq_nil_iff.mpr fun p _=>by
 show ¬ (false || (AnS.stB (fun p=>some (Y p)) p && AnS.blB (AnS.ST ss (fun p=>some (Y p))) p)) = true
 rw [Bool.false_or,st_of (j:=fun p=>some (Y p)) rfl]
 intro z
 have z:=Bool.and_eq_true_iff.mp z
 rw [own_bl un my fr ((my p).mpr z.1)] at z
 cases z.2
theorem own_LF {LB LY ss:List Str} {Y:Str -> Option (List Str)} (un:AnS.Uni LB LB LY ss) (my:∀ p,p ∈ LY ↔ (Y p).isSome = true) (fr:AnS.FreeL LY) (p:Str):p ∈ AnS.LF ss (fun p=>some (Y p)) ↔ p ∈ LY:=by
 unfold AnS.LF
 rw [List.mem_filter,own_mem un my]
 exact ⟨fun z=>z.1,fun z=>⟨z,by rw [own_bl un my fr z]; rfl⟩⟩
theorem own_eq {K:PySem.W.Frag} {H:Hp} {t u dy n:Addr} {ky:List (Key × V)} {LB LY ss:List Str} {B Y:Str -> Option (List Str)} (un:AnS.Uni LB LB LY ss) (fy:AnS.Files K H ky LY Y) (hy:H dy = some (.dK ky)) (fr:AnS.FreeL LY) (few:AnS.Few 20 Y) (res:AnS.ResAt K H t ss (fun p=>some (Y p)) B B Y) (hu:H u = some (.tup [.ref dy,.ref n])) (hn:H n = some (.lst [])):EqT K 100 H (.ref t) (.ref u):=by
 obtain ⟨af,ac,kf,a1,a2,a3,a4⟩:=res
 rw [own_LC un fy.mem fr] at a4
 have lm:=own_LF un fy.mem fr
 have ln:(AnS.LF ss (fun p=>some (Y p))).length = LY.length:=((List.perm_ext_iff_of_nodup a3.nd fy.is.nd).mpr lm).length_eq
 refine (EqT.tup (n:=65) (SqT.of a1) (SqT.of hu) rfl fun i x y hx hy'=>?_).more (by decide)
 match i,hx,hy' with
 | 0,hx,hy' =>
  cases hx
  cases hy'
  refine EqT.dic (.inl a2) (.inl hy) (by rw [a3.len,fy.is.len,ln]) fun kv hkv=>?_
  obtain ⟨ek,hm,hd⟩:=a3.pair hkv
  obtain ⟨y,h1,h2⟩:=fy.is.val _ ((lm _).mp hm)
  exact ⟨y,_,_,by rw [ek]; exact h1,hd,h2,AnS.shaped_oD (few.okO _),AnS.shaped_oD (few.okO _),by show PyData.eqv (AnS.oD (Y (keyS kv))) (AnS.oD (Y (keyS kv))) = true; rw [AnS.eqv_oD,decide_eq_true rfl]⟩
 | 1,hx,hy' =>
  cases hx
  cases hy'
  exact (EqT.data (d:=.list []) (e:=.list []) a4 ⟨n,[],rfl,SqL.of hn,rfl⟩ (by decide) (by decide) (by decide)).more (by decide)
 | i + 2,hx,hy'=>cases hx
end An18
namespace An18
open PySem L2 An An10 An12
seal L2.PS L2.PSs L2.PE L2.PT L2.PW L2.PA L2.PG L2.PGs L2.PI L2.PFi L2.PC
def spLaw (K:PySem.W.Frag):Sp:=fun vs H Q _=>∃ (a:Addr) (ns:List Int),vs = [.ref a] /\ SqL K H a (ns.map V.int) /\ ∀ H',Q (.bl true) H'
theorem qV {ns:List Int} {a m:Nat} {i:Int} (h0:0 <= i) (h1:i < m):∃ ms:List Int,cutV (ns.map V.int) (some (a:Int)) (some ((a:Int) + i)) = ms.map V.int /\ ms.length < m:=by
 obtain ⟨k,rfl⟩:=Int.eq_ofNat_of_zero_le h0
 have e:((a:Int) + (k:Int)) = ((a + k:Nat):Int):=by omega
 refine ⟨(ns.drop (min a ns.length)).take (min (a + k) ns.length - min a ns.length),?_,?_⟩
 ·unfold cutV
  rw [e,HT.sIx_nat,HT.sIx_nat,List.length_map,List.map_take,List.map_drop]
 ·rw [List.length_take]
  omega
theorem few_eq {K:PySem.W.Frag} {H:Hp} {a b:Addr} {kvs:List (Key × V)} {L:List Str} {F:Str -> Option (List Str)} (ha:H a = some (.dK kvs)) (hb:H b = some (.dK kvs)) (f:AnS.Files K H kvs L F) (s:AnS.Few 20 F):EqT K 65 H (.ref a) (.ref b) :=
 EqT.dic (.inl ha) (.inl hb) rfl (f.is.vals2 f.is (fun p _=>AnS.shaped_oD (s.okO p)) fun p _=>by rw [AnS.eqv_oD,decide_eq_true rfl])
theorem hand_eq {K:PySem.W.Frag} {H:Hp} {hl q h0 h1 h2 db dm dy:Addr} {kb km ky:List (Key × V)} {LB LM LY:List Str} {B M Y:Str -> Option (List Str)} (tw:Tw K H db dm dy kb km ky LB LM LY B M Y) (a0:H h0 = some (.dK kb)) (a1:H h1 = some (.dK km)) (a2:H h2 = some (.dK ky)) (hh:H hl = some (.lst [.ref h0,.ref h1,.ref h2])) (hq:H q = some (.lst [.ref db,.ref dm,.ref dy])):EqT K 100 H (.ref hl) (.ref q):=by
 refine (EqT.lst (n:=65) (SqL.of hh) (SqL.of hq) rfl fun i x y hx hy=>?_).more (by decide)
 match i,hx,hy with
 | 0,hx,hy =>
  cases hx
  cases hy
  exact few_eq a0 tw.hb tw.th.fb tw.sb
 | 1,hx,hy =>
  cases hx
  cases hy
  exact few_eq a1 tw.hm tw.th.fm tw.sm
 | 2,hx,hy =>
  cases hx
  cases hy
  exact few_eq a2 tw.hy tw.th.fy tw.sy
 | i + 3,hx,hy=>cases hx
section
variable {P:Program} {w:World} {K:PySem.W.Frag} {mg:Str -> Option Value} {base:Heap} {t1 t2:Tok}
namespace g_law
abbrev st:Stmt:=top 34
theorem sc:FnScope ["_law_script","_law_base","_law_mine","_law_yours","_law_handed","_law_found","_law_other"] ["_law_script"] (zD st):=⟨rfl,rfl,rfl,by decide +kernel,rfl,by decide +kernel,by decide +kernel⟩
theorem ok {f:Addr} {fd:FuncData} (F:Fun K "law" "law" st f fd) (T:Txt K mg t1 t2) (C__law_cell_at:Cal P w K mg base 1 "_law_cell_at" ["_law_script","_law_k"] (spCell K)) (C__law_side:Cal P w K mg base 3 "_law_side" ["_law_base","_law_cells"] (spSide K)) (C_joined_files:Cal P w K mg base 9 "joined_files" ["base","mine","yours"] (AnS.spFiles K)) (C__law_right:Cal P w K mg base 11 "_law_right" ["_law_found","_law_base","_law_mine","_law_yours"] (spRight K)):FnOk P w K mg base CX0 12 f fd ["_law_script"] (spLaw K):=by
 refine F.ok sc (fun vs H Q E h=>?_) (fun cdv A outer s H vs Q E hr h=>?_)
 ·obtain ⟨a,ns,rfl,_⟩:=h
  rfl
 ·obtain ⟨a,ns,rfl,ha,k⟩:=h
  refine ⟨_,(zB (zO (i:=1) sc.nd rfl (Or.inl rfl) (zJ C__law_side (hr.mono (by decide)) (zA jK (zA (y4 (sc:=zD st) (N:=["_law_script","_law_base","_law_mine","_law_yours","_law_handed","_law_found","_law_other"]) (N':=["_law_cell"]) (src:=[none]) ⟨by decide +kernel,rfl,rfl,by decide +kernel,by decide +kernel,by decide +kernel,by decide +kernel⟩ rfl rfl rfl (z8 (z3 (sl_list:SlR _ (rSlL K)) (pv 0) (zX zH) (zX zH))) (fun _ _ _ _=>(zM (i:=0) (show (["_law_cell"]:List Str).Nodup by decide +kernel) rfl (Or.inl rfl))) (fun _ _ _ _=>xX) (fun _ _ _ _=>(zU op_mul zH (pv 0)))) zC))))
   (zB (zO (i:=2) sc.nd rfl (Or.inl rfl) (zJ C__law_side (hr.mono (by decide)) (zA (pv 1) (zA (z3 (sl_list:SlR _ (rSlL K)) (pv 0) (zX zH) (zX (zU yN zH (zU yZ (zJ C__law_cell_at (hr.mono (by decide)) (zA (pv 0) (zA zH zC))) zH)))) zC))))
   (zB (zO (i:=3) sc.nd rfl (Or.inl rfl) (zJ C__law_side (hr.mono (by decide)) (zA (pv 1) (zA (z3 (sl_list:SlR _ (rSlL K)) (pv 0) (zX zH) (zX (zU yN zH (zU yZ (zJ C__law_cell_at (hr.mono (by decide)) (zA (pv 0) (zA zH zC))) zH)))) zC))))
   (zB (zO (i:=4) sc.nd rfl (Or.inl rfl) (yG (zA (zV xZ (by rfl) T.dict PyProof.Rows.boot_dict (zA (pv 1) zC)) (zA (zV xZ (by rfl) T.dict PyProof.Rows.boot_dict (zA (pv 2) zC)) (zA (zV xZ (by rfl) T.dict PyProof.Rows.boot_dict (zA (pv 3) zC)) zC)))))
   (zB (zO (i:=5) sc.nd rfl (Or.inl rfl) (zJ C_joined_files (hr.mono (by decide)) (zA (zW (ix_list:IxR _ (rIxL K)) (pv 4) zH (fun _ _=>rfl)) (zA (zW (ix_list:IxR _ (rIxL K)) (pv 4) zH (fun _ _=>rfl)) (zA (zW (ix_list:IxR _ (rIxL K)) (pv 4) zH (fun _ _=>rfl)) zC)))))
   (zB (z5 (PW.pt (xH (pt_not (yC (K:=K) (zJ C__law_right (hr.mono (by decide)) (zA (pv 5) (zA (pv 1) (zA (pv 2) (zA (pv 3) zC))))) (fun _=>rfl))) (y6 (zI (op_neT hr.units128) (pv 4) (yG (zA (pv 1) (zA (pv 2) (zA (pv 3) zC)))) (zK _)))))
    (zE (zP xW))
    zT)
   (zB (zO (i:=6) sc.nd rfl (Or.inl rfl) (zJ C_joined_files (hr.mono (by decide)) (zA (zW (ix_list:IxR _ (rIxL K)) (pv 4) zH (fun _ _=>rfl)) (zA (zW (ix_list:IxR _ (rIxL K)) (pv 4) zH (fun _ _=>rfl)) (zA (zW (ix_list:IxR _ (rIxL K)) (pv 4) zH (fun _ _=>rfl)) zC)))))
   (zB (z5 (zI (op_neT hr.units128) (pv 6) (yA (zA (zW (ix_tup:IxR _ (rIxT K)) (pv 5) zH (fun _ _=>rfl)) (zA (y4 (sc:=zD st) (N:=["_law_script","_law_base","_law_mine","_law_yours","_law_handed","_law_found","_law_other"]) (N':=["_law_row"]) (src:=[none]) ⟨by decide +kernel,rfl,rfl,by decide +kernel,by decide +kernel,by decide +kernel,by decide +kernel⟩ rfl rfl rfl (z8 (zW (ix_tup:IxR _ (rIxT K)) (pv 5) zH (fun _ _=>rfl))) (fun _ _ _ _=>(zM (i:=0) (show (["_law_row"]:List Str).Nodup by decide +kernel) rfl (Or.inl rfl))) (fun _ _ _ _=>xX) (fun _ _ _ _=>(yA (zA (zW (ix_tup:IxR _ (rIxT K)) (pv 0) zH (fun _ _=>rfl)) (zA (zW (ix_tup:IxR _ (rIxT K)) (pv 0) zH (fun _ _=>rfl)) (zA (zW (ix_tup:IxR _ (rIxT K)) (pv 0) zH (fun _ _=>rfl)) (zA (zW (ix_tup:IxR _ (rIxT K)) (pv 0) zH (fun _ _=>rfl)) zC))))))) zC))) (zK _))
    (zE (zP xW))
    zT)
   (zE (zP (pe_and (yM (op_eqT hr.units128) (zJ C_joined_files (hr.mono (by decide)) (zA (zW (ix_list:IxR _ (rIxL K)) (pv 4) zH (fun _ _=>rfl)) (zA (zW (ix_list:IxR _ (rIxL K)) (pv 4) zH (fun _ _=>rfl)) (zA (zW (ix_list:IxR _ (rIxL K)) (pv 4) zH (fun _ _=>rfl)) zC)))) (yA (zA (pv 3) (zA (yG zC) zC))) (zK _)) (pe_one (yM (op_eqT hr.units128) (pv 4) (yG (zA (pv 1) (zA (pv 2) (zA (pv 3) zC)))) (zK _)))))))))))))),?_⟩
  refine fun d0 n0=>?_
  have u0:=same_upd (o:=.dK []) n0
  obtain ⟨m1,c1,ml1⟩:=qV (ns:=ns) (a:=1) (m:=7) (i:=6) (by decide) (by decide)
  have c1:cutV (ns.map V.int) (some 1) (some 7) = m1.map V.int:=c1
  refine ⟨_,rfl,_,rfl,_,rfl,a,_,rfl,u0.seq ha,fun p1 np1=>?_⟩
  rw [c1]
  have u1:=u0.trans (same_upd (o:=.lst (m1.map V.int)) np1)
  have hd1:upd (upd H d0 (.dK [])) p1 (.lst (m1.map V.int)) d0 = some (.dK []):=by rw [zF (zG upd_same np1),upd_same]
  have hp1:upd (upd H d0 (.dK [])) p1 (.lst (m1.map V.int)) p1 = some (.lst (m1.map V.int)):=upd_same
  generalize upd (upd H d0 (.dK [])) p1 (.lst (m1.map V.int)) = H0 at u1 hd1 hp1 ⊢
  refine ⟨p1,rfl,⟨_,SqL.of hp1⟩,yK (K:=K) (a:=p1) (xs:=m1.map V.int) (fun i ys σ H2=>∃ o cs',σ = [o] /\ Same H0 H2 /\ ys = cs'.map V.int /\ cs'.length = i) ⟨none,[],rfl,Same.refl _,rfl,rfl⟩ (le_line (by rw [List.length_map]; omega)) ?_ ?_ ?_⟩
  ·rintro i ys σ H2 hi ⟨o,cs',rfl,e,rfl,n⟩
   exact ⟨SqL.of (e _ _ hp1),by rw [List.length_map]; omega⟩
  ·rintro i x ys σ H2 hx ⟨o,cs',rfl,e,rfl,n⟩
   rw [List.getElem?_map] at hx
   cases q:m1[i]? with
   | none=>rw [q] at hx; cases hx
   | some v =>
    rw [q] at hx
    have hx:V.int v = x:=Option.some.inj hx
    subst hx
    exact ⟨_,rfl,_,_,rfl,rfl,.inl ⟨by decide,by decide⟩,_,cs' ++ [5 * v],rfl,e,by rw [List.map_append]; rfl,by rw [List.length_append,n]; rfl⟩
  rintro ys σ H2 ⟨o,cs',rfl,e,rfl,cl⟩ p9 np9
  rw [List.length_map] at cl
  have u9:=same_upd (o:=.lst (cs'.map V.int)) np9
  refine ⟨d0,p9,[],[],fun _=>none,cs',5,rfl,u9 _ _ (e _ _ hd1),AnS.files_nil,⟨fun p z=>(nomatch z),fun p z=>(nomatch z),fun p ls z=>by cases z⟩,by decide,by decide,by decide,SqL.of upd_same,by omega,fun db kb LB B H1 s1 nb hb fb okb lenb=>?_⟩
  have e1:=((u1.trans e).trans u9).trans s1
  have ha1:=e1.seq ha
  have lenb:LB.length <= cs'.length:=by simpa using lenb
  refine ⟨_,rfl,_,rfl,_,rfl,_,rfl,a,ns,0,rfl,ha1,by decide,fun i1=>⟨_,_,rfl,rfl,(by decide:(0:Int) < 9),_,_,rfl,rfl,_,rfl,a,_,rfl,ha1,fun p2 np2=>?_⟩⟩
  obtain ⟨m2,c2,ml2⟩:=qV (ns:=ns) (a:=8) (m:=9) (i:=i1 % 9) (Int.emod_nonneg _ (by decide)) (Int.emod_lt_of_pos _ (by decide))
  have c2:cutV (ns.map V.int) (some 8) (some (8 + i1 % 9)) = m2.map V.int:=c2
  rw [c2]
  have u2:=same_upd (o:=.lst (m2.map V.int)) np2
  refine ⟨db,p2,kb,LB,B,m2,5 + cs'.length,rfl,u2 _ _ hb,fb.same u2,okb,by omega,by omega,by omega,SqL.of upd_same,by omega,fun dm km LM M H2 s2 nm hm fm okm lenm=>?_⟩
  have v2:=u2.trans s2
  have ha2:=v2.seq ha1
  have hb2:=v2 _ _ hb
  have fb2:=fb.same v2
  refine ⟨_,rfl,_,rfl,_,rfl,_,rfl,a,ns,7,rfl,ha2,by decide,fun i2=>⟨_,_,rfl,rfl,(by decide:(0:Int) < 9),_,_,rfl,rfl,_,rfl,a,_,rfl,ha2,fun p3 np3=>?_⟩⟩
  obtain ⟨m3,c3,ml3⟩:=qV (ns:=ns) (a:=17) (m:=9) (i:=i2 % 9) (Int.emod_nonneg _ (by decide)) (Int.emod_lt_of_pos _ (by decide))
  have c3:cutV (ns.map V.int) (some 17) (some (17 + i2 % 9)) = m3.map V.int:=c3
  rw [c3]
  have u3:=same_upd (o:=.lst (m3.map V.int)) np3
  refine ⟨db,p3,kb,LB,B,m3,5 + cs'.length,rfl,u3 _ _ hb2,fb2.same u3,okb,by omega,by omega,by omega,SqL.of upd_same,by omega,fun dy ky LY Y H3 s3 ny hy fy oky leny=>?_⟩
  have v3:=u3.trans s3
  have sb:=okb.few.up (m:=20) (by omega)
  have sm:=okm.few.up (m:=20) (by omega)
  have sy:=oky.few.up (m:=20) (by omega)
  have th:AnS.Three K H3 kb km ky LB LM LY B M Y:=⟨fb2.same v3,fm.same v3,fy,by omega,fun p hp=>by
   rcases hp with z | z | z
   ·exact (okb.path p z).more (by decide)
   ·exact (okm.path p z).more (by decide)
   ·exact (oky.path p z).more (by decide),fun p=>⟨sb.okO p,sm.okO p,sy.okO p⟩⟩
  have tw:Tw K H3 db dm dy kb km ky LB LM LY B M Y:=⟨v3 _ _ hb2,v3 _ _ hm,hy,th,sb,sm,sy⟩
  have fr:=oky.free
  refine ⟨_,rfl,db,kb,rfl,.inl tw.hb,fun h0 nh0=>?_⟩
  have w0:=same_upd (o:=.dK kb) nh0
  refine ⟨_,rfl,dm,km,rfl,.inl (w0 _ _ tw.hm),fun h1 nh1=>?_⟩
  have w1:=same_upd (o:=.dK km) nh1
  refine ⟨_,rfl,dy,ky,rfl,.inl (w1 _ _ (w0 _ _ tw.hy)),fun h2 nh2=>?_⟩
  have w2:=same_upd (o:=.dK ky) nh2
  refine ⟨lineN 3,fun hl nhl=>?_⟩
  have w3:=same_upd (o:=.lst [.ref h0,.ref h1,.ref h2]) nhl
  have hh0:=w3 _ _ (w2 _ _ (w1 _ _ (upd_same:upd H3 h0 (.dK kb) h0 = _)))
  have hh1:=w3 _ _ (w2 _ _ (upd_same:upd (upd H3 h0 (.dK kb)) h1 (.dK km) h1 = _))
  have hh2:=w3 _ _ (upd_same:upd (upd (upd H3 h0 (.dK kb)) h1 (.dK km)) h2 (.dK ky) h2 = _)
  have hhl:upd (upd (upd (upd H3 h0 (.dK kb)) h1 (.dK km)) h2 (.dK ky)) hl (.lst [.ref h0,.ref h1,.ref h2]) hl = some (.lst [.ref h0,.ref h1,.ref h2]):=upd_same
  have tw:=tw.same (((w0.trans w1).trans w2).trans w3)
  clear w0 w1 w2 w3 th
  generalize upd (upd (upd (upd H3 h0 (.dK kb)) h1 (.dK km)) h2 (.dK ky)) hl (.lst [.ref h0,.ref h1,.ref h2]) = H5 at hh0 hh1 hh2 hhl tw ⊢
  have th:=tw.th
  refine ⟨_,rfl,hl,_,_,_,rfl,rfl,SqL.of hhl,rfl,_,rfl,hl,_,_,_,rfl,rfl,SqL.of hhl,rfl,_,rfl,hl,_,_,_,rfl,rfl,SqL.of hhl,rfl,?_⟩
  refine ⟨h0,h1,h2,kb,km,ky,LB,LM,LY,B,M,Y,AnS.jG B M Y,rfl,hh0,hh1,hh2,th,AnS.Few.okJ sb sm sy,fun p r hj=>AnS.jG_is hj,fun t ss H6 s6 un res=>?_⟩
  have op:∀ p ∈ ss,PyData.strOk p = true:=fun p hp=>(th.path p ((un.mem p).mp hp)).2
  have oj:=jG_ok sb sm sy
  refine ⟨_,rfl,_,rfl,_,rfl,_,rfl,t,db,dm,dy,kb,km,ky,LB,LM,LY,B,M,Y,ss,rfl,tw.same s6,un,res,oj,fun H7 s7=>⟨_,rfl,iteNF ⟨_,rfl,_,rfl,_,rfl,_,rfl,lineN 3,fun q nq=>?_⟩⟩⟩
  have u8:=same_upd (o:=.lst [.ref db,.ref dm,.ref dy]) nq
  have v8:=(s6.trans s7).trans u8
  refine ⟨hand_eq (tw.same v8) (v8 _ _ hh0) (v8 _ _ hh1) (v8 _ _ hh2) (v8 _ _ hhl) upd_same,_,rfl,iteF ?_⟩
  have hhl8:=v8 _ _ hhl
  have hh08:=v8 _ _ hh0
  have hh18:=v8 _ _ hh1
  have hh28:=v8 _ _ hh2
  have tw8:=tw.same v8
  have res8:=res.same (s7.trans u8)
  clear u8 v8
  generalize upd H7 q (.lst [.ref db,.ref dm,.ref dy]) = H8 at tw8 res8 hhl8 hh08 hh18 hh28 ⊢
  refine ⟨_,rfl,hl,_,_,_,rfl,rfl,SqL.of hhl8,rfl,_,rfl,hl,_,_,_,rfl,rfl,SqL.of hhl8,rfl,_,rfl,hl,_,_,_,rfl,rfl,SqL.of hhl8,rfl,?_⟩
  refine ⟨h0,h2,h1,kb,ky,km,LB,LY,LM,B,Y,M,AnS.jG B Y M,rfl,hh08,hh28,hh18,tw8.th.turn,AnS.Few.okJ sb sy sm,fun p r hj=>AnS.jG_is hj,fun t3 ss3 H9 s9 un3 res3=>?_⟩
  rw [jG_turn] at res3
  cases un3.turn.uniq un
  obtain ⟨af2,ac2,kf2,ht2,hf2,df2,a',xs,e',hsq,hdt⟩:=res8.same s9
  cases e'
  have xl:=hdt.length
  rw [List.length_map] at xl
  have xl3:(AnS.LC ss (AnS.jG B M Y)).length <= ss.length:=List.length_filter_le _ _
  have xl4:ss.length <= LB.length + LM.length + LY.length:=by
   have:=AnS.len_sub un.nd (An.uniq_nodup (LB ++ LM ++ LY)) fun p hp=>AnS.mem_uniq.mpr (by rw [List.mem_append,List.mem_append,or_assoc]; exact (un.mem p).mp hp)
   have:=AxS.uniq_len _ (LB ++ LM ++ LY) rfl
   rw [List.length_append,List.length_append] at this
   omega
  refine ⟨_,rfl,_,rfl,t,_,_,_,rfl,rfl,SqT.of ht2,rfl,_,rfl,t,_,_,_,rfl,rfl,SqT.of ht2,rfl,ac2,rfl,⟨_,hsq⟩,yK (K:=K) (a:=ac2) (xs:=xs) (fun i zs σ H10=>∃ o,σ = [o] /\ Same H9 H10 /\ zs.length <= i /\ DtAll K H10 (((AnS.LC ss (AnS.jG B M Y)).take i).map (AnS.rowD B Y M)) zs) ⟨none,rfl,Same.refl _,Nat.le_refl _,rfl⟩ (le_line (by omega)) ?_ ?_ ?_⟩
  ·rintro i zs σ H10 hi ⟨o,rfl,s10,zl,_⟩
   exact ⟨s10.seq hsq,zl⟩
  ·rintro i x zs σ H10 hx ⟨o,rfl,s10,zl,hz⟩
   obtain ⟨p,ep,dp⟩:=AnJ.dts_get (DtAll.same s10 _ _ hdt) hx
   obtain ⟨tr,ws,rfl,hw,w0,r0,rfl,q0,w1,r1,rfl,q1,w2,r2,rfl,q2,w3,r3,rfl,q3,q4⟩:=(show ∃ tr ws,x = .ref tr /\ SqT K H10 tr ws /\ DtAll K H10 [.str p,AnS.oD (B p),AnS.oD (M p),AnS.oD (Y p)] ws from dp)
   have q0:w0 = .str p:=q0
   have q4:r3 = []:=q4
   subst q0 q4
   refine ⟨_,rfl,tr,_,_,_,rfl,rfl,hw,rfl,_,rfl,tr,_,_,_,rfl,rfl,hw,rfl,_,rfl,tr,_,_,_,rfl,rfl,hw,rfl,_,rfl,tr,_,_,_,rfl,rfl,hw,rfl,lineN 4,fun tp ntp=>?_⟩
   have u:=same_upd (o:=.tup [.str p,w1,w3,w2]) ntp
   refine ⟨_,rfl,s10.trans u,by rw [List.length_append]; exact Nat.succ_le_succ zl,?_⟩
   rw [List.take_add_one,ep,List.map_append]
   refine DtAll.append (DtAll.same u _ _ hz) ⟨_,_,rfl,?_,rfl⟩
   exact ⟨tp,_,rfl,SqT.of upd_same,_,_,rfl,rfl,_,_,rfl,Dt.same u _ _ q1,_,_,rfl,Dt.same u _ _ q3,_,_,rfl,Dt.same u _ _ q2,rfl⟩
  rintro zs σ H10 ⟨o,rfl,s10,zl,hz⟩ p9 np9
  rw [xl,List.take_length] at hz
  have u1:=same_upd (o:=.lst zs) np9
  refine ⟨lineN 2,fun tq ntq=>?_⟩
  have u2:=same_upd (o:=.tup [.ref af2,.ref p9]) ntq
  have v:=(s10.trans u1).trans u2
  refine ⟨AnS.eq_res (res3.same v) ⟨af2,p9,kf2,upd_same,v _ _ hf2,df2.same v,p9,zs,rfl,SqL.of (u2 _ _ upd_same),DtAll.same (u1.trans u2) _ _ hz⟩ oj (fun p=>⟨(th.ok p).1,(th.ok p).2.2,(th.ok p).2.1⟩) op,_,rfl,iteF ?_⟩
  have v11:=s9.trans v
  have tw11:=tw8.same v11
  have g0:=v11 _ _ hh08
  have g1:=v11 _ _ hh18
  have g2:=v11 _ _ hh28
  have gl:=v11 _ _ hhl8
  clear u1 u2 v v11
  generalize upd (upd H10 p9 (.lst zs)) tq (.tup [.ref af2,.ref p9]) = H11 at tw11 g0 g1 g2 gl ⊢
  refine ⟨_,rfl,hl,_,_,_,rfl,rfl,SqL.of gl,rfl,_,rfl,hl,_,_,_,rfl,rfl,SqL.of gl,rfl,_,rfl,hl,_,_,_,rfl,rfl,SqL.of gl,rfl,?_⟩
  have th4:AnS.Three K H11 kb kb ky LB LB LY B B Y:=⟨tw11.th.fb,tw11.th.fb,tw11.th.fy,by have:=th.len; omega,fun p hp=>th.path p (hp.elim .inl fun z=>z.elim .inl fun z=>.inr (.inr z)),fun p=>⟨(th.ok p).1,(th.ok p).1,(th.ok p).2.2⟩⟩
  refine ⟨h0,h0,h2,kb,kb,ky,LB,LB,LY,B,B,Y,fun p=>some (Y p),rfl,g0,g0,g2,th4,AnS.Few.okJ sb sb sy,fun p r hj=>?_,fun t4 ss4 H12 s12 un4 res4=>?_⟩
  ·by_cases z:B p = Y p
   ·rw [hj.eq1 z,z]
   ·exact hj.eq2 z rfl
  refine ⟨_,rfl,Nat.zero_le _,fun n nn=>⟨lineN 2,fun u nu=>?_⟩⟩
  have u1:=same_upd (o:=.lst []) nn
  have u2:=same_upd (o:=.tup [.ref dy,.ref n]) nu
  have v:=u1.trans u2
  have tw12:=(tw11.same s12).same v
  refine ⟨own_eq (B:=B) un4 tw12.th.fy tw12.hy fr sy (res4.same v) upd_same (u2 _ _ upd_same),_,rfl,iteT ⟨_,rfl,_,rfl,_,rfl,_,rfl,lineN 3,fun q nq=>?_⟩⟩
  have u3:=same_upd (o:=.lst [.ref db,.ref dm,.ref dy]) nq
  have v2:=(s12.trans v).trans u3
  exact ⟨hand_eq (tw11.same v2) (v2 _ _ g0) (v2 _ _ g1) (v2 _ _ g2) (v2 _ _ gl) upd_same,k _⟩
end g_law
end
end An18
/-! the evaluating tactics look for a twin of each of these constants under these names; names that are taken keep them from laying one,for the twins' equations make the compiled file too large -/
theorem PySem.W.Fast.tw16333872886707038344:True:=trivial
theorem PySem.W.Fast.tw2473436327207741000:True:=trivial
theorem PySem.W.Fast.tw8187083640598501589:True:=trivial
theorem PySem.W.Fast.tw12148443505365196624:True:=trivial
theorem PySem.W.Fast.tw6202268563938056752:True:=trivial
theorem PySem.W.Fast.tw15339849476702960634:True:=trivial
theorem PySem.W.Fast.tw4881437081877708290:True:=trivial
theorem PySem.W.Fast.tw2338677454525495484:True:=trivial
theorem PySem.W.Fast.tw425750421164551682:True:=trivial
theorem PySem.W.Fast.tw5767747365710113607:True:=trivial
theorem PySem.W.Fast.tw18137993790218817204:True:=trivial
theorem PySem.W.Fast.tw5369681563243338042:True:=trivial
theorem PySem.W.Fast.tw885077113981482084:True:=trivial
theorem PySem.W.Fast.tw11527829675656114368:True:=trivial
theorem PySem.W.Fast.tw10936673449587890518:True:=trivial
theorem PySem.W.Fast.tw5145444115708324160:True:=trivial
theorem PySem.W.Fast.tw6239761288257567834:True:=trivial
theorem PySem.W.Fast.tw12941072594004742111:True:=trivial
theorem PySem.W.Fast.tw3678517634291167261:True:=trivial
theorem PySem.W.Fast.tw13345195099360010937:True:=trivial
theorem PySem.W.Fast.tw13417352011913741756:True:=trivial
theorem PySem.W.Fast.tw10450163739592173849:True:=trivial
namespace An18
open PySem L2 An
set_option maxHeartbeats 0 in
theorem all_mk {l:PySem.W.OpenLaw} {w:World} {K:PySem.W.Frag} {h:Heap} {mg:Str -> Option Value} {fa:Addr} {t1 t2:Tok} (X:K.In h) (G:h.Ns mainGlobals mg) (hfa:mg "law" = some (.ref fa))
  (z_len:PySem.W.nsIn K mainGlobals "len" = some none)
  (z_list:PySem.W.nsIn K mainGlobals "list" = some none)
  (z_tuple:PySem.W.nsIn K mainGlobals "tuple" = some none)
  (z_range:PySem.W.nsIn K mainGlobals "range" = some none)
  (z_isinstance:PySem.W.nsIn K mainGlobals "isinstance" = some none)
  (z_int:PySem.W.nsIn K mainGlobals "int" = some none)
  (z_max:PySem.W.nsIn K mainGlobals "max" = some none)
  (z_min:PySem.W.nsIn K mainGlobals "min" = some none)
  (z_sorted:PySem.W.nsIn K mainGlobals "sorted" = some none)
  (z_reversed:PySem.W.nsIn K mainGlobals "reversed" = some none)
  (z_all:PySem.W.nsIn K mainGlobals "all" = some none)
  (z_set:PySem.W.nsIn K mainGlobals "set" = some none)
  (z_dict:PySem.W.nsIn K mainGlobals "dict" = some none)
  (z_ONES:PySem.W.nsIn K mainGlobals "ONES" = some (some (.int 2 t1)))
  (z_OTHERS:PySem.W.nsIn K mainGlobals "OTHERS" = some (some (.int 3 t2)))
  (s_kit:∀ a ∈ kinds,∀ b ∈ kinds,PySem.W.kitOne K (.type a) (.type b) = some (a == b || (a == "bool" && b == "int")))
  {f0 f1 f2 f3 f4 f5 f6 f7 f8 f9 f10 f11 f12 f13 f14 f15 f16 f17 f18 f19 f20 f21 f22 f23 f24 f25 f26 f27:Addr} {od0 an0 od1 an1 od2 an2 od3 an3 od4 an4 od5 an5 od6 an6 od7 an7 od8 an8 od9 an9 od10 an10 od11 an11 od12 an12 od13 an13 od14 an14 od15 an15 od16 an16 od17 an17 od18 an18 od19 an19 od20 an20 od21 an21 od22 an22 od23 an23 od24 an24 od25 an25 od26 an26 od27 an27:Option Addr} {sl0 sl1 sl2 sl3 sl4 sl5 sl6 sl7 sl8 sl9 sl10 sl11 sl12 sl13 sl14 sl15 sl16 sl17 sl18 sl19 sl20 sl21 sl22 sl23 sl24 sl25 sl26 sl27:Array (Option Value)} {oc0 kV0 dc0 pm0 cd0 ct0 oc1 kV1 dc1 pm1 cd1 ct1 oc2 kV2 dc2 pm2 cd2 ct2 oc3 kV3 dc3 pm3 cd3 ct3 oc4 kV4 dc4 pm4 cd4 ct4 oc5 kV5 dc5 pm5 cd5 ct5 oc6 kV6 dc6 pm6 cd6 ct6 oc7 kV7 dc7 pm7 cd7 ct7 oc8 kV8 dc8 pm8 cd8 ct8 oc9 kV9 dc9 pm9 cd9 ct9 oc10 kV10 dc10 pm10 cd10 ct10 oc11 kV11 dc11 pm11 cd11 ct11 oc12 kV12 dc12 pm12 cd12 ct12 oc13 kV13 dc13 pm13 cd13 ct13 oc14 kV14 dc14 pm14 cd14 ct14 oc15 kV15 dc15 pm15 cd15 ct15 oc16 kV16 dc16 pm16 cd16 ct16 oc17 kV17 dc17 pm17 cd17 ct17 oc18 kV18 dc18 pm18 cd18 ct18 oc19 kV19 dc19 pm19 cd19 ct19 oc20 kV20 dc20 pm20 cd20 ct20 oc21 kV21 dc21 pm21 cd21 ct21 oc22 kV22 dc22 pm22 cd22 ct22 oc23 kV23 dc23 pm23 cd23 ct23 oc24 kV24 dc24 pm24 cd24 ct24 oc25 kV25 dc25 pm25 cd25 ct25 oc26 kV26 dc26 pm26 cd26 ct26 oc27 kV27 dc27 pm27 cd27 ct27:Value}
  (a0:PySem.W.nsIn K mainGlobals "_law_cell_at" = some (some (.ref f0)))
  (l0:K.lookup f0 = some ⟨oc0,od0,.func (PySem.W.fnOf "_law_cell_at" "_law_cell_at" (zS g_cell.st) (zR g_cell.st) (zD g_cell.st) .none kV0 dc0 pm0 an0 cd0 ct0),sl0⟩)
  (c0:PySem.W.codeIn K cd0 "_law_cell_at" = true)
  (k0:PySem.W.keepIn K (.ref f0) = true)
  (a1:PySem.W.nsIn K mainGlobals "_law_path" = some (some (.ref f1)))
  (l1:K.lookup f1 = some ⟨oc1,od1,.func (PySem.W.fnOf "_law_path" "_law_path" (zS g_path.st) (zR g_path.st) (zD g_path.st) .none kV1 dc1 pm1 an1 cd1 ct1),sl1⟩)
  (c1:PySem.W.codeIn K cd1 "_law_path" = true)
  (k1:PySem.W.keepIn K (.ref f1) = true)
  (a2:PySem.W.nsIn K mainGlobals "_law_over" = some (some (.ref f2)))
  (l2:K.lookup f2 = some ⟨oc2,od2,.func (PySem.W.fnOf "_law_over" "_law_over" (zS g_over.st) (zR g_over.st) (zD g_over.st) .none kV2 dc2 pm2 an2 cd2 ct2),sl2⟩)
  (c2:PySem.W.codeIn K cd2 "_law_over" = true)
  (k2:PySem.W.keepIn K (.ref f2) = true)
  (a3:PySem.W.nsIn K mainGlobals "_law_put" = some (some (.ref f3)))
  (l3:K.lookup f3 = some ⟨oc3,od3,.func (PySem.W.fnOf "_law_put" "_law_put" (zS g_put.st) (zR g_put.st) (zD g_put.st) .none kV3 dc3 pm3 an3 cd3 ct3),sl3⟩)
  (c3:PySem.W.codeIn K cd3 "_law_put" = true)
  (k3:PySem.W.keepIn K (.ref f3) = true)
  (a4:PySem.W.nsIn K mainGlobals "_law_lines" = some (some (.ref f4)))
  (l4:K.lookup f4 = some ⟨oc4,od4,.func (PySem.W.fnOf "_law_lines" "_law_lines" (zS g_lines.st) (zR g_lines.st) (zD g_lines.st) .none kV4 dc4 pm4 an4 cd4 ct4),sl4⟩)
  (c4:PySem.W.codeIn K cd4 "_law_lines" = true)
  (k4:PySem.W.keepIn K (.ref f4) = true)
  (a5:PySem.W.nsIn K mainGlobals "_law_line_changed" = some (some (.ref f5)))
  (l5:K.lookup f5 = some ⟨oc5,od5,.func (PySem.W.fnOf "_law_line_changed" "_law_line_changed" (zS g_chg.st) (zR g_chg.st) (zD g_chg.st) .none kV5 dc5 pm5 an5 cd5 ct5),sl5⟩)
  (c5:PySem.W.codeIn K cd5 "_law_line_changed" = true)
  (k5:PySem.W.keepIn K (.ref f5) = true)
  (a6:PySem.W.nsIn K mainGlobals "_law_side" = some (some (.ref f6)))
  (l6:K.lookup f6 = some ⟨oc6,od6,.func (PySem.W.fnOf "_law_side" "_law_side" (zS g_side.st) (zR g_side.st) (zD g_side.st) .none kV6 dc6 pm6 an6 cd6 ct6),sl6⟩)
  (c6:PySem.W.codeIn K cd6 "_law_side" = true)
  (k6:PySem.W.keepIn K (.ref f6) = true)
  (a7:PySem.W.nsIn K mainGlobals "table_row" = some (some (.ref f7)))
  (l7:K.lookup f7 = some ⟨oc7,od7,.func (PySem.W.fnOf "table_row" "table_row" (zS f_table_row.st) (zR f_table_row.st) (zD f_table_row.st) .none kV7 dc7 pm7 an7 cd7 ct7),sl7⟩)
  (c7:PySem.W.codeIn K cd7 "table_row" = true)
  (k7:PySem.W.keepIn K (.ref f7) = true)
  (a8:PySem.W.nsIn K mainGlobals "common_table" = some (some (.ref f8)))
  (l8:K.lookup f8 = some ⟨oc8,od8,.func (PySem.W.fnOf "common_table" "common_table" (zS f_common_table.st) (zR f_common_table.st) (zD f_common_table.st) .none kV8 dc8 pm8 an8 cd8 ct8),sl8⟩)
  (c8:PySem.W.codeIn K cd8 "common_table" = true)
  (k8:PySem.W.keepIn K (.ref f8) = true)
  (a9:PySem.W.nsIn K mainGlobals "kept_pairs" = some (some (.ref f9)))
  (l9:K.lookup f9 = some ⟨oc9,od9,.func (PySem.W.fnOf "kept_pairs" "kept_pairs" (zS f_kept_pairs.st) (zR f_kept_pairs.st) (zD f_kept_pairs.st) .none kV9 dc9 pm9 an9 cd9 ct9),sl9⟩)
  (c9:PySem.W.codeIn K cd9 "kept_pairs" = true)
  (k9:PySem.W.keepIn K (.ref f9) = true)
  (a10:PySem.W.nsIn K mainGlobals "spans_of" = some (some (.ref f10)))
  (l10:K.lookup f10 = some ⟨oc10,od10,.func (PySem.W.fnOf "spans_of" "spans_of" (zS f_spans_of.st) (zR f_spans_of.st) (zD f_spans_of.st) .none kV10 dc10 pm10 an10 cd10 ct10),sl10⟩)
  (c10:PySem.W.codeIn K cd10 "spans_of" = true)
  (k10:PySem.W.keepIn K (.ref f10) = true)
  (a11:PySem.W.nsIn K mainGlobals "near_spans" = some (some (.ref f11)))
  (l11:K.lookup f11 = some ⟨oc11,od11,.func (PySem.W.fnOf "near_spans" "near_spans" (zS j_near.st) (zR j_near.st) (zD j_near.st) .none kV11 dc11 pm11 an11 cd11 ct11),sl11⟩)
  (c11:PySem.W.codeIn K cd11 "near_spans" = true)
  (k11:PySem.W.keepIn K (.ref f11) = true)
  (a12:PySem.W.nsIn K mainGlobals "groups_of" = some (some (.ref f12)))
  (l12:K.lookup f12 = some ⟨oc12,od12,.func (PySem.W.fnOf "groups_of" "groups_of" (zS j_groups.st) (zR j_groups.st) (zD j_groups.st) .none kV12 dc12 pm12 an12 cd12 ct12),sl12⟩)
  (c12:PySem.W.codeIn K cd12 "groups_of" = true)
  (k12:PySem.W.keepIn K (.ref f12) = true)
  (a13:PySem.W.nsIn K mainGlobals "spans_done" = some (some (.ref f13)))
  (l13:K.lookup f13 = some ⟨oc13,od13,.func (PySem.W.fnOf "spans_done" "spans_done" (zS f_spans_done.st) (zR f_spans_done.st) (zD f_spans_done.st) .none kV13 dc13 pm13 an13 cd13 ct13),sl13⟩)
  (c13:PySem.W.codeIn K cd13 "spans_done" = true)
  (k13:PySem.W.keepIn K (.ref f13) = true)
  (a14:PySem.W.nsIn K mainGlobals "side_lines" = some (some (.ref f14)))
  (l14:K.lookup f14 = some ⟨oc14,od14,.func (PySem.W.fnOf "side_lines" "side_lines" (zS j_side.st) (zR j_side.st) (zD j_side.st) .none kV14 dc14 pm14 an14 cd14 ct14),sl14⟩)
  (c14:PySem.W.codeIn K cd14 "side_lines" = true)
  (k14:PySem.W.keepIn K (.ref f14) = true)
  (a15:PySem.W.nsIn K mainGlobals "add_same" = some (some (.ref f15)))
  (l15:K.lookup f15 = some ⟨oc15,od15,.func (PySem.W.fnOf "add_same" "add_same" (zS j_add.st) (zR j_add.st) (zD j_add.st) .none kV15 dc15 pm15 an15 cd15 ct15),sl15⟩)
  (c15:PySem.W.codeIn K cd15 "add_same" = true)
  (k15:PySem.W.keepIn K (.ref f15) = true)
  (a16:PySem.W.nsIn K mainGlobals "joined_lines" = some (some (.ref f16)))
  (l16:K.lookup f16 = some ⟨oc16,od16,.func (PySem.W.fnOf "joined_lines" "joined_lines" (zS j_joined.st) (zR j_joined.st) (zD j_joined.st) .none kV16 dc16 pm16 an16 cd16 ct16),sl16⟩)
  (c16:PySem.W.codeIn K cd16 "joined_lines" = true)
  (k16:PySem.W.keepIn K (.ref f16) = true)
  (a17:PySem.W.nsIn K mainGlobals "clean_lines" = some (some (.ref f17)))
  (l17:K.lookup f17 = some ⟨oc17,od17,.func (PySem.W.fnOf "clean_lines" "clean_lines" (zS j_clean.st) (zR j_clean.st) (zD j_clean.st) .none kV17 dc17 pm17 an17 cd17 ct17),sl17⟩)
  (c17:PySem.W.codeIn K cd17 "clean_lines" = true)
  (k17:PySem.W.keepIn K (.ref f17) = true)
  (a18:PySem.W.nsIn K mainGlobals "joined_at" = some (some (.ref f18)))
  (l18:K.lookup f18 = some ⟨oc18,od18,.func (PySem.W.fnOf "joined_at" "joined_at" (zS s_at.st) (zR s_at.st) (zD s_at.st) .none kV18 dc18 pm18 an18 cd18 ct18),sl18⟩)
  (c18:PySem.W.codeIn K cd18 "joined_at" = true)
  (k18:PySem.W.keepIn K (.ref f18) = true)
  (a19:PySem.W.nsIn K mainGlobals "folders_of" = some (some (.ref f19)))
  (l19:K.lookup f19 = some ⟨oc19,od19,.func (PySem.W.fnOf "folders_of" "folders_of" (zS p_fols.st) (zR p_fols.st) (zD p_fols.st) .none kV19 dc19 pm19 an19 cd19 ct19),sl19⟩)
  (c19:PySem.W.codeIn K cd19 "folders_of" = true)
  (k19:PySem.W.keepIn K (.ref f19) = true)
  (a20:PySem.W.nsIn K mainGlobals "in_the_way" = some (some (.ref f20)))
  (l20:K.lookup f20 = some ⟨oc20,od20,.func (PySem.W.fnOf "in_the_way" "in_the_way" (zS s_way.st) (zR s_way.st) (zD s_way.st) .none kV20 dc20 pm20 an20 cd20 ct20),sl20⟩)
  (c20:PySem.W.codeIn K cd20 "in_the_way" = true)
  (k20:PySem.W.keepIn K (.ref f20) = true)
  (a21:PySem.W.nsIn K mainGlobals "joined_files" = some (some (.ref f21)))
  (l21:K.lookup f21 = some ⟨oc21,od21,.func (PySem.W.fnOf "joined_files" "joined_files" (zS s_files.st) (zR s_files.st) (zD s_files.st) .none kV21 dc21 pm21 an21 cd21 ct21),sl21⟩)
  (c21:PySem.W.codeIn K cd21 "joined_files" = true)
  (k21:PySem.W.keepIn K (.ref f21) = true)
  (a22:PySem.W.nsIn K mainGlobals "_law_stands" = some (some (.ref f22)))
  (l22:K.lookup f22 = some ⟨oc22,od22,.func (PySem.W.fnOf "_law_stands" "_law_stands" (zS g_stands.st) (zR g_stands.st) (zD g_stands.st) .none kV22 dc22 pm22 an22 cd22 ct22),sl22⟩)
  (c22:PySem.W.codeIn K cd22 "_law_stands" = true)
  (k22:PySem.W.keepIn K (.ref f22) = true)
  (a23:PySem.W.nsIn K mainGlobals "_law_in_the_way" = some (some (.ref f23)))
  (l23:K.lookup f23 = some ⟨oc23,od23,.func (PySem.W.fnOf "_law_in_the_way" "_law_in_the_way" (zS g_near.st) (zR g_near.st) (zD g_near.st) .none kV23 dc23 pm23 an23 cd23 ct23),sl23⟩)
  (c23:PySem.W.codeIn K cd23 "_law_in_the_way" = true)
  (k23:PySem.W.keepIn K (.ref f23) = true)
  (a24:PySem.W.nsIn K mainGlobals "_law_row_right" = some (some (.ref f24)))
  (l24:K.lookup f24 = some ⟨oc24,od24,.func (PySem.W.fnOf "_law_row_right" "_law_row_right" (zS g_row.st) (zR g_row.st) (zD g_row.st) .none kV24 dc24 pm24 an24 cd24 ct24),sl24⟩)
  (c24:PySem.W.codeIn K cd24 "_law_row_right" = true)
  (k24:PySem.W.keepIn K (.ref f24) = true)
  (a25:PySem.W.nsIn K mainGlobals "_law_path_right" = some (some (.ref f25)))
  (l25:K.lookup f25 = some ⟨oc25,od25,.func (PySem.W.fnOf "_law_path_right" "_law_path_right" (zS g_pathR.st) (zR g_pathR.st) (zD g_pathR.st) .none kV25 dc25 pm25 an25 cd25 ct25),sl25⟩)
  (c25:PySem.W.codeIn K cd25 "_law_path_right" = true)
  (k25:PySem.W.keepIn K (.ref f25) = true)
  (a26:PySem.W.nsIn K mainGlobals "_law_right" = some (some (.ref f26)))
  (l26:K.lookup f26 = some ⟨oc26,od26,.func (PySem.W.fnOf "_law_right" "_law_right" (zS g_right.st) (zR g_right.st) (zD g_right.st) .none kV26 dc26 pm26 an26 cd26 ct26),sl26⟩)
  (c26:PySem.W.codeIn K cd26 "_law_right" = true)
  (k26:PySem.W.keepIn K (.ref f26) = true)
  (a27:PySem.W.nsIn K mainGlobals "law" = some (some (.ref f27)))
  (l27:K.lookup f27 = some ⟨oc27,od27,.func (PySem.W.fnOf "law" "law" (zS g_law.st) (zR g_law.st) (zD g_law.st) .none kV27 dc27 pm27 an27 cd27 ct27),sl27⟩)
  (c27:PySem.W.codeIn K cd27 "law" = true)
  (k27:PySem.W.keepIn K (.ref f27) = true) :
  ∃ fd:FuncData,(∀ (s:Shared) (v:Value),BindsTo s fd ⟨[v],[]⟩ [("_law_script",v)]) /\ ∀ base:Heap,K.In base -> base.Ns mainGlobals mg -> FnOk l.prog w K mg base CX0 12 fa fd ["_law_script"] (spLaw K):=by
 have e:=hfa.symm.trans (PySem.W.mg_of X G a27)
 cases e
 have T:Txt K mg t1 t2:=⟨PySem.W.mg_none_of X G z_len,PySem.W.mg_none_of X G z_list,PySem.W.mg_none_of X G z_tuple,PySem.W.mg_none_of X G z_range,PySem.W.mg_none_of X G z_isinstance,PySem.W.mg_none_of X G z_int,PySem.W.mg_none_of X G z_max,PySem.W.mg_none_of X G z_min,PySem.W.mg_none_of X G z_sorted,PySem.W.mg_none_of X G z_reversed,PySem.W.mg_none_of X G z_all,PySem.W.mg_none_of X G z_set,PySem.W.mg_none_of X G z_dict,PySem.W.mg_of X G z_ONES,PySem.W.mg_of X G z_OTHERS,s_kit⟩
 have F0:=z4 (st:=g_cell.st) l0 c0 k0
 have b0:=F0.binds (ps:=["_law_script","_law_k"]) fun _ _ _ _ _ _ us hl=>match us,hl with | [_,_],_=>rfl
 have F1:=z4 (st:=g_path.st) l1 c1 k1
 have b1:=F1.binds (ps:=["_law_cell"]) fun _ _ _ _ _ _ us hl=>match us,hl with | [_],_=>rfl
 have F2:=z4 (st:=g_over.st) l2 c2 k2
 have b2:=F2.binds (ps:=["_law_one","_law_other"]) fun _ _ _ _ _ _ us hl=>match us,hl with | [_,_],_=>rfl
 have F3:=z4 (st:=g_put.st) l3 c3 k3
 have b3:=F3.binds (ps:=["_law_files","_law_path_here","_law_lines_here"]) fun _ _ _ _ _ _ us hl=>match us,hl with | [_,_,_],_=>rfl
 have F4:=z4 (st:=g_lines.st) l4 c4 k4
 have b4:=F4.binds (ps:=["_law_cell"]) fun _ _ _ _ _ _ us hl=>match us,hl with | [_],_=>rfl
 have F5:=z4 (st:=g_chg.st) l5 c5 k5
 have b5:=F5.binds (ps:=["_law_lines_here","_law_cell"]) fun _ _ _ _ _ _ us hl=>match us,hl with | [_,_],_=>rfl
 have F6:=z4 (st:=g_side.st) l6 c6 k6
 have b6:=F6.binds (ps:=["_law_base","_law_cells"]) fun _ _ _ _ _ _ us hl=>match us,hl with | [_,_],_=>rfl
 have F7:=z4 (st:=f_table_row.st) l7 c7 k7
 have b7:=F7.binds (ps:=["line","new","behind"]) fun _ _ _ _ _ _ us hl=>match us,hl with | [_,_,_],_=>rfl
 have F8:=z4 (st:=f_common_table.st) l8 c8 k8
 have b8:=F8.binds (ps:=["old","new"]) fun _ _ _ _ _ _ us hl=>match us,hl with | [_,_],_=>rfl
 have F9:=z4 (st:=f_kept_pairs.st) l9 c9 k9
 have b9:=F9.binds (ps:=["old","new"]) fun _ _ _ _ _ _ us hl=>match us,hl with | [_,_],_=>rfl
 have F10:=z4 (st:=f_spans_of.st) l10 c10 k10
 have b10:=F10.binds (ps:=["old","new"]) fun _ _ _ _ _ _ us hl=>match us,hl with | [_,_],_=>rfl
 have F11:=z4 (st:=j_near.st) l11 c11 k11
 have b11:=F11.binds (ps:=["one","other"]) fun _ _ _ _ _ _ us hl=>match us,hl with | [_,_],_=>rfl
 have F12:=z4 (st:=j_groups.st) l12 c12 k12
 have b12:=F12.binds (ps:=["ones","others"]) fun _ _ _ _ _ _ us hl=>match us,hl with | [_,_],_=>rfl
 have F13:=z4 (st:=f_spans_done.st) l13 c13 k13
 have b13:=F13.binds (ps:=["old","rows"]) fun _ _ _ _ _ _ us hl=>match us,hl with | [_,_],_=>rfl
 have F14:=z4 (st:=j_side.st) l14 c14 k14
 have b14:=F14.binds (ps:=["base","low","high","rows"]) fun _ _ _ _ _ _ us hl=>match us,hl with | [_,_,_,_],_=>rfl
 have F15:=z4 (st:=j_add.st) l15 c15 k15
 have b15:=F15.binds (ps:=["parts","lines"]) fun _ _ _ _ _ _ us hl=>match us,hl with | [_,_],_=>rfl
 have F16:=z4 (st:=j_joined.st) l16 c16 k16
 have b16:=F16.binds (ps:=["base","mine","yours"]) fun _ _ _ _ _ _ us hl=>match us,hl with | [_,_,_],_=>rfl
 have F17:=z4 (st:=j_clean.st) l17 c17 k17
 have b17:=F17.binds (ps:=["parts"]) fun _ _ _ _ _ _ us hl=>match us,hl with | [_],_=>rfl
 have F18:=z4 (st:=s_at.st) l18 c18 k18
 have b18:=F18.binds (ps:=["base","mine","yours"]) fun _ _ _ _ _ _ us hl=>match us,hl with | [_,_,_],_=>rfl
 have F19:=z4 (st:=p_fols.st) l19 c19 k19
 have b19:=F19.binds (ps:=["path"]) fun _ _ _ _ _ _ us hl=>match us,hl with | [_],_=>rfl
 have F20:=z4 (st:=s_way.st) l20 c20 k20
 have b20:=F20.binds (ps:=["files"]) fun _ _ _ _ _ _ us hl=>match us,hl with | [_],_=>rfl
 have F21:=z4 (st:=s_files.st) l21 c21 k21
 have b21:=F21.binds (ps:=["base","mine","yours"]) fun _ _ _ _ _ _ us hl=>match us,hl with | [_,_,_],_=>rfl
 have F22:=z4 (st:=g_stands.st) l22 c22 k22
 have b22:=F22.binds (ps:=["_law_path_here","_law_base","_law_mine","_law_yours"]) fun _ _ _ _ _ _ us hl=>match us,hl with | [_,_,_,_],_=>rfl
 have F23:=z4 (st:=g_near.st) l23 c23 k23
 have b23:=F23.binds (ps:=["_law_path_here","_law_base","_law_mine","_law_yours"]) fun _ _ _ _ _ _ us hl=>match us,hl with | [_,_,_,_],_=>rfl
 have F24:=z4 (st:=g_row.st) l24 c24 k24
 have b24:=F24.binds (ps:=["_law_row","_law_base","_law_mine","_law_yours"]) fun _ _ _ _ _ _ us hl=>match us,hl with | [_,_,_,_],_=>rfl
 have F25:=z4 (st:=g_pathR.st) l25 c25 k25
 have b25:=F25.binds (ps:=["_law_lines_here","_law_one","_law_mine","_law_yours"]) fun _ _ _ _ _ _ us hl=>match us,hl with | [_,_,_,_],_=>rfl
 have F26:=z4 (st:=g_right.st) l26 c26 k26
 have b26:=F26.binds (ps:=["_law_found","_law_base","_law_mine","_law_yours"]) fun _ _ _ _ _ _ us hl=>match us,hl with | [_,_,_,_],_=>rfl
 have F27:=z4 (st:=g_law.st) l27 c27 k27
 have b27:=F27.binds (ps:=["_law_script"]) fun _ _ _ _ _ _ us hl=>match us,hl with | [_],_=>rfl
 refine ⟨PySem.W.fnOf "law" "law" (zS g_law.st) (zR g_law.st) (zD g_law.st) .none kV27 dc27 pm27 an27 cd27 ct27,fun s v=>.of_eq rfl,fun base _ _=>?_⟩
 have C0:=Cal.mk' F0 (g_cell.ok (P:=l.prog) (w:=w) (base:=base) F0 T ) (PySem.W.mg_of X G a0) b0
 have C1:=Cal.mk' F1 (g_path.ok (P:=l.prog) (w:=w) (base:=base) F1 T ) (PySem.W.mg_of X G a1) b1
 have C2:=Cal.mk' F2 (g_over.ok (P:=l.prog) (w:=w) (base:=base) F2 T ) (PySem.W.mg_of X G a2) b2
 have C3:=Cal.mk' F3 (g_put.ok (P:=l.prog) (w:=w) (base:=base) F3 T C2) (PySem.W.mg_of X G a3) b3
 have C4:=Cal.mk' F4 (g_lines.ok (P:=l.prog) (w:=w) (base:=base) F4 T ) (PySem.W.mg_of X G a4) b4
 have C5:=Cal.mk' F5 (g_chg.ok (P:=l.prog) (w:=w) (base:=base) F5 T ) (PySem.W.mg_of X G a5) b5
 have C6:=Cal.mk' F6 (g_side.ok (P:=l.prog) (w:=w) (base:=base) F6 T C1 C3 C4 C5) (PySem.W.mg_of X G a6) b6
 have C7:=Cal.mk' F7 (f_table_row.ok (P:=l.prog) (w:=w) (base:=base) F7 T ) (PySem.W.mg_of X G a7) b7
 have C8:=Cal.mk' F8 (f_common_table.ok (P:=l.prog) (w:=w) (base:=base) F8 T C7) (PySem.W.mg_of X G a8) b8
 have C9:=Cal.mk' F9 (f_kept_pairs.ok (P:=l.prog) (w:=w) (base:=base) F9 T C8) (PySem.W.mg_of X G a9) b9
 have C10:=Cal.mk' F10 (f_spans_of.ok (P:=l.prog) (w:=w) (base:=base) F10 T C9) (PySem.W.mg_of X G a10) b10
 have C11:=Cal.mk' F11 (j_near.ok (P:=l.prog) (w:=w) (base:=base) F11 T ) (PySem.W.mg_of X G a11) b11
 have C12:=Cal.mk' F12 (j_groups.ok (P:=l.prog) (w:=w) (base:=base) F12 T C11) (PySem.W.mg_of X G a12) b12
 have C13:=Cal.mk' F13 (f_spans_done.ok (P:=l.prog) (w:=w) (base:=base) F13 T ) (PySem.W.mg_of X G a13) b13
 have C14:=Cal.mk' F14 (j_side.ok (P:=l.prog) (w:=w) (base:=base) F14 T C13) (PySem.W.mg_of X G a14) b14
 have C15:=Cal.mk' F15 (j_add.ok (P:=l.prog) (w:=w) (base:=base) F15 T ) (PySem.W.mg_of X G a15) b15
 have C16:=Cal.mk' F16 (j_joined.ok (P:=l.prog) (w:=w) (base:=base) F16 T C10 C12 C14 C15) (PySem.W.mg_of X G a16) b16
 have C17:=Cal.mk' F17 (j_clean.ok (P:=l.prog) (w:=w) (base:=base) F17 T ) (PySem.W.mg_of X G a17) b17
 have C18:=Cal.mk' F18 (s_at.ok (P:=l.prog) (w:=w) (base:=base) F18 T C16 C17) (PySem.W.mg_of X G a18) b18
 have C19:=Cal.mk' F19 (p_fols.ok (P:=l.prog) (w:=w) (base:=base) F19 T ) (PySem.W.mg_of X G a19) b19
 have C20:=Cal.mk' F20 (s_way.ok (P:=l.prog) (w:=w) (base:=base) F20 T C19) (PySem.W.mg_of X G a20) b20
 have C21:=Cal.mk' F21 (s_files.ok (P:=l.prog) (w:=w) (base:=base) F21 T C18 C20) (PySem.W.mg_of X G a21) b21
 have C22:=Cal.mk' F22 (g_stands.ok (P:=l.prog) (w:=w) (base:=base) F22 T C16 C17) (PySem.W.mg_of X G a22) b22
 have C23:=Cal.mk' F23 (g_near.ok (P:=l.prog) (w:=w) (base:=base) F23 T C2 C22) (PySem.W.mg_of X G a23) b23
 have C24:=Cal.mk' F24 (g_row.ok (P:=l.prog) (w:=w) (base:=base) F24 T C16 C17 C23) (PySem.W.mg_of X G a24) b24
 have C25:=Cal.mk' F25 (g_pathR.ok (P:=l.prog) (w:=w) (base:=base) F25 T C16 C17) (PySem.W.mg_of X G a25) b25
 have C26:=Cal.mk' F26 (g_right.ok (P:=l.prog) (w:=w) (base:=base) F26 T C2 C24 C25) (PySem.W.mg_of X G a26) b26
 exact g_law.ok F27 T C0 C6 C21 C26
theorem walk {l:PySem.W.OpenLaw} {q:Program} {loose:List Str} {XP:(Str -> Option Value) -> Heap -> Prop} {YP:World -> Heap -> Prop} {d:DefRec} {K:Params -> PySem.W.Frag} (hn:l.most = some 63) (hdf:d.params.defaults = [])
  (hY:∀ (w:World) (h:Heap),YP w h -> (K w.params).In h)
  (F:∀ (w:World) (mg:Str -> Option Value) (fa:Addr) (h:Heap),(K w.params).In h -> h.Ns mainGlobals mg -> mg d.name = some (.ref fa) ->
   ∃ fd:FuncData,(∀ (s:Shared) (u:Value),BindsTo s fd ⟨[u],[]⟩ [("_law_script",u)]) /\ ∀ base:Heap,(K w.params).In base -> base.Ns mainGlobals mg -> FnOk l.prog w (K w.params) mg base CX0 12 fa fd ["_law_script"] (spLaw (K w.params))) :
  PySem.W.WalkO q loose XP YP l.row.toRowW d [] (fun f vs=>PySem.call f vs) :=
 L2.walk_of (n:=63) (k:=12) (x:="_law_script") (CX:=fun _=>CX0) (sp:=fun w=>spLaw (K w.params)) hn (by decide) hdf ⟨rfl,by decide,by decide⟩ hY F (fun _ _ a ns hl _ hS=>⟨a,ns,rfl,hS,fun _=>rfl⟩) fun _ _ _ _ _ z=>z
end An18
open PySem PySem.W PyProof.Rows
set_option maxRecDepth 100000 in
set_option maxHeartbeats 0 in
theorem PySem.Challenge.cw_annals_k18_whole_joins_holds : PySem.Challenge.rw_annals_k18_whole_joins.Holds := by
 w_on; o_law; k_head; (case hw=>w_witness2)
 k_fill
 refine An18.walk (l:=PySem.Challenge.rw_annals_k18_whole_joins) rfl rfl (fun w h Y=>PySem.W.kIn_of Y) ?F
 case F =>
  intro w mg fa h KX G hmg
  refine' An18.all_mk KX G hmg ?z_len ?z_list ?z_tuple ?z_range ?z_isinstance ?z_int ?z_max ?z_min ?z_sorted ?z_reversed ?z_all ?z_set ?z_dict ?z_ONES ?z_OTHERS ?s_kit ?a0 ?l0 ?c0 ?k0 ?a1 ?l1 ?c1 ?k1 ?a2 ?l2 ?c2 ?k2 ?a3 ?l3 ?c3 ?k3 ?a4 ?l4 ?c4 ?k4 ?a5 ?l5 ?c5 ?k5 ?a6 ?l6 ?c6 ?k6 ?a7 ?l7 ?c7 ?k7 ?a8 ?l8 ?c8 ?k8 ?a9 ?l9 ?c9 ?k9 ?a10 ?l10 ?c10 ?k10 ?a11 ?l11 ?c11 ?k11 ?a12 ?l12 ?c12 ?k12 ?a13 ?l13 ?c13 ?k13 ?a14 ?l14 ?c14 ?k14 ?a15 ?l15 ?c15 ?k15 ?a16 ?l16 ?c16 ?k16 ?a17 ?l17 ?c17 ?k17 ?a18 ?l18 ?c18 ?k18 ?a19 ?l19 ?c19 ?k19 ?a20 ?l20 ?c20 ?k20 ?a21 ?l21 ?c21 ?k21 ?a22 ?l22 ?c22 ?k22 ?a23 ?l23 ?c23 ?k23 ?a24 ?l24 ?c24 ?k24 ?a25 ?l25 ?c25 ?k25 ?a26 ?l26 ?c26 ?k26 ?a27 ?l27 ?c27 ?k27
  case z_len | z_list | z_tuple | z_range | z_isinstance | z_int | z_max | z_min | z_sorted | z_reversed | z_all | z_set | z_dict | z_ONES | z_OTHERS | a0 | l0 | c0 | k0 | a1 | l1 | c1 | k1 | a2 | l2 | c2 | k2 | a3 | l3 | c3 | k3 | a4 | l4 | c4 | k4 | a5 | l5 | c5 | k5 | a6 | l6 | c6 | k6 | a7 | l7 | c7 | k7 | a8 | l8 | c8 | k8 | a9 | l9 | c9 | k9 | a10 | l10 | c10 | k10 | a11 | l11 | c11 | k11 | a12 | l12 | c12 | k12 | a13 | l13 | c13 | k13 | a14 | l14 | c14 | k14 | a15 | l15 | c15 | k15 | a16 | l16 | c16 | k16 | a17 | l17 | c17 | k17 | a18 | l18 | c18 | k18 | a19 | l19 | c19 | k19 | a20 | l20 | c20 | k20 | a21 | l21 | c21 | k21 | a22 | l22 | c22 | k22 | a23 | l23 | c23 | k23 | a24 | l24 | c24 | k24 | a25 | l25 | c25 | k25 | a26 | l26 | c26 | k26 | a27 | l27 | c27 | k27=>k_is
  case s_kit=>(intro a ha b hb; simp only [An18.kinds,List.mem_cons,List.not_mem_nil,or_false] at ha hb; rcases ha with rfl | rfl | rfl | rfl | rfl | rfl | rfl <;> rcases hb with rfl | rfl | rfl | rfl | rfl | rfl | rfl <;> rfl)
