import PyProof.Rows.All
import Wide.All
import OpenK.AllK
import Wide.FinOn
import Lean
import PyProof.EqAt
import PyProof.EqKinds
import PyProof.TupleCall
import KE.LcSums
import PyProof.FString5
import PyProof.StationsW
import PyProof.Rows.Catch
import KE.KTryMore
import PyProof.Rows.Range3
import KE.KRevIter
import PyProof.StrBlock2
import PyProof.P3In
import PyProof.Rows.SumAny
import KE.KSortTup
import PyProof.P3Eq
import PyProof.TupleKey
import PyProof.Rows.StrRules
import PyProof.Rows.IntRules
import PyProof.StrLawsChain
import PyProof.StrLawsTight
import PyProof.DictIter
import PyProof.DictWalks
import PyProof.DictItems
import KE.KDictList
import KE.KPairComp
import KE.KEqDict
import PyProof.SetKind
import PyProof.Rows.SetFrom
import PyProof.FactsAll.set
import PyProof.SetRoads
import KE.KDictSum
import PyProof.WalksMore
import PyProof.FactsAll.set_2
import PyProof.NeKinds
import PyProof.AttrMissHeap
import PyProof.StrBlockG
import PyProof.Rows.StrMeet
import KE.KSortKey
import PyProof.Rows.CatFin
import PySem.Challenge.RW_annals_k17_paths_joined
set_option Elab.async false
set_option linter.all false
set_option maxRecDepth 100000
namespace L2
open PySem PySem.Spec PyProof.Rows
abbrev Key:=Sum Int Str
def keyIs:Key -> Value -> Bool
 | .inl k,v=>Value.isInt k v
 | .inr x,v=>Value.isStrOf x v
def keyH (w:World):Key -> Int
 | .inl k=>hashInt k
 | .inr x=>hashStr w x
theorem z8:∀ {k:Key} {v:Value},keyIs k v = true -> (∃ i t,k = Sum.inl i /\ v = Value.int i t) \/ (∃ x t,k = Sum.inr x /\ v = Value.str x t)
 | .inl i,v,h=>by
  obtain ⟨t,e⟩:=Value.isInt_shape (k:=i) (v:=v) h
  exact .inl ⟨i,t,rfl,e⟩
 | .inr x,v,h=>by
  obtain ⟨t,e⟩:=Value.isStrOf_shape (x:=x) (v:=v) h
  exact .inr ⟨x,t,rfl,e⟩
theorem keyIs_int (i:Int) (t:Tok):keyIs (.inl i) (.int i t) = true:=by simp [keyIs,Value.isInt]
theorem keyIs_str (x:Str) (t:Tok):keyIs (.inr x) (.str x t) = true:=by simp [keyIs,Value.isStrOf]
theorem key_ll (a b:Int):decide ((Sum.inl a:Key) = Sum.inl b) = (a == b):=by
 by_cases e:a = b
 ·subst e; simp
 ·have h:¬ (Sum.inl a:Key) = Sum.inl b:=fun q=>e (Sum.inl.inj q)
  rw [decide_eq_false h]
  exact (beq_eq_false_iff_ne.mpr e).symm
theorem key_rr (a b:Str):decide ((Sum.inr a:Key) = Sum.inr b) = decide (a = b):=by
 by_cases e:a = b
 ·subst e; simp
 ·have h:¬ (Sum.inr a:Key) = Sum.inr b:=fun q=>e (Sum.inr.inj q)
  rw [decide_eq_false h,decide_eq_false e]
theorem key_lr (a:Int) (b:Str):decide ((Sum.inl a:Key) = Sum.inr b) = false:=decide_eq_false (fun q=>nomatch q)
theorem key_rl (a:Str) (b:Int):decide ((Sum.inr a:Key) = Sum.inl b) = false:=decide_eq_false (fun q=>nomatch q)
def mixKind (prog:Program) (w:World):PySem.KeyKind prog w Key where
 is:=keyIs
 hash:=keyH w
 inj:=fun v a b ha hb=>by
  rcases z8 ha with ⟨i,t,rfl,rfl⟩ | ⟨x,t,rfl,rfl⟩
  ·rcases z8 hb with ⟨j,u,rfl,e⟩ | ⟨y,u,rfl,e⟩
   ·injection e with e1 _; rw [e1]
   ·exact nomatch e
  ·rcases z8 hb with ⟨j,u,rfl,e⟩ | ⟨y,u,rfl,e⟩
   ·exact nomatch e
   ·injection e with e1 _; rw [e1]
 byValue:=fun k v h=>by
  rcases z8 h with ⟨i,t,rfl,rfl⟩ | ⟨x,t,rfl,rfl⟩ <;> rfl
 pyHash:=fun hv h=>by
  rcases z8 hv with ⟨i,t,rfl,rfl⟩ | ⟨x,t,rfl,rfl⟩
  ·exact wpAny_pyHash_int h
  ·exact wpAny_pyHash_str h
 eqBool:=fun hu hv h=>by
  rcases z8 hu with ⟨i,t,rfl,rfl⟩ | ⟨x,t,rfl,rfl⟩
  ·rcases z8 hv with ⟨j,u,rfl,rfl⟩ | ⟨y,u,rfl,rfl⟩
   ·rw [key_ll] at h; exact wpAny_eqBool_int h
   ·rw [key_lr] at h; exact SeqAt.EqAt.int_str i t y u _ _ _ _ h
  ·rcases z8 hv with ⟨j,u,rfl,rfl⟩ | ⟨y,u,rfl,rfl⟩
   ·rw [key_rl] at h; exact SeqAt.EqAt.str_int x t j u _ _ _ _ h
   ·rw [key_rr] at h; exact wpAny_eqBool_str h
 «strs»:=fun k x t v h=>by
  rcases z8 h with ⟨i,u,rfl,e⟩ | ⟨y,u,rfl,e⟩
  ·exact nomatch e
  ·injection e with e1 _
   subst e1
   cases v <;> rfl
theorem mixKind_int (prog:Program) (w:World) (i:Int) (t:Tok):(mixKind prog w).is (.inl i) (.int i t) = true:=keyIs_int i t
theorem mixKind_str (prog:Program) (w:World) (x:Str) (t:Tok):(mixKind prog w).is (.inr x) (.str x t) = true:=keyIs_str x t
end L2
namespace L2
open PySem PySem.Spec PyProof.Rows
inductive V where
 | non | bl (b:Bool) | int (i:Int) | str (x:Str) | byt (b:Array UInt8) | flt (b:UInt64) | ref (a:Addr) | ty (n:String)
 deriving DecidableEq
def RelV:V -> Value -> Prop
 | .non,u=>u = Value.none
 | .bl b,u=>u = Value.bool b
 | .int i,u=>∃ t,u = Value.int i t
 | .str x,u=>∃ t,u = Value.str x t
 | .byt b,u=>∃ t,u = Value.bytes b t
 | .flt b,u=>∃ t,u = Value.float b t
 | .ref a,u=>u = Value.ref a
 | .ty n,u=>u = Value.type n
abbrev Vals:List V -> List Value -> Prop:=Paired RelV
theorem Vals.length {xs:List V} {us:List Value} (r:Vals xs us):xs.length = us.length:=Paired.length r
theorem Vals.get:∀ {xs:List V} {us:List Value} {i:Nat} {x:V},Vals xs us -> xs[i]? = some x -> ∃ u,us[i]? = some u /\ RelV x u
 | _,_,_,_,.nil,e=>by simp at e
 | _,_,0,_,.cons r _,e=>by simp at e; subst e; exact ⟨_,rfl,r⟩
 | _,_,i + 1,x,.cons _ t,e=>by
  obtain ⟨u,h1,h2⟩:=Vals.get (i:=i) (x:=x) t (by simpa using e)
  exact ⟨u,by simpa using h1,h2⟩
theorem Vals.set {x:V} {u:Value} (r:RelV x u):∀ {xs:List V} {us:List Value} (i:Nat),Vals xs us -> Vals (xs.set i x) (us.set i u)
 | _,_,_,.nil=>.nil
 | _,_,0,.cons _ t=>.cons r t
 | _,_,i + 1,.cons q t=>.cons q (Vals.set r i t)
theorem Vals.append:∀ {xs ys:List V} {us ws:List Value},Vals xs us -> Vals ys ws -> Vals (xs ++ ys) (us ++ ws)
 | _,_,_,_,.nil,s=>s
 | _,_,_,_,.cons r t,s=>.cons r (Vals.append t s)
theorem Vals.take:∀ {xs:List V} {us:List Value} (n:Nat),Vals xs us -> Vals (xs.take n) (us.take n)
 | _,_,0,_=>.nil
 | _,_,_ + 1,.nil=>.nil
 | _,_,n + 1,.cons r t=>.cons r (Vals.take n t)
theorem Vals.drop:∀ {xs:List V} {us:List Value} (n:Nat),Vals xs us -> Vals (xs.drop n) (us.drop n)
 | _,_,0,r=>r
 | _,_,_ + 1,.nil=>.nil
 | _,_,n + 1,.cons _ t=>Vals.drop n t
def RelO:Option V -> Option Value -> Prop
 | some v,some u=>RelV v u
 | none,none=>True
 | _,_=>False
def KV {κ:Type}:List (κ × V) -> List (κ × Value) -> Prop:=Paired fun (p:κ × V) (q:κ × Value)=>p.1 = q.1 /\ RelV p.2 q.2
def kV:Key -> V
 | .inl i=>.int i
 | .inr x=>.str x
inductive HO where
 | lst (xs:List V)
 | tup (xs:List V)
 | dK (kvs:List (Key × V)) | dT (kvs:List (List Key × V))
 | set (S:Int -> Bool) (n:Nat)
 | ins (C dx:Addr) (fs:List (Str × V))
 | own (x:Addr)
 | xd (fs:List (Str × V))
 | met (f x:Addr)
 | rng (lo hi:Int)
 | frz (o:Obj) (u:HO)
 | tbl (ps:Array Value)
 | ext (φ:Heap -> Prop)
abbrev Hp:=Addr -> Option HO
def upd (H:Hp) (a:Addr) (o:HO):Hp:=fun b=>if b = a then some o else H b
theorem zB {H:Hp} {a:Addr} {o:HO}:upd H a o a = some o:=by unfold upd; rw [if_pos rfl]
theorem zD {H:Hp} {a b:Addr} {o:HO} (h:b ≠ a):upd H a o b = H b:=by unfold upd; rw [if_neg h]
theorem qW {H:Hp} {a:Addr} {o u:HO}:upd (upd H a o) a u = upd H a u:=by
 funext b; unfold upd; split <;> rfl
theorem ne_of {H:Hp} {a b:Addr} {o u:HO} (h:H a = some o) (h':H b = some u) (d:o ≠ u):a ≠ b:=by
 intro e; subst e; rw [h] at h'; exact d (Option.some.inj h')
theorem zI {H:Hp} {a b:Addr} {o:HO} (h:H a = some o) (h':H b = none):a ≠ b:=by
 intro e; subst e; rw [h] at h'; cases h'
section
variable (P:Program) (w:World)
def ObjOk (H:Hp) (h:Heap) (a:Addr):HO -> Prop
 | .lst xs=>xs.length <= sizeLine /\ ∃ (its:List Value) (n:Nat),Vals xs its /\ h.get? a = some { cls:=.type "list",data:=.seq its.toArray n }
 | .tup xs=>xs.length <= sizeLine /\ ∃ its:List Value,Vals xs its /\ IsTup h a its.toArray
 | .dK kvs=>kvs.length <= sizeLine /\ (a == sysModules) = false /\ ∃ vs,KV kvs vs /\ h.DictOf (mixKind P w) a vs
 | .dT kvs=>kvs.length <= sizeLine /\ (a == sysModules) = false /\ ∃ xs:List (List Key × Addr × Value),
   Paired (fun (p:List Key × V) (q:List Key × Addr × Value)=>p.1 = q.1 /\ H q.2.1 = some (.tup (p.1.map kV)) /\ RelV p.2 q.2.2) kvs xs /\
   ∃ o es ep,h.get? a = some o /\ o.ExactDict /\ o.data = .dict es ep /\ es.toList = xs.map (entryOfKey (tupleKind (mixKind P w))) /\ (xs.map (·.1)).Nodup
 | .set S n=>h.SetOf (intKind P w) a S n
 | .ins C dx fs=>H dx = some (.own a) /\ fs.length <= 1000 /\ dx ≠ a /\ h.get? a = some (PySem.W.instObj C dx) /\
   ∃ mA,h.Ns1 dx mA /\ (∀ f,RelO (fs.lookup f) (mA f)) /\ PySem.Within mA (fs.map (·.1))
 | .own _=>∃ o,h.get? a = some o
 | .xd fs=>∃ mA,h.Ns1 a mA /\ ∀ f,RelO (fs.lookup f) (mA f)
 | .rng lo hi=>∃ t u v,h.get? a = some { cls:=.type "range",data:=.fields #[.int lo t,.int hi u,.int 1 v] }
 | .frz o u=>h.get? a = some o /\ ObjOk H h a u
 | .tbl ps=>h.get? a = some { cls:=.none,data:=.fields ps }
 | .met f x=>h.get? a = some (PySem.W.methodObj (.ref f) (.ref x))
 | .ext φ=>φ h /\ (∃ o,h.get? a = some o) /\ ∀ h1 h2:Heap,φ h1 -> (∀ o,h1.get? a = some o -> h2.get? a = some o) -> φ h2
def HOk (H:Hp) (h:Heap):Prop:=∀ a o,H a = some o -> ObjOk P w H h a o
end
section
variable {P:Program} {w:World} {H H':Hp} {h h':Heap} {a:Addr} {o:HO}
theorem ObjOk.lt (x:ObjOk P w H h a o):a < h.objs.size:=by
 cases o with
 | lst xs=>obtain ⟨_,_,_,_,e⟩:=x; exact Heap.lt_size e
 | tup xs=>obtain ⟨_,_,_,p⟩:=x; exact p.lt
 | dK kvs=>obtain ⟨_,_,_,_,o,_,_,e,_⟩:=x; exact Heap.lt_size e
 | dT kvs=>obtain ⟨_,_,_,_,o,_,_,e,_⟩:=x; exact Heap.lt_size e
 | set S n=>obtain ⟨o,_,_,_,e,_⟩:=x; exact Heap.lt_size e
 | ins C dx fs=>obtain ⟨_,_,_,e,_⟩:=x; exact Heap.lt_size e
 | own y=>obtain ⟨_,e⟩:=x; exact Heap.lt_size e
 | xd fs=>obtain ⟨_,⟨_,_,_,e,_⟩,_⟩:=x; exact Heap.lt_size e
 | rng lo hi=>obtain ⟨_,_,_,e⟩:=x; exact Heap.lt_size e
 | frz ob u=>obtain ⟨e,_⟩:=x; exact Heap.lt_size e
 | tbl ps=>exact Heap.lt_size (show h.get? a = some _ from x)
 | met f y=>exact Heap.lt_size (show h.get? a = some _ from x)
 | ext φ=>obtain ⟨_,⟨_,e⟩,_⟩:=x; exact Heap.lt_size e
theorem Paired.mapP {α β:Type} {F G:α -> β -> Prop}:∀ {l₁:List α} {l₂:List β},Paired F l₁ l₂ -> (∀ a b,F a b -> G a b) -> Paired G l₁ l₂
 | _,_,.nil,_=>.nil
 | _,_,.cons r t,f=>.cons (f _ _ r) (Paired.mapP t f)
theorem ObjOk.stay (x:ObjOk P w H h a o) (k:∀ b u,(b = a \/ H b = some (.own a)) -> h.get? b = some u -> h'.get? b = some u)
  (ho:∀ b,H b = some (.own a) -> H' b = some (.own a)) (ht:∀ b xs,H b = some (.tup xs) -> H' b = some (.tup xs)):ObjOk P w H' h' a o:=by
 induction o with
 | lst xs=>obtain ⟨z,its,n,r,e⟩:=x; exact ⟨z,its,n,r,k _ _ (.inl rfl) e⟩
 | tup xs=>obtain ⟨z,its,r,ob,e,c⟩:=x; exact ⟨z,its,r,ob,k _ _ (.inl rfl) e,c⟩
 | dK kvs=>obtain ⟨z,y,vs,r,ob,es,ep,e,c⟩:=x; exact ⟨z,y,vs,r,ob,es,ep,k _ _ (.inl rfl) e,c⟩
 | dT kvs =>
  obtain ⟨z,y,xs,r,ob,es,ep,e,c⟩:=x
  exact ⟨z,y,xs,Paired.mapP r fun p q z=>⟨z.1,ht _ _ z.2.1,z.2.2⟩,ob,es,ep,k _ _ (.inl rfl) e,c⟩
 | set S n=>obtain ⟨ob,es,ep,t,e,c⟩:=x; exact ⟨ob,es,ep,t,k _ _ (.inl rfl) e,c⟩
 | ins C dx fs =>
  obtain ⟨d,z,ne,e,mA,⟨od,es,ep,e2,c⟩,r⟩:=x
  exact ⟨ho _ d,z,ne,k _ _ (.inl rfl) e,mA,⟨od,es,ep,k _ _ (.inr d) e2,c⟩,r⟩
 | own y=>obtain ⟨ob,e⟩:=x; exact ⟨ob,k _ _ (.inl rfl) e⟩
 | xd fs=>obtain ⟨mA,⟨od,es,ep,e,c⟩,r⟩:=x; exact ⟨mA,⟨od,es,ep,k _ _ (.inl rfl) e,c⟩,r⟩
 | rng lo hi=>obtain ⟨t,u,v,e⟩:=x; exact ⟨t,u,v,k _ _ (.inl rfl) e⟩
 | frz ob u ih=>obtain ⟨e,q⟩:=x; exact ⟨k _ _ (.inl rfl) e,ih q⟩
 | tbl ps =>
  have e:h.get? a = some { cls:=.none,data:=.fields ps }:=x
  show h'.get? a = some { cls:=.none,data:=.fields ps }
  exact k a _ (.inl rfl) e
 | met f y =>
  have e:h.get? a = some (PySem.W.methodObj (.ref f) (.ref y)):=x
  show h'.get? a = some (PySem.W.methodObj (.ref f) (.ref y))
  exact k a _ (.inl rfl) e
 | ext φ=>obtain ⟨p,⟨o,e⟩,st⟩:=x; exact ⟨st _ _ p fun o q=>k _ _ (.inl rfl) q,⟨o,k _ _ (.inl rfl) e⟩,st⟩
theorem HOk.lt (x:HOk P w H h) (e:H a = some o):a < h.objs.size:=(x a o e).lt
theorem HOk.fresh (x:HOk P w H h) (e:h.objs.size <= a):H a = none:=by
 cases q:H a with
 | none=>rfl
 | some u=>exact absurd (Nat.lt_of_lt_of_le (x.lt q) e) (Nat.lt_irrefl _)
theorem HOk.kept (x:HOk P w H h) (k:∀ b u,h.get? b = some u -> h'.get? b = some u):HOk P w H h':=fun a o e =>
 (x a o e).stay (fun b u _ q=>k b u q) (fun _ q=>q) fun _ _ q=>q
theorem HOk.laid (x:HOk P w H h) (k:∀ b u,h.get? b = some u -> h'.get? b = some u) (hp:h.objs.size <= a) (new:ObjOk P w (upd H a o) h' a o):HOk P w (upd H a o) h':=fun b u e=>by
 have hn:=x.fresh hp
 by_cases hb:b = a
 ·subst hb; rw [zB] at e; cases e; exact new
 ·rw [zD hb] at e
  exact (x b u e).stay (fun c v _ q=>k c v q) (fun c q=>by rw [zD (zI q hn)]; exact q) fun c xs q=>by rw [zD (zI q hn)]; exact q
end
def Rd (H:Hp) (a:Addr) (u:HO):Prop:=H a = some u \/ ∃ o,H a = some (.frz o u)
theorem Rd.ok {P:Program} {w:World} {H:Hp} {h:Heap} {a:Addr} {u:HO} (r:Rd H a u) (x:HOk P w H h):ObjOk P w H h a u:=by
 rcases r with r | ⟨o,r⟩
 ·exact x a u r
 ·obtain ⟨_,q⟩:=x a _ r
  exact q
def Mut:Option HO -> Prop
 | some (.lst _)=>True
 | some (.dK _)=>True
 | some (.dT _)=>True
 | some (.set _ _)=>True
 | some (.ins _ _ _)=>True
 | some (.ext _)=>True
 | _=>False
section
variable {P:Program} {w:World} {H:Hp} {h h':Heap} {x e:Addr} {o':HO}
theorem HOk.write (ok:HOk P w H h) (mu:Mut (H x)) (he:e = x \/ H e = some (.own x)) (k:∀ b u,b ≠ e -> h.get? b = some u -> h'.get? b = some u) (heo:∃ u,h'.get? e = some u)
  (new:ObjOk P w (upd H x o') h' x o'):HOk P w (upd H x o') h':=fun b u q=>by
 have nown:∀ c y,H c = some (.own y) -> c ≠ x:=fun c y r z=>by subst z; rw [r] at mu; exact mu
 have ntup:∀ c xs,H c = some (.tup xs) -> c ≠ x:=fun c xs r z=>by subst z; rw [r] at mu; exact mu
 by_cases hb:b = x
 ·subst hb; rw [zB] at q; cases q; exact new
 ·rw [zD hb] at q
  by_cases hbe:b = e
  ·have q':H b = some (.own x):=by
    rcases he with z | z
    ·exact absurd (hbe.trans z) hb
    ·rw [hbe]; exact z
   rw [q] at q'; cases q'
   obtain ⟨v,hv⟩:=heo
   exact ⟨v,by rw [hbe]; exact hv⟩
  ·refine (ok b u q).stay (fun c v hc r=>k c v ?_ r) (fun c r=>by rw [zD (nown c b r)]; exact r) fun c xs r=>by rw [zD (ntup c xs r)]; exact r
   rcases hc with rfl | hc
   ·exact hbe
   ·rintro rfl
    rcases he with z | z
    ·exact nown c b hc z
    ·rw [hc] at z; cases z; exact hb rfl
end
structure Un (fs ex:List Addr) (H H':Hp) (h h':Heap):Prop where
 keep:∀ b o,h.get? b = some o -> H b = none -> b ∉ fs -> b ∉ ex -> h'.get? b = some o
 slot:∀ b o,h.get? b = some o -> H b = none -> b ∈ fs -> b ∉ ex -> ∃ sl,h'.get? b = some { o with slots:=sl }
 free:∀ b o,h.get? b = some o -> H b = none -> b ∉ ex -> H' b = none
 there:∀ b o,h.get? b = some o -> b ∉ ex -> ∃ o',h'.get? b = some o'
 tups:∀ b xs,H b = some (.tup xs) -> H' b = some (.tup xs)
 frzs:∀ b o u,H b = some (.frz o u) -> H' b = some (.frz o u)
 tbls:∀ b ps,H b = some (.tbl ps) -> ∃ more,H' b = some (.tbl (ps ++ more))
section
variable {fs fs' ex ex':List Addr} {H H1 H2:Hp} {h h1 h2 h':Heap} {a x e:Addr} {o:HO}
theorem Un.any (u:Un fs ex H H1 h h1) {b:Addr} {ob:Obj} (q:h.get? b = some ob) (n:H b = none) (hx:b ∉ ex):∃ sl,h1.get? b = some { ob with slots:=sl }:=by
 by_cases hb:b ∈ fs
 ·exact u.slot b ob q n hb hx
 ·exact ⟨ob.slots,u.keep b ob q n hb hx⟩
theorem Un.kept (k:∀ b u,h.get? b = some u -> h'.get? b = some u):Un fs ex H H h h' :=
 ⟨fun b ob q _ _ _=>k b ob q,fun b ob q _ _ _=>⟨ob.slots,k b ob q⟩,fun _ _ _ n _=>n,fun b ob q _=>⟨ob,k b ob q⟩,fun _ _ q=>q,fun _ _ _ q=>q,fun _ ps q=>⟨#[],by rw [q]; simp⟩⟩
theorem Un.refl:Un fs ex H H h h:=Un.kept fun _ _ q=>q
theorem Un.laid (k:∀ b u,h.get? b = some u -> h'.get? b = some u) (hp:h.objs.size <= a) (hn:H a = none):Un fs ex H (upd H a o) h h' where
 keep:=fun b u q _ _ _=>k b u q
 slot:=fun b u q _ _ _=>⟨u.slots,k b u q⟩
 free:=fun b u q n _=>by rw [zD (Nat.ne_of_lt (Nat.lt_of_lt_of_le (Heap.lt_size q) hp))]; exact n
 there:=fun b u q _=>⟨u,k b u q⟩
 tups:=fun b xs q=>by rw [zD (zI q hn)]; exact q
 frzs:=fun b u xs q=>by rw [zD (zI q hn)]; exact q
 tbls:=fun b ps q=>⟨#[],by rw [zD (zI q hn),q]; simp⟩
theorem Un.write (mu:Mut (H x)) (he:e = x \/ H e = some (.own x)) (k:∀ b u,b ≠ e -> h.get? b = some u -> h'.get? b = some u) (heo:∃ u,h'.get? e = some u):Un fs ex H (upd H x o) h h':=by
 have hx:∀ b,H b = none -> b ≠ x:=fun b n z=>by subst z; rw [n] at mu; exact mu
 have hb:∀ b,H b = none -> b ≠ e:=fun b n z=>by
  subst z
  rcases he with r | r
  ·exact hx b n r
  ·rw [n] at r; cases r
 have hm:∀ b u,H b = some u -> ¬ Mut (some u) -> b ≠ x:=fun b u q nm z=>by subst z; rw [q] at mu; exact nm mu
 refine ⟨fun b u q n _ _=>k b u (hb b n) q,fun b u q n _ _=>⟨u.slots,k b u (hb b n) q⟩,fun b u q n _=>by rw [zD (hx b n)]; exact n,fun b u q _=>?_,
  fun b xs q=>by rw [zD (hm b _ q fun z=>z)]; exact q,fun b u xs q=>by rw [zD (hm b _ q fun z=>z)]; exact q,fun b ps q=>⟨#[],by rw [zD (hm b _ q fun z=>z),q]; simp⟩⟩
 by_cases hbe:b = e
 ·subst hbe; exact heo
 ·exact ⟨u,k b u hbe q⟩
end
def trk (h:Heap) (H:Hp):List Addr:=(List.range h.objs.size).filter fun a=>(H a).isSome
def hidT (h:Heap) (H:Hp):Heap:=PySem.W.hideAll h (trk h H)
theorem hidT_size (h:Heap) (H:Hp):(hidT h H).objs.size = h.objs.size:=PySem.W.hideAll_size _ _
theorem hidT_get {h:Heap} {H:Hp} {b:Addr} {o:Obj} (e:h.get? b = some o) (n:H b = none):(hidT h H).get? b = some o :=
 PySem.W.hideAll_get _ e fun hm=>by
  have q:(H b).isSome = true:=(List.mem_filter.mp hm).2
  rw [n] at q; simp at q
theorem of_hidT {h:Heap} {H:Hp} {b:Addr} {o:Obj} (e:(hidT h H).get? b = some o):h.get? b = some o /\ H b = none:=by
 have e':h.get? b = some o:=PySem.W.of_hideAll (trk h H) e
 refine ⟨e',?_⟩
 cases q:H b with
 | none=>rfl
 | some x =>
  have hm:b ∈ trk h H:=List.mem_filter.mpr ⟨List.mem_range.mpr (Heap.lt_size e'),by simp [q]⟩
  have z:(hidT h H).get? b = none:=PySem.W.hideAll_none (trk h H) hm
  rw [z] at e; cases e
end L2
namespace L2
open PySem PySem.Spec PyProof.Rows
structure Mod (K:PySem.W.Frag) (mg:Str -> Option Value) (base:Heap):Prop where
 kin:K.In base
 glob:base.Ns mainGlobals mg
 blt:∃ mb,base.Ns builtinsNs mb /\ ∀ x:Str,x ≠ "__name__" -> mb x = bootBuiltins x
 nolimit:base.NoLimit
structure Cx where
 prog:Program
 w:World
 K:PySem.W.Frag
 mg:Str -> Option Value
 base:Heap
 A:Around
 N:List Str
 s₀:Shared
 H₀:Hp
 env:Env
 outer:List Env
 stack:List Env
 ex:List Addr
 fn:Str -> Bool
 calm:Bool
 pn:List (Addr × Obj)
 xe:Value -> Shared -> Prop
def frs (l:List Env):List Addr:=l.filterMap (·.frame)
abbrev Cx.fs (X:Cx):List Addr:=frs X.outer
def Vis (sc:Scope) (x:Str):Prop:=sc.names.lookup x = some .local \/ sc.names.lookup x = some .cell \/ sc.names.lookup x = some .free
def Loc (sc:Scope) (x:Str):Prop:=sc.names.lookup x = some .local \/ sc.names.lookup x = some .cell
def Look (env:Env) (h:Heap) (m:Str -> Option Value) (x:Str) (u:Value):Prop :=
 (env.kindOf x = some .local /\ m x = some u) \/ ((env.kindOf x = some .cell \/ env.kindOf x = some .free) /\ ∃ c,env.cells.lookup x = some c /\ h.IsCell c (some u))
structure Cx.Ok (X:Cx):Prop where
 mod:Mod X.K X.mg X.base
 kind:X.env.scope.kind = .function
 glob:X.env.globals = mainGlobals
 blt:X.env.builtins = builtinsNs
 above:X.s₀.heap.objs.size <= X.env.locals
 inj:∀ x y c,X.env.cells.lookup x = some c -> X.env.cells.lookup y = some c -> x = y
 has:∀ x,(X.env.kindOf x = some .cell \/ X.env.kindOf x = some .free) -> ∃ c,X.env.cells.lookup x = some c
 cab:∀ x c,X.fn x = true -> X.env.cells.lookup x = some c -> X.s₀.heap.objs.size <= c
 hd:X.calm = true -> X.A.handled = none
 frames:X.A.frames = some X.stack
 stk:X.stack = X.outer \/ (X.stack = X.env :: X.outer /\ X.env.frame = some X.env.locals)
 exf:∀ b ∈ X.ex,b ≠ X.env.locals /\ ∀ x c,X.env.cells.lookup x = some c -> c ≠ b
 bs:∀ b o,X.base.get? b = some o -> X.s₀.heap.get? b = some o /\ X.H₀ b = none
 bsz:X.base.objs.size <= X.s₀.heap.objs.size
 noex:∀ b o,X.base.get? b = some o -> b ∉ X.ex
 exfs:∀ b ∈ X.ex,b ∉ X.fs
 funs:X.s₀.heap.FunFrames X.base X.outer
 frf:∀ b ∈ X.fs,X.H₀ b = none
structure Inv (X:Cx) (pins:List (Addr × Obj)) (σ:List (Option V)) (H:Hp) (s:Shared):Prop where
 ok:X.Ok
 os:s.os = X.s₀.os
 bare:AllBare s.gens
 base:Un X.fs X.ex X.H₀ H X.s₀.heap s.heap
 loc:∃ m,s.heap.Ns X.env.locals m /\ ∀ (i:Nat) (x:Str) (v:V),X.N[i]? = some x -> σ[i]? = some (some v) -> Vis X.env.scope x -> ∃ u,RelV v u /\ Look X.env s.heap m x u
 cell:∀ x c,X.env.cells.lookup x = some c -> ∃ v,s.heap.IsCell c v
 free:H X.env.locals = none
 freeC:∀ x c,X.env.cells.lookup x = some c -> H c = none
 pin:∀ p ∈ X.pn ++ pins,s.heap.get? p.1 = some p.2 /\ H p.1 = none /\ p.1 ≠ X.env.locals /\ p.1 ∉ X.fs /\ ∀ v,p.2.data ≠ .cell v
 hok:HOk X.prog X.w H s.heap
 len:σ.length = X.N.length
section
variable {X:Cx} {pins:List (Addr × Obj)} {σ:List (Option V)} {H H':Hp} {s:Shared} {h':Heap}
theorem Cx.Ok.nofr (ok:X.Ok) {b:Addr} {o:Obj} (e:X.base.get? b = some o):b ∉ X.fs:=fun hb=>by
 have:=(ok.funs.mem hb).1
 rw [e] at this; cases this
theorem Inv.bs (I:Inv X pins σ H s):∀ b o,X.base.get? b = some o -> s.heap.get? b = some o /\ H b = none:=fun b o e =>
 ⟨I.base.keep b o (I.ok.bs b o e).1 (I.ok.bs b o e).2 (I.ok.nofr e) (I.ok.noex b o e),I.base.free b o (I.ok.bs b o e).1 (I.ok.bs b o e).2 (I.ok.noex b o e)⟩
theorem Inv.bk (I:Inv X pins σ H s):∀ b o,X.base.get? b = some o -> s.heap.get? b = some o:=fun b o e=>(I.bs b o e).1
theorem Inv.mod (I:Inv X pins σ H s):Mod X.K X.mg X.base:=I.ok.mod
theorem Inv.kIn (I:Inv X pins σ H s):X.K.In s.heap:=I.ok.mod.kin.keeps I.bk
theorem Inv.lt (I:Inv X pins σ H s):X.env.locals < s.heap.objs.size:=let ⟨_,hn,_⟩:=I.loc; hn.lt
theorem Inv.sz (I:Inv X pins σ H s):X.s₀.heap.objs.size <= s.heap.objs.size:=Nat.le_trans I.ok.above (Nat.le_of_lt I.lt)
theorem Inv.nofs (I:Inv X pins σ H s) {a:Addr} (h:s.heap.objs.size <= a):a ∉ X.fs:=fun hb=>by
 obtain ⟨_,o,ho,_⟩:=I.ok.funs.mem hb
 exact absurd (Nat.lt_of_lt_of_le (Heap.lt_size ho) (Nat.le_trans I.sz h)) (Nat.lt_irrefl _)
theorem Inv.cne (I:Inv X pins σ H s):∀ x c,X.env.cells.lookup x = some c -> c ≠ X.env.locals:=fun x c e z=>by
 obtain ⟨v,o,ho,hd⟩:=I.cell x c e
 obtain ⟨m,⟨o',es,ep,ho',hd',_⟩,_⟩:=I.loc
 rw [z,ho'] at ho; cases ho; rw [hd'] at hd; cases hd
theorem Inv.funs (I:Inv X pins σ H s):s.heap.FunFrames X.base X.outer:=by
 have all:∀ (l:List Env),(∀ b ∈ frs l,b ∈ X.fs) -> X.s₀.heap.FunFrames X.base l -> s.heap.FunFrames X.base l:=by
  intro l
  induction l with
  | nil=>intro _ _; trivial
  | cons env r ih =>
   intro hs hl
   obtain ⟨hk,⟨L,o,hf,hn,ho,hd⟩,hr⟩:=hl
   have hL:L ∈ X.fs:=hs L (by unfold frs; rw [List.filterMap_cons,hf]; exact List.mem_cons_self)
   obtain ⟨sl,e⟩:=I.base.slot L o ho (I.ok.frf L hL) hL fun z=>I.ok.exfs L z hL
   exact ⟨hk,⟨L,_,hf,hn,e,hd⟩,ih (fun b hb=>hs b (by unfold frs; rw [List.filterMap_cons,hf]; exact List.mem_cons_of_mem _ hb)) hr⟩
 exact all X.outer (fun _ hb=>hb) I.ok.funs
theorem Inv.stack (I:Inv X pins σ H s):s.heap.FunFrames X.base X.stack:=by
 rcases I.ok.stk with e | ⟨e,hf⟩
 ·rw [e]; exact I.funs
 ·rw [e]
  obtain ⟨m,hn,_⟩:=I.loc
  refine .cons (by rw [I.ok.kind]; decide) hf hn ?_ I.funs
  exact Heap.get?_none_of_le (Nat.le_trans I.ok.bsz I.ok.above)
theorem Inv.stkSub (I:Inv X pins σ H s):∀ b ∈ frs X.stack,b ∈ X.env.locals :: X.fs:=fun b hb=>by
 rcases I.ok.stk with e | ⟨e,hf⟩
 ·rw [e] at hb; exact List.mem_cons_of_mem _ hb
 ·rw [e] at hb
  unfold frs at hb
  rw [List.filterMap_cons,hf] at hb
  exact hb
theorem Inv.stkFree (I:Inv X pins σ H s):∀ b ∈ frs X.stack,H b = none:=fun b hb=>by
 rcases List.mem_cons.mp (I.stkSub b hb) with e | hb
 ·rw [e]; exact I.free
 ·obtain ⟨_,o,ho,_⟩:=I.ok.funs.mem hb
  exact I.base.free b o ho (I.ok.frf b hb) fun z=>I.ok.exfs b z hb
theorem Inv.step {g':Array GenState} {t':Nat} {d':Drawn} {ch:List Addr} (I:Inv X pins σ H s)
  (hch:∀ b ∈ ch,(b ∈ X.ex \/ X.s₀.heap.objs.size <= b) /\ b ≠ X.env.locals /\ (∀ x c,X.env.cells.lookup x = some c -> c ≠ b) /\ ∀ p ∈ X.pn ++ pins,p.1 ≠ b)
  (keep:∀ b o,b ≠ X.env.locals -> b ∉ X.fs -> b ∉ ch -> s.heap.get? b = some o -> H b = none -> h'.get? b = some o)
  (slot:∀ b o,b ≠ X.env.locals -> b ∈ X.fs -> b ∉ ch -> s.heap.get? b = some o -> H b = none -> ∃ sl,h'.get? b = some { o with slots:=sl }) (free:∀ b o,b ∉ ch -> s.heap.get? b = some o -> H b = none -> H' b = none)
  (there:∀ b o,b ∉ ch -> s.heap.get? b = some o -> ∃ o',h'.get? b = some o')
  (tups:∀ b xs,H b = some (.tup xs) -> H' b = some (.tup xs)) (frzs:∀ b o u,H b = some (.frz o u) -> H' b = some (.frz o u)) (tbls:∀ b ps,H b = some (.tbl ps) -> ∃ more,H' b = some (.tbl (ps ++ more)))
  (ns:∀ m,s.heap.Ns X.env.locals m -> h'.Ns X.env.locals m) (hok:HOk X.prog X.w H' h') (hg:AllBare g') :
  Inv X pins σ H' { s with heap:=h',gens:=g',drawn:=d',toks:=t' }:=by
 have neL:∀ b o,X.s₀.heap.get? b = some o -> b ≠ X.env.locals:=fun b o e=>Nat.ne_of_lt (Nat.lt_of_lt_of_le (Heap.lt_size e) I.ok.above)
 have neC:∀ b o,X.s₀.heap.get? b = some o -> b ∉ X.ex -> b ∉ ch:=fun b o e hx hb=>by
  rcases (hch b hb).1 with z | z
  ·exact hx z
  ·exact absurd (Nat.lt_of_lt_of_le (Heap.lt_size e) z) (Nat.lt_irrefl _)
 have cellK:∀ x c,X.env.cells.lookup x = some c -> ∀ v,s.heap.IsCell c v -> h'.IsCell c v:=fun x c e v ⟨o,ho,hd⟩=>by
  have nch:c ∉ ch:=fun z=>(hch c z).2.2.1 x c e rfl
  by_cases hc:c ∈ X.fs
  ·obtain ⟨sl,q⟩:=slot c o (I.cne x c e) hc nch ho (I.freeC x c e)
   exact ⟨_,q,hd⟩
  ·exact ⟨o,keep c o (I.cne x c e) hc nch ho (I.freeC x c e),hd⟩
 refine ⟨I.ok,I.os,hg,⟨fun b o e n hb hx=>?_,fun b o e n hb hx=>?_,fun b o e n hx=>?_,fun b o e hx=>?_,fun b xs e=>tups b xs (I.base.tups b xs e),fun b o xs e=>frzs b o xs (I.base.frzs b o xs e),fun b ps e=>?_⟩,?_,fun x c e=>?_,?_,fun x c e=>?_,fun p hp=>?_,hok,I.len⟩
 ·exact keep b o (neL b o e) hb (neC b o e hx) (I.base.keep b o e n hb hx) (I.base.free b o e n hx)
 ·obtain ⟨sl,e1⟩:=I.base.slot b o e n hb hx
  obtain ⟨sl',e2⟩:=slot b _ (neL b o e) hb (neC b o e hx) e1 (I.base.free b o e n hx)
  exact ⟨sl',e2⟩
 ·obtain ⟨o',e1⟩:=I.base.there b o e hx
  exact free b o' (neC b o e hx) e1 (I.base.free b o e n hx)
 ·obtain ⟨o',e1⟩:=I.base.there b o e hx
  exact there b o' (neC b o e hx) e1
 ·obtain ⟨m1,e1⟩:=I.base.tbls b ps e
  obtain ⟨m2,e2⟩:=tbls b _ e1
  exact ⟨m1 ++ m2,by rw [e2,Array.append_assoc]⟩
 ·obtain ⟨m,hn,hl⟩:=I.loc
  refine ⟨m,ns m hn,fun i x v e1 e2 e3=>?_⟩
  obtain ⟨u,r,l⟩:=hl i x v e1 e2 e3
  refine ⟨u,r,?_⟩
  rcases l with l | ⟨k,c,e,z⟩
  ·exact .inl l
  ·exact .inr ⟨k,c,e,cellK x c e _ z⟩
 ·obtain ⟨v,z⟩:=I.cell x c e
  exact ⟨v,cellK x c e v z⟩
 ·obtain ⟨m,⟨o,_,_,ho,_⟩,_⟩:=I.loc
  exact free _ o (fun z=>(hch _ z).2.1 rfl) ho I.free
 ·obtain ⟨v,o,ho,hd⟩:=I.cell x c e
  exact free c o (fun z=>(hch c z).2.2.1 x c e rfl) ho (I.freeC x c e)
 ·obtain ⟨e,n,ne,nf,d⟩:=I.pin p hp
  have nch:p.1 ∉ ch:=fun z=>(hch p.1 z).2.2.2 p hp rfl
  exact ⟨keep p.1 p.2 ne nf nch e n,free p.1 p.2 nch e n,ne,nf,d⟩
theorem Inv.un {t':Nat} (I:Inv X pins σ H s) (u:Un X.fs [] H H' s.heap h') (hok:HOk X.prog X.w H' h'):Inv X pins σ H' { s with heap:=h',toks:=t' }:=by
 obtain ⟨m,⟨o,es,ep,ho,r⟩,_⟩:=id I.loc
 obtain ⟨sl,hL⟩:=u.any ho I.free (by simp)
 exact I.step (g':=s.gens) (d':=s.drawn) (ch:=[]) (fun _ z=>nomatch z) (fun b o _ hb _ e n=>u.keep b o e n hb (by simp)) (fun b o _ hb _ e n=>u.slot b o e n hb (by simp)) (fun b o _ e n=>u.free b o e n (by simp)) (fun b o _ e=>u.there b o e (by simp)) u.tups u.frzs u.tbls (fun m' hm=>by
  obtain ⟨o',es',ep',ho',r'⟩:=hm
  rw [ho] at ho'; cases ho'
  exact ⟨_,es',ep',hL,r'⟩) hok I.bare
theorem Inv.call {g':Array GenState} {t':Nat} {d':Drawn} {ch:List Addr} (I:Inv X pins σ H s) (u:Un (frs X.stack) ch H H' s.heap h') (hok:HOk X.prog X.w H' h') (hg:AllBare g')
  (hch:∀ b ∈ ch,(b ∈ X.ex \/ X.s₀.heap.objs.size <= b) /\ b ≠ X.env.locals /\ (∀ x c,X.env.cells.lookup x = some c -> c ≠ b) /\ ∀ p ∈ X.pn ++ pins,p.1 ≠ b) :
  Inv X pins σ H' { s with heap:=h',gens:=g',drawn:=d',toks:=t' }:=by
 obtain ⟨m,⟨o,es,ep,ho,r⟩,_⟩:=id I.loc
 obtain ⟨sl,hL⟩:=u.any ho I.free fun z=>(hch _ z).2.1 rfl
 exact I.step (ch:=ch) hch (fun b o hL hb hc e n=>u.keep b o e n (fun z=>(List.mem_cons.mp (I.stkSub b z)).elim hL hb) hc) (fun b o _ _ hc e n=>u.any e n hc) (fun b o hc e n=>u.free b o e n hc) (fun b o hc e=>u.there b o e hc) u.tups u.frzs u.tbls (fun m' hm=>by
  obtain ⟨o',es',ep',ho',r'⟩:=hm
  rw [ho] at ho'; cases ho'
  exact ⟨_,es',ep',hL,r'⟩) hok hg
theorem Inv.turned {t':Nat} {it:Addr} (I:Inv X pins σ H s) (k:∀ b o,b ≠ it -> s.heap.get? b = some o -> h'.get? b = some o) (hn:H it = none) (hL:it ≠ X.env.locals)
  (h1:it ∈ X.ex \/ X.s₀.heap.objs.size <= it) (h2:∀ x c,X.env.cells.lookup x = some c -> c ≠ it) (h3:∀ p ∈ X.pn ++ pins,p.1 ≠ it):Inv X pins σ H { s with heap:=h',toks:=t' }:=by
 have nit:∀ b u,H b = some u -> b ≠ it:=fun b u e z=>by rw [z,hn] at e; cases e
 refine I.step (g':=s.gens) (d':=s.drawn) (ch:=[it]) (fun b hb=>?_) (fun b o _ _ hc e _=>k b o (fun z=>hc (by simp [z])) e) (fun b o _ _ hc e _=>⟨o.slots,k b o (fun z=>hc (by simp [z])) e⟩) (fun _ _ _ _ n=>n)
  (fun b o hc e=>⟨o,k b o (fun z=>hc (by simp [z])) e⟩) (fun _ _ e=>e) (fun _ _ _ e=>e) (fun b ps e=>⟨#[],by rw [e]; simp⟩) (fun m hm=>?_) (fun b u e=>?_) I.bare
 ·have e:b = it:=by simpa using hb
  subst e
  exact ⟨h1,hL,h2,h3⟩
 ·obtain ⟨o,es,ep,ho,r⟩:=hm
  exact ⟨o,es,ep,k _ o (Ne.symm hL) ho,r⟩
 ·refine (I.hok b u e).stay (fun c v hc q=>k c v ?_ q) (fun _ q=>q) fun _ _ q=>q
  rcases hc with z | z
  ·rw [z]; exact nit b u e
  ·exact nit c _ z
theorem Inv.tok (I:Inv X pins σ H s) (t:Nat):Inv X pins σ H { s with toks:=t }:=I.un (h':=s.heap) (t':=t) Un.refl I.hok
theorem Inv.kept {t':Nat} (I:Inv X pins σ H s) (k:∀ b u,s.heap.get? b = some u -> h'.get? b = some u):Inv X pins σ H { s with heap:=h',toks:=t' }:=I.un (Un.kept k) (I.hok.kept k)
theorem Inv.laid {a:Addr} {o:HO} {t':Nat} (I:Inv X pins σ H s) (k:∀ b u,s.heap.get? b = some u -> h'.get? b = some u) (hp:s.heap.objs.size <= a) (new:ObjOk X.prog X.w (upd H a o) h' a o) :
  Inv X pins σ (upd H a o) { s with heap:=h',toks:=t' }:=I.un (Un.laid k hp (I.hok.fresh hp)) (I.hok.laid k hp new)
theorem Inv.write {x e:Addr} {o:HO} {t':Nat} (I:Inv X pins σ H s) (mu:Mut (H x)) (he:e = x \/ H e = some (.own x)) (k:∀ b u,b ≠ e -> s.heap.get? b = some u -> h'.get? b = some u) (heo:∃ u,h'.get? e = some u)
  (new:ObjOk X.prog X.w (upd H x o) h' x o):Inv X pins σ (upd H x o) { s with heap:=h',toks:=t' }:=I.un (Un.write mu he k heo) (I.hok.write mu he k heo new)
theorem Inv.pins_of {pins':List (Addr × Obj)} (I:Inv X pins σ H s) (h:∀ p ∈ pins',s.heap.get? p.1 = some p.2 /\ H p.1 = none /\ p.1 ≠ X.env.locals /\ p.1 ∉ X.fs /\ ∀ v,p.2.data ≠ .cell v):Inv X pins' σ H s :=
 ⟨I.ok,I.os,I.bare,I.base,I.loc,I.cell,I.free,I.freeC,fun p hp=>(List.mem_append.mp hp).elim (fun z=>I.pin p (List.mem_append_left _ z)) (h p),I.hok,I.len⟩
theorem nodup_ix {N:List Str} (hN:N.Nodup) {i j:Nat} {x:Str} (a:N[i]? = some x) (b:N[j]? = some x):i = j:=by
 obtain ⟨h1,e1⟩:=List.getElem?_eq_some_iff.mp a
 obtain ⟨h2,e2⟩:=List.getElem?_eq_some_iff.mp b
 exact (List.getElem_inj hN).mp (e1.trans e2.symm)
theorem store_ok2 {M:Model} {A:Around} {E:Value -> Shared -> Prop} {i:Nat} {x:Str} {v:V} {u:Value} {Q:Unit -> Shared -> Prop} (I:Inv X pins σ H s) (hN:X.N.Nodup) (hi:X.N[i]? = some x) (hx:Loc X.env.scope x) (r:RelV v u)
  (h:∀ s',Inv X pins (σ.set i (some v)) H s' -> (∃ a,Heap.SameBut a s.heap s'.heap /\ (a = X.env.locals \/ X.env.cells.lookup x = some a)) -> Q () s') (hf:X.fn x = true \/ X.env.scope.names.lookup x = some .local:=by first | exact .inl rfl | exact .inr rfl | assumption):wpAny M A (storeName X.env x u) Q E s:=by
 obtain ⟨m,hn,hl⟩:=id I.loc
 have hcls:(X.env.scope.kind == .class || (X.env.scope.kind == .module && X.env.locals != X.env.globals)) = false:=by rw [I.ok.kind]; rfl
 have hiσ:i < σ.length:=by rw [I.len]; exact (List.getElem?_eq_some_iff.mp hi).1
 have cne:=I.cne
 have tracked:∀ {a:Addr} {h':Heap},(∃ o,s.heap.get? a = some o /\ H a = none) -> Heap.SameBut a s.heap h' -> HOk X.prog X.w H h':=fun {a h'} ha hs b ob e=>by
  obtain ⟨_,_,hfree⟩:=ha
  refine (I.hok b ob e).stay (fun c w' hc q=>(hs.2 c ?_).trans q) (fun _ q=>q) fun _ _ q=>q
  rintro rfl
  rcases hc with rfl | hc
  ·rw [hfree] at e; cases e
  ·rw [hfree] at hc; cases hc
 rcases hx with hk | hk
 ·refine wpAny_storeName_local hk hn (fun h' hn' hs=>?_) hcls
  obtain ⟨oL,_,_,hoL,_⟩:=id hn
  refine h _ ⟨I.ok,I.os,I.bare,⟨fun b o e n hb hx=>?_,fun b o e n hb hx=>?_,I.base.free,fun b o e hx=>?_,I.base.tups,I.base.frzs,I.base.tbls⟩,⟨_,hn',fun j y v' e1 e2 e3=>?_⟩,fun y c e=>?_,I.free,I.freeC,fun p hp=>?_,tracked ⟨oL,hoL,I.free⟩ hs,by simpa using I.len⟩ ⟨_,hs,.inl rfl⟩
  ·exact (hs.2 b (Nat.ne_of_lt (Nat.lt_of_lt_of_le (Heap.lt_size e) I.ok.above))).trans (I.base.keep b o e n hb hx)
  ·obtain ⟨sl,e1⟩:=I.base.slot b o e n hb hx
   exact ⟨sl,(hs.2 b (Nat.ne_of_lt (Nat.lt_of_lt_of_le (Heap.lt_size e) I.ok.above))).trans e1⟩
  ·obtain ⟨o',e1⟩:=I.base.there b o e hx
   exact ⟨o',(hs.2 b (Nat.ne_of_lt (Nat.lt_of_lt_of_le (Heap.lt_size e) I.ok.above))).trans e1⟩
  ·by_cases hj:j = i
   ·subst hj
    rw [hi] at e1; cases e1
    rw [List.getElem?_set_self hiσ] at e2
    cases e2
    exact ⟨u,r,.inl ⟨hk,by simp⟩⟩
   ·rw [List.getElem?_set_ne (Ne.symm hj)] at e2
    obtain ⟨u',r',q⟩:=hl j y v' e1 e2 e3
    refine ⟨u',r',?_⟩
    rcases q with ⟨k,e⟩ | ⟨k,c,e,z⟩
    ·refine .inl ⟨k,?_⟩
     have:y ≠ x:=fun e=>hj (nodup_ix hN e1 (e ▸ hi))
     simp [this,e]
    ·exact .inr ⟨k,c,e,z.sameBut hs (cne y c e)⟩
  ·obtain ⟨w',z⟩:=I.cell y c e
   exact ⟨w',z.sameBut hs (cne y c e)⟩
  ·obtain ⟨e,n,ne,nf,d⟩:=I.pin p hp
   exact ⟨(hs.2 p.1 ne).trans e,n,ne,nf,d⟩
 ·have hfn:X.fn x = true:=by
   rcases hf with z | z
   ·exact z
   ·rw [z] at hk; cases hk
  obtain ⟨c,hc⟩:=I.ok.has x (.inl hk)
  obtain ⟨w',z⟩:=I.cell x c hc
  refine wpAny_storeName_cell I.ok.kind hk hc z (fun h' hc' hs=>?_)
  obtain ⟨oc,hoc,hocd⟩:=id z
  refine h { s with heap:=h' } ⟨I.ok,I.os,I.bare,⟨fun b o e n hb hx=>?_,fun b o e n hb hx=>?_,I.base.free,fun b o e hx=>?_,I.base.tups,I.base.frzs,I.base.tbls⟩,⟨m,hn.sameBut hs (Ne.symm (cne x c hc)),fun j y v' e1 e2 e3=>?_⟩,fun y c' e=>?_,I.free,I.freeC,fun p hp=>?_,tracked ⟨oc,hoc,I.freeC x c hc⟩ hs,by simpa using I.len⟩ ⟨c,hs,.inr hc⟩
  ·exact (hs.2 b (Nat.ne_of_lt (Nat.lt_of_lt_of_le (Heap.lt_size e) (I.ok.cab x c hfn hc)))).trans (I.base.keep b o e n hb hx)
  ·obtain ⟨sl,e1⟩:=I.base.slot b o e n hb hx
   exact ⟨sl,(hs.2 b (Nat.ne_of_lt (Nat.lt_of_lt_of_le (Heap.lt_size e) (I.ok.cab x c hfn hc)))).trans e1⟩
  ·obtain ⟨o',e1⟩:=I.base.there b o e hx
   exact ⟨o',(hs.2 b (Nat.ne_of_lt (Nat.lt_of_lt_of_le (Heap.lt_size e) (I.ok.cab x c hfn hc)))).trans e1⟩
  ·by_cases hj:j = i
   ·subst hj
    rw [hi] at e1; cases e1
    rw [List.getElem?_set_self hiσ] at e2
    cases e2
    exact ⟨u,r,.inr ⟨.inl hk,c,hc,hc'⟩⟩
   ·rw [List.getElem?_set_ne (Ne.symm hj)] at e2
    obtain ⟨u',r',q⟩:=hl j y v' e1 e2 e3
    refine ⟨u',r',?_⟩
    rcases q with q | ⟨k,c',e,z'⟩
    ·exact .inl q
    ·refine .inr ⟨k,c',e,z'.sameBut hs ?_⟩
     rintro rfl
     exact hj (nodup_ix hN e1 (I.ok.inj _ _ _ e hc ▸ hi))
  ·by_cases hcc:c' = c
   ·subst hcc; exact ⟨_,hc'⟩
   ·obtain ⟨w2,z2⟩:=I.cell y c' e
    exact ⟨w2,z2.sameBut hs hcc⟩
  ·obtain ⟨e,n,ne,nf,d⟩:=I.pin p hp
   refine ⟨(hs.2 p.1 ?_).trans e,n,ne,nf,d⟩
   intro q
   rw [q,hoc] at e
   have q':oc = p.2:=Option.some.inj e
   exact d w' (by rw [← q']; exact hocd)
theorem store_ok {M:Model} {A:Around} {E:Value -> Shared -> Prop} {i:Nat} {x:Str} {v:V} {u:Value} {Q:Unit -> Shared -> Prop} (I:Inv X pins σ H s) (hN:X.N.Nodup) (hi:X.N[i]? = some x) (hx:Loc X.env.scope x) (r:RelV v u)
  (h:∀ s',Inv X pins (σ.set i (some v)) H s' -> Q () s') (hf:X.fn x = true \/ X.env.scope.names.lookup x = some .local:=by first | exact .inl rfl | exact .inr rfl | assumption):wpAny M A (storeName X.env x u) Q E s :=
 store_ok2 I hN hi hx r (fun s' I' _=>h s' I') hf
theorem Inv.call' {s':Shared} {ch:List Addr} (I:Inv X pins σ H s) (ho:s'.os = s.os) (u:Un (frs X.stack) ch H H' s.heap s'.heap) (hok:HOk X.prog X.w H' s'.heap) (hg:AllBare s'.gens)
  (hch:∀ b ∈ ch,(b ∈ X.ex \/ X.s₀.heap.objs.size <= b) /\ b ≠ X.env.locals /\ (∀ x c,X.env.cells.lookup x = some c -> c ≠ b) /\ ∀ p ∈ X.pn ++ pins,p.1 ≠ b):Inv X pins σ H' s':=by
 obtain ⟨h',g',d',t',o'⟩:=s'
 have e:o' = s.os:=ho
 subst e
 exact I.call (g':=g') (t':=t') (d':=d') u hok hg hch
end
abbrev XK:=Value -> Option Addr -> Hp -> Prop
abbrev St:=List (Option V)
abbrev VK:=V -> Hp -> Prop
abbrev TE:=St -> Hp -> VK -> Prop
abbrev TT:=St -> Hp -> (Bool -> Hp -> Prop) -> Prop
abbrev TA:=St -> Hp -> (List V -> Hp -> Prop) -> Prop
structure Ends where
 nx:St -> Hp -> Prop
 rt:VK
 bk:St -> Hp -> Prop:=fun _ _=>False
 ct:St -> Hp -> Prop:=fun _ _=>False
abbrev TS:=Ends -> St -> Hp -> Prop
def EP (X:Cx) (pins:List (Addr × Obj)) (σ:St) (Q:VK) (u:Value) (s':Shared):Prop:=∃ v H',Inv X pins σ H' s' /\ RelV v u /\ Q v H'
def TP (X:Cx) (pins:List (Addr × Obj)) (σ:St) (Q:Bool -> Hp -> Prop) (b:Bool) (s':Shared):Prop:=∃ H',Inv X pins σ H' s' /\ Q b H'
def AP (X:Cx) (pins:List (Addr × Obj)) (σ:St) (Q:List V -> Hp -> Prop) (us:List Value) (s':Shared):Prop:=∃ vs H',Inv X pins σ H' s' /\ Vals vs us /\ Q vs H'
def SP (X:Cx) (pins:List (Addr × Obj)) (D:Ends) (f:Flow) (s':Shared):Prop :=
 match f with
 | .next=>∃ σ' H',Inv X pins σ' H' s' /\ D.nx σ' H'
 | .brk=>∃ σ' H',Inv X pins σ' H' s' /\ D.bk σ' H'
 | .cont=>∃ σ' H',Inv X pins σ' H' s' /\ D.ct σ' H'
 | .ret u=>∃ v σ' H',Inv X pins σ' H' s' /\ RelV v u /\ D.rt v H'
def PE (X:Cx) (e:Expr) (t:TE):Prop :=
 ∀ (pins:List (Addr × Obj)) (s:Shared) (σ:St) (H:Hp) (Q:VK),Inv X pins σ H s -> t σ H Q -> wpAny (model X.prog X.w) X.A (eval e X.env) (EP X pins σ Q) X.xe s
def PT (X:Cx) (e:Expr) (t:TT):Prop :=
 ∀ (pins:List (Addr × Obj)) (s:Shared) (σ:St) (H:Hp) (Q:Bool -> Hp -> Prop),Inv X pins σ H s -> t σ H Q -> wpAny (model X.prog X.w) X.A (isTrue e X.env (eval e X.env)) (TP X pins σ Q) X.xe s
def PW (X:Cx) (e:Expr) (t:TT):Prop :=
 ∀ (whole:Sem Value) (pins:List (Addr × Obj)) (s:Shared) (σ:St) (H:Hp) (Q:Bool -> Hp -> Prop),Inv X pins σ H s -> t σ H Q -> wpAny (model X.prog X.w) X.A (isTrue e X.env whole) (TP X pins σ Q) X.xe s
theorem PW.pt {X:Cx} {e:Expr} {t:TT} (h:PW X e t):PT X e t:=h _
def PA (X:Cx) (es:List Expr) (t:TA):Prop :=
 ∀ (pos:Pos) (pins:List (Addr × Obj)) (s:Shared) (σ:St) (H:Hp) (Q:List V -> Hp -> Prop),Inv X pins σ H s -> t σ H Q -> wpAny (model X.prog X.w) X.A (spliced (backTo pos (starEach es X.env))) (AP X pins σ Q) X.xe s
def PS (X:Cx) (st:Stmt) (t:TS):Prop :=
 ∀ (pins:List (Addr × Obj)) (s:Shared) (σ:St) (H:Hp) (D:Ends),Inv X pins σ H s -> t D σ H -> wpAny (model X.prog X.w) X.A (exec st X.env) (SP X pins D) X.xe s
def PSs (X:Cx) (st:List Stmt) (t:TS):Prop :=
 ∀ (pins:List (Addr × Obj)) (s:Shared) (σ:St) (H:Hp) (D:Ends),Inv X pins σ H s -> t D σ H -> wpAny (model X.prog X.w) X.A (execs st X.env) (SP X pins D) X.xe s
theorem thn {α:Type} {t:Sem α} {Q Q':α -> Shared -> Prop} {M:Model} {A:Around} {E:Value -> Shared -> Prop} {s:Shared} (h:wpAny M A t Q E s) (hQ:∀ a s,Q a s -> Q' a s):wpAny M A t Q' E s:=wpAny_mono h hQ fun _ _ x=>x
end L2
namespace L2
open PySem PySem.Spec PyProof.Rows
section
variable {X:Cx}
def tVar (i:Nat):TE:=fun σ H Q=>∃ v,σ[i]? = some (some v) /\ Q v H
def tC (v:V):TE:=fun _ H Q=>Q v H
theorem pe_var {i:Nat} {x:Str} {pos:Pos} (hN:X.N[i]? = some x) (hv:Vis X.env.scope x) (hd:(x == ("__debug__":Str)) = false:=by decide) (hcd:(x == ("__classdict__":Str)) = false:=by decide):PE X (.Name x pos) (tVar i):=by
 intro pins s σ H Q I h
 obtain ⟨v,e,h⟩:=h
 obtain ⟨m,hn,hl⟩:=I.loc
 obtain ⟨u,r,l⟩:=hl i x v hN e hv
 have fin:EP X pins σ Q u s:=⟨v,H,I,r,h⟩
 rcases l with ⟨hk,hm⟩ | ⟨hk,c,hc,hcell⟩
 ·exact wpAny_Name (wpAny_loadName_local I.ok.kind hk hn hm fin) hd
 ·rcases hk with hk | hk
  ·exact wpAny_Name (wpAny_loadName_cell I.ok.kind hk hc hcell fin) hd
  ·exact wpAny_Name (wpAny_loadName_free I.ok.kind hk hc hcell fin hcd) hd
theorem zG {i j pos}:PE X (.Constant (.int i) j pos) (tC (.int i)):=fun _ _ _ H _ I h=>wpAny_Constant_int ⟨.int i,H,I.tok _,⟨_,rfl⟩,h⟩
theorem pe_bl {b j pos}:PE X (.Constant (.bool b) j pos) (tC (.bl b)):=fun _ _ _ H _ I h=>Constant_bool ⟨.bl b,H,I,rfl,h⟩
theorem pe_non {j pos}:PE X (.Constant .none j pos) (tC .non):=fun _ _ _ H _ I h=>Constant_none ⟨.non,H,I,rfl,h⟩
theorem zS {x j pos}:PE X (.Constant (.str x) j pos) (tC (.str x)):=fun _ _ _ H _ I h=>Calls.Constant_str ⟨.str x,H,I.tok _,⟨_,rfl⟩,h⟩
def Gl (X:Cx) (x:Str):Prop:=X.env.kindOf x = some .globalImplicit
theorem ld_glob {E:Value -> Shared -> Prop} {pins:List (Addr × Obj)} {s:Shared} {σ:St} {H:Hp} {x:Str} {u:Value} {pos:Pos} {Q:Value -> Shared -> Prop} (I:Inv X pins σ H s) (hg:Gl X x) (hm:X.mg x = some u) (h:Q u s)
  (hd:(x == ("__debug__":Str)) = false:=by decide):wpAny (model X.prog X.w) X.A (eval (.Name x pos) X.env) Q E s :=
 Calls.Name_function_global I.ok.kind hg (Calls.loadGlobal_global (by rw [I.ok.glob]; exact I.mod.glob.keeps I.bk) hm h) hd
theorem qY {E:Value -> Shared -> Prop} {pins:List (Addr × Obj)} {s:Shared} {σ:St} {H:Hp} {x:Str} {u:Value} {pos:Pos} {Q:Value -> Shared -> Prop} (I:Inv X pins σ H s) (hg:Gl X x) (hm:X.mg x = none) (hv:bootBuiltins x = some u) (h:Q u s)
  (hn:x ≠ "__name__":=by decide) (hd:(x == ("__debug__":Str)) = false:=by decide):wpAny (model X.prog X.w) X.A (eval (.Name x pos) X.env) Q E s:=by
 obtain ⟨mb,h1,h2⟩:=I.mod.blt
 exact Calls.Name_function_global I.ok.kind hg (Calls.loadGlobal_builtin (by rw [I.ok.glob]; exact I.mod.glob.keeps I.bk) hm (by rw [I.ok.blt]; exact h1.keeps I.bk) ((h2 x hn).trans hv) h) hd
theorem pe_glob {x:Str} {v:V} {u:Value} {pos:Pos} (hg:Gl X x) (hm:X.mg x = some u) (r:RelV v u) (hd:(x == ("__debug__":Str)) = false:=by decide):PE X (.Name x pos) (tC v) :=
 fun _ _ _ H _ I h=>ld_glob I hg hm ⟨v,H,I,r,h⟩ hd
theorem jI {x:Str} {v:V} {u:Value} {pos:Pos} (hg:Gl X x) (hm:X.mg x = none) (hv:bootBuiltins x = some u) (r:RelV v u) (hn:x ≠ "__name__":=by decide) (hd:(x == ("__debug__":Str)) = false:=by decide):PE X (.Name x pos) (tC v) :=
 fun _ _ _ H _ I h=>qY I hg hm hv ⟨v,H,I,r,h⟩ hn hd
variable {a b:Expr} {ta tb:TE} {pos:Pos}
def PC (X:Cx) (op:CmpOp) (a b:Expr) (t:TE):Prop :=
 ∀ (pins:List (Addr × Obj)) (s:Shared) (σ:St) (H:Hp) (Q:VK),Inv X pins σ H s -> t σ H Q ->
  wpAny (model X.prog X.w) X.A (eval a X.env) (fun v s₁=>wpAny (model X.prog X.w) X.A (eval b X.env) (fun u s₂=>wpAny (model X.prog X.w) X.A (compareOp op v u) (EP X pins σ Q) X.xe s₂) X.xe s₁) X.xe s
variable {tA tB':TT} {rest:List Expr}
def tAnd (t u:TT):TT:=fun σ H Q=>t σ H fun c H1=>if c = true then u σ H1 Q else Q false H1
def tOr (t u:TT):TT:=fun σ H Q=>t σ H fun c H1=>if c = true then Q true H1 else u σ H1 Q
def tNot (t:TT):TT:=fun σ H Q=>t σ H fun c H1=>Q (!c) H1
theorem pw_and1 (ha:PT X a tA):PW X (.BoolOp .And [a] pos) tA:=by
 intro wh pins s σ H Q I h
 refine isTrue_and (thn (ha pins s σ H Q I h) fun c s1 e=>?_)
 cases c with
 | true=>exact isTrue_and_nil e
 | false=>exact e
theorem jF (ha:PT X a tA):PW X (.BoolOp .Or [a] pos) tA:=by
 intro wh pins s σ H Q I h
 refine isTrue_or (thn (ha pins s σ H Q I h) fun c s1 e=>?_)
 cases c with
 | false=>exact isTrue_or_nil e
 | true=>exact e
theorem pw_and (ha:PT X a tA) (hb:PW X (.BoolOp .And (b :: rest) pos) tB'):PW X (.BoolOp .And (a :: b :: rest) pos) (tAnd tA tB'):=by
 intro wh pins s σ H Q I h
 refine isTrue_and (thn (ha pins s σ H _ I h) fun c s1 ⟨H1,I1,q1⟩=>?_)
 cases c with
 | true=>exact hb wh pins s1 σ H1 Q I1 q1
 | false=>exact ⟨H1,I1,q1⟩
theorem pw_or (ha:PT X a tA) (hb:PW X (.BoolOp .Or (b :: rest) pos) tB'):PW X (.BoolOp .Or (a :: b :: rest) pos) (tOr tA tB'):=by
 intro wh pins s σ H Q I h
 refine isTrue_or (thn (ha pins s σ H _ I h) fun c s1 ⟨H1,I1,q1⟩=>?_)
 cases c with
 | true=>exact ⟨H1,I1,q1⟩
 | false=>exact hb wh pins s1 σ H1 Q I1 q1
theorem jB (ha:PT X a tA):PT X (.UnaryOp .Not a pos) (tNot tA):=by
 intro pins s σ H Q I h
 exact isTrue_not (ha pins s σ H (fun c H1=>Q (!c) H1) I h)
def tAndV (ta tb:TE):TE:=fun σ H Q=>ta σ H fun x H1=>∃ c,x = .bl c /\ if c = true then tb σ H1 Q else Q (.bl false) H1
theorem pe_one {op} {t:TE} (h:PE X a t):PE X (.BoolOp op [a] pos) t:=fun pins s σ H Q I hw=>BoolOp_one (h pins s σ H Q I hw)
theorem pe_and (ha:PE X a ta) (hb:PE X (.BoolOp .And (b :: rest) pos) tb):PE X (.BoolOp .And (a :: b :: rest) pos) (tAndV ta tb):=by
 intro pins s σ H Q I h
 refine BoolOp_and (thn (ha pins s σ H _ I h) fun v s1 ⟨x,H1,I1,r1,q1⟩=>?_)
 obtain ⟨c,rfl,q1⟩:=q1
 cases r1
 refine wpAny_truthy_bool ?_
 cases c with
 | true=>exact hb pins s1 σ H1 Q I1 q1
 | false=>exact ⟨.bl false,H1,I1,rfl,q1⟩
def tIf (t:TT) (ta tb:TE):TE:=fun σ H Q=>t σ H fun c H1=>if c = true then ta σ H1 Q else tb σ H1 Q
theorem pe_ifExp {c:Expr} (hc:PT X c tA) (ha:PE X a ta) (hb:PE X b tb):PE X (.IfExp c a b pos) (tIf tA ta tb):=by
 intro pins s σ H Q I h
 refine wpAny_IfExp (thn (hc pins s σ H _ I h) fun d s1 ⟨H1,I1,q1⟩=>?_)
 cases d with
 | true=>exact ha pins s1 σ H1 Q I1 q1
 | false=>exact hb pins s1 σ H1 Q I1 q1
end
end L2
namespace L2
open PySem PySem.Spec PyProof.Rows
def SqL (K:PySem.W.Frag) (H:Hp) (a:Addr) (xs:List V):Prop :=
 Rd H a (.lst xs) \/
  ∃ (o:Obj) (its:Array Value) (n:Nat),K.lookup a = some o /\ o.cls = .type "list" /\ o.dict = none /\ o.data = .seq its n /\ its.size <= sizeLine /\ Vals xs its.toList
def SqT (K:PySem.W.Frag) (H:Hp) (a:Addr) (xs:List V):Prop :=
 Rd H a (.tup xs) \/
  ∃ (o:Obj) (its:Array Value) (n:Nat),K.lookup a = some o /\ o.cls = .type "tuple" /\ o.data = .seq its n /\ its.size <= sizeLine /\ Vals xs its.toList
def absV:Value -> Option V
 | .none=>some .non
 | .bool b=>some (.bl b)
 | .int i _=>some (.int i)
 | .str x _=>some (.str x)
 | .bytes b _=>some (.byt b)
 | .float b _=>some (.flt b)
 | .ref a=>some (.ref a)
 | .type n=>some (.ty n)
 | _=>none
theorem RelV.abs {x:V} {u:Value} (r:RelV x u):absV u = some x:=by
 cases x with
 | non=>cases r; rfl
 | bl _=>cases r; rfl
 | int _=>obtain ⟨t,rfl⟩:=r; rfl
 | str _=>obtain ⟨t,rfl⟩:=r; rfl
 | byt _=>obtain ⟨t,rfl⟩:=r; rfl
 | flt _=>obtain ⟨t,rfl⟩:=r; rfl
 | ref _=>cases r; rfl
 | ty _=>cases r; rfl
theorem RelV.inj {x y:V} {u:Value} (r:RelV x u) (q:RelV y u):x = y:=Option.some.inj (r.abs.symm.trans q.abs)
theorem Vals.inj:∀ {xs ys:List V} {us:List Value},Vals xs us -> Vals ys us -> xs = ys
 | _,_,_,.nil,.nil=>rfl
 | _,_,_,.cons r t,.cons r' t'=>by rw [r.inj r',Vals.inj t t']
section
variable {X:Cx} {pins:List (Addr × Obj)} {σ:St} {H:Hp} {s:Shared} {a:Addr} {xs ys:List V}
theorem SqL.of {K:PySem.W.Frag} (h:H a = some (.lst xs)):SqL K H a xs:=.inl (.inl h)
theorem SqT.of {K:PySem.W.Frag} (h:H a = some (.tup xs)):SqT K H a xs:=.inl (.inl h)
theorem Inv.list (I:Inv X pins σ H s) (h:SqL X.K H a xs):∃ its:List Value,Vals xs its /\ PlainL s.heap a its.toArray /\ xs.length <= sizeLine:=by
 rcases h with h | ⟨o,its,n,hk,hc,hd,hs,hz,r⟩
 ·obtain ⟨z,its,n,r,e⟩:=h.ok I.hok
  exact ⟨its,r,⟨_,n,e,rfl,rfl,rfl⟩,z⟩
 ·refine ⟨its.toList,r,⟨o,n,I.kIn a o hk,hc,hd,by simpa using hs⟩,?_⟩
  have e:=r.length
  simp only [Array.length_toList] at e
  omega
theorem Inv.tuple (I:Inv X pins σ H s) (h:SqT X.K H a xs):∃ its:List Value,Vals xs its /\ IsTup s.heap a its.toArray /\ xs.length <= sizeLine:=by
 rcases h with h | ⟨o,its,n,hk,hc,hs,hz,r⟩
 ·obtain ⟨z,its,r,p⟩:=h.ok I.hok
  exact ⟨its,r,p,z⟩
 ·refine ⟨its.toList,r,⟨o,I.kIn a o hk,hc,n,by simpa using hs⟩,?_⟩
  have e:=r.length
  simp only [Array.length_toList] at e
  omega
theorem Inv.list_inj (I:Inv X pins σ H s) (h:SqL X.K H a xs) (h':SqL X.K H a ys):xs = ys:=by
 obtain ⟨its,r,⟨o,n,e,_,_,d⟩,_⟩:=I.list h
 obtain ⟨its',r',⟨o',n',e',_,_,d'⟩,_⟩:=I.list h'
 rw [e] at e'; cases e'
 rw [d] at d'
 injection d' with d1 _
 have:its = its':=by simpa using congrArg Array.toList d1
 subst this
 exact r.inj r'
theorem Inv.tuple_inj (I:Inv X pins σ H s) (h:SqT X.K H a xs) (h':SqT X.K H a ys):xs = ys:=by
 obtain ⟨its,r,⟨o,e,_,n,d⟩,_⟩:=I.tuple h
 obtain ⟨its',r',⟨o',e',_,n',d'⟩,_⟩:=I.tuple h'
 rw [e] at e'; cases e'
 rw [d] at d'
 injection d' with d1 _
 have:its = its':=by simpa using congrArg Array.toList d1
 subst this
 exact r.inj r'
end
abbrev Cx.wish (X:Cx) (E:Value -> Shared -> Prop):Cx:={ X with xe:=E }
abbrev Cx.nox (X:Cx):Cx:=X.wish fun _ _=>False
theorem Cx.Ok.wish {X:Cx} (ok:X.Ok) (E:Value -> Shared -> Prop):(X.wish E).Ok :=
 ⟨ok.mod,ok.kind,ok.glob,ok.blt,ok.above,ok.inj,ok.has,ok.cab,ok.hd,ok.frames,ok.stk,ok.exf,ok.bs,ok.bsz,ok.noex,ok.exfs,ok.funs,ok.frf⟩
theorem Cx.Ok.unwish {X:Cx} {E:Value -> Shared -> Prop} (ok:(X.wish E).Ok):X.Ok :=
 ⟨ok.mod,ok.kind,ok.glob,ok.blt,ok.above,ok.inj,ok.has,ok.cab,ok.hd,ok.frames,ok.stk,ok.exf,ok.bs,ok.bsz,ok.noex,ok.exfs,ok.funs,ok.frf⟩
section
variable {X:Cx} {pins:List (Addr × Obj)} {σ:St} {H:Hp} {s:Shared} {E:Value -> Shared -> Prop}
theorem Inv.wish (I:Inv X pins σ H s) (E:Value -> Shared -> Prop):Inv (X.wish E) pins σ H s:=⟨I.ok.wish E,I.os,I.bare,I.base,I.loc,I.cell,I.free,I.freeC,I.pin,I.hok,I.len⟩
theorem Inv.unwish (I:Inv (X.wish E) pins σ H s):Inv X pins σ H s:=⟨I.ok.unwish,I.os,I.bare,I.base,I.loc,I.cell,I.free,I.freeC,I.pin,I.hok,I.len⟩
theorem SP.unwish {D:Ends} {f:Flow} {s':Shared} (h:SP (X.wish E) pins D f s'):SP X pins D f s':=by
 cases f with
 | next=>obtain ⟨σ',H',I,q⟩:=h; exact ⟨σ',H',I.unwish,q⟩
 | brk=>obtain ⟨σ',H',I,q⟩:=h; exact ⟨σ',H',I.unwish,q⟩
 | cont=>obtain ⟨σ',H',I,q⟩:=h; exact ⟨σ',H',I.unwish,q⟩
 | ret u=>obtain ⟨v,σ',H',I,r,q⟩:=h; exact ⟨v,σ',H',I.unwish,r,q⟩
theorem PSs.nox {st:List Stmt} {t:TS} (h:PSs X.nox st t):PSs X st t:=fun pins s σ H D I hw =>
 wpAny_mono (h pins s σ H D (I.wish _) hw) (fun _ _ q=>q.unwish) fun _ _ z=>False.elim z
end
section
variable {X:Cx} {st:Stmt} {rest:List Stmt} {t u:TS} {e:Expr} {te:TE} {pos:Pos}
def tNext:TS:=fun D σ H=>D.nx σ H
def tSeq (t u:TS):TS:=fun D σ H=>t { D with nx:=u D } σ H
theorem z4:PSs X [] tNext:=fun _ _ σ H _ I h=>wpAny_execs_nil ⟨σ,H,I,h⟩
theorem zC (h1:PS X st t) (h2:PSs X rest u):PSs X (st :: rest) (tSeq t u):=by
 intro pins s σ H D I h
 refine wpAny_execs_cons (thn (h1 pins s σ H { D with nx:=u D } I h) fun f s1 q=>?_)
 cases f with
 | next =>
  obtain ⟨σ',H',I',q⟩:=q
  exact h2 pins s1 σ' H' D I' q
 | ret v=>exact q
 | brk=>exact q
 | cont=>exact q
theorem zH (h1:PS X st t):PSs X [st] t:=by
 intro pins s σ H D I h
 refine wpAny_execs_cons (thn (h1 pins s σ H D I h) fun f s1 q=>?_)
 cases f with
 | next=>exact wpAny_execs_nil q
 | ret v=>exact q
 | brk=>exact q
 | cont=>exact q
theorem Inv.quiet {pins:List (Addr × Obj)} {σ:St} {H:Hp} {s:Shared} (I:Inv X pins σ H s):interactive X.env = false:=by simp [interactive,I.ok.kind]
def tDrop (te:TE):TS:=fun D σ H=>te σ H fun _ H1=>D.nx σ H1
theorem z3 (he:PE X e te) (hs:swapsWith e none pos.line X.env = pure false:=by rfl):PS X (.Expr e pos) (tDrop te):=by
 intro pins s σ H D I h
 exact wpAny_Expr_any (thn (he pins s σ H _ I h) fun v s1 ⟨x,H1,I1,r1,q1⟩=>⟨σ,H1,I1,q1⟩) I.quiet hs
def tRet (te:TE):TS:=fun D σ H=>te σ H D.rt
theorem zW (he:PE X e te):PS X (.Return (some e) pos) (tRet te):=by
 intro pins s σ H D I h
 exact wpAny_Return_some (thn (he pins s σ H _ I h) fun v s1 ⟨x,H1,I1,r1,q1⟩=>⟨x,σ,H1,I1,r1,q1⟩)
def tIfS (c:TT) (t u:TS):TS:=fun D σ H=>c σ H fun b H1=>if b = true then t D σ H1 else u D σ H1
theorem yS {c:Expr} {a b:List Stmt} {tc:TT} (hc:PT X c tc) (ha:PSs X a t) (hb:PSs X b u):PS X (.If c a b pos) (tIfS tc t u):=by
 intro pins s σ H D I h
 refine wpAny_If (thn (hc pins s σ H _ I h) fun d s1 ⟨H1,I1,q1⟩=>?_)
 cases d with
 | true=>exact ha pins s1 σ H1 D I1 q1
 | false=>exact hb pins s1 σ H1 D I1 q1
end
abbrev TG:=V -> St -> Hp -> (St -> Hp -> Prop) -> Prop
abbrev TGs:=List V -> St -> Hp -> (St -> Hp -> Prop) -> Prop
def PG (X:Cx) (target:Expr) (t:TG):Prop :=
 ∀ (pins:List (Addr × Obj)) (s:Shared) (σ:St) (H:Hp) (v:V) (u:Value) (Q:St -> Hp -> Prop),Inv X pins σ H s -> RelV v u -> t v σ H Q ->
  wpAny (model X.prog X.w) X.A (assign target X.env u) (fun _ s'=>∃ σ' H',Inv X pins σ' H' s' /\ Q σ' H') X.xe s
def PGs (X:Cx) (ts:List Expr) (t:TGs):Prop :=
 ∀ (pins:List (Addr × Obj)) (s:Shared) (σ:St) (H:Hp) (vs:List V) (us:List Value) (Q:St -> Hp -> Prop),Inv X pins σ H s -> Vals vs us -> t vs σ H Q ->
  wpAny (model X.prog X.w) X.A (assignInOrder ((assignEach ts X.env).map (·.2)) us) (fun _ s'=>∃ σ' H',Inv X pins σ' H' s' /\ Q σ' H') X.xe s
abbrev TSet:=V -> V -> V -> Hp -> (Hp -> Prop) -> Prop
def PSet (X:Cx) (t:TSet):Prop :=
 ∀ (pins:List (Addr × Obj)) (s:Shared) (σ:St) (H:Hp) (o i v:V) (ov iv u:Value) (Q:Hp -> Prop),Inv X pins σ H s -> RelV o ov -> RelV i iv -> RelV v u -> t o i v H Q ->
  wpAny (model X.prog X.w) X.A (setItem ov iv u) (fun _ s'=>∃ H',Inv X pins σ H' s' /\ Q H') X.xe s
abbrev TIp:=V -> V -> Hp -> VK -> Prop
def PIp (X:Cx) (op:Operator) (t:TIp):Prop :=
 ∀ (pins:List (Addr × Obj)) (s:Shared) (σ:St) (H:Hp) (x y:V) (v u:Value) (Q:VK),Inv X pins σ H s -> RelV x v -> RelV y u -> t x y H Q ->
  wpAny (model X.prog X.w) X.A (inplaceOp op v u) (EP X pins σ Q) X.xe s
section
variable {X:Cx} {pos:Pos}
def gName (i:Nat):TG:=fun v σ H Q=>Q (σ.set i (some v)) H
theorem zN {i:Nat} {x:Str} (hN:X.N.Nodup) (hi:X.N[i]? = some x) (hx:Loc X.env.scope x) (hf:X.fn x = true \/ X.env.scope.names.lookup x = some .local:=by first | exact .inl rfl | exact .inr rfl | assumption):PG X (.Name x pos) (gName i):=by
 intro pins s σ H v u Q I r h
 exact wpAny_assign_Name (store_ok I hN hi hx r (fun s' I'=>⟨_,H,I',h⟩) hf)
def gNil:TGs:=fun vs σ H Q=>vs = [] /\ Q σ H
def gCons (t:TG) (u:TGs):TGs:=fun vs σ H Q=>∃ v r,vs = v :: r /\ t v σ H fun σ' H'=>u r σ' H' Q
theorem jG:PGs X [] gNil:=by
 intro pins s σ H vs us Q I r h
 obtain ⟨e,h⟩:=h
 subst e
 cases r
 exact assignInOrder_nil ⟨σ,H,I,h⟩
theorem yF {e:Expr} {es:List Expr} {t:TG} {u:TGs} (h1:PG X e t) (h2:PGs X es u)
  (hs:(assignEach (e :: es) X.env).map (·.2) = assign e X.env :: (assignEach es X.env).map (·.2):=by rfl):PGs X (e :: es) (gCons t u):=by
 intro pins s σ H vs us Q I r h
 obtain ⟨v,vr,e1,h⟩:=h
 subst e1
 cases r with
 | cons r rr =>
  rw [hs]
  refine assignInOrder_cons (thn (h1 pins s σ H _ _ _ I r h) fun _ s1 ⟨σ1,H1,I1,q1⟩=>?_)
  exact h2 pins s1 σ1 H1 _ _ Q I1 rr q1
def gTup (K:PySem.W.Frag) (n:Nat) (t:TGs):TG:=fun v σ H Q=>∃ a xs,v = .ref a /\ SqT K H a xs /\ xs.length = n /\ t xs σ H Q
theorem pg_tup {es:List Expr} {k:Nat} {t:TGs} {n:Nat} (hc:X.calm = true) (h:PGs X es t)
  (hn:(assignEach es X.env).length = n:=by rfl) (hst:(assignEach es X.env).findIdx? (·.1) = none:=by rfl):PG X (.Tuple es k pos) (gTup X.K n t):=by
 intro pins s σ H v u Q I r hw
 obtain ⟨a,xs,e1,hq,hl,hw⟩:=hw
 subst e1
 cases r
 obtain ⟨its,rv,ht,hz⟩:=I.tuple hq
 refine assign_Tuple_tuple (I.ok.hd hc) ht (by simp [hn,← hl,rv.length]) hst fun h' hx=>?_
 have I1:Inv X pins σ H { s with heap:=h' }:=I.kept (t':=s.toks) fun b o e=>hx b o (Nat.ne_of_lt (Heap.lt_size e)) e
 exact h pins _ σ H xs _ Q I1 (by simpa using rv) hw
def gSub (to ti:TE) (t:TSet):TG:=fun v σ H Q=>to σ H fun o H1=>ti σ H1 fun i H2=>t o i v H2 fun H3=>Q σ H3
theorem pg_sub {o i:Expr} {to ti:TE} {t:TSet} (ho:PE X o to) (hi:PE X i ti) (hs:PSet X t)
  (ha:∀ v,assign (.Subscript o i pos) X.env v = (do
   let ov ← holding [v] (eval o X.env)
   let iv ← holding [v,ov] (eval i X.env)
   standAt pos
   holding [v,ov,iv] (setItem ov iv v)
   release [v,ov,iv] []):=by intro _; rfl):PG X (.Subscript o i pos) (gSub to ti t):=by
 intro pins s σ H v u Q I r h
 rw [ha]
 refine wpAny_bind (wpAny_holding (thn (ho pins s σ H _ I h) fun ov s1 ⟨x,H1,I1,r1,q1⟩=>?_))
 refine wpAny_bind (wpAny_holding (thn (hi pins s1 σ H1 _ I1 q1) fun iv s2 ⟨y,H2,I2,r2,q2⟩=>?_))
 refine wpAny_bind (wpAny_standAt (wpAny_bind (wpAny_holding (thn (hs pins s2 σ H2 x y v ov iv u _ I2 r1 r2 r q2) fun _ s3 ⟨H3,I3,q3⟩=>?_))))
 exact wpAny_release ⟨σ,H3,I3,q3⟩
def tAsg (te:TE) (g:TG):TS:=fun D σ H=>te σ H fun x H1=>g x σ H1 D.nx
theorem ps_asg {tg e:Expr} {te:TE} {g:TG} (he:PE X e te) (hg:PG X tg g) (hs:swapsWithSole [tg] e pos.line X.env = pure false:=by rfl) (hw:swappedStores [tg] e X.env = pure none:=by rfl)
  (h1:(assignEach [tg] X.env).map (·.2) = [assign tg X.env]:=by rfl):PS X (.Assign [tg] e pos) (tAsg te g):=by
 intro pins s σ H D I h
 refine wpAny_Assign_stores (thn (he pins s σ H _ I h) fun v s1 ⟨x,H1,I1,r1,q1⟩=>?_) hs hw
 rw [h1]
 exact thn (hg pins s1 σ H1 x v _ I1 r1 q1) fun _ s2 q=>q
theorem zJ {i:Nat} {x:Str} {e:Expr} {te:TE} {pos':Pos} (hN:X.N.Nodup) (hi:X.N[i]? = some x) (hx:Loc X.env.scope x) (he:PE X e te) (hs:swapsWith e (some (.Name x pos')) pos.line X.env = pure false:=by rfl) (hf:X.fn x = true \/ X.env.scope.names.lookup x = some .local:=by first | exact .inl rfl | exact .inr rfl | assumption) :
  PS X (.Assign [.Name x pos'] e pos) (tAsg te (gName i)):=by
 intro pins s σ H D I h
 refine wpAny_Assign_Name (thn (he pins s σ H _ I h) fun v s1 ⟨y,H1,I1,r1,q1⟩=>?_) hs
 exact store_ok I1 hN hi hx r1 (fun s2 I2=>⟨_,H1,I2,q1⟩) hf
def tAug (i:Nat) (te:TE) (ti:TIp):TS:=fun D σ H=>∃ x,σ[i]? = some (some x) /\ te σ H fun y H1=>ti x y H1 fun z H2=>D.nx (σ.set i (some z)) H2
theorem ps_aug {i:Nat} {x:Str} {e:Expr} {te:TE} {op:Operator} {ti:TIp} {pos':Pos} (hN:X.N.Nodup) (hi:X.N[i]? = some x) (hx:Loc X.env.scope x) (he:PE X e te) (ho:PIp X op ti) (hf:X.fn x = true \/ X.env.scope.names.lookup x = some .local:=by first | exact .inl rfl | exact .inr rfl | assumption) :
  PS X (.AugAssign (.Name x pos') op e pos) (tAug i te ti):=by
 intro pins s σ H D I h
 obtain ⟨v,e1,h⟩:=h
 obtain ⟨m,hn,hl⟩:=I.loc
 have vis:Vis X.env.scope x:=by rcases hx with k | k; exact .inl k; exact .inr (.inl k)
 obtain ⟨u,r,l⟩:=hl i x v hi e1 vis
 refine wpAny_AugAssign_Name ?_
 have go:wpAny (model X.prog X.w) X.A (eval e X.env) (fun w s₂=>wpAny (model X.prog X.w) X.A (inplaceOp op u w) (fun r s₃=>wpAny (model X.prog X.w) X.A (storeName X.env x r) (fun _=>SP X pins D .next) X.xe s₃) X.xe s₂) X.xe s:=by
  refine thn (he pins s σ H _ I h) fun w s1 ⟨y,H1,I1,r1,q1⟩=>?_
  refine thn (ho pins s1 σ H1 v y u w _ I1 r r1 q1) fun z s2 ⟨zv,H2,I2,r2,q2⟩=>?_
  exact store_ok I2 hN hi hx r2 (fun s3 I3=>⟨_,H2,I3,q2⟩) hf
 rcases l with ⟨hk,hm⟩ | ⟨hk,c,hc,hcell⟩
 ·exact wpAny_loadName_local I.ok.kind hk hn hm go
 ·rcases hk with hk | hk
  ·exact wpAny_loadName_cell I.ok.kind hk hc hcell go
  ·rcases hx with k | k
   ·have:X.env.scope.names.lookup x = some .free:=hk
    rw [k] at this; cases this
   ·have:X.env.scope.names.lookup x = some .free:=hk
    rw [k] at this; cases this
def ipI (f:Int -> Int -> Int):TIp:=fun x y H Q=>∃ i j,x = .int i /\ y = .int j /\ Q (.int (f i j)) H
theorem ip_add:PIp X .Add (ipI fun i j=>i + j):=by
 intro pins s σ H x y v u Q I r1 r2 h
 obtain ⟨i,j,e1,e2,q⟩:=h
 subst e1; subst e2
 obtain ⟨t,rfl⟩:=r1
 obtain ⟨t',rfl⟩:=r2
 exact iadd_int ⟨.int _,H,I.tok _,⟨_,rfl⟩,q⟩
end
section
variable {X:Cx} {pos:Pos}
def tWhile (c:TT) (tb:TS):TS:=fun D σ H=>∃ W:Nat -> St -> Hp -> Prop,(∃ m,W m σ H) /\ ∀ m σ H,W m σ H ->
 c σ H fun b H1=>if b = true then ∃ N:St -> Hp -> Prop,(∀ σ' H',N σ' H' -> ∃ m',m' < m /\ W m' σ' H') /\ tb { D with nx:=N,ct:=N,bk:=D.nx } σ H1 else D.nx σ H1
theorem ps_while {c:Expr} {body:List Stmt} {tc:TT} {tb:TS} (hp:PassesOwn (model X.prog X.w) X.A X.env X.xe) (hc:PT X c tc) (hb:PSs X body tb):PS X (.While c body [] pos) (tWhile tc tb):=by
 intro pins s σ H D I h
 obtain ⟨W,⟨m0,w0⟩,turn⟩:=h
 refine wpAny_While (codeAny_whileLoop (fun n s'=>∃ σ' H',Inv X pins σ' H' s' /\ W n σ' H') ?_ m0 ⟨σ,H,I,w0⟩)
 rintro n s1 ⟨σ1,H1,I1,w1⟩
 refine wpAny_passesOwn hp (thn (hc pins s1 σ1 H1 _ I1 (turn n σ1 H1 w1)) fun b s2 ⟨H2,I2,q2⟩=>?_)
 cases b with
 | true =>
  obtain ⟨N,hN,q2⟩:=q2
  rw [if_pos rfl]
  refine wpAny_passesOwn hp (thn (hb pins s2 σ1 H2 _ I2 q2) fun f s3 q3=>?_)
  cases f with
  | next =>
   obtain ⟨σ3,H3,I3,n3⟩:=q3
   obtain ⟨m',hm,w3⟩:=hN σ3 H3 n3
   exact ⟨m',hm,σ3,H3,I3,w3⟩
  | cont =>
   obtain ⟨σ3,H3,I3,n3⟩:=q3
   obtain ⟨m',hm,w3⟩:=hN σ3 H3 n3
   exact ⟨m',hm,σ3,H3,I3,w3⟩
  | brk=>exact q3
  | ret v=>exact q3
 | false =>
  rw [if_neg Bool.false_ne_true]
  exact wpAny_execs_nil ⟨σ1,H2,I2,q2⟩
end
structure It where
 go:Nat -> Hp -> Prop
 yld:Nat -> Hp -> V -> Hp -> Prop
 stop:Nat -> Hp -> Prop
def FpOk (X:Cx) (pins:List (Addr × Obj)) (H:Hp) (b:Addr):Prop :=
 H b = none /\ b ≠ X.env.locals /\ b ∉ X.fs /\ (b ∈ X.ex \/ X.s₀.heap.objs.size <= b) /\ (∀ x c,X.env.cells.lookup x = some c -> c ≠ b) /\ ∀ p ∈ X.pn ++ pins,p.1 ≠ b
theorem Inv.fpOk {X:Cx} {pins:List (Addr × Obj)} {σ:St} {H H':Hp} {s:Shared} {b:Addr} (I:Inv X pins σ H s) (hb:s.heap.objs.size <= b) (hn:H' b = none):FpOk X pins H' b:=by
 refine ⟨hn,Nat.ne_of_gt (Nat.lt_of_lt_of_le I.lt hb),I.nofs hb,.inr (Nat.le_trans I.sz hb),fun x c e z=>?_,fun p hp z=>?_⟩
 ·obtain ⟨v,q⟩:=I.cell x c e
  exact absurd (Nat.lt_of_lt_of_le q.lt (by rw [z]; exact hb)) (Nat.lt_irrefl _)
 ·exact absurd (Nat.lt_of_lt_of_le (Heap.lt_size (I.pin p hp).1) (by rw [z]; exact hb)) (Nat.lt_irrefl _)
structure Turn (P:Program) (w:World) (K:PySem.W.Frag) (tg:Expr) (J:It) (fp:List Addr) (it:Addr) (tn:Nat -> Heap -> Prop):Prop where
 mem:it ∈ fp
 obj:∀ i h,tn i h -> ∀ b ∈ fp,∃ o,h.get? b = some o /\ ∀ v,o.data ≠ .cell v
 keep:∀ i h h',tn i h -> (∀ b ∈ fp,∀ o,h.get? b = some o -> h'.get? b = some o) -> tn i h'
 item:∀ (X:Cx),X.prog = P -> X.w = w -> X.K = K -> X.calm = true -> ∀ (i:Nat) (pins:List (Addr × Obj)) (s:Shared) (σ:St) (H:Hp) (E:Value -> Shared -> Prop),Inv X pins σ H s -> (∀ b ∈ fp,FpOk X pins H b) -> tn i s.heap -> J.go i H ->
  wpAny (model P w) X.A (pyNext (.ref it)) (fun r s1=>∃ u,r = some u /\
   wpAny (model P w) X.A (letOwnedTupleGo tg (.ref it) u) (fun _ s2=>∃ x H',Inv X pins σ H' s2 /\ RelV x u /\ J.yld i H x H' /\ tn (i + 1) s2.heap /\ ∀ b ∈ fp,H' b = none) E s1) E s
 done:∀ (X:Cx),X.prog = P -> X.w = w -> X.K = K -> X.calm = true -> ∀ (i:Nat) (pins:List (Addr × Obj)) (s:Shared) (σ:St) (H:Hp) (E:Value -> Shared -> Prop),Inv X pins σ H s -> (∀ b ∈ fp,FpOk X pins H b) -> tn i s.heap -> J.stop i H ->
  wpAny (model P w) X.A (pyNext (.ref it)) (fun r s1=>r = none /\ Inv X pins σ H s1) E s
 self:∀ (A:Around) (i:Nat) (s:Shared) (Q:Value -> Shared -> Prop) (E:Value -> Shared -> Prop),tn i s.heap -> Q (.ref it) s -> wpAny (model P w) A (pyIter (.ref it)) Q E s
abbrev TI:=St -> Hp -> (It -> Hp -> Prop) -> Prop
def PIE (X:Cx) (pins:List (Addr × Obj)) (σ:St) (tg:Expr) (R:It -> Hp -> Prop) (itv:Value) (s2:Shared):Prop :=
 ∃ (it:Addr) (fp:List Addr) (tn:Nat -> Heap -> Prop) (J:It) (H':Hp),itv = .ref it /\ Inv X pins σ H' s2 /\ Turn X.prog X.w X.K tg J fp it tn /\ tn 0 s2.heap /\ (∀ b ∈ fp,FpOk X pins H' b) /\ R J H'
def PI (X:Cx) (tg iter:Expr) (wi:TI):Prop :=
 ∀ (pins:List (Addr × Obj)) (s:Shared) (σ:St) (H:Hp) (R:It -> Hp -> Prop),Inv X pins σ H s -> wi σ H R ->
  wpAny (model X.prog X.w) X.A (eval iter X.env) (fun v s1=>wpAny (model X.prog X.w) X.A (pyIter v) (PIE X pins σ tg R) X.xe s1) X.xe s
theorem go_of {M:Model} {A:Around} {E:Value -> Shared -> Prop} {s:Shared} {tg:Expr} {it:Addr} {u:Value} {o:Obj} {n:String} {vs:Array Value} {Q:Unit -> Shared -> Prop} (ho:s.heap.get? it = some o) (hc:o.cls = .type n) (hd:o.data = .fields vs)
  (hn:["enumerate","zip","dict_itemiterator","dict_reverseitemiterator","odict_iterator","itertools.zip_longest","itertools.pairwise"].contains n = false) (hQ:Q () s):wpAny M A (letOwnedTupleGo tg (.ref it) u) Q E s:=by
 unfold letOwnedTupleGo
 cases tg <;> first
  | exact wpAny_pure hQ
  | (cases u <;> first
    | exact wpAny_pure hQ
    | (refine wpAny_bind (wpAny_load ho ?_)
       rw [hc,hd]
       show wpAny M A (if (["enumerate","zip","dict_itemiterator","dict_reverseitemiterator","odict_iterator","itertools.zip_longest","itertools.pairwise"].contains n && vs[0]? == some (rawInt _)) = true then _ else _) Q E s
       rw [if_neg (by intro h; rw [hn,Bool.false_and] at h; cases h)]
       exact wpAny_pure hQ))
def Itl (K:PySem.W.Frag) (a:Addr):It :=
 ⟨fun i H=>∃ xs x,SqL K H a xs /\ xs[i]? = some x,fun i H x H'=>H' = H /\ ∀ xs,SqL K H a xs -> xs[i]? = some x,fun i H=>∃ xs,SqL K H a xs /\ xs.length <= i⟩
def Itr (lo:Int) (n:Nat):It:=⟨fun i _=>i < n,fun i H x H'=>H' = H /\ x = .int (lo + i),fun i _=>n <= i⟩
theorem turn_list {P:Program} {w:World} {K:PySem.W.Frag} {tg:Expr} (a it:Addr):Turn P w K tg (Itl K a) [it] it (fun i h=>h.IsListIter it a i) where
 mem:=by simp
 obj:=fun i h st b hb=>by
  have e:b = it:=by simpa using hb
  subst e
  obtain ⟨o,e,c,d⟩:=st
  exact ⟨o,e,fun v z=>by rw [d] at z; cases z⟩
 keep:=fun i h h' st k=>st.at fun o e=>k it (by simp) o e
 item:=by
  intro X hP hw hK hc i pins s σ H E I hf st hg
  subst hP hw hK
  obtain ⟨xs,x,hq,hx⟩:=hg
  obtain ⟨its,rv,p,hz⟩:=I.list hq
  obtain ⟨u,hu,ru⟩:=rv.get hx
  obtain ⟨f0,f1,f2,f3,f4,f5⟩:=hf it (by simp)
  refine wpAny_pyNext_list_item st p.isList (x:=u) (by simpa using hu) fun h' st' sb=>?_
  have I1:Inv X pins σ H { s with heap:=h' }:=I.turned (t':=s.toks) (fun b o hb e=>(sb.2 b hb).trans e) f0 f1 f3 f4 f5
  obtain ⟨o,e,c,d⟩:=id st'
  exact ⟨u,rfl,go_of (s:={ s with heap:=h' }) e c d (by decide) ⟨x,H,I1,ru,⟨rfl,fun ys hy=>by rw [I.list_inj hy hq]; exact hx⟩,st',fun b hb=>(hf b hb).1⟩⟩
 done:=by
  intro X hP hw hK hc i pins s σ H E I hf st hg
  subst hP hw hK
  obtain ⟨xs,hq,hx⟩:=hg
  obtain ⟨its,rv,p,hz⟩:=I.list hq
  obtain ⟨f0,f1,f2,f3,f4,f5⟩:=hf it (by simp)
  have hl:=rv.length
  exact wpAny_pyNext_list_end (I.ok.hd hc) st p.isList (by simp; omega) fun h' eb=>⟨rfl,I.turned (t':=s.toks) (fun b o hb e=>eb b o hb e) f0 f1 f3 f4 f5⟩
 self:=fun _ _ _ _ _ st h=>wpAny_pyIter_listiter st h
theorem turn_range {P:Program} {w:World} {K:PySem.W.Frag} {tg:Expr} (it:Addr) (lo:Int) (n:Nat):Turn P w K tg (Itr lo n) [it] it (fun i h=>IsRangeIter h it (lo + (i:Nat) * 1) ((n:Int) - (i:Nat)) 1) where
 mem:=by simp
 obj:=fun i h st b hb=>by
  have e:b = it:=by simpa using hb
  subst e
  exact ⟨_,st,fun v z=>by
   have z':Data.fields _ = Data.cell v:=z
   cases z'⟩
 keep:=fun i h h' st k=>k it (by simp) _ st
 item:=by
  intro X hP hw hK hc i pins s σ H E I hf st hg
  subst hP hw hK
  obtain ⟨f0,f1,f2,f3,f4,f5⟩:=hf it (by simp)
  have W:=Walks.range (prog:=X.prog) (w:=X.w) (I.ok.hd hc) it lo 1 n
  refine W.item i s _ _ hg st fun v h' tk hv st' kk=>?_
  obtain ⟨t,rfl⟩:=hv
  have I1:Inv X pins σ H { s with heap:=h',toks:=tk }:=I.turned (fun b o hb e=>kk b o (by simpa using hb) e) f0 f1 f3 f4 f5
  refine ⟨_,rfl,go_of (s:={ s with heap:=h',toks:=tk }) (n:="range_iterator") st' rfl rfl (by decide) ⟨.int (lo + i),H,I1,⟨t,?_⟩,⟨rfl,rfl⟩,st',fun b hb=>(hf b hb).1⟩⟩
  rw [Int.mul_one]
 done:=by
  intro X hP hw hK hc i pins s σ H E I hf st hg
  subst hP hw hK
  obtain ⟨f0,f1,f2,f3,f4,f5⟩:=hf it (by simp)
  exact wpAny_pyNext_range_end (I.ok.hd hc) st (by have:n <= i:=hg; omega) fun h' eb=>⟨rfl,I.turned (t':=s.toks) (fun b o hb e=>eb b o hb e) f0 f1 f3 f4 f5⟩
 self:=fun _ _ _ _ _ st h=>wpAny_pyIter_rangeiter st h
end L2
namespace L2
open PySem PySem.Spec PyProof.Rows
section
variable {X:Cx} {tg:Expr}
def iList (K:PySem.W.Frag) (tl:TE):TI:=fun σ H R=>tl σ H fun x H1=>∃ a,x = .ref a /\ (∃ xs,SqL K H1 a xs) /\ R (Itl K a) H1
theorem yN {l:Expr} {tl:TE} (hl:PE X l tl):PI X tg l (iList X.K tl):=by
 intro pins s σ H R I h
 refine thn (hl pins s σ H _ I h) fun v s1 ⟨x,H1,I1,r1,q1⟩=>?_
 obtain ⟨a,e,⟨xs,hq⟩,q⟩:=q1
 subst e
 cases r1
 obtain ⟨its,rv,p,hz⟩:=I1.list hq
 refine wpAny_pyIter_list p.isList ?_
 refine ⟨s1.heap.objs.size,[s1.heap.objs.size],_,_,H1,rfl,I1.kept (t':=s1.toks) fun b o e=>Heap.get?_push_of_some _ e,turn_list a _,⟨_,Heap.get?_push_size _ rfl,rfl,rfl⟩,fun b hb=>?_,q⟩
 have e:b = s1.heap.objs.size:=by simpa using hb
 subst e
 exact I1.fpOk (Nat.le_refl _) (I1.hok.fresh (Nat.le_refl _))
theorem range_it {pins:List (Addr × Obj)} {σ:St} {H:Hp} {s:Shared} {R:It -> Hp -> Prop} {E:Value -> Shared -> Prop} {lo hi:Int} {t u v:Tok} {tk:Nat} (I:Inv X pins σ H s) (h1:-(2 ^ 62) <= lo) (h2:lo < 2 ^ 62) (h3:-(2 ^ 62) <= hi) (h4:hi < 2 ^ 62)
  (q:R (Itr lo (hi - lo).toNat) H):wpAny (model X.prog X.w) X.A (pyIter (.ref s.heap.objs.size)) (PIE X pins σ tg R) E { s with heap:=s.heap.push { cls:=.type "range",data:=.fields #[.int lo t,.int hi u,.int 1 v] },toks:=tk }:=by
 refine wpAny_pyIter_range (IsRange.new ..) (small_one h1 h2 h3 h4) ?_
 have I1:Inv X pins σ H { s with heap:=s.heap.push { cls:=.type "range",data:=.fields #[.int lo t,.int hi u,.int 1 v] },toks:=tk }:=I.kept fun b o e=>Heap.get?_push_of_some _ e
 refine ⟨(s.heap.push { cls:=.type "range",data:=.fields #[.int lo t,.int hi u,.int 1 v] }).objs.size,[(s.heap.push { cls:=.type "range",data:=.fields #[.int lo t,.int hi u,.int 1 v] }).objs.size],_,_,H,rfl,
  I1.kept (t':=tk) fun b o e=>Heap.get?_push_of_some _ e,turn_range _ lo (hi - lo).toNat,?_,fun b hb=>?_,q⟩
 ·have e1:lo + ((0:Nat):Int) * 1 = lo:=by simp
  have e2:(((hi - lo).toNat:Nat):Int) - ((0:Nat):Int) = Builtin.Range.rangeSize lo hi 1:=by rw [rangeSize_one]; split <;> omega
  show IsRangeIter _ _ (lo + ((0:Nat):Int) * 1) ((((hi - lo).toNat:Nat):Int) - ((0:Nat):Int)) 1
  rw [e1,e2]
  exact Heap.get?_push_size _ rfl
 ·have e:b = (s.heap.push { cls:=.type "range",data:=.fields #[.int lo t,.int hi u,.int 1 v] }).objs.size:=by simpa using hb
  subst e
  exact I1.fpOk (Nat.le_refl _) (I1.hok.fresh (Nat.le_refl _))
def iRng1 (ta:TA):TI:=fun σ H R=>ta σ H fun vs H1=>∃ j:Int,vs = [.int j] /\ -(2 ^ 62) <= j /\ j < 2 ^ 62 /\ R (Itr 0 j.toNat) H1
def iRng2 (ta:TA):TI:=fun σ H R=>ta σ H fun vs H1=>∃ i j:Int,vs = [.int i,.int j] /\ (-(2 ^ 62) <= i /\ i < 2 ^ 62 /\ -(2 ^ 62) <= j /\ j < 2 ^ 62) /\ R (Itr i (j - i).toNat) H1
theorem xT {a:Expr} {ta:TA} {p pos:Pos} (hg:Gl X "range") (hm:X.mg "range" = none) (ha:PA X [a] ta) (hs:starEach [a] X.env = [(false,eval a X.env)]:=by rfl):PI X tg (.Call (.Name "range" p) [a] [] pos) (iRng1 ta):=by
 intro pins s σ H R I h
 refine Call_ (qY I hg hm boot_range (PyProof.Rows.callWith_type1 (thn (ha pos pins s σ H _ I h) fun us s1 ⟨vs,H1,I1,r1,q1⟩=>?_) hs rfl))
 obtain ⟨j,e,q1,q2,q⟩:=q1
 subst e
 cases r1 with
 | cons r rr =>
  cases rr
  obtain ⟨t,rfl⟩:=r
  exact call_range_1 (range_it I1 (by omega) (by omega) q1 q2 (by simpa using q))
theorem pi_range2 {a b:Expr} {ta:TA} {p pos:Pos} (hg:Gl X "range") (hm:X.mg "range" = none) (ha:PA X [a,b] ta) (hs:starEach [a,b] X.env = [(false,eval a X.env),(false,eval b X.env)]:=by rfl) (hs2:starEach [b] X.env = [(false,eval b X.env)]:=by rfl) :
  PI X tg (.Call (.Name "range" p) [a,b] [] pos) (iRng2 ta):=by
 intro pins s σ H R I h
 refine Call_ (qY I hg hm boot_range (PyProof.Rows.callWith_type1 (thn (ha pos pins s σ H _ I h) fun us s1 ⟨vs,H1,I1,r1,q1⟩=>?_) (by rw [hs,hs2]) (by rw [hs2]; rfl)))
 obtain ⟨i,j,e,⟨q1,q2,q3,q4⟩,q⟩:=q1
 subst e
 cases r1 with
 | cons r rr =>
  cases rr with
  | cons r' rr =>
   cases rr
   obtain ⟨t,rfl⟩:=r
   obtain ⟨t',rfl⟩:=r'
   exact call_range_2 (range_it I1 q1 q2 q3 q4 q)
def tFor (wi:TI) (g:TG) (tb:TS):TS:=fun D σ H=>wi σ H fun J H1=>∃ W:Nat -> Nat -> St -> Hp -> Prop,(∃ m,W 0 m σ H1) /\ ∀ i m σ H,W i m σ H ->
 (J.stop i H /\ D.nx σ H) \/ (J.go i H /\ ∃ N:St -> Hp -> Prop,(∀ σ' H',N σ' H' -> ∃ m',m' < m /\ W (i + 1) m' σ' H') /\ ∀ x H',J.yld i H x H' -> g x σ H' fun σ2 H2=>tb { D with nx:=N,ct:=N,bk:=D.nx } σ2 H2)
def pinsAt (fp:List Addr) (h:Heap):List (Addr × Obj):=fp.filterMap fun b=>(h.get? b).map fun o=>(b,o)
theorem xX {fp:List Addr} {h:Heap} {b:Addr} {o:Obj} (hb:b ∈ fp) (e:h.get? b = some o):(b,o) ∈ pinsAt fp h:=List.mem_filterMap.mpr ⟨b,hb,by rw [e]; rfl⟩
theorem of_pinsAt {fp:List Addr} {h:Heap} {p:Addr × Obj} (hp:p ∈ pinsAt fp h):p.1 ∈ fp /\ h.get? p.1 = some p.2:=by
 obtain ⟨b,hb,e⟩:=List.mem_filterMap.mp hp
 cases q:h.get? b with
 | none=>rw [q] at e; cases e
 | some o =>
  rw [q] at e
  have e':(b,o) = p:=Option.some.inj e
  subst e'
  exact ⟨hb,q⟩
theorem Inv.pinned {pins:List (Addr × Obj)} {σ:St} {H:Hp} {s:Shared} {fp:List Addr} (I:Inv X pins σ H s) (hf:∀ b ∈ fp,FpOk X pins H b) (ho:∀ b ∈ fp,∃ o,s.heap.get? b = some o /\ ∀ v,o.data ≠ .cell v):Inv X (pins ++ pinsAt fp s.heap) σ H s :=
 I.pins_of fun p hp=>(List.mem_append.mp hp).elim (fun z=>I.pin p (List.mem_append_right _ z)) fun z=>by
  obtain ⟨hb,e⟩:=of_pinsAt z
  obtain ⟨f0,f1,f2,_⟩:=hf p.1 hb
  obtain ⟨o,e',d⟩:=ho p.1 hb
  rw [e] at e'; cases e'
  exact ⟨e,f0,f1,f2,d⟩
theorem Inv.unpinned {pins pl:List (Addr × Obj)} {σ:St} {H:Hp} {s:Shared} (I:Inv X (pins ++ pl) σ H s):Inv X pins σ H s:=I.pins_of fun p hp=>I.pin p (List.mem_append_right _ (List.mem_append_left _ hp))
theorem yZ {iter:Expr} {body:List Stmt} {wi:TI} {g:TG} {tb:TS} {pos:Pos} (hp:PassesOwn (model X.prog X.w) X.A X.env X.xe) (hc:X.calm = true) (hi:PI X tg iter wi) (hg:PG X tg g) (hb:PSs X body tb)
  (hs:∀ x,foldedSetIterable iter X.env x = pure x:=by intro _; rfl):PS X (.For tg iter body [] pos) (tFor wi g tb):=by
 intro pins s σ H D I h
 refine wpAny_For (thn (hi pins s σ H _ I h) fun v s1 h1=>thn h1 fun itv s2 h2=>?_) hs
 obtain ⟨it,fp,tn,J,H2,e,I2,T,st2,f2,W,⟨m0,w0⟩,turn⟩:=h2
 subst e
 have stat:∀ {H':Hp},(∀ b ∈ fp,H' b = none) -> ∀ b ∈ fp,FpOk X pins H' b:=fun hn b hb=>⟨hn b hb,(f2 b hb).2⟩
 refine codeAny_forLoop_any (fun n s'=>∃ i σ' H',Inv X pins σ' H' s' /\ tn i s'.heap /\ (∀ b ∈ fp,H' b = none) /\ W i n σ' H') ?_ m0 ⟨0,σ,H2,I2,st2,fun b hb=>(f2 b hb).1,w0⟩
 rintro n s3 ⟨i,σ3,H3,I3,st3,fr3,w3⟩
 rcases turn i n σ3 H3 w3 with ⟨stop,qn⟩ | ⟨go,N,hN,step⟩
 ·refine wpAny_passesOwn hp (thn (T.done X rfl rfl rfl hc i pins s3 σ3 H3 X.xe I3 (stat fr3) st3 stop) fun r s4 ⟨hr,I4⟩=>?_)
  subst hr
  exact wpAny_execs_nil ⟨σ3,H3,I4,qn⟩
 ·refine wpAny_passesOwn hp (thn (T.item X rfl rfl rfl hc i pins s3 σ3 H3 X.xe I3 (stat fr3) st3 go) fun r s4 ⟨u,hr,h4⟩=>?_)
  subst hr
  refine wpAny_passesOwn hp (thn h4 fun _ s5 ⟨x,H5,I5,r5,y5,st5,fr5⟩=>?_)
  have I5':=I5.pinned (stat fr5) (T.obj _ _ st5)
  refine wpAny_passesOwn hp (thn (hg _ s5 σ3 H5 x u _ I5' r5 (step x H5 y5)) fun _ s6 ⟨σ6,H6,I6,q6⟩=>?_)
  refine wpAny_passesOwn hp (thn (hb _ s6 σ6 H6 _ I6 q6) fun f s7 q7=>?_)
  have again:∀ {σ7:St} {H7:Hp},Inv X (pins ++ pinsAt fp s5.heap) σ7 H7 s7 -> N σ7 H7 -> ∃ m,m < n /\ ∃ i σ' H',Inv X pins σ' H' s7 /\ tn i s7.heap /\ (∀ b ∈ fp,H' b = none) /\ W i m σ' H':=fun {σ7 H7} I7 n7=>by
   obtain ⟨m',hm,w7⟩:=hN σ7 H7 n7
   refine ⟨m',hm,i + 1,σ7,H7,I7.unpinned,T.keep _ _ _ st5 fun b hb o e=>(I7.pin (b,o) (List.mem_append_right _ (List.mem_append_right _ (xX hb e)))).1,fun b hb=>?_,w7⟩
   obtain ⟨o,e,d⟩:=T.obj _ _ st5 b hb
   exact (I7.pin (b,o) (List.mem_append_right _ (List.mem_append_right _ (xX hb e)))).2.1
  cases f with
  | next=>obtain ⟨σ7,H7,I7,n7⟩:=q7; exact again I7 n7
  | cont=>obtain ⟨σ7,H7,I7,n7⟩:=q7; exact again I7 n7
  | brk=>obtain ⟨σ7,H7,I7,q7⟩:=q7; exact ⟨σ7,H7,I7.unpinned,q7⟩
  | ret v=>obtain ⟨x7,σ7,H7,I7,r7,q7⟩:=q7; exact ⟨x7,σ7,H7,I7.unpinned,r7,q7⟩
end
theorem y9 {K:PySem.W.Frag} {a:Addr} {xs:List V} {g:TG} {tb:TS} {D:Ends} {σ:St} {H:Hp} (Pv:Nat -> St -> Hp -> Prop) (h0:Pv 0 σ H) (hl:∀ i σ H,i <= xs.length -> Pv i σ H -> SqL K H a xs)
  (hs:∀ i x σ H,xs[i]? = some x -> Pv i σ H -> g x σ H fun σ2 H2=>tb { D with nx:=Pv (i + 1),ct:=Pv (i + 1),bk:=D.nx } σ2 H2) (hd:∀ σ H,Pv xs.length σ H -> D.nx σ H) :
  ∃ W:Nat -> Nat -> St -> Hp -> Prop,(∃ m,W 0 m σ H) /\ ∀ i m σ H,W i m σ H ->
   ((Itl K a).stop i H /\ D.nx σ H) \/ ((Itl K a).go i H /\ ∃ N:St -> Hp -> Prop,(∀ σ' H',N σ' H' -> ∃ m',m' < m /\ W (i + 1) m' σ' H') /\ ∀ x H',(Itl K a).yld i H x H' -> g x σ H' fun σ2 H2=>tb { D with nx:=N,ct:=N,bk:=D.nx } σ2 H2):=by
 refine ⟨fun i m σ H=>m = xs.length - i /\ i <= xs.length /\ Pv i σ H,⟨xs.length,by simp,Nat.zero_le _,h0⟩,?_⟩
 rintro i m σ H ⟨rfl,hi,p⟩
 have q:=hl i σ H hi p
 by_cases hlt:i < xs.length
 ·refine .inr ⟨⟨xs,xs[i],q,by simp [hlt]⟩,Pv (i + 1),fun σ' H' p'=>⟨xs.length - (i + 1),by omega,rfl,hlt,p'⟩,fun x H' y=>?_⟩
  obtain ⟨e,y⟩:=y
  subst e
  exact hs i x σ _ (y xs q) p
 ·have e:i = xs.length:=by omega
  subst e
  exact .inl ⟨⟨xs,q,Nat.le_refl _⟩,hd σ H p⟩
theorem for_range {lo:Int} {n:Nat} {g:TG} {tb:TS} {D:Ends} {σ:St} {H:Hp} (Pv:Nat -> St -> Hp -> Prop) (h0:Pv 0 σ H)
  (hs:∀ i σ H,i < n -> Pv i σ H -> g (.int (lo + i)) σ H fun σ2 H2=>tb { D with nx:=Pv (i + 1),ct:=Pv (i + 1),bk:=D.nx } σ2 H2) (hd:∀ σ H,Pv n σ H -> D.nx σ H) :
  ∃ W:Nat -> Nat -> St -> Hp -> Prop,(∃ m,W 0 m σ H) /\ ∀ i m σ H,W i m σ H ->
   ((Itr lo n).stop i H /\ D.nx σ H) \/ ((Itr lo n).go i H /\ ∃ N:St -> Hp -> Prop,(∀ σ' H',N σ' H' -> ∃ m',m' < m /\ W (i + 1) m' σ' H') /\ ∀ x H',(Itr lo n).yld i H x H' -> g x σ H' fun σ2 H2=>tb { D with nx:=N,ct:=N,bk:=D.nx } σ2 H2):=by
 refine ⟨fun i m σ H=>m = n - i /\ i <= n /\ Pv i σ H,⟨n,by simp,Nat.zero_le _,h0⟩,?_⟩
 rintro i m σ H ⟨rfl,hi,p⟩
 by_cases hlt:i < n
 ·refine .inr ⟨hlt,Pv (i + 1),fun σ' H' p'=>⟨n - (i + 1),by omega,rfl,hlt,p'⟩,fun x H' y=>?_⟩
  obtain ⟨e,y⟩:=y
  subst e y
  exact hs i σ _ hlt p
 ·have e:i = n:=by omega
  subst e
  exact .inl ⟨Nat.le_refl _,hd σ H p⟩
end L2
namespace L2
open PySem PySem.Spec PyProof.Rows
abbrev R2:=V -> V -> Hp -> VK -> Prop
def OpR (X:Cx) (f:Value -> Value -> Sem Value) (r:R2):Prop :=
 ∀ (pins:List (Addr × Obj)) (s:Shared) (σ:St) (H:Hp) (x y:V) (v u:Value) (Q:VK),Inv X pins σ H s -> RelV x v -> RelV y u -> r x y H Q ->
  wpAny (model X.prog X.w) X.A (f v u) (EP X pins σ Q) X.xe s
def UnR (X:Cx) (f:Value -> Sem Value) (r:V -> Hp -> VK -> Prop):Prop :=
 ∀ (pins:List (Addr × Obj)) (s:Shared) (σ:St) (H:Hp) (x:V) (v:Value) (Q:VK),Inv X pins σ H s -> RelV x v -> r x H Q ->
  wpAny (model X.prog X.w) X.A (f v) (EP X pins σ Q) X.xe s
def CallR (X:Cx) (f:Value) (r:List V -> Hp -> VK -> Prop):Prop :=
 ∀ (pins:List (Addr × Obj)) (s:Shared) (σ:St) (H:Hp) (xs:List V) (us:List Value) (Q:VK),Inv X pins σ H s -> Vals xs us -> r xs H Q ->
  wpAny (model X.prog X.w) X.A (call f us) (EP X pins σ Q) X.xe s
def TruR (X:Cx) (r:V -> Hp -> (Bool -> Hp -> Prop) -> Prop):Prop :=
 ∀ (pins:List (Addr × Obj)) (s:Shared) (σ:St) (H:Hp) (x:V) (v:Value) (Q:Bool -> Hp -> Prop),Inv X pins σ H s -> RelV x v -> r x H Q ->
  wpAny (model X.prog X.w) X.A (truthy v) (TP X pins σ Q) X.xe s
def tOp (r:R2) (ta tb:TE):TE:=fun σ H Q=>ta σ H fun x H1=>tb σ H1 fun y H2=>r x y H2 Q
def tUn (r:V -> Hp -> VK -> Prop) (ta:TE):TE:=fun σ H Q=>ta σ H fun x H1=>r x H1 Q
def rI (C:Int -> Int -> Prop) (g:Int -> Int -> V):R2:=fun x y H Q=>∃ i j,x = .int i /\ y = .int j /\ C i j /\ Q (g i j) H
def rI0 (g:Int -> Int -> V):R2:=fun x y H Q=>∃ i j,x = .int i /\ y = .int j /\ Q (g i j) H
def rU (g:Int -> V):V -> Hp -> VK -> Prop:=fun x H Q=>∃ i,x = .int i /\ Q (g i) H
section
variable {X:Cx} {a b c:Expr} {ta tb tc:TE} {pos:Pos}
theorem binT (ha:PE X a ta) (hb:PE X b tb) {pins:List (Addr × Obj)} {s:Shared} {σ:St} {H:Hp} {R:V -> V -> Hp -> Prop} (I:Inv X pins σ H s)
  (h:ta σ H fun x H1=>tb σ H1 fun y H2=>R x y H2) {Q:Value -> Shared -> Prop} {f:Value -> Value -> Sem Value}
  (hf:∀ v u s2 x y H2,Inv X pins σ H2 s2 -> RelV x v -> RelV y u -> R x y H2 -> wpAny (model X.prog X.w) X.A (f v u) Q X.xe s2) :
  wpAny (model X.prog X.w) X.A (eval a X.env) (fun v s₁=>wpAny (model X.prog X.w) X.A (eval b X.env) (fun u s₂=>wpAny (model X.prog X.w) X.A (f v u) Q X.xe s₂) X.xe s₁) X.xe s:=by
 refine thn (ha pins s σ H _ I h) fun v s1 ⟨x,H1,I1,r1,q1⟩=>?_
 refine thn (hb pins s1 σ H1 _ I1 q1) fun u s2 ⟨y,H2,I2,r2,q2⟩=>?_
 exact hf v u s2 x y H2 I2 r1 r2 q2
theorem zV {op:Operator} {r:R2} (ho:OpR X (binaryOp op) r) (ha:PE X a ta) (hb:PE X b tb):PE X (.BinOp a op b pos) (tOp r ta tb):=by
 intro pins s σ H Q I h
 exact wpAny_BinOp (binT ha hb I h fun v u s2 x y H2 I2 rx ry q=>ho pins s2 σ H2 x y v u Q I2 rx ry q)
theorem pe_un {op:UnaryOp} {r:V -> Hp -> VK -> Prop} (ho:UnR X (unaryOp op) r) (ha:PE X a ta):PE X (.UnaryOp op a pos) (tUn r ta):=by
 intro pins s σ H Q I h
 exact UnaryOp_ (thn (ha pins s σ H _ I h) fun v s1 ⟨x,H1,I1,r1,q1⟩=>ho pins s1 σ H1 x v Q I1 r1 q1)
theorem opI {f:Value -> Value -> Sem Value} {C:Int -> Int -> Prop} {g:Int -> Int -> Int}
  (rule:∀ (i j:Int) (t u:Tok) (s:Shared) (Q:Value -> Shared -> Prop) (E:Value -> Shared -> Prop),C i j -> Q (.int (g i j) s.toks) { s with toks:=s.toks + 1 } -> wpAny (model X.prog X.w) X.A (f (.int i t) (.int j u)) Q E s) :
  OpR X f (rI C fun i j=>.int (g i j)):=by
 intro pins s σ H x y v u Q I rx ry h
 obtain ⟨i,j,rfl,rfl,hc,q⟩:=h
 obtain ⟨t,rfl⟩:=rx
 obtain ⟨t',rfl⟩:=ry
 exact rule i j t t' s _ _ hc ⟨.int (g i j),H,I.tok _,⟨_,rfl⟩,q⟩
theorem opI0 {f:Value -> Value -> Sem Value} {g:Int -> Int -> Int}
  (rule:∀ (i j:Int) (t u:Tok) (s:Shared) (Q:Value -> Shared -> Prop) (E:Value -> Shared -> Prop),Q (.int (g i j) s.toks) { s with toks:=s.toks + 1 } -> wpAny (model X.prog X.w) X.A (f (.int i t) (.int j u)) Q E s) :
  OpR X f (rI0 fun i j=>.int (g i j)):=by
 intro pins s σ H x y v u Q I rx ry h
 obtain ⟨i,j,rfl,rfl,q⟩:=h
 obtain ⟨t,rfl⟩:=rx
 obtain ⟨t',rfl⟩:=ry
 exact rule i j t t' s _ _ ⟨.int (g i j),H,I.tok _,⟨_,rfl⟩,q⟩
theorem opB0 {f:Value -> Value -> Sem Value} {g:Int -> Int -> Bool}
  (rule:∀ (i j:Int) (t u:Tok) (s:Shared) (Q:Value -> Shared -> Prop) (E:Value -> Shared -> Prop),Q (.bool (g i j)) s -> wpAny (model X.prog X.w) X.A (f (.int i t) (.int j u)) Q E s) :
  OpR X f (rI0 fun i j=>.bl (g i j)):=by
 intro pins s σ H x y v u Q I rx ry h
 obtain ⟨i,j,rfl,rfl,q⟩:=h
 obtain ⟨t,rfl⟩:=rx
 obtain ⟨t',rfl⟩:=ry
 exact rule i j t t' s _ _ ⟨.bl (g i j),H,I,rfl,q⟩
def CDiv (i j:Int):Prop:=0 < j /\ j < 1073741824
def CMul (i j:Int):Prop:=(-(2 ^ 64) < i /\ i < 2 ^ 64) \/ (-(2 ^ 64) < j /\ j < 2 ^ 64)
theorem CMul.ok {i j:Int} (h:CMul i j):IntMulOk i j:=by
 rcases h with ⟨h1,h2⟩ | ⟨h1,h2⟩
 ·exact .of_left (intBits_le_64 h1 h2)
 ·exact .of_right (intBits_le_64 h1 h2)
theorem xN:OpR X (binaryOp .Add) (rI0 fun i j=>.int (i + j)):=opI0 fun _ _ _ _ _ _ _ q=>add_int q
theorem op_sub:OpR X (binaryOp .Sub) (rI0 fun i j=>.int (i - j)):=opI0 fun _ _ _ _ _ _ _ q=>sub_int q
theorem op_mul:OpR X (binaryOp .Mult) (rI CMul fun i j=>.int (i * j)):=opI fun _ _ _ _ _ _ _ hc q=>mul_int q hc.ok
theorem jK:OpR X (binaryOp .FloorDiv) (rI CDiv fun i j=>.int (i / j)):=opI fun i j _ _ _ _ _ hc q=>by
 have h1:(0:Int) < j:=hc.1
 have h2:j < 1073741824:=hc.2
 exact floordiv_int (by omega) (by rw [Int.fdiv_eq_ediv_of_nonneg i (by omega)]; exact q) (.inl (PyProof.noPylong_small (by omega)))
theorem jH:OpR X (binaryOp .Mod) (rI (fun _ j=>0 < j) fun i j=>.int (i % j)):=opI fun i j _ _ _ _ _ hc q=>by
 have h1:(0:Int) < j:=hc
 exact mod_int' (by omega) (by rw [Int.fmod_eq_emod_of_nonneg i (by omega)]; exact q)
theorem unI {f:Value -> Sem Value} {g:Int -> Int}
  (rule:∀ (i:Int) (t:Tok) (s:Shared) (Q:Value -> Shared -> Prop) (E:Value -> Shared -> Prop),Q (.int (g i) s.toks) { s with toks:=s.toks + 1 } -> wpAny (model X.prog X.w) X.A (f (.int i t)) Q E s) :
  UnR X f (rU fun i=>.int (g i)):=by
 intro pins s σ H x v Q I rx h
 obtain ⟨i,rfl,q⟩:=h
 obtain ⟨t,rfl⟩:=rx
 exact rule i t s _ _ ⟨.int (g i),H,I.tok _,⟨_,rfl⟩,q⟩
theorem un_neg:UnR X (unaryOp .USub) (rU fun i=>.int (-i)):=unI fun _ _ _ _ _ q=>neg_int q
end
def scal:V -> V -> Bool
 | .non,.non=>true | .non,.int _=>true | .int _,.non=>true | .non,.bl _=>true | .bl _,.non=>true | .non,.str _=>true | .str _,.non=>true
 | .int _,.int _=>true | .bl _,.bl _=>true | .str _,.str _=>true | .byt _,.byt _=>true
 | .int _,.str _=>true | .str _,.int _=>true | .bl _,.str _=>true | .str _,.bl _=>true
 | _,_=>false
def rEq:R2:=fun x y H Q=>scal x y = true /\ Q (.bl (decide (x = y))) H
def rNe:R2:=fun x y H Q=>scal x y = true /\ Q (.bl (!decide (x = y))) H
theorem dec_int {i j:Int}:decide (V.int i = V.int j) = (i == j):=by
 rw [Bool.eq_iff_iff]
 simp
theorem dec_bl {i j:Bool}:decide (V.bl i = V.bl j) = (i == j):=by
 rw [Bool.eq_iff_iff]
 simp
theorem dec_str {i j:Str}:decide (V.str i = V.str j) = (i == j):=by
 rw [Bool.eq_iff_iff]
 simp
theorem dec_byt {i j:Array UInt8}:decide (V.byt i = V.byt j) = (i.toList == j.toList):=by
 rw [Bool.eq_iff_iff]
 cases i
 cases j
 simp
section
variable {X:Cx} {a b c:Expr} {ta tb tc:TE} {pos:Pos}
theorem zY {pins:List (Addr × Obj)} {σ:St} {H:Hp} {s:Shared} {Q:VK} {k k':Bool} (I:Inv X pins σ H s) (q:Q (.bl k) H) (e:k = k'):EP X pins σ Q (.bool k') s:=by
 subst e
 exact ⟨.bl k,H,I,rfl,q⟩
theorem op_eq:OpR X (compareOp .Eq) rEq:=by
 intro pins s σ H x y v u Q I rx ry h
 obtain ⟨hs,q⟩:=h
 cases x with
 | non =>
  cases rx
  cases y with
  | non=>cases ry; exact PySem.EqNone.eq_none_none (zY I q (by simp))
  | bl j=>cases ry; exact PySem.EqNone.eq_none_bool (zY I q (by simp))
  | int j=>obtain ⟨t',rfl⟩:=ry; exact PySem.EqNone.eq_none_int (zY I q (by simp))
  | str j=>obtain ⟨t',rfl⟩:=ry; exact PySem.EqNone.eq_none_str (zY I q (by simp))
  | _=>exact absurd (show false = true from hs) Bool.false_ne_true
 | bl i =>
  cases rx
  cases y with
  | non=>cases ry; exact PySem.EqNone.eq_bool_none (zY I q (by simp))
  | bl j=>cases ry; exact eq_bool (zY I q dec_bl)
  | str j=>obtain ⟨t',rfl⟩:=ry; exact PySem.EqMixed.eq_bool_str (zY I q (by simp))
  | _=>exact absurd (show false = true from hs) Bool.false_ne_true
 | int i =>
  obtain ⟨t,rfl⟩:=rx
  cases y with
  | non=>cases ry; exact PySem.EqNone.eq_int_none (zY I q (by simp))
  | int j=>obtain ⟨t',rfl⟩:=ry; exact eq_int (zY I q dec_int)
  | str j=>obtain ⟨t',rfl⟩:=ry; exact PySem.EqMixed.eq_int_str (zY I q (by simp))
  | _=>exact absurd (show false = true from hs) Bool.false_ne_true
 | str i =>
  obtain ⟨t,rfl⟩:=rx
  cases y with
  | non=>cases ry; exact PySem.EqNone.eq_str_none (zY I q (by simp))
  | bl j=>cases ry; exact PySem.EqMixed.eq_str_bool (zY I q (by simp))
  | int j=>obtain ⟨t',rfl⟩:=ry; exact PySem.EqMixed.eq_str_int (zY I q (by simp))
  | str j=>obtain ⟨t',rfl⟩:=ry; exact eq_str (zY I q dec_str)
  | _=>exact absurd (show false = true from hs) Bool.false_ne_true
 | byt i =>
  obtain ⟨t,rfl⟩:=rx
  cases y with
  | byt j=>obtain ⟨t',rfl⟩:=ry; exact PySem.W.eq_bytes (zY I q dec_byt)
  | _=>exact absurd (show false = true from hs) Bool.false_ne_true
 | _=>cases y <;> exact absurd (show false = true from hs) Bool.false_ne_true
theorem op_ne:OpR X (compareOp .NotEq) rNe:=by
 intro pins s σ H x y v u Q I rx ry h
 obtain ⟨hs,q⟩:=h
 cases x with
 | non =>
  cases rx
  cases y with
  | non=>cases ry; exact PySem.EqNone.ne_none_none (zY I q (by simp))
  | bl j=>cases ry; exact PySem.EqNone.ne_none_bool (zY I q (by simp))
  | int j=>obtain ⟨t',rfl⟩:=ry; exact PySem.EqNone.ne_none_int (zY I q (by simp))
  | str j=>obtain ⟨t',rfl⟩:=ry; exact PySem.EqNone.ne_none_str (zY I q (by simp))
  | _=>exact absurd (show false = true from hs) Bool.false_ne_true
 | bl i =>
  cases rx
  cases y with
  | non=>cases ry; exact PySem.EqNone.ne_bool_none (zY I q (by simp))
  | bl j=>cases ry; exact ne_bool (zY I q (congrArg not dec_bl))
  | str j=>obtain ⟨t',rfl⟩:=ry; exact PySem.EqMixed.ne_bool_str (zY I q (by simp))
  | _=>exact absurd (show false = true from hs) Bool.false_ne_true
 | int i =>
  obtain ⟨t,rfl⟩:=rx
  cases y with
  | non=>cases ry; exact PySem.EqNone.ne_int_none (zY I q (by simp))
  | int j=>obtain ⟨t',rfl⟩:=ry; exact ne_int (zY I q (congrArg not dec_int))
  | str j=>obtain ⟨t',rfl⟩:=ry; exact PySem.EqMixed.ne_int_str (zY I q (by simp))
  | _=>exact absurd (show false = true from hs) Bool.false_ne_true
 | str i =>
  obtain ⟨t,rfl⟩:=rx
  cases y with
  | non=>cases ry; exact PySem.EqNone.ne_str_none (zY I q (by simp))
  | bl j=>cases ry; exact PySem.EqMixed.ne_str_bool (zY I q (by simp))
  | int j=>obtain ⟨t',rfl⟩:=ry; exact PySem.EqMixed.ne_str_int (zY I q (by simp))
  | str j=>obtain ⟨t',rfl⟩:=ry; exact ne_str (zY I q (congrArg not dec_str))
  | _=>exact absurd (show false = true from hs) Bool.false_ne_true
 | byt i =>
  obtain ⟨t,rfl⟩:=rx
  cases y with
  | byt j=>obtain ⟨t',rfl⟩:=ry; exact PySem.W.ne_bytes (zY I q (congrArg not dec_byt))
  | _=>exact absurd (show false = true from hs) Bool.false_ne_true
 | _=>cases y <;> exact absurd (show false = true from hs) Bool.false_ne_true
theorem op_lt:OpR X (compareOp .Lt) (rI0 fun i j=>.bl (decide (i < j))):=opB0 fun _ _ _ _ _ _ _ q=>lt_int q
theorem op_le:OpR X (compareOp .LtE) (rI0 fun i j=>.bl (decide (i <= j))):=opB0 fun _ _ _ _ _ _ _ q=>le_int q
theorem op_gt:OpR X (compareOp .Gt) (rI0 fun i j=>.bl (decide (j < i))):=opB0 fun _ _ _ _ _ _ _ q=>gt_int q
theorem op_ge:OpR X (compareOp .GtE) (rI0 fun i j=>.bl (decide (j <= i))):=opB0 fun _ _ _ _ _ _ _ q=>ge_int q
theorem op_isN:OpR X (compareOp .Is) (fun x y H Q=>y = .non /\ Q (.bl (decide (x = .non))) H):=by
 intro pins s σ H x y v u Q I rx ry h
 obtain ⟨rfl,q⟩:=h
 cases ry
 refine is_none_gen (zY I q ?_)
 cases x <;> first
  | (cases rx; rfl)
  | (obtain ⟨t,rfl⟩:=rx; rfl)
theorem op_notN:OpR X (compareOp .IsNot) (fun x y H Q=>y = .non /\ Q (.bl (!decide (x = .non))) H):=by
 intro pins s σ H x y v u Q I rx ry h
 obtain ⟨rfl,q⟩:=h
 cases ry
 refine isnot_none_gen (zY I q ?_)
 cases x <;> first
  | (cases rx; rfl)
  | (obtain ⟨t,rfl⟩:=rx; rfl)
theorem zX (b:Expr) {op:CmpOp} (h:op ≠ .In:=by decide) (h2:op ≠ .NotIn:=by decide):behindInMarks op b = false:=by
 have e1:(op == CmpOp.In) = false:=by cases op <;> first | rfl | exact absurd rfl h
 have e2:(op == CmpOp.NotIn) = false:=by cases op <;> first | rfl | exact absurd rfl h2
 cases b <;> simp [behindInMarks,e1,e2]
theorem pe_cmpR {op:CmpOp} {r:R2} (ho:OpR X (compareOp op) r) (ha:PE X a ta) (hb:PE X b tb) (hm:behindInMarks op b = false):PE X (.Compare a [op] [b] pos) (tOp r ta tb):=by
 intro pins s σ H Q I h
 exact wpAny_Compare1 (binT ha hb I h fun v u s2 x y H2 I2 rx ry q=>ho pins s2 σ H2 x y v u Q I2 rx ry q) hm
def tTest (t:TE):TT:=fun σ H Q=>t σ H fun x H'=>∃ k,x = .bl k /\ Q k H'
theorem zQ {op:CmpOp} {r:R2} (ho:OpR X (compareOp op) r) (ha:PE X a ta) (hb:PE X b tb) (hm:behindInMarks op b = false):PT X (.Compare a [op] [b] pos) (tTest (tOp r ta tb)):=by
 intro pins s σ H Q I h
 refine wpAny_isTrue_Compare1 (thn (ha pins s σ H _ I h) fun v s1 ⟨x,H1,I1,r1,q1⟩=>thn (hb pins s1 σ H1 _ I1 q1) fun u s2 ⟨y,H2,I2,r2,q2⟩ =>
  thn (ho pins s2 σ H2 x y v u _ I2 r1 r2 q2) fun c s3 ⟨z,H3,I3,r3,k,e,q3⟩=>?_) hm
 subst e
 cases r3
 exact wpAny_truthy_bool ⟨H3,I3,q3⟩
def TruV (K:PySem.W.Frag) (x:V) (H:Hp) (k:Bool):Prop :=
 match x with
 | .non=>k = false
 | .bl b=>k = b
 | .int i=>k = (i != 0)
 | .str y=>y.length <= sizeLine /\ k = ((y.length:Int) != 0)
 | .byt y=>y.size <= sizeLine /\ k = ((y.size:Int) != 0)
 | .ref p=>(∃ xs,SqL K H p xs /\ k = !xs.isEmpty) \/ (∃ xs,SqT K H p xs /\ k = !xs.isEmpty) \/ ∃ kvs,H p = some (.dK kvs) /\ k = !kvs.isEmpty
 | _=>False
theorem isEmpty_kv {κ:Type} {kvs:List (κ × V)} {vs:List (κ × Value)} (r:KV kvs vs):(!vs.isEmpty) = !kvs.isEmpty:=by
 cases r <;> rfl
theorem isEmpty_of {xs:List V} {its:List Value} (r:Vals xs its):(!its.toArray.isEmpty) = !xs.isEmpty:=by
 cases r <;> simp
theorem line63:(sizeLine:Nat) < 2 ^ 63:=by rw [sizeLine_eq]; decide
theorem tru_ok:TruR X (fun x H Q=>∃ k,TruV X.K x H k /\ Q k H):=by
 intro pins s σ H x v Q I rx h
 obtain ⟨k,e,q⟩:=h
 have hl:=line63
 have hs:sizeLine = 16777216:=sizeLine_eq
 cases x with
 | non =>
  cases rx
  have e':k = false:=e
  subst e'
  exact truthy_none ⟨H,I,q⟩
 | bl b =>
  cases rx
  have e':k = b:=e
  subst e'
  exact wpAny_truthy_bool ⟨H,I,q⟩
 | int i =>
  obtain ⟨t,rfl⟩:=rx
  have e':k = (i != 0):=e
  subst e'
  exact PySem.P.truthy_int ⟨H,I,q⟩
 | str y =>
  obtain ⟨t,rfl⟩:=rx
  obtain ⟨hy,e'⟩:y.length <= sizeLine /\ k = ((y.length:Int) != 0):=e
  subst e'
  exact PySem.P.truthy_str (by omega) ⟨H,I.tok _,q⟩
 | byt y =>
  obtain ⟨t,rfl⟩:=rx
  obtain ⟨hy,e'⟩:y.size <= sizeLine /\ k = ((y.size:Int) != 0):=e
  subst e'
  exact PySem.W.truthy_bytes (by omega) ⟨H,I.tok _,q⟩
 | ref p =>
  cases rx
  have e':(∃ xs,SqL X.K H p xs /\ k = !xs.isEmpty) \/ (∃ xs,SqT X.K H p xs /\ k = !xs.isEmpty) \/ ∃ kvs,H p = some (.dK kvs) /\ k = !kvs.isEmpty:=e
  rcases e' with ⟨xs,hx,e'⟩ | ⟨xs,hx,e'⟩ | ⟨kvs,hx,e'⟩
  ·subst e'
   obtain ⟨its,r,pl,hz⟩:=I.list hx
   have hlen:=r.length
   exact wpAny_truthy_list pl.isList (by simp only [List.size_toArray]; omega) ⟨H,I.tok _,by rw [isEmpty_of r]; exact q⟩
  ·subst e'
   obtain ⟨its,r,pl,hz⟩:=I.tuple hx
   have hlen:=r.length
   exact truthy_tuple pl (by simp only [List.size_toArray]; omega) ⟨H,I.tok _,by rw [isEmpty_of r]; exact q⟩
  ·subst e'
   obtain ⟨hz,hS,vs,r,m⟩:kvs.length <= sizeLine /\ (p == sysModules) = false /\ ∃ vs,KV kvs vs /\ s.heap.DictOf (mixKind X.prog X.w) p vs:=I.hok p _ hx
   have hlen:kvs.length = vs.length:=Paired.length r
   exact wpAny_truthy_dict hS m (by omega) ⟨H,I.tok _,by rw [isEmpty_kv r]; exact q⟩
 | _=>exact (show False from e).elim
theorem pt_truth (ha:PE X a ta) (he:∀ whole,isTrue a X.env whole = (do let v ← whole; standAt a.pos; holding [v] (truthy v))) :
  PT X a (fun σ H Q=>ta σ H fun x H'=>∃ k,TruV X.K x H' k /\ Q k H'):=by
 intro pins s σ H Q I h
 exact isTrue_plain (thn (ha pins s σ H _ I h) fun v s1 ⟨x,H1,I1,r1,q1⟩=>tru_ok pins s1 σ H1 x v Q I1 r1 q1) (he _)
theorem qV:OpR X (binaryOp .Add) (fun x y H Q=>∃ i j,x = .str i /\ y = .str j /\ i.length + j.length <= sizeLine /\ Q (.str (i ++ j)) H):=by
 intro pins s σ H x y v u Q I rx ry h
 obtain ⟨i,j,rfl,rfl,hz,q⟩:=h
 obtain ⟨t,rfl⟩:=rx
 obtain ⟨t',rfl⟩:=ry
 exact add_str (fun t' tk=>⟨.str (i ++ j),H,I.tok _,⟨_,rfl⟩,q⟩) hz
theorem vals1 {x:V} {us:List Value} (r:Vals [x] us):∃ u,us = [u] /\ RelV x u:=by
 cases r with
 | cons r1 r2=>cases r2; exact ⟨_,rfl,r1⟩
theorem vals2 {x y:V} {us:List Value} (r:Vals [x,y] us):∃ u w',us = [u,w'] /\ RelV x u /\ RelV y w':=by
 cases r with
 | cons r1 r2 =>
  cases r2 with
  | cons r3 r4=>cases r4; exact ⟨_,_,rfl,r1,r3⟩
theorem call_max2 (hc:X.calm = true):CallR X (.builtin "max") (fun xs H Q=>∃ i j,xs = [.int i,.int j] /\ Q (.int (if j > i then j else i)) H):=by
 intro pins s σ H xs us Q I r h
 obtain ⟨i,j,rfl,q⟩:=h
 obtain ⟨u,w',rfl,⟨t,rfl⟩,⟨t',rfl⟩⟩:=vals2 r
 refine max_two_ints (I.ok.hd hc) fun h' tk k=>⟨_,H,I.kept k,?_,q⟩
 by_cases hj:j > i
 ·rw [if_pos hj,if_pos hj]; exact ⟨_,rfl⟩
 ·rw [if_neg hj,if_neg hj]; exact ⟨_,rfl⟩
theorem call_str_int:CallR X (.type "str") (fun xs H Q=>∃ i,xs = [.int i] /\ i.natAbs.log2 < 1920 /\ Q (.str (toString i)) H):=by
 intro pins s σ H xs us Q I r h
 obtain ⟨i,rfl,hz,q⟩:=h
 obtain ⟨u,rfl,t,rfl⟩:=vals1 r
 exact PySem.P.str_of_int hz ⟨.str _,H,I.tok _,⟨_,rfl⟩,q⟩
end
end L2
namespace L2
open PySem PySem.Spec PyProof.Rows
structure ObjM (h:Heap) (x dx C:Addr) (mA:Str -> Option Value):Prop where
 obj:h.get? x = some (PySem.W.instObj C dx)
 ns:h.Ns1 dx mA
 ne:dx ≠ x
theorem lookIn_ns {h:Heap} {dx:Addr} {mA:Str -> Option Value} (n:h.Ns1 dx mA):∃ od,h.get? dx = some od /\ ∀ name,PySem.W.lookIn name od = some (mA name):=by
 obtain ⟨o,es,ep,ho,hd,hk,_,hm⟩:=n
 refine ⟨o,ho,fun name=>?_⟩
 have e:=hm name
 unfold nsFind findBy at e
 rw [← Array.find?_toList] at e
 unfold PySem.W.lookIn
 rw [hd]
 dsimp only
 split
 ·rename_i y q
  rw [q] at e
  exact congrArg some e
 ·rename_i q
  rw [q] at e
  have a:es.toList.any (·.refKey) = false:=by
   rw [List.any_eq_false]
   intro y hy
   obtain ⟨z,t,hkey⟩:=hk y (Array.mem_toList_iff.mp hy)
   simp [DictEntry.refKey,hkey]
  have a':¬ es.toList.any (·.refKey) = true:=by rw [a]; exact Bool.false_ne_true
  rw [if_neg a']
  exact congrArg some e
theorem ObjM.look {h:Heap} {x dx C:Addr} {mA:Str -> Option Value} (I:ObjM h x dx C mA):∃ od,PySem.W.InstAt h x (PySem.W.instObj C dx) C (some od) /\ ∀ name,PySem.W.lookIn name od = some (mA name) :=
 let ⟨od,ho,hl⟩:=lookIn_ns I.ns
 ⟨od,⟨I.obj,rfl,rfl,ho⟩,hl⟩
section
variable {prog:Program} {w:World} {A:Around} {E:Value -> Shared -> Prop} {s:Shared} {K:PySem.W.Frag} {x dx C f:Addr} {mA:Str -> Option Value} {name:Str} {v:Value}
end
theorem RelO.some_of {v:V} {o:Option Value} (r:RelO (some v) o):∃ u,o = some u /\ RelV v u:=by
 cases o with
 | none=>exact (show False from r).elim
 | some u=>exact ⟨u,rfl,r⟩
section
variable {P:Program} {w:World} {H H':Hp} {h h':Heap} {a C dx:Addr} {fs fs':List (Str × V)}
theorem ins_get (hok:HOk P w H h) (e:H a = some (.ins C dx fs)):∃ mA,ObjM h a dx C mA /\ (∀ f,RelO (fs.lookup f) (mA f)) /\ PySem.Within mA (fs.map (·.1)) /\ fs.length <= 1000 /\ H dx = some (.own a):=by
 obtain ⟨d,z,ne,ob,mA,n,r,q⟩:=(show ObjOk P w H h a (.ins C dx fs) from hok a _ e)
 exact ⟨mA,⟨ob,n,ne⟩,r,q,z,d⟩
end
structure Cls (K:PySem.W.Frag) (C:Addr):Prop where
 pg:PySem.W.plainGet K C Str.empty = true
 hd:PySem.W.hasDictIn K C = true
 po:PySem.W.plainOver K C = true
 sa:PySem.W.findIn K (.ref C) "__setattr__" = some (some (.builtin "object.__setattr__"))
theorem Cls.get {K:PySem.W.Frag} {C:Addr} (c:Cls K C) (f:Str):PySem.W.plainGet K C f = true:=c.pg
section
variable {X:Cx} {pins:List (Addr × Obj)} {σ:St} {H:Hp} {s:Shared} {a C dx:Addr} {fs:List (Str × V)} {f:Str} {v:V} {A:Around} {E:Value -> Shared -> Prop}
end
section
variable {X:Cx} {o e value:Expr} {f:Str} {pos pos' tpos:Pos} {ta tv:TE}
end
section
variable {X:Cx} {pins:List (Addr × Obj)} {σ:St} {H:Hp} {s:Shared} {A:Around} {E:Value -> Shared -> Prop} {Q:Value -> Shared -> Prop} {c:Value} {b:Bool}
inductive TyOf (K:PySem.W.Frag) (H:Hp):V -> Value -> Prop where
 | non:TyOf K H .non (.type "NoneType")
 | bl (x:Bool):TyOf K H (.bl x) (.type "bool")
 | int (i:Int):TyOf K H (.int i) (.type "int")
 | str (x:Str):TyOf K H (.str x) (.type "str")
 | flt (x:UInt64):TyOf K H (.flt x) (.type "float")
 | lst {a:Addr} {xs:List V} (e:H a = some (.lst xs)):TyOf K H (.ref a) (.type "list")
 | frz {a:Addr} {o:Obj} {xs:List V} (e:H a = some (.frz o (.lst xs))):TyOf K H (.ref a) (.type "list")
 | tup {a:Addr} {xs:List V} (e:H a = some (.tup xs)):TyOf K H (.ref a) (.type "tuple")
 | dK {a:Addr} {kvs:List (Key × V)} (e:H a = some (.dK kvs)):TyOf K H (.ref a) (.type "dict")
 | dT {a:Addr} {kvs:List (List Key × V)} (e:H a = some (.dT kvs)):TyOf K H (.ref a) (.type "dict")
 | ins {a C dx:Addr} {fs:List (Str × V)} (e:H a = some (.ins C dx fs)) (cl:Cls K C) (ha:PySem.W.findIn K (.ref C) "__class__" = some (some (.builtin "object.__class__")))
   (hn:PySem.W.specialIn K (.builtin "object.__class__") "__get__" = some (some (.builtin "getset_descriptor.__get__"))) (htk:PySem.W.takesIn K (.builtin "object.__class__") = some true)
   (hm:PySem.W.mroIn K C (.type "object") = some true):TyOf K H (.ref a) (.ref C)
theorem xQ {x:V} {u t:Value} (I:Inv X pins σ H s) (rx:RelV x u) (ty:TyOf X.K H x t) (e:PySem.W.kitOne X.K t c = some b) (h:∀ tk,Q (.bool b) { s with toks:=tk }) :
  wpAny (model X.prog X.w) A (call (.builtin "isinstance") [u,c]) Q E s:=by
 cases ty with
 | non=>cases (show u = Value.none from rx); exact PySem.W.kia_one PySem.W.kitx_none I.kIn True.intro e (fun z=>nomatch z) h
 | bl y=>cases (show u = Value.bool y from rx); exact PySem.W.kia_one PySem.W.kitx_bool I.kIn True.intro e (fun z=>nomatch z) h
 | int i=>obtain ⟨t,q⟩:=(show ∃ t,u = Value.int i t from rx); cases q; exact PySem.W.kia_one PySem.W.kitx_int I.kIn True.intro e (fun z=>nomatch z) h
 | str y=>obtain ⟨t,q⟩:=(show ∃ t,u = Value.str y t from rx); cases q; exact PySem.W.kia_one PySem.W.kitx_str I.kIn True.intro e (fun z=>nomatch z) h
 | flt y=>obtain ⟨t,q⟩:=(show ∃ t,u = Value.float y t from rx); cases q; exact PySem.W.kia_one PySem.W.kitx_float I.kIn True.intro e (fun z=>nomatch z) h
 | @lst a xs ea =>
  cases (show u = Value.ref a from rx)
  obtain ⟨_,_,n,_,h1⟩:=(show ObjOk X.prog X.w H s.heap a (.lst xs) from I.hok a _ ea)
  exact PySem.W.kia_one PySem.W.kitx_list I.kIn ⟨_,h1,rfl⟩ e (fun z=>nomatch z) h
 | @frz a ob xs ea =>
  cases (show u = Value.ref a from rx)
  obtain ⟨_,_,_,n,_,h1⟩:=(show ObjOk X.prog X.w H s.heap a (.frz ob (.lst xs)) from I.hok a _ ea)
  exact PySem.W.kia_one PySem.W.kitx_list I.kIn ⟨_,h1,rfl⟩ e (fun z=>nomatch z) h
 | @tup a xs ea =>
  cases (show u = Value.ref a from rx)
  obtain ⟨_,_,_,p⟩:=(show ObjOk X.prog X.w H s.heap a (.tup xs) from I.hok a _ ea)
  obtain ⟨o,h1,h2,_⟩:=p
  exact PySem.W.kia_one PySem.W.kitx_tuple I.kIn ⟨o,h1,h2⟩ e (fun z=>nomatch z) h
 | @dK a kvs ea =>
  cases (show u = Value.ref a from rx)
  obtain ⟨_,_,vs,_,p⟩:=(show ObjOk X.prog X.w H s.heap a (.dK kvs) from I.hok a _ ea)
  obtain ⟨o,es,ep,h1,h2,_⟩:=p
  exact PySem.W.kia_one PySem.W.kitx_dict I.kIn ⟨o,h1,h2.1⟩ e (fun z=>nomatch z) h
 | @dT a kvs ea =>
  cases (show u = Value.ref a from rx)
  obtain ⟨_,_,xs,_,o,es,ep,h1,h2,_⟩:=(show ObjOk X.prog X.w H s.heap a (.dT kvs) from I.hok a _ ea)
  exact PySem.W.kia_one PySem.W.kitx_dict I.kIn ⟨o,h1,h2.1⟩ e (fun z=>nomatch z) h
 | @ins a C dx fs ea cl ha hn htk hm =>
  cases (show u = Value.ref a from rx)
  obtain ⟨mA,O,_⟩:=ins_get I.hok ea
  obtain ⟨od,J,_⟩:=O.look
  exact PySem.W.kia_one (PySem.W.kitx_own (cl.get _) cl.hd ha hn htk hm) I.kIn J e (fun z=>nomatch z) h
end
end L2
namespace L2
open PySem PySem.Spec PyProof.Rows
structure Room (k:Nat) (A:Around):Prop where
 hd:A.handled = none
 dp:A.depth + 3 * k + 5 < recursionLimit
 un:A.units + 16 * k + 200 < cLine
theorem Room.mono {j k:Nat} {A:Around} (r:Room k A) (h:j <= k):Room j A:=⟨r.hd,by have:=r.dp; omega,by have:=r.un; omega⟩
theorem Room.deeper {k:Nat} {A:Around} (r:Room (k + 1) A) (env:Env):Room k (A.deeper env) :=
 ⟨r.hd,by have:=r.dp; show A.depth + 1 + 3 * k + 5 < _; omega,by have:=r.un; show A.units + 3 + 16 * k + 200 < _; omega⟩
theorem Room.in1 {k:Nat} {A:Around} (r:Room (k + 1) A):Room k A.in1 :=
 ⟨r.hd,by have:=r.dp; show A.depth + 3 * k + 5 < _; omega,by have:=r.un; show A.units + 1 + 16 * k + 200 < _; omega⟩
theorem Room.depth {k:Nat} {A:Around} (r:Room k A):A.depth < recursionLimit:=by have:=r.dp; omega
theorem Room.units {k:Nat} {A:Around} (r:Room k A):A.units + 64 < cLine:=by have:=r.un; omega
def tNil:TA:=fun _ H Q=>Q [] H
def tCons (ta:TE) (tr:TA):TA:=fun σ H Q=>ta σ H fun x H1=>tr σ H1 fun xs H2=>Q (x :: xs) H2
section
variable {X:Cx} {e:Expr} {es:List Expr} {te:TE} {t:TA} {pos:Pos}
theorem pa_nil:PA X [] tNil:=fun _ _ _ _ H Q I h=>Calls.spliced_nil ⟨[],H,I,.nil,h⟩
theorem zA (ha:PE X e te) (hr:PA X es t) (hs:starEach (e :: es) X.env = (false,eval e X.env) :: starEach es X.env:=by rfl):PA X (e :: es) (tCons te t):=by
 intro pos pins s σ H Q I h
 rw [hs]
 show wpAny _ _ (spliced ((false,eval e X.env) :: backTo pos (starEach es X.env))) _ _ s
 refine Calls.spliced_cons (thn (ha pins s σ H _ I h) fun u s1 ⟨x,H1,I1,r1,q1⟩=>?_)
 exact thn (hr pos pins s1 σ H1 _ I1 q1) fun us s2 ⟨xs,H2,I2,r2,q2⟩=>⟨x :: xs,H2,I2,.cons r1 r2,q2⟩
def tTup (t:TA):TE:=fun σ H Q=>t σ H fun xs H1=>xs.length <= sizeLine /\ ∀ p,H1 p = none -> Q (.ref p) (upd H1 p (.tup xs))
def tLst (t:TA):TE:=fun σ H Q=>t σ H fun xs H1=>xs.length <= sizeLine /\ ∀ p,H1 p = none -> Q (.ref p) (upd H1 p (.lst xs))
theorem yC {x1} (h:PA X es t):PE X (.Tuple es x1 pos) (tTup t):=by
 intro pins s σ H Q I hq
 refine wpAny_Tuple_spliced (thn (h pos pins s σ H _ I hq) fun us s1 ⟨xs,H1,I1,r,z,q⟩=>⟨by rw [← r.length]; exact z,?_⟩)
 have hf:H1 s1.heap.objs.size = none:=I1.hok.fresh (Nat.le_refl _)
 refine ⟨.ref s1.heap.objs.size,upd H1 s1.heap.objs.size (.tup xs),I1.laid (t':=s1.toks) (fun b u e=>Heap.get?_push_of_some _ e) (Nat.le_refl _) ?_,rfl,q _ hf⟩
 exact ⟨z,us,r,⟨_,Heap.get?_push_size _ rfl,rfl,_,rfl⟩⟩
theorem zZ (h:PA X es t):PE X (.List es pos) (tLst t):=by
 intro pins s σ H Q I hq
 refine wpAny_List_spliced (thn (h pos pins s σ H _ I hq) fun us s1 ⟨xs,H1,I1,r,z,q⟩=>⟨by rw [← r.length]; exact z,?_⟩)
 have hf:H1 s1.heap.objs.size = none:=I1.hok.fresh (Nat.le_refl _)
 refine ⟨.ref s1.heap.objs.size,upd H1 s1.heap.objs.size (.lst xs),I1.laid (t':=s1.toks) (fun b u e=>Heap.get?_push_of_some _ e) (Nat.le_refl _) ?_,rfl,q _ hf⟩
 exact ⟨z,us,0,r,Heap.get?_push_size _ rfl⟩
end
abbrev Sp:=List V -> Hp -> VK -> XK -> Prop
abbrev CXT:=List Env -> Hp -> Shared -> XK -> Value -> Shared -> Prop
structure Env0 (P:Program) (w:World) (K:PySem.W.Frag) (mg:Str -> Option Value) (base:Heap) (A:Around) (outer:List Env) (s:Shared) (H:Hp):Prop where
 frames:A.frames = some outer
 mod:Mod K mg base
 bs:∀ b o,base.get? b = some o -> s.heap.get? b = some o /\ H b = none
 bsz:base.objs.size <= s.heap.objs.size
 funs:s.heap.FunFrames base outer
 frf:∀ b ∈ frs outer,H b = none
 hok:HOk P w H s.heap
 bare:AllBare s.gens
def CE (outer:List Env) (P:Program) (w:World) (H:Hp) (s:Shared) (Q:VK) (u:Value) (s':Shared):Prop :=
 ∃ v H',s'.os = s.os /\ AllBare s'.gens /\ Un (frs outer) [] H H' s.heap s'.heap /\ HOk P w H' s'.heap /\ RelV v u /\ Q v H'
def CR (CX:CXT) (outer:List Env) (P:Program) (w:World) (H:Hp) (s:Shared) (Q:VK) (E:XK) (r:Result) (s':Shared):Prop :=
 match r with
 | .ok (.ret u)=>CE outer P w H s Q u s'
 | .ok _=>False
 | .error e=>CX outer H s E e s'
structure FnOk (P:Program) (w:World) (K:PySem.W.Frag) (mg:Str -> Option Value) (base:Heap) (CX:CXT) (k:Nat) (f:Addr) (fd:FuncData) (ps:List Str) (sp:Sp):Prop where
 len:∀ vs H Q E,sp vs H Q E -> vs.length = ps.length
 run:∀ (A:Around) (outer:List Env) (s:Shared) (H:Hp) (args:Args) (us:List Value) (vs:List V) (Q:VK) (E:XK),Room k A -> Env0 P w K mg base A outer s H -> BindsTo s fd args (ps.zip us) -> Vals vs us -> sp vs H Q E ->
  codeAny (model P w) A (.call (.ref f) args) (CR CX outer P w H s Q E) s
theorem Env0.in1 {P:Program} {w:World} {K:PySem.W.Frag} {mg:Str -> Option Value} {base:Heap} {A:Around} {outer:List Env} {s:Shared} {H:Hp} (e:Env0 P w K mg base A outer s H) :
  Env0 P w K mg base A.in1 outer s H:=⟨e.frames,e.mod,e.bs,e.bsz,e.funs,e.frf,e.hok,e.bare⟩
section
variable {X:Cx} {pins:List (Addr × Obj)} {σ:St} {H:Hp} {s s':Shared}
theorem Inv.env0 (I:Inv X pins σ H s):Env0 X.prog X.w X.K X.mg X.base X.A X.stack s H :=
 ⟨I.ok.frames,I.ok.mod,I.bs,Nat.le_trans I.ok.bsz I.sz,I.stack,I.stkFree,I.hok,I.bare⟩
theorem Inv.after {Q:VK} {u:Value} (I:Inv X pins σ H s) (h:CE X.stack X.prog X.w H s Q u s'):EP X pins σ Q u s':=by
 obtain ⟨v,H',os,bare,un,hok,r,q⟩:=h
 obtain ⟨hh,g,d,t,os'⟩:=s'
 obtain rfl:os' = s.os:=os
 exact ⟨v,H',I.call (h':=hh) (g':=g) (d':=d) (t':=t) (ch:=[]) un hok bare (fun b z=>absurd z (by simp)),r,q⟩
end
def tCall (sp:Sp) (dvs:List V) (E:XK) (t:TA):TE:=fun σ H Q=>t σ H fun vs H1=>sp (vs ++ dvs) H1 Q E
def Binds (K:PySem.W.Frag) (fd:FuncData) (ps:List Str) (ds:List Value):Prop :=
 ∀ (s:Shared) (us:List Value),K.In s.heap -> (us ++ ds).length = ps.length -> BindsTo s fd ⟨us,[]⟩ (ps.zip (us ++ ds))
theorem Binds.all {K:PySem.W.Frag} {fd:FuncData} {ps:List Str} (h:∀ us:List Value,us.length = ps.length -> bindArgs fd ⟨us,[]⟩ = pure (ps.zip us)):Binds K fd ps []:=fun s us _ hl=>by
 rw [List.append_nil] at hl ⊢
 exact .of_eq (h us hl)
def Passes (CX:CXT) (X:Cx) (E:XK):Prop:=∀ (pins:List (Addr × Obj)) (σ:St) (H:Hp) (s:Shared) (e:Value) (s':Shared),Inv X pins σ H s -> CX X.stack H s E e s' -> X.xe e s'
section
variable {X:Cx} {CX:CXT} {k:Nat} {f C:Addr} {fd:FuncData} {ps:List Str} {sp:Sp} {dvs:List V} {ds:List Value} {E:XK} {x m:Str} {p pos apos:Pos} {e o:Expr} {es:List Expr} {ta:TE} {t:TA}
theorem run_fn {pins:List (Addr × Obj)} {σ:St} {H:Hp} {s:Shared} {Q:VK} {us:List Value} {vs:List V} (F:FnOk X.prog X.w X.K X.mg X.base CX k f fd ps sp) (hr:Room k X.A) (hb:Binds X.K fd ps ds) (hd:Vals dvs ds) (hx:Passes CX X E)
  (I:Inv X pins σ H s) (r:Vals vs us) (h:sp (vs ++ dvs) H Q E):wpAny (model X.prog X.w) X.A (call (.ref f) us) (EP X pins σ Q) X.xe s:=by
 have r2:Vals (vs ++ dvs) (us ++ ds):=r.append hd
 have hl:(us ++ ds).length = ps.length:=by rw [← r2.length]; exact F.len _ _ _ _ h
 refine wpAny_call (codeAny_mono (F.run X.A X.stack s H ⟨us,[]⟩ (us ++ ds) (vs ++ dvs) Q E hr I.env0 (hb s us I.kIn hl) r2 h) fun r s' hq=>?_)
 cases r with
 | error e=>exact hx pins σ H s e s' I hq
 | ok fl =>
  cases fl with
  | ret u=>exact I.after hq
  | next=>exact False.elim hq
  | brk=>exact False.elim hq
  | cont=>exact False.elim hq
theorem pe_call (F:FnOk X.prog X.w X.K X.mg X.base CX k f fd ps sp) (hr:Room k X.A) (hg:Gl X x) (hm:X.mg x = some (.ref f)) (hk:PySem.W.keepIn X.K (.ref f) = true) (hb:Binds X.K fd ps ds) (hd:Vals dvs ds) (hx:Passes CX X E)
  (ha:PA X (e :: es) t) (hdb:(x == ("__debug__":Str)) = false:=by decide) (he:starEach (e :: es) X.env = (false,eval e X.env) :: starEach es X.env:=by rfl) (hpl:(backTo pos (starEach es X.env)).any (·.1) = false:=by rfl) :
  PE X (.Call (.Name x p) (e :: es) [] pos) (tCall sp dvs E t):=by
 intro pins s σ H Q I h
 refine wpAny_Call_Name_kw (ld_glob I hg hm ?_ hdb)
 refine PySem.W.callWith_K (h₀:=X.base) I.ok.mod.kin hk (thn (ha pos pins s σ H _ I h) fun us s1 ⟨vs,H1,I1,r,q⟩=>⟨I1.kIn,?_⟩) he hpl
 exact run_fn F hr hb hd hx I1 r q
end
section
variable {X:Cx} {CX:CXT} {k:Nat} {f C:Addr} {fd:FuncData} {ps ks:List Str} {sp:Sp} {E:XK} {x m:Str} {p pos apos kpos:Pos} {e o:Expr} {es:List Expr} {kws:List Keyword} {te ta:TE} {t tk:TA} {nm:Option Str}
variable {g:List Value -> List Value -> List Value} {gV:List V -> List V -> List V}
end
structure FnScope (N P:List Str) (sc:Scope):Prop where
 kind:sc.kind = .function
 co:sc.isCoroutine = false
 gen:sc.isGenerator = false
 nd:N.Nodup
 pre:N.take P.length = P
 par:∀ x ∈ P,sc.names.lookup x = some .local \/ sc.names.lookup x = some .cell
 nofree:∀ y ∈ sc.names,y.2 ≠ .free
theorem bindL_out {kindOf:Str -> Option NameKind} {x:Str}:∀ {binds:List (Str × Value)} {m:Str -> Option Value},(∀ v,(x,v) ∉ binds) -> bindL kindOf binds m x = m x
 | [],_,_=>rfl
 | (n,v) :: r,m,h=>by
  unfold bindL
  rw [bindL_out fun w hw=>h w (List.mem_cons_of_mem _ hw)]
  split
  ·have:x ≠ n:=by rintro rfl; exact h v List.mem_cons_self
   simp [this]
  ·rfl
theorem bindC_out {kindOf:Str -> Option NameKind} {x:Str}:∀ {binds:List (Str × Value)} {m:Str -> Option Value},(∀ v,(x,v) ∉ binds) -> bindC kindOf binds m x = m x
 | [],_,_=>rfl
 | (n,v) :: r,m,h=>by
  unfold bindC
  rw [bindC_out fun w hw=>h w (List.mem_cons_of_mem _ hw)]
  split
  ·rfl
  ·have:x ≠ n:=by rintro rfl; exact h v List.mem_cons_self
   simp [this]
theorem bindL_get {kindOf:Str -> Option NameKind} {x:Str} {v:Value}:∀ {P:List Str} {vs:List Value} {i:Nat} {m:Str -> Option Value},P.Nodup -> P[i]? = some x -> vs[i]? = some v -> kindOf x = some .local ->
  bindL kindOf (P.zip vs) m x = some v
 | [],_,_,_,_,h,_,_=>by simp at h
 | _ :: _,[],_,_,_,_,h,_=>by simp at h
 | p :: P,w :: vs,0,m,nd,h1,h2,hk=>by
  simp at h1 h2; subst h1; subst h2
  show bindL kindOf ((p,w) :: P.zip vs) m p = _
  unfold bindL
  rw [bindL_out fun v hv=>(List.nodup_cons.mp nd).1 (List.of_mem_zip hv).1,if_pos hk]
  simp
 | p :: P,w :: vs,i + 1,m,nd,h1,h2,hk=>by
  show bindL kindOf ((p,w) :: P.zip vs) m x = _
  unfold bindL
  exact bindL_get (i:=i) (List.nodup_cons.mp nd).2 (by simpa using h1) (by simpa using h2) hk
theorem bindC_get {kindOf:Str -> Option NameKind} {x:Str} {v:Value}:∀ {P:List Str} {vs:List Value} {i:Nat} {m:Str -> Option Value},P.Nodup -> P[i]? = some x -> vs[i]? = some v -> kindOf x ≠ some .local ->
  bindC kindOf (P.zip vs) m x = some v
 | [],_,_,_,_,h,_,_=>by simp at h
 | _ :: _,[],_,_,_,_,h,_=>by simp at h
 | p :: P,w :: vs,0,m,nd,h1,h2,hk=>by
  simp at h1 h2; subst h1; subst h2
  show bindC kindOf ((p,w) :: P.zip vs) m p = _
  unfold bindC
  rw [bindC_out fun v hv=>(List.nodup_cons.mp nd).1 (List.of_mem_zip hv).1,if_neg hk]
  simp
 | p :: P,w :: vs,i + 1,m,nd,h1,h2,hk=>by
  show bindC kindOf ((p,w) :: P.zip vs) m x = _
  unfold bindC
  exact bindC_get (i:=i) (List.nodup_cons.mp nd).2 (by simpa using h1) (by simpa using h2) hk
def start (N:List Str) (vs:List V):St:=vs.map some ++ List.replicate (N.length - vs.length) none
def cxOf (CX:CXT) (P:Program) (w:World) (K:PySem.W.Frag) (mg:Str -> Option Value) (base:Heap) (N:List Str) (qual:Str) (scope:Scope) (f:Addr) (cd:Value) (A:Around) (outer:List Env) (s:Shared) (H:Hp) (E:XK):Cx where
 prog:=P
 w:=w
 K:=K
 mg:=mg
 base:=base
 A:=A.deeper (envOfC qual scope s.heap.objs.size f cd)
 N:=N
 s₀:=s
 H₀:=H
 env:=envOfC qual scope s.heap.objs.size f cd
 outer:=outer
 stack:=envOfC qual scope s.heap.objs.size f cd :: outer
 ex:=[]
 calm:=true
 fn:=fun _=>true
 pn:=[]
 xe:=fun e s'=>wpAny (model P w) (A.deeper (envOfC qual scope s.heap.objs.size f cd)) (leaving (envOfC qual scope s.heap.objs.size f cd) e) (fun _ s''=>CX outer H s E e s'') (fun e' s''=>CX outer H s E e' s'') s'
theorem cell_has {sc:Scope} {n:Nat} {x:Str} (h:sc.names.lookup x = some .cell):∃ c,(cellsFrom n sc.names []).lookup x = some c:=by
 have q:=PySem.W.cellsFrom_some sc.names n [] (.inl h)
 exact Option.isSome_iff_exists.mp q
theorem inv_start {CX:CXT} {P:Program} {w:World} {K:PySem.W.Frag} {mg:Str -> Option Value} {base:Heap} {N ps:List Str} {qual:Str} {scope:Scope} {f:Addr} {cd:Value} {A:Around} {outer:List Env} {s s1:Shared} {H:Hp} {E:XK} {us:List Value} {vs:List V}
  (S:FnScope N ps scope) (hd:A.handled = none) (e0:Env0 P w K mg base A outer s H) (hl:vs.length = ps.length) (r:Vals vs us)
  (x:InCallC s s.heap.objs.size (bindL (envOfC qual scope s.heap.objs.size f cd).kindOf (ps.zip us) fun _=>none) (cellsFrom (s.heap.objs.size + 1) scope.names []) (bindC (envOfC qual scope s.heap.objs.size f cd).kindOf (ps.zip us) fun _=>none) s1) :
  Inv (cxOf CX P w K mg base N qual scope f cd A outer s H E) [] (start N vs) H s1:=by
 have hpl:ps.length <= N.length:=by have:=congrArg List.length S.pre; rw [List.length_take] at this; omega
 obtain ⟨h1,tk,rfl,hk⟩:=x.done
 have noA:∀ b:Addr,b ∉ (cxOf CX P w K mg base N qual scope f cd A outer s H E).ex:=fun b z=>absurd (show b ∈ ([]:List Addr) from z) (by simp)
 refine ⟨⟨e0.mod,S.kind,rfl,rfl,Nat.le_refl _,fun y z c h1 h2=>?_,fun y hy=>?_,fun y c _ h=>?_,fun _=>hd,Around.frames_deeper e0.frames,.inr ⟨rfl,rfl⟩,fun b z=>absurd z (noA b),e0.bs,e0.bsz,fun b _ _=>noA b,fun b z=>absurd z (noA b),e0.funs,e0.frf⟩,
  rfl,e0.bare,Un.kept hk,⟨_,x.toInCall.ns,fun i y v h1 h2 h3=>?_⟩,fun y c h=>⟨_,x.cell y c h⟩,e0.hok.fresh (Nat.le_refl _),fun y c h=>?_,fun p hp=>absurd (show p ∈ ([]:List (Addr × Obj)) from hp) (by simp),e0.hok.kept hk,?_⟩
 ·exact name_of_addr x.apart (PySem.mem_of_lookup h1) (PySem.mem_of_lookup h2)
 ·have hy:scope.names.lookup y = some .cell \/ scope.names.lookup y = some .free:=hy
  rcases hy with hy | hy
  ·exact cell_has hy
  ·exact absurd rfl (S.nofree _ (PySem.mem_of_lookup hy))
 ·exact Nat.le_of_lt (x.above y c (PySem.mem_of_lookup h))
 ·have hi:i < vs.length:=by
   unfold start at h2
   by_cases hi:i < vs.length
   ·exact hi
   ·rw [List.getElem?_append_right (by simpa using hi)] at h2
    rw [List.getElem?_replicate] at h2
    split at h2 <;> cases h2
  have ha:vs[i]? = some v:=by
   unfold start at h2
   rw [List.getElem?_append_left (by simpa using hi),List.getElem?_map] at h2
   cases e:vs[i]? with
   | none=>rw [e] at h2; cases h2
   | some a=>rw [e] at h2; cases h2; rfl
  obtain ⟨u,hu,rv⟩:=r.get ha
  have hp:ps[i]? = some y:=by
   rw [← S.pre,List.getElem?_take_of_lt (by omega)]; exact h1
  have ndP:ps.Nodup:=by rw [← S.pre]; exact S.nd.sublist (List.take_sublist _ _)
  refine ⟨u,rv,?_⟩
  rcases S.par y (List.mem_of_getElem? hp) with k | k
  ·exact .inl ⟨k,bindL_get ndP hp hu k⟩
  ·obtain ⟨c,e⟩:=cell_has (n:=s.heap.objs.size + 1) k
   refine .inr ⟨.inl k,c,e,?_⟩
   have q:=x.cell y c e
   rw [bindC_get ndP hp hu (by show scope.names.lookup y ≠ _; rw [k]; decide)] at q
   exact q
 ·exact e0.hok.fresh (Nat.le_of_lt (x.above y c (PySem.mem_of_lookup h)))
 ·unfold start
  show _ = N.length
  rw [List.length_append,List.length_map,List.length_replicate]
  omega
theorem fn_of {CX:CXT} {P:Program} {w:World} {K:PySem.W.Frag} {mg:Str -> Option Value} {base:Heap} {k:Nat} {f:Addr} {name qual:Str} {params:Arguments} {body:List Stmt} {scope:Scope} {dV kV doc pm cdv ct oc:Value} {an od:Option Addr}
  {osl:Array (Option Value)} {N ps:List Str} {sp:Sp} (lk:K.lookup f = some ⟨oc,od,.func (PySem.W.fnOf name qual params body scope dV kV doc pm an cdv ct),osl⟩) (hcd:PySem.W.codeIn K cdv qual = true) (S:FnScope N ps scope)
  (len:∀ vs H Q E,sp vs H Q E -> vs.length = ps.length)
  (hbody:∀ (A:Around) (outer:List Env) (s:Shared) (H:Hp) (vs:List V) (Q:VK) (E:XK),Room k (A.deeper (envOfC qual scope s.heap.objs.size f cdv)) -> sp vs H Q E ->
   ∃ t,PSs (cxOf CX P w K mg base N qual scope f cdv A outer s H E) body t /\ t { nx:=fun _ H'=>Q .non H',rt:=Q } (start N vs) H) :
  FnOk P w K mg base CX (k + 1) f (PySem.W.fnOf name qual params body scope dV kV doc pm an cdv ct) ps sp:=by
 refine ⟨len,fun A outer s H args us vs Q E hr e0 hb r hsp=>?_⟩
 have hl:=len _ _ _ _ hsp
 have KX:K.In s.heap:=e0.mod.kin.keeps fun b o e=>(e0.bs b o e).1
 have lim:s.heap.NoLimit:=e0.mod.nolimit.keeps fun b o e=>(e0.bs b o e).1
 have hkind:∀ y ∈ ps.zip us,scope.names.lookup y.1 = some .local \/ (scope.names.lookup y.1 = some .cell /\ ((cellsFrom (s.heap.objs.size + 1) scope.names []).lookup y.1).isSome = true):=fun ⟨n,v⟩ hy=>by
  rcases S.par n (List.of_mem_zip hy).1 with q | q
  ·exact .inl q
  ·exact .inr ⟨q,PySem.W.cellsFrom_some _ _ _ (.inl q)⟩
 refine codeAny_call_function hr.depth (KX _ _ lk) rfl S.co S.gen rfl (PySem.W.codeRec_of KX hcd) (hb _ _ _ _ ?_)
 refine wpAny_newFunctionEnv_cells S.kind hkind fun env he s1 x=>?_
 subst he
 refine ⟨lim.keeps x.toInCall.keep,codeAny_func ?_⟩
 obtain ⟨t,ht,hq⟩:=hbody A outer s H vs Q E (hr.deeper _) hsp
 have I:Inv (cxOf CX P w K mg base N qual scope f cdv A outer s H E) [] (start N vs) H s1:=inv_start S hr.hd e0 hl r x
 refine wpAny_mono (ht [] s1 (start N vs) H _ I hq) (fun fl s' hs=>?_) fun e s' hs=>hs
 have fin:∀ {σ':St} {H':Hp} {v:V} {u:Value},Inv (cxOf CX P w K mg base N qual scope f cdv A outer s H E) [] σ' H' s' -> RelV v u -> Q v H' -> CE outer P w H s Q u s' :=
  fun {σ' H' v u} J rv q=>⟨v,H',J.os,J.bare,J.base,J.hok,rv,q⟩
 cases fl with
 | ret u =>
  obtain ⟨v,σ',H',J,rv,q⟩:=hs
  exact fin J rv q
 | next =>
  obtain ⟨σ',H',J,q⟩:=hs
  exact fin (v:=V.non) (u:=Value.none) J rfl q
 | brk =>
  obtain ⟨_,_,_,q⟩:=hs
  exact False.elim q
 | cont =>
  obtain ⟨_,_,_,q⟩:=hs
  exact False.elim q
end L2
namespace L2
open PySem PySem.Spec PyProof.Rows
section
variable {X:Cx} {x:Str} {p pos:Pos} {e:Expr} {es:List Expr} {t:TA} {id T:String} {r:List V -> Hp -> VK -> Prop}
def tCB (r:List V -> Hp -> VK -> Prop) (t:TA):TE:=fun σ H Q=>t σ H fun vs H1=>r vs H1 Q
theorem zO (hc:CallR X (.builtin id) r) (hg:Gl X x) (hm:X.mg x = none) (hv:bootBuiltins x = some (.builtin id)) (ha:PA X (e :: es) t) (hn:x ≠ "__name__":=by decide) (hdb:(x == ("__debug__":Str)) = false:=by decide)
  (he:starEach (e :: es) X.env = (false,eval e X.env) :: starEach es X.env:=by rfl) (hpl:(backTo pos (starEach es X.env)).any (·.1) = false:=by rfl):PE X (.Call (.Name x p) (e :: es) [] pos) (tCB r t):=by
 intro pins s σ H Q I h
 refine wpAny_Call_Name_kw (qY I hg hm hv ?_ hn hdb)
 exact PyProof.Rows.callWith_builtin1 (thn (ha pos pins s σ H _ I h) fun us s1 ⟨vs,H1,I1,r1,q1⟩=>hc pins s1 σ H1 vs us Q I1 r1 q1) he hpl
theorem z5 (hc:CallR X (.type T) r) (hg:Gl X x) (hm:X.mg x = none) (hv:bootBuiltins x = some (.type T)) (ha:PA X (e :: es) t) (hn:x ≠ "__name__":=by decide) (hdb:(x == ("__debug__":Str)) = false:=by decide)
  (he:starEach (e :: es) X.env = (false,eval e X.env) :: starEach es X.env:=by rfl) (hpl:(backTo pos (starEach es X.env)).any (·.1) = false:=by rfl):PE X (.Call (.Name x p) (e :: es) [] pos) (tCB r t):=by
 intro pins s σ H Q I h
 refine wpAny_Call_Name_kw (qY I hg hm hv ?_ hn hdb)
 exact PyProof.Rows.callWith_type1 (thn (ha pos pins s σ H _ I h) fun us s1 ⟨vs,H1,I1,r1,q1⟩=>hc pins s1 σ H1 vs us Q I1 r1 q1) he hpl
end
end L2
namespace HT
open PySem PyProof.Rows
section
open PySem.SeqAt
open PySem.AutoSeq1 (wpAny_loadPart')
open PySem.MeetsSeq PySem.MeetsSeq2 PySem.MeetsSeq3
end
section
variable {prog:Program} {w:World} {A:Around} {E:Value -> Shared -> Prop} {s:Shared}
theorem cat_tup {t b:Addr} {vs ws:List Value} {Q:Value -> Shared -> Prop} (ht:IsTup s.heap t vs.toArray) (hb:IsTup s.heap b ws.toArray) (hv:vs ≠ [])
  (h1:ws = [] -> Q (.ref t) s) (h2:ws ≠ [] -> Q (.ref s.heap.objs.size) { s with heap:=s.heap.push { cls:=.type "tuple",data:=.seq (vs ++ ws).toArray } })
  (hsz:vs.length + ws.length <= sizeLine):wpAny (model prog w) A (binaryOp .Add (.ref t) (.ref b)) Q E s:=by
 obtain ⟨⟨cls,dd,data,sl⟩,ho,hc,n,hd⟩:=id ht
 obtain ⟨⟨cls2,dd2,data2,sl2⟩,ho2,hc2,n2,hd2⟩:=id hb
 simp only at hc hd hc2 hd2
 subst hc hd hc2 hd2
 have e:vs.toArray ++ ws.toArray = (vs ++ ws).toArray:=by simp
 by_cases hw:ws = []
 ·exact concat_meets ⟨_,ho,rfl⟩ ⟨_,ho2,rfl⟩ noFill_tuple_add seq_tuple_add PySem.F.slot_tuple_add PySem.F.entry_tuple_add (PySem.F.args_tuple_add_2 _ _)
   (tuple_addW1 t b vs.toArray ws.toArray n n2 dd dd2 sl sl2 (by simpa using hv) (by simp [hw])) ⟨ho,ho2,h1 hw⟩
 ·refine concat_meets ⟨_,ho,rfl⟩ ⟨_,ho2,rfl⟩ noFill_tuple_add seq_tuple_add PySem.F.slot_tuple_add PySem.F.entry_tuple_add (PySem.F.args_tuple_add_2 _ _)
   (tuple_addW2 t b vs.toArray ws.toArray n n2 dd dd2 sl sl2 (by simpa using hv) (by simpa using hw) (by rw [List.size_toArray,List.size_toArray]; exact hsz)) ⟨ho,ho2,?_⟩
  rw [e]
  exact h2 hw
def sIx (n d:Nat):Option Int -> Nat
 | none=>d
 | some v=>if v < 0 then (v + (n:Int)).toNat else min v.toNat n
theorem sIx_none (n d:Nat):sIx n d none = d:=rfl
theorem sIx_nat (n d k:Nat):sIx n d (some (k:Int)) = min k n:=by
 show (if (k:Int) < 0 then ((k:Int) + (n:Int)).toNat else min (k:Int).toNat n) = min k n
 rw [if_neg (by omega),Int.toNat_natCast]
theorem sIx_le (n d:Nat) (hd:d <= n) (o:Option Int):sIx n d o <= n:=by
 cases o with
 | none=>exact hd
 | some v =>
  show (if v < 0 then (v + (n:Int)).toNat else min v.toNat n) <= n
  by_cases hv:v < 0
  ·rw [if_pos hv]; omega
  ·rw [if_neg hv]; exact Nat.min_le_right _ _
theorem clip_eq (v:Int) (n d:Nat):(if v < 0 then max (v + (n:Int)) 0 else min v (n:Int)) = ((sIx n d (some v):Nat):Int):=by
 show (if v < 0 then max (v + (n:Int)) 0 else min v (n:Int)) = (((if v < 0 then (v + (n:Int)).toNat else min v.toNat n):Nat):Int)
 by_cases hv:v < 0
 ·simp only [if_pos hv]; omega
 ·simp only [if_neg hv]; omega
theorem adjust_gen (lo hi:Option Int) (n:Nat):Builtin.Slice.sliceAdjust lo hi 1 (n:Int) = (((sIx n 0 lo:Nat):Int),((sIx n n hi:Nat):Int)):=by
 have h1:¬ ((1:Int) < 0):=by omega
 unfold Builtin.Slice.sliceAdjust
 simp only [h1,if_false]
 refine Prod.ext ?_ ?_
 ·cases lo with
  | none=>rfl
  | some v=>exact clip_eq v n 0
 ·cases hi with
  | none=>rfl
  | some v=>exact clip_eq v n n
theorem places_gen (i j:Nat):Builtin.Slice.slicePlaces (i:Int) (j:Int) 1 = j - i:=by
 unfold Builtin.Slice.slicePlaces
 have h1:(1:Int) > 0:=by omega
 simp only [h1,if_true,Int.ediv_one]
 split <;> omega
theorem slicePart_ {v:Value} {o:Option Int} {Q:Option Int -> Shared -> Prop} (p:IsPart v o) (h:Q o s):wpAny (model prog w) A (Builtin.Slice.slicePartIndex v) Q E s:=by
 cases p with
 | none=>exact slicePart_none h
 | int i t=>exact slicePart_int h
theorem xP {sl:Addr} {vl vu:Value} {lo hi:Option Int} {n:Nat} {Q:Int × Int × Nat -> Shared -> Prop} (hs:s.heap.IsSliceOf sl vl vu .none) (pl:IsPart vl lo) (pu:IsPart vu hi)
  (h:Q (((sIx n 0 lo:Nat):Int),1,sIx n n hi - sIx n 0 lo) s):wpAny (model prog w) A (Builtin.Slice.sliceApplied (.ref sl) (pure (n:Int))) Q E s:=by
 obtain ⟨os,hos,hcs,hds⟩:=id hs
 unfold Builtin.Slice.sliceApplied Builtin.Slice.sliceFields
 refine wpAny_bind (wpAny_bind (wpAny_field hos hds (x:=vl) rfl (wpAny_bind (wpAny_field hos hds (x:=vu) rfl (wpAny_bind (wpAny_field hos hds (x:=.none) rfl (wpAny_pure ?_)))))))
 refine wpAny_bind (slicePart_none ?_)
 show wpAny _ _ (if ((1:Int) == 0) = true then _ else _) _ _ s
 rw [if_neg (by decide)]
 refine wpAny_bind (slicePart_ pl (wpAny_bind (slicePart_ pu (wpAny_bind (wpAny_pure ?_)))))
 show wpAny _ _ (match Builtin.Slice.sliceAdjust lo hi 1 (n:Int) with | (lo,hi)=>pure (lo,(1:Int),Builtin.Slice.slicePlaces lo hi 1)) _ _ s
 rw [adjust_gen lo hi n]
 show wpAny _ _ (pure (((sIx n 0 lo:Nat):Int),(1:Int),Builtin.Slice.slicePlaces ((sIx n 0 lo:Nat):Int) ((sIx n n hi:Nat):Int) 1)) _ _ s
 rw [places_gen]
 exact wpAny_pure h
theorem pick_gen (xs:Array Value) (i k:Nat):((List.range k).filterMap fun (m:Nat)=>xs[((i:Int) + (m:Int) * 1).toNat]?).toArray = ((xs.toList.drop i).take k).toArray:=by
 have e:(fun (m:Nat)=>xs[((i:Int) + (m:Int) * 1).toNat]?) = fun m=>xs[i + m]?:=by
  funext m
  have:((i:Int) + (m:Int) * 1).toNat = i + m:=by omega
  rw [this]
 rw [e]
 have:=pick_run xs i k
 rw [List.filterMap_map] at this
 have e2:((fun x=>xs[x]?) ∘ fun x=>i + x) = fun m=>xs[i + m]?:=rfl
 rw [e2] at this
 rw [this]
theorem getItem_tuple_cut {t sl:Addr} {items:Array Value} {vl vu:Value} {lo hi:Option Int} {Q:Value -> Shared -> Prop} (ht:IsTup s.heap t items) (hs:s.heap.IsSliceOf sl vl vu .none) (pl:IsPart vl lo) (pu:IsPart vu hi)
  (hw:¬ (sIx items.size 0 lo = 0 /\ sIx items.size items.size hi = items.size))
  (h:Q (.ref s.heap.objs.size) { s with heap:=s.heap.push { cls:=.type "tuple",data:=.seq ((items.toList.drop (sIx items.size 0 lo)).take (sIx items.size items.size hi - sIx items.size 0 lo)).toArray } })
  (hsz:items.size <= sizeLine):wpAny (model prog w) A (getItem (.ref t) (.ref sl)) Q E s:=by
 have htake:sizeOk (.seq ((items.toList.drop (sIx items.size 0 lo)).take (sIx items.size items.size hi - sIx items.size 0 lo)).toArray):=by
  show ((items.toList.drop (sIx items.size 0 lo)).take (sIx items.size items.size hi - sIx items.size 0 lo)).toArray.size <= sizeLine
  rw [List.size_toArray,List.length_take,List.length_drop,Array.length_toList]
  omega
 have hj:sIx items.size items.size hi <= items.size:=sIx_le _ _ (Nat.le_refl _) hi
 obtain ⟨os,hos,hcs,hds⟩:=id hs
 have hTs:s.TypeIs (.ref sl) "slice":=⟨os,hos,hcs⟩
 unfold getItem
 try with_reducible refine wpAny_holding ?_
 first | refine wpAny_bind (wpAny_pure ?_) | skip
 refine wpAny_bind (wpAny_sequenceKey ht.typeIs (by decide) ?_)
 refine wpAny_bind (wpAny_callSpecial?_slot (name:=Str.ofString "__getitem__") ht.typeIs PyProof.Rows.slot_tuple_getitem
  (wpAny_call_entry PyProof.Rows.slot_tuple_getitem ht.typeIs entry_tuple_getitem ?_ (args_tuple_getitem _ _)))
 show wpAny _ _ (Builtin.Tuple.tupleItemsOf (.ref t) >>= _) _ _ s
 refine wpAny_bind (tupleItemsOf_ ht ?_)
 refine wpAny_bind (wpAny_typeOf hTs ?_)
 rw [if_pos (by decide)]
 refine wpAny_bind (xP hs pl pu ?_)
 have hno:¬ ((((sIx items.size 0 lo:Nat):Int) == 0 && (1:Int) == 1 && (sIx items.size items.size hi - sIx items.size 0 lo) == items.size) = true):=by
  intro q
  rw [Bool.and_eq_true,Bool.and_eq_true] at q
  have q1:((sIx items.size 0 lo:Nat):Int) = 0:=eq_of_beq q.1.1
  have q2:sIx items.size items.size hi - sIx items.size 0 lo = items.size:=eq_of_beq q.2
  exact hw ⟨by omega,by omega⟩
 show wpAny _ _ (if (((sIx items.size 0 lo:Nat):Int) == 0 && (1:Int) == 1 && (sIx items.size items.size hi - sIx items.size 0 lo) == items.size) = true then _ else _) _ _ s
 rw [if_neg hno,pick_gen]
 first
  | exact wpAny_bind (m:=Builtin.Tuple.tupleExact _) (wpAny_newObj_type (wpAny_pure ⟨_,rfl,wpAny_pure h⟩) htake)
  | exact wpAny_bind (m:=Builtin.Tuple.tupleExact _) (wpAny_newObj_type (wpAny_bind (wpAny_pure (wpAny_pure ⟨_,rfl,wpAny_pure h⟩))) htake)
  | exact wpAny_bind (wpAny_bind (m:=Builtin.Tuple.tupleExact _) (wpAny_newObj_type (wpAny_pure (wpAny_pure ⟨_,rfl,wpAny_pure h⟩)) htake))
  | exact wpAny_bind (wpAny_bind (m:=Builtin.Tuple.tupleExact _) (wpAny_newObj_type (wpAny_pure ⟨_,rfl,wpAny_pure h⟩) htake))
end
end HT
namespace L2
open PySem PySem.Spec PyProof.Rows
abbrev TO:=St -> Hp -> (Option Int -> Hp -> Prop) -> Prop
def PO (X:Cx) (e:Option Expr) (t:TO):Prop :=
 ∀ (pins:List (Addr × Obj)) (s:Shared) (σ:St) (H:Hp) (Q:Option Int -> Hp -> Prop),Inv X pins σ H s -> t σ H Q ->
  wpAny (model X.prog X.w) X.A (evalPart e X.env) (fun u s'=>∃ o H',Inv X pins σ H' s' /\ IsPart u o /\ Q o H') X.xe s
def tNoPart:TO:=fun _ H Q=>Q none H
def tPart (t:TE):TO:=fun σ H Q=>t σ H fun x H1=>∃ i,x = .int i /\ Q (some i) H1
section
variable {X:Cx} {e:Expr} {te:TE} {lo hi:Option Expr} {tl th:TO} {pos p2:Pos}
theorem qR:PO X none tNoPart:=by
 intro pins s σ H Q I h
 rw [evalPart_none]
 exact wpAny_pure ⟨none,H,I,.none,h⟩
theorem yB (h:PE X e te):PO X (some e) (tPart te):=by
 intro pins s σ H Q I hw
 rw [evalPart_some]
 refine thn (h pins s σ H _ I hw) fun u s1 ⟨x,H1,I1,r1,q1⟩=>?_
 obtain ⟨i,rfl,q⟩:=q1
 obtain ⟨t,rfl⟩:=r1
 exact ⟨some i,H1,I1,.int i t,q⟩
def SlR (X:Cx) (r:V -> Option Int -> Option Int -> Hp -> VK -> Prop):Prop :=
 ∀ (pins:List (Addr × Obj)) (s:Shared) (σ:St) (H:Hp) (x:V) (v vl vu:Value) (lo hi:Option Int) (sl:Addr) (Q:VK),Inv X pins σ H s -> RelV x v -> s.heap.IsSliceOf sl vl vu .none -> IsPart vl lo -> IsPart vu hi -> r x lo hi H Q ->
  ∃ T id,typeLookup (.type T) "__getitem__" = pure (some (.builtin id)) /\ s.TypeIs v T /\ wpAny (model X.prog X.w) X.A (getItem v (.ref sl)) (EP X pins σ Q) X.xe s
def tSl (r:V -> Option Int -> Option Int -> Hp -> VK -> Prop) (te:TE) (tl th:TO):TE:=fun σ H Q=>te σ H fun x H1=>tl σ H1 fun l H2=>th σ H2 fun u H3=>r x l u H3 Q
theorem yL {r:V -> Option Int -> Option Int -> Hp -> VK -> Prop} (hr:SlR X r) (he:PE X e te) (hl:PO X lo tl) (hu:PO X hi th):PE X (.Subscript e (.Slice lo hi none p2) pos) (tSl r te tl th):=by
 intro pins s σ H Q I h
 refine Subscript_ (thn (he pins s σ H _ I h) fun v s1 ⟨x,H1,I1,r1,q1⟩=>?_)
 refine wpAny_Slice (thn (hl pins s1 σ H1 _ I1 q1) fun vl s2 ⟨l,H2,I2,pl,q2⟩=>thn (hu pins s2 σ H2 _ I2 q2) fun vu s3 ⟨u,H3,I3,pu,q3⟩=>?_)
 rw [evalPart_none]
 refine wpAny_pure ?_
 have I4:Inv X pins σ H3 { s3 with heap:=s3.heap.push { cls:=.type "slice",data:=.fields #[vl,vu,.none] } }:=I3.kept (t':=s3.toks) fun b ob q=>Heap.get?_push_of_some _ q
 obtain ⟨T,id,hT,ht,hg⟩:=hr pins { s3 with heap:=s3.heap.push { cls:=.type "slice",data:=.fields #[vl,vu,.none] } } σ H3 x v vl vu l u s3.heap.objs.size Q I4 r1 (Heap.IsSliceOf.new ..) pl pu q3
 show wpAny (model X.prog X.w) X.A (subscriptTail e (.Slice lo hi none p2) v (.ref s3.heap.objs.size)) (EP X pins σ Q) X.xe { s3 with heap:=s3.heap.push { cls:=.type "slice",data:=.fields #[vl,vu,.none] } }
 exact tail_any (ops:=[.ref s3.heap.objs.size,v]) ht hT hg (by with_unfolding_all rfl)
def cutV (xs:List V) (lo hi:Option Int):List V:=(xs.drop (HT.sIx xs.length 0 lo)).take (HT.sIx xs.length xs.length hi - HT.sIx xs.length 0 lo)
theorem cutV_length (xs:List V) (lo hi:Option Int):(cutV xs lo hi).length <= xs.length:=by
 unfold cutV
 rw [List.length_take,List.length_drop]
 omega
def rCatT (K:PySem.W.Frag):R2:=fun x y H Q=>∃ a b xs ys,x = .ref a /\ y = .ref b /\ SqT K H a xs /\ SqT K H b ys /\ xs ≠ [] /\ xs.length + ys.length <= sizeLine /\
 (ys = [] -> Q (.ref a) H) /\ (ys ≠ [] -> ∀ p,H p = none -> Q (.ref p) (upd H p (.tup (xs ++ ys))))
theorem Vals.nil_iff {xs:List V} {us:List Value} (r:Vals xs us):us = [] ↔ xs = []:=by
 cases r with
 | nil=>simp
 | cons _ _=>simp
theorem op_catT:OpR X (binaryOp .Add) (rCatT X.K):=by
 intro pins s σ H x y v u Q I rx ry h
 obtain ⟨a,b,xs,ys,rfl,rfl,ha,hb,hx,hz,q1,q2⟩:=h
 cases rx
 cases ry
 obtain ⟨its,r1,p1,_⟩:=I.tuple ha
 obtain ⟨its2,r2,p2,_⟩:=I.tuple hb
 refine HT.cat_tup p1 p2 (fun z=>hx (r1.nil_iff.mp z)) (fun z=>⟨.ref a,H,I,rfl,q1 (r2.nil_iff.mp z)⟩) (fun z=>?_) (by rw [← r1.length,← r2.length]; exact hz)
 refine ⟨.ref s.heap.objs.size,_,I.laid (t':=s.toks) (o:=.tup (xs ++ ys)) (fun b ob q=>Heap.get?_push_of_some _ q) (Nat.le_refl _) ?_,rfl,q2 (fun w=>z (r2.nil_iff.mpr w)) _ (I.hok.fresh (Nat.le_refl _))⟩
 exact ⟨by rw [List.length_append]; exact hz,_,r1.append r2,IsTup.new _ _⟩
end
end L2
namespace L2
open PySem PySem.Spec PyProof.Rows
def ixN (n:Nat) (i:Int):Option Nat:=if 0 <= i then (if i < n then some i.toNat else none) else if -(n:Int) <= i then some (i + n).toNat else none
def atI {α:Type} (xs:List α) (i:Int):Option α:=(ixN xs.length i).bind fun j=>xs[j]?
theorem ixN_seq {n:Nat} {i:Int} {j:Nat} (h:ixN n i = some j):seqIndex? i n = some j /\ j < n /\ -(n:Int) <= i /\ i < n:=by
 unfold ixN at h
 by_cases h0:0 <= i
 ·rw [if_pos h0] at h
  by_cases h1:i < n
  ·rw [if_pos h1] at h
   have e:i.toNat = j:=Option.some.inj h
   exact ⟨by rw [seqIndex_of h0 h1,e],by omega,by omega,h1⟩
  ·rw [if_neg h1] at h; cases h
 ·rw [if_neg h0] at h
  by_cases h1:-(n:Int) <= i
  ·rw [if_pos h1] at h
   have e:(i + n).toNat = j:=Option.some.inj h
   exact ⟨by rw [seqIndex_neg (by omega) h1,e],by omega,h1,by omega⟩
  ·rw [if_neg h1] at h; cases h
theorem atI_get {α:Type} {xs:List α} {i:Int} {v:α} (h:atI xs i = some v):∃ j,seqIndex? i xs.length = some j /\ xs[j]? = some v /\ j < xs.length /\ -(xs.length:Int) <= i /\ i < xs.length:=by
 unfold atI at h
 cases e:ixN xs.length i with
 | none=>rw [e] at h; cases h
 | some j =>
  rw [e] at h
  obtain ⟨h1,h2,h3,h4⟩:=ixN_seq e
  exact ⟨j,h1,h,h2,h3,h4⟩
theorem yP {α:Type} {xs:List α} {j:Nat} {v:α} (h:xs[j]? = some v):atI xs (j:Int) = some v:=by
 have hj:j < xs.length:=(List.getElem?_eq_some_iff.mp h).1
 have e:ixN xs.length (j:Int) = some j:=by
  unfold ixN
  rw [if_pos (by omega),if_pos (by omega)]; simp
 unfold atI; rw [e]; exact h
def PlainIx (b:Expr):Prop:=∀ o i,subscripted b false o i = operate [o,i] (getItem o i)
def IxR (X:Cx) (r:R2):Prop :=
 ∀ (value slice:Expr) (pins:List (Addr × Obj)) (s:Shared) (σ:St) (H:Hp) (x y:V) (v u:Value) (Q:VK),Inv X pins σ H s -> RelV x v -> RelV y u -> r x y H Q ->
  subscripted slice false v u = operate [v,u] (getItem v u) -> wpAny (model X.prog X.w) X.A (subscriptTail value slice v u) (EP X pins σ Q) X.xe s
def MtR (X:Cx) (id:String) (r:V -> List V -> Hp -> VK -> Prop):Prop :=
 ∀ (pins:List (Addr × Obj)) (s:Shared) (σ:St) (H:Hp) (x:V) (xs:List V) (v:Value) (us:List Value) (Q:VK),Inv X pins σ H s -> RelV x v -> Vals xs us -> r x xs H Q ->
  wpAny (model X.prog X.w) X.A (call (.builtin id) (v :: us)) (EP X pins σ Q) X.xe s
section
variable {X:Cx} {a b:Expr} {ta tb:TE} {pos:Pos}
theorem zM {r:R2} (hr:IxR X r) (ha:PE X a ta) (hb:PE X b tb) (hs:PlainIx b):PE X (.Subscript a b pos) (tOp r ta tb):=by
 intro pins s σ H Q I h
 exact Subscript_ (binT ha hb I h fun v u s2 x y H2 I2 rx ry q=>hr a b pins s2 σ H2 x y v u Q I2 rx ry q (hs _ _))
def rIxL (K:PySem.W.Frag):R2:=fun x y H Q=>∃ p xs i v,x = .ref p /\ y = .int i /\ SqL K H p xs /\ atI xs i = some v /\ Q v H
def rIxT (K:PySem.W.Frag):R2:=fun x y H Q=>∃ p xs i v,x = .ref p /\ y = .int i /\ SqT K H p xs /\ atI xs i = some v /\ Q v H
def rIxS:R2:=fun x y H Q=>∃ z i c,x = .str z /\ y = .int i /\ z.length <= sizeLine /\ atI z.cps.toList i = some c /\ Q (.str ⟨#[c]⟩) H
theorem ix_list:IxR X (rIxL X.K):=by
 intro value slice pins s σ H x y v u Q I rx ry h hs
 obtain ⟨p,xs,i,z,rfl,rfl,hq,he,q⟩:=h
 cases rx
 obtain ⟨t,rfl⟩:=ry
 obtain ⟨its,r,pl,hz⟩:=I.list hq
 obtain ⟨j,h1,h2,h3,h4,h5⟩:=atI_get he
 obtain ⟨w,ew,rw'⟩:=r.get h2
 have hl:=r.length
 have hn:=line63
 have fin:EP X pins σ Q w s:=⟨z,H,I,rw',q⟩
 by_cases h0:0 <= i
 ·have hj:i.toNat = j:=by
   rw [seqIndex_of h0 h5] at h1
   exact Option.some.inj h1
  exact item_listR pl.isList h0 (by omega) (by rw [hj]; simpa using ew) fin hs
 ·have hj:(i + (its.toArray.size:Int)).toNat = j:=by
   rw [seqIndex_neg (by omega) h4] at h1
   rw [List.size_toArray,← hl]
   exact Option.some.inj h1
  exact subscriptTail_builtinR (x:=w) pl.isList.typeIs slot_list_getitem.lookup
   (wpAny_getItem_list_neg (Q:=fun r s'=>r = w /\ EP X pins σ Q r s') pl.isList (by omega) (by rw [List.size_toArray] <;> omega) (by omega) (by rw [hj]; simpa using ew) ⟨rfl,fin⟩) hs
theorem ix_tup:IxR X (rIxT X.K):=by
 intro value slice pins s σ H x y v u Q I rx ry h hs
 obtain ⟨p,xs,i,z,rfl,rfl,hq,he,q⟩:=h
 cases rx
 obtain ⟨t,rfl⟩:=ry
 obtain ⟨its,r,pl,hz⟩:=I.tuple hq
 obtain ⟨j,h1,h2,h3,h4,h5⟩:=atI_get he
 obtain ⟨w,ew,rw'⟩:=r.get h2
 have hl:=r.length
 have hn:=line63
 have fin:EP X pins σ Q w s:=⟨z,H,I,rw',q⟩
 exact subscriptTail_builtinR (x:=w) pl.typeIs slot_tuple_getitem.lookup
  (getItem_tuple (j:=j) (Q:=fun r s'=>r = w /\ EP X pins σ Q r s') pl (by omega) (by omega) (by rw [List.size_toArray,← hl]; exact h1) (by simpa using ew) ⟨rfl,fin⟩) hs
theorem ix_str:IxR X rIxS:=by
 intro value slice pins s σ H x y v u Q I rx ry h hs
 obtain ⟨z,i,c,rfl,rfl,hz,he,q⟩:=h
 obtain ⟨t,rfl⟩:=rx
 obtain ⟨t',rfl⟩:=ry
 obtain ⟨j,h1,h2,h3,h4,h5⟩:=atI_get he
 have hl:z.cps.toList.length = z.length:=by simp [Str.length]
 rw [hl] at h1 h4 h5
 have hn:=line63
 exact tail_any (typeIs_str s z t) slot_str_getitem.lookup (getItem_str (c:=c) (by
  have e1:decide (i < -(2 ^ 63:Int)) = false:=decide_eq_false (by omega)
  have e2:decide (i ≥ 2 ^ 63) = false:=decide_eq_false (by omega)
  rw [e1,e2,Bool.or_false]) (by rw [h1]; simpa using h2) ⟨.str ⟨#[c]⟩,H,I.tok _,⟨_,rfl⟩,q⟩) hs
theorem mapSeq_set (its:List Value) (n j:Nat) (u:Value):Obj.mapSeq (·.setIfInBounds j u) { cls:=.type "list",data:=.seq its.toArray n } = { cls:=.type "list",data:=.seq (its.set j u).toArray n }:=by
 simp [Obj.mapSeq]
theorem Inv.lst {pins:List (Addr × Obj)} {σ:St} {H:Hp} {s:Shared} {p:Addr} {xs:List V} (I:Inv X pins σ H s) (h:H p = some (.lst xs)) :
  ∃ (its:List Value) (n:Nat),Vals xs its /\ s.heap.get? p = some { cls:=.type "list",data:=.seq its.toArray n } /\ xs.length <= sizeLine:=by
 obtain ⟨z,its,n,r,e⟩:=I.hok p _ h
 exact ⟨its,n,r,e,z⟩
theorem Inv.lstUpd {pins:List (Addr × Obj)} {σ:St} {H:Hp} {s:Shared} {p:Addr} {xs ys:List V} {its its':List Value} {n n':Nat} {f:Obj -> Obj} (I:Inv X pins σ H s) (h:H p = some (.lst xs))
  (ho:s.heap.get? p = some { cls:=.type "list",data:=.seq its.toArray n }) (hf:f { cls:=.type "list",data:=.seq its.toArray n } = { cls:=.type "list",data:=.seq its'.toArray n' }) (r:Vals ys its') (hz:ys.length <= sizeLine) (t:Nat) :
  Inv X pins σ (upd H p (.lst ys)) { s with heap:=s.heap.update p f,toks:=t }:=by
 have e:(s.heap.update p f).get? p = some { cls:=.type "list",data:=.seq its'.toArray n' }:=by
  rw [Heap.get?_update_self f ho (by rw [hf] <;> rfl),hf]
 refine I.write (x:=p) (e:=p) (by rw [h]; trivial) (.inl rfl) (fun b u hb q=>(Heap.get?_update_other _ _ (Ne.symm hb)).trans q) ⟨_,e⟩ ?_
 exact ⟨hz,its',n',r,e⟩
def rSetL:V -> V -> V -> Hp -> (Hp -> Prop) -> Prop:=fun o i v H Q=>∃ p xs k j,o = .ref p /\ i = .int k /\ H p = some (.lst xs) /\ ixN xs.length k = some j /\ Q (upd H p (.lst (xs.set j v)))
theorem set_list:PSet X rSetL:=by
 intro pins s σ H o i v ov iv u Q I ro ri rv h
 obtain ⟨p,xs,k,j,rfl,rfl,hp,hj,q⟩:=h
 cases ro
 obtain ⟨t,rfl⟩:=ri
 obtain ⟨its,n,r,ho,hz⟩:=I.lst hp
 obtain ⟨h1,h2,h3,h4⟩:=ixN_seq hj
 have hl:=r.length
 have hn:=line63
 have I':Inv X pins σ (upd H p (.lst (xs.set j v))) { s with heap:=s.heap.update p (Obj.mapSeq (·.setIfInBounds j u)) } :=
  I.lstUpd hp ho (mapSeq_set its n j u) (r.set rv j) (by rw [List.length_set]; exact hz) s.toks
 by_cases h0:0 <= k
 ·have hk:k.toNat = j:=by
   rw [seqIndex_of h0 h4] at h1
   exact Option.some.inj h1
  exact PySem.W.ki_setAt ho h0 (by omega) (by rw [List.size_toArray,← hl]; exact h4) (by rw [hk]; exact ⟨_,I',q⟩)
 ·have hk:(k + (its.toArray.size:Int)).toNat = j:=by
   rw [seqIndex_neg (by omega) h3] at h1
   rw [List.size_toArray,← hl]
   exact Option.some.inj h1
  exact PySem.W.ki_setBack ho (by omega) (by rw [List.size_toArray,← hl]; exact h3) (by omega) (by rw [hk]; exact ⟨_,I',q⟩)
theorem slice_bounds (lo hi:Option Int) (n:Nat):(sliceBounds lo hi none n).1 = ((HT.sIx n 0 lo:Nat):Int) /\ (sliceBounds lo hi none n).2.1 = ((HT.sIx n n hi:Nat):Int) /\ (sliceBounds lo hi none n).2.2 = 1:=by
 refine ⟨?_,?_,rfl⟩
 ·cases lo with
  | none=>simp [sliceBounds,HT.sIx]
  | some i =>
   simp only [sliceBounds,HT.sIx,Option.getD_none,show (1:Int) > 0 by decide,if_true]
   by_cases h:i < 0
   ·simp only [h,if_true] <;> omega
   ·simp only [h,if_false] <;> omega
 ·cases hi with
  | none=>simp [sliceBounds,HT.sIx]
  | some i =>
   simp only [sliceBounds,HT.sIx,Option.getD_none,show (1:Int) > 0 by decide,if_true]
   by_cases h:i < 0
   ·simp only [h,if_true] <;> omega
   ·simp only [h,if_false] <;> omega
theorem slicePick_cut (its:List Value) (lo hi:Option Int):slicePick its.toArray lo hi none = ((its.drop (HT.sIx its.length 0 lo)).take (HT.sIx its.length its.length hi - HT.sIx its.length 0 lo)).toArray:=by
 obtain ⟨h1,h2,h3⟩:=slice_bounds lo hi its.toArray.size
 unfold slicePick
 rw [h1,h2,h3]
 simp only [sliceRange_one,pick_run,List.size_toArray] <;> rfl
def rSlL (K:PySem.W.Frag):V -> Option Int -> Option Int -> Hp -> VK -> Prop:=fun x lo hi H Q=>∃ a xs,x = .ref a /\ SqL K H a xs /\ ∀ p,H p = none -> Q (.ref p) (upd H p (.lst (cutV xs lo hi)))
theorem sl_list:SlR X (rSlL X.K):=by
 intro pins s σ H x v vl vu lo hi sl Q I rx hs pl pu h
 obtain ⟨a,xs,rfl,hx,q⟩:=h
 cases rx
 obtain ⟨its,r,ht,hz⟩:=I.list hx
 have hlen:=r.length
 refine ⟨"list",_,slot_list_getitem.lookup,ht.isList.typeIs,?_⟩
 refine wpAny_getItem_list_slice ht.isList hs pl pu .none (by simp) ?_ (by rw [List.size_toArray] <;> omega)
 rw [slicePick_cut,← hlen]
 refine ⟨.ref s.heap.objs.size,_,I.laid (t':=s.toks) (o:=.lst (cutV xs lo hi)) (fun b ob q=>Heap.get?_push_of_some _ q) (Nat.le_refl _) ?_,rfl,q _ (I.hok.fresh (Nat.le_refl _))⟩
 exact ⟨Nat.le_trans (cutV_length xs lo hi) hz,_,0,(r.drop (HT.sIx xs.length 0 lo)).take (HT.sIx xs.length xs.length hi - HT.sIx xs.length 0 lo),Heap.get?_push_size _ rfl⟩
theorem zL:CallR X (.builtin "len") (fun xs H Q=>∃ p ys,xs = [.ref p] /\ (SqL X.K H p ys \/ SqT X.K H p ys) /\ Q (.int ys.length) H):=by
 intro pins s σ H xs us Q I r h
 obtain ⟨p,ys,rfl,hq,q⟩:=h
 obtain ⟨u,rfl,rx⟩:=vals1 r
 cases rx
 have hn:=line63
 rcases hq with hq | hq
 ·obtain ⟨its,r',pl,hz⟩:=I.list hq
  have hlen:=r'.length
  exact Calls.call_len_list pl.isList (by simp only [List.size_toArray] <;> omega) ⟨.int ys.length,H,I.tok _,⟨s.toks + 1,by rw [List.size_toArray,hlen]⟩,q⟩
 ·obtain ⟨its,r',pl,hz⟩:=I.tuple hq
  have hlen:=r'.length
  exact len_tuple pl (by simp only [List.size_toArray] <;> omega) ⟨.int ys.length,H,I.tok _,⟨s.toks + 1,by rw [List.size_toArray,hlen]⟩,q⟩
theorem z9:CallR X (.type "tuple") (fun xs H Q=>∃ p ys,xs = [.ref p] /\ ((SqL X.K H p ys /\ ∀ l,H l = none -> Q (.ref l) (upd H l (.tup ys))) \/ (SqT X.K H p ys /\ Q (.ref p) H))):=by
 intro pins s σ H xs us Q I r h
 obtain ⟨p,ys,rfl,h⟩:=h
 obtain ⟨u,rfl,rx⟩:=vals1 r
 cases rx
 rcases h with ⟨hq,q⟩ | ⟨hq,q⟩
 ·obtain ⟨its,r',pl,hz⟩:=I.list hq
  have hlen:=r'.length
  refine call_tuple_list pl.isList (fun h' kp=>?_) (by simp only [List.size_toArray] <;> omega)
  have I1:Inv X pins σ H { s with heap:=h' }:=I.kept (t':=s.toks) kp
  have I2:Inv X pins σ (upd H h'.objs.size (.tup ys)) { s with heap:=h'.push { cls:=.type "tuple",data:=.seq its.toArray } } :=
   I1.laid (t':=s.toks) (fun b o e=>Heap.get?_push_of_some _ e) (Nat.le_refl _) (show ObjOk X.prog X.w _ _ _ (.tup ys) from ⟨hz,its,r',IsTup.new _ _⟩)
  exact ⟨.ref h'.objs.size,_,I2,rfl,q _ (I1.hok.fresh (Nat.le_refl _))⟩
 ·obtain ⟨its,r',pl,hz⟩:=I.tuple hq
  exact call_tuple_same pl ⟨.ref p,H,I,rfl,q⟩
def tyV (K:PySem.W.Frag) (T:String) (x:V) (H:Hp):Prop:=match x with
 | .str _=>T = "str"
 | .int _=>T = "int"
 | .ref p=>(T = "list" /\ ∃ xs,SqL K H p xs) \/ (T = "tuple" /\ ∃ o,K.lookup p = some o /\ o.cls = .type "tuple" /\ o.dict = none) \/
   (T = "dict" /\ ((∃ kvs,H p = some (.dK kvs)) \/ ∃ kvs,H p = some (.dT kvs))) \/ (T = "set" /\ ∃ S n,H p = some (.set S n))
 | _=>False
theorem tyV_is {pins:List (Addr × Obj)} {σ:St} {H:Hp} {s:Shared} {T:String} {x:V} {v:Value} (I:Inv X pins σ H s) (r:RelV x v) (ty:tyV X.K T x H) :
  s.TypeIs v T /\ ∀ a,v = .ref a -> ∃ ob,s.heap.get? a = some ob /\ ob.dict = none:=by
 cases x with
 | str z =>
  obtain ⟨t,rfl⟩:=r
  cases (show T = "str" from ty)
  exact ⟨typeIs_str s z t,fun _ e=>nomatch e⟩
 | int i =>
  obtain ⟨t,rfl⟩:=r
  cases (show T = "int" from ty)
  exact ⟨typeIs_int s i t,fun _ e=>nomatch e⟩
 | ref p =>
  cases r
  rcases ty with ⟨rfl,xs,hq⟩ | ⟨rfl,o,hk,hc,hd⟩ | ⟨rfl,hk⟩ | ⟨rfl,S,n,hk⟩
  ·obtain ⟨its,_,pl,_⟩:=I.list hq
   refine ⟨pl.isList.typeIs,fun a e=>?_⟩
   cases e
   obtain ⟨o,n,e,c,hd,_⟩:=pl
   exact ⟨o,e,hd⟩
  ·refine ⟨⟨o,I.kIn p o hk,hc⟩,fun a e=>?_⟩
   cases e
   exact ⟨o,I.kIn _ o hk,hd⟩
  ·have z:∃ o,s.heap.get? p = some o /\ o.ExactDict:=by
    rcases hk with ⟨kvs,hk⟩ | ⟨kvs,hk⟩
    ·obtain ⟨_,_,_,_,o,_,_,e,ex,_⟩:=I.hok p _ hk
     exact ⟨o,e,ex⟩
    ·obtain ⟨_,_,_,_,o,_,_,e,ex,_⟩:=I.hok p _ hk
     exact ⟨o,e,ex⟩
   obtain ⟨o,e,ex⟩:=z
   refine ⟨⟨o,e,ex.1⟩,fun a e2=>?_⟩
   cases e2
   exact ⟨o,e,ex.2.1⟩
  ·obtain ⟨o,_,_,_,e,ex,_⟩:=I.hok p _ hk
   refine ⟨⟨o,e,ex.1⟩,fun a e2=>?_⟩
   cases e2
   exact ⟨o,e,ex.2.1⟩
 | _=>exact False.elim ty
def tBM0 (K:PySem.W.Frag) (T:String) (r:V -> List V -> Hp -> VK -> Prop) (to:TE):TE:=fun σ H Q=>to σ H fun x H1=>tyV K T x H1 /\ r x [] H1 Q
def tBM (K:PySem.W.Frag) (T:String) (r:V -> List V -> Hp -> VK -> Prop) (to:TE) (t:TA):TE:=fun σ H Q=>to σ H fun x H1=>tyV K T x H1 /\ t σ H1 fun xs H2=>r x xs H2 Q
variable {o e:Expr} {es:List Expr} {to:TE} {t:TA} {name:Str} {apos cpos:Pos} {T id:String} {r:V -> List V -> Hp -> VK -> Prop}
theorem pe_bm0 (pa:PlainAttrs T) (slot:Slot T name id) (hty:typeOf (.builtin id) = pure (.type "method_descriptor")) (hm:MtR X id r) (ho:PE X o to)
  (hbase:attributeBase o name X.env (eval o X.env) = eval o X.env:=by rfl) (hline:(apos.endLine == cpos.line) = true:=by rfl):PE X (.Call (.Attribute o name apos) [] [] cpos) (tBM0 X.K T r to):=by
 intro pins s σ H Q I h
 refine wpAny_Call_method0_late hbase hline (thn (ho pins s σ H _ I h) fun v s1 ⟨x,H1,I1,r1,ty,q1⟩=>?_)
 obtain ⟨h1,h2⟩:=tyV_is I1 r1 ty
 exact ⟨T,id,pa,slot,hty,h1,h2,Calls.callWith_builtin rfl (PySem.evalArgs_none (hm pins s1 σ H1 x [] v [] Q I1 r1 .nil q1))⟩
theorem xL (pa:PlainAttrs T) (slot:Slot T name id) (hty:typeOf (.builtin id) = pure (.type "method_descriptor")) (hm:MtR X id r) (ho:PE X o to) (ha:PA X (e :: es) t)
  (hbase:attributeBase o name X.env (eval o X.env) = eval o X.env:=by rfl)
  (hfew:((backTo cpos (starEach (e :: es) X.env)).all (fun x=>!x.1) && (backToKw cpos (keywordEach [] X.env)).all (fun x=>x.1.isSome)
   && decide ((e :: es).length + ([]:List Keyword).length + (if ([]:List Keyword).isEmpty then 0 else 1) < 30)) = true:=by rfl)
  (hline:(apos.endLine == cpos.line) = true:=by rfl) (hs:starEach (e :: es) X.env = (false,eval e X.env) :: starEach es X.env:=by rfl) (hplain:(backTo cpos (starEach es X.env)).any (·.1) = false:=by rfl) :
  PE X (.Call (.Attribute o name apos) (e :: es) [] cpos) (tBM X.K T r to t):=by
 intro pins s σ H Q I h
 refine wpAny_Call_method_late hbase hfew hline rfl (thn (ho pins s σ H _ I h) fun v s1 ⟨x,H1,I1,r1,ty,q1⟩=>?_)
 obtain ⟨h1,h2⟩:=tyV_is I1 r1 ty
 refine ⟨T,id,pa,slot,hty,h1,h2,?_⟩
 have hA:=ha cpos pins s1 σ H1 _ I1 q1
 rw [hs] at hA ⊢
 refine Calls.callWith_builtin (by show (false || (backTo cpos (starEach es X.env)).any (·.1)) = false; rw [hplain] <;> rfl) (Calls.evalArgs_plain ?_)
 exact thn hA fun us s2 ⟨vs,H2,I2,r2,q2⟩=>hm pins s2 σ H2 x vs v us Q I2 r1 r2 q2
end
end L2
namespace L2
open PySem PySem.Spec PyProof.Rows
def MtM (X:Cx) (id:String) (r:V -> List V -> Hp -> VK -> Prop):Prop :=
 ∀ (pins:List (Addr × Obj)) (s:Shared) (σ:St) (H:Hp) (x:V) (xs:List V) (v:Value) (us:List Value) (Q:VK),Inv X pins σ H s -> RelV x v -> Vals xs us -> r x xs H Q ->
  wpAny (model X.prog X.w) X.A (call (.builtin id) (v :: us)) (EP X pins σ Q) X.xe s
theorem Vals.one:∀ {x:V} {us:List Value},Vals [x] us -> ∃ u,us = [u] /\ RelV x u
 | _,_,.cons r .nil=>⟨_,rfl,r⟩
theorem Vals.zero:∀ {us:List Value},Vals [] us -> us = []
 | _,.nil=>rfl
theorem Vals.dropLast {xs:List V} {us:List Value} (h:Vals xs us):Vals xs.dropLast us.dropLast:=by
 induction h with
 | nil=>exact .nil
 | cons r t ih =>
  cases t with
  | nil=>exact .nil
  | cons q t'=>exact .cons r ih
theorem Vals.reverse {xs:List V} {us:List Value} (h:Vals xs us):Vals xs.reverse us.reverse:=by
 induction h with
 | nil=>exact .nil
 | cons r t ih=>rw [List.reverse_cons,List.reverse_cons]; exact Vals.append ih (.cons r .nil)
theorem Vals.rep {xs:List V} {us:List Value} (h:Vals xs us):∀ k:Nat,Vals (List.replicate k xs).flatten (List.replicate k us).flatten
 | 0=>.nil
 | k + 1=>by
  rw [List.replicate_succ,List.replicate_succ,List.flatten_cons,List.flatten_cons]
  exact Vals.append h (Vals.rep h k)
theorem erase_last {α:Type} (l:List α):l.eraseIdx (l.length - 1) = l.dropLast:=by
 induction l with
 | nil=>rfl
 | cons a r ih =>
  cases r with
  | nil=>rfl
  | cons b r =>
   have e:(a :: b :: r).length - 1 = ((b :: r).length - 1) + 1:=by
    have h1:(a :: b :: r).length = r.length + 2:=rfl
    have h2:(b :: r).length = r.length + 1:=rfl
    omega
   rw [e,List.eraseIdx_cons_succ,ih]
   all_goals rfl
theorem foldl_rep (its:List Value):∀ (k:Nat) (acc:List Value),
  List.foldl (fun x1 x2=>x1 ++ x2) acc.toArray (List.replicate k its.toArray) = (acc ++ (List.replicate k its).flatten).toArray
 | 0,acc=>by simp
 | k + 1,acc=>by
  have e:acc.toArray ++ its.toArray = (acc ++ its).toArray:=by simp
  have e2:(acc ++ its) ++ (List.replicate k its).flatten = acc ++ (List.replicate (k + 1) its).flatten:=by
   rw [List.replicate_succ,List.flatten_cons,List.append_assoc]
  rw [← e2,← foldl_rep its k (acc ++ its),← e,List.replicate_succ,List.foldl_cons]
section
variable {X:Cx} {pins:List (Addr × Obj)} {σ:St} {H:Hp} {s:Shared} {l b:Addr} {xs ys zs:List V}
theorem Inv.lset {its its':List Value} {n:Nat} {f:Array Value -> Array Value} {t':Nat} (I:Inv X pins σ H s) (hH:H l = some (.lst xs))
  (e:s.heap.get? l = some { cls:=.type "list",data:=.seq its.toArray n }) (hf:f its.toArray = its'.toArray) (hv:Vals ys its') (hz:ys.length <= sizeLine) :
  Inv X pins σ (upd H l (.lst ys)) { s with heap:=s.heap.update l (Obj.mapSeq f),toks:=t' }:=by
 have q:=PySem.IsL.update e f
 rw [hf] at q
 refine I.write (x:=l) (e:=l) (by rw [hH]; exact trivial) (.inl rfl) (fun b' u hb hu=>(Heap.get?_update_other s.heap (Obj.mapSeq f) (Ne.symm hb)).trans hu) ⟨_,q⟩ ?_
 exact ⟨hz,its',_,hv,q⟩
theorem Inv.lnew {its:List Value} {t':Nat} (I:Inv X pins σ H s) (hv:Vals ys its) (hz:ys.length <= sizeLine) :
  Inv X pins σ (upd H s.heap.objs.size (.lst ys)) { s with heap:=s.heap.push { cls:=.type "list",data:=.seq its.toArray },toks:=t' } :=
 I.laid (fun _ _ q=>Heap.get?_push_of_some _ q) (Nat.le_refl _) ⟨hz,its,0,hv,Heap.get?_push_size _ rfl⟩
theorem Inv.fresh (I:Inv X pins σ H s):H s.heap.objs.size = none:=I.hok.fresh (Nat.le_refl _)
theorem Inv.lstM (I:Inv X pins σ H s) (hH:H l = some (.lst xs)):xs.length <= sizeLine /\ ∃ (its:List Value) (n:Nat),Vals xs its /\ xs.length = its.length /\ s.heap.get? l = some { cls:=.type "list",data:=.seq its.toArray n }:=by
 obtain ⟨z,its,n,r,e⟩:=I.hok l _ hH
 exact ⟨z,its,n,r,r.length,e⟩
theorem notLongL {n:Nat} (h:n <= sizeLine):Builtin.List.listTooLong n = false:=by
 unfold Builtin.List.listTooLong
 exact decide_eq_false (by omega)
end
section
variable {X:Cx}
def rAppend:V -> List V -> Hp -> VK -> Prop:=fun x vs H Q=>∃ l xs y,x = .ref l /\ vs = [y] /\ H l = some (.lst xs) /\ xs.length < sizeLine /\ Q .non (upd H l (.lst (xs ++ [y])))
theorem yE:MtM X "list.append" rAppend:=by
 intro pins s σ H x vs v us Q I rx rv h
 obtain ⟨l,xs,y,rfl,rfl,hH,hz,q⟩:=h
 cases rx
 obtain ⟨u,rfl,ru⟩:=rv.one
 obtain ⟨z,its,n,r,hl,e⟩:=I.lstM hH
 refine call_meets F.slot_list_append ⟨_,e,rfl⟩ F.entry_list_append (F.args_list_append_2 _ _) (PySem.list_append l its.toArray n u (by rw [List.size_toArray]; omega)) ⟨e,?_⟩
 refine ⟨.non,_,I.lset (its':=its ++ [u]) hH e (by simp) (r.append (.cons ru .nil)) ?_,rfl,q⟩
 rw [List.length_append,List.length_singleton]
 omega
def rPop:V -> List V -> Hp -> VK -> Prop:=fun x vs H Q=>∃ l xs y,x = .ref l /\ vs = [] /\ H l = some (.lst xs) /\ xs[xs.length - 1]? = some y /\ Q y (upd H l (.lst xs.dropLast))
theorem mt_pop:MtM X "list.pop" rPop:=by
 intro pins s σ H x vs v us Q I rx rv h
 obtain ⟨l,xs,y,rfl,rfl,hH,hy,q⟩:=h
 cases rx
 have hus:=rv.zero
 subst hus
 obtain ⟨z,its,n,r,hl,e⟩:=I.lstM hH
 obtain ⟨u,hu,ru⟩:=r.get hy
 have hy':its.toArray[its.toArray.size - 1]? = some u:=by
  show its.toArray[its.length - 1]? = some u
  rw [← Array.getElem?_toList,← hl]
  exact hu
 refine call_meets F.slot_list_pop ⟨_,e,rfl⟩ F.entry_list_pop (F.args_list_pop_1 _) (MeetsSeq.list_pop_last l its.toArray n u hy' (by rw [List.size_toArray]; omega)) ⟨e,?_⟩
 refine ⟨y,_,I.lset (its':=its.dropLast) hH e ?_ r.dropLast ?_,ru,q⟩
 ·show its.toArray.eraseIdxIfInBounds (its.toArray.size - 1) = its.dropLast.toArray
  rw [List.size_toArray,List.eraseIdxIfInBounds_toArray,erase_last]
 ·rw [List.length_dropLast]
  omega
def rReverse:V -> List V -> Hp -> VK -> Prop:=fun x vs H Q=>∃ l xs,x = .ref l /\ vs = [] /\ H l = some (.lst xs) /\ Q .non (upd H l (.lst xs.reverse))
theorem mt_reverse:MtM X "list.reverse" rReverse:=by
 intro pins s σ H x vs v us Q I rx rv h
 obtain ⟨l,xs,rfl,rfl,hH,q⟩:=h
 cases rx
 have hus:=rv.zero
 subst hus
 obtain ⟨z,its,n,r,hl,e⟩:=I.lstM hH
 refine call_meets F.slot_list_reverse ⟨_,e,rfl⟩ F.entry_list_reverse (F.args_list_reverse_1 _) (AutoSeq1.list_reverse_list_0 l its.toArray n (by rw [List.size_toArray]; omega)) ⟨e,?_⟩
 refine ⟨.non,_,I.lset (its':=its.reverse) hH e (by simp) r.reverse ?_,rfl,q⟩
 rw [List.length_reverse]
 omega
def rCat:R2:=fun x y H Q=>∃ l b xs zs,x = .ref l /\ y = .ref b /\ H l = some (.lst xs) /\ H b = some (.lst zs) /\ xs.length + zs.length <= sizeLine /\ ∀ p,H p = none -> Q (.ref p) (upd H p (.lst (xs ++ zs)))
theorem op_cat:OpR X (binaryOp .Add) rCat:=by
 intro pins s σ H x y v u Q I rx ry h
 obtain ⟨l,b,xs,zs,rfl,rfl,hH,hB,hz,q⟩:=h
 cases rx
 cases ry
 obtain ⟨z,its,n,r,hl,e⟩:=I.lstM hH
 obtain ⟨z2,its2,n2,r2,hl2,e2⟩:=I.lstM hB
 refine PySem.P.add_list e e2 ?_ (by rw [List.size_toArray,List.size_toArray]; omega)
 have ea:its.toArray ++ its2.toArray = (its ++ its2).toArray:=by simp
 rw [ea]
 exact ⟨.ref _,_,I.lnew (t':=s.toks) (r.append r2) (by rw [List.length_append]; omega),rfl,q _ I.fresh⟩
def rRep:R2:=fun x y H Q=>∃ l k xs,x = .ref l /\ y = .int k /\ H l = some (.lst xs) /\ -(2 ^ 63) <= k /\ k < 2 ^ 63 /\ xs.length * k.toNat <= sizeLine /\
 ∀ p,H p = none -> Q (.ref p) (upd H p (.lst (List.replicate k.toNat xs).flatten))
theorem len_rep {α:Type} (xs:List α) (k:Nat):(List.replicate k xs).flatten.length = k * xs.length:=by
 induction k with
 | zero=>simp
 | succ k ih=>rw [List.replicate_succ,List.flatten_cons,List.length_append,ih,Nat.succ_mul,Nat.add_comm]
theorem op_rep:OpR X (binaryOp .Mult) rRep:=by
 intro pins s σ H x y v u Q I rx ry h
 obtain ⟨l,k,xs,rfl,rfl,hH,h1,h2,hz,q⟩:=h
 cases rx
 obtain ⟨t,rfl⟩:=ry
 obtain ⟨z,its,n,r,hl,e⟩:=I.lstM hH
 have hlen:its.toArray.size * k.toNat <= sizeLine:=by rw [List.size_toArray,← hl]; exact hz
 have hcap:¬ its.toArray.size * k.toNat > (2 ^ 63 - 1) / 8:=by
  have:(sizeLine:Nat) <= (2 ^ 63 - 1) / 8:=by decide
  omega
 have hfit:¬ (!Builtin.List.listFitsIndex k) = true:=by
  rw [fitsIndex_both h1 h2]
  exact Bool.false_ne_true
 have hlong:¬ Builtin.List.listTooLong (its.toArray.size * k.toNat) = true:=by
  rw [notLongL hlen]
  exact Bool.false_ne_true
 have hnew:List.foldl (fun x1 x2=>x1 ++ x2) #[] (List.replicate (if its.toArray.isEmpty = true then 0 else k.toNat) its.toArray) = (List.replicate k.toNat its).flatten.toArray:=by
  have f0:∀ m:Nat,List.foldl (fun x1 x2=>x1 ++ x2) #[] (List.replicate m its.toArray) = (List.replicate m its).flatten.toArray:=fun m=>by
   have:=foldl_rep its m []
   rw [List.nil_append] at this
   exact this
  rw [f0]
  cases its with
  | nil=>simp
  | cons a r'=>rw [if_neg (by simp)]
 refine wpAny_binaryOp_repeat_ref (T:="list") (U:="int") (by decide) ⟨_,e,rfl⟩ (fun s'=>typeIs_int s' k t) noFill_list_mul F.fills_int_mul F.slot_int_rmul repeat_list F.slot_int_index.lookup
  (call_meets F.slot_int_rmul (typeIs_int s k t) F.entry_int_rmul (F.args_int_rmul_2 _ _) (int___rmul___int_list k t l its.toArray n)
   ⟨e,rfl,⟨_,e,rfl⟩,call_meets F.slot_list_mul ⟨_,e,rfl⟩ F.entry_list_mul (F.args_list_mul_2 _ _) (AutoListH.list___mul___list_int_3 l its.toArray n k t hfit hcap hlong) ⟨e,?_⟩⟩)
 rw [hnew]
 exact ⟨.ref _,_,I.lnew (t':=s.toks) (r.rep k.toNat) (by rw [len_rep,Nat.mul_comm]; exact hz),rfl,q _ I.fresh⟩
end
section
variable {prog:Program} {w:World} {A:Around} {E:Value -> Shared -> Prop} {s:Shared}
set_option maxRecDepth 100000 in
end
section
variable {X:Cx}
end
end L2
namespace L2
open PySem PySem.Spec PyProof.Rows
section
variable {κ:Type} [DecidableEq κ]
def valV (kvs:List (κ × V)) (k:κ):Option V:=(kvs.find? fun kv=>decide (kv.1 = k)).map (·.2)
def putK (kvs:List (κ × V)) (k:κ) (v:V):List (κ × V) :=
 if (kvs.any fun kv=>decide (kv.1 = k)) = true then kvs.map (fun kv=>if kv.1 = k then (kv.1,v) else kv) else kvs ++ [(k,v)]
theorem yI {p:κ × V} {r:List (κ × V)} {k:κ} (e:p.1 = k):valV (p :: r) k = some p.2:=by simp [valV,List.find?_cons,e]
theorem yK {p:κ × V} {r:List (κ × V)} {k:κ} (e:¬ p.1 = k):valV (p :: r) k = valV r k:=by simp [valV,List.find?_cons,e]
theorem xI (k:κ):∀ kvs:List (κ × V),(kvs.any fun kv=>decide (kv.1 = k)) = (valV kvs k).isSome
 | []=>rfl
 | p :: r=>by
  rw [List.any_cons]
  by_cases e:p.1 = k
  ·simp only [yI e,decide_eq_true e,Bool.true_or,Option.isSome_some]
  ·rw [yK e,decide_eq_false e,Bool.false_or]; exact xI k r
theorem valV_map (k j:κ) (y:V):∀ kvs:List (κ × V),valV (kvs.map fun kv=>if kv.1 = k then (kv.1,y) else kv) j = (valV kvs j).map fun x=>if j = k then y else x
 | []=>rfl
 | p :: r=>by
  have ih:=valV_map k j y r
  rw [List.map_cons]
  by_cases h:p.1 = k
  ·rw [if_pos h]
   by_cases e:p.1 = j
   ·rw [yI (p:=(p.1,y)) e,yI e,Option.map_some,if_pos (e.symm.trans h)]
   ·rw [yK (p:=(p.1,y)) e,yK e,ih]
  ·rw [if_neg h]
   by_cases e:p.1 = j
   ·rw [yI (p:=p) e,yI e,Option.map_some,if_neg (fun z=>h (e.trans z))]
   ·rw [yK (p:=p) e,yK e,ih]
theorem valV_snoc (k j:κ) (y:V):∀ kvs:List (κ × V),valV kvs k = none -> valV (kvs ++ [(k,y)]) j = if j = k then some y else valV kvs j
 | [],_=>by
  by_cases e:k = j
  ·rw [if_pos e.symm]; exact yI (p:=(k,y)) e
  ·rw [if_neg (fun z=>e z.symm)]; exact yK (p:=(k,y)) e
 | p :: r,hn=>by
  rw [List.cons_append]
  have hk:¬ p.1 = k:=fun z=>by rw [yI z] at hn; cases hn
  rw [yK hk] at hn
  have ih:=valV_snoc k j y r hn
  by_cases e:p.1 = j
  ·rw [yI e,yI e,if_neg (fun z=>hk (e.trans z))]
  ·rw [yK e,yK e,ih]
theorem valV_put (kvs:List (κ × V)) (k j:κ) (y:V):valV (putK kvs k y) j = if j = k then some y else valV kvs j:=by
 unfold putK
 by_cases a:(kvs.any fun kv=>decide (kv.1 = k)) = true
 ·rw [if_pos a,valV_map]
  rw [xI] at a
  by_cases e:j = k
  ·obtain ⟨x,hx⟩:=Option.isSome_iff_exists.mp a
   rw [if_pos e,e,hx,Option.map_some,if_pos rfl]
  ·rw [if_neg e]
   cases valV kvs j with
   | none=>rfl
   | some x=>rw [Option.map_some,if_neg e]
 ·rw [if_neg a]
  refine valV_snoc k j y kvs ?_
  rw [xI] at a
  cases q:valV kvs k with
  | none=>rfl
  | some x=>rw [q] at a; exact (a rfl).elim
theorem xJ (kvs:List (κ × V)) (k:κ) (v:V):(putK kvs k v).length <= kvs.length + 1:=by
 unfold putK
 split
 ·rw [List.length_map]; omega
 ·rw [List.length_append,List.length_cons,List.length_nil]; omega
theorem putK_new {kvs:List (κ × V)} {k:κ} (v:V) (h:valV kvs k = none):putK kvs k v = kvs ++ [(k,v)]:=by
 unfold putK
 rw [xI,h]
 exact if_neg (by decide)
theorem RelO.isSome_eq {o:Option V} {u:Option Value} (r:RelO o u):o.isSome = u.isSome:=by
 cases o with
 | none=>cases u with
  | none=>rfl
  | some _=>exact (show False from r).elim
 | some _=>cases u with
  | none=>exact (show False from r).elim
  | some _=>rfl
theorem RelO.getD {o:Option V} {u:Option Value} {d:V} {d':Value} (r:RelO o u) (rd:RelV d d'):RelV (o.getD d) (u.getD d'):=by
 cases o with
 | none=>cases u with
  | none=>exact rd
  | some _=>exact (show False from r).elim
 | some _=>cases u with
  | none=>exact (show False from r).elim
  | some _=>exact r
theorem KV.val {kvs:List (κ × V)} {vs:List (κ × Value)} (r:KV kvs vs) (k:κ):RelO (valV kvs k) (valueAt vs k):=by
 unfold KV at r
 induction r with
 | nil=>exact True.intro
 | @cons p q ps qs h t ih =>
  obtain ⟨h1,h2⟩:=h
  by_cases e:p.1 = k
  ·have e':q.1 = k:=h1.symm.trans e
   have b:valueAt (q :: qs) k = some q.2:=by simp [valueAt,List.find?_cons,e']
   rw [yI e,b]; exact h2
  ·have e':¬ q.1 = k:=fun z=>e (h1.trans z)
   have b:valueAt (q :: qs) k = valueAt qs k:=by simp [valueAt,List.find?_cons,e']
   rw [yK e,b]; exact ih
theorem KV.any {kvs:List (κ × V)} {vs:List (κ × Value)} (r:KV kvs vs) (k:κ):(kvs.any fun kv=>decide (kv.1 = k)) = vs.any fun kv=>decide (kv.1 = k):=by
 unfold KV at r
 induction r with
 | nil=>rfl
 | cons h t ih=>rw [List.any_cons,List.any_cons,ih,h.1]
theorem KV.repl {kvs:List (κ × V)} {vs:List (κ × Value)} (r:KV kvs vs) (k:κ) {y:V} {u:Value} (ry:RelV y u) :
  KV (kvs.map fun kv=>if kv.1 = k then (kv.1,y) else kv) (vs.map fun kv=>if kv.1 = k then (kv.1,u) else kv):=by
 unfold KV at r ⊢
 induction r with
 | nil=>exact .nil
 | @cons p q ps qs h t ih =>
  rw [List.map_cons,List.map_cons]
  refine .cons ?_ ih
  obtain ⟨h1,h2⟩:=h
  by_cases e:p.1 = k
  ·rw [if_pos e,if_pos (h1.symm.trans e)]; exact ⟨h1,ry⟩
  ·rw [if_neg e,if_neg (fun z=>e (h1.trans z))]; exact ⟨h1,h2⟩
theorem KV.put {kvs:List (κ × V)} {vs:List (κ × Value)} (r:KV kvs vs) (k:κ) {y:V} {u:Value} (ry:RelV y u):KV (putK kvs k y) (stored vs k u):=by
 unfold putK stored
 rw [r.any k]
 by_cases e:(vs.any fun kv=>decide (kv.1 = k)) = true
 ·rw [if_pos e,if_pos e]; exact r.repl k ry
 ·rw [if_neg e,if_neg e]; exact Paired.snoc r ⟨rfl,ry⟩
theorem KV.length {kvs:List (κ × V)} {vs:List (κ × Value)} (r:KV kvs vs):kvs.length = vs.length:=Paired.length r
end
theorem kV_is {P:Program} {w:World} {k:Key} {u:Value} (r:RelV (kV k) u):(mixKind P w).is k u = true:=by
 cases k with
 | inl i=>obtain ⟨t,e⟩:=(show ∃ t,u = Value.int i t from r); subst e; exact mixKind_int P w i t
 | inr x=>obtain ⟨t,e⟩:=(show ∃ t,u = Value.str x t from r); subst e; exact mixKind_str P w x t
theorem items_are {P:Program} {w:World}:∀ {ks:List Key} {us:List Value},Vals (ks.map kV) us -> ItemsAre (mixKind P w) ks us
 | [],_,r=>by rw [List.map_nil] at r; cases r; exact .nil
 | k :: ks,_,r=>by
  rw [List.map_cons] at r
  cases r with
  | cons h t=>exact .cons (kV_is h) (items_are t)
abbrev KT (H:Hp):List (List Key × V) -> List (List Key × Addr × Value) -> Prop:=Paired fun p q=>p.1 = q.1 /\ H q.2.1 = some (.tup (p.1.map kV)) /\ RelV p.2 q.2.2
theorem KT.val {H:Hp} {kvs:List (List Key × V)} {xs:List (List Key × Addr × Value)} (r:KT H kvs xs) (k:List Key):RelO (valV kvs k) ((atKey xs k).map (·.2)):=by
 induction r with
 | nil=>exact True.intro
 | @cons p q ps qs h t ih =>
  obtain ⟨h1,_,h2⟩:=h
  by_cases e:p.1 = k
  ·have e':q.1 = k:=h1.symm.trans e
   have b:atKey (q :: qs) k = some q.2:=by simp [atKey,List.find?_cons,e']
   rw [yI e,b]; exact h2
  ·have e':¬ q.1 = k:=fun z=>e (h1.trans z)
   have b:atKey (q :: qs) k = atKey qs k:=by simp [atKey,List.find?_cons,e']
   rw [yK e,b]; exact ih
theorem KT.repl {H:Hp} {kvs:List (List Key × V)} {xs:List (List Key × Addr × Value)} (r:KT H kvs xs) (k:List Key) {y:V} {u:Value} (ry:RelV y u) :
  KT H (kvs.map fun kv=>if kv.1 = k then (kv.1,y) else kv) (xs.map (putAt k u)):=by
 induction r with
 | nil=>exact .nil
 | @cons p q ps qs h t ih =>
  rw [List.map_cons,List.map_cons]
  refine .cons ?_ ih
  obtain ⟨h1,h2,h3⟩:=h
  unfold putAt
  by_cases e:p.1 = k
  ·rw [if_pos e,if_pos (h1.symm.trans e)]; exact ⟨h1,h2,ry⟩
  ·rw [if_neg e,if_neg (fun z=>e (h1.trans z))]; exact ⟨h1,h2,h3⟩
theorem KT.put {H:Hp} {kvs:List (List Key × V)} {xs:List (List Key × Addr × Value)} (r:KT H kvs xs) (k:List Key) {b:Addr} {y:V} {u:Value} (hb:H b = some (.tup (k.map kV))) (ry:RelV y u) :
  KT H (putK kvs k y) (storedH xs k b u):=by
 have e:(kvs.any fun kv=>decide (kv.1 = k)) = (atKey xs k).isSome:=by
  rw [xI,(r.val k).isSome_eq,Option.isSome_map]
 unfold putK storedH
 rw [e]
 by_cases q:(atKey xs k).isSome = true
 ·rw [if_pos q,if_pos q]; exact r.repl k ry
 ·rw [if_neg q,if_neg q]; exact Paired.snoc r ⟨rfl,hb,ry⟩
theorem KT.keeps {H H':Hp} {kvs:List (List Key × V)} {xs:List (List Key × Addr × Value)} (r:KT H kvs xs) (ht:∀ b ys,H b = some (.tup ys) -> H' b = some (.tup ys)):KT H' kvs xs :=
 Paired.mapP r fun _ _ z=>⟨z.1,ht _ _ z.2.1,z.2.2⟩
section
variable {P:Program} {w:World} {H:Hp} {h:Heap} {a:Addr}
theorem rd_of {u:HO} (ok:HOk P w H h) (e:Rd H a u):ObjOk P w H h a u:=e.ok ok
theorem jL {kvs:List (Key × V)} (ok:HOk P w H h) (e:Rd H a (.dK kvs)):kvs.length <= sizeLine /\ (a == sysModules) = false /\ ∃ vs,KV kvs vs /\ h.DictOf (mixKind P w) a vs :=
 show ObjOk P w H h a (.dK kvs) from rd_of ok e
theorem dk_of {kvs:List (Key × V)} (ok:HOk P w H h) (e:H a = some (.dK kvs)):kvs.length <= sizeLine /\ (a == sysModules) = false /\ ∃ vs,KV kvs vs /\ h.DictOf (mixKind P w) a vs:=jL ok (.inl e)
theorem key_of {ks:List Key} (ok:HOk P w H h) (e:H a = some (.tup (ks.map kV))):(tupleKind (mixKind P w)).is h ks a:=by
 obtain ⟨_,its,r,o,h1,h2,n,h3⟩:=(show ObjOk P w H h a (.tup (ks.map kV)) from ok a _ e)
 exact ⟨o,its.toArray,n,h1,h2,h3,by simpa using items_are r⟩
theorem dt_rd {kvs:List (List Key × V)} (ok:HOk P w H h) (e:Rd H a (.dT kvs)):kvs.length <= sizeLine /\ (a == sysModules) = false /\
  ∃ xs,KT H kvs xs /\ h.DictOfH (tupleKind (mixKind P w)) a xs:=by
 obtain ⟨z,y,xs,r,o,es,ep,h1,h2,h3,h4,h5⟩:=(show ObjOk P w H h a (.dT kvs) from rd_of ok e)
 refine ⟨z,y,xs,r,o,es,ep,h1,h2,h3,h4,fun x hx=>?_,h5⟩
 have all:∀ {l:List (List Key × V)} {m:List (List Key × Addr × Value)},KT H l m -> ∀ x ∈ m,(tupleKind (mixKind P w)).is h x.1 x.2.1:=by
  intro l m q
  induction q with
  | nil=>intro x hx; exact nomatch hx
  | @cons p q ps qs hq t ih =>
   intro x hx
   rcases List.mem_cons.mp hx with e | hx
   ·subst e
    exact key_of ok (by rw [← hq.1]; exact hq.2.1)
   ·exact ih x hx
 exact all r x hx
theorem dt_of {kvs:List (List Key × V)} (ok:HOk P w H h) (e:H a = some (.dT kvs)):kvs.length <= sizeLine /\ (a == sysModules) = false /\
  ∃ xs,KT H kvs xs /\ h.DictOfH (tupleKind (mixKind P w)) a xs:=dt_rd ok (.inl e)
end
def DGet (H:Hp) (a:Addr) (y:V) (r:Option V):Prop :=
 (∃ kvs k,Rd H a (.dK kvs) /\ y = kV k /\ r = valV kvs k) \/ ∃ kvs k b,Rd H a (.dT kvs) /\ y = .ref b /\ H b = some (.tup (k.map kV)) /\ r = valV kvs k
def DPut (H:Hp) (a:Addr) (y v:V) (H':Hp):Prop :=
 (∃ kvs k,H a = some (.dK kvs) /\ y = kV k /\ kvs.length < sizeLine /\ H' = upd H a (.dK (putK kvs k v))) \/
 ∃ kvs k b,H a = some (.dT kvs) /\ y = .ref b /\ H b = some (.tup (k.map kV)) /\ kvs.length < sizeLine /\ H' = upd H a (.dT (putK kvs k v))
theorem DGet.k {H:Hp} {a:Addr} {kvs:List (Key × V)} {k:Key} (e:H a = some (.dK kvs)):DGet H a (kV k) (valV kvs k):=.inl ⟨kvs,k,.inl e,rfl,rfl⟩
theorem DPut.k {H:Hp} {a:Addr} {kvs:List (Key × V)} {k:Key} {v:V} (e:H a = some (.dK kvs)) (hl:kvs.length < sizeLine):DPut H a (kV k) v (upd H a (.dK (putK kvs k v))):=.inl ⟨kvs,k,e,rfl,hl,rfl⟩
section
variable {X:Cx} {pins:List (Addr × Obj)} {σ:St} {H:Hp} {s:Shared} {a:Addr} {y v:V} {u r:Value} {o:Option V} {A:Around} {E:Value -> Shared -> Prop}
theorem Inv.big (I:Inv X pins σ H s):sysModules < s.heap.objs.size:=by
 have h:mainGlobals < s.heap.objs.size:=(I.mod.glob.keeps I.bk).lt
 exact Nat.lt_trans (by decide) h
theorem d_getItem {Q:Value -> Shared -> Prop} (hu:A.units + 1 < cLine) (I:Inv X pins σ H s) (g:DGet H a y (some v)) (ry:RelV y u) (h:∀ w' s',Inv X pins σ H s' -> RelV v w' -> Q w' s') :
  wpAny (model X.prog X.w) A (getItem (.ref a) u) Q E s:=by
 rcases g with ⟨kvs,k,e,ey,l⟩ | ⟨kvs,k,b,e,ey,eb,l⟩
 ·subst ey
  obtain ⟨z,hd,vs,rel,dd⟩:=jL I.hok e
  obtain ⟨w',hw,rw'⟩:=RelO.some_of (v:=v) (o:=valueAt vs k) (by rw [l]; exact rel.val k)
  exact wpAny_getItem_of (kV_is ry) dd.mapOf hw (h w' _ (I.tok _) rw')
 ·subst ey
  cases (show u = Value.ref b from ry)
  obtain ⟨z,hd,xs,rel,dd⟩:=dt_rd I.hok e
  obtain ⟨w',hw,rw'⟩:=RelO.some_of (v:=v) (o:=(atKey xs k).map (·.2)) (by rw [l]; exact rel.val k)
  obtain ⟨p,hp,hp2⟩:=Option.map_eq_some_iff.mp hw
  refine wpAny_getItem_heap (tupleKind_room_in1 hu) (key_of I.hok eb) dd hp ?_
  rw [hp2]
  exact h w' _ (I.tok _) rw'
theorem d_in {Q:Value -> Shared -> Prop} (hu:A.units + 1 < cLine) (I:Inv X pins σ H s) (g:DGet H a y o) (ry:RelV y u) (h:∀ s',Inv X pins σ H s' -> Q (.bool o.isSome) s') :
  wpAny (model X.prog X.w) A (compareOp .In u (.ref a)) Q E s:=by
 rcases g with ⟨kvs,k,e,ey,l⟩ | ⟨kvs,k,b,e,ey,eb,l⟩
 ·subst ey
  obtain ⟨z,hd,vs,rel,dd⟩:=jL I.hok e
  refine wpAny_in_of (kV_is ry) hd dd.mapOf ?_
  rw [← (rel.val k).isSome_eq,← l]
  exact h _ (I.tok _)
 ·subst ey
  cases (show u = Value.ref b from ry)
  obtain ⟨z,hd,xs,rel,dd⟩:=dt_rd I.hok e
  refine wpAny_in_heap (tupleKind_room_in1 hu) (key_of I.hok eb) hd dd ?_
  have q:=(rel.val k).isSome_eq
  rw [Option.isSome_map] at q
  rw [← q,← l]
  exact h _ (I.tok _)
theorem d_notIn {Q:Value -> Shared -> Prop} (hu:A.units + 1 < cLine) (I:Inv X pins σ H s) (g:DGet H a y o) (ry:RelV y u) (h:∀ s',Inv X pins σ H s' -> Q (.bool (!o.isSome)) s') :
  wpAny (model X.prog X.w) A (compareOp .NotIn u (.ref a)) Q E s:=by
 rcases g with ⟨kvs,k,e,ey,l⟩ | ⟨kvs,k,b,e,ey,eb,l⟩
 ·subst ey
  obtain ⟨z,hd,vs,rel,dd⟩:=jL I.hok e
  refine wpAny_notIn_of (kV_is ry) hd dd.mapOf ?_
  rw [← (rel.val k).isSome_eq,← l]
  exact h _ (I.tok _)
 ·subst ey
  cases (show u = Value.ref b from ry)
  obtain ⟨z,hd,xs,rel,dd⟩:=dt_rd I.hok e
  refine wpAny_notIn_heap (tupleKind_room_in1 hu) (key_of I.hok eb) hd dd ?_
  have q:=(rel.val k).isSome_eq
  rw [Option.isSome_map] at q
  rw [← q,← l]
  exact h _ (I.tok _)
theorem d_write {h':Heap} {t':Nat} {ob:HO} (I:Inv X pins σ H s) (mu:Mut (H a)) (hs:Heap.SameBut a s.heap h') (he:∃ q,h'.get? a = some q) (new:ObjOk X.prog X.w (upd H a ob) h' a ob) :
  Inv X pins σ (upd H a ob) { s with heap:=h',toks:=t' } :=
 I.write (x:=a) (e:=a) mu (.inl rfl) (fun b q hb z=>(hs.2 b hb).trans z) he new
theorem dk_new {P:Program} {w:World} {H':Hp} {h':Heap} {kvs:List (Key × V)} {vs:List (Key × Value)} (z:kvs.length <= sizeLine) (hd:(a == sysModules) = false) (rel:KV kvs vs) (dd:h'.DictOf (mixKind P w) a vs) :
  ObjOk P w H' h' a (.dK kvs):=⟨z,hd,vs,rel,dd⟩
theorem d_setItem {H':Hp} {Q:Unit -> Shared -> Prop} (hu:A.units + 1 < cLine) (I:Inv X pins σ H s) (g:DPut H a y v H') (ry:RelV y u) (rv:RelV v r) (h:∀ s',Inv X pins σ H' s' -> Q () s') :
  wpAny (model X.prog X.w) A (setItem (.ref a) u r) Q E s:=by
 rcases g with ⟨kvs,k,e,ey,l,eH⟩ | ⟨kvs,k,b,e,ey,eb,l,eH⟩
 ·subst ey eH
  obtain ⟨z,hd,vs,rel,dd⟩:=dk_of I.hok e
  have hz:vs.length <= sizeLine:=by rw [← rel.length]; exact z
  have hl:(putK kvs k v).length <= sizeLine:=by have:=xJ kvs k v; omega
  refine wpAny_setItem_pairs (hsz:=hz) (kV_is ry) dd fun h' dd' hs=>h _ ?_
  have he:∃ q,h'.get? a = some q:=let ⟨q,_,_,hq,_⟩:=dd'; ⟨q,hq⟩
  exact d_write I (by rw [e]; exact True.intro) hs he (dk_new hl hd (rel.put k rv) dd')
 ·subst ey eH
  cases (show u = Value.ref b from ry)
  obtain ⟨z,hd,xs,rel,dd⟩:=dt_of I.hok e
  have hz:xs.length <= sizeLine:=by rw [← Paired.length rel]; exact z
  have hl:(putK kvs k v).length <= sizeLine:=by have:=xJ kvs k v; omega
  refine wpAny_setItem_heap (hsz:=hz) (tupleKind_room_in1 hu) (key_of I.hok eb) dd fun h' dd' hs=>h _ ?_
  obtain ⟨q,es,ep,hq,h2,h3,h4,_,h5⟩:=dd'
  refine d_write I (by rw [e]; exact True.intro) hs ⟨q,hq⟩ ⟨hl,hd,_,(rel.put k eb rv).keeps fun c ys ec=>?_,q,es,ep,hq,h2,h3,h4,h5⟩
  rw [zD (ne_of ec e (fun z=>nomatch z))]
  exact ec
end
section
variable {X:Cx} {pins:List (Addr × Obj)} {σ:St} {H:Hp} {s:Shared} {a:Addr} {kvs:List (Key × V)} {k:Key} {u:Value} {A:Around} {E:Value -> Shared -> Prop}
end
def NoSl (i:Expr):Prop:=∀ ov iv,subscripted i false ov iv = operate [ov,iv] (getItem ov iv)
theorem subD_of {prog:Program} {w:World} {A:Around} {E:Value -> Shared -> Prop} {s:Shared} {env:Env} {value slice:Expr} {pos:Pos} {T id:String} {Q:Value -> Shared -> Prop}
  (hl:typeLookup (.type T) "__getitem__" = pure (some (.builtin id))) (hs:NoSl slice)
  (h:wpAny (model prog w) A (eval value env) (fun o s₁=>wpAny (model prog w) A (eval slice env) (fun i s₂=>s₂.TypeIs o T /\ wpAny (model prog w) A (getItem o i) Q E s₂) E s₁) E s) :
  wpAny (model prog w) A (eval (.Subscript value slice pos) env) Q E s:=by
 refine Subscript_ (wpAny_mono h (fun o s₁ h₁=>wpAny_mono h₁ (fun i s₂ h₂=>?_) fun _ _ x=>x) fun _ _ x=>x)
 obtain ⟨hT,h₂⟩:=h₂
 unfold subscriptTail
 refine wpAny_bind ?_
 rw [getitemInPython_of_ne hT.not_modules]
 refine wpAny_bind (wpAny_specialOf hT hl ?_)
 have fin:wpAny (model prog w) A (subscripted slice false o i) (fun r s₃=>wpAny (model prog w) A (letTemporaryGo value o r >>= fun _=>pure r) Q E s₃) E s₂:=by
  rw [hs o i]
  exact wpAny_operating (wpAny_mono h₂ (fun r s₃ h₃=>wpAny_bind (wpAny_letTemporaryGo (wpAny_pure h₃))) fun _ _ x=>x)
 first
  | exact wpAny_pure (wpAny_bind fin)
  | exact wpAny_bind (wpAny_pure (wpAny_bind fin))
  | exact wpAny_bind fin
theorem dict_typeIs {X:Cx} {pins:List (Addr × Obj)} {σ:St} {H:Hp} {s:Shared} {a:Addr} {y:V} {o:Option V} (I:Inv X pins σ H s) (g:DGet H a y o):s.TypeIs (.ref a) "dict":=by
 rcases g with ⟨kvs,k,e,_,_⟩ | ⟨kvs,k,b,e,_,_,_⟩
 ·obtain ⟨_,_,vs,_,dd⟩:=jL I.hok e
  exact dd.typeIs
 ·obtain ⟨_,_,xs,_,dd⟩:=dt_rd I.hok e
  exact dd.typeIs
def tDGet (td ty:TE):TE:=fun σ H Q=>td σ H fun x H1=>ty σ H1 fun y H2=>∃ a v,x = .ref a /\ DGet H2 a y (some v) /\ Q v H2
def sDPut (td ty tv:TE):TS:=fun D σ H=>tv σ H fun v H1=>td σ H1 fun x H2=>ty σ H2 fun y H3=>∃ a H4,x = .ref a /\ DPut H3 a y v H4 /\ D.nx σ H4
section
variable {X:Cx} {o i e value:Expr} {pos pos' tpos:Pos} {td ty tv:TE}
theorem pe_dget (hu:X.A.units + 1 < cLine) (ho:PE X o td) (hi:PE X i ty) (hs:NoSl i):PE X (.Subscript o i pos) (tDGet td ty):=by
 intro pins s σ H Q I h
 refine subD_of PySem.F.slot_dict_getitem.lookup hs (thn (ho pins s σ H _ I h) fun u s1 ⟨x,H1,I1,rx,q1⟩=>thn (hi pins s1 σ H1 _ I1 q1) fun iv s2 ⟨y,H2,I2,ry,a,v,ex,g,q2⟩=>?_)
 subst ex
 obtain rfl:u = Value.ref a:=rx
 exact ⟨dict_typeIs I2 g,d_getItem hu I2 g ry fun w' s3 I3 rw'=>⟨v,H2,I3,rw',q2⟩⟩
theorem qT (hu:X.A.units + 1 < cLine) (ho:PE X o td) (hi:PE X i ty) (hv:PE X value tv) (hs:swapsWith value (some (.Subscript o i pos')) pos.line X.env = pure false) :
  PS X (.Assign [.Subscript o i pos'] value pos) (sDPut td ty tv):=by
 intro pins s σ H D I h
 refine wpAny_Assign_Subscript (thn (hv pins s σ H _ I h) fun r s1 ⟨v,H1,I1,rv,q1⟩=>thn (ho pins s1 σ H1 _ I1 q1) fun u s2 ⟨x,H2,I2,rx,q2⟩=>thn (hi pins s2 σ H2 _ I2 q2) fun iv s3 ⟨y,H3,I3,ry,a,H4,ex,g,q3⟩=>?_) hs
 subst ex
 obtain rfl:u = Value.ref a:=rx
 exact d_setItem hu I3 g ry rv fun s4 I4=>⟨σ,H4,I4,q3⟩
end
theorem dk_empty {P:Program} {w:World} {H:Hp} (h:Heap) (hb:sysModules < h.objs.size):ObjOk P w H (h.push { cls:=.type "dict",data:=.dict #[] }) h.objs.size (.dK []) :=
 ⟨Nat.zero_le _,beq_eq_false_iff_ne.mpr (Ne.symm (Nat.ne_of_lt hb)),[],.nil,Heap.DictOf.new h⟩
def tDNewK:TE:=fun _ H Q=>∀ p,H p = none -> Q (.ref p) (upd H p (.dK []))
section
variable {X:Cx} {pos:Pos}
theorem jD:PE X (.Dict [] [] pos) tDNewK:=fun pins s σ H Q I h =>
 wpAny_Dict_empty ⟨.ref s.heap.objs.size,_,I.laid (a:=s.heap.objs.size) (o:=.dK []) (t':=s.toks) (fun _ _ q=>Heap.get?_push_of_some _ q) (Nat.le_refl _) (dk_empty s.heap I.big),rfl,h _ (I.hok.fresh (Nat.le_refl _))⟩
end
structure M1 (X:Cx) (o:Expr) (m:Str) (apos:Pos) (e:Expr) (cpos:Pos):Prop where
 base:attributeBase o m X.env (eval o X.env) = eval o X.env
 few:((backTo cpos (starEach [e] X.env)).all (fun x=>!x.1) && (backToKw cpos (keywordEach [] X.env)).all (fun x=>x.1.isSome)
  && decide (([e]:List Expr).length + ([]:List Keyword).length + (if ([]:List Keyword).isEmpty then 0 else 1) < 30)) = true
 line:(apos.endLine == cpos.line) = true
 trees:backTo cpos (starEach [e] X.env) = [(false,eval e X.env)]
def IsD (H:Hp) (a:Addr):Prop:=(∃ kvs,Rd H a (.dK kvs)) \/ ∃ kvs,Rd H a (.dT kvs)
theorem isD_at {X:Cx} {pins:List (Addr × Obj)} {σ:St} {H:Hp} {s:Shared} {a:Addr} (I:Inv X pins σ H s) (d:IsD H a) :
  s.TypeIs (.ref a) "dict" /\ (∀ b,Value.ref a = .ref b -> ∃ ob,s.heap.get? b = some ob /\ ob.dict = none) /\ (a == sysModules) = false:=by
 rcases d with ⟨kvs,e⟩ | ⟨kvs,e⟩
 ·obtain ⟨_,hd,vs,_,dd⟩:=jL I.hok e
  refine ⟨dd.typeIs,fun b q=>?_,hd⟩
  cases q
  obtain ⟨ob,_,_,h1,h2,_⟩:=dd
  exact ⟨ob,h1,h2.2.1⟩
 ·obtain ⟨_,hd,xs,_,dd⟩:=dt_rd I.hok e
  refine ⟨dd.typeIs,fun b q=>?_,hd⟩
  cases q
  obtain ⟨ob,_,_,h1,h2,_⟩:=dd
  exact ⟨ob,h1,h2.2.1⟩
section
variable {X:Cx} {pins:List (Addr × Obj)} {σ:St} {H:Hp} {s:Shared} {a:Addr} {y d:V} {u r:Value} {o:Option V} {A:Around} {E:Value -> Shared -> Prop}
theorem d_get1 {Q:Value -> Shared -> Prop} (hu:A.units + 1 < cLine) (I:Inv X pins σ H s) (g:DGet H a y o) (ry:RelV y u) (h:∀ w' s',Inv X pins σ H s' -> RelV (o.getD .non) w' -> Q w' s') :
  wpAny (model X.prog X.w) A (call (.builtin "dict.get") [.ref a,u]) Q E s:=by
 rcases g with ⟨kvs,k,e,ey,l⟩ | ⟨kvs,k,b,e,ey,eb,l⟩
 ·subst ey
  obtain ⟨z,hd,vs,rel,dd⟩:=jL I.hok e
  refine call_meetsIn PySem.F.slot_dict_get dd.typeIs PySem.F.entry_dict_get (PySem.F.args_dict_get_2 _ _) (meets_dict_get (mixKind X.prog X.w) a (kV_is ry) hd) ⟨_,dd.mapOf,h _ _ (I.tok _) ?_⟩
  rw [l]
  exact (rel.val k).getD rfl
 ·subst ey
  cases (show u = Value.ref b from ry)
  obtain ⟨z,hd,xs,rel,dd⟩:=dt_rd I.hok e
  refine call_meetsIn PySem.F.slot_dict_get dd.typeIs PySem.F.entry_dict_get (PySem.F.args_dict_get_2 _ _) (meetsH_dict_get (tupleKind (mixKind X.prog X.w)) a b hd) ⟨tupleKind_room_in1 hu,k,xs,key_of I.hok eb,dd,h _ _ (I.tok _) ?_⟩
  rw [l]
  exact (rel.val k).getD rfl
end
def tDGet1 (td ty:TE):TE:=fun σ H Q=>td σ H fun x H1=>∃ a,x = .ref a /\ IsD H1 a /\ ty σ H1 fun y H2=>∃ o,DGet H2 a y o /\ Q (o.getD .non) H2
section
variable {X:Cx} {o e f:Expr} {apos cpos:Pos} {td ty tx:TE}
theorem xY (hu:X.A.units + 1 < cLine) (ho:PE X o td) (he:PE X e ty) (m:M1 X o "get" apos e cpos):PE X (.Call (.Attribute o "get" apos) [e] [] cpos) (tDGet1 td ty):=by
 intro pins s σ H Q I h
 refine wpAny_Call_method m.base m.few m.line PySem.F.plainAttrs_dict PySem.F.slot_dict_get PySem.F.type_dict_get (thn (ho pins s σ H _ I h) fun u s1 ⟨x,H1,I1,rx,a,ex,d,q1⟩=>?_)
 subst ex
 obtain rfl:u = Value.ref a:=rx
 obtain ⟨t1,t2,_⟩:=isD_at I1 d
 refine ⟨t1,t2,?_⟩
 rw [m.trees]
 refine Calls.callWith_builtin rfl (Calls.evalArgs_plain (Calls.spliced_cons (thn (he pins s1 σ H1 _ I1 q1) fun iv s2 ⟨y,H2,I2,ry,ov,g,q2⟩=>Calls.spliced_nil ?_)))
 exact d_get1 hu I2 g ry fun w' s3 I3 rw'=>⟨_,H2,I3,rw',q2⟩
end
section
variable {X:Cx} {pins:List (Addr × Obj)} {σ:St} {H:Hp} {s:Shared} {a:Addr} {kvs:List (Key × V)} {A:Around} {E:Value -> Shared -> Prop}
theorem d_copyOf {Q:Value -> Shared -> Prop} (I:Inv X pins σ H s) (e:Rd H a (.dK kvs)) (h:∀ p s',H p = none -> Inv X pins σ (upd H p (.dK kvs)) s' -> Q (.ref p) s'):wpAny (model X.prog X.w) A (call (.type "dict") [.ref a]) Q E s:=by
 obtain ⟨z,hd,vs,rel,dd⟩:=jL I.hok e
 refine kt_call_dict hd dd (by rw [← rel.length]; exact z) fun h' dd' hs=>?_
 refine h _ _ (I.hok.fresh (Nat.le_refl _)) (I.laid (a:=s.heap.objs.size) (o:=.dK kvs) (t':=s.toks) (fun b q hq=>?_) (Nat.le_refl _) (dk_new z (beq_eq_false_iff_ne.mpr (Ne.symm (Nat.ne_of_lt I.big))) rel dd'))
 exact (hs.2 b (Nat.ne_of_lt (Heap.lt_size hq))).trans (Heap.get?_push_of_some _ hq)
end
section
variable {X:Cx} {pins:List (Addr × Obj)} {σ:St} {H:Hp} {s:Shared} {a:Addr} {y:V} {u:Value} {A:Around} {E:Value -> Shared -> Prop}
end
end L2
namespace Att
open PySem PySem.W PySem.Calls PyProof.Rows
theorem ints_of_wellAll {P:Params} {h:Heap}:∀ (ns:List Int) (vs:List Value),WellAll P h vs (ns.map WData.int) -> IntsAre vs ns:=by
 intro ns
 induction ns with
 | nil =>
  intro vs w
  rw [List.map_nil] at w
  cases w
  exact .nil
 | cons n ns ih =>
  intro vs w
  rw [List.map_cons] at w
  cases w with
  | cons a b =>
   cases a
   exact .cons _ _ (ih _ b)
theorem script_of {l:OpenLaw} {n:Nat} (hn:l.most = some n) {P:Params} {h:Heap} {args:List WData} {vals:List Value}
  (hpre:l.row.toRowW.claim.pre args = true) (hwl:WellAll P h vals args) :
  ∃ a vs ns,vals = [Value.ref a] /\ args = [WData.list (ns.map WData.int)] /\ h.get? a = some { cls:=.type "list",data:=.seq vs.toArray } /\ IntsAre vs ns /\ ns.length <= n:=by
 have hsh:WShape.hasAll [] args [.list .int] = true:=(pre_splitW hpre).1
 have hc:l.pre.holds [] { args:=args } = true:=(pre_splitW hpre).2
 obtain ⟨d,r,rfl,h1,h2⟩:=hasAllW_cons hsh
 obtain rfl:=hasAllW_nil h2
 obtain ⟨xs,rfl,h3⟩:=hasW_list h1
 obtain ⟨ns,rfl⟩:=items_int h3
 have hlen:ns.length <= n:=by
  unfold OpenLaw.pre at hc
  have h4:(WTm.not (.lt (.lit (.int (n:Int))) (.len (.arg 0)))).holds [] { args:=[.list (ns.map .int)] } = true:=by
   have h4:=(holds_andW hc).1
   rw [hn] at h4
   exact h4
  have h5:=condW_of h4 (w_not (w_lt w_lit (w_len_list (w_arg rfl))))
  rw [List.length_map] at h5
  refine Nat.le_of_not_lt fun q=>?_
  have q':(n:Int) < ((ns.length:Nat):Int):=by omega
  first
   | (rw [decide_eq_true q'] at h5; exact absurd h5 (by decide))
   | (simp at h5; omega)
 cases hwl with
 | cons w1 w2 =>
  cases w2
  cases w1 with
  | list ho hall=>exact ⟨_,_,ns,rfl,rfl,ho,ints_of_wellAll ns _ hall,hlen⟩
theorem post_true (l:OpenLaw) (args:List WData):l.row.toRowW.claim.post args (.bool true) args = true :=
 postW_of (r:=l.row.toRowW) (X:=(true == true))
  (show WShape.has [] (.bool true) .bool = true by first | rfl | decide | simp [WShape.has,WShape.arms,WShape.armsAll])
  (show (WTm.eq .res (.lit (.bool true))).value [] { args:=args,res:=some (.bool true),after:=args } = some (.bool (true == true)) from w_eq_bool (w_res rfl) w_lit) rfl
theorem attach_call {l:OpenLaw} {n:Nat} {q:Program} {loose:List Str} {XP:(Str -> Option Value) -> Heap -> Prop} {YP:World -> Heap -> Prop} {d:DefRec}
  (hn:l.most = some n) (hdf:d.params.defaults = [])
  (call:∀ (w:World) (s₀ s₁:Shared) (mg mb:Str -> Option Value) (fa:Addr) (o:Obj) (pm cd doc:Value) (a:Addr) (vs:List Value) (ns:List Int),
   Ground q loose [] XP w s₀ mg mb s₁.heap -> YP w s₁.heap ->
   s₁.heap.get? fa = some o -> o.data = .func (docDef d.name d.params d.body d.scope pm cd doc) -> s₁.heap.CodeRec cd d.name -> mg d.name = some (.ref fa) ->
   s₁.heap.get? a = some { cls:=.type "list",data:=.seq vs.toArray } -> IntsAre vs ns -> ns.length <= n -> s₁.gens = #[] ->
   codeAny (model l.prog w) callerA (.call (.ref fa) ⟨[.ref a],[]⟩) (fun r s'=>r = .ok (.ret (.bool true)) /\ OldK s₁.heap s'.heap /\ s'.os = s₁.os /\ AllBare s'.gens) s₁) :
  WalkO q loose XP YP l.row.toRowW d [] (fun f vs=>PySem.call f vs):=by
 intro w s₀ s₁ mg mb G Y fa o pm cd doc dV kV ho hd hcd hD hmg hg args vals as hpre hlay hrd hwl hlo
 obtain rfl:dV = .none:=Dflts.none hD hdf
 obtain rfl:kV = .none:=Dflts.noKw hD
 obtain ⟨a,vs,ns,rfl,rfl,hobj,hints,hlen⟩:=script_of hn hpre hwl
 refine enter_call (codeAny_mono (call w s₀ s₁ mg mb fa o pm cd doc a vs ns G Y ho (fd_plain hd) hcd hmg hobj hints hlen hg) fun r s' hq=>?_)
 obtain ⟨rfl,h2,h3,h4⟩:=hq
 exact ⟨.inl ⟨.bool true,.bool true,[],rfl,fun _=>rfl,.bool true,post_true l _,fun _=>⟨List.Pairwise.nil,fun _ hm=>(nomatch hm)⟩⟩,h2,h3,h4⟩
section
variable {prog:Program} {w:World} {A:Around} {E:Value -> Shared -> Prop} {s:Shared} {K:Frag}
end
end Att
namespace L2
open PySem PySem.Spec PyProof.Rows
theorem vals_ints:∀ {vs:List Value} {ns:List Int},IntsAre vs ns -> Vals (ns.map V.int) vs
 | _,_,.nil=>.nil
 | _,_,.cons n t h=>.cons ⟨t,rfl⟩ (vals_ints h)
def Only (H:Hp):Prop:=∀ b,H b = none \/ ∃ o xs,H b = some (.frz o (.lst xs))
theorem law_call {P:Program} {w:World} {K:PySem.W.Frag} {mg mb:Str -> Option Value} {CX:CXT} {k:Nat} {fa a:Addr} {fd:FuncData} {x:Str} {sp:Sp} {s₁:Shared} {vs:List Value} {ns:List Int}
  (KX:K.In s₁.heap) (hns:s₁.heap.Ns mainGlobals mg) (hb:s₁.heap.Ns builtinsNs mb) (hbb:∀ x:Str,x ≠ "__name__" -> mb x = bootBuiltins x) (hlim:s₁.heap.NoLimit) (hg:s₁.gens = #[])
  (ha:s₁.heap.get? a = some { cls:=.type "list",data:=.seq vs.toArray }) (hi:IntsAre vs ns) (hl:ns.length <= sizeLine) (hr:Room k callerA)
  (F:∀ base:Heap,K.In base -> base.Ns mainGlobals mg -> FnOk P w K mg base CX k fa fd [x] sp) (hbind:∀ (s:Shared) (u:Value),BindsTo s fd ⟨[u],[]⟩ [(x,u)])
  (hsp:∀ H:Hp,Only H -> SqL K H a (ns.map V.int) -> sp [.ref a] H (fun v _=>v = .bl true) fun _ _ _=>False)
  (hCX:∀ H e s',CX [] H s₁ (fun _ _ _=>False) e s' -> False) :
  codeAny (model P w) callerA (.call (.ref fa) ⟨[.ref a],[]⟩) (fun r s'=>r = .ok (.ret (.bool true)) /\ OldK s₁.heap s'.heap /\ s'.os = s₁.os /\ AllBare s'.gens) s₁:=by
 have rv:=vals_ints hi
 have lenV:=hi.length
 have core:∀ H:Hp,Only H -> SqL K H a (ns.map V.int) -> HOk P w H s₁.heap -> (∀ b,H b ≠ none -> b = a) -> (H a ≠ none -> K.lookup a = none) ->
   codeAny (model P w) callerA (.call (.ref fa) ⟨[.ref a],[]⟩) (fun r s'=>r = .ok (.ret (.bool true)) /\ OldK s₁.heap s'.heap /\ s'.os = s₁.os /\ AllBare s'.gens) s₁:=by
  intro H hO hS hok hA hK
  have base_of:∀ {b:Addr} {o:Obj},s₁.heap.get? b = some o -> H b = none -> (hidT s₁.heap H).get? b = some o:=fun e n=>hidT_get e n
  have noA:∀ {b:Addr} {o:Obj} {es:Array DictEntry} {ep:Nat},s₁.heap.get? b = some o -> o.data = .dict es ep -> H b = none:=fun {b o es ep} e d=>by
   cases q:H b with
   | none=>rfl
   | some u =>
    have e':b = a:=hA b (by rw [q]; simp)
    subst e'
    rw [ha] at e; cases e
    have d':Data.seq vs.toArray _ = Data.dict es ep:=d
    cases d'
  have nsK:∀ {b:Addr} {m:Str -> Option Value},s₁.heap.Ns b m -> (hidT s₁.heap H).Ns b m:=fun {b m} ⟨o,es,ep,e,d,r⟩=>⟨o,es,ep,base_of e (noA e d),d,r⟩
  have hKb:K.In (hidT s₁.heap H):=fun b o e=>base_of (KX b o e) (by
   cases q:H b with
   | none=>rfl
   | some u =>
    have e':b = a:=hA b (by rw [q]; simp)
    subst e'
    rw [hK (by rw [q]; simp)] at e; cases e)
  have hM:Mod K mg (hidT s₁.heap H):=⟨hKb,nsK hns,⟨mb,nsK hb,hbb⟩,let ⟨mc,h1,h2⟩:=hlim; ⟨mc,nsK h1,h2⟩⟩
  have e0:Env0 P w K mg (hidT s₁.heap H) callerA [] s₁ H:=⟨rfl,hM,fun b o e=>of_hidT e,Nat.le_of_eq (hidT_size _ _),trivial,fun b hb=>absurd (show b ∈ ([]:List Addr) from hb) (by simp),hok,.of_eq hg⟩
  refine codeAny_mono ((F _ hKb (nsK hns)).run callerA [] s₁ H ⟨[.ref a],[]⟩ [.ref a] [.ref a] _ _ hr e0 (hbind s₁ (.ref a)) (.cons rfl .nil) (hsp H hO hS)) fun r s' h=>?_
  cases r with
  | error e=>exact (hCX H e s' h).elim
  | ok fl =>
   cases fl with
   | next=>exact False.elim h
   | brk=>exact False.elim h
   | cont=>exact False.elim h
   | ret u =>
    obtain ⟨v,H',os,bare,un,hok',r',q⟩:=h
    have q':v = .bl true:=q
    subst q'
    obtain rfl:u = Value.bool true:=r'
    refine ⟨rfl,OldK.of_keep fun b o e=>?_,os,bare⟩
    cases q:H b with
    | none=>exact un.keep b o e q (by intro z; exact absurd (show b ∈ ([]:List Addr) from z) (by simp)) (by simp)
    | some u =>
     rcases hO b with z | ⟨ob,xs,z⟩
     ·rw [q] at z; cases z
     ·have z2:=un.frzs b ob _ z
      obtain ⟨e1,_⟩:=hok b _ z
      obtain ⟨e2,_⟩:=hok' b _ z2
      rw [e] at e1; cases e1
      exact e2
 cases hk:K.lookup a with
 | some o =>
  have e:=KX a o hk
  rw [ha] at e
  cases e
  refine core (fun _=>none) (fun _=>.inl rfl) (.inr ⟨_,vs.toArray,_,hk,rfl,rfl,rfl,by rw [List.size_toArray,lenV]; exact hl,by simpa using rv⟩) (fun b u z=>by have z':(none:Option HO) = some u:=z; cases z') (fun b z=>absurd rfl z) fun z=>absurd rfl z
 | none =>
  refine core (fun b=>if b = a then some (.frz { cls:=.type "list",data:=.seq vs.toArray } (.lst (ns.map V.int))) else none) (fun b=>?_) (.inl (.inr ⟨{ cls:=.type "list",data:=.seq vs.toArray },if_pos rfl⟩)) (fun b u z=>?_) (fun b z=>?_) fun _=>hk
  ·by_cases hb:b = a
   ·exact .inr ⟨_,_,if_pos hb⟩
   ·exact .inl (if_neg hb)
  ·by_cases hb:b = a
   ·have z':=(if_pos hb).symm.trans z
    cases z'
    subst hb
    exact ⟨ha,by rw [List.length_map]; exact hl,vs,_,rv,ha⟩
   ·have z':=(if_neg hb).symm.trans z
    cases z'
  ·by_cases hb:b = a
   ·exact hb
   ·exact absurd (if_neg hb) z
end L2
namespace L2
open PySem PySem.Spec PyProof.Rows
theorem walk_of {l:PySem.W.OpenLaw} {n k:Nat} {q:Program} {loose:List Str} {XP:(Str -> Option Value) -> Heap -> Prop} {YP:World -> Heap -> Prop} {d:DefRec} {K:Params -> PySem.W.Frag} {CX:World -> CXT} {sp:World -> Sp} {x:Str}
  (hn:l.most = some n) (hn2:n <= sizeLine) (hdf:d.params.defaults = []) (hr:Room k callerA)
  (hY:∀ (w:World) (h:Heap),YP w h -> (K w.params).In h)
  (F:∀ (w:World) (mg:Str -> Option Value) (fa:Addr) (h:Heap),(K w.params).In h -> h.Ns mainGlobals mg -> mg d.name = some (.ref fa) ->
   ∃ fd:FuncData,(∀ (s:Shared) (u:Value),BindsTo s fd ⟨[u],[]⟩ [(x,u)]) /\
    ∀ base:Heap,(K w.params).In base -> base.Ns mainGlobals mg -> FnOk l.prog w (K w.params) mg base (CX w) k fa fd [x] (sp w))
  (hsp:∀ (w:World) (H:Hp) (a:Addr) (ns:List Int),ns.length <= n -> Only H -> SqL (K w.params) H a (ns.map V.int) -> sp w [.ref a] H (fun v _=>v = .bl true) fun _ _ _=>False)
  (hCX:∀ (w:World) (H:Hp) (s:Shared) (e:Value) (s':Shared),CX w [] H s (fun _ _ _=>False) e s' -> False) :
  PySem.W.WalkO q loose XP YP l.row.toRowW d [] (fun f vs=>PySem.call f vs):=by
 refine Att.attach_call hn hdf fun w s₀ s₁ mg mb fa o pm cd doc a vs ns G Y ho hd hcd hmg hobj hints hlen hg=>?_
 have KX:=hY w _ Y
 obtain ⟨fd,hb,hF⟩:=F w mg fa _ KX G.T.g hmg
 exact law_call KX G.T.g G.T.b G.T.builtins G.T.nolimit hg hobj hints (Nat.le_trans hlen hn2) hr hF hb (fun H hO hS=>hsp w H a ns hlen hO hS) fun H e s'=>hCX w H s₁ e s'
end L2
namespace L2
open PySem PySem.Spec PyProof.Rows
def zT (s:Stmt):Arguments:=match s with
 | .FunctionDef _ a _ _ _ _ _ _ _ _=>a
 | _=>{ posonlyargs:=[],args:=[],vararg:=none,kwonlyargs:=[],kw_defaults:=[],kwarg:=none,defaults:=[] }
def zR (s:Stmt):List Stmt:=match s with
 | .FunctionDef _ _ b _ _ _ _ _ _ _=>b
 | _=>[]
def zE (s:Stmt):Scope:=match s with
 | .FunctionDef _ _ _ _ _ _ sc _ _ _=>sc
 | _=>{ kind:=.function,names:=[],isGenerator:=false,isCoroutine:=false }
abbrev CX0:CXT:=fun _ _ _ _ _ _=>False
abbrev E0:XK:=fun _ _ _=>False
theorem pass0 {X:Cx}:Passes CX0 X E0:=fun _ _ _ _ _ _ _ h=>h.elim
structure Fun (K:PySem.W.Frag) (x qual:Str) (st:Stmt) (f:Addr) (fd:FuncData):Prop where
 ex:∃ (oc:Value) (od:Option Addr) (kV doc pm:Value) (an:Option Addr) (cdv ct:Value) (osl:Array (Option Value)),
  fd = PySem.W.fnOf x qual (zT st) (zR st) (zE st) .none kV doc pm an cdv ct /\ K.lookup f = some ⟨oc,od,.func fd,osl⟩ /\ PySem.W.codeIn K cdv qual = true
 kp:PySem.W.keepIn K (.ref f) = true
section
variable {P:Program} {w:World} {K:PySem.W.Frag} {mg:Str -> Option Value} {base:Heap}
theorem Fun.ok {x qual:Str} {st:Stmt} {f:Addr} {fd:FuncData} {N ps:List Str} {k:Nat} {sp:Sp} (F:Fun K x qual st f fd) (S:FnScope N ps (zE st)) (len:∀ vs H Q E,sp vs H Q E -> vs.length = ps.length)
  (hbody:∀ (cdv:Value) (A:Around) (outer:List Env) (s:Shared) (H:Hp) (vs:List V) (Q:VK) (E:XK),Room k (A.deeper (envOfC qual (zE st) s.heap.objs.size f cdv)) -> sp vs H Q E ->
   ∃ t,PSs (cxOf CX0 P w K mg base N qual (zE st) f cdv A outer s H E).nox (zR st) t /\ t { nx:=fun _ H'=>Q .non H',rt:=Q } (start N vs) H):FnOk P w K mg base CX0 (k + 1) f fd ps sp:=by
 obtain ⟨oc,od,kV,doc,pm,an,cdv,ct,osl,rfl,lk,hcd⟩:=F.ex
 refine fn_of lk hcd S len fun A outer s H vs Q E hr hsp=>?_
 obtain ⟨t,h,q⟩:=hbody cdv A outer s H vs Q E hr hsp
 exact ⟨t,h.nox,q⟩
theorem Fun.binds {x qual:Str} {st:Stmt} {f:Addr} {fd:FuncData} {ps:List Str} (F:Fun K x qual st f fd)
  (h:∀ (kV doc pm:Value) (an:Option Addr) (cdv ct:Value) (us:List Value),us.length = ps.length -> bindArgs (PySem.W.fnOf x qual (zT st) (zR st) (zE st) .none kV doc pm an cdv ct) ⟨us,[]⟩ = pure (ps.zip us)):Binds K fd ps []:=by
 obtain ⟨oc,od,kV,doc,pm,an,cdv,ct,osl,rfl,lk,hcd⟩:=F.ex
 exact .all (h kV doc pm an cdv ct)
theorem yD {x qual:Str} {st:Stmt} {f:Addr} {oc:Value} {od an:Option Addr} {osl:Array (Option Value)} {kV doc pm cdv ct:Value} (l:K.lookup f = some ⟨oc,od,.func (PySem.W.fnOf x qual (zT st) (zR st) (zE st) .none kV doc pm an cdv ct),osl⟩)
  (c:PySem.W.codeIn K cdv qual = true) (k:PySem.W.keepIn K (.ref f) = true):Fun K x qual st f (PySem.W.fnOf x qual (zT st) (zR st) (zE st) .none kV doc pm an cdv ct):=⟨⟨oc,od,kV,doc,pm,an,cdv,ct,osl,rfl,l,c⟩,k⟩
end
section
variable {X:Cx}
theorem pv (i:Nat) {x:Str} {pos:Pos} (hN:X.N[i]? = some x:=by rfl) (hv:Vis X.env.scope x:=by first | exact Or.inl rfl | exact Or.inr (Or.inl rfl) | exact Or.inr (Or.inr rfl)) (hd:(x == ("__debug__":Str)) = false:=by decide)
  (hcd:(x == ("__classdict__":Str)) = false:=by decide):PE X (.Name x pos) (tVar i):=pe_var hN hv hd hcd
end
theorem iteF {A B:Prop} (h:B):if false = true then A else B:=by
 rw [if_neg Bool.false_ne_true]
 exact h
theorem iteT {A B:Prop} (h:A):if true = true then A else B:=by
 rw [if_pos rfl]
 exact h
theorem ite2 {c A B:Prop} [Decidable c] (h1:c -> A) (h2:¬ c -> B):if c then A else B:=by
 by_cases h:c
 ·rw [if_pos h]
  exact h1 h
 ·rw [if_neg h]
  exact h2 h
theorem iteNS {c A B:Prop} [Decidable c] (hc:c) (h:B):if (!decide c) = true then A else B:=by
 rw [decide_eq_true hc]
 exact iteF h
def Same (H H':Hp):Prop:=∀ b o,H b = some o -> H' b = some o
theorem Same.refl (H:Hp):Same H H:=fun _ _ h=>h
theorem Same.trans {H H1 H2:Hp} (a:Same H H1) (b:Same H1 H2):Same H H2:=fun c o h=>b c o (a c o h)
theorem Same.free {H H':Hp} (e:Same H H') {l:Addr} (h:H' l = Option.none):H l = Option.none:=by
 cases q:H l with
 | none=>rfl
 | some o =>
  rw [e l o q] at h
  cases h
theorem Same.seq {K:PySem.W.Frag} {H H':Hp} {a:Addr} {xs:List V} (e:Same H H') (h:SqL K H a xs):SqL K H' a xs:=by
 rcases h with (h | ⟨o,h⟩) | h
 ·exact .inl (.inl (e _ _ h))
 ·exact .inl (.inr ⟨o,e _ _ h⟩)
 ·exact .inr h
section
variable {κ:Type} [DecidableEq κ]
theorem valV_in {kvs:List (κ × V)} {k:κ} {v:V} (h:valV kvs k = some v):k ∈ kvs.map (·.1):=by
 have q:(kvs.any fun kv=>decide (kv.1 = k)) = true:=by
  rw [xI,h]
  all_goals rfl
 obtain ⟨p,hp,e⟩:=List.any_eq_true.mp q
 exact List.mem_map.mpr ⟨p,hp,of_decide_eq_true e⟩
theorem nd_snoc:∀ {l:List κ} {k:κ},l.Nodup -> ¬ k ∈ l -> (l ++ [k]).Nodup
 | [],k,_,_=>by simp
 | a :: r,k,h,hk=>by
  obtain ⟨h1,h2⟩:=List.nodup_cons.mp h
  show (a :: (r ++ [k])).Nodup
  refine List.nodup_cons.mpr ⟨fun m=>?_,nd_snoc h2 fun m=>hk (List.mem_cons.mpr (Or.inr m))⟩
  rcases List.mem_append.mp m with q | q
  ·exact h1 q
  ·exact hk (List.mem_cons.mpr (Or.inl (List.mem_singleton.mp q).symm))
end
end L2
set_option maxHeartbeats 4000000
namespace L2
open PySem PySem.Spec PyProof.Rows
theorem xO {α β:Type} {f:α -> β -> Sem (ForInStep β)} (g:β -> α -> β):∀ (l:List α) (c:β),(∀ x ∈ l,∀ c,f x c = pure (.yield (g c x))) -> forIn l c f = pure (l.foldl g c)
 | [],c,_=>rfl
 | x :: l,c,h=>by
  rw [List.forIn_cons,h x List.mem_cons_self,pure_bind]
  exact xO g l (g c x) fun y hy=>h y (List.mem_cons_of_mem _ hy)
def closF (cells:List (Str × Addr)) (c:List (Str × Addr)) (x:Str × NameKind):List (Str × Addr) :=
 if x.2 == .free then (match cells.lookup x.1 with | some a=>(x.1,a) :: c | none=>c) else c
def xD (env:Env) (sc:Scope):List (Str × Addr):=sc.names.foldl (closF env.cells) []
theorem qG {scope:Scope} {env:Env} (h:∀ x ∈ scope.names,x.2 = .free -> ∃ c,env.cells.lookup x.1 = some c):closureFor scope env = pure (xD env scope):=by
 simp only [closureFor]
 rw [xO (closF env.cells) scope.names [] (fun x hx c=>?_)]
 ·rfl
 ·obtain ⟨n,k⟩:=x
  unfold closF
  cases hk:(k == NameKind.free) with
  | true =>
   have e:k = .free:=by simpa using hk
   obtain ⟨a,ha⟩:=h (n,k) hx e
   have ha':env.cells.lookup n = some a:=ha
   simp only [hk,if_true,cellOf,ha',pure_bind]
  | false=>simp only [hk,Bool.false_eq_true,if_false]
theorem y4 {β:Type} (x n:Str) (a:β) (l:List (Str × β)):List.lookup x ((n,a) :: l) = if x = n then some a else List.lookup x l:=by
 by_cases h:x = n
 ·have hb:(x == n) = true:=beq_iff_eq.mpr h
  simp only [List.lookup_cons,hb,if_pos h]
 ·have hb:(x == n) = false:=beq_eq_false_iff_ne.mpr h
  simp only [List.lookup_cons,hb,if_neg h]
theorem clos_sub {cells:List (Str × Addr)}:∀ (names:List (Str × NameKind)) (acc:List (Str × Addr)),(∀ x c,acc.lookup x = some c -> cells.lookup x = some c) ->
  ∀ x c,(names.foldl (closF cells) acc).lookup x = some c -> cells.lookup x = some c
 | [],acc,h=>h
 | (n,k) :: r,acc,h=>clos_sub r _ fun x c e=>by
  unfold closF at e
  by_cases hk:((n,k).2 == NameKind.free) = true
  ·rw [if_pos hk] at e
   dsimp only at e
   cases q:cells.lookup n with
   | none=>rw [q] at e; exact h x c e
   | some a =>
    rw [q] at e
    dsimp only at e
    rw [y4] at e
    by_cases hx:x = n
    ·rw [if_pos hx] at e; rw [hx,q]; exact e
    ·rw [if_neg hx] at e; exact h x c e
  ·rw [if_neg hk] at e; exact h x c e
theorem clos_mono {cells:List (Str × Addr)}:∀ (names:List (Str × NameKind)) (acc:List (Str × Addr)) (x:Str),(∃ c,acc.lookup x = some c) -> ∃ c,(names.foldl (closF cells) acc).lookup x = some c
 | [],acc,x,h=>h
 | (n,k) :: r,acc,x,h=>clos_mono r _ x (by
  obtain ⟨c,h⟩:=h
  unfold closF
  by_cases hk:((n,k).2 == NameKind.free) = true
  ·rw [if_pos hk]
   dsimp only
   cases q:cells.lookup n with
   | none=>exact ⟨c,h⟩
   | some a =>
    dsimp only
    rw [y4]
    by_cases hx:x = n
    ·exact ⟨a,by rw [if_pos hx]⟩
    ·exact ⟨c,by rw [if_neg hx]; exact h⟩
  ·rw [if_neg hk]; exact ⟨c,h⟩)
theorem clos_has {cells:List (Str × Addr)} {x:Str} {c:Addr} (hc:cells.lookup x = some c):∀ (names:List (Str × NameKind)) (acc:List (Str × Addr)),(x,NameKind.free) ∈ names -> ∃ c,(names.foldl (closF cells) acc).lookup x = some c
 | [],acc,h=>by cases h
 | (n,k) :: r,acc,h=>by
  rcases List.mem_cons.mp h with e | e
  ·cases e
   refine clos_mono r _ x ⟨c,?_⟩
   unfold closF
   rw [if_pos (by rfl)]
   dsimp only
   rw [hc]
   dsimp only
   rw [y4,if_pos rfl]
  ·exact clos_has hc r _ e
theorem clos_at {env:Env} {sc:Scope} {x:Str} {c:Addr} (hc:env.cells.lookup x = some c) (hm:(x,NameKind.free) ∈ sc.names):(xD env sc).lookup x = some c:=by
 obtain ⟨c',h⟩:=clos_has hc sc.names [] hm
 have e:=clos_sub sc.names [] (fun x c e=>by cases e) x c' h
 rw [hc] at e; cases e
 exact h
theorem qA {env:Env} {sc:Scope} {x:Str} {c:Addr} (h:(xD env sc).lookup x = some c):env.cells.lookup x = some c :=
 clos_sub sc.names [] (fun x c e=>by cases e) x c h
def relK (env:Env) (x:Str) (k:NameKind):NameKind:=if (k == .free && env.scope.kind == .function && env.kindOf x == some .cell) then .cell else k
theorem x6 {env:Env} (x:Str):∀ names:List (Str × NameKind),
  (names.map fun (n,k)=>if (k == NameKind.free && env.scope.kind == .function && env.kindOf n == some .cell) then (n,NameKind.cell) else (n,k)).lookup x = (names.lookup x).map (relK env x)
 | []=>rfl
 | (n,k) :: r=>by
  have ih:=x6 (env:=env) x r
  rw [List.map_cons]
  have e:(if (k == NameKind.free && env.scope.kind == .function && env.kindOf n == some .cell) = true then (n,NameKind.cell) else (n,k)) = (n,relK env n k):=by
   unfold relK
   split <;> rfl
  dsimp only
  rw [e,y4,y4]
  by_cases hx:x = n
  ·rw [if_pos hx,if_pos hx,hx]; rfl
  ·rw [if_neg hx,if_neg hx]; exact ih
theorem comp_lookup {env:Env} {scope:Scope} {cl:List (Str × Addr)} {C:Addr} (x:Str):(compEnvC scope cl C env).scope.names.lookup x = (scope.names.lookup x).map (relK env x):=x6 x scope.names
def srcSt (src:List (Option Nat)) (σ:St):St:=src.map fun o=>o.bind fun i=>(σ[i]?).join
structure CompOk (sc:Scope) (N N':List Str) (src:List (Option Nat)) (scope:Scope):Prop where
 nd:N'.Nodup
 len:src.length = N'.length
 kind:scope.kind = .function
 nocell:∀ y ∈ scope.names,y.2 ≠ .cell
 names:∀ y ∈ scope.names,y.2 = .local -> scope.names.lookup y.1 = some .local
 free:∀ y ∈ scope.names,y.2 = .free -> sc.names.lookup y.1 = some .cell \/ sc.names.lookup y.1 = some .free
 srcs:((src.zip N').all fun (o,x)=>match o with | none=>true | some i=>N[i]? == some x && scope.names.lookup x == some .free) = true
theorem CompOk.at {sc:Scope} {N N':List Str} {src:List (Option Nat)} {scope:Scope} (O:CompOk sc N N' src scope) {j i:Nat} {x:Str} (h1:src[j]? = some (some i)) (h2:N'[j]? = some x):N[i]? = some x /\ scope.names.lookup x = some .free:=by
 have hz:(src.zip N')[j]? = some (some i,x):=by rw [List.getElem?_zip_eq_some]; exact ⟨h1,h2⟩
 have q:=List.all_eq_true.mp O.srcs _ (List.mem_of_getElem? hz)
 have q':(N[i]? == some x && scope.names.lookup x == some .free) = true:=q
 rw [Bool.and_eq_true] at q'
 exact ⟨eq_of_beq q'.1,eq_of_beq q'.2⟩
def Cx.comp (X:Cx) (N':List Str) (scope:Scope) (C:Addr) (s:Shared) (H:Hp) (fp:List Addr):Cx :=
 { X with N:=N',s₀:=s,H₀:=H,env:=compEnvC scope (xD X.env scope) C X.env,outer:=X.stack,ex:=fp,fn:=fun _=>false,pn:=[],xe:=fun _ _=>False }
theorem Un.adopt {fs ex:List Addr} {H H1:Hp} {h h1:Heap} {D:Addr} {o:HO} (u:Un fs ex H H1 h h1) (hD:h.get? D = none) (hH:H D = none):Un fs ex H (upd H1 D o) h h1 where
 keep:=u.keep
 slot:=u.slot
 free:=fun b ob q n hx=>by
  have hb:b ≠ D:=fun z=>by rw [z,hD] at q; cases q
  rw [zD hb]; exact u.free b ob q n hx
 there:=u.there
 tups:=fun b xs q=>by rw [zD (zI q hH)]; exact u.tups b xs q
 frzs:=fun b ob xs q=>by rw [zD (zI q hH)]; exact u.frzs b ob xs q
 tbls:=fun b ps q=>by rw [zD (zI q hH)]; exact u.tbls b ps q
theorem HOk.adopt {P:Program} {w:World} {H:Hp} {h:Heap} {D:Addr} {o:HO} (x:HOk P w H h) (n:H D = none) (new:ObjOk P w (upd H D o) h D o):HOk P w (upd H D o) h:=fun b u e=>by
 by_cases hb:b = D
 ·subst hb; rw [zB] at e; cases e; exact new
 ·rw [zD hb] at e
  exact (x b u e).stay (fun c v _ q=>q) (fun c q=>by rw [zD (zI q n)]; exact q) fun c xs q=>by rw [zD (zI q n)]; exact q
def PFi (X:Cx) (ifs:List Expr) (tf:TT):Prop :=
 ∀ (pins:List (Addr × Obj)) (s:Shared) (σ:St) (H:Hp) (Q:Bool -> Hp -> Prop),Inv X pins σ H s -> tf σ H Q ->
  wpAny (model X.prog X.w) X.A (forIn ifs true fun c r=>if r = true then do let ok ← isTrue c X.env (eval c X.env); pure (ForInStep.yield ok) else pure (ForInStep.yield r)) (TP X pins σ Q) X.xe s
def tfNil:TT:=fun _ H Q=>Q true H
theorem x5 {X:Cx}:PFi X [] tfNil:=by
 intro pins s σ H Q I h
 rw [List.forIn_nil]
 exact wpAny_pure ⟨H,I,h⟩
theorem pf_one {X:Cx} {c:Expr} {tc:TT} (hc:PT X c tc):PFi X [c] tc:=by
 intro pins s σ H Q I h
 rw [List.forIn_cons]
 refine wpAny_bind (wpAny_bind (thn (hc pins s σ H _ I h) fun b s1 ⟨H1,I1,q1⟩=>wpAny_pure ?_))
 dsimp only
 rw [List.forIn_nil]
 exact wpAny_pure ⟨H1,I1,q1⟩
def CompW (src:List (Option Nat)) (J:It) (g:TG) (tf:TT) (te:TE) (Q:VK) (σ:St) (H:Hp):Prop :=
 ∃ W:Nat -> Nat -> List V -> St -> Hp -> Prop,(∃ m,W 0 m [] (srcSt src σ) H) /\ ∀ i m ys σ' H',W i m ys σ' H' -> ys.length <= sizeLine /\
 ((J.stop i H' /\ ∀ p,H' p = none -> Q (.ref p) (upd H' p (.lst ys))) \/
  (J.go i H' /\ ∃ Nx:List V -> St -> Hp -> Prop,(∀ ys2 σ2 H2,Nx ys2 σ2 H2 -> ∃ m',m' < m /\ W (i + 1) m' ys2 σ2 H2) /\
    ∀ x H2,J.yld i H' x H2 -> g x σ' H2 fun σ2 H3=>tf σ2 H3 fun b H4=>if b = true then te σ2 H4 fun y H5=>Nx (ys ++ [y]) σ2 H5 else Nx ys σ2 H4))
def tComp (src:List (Option Nat)) (wi:TI) (g:TG) (tf:TT) (te:TE):TE:=fun σ H Q=>wi σ H fun J H1=>CompW src J g tf te Q σ H1
section
variable {X:Cx} {tg elt iter:Expr} {ifs:List Expr} {scope sc:Scope} {N N':List Str} {src:List (Option Nat)} {g:TG} {tf:TT} {te:TE} {wi:TI} {pos:Pos}
theorem loop_own {prog:Program} {w:World} {A:Around} {R:Result -> Shared -> Prop} {s:Shared} {it acc:Value} {env:Env} (I:Nat -> Shared -> Prop)
  (turn:∀ n s,I n s -> wpAny (model prog w) A (pyNext it) (fun r s₁=>match r with
   | none=>R (.ok .next) s₁
   | some v=>wpAny (model prog w) A (letOwnedTupleGo tg it v) (fun _ s₂=>wpAny (model prog w) A (assign tg env v) (fun _ s₃ =>
     wpAny (model prog w) A (forIn ifs true fun c r=>if r = true then do let ok ← isTrue c env (eval c env); pure (ForInStep.yield ok) else pure (ForInStep.yield r)) (fun ok s₄ =>
      if ok = true then wpAny (model prog w) A (eval elt env) (fun x s₅ =>
       wpAny (model prog w) A (call (.builtin "list.append") [acc,x]) (fun _ s₆=>∃ m,m < n /\ I m s₆) (fun _ _=>False) s₅) (fun _ _=>False) s₄
      else ∃ m,m < n /\ I m s₄) (fun _ _=>False) s₃) (fun _ _=>False) s₂) (fun _ _=>False) s₁) (fun _ _=>False) s)
  (n:Nat) (h:I n s):codeAny (model prog w) A (.compLoop (.ListComp elt [⟨tg,iter,ifs,0⟩] scope pos) 0 it acc env) R s:=by
 refine codeAny_loop rfl I (fun n s hI=>?_) n h
 show wpAny _ A ((compTurn (.ListComp elt [⟨tg,iter,ifs,0⟩] scope pos) 0 it acc env).onRaise (fun x=>do noteFrame x env; theTreesLotGoes x)) _ _ s
 refine wpAny_noted ?_
 rw [compTurn_list]
 refine wpAny_bind (wpAny_standAt (wpAny_bind (wpAny_mono (turn n s hI) (fun r s₁ h₁=>?_) fun _ _ h'=>h'.elim)))
 cases r with
 | none=>exact wpAny_pure h₁
 | some v =>
  refine wpAny_bind (wpAny_mono h₁ (fun _ s₂ h₂=>?_) fun _ _ h'=>h'.elim)
  refine wpAny_bind (wpAny_mono h₂ (fun _ s₃ h₃=>wpAny_bind (wpAny_mono h₃ (fun ok s₄ h₄=>?_) fun _ _ h'=>h'.elim)) fun _ _ h'=>h'.elim)
  cases ok with
  | false=>exact wpAny_pure ⟨rfl,h₄⟩
  | true =>
   exact wpAny_bind (wpAny_bind (wpAny_mono h₄ (fun x s₅ h₅=>wpAny_bind (wpAny_mono h₅ (fun _ s₆ h₆=>wpAny_pure (wpAny_pure ⟨rfl,h₆⟩)) fun _ _ h'=>h'.elim)) fun _ _ h'=>h'.elim))
theorem comp_ok {pins:List (Addr × Obj)} {σ:St} {H:Hp} {s:Shared} {fp:List Addr} {C:Addr} (O:CompOk sc N N' src scope) (hsc:X.env.scope = sc) (I:Inv X pins σ H s) (hf:∀ b ∈ fp,FpOk X pins H b)
  (ho:∀ b ∈ fp,∃ o,s.heap.get? b = some o) (hC:s.heap.objs.size <= C):(X.comp N' scope C s H fp).Ok:=by
 have hk:∀ x,((compEnvC scope (xD X.env scope) C X.env).kindOf x = some .cell \/ (compEnvC scope (xD X.env scope) C X.env).kindOf x = some .free) -> (x,NameKind.free) ∈ scope.names:=fun x h=>by
  have h:(compEnvC scope (xD X.env scope) C X.env).scope.names.lookup x = some .cell \/ (compEnvC scope (xD X.env scope) C X.env).scope.names.lookup x = some .free:=h
  rw [comp_lookup] at h
  cases q:scope.names.lookup x with
  | none=>rw [q] at h; rcases h with h | h <;> cases h
  | some k =>
   have hm:=PySem.mem_of_lookup q
   rw [q] at h
   cases k with
   | free=>exact hm
   | cell=>exact absurd rfl (O.nocell _ hm)
   | _ =>
    exfalso
    rcases h with h | h <;> (have h':=Option.some.inj h; unfold relK at h'; simp at h')
 refine ⟨I.ok.mod,O.kind,I.ok.glob,I.ok.blt,hC,fun x y c h1 h2=>I.ok.inj x y c (qA h1) (qA h2),fun x h=>?_,fun x c h=>(by cases h),I.ok.hd,I.ok.frames,.inl rfl,fun b hb=>?_,I.bs,Nat.le_trans I.ok.bsz I.sz,fun b o e hb=>?_,fun b hb z=>?_,I.stack,I.stkFree⟩
 ·have hm:=hk x h
  have hx:=O.free _ hm rfl
  rw [← hsc] at hx
  obtain ⟨c,hc⟩:=I.ok.has x hx
  exact ⟨c,clos_at hc hm⟩
 ·refine ⟨?_,fun x c h=>(hf b hb).2.2.2.2.1 x c (qA h)⟩
  obtain ⟨o,e⟩:=ho b hb
  exact Nat.ne_of_lt (Nat.lt_of_lt_of_le (Heap.lt_size e) hC)
 ·rcases (hf b hb).2.2.2.1 with z | z
  ·exact I.ok.noex b o e z
  ·exact absurd (Nat.lt_of_lt_of_le (Nat.lt_of_lt_of_le (Heap.lt_size e) I.ok.bsz) z) (Nat.lt_irrefl _)
 ·rcases List.mem_cons.mp (I.stkSub b z) with e | e
  ·exact (hf b hb).2.1 e
  ·exact (hf b hb).2.2.1 e
theorem comp_inv {pins:List (Addr × Obj)} {σ:St} {H:Hp} {s:Shared} {fp:List Addr} {C:Addr} {h':Heap} {tk:Nat} (O:CompOk sc N N' src scope) (hsc:X.env.scope = sc) (hN:X.N = N) (I:Inv X pins σ H s) (hf:∀ b ∈ fp,FpOk X pins H b)
  (ho:∀ b ∈ fp,∃ o,s.heap.get? b = some o) (hC:s.heap.objs.size <= C) (k:∀ b o,s.heap.get? b = some o -> h'.get? b = some o) {m':Str -> Option Value} (hn:h'.Ns C m') :
  Inv (X.comp N' scope C s H fp) [] (srcSt src σ) H { s with heap:=h',toks:=tk }:=by
 have cells:∀ x c,X.env.cells.lookup x = some c -> ∀ v,s.heap.IsCell c v -> h'.IsCell c v:=fun x c _ v ⟨o,e,d⟩=>⟨o,k c o e,d⟩
 refine ⟨comp_ok O hsc I hf ho hC,rfl,I.bare,Un.kept k,⟨_,hn,fun j x v e1 e2 e3=>?_⟩,fun x c e=>?_,I.hok.fresh hC,fun x c e=>I.freeC x c (qA e),fun p hp=>(by cases hp),I.hok.kept k,?_⟩
 ·have e2:(srcSt src σ)[j]? = some (some v):=e2
  have e1:N'[j]? = some x:=e1
  unfold srcSt at e2
  rw [List.getElem?_map] at e2
  cases q:src[j]? with
  | none=>rw [q] at e2; cases e2
  | some o =>
   rw [q] at e2
   have e2:(o.bind fun i=>(σ[i]?).join) = some v:=Option.some.inj e2
   cases o with
   | none=>cases e2
   | some i =>
    have e2:(σ[i]?).join = some v:=e2
    obtain ⟨y2,hlk⟩:=O.at q e1
    have y3:=PySem.mem_of_lookup hlk
    have e4:σ[i]? = some (some v):=by
     cases r:σ[i]? with
     | none=>rw [r] at e2; cases e2
     | some w=>rw [r] at e2; cases w with
      | none=>cases e2
      | some w'=>have:w' = v:=Option.some.inj e2; rw [this]
    have hx:=O.free _ y3 rfl
    rw [← hsc] at hx
    obtain ⟨m,hm,hl⟩:=I.loc
    obtain ⟨u,ru,lu⟩:=hl i x v (by rw [hN]; exact y2) e4 (.inr hx)
    refine ⟨u,ru,.inr ?_⟩
    obtain ⟨c,hc,hcell⟩:∃ c,X.env.cells.lookup x = some c /\ s.heap.IsCell c (some u):=by
     rcases lu with ⟨z,_⟩ | ⟨_,c,hc,hz⟩
     ·exfalso
      have z:X.env.scope.names.lookup x = some .local:=z
      rcases hx with hx | hx <;> (rw [hx] at z; cases z)
     ·exact ⟨c,hc,hz⟩
    refine ⟨?_,c,clos_at hc y3,cells x c hc _ hcell⟩
    show (compEnvC scope (xD X.env scope) C X.env).scope.names.lookup x = some .cell \/ (compEnvC scope (xD X.env scope) C X.env).scope.names.lookup x = some .free
    rw [comp_lookup,hlk]
    show some (relK X.env x .free) = some .cell \/ some (relK X.env x .free) = some .free
    unfold relK
    split
    ·exact .inl rfl
    ·exact .inr rfl
 ·obtain ⟨v,z⟩:=I.cell x c (qA e)
  exact ⟨v,cells x c (qA e) v z⟩
 ·show (srcSt src σ).length = N'.length
  unfold srcSt
  rw [List.length_map]
  exact O.len
theorem comp_block {pins:List (Addr × Obj)} {σ:St} {H:Hp} {s:Shared} {fp:List Addr} {it:Addr} {tn:Nat -> Heap -> Prop} {J:It} {E:Value -> Shared -> Prop} {RR:Value -> Addr -> Result -> Shared -> Prop} {Fin:List V -> Hp -> Prop} (O:CompOk sc N N' src scope) (hsc:X.env.scope = sc) (hN:X.N = N) (hcalm:X.calm = true)
  (hg:∀ C s H fp,PG (X.comp N' scope C s H fp) tg g) (hft:∀ C s H fp,PFi (X.comp N' scope C s H fp) ifs tf) (he:∀ C s H fp,PE (X.comp N' scope C s H fp) elt te)
  (I:Inv X pins σ H s) (T:Turn X.prog X.w X.K tg J fp it tn) (t0:tn 0 s.heap) (hf:∀ b ∈ fp,FpOk X pins H b)
  (W:Nat -> Nat -> List V -> St -> Hp -> Prop) (m0:Nat) (w0:W 0 m0 [] (srcSt src σ) H)
  (hW:∀ i m ys σ' H',W i m ys σ' H' -> ys.length <= sizeLine /\ ((J.stop i H' /\ Fin ys H') \/
   (J.go i H' /\ ∃ Nx:List V -> St -> Hp -> Prop,(∀ ys2 σ2 H2,Nx ys2 σ2 H2 -> ∃ m',m' < m /\ W (i + 1) m' ys2 σ2 H2) /\
    ∀ x H2,J.yld i H' x H2 -> g x σ' H2 fun σ2 H3=>tf σ2 H3 fun b H4=>if b = true then te σ2 H4 fun y H5=>Nx (ys ++ [y]) σ2 H5 else Nx ys σ2 H4)))
  (hRR:∀ (D C:Addr) (s':Shared) (σ':St) (H':Hp) (ys:List V) (its:List Value) (n:Nat),s.heap.objs.size <= D -> s.heap.objs.size <= C -> Inv (X.comp N' scope C s H fp) [] σ' H' s' -> s'.heap.get? D = some { cls:=.type "list",data:=.seq its.toArray n } -> Vals ys its -> ys.length <= sizeLine ->
   H' D = none -> D ≠ C -> Fin ys H' -> RR (.ref D) C (.ok .next) s') :
  wpAny (model X.prog X.w) X.A (newList []) (fun acc s₃=>wpAny (model X.prog X.w) X.A (newFunctionEnv scope X.env.globals (xD X.env scope) [] X.env.qual none .none (some X.env)) (fun cenv s₄ =>
   codeAny (model X.prog X.w) X.A (.compStart (.ListComp elt [⟨tg,iter,ifs,0⟩] scope pos) 0 (.ref it) acc { cenv with scope:=relabel scope X.env }) (RR acc cenv.locals) s₄) E s₃) E s:=by
 refine wpAny_newObj_type (wpAny_newFunctionEnv O.nocell (by intro y hy; cases hy) (fun h₁ hns₁ hsb₁=>?_) O.kind)
 dsimp only at hns₁ hsb₁ ⊢
 generalize hH2:s.heap.push { cls:=.type "list",dict:=none,data:=.seq ([]:List Value).toArray } = P2 at hns₁ hsb₁ ⊢
 have hCs:P2.objs.size = s.heap.objs.size + 1:=by rw [← hH2,Heap.size_push]
 have hDC:s.heap.objs.size ≠ P2.objs.size:=by rw [hCs]; exact Nat.ne_of_lt (Nat.lt_succ_self _)
 have hCle:s.heap.objs.size <= P2.objs.size:=by rw [hCs]; exact Nat.le_succ _
 have below:∀ b,b < s.heap.objs.size -> b ≠ P2.objs.size /\ b ≠ s.heap.objs.size:=fun b hb=>⟨by rw [hCs]; exact Nat.ne_of_lt (Nat.lt_succ_of_lt hb),Nat.ne_of_lt hb⟩
 have old:∀ b o,s.heap.get? b = some o -> h₁.get? b = some o:=fun b o e=>hsb₁.extBut b o (below b (Heap.lt_size e)).1 (Heap.get?_push_of_some _ (hH2 ▸ Heap.get?_push_of_some _ e))
 have hacc:h₁.get? s.heap.objs.size = some { cls:=.type "list",data:=.seq ([]:List Value).toArray 0 }:=hsb₁.extBut _ _ hDC (Heap.get?_push_of_some _ (hH2 ▸ Heap.get?_push_size _ rfl))
 have fpo:∀ b ∈ fp,∃ o,s.heap.get? b = some o:=fun b hb=>let ⟨o,e,_⟩:=T.obj 0 _ t0 b hb; ⟨o,e⟩
 have fplt:∀ b ∈ fp,b < s.heap.objs.size:=fun b hb=>let ⟨o,e⟩:=fpo b hb; Heap.lt_size e
 generalize hD:s.heap.objs.size = D at *
 generalize hC:P2.objs.size = C at *
 have ok1:∀ tk,Inv (X.comp N' scope C s H fp) [] (srcSt src σ) H { s with heap:=h₁,toks:=tk }:=fun tk=>comp_inv O hsc hN I hf fpo (by rw [hD]; exact hCle) old hns₁
 have okX:(X.comp N' scope C s H fp).Ok:=(ok1 0).ok
 have stat:∀ {H':Hp} {pl:List (Addr × Obj)},(∀ b ∈ fp,H' b = none) -> (∀ p ∈ pl,p.1 ∉ fp) -> ∀ b ∈ fp,FpOk (X.comp N' scope C s H fp) pl H' b:=fun {H' pl} hn hp b hb =>
  ⟨hn b hb,(okX.exf b hb).1,okX.exfs b hb,.inl hb,(okX.exf b hb).2,fun p hm=>by
   have hm:p ∈ pl:=by simpa [Cx.comp] using hm
   exact fun z=>hp p hm (z ▸ hb)⟩
 have Dfs:D ∉ (X.comp N' scope C s H fp).fs:=fun hb=>by
  obtain ⟨_,o,ho,_⟩:=okX.funs.mem hb
  have ho:s.heap.get? D = some o:=ho
  have h1:=Heap.lt_size ho
  rw [hD] at h1
  exact Nat.lt_irrefl _ h1
 have Dcell:∀ x c,(X.comp N' scope C s H fp).env.cells.lookup x = some c -> c ≠ D:=fun x c e z=>by
  obtain ⟨v,o,ho,_⟩:=I.cell x c (qA e)
  have h1:=Heap.lt_size ho
  rw [hD,z] at h1
  exact Nat.lt_irrefl _ h1
 have loop:∀ tk,codeAny (model X.prog X.w) X.A (.compLoop (.ListComp elt [⟨tg,iter,ifs,0⟩] scope pos) 0 (.ref it) (.ref D) (compEnvC scope (xD X.env scope) C X.env)) (RR (.ref D) C) { s with heap:=h₁,toks:=tk }:=by
  intro tk
  refine loop_own (fun n s'=>∃ i ys σ' H' its c,Inv (X.comp N' scope C s H fp) [] σ' H' s' /\ tn i s'.heap /\ (∀ b ∈ fp,H' b = none) /\ s'.heap.get? D = some { cls:=.type "list",data:=.seq (its:List Value).toArray c } /\ Vals ys its /\ H' D = none /\ W i n ys σ' H') ?_ m0
   ⟨0,[],srcSt src σ,H,[],0,ok1 tk,T.keep 0 _ _ t0 fun b _ o e=>old b o e,fun b hb=>(hf b hb).1,hacc,.nil,I.hok.fresh (by rw [hD]; exact Nat.le_refl _),w0⟩
  rintro n s3 ⟨i,ys,σ3,H3,its,c3,I3,st3,fr3,d3,v3,nD3,w3⟩
  obtain ⟨hlen,alt⟩:=hW i n ys σ3 H3 w3
  rcases alt with ⟨stop,fin⟩ | ⟨go,Nx,hNx,step⟩
  ·have I3':Inv (X.comp N' scope C s H fp) [(D,{ cls:=.type "list",data:=.seq its.toArray c3 })] σ3 H3 s3:=I3.pins_of fun p hp=>by
    have e:p = (D,{ cls:=.type "list",data:=.seq its.toArray c3 }):=by simpa using hp
    subst e
    exact ⟨d3,nD3,hDC,Dfs,fun v z=>by cases z⟩
   refine thn (T.done (X.comp N' scope C s H fp) rfl rfl rfl hcalm i _ s3 σ3 H3 _ I3' (stat fr3 fun p hp z=>by
    have e:p = (D,{ cls:=.type "list",data:=.seq its.toArray c3 }):=by simpa using hp
    rw [e] at z
    exact Nat.lt_irrefl _ (fplt D z)) st3 stop) fun r s4 ⟨hr,I4⟩=>?_
   subst hr
   obtain ⟨d4,nD4,_⟩:=I4.pin (D,{ cls:=.type "list",data:=.seq its.toArray c3 }) (by simp [Cx.comp])
   exact hRR D C s4 σ3 H3 ys its c3 (by omega) (by omega) (I4.pins_of fun p hp=>(by cases hp)) d4 v3 hlen nD4 hDC fin
  ·have I3':Inv (X.comp N' scope C s H fp) [(D,{ cls:=.type "list",data:=.seq its.toArray c3 })] σ3 H3 s3:=I3.pins_of fun p hp=>by
    have e:p = (D,{ cls:=.type "list",data:=.seq its.toArray c3 }):=by simpa using hp
    subst e
    exact ⟨d3,nD3,hDC,Dfs,fun v z=>by cases z⟩
   have hpD:∀ p ∈ [((D,{ cls:=.type "list",data:=.seq its.toArray c3 }):Addr × Obj)],p.1 ∉ fp:=fun p hp z=>by
    have e:p = (D,{ cls:=.type "list",data:=.seq its.toArray c3 }):=by simpa using hp
    rw [e] at z
    exact Nat.lt_irrefl _ (fplt D z)
   refine thn (T.item (X.comp N' scope C s H fp) rfl rfl rfl hcalm i _ s3 σ3 H3 _ I3' (stat fr3 hpD) st3 go) fun r s4 ⟨u,hr,h4⟩=>?_
   subst hr
   refine thn h4 fun _ s5 ⟨x,H5,I5,r5,y5,st5,fr5⟩=>?_
   have I5':=I5.pinned (stat fr5 hpD) (T.obj _ _ st5)
   have pinD:(D,({ cls:=.type "list",data:=.seq its.toArray c3 }:Obj)) ∈ (X.comp N' scope C s H fp).pn ++ ([((D,{ cls:=.type "list",data:=.seq its.toArray c3 }):Addr × Obj)] ++ pinsAt fp s5.heap):=by simp [Cx.comp]
   have back:∀ {σ7:St} {H7:Hp} {s7:Shared},Inv (X.comp N' scope C s H fp) ([((D,{ cls:=.type "list",data:=.seq its.toArray c3 }):Addr × Obj)] ++ pinsAt fp s5.heap) σ7 H7 s7 ->
     tn (i + 1) s7.heap /\ ∀ b ∈ fp,H7 b = none:=fun {σ7 H7 s7} I7=>⟨T.keep _ _ _ st5 fun b hb o e=>(I7.pin (b,o) (List.mem_append_right _ (List.mem_append_right _ (xX hb e)))).1,fun b hb=>by
    obtain ⟨o,e,d⟩:=T.obj _ _ st5 b hb
    exact (I7.pin (b,o) (List.mem_append_right _ (List.mem_append_right _ (xX hb e)))).2.1⟩
   refine thn (hg C s H fp _ s5 σ3 H5 x u _ I5' r5 (step x H5 y5)) fun _ s6 ⟨σ6,H6,I6,q6⟩=>?_
   refine thn (hft C s H fp _ s6 σ6 H6 _ I6 q6) fun b s7 ⟨H7,I7,q7⟩=>?_
   cases b with
   | false =>
    obtain ⟨m',hm',w7⟩:=hNx ys σ6 H7 (by simpa using q7)
    obtain ⟨b1,b2⟩:=back I7
    obtain ⟨d7,nD7,_⟩:=I7.pin _ pinD
    exact ⟨m',hm',i + 1,ys,σ6,H7,its,c3,I7.pins_of fun p hp=>(by cases hp),b1,b2,d7,v3,nD7,w7⟩
   | true =>
    have q7:te σ6 H7 fun y H5=>Nx (ys ++ [y]) σ6 H5:=by simpa using q7
    rw [if_pos rfl]
    refine thn (he C s H fp _ s7 σ6 H7 _ I7 q7) fun u8 s8 ⟨y,H8,I8,r8,n8⟩=>?_
    obtain ⟨m',hm',w8⟩:=hNx _ _ _ n8
    obtain ⟨b1,b2⟩:=back I8
    obtain ⟨d8,nD8,_⟩:=I8.pin _ pinD
    have hl:=v3.length
    refine wpAny_list_append_plain (items:=its.toArray) ⟨c3,d8⟩ (fun h9 ⟨c9,d9⟩ sb9=>?_) (by rw [List.size_toArray,← hl]; exact hlen)
    have I8':Inv (X.comp N' scope C s H fp) [] σ6 H8 s8:=I8.pins_of fun p hp=>by cases hp
    have I9:Inv (X.comp N' scope C s H fp) [] σ6 H8 { s8 with heap:=h9 }:=I8'.turned (t':=s8.toks) (it:=D) (fun b o hb e=>(sb9.2 b hb).trans e) nD8 hDC (.inr (by show s.heap.objs.size <= D; omega)) Dcell (fun p hp=>by
     have hp:p ∈ ([]:List (Addr × Obj)):=by simpa [Cx.comp] using hp
     cases hp)
    refine ⟨m',hm',i + 1,ys ++ [y],σ6,H8,its ++ [u8],c9,I9,T.keep _ _ _ b1 fun b hb o e=>(sb9.2 b (fun z=>Nat.lt_irrefl _ (z ▸ fplt b hb))).trans e,b2,?_,v3.append (.cons r8 .nil),nD8,w8⟩
    show h9.get? D = _
    rw [d9]
    simp
 exact codeAny_compStart_list (loop _) (T.self _ 0 _ _ _ (T.keep 0 _ _ t0 fun b _ o e=>old b o e) (loop _))
theorem comp_back {pins:List (Addr × Obj)} {σ σ':St} {H H':Hp} {s s':Shared} {fp:List Addr} {C D:Addr} {ys:List V} {its:List Value} {n:Nat} (I:Inv X pins σ H s) (hf:∀ b ∈ fp,FpOk X pins H b)
  (J:Inv (X.comp N' scope C s H fp) [] σ' H' s') (hD:s.heap.objs.size <= D) (d:s'.heap.get? D = some { cls:=.type "list",data:=.seq its.toArray n }) (v:Vals ys its) (hl:ys.length <= sizeLine) (nD:H' D = none) :
  Inv X pins σ (upd H' D (.lst ys)) s':=by
 have u:Un (frs X.stack) fp H H' s.heap s'.heap:=J.base
 refine I.call' (ch:=fp) J.os (u.adopt (Heap.get?_none_of_le hD) (I.hok.fresh hD)) (J.hok.adopt nD ⟨hl,its,n,v,d⟩) J.bare fun b hb=>?_
 obtain ⟨_,f1,_,f3,f4,f5⟩:=hf b hb
 exact ⟨f3,f1,f4,f5⟩
theorem comp_gone {pins:List (Addr × Obj)} {σ σ2:St} {H H2:Hp} {s s2:Shared} {C:Addr} {h':Heap} (I:Inv X pins σ H s) (I2:Inv X pins σ2 H2 s2) (hC:s.heap.objs.size <= C) (nC:H2 C = none) (sb:Heap.SameBut C s2.heap h'):Inv X pins σ2 H2 { s2 with heap:=h' }:=by
 obtain ⟨_,f1,_,f3,f4,f5⟩:=I.fpOk (H':=H2) hC nC
 exact I2.turned (t':=s2.toks) (it:=C) (fun b o hb e=>(sb.2 b hb).trans e) nC f1 f3 f4 f5
theorem qU (O:CompOk sc N N' src scope) (hsc:X.env.scope = sc) (hN:X.N = N) (hcalm:X.calm = true) (hi:PI X tg iter wi)
  (hg:∀ C s H fp,PG (X.comp N' scope C s H fp) tg g) (hft:∀ C s H fp,PFi (X.comp N' scope C s H fp) ifs tf) (he:∀ C s H fp,PE (X.comp N' scope C s H fp) elt te)
  (hs:∀ x,foldedSetIterable iter X.env x = pure x:=by intro _; rfl):PE X (.ListComp elt [⟨tg,iter,ifs,0⟩] scope pos) (tComp src wi g tf te):=by
 intro pins s σ H Q I h
 rw [eval_ListComp]
 have hclos:closureFor scope X.env = pure (xD X.env scope):=qG fun x hx hk=>I.ok.has x.1 (by
  have:=O.free x hx hk
  rw [← hsc] at this
  exact this)
 refine wpAny_comprehension_free (use:=none) rfl hs hclos O.kind O.names (thn (hi pins s σ H _ I h) fun v s1 h1=>thn h1 fun itv s2 h2=>?_)
 obtain ⟨it,fp,tn,J,H2,e,I2,T,st2,f2,W,⟨m0,w0⟩,turn⟩:=h2
 subst e
 refine comp_block (RR:=fun acc C=>compPost (model X.prog X.w) X.A X.xe none (EP X pins σ Q) acc C) (Fin:=fun ys H'=>∀ p,H' p = none -> Q (.ref p) (upd H' p (.lst ys))) O hsc hN hcalm hg hft he I2 T st2 f2 W m0 w0 turn ?_
 intro D C s' σ' H' ys its n hD hC Jv d vv hl nD hDC fin
 have I3:=comp_back I2 f2 Jv hD d vv hl nD
 obtain ⟨m,hm,_⟩:=Jv.loc
 have nC:H' C = none:=Jv.free
 refine ⟨m,hm,fun h' sb=>⟨.ref D,_,comp_gone I2 I3 hC (by rw [zD (Ne.symm hDC)]; exact nC) sb,rfl,fin D nD⟩⟩
theorem jJ {k:Nat} {y:Str} {py spos:Pos} (O:CompOk sc N N' src scope) (hsc:X.env.scope = sc) (hN:X.N = N) (hcalm:X.calm = true) (hi:PI X tg iter wi)
  (hg:∀ C s H fp,PG (X.comp N' scope C s H fp) tg g) (hft:∀ C s H fp,PFi (X.comp N' scope C s H fp) ifs tf) (he:∀ C s H fp,PE (X.comp N' scope C s H fp) elt te)
  (nd:X.N.Nodup) (hk:X.N[k]? = some y) (hx:Loc X.env.scope y)
  (hsw:swapsWith (.ListComp elt [⟨tg,iter,ifs,0⟩] scope pos) (some (.Name y py)) spos.line X.env = pure true:=by rfl)
  (hf:X.fn y = true \/ X.env.scope.names.lookup y = some .local:=by first | exact .inl rfl | exact .inr rfl | assumption)
  (hs:∀ x,foldedSetIterable iter X.env x = pure x:=by intro _; rfl):PS X (.Assign [.Name y py] (.ListComp elt [⟨tg,iter,ifs,0⟩] scope pos) spos) (tAsg (tComp src wi g tf te) (gName k)):=by
 intro pins s σ H D₀ I h
 rw [exec_Assign_Name_used _ _ _ _ hsw]
 refine wpAny_bind (wpAny_standAt (wpAny_bind ?_))
 show wpAny _ X.A (do let _ ← comprehension (.ListComp elt [⟨tg,iter,ifs,0⟩] scope pos) scope X.env _ (newList []) false (eval iter X.env) (some (assign (.Name y py) X.env))) _ _ s
 have hclos:closureFor scope X.env = pure (xD X.env scope):=qG fun x hx hk=>I.ok.has x.1 (by
  have:=O.free x hx hk
  rw [← hsc] at this
  exact this)
 refine wpAny_bind (wpAny_mono (wpAny_comprehension_free (use:=some (assign (.Name y py) X.env)) (Q:=fun _ s'=>SP X pins D₀ .next s') rfl hs hclos O.kind O.names (thn (hi pins s σ H _ I h) fun v s1 h1=>thn h1 fun itv s2 h2=>?_))
  (fun _ s' hq=>wpAny_pure (wpAny_pure hq)) fun _ _ e=>e)
 obtain ⟨it,fp,tn,J,H2,e,I2,T,st2,f2,W,⟨m0,w0⟩,turn⟩:=h2
 subst e
 refine comp_block (RR:=fun acc C=>compPost (model X.prog X.w) X.A X.xe (some (assign (.Name y py) X.env)) (fun _ s'=>SP X pins D₀ .next s') acc C) (Fin:=fun ys H'=>∀ p,H' p = none -> gName k (.ref p) σ (upd H' p (.lst ys)) D₀.nx) O hsc hN hcalm hg hft he I2 T st2 f2 W m0 w0 turn ?_
 intro D C s' σ' H' ys its n hD hC Jv d vv hl nD hDC fin
 have I3:=comp_back I2 f2 Jv hD d vv hl nD
 obtain ⟨m,hm,_⟩:=Jv.loc
 have nC:H' C = none:=Jv.free
 show wpAny _ X.A (assign (.Name y py) X.env (.ref D)) _ _ s'
 refine wpAny_assign_Name (store_ok2 I3 nd hk hx (v:=.ref D) rfl (fun s4 I4 ⟨a,sa,ha⟩=>?_) hf)
 have aC:C ≠ a:=by
  rcases ha with e | e
  ·rw [e]
   intro z
   exact Nat.lt_irrefl _ (Nat.lt_of_lt_of_le I2.lt (z ▸ hC))
  ·intro z
   obtain ⟨v,o,ho,_⟩:=I2.cell y a e
   exact Nat.lt_irrefl _ (Nat.lt_of_lt_of_le (Heap.lt_size ho) (z ▸ hC))
 refine ⟨m,Heap.Ns.sameBut hm sa aC,fun h' sb=>⟨_,_,comp_gone I2 I4 hC (by rw [zD (Ne.symm hDC)]; exact nC) sb,fin D nD⟩⟩
end
def tCut (t u:TS):TS:=fun D σ H=>∃ R:St -> Hp -> Prop,t { D with nx:=R } σ H /\ ∀ σ' H',R σ' H' -> u D σ' H'
theorem pss_cut {X:Cx} {st:Stmt} {rest:List Stmt} {t u:TS} (h1:PS X st t) (h2:PSs X rest u):PSs X (st :: rest) (tCut t u):=by
 intro pins s σ H D I ⟨R,h,hu⟩
 refine wpAny_execs_cons (thn (h1 pins s σ H { D with nx:=R } I h) fun f s1 q=>?_)
 cases f with
 | next =>
  obtain ⟨σ',H',I',q⟩:=q
  exact h2 pins s1 σ' H' D I' (hu σ' H' q)
 | ret v=>exact q
 | brk=>exact q
 | cont=>exact q
section
variable {K:PySem.W.Frag} {src:List (Option Nat)} {g:TG} {tf:TT} {te:TE} {Q:VK} {a:Addr} {xs:List V} {σ:St} {H:Hp}
theorem comp_n {J:It} (n:Nat) (Pv:Nat -> List V -> St -> Hp -> Prop) (h0:Pv 0 [] (srcSt src σ) H) (hz:n <= sizeLine) (hl:∀ i ys σ H,i <= n -> Pv i ys σ H -> ys.length <= i)
  (hst:∀ ys σ H,Pv n ys σ H -> J.stop n H) (hgo:∀ i ys σ H,i < n -> Pv i ys σ H -> J.go i H)
  (hs:∀ i ys σ H,i < n -> Pv i ys σ H -> ∀ x H2,J.yld i H x H2 -> g x σ H2 fun σ2 H3=>tf σ2 H3 fun b H4=>if b = true then te σ2 H4 fun y H5=>Pv (i + 1) (ys ++ [y]) σ2 H5 else Pv (i + 1) ys σ2 H4)
  (hd:∀ ys σ H,Pv n ys σ H -> ∀ p,H p = none -> Q (.ref p) (upd H p (.lst ys))):CompW src J g tf te Q σ H:=by
 refine ⟨fun i m ys σ H=>m = n - i /\ i <= n /\ Pv i ys σ H,⟨n,by simp,Nat.zero_le _,h0⟩,?_⟩
 rintro i m ys σ' H' ⟨rfl,hi,p⟩
 have hy:=hl i ys σ' H' hi p
 refine ⟨by omega,?_⟩
 by_cases hlt:i < n
 ·exact .inr ⟨hgo i ys σ' H' hlt p,Pv (i + 1),fun ys2 σ2 H2 z=>⟨n - (i + 1),by omega,rfl,hlt,z⟩,fun x H2 y=>hs i ys σ' H' hlt p x H2 y⟩
 ·have e:i = n:=by omega
  subst e
  exact .inl ⟨hst ys σ' H' p,hd ys σ' H' p⟩
theorem comp_list (Pv:Nat -> List V -> St -> Hp -> Prop) (h0:Pv 0 [] (srcSt src σ) H) (hz:xs.length <= sizeLine) (hl:∀ i ys σ H,i <= xs.length -> Pv i ys σ H -> SqL K H a xs /\ ys.length <= i)
  (hs:∀ i x ys σ H,xs[i]? = some x -> Pv i ys σ H -> g x σ H fun σ2 H3=>tf σ2 H3 fun b H4=>if b = true then te σ2 H4 fun y H5=>Pv (i + 1) (ys ++ [y]) σ2 H5 else Pv (i + 1) ys σ2 H4)
  (hd:∀ ys σ H,Pv xs.length ys σ H -> ∀ p,H p = none -> Q (.ref p) (upd H p (.lst ys))):CompW src (Itl K a) g tf te Q σ H :=
 comp_n xs.length Pv h0 hz (fun i ys σ H hi p=>(hl i ys σ H hi p).2) (fun ys σ H p=>⟨xs,(hl _ ys σ H (Nat.le_refl _) p).1,Nat.le_refl _⟩) (fun i ys σ H hi p=>⟨xs,xs[i],(hl i ys σ H (Nat.le_of_lt hi) p).1,by simp [hi]⟩)
  (fun i ys σ H hi p x H2 y=>by
   obtain ⟨e,y⟩:=y
   subst e
   exact hs i x ys σ _ (y xs (hl i ys σ _ (Nat.le_of_lt hi) p).1) p) hd
theorem comp_range {lo:Int} {n:Nat} (Pv:Nat -> List V -> St -> Hp -> Prop) (h0:Pv 0 [] (srcSt src σ) H) (hz:n <= sizeLine) (hl:∀ i ys σ H,i <= n -> Pv i ys σ H -> ys.length <= i)
  (hs:∀ i ys σ H,i < n -> Pv i ys σ H -> g (.int (lo + i)) σ H fun σ2 H3=>tf σ2 H3 fun b H4=>if b = true then te σ2 H4 fun y H5=>Pv (i + 1) (ys ++ [y]) σ2 H5 else Pv (i + 1) ys σ2 H4)
  (hd:∀ ys σ H,Pv n ys σ H -> ∀ p,H p = none -> Q (.ref p) (upd H p (.lst ys))):CompW src (Itr lo n) g tf te Q σ H :=
 comp_n n Pv h0 hz hl (fun _ _ _ _=>Nat.le_refl _) (fun _ _ _ _ hi _=>hi)
  (fun i ys σ H hi p x H2 y=>by
   obtain ⟨e,y⟩:=y
   subst e y
   exact hs i ys σ _ hi p) hd
theorem noTest {te:TE} {A:V -> St -> Hp -> Prop} {B:St -> Hp -> Prop}:(fun σ2 H3=>tfNil σ2 H3 fun b H4=>if b = true then te σ2 H4 (fun y H5=>A y σ2 H5) else B σ2 H4) = fun (σ2:St) (H3:Hp)=>te σ2 H3 fun y H5=>A y σ2 H5:=by
 funext σ2 H3
 show (if true = true then (te σ2 H3 fun y H5=>A y σ2 H5) else B σ2 H3) = _
 rw [if_pos rfl]
theorem yQ (Pv:Nat -> List V -> St -> Hp -> Prop) (h0:Pv 0 [] (srcSt src σ) H) (hz:xs.length <= sizeLine) (hl:∀ i ys σ H,i <= xs.length -> Pv i ys σ H -> SqL K H a xs /\ ys.length <= i)
  (hs:∀ i x ys σ H,xs[i]? = some x -> Pv i ys σ H -> g x σ H fun σ2 H3=>te σ2 H3 fun y H5=>Pv (i + 1) (ys ++ [y]) σ2 H5)
  (hd:∀ ys σ H,Pv xs.length ys σ H -> ∀ p,H p = none -> Q (.ref p) (upd H p (.lst ys))):CompW src (Itl K a) g tfNil te Q σ H :=
 comp_list Pv h0 hz hl (fun i x ys σ H e p=>by rw [noTest]; exact hs i x ys σ H e p) hd
theorem qB {lo:Int} {n:Nat} (Pv:Nat -> List V -> St -> Hp -> Prop) (h0:Pv 0 [] (srcSt src σ) H) (hz:n <= sizeLine) (hl:∀ i ys σ H,i <= n -> Pv i ys σ H -> ys.length <= i)
  (hs:∀ i ys σ H,i < n -> Pv i ys σ H -> g (.int (lo + i)) σ H fun σ2 H3=>te σ2 H3 fun y H5=>Pv (i + 1) (ys ++ [y]) σ2 H5)
  (hd:∀ ys σ H,Pv n ys σ H -> ∀ p,H p = none -> Q (.ref p) (upd H p (.lst ys))):CompW src (Itr lo n) g tfNil te Q σ H :=
 comp_range Pv h0 hz hl (fun i ys σ H e p=>by rw [noTest]; exact hs i ys σ H e p) hd
end
end L2
namespace L2
open PySem PySem.Spec PyProof.Rows
mutual
def Dt (K:PySem.W.Frag) (H:Hp):PyData -> V -> Prop
 | .none,v=>v = .non
 | .bool b,v=>v = .bl b
 | .int i,v=>v = .int i
 | .str x,v=>v = .str x
 | .list ds,v=>∃ a xs,v = .ref a /\ SqL K H a xs /\ DtAll K H ds xs
 | .tuple ds,v=>∃ a xs,v = .ref a /\ SqT K H a xs /\ DtAll K H ds xs
 | .dict _,_=>False
def DtAll (K:PySem.W.Frag) (H:Hp):List PyData -> List V -> Prop
 | [],xs=>xs = []
 | d :: ds,xs=>∃ x r,xs = x :: r /\ Dt K H d x /\ DtAll K H ds r
end
theorem Same.tupS {K:PySem.W.Frag} {H H':Hp} {a:Addr} {xs:List V} (e:Same H H') (h:SqT K H a xs):SqT K H' a xs:=by
 rcases h with (h | ⟨o,h⟩) | h
 ·exact .inl (.inl (e _ _ h))
 ·exact .inl (.inr ⟨o,e _ _ h⟩)
 ·exact .inr h
mutual
theorem Dt.same {K:PySem.W.Frag} {H H':Hp} (e:Same H H'):∀ (d:PyData) (v:V),Dt K H d v -> Dt K H' d v
 | .none,_,h=>h
 | .bool _,_,h=>h
 | .int _,_,h=>h
 | .str _,_,h=>h
 | .list ds,_,⟨a,xs,h1,h2,h3⟩=>⟨a,xs,h1,e.seq h2,DtAll.same e ds xs h3⟩
 | .tuple ds,_,⟨a,xs,h1,h2,h3⟩=>⟨a,xs,h1,e.tupS h2,DtAll.same e ds xs h3⟩
 | .dict _,_,h=>h
theorem DtAll.same {K:PySem.W.Frag} {H H':Hp} (e:Same H H'):∀ (ds:List PyData) (xs:List V),DtAll K H ds xs -> DtAll K H' ds xs
 | [],_,h=>h
 | d :: ds,_,⟨x,r,h1,h2,h3⟩=>⟨x,r,h1,Dt.same e d x h2,DtAll.same e ds r h3⟩
end
theorem DtAll.length {K:PySem.W.Frag} {H:Hp}:∀ {ds:List PyData} {xs:List V},DtAll K H ds xs -> xs.length = ds.length
 | [],_,h=>by cases (show _ = [] from h); rfl
 | d :: ds,_,⟨x,r,h1,h2,h3⟩=>by rw [h1,List.length_cons,List.length_cons,DtAll.length h3]
theorem DtAll.append {K:PySem.W.Frag} {H:Hp}:∀ {ds es:List PyData} {xs ys:List V},DtAll K H ds xs -> DtAll K H es ys -> DtAll K H (ds ++ es) (xs ++ ys)
 | [],_,_,_,h,h'=>by cases (show _ = [] from h); exact h'
 | d :: ds,_,_,_,⟨x,r,h1,h2,h3⟩,h'=>⟨x,r ++ _,by rw [h1]; rfl,h2,DtAll.append h3 h'⟩
theorem DtAll.get {K:PySem.W.Frag} {H:Hp}:∀ {ds:List PyData} {xs:List V} {i:Nat} {x:V},DtAll K H ds xs -> xs[i]? = some x -> ∃ d,ds[i]? = some d /\ Dt K H d x
 | [],_,_,_,h,e=>by cases (show _ = [] from h); simp at e
 | d :: ds,_,0,_,⟨x,r,h1,h2,h3⟩,e=>by rw [h1] at e; simp at e; subst e; exact ⟨d,rfl,h2⟩
 | d :: ds,_,i + 1,_,⟨x,r,h1,h2,h3⟩,e=>by
  rw [h1] at e
  obtain ⟨d',e1,e2⟩:=DtAll.get (i:=i) h3 (by simpa using e)
  exact ⟨d',by simpa using e1,e2⟩
theorem DtAll.strs {K:PySem.W.Frag} {H:Hp}:∀ (ls:List Str),DtAll K H (ls.map PyData.str) (ls.map V.str)
 | []=>rfl
 | x :: ls=>⟨.str x,ls.map V.str,rfl,rfl,DtAll.strs ls⟩
theorem DtAll.strs_of {K:PySem.W.Frag} {H:Hp}:∀ {ls:List Str} {xs:List V},DtAll K H (ls.map PyData.str) xs -> xs = ls.map V.str
 | [],_,h=>h
 | x :: ls,_,⟨v,r,h1,h2,h3⟩=>by
  have h2:v = V.str x:=h2
  rw [h1,h2,DtAll.strs_of h3]; rfl
section
variable {X:Cx} {pins:List (Addr × Obj)} {σ:St} {H:Hp} {s:Shared}
mutual
theorem Dt.reads (I:Inv X pins σ H s):∀ (d:PyData) (v:V) (u:Value),Dt X.K H d v -> RelV v u -> ∃ as,Reads s.heap u d as
 | .none,_,u,h,r=>by
  cases (show _ = V.non from h); cases (show u = Value.none from r); exact ⟨_,.none⟩
 | .bool b,_,u,h,r=>by
  cases (show _ = V.bl b from h); cases (show u = Value.bool b from r); exact ⟨_,.bool b⟩
 | .int i,_,u,h,r=>by
  cases (show _ = V.int i from h); obtain ⟨t,e⟩:=(show ∃ t,u = Value.int i t from r); cases e; exact ⟨_,.int i t⟩
 | .str x,_,u,h,r=>by
  cases (show _ = V.str x from h); obtain ⟨t,e⟩:=(show ∃ t,u = Value.str x t from r); cases e; exact ⟨_,.str x t⟩
 | .list ds,_,u,⟨a,xs,h1,h2,h3⟩,r=>by
  subst h1
  cases (show u = Value.ref a from r)
  obtain ⟨its,rv,⟨o,n,e,c,_,d⟩,_⟩:=I.list h2
  obtain ⟨as,q⟩:=DtAll.reads I ds xs its h3 rv
  exact ⟨_,.list e c d (by simpa using q)⟩
 | .tuple ds,_,u,⟨a,xs,h1,h2,h3⟩,r=>by
  subst h1
  cases (show u = Value.ref a from r)
  obtain ⟨its,rv,⟨o,e,c,n,d⟩,_⟩:=I.tuple h2
  obtain ⟨as,q⟩:=DtAll.reads I ds xs its h3 rv
  exact ⟨_,.tuple e c d (by simpa using q)⟩
 | .dict _,_,_,h,_=>False.elim h
theorem DtAll.reads (I:Inv X pins σ H s):∀ (ds:List PyData) (xs:List V) (us:List Value),DtAll X.K H ds xs -> Vals xs us -> ∃ as,ReadsAll s.heap us ds as
 | [],_,us,h,r=>by
  cases (show _ = [] from h)
  cases r
  exact ⟨_,.nil⟩
 | d :: ds,_,us,⟨x,rr,h1,h2,h3⟩,r=>by
  subst h1
  cases r with
  | cons r1 r2 =>
   obtain ⟨as,q1⟩:=Dt.reads I d x _ h2 r1
   obtain ⟨bs,q2⟩:=DtAll.reads I ds rr _ h3 r2
   exact ⟨_,.cons q1 q2⟩
end
end
section
variable {X:Cx}
def rEqD (K:PySem.W.Frag):R2:=fun x y H Q=>∃ d e,Dt K H d x /\ Dt K H e y /\ SeqAt.shaped d = true /\ SeqAt.shaped e = true /\ Q (.bl (PyData.eqv d e)) H
theorem op_eqD (hu:X.A.units + 64 < cLine):OpR X (compareOp .Eq) (rEqD X.K):=by
 intro pins s σ H x y v u Q I rx ry h
 obtain ⟨d,e,h1,h2,h3,h4,q⟩:=h
 obtain ⟨as,r1⟩:=Dt.reads I d x v h1 rx
 obtain ⟨bs,r2⟩:=Dt.reads I e y u h2 ry
 exact SeqAt.compareEq_shaped r1 r2 h3 h4 hu ⟨.bl _,H,I,rfl,q⟩
theorem qP:∀ {ys:List Str} {us:List Value},Vals (ys.map V.str) us -> StrsAre us ys
 | [],us,r=>by rw [List.map_nil] at r; cases r; exact .nil
 | y :: ys,us,r=>by
  rw [List.map_cons] at r
  cases r with
  | cons r1 r2 =>
   obtain ⟨t,e⟩:=r1
   subst e
   exact .cons y t (qP r2)
theorem vals_strs:∀ {us:List Value} {ys:List Str},StrsAre us ys -> Vals (ys.map V.str) us
 | _,_,.nil=>.nil
 | _,_,.cons y t r=>.cons ⟨t,rfl⟩ (vals_strs r)
def rJoin (K:PySem.W.Frag):V -> List V -> Hp -> VK -> Prop:=fun x vs H Q=>∃ sep p ys,x = .str sep /\ vs = [.ref p] /\ (SqL K H p (ys.map V.str) \/ SqT K H p (ys.map V.str)) /\ (ys.map (·.length)).sum + ys.length * sep.length <= 16777216 /\ Q (.str (Txt.join sep ys)) H
theorem mt_join:MtR X "str.join" (rJoin X.K):=by
 intro pins s σ H x xs v us Q I rx rs h
 obtain ⟨sep,p,ys,rfl,rfl,hq,hz,q⟩:=h
 obtain ⟨t,rfl⟩:=rx
 obtain ⟨u,rfl,ru⟩:=vals1 rs
 cases ru
 rcases hq with hq | hq
 ·obtain ⟨its,r,pl,_⟩:=I.list hq
  exact join_list pl.isList (by simpa using qP r) hz fun t' k=>⟨.str _,H,I.tok _,⟨_,rfl⟩,q⟩
 ·obtain ⟨its,r,pl,_⟩:=I.tuple hq
  exact join_tuple pl (by simpa using qP r) hz fun t' k=>⟨.str _,H,I.tok _,⟨_,rfl⟩,q⟩
theorem isPart_some {vl:Value} {lo:Option Int} (h:IsPart vl lo):∃ o:Option (Int × Tok),vl = partValue o /\ lo = o.map (·.1):=by
 cases h with
 | none=>exact ⟨none,rfl,rfl⟩
 | int i t=>exact ⟨some (i,t),rfl,rfl⟩
def rSlS:V -> Option Int -> Option Int -> Hp -> VK -> Prop:=fun x lo hi H Q=>∃ z,x = .str z /\ z.length <= sizeLine /\ Q (.str (Txt.slice z lo hi)) H
theorem sl_str:SlR X rSlS:=by
 intro pins s σ H x v vl vu lo hi sl Q I rx hs pl pu h
 obtain ⟨z,rfl,hz,q⟩:=h
 obtain ⟨t,rfl⟩:=rx
 obtain ⟨ol,rfl,rfl⟩:=isPart_some pl
 obtain ⟨ou,rfl,rfl⟩:=isPart_some pu
 refine ⟨"str",_,F.slot_str_getitem.lookup,typeIs_str _ _ _,wpAny_getItem_str_slice (l:=ol) (u:=ou) (st:=none) ?_ rfl (post_val_or_str ⟨Nat.le_trans (Txt.slice_le z _ _) hz,fun t' k=>⟨.str _,H,I.tok _,⟨_,rfl⟩,q⟩⟩)⟩
 exact hs
end
section
variable {X:Cx} {pins:List (Addr × Obj)} {σ:St} {H:Hp} {s:Shared} {h':Heap}
theorem Inv.turnedAll {t':Nat} {ch:List Addr} (I:Inv X pins σ H s) (hf:∀ b ∈ ch,FpOk X pins H b) (k:∀ b o,b ∉ ch -> s.heap.get? b = some o -> h'.get? b = some o) (th:∀ b ∈ ch,∃ o,h'.get? b = some o):Inv X pins σ H { s with heap:=h',toks:=t' }:=by
 have nch:∀ b u,H b = some u -> b ∉ ch:=fun b u e z=>by rw [(hf b z).1] at e; cases e
 refine I.step (g':=s.gens) (d':=s.drawn) (ch:=ch) (fun b hb=>?_) (fun b o _ _ hc e _=>k b o hc e) (fun b o _ _ hc e _=>⟨o.slots,k b o hc e⟩) (fun _ _ _ _ n=>n)
  (fun b o hc e=>⟨o,k b o hc e⟩) (fun _ _ e=>e) (fun _ _ _ e=>e) (fun b ps e=>⟨#[],by rw [e]; simp⟩) (fun m hm=>?_) (fun b u e=>?_) I.bare
 ·obtain ⟨_,f1,_,f3,f4,f5⟩:=hf b hb
  exact ⟨f3,f1,f4,f5⟩
 ·obtain ⟨o,es,ep,ho,r⟩:=hm
  exact ⟨o,es,ep,k _ o (fun z=>(hf _ z).2.1 rfl) ho,r⟩
 ·refine (I.hok b u e).stay (fun c v hc q=>k c v ?_ q) (fun _ q=>q) fun _ _ q=>q
  rcases hc with z | z
  ·rw [z]; exact nch b u e
  ·exact nch c _ z
theorem Un.adopt2 {fs ex:List Addr} {H H1:Hp} {h h1:Heap} {D:Addr} {o:HO} (u:Un fs ex H H1 h h1) (hD:h.get? D = none) (hH:H1 D = none):Un fs ex H (upd H1 D o) h h1 where
 keep:=u.keep
 slot:=u.slot
 free:=fun b ob q n hx=>by
  have hb:b ≠ D:=fun z=>by rw [z,hD] at q; cases q
  rw [zD hb]; exact u.free b ob q n hx
 there:=u.there
 tups:=fun b xs q=>by rw [zD (zI (u.tups b xs q) hH)]; exact u.tups b xs q
 frzs:=fun b ob xs q=>by rw [zD (zI (u.frzs b ob xs q) hH)]; exact u.frzs b ob xs q
 tbls:=fun b ps q=>by
  obtain ⟨m,e⟩:=u.tbls b ps q
  exact ⟨m,by rw [zD (zI e hH)]; exact e⟩
theorem Inv.takeUp {T:Addr} {o:HO} (I:Inv X pins σ H s) (n:H T = none) (h0:X.s₀.heap.objs.size <= T) (hL:T ≠ X.env.locals) (hc:∀ x c,X.env.cells.lookup x = some c -> c ≠ T) (hp:∀ p ∈ X.pn ++ pins,p.1 ≠ T)
  (new:ObjOk X.prog X.w (upd H T o) s.heap T o):Inv X pins σ (upd H T o) s:=by
 refine ⟨I.ok,I.os,I.bare,I.base.adopt2 (Heap.get?_none_of_le h0) n,I.loc,I.cell,?_,fun x c e=>?_,fun p hpp=>?_,I.hok.adopt n new,I.len⟩
 ·rw [zD (Ne.symm hL)]; exact I.free
 ·rw [zD (hc x c e)]; exact I.freeC x c e
 ·obtain ⟨e,n',ne,nf,d⟩:=I.pin p hpp
  exact ⟨e,by rw [zD (hp p hpp)]; exact n',ne,nf,d⟩
end
section
variable {X:Cx} {tg:Expr}
end
abbrev ForW (J:It) (g:TG) (tb:TS) (D:Ends) (σ:St) (H:Hp):Prop :=
 ∃ W:Nat -> Nat -> St -> Hp -> Prop,(∃ m,W 0 m σ H) /\ ∀ i m σ H,W i m σ H ->
  (J.stop i H /\ D.nx σ H) \/ (J.go i H /\ ∃ N:St -> Hp -> Prop,(∀ σ' H',N σ' H' -> ∃ m',m' < m /\ W (i + 1) m' σ' H') /\ ∀ x H',J.yld i H x H' -> g x σ H' fun σ2 H2=>tb { D with nx:=N,ct:=N,bk:=D.nx } σ2 H2)
theorem for_n {J:It} {g:TG} {tb:TS} {D:Ends} {σ:St} {H:Hp} (n:Nat) (Pv:Nat -> St -> Hp -> Prop) (h0:Pv 0 σ H) (hst:∀ σ H,Pv n σ H -> J.stop n H) (hgo:∀ i σ H,i < n -> Pv i σ H -> J.go i H)
  (hs:∀ i σ H,i < n -> Pv i σ H -> ∀ x H',J.yld i H x H' -> g x σ H' fun σ2 H2=>tb { D with nx:=Pv (i + 1),ct:=Pv (i + 1),bk:=D.nx } σ2 H2) (hd:∀ σ H,Pv n σ H -> D.nx σ H):ForW J g tb D σ H:=by
 refine ⟨fun i m σ H=>m = n - i /\ i <= n /\ Pv i σ H,⟨n,by simp,Nat.zero_le _,h0⟩,?_⟩
 rintro i m σ H ⟨rfl,hi,p⟩
 by_cases hlt:i < n
 ·exact .inr ⟨hgo i σ H hlt p,Pv (i + 1),fun σ' H' p'=>⟨n - (i + 1),by omega,rfl,hlt,p'⟩,fun x H' y=>hs i σ H hlt p x H' y⟩
 ·have e:i = n:=by omega
  subst e
  exact .inl ⟨hst σ H p,hd σ H p⟩
end L2
namespace L2
open PySem PySem.Spec PyProof.Rows
section
variable {X:Cx} {elts:List Expr} {x1:Nat} {tpos:Pos}
def rSlT2 (K:PySem.W.Frag):V -> Option Int -> Option Int -> Hp -> VK -> Prop:=fun x lo hi H Q=>∃ a xs,x = .ref a /\ SqT K H a xs /\ ∀ v H',(v = .ref a /\ H' = H /\ cutV xs lo hi = xs) \/ (∃ p,H p = none /\ v = .ref p /\ H' = upd H p (.tup (cutV xs lo hi))) -> Q v H'
end
namespace AxT
variable {prog:Program} {w:World} {A:Around} {E:Value -> Shared -> Prop} {s:Shared}
open HT
theorem getItem_tuple_whole {t sl:Addr} {items:Array Value} {vl vu:Value} {lo hi:Option Int} {Q:Value -> Shared -> Prop} (ht:IsTup s.heap t items) (hs:s.heap.IsSliceOf sl vl vu .none) (pl:IsPart vl lo) (pu:IsPart vu hi)
  (hw:sIx items.size 0 lo = 0 /\ sIx items.size items.size hi = items.size) (h:Q (.ref t) s):wpAny (model prog w) A (getItem (.ref t) (.ref sl)) Q E s:=by
 obtain ⟨os,hos,hcs,hds⟩:=id hs
 have hTs:s.TypeIs (.ref sl) "slice":=⟨os,hos,hcs⟩
 unfold getItem
 try with_reducible refine wpAny_holding ?_
 first | refine wpAny_bind (wpAny_pure ?_) | skip
 refine wpAny_bind (wpAny_sequenceKey ht.typeIs (by decide) ?_)
 refine wpAny_bind (wpAny_callSpecial?_slot (name:=Str.ofString "__getitem__") ht.typeIs PyProof.Rows.slot_tuple_getitem
  (wpAny_call_entry PyProof.Rows.slot_tuple_getitem ht.typeIs entry_tuple_getitem ?_ (args_tuple_getitem _ _)))
 show wpAny _ _ (Builtin.Tuple.tupleItemsOf (.ref t) >>= _) _ _ s
 refine wpAny_bind (tupleItemsOf_ ht ?_)
 refine wpAny_bind (wpAny_typeOf hTs ?_)
 rw [if_pos (by decide)]
 refine wpAny_bind (xP hs pl pu ?_)
 have hyes:(((sIx items.size 0 lo:Nat):Int) == 0 && (1:Int) == 1 && (sIx items.size items.size hi - sIx items.size 0 lo) == items.size) = true:=by
  rw [hw.1,hw.2]
  simp
 show wpAny _ _ (if (((sIx items.size 0 lo:Nat):Int) == 0 && (1:Int) == 1 && (sIx items.size items.size hi - sIx items.size 0 lo) == items.size) = true then _ else _) _ _ s
 rw [if_pos hyes]
 obtain ⟨o,ho,hc,n,hd⟩:=id ht
 refine wpAny_bind (m:=Builtin.Tuple.tupleIsExact _) ?_
 unfold Builtin.Tuple.tupleIsExact
 refine wpAny_bind (wpAny_typeOf ht.typeIs (wpAny_pure ?_))
 rw [if_pos (by decide)]
 exact wpAny_bind (wpAny_rule (wpAny_pure ⟨_,rfl,wpAny_pure h⟩))
end AxT
section
variable {X:Cx}
theorem sl_tup2:SlR X (rSlT2 X.K):=by
 intro pins s σ H x v vl vu lo hi sl Q I rx hs pl pu h
 obtain ⟨a,xs,rfl,hx,q⟩:=h
 cases rx
 obtain ⟨its,r,ht,hz⟩:=I.tuple hx
 have hlen:its.toArray.size = xs.length:=by rw [List.size_toArray]; exact r.length.symm
 refine ⟨"tuple",_,PyProof.Rows.slot_tuple_getitem.lookup,ht.typeIs,?_⟩
 by_cases hw:HT.sIx its.toArray.size 0 lo = 0 /\ HT.sIx its.toArray.size its.toArray.size hi = its.toArray.size
 ·refine AxT.getItem_tuple_whole ht hs pl pu hw ⟨.ref a,H,I,rfl,q _ _ (.inl ⟨rfl,rfl,?_⟩)⟩
  rw [hlen] at hw
  unfold cutV
  rw [hw.1,hw.2]
  simp
 ·refine HT.getItem_tuple_cut ht hs pl pu hw ?_ (by rw [hlen]; exact hz)
  rw [hlen]
  refine ⟨.ref s.heap.objs.size,_,I.laid (t':=s.toks) (o:=.tup (cutV xs lo hi)) (fun b ob q=>Heap.get?_push_of_some _ q) (Nat.le_refl _) ?_,rfl,q _ _ (.inr ⟨_,I.hok.fresh (Nat.le_refl _),rfl,rfl⟩)⟩
  exact ⟨Nat.le_trans (cutV_length xs lo hi) hz,_,(r.drop (HT.sIx xs.length 0 lo)).take (HT.sIx xs.length xs.length hi - HT.sIx xs.length 0 lo),IsTup.new _ _⟩
structure Cal (P:Program) (w:World) (K:PySem.W.Frag) (mg:Str -> Option Value) (base:Heap) (k:Nat) (x:Str) (ps:List Str) (sp:Sp):Prop where
 ex:∃ (f:Addr) (fd:FuncData),FnOk P w K mg base CX0 k f fd ps sp /\ mg x = some (.ref f) /\ PySem.W.keepIn K (.ref f) = true /\ Binds K fd ps []
theorem zK {k:Nat} {x:Str} {ps:List Str} {sp:Sp} {e:Expr} {es:List Expr} {t:TA} {p pos:Pos} (C:Cal X.prog X.w X.K X.mg X.base k x ps sp) (hr:Room k X.A) (ha:PA X (e :: es) t) (hg:Gl X x:=by rfl)
  (hdb:(x == ("__debug__":Str)) = false:=by decide) (he:starEach (e :: es) X.env = (false,eval e X.env) :: starEach es X.env:=by rfl) (hpl:(backTo pos (starEach es X.env)).any (·.1) = false:=by rfl) :
  PE X (.Call (.Name x p) (e :: es) [] pos) (tCall sp [] E0 t):=by
 obtain ⟨f,fd,F,hm,hk,hb⟩:=C.ex
 exact pe_call F hr hg hm hk hb .nil pass0 ha hdb he hpl
theorem Cal.mk' {P:Program} {w:World} {K:PySem.W.Frag} {mg:Str -> Option Value} {base:Heap} {k:Nat} {x qual:Str} {st:Stmt} {f:Addr} {fd:FuncData} {ps:List Str} {sp:Sp} (F:Fun K x qual st f fd) (G:FnOk P w K mg base CX0 k f fd ps sp) (hm:mg x = some (.ref f))
  (b:Binds K fd ps []):Cal P w K mg base k x ps sp:=⟨f,fd,G,hm,F.kp,b⟩
end
end L2
namespace L2
open PySem PySem.Spec PyProof.Rows
section
variable {X:Cx} {a:Expr} {ta:TE} {K:PySem.W.Frag}
def tTru (K:PySem.W.Frag) (ta:TE):TT:=fun σ H Q=>ta σ H fun x H'=>∃ k,TruV K x H' k /\ Q k H'
theorem yU (ha:PE X a ta) (he:∀ whole,isTrue a X.env whole = (do let v ← whole; standAt a.pos; holding [v] (truthy v))) (hK:X.K = K:=by rfl):PT X a (tTru K ta):=by
 subst hK
 exact pt_truth ha he
end
end L2
namespace An
open PySem L2
abbrev cs (x:Str):List Nat:=x.cps.toList
theorem cs_inj {x y:Str} (h:cs x = cs y):x = y:=by
 obtain ⟨a⟩:=x
 obtain ⟨b⟩:=y
 have:a = b:=by simpa using h
 rw [this]
theorem yT (x y:Str):cs (x ++ y) = cs x ++ cs y:=by
 show (x.cps ++ y.cps).toList = _
 simp
theorem zU (x:Str):x.length = (cs x).length:=by simp [Str.length]
theorem cs_joinNil:∀ xs:List Str,cs (Str.join "" xs) = xs.flatMap cs
 | []=>rfl
 | [x]=>by show cs x = _; simp
 | x :: y :: r=>by
  show cs (x ++ "" ++ Str.join "" (y :: r)) = _
  have:cs ("":Str) = []:=by decide +kernel
  rw [yT,yT,cs_joinNil (y :: r),this,List.append_nil]
  simp
theorem eqv_strs:∀ (a b:List Str),PyData.eqvAll (a.map .str) (b.map .str) = decide (a = b)
 | [],[]=>rfl
 | [],_ :: _=>rfl
 | _ :: _,[]=>rfl
 | x :: a,y :: b=>by
  show ((x == y) && PyData.eqvAll (a.map .str) (b.map .str)) = _
  rw [eqv_strs a b,Bool.eq_iff_iff]
  simp
structure Ok (n:Nat) (x:Str):Prop where
 len:x.length <= n
 ok:PyData.strOk x = true
theorem strOk_iff (x:Str):PyData.strOk x = true ↔ ∀ c ∈ cs x,c < 1114112:=by
 unfold PyData.strOk
 rw [← Array.all_toList,List.all_eq_true]
 simp
theorem lay_strs:∀ ls:List Str,(∀ p ∈ ls,PyData.strOk p = true) -> PyData.canLayAll0 (ls.map .str) = true /\ PyData.depthAll (ls.map .str) = 0
 | [],_=>⟨rfl,rfl⟩
 | x :: ls,h=>by
  obtain ⟨h1,h2⟩:=lay_strs ls fun p hp=>h p (List.mem_cons_of_mem _ hp)
  refine ⟨?_,?_⟩
  ·show (PyData.strOk x && PyData.canLayAll0 (ls.map .str)) = true
   rw [h x List.mem_cons_self,h1]; rfl
  ·show max 0 (PyData.depthAll (ls.map .str)) = 0
   rw [h2]; rfl
theorem same_upd {H:Hp} {l:Addr} {o:HO} (h:H l = none):Same H (upd H l o):=fun b u e=>by rw [zD (zI e h)]; exact e
theorem Same.updF {H H2:Hp} {l:Addr} {o:HO} (e:Same H H2) (n:H l = none):Same H (upd H2 l o):=fun b u q=>by rw [zD (zI q n)]; exact e b u q
theorem snoc_get {α:Type} {xs:List α} {x y:α} {i:Nat} (h:(xs ++ [x])[i]? = some y):(i < xs.length /\ xs[i]? = some y) \/ (i = xs.length /\ y = x):=by
 by_cases hi:i < xs.length
 ·rw [List.getElem?_append_left hi] at h; exact .inl ⟨hi,h⟩
 ·rw [List.getElem?_append_right (by omega)] at h
  have:i - xs.length = 0:=by
   cases q:i - xs.length with
   | zero=>rfl
   | succ n=>rw [q] at h; simp at h
  rw [this] at h
  exact .inr ⟨by omega,(Option.some.inj h).symm⟩
theorem le_line {n:Nat} (h:n <= 16777216):n <= sizeLine:=by rw [sizeLine_eq]; exact h
theorem yY {n:Nat} (h:n < 16777216):n < sizeLine:=by rw [sizeLine_eq]; exact h
theorem atI_zero {α:Type} (x:α) (r:List α):atI (x :: r) 0 = some x:=yP (j:=0) rfl
theorem lineN (n:Nat) (h:n <= 16777216:=by decide):n <= sizeLine:=le_line h
theorem iteY {c A B:Prop} [Decidable c] (hc:c) (h:A):if decide c = true then A else B:=by
 rw [decide_eq_true hc]; exact iteT h
theorem iteN {c A B:Prop} [Decidable c] (hc:¬ c) (h:B):if decide c = true then A else B:=by
 rw [decide_eq_false hc]; exact iteF h
theorem sum_le {n:Nat}:∀ (ys:List Str),(∀ y ∈ ys,y.length <= n) -> (ys.map (·.length)).sum <= ys.length * n
 | [],_=>by simp
 | y :: ys,h=>by
  have h1:=sum_le ys fun z hz=>h z (List.mem_cons_of_mem _ hz)
  have h2:=h y List.mem_cons_self
  rw [List.map_cons,List.sum_cons,List.length_cons,Nat.succ_mul]
  omega
theorem at_map {α:Type} {f:α -> V} {xs:List α} {i:Int} (h0:0 <= i) (h1:i < xs.length):∃ x,xs[i.toNat]? = some x /\ atI (xs.map f) i = some (f x):=by
 obtain ⟨j,rfl⟩:=Int.eq_ofNat_of_zero_le h0
 have hj:j < xs.length:=by omega
 refine ⟨xs[j],by simp [hj],yP ?_⟩
 rw [List.getElem?_map,List.getElem?_eq_getElem hj]; rfl
theorem cut_to {xs:List V} {i:Int} (h0:0 <= i):cutV xs none (some i) = xs.take i.toNat:=by
 obtain ⟨j,rfl⟩:=Int.eq_ofNat_of_zero_le h0
 unfold cutV
 rw [HT.sIx_none,HT.sIx_nat,List.drop_zero]
 show xs.take (min j xs.length - 0) = xs.take j
 by_cases h:j <= xs.length
 ·rw [Nat.min_eq_left h]; rfl
 ·rw [Nat.min_eq_right (by omega),Nat.sub_zero,List.take_length,List.take_of_length_le (by omega)]
theorem cut_from {xs:List V} {i:Int} (h0:0 <= i):cutV xs (some i) none = xs.drop i.toNat:=by
 obtain ⟨j,rfl⟩:=Int.eq_ofNat_of_zero_le h0
 unfold cutV
 rw [HT.sIx_none,HT.sIx_nat]
 show (xs.drop (min j xs.length)).take (xs.length - min j xs.length) = xs.drop j
 by_cases h:j <= xs.length
 ·rw [Nat.min_eq_left h]
  exact List.take_of_length_le (by rw [List.length_drop]; omega)
 ·rw [Nat.min_eq_right (by omega),List.drop_eq_nil_of_le (Nat.le_refl _),List.drop_eq_nil_of_le (by omega)]; simp
def TSame (H H':Hp):Prop:=∀ b o,H b = some o -> (∀ xs,o ≠ .lst xs) -> H' b = some o
theorem same_t {H H':Hp} (e:Same H H'):TSame H H':=fun b o h _=>e b o h
theorem TSame.trans {H H1 H2:Hp} (a:TSame H H1) (b:TSame H1 H2):TSame H H2:=fun c o h n=>b c o (a c o h n) n
theorem TSame.upd {H:Hp} {l:Addr} {xs ys:List V} (h:H l = some (.lst xs)):TSame H (L2.upd H l (.lst ys)):=fun b o e n=>by
 have hb:b ≠ l:=fun z=>by rw [z,h] at e; cases e; exact n xs rfl
 rw [zD hb]; exact e
theorem TSame.tup {K:PySem.W.Frag} {H H':Hp} {a:Addr} {xs:List V} (e:TSame H H') (h:SqT K H a xs):SqT K H' a xs:=by
 rcases h with (h | ⟨o,h⟩) | h
 ·exact .inl (.inl (e _ _ h fun xs z=>nomatch z))
 ·exact .inl (.inr ⟨o,e _ _ h fun xs z=>nomatch z⟩)
 ·exact .inr h
theorem iteNF {A B:Prop} (h:B):if (!true) = true then A else B:=by
 show if false = true then A else B
 exact iteF h
def one (c:Nat):Str:=⟨#[c]⟩
theorem cs_joinOnes:∀ l:List Nat,cs (Txt.join "" (l.map one)) = l:=by
 intro l
 have e2:Txt.join "" (l.map one) = Str.join "" (l.map one):=StrLaws.glued_eq_join _ _
 rw [e2,cs_joinNil,List.flatMap_map]
 induction l with
 | nil=>rfl
 | cons c l ih =>
  rw [List.flatMap_cons]
  show [c] ++ _ = _
  rw [ih (StrLaws.glued_eq_join _ _)]
  rfl
def Menu (n:Nat) (x:Str):Prop:=(cs x).length = n /\ (cs x).all (fun c=>decide (c < 128)) = true
theorem Menu.at {n:Nat} {x:Str} (h:Menu n x) {i:Int} (h0:0 <= i) (h1:i < n):∃ c,atI x.cps.toList i = some c /\ c < 128:=by
 obtain ⟨j,rfl⟩:=Int.eq_ofNat_of_zero_le h0
 have hj:j < (cs x).length:=by rw [h.1]; omega
 refine ⟨(cs x)[j],yP (List.getElem?_eq_getElem hj),?_⟩
 have:=List.all_eq_true.mp h.2 _ (List.getElem_mem hj)
 exact of_decide_eq_true this
theorem Menu.len {n:Nat} {x:Str} (h:Menu n x) (hn:n <= 1000):x.length <= sizeLine:=le_line (by rw [zU,h.1]; omega)
end An
namespace L2
open PySem PySem.Spec PyProof.Rows
section
variable {X:Cx} {K:PySem.W.Frag}
end
mutual
def Dw (K:PySem.W.Frag) (H:Hp):PyData -> V -> Prop
 | .none,v=>v = .non
 | .bool b,v=>v = .bl b
 | .int i,v=>v = .int i
 | .str x,v=>v = .str x
 | .list ds,v=>∃ a xs,v = .ref a /\ SqL K H a xs /\ DwAll K H ds xs
 | .tuple ds,v=>∃ a xs,v = .ref a /\ SqT K H a xs /\ DwAll K H ds xs
 | .dict _,v=>∃ a kvs,v = .ref a /\ H a = some (.dK kvs)
def DwAll (K:PySem.W.Frag) (H:Hp):List PyData -> List V -> Prop
 | [],xs=>xs = []
 | d :: ds,xs=>∃ x r,xs = x :: r /\ Dw K H d x /\ DwAll K H ds r
end
mutual
theorem Dw.same {K:PySem.W.Frag} {H H':Hp} (e:Same H H'):∀ (d:PyData) (v:V),Dw K H d v -> Dw K H' d v
 | .none,_,h=>h
 | .bool _,_,h=>h
 | .int _,_,h=>h
 | .str _,_,h=>h
 | .list ds,_,⟨a,xs,h1,h2,h3⟩=>⟨a,xs,h1,e.seq h2,DwAll.same e ds xs h3⟩
 | .tuple ds,_,⟨a,xs,h1,h2,h3⟩=>⟨a,xs,h1,e.tupS h2,DwAll.same e ds xs h3⟩
 | .dict _,_,⟨a,kvs,h1,h2⟩=>⟨a,kvs,h1,e _ _ h2⟩
theorem DwAll.same {K:PySem.W.Frag} {H H':Hp} (e:Same H H'):∀ (ds:List PyData) (xs:List V),DwAll K H ds xs -> DwAll K H' ds xs
 | [],_,h=>h
 | d :: ds,_,⟨x,r,h1,h2,h3⟩=>⟨x,r,h1,Dw.same e d x h2,DwAll.same e ds r h3⟩
end
mutual
theorem Dt.dw {K:PySem.W.Frag} {H:Hp}:∀ {d:PyData} {v:V},Dt K H d v -> Dw K H d v
 | .none,_,h=>h
 | .bool _,_,h=>h
 | .int _,_,h=>h
 | .str _,_,h=>h
 | .list ds,_,⟨a,xs,h1,h2,h3⟩=>⟨a,xs,h1,h2,DtAll.dw h3⟩
 | .tuple ds,_,⟨a,xs,h1,h2,h3⟩=>⟨a,xs,h1,h2,DtAll.dw h3⟩
 | .dict _,_,h=>h.elim
theorem DtAll.dw {K:PySem.W.Frag} {H:Hp}:∀ {ds:List PyData} {xs:List V},DtAll K H ds xs -> DwAll K H ds xs
 | [],_,h=>h
 | d :: ds,_,⟨x,r,h1,h2,h3⟩=>⟨x,r,h1,Dt.dw h2,DtAll.dw h3⟩
end
theorem DwAll.length {K:PySem.W.Frag} {H:Hp}:∀ {ds:List PyData} {xs:List V},DwAll K H ds xs -> xs.length = ds.length
 | [],_,h=>by rw [show _ = [] from h]; rfl
 | d :: ds,_,⟨x,r,h1,h2,h3⟩=>by rw [h1,List.length_cons,List.length_cons,DwAll.length h3]
def nameD:PyData -> String
 | .none=>"NoneType"
 | .bool _=>"bool"
 | .int _=>"int"
 | .str _=>"str"
 | .list _=>"list"
 | .tuple _=>"tuple"
 | .dict _=>"dict"
section
variable {X:Cx} {pins:List (Addr × Obj)} {σ:St} {H:Hp} {s:Shared} {A:Around} {E:Value -> Shared -> Prop} {Q:Value -> Shared -> Prop} {c:Value} {b:Bool} {K:PySem.W.Frag}
theorem isinst_dw {x:V} {u:Value} {d:PyData} (I:Inv X pins σ H s) (rx:RelV x u) (hd:Dw X.K H d x) (e:PySem.W.kitOne X.K (.type (nameD d)) c = some b) (h:∀ tk,Q (.bool b) { s with toks:=tk }) :
  wpAny (model X.prog X.w) A (call (.builtin "isinstance") [u,c]) Q E s:=by
 cases d with
 | none=>cases (show x = _ from hd); exact xQ I rx .non e h
 | bool y=>cases (show x = _ from hd); exact xQ I rx (.bl y) e h
 | int i=>cases (show x = _ from hd); exact xQ I rx (.int i) e h
 | str y=>cases (show x = _ from hd); exact xQ I rx (.str y) e h
 | dict kvs=>obtain ⟨a,ks,rfl,ea⟩:=hd; exact xQ I rx (.dK ea) e h
 | list ds =>
  obtain ⟨a,xs,rfl,hs,_⟩:=hd
  cases (show u = Value.ref a from rx)
  obtain ⟨its,_,⟨o,n,h1,h2,_⟩,_⟩:=I.list hs
  exact PySem.W.kia_one PySem.W.kitx_list I.kIn ⟨o,h1,h2⟩ e (fun z=>nomatch z) h
 | tuple ds =>
  obtain ⟨a,xs,rfl,hs,_⟩:=hd
  cases (show u = Value.ref a from rx)
  obtain ⟨its,_,p,_⟩:=I.tuple hs
  obtain ⟨o,h1,h2,_⟩:=p
  exact PySem.W.kia_one PySem.W.kitx_tuple I.kIn ⟨o,h1,h2⟩ e (fun z=>nomatch z) h
def rIsiD (K:PySem.W.Frag):List V -> Hp -> VK -> Prop:=fun xs H Q=>∃ y T d b,xs = [y,.ty T] /\ Dw K H d y /\ PySem.W.kitOne K (.type (nameD d)) (.type T) = some b /\ Q (.bl b) H
theorem yR (hK:X.K = K:=by rfl):CallR X (.builtin "isinstance") (rIsiD K):=by
 subst hK
 intro pins s σ H xs us Q I r h
 obtain ⟨y,T,d,b,rfl,hd,kt,q⟩:=h
 obtain ⟨u,w',rfl,ru,rw'⟩:=vals2 r
 cases (show w' = Value.type T from rw')
 exact isinst_dw I ru hd kt fun tk=>⟨.bl b,H,I.tok _,rfl,q⟩
end
section
variable {src:List (Option Nat)} {g:TG} {te:TE} {Q:VK} {σ:St} {H:Hp}
end
end L2
namespace An
open PySem L2
def signB (c:Nat):Bool:=decide (32 <= c) && decide (c <= 126) && decide (c ≠ 37)
def lineB (x:Str):Bool:=decide (x.length <= 20) && (cs x).all signB
end An
namespace An10
def lcs {α:Type} [DecidableEq α]:List α -> List α -> Nat
 | [],_=>0
 | _ :: _,[]=>0
 | x :: xs,y :: ys=>if x = y then 1 + lcs xs ys else max (lcs xs (y :: ys)) (lcs (x :: xs) ys)
termination_by xs ys=>xs.length + ys.length
section
variable {α:Type} [DecidableEq α]
theorem y0 (ys:List α):lcs [] ys = 0:=by unfold lcs; rfl
theorem xC (xs:List α):lcs xs [] = 0:=by cases xs <;> (unfold lcs; rfl)
theorem xF (x y:α) (xs ys:List α):lcs (x :: xs) (y :: ys) = if x = y then 1 + lcs xs ys else max (lcs xs (y :: ys)) (lcs (x :: xs) ys):=by rw [lcs]
theorem xH:∀ (n:Nat) (xs ys:List α),xs.length + ys.length <= n -> (∀ x,lcs xs ys <= lcs (x :: xs) ys) /\ (∀ y,lcs xs ys <= lcs xs (y :: ys)) /\ (∀ x,lcs (x :: xs) ys <= 1 + lcs xs ys) /\ (∀ y,lcs xs (y :: ys) <= 1 + lcs xs ys)
 | n,[],ys,h=>by
  refine ⟨fun x=>by rw [y0]; exact Nat.zero_le _,fun y=>by rw [y0]; exact Nat.zero_le _,fun x=>?_,fun y=>by rw [y0]; exact Nat.zero_le _⟩
  induction ys with
  | nil=>rw [xC,y0]; exact Nat.zero_le _
  | cons y ys ih =>
   rw [xF]
   split
   ·rw [y0,y0]; exact Nat.le_refl _
   ·have:=ih (by simp at h ⊢; omega)
    rw [y0] at this ⊢
    try rw [y0]
    omega
 | n,x' :: xs,[],h=>by
  refine ⟨fun x=>by rw [xC]; exact Nat.zero_le _,fun y=>by rw [xC]; exact Nat.zero_le _,fun x=>by rw [xC]; exact Nat.zero_le _,fun y=>?_⟩
  have:∀ l:List α,lcs l [y] <= 1:=by
   intro l
   induction l with
   | nil=>rw [y0]; exact Nat.zero_le _
   | cons a l ih =>
    rw [xF]
    split
    ·rw [xC]; exact Nat.le_refl _
    ·rw [xC]; omega
  rw [xC]
  exact this _
 | 0,x' :: xs,y' :: ys,h=>by simp at h
 | n + 1,x' :: xs,y' :: ys,h=>by
  simp only [List.length_cons] at h
  obtain ⟨a1,a2,a3,a4⟩:=xH n xs ys (by omega)
  obtain ⟨b1,b2,b3,b4⟩:=xH n xs (y' :: ys) (by simp; omega)
  obtain ⟨c1,c2,c3,c4⟩:=xH n (x' :: xs) ys (by simp; omega)
  have e:=xF x' y' xs ys
  have b3':=b3 x'
  have c4':=c4 y'
  have b1':=b1 x'
  have c2':=c2 y'
  have a1':=a1 x'
  have a2':=a2 y'
  have a3':=a3 x'
  have a4':=a4 y'
  refine ⟨fun x=>?_,fun y=>?_,fun x=>?_,fun y=>?_⟩
  ·rw [xF x y' (x' :: xs) ys]
   split
   ·omega
   ·omega
  ·rw [xF x' y xs (y' :: ys)]
   split
   ·omega
   ·omega
  ·have c3':=c3 x
   rw [xF x y' (x' :: xs) ys]
   split
   ·omega
   ·omega
  ·have b4':=b4 y
   rw [xF x' y xs (y' :: ys)]
   split
   ·omega
   ·omega
def tab (xs ys:List α) (i k:Nat):Nat:=lcs (xs.drop i) (ys.drop k)
theorem tab_end_l {xs ys:List α} {i k:Nat} (h:xs.length <= i):tab xs ys i k = 0:=by unfold tab; rw [List.drop_eq_nil_of_le h,y0]
theorem tab_end_r {xs ys:List α} {i k:Nat} (h:ys.length <= k):tab xs ys i k = 0:=by unfold tab; rw [List.drop_eq_nil_of_le h,xC]
theorem tab_step {xs ys:List α} {i k:Nat} {x y:α} (hx:xs[i]? = some x) (hy:ys[k]? = some y):tab xs ys i k = if x = y then 1 + tab xs ys (i + 1) (k + 1) else max (tab xs ys (i + 1) k) (tab xs ys i (k + 1)):=by
 have h1:xs.drop i = x :: xs.drop (i + 1):=by
  obtain ⟨h,e⟩:=List.getElem?_eq_some_iff.mp hx
  rw [List.drop_eq_getElem_cons h,e]
 have h2:ys.drop k = y :: ys.drop (k + 1):=by
  obtain ⟨h,e⟩:=List.getElem?_eq_some_iff.mp hy
  rw [List.drop_eq_getElem_cons h,e]
 unfold tab
 rw [h1,h2,xF,← h1,← h2]
theorem tab_le {xs ys:List α}:∀ {i k:Nat},tab xs ys i k <= xs.length - i:=by
 intro i k
 unfold tab
 generalize hz:xs.drop i = zs
 have hl:zs.length = xs.length - i:=by rw [← hz,List.length_drop]
 rw [← hl]
 clear hz hl
 induction zs generalizing k with
 | nil=>rw [y0]; exact Nat.le_refl _
 | cons z zs ih =>
  have:=(xH _ zs (ys.drop k) (Nat.le_refl _)).2.2.1 z
  have:=ih (k:=k)
  rw [List.length_cons]
  omega
end
end An10
namespace An10
section
variable {α:Type} [DecidableEq α]
def path (xs ys:List α):Nat -> Nat -> Nat -> List (Nat × Nat)
 | 0,_,_=>[]
 | f + 1,i,k=>match xs[i]?,ys[k]? with
  | some x,some y=>if x = y then (i,k) :: path xs ys f (i + 1) (k + 1) else if tab xs ys i (k + 1) <= tab xs ys (i + 1) k then path xs ys f (i + 1) k else path xs ys f i (k + 1)
  | _,_=>[]
theorem path_end {xs ys:List α} {f i k:Nat} (h:xs.length <= i \/ ys.length <= k):path xs ys f i k = []:=by
 cases f with
 | zero=>rfl
 | succ f =>
  unfold path
  rcases h with h | h
  ·rw [List.getElem?_eq_none h]
  ·rw [List.getElem?_eq_none h]
   cases xs[i]? <;> rfl
theorem path_step {xs ys:List α} {f i k:Nat} {x y:α} (hx:xs[i]? = some x) (hy:ys[k]? = some y) :
  path xs ys (f + 1) i k = if x = y then (i,k) :: path xs ys f (i + 1) (k + 1) else if tab xs ys i (k + 1) <= tab xs ys (i + 1) k then path xs ys f (i + 1) k else path xs ys f i (k + 1):=by
 rw [path,hx,hy]
theorem path_len {xs ys:List α}:∀ (f i k:Nat),(xs.length - i) + (ys.length - k) <= f -> (path xs ys f i k).length = tab xs ys i k
 | 0,i,k,h=>by
  rw [path_end (by omega)]
  by_cases hi:xs.length <= i
  ·rw [tab_end_l hi]; rfl
  ·rw [tab_end_r (by omega)]; rfl
 | f + 1,i,k,h=>by
  by_cases hi:i < xs.length
  ·by_cases hk:k < ys.length
   ·have hx:xs[i]? = some xs[i]:=List.getElem?_eq_getElem hi
    have hy:ys[k]? = some ys[k]:=List.getElem?_eq_getElem hk
    have a:=path_len (xs:=xs) (ys:=ys) f (i + 1) (k + 1) (by omega)
    have b:=path_len (xs:=xs) (ys:=ys) f (i + 1) k (by omega)
    have c:=path_len (xs:=xs) (ys:=ys) f i (k + 1) (by omega)
    rw [path_step hx hy,tab_step hx hy]
    split
    ·rw [List.length_cons,a]; omega
    ·split
     ·rw [b]; omega
     ·rw [c]; omega
   ·rw [path_end (.inr (by omega)),tab_end_r (by omega)]; rfl
  ·rw [path_end (.inl (by omega)),tab_end_l (by omega)]; rfl
def Rise (xs ys:List α):Nat -> Nat -> List (Nat × Nat) -> Prop
 | _,_,[]=>True
 | i,k,p :: ps=>i <= p.1 /\ k <= p.2 /\ (∃ x,xs[p.1]? = some x /\ ys[p.2]? = some x) /\ Rise xs ys (p.1 + 1) (p.2 + 1) ps
theorem Rise.mono {xs ys:List α}:∀ {ps:List (Nat × Nat)} {i k i' k':Nat},Rise xs ys i k ps -> i' <= i -> k' <= k -> Rise xs ys i' k' ps
 | [],_,_,_,_,_,_,_=>trivial
 | p :: ps,_,_,_,_,⟨h1,h2,h3⟩,hi,hk=>⟨Nat.le_trans hi h1,Nat.le_trans hk h2,h3⟩
theorem path_rise {xs ys:List α}:∀ (f i k:Nat),Rise xs ys i k (path xs ys f i k)
 | 0,i,k=>trivial
 | f + 1,i,k=>by
  by_cases hi:i < xs.length
  ·by_cases hk:k < ys.length
   ·have hx:xs[i]? = some xs[i]:=List.getElem?_eq_getElem hi
    have hy:ys[k]? = some ys[k]:=List.getElem?_eq_getElem hk
    rw [path_step hx hy]
    split
    ·rename_i e
     exact ⟨Nat.le_refl _,Nat.le_refl _,⟨xs[i],hx,by rw [e]; exact hy⟩,path_rise f (i + 1) (k + 1)⟩
    ·split
     ·exact (path_rise f (i + 1) k).mono (Nat.le_succ _) (Nat.le_refl _)
     ·exact (path_rise f i (k + 1)).mono (Nat.le_refl _) (Nat.le_succ _)
   ·rw [path_end (.inr (by omega))]; trivial
  ·rw [path_end (.inl (by omega))]; trivial
end
end An10
namespace An12
open PySem L2 An An10
abbrev Row:=Int × Int × PyData
def rowDat (r:Row):PyData:=.tuple [.int r.1,.int r.2.1,r.2.2]
def strD:PyData -> Str
 | .str x=>x
 | _=>""
def linesOf:PyData -> List Str
 | .tuple ds=>ds.map strD
 | _=>[]
theorem linesOf_strs (ls:List Str):linesOf (.tuple (ls.map .str)) = ls:=by
 show (ls.map PyData.str).map strD = ls
 rw [List.map_map]
 exact (List.map_congr_left (g:=id) fun _ _=>rfl).trans (List.map_id _)
def patchL (xs:List Str):Nat -> List Row -> List Str
 | e,[]=>xs.drop e
 | e,r :: rs=>(xs.drop e).take (r.1.toNat - e) ++ linesOf r.2.2 ++ patchL xs r.2.1.toNat rs
def spanR (lo hi:Nat) (ls:List Str):Row:=(lo,hi,.tuple (ls.map .str))
def spanL (xs ys:List Str):Nat -> Nat -> List (Nat × Nat) -> List Row
 | lo,fi,[]=>if lo < xs.length \/ fi < ys.length then [spanR lo xs.length (ys.drop fi)] else []
 | lo,fi,p :: ps=>(if lo < p.1 \/ fi < p.2 then [spanR lo p.1 ((ys.drop fi).take (p.2 - fi))] else []) ++ spanL xs ys (p.1 + 1) (p.2 + 1) ps
def spans (xs ys:List Str):List Row:=spanL xs ys 0 0 (path xs ys (xs.length + ys.length) 0 0)
end An12
namespace An10
open PySem L2 An
def rowV (xs ys:List Str) (i:Nat):List V:=(List.range (ys.length + 1)).map fun k=>V.int (tab xs ys i k)
structure TabAt (H:Hp) (xs ys:List Str) (t:Addr) (as:List Addr):Prop where
 at_:H t = some (.lst (as.map V.ref))
 len:as.length = xs.length + 1
 row:∀ i a,as[i]? = some a -> H a = some (.lst (rowV xs ys i))
def spTable (K:PySem.W.Frag):Sp:=fun vs H Q _=>∃ (a b:Addr) (xs ys:List Str),vs = [.ref a,.ref b] /\ SqT K H a (xs.map V.str) /\ SqT K H b (ys.map V.str) /\ xs.length <= 100 /\ ys.length <= 140 /\
 ∀ (t:Addr) (as:List Addr) H',Same H H' -> TabAt H' xs ys t as -> (t :: as).Nodup -> (∀ b ∈ t :: as,H b = none) -> Q (.ref t) H'
theorem row_at {xs ys:List Str} {i:Nat} {k:Int} (h0:0 <= k) (h1:k <= ys.length):atI (rowV xs ys i) k = some (V.int (tab xs ys i k.toNat)):=by
 obtain ⟨j,rfl⟩:=Int.eq_ofNat_of_zero_le h0
 refine yP ?_
 unfold rowV
 rw [List.getElem?_map,List.getElem?_range (by omega)]
 rfl
theorem rowV_len {xs ys:List Str} {i:Nat}:(rowV xs ys i).length = ys.length + 1:=by unfold rowV; rw [List.length_map,List.length_range]
theorem rowV_ext {xs ys:List Str} {i:Nat} {zs:List V} (hl:zs.length = ys.length + 1) (h:∀ m,m <= ys.length -> zs[m]? = some (V.int (tab xs ys i m))):zs = rowV xs ys i:=by
 refine List.ext_getElem? fun m=>?_
 rcases Nat.lt_or_ge m (ys.length + 1) with hm | hm
 ·rw [h m (by omega)]
  unfold rowV
  rw [List.getElem?_map,List.getElem?_range hm]
  rfl
 ·rw [List.getElem?_eq_none (by omega),List.getElem?_eq_none (by rw [rowV_len]; omega)]
def spTRow (K:PySem.W.Frag):Sp:=fun vs H Q _=>∃ (x:Str) (b p:Addr) (xs ys:List Str) (i:Nat),vs = [.str x,.ref b,.ref p] /\ SqT K H b (ys.map V.str) /\ H p = some (.lst (rowV xs ys (i + 1))) /\ xs[i]? = some x /\ ys.length <= 140 /\
 ∀ (l:Addr) H',Same H H' -> H l = none -> H' l = some (.lst (rowV xs ys i)) -> Q (.ref l) H'
theorem flat_rep {α:Type} (x:α) (n:Nat):(List.replicate n [x]).flatten = List.replicate n x:=by
 induction n with
 | zero=>rfl
 | succ n ih=>rw [List.replicate_succ,List.replicate_succ,List.flatten_cons,ih]; rfl
theorem ixN_nat {n k:Nat} (h:k < n):ixN n (k:Int) = some k:=by
 unfold ixN
 rw [if_pos (by omega),if_pos (by omega)]
 rfl
theorem atI_nat' {xs:List V} {n:Nat} {i:Int} {v:V} (e:i = (n:Int)) (h:xs[n]? = some v):atI xs i = some v:=by
 subst e
 exact yP h
theorem get_one {α:Type} {x c:α} {m:Nat} (h:[x][m]? = some c):m = 0 /\ c = x:=by
 match m,h with
 | 0,h=>exact ⟨rfl,(Option.some.inj h).symm⟩
end An10
namespace An10
open PySem L2 An
def PairsAt (H:Hp) (l:Addr) (ps:List (Nat × Nat)):Prop:=∃ ts:List Addr,H l = some (.lst (ts.map V.ref)) /\ ts.length = ps.length /\ ∀ (i:Nat) (t:Addr) (p:Nat × Nat),ts[i]? = some t -> ps[i]? = some p -> H t = some (.tup [V.int p.1,V.int p.2])
def spKept (K:PySem.W.Frag):Sp:=fun vs H Q _=>∃ (a b:Addr) (xs ys:List Str),vs = [.ref a,.ref b] /\ SqT K H a (xs.map V.str) /\ SqT K H b (ys.map V.str) /\ xs.length <= 100 /\ ys.length <= 140 /\ (∀ x ∈ xs,Ok 200 x) /\ (∀ y ∈ ys,Ok 200 y) /\
 ∀ (l:Addr) H',Same H H' -> H l = none -> PairsAt H' l (path xs ys (xs.length + ys.length) 0 0) -> Q (.ref l) H'
end An10
namespace L2
open PySem
section
variable {M:Model} {A:Around} {E:Value -> Shared -> Prop} {s:Shared} {base:Heap} {q:Array Value -> Prop} {env:Env} {outer:List Env} {L x:Addr}
end
end L2
namespace L2
open PySem PySem.Spec PyProof.Rows
section
variable {X:Cx} {pins:List (Addr × Obj)} {σ:St} {H:Hp} {s:Shared}
end
section
variable {X:Cx}
end
section
variable {X:Cx} {k:Nat} {f:Addr} {fd:FuncData} {ps:List Str} {sp:Sp} {x:Str} {p pos:Pos} {e:Expr} {es:List Expr} {t:TA} {R:St -> Hp -> Value -> Prop}
end
end L2
namespace L2
open PySem PySem.Spec PyProof.Rows
section
variable {X:Cx} {pins pins':List (Addr × Obj)} {σ:St} {H:Hp} {s:Shared} {h':Heap} {R:St -> Hp -> Value -> Prop}
end
section
variable {X:Cx}
end
end L2
namespace L2
open PySem PySem.Spec PyProof.Rows
section
variable {P:Program} {w:World} {K:PySem.W.Frag} {mg:Str -> Option Value} {base:Heap}
end
end L2
namespace L2
open PySem PySem.Spec PyProof.Rows
def Itd (lo:Int) (n:Nat):It:=⟨fun i _=>i < n,fun i H x H'=>H' = H /\ x = .int (lo - i),fun i _=>n <= i⟩
theorem turn_rangeD {P:Program} {w:World} {K:PySem.W.Frag} {tg:Expr} (it:Addr) (lo:Int) (n:Nat):Turn P w K tg (Itd lo n) [it] it (fun i h=>IsRangeIter h it (lo + (i:Nat) * (-1)) ((n:Int) - (i:Nat)) (-1)) where
 mem:=by simp
 obj:=fun i h st b hb=>by
  have e:b = it:=by simpa using hb
  subst e
  exact ⟨_,st,fun v z=>by
   have z':Data.fields _ = Data.cell v:=z
   cases z'⟩
 keep:=fun i h h' st k=>k it (by simp) _ st
 item:=by
  intro X hP hw hK hc i pins s σ H E I hf st hg
  subst hP hw hK
  obtain ⟨f0,f1,f2,f3,f4,f5⟩:=hf it (by simp)
  have W:=Walks.range (prog:=X.prog) (w:=X.w) (I.ok.hd hc) it lo (-1) n
  refine W.item i s _ _ hg st fun v h' tk hv st' kk=>?_
  obtain ⟨t,rfl⟩:=hv
  have I1:Inv X pins σ H { s with heap:=h',toks:=tk }:=I.turned (fun b o hb e=>kk b o (by simpa using hb) e) f0 f1 f3 f4 f5
  refine ⟨_,rfl,go_of (s:={ s with heap:=h',toks:=tk }) (n:="range_iterator") st' rfl rfl (by decide) ⟨.int (lo - i),H,I1,⟨t,?_⟩,⟨rfl,rfl⟩,st',fun b hb=>(hf b hb).1⟩⟩
  congr 1
  omega
 done:=by
  intro X hP hw hK hc i pins s σ H E I hf st hg
  subst hP hw hK
  obtain ⟨f0,f1,f2,f3,f4,f5⟩:=hf it (by simp)
  exact wpAny_pyNext_range_end (I.ok.hd hc) st (by have:n <= i:=hg; omega) fun h' eb=>⟨rfl,I.turned (t':=s.toks) (fun b o hb e=>eb b o hb e) f0 f1 f3 f4 f5⟩
 self:=fun _ _ _ _ _ st h=>wpAny_pyIter_rangeiter st h
theorem rangeSize_down (a b:Int):Builtin.Range.rangeSize a b (-1) = if a > b then a - b else 0:=by
 unfold Builtin.Range.rangeSize
 rw [if_neg (by decide)]
 by_cases h:a > b
 ·rw [if_pos h,if_pos h]; simp
 ·rw [if_neg h,if_neg h]
theorem small_down {a b:Int} (ha:-(2 ^ 62) <= a) (ha':a < 2 ^ 62) (hb:-(2 ^ 62) <= b) (hb':b < 2 ^ 62):Builtin.Range.small a b (-1) = true:=by
 unfold Builtin.Range.small
 rw [rangeSize_down]
 simp only [Builtin.Range.rangeFitsLong,Bool.and_eq_true,Bool.or_eq_true,decide_eq_true_eq,beq_iff_eq,show ¬ ((-1:Int) > 0) by decide,if_false]
 split <;> omega
section
variable {X:Cx} {tg:Expr}
def iRngD (ta:TA):TI:=fun σ H R=>ta σ H fun vs H1=>∃ i j:Int,vs = [.int i,.int j,.int (-1)] /\ (-(2 ^ 28) <= i /\ i < 2 ^ 28 /\ -(2 ^ 28) <= j /\ j < 2 ^ 28) /\ R (Itd i (i - j).toNat) H1
theorem pi_rangeD {a b c:Expr} {ta:TA} {p pos:Pos} (hg:Gl X "range") (hm:X.mg "range" = none) (ha:PA X [a,b,c] ta) (hs:starEach [a,b,c] X.env = [(false,eval a X.env),(false,eval b X.env),(false,eval c X.env)]:=by rfl)
  (hs2:starEach [b,c] X.env = [(false,eval b X.env),(false,eval c X.env)]:=by rfl):PI X tg (.Call (.Name "range" p) [a,b,c] [] pos) (iRngD ta):=by
 intro pins s σ H R I h
 refine Call_ (qY I hg hm boot_range (PyProof.Rows.callWith_type1 (thn (ha pos pins s σ H _ I h) fun us s1 ⟨vs,H1,I1,r1,q1⟩=>?_) (by rw [hs,hs2]) (by rw [hs2]; rfl)))
 obtain ⟨i,j,e,⟨q1,q2,q3,q4⟩,q⟩:=q1
 subst e
 cases r1 with
 | cons r rr =>
  cases rr with
  | cons r' rr =>
   cases rr with
   | cons r'' rr =>
    cases rr
    obtain ⟨t,rfl⟩:=r
    obtain ⟨u,rfl⟩:=r'
    obtain ⟨v,rfl⟩:=r''
    refine call_range_3 (by decide) ?_ (Or.inl (PyProof.noPylong_small (by decide)))
    refine wpAny_pyIter_range (IsRange.new ..) (small_down (by omega) (by omega) (by omega) (by omega)) ?_
    have I2:Inv X pins σ H1 { s1 with heap:=s1.heap.push { cls:=.type "range",data:=.fields #[.int i t,.int j u,.int (-1) v] },toks:=s1.toks }:=I1.kept fun b o e=>Heap.get?_push_of_some _ e
    refine ⟨(s1.heap.push { cls:=.type "range",data:=.fields #[.int i t,.int j u,.int (-1) v] }).objs.size,[(s1.heap.push { cls:=.type "range",data:=.fields #[.int i t,.int j u,.int (-1) v] }).objs.size],_,_,H1,rfl,
     I2.kept (t':=s1.toks) fun b o e=>Heap.get?_push_of_some _ e,turn_rangeD _ i (i - j).toNat,?_,fun b hb=>?_,q⟩
    ·have e1:i + ((0:Nat):Int) * (-1) = i:=by simp
     have e2:(((i - j).toNat:Nat):Int) - ((0:Nat):Int) = Builtin.Range.rangeSize i j (-1):=by rw [rangeSize_down]; split <;> omega
     show IsRangeIter _ _ (i + ((0:Nat):Int) * (-1)) ((((i - j).toNat:Nat):Int) - ((0:Nat):Int)) (-1)
     rw [e1,e2]
     exact Heap.get?_push_size _ rfl
    ·have e:b = (s1.heap.push { cls:=.type "range",data:=.fields #[.int i t,.int j u,.int (-1) v] }).objs.size:=by simpa using hb
     subst e
     exact I2.fpOk (Nat.le_refl _) (I2.hok.fresh (Nat.le_refl _))
theorem for_rangeD {lo:Int} {n:Nat} {g:TG} {tb:TS} {D:Ends} {σ:St} {H:Hp} (Pv:Nat -> St -> Hp -> Prop) (h0:Pv 0 σ H)
  (hs:∀ i σ H,i < n -> Pv i σ H -> g (.int (lo - i)) σ H fun σ2 H2=>tb { D with nx:=Pv (i + 1),ct:=Pv (i + 1),bk:=D.nx } σ2 H2) (hd:∀ σ H,Pv n σ H -> D.nx σ H):ForW (Itd lo n) g tb D σ H :=
 for_n n Pv h0 (fun _ _ _=>Nat.le_refl _) (fun _ _ _ hi _=>hi) (fun i σ H hi p v H' y=>by
  obtain ⟨e,ev⟩:=y
  subst e ev
  exact hs i σ _ hi p) hd
end
end L2
namespace AxT
open PySem PySem.Spec PyProof.Rows PySem.SeqAt
open AutoSeq1 (wpAny_loadPart')
end AxT
namespace L2
open PySem PySem.Spec PyProof.Rows
section
variable {X:Cx}
def rCatT2 (K:PySem.W.Frag):R2:=fun x y H Q=>∃ a b xs ys,x = .ref a /\ y = .ref b /\ SqT K H a xs /\ SqT K H b ys /\ xs.length + ys.length <= sizeLine /\ ∀ p H',Same H H' -> SqT K H' p (xs ++ ys) -> Q (.ref p) H'
theorem op_catT2:OpR X (binaryOp .Add) (rCatT2 X.K):=by
 intro pins s σ H x y v u Q I rx ry h
 obtain ⟨a,b,xs,ys,rfl,rfl,ha,hb,hz,q⟩:=h
 by_cases hx:xs = []
 ·subst hx
  cases rx
  cases ry
  obtain ⟨its,r1,p1,_⟩:=I.tuple ha
  obtain ⟨its2,r2,p2,_⟩:=I.tuple hb
  have hi:its = []:=r1.nil_iff.mpr rfl
  subst hi
  obtain ⟨⟨cls,dd,data,sl⟩,ho,hc,n,hd⟩:=id p1
  obtain ⟨⟨cls2,dd2,data2,sl2⟩,ho2,hc2,n2,hd2⟩:=id p2
  simp only at hc hd hc2 hd2
  subst hc hd hc2 hd2
  exact concat_meets ⟨_,ho,rfl⟩ ⟨_,ho2,rfl⟩ noFill_tuple_add seq_tuple_add PySem.F.slot_tuple_add PySem.F.entry_tuple_add (PySem.F.args_tuple_add_2 _ _)
   (tuple_addW0 a b ([]:List Value).toArray its2.toArray n n2 dd dd2 sl sl2 (by simp)) ⟨ho,ho2,⟨.ref b,H,I,rfl,q b H (Same.refl _) hb⟩⟩
 ·exact op_catT pins s σ H _ _ v u Q I rx ry ⟨a,b,xs,ys,rfl,rfl,ha,hb,hx,hz,fun e=>q a H (Same.refl _) (by rw [e,List.append_nil]; exact ha),fun _ p np=>q p _ (An.same_upd np) (SqT.of zB)⟩
end
end L2
namespace AxR
open PySem PySem.Spec PyProof.Rows
open AutoSeq1 (wpAny_loadPart')
theorem owner_rev:Manifest.owners.lookup (String.ofList ['d','e','s','r','e','v','e','r'].reverse) = some Manifest.sig_reversed:=by kernel_rfl
theorem slot_next:Slot "reversed" "__next__" "reversed.__next__" :=
 .of (owner:="reversed") (n:="__next__") (by rw [typeLookup_type,builtinLookup_eq_fast]; kernel_rfl) (by decide +kernel) (by decide +kernel) (by decide +kernel)
  (by first | exact .inl (by decide +kernel) | exact .inr (by decide +kernel)) (by rw [isSubtype_type]; kernel_rfl)
theorem entry_next:entryFor table "reversed.__next__" = some Builtin.«reversed.__next__»:=entryFor_of_tree (by kernel_rfl)
theorem args_next (a:Value):argsOk "reversed.__next__" ⟨[a],[]⟩:=by
 unfold argsOk; rw [signature?_of (id:="reversed.__next__") (n:=['_','_','t','x','e','n','_','_']) (o:=['d','e','s','r','e','v','e','r']) (by kernel_rfl) owner_rev]; kernel_rfl
theorem slot_iter:Slot "reversed" "__iter__" "reversed.__iter__" :=
 .of (owner:="reversed") (n:="__iter__") (by rw [typeLookup_type,builtinLookup_eq_fast]; kernel_rfl) (by decide +kernel) (by decide +kernel) (by decide +kernel)
  (by first | exact .inl (by decide +kernel) | exact .inr (by decide +kernel)) (by rw [isSubtype_type]; kernel_rfl)
theorem args_iter (a:Value):argsOk "reversed.__iter__" ⟨[a],[]⟩:=by
 unfold argsOk; rw [signature?_of (id:="reversed.__iter__") (n:=['_','_','r','e','t','i','_','_']) (o:=['d','e','s','r','e','v','e','r']) (by kernel_rfl) owner_rev]; kernel_rfl
theorem qN:entryFor table "reversed.__iter__" = some Builtin.«dict_keyiterator.__iter__» :=
 entryFor_alias (id':="dict_keyiterator.__iter__") (by kernel_rfl) (by first | rfl | decide +kernel | (unfold String.splitOn; simp +decide [String.splitOnAux])) (by decide +kernel) (by kernel_rfl)
theorem slot_init:Slot "reversed" "__init__" "object.__init__" :=
 .of (owner:="object") (n:="__init__") (by rw [typeLookup_type,builtinLookup_eq_fast]; kernel_rfl) (by decide +kernel) (by decide +kernel) (by decide +kernel)
  (by first | exact .inl (by decide +kernel) | exact .inr (by decide +kernel)) (by rw [isSubtype_type]; kernel_rfl)
theorem called:TypeCalled "reversed" "reversed.__new__" "object.__init__":=⟨by decide +kernel,F.create_reversed,⟨_,_,F.mro_reversed⟩,F.made_reversed,F.plain_reversed_new,F.sub_reversed_self,slot_init⟩
theorem no_reversed:typeLookup (.type "tuple") "__reversed__" = pure none:=by rw [typeLookup_type,builtinLookup_eq_fast]; kernel_rfl
def revO (l:Addr) (i:Int):Obj:={ cls:=.type "reversed",data:=.fields #[.ref l,rawInt i] }
def IsRev (h:Heap) (a l:Addr) (i:Int):Prop:=h.get? a = some (revO l i)
theorem sub_tuple_dict:isSubtype (.type "tuple") (.type "dict") = pure false:=by rw [isSubtype_type]; kernel_rfl
theorem meets_new (l:Addr) (items:Array Value) (hz:items.size <= sizeLine) :
  Meets (Builtin.«reversed.__new__» ⟨[.type "reversed",.ref l],[]⟩) (fun _ R s=>IsTup s.heap l items /\ ∀ tk,R (.ok (.ret (.ref s.heap.objs.size))) { s with heap:=s.heap.push (revO l ((items.size:Int) - 1)),toks:=tk }) :=
 .of_wp fun prog w A R s h=>by
  obtain ⟨ht,h⟩:=h
  unfold Builtin.«reversed.__new__»
  refine wpAny_bind (wpAny_of_eq (newClass_reversed _) ?_)
  try dsimp only
  refine wpAny_bind (wpAny_of_eq (a:=()) (by first | rfl | kernel_rfl) ?_)
  refine wpAny_bind (wpAny_of_eq (a:=()) (by first | rfl | kernel_rfl) ?_)
  try dsimp only
  refine wpAny_bind (wpAny_specialOf ht.typeIs no_reversed ?_)
  try dsimp only
  have hT:s.TypeIs (.ref l) "tuple":=ht.typeIs
  have f1:=sub_tuple_dict
  have f2:=PyProof.Rows.slot_tuple_getitem.lookup
  refine wpAny_bind (wpAny_mono (Q:=fun (b:Bool) s'=>b = true /\ s' = s) (E:=fun _ _=>False) ?_ (fun b s' hb=>?_) (fun _ _ z=>z.elim))
  ·wp_walk
   exact ⟨rfl,rfl⟩
  ·obtain ⟨rfl,rfl⟩:=hb
   rw [if_neg (by decide)]
   have hn:=L2.line63
   refine wpAny_bind (len_tuple ht (by omega) ?_)
   refine wpAny_bind (wpAny_of_eq (a:=some ((items.size:Nat):Int)) rfl ?_)
   try dsimp only
   unfold Builtin.SmallTypes.newRecord
   refine wpAny_bind (wpAny_newObj_type ?_)
   exact wpAny_pure ⟨_,rfl,h _⟩
section
variable {prog:Program} {w:World} {A:Around} {E:Value -> Shared -> Prop} {s:Shared}
theorem call_rev {l:Addr} {items:Array Value} (hz:items.size <= sizeLine) {Q:Value -> Shared -> Prop} (ht:IsTup s.heap l items) (h:∀ tk,Q (.ref s.heap.objs.size) { s with heap:=s.heap.push (revO l ((items.size:Int) - 1)),toks:=tk }) :
  wpAny (model prog w) A (call (.type "reversed") [.ref l]) Q E s :=
 callType_new called (by decide) (F.typeCall_reversed_1 _) (F.newCall_reversed_1 _) (fun obj=>F.args_object_init_2 obj _) F.entry_reversed_new (meets_new l items hz) ⟨ht,fun tk=>⟨⟨_,Heap.get?_push_size _ rfl,rfl⟩,h tk⟩⟩
theorem typeIs {a l:Addr} {i:Int} (x:IsRev s.heap a l i):s.TypeIs (.ref a) "reversed":=⟨_,x,rfl⟩
theorem next_item {it l:Addr} {i:Nat} {items:Array Value} {x:Value} {Q:Option Value -> Shared -> Prop} (hit:IsRev s.heap it l (i:Int)) (ht:IsTup s.heap l items) (hne:l ≠ it) (hz:items.size <= sizeLine) (hx:items[i]? = some x)
  (hQ:∀ h' tk,IsRev h' it l ((i:Int) - 1) -> Heap.SameBut it s.heap h' -> Q (some x) { s with heap:=h',toks:=tk }):wpAny (model prog w) A (pyNext (.ref it)) Q E s:=by
 have ho:s.heap.get? it = some (revO l i):=hit
 have hi:i < items.size:=(Array.getElem?_eq_some_iff.mp hx).1
 unfold pyNext
 refine wpAny_bind (wpAny_attempt (wpAny_callSpecial?_slot (name:=Str.ofString "__next__") (typeIs hit) slot_next
  (wpAny_call_entry slot_next (typeIs hit) entry_next ?_ (args_next _))))
 unfold Builtin.«reversed.__next__»
 refine wpAny_bind (wpAny_of_eq (a:=(Value.ref it,[])) rfl ?_)
 try dsimp only
 refine wpAny_bind (wpAny_field ho (x:=.ref l) rfl rfl ?_)
 refine wpAny_bind (wpAny_field ho (x:=rawInt (i:Int)) rfl rfl ?_)
 show wpAny _ _ (if (i:Int) < 0 then _ else _) _ _ s
 rw [if_neg (by omega)]
 refine wpAny_bind (wpAny_specialOf ht.typeIs PyProof.Rows.slot_tuple_getitem.lookup ?_)
 rw [if_neg (by decide)]
 have hn:=L2.line63
 refine wpAny_bind (wpAny_mkInt ?_)
 have ht1:IsTup ({ s with toks:=s.toks + 1 }:Shared).heap l items:=ht
 refine wpAny_bind (wpAny_attempt (getItem_tuple (j:=i) ht1 (by omega) (by omega) (by unfold seqIndex?; simp; omega) hx ?_))
 try dsimp only
 refine wpAny_bind (wpAny_field ho (x:=rawInt (i:Int)) rfl rfl ?_)
 show wpAny _ _ (setField (.ref it) 1 (rawInt ((i:Int) - 1)) >>= _) _ _ _
 refine wpAny_bind (wpAny_setField ho rfl (by simp) ?_)
 refine wpAny_pure ⟨x,rfl,wpAny_pure (hQ _ _ ?_ (Heap.SameBut.update ..))⟩
 have e:=Heap.get?_update_self (Obj.mapFields (·.setIfInBounds 1 (rawInt ((i:Int) - 1)))) ho rfl
 exact e
theorem next_end {it l:Addr} {Q:Option Value -> Shared -> Prop} (hh:A.handled = none) (hit:IsRev s.heap it l (-1))
  (hQ:∀ h',Heap.ExtBut it s.heap h' -> Q none { s with heap:=h' }):wpAny (model prog w) A (pyNext (.ref it)) Q E s:=by
 have ho:s.heap.get? it = some (revO l (-1)):=hit
 unfold pyNext
 refine wpAny_bind (wpAny_attempt (wpAny_callSpecial?_slot (name:=Str.ofString "__next__") (typeIs hit) slot_next
  (wpAny_call_entry slot_next (typeIs hit) entry_next ?_ (args_next _))))
 unfold Builtin.«reversed.__next__»
 refine wpAny_bind (wpAny_of_eq (a:=(Value.ref it,[])) rfl ?_)
 try dsimp only
 refine wpAny_bind (wpAny_field ho (x:=.ref l) rfl rfl ?_)
 refine wpAny_bind (wpAny_field ho (x:=rawInt (-1)) rfl rfl ?_)
 show wpAny _ _ (if (-1:Int) < 0 then _ else _) _ _ s
 rw [if_pos (by decide)]
 refine wpAny_bind (wpAny_rule ?_)
 refine wpAny_bind ?_
 show wpAny _ _ (setField (.ref it) 1 (rawInt (-1)) >>= fun _=>setField (.ref it) 0 .none) _ _ s
 refine wpAny_bind (wpAny_setField ho rfl (by simp) ?_)
 have ho1:(s.heap.update it (Obj.mapFields (·.setIfInBounds 1 (rawInt (-1))))).get? it = some (revO l (-1)):=Heap.get?_update_self (Obj.mapFields (·.setIfInBounds 1 (rawInt (-1)))) ho rfl
 refine wpAny_setField ho1 rfl (by simp) ?_
 refine wpAny_bind ?_
 unfold Builtin.SmallTypes.stopIteration
 refine wpAny_bind ?_
 simp only [newExc,newTuple]
 refine wpAny_bind (wpAny_newObj_type ?_ (by size_fits))
 refine wpAny_bind (m:=firstArgMember _ _) (wpAny_of_eq (a:=Value.none) (by first | rfl | (simp only [firstArgMember]; rfl)) ?_)
 refine wpAny_newObj_type ?_ (by size_fits)
 simp only [raiseNew]
 refine wpAny_bind (wpAny_handled ?_)
 first | rw [show A.in1.handled = none from hh] | rw [hh]
 refine wpAny_bind (wpAny_pure (wpAny_throw ?_))
 refine wpAny_bind (wpAny_isInstance (T:="StopIteration") (b:=true) ⟨_,Heap.get?_push_size _ rfl,rfl⟩ isSubtype_stop ?_)
 refine wpAny_pure (hQ _ ?_)
 refine ((Heap.ExtBut.push ?_ _).push _)
 exact fun b o hb e=>by rw [Heap.get?_update_other _ _ (Ne.symm hb),Heap.get?_update_other _ _ (Ne.symm hb)]; exact e
theorem iter_self {it l:Addr} {i:Int} {Q:Value -> Shared -> Prop} (hit:IsRev s.heap it l i) (h:Q (.ref it) s):wpAny (model prog w) A (pyIter (.ref it)) Q E s:=by
 refine wpAny_pyIter_slot (typeIs hit) slot_iter (wpAny_call_entry slot_iter (typeIs hit) qN ?_ (args_iter _))
 show wpAny _ _ (ret (.ref it)) _ _ s
 exact wpAny_pure ⟨_,rfl,"reversed",_,typeIs hit,slot_next.lookup,h⟩
end
end AxR
namespace L2
open PySem PySem.Spec PyProof.Rows
def ItRev (K:PySem.W.Frag) (a:Addr) (n:Nat):It :=
 ⟨fun i H=>∃ xs,SqT K H a xs /\ xs.length = n /\ i < n,fun i H v H'=>H' = H /\ ∀ xs,SqT K H a xs -> xs[n - 1 - i]? = some v,fun i _=>i = n⟩
theorem turn_rev {P:Program} {w:World} {K:PySem.W.Frag} {tg:Expr} (a it:Addr) (n:Nat) :
  Turn P w K tg (ItRev K a n) [it] it (fun i h=>i <= n /\ AxR.IsRev h it a ((n:Int) - 1 - (i:Int))) where
 mem:=by simp
 obj:=fun i h st b hb=>by
  have e:b = it:=by simpa using hb
  subst e
  exact ⟨_,st.2,fun v z=>by cases z⟩
 keep:=fun i h h' st k=>⟨st.1,k it (by simp) _ st.2⟩
 item:=by
  intro X hP hw hK hc i pins s σ H E I hf st hg
  subst hP hw hK
  obtain ⟨xs,hq,hl,hi⟩:=hg
  obtain ⟨its,rv,p,hz⟩:=I.tuple hq
  have hx:xs[n - 1 - i]? = some (xs[n - 1 - i]'(by omega)):=List.getElem?_eq_getElem (by omega)
  obtain ⟨u,hu,ru⟩:=rv.get hx
  obtain ⟨f0,f1,f2,f3,f4,f5⟩:=hf it (by simp)
  have st1:=st.2
  have e:(n:Int) - 1 - (i:Int) = ((n - 1 - i:Nat):Int):=by omega
  rw [e] at st1
  have hne:a ≠ it:=fun z=>by
   obtain ⟨o,ho,hcl,_⟩:=p
   have st2:s.heap.get? it = some _:=st1
   rw [z,st2] at ho
   cases ho
   have hcl:Value.type "reversed" = Value.type "tuple":=hcl
   exact absurd hcl (by decide)
  refine AxR.next_item st1 p hne (by rw [List.size_toArray,← rv.length]; exact hz) (x:=u) (by simpa using hu) fun h' tk st' sb=>?_
  have I1:Inv X pins σ H { s with heap:=h',toks:=tk }:=I.turned (fun b o hb e=>(sb.2 b hb).trans e) f0 f1 f3 f4 f5
  have e2:((n - 1 - i:Nat):Int) - 1 = (n:Int) - 1 - ((i + 1:Nat):Int):=by omega
  rw [e2] at st'
  exact ⟨u,rfl,go_of (s:={ s with heap:=h',toks:=tk }) (n:="reversed") st' rfl rfl (by decide) ⟨_,H,I1,ru,⟨rfl,fun ys hy=>by rw [I.tuple_inj hy hq]; exact hx⟩,⟨hi,st'⟩,fun b hb=>(hf b hb).1⟩⟩
 done:=by
  intro X hP hw hK hc i pins s σ H E I hf st hg
  subst hP hw hK
  have hg:i = n:=hg
  subst hg
  obtain ⟨f0,f1,f2,f3,f4,f5⟩:=hf it (by simp)
  have st1:=st.2
  have e:(i:Int) - 1 - (i:Int) = -1:=by omega
  rw [e] at st1
  exact AxR.next_end (I.ok.hd hc) st1 fun h' eb=>⟨rfl,I.turned (t':=s.toks) (fun b o hb e=>eb b o hb e) f0 f1 f3 f4 f5⟩
 self:=fun _ _ _ _ _ st h=>AxR.iter_self st.2 h
section
variable {X:Cx} {tg:Expr}
def iRev (K:PySem.W.Frag) (ta:TA):TI:=fun σ H R=>ta σ H fun vs H1=>∃ a xs,vs = [.ref a] /\ SqT K H1 a xs /\ R (ItRev K a xs.length) H1
theorem boot_reversed:bootBuiltins "reversed" = some (.type "reversed"):=by decide +kernel
theorem pi_rev {a:Expr} {ta:TA} {p pos:Pos} (hg:Gl X "reversed") (hm:X.mg "reversed" = none) (ha:PA X [a] ta) (hs:starEach [a] X.env = [(false,eval a X.env)]:=by rfl):PI X tg (.Call (.Name "reversed" p) [a] [] pos) (iRev X.K ta):=by
 intro pins s σ H R I h
 refine Call_ (qY I hg hm boot_reversed (PyProof.Rows.callWith_type1 (thn (ha pos pins s σ H _ I h) fun us s1 ⟨vs,H1,I1,r1,q1⟩=>?_) hs rfl))
 obtain ⟨a',xs,e,hq,q⟩:=q1
 subst e
 obtain ⟨u,rfl,ru⟩:=vals1 r1
 cases ru
 obtain ⟨its,rv,p',hz⟩:=I1.tuple hq
 refine AxR.call_rev (by rw [List.size_toArray,← rv.length]; exact hz) p' fun tk=>AxR.iter_self (l:=a') (i:=((its.toArray.size:Nat):Int) - 1) (Heap.get?_push_size _ rfl) ?_
 have hl:its.toArray.size = xs.length:=by rw [List.size_toArray]; exact rv.length.symm
 refine ⟨s1.heap.objs.size,[s1.heap.objs.size],_,_,H1,rfl,I1.kept (t':=tk) fun b o e=>Heap.get?_push_of_some _ e,turn_rev a' _ xs.length,⟨Nat.zero_le _,?_⟩,fun b hb=>?_,q⟩
 ·rw [hl]
  have e:(xs.length:Int) - 1 - ((0:Nat):Int) = (xs.length:Int) - 1:=by omega
  rw [e]
  exact Heap.get?_push_size _ rfl
 ·have e:b = s1.heap.objs.size:=by simpa using hb
  subst e
  exact I1.fpOk (Nat.le_refl _) (I1.hok.fresh (Nat.le_refl _))
theorem for_rev {K:PySem.W.Frag} {a:Addr} {xs:List V} {g:TG} {tb:TS} {D:Ends} {σ:St} {H:Hp} (Pv:Nat -> St -> Hp -> Prop) (h0:Pv 0 σ H) (hl:∀ i σ H,i <= xs.length -> Pv i σ H -> SqT K H a xs)
  (hs:∀ i x σ H,i < xs.length -> xs[xs.length - 1 - i]? = some x -> Pv i σ H -> g x σ H fun σ2 H2=>tb { D with nx:=Pv (i + 1),ct:=Pv (i + 1),bk:=D.nx } σ2 H2) (hd:∀ σ H,Pv xs.length σ H -> D.nx σ H):ForW (ItRev K a xs.length) g tb D σ H :=
 for_n xs.length Pv h0 (fun _ _ _=>rfl) (fun i σ H hi p=>⟨xs,hl i σ H (Nat.le_of_lt hi) p,rfl,hi⟩) (fun i σ H hi p v H' y=>by
  obtain ⟨e,hx⟩:=y
  subst e
  exact hs i v σ _ hi (hx xs (hl i σ _ (Nat.le_of_lt hi) p)) p) hd
end
end L2
namespace L2
open PySem PySem.Spec PyProof.Rows
section
variable {X:Cx} {K:PySem.W.Frag} {a b c d:Expr} {ta tb tc td:TE} {pos:Pos}
end
section
variable {X:Cx} {tg:Expr}
end
end L2
namespace L2
open PySem PySem.Spec PyProof.Rows
section
variable {X:Cx} {pins:List (Addr × Obj)} {σ:St} {H:Hp} {s:Shared}
end
theorem meets_extendT (l b:Addr) (items:Array Value) (n:Nat) (items2:Array Value) (hlong:¬ (!items.isEmpty && Builtin.List.listTooLong (items.size + items2.size)) = true) (h1:items.size <= sizeLine) (h2:items.size + items2.size <= sizeLine + 1) :
  Meets (Builtin.«list.extend» ⟨[.ref l,.ref b],[]⟩) (fun _ R s=>s.heap.get? l = some { cls:=.type "list",data:=.seq items n } /\ IsTup s.heap b items2 /\ R (.ok (.ret .none)) { s with heap:=s.heap.update l (Obj.mapSeq fun x=>x ++ items2) }) :=
 .of_wp fun prog w A R s h=>by
  obtain ⟨hl,ht,h⟩:=h
  have hT:s.TypeIs (.ref b) "tuple":=ht.typeIs
  unfold Builtin.«list.extend» Builtin.List.listExtendWith
  refine wpAny_bind (wpAny_of_eq (a:=(.ref l,.ref b)) rfl ?_)
  dsimp only
  refine wpAny_bind (wpAny_typeOf hT ?_)
  rw [if_pos (by rw [show (Value.type "tuple" == Value.type "tuple") = true by decide +kernel,Bool.or_true])]
  obtain ⟨o,ho,hc,m,hd⟩:=ht
  refine wpAny_bind (wpAny_listItems ho hd ?_)
  refine wpAny_bind (wpAny_listItems hl rfl ?_)
  rw [if_neg hlong]
  refine wpAny_bind (listUpdate_at hl rfl ?_ h1 (by rw [Array.size_append]; exact h2))
  exact wpAny_pure ⟨_,rfl,h⟩
section
variable {X:Cx}
def rExtendT (K:PySem.W.Frag):V -> List V -> Hp -> VK -> Prop:=fun x vs H Q=>∃ l b xs zs,x = .ref l /\ vs = [.ref b] /\ H l = some (.lst xs) /\ SqT K H b zs /\ xs.length + zs.length <= sizeLine /\ Q .non (upd H l (.lst (xs ++ zs)))
theorem xW:MtM X "list.extend" (rExtendT X.K):=by
 intro pins s σ H x vs v us Q I rx rv h
 obtain ⟨l,b,xs,zs,rfl,rfl,hH,hB,hz,q⟩:=h
 cases rx
 obtain ⟨u,rfl,ru⟩:=rv.one
 cases ru
 obtain ⟨z,its,n,r,hl,e⟩:=I.lstM hH
 obtain ⟨its2,r2,p2,hz2⟩:=I.tuple hB
 have hl2:=r2.length
 have hsz:its.toArray.size + its2.toArray.size <= sizeLine:=by rw [List.size_toArray,List.size_toArray]; omega
 have hlong:¬ (!its.toArray.isEmpty && Builtin.List.listTooLong (its.toArray.size + its2.toArray.size)) = true:=by
  rw [notLongL hsz,Bool.and_false]
  exact Bool.false_ne_true
 refine call_meets F.slot_list_extend ⟨_,e,rfl⟩ F.entry_list_extend (F.args_list_extend_2 _ _)
  (meets_extendT l b its.toArray n its2.toArray hlong (by rw [List.size_toArray]; omega) (by omega)) ⟨e,p2,?_⟩
 refine ⟨.non,_,I.lset (its':=its ++ its2) hH e (by simp) (r.append r2) ?_,rfl,q⟩
 rw [List.length_append]
 omega
end
end L2
namespace An12
open PySem L2 An An10
def hide (H:Hp) (o:Addr):Hp:=fun b=>if b = o then none else H b
theorem hide_ne {H:Hp} {o b:Addr} (h:b ≠ o):hide H o b = H b:=if_neg h
theorem hide_same (H:Hp) (o:Addr):Same (hide H o) H:=fun b u e=>by
 by_cases h:b = o
 ·rw [h] at e
  have:hide H o o = none:=if_pos rfl
  rw [this] at e; cases e
 ·rwa [hide_ne h] at e
theorem same_hide {H H':Hp} (o:Addr) (e:Same H H'):Same (hide H o) (hide H' o):=fun b u q=>by
 by_cases h:b = o
 ·rw [h] at q
  have:hide H o o = none:=if_pos rfl
  rw [this] at q; cases q
 ·rw [hide_ne h] at q ⊢
  exact e b u q
theorem hide_upd {H:Hp} {o:Addr} {x:HO}:hide (upd H o x) o = hide H o:=by
 funext b
 by_cases h:b = o
 ·rw [h]
  exact (if_pos rfl).trans (if_pos rfl).symm
 ·rw [hide_ne h,hide_ne h,zD h]
theorem tup_hide {K:PySem.W.Frag} {H:Hp} {o a:Addr} {zs ys:List V} (h:H o = some (.lst zs)) (t:SqT K H a ys):SqT K (hide H o) a ys:=by
 rcases t with (t | ⟨ob,t⟩) | t
 ·refine .inl (.inl ?_)
  have t:H a = some (.tup ys):=t
  have:a ≠ o:=fun z=>by rw [z,h] at t; cases t
  exact (hide_ne this).trans t
 ·refine .inl (.inr ⟨ob,?_⟩)
  have t:H a = some (.frz ob (.tup ys)):=t
  have:a ≠ o:=fun z=>by rw [z,h] at t; cases t
  exact (hide_ne this).trans t
 ·exact .inr t
theorem cut_any {K:PySem.W.Frag} {H H':Hp} {a:Addr} {xs:List V} {lo hi:Option Int} {v:V} (hs:SqT K H a xs) (h:(v = .ref a /\ H' = H /\ cutV xs lo hi = xs) \/ (∃ p,H p = none /\ v = .ref p /\ H' = upd H p (.tup (cutV xs lo hi)))) :
  ∃ p:Addr,v = .ref p /\ Same H H' /\ SqT K H' p (cutV xs lo hi):=by
 rcases h with ⟨rfl,rfl,e2⟩ | ⟨p,np,rfl,rfl⟩
 ·exact ⟨a,rfl,Same.refl _,by rw [e2]; exact hs⟩
 ·exact ⟨p,rfl,same_upd np,SqT.of zB⟩
theorem cut_mid {ys:List Str} {f k:Nat} (hf:f <= ys.length) (hk:k <= ys.length):cutV (ys.map V.str) (some (f:Int)) (some (k:Int)) = ((ys.drop f).take (k - f)).map V.str:=by
 unfold cutV
 rw [HT.sIx_nat,HT.sIx_nat,List.length_map,List.map_take,List.map_drop,Nat.min_eq_left hf,Nat.min_eq_left hk]
def spanT (ys:List Str):Nat -> Nat -> List (Nat × Nat) -> List Row
 | _,_,[]=>[]
 | lo,fi,p :: ps=>(if lo < p.1 \/ fi < p.2 then [spanR lo p.1 ((ys.drop fi).take (p.2 - fi))] else []) ++ spanT ys (p.1 + 1) (p.2 + 1) ps
theorem spanT_all {xs ys:List Str}:∀ {ps:List (Nat × Nat)} {lo fi:Nat},spanT ys lo fi (ps ++ [(xs.length,ys.length)]) = spanL xs ys lo fi ps
 | [],lo,fi=>by
  show (if lo < xs.length \/ fi < ys.length then [spanR lo xs.length ((ys.drop fi).take (ys.length - fi))] else []) ++ [] = _
  rw [List.append_nil,List.take_of_length_le (by rw [List.length_drop]; omega)]
  rfl
 | p :: ps,lo,fi=>by
  show _ ++ spanT ys (p.1 + 1) (p.2 + 1) (ps ++ [(xs.length,ys.length)]) = _
  rw [spanT_all]
  rfl
theorem rise_le {xs ys:List Str}:∀ {ps:List (Nat × Nat)} {i k:Nat},Rise xs ys i k ps -> ∀ p ∈ ps,p.1 < xs.length /\ p.2 < ys.length
 | [],_,_,_,_,h=>by cases h
 | q :: ps,i,k,⟨_,_,⟨x,h1,h2⟩,h4⟩,p,h=>by
  rcases List.mem_cons.mp h with rfl | h
  ·exact ⟨(List.getElem?_eq_some_iff.mp h1).1,(List.getElem?_eq_some_iff.mp h2).1⟩
  ·exact rise_le h4 p h
theorem lineB_ok {x:Str} (h:lineB x = true):PyData.strOk x = true:=by
 unfold lineB at h
 rw [Bool.and_eq_true] at h
 rw [strOk_iff]
 intro c hc
 have:=List.all_eq_true.mp h.2 c hc
 unfold signB at this
 simp only [Bool.and_eq_true,decide_eq_true_eq] at this
 omega
theorem rows_get {K:PySem.W.Frag} {H:Hp} {rs:List Row} {vs:List V} {i:Nat} {x:V} (h:DtAll K H (rs.map rowDat) vs) (e:vs[i]? = some x):∃ (r:Row) (t:Addr) (v:V),rs[i]? = some r /\ x = .ref t /\ SqT K H t [V.int r.1,V.int r.2.1,v] /\ Dt K H r.2.2 v:=by
 obtain ⟨d,e1,hd⟩:=h.get e
 rw [List.getElem?_map] at e1
 cases q:rs[i]? with
 | none=>rw [q] at e1; cases e1
 | some r =>
  rw [q] at e1
  have e1:rowDat r = d:=Option.some.inj e1
  subst e1
  obtain ⟨t,vt,rfl,ht,x0,r0,rfl,e6,x7,r7,rfl,e8,x9,r9,rfl,d9,e10⟩:=hd
  have e6:x0 = V.int r.1:=e6
  have e8:x7 = V.int r.2.1:=e8
  have e10:r9 = []:=e10
  subst e6 e8 e10
  exact ⟨r,t,x9,rfl,rfl,ht,d9⟩
def spSpans (K:PySem.W.Frag):Sp:=fun vs H Q _=>∃ (a b:Addr) (xs ys:List Str),vs = [.ref a,.ref b] /\ SqT K H a (xs.map V.str) /\ SqT K H b (ys.map V.str) /\ xs.length <= 100 /\ ys.length <= 140 /\ (∀ x ∈ xs,lineB x = true) /\ (∀ y ∈ ys,lineB y = true) /\
 ∀ (l:Addr) H',Same H H' -> H l = none -> Dt K H' (.list ((spans xs ys).map rowDat)) (.ref l) -> Q (.ref l) H'
theorem lineB_len {x:Str} (h:lineB x = true):x.length <= 20:=by
 unfold lineB at h
 rw [Bool.and_eq_true] at h
 exact of_decide_eq_true h.1
theorem lineB_Ok {x:Str} (h:lineB x = true):Ok 200 x:=⟨by have:=lineB_len h; omega,lineB_ok h⟩
theorem spanT_lines {xs ys:List Str}:∀ {ps:List (Nat × Nat)} {lo fi:Nat},∀ r ∈ spanL xs ys lo fi ps,∃ (i k:Nat) (ls:List Str),r = spanR i k ls /\ ls.length <= ys.length /\ ∀ l ∈ ls,l ∈ ys
 | [],lo,fi,r,h=>by
  unfold spanL at h
  split at h
  ·rw [List.mem_singleton] at h
   exact ⟨lo,xs.length,ys.drop fi,h,by rw [List.length_drop]; omega,fun l hl=>List.mem_of_mem_drop hl⟩
  ·cases h
 | p :: ps,lo,fi,r,h=>by
  unfold spanL at h
  rcases List.mem_append.mp h with h | h
  ·split at h
   ·rw [List.mem_singleton] at h
    exact ⟨lo,p.1,_,h,by rw [List.length_take,List.length_drop]; omega,fun l hl=>List.mem_of_mem_drop (List.mem_of_mem_take hl)⟩
   ·cases h
  ·exact spanT_lines r h
def Ends (n:Nat):Nat -> List Row -> Prop
 | _,[]=>True
 | e,r :: rs=>(e:Int) <= r.1 /\ r.1 <= r.2.1 /\ r.2.1 <= n /\ (∃ ls:List Str,r.2.2 = .tuple (ls.map .str) /\ ls.length <= 1000) /\ Ends n r.2.1.toNat rs
def spDone (K:PySem.W.Frag):Sp:=fun vs H Q _=>∃ (a l:Addr) (xs:List Str) (rs:List Row),vs = [.ref a,.ref l] /\ SqT K H a (xs.map V.str) /\ Dt K H (.list (rs.map rowDat)) (.ref l) /\ xs.length <= 1000 /\ rs.length <= 200 /\ Ends xs.length 0 rs /\
 ∀ (p:Addr) H',Same H H' -> H p = none -> SqT K H' p ((patchL xs 0 rs).map V.str) -> Q (.ref p) H'
theorem cut_rest {ys:List Str} {f:Nat} (hf:f <= ys.length):cutV (ys.map V.str) (some (f:Int)) none = (ys.drop f).map V.str:=by
 rw [cut_from (by omega),Int.toNat_natCast,List.map_drop]
end An12
namespace AnJ
section
variable {α:Type}
abbrev S (α:Type):=Nat × Nat × List α
structure G (α:Type) where
 lo:Nat
 hi:Nat
 ones:List (S α)
 others:List (S α)
structure GoodG (g:G α):Prop where
 ins:∀ s ∈ g.ones ++ g.others,g.lo <= s.1 /\ s.1 <= s.2.1 /\ s.2.1 <= g.hi
 low:∃ s ∈ g.ones ++ g.others,s.1 = g.lo
 cell:∀ c,g.lo <= c -> c < g.hi -> ∃ s ∈ g.ones ++ g.others,s.1 <= c /\ c < s.2.1
theorem GoodG.le {g:G α} (h:GoodG g):g.lo <= g.hi:=by
 obtain ⟨s,hs,e⟩:=h.low
 have:=h.ins s hs
 omega
structure Good (A B:List (S α)) (gs:List (G α)):Prop where
 pa:(gs.flatMap G.ones).Perm A
 pb:(gs.flatMap G.others).Perm B
 gg:∀ g ∈ gs,GoodG g
 ap:gs.Pairwise fun g h=>g.hi < h.lo
theorem Good.mem {A B:List (S α)} {gs:List (G α)} (h:Good A B gs) {s:S α} (hs:s ∈ A ++ B):∃ g ∈ gs,s ∈ g.ones ++ g.others:=by
 rcases List.mem_append.mp hs with z | z
 ·obtain ⟨g,hg,hs⟩:=List.mem_flatMap.mp (h.pa.mem_iff.mpr z)
  exact ⟨g,hg,List.mem_append_left _ hs⟩
 ·obtain ⟨g,hg,hs⟩:=List.mem_flatMap.mp (h.pb.mem_iff.mpr z)
  exact ⟨g,hg,List.mem_append_right _ hs⟩
theorem Good.of_mem {A B:List (S α)} {gs:List (G α)} (h:Good A B gs) {s:S α} {g:G α} (hg:g ∈ gs) (hs:s ∈ g.ones ++ g.others):s ∈ A ++ B:=by
 rcases List.mem_append.mp hs with z | z
 ·exact List.mem_append_left _ (h.pa.mem_iff.mp (List.mem_flatMap.mpr ⟨g,hg,z⟩))
 ·exact List.mem_append_right _ (h.pb.mem_iff.mp (List.mem_flatMap.mpr ⟨g,hg,z⟩))
theorem Good.nil_of {gs:List (G α)} (h:Good [] [] gs):gs = []:=by
 cases gs with
 | nil=>rfl
 | cons g r =>
  obtain ⟨s,hs,_⟩:=(h.gg g (List.mem_cons_self ..)).low
  have:=h.of_mem (List.mem_cons_self ..) hs
  simp at this
theorem Good.lo_le {A B A' B':List (S α)} {g g':G α} {r r':List (G α)} (h:Good A B (g :: r)) (h':Good A' B' (g' :: r')) (e:∀ s,s ∈ A ++ B -> s ∈ A' ++ B'):g'.lo <= g.lo:=by
 obtain ⟨s,hs,es⟩:=(h.gg g (List.mem_cons_self ..)).low
 obtain ⟨x,hx,hsx⟩:=h'.mem (e s (h.of_mem (List.mem_cons_self ..) hs))
 have:=(h'.gg x hx).ins s hsx
 rcases List.mem_cons.mp hx with rfl | hx
 ·omega
 ·have q:=(List.pairwise_cons.mp h'.ap).1 x hx
  have:=(h'.gg g' (List.mem_cons_self ..)).le
  omega
theorem Good.hi_le {A B A' B':List (S α)} {g g':G α} {r r':List (G α)} (h:Good A B (g :: r)) (h':Good A' B' (g' :: r')) (e:∀ s,s ∈ A' ++ B' -> s ∈ A ++ B) (el:g'.lo <= g.hi):g'.hi <= g.hi:=by
 rcases Nat.lt_or_ge g.hi g'.hi with z | z
 ·obtain ⟨s,hs,s1,s2⟩:=(h'.gg g' (List.mem_cons_self ..)).cell g.hi el z
  obtain ⟨x,hx,hsx⟩:=h.mem (e s (h'.of_mem (List.mem_cons_self ..) hs))
  have q:=(h.gg x hx).ins s hsx
  rcases List.mem_cons.mp hx with rfl | hx
  ·omega
  ·have q:=(List.pairwise_cons.mp h.ap).1 x hx
   omega
 ·exact z
theorem filter_all {β:Type} {p:β -> Bool} {l:List β} (h:∀ x ∈ l,p x = true):l.filter p = l:=List.filter_eq_self.mpr h
theorem z6 {β:Type} {p:β -> Bool} {l:List β} (h:∀ x ∈ l,p x = false):l.filter p = []:=List.filter_eq_nil_iff.mpr (fun x hx=>by rw [h x hx]; decide)
theorem Good.head {A B:List (S α)} {g:G α} {r:List (G α)} (h:Good A B (g :: r)) :
  g.ones.Perm (A.filter fun s=>decide (s.2.1 <= g.hi)) /\ g.others.Perm (B.filter fun s=>decide (s.2.1 <= g.hi)) /\ Good (A.filter fun s=>!decide (s.2.1 <= g.hi)) (B.filter fun s=>!decide (s.2.1 <= g.hi)) r:=by
 have gg:=h.gg g (List.mem_cons_self ..)
 have a1:∀ s ∈ g.ones,decide (s.2.1 <= g.hi) = true:=fun s hs=>decide_eq_true (gg.ins s (List.mem_append_left _ hs)).2.2
 have a2:∀ s ∈ g.others,decide (s.2.1 <= g.hi) = true:=fun s hs=>decide_eq_true (gg.ins s (List.mem_append_right _ hs)).2.2
 have far:∀ x ∈ r,∀ s ∈ x.ones ++ x.others,decide (s.2.1 <= g.hi) = false:=fun x hx s hs=>by
  have q:=(h.gg x (List.mem_cons_of_mem _ hx)).ins s hs
  have q':=(List.pairwise_cons.mp h.ap).1 x hx
  exact decide_eq_false (by omega)
 have b1:∀ s ∈ r.flatMap G.ones,decide (s.2.1 <= g.hi) = false:=fun s hs=>by
  obtain ⟨x,hx,hs⟩:=List.mem_flatMap.mp hs
  exact far x hx s (List.mem_append_left _ hs)
 have b2:∀ s ∈ r.flatMap G.others,decide (s.2.1 <= g.hi) = false:=fun s hs=>by
  obtain ⟨x,hx,hs⟩:=List.mem_flatMap.mp hs
  exact far x hx s (List.mem_append_right _ hs)
 have pa:=h.pa
 have pb:=h.pb
 rw [List.flatMap_cons] at pa pb
 refine ⟨?_,?_,?_,?_,fun x hx=>h.gg x (List.mem_cons_of_mem _ hx),(List.pairwise_cons.mp h.ap).2⟩
 ·have:=pa.filter fun s=>decide (s.2.1 <= g.hi)
  rw [List.filter_append,filter_all a1,z6 b1,List.append_nil] at this
  exact this
 ·have:=pb.filter fun s=>decide (s.2.1 <= g.hi)
  rw [List.filter_append,filter_all a2,z6 b2,List.append_nil] at this
  exact this
 ·have:=pa.filter fun s=>!decide (s.2.1 <= g.hi)
  rw [List.filter_append,z6 (fun s hs=>by rw [a1 s hs]; rfl),filter_all (fun s hs=>by rw [b1 s hs]; rfl),List.nil_append] at this
  exact this
 ·have:=pb.filter fun s=>!decide (s.2.1 <= g.hi)
  rw [List.filter_append,z6 (fun s hs=>by rw [a2 s hs]; rfl),filter_all (fun s hs=>by rw [b2 s hs]; rfl),List.nil_append] at this
  exact this
theorem uniq {le:S α -> S α -> Prop} (anti:∀ a b,le a b -> le b a -> a = b):∀ {gs gs':List (G α)} {A B A' B':List (S α)},Good A B gs -> Good A' B' gs' -> A.Perm A' -> B.Perm B' ->
  (∀ g ∈ gs,g.ones.Pairwise le /\ g.others.Pairwise le) -> (∀ g ∈ gs',g.ones.Pairwise le /\ g.others.Pairwise le) -> gs = gs'
 | [],gs',A,B,A',B',h,h',ea,eb,_,_=>by
  have e1:A = []:=List.Perm.nil_eq h.pa |>.symm
  have e2:B = []:=List.Perm.nil_eq h.pb |>.symm
  subst e1 e2
  have e1:A' = []:=(List.Perm.nil_eq ea).symm
  have e2:B' = []:=(List.Perm.nil_eq eb).symm
  subst e1 e2
  exact h'.nil_of.symm
 | g :: r,[],A,B,A',B',h,h',ea,eb,_,_=>by
  have e1:A' = []:=List.Perm.nil_eq h'.pa |>.symm
  have e2:B' = []:=List.Perm.nil_eq h'.pb |>.symm
  subst e1 e2
  have e1:A = []:=(List.Perm.nil_eq ea.symm).symm
  have e2:B = []:=(List.Perm.nil_eq eb.symm).symm
  subst e1 e2
  exact h.nil_of
 | g :: r,g' :: r',A,B,A',B',h,h',ea,eb,o,o'=>by
  have em:∀ s,s ∈ A ++ B ↔ s ∈ A' ++ B':=fun s=>(ea.append eb).mem_iff
  have l1:=h.lo_le h' fun s=>(em s).mp
  have l2:=h'.lo_le h fun s=>(em s).mpr
  have g0:=(h.gg g (List.mem_cons_self ..)).le
  have g0':=(h'.gg g' (List.mem_cons_self ..)).le
  have u1:=h.hi_le h' (fun s=>(em s).mpr) (by omega)
  have u2:=h'.hi_le h (fun s=>(em s).mp) (by omega)
  have el:g.lo = g'.lo:=by omega
  have eh:g.hi = g'.hi:=by omega
  obtain ⟨a1,a2,a3⟩:=h.head
  obtain ⟨b1,b2,b3⟩:=h'.head
  rw [← eh] at b1 b2 b3
  have e1:g.ones = g'.ones:=((a1.trans (ea.filter _)).trans b1.symm).eq_of_pairwise (fun a b _ _=>anti a b) (o g (List.mem_cons_self ..)).1 (o' g' (List.mem_cons_self ..)).1
  have e2:g.others = g'.others:=((a2.trans (eb.filter _)).trans b2.symm).eq_of_pairwise (fun a b _ _=>anti a b) (o g (List.mem_cons_self ..)).2 (o' g' (List.mem_cons_self ..)).2
  have e3:=uniq anti a3 b3 (ea.filter _) (eb.filter _) (fun x hx=>o x (List.mem_cons_of_mem _ hx)) (fun x hx=>o' x (List.mem_cons_of_mem _ hx))
  have e0:g = g':=by
   cases g
   cases g'
   simp only at el eh e1 e2
   rw [el,eh,e1,e2]
  rw [e0,e3]
def nearB (g:G α) (s:S α):Bool:=decide (g.lo <= s.2.1) && decide (s.1 <= g.hi)
def addG (g:G α) (x:S α × Bool):G α:=⟨g.lo,max g.hi x.1.2.1,if x.2 then g.ones else g.ones ++ [x.1],if x.2 then g.others ++ [x.1] else g.others⟩
def single (x:S α × Bool):G α:=⟨x.1.1,x.1.2.1,if x.2 then [] else [x.1],if x.2 then [x.1] else []⟩
def sw:G α -> List (S α × Bool) -> List (G α)
 | g,[]=>[g]
 | g,x :: r=>if nearB g x.1 then sw (addG g x) r else g :: sw (single x) r
def sweep:List (S α × Bool) -> List (G α)
 | []=>[]
 | x :: r=>sw (single x) r
def xM (xs:List (S α × Bool)):List (S α):=(xs.filter fun x=>!x.2).map (·.1)
def yJ (xs:List (S α × Bool)):List (S α):=(xs.filter fun x=>x.2).map (·.1)
theorem single_good {x:S α × Bool} (h:x.1.1 <= x.1.2.1):GoodG (single x):=by
 have hm:x.1 ∈ (single x).ones ++ (single x).others:=by
  unfold single
  cases x.2 <;> simp
 have ho:∀ s ∈ (single x).ones ++ (single x).others,s = x.1:=fun s hs=>by
  unfold single at hs
  cases q:x.2 <;> rw [q] at hs <;> simpa using hs
 refine ⟨fun s hs=>?_,⟨x.1,hm,rfl⟩,fun c h1 h2=>⟨x.1,hm,h1,h2⟩⟩
 rw [ho s hs]
 exact ⟨Nat.le_refl _,h,Nat.le_refl _⟩
theorem addG_good {g:G α} {x:S α × Bool} (hg:GoodG g) (h:x.1.1 <= x.1.2.1) (hl:g.lo <= x.1.1) (hn:x.1.1 <= g.hi):GoodG (addG g x):=by
 have hm:∀ s,s ∈ (addG g x).ones ++ (addG g x).others ↔ s ∈ g.ones ++ g.others \/ s = x.1:=fun s=>by
  unfold addG
  cases x.2 <;> simp [or_assoc,or_comm,or_left_comm]
 have e1:(addG g x).lo = g.lo:=rfl
 have e2:(addG g x).hi = max g.hi x.1.2.1:=rfl
 refine ⟨fun s hs=>?_,?_,fun c h1 h2=>?_⟩
 ·rw [e1,e2]
  rcases (hm s).mp hs with z | rfl
  ·have:=hg.ins s z
   omega
  ·omega
 ·obtain ⟨s,hs,es⟩:=hg.low
  exact ⟨s,(hm s).mpr (.inl hs),es⟩
 ·rw [e1] at h1
  rw [e2] at h2
  rcases Nat.lt_or_ge c g.hi with z | z
  ·obtain ⟨s,hs,q⟩:=hg.cell c h1 z
   exact ⟨s,(hm s).mpr (.inl hs),q⟩
  ·exact ⟨x.1,(hm _).mpr (.inr rfl),by omega,by omega⟩
theorem sw_ones:∀ (r:List (S α × Bool)) (g:G α),(sw g r).flatMap G.ones = g.ones ++ xM r /\ (sw g r).flatMap G.others = g.others ++ yJ r
 | [],g=>by simp [sw,xM,yJ]
 | x :: r,g=>by
  unfold sw
  split
  ·obtain ⟨e1,e2⟩:=sw_ones r (addG g x)
   rw [e1,e2]
   unfold addG xM yJ
   cases q:x.2 <;> simp [q,List.filter_cons]
  ·obtain ⟨e1,e2⟩:=sw_ones r (single x)
   rw [List.flatMap_cons,List.flatMap_cons,e1,e2]
   unfold single xM yJ
   cases q:x.2 <;> simp [q,List.filter_cons]
theorem sw_lo:∀ (r:List (S α × Bool)) (g:G α),(∀ x ∈ r,g.lo <= x.1.1) -> r.Pairwise (fun x y=>x.1.1 <= y.1.1) -> ∀ h ∈ sw g r,g.lo <= h.lo
 | [],g,_,_,h,hh=>by
  rw [List.mem_singleton.mp hh]
  exact Nat.le_refl _
 | x :: r,g,hl,hp,h,hh=>by
  have hp':=List.pairwise_cons.mp hp
  unfold sw at hh
  split at hh
  ·exact sw_lo r (addG g x) (fun y hy=>hl y (List.mem_cons_of_mem _ hy)) hp'.2 h hh
  ·rcases List.mem_cons.mp hh with rfl | hh
   ·exact Nat.le_refl _
   ·exact Nat.le_trans (hl x (List.mem_cons_self ..)) (sw_lo r (single x) (fun y hy=>hp'.1 y hy) hp'.2 h hh)
theorem sw_good:∀ (r:List (S α × Bool)) (g:G α),GoodG g -> (∀ x ∈ r,g.lo <= x.1.1 /\ x.1.1 <= x.1.2.1) -> r.Pairwise (fun x y=>x.1.1 <= y.1.1) -> (∀ h ∈ sw g r,GoodG h) /\ (sw g r).Pairwise fun g h=>g.hi < h.lo
 | [],g,hg,_,_=>⟨fun h hh=>by rw [List.mem_singleton.mp hh]; exact hg,List.pairwise_singleton _ _⟩
 | x :: r,g,hg,hl,hp=>by
  have hp':=List.pairwise_cons.mp hp
  have hx:=hl x (List.mem_cons_self ..)
  unfold sw
  split
  ·next q =>
   have q:=Bool.and_eq_true_iff.mp q
   exact sw_good r (addG g x) (addG_good hg hx.2 hx.1 (of_decide_eq_true q.2)) (fun y hy=>hl y (List.mem_cons_of_mem _ hy)) hp'.2
  ·next q =>
   have far:g.hi < x.1.1:=by
    rcases Nat.lt_or_ge g.hi x.1.1 with z | z
    ·exact z
    ·exact absurd (Bool.and_eq_true_iff.mpr ⟨decide_eq_true (by omega),decide_eq_true z⟩) q
   obtain ⟨a,b⟩:=sw_good r (single x) (single_good hx.2) (fun y hy=>⟨hp'.1 y hy,(hl y (List.mem_cons_of_mem _ hy)).2⟩) hp'.2
   refine ⟨fun h hh=>?_,List.pairwise_cons.mpr ⟨fun h hh=>?_,b⟩⟩
   ·rcases List.mem_cons.mp hh with rfl | hh
    ·exact hg
    ·exact a h hh
   ·exact Nat.lt_of_lt_of_le far (sw_lo r (single x) (fun y hy=>hp'.1 y hy) hp'.2 h hh)
theorem sweep_ones (xs:List (S α × Bool)):(sweep xs).flatMap G.ones = xM xs /\ (sweep xs).flatMap G.others = yJ xs:=by
 cases xs with
 | nil=>exact ⟨rfl,rfl⟩
 | cons x r =>
  obtain ⟨e1,e2⟩:=sw_ones r (single x)
  refine ⟨e1.trans ?_,e2.trans ?_⟩
  ·unfold single xM
   cases q:x.2 <;> simp [q,List.filter_cons]
  ·unfold single yJ
   cases q:x.2 <;> simp [q,List.filter_cons]
theorem sweep_good {xs:List (S α × Bool)} (h:∀ x ∈ xs,x.1.1 <= x.1.2.1) (hp:xs.Pairwise fun x y=>x.1.1 <= y.1.1):Good (xM xs) (yJ xs) (sweep xs):=by
 obtain ⟨e1,e2⟩:=sweep_ones xs
 cases xs with
 | nil=>exact ⟨List.Perm.refl _,List.Perm.refl _,fun g hg=>(nomatch hg),List.Pairwise.nil⟩
 | cons x r =>
  have hp':=List.pairwise_cons.mp hp
  obtain ⟨a,b⟩:=sw_good r (single x) (single_good (h x (List.mem_cons_self ..))) (fun y hy=>⟨hp'.1 y hy,h y (List.mem_cons_of_mem _ hy)⟩) hp'.2
  exact ⟨e1 ▸ List.Perm.refl _,e2 ▸ List.Perm.refl _,a,b⟩
def cut {β:Type} (b:List β) (lo hi:Nat):List β:=(b.drop lo).take (hi - lo)
def there (b:List α):Nat -> Nat -> List (S α) -> List α
 | at_,hi,[]=>cut b at_ hi
 | at_,hi,s :: r=>cut b at_ s.1 ++ s.2.2 ++ there b s.2.1 hi r
def Val (n:Nat):Nat -> List (S α) -> Prop
 | at_,[]=>at_ <= n
 | at_,s :: r=>at_ <= s.1 /\ s.1 <= s.2.1 /\ Val n s.2.1 r
theorem Val.le {n:Nat}:∀ {r:List (S α)} {at_:Nat},Val n at_ r -> at_ <= n
 | [],_,h=>h
 | s :: r,at_,h=>by
  have:=h.2.2.le
  have:=h.1
  have:=h.2.1
  omega
theorem Val.mono {n:Nat} {a b:Nat} (h:a <= b):∀ {r:List (S α)},Val n b r -> Val n a r
 | [],q=>Nat.le_trans h q
 | _ :: _,q=>⟨Nat.le_trans h q.1,q.2⟩
theorem Val.join {n m:Nat}:∀ {r q:List (S α)} {a:Nat},Val m a r -> Val n m q -> Val n a (r ++ q)
 | [],q,a,h1,h2=>h2.mono h1
 | s :: r,q,a,h1,h2=>⟨h1.1,h1.2.1,Val.join h1.2.2 h2⟩
theorem cut_cut {β:Type} {b:List β} {i j k:Nat} (h1:i <= j) (h2:j <= k):cut b i j ++ cut b j k = cut b i k:=by
 unfold cut
 have e:k - i = (j - i) + (k - j):=by omega
 rw [e,List.take_add,List.drop_drop]
 congr 3
 omega
theorem cut_len {β:Type} {b:List β} {i k:Nat} (h:k <= b.length):(cut b i k).length = k - i:=by
 unfold cut
 rw [List.length_take,List.length_drop]
 omega
def del:List (S α) -> Nat
 | []=>0
 | s :: r=>s.2.1 - s.1 + del r
def put:List (S α) -> Nat
 | []=>0
 | s :: r=>s.2.2.length + put r
theorem there_len {b:List α} {n:Nat} (hn:n <= b.length):∀ {r:List (S α)} {i:Nat},Val n i r -> (there b i n r).length + del r = n - i + put r
 | [],i,h=>by
  show (cut b i n).length + 0 = n - i + 0
  rw [cut_len hn]
 | s :: r,i,h=>by
  have e:=there_len hn h.2.2
  have l:=h.2.2.le
  have:=h.1
  have:=h.2.1
  show (cut b i s.1 ++ s.2.2 ++ there b s.2.1 n r).length + (s.2.1 - s.1 + del r) = n - i + (s.2.2.length + put r)
  rw [List.length_append,List.length_append,cut_len (by omega)]
  omega
inductive Pt (α:Type) where
 | same (ls:List α)
 | clash (b m y:List α)
def flush (x:List α):List (Pt α):=if x.length = 0 then [] else [.same x]
section
variable [DecidableEq α]
def G.mine (b:List α) (g:G α):List α:=there b g.lo g.hi g.ones
def G.yours (b:List α) (g:G α):List α:=there b g.lo g.hi g.others
def G.one (b:List α) (g:G α):Option (List α):=if g.ones = [] \/ g.mine b = g.yours b then some (g.yours b) else if g.others = [] then some (g.mine b) else none
def J (b:List α):List α -> Nat -> List (G α) -> List (Pt α)
 | acc,at_,[]=>flush (acc ++ b.drop at_)
 | acc,at_,g :: r=>match g.one b with
  | some x=>J b (acc ++ cut b at_ g.lo ++ x) g.hi r
  | none=>flush (acc ++ cut b at_ g.lo) ++ .clash (cut b g.lo g.hi) (g.mine b) (g.yours b) :: J b [] g.hi r
def Chain (n:Nat) (f:G α -> List (S α)):Nat -> List (G α) -> Prop
 | i,[]=>i <= n
 | i,g :: r=>i <= g.lo /\ Val g.hi g.lo (f g) /\ Chain n f g.hi r
theorem Chain.val {n:Nat} {f:G α -> List (S α)}:∀ {gs:List (G α)} {i:Nat},Chain n f i gs -> Val n i (gs.flatMap f)
 | [],_,h=>h
 | g :: r,i,h=>by
  rw [List.flatMap_cons]
  exact (h.2.1.join (Chain.val h.2.2)).mono h.1
end
end
end AnJ
namespace AnJ
open An10
section
variable {α:Type} [DecidableEq α]
def xA (xs ys:List α):Nat -> Nat -> List (Nat × Nat) -> List (S α)
 | lo,fi,[]=>if lo < xs.length \/ fi < ys.length then [(lo,xs.length,ys.drop fi)] else []
 | lo,fi,p :: ps=>(if lo < p.1 \/ fi < p.2 then [(lo,p.1,(ys.drop fi).take (p.2 - fi))] else []) ++ xA xs ys (p.1 + 1) (p.2 + 1) ps
def spansS (xs ys:List α):List (S α):=xA xs ys 0 0 (path xs ys (xs.length + ys.length) 0 0)
theorem rise_lt {xs ys:List α}:∀ {ps:List (Nat × Nat)} {i k:Nat},Rise xs ys i k ps -> ∀ p ∈ ps,p.1 < xs.length /\ p.2 < ys.length
 | p :: ps,i,k,⟨_,_,⟨x,hx,hy⟩,r⟩,q,hq=>by
  rcases List.mem_cons.mp hq with rfl | hq
  ·exact ⟨(List.getElem?_eq_some_iff.mp hx).1,(List.getElem?_eq_some_iff.mp hy).1⟩
  ·exact rise_lt r q hq
theorem span_val {xs ys:List α}:∀ {ps:List (Nat × Nat)} {lo fi:Nat},Rise xs ys lo fi ps -> lo <= xs.length -> Val xs.length lo (xA xs ys lo fi ps)
 | [],lo,fi,_,h=>by
  unfold xA
  split
  ·exact ⟨Nat.le_refl _,h,Nat.le_refl _⟩
  ·exact h
 | p :: ps,lo,fi,r,h=>by
  have q:=(rise_lt r p (List.mem_cons_self ..)).1
  have ih:=span_val (ys:=ys) r.2.2.2 (by omega)
  have r1:=r.1
  unfold xA
  split
  ·exact ⟨Nat.le_refl _,r1,ih.mono (Nat.le_succ p.1)⟩
  ·exact ih.mono (by omega)
def Apart:List (S α) -> Prop:=List.Pairwise fun s t=>s.2.1 < t.1
theorem span_lo {xs ys:List α}:∀ {ps:List (Nat × Nat)} {lo fi:Nat},Rise xs ys lo fi ps -> ∀ s ∈ xA xs ys lo fi ps,lo <= s.1
 | [],lo,fi,_,s,hs=>by
  unfold xA at hs
  split at hs
  ·rw [List.mem_singleton.mp hs]
   exact Nat.le_refl _
  ·cases hs
 | p :: ps,lo,fi,r,s,hs=>by
  unfold xA at hs
  rcases List.mem_append.mp hs with z | z
  ·split at z
   ·rw [List.mem_singleton.mp z]
    exact Nat.le_refl _
   ·cases z
  ·have:=span_lo r.2.2.2 s z
   have:=r.1
   omega
theorem span_apart {xs ys:List α}:∀ {ps:List (Nat × Nat)} {lo fi:Nat},Rise xs ys lo fi ps -> Apart (xA xs ys lo fi ps)
 | [],lo,fi,_=>by
  unfold xA
  split
  ·exact List.pairwise_singleton _ _
  ·exact List.Pairwise.nil
 | p :: ps,lo,fi,r=>by
  have ih:=span_apart r.2.2.2
  unfold xA
  split
  ·refine List.pairwise_cons.mpr ⟨fun t ht=>?_,ih⟩
   have:=span_lo r.2.2.2 t ht
   exact this
  ·exact ih
theorem xR (xs ys:List α):Val xs.length 0 (spansS xs ys):=span_val (path_rise _ 0 0) (Nat.zero_le _)
theorem y7 (xs ys:List α):Apart (spansS xs ys):=span_apart (path_rise _ 0 0)
theorem Val.ends {n:Nat}:∀ {r:List (S α)} {i:Nat},Val n i r -> ∀ s ∈ r,i <= s.1 /\ s.1 <= s.2.1 /\ s.2.1 <= n
 | s :: r,i,h,t,ht=>by
  rcases List.mem_cons.mp ht with rfl | ht
  ·exact ⟨h.1,h.2.1,h.2.2.le⟩
  ·have:=Val.ends h.2.2 t ht
   have:=h.1
   have:=h.2.1
   omega
structure Grp (b:List α) (A B:List (S α)) (gs:List (G α)):Prop where
 good:Good A B gs
 fa:gs.flatMap G.ones = A
 fb:gs.flatMap G.others = B
theorem chain_of {n:Nat} {f:G α -> List (S α)} (hf:∀ g:G α,∀ s ∈ f g,s ∈ g.ones ++ g.others):∀ {gs:List (G α)} {i:Nat},(∀ g ∈ gs,GoodG g /\ g.hi <= n) -> (gs.Pairwise fun g h=>g.hi < h.lo) -> (∀ g ∈ gs,i <= g.lo) -> i <= n -> (gs.flatMap f).Pairwise (fun s t=>s.2.1 < t.1) -> Chain n f i gs
 | [],i,_,_,_,h,_=>h
 | g :: r,i,hg,hp,hl,hn,ho=>by
  have hp':=List.pairwise_cons.mp hp
  have gg:=hg g (List.mem_cons_self ..)
  rw [List.flatMap_cons] at ho
  have ho':=List.pairwise_append.mp ho
  refine ⟨hl g (List.mem_cons_self ..),?_,chain_of hf (fun x hx=>hg x (List.mem_cons_of_mem _ hx)) hp'.2 (fun x hx=>Nat.le_of_lt (hp'.1 x hx)) gg.2 ho'.2.1⟩
  have go:∀ {l:List (S α)} {i:Nat},(∀ s ∈ l,i <= s.1 /\ s.1 <= s.2.1 /\ s.2.1 <= g.hi) -> i <= g.hi -> l.Pairwise (fun s t=>s.2.1 < t.1) -> Val g.hi i l:=fun {l}=>by
   induction l with
   | nil=>exact fun {i} _ h _=>h
   | cons s l ih =>
    intro i h h0 hp
    have hp':=List.pairwise_cons.mp hp
    have hs:=h s (List.mem_cons_self ..)
    refine ⟨hs.1,hs.2.1,ih (fun t ht=>?_) hs.2.2 hp'.2⟩
    have:=h t (List.mem_cons_of_mem _ ht)
    have:=hp'.1 t ht
    omega
  exact go (fun s hs=>gg.1.ins s (hf g s hs)) gg.1.le ho'.1
theorem Good.hi {n:Nat} {A B:List (S α)} {gs:List (G α)} (h:Good A B gs) (hn:∀ s ∈ A ++ B,s.2.1 <= n):∀ g ∈ gs,GoodG g /\ g.hi <= n:=fun g hg=>by
 have gg:=h.gg g hg
 refine ⟨gg,?_⟩
 rcases Nat.lt_or_ge g.lo g.hi with z | z
 ·obtain ⟨s,hs,s1,s2⟩:=gg.cell (g.hi - 1) (by omega) (by omega)
  have:=hn s (h.of_mem hg hs)
  omega
 ·obtain ⟨s,hs,s1⟩:=gg.low
  have:=hn s (h.of_mem hg hs)
  have:=gg.ins s hs
  omega
theorem Grp.chains {b:List α} {A B:List (S α)} {gs:List (G α)} (h:Grp b A B gs) (va:Val b.length 0 A) (vb:Val b.length 0 B) (pa:Apart A) (pb:Apart B):Chain b.length G.ones 0 gs /\ Chain b.length G.others 0 gs:=by
 have hn:∀ s ∈ A ++ B,s.2.1 <= b.length:=fun s hs=>by
  rcases List.mem_append.mp hs with z | z
  ·exact (va.ends s z).2.2
  ·exact (vb.ends s z).2.2
 have g:=h.good.hi hn
 exact ⟨chain_of (fun g s hs=>List.mem_append_left _ hs) g h.good.ap (fun _ _=>Nat.zero_le _) (Nat.zero_le _) (by rw [h.fa]; exact pa),
  chain_of (fun g s hs=>List.mem_append_right _ hs) g h.good.ap (fun _ _=>Nat.zero_le _) (Nat.zero_le _) (by rw [h.fb]; exact pb)⟩
theorem x8 {n:Nat} {f:G α -> List (S α)}:∀ {gs:List (G α)} {i:Nat} {g:G α},Chain n f i gs -> g ∈ gs -> ∃ q1 q2,gs.flatMap f = q1 ++ f g ++ q2 /\ Val g.lo i q1 /\ Val g.hi g.lo (f g) /\ Val n g.hi q2
 | x :: r,i,g,h,hg=>by
  rcases List.mem_cons.mp hg with rfl | hg
  ·exact ⟨[],r.flatMap f,by rw [List.flatMap_cons,List.nil_append],h.1,h.2.1,h.2.2.val⟩
  ·obtain ⟨q1,q2,e,v1,v2,v3⟩:=x8 h.2.2 hg
   refine ⟨f x ++ q1,q2,by rw [List.flatMap_cons,e]; simp only [List.append_assoc],?_,v2,v3⟩
   exact (h.2.1.join v1).mono h.1
def Pt.isSame:Pt α -> Bool
 | .same _=>true
 | .clash ..=>false
end
end AnJ
namespace AxK
structure TO (β:Type) where
 lt:β -> β -> Bool
 asy:∀ a b,lt a b = true -> lt b a = false
 tra:∀ a b c,lt b a = false -> lt c b = false -> lt c a = false
 ant:∀ a b,lt a b = false -> lt b a = false -> a = b
section
variable {β γ:Type} {O:TO β}
def TO.le (O:TO β) (a b:β):Prop:=O.lt b a = false
theorem TO.refl (O:TO β) (a:β):O.le a a:=by
 show O.lt a a = false
 cases h:O.lt a a with
 | false=>rfl
 | true=>exact h.symm.trans (O.asy a a h)
theorem TO.of_lt {a b:β} (h:O.lt a b = true):O.le a b:=O.asy a b h
theorem TO.trans {a b c:β} (h1:O.le a b) (h2:O.le b c):O.le a c:=O.tra a b c h1 h2
def TO.nat:TO Nat:=⟨fun a b=>decide (a < b),fun a b h=>by have:=of_decide_eq_true h; exact decide_eq_false (by omega),fun a b c h1 h2=>by
 have:=of_decide_eq_false h1
 have:=of_decide_eq_false h2
 exact decide_eq_false (by omega),fun a b h1 h2=>by
 have:=of_decide_eq_false h1
 have:=of_decide_eq_false h2
 omega⟩
def TO.bool:TO Bool:=⟨fun a b=>!a && b,by decide,by decide,by decide⟩
def qE (O:TO β) (P:TO γ) (a b:β × γ):Bool:=O.lt a.1 b.1 || (!O.lt b.1 a.1 && P.lt a.2 b.2)
def TO.pair (O:TO β) (P:TO γ):TO (β × γ):=⟨qE O P,fun a b h=>by
 unfold qE at h ⊢
 cases h1:O.lt a.1 b.1 with
 | true =>
  rw [O.asy _ _ h1]
  simp
 | false =>
  rw [h1] at h
  have h:O.lt b.1 a.1 = false /\ P.lt a.2 b.2 = true:=by simpa using h
  rw [h.1,P.asy _ _ h.2]
  rfl,fun a b c h1 h2=>by
 unfold qE at h1 h2 ⊢
 have h1:=Bool.or_eq_false_iff.mp h1
 have h2:=Bool.or_eq_false_iff.mp h2
 rw [O.tra _ _ _ h1.1 h2.1,Bool.false_or]
 cases q:O.lt a.1 c.1 with
 | true=>rfl
 | false =>
  have e1:a.1 = c.1:=O.ant _ _ q (O.tra _ _ _ h1.1 h2.1)
  have e2:O.lt a.1 b.1 = false:=by rw [e1]; exact h2.1
  have e3:O.lt b.1 c.1 = false:=by rw [← e1]; exact h1.1
  have g1:P.lt b.2 a.2 = false:=by have:=h1.2; rw [e2] at this; simpa using this
  have g2:P.lt c.2 b.2 = false:=by have:=h2.2; rw [e3] at this; simpa using this
  rw [P.tra _ _ _ g1 g2]
  rfl,fun a b h1 h2=>by
 unfold qE at h1 h2
 have h1:=Bool.or_eq_false_iff.mp h1
 have h2:=Bool.or_eq_false_iff.mp h2
 have e:=O.ant _ _ h1.1 h2.1
 have g1:P.lt a.2 b.2 = false:=by have:=h1.2; rw [h2.1] at this; simpa using this
 have g2:P.lt b.2 a.2 = false:=by have:=h2.2; rw [h1.1] at this; simpa using this
 exact Prod.ext e (P.ant _ _ g1 g2)⟩
def yA (O:TO β):List β -> List β -> Bool
 | [],[]=>false
 | [],_ :: _=>true
 | _ :: _,[]=>false
 | a :: as,b :: bs=>O.lt a b || (!O.lt b a && yA O as bs)
theorem list_asy (O:TO β):∀ a b:List β,yA O a b = true -> yA O b a = false
 | [],[],h=>nomatch h
 | [],_ :: _,_=>rfl
 | _ :: _,[],h=>nomatch h
 | a :: as,b :: bs,h=>by
  unfold yA at h ⊢
  cases h1:O.lt a b with
  | true =>
   rw [O.asy _ _ h1]
   simp
  | false =>
   rw [h1] at h
   have h:O.lt b a = false /\ yA O as bs = true:=by simpa using h
   rw [h.1,list_asy O as bs h.2]
   rfl
theorem list_ant (O:TO β):∀ a b:List β,yA O a b = false -> yA O b a = false -> a = b
 | [],[],_,_=>rfl
 | [],_ :: _,h,_=>nomatch h
 | _ :: _,[],_,h=>nomatch h
 | a :: as,b :: bs,h1,h2=>by
  unfold yA at h1 h2
  have h1:=Bool.or_eq_false_iff.mp h1
  have h2:=Bool.or_eq_false_iff.mp h2
  have e:=O.ant _ _ h1.1 h2.1
  have g1:yA O as bs = false:=by have:=h1.2; rw [h2.1] at this; simpa using this
  have g2:yA O bs as = false:=by have:=h2.2; rw [h1.1] at this; simpa using this
  rw [e,list_ant O as bs g1 g2]
theorem list_tra (O:TO β):∀ a b c:List β,yA O b a = false -> yA O c b = false -> yA O c a = false
 | [],[],c,_,h=>h
 | [],_ :: _,[],_,_=>rfl
 | [],_ :: _,_ :: _,_,_=>rfl
 | _ :: _,[],c,h,_=>nomatch h
 | _ :: _,_ :: _,[],_,h=>nomatch h
 | a :: as,b :: bs,c :: cs,h1,h2=>by
  unfold yA at h1 h2 ⊢
  have h1:=Bool.or_eq_false_iff.mp h1
  have h2:=Bool.or_eq_false_iff.mp h2
  rw [O.tra _ _ _ h1.1 h2.1,Bool.false_or]
  cases q:O.lt a c with
  | true=>rfl
  | false =>
   have e1:a = c:=O.ant _ _ q (O.tra _ _ _ h1.1 h2.1)
   have e2:O.lt a b = false:=by rw [e1]; exact h2.1
   have e3:O.lt b c = false:=by rw [← e1]; exact h1.1
   have g1:yA O bs as = false:=by have:=h1.2; rw [e2] at this; simpa using this
   have g2:yA O cs bs = false:=by have:=h2.2; rw [e3] at this; simpa using this
   rw [list_tra O as bs cs g1 g2]
   rfl
def TO.list (O:TO β):TO (List β):=⟨yA O,list_asy O,list_tra O,list_ant O⟩
def TO.by_ (O:TO β) (f:γ -> β) (h:∀ a b,f a = f b -> a = b):TO γ:=⟨fun a b=>O.lt (f a) (f b),fun a b=>O.asy _ _,fun a b c=>O.tra _ _ _,fun a b h1 h2=>h a b (O.ant _ _ h1 h2)⟩
theorem TO.anti {a b:β} (h1:O.le a b) (h2:O.le b a):a = b:=O.ant a b h2 h1
end
end AxK
namespace AnJ
open AxK
section
variable {α:Type} [DecidableEq α]
def spanO (T:TO α):TO (S α):=TO.pair TO.nat (TO.pair TO.nat (TO.list T))
theorem span_le {T:TO α} {s t:S α} (h:(spanO T).le s t):s.1 <= t.1:=by
 have h:qE TO.nat (TO.pair TO.nat (TO.list T)) t s = false:=h
 unfold qE at h
 have:=of_decide_eq_false (Bool.or_eq_false_iff.mp h).1
 omega
theorem span_lt {T:TO α} {s t:S α} (h:s.1 < t.1):(spanO T).le s t:=by
 refine TO.of_lt ?_
 show qE TO.nat (TO.pair TO.nat (TO.list T)) s t = true
 unfold qE
 rw [show TO.nat.lt s.1 t.1 = true from decide_eq_true h]
 rfl
theorem xB {T:TO α} {n i:Nat} {A:List (S α)} (v:Val n i A) (p:Apart A):A.Pairwise (spanO T).le :=
 p.imp_of_mem fun {s t} hs ht h=>span_lt (by have:=(v.ends s hs).2.1; omega)
def both (A B:List (S α)):List (S α × Bool):=A.map (fun s=>(s,false)) ++ B.map fun s=>(s,true)
theorem ones_both (A B:List (S α)):xM (both A B) = A:=by
 unfold xM both
 rw [List.filter_append,filter_all (p:=fun x:S α × Bool=>!x.2) (fun x hx=>by obtain ⟨s,_,rfl⟩:=List.mem_map.mp hx; rfl),z6 (p:=fun x:S α × Bool=>!x.2) (fun x hx=>by obtain ⟨s,_,rfl⟩:=List.mem_map.mp hx; rfl),List.append_nil,List.map_map]
 exact List.map_id' _
theorem others_both (A B:List (S α)):yJ (both A B) = B:=by
 unfold yJ both
 rw [List.filter_append,z6 (p:=fun x:S α × Bool=>x.2) (fun x hx=>by obtain ⟨s,_,rfl⟩:=List.mem_map.mp hx; rfl),filter_all (p:=fun x:S α × Bool=>x.2) (fun x hx=>by obtain ⟨s,_,rfl⟩:=List.mem_map.mp hx; rfl),List.nil_append,List.map_map]
 exact List.map_id' _
theorem sweep_grp {T:TO α} {b:List α} {A B:List (S α)} {xs:List (S α × Bool)} (va:Val b.length 0 A) (vb:Val b.length 0 B) (pa:Apart A) (pb:Apart B) (hp:xs.Perm (both A B)) (ho:xs.Pairwise fun x y=>(spanO T).le x.1 y.1):Grp b A B (sweep xs):=by
 have ends:∀ x ∈ xs,x.1.1 <= x.1.2.1:=fun x hx=>by
  rcases List.mem_append.mp (hp.mem_iff.mp hx) with z | z
  ·obtain ⟨s,hs,rfl⟩:=List.mem_map.mp z
   exact (va.ends s hs).2.1
  ·obtain ⟨s,hs,rfl⟩:=List.mem_map.mp z
   exact (vb.ends s hs).2.1
 have e1:xM xs = A:=by
  have p1:(xM xs).Perm (xM (both A B)):=(hp.filter _).map _
  rw [ones_both] at p1
  refine p1.eq_of_pairwise (le:=(spanO T).le) (fun a b _ _=>TO.anti) ?_ (xB va pa)
  exact List.pairwise_map.mpr (ho.filter _)
 have e2:yJ xs = B:=by
  have p1:(yJ xs).Perm (yJ (both A B)):=(hp.filter _).map _
  rw [others_both] at p1
  refine p1.eq_of_pairwise (le:=(spanO T).le) (fun a b _ _=>TO.anti) ?_ (xB vb pb)
  exact List.pairwise_map.mpr (ho.filter _)
 have g:=sweep_good ends (ho.imp fun h=>span_le h)
 obtain ⟨f1,f2⟩:=sweep_ones xs
 rw [e1,e2] at g
 exact ⟨g,f1.trans e1,f2.trans e2⟩
theorem flat_part {β γ:Type} {f:γ -> List β} {le:β -> β -> Prop}:∀ {gs:List γ},(gs.flatMap f).Pairwise le -> ∀ g ∈ gs,(f g).Pairwise le
 | x :: r,h,g,hg=>by
  rw [List.flatMap_cons] at h
  have h':=List.pairwise_append.mp h
  rcases List.mem_cons.mp hg with rfl | hg
  ·exact h'.1
  ·exact flat_part h'.2.1 g hg
theorem Grp.sorted {T:TO α} {b:List α} {A B:List (S α)} {gs:List (G α)} (h:Grp b A B gs) (va:Val b.length 0 A) (vb:Val b.length 0 B) (pa:Apart A) (pb:Apart B):∀ g ∈ gs,g.ones.Pairwise (spanO T).le /\ g.others.Pairwise (spanO T).le:=fun g hg =>
 ⟨flat_part (by rw [h.fa]; exact xB va pa) g hg,flat_part (by rw [h.fb]; exact xB vb pb) g hg⟩
theorem Grp.uniq (T:TO α) {b:List α} {A B:List (S α)} {gs gs':List (G α)} (h:Grp b A B gs) (va:Val b.length 0 A) (vb:Val b.length 0 B) (pa:Apart A) (pb:Apart B) (h':Good A B gs') (o:∀ g ∈ gs',g.ones.Pairwise (spanO T).le /\ g.others.Pairwise (spanO T).le):gs' = gs :=
 AnJ.uniq (le:=(spanO T).le) (fun a b=>TO.anti) h' h.good (List.Perm.refl _) (List.Perm.refl _) o (h.sorted va vb pa pb)
theorem Grp.some {b:List α} {A B:List (S α)} {gs:List (G α)} (h:Grp b A B gs):∀ g ∈ gs,g.ones ++ g.others ≠ []:=fun g hg z=>by
 obtain ⟨s,hs,_⟩:=(h.good.gg g hg).low
 rw [z] at hs
 cases hs
def Joined (b m y:List α) (ps:List (Pt α)):Prop:=∃ gs,Grp b (spansS b m) (spansS b y) gs /\ ps = J b [] 0 gs
theorem Joined.uniq (T:TO α) {b m y:List α} {ps qs:List (Pt α)} (h:Joined b m y ps) (h':Joined b m y qs):ps = qs:=by
 obtain ⟨gs,g,rfl⟩:=h
 obtain ⟨hs,g',rfl⟩:=h'
 have:=g.uniq T (xR b m) (xR b y) (y7 b m) (y7 b y) g'.good (g'.sorted (xR b m) (xR b y) (y7 b m) (y7 b y))
 rw [this]
end
end AnJ
namespace AxK
open PySem PySem.W PyProof.Rows
def run {β:Type} (lt:Nat -> Nat -> Bool):KasT β -> β
 | .ret a=>a
 | .ask i j k=>run lt (k (lt i j))
theorem run_bind {β γ:Type} {lt:Nat -> Nat -> Bool} {f:β -> KasT γ}:∀ t:KasT β,run lt (t.bind f) = run lt (f (run lt t))
 | .ret _=>rfl
 | .ask i j k=>run_bind (k (lt i j))
section
variable {β:Type} {O:TO β} {key:Nat -> β}
def kn (key:Nat -> β) (p:Array Nat) (i:Nat):β:=key (p.getD i 0)
def Up (O:TO β) (key:Nat -> β) (p:Array Nat) (n:Nat):Prop:=∀ i j,i <= j -> j < n -> O.le (kn key p i) (kn key p j)
def Down (O:TO β) (key:Nat -> β) (p:Array Nat) (n:Nat):Prop:=∀ i j,i <= j -> j < n -> O.le (kn key p j) (kn key p i)
theorem kn_of {p q:Array Nat} {i j:Nat} (h:p[i]? = q[j]?):kn key p i = kn key q j:=by
 unfold kn
 rw [Array.getD_eq_getD_getElem?,Array.getD_eq_getD_getElem?,h]
theorem Up.snoc {p:Array Nat} {n:Nat} (h1:1 <= n) (h:Up O key p n) (hl:O.le (kn key p (n - 1)) (kn key p n)):Up O key p (n + 1):=fun i j hij hj=>by
 by_cases z:j < n
 ·exact h i j hij z
 ·have z:j = n:=by omega
  subst z
  by_cases z:i = j
  ·subst z
   exact O.refl _
  ·exact TO.trans (h i (j - 1) (by omega) (by omega)) hl
theorem Down.snoc {p:Array Nat} {n:Nat} (h1:1 <= n) (h:Down O key p n) (hl:O.le (kn key p n) (kn key p (n - 1))):Down O key p (n + 1):=fun i j hij hj=>by
 by_cases z:j < n
 ·exact h i j hij z
 ·have z:j = n:=by omega
  subst z
  by_cases z:i = j
  ·subst z
   exact O.refl _
  ·exact TO.trans hl (h i (j - 1) (by omega) (by omega))
theorem one_up (p:Array Nat):Up O key p 1:=fun i j hij hj=>by
 have:i = j:=by omega
 subst this
 exact O.refl _
theorem asc_ok {p:Array Nat}:∀ (f n:Nat),1 <= n -> Up O key p n -> ∃ m,run (fun i j=>O.lt (key i) (key j)) (kas_asc p f n) = m /\ n <= m /\ m <= n + f /\ Up O key p m /\ (m = n + f \/ O.lt (kn key p m) (kn key p (m - 1)) = true)
 | 0,n,_,h=>⟨n,rfl,Nat.le_refl _,Nat.le_refl _,h,.inl rfl⟩
 | f + 1,n,h1,h=>by
  unfold kas_asc
  show ∃ m,run _ (if O.lt (kn key p n) (kn key p (n - 1)) = true then KasT.ret n else kas_asc p f (n + 1)) = m /\ _
  cases q:O.lt (kn key p n) (kn key p (n - 1)) with
  | true=>exact ⟨n,by rw [if_pos rfl]; rfl,Nat.le_refl _,by omega,h,.inr q⟩
  | false =>
   rw [if_neg (by decide)]
   obtain ⟨m,e,a,b,c,d⟩:=asc_ok f (n + 1) (by omega) (h.snoc h1 q)
   exact ⟨m,e,by omega,by omega,c,d.imp (fun z=>by omega) id⟩
theorem rev_kn {p:Array Nat} {i j:Nat} (hj:j <= p.size) (k:Nat):kn key (kas_rev p i j) k = if i <= k /\ k < j then kn key p (i + j - 1 - k) else kn key p k:=by
 have e:=getElem?_mirror_all (i:=i) hj k
 unfold kas_rev
 by_cases z:i <= k /\ k < j
 ·rw [if_pos z] at e ⊢
  exact kn_of e
 ·rw [if_neg z] at e ⊢
  exact kn_of e
theorem rev_flat {p:Array Nat} {i j:Nat} (hj:j <= p.size) (h:∀ k,i <= k -> k < j -> kn key p k = kn key p (j - 1)) (k:Nat):kn key (kas_rev p i j) k = kn key p k:=by
 rw [rev_kn hj]
 split
 ·rw [h _ (by omega) (by omega),h k (by omega) (by omega)]
 ·rfl
theorem yO (p:Array Nat) (i j:Nat):(kas_rev p i j).Perm p:=mirror_perm _ _ _ _
theorem Down.of_kn {p q:Array Nat} {n:Nat} (h:Down O key p n) (e:∀ k,kn key q k = kn key p k):Down O key q n:=fun i j h1 h2=>by
 rw [e,e]
 exact h i j h1 h2
def Flat (key:Nat -> β) (p:Array Nat) (n q:Nat):Prop:=q + 1 <= n /\ ∀ i,n - (q + 1) <= i -> i < n -> kn key p i = kn key p (n - 1)
theorem flat_one {p:Array Nat} {n:Nat} (h:1 <= n):Flat key p n 0:=⟨h,fun i h1 h2=>by
 have:i = n - 1:=by omega
 rw [this]⟩
theorem desc_ok:∀ (f:Nat) (p:Array Nat) (n q:Nat),1 <= n -> n + f <= p.size -> Down O key p n -> Flat key p n q ->
  ∃ p' n' q',run (fun i j=>O.lt (key i) (key j)) (kas_desc f p n q) = (p',n',q') /\ p'.Perm p /\ n <= n' /\ n' <= n + f /\ Down O key p' n' /\ Flat key p' n' q'
 | 0,p,n,q,_,_,h,hq=>⟨p,n,q,rfl,Array.Perm.refl _,Nat.le_refl _,Nat.le_refl _,h,hq⟩
 | f + 1,p,n,q,h1,hz,h,hq=>by
  unfold kas_desc
  show ∃ p' n' q',run (fun i j=>O.lt (key i) (key j)) (if O.lt (kn key p n) (kn key p (n - 1)) = true then (if q > 0 then kas_desc f (kas_rev p (n - (q + 1)) n) (n + 1) 0 else kas_desc f p (n + 1) 0)
   else .ask (p.getD (n - 1) 0) (p.getD n 0) fun d=>if d = true then .ret (p,n,q) else kas_desc f p (n + 1) (q + 1)) = (p',n',q') /\ _
  cases c:O.lt (kn key p n) (kn key p (n - 1)) with
  | true =>
   rw [if_pos rfl]
   have hd:=h.snoc h1 (TO.of_lt c)
   by_cases z:q > 0
   ·rw [if_pos z]
    have fl:=rev_flat (key:=key) (p:=p) (i:=n - (q + 1)) (j:=n) (by omega) hq.2
    obtain ⟨p',n',q',e,a,b,d,g,k⟩:=desc_ok f (kas_rev p (n - (q + 1)) n) (n + 1) 0 (by omega) (by rw [(yO p _ _).size_eq]; omega) (hd.of_kn fl) (flat_one (by omega))
    exact ⟨p',n',q',e,a.trans (yO _ _ _),by omega,by omega,g,k⟩
   ·rw [if_neg z]
    obtain ⟨p',n',q',e,a,b,d,g,k⟩:=desc_ok f p (n + 1) 0 (by omega) (by omega) hd (flat_one (by omega))
    exact ⟨p',n',q',e,a,by omega,by omega,g,k⟩
  | false =>
   rw [if_neg (by decide)]
   show ∃ p' n' q',run (fun i j=>O.lt (key i) (key j)) (if O.lt (kn key p (n - 1)) (kn key p n) = true then KasT.ret (p,n,q) else kas_desc f p (n + 1) (q + 1)) = (p',n',q') /\ _
   cases d:O.lt (kn key p (n - 1)) (kn key p n) with
   | true=>exact ⟨p,n,q,by rw [if_pos rfl]; rfl,Array.Perm.refl _,Nat.le_refl _,by omega,h,hq⟩
   | false =>
    rw [if_neg (by decide)]
    have eq:kn key p n = kn key p (n - 1):=O.ant _ _ c d
    have fl:Flat key p (n + 1) (q + 1):=⟨by have:=hq.1; omega,fun i i1 i2=>by
     rw [show n + 1 - 1 = n by omega]
     by_cases z:i = n
     ·rw [z]
     ·rw [eq]
      exact hq.2 i (by omega) (by omega)⟩
    obtain ⟨p',n',q',e,a,b,g,k,l⟩:=desc_ok f p (n + 1) (q + 1) (by omega) (by omega) (h.snoc h1 d) fl
    exact ⟨p',n',q',e,a,by omega,by omega,k,l⟩
theorem tail3_ok {p:Array Nat} {n nrem:Nat} (h1:1 <= n) (hn:n <= nrem) (hz:nrem <= p.size) (h:Down O key p n) :
  ∃ m p',run (fun i j=>O.lt (key i) (key j)) (kas_tail3 n nrem p) = (m,p') /\ p'.Perm p /\ 1 <= m /\ m <= nrem /\ Up O key p' m:=by
 have up:Up O key (kas_rev p 0 n) n:=fun i j hij hj=>by
  rw [rev_kn (by omega),rev_kn (by omega),if_pos (by omega),if_pos (by omega)]
  exact h _ _ (by omega) (by omega)
 obtain ⟨m,e,a,b,c,_⟩:=asc_ok (nrem - n) n h1 up
 refine ⟨m,kas_rev p 0 n,?_,yO _ _ _,by omega,by omega,c⟩
 unfold kas_tail3
 rw [run_bind,e]
 rfl
theorem descPart_ok {p:Array Nat} {n nrem:Nat} (hn:n + 1 <= nrem) (hz:nrem <= p.size) (h:Down O key p (n + 1)) :
  ∃ m p',run (fun i j=>O.lt (key i) (key j)) (kas_descPart n nrem p) = (m,p') /\ p'.Perm p /\ 1 <= m /\ m <= nrem /\ Up O key p' m:=by
 obtain ⟨p',n',q',e,a,b,c,d,fl⟩:=desc_ok (nrem - (n + 1)) p (n + 1) 0 (by omega) (by omega) h (flat_one (by omega))
 have hz':nrem <= p'.size:=by rw [a.size_eq]; exact hz
 unfold kas_descPart
 rw [run_bind,e]
 show ∃ m p'',run _ (if q' > 0 then kas_tail3 n' nrem (kas_rev p' (n' - (q' + 1)) n') else kas_tail3 n' nrem p') = (m,p'') /\ _
 by_cases z:q' > 0
 ·rw [if_pos z]
  have hf:=rev_flat (key:=key) (p:=p') (i:=n' - (q' + 1)) (j:=n') (by omega) fl.2
  obtain ⟨m,p'',e1,a1,b1,c1,d1⟩:=tail3_ok (nrem:=nrem) (by omega) (by omega) (by rw [(yO p' _ _).size_eq]; exact hz') (d.of_kn hf)
  exact ⟨m,p'',e1,(a1.trans (yO _ _ _)).trans a,b1,c1,d1⟩
 ·rw [if_neg z]
  obtain ⟨m,p'',e1,a1,b1,c1,d1⟩:=tail3_ok (nrem:=nrem) (by omega) (by omega) hz' d
  exact ⟨m,p'',e1,a1.trans a,b1,c1,d1⟩
theorem count_ok {p:Array Nat} {nrem:Nat} (h1:1 <= nrem) (hz:nrem <= p.size) :
  ∃ m p',run (fun i j=>O.lt (key i) (key j)) (kas_count nrem p) = (m,p') /\ p'.Perm p /\ 1 <= m /\ m <= nrem /\ Up O key p' m:=by
 obtain ⟨n,e,a,b,c,d⟩:=asc_ok (O:=O) (key:=key) (p:=p) (nrem - 1) 1 (Nat.le_refl _) (one_up p)
 unfold kas_count
 rw [run_bind,e]
 by_cases z:n = nrem
 ·rw [if_pos (by simpa using z)]
  exact ⟨n,p,rfl,Array.Perm.refl _,a,by omega,c⟩
 rw [if_neg (by simpa using z)]
 have less:O.lt (kn key p n) (kn key p (n - 1)) = true:=d.resolve_left (by omega)
 by_cases g:n > 1
 ·rw [if_pos g]
  show ∃ m p',run _ (if O.lt (kn key p 0) (kn key p (n - 1)) = true then KasT.ret (n,p) else kas_descPart n nrem (kas_rev p 0 n)) = (m,p') /\ _
  cases q:O.lt (kn key p 0) (kn key p (n - 1)) with
  | true =>
   rw [if_pos rfl]
   exact ⟨n,p,rfl,Array.Perm.refl _,a,by omega,c⟩
  | false =>
   rw [if_neg (by decide)]
   have flat:∀ k,0 <= k -> k < n -> kn key p k = kn key p (n - 1):=fun k _ hk =>
    O.ant _ _ (TO.trans q (c 0 k (by omega) hk)) (c k (n - 1) (by omega) (by omega))
   have fl:=rev_flat (key:=key) (p:=p) (i:=0) (j:=n) (by omega) flat
   have dn:Down O key p n:=fun i j hij hj=>by
    rw [flat i (by omega) (by omega),flat j (by omega) hj]
    exact O.refl _
   obtain ⟨m,p',e1,a1,b1,c1,d1⟩:=descPart_ok (O:=O) (key:=key) (p:=kas_rev p 0 n) (n:=n) (nrem:=nrem) (by omega) (by rw [(yO p _ _).size_eq]; exact hz) ((dn.snoc a (TO.of_lt less)).of_kn fl)
   exact ⟨m,p',e1,a1.trans (yO _ _ _),b1,c1,d1⟩
 ·rw [if_neg g]
  have g:n = 1:=by omega
  subst g
  exact descPart_ok (by omega) hz (Down.snoc (Nat.le_refl _) (fun i j hij hj=>by
   have:i = j:=by omega
   subst this
   exact O.refl _) (TO.of_lt less))
theorem place_ok {p:Array Nat} {k:Nat} (hs:Up O key p k):∀ (f l r:Nat),l <= r -> r <= k -> r - l <= f -> (∀ i,i < l -> O.le (kn key p i) (kn key p k)) -> (∀ i,r <= i -> i < k -> O.lt (kn key p k) (kn key p i) = true) ->
  ∃ m,run (fun i j=>O.lt (key i) (key j)) (kas_place p k f l r) = m /\ m <= k /\ (∀ i,i < m -> O.le (kn key p i) (kn key p k)) /\ (∀ i,m <= i -> i < k -> O.lt (kn key p k) (kn key p i) = true)
 | 0,l,r,h1,h2,h3,h4,h5=>⟨l,rfl,by omega,h4,fun i i1 i2=>h5 i (by omega) i2⟩
 | f + 1,l,r,h1,h2,h3,h4,h5=>by
  unfold kas_place
  by_cases z:l ≥ r
  ·rw [if_pos z]
   exact ⟨l,rfl,by omega,h4,fun i i1 i2=>h5 i (by omega) i2⟩
  rw [if_neg z]
  show ∃ m,run _ (if O.lt (kn key p k) (kn key p ((l + r) / 2)) = true then kas_place p k f l ((l + r) / 2) else kas_place p k f ((l + r) / 2 + 1) r) = m /\ _
  cases q:O.lt (kn key p k) (kn key p ((l + r) / 2)) with
  | true =>
   rw [if_pos rfl]
   refine place_ok hs f l ((l + r) / 2) (by omega) (by omega) (by omega) h4 fun i i1 i2=>?_
   cases w:O.lt (kn key p k) (kn key p i) with
   | true=>rfl
   | false =>
    have:=O.tra _ _ _ (hs _ _ i1 i2) w
    rw [q] at this
    exact this.symm
  | false =>
   rw [if_neg (by decide)]
   exact place_ok hs f ((l + r) / 2 + 1) r (by omega) (by omega) (by omega) (fun i i1=>TO.trans (hs i ((l + r) / 2) (by omega) (by omega)) q) h5
theorem bubble_kn {p:Array Nat} {k l:Nat} (hk:k < p.size) (hl:l <= k) (i:Nat):kn key (bubble p k (k - l)) i = if i = l then kn key p k else if l < i /\ i <= k then kn key p (i - 1) else kn key p i:=by
 have e:=getElem?_bubble hk (k - l) (by omega) i
 rw [show k - (k - l) = l by omega] at e
 by_cases z:i = l
 ·rw [if_pos z] at e ⊢
  exact kn_of e
 ·rw [if_neg z] at e ⊢
  by_cases z:l < i /\ i <= k
  ·rw [if_pos z] at e ⊢
   exact kn_of e
  ·rw [if_neg z] at e ⊢
   exact kn_of e
theorem bin_ok:∀ (f:Nat) (p:Array Nat) (k:Nat),k + f <= p.size -> Up O key p k -> ∃ p',run (fun i j=>O.lt (key i) (key j)) (kas_bin f p k) = p' /\ p'.Perm p /\ Up O key p' (k + f)
 | 0,p,k,_,h=>⟨p,rfl,Array.Perm.refl _,h⟩
 | f + 1,p,k,hz,h=>by
  obtain ⟨m,e,a,b,c⟩:=place_ok h k 0 k (by omega) (Nat.le_refl _) (by omega) (fun i hi=>by omega) (fun i i1 i2=>by omega)
  have up:Up O key (bubble p k (k - m)) (k + 1):=fun i j hij hj=>by
   rw [bubble_kn (by omega) a,bubble_kn (by omega) a]
   repeat' split
   all_goals first
    | (exfalso; omega)
    | exact O.refl _
    | exact b _ (by omega)
    | exact TO.of_lt (c _ (by omega) (by omega))
    | exact h _ _ (by omega) (by omega)
  obtain ⟨p',e1,a1,b1⟩:=bin_ok f (bubble p k (k - m)) (k + 1) (by rw [bubble_size]; omega) up
  unfold kas_bin
  rw [run_bind,e]
  exact ⟨p',e1,a1.trans (bubble_perm _ _ _),by rw [show k + (f + 1) = k + 1 + f by omega]; exact b1⟩
theorem sort_ok {n:Nat} (h1:1 <= n):∃ p',run (fun i j=>O.lt (key i) (key j)) (kas_sort n) = p' /\ p'.Perm (List.toArray (List.range n)) /\ Up O key p' n:=by
 have hz:(List.toArray (List.range n)).size = n:=by simp
 obtain ⟨m,p',e,a,b,c,d⟩:=count_ok (O:=O) (key:=key) (p:=List.toArray (List.range n)) (nrem:=n) h1 (Nat.le_of_eq hz.symm)
 unfold kas_sort
 rw [run_bind,e]
 show ∃ p'',run _ (if m < n then kas_bin (n - max m 1) p' (max m 1) else KasT.ret p') = p'' /\ _
 have em:max m 1 = m:=by omega
 rw [em]
 by_cases z:m < n
 ·rw [if_pos z]
  obtain ⟨p'',e1,a1,b1⟩:=bin_ok (n - m) p' m (by rw [a.size_eq,hz]; omega) d
  exact ⟨p'',e1,a1.trans a,by rw [show m + (n - m) = n by omega] at b1; exact b1⟩
 ·rw [if_neg z]
  have z:m = n:=by omega
  rw [z] at d
  exact ⟨p',rfl,a,d⟩
end
def Asks (n:Nat) {β:Type} (R:β -> Prop):KasT β -> Prop
 | .ret a=>R a
 | .ask i j k=>i < n /\ j < n /\ ∀ b,Asks n R (k b)
theorem Asks.bind {n:Nat} {β γ:Type} {R:β -> Prop} {R':γ -> Prop} {f:β -> KasT γ} (hf:∀ a,R a -> Asks n R' (f a)):∀ {t:KasT β},Asks n R t -> Asks n R' (t.bind f)
 | .ret a,h=>hf a h
 | .ask i j k,h=>⟨h.1,h.2.1,fun b=>Asks.bind hf (h.2.2 b)⟩
theorem Asks.wp {n:Nat} {β:Type} {R:β -> Prop} {cmp:Nat -> Nat -> (Bool -> Shared -> Prop) -> Shared -> Prop} {lt:Nat -> Nat -> Bool} {s:Shared} (hc:∀ i j,i < n -> j < n -> ∀ C:Bool -> Shared -> Prop,C (lt i j) s -> cmp i j C s) {Q:β -> Shared -> Prop} :
  ∀ {t:KasT β},Asks n R t -> Q (run lt t) s -> t.kasWp cmp Q s
 | .ret _,_,q=>q
 | .ask i j k,h,q=>hc i j h.1 h.2.1 _ (Asks.wp hc (h.2.2 _) q)
def Bd (n:Nat) (p:Array Nat):Prop:=∀ i:Nat,p.getD i 0 < n
theorem Bd.perm {n:Nat} {p q:Array Nat} (h:Bd n p) (e:q.Perm p):Bd n q:=fun i=>by
 rw [Array.getD_eq_getD_getElem?]
 rcases Nat.lt_or_ge i q.size with z | z
 ·rw [getElem?_pos q i z]
  have hm:q[i] ∈ p:=e.mem_iff.mp (Array.getElem_mem z)
  obtain ⟨j,hj,ej⟩:=Array.getElem_of_mem hm
  have:=h j
  rw [Array.getD_eq_getD_getElem?,getElem?_pos p j hj,ej] at this
  exact this
 ·rw [Array.getElem?_eq_none z]
  have:=h p.size
  rw [Array.getD_eq_getD_getElem?,Array.getElem?_eq_none (Nat.le_refl _)] at this
  exact this
theorem asc_asks {n:Nat} {p:Array Nat} (h:Bd n p):∀ f m:Nat,Asks n (fun _=>True) (kas_asc p f m)
 | 0,m=>trivial
 | f + 1,m=>⟨h _,h _,fun c=>by
  show Asks n _ (if c = true then KasT.ret m else kas_asc p f (m + 1))
  split
  ·trivial
  ·exact asc_asks h f (m + 1)⟩
theorem qF {n:Nat}:∀ (f:Nat) (p:Array Nat) (m q:Nat),Bd n p -> Asks n (fun r=>Bd n r.1) (kas_desc f p m q)
 | 0,p,m,q,h=>h
 | f + 1,p,m,q,h=>⟨h _,h _,fun c=>by
  cases c with
  | true =>
   show Asks n _ (if q > 0 then kas_desc f (kas_rev p (m - (q + 1)) m) (m + 1) 0 else kas_desc f p (m + 1) 0)
   split
   ·exact qF f _ _ _ (h.perm (yO _ _ _))
   ·exact qF f _ _ _ h
  | false =>
   refine ⟨h _,h _,fun d=>?_⟩
   cases d with
   | true=>exact h
   | false=>exact qF f _ _ _ h⟩
theorem tail3_asks {n m r:Nat} {p:Array Nat} (h:Bd n p):Asks n (fun r=>Bd n r.2) (kas_tail3 m r p):=by
 have h':Bd n (kas_rev p 0 m):=h.perm (yO _ _ _)
 unfold kas_tail3
 refine Asks.bind (fun a _=>?_) (asc_asks h' _ _)
 exact h'
theorem qI {n m r:Nat} {p:Array Nat} (h:Bd n p):Asks n (fun r=>Bd n r.2) (kas_descPart m r p):=by
 refine Asks.bind (fun a ha=>?_) (qF _ _ _ _ h)
 show Asks n _ (if a.2.2 > 0 then _ else _)
 split
 ·exact tail3_asks (Bd.perm ha (yO _ _ _))
 ·exact tail3_asks ha
theorem count_asks {n r:Nat} {p:Array Nat} (h:Bd n p):Asks n (fun r=>Bd n r.2) (kas_count r p):=by
 refine Asks.bind (fun a _=>?_) (asc_asks h _ _)
 show Asks n _ (if (a == r) = true then _ else _)
 split
 ·exact h
 ·split
  ·refine ⟨h _,h _,fun c=>?_⟩
   cases c with
   | true=>exact h
   | false=>exact qI (h.perm (yO _ _ _))
  ·exact qI h
theorem qS {n k:Nat} {p:Array Nat} (h:Bd n p):∀ f l r:Nat,Asks n (fun _=>True) (kas_place p k f l r)
 | 0,l,r=>trivial
 | f + 1,l,r=>by
  unfold kas_place
  split
  ·trivial
  ·refine ⟨h _,h _,fun c=>?_⟩
   cases c with
   | true=>exact qS h f _ _
   | false=>exact qS h f _ _
theorem bin_asks {n:Nat}:∀ (f:Nat) (p:Array Nat) (k:Nat),Bd n p -> Asks n (fun r=>Bd n r) (kas_bin f p k)
 | 0,p,k,h=>h
 | f + 1,p,k,h=>Asks.bind (fun l _=>bin_asks f _ _ (h.perm (bubble_perm _ _ _))) (qS h _ _ _)
theorem sort_asks {n:Nat} (h1:1 <= n):Asks n (fun r=>Bd n r) (kas_sort n):=by
 have h:Bd n (List.toArray (List.range n)):=fun i=>by
  rw [Array.getD_eq_getD_getElem?,List.getElem?_toArray]
  rcases Nat.lt_or_ge i n with z | z
  ·rw [List.getElem?_range z]
   exact z
  ·rw [List.getElem?_eq_none (by rw [List.length_range]; exact z)]
   exact h1
 refine Asks.bind (fun a ha=>?_) (count_asks h)
 show Asks n _ (if a.1 < n then _ else _)
 split
 ·exact bin_asks _ _ _ ha
 ·exact ha
end AxK
namespace L2
open PySem PyProof.Rows
mutual
def Lt1:PyData -> PyData -> Bool -> Prop
 | .int a,.int b,r=>r = decide (a < b)
 | .str a,.str b,r=>r = decide (a.cps.toList < b.cps.toList)
 | .tuple xs,.tuple ys,r=>LtL xs ys r
 | _,_,_=>False
def LtL:List PyData -> List PyData -> Bool -> Prop
 | [],ys,r=>r = decide (0 < ys.length)
 | _ :: _,[],r=>r = false
 | x :: xs,y :: ys,r=>(PyData.eqv x y = true /\ LtL xs ys r) \/ (PyData.eqv x y = false /\ Lt1 x y r)
end
section
variable {prog:Program} {w:World}
def Asked (prog:Program) (w:World) (A:Around) (r:Bool) (fin:Bool) (s:Shared):List (Value × Value) -> Prop
 | []=>fin = r
 | p :: l=>(∀ (Q:Bool -> Shared -> Prop) (E:Value -> Shared -> Prop),Q true s -> wpAny (model prog w) A (eqBool p.1 p.2) Q E s) /\ Asked prog w A r fin s l \/
  (∀ (Q:Bool -> Shared -> Prop) (E:Value -> Shared -> Prop),Q false s -> wpAny (model prog w) A (eqBool p.1 p.2) Q E s) /\
  (∀ (Q:Value -> Shared -> Prop) (E:Value -> Shared -> Prop),Q (.bool r) s -> wpAny (model prog w) A (richCompare .Lt p.1 p.2) Q E s)
theorem tuple_lt_tree {A:Around} {E:Value -> Shared -> Prop} {s:Shared} {a b:Addr} {oa ob:Obj} {xs ys:Array Value} {na nb:Nat} {r:Bool} {P:Fin -> Shared -> Prop}
  (hoa:s.heap.get? a = some oa) (hda:oa.data = .seq xs na) (hob:s.heap.get? b = some ob) (hcb:ob.cls = .type "tuple") (hdb:ob.data = .seq ys nb)
  (hq:Asked prog w A r (decide (xs.size < ys.size)) s (xs.toList.zip ys.toList)) (h:P (.done (.ret (.bool r))) s) :
  wpAny (model prog w) A (Builtin.«tuple.__lt__» ⟨[.ref a,.ref b],[]⟩) P E s:=by
 have hTb:s.TypeIs (.ref b) "tuple":=⟨ob,hob,hcb⟩
 show wpAny _ _ (isInstance (.ref b) (.type "tuple") >>= _) _ _ s
 refine wpAny_bind (wpAny_isInstance hTb isSubtype_tuple_tuple ?_)
 simp only [Bool.not_true,Bool.false_eq_true,if_false]
 refine wpAny_bind (wpAny_tupleItemsOf hoa hda (wpAny_bind (wpAny_tupleItemsOf hob hdb (wpAny_bind ?_))))
 refine wpAny_forIn_list _ (fun rest c s'=>c.1 = none /\ s' = s /\ Asked prog w A r (decide (xs.size < ys.size)) s rest) _ ?_ ?_ _ _ ⟨rfl,rfl,hq⟩
 ·rintro ⟨u,v⟩ rest c s' ⟨hc,rfl,ha⟩
  rcases ha with ⟨h1,h2⟩ | ⟨h1,h2⟩
  ·refine wpAny_bind (h1 _ _ ?_)
   simp only [Bool.not_true,Bool.false_eq_true,if_false]
   exact wpAny_pure ⟨rfl,rfl,h2⟩
  ·refine wpAny_bind (h1 _ _ ?_)
   simp only [Bool.not_false,if_true]
   refine wpAny_bind (wpAny_rule (wpAny_bind (h2 _ _ (wpAny_bind (wpAny_pure (wpAny_pure ?_))))))
   exact wpAny_pure h
 ·rintro ⟨c1,c2⟩ s' ⟨hc,rfl,ha⟩
  simp only at hc
  subst hc
  refine wpAny_pure ?_
  have ha:decide (xs.size < ys.size) = r:=ha
  show P (.done (.ret (.bool (decide (xs.size < ys.size))))) s'
  rw [ha]
  exact h
def LtAt (prog:Program) (w:World) (d:PyData):Prop:=∀ (e:PyData) (r:Bool) (A:Around) (s:Shared) (a b:Value) (as bs:List Addr),Reads s.heap a d as -> Reads s.heap b e bs -> d.canLay0 = true -> e.canLay0 = true -> A.units + min d.depth e.depth < cLine -> Lt1 d e r ->
  ∀ (Q:Value -> Shared -> Prop) (E:Value -> Shared -> Prop),Q (.bool r) s -> wpAny (model prog w) A (richCompare .Lt a b) Q E s
def LtsAt (prog:Program) (w:World) (xs:List PyData):Prop:=∀ (ys:List PyData) (r:Bool) (A:Around) (s:Shared) (vs us:List Value) (as bs:List Addr),ReadsAll s.heap vs xs as -> ReadsAll s.heap us ys bs -> PyData.canLayAll0 xs = true -> PyData.canLayAll0 ys = true -> A.units + min (PyData.depthAll xs) (PyData.depthAll ys) < cLine -> LtL xs ys r ->
  ∀ k:Nat,Asked prog w A r (decide (k + vs.length < k + us.length)) s (vs.zip us)
theorem lt_int_at (i:Int):LtAt prog w (.int i):=by
 intro e r A s a b as bs ra rb _ _ _ h Q E q
 cases e with
 | int j =>
  cases ra
  cases rb
  cases (show r = _ from h)
  exact (lt_int q:wpAny _ _ (compareOp .Lt _ _) _ _ _)
 | _=>exact False.elim h
theorem lt_str_at (i:Str):LtAt prog w (.str i):=by
 intro e r A s a b as bs ra rb _ _ _ h Q E q
 cases e with
 | str j =>
  cases ra
  cases rb
  cases (show r = _ from h)
  exact (lt_str q:wpAny _ _ (compareOp .Lt _ _) _ _ _)
 | _=>exact False.elim h
theorem lt_tup_at {xs:List PyData} (ih:LtsAt prog w xs):LtAt prog w (.tuple xs):=by
 intro e r A s a b as bs ra rb ha hb hu h Q E q
 cases e with
 | tuple ys =>
  cases ra with
  | tuple h1 h2 h3 h4 =>
   cases rb with
   | tuple k1 k2 k3 k4 =>
    have asked:=ih ys r A.in1 s _ _ _ _ h4 k4 ha hb (SeqAt.room_in hu) h 0
    rw [Nat.zero_add,Nat.zero_add,Array.length_toList,Array.length_toList] at asked
    exact wpAny_richCompare_same_room (op:=.Lt) ⟨_,h1,h2⟩ ⟨_,k1,k2⟩ F.slot_tuple_lt
     (wpAny_call_entry F.slot_tuple_lt ⟨_,h1,h2⟩ F.entry_tuple_lt (tuple_lt_tree h1 h3 k1 k2 k3 (r:=r) asked ⟨_,rfl,(fun e=>nomatch e),q⟩) (F.args_tuple_lt_2 _ _)) (SeqAt.room_here hu)
 | _=>exact False.elim h
theorem lts_nil:LtsAt prog w []:=by
 intro ys r A s vs us as bs rx ry _ _ _ h k
 cases rx
 have e:us.length = ys.length:=SeqAt.ReadsAll.length _ _ _ ry
 rw [List.zip_nil_left]
 show decide (k + 0 < k + us.length) = r
 rw [show r = _ from h,e]
 exact decide_eq_decide.mpr (by omega)
theorem lts_cons {x:PyData} {xs:List PyData} (h1:LtAt prog w x) (h2:LtsAt prog w xs):LtsAt prog w (x :: xs):=by
 intro ys r A s vs us as bs rx ry hx hy hu h k
 cases ys with
 | nil =>
  cases ry
  cases rx
  rw [List.zip_nil_right]
  show decide (k + _ < k + 0) = r
  rw [show r = _ from h]
  exact decide_eq_false (by omega)
 | cons y ys =>
  have hx':x.canLay0 = true /\ PyData.canLayAll0 xs = true:=by simpa [PyData.canLayAll0] using hx
  have hy':y.canLay0 = true /\ PyData.canLayAll0 ys = true:=by simpa [PyData.canLayAll0] using hy
  have hu1:A.units + min x.depth y.depth < cLine:=SeqAt.room_head hu
  have hu2:A.units + min (PyData.depthAll xs) (PyData.depthAll ys) < cLine:=SeqAt.room_tail hu
  cases rx with
  | @cons v vs _ _ _ _ p1 p2 =>
   cases ry with
   | @cons u us _ _ _ _ q1 q2 =>
    rw [List.zip_cons_cons]
    have h:(PyData.eqv x y = true /\ LtL xs ys r) \/ (PyData.eqv x y = false /\ Lt1 x y r):=h
    rcases h with ⟨e,h⟩ | ⟨e,h⟩
    ·refine .inl ⟨fun Q E q=>SeqAt.eqBoolOverData prog w A E s _ _ _ _ _ _ Q p1 q1 hx'.1 hy'.1 hu1 (by rw [e]; exact q),?_⟩
     have ih:=h2 ys r A s _ _ _ _ p2 q2 hx'.2 hy'.2 hu2 h (k + 1)
     rw [List.length_cons,List.length_cons,show k + (vs.length + 1) = k + 1 + vs.length by omega,show k + (us.length + 1) = k + 1 + us.length by omega]
     exact ih
    ·exact .inr ⟨fun Q E q=>SeqAt.eqBoolOverData prog w A E s _ _ _ _ _ _ Q p1 q1 hx'.1 hy'.1 hu1 (by rw [e]; exact q),fun Q E q=>h1 y r A s _ _ _ _ p1 q1 hx'.1 hy'.1 hu1 h Q E q⟩
mutual
theorem lt1_ok:∀ d:PyData,LtAt prog w d
 | .int i=>lt_int_at i
 | .str i=>lt_str_at i
 | .tuple xs=>lt_tup_at (ltL_ok xs)
 | .none=>fun e r A s a b as bs ra rb _ _ _ h=>False.elim h
 | .bool _=>fun e r A s a b as bs ra rb _ _ _ h=>False.elim h
 | .list _=>fun e r A s a b as bs ra rb _ _ _ h=>False.elim h
 | .dict _=>fun e r A s a b as bs ra rb _ _ _ h=>False.elim h
theorem ltL_ok:∀ xs:List PyData,LtsAt prog w xs
 | []=>lts_nil
 | x :: xs=>lts_cons (lt1_ok x) (ltL_ok xs)
end
end
end L2
namespace L2
open PySem PySem.Spec PyProof.Rows PySem.W AxK
section
variable {prog:Program} {w:World} {A:Around} {E:Value -> Shared -> Prop} {s:Shared}
theorem sort_shell {a:Addr} {vs:List Value} {n:Nat} {κ:SortKind} {lt:Nat -> Nat -> Bool} {P:PySem.Fin -> Shared -> Prop} (ho:s.heap.get? a = some (seqObj "list" vs.toArray n)) (h64:vs.length < 64)
  (hk:2 <= vs.length -> ∀ s1:Shared,(∀ b o,b ≠ a -> s.heap.get? b = some o -> s1.heap.get? b = some o) -> (∀ (Q:SortKind -> Shared -> Prop) (E':Value -> Shared -> Prop),Q κ s1 -> wpAny (model prog w) A (keyKind' vs.toArray) Q E' s1) /\
   ∀ i j,i < vs.length -> j < vs.length -> ∀ C:Bool -> Shared -> Prop,C (lt i j) s1 -> kas_ask prog w A κ vs i j C s1)
  (h:∀ p:Array Nat,(vs.length < 2 /\ p = List.toArray (List.range vs.length)) \/ (2 <= vs.length /\ p = run lt (kas_sort vs.length)) -> P (.done (.ret .none)) { s with heap:=sortedHeap s.heap a vs (List.toArray (p.toList.map fun i=>vs.getD i Value.none)) }) :
  wpAny (model prog w) A (Builtin.«list.sort» ⟨[.ref a],[]⟩) P E s:=by
 have ha:a < s.heap.objs.size:=Heap.lt_size ho
 have e0:=Heap.SameBut.update s.heap a (Obj.mapSeq fun _=>(#[]:Array Value))
 obtain ⟨n1,ho1⟩:∃ e1,(s.heap.update a (Obj.mapSeq fun _=>(#[]:Array Value))).get? a = some (seqObj "list" #[] e1):=⟨_,get?_update_seq ho fun _=>#[]⟩
 have ho2:(((s.heap.update a (Obj.mapSeq fun _=>(#[]:Array Value))).push (seqObj "tuple" vs.toArray 0)).push (seqObj "list" #[] 0)).get? a = some (seqObj "list" #[] n1):=Heap.get?_push_of_some _ (Heap.get?_push_of_some _ ho1)
 have keep:∀ b o,b ≠ a -> s.heap.get? b = some o -> (((s.heap.update a (Obj.mapSeq fun _=>(#[]:Array Value))).push (seqObj "tuple" vs.toArray 0)).push (seqObj "list" #[] 0)).get? b = some o:=fun b o hb q =>
  Heap.get?_push_of_some _ (Heap.get?_push_of_some _ (by rw [Heap.get?_update_ne _ _ _ _ hb]; exact q))
 have hsz:vs.toArray.size = vs.length:=by simp
 rw [list_sort_plain]
 refine wpAny_bind (listItems_at ho rfl (wpAny_bind (listUpdate_at ho rfl (wpAny_bind (seqEpoch_at ho1 rfl (wpAny_bind (wpAny_newTuple (wpAny_bind (wpAny_newList (wpAny_holding ?_) (Nat.zero_le _))) (by show vs.length <= _; rw [sizeLine_eq]; omega))))) (by rw [List.size_toArray,sizeLine_eq]; omega) (Nat.zero_le _))))
 show wpAny (model prog w) A _ P E { s with heap:=((s.heap.update a (Obj.mapSeq fun _=>#[])).push (seqObj "tuple" vs.toArray 0)).push (seqObj "list" #[] 0) }
 dsimp only
 by_cases h2:vs.length < 2
 ·have fin:=h (List.toArray (List.range vs.length)) (.inl ⟨h2,rfl⟩)
  have eo:(List.toArray ((List.toArray (List.range vs.length)).toList.map fun i=>vs.getD i Value.none)) = (vs.toArray.zip vs.toArray).map (·.2):=by
   have e:=kas_range (vs.toArray.zip vs.toArray)
   rw [show (vs.toArray.zip vs.toArray).size = vs.length by simp] at e
   exact (kat_snds (ks:=vs) (vs:=vs) (st:=SortSt.mk' general' (vs.toArray.zip vs.toArray) #[] 7 none) rfl e.symm).symm
  rw [eo] at fin
  rw [if_pos (by rw [hsz]; exact h2),if_pos (by rw [hsz]; exact h2)]
  refine wpAny_bind (wpAny_pure ?_)
  rw [StateT.run_pure]
  refine wpAny_bind (wpAny_pure ?_)
  dsimp only
  refine wpAny_bind (seqEpoch_at ho2 rfl (wpAny_bind (listUpdate_at ho2 rfl ?_ (Nat.zero_le _) (by rw [Array.size_map,Array.size_zip,hsz,Nat.min_self,sizeLine_eq]; omega))))
  simp only [bne_self_eq_false,Bool.false_eq_true,if_false]
  exact wpAny_pure fin
 ·have h2':2 <= vs.length:=by omega
  rw [if_neg (by rw [hsz]; exact h2),if_neg (by rw [hsz]; exact h2)]
  obtain ⟨k1,k2⟩:=hk h2' { s with heap:=((s.heap.update a (Obj.mapSeq fun _=>(#[]:Array Value))).push (seqObj "tuple" vs.toArray 0)).push (seqObj "list" #[] 0) } keep
  refine wpAny_bind (k1 _ _ ?_)
  have asked:(kas_sort vs.length).kasWp (kas_ask prog w A κ vs) (fun p s'=>p = run lt (kas_sort vs.length) /\ s' = { s with heap:=((s.heap.update a (Obj.mapSeq fun _=>(#[]:Array Value))).push (seqObj "tuple" vs.toArray 0)).push (seqObj "list" #[] 0) })
    { s with heap:=((s.heap.update a (Obj.mapSeq fun _=>(#[]:Array Value))).push (seqObj "tuple" vs.toArray 0)).push (seqObj "list" #[] 0) }:=(sort_asks (by omega)).wp k2 ⟨rfl,rfl⟩
  refine wpAny_bind (wpAny_mono (kat_run (Q:=fun st' s'=>arrOf st' = (run lt (kas_sort vs.length)).map (kas_item (vs.toArray.zip vs.toArray)) /\ failedOf st' = none /\ (run lt (kas_sort vs.length)).size = vs.length /\ s' = { s with heap:=((s.heap.update a (Obj.mapSeq fun _=>(#[]:Array Value))).push (seqObj "tuple" vs.toArray 0)).push (seqObj "list" #[] 0) })
   rfl h2' h64 (fun p' st' s' a1 a2 a3 a4=>by obtain ⟨rfl,rfl⟩:=a4; exact ⟨a2,a3,a1,rfl⟩) asked) ?_ fun _ _ e=>e)
  rintro ⟨⟨⟩,st'⟩ s' ⟨har,hf,hp,rfl⟩
  dsimp only
  have hout:=kat_snds rfl har
  rw [hout]
  refine wpAny_bind (seqEpoch_at ho2 rfl (wpAny_bind (listUpdate_at ho2 rfl ?_ (Nat.zero_le _) (by rw [List.size_toArray,List.length_map,Array.length_toList,hp,sizeLine_eq]; omega))))
  rw [hf]
  simp only [bne_self_eq_false,Bool.false_eq_true,if_false]
  exact wpAny_pure (h _ (.inr ⟨h2',rfl⟩))
def First (T:String):PyData -> Prop
 | .tuple (.int _ :: _)=>T = "int"
 | .tuple (.str _ :: _)=>T = "str"
 | .tuple (.tuple _ :: _)=>T = "tuple"
 | _=>False
def KeepAt (h h':Heap) (d:PyData):Prop:=∀ (v:Value) (as:List Addr),d.canLay0 = true -> Reads h v d as -> Reads h' v d as
def KeepsAt (h h':Heap) (ds:List PyData):Prop:=∀ (vs:List Value) (as:List Addr),PyData.canLayAll0 ds = true -> ReadsAll h vs ds as -> ReadsAll h' vs ds as
mutual
theorem reads_keep {h h':Heap} (k:∀ b o,h.get? b = some o -> h'.get? b = some o):∀ d:PyData,KeepAt h h' d
 | .none=>fun v as _ r=>by cases r; exact .none
 | .bool _=>fun v as _ r=>by cases r; exact .bool _
 | .int _=>fun v as _ r=>by cases r; exact .int _ _
 | .str _=>fun v as _ r=>by cases r; exact .str _ _
 | .list xs=>fun v as l r=>by
  have ih:=yW k xs
  cases r with
  | list h1 h2 h3 h4=>exact .list (k _ _ h1) h2 h3 (ih _ _ l h4)
 | .tuple xs=>fun v as l r=>by
  have ih:=yW k xs
  cases r with
  | tuple h1 h2 h3 h4=>exact .tuple (k _ _ h1) h2 h3 (ih _ _ l h4)
 | .dict kvs=>fun v as l r=>nomatch l
theorem yW {h h':Heap} (k:∀ b o,h.get? b = some o -> h'.get? b = some o):∀ ds:List PyData,KeepsAt h h' ds
 | []=>fun vs as _ r=>by cases r; exact .nil
 | d :: ds=>fun vs as l r=>by
  have i1:=reads_keep k d
  have i2:=yW k ds
  have l:d.canLay0 = true /\ PyData.canLayAll0 ds = true:=by simpa [PyData.canLayAll0] using l
  cases r with
  | cons h1 h2=>exact .cons (i1 _ _ l.1 h1) (i2 _ _ l.2 h2)
end
theorem firsts_of {h:Heap} {T:String}:∀ {ds:List PyData} {us:List Value} {as:List Addr},ReadsAll h us ds as -> (∀ d ∈ ds,First T d) -> ∃ fs:List Value,fs.length = ds.length /\ KatTups h us fs /\ ∀ v ∈ fs,(T = "int" /\ ∃ i t,v = .int i t) \/ (T = "str" /\ ∃ i t,v = .str i t) \/ (T = "tuple" /\ ∃ a o,v = .ref a /\ h.get? a = some o /\ o.cls = .type "tuple")
 | [],_,_,r,_=>by
  cases r
  exact ⟨[],rfl,KatTups.nil,fun v hv=>(nomatch hv)⟩
 | d :: ds,_,_,r,hf=>by
  cases r with
  | cons r1 r2 =>
   obtain ⟨fs,e1,e2,e3⟩:=firsts_of r2 fun x hx=>hf x (List.mem_cons_of_mem _ hx)
   have hd:=hf d (List.mem_cons_self ..)
   unfold First at hd
   split at hd
   all_goals first
    | exact hd.elim
    | (cases r1 with
     | tuple h1 h2 h3 h4 =>
      rename_i vsx nx
      cases q:vsx.toList with
      | nil=>rw [q] at h4; cases h4
      | cons v0 vr =>
       rw [q] at h4
       have q0:vsx[0]? = some v0:=by rw [← Array.getElem?_toList,q]; rfl
       cases h4 with
       | cons g1 g2 =>
        refine ⟨v0 :: fs,by rw [List.length_cons,List.length_cons,e1],KatTups.cons h1 h2 h3 q0 e2,fun v hv=>?_⟩
        rcases List.mem_cons.mp hv with rfl | hv
        ·cases g1
         first
          | exact .inl ⟨hd,_,_,rfl⟩
          | exact .inr (.inl ⟨hd,_,_,rfl⟩)
          | (rename_i k1 k2 k3 k4; exact .inr (.inr ⟨hd,_,_,rfl,k1,k2⟩))
        ·exact e3 v hv)
theorem kind_ok {T:String} {ds:List PyData} {us:List Value} {as:List Addr} (r:ReadsAll s.heap us ds as) (hf:∀ d ∈ ds,First T d) (hn:0 < ds.length) {Q:SortKind -> Shared -> Prop} (q:Q (tuples' (Value.type T != Value.type "tuple")) s) :
  wpAny (model prog w) A (keyKind' us.toArray) Q E s:=by
 obtain ⟨fs,e1,e2,e3⟩:=firsts_of r hf
 refine kat_kind e2 (by omega) (T:=.type T) (fun v hv=>?_) (by simp) q
 rcases e3 v hv with ⟨rfl,i,t,rfl⟩ | ⟨rfl,i,t,rfl⟩ | ⟨rfl,a,o,rfl,ho,hc⟩
 ·exact .now
 ·exact .now
 ·rw [← hc]
  exact (Looks.ld ho).andThen .now
def Plain2 (x y:PyData):Prop:=(∃ i j,x = .int i /\ y = .int j) \/ (∃ i j,x = .str i /\ y = .str j)
theorem lex_ok {b:Bool} {Q:Bool -> Shared -> Prop} {r:Bool} (q:Q r s) (xs:List PyData):∀ (ys:List PyData) (vs us:List Value) (as bs:List Addr) (i k:Nat),ReadsAll s.heap vs xs as -> ReadsAll s.heap us ys bs -> PyData.canLayAll0 xs = true -> PyData.canLayAll0 ys = true -> A.units + min (PyData.depthAll xs) (PyData.depthAll ys) < cLine ->
  LtL xs ys r -> (b = true -> i = 0 -> ∀ x xs' y ys',xs = x :: xs' -> ys = y :: ys' -> Plain2 x y) -> KatLex prog w A b (decide (k + vs.length < k + us.length)) Q (vs.zip us) i s:=by
 induction xs with
 | nil =>
  intro ys vs us as bs i k rx ry _ _ _ h _
  cases rx
  have e:us.length = ys.length:=SeqAt.ReadsAll.length _ _ _ ry
  rw [List.zip_nil_left]
  show Q (decide (k + 0 < k + us.length)) s
  rw [show decide (k + 0 < k + us.length) = r by rw [show r = _ from h,e]; exact decide_eq_decide.mpr (by omega)]
  exact q
 | cons x xs ih =>
  intro ys vs us as bs i k rx ry hx hy hu h hb
  cases ys with
  | nil =>
   cases ry
   cases rx with
   | @cons v vs _ _ _ _ p1 p2 =>
    rw [List.zip_nil_right]
    show Q (decide (k + (vs.length + 1) < k + 0)) s
    rw [show decide (k + (vs.length + 1) < k + 0) = r by rw [show r = _ from h]; exact decide_eq_false (by omega)]
    exact q
  | cons y ys =>
   have hx':x.canLay0 = true /\ PyData.canLayAll0 xs = true:=by simpa [PyData.canLayAll0] using hx
   have hy':y.canLay0 = true /\ PyData.canLayAll0 ys = true:=by simpa [PyData.canLayAll0] using hy
   have hu1:A.units + min x.depth y.depth < cLine:=SeqAt.room_head hu
   have hu2:A.units + min (PyData.depthAll xs) (PyData.depthAll ys) < cLine:=SeqAt.room_tail hu
   cases rx with
   | @cons v vs _ _ _ _ p1 p2 =>
    cases ry with
    | @cons u us _ _ _ _ q1 q2 =>
     rw [List.zip_cons_cons]
     refine kat_cons ?_
     have h:(PyData.eqv x y = true /\ LtL xs ys r) \/ (PyData.eqv x y = false /\ Lt1 x y r):=h
     rcases h with ⟨e,h⟩ | ⟨e,h⟩
     ·refine SeqAt.eqBoolOverData prog w A _ s _ _ _ _ _ _ _ p1 q1 hx'.1 hy'.1 hu1 ?_
      rw [e]
      refine kat_yes ?_
      have ih:=ih ys vs us _ _ (i + 1) (k + 1) p2 q2 hx'.2 hy'.2 hu2 h (fun _ z=>by omega)
      rw [List.length_cons,List.length_cons,show k + (vs.length + 1) = k + 1 + vs.length by omega,show k + (us.length + 1) = k + 1 + us.length by omega]
      exact ih
     ·refine SeqAt.eqBoolOverData prog w A _ s _ _ _ _ _ _ _ p1 q1 hx'.1 hy'.1 hu1 ?_
      rw [e]
      refine kat_no ?_
      cases c:(b && i == 0) with
      | true =>
       have c':b = true /\ i = 0:=by simpa using c
       rcases hb c'.1 c'.2 x xs y ys rfl rfl with ⟨i1,j1,rfl,rfl⟩ | ⟨i1,j1,rfl,rfl⟩
       ·cases p1
        cases q1
        refine kat_lt_int ?_
        rw [← (show r = _ from h)]
        exact q
       ·cases p1
        cases q1
        refine kas_lt_str ?_
        rw [← (show r = _ from h)]
        exact q
      | false=>exact kat_one _ _ (lt1_ok x y r A s _ _ _ _ p1 q1 hx'.1 hy'.1 hu1 h _ _ q)
theorem key_lt_ok {T:String} {d e:PyData} {u v:Value} {as bs:List Addr} {r:Bool} {C:Bool -> Shared -> Prop} (ru:Reads s.heap u d as) (rv:Reads s.heap v e bs) (fd:First T d) (fe:First T e) (ld:d.canLay0 = true) (le:e.canLay0 = true) (hu:A.units + min d.depth e.depth < cLine) (h:Lt1 d e r) (c:C r s) :
  wpAny (model prog w) A (keyLt' (tuples' (Value.type T != Value.type "tuple")) u v) C (fun _ _=>False) s:=by
 cases d with
 | tuple xs =>
  cases e with
  | tuple ys =>
   cases ru with
   | tuple h1 h2 h3 h4 =>
    cases rv with
    | tuple k1 k2 k3 k4 =>
     refine kat_lt h1 h3 k1 k3 ?_
     have:=lex_ok (prog:=prog) (w:=w) (A:=A) (b:=(Value.type T != Value.type "tuple")) c xs ys _ _ _ _ 0 0 h4 k4 ld le (by
      have e1:(PyData.tuple xs).depth = PyData.depthAll xs + 1:=rfl
      have e2:(PyData.tuple ys).depth = PyData.depthAll ys + 1:=rfl
      rw [e1,e2] at hu
      omega) h (fun hb _ x xs' y ys' ex ey=>by
      subst ex ey
      unfold First at fd fe
      split at fd
      ·rename_i e
       cases e
       split at fe
       ·rename_i e; cases e; exact .inl ⟨_,_,rfl,rfl⟩
       ·rw [fd] at fe; exact absurd fe (by decide)
       ·rw [fd] at fe; exact absurd fe (by decide)
       ·exact fe.elim
      ·rename_i e
       cases e
       split at fe
       ·rw [fd] at fe; exact absurd fe (by decide)
       ·rename_i e; cases e; exact .inr ⟨_,_,rfl,rfl⟩
       ·rw [fd] at fe; exact absurd fe (by decide)
       ·exact fe.elim
      ·subst fd
       simp at hb
      ·exact fd.elim)
     simpa using this
  | _=>exact fe.elim
 | _=>exact fd.elim
end
section
variable {X:Cx} {K:PySem.W.Frag}
def rSortedT (K:PySem.W.Frag):List V -> Hp -> VK -> Prop:=fun xs H Q=>∃ (a:Addr) (vs:List V) (ds:List PyData) (T:String) (β:Type) (O:AxK.TO β) (key:PyData -> β),xs = [.ref a] /\ SqL K H a vs /\ DtAll K H ds vs /\ ds.length < 64 /\ (∀ d ∈ ds,First T d /\ d.canLay0 = true /\ d.depth <= 60) /\
 (∀ d ∈ ds,∀ e ∈ ds,Lt1 d e (O.lt (key d) (key e))) /\ ∀ l vs' ds',H l = none -> ds'.Perm ds -> DtAll K H ds' vs' -> (ds'.Pairwise fun d e=>O.le (key d) (key e)) -> (∀ v ∈ vs',v ∈ vs) -> Q (.ref l) (upd H l (.lst vs'))
theorem vals_pick:∀ {vs:List V} {us:List Value},Vals vs us -> ∀ (p:List Nat),(∀ i ∈ p,i < vs.length) -> Vals (p.map fun i=>vs.getD i .non) (p.map fun i=>us.getD i Value.none)
 | vs,us,r,[],_=>.nil
 | vs,us,r,i :: p,h=>by
  refine .cons ?_ (vals_pick r p fun j hj=>h j (List.mem_cons_of_mem _ hj))
  have hi:=h i (List.mem_cons_self ..)
  have go:∀ {vs:List V} {us:List Value} (i:Nat),Vals vs us -> i < vs.length -> RelV (vs.getD i .non) (us.getD i Value.none):=fun {vs us} i r hi=>by
   induction i generalizing vs us with
   | zero =>
    cases r with
    | nil=>exact absurd hi (Nat.not_lt_zero _)
    | cons a b=>exact a
   | succ i ih =>
    cases r with
    | nil=>exact absurd hi (Nat.not_lt_zero _)
    | cons a b=>exact ih b (by simpa using hi)
  exact go i r hi
theorem dt_pick {H:Hp} {ds:List PyData} {vs:List V} (h:DtAll K H ds vs):∀ (p:List Nat),(∀ i ∈ p,i < vs.length) -> DtAll K H (p.map fun i=>ds.getD i .none) (p.map fun i=>vs.getD i .non)
 | [],_=>rfl
 | i :: p,hp=>by
  have hi:=hp i (List.mem_cons_self ..)
  obtain ⟨d,e1,e2⟩:=h.get (List.getElem?_eq_getElem hi)
  refine ⟨vs.getD i .non,_,rfl,?_,dt_pick h p fun j hj=>hp j (List.mem_cons_of_mem _ hj)⟩
  show Dt K H (ds.getD i .none) (vs.getD i .non)
  rw [List.getD_eq_getElem?_getD,List.getD_eq_getElem?_getD,e1,List.getElem?_eq_getElem hi]
  exact e2
theorem reads_get {h:Heap}:∀ {ds:List PyData} {us:List Value} {as:List Addr} (i:Nat),ReadsAll h us ds as -> i < ds.length -> ∃ bs,Reads h (us.getD i Value.none) (ds.getD i .none) bs
 | [],_,_,i,_,hi=>absurd hi (Nat.not_lt_zero _)
 | d :: ds,_,_,0,r,_=>by
  cases r with
  | cons r1 r2=>exact ⟨_,r1⟩
 | d :: ds,_,_,i + 1,r,hi=>by
  cases r with
  | cons r1 r2=>exact reads_get i r2 (by simpa using hi)
theorem pick_all {β:Type} {l:List β} {z:β}:(List.range l.length).map (fun i=>l.getD i z) = l:=by
 apply List.ext_getElem?
 intro i
 rw [List.getElem?_map]
 rcases Nat.lt_or_ge i l.length with q | q
 ·rw [List.getElem?_range q,List.getElem?_eq_getElem q]
  simp [List.getD_eq_getElem?_getD,List.getElem?_eq_getElem q]
 ·rw [List.getElem?_eq_none (by rw [List.length_range]; exact q),List.getElem?_eq_none q]
  rfl
theorem call_sortedT (hu:X.A.units + 64 < cLine) (hK:X.K = K:=by rfl):CallR X (.builtin "sorted") (rSortedT K):=by
 subst hK
 intro pins s σ H xs us Q I r h
 obtain ⟨a,vs,ds,T,β,O,key,rfl,ha,hds,h64,hd,hlt,q⟩:=h
 obtain ⟨u,rfl,ru⟩:=vals1 r
 cases ru
 obtain ⟨its,rv,pl,hz⟩:=I.list ha
 obtain ⟨as,rd⟩:=DtAll.reads I ds vs its hds rv
 have l1:vs.length = ds.length:=hds.length
 have l2:its.length = ds.length:=SeqAt.ReadsAll.length _ _ _ rd
 have lay:PyData.canLayAll0 ds = true:=by
  have go:∀ l:List PyData,(∀ d ∈ l,d.canLay0 = true) -> PyData.canLayAll0 l = true:=fun l=>by
   induction l with
   | nil=>exact fun _=>rfl
   | cons d l ih =>
    intro hl
    show (d.canLay0 && PyData.canLayAll0 l) = true
    rw [hl d (List.mem_cons_self ..),ih fun x hx=>hl x (List.mem_cons_of_mem _ hx)]
    rfl
  exact go ds fun d hd'=>(hd d hd').2.1
 refine Calls.call_function_entry kind_sorted plain_sorted entry_sorted (args_sorted1 _) ?_
 unfold Builtin.«sorted»
 refine wpAny_bind (m:=checkCount "sorted" 1 1 _) (wpAny_pure (wpAny_bind (collect_list pl.isList (wpAny_bind (wpAny_newList ?_ (by rw [sizeLine_eq]; omega))) (by rw [sizeLine_eq]; omega))))
 have hsz:((s.heap.push (seqObj "list" #[] 0)).update s.heap.objs.size (Obj.mapSeq (· ++ its.toArray))).objs.size = s.heap.objs.size + 1:=by
  rw [Heap.size_update,size_push']
 have hoL:(((s.heap.push (seqObj "list" #[] 0)).update s.heap.objs.size (Obj.mapSeq (· ++ its.toArray))).push (seqObj "list" its.toArray 0)).get? (s.heap.objs.size + 1) = some (seqObj "list" its.toArray 0):=by
  rw [← hsz]; exact Heap.get?_push_size _ rfl
 have kp:∀ b o,s.heap.get? b = some o -> (((s.heap.push (seqObj "list" #[] 0)).update s.heap.objs.size (Obj.mapSeq (· ++ its.toArray))).push (seqObj "list" its.toArray 0)).get? b = some o:=fun b o z=>by
  have hlt:b < s.heap.objs.size:=Heap.lt_size z
  rw [Heap.get?_push_ne _ _ _ (by rw [hsz]; exact Nat.ne_of_lt (Nat.lt_succ_of_lt hlt)),Heap.get?_update_ne _ _ _ _ (Nat.ne_of_lt hlt),Heap.get?_push_ne _ _ _ (Nat.ne_of_lt hlt)]
  exact z
 show wpAny _ _ _ _ _ { s with heap:=((s.heap.push (seqObj "list" #[] 0)).update s.heap.objs.size (Obj.mapSeq (· ++ its.toArray))).push (seqObj "list" its.toArray 0) }
 rw [hsz]
 generalize ((s.heap.push (seqObj "list" #[] 0)).update s.heap.objs.size (Obj.mapSeq (· ++ its.toArray))).push (seqObj "list" its.toArray 0) = h1 at hoL kp
 refine wpAny_bind (wpAny_holding (wpAny_call_entry slot_list_sort ⟨_,hoL,rfl⟩ entry_list_sort ?body (args_list_sort _)))
 refine sort_shell (s:={ s with heap:=h1 }) (κ:=tuples' (Value.type T != Value.type "tuple")) (lt:=fun i j=>O.lt (key (ds.getD i .none)) (key (ds.getD j .none))) hoL (by omega) (fun h2 s1 k1=>?_) fun p hp=>⟨_,rfl,wpAny_pure ⟨_,rfl,?_⟩⟩
 ·have rd1:ReadsAll s1.heap its ds as:=yW (fun b o z=>k1 b o (Nat.ne_of_lt (Nat.lt_succ_of_lt (Heap.lt_size z))) (kp b o z)) _ _ _ lay rd
  refine ⟨fun Q' E' z=>kind_ok rd1 (fun d hd'=>(hd d hd').1) (by omega) z,fun i j hi hj C c=>?_⟩
  obtain ⟨b1,r1⟩:=reads_get i rd1 (by omega)
  obtain ⟨b2,r2⟩:=reads_get j rd1 (by omega)
  have m:∀ k,k < its.length -> ds.getD k .none ∈ ds:=fun k hk=>by
   rw [List.getD_eq_getElem?_getD,List.getElem?_eq_getElem (by omega)]
   exact List.getElem_mem _
  have d1:=hd _ (m i hi)
  have d2:=hd _ (m j hj)
  exact key_lt_ok r1 r2 d1.1 d2.1 d1.2.1 d2.2.1 (by show X.A.units + 1 + 1 + _ < _; omega) (hlt _ (m i hi) _ (m j hj)) c
 ·have pp:p.Perm (List.toArray (List.range its.length)) /\ Up O (fun i=>key (ds.getD i .none)) p its.length:=by
   rcases hp with ⟨n2,rfl⟩ | ⟨n2,rfl⟩
   ·refine ⟨Array.Perm.refl _,fun (i j:Nat) (hij:i <= j) (hj:j < its.length)=>?_⟩
    have:i = j:=by omega
    subst this
    exact O.refl _
   ·obtain ⟨p',e,a1,a2⟩:=sort_ok (O:=O) (key:=fun i=>key (ds.getD i .none)) (n:=its.length) (by omega)
    rw [e]
    exact ⟨a1,a2⟩
  obtain ⟨pp,up⟩:=pp
  have pl':p.toList.Perm (List.range its.length):=by simpa using Array.perm_iff_toList_perm.mp pp
  have pm:∀ i ∈ p.toList,i < vs.length:=fun i hi=>by
   have:=List.mem_range.mp (pl'.mem_iff.mp hi)
   omega
  obtain ⟨e,he⟩:=sortedHeap_at (out:=List.toArray (p.toList.map fun i=>its.getD i Value.none)) hoL
  have nl:=vals_pick rv p.toList pm
  have kp2:∀ b ob,s.heap.get? b = some ob -> (sortedHeap h1 (s.heap.objs.size + 1) its (List.toArray (p.toList.map fun i=>its.getD i Value.none))).get? b = some ob:=fun b ob q1=>by
   have hb:b < s.heap.objs.size:=Heap.lt_size q1
   rw [sortedHeap_old (Nat.ne_of_lt (Nat.lt_succ_of_lt hb)) (Heap.lt_size (kp b ob q1))]
   exact kp b ob q1
  have hl:p.toList.length = its.length:=by rw [pl'.length_eq,List.length_range]
  refine ⟨.ref (s.heap.objs.size + 1),_,I.laid (o:=.lst (p.toList.map fun i=>vs.getD i .non)) (t':=s.toks) kp2 (Nat.le_succ _) ⟨by rw [List.length_map,hl,sizeLine_eq]; omega,_,e,nl,he⟩,rfl,q _ _ (p.toList.map fun i=>ds.getD i .none) (I.hok.fresh (Nat.le_succ _)) ?_ (dt_pick hds p.toList pm) ?_ fun v hv=>?_⟩
  ·have:=pl'.map fun i=>ds.getD i PyData.none
   rw [l2,pick_all] at this
   exact this
  ·rw [List.pairwise_iff_getElem]
   intro i j hi hj hij
   rw [List.getElem_map,List.getElem_map]
   have:=up i j (Nat.le_of_lt hij) (by rw [List.length_map,hl] at hj; exact hj)
   unfold kn at this
   rw [List.length_map,Array.length_toList] at hi hj
   rw [Array.getD_eq_getD_getElem?,Array.getD_eq_getD_getElem?,getElem?_pos p i hi,getElem?_pos p j hj] at this
   simpa using this
  ·obtain ⟨i,hi,rfl⟩:=List.mem_map.mp hv
   rw [List.getD_eq_getElem?_getD,List.getElem?_eq_getElem (pm i hi)]
   exact List.getElem_mem _
end
end L2
namespace AnJ
open PySem L2 An An10 An12 AxK
def tupS (ls:List Str):PyData:=.tuple (ls.map .str)
def spD (s:S Str):PyData:=.tuple [.int s.1,.int s.2.1,tupS s.2.2]
def prD (x:S Str × Bool):PyData:=.tuple [spD x.1,.int (if x.2 then 3 else 2)]
def grD (g:G Str):PyData:=.tuple [.int g.lo,.int g.hi,.list (g.ones.map spD),.list (g.others.map spD)]
def ptD:Pt Str -> PyData
 | .same x=>.tuple [.str "same",tupS x]
 | .clash b m y=>.tuple [.str "clash",tupS b,tupS m,tupS y]
def toRow (s:S Str):Row:=spanR s.1 s.2.1 s.2.2
theorem rows_sp (l:List (S Str)):(l.map toRow).map rowDat = l.map spD:=by rw [List.map_map]; rfl
theorem span_to {xs ys:List Str}:∀ {ps:List (Nat × Nat)} {lo fi:Nat},(xA xs ys lo fi ps).map toRow = spanL xs ys lo fi ps
 | [],lo,fi=>by
  unfold xA spanL
  split <;> rfl
 | p :: ps,lo,fi=>by
  unfold xA spanL
  rw [List.map_append,span_to]
  split <;> rfl
theorem spans_to (xs ys:List Str):(spansS xs ys).map toRow = spans xs ys:=span_to
mutual
def noList:PyData -> Bool
 | .list _=>false
 | .tuple ds=>noLists ds
 | .dict _=>false
 | .none | .bool _ | .int _ | .str _=>true
def noLists:List PyData -> Bool
 | []=>true
 | d :: ds=>noList d && noLists ds
end
mutual
theorem Dt.ts {K:PySem.W.Frag} {H H':Hp} (e:TSame H H'):∀ (d:PyData) (v:V),noList d = true -> Dt K H d v -> Dt K H' d v
 | .none,_,_,h=>h
 | .bool _,_,_,h=>h
 | .int _,_,_,h=>h
 | .str _,_,_,h=>h
 | .list _,_,n,_=>nomatch n
 | .tuple ds,_,n,⟨a,xs,h1,h2,h3⟩=>⟨a,xs,h1,e.tup h2,DtAll.ts e ds xs n h3⟩
 | .dict _,_,n,_=>nomatch n
theorem DtAll.ts {K:PySem.W.Frag} {H H':Hp} (e:TSame H H'):∀ (ds:List PyData) (xs:List V),noLists ds = true -> DtAll K H ds xs -> DtAll K H' ds xs
 | [],_,_,h=>h
 | d :: ds,_,n,⟨x,r,h1,h2,h3⟩=>by
  have n:noList d = true /\ noLists ds = true:=by simpa [noLists] using n
  exact ⟨x,r,h1,Dt.ts e d x n.1 h2,DtAll.ts e ds r n.2 h3⟩
end
theorem noLists_all:∀ {ds:List PyData},(∀ d ∈ ds,noList d = true) -> noLists ds = true
 | [],_=>rfl
 | d :: ds,h=>by
  show (noList d && noLists ds) = true
  rw [h d (List.mem_cons_self ..),noLists_all fun x hx=>h x (List.mem_cons_of_mem _ hx)]
  rfl
theorem qK (ls:List Str):noList (tupS ls) = true:=noLists_all fun d hd=>by
 obtain ⟨x,_,rfl⟩:=List.mem_map.mp hd
 rfl
theorem noL_sp (s:S Str):noList (spD s) = true:=by
 show (true && (true && (noList (tupS s.2.2) && true))) = true
 rw [qK]
 rfl
theorem noL_sps (l:List (S Str)):noLists (l.map spD) = true:=noLists_all fun d hd=>by
 obtain ⟨x,_,rfl⟩:=List.mem_map.mp hd
 exact noL_sp x
theorem noL_pt (p:Pt Str):noList (ptD p) = true:=by
 cases p with
 | same x =>
  show (true && (noList (tupS x) && true)) = true
  rw [qK]
  rfl
 | clash b m y =>
  show (true && (noList (tupS b) && (noList (tupS m) && (noList (tupS y) && true)))) = true
  rw [qK,qK,qK]
  rfl
theorem noL_pts (l:List (Pt Str)):noLists (l.map ptD) = true:=noLists_all fun d hd=>by
 obtain ⟨x,_,rfl⟩:=List.mem_map.mp hd
 exact noL_pt x
def hideS (S:List Addr) (H:Hp):Hp:=fun b=>if b ∈ S then none else H b
theorem hideS_ne {S:List Addr} {H:Hp} {b:Addr} (h:b ∉ S):hideS S H b = H b:=if_neg h
theorem hideS_in {S:List Addr} {H:Hp} {b:Addr} (h:b ∈ S):hideS S H b = none:=if_pos h
theorem hideS_same (S:List Addr) (H:Hp):Same (hideS S H) H:=fun b u e=>by
 unfold hideS at e
 split at e
 ·cases e
 ·exact e
theorem hideS_ts {S:List Addr} {H:Hp} (h:∀ a ∈ S,∃ xs,H a = some (.lst xs)):TSame H (hideS S H):=fun b o e n=>by
 rw [hideS_ne fun z=>?_]
 ·exact e
 ·obtain ⟨xs,q⟩:=h b z
  rw [q] at e
  exact n xs (Option.some.inj e).symm
theorem eqv_tupS (l m:List Str):PyData.eqv (tupS l) (tupS m) = decide (l = m):=by
 show PyData.eqvAll (l.map .str) (m.map .str) = _
 exact eqv_strs l m
theorem eqv_sp (s t:S Str):PyData.eqv (spD s) (spD t) = decide (s = t):=by
 show (((s.1:Int) == (t.1:Int)) && (((s.2.1:Int) == (t.2.1:Int)) && (PyData.eqv (tupS s.2.2) (tupS t.2.2) && true))) = _
 rw [eqv_tupS,Bool.eq_iff_iff]
 obtain ⟨a,b,c⟩:=s
 obtain ⟨d,e,f⟩:=t
 simp [Int.ofNat_inj]
def okL (ls:List Str):Prop:=∀ l ∈ ls,PyData.strOk l = true
theorem lay_tupS {ls:List Str} (h:okL ls):(tupS ls).canLay0 = true /\ (tupS ls).depth <= 1:=by
 obtain ⟨a,b⟩:=lay_strs ls h
 refine ⟨a,?_⟩
 show PyData.depthAll (ls.map .str) + 1 <= 1
 rw [b]
 omega
theorem lay_sp {s:S Str} (h:okL s.2.2):(spD s).canLay0 = true /\ (spD s).depth <= 2:=by
 obtain ⟨a,b⟩:=lay_tupS h
 constructor
 ·show (true && (true && ((tupS s.2.2).canLay0 && true))) = true
  rw [a]
  rfl
 ·show max 0 (max 0 (max (tupS s.2.2).depth 0)) + 1 <= 2
  omega
theorem lay_all {β:Type} {f:β -> PyData} {n:Nat}:∀ {l:List β},(∀ x ∈ l,(f x).canLay0 = true /\ (f x).depth <= n) -> PyData.canLayAll0 (l.map f) = true /\ PyData.depthAll (l.map f) <= n
 | [],_=>⟨rfl,Nat.zero_le _⟩
 | x :: l,h=>by
  obtain ⟨a,b⟩:=lay_all fun y hy=>h y (List.mem_cons_of_mem _ hy)
  obtain ⟨c,d⟩:=h x (List.mem_cons_self ..)
  constructor
  ·show ((f x).canLay0 && PyData.canLayAll0 (l.map f)) = true
   rw [a,c]
   rfl
  ·show max (f x).depth (PyData.depthAll (l.map f)) <= n
   omega
theorem lay_pr {x:S Str × Bool} (h:okL x.1.2.2):(prD x).canLay0 = true /\ (prD x).depth <= 3:=by
 obtain ⟨a,b⟩:=lay_sp h
 constructor
 ·show ((spD x.1).canLay0 && (true && true)) = true
  rw [a]
  rfl
 ·show max (spD x.1).depth (max 0 0) + 1 <= 3
  omega
def okP:Pt Str -> Prop
 | .same x=>okL x
 | .clash b m y=>okL b /\ okL m /\ okL y
theorem shaped_of {d:PyData} (h:d.canLay0 = true) (n:d.depth <= 60):SeqAt.shaped d = true:=by
 unfold SeqAt.shaped
 rw [h,decide_eq_true (by omega)]
 rfl
theorem shaped_list {β:Type} {f:β -> PyData} {n:Nat} (hn:n <= 50) {l:List β} (h:∀ x ∈ l,(f x).canLay0 = true /\ (f x).depth <= n):SeqAt.shaped (.list (l.map f)) = true:=by
 obtain ⟨a,b⟩:=lay_all h
 exact shaped_of a (by show PyData.depthAll (l.map f) + 1 <= 60; omega)
theorem list_lt:∀ a b:List Nat,decide (a < b) = yA TO.nat a b
 | [],[]=>by decide
 | [],_ :: _=>by simp [yA]
 | _ :: _,[]=>by simp [yA]
 | a :: as,b :: bs=>by
  have ih:=list_lt as bs
  unfold yA
  rw [← ih,Bool.eq_iff_iff,decide_eq_true_iff,List.cons_lt_cons_iff]
  show _ ↔ (decide (a < b) || (!decide (b < a) && decide (as < bs))) = true
  rw [Bool.or_eq_true,Bool.and_eq_true,decide_eq_true_iff,decide_eq_true_iff,Bool.not_eq_true',decide_eq_false_iff_not]
  constructor
  ·rintro (h | ⟨h,h'⟩)
   ·exact .inl h
   ·exact .inr ⟨by omega,h'⟩
  ·rintro (h | ⟨h,h'⟩)
   ·exact .inl h
   ·by_cases z:a < b
    ·exact .inl z
    ·exact .inr ⟨by omega,h'⟩
def strO:TO Str:=TO.by_ (TO.list TO.nat) cs fun a b h=>cs_inj h
theorem strO_lt (a b:Str):strO.lt a b = decide (a.cps.toList < b.cps.toList):=(list_lt _ _).symm
theorem lt_strs:∀ a b:List Str,LtL (a.map .str) (b.map .str) ((TO.list strO).lt a b)
 | [],[]=>by
  show false = decide (0 < 0)
  rfl
 | [],_ :: _=>by
  show true = decide (0 < _)
  simp
 | _ :: _,[]=>rfl
 | x :: a,y :: b=>by
  show ((x == y) = true /\ LtL (a.map .str) (b.map .str) (yA strO (x :: a) (y :: b))) \/ ((x == y) = false /\ yA strO (x :: a) (y :: b) = decide (x.cps.toList < y.cps.toList))
  by_cases e:x = y
  ·subst e
   refine .inl ⟨by simp,?_⟩
   unfold yA
   have:strO.lt x x = false:=strO.refl x
   rw [this]
   exact lt_strs a b
  ·refine .inr ⟨by simpa using e,?_⟩
   unfold yA
   rw [← strO_lt]
   cases q:strO.lt x y with
   | true=>rfl
   | false =>
    cases q':strO.lt y x with
    | true=>rfl
    | false=>exact absurd (strO.ant _ _ q q') e
theorem lt_sp (s t:S Str):Lt1 (spD s) (spD t) ((spanO strO).lt s t):=by
 show (((s.1:Int) == (t.1:Int)) = true /\ _) \/ (((s.1:Int) == (t.1:Int)) = false /\ _)
 have un:(spanO strO).lt s t = (decide (s.1 < t.1) || (!decide (t.1 < s.1) && (decide (s.2.1 < t.2.1) || (!decide (t.2.1 < s.2.1) && (TO.list strO).lt s.2.2 t.2.2)))):=rfl
 rw [un]
 by_cases e:s.1 = t.1
 ·refine .inl ⟨by rw [e]; simp,?_⟩
  rw [e,show decide (t.1 < t.1) = false by simp]
  show (((s.2.1:Int) == (t.2.1:Int)) = true /\ _) \/ (((s.2.1:Int) == (t.2.1:Int)) = false /\ _)
  by_cases e:s.2.1 = t.2.1
  ·refine .inl ⟨by rw [e]; simp,?_⟩
   rw [e,show decide (t.2.1 < t.2.1) = false by simp]
   show (PyData.eqv (tupS s.2.2) (tupS t.2.2) = true /\ LtL [] [] _) \/ (PyData.eqv (tupS s.2.2) (tupS t.2.2) = false /\ LtL (s.2.2.map .str) (t.2.2.map .str) _)
   rw [eqv_tupS]
   by_cases e:s.2.2 = t.2.2
   ·refine .inl ⟨decide_eq_true e,?_⟩
    show _ = decide (0 < 0)
    rw [e,show (TO.list strO).lt t.2.2 t.2.2 = false from (TO.list strO).refl _]
    rfl
   ·refine .inr ⟨decide_eq_false e,?_⟩
    exact lt_strs _ _
  ·refine .inr ⟨by simp; omega,?_⟩
   show _ = decide ((s.2.1:Int) < (t.2.1:Int))
   rcases Nat.lt_or_gt_of_ne e with z | z
   ·rw [decide_eq_true z,decide_eq_true (show (s.2.1:Int) < (t.2.1:Int) by omega)]
    rfl
   ·rw [decide_eq_false (show ¬ s.2.1 < t.2.1 by omega),decide_eq_true z,decide_eq_false (show ¬ (s.2.1:Int) < (t.2.1:Int) by omega)]
    rfl
 ·refine .inr ⟨by simp; omega,?_⟩
  show _ = decide ((s.1:Int) < (t.1:Int))
  rcases Nat.lt_or_gt_of_ne e with z | z
  ·rw [decide_eq_true z,decide_eq_true (show (s.1:Int) < (t.1:Int) by omega)]
   rfl
  ·rw [decide_eq_false (show ¬ s.1 < t.1 by omega),decide_eq_true z,decide_eq_false (show ¬ (s.1:Int) < (t.1:Int) by omega)]
   rfl
def prO:TO (S Str × Bool):=TO.pair (spanO strO) TO.bool
theorem lt_pr (x y:S Str × Bool):Lt1 (prD x) (prD y) (prO.lt x y):=by
 show (PyData.eqv (spD x.1) (spD y.1) = true /\ _) \/ (PyData.eqv (spD x.1) (spD y.1) = false /\ _)
 have un:prO.lt x y = ((spanO strO).lt x.1 y.1 || (!(spanO strO).lt y.1 x.1 && TO.bool.lt x.2 y.2)):=rfl
 rw [un,eqv_sp]
 by_cases e:x.1 = y.1
 ·refine .inl ⟨decide_eq_true e,?_⟩
  rw [e,show (spanO strO).lt y.1 y.1 = false from (spanO strO).refl _]
  show (((if x.2 = true then (3:Int) else 2) == (if y.2 = true then (3:Int) else 2)) = true /\ (_ = decide (0 < 0))) \/ (((if x.2 = true then (3:Int) else 2) == (if y.2 = true then (3:Int) else 2)) = false /\ (_ = decide ((if x.2 = true then (3:Int) else 2) < (if y.2 = true then (3:Int) else 2))))
  cases x.2 <;> cases y.2 <;> first | exact .inl ⟨rfl,rfl⟩ | exact .inr ⟨rfl,rfl⟩
 ·refine .inr ⟨decide_eq_false e,?_⟩
  have:=lt_sp x.1 y.1
  cases q:(spanO strO).lt x.1 y.1 with
  | true =>
   rw [q] at this
   exact this
  | false =>
   rw [q] at this
   cases q':(spanO strO).lt y.1 x.1 with
   | true=>exact this
   | false=>exact absurd ((spanO strO).ant _ _ q q') e
def unSp:PyData -> S Str
 | .tuple [.int a,.int b,d]=>(a.toNat,b.toNat,linesOf d)
 | _=>(0,0,[])
theorem unSp_sp (s:S Str):unSp (spD s) = s:=by
 show (((s.1:Int).toNat),((s.2.1:Int).toNat),linesOf (.tuple (s.2.2.map .str))) = s
 rw [linesOf_strs,Int.toNat_natCast,Int.toNat_natCast]
def unPr:PyData -> S Str × Bool
 | .tuple [d,.int n]=>(unSp d,decide (n = 3))
 | _=>((0,0,[]),false)
theorem unPr_pr (x:S Str × Bool):unPr (prD x) = x:=by
 show (unSp (spD x.1),decide ((if x.2 = true then (3:Int) else 2) = 3)) = x
 rw [unSp_sp]
 obtain ⟨s,b⟩:=x
 cases b <;> rfl
theorem unmap {β:Type} {f:β -> PyData} {u:PyData -> β} (h:∀ x,u (f x) = x) (l:List β):(l.map f).map u = l:=by
 rw [List.map_map]
 have:u ∘ f = id:=funext h
 rw [this,List.map_id]
theorem sorted_back {β:Type} {f:β -> PyData} {u:PyData -> β} (h:∀ x,u (f x) = x) {O:TO β} {l:List β} {ds:List PyData} (p:ds.Perm (l.map f)) (o:ds.Pairwise fun d e=>O.le (u d) (u e)):∃ m:List β,ds = m.map f /\ m.Perm l /\ m.Pairwise O.le:=by
 refine ⟨ds.map u,?_,?_,List.pairwise_map.mpr o⟩
 ·have:∀ d ∈ ds,f (u d) = d:=fun d hd=>by
   obtain ⟨x,_,rfl⟩:=List.mem_map.mp (p.mem_iff.mp hd)
   rw [h]
  rw [List.map_map]
  conv=>lhs; rw [← List.map_id ds]
  exact List.map_congr_left fun d hd=>(this d hd).symm
 ·have:=p.map u
  rw [unmap h] at this
  exact this
end AnJ
namespace AnJ
open AxK
section
variable {β:Type}
end
section
variable {α:Type}
variable {le:S α -> S α -> Prop}
end
end AnJ
namespace AnJ
open PySem L2 An An10 An12 AxK
def spNear (K:PySem.W.Frag):Sp:=fun vs H Q _=>∃ (p q:Addr) (a b c d:Int) (r r':List V),vs = [.ref p,.ref q] /\ SqT K H p (.int a :: .int b :: r) /\ SqT K H q (.int c :: .int d :: r') /\ Q (.bl (decide (a <= d) && decide (c <= b))) H
structure Row1 (n:Nat) (A:List (S Str)):Prop where
 val:Val n 0 A
 apart:Apart A
 len:A.length <= 30
 ok:∀ s ∈ A,okL s.2.2 /\ s.2.2.length <= 100
 tot:put A <= 100
def NewV (B H:Hp) (vs:List V):Prop:=∀ v ∈ vs,∃ (t m1 m2:Addr) (x y:V) (us1 us2:List V),v = .ref t /\ H t = some (.tup [x,y,.ref m1,.ref m2]) /\ B m1 = none /\ B m2 = none /\ H m1 = some (.lst us1) /\ H m2 = some (.lst us2) /\ us1.length <= 60 /\ us2.length <= 60
theorem NewV.same {B H H':Hp} {vs:List V} (e:Same H H') (h:NewV B H vs):NewV B H' vs:=fun v hv=>by
 obtain ⟨t,m1,m2,x,y,us1,us2,e0,h1,h2,h3,h4,h5,h6,h7⟩:=h v hv
 exact ⟨t,m1,m2,x,y,us1,us2,e0,e _ _ h1,h2,h3,e _ _ h4,e _ _ h5,h6,h7⟩
def DN (K:PySem.W.Frag) (B H:Hp) (gs:List (G Str)) (vs:List V):Prop:=DtAll K H (gs.map grD) vs /\ NewV B H vs
theorem DN.same {K:PySem.W.Frag} {B H H':Hp} {gs:List (G Str)} {vs:List V} (e:Same H H') (h:DN K B H gs vs):DN K B H' gs vs:=⟨DtAll.same e _ _ h.1,h.2.same e⟩
def GrpsAt (K:PySem.W.Frag) (H H':Hp) (l:Addr) (gs:List (G Str)):Prop:=∃ vs:List V,H' l = some (.lst vs) /\ ∀ Z:List Addr,(∀ a ∈ Z,∃ xs,H a = some (.lst xs)) -> DN K H (hideS (l :: Z) H') gs vs
def spGroups (K:PySem.W.Frag):Sp:=fun vs H Q _=>∃ (a b:Addr) (n:Nat) (A B:List (S Str)),vs = [.ref a,.ref b] /\ Dt K H (.list (A.map spD)) (.ref a) /\ Dt K H (.list (B.map spD)) (.ref b) /\ Row1 n A /\ Row1 n B /\
 ∀ (l:Addr) (gs:List (G Str)) (b:List Str) H',b.length = n -> Same H H' -> H l = none -> Grp b A B gs -> GrpsAt K H H' l gs -> Q (.ref l) H'
def spSide (K:PySem.W.Frag):Sp:=fun vs H Q _=>∃ (a l:Addr) (lo hi:Nat) (xs:List Str) (rs:List (S Str)),vs = [.ref a,.int lo,.int hi,.ref l] /\ SqT K H a (xs.map V.str) /\ Dt K H (.list (rs.map spD)) (.ref l) /\ xs.length <= 100 /\ rs.length <= 30 /\ (∀ s ∈ rs,s.2.2.length <= 100) /\ Val hi lo rs /\ hi <= xs.length /\
 ∀ (p:Addr) H',Same H H' -> SqT K H' p ((there xs lo hi rs).map V.str) -> Q (.ref p) H'
def PartsAt (K:PySem.W.Frag) (H:Hp) (o:Addr) (ps:List (Pt Str)):Prop:=∃ vs:List V,H o = some (.lst vs) /\ DtAll K H (ps.map ptD) vs
def noSame:List (Pt Str) -> Prop
 | []=>True
 | [p]=>p.isSame = false
 | _ :: q :: r=>noSame (q :: r)
theorem noSame_snoc:∀ {ps:List (Pt Str)} {p:Pt Str},p.isSame = false -> noSame (ps ++ [p])
 | [],p,h=>h
 | [x],p,h=>h
 | x :: y :: r,p,h=>noSame_snoc (ps:=y :: r) h
theorem noSame_last:∀ {ps:List (Pt Str)} {p:Pt Str},noSame (ps ++ [p]) -> p.isSame = false
 | [],p,h=>h
 | [x],p,h=>h
 | x :: y :: r,p,h=>noSame_last (ps:=y :: r) h
def spAddSame (K:PySem.W.Frag):Sp:=fun vs H Q _=>∃ (o q:Addr) (done:List (Pt Str)) (acc ls:List Str),vs = [.ref o,.ref q] /\ PartsAt K H o (done ++ flush acc) /\ noSame done /\ SqT K H q (ls.map V.str) /\ done.length <= 1000 /\ acc.length <= 4000000 /\ ls.length <= 4000000 /\
 ∀ H',TSame H H' -> Same (hide H o) (hide H' o) -> PartsAt K H' o (done ++ flush (acc ++ ls)) -> Q .non H'
def okJ (b m y:List Str):Prop:=(∀ x ∈ b,lineB x = true) /\ (∀ x ∈ m,lineB x = true) /\ (∀ x ∈ y,lineB x = true) /\ b.length <= 40 /\ m.length <= 140 /\ y.length <= 140 /\ (spansS b m).length <= 30 /\ (spansS b y).length <= 30 /\ put (spansS b m) <= 100 /\ put (spansS b y) <= 100
def spJoined (K:PySem.W.Frag):Sp:=fun vs H Q _=>∃ (a b c:Addr) (xs ms ys:List Str),vs = [.ref a,.ref b,.ref c] /\ SqT K H a (xs.map V.str) /\ SqT K H b (ms.map V.str) /\ SqT K H c (ys.map V.str) /\ okJ xs ms ys /\
 ∀ (l:Addr) (ps:List (Pt Str)) H',Same H H' -> H l = none -> Joined xs ms ys ps -> PartsAt K H' l ps -> Q (.ref l) H'
def cleanL:List (Pt Str) -> Option (List Str)
 | []=>some []
 | .same x :: r=>(cleanL r).map (x ++ ·)
 | .clash .. :: _=>none
def spClean (K:PySem.W.Frag):Sp:=fun vs H Q _=>∃ (l:Addr) (ps:List (Pt Str)),vs = [.ref l] /\ Dt K H (.list (ps.map ptD)) (.ref l) /\ ps.length <= 200 /\ (∀ x,Pt.same x ∈ ps -> x.length <= 20000) /\
 (cleanL ps = none -> ∀ H',Same H H' -> Q .non H') /\ ∀ ls,cleanL ps = some ls -> ∀ (p:Addr) H',Same H H' -> SqT K H' p (ls.map V.str) -> Q (.ref p) H'
theorem PartsAt.dt {K:PySem.W.Frag} {H:Hp} {o:Addr} {ps:List (Pt Str)} (h:PartsAt K H o ps):Dt K H (.list (ps.map ptD)) (.ref o):=by
 obtain ⟨vs,h1,h2⟩:=h
 exact ⟨o,vs,rfl,SqL.of h1,h2⟩
theorem PartsAt.same {K:PySem.W.Frag} {H H':Hp} {o:Addr} {ps:List (Pt Str)} (h:PartsAt K H o ps) (e:Same H H'):PartsAt K H' o ps:=by
 obtain ⟨vs,h1,h2⟩:=h
 exact ⟨vs,e _ _ h1,DtAll.same e _ _ h2⟩
theorem same_step {B H H':Hp} {o:Addr} (e:Same B H) (n:B o = none) (h:Same (hide H o) (hide H' o)):Same B H':=fun b u q=>by
 have hb:b ≠ o:=zI q n
 have:=h b u (by rw [hide_ne hb]; exact e b u q)
 rw [hide_ne hb] at this
 exact this
theorem grps_len:∀ {gs:List (G Str)},(∀ g ∈ gs,g.ones ++ g.others ≠ []) -> gs.length <= (gs.flatMap G.ones).length + (gs.flatMap G.others).length
 | [],_=>Nat.zero_le _
 | g :: r,h=>by
  have ih:=grps_len fun x hx=>h x (List.mem_cons_of_mem _ hx)
  have:=List.length_pos_iff.mpr (h g (List.mem_cons_self ..))
  rw [List.length_append] at this
  rw [List.flatMap_cons,List.flatMap_cons,List.length_append,List.length_append,List.length_cons]
  omega
structure GFact (xs:List Str) (g:G Str):Prop where
 v1:Val g.hi g.lo g.ones
 v2:Val g.hi g.lo g.others
 hi:g.hi <= xs.length
 n1:g.ones.length <= 30
 n2:g.others.length <= 30
 l1:∀ s ∈ g.ones,okL s.2.2 /\ s.2.2.length <= 100
 l2:∀ s ∈ g.others,okL s.2.2 /\ s.2.2.length <= 100
 p1:put g.ones <= 100
 p2:put g.others <= 100
theorem put_append:∀ (r q:List (S Str)),put (r ++ q) = put r + put q
 | [],q=>by simp [put]
 | s :: r,q=>by
  show s.2.2.length + put (r ++ q) = s.2.2.length + put r + put q
  rw [put_append r q]
  omega
theorem flat_put {f:G Str -> List (S Str)}:∀ {gs:List (G Str)} {g:G Str},g ∈ gs -> put (f g) <= put (gs.flatMap f)
 | x :: r,g,h=>by
  rw [List.flatMap_cons,put_append]
  rcases List.mem_cons.mp h with rfl | h
  ·omega
  ·have:=flat_put (f:=f) h
   omega
theorem flat_len {f:G Str -> List (S Str)}:∀ {gs:List (G Str)} {g:G Str},g ∈ gs -> (f g).length <= (gs.flatMap f).length
 | x :: r,g,h=>by
  rw [List.flatMap_cons,List.length_append]
  rcases List.mem_cons.mp h with rfl | h
  ·omega
  ·have:=flat_len (f:=f) h
   omega
theorem Grp.fact {xs:List Str} {A B:List (S Str)} {gs:List (G Str)} (h:Grp xs A B gs) (a:Row1 xs.length A) (b:Row1 xs.length B):∀ g ∈ gs,GFact xs g:=fun g hg=>by
 obtain ⟨c1,c2⟩:=h.chains a.val b.val a.apart b.apart
 obtain ⟨_,_,_,_,v1,w1⟩:=x8 c1 hg
 obtain ⟨_,_,_,_,v2,_⟩:=x8 c2 hg
 have e1:=flat_len (f:=G.ones) hg
 have e2:=flat_len (f:=G.others) hg
 rw [h.fa] at e1
 rw [h.fb] at e2
 have p1:=flat_put (f:=G.ones) hg
 have p2:=flat_put (f:=G.others) hg
 rw [h.fa] at p1
 rw [h.fb] at p2
 refine ⟨v1,v2,w1.le,Nat.le_trans e1 a.len,Nat.le_trans e2 b.len,fun s hs=>a.ok s ?_,fun s hs=>b.ok s ?_,Nat.le_trans p1 a.tot,Nat.le_trans p2 b.tot⟩
 ·rw [← h.fa]; exact List.mem_flatMap.mpr ⟨g,hg,hs⟩
 ·rw [← h.fb]; exact List.mem_flatMap.mpr ⟨g,hg,hs⟩
theorem there_mem {b:List Str} {x:Str}:∀ {r:List (S Str)} {i n:Nat},x ∈ there b i n r -> x ∈ b \/ ∃ s ∈ r,x ∈ s.2.2
 | [],i,n,h=>by
  have h:x ∈ cut b i n:=h
  exact .inl (List.mem_of_mem_drop (List.mem_of_mem_take h))
 | s :: r,i,n,h=>by
  have h:x ∈ cut b i s.1 ++ s.2.2 ++ there b s.2.1 n r:=h
  rcases List.mem_append.mp h with h | h
  ·rcases List.mem_append.mp h with h | h
   ·exact .inl (List.mem_of_mem_drop (List.mem_of_mem_take h))
   ·exact .inr ⟨s,List.mem_cons_self ..,h⟩
  ·rcases there_mem h with h | ⟨t,ht,h⟩
   ·exact .inl h
   ·exact .inr ⟨t,List.mem_cons_of_mem _ ht,h⟩
theorem there_ok {xs:List Str} {lo hi:Nat} {r:List (S Str)} (hx:okL xs) (hr:∀ s ∈ r,okL s.2.2 /\ s.2.2.length <= 100) (v:Val hi lo r) (hh:hi <= xs.length) (hn:xs.length <= 100) (rn:put r <= 100):okL (there xs lo hi r) /\ (there xs lo hi r).length <= 200:=by
 constructor
 ·intro l hl
  rcases there_mem hl with h | ⟨s,hs,h⟩
  ·exact hx l h
  ·exact (hr s hs).1 l h
 ·have:=there_len hh v
  omega
theorem dts_snoc {β:Type} {f:β -> PyData} {K:PySem.W.Frag} {H:Hp} {x:β}:∀ {l:List β} {vs:List V},DtAll K H ((l ++ [x]).map f) vs -> ∃ v1 v2,vs = v1 ++ [v2] /\ DtAll K H (l.map f) v1 /\ Dt K H (f x) v2
 | [],vs,⟨v,r,e1,h1,e2⟩=>by
  cases (show r = [] from e2)
  exact ⟨[],v,e1,rfl,h1⟩
 | y :: l,vs,⟨v,r,e1,h1,h2⟩=>by
  obtain ⟨v1,v2,rfl,h3,h4⟩:=dts_snoc h2
  exact ⟨v :: v1,v2,e1,⟨v,v1,rfl,h1,h3⟩,h4⟩
theorem at_one {α:Type} (x y:α) (r:List α):atI (x :: y :: r) 1 = some y:=yP (j:=1) rfl
theorem ne_cs:V.str "clash" ≠ V.str "same":=fun h=>by
 injection h with h
 exact absurd h (by decide +kernel)
theorem ne_sc:V.str "same" ≠ V.str "clash":=fun h=>ne_cs h.symm
theorem ne_zero {n:Nat} (h:n ≠ 0):¬ (V.int (n:Int) = V.int 0):=fun z=>by
 injection z with z
 omega
theorem int_zero {n:Nat} (h:V.int (n:Int) = V.int 0):n = 0:=by
 injection h with h
 omega
theorem at_last {vs:List V} {v:V}:atI (vs ++ [v]) (-1) = some v:=by
 unfold atI ixN
 have e:(-1:Int) + ((vs ++ [v]).length:Int) = (vs.length:Int):=by rw [List.length_append,List.length_singleton]; omega
 rw [if_neg (by decide),e]
 rw [if_pos (by rw [List.length_append,List.length_singleton]; omega)]
 simp
theorem last_get {vs:List V} {v:V}:(vs ++ [v])[(vs ++ [v]).length - 1]? = some v:=by
 simp
theorem put_mem {s:S Str}:∀ {r:List (S Str)},s ∈ r -> s.2.2.length <= put r
 | t :: r,h=>by
  show s.2.2.length <= t.2.2.length + put r
  rcases List.mem_cons.mp h with rfl | h
  ·omega
  ·have:=put_mem h
   omega
theorem row1_spans {xs ys:List Str} (h1:(spansS xs ys).length <= 30) (h2:put (spansS xs ys) <= 100) (h3:∀ y ∈ ys,lineB y = true):Row1 xs.length (spansS xs ys):=by
 refine ⟨xR xs ys,y7 xs ys,h1,fun s hs=>?_,h2⟩
 ·have m:toRow s ∈ spans xs ys:=by rw [← spans_to]; exact List.mem_map.mpr ⟨s,hs,rfl⟩
  obtain ⟨i,k,ls,e,e1,e2⟩:=spanT_lines (toRow s) m
  have e:toRow s = spanR i k ls:=e
  have:PyData.tuple (s.2.2.map .str) = .tuple (ls.map .str):=congrArg (fun r:Row=>r.2.2) e
  have:s.2.2 = ls:=by
   have:=congrArg An12.linesOf this
   rw [linesOf_strs,linesOf_strs] at this
   exact this
  rw [this]
  exact ⟨fun l hl=>lineB_ok (h3 l (e2 l hl)),by rw [← this]; exact Nat.le_trans (put_mem hs) h2⟩
theorem dts_get {β:Type} {f:β -> PyData} {K:PySem.W.Frag} {H:Hp} {l:List β} {vs:List V} {i:Nat} {x:V} (h:DtAll K H (l.map f) vs) (e:vs[i]? = some x):∃ b,l[i]? = some b /\ Dt K H (f b) x:=by
 obtain ⟨d,e1,e2⟩:=h.get e
 rw [List.getElem?_map] at e1
 cases q:l[i]? with
 | none=>rw [q] at e1; cases e1
 | some b =>
  rw [q] at e1
  cases e1
  exact ⟨b,rfl,e2⟩
theorem sp_open {K:PySem.W.Frag} {H:Hp} {s:S Str} {v:V} (h:Dt K H (spD s) v):∃ t q:Addr,v = .ref t /\ SqT K H t [.int s.1,.int s.2.1,.ref q] /\ SqT K H q (s.2.2.map V.str):=by
 obtain ⟨t,xs,rfl,h1,x1,r1,rfl,e1,x2,r2,rfl,e2,x3,r3,rfl,⟨q,ys,rfl,h3,h4⟩,e3⟩:=h
 cases e1
 cases e2
 cases e3
 rw [DtAll.strs_of h4] at h3
 exact ⟨t,q,rfl,h1,h3⟩
theorem gr_open {K:PySem.W.Frag} {H:Hp} {g:G Str} {v:V} (h:Dt K H (grD g) v):∃ t l1 l2:Addr,v = .ref t /\ SqT K H t [.int g.lo,.int g.hi,.ref l1,.ref l2] /\ Dt K H (.list (g.ones.map spD)) (.ref l1) /\ Dt K H (.list (g.others.map spD)) (.ref l2):=by
 obtain ⟨t,xs,rfl,h1,x1,r1,rfl,e1,x2,r2,rfl,e2,x3,r3,rfl,⟨l1,y1,rfl,h3,h4⟩,x4,r4,rfl,⟨l2,y2,rfl,h5,h6⟩,e3⟩:=h
 cases e1
 cases e2
 cases e3
 exact ⟨t,l1,l2,rfl,h1,⟨l1,y1,rfl,h3,h4⟩,⟨l2,y2,rfl,h5,h6⟩⟩
theorem gr_close {K:PySem.W.Frag} {H:Hp} {g:G Str} {t l1 l2:Addr} (h1:SqT K H t [.int g.lo,.int g.hi,.ref l1,.ref l2]) (h2:Dt K H (.list (g.ones.map spD)) (.ref l1)) (h3:Dt K H (.list (g.others.map spD)) (.ref l2)):Dt K H (grD g) (.ref t) :=
 ⟨t,_,rfl,h1,_,_,rfl,rfl,_,_,rfl,rfl,_,_,rfl,h2,_,_,rfl,h3,rfl⟩
theorem same_open {K:PySem.W.Frag} {H:Hp} {x:List Str} {v:V} (h:Dt K H (ptD (.same x)) v):∃ t q:Addr,v = .ref t /\ SqT K H t [.str "same",.ref q] /\ SqT K H q (x.map V.str):=by
 obtain ⟨t,xs,rfl,h1,x1,r1,rfl,e1,x3,r3,rfl,⟨q,ys,rfl,h3,h4⟩,e3⟩:=h
 cases e1
 cases e3
 rw [DtAll.strs_of h4] at h3
 exact ⟨t,q,rfl,h1,h3⟩
theorem clash_open {K:PySem.W.Frag} {H:Hp} {b m y:List Str} {v:V} (h:Dt K H (ptD (.clash b m y)) v):∃ t q1 q2 q3:Addr,v = .ref t /\ SqT K H t [.str "clash",.ref q1,.ref q2,.ref q3] /\ SqT K H q1 (b.map V.str) /\ SqT K H q2 (m.map V.str) /\ SqT K H q3 (y.map V.str):=by
 obtain ⟨t,xs,rfl,h1,x1,r1,rfl,e1,x2,r2,rfl,⟨q1,y1,rfl,a1,b1⟩,x3,r3,rfl,⟨q2,y2,rfl,a2,b2⟩,x4,r4,rfl,⟨q3,y3,rfl,a3,b3⟩,e3⟩:=h
 cases e1
 cases e3
 rw [DtAll.strs_of b1] at a1
 rw [DtAll.strs_of b2] at a2
 rw [DtAll.strs_of b3] at a3
 exact ⟨t,q1,q2,q3,rfl,h1,a1,a2,a3⟩
theorem lines_dt {K:PySem.W.Frag} {H:Hp} {x:List Str} {q:Addr} (h:SqT K H q (x.map V.str)):Dt K H (tupS x) (.ref q):=⟨q,_,rfl,h,DtAll.strs _⟩
theorem same_close {K:PySem.W.Frag} {H:Hp} {x:List Str} {t q:Addr} (h1:SqT K H t [.str "same",.ref q]) (h2:SqT K H q (x.map V.str)):Dt K H (ptD (.same x)) (.ref t) :=
 ⟨t,_,rfl,h1,_,_,rfl,rfl,_,_,rfl,lines_dt h2,rfl⟩
theorem clash_close {K:PySem.W.Frag} {H:Hp} {b m y:List Str} {t q1 q2 q3:Addr} (h1:SqT K H t [.str "clash",.ref q1,.ref q2,.ref q3]) (a1:SqT K H q1 (b.map V.str)) (a2:SqT K H q2 (m.map V.str)) (a3:SqT K H q3 (y.map V.str)):Dt K H (ptD (.clash b m y)) (.ref t) :=
 ⟨t,_,rfl,h1,_,_,rfl,rfl,_,_,rfl,lines_dt a1,_,_,rfl,lines_dt a2,_,_,rfl,lines_dt a3,rfl⟩
theorem side_patch {xs:List Str} {lo hi:Nat} (hx:hi <= xs.length):∀ {rs:List (S Str)} {i:Nat},lo <= i -> Val hi i rs -> patchL (cut xs lo hi) (i - lo) (rs.map fun s=>((s.1:Int) - lo,(s.2.1:Int) - lo,tupS s.2.2)) = there xs i hi rs
 | [],i,h,v=>by
  show (cut xs lo hi).drop (i - lo) = cut xs i hi
  have e:=cut_cut (b:=xs) h v
  have l:=cut_len (b:=xs) (i:=lo) (k:=i) (Nat.le_trans v hx)
  rw [← e,← l,List.drop_left]
 | s :: r,i,h,v=>by
  have ih:=side_patch (lo:=lo) hx (i:=s.2.1) (by have:=v.1; have:=v.2.1; omega) v.2.2
  have l:=v.2.2.le
  have v1:=v.1
  have v2:=v.2.1
  show ((cut xs lo hi).drop (i - lo)).take (((s.1:Int) - lo).toNat - (i - lo)) ++ linesOf (tupS s.2.2) ++ patchL (cut xs lo hi) (((s.2.1:Int) - lo).toNat) (r.map _) = cut xs i s.1 ++ s.2.2 ++ there xs s.2.1 hi r
  have e1:((s.2.1:Int) - lo).toNat = s.2.1 - lo:=by omega
  have e2:((s.1:Int) - lo).toNat - (i - lo) = s.1 - i:=by omega
  rw [e1,ih,e2]
  congr 2
  ·have a1:=cut_cut (b:=xs) h (Nat.le_trans v1 (Nat.le_trans v2 l))
   have a2:=cut_cut (b:=xs) v1 (Nat.le_trans v2 l)
   have n1:=cut_len (b:=xs) (i:=lo) (k:=i) (by omega)
   have n2:=cut_len (b:=xs) (i:=i) (k:=s.1) (by omega)
   rw [← a1,← n1,List.drop_left,← a2,← n2,List.take_left]
  ·exact linesOf_strs _
theorem side_ends {xs:List Str} {lo hi:Nat} (hx:hi <= xs.length):∀ {rs:List (S Str)} {i:Nat},lo <= i -> Val hi i rs -> (∀ s ∈ rs,s.2.2.length <= 100) -> Ends (cut xs lo hi).length (i - lo) (rs.map fun s=>((s.1:Int) - lo,(s.2.1:Int) - lo,tupS s.2.2))
 | [],i,h,v,_=>trivial
 | s :: r,i,h,v,hl=>by
  have l:=v.2.2.le
  have v1:=v.1
  have v2:=v.2.1
  have ih:=side_ends (lo:=lo) hx (i:=s.2.1) (by omega) v.2.2 fun x hx=>hl x (List.mem_cons_of_mem _ hx)
  have n:=cut_len (b:=xs) (i:=lo) hx
  refine ⟨?_,?_,?_,⟨s.2.2,rfl,by have:=hl s (List.mem_cons_self ..); omega⟩,?_⟩
  ·show ((i - lo:Nat):Int) <= (s.1:Int) - lo
   omega
  ·show (s.1:Int) - lo <= (s.2.1:Int) - lo
   omega
  ·show (s.2.1:Int) - lo <= ((cut xs lo hi).length:Int)
   omega
  ·have e1:((s.2.1:Int) - lo).toNat = s.2.1 - lo:=by omega
   show Ends _ (((s.2.1:Int) - lo).toNat) _
   rw [e1]
   exact ih
theorem J_step {b:List Str} {acc:List Str} {i:Nat} {g:G Str} {r:List (G Str)}:(∀ x,g.one b = some x -> J b acc i (g :: r) = J b (acc ++ cut b i g.lo ++ x) g.hi r) /\ (g.one b = none -> J b acc i (g :: r) = flush (acc ++ cut b i g.lo) ++ .clash (cut b g.lo g.hi) (g.mine b) (g.yours b) :: J b [] g.hi r):=by
 constructor
 ·intro x hx
  rw [J,hx]
 ·intro hx
  rw [J,hx]
def Lists (B:Hp) (Z:List Addr):Prop:=∀ a ∈ Z,∃ xs,B a = some (.lst xs)
theorem lists_ts {B:Hp} {Z:List Addr} (h:Lists B Z):TSame B (hideS Z B):=hideS_ts h
theorem sps_hide {K:PySem.W.Frag} {B H:Hp} {Y Z:List Addr} (e:Same B H) (hz:Lists B Z) (hs:∀ a ∈ Y,B a = none) {l:List (S Str)} {us:List V} (h:DtAll K B (l.map spD) us):DtAll K (hideS (Y ++ Z) H) (l.map spD) us:=by
 have h1:=DtAll.ts (lists_ts hz) _ _ (noL_sps l) h
 refine DtAll.same (fun b u q=>?_) _ _ h1
 have nz:b ∉ Z:=fun z=>by rw [hideS_in z] at q; cases q
 rw [hideS_ne nz] at q
 rw [hideS_ne]
 ·exact e b u q
 ·intro z
  rcases List.mem_append.mp z with z | z
  ·rw [hs b z] at q; cases q
  ·exact nz z
structure GSt (K:PySem.W.Frag) (B H:Hp) (o:Addr) (done:List (G Str)) (c:G Str) (t m1 m2:Addr) (vs us1 us2:List V):Prop where
 ho:H o = some (.lst (vs ++ [.ref t]))
 ht:H t = some (.tup [.int c.lo,.int c.hi,.ref m1,.ref m2])
 h1:H m1 = some (.lst us1)
 h2:H m2 = some (.lst us2)
 b1:B m1 = none
 b2:B m2 = none
 n12:m1 ≠ m2
 n1:m1 ≠ o
 n2:m2 ≠ o
 d1:DtAll K B (c.ones.map spD) us1
 d2:DtAll K B (c.others.map spD) us2
 d3:∀ Z,Lists B Z -> DN K B (hideS (o :: m1 :: m2 :: Z) H) done vs
theorem GSt.close {K:PySem.W.Frag} {B H:Hp} {o:Addr} {done:List (G Str)} {c:G Str} {t m1 m2:Addr} {vs us1 us2:List V} (g:GSt K B H o done c t m1 m2 vs us1 us2) (e:Same B H) (bo:B o = none) (u1:us1.length <= 60) (u2:us2.length <= 60) (Z:List Addr) (hz:Lists B Z):DN K B (hideS (o :: Z) H) (done ++ [c]) (vs ++ [.ref t]):=by
 have nz:∀ {m},B m = none -> m ∉ Z:=fun {m} hm z=>by
  obtain ⟨xs,q⟩:=hz m z
  rw [hm] at q
  cases q
 have no:∀ {m},m ≠ o -> B m = none -> m ∉ o :: Z:=fun {m} h1 h2 z=>by
  rcases List.mem_cons.mp z with z | z
  ·exact h1 z
  ·exact nz h2 z
 have nt:t ∉ o :: Z:=fun z=>by
  rcases List.mem_cons.mp z with z | z
  ·have:=g.ho
   rw [← z,g.ht] at this
   cases this
  ·obtain ⟨xs,q⟩:=hz t z
   have:=e _ _ q
   rw [g.ht] at this
   cases this
 have sp:∀ {l:List (S Str)} {us:List V},DtAll K B (l.map spD) us -> DtAll K (hideS (o :: Z) H) (l.map spD) us:=fun h=>sps_hide (Y:=[o]) e hz (fun a ha=>by rw [List.mem_singleton.mp ha]; exact bo) h
 have ok:Same (hideS (o :: m1 :: m2 :: Z) H) (hideS (o :: Z) H):=fun b u q=>by
  have nb:b ∉ o :: m1 :: m2 :: Z:=fun z=>by rw [hideS_in z] at q; cases q
  rw [hideS_ne nb] at q
  rw [hideS_ne fun z=>nb ?_]
  ·exact q
  ·rcases List.mem_cons.mp z with z | z
   ·rw [z]; exact List.mem_cons_self ..
   ·exact List.mem_cons_of_mem _ (List.mem_cons_of_mem _ (List.mem_cons_of_mem _ z))
 obtain ⟨dd,dn⟩:=(g.d3 Z hz).same ok
 have ht:hideS (o :: Z) H t = some (.tup [.int c.lo,.int c.hi,.ref m1,.ref m2]):=by rw [hideS_ne nt]; exact g.ht
 have h1:hideS (o :: Z) H m1 = some (.lst us1):=by rw [hideS_ne (no g.n1 g.b1)]; exact g.h1
 have h2:hideS (o :: Z) H m2 = some (.lst us2):=by rw [hideS_ne (no g.n2 g.b2)]; exact g.h2
 refine ⟨?_,fun v hv=>?_⟩
 ·rw [List.map_append]
  exact DtAll.append dd ⟨_,_,rfl,gr_close (SqT.of ht) ⟨m1,us1,rfl,SqL.of h1,sp g.d1⟩ ⟨m2,us2,rfl,SqL.of h2,sp g.d2⟩,rfl⟩
 ·rcases List.mem_append.mp hv with z | z
  ·exact dn v z
  ·exact ⟨t,m1,m2,_,_,us1,us2,List.mem_singleton.mp z,ht,g.b1,g.b2,h1,h2,u1,u2⟩
theorem gst_begin {K:PySem.W.Frag} {B H:Hp} {o m1 m2 t:Addr} {done:List (G Str)} {vs:List V} {lo hi:Nat} (e:Same B H) (bo:B o = none) (ho:H o = some (.lst vs)) (d:∀ Z,Lists B Z -> DN K B (hideS (o :: Z) H) done vs) (f1:H m1 = none) (f2:upd H m1 (.lst []) m2 = none) (f3:upd (upd H m1 (.lst [])) m2 (.lst []) t = none) :
  Same B (upd (upd (upd (upd H m1 (.lst [])) m2 (.lst [])) t (.tup [.int lo,.int hi,.ref m1,.ref m2])) o (.lst (vs ++ [.ref t]))) /\ GSt K B (upd (upd (upd (upd H m1 (.lst [])) m2 (.lst [])) t (.tup [.int lo,.int hi,.ref m1,.ref m2])) o (.lst (vs ++ [.ref t]))) o done ⟨lo,hi,[],[]⟩ t m1 m2 vs [] []:=by
 have s1:=same_upd (o:=.lst []) f1
 have s2:=same_upd (o:=.lst []) f2
 have s3:=same_upd (o:=.tup [.int lo,.int hi,.ref m1,.ref m2]) f3
 have s123:=s1.trans (s2.trans s3)
 have om1:m1 ≠ o:=fun z=>by rw [z,ho] at f1; cases f1
 have om2:m2 ≠ o:=fun z=>by
  have:=s1 _ _ ho
  rw [← z,f2] at this
  cases this
 have ot:t ≠ o:=fun z=>by
  have:=(s1.trans s2) _ _ ho
  rw [← z,f3] at this
  cases this
 have m12:m1 ≠ m2:=fun z=>by rw [← z,zB] at f2; cases f2
 have bn:∀ {m},H m = none -> B m = none:=fun {m} h=>by
  cases q:B m with
  | none=>rfl
  | some u=>rw [e _ _ q] at h; cases h
 have h2:H m2 = none:=by rw [zD m12.symm] at f2; exact f2
 refine ⟨An.Same.updF (e.trans s123) bo,⟨zB,?_,?_,?_,bn f1,bn h2,m12,om1,om2,rfl,rfl,fun Z hz=>DN.same (fun b u q=>?_) (d Z hz)⟩⟩
 ·rw [zD ot,zB]
 ·rw [zD om1]
  exact (s2.trans s3) _ _ zB
 ·rw [zD om2]
  exact s3 _ _ zB
 ·have nb:b ∉ o :: Z:=fun z=>by rw [hideS_in z] at q; cases q
  rw [hideS_ne nb] at q
  rw [hideS_ne,zD fun z=>nb (by rw [z]; exact List.mem_cons_self ..)]
  ·exact s123 _ _ q
  ·intro z
   rcases List.mem_cons.mp z with z | z
   ·exact nb (by rw [z]; exact List.mem_cons_self ..)
   rcases List.mem_cons.mp z with z | z
   ·rw [z,f1] at q; cases q
   rcases List.mem_cons.mp z with z | z
   ·rw [z,h2] at q; cases q
   ·exact nb (List.mem_cons_of_mem _ z)
theorem gst_add {K:PySem.W.Frag} {B H:Hp} {o m1 m2 t t2:Addr} {done:List (G Str)} {c:G Str} {vs us1 us2:List V} {s:S Str} {sv:V} {hi:Nat} (g:GSt K B H o done c t m1 m2 vs us1 us2) (e:Same B H) (bo:B o = none) (hs:Dt K B (spD s) sv) (p:Bool)
  (f:upd (upd H o (.lst vs)) (if p then m2 else m1) (.lst ((if p then us2 else us1) ++ [sv])) t2 = none) :
  Same B (upd (upd (upd (upd H o (.lst vs)) (if p then m2 else m1) (.lst ((if p then us2 else us1) ++ [sv]))) t2 (.tup [.int c.lo,.int hi,.ref m1,.ref m2])) o (.lst (vs ++ [.ref t2]))) /\
  GSt K B (upd (upd (upd (upd H o (.lst vs)) (if p then m2 else m1) (.lst ((if p then us2 else us1) ++ [sv]))) t2 (.tup [.int c.lo,.int hi,.ref m1,.ref m2])) o (.lst (vs ++ [.ref t2]))) o done ⟨c.lo,hi,if p then c.ones else c.ones ++ [s],if p then c.others ++ [s] else c.others⟩ t2 m1 m2 vs (if p then us1 else us1 ++ [sv]) (if p then us2 ++ [sv] else us2):=by
 have bm:B (if p then m2 else m1) = none:=by cases p <;> simp [g.b1,g.b2]
 have om:(if p then m2 else m1) ≠ o:=by cases p <;> simp [g.n1,g.n2]
 have s3:=same_upd (o:=.tup [.int c.lo,.int hi,.ref m1,.ref m2]) f
 have e2:Same B (upd (upd H o (.lst vs)) (if p then m2 else m1) (.lst ((if p then us2 else us1) ++ [sv]))):=An.Same.updF (An.Same.updF e bo) bm
 have ot:t2 ≠ o:=fun z=>by
  rw [z,zD om.symm,zB] at f
  cases f
 have t1:t2 ≠ m1:=fun z=>by
  rw [z] at f
  cases p with
  | true =>
   rw [if_pos rfl,if_pos rfl,zD g.n12,zD g.n1,g.h1] at f
   cases f
  | false =>
   rw [if_neg (by decide),if_neg (by decide),zB] at f
   cases f
 have t2':t2 ≠ m2:=fun z=>by
  rw [z] at f
  cases p with
  | true =>
   rw [if_pos rfl,if_pos rfl,zB] at f
   cases f
  | false =>
   rw [if_neg (by decide),if_neg (by decide),zD g.n12.symm,zD g.n2,g.h2] at f
   cases f
 refine ⟨An.Same.updF (e2.trans s3) bo,⟨zB,?_,?_,?_,g.b1,g.b2,g.n12,g.n1,g.n2,?_,?_,fun Z hz=>DN.same (fun b u q=>?_) (g.d3 Z hz)⟩⟩
 ·rw [zD ot,zB]
 ·rw [zD g.n1,zD t1.symm]
  cases p with
  | true =>
   rw [if_pos rfl,if_pos rfl,if_pos rfl,zD g.n12,zD g.n1]
   exact g.h1
  | false =>
   rw [if_neg (by decide),if_neg (by decide),if_neg (by decide),zB]
 ·rw [zD g.n2,zD t2'.symm]
  cases p with
  | true =>
   rw [if_pos rfl,if_pos rfl,if_pos rfl,zB]
  | false =>
   rw [if_neg (by decide),if_neg (by decide),if_neg (by decide),zD g.n12.symm,zD g.n2]
   exact g.h2
 ·cases p with
  | true=>exact g.d1
  | false =>
   show DtAll K B ((c.ones ++ [s]).map spD) (us1 ++ [sv])
   rw [List.map_append]
   exact DtAll.append g.d1 ⟨_,_,rfl,hs,rfl⟩
 ·cases p with
  | true =>
   show DtAll K B ((c.others ++ [s]).map spD) (us2 ++ [sv])
   rw [List.map_append]
   exact DtAll.append g.d2 ⟨_,_,rfl,hs,rfl⟩
  | false=>exact g.d2
 ·have nb:b ∉ o :: m1 :: m2 :: Z:=fun z=>by rw [hideS_in z] at q; cases q
  rw [hideS_ne nb] at q
  rw [hideS_ne nb,zD fun z=>nb (by rw [z]; exact List.mem_cons_self ..)]
  refine s3 _ _ ?_
  rw [zD,zD fun z=>nb (by rw [z]; exact List.mem_cons_self ..)]
  ·exact q
  ·intro z
   cases p with
   | true=>exact nb (by rw [z,if_pos rfl]; exact List.mem_cons_of_mem _ (List.mem_cons_of_mem _ (List.mem_cons_self ..)))
   | false=>exact nb (by rw [z,if_neg (by decide)]; exact List.mem_cons_of_mem _ (List.mem_cons_self ..))
theorem gst_add0 {K:PySem.W.Frag} {B H:Hp} {o m1 m2 t t2:Addr} {done:List (G Str)} {c:G Str} {vs us1 us2:List V} {s:S Str} {sv:V} {hi:Nat} (g:GSt K B H o done c t m1 m2 vs us1 us2) (e:Same B H) (bo:B o = none) (hs:Dt K B (spD s) sv) (f:upd (upd H o (.lst vs)) m1 (.lst (us1 ++ [sv])) t2 = none) :
  Same B (upd (upd (upd (upd H o (.lst vs)) m1 (.lst (us1 ++ [sv]))) t2 (.tup [.int c.lo,.int hi,.ref m1,.ref m2])) o (.lst (vs ++ [.ref t2]))) /\ GSt K B (upd (upd (upd (upd H o (.lst vs)) m1 (.lst (us1 ++ [sv]))) t2 (.tup [.int c.lo,.int hi,.ref m1,.ref m2])) o (.lst (vs ++ [.ref t2]))) o done ⟨c.lo,hi,c.ones ++ [s],c.others⟩ t2 m1 m2 vs (us1 ++ [sv]) us2 :=
 gst_add g e bo hs false f
theorem gst_add1 {K:PySem.W.Frag} {B H:Hp} {o m1 m2 t t2:Addr} {done:List (G Str)} {c:G Str} {vs us1 us2:List V} {s:S Str} {sv:V} {hi:Nat} (g:GSt K B H o done c t m1 m2 vs us1 us2) (e:Same B H) (bo:B o = none) (hs:Dt K B (spD s) sv) (f:upd (upd H o (.lst vs)) m2 (.lst (us2 ++ [sv])) t2 = none) :
  Same B (upd (upd (upd (upd H o (.lst vs)) m2 (.lst (us2 ++ [sv]))) t2 (.tup [.int c.lo,.int hi,.ref m1,.ref m2])) o (.lst (vs ++ [.ref t2]))) /\ GSt K B (upd (upd (upd (upd H o (.lst vs)) m2 (.lst (us2 ++ [sv]))) t2 (.tup [.int c.lo,.int hi,.ref m1,.ref m2])) o (.lst (vs ++ [.ref t2]))) o done ⟨c.lo,hi,c.ones,c.others ++ [s]⟩ t2 m1 m2 vs us1 (us2 ++ [sv]) :=
 gst_add g e bo hs true f
theorem GSt.tne {K:PySem.W.Frag} {B H:Hp} {o:Addr} {done:List (G Str)} {c:G Str} {t m1 m2:Addr} {vs us1 us2:List V} (g:GSt K B H o done c t m1 m2 vs us1 us2):t ≠ o /\ t ≠ m1 /\ t ≠ m2 :=
 ⟨fun z=>(by have:=g.ho; rw [← z,g.ht] at this; cases this),fun z=>(by have:=g.h1; rw [← z,g.ht] at this; cases this),fun z=>(by have:=g.h2; rw [← z,g.ht] at this; cases this)⟩
theorem max_int (a b:Nat):(if (b:Int) > (a:Int) then (b:Int) else (a:Int)) = ((max a b:Nat):Int):=by
 split <;> omega
theorem addG_new {x:S Str × Bool}:addG ⟨x.1.1,x.1.2.1,[],[]⟩ x = single x:=by
 unfold addG single
 cases x.2 <;> simp
theorem pr_le {x y:S Str × Bool} (h:prO.le x y):(spanO strO).le x.1 y.1:=(Bool.or_eq_false_iff.mp (show qE _ _ _ _ = false from h)).1
theorem pr_open {K:PySem.W.Frag} {H:Hp} {x:S Str × Bool} {v:V} (h:Dt K H (prD x) v):∃ (t:Addr) (sv:V),v = .ref t /\ SqT K H t [sv,.int (if x.2 then 3 else 2)] /\ Dt K H (spD x.1) sv:=by
 obtain ⟨t,xs,rfl,h1,x1,r1,rfl,e1,x2,r2,rfl,e2,e3⟩:=h
 cases e2
 cases e3
 exact ⟨t,x1,rfl,h1,e1⟩
theorem noL_pr (x:S Str × Bool):noList (prD x) = true:=by
 show (noList (spD x.1) && (true && true)) = true
 rw [noL_sp]
 rfl
theorem noL_prs (l:List (S Str × Bool)):noLists (l.map prD) = true:=noLists_all fun d hd=>by
 obtain ⟨x,_,rfl⟩:=List.mem_map.mp hd
 exact noL_pr x
def bndP (n:Nat):Pt Str -> Prop
 | .same x=>x.length <= n
 | .clash b m y=>b.length <= n /\ m.length <= n /\ y.length <= n
theorem flush_bnd {x:List Str} {n:Nat} (h:x.length <= n) (ho:okL x):(∀ p ∈ flush x,okP p /\ bndP n p) /\ (flush x).length <= 1:=by
 unfold flush
 split
 ·exact ⟨fun p hp=>(nomatch hp),Nat.zero_le _⟩
 ·exact ⟨fun p hp=>by rw [List.mem_singleton.mp hp]; exact ⟨ho,h⟩,Nat.le_refl _⟩
theorem xZ {x y:List Str} (h1:okL x) (h2:okL y):okL (x ++ y):=fun l hl=>(List.mem_append.mp hl).elim (h1 l) (h2 l)
theorem okL_cut {x:List Str} (h:okL x) (i k:Nat):okL (cut x i k):=fun l hl=>h l (List.mem_of_mem_drop (List.mem_of_mem_take hl))
theorem J_bnd {b:List Str} (hb:okL b) (bn:b.length <= 40):∀ {gs:List (G Str)} {acc:List Str} {i:Nat},(∀ g ∈ gs,GFact b g) -> okL acc -> (∀ p ∈ J b acc i gs,okP p /\ bndP (acc.length + 250 * gs.length + 250) p) /\ (J b acc i gs).length <= 2 * gs.length + 1
 | [],acc,i,_,ha=>by
  have dl:(b.drop i).length <= 40:=by rw [List.length_drop]; omega
  obtain ⟨h1,h2⟩:=flush_bnd (x:=acc ++ b.drop i) (n:=acc.length + 250 * 0 + 250) (by rw [List.length_append]; omega) (xZ ha fun l hl=>hb l (List.mem_of_mem_drop hl))
  exact ⟨h1,by show (flush (acc ++ b.drop i)).length <= 1; exact h2⟩
 | g :: r,acc,i,hg,ha=>by
  have gf:=hg g (List.mem_cons_self ..)
  have hr:=fun x hx=>hg x (List.mem_cons_of_mem _ hx)
  obtain ⟨o1,n1⟩:=there_ok hb gf.l1 gf.v1 gf.hi (by omega) gf.p1
  obtain ⟨o2,n2⟩:=there_ok hb gf.l2 gf.v2 gf.hi (by omega) gf.p2
  have cl:∀ i k,(cut b i k).length <= 40:=fun i k=>by
   unfold cut
   rw [List.length_take,List.length_drop]
   omega
  have wk:∀ {n m:Nat} {p:Pt Str},n <= m -> bndP n p -> bndP m p:=fun {n m p} h z=>by
   cases p with
   | same x=>exact Nat.le_trans z h
   | clash b m y=>exact ⟨Nat.le_trans z.1 h,Nat.le_trans z.2.1 h,Nat.le_trans z.2.2 h⟩
  obtain ⟨st1,st2⟩:=J_step (b:=b) (acc:=acc) (i:=i) (g:=g) (r:=r)
  cases q:g.one b with
  | some x =>
   have hx:okL x /\ x.length <= 200:=by
    unfold G.one at q
    split at q
    ·cases q; exact ⟨o2,n2⟩
    ·split at q
     ·cases q; exact ⟨o1,n1⟩
     ·cases q
   obtain ⟨h1,h2⟩:=J_bnd hb bn (acc:=acc ++ cut b i g.lo ++ x) (i:=g.hi) hr (xZ (xZ ha (okL_cut hb _ _)) hx.1)
   rw [st1 x q,List.length_cons]
   refine ⟨fun p hp=>⟨(h1 p hp).1,wk ?_ (h1 p hp).2⟩,by omega⟩
   have:=cl i g.lo
   rw [List.length_append,List.length_append]
   omega
  | none =>
   obtain ⟨h1,h2⟩:=J_bnd hb bn (acc:=[]) (i:=g.hi) hr (fun l hl=>nomatch hl)
   have:=cl i g.lo
   obtain ⟨f1,f2⟩:=flush_bnd (x:=acc ++ cut b i g.lo) (n:=acc.length + 250 * (g :: r).length + 250) (by rw [List.length_append]; omega) (xZ ha (okL_cut hb _ _))
   rw [st2 q,List.length_append,List.length_cons,List.length_cons]
   rw [List.length_cons] at f1
   refine ⟨fun p hp=>?_,by omega⟩
   rcases List.mem_append.mp hp with hp | hp
   ·exact f1 p hp
   ·rcases List.mem_cons.mp hp with rfl | hp
    ·exact ⟨⟨okL_cut hb _ _,o1,o2⟩,by have:=cl g.lo g.hi; show (cut b g.lo g.hi).length <= _; omega,Nat.le_trans n1 (by omega),Nat.le_trans n2 (by omega)⟩
    ·exact ⟨(h1 p hp).1,wk (by simp; omega) (h1 p hp).2⟩
def okPs (ps:List (Pt Str)):Prop:=ps.length <= 200 /\ ∀ p ∈ ps,okP p /\ bndP 20000 p
theorem Joined.okPs {b m y:List Str} {ps:List (Pt Str)} (h:Joined b m y ps) (ok:okJ b m y):AnJ.okPs ps:=by
 obtain ⟨gs,g,rfl⟩:=h
 obtain ⟨xok,mok,yok,xl,ml,yl,x1,x2,p1,p2⟩:=ok
 have r1:=row1_spans (xs:=b) (ys:=m) x1 p1 mok
 have r2:=row1_spans (xs:=b) (ys:=y) x2 p2 yok
 have gl:=grps_len g.some
 rw [g.fa,g.fb] at gl
 have:=r1.len
 have:=r2.len
 obtain ⟨h1,h2⟩:=J_bnd (b:=b) (gs:=gs) (acc:=[]) (i:=0) (fun l hl=>lineB_ok (xok l hl)) xl (g.fact r1 r2) (fun l hl=>nomatch hl)
 refine ⟨by omega,fun p hp=>⟨(h1 p hp).1,?_⟩⟩
 have z:=(h1 p hp).2
 cases p with
 | same x =>
  have z:x.length <= 0 + 250 * gs.length + 250:=z
  show x.length <= 20000
  omega
 | clash b m y =>
  have z:b.length <= 0 + 250 * gs.length + 250 /\ m.length <= 0 + 250 * gs.length + 250 /\ y.length <= 0 + 250 * gs.length + 250:=z
  show b.length <= 20000 /\ m.length <= 20000 /\ y.length <= 20000
  omega
end AnJ
namespace An
open PySem L2
def stroke:Str:=⟨#[47]⟩
theorem stroke_is:("/":Str) = stroke:=by decide +kernel
def jn:List (List Nat) -> List Nat
 | []=>[]
 | [x]=>x
 | x :: y :: r=>x ++ 47 :: jn (y :: r)
def spl:List Nat -> List (List Nat)
 | []=>[[]]
 | c :: r=>if c = 47 then [] :: spl r else match spl r with
  | []=>[[c]]
  | p :: ps=>(c :: p) :: ps
theorem spl_ne:∀ l,spl l ≠ []
 | []=>by simp [spl]
 | c :: r=>by
  unfold spl
  split
  ·simp
  ·split <;> simp
theorem jn_cons {x:List Nat} {r:List (List Nat)} (h:r ≠ []):jn (x :: r) = x ++ 47 :: jn r:=by
 cases r with
 | nil=>exact absurd rfl h
 | cons y r=>rfl
theorem jn_spl:∀ l,jn (spl l) = l
 | []=>rfl
 | c :: r=>by
  have ih:=jn_spl r
  unfold spl
  split
  ·rename_i e
   rw [jn_cons (spl_ne r),ih,e]; rfl
  ·cases q:spl r with
   | nil=>exact absurd q (spl_ne r)
   | cons p ps =>
    rw [q] at ih
    cases ps with
    | nil=>show c :: p = _; rw [show p = r from ih]
    | cons y ps =>
     show (c :: p) ++ 47 :: jn (y :: ps) = _
     rw [← ih]; rfl
theorem spl_app:∀ (a b:List Nat),spl (a ++ 47 :: b) = spl a ++ spl b
 | [],b=>by
  show (if 47 = 47 then [] :: spl b else _) = [[]] ++ spl b
  rw [if_pos rfl]; rfl
 | c :: a,b=>by
  have ih:=spl_app a b
  show spl (c :: (a ++ 47 :: b)) = _
  rw [spl,spl,ih]
  split
  ·rfl
  ·cases q:spl a with
   | nil=>exact absurd q (spl_ne a)
   | cons p ps=>rfl
theorem spl_free:∀ {p:List Nat},47 ∉ p -> spl p = [p]
 | [],_=>rfl
 | c :: p,h=>by
  have ih:=spl_free (p:=p) fun z=>h (List.mem_cons_of_mem _ z)
  unfold spl
  rw [if_neg (fun z=>h (by rw [z]; exact List.mem_cons_self)),ih]
theorem spl_jn:∀ {ps:List (List Nat)},ps ≠ [] -> (∀ p ∈ ps,47 ∉ p) -> spl (jn ps) = ps
 | [],h,_=>absurd rfl h
 | [p],_,h=>spl_free (h p List.mem_cons_self)
 | p :: q :: r,_,h=>by
  rw [jn_cons (by simp),spl_app,spl_free (h p List.mem_cons_self),spl_jn (ps:=q :: r) (by simp) fun x hx=>h x (List.mem_cons_of_mem _ hx)]
  rfl
theorem jn_app:∀ {a b:List (List Nat)},a ≠ [] -> b ≠ [] -> jn (a ++ b) = jn a ++ 47 :: jn b
 | [],_,h,_=>absurd rfl h
 | [x],b,_,hb=>jn_cons hb
 | x :: y :: r,b,_,hb=>by
  show x ++ 47 :: jn ((y :: r) ++ b) = (x ++ 47 :: jn (y :: r)) ++ 47 :: jn b
  rw [jn_app (a:=y :: r) (by simp) hb]
  simp
theorem jn_len:∀ {ps:List (List Nat)} {p:List Nat},p ∈ ps -> p.length <= (jn ps).length
 | [],_,h=>by cases h
 | [x],p,h=>by rw [List.mem_singleton.mp h]; exact Nat.le_refl _
 | x :: y :: r,p,h=>by
  show _ <= (x ++ 47 :: jn (y :: r)).length
  rw [List.length_append,List.length_cons]
  rcases List.mem_cons.mp h with rfl | h
  ·omega
  ·have:=jn_len h; omega
theorem jn_cnt:∀ {ps:List (List Nat)},ps.length <= (jn ps).length + 1
 | []=>by simp
 | [x]=>by simp
 | x :: y :: r=>by
  show _ <= (x ++ 47 :: jn (y :: r)).length + 1
  have:=jn_cnt (ps:=y :: r)
  have e1:(x ++ 47 :: jn (y :: r)).length = x.length + ((jn (y :: r)).length + 1):=by rw [List.length_append,List.length_cons]
  have e2:(x :: y :: r).length = (y :: r).length + 1:=List.length_cons
  omega
theorem over_iff {l p:List Nat}:(∃ t,l = p ++ 47 :: t) ↔ ∃ i,i + 1 < (spl l).length /\ p = jn ((spl l).take (i + 1)):=by
 constructor
 ·rintro ⟨t,rfl⟩
  rw [spl_app]
  have h1:0 < (spl p).length:=List.length_pos_iff.mpr (spl_ne p)
  have h2:0 < (spl t).length:=List.length_pos_iff.mpr (spl_ne t)
  refine ⟨(spl p).length - 1,by rw [List.length_append]; omega,?_⟩
  rw [show (spl p).length - 1 + 1 = (spl p).length by omega,List.take_left,jn_spl]
 ·rintro ⟨i,hi,rfl⟩
  refine ⟨jn ((spl l).drop (i + 1)),?_⟩
  rw [← jn_app,List.take_append_drop,jn_spl]
  ·intro z
   have:=congrArg List.length z
   rw [List.length_take,List.length_nil] at this
   omega
  ·intro z
   have:=congrArg List.length z
   rw [List.length_drop,List.length_nil] at this
   omega
def ofL (l:List Nat):Str:=⟨l.toArray⟩
theorem cs_ofL (l:List Nat):cs (ofL l) = l:=by simp [ofL,cs]
theorem ofL_cs (x:Str):ofL (cs x) = x:=cs_inj (cs_ofL _)
theorem cs_join:∀ ys:List Str,cs (Txt.join "/" ys) = jn (ys.map cs):=by
 intro ys
 have e:Txt.join "/" ys = Str.join "/" ys:=StrLaws.glued_eq_join "/" ys
 rw [e]
 clear e
 induction ys with
 | nil=>rfl
 | cons x r ih =>
  cases r with
  | nil=>rfl
  | cons y r =>
   show cs (x ++ "/" ++ Str.join "/" (y :: r)) = cs x ++ 47 :: jn ((y :: r).map cs)
   have:cs ("/":Str) = [47]:=by decide +kernel
   rw [yT,yT,ih,this]
   simp
theorem split_is (x:Str):Txt.split x "/" = (spl (cs x)).map ofL:=by
 have h1:cs (Str.join "/" (Txt.split x "/")) = cs x:=by rw [StrLaws.join_split]
 have e:Txt.join "/" (Txt.split x "/") = Str.join "/" (Txt.split x "/"):=StrLaws.glued_eq_join "/" _
 rw [← e,cs_join] at h1
 have hne:Txt.split x "/" ≠ []:=by
  unfold Txt.split
  split
  ·simp
  ·split
   ·simp
   ·unfold Builtin.Str.partsBetween
    intro z
    have:=congrArg List.length z
    simp at this
 have h2:=spl_jn (ps:=(Txt.split x "/").map cs) (by simpa using hne) (fun p hp=>by
  obtain ⟨y,hy,rfl⟩:=List.mem_map.mp hp
  rw [stroke_is] at hy
  exact StrLaws.split_free x 47 y hy)
 rw [h1] at h2
 rw [h2,List.map_map]
 have:(ofL ∘ cs) = (id:Str -> Str):=funext ofL_cs
 rw [this,List.map_id]
def labs (x:Str):List Str:=Txt.split x "/"
theorem qO (x:Str):(labs x).map cs = spl (cs x):=by
 unfold labs
 rw [split_is,List.map_map]
 have:(cs ∘ ofL) = (id:List Nat -> List Nat):=funext cs_ofL
 rw [this,List.map_id]
theorem labs_len {x y:Str} (h:y ∈ labs x):y.length <= x.length:=by
 rw [zU,zU,← jn_spl (cs x),← qO]
 exact jn_len (List.mem_map_of_mem h)
theorem labs_cnt (x:Str):(labs x).length <= x.length + 1:=by
 have:=jn_cnt (ps:=spl (cs x))
 rw [jn_spl,← qO,List.length_map] at this
 rw [zU]; exact this
theorem labs_pos (x:Str):0 < (labs x).length:=by
 have:=List.length_pos_iff.mpr (spl_ne (cs x))
 rw [← qO,List.length_map] at this
 exact this
def fols (x:Str):List Str:=(List.range ((labs x).length - 1)).map fun i=>Txt.join "/" ((labs x).take (i + 1))
def overB (p q:Str):Bool:=Txt.startswith q (p ++ "/")
theorem over_cs {p q:Str}:overB p q = true ↔ ∃ t,cs q = cs p ++ 47 :: t:=by
 unfold overB Txt.startswith
 rw [StrLaws.subAt_eq,List.drop_zero,Nat.zero_add,Bool.and_eq_true,decide_eq_true_eq,beq_iff_eq]
 have e:(p ++ "/":Str).cps.toList = cs p ++ [47]:=by
  have:cs ("/":Str) = [47]:=by decide +kernel
  show cs (p ++ "/") = _
  rw [yT,this]
 have el:(p ++ "/":Str).length = (cs p).length + 1:=by
  rw [zU]
  show (cs (p ++ "/")).length = _
  rw [show cs (p ++ "/") = cs p ++ [47] from e,List.length_append]; rfl
 rw [e,el]
 constructor
 ·rintro ⟨h1,h2⟩
  refine ⟨(cs q).drop ((cs p).length + 1),?_⟩
  have:=List.take_append_drop ((cs p).length + 1) (cs q)
  rw [h2,List.append_assoc] at this
  exact this.symm
 ·rintro ⟨t,h⟩
  rw [zU,h]
  refine ⟨by simp,?_⟩
  show (cs q).take _ = _
  rw [h]
  rw [show cs p ++ 47 :: t = (cs p ++ [47]) ++ t by simp]
  rw [List.take_left' (by simp)]
theorem fols_iff {p q:Str}:p ∈ fols q ↔ overB p q = true:=by
 rw [over_cs,over_iff]
 unfold fols
 rw [List.mem_map]
 have hl:(spl (cs q)).length = (labs q).length:=by rw [← qO,List.length_map]
 constructor
 ·rintro ⟨i,hi,rfl⟩
  have:=List.mem_range.mp hi
  refine ⟨i,by omega,?_⟩
  rw [cs_join,List.map_take,qO]
 ·rintro ⟨i,hi,h⟩
  refine ⟨i,List.mem_range.mpr (by omega),cs_inj ?_⟩
  rw [cs_join,List.map_take,qO,h]
end An
namespace L2
open PySem PySem.Spec PyProof.Rows
section
variable {X:Cx} {pins:List (Addr × Obj)} {σ:St} {H:Hp} {s:Shared} {d:Addr} {kvs:List (Key × V)}
theorem Room.units128 {k:Nat} {A:Around} (r:Room k A):A.units + 128 < cLine:=by have:=r.un; omega
theorem Inv.freeze (I:Inv X pins σ H s) (e:H d = some (.dK kvs)):∃ ob:Obj,Inv X pins σ (upd H d (.frz ob (.dK kvs))) s:=by
 obtain ⟨hz,hS,vs,rel,o,es,ep,ho,hx,hd,hk,hp,hnd⟩:kvs.length <= sizeLine /\ (d == sysModules) = false /\ ∃ vs,KV kvs vs /\ s.heap.DictOf (mixKind X.prog X.w) d vs:=I.hok d _ e
 refine ⟨o,?_⟩
 have mu:Mut (H d):=by rw [e]; trivial
 exact I.write (x:=d) (e:=d) (h':=s.heap) (t':=s.toks) mu (.inl rfl) (fun b u _ q=>q) ⟨o,ho⟩ ⟨ho,hz,hS,vs,rel,o,es,ep,ho,hx,hd,hk,hp,hnd⟩
theorem rel_kV {P:Program} {w:World} {k:Key} {u:Value} (h:(mixKind P w).is k u = true):RelV (kV k) u:=by
 cases k with
 | inl i =>
  have h:Value.isInt i u = true:=h
  cases u <;> simp [Value.isInt] at h
  subst h
  exact ⟨_,rfl⟩
 | inr x =>
  obtain ⟨t,rfl⟩:=Value.isStrOf_shape (show Value.isStrOf x u = true from h)
  exact ⟨t,rfl⟩
theorem qH {α β:Type} {F:α -> β -> Prop}:∀ {l₁:List α} {l₂:List β} {i:Nat} {y:β},Paired F l₁ l₂ -> l₂[i]? = some y -> ∃ x,l₁[i]? = some x /\ F x y
 | _,_,_,_,.nil,h=>by cases h
 | _,_,0,_,.cons r _,h=>by cases h; exact ⟨_,rfl,r⟩
 | _,_,i + 1,_,.cons _ t,h=>by
  obtain ⟨x,h1,h2⟩:=qH (i:=i) t (by simpa using h)
  exact ⟨x,by simpa using h1,h2⟩
theorem frz_at {P:Program} {w:World} {h:Heap} {ob:Obj} (z:ObjOk P w H h d (.frz ob (.dK kvs))):∃ vs es ep,ob.data = .dict es ep /\ KV kvs vs /\ h.DictAt (mixKind P w) d vs ep /\ (d == sysModules) = false /\ kvs.length <= sizeLine:=by
 obtain ⟨h0,hz,hS,vs,rel,o,es',ep',ho,hx,hd',hk,hp,hnd⟩:=z
 rw [h0] at ho; cases ho
 exact ⟨vs,es',ep',hd',rel,⟨ob,es',h0,hx,hd',hk,hp,hnd⟩,hS,hz⟩
theorem dict_at {P:Program} {w:World} {h:Heap} {ob:Obj} {es:Array DictEntry} {ep:Nat} (hd:ob.data = .dict es ep) (z:ObjOk P w H h d (.frz ob (.dK kvs))):∃ vs,KV kvs vs /\ h.DictAt (mixKind P w) d vs ep /\ (d == sysModules) = false:=by
 obtain ⟨vs,es',ep',hd',rel,da,hS,_⟩:=frz_at z
 rw [hd] at hd'; cases hd'
 exact ⟨vs,rel,da,hS⟩
def ItK (d:Addr) (kvs:List (Key × V)) (ob:Obj):It where
 go:=fun i H=>H d = some (.frz ob (.dK kvs)) /\ i < kvs.length
 yld:=fun i H x H'=>H' = H /\ ∃ k v,kvs[i]? = some (k,v) /\ x = kV k
 stop:=fun i H=>H d = some (.frz ob (.dK kvs)) /\ i = kvs.length
theorem turn_keys {P:Program} {w:World} {K:PySem.W.Frag} {tg:Expr} {ob:Obj} {es:Array DictEntry} {ep:Nat} (hd:ob.data = .dict es ep) (it:Addr):Turn P w K tg (ItK d kvs ob) [it] it (fun i h=>h.IsKeyIter it d i kvs.length ep) where
 mem:=by simp
 obj:=fun i h st b hb=>by
  have e:b = it:=by simpa using hb
  subst e
  obtain ⟨o,e,c,dd⟩:=st
  exact ⟨o,e,fun v z=>by rw [dd] at z; cases z⟩
 keep:=fun i h h' st k=>by
  obtain ⟨o,e,c⟩:=st
  exact ⟨o,k it (by simp) o e,c⟩
 item:=by
  intro X hP hw hK hc i pins s σ H E I hf st hg
  subst hP hw hK
  obtain ⟨hfr,hi⟩:=hg
  obtain ⟨vs,rel,da,hS⟩:=dict_at hd (I.hok d _ hfr)
  have hl:kvs.length = vs.length:=Paired.length rel
  rw [hl] at st
  have hx:vs[i]? = some (vs[i]'(by omega)):=List.getElem?_eq_getElem (by omega)
  obtain ⟨f0,f1,f2,f3,f4,f5⟩:=hf it (by simp)
  refine wpAny_pyNext_dict_item (k:=(vs[i]'(by omega)).1) (v:=(vs[i]'(by omega)).2) st da hx fun key h' hkey st' sb=>?_
  have I1:Inv X pins σ H { s with heap:=h' }:=I.turned (t':=s.toks) (fun b o hb e=>(sb.2 b hb).trans e) f0 f1 f3 f4 f5
  rw [← hl] at st'
  obtain ⟨o,e,c,dd⟩:=id st'
  have hk:∃ v,kvs[i]? = some ((vs[i]'(by omega)).1,v):=by
   obtain ⟨⟨k0,v0⟩,h0,h1,_⟩:=qH rel hx
   have h1:k0 = _:=h1
   subst h1
   exact ⟨v0,h0⟩
  obtain ⟨v0,hk⟩:=hk
  exact ⟨key,rfl,go_of (s:={ s with heap:=h' }) e c dd (by decide) ⟨kV (vs[i]'(by omega)).1,H,I1,rel_kV hkey,⟨rfl,_,v0,hk,rfl⟩,st',fun b hb=>(hf b hb).1⟩⟩
 done:=by
  intro X hP hw hK hc i pins s σ H E I hf st hg
  subst hP hw hK
  obtain ⟨hfr,hi⟩:=hg
  subst hi
  obtain ⟨vs,rel,da,hS⟩:=dict_at hd (I.hok d _ hfr)
  have hl:kvs.length = vs.length:=Paired.length rel
  obtain ⟨f0,f1,f2,f3,f4,f5⟩:=hf it (by simp)
  rw [hl] at st
  exact wpAny_pyNext_dict_end (I.ok.hd hc) st da (List.getElem?_eq_none (by omega)) fun h' eb=>⟨rfl,I.turned (t':=s.toks) (fun b o hb e=>eb b o hb e) f0 f1 f3 f4 f5⟩
 self:=fun _ _ _ _ _ st h=>wpAny_pyIter_keyiter st h
def ItP (d:Addr) (kvs:List (Key × V)) (ob:Obj):It where
 go:=fun i H=>H d = some (.frz ob (.dK kvs)) /\ i < kvs.length
 yld:=fun i H x H'=>∃ T k v,kvs[i]? = some (k,v) /\ H T = none /\ x = .ref T /\ H' = upd H T (.tup [kV k,v])
 stop:=fun i H=>H d = some (.frz ob (.dK kvs)) /\ i = kvs.length
theorem turn_pairs {P:Program} {w:World} {K:PySem.W.Frag} {elts:List Expr} {x1} {tpos:Pos} {ob:Obj} {es:Array DictEntry} {ep:Nat} (hd:ob.data = .dict es ep) (it:Addr) :
  Turn P w K (.Tuple elts x1 tpos) (ItP d kvs ob) [it] it (fun i h=>∃ ok ov,IsItemIter h it d i kvs.length ep ok ov) where
 mem:=by simp
 obj:=fun i h st b hb=>by
  have e:b = it:=by simpa using hb
  subst e
  obtain ⟨ok,ov,e⟩:=st
  exact ⟨_,e,fun v z=>by cases z⟩
 keep:=fun i h h' st k=>by
  obtain ⟨ok,ov,e⟩:=st
  exact ⟨ok,ov,k it (by simp) _ e⟩
 item:=by
  intro X hP hw hK hc i pins s σ H E I hf st hg
  subst hP hw hK
  obtain ⟨hfr,hi⟩:=hg
  obtain ⟨vs,rel,da,hS⟩:=dict_at hd (I.hok d _ hfr)
  have hl:kvs.length = vs.length:=Paired.length rel
  obtain ⟨ok,ov,st⟩:=st
  rw [hl] at st
  obtain ⟨⟨kk,vv⟩,hx⟩:∃ p,vs[i]? = some p:=⟨_,List.getElem?_eq_getElem (show i < vs.length by omega)⟩
  obtain ⟨⟨k0,v0⟩,h0,h1,rv⟩:=qH rel hx
  have h1:k0 = kk:=h1
  have rv:RelV v0 vv:=rv
  have fi:=hf it (by simp)
  have hT:H s.heap.objs.size = none:=I.hok.fresh (Nat.le_refl _)
  have ltI:it < s.heap.objs.size:=Heap.lt_size st
  refine wpAny_pyNext_items_item (k:=kk) (v:=vv) st da hx fun key h' hkey out tup sz kp=>?_
  refine ⟨_,rfl,wpAny_letOwnedTupleGo_items out fun h2 en sb=>?_⟩
  have tup2:h2.get? s.heap.objs.size = some { cls:=.type "tuple",data:=.seq #[key,vv] }:=(sb.2 _ (Nat.ne_of_gt ltI)).trans tup
  have I1:Inv X pins σ H { s with heap:=h2 }:=I.turnedAll (t':=s.toks) (ch:=[it]) hf (fun b o hb q=>by
   have b1:b ≠ it:=fun z=>hb (by simp [z])
   exact (sb.2 b b1).trans (kp b o b1 q)) (fun b hb=>by
   have z:b = it:=by simpa using hb
   subst z; exact ⟨_,en⟩)
  have fT:=I.fpOk (Nat.le_refl _) hT
  have new:ObjOk X.prog X.w (upd H s.heap.objs.size (.tup [kV k0,v0])) h2 s.heap.objs.size (.tup [kV k0,v0]) :=
   ⟨by show 2 <= sizeLine; decide,[key,vv],.cons (by rw [h1]; exact rel_kV hkey) (.cons rv .nil),⟨_,tup2,rfl,_,rfl⟩⟩
  have I2:Inv X pins σ (upd H s.heap.objs.size (.tup [kV k0,v0])) { s with heap:=h2 } :=
   I1.takeUp hT (Nat.le_trans I.sz (Nat.le_refl _)) fT.2.1 fT.2.2.2.2.1 fT.2.2.2.2.2 new
  refine ⟨.ref s.heap.objs.size,_,I2,rfl,⟨_,k0,v0,h0,hT,rfl,rfl⟩,⟨key,vv,by rw [hl]; exact en⟩,fun b hb=>?_⟩
  have z:b = it:=by simpa using hb
  subst z
  rw [zD (Nat.ne_of_lt ltI)]
  exact fi.1
 done:=by
  intro X hP hw hK hc i pins s σ H E I hf st hg
  subst hP hw hK
  obtain ⟨hfr,hi⟩:=hg
  subst hi
  obtain ⟨vs,rel,da,hS⟩:=dict_at hd (I.hok d _ hfr)
  have hl:kvs.length = vs.length:=Paired.length rel
  obtain ⟨f0,f1,f2,f3,f4,f5⟩:=hf it (by simp)
  obtain ⟨ok,ov,st⟩:=st
  rw [hl] at st
  exact wpAny_pyNext_items_end (I.ok.hd hc) st da (List.getElem?_eq_none (by omega)) fun h' eb=>⟨rfl,I.turned (t':=s.toks) (fun b o hb e=>eb b o hb e) f0 f1 f3 f4 f5⟩
 self:=fun _ _ _ _ _ st h=>by
  obtain ⟨ok,ov,st⟩:=st
  exact PySem.W.kcp_self st h
end
section
variable {X:Cx} {tg:Expr}
def tFrz (t:TE):TE:=fun σ H Q=>t σ H fun v H1=>∃ d kvs,v = .ref d /\ H1 d = some (.dK kvs) /\ ∀ ob,Q v (upd H1 d (.frz ob (.dK kvs)))
theorem pe_frz {e:Expr} {t:TE} (h:PE X e t):PE X e (tFrz t):=by
 intro pins s σ H Q I q
 refine thn (h pins s σ H _ I q) fun v s1 ⟨x,H1,I1,r,d,kvs,ex,hd,q⟩=>?_
 subst ex
 obtain ⟨ob,I2⟩:=I1.freeze hd
 exact ⟨.ref d,_,I2,r,q ob⟩
def iKeys (td:TE):TI:=fun σ H R=>td σ H fun v H1=>∃ d ob kvs,v = .ref d /\ H1 d = some (.frz ob (.dK kvs)) /\ R (ItK d kvs ob) H1
theorem pi_keys {l:Expr} {tl:TE} (hl:PE X l tl):PI X tg l (iKeys tl):=by
 intro pins s σ H R I h
 refine thn (hl pins s σ H _ I h) fun v s1 ⟨x,H1,I1,r,d,ob,kvs,ex,hd,q⟩=>?_
 subst ex
 cases r
 obtain ⟨vs,es,ep,hdat,rel,da,hS,_⟩:=frz_at (I1.hok d _ hd)
 have hlen:kvs.length = vs.length:=Paired.length rel
 refine wpAny_pyIter_dict hS da ?_
 have I3:Inv X pins σ H1 { s1 with heap:=s1.heap.push { cls:=.type "dict_keyiterator",data:=.fields #[.ref d,.int 0 0,.int vs.length 0,.int ep 0] } }:=I1.kept (t':=s1.toks) fun b o e=>Heap.get?_push_of_some _ e
 refine ⟨s1.heap.objs.size,[s1.heap.objs.size],_,_,_,rfl,I3,turn_keys hdat _,?_,fun b hb=>?_,q⟩
 ·exact ⟨_,Heap.get?_push_size _ rfl,rfl,by rw [hlen]; rfl⟩
 ·have e:b = s1.heap.objs.size:=by simpa using hb
  subst e
  exact I1.fpOk (Nat.le_refl _) (I1.hok.fresh (Nat.le_refl _))
def iPairs (td:TE):TI:=fun σ H R=>td σ H fun v H1=>∃ d ob kvs,v = .ref d /\ H1 d = some (.frz ob (.dK kvs)) /\ R (ItP d kvs ob) H1
theorem pi_pairs {o:Expr} {td:TE} {elts:List Expr} {x1} {tpos apos cpos:Pos} (ho:PE X o td) (hbase:attributeBase o "items" X.env (eval o X.env) = eval o X.env:=by rfl) (hline:(apos.endLine == cpos.line) = true:=by rfl) :
  PI X (.Tuple elts x1 tpos) (.Call (.Attribute o "items" apos) [] [] cpos) (iPairs td):=by
 intro pins s σ H R I h
 refine wpAny_Call_method0_late hbase hline (thn (ho pins s σ H _ I h) fun v s1 ⟨x,H1,I1,r,d,ob,kvs,ex,hd,q⟩=>?_)
 subst ex
 cases r
 obtain ⟨vs,es,ep,hdat,rel,da,hS,_⟩:=frz_at (I1.hok d _ hd)
 have hlen:kvs.length = vs.length:=Paired.length rel
 have dO:=da.dictOf
 obtain ⟨ob',es',h1,h2,h3⟩:=id da
 refine ⟨"dict","dict.items",F.plainAttrs_dict,F.slot_dict_items,F.type_dict_items,dO.typeIs,fun b q=>by cases q; exact ⟨ob',h1,h2.2.1⟩,Calls.callWith_builtin rfl (PySem.evalArgs_none ?_)⟩
 refine call_meetsIn F.slot_dict_items dO.typeIs F.entry_dict_items (F.args_dict_items_1 _) (meets_dict_items (mixKind X.prog X.w) d hS) ⟨⟨vs,dO⟩,?_⟩
 have I2:Inv X pins σ H1 { s1 with heap:=s1.heap.push { cls:=.type "dict_items",data:=.fields #[.ref d] } }:=I1.kept (t':=s1.toks) fun b o e=>Heap.get?_push_of_some _ e
 have da2:(s1.heap.push { cls:=.type "dict_items",data:=.fields #[.ref d] }).DictAt (mixKind X.prog X.w) d vs ep:=da.at' fun o e=>Heap.get?_push_of_some _ e
 refine wpAny_pyIter_items (v:=s1.heap.objs.size) (d:=d) ⟨_,Heap.get?_push_size _ rfl,rfl,rfl⟩ da2 ?_
 refine ⟨_,[_],_,_,_,rfl,I2.kept (t':=s1.toks) fun b o e=>Heap.get?_push_of_some _ e,turn_pairs hdat _,⟨_,_,by rw [hlen]; exact Heap.get?_push_size _ rfl⟩,fun b hb=>?_,q⟩
 have e:=List.mem_singleton.mp hb
 subst e
 exact I2.fpOk (Nat.le_refl _) (I2.hok.fresh (Nat.le_refl _))
section
variable {d:Addr} {kvs:List (Key × V)} {ob:Obj} {g:TG} {tb:TS} {D:Ends} {σ:St} {H:Hp}
theorem for_keys (Pv:Nat -> St -> Hp -> Prop) (h0:Pv 0 σ H) (hl:∀ i σ H,i <= kvs.length -> Pv i σ H -> H d = some (.frz ob (.dK kvs)))
  (hs:∀ i k v σ H,kvs[i]? = some (k,v) -> Pv i σ H -> g (kV k) σ H fun σ2 H2=>tb { D with nx:=Pv (i + 1),ct:=Pv (i + 1),bk:=D.nx } σ2 H2) (hd:∀ σ H,Pv kvs.length σ H -> D.nx σ H):ForW (ItK d kvs ob) g tb D σ H :=
 for_n kvs.length Pv h0 (fun σ H p=>⟨hl _ σ H (Nat.le_refl _) p,rfl⟩) (fun i σ H hi p=>⟨hl i σ H (Nat.le_of_lt hi) p,hi⟩) (fun i σ H hi p v H' y=>by
  obtain ⟨eH,k,x,hx,ev⟩:=y
  subst ev eH
  exact hs i k x σ _ hx p) hd
end
def rInZ:R2:=fun y x H Q=>∃ a o,x = .ref a /\ DGet H a y o /\ Q (.bl o.isSome) H
theorem op_inZ (hu:X.A.units + 64 < cLine):OpR X (compareOp .In) rInZ:=by
 intro pins s σ H y x v u Q I ry rx h
 obtain ⟨a,o,rfl,g,q⟩:=h
 cases rx
 exact d_in (by omega) I g ry fun s' I'=>⟨.bl _,H,I',rfl,q⟩
theorem get_frz {H:Hp} {a:Addr} {ob:Obj} {kvs:List (Key × V)} {k:Key} (e:H a = some (.frz ob (.dK kvs))):DGet H a (kV k) (valV kvs k):=.inl ⟨kvs,k,.inr ⟨ob,e⟩,rfl,rfl⟩
inductive Hits (K:PySem.W.Frag) (H:Hp) (kb:List (Key × V)):List (Key × V) -> Bool -> Prop
 | nil:Hits K H kb [] true
 | miss {k:Key} {v:V} {r:List (Key × V)}:valV kb k = none -> Hits K H kb ((k,v) :: r) false
 | hit {k:Key} {v y:V} {d e:PyData} {r:List (Key × V)} {b:Bool}:valV kb k = some y -> Dt K H d v -> Dt K H e y -> SeqAt.shaped d = true -> SeqAt.shaped e = true -> Hits K H kb r b -> Hits K H kb ((k,v) :: r) (PyData.eqv d e && b)
end
end L2
namespace AxS
open PySem PySem.Spec PyProof.Rows
theorem orStandIn_marks (t:SetTable) (n:Nat):(t.orStandIn n).led = t.led /\ (t.plain = false -> (t.orStandIn n).plain = false):=by
 unfold SetTable.orStandIn
 split
 ·exact ⟨rfl,id⟩
 ·exact ⟨rfl,fun _=>rfl⟩
theorem layNew_marks (t:SetTable) (es:Array (Int × Value)) (h:Int) (x:Value):(layNew t es h x).2.1.led = t.led /\ (t.plain = false -> (layNew t es h x).2.1.plain = false):=by
 unfold layNew
 split
 ·rename_i slot wd _
  have m:=orStandIn_marks (t.put slot).1 (SetTable.insertAt es (t.put slot).2 (h,x)).size
  exact ⟨m.1,m.2⟩
 ·exact ⟨rfl,fun _=>rfl⟩
theorem laid_marks {mask finger moves:Nat} {led plain:Bool} {hs:Array Int} {t:SetTable} {o:Array Nat} (h:SetTable.laid mask finger moves led plain hs = some (t,o)):t.led = led /\ t.plain = plain:=by
 unfold SetTable.laid at h
 simp only [Option.bind_eq_bind,Option.bind_eq_some_iff,Option.pure_def,Option.some.injEq,Prod.mk.injEq] at h
 obtain ⟨_,_,h,_⟩:=h
 rw [← h]
 exact ⟨rfl,rfl⟩
theorem relayAll_marks (t:SetTable) (es:Array (Int × Value)) (n:Nat):(relayAll t es n).2.1.led = t.led /\ (t.plain = false -> (relayAll t es n).2.1.plain = false):=by
 unfold relayAll
 split
 ·rename_i t' order he
  have m:=laid_marks he
  dsimp only
  split
  ·exact ⟨m.1,fun z=>m.2.trans z⟩
  ·exact ⟨rfl,fun _=>rfl⟩
 ·exact ⟨rfl,fun _=>rfl⟩
def keyOf (e:Int × Value):Str:=match e.2 with
 | .str k _=>k
 | _=>""
def TxData (prog:Program) (w:World) (es:Array (Int × Value)) (t:SetTable) (ks:List Str):Prop :=
 ElemsOf (strKind prog w) es.toList /\ (es.toList.map keyOf).Perm ks /\ es.size < scanBound /\ t.fits es.size = true /\ t.led = !(w.params.followText "set-order") /\ (es.size ≠ 0 -> t.plain = false)
def TxSet (prog:Program) (w:World) (h:Heap) (a:Addr) (ks:List Str):Prop:=∃ o es ep t,h.get? a = some o /\ o.ExactSet /\ o.data = .set es ep t /\ TxData prog w es t ks
section
variable {prog:Program} {w:World} {A:Around} {E:Value -> Shared -> Prop} {s:Shared}
theorem TxSet.at {h h':Heap} {a:Addr} {ks:List Str} (x:TxSet prog w h a ks) (e:∀ o,h.get? a = some o -> h'.get? a = some o):TxSet prog w h' a ks:=by
 obtain ⟨o,es,ep,t,ho,r⟩:=x
 exact ⟨o,es,ep,t,e _ ho,r⟩
theorem key_is {es:Array (Int × Value)} (h:ElemsOf (strKind prog w) es.toList) {e:Int × Value} (he:e ∈ es.toList) (k:Str):(strKind prog w).is k e.2 = true ↔ keyOf e = k:=by
 obtain ⟨⟨k',hk',_⟩,_⟩:=h e he
 obtain ⟨t,et⟩:=Value.isStrOf_shape hk'
 have ek:keyOf e = k':=by unfold keyOf; rw [et]
 constructor
 ·intro z
  rw [ek]
  exact (strKind prog w).inj e.2 k' k hk' z
 ·intro z
  rw [← z,ek]
  exact hk'
theorem mem_keys {es:Array (Int × Value)} {ks:List Str} (h:ElemsOf (strKind prog w) es.toList) (p:(es.toList.map keyOf).Perm ks) (k:Str):k ∈ ks ↔ ∃ e ∈ es.toList,(strKind prog w).is k e.2 = true:=by
 rw [← p.mem_iff,List.mem_map]
 exact ⟨fun ⟨e,he,z⟩=>⟨e,he,(key_is h he k).mpr z⟩,fun ⟨e,he,z⟩=>⟨e,he,(key_is h he k).mp z⟩⟩
theorem tx_len {es:Array (Int × Value)} {t:SetTable} {ks:List Str} (x:TxData prog w es t ks):es.size = ks.length:=by
 rw [← x.2.1.length_eq,List.length_map,Array.length_toList]
theorem tx_add {a:Addr} {ks:List Str} {k:Str} {tk:Tok} {Q:Bool -> Shared -> Prop} (hS:TxSet prog w s.heap a ks) (hroom:ks.length + 1 < scanBound)
  (h:∀ h' r,Heap.SameBut a s.heap h' -> TxSet prog w h' a (if k ∈ ks then ks else ks ++ [k]) -> Q r { s with heap:=h' }) :
  wpAny (model prog w) A (setAddHashed a (.str k tk) (hashStr w k)) Q E s:=by
 obtain ⟨o,es,ep,t,ho,hex,hd,X⟩:=hS
 have hlen:=tx_len X
 obtain ⟨hel,hp,hb,hf,hled,hpl⟩:=X
 have hkey:(strKind prog w).is k (.str k tk) = true:=by show Value.isStrOf k (.str k tk) = true; simp [Value.isStrOf]
 have hsc:(Value.str k tk).scannable = true:=rfl
 have hh:hashStr w k = (strKind prog w).hash k:=rfl
 rw [hh]
 unfold setAddHashed setAddHashedIn
 refine wpAny_holding (wpAny_bind (wpAny_setState_of ho hd hf ?_))
 dsimp only
 rw [byScan_of (knd:=strKind prog w) hsc hb hel]
 simp only [↓reduceIte]
 unfold setAddByScan
 refine wpAny_bind (wpAny_bind (wpAny_rule (wpAny_bind (wpAny_setScan_of (knd:=strKind prog w) hkey ho hd hf hel ?_))))
 cases hr:List.findIdx? (fun e=>(strKind prog w).is k e.2) es.toList with
 | some j =>
  obtain ⟨hj,hpj,_⟩:=List.findIdx?_eq_some_iff_getElem.mp hr
  have hk:k ∈ ks:=(mem_keys hel hp k).mpr ⟨es.toList[j],List.getElem_mem hj,hpj⟩
  have:=h s.heap false (Heap.SameBut.refl a s.heap) (by rw [if_pos hk]; exact ⟨o,es,ep,t,ho,hex,hd,hel,hp,hb,hf,hled,hpl⟩)
  exact wpAny_pure (wpAny_pure this)
 | none =>
  have hk:k ∉ ks:=fun z=>by
   obtain ⟨e,he,q⟩:=(mem_keys hel hp k).mp z
   have:=List.findIdx?_eq_none_iff.mp hr e he
   rw [q] at this; cases this
  rw [if_neg hk] at h
  have hgw:∀ (b:Bool) {s₁:Shared} {Q':Unit -> Shared -> Prop},Q' () s₁ -> wpAny (model prog w) A (match b with | true=>rule "set.scan.the-table-gave-way" | false=>pure ()) Q' E s₁:=by
   intro b s₁ Q' hq
   cases b
   ·exact wpAny_pure hq
   ·exact wpAny_rule hq
  have hperm:=layNew_perm t es ((strKind prog w).hash k) (.str k tk)
  have hfits:=layNew_fits t es ((strKind prog w).hash k) (.str k tk)
  have hmk:=layNew_marks t es ((strKind prog w).hash k) (.str k tk)
  dsimp only
  generalize layNew t es ((strKind prog w).hash k) (.str k tk) = L at hperm hfits hmk ⊢
  obtain ⟨es1,t1,wd,gave⟩:=L
  dsimp only at hperm hfits hmk ⊢
  rw [Array.toList_push] at hperm
  have hsz:es1.size = es.size + 1:=by rw [← Array.length_toList,hperm.length_eq,List.length_append,Array.length_toList]; rfl
  have hel1:ElemsOf (strKind prog w) es1.toList:=(hel.push hkey hsc).perm hperm
  have hp1:(es1.toList.map keyOf).Perm (ks ++ [k]):=by
   refine (hperm.map keyOf).trans ?_
   rw [List.map_append]
   exact hp.append (List.Perm.refl _)
  have hb1:es1.size < scanBound:=by omega
  refine wpAny_bind (hgw _ ?_)
  have tail:∀ (t2:SetTable),t2.fits es1.size = true -> t2.led = t.led -> t2.plain = false -> wpAny (model prog w) A (do
    storeSet a es1 t2
    if (!wd && t2.tooFull) = true then do
      (match (relayAll t2 es1 (SetTable.grown es1.size)).2.2 with | true=>rule "set.scan.the-table-gave-way" | false=>pure ())
      storeSet a (relayAll t2 es1 (SetTable.grown es1.size)).1 (relayAll t2 es1 (SetTable.grown es1.size)).2.1
      pure (some true)
     else pure (some true)) (fun r s'=>r = some true /\ Q true s') E s:=by
   intro t2 hf2 hl2 hp2
   refine wpAny_bind (wpAny_storeSet_of ho hd ?_ (fits_of_scanBound hb1))
   have sb1:=Heap.SameBut.update s.heap a (Obj.putSet es1 t2)
   have ho1:(s.heap.update a (Obj.putSet es1 t2)).get? a = some { o with data:=.set es1 (ep + 1) t2 }:=by
    have:=Heap.get?_update_self (Obj.putSet es1 t2) ho (by rw [putSet_of es1 t2 hd]; rfl)
    rw [putSet_of es1 t2 hd] at this; exact this
   split
   ·have hpR:=relayAll_perm t2 es1 (SetTable.grown es1.size)
    have hfR:=relayAll_fits t2 es1 (SetTable.grown es1.size)
    have hmR:=relayAll_marks t2 es1 (SetTable.grown es1.size)
    generalize relayAll t2 es1 (SetTable.grown es1.size) = Rl at hpR hfR hmR ⊢
    obtain ⟨es2,t3,gv⟩:=Rl
    dsimp only at hpR hfR hmR ⊢
    have hsz2:es2.size = es1.size:=by rw [← Array.length_toList,hpR.length_eq,Array.length_toList]
    refine wpAny_bind (hgw _ (wpAny_bind (wpAny_storeSet_of ho1 rfl ?_ (fits_of_scanBound (by omega)))))
    have ho2:((s.heap.update a (Obj.putSet es1 t2)).update a (Obj.putSet es2 t3)).get? a = some { o with data:=.set es2 (ep + 1 + 1) t3 }:=by
     have:=Heap.get?_update_self (Obj.putSet es2 t3) ho1 (by rw [putSet_of es2 t3 rfl]; rfl)
     rw [putSet_of es2 t3 rfl] at this; exact this
    exact wpAny_pure ⟨rfl,h _ true (sb1.trans (Heap.SameBut.update _ a _)) ⟨_,es2,_,t3,ho2,hex,rfl,hel1.perm hpR,((hpR.map keyOf)).trans hp1,by omega,hfR,hmR.1.trans (hl2.trans hled),fun _=>hmR.2 hp2⟩⟩
   ·exact wpAny_pure ⟨rfl,h _ true sb1 ⟨_,es1,_,t2,ho1,hex,rfl,hel1,hp1,hb1,hf2,hl2.trans hled,fun _=>hp2⟩⟩
  split
  ·refine wpAny_bind ?_
   rw [hashByValue_scannable 8 hsc]
   refine wpAny_pure ?_
   refine wpAny_mono (tail { t1 with plain:=false } (SetTable.fits_plain_off hfits) hmk.1 rfl) (fun r s' q=>?_) fun _ _ z=>z
   obtain ⟨rfl,q⟩:=q
   exact wpAny_pure q
  ·rename_i hpf
   refine wpAny_bind (wpAny_pure ?_)
   simp only [↓reduceIte]
   refine wpAny_mono (tail t1 hfits hmk.1 (by simpa using hpf)) (fun r s' q=>?_) fun _ _ z=>z
   obtain ⟨rfl,q⟩:=q
   exact wpAny_pure q
def step (ks:List Str) (k:Str):List Str:=if k ∈ ks then ks else ks ++ [k]
def uniq (xs:List Str):List Str:=xs.foldl step []
theorem step_len (ks:List Str) (k:Str):(step ks k).length <= ks.length + 1:=by unfold step; split <;> simp
end
section
variable {prog:Program} {w:World} {A:Around} {R:Result -> Shared -> Prop} {I:Addr} {fp wr:List Addr} {G:Array GenState -> Array GenState -> Prop} {n:Nat} {P:Nat -> Value -> Prop} {St:Nat -> Shared -> Prop}
end
section
variable {prog:Program} {w:World} {A:Around} {E:Value -> Shared -> Prop} {s:Shared}
def z0 (w:World):Obj:={ cls:=.type "set",dict:=none,data:=.set #[] 0 (.fresh 0 0 (!(w.params.followText "set-order"))) }
theorem tx_fresh {h:Heap} {a:Addr} {xs:List Str} (e:h.get? a = some (z0 w)):TxSet prog w h a (uniq (xs.take 0)) :=
 ⟨_,#[],0,_,e,⟨rfl,rfl,rfl⟩,rfl,fun _ z=>by simp at z,List.Perm.refl _,by decide,by rfl,rfl,fun z=>absurd rfl z⟩
theorem set_new (a:Value) {Q₁:Value -> Shared -> Prop} (h:Q₁ (.ref s.heap.objs.size) { s with heap:=s.heap.push (z0 w) }) :
  codeAny (model prog w) A (.call (.builtin "set.__new__") ⟨[.type "set",a],[]⟩) (wants Q₁ E) s:=by
 refine codeAny_of_tree ?_
 show wpAny _ A.in1 (do checkBuiltinCall "set.__new__" ⟨[.type "set",a],[]⟩; again (.builtin "set.__new__" ⟨[.type "set",a],[]⟩)) _ _ s
 refine wpAny_bind (wpAny_of_eq (F.newCall_set_1 a) (wpAny_pure ⟨plainId_quiet F.plain_set_new _,codeAny_builtin F.entry_set_new ?_⟩))
 rw [Around.under_plainId F.plain_set_new _]
 unfold Builtin.«set.__new__» Builtin.Frozenset.newClass
 have hsub:=sub_set_self
 obtain ⟨hp,g,d,tk,os⟩:=s
 dsimp only
 wp_walk
 refine wpAny_askSetting (wpAny_pure ?_)
 dsimp only
 simp only [newObj]
 refine wpAny_bind (wpAny_alloc (wpAny_pure ?_))
 exact wpAny_pure h
end
end AxS
namespace AxS
open PySem PySem.Spec PyProof.Rows
def f5 (N i:Nat):Nat:=(i * 5 + 1) % N
def orb (N:Nat):Nat -> Nat -> Nat
 | 0,i=>i
 | k + 1,i=>orb N k (f5 N i)
theorem orb_add (N:Nat):∀ (a b i:Nat),orb N (a + b) i = orb N b (orb N a i)
 | 0,b,i=>by rw [Nat.zero_add]; rfl
 | a + 1,b,i=>by
  rw [show a + 1 + b = (a + b) + 1 by omega]
  show orb N (a + b) (f5 N i) = orb N b (orb N a (f5 N i))
  exact orb_add N a b (f5 N i)
def orbL (N:Nat):Nat -> Nat -> List Nat
 | 0,_=>[]
 | n + 1,i=>i :: orbL N n (f5 N i)
theorem orbL_mem {N:Nat}:∀ {n i s:Nat},s ∈ orbL N n i -> ∃ k,k < n /\ orb N k i = s
 | n + 1,i,s,h=>by
  rcases List.mem_cons.mp h with rfl | h
  ·exact ⟨0,by omega,rfl⟩
  ·obtain ⟨k,hk,e⟩:=orbL_mem h
   exact ⟨k + 1,by omega,e⟩
structure Full (N:Nat):Prop where
 all:∀ s,s < N -> ∃ k,k < N /\ orb N k 0 = s
 per:orb N N 0 = 0
theorem qX {N:Nat} (h1:(List.range N).all (fun s=>(orbL N N 0).contains s) = true) (h2:orb N N 0 = 0):Full N:=⟨fun s hs=>by
 have:=List.all_eq_true.mp h1 s (List.mem_range.mpr hs)
 exact orbL_mem (List.contains_iff_mem.mp this),h2⟩
theorem full8:Full 8:=qX (by decide +kernel) (by decide +kernel)
theorem full16:Full 16:=qX (by decide +kernel) (by decide +kernel)
theorem full32:Full 32:=qX (by decide +kernel) (by decide +kernel)
theorem full64:Full 64:=qX (by decide +kernel) (by decide +kernel)
theorem full128:Full 128:=qX (by decide +kernel) (by decide +kernel)
theorem full256:Full 256:=qX (by decide +kernel) (by decide +kernel)
theorem Full.any {N:Nat} (h:Full N) {i s:Nat} (hi:i < N) (hs:s < N):∃ k,k < N /\ orb N k i = s:=by
 obtain ⟨a,ha,ea⟩:=h.all i hi
 obtain ⟨b,hb,eb⟩:=h.all s hs
 by_cases z:a <= b
 ·refine ⟨b - a,by omega,?_⟩
  rw [← ea,← orb_add,show a + (b - a) = b by omega,eb]
 ·refine ⟨N - a + b,by omega,?_⟩
  rw [← ea,← orb_add,show a + (N - a + b) = N + b by omega,orb_add,h.per,eb]
section
variable {mask:Nat} {owner:Array (Option Nat)}
theorem free_at {i k:Nat} (h:((List.range (SetTable.runEnd mask i + 1 - i)).find? fun k=>(owner.getD (i + k) (some 0)).isNone) = some k):owner.getD (i + k) (some 0) = none:=by
 have:=List.find?_some h
 exact Option.isNone_iff_eq_none.mp this
theorem free_none {i:Nat} (h:((List.range (SetTable.runEnd mask i + 1 - i)).find? fun k=>(owner.getD (i + k) (some 0)).isNone) = none):owner.getD i (some 0) ≠ none:=by
 have:=List.find?_eq_none.mp h 0 (List.mem_range.mpr (by unfold SetTable.runEnd; split <;> omega))
 intro z
 rw [Nat.add_zero,z] at this
 exact this rfl
theorem free_zero:∀ (n fuel i:Nat),(∃ k,k <= n /\ owner.getD (orb (mask + 1) k i) (some 0) = none) -> n < fuel -> ∃ j,SetTable.layClean.free mask owner fuel i 0 = some j /\ owner.getD j (some 0) = none:=by
 intro n
 induction n with
 | zero =>
  intro fuel i ⟨k,hk,e⟩ hf
  have:k = 0:=by omega
  subst this
  obtain ⟨f,rfl⟩:∃ f,fuel = f + 1:=⟨fuel - 1,by omega⟩
  unfold SetTable.layClean.free
  cases q:(List.range (SetTable.runEnd mask i + 1 - i)).find? fun k=>(owner.getD (i + k) (some 0)).isNone with
  | some k=>exact ⟨_,rfl,free_at q⟩
  | none=>exact absurd e (free_none q)
 | succ n ih =>
  intro fuel i ⟨k,hk,e⟩ hf
  obtain ⟨f,rfl⟩:∃ f,fuel = f + 1:=⟨fuel - 1,by omega⟩
  unfold SetTable.layClean.free
  cases q:(List.range (SetTable.runEnd mask i + 1 - i)).find? fun k=>(owner.getD (i + k) (some 0)).isNone with
  | some k=>exact ⟨_,rfl,free_at q⟩
  | none =>
   cases k with
   | zero=>exact absurd e (free_none q)
   | succ k =>
    exact ih f _ ⟨k,by omega,e⟩ (by omega)
theorem free_some (F:Full (mask + 1)) (he:∃ s,s < mask + 1 /\ owner.getD s (some 0) = none):∀ (m fuel i p:Nat),p < 32 ^ m -> m + (mask + 1) <= fuel -> i < mask + 1 -> ∃ j,SetTable.layClean.free mask owner fuel i p = some j /\ owner.getD j (some 0) = none:=by
 obtain ⟨s,hs,es⟩:=he
 intro m
 induction m with
 | zero =>
  intro fuel i p hp hf hi
  have:p = 0:=by omega
  subst this
  obtain ⟨k,hk,e⟩:=F.any hi hs
  exact free_zero mask fuel i ⟨k,by omega,by rw [e]; exact es⟩ (by omega)
 | succ m ih =>
  intro fuel i p hp hf hi
  obtain ⟨f,rfl⟩:∃ f,fuel = f + 1:=⟨fuel - 1,by omega⟩
  unfold SetTable.layClean.free
  cases q:(List.range (SetTable.runEnd mask i + 1 - i)).find? fun k=>(owner.getD (i + k) (some 0)).isNone with
  | some k=>exact ⟨_,rfl,free_at q⟩
  | none =>
   refine ih f _ _ ?_ (by omega) (Nat.mod_lt _ (by omega))
   rw [Nat.pow_succ] at hp
   exact Nat.div_lt_of_lt_mul (by omega)
end
theorem bits_lt (h:Int):SetTable.bits h < 32 ^ 13:=by
 unfold SetTable.bits
 have h1:0 <= h % (2 ^ 64:Int):=Int.emod_nonneg _ (by decide)
 have h2:h % (2 ^ 64:Int) < 2 ^ 64:=Int.emod_lt_of_pos _ (by decide)
 have:(2 ^ 64:Int) < (32 ^ 13:Nat):=by decide
 omega
theorem set_perm {k:Nat}:∀ {l:List (Option Nat)} {j:Nat},l[j]? = some none -> ((l.set j (some k)).filterMap id).Perm (k :: l.filterMap id)
 | x :: l,0,h=>by
  have:x = none:=Option.some.inj h
  subst this
  exact List.Perm.refl _
 | x :: l,j + 1,h=>by
  have ih:=set_perm (k:=k) (l:=l) (j:=j) h
  rw [List.set_cons_succ]
  cases x with
  | none=>exact ih
  | some y =>
   show (y :: (l.set j (some k)).filterMap id).Perm (k :: y :: l.filterMap id)
   exact (ih.cons y).trans (List.Perm.swap ..)
theorem z6:∀ {l:List (Option Nat)},(l.filterMap id).length < l.length -> ∃ j,j < l.length /\ l[j]? = some none
 | [],h=>absurd h (Nat.not_lt_zero _)
 | none :: l,_=>⟨0,by simp,rfl⟩
 | some x :: l,h=>by
  have h:(l.filterMap id).length + 1 < l.length + 1:=h
  obtain ⟨j,hj,e⟩:=z6 (l:=l) (by omega)
  exact ⟨j + 1,by simp; omega,e⟩
structure Laid (N k:Nat) (owner:Array (Option Nat)):Prop where
 sz:owner.size = N
 pm:(owner.toList.filterMap id).Perm (List.range k)
theorem lay_all {mask:Nat} (F:Full (mask + 1)):∀ (hs:List Int) (owner:Array (Option Nat)) (k:Nat),Laid (mask + 1) k owner -> k + hs.length <= mask -> ∃ owner',Laid (mask + 1) (k + hs.length) owner' /\
  (hs.foldl (fun acc h=>do
   let (owner,k) ← acc
   let j ← SetTable.layClean.free mask owner (SetTable.turns mask) (SetTable.bits h % (mask + 1)) (SetTable.bits h)
   pure (owner.setIfInBounds j (some k),k + 1)) (some (owner,k)):Option (Array (Option Nat) × Nat)) = some (owner',k + hs.length):=by
 intro hs
 induction hs with
 | nil=>intro owner k L _; exact ⟨owner,L,rfl⟩
 | cons h hs ih =>
  intro owner k L hk
  rw [List.length_cons] at hk
  have pl:=L.pm.length_eq
  rw [List.length_range] at pl
  have ol:owner.toList.length = mask + 1:=by rw [Array.length_toList]; exact L.sz
  obtain ⟨s,hs1,es⟩:=z6 (l:=owner.toList) (by omega)
  have es':owner.getD s (some 0) = none:=by
   rw [Array.getElem?_toList] at es
   rw [Array.getD_eq_getD_getElem?,es]
   rfl
  obtain ⟨j,ej,en⟩:=free_some (owner:=owner) F ⟨s,by omega,es'⟩ 13 (SetTable.turns mask) (SetTable.bits h % (mask + 1)) (SetTable.bits h) (bits_lt h) (by unfold SetTable.turns; omega) (Nat.mod_lt _ (by omega))
  have hj:j < owner.size:=by
   rcases Nat.lt_or_ge j owner.size with z | z
   ·exact z
   ·rw [Array.getD_eq_getD_getElem?,Array.getElem?_eq_none z] at en
    cases en
  have L':Laid (mask + 1) (k + 1) (owner.setIfInBounds j (some k)):=by
   refine ⟨by rw [Array.size_setIfInBounds]; exact L.sz,?_⟩
   rw [Array.toList_setIfInBounds]
   have ej':owner.toList[j]? = some none:=by
    rw [Array.getElem?_toList,Array.getElem?_eq_getElem hj]
    rw [Array.getD_eq_getD_getElem?,Array.getElem?_eq_getElem hj] at en
    exact congrArg some en
   refine (set_perm ej').trans ((L.pm.cons k).trans ?_)
   rw [List.range_succ]
   exact (List.perm_append_singleton k (List.range k)).symm
  obtain ⟨owner',L2,e2⟩:=ih (owner.setIfInBounds j (some k)) (k + 1) L' (by omega)
  refine ⟨owner',by rw [List.length_cons,show k + (hs.length + 1) = k + 1 + hs.length by omega]; exact L2,?_⟩
  rw [List.foldl_cons,List.length_cons,show k + (hs.length + 1) = k + 1 + hs.length by omega,← e2]
  congr 1
  show (do
   let j ← SetTable.layClean.free mask owner (SetTable.turns mask) (SetTable.bits h % (mask + 1)) (SetTable.bits h)
   pure (owner.setIfInBounds j (some k),k + 1):Option (Array (Option Nat) × Nat)) = _
  rw [ej]
  rfl
theorem live_map (owner:Array (Option Nat)):∀ n,n = owner.size -> ((List.range n).filterMap fun j=>(owner.getD j none).map (j,·)).map (·.2) = owner.toList.filterMap id:=by
 intro n hn
 have e:owner.toList = (List.range n).map fun j=>owner.getD j none:=by
  apply List.ext_getElem?
  intro i
  rw [Array.getElem?_toList,List.getElem?_map]
  by_cases z:i < n
  ·rw [List.getElem?_range z,Array.getElem?_eq_getElem (by omega),Option.map_some,Array.getD_eq_getD_getElem?,Array.getElem?_eq_getElem (by omega)]
   rfl
  ·rw [List.getElem?_eq_none (by simp; omega),Array.getElem?_eq_none (by omega)]
   rfl
 rw [e,List.filterMap_map,List.map_filterMap]
 congr 1
 funext j
 show ((owner.getD j none).map (j,·)).map (·.2) = id (owner.getD j none)
 cases owner.getD j none <;> rfl
theorem laid_ok {mask finger moves:Nat} {led plain:Bool} {hs:Array Int} (F:Full (mask + 1)) (hn:hs.size <= mask):∃ t order,SetTable.laid mask finger moves led plain hs = some (t,order) /\ order.toList.Perm (List.range hs.size) /\ t.place.size = hs.size /\ t.dummies = #[] /\ t.mask = mask /\ t.led = led /\ t.plain = plain:=by
 have L0:Laid (mask + 1) 0 (Array.replicate (mask + 1) none):=by
  refine ⟨Array.size_replicate,?_⟩
  rw [Array.toList_replicate]
  have:∀ n,(List.replicate n (none:Option Nat)).filterMap id = []:=fun n=>by
   induction n with
   | zero=>rfl
   | succ n ih=>rw [List.replicate_succ]; exact ih
  rw [this]
  exact List.Perm.refl _
 obtain ⟨owner,L,e⟩:=lay_all F hs.toList _ 0 L0 (by rw [Array.length_toList]; omega)
 rw [Nat.zero_add,Array.length_toList] at L e
 have ec:SetTable.layClean mask hs = some owner:=by
  unfold SetTable.layClean
  rw [← Array.foldl_toList]
  exact congrArg (Option.map (·.1)) e
 have lm:=live_map owner (mask + 1) L.sz.symm
 have pl:=L.pm
 rw [← lm] at pl
 have ll:=pl.length_eq
 rw [List.length_map,List.length_range] at ll
 refine ⟨_,_,by unfold SetTable.laid; rw [ec]; rfl,by simpa using pl,?_,rfl,rfl,rfl,rfl⟩
 show (List.map _ _).toArray.size = _
 rw [List.size_toArray,List.length_map]
 exact ll
end AxS
namespace AxS
open PySem PySem.Spec PyProof.Rows
section
variable {M:Model} {A:Around} {E:Value -> Shared -> Prop} {s:Shared}
theorem wpAny_choose {src:Source} {n:Nat} {Q:Nat -> Shared -> Prop} (hn:n ≠ 0) (h:∀ i,i < n -> Q i { s with drawn:=s.drawn.bump src }):wpAny M A (choose src n) Q E s :=
 fun Γ p _=>⟨hn,h _ (Nat.mod_lt _ (Nat.pos_of_ne_zero hn))⟩
theorem perm_erase {α:Type} {xs:List α} {i:Nat} {x:α} (h:xs[i]? = some x):(x :: xs.eraseIdx i).Perm xs:=by
 induction xs generalizing i with
 | nil=>cases h
 | cons y ys ih =>
  cases i with
  | zero =>
   have h:y = x:=Option.some.inj h
   subst h
   exact List.Perm.refl _
  | succ i =>
   have h:ys[i]? = some x:=by simpa using h
   show (x :: y :: ys.eraseIdx i).Perm (y :: ys)
   exact (List.Perm.swap y x _).trans (List.Perm.cons y (ih h))
theorem xS {α:Type}:∀ (n:Nat) (xs:List α) (s:Shared) {Q:List α -> Shared -> Prop},xs.length <= n -> (∀ ys d,ys.Perm xs -> Q ys { s with drawn:=d }) -> wpAny M A (drawOrder n xs) Q E s
 | 0,xs,s,Q,hl,h=>by
  have e:xs = []:=List.eq_nil_of_length_eq_zero (by omega)
  subst e
  exact wpAny_pure (h [] s.drawn (List.Perm.refl _))
 | n + 1,[],s,Q,hl,h=>wpAny_pure (h [] s.drawn (List.Perm.refl _))
 | n + 1,x :: xs,s,Q,hl,h=>by
  refine wpAny_bind (wpAny_choose (by simp) fun i hi=>?_)
  have hx:(x :: xs)[i]? = some ((x :: xs)[i]):=List.getElem?_eq_getElem hi
  have hp:=perm_erase hx
  show wpAny M A (match (x :: xs)[i]? with | some x_1=>_ | none=>_) Q E _
  rw [hx]
  refine wpAny_bind (xS n _ _ (by rw [List.length_eraseIdx_of_lt hi]; simp at hl ⊢; omega) fun ys d hy=>?_)
  exact wpAny_pure (h _ d ((List.Perm.cons _ hy).trans hp))
theorem pick_go {α:Type} (next:Nat -> Nat):∀ (fuel k:Nat) (left:List α) (out:Array α),left.length = fuel -> (pickOrder.go next fuel k left out).toList.Perm (out.toList ++ left)
 | 0,k,left,out,h=>by
  rw [List.eq_nil_of_length_eq_zero h,List.append_nil]
  exact List.Perm.refl _
 | fuel + 1,k,left,out,h=>by
  unfold pickOrder.go
  have hlt:next k % left.length < left.length:=Nat.mod_lt _ (by omega)
  have hx:left[next k % left.length]? = some (left[next k % left.length]):=List.getElem?_eq_getElem hlt
  rw [hx]
  refine (pick_go next fuel (k + 1) _ _ (by rw [List.length_eraseIdx_of_lt hlt]; omega)).trans ?_
  rw [Array.toList_push,List.append_assoc]
  exact List.Perm.append_left _ (perm_erase hx)
theorem qD {α:Type} (next:Nat -> Nat) (xs:Array α):(pickOrder next xs).toList.Perm xs.toList:=by
 have:=pick_go next xs.size 0 xs.toList #[] (by simp)
 simpa [pickOrder] using this
end
section
variable {prog:Program} {w:World} {A:Around} {E:Value -> Shared -> Prop} {s:Shared}
def byText (w:World):Bool:=w.params.followText "set-order"
theorem wpAny_setDrawn {a:Addr} {o:Obj} {es:Array (Int × Value)} {ep:Nat} {t:SetTable} {Q:Bool -> Shared -> Prop} (ho:s.heap.get? a = some o) (hd:o.data = .set es ep t) (hf:t.fits es.size = true)
  (h:Q (!byText w && (!t.plain && decide (es.size > 1))) s):wpAny (model prog w) A (setDrawn a) Q E s:=by
 unfold setDrawn setsByText
 refine wpAny_bind (wpAny_setState_of ho hd hf ?_)
 refine wpAny_bind (wpAny_bind (wpAny_askSetting (wpAny_pure ?_)))
 exact wpAny_pure h
theorem qN:entryFor table "set.__iter__" = some Builtin.«frozenset.__iter__» :=
 entryFor_alias (id':="frozenset.__iter__") (by kernel_rfl) (by first | rfl | decide +kernel | (unfold String.splitOn; simp +decide [String.splitOnAux])) (by decide +kernel) (by kernel_rfl)
theorem owner_si:Manifest.owners.lookup (String.ofList ['r','o','t','a','r','e','t','i','_','t','e','s'].reverse) = some Manifest.sig_set_iterator:=by kernel_rfl
theorem slot_next:Slot "set_iterator" "__next__" "set_iterator.__next__" :=
 .of (owner:="set_iterator") (n:="__next__") (by rw [typeLookup_type,builtinLookup_eq_fast]; kernel_rfl) (by decide +kernel) (by decide +kernel) (by decide +kernel)
  (by first | exact .inl (by decide +kernel) | exact .inr (by decide +kernel)) (by rw [isSubtype_type]; kernel_rfl)
theorem entry_next:entryFor table "set_iterator.__next__" = some Builtin.«set_iterator.__next__»:=entryFor_of_tree (by kernel_rfl)
theorem args_next (a:Value):argsOk "set_iterator.__next__" ⟨[a],[]⟩:=by
 unfold argsOk; rw [signature?_of (id:="set_iterator.__next__") (n:=['_','_','t','x','e','n','_','_']) (o:=['r','o','t','a','r','e','t','i','_','t','e','s']) (by kernel_rfl) owner_si]; kernel_rfl
theorem slot_itself:Slot "set_iterator" "__iter__" "set_iterator.__iter__" :=
 .of (owner:="set_iterator") (n:="__iter__") (by rw [typeLookup_type,builtinLookup_eq_fast]; kernel_rfl) (by decide +kernel) (by decide +kernel) (by decide +kernel)
  (by first | exact .inl (by decide +kernel) | exact .inr (by decide +kernel)) (by rw [isSubtype_type]; kernel_rfl)
theorem args_itself (a:Value):argsOk "set_iterator.__iter__" ⟨[a],[]⟩:=by
 unfold argsOk; rw [signature?_of (id:="set_iterator.__iter__") (n:=['_','_','r','e','t','i','_','_']) (o:=['r','o','t','a','r','e','t','i','_','t','e','s']) (by kernel_rfl) owner_si]; kernel_rfl
theorem entry_itself:entryFor table "set_iterator.__iter__" = some Builtin.«dict_keyiterator.__iter__» :=
 entryFor_alias (id':="dict_keyiterator.__iter__") (by kernel_rfl) (by first | rfl | decide +kernel | (unfold String.splitOn; simp +decide [String.splitOnAux])) (by decide +kernel) (by kernel_rfl)
end
end AxS
namespace AxS
open PySem PySem.Spec PyProof.Rows
section
variable {prog:Program} {w:World} {A:Around} {E:Value -> Shared -> Prop} {s:Shared}
def itO (first:Value) (i:Int) (a:Addr) (n ep:Nat):Obj:={ cls:=.type "set_iterator",data:=.fields #[first,rawInt i,.ref a,rawInt n,rawInt ep] }
theorem iter_set {a:Addr} {o:Obj} {es:Array (Int × Value)} {ep:Nat} {t:SetTable} {Q:Value -> Shared -> Prop} (ho:s.heap.get? a = some o) (hx:o.ExactSet) (hd:o.data = .set es ep t) (hf:t.fits es.size = true) (hz:es.size <= 1000)
  (h1:(!byText w && (!t.plain && decide (es.size > 1))) = false -> Q (.ref s.heap.objs.size) { s with heap:=s.heap.push (itO (rawInt 0) 0 a es.size ep) })
  (h2:(!byText w && (!t.plain && decide (es.size > 1))) = true -> ∀ (ps:List Nat) d tk,ps.Perm (List.range es.size) -> Q (.ref (s.heap.objs.size + 1)) { s with heap:=(s.heap.push { cls:=.type "tuple",data:=.seq (ps.map fun i=>rawInt (i:Nat)).toArray }).push (itO (.ref s.heap.objs.size) 0 a es.size ep),drawn:=d,toks:=tk }) :
  wpAny (model prog w) A (pyIter (.ref a)) Q E s:=by
 have hT:s.TypeIs (.ref a) "set":=⟨o,ho,hx.1⟩
 refine wpAny_pyIter_slot hT PySem.F.slot_set_iter (wpAny_call_entry PySem.F.slot_set_iter hT qN ?_ (PySem.F.args_set_iter_1 _))
 unfold Builtin.«frozenset.__iter__»
 refine wpAny_bind (m:=Builtin.Frozenset.slot0 _ _) (wpAny_of_eq (a:=a) rfl ?_)
 unfold Builtin.Frozenset.sizeOf
 refine wpAny_bind (wpAny_bind (wpAny_setEntries_of ho hd hf (wpAny_pure ?_)))
 refine wpAny_bind (wpAny_setDrawn ho hd hf ?_)
 cases q:(!byText w && (!t.plain && decide (es.size > 1))) with
 | false =>
  rw [if_neg (by decide)]
  refine wpAny_bind (wpAny_pure (wpAny_bind (wpAny_setEpoch_of ho hd hf ?_)))
  simp only [newFields]
  refine wpAny_bind (wpAny_newObj_type ?_)
  exact wpAny_pure ⟨_,rfl,"set_iterator",_,⟨_,Heap.get?_push_size _ rfl,rfl⟩,slot_next.lookup,h1 q⟩
 | true =>
  rw [if_pos rfl]
  refine wpAny_bind (xS es.size (List.range es.size) s (by rw [List.length_range]; exact Nat.le_refl _) fun ps d hp=>?_)
  have pl:ps.length = es.size:=by rw [hp.length_eq,List.length_range]
  simp only [newTuple]
  refine wpAny_bind (wpAny_newObj_type ?_ ?_)
  ·have ho':(s.heap.push { cls:=.type "tuple",data:=.seq (ps.map fun i=>rawInt (i:Nat)).toArray }).get? a = some o:=Heap.get?_push_of_some _ ho
   refine wpAny_bind (wpAny_setEpoch_of (s:={ s with heap:=s.heap.push { cls:=.type "tuple",data:=.seq (ps.map fun i=>rawInt (i:Nat)).toArray },drawn:=d }) ho' hd hf ?_)
   simp only [newFields]
   refine wpAny_bind (wpAny_newObj_type ?_)
   have e:(s.heap.push { cls:=.type "tuple",data:=.seq (ps.map fun i=>rawInt (i:Nat)).toArray }).objs.size = s.heap.objs.size + 1:=Heap.size_push _ _
   refine wpAny_pure ⟨_,rfl,"set_iterator",_,⟨_,Heap.get?_push_size _ rfl,rfl⟩,slot_next.lookup,?_⟩
   have:=h2 q ps d s.toks hp
   rw [← e] at this
   exact this
  ·show (ps.map fun i=>rawInt (i:Nat)).toArray.size <= sizeLine
   rw [List.size_toArray,List.length_map,pl,sizeLine_eq]
   omega
theorem y6 {it:Addr} {f:Value} {i:Int} {a:Addr} {n ep:Nat} (h:s.heap.get? it = some (itO f i a n ep)):s.TypeIs (.ref it) "set_iterator":=⟨_,h,rfl⟩
theorem next_slot {it a:Addr} {o:Obj} {es:Array (Int × Value)} {ep:Nat} {t:SetTable} {slot i slot':Nat} {x:Value} {Q:Option Value -> Shared -> Prop} (hit:s.heap.get? it = some (itO (rawInt slot) i a es.size ep)) (hne:a ≠ it) (ho:s.heap.get? a = some o) (hd:o.data = .set es ep t) (hf:t.fits es.size = true)
  (hn:∀ (A:Around) (E:Value -> Shared -> Prop) (Q:Option (Value × Nat) -> Shared -> Prop),Q (some (x,slot')) s -> wpAny (model prog w) A (setNext a slot i ep) Q E s)
  (h:∀ h',h'.get? it = some (itO (rawInt slot') (i + 1) a es.size ep) -> Heap.SameBut it s.heap h' -> Q (some x) { s with heap:=h' }):wpAny (model prog w) A (pyNext (.ref it)) Q E s:=by
 unfold pyNext
 refine wpAny_bind (wpAny_attempt (wpAny_callSpecial?_slot (name:=Str.ofString "__next__") (y6 hit) slot_next
  (wpAny_call_entry slot_next (y6 hit) entry_next ?_ (args_next _))))
 unfold Builtin.«set_iterator.__next__»
 refine wpAny_bind (wpAny_of_eq (a:=(Value.ref it,[])) rfl ?_)
 refine wpAny_bind (wpAny_fieldsOf hit rfl ?_)
 show wpAny _ _ (setEntries a >>= _) _ _ s
 refine wpAny_bind (wpAny_setEntries_of ho hd hf ?_)
 have e1:(((es.size:Nat):Int) != ((es.size:Nat):Int)) = false:=by simp
 rw [if_neg (by rw [e1]; decide)]
 show wpAny _ _ (setNext a slot i ep >>= _) _ _ s
 refine wpAny_bind (hn _ _ _ ?_)
 show wpAny _ _ (setField (.ref it) 0 (rawInt slot') >>= _) _ _ s
 refine wpAny_bind (wpAny_setField hit rfl (by simp) ?_)
 have h1:=Heap.get?_update_self (Obj.mapFields (·.setIfInBounds 0 (rawInt (slot':Nat)))) hit rfl
 refine wpAny_bind (wpAny_setField h1 rfl (by simp) ?_)
 have h2:=Heap.get?_update_self (Obj.mapFields (·.setIfInBounds 1 (rawInt ((i:Int) + 1)))) h1 rfl
 exact wpAny_pure ⟨x,rfl,wpAny_pure (h _ h2 ((Heap.SameBut.update ..).trans (Heap.SameBut.update ..)))⟩
theorem qC {it a:Addr} {o:Obj} {es:Array (Int × Value)} {ep:Nat} {t:SetTable} {slot i:Nat} {Q:Option Value -> Shared -> Prop} (hh:A.handled = none) (hit:s.heap.get? it = some (itO (rawInt slot) i a es.size ep)) (ho:s.heap.get? a = some o) (hd:o.data = .set es ep t) (hf:t.fits es.size = true)
  (hn:∀ (A:Around) (E:Value -> Shared -> Prop) (Q:Option (Value × Nat) -> Shared -> Prop),Q none s -> wpAny (model prog w) A (setNext a slot i ep) Q E s)
  (h:∀ h',Heap.ExtBut it s.heap h' -> Q none { s with heap:=h' }):wpAny (model prog w) A (pyNext (.ref it)) Q E s:=by
 unfold pyNext
 refine wpAny_bind (wpAny_attempt (wpAny_callSpecial?_slot (name:=Str.ofString "__next__") (y6 hit) slot_next
  (wpAny_call_entry slot_next (y6 hit) entry_next ?_ (args_next _))))
 unfold Builtin.«set_iterator.__next__»
 refine wpAny_bind (wpAny_of_eq (a:=(Value.ref it,[])) rfl ?_)
 refine wpAny_bind (wpAny_fieldsOf hit rfl ?_)
 show wpAny _ _ (setEntries a >>= _) _ _ s
 refine wpAny_bind (wpAny_setEntries_of ho hd hf ?_)
 have e1:(((es.size:Nat):Int) != ((es.size:Nat):Int)) = false:=by simp
 rw [if_neg (by rw [e1]; decide)]
 show wpAny _ _ (setNext a slot i ep >>= _) _ _ s
 refine wpAny_bind (hn _ _ _ ?_)
 show wpAny _ _ (setField (.ref it) 2 .none >>= _) _ _ s
 refine wpAny_bind (wpAny_setField hit rfl (by simp) ?_)
 refine wpAny_bind ?_
 simp only [newExc,newTuple]
 refine wpAny_bind (wpAny_newObj_type ?_ (by size_fits))
 refine wpAny_bind (m:=firstArgMember _ _) (wpAny_of_eq (a:=Value.none) (by first | rfl | (simp only [firstArgMember]; rfl)) ?_)
 refine wpAny_newObj_type ?_ (by size_fits)
 simp only [raiseNew]
 refine wpAny_bind (wpAny_handled ?_)
 first | rw [show A.in1.handled = none from hh] | rw [hh]
 refine wpAny_bind (wpAny_pure (wpAny_throw ?_))
 refine wpAny_bind (wpAny_isInstance (T:="StopIteration") (b:=true) ⟨_,Heap.get?_push_size _ rfl,rfl⟩ isSubtype_stop ?_)
 refine wpAny_pure (h _ ?_)
 refine ((Heap.ExtBut.push ?_ _).push _)
 exact (Heap.SameBut.update ..).extBut
def tupO (ps:List Nat):Obj:={ cls:=.type "tuple",data:=.seq (ps.map fun i=>rawInt (i:Nat)).toArray }
theorem next_drawn {it a u:Addr} {o:Obj} {es:Array (Int × Value)} {ep:Nat} {t:SetTable} {i p:Nat} {ps:List Nat} {e:Int × Value} {Q:Option Value -> Shared -> Prop} (hit:s.heap.get? it = some (itO (.ref u) i a es.size ep)) (hu:s.heap.get? u = some (tupO ps)) (ho:s.heap.get? a = some o) (hd:o.data = .set es ep t) (hf:t.fits es.size = true)
  (hp:ps[i]? = some p) (he:es[p]? = some e) (h:∀ h',h'.get? it = some (itO (.ref u) (i + 1) a es.size ep) -> Heap.SameBut it s.heap h' -> Q (some e.2) { s with heap:=h' }):wpAny (model prog w) A (pyNext (.ref it)) Q E s:=by
 unfold pyNext
 refine wpAny_bind (wpAny_attempt (wpAny_callSpecial?_slot (name:=Str.ofString "__next__") (y6 hit) slot_next
  (wpAny_call_entry slot_next (y6 hit) entry_next ?_ (args_next _))))
 unfold Builtin.«set_iterator.__next__»
 refine wpAny_bind (wpAny_of_eq (a:=(Value.ref it,[])) rfl ?_)
 refine wpAny_bind (wpAny_fieldsOf hit rfl ?_)
 show wpAny _ _ (setEntries a >>= _) _ _ s
 refine wpAny_bind (wpAny_setEntries_of ho hd hf ?_)
 have e1:(((es.size:Nat):Int) != ((es.size:Nat):Int)) = false:=by simp
 rw [if_neg (by rw [e1]; decide)]
 show wpAny _ _ (seqItems? (.ref u) >>= _) _ _ s
 refine wpAny_bind (wpAny_seqItems hu rfl ?_)
 have hpi:(ps.map fun i=>rawInt ((i:Nat):Int)).toArray[i]? = some (rawInt (p:Nat)):=by
  rw [List.getElem?_toArray,List.getElem?_map,hp]; rfl
 show wpAny _ _ (match (ps.map fun i=>rawInt ((i:Nat):Int)).toArray[i]? with | some (.int place _)=>_ | some _=>_ | none=>_) _ _ s
 rw [hpi]
 show wpAny _ _ (setNextDrawn a p ep >>= _) _ _ s
 unfold setNextDrawn
 refine wpAny_bind (wpAny_bind (wpAny_setState_of ho hd hf ?_))
 have e2:(ep != ep) = false:=by simp
 dsimp only
 rw [if_neg (by rw [e2]; decide)]
 rw [he]
 refine wpAny_pure ?_
 show wpAny _ _ (setField (.ref it) 1 (rawInt ((i:Int) + 1)) >>= _) _ _ s
 refine wpAny_bind (wpAny_setField hit rfl (by simp) ?_)
 have h2:=Heap.get?_update_self (Obj.mapFields (·.setIfInBounds 1 (rawInt ((i:Int) + 1)))) hit rfl
 exact wpAny_pure ⟨e.2,rfl,wpAny_pure (h _ h2 (Heap.SameBut.update ..))⟩
theorem next_drawn_end {it a u:Addr} {o:Obj} {es:Array (Int × Value)} {ep:Nat} {t:SetTable} {i:Nat} {ps:List Nat} {Q:Option Value -> Shared -> Prop} (hh:A.handled = none) (hit:s.heap.get? it = some (itO (.ref u) i a es.size ep)) (hu:s.heap.get? u = some (tupO ps)) (ho:s.heap.get? a = some o) (hd:o.data = .set es ep t) (hf:t.fits es.size = true)
  (hp:ps[i]? = none) (h:∀ h',Heap.ExtBut it s.heap h' -> Q none { s with heap:=h' }):wpAny (model prog w) A (pyNext (.ref it)) Q E s:=by
 unfold pyNext
 refine wpAny_bind (wpAny_attempt (wpAny_callSpecial?_slot (name:=Str.ofString "__next__") (y6 hit) slot_next
  (wpAny_call_entry slot_next (y6 hit) entry_next ?_ (args_next _))))
 unfold Builtin.«set_iterator.__next__»
 refine wpAny_bind (wpAny_of_eq (a:=(Value.ref it,[])) rfl ?_)
 refine wpAny_bind (wpAny_fieldsOf hit rfl ?_)
 show wpAny _ _ (setEntries a >>= _) _ _ s
 refine wpAny_bind (wpAny_setEntries_of ho hd hf ?_)
 have e1:(((es.size:Nat):Int) != ((es.size:Nat):Int)) = false:=by simp
 rw [if_neg (by rw [e1]; decide)]
 show wpAny _ _ (seqItems? (.ref u) >>= _) _ _ s
 refine wpAny_bind (wpAny_seqItems hu rfl ?_)
 have hpi:(ps.map fun i=>rawInt ((i:Nat):Int)).toArray[i]? = none:=by
  rw [List.getElem?_toArray,List.getElem?_map,hp]; rfl
 show wpAny _ _ (match (ps.map fun i=>rawInt ((i:Nat):Int)).toArray[i]? with | some (.int place _)=>_ | some _=>_ | none=>_) _ _ s
 rw [hpi]
 show wpAny _ _ (setField (.ref it) 0 (rawInt 0) >>= _) _ _ s
 refine wpAny_bind (wpAny_setField hit rfl (by simp) ?_)
 have h1:=Heap.get?_update_self (Obj.mapFields (·.setIfInBounds 0 (rawInt 0))) hit rfl
 refine wpAny_bind (wpAny_setField h1 rfl (by simp) ?_)
 refine wpAny_bind ?_
 simp only [newExc,newTuple]
 refine wpAny_bind (wpAny_newObj_type ?_ (by size_fits))
 refine wpAny_bind (m:=firstArgMember _ _) (wpAny_of_eq (a:=Value.none) (by first | rfl | (simp only [firstArgMember]; rfl)) ?_)
 refine wpAny_newObj_type ?_ (by size_fits)
 simp only [raiseNew]
 refine wpAny_bind (wpAny_handled ?_)
 first | rw [show A.in1.handled = none from hh] | rw [hh]
 refine wpAny_bind (wpAny_pure (wpAny_throw ?_))
 refine wpAny_bind (wpAny_isInstance (T:="StopIteration") (b:=true) ⟨_,Heap.get?_push_size _ rfl,rfl⟩ isSubtype_stop ?_)
 refine wpAny_pure (h _ ?_)
 refine ((Heap.ExtBut.push ?_ _).push _)
 exact ((Heap.SameBut.update ..).trans (Heap.SameBut.update ..)).extBut
end
end AxS
namespace AxS
open PySem PySem.Spec PyProof.Rows
section
variable {prog:Program} {w:World} {A:Around} {E:Value -> Shared -> Prop} {s:Shared} {a:Addr} {o:Obj} {es:Array (Int × Value)} {ep:Nat} {t:SetTable}
theorem jA {slot i:Nat} {Q:Option (Value × Nat) -> Shared -> Prop} (hb:byText w = true) (ho:s.heap.get? a = some o) (hd:o.data = .set es ep t) (hf:t.fits es.size = true)
  (h:Q (((pickOrder (w.params.setOrder a ep) es)[i]?).map fun e=>(e.2,slot)) s):wpAny (model prog w) A (setNext a slot i ep) Q E s:=by
 have hb':(Setting.mk (model prog w).prog (model prog w).w.params).params.followText "set-order" = true:=hb
 unfold setNext setsByText
 refine wpAny_bind (wpAny_setState_of ho hd hf ?_)
 refine wpAny_bind (wpAny_bind (wpAny_askSetting (wpAny_pure ?_)))
 dsimp only
 rw [if_pos hb']
 have e2:(ep != ep) = false:=by simp
 rw [if_neg (by rw [e2]; decide)]
 unfold setWalk setsByText
 refine wpAny_bind (wpAny_bind (wpAny_setState_of ho hd hf ?_))
 refine wpAny_bind (wpAny_bind (wpAny_askSetting (wpAny_pure ?_)))
 dsimp only
 rw [if_pos hb']
 refine wpAny_bind (wpAny_askSetting ?_)
 exact wpAny_pure (wpAny_pure h)
theorem setNext_led {slot i:Nat} {Q:Option (Value × Nat) -> Shared -> Prop} (hb:byText w = false) (hl:t.led = true) (h1:es.size <= 1) (ho:s.heap.get? a = some o) (hd:o.data = .set es ep t) (hf:t.fits es.size = true)
  (h:Q (match es[SetTable.below t.place slot]?,t.place[SetTable.below t.place slot]? with | some (_,x),some j=>some (x,j + 1) | _,_=>none) s):wpAny (model prog w) A (setNext a slot i ep) Q E s:=by
 have hb':(Setting.mk (model prog w).prog (model prog w).w.params).params.followText "set-order" = false:=hb
 have hdr:(!t.plain && decide (es.size > 1)) = false:=by rw [decide_eq_false (by omega),Bool.and_false]
 have hml:(!t.led && !es.isEmpty) = false:=by rw [hl]; rfl
 unfold setNext setsByText
 refine wpAny_bind (wpAny_setState_of ho hd hf ?_)
 refine wpAny_bind (wpAny_bind (wpAny_askSetting (wpAny_pure ?_)))
 dsimp only
 rw [if_neg (by rw [hb']; decide)]
 refine wpAny_bind (wpAny_pure ?_)
 show wpAny _ _ (if (!t.plain && decide (es.size > 1)) = true then _ else _) _ _ _
 rw [if_neg (by rw [hdr]; decide)]
 refine wpAny_bind ?_
 show wpAny _ _ (if (!t.led && !es.isEmpty) = true then _ else _) _ _ _
 rw [if_neg (by rw [hml]; decide)]
 exact wpAny_pure (wpAny_pure h)
theorem it_self {it:Addr} {f:Value} {i:Int} {n:Nat} {Q:Value -> Shared -> Prop} (hit:s.heap.get? it = some (itO f i a n ep)) (h:Q (.ref it) s):wpAny (model prog w) A (pyIter (.ref it)) Q E s:=by
 refine wpAny_pyIter_slot (y6 hit) slot_itself (wpAny_call_entry slot_itself (y6 hit) entry_itself ?_ (args_itself _))
 show wpAny _ _ (ret (.ref it)) _ _ s
 exact wpAny_pure ⟨_,rfl,"set_iterator",_,y6 hit,slot_next.lookup,h⟩
theorem walkA (hh:A.handled = none) (I:Addr) (hne:a ≠ I) (hb:byText w = true) (hd:o.data = .set es ep t) (hf:t.fits es.size = true) :
  Walks prog w A I [I,a] [I] es.size (fun i v=>((pickOrder (w.params.setOrder a ep) es).toList.map (·.2))[i]? = some v) (fun i h=>h.get? I = some (itO (rawInt (0:Nat)) (i:Nat) a es.size ep) /\ h.get? a = some o) where
 sub:=fun b hb=>by simp at hb; simp [hb]
 frame:=fun _ _ _ st hk=>⟨hk I (by simp) _ st.1,hk a (by simp) _ st.2⟩
 item:=fun i s Q E hi st hQ=>by
  have hl:(pickOrder (w.params.setOrder a ep) es).toList.length = es.size:=by rw [(qD _ es).length_eq,Array.length_toList]
  have he:(pickOrder (w.params.setOrder a ep) es).toList[i]? = some ((pickOrder (w.params.setOrder a ep) es).toList[i]'(by omega)):=List.getElem?_eq_getElem (by omega)
  generalize (pickOrder (w.params.setOrder a ep) es).toList[i]'(by omega) = e at he
  refine next_slot (slot:=0) (slot':=0) (x:=e.2) st.1 hne st.2 hd hf (fun A E Q q=>jA hb st.2 hd hf ?_) fun h' h1 sb=>?_
  ·rw [← Array.getElem?_toList,he]; exact q
  ·exact hQ _ h' s.toks (by rw [List.getElem?_map,he]; rfl) ⟨h1,(sb.2 a hne).trans st.2⟩ fun b o' hb e=>(sb.2 b (by simpa using hb)).trans e
 done:=fun s Q E st hQ=>by
  have hl:(pickOrder (w.params.setOrder a ep) es).toList.length = es.size:=by rw [(qD _ es).length_eq,Array.length_toList]
  refine qC (slot:=0) hh st.1 st.2 hd hf (fun A E Q q=>jA hb st.2 hd hf ?_) fun h' eb=>hQ h' s.toks fun b o' hb e=>eb b o' (by simpa using hb) e
  rw [← Array.getElem?_toList,List.getElem?_eq_none (by omega)]; exact q
 self:=fun _ _ _ _ st h=>it_self st.1 h
theorem walkC (hh:A.handled = none) (I u:Addr) (hne:a ≠ I) (hnu:u ≠ I) (ps:List Nat) (hp:ps.Perm (List.range es.size)) (hd:o.data = .set es ep t) (hf:t.fits es.size = true) :
  Walks prog w A I [I,a,u] [I] es.size (fun i v=>(ps.filterMap fun p=>(es[p]?).map (·.2))[i]? = some v) (fun i h=>h.get? I = some (itO (.ref u) (i:Nat) a es.size ep) /\ h.get? a = some o /\ h.get? u = some (tupO ps)) where
 sub:=fun b hb=>by simp at hb; simp [hb]
 frame:=fun _ _ _ st hk=>⟨hk I (by simp) _ st.1,hk a (by simp) _ st.2.1,hk u (by simp) _ st.2.2⟩
 item:=fun i s Q E hi st hQ=>by
  have hl:ps.length = es.size:=by rw [hp.length_eq,List.length_range]
  have hpi:ps[i]? = some (ps[i]'(by omega)):=List.getElem?_eq_getElem (by omega)
  have hm:ps[i]'(by omega) < es.size:=List.mem_range.mp (hp.mem_iff.mp (List.getElem_mem _))
  have he:es[ps[i]'(by omega)]? = some (es[ps[i]'(by omega)]'hm):=Array.getElem?_eq_getElem hm
  have all:ps.filterMap (fun p=>(es[p]?).map (·.2)) = ps.map fun p=>(((es[p]?).map (·.2)).getD .none):=by
   have:∀ qs:List Nat,(∀ q ∈ qs,q < es.size) -> qs.filterMap (fun p=>(es[p]?).map (·.2)) = qs.map fun p=>(((es[p]?).map (·.2)).getD .none):=fun qs=>by
    induction qs with
    | nil=>intro _; rfl
    | cons q qs ih =>
     intro hq
     have hq0:es[q]? = some (es[q]'(hq q List.mem_cons_self)):=Array.getElem?_eq_getElem _
     rw [List.filterMap_cons,List.map_cons,hq0]
     simp only [Option.map_some,Option.getD_some]
     rw [ih fun z hz=>hq z (List.mem_cons_of_mem _ hz)]
   exact this ps fun q hq=>List.mem_range.mp (hp.mem_iff.mp hq)
  refine next_drawn st.1 st.2.2 st.2.1 hd hf hpi he fun h' h1 sb=>?_
  refine hQ _ h' s.toks ?_ ⟨h1,(sb.2 a hne).trans st.2.1,(sb.2 u hnu).trans st.2.2⟩ fun b o' hb e=>(sb.2 b (by simpa using hb)).trans e
  rw [all,List.getElem?_map,hpi]
  simp only [Option.map_some,he,Option.getD_some]
 done:=fun s Q E st hQ=>by
  have hl:ps.length = es.size:=by rw [hp.length_eq,List.length_range]
  exact next_drawn_end hh st.1 st.2.2 st.2.1 hd hf (List.getElem?_eq_none (by omega)) fun h' eb=>hQ h' s.toks fun b o' hb e=>eb b o' (by simpa using hb) e
 self:=fun _ _ _ _ st h=>it_self st.1 h
theorem below_zero (xs:Array Nat) (h:xs.size <= 1):SetTable.below xs 0 = 0:=by
 unfold SetTable.below
 have h2:xs.size = 0 \/ xs.size = 1:=by omega
 rcases h2 with e | e
 ·rw [e]; rfl
 ·rw [e]
  unfold SetTable.below.go
  rw [if_pos (by decide)]
  show (if xs.getD 0 0 < 0 then _ else _) = _
  rw [if_neg (by omega)]
  rfl
theorem below_one (xs:Array Nat) (h:xs.size = 1):SetTable.below xs (xs.getD 0 0 + 1) = 1:=by
 unfold SetTable.below
 rw [h]
 unfold SetTable.below.go
 rw [if_pos (by decide)]
 show (if xs.getD 0 (xs.getD 0 0 + 1) < xs.getD 0 0 + 1 then _ else _) = _
 have e:∀ d,xs.getD 0 d = xs[0]'(by omega):=fun d=>by
  rw [Array.getD_eq_getD_getElem?,Array.getElem?_eq_getElem (by omega)]; rfl
 rw [e,e,if_pos (by omega)]
 rfl
def slotB (t:SetTable):Nat -> Nat
 | 0=>0
 | _ + 1=>t.place.getD 0 0 + 1
theorem walkB (hh:A.handled = none) (I:Addr) (hne:a ≠ I) (hb:byText w = false) (hl:t.led = true) (h1:es.size <= 1) (hd:o.data = .set es ep t) (hf:t.fits es.size = true) :
  Walks prog w A I [I,a] [I] es.size (fun i v=>(es.toList.map (·.2))[i]? = some v) (fun i h=>h.get? I = some (itO (rawInt ((slotB t i:Nat):Int)) (i:Nat) a es.size ep) /\ h.get? a = some o) where
 sub:=fun b hb=>by simp at hb; simp [hb]
 frame:=fun _ _ _ st hk=>⟨hk I (by simp) _ st.1,hk a (by simp) _ st.2⟩
 item:=fun i s Q E hi st hQ=>by
  have i0:i = 0:=by omega
  subst i0
  have hpz:t.place.size = es.size:=by
   unfold SetTable.fits at hf
   rw [Bool.and_eq_true] at hf
   exact eq_of_beq hf.1
  have he:es[0]? = some (es[0]'hi):=Array.getElem?_eq_getElem hi
  have hp:t.place[0]? = some (t.place[0]'(by omega)):=Array.getElem?_eq_getElem (by omega)
  have hgd:t.place.getD 0 0 = t.place[0]'(by omega):=by rw [Array.getD_eq_getD_getElem?,hp]; rfl
  refine next_slot (slot:=0) (slot':=t.place.getD 0 0 + 1) (x:=(es[0]'hi).2) st.1 hne st.2 hd hf (fun A E Q q=>setNext_led hb hl h1 st.2 hd hf ?_) fun h' h1 sb=>?_
  ·rw [below_zero _ (by omega),he,hp,← hgd]; exact q
  ·refine hQ _ h' s.toks ?_ ⟨h1,(sb.2 a hne).trans st.2⟩ fun b o' hb e=>(sb.2 b (by simpa using hb)).trans e
   rw [List.getElem?_map,Array.getElem?_toList,he]; rfl
 done:=fun s Q E st hQ=>by
  have hpz:t.place.size = es.size:=by
   unfold SetTable.fits at hf
   rw [Bool.and_eq_true] at hf
   exact eq_of_beq hf.1
  refine qC (slot:=slotB t es.size) hh st.1 st.2 hd hf (fun A E Q q=>setNext_led hb hl h1 st.2 hd hf ?_) fun h' eb=>hQ h' s.toks fun b o' hb e=>eb b o' (by simpa using hb) e
  have h2:es.size = 0 \/ es.size = 1:=by omega
  rcases h2 with e | e
  ·rw [e]
   show Q (match es[SetTable.below t.place 0]?,t.place[SetTable.below t.place 0]? with | some (_,x),some j=>some (x,j + 1) | _,_=>none) s
   rw [below_zero _ (by omega),Array.getElem?_eq_none (by omega)]
   exact q
  ·rw [e]
   show Q (match es[SetTable.below t.place (t.place.getD 0 0 + 1)]?,t.place[SetTable.below t.place (t.place.getD 0 0 + 1)]? with | some (_,x),some j=>some (x,j + 1) | _,_=>none) s
   rw [below_one _ (by omega),Array.getElem?_eq_none (by omega)]
   exact q
 self:=fun _ _ _ _ st h=>it_self st.1 h
end
end AxS
namespace AxS
open PySem PySem.Spec PyProof.Rows
def xE (vs:List Value) (zs:List Str):Prop:=vs.length = zs.length /\ ∀ (i:Nat) (v:Value),vs[i]? = some v -> ∃ k t,zs[i]? = some k /\ v = .str k t
section
variable {prog:Program} {w:World} {A:Around} {E:Value -> Shared -> Prop} {s:Shared} {a:Addr} {ks:List Str}
theorem texts_of {l:List (Int × Value)} (h:ElemsOf (strKind prog w) l):xE (l.map (·.2)) (l.map keyOf):=by
 refine ⟨by rw [List.length_map,List.length_map],fun i v e=>?_⟩
 rw [List.getElem?_map] at e
 cases q:l[i]? with
 | none=>rw [q] at e; cases e
 | some x =>
  rw [q] at e
  have e:x.2 = v:=Option.some.inj e
  obtain ⟨⟨k,hk,_⟩,_⟩:=h x (List.mem_of_getElem? q)
  obtain ⟨t,et⟩:=Value.isStrOf_shape hk
  exact ⟨k,t,by rw [List.getElem?_map,q]; show some (keyOf x) = _; unfold keyOf; rw [et],by rw [← e]; exact et⟩
theorem tx_iter {Q:Value -> Shared -> Prop} (hS:TxSet prog w s.heap a ks) (hk:ks.length <= 1000) (hh:A.handled = none)
  (h:∀ (I:Addr) (fp:List Addr) (h':Heap) d tk (vs:List Value) (zs:List Str) (St:Nat -> Heap -> Prop),s.heap.objs.size <= I -> (∀ b ∈ fp,b = a \/ s.heap.objs.size <= b) -> (∀ b o,s.heap.get? b = some o -> h'.get? b = some o) -> zs.Perm ks -> xE vs zs ->
   Walks prog w A I fp [I] ks.length (fun i v=>vs[i]? = some v) St -> St 0 h' -> Q (.ref I) { s with heap:=h',drawn:=d,toks:=tk }):wpAny (model prog w) A (pyIter (.ref a)) Q E s:=by
 obtain ⟨o,es,ep,t,ho,hx,hd,X⟩:=hS
 have hlen:=tx_len X
 obtain ⟨hel,hp,hb,hf,hled,hpl⟩:=X
 have hlt:a < s.heap.objs.size:=Heap.lt_size ho
 have hne:a ≠ s.heap.objs.size:=Nat.ne_of_lt hlt
 refine iter_set ho hx hd hf (by omega) (fun q=>?_) (fun q ps d tk hps=>?_)
 ·have kp:∀ b u,s.heap.get? b = some u -> (s.heap.push (itO (rawInt 0) 0 a es.size ep)).get? b = some u:=fun b u e=>Heap.get?_push_of_some _ e
  have fpo:∀ b ∈ [s.heap.objs.size,a],b = a \/ s.heap.objs.size <= b:=fun b hb=>by
   rcases List.mem_cons.mp hb with z | z
   ·exact .inr (Nat.le_of_eq z.symm)
   ·exact .inl (List.mem_singleton.mp z)
  cases hbt:byText w with
  | true =>
   have W:=walkA (prog:=prog) (A:=A) (es:=es) (ep:=ep) (t:=t) (o:=o) hh s.heap.objs.size hne hbt hd hf
   have pp:=qD (w.params.setOrder a ep) es
   rw [hlen] at W
   exact h _ _ _ s.drawn s.toks _ _ _ (Nat.le_refl _) fpo kp ((pp.map keyOf).trans hp) (texts_of (hel.perm pp)) W ⟨by rw [← hlen]; exact Heap.get?_push_size _ rfl,Heap.get?_push_of_some _ ho⟩
  | false =>
   have h1:es.size <= 1:=by
    rw [hbt] at q
    by_cases z:es.size > 1
    ·rw [hpl (by omega),decide_eq_true z] at q; cases q
    ·omega
   have hl:t.led = true:=by rw [hled]; show (!byText w) = true; rw [hbt]; rfl
   have W:=walkB (prog:=prog) (A:=A) (es:=es) (ep:=ep) (t:=t) (o:=o) hh s.heap.objs.size hne hbt hl h1 hd hf
   rw [hlen] at W
   exact h _ _ _ s.drawn s.toks _ _ _ (Nat.le_refl _) fpo kp hp (texts_of hel) W ⟨by rw [← hlen]; exact Heap.get?_push_size _ rfl,Heap.get?_push_of_some _ ho⟩
 ·have hnI:a ≠ s.heap.objs.size + 1:=Nat.ne_of_lt (Nat.lt_succ_of_lt hlt)
  have W:=walkC (prog:=prog) (w:=w) (A:=A) (es:=es) (ep:=ep) (t:=t) (o:=o) (a:=a) hh (s.heap.objs.size + 1) s.heap.objs.size hnI (Nat.ne_of_lt (Nat.lt_succ_self _)) ps hps hd hf
  have hL:(ps.filterMap fun p=>es[p]?).Perm es.toList:=by
   refine (hps.filterMap _).trans ?_
   have e:=List.filterMap_getElem?_range_length es.toList
   rw [Array.length_toList] at e
   have e2:(List.range es.size).filterMap (fun p=>es[p]?) = (List.range es.size).filterMap fun i=>es.toList[i]?:=by congr 1; funext p; exact (Array.getElem?_toList ..).symm
   rw [e2,e]
  have hv:(ps.filterMap fun p=>(es[p]?).map (·.2)) = (ps.filterMap fun p=>es[p]?).map (·.2):=by rw [List.map_filterMap]
  rw [hlen] at W
  rw [hv] at W
  have g0:(s.heap.push (tupO ps)).objs.size = s.heap.objs.size + 1:=Heap.size_push _ _
  refine h _ _ _ d tk _ _ _ (Nat.le_succ _) (fun b hb=>?_) (fun b u e=>Heap.get?_push_of_some _ (Heap.get?_push_of_some _ e)) ((hL.map keyOf).trans hp) (texts_of (hel.perm hL)) W ⟨?_,Heap.get?_push_of_some _ (Heap.get?_push_of_some _ ho),Heap.get?_push_of_some _ (Heap.get?_push_size _ rfl)⟩
  ·rcases List.mem_cons.mp hb with z | z
   ·exact .inr (by rw [z]; exact Nat.le_succ _)
   ·rcases List.mem_cons.mp z with z | z
    ·exact .inl z
    ·exact .inr (Nat.le_of_eq (List.mem_singleton.mp z).symm)
  ·rw [← g0,← hlen]
   exact Heap.get?_push_size _ rfl
theorem hint_set (hT:s.TypeIs (.ref a) "set") {Q:Bool -> Shared -> Prop} (h:Q false s):wpAny (model prog w) A (Builtin.List.listLengthHint (.ref a)) Q E s:=by
 unfold Builtin.List.listLengthHint
 refine wpAny_bind (wpAny_specialOf hT PySem.F.slot_set_len.lookup ?_)
 generalize hid:("set.__len__":String) = id0
 wp_delta
 rw [show splitId id0 = some ("set","__len__") from by subst hid; decide +kernel]
 subst hid
 refine wpAny_bind (wpAny_isInstance (T:="set") (b:=true) hT (by rw [isSubtype_type]; kernel_rfl) ?_)
 refine wpAny_ite_split (fun hab=>absurd hab (by decide)) (fun _=>?_)
 refine wpAny_ite_split (fun _=>?_) (fun hab=>absurd (by decide +kernel) hab)
 refine wpAny_bind (wpAny_typeOf hT ?_)
 exact wpAny_pure h
open PySem.Calls PyProof.V in
theorem tx_extend {R:Result -> Shared -> Prop} (hh:A.handled = none) (hT:TxSet prog w s.heap a ks) (hk:ks.length <= 1000) (S:Addr) (hSa:S ≠ a) (res:Value) (c₀:Nat) (hS:s.heap.get? S = some { cls:=.type "list",data:=.seq #[] c₀ })
  (hR:∀ h' d tk acc' c' (zs:List Str),(∀ b o,b ≠ S -> s.heap.get? b = some o -> h'.get? b = some o) -> h'.get? S = some { cls:=.type "list",dict:=none,data:=.seq acc' c',slots:=#[] } -> zs.Perm ks -> xE acc'.toList zs -> R (.ok (.ret res)) { s with heap:=h',drawn:=d,toks:=tk }) :
  wpAny (model prog w) A.in1 (Builtin.List.listExtendWith (.ref S) (.ref a) res)
   (fun fin s'=>match fin with | .done f=>R (.ok f) s' | .again c'=>c'.quiet = true /\ codeAny (model prog w) A c' R s') (fun e s'=>R (.error e) s') s:=by
 have hSlt:S < s.heap.objs.size:=Heap.lt_size hS
 have ty:s.TypeIs (.ref a) "set":=by obtain ⟨o,es,ep,t,ho,hx,_⟩:=hT; exact ⟨o,ho,hx.1⟩
 unfold Builtin.List.listExtendWith
 refine wpAny_bind (wpAny_typeOf (T:="set") ty ?_)
 have h1:Builtin.List.listSameRef (.ref S) (.ref a) = false:=by simp [Builtin.List.listSameRef,hSa]
 have nl:(Value.type "set" == Value.type "list") = false:=by decide
 have nt:(Value.type "set" == Value.type "tuple") = false:=by decide
 simp only [h1,nl,nt,Bool.or_false,Bool.false_eq_true,if_false]
 refine wpAny_bind (tx_iter (A:=A.in1) hT hk hh fun I fp h' d tk vs zs St hI hfp kp hz tx W st=>?_)
 have ty':Shared.TypeIs { s with heap:=h',drawn:=d,toks:=tk } (.ref a) "set":=by obtain ⟨o,es,ep,t,ho,hx,_⟩:=hT; exact ⟨o,kp _ _ ho,hx.1⟩
 refine wpAny_bind (wpAny_holding (hint_set ty' ?_))
 have hSf:S ∉ fp:=fun z=>by
  rcases hfp S z with e | e
  ·exact hSa e
  ·exact Nat.lt_irrefl _ (Nat.lt_of_lt_of_le hSlt e)
 have hS₁:=kp _ _ hS
 refine wpAny_ite_split (fun _=>?_) (fun z=>absurd (by decide) z)
 refine wpAny_bind (wpAny_rule ?_)
 refine wpAny_bind ?_
 show wpAny _ _ (updateSeq S (·.push .none) >>= fun _=>updateSeq S (·.pop)) _ _ _
 refine wpAny_bind (wpAny_updateSeq hS₁ rfl ?_)
 have hS₂:=Heap.get?_update_self (Obj.mapSeq (·.push Value.none)) hS₁ rfl
 refine wpAny_updateSeq (hz:=by seq_fits) hS₂ rfl ?_
 have hS₃:=Heap.get?_update_self (Obj.mapSeq (·.pop)) hS₂ rfl
 refine wpAny_pure ⟨plainId_quiet PySem.F.plain_extend_loop _,?_⟩
 have oth:∀ b o,b ≠ S -> h'.get? b = some o -> ((h'.update S (Obj.mapSeq (·.push Value.none))).update S (Obj.mapSeq (·.pop))).get? b = some o:=fun b o hb e =>
  (Heap.get?_update_other _ _ (Ne.symm hb)).trans ((Heap.get?_update_other _ _ (Ne.symm hb)).trans e)
 have st':=W.frame 0 _ _ st fun b hb o e=>oth b o (fun z=>hSf (z ▸ hb)) e
 refine codeAny_extend_loopS W.toS (by rw [sizeLine_eq]; omega) S hSf res ks.length 0 _ #[] _ rfl (Nat.zero_le _) st' hS₃ (ItemsOf.nil _) fun s' acc' c' hm hS' hacc=>?_
 rw [Moved.eq_with hm]
 have hva:acc'.toList = vs:=by
  have hl:acc'.toList.length = vs.length:=by rw [Array.length_toList,hacc.1,tx.1,hz.length_eq]
  refine List.ext_getElem? fun i=>?_
  by_cases hi:i < acc'.size
  ·have e:=Array.getElem?_eq_getElem hi
   rw [Array.getElem?_toList,e]
   exact (hacc.2 i _ e).symm
  ·rw [List.getElem?_eq_none (by rw [Array.length_toList]; omega),List.getElem?_eq_none (by rw [← hl,Array.length_toList]; omega)]
 refine hR s'.heap d s'.toks acc' c' zs (fun b o hb e=>hm.heap b o (fun hmem=>?_) (oth b o hb (kp b o e))) hS' hz (by rw [hva]; exact tx)
 rcases List.mem_cons.mp hmem with e' | hmem
 ·exact hb e'
 ·have hbI:b = I:=List.mem_singleton.mp hmem
  exact absurd (hbI ▸ Heap.lt_size e) (Nat.not_lt.mpr hI)
open PySem.Calls PyProof.V PySem.W in
theorem tx_collect {R:List Value -> Shared -> Prop} (hh:A.handled = none) (hT:TxSet prog w s.heap a ks) (hk:ks.length <= 1000)
  (h:∀ (h':Heap) d (tk:Nat) (vs:List Value) (zs:List Str),(∀ b o,s.heap.get? b = some o -> h'.get? b = some o) -> zs.Perm ks -> xE vs zs -> R vs { s with heap:=h',drawn:=d,toks:=tk }):wpAny (model prog w) A (collect (.ref a)) R E s:=by
 have hlt:a < s.heap.objs.size:=by obtain ⟨o,es,ep,t,ho,_⟩:=hT; exact Heap.lt_size ho
 unfold collect
 refine wpAny_bind (wpAny_runValue (codeAny_builtin entry_proto_collect' ?_))
 rw [Around.under_plainId PySem.F.plain_proto_collect _]
 show wpAny _ A.in1 (newList [] >>= fun l=>again (.builtin "list.__iadd__" ⟨[l,.ref a],[]⟩)) _ _ s
 refine wpAny_bind (wpAny_newObj_type ?_)
 refine wpAny_pure ⟨plainId_quiet PySem.F.plain_list_iadd _,codeAny_builtin entry_list_iadd' ?_⟩
 rw [Around.under_plainId PySem.F.plain_list_iadd _]
 have hS₁:(s.heap.push { cls:=.type "list",data:=.seq ([]:List Value).toArray }).get? s.heap.objs.size = some { cls:=.type "list",data:=.seq #[] }:=Heap.get?_push_size _ rfl
 show wpAny _ A.in1 (Builtin.List.listExtendWith (.ref s.heap.objs.size) (.ref a) (.ref s.heap.objs.size)) _ _ _
 have key:=tx_extend (prog:=prog) (w:=w) (A:=A) (a:=a) (ks:=ks) (s:={ s with heap:=s.heap.push { cls:=.type "list",data:=.seq ([]:List Value).toArray } })
  (R:=fun (q:Result) (s':Shared)=>∃ (h':Heap) (d:Drawn) (tk:Nat) (acc':Array Value) (c':Nat) (zs:List Str),q = .ok (.ret (.ref s.heap.objs.size)) /\ s' = { s with heap:=h',drawn:=d,toks:=tk } /\
   (∀ b o,s.heap.get? b = some o -> h'.get? b = some o) /\ h'.get? s.heap.objs.size = some { cls:=.type "list",dict:=none,data:=.seq acc' c',slots:=#[] } /\ zs.Perm ks /\ xE acc'.toList zs)
  hh (hT.at fun o e=>Heap.get?_push_of_some _ e) hk s.heap.objs.size (Nat.ne_of_gt hlt) (.ref s.heap.objs.size) 0 hS₁
  (fun h' d tk acc' c' zs hk hS' hz tx=>⟨h',d,tk,acc',c',zs,rfl,rfl,fun b o e=>hk b o (Nat.ne_of_lt (Heap.lt_size e)) (Heap.get?_push_of_some _ e),hS',hz,tx⟩)
 refine wpAny_mono key (fun fin s' x=>?_) fun e s' x=>?_
 ·cases fin with
  | done f =>
   obtain ⟨h',d,tk,acc',c',zs,e,rfl,hk,hS',hz,tx⟩:=x
   cases e
   show wpAny _ A (load s.heap.objs.size >>= _) _ _ _
   refine wpAny_bind (wpAny_load hS' ?_)
   exact wpAny_pure (h h' d tk _ zs hk hz tx)
  | again c₁ =>
   refine ⟨x.1,codeAny_mono x.2 fun q s₂ y=>?_⟩
   obtain ⟨h',d,tk,acc',c',zs,rfl,rfl,hk,hS',hz,tx⟩:=y
   show wpAny _ A (load s.heap.objs.size >>= _) _ _ _
   refine wpAny_bind (wpAny_load hS' ?_)
   exact wpAny_pure (h h' d tk _ zs hk hz tx)
 ·obtain ⟨_,_,_,_,_,_,e',_⟩:=x
  cases e'
end
end AxS
namespace AxS
open PySem PySem.Spec PyProof.Rows
section
variable {prog:Program} {w:World} {A:Around} {E:Value -> Shared -> Prop} {s:Shared}
set_option maxHeartbeats 6400000 in
set_option maxHeartbeats 6400000 in
end
end AxS
namespace L2
open PySem PySem.Spec PyProof.Rows AxS
def TxHO (P:Program) (w:World) (a:Addr) (ks:List Str):HO:=.ext fun h=>TxSet P w h a ks
theorem txho_ok {P:Program} {w:World} {H:Hp} {h:Heap} {a:Addr} {ks:List Str} (x:TxSet P w h a ks):ObjOk P w H h a (TxHO P w a ks):=by
 obtain ⟨o,es,ep,t,ho,r⟩:=id x
 exact ⟨x,⟨o,ho⟩,fun u1 u2 z k=>TxSet.at z fun o e=>k o e⟩
theorem txho_get {P:Program} {w:World} {H:Hp} {h:Heap} {a:Addr} {ks:List Str} (x:ObjOk P w H h a (TxHO P w a ks)):TxSet P w h a ks:=x.1
section
variable {X:Cx} {K:PySem.W.Frag}
theorem Inv.drew {pins:List (Addr × Obj)} {σ:St} {H:Hp} {s:Shared} {d:Drawn} (I:Inv X pins σ H s):Inv X pins σ H { s with drawn:=d } :=
 ⟨I.ok,I.os,I.bare,I.base,I.loc,I.cell,I.free,I.freeC,I.pin,I.hok,I.len⟩
theorem strs_of:∀ {vs:List Value} {zs:List Str},xE vs zs -> StrsAre vs zs
 | [],[],_=>.nil
 | [],_ :: _,h=>by cases h.1
 | _ :: _,[],h=>by cases h.1
 | v :: vs,z :: zs,h=>by
  obtain ⟨k,t,e,rfl⟩:=h.2 0 v rfl
  have e:z = k:=Option.some.inj e
  subst e
  exact .cons _ _ (strs_of ⟨by have:=h.1; simpa using this,fun i v e=>by
   obtain ⟨k,t,e1,e2⟩:=h.2 (i + 1) v (by simpa using e)
   exact ⟨k,t,by simpa using e1,e2⟩⟩)
def rSortedS (P:Program) (w:World):List V -> Hp -> VK -> Prop:=fun xs H Q=>∃ (a:Addr) (ks:List Str),xs = [.ref a] /\ H a = some (TxHO P w a ks) /\ ks.length < 64 /\ ∀ l ss,H l = none -> ss.Perm ks -> sortedS ss = true -> Q (.ref l) (upd H l (.lst (ss.map V.str)))
theorem call_sortedS (hc:X.calm = true):CallR X (.builtin "sorted") (rSortedS X.prog X.w):=by
 intro pins s σ H xs us Q I r h
 obtain ⟨a,ks,rfl,ha,h64,q⟩:=h
 obtain ⟨u,rfl,ru⟩:=vals1 r
 cases ru
 have hT:=txho_get (I.hok a _ ha)
 refine Calls.call_function_entry kind_sorted plain_sorted entry_sorted (args_sorted1 _) ?_
 unfold Builtin.«sorted»
 refine wpAny_bind (m:=checkCount "sorted" 1 1 _) (wpAny_pure ?_)
 refine wpAny_bind (tx_collect (A:=X.A.in1) (I.ok.hd hc) hT (by omega) fun h' d tk acc zs hkp hz tx=>?_)
 have hstr:=strs_of tx
 have hal:acc.length < 64:=by rw [tx.1,hz.length_eq]; exact h64
 have hline:64 <= sizeLine:=by rw [sizeLine_eq]; decide
 refine wpAny_bind (wpAny_newList ?_ (by omega))
 have hoL:(h'.push (seqObj "list" acc.toArray 0)).get? h'.objs.size = some (seqObj "list" acc.toArray 0):=Heap.get?_push_size _ rfl
 refine wpAny_bind (wpAny_holding (wpAny_call_entry slot_list_sort ⟨_,hoL,rfl⟩ entry_list_sort (list_sort_treeK strKind_oneLt hoL hstr.keysOf (fun v₁ v₂ rest e=>keyKind_strs (by rw [← e]; exact hstr)) (by omega) fun st' a1 a2=>⟨_,rfl,?_⟩) (args_list_sort _)))
 obtain ⟨ss',b1,b2,b3⟩:=sorted_out_str hstr a1 a2
 refine wpAny_pure ⟨_,rfl,?_⟩
 obtain ⟨e,he⟩:=sortedHeap_at (out:=(arrOf st').map (·.2)) hoL
 have nl:=vals_strs b1
 have I1:Inv X pins σ H { s with heap:=h',drawn:=d,toks:=tk }:=(I.kept (t':=tk) hkp).drew (d:=d)
 have kp2:∀ b ob,h'.get? b = some ob -> (sortedHeap (h'.push (seqObj "list" acc.toArray 0)) h'.objs.size acc ((arrOf st').map (·.2))).get? b = some ob:=fun b ob q1=>by
  have hb:b < h'.objs.size:=Heap.lt_size q1
  rw [sortedHeap_old (Nat.ne_of_lt hb) (by rw [Heap.size_push]; exact Nat.lt_succ_of_lt hb)]
  exact Heap.get?_push_of_some _ q1
 have fr:H h'.objs.size = none:=I1.hok.fresh (Nat.le_refl _)
 have hz2:(ss'.map V.str).length <= sizeLine:=by
  have:=b2.length_eq
  have:=hz.length_eq
  rw [List.length_map]
  omega
 exact ⟨.ref h'.objs.size,_,I1.laid (o:=.lst (ss'.map V.str)) (t':=tk) kp2 (Nat.le_refl _) ⟨hz2,_,e,nl,he⟩,rfl,q _ ss' fr (b2.trans hz) b3⟩
end
end L2
namespace AxS
open PySem PySem.Spec PyProof.Rows
theorem above_full {n:Nat} (h:n < 256):Full (SetTable.sizeAbove n) /\ n < SetTable.sizeAbove n:=by
 have go:∀ n,n < 256 -> (SetTable.sizeAbove n = 8 \/ SetTable.sizeAbove n = 16 \/ SetTable.sizeAbove n = 32 \/ SetTable.sizeAbove n = 64 \/ SetTable.sizeAbove n = 128 \/ SetTable.sizeAbove n = 256) /\ n < SetTable.sizeAbove n:=by decide +kernel
 obtain ⟨h1,h2⟩:=go n h
 refine ⟨?_,h2⟩
 rcases h1 with e | e | e | e | e | e <;> rw [e]
 ·exact full8
 ·exact full16
 ·exact full32
 ·exact full64
 ·exact full128
 ·exact full256
theorem order_perm {es:Array (Int × Value)} {order:Array Nat} (h:order.toList.Perm (List.range es.size)):(order.filterMap (es[·]?)).toList.Perm es.toList /\ (order.filterMap (es[·]?)).size = es.size:=by
 have hL:(order.filterMap (es[·]?)).toList.Perm es.toList:=by
  rw [Array.toList_filterMap]
  refine (h.filterMap _).trans ?_
  have e:=List.filterMap_getElem?_range_length es.toList
  rw [Array.length_toList] at e
  have e2:(List.range es.size).filterMap (fun p=>es[p]?) = (List.range es.size).filterMap fun i=>es.toList[i]?:=by congr 1; funext p; exact (Array.getElem?_toList ..).symm
  rw [e2,e]
 exact ⟨hL,by rw [← Array.length_toList,hL.length_eq,Array.length_toList]⟩
section
variable {prog:Program} {w:World} {A:Around} {E:Value -> Shared -> Prop} {s:Shared}
theorem relay_ok {a:Addr} {o:Obj} {es:Array (Int × Value)} {ep n:Nat} {t:SetTable} {Q:Unit -> Shared -> Prop} (ho:s.heap.get? a = some o) (hd:o.data = .set es ep t) (hf:t.fits es.size = true) (hn:n < 256) (hes:es.size <= n)
  (h:∀ es' t',es'.toList.Perm es.toList -> t'.fits es'.size = true -> t'.led = t.led -> t'.plain = t.plain -> t'.dummies = #[] -> t'.mask = SetTable.sizeAbove n - 1 -> Q () { s with heap:=s.heap.update a (Obj.putSet es' t') }):wpAny (model prog w) A (setRelay a n) Q E s:=by
 obtain ⟨F,hlt⟩:=above_full hn
 have hz:SetTable.sizeAbove n - 1 + 1 = SetTable.sizeAbove n:=by omega
 obtain ⟨t',order,el,pm,ps,du,mk,le,pl⟩:=laid_ok (mask:=SetTable.sizeAbove n - 1) (finger:=t.finger) (moves:=t.movedTo (SetTable.sizeAbove n - 1)) (led:=t.led) (plain:=t.plain) (hs:=es.map (·.1)) (by rw [hz]; exact F) (by rw [Array.size_map]; omega)
 rw [Array.size_map] at pm ps
 obtain ⟨op,osz⟩:=order_perm pm
 have sl:¬ SetTable.sizeAbove n > sizeLine:=by
  have:∀ n,n < 256 -> SetTable.sizeAbove n <= 256:=by decide +kernel
  have:=this n hn
  rw [sizeLine_eq]
  omega
 unfold setRelay
 refine wpAny_bind (wpAny_setState_of ho hd hf ?_)
 dsimp only
 rw [if_neg sl]
 have er:t.relaid (es.map (·.1)) n = some (t',order):=el
 rw [er]
 refine wpAny_bind ?_
 wp_delta
 dsimp only
 rw [if_neg (by rw [osz]; simp)]
 refine wpAny_pure ?_
 refine wpAny_storeSet_of ho hd (h _ t' op (by unfold SetTable.fits SetTable.fill; rw [ps,du,osz,mk]; simp; omega) le pl du mk) ?_
 rw [sizeLine_eq,osz]
 omega
theorem put_at {h:Heap} {a:Addr} {o:Obj} {es es':Array (Int × Value)} {ep:Nat} {t t':SetTable} (ho:h.get? a = some o) (hd:o.data = .set es ep t):(h.update a (Obj.putSet es' t')).get? a = some { o with data:=.set es' (ep + 1) t' }:=by
 have:=Heap.get?_update_self (Obj.putSet es' t') ho (by rw [putSet_of es' t' hd]; rfl)
 rw [putSet_of es' t' hd] at this
 exact this
theorem wp_byText {Q:Bool -> Shared -> Prop} (h:Q (byText w) s):wpAny (model prog w) A setsByText Q E s:=by
 unfold setsByText
 exact wpAny_bind (wpAny_askSetting (wpAny_pure h))
theorem room_ok {a:Addr} {o:Obj} {es:Array (Int × Value)} {ep n:Nat} {t:SetTable} {Q:Unit -> Shared -> Prop} (ho:s.heap.get? a = some o) (hd:o.data = .set es ep t) (hf:t.fits es.size = true) (hn:(es.size + n) * 2 < 256)
  (h1:t.roomFor n = none -> Q () s)
  (h2:∀ es' t',es'.toList.Perm es.toList -> t'.fits es'.size = true -> t'.led = t.led -> t'.plain = t.plain -> t'.dummies = #[] -> t'.mask = SetTable.sizeAbove ((es.size + n) * 2) - 1 -> Q () { s with heap:=s.heap.update a (Obj.putSet es' t') }):wpAny (model prog w) A (setRoomFor a n) Q E s:=by
 unfold setRoomFor
 refine wpAny_bind (wpAny_setState_of ho hd hf ?_)
 have ps:t.place.size = es.size:=by
  unfold SetTable.fits at hf
  have:=(Bool.and_eq_true_iff.mp hf).1
  exact beq_iff_eq.mp this
 dsimp only
 cases q:t.roomFor n with
 | none=>exact wpAny_pure (h1 q)
 | some wanted =>
  have ew:wanted = (es.size + n) * 2:=by
   unfold SetTable.roomFor at q
   split at q
   ·cases q; rw [ps]
   ·cases q
  subst ew
  exact relay_ok ho hd hf hn (by omega) h2
theorem room_any {a:Addr} {o:Obj} {es:Array (Int × Value)} {ep n:Nat} {t:SetTable} {Q:Unit -> Shared -> Prop} (ho:s.heap.get? a = some o) (hx:o.ExactSet) (hd:o.data = .set es ep t) (hf:t.fits es.size = true) (hn:(es.size + n) * 2 < 256)
  (h:∀ (h1:Heap) (o':Obj) (es':Array (Int × Value)) (ep':Nat) (t':SetTable),Heap.SameBut a s.heap h1 -> h1.get? a = some o' -> o'.ExactSet -> o'.data = .set es' ep' t' -> es'.toList.Perm es.toList -> t'.fits es'.size = true -> t'.led = t.led -> t'.plain = t.plain -> Q () { s with heap:=h1 }):wpAny (model prog w) A (setRoomFor a n) Q E s :=
 room_ok ho hd hf hn (fun _=>h s.heap o es ep t (Heap.SameBut.refl a s.heap) ho hx hd (List.Perm.refl _) hf rfl rfl) fun es' t' pm f1 f2 f3 _ _=>h _ _ es' (ep + 1) t' (Heap.SameBut.update s.heap a _) (put_at ho hd) hx rfl pm f1 f2 f3
theorem walk_ok {a b:Addr} {o o2:Obj} {es es2:Array (Int × Value)} {ep ep2:Nat} {t t2:SetTable} {Q:Array (Int × Value) -> Shared -> Prop} (ho:s.heap.get? a = some o) (hd:o.data = .set es ep t) (hf:t.fits es.size = true) (hel:ElemsOf (strKind prog w) es.toList) (hl:t.led = !byText w) (hp:t.plain = false)
  (ho2:s.heap.get? b = some o2) (hd2:o2.data = .set es2 ep2 t2) (hf2:t2.fits es2.size = true) (hel2:ElemsOf (strKind prog w) es2.toList) (hl2:t2.led = !byText w) (hp2:t2.plain = false)
  (h:∀ W d,W.toList.Perm es.toList -> Q W { s with drawn:=d }):wpAny (model prog w) A (setWalkUnseen a [b] (some b)) Q E s:=by
 have noRef:∀ {es:Array (Int × Value)},ElemsOf (strKind prog w) es.toList -> ∀ e ∈ es.toList,∀ r,e.2 ≠ .ref r:=fun {es} hel e he r z=>by
  have:=(hel e he).2
  rw [z] at this
  cases this
 have wk:(byText w = true \/ es.size <= 1) -> wpAny (model prog w) A (setWalk a) Q E s:=fun c=>by
  unfold setWalk
  refine wpAny_bind (wpAny_setState_of ho hd hf ?_)
  dsimp only
  refine wpAny_bind (wp_byText ?_)
  cases q:byText w with
  | true =>
   simp only [↓reduceIte]
   exact wpAny_bind (wpAny_askSetting (wpAny_pure (h _ s.drawn (qD _ _))))
  | false =>
   have c1:es.size <= 1:=c.resolve_left (by rw [q]; decide)
   simp only [Bool.false_eq_true,↓reduceIte]
   refine wpAny_ite_split (fun z=>?_) (fun _=>?_)
   ·exfalso
    have z:(!t.plain && decide (es.size > 1)) = true:=z
    rw [decide_eq_false (by omega),Bool.and_false] at z
    cases z
   ·refine wpAny_bind ?_
    wp_delta
    rw [hl,q]
    refine wpAny_ite_split (fun z=>?_) (fun _=>?_)
    ·exfalso
     have z:(!(!false) && decide (es.size > 1)) = true:=z
     cases z
    ·exact wpAny_pure (wpAny_pure (h es s.drawn (List.Perm.refl _)))
 unfold setWalkUnseen
 refine wpAny_bind (wpAny_setState_of ho hd hf ?_)
 dsimp only
 refine wpAny_bind (wp_byText ?_)
 refine wpAny_ite_split (fun z=>?_) (fun z=>?_)
 ·refine wk ?_
  rw [hp,Bool.and_false,Bool.or_false,Bool.or_eq_true] at z
  exact z.imp id of_decide_eq_true
 ·refine wpAny_bind ?_
  have quiet:∀ (l:List Addr),(∀ c ∈ l,∃ o es ep t,s.heap.get? c = some o /\ o.data = .set es ep t /\ t.fits es.size = true /\ ElemsOf (strKind prog w) es.toList) -> ∀ {Q':Bool -> Shared -> Prop},Q' true s -> wpAny (model prog w) A (setsQuiet l) Q' E s:=fun l hl Q' hq=>by
   unfold setsQuiet
   refine wpAny_bind ?_
   refine wpAny_forIn_list _ (fun rest q s'=>s' = s /\ q = (none,()) /\ ∀ c ∈ rest,∃ o es ep t,s.heap.get? c = some o /\ o.data = .set es ep t /\ t.fits es.size = true /\ ElemsOf (strKind prog w) es.toList) _ ?_ ?_ l _ ⟨rfl,rfl,hl⟩
   ·rintro c rest q s' ⟨rfl,rfl,hc⟩
    obtain ⟨o,es,ep,t,h1,h2,h3,h4⟩:=hc c (List.mem_cons_self ..)
    refine wpAny_bind ?_
    unfold setEntries
    refine wpAny_bind (wpAny_setState_of h1 h2 h3 (wpAny_pure ?_))
    refine wpAny_bind ?_
    refine MeetsSeq2.wpAny_forIn_array _ (fun rest q s2=>s2 = s' /\ q = (none,()) /\ ∀ e ∈ rest,∀ r,e.2 ≠ .ref r) _ ?_ ?_ _ _ ⟨rfl,rfl,noRef h4⟩
    ·rintro ⟨hx,x⟩ rest2 q2 s2 ⟨rfl,rfl,hr⟩
     have nr:=hr (hx,x) (List.mem_cons_self ..)
     cases x with
     | ref r=>exact absurd rfl (nr r)
     | _=>exact wpAny_pure ⟨rfl,rfl,fun e he=>hr e (List.mem_cons_of_mem _ he)⟩
    ·rintro q2 s2 ⟨rfl,rfl,_⟩
     exact wpAny_pure ⟨rfl,rfl,fun d hd=>hc d (List.mem_cons_of_mem _ hd)⟩
   ·rintro q s' ⟨rfl,rfl,_⟩
    exact wpAny_pure hq
  refine quiet [a,b] (fun c hc=>?_) ?_
  ·rcases List.mem_cons.mp hc with rfl | hc
   ·exact ⟨o,es,ep,t,ho,hd,hf,hel⟩
   ·rw [List.mem_singleton.mp hc]; exact ⟨o2,es2,ep2,t2,ho2,hd2,hf2,hel2⟩
  ·simp only [Bool.not_true,Bool.false_eq_true,↓reduceIte]
   refine wpAny_bind (wpAny_rule ?_)
   refine wpAny_bind (wpAny_setState_of ho2 hd2 hf2 ?_)
   dsimp only
   refine wpAny_ite_split (fun z=>?_) (fun _=>?_)
   ·exfalso
    rw [hl,hl2,hp,hp2] at z
    cases q:byText w <;> rw [q] at z <;> cases z
   ·exact wpAny_pure (h es s.drawn (List.Perm.refl _))
theorem step_mem {ks:List Str} {k x:Str}:x ∈ step ks k ↔ x ∈ ks \/ x = k:=by
 unfold step
 split
 ·rename_i h
  exact ⟨.inl,fun z=>z.elim id fun e=>by rw [e]; exact h⟩
 ·rw [List.mem_append,List.mem_singleton]
theorem step_nodup {ks:List Str} {k:Str} (h:ks.Nodup):(step ks k).Nodup:=by
 unfold step
 split
 ·exact h
 ·rename_i n
  refine List.nodup_append.mpr ⟨h,List.nodup_cons.mpr ⟨by simp,List.nodup_nil⟩,fun x hx y hy e=>n ?_⟩
  rw [List.mem_singleton] at hy
  rw [← hy,← e]
  exact hx
theorem fits_size {t:SetTable} {n:Nat} (hf:t.fits n = true):t.place.size = n:=beq_iff_eq.mp (Bool.and_eq_true_iff.mp hf).1
structure Both (ks1 ks2 ks:List Str):Prop where
 mem:∀ x,x ∈ ks ↔ x ∈ ks1 \/ x ∈ ks2
 nd:ks1.Nodup -> ks2.Nodup -> ks.Nodup
 len:ks.length <= ks1.length + ks2.length
theorem tx_merge {a b:Addr} {ks1 ks2:List Str} {each:Sem Unit} {Q:Unit -> Shared -> Prop} (hS:TxSet prog w s.heap a ks1) (hO:TxSet prog w s.heap b ks2) (ne:a ≠ b) (n1:ks1 ≠ []) (hb:(ks1.length + ks2.length) * 2 < 256)
  (hE:∀ (s':Shared) (Q':Unit -> Shared -> Prop),s'.heap.get? b = s.heap.get? b -> Q' () s' -> wpAny (model prog w) A each Q' E s')
  (h:∀ h' d ks',Heap.SameBut a s.heap h' -> TxSet prog w h' a ks' -> Both ks1 ks2 ks' -> Q () { s with heap:=h',drawn:=d }):wpAny (model prog w) A (setMerge a b each) Q E s:=by
 obtain ⟨o,es,ep,t,ho,hx,hd,X⟩:=id hS
 obtain ⟨o2,es2,ep2,t2,ho2,hx2,hd2,X2⟩:=id hO
 have hl:=tx_len X
 have hl2:=tx_len X2
 obtain ⟨hel,hp,hbd,hf,hled,hpl⟩:=X
 obtain ⟨hel2,hp2,hbd2,hf2,hled2,hpl2⟩:=X2
 have k0:0 < ks1.length:=List.length_pos_iff.mpr n1
 unfold setMerge
 refine wpAny_ite_split (fun z=>absurd (beq_iff_eq.mp z) ne) (fun _=>?_)
 refine wpAny_bind (wpAny_setState_of ho2 hd2 hf2 ?_)
 dsimp only
 refine wpAny_ite_split (fun z=>?_) (fun z=>?_)
 ·have e:es2.size = 0:=by simpa [Array.isEmpty] using z
  have e:ks2 = []:=List.eq_nil_of_length_eq_zero (by omega)
  subst e
  exact wpAny_pure (h s.heap s.drawn ks1 (Heap.SameBut.refl a s.heap) hS ⟨fun x=>by simp,fun n _=>n,by omega⟩)
 ·have e2:es2.size ≠ 0:=fun e=>z (by simpa [Array.isEmpty] using e)
  refine wpAny_bind (room_any ho hx hd hf (by omega) fun h1 o' es' ep' t' sb1 ho' hx' hd' pm hf' hle hpl'=>?_)
  have sz':es'.size = es.size:=by rw [← Array.length_toList,pm.length_eq,Array.length_toList]
  have ho2':h1.get? b = some o2:=by rw [sb1.2 b ne.symm]; exact ho2
  refine wpAny_bind (wpAny_setState_of (s:={ s with heap:=h1 }) ho' hd' hf' ?_)
  dsimp only
  have rd:t'.road t2 = .oneByOne:=by
   unfold SetTable.road SetTable.fill
   rw [fits_size hf']
   exact if_pos (bne_iff_ne.mpr (by omega))
  rw [rd]
  dsimp only
  have hel':=hel.perm pm
  refine wpAny_bind (walk_ok (s:={ s with heap:=h1 }) ho2' hd2 hf2 hel2 hled2 (hpl2 e2) ho' hd' hf' hel' (hle.trans hled) (hpl'.trans (hpl (by omega))) fun W d wp=>?_)
  have tx1:TxSet prog w h1 a ks1:=⟨o',es',ep',t',ho',hx',hd',hel',(pm.map keyOf).trans hp,by omega,hf',hle.trans hled,fun _=>hpl'.trans (hpl (by omega))⟩
  have helW:=hel2.perm wp
  have wl:W.toList.length = ks2.length:=by rw [wp.length_eq,Array.length_toList]; exact hl2
  refine wpAny_bind ?_
  refine MeetsSeq2.wpAny_forIn_array _ (fun rest _ s2=>∃ (done:List (Int × Value)) (h2:Heap) (ks:List Str),W.toList = done ++ rest /\ s2 = { s with heap:=h2,drawn:=d } /\ Heap.SameBut a s.heap h2 /\ TxSet prog w h2 a ks /\ Both ks1 (done.map keyOf) ks) _ ?_ ?_ W _ ⟨[],h1,ks1,rfl,rfl,sb1,tx1,fun x=>by simp,fun n _=>n,by simp⟩
  ·rintro ⟨hh,x⟩ rest _ s2 ⟨done,h2,ks,ew,rfl,sb2,tx,bo⟩
   have mem:(hh,x) ∈ W.toList:=by rw [ew]; exact List.mem_append_right _ (List.mem_cons_self ..)
   obtain ⟨⟨k,hk,hhk⟩,_⟩:=helW (hh,x) mem
   obtain ⟨tk,et⟩:=Value.isStrOf_shape (show Value.isStrOf k x = true from hk)
   have hhk:hh = hashStr w k:=hhk
   have ek:keyOf (hh,x) = k:=by unfold keyOf; rw [et]
   dsimp only
   rw [et,hhk]
   have dl:done.length + rest.length + 1 = ks2.length:=by
    rw [ew,List.length_append,List.length_cons] at wl
    omega
   have kl:=bo.len
   rw [List.length_map] at kl
   have sbn:scanBound = 4096:=rfl
   refine wpAny_bind (wpAny_holding (tx_add (s:={ s with heap:=h2,drawn:=d }) tx (by omega) fun h3 r sb3 tx3=>?_))
   have e3:h3.get? b = s.heap.get? b:=(sb3.2 b ne.symm).trans (sb2.2 b ne.symm)
   refine wpAny_bind (hE _ _ e3 ?_)
   refine wpAny_bind (wpAny_setState_of (s:={ s with heap:=h3,drawn:=d }) (show h3.get? b = some o2 by rw [e3]; exact ho2) hd2 hf2 ?_)
   refine wpAny_ite_split (fun z=>absurd z (by simp)) (fun _=>?_)
   refine wpAny_pure ⟨done ++ [(hh,x)],h3,step ks k,by rw [ew,List.append_assoc]; rfl,rfl,sb2.trans sb3,tx3,fun y=>?_,fun n m=>step_nodup (bo.nd n (by rw [List.map_append] at m; exact (List.nodup_append.mp m).1)),?_⟩
   ·rw [step_mem,bo.mem,List.map_append,List.mem_append]
    show _ ↔ y ∈ ks1 \/ y ∈ done.map keyOf \/ y ∈ [keyOf (hh,x)]
    rw [ek,List.mem_singleton,or_assoc]
   ·have:=step_len ks k
    rw [List.length_map,List.length_append,List.length_singleton]
    omega
  ·rintro _ s2 ⟨done,h2,ks,ew,rfl,sb2,tx,bo⟩
   rw [List.append_nil] at ew
   refine wpAny_pure (h h2 d ks sb2 tx ⟨fun x=>?_,fun n m=>bo.nd n (by rw [← ew]; exact ((wp.map keyOf).trans hp2).nodup_iff.mpr m),?_⟩)
   ·rw [bo.mem,← ew]
    have pk:(W.toList.map keyOf).Perm ks2:=(wp.map keyOf).trans hp2
    rw [pk.mem_iff]
   ·have:=bo.len
    rw [List.length_map,← ew,wl] at this
    exact this
theorem room_fresh {a:Addr} {n:Nat} {Q:Unit -> Shared -> Prop} (ho:s.heap.get? a = some (z0 w)) (hn:n * 2 < 256)
  (h:∀ (h1:Heap) (o':Obj) (ep':Nat) (t':SetTable),Heap.SameBut a s.heap h1 -> h1.get? a = some o' -> o'.ExactSet -> o'.data = .set #[] ep' t' -> t'.fits 0 = true -> t'.led = !byText w -> t'.plain = true -> t'.dummies = #[] -> Full (t'.mask + 1) -> n <= t'.mask -> Q () { s with heap:=h1 }):wpAny (model prog w) A (setRoomFor a n) Q E s:=by
 refine room_ok (es:=#[]) ho rfl rfl (by show (0 + n) * 2 < 256; omega) (fun z=>?_) fun es' t' pm f1 f2 f3 f4 f5=>?_
 ·refine h s.heap _ 0 _ (Heap.SameBut.refl a s.heap) ho ⟨rfl,rfl,rfl⟩ rfl rfl rfl rfl rfl full8 ?_
  unfold SetTable.roomFor at z
  split at z
  ·cases z
  ·rename_i q
   have q:¬ (0 + n) * 5 ≥ 7 * 3:=q
   show n <= 7
   omega
 ·have e0:es' = #[]:=by
   have:=pm.length_eq
   rw [Array.length_toList] at this
   exact Array.eq_empty_of_size_eq_zero this
  subst e0
  have f5:t'.mask = SetTable.sizeAbove (n * 2) - 1:=by
   rw [f5]
   show SetTable.sizeAbove ((0 + n) * 2) - 1 = _
   rw [Nat.zero_add]
  obtain ⟨F,hlt⟩:=above_full hn
  refine h _ _ 1 t' (Heap.SameBut.update s.heap a _) (put_at ho rfl) ⟨rfl,rfl,rfl⟩ rfl f1 f2 f3 f4 ?_ (by omega)
  rw [f5,show SetTable.sizeAbove (n * 2) - 1 + 1 = SetTable.sizeAbove (n * 2) by omega]
  exact F
theorem tx_copy {a b:Addr} {ks2:List Str} {each:Sem Unit} {Q:Unit -> Shared -> Prop} (hS:s.heap.get? a = some (z0 w)) (hO:TxSet prog w s.heap b ks2) (ne:a ≠ b) (hb:ks2.length * 2 < 256)
  (h:∀ h',Heap.SameBut a s.heap h' -> (ks2 = [] -> h'.get? a = some (z0 w)) -> TxSet prog w h' a ks2 -> Q () { s with heap:=h' }):wpAny (model prog w) A (setMerge a b each) Q E s:=by
 obtain ⟨o2,es2,ep2,t2,ho2,hx2,hd2,X2⟩:=id hO
 have hl2:=tx_len X2
 obtain ⟨hel2,hp2,hbd2,hf2,hled2,hpl2⟩:=X2
 unfold setMerge
 refine wpAny_ite_split (fun z=>absurd (beq_iff_eq.mp z) ne) (fun _=>?_)
 refine wpAny_bind (wpAny_setState_of ho2 hd2 hf2 ?_)
 dsimp only
 refine wpAny_ite_split (fun z=>?_) (fun z=>?_)
 ·have e:es2.size = 0:=by simpa [Array.isEmpty] using z
  have e:ks2 = []:=List.eq_nil_of_length_eq_zero (by omega)
  subst e
  exact wpAny_pure (h s.heap (Heap.SameBut.refl a s.heap) (fun _=>hS) (tx_fresh (xs:=[]) hS))
 ·have e2:es2.size ≠ 0:=fun e=>z (by simpa [Array.isEmpty] using e)
  have n2:ks2 ≠ []:=fun e=>e2 (by rw [hl2,e]; rfl)
  refine wpAny_bind (room_fresh hS (by omega) fun h1 o' ep' t' sb1 ho' hx' hd' hf' hle hpl hdu F hn=>?_)
  refine wpAny_bind (wpAny_setState_of (s:={ s with heap:=h1 }) ho' hd' hf' ?_)
  dsimp only
  have f0:t'.fill = 0:=by unfold SetTable.fill; rw [fits_size hf',hdu]; rfl
  have hled2':t2.led = !byText w:=hled2
  cases rd:t'.road t2 with
  | oneByOne =>
   exfalso
   unfold SetTable.road at rd
   rw [f0] at rd
   rw [if_neg (by simp)] at rd
   split at rd <;> cases rd
  | slotForSlot =>
   refine wpAny_storeSet_of (s:={ s with heap:=h1 }) ho' hd' ?_ (fits_of_scanBound hbd2)
   refine h _ (sb1.trans (Heap.SameBut.update _ a _)) (fun z=>absurd z n2) ⟨_,es2,_,_,put_at ho' hd',hx',rfl,hel2,hp2,hbd2,hf2,?_,fun _=>?_⟩
   ·show (t'.led && t2.led) = !byText w
    rw [hle,hled2',Bool.and_self]
   ·show (t'.plain && t2.plain) = false
    rw [hpl2 e2,Bool.and_false]
  | clean =>
   obtain ⟨t3,order,el,pm,ps,du,mk,le,pl⟩:=laid_ok (mask:=t'.mask) (finger:=t'.finger) (moves:=t'.moves) (led:=t'.led && t2.led) (plain:=t'.plain && t2.plain) (hs:=es2.map (·.1)) F (by rw [Array.size_map]; omega)
   rw [Array.size_map] at pm ps
   obtain ⟨op,osz⟩:=order_perm pm
   dsimp only
   rw [el]
   refine wpAny_bind ?_
   wp_delta
   dsimp only
   rw [if_neg (by rw [osz]; simp)]
   refine wpAny_pure ?_
   refine wpAny_storeSet_of (s:={ s with heap:=h1 }) ho' hd' ?_ (by rw [osz]; exact fits_of_scanBound hbd2)
   refine h _ (sb1.trans (Heap.SameBut.update _ a _)) (fun z=>absurd z n2) ⟨_,_,_,t3,put_at ho' hd',hx',rfl,hel2.perm op,(op.map keyOf).trans hp2,by rw [osz]; exact hbd2,?_,?_,fun _=>?_⟩
   ·unfold SetTable.fits SetTable.fill
    rw [ps,du,osz,mk]
    simp
    omega
   ·rw [le,hle,hled2',Bool.and_self]
    rfl
   ·rw [pl,hpl2 e2,Bool.and_false]
end
end AxS
namespace AxS
open PySem PySem.Spec PyProof.Rows
theorem entry_or:entryFor table "set.__or__" = some Builtin.«frozenset.__or__» :=
 entryFor_alias (id':="frozenset.__or__") (by kernel_rfl) (by first | rfl | decide +kernel | (unfold String.splitOn; simp +decide [String.splitOnAux])) (by decide +kernel) (by kernel_rfl)
end AxS
namespace AxS
open PySem PySem.Spec PyProof.Rows
section
variable {prog:Program} {w:World} {A:Around} {E:Value -> Shared -> Prop} {s:Shared}
theorem jE {h:Heap} {a:Addr} {ks:List Str} {s:Shared} (x:TxSet prog w s.heap a ks):s.TypeIs (.ref a) "set":=by
 obtain ⟨o,es,ep,t,ho,hx,_⟩:=x
 exact ⟨o,ho,hx.1⟩
theorem any_set {a:Addr} {Q:Bool -> Shared -> Prop} (hT:s.TypeIs (.ref a) "set") (h:Q true s):wpAny (model prog w) A (Builtin.Frozenset.isAnySet (.ref a)) Q E s:=by
 unfold Builtin.Frozenset.isAnySet
 show wpAny _ _ (isInstance (.ref a) (.type "set") >>= _) _ _ _
 refine wpAny_bind (wpAny_isInstance hT sub_set_self ?_)
 exact wpAny_pure h
theorem tx_or {a b:Addr} {ks1 ks2:List Str} {Q:Value -> Shared -> Prop} (hS:TxSet prog w s.heap a ks1) (hO:TxSet prog w s.heap b ks2) (ne:a ≠ b) (hb:(ks1.length + ks2.length) * 2 < 256)
  (h:∀ h' d ks',(∀ x o,s.heap.get? x = some o -> h'.get? x = some o) -> TxSet prog w h' s.heap.objs.size ks' -> Both ks1 ks2 ks' -> Q (.ref s.heap.objs.size) { s with heap:=h',drawn:=d }) :
  wpAny (model prog w) A (call (.builtin "set.__or__") [.ref a,.ref b]) Q E s:=by
 have hTa:=jE (h:=s.heap) hS
 have hTb:=jE (h:=s.heap) hO
 refine wpAny_call_entry PySem.F.slot_set_or hTa entry_or ?_ (PySem.F.args_set_or_2 _ _)
 unfold Builtin.«frozenset.__or__»
 wp_delta
 refine wpAny_bind ?_
 show wpAny _ _ (pure (Value.ref a,Value.ref b)) _ _ _
 refine wpAny_pure ?_
 dsimp only
 refine wpAny_bind ?_
 show wpAny _ _ (Builtin.Frozenset.isAnySet (.ref a) >>= _) _ _ _
 refine wpAny_bind (any_set hTa ?_)
 show wpAny _ _ (Builtin.Frozenset.isAnySet (.ref b)) _ _ _
 refine any_set hTb ?_
 simp only [Bool.not_true,Bool.false_eq_true,↓reduceIte]
 refine wpAny_bind (wpAny_pure ?_)
 refine wpAny_bind ?_
 wp_delta
 refine wpAny_bind ?_
 unfold Builtin.Frozenset.copyOf Builtin.Frozenset.baseOf newSet
 refine wpAny_bind (wpAny_bind (wpAny_isInstance hTa sub_set_self (wpAny_pure ?_)))
 simp only [↓reduceIte]
 refine wpAny_bind (wpAny_bind (wp_byText ?_))
 simp only [newObj]
 refine wpAny_bind (wpAny_alloc (wpAny_pure ?_))
 have hP:(s.heap.push (z0 w)).get? s.heap.objs.size = some (z0 w):=Heap.get?_push_size _ rfl
 have kp:∀ x o,s.heap.get? x = some o -> (s.heap.push (z0 w)).get? x = some o:=fun x o e=>Heap.get?_push_of_some _ e
 have la:a < s.heap.objs.size:=by obtain ⟨o,_,_,_,e,_⟩:=hS; exact Heap.lt_size e
 have lb:b < s.heap.objs.size:=by obtain ⟨o,_,_,_,e,_⟩:=hO; exact Heap.lt_size e
 refine wpAny_bind (wpAny_pure ?_)
 refine wpAny_bind ?_
 refine tx_copy (s:={ s with heap:=s.heap.push (z0 w) }) hP (hS.at (kp a)) (Nat.ne_of_gt la) (by omega) fun h1 sb1 fr1 tx1=>?_
 have kp1:∀ x o,s.heap.get? x = some o -> h1.get? x = some o:=fun x o e=>(sb1.2 x (Nat.ne_of_lt (Heap.lt_size e))).trans (kp x o e)
 refine wpAny_pure ?_
 rw [if_pos (by simpa using fun z=>ne z.symm)]
 refine wpAny_bind (wpAny_pure ?_)
 refine wpAny_bind (wpAny_holding ?_)
 unfold Builtin.Frozenset.updateFrom
 have hTb1:Shared.TypeIs { s with heap:=h1 } (.ref b) "set":=jE (h:=h1) (hO.at (kp1 b))
 refine wpAny_bind (any_set (s:={ s with heap:=h1 }) hTb1 ?_)
 simp only [↓reduceIte]
 refine wpAny_bind (wpAny_pure ?_)
 unfold Builtin.Frozenset.merge
 obtain ⟨o2,es2,ep2,t2,ho2,hx2,hd2,X2⟩:=id (hO.at (kp1 b))
 have hf2:=X2.2.2.2.1
 refine wpAny_bind ?_
 unfold setEpoch
 refine wpAny_bind (wpAny_setState_of (s:={ s with heap:=h1 }) ho2 hd2 hf2 (wpAny_pure ?_))
 have nb:s.heap.objs.size ≠ b:=Nat.ne_of_gt lb
 have fin:∀ (h2:Heap) (d:Drawn) (ks:List Str),Heap.SameBut s.heap.objs.size h1 h2 -> TxSet prog w h2 s.heap.objs.size ks -> Both ks1 ks2 ks -> Q (.ref s.heap.objs.size) { s with heap:=h2,drawn:=d }:=fun h2 d ks sb tx bo =>
  h h2 d ks (fun x o e=>(sb.2 x (Nat.ne_of_lt (Heap.lt_size e))).trans (kp1 x o e)) tx bo
 by_cases e1:ks1 = []
 ·subst e1
  refine tx_copy (s:={ s with heap:=h1 }) (fr1 rfl) (hO.at (kp1 b)) nb (by omega) fun h2 sb2 _ tx2=>?_
  exact wpAny_pure (wpAny_pure ⟨_,rfl,fin h2 s.drawn ks2 sb2 tx2 ⟨fun x=>by simp,fun _ m=>m,by omega⟩⟩)
 ·refine tx_merge (s:={ s with heap:=h1 }) tx1 (hO.at (kp1 b)) nb e1 hb (fun s' Q' eb q=>?_) fun h2 d ks sb2 tx2 bo=>?_
  ·unfold Builtin.Frozenset.unchanged setEpoch
   refine wpAny_bind (wpAny_bind (wpAny_setState_of (s:=s') (show s'.heap.get? b = some o2 by rw [eb]; exact ho2) hd2 hf2 (wpAny_pure ?_)))
   refine wpAny_ite_split (fun z=>absurd z (by simp)) (fun _=>wpAny_pure q)
  ·exact wpAny_pure (wpAny_pure ⟨_,rfl,fin h2 d ks sb2 tx2 bo⟩)
end
end AxS
namespace L2
open PySem PySem.Spec PyProof.Rows AxS
section
variable {X:Cx}
def rOrS (P:Program) (w:World):R2:=fun x y H Q=>∃ (a b:Addr) (ks1 ks2:List Str),x = .ref a /\ y = .ref b /\ H a = some (TxHO P w a ks1) /\ H b = some (TxHO P w b ks2) /\ a ≠ b /\ (ks1.length + ks2.length) * 2 < 256 /\ ∀ p ks,H p = none -> Both ks1 ks2 ks -> Q (.ref p) (upd H p (TxHO P w p ks))
theorem op_orS:OpR X (binaryOp .BitOr) (rOrS X.prog X.w):=by
 intro pins s σ H x y v u Q I rx ry h
 obtain ⟨a,b,ks1,ks2,rfl,rfl,ha,hb,ne,n,q⟩:=h
 cases rx
 cases ry
 have hS:=txho_get (I.hok a _ ha)
 have hO:=txho_get (I.hok b _ hb)
 refine wpAny_binaryOp_same (op:=.BitOr) (jE (h:=s.heap) hS) (jE (h:=s.heap) hO) PySem.F.fills_set_or PySem.F.slot_set_or (tx_or hS hO ne n fun h' d ks' k tx bo=>⟨fun z=>(nomatch z),?_⟩)
 exact ⟨.ref s.heap.objs.size,_,(I.laid (o:=TxHO X.prog X.w s.heap.objs.size ks') (t':=s.toks) k (Nat.le_refl _) (txho_ok tx)).drew (d:=d),rfl,q _ ks' (I.hok.fresh (Nat.le_refl _)) bo⟩
end
end L2
namespace L2
open PySem PySem.Spec PyProof.Rows AxS
section
variable {X:Cx} {pins:List (Addr × Obj)} {σ:St} {H:Hp} {s:Shared} {d:Addr} {kvs:List (Key × V)}
theorem rd_at (I:Inv X pins σ H s) (e:Rd H d (.dK kvs)):∃ vs ep,KV kvs vs /\ s.heap.DictAt (mixKind X.prog X.w) d vs ep /\ (d == sysModules) = false /\ kvs.length <= sizeLine:=by
 obtain ⟨z,hd,vs,rel,o,es,ep,ho,hx,hdat,hk,hp,hnd⟩:=jL I.hok e
 exact ⟨vs,ep,rel,⟨o,es,ho,hx,hdat,hk,hp,hnd⟩,hd,z⟩
theorem paired_imp {α β:Type} {F G:α -> β -> Prop} (h:∀ a b,F a b -> G a b):∀ {l:List α} {m:List β},Paired F l m -> Paired G l m
 | _,_,.nil=>.nil
 | _,_,.cons r t=>.cons (h _ _ r) (paired_imp h t)
theorem ObjOk.thaw {P:Program} {w:World} {h:Heap} {b:Addr} {u:HO} {ob:Obj} {x:HO} (hd:H d = some (.frz ob x)) {y:HO} (ok:ObjOk P w H h b u):ObjOk P w (upd H d y) h b u:=by
 have keep:∀ {c:Addr} {z:HO},H c = some z -> (∀ o v,z ≠ .frz o v) -> upd H d y c = some z:=fun {c z} e n=>by
  rw [zD fun q=>by rw [q,hd] at e; exact n _ _ (Option.some.inj e).symm]
  exact e
 induction u generalizing b with
 | lst xs=>exact ok
 | tup xs=>exact ok
 | dK kvs=>exact ok
 | dT kvs =>
  obtain ⟨h1,h2,xs,hp,h3⟩:=ok
  exact ⟨h1,h2,xs,paired_imp (fun p q r=>⟨r.1,keep r.2.1 (fun o v z=>(nomatch z)),r.2.2⟩) hp,h3⟩
 | set S n=>exact ok
 | ins C dx fs=>exact ⟨keep ok.1 (fun o v z=>(nomatch z)),ok.2⟩
 | own x=>exact ok
 | xd fs=>exact ok
 | rng lo hi=>exact ok
 | frz o u ih=>exact ⟨ok.1,ih ok.2⟩
 | tbl ps=>exact ok
 | met f x=>exact ok
 | ext φ=>exact ok
theorem Inv.thaw {ob:Obj} (I:Inv X pins σ H s) (hd:H d = some (.frz ob (.dK kvs))) (n0:∀ o u,X.H₀ d ≠ some (.frz o u)):Inv X pins σ (upd H d (.dK kvs)) s:=by
 have ne:∀ {b:Addr},H b = none -> b ≠ d:=fun {b} e z=>by rw [z,hd] at e; cases e
 have nt:∀ {b:Addr} {z:HO},H b = some z -> (∀ o v,z ≠ .frz o v) -> b ≠ d:=fun {b z} e n q=>by rw [q,hd] at e; exact n _ _ (Option.some.inj e).symm
 refine ⟨I.ok,I.os,I.bare,⟨I.base.keep,I.base.slot,fun b o h1 h2 h3=>?_,I.base.there,fun b xs h1=>?_,fun b o u h1=>?_,fun b ps h1=>?_⟩,I.loc,I.cell,?_,fun x c h1=>?_,fun p hp=>?_,fun b u h1=>?_,I.len⟩
 ·have:=I.base.free b o h1 h2 h3
  rw [zD (ne this)]
  exact this
 ·have:=I.base.tups b xs h1
  rw [zD (nt this fun o v z=>(nomatch z))]
  exact this
 ·have:=I.base.frzs b o u h1
  rw [zD fun z=>n0 o u (by rw [← z]; exact h1)]
  exact this
 ·obtain ⟨more,this⟩:=I.base.tbls b ps h1
  exact ⟨more,by rw [zD (nt this fun o v z=>(nomatch z))]; exact this⟩
 ·rw [zD (ne I.free)]; exact I.free
 ·have:=I.freeC x c h1
  rw [zD (ne this)]; exact this
 ·obtain ⟨a1,a2,a3⟩:=I.pin p hp
  exact ⟨a1,by rw [zD (ne a2)]; exact a2,a3⟩
 ·by_cases z:b = d
  ·rw [z,zB] at h1
   cases h1
   rw [z]
   exact (I.hok d _ hd).2
  ·rw [zD z] at h1
   exact (I.hok b u h1).thaw hd
end
section
variable {X:Cx} {tg:Expr}
def tThaw (H₀:Hp) (t:TE):TE:=fun σ H Q=>t σ H fun v H1=>∃ d ob kvs,H1 d = some (.frz ob (.dK kvs)) /\ (∀ o u,H₀ d ≠ some (.frz o u)) /\ Q v (upd H1 d (.dK kvs))
theorem qQ {e:Expr} {t:TE} (h:PE X e t):PE X e (tThaw X.H₀ t):=by
 intro pins s σ H Q I q
 refine thn (h pins s σ H _ I q) fun v s1 ⟨x,H1,I1,r,d,ob,kvs,hd,n0,q⟩=>?_
 exact ⟨x,_,I1.thaw hd n0,r,q⟩
def rDictR:List V -> Hp -> VK -> Prop:=fun xs H Q=>∃ a kvs,xs = [.ref a] /\ Rd H a (.dK kvs) /\ ∀ l,H l = none -> Q (.ref l) (upd H l (.dK kvs))
theorem call_dictR:CallR X (.type "dict") rDictR:=by
 intro pins s σ H xs us Q I r h
 obtain ⟨a,kvs,rfl,ha,q⟩:=h
 obtain ⟨u,rfl,ru⟩:=vals1 r
 cases ru
 exact d_copyOf I ha fun p s' hp I'=>⟨.ref p,_,I',rfl,q p hp⟩
def keyS (kv:Key × V):Str:=match kv.1 with
 | .inr x=>x
 | .inl _=>""
def AllS (kvs:List (Key × V)):Prop:=∀ kv ∈ kvs,kv.1 = .inr (keyS kv)
theorem keys_texts {P:Program} {w:World} {kvs:List (Key × V)} {vs:List (Key × Value)} {us:List Value} (al:AllS kvs) (rel:KV kvs vs) (hl:us.length = vs.length) (hm:∀ (j:Nat) (v:Value),us[j]? = some v -> ∃ k x,vs[j]? = some (k,x) /\ (mixKind P w).is k v = true):xE us (kvs.map keyS):=by
 have hlen:kvs.length = vs.length:=Paired.length rel
 refine ⟨by rw [List.length_map]; omega,fun i v e=>?_⟩
 obtain ⟨k,x,e1,hk⟩:=hm i v e
 obtain ⟨p,ep,ekk,_⟩:=qH rel e1
 have ekk:p.1 = k:=ekk
 have ap:=al p (List.mem_of_getElem? ep)
 rw [← ekk,ap] at hk
 obtain ⟨t,et⟩:=Value.isStrOf_shape (show Value.isStrOf (keyS p) v = true from hk)
 exact ⟨keyS p,t,by rw [List.getElem?_map,ep]; rfl,et⟩
def rSortedR:List V -> Hp -> VK -> Prop:=fun xs H Q=>∃ a kvs,xs = [.ref a] /\ Rd H a (.dK kvs) /\ AllS kvs /\ kvs.length < 64 /\ ∀ l ss,H l = none -> ss.Perm (kvs.map keyS) -> sortedS ss = true -> Q (.ref l) (upd H l (.lst (ss.map V.str)))
theorem call_sortedR (hc:X.calm = true):CallR X (.builtin "sorted") rSortedR:=by
 intro pins s σ H xs us Q I r h
 obtain ⟨a,kvs,rfl,ha,al,h64,q⟩:=h
 obtain ⟨u,rfl,ru⟩:=vals1 r
 cases ru
 obtain ⟨vs,ep,rel,da,hS,hz⟩:=rd_at I ha
 have hlen:kvs.length = vs.length:=Paired.length rel
 refine Calls.call_function_entry kind_sorted plain_sorted entry_sorted (args_sorted1 _) ?_
 unfold Builtin.«sorted»
 refine wpAny_bind (m:=checkCount "sorted" 1 1 _) (wpAny_pure ?_)
 refine wpAny_bind (PySem.W.kdu_collect (A:=X.A.in1) (PySem.W.kdl_dict (knd:=mixKind X.prog X.w) (kvs:=vs) (ep:=ep) hS) (I.ok.hd hc) da (by omega) fun h' tk acc0 hkp hacc=>?_)
 have tx:xE acc0.toList (kvs.map keyS):=keys_texts al rel (by rw [Array.length_toList]; exact hacc.1) fun j v e=>hacc.2 j v (by rw [← Array.getElem?_toList]; exact e)
 generalize acc0.toList = acc at tx ⊢
 have hstr:=strs_of tx
 have hal:acc.length < 64:=by rw [tx.1,List.length_map]; exact h64
 have hline:64 <= sizeLine:=by rw [sizeLine_eq]; decide
 refine wpAny_bind (wpAny_newList ?_ (by omega))
 have hoL:(h'.push (seqObj "list" acc.toArray 0)).get? h'.objs.size = some (seqObj "list" acc.toArray 0):=Heap.get?_push_size _ rfl
 refine wpAny_bind (wpAny_holding (wpAny_call_entry slot_list_sort ⟨_,hoL,rfl⟩ entry_list_sort (list_sort_treeK strKind_oneLt hoL hstr.keysOf (fun v₁ v₂ rest e=>keyKind_strs (by rw [← e]; exact hstr)) (by omega) fun st' a1 a2=>⟨_,rfl,?_⟩) (args_list_sort _)))
 obtain ⟨ss',b1,b2,b3⟩:=sorted_out_str hstr a1 a2
 refine wpAny_pure ⟨_,rfl,?_⟩
 obtain ⟨e,he⟩:=sortedHeap_at (out:=(arrOf st').map (·.2)) hoL
 have nl:=vals_strs b1
 have I1:Inv X pins σ H { s with heap:=h',toks:=tk }:=I.kept (t':=tk) hkp
 have kp2:∀ b ob,h'.get? b = some ob -> (sortedHeap (h'.push (seqObj "list" acc.toArray 0)) h'.objs.size acc ((arrOf st').map (·.2))).get? b = some ob:=fun b ob q1=>by
  have hb:b < h'.objs.size:=Heap.lt_size q1
  rw [sortedHeap_old (Nat.ne_of_lt hb) (by rw [Heap.size_push]; exact Nat.lt_succ_of_lt hb)]
  exact Heap.get?_push_of_some _ q1
 have fr:H h'.objs.size = none:=I1.hok.fresh (Nat.le_refl _)
 have hz2:(ss'.map V.str).length <= sizeLine:=by
  have:=b2.length_eq
  rw [List.length_map] at this ⊢
  omega
 exact ⟨.ref h'.objs.size,_,I1.laid (o:=.lst (ss'.map V.str)) (t':=tk) kp2 (Nat.le_refl _) ⟨hz2,_,e,nl,he⟩,rfl,q _ ss' fr b2 b3⟩
def putAll (kvs more:List (Key × V)):List (Key × V):=more.foldl (fun acc kv=>putK acc kv.1 kv.2) kvs
theorem KV.putAll:∀ {more:List (Key × V)} {um:List (Key × Value)} {kvs:List (Key × V)} {vs:List (Key × Value)},KV kvs vs -> KV more um -> KV (putAll kvs more) (merged vs um)
 | [],_,_,_,r,.nil=>r
 | p :: more,q :: um,kvs,vs,r,.cons h t=>by
  have e:p.1 = q.1:=h.1
  have:=KV.putAll (kvs:=putK kvs p.1 p.2) (vs:=stored vs q.1 q.2) (by rw [← e]; exact r.put p.1 h.2) t
  exact this
theorem xK:∀ (more kvs:List (Key × V)),(putAll kvs more).length <= kvs.length + more.length
 | [],kvs=>Nat.le_refl _
 | p :: more,kvs=>by
  have:=xK more (putK kvs p.1 p.2)
  have:=xJ kvs p.1 p.2
  show (putAll (putK kvs p.1 p.2) more).length <= _
  rw [List.length_cons]
  omega
def tDUpd (td ty:TE):TE:=fun σ H Q=>td σ H fun x H1=>∃ a,x = .ref a /\ IsD H1 a /\ ty σ H1 fun y H2=>∃ b kvs more,y = .ref b /\ a ≠ b /\ H2 a = some (.dK kvs) /\ Rd H2 b (.dK more) /\ kvs.length + more.length <= sizeLine /\ Q .non (upd H2 a (.dK (putAll kvs more)))
theorem pe_dupd {o e:Expr} {apos cpos:Pos} {td ty:TE} (ho:PE X o td) (he:PE X e ty) (m:M1 X o "update" apos e cpos):PE X (.Call (.Attribute o "update" apos) [e] [] cpos) (tDUpd td ty):=by
 intro pins s σ H Q I h
 refine wpAny_Call_method m.base m.few m.line PySem.F.plainAttrs_dict PySem.F.slot_dict_update PySem.F.type_dict_update (thn (ho pins s σ H _ I h) fun u s1 ⟨x,H1,I1,rx,a,ex,d,q1⟩=>?_)
 subst ex
 obtain rfl:u = Value.ref a:=rx
 obtain ⟨t1,t2,_⟩:=isD_at I1 d
 refine ⟨t1,t2,?_⟩
 rw [m.trees]
 refine Calls.callWith_builtin rfl (Calls.evalArgs_plain (Calls.spliced_cons (thn (he pins s1 σ H1 _ I1 q1) fun iv s2 ⟨y,H2,I2,ry,b,kvs,more,ey,ne,ea,eb,hz,q2⟩=>Calls.spliced_nil ?_)))
 subst ey
 cases ry
 obtain ⟨z,hd,vs,rel,dd⟩:=dk_of I2.hok ea
 obtain ⟨z2,hd2,um,rel2,dd2⟩:=jL I2.hok eb
 refine call_meetsIn PySem.F.slot_dict_update dd.typeIs PySem.F.entry_dict_update (PySem.F.args_dict_update_2 _ _) (meets_dict_update (mixKind X.prog X.w) a b ne hd2)
  ⟨vs,um,dd,dd2,by rw [← rel.length,← rel2.length]; exact hz,fun h' dd' _ hs=>⟨.non,_,?_,rfl,q2⟩⟩
 have hex:∃ q,h'.get? a = some q:=let ⟨q,_,_,hq,_⟩:=dd'; ⟨q,hq⟩
 exact d_write I2 (by rw [ea]; exact True.intro) hs hex (dk_new (Nat.le_trans (xK more kvs) hz) hd (rel.putAll rel2) dd')
end
end L2
namespace L2
open PySem PySem.Spec PyProof.Rows
section
variable {prog:Program} {w:World} {A:Around} {s:Shared}
def EqW (prog:Program) (w:World) (A:Around) (s:Shared) (u v:Value):Prop:=∀ (E:Value -> Shared -> Prop) (Q:Bool -> Shared -> Prop),Q true s -> wpAny (model prog w) A (eqBool u v) Q E s
theorem EqW.self (u:Value):EqW prog w A s u u:=fun E Q q=>SeqAt.EqAt.same u prog w E Q q
theorem EqW.refs {p q:Addr} (ne:p ≠ q) (h:∀ (E:Value -> Shared -> Prop) (Q:Value -> Shared -> Prop),Q (.bool true) s -> wpAny (model prog w) A (richCompare .Eq (.ref p) (.ref q)) Q E s):EqW prog w A s (.ref p) (.ref q):=fun E Q k=>by
 unfold eqBool
 refine wpAny_holding (wpAny_ite_split (fun z=>?_) fun _=>wpAny_bind (h E _ (wpAny_truthy_bool k)))
 have:=eq_of_beq z
 injection this with this
 exact absurd this ne
theorem lists_alike {p q:Addr} {us vs:Array Value} {n m code:Nat} {d1 d2:Option Addr} {l1 l2:Array (Option Value)} {R:Result -> Shared -> Prop} (hc:code = 2 \/ code = 3) (hp:s.heap.get? p = some { cls:=.type "list",dict:=d1,data:=.seq us n,slots:=l1 }) (hq:s.heap.get? q = some { cls:=.type "list",dict:=d2,data:=.seq vs m,slots:=l2 }) (sz:us.size = vs.size)
  (al:∀ j (h1:j < us.size) (h2:j < vs.size),EqW prog w A.in1 s us[j] vs[j]) (k:R (.ok (.ret (.bool (code == 2)))) s) :
  ∀ (left i:Nat),us.size - i = left -> codeAny (model prog w) A (.builtin "list.__eq__.loop" ⟨[.ref p,.ref q,rawInt i,rawInt code],[]⟩) R s:=by
 intro left
 induction left with
 | zero =>
  intro i hi
  refine codeAny_builtin MeetsSeq3.entry_eq_loop ?_
  rw [Around.under_plainId MeetsSeq3.plain_eq_loop _]
  obtain ⟨hh,g,d,tk,os⟩:=s
  have e1:us[((i:Nat):Int).toNat]? = none:=by simp; omega
  have e2:vs[((i:Nat):Int).toNat]? = none:=by simp; omega
  have ec:(us.size == vs.size) = true:=by rw [sz]; exact beq_self_eq_true _
  have en:(us.size != vs.size) = false:=by rw [sz]; simp
  rcases hc with rfl | rfl
  ·wp_walk using AutoSeq1.wpAny_loadPart' hp,AutoSeq1.wpAny_loadPart' hq
   rw [e1,e2]
   wp_walk using AutoSeq1.wpAny_loadPart' hp,AutoSeq1.wpAny_loadPart' hq
   show R (.ok (.ret (.bool (us.size == vs.size)))) _
   rw [ec]
   exact k
  ·wp_walk using AutoSeq1.wpAny_loadPart' hp,AutoSeq1.wpAny_loadPart' hq
   rw [e1,e2]
   wp_walk using AutoSeq1.wpAny_loadPart' hp,AutoSeq1.wpAny_loadPart' hq
   show R (.ok (.ret (.bool (us.size != vs.size)))) _
   rw [en]
   exact k
 | succ left ih =>
  intro i hi
  have h1:i < us.size:=by omega
  have h2:i < vs.size:=by omega
  have step:=ih (i + 1) (by omega)
  refine codeAny_builtin MeetsSeq3.entry_eq_loop ?_
  rw [Around.under_plainId MeetsSeq3.plain_eq_loop _]
  obtain ⟨hh,g,d,tk,os⟩:=s
  have e1:us[((i:Nat):Int).toNat]? = some us[i]:=by simp [h1]
  have e2:vs[((i:Nat):Int).toNat]? = some vs[i]:=by simp [h2]
  have ei:((i:Int) + 1) = ((i + 1:Nat):Int):=by push_cast; rfl
  have one:=al i h1 h2
  rcases hc with rfl | rfl
  ·wp_walk using AutoSeq1.wpAny_loadPart' hp,AutoSeq1.wpAny_loadPart' hq
   rw [e1,e2]
   refine wpAny_bind (one _ _ ?_)
   wp_walk
   rw [ei]
   exact ⟨plainId_quiet MeetsSeq3.plain_eq_loop _,step⟩
  ·wp_walk using AutoSeq1.wpAny_loadPart' hp,AutoSeq1.wpAny_loadPart' hq
   rw [e1,e2]
   refine wpAny_bind (one _ _ ?_)
   wp_walk
   rw [ei]
   exact ⟨plainId_quiet MeetsSeq3.plain_eq_loop _,step⟩
theorem list_meets {p q:Addr} {us vs:Array Value} {n m:Nat} {d1 d2:Option Addr} {l1 l2:Array (Option Value)} (sz:us.size = vs.size) :
  MeetsIn prog w (Builtin.«list.__eq__» ⟨[.ref p,.ref q],[]⟩) (fun A R s=>s.heap.get? p = some { cls:=.type "list",dict:=d1,data:=.seq us n,slots:=l1 } /\ s.heap.get? q = some { cls:=.type "list",dict:=d2,data:=.seq vs m,slots:=l2 } /\ (∀ j (h1:j < us.size) (h2:j < vs.size),EqW prog w A.in1 s us[j] vs[j]) /\ R (.ok (.ret (.bool true))) s):=by
 intro A R s ⟨hp,hq,al,k⟩
 have lp:=lists_alike (code:=2) (.inl rfl) hp hq sz al k _ 0 rfl
 obtain ⟨hh,g,d,tk,os⟩:=s
 have sub:=AutoSeq1.sub_list_list
 have ne:¬ (us.size != vs.size) = true:=by simp [sz]
 wp_walk using AutoSeq1.wpAny_loadPart' hp,AutoSeq1.wpAny_loadPart' hq
 exact ⟨plainId_quiet MeetsSeq3.plain_eq_loop _,lp⟩
theorem list_meetsN {p q:Addr} {us vs:Array Value} {n m:Nat} {d1 d2:Option Addr} {l1 l2:Array (Option Value)} (sz:us.size = vs.size) :
  MeetsIn prog w (Builtin.«list.__ne__» ⟨[.ref p,.ref q],[]⟩) (fun A R s=>s.heap.get? p = some { cls:=.type "list",dict:=d1,data:=.seq us n,slots:=l1 } /\ s.heap.get? q = some { cls:=.type "list",dict:=d2,data:=.seq vs m,slots:=l2 } /\ (∀ j (h1:j < us.size) (h2:j < vs.size),EqW prog w A.in1 s us[j] vs[j]) /\ R (.ok (.ret (.bool false))) s):=by
 intro A R s ⟨hp,hq,al,k⟩
 have lp:=lists_alike (code:=3) (.inr rfl) hp hq sz al k _ 0 rfl
 obtain ⟨hh,g,d,tk,os⟩:=s
 have sub:=AutoSeq1.sub_list_list
 have ne:¬ (us.size != vs.size) = true:=by simp [sz]
 wp_walk using AutoSeq1.wpAny_loadPart' hp,AutoSeq1.wpAny_loadPart' hq
 exact ⟨plainId_quiet MeetsSeq3.plain_eq_loop _,lp⟩
structure EqS (prog:Program) (w:World) (A:Around) (s:Shared) (u v:Value):Prop where
 eq:EqW prog w A s u v
 rc:∀ (E:Value -> Shared -> Prop) (Q:Value -> Shared -> Prop),Q (.bool true) s -> wpAny (model prog w) A (richCompare .Eq u v) Q E s
 ne:∀ (E:Value -> Shared -> Prop) (Q:Value -> Shared -> Prop),Q (.bool false) s -> wpAny (model prog w) A (richCompare .NotEq u v) Q E s
theorem EqS.of {p q:Addr} (rc:∀ (E:Value -> Shared -> Prop) (Q:Value -> Shared -> Prop),Q (.bool true) s -> wpAny (model prog w) A (richCompare .Eq (.ref p) (.ref q)) Q E s) (ne:∀ (E:Value -> Shared -> Prop) (Q:Value -> Shared -> Prop),Q (.bool false) s -> wpAny (model prog w) A (richCompare .NotEq (.ref p) (.ref q)) Q E s):EqS prog w A s (.ref p) (.ref q):=by
 refine ⟨?_,rc,ne⟩
 by_cases z:p = q
 ·subst z; exact EqW.self _
 ·exact EqW.refs z rc
theorem EqS.lists {p q:Addr} {us vs:Array Value} (hp:s.heap.IsList p us) (hq:s.heap.IsList q vs) (sz:us.size = vs.size) (hu:A.units < cLine) (al:∀ j (h1:j < us.size) (h2:j < vs.size),EqW prog w A.in1 s us[j] vs[j]):EqS prog w A s (.ref p) (.ref q):=by
 obtain ⟨⟨c1,d1,da1,l1⟩,ho1,hc1,n,hd1⟩:=id hp
 obtain ⟨⟨c2,d2,da2,l2⟩,ho2,hc2,m,hd2⟩:=id hq
 simp only at hc1 hd1 hc2 hd2
 subst hc1 hd1 hc2 hd2
 exact .of (fun E Q k=>wpAny_richCompare_same_room (op:=.Eq) ⟨_,ho1,rfl⟩ ⟨_,ho2,rfl⟩ F.slot_list_eq (call_meetsIn F.slot_list_eq ⟨_,ho1,rfl⟩ F.entry_list_eq (F.args_list_eq_2 _ _) (list_meets sz) ⟨ho1,ho2,al,⟨fun z=>(nomatch z),k⟩⟩) hu)
  fun E Q k=>wpAny_richCompare_same_room (op:=.NotEq) ⟨_,ho1,rfl⟩ ⟨_,ho2,rfl⟩ F.slot_list_ne (call_meetsIn F.slot_list_ne ⟨_,ho1,rfl⟩ F.entry_list_ne (F.args_list_ne_2 _ _) (list_meetsN sz) ⟨ho1,ho2,al,⟨fun z=>(nomatch z),k⟩⟩) hu
end
def EqT (K:PySem.W.Frag) (n:Nat) (H:Hp) (x y:V):Prop:=∀ (X:Cx) (pins:List (Addr × Obj)) (σ:St) (s:Shared) (A:Around),X.K = K -> Inv X pins σ H s -> A.units + n < cLine -> ∀ u v,RelV x u -> RelV y v -> EqS X.prog X.w A s u v
theorem EqT.more {K:PySem.W.Frag} {n m:Nat} {H:Hp} {x y:V} (h:EqT K n H x y) (l:n <= m):EqT K m H x y:=fun X pins σ s A k I hu u v ru rv=>h X pins σ s A k I (by omega) u v ru rv
theorem vals_at {xs:List V} {us:List Value} (r:Vals xs us) {i:Nat} (h:i < us.length):∃ x,xs[i]? = some x /\ RelV x us[i]:=by
 have hx:i < xs.length:=by rw [r.length]; exact h
 obtain ⟨u,hu,ru⟩:=r.get (List.getElem?_eq_getElem hx)
 rw [List.getElem?_eq_getElem h] at hu
 cases hu
 exact ⟨_,List.getElem?_eq_getElem hx,ru⟩
theorem EqT.lst {K:PySem.W.Frag} {n:Nat} {H:Hp} {a b:Addr} {xs ys:List V} (ha:SqL K H a xs) (hb:SqL K H b ys) (hl:xs.length = ys.length) (h:∀ (i:Nat) (x y:V),xs[i]? = some x -> ys[i]? = some y -> EqT K n H x y):EqT K (n + 1) H (.ref a) (.ref b):=fun X pins σ s A k I hu u v ru rv=>by
 subst k
 cases ru
 cases rv
 obtain ⟨ua,ra,ta,_⟩:=I.list ha
 obtain ⟨ub,rb,tb,_⟩:=I.list hb
 have la:=ra.length
 have lb:=rb.length
 refine EqS.lists ta.isList tb.isList (by rw [List.size_toArray,List.size_toArray]; omega) (by omega) fun j h1 h2=>?_
 rw [List.size_toArray] at h1 h2
 obtain ⟨x,ex,rx⟩:=vals_at ra h1
 obtain ⟨y,ey,ry⟩:=vals_at rb h2
 exact (h j x y ex ey X pins σ s A.in1 rfl I (by show A.units + 1 + n < cLine; omega) _ _ rx ry).eq
def Vals2 (K:PySem.W.Frag) (H:Hp) (kb ka:List (Key × V)):Prop:=∀ kv ∈ ka,∃ y d e,valV kb kv.1 = some y /\ Dt K H d kv.2 /\ Dt K H e y /\ SeqAt.shaped d = true /\ SeqAt.shaped e = true /\ PyData.eqv d e = true
theorem keq_all {X:Cx} {pins:List (Addr × Obj)} {σ:St} {H:Hp} {s:Shared} {A:Around} (I:Inv X pins σ H s) (hu:A.in1.units + 64 < cLine) {kb:List (Key × V)} {ub:List (Key × Value)} (rb:KV kb ub) :
  ∀ {ka:List (Key × V)} {ua:List (Key × Value)},KV ka ua -> Vals2 X.K H kb ka -> PySem.W.KeqHits A.in1 s ub ua true
 | [],_,.nil,_=>.nil
 | p :: ka,q :: ua,.cons r1 r2,h=>by
  obtain ⟨y,d,e,hy,d1,d2,s1,s2,qe⟩:=h p (List.mem_cons_self ..)
  have e1:p.1 = q.1:=r1.1
  have rel:=rb.val p.1
  rw [hy] at rel
  cases ev:valueAt ub p.1 with
  | none=>rw [ev] at rel; exact rel.elim
  | some v =>
   rw [ev] at rel
   obtain ⟨as,q1⟩:=Dt.reads I _ _ _ d1 r1.2
   obtain ⟨bs,q2⟩:=Dt.reads I _ _ _ d2 rel
   have kk:=PySem.W.keq_at (A:=A) q1 q2 s1 s2 hu
   rw [qe] at kk
   exact PySem.W.KeqHits.hit (k:=q.1) (v:=q.2) (e1 ▸ ev) kk (keq_all I hu rb r2 fun kv hkv=>h kv (List.mem_cons_of_mem _ hkv))
theorem EqT.dic {K:PySem.W.Frag} {H:Hp} {a b:Addr} {ka kb:List (Key × V)} (ha:Rd H a (.dK ka)) (hb:Rd H b (.dK kb)) (hl:ka.length = kb.length) (h:Vals2 K H kb ka):EqT K 65 H (.ref a) (.ref b):=fun X pins σ s A k I hu u v ru rv=>by
 subst k
 cases ru
 cases rv
 obtain ⟨ua,ea,ra,da,sa,_⟩:=rd_at I ha
 obtain ⟨ub,eb,rb,db,sb,_⟩:=rd_at I hb
 have la:ka.length = ua.length:=Paired.length ra
 have lb:kb.length = ub.length:=Paired.length rb
 have hits:=keq_all (A:=A) I (by show A.units + 1 + 64 < cLine; omega) rb ra h
 have e1:(ua.length == ub.length && true) = true:=by rw [show ua.length = ub.length by omega,beq_self_eq_true]; rfl
 exact .of (fun E Q q=>PySem.W.keq_eq sa sb da.dictOf db.dictOf (by omega) (fun _=>hits) (by rw [e1]; exact q)) fun E Q q=>PySem.W.keq_ne sa sb da.dictOf db.dictOf (by omega) (fun _=>hits) (by rw [e1]; exact q)
section
variable {X:Cx}
def rEqT (K:PySem.W.Frag) (n:Nat):R2:=fun x y H Q=>EqT K n H x y /\ Q (.bl true) H
def rNeT (K:PySem.W.Frag) (n:Nat):R2:=fun x y H Q=>EqT K n H x y /\ Q (.bl false) H
theorem op_eqT (hu:X.A.units + 128 < cLine):OpR X (compareOp .Eq) (rEqT X.K 100):=by
 intro pins s σ H x y v u Q I rx ry h
 exact (h.1 X pins σ s X.A rfl I (by omega) v u rx ry).rc _ _ ⟨.bl true,H,I,rfl,h.2⟩
theorem op_neT (hu:X.A.units + 128 < cLine):OpR X (compareOp .NotEq) (rNeT X.K 100):=by
 intro pins s σ H x y v u Q I rx ry h
 exact (h.1 X pins σ s X.A rfl I (by omega) v u rx ry).ne _ _ ⟨.bl false,H,I,rfl,h.2⟩
end
end L2
namespace AxS
open PySem PySem.Spec PyProof.Rows
section
variable {prog:Program} {w:World} {A:Around} {E:Value -> Shared -> Prop} {s:Shared}
theorem sub_dict_set:isSubtype (.type "dict") (.type "set") = pure false:=by rw [isSubtype_type]; kernel_rfl
theorem sub_dict_frozenset:isSubtype (.type "dict") (.type "frozenset") = pure false:=by rw [isSubtype_type]; kernel_rfl
theorem no_set {d:Addr} {Q:Bool -> Shared -> Prop} (hT:s.TypeIs (.ref d) "dict") (h:Q false s):wpAny (model prog w) A (Builtin.Frozenset.isAnySet (.ref d)) Q E s:=by
 unfold Builtin.Frozenset.isAnySet
 show wpAny _ _ (isInstance (.ref d) (.type "set") >>= _) _ _ _
 refine wpAny_bind (wpAny_isInstance hT sub_dict_set ?_)
 show wpAny _ _ (isInstance (.ref d) (.type "frozenset")) _ _ _
 exact wpAny_isInstance hT sub_dict_frozenset h
theorem from_dict {P d:Addr} {vs:List (L2.Key × Value)} {ks:List Str} {nm:String} {Q:Unit -> Shared -> Prop} (hP:s.heap.get? P = some (z0 w)) (da:s.heap.DictOf (L2.mixKind prog w) d vs) (hS:(d == sysModules) = false) (ne:P ≠ d) (hn:vs.length * 2 < 256) (ek:vs.map (·.1) = ks.map Sum.inr)
  (h:∀ h',Heap.SameBut P s.heap h' -> TxSet prog w h' P ks -> Q () { s with heap:=h' }):wpAny (model prog w) A (Builtin.Frozenset.updateFrom nm P (.ref d)) Q E s:=by
 obtain ⟨o,es,ep,ho,hx,hd,hk,hp,hnd⟩:=id da
 have hlen:vs.length = es.size:=by rw [← hp.length]; exact Array.length_toList.symm
 have hkl:ks.length = vs.length:=by have:=congrArg List.length ek; rw [List.length_map,List.length_map] at this; exact this.symm
 have nd:ks.Nodup:=by
  have z:(ks.map (Sum.inr (α:=Int))).Nodup:=by rw [← ek]; exact hnd
  exact (List.Pairwise.of_map _ (fun a b (q:Sum.inr a ≠ Sum.inr b) e=>q (by rw [e])) z)
 unfold Builtin.Frozenset.updateFrom
 refine wpAny_bind (no_set da.typeIs ?_)
 simp only [Bool.false_eq_true,↓reduceIte]
 refine wpAny_bind (wpAny_typeOf da.typeIs ?_)
 rw [if_pos (by decide)]
 refine wpAny_bind (wpAny_rule ?_)
 refine wpAny_bind (wpAny_pure ?_)
 rw [if_neg (show ¬ (d == sysModules) = true by rw [hS]; exact Bool.false_ne_true)]
 refine wpAny_bind (wpAny_dictEpoch ho hd ?_)
 refine wpAny_bind (wpAny_dictEntries ho hd ?_)
 refine wpAny_bind (room_fresh hP (by omega) fun h1 o' ep' t' sb1 ho' hx' hd' hf' hle hpl hdu F hn'=>?_)
 have tx0:TxSet prog w h1 P (ks.take 0):=⟨o',#[],ep',t',ho',hx',hd',fun e he=>by simp at he,by rw [List.take_zero]; exact List.Perm.refl _,by decide,hf',hle,fun z=>absurd rfl z⟩
 have hod:∀ {h2:Heap},Heap.SameBut P s.heap h2 -> h2.get? d = some o:=fun {h2} sb=>by rw [sb.2 d ne.symm]; exact ho
 refine wpAny_bind (wpAny_dictEntries (s:={ s with heap:=h1 }) (hod sb1) hd ?_)
 refine wpAny_bind ?_
 rw [Std.Legacy.Range.forIn_eq_forIn_range']
 simp only [Std.Legacy.Range.size,Nat.sub_zero,Nat.add_sub_cancel,Nat.div_one]
 refine wpAny_forIn_list _ (fun rest _ s'=>∃ (h2:Heap) (i:Nat),s' = { s with heap:=h2 } /\ rest = List.range' i (es.size - i) /\ i <= es.size /\ Heap.SameBut P s.heap h2 /\ TxSet prog w h2 P (ks.take i)) _ ?_ ?_ _ _ ⟨h1,0,rfl,by simp,Nat.zero_le _,sb1,tx0⟩
 ·rintro x rest _ s' ⟨h2,i,rfl,hr,hi,sb2,tx⟩
  have hlt:i < es.size:=by
   rcases Nat.lt_or_ge i es.size with z | z
   ·exact z
   ·rw [Nat.sub_eq_zero_of_le z] at hr
    cases hr
  have es1:es.size - i = (es.size - (i + 1)) + 1:=by omega
  rw [es1,List.range'_succ] at hr
  injection hr with r1 r2
  subst r1
  refine wpAny_bind (wpAny_dictEntries (s:={ s with heap:=h2 }) (hod sb2) hd ?_)
  rw [Array.getElem?_eq_getElem hlt]
  have hv:x < vs.length:=by omega
  have hkx:x < ks.length:=by omega
  obtain ⟨hkey,_⟩:=hp.get? (i:=x) (e:=es[x]) (k:=vs[x].1) (v:=vs[x].2) (by rw [Array.getElem?_toList]; exact Array.getElem?_eq_getElem hlt) (List.getElem?_eq_getElem hv)
  obtain ⟨k',hk',hh⟩:=hk es[x] (Array.getElem_mem hlt)
  have ekk:k' = vs[x].1:=(L2.mixKind prog w).inj _ _ _ hk' hkey
  have ex:vs[x].1 = .inr ks[x]:=by
   have:=congrArg (fun l=>l[x]?) ek
   rw [List.getElem?_map,List.getElem?_map,List.getElem?_eq_getElem hv,List.getElem?_eq_getElem hkx] at this
   exact Option.some.inj this
  rw [ekk,ex] at hh
  rw [ex] at hkey
  obtain ⟨tk,et⟩:=Value.isStrOf_shape (show Value.isStrOf ks[x] es[x].key = true from hkey)
  have hh:es[x].hash = hashStr w ks[x]:=hh
  dsimp only
  rw [et,hh]
  have tl:(ks.take x).length = x:=by rw [List.length_take]; omega
  have sbn:scanBound = 4096:=rfl
  refine wpAny_bind (wpAny_holding (tx_add (s:={ s with heap:=h2 }) tx (by omega) fun h3 r sb3 tx3=>?_))
  have e3:=sb2.trans sb3
  refine wpAny_bind (wpAny_dictEpoch (s:={ s with heap:=h3 }) (hod e3) hd ?_)
  refine wpAny_ite_split (fun z=>absurd z (by simp)) (fun _=>?_)
  refine wpAny_pure ⟨h3,x + 1,rfl,r2,hlt,e3,?_⟩
  have nin:ks[x] ∉ ks.take x:=fun z=>by
   obtain ⟨j,hj,ej⟩:=List.mem_iff_getElem.mp z
   rw [List.getElem_take] at ej
   have:=(List.getElem_inj nd).mp ej
   rw [tl] at hj
   omega
  rw [if_neg nin] at tx3
  rw [List.take_add_one,List.getElem?_eq_getElem hkx]
  exact tx3
 ·rintro _ s' ⟨h2,i,rfl,hr,hi,sb2,tx⟩
  have hin:i = es.size:=by
   rcases Nat.lt_or_ge i es.size with z | z
   ·rw [show es.size - i = (es.size - (i + 1)) + 1 by omega,List.range'_succ] at hr
    cases hr
   ·omega
  rw [hin,List.take_of_length_le (by omega)] at tx
  exact wpAny_pure (h h2 sb2 tx)
set_option maxHeartbeats 6400000 in
theorem call_set_dict {d:Addr} {vs:List (L2.Key × Value)} {ks:List Str} {Q:Value -> Shared -> Prop} (da:s.heap.DictOf (L2.mixKind prog w) d vs) (hSm:(d == sysModules) = false) (hn:vs.length * 2 < 256) (ek:vs.map (·.1) = ks.map Sum.inr)
  (h:∀ (h':Heap) (tk:Nat),TxSet prog w h' s.heap.objs.size ks -> (∀ b o,s.heap.get? b = some o -> h'.get? b = some o) -> Q (.ref s.heap.objs.size) { s with heap:=h',toks:=tk }):wpAny (model prog w) A (call (.type "set") [.ref d]) Q E s:=by
 obtain ⟨c,tl,hmro⟩:=F.called_set.mro
 have hmade:=F.called_set.made
 have hsub:=F.called_set.sub
 have h1:=F.called_set.notType
 have h2:=F.called_set.canCreate
 have hct:=F.typeCall_set_1 (.ref d)
 refine wpAny_call (codeAny_of_tree ?_)
 show wpAny _ _ (callAny (.type "set") _) _ _ _
 refine wpAny_pure ⟨Code.quiet_builtin _ (by decide +kernel),codeAny_builtin F.entry_type_call ?_⟩
 rw [Around.under_plain (weight_type_call_type "set" [.ref d] []) rfl]
 repeat (any_goals (first | assumption | wp_step))
 refine codeAny_mono (set_new (.ref d) (E:=E) (Q₁:=fun obj s₁=>obj = .ref s.heap.objs.size /\ s₁ = { s with heap:=s.heap.push (z0 w) }) ⟨rfl,rfl⟩) fun r s₁ hr=>?_
 cases r with
 | error e=>exact hr
 | ok fl =>
  cases fl with
  | ret obj =>
   obtain ⟨rfl,rfl⟩:=hr
   have hS:(s.heap.push (z0 w)).get? s.heap.objs.size = some (z0 w):=Heap.get?_push_size _ rfl
   have hT:Shared.TypeIs { s with heap:=s.heap.push (z0 w) } (.ref s.heap.objs.size) "set":=⟨_,hS,rfl⟩
   have hli:=F.called_set.init.lookup
   have hbi:=F.called_set.init.bind (.ref s.heap.objs.size)
   repeat (any_goals (first | assumption | wp_step))
   refine codeAny_mono (codeAny_call_builtin (R:=wants (fun r s₂=>r = .none /\ ∃ h' tk,s₂ = { s with heap:=h',toks:=tk } /\ TxSet prog w h' s.heap.objs.size ks /\
     (∀ b o,s.heap.get? b = some o -> h'.get? b = some o)) E) F.called_set.init.plain F.entry_set_init (check_set_init_1 hT ?_)) fun r₂ s₂ hr₂=>?_
   ·have dlt:d < s.heap.objs.size:=by obtain ⟨_,_,_,e,_⟩:=da; exact Heap.lt_size e
    have da1:(s.heap.push (z0 w)).DictOf (L2.mixKind prog w) d vs:=da.push _
    have fd:=from_dict (A:=A.in1.in1) (E:=fun e s'=>(wants (fun r s₂=>r = .none /\ ∃ h' tk,s₂ = { s with heap:=h',toks:=tk } /\ TxSet prog w h' s.heap.objs.size ks /\ (∀ b o,s.heap.get? b = some o -> h'.get? b = some o)) E) (.error e) s') (s:={ s with heap:=s.heap.push (z0 w) }) (nm:="set.__init__") (Q:=fun _ s₂=>∃ h',s₂ = { s with heap:=h' } /\ TxSet prog w h' s.heap.objs.size ks /\ (∀ b o,s.heap.get? b = some o -> h'.get? b = some o)) hS da1 hSm (Nat.ne_of_gt dlt) hn ek (fun h' sb tx=>⟨h',rfl,tx,fun b o e=>(sb.2 b (Nat.ne_of_lt (Heap.lt_size e))).trans (Heap.get?_push_of_some _ e)⟩)
    unfold z0 at hS
    unfold Builtin.«set.__init__» noKeywords
    generalize hU:Builtin.Frozenset.updateFrom = U at fd ⊢
    unfold z0 at fd ⊢
    wp_walk
    exact wpAny_mono fd (fun _ s2 ⟨h',e,tx,kp⟩=>by subst e; exact wpAny_pure ⟨rfl,h',s.toks,rfl,tx,kp⟩) fun _ _ z=>z
   ·cases r₂ with
    | error e=>exact hr₂
    | ok fl₂ =>
     cases fl₂ with
     | ret r =>
      obtain ⟨rfl,h',tk,rfl,hS',hk'⟩:=hr₂
      repeat (any_goals (first | assumption | wp_step))
      exact h _ _ hS' hk'
     | _=>exact hr₂.elim
  | _=>exact hr.elim
end
end AxS
namespace L2
open PySem PySem.Spec PyProof.Rows AxS
section
variable {X:Cx}
def rSetR (P:Program) (w:World):List V -> Hp -> VK -> Prop:=fun xs H Q=>∃ a kvs,xs = [.ref a] /\ Rd H a (.dK kvs) /\ AllS kvs /\ kvs.length * 2 < 256 /\ ∀ p,H p = none -> Q (.ref p) (upd H p (TxHO P w p (kvs.map keyS)))
theorem call_setR:CallR X (.type "set") (rSetR X.prog X.w):=by
 intro pins s σ H xs us Q I r h
 obtain ⟨a,kvs,rfl,ha,al,hn,q⟩:=h
 obtain ⟨u,rfl,ru⟩:=vals1 r
 cases ru
 obtain ⟨vs,ep,rel,da,hS,hz⟩:=rd_at I ha
 have hlen:kvs.length = vs.length:=Paired.length rel
 have ek:vs.map (·.1) = (kvs.map keyS).map Sum.inr:=by
  clear q ha hz hn da hlen
  unfold KV at rel
  induction rel with
  | nil=>rfl
  | @cons p q ps qs r _ ih =>
   rw [List.map_cons,List.map_cons,List.map_cons,ih fun kv hkv=>al kv (List.mem_cons_of_mem _ hkv),← al p (List.mem_cons_self ..)]
   have e:p.1 = q.1:=r.1
   rw [e]
 exact call_set_dict da.dictOf hS (by omega) ek fun h' tk tx kp=>⟨.ref s.heap.objs.size,_,I.laid (o:=TxHO X.prog X.w s.heap.objs.size (kvs.map keyS)) (t':=tk) kp (Nat.le_refl _) (txho_ok tx),rfl,q _ (I.hok.fresh (Nat.le_refl _))⟩
end
end L2
namespace AxS
open PySem PySem.Spec PyProof.Rows
section
variable {prog:Program} {w:World} {A:Around} {E:Value -> Shared -> Prop} {s:Shared}
theorem xG:plainId "dict.update.loop" = true:=by decide +kernel
theorem entry_pairs:entryFor table "dict.update.loop" = some Builtin.«dict.update.loop»:=entryFor_of_fast (by kernel_rfl)
theorem list_no_keys:typeLookup (.type "list") "keys" = pure none:=by rw [typeLookup_type,builtinLookup_eq_fast]; kernel_rfl
theorem no_keys {a:Addr} {xs:Array Value} {n:Nat} {sl:Array (Option Value)} {Q:Option Value -> Shared -> Prop} (hx:s.heap.get? a = some { cls:=.type "list",dict:=none,data:=.seq xs n,slots:=sl }) (hA:A.handled = none)
  (h:∀ h' tk,(∀ b o,s.heap.get? b = some o -> h'.get? b = some o) -> Q none { s with heap:=h',toks:=tk }):wpAny (model prog w) A (getAttr? (.ref a) "keys") Q E s:=by
 obtain ⟨hp,g,d,tk,os⟩:=s
 have hT:∀ tk',(⟨hp,g,d,tk',os⟩:Shared).TypeIs (.ref a) "list":=fun _=>⟨_,hx,rfl⟩
 have f1:=sub_AttributeError
 have f3:=F.slot_list_getattribute.lookup
 have f4:=F.slot_list_getattribute.bind (.ref a)
 have f5:=am_list_getattr_none
 unfold getAttr? getAttrBy? getAttrBy
 repeat (any_goals (first | assumption | exact hT _ | ((with_reducible show wpAny _ _ (call (Value.builtin "list.__getattribute__") _ _) _ _ _); refine call_meets F.slot_list_getattribute (hT _) am_entry_list_getattribute (F.args_list_getattribute_2 _ _) (meets_getattribute_miss_list a xs n sl "keys" _ list_no_keys (by decide +kernel)) ⟨hx,hA,fun h' tk' e hx'=>?_⟩) | wp_step))
 obtain ⟨t',u',he⟩:=hx'.there
 show wpAny _ _ (getattributeRaised _ _ _ _ _ _ _) _ _ _
 unfold getattributeRaised
 repeat (any_goals (first | assumption | wp_step))
 exact h h' tk' hx'.of.keeps
def PairsAt (prog:Program) (w:World) (h:Heap) (items:Array Value) (kvs:List (L2.Key × Value)):Prop:=kvs.length = items.size /\ ∀ (i:Nat) (v:Value),items[i]? = some v -> ∃ (T:Addr) (k:L2.Key) (key x:Value),v = .ref T /\ h.IsTuple T #[key,x] /\ (L2.mixKind prog w).is k key = true /\ kvs[i]? = some (k,x)
theorem PairsAt.at {h h':Heap} {items:Array Value} {kvs:List (L2.Key × Value)} (p:PairsAt prog w h items kvs) (e:∀ T o,(∃ xs,h.IsTuple T xs) -> h.get? T = some o -> h'.get? T = some o):PairsAt prog w h' items kvs:=by
 refine ⟨p.1,fun i v hv=>?_⟩
 obtain ⟨T,k,key,x,e0,hT,hk,hx⟩:=p.2 i v hv
 obtain ⟨o,ho,r⟩:=id hT
 exact ⟨T,k,key,x,e0,⟨o,e T o ⟨_,hT⟩ ho,r⟩,hk,hx⟩
theorem pairs_loop {d I l:Addr} {items:Array Value} {kvs:List (L2.Key × Value)} {R:Result -> Shared -> Prop} {res:Value} (hh:A.in1.handled = none) (hne:l ≠ I) (dI:d ≠ I) (dl:d ≠ l) (hz:kvs.length <= sizeLine) :
  ∀ (m i:Nat) (s:Shared),items.size - i = m -> i <= items.size -> (s.heap.IsListIter I l i /\ s.heap.IsList l items) -> s.heap.DictOf (L2.mixKind prog w) d (merged [] (kvs.take i)) -> PairsAt prog w s.heap items kvs ->
   (∀ h' tk,h'.DictOf (L2.mixKind prog w) d (merged [] kvs) -> (∀ b o,b ≠ d -> b ≠ I -> s.heap.get? b = some o -> h'.get? b = some o) -> R (.ok (.ret res)) { s with heap:=h',toks:=tk }) ->
   codeAny (model prog w) A (.builtin "dict.update.loop" ⟨[.ref d,.ref I,rawInt i,res],[]⟩) R s:=by
 have W:=Walks.list (prog:=prog) (w:=w) hh I l hne items
 intro m
 induction m with
 | zero =>
  intro i s hm hi st hD hP k
  have ei:i = items.size:=by omega
  subst ei
  refine codeAny_builtin entry_pairs ?_
  rw [Around.under_plainId xG _]
  show wpAny _ A.in1 (pyNext (.ref I) >>= _) _ _ s
  refine wpAny_bind (W.done s _ _ st fun h' tk kp=>?_)
  rw [List.take_of_length_le (by rw [hP.1]; exact Nat.le_refl _)] at hD
  refine wpAny_bind (wpAny_pure (wpAny_pure (k h' tk (hD.at fun o e=>kp d o (by simp [dI]) e) fun b o b1 b2 e=>kp b o (by simp [b2]) e)))
 | succ m ih =>
  intro i s hm hi st hD hP k
  have hlt:i < items.size:=by omega
  refine codeAny_builtin entry_pairs ?_
  rw [Around.under_plainId xG _]
  show wpAny _ A.in1 (pyNext (.ref I) >>= _) _ _ s
  refine wpAny_bind (W.item i s _ _ hlt st fun v h' tk hv st' kp=>?_)
  obtain ⟨T,k1,key,x,rfl,hT,hk,hx⟩:=hP.2 i v hv
  have TI:T ≠ I:=fun z=>by
   obtain ⟨o,ho,hc,_⟩:=hT
   obtain ⟨o2,ho2,hc2,_⟩:=st.1
   rw [z,ho2] at ho
   cases ho
   rw [hc2] at hc
   exact absurd hc (by decide)
  have Td:T ≠ d:=fun z=>by
   obtain ⟨o,ho,hc,_⟩:=hT
   obtain ⟨o2,_,_,ho2,hc2,_⟩:=hD
   rw [z,ho2] at ho
   cases ho
   rw [hc2.1] at hc
   exact absurd hc (by decide)
  have hD1:h'.DictOf (L2.mixKind prog w) d (merged [] (kvs.take i)):=hD.at fun o e=>kp d o (by simp [dI]) e
  obtain ⟨⟨oc,od,oda,osl⟩,ho,hc,n1,hdt⟩:=id hT
  have ho1:h'.get? T = some ⟨oc,od,oda,osl⟩:=kp T _ (by simp [TI]) ho
  simp only at hc hdt
  subst hc hdt
  dsimp only
  refine wpAny_bind (wpAny_holding (wpAny_bind (wpAny_tryCatch ?_)))
  have ty:Shared.TypeIs { s with heap:=h',toks:=tk } (.ref T) "tuple":=⟨_,ho1,rfl⟩
  unfold Builtin.Dict.pairItems
  refine wpAny_bind (wpAny_typeOf ty ?_)
  rw [if_pos (by decide)]
  refine wpAny_bind ?_
  unfold seqItems?
  dsimp only
  refine wpAny_bind (wpAny_load (s:={ s with heap:=h',toks:=tk }) ho1 (wpAny_pure (wpAny_pure ?_)))
  dsimp only [Option.getD]
  refine wpAny_holding ?_
  unfold dictSet
  refine wpAny_holding (wpAny_bind ((L2.mixKind prog w).pyHash hk ?_))
  have ml:(merged ([]:List (L2.Key × Value)) (kvs.take i)).length <= sizeLine:=by
   have:=merged_length_le ([]:List (L2.Key × Value)) (kvs.take i)
   rw [List.length_take] at this
   simp at this
   omega
  refine wpAny_dictSetHashed_pairs (hsz:=ml) hk hD1 fun h2 hD2 sb2=>?_
  rw [← merged_take_succ [] kvs i (k1,x) hx] at hD2
  refine wpAny_pure ⟨plainId_quiet xG _,?_⟩
  rw [show ((i:Nat):Int) + 1 = ((i + 1:Nat):Int) by push_cast; rfl]
  have kp2:∀ b o,b ≠ d -> b ≠ I -> s.heap.get? b = some o -> h2.get? b = some o:=fun b o b1 b2 e=>(sb2.2 b b1).trans (kp b o (by simp [b2]) e)
  refine ih (i + 1) _ (by omega) hlt ⟨?_,?_⟩ hD2 (hP.at fun T' o ⟨xs,hT'⟩ e=>kp2 T' o (fun z=>?_) (fun z=>?_) e) fun h3 tk3 hD3 kp3=>k h3 tk3 hD3 fun b o b1 b2 e=>kp3 b o b1 b2 (kp2 b o b1 b2 e)
  ·exact st'.1.at fun o e=>(sb2.2 I dI.symm).trans e
  ·exact st'.2.at fun o e=>(sb2.2 l dl.symm).trans e
  ·obtain ⟨o1,ho1,hc1,_⟩:=hT'
   obtain ⟨o2,_,_,ho2,hc2,_⟩:=hD
   rw [z,ho2] at ho1
   cases ho1
   rw [hc2.1] at hc1
   exact absurd hc1 (by decide)
  ·obtain ⟨o1,ho1,hc1,_⟩:=hT'
   obtain ⟨o2,ho2,hc2,_⟩:=st.1
   rw [z,ho2] at ho1
   cases ho1
   rw [hc2] at hc1
   exact absurd hc1 (by decide)
theorem call_dict_pairs {l:Addr} {items:Array Value} {n:Nat} {kvs:List (L2.Key × Value)} {Q:Value -> Shared -> Prop} (hh:A.handled = none) (hl:s.heap.get? l = some { cls:=.type "list",data:=.seq items n }) (hP:PairsAt prog w s.heap items kvs) (hz:kvs.length <= sizeLine)
  (h:∀ h' tk,h'.DictOf (L2.mixKind prog w) s.heap.objs.size (merged [] kvs) -> (∀ b o,s.heap.get? b = some o -> h'.get? b = some o) -> Q (.ref s.heap.objs.size) { s with heap:=h',toks:=tk }):wpAny (model prog w) A (call (.type "dict") [.ref l]) Q E s:=by
 refine callType_codes (Q₁:=fun obj s₁=>obj = .ref s.heap.objs.size /\ s₁ = { s with heap:=s.heap.push { cls:=.type "dict",data:=.dict #[] } }) F.kt_called_dict (F.kt_typeCall_dict_1 _) F.entry_dict_init (kt_code_dict_new _ ⟨rfl,rfl⟩) ?_
 rintro obj s₁ ⟨rfl,rfl⟩
 have hnew:(s.heap.push { cls:=.type "dict",data:=.dict #[] }).DictOf (L2.mixKind prog w) s.heap.objs.size []:=Heap.DictOf.new s.heap
 have llt:l < s.heap.objs.size:=Heap.lt_size hl
 have hl1:(s.heap.push { cls:=.type "dict",data:=.dict #[] }).get? l = some { cls:=.type "list",data:=.seq items n }:=Heap.get?_push_of_some _ hl
 refine ⟨hnew.typeIs,F.args_dict_init_2 _ _,?_⟩
 unfold Builtin.«dict.__init__»
 refine wpAny_bind ?_
 unfold Builtin.Dict.selfAndRest
 refine wpAny_bind (wpAny_notOrdered_dict hnew.typeIs ?_)
 show wpAny _ _ (pure (s.heap.objs.size,[Value.ref l])) _ _ _
 refine wpAny_pure ?_
 show wpAny _ _ (Builtin.Dict.updateFrom "dict.__init__" s.heap.objs.size (.ref l) [] .none) _ _ _
 unfold Builtin.Dict.updateFrom
 have tyl:Shared.TypeIs { s with heap:=s.heap.push { cls:=.type "dict",data:=.dict #[] } } (.ref l) "list":=⟨_,hl1,rfl⟩
 refine wpAny_bind (wpAny_typeOf tyl ?_)
 rw [if_pos (by decide)]
 refine wpAny_bind (no_keys (s:={ s with heap:=s.heap.push { cls:=.type "dict",data:=.dict #[] } }) hl1 (by simp [hh]) fun h2 tk2 kp2=>?_)
 simp only [Option.isNone_none,↓reduceIte]
 refine wpAny_bind (wpAny_rule ?_)
 have hl2:h2.IsList l items:=⟨_,kp2 l _ hl1,rfl,n,rfl⟩
 have nlt:s.heap.objs.size < h2.objs.size:=by
  obtain ⟨o,_,_,e,_⟩:=hnew
  exact Heap.lt_size (kp2 _ _ e)
 refine wpAny_bind (wpAny_pyIter_list (s:={ s with heap:=h2,toks:=tk2 }) hl2 ?_)
 refine wpAny_pure ⟨plainId_quiet xG _,?_⟩
 have kp3:∀ b o,s.heap.get? b = some o -> (h2.push { cls:=.type "list_iterator",data:=.fields #[.ref l,.int 0 0] }).get? b = some o:=fun b o e=>Heap.get?_push_of_some _ (kp2 b o (Heap.get?_push_of_some _ e))
 refine pairs_loop (A:=A.in1) (d:=s.heap.objs.size) (I:=h2.objs.size) (l:=l) (items:=items) (kvs:=kvs) (by simp [hh]) (Nat.ne_of_lt (Nat.lt_trans llt nlt)) (Nat.ne_of_lt nlt) (Nat.ne_of_gt llt) hz (items.size - 0) 0 _ (by omega) (Nat.zero_le _) ⟨⟨_,Heap.get?_push_size _ rfl,rfl,rfl⟩,hl2.push _⟩ ?_ (hP.at fun T o _ e=>kp3 T o e) fun h3 tk3 hD3 kp4=>?_
 ·rw [List.take_zero]
  exact (hnew.at fun o e=>kp2 _ o e).push _
 ·refine ⟨rfl,h h3 tk3 hD3 fun b o e=>kp4 b o (Nat.ne_of_lt (Heap.lt_size e)) (Nat.ne_of_lt (Nat.lt_trans (Heap.lt_size e) nlt)) (kp3 b o e)⟩
end
end AxS
namespace L2
open PySem PySem.Spec PyProof.Rows AxS
section
variable {X:Cx} {K:PySem.W.Frag}
def jC (K:PySem.W.Frag) (H:Hp) (xs:List V) (kvs:List (Key × V)):Prop:=xs.length = kvs.length /\ ∀ (i:Nat) (x:V),xs[i]? = some x -> ∃ (T:Addr) (k:Key) (v:V),x = .ref T /\ SqT K H T [kV k,v] /\ kvs[i]? = some (k,v)
def rDictP (K:PySem.W.Frag):List V -> Hp -> VK -> Prop:=fun xs H Q=>∃ (a:Addr) (vs:List V) (kvs:List (Key × V)),xs = [.ref a] /\ H a = some (.lst vs) /\ jC K H vs kvs /\ ∀ l,H l = none -> Q (.ref l) (upd H l (.dK (putAll [] kvs)))
theorem pairs_vals {pins:List (Addr × Obj)} {σ:St} {H:Hp} {s:Shared} (I:Inv X pins σ H s):∀ {vs:List V} {its:List Value} {kvs:List (Key × V)},Vals vs its -> jC X.K H vs kvs -> ∃ um:List (Key × Value),KV kvs um /\ um.length = its.length /\ ∀ (i:Nat) (v:Value),its[i]? = some v -> ∃ (T:Addr) (k:Key) (key x:Value),v = .ref T /\ s.heap.IsTuple T #[key,x] /\ (mixKind X.prog X.w).is k key = true /\ um[i]? = some (k,x)
 | [],_,kvs,.nil,p=>by
  have:kvs = []:=List.eq_nil_of_length_eq_zero p.1.symm
  subst this
  exact ⟨[],.nil,rfl,fun i v z=>(nomatch z)⟩
 | x :: vs,u :: its,kvs,.cons r1 r2,p=>by
  obtain ⟨T,k,y,rfl,hT,hk⟩:=p.2 0 x rfl
  cases kvs with
  | nil=>cases hk
  | cons kv kvs =>
   have ek:kv = (k,y):=Option.some.inj hk
   subst ek
   obtain ⟨um,rel,len,all⟩:=pairs_vals I (kvs:=kvs) r2 ⟨by have:=p.1; simpa using this,fun i z hz=>by
    obtain ⟨T',k',y',e1,e2,e3⟩:=p.2 (i + 1) z (by simpa using hz)
    exact ⟨T',k',y',e1,e2,by simpa using e3⟩⟩
   cases r1
   obtain ⟨us,rv,ht,_⟩:=I.tuple hT
   cases rv with
   | cons q1 rv =>
    cases rv with
    | cons q2 rv =>
     cases rv
     rename_i key val
     refine ⟨(k,val) :: um,.cons ⟨rfl,q2⟩ rel,by rw [List.length_cons,List.length_cons,len],fun i v hv=>?_⟩
     cases i with
     | zero =>
      cases hv
      exact ⟨T,k,key,val,rfl,ht,kV_is q1,rfl⟩
     | succ i=>exact all i v (by simpa using hv)
theorem call_dictP (hc:X.calm = true) (hK:X.K = K:=by rfl):CallR X (.type "dict") (rDictP K):=by
 subst hK
 intro pins s σ H xs us Q I r h
 obtain ⟨a,vs,kvs,rfl,ha,pv,q⟩:=h
 obtain ⟨u,rfl,ru⟩:=vals1 r
 cases ru
 obtain ⟨z,its,n,rv,hl,e⟩:=I.lstM ha
 obtain ⟨um,rel,len,all⟩:=pairs_vals I rv pv
 have vl:=rv.length
 have kl:kvs.length = um.length:=Paired.length rel
 refine call_dict_pairs (I.ok.hd hc) e ⟨by rw [List.size_toArray]; exact len,fun i v hv=>all i v (by simpa using hv)⟩ (by omega) fun h' tk hD kp=>?_
 have zl:=xK kvs []
 exact ⟨.ref s.heap.objs.size,_,I.laid (o:=.dK (putAll [] kvs)) (t':=tk) kp (Nat.le_refl _) (dk_new (by rw [List.length_nil] at zl; omega) (beq_eq_false_iff_ne.mpr (Ne.symm (Nat.ne_of_lt I.big))) (KV.putAll (kvs:=[]) (vs:=[]) .nil rel) hD),rfl,q _ (I.hok.fresh (Nat.le_refl _))⟩
end
end L2
namespace L2
open PySem PySem.Spec PyProof.Rows
section
variable {X:Cx}
theorem qJ:∀ {l:List (Str × Tok)} {ys:List Str},l.map (·.1) = ys -> Vals (ys.map V.str) (strValues l)
 | [],_,h=>by rw [← h]; exact .nil
 | p :: l,_,h=>by
  rw [← h]
  exact .cons ⟨p.2,rfl⟩ (qJ rfl)
def rSplit:V -> List V -> Hp -> VK -> Prop:=fun x vs H Q=>∃ (a:Str) (c:Nat),x = .str a /\ vs = [.str ⟨#[c]⟩] /\ a.length <= 100000 /\ ∀ l,H l = none -> Q (.ref l) (upd H l (.lst ((Txt.split a ⟨#[c]⟩).map V.str)))
theorem mt_split:MtR X "str.split" rSplit:=by
 intro pins s σ H x xs v us Q I rx rs h
 obtain ⟨a,c,rfl,rfl,ha,q⟩:=h
 obtain ⟨t,rfl⟩:=rx
 obtain ⟨u,rfl,t',rfl⟩:=vals1 rs
 have hz:a.length <= sizeLine:=An.le_line (by omega)
 have hy:((⟨#[c]⟩:Str).length == 0) = false:=rfl
 have hn:(Builtin.Str.partsBetween a (Builtin.Str.occurrences a ⟨#[c]⟩ 0 a.length (a.length + 1)) (⟨#[c]⟩:Str).length).length <= 200000:=by
  unfold Builtin.Str.partsBetween
  have:=StrLaws.occ_length_le a ⟨#[c]⟩ 0 a.length (a.length + 1)
  simp only [List.length_map,List.length_zip,List.length_cons,List.length_append,List.length_nil]
  omega
 cases h1:(decide (a.length < (⟨#[c]⟩:Str).length) || decide (Builtin.Str.strKind a < Builtin.Str.strKind ⟨#[c]⟩))
 ·cases hf:(Builtin.Str.occurrences a ⟨#[c]⟩ 0 a.length (a.length + 1)).isEmpty
  ·have e:Txt.split a ⟨#[c]⟩ = Builtin.Str.partsBetween a (Builtin.Str.occurrences a ⟨#[c]⟩ 0 a.length (a.length + 1)) (⟨#[c]⟩:Str).length:=(if_neg (ne_true_of_eq_false h1)).trans (if_neg (ne_true_of_eq_false hf))
   refine call_meets F.slot_str_split (typeIs_str s a t) F.entry_str_split (F.args_str_split_2 _ _) (meets_str_split_sep a ⟨#[c]⟩ t t' h1 hy hf hz (An.le_line (by omega))) ?_
   rw [strsFrom_eq]
   refine ⟨.ref _,_,I.lnew (qJ (numbered_texts _ _)) (by rw [List.length_map]; exact An.le_line (by omega)),rfl,?_⟩
   rw [← e]
   exact q _ I.fresh
  ·have e:Txt.split a ⟨#[c]⟩ = [a]:=(if_neg (ne_true_of_eq_false h1)).trans (if_pos hf)
   rw [e] at q
   refine call_meets F.slot_str_split (typeIs_str s a t) F.entry_str_split (F.args_str_split_2 _ _) (meets_str_split_not_found a ⟨#[c]⟩ t t' h1 hy hf) ?_
   exact ⟨.ref _,_,I.lnew (t':=s.toks) (qJ (l:=[(a,t)]) rfl) (by show 1 <= sizeLine; decide),rfl,q _ I.fresh⟩
 ·have e:Txt.split a ⟨#[c]⟩ = [a]:=if_pos h1
  rw [e] at q
  refine call_meets F.slot_str_split (typeIs_str s a t) F.entry_str_split (F.args_str_split_2 _ _) (meets_str_split_cannot_occur a ⟨#[c]⟩ t t' h1) ?_
  exact ⟨.ref _,_,I.lnew (t':=s.toks) (qJ (l:=[(a,t)]) rfl) (by show 1 <= sizeLine; decide),rfl,q _ I.fresh⟩
theorem mt_joinK {K:PySem.W.Frag} (hK:X.K = K:=by rfl):MtR X "str.join" (rJoin K):=by
 subst hK
 exact mt_join
theorem pe_bmK {K:PySem.W.Frag} {o e:Expr} {es:List Expr} {to:TE} {t:TA} {name:Str} {apos cpos:Pos} {T id:String} {r:V -> List V -> Hp -> VK -> Prop} (pa:PlainAttrs T) (slot:Slot T name id) (hty:typeOf (.builtin id) = pure (.type "method_descriptor")) (hm:MtR X id r) (ho:PE X o to) (ha:PA X (e :: es) t)
  (hbase:attributeBase o name X.env (eval o X.env) = eval o X.env:=by rfl)
  (hfew:((backTo cpos (starEach (e :: es) X.env)).all (fun x=>!x.1) && (backToKw cpos (keywordEach [] X.env)).all (fun x=>x.1.isSome)
   && decide ((e :: es).length + ([]:List Keyword).length + (if ([]:List Keyword).isEmpty then 0 else 1) < 30)) = true:=by rfl)
  (hline:(apos.endLine == cpos.line) = true:=by rfl) (hs:starEach (e :: es) X.env = (false,eval e X.env) :: starEach es X.env:=by rfl) (hplain:(backTo cpos (starEach es X.env)).any (·.1) = false:=by rfl) (hK:X.K = K:=by rfl) :
  PE X (.Call (.Attribute o name apos) (e :: es) [] cpos) (tBM K T r to t):=by
 subst hK
 exact xL pa slot hty hm ho ha hbase hfew hline hs hplain
end
end L2
namespace L2
open PySem PySem.Spec PyProof.Rows
theorem Room.units1 {k:Nat} {A:Around} (r:Room k A):A.units + 1 < cLine:=by have:=r.un; omega
section
variable {d:Addr} {kvs:List (Key × V)} {ob:Obj} {src:List (Option Nat)} {g:TG} {tf:St -> Hp -> (Bool -> Hp -> Prop) -> Prop} {te:TE} {Q:VK} {σ:St} {H:Hp}
theorem comp_pairs (Pv:Nat -> List V -> St -> Hp -> Prop) (h0:Pv 0 [] (srcSt src σ) H) (hz:kvs.length <= sizeLine) (hl:∀ i ys σ H,i <= kvs.length -> Pv i ys σ H -> H d = some (.frz ob (.dK kvs)) /\ ys.length <= i)
  (hs:∀ i k v T ys σ H,kvs[i]? = some (k,v) -> Pv i ys σ H -> H T = none -> g (.ref T) σ (upd H T (.tup [kV k,v])) fun σ2 H3=>tf σ2 H3 fun b H4=>if b = true then te σ2 H4 fun y H5=>Pv (i + 1) (ys ++ [y]) σ2 H5 else Pv (i + 1) ys σ2 H4)
  (hd:∀ ys σ H,Pv kvs.length ys σ H -> ∀ p,H p = none -> Q (.ref p) (upd H p (.lst ys))):CompW src (ItP d kvs ob) g tf te Q σ H :=
 comp_n kvs.length Pv h0 hz (fun i ys σ H hi p=>(hl i ys σ H hi p).2) (fun ys σ H p=>⟨(hl _ ys σ H (Nat.le_refl _) p).1,rfl⟩) (fun i ys σ H hi p=>⟨(hl i ys σ H (Nat.le_of_lt hi) p).1,hi⟩)
  (fun i ys σ H hi p x H2 y=>by
   obtain ⟨T,k,v,hx,hT,ev,eH⟩:=y
   subst ev eH
   exact hs i k v T ys σ H hx p hT) hd
end
section
variable {X:Cx}
def rNinZ:R2:=fun y x H Q=>∃ a o,x = .ref a /\ DGet H a y o /\ Q (.bl (!o.isSome)) H
theorem op_ninZ (hu:X.A.units + 64 < cLine):OpR X (compareOp .NotIn) rNinZ:=by
 intro pins s σ H y x v u Q I ry rx h
 obtain ⟨a,o,rfl,g,q⟩:=h
 cases rx
 exact d_notIn (by omega) I g ry fun s' I'=>⟨.bl _,H,I',rfl,q⟩
end
end L2
namespace An
open PySem PySem.Spec PyProof.Rows L2
def leS (a b:Str):Prop:=¬ b.cps.toList < a.cps.toList
theorem leS_trans {a b c:Str} (h1:leS a b) (h2:leS b c):leS a c:=by
 have h1:a.cps.toList <= b.cps.toList:=List.not_lt.mp h1
 have h2:b.cps.toList <= c.cps.toList:=List.not_lt.mp h2
 exact List.not_lt.mpr (List.le_trans h1 h2)
theorem leS_anti {a b:Str} (h1:leS a b) (h2:leS b a):a = b:=by
 have e:a.cps.toList = b.cps.toList:=List.le_antisymm (List.not_lt.mp h1) (List.not_lt.mp h2)
 exact cs_inj e
theorem rising_pw:∀ (l:List Str) (p:Str),risingS p l = true -> (p :: l).Pairwise leS
 | [],p,_=>List.pairwise_singleton _ _
 | x :: r,p,h=>by
  have h:(!ltCps x.cps.toList p.cps.toList && risingS x r) = true:=h
  rw [Bool.and_eq_true,ltCps_eq] at h
  have hx:leS p x:=fun z=>by rw [decide_eq_true z] at h; exact absurd h.1 (by decide)
  have ih:=rising_pw r x h.2
  refine List.pairwise_cons.mpr ⟨fun y hy=>?_,ih⟩
  rcases List.mem_cons.mp hy with rfl | hy
  ·exact hx
  ·exact leS_trans hx ((List.pairwise_cons.mp ih).1 y hy)
theorem sorted_pw:∀ {l:List Str},sortedS l = true -> l.Pairwise leS
 | [],_=>List.Pairwise.nil
 | x :: r,h=>rising_pw r x h
end An
namespace An17
open PySem L2 An An10 An12
seal L2.PS L2.PSs L2.PE L2.PT L2.PW L2.PA L2.PG L2.PGs L2.PI L2.PFi L2.PC
def top (i:Nat):Stmt:=PySem.Challenge.pw_annals_k17_paths_joined.main.body.getD i (.Pass ⟨0,0,0,0⟩)
def kinds:List String:=["NoneType","bool","int","str","list","tuple","dict"]
structure Txt (K:PySem.W.Frag) (mg:Str -> Option Value) (t1 t2:Tok):Prop where
 len:mg "len" = none
 list:mg "list" = none
 tuple:mg "tuple" = none
 range:mg "range" = none
 isinstance:mg "isinstance" = none
 int:mg "int" = none
 max:mg "max" = none
 min:mg "min" = none
 sorted:mg "sorted" = none
 reversed:mg "reversed" = none
 all:mg "all" = none
 set:mg "set" = none
 dict:mg "dict" = none
 str:mg "str" = none
 ONES:mg "ONES" = some (.int 2 t1)
 OTHERS:mg "OTHERS" = some (.int 3 t2)
 kit:∀ a ∈ kinds,∀ b ∈ kinds,PySem.W.kitOne K (.type a) (.type b) = some (a == b || (a == "bool" && b == "int"))
section
variable {P:Program} {w:World} {K:PySem.W.Frag} {mg:Str -> Option Value} {base:Heap} {t1 t2:Tok}
namespace f_table_row
abbrev st:Stmt:=top 2
theorem sc:FnScope ["line","new","behind","row","k"] ["line","new","behind"] (zE st):=⟨rfl,rfl,rfl,by decide +kernel,rfl,by decide +kernel,by decide +kernel⟩
theorem ok {f:Addr} {fd:FuncData} (F:Fun K "table_row" "table_row" st f fd) (T:Txt K mg t1 t2):FnOk P w K mg base CX0 1 f fd ["line","new","behind"] (An10.spTRow K):=by
 refine F.ok sc (fun vs H Q E h=>?_) (fun cdv A outer s H vs Q E hr h=>?_)
 ·obtain ⟨x,b,p,xs,ys,i,rfl,_⟩:=h
  rfl
 ·obtain ⟨x,b,p,xs,ys,i,rfl,hb,hp,hx,y1,k⟩:=h
  refine ⟨_,(zC (zJ (i:=3) sc.nd rfl (Or.inl rfl) (zV op_rep (zZ (zA zG pa_nil)) (zV xN (zO zL (by rfl) T.len PySem.boot_len (zA (pv 1) pa_nil)) zG)))
   (zC (yZ PassesOwn.never rfl (pi_rangeD rfl T.range (zA (zV op_sub (zO zL (by rfl) T.len PySem.boot_len (zA (pv 1) pa_nil)) zG) (zA (pe_un un_neg zG) (zA (pe_un un_neg zG) pa_nil)))) (zN (i:=4) sc.nd rfl (Or.inl rfl))
    (zH (yS (zQ op_eq (pv 0) (zM (ix_tup:IxR _ (rIxT K)) (pv 1) (pv 4) (fun _ _=>rfl)) (zX _))
     (zH (ps_asg (zV xN (zM (ix_list:IxR _ (rIxL K)) (pv 2) (zV xN (pv 4) zG) (fun _ _=>rfl)) zG) (pg_sub (pv 3) (pv 4) set_list)))
     (zH (ps_asg (zO (call_max2 rfl) (by rfl) T.max PyProof.Rows.boot_max (zA (zM (ix_list:IxR _ (rIxL K)) (pv 2) (pv 4) (fun _ _=>rfl)) (zA (zM (ix_list:IxR _ (rIxL K)) (pv 3) (zV xN (pv 4) zG) (fun _ _=>rfl)) pa_nil))) (pg_sub (pv 3) (pv 4) set_list))))))
   (zH (zW (pv 3))))),?_⟩
  refine ⟨lineN 1,fun l0 n0=>?_⟩
  have s0:=same_upd (o:=.lst [V.int 0]) n0
  refine ⟨_,rfl,b,_,rfl,.inr (s0.tupS hb),_,_,rfl,rfl,l0,_,_,rfl,rfl,zB,by rw [List.length_map]; omega,by rw [List.length_map]; omega,le_line ?_,fun l nl=>?_⟩
  ·rw [List.length_map]
   simp only [List.length_cons,List.length_nil]; omega
  have s1:=s0.trans (same_upd (o:=.lst (List.replicate ((((ys.map V.str).length:Nat):Int) + 1).toNat [V.int 0]).flatten) nl)
  have lz:(List.replicate ((((ys.map V.str).length:Nat):Int) + 1).toNat [V.int 0]).flatten = List.replicate (ys.length + 1) (V.int 0):=by
   rw [List.length_map]
   have e:Int.toNat ((ys.length:Int) + 1) = ys.length + 1:=by omega
   rw [e]
   exact An10.flat_rep _ _
  rw [lz] at s1 ⊢
  generalize upd H l0 (.lst [V.int 0]) = H0 at s0 nl s1 ⊢
  refine ⟨_,rfl,b,_,rfl,.inr (s1.tupS hb),_,_,rfl,rfl,_,rfl,_,rfl,_,_,rfl,⟨by rw [List.length_map]; omega,by rw [List.length_map]; omega,by omega,by omega⟩,?_⟩
  rw [List.length_map]
  have en:((ys.length:Int) - 1 - -1).toNat = ys.length:=by omega
  rw [en]
  refine for_rangeD (n:=ys.length) (fun j σ H2=>∃ (o4:Option V) (zs:List V),σ = [some (.str x),some (.ref b),some (.ref p),some (.ref l),o4] /\ H2 = upd H0 l (.lst zs) /\ zs.length = ys.length + 1 /\ ∀ m,ys.length <= m + j -> m <= ys.length -> zs[m]? = some (V.int (An10.tab xs ys i m))) ⟨none,_,rfl,rfl,List.length_replicate,fun m h1 h2=>?_⟩ ?_ ?_
  ·rw [List.getElem?_replicate,if_pos (by omega),An10.tab_end_r (by omega)]
   rfl
  ·rintro j σ H2 hj ⟨o4,zs,rfl,rfl,zl,hz⟩
   have hs2:Same H (upd H0 l (.lst zs)):=fun c u q=>(by rw [zD (zI (s0 c u q) nl)]; exact s0 c u q)
   obtain ⟨q,eq⟩:∃ q:Nat,(ys.length:Int) - 1 - (j:Int) = (q:Int):=⟨ys.length - 1 - j,by omega⟩
   rw [eq]
   have q1:q + j + 1 = ys.length:=by omega
   obtain ⟨y,hy,hyat⟩:=at_map (f:=V.str) (xs:=ys) (i:=(q:Int)) (by omega) (by omega)
   have hy:ys[q]? = some y:=by rw [← hy]; congr 1
   have st:=An10.tab_step hx hy
   have hpl:p ≠ l:=zI (s0 _ _ hp) nl
   refine ⟨_,rfl,_,rfl,_,rfl,b,_,_,_,rfl,rfl,hs2.tupS hb,hyat,rfl,_,rfl,ite2 (fun h3=>?_) (fun h3=>?_)⟩
   ·have h3:V.str x = V.str y:=of_decide_eq_true h3
    injection h3 with h3
    refine ⟨_,rfl,_,rfl,_,_,rfl,rfl,p,_,_,_,rfl,rfl,SqL.of (hs2 _ _ hp),An10.row_at (by omega) (by omega),_,_,rfl,rfl,_,rfl,_,rfl,l,_,_,q,rfl,rfl,zB,An10.ixN_nat (by omega),_,_,rfl,by rw [qW],by rw [List.length_set]; exact zl,fun m h1 h2=>?_⟩
    rcases Nat.lt_or_ge q m with hm | hm
    ·rw [List.getElem?_set_ne (by omega)]
     exact hz m (by omega) h2
    ·have:m = q:=by omega
     subst this
     rw [List.getElem?_set_self (by omega),st,if_pos h3]
     have e2:Int.toNat ((m:Int) + 1) = m + 1:=by omega
     rw [e2]
     show some (V.int (((An10.tab xs ys (i + 1) (m + 1):Nat):Int) + 1)) = _
     congr 2
     omega
   ·have h3:¬ x = y:=fun z=>h3 (decide_eq_true (by rw [z]))
    refine ⟨_,rfl,_,rfl,p,_,_,_,rfl,rfl,SqL.of (hs2 _ _ hp),An10.row_at (by omega) (by omega),_,rfl,_,rfl,_,_,rfl,rfl,l,_,_,_,rfl,rfl,SqL.of zB,An10.atI_nat' (n:=q + 1) (by omega) (hz (q + 1) (by omega) (by omega)),_,_,rfl,?_⟩
    refine ⟨_,rfl,_,rfl,l,_,_,q,rfl,rfl,zB,An10.ixN_nat (by omega),_,_,rfl,by rw [qW],by rw [List.length_set]; exact zl,fun m h1 h2=>?_⟩
    rcases Nat.lt_or_ge q m with hm | hm
    ·rw [List.getElem?_set_ne (by omega)]
     exact hz m (by omega) h2
    ·have:m = q:=by omega
     subst this
     rw [List.getElem?_set_self (by omega),st,if_neg h3]
     have e1:Int.toNat (m:Int) = m:=by omega
     rw [e1]
     have em:(if ((An10.tab xs ys i (m + 1):Nat):Int) > ((An10.tab xs ys (i + 1) m:Nat):Int) then ((An10.tab xs ys i (m + 1):Nat):Int) else ((An10.tab xs ys (i + 1) m:Nat):Int)) = ((max (An10.tab xs ys (i + 1) m) (An10.tab xs ys i (m + 1)):Nat):Int):=by
      split <;> omega
     rw [← em]
  ·rintro σ H2 ⟨o4,zs,rfl,rfl,zl,hz⟩
   have e:=An10.rowV_ext zl fun m hm=>hz m (by omega) hm
   subst e
   exact ⟨_,rfl,k l _ (fun c u q=>(by rw [zD (zI (s0 c u q) nl)]; exact s0 c u q)) (s0.free nl) zB⟩
end f_table_row
namespace f_common_table
abbrev st:Stmt:=top 1
theorem sc:FnScope ["old","new","behind","table","line"] ["old","new"] (zE st):=⟨rfl,rfl,rfl,by decide +kernel,rfl,by decide +kernel,by decide +kernel⟩
theorem ok {f:Addr} {fd:FuncData} (F:Fun K "common_table" "common_table" st f fd) (T:Txt K mg t1 t2) (C_table_row:Cal P w K mg base 1 "table_row" ["line","new","behind"] (An10.spTRow K)):FnOk P w K mg base CX0 4 f fd ["old","new"] (An10.spTable K):=by
 refine F.ok sc (fun vs H Q E h=>?_) (fun cdv A outer s H vs Q E hr h=>?_)
 ·obtain ⟨a,b,xs,ys,rfl,_⟩:=h
  rfl
 ·obtain ⟨a,b,xs,ys,rfl,ha,hb,x1,y1,k⟩:=h
  refine ⟨_,(zC (zJ (i:=2) sc.nd rfl (Or.inl rfl) (zV op_rep (zZ (zA zG pa_nil)) (zV xN (zO zL (by rfl) T.len PySem.boot_len (zA (pv 1) pa_nil)) zG)))
   (zC (zJ (i:=3) sc.nd rfl (Or.inl rfl) (zZ (zA (pv 2) pa_nil)))
   (zC (yZ PassesOwn.never rfl (pi_rev rfl T.reversed (zA (pv 0) pa_nil)) (zN (i:=4) sc.nd rfl (Or.inl rfl))
    (zC (zJ (i:=2) sc.nd rfl (Or.inl rfl) (zK C_table_row (hr.mono (by decide)) (zA (pv 4) (zA (pv 1) (zA (pv 2) pa_nil)))))
    (zH (z3 (xL PySem.F.plainAttrs_list PySem.F.slot_list_append PySem.F.type_list_append yE (pv 3) (zA (pv 2) pa_nil))))))
   (zC (z3 (pe_bm0 PySem.F.plainAttrs_list PySem.F.slot_list_reverse PySem.F.type_list_reverse mt_reverse (pv 3)))
   (zH (zW (pv 3))))))),?_⟩
  refine ⟨lineN 1,fun l0 n0=>?_⟩
  have s0:=same_upd (o:=.lst [V.int 0]) n0
  refine ⟨_,rfl,b,_,rfl,.inr (s0.tupS hb),_,_,rfl,rfl,l0,_,_,rfl,rfl,zB,by rw [List.length_map]; omega,by rw [List.length_map]; omega,le_line ?_,fun l nl=>?_⟩
  ·rw [List.length_map]
   simp only [List.length_cons,List.length_nil]; omega
  have lz:(List.replicate ((((ys.map V.str).length:Nat):Int) + 1).toNat [V.int 0]).flatten = An10.rowV xs ys xs.length:=by
   rw [List.length_map]
   have e:Int.toNat ((ys.length:Int) + 1) = ys.length + 1:=by omega
   rw [e,An10.flat_rep]
   refine An10.rowV_ext List.length_replicate fun m hm=>?_
   rw [List.getElem?_replicate,if_pos (by omega),An10.tab_end_l (Nat.le_refl _)]
   rfl
  rw [lz]
  have s1:=s0.trans (same_upd (o:=.lst (An10.rowV xs ys xs.length)) nl)
  have nl0:=s0.free nl
  refine ⟨_,rfl,lineN 1,fun t nt=>?_⟩
  have hl1:upd (upd H l0 (.lst [V.int 0])) l (.lst (An10.rowV xs ys xs.length)) l = some (.lst (An10.rowV xs ys xs.length)):=zB
  have nt0:=s1.free nt
  have lt:l ≠ t:=zI hl1 nt
  generalize upd (upd H l0 (.lst [V.int 0])) l (.lst (An10.rowV xs ys xs.length)) = H1 at s1 nt hl1 ⊢
  have s2:=s1.trans (same_upd (o:=.lst [V.ref l]) nt)
  refine ⟨_,rfl,a,_,rfl,s2.tupS ha,for_rev (K:=K) (a:=a) (xs:=xs.map V.str) (fun j σ H2=>∃ (as:List Addr) (bh:Addr) (o4:Option V),σ = [some (.ref a),some (.ref b),some (.ref bh),some (.ref t),o4] /\ Same H H2 /\ H2 t = some (.lst (as.map V.ref)) /\ as.length = j + 1 /\ as[j]? = some bh /\ (∀ m c,as[m]? = some c -> H2 c = some (.lst (An10.rowV xs ys (xs.length - m)))) /\ (t :: as).Nodup /\ ∀ c ∈ t :: as,H c = none)
   ⟨[l],l,none,rfl,s2,zB,rfl,rfl,?_,?_,?_⟩ (fun j σ H2 _ ⟨_,_,_,_,e,_⟩=>e.tupS ha) ?_ ?_⟩
  ·intro m c hm
   obtain ⟨rfl,rfl⟩:=An10.get_one hm
   rw [zD lt]
   exact hl1
  ·simp [Ne.symm lt]
  ·intro c hc
   have hc:c = t \/ c = l:=by simpa using hc
   rcases hc with rfl | rfl
   ·exact nt0
   ·exact nl0
  ·rintro j v σ H2 hj hv ⟨as,bh,o4,rfl,s3,ht,asl,abh,rows,nd,fr⟩
   rw [List.length_map] at hj hv
   rw [List.getElem?_map] at hv
   cases q:xs[xs.length - 1 - j]? with
   | none=>rw [q] at hv; cases hv
   | some x =>
    rw [q] at hv
    have hv:V.str x = v:=Option.some.inj hv
    subst hv
    have hbh:=rows j bh abh
    have ej:xs.length - j = xs.length - 1 - j + 1:=by omega
    rw [ej] at hbh
    refine ⟨_,rfl,_,rfl,_,rfl,x,b,bh,xs,ys,_,rfl,s3.tupS hb,hbh,q,y1,fun r H3 s4 nr hr3=>?_⟩
    have ht3:=s4 _ _ ht
    have rt:r ≠ t:=fun z=>zI ht nr z.symm
    refine ⟨_,rfl,.inl ⟨rfl,_,SqL.of ht3⟩,_,rfl,t,_,_,rfl,rfl,ht3,yY (by rw [List.length_map]; omega),as ++ [r],r,_,rfl,?_,?_,?_,?_,?_,?_,?_⟩
    ·exact An.Same.updF (s3.trans s4) (fr t List.mem_cons_self)
    ·rw [zB,List.map_append]; rfl
    ·rw [List.length_append,asl]; rfl
    ·rw [List.getElem?_append_right (by omega),asl,Nat.sub_self]; rfl
    ·intro m c hm
     rcases Nat.lt_or_ge m as.length with hm1 | hm1
     ·rw [List.getElem?_append_left hm1] at hm
      have ct:c ≠ t:=fun z=>(List.nodup_cons.mp nd).1 (z ▸ List.mem_of_getElem? hm)
      rw [zD ct]
      exact s4 _ _ (rows m c hm)
     ·rw [List.getElem?_append_right hm1] at hm
      obtain ⟨e0,rfl⟩:=An10.get_one hm
      have em:xs.length - m = xs.length - 1 - j:=by omega
      rw [zD rt,em]
      exact hr3
    ·have nra:r ∉ as:=fun z=>by
      obtain ⟨m,hm⟩:=List.getElem?_of_mem z
      exact zI (rows m r hm) nr rfl
     rw [← List.cons_append]
     refine List.nodup_append.mpr ⟨nd,by simp,?_⟩
     intro c hc d hd
     rw [List.mem_singleton.mp hd]
     rcases List.mem_cons.mp hc with rfl | hc
     ·exact Ne.symm rt
     ·exact fun z=>nra (z ▸ hc)
    ·intro c hc
     rcases List.mem_cons.mp hc with rfl | hc
     ·exact fr _ List.mem_cons_self
     ·rcases List.mem_append.mp hc with hc | hc
      ·exact fr c (List.mem_cons_of_mem _ hc)
      ·rw [List.mem_singleton.mp hc]; exact s3.free nr
  ·rintro σ H2 ⟨as,bh,o4,rfl,s3,ht,asl,abh,rows,nd,fr⟩
   rw [List.length_map] at asl
   refine ⟨_,rfl,.inl ⟨rfl,_,SqL.of ht⟩,t,_,rfl,rfl,ht,_,rfl,k t as.reverse _ (An.Same.updF s3 (fr t List.mem_cons_self)) ⟨?_,by rw [List.length_reverse]; exact asl,?_⟩ ?_ ?_⟩
   ·rw [zB,List.map_reverse]
   ·intro i c hc
    have hi:i < as.length:=by
     have:=(List.getElem?_eq_some_iff.mp hc).1
     rwa [List.length_reverse] at this
    rw [List.getElem?_reverse hi] at hc
    have ct:c ≠ t:=fun z=>(List.nodup_cons.mp nd).1 (z ▸ List.mem_of_getElem? hc)
    rw [zD ct,rows _ c hc]
    have e:xs.length - (as.length - 1 - i) = i:=by omega
    rw [e]
   ·rw [List.nodup_cons] at nd ⊢
    exact ⟨fun z=>nd.1 (List.mem_reverse.mp z),List.pairwise_reverse.mpr (nd.2.imp fun h=>Ne.symm h)⟩
   ·intro c hc
    rcases List.mem_cons.mp hc with rfl | hc
    ·exact fr _ List.mem_cons_self
    ·exact fr c (List.mem_cons_of_mem _ (List.mem_reverse.mp hc))
end f_common_table
namespace f_kept_pairs
abbrev st:Stmt:=top 3
theorem sc:FnScope ["old","new","table","pairs","i","k"] ["old","new"] (zE st):=⟨rfl,rfl,rfl,by decide +kernel,rfl,by decide +kernel,by decide +kernel⟩
theorem ok {f:Addr} {fd:FuncData} (F:Fun K "kept_pairs" "kept_pairs" st f fd) (T:Txt K mg t1 t2) (C_common_table:Cal P w K mg base 4 "common_table" ["old","new"] (An10.spTable K)):FnOk P w K mg base CX0 5 f fd ["old","new"] (An10.spKept K):=by
 refine F.ok sc (fun vs H Q E h=>?_) (fun cdv A outer s H vs Q E hr h=>?_)
 ·obtain ⟨a,b,xs,ys,rfl,_⟩:=h
  rfl
 ·obtain ⟨a,b,xs,ys,rfl,ha,hb,x1,y1,_,_,k⟩:=h
  refine ⟨_,(zC (zJ (i:=2) sc.nd rfl (Or.inl rfl) (zK C_common_table (hr.mono (by decide)) (zA (pv 0) (zA (pv 1) pa_nil))))
   (zC (zJ (i:=3) sc.nd rfl (Or.inl rfl) (zZ pa_nil))
   (zC (zJ (i:=4) sc.nd rfl (Or.inl rfl) zG)
   (zC (zJ (i:=5) sc.nd rfl (Or.inl rfl) zG)
   (zC (ps_while PassesOwn.never (PW.pt (pw_and (zQ op_lt (pv 4) (zO zL (by rfl) T.len PySem.boot_len (zA (pv 0) pa_nil)) (zX _)) (pw_and1 (zQ op_lt (pv 5) (zO zL (by rfl) T.len PySem.boot_len (zA (pv 1) pa_nil)) (zX _)))))
    (zH (yS (zQ op_eq (zM (ix_tup:IxR _ (rIxT K)) (pv 0) (pv 4) (fun _ _=>rfl)) (zM (ix_tup:IxR _ (rIxT K)) (pv 1) (pv 5) (fun _ _=>rfl)) (zX _))
     (zC (z3 (xL PySem.F.plainAttrs_list PySem.F.slot_list_append PySem.F.type_list_append yE (pv 3) (zA (yC (zA (pv 4) (zA (pv 5) pa_nil))) pa_nil)))
     (zC (ps_aug (i:=4) sc.nd rfl (Or.inl rfl) zG ip_add)
     (zH (ps_aug (i:=5) sc.nd rfl (Or.inl rfl) zG ip_add))))
     (zH (yS (zQ op_ge (zM (ix_list:IxR _ (rIxL K)) (zM (ix_list:IxR _ (rIxL K)) (pv 2) (zV xN (pv 4) zG) (fun _ _=>rfl)) (pv 5) (fun _ _=>rfl)) (zM (ix_list:IxR _ (rIxL K)) (zM (ix_list:IxR _ (rIxL K)) (pv 2) (pv 4) (fun _ _=>rfl)) (zV xN (pv 5) zG) (fun _ _=>rfl)) (zX _))
      (zH (ps_aug (i:=4) sc.nd rfl (Or.inl rfl) zG ip_add))
      (zH (ps_aug (i:=5) sc.nd rfl (Or.inl rfl) zG ip_add)))))))
   (zH (zW (pv 3)))))))),?_⟩
  refine ⟨_,rfl,_,rfl,a,b,xs,ys,rfl,ha,hb,x1,y1,fun t as H1 s1 hT _ _=>⟨Nat.zero_le _,fun l nl=>?_⟩⟩
  have asl:=hT.len
  have nl0:=s1.free nl
  have s0:=s1.trans (same_upd (o:=.lst []) nl)
  have hT0:An10.TabAt (upd H1 l (.lst [])) xs ys t as:=⟨same_upd nl _ _ hT.at_,asl,fun i c hc=>same_upd nl _ _ (hT.row i c hc)⟩
  have tl0:t ≠ l:=zI hT.at_ nl
  refine ⟨fun m σ H2=>∃ (i j f:Nat) (ts:List Addr) (ps:List (Nat × Nat)),m = (xs.length - i) + (ys.length - j) /\ σ = [some (.ref a),some (.ref b),some (.ref t),some (.ref l),some (.int i),some (.int j)] /\ Same H H2 /\ An10.TabAt H2 xs ys t as /\ H2 l = some (.lst (ts.map V.ref)) /\ ts.length = ps.length /\
    (∀ (m:Nat) (c:Addr) (p:Nat × Nat),ts[m]? = some c -> ps[m]? = some p -> H2 c = some (.tup [V.int p.1,V.int p.2])) /\ ps.length <= i /\ i <= xs.length /\ j <= ys.length /\ (xs.length - i) + (ys.length - j) <= f /\ ps ++ An10.path xs ys f i j = An10.path xs ys (xs.length + ys.length) 0 0,
   ⟨_,0,0,xs.length + ys.length,[],[],rfl,rfl,s0,hT0,zB,rfl,fun m c p h=>(by simp at h),Nat.zero_le _,Nat.zero_le _,Nat.zero_le _,by omega,rfl⟩,?_⟩
  rintro m σ H2 ⟨i,j,f,ts,ps,rfl,rfl,s2,hT2,hl,tl,rows,pl,il,jl,fl,eq⟩
  have fin:(xs.length <= i \/ ys.length <= j) -> Q (.ref l) H2:=fun hd=>by
   rw [An10.path_end hd,List.append_nil] at eq
   rw [← eq] at k
   exact k l _ s2 nl0 ⟨ts,hl,tl,rows⟩
  refine ⟨_,rfl,_,rfl,a,_,rfl,.inr (s2.tupS ha),_,_,rfl,rfl,_,rfl,ite2 (fun h1=>?_) (fun h1=>?_)⟩
  ·have h1:i < xs.length:=by rw [List.length_map] at h1; have:=of_decide_eq_true h1; omega
   refine ⟨_,rfl,_,rfl,b,_,rfl,.inr (s2.tupS hb),_,_,rfl,rfl,_,rfl,ite2 (fun h2=>?_) (fun h2=>?_)⟩
   ·have h2:j < ys.length:=by rw [List.length_map] at h2; have:=of_decide_eq_true h2; omega
    refine ⟨_,fun _ _ z=>z,?_⟩
    obtain ⟨f,rfl⟩:∃ g,f = g + 1:=⟨f - 1,by omega⟩
    obtain ⟨x,hx,hxat⟩:=at_map (f:=V.str) (xs:=xs) (i:=((i:Nat):Int)) (by omega) (by omega)
    obtain ⟨y,hy,hyat⟩:=at_map (f:=V.str) (xs:=ys) (i:=((j:Nat):Int)) (by omega) (by omega)
    have hx:xs[i]? = some x:=hx
    have hy:ys[j]? = some y:=hy
    have stp:=An10.path_step (f:=f) hx hy
    refine ⟨_,rfl,_,rfl,a,_,_,_,rfl,rfl,s2.tupS ha,hxat,_,rfl,_,rfl,b,_,_,_,rfl,rfl,s2.tupS hb,hyat,rfl,_,rfl,ite2 (fun h3=>?_) (fun h3=>?_)⟩
    ·have h3:V.str x = V.str y:=of_decide_eq_true h3
     injection h3 with h3
     rw [if_pos h3] at stp
     rw [stp] at eq
     refine ⟨_,rfl,.inl ⟨rfl,_,SqL.of hl⟩,_,rfl,_,rfl,lineN 2,fun c nc=>?_⟩
     have lc:l ≠ c:=zI hl nc
     have sc2:=same_upd (o:=.tup [V.int i,V.int j]) nc
     refine ⟨l,_,_,rfl,rfl,by rw [zD lc]; exact hl,yY (by rw [List.length_map]; omega),_,rfl,_,_,rfl,rfl,_,rfl,_,_,rfl,rfl,_,?_,i + 1,j + 1,f,ts ++ [c],ps ++ [(i,j)],rfl,rfl,An.Same.updF (s2.trans sc2) nl0,⟨?_,asl,?_⟩,?_,by simp [tl],?_,by simp; omega,by omega,by omega,by omega,?_⟩
     ·omega
     ·rw [zD tl0]; exact sc2 _ _ hT2.at_
     ·intro i' c' hc'
      have hr:=hT2.row i' c' hc'
      have cl:c' ≠ l:=zI (hT.row i' c' hc') nl
      rw [zD cl]; exact sc2 _ _ hr
     ·rw [zB,List.map_append]; rfl
     ·intro m c' p hc hp
      rcases An.snoc_get hc with ⟨m1,hc1⟩ | ⟨m1,hc1⟩
      ·rcases An.snoc_get hp with ⟨m2,hp1⟩ | ⟨m2,hp1⟩
       ·have hr:=rows m c' p hc1 hp1
        have d1:c' ≠ c:=zI hr nc
        have d2:c' ≠ l:=fun z=>by rw [z,hl] at hr; cases hr
        rw [zD d2,zD d1]
        exact hr
       ·omega
      ·rcases An.snoc_get hp with ⟨m2,hp1⟩ | ⟨m2,hp1⟩
       ·omega
       ·rw [hc1,hp1,zD (Ne.symm lc)]
        exact zB
     ·rw [List.append_assoc]
      exact eq
    ·have h3:¬ x = y:=fun z=>h3 (decide_eq_true (by rw [z]))
     rw [if_neg h3] at stp
     rw [stp] at eq
     have tb:∀ {i:Nat},i <= xs.length -> ∃ ai,atI (as.map V.ref) ((i:Nat):Int) = some (.ref ai) /\ H2 ai = some (.lst (An10.rowV xs ys i)):=fun {i} hi=>by
      obtain ⟨ai,h1,h2⟩:=at_map (f:=V.ref) (xs:=as) (i:=((i:Nat):Int)) (by omega) (by omega)
      have h1:as[i]? = some ai:=h1
      exact ⟨ai,h2,hT2.row i ai h1⟩
     obtain ⟨ai,hat,hrow⟩:=tb il
     obtain ⟨ai1,hat1,hrow1⟩:=tb (i:=i + 1) h1
     have hat1:atI (as.map V.ref) (((i:Nat):Int) + 1) = some (.ref ai1):=hat1
     have T0:=SqL.of (K:=K) hT2.at_
     refine ⟨_,rfl,_,rfl,_,_,rfl,rfl,t,_,_,_,rfl,rfl,T0,hat1,_,rfl,ai1,_,_,_,rfl,rfl,SqL.of hrow1,An10.row_at (by omega) (by omega),_,rfl,_,rfl,t,_,_,_,rfl,rfl,T0,hat,_,rfl,_,_,rfl,rfl,ai,_,_,_,rfl,rfl,SqL.of hrow,An10.row_at (by omega) (by omega),_,_,rfl,rfl,_,rfl,ite2 (fun h4=>?_) (fun h4=>?_)⟩
     ·have h4:An10.tab xs ys i (j + 1) <= An10.tab xs ys (i + 1) j:=Int.ofNat_le.mp (of_decide_eq_true h4)
      rw [if_pos h4] at eq
      exact ⟨_,rfl,_,_,rfl,rfl,_,by omega,i + 1,j,f,ts,ps,rfl,rfl,s2,hT2,hl,tl,rows,by omega,h1,jl,by omega,eq⟩
     ·have h4:¬ An10.tab xs ys i (j + 1) <= An10.tab xs ys (i + 1) j:=fun z=>h4 (decide_eq_true (Int.ofNat_le.mpr z))
      rw [if_neg h4] at eq
      exact ⟨_,rfl,_,_,rfl,rfl,_,by omega,i,j + 1,f,ts,ps,rfl,rfl,s2,hT2,hl,tl,rows,by omega,il,h2,by omega,eq⟩
   ·have h2:ys.length <= j:=by rw [List.length_map] at h2; have h2':¬ ((j:Int)) < ys.length:=fun z=>h2 (decide_eq_true z); omega
    exact ⟨_,rfl,fin (.inr h2)⟩
  ·have h1:xs.length <= i:=by rw [List.length_map] at h1; have h1':¬ ((i:Int)) < xs.length:=fun z=>h1 (decide_eq_true z); omega
   exact ⟨_,rfl,fin (.inl h1)⟩
end f_kept_pairs
namespace f_spans_of
abbrev st:Stmt:=top 4
theorem sc:FnScope ["old","new","spans","low","start","high","end"] ["old","new"] (zE st):=⟨rfl,rfl,rfl,by decide +kernel,rfl,by decide +kernel,by decide +kernel⟩
theorem ok {f:Addr} {fd:FuncData} (F:Fun K "spans_of" "spans_of" st f fd) (T:Txt K mg t1 t2) (C_kept_pairs:Cal P w K mg base 5 "kept_pairs" ["old","new"] (An10.spKept K)):FnOk P w K mg base CX0 6 f fd ["old","new"] (An12.spSpans K):=by
 refine F.ok sc (fun vs H Q E h=>?_) (fun cdv A outer s H vs Q E hr h=>?_)
 ·obtain ⟨a,b,xs,ys,rfl,_⟩:=h
  rfl
 ·obtain ⟨a,b,xs,ys,rfl,ha,hb,x1,y1,xok,yok,k⟩:=h
  refine ⟨_,(zC (zJ (i:=2) sc.nd rfl (Or.inl rfl) (zZ pa_nil))
   (zC (zJ (i:=3) sc.nd rfl (Or.inl rfl) zG)
   (zC (zJ (i:=4) sc.nd rfl (Or.inl rfl) zG)
   (zC (yZ PassesOwn.never rfl (yN (zV op_cat (zK C_kept_pairs (hr.mono (by decide)) (zA (pv 0) (zA (pv 1) pa_nil))) (zZ (zA (yC (zA (zO zL (by rfl) T.len PySem.boot_len (zA (pv 0) pa_nil)) (zA (zO zL (by rfl) T.len PySem.boot_len (zA (pv 1) pa_nil)) pa_nil))) pa_nil)))) (pg_tup rfl (yF (zN (i:=5) sc.nd rfl (Or.inl rfl)) (yF (zN (i:=6) sc.nd rfl (Or.inl rfl)) jG)))
    (pss_cut (yS (PW.pt (pw_or (zQ op_lt (pv 3) (pv 5) (zX _)) (jF (zQ op_lt (pv 4) (pv 6) (zX _)))))
     (zH (z3 (xL PySem.F.plainAttrs_list PySem.F.slot_list_append PySem.F.type_list_append yE (pv 2) (zA (yC (zA (pv 3) (zA (pv 5) (zA (yL (sl_tup2:SlR _ (rSlT2 K)) (pv 1) (yB (pv 4)) (yB (pv 6))) pa_nil)))) pa_nil))))
     z4)
    (zC (zJ (i:=3) sc.nd rfl (Or.inl rfl) (zV xN (pv 5) zG))
    (zH (zJ (i:=4) sc.nd rfl (Or.inl rfl) (zV xN (pv 6) zG))))))
   (zH (zW (pv 2))))))),?_⟩
  refine ⟨Nat.zero_le _,fun o no=>?_⟩
  have s00:=same_upd (o:=.lst []) no
  refine ⟨_,rfl,_,rfl,a,b,xs,ys,rfl,s00.tupS ha,s00.tupS hb,x1,y1,fun x hx=>An12.lineB_Ok (xok x hx),fun y hy=>An12.lineB_Ok (yok y hy),fun l Hk sk nl hp=>?_⟩
  have s0:=s00.trans sk
  have hok:=sk _ _ (zB (H:=H) (a:=o) (o:=.lst []))
  have rise:An10.Rise xs ys 0 0 (An10.path xs ys (xs.length + ys.length) 0 0):=An10.path_rise _ 0 0
  have p1:(An10.path xs ys (xs.length + ys.length) 0 0).length <= xs.length:=by
   rw [An10.path_len _ 0 0 (by omega)]
   have:=An10.tab_le (xs:=xs) (ys:=ys) (i:=0) (k:=0)
   omega
  generalize hps:An10.path xs ys (xs.length + ys.length) 0 0 = ps at hp rise p1
  have k:∀ (l:Addr) H',Same H H' -> H l = none -> Dt K H' (.list ((An12.spanL xs ys 0 0 ps).map An12.rowDat)) (.ref l) -> Q (.ref l) H':=by rw [← hps]; exact k
  obtain ⟨ts,hts,tl,rows⟩:=hp
  refine ⟨_,rfl,a,_,rfl,.inr (s0.tupS ha),_,rfl,b,_,rfl,.inr (s0.tupS hb),lineN 2,fun t0 n0=>?_⟩
  have u0:=same_upd (o:=.tup [V.int ((xs.map V.str).length:Nat),V.int ((ys.map V.str).length:Nat)]) n0
  refine ⟨lineN 1,fun l1 n1=>?_⟩
  have u1:=same_upd (o:=.lst [V.ref t0]) n1
  refine ⟨l,l1,_,_,rfl,rfl,(u0.trans u1) _ _ hts,zB,le_line (by rw [List.length_map]; simp; omega),fun l2 n2=>?_⟩
  have u2:=same_upd (o:=.lst (ts.map V.ref ++ [V.ref t0])) n2
  have v3:=(u0.trans u1).trans u2
  have s3:=s0.trans v3
  have ho3:=v3 _ _ hok
  have h03:upd (upd (upd Hk t0 (.tup [V.int ((xs.map V.str).length:Nat),V.int ((ys.map V.str).length:Nat)])) l1 (.lst [V.ref t0])) l2 (.lst (ts.map V.ref ++ [V.ref t0])) t0 = some (.tup [V.int ((xs.length:Nat):Int),V.int ((ys.length:Nat):Int)]):=by
   have e:=(u1.trans u2) _ _ zB
   rw [e,List.length_map,List.length_map]
  have hl3:upd (upd (upd Hk t0 (.tup [V.int ((xs.map V.str).length:Nat),V.int ((ys.map V.str).length:Nat)])) l1 (.lst [V.ref t0])) l2 (.lst (ts.map V.ref ++ [V.ref t0])) l2 = some (.lst ((ts ++ [t0]).map V.ref)):=by
   rw [zB,List.map_append]; rfl
  have dol:l2 ≠ o:=(zI ((u0.trans u1) _ _ hok) n2).symm
  generalize upd (upd (upd Hk t0 (.tup [V.int ((xs.map V.str).length:Nat),V.int ((ys.map V.str).length:Nat)])) l1 (.lst [V.ref t0])) l2 (.lst (ts.map V.ref ++ [V.ref t0])) = H3 at v3 s3 ho3 h03 hl3
  obtain ⟨all,hall⟩:∃ all,all = ps ++ [(xs.length,ys.length)]:=⟨_,rfl⟩
  have al:all.length = ps.length + 1:=by rw [hall]; simp
  have rows3:∀ (i:Nat) (t:Addr),(ts ++ [t0])[i]? = some t -> ∃ p:Nat × Nat,all[i]? = some p /\ p.2 <= ys.length /\ (i < ps.length -> p.2 < ys.length) /\ t ≠ o /\ H3 t = some (.tup [V.int p.1,V.int p.2]):=fun i t ht=>by
   rcases An.snoc_get ht with ⟨hi,q⟩ | ⟨hi,rfl⟩
   ·have hil:i < ps.length:=by rw [← tl]; exact hi
    have hpi:ps[i]? = some ps[i]:=List.getElem?_eq_getElem hil
    have hq:=rows i t _ q hpi
    have hle:=(An12.rise_le rise ps[i] (List.getElem_mem hil)).2
    have tno:t ≠ o:=fun z=>by rw [z,hok] at hq; cases hq
    exact ⟨ps[i],by rw [hall,List.getElem?_append_left hil]; exact hpi,Nat.le_of_lt hle,fun _=>hle,tno,v3 _ _ hq⟩
   ·refine ⟨(xs.length,ys.length),by rw [hall,hi,tl,List.getElem?_append_right (Nat.le_refl _)]; simp,Nat.le_refl _,fun z=>by omega,fun z=>?_,h03⟩
    rw [z] at h03
    rw [ho3] at h03; cases h03
  have k3:Same (An12.hide H3 o) (An12.hide H3 o):=Same.refl _
  refine ⟨l2,rfl,⟨_,SqL.of hl3⟩,y9 (K:=K) (a:=l2) (xs:=(ts ++ [t0]).map V.ref) (fun j σ H2=>∃ (lo fi:Nat) (acc:List An12.Row) (vs:List V) (o6 o7:Option V),σ = [some (.ref a),some (.ref b),some (.ref o),some (.int lo),some (.int fi),o6,o7] /\ Same (An12.hide H3 o) (An12.hide H2 o) /\ H2 o = some (.lst vs) /\ DtAll K (An12.hide H2 o) (acc.map An12.rowDat) vs /\ acc.length <= j /\ (j <= ps.length -> fi <= ys.length) /\ acc ++ An12.spanT ys lo fi (all.drop j) = An12.spanL xs ys 0 0 ps)
   ⟨0,0,[],[],none,none,rfl,k3,ho3,rfl,Nat.le_refl _,fun _=>Nat.zero_le _,by rw [List.drop_zero,List.nil_append,hall,An12.spanT_all]⟩ (fun j σ H2 _ ⟨_,_,_,_,_,_,_,e,_⟩=>SqL.of ((An12.hide_same H2 o) _ _ (e _ _ ((An12.hide_ne dol).trans hl3)))) ?_ ?_⟩
  ·rintro j x σ H2 hj ⟨lo,fi,acc,vs,o6,o7,rfl,e2,ho2,hacc,accl,fil,eq⟩
   rw [List.getElem?_map] at hj
   cases q:(ts ++ [t0])[j]? with
   | none=>rw [q] at hj; cases hj
   | some t =>
    rw [q] at hj
    have hj:V.ref t = x:=Option.some.inj hj
    subst hj
    obtain ⟨p,hp,hp2,hp3,tno,hpt⟩:=rows3 j t q
    have hjl:j < all.length:=(List.getElem?_eq_some_iff.mp hp).1
    have hd:all.drop j = p :: all.drop (j + 1):=by
     obtain ⟨hj',ej⟩:=List.getElem?_eq_some_iff.mp hp
     rw [List.drop_eq_getElem_cons hj',ej]
    have fil:=fil (by omega)
    have keep:∀ {b u},b ≠ o -> H3 b = some u -> H2 b = some u:=fun {b u} hb h=>(An12.hide_same H2 o) _ _ (e2 _ _ ((An12.hide_ne hb).trans h))
    have hb2:SqT K H2 b (ys.map V.str):=(An12.hide_same H2 o).tupS (e2.tupS (An12.tup_hide ho3 (s3.tupS hb)))
    rw [hd] at eq
    refine ⟨t,_,rfl,SqT.of (keep tno hpt),rfl,_,_,rfl,_,_,rfl,rfl,?_⟩
    refine ⟨fun σ' H'=>∃ (acc:List An12.Row) (vs:List V),σ' = [some (.ref a),some (.ref b),some (.ref o),some (.int lo),some (.int fi),some (.int p.1),some (.int p.2)] /\ Same (An12.hide H3 o) (An12.hide H' o) /\ H' o = some (.lst vs) /\ DtAll K (An12.hide H' o) (acc.map An12.rowDat) vs /\ acc.length <= j + 1 /\ acc ++ An12.spanT ys (p.1 + 1) (p.2 + 1) (all.drop (j + 1)) = An12.spanL xs ys 0 0 ps,?_,?_⟩
    ·refine ⟨_,rfl,_,rfl,_,_,rfl,rfl,_,rfl,ite2 (fun h1=>iteT ?b) (fun h1=>⟨_,rfl,_,rfl,_,_,rfl,rfl,_,rfl,ite2 (fun h2=>?c) (fun h2=>?_)⟩)⟩
     case b | c =>
      have hc:lo < p.1 \/ fi < p.2:=by
       first
        | exact .inl (by have:=of_decide_eq_true h1; omega)
        | exact .inr (by have:=of_decide_eq_true h2; omega)
      have eq:acc ++ ((if lo < p.1 \/ fi < p.2 then [An12.spanR lo p.1 ((ys.drop fi).take (p.2 - fi))] else []) ++ An12.spanT ys (p.1 + 1) (p.2 + 1) (all.drop (j + 1))) = An12.spanL xs ys 0 0 ps:=eq
      rw [if_pos hc] at eq
      have vl:=hacc.length
      rw [List.length_map] at vl
      refine ⟨_,rfl,.inl ⟨rfl,_,SqL.of ho2⟩,_,rfl,_,rfl,_,rfl,_,rfl,_,rfl,_,rfl,_,rfl,b,_,rfl,hb2,fun v H4 hv=>?_⟩
      obtain ⟨q4,rfl,s4,hq4⟩:=An12.cut_any hb2 hv
      rw [An12.cut_mid fil hp2] at hq4
      refine ⟨lineN 3,fun t1 n1=>?_⟩
      have s5:=s4.trans (same_upd (o:=.tup [V.int lo,V.int p.1,V.ref q4]) n1)
      have hot:o ≠ t1:=zI (s4 _ _ ho2) n1
      have ho5:=s5 _ _ ho2
      refine ⟨o,_,_,rfl,rfl,ho5,yY (by omega),acc ++ [An12.spanR lo p.1 ((ys.drop fi).take (p.2 - fi))],vs ++ [V.ref t1],rfl,?_,zB,?_,by rw [List.length_append,List.length_singleton]; omega,by rw [List.append_assoc]; exact eq⟩
      ·rw [An12.hide_upd]
       exact e2.trans (An12.same_hide o s5)
      ·rw [An12.hide_upd,List.map_append]
       refine DtAll.append (DtAll.same (An12.same_hide o s5) _ _ hacc) ⟨.ref t1,[],rfl,⟨t1,_,rfl,An12.tup_hide ho5 (SqT.of zB),_,_,rfl,rfl,_,_,rfl,rfl,_,_,rfl,⟨q4,_,rfl,An12.tup_hide ho5 ((same_upd n1).tupS hq4),DtAll.strs _⟩,rfl⟩,rfl⟩
     have eq:acc ++ ((if lo < p.1 \/ fi < p.2 then [An12.spanR lo p.1 ((ys.drop fi).take (p.2 - fi))] else []) ++ An12.spanT ys (p.1 + 1) (p.2 + 1) (all.drop (j + 1))) = An12.spanL xs ys 0 0 ps:=eq
     rw [if_neg (fun z=>z.elim (fun z=>h1 (decide_eq_true (by omega))) fun z=>h2 (decide_eq_true (by omega)))] at eq
     exact ⟨acc,vs,rfl,e2,ho2,hacc,by omega,eq⟩
    ·rintro σ' H' ⟨acc,vs,rfl,e3,ho',hacc',accl',eq'⟩
     refine ⟨_,rfl,_,_,rfl,rfl,_,rfl,_,_,rfl,rfl,p.1 + 1,p.2 + 1,acc,vs,_,_,rfl,e3,ho',hacc',accl',fun z=>?_,eq'⟩
     have:=hp3 (by omega)
     omega
  ·rintro σ H2 ⟨lo,fi,acc,vs,o6,o7,rfl,e2,ho2,hacc,accl,_,eq⟩
   have e0:all.drop ((ts ++ [t0]).map V.ref).length = []:=List.drop_of_length_le (by rw [List.length_map,List.length_append,tl,al]; exact Nat.le_refl _)
   rw [e0] at eq
   have eq:acc ++ [] = An12.spanL xs ys 0 0 ps:=eq
   rw [List.append_nil] at eq
   refine ⟨_,rfl,k o H2 (fun c u hc=>?_) no ?_⟩
   ·have hco:c ≠ o:=zI hc no
    exact (An12.hide_same H2 o) _ _ (e2 _ _ ((An12.hide_ne hco).trans (s3 _ _ hc)))
   ·rw [← eq]
    exact ⟨o,vs,rfl,SqL.of ho2,DtAll.same (An12.hide_same H2 o) _ _ hacc⟩
end f_spans_of
namespace f_spans_done
abbrev st:Stmt:=top 5
theorem sc:FnScope ["old","rows","done","place","low","high","lines"] ["old","rows"] (zE st):=⟨rfl,rfl,rfl,by decide +kernel,rfl,by decide +kernel,by decide +kernel⟩
theorem ok {f:Addr} {fd:FuncData} (F:Fun K "spans_done" "spans_done" st f fd) (T:Txt K mg t1 t2):FnOk P w K mg base CX0 1 f fd ["old","rows"] (An12.spDone K):=by
 refine F.ok sc (fun vs H Q E h=>?_) (fun cdv A outer s H vs Q E hr h=>?_)
 ·obtain ⟨a,l,xs,rs,rfl,_⟩:=h
  rfl
 ·obtain ⟨a,l,xs,rs,rfl,ha,hd,x1,r1,ends,k⟩:=h
  refine ⟨_,(zC (zJ (i:=2) sc.nd rfl (Or.inl rfl) (zZ pa_nil))
   (zC (zJ (i:=3) sc.nd rfl (Or.inl rfl) zG)
   (zC (yZ PassesOwn.never rfl (yN (pv 1)) (pg_tup rfl (yF (zN (i:=4) sc.nd rfl (Or.inl rfl)) (yF (zN (i:=5) sc.nd rfl (Or.inl rfl)) (yF (zN (i:=6) sc.nd rfl (Or.inl rfl)) jG))))
    (zC (z3 (xL PySem.F.plainAttrs_list PySem.F.slot_list_extend PySem.F.type_list_extend xW (pv 2) (zA (yL (sl_tup2:SlR _ (rSlT2 K)) (pv 0) (yB (pv 3)) (yB (pv 4))) pa_nil)))
    (zC (z3 (xL PySem.F.plainAttrs_list PySem.F.slot_list_extend PySem.F.type_list_extend xW (pv 2) (zA (pv 6) pa_nil)))
    (zH (zJ (i:=3) sc.nd rfl (Or.inl rfl) (pv 5))))))
   (zC (z3 (xL PySem.F.plainAttrs_list PySem.F.slot_list_extend PySem.F.type_list_extend xW (pv 2) (zA (yL (sl_tup2:SlR _ (rSlT2 K)) (pv 0) (yB (pv 3)) qR) pa_nil)))
   (zH (zW (z5 z9 (by rfl) T.tuple PyProof.Rows.boot_tuple (zA (pv 2) pa_nil)))))))),?_⟩
  obtain ⟨l',vs,e0,hl,hvs⟩:=hd
  have e0:l = l':=by injection e0
  subst e0
  have vl:=hvs.length
  rw [List.length_map] at vl
  refine ⟨Nat.zero_le _,fun o no=>?_⟩
  have s0:=same_upd (o:=.lst []) no
  refine ⟨_,rfl,l,rfl,⟨_,s0.seq hl⟩,y9 (K:=K) (a:=l) (xs:=vs) (fun i σ H2=>∃ (pl:Nat) (fr:List Str) (o4 o5 o6:Option V),σ = [some (.ref a),some (.ref l),some (.ref o),some (.int pl),o4,o5,o6] /\ Same H H2 /\ H2 o = some (.lst (fr.map V.str)) /\ fr.length <= 2000 * i /\ pl <= xs.length /\ An12.Ends xs.length pl (rs.drop i) /\ fr ++ An12.patchL xs pl (rs.drop i) = An12.patchL xs 0 rs)
   ⟨0,[],none,none,none,rfl,s0,zB,Nat.zero_le _,Nat.zero_le _,ends,rfl⟩ (fun i σ H2 _ ⟨_,_,_,_,_,_,e,_⟩=>e.seq hl) ?_ ?_⟩
  ·rintro i x σ H2 hi ⟨pl,fr,o4,o5,o6,rfl,e2,ho2,frl,pll,end2,eq⟩
   have hil:i < vs.length:=(List.getElem?_eq_some_iff.mp hi).1
   obtain ⟨r,t,v,er,rfl,ht,hd⟩:=An12.rows_get hvs hi
   have hdr:rs.drop i = r :: rs.drop (i + 1):=by
    obtain ⟨hj',ej⟩:=List.getElem?_eq_some_iff.mp er
    rw [List.drop_eq_getElem_cons hj',ej]
   rw [hdr] at end2 eq
   obtain ⟨g1,g2,g3,⟨ls,el,ll⟩,g5⟩:=end2
   rw [el] at hd
   obtain ⟨tl,xs2,rfl,htl,hxs2⟩:=hd
   have hxs2:=DtAll.strs_of hxs2
   subst hxs2
   obtain ⟨lo,hlo⟩:∃ n:Nat,r.1 = n:=⟨r.1.toNat,by omega⟩
   obtain ⟨hi',hhi⟩:∃ n:Nat,r.2.1 = n:=⟨r.2.1.toNat,by omega⟩
   rw [hlo,hhi] at ht
   have ha2:=e2.tupS ha
   refine ⟨t,_,rfl,e2.tupS ht,rfl,_,_,rfl,_,_,rfl,_,_,rfl,rfl,?_⟩
   refine ⟨_,rfl,.inl ⟨rfl,_,SqL.of ho2⟩,_,rfl,_,rfl,_,rfl,_,rfl,_,rfl,a,_,rfl,ha2,fun v H4 hv=>?_⟩
   obtain ⟨q4,rfl,s4,hq4⟩:=An12.cut_any ha2 hv
   rw [An12.cut_mid pll (by omega)] at hq4
   have cl:((xs.drop pl).take (lo - pl)).length <= 1000:=by rw [List.length_take,List.length_drop]; omega
   refine ⟨o,q4,_,_,rfl,rfl,s4 _ _ ho2,hq4,le_line (by rw [List.length_map,List.length_map]; omega),?_⟩
   have s5:Same H (upd H4 o (.lst (fr.map V.str ++ ((xs.drop pl).take (lo - pl)).map V.str))):=An.Same.updF (e2.trans s4) no
   refine ⟨_,rfl,.inl ⟨rfl,_,SqL.of zB⟩,_,rfl,o,tl,_,_,rfl,rfl,zB,s5.tupS htl,le_line (by rw [List.length_append,List.length_map,List.length_map,List.length_map]; omega),?_⟩
   refine ⟨_,rfl,hi',fr ++ (xs.drop pl).take (lo - pl) ++ ls,_,_,_,rfl,An.Same.updF s5 no,?_,?_,by omega,?_,?_⟩
   ·rw [qW,zB,List.map_append,List.map_append]
   ·rw [List.length_append,List.length_append]; omega
   ·rw [hhi,Int.toNat_natCast] at g5; exact g5
   ·have eq:fr ++ ((xs.drop pl).take (r.1.toNat - pl) ++ An12.linesOf r.2.2 ++ An12.patchL xs r.2.1.toNat (rs.drop (i + 1))) = _:=eq
    rw [el,An12.linesOf_strs,hlo,hhi,Int.toNat_natCast,Int.toNat_natCast] at eq
    rw [← eq]
    simp only [List.append_assoc]
  ·rintro σ H2 ⟨pl,fr,o4,o5,o6,rfl,e2,ho2,frl,pll,end2,eq⟩
   have e0:rs.drop vs.length = []:=List.drop_of_length_le (by omega)
   rw [e0] at eq
   have ha2:=e2.tupS ha
   refine ⟨_,rfl,.inl ⟨rfl,_,SqL.of ho2⟩,_,rfl,_,rfl,_,rfl,a,_,rfl,ha2,fun v H4 hv=>?_⟩
   obtain ⟨q4,rfl,s4,hq4⟩:=An12.cut_any ha2 hv
   rw [An12.cut_rest pll] at hq4
   refine ⟨o,q4,_,_,rfl,rfl,s4 _ _ ho2,hq4,le_line (by rw [List.length_map,List.length_map,List.length_drop]; omega),?_⟩
   have s5:Same H (upd H4 o (.lst (fr.map V.str ++ (xs.drop pl).map V.str))):=An.Same.updF (e2.trans s4) no
   refine ⟨_,rfl,o,_,rfl,.inl ⟨SqL.of zB,fun p np=>k p _ (s5.trans (same_upd np)) (s5.free np) (SqT.of ?_)⟩⟩
   rw [zB,← eq,List.map_append]
   rfl
end f_spans_done
namespace j_near
abbrev st:Stmt:=top 9
theorem sc:FnScope ["one","other"] ["one","other"] (zE st):=⟨rfl,rfl,rfl,by decide +kernel,rfl,by decide +kernel,by decide +kernel⟩
theorem ok {f:Addr} {fd:FuncData} (F:Fun K "near_spans" "near_spans" st f fd) (T:Txt K mg t1 t2):FnOk P w K mg base CX0 1 f fd ["one","other"] (AnJ.spNear K):=by
 refine F.ok sc (fun vs H Q E h=>?_) (fun cdv A outer s H vs Q E hr h=>?_)
 ·obtain ⟨p,q,a,b,c,d,r,r',rfl,_⟩:=h
  rfl
 ·obtain ⟨p,q,a,b,c,d,r,r',rfl,hp,hq,k⟩:=h
  refine ⟨_,(zH (zW (pe_and (pe_cmpR op_le (zM (ix_tup:IxR _ (rIxT K)) (pv 0) zG (fun _ _=>rfl)) (zM (ix_tup:IxR _ (rIxT K)) (pv 1) zG (fun _ _=>rfl)) (zX _)) (pe_one (pe_cmpR op_le (zM (ix_tup:IxR _ (rIxT K)) (pv 1) zG (fun _ _=>rfl)) (zM (ix_tup:IxR _ (rIxT K)) (pv 0) zG (fun _ _=>rfl)) (zX _)))))),?_⟩
  refine ⟨_,rfl,p,_,_,_,rfl,rfl,hp,atI_zero _ _,_,rfl,q,_,_,_,rfl,rfl,hq,AnJ.at_one _ _ _,_,_,rfl,rfl,_,rfl,ite2 (fun h1=>?_) (fun h1=>?_)⟩
  ·rw [h1] at k
   exact ⟨_,rfl,q,_,_,_,rfl,rfl,hq,atI_zero _ _,_,rfl,p,_,_,_,rfl,rfl,hp,AnJ.at_one _ _ _,_,_,rfl,rfl,k⟩
  ·rw [Bool.not_eq_true] at h1
   rw [h1] at k
   exact k
end j_near
namespace j_clean
abbrev st:Stmt:=top 14
theorem sc:FnScope ["parts","lines","part"] ["parts"] (zE st):=⟨rfl,rfl,rfl,by decide +kernel,rfl,by decide +kernel,by decide +kernel⟩
theorem ok {f:Addr} {fd:FuncData} (F:Fun K "clean_lines" "clean_lines" st f fd) (T:Txt K mg t1 t2):FnOk P w K mg base CX0 1 f fd ["parts"] (AnJ.spClean K):=by
 refine F.ok sc (fun vs H Q E h=>?_) (fun cdv A outer s H vs Q E hr h=>?_)
 ·obtain ⟨l,ps,rfl,_⟩:=h
  rfl
 ·obtain ⟨l,ps,rfl,hd,n,hs,k1,k2⟩:=h
  refine ⟨_,(zC (zJ (i:=1) sc.nd rfl (Or.inl rfl) (zZ pa_nil))
   (zC (yZ PassesOwn.never rfl (yN (pv 0)) (zN (i:=2) sc.nd rfl (Or.inl rfl))
    (zC (yS (zQ op_eq (zM (ix_tup:IxR _ (rIxT K)) (pv 2) zG (fun _ _=>rfl)) zS (zX _))
     (zH (zW pe_non))
     z4)
    (zH (z3 (xL PySem.F.plainAttrs_list PySem.F.slot_list_extend PySem.F.type_list_extend xW (pv 1) (zA (zM (ix_tup:IxR _ (rIxT K)) (pv 2) zG (fun _ _=>rfl)) pa_nil))))))
   (zH (zW (z5 z9 (by rfl) T.tuple PyProof.Rows.boot_tuple (zA (pv 1) pa_nil)))))),?_⟩
  obtain ⟨l',vs,e0,hl,hvs⟩:=hd
  cases e0
  have vl:=hvs.length
  rw [List.length_map] at vl
  refine ⟨Nat.zero_le _,fun o no=>?_⟩
  have s0:=same_upd (o:=.lst []) no
  refine ⟨_,rfl,l,rfl,⟨_,s0.seq hl⟩,y9 (K:=K) (a:=l) (xs:=vs) (fun i σ H2=>∃ (fr:List Str) (o2:Option V),σ = [some (.ref l),some (.ref o),o2] /\ Same H H2 /\ H2 o = some (.lst (fr.map V.str)) /\ fr.length <= 20000 * i /\ AnJ.cleanL ps = (AnJ.cleanL (ps.drop i)).map (fr ++ ·))
   ⟨[],none,rfl,s0,zB,Nat.zero_le _,by rw [List.drop_zero]; cases AnJ.cleanL ps <;> rfl⟩ (fun i σ H2 _ ⟨_,_,_,e,_⟩=>e.seq hl) ?_ ?_⟩
  ·rintro i x σ H2 hi ⟨fr,o2,rfl,e2,ho,frl,eq⟩
   obtain ⟨p,ep,hp⟩:=AnJ.dts_get hvs hi
   have hil:i < vs.length:=(List.getElem?_eq_some_iff.mp hi).1
   have hdr:ps.drop i = p :: ps.drop (i + 1):=by
    obtain ⟨hj',ej⟩:=List.getElem?_eq_some_iff.mp ep
    rw [List.drop_eq_getElem_cons hj',ej]
   rw [hdr] at eq
   cases p with
   | same y =>
    obtain ⟨t,q,rfl,h1,h2⟩:=AnJ.same_open hp
    have yl:=hs y (List.mem_of_getElem? ep)
    refine ⟨_,rfl,t,_,_,_,rfl,rfl,e2.tupS h1,rfl,rfl,_,rfl,iteN AnJ.ne_sc ?_⟩
    refine ⟨_,rfl,.inl ⟨rfl,_,SqL.of ho⟩,_,rfl,t,_,_,_,rfl,rfl,e2.tupS h1,rfl,o,q,_,_,rfl,rfl,ho,e2.tupS h2,le_line (by rw [List.length_map,List.length_map]; omega),?_⟩
    refine ⟨fr ++ y,_,rfl,An.Same.updF e2 no,by rw [zB,List.map_append],by rw [List.length_append]; omega,?_⟩
    rw [eq]
    show Option.map _ ((AnJ.cleanL (ps.drop (i + 1))).map (y ++ ·)) = _
    cases AnJ.cleanL (ps.drop (i + 1)) with
    | none=>rfl
    | some z =>
     show some (fr ++ (y ++ z)) = some (fr ++ y ++ z)
     rw [List.append_assoc]
   | clash b m y =>
    obtain ⟨t,q1,q2,q3,rfl,h1,h2,h3,h4⟩:=AnJ.clash_open hp
    refine ⟨_,rfl,t,_,_,_,rfl,rfl,e2.tupS h1,rfl,rfl,_,rfl,iteY rfl ?_⟩
    exact k1 eq H2 e2
  ·rintro σ H2 ⟨fr,o2,rfl,e2,ho,frl,eq⟩
   rw [List.drop_of_length_le (by omega)] at eq
   have eq:AnJ.cleanL ps = some (fr ++ []):=eq
   rw [List.append_nil] at eq
   exact ⟨_,rfl,o,_,rfl,.inl ⟨SqL.of ho,fun p np=>k2 fr eq p _ (e2.trans (same_upd np)) (SqT.of zB)⟩⟩
end j_clean
namespace j_side
abbrev st:Stmt:=top 11
theorem sc:FnScope ["base","low","high","rows"] ["base","low","high","rows"] (zE st):=⟨rfl,rfl,rfl,by decide +kernel,rfl,by decide +kernel,by decide +kernel⟩
theorem ok {f:Addr} {fd:FuncData} (F:Fun K "side_lines" "side_lines" st f fd) (T:Txt K mg t1 t2) (C_spans_done:Cal P w K mg base 1 "spans_done" ["old","rows"] (An12.spDone K)):FnOk P w K mg base CX0 2 f fd ["base","low","high","rows"] (AnJ.spSide K):=by
 refine F.ok sc (fun vs H Q E h=>?_) (fun cdv A outer s H vs Q E hr h=>?_)
 ·obtain ⟨a,l,lo,hi,xs,rs,rfl,_⟩:=h
  rfl
 ·obtain ⟨a,l,lo,hi,xs,rs,rfl,ha,hd,x1,r1,rl,val,hx,k⟩:=h
  refine ⟨_,(zH (zW (zK C_spans_done (hr.mono (by decide)) (zA (yL (sl_tup2:SlR _ (rSlT2 K)) (pv 0) (yB (pv 1)) (yB (pv 2))) (zA (qU (sc:=zE st) (N:=["base","low","high","rows"]) (N':=["row","low"]) (src:=[none,some 1]) ⟨by decide +kernel,rfl,rfl,by decide +kernel,by decide +kernel,by decide +kernel,by decide +kernel⟩ rfl rfl rfl (yN (pv 3)) (fun _ _ _ _=>(zN (i:=0) (show (["row","low"]:List Str).Nodup by decide +kernel) rfl (Or.inl rfl))) (fun _ _ _ _=>x5) (fun _ _ _ _=>(yC (zA (zV op_sub (zM (ix_tup:IxR _ (rIxT K)) (pv 0) zG (fun _ _=>rfl)) (pv 1)) (zA (zV op_sub (zM (ix_tup:IxR _ (rIxT K)) (pv 0) zG (fun _ _=>rfl)) (pv 1)) (zA (zM (ix_tup:IxR _ (rIxT K)) (pv 0) zG (fun _ _=>rfl)) pa_nil)))))) pa_nil))))),?_⟩
  obtain ⟨l',vs,e0,hl,hvs⟩:=hd
  cases e0
  have vl:=hvs.length
  rw [List.length_map] at vl
  have lh:=val.le
  refine ⟨_,rfl,_,rfl,_,rfl,_,rfl,_,rfl,a,_,rfl,ha,fun v H1 hv=>?_⟩
  obtain ⟨q1,rfl,s1,hq1⟩:=An12.cut_any ha hv
  rw [An12.cut_mid (by omega) hx] at hq1
  have hq1:SqT K H1 q1 ((AnJ.cut xs lo hi).map V.str):=hq1
  refine ⟨_,rfl,l,rfl,⟨_,s1.seq hl⟩,yQ (K:=K) (a:=l) (xs:=vs) (fun i ys σ H2=>∃ o,σ = [o,some (.int lo)] /\ Same H1 H2 /\ ys.length <= i /\ DtAll K H2 (((rs.take i).map fun s=>((s.1:Int) - lo,(s.2.1:Int) - lo,AnJ.tupS s.2.2)).map An12.rowDat) ys) ⟨none,rfl,Same.refl _,Nat.le_refl _,rfl⟩ (le_line (by omega)) ?_ ?_ ?_⟩
  ·rintro i ys σ H2 hi ⟨o,rfl,e,n2,_⟩
   exact ⟨e.seq (s1.seq hl),n2⟩
  ·rintro i x ys σ H2 hi' ⟨o,rfl,e,n2,hy⟩
   obtain ⟨sp,ep,hp⟩:=AnJ.dts_get hvs hi'
   obtain ⟨t,q,rfl,h1,h2⟩:=AnJ.sp_open hp
   have e1:=s1.trans e
   have h1:=e1.tupS h1
   refine ⟨_,rfl,t,_,_,_,rfl,rfl,h1,rfl,_,rfl,_,_,rfl,rfl,_,rfl,t,_,_,_,rfl,rfl,h1,rfl,_,rfl,_,_,rfl,rfl,_,rfl,t,_,_,_,rfl,rfl,h1,rfl,lineN 3,fun p np=>?_⟩
   have u:=same_upd (o:=.tup [V.int ((sp.1:Int) - lo),V.int ((sp.2.1:Int) - lo),V.ref q]) np
   refine ⟨_,rfl,e.trans u,by rw [List.length_append,List.length_singleton]; omega,?_⟩
   rw [List.take_add_one,ep,List.map_append,List.map_append]
   exact DtAll.append (DtAll.same u _ _ hy) ⟨_,_,rfl,⟨p,_,rfl,SqT.of zB,_,_,rfl,rfl,_,_,rfl,rfl,_,_,rfl,AnJ.lines_dt (u.tupS (e1.tupS h2)),rfl⟩,rfl⟩
  ·rintro ys σ H2 ⟨o,rfl,e,n2,hy⟩ p np
   rw [vl,List.take_length] at hy
   have u:=same_upd (o:=.lst ys) np
   have e3:=e.trans u
   refine ⟨q1,p,AnJ.cut xs lo hi,_,rfl,e3.tupS hq1,⟨p,ys,rfl,SqL.of zB,DtAll.same u _ _ hy⟩,by rw [AnJ.cut_len hx]; omega,by rw [List.length_map]; omega,?_,fun p' H4 s4 f4 hp'=>?_⟩
   ·have:=AnJ.side_ends hx (Nat.le_refl lo) val rl
    rw [Nat.sub_self] at this
    exact this
   ·have:=AnJ.side_patch hx (Nat.le_refl lo) val
    rw [Nat.sub_self] at this
    rw [this] at hp'
    exact k p' H4 (s1.trans (e3.trans s4)) hp'
end j_side
namespace j_add
abbrev st:Stmt:=top 13
theorem sc:FnScope ["parts","lines","ahead","last"] ["parts","lines"] (zE st):=⟨rfl,rfl,rfl,by decide +kernel,rfl,by decide +kernel,by decide +kernel⟩
theorem ok {f:Addr} {fd:FuncData} (F:Fun K "add_same" "add_same" st f fd) (T:Txt K mg t1 t2):FnOk P w K mg base CX0 1 f fd ["parts","lines"] (AnJ.spAddSame K):=by
 refine F.ok sc (fun vs H Q E h=>?_) (fun cdv A outer s H vs Q E hr h=>?_)
 ·obtain ⟨o,q,done,acc,ls,rfl,_⟩:=h
  rfl
 ·obtain ⟨o,q,done,acc,ls,rfl,⟨vs,ho,hv⟩,ns,hq,n1,n2,n3,k⟩:=h
  refine ⟨_,(zC (zJ (i:=2) sc.nd rfl (Or.inl rfl) (yC pa_nil))
   (pss_cut (yS (PW.pt (pw_and (zQ op_gt (zO zL (by rfl) T.len PySem.boot_len (zA (pv 0) pa_nil)) zG (zX _)) (pw_and1 (zQ op_eq (zM (ix_tup:IxR _ (rIxT K)) (zM (ix_list:IxR _ (rIxL K)) (pv 0) (pe_un un_neg zG) (fun _ _=>rfl)) zG (fun _ _=>rfl)) zS (zX _)))))
    (zC (zJ (i:=3) sc.nd rfl (Or.inl rfl) (pe_bm0 PySem.F.plainAttrs_list PySem.F.slot_list_pop PySem.F.type_list_pop mt_pop (pv 0)))
    (zH (zJ (i:=2) sc.nd rfl (Or.inl rfl) (zM (ix_tup:IxR _ (rIxT K)) (pv 3) zG (fun _ _=>rfl)))))
    z4)
   (zH (yS (zQ op_gt (zO zL (by rfl) T.len PySem.boot_len (zA (zV (op_catT2:OpR _ _ (rCatT2 K)) (pv 2) (pv 1)) pa_nil)) zG (zX _))
    (zH (z3 (xL PySem.F.plainAttrs_list PySem.F.slot_list_append PySem.F.type_list_append yE (pv 0) (zA (yC (zA zS (zA (zV (op_catT2:OpR _ _ (rCatT2 K)) (pv 2) (pv 1)) pa_nil))) pa_nil))))
    z4)))),?_⟩
  refine ⟨lineN 0,fun t0 m0=>?_⟩
  have u0:=same_upd (o:=.tup []) m0
  have vl:=hv.length
  rw [List.length_map,List.length_append] at vl
  have ho0:=u0 _ _ ho
  have hv0:=DtAll.same u0 _ _ hv
  have hq0:=u0.tupS hq
  have ht0:SqT K (upd H t0 (.tup [])) t0 (([]:List Str).map V.str):=SqT.of zB
  show tSeq _ _ _ _ (upd H t0 (.tup []))
  generalize upd H t0 (.tup []) = H0 at u0 ho0 hv0 hq0 ht0
  refine ⟨fun σ' H'=>∃ (q2:Addr) (o3:Option V),σ' = [some (.ref o),some (.ref q),some (.ref q2),o3] /\ TSame H H' /\ Same (An12.hide H o) (An12.hide H' o) /\ AnJ.PartsAt K H' o done /\ SqT K H' q2 (acc.map V.str),?_,?_⟩
  ·by_cases ea:acc = []
   ·subst ea
    have ef:done ++ AnJ.flush ([]:List Str) = done:=List.append_nil _
    rw [ef] at hv0
    have fin:∃ (q2:Addr) (o3:Option V),[some (V.ref o),some (.ref q),some (.ref t0),none] = [some (.ref o),some (.ref q),some (.ref q2),o3] /\ TSame H H0 /\ Same (An12.hide H o) (An12.hide H0 o) /\ AnJ.PartsAt K H0 o done /\ SqT K H0 q2 (([]:List Str).map V.str) :=
     ⟨t0,none,rfl,same_t u0,An12.same_hide o u0,⟨vs,ho0,hv0⟩,ht0⟩
    rcases List.eq_nil_or_concat done with rfl | ⟨d,p,ed⟩
    ·have e0:vs = []:=List.eq_nil_of_length_eq_zero (by simpa [AnJ.flush] using vl)
     subst e0
     exact ⟨_,rfl,o,_,rfl,.inl (SqL.of ho0),_,_,rfl,rfl,_,rfl,ite2 (fun h=>absurd h (by simp)) fun h=>fin⟩
    ·rw [List.concat_eq_append] at ed
     subst ed
     have hp:=AnJ.noSame_last ns
     cases p with
     | same x=>cases hp
     | clash b m y =>
      obtain ⟨v1,v2,rfl,h1,h2⟩:=AnJ.dts_snoc hv0
      obtain ⟨t,q1,q2,q3,rfl,g1,g2,g3,g4⟩:=AnJ.clash_open h2
      refine ⟨_,rfl,o,_,rfl,.inl (SqL.of ho0),_,_,rfl,rfl,_,rfl,ite2 (fun h=>?_) fun h=>fin⟩
      exact ⟨_,rfl,_,rfl,o,_,_,_,rfl,rfl,SqL.of ho0,AnJ.at_last,t,_,_,_,rfl,rfl,g1,rfl,rfl,_,rfl,iteN AnJ.ne_cs fin⟩
   ·have ef:AnJ.flush acc = [.same acc]:=by
     unfold AnJ.flush
     rw [if_neg fun z=>ea (List.eq_nil_of_length_eq_zero z)]
    rw [ef] at hv0
    obtain ⟨v1,v2,rfl,h1,h2⟩:=AnJ.dts_snoc hv0
    obtain ⟨t,q1,rfl,g1,g2⟩:=AnJ.same_open h2
    refine ⟨_,rfl,o,_,rfl,.inl (SqL.of ho0),_,_,rfl,rfl,_,rfl,ite2 (fun h=>?_) fun h=>absurd (show decide _ = true from decide_eq_true (by rw [List.length_append,List.length_singleton]; omega)) h⟩
    refine ⟨_,rfl,_,rfl,o,_,_,_,rfl,rfl,SqL.of ho0,AnJ.at_last,t,_,_,_,rfl,rfl,g1,rfl,rfl,_,rfl,iteY rfl ?_⟩
    refine ⟨_,rfl,.inl ⟨rfl,_,SqL.of ho0⟩,o,_,_,rfl,rfl,ho0,AnJ.last_get,?_⟩
    have ts:TSame H0 (upd H0 o (.lst (v1 ++ [V.ref t]).dropLast)):=TSame.upd ho0
    refine ⟨_,rfl,t,_,_,_,rfl,rfl,ts.tup g1,rfl,q1,_,rfl,(same_t u0).trans ts,?_,⟨v1,by rw [zB,List.dropLast_concat],AnJ.DtAll.ts ts _ _ (AnJ.noL_pts _) h1⟩,ts.tup g2⟩
    rw [An12.hide_upd]
    exact An12.same_hide o u0
  ·rintro σ' H1 ⟨q2,o3,rfl,ts,sh,⟨v1,h1,d1⟩,a1⟩
   have hq1:=ts.tup hq
   have vl1:=d1.length
   rw [List.length_map] at vl1
   refine ⟨_,rfl,_,rfl,q2,q,_,_,rfl,rfl,a1,hq1,le_line (by rw [List.length_map,List.length_map]; omega),fun p2 H2 s2 hp2=>?_⟩
   refine ⟨p2,_,rfl,.inr hp2,_,_,rfl,rfl,_,rfl,ite2 (fun h=>?_) fun h=>?_⟩
   ·have ne:acc ++ ls ≠ []:=fun z=>by
     have h:=of_decide_eq_true h
     have:(acc.map V.str ++ ls.map V.str).length = (acc ++ ls).length:=by simp
     rw [this,z] at h
     exact absurd h (by decide)
    have ef:AnJ.flush (acc ++ ls) = [.same (acc ++ ls)]:=by
     unfold AnJ.flush
     rw [if_neg fun z=>ne (List.eq_nil_of_length_eq_zero z)]
    refine ⟨_,rfl,.inl ⟨rfl,_,SqL.of (s2 _ _ h1)⟩,_,rfl,_,rfl,q2,q,_,_,rfl,rfl,s2.tupS a1,s2.tupS hq1,le_line (by rw [List.length_map,List.length_map]; omega),fun p3 H3 s3 hp3=>⟨lineN 2,fun t m=>?_⟩⟩
    have u3:=same_upd (o:=.tup [V.str "same",V.ref p3]) m
    have s13:=s2.trans (s3.trans u3)
    have ho3:=s13 _ _ h1
    have d3:=DtAll.same s13 _ _ d1
    have hp3':=u3.tupS hp3
    rw [← List.map_append] at hp3'
    have hd3:Dt K (upd H3 t (.tup [V.str "same",V.ref p3])) (AnJ.ptD (.same (acc ++ ls))) (.ref t):=AnJ.same_close (SqT.of zB) hp3'
    refine ⟨o,_,_,rfl,rfl,ho3,yY (by omega),?_⟩
    have ts3:TSame (upd H3 t (.tup [V.str "same",V.ref p3])) (upd (upd H3 t (.tup [V.str "same",V.ref p3])) o (.lst (v1 ++ [V.ref t]))):=TSame.upd ho3
    refine k _ ((ts.trans (same_t s13)).trans ts3) ?_ ⟨v1 ++ [V.ref t],zB,?_⟩
    ·rw [An12.hide_upd]
     exact sh.trans (An12.same_hide o s13)
    ·rw [ef,List.map_append]
     exact AnJ.DtAll.ts ts3 _ _ (by rw [← List.map_append]; exact AnJ.noL_pts _) (DtAll.append d3 ⟨_,_,rfl,hd3,rfl⟩)
   ·have e0:acc ++ ls = []:=List.eq_nil_of_length_eq_zero (by
     have:(acc.map V.str ++ ls.map V.str).length = (acc ++ ls).length:=by simp
     rw [this] at h
     have h:¬ ((acc ++ ls).length:Int) > 0:=fun z=>h (decide_eq_true z)
     omega)
    refine k _ (ts.trans (same_t s2)) (sh.trans (An12.same_hide o s2)) ⟨v1,s2 _ _ h1,?_⟩
    rw [e0]
    have ef:done ++ AnJ.flush ([]:List Str) = done:=List.append_nil _
    rw [ef]
    exact DtAll.same s2 _ _ d1
end j_add
namespace j_groups
abbrev st:Stmt:=top 10
theorem sc:FnScope ["ones","others","groups","span","place","last"] ["ones","others"] (zE st):=⟨rfl,rfl,rfl,by decide +kernel,rfl,by decide +kernel,by decide +kernel⟩
theorem ok {f:Addr} {fd:FuncData} (F:Fun K "groups_of" "groups_of" st f fd) (T:Txt K mg t1 t2) (C_near_spans:Cal P w K mg base 1 "near_spans" ["one","other"] (AnJ.spNear K)):FnOk P w K mg base CX0 2 f fd ["ones","others"] (AnJ.spGroups K):=by
 refine F.ok sc (fun vs H Q E h=>?_) (fun cdv A outer s H vs Q E hr h=>?_)
 ·obtain ⟨a,b,n,A1,B1,rfl,_⟩:=h
  rfl
 ·obtain ⟨a,b,n,A1,B1,rfl,⟨a',va,e0,hla,hva⟩,⟨b',vb,e1,hlb,hvb⟩,ra,rb,k⟩:=h
  cases e0
  cases e1
  refine ⟨_,(zC (zJ (i:=2) sc.nd rfl (Or.inl rfl) (zZ pa_nil))
   (zC (yZ PassesOwn.never rfl (yN (zO (call_sortedT (K:=K) hr.units) (by rfl) T.sorted PyProof.Rows.boot_sorted (zA (zV op_cat (qU (sc:=zE st) (N:=["ones","others","groups","span","place","last"]) (N':=["one"]) (src:=[none]) ⟨by decide +kernel,rfl,rfl,by decide +kernel,by decide +kernel,by decide +kernel,by decide +kernel⟩ rfl rfl rfl (yN (pv 0)) (fun _ _ _ _=>(zN (i:=0) (show (["one"]:List Str).Nodup by decide +kernel) rfl (Or.inl rfl))) (fun _ _ _ _=>x5) (fun _ _ _ _=>(yC (zA (pv 0) (zA (pe_glob (v:=.int 2) rfl T.ONES ⟨_,rfl⟩) pa_nil))))) (qU (sc:=zE st) (N:=["ones","others","groups","span","place","last"]) (N':=["other"]) (src:=[none]) ⟨by decide +kernel,rfl,rfl,by decide +kernel,by decide +kernel,by decide +kernel,by decide +kernel⟩ rfl rfl rfl (yN (pv 1)) (fun _ _ _ _=>(zN (i:=0) (show (["other"]:List Str).Nodup by decide +kernel) rfl (Or.inl rfl))) (fun _ _ _ _=>x5) (fun _ _ _ _=>(yC (zA (pv 0) (zA (pe_glob (v:=.int 3) rfl T.OTHERS ⟨_,rfl⟩) pa_nil)))))) pa_nil))) (pg_tup rfl (yF (zN (i:=3) sc.nd rfl (Or.inl rfl)) (yF (zN (i:=4) sc.nd rfl (Or.inl rfl)) jG)))
    (pss_cut (yS (PW.pt (pw_or (zQ op_eq (zO zL (by rfl) T.len PySem.boot_len (zA (pv 2) pa_nil)) zG (zX _)) (jF (jB (yU (K:=K) (zK C_near_spans (hr.mono (by decide)) (zA (zM (ix_list:IxR _ (rIxL K)) (pv 2) (pe_un un_neg zG) (fun _ _=>rfl)) (zA (pv 3) pa_nil))) (fun _=>rfl))))))
     (zH (z3 (xL PySem.F.plainAttrs_list PySem.F.slot_list_append PySem.F.type_list_append yE (pv 2) (zA (yC (zA (zM (ix_tup:IxR _ (rIxT K)) (pv 3) zG (fun _ _=>rfl)) (zA (zM (ix_tup:IxR _ (rIxT K)) (pv 3) zG (fun _ _=>rfl)) (zA (zZ pa_nil) (zA (zZ pa_nil) pa_nil))))) pa_nil))))
     z4)
    (zC (zJ (i:=5) sc.nd rfl (Or.inl rfl) (pe_bm0 PySem.F.plainAttrs_list PySem.F.slot_list_pop PySem.F.type_list_pop mt_pop (pv 2)))
    (zC (z3 (xL PySem.F.plainAttrs_list PySem.F.slot_list_append PySem.F.type_list_append yE (zM (ix_tup:IxR _ (rIxT K)) (pv 5) (pv 4) (fun _ _=>rfl)) (zA (pv 3) pa_nil)))
    (zH (z3 (xL PySem.F.plainAttrs_list PySem.F.slot_list_append PySem.F.type_list_append yE (pv 2) (zA (yC (zA (zM (ix_tup:IxR _ (rIxT K)) (pv 5) zG (fun _ _=>rfl)) (zA (zO (call_max2 rfl) (by rfl) T.max PyProof.Rows.boot_max (zA (zM (ix_tup:IxR _ (rIxT K)) (pv 5) zG (fun _ _=>rfl)) (zA (zM (ix_tup:IxR _ (rIxT K)) (pv 3) zG (fun _ _=>rfl)) pa_nil))) (zA (zM (ix_tup:IxR _ (rIxT K)) (pv 5) (pe_glob (v:=.int 2) rfl T.ONES ⟨_,rfl⟩) (fun _ _=>rfl)) (zA (zM (ix_tup:IxR _ (rIxT K)) (pv 5) (pe_glob (v:=.int 3) rfl T.OTHERS ⟨_,rfl⟩) (fun _ _=>rfl)) pa_nil))))) pa_nil))))))))
   (zH (zW (pv 2))))),?_⟩
  have val:=hva.length
  have vbl:=hvb.length
  rw [List.length_map] at val vbl
  have ral:=ra.len
  have rbl:=rb.len
  refine ⟨Nat.zero_le _,fun o no=>?_⟩
  have s0:=same_upd (o:=.lst []) no
  have ho0:upd H o (.lst []) o = some (.lst []):=zB
  generalize upd H o (.lst []) = H0 at s0 ho0
  refine ⟨_,rfl,a,rfl,⟨_,s0.seq hla⟩,yQ (K:=K) (a:=a) (xs:=va) (fun i ys σ H2=>∃ q,σ = [q] /\ Same H0 H2 /\ ys.length = i /\ DtAll K H2 (((A1.take i).map fun s=>(s,false)).map AnJ.prD) ys) ⟨none,rfl,Same.refl _,rfl,rfl⟩ (le_line (by omega)) ?_ ?_ ?_⟩
  ·rintro i ys σ H2 hi ⟨q,rfl,e,n2,_⟩
   exact ⟨e.seq (s0.seq hla),Nat.le_of_eq n2⟩
  ·rintro i x ys σ H2 hi ⟨q,rfl,e,n2,hy⟩
   obtain ⟨sp,ep,hp⟩:=AnJ.dts_get hva hi
   have hp:=Dt.same (s0.trans e) _ _ hp
   refine ⟨_,rfl,lineN 2,fun p np=>?_⟩
   have u:=same_upd (o:=.tup [x,V.int 2]) np
   refine ⟨_,rfl,e.trans u,by rw [List.length_append,n2]; rfl,?_⟩
   rw [List.take_add_one,ep,List.map_append,List.map_append]
   exact DtAll.append (DtAll.same u _ _ hy) ⟨_,_,rfl,⟨p,_,rfl,SqT.of zB,_,_,rfl,Dt.same u _ _ hp,_,_,rfl,rfl,rfl⟩,rfl⟩
  rintro y1 σ1 H1 ⟨q1,rfl,e1,n1,hy1⟩ p1 np1
  rw [val,List.take_length] at hy1
  have u1:=same_upd (o:=.lst y1) np1
  have hp1:upd H1 p1 (.lst y1) p1 = some (.lst y1):=zB
  have hy1:=DtAll.same u1 _ _ hy1
  have e1:=e1.trans u1
  generalize upd H1 p1 (.lst y1) = H1 at e1 hp1 hy1
  refine ⟨_,rfl,b,rfl,⟨_,e1.seq (s0.seq hlb)⟩,yQ (K:=K) (a:=b) (xs:=vb) (fun i ys σ H2=>∃ q,σ = [q] /\ Same H1 H2 /\ ys.length = i /\ DtAll K H2 (((B1.take i).map fun s=>(s,true)).map AnJ.prD) ys) ⟨none,rfl,Same.refl _,rfl,rfl⟩ (le_line (by omega)) ?_ ?_ ?_⟩
  ·rintro i ys σ H2 hi ⟨q,rfl,e,n2,_⟩
   exact ⟨e.seq (e1.seq (s0.seq hlb)),Nat.le_of_eq n2⟩
  ·rintro i x ys σ H2 hi ⟨q,rfl,e,n2,hy⟩
   obtain ⟨sp,ep,hp⟩:=AnJ.dts_get hvb hi
   have hp:=Dt.same (s0.trans (e1.trans e)) _ _ hp
   refine ⟨_,rfl,lineN 2,fun p np=>?_⟩
   have u:=same_upd (o:=.tup [x,V.int 3]) np
   refine ⟨_,rfl,e.trans u,by rw [List.length_append,n2]; rfl,?_⟩
   rw [List.take_add_one,ep,List.map_append,List.map_append]
   exact DtAll.append (DtAll.same u _ _ hy) ⟨_,_,rfl,⟨p,_,rfl,SqT.of zB,_,_,rfl,Dt.same u _ _ hp,_,_,rfl,rfl,rfl⟩,rfl⟩
  rintro y2 σ2 H2 ⟨q2,rfl,e2,n2,hy2⟩ p2 np2
  rw [vbl,List.take_length] at hy2
  have u2:=same_upd (o:=.lst y2) np2
  refine ⟨p1,p2,_,_,rfl,rfl,(e2.trans u2) _ _ hp1,zB,le_line (by omega),fun p3 np3=>?_⟩
  have u3:=same_upd (o:=.lst (y1 ++ y2)) np3
  have e3:=e1.trans (e2.trans (u2.trans u3))
  have hy3:=DtAll.append (DtAll.same (e2.trans (u2.trans u3)) _ _ hy1) (DtAll.same (u2.trans u3) _ _ hy2)
  rw [← List.map_append] at hy3
  have hp3:upd (upd H2 p2 (.lst y2)) p3 (.lst (y1 ++ y2)) p3 = some (.lst (y1 ++ y2)):=zB
  generalize upd (upd H2 p2 (.lst y2)) p3 (.lst (y1 ++ y2)) = H3 at e3 hy3 hp3
  have ok:∀ x ∈ AnJ.both A1 B1,AnJ.okL x.1.2.2:=fun x hx=>by
   rcases List.mem_append.mp hx with z | z
   ·obtain ⟨s,hs,rfl⟩:=List.mem_map.mp z
    exact (ra.ok s hs).1
   ·obtain ⟨s,hs,rfl⟩:=List.mem_map.mp z
    exact (rb.ok s hs).1
  refine ⟨p3,_,(AnJ.both A1 B1).map AnJ.prD,"tuple",_,AnJ.prO,AnJ.unPr,rfl,SqL.of hp3,hy3,?_,fun d hd=>?_,fun d hd e he=>?_,fun l vs' ds' nl hperm hds ho _=>?_⟩
  ·rw [List.length_map]
   unfold AnJ.both
   rw [List.length_append,List.length_map,List.length_map]
   omega
  ·obtain ⟨x,hx,rfl⟩:=List.mem_map.mp hd
   obtain ⟨l1,l2⟩:=AnJ.lay_pr (ok x hx)
   exact ⟨rfl,l1,by omega⟩
  ·obtain ⟨x,hx,rfl⟩:=List.mem_map.mp hd
   obtain ⟨y,hy,rfl⟩:=List.mem_map.mp he
   rw [AnJ.unPr_pr,AnJ.unPr_pr]
   exact AnJ.lt_pr x y
  obtain ⟨xs,rfl,xp,xo⟩:=AnJ.sorted_back AnJ.unPr_pr hperm ho
  have u4:=same_upd (o:=.lst vs') nl
  have e4:=e3.trans u4
  have hds:=DtAll.same u4 _ _ hds
  have hl4:upd H3 l (.lst vs') l = some (.lst vs'):=zB
  have ho4:=e4 _ _ ho0
  generalize upd H3 l (.lst vs') = H4 at e4 hds hl4 ho4
  have xl:vs'.length = xs.length:=by rw [hds.length,List.length_map]
  have xn:xs.length <= 60:=by
   have:=xp.length_eq
   unfold AnJ.both at this
   rw [List.length_append,List.length_map,List.length_map] at this
   omega
  have lo:l ≠ o:=fun z=>by
   have:=e3 _ _ ho0
   rw [← z,nl] at this
   cases this
  have grp:∀ bs:List Str,bs.length = n -> AnJ.Grp bs A1 B1 (AnJ.sweep xs):=fun bs eb=>AnJ.sweep_grp (T:=AnJ.strO) (by rw [eb]; exact ra.val) (by rw [eb]; exact rb.val) ra.apart rb.apart xp (xo.imp fun h=>AnJ.pr_le h)
  obtain ⟨Bs,eBs⟩:∃ Bs,Bs = An12.hide H4 o:=⟨_,rfl⟩
  have bt:TSame H4 Bs:=fun c u hc hn=>by
   rw [eBs,An12.hide_ne fun z=>?_]
   ·exact hc
   ·rw [z,ho4] at hc
    exact hn _ (Option.some.inj hc).symm
  have bo:Bs o = none:=by rw [eBs]; exact if_pos rfl
  have b4:Same Bs H4:=by rw [eBs]; exact An12.hide_same _ _
  have bl:Bs l = some (.lst vs'):=by rw [eBs,An12.hide_ne lo]; exact hl4
  have bd:=AnJ.DtAll.ts bt _ _ (AnJ.noL_prs xs) hds
  have back:∀ c u,H c = some u -> Bs c = some u:=fun c u hc=>by
   rw [eBs,An12.hide_ne (zI hc no)]
   exact (s0.trans e4) _ _ hc
  clear eBs bt
  refine ⟨l,rfl,⟨_,SqL.of hl4⟩,y9 (K:=K) (a:=l) (xs:=vs') (fun i σ H'=>∃ o3 o4 o5:Option V,σ = [some (.ref a),some (.ref b),some (.ref o),o3,o4,o5] /\ Same Bs H' /\ ((i = 0 /\ H' o = some (.lst [])) \/ ∃ done c t m1 m2 vs us1 us2,AnJ.GSt K Bs H' o done c t m1 m2 vs us1 us2 /\ done.length < i /\ c.ones.length <= i /\ c.others.length <= i /\ done ++ AnJ.sw c (xs.drop i) = AnJ.sweep xs))
   ⟨none,none,none,rfl,b4,.inl ⟨rfl,ho4⟩⟩ (fun i σ H' _ ⟨_,_,_,_,e,_⟩=>SqL.of (e _ _ bl)) ?_ ?_⟩
  ·rintro i x σ H5 hi ⟨o3,o4,o5,rfl,e5,st⟩
   obtain ⟨pr,ep,hp⟩:=AnJ.dts_get bd hi
   have hil:i < vs'.length:=(List.getElem?_eq_some_iff.mp hi).1
   have hdr:xs.drop i = pr :: xs.drop (i + 1):=by
    obtain ⟨hj',ej⟩:=List.getElem?_eq_some_iff.mp ep
    rw [List.drop_eq_getElem_cons hj',ej]
   obtain ⟨t,sv,rfl,h1,h2⟩:=AnJ.pr_open hp
   obtain ⟨ts,tq,rfl,h3,h4⟩:=AnJ.sp_open h2
   refine ⟨t,_,rfl,e5.tupS h1,rfl,_,_,rfl,_,_,rfl,rfl,?_⟩
   refine ⟨fun σ' H'=>σ' = [some (.ref a),some (.ref b),some (.ref o),some (.ref ts),some (.int (if pr.2 then 3 else 2)),o5] /\ Same Bs H' /\ ∃ done c t m1 m2 vs us1 us2,AnJ.GSt K Bs H' o done c t m1 m2 vs us1 us2 /\ done.length <= i /\ c.ones.length <= i /\ c.others.length <= i /\ done ++ AnJ.sw (AnJ.addG c pr) (xs.drop (i + 1)) = AnJ.sweep xs,?_,?_⟩
   ·have s5:=e5.tupS h3
    rcases st with ⟨rfl,ho5⟩ | ⟨done,c,t',m1,m2,vs,us1,us2,gst,dl,c1,c2,eq⟩
    ·refine ⟨_,rfl,o,_,rfl,.inl (SqL.of ho5),rfl,_,rfl,iteY rfl (iteT ?_)⟩
     refine ⟨_,rfl,.inl ⟨rfl,_,SqL.of ho5⟩,_,rfl,ts,_,_,_,rfl,rfl,s5,rfl,_,rfl,ts,_,_,_,rfl,rfl,s5,rfl,Nat.zero_le _,fun m1 f1=>⟨Nat.zero_le _,fun m2 f2=>⟨lineN 4,fun t2 f3=>?_⟩⟩⟩
     obtain ⟨e6,gst⟩:=AnJ.gst_begin (K:=K) (done:=[]) (lo:=pr.1.1) (hi:=pr.1.2.1) e5 bo ho5 (fun Z _=>⟨rfl,fun v hv=>(nomatch hv)⟩) f1 f2 f3
     refine ⟨o,_,_,rfl,rfl,?_,yY (by decide),rfl,e6,[],_,_,_,_,_,_,_,gst,Nat.zero_le _,Nat.zero_le _,Nat.zero_le _,?_⟩
     ·exact ((same_upd f1).trans ((same_upd f2).trans (same_upd f3))) _ _ ho5
     ·rw [List.drop_zero] at hdr
      rw [AnJ.addG_new,hdr]
      rfl
    ·rw [hdr] at eq
     have vsl:=(gst.d3 [] fun a ha=>(nomatch ha)).1.length
     rw [List.length_map] at vsl
     refine ⟨_,rfl,o,_,rfl,.inl (SqL.of gst.ho),rfl,_,rfl,iteN (AnJ.ne_zero (by rw [List.length_append,List.length_singleton]; omega)) ?_⟩
     refine ⟨_,rfl,_,rfl,o,_,_,_,rfl,rfl,SqL.of gst.ho,AnJ.at_last,_,rfl,t',ts,_,_,_,_,_,_,rfl,SqT.of gst.ht,s5,_,rfl,?_⟩
     have un:(decide ((c.lo:Int) <= (pr.1.2.1:Int)) && decide ((pr.1.1:Int) <= (c.hi:Int))) = AnJ.nearB c pr.1:=by
      unfold AnJ.nearB
      congr 1 <;> exact decide_eq_decide.mpr (by omega)
     rw [un]
     cases q:AnJ.nearB c pr.1 with
     | true =>
      refine iteF ⟨rfl,e5,done,c,t',m1,m2,vs,us1,us2,gst,Nat.le_of_lt dl,c1,c2,?_⟩
      unfold AnJ.sw at eq
      rw [q] at eq
      exact eq
     | false =>
      refine iteT ?_
      refine ⟨_,rfl,.inl ⟨rfl,_,SqL.of gst.ho⟩,_,rfl,ts,_,_,_,rfl,rfl,s5,rfl,_,rfl,ts,_,_,_,rfl,rfl,s5,rfl,Nat.zero_le _,fun n1 f1=>⟨Nat.zero_le _,fun n2 f2=>⟨lineN 4,fun t2 f3=>?_⟩⟩⟩
      obtain ⟨e6,gst'⟩:=AnJ.gst_begin (K:=K) (lo:=pr.1.1) (hi:=pr.1.2.1) e5 bo gst.ho (fun Z hz=>gst.close e5 bo (by have:=gst.d1.length; rw [List.length_map] at this; omega) (by have:=gst.d2.length; rw [List.length_map] at this; omega) Z hz) f1 f2 f3
      refine ⟨o,_,_,rfl,rfl,?_,yY (by rw [List.length_append,List.length_singleton]; omega),rfl,e6,done ++ [c],_,_,_,_,_,_,_,gst',?_,Nat.zero_le _,Nat.zero_le _,?_⟩
      ·exact ((same_upd f1).trans ((same_upd f2).trans (same_upd f3))) _ _ gst.ho
      ·rw [List.length_append]; exact dl
      ·unfold AnJ.sw at eq
       rw [q] at eq
       rw [AnJ.addG_new,List.append_assoc]
       exact eq
   ·rintro σ' H6 ⟨rfl,e6,done,c,t',m1,m2,vs,us1,us2,gst,dl,c1,c2,eq⟩
    have vsl:=(gst.d3 [] fun a ha=>(nomatch ha)).1.length
    have l1:=gst.d1.length
    have l2:=gst.d2.length
    rw [List.length_map] at vsl l1 l2
    refine ⟨_,rfl,.inl ⟨rfl,_,SqL.of gst.ho⟩,o,_,_,rfl,rfl,gst.ho,AnJ.last_get,?_⟩
    rw [List.dropLast_concat]
    obtain ⟨tno,tn1,tn2⟩:=gst.tne
    have e7:Same Bs (upd H6 o (.lst vs)):=An.Same.updF e6 bo
    have ht7:SqT K (upd H6 o (.lst vs)) t' [.int c.lo,.int c.hi,.ref m1,.ref m2]:=SqT.of (by rw [zD tno]; exact gst.ht)
    have ho7:upd H6 o (.lst vs) o = some (.lst vs):=zB
    have hm1:upd H6 o (.lst vs) m1 = some (.lst us1):=by rw [zD gst.n1]; exact gst.h1
    have hm2:upd H6 o (.lst vs) m2 = some (.lst us2):=by rw [zD gst.n2]; exact gst.h2
    obtain ⟨sp,pl⟩:=pr
    cases pl with
    | false =>
     refine ⟨_,rfl,_,rfl,t',_,_,_,rfl,rfl,ht7,rfl,.inl ⟨rfl,_,SqL.of hm1⟩,_,rfl,m1,us1,_,rfl,rfl,hm1,yY (by omega),?_⟩
     have t8:SqT K (upd (upd H6 o (.lst vs)) m1 (.lst (us1 ++ [V.ref ts]))) t' [.int c.lo,.int c.hi,.ref m1,.ref m2]:=SqT.of (by rw [zD tn1,zD tno]; exact gst.ht)
     have o8:upd (upd H6 o (.lst vs)) m1 (.lst (us1 ++ [V.ref ts])) o = some (.lst vs):=by rw [zD gst.n1.symm]; exact zB
     have s8:=(An.Same.updF (o:=.lst (us1 ++ [V.ref ts])) e7 gst.b1).tupS h3
     refine ⟨_,rfl,.inl ⟨rfl,_,SqL.of o8⟩,_,rfl,t',_,_,_,rfl,rfl,t8,rfl,_,rfl,t',_,_,_,rfl,rfl,t8,rfl,_,rfl,ts,_,_,_,rfl,rfl,s8,rfl,_,_,rfl,_,rfl,t',_,_,_,rfl,rfl,t8,rfl,_,rfl,t',_,_,_,rfl,rfl,t8,rfl,lineN 4,fun t2 f2=>?_⟩
     rw [AnJ.max_int]
     obtain ⟨e9,gst'⟩:=AnJ.gst_add0 (hi:=max c.hi sp.2.1) gst e6 bo h2 f2
     refine ⟨o,_,_,rfl,rfl,(same_upd f2) _ _ o8,yY (by omega),_,_,_,rfl,e9,.inr ⟨done,_,_,_,_,_,_,_,gst',by omega,by rw [List.length_append]; simp; omega,by simp; omega,eq⟩⟩
    | true =>
     refine ⟨_,rfl,_,rfl,t',_,_,_,rfl,rfl,ht7,rfl,.inl ⟨rfl,_,SqL.of hm2⟩,_,rfl,m2,us2,_,rfl,rfl,hm2,yY (by omega),?_⟩
     have t8:SqT K (upd (upd H6 o (.lst vs)) m2 (.lst (us2 ++ [V.ref ts]))) t' [.int c.lo,.int c.hi,.ref m1,.ref m2]:=SqT.of (by rw [zD tn2,zD tno]; exact gst.ht)
     have o8:upd (upd H6 o (.lst vs)) m2 (.lst (us2 ++ [V.ref ts])) o = some (.lst vs):=by rw [zD gst.n2.symm]; exact zB
     have s8:=(An.Same.updF (o:=.lst (us2 ++ [V.ref ts])) e7 gst.b2).tupS h3
     refine ⟨_,rfl,.inl ⟨rfl,_,SqL.of o8⟩,_,rfl,t',_,_,_,rfl,rfl,t8,rfl,_,rfl,t',_,_,_,rfl,rfl,t8,rfl,_,rfl,ts,_,_,_,rfl,rfl,s8,rfl,_,_,rfl,_,rfl,t',_,_,_,rfl,rfl,t8,rfl,_,rfl,t',_,_,_,rfl,rfl,t8,rfl,lineN 4,fun t2 f2=>?_⟩
     rw [AnJ.max_int]
     obtain ⟨e9,gst'⟩:=AnJ.gst_add1 (hi:=max c.hi sp.2.1) gst e6 bo h2 f2
     refine ⟨o,_,_,rfl,rfl,(same_upd f2) _ _ o8,yY (by omega),_,_,_,rfl,e9,.inr ⟨done,_,_,_,_,_,_,_,gst',by omega,by simp; omega,by rw [List.length_append]; simp; omega,eq⟩⟩
  ·rintro σ H5 ⟨o3,o4,o5,rfl,e5,st⟩
   rcases st with ⟨i0,ho5⟩ | ⟨done,c,t',m1,m2,vs,us1,us2,gst,dl,c1,c2,eq⟩
   ·have x0:xs = []:=List.eq_nil_of_length_eq_zero (by omega)
    refine ⟨_,rfl,k o [] (List.replicate n "") H5 (by simp) (fun c u hc=>e5 _ _ (back c u hc)) no ?_ ⟨[],ho5,fun Z _=>⟨rfl,fun v hv=>(nomatch hv)⟩⟩⟩
    have:=grp (List.replicate n "") (by simp)
    rw [x0] at this
    exact this
   ·rw [List.drop_of_length_le (by omega)] at eq
    have eq:done ++ [c] = AnJ.sweep xs:=eq
    refine ⟨_,rfl,k o _ (List.replicate n "") H5 (by simp) (fun c u hc=>e5 _ _ (back c u hc)) no (grp (List.replicate n "") (by simp)) ⟨vs ++ [.ref t'],gst.ho,fun Z hz=>?_⟩⟩
    rw [← eq]
    have fr:∀ {m},Bs m = none -> H m = none:=fun {m} z=>by
     cases q:H m with
     | none=>rfl
     | some u=>rw [back _ _ q] at z; cases z
    obtain ⟨c3,c4⟩:=gst.close e5 bo (by have:=gst.d1.length; rw [List.length_map] at this; omega) (by have:=gst.d2.length; rw [List.length_map] at this; omega) Z fun a ha=>by
     obtain ⟨xs,q⟩:=hz a ha
     exact ⟨xs,back _ _ q⟩
    refine ⟨c3,fun v hv=>?_⟩
    obtain ⟨t,m1,m2,x,y,us1,us2,e0,g1,g2,g3,g4⟩:=c4 v hv
    exact ⟨t,m1,m2,x,y,us1,us2,e0,g1,fr g2,fr g3,g4⟩
end j_groups
namespace j_joined
abbrev st:Stmt:=top 12
theorem sc:FnScope ["base","mine","yours","parts","place","low","high","ones","others","my_lines","your_lines"] ["base","mine","yours"] (zE st):=⟨rfl,rfl,rfl,by decide +kernel,rfl,by decide +kernel,by decide +kernel⟩
theorem ok {f:Addr} {fd:FuncData} (F:Fun K "joined_lines" "joined_lines" st f fd) (T:Txt K mg t1 t2) (C_spans_of:Cal P w K mg base 6 "spans_of" ["old","new"] (An12.spSpans K)) (C_groups_of:Cal P w K mg base 2 "groups_of" ["ones","others"] (AnJ.spGroups K)) (C_side_lines:Cal P w K mg base 2 "side_lines" ["base","low","high","rows"] (AnJ.spSide K)) (C_add_same:Cal P w K mg base 1 "add_same" ["parts","lines"] (AnJ.spAddSame K)):FnOk P w K mg base CX0 7 f fd ["base","mine","yours"] (AnJ.spJoined K):=by
 refine F.ok sc (fun vs H Q E h=>?_) (fun cdv A outer s H vs Q E hr h=>?_)
 ·obtain ⟨a,b,c,xs,ms,ys,rfl,_⟩:=h
  rfl
 ·obtain ⟨a,b,c,xs,ms,ys,rfl,ha,hb,hc,ok,k⟩:=h
  refine ⟨_,(zC (zJ (i:=3) sc.nd rfl (Or.inl rfl) (zZ pa_nil))
   (zC (zJ (i:=4) sc.nd rfl (Or.inl rfl) zG)
   (zC (yZ PassesOwn.never rfl (yN (zK C_groups_of (hr.mono (by decide)) (zA (zK C_spans_of (hr.mono (by decide)) (zA (pv 0) (zA (pv 1) pa_nil))) (zA (zK C_spans_of (hr.mono (by decide)) (zA (pv 0) (zA (pv 2) pa_nil))) pa_nil)))) (pg_tup rfl (yF (zN (i:=5) sc.nd rfl (Or.inl rfl)) (yF (zN (i:=6) sc.nd rfl (Or.inl rfl)) (yF (zN (i:=7) sc.nd rfl (Or.inl rfl)) (yF (zN (i:=8) sc.nd rfl (Or.inl rfl)) jG)))))
    (zC (z3 (zK C_add_same (hr.mono (by decide)) (zA (pv 3) (zA (yL (sl_tup2:SlR _ (rSlT2 K)) (pv 0) (yB (pv 4)) (yB (pv 5))) pa_nil))))
    (zC (zJ (i:=9) sc.nd rfl (Or.inl rfl) (zK C_side_lines (hr.mono (by decide)) (zA (pv 0) (zA (pv 5) (zA (pv 6) (zA (pv 7) pa_nil))))))
    (zC (zJ (i:=10) sc.nd rfl (Or.inl rfl) (zK C_side_lines (hr.mono (by decide)) (zA (pv 0) (zA (pv 5) (zA (pv 6) (zA (pv 8) pa_nil))))))
    (pss_cut (yS (PW.pt (pw_or (zQ op_eq (zO zL (by rfl) T.len PySem.boot_len (zA (pv 7) pa_nil)) zG (zX _)) (jF (zQ (op_eqD hr.units) (pv 9) (pv 10) (zX _)))))
     (zH (z3 (zK C_add_same (hr.mono (by decide)) (zA (pv 3) (zA (pv 10) pa_nil)))))
     (zH (yS (zQ op_eq (zO zL (by rfl) T.len PySem.boot_len (zA (pv 8) pa_nil)) zG (zX _))
      (zH (z3 (zK C_add_same (hr.mono (by decide)) (zA (pv 3) (zA (pv 9) pa_nil)))))
      (zH (z3 (xL PySem.F.plainAttrs_list PySem.F.slot_list_append PySem.F.type_list_append yE (pv 3) (zA (yC (zA zS (zA (yL (sl_tup2:SlR _ (rSlT2 K)) (pv 0) (yB (pv 5)) (yB (pv 6))) (zA (pv 9) (zA (pv 10) pa_nil))))) pa_nil)))))))
    (zH (zJ (i:=4) sc.nd rfl (Or.inl rfl) (pv 6))))))))
   (zC (z3 (zK C_add_same (hr.mono (by decide)) (zA (pv 3) (zA (yL (sl_tup2:SlR _ (rSlT2 K)) (pv 0) (yB (pv 4)) qR) pa_nil))))
   (zH (zW (pv 3))))))),?_⟩
  obtain ⟨xok,mok,yok,xl,ml,yl,x1,x2,p1',p2'⟩:=id ok
  refine ⟨Nat.zero_le _,fun o no=>?_⟩
  have s0:=same_upd (o:=.lst []) no
  refine ⟨_,rfl,_,rfl,a,b,xs,ms,rfl,s0.tupS ha,s0.tupS hb,by omega,by omega,xok,mok,fun l1 H1 s1 _ d1=>?_⟩
  refine ⟨_,rfl,_,rfl,a,c,xs,ys,rfl,s1.tupS (s0.tupS ha),s1.tupS (s0.tupS hc),by omega,by omega,xok,yok,fun l2 H2 s2 _ d2=>?_⟩
  rw [← AnJ.spans_to,AnJ.rows_sp] at d1 d2
  have r1:=AnJ.row1_spans (xs:=xs) (ys:=ms) x1 p1' mok
  have r2:=AnJ.row1_spans (xs:=xs) (ys:=ys) x2 p2' yok
  have ho2:H2 o = some (.lst []):=(s1.trans s2) _ _ zB
  have s02:=s0.trans (s1.trans s2)
  refine ⟨l1,l2,xs.length,AnJ.spansS xs ms,AnJ.spansS xs ys,rfl,Dt.same s2 _ _ d1,d2,r1,r2,fun l3 gs b' H3 eb s3 f3 grp ⟨vs,hl3,hz⟩=>?_⟩
  have grp:AnJ.Grp xs (AnJ.spansS xs ms) (AnJ.spansS xs ys) gs:=⟨grp.good,grp.fa,grp.fb⟩
  have hg:=(hz [o] fun z hz=>⟨[],by rw [List.mem_singleton.mp hz]; exact ho2⟩).1
  have ho3:=s3 _ _ ho2
  have lo3:l3 ≠ o:=fun z=>by rw [z,ho2] at f3; cases f3
  have vl:=hg.length
  rw [List.length_map] at vl
  have gl:=AnJ.grps_len grp.some
  rw [grp.fa,grp.fb] at gl
  have:=r1.len
  have:=r2.len
  have facts:=grp.fact r1 r2
  obtain ⟨Bs,eBs⟩:∃ Bs,Bs = AnJ.hideS [l3,o] H3:=⟨_,rfl⟩
  have bt:TSame H3 Bs:=by
   rw [eBs]
   exact AnJ.hideS_ts fun z hz=>by
    rcases List.mem_cons.mp hz with rfl | hz
    ·exact ⟨_,hl3⟩
    ·rw [List.mem_singleton.mp hz]; exact ⟨_,ho3⟩
  have bo:Bs o = none:=by rw [eBs]; exact AnJ.hideS_in (by simp)
  have b3:Same Bs H3:=by rw [eBs]; exact AnJ.hideS_same _ _
  have bg:DtAll K Bs (gs.map AnJ.grD) vs:=by rw [eBs]; exact hg
  have ba:SqT K Bs a (xs.map V.str):=bt.tup ((s02.trans s3).tupS ha)
  have back:∀ H',Same Bs H' -> Same H H':=fun H' e c u hc=>by
   refine e c u ?_
   rw [eBs,AnJ.hideS_ne]
   ·exact (s02.trans s3) c u hc
   ·intro z
    rcases List.mem_cons.mp z with rfl | z
    ·have:=s02 _ _ hc
     rw [f3] at this
     cases this
    ·rw [List.mem_singleton.mp z,no] at hc
     cases hc
  have xsok:AnJ.okL xs:=fun l hl=>An12.lineB_ok (xok l hl)
  clear eBs hg hz bt
  refine ⟨l3,rfl,⟨_,SqL.of hl3⟩,y9 (K:=K) (a:=l3) (xs:=vs) (fun i σ H'=>∃ (pl:Nat) (done:List (AnJ.Pt Str)) (acc:List Str) (q5 q6 q7 q8 q9 q10:Option V),σ = [some (.ref a),some (.ref b),some (.ref c),some (.ref o),some (.int pl),q5,q6,q7,q8,q9,q10] /\ Same Bs H' /\ H' l3 = some (.lst vs) /\ AnJ.PartsAt K H' o (done ++ AnJ.flush acc) /\ AnJ.noSame done /\ done.length <= 2 * i /\ acc.length <= 250 * i /\ pl <= xs.length /\ done ++ AnJ.J xs acc pl (gs.drop i) = AnJ.J xs [] 0 gs)
   ⟨0,[],[],none,none,none,none,none,none,rfl,b3,hl3,⟨[],ho3,rfl⟩,trivial,Nat.le_refl _,Nat.le_refl _,Nat.zero_le _,rfl⟩ (fun i σ H' _ ⟨_,_,_,_,_,_,_,_,_,_,_,e,_⟩=>SqL.of e) ?_ ?_⟩
  ·rintro i x σ H4 hi ⟨pl,done,acc,q5,q6,q7,q8,q9,q10,rfl,e4,hl4,hp4,nsm,dl,al,pll,eq⟩
   obtain ⟨g,eg,hg⟩:=AnJ.dts_get bg hi
   have hil:i < vs.length:=(List.getElem?_eq_some_iff.mp hi).1
   have hdr:gs.drop i = g :: gs.drop (i + 1):=by
    obtain ⟨hj',ej⟩:=List.getElem?_eq_some_iff.mp eg
    rw [List.drop_eq_getElem_cons hj',ej]
   rw [hdr] at eq
   have gf:=facts g (List.mem_of_getElem? eg)
   have glh:=gf.v1.le
   have ghi:=gf.hi
   obtain ⟨t,k1,k2,rfl,g1,g2,g3⟩:=AnJ.gr_open hg
   refine ⟨t,_,rfl,e4.tupS g1,rfl,_,_,rfl,_,_,rfl,_,_,rfl,_,_,rfl,rfl,?_⟩
   refine ⟨_,rfl,_,rfl,_,rfl,_,rfl,_,rfl,_,rfl,a,_,rfl,e4.tupS ba,fun v H5 hv=>?_⟩
   obtain ⟨p5,rfl,s5,hp5⟩:=An12.cut_any (e4.tupS ba) hv
   rw [An12.cut_mid pll (by omega)] at hp5
   have cl:(AnJ.cut xs pl g.lo).length <= 40:=by
    have:(AnJ.cut xs pl g.lo).length = g.lo - pl:=AnJ.cut_len (by omega)
    omega
   refine ⟨o,p5,done,acc,AnJ.cut xs pl g.lo,rfl,hp4.same s5,nsm,hp5,by omega,by omega,by omega,fun H6 t6 s6 hp6=>?_⟩
   have e6:=AnJ.same_step (e4.trans s5) bo s6
   have hl6:H6 l3 = some (.lst vs):=by
    have:=s6 l3 _ (by rw [An12.hide_ne lo3]; exact s5 _ _ hl4)
    rw [An12.hide_ne lo3] at this
    exact this
   obtain ⟨ok1,len1⟩:=AnJ.there_ok xsok gf.l1 gf.v1 ghi (by omega) gf.p1
   obtain ⟨ok2,len2⟩:=AnJ.there_ok xsok gf.l2 gf.v2 ghi (by omega) gf.p2
   refine ⟨_,rfl,_,rfl,_,rfl,_,rfl,a,k1,g.lo,g.hi,xs,g.ones,rfl,e6.tupS ba,Dt.same e6 _ _ g2,by omega,gf.n1,fun s hs=>(gf.l1 s hs).2,gf.v1,ghi,fun p7 H7 s7 hp7=>?_⟩
   have e7:=e6.trans s7
   refine ⟨_,rfl,_,rfl,_,rfl,_,rfl,a,k2,g.lo,g.hi,xs,g.others,rfl,e7.tupS ba,Dt.same e7 _ _ g3,by omega,gf.n2,fun s hs=>(gf.l2 s hs).2,gf.v2,ghi,fun p8 H8 s8 hp8=>?_⟩
   have e8:=e7.trans s8
   have hl8:=(s7.trans s8) _ _ hl6
   have hP8:=hp6.same (s7.trans s8)
   have hm8:SqT K H8 p7 ((g.mine xs).map V.str):=s8.tupS hp7
   have hy8:SqT K H8 p8 ((g.yours xs).map V.str):=hp8
   have ok1:AnJ.okL (g.mine xs):=ok1
   have ok2:AnJ.okL (g.yours xs):=ok2
   have len1:(g.mine xs).length <= 200:=len1
   have len2:(g.yours xs).length <= 200:=len2
   obtain ⟨st1,st2⟩:=AnJ.J_step (b:=xs) (acc:=acc) (i:=pl) (g:=g) (r:=gs.drop (i + 1))
   obtain ⟨k1',us1,z1,u1,w1⟩:=Dt.same e8 _ _ g2
   cases z1
   obtain ⟨k2',us2,z2,u2,w2⟩:=Dt.same e8 _ _ g3
   cases z2
   have w1:=w1.length
   have w2:=w2.length
   rw [List.length_map] at w1 w2
   refine ⟨fun σ' H'=>∃ (done:List (AnJ.Pt Str)) (acc:List Str),σ' = [some (.ref a),some (.ref b),some (.ref c),some (.ref o),some (.int pl),some (.int g.lo),some (.int g.hi),some (.ref k1),some (.ref k2),some (.ref p7),some (.ref p8)] /\ Same Bs H' /\ H' l3 = some (.lst vs) /\ AnJ.PartsAt K H' o (done ++ AnJ.flush acc) /\ AnJ.noSame done /\ done.length <= 2 * (i + 1) /\ acc.length <= 250 * (i + 1) /\ done ++ AnJ.J xs acc g.hi (gs.drop (i + 1)) = AnJ.J xs [] 0 gs,?_,?_⟩
   ·have add:∀ (p:Addr) (x:List Str),SqT K H8 p (x.map V.str) -> x.length <= 200 -> g.one xs = some x -> AnJ.spAddSame K [.ref o,.ref p] H8 (fun _ H'=>∃ (done:List (AnJ.Pt Str)) (acc:List Str),[some (V.ref a),some (.ref b),some (.ref c),some (.ref o),some (.int pl),some (.int g.lo),some (.int g.hi),some (.ref k1),some (.ref k2),some (.ref p7),some (.ref p8)] = [some (.ref a),some (.ref b),some (.ref c),some (.ref o),some (.int pl),some (.int g.lo),some (.int g.hi),some (.ref k1),some (.ref k2),some (.ref p7),some (.ref p8)] /\ Same Bs H' /\ H' l3 = some (.lst vs) /\ AnJ.PartsAt K H' o (done ++ AnJ.flush acc) /\ AnJ.noSame done /\ done.length <= 2 * (i + 1) /\ acc.length <= 250 * (i + 1) /\ done ++ AnJ.J xs acc g.hi (gs.drop (i + 1)) = AnJ.J xs [] 0 gs) (fun _ _ _=>False):=fun p x hp hl h1=>by
     refine ⟨o,p,done,acc ++ AnJ.cut xs pl g.lo,x,rfl,hP8,nsm,hp,by omega,by rw [List.length_append]; omega,by omega,fun H9 t9 s9 hp9=>⟨done,acc ++ AnJ.cut xs pl g.lo ++ x,rfl,AnJ.same_step e8 bo s9,?_,hp9,nsm,by omega,by rw [List.length_append,List.length_append]; omega,by rw [← st1 x h1]; exact eq⟩⟩
     have:=s9 l3 _ (by rw [An12.hide_ne lo3]; exact hl8)
     rw [An12.hide_ne lo3] at this
     exact this
    have sm:=AnJ.shaped_of (AnJ.lay_tupS ok1).1 (by have:=(AnJ.lay_tupS ok1).2; omega)
    have sy:=AnJ.shaped_of (AnJ.lay_tupS ok2).1 (by have:=(AnJ.lay_tupS ok2).2; omega)
    refine ⟨_,rfl,k1,_,rfl,.inl u1,rfl,_,rfl,ite2 (fun h1=>iteT ?b) (fun h1=>⟨_,rfl,_,rfl,AnJ.tupS (g.mine xs),AnJ.tupS (g.yours xs),AnJ.lines_dt hm8,AnJ.lines_dt hy8,sm,sy,_,rfl,ite2 (fun h2=>?c) (fun h2=>?_)⟩)⟩
    case b | c =>
     have h1:g.one xs = some (g.yours xs):=by
      unfold AnJ.G.one
      first
       | exact if_pos (.inl (List.eq_nil_of_length_eq_zero (by have:=AnJ.int_zero (of_decide_eq_true h1); omega)))
       | (rw [AnJ.eqv_tupS] at h2; exact if_pos (.inr (of_decide_eq_true h2)))
     exact ⟨_,rfl,_,rfl,add p8 _ hy8 len2 h1⟩
    have n1:¬ (g.ones = [] \/ g.mine xs = g.yours xs):=fun z=>by
     rcases z with z | z
     ·exact h1 (decide_eq_true (by rw [w1,z]; rfl))
     ·rw [AnJ.eqv_tupS] at h2
      exact h2 (decide_eq_true z)
    refine ⟨_,rfl,k2,_,rfl,.inl u2,rfl,_,rfl,ite2 (fun h3=>?_) (fun h3=>?_)⟩
    ·have h1:g.one xs = some (g.mine xs):=by
      unfold AnJ.G.one
      rw [if_neg n1,if_pos (List.eq_nil_of_length_eq_zero (by have:=AnJ.int_zero (of_decide_eq_true h3); omega))]
     exact ⟨_,rfl,_,rfl,add p7 _ hm8 len1 h1⟩
    ·have h1:g.one xs = none:=by
      unfold AnJ.G.one
      rw [if_neg n1,if_neg fun z=>h3 (decide_eq_true (by rw [w2,z]; rfl))]
     obtain ⟨v8,ho8,d8⟩:=hP8
     have v8l:=d8.length
     rw [List.length_map,List.length_append] at v8l
     have fl:(AnJ.flush (acc ++ AnJ.cut xs pl g.lo)).length <= 1:=by
      unfold AnJ.flush
      split <;> simp
     refine ⟨_,rfl,.inl ⟨rfl,_,SqL.of ho8⟩,_,rfl,_,rfl,_,rfl,_,rfl,_,rfl,a,_,rfl,e8.tupS ba,fun v H9 hv=>?_⟩
     obtain ⟨p9,rfl,s9,hp9⟩:=An12.cut_any (e8.tupS ba) hv
     rw [An12.cut_mid (by omega) ghi] at hp9
     refine ⟨_,rfl,_,rfl,lineN 4,fun t m=>?_⟩
     have u9:=same_upd (o:=.tup [V.str "clash",V.ref p9,V.ref p7,V.ref p8]) m
     have s10:=s9.trans u9
     have ho10:=s10 _ _ ho8
     have hd10:Dt K (upd H9 t (.tup [V.str "clash",V.ref p9,V.ref p7,V.ref p8])) (AnJ.ptD (.clash (AnJ.cut xs g.lo g.hi) (g.mine xs) (g.yours xs))) (.ref t):=AnJ.clash_close (SqT.of zB) (u9.tupS hp9) (s10.tupS hm8) (s10.tupS hy8)
     refine ⟨o,_,_,rfl,rfl,ho10,yY (by omega),?_⟩
     have t11:TSame (upd H9 t (.tup [V.str "clash",V.ref p9,V.ref p7,V.ref p8])) (upd (upd H9 t (.tup [V.str "clash",V.ref p9,V.ref p7,V.ref p8])) o (.lst (v8 ++ [V.ref t]))):=TSame.upd ho10
     refine ⟨done ++ AnJ.flush (acc ++ AnJ.cut xs pl g.lo) ++ [.clash (AnJ.cut xs g.lo g.hi) (g.mine xs) (g.yours xs)],[],rfl,?_,?_,?_,AnJ.noSame_snoc rfl,?_,Nat.zero_le _,?_⟩
     ·exact An.Same.updF (e8.trans s10) bo
     ·rw [zD lo3]; exact s10 _ _ hl8
     ·have ef:∀ l:List (AnJ.Pt Str),l ++ AnJ.flush ([]:List Str) = l:=fun l=>List.append_nil _
      rw [ef]
      refine ⟨v8 ++ [V.ref t],zB,?_⟩
      rw [List.map_append]
      exact AnJ.DtAll.ts t11 _ _ (by rw [← List.map_append]; exact AnJ.noL_pts _) (DtAll.append (DtAll.same s10 _ _ d8) ⟨_,_,rfl,hd10,rfl⟩)
     ·rw [List.length_append,List.length_append,List.length_singleton]; omega
     ·rw [List.append_assoc,List.append_assoc,List.singleton_append,← st2 h1]
      exact eq
   ·rintro σ' H9 ⟨done,acc,rfl,e9,hl9,hp9,ns9,dl9,al9,eq9⟩
    exact ⟨_,rfl,g.hi,done,acc,_,_,_,_,_,_,rfl,e9,hl9,hp9,ns9,dl9,al9,ghi,eq9⟩
  ·rintro σ H4 ⟨pl,done,acc,q5,q6,q7,q8,q9,q10,rfl,e4,hl4,hp4,nsm,dl,al,pll,eq⟩
   rw [List.drop_of_length_le (by omega)] at eq
   have eq:done ++ AnJ.flush (acc ++ xs.drop pl) = AnJ.J xs [] 0 gs:=eq
   refine ⟨_,rfl,_,rfl,_,rfl,_,rfl,a,_,rfl,e4.tupS ba,fun v H5 hv=>?_⟩
   obtain ⟨p5,rfl,s5,hp5⟩:=An12.cut_any (e4.tupS ba) hv
   rw [An12.cut_rest pll] at hp5
   refine ⟨o,p5,done,acc,xs.drop pl,rfl,hp4.same s5,nsm,hp5,by omega,by omega,by rw [List.length_drop]; omega,fun H6 t6 s6 hp6=>?_⟩
   rw [eq] at hp6
   exact ⟨_,rfl,k o (AnJ.J xs [] 0 gs) H6 (back _ (AnJ.same_step (e4.trans s5) bo s6)) no ⟨gs,grp,rfl⟩ hp6⟩
end j_joined
theorem sl47:[V.str "/"] = [V.str ⟨#[47]⟩]:=by rw [An.stroke_is]; rfl
theorem labs47 (x:Str):PySem.Txt.split x ⟨#[47]⟩ = An.labs x:=by unfold An.labs; rw [An.stroke_is]; rfl
def spFols (K:PySem.W.Frag):Sp:=fun vs H Q _=>∃ x:Str,vs = [.str x] /\ x.length <= 1000 /\ ∀ p H',Same H H' -> SqL K H' p ((fols x).map V.str) -> Q (.ref p) H'
namespace p_fols
abbrev st:Stmt:=top 16
theorem sc:FnScope ["path","labels"] ["path"] (zE st):=⟨rfl,rfl,rfl,by decide +kernel,rfl,by decide +kernel,by decide +kernel⟩
theorem ok {f:Addr} {fd:FuncData} (F:Fun K "folders_of" "folders_of" st f fd) (T:Txt K mg t1 t2):FnOk P w K mg base CX0 1 f fd ["path"] (spFols K):=by
 refine F.ok sc (fun vs H Q E h=>?_) (fun cdv A outer s H vs Q E hr h=>?_)
 ·obtain ⟨x,rfl,_⟩:=h
  rfl
 ·obtain ⟨x,rfl,xl,k⟩:=h
  refine ⟨_,(zC (zJ (i:=1) sc.nd rfl (Or.inr rfl) (xL PySem.F.plainAttrs_str PySem.F.slot_str_split PySem.F.type_str_split mt_split (pv 0) (zA zS pa_nil)))
   (zH (zW (qU (sc:=zE st) (N:=["path","labels"]) (N':=["count","labels"]) (src:=[none,some 1]) ⟨by decide +kernel,rfl,rfl,by decide +kernel,by decide +kernel,by decide +kernel,by decide +kernel⟩ rfl rfl rfl (pi_range2 rfl T.range (zA zG (zA (zO zL (by rfl) T.len PySem.boot_len (zA (pv 1) pa_nil)) pa_nil))) (fun _ _ _ _=>(zN (i:=0) (show (["count","labels"]:List Str).Nodup by decide +kernel) rfl (Or.inl rfl))) (fun _ _ _ _=>x5) (fun _ _ _ _=>(pe_bmK (K:=K) PySem.F.plainAttrs_str PySem.F.slot_str_join PySem.F.type_str_join (mt_joinK (K:=K)) zS (zA (yL (sl_list:SlR _ (rSlL K)) (pv 1) qR (yB (pv 0))) pa_nil))))))),?_⟩
  have cl:=labs_cnt x
  have cp:=labs_pos x
  have e1:("/":Str).length = 1:=by decide +kernel
  refine ⟨_,rfl,rfl,x,47,rfl,sl47,by omega,fun l nl=>?_⟩
  rw [labs47]
  have u:=same_upd (o:=.lst ((labs x).map V.str)) nl
  refine ⟨_,rfl,l,_,rfl,.inl (SqL.of zB),1,(((labs x).map V.str).length:Int),rfl,⟨by decide,by decide,by omega,by rw [List.length_map]; omega⟩,?_⟩
  have en:((((labs x).map V.str).length:Int) - 1).toNat = (labs x).length - 1:=by rw [List.length_map]; omega
  rw [en]
  refine qB (fun i ys σ H2=>∃ o,σ = [o,some (.ref l)] /\ Same (upd H l (.lst ((labs x).map V.str))) H2 /\ ys = ((List.range i).map fun i=>PySem.Txt.join "/" ((labs x).take (i + 1))).map V.str) ⟨none,rfl,Same.refl _,rfl⟩ (le_line (by omega)) ?_ ?_ ?_
  ·rintro i ys σ H2 hi ⟨o,rfl,e2,rfl⟩
   rw [List.length_map,List.length_map,List.length_range]
   exact Nat.le_refl _
  ·rintro i ys σ H2 hi ⟨o,rfl,e2,rfl⟩
   refine ⟨rfl,_,rfl,_,rfl,_,rfl,l,_,rfl,SqL.of (e2 _ _ zB),fun p np=>?_⟩
   have et:cutV ((labs x).map V.str) none (some (1 + (i:Int))) = ((labs x).take (i + 1)).map V.str:=by
    rw [cut_to (by omega),List.map_take]
    congr 1
    omega
   rw [et]
   refine ⟨"/",p,(labs x).take (i + 1),rfl,rfl,.inl (SqL.of zB),?_,_,rfl,e2.trans (same_upd np),?_⟩
   ·have h1:=sum_le (n:=1000) ((labs x).take (i + 1)) (fun y hy=>by have:=labs_len (List.mem_of_mem_take hy); omega)
    have h2:((labs x).take (i + 1)).length <= 1001:=by rw [List.length_take]; omega
    have h3:((labs x).take (i + 1)).length * 1000 <= 1001 * 1000:=Nat.mul_le_mul_right _ h2
    refine le_line ?_
    rw [e1]
    omega
   ·rw [List.range_succ,List.map_append,List.map_append]; rfl
  ·rintro ys σ H2 ⟨o,rfl,e2,rfl⟩ p np
   exact k p _ ((u.trans e2).trans (same_upd np)) (SqL.of zB)
end p_fols
end
end An17
namespace AnS
open PySem L2 An AnJ
def oD:Option (List Str) -> PyData
 | none=>.none
 | some ls=>tupS ls
theorem eqv_oD (a b:Option (List Str)):PyData.eqv (oD a) (oD b) = decide (a = b):=by
 cases a with
 | none =>
  cases b with
  | none=>rfl
  | some y=>rfl
 | some x =>
  cases b with
  | none=>rfl
  | some y =>
   show PyData.eqv (tupS x) (tupS y) = _
   rw [eqv_tupS,Bool.eq_iff_iff,decide_eq_true_iff,decide_eq_true_iff,Option.some.injEq]
def okO (o:Option (List Str)):Prop:=∀ ls,o = some ls -> okL ls
theorem lay_oD {o:Option (List Str)} (h:okO o):(oD o).canLay0 = true /\ (oD o).depth <= 1:=by
 cases o with
 | none=>exact ⟨rfl,Nat.zero_le _⟩
 | some ls=>exact lay_tupS (h ls rfl)
theorem shaped_oD {o:Option (List Str)} (h:okO o):SeqAt.shaped (oD o) = true:=shaped_of (lay_oD h).1 (Nat.le_trans (lay_oD h).2 (by decide))
def DS (H H':Hp):Prop:=∀ b o,H b = some o -> (∀ kvs,o ≠ .dK kvs) -> H' b = some o
theorem DS.of {H H':Hp} (e:Same H H'):DS H H':=fun b o h _=>e b o h
theorem DS.trans {H H1 H2:Hp} (a:DS H H1) (b:DS H1 H2):DS H H2:=fun c o h n=>b c o (a c o h n) n
theorem DS.upd {H:Hp} {d:Addr} {kvs:List (Key × V)} {o:HO} (h:H d = some (.dK kvs)):DS H (upd H d o):=fun b u e n=>by
 rw [zD fun z=>by rw [z,h] at e; exact n kvs (Option.some.inj e).symm]
 exact e
theorem DS.sqT {K:PySem.W.Frag} {H H':Hp} {a:Addr} {xs:List V} (e:DS H H') (h:SqT K H a xs):SqT K H' a xs:=by
 rcases h with (h | ⟨o,h⟩) | h
 ·exact .inl (.inl (e _ _ h fun _ z=>(nomatch z)))
 ·exact .inl (.inr ⟨o,e _ _ h fun _ z=>(nomatch z)⟩)
 ·exact .inr h
theorem DS.sqL {K:PySem.W.Frag} {H H':Hp} {a:Addr} {xs:List V} (e:DS H H') (h:SqL K H a xs):SqL K H' a xs:=by
 rcases h with (h | ⟨o,h⟩) | h
 ·exact .inl (.inl (e _ _ h fun _ z=>(nomatch z)))
 ·exact .inl (.inr ⟨o,e _ _ h fun _ z=>(nomatch z)⟩)
 ·exact .inr h
mutual
theorem DS.dt {K:PySem.W.Frag} {H H':Hp} (e:DS H H'):∀ (d:PyData) (v:V),Dt K H d v -> Dt K H' d v
 | .none,_,h=>h
 | .bool _,_,h=>h
 | .int _,_,h=>h
 | .str _,_,h=>h
 | .list ds,_,⟨a,xs,h1,h2,h3⟩=>⟨a,xs,h1,e.sqL h2,DS.dts e ds xs h3⟩
 | .tuple ds,_,⟨a,xs,h1,h2,h3⟩=>⟨a,xs,h1,e.sqT h2,DS.dts e ds xs h3⟩
 | .dict _,_,h=>h
theorem DS.dts {K:PySem.W.Frag} {H H':Hp} (e:DS H H'):∀ (ds:List PyData) (xs:List V),DtAll K H ds xs -> DtAll K H' ds xs
 | [],_,h=>h
 | d :: ds,_,⟨x,r,h1,h2,h3⟩=>⟨x,r,h1,DS.dt e d x h2,DS.dts e ds r h3⟩
end
structure DictIs (K:PySem.W.Frag) (H:Hp) (kvs:List (Key × V)) (L:List Str) (g:Str -> PyData):Prop where
 keys:kvs.map (·.1) = L.map Sum.inr
 nd:L.Nodup
 val:∀ p ∈ L,∃ v,valV kvs (.inr p) = some v /\ Dt K H (g p) v
section
variable {K:PySem.W.Frag} {H H':Hp} {kvs more:List (Key × V)} {L M:List Str} {g:Str -> PyData}
theorem DictIs.nil:DictIs K H [] [] g:=⟨rfl,List.nodup_nil,fun _ h=>(nomatch h)⟩
theorem DictIs.len (h:DictIs K H kvs L g):kvs.length = L.length:=by
 have:=congrArg List.length h.keys
 rw [List.length_map,List.length_map] at this
 exact this
theorem DictIs.mono (h:DictIs K H kvs L g) (e:DS H H'):DictIs K H' kvs L g:=⟨h.keys,h.nd,fun p hp=>let ⟨v,a,b⟩:=h.val p hp; ⟨v,a,e.dt _ _ b⟩⟩
theorem DictIs.same (h:DictIs K H kvs L g) (e:Same H H'):DictIs K H' kvs L g:=h.mono (.of e)
theorem DictIs.cong {g':Str -> PyData} (h:DictIs K H kvs L g) (e:∀ p ∈ L,g p = g' p):DictIs K H kvs L g':=⟨h.keys,h.nd,fun p hp=>let ⟨v,a,b⟩:=h.val p hp; ⟨v,a,e p hp ▸ b⟩⟩
theorem DictIs.at (h:DictIs K H kvs L g) {i:Nat} {kv:Key × V} (e:kvs[i]? = some kv):L[i]? = some (keyS kv) /\ kv.1 = .inr (keyS kv):=by
 have:=congrArg (fun l=>l[i]?) h.keys
 simp only [List.getElem?_map,e,Option.map_some] at this
 cases q:L[i]? with
 | none=>rw [q] at this; cases this
 | some p =>
  rw [q] at this
  have this:kv.1 = .inr p:=Option.some.inj this
  have ek:keyS kv = p:=by unfold keyS; rw [this]
  exact ⟨by rw [ek],by rw [ek,this]⟩
theorem DictIs.allS (h:DictIs K H kvs L g):AllS kvs:=fun kv hkv=>by
 obtain ⟨i,e⟩:=List.mem_iff_getElem?.mp hkv
 exact (h.at e).2
theorem DictIs.keysS (h:DictIs K H kvs L g):kvs.map keyS = L:=by
 refine List.ext_getElem? fun i=>?_
 rw [List.getElem?_map]
 cases e:kvs[i]? with
 | none =>
  have:L.length <= i:=by rw [← h.len]; exact List.getElem?_eq_none_iff.mp e
  rw [List.getElem?_eq_none_iff.mpr this]; rfl
 | some kv=>rw [(h.at e).1]; rfl
theorem DictIs.mem (h:DictIs K H kvs L g) {p:Str}:(.inr p:Key) ∈ kvs.map (·.1) ↔ p ∈ L:=by
 rw [h.keys,List.mem_map]
 exact ⟨fun ⟨q,hq,e⟩=>by cases e; exact hq,fun z=>⟨p,z,rfl⟩⟩
theorem DictIs.no (h:DictIs K H kvs L g) {p:Str} (n:p ∉ L):valV kvs (.inr p) = none:=by
 cases e:valV kvs (.inr p) with
 | none=>rfl
 | some v=>exact absurd (h.mem.mp (valV_in e)) n
theorem DictIs.isSome (h:DictIs K H kvs L g) (p:Str):(valV kvs (.inr p)).isSome = decide (p ∈ L):=by
 by_cases z:p ∈ L
 ·obtain ⟨v,e,_⟩:=h.val p z
  rw [e,decide_eq_true z]; rfl
 ·rw [h.no z,decide_eq_false z]; rfl
def addL (L:List Str) (p:Str):List Str:=if p ∈ L then L else L ++ [p]
theorem mem_addL {p q:Str}:q ∈ addL L p ↔ q ∈ L \/ q = p:=by
 unfold addL
 by_cases z:p ∈ L
 ·rw [if_pos z]
  exact ⟨.inl,fun h=>h.elim id fun e=>e ▸ z⟩
 ·rw [if_neg z,List.mem_append,List.mem_singleton]
theorem addL_len (p:Str):(addL L p).length <= L.length + 1:=by
 unfold addL
 split
 ·omega
 ·rw [List.length_append]; exact Nat.le_refl _
theorem DictIs.put (h:DictIs K H kvs L g) (p:Str) {v:V} {d:PyData} (hv:Dt K H d v):DictIs K H (putK kvs (.inr p) v) (addL L p) (fun q=>if q = p then d else g q):=by
 refine ⟨?_,?_,fun q hq=>?_⟩
 ·unfold addL
  by_cases z:p ∈ L
  ·rw [if_pos z]
   unfold putK
   rw [if_pos (by rw [xI,h.isSome,decide_eq_true z]),List.map_map,← h.keys]
   refine List.map_congr_left fun kv _=>?_
   show (if kv.1 = .inr p then (kv.1,v) else kv).1 = kv.1
   split <;> rfl
  ·rw [if_neg z,putK_new v (h.no z),List.map_append,List.map_append,h.keys]
   rfl
 ·unfold addL
  by_cases z:p ∈ L
  ·rw [if_pos z]; exact h.nd
  ·rw [if_neg z]; exact nd_snoc h.nd z
 ·rw [valV_put]
  by_cases e:q = p
  ·subst e
   rw [if_pos rfl]
   exact ⟨v,rfl,by show Dt K H (if q = q then d else g q) v; rw [if_pos rfl]; exact hv⟩
  ·have e':¬ ((.inr q:Key) = .inr p):=fun z=>by cases z; exact e rfl
   rw [if_neg e']
   obtain ⟨w,a,b⟩:=h.val q ((mem_addL.mp hq).resolve_right e)
   exact ⟨w,a,by show Dt K H (if q = p then d else g q) w; rw [if_neg e]; exact b⟩
theorem DictIs.nodup (h:DictIs K H kvs L g):(kvs.map (·.1)).Nodup:=by
 rw [h.keys]
 exact List.Pairwise.map _ (fun a b n e=>by cases e; exact n rfl) h.nd
theorem valV_at {κ:Type} [DecidableEq κ]:∀ {kvs:List (κ × V)} {kv:κ × V},(kvs.map (·.1)).Nodup -> kv ∈ kvs -> valV kvs kv.1 = some kv.2
 | p :: r,kv,nd,h=>by
  rw [List.map_cons,List.nodup_cons] at nd
  rcases List.mem_cons.mp h with rfl | h
  ·exact yI rfl
  ·rw [yK fun e=>nd.1 (e ▸ List.mem_map.mpr ⟨kv,h,rfl⟩)]
   exact valV_at nd.2 h
theorem DictIs.pair (h:DictIs K H kvs L g) {kv:Key × V} (hkv:kv ∈ kvs):kv.1 = .inr (keyS kv) /\ keyS kv ∈ L /\ Dt K H (g (keyS kv)) kv.2:=by
 have e:=h.allS kv hkv
 have hm:keyS kv ∈ L:=by rw [← h.keysS]; exact List.mem_map.mpr ⟨kv,hkv,rfl⟩
 obtain ⟨v,a,b⟩:=h.val _ hm
 have:=valV_at h.nodup hkv
 rw [e,a] at this
 exact ⟨e,hm,Option.some.inj this ▸ b⟩
theorem putAll_is {d:PyData}:∀ {more kvs:List (Key × V)} {L:List Str},DictIs K H kvs L (fun _=>d) -> (∀ kv ∈ more,kv.1 = .inr (keyS kv) /\ Dt K H d kv.2) -> ∃ L',DictIs K H (putAll kvs more) L' (fun _=>d) /\ ∀ p,p ∈ L' ↔ p ∈ L \/ p ∈ more.map keyS
 | [],kvs,L,h,_=>⟨L,h,fun p=>by simp⟩
 | kv :: more,kvs,L,h,al=>by
  obtain ⟨e,hd⟩:=al kv (List.mem_cons_self ..)
  have h1:=(h.put (keyS kv) hd).cong (g':=fun _=>d) fun p _=>by show (if p = keyS kv then d else d) = d; rw [ite_self]
  rw [← e] at h1
  obtain ⟨L',h2,m⟩:=putAll_is h1 fun x hx=>al x (List.mem_cons_of_mem _ hx)
  refine ⟨L',h2,fun p=>?_⟩
  rw [m,mem_addL,List.map_cons,List.mem_cons,or_assoc]
theorem putAll_self:∀ (more acc:List (Key × V)),((acc ++ more).map (·.1)).Nodup -> putAll acc more = acc ++ more
 | [],acc,_=>by rw [List.append_nil]; rfl
 | kv :: more,acc,nd=>by
  have e:putK acc kv.1 kv.2 = acc ++ [kv]:=putK_new _ (by
   cases q:valV acc kv.1 with
   | none=>rfl
   | some v =>
    have:=valV_in q
    rw [List.map_append,List.map_cons] at nd
    exact absurd rfl ((List.nodup_append.mp nd).2.2 _ this _ (List.mem_cons_self ..)))
  show putAll (putK acc kv.1 kv.2) more = _
  rw [e,putAll_self more (acc ++ [kv]) (by rw [List.append_assoc]; exact nd),List.append_assoc]
  rfl
theorem DictIs.vals2 {ka kb:List (Key × V)} (a:DictIs K H ka L g) (b:DictIs K H kb L g) (s:∀ p ∈ L,SeqAt.shaped (g p) = true) (e:∀ p ∈ L,PyData.eqv (g p) (g p) = true):Vals2 K H kb ka:=fun kv hkv=>by
 obtain ⟨ek,hm,hd⟩:=a.pair hkv
 obtain ⟨y,h1,h2⟩:=b.val _ hm
 exact ⟨y,_,_,by rw [ek]; exact h1,hd,h2,s _ hm,s _ hm,e _ hm⟩
end
structure Files (K:PySem.W.Frag) (H:Hp) (kvs:List (Key × V)) (L:List Str) (F:Str -> Option (List Str)):Prop where
 is:DictIs K H kvs L (fun p=>oD (F p))
 mem:∀ p,p ∈ L ↔ (F p).isSome = true
section
variable {K:PySem.W.Frag} {H H':Hp} {kvs:List (Key × V)} {L:List Str} {F:Str -> Option (List Str)}
theorem Files.get (h:Files K H kvs L F) (p:Str):Dt K H (oD (F p)) ((valV kvs (.inr p)).getD .non):=by
 by_cases z:p ∈ L
 ·obtain ⟨v,e,d⟩:=h.is.val p z
  rw [e]; exact d
 ·rw [h.is.no z]
  have:F p = none:=by
   cases q:F p with
   | none=>rfl
   | some x=>exact absurd ((h.mem p).mpr (by rw [q]; rfl)) z
  rw [this]
  rfl
theorem Files.mono (h:Files K H kvs L F) (e:DS H H'):Files K H' kvs L F:=⟨h.is.mono e,h.mem⟩
theorem Files.same (h:Files K H kvs L F) (e:Same H H'):Files K H' kvs L F:=h.mono (.of e)
theorem Files.put (h:Files K H kvs L F) (p:Str) {v:V} {ls:List Str} (hv:Dt K H (tupS ls) v):Files K H (putK kvs (.inr p) v) (addL L p) (fun q=>if q = p then some ls else F q):=by
 refine ⟨(h.is.put p hv).cong fun q _=>?_,fun q=>?_⟩
 ·show (if q = p then tupS ls else oD (F q)) = oD (if q = p then some ls else F q)
  split <;> rfl
 ·rw [mem_addL,h.mem]
  show _ ↔ (if q = p then some ls else F q).isSome = true
  by_cases z:q = p
  ·rw [if_pos z]; exact ⟨fun _=>rfl,fun _=>.inr z⟩
  ·rw [if_neg z]; exact ⟨fun q=>q.resolve_right z,.inl⟩
end
def J3 (b m y:Option (List Str)) (r:Option (Option (List Str))):Prop :=
 (m = y /\ r = some m) \/ (m ≠ y /\ m = b /\ r = some y) \/ (m ≠ y /\ m ≠ b /\ y = b /\ r = some m) \/ (m ≠ y /\ m ≠ b /\ y ≠ b /\ (b = none \/ m = none \/ y = none) /\ r = none) \/
 (m ≠ y /\ m ≠ b /\ y ≠ b /\ ∃ xs ms ys ps,b = some xs /\ m = some ms /\ y = some ys /\ Joined xs ms ys ps /\ r = (cleanL ps).map some)
def OutAt (K:PySem.W.Frag) (H:Hp) (t:Addr):Option (Option (List Str)) -> Prop
 | none=>SqT K H t [.str "clash",.non]
 | some o=>∃ v,SqT K H t [.str "stands",v] /\ Dt K H (oD o) v
def spAt (K:PySem.W.Frag):Sp:=fun vs H Q _=>∃ (vb vm vy:V) (b m y:Option (List Str)),vs = [vb,vm,vy] /\ Dt K H (oD b) vb /\ Dt K H (oD m) vm /\ Dt K H (oD y) vy /\ okO b /\ okO m /\ okO y /\ (∀ xs ms ys,b = some xs -> m = some ms -> y = some ys -> okJ xs ms ys) /\
 ∀ (t:Addr) r H',Same H H' -> J3 b m y r -> OutAt K H' t r -> Q (.ref t) H'
def blB (L:List Str) (p:Str):Bool:=L.any fun q=>overB q p || overB p q
def spWay (K:PySem.W.Frag):Sp:=fun vs H Q _=>∃ (d:Addr) (kvs:List (Key × V)) (L:List Str) (g:Str -> PyData),vs = [.ref d] /\ H d = some (.dK kvs) /\ DictIs K H kvs L g /\ (∀ p ∈ L,p.length <= 1000) /\ L.length <= 100 /\
 ∀ (e:Addr) (ke:List (Key × V)) (M:List Str) H',Same H H' -> H e = none -> H' e = some (.dK ke) -> DictIs K H' ke M (fun _=>.bool true) -> (∀ p,p ∈ M ↔ p ∈ L /\ blB L p = true) -> Q (.ref e) H'
abbrev Js:=Str -> Option (Option (List Str))
def stB (j:Js) (p:Str):Bool:=match j p with
 | some (some _)=>true
 | _=>false
def ST (ss:List Str) (j:Js):List Str:=ss.filter (stB j)
def LF (ss:List Str) (j:Js):List Str:=(ST ss j).filter fun p=>!blB (ST ss j) p
def LC (ss:List Str) (j:Js):List Str:=ss.filter fun p=>(j p).isNone || (stB j p && blB (ST ss j) p)
def gF (j:Js) (p:Str):PyData:=oD ((j p).getD none)
def rowD (B M Y:Str -> Option (List Str)) (p:Str):PyData:=.tuple [.str p,oD (B p),oD (M p),oD (Y p)]
structure Uni (LB LM LY ss:List Str):Prop where
 sorted:ss.Pairwise leS
 nd:ss.Nodup
 mem:∀ p,p ∈ ss ↔ p ∈ LB \/ p ∈ LM \/ p ∈ LY
theorem same_sorted {l m:List Str} (h1:l.Pairwise leS) (h2:m.Pairwise leS) (n1:l.Nodup) (n2:m.Nodup) (e:∀ p,p ∈ l ↔ p ∈ m):l = m :=
 List.Perm.eq_of_pairwise (fun a b _ _=>leS_anti) h1 h2 ((List.perm_ext_iff_of_nodup n1 n2).mpr e)
theorem Uni.turn {LB LM LY ss:List Str} (h:Uni LB LM LY ss):Uni LB LY LM ss:=⟨h.sorted,h.nd,fun p=>by rw [h.mem]; exact or_congr Iff.rfl or_comm⟩
structure Three (K:PySem.W.Frag) (H:Hp) (kb km ky:List (Key × V)) (LB LM LY:List Str) (B M Y:Str -> Option (List Str)):Prop where
 fb:Files K H kb LB B
 fm:Files K H km LM M
 fy:Files K H ky LY Y
 len:LB.length + LM.length + LY.length < 60
 path:∀ p,p ∈ LB \/ p ∈ LM \/ p ∈ LY -> p.length <= 1000 /\ PyData.strOk p = true
 ok:∀ p,okO (B p) /\ okO (M p) /\ okO (Y p)
theorem Three.mono {K:PySem.W.Frag} {H H':Hp} {kb km ky:List (Key × V)} {LB LM LY:List Str} {B M Y:Str -> Option (List Str)} (h:Three K H kb km ky LB LM LY B M Y) (e:DS H H'):Three K H' kb km ky LB LM LY B M Y:=⟨h.fb.mono e,h.fm.mono e,h.fy.mono e,h.len,h.path,h.ok⟩
theorem Three.turn {K:PySem.W.Frag} {H:Hp} {kb km ky:List (Key × V)} {LB LM LY:List Str} {B M Y:Str -> Option (List Str)} (h:Three K H kb km ky LB LM LY B M Y):Three K H kb ky km LB LY LM B Y M:=⟨h.fb,h.fy,h.fm,by have:=h.len; omega,fun p hp=>h.path p (hp.elim .inl fun z=>.inr z.symm),fun p=>⟨(h.ok p).1,(h.ok p).2.2,(h.ok p).2.1⟩⟩
end AnS
namespace AnS
open PySem L2 An AnJ
section
variable {K:PySem.W.Frag} {H H':Hp}
theorem take_yes {ss:List Str} {i:Nat} {p:Str} {f:Str -> Bool} (nd:ss.Nodup) (hx:ss[i]? = some p) (h:f p = true):addL ((ss.take i).filter f) p = (ss.take (i + 1)).filter f:=by
 have nin:p ∉ (ss.take i).filter f:=fun z=>by
  obtain ⟨k,hk,e⟩:=List.mem_iff_getElem.mp (List.mem_filter.mp z).1
  rw [List.getElem_take] at e
  obtain ⟨hi,ei⟩:=List.getElem?_eq_some_iff.mp hx
  rw [List.length_take] at hk
  have:=(List.getElem_inj nd).mp (e.trans ei.symm)
  omega
 unfold addL
 rw [if_neg nin,List.take_add_one,hx,List.filter_append]
 show _ = _ ++ [p].filter f
 rw [List.filter_cons,if_pos h]
 rfl
theorem take_no {ss:List Str} {i:Nat} {p:Str} {f:Str -> Bool} (hx:ss[i]? = some p) (h:f p = false):(ss.take i).filter f = (ss.take (i + 1)).filter f:=by
 rw [List.take_add_one,hx,List.filter_append]
 show _ = _ ++ [p].filter f
 rw [List.filter_cons,if_neg (by rw [h]; exact Bool.false_ne_true)]
 exact (List.append_nil _).symm
theorem DictIs.filter {kvs:List (Key × V)} {L:List Str} {g:Str -> PyData} (h:DictIs K H kvs L g) (f:Str -> Bool):DictIs K H (kvs.filter fun kv=>f (keyS kv)) (L.filter f) g:=by
 have e:(kvs.filter fun kv=>f (keyS kv)).map (·.1) = (L.filter f).map Sum.inr:=by
  rw [← h.keysS,List.filter_map,List.map_map]
  refine List.map_congr_left fun kv hkv=>?_
  exact h.allS kv (List.mem_filter.mp hkv).1
 refine ⟨e,h.nd.filter _,fun p hp=>?_⟩
 obtain ⟨hp,hf⟩:=List.mem_filter.mp hp
 obtain ⟨v,a,b⟩:=h.val p hp
 refine ⟨v,?_,b⟩
 obtain ⟨kv,hkv,ek⟩:=List.mem_map.mp (valV_in a)
 have e2:=valV_at h.nodup hkv
 rw [ek,a] at e2
 have hk:keyS kv = p:=by unfold keyS; rw [ek]
 have nd2:((kvs.filter fun kv=>f (keyS kv)).map (·.1)).Nodup:=by
  rw [e]
  exact List.Pairwise.map _ (fun a b n e=>by cases e; exact n rfl) (h.nd.filter _)
 have:=valV_at nd2 (List.mem_filter.mpr ⟨hkv,by rw [hk]; exact hf⟩)
 rw [ek] at this
 rw [this,Option.some.inj e2]
theorem pairs_same {xs:List V} {kvs:List (Key × V)} (h:jC K H xs kvs) (e:Same H H'):jC K H' xs kvs:=⟨h.1,fun i x hx=>let ⟨T,k,v,a,b,c⟩:=h.2 i x hx; ⟨T,k,v,a,e.tupS b,c⟩⟩
theorem pairs_snoc {xs:List V} {kvs:List (Key × V)} {T:Addr} {k:Key} {v:V} (h:jC K H xs kvs) (hT:SqT K H T [kV k,v]):jC K H (xs ++ [.ref T]) (kvs ++ [(k,v)]):=by
 refine ⟨by rw [List.length_append,List.length_append,h.1]; rfl,fun i x hx=>?_⟩
 by_cases z:i < xs.length
 ·rw [List.getElem?_append_left z] at hx
  obtain ⟨T,k,v,a,b,c⟩:=h.2 i x hx
  exact ⟨T,k,v,a,b,by rw [List.getElem?_append_left (by rw [← h.1]; exact z)]; exact c⟩
 ·rw [List.getElem?_append_right (by omega)] at hx
  have hi:i - xs.length = 0:=by
   rcases Nat.eq_zero_or_pos (i - xs.length) with q | q
   ·exact q
   ·rw [List.getElem?_eq_none_iff.mpr (by show 1 <= _; omega)] at hx; cases hx
  rw [hi] at hx
  cases hx
  exact ⟨T,k,v,rfl,hT,by rw [List.getElem?_append_right (by rw [← h.1]; omega),← h.1,hi]; rfl⟩
theorem pairs_nil:jC K H [] []:=⟨rfl,fun i x hx=>(nomatch hx)⟩
theorem uni_of {LB LM LY ks3 ks5 ss:List Str} (b3:AxS.Both LB LM ks3) (b5:AxS.Both ks3 LY ks5) (pm:ss.Perm ks5) (so:PyProof.Rows.sortedS ss = true) (nb:LB.Nodup) (nm:LM.Nodup) (ny:LY.Nodup):Uni LB LM LY ss :=
 ⟨sorted_pw so,pm.nodup_iff.mpr (b5.nd (b3.nd nb nm) ny),fun p=>by rw [pm.mem_iff,b5.mem,b3.mem,or_assoc]⟩
theorem Uni.len {LB LM LY ks3 ks5 ss:List Str} (b3:AxS.Both LB LM ks3) (b5:AxS.Both ks3 LY ks5) (pm:ss.Perm ks5):ss.length <= LB.length + LM.length + LY.length:=by
 have:=b3.len
 have:=b5.len
 rw [pm.length_eq]
 omega
theorem LC_sorted {ss:List Str} {j:Js} (h:ss.Pairwise leS) (nd:ss.Nodup):(LC ss j).Pairwise leS /\ (LC ss j).Nodup:=⟨h.filter _,nd.filter _⟩
theorem LC_mem {ss:List Str} {j:Js} {p:Str}:p ∈ LC ss j ↔ p ∈ ss.filter (fun p=>(j p).isNone) \/ (p ∈ ST ss j /\ blB (ST ss j) p = true):=by
 unfold LC ST
 rw [List.mem_filter,List.mem_filter,List.mem_filter]
 constructor
 ·rintro ⟨h,z⟩
  rcases Bool.or_eq_true_iff.mp z with z | z
  ·exact .inl ⟨h,z⟩
  ·have:=Bool.and_eq_true_iff.mp z
   exact .inr ⟨⟨h,this.1⟩,this.2⟩
 ·rintro (⟨h,z⟩ | ⟨⟨h,a⟩,b⟩)
  ·exact ⟨h,by rw [z]; rfl⟩
  ·refine ⟨h,?_⟩
   rw [a,b]
   exact Bool.or_true _
theorem ST_mem {ss:List Str} {j:Js} {p:Str} (h:p ∈ ST ss j):p ∈ ss:=(List.mem_filter.mp h).1
theorem LF_of {ss M:List Str} {j:Js} (h:∀ p,p ∈ M ↔ p ∈ ST ss j /\ blB (ST ss j) p = true):(ST ss j).filter (fun p=>decide (p ∉ M)) = LF ss j:=by
 unfold LF
 refine List.filter_congr fun p hp=>?_
 rw [Bool.eq_iff_iff,decide_eq_true_iff,h,Bool.not_eq_true',Bool.eq_false_iff]
 exact ⟨fun z w=>z ⟨hp,w⟩,fun z w=>z w.2⟩
end
end AnS
namespace AnS
theorem len_sub {l m:List PySem.Str} (n1:l.Nodup) (n2:m.Nodup) (h:∀ p ∈ l,p ∈ m):l.length <= m.length:=by
 have:=(List.perm_ext_iff_of_nodup n1 (n2.filter (fun p=>decide (p ∈ l)))).mpr fun p=>by
  rw [List.mem_filter,decide_eq_true_iff]
  exact ⟨fun z=>⟨h p z,z⟩,fun z=>z.2⟩
 rw [this.length_eq]
 exact List.length_filter_le _ _
end AnS
namespace An17
open PySem L2 An An10 An12
seal L2.PS L2.PSs L2.PE L2.PT L2.PW L2.PA L2.PG L2.PGs L2.PI L2.PFi L2.PC
section
variable {P:Program} {w:World} {K:PySem.W.Frag} {mg:Str -> Option Value} {base:Heap} {t1 t2:Tok}
namespace s_at
theorem qM {H:Hp} {o:Option (List Str)} {v:V} (h:Dt K H (AnS.oD o) v):v = .non ↔ o = none:=by
 cases o with
 | none=>exact ⟨fun _=>rfl,fun _=>h⟩
 | some ls =>
  obtain ⟨a,xs,e,_⟩:=(show ∃ a xs,v = .ref a /\ _ from h)
  exact ⟨fun z=>(by rw [e] at z; cases z),fun z=>(by cases z)⟩
theorem tup_of {H:Hp} {ls:List Str} {v:V} (h:Dt K H (AnS.oD (some ls)) v):∃ q,v = .ref q /\ SqT K H q (ls.map V.str):=by
 obtain ⟨a,xs,e,h1,h2⟩:=(show ∃ a xs,v = .ref a /\ SqT K H a xs /\ DtAll K H (ls.map PyData.str) xs from h)
 rw [DtAll.strs_of h2] at h1
 exact ⟨a,e,h1⟩
abbrev st:Stmt:=top 19
theorem sc:FnScope ["base","mine","yours","lines"] ["base","mine","yours"] (zE st):=⟨rfl,rfl,rfl,by decide +kernel,rfl,by decide +kernel,by decide +kernel⟩
theorem ok {f:Addr} {fd:FuncData} (F:Fun K "joined_at" "joined_at" st f fd) (T:Txt K mg t1 t2) (C_joined_lines:Cal P w K mg base 7 "joined_lines" ["base","mine","yours"] (AnJ.spJoined K)) (C_clean_lines:Cal P w K mg base 1 "clean_lines" ["parts"] (AnJ.spClean K)):FnOk P w K mg base CX0 8 f fd ["base","mine","yours"] (AnS.spAt K):=by
 refine F.ok sc (fun vs H Q E h=>?_) (fun cdv A outer s H vs Q E hr h=>?_)
 ·obtain ⟨vb,vm,vy,b,m,y,rfl,_⟩:=h
  rfl
 ·obtain ⟨vb,vm,vy,b,m,y,rfl,hb,hm,hy,ob,om,oy,oj,k⟩:=h
  refine ⟨_,(zC (yS (zQ (op_eqD hr.units) (pv 1) (pv 2) (zX _))
    (zH (zW (yC (zA zS (zA (pv 1) pa_nil)))))
    z4)
   (zC (yS (zQ (op_eqD hr.units) (pv 1) (pv 0) (zX _))
    (zH (zW (yC (zA zS (zA (pv 2) pa_nil)))))
    z4)
   (zC (yS (zQ (op_eqD hr.units) (pv 2) (pv 0) (zX _))
    (zH (zW (yC (zA zS (zA (pv 1) pa_nil)))))
    z4)
   (zC (yS (PW.pt (pw_or (zQ op_isN (pv 0) pe_non (zX _)) (pw_or (zQ op_isN (pv 1) pe_non (zX _)) (jF (zQ op_isN (pv 2) pe_non (zX _))))))
    (zH (zW (yC (zA zS (zA pe_non pa_nil)))))
    z4)
   (zC (zJ (i:=3) sc.nd rfl (Or.inl rfl) (zK C_clean_lines (hr.mono (by decide)) (zA (zK C_joined_lines (hr.mono (by decide)) (zA (pv 0) (zA (pv 1) (zA (pv 2) pa_nil)))) pa_nil)))
   (zH (zW (pe_ifExp (zQ op_isN (pv 3) pe_non (zX _)) (yC (zA zS (zA pe_non pa_nil))) (yC (zA zS (zA (pv 3) pa_nil))))))))))),?_⟩
  refine ⟨_,rfl,_,rfl,AnS.oD m,AnS.oD y,hm,hy,AnS.shaped_oD om,AnS.shaped_oD oy,_,rfl,ite2 (fun h1=>?_) (fun h1=>?_)⟩
  ·rw [AnS.eqv_oD] at h1
   exact ⟨_,rfl,lineN 2,fun t nt=>k t (some m) _ (same_upd nt) (.inl ⟨of_decide_eq_true h1,rfl⟩) ⟨vm,SqT.of zB,Dt.same (same_upd nt) _ _ hm⟩⟩
  rw [AnS.eqv_oD] at h1
  have h1:m ≠ y:=fun z=>h1 (decide_eq_true z)
  refine ⟨_,rfl,_,rfl,AnS.oD m,AnS.oD b,hm,hb,AnS.shaped_oD om,AnS.shaped_oD ob,_,rfl,ite2 (fun h2=>?_) (fun h2=>?_)⟩
  ·rw [AnS.eqv_oD] at h2
   exact ⟨_,rfl,lineN 2,fun t nt=>k t (some y) _ (same_upd nt) (.inr (.inl ⟨h1,of_decide_eq_true h2,rfl⟩)) ⟨vy,SqT.of zB,Dt.same (same_upd nt) _ _ hy⟩⟩
  rw [AnS.eqv_oD] at h2
  have h2:m ≠ b:=fun z=>h2 (decide_eq_true z)
  refine ⟨_,rfl,_,rfl,AnS.oD y,AnS.oD b,hy,hb,AnS.shaped_oD oy,AnS.shaped_oD ob,_,rfl,ite2 (fun h3=>?_) (fun h3=>?_)⟩
  ·rw [AnS.eqv_oD] at h3
   exact ⟨_,rfl,lineN 2,fun t nt=>k t (some m) _ (same_upd nt) (.inr (.inr (.inl ⟨h1,h2,of_decide_eq_true h3,rfl⟩))) ⟨vm,SqT.of zB,Dt.same (same_upd nt) _ _ hm⟩⟩
  rw [AnS.eqv_oD] at h3
  have h3:y ≠ b:=fun z=>h3 (decide_eq_true z)
  have cl:(b = none \/ m = none \/ y = none) -> ∀ t,H t = none -> Q (.ref t) (upd H t (.tup [.str "clash",.non])):=fun z t nt=>k t none _ (same_upd nt) (.inr (.inr (.inr (.inl ⟨h1,h2,h3,z,rfl⟩)))) (SqT.of zB)
  refine ⟨_,rfl,rfl,_,rfl,ite2 (fun a1=>iteT ⟨lineN 2,cl (.inl ((qM hb).mp (of_decide_eq_true a1)))⟩) (fun a1=>⟨_,rfl,rfl,_,rfl,ite2 (fun a2=>iteT ⟨lineN 2,cl (.inr (.inl ((qM hm).mp (of_decide_eq_true a2))))⟩) (fun a2=>⟨_,rfl,rfl,_,rfl,ite2 (fun a3=>⟨lineN 2,cl (.inr (.inr ((qM hy).mp (of_decide_eq_true a3))))⟩) (fun a3=>?_)⟩)⟩)⟩
  have nb:b ≠ none:=fun z=>a1 (decide_eq_true ((qM hb).mpr z))
  have nm:m ≠ none:=fun z=>a2 (decide_eq_true ((qM hm).mpr z))
  have ny:y ≠ none:=fun z=>a3 (decide_eq_true ((qM hy).mpr z))
  obtain ⟨xs,rfl⟩:=Option.ne_none_iff_exists'.mp nb
  obtain ⟨ms,rfl⟩:=Option.ne_none_iff_exists'.mp nm
  obtain ⟨ys,rfl⟩:=Option.ne_none_iff_exists'.mp ny
  obtain ⟨qb,rfl,sb⟩:=tup_of hb
  obtain ⟨qm,rfl,sm⟩:=tup_of hm
  obtain ⟨qy,rfl,sy⟩:=tup_of hy
  have okj:=oj xs ms ys rfl rfl rfl
  refine ⟨_,rfl,_,rfl,_,rfl,qb,qm,qy,xs,ms,ys,rfl,sb,sm,sy,okj,fun l ps H1 s1 nl jn pa=>?_⟩
  have okp:=jn.okPs okj
  refine ⟨l,ps,rfl,pa.dt,okp.1,fun x hx=>(okp.2 _ hx).2,fun e H2 s2=>?_,fun ls e p H2 s2 hp=>?_⟩
  ·have u:=s1.trans s2
   exact ⟨_,rfl,rfl,_,rfl,iteY rfl ⟨lineN 2,fun t nt=>k t none _ (u.trans (same_upd nt)) (.inr (.inr (.inr (.inr ⟨h1,h2,h3,xs,ms,ys,ps,rfl,rfl,rfl,jn,by rw [e]; rfl⟩)))) (SqT.of zB)⟩⟩
  ·have u:=s1.trans s2
   exact ⟨_,rfl,rfl,_,rfl,iteN (fun z=>(nomatch z)) ⟨_,rfl,lineN 2,fun t nt=>k t (some (some ls)) _ (u.trans (same_upd nt)) (.inr (.inr (.inr (.inr ⟨h1,h2,h3,xs,ms,ys,ps,rfl,rfl,rfl,jn,by rw [e]; rfl⟩)))) ⟨.ref p,SqT.of zB,Dt.same (same_upd nt) _ _ (AnJ.lines_dt hp)⟩⟩⟩
end s_at
namespace s_way
abbrev st:Stmt:=top 20
theorem sc:FnScope ["files","found","path","folder"] ["files"] (zE st):=⟨rfl,rfl,rfl,by decide +kernel,rfl,by decide +kernel,by decide +kernel⟩
def W (L:List Str) (xs:List Str) (p:Str):Prop:=∃ x ∈ xs,∃ f ∈ fols x,f ∈ L /\ (p = f \/ p = x)
theorem W_all {L:List Str} {p:Str}:W L L p ↔ p ∈ L /\ AnS.blB L p = true:=by
 unfold AnS.blB
 rw [List.any_eq_true]
 constructor
 ·rintro ⟨x,hx,f,hf,hL,rfl | rfl⟩
  ·exact ⟨hL,x,hx,by rw [fols_iff.mp hf,Bool.or_true]⟩
  ·exact ⟨hx,f,hL,by rw [fols_iff.mp hf,Bool.true_or]⟩
 ·rintro ⟨hp,q,hq,h⟩
  rcases Bool.or_eq_true_iff.mp h with h | h
  ·exact ⟨p,hp,q,fols_iff.mpr h,hq,.inr rfl⟩
  ·exact ⟨q,hq,p,fols_iff.mpr h,hp,.inl rfl⟩
def I (H:Hp) (d e:Addr) (ob:Obj) (kvs:List (Key × V)) (K:PySem.W.Frag) (H2:Hp) (R:List Str -> Prop):Prop:=(∀ b o,b ≠ d -> H b = some o -> H2 b = some o) /\ H2 d = some (.frz ob (.dK kvs)) /\ ∃ ke M,H2 e = some (.dK ke) /\ AnS.DictIs K H2 ke M (fun _=>.bool true) /\ R M
theorem ok {f:Addr} {fd:FuncData} (F:Fun K "in_the_way" "in_the_way" st f fd) (T:Txt K mg t1 t2) (C_folders_of:Cal P w K mg base 1 "folders_of" ["path"] (spFols K)):FnOk P w K mg base CX0 2 f fd ["files"] (AnS.spWay K):=by
 refine F.ok sc (fun vs H Q E h=>?_) (fun cdv A outer s H vs Q E hr h=>?_)
 ·obtain ⟨d,kvs,L,g,rfl,_⟩:=h
  rfl
 ·obtain ⟨d,kvs,L,g,rfl,hd,di,pl,ll,k⟩:=h
  refine ⟨_,(zC (zJ (i:=1) sc.nd rfl (Or.inl rfl) jD)
   (zC (yZ PassesOwn.never rfl (pi_keys (pe_frz (pv 0))) (zN (i:=2) sc.nd rfl (Or.inl rfl))
    (zH (yZ PassesOwn.never rfl (yN (zK C_folders_of (hr.mono (by decide)) (zA (pv 2) pa_nil))) (zN (i:=3) sc.nd rfl (Or.inl rfl))
     (zH (yS (zQ (op_inZ hr.units) (pv 3) (pv 0) (by with_unfolding_all rfl))
      (zC (qT hr.units1 (pv 1) (pv 3) pe_bl rfl)
      (zH (qT hr.units1 (pv 1) (pv 2) pe_bl rfl)))
      z4)))))
   (zH (zW (qQ (pv 1)))))),?_⟩
  have vl:=di.len
  refine fun e ne=>?_
  have de:d ≠ e:=zI hd ne
  refine ⟨_,rfl,d,kvs,rfl,by rw [zD de]; exact hd,fun ob=>⟨d,ob,kvs,rfl,zB,?_⟩⟩
  refine for_keys (fun i σ H2=>∃ o3 o4,σ = [some (.ref d),some (.ref e),o3,o4] /\ I H d e ob kvs K H2 (fun M=>(∀ p,p ∈ M ↔ W L (L.take i) p) /\ M.length <= 2002 * i)) ?_ ?_ ?_ ?_
  ·refine ⟨none,none,rfl,fun b o nb hb=>?_,zB,[],[],?_,AnS.DictIs.nil,fun p=>?_,Nat.zero_le _⟩
   ·rw [zD nb,zD (zI hb ne)]
    exact hb
   ·rw [zD (Ne.symm de),zB]
   ·exact ⟨fun z=>(nomatch z),fun ⟨x,hx,_⟩=>(nomatch hx)⟩
  ·rintro i σ H2 hi ⟨o3,o4,rfl,h1,h2,_⟩
   exact h2
  ·rintro i ky v σ H2 hi ⟨o3,o4,rfl,h1,h2,ke,M,h3,h4,h5,h6⟩
   obtain ⟨hx,ek⟩:=di.at hi
   have ek:ky = .inr (keyS (ky,v)):=ek
   generalize keyS (ky,v) = x at hx ek
   subst ek
   have xm:=List.mem_of_getElem? hx
   have il:i < 100:=by have:=(List.getElem?_eq_some_iff.mp hx).1; omega
   refine ⟨_,rfl,x,rfl,pl x xm,fun l H3 s3 hl=>⟨l,rfl,⟨_,hl⟩,?_⟩⟩
   have fl:(fols x).length <= 1000:=by
    have:=labs_cnt x
    have:=pl x xm
    unfold fols
    rw [List.length_map,List.length_range]
    omega
   refine y9 (K:=K) (a:=l) (xs:=(fols x).map V.str) (fun i' σ H4=>∃ o4,σ = [some (.ref d),some (.ref e),some (.str x),o4] /\ SqL K H4 l ((fols x).map V.str) /\ I H d e ob kvs K H4 (fun M=>(∀ p,p ∈ M ↔ W L (L.take i) p \/ ∃ f ∈ (fols x).take i',f ∈ L /\ (p = f \/ p = x)) /\ M.length <= 2002 * i + 2 * i')) ?_ ?_ ?_ ?_
   ·exact ⟨_,rfl,hl,fun b o nb hb=>s3 _ _ (h1 b o nb hb),s3 _ _ h2,ke,M,s3 _ _ h3,h4.same s3,fun p=>by rw [h5]; exact ⟨.inl,fun z=>z.elim id fun ⟨f,hf,_⟩=>(nomatch hf)⟩,by omega⟩
   ·rintro i' σ H4 hi' ⟨o4,rfl,hl4,_⟩
    exact hl4
   ·rintro i' y σ H4 hy ⟨o4,rfl,hl4,g1,g2,ke,M,g3,g4,g5,g6⟩
    rw [List.getElem?_map] at hy
    cases q:(fols x)[i']? with
    | none=>rw [q] at hy; cases hy
    | some z =>
     rw [q] at hy
     have hy:V.str z = y:=Option.some.inj hy
     subst hy
     have i'l:i' < 1000:=by have:=(List.getElem?_eq_some_iff.mp q).1; omega
     have tk:(fols x).take (i' + 1) = (fols x).take i' ++ [z]:=by rw [List.take_add_one,q]; rfl
     have kl:=g4.len
     refine ⟨_,rfl,_,rfl,d,_,rfl,get_frz (k:=.inr z) g2,_,rfl,ite2 (fun c=>?_) (fun c=>?_)⟩
     ·rw [di.isSome] at c
      have c:z ∈ L:=of_decide_eq_true c
      have kl1:=xJ ke (.inr z:Key) (V.bl true)
      refine ⟨_,rfl,_,rfl,e,_,rfl,DPut.k (k:=.inr z) g3 (Nat.lt_of_lt_of_le (by omega:ke.length < 16777216) (le_line (Nat.le_refl _))),_,rfl,_,rfl,e,_,rfl,DPut.k (k:=.inr x) zB (Nat.lt_of_lt_of_le (by omega:(putK ke (.inr z) (V.bl true)).length < 16777216) (le_line (Nat.le_refl _))),?_⟩
      have ds:AnS.DS H4 (upd (upd H4 e (.dK (putK ke (.inr z) (V.bl true)))) e (.dK (putK (putK ke (.inr z) (V.bl true)) (.inr x) (V.bl true)))):=(AnS.DS.upd g3).trans (AnS.DS.upd zB)
      have p1:=(g4.put z (v:=.bl true) (d:=.bool true) rfl).cong (g':=fun _=>.bool true) fun p _=>by show (if p = z then PyData.bool true else .bool true) = _; rw [ite_self]
      have p2:=(p1.put x (v:=.bl true) (d:=.bool true) rfl).cong (g':=fun _=>.bool true) fun p _=>by show (if p = x then PyData.bool true else .bool true) = _; rw [ite_self]
      refine ⟨_,rfl,ds.sqL hl4,fun b o nb hb=>?_,?_,_,_,zB,p2.mono ds,fun p=>?_,?_⟩
      ·have be:b ≠ e:=zI hb ne
       rw [zD be,zD be]
       exact g1 b o nb hb
      ·rw [zD de,zD de]
       exact g2
      ·rw [AnS.mem_addL,AnS.mem_addL,g5,tk]
       constructor
       ·rintro (((a | ⟨f,hf,a⟩) | rfl) | rfl)
        ·exact .inl a
        ·exact .inr ⟨f,List.mem_append_left _ hf,a⟩
        ·exact .inr ⟨p,List.mem_append_right _ (List.mem_singleton.mpr rfl),c,.inl rfl⟩
        ·exact .inr ⟨z,List.mem_append_right _ (List.mem_singleton.mpr rfl),c,.inr rfl⟩
       ·rintro (a | ⟨f,hf,a⟩)
        ·exact .inl (.inl (.inl a))
        ·rcases List.mem_append.mp hf with hf | hf
         ·exact .inl (.inl (.inr ⟨f,hf,a⟩))
         ·cases List.mem_singleton.mp hf
          rcases a.2 with a | a
          ·exact .inl (.inr a)
          ·exact .inr a
      ·have e1:=AnS.addL_len (L:=M) z
       have e2:=AnS.addL_len (L:=AnS.addL M z) x
       omega
     ·rw [di.isSome] at c
      have c:z ∉ L:=fun w=>c (decide_eq_true w)
      refine ⟨_,rfl,hl4,g1,g2,ke,M,g3,g4,fun p=>?_,by omega⟩
      rw [g5,tk]
      constructor
      ·rintro (a | ⟨f,hf,a⟩)
       ·exact .inl a
       ·exact .inr ⟨f,List.mem_append_left _ hf,a⟩
      ·rintro (a | ⟨f,hf,a⟩)
       ·exact .inl a
       ·rcases List.mem_append.mp hf with hf | hf
        ·exact .inr ⟨f,hf,a⟩
        ·cases List.mem_singleton.mp hf
         exact absurd a.1 c
   ·rintro σ H4 ⟨o4,rfl,hl4,g1,g2,ke,M,g3,g4,g5,g6⟩
    rw [List.length_map] at g5 g6
    refine ⟨_,_,rfl,g1,g2,ke,M,g3,g4,fun p=>?_,by omega⟩
    rw [g5,List.take_length,List.take_add_one,hx]
    constructor
    ·rintro (⟨y,hy,a⟩ | ⟨f,hf,a⟩)
     ·exact ⟨y,List.mem_append_left _ hy,a⟩
     ·exact ⟨x,List.mem_append_right _ (List.mem_singleton.mpr rfl),f,hf,a⟩
    ·rintro ⟨y,hy,f,hf,a⟩
     rcases List.mem_append.mp hy with hy | hy
     ·exact .inl ⟨y,hy,f,hf,a⟩
     ·cases List.mem_singleton.mp hy
      exact .inr ⟨f,hf,a⟩
  ·rintro σ H2 ⟨o3,o4,rfl,h1,h2,ke,M,h3,h4,h5,h6⟩
   refine ⟨_,rfl,d,ob,kvs,h2,fun o u (z:H d = some (.frz o u))=>(by rw [hd] at z; cases z),k e ke M _ (fun b o hb=>?_) ne (by rw [zD (Ne.symm de)]; exact h3) ?_ fun p=>?_⟩
   ·by_cases z:b = d
    ·subst z
     rw [zB,← hd]
     exact hb
    ·rw [zD z]
     exact h1 b o z hb
   ·exact ⟨h4.keys,h4.nd,fun p hp=>let ⟨v,a,b⟩:=h4.val p hp; ⟨v,a,b⟩⟩
   ·rw [h5,vl,List.take_length,W_all]
end s_way
end
end An17
namespace L2
open PySem PySem.Spec PyProof.Rows
section
variable {X:Cx} {K:PySem.W.Frag}
def rCatS (K:PySem.W.Frag):R2:=fun x y H Q=>∃ l b xs zs,x = .ref l /\ y = .ref b /\ SqL K H l xs /\ SqL K H b zs /\ xs.length + zs.length <= sizeLine /\ ∀ p,H p = none -> Q (.ref p) (upd H p (.lst (xs ++ zs)))
theorem yM (hK:X.K = K:=by rfl):OpR X (binaryOp .Add) (rCatS K):=by
 subst hK
 intro pins s σ H x y v u Q I rx ry h
 obtain ⟨l,b,xs,zs,rfl,rfl,hH,hB,hz,q⟩:=h
 cases rx
 cases ry
 obtain ⟨its,r,pl,z1⟩:=I.list hH
 obtain ⟨its2,r2,pl2,z2⟩:=I.list hB
 have l1:=r.length
 have l2:=r2.length
 obtain ⟨⟨cls,dd,data,sl⟩,ho,hc,n,hd⟩:=pl.isList
 obtain ⟨⟨cls2,dd2,data2,sl2⟩,ho2,hc2,n2,hd2⟩:=pl2.isList
 simp only at hc hd hc2 hd2
 subst hc hd hc2 hd2
 refine concat_meets ⟨_,ho,rfl⟩ ⟨_,ho2,rfl⟩ noFill_list_add seq_list_add PySem.F.slot_list_add PySem.F.entry_list_add (PySem.F.args_list_add_2 _ _) (list_addW l b its.toArray its2.toArray n n2 dd dd2 sl sl2 (by rw [List.size_toArray,List.size_toArray]; omega)) ⟨ho,ho2,?_⟩
 have ea:its.toArray ++ its2.toArray = (its ++ its2).toArray:=by simp
 rw [ea]
 exact ⟨.ref _,_,I.lnew (t':=s.toks) (r.append r2) (by rw [List.length_append]; omega),rfl,q _ I.fresh⟩
theorem pg_tupK {pos:Pos} {es:List Expr} {k:Nat} {t:TGs} {n:Nat} (hc:X.calm = true) (h:PGs X es t) (hK:X.K = K:=by rfl)
  (hn:(assignEach es X.env).length = n:=by rfl) (hst:(assignEach es X.env).findIdx? (·.1) = none:=by rfl):PG X (.Tuple es k pos) (gTup K n t):=by
 subst hK
 exact pg_tup hc h hn hst
end
end L2
namespace AnS
open PySem L2 An AnJ
theorem cs_upto (x:Str) (n:Nat):cs (Txt.slice x none (some (n:Int))) = (cs x).take n:=by
 by_cases h:n <= x.length
 ·have e:=eq_of_beq (PyProof.Rows.slice_closes_toL (x:=x) (j:=(n:Int)) (by omega) (by omega))
  rw [e]
  show ((x.cps.toList.drop (0:Int).toNat).take ((n:Int) - 0).toNat).toArray.toList = _
  simp [cs]
 ·have e:=eq_of_beq (PyProof.Rows.slice_closes_toL (x:=x) (j:=(x.length:Int)) (by omega) (by omega))
  rw [PyProof.Rows.slice_to_beyond (by omega),e]
  have hl:(cs x).length <= n:=by rw [← zU]; omega
  rw [List.take_of_length_le hl]
  show ((x.cps.toList.drop (0:Int).toNat).take ((x.length:Int) - 0).toNat).toArray.toList = _
  have:((x.length:Int) - 0).toNat = x.cps.toList.length:=by simp [Str.length]
  rw [this]
  show (x.cps.toList.take x.cps.toList.length) = cs x
  rw [List.take_length]
end AnS
namespace AnS
open PySem L2 An AnJ
end AnS
namespace AnS
open PySem L2 An AnJ
theorem eqv_row (B M Y:Str -> Option (List Str)) (p:Str):PyData.eqv (rowD B M Y p) (rowD B M Y p) = true:=by
 show (PyData.eqv (.str p) (.str p) && (PyData.eqv (oD (B p)) (oD (B p)) && (PyData.eqv (oD (M p)) (oD (M p)) && (PyData.eqv (oD (Y p)) (oD (Y p)) && true)))) = true
 rw [eqv_oD,eqv_oD,eqv_oD,decide_eq_true rfl,decide_eq_true rfl,decide_eq_true rfl]
 show (p == p && true) = true
 rw [beq_self_eq_true]
 rfl
theorem eqv_rows2 (B M Y:Str -> Option (List Str)):∀ l:List Str,PyData.eqvAll (l.map (rowD B M Y)) (l.map (rowD B M Y)) = true
 | []=>rfl
 | p :: l=>by
  show (PyData.eqv (rowD B M Y p) (rowD B M Y p) && PyData.eqvAll (l.map (rowD B M Y)) (l.map (rowD B M Y))) = true
  rw [eqv_row,eqv_rows2 B M Y l]
  rfl
theorem lay_row {B M Y:Str -> Option (List Str)} {p:Str} (ob:okO (B p)) (om:okO (M p)) (oy:okO (Y p)) (op:PyData.strOk p = true):(rowD B M Y p).canLay0 = true /\ (rowD B M Y p).depth <= 2:=by
 obtain ⟨a1,b1⟩:=lay_oD ob
 obtain ⟨a2,b2⟩:=lay_oD om
 obtain ⟨a3,b3⟩:=lay_oD oy
 constructor
 ·show (PyData.strOk p && ((oD (B p)).canLay0 && ((oD (M p)).canLay0 && ((oD (Y p)).canLay0 && true)))) = true
  rw [op,a1,a2,a3]
  rfl
 ·show max 0 (max (oD (B p)).depth (max (oD (M p)).depth (max (oD (Y p)).depth 0))) + 1 <= 2
  omega
theorem files_nil {K:PySem.W.Frag} {H:Hp}:Files K H [] [] (fun _=>none):=⟨DictIs.nil,fun p=>⟨fun z=>(nomatch z),fun z=>(nomatch z)⟩⟩
theorem len_app (x y:Str):(x ++ y).length = x.length + y.length:=by rw [zU,yT,List.length_append,← zU,← zU]
end AnS
namespace AnS
open PySem L2 An AnJ
def farL (n:Nat):List Str:=(["f0","f1","f2","f3"]:List Str).take n
def tA (n:Nat):List Str:=(["a"]:List Str) ++ farL n ++ (["b","c"]:List Str)
def tF (n:Nat):List Str:=(["m"]:List Str) ++ farL n ++ (["b","c"]:List Str)
def tL (n:Nat):List Str:=(["a"]:List Str) ++ farL n ++ (["b","y"]:List Str)
def tO (n:Nat):List Str:=(["n"]:List Str) ++ farL n ++ (["b","c"]:List Str)
def tB (n:Nat):List Str:=(["m"]:List Str) ++ farL n ++ (["b","y"]:List Str)
structure R17 where
 b:Option (List Str)
 m:Option (List Str)
 y:Option (List Str)
 r:Option (Option (List Str))
def tab17 (n:Nat):List R17:=[⟨some (tA n),some (tA n),some (tA n),some (some (tA n))⟩,⟨some (tA n),some (tF n),some (tA n),some (some (tF n))⟩,⟨some (tA n),some (tA n),some (tL n),some (some (tL n))⟩,⟨some (tA n),some (tF n),some (tF n),some (some (tF n))⟩,
 ⟨some (tA n),some (tF n),some (tL n),some (some (tB n))⟩,⟨some (tA n),some (tF n),some (tO n),none⟩,⟨some (tA n),none,some (tA n),some none⟩,
 ⟨some (tA n),some (tA n),none,some none⟩,⟨some (tA n),none,none,some none⟩,⟨some (tA n),none,some (tL n),none⟩,
 ⟨some (tA n),some (tF n),none,none⟩,⟨none,some (tF n),none,some (some (tF n))⟩,⟨none,none,some (tL n),some (some (tL n))⟩,
 ⟨none,some (tF n),some (tF n),some (some (tF n))⟩,⟨none,some (tF n),some (tL n),none⟩,⟨some (tA n),some (tL n),some (tF n),some (some (tB n))⟩]
def N17 (n:Nat):Prop:=n = 0 \/ n = 2 \/ n = 4
def jq (b m y:Option (List Str)):Option (Option (Option (List Str))):=if m = y then some (some m) else if m = b then some (some y) else if y = b then some (some m) else if (b.isNone || m.isNone || y.isNone) = true then some none else none
theorem j3_q {b m y:Option (List Str)} {r q:Option (Option (List Str))} (h:J3 b m y r) (e:jq b m y = some q):r = q:=by
 unfold jq at e
 rcases h with ⟨h1,er⟩ | ⟨h1,h2,er⟩ | ⟨h1,h2,h3,er⟩ | ⟨h1,h2,h3,h4,er⟩ | ⟨h1,h2,h3,xs,ms,ys,ps,eb,em,ey,jn,er⟩
 ·rw [if_pos h1] at e; rw [er]; exact Option.some.inj e
 ·rw [if_neg h1,if_pos h2] at e; rw [er]; exact Option.some.inj e
 ·rw [if_neg h1,if_neg h2,if_pos h3] at e; rw [er]; exact Option.some.inj e
 ·rw [if_neg h1,if_neg h2,if_neg h3,if_pos (by rcases h4 with rfl | rfl | rfl <;> simp)] at e
  rw [er]; exact Option.some.inj e
 ·subst eb em ey
  rw [if_neg h1,if_neg h2,if_neg h3,if_neg (by simp)] at e
  cases e
theorem qL {b m y:List Str} {r:Option (Option (List Str))} (h:J3 (some b) (some m) (some y) r) (n1:m ≠ y) (n2:m ≠ b) (n3:y ≠ b):∃ ps,Joined b m y ps /\ r = (cleanL ps).map some:=by
 rcases h with ⟨h1,er⟩ | ⟨h1,h2,er⟩ | ⟨h1,h2,h3,er⟩ | ⟨h1,h2,h3,h4,er⟩ | ⟨h1,h2,h3,xs,ms,ys,ps,eb,em,ey,jn,er⟩
 ·exact absurd (Option.some.inj h1) n1
 ·exact absurd (Option.some.inj h2) n2
 ·exact absurd (Option.some.inj h3) n3
 ·rcases h4 with h | h | h <;> cases h
 ·cases eb
  cases em
  cases ey
  exact ⟨ps,jn,er⟩
theorem gg1 {A B:List (S Str)} {lo:Nat} {x:List Str} (h:A ++ B = [(lo,lo + 1,x)]):GoodG (⟨lo,lo + 1,A,B⟩:G Str):=by
 refine ⟨fun s hs=>?_,⟨(lo,lo + 1,x),by show _ ∈ A ++ B; rw [h]; exact List.mem_cons_self ..,rfl⟩,fun c c1 c2=>⟨(lo,lo + 1,x),by show _ ∈ A ++ B; rw [h]; exact List.mem_cons_self ..,c1,c2⟩⟩
 have hs:s ∈ A ++ B:=hs
 rw [h,List.mem_singleton] at hs
 subst hs
 exact ⟨Nat.le_refl _,Nat.le_succ _,Nat.le_refl _⟩
theorem grp2 {b x y:List Str} {k:Nat} (h:1 < k):Grp b [(0,1,x)] [(k,k + 1,y)] [⟨0,1,[(0,1,x)],[]⟩,⟨k,k + 1,[],[(k,k + 1,y)]⟩]:=by
 refine ⟨⟨List.Perm.refl _,List.Perm.refl _,fun g hg=>?_,?_⟩,rfl,rfl⟩
 ·simp only [List.mem_cons,List.not_mem_nil,or_false] at hg
  rcases hg with rfl | rfl
  ·exact gg1 (lo:=0) (x:=x) rfl
  ·exact gg1 (x:=y) rfl
 ·exact List.pairwise_cons.mpr ⟨fun g hg=>by rw [List.mem_singleton.mp hg]; exact h,List.pairwise_singleton _ _⟩
theorem grp3 {b x y:List Str} {k:Nat} (h:1 < k):Grp b [(k,k + 1,y)] [(0,1,x)] [⟨0,1,[],[(0,1,x)]⟩,⟨k,k + 1,[(k,k + 1,y)],[]⟩]:=by
 refine ⟨⟨List.Perm.refl _,List.Perm.refl _,fun g hg=>?_,?_⟩,rfl,rfl⟩
 ·simp only [List.mem_cons,List.not_mem_nil,or_false] at hg
  rcases hg with rfl | rfl
  ·exact gg1 (lo:=0) (x:=x) rfl
  ·exact gg1 (x:=y) rfl
 ·exact List.pairwise_cons.mpr ⟨fun g hg=>by rw [List.mem_singleton.mp hg]; exact h,List.pairwise_singleton _ _⟩
theorem grp1 {b m y:List Str}:Grp b [(0,1,m)] [(0,1,y)] [⟨0,1,[(0,1,m)],[(0,1,y)]⟩]:=by
 refine ⟨⟨List.Perm.refl _,List.Perm.refl _,fun g hg=>?_,List.pairwise_singleton _ _⟩,rfl,rfl⟩
 rw [List.mem_singleton.mp hg]
 refine ⟨fun s hs=>?_,⟨_,List.mem_cons_self ..,rfl⟩,fun c c1 c2=>⟨_,List.mem_cons_self ..,c1,c2⟩⟩
 have:s = (0,1,m) \/ s = (0,1,y):=by simpa using hs
 rcases this with rfl | rfl
 ·exact ⟨Nat.le_refl _,Nat.zero_le _,Nat.le_refl _⟩
 ·exact ⟨Nat.le_refl _,Nat.zero_le _,Nat.le_refl _⟩
theorem sF {n:Nat} (hn:N17 n):spansS (tA n) (tF n) = [(0,1,(["m"]:List Str))]:=by rcases hn with rfl | rfl | rfl <;> decide +kernel
theorem sO {n:Nat} (hn:N17 n):spansS (tA n) (tO n) = [(0,1,(["n"]:List Str))]:=by rcases hn with rfl | rfl | rfl <;> decide +kernel
theorem sL {n:Nat} (hn:N17 n):spansS (tA n) (tL n) = [(n + 2,n + 2 + 1,(["y"]:List Str))]:=by rcases hn with rfl | rfl | rfl <;> decide +kernel
theorem cl_FL {n:Nat} (hn:N17 n) {ps:List (Pt Str)} (h:Joined (tA n) (tF n) (tL n) ps):cleanL ps = some (tB n):=by
 have g:Grp (tA n) (spansS (tA n) (tF n)) (spansS (tA n) (tL n)) [⟨0,1,[(0,1,["m"])],[]⟩,⟨n + 2,n + 2 + 1,[],[(n + 2,n + 2 + 1,["y"])]⟩]:=by
  rw [sF hn,sL hn]; exact grp2 (by omega)
 rw [h.uniq strO ⟨_,g,rfl⟩]
 rcases hn with rfl | rfl | rfl <;> decide +kernel
theorem cl_LF {n:Nat} (hn:N17 n) {ps:List (Pt Str)} (h:Joined (tA n) (tL n) (tF n) ps):cleanL ps = some (tB n):=by
 have g:Grp (tA n) (spansS (tA n) (tL n)) (spansS (tA n) (tF n)) [⟨0,1,[],[(0,1,["m"])]⟩,⟨n + 2,n + 2 + 1,[(n + 2,n + 2 + 1,["y"])],[]⟩]:=by
  rw [sF hn,sL hn]; exact grp3 (by omega)
 rw [h.uniq strO ⟨_,g,rfl⟩]
 rcases hn with rfl | rfl | rfl <;> decide +kernel
theorem cl_FO {n:Nat} (hn:N17 n) {ps:List (Pt Str)} (h:Joined (tA n) (tF n) (tO n) ps):cleanL ps = none:=by
 have g:Grp (tA n) (spansS (tA n) (tF n)) (spansS (tA n) (tO n)) [⟨0,1,[(0,1,["m"])],[(0,1,["n"])]⟩]:=by
  rw [sF hn,sO hn]; exact grp1
 rw [h.uniq strO ⟨_,g,rfl⟩]
 rcases hn with rfl | rfl | rfl <;> decide +kernel
theorem cl_OF {n:Nat} (hn:N17 n) {ps:List (Pt Str)} (h:Joined (tA n) (tO n) (tF n) ps):cleanL ps = none:=by
 have g:Grp (tA n) (spansS (tA n) (tO n)) (spansS (tA n) (tF n)) [⟨0,1,[(0,1,["n"])],[(0,1,["m"])]⟩]:=by
  rw [sF hn,sO hn]; exact grp1
 rw [h.uniq strO ⟨_,g,rfl⟩]
 rcases hn with rfl | rfl | rfl <;> decide +kernel
theorem nes {n:Nat} (hn:N17 n):tF n ≠ tL n /\ tF n ≠ tA n /\ tL n ≠ tA n /\ tF n ≠ tO n /\ tO n ≠ tA n:=by
 rcases hn with rfl | rfl | rfl <;> decide +kernel
theorem det17 {n:Nat} (hn:N17 n) {row:R17} (h:row ∈ tab17 n) {r:Option (Option (List Str))}:(J3 row.b row.m row.y r -> r = row.r) /\ (J3 row.b row.y row.m r -> r = row.r):=by
 obtain ⟨e1,e2,e3,e4,e5⟩:=nes hn
 simp only [tab17,List.mem_cons,List.not_mem_nil,or_false] at h
 rcases h with rfl | rfl | rfl | rfl | rfl | rfl | rfl | rfl | rfl | rfl | rfl | rfl | rfl | rfl | rfl | rfl
 case inr.inr.inr.inr.inl =>
  refine ⟨fun j=>?_,fun j=>?_⟩
  ·obtain ⟨ps,jn,er⟩:=qL j e1 e2 e3
   rw [er,cl_FL hn jn]; rfl
  ·obtain ⟨ps,jn,er⟩:=qL j e1.symm e3 e2
   rw [er,cl_LF hn jn]; rfl
 case inr.inr.inr.inr.inr.inl =>
  refine ⟨fun j=>?_,fun j=>?_⟩
  ·obtain ⟨ps,jn,er⟩:=qL j e4 e2 e5
   rw [er,cl_FO hn jn]; rfl
  ·obtain ⟨ps,jn,er⟩:=qL j e4.symm e5 e2
   rw [er,cl_OF hn jn]; rfl
 case inr.inr.inr.inr.inr.inr.inr.inr.inr.inr.inr.inr.inr.inr.inr =>
  refine ⟨fun j=>?_,fun j=>?_⟩
  ·obtain ⟨ps,jn,er⟩:=qL j e1.symm e3 e2
   rw [er,cl_LF hn jn]; rfl
  ·obtain ⟨ps,jn,er⟩:=qL j e1 e2 e3
   rw [er,cl_FL hn jn]; rfl
 all_goals exact ⟨fun j=>j3_q j (by rcases hn with rfl | rfl | rfl <;> decide +kernel),fun j=>j3_q j (by rcases hn with rfl | rfl | rfl <;> decide +kernel)⟩
instance (b m y:List Str):Decidable (okJ b m y):=by unfold okJ; infer_instance
def four (n:Nat):List (List Str):=[tA n,tF n,tL n,tO n]
theorem okJ4 {n:Nat} (hn:N17 n):∀ a ∈ four n,∀ c ∈ four n,okJ (tA n) a c:=by rcases hn with rfl | rfl | rfl <;> decide +kernel
theorem line4 {n:Nat} (hn:N17 n):∀ a ∈ tB n :: four n,∀ x ∈ a,lineB x = true:=by rcases hn with rfl | rfl | rfl <;> decide +kernel
theorem row_in {n:Nat} {row:R17} (h:row ∈ tab17 n):(∀ xs,row.b = some xs -> xs = tA n) /\ (∀ xs,row.m = some xs -> xs ∈ four n) /\ (∀ xs,row.y = some xs -> xs ∈ four n) /\ (∀ xs,row.r = some (some xs) -> xs ∈ tB n :: four n) /\
  (row.r.getD none ≠ none \/ row.r = none -> row.b ≠ none \/ row.m ≠ none \/ row.y ≠ none):=by
 simp only [tab17,List.mem_cons,List.not_mem_nil,or_false] at h
 rcases h with rfl | rfl | rfl | rfl | rfl | rfl | rfl | rfl | rfl | rfl | rfl | rfl | rfl | rfl | rfl | rfl <;> refine ⟨fun xs e=>?_,fun xs e=>?_,fun xs e=>?_,fun xs e=>?_,fun _=>?_⟩ <;> first | (cases e; simp [four]) | (cases e) | simp
def rowAt (zs:List (Str × R17)) (q:Str):Option R17:=(zs.find? fun z=>decide (z.1 = q)).map (·.2)
def colF (sel:R17 -> Option (List Str)) (zs:List (Str × R17)) (q:Str):Option (List Str):=(rowAt zs q).bind sel
def j17 (zs:List (Str × R17)):Js:=fun q=>match rowAt zs q with
 | some row=>row.r
 | none=>some none
def selR (row:R17):Option (List Str):=row.r.getD none
def selA (i:Nat):R17 -> Option (List Str):=match i with
 | 0=>R17.b
 | 1=>R17.m
 | 2=>R17.y
 | _=>selR
theorem rowAt_none {zs:List (Str × R17)} {q:Str} (h:q ∉ zs.map (·.1)):rowAt zs q = none:=by
 unfold rowAt
 rw [Option.map_eq_none_iff,List.find?_eq_none]
 intro z hz e
 exact h (List.mem_map.mpr ⟨z,hz,of_decide_eq_true e⟩)
theorem rowAt_mem {zs:List (Str × R17)} {q:Str} {row:R17} (h:rowAt zs q = some row):(q,row) ∈ zs:=by
 unfold rowAt at h
 obtain ⟨z,e,rfl⟩:=Option.map_eq_some_iff.mp h
 have e1:=List.find?_some e
 have e2:=List.mem_of_find?_eq_some e
 have e1:z.1 = q:=of_decide_eq_true e1
 rw [← e1]
 exact e2
theorem rowAt_snoc {zs:List (Str × R17)} {p q:Str} {row:R17} (n:p ∉ zs.map (·.1)):rowAt (zs ++ [(p,row)]) q = if q = p then some row else rowAt zs q:=by
 by_cases z:q = p
 ·subst z
  have:=rowAt_none n
  unfold rowAt at this ⊢
  rw [Option.map_eq_none_iff] at this
  rw [List.find?_append,this,if_pos rfl]
  simp
 ·rw [if_neg z]
  unfold rowAt
  rw [List.find?_append]
  have:([(p,row)].find? fun z=>decide (z.1 = q)) = none:=by
   rw [List.find?_eq_none]
   intro u hu
   rw [List.mem_singleton.mp hu]
   simpa using Ne.symm z
  rw [this,Option.or_none]
theorem rowAt_of {zs:List (Str × R17)} {q:Str} {row:R17} (nd:(zs.map (·.1)).Nodup) (h:(q,row) ∈ zs):rowAt zs q = some row:=by
 cases e:rowAt zs q with
 | none =>
  unfold rowAt at e
  rw [Option.map_eq_none_iff,List.find?_eq_none] at e
  exact absurd (decide_eq_true rfl) (e _ h)
 | some r2 =>
  have h2:=rowAt_mem e
  obtain ⟨i,hi,ei⟩:=List.mem_iff_getElem.mp h
  obtain ⟨k,hk,ek⟩:=List.mem_iff_getElem.mp h2
  have e3:(zs.map (·.1))[i]'(by simpa using hi) = (zs.map (·.1))[k]'(by simpa using hk):=by
   rw [List.getElem_map,List.getElem_map,ei,ek]
  have:=(List.getElem_inj nd).mp e3
  subst this
  rw [ei] at ek
  cases ek
  rfl
structure Z17 (zs:List (Str × R17)):Prop where
 nd:(zs.map (·.1)).Nodup
 row:∀ z ∈ zs,∃ n,N17 n /\ z.2 ∈ tab17 n
 len:zs.length <= 9
 path:∀ z ∈ zs,z.1.length <= 1000 /\ PyData.strOk z.1 = true
 even:∀ z ∈ zs,∀ u ∈ zs,z.1.length = u.1.length
section
variable {zs:List (Str × R17)}
theorem j17_get (p:Str):(j17 zs p).getD none = colF selR zs p:=by
 unfold j17 colF selR
 cases rowAt zs p with
 | none=>rfl
 | some row=>rfl
theorem Z17.det (h:Z17 zs) (p:Str) (r:Option (Option (List Str))) (j:J3 (colF R17.b zs p) (colF R17.m zs p) (colF R17.y zs p) r):r = j17 zs p:=by
 unfold colF at j
 unfold j17
 cases e:rowAt zs p with
 | none=>rw [e] at j; exact j3_q j (by decide)
 | some row =>
  rw [e] at j
  obtain ⟨n,hn,hr⟩:=h.row _ (rowAt_mem e)
  exact (det17 hn hr).1 j
theorem Z17.det2 (h:Z17 zs) (p:Str) (r:Option (Option (List Str))) (j:J3 (colF R17.b zs p) (colF R17.y zs p) (colF R17.m zs p) r):r = j17 zs p:=by
 unfold colF at j
 unfold j17
 cases e:rowAt zs p with
 | none=>rw [e] at j; exact j3_q j (by decide)
 | some row =>
  rw [e] at j
  obtain ⟨n,hn,hr⟩:=h.row _ (rowAt_mem e)
  exact (det17 hn hr).2 j
theorem Z17.at (h:Z17 zs) {sel:R17 -> Option (List Str)} {p:Str} {ls:List Str} (e:colF sel zs p = some ls):∃ n row,N17 n /\ row ∈ tab17 n /\ rowAt zs p = some row /\ sel row = some ls:=by
 unfold colF at e
 obtain ⟨row,e1,e2⟩:=Option.bind_eq_some_iff.mp e
 obtain ⟨n,hn,hr⟩:=h.row _ (rowAt_mem e1)
 exact ⟨n,row,hn,hr,e1,e2⟩
theorem Z17.okJ (h:Z17 zs) (p:Str) (xs ms ys:List Str) (eb:colF R17.b zs p = some xs) (em:colF R17.m zs p = some ms) (ey:colF R17.y zs p = some ys):AnJ.okJ xs ms ys:=by
 obtain ⟨n,row,hn,hr,e1,e2⟩:=h.at eb
 obtain ⟨_,row2,_,_,e3,e4⟩:=h.at em
 obtain ⟨_,row3,_,_,e5,e6⟩:=h.at ey
 rw [e1] at e3 e5
 cases e3
 cases e5
 obtain ⟨q1,q2,q3,_⟩:=row_in hr
 rw [q1 xs e2]
 exact okJ4 hn _ (q2 ms e4) _ (q3 ys e6)
theorem okO_of {o:Option (List Str)} (h:∀ ls,o = some ls -> ∀ x ∈ ls,lineB x = true):okO o:=fun ls e l hl=>An12.lineB_ok (h ls e l hl)
theorem Z17.ok (h:Z17 zs) (p:Str):okO (colF R17.b zs p) /\ okO (colF R17.m zs p) /\ okO (colF R17.y zs p) /\ okO (colF selR zs p):=by
 refine ⟨okO_of fun ls e=>?_,okO_of fun ls e=>?_,okO_of fun ls e=>?_,okO_of fun ls e=>?_⟩
 ·obtain ⟨n,row,hn,hr,e1,e2⟩:=h.at e
  rw [(row_in hr).1 ls e2]
  exact line4 hn _ (List.mem_cons_of_mem _ (List.mem_cons_self ..))
 ·obtain ⟨n,row,hn,hr,e1,e2⟩:=h.at e
  exact line4 hn _ (List.mem_cons_of_mem _ ((row_in hr).2.1 ls e2))
 ·obtain ⟨n,row,hn,hr,e1,e2⟩:=h.at e
  exact line4 hn _ (List.mem_cons_of_mem _ ((row_in hr).2.2.1 ls e2))
 ·obtain ⟨n,row,hn,hr,e1,e2⟩:=h.at e
  refine line4 hn _ ((row_in hr).2.2.2.1 ls ?_)
  unfold selR at e2
  cases q:row.r with
  | none=>rw [q] at e2; cases e2
  | some o=>rw [q] at e2; exact congrArg some e2
theorem no_bl {L:List Str} {p:Str} (h:∀ q ∈ L,q.length = p.length):blB L p = false:=by
 unfold blB
 rw [List.any_eq_false]
 intro q hq z
 have no:∀ {x y:Str},x.length = y.length -> overB x y = true -> False:=fun {x y} e o=>by
  obtain ⟨t,e2⟩:=over_cs.mp o
  have e3:=congrArg List.length e2
  rw [List.length_append,List.length_cons,← zU,← zU] at e3
  omega
 rcases Bool.or_eq_true_iff.mp z with z | z
 ·exact no (h q hq) z
 ·exact no (h q hq).symm z
theorem LF_even {ss:List Str} {j:Js} (h:∀ p ∈ ss,∀ q ∈ ss,p.length = q.length):LF ss j = ST ss j:=by
 unfold LF
 refine List.filter_eq_self.mpr fun p hp=>?_
 rw [no_bl fun q hq=>h q (ST_mem hq) p (ST_mem hp)]
 rfl
theorem LC_even {ss:List Str} {j:Js} (h:∀ p ∈ ss,∀ q ∈ ss,p.length = q.length):LC ss j = ss.filter fun p=>(j p).isNone:=by
 unfold LC
 refine List.filter_congr fun p hp=>?_
 rw [no_bl fun q hq=>h q (ST_mem hq) p hp,Bool.and_false,Bool.or_false]
structure Due (LB LM LY LR cl:List Str) (zs:List (Str × R17)):Prop where
 z:Z17 zs
 lb:∀ p,p ∈ LB ↔ (colF R17.b zs p).isSome = true
 lm:∀ p,p ∈ LM ↔ (colF R17.m zs p).isSome = true
 ly:∀ p,p ∈ LY ↔ (colF R17.y zs p).isSome = true
 lr:∀ p,p ∈ LR ↔ (colF selR zs p).isSome = true
 lc:∀ p,p ∈ cl ↔ ∃ row,rowAt zs p = some row /\ row.r = none
 sorted:cl.Pairwise leS
 nd:cl.Nodup
variable {LB LM LY LR cl ss:List Str}
theorem col_mem {sel:R17 -> Option (List Str)} {p:Str} (h:(colF sel zs p).isSome = true):∃ row,rowAt zs p = some row /\ (p,row) ∈ zs /\ (sel row).isSome = true:=by
 obtain ⟨ls,e⟩:=Option.isSome_iff_exists.mp h
 unfold colF at e
 obtain ⟨row,e1,e2⟩:=Option.bind_eq_some_iff.mp e
 exact ⟨row,e1,rowAt_mem e1,by rw [e2]; rfl⟩
theorem Due.mem (d:Due LB LM LY LR cl zs) (un:Uni LB LM LY ss) {p:Str} (hp:p ∈ ss):∃ row,(p,row) ∈ zs:=by
 rcases (un.mem p).mp hp with h | h | h
 ·obtain ⟨row,_,e,_⟩:=col_mem ((d.lb p).mp h); exact ⟨row,e⟩
 ·obtain ⟨row,_,e,_⟩:=col_mem ((d.lm p).mp h); exact ⟨row,e⟩
 ·obtain ⟨row,_,e,_⟩:=col_mem ((d.ly p).mp h); exact ⟨row,e⟩
theorem Due.even (d:Due LB LM LY LR cl zs) (un:Uni LB LM LY ss):∀ p ∈ ss,∀ q ∈ ss,p.length = q.length:=fun p hp q hq=>by
 obtain ⟨r1,h1⟩:=d.mem un hp
 obtain ⟨r2,h2⟩:=d.mem un hq
 exact d.z.even _ h1 _ h2
theorem Due.back (d:Due LB LM LY LR cl zs) (un:Uni LB LM LY ss) {p:Str} {row:R17} (e:rowAt zs p = some row) (h:row.r.getD none ≠ none \/ row.r = none):p ∈ ss:=by
 obtain ⟨n,hn,hr⟩:=d.z.row _ (rowAt_mem e)
 have:=(row_in hr).2.2.2.2 h
 refine (un.mem p).mpr ?_
 have is:∀ {sel:R17 -> Option (List Str)},sel row ≠ none -> (colF sel zs p).isSome = true:=fun {sel} h=>by
  unfold colF
  rw [e]
  exact Option.isSome_iff_ne_none.mpr h
 rcases this with h | h | h
 ·exact .inl ((d.lb p).mpr (is h))
 ·exact .inr (.inl ((d.lm p).mpr (is h)))
 ·exact .inr (.inr ((d.ly p).mpr (is h)))
theorem Due.files (d:Due LB LM LY LR cl zs) (un:Uni LB LM LY ss) (p:Str):p ∈ LF ss (j17 zs) ↔ p ∈ LR:=by
 rw [LF_even (d.even un),d.lr]
 unfold ST
 rw [List.mem_filter]
 constructor
 ·rintro ⟨_,h⟩
  rw [← j17_get]
  unfold stB at h
  cases q:j17 zs p with
  | none=>rw [q] at h; cases h
  | some o =>
   cases o with
   | none=>rw [q] at h; cases h
   | some ls=>rfl
 ·intro h
  obtain ⟨row,e1,e2,e3⟩:=col_mem h
  refine ⟨d.back un e1 (.inl fun z=>?_),?_⟩
  ·unfold selR at e3; rw [z] at e3; cases e3
  ·unfold stB j17
   rw [e1]
   unfold selR at e3
   cases q:row.r with
   | none=>rw [q] at e3; cases e3
   | some o =>
    cases o with
    | none=>rw [q] at e3; cases e3
    | some ls =>
     show (match row.r with
      | some (some _)=>true
      | _=>false) = true
     rw [q]
theorem Due.clashes (d:Due LB LM LY LR cl zs) (un:Uni LB LM LY ss):LC ss (j17 zs) = cl:=by
 refine same_sorted (LC_sorted un.sorted un.nd).1 d.sorted (LC_sorted un.sorted un.nd).2 d.nd fun p=>?_
 rw [LC_even (d.even un),List.mem_filter,d.lc]
 unfold j17
 constructor
 ·rintro ⟨_,h⟩
  cases e:rowAt zs p with
  | none=>rw [e] at h; cases h
  | some row=>rw [e] at h; exact ⟨row,rfl,Option.isNone_iff_eq_none.mp h⟩
 ·rintro ⟨row,e,h⟩
  refine ⟨d.back un e (.inr h),?_⟩
  rw [e]
  exact Option.isNone_iff_eq_none.mpr h
theorem DictIs.vals3 {K:PySem.W.Frag} {H:Hp} {ka kb:List (Key × V)} {L L':List Str} {g:Str -> PyData} (a:DictIs K H ka L g) (b:DictIs K H kb L' g) (m:∀ p ∈ L,p ∈ L') (s:∀ p ∈ L,SeqAt.shaped (g p) = true) (e:∀ p ∈ L,PyData.eqv (g p) (g p) = true):Vals2 K H kb ka:=fun kv hkv=>by
 obtain ⟨ek,hm,hd⟩:=a.pair hkv
 obtain ⟨y,h1,h2⟩:=b.val _ (m _ hm)
 exact ⟨y,_,_,by rw [ek]; exact h1,hd,h2,s _ hm,s _ hm,e _ hm⟩
theorem len_same {l m:List Str} (n1:l.Nodup) (n2:m.Nodup) (h:∀ p,p ∈ l ↔ p ∈ m):l.length = m.length:=((List.perm_ext_iff_of_nodup n1 n2).mpr h).length_eq
end
def spFilesN (K:PySem.W.Frag):Sp:=fun vs H Q _=>∃ (ab am ay:Addr) (kb km ky:List (Key × V)) (LB LM LY:List Str) (B M Y:Str -> Option (List Str)) (j:Js),vs = [.ref ab,.ref am,.ref ay] /\ H ab = some (.dK kb) /\ H am = some (.dK km) /\ H ay = some (.dK ky) /\ Three K H kb km ky LB LM LY B M Y /\
 (∀ p xs ms ys,B p = some xs -> M p = some ms -> Y p = some ys -> okJ xs ms ys) /\ (∀ p r,J3 (B p) (M p) (Y p) r -> r = j p) /\
 ∀ (t:Addr) (ss:List Str) H',Same H H' -> Uni LB LM LY ss -> ∀ (af ac:Addr) (kf:List (Key × V)) (zs:List V),H af = none -> H ac = none -> H' t = some (.tup [.ref af,.ref ac]) -> H' af = some (.dK kf) -> DictIs K H' kf (LF ss j) (gF j) -> H' ac = some (.lst zs) -> DtAll K H' ((LC ss j).map (rowD B M Y)) zs -> Q (.ref t) H'
def rD:Option (Option (List Str)) -> PyData
 | none=>.bool true
 | some o=>oD o
def caseD (row:R17):PyData:=.tuple [oD row.b,oD row.m,oD row.y,rD row.r]
end AnS
namespace An17
open PySem L2 An An10 An12
seal L2.PS L2.PSs L2.PE L2.PT L2.PW L2.PA L2.PG L2.PGs L2.PI L2.PFi L2.PC
section
variable {P:Program} {w:World} {K:PySem.W.Frag} {mg:Str -> Option Value} {base:Heap} {t1 t2:Tok}
namespace s_files
abbrev st:Stmt:=top 18
theorem sc:FnScope ["base","mine","yours","standing","clashing","path","outcome","blocked","files","clashes"] ["base","mine","yours"] (zE st):=⟨rfl,rfl,rfl,by decide +kernel,rfl,by decide +kernel,by decide +kernel⟩
theorem ok {f:Addr} {fd:FuncData} (F:Fun K "joined_files" "joined_files" st f fd) (T:Txt K mg t1 t2) (C_joined_at:Cal P w K mg base 8 "joined_at" ["base","mine","yours"] (AnS.spAt K)) (C_in_the_way:Cal P w K mg base 2 "in_the_way" ["files"] (AnS.spWay K)):FnOk P w K mg base CX0 9 f fd ["base","mine","yours"] (AnS.spFilesN K):=by
 refine F.ok sc (fun vs H Q E h=>?_) (fun cdv A outer s H vs Q E hr h=>?_)
 ·obtain ⟨ab,am,ay,kb,km,ky,LB,LM,LY,B,M,Y,j,rfl,_⟩:=h
  rfl
 ·obtain ⟨ab,am,ay,kb,km,ky,LB,LM,LY,B,M,Y,j,rfl,hb,hm,hy,th,oj,det,k⟩:=h
  refine ⟨_,(zC (zJ (i:=3) sc.nd rfl (Or.inl rfl) jD)
   (zC (zJ (i:=4) sc.nd rfl (Or.inl rfl) jD)
   (zC (yZ PassesOwn.never rfl (yN (zO (call_sortedS rfl) (by rfl) T.sorted PyProof.Rows.boot_sorted (zA (zV op_orS (zV op_orS (z5 call_setR (by rfl) T.set PyProof.Rows.boot_set (zA (pv 0) pa_nil)) (z5 call_setR (by rfl) T.set PyProof.Rows.boot_set (zA (pv 1) pa_nil))) (z5 call_setR (by rfl) T.set PyProof.Rows.boot_set (zA (pv 2) pa_nil))) pa_nil))) (zN (i:=5) sc.nd rfl (Or.inl rfl))
    (zC (zJ (i:=6) sc.nd rfl (Or.inl rfl) (zK C_joined_at (hr.mono (by decide)) (zA (xY hr.units1 (pv 0) (pv 5) ⟨rfl,rfl,rfl,rfl⟩) (zA (xY hr.units1 (pv 1) (pv 5) ⟨rfl,rfl,rfl,rfl⟩) (zA (xY hr.units1 (pv 2) (pv 5) ⟨rfl,rfl,rfl,rfl⟩) pa_nil)))))
    (zH (yS (zQ op_eq (zM (ix_tup:IxR _ (rIxT K)) (pv 6) zG (fun _ _=>rfl)) zS (zX _))
     (zH (qT hr.units1 (pv 4) (pv 5) pe_bl rfl))
     (zH (yS (zQ op_notN (zM (ix_tup:IxR _ (rIxT K)) (pv 6) zG (fun _ _=>rfl)) pe_non (zX _))
      (zH (qT hr.units1 (pv 3) (pv 5) (zM (ix_tup:IxR _ (rIxT K)) (pv 6) zG (fun _ _=>rfl)) rfl))
      z4))))))
   (zC (zJ (i:=7) sc.nd rfl (Or.inr rfl) (zK C_in_the_way (hr.mono (by decide)) (zA (pv 3) pa_nil)))
   (zC (z3 (pe_dupd (pv 4) (pv 7) ⟨rfl,rfl,rfl,rfl⟩))
   (zC (zJ (i:=8) sc.nd rfl (Or.inl rfl) (z5 (call_dictP (K:=K) rfl) (by rfl) T.dict PyProof.Rows.boot_dict (zA (qU (sc:=zE st) (N:=["base","mine","yours","standing","clashing","path","outcome","blocked","files","clashes"]) (N':=["path","lines","blocked"]) (src:=[none,none,some 7]) ⟨by decide +kernel,rfl,rfl,by decide +kernel,by decide +kernel,by decide +kernel,by decide +kernel⟩ rfl rfl rfl (pi_pairs (pe_frz (pv 3))) (fun _ _ _ _=>(pg_tupK (K:=K) (n:=2) rfl (yF (zN (i:=0) (show (["path","lines","blocked"]:List Str).Nodup by decide +kernel) rfl (Or.inl rfl)) (yF (zN (i:=1) (show (["path","lines","blocked"]:List Str).Nodup by decide +kernel) rfl (Or.inl rfl)) jG)))) (fun _ _ _ _=>(pf_one (zQ (op_ninZ hr.units) (pv 0) (pv 2) (by with_unfolding_all rfl)))) (fun _ _ _ _=>(yC (zA (pv 0) (zA (pv 1) pa_nil))))) pa_nil)))
   (zC (jJ (sc:=zE st) (N:=["base","mine","yours","standing","clashing","path","outcome","blocked","files","clashes"]) (N':=["path","base","mine","yours"]) (src:=[none,some 0,some 1,some 2]) ⟨by decide +kernel,rfl,rfl,by decide +kernel,by decide +kernel,by decide +kernel,by decide +kernel⟩ rfl rfl rfl (yN (zO (call_sortedR rfl) (by rfl) T.sorted PyProof.Rows.boot_sorted (zA (pv 4) pa_nil))) (fun _ _ _ _=>(zN (i:=0) (show (["path","base","mine","yours"]:List Str).Nodup by decide +kernel) rfl (Or.inl rfl))) (fun _ _ _ _=>x5) (fun _ _ _ _=>(yC (zA (pv 0) (zA (xY hr.units1 (pv 1) (pv 0) ⟨rfl,rfl,rfl,rfl⟩) (zA (xY hr.units1 (pv 2) (pv 0) ⟨rfl,rfl,rfl,rfl⟩) (zA (xY hr.units1 (pv 3) (pv 0) ⟨rfl,rfl,rfl,rfl⟩) pa_nil)))))) sc.nd rfl (Or.inl rfl) (k:=9))
   (zH (zW (yC (zA (pv 8) (zA (pv 9) pa_nil)))))))))))),?_⟩
  have l1:=th.fb.is.len
  have l2:=th.fm.is.len
  have l3:=th.fy.is.len
  have ll:=th.len
  have e1:=th.fb.is.keysS
  have e2:=th.fm.is.keysS
  have e3:=th.fy.is.keysS
  refine fun ds n1=>?_
  refine fun dc n2'=>?_
  have n2:H dc = none:=(same_upd n1).free n2'
  have dsc:ds ≠ dc:=zI zB n2'
  have s1:Same H (upd (upd H ds (.dK [])) dc (.dK [])):=(same_upd n1).trans (same_upd n2')
  refine ⟨_,rfl,ab,kb,rfl,.inl (s1 _ _ hb),th.fb.is.allS,by omega,fun p1 np1=>?_⟩
  rw [e1]
  have s2:=s1.trans (same_upd (o:=TxHO P w p1 LB) np1)
  refine ⟨_,rfl,am,km,rfl,.inl (s2 _ _ hm),th.fm.is.allS,by omega,fun p2 np2=>?_⟩
  rw [e2]
  have s3:=s2.trans (same_upd (o:=TxHO P w p2 LM) np2)
  refine ⟨p1,p2,LB,LM,rfl,rfl,by rw [zD (zI zB np2),zB],zB,zI zB np2,by omega,fun p3 ks3 np3 b3=>?_⟩
  have s4:=s3.trans (same_upd (o:=TxHO P w p3 ks3) np3)
  have:=b3.len
  refine ⟨_,rfl,ay,ky,rfl,.inl (s4 _ _ hy),th.fy.is.allS,by omega,fun p4 np4=>?_⟩
  rw [e3]
  have s5:=s4.trans (same_upd (o:=TxHO P w p4 LY) np4)
  refine ⟨p3,p4,ks3,LY,rfl,rfl,by rw [zD (zI zB np4),zB],zB,zI zB np4,by omega,fun p5 ks5 np5 b5=>?_⟩
  have s6:=s5.trans (same_upd (o:=TxHO P w p5 ks5) np5)
  have:=b5.len
  refine ⟨p5,ks5,rfl,zB,by omega,fun l ss nl pm so=>⟨l,rfl,⟨_,SqL.of zB⟩,?_⟩⟩
  have s7:=s6.trans (same_upd (o:=.lst (ss.map V.str)) nl)
  have un:=AnS.uni_of b3 b5 pm so th.fb.is.nd th.fm.is.nd th.fy.is.nd
  have sl:=AnS.Uni.len b3 b5 pm
  have t1:Same (upd (upd H ds (.dK [])) dc (.dK [])) (upd (upd (upd (upd (upd (upd (upd (upd H ds (.dK [])) dc (.dK [])) p1 (TxHO P w p1 LB)) p2 (TxHO P w p2 LM)) p3 (TxHO P w p3 ks3)) p4 (TxHO P w p4 LY)) p5 (TxHO P w p5 ks5)) l (.lst (ss.map V.str))) :=
   (((((same_upd np1).trans (same_upd np2)).trans (same_upd np3)).trans (same_upd np4)).trans (same_upd np5)).trans (same_upd nl)
  have hds0:=t1 ds (.dK []) (by rw [zD dsc,zB])
  have hdc0:=t1 dc (.dK []) zB
  have hl0:SqL K (upd (upd (upd (upd (upd (upd (upd (upd H ds (.dK [])) dc (.dK [])) p1 (TxHO P w p1 LB)) p2 (TxHO P w p2 LM)) p3 (TxHO P w p3 ks3)) p4 (TxHO P w p4 LY)) p5 (TxHO P w p5 ks5)) l (.lst (ss.map V.str))) l (ss.map V.str):=SqL.of zB
  clear s6 s5 s4 s3 s2
  have pathOf:∀ p ∈ ss,p.length <= 1000 /\ PyData.strOk p = true:=fun p hp=>th.path p ((un.mem p).mp hp)
  refine y9 (K:=K) (a:=l) (xs:=ss.map V.str) (fun i σ H2=>∃ o5 o6,σ = [some (.ref ab),some (.ref am),some (.ref ay),some (.ref ds),some (.ref dc),o5,o6,none,none,none] /\ Same H H2 /\ SqL K H2 l (ss.map V.str) /\ ∃ ks kc,H2 ds = some (.dK ks) /\ H2 dc = some (.dK kc) /\ AnS.DictIs K H2 ks ((ss.take i).filter (AnS.stB j)) (AnS.gF j) /\ AnS.DictIs K H2 kc ((ss.take i).filter fun p=>(j p).isNone) (fun _=>.bool true)) ?_ ?_ ?_ ?_
  ·exact ⟨none,none,rfl,s7,hl0,[],[],hds0,hdc0,AnS.DictIs.nil,AnS.DictIs.nil⟩
  ·rintro i σ H2 hi ⟨o5,o6,rfl,e,hl,_⟩
   exact hl
  ·rintro i y σ H2 hy' ⟨o5,o6,rfl,e,hl,ks,kc,hs,hc,d1,d2⟩
   rw [List.getElem?_map] at hy'
   cases q:ss[i]? with
   | none=>rw [q] at hy'; cases hy'
   | some p =>
    rw [q] at hy'
    have hy':V.str p = y:=Option.some.inj hy'
    subst hy'
    have th2:=th.mono (.of e)
    have il:=(List.getElem?_eq_some_iff.mp q).1
    refine ⟨_,rfl,ab,rfl,.inl ⟨kb,.inl (e _ _ hb)⟩,_,rfl,_,DGet.k (k:=.inr p) (e _ _ hb),_,rfl,am,rfl,.inl ⟨km,.inl (e _ _ hm)⟩,_,rfl,_,DGet.k (k:=.inr p) (e _ _ hm),_,rfl,ay,rfl,.inl ⟨ky,.inl (e _ _ hy)⟩,_,rfl,_,DGet.k (k:=.inr p) (e _ _ hy),?_⟩
    refine ⟨_,_,_,B p,M p,Y p,rfl,th2.fb.get p,th2.fm.get p,th2.fy.get p,(th.ok p).1,(th.ok p).2.1,(th.ok p).2.2,oj p,fun t r H3 s3 hj ho=>?_⟩
    have er:=det p r hj
    have e3:=e.trans s3
    have hl3:=s3.seq hl
    have d1:=d1.same s3
    have d2:=d2.same s3
    have hs:=s3 _ _ hs
    have hc:=s3 _ _ hc
    have kl1:=d1.len
    have kl2:=d2.len
    have fl1:=List.length_filter_le (AnS.stB j) (ss.take i)
    have fl2:=List.length_filter_le (fun p=>(j p).isNone) (ss.take i)
    rw [List.length_take] at fl1 fl2
    have r1:ks.length < sizeLine:=Nat.lt_of_lt_of_le (by omega:ks.length < 16777216) (le_line (Nat.le_refl _))
    have r2:kc.length < sizeLine:=Nat.lt_of_lt_of_le (by omega:kc.length < 16777216) (le_line (Nat.le_refl _))
    subst er
    cases q2:j p with
    | none =>
     rw [q2] at ho
     have ho:SqT K H3 t [.str "clash",.non]:=ho
     refine ⟨_,rfl,t,_,_,_,rfl,rfl,ho,rfl,rfl,_,rfl,iteY rfl ⟨_,rfl,_,rfl,dc,_,rfl,DPut.k (k:=.inr p) hc r2,?_⟩⟩
     have u:=AnS.DS.upd (o:=.dK (putK kc (.inr p) (V.bl true))) hc
     refine ⟨_,_,rfl,An.Same.updF e3 n2,u.sqL hl3,ks,_,by rw [zD dsc]; exact hs,zB,?_,?_⟩
     ·rw [← AnS.take_no q (by unfold AnS.stB; rw [q2])]
      exact d1.mono u
     ·rw [← AnS.take_yes un.nd q (by rw [q2]; rfl)]
      exact ((d2.put p (v:=.bl true) (d:=.bool true) rfl).cong (g':=fun _=>.bool true) fun x _=>by show (if x = p then PyData.bool true else .bool true) = _; rw [ite_self]).mono u
    | some o =>
     rw [q2] at ho
     obtain ⟨v,hp2,hv⟩:=(show ∃ v,SqT K H3 t [.str "stands",v] /\ Dt K H3 (AnS.oD o) v from ho)
     clear ho
     refine ⟨_,rfl,t,_,_,_,rfl,rfl,hp2,rfl,rfl,_,rfl,iteN (by decide +kernel) ⟨_,rfl,t,_,_,_,rfl,rfl,hp2,rfl,rfl,_,rfl,ite2 (fun c=>?_) (fun c=>?_)⟩⟩
     ·cases o with
      | none =>
       have hv:v = .non:=hv
       rw [hv] at c
       cases c
      | some ls =>
       refine ⟨_,rfl,t,_,_,_,rfl,rfl,hp2,rfl,_,rfl,_,rfl,ds,_,rfl,DPut.k (k:=.inr p) hs r1,?_⟩
       have u:=AnS.DS.upd (o:=.dK (putK ks (.inr p) v)) hs
       refine ⟨_,_,rfl,An.Same.updF e3 n1,u.sqL hl3,_,kc,zB,by rw [zD (Ne.symm dsc)]; exact hc,?_,?_⟩
       ·rw [← AnS.take_yes un.nd q (by unfold AnS.stB; rw [q2])]
        refine ((d1.put p hv).cong (g':=AnS.gF j) fun x _=>?_).mono u
        show (if x = p then AnS.oD (some ls) else AnS.gF j x) = _
        by_cases z:x = p
        ·rw [if_pos z,z]; unfold AnS.gF; rw [q2]; rfl
        ·rw [if_neg z]
       ·rw [← AnS.take_no q (by rw [q2]; rfl)]
        exact d2.mono u
     ·cases o with
      | some ls =>
       obtain ⟨a,xs,e',_⟩:=(show ∃ a xs,v = .ref a /\ _ from hv)
       rw [e'] at c
       exact absurd rfl c
      | none =>
       refine ⟨_,_,rfl,e3,hl3,ks,kc,hs,hc,?_,?_⟩
       ·rw [← AnS.take_no q (by unfold AnS.stB; rw [q2])]
        exact d1
       ·rw [← AnS.take_no q (by rw [q2]; rfl)]
        exact d2
  ·rintro σ H2 ⟨o5,o6,rfl,e,hl,ks,kc,hs,hc,d1,d2⟩
   rw [List.length_map,List.take_length] at d1 d2
   have d1:AnS.DictIs K H2 ks (AnS.ST ss j) (AnS.gF j):=d1
   have fl1:=List.length_filter_le (AnS.stB j) ss
   have fl2:=List.length_filter_le (fun p=>(j p).isNone) ss
   have stl:(AnS.ST ss j).length <= ss.length:=fl1
   refine ⟨_,rfl,ds,ks,AnS.ST ss j,AnS.gF j,rfl,hs,d1,fun p hp=>(pathOf p (AnS.ST_mem hp)).1,by omega,fun bl kl W H3 s3 nbl hbl dbl mbl=>?_⟩
   have e3:=e.trans s3
   have hs3:=s3 _ _ hs
   have hc3:=s3 _ _ hc
   have d1:=d1.same s3
   have d2:=d2.same s3
   have dcb:dc ≠ bl:=zI hc nbl
   have dsb:ds ≠ bl:=zI hs nbl
   have kl1:=d1.len
   have kl2:=d2.len
   have kl3:=dbl.len
   have wl:W.length <= ss.length:=AnS.len_sub dbl.nd un.nd fun p hp=>AnS.ST_mem ((mbl p).mp hp).1
   refine ⟨_,rfl,dc,rfl,.inl ⟨_,.inl hc3⟩,_,rfl,bl,kc,kl,rfl,dcb,hc3,.inl hbl,le_line (by omega),?_⟩
   obtain ⟨LX,dX,mX⟩:=AnS.putAll_is (more:=kl) d2 fun kv hkv=>⟨(dbl.pair hkv).1,(dbl.pair hkv).2.2⟩
   rw [dbl.keysS] at mX
   have xl:LX.length <= ss.length:=AnS.len_sub dX.nd un.nd fun p hp=>by
    rcases (mX p).mp hp with z | z
    ·exact (List.mem_filter.mp z).1
    ·exact AnS.ST_mem ((mbl p).mp z).1
   have u4:=AnS.DS.upd (o:=.dK (putAll kc kl)) hc3
   have e4:Same H (upd H3 dc (.dK (putAll kc kl))):=An.Same.updF e3 n2
   have hs4:upd H3 dc (.dK (putAll kc kl)) ds = some (.dK ks):=by rw [zD dsc]; exact hs3
   have hb4:upd H3 dc (.dK (putAll kc kl)) bl = some (.dK kl):=by rw [zD (Ne.symm dcb)]; exact hbl
   have hc4:upd H3 dc (.dK (putAll kc kl)) dc = some (.dK (putAll kc kl)):=zB
   have d1:=d1.mono u4
   have dX:=dX.mono u4
   have dbl:=dbl.mono u4
   clear u4 hs3 hc3 hbl e3 d2 s3
   generalize upd H3 dc (.dK (putAll kc kl)) = H4 at e4 hs4 hb4 hc4 d1 dX dbl ⊢
   refine ⟨_,rfl,ds,ks,rfl,hs4,fun ob=>⟨ds,ob,ks,rfl,zB,?_⟩⟩
   have u5:=AnS.DS.upd (o:=.frz ob (.dK ks)) hs4
   have e5:Same H (upd H4 ds (.frz ob (.dK ks))):=An.Same.updF e4 n1
   have hb5:upd H4 ds (.frz ob (.dK ks)) bl = some (.dK kl):=by rw [zD (Ne.symm dsb)]; exact hb4
   have hc5:upd H4 ds (.frz ob (.dK ks)) dc = some (.dK (putAll kc kl)):=by rw [zD (Ne.symm dsc)]; exact hc4
   have hs5:upd H4 ds (.frz ob (.dK ks)) ds = some (.frz ob (.dK ks)):=zB
   have d1:=d1.mono u5
   have dX:=dX.mono u5
   have dbl:=dbl.mono u5
   clear u5
   generalize upd H4 ds (.frz ob (.dK ks)) = H5 at e5 hb5 hc5 hs5 d1 dX dbl ⊢
   refine comp_pairs (fun i ys σ H6=>∃ o1 o2,σ = [o1,o2,some (.ref bl)] /\ Same H5 H6 /\ ys.length <= i /\ jC K H6 ys ((ks.take i).filter fun kv=>decide (keyS kv ∉ W))) ⟨none,none,rfl,Same.refl _,Nat.le_refl _,AnS.pairs_nil⟩ (le_line (by omega)) ?_ ?_ ?_
   ·rintro i ys σ H6 hi ⟨o1,o2,rfl,s6,hl6,_⟩
    exact ⟨s6 _ _ hs5,hl6⟩
   ·rintro i kx v TT ys σ H6 hx ⟨o1,o2,rfl,s6,hl6,hp6⟩ nT
    obtain ⟨hx',ek⟩:=d1.at hx
    have u:=same_upd (o:=.tup [kV kx,v]) nT
    have ft:(ks.take (i + 1)).filter (fun kv=>decide (keyS kv ∉ W)) = (ks.take i).filter (fun kv=>decide (keyS kv ∉ W)) ++ [(kx,v)].filter (fun kv=>decide (keyS kv ∉ W)):=by
     rw [List.take_add_one,hx,List.filter_append]
     rfl
    have isS:(valV kl kx).isSome = decide (keyS (kx,v) ∈ W):=by
     rw [← dbl.isSome]
     exact congrArg (fun z=>(valV kl z).isSome) ek
    refine ⟨TT,_,rfl,SqT.of zB,rfl,_,_,rfl,_,_,rfl,rfl,?_⟩
    refine ⟨_,rfl,_,rfl,bl,_,rfl,DGet.k (k:=kx) (u _ _ (s6 _ _ hb5)),_,rfl,ite2 (fun c=>?_) (fun c=>?_)⟩
    ·refine ⟨_,rfl,_,rfl,lineN 2,fun p2 np2=>?_⟩
     have u2:=same_upd (o:=.tup [kV kx,v]) np2
     rw [isS,Bool.not_eq_true',decide_eq_false_iff_not] at c
     refine ⟨_,_,rfl,(s6.trans u).trans u2,by rw [List.length_append]; exact Nat.succ_le_succ hl6,?_⟩
     rw [ft,List.filter_cons,if_pos (decide_eq_true c)]
     exact AnS.pairs_snoc (AnS.pairs_same hp6 (u.trans u2)) (SqT.of zB)
    ·rw [isS,Bool.not_eq_true',decide_eq_false_iff_not,Decidable.not_not] at c
     refine ⟨_,_,rfl,s6.trans u,by omega,?_⟩
     rw [ft,List.filter_cons,if_neg (fun z=>absurd c (of_decide_eq_true z)),List.filter_nil,List.append_nil]
     exact AnS.pairs_same hp6 u
   ·rintro ys σ H6 ⟨o1,o2,rfl,s6,hl6,hp6⟩ p6 np6
    rw [List.take_length] at hp6
    have u6:=same_upd (o:=.lst ys) np6
    refine ⟨p6,ys,_,rfl,zB,AnS.pairs_same hp6 u6,fun lf nlf=>?_⟩
    have dF:=d1.filter (fun p=>decide (p ∉ W))
    rw [AnS.LF_of mbl] at dF
    have ep:putAll [] (ks.filter fun kv=>decide (keyS kv ∉ W)) = ks.filter fun kv=>decide (keyS kv ∉ W):=AnS.putAll_self _ [] dF.nodup
    rw [ep]
    generalize ks.filter (fun kv=>decide (keyS kv ∉ W)) = kf at dF ⊢
    have t7:Same H5 (upd (upd H6 p6 (.lst ys)) lf (.dK kf)):=(s6.trans u6).trans (same_upd nlf)
    have hf7:upd (upd H6 p6 (.lst ys)) lf (.dK kf) lf = some (.dK kf):=zB
    generalize upd (upd H6 p6 (.lst ys)) lf (.dK kf) = H7 at t7 hf7 ⊢
    have e7:=e5.trans t7
    refine ⟨_,rfl,dc,_,rfl,.inl (t7 _ _ hc5),dX.allS,by rw [dX.len]; omega,fun l2 s2 nl2 pm2 so2=>⟨l2,rfl,⟨_,SqL.of zB⟩,?_⟩⟩
    rw [dX.keysS] at pm2
    have el:s2 = AnS.LC ss j:=AnS.same_sorted (sorted_pw so2) (AnS.LC_sorted un.sorted un.nd).1 (pm2.nodup_iff.mpr dX.nd) (AnS.LC_sorted un.sorted un.nd).2 fun p=>by rw [pm2.mem_iff,mX,AnS.LC_mem,mbl]
    have ll2:s2.length <= ss.length:=by rw [pm2.length_eq]; exact xl
    have u8:=same_upd (o:=.lst (s2.map V.str)) nl2
    have hl8:SqL K (upd H7 l2 (.lst (s2.map V.str))) l2 (s2.map V.str):=SqL.of zB
    have t8:=t7.trans u8
    have e8:=e7.trans u8
    have hf8:=u8 _ _ hf7
    clear u8
    generalize upd H7 l2 (.lst (s2.map V.str)) = H8 at hl8 t8 e8 hf8 ⊢
    refine yQ (K:=K) (a:=l2) (xs:=s2.map V.str) (fun i zs σ H9=>∃ o,σ = [o,some (.ref ab),some (.ref am),some (.ref ay)] /\ Same H8 H9 /\ zs.length <= i /\ DtAll K H9 ((s2.take i).map (AnS.rowD B M Y)) zs) ⟨none,rfl,Same.refl _,Nat.le_refl _,rfl⟩ (le_line (by rw [List.length_map]; omega)) ?_ ?_ ?_
    ·rintro i zs σ H9 hi ⟨o,rfl,s9,hl9,_⟩
     exact ⟨s9.seq hl8,hl9⟩
    ·rintro i x zs σ H9 hx ⟨o,rfl,s9,hl9,hz⟩
     rw [List.getElem?_map] at hx
     cases q:s2[i]? with
     | none=>rw [q] at hx; cases hx
     | some p =>
      rw [q] at hx
      have hx:V.str p = x:=Option.some.inj hx
      subst hx
      have e9:=e8.trans s9
      have th9:=th.mono (.of e9)
      refine ⟨_,rfl,_,rfl,ab,rfl,.inl ⟨kb,.inl (e9 _ _ hb)⟩,_,rfl,_,DGet.k (k:=.inr p) (e9 _ _ hb),_,rfl,am,rfl,.inl ⟨km,.inl (e9 _ _ hm)⟩,_,rfl,_,DGet.k (k:=.inr p) (e9 _ _ hm),_,rfl,ay,rfl,.inl ⟨ky,.inl (e9 _ _ hy)⟩,_,rfl,_,DGet.k (k:=.inr p) (e9 _ _ hy),lineN 4,fun p9 np9=>?_⟩
      have u9:=same_upd (o:=.tup [.str p,(valV kb (.inr p)).getD .non,(valV km (.inr p)).getD .non,(valV ky (.inr p)).getD .non]) np9
      refine ⟨_,rfl,s9.trans u9,by rw [List.length_append]; exact Nat.succ_le_succ hl9,?_⟩
      rw [List.take_add_one,q,List.map_append]
      refine DtAll.append (DtAll.same u9 _ _ hz) ⟨_,_,rfl,?_,rfl⟩
      exact ⟨p9,_,rfl,SqT.of zB,_,_,rfl,rfl,_,_,rfl,Dt.same u9 _ _ (th9.fb.get p),_,_,rfl,Dt.same u9 _ _ (th9.fm.get p),_,_,rfl,Dt.same u9 _ _ (th9.fy.get p),rfl⟩
    ·rintro zs σ H9 ⟨o,rfl,s9,hl9,hz⟩ p9 np9
     rw [List.length_map,List.take_length,el] at hz
     have u9:=same_upd (o:=.lst zs) np9
     refine ⟨_,rfl,_,rfl,lineN 2,fun t nt=>?_⟩
     have u10:=same_upd (o:=.tup [.ref lf,.ref p9]) nt
     have v:=(s9.trans u9).trans u10
     refine k t ss _ (e8.trans v) un lf p9 kf zs ((e5.trans (s6.trans u6)).free nlf) ((e8.trans s9).free np9) zB (v _ _ hf8) (dF.same (t8.trans v)) (u10 _ _ zB) (DtAll.same (u9.trans u10) _ _ hz)
end s_files
end
end An17
namespace L2
open PySem PySem.Spec PyProof.Rows PySem.W AxK
section
variable {X:Cx} {pins:List (Addr × Obj)} {σ:St} {H:Hp} {s:Shared} {d:Addr}
theorem Inv.thawL {ob:Obj} {xs:List V} (I:Inv X pins σ H s) (hd:H d = some (.frz ob (.lst xs))) (n0:∀ o u,X.H₀ d ≠ some (.frz o u)):Inv X pins σ (upd H d (.lst xs)) s:=by
 have ne:∀ {b:Addr},H b = none -> b ≠ d:=fun {b} e z=>by rw [z,hd] at e; cases e
 have nt:∀ {b:Addr} {z:HO},H b = some z -> (∀ o v,z ≠ .frz o v) -> b ≠ d:=fun {b z} e n q=>by rw [q,hd] at e; exact n _ _ (Option.some.inj e).symm
 refine ⟨I.ok,I.os,I.bare,⟨I.base.keep,I.base.slot,fun b o h1 h2 h3=>?_,I.base.there,fun b xs h1=>?_,fun b o u h1=>?_,fun b ps h1=>?_⟩,I.loc,I.cell,?_,fun x c h1=>?_,fun p hp=>?_,fun b u h1=>?_,I.len⟩
 ·have:=I.base.free b o h1 h2 h3
  rw [zD (ne this)]
  exact this
 ·have:=I.base.tups b xs h1
  rw [zD (nt this fun o v z=>(nomatch z))]
  exact this
 ·have:=I.base.frzs b o u h1
  rw [zD fun z=>n0 o u (by rw [← z]; exact h1)]
  exact this
 ·obtain ⟨more,this⟩:=I.base.tbls b ps h1
  exact ⟨more,by rw [zD (nt this fun o v z=>(nomatch z))]; exact this⟩
 ·rw [zD (ne I.free)]; exact I.free
 ·have:=I.freeC x c h1
  rw [zD (ne this)]; exact this
 ·obtain ⟨a1,a2,a3⟩:=I.pin p hp
  exact ⟨a1,by rw [zD (ne a2)]; exact a2,a3⟩
 ·by_cases z:b = d
  ·rw [z,zB] at h1
   cases h1
   rw [z]
   exact (I.hok d _ hd).2
  ·rw [zD z] at h1
   exact (I.hok b u h1).thaw hd
end
section
variable {X:Cx} {pins:List (Addr × Obj)} {σ:St} {H H3:Hp} {s:Shared} {A:Around} {E:Value -> Shared -> Prop}
theorem tailK {D kS:Addr} {e1:Nat} {st:SortSt} {l vs':List V} {out:List Value} {P:PySem.Fin -> Shared -> Prop} (I:Inv X pins σ (upd H3 kS (.lst l)) s) (hd:H3 D = some (.frz (seqObj "list" #[] e1) (.lst []))) (ne:D ≠ kS) (n0:∀ o u,X.H₀ D ≠ some (.frz o u))
  (hl:l.length <= sizeLine) (hout:(arrOf st).map (·.2) = List.toArray out) (hf:failedOf st = none) (rv:Vals vs' out) (hz:vs'.length <= sizeLine)
  (h:∀ s2,Inv X pins σ (upd (upd H3 kS (.lst [])) D (.lst vs')) s2 -> P (.done (.ret .none)) s2):wpAny (model X.prog X.w) A (ksk_tail D false e1 (.ref kS) st) P E s:=by
 obtain ⟨z,its,n,r,hll,e⟩:=I.lstM zB
 have I1:=I.lset (its':=[]) (ys:=[]) (f:=fun _=>#[]) (t':=s.toks) zB e rfl .nil (Nat.zero_le _)
 rw [qW] at I1
 have hd1:upd H3 kS (.lst []) D = some (.frz (seqObj "list" #[] e1) (.lst [])):=by rw [zD ne]; exact hd
 have ob:=(I1.hok D _ hd1).1
 have I2:=I1.thawL hd1 n0
 have I3:=I2.lset (its':=out) (ys:=vs') (f:=fun _=>List.toArray out) (t':=s.toks) zB (its:=[]) (n:=e1) ob rfl rv hz
 rw [qW] at I3
 unfold ksk_tail
 try dsimp only
 rw [hout]
 refine wpAny_bind (listUpdate_at e rfl ?_ (by rw [List.size_toArray]; omega) (Nat.zero_le _))
 refine wpAny_bind (wpAny_letGo ?_)
 refine wpAny_bind (seqEpoch_at ob rfl ?_)
 refine wpAny_bind (listUpdate_at ob rfl ?_ (Nat.zero_le _) (by
  have:=rv.length
  simp only [Bool.false_eq_true,if_false,List.size_toArray]
  omega))
 rw [hf]
 simp only [bne_self_eq_false,Bool.false_eq_true,if_false]
 exact wpAny_pure (h _ I3)
theorem endK {D kS:Addr} {e1:Nat} {ks:List Str} {vs:List V} {its keys:List Value} {P:PySem.Fin -> Shared -> Prop} (I:Inv X pins σ (upd H3 kS (.lst (ks.map V.str))) s) (hd:H3 D = some (.frz (seqObj "list" #[] e1) (.lst []))) (ne:D ≠ kS) (n0:∀ o u,X.H₀ D ≠ some (.frz o u))
  (rk:Vals (ks.map V.str) keys) (rv:Vals vs its) (h64:vs.length < 64) (hk:ks.length = vs.length)
  (h:∀ (s2:Shared) (p:List Nat),p.Perm (List.range vs.length) -> ((p.map fun i=>ks.getD i "").Pairwise An.leS) -> Inv X pins σ (upd (upd H3 kS (.lst [])) D (.lst (p.map fun i=>vs.getD i .non))) s2 -> P (.done (.ret .none)) s2) :
  wpAny (model X.prog X.w) A (ksk_end D false its.toArray e1 (.ref kS) keys.toArray) P E s:=by
 have step:∀ t:Sem PySem.Fin,wpAny (model X.prog X.w) A t P E s -> wpAny (model X.prog X.w) A (if false = true then (do let _ ← rule "list.sort.reverse"; t) else t) P E s:=by
  intro t ht
  rw [if_neg (by decide)]
  exact ht
 have l1:=rv.length
 have l2:=rk.length
 rw [List.length_map] at l2
 have lkv:keys.length = its.length:=by omega
 have hsz:its.toArray.size = its.length:=by simp
 have hline:64 <= sizeLine:=by rw [sizeLine_eq]; decide
 have fin:∀ (p:Array Nat) (s':Shared) (st:SortSt),Inv X pins σ (upd H3 kS (.lst (ks.map V.str))) s' -> p.toList.Perm (List.range vs.length) -> ((p.toList.map fun i=>ks.getD i "").Pairwise An.leS) -> (arrOf st).map (·.2) = List.toArray (p.toList.map fun i=>its.getD i Value.none) -> failedOf st = none ->
   wpAny (model X.prog X.w) A (ksk_tail D false e1 (.ref kS) st) P E s':=fun p s' st I' pp pw ho hf=>by
  have pm:∀ i ∈ p.toList,i < vs.length:=fun i hi=>List.mem_range.mp (pp.mem_iff.mp hi)
  have hl:p.toList.length = vs.length:=by rw [pp.length_eq,List.length_range]
  exact tailK I' hd ne n0 (by rw [List.length_map]; omega) ho hf (vals_pick rv p.toList pm) (by rw [List.length_map]; omega) fun s2 I2=>h s2 p.toList pp pw I2
 unfold ksk_end
 try dsimp only
 refine step _ ?_
 simp only [Bool.false_eq_true,if_false]
 by_cases h2:its.length < 2
 ·rw [if_pos (by rw [hsz]; exact h2),if_pos (by rw [hsz]; exact h2)]
  refine wpAny_bind (wpAny_pure ?_)
  rw [StateT.run_pure]
  refine wpAny_bind (wpAny_pure ?_)
  try dsimp only
  refine fin (List.toArray (List.range vs.length)) s _ I (by simp) ?_ ?_ rfl
  ·have:(List.toArray (List.range vs.length)).toList = List.range vs.length:=by simp
   rw [this]
   rw [List.pairwise_iff_getElem]
   intro i j hi hj hij
   rw [List.length_map,List.length_range] at hi hj
   omega
  ·have e:=kas_range (keys.toArray.zip its.toArray)
   rw [show (keys.toArray.zip its.toArray).size = vs.length by simp; omega] at e
   exact kat_snds (ks:=keys) (vs:=its) (st:=SortSt.mk' general' (keys.toArray.zip its.toArray) #[] 7 none) lkv e.symm
 ·have h2':2 <= its.length:=by omega
  rw [if_neg (by rw [hsz]; exact h2),if_neg (by rw [hsz]; exact h2)]
  have at_:∀ i,i < its.length -> ∃ t,keys.getD i Value.none = .str (ks.getD i "") t:=fun i hi=>by
   obtain ⟨u,q,z⟩:=rk.get (i:=i) (x:=.str (ks.getD i "")) (by
    rw [List.getElem?_map,List.getElem?_eq_getElem (by omega),List.getD_eq_getElem?_getD,List.getElem?_eq_getElem (by omega)]
    rfl)
   obtain ⟨t,rfl⟩:=z
   exact ⟨t,by rw [List.getD_eq_getElem?_getD,q]; rfl⟩
  refine wpAny_bind (kas_kind (by omega) (T:=.type "str") (fun v hv=>?_) (by decide) (by decide) ?_)
  ·obtain ⟨i,q⟩:=List.mem_iff_getElem?.mp hv
   have hi:i < its.length:=by have:=(List.getElem?_eq_some_iff.mp q).1; omega
   obtain ⟨t,e⟩:=at_ i hi
   rw [List.getD_eq_getElem?_getD,q] at e
   have e:v = _:=e
   rw [e]
   exact .now
  have asked:(kas_sort its.length).kasWp (kas_ask X.prog X.w A oneType' keys) (fun p s'=>p = run (fun i j=>AnJ.strO.lt (ks.getD i "") (ks.getD j "")) (kas_sort its.length) /\ s' = s) s :=
   (sort_asks (by omega)).wp (lt:=fun i j=>AnJ.strO.lt (ks.getD i "") (ks.getD j "")) (fun i j hi hj C c=>by
    obtain ⟨t,e⟩:=at_ i hi
    obtain ⟨t',e'⟩:=at_ j hj
    unfold kas_ask
    rw [e,e']
    refine kas_lt_str ?_
    rw [← AnJ.strO_lt]
    exact c) ⟨rfl,rfl⟩
  obtain ⟨p',ep,pp,up⟩:=sort_ok (O:=AnJ.strO) (key:=fun i=>ks.getD i "") (n:=its.length) (by omega)
  refine wpAny_bind (wpAny_mono (kat_run (Q:=fun st' s'=>arrOf st' = (run (fun i j=>AnJ.strO.lt (ks.getD i "") (ks.getD j "")) (kas_sort its.length)).map (kas_item (keys.toArray.zip its.toArray)) /\ failedOf st' = none /\ s' = s)
   lkv h2' (by omega) (fun p' st' s' a1 a2 a3 a4=>by obtain ⟨rfl,rfl⟩:=a4; exact ⟨a2,a3,rfl⟩) asked) ?_ fun _ _ e=>e)
  rintro ⟨⟨⟩,st'⟩ s' ⟨har,hf,rfl⟩
  try dsimp only
  rw [ep] at har
  have pl':p'.toList.Perm (List.range its.length):=by simpa using Array.perm_iff_toList_perm.mp pp
  have hl:p'.toList.length = its.length:=by rw [pl'.length_eq,List.length_range]
  refine fin p' _ _ I (by rw [l1]; exact pl') ?_ (kat_snds lkv har) hf
  rw [List.pairwise_iff_getElem]
  intro i j hi hj hij
  rw [List.getElem_map,List.getElem_map]
  have:=up i j (Nat.le_of_lt hij) (by rw [List.length_map,hl] at hj; exact hj)
  unfold kn at this
  rw [List.length_map,Array.length_toList] at hi hj
  rw [Array.getD_eq_getD_getElem?,Array.getD_eq_getD_getElem?,getElem?_pos p' i hi,getElem?_pos p' j hj] at this
  have this:AnJ.strO.le (ks.getD p'[i] "") (ks.getD p'[j] ""):=by simpa using this
  have this:AnJ.strO.lt (ks.getD p'[j] "") (ks.getD p'[i] "") = false:=this
  rw [AnJ.strO_lt] at this
  exact of_decide_eq_false this
theorem keyed {D:Addr} {h1:Heap} {n:Nat} {ks:List Str} {vs:List V} {its:List Value} {f:Value} {P:PySem.Fin -> Shared -> Prop} (I:Inv X pins σ H s) (kp:∀ b o,s.heap.get? b = some o -> h1.get? b = some o) (hD:s.heap.objs.size <= D)
  (ho:h1.get? D = some (seqObj "list" its.toArray n)) (rv:Vals vs its) (h64:vs.length < 64) (hk:ks.length = vs.length)
  (hc:∀ (i:Nat) v u k,vs[i]? = some v -> RelV v u -> ks[i]? = some k -> ∀ H2 s2,Same H H2 -> Inv X pins σ H2 s2 -> wpAny (model X.prog X.w) A (call f [u]) (EP X pins σ (fun r H3=>r = .str k /\ H3 = H2)) (fun _ _=>False) s2)
  (h:∀ (H2:Hp) (s2:Shared) (p:List Nat),Same H H2 -> p.Perm (List.range vs.length) -> ((p.map fun i=>ks.getD i "").Pairwise An.leS) -> H2 D = some (.lst (p.map fun i=>vs.getD i .non)) -> Inv X pins σ H2 s2 -> P (.done (.ret .none)) s2) :
  wpAny (model X.prog X.w) A (ksk_tree D f false) P E { s with heap:=h1 }:=by
 have l1:=rv.length
 have hline:64 <= sizeLine:=by rw [sizeLine_eq]; decide
 obtain ⟨e1,ho1⟩:∃ e1,(h1.update D (Obj.mapSeq fun _=>(#[]:Array Value))).get? D = some (seqObj "list" #[] e1):=⟨_,get?_update_seq ho fun _=>#[]⟩
 have ho3:((h1.update D (Obj.mapSeq fun _=>(#[]:Array Value))).push (seqObj "tuple" its.toArray 0)).get? D = some (seqObj "list" #[] e1):=Heap.get?_push_of_some _ ho1
 have kp3:∀ b o,s.heap.get? b = some o -> ((h1.update D (Obj.mapSeq fun _=>(#[]:Array Value))).push (seqObj "tuple" its.toArray 0)).get? b = some o:=fun b o q =>
  Heap.get?_push_of_some _ (by rw [Heap.get?_update_ne _ _ _ _ (Nat.ne_of_lt (Nat.lt_of_lt_of_le (Heap.lt_size q) hD))]; exact kp b o q)
 unfold ksk_tree
 refine wpAny_bind (listItems_at ho rfl ?_)
 refine wpAny_bind (listUpdate_at ho rfl ?_ (by rw [List.size_toArray]; omega) (Nat.zero_le _))
 refine wpAny_bind (seqEpoch_at ho1 rfl ?_)
 refine wpAny_bind (wpAny_newTuple ?_ (by show its.length <= _; omega))
 refine wpAny_bind (wpAny_newList ?_ (Nat.zero_le _))
 refine wpAny_holding ?_
 show wpAny (model X.prog X.w) A _ P E { s with heap:=((h1.update D (Obj.mapSeq fun _=>(#[]:Array Value))).push (seqObj "tuple" its.toArray 0)).push (seqObj "list" #[] 0) }
 have hfr:H D = none:=I.hok.fresh hD
 have n0:∀ o u,X.H₀ D ≠ some (.frz o u):=fun o u z=>by
  have:=I.base.frzs D o u z
  rw [hfr] at this
  cases this
 have I3:Inv X pins σ (upd H D (.frz (seqObj "list" #[] e1) (.lst []))) { s with heap:=(h1.update D (Obj.mapSeq fun _=>(#[]:Array Value))).push (seqObj "tuple" its.toArray 0),toks:=s.toks } :=
  I.laid kp3 hD ⟨ho3,Nat.zero_le _,[],e1,.nil,ho3⟩
 have hkS:D < ((h1.update D (Obj.mapSeq fun _=>(#[]:Array Value))).push (seqObj "tuple" its.toArray 0)).objs.size:=Heap.lt_size ho3
 generalize (h1.update D (Obj.mapSeq fun _=>(#[]:Array Value))).push (seqObj "tuple" its.toArray 0) = h3 at I3 hkS ⊢
 have I4:=I3.lnew (its:=[]) (ys:=[]) (t':=s.toks) .nil (Nat.zero_le _)
 have nkS:upd H D (.frz (seqObj "list" #[] e1) (.lst [])) h3.objs.size = none:=I3.fresh
 have ne:D ≠ h3.objs.size:=Nat.ne_of_lt hkS
 generalize h3.objs.size = kS at I4 nkS ne ⊢
 have hd3:upd H D (.frz (seqObj "list" #[] e1) (.lst [])) D = some (.frz (seqObj "list" #[] e1) (.lst [])):=zB
 have sm:Same H (upd H D (.frz (seqObj "list" #[] e1) (.lst []))):=An.same_upd hfr
 generalize upd H D (.frz (seqObj "list" #[] e1) (.lst [])) = H3 at I4 nkS hd3 sm
 have smk:∀ o,Same H (upd H3 kS o):=fun o=>sm.trans (An.same_upd nkS)
 unfold ksk_rest
 refine wpAny_bind (wpAny_rule ?_)
 first
  | rw [List.forIn_toArray]
  | (rw [← Array.forIn_toList]; simp only [List.toList_toArray])
  | rw [← Array.forIn_toList]
 refine wpAny_bind (ksk_fold (fun i s'=>Inv X pins σ (upd H3 kS (.lst ((ks.take i).map V.str))) s') its 0 _ I4 (fun j x s' hx hI=>?_) fun s' hd'=>?_)
 ·rw [Nat.zero_add] at hI ⊢
  have hj:j < its.length:=(List.getElem?_eq_some_iff.mp hx).1
  have hv:vs[j]? = some (vs[j]'(by omega)):=List.getElem?_eq_getElem _
  obtain ⟨x',hx',rvx⟩:=rv.get hv
  rw [hx] at hx'
  cases hx'
  generalize vs[j]'(by omega) = v at hv rvx
  have hkj:ks[j]? = some (ks[j]'(by omega)):=List.getElem?_eq_getElem _
  refine wpAny_bind (wpAny_attempt (wpAny_mono (hc j v x _ hv rvx hkj _ s' (smk _) hI) (fun u s'' ⟨r,H',I',rr,er,eH⟩=>?_) fun _ _ hF=>hF.elim))
  subst er eH
  obtain ⟨t,rfl⟩:=rr
  obtain ⟨z,its',n',r',hl',e'⟩:=I'.lstM zB
  rw [List.length_map,List.length_take] at hl'
  try dsimp only
  refine wpAny_bind (listUpdate_at e' rfl ?_ (by rw [List.size_toArray]; omega) (Nat.le_trans (Nat.le_of_eq (Array.size_push ..)) (by rw [List.size_toArray]; omega)))
  refine wpAny_pure ⟨rfl,?_⟩
  have I6:=I'.lset (its':=its' ++ [.str (ks[j]'(by omega)) t]) (ys:=(ks.take (j + 1)).map V.str) (f:=(·.push (.str (ks[j]'(by omega)) t))) (t':=s''.toks) zB e' (by simp) (by
   rw [List.take_add_one,hkj,List.map_append]
   exact r'.append (.cons ⟨_,rfl⟩ .nil)) (by rw [List.length_map,List.length_take]; omega)
  rw [qW] at I6
  exact I6
 ·rw [Nat.zero_add,List.take_of_length_le (by omega)] at hd'
  obtain ⟨z,keys,n',r',hl',e'⟩:=hd'.lstM zB
  try dsimp only
  refine wpAny_bind (listItems_at e' rfl ?_)
  exact endK hd' hd3 ne n0 r' rv h64 hk fun s2 p pp pw I2=>h _ s2 p (An.Same.updF (smk _) hfr) pp pw zB I2
end
def rSortK (K:PySem.W.Frag) (sp:Sp) (x:V) (H1:Hp) (Q:VK):Prop:=∃ (a:Addr) (vs:List V) (ks:List Str),x = .ref a /\ SqL K H1 a vs /\ vs.length < 64 /\ ks.length = vs.length /\
 (∀ (i:Nat) (v:V) (k:Str),vs[i]? = some v -> ks[i]? = some k -> ∀ H2,Same H1 H2 -> sp [v] H2 (fun r H3=>r = .str k /\ H3 = H2) E0) /\
 ∀ (l:Addr) (H2:Hp) (p:List Nat),Same H1 H2 -> H1 l = none -> p.Perm (List.range vs.length) -> ((p.map fun i=>ks.getD i "").Pairwise An.leS) -> H2 l = some (.lst (p.map fun i=>vs.getD i .non)) -> Q (.ref l) H2
def tSortK (K:PySem.W.Frag) (sp:Sp) (te:TE):TE:=fun σ H Q=>te σ H fun x H1=>rSortK K sp x H1 Q
theorem run_key {X:Cx} {pins:List (Addr × Obj)} {σ:St} {H:Hp} {s:Shared} {k:Nat} {f:Addr} {fd:FuncData} {ps:List Str} {sp:Sp} {Q:VK} {us:List Value} {vs:List V} {E:Value -> Shared -> Prop} (F:FnOk X.prog X.w X.K X.mg X.base CX0 k f fd ps sp) (hr:Room (k + 2) X.A) (hb:Binds X.K fd ps [])
  (I:Inv X pins σ H s) (r:Vals vs us) (h:sp vs H Q E0):wpAny (model X.prog X.w) X.A.in1.in1 (call (.ref f) us) (EP X pins σ Q) E s:=by
 have hl:us.length = ps.length:=by rw [← r.length]; exact F.len _ _ _ _ h
 have hb':=hb s us I.kIn (by rw [List.append_nil]; exact hl)
 rw [List.append_nil] at hb'
 refine wpAny_call (codeAny_mono (F.run X.A.in1.in1 X.stack s H ⟨us,[]⟩ us vs Q E0 (Room.in1 (Room.in1 hr)) I.env0.in1.in1 hb' r h) fun r s' hq=>?_)
 cases r with
 | error e=>exact hq.elim
 | ok fl =>
  cases fl with
  | ret u=>exact I.after hq
  | next=>exact False.elim hq
  | brk=>exact False.elim hq
  | cont=>exact False.elim hq
theorem pe_sortK {X:Cx} {k:Nat} {x:Str} {ps:List Str} {sp:Sp} {e:Expr} {te:TE} {p p2 kp pos:Pos} (C:Cal X.prog X.w X.K X.mg X.base k x ps sp) (hr:Room (k + 2) X.A) (hm:X.mg "sorted" = none) (ha:PE X e te) (hg:Gl X "sorted":=by rfl) (hgx:Gl X x:=by rfl)
  (hdx:(x == ("__debug__":Str)) = false:=by decide) (he:starEach [e] X.env = (false,eval e X.env) :: starEach [] X.env:=by rfl):PE X (.Call (.Name "sorted" p) [e] [⟨some "key",.Name x p2,kp⟩] pos) (tSortK X.K sp te):=by
 intro pins s σ H Q I h
 obtain ⟨f,fd,F,hmx,hk,hb⟩:=C.ex
 refine wpAny_Call_Name_kw (qY I hg hm boot_sorted ?_ (by decide) (by decide))
 refine callWith_kw (thn (zA ha pa_nil he pos pins s σ H (fun vs H1=>match vs with
  | [x]=>rSortK X.K sp x H1 Q
  | _=>False) I h) fun us s1 ⟨vs,H1,I1,r1,q1⟩=>?_) (by rw [he]; rfl) (by rw [he]; rfl)
 refine kws_cons (ld_glob I1 hgx hmx (kws_nil ?_) hdx)
 match vs,r1,q1 with
 | [xv],r1,q1 =>
  obtain ⟨a,vs,ks,rfl,ha,h64,hkl,hc,q⟩:=q1
  obtain ⟨u,rfl,ru⟩:=vals1 r1
  cases ru
  obtain ⟨its,rv,pl,hz⟩:=I1.list ha
  have hline:64 <= sizeLine:=by rw [sizeLine_eq]; decide
  have l1:=rv.length
  show wpAny (model X.prog X.w) X.A (call (.builtin "sorted") [.ref a] [(Str.ofString "key",.ref f)]) _ _ _
  refine call_function_entry_kw kind_sorted plain_sorted entry_sorted (ksk_s1 _ _) ?_
  unfold Builtin.«sorted»
  refine wpAny_bind (m:=checkCount "sorted" 1 1 _) (wpAny_pure (wpAny_bind (collect_list pl.isList (wpAny_bind (wpAny_newList ?_ (by omega))) (by omega))))
  have hsz:((s1.heap.push (seqObj "list" #[] 0)).update s1.heap.objs.size (Obj.mapSeq (· ++ its.toArray))).objs.size = s1.heap.objs.size + 1:=by
   rw [Heap.size_update,size_push']
  have hoL:(((s1.heap.push (seqObj "list" #[] 0)).update s1.heap.objs.size (Obj.mapSeq (· ++ its.toArray))).push (seqObj "list" its.toArray 0)).get? (s1.heap.objs.size + 1) = some (seqObj "list" its.toArray 0):=by
   rw [← hsz]; exact Heap.get?_push_size _ rfl
  have kp:∀ b o,s1.heap.get? b = some o -> (((s1.heap.push (seqObj "list" #[] 0)).update s1.heap.objs.size (Obj.mapSeq (· ++ its.toArray))).push (seqObj "list" its.toArray 0)).get? b = some o:=fun b o z=>by
   have hlt:b < s1.heap.objs.size:=Heap.lt_size z
   rw [Heap.get?_push_ne _ _ _ (by rw [hsz]; exact Nat.ne_of_lt (Nat.lt_succ_of_lt hlt)),Heap.get?_update_ne _ _ _ _ (Nat.ne_of_lt hlt),Heap.get?_push_ne _ _ _ (Nat.ne_of_lt hlt)]
   exact z
  show wpAny _ _ _ _ _ { s1 with heap:=((s1.heap.push (seqObj "list" #[] 0)).update s1.heap.objs.size (Obj.mapSeq (· ++ its.toArray))).push (seqObj "list" its.toArray 0) }
  rw [hsz]
  generalize ((s1.heap.push (seqObj "list" #[] 0)).update s1.heap.objs.size (Obj.mapSeq (· ++ its.toArray))).push (seqObj "list" its.toArray 0) = h1 at hoL kp
  refine wpAny_bind (wpAny_holding (wpAny_call_entry_kw slot_list_sort ⟨_,hoL,rfl⟩ entry_list_sort ?body (ksk_l1 _ _)))
  case body =>
   have ht':=ksk_t1 f (s1.heap.objs.size + 1)
   show wpAny (model X.prog X.w) X.A.in1.in1 (Builtin.«list.sort» ⟨[.ref (s1.heap.objs.size + 1)],[(Str.ofString "key",.ref f)]⟩) _ _ _
   rw [ht']
   exact keyed I1 kp (Nat.le_succ _) hoL rv h64 hkl (fun i v u k hv ru hki H2 s2 sm I2=>run_key F hr hb I2 (.cons ru .nil) (hc i v k hv hki H2 sm)) fun H2 s2 p sm pp pw hD I2=>⟨_,rfl,wpAny_pure ⟨_,rfl,.ref _,H2,I2,rfl,q _ _ p sm (I1.hok.fresh (Nat.le_succ _)) pp pw hD⟩⟩
 | [],_,q1=>exact q1.elim
 | _ :: _ :: _,_,q1=>exact q1.elim
section
variable {X:Cx}
def Pln (x:V):Prop:=x = .non \/ (∃ a,x = .bl a) \/ ∃ a,x = .ref a
theorem op_isX:OpR X (compareOp .Is) (fun x y H Q=>∃ b,y = .bl b /\ Pln x /\ Q (.bl (decide (x = .bl b))) H):=by
 intro pins s σ H x y v u Q I rx ry h
 obtain ⟨b,rfl,hp,q⟩:=h
 cases ry
 rcases hp with rfl | ⟨a,rfl⟩ | ⟨a,rfl⟩
 ·cases rx
  exact wpAny_pure ⟨.bl false,H,I,rfl,q⟩
 ·cases rx
  refine is_bool ⟨.bl (a == b),H,I,rfl,?_⟩
  have e:(a == b) = decide (V.bl a = V.bl b):=by cases a <;> cases b <;> rfl
  rw [e]
  exact q
 ·cases rx
  exact wpAny_pure ⟨.bl false,H,I,rfl,q⟩
theorem op_isnotX:OpR X (compareOp .IsNot) (fun x y H Q=>∃ b,y = .bl b /\ Pln x /\ Q (.bl (!decide (x = .bl b))) H):=by
 intro pins s σ H x y v u Q I rx ry h
 obtain ⟨b,rfl,hp,q⟩:=h
 cases ry
 rcases hp with rfl | ⟨a,rfl⟩ | ⟨a,rfl⟩
 ·cases rx
  exact wpAny_pure ⟨.bl true,H,I,rfl,q⟩
 ·cases rx
  refine isnot_bool ⟨.bl (a != b),H,I,rfl,?_⟩
  have e:(a != b) = !decide (V.bl a = V.bl b):=by cases a <;> cases b <;> rfl
  rw [e]
  exact q
 ·cases rx
  exact wpAny_pure ⟨.bl true,H,I,rfl,q⟩
end
end L2
namespace L2
open PySem PySem.Spec PyProof.Rows
abbrev DEnv:=Nat -> PyData
abbrev Need:=List (Nat × Bool)
def tupD:PyData -> List PyData
 | .tuple ds=>ds
 | _=>[]
def EnvD (K:PySem.W.Frag) (need:Need) (env:DEnv) (σ:St) (H:Hp):Prop:=∀ p ∈ need,(∃ v,σ[p.1]? = some (some v) /\ Dw K H (env p.1) v) /\ (p.2 = true -> env p.1 = .tuple (tupD (env p.1)) /\ (tupD (env p.1)).length <= 60)
def tDat (K:PySem.W.Frag) (need:Need) (f:DEnv -> PyData):TE:=fun σ H Q=>∃ env,EnvD K need env σ H /\ ∀ v H',Same H H' -> Dw K H' (f env) v -> Q v H'
def tDats (K:PySem.W.Frag) (need:Need) (f:DEnv -> List PyData):TA:=fun σ H Q=>∃ env,EnvD K need env σ H /\ ∀ vs H',Same H H' -> DwAll K H' (f env) vs -> Q vs H'
theorem EnvD.same {K:PySem.W.Frag} {need:Need} {env:DEnv} {σ:St} {H H':Hp} (h:EnvD K need env σ H) (e:Same H H'):EnvD K need env σ H':=fun i hi=>by
 obtain ⟨⟨v,h1,h2⟩,h3⟩:=h i hi
 exact ⟨⟨v,h1,Dw.same e _ _ h2⟩,h3⟩
theorem EnvD.left {K:PySem.W.Frag} {n m:Need} {env:DEnv} {σ:St} {H:Hp} (h:EnvD K (n ++ m) env σ H):EnvD K n env σ H:=fun i hi=>h i (List.mem_append_left _ hi)
theorem EnvD.right {K:PySem.W.Frag} {n m:Need} {env:DEnv} {σ:St} {H:Hp} (h:EnvD K (n ++ m) env σ H):EnvD K m env σ H:=fun i hi=>h i (List.mem_append_right _ hi)
theorem EnvD.sub {K:PySem.W.Frag} {n m:Need} {env:DEnv} {σ:St} {H:Hp} (h:EnvD K m env σ H) (hs:(n.all fun i=>m.contains i) = true:=by decide):EnvD K n env σ H:=fun i hi=>h i (by
 have:=List.all_eq_true.mp hs i hi
 exact List.elem_iff.mp this)
theorem EnvD.cons {K:PySem.W.Frag} {i:Nat} {m:Need} {env:DEnv} {σ:St} {H:Hp} {v:V} (h1:σ[i]? = some (some v)) (h2:Dw K H (env i) v) (h:EnvD K m env σ H):EnvD K ((i,false) :: m) env σ H:=fun j hj=>by
 rcases List.mem_cons.mp hj with rfl | hj
 ·exact ⟨⟨v,h1,h2⟩,fun z=>by cases z⟩
 ·exact h j hj
theorem EnvD.nil {K:PySem.W.Frag} {env:DEnv} {σ:St} {H:Hp}:EnvD K [] env σ H:=fun _ h=>nomatch h
theorem DwAll.append {K:PySem.W.Frag} {H:Hp}:∀ {ds es:List PyData} {xs ys:List V},DwAll K H ds xs -> DwAll K H es ys -> DwAll K H (ds ++ es) (xs ++ ys)
 | [],_,_,_,h1,h2=>by rw [show _ = [] from h1]; exact h2
 | d :: ds,_,_,_,⟨x,r,h1,h3,h4⟩,h2=>by rw [h1]; exact ⟨x,r ++ _,rfl,h3,DwAll.append h4 h2⟩
section
variable {X:Cx} {pos:Pos} {e a b:Expr} {es:List Expr} {n m:Need} {f f':DEnv -> PyData} {g g':DEnv -> List PyData}
theorem PE.weak {t t':TE} (h:PE X e t) (k:∀ σ H Q,t' σ H Q -> t σ H Q):PE X e t':=fun pins s σ H Q I q=>h pins s σ H Q I (k σ H Q q)
theorem PA.weak {t t':TA} (h:PA X es t) (k:∀ σ H Q,t' σ H Q -> t σ H Q):PA X es t':=fun ps pins s σ H Q I q=>h ps pins s σ H Q I (k σ H Q q)
theorem yH:PA X [] (tDats X.K [] fun _=>[]):=pa_nil.weak fun σ H Q ⟨env,_,k⟩=>k [] H (Same.refl _) rfl
theorem zF (h1:PE X e (tDat X.K n f)) (h2:PA X es (tDats X.K m g)) (hs:starEach (e :: es) X.env = (false,eval e X.env) :: starEach es X.env:=by rfl):PA X (e :: es) (tDats X.K (n ++ m) fun env=>f env :: g env) :=
 (zA h1 h2 hs).weak fun σ H Q ⟨env,he,k⟩=>⟨env,he.left,fun v H1 s1 dv=>⟨env,he.right.same s1,fun vs H2 s2 dvs=>k (v :: vs) H2 (s1.trans s2) ⟨v,vs,rfl,Dw.same s2 _ _ dv,dvs⟩⟩⟩
theorem yV {x1} (h:PA X es (tDats X.K n g)) (hz:es.length <= 1000:=by decide) (hg:∀ env,(g env).length = es.length:=by intro _; rfl):PE X (.Tuple es x1 pos) (tDat X.K n fun env=>.tuple (g env)) :=
 (yC h).weak fun σ H Q ⟨env,he,k⟩=>⟨env,he,fun vs H1 s1 dvs=>⟨An.le_line (by rw [dvs.length,hg]; omega),fun p np=>k (.ref p) _ (s1.trans (An.same_upd np)) ⟨p,vs,rfl,SqT.of zB,DwAll.same (An.same_upd np) _ _ dvs⟩⟩⟩
theorem zP (i:Nat) {x:Str} (h:PE X (.Name x pos) (tVar i)):PE X (.Name x pos) (tDat X.K [(i,false)] fun env=>env i) :=
 h.weak fun σ H Q ⟨env,he,k⟩=>by
  obtain ⟨⟨v,h1,h2⟩,_⟩:=he _ List.mem_cons_self
  exact ⟨v,h1,k v H (Same.refl _) h2⟩
theorem pd_bl {b j}:PE X (.Constant (.bool b) j pos) (tDat X.K [] fun _=>.bool b):=pe_bl.weak fun σ H Q ⟨env,_,k⟩=>k _ H (Same.refl _) rfl
theorem y8 {j}:PE X (.Constant .none j pos) (tDat X.K [] fun _=>.none):=pe_non.weak fun σ H Q ⟨env,_,k⟩=>k _ H (Same.refl _) rfl
end
end L2
namespace An
open PySem L2
mutual
def tupOnly:PyData -> Bool
 | .list _=>false
 | .dict _=>false
 | .tuple ds=>yX ds
 | _=>true
def yX:List PyData -> Bool
 | []=>true
 | d :: ds=>tupOnly d && yX ds
end
mutual
def yG:PyData -> Bool
 | .dict _=>false
 | .list ds=>z7 ds
 | .tuple ds=>z7 ds
 | _=>true
def z7:List PyData -> Bool
 | []=>true
 | d :: ds=>yG d && z7 ds
end
mutual
theorem Dw.dt {K:PySem.W.Frag} {H:Hp}:∀ (d:PyData) (v:V),yG d = true -> Dw K H d v -> Dt K H d v
 | .none,_,_,h=>h
 | .bool _,_,_,h=>h
 | .int _,_,_,h=>h
 | .str _,_,_,h=>h
 | .list ds,_,t,⟨a,xs,h1,h2,h3⟩=>⟨a,xs,h1,h2,DwAll.dt ds xs t h3⟩
 | .tuple ds,_,t,⟨a,xs,h1,h2,h3⟩=>⟨a,xs,h1,h2,DwAll.dt ds xs t h3⟩
 | .dict _,_,t,_=>by cases t
theorem DwAll.dt {K:PySem.W.Frag} {H:Hp}:∀ (ds:List PyData) (xs:List V),z7 ds = true -> DwAll K H ds xs -> DtAll K H ds xs
 | [],_,_,h=>h
 | d :: ds,_,t,⟨x,r,h1,h2,h3⟩=>by
  have t:(yG d && z7 ds) = true:=t
  rw [Bool.and_eq_true] at t
  exact ⟨x,r,h1,Dw.dt d x t.1 h2,DwAll.dt ds r t.2 h3⟩
end
theorem qZ:∀ ls:List Str,yX (ls.map .str) = true
 | []=>rfl
 | l :: ls=>by
  show (true && yX (ls.map .str)) = true
  rw [qZ ls]; rfl
mutual
theorem dictFree_of:∀ d:PyData,tupOnly d = true -> yG d = true
 | .none,_=>rfl
 | .bool _,_=>rfl
 | .int _,_=>rfl
 | .str _,_=>rfl
 | .list _,t=>by cases t
 | .tuple ds,t=>xV ds t
 | .dict _,t=>by cases t
theorem xV:∀ ds:List PyData,yX ds = true -> z7 ds = true
 | [],_=>rfl
 | d :: ds,t=>by
  have t:(tupOnly d && yX ds) = true:=t
  rw [Bool.and_eq_true] at t
  show (yG d && z7 ds) = true
  rw [dictFree_of d t.1,xV ds t.2]; rfl
end
theorem cut_ints {ns:List Int} {f k:Nat} (h:f <= k):∃ ms:List Int,cutV (ns.map V.int) (some (f:Int)) (some (k:Int)) = ms.map V.int /\ ms.length <= k - f:=by
 refine ⟨(ns.drop (min f ns.length)).take (min k ns.length - min f ns.length),?_,?_⟩
 ·unfold cutV
  rw [HT.sIx_nat,HT.sIx_nat,List.length_map,List.map_take,List.map_drop]
 ·rw [List.length_take]
  omega
end An
namespace An17
open PySem L2 An An10 An12
seal L2.PS L2.PSs L2.PE L2.PT L2.PW L2.PA L2.PG L2.PGs L2.PI L2.PFi L2.PC
def okPa (n:Nat) (p:Str):Prop:=p.length <= n /\ PyData.strOk p = true
def spCell (K:PySem.W.Frag):Sp:=fun vs H Q _=>∃ (a:Addr) (ns:List Int) (k:Int),vs = [.ref a,.int k] /\ SqL K H a (ns.map V.int) /\ 0 <= k /\ ∀ i,Q (.int i) H
structure Nine (ps:List Str):Prop where
 len:ps.length = 9
 nd:ps.Nodup
 ok:∀ p ∈ ps,okPa 1000 p
 even:∀ p ∈ ps,∀ q ∈ ps,p.length = q.length
def spPaths:Sp:=fun vs H Q _=>∃ c,vs = [.int c] /\ ∀ p ps H',Same H H' -> H p = none -> H' p = some (.lst (ps.map V.str)) -> Nine ps -> Q (.ref p) H'
section
variable {P:Program} {w:World} {K:PySem.W.Frag} {mg:Str -> Option Value} {base:Heap} {t1 t2:Tok}
namespace g_cell
abbrev st:Stmt:=top 22
theorem sc:FnScope ["_law_script","_law_k"] ["_law_script","_law_k"] (zE st):=⟨rfl,rfl,rfl,by decide +kernel,rfl,by decide +kernel,by decide +kernel⟩
theorem ok {f:Addr} {fd:FuncData} (F:Fun K "_law_cell_at" "_law_cell_at" st f fd) (T:Txt K mg t1 t2):FnOk P w K mg base CX0 1 f fd ["_law_script","_law_k"] (spCell K):=by
 refine F.ok sc (fun vs H Q E h=>?_) (fun cdv A outer s H vs Q E hr h=>?_)
 ·obtain ⟨a,ns,k,rfl,_⟩:=h
  rfl
 ·obtain ⟨a,ns,k,rfl,hs,h0,q⟩:=h
  refine ⟨_,(zC (yS (zQ op_lt (pv 1) (zO zL (by rfl) T.len PySem.boot_len (zA (pv 0) pa_nil)) (zX _))
    (zH (zW (zM (ix_list:IxR _ (rIxL K)) (pv 0) (pv 1) (fun _ _=>rfl))))
    z4)
   (zH (zW zG))),?_⟩
  refine ⟨_,rfl,_,rfl,a,_,rfl,.inl hs,_,_,rfl,rfl,_,rfl,ite2 (fun h=>?_) (fun h=>?_)⟩
  ·have h1:k < ns.length:=by simpa using h
   obtain ⟨n,_,hn⟩:=at_map (f:=V.int) h0 h1
   exact ⟨_,rfl,_,rfl,a,_,_,_,rfl,rfl,hs,hn,q n⟩
  ·exact q 0
end g_cell
theorem cs_from (x:Str) (n:Nat) (h:n <= x.length):cs (Txt.slice x (some (n:Int)) none) = (cs x).drop n:=by
 rw [PyProof.Rows.slice_from_eq (x:=x) (i:=(n:Int)) (by omega) (by omega) rfl]
 show ((x.cps.toList.drop (n:Int).toNat).take ((x.length:Int) - (n:Int)).toNat) = (cs x).drop n
 rw [Int.toNat_natCast]
 refine List.take_of_length_le ?_
 rw [List.length_drop]
 have:x.cps.toList.length = x.length:=(zU x).symm
 omega
def pre (d:Nat):List Str:=(["top","in","x"]:List Str).take d
def preS:Nat -> List Nat
 | 0=>[]
 | 1=>cs ("top/":Str)
 | 2=>cs ("top/in/":Str)
 | _=>cs ("top/in/x/":Str)
theorem cs_pre {d:Nat} (hd:d < 4) (l:Str):cs (Txt.join "/" (pre d ++ [l])) = preS d ++ cs l:=by
 rw [cs_join]
 match d,hd with
 | 0,_=>rfl
 | 1,_ =>
  show cs ("top":Str) ++ 47 :: cs l = _
  have e:cs ("top/":Str) = cs ("top":Str) ++ [47]:=by decide +kernel
  show _ = cs ("top/":Str) ++ cs l
  rw [e,List.append_assoc]; rfl
 | 2,_ =>
  show cs ("top":Str) ++ 47 :: (cs ("in":Str) ++ 47 :: cs l) = cs ("top/in/":Str) ++ cs l
  have e:cs ("top/in/":Str) = cs ("top":Str) ++ 47 :: (cs ("in":Str) ++ [47]):=by decide +kernel
  rw [e,List.append_assoc,List.cons_append,List.append_assoc]; rfl
 | 3,_ =>
  show cs ("top":Str) ++ 47 :: (cs ("in":Str) ++ 47 :: (cs ("x":Str) ++ 47 :: cs l)) = cs ("top/in/x/":Str) ++ cs l
  have e:cs ("top/in/x/":Str) = cs ("top":Str) ++ 47 :: (cs ("in":Str) ++ 47 :: (cs ("x":Str) ++ [47])):=by decide +kernel
  rw [e,List.append_assoc,List.cons_append,List.append_assoc,List.cons_append,List.append_assoc]; rfl
 | d + 4,h=>omega
theorem abc_at {S:Str} (h:cs S = (List.range 26).map (· + 97)) {i:Int} {d:Nat} (h0:0 <= i) (h1:i < 26) (h2:atI S.cps.toList i = some d):(d:Int) = 97 + i:=by
 obtain ⟨j,rfl⟩:=Int.eq_ofNat_of_zero_le h0
 have hj:j < 26:=by omega
 have h3:(cs S)[j]? = some (j + 97):=by
  rw [h,List.getElem?_map,List.getElem?_range hj]; rfl
 have h4:atI S.cps.toList (j:Int) = some (j + 97):=yP h3
 have h5:=Option.some.inj (h2.symm.trans h4)
 omega
def pth (d:Nat) (l:List Nat) (a:Nat) (e:Int) (k:Nat):List Nat:=preS d ++ (l.take a ++ [(97 + (e + k) % 26).toNat] ++ l.drop a)
theorem pth_len {d:Nat} {l:List Nat} {a k:Nat} {e:Int} (ha:a <= l.length):(pth d l a e k).length = (preS d).length + (l.length + 1):=by
 unfold pth
 simp only [List.length_append,List.length_take,List.length_drop,List.length_singleton]
 omega
theorem pth_inj {d:Nat} {l:List Nat} {a i j:Nat} {e:Int} (hi:i < 9) (hj:j < 9) (h:pth d l a e i = pth d l a e j):i = j:=by
 unfold pth at h
 have h:=List.append_cancel_left h
 have h:=List.append_cancel_right h
 have h:=List.append_cancel_left h
 have h:(97 + (e + i) % 26).toNat = (97 + (e + j) % 26).toNat:=by injection h
 omega
theorem preS_ok (d:Nat):(preS d).length <= 20 /\ ∀ c ∈ preS d,c < 128:=by
 match d with
 | 0=>exact ⟨by decide,fun c hc=>nomatch hc⟩
 | 1=>exact ⟨by decide +kernel,by decide +kernel⟩
 | 2=>exact ⟨by decide +kernel,by decide +kernel⟩
 | d + 3=>exact ⟨by show (cs ("top/in/x/":Str)).length <= 20; decide +kernel,by show ∀ c ∈ cs ("top/in/x/":Str),c < 128; decide +kernel⟩
theorem nine_of {ps:List Str} {d:Nat} {l:List Nat} {a:Nat} {e:Int} (hl:l.length <= 6) (lo:∀ c ∈ l,c < 128) (ha:a <= l.length) (h:ps.map cs = (List.range 9).map (pth d l a e)):Nine ps:=by
 have len:ps.length = 9:=by
  have:=congrArg List.length h
  simpa using this
 have at_:∀ p ∈ ps,∃ k,k < 9 /\ cs p = pth d l a e k:=fun p hp=>by
  have:cs p ∈ ps.map cs:=List.mem_map.mpr ⟨p,hp,rfl⟩
  rw [h] at this
  obtain ⟨k,hk,e'⟩:=List.mem_map.mp this
  exact ⟨k,List.mem_range.mp hk,e'.symm⟩
 have ln:∀ p ∈ ps,p.length = (preS d).length + (l.length + 1):=fun p hp=>by
  obtain ⟨k,_,e'⟩:=at_ p hp
  rw [zU,e',pth_len ha]
 refine ⟨len,?_,fun p hp=>⟨?_,?_⟩,fun p hp q hq=>by rw [ln p hp,ln q hq]⟩
 ·have nd:(ps.map cs).Nodup:=by
   rw [h]
   refine List.Pairwise.map _ (R:=fun i j=>i < 9 /\ j < 9 /\ i ≠ j) (fun i j hij z=>hij.2.2 (pth_inj hij.1 hij.2.1 z)) ?_
   have:=List.nodup_range (n:=9)
   refine List.Pairwise.imp_of_mem (fun {i j} hi hj n=>⟨List.mem_range.mp hi,List.mem_range.mp hj,n⟩) this
  exact (List.pairwise_map.mp nd).imp fun n e=>n (congrArg cs e)
 ·rw [ln p hp]
  have:=(preS_ok d).1
  omega
 ·obtain ⟨k,_,e'⟩:=at_ p hp
  rw [strOk_iff,e']
  intro c hc
  unfold pth at hc
  simp only [List.mem_append,List.mem_singleton] at hc
  have:c < 128:=by
   rcases hc with hc | (hc | hc) | hc
   ·exact (preS_ok d).2 c hc
   ·exact lo c (List.mem_of_mem_take hc)
   ·subst hc; omega
   ·exact lo c (List.mem_of_mem_drop hc)
  omega
namespace g_paths
abbrev st:Stmt:=top 23
theorem sc:FnScope ["_law_cell","_law_letters","_law_size","_law_at","_law_deep","_law_rest","_law_found","_law_k","_law_label"] ["_law_cell"] (zE st):=⟨rfl,rfl,rfl,by decide +kernel,rfl,by decide +kernel,by decide +kernel⟩
theorem ok {f:Addr} {fd:FuncData} (F:Fun K "_law_paths" "_law_paths" st f fd) (T:Txt K mg t1 t2):FnOk P w K mg base CX0 1 f fd ["_law_cell"] spPaths:=by
 refine F.ok sc (fun vs H Q E h=>?_) (fun cdv A outer s H vs Q E hr h=>?_)
 ·obtain ⟨c,rfl,_⟩:=h
  rfl
 ·obtain ⟨c,rfl,k⟩:=h
  refine ⟨_,(zC (zJ (i:=1) sc.nd rfl (Or.inr rfl) zS)
   (zC (zJ (i:=2) sc.nd rfl (Or.inl rfl) (zV jH (pv 0) zG))
   (zC (zJ (i:=3) sc.nd rfl (Or.inl rfl) (zV jH (zV jK (pv 0) zG) (zV xN (pv 2) zG)))
   (zC (zJ (i:=4) sc.nd rfl (Or.inl rfl) (zV jH (zV jK (pv 0) zG) zG))
   (zC (zJ (i:=5) sc.nd rfl (Or.inl rfl) (xL PySem.F.plainAttrs_str PySem.F.slot_str_join PySem.F.type_str_join mt_join zS (zA (qU (sc:=zE st) (N:=["_law_cell","_law_letters","_law_size","_law_at","_law_deep","_law_rest","_law_found","_law_k","_law_label"]) (N':=["_law_k","_law_letters","_law_cell"]) (src:=[none,some 1,some 0]) ⟨by decide +kernel,rfl,rfl,by decide +kernel,by decide +kernel,by decide +kernel,by decide +kernel⟩ rfl rfl rfl (xT rfl T.range (zA (pv 2) pa_nil)) (fun _ _ _ _=>(zN (i:=0) (show (["_law_k","_law_letters","_law_cell"]:List Str).Nodup by decide +kernel) rfl (Or.inl rfl))) (fun _ _ _ _=>x5) (fun _ _ _ _=>(zM ix_str (pv 1) (zV jH (zV xN (zV jK (pv 2) zG) (zV op_mul zG (pv 0))) zG) (fun _ _=>rfl)))) pa_nil)))
   (zC (zJ (i:=6) sc.nd rfl (Or.inl rfl) (zZ pa_nil))
   (zC (yZ PassesOwn.never rfl (xT rfl T.range (zA zG pa_nil)) (zN (i:=7) sc.nd rfl (Or.inl rfl))
    (zC (zJ (i:=8) sc.nd rfl (Or.inl rfl) (zV qV (zV qV (yL sl_str (pv 5) qR (yB (pv 3))) (zM ix_str (pv 1) (zV jH (zV xN (zV jK (pv 0) zG) (pv 7)) zG) (fun _ _=>rfl))) (yL sl_str (pv 5) (yB (pv 3)) qR)))
    (zH (z3 (xL PySem.F.plainAttrs_list PySem.F.slot_list_append PySem.F.type_list_append yE (pv 6) (zA (xL PySem.F.plainAttrs_str PySem.F.slot_str_join PySem.F.type_str_join mt_join zS (zA (zV (yM (K:=K)) (yL (sl_list:SlR _ (rSlL K)) (zZ (zA zS (zA zS (zA zS pa_nil)))) qR (yB (pv 4))) (zZ (zA (pv 8) pa_nil))) pa_nil)) pa_nil))))))
   (zH (zW (pv 6)))))))))),?_⟩
  obtain ⟨S,hS0,hS,hS2⟩:∃ S:Str,S = "abcdefghijklmnopqrstuvwxyz" /\ Menu 26 S /\ cs S = (List.range 26).map (· + 97):=⟨_,rfl,⟨by decide +kernel,by decide +kernel⟩,by decide +kernel⟩
  rw [← hS0]
  have b1:0 <= c % 7 /\ c % 7 < 7:=by omega
  have b2:0 <= c / 7 % (c % 7 + 1):=Int.emod_nonneg _ (by omega)
  have b3:c / 7 % (c % 7 + 1) < c % 7 + 1:=Int.emod_lt_of_pos _ (by omega)
  have b4:0 <= c / 49 % 4 /\ c / 49 % 4 < 4:=by omega
  refine ⟨_,rfl,_,_,rfl,rfl,(by decide:(0:Int) < 7),_,rfl,_,_,rfl,rfl,⟨by decide,by decide⟩,_,rfl,_,_,rfl,rfl,_,_,rfl,rfl,(by omega:(0:Int) < c % 7 + 1),_,rfl,_,_,rfl,rfl,⟨by decide,by decide⟩,_,_,rfl,rfl,(by decide:(0:Int) < 4),?_⟩
  refine ⟨rfl,_,rfl,_,rfl,by omega,by omega,qB (fun i ys σ H2=>∃ x l,σ = [x,some (.str S),some (.int c)] /\ H2 = H /\ ys = (l.map one).map V.str /\ l.length = i /\ ∀ c ∈ l,c < 128) ⟨none,[],rfl,rfl,rfl,rfl,fun c hc=>nomatch hc⟩ (le_line (by omega))
   (fun i ys σ H2 hi ⟨x,l,_,_,ey,el,_⟩=>by rw [ey,List.length_map,List.length_map,el]; exact Nat.le_refl _) ?_ ?_⟩
  ·rintro i ys σ H2 hi ⟨x,l,rfl,rfl,rfl,rfl,al⟩
   refine ⟨_,rfl,_,rfl,_,_,rfl,rfl,⟨by decide,by decide⟩,_,rfl,_,_,rfl,rfl,.inl ⟨by decide,by decide⟩,_,_,rfl,rfl,_,_,rfl,rfl,(by decide:(0:Int) < 26),?_⟩
   obtain ⟨d,hd1,hd2⟩:=hS.at (i:=(c / 196 + 3 * (0 + ((l.length:Nat):Int))) % 26) (by omega) (by omega)
   refine ⟨S,_,d,rfl,rfl,hS.len (by decide),hd1,_,l ++ [d],rfl,rfl,?_,by simp,fun c hc=>?_⟩
   ·rw [List.map_append,List.map_append]
    rfl
   ·rcases List.mem_append.mp hc with z | z
    ·exact al c z
    ·rw [List.mem_singleton.mp z]; exact hd2
  ·rintro ys σ H2 ⟨x,l,rfl,rfl,rfl,el,al⟩ p np
   have el:l.length = (c % 7).toNat:=el
   have ll:l.length <= 6:=by omega
   have s1:((l.map one).map (·.length)).sum <= 6:=by
    have h1:=sum_le (n:=1) (l.map one) (fun y hy=>by
     obtain ⟨d,_,rfl⟩:=List.mem_map.mp hy
     exact Nat.le_refl 1)
    rw [List.length_map] at h1
    omega
   have e0:("":Str).length = 0:=by decide +kernel
   refine ⟨"",p,l.map one,rfl,rfl,.inl (SqL.of zB),by rw [List.length_map,e0]; omega,?_⟩
   have eR:=cs_joinOnes l
   generalize Txt.join "" (l.map one) = R at eR ⊢
   have rl:R.length <= 6:=by rw [zU,eR]; exact ll
   obtain ⟨a,ea⟩:=Int.eq_ofNat_of_zero_le b2
   obtain ⟨dp,ed⟩:=Int.eq_ofNat_of_zero_le b4.1
   dsimp only
   rw [ea,ed]
   rw [ea] at b3
   rw [ed] at b4
   have ha:a <= l.length:=by omega
   have hdp:dp < 4:=by omega
   refine ⟨Nat.zero_le _,fun q nq=>?_⟩
   have u1:Same H2 (upd (upd H2 p (.lst ((l.map one).map V.str))) q (.lst [])):=(same_upd np).trans (same_upd nq)
   have nq0:H2 q = none:=(same_upd np).free nq
   refine ⟨9,rfl,by decide,by decide,for_range (lo:=0) (n:=9) (fun i σ H3=>∃ o7 o8 ps,σ = [some (.int c),some (.str S),some (.int (c % 7)),some (.int a),some (.int dp),some (.str R),some (.ref q),o7,o8] /\ Same H2 H3 /\ H3 q = some (.lst (ps.map V.str)) /\ ps.map cs = (List.range i).map (pth dp l a (c / 196)))
    ⟨none,none,[],rfl,u1,zB,rfl⟩ ?_ ?_⟩
   ·rintro i σ H3 hi ⟨o7,o8,ps,rfl,e3,hq,hps⟩
    have pl:ps.length = i:=by
     have:=congrArg List.length hps
     simpa using this
    obtain ⟨d,hd1,hd2⟩:=hS.at (i:=(c / 196 + (0 + (i:Int))) % 26) (by omega) (by omega)
    have hd3:=abc_at hS2 (by omega) (by omega) hd1
    have c1:cs (Txt.slice R none (some (a:Int))) = l.take a:=by rw [AnS.cs_upto,eR]
    have c2:cs (Txt.slice R (some (a:Int)) none) = l.drop a:=by rw [cs_from _ _ (by rw [zU,eR]; exact ha),eR]
    have n1:(Txt.slice R none (some (a:Int))).length <= 6:=by rw [zU,c1,List.length_take]; omega
    have n2:(Txt.slice R (some (a:Int)) none).length <= 6:=by rw [zU,c2,List.length_drop]; omega
    have n3:(⟨#[d]⟩:Str).length = 1:=rfl
    refine ⟨_,rfl,_,rfl,_,rfl,R,rfl,le_line (by omega),_,rfl,_,rfl,_,_,rfl,rfl,⟨by decide,by decide⟩,_,rfl,_,_,rfl,rfl,_,_,rfl,rfl,(by decide:(0:Int) < 26),S,_,d,rfl,rfl,hS.len (by decide),hd1,_,_,rfl,rfl,le_line (by omega),_,rfl,_,rfl,_,rfl,R,rfl,le_line (by omega),_,_,rfl,rfl,le_line (by rw [AnS.len_app]; omega),?_⟩
    have cL:cs (Txt.slice R none (some (a:Int)) ++ (⟨#[d]⟩:Str) ++ Txt.slice R (some (a:Int)) none) = l.take a ++ [(97 + (c / 196 + i) % 26).toNat] ++ l.drop a:=by
     rw [yT,yT,c1,c2]
     have:cs (⟨#[d]⟩:Str) = [d]:=rfl
     rw [this]
     have:(97 + (c / 196 + (i:Int)) % 26).toNat = d:=by
      rw [Int.zero_add] at hd3
      omega
     rw [this]
    have lL:(Txt.slice R none (some (a:Int)) ++ (⟨#[d]⟩:Str) ++ Txt.slice R (some (a:Int)) none).length <= 13:=by rw [AnS.len_app,AnS.len_app]; omega
    generalize Txt.slice R none (some (a:Int)) ++ (⟨#[d]⟩:Str) ++ Txt.slice R (some (a:Int)) none = Lb at cL lL ⊢
    refine ⟨_,rfl,.inl ⟨rfl,_,SqL.of hq⟩,rfl,lineN 3,fun q1 nq1=>⟨_,rfl,_,rfl,q1,_,rfl,SqL.of zB,fun q2 nq2=>⟨_,rfl,lineN 1,fun q3 nq3=>?_⟩⟩⟩
    have u4:=same_upd (o:=.lst [V.str "top",.str "in",.str "x"]) nq1
    have ec:cutV [V.str "top",.str "in",.str "x"] none (some (dp:Int)) = (pre dp).map V.str:=by
     rw [cut_to (by omega)]
     unfold pre
     rw [List.map_take]
     rfl
    rw [ec] at nq3 ⊢
    have u5:=same_upd (o:=.lst ((pre dp).map V.str)) nq2
    have u6:=same_upd (o:=.lst [V.str Lb]) nq3
    refine ⟨q2,q3,(pre dp).map V.str,[V.str Lb],rfl,rfl,SqL.of (u6 _ _ zB),SqL.of zB,le_line (by rw [List.length_map]; unfold pre; rw [List.length_take]; show min dp 3 + 1 <= _; omega),fun q4 nq4=>?_⟩
    have u7:=same_upd (o:=.lst ((pre dp).map V.str ++ [V.str Lb])) nq4
    have em:(pre dp).map V.str ++ [V.str Lb] = (pre dp ++ [Lb]).map V.str:=by rw [List.map_append]; rfl
    have v7:=((u4.trans u5).trans u6).trans u7
    have e47:("/":Str).length = 1:=by decide +kernel
    have pl3:(pre dp).length <= 3:=by unfold pre; rw [List.length_take]; exact Nat.min_le_right _ _
    have pl9:∀ y ∈ pre dp,y.length <= 13:=fun y hy=>by
     have hy:=List.mem_of_mem_take hy
     have:∀ y ∈ (["top","in","x"]:List Str),y.length <= 13:=by decide +kernel
     exact this y hy
    refine ⟨"/",q4,pre dp ++ [Lb],rfl,rfl,.inl (SqL.of (by rw [zB,em])),?_,q,_,_,rfl,rfl,v7 _ _ hq,?_,?_⟩
    ·have h1:=sum_le (n:=13) (pre dp ++ [Lb]) (fun y hy=>by
      rcases List.mem_append.mp hy with z | z
      ·exact pl9 y z
      ·rw [List.mem_singleton.mp z]; exact lL)
     rw [List.length_append,List.length_singleton] at h1 ⊢
     rw [e47]
     omega
    ·exact Nat.lt_of_lt_of_le (by rw [List.length_map]; omega:(ps.map V.str).length < 16777216) (le_line (Nat.le_refl _))
    ·refine ⟨_,_,ps ++ [Txt.join "/" (pre dp ++ [Lb])],rfl,An.Same.updF (e3.trans v7) nq0,by rw [zB,List.map_append]; rfl,?_⟩
     rw [List.map_append,hps,List.range_succ,List.map_append]
     congr 1
     show [cs (Txt.join "/" (pre dp ++ [Lb]))] = [pth dp l a (c / 196) i]
     rw [cs_pre hdp,cL]
     rfl
   ·rintro σ H3 ⟨o7,o8,ps,rfl,e3,hq,hps⟩
    exact ⟨_,rfl,k q ps H3 e3 nq0 hq (nine_of ll al ha hps)⟩
end g_paths
end
end An17
namespace An17
open PySem L2 An An10 An12
seal L2.PS L2.PSs L2.PE L2.PT L2.PW L2.PA L2.PG L2.PGs L2.PI L2.PFi L2.PC
def spCase (K:PySem.W.Frag):Sp:=fun vs H Q _=>∃ c,vs = [.int c] /\ ∀ (v:V) (n:Nat) (row:AnS.R17) H',Same H H' -> AnS.N17 n -> row ∈ AnS.tab17 n -> Dt K H' (AnS.caseD row) v -> Q v H'
theorem free_oD (o:Option (List Str)):yG (AnS.oD o) = true:=by
 cases o with
 | none=>rfl
 | some ls=>exact xV _ (qZ ls)
theorem free_case (row:AnS.R17):yG (AnS.caseD row) = true:=by
 unfold AnS.caseD
 show (yG (AnS.oD row.b) && (yG (AnS.oD row.m) && (yG (AnS.oD row.y) && (yG (AnS.rD row.r) && true)))) = true
 rw [free_oD,free_oD,free_oD]
 cases row.r with
 | none=>rfl
 | some o =>
  show (true && (true && (true && (yG (AnS.oD o) && true)))) = true
  rw [free_oD]
  rfl
def env5 (a b c d e:List Str):DEnv
 | 2=>AnJ.tupS a
 | 3=>AnJ.tupS b
 | 4=>AnJ.tupS c
 | 5=>AnJ.tupS d
 | 6=>AnJ.tupS e
 | _=>.none
section
variable {P:Program} {w:World} {K:PySem.W.Frag} {mg:Str -> Option Value} {base:Heap} {t1 t2:Tok}
theorem xU {i:Nat} {v:V} {σ:St} {H:Hp} {Q:St -> Hp -> Prop} (h:Q (σ.set i (some v)) H):gName i v σ H Q:=h
theorem mk5 {σ:St} {H:Hp} {q:Addr} {far:List Str} {Q:VK} (x y z:Str) (h1:σ[1]? = some (some (.ref q))) (hq:SqL K H q (far.map V.str)) (lf:far.length <= 4) (k:∀ t H',Same H H' -> SqT K H' t (([x] ++ far ++ [y,z]).map V.str) -> Q (.ref t) H') :
  tCB (fun xs H Q=>∃ p ys,xs = [V.ref p] /\ ((SqL K H p ys /\ ∀ l,H l = none -> Q (.ref l) (upd H l (.tup ys))) \/ (SqT K H p ys /\ Q (.ref p) H))) (tCons (tOp (rCatS K) (tOp (rCatS K) (tLst (tCons (tC (.str x)) tNil)) (tVar 1)) (tLst (tCons (tC (.str y)) (tCons (tC (.str z)) tNil)))) tNil) σ H Q:=by
 refine ⟨lineN 1,fun l1 n1=>⟨_,h1,l1,q,[V.str x],far.map V.str,rfl,rfl,SqL.of zB,(same_upd n1).seq hq,le_line (by rw [List.length_map]; show 1 + far.length <= _; omega),fun p np=>⟨lineN 2,fun l2 n2=>⟨p,l2,[V.str x] ++ far.map V.str,[V.str y,V.str z],rfl,rfl,SqL.of (same_upd n2 _ _ zB),SqL.of zB,le_line (by rw [List.length_append,List.length_map]; show 1 + far.length + 2 <= _; omega),fun p2 np2=>⟨p2,_,rfl,.inl ⟨SqL.of zB,fun t nt=>?_⟩⟩⟩⟩⟩⟩
 refine k t _ (((((same_upd n1).trans (same_upd np)).trans (same_upd n2)).trans (same_upd np2)).trans (same_upd nt)) ?_
 have e:([x] ++ far ++ [y,z]).map V.str = [V.str x] ++ far.map V.str ++ [V.str y,V.str z]:=by rw [List.map_append,List.map_append]; rfl
 rw [e]
 exact SqT.of zB
theorem stepC {H0 H1 H2:Hp} {a p:Addr} {vs vs1:List V} {ds es:List PyData} (t:Same H0 H1) (D:DwAll K H1 ds vs) (s:Same H1 H2) (d:DwAll K H2 es vs1) (na:H2 a = none) (np:upd H2 a (.lst vs1) p = none) :
  Same H0 (upd (upd H2 a (.lst vs1)) p (.lst (vs ++ vs1))) /\ DwAll K (upd (upd H2 a (.lst vs1)) p (.lst (vs ++ vs1))) (ds ++ es) (vs ++ vs1) /\ SqL K (upd (upd H2 a (.lst vs1)) p (.lst (vs ++ vs1))) p (vs ++ vs1):=by
 have u:=(same_upd (o:=.lst vs1) na).trans (same_upd (o:=.lst (vs ++ vs1)) np)
 exact ⟨(t.trans s).trans u,L2.DwAll.append (DwAll.same (s.trans u) _ _ D) (DwAll.same u _ _ d),SqL.of zB⟩
theorem far_step {i:Nat} (h:i < 4):(AnS.farL i).map V.str ++ [V.str (("f":Str) ++ (toString (0 + (i:Int)):String))] = (AnS.farL (i + 1)).map V.str:=by
 have e:∀ i:Nat,i < 4 -> (("f":Str) ++ ((toString (0 + (i:Int)):String):Str)) = (["f0","f1","f2","f3"]:List Str).getD i "":=by decide +kernel
 rw [e i h]
 match i,h with
 | 0,_=>rfl
 | 1,_=>rfl
 | 2,_=>rfl
 | 3,_=>rfl
 | i + 4,h=>omega
namespace g_case
abbrev st:Stmt:=top 24
theorem sc:FnScope ["_law_cell","_law_far","_law_base","_law_first_here","_law_last","_law_other","_law_both","_law_some"] ["_law_cell"] (zE st):=⟨rfl,rfl,rfl,by decide +kernel,rfl,by decide +kernel,by decide +kernel⟩
theorem ok {f:Addr} {fd:FuncData} (F:Fun K "_law_case" "_law_case" st f fd) (T:Txt K mg t1 t2):FnOk P w K mg base CX0 1 f fd ["_law_cell"] (spCase K):=by
 refine F.ok sc (fun vs H Q E h=>?_) (fun cdv A outer s H vs Q E hr h=>?_)
 ·obtain ⟨c,rfl,_⟩:=h
  rfl
 ·obtain ⟨c,rfl,k⟩:=h
  refine ⟨_,(zC (jJ (sc:=zE st) (N:=["_law_cell","_law_far","_law_base","_law_first_here","_law_last","_law_other","_law_both","_law_some"]) (N':=["_law_k"]) (src:=[none]) ⟨by decide +kernel,rfl,rfl,by decide +kernel,by decide +kernel,by decide +kernel,by decide +kernel⟩ rfl rfl rfl (xT rfl T.range (zA (zV op_mul (zV jH (zV jK (pv 0) zG) zG) zG) pa_nil)) (fun _ _ _ _=>(zN (i:=0) (show (["_law_k"]:List Str).Nodup by decide +kernel) rfl (Or.inl rfl))) (fun _ _ _ _=>x5) (fun _ _ _ _=>(zV qV zS (z5 call_str_int (by rfl) T.str PyProof.Rows.boot_str (zA (pv 0) pa_nil)))) sc.nd rfl (Or.inl rfl) (k:=1))
   (zC (zJ (i:=2) sc.nd rfl (Or.inl rfl) (z5 z9 (by rfl) T.tuple PyProof.Rows.boot_tuple (zA (zV (yM (K:=K)) (zV (yM (K:=K)) (zZ (zA zS pa_nil)) (pv 1)) (zZ (zA zS (zA zS pa_nil)))) pa_nil)))
   (zC (zJ (i:=3) sc.nd rfl (Or.inl rfl) (z5 z9 (by rfl) T.tuple PyProof.Rows.boot_tuple (zA (zV (yM (K:=K)) (zV (yM (K:=K)) (zZ (zA zS pa_nil)) (pv 1)) (zZ (zA zS (zA zS pa_nil)))) pa_nil)))
   (zC (zJ (i:=4) sc.nd rfl (Or.inl rfl) (z5 z9 (by rfl) T.tuple PyProof.Rows.boot_tuple (zA (zV (yM (K:=K)) (zV (yM (K:=K)) (zZ (zA zS pa_nil)) (pv 1)) (zZ (zA zS (zA zS pa_nil)))) pa_nil)))
   (zC (zJ (i:=5) sc.nd rfl (Or.inl rfl) (z5 z9 (by rfl) T.tuple PyProof.Rows.boot_tuple (zA (zV (yM (K:=K)) (zV (yM (K:=K)) (zZ (zA zS pa_nil)) (pv 1)) (zZ (zA zS (zA zS pa_nil)))) pa_nil)))
   (zC (zJ (i:=6) sc.nd rfl (Or.inl rfl) (z5 z9 (by rfl) T.tuple PyProof.Rows.boot_tuple (zA (zV (yM (K:=K)) (zV (yM (K:=K)) (zZ (zA zS pa_nil)) (pv 1)) (zZ (zA zS (zA zS pa_nil)))) pa_nil)))
   (zC (zJ (i:=7) sc.nd rfl (Or.inl rfl) (zZ (zF (yV (zF (zP 2 (pv 2)) (zF (zP 2 (pv 2)) (zF (zP 2 (pv 2)) (zF (zP 2 (pv 2)) yH))))) (zF (yV (zF (zP 2 (pv 2)) (zF (zP 3 (pv 3)) (zF (zP 2 (pv 2)) (zF (zP 3 (pv 3)) yH))))) (zF (yV (zF (zP 2 (pv 2)) (zF (zP 2 (pv 2)) (zF (zP 4 (pv 4)) (zF (zP 4 (pv 4)) yH))))) (zF (yV (zF (zP 2 (pv 2)) (zF (zP 3 (pv 3)) (zF (zP 3 (pv 3)) (zF (zP 3 (pv 3)) yH))))) yH))))))
   (zC (zJ (i:=7) sc.nd rfl (Or.inl rfl) (zV (yM (K:=K)) (pv 7) (zZ (zF (yV (zF (zP 2 (pv 2)) (zF (zP 3 (pv 3)) (zF (zP 4 (pv 4)) (zF (zP 6 (pv 6)) yH))))) (zF (yV (zF (zP 2 (pv 2)) (zF (zP 3 (pv 3)) (zF (zP 5 (pv 5)) (zF pd_bl yH))))) (zF (yV (zF (zP 2 (pv 2)) (zF y8 (zF (zP 2 (pv 2)) (zF y8 yH))))) yH))))))
   (zC (zJ (i:=7) sc.nd rfl (Or.inl rfl) (zV (yM (K:=K)) (pv 7) (zZ (zF (yV (zF (zP 2 (pv 2)) (zF (zP 2 (pv 2)) (zF y8 (zF y8 yH))))) (zF (yV (zF (zP 2 (pv 2)) (zF y8 (zF y8 (zF y8 yH))))) (zF (yV (zF (zP 2 (pv 2)) (zF y8 (zF (zP 4 (pv 4)) (zF pd_bl yH))))) yH))))))
   (zC (zJ (i:=7) sc.nd rfl (Or.inl rfl) (zV (yM (K:=K)) (pv 7) (zZ (zF (yV (zF (zP 2 (pv 2)) (zF (zP 3 (pv 3)) (zF y8 (zF pd_bl yH))))) (zF (yV (zF y8 (zF (zP 3 (pv 3)) (zF y8 (zF (zP 3 (pv 3)) yH))))) (zF (yV (zF y8 (zF y8 (zF (zP 4 (pv 4)) (zF (zP 4 (pv 4)) yH))))) yH))))))
   (zC (zJ (i:=7) sc.nd rfl (Or.inl rfl) (zV (yM (K:=K)) (pv 7) (zZ (zF (yV (zF y8 (zF (zP 3 (pv 3)) (zF (zP 3 (pv 3)) (zF (zP 3 (pv 3)) yH))))) (zF (yV (zF y8 (zF (zP 3 (pv 3)) (zF (zP 4 (pv 4)) (zF pd_bl yH))))) (zF (yV (zF (zP 2 (pv 2)) (zF (zP 4 (pv 4)) (zF (zP 3 (pv 3)) (zF (zP 6 (pv 6)) yH))))) yH))))))
   (zH (zW (zM (ix_list:IxR _ (rIxL K)) (pv 7) (zV jH (pv 0) zG) (fun _ _=>rfl))))))))))))))),?_⟩
  have b1:0 <= c / 16 % 3 /\ c / 16 % 3 < 3:=by omega
  have b2:0 <= c % 16 /\ c % 16 < 16:=by omega
  refine ⟨_,rfl,_,_,rfl,rfl,⟨by decide,by decide⟩,_,_,rfl,rfl,(by decide:(0:Int) < 3),_,_,rfl,rfl,.inr ⟨by decide,by decide⟩,_,rfl,by omega,by omega,qB (fun i ys σ H2=>∃ x,σ = [x] /\ H2 = H /\ ys = (AnS.farL i).map V.str) ⟨none,rfl,rfl,rfl⟩ (le_line (by omega))
   (fun i ys σ H2 hi ⟨x,_,_,ey⟩=>by rw [ey,List.length_map]; unfold AnS.farL; rw [List.length_take]; exact Nat.min_le_left _ _) ?_ ?_⟩
  ·rintro i ys σ H2 hi ⟨x,rfl,rfl,rfl⟩
   have hi4:i < 4:=by omega
   have tl:∀ i:Nat,i < 4 -> ((toString (0 + (i:Int)):String):Str).length <= 1 /\ (0 + (i:Int)).natAbs.log2 < 1920:=by decide +kernel
   have e1:("f":Str).length = 1:=by decide +kernel
   refine ⟨_,rfl,_,rfl,(tl i hi4).2,_,_,rfl,rfl,le_line (by rw [e1]; have:=(tl i hi4).1; omega),_,rfl,rfl,far_step hi4⟩
  ·rintro ys σ H2 ⟨x,rfl,rfl,rfl⟩ q nq
   have hN:AnS.N17 (c / 16 % 3 * 2).toNat:=by
    unfold AnS.N17
    omega
   generalize (c / 16 % 3 * 2).toNat = n at hN ⊢
   have fl:(AnS.farL n).length <= 4:=by unfold AnS.farL; rw [List.length_take]; exact Nat.min_le_right _ _
   have u0:=same_upd (o:=.lst ((AnS.farL n).map V.str)) nq
   have hq:SqL K (upd H2 q (.lst ((AnS.farL n).map V.str))) q ((AnS.farL n).map V.str):=SqL.of zB
   refine xU ?_
   generalize upd H2 q (.lst ((AnS.farL n).map V.str)) = H0 at u0 hq ⊢
   delta tSeq tAsg; dsimp only
   refine mk5 (K:=K) "a" "b" "c" (by rfl) hq fl fun ta Ha sa ha=>?_
   have hq:=sa.seq hq
   refine xU ?_
   try dsimp only
   refine mk5 (K:=K) "m" "b" "c" (by rfl) hq fl fun tf Hf sf hf=>?_
   have hq:=sf.seq hq
   refine xU ?_
   try dsimp only
   refine mk5 (K:=K) "a" "b" "y" (by rfl) hq fl fun tl Hl sl hl=>?_
   have hq:=sl.seq hq
   refine xU ?_
   try dsimp only
   refine mk5 (K:=K) "n" "b" "c" (by rfl) hq fl fun to Ho so ho=>?_
   have hq:=so.seq hq
   refine xU ?_
   try dsimp only
   refine mk5 (K:=K) "m" "b" "y" (by rfl) hq fl fun tb Hb sb hb=>?_
   have ho:=sb.tupS ho
   have hl:=(so.trans sb).tupS hl
   have hf:=((sl.trans so).trans sb).tupS hf
   have ha:=(((sf.trans sl).trans so).trans sb).tupS ha
   have t0:Same H2 Hb:=((((u0.trans sa).trans sf).trans sl).trans so).trans sb
   have mkE:∀ (x7:Option V) (H':Hp),Same Hb H' -> EnvD K [(2,false),(3,false),(4,false),(5,false),(6,false)] (env5 (AnS.tA n) (AnS.tF n) (AnS.tL n) (AnS.tO n) (AnS.tB n)) [some (.int c),some (.ref q),some (.ref ta),some (.ref tf),some (.ref tl),some (.ref to),some (.ref tb),x7] H':=fun x7 H' s =>
    EnvD.cons rfl ⟨ta,_,rfl,s.tupS ha,DtAll.dw (DtAll.strs _)⟩ (EnvD.cons rfl ⟨tf,_,rfl,s.tupS hf,DtAll.dw (DtAll.strs _)⟩ (EnvD.cons rfl ⟨tl,_,rfl,s.tupS hl,DtAll.dw (DtAll.strs _)⟩ (EnvD.cons rfl ⟨to,_,rfl,s.tupS ho,DtAll.dw (DtAll.strs _)⟩ (EnvD.cons rfl ⟨tb,_,rfl,s.tupS hb,DtAll.dw (DtAll.strs _)⟩ EnvD.nil))))
   refine ⟨env5 (AnS.tA n) (AnS.tF n) (AnS.tL n) (AnS.tO n) (AnS.tB n),EnvD.sub (mkE _ _ (Same.refl _)),fun v1 H1 s1 d1=>⟨le_line (by rw [d1.length]; show 4 <= 16777216; decide),fun l1 n1=>?_⟩⟩
   have t1:=s1.trans (same_upd (o:=.lst v1) n1)
   have D1:=DwAll.same (same_upd (o:=.lst v1) n1) _ _ d1
   have L1:SqL K (upd H1 l1 (.lst v1)) l1 v1:=SqL.of zB
   have n1':=d1.length
   clear d1
   generalize upd H1 l1 (.lst v1) = G1 at t1 D1 L1 ⊢
   refine ⟨_,rfl,env5 (AnS.tA n) (AnS.tF n) (AnS.tL n) (AnS.tO n) (AnS.tB n),EnvD.sub (mkE _ _ t1),fun v2 H2' s2 d2=>⟨le_line (by rw [d2.length]; show 3 <= 16777216; decide),fun a2 na2=>⟨l1,a2,_,_,rfl,rfl,(s2.trans (same_upd na2)).seq L1,SqL.of zB,le_line (by rw [n1',d2.length]; show 4 + 3 <= 16777216; decide),fun l2 nl2=>?_⟩⟩⟩
   obtain ⟨t2,D2,L2⟩:=stepC t1 D1 s2 d2 na2 nl2
   have n2':=D2.length
   clear d2 s2
   generalize upd (upd H2' a2 (.lst v2)) l2 (.lst (v1 ++ v2)) = G2 at t2 D2 L2 ⊢
   refine ⟨_,rfl,env5 (AnS.tA n) (AnS.tF n) (AnS.tL n) (AnS.tO n) (AnS.tB n),EnvD.sub (mkE _ _ t2),fun v3 H3' s3 d3=>⟨le_line (by rw [d3.length]; show 3 <= 16777216; decide),fun a3 na3=>⟨l2,a3,_,_,rfl,rfl,(s3.trans (same_upd na3)).seq L2,SqL.of zB,le_line (by rw [n2',d3.length]; show 4 + 3 + 3 <= 16777216; decide),fun l3 nl3=>?_⟩⟩⟩
   obtain ⟨t3,D3,L3⟩:=stepC t2 D2 s3 d3 na3 nl3
   have n3':=D3.length
   clear d3 s3
   generalize upd (upd H3' a3 (.lst v3)) l3 (.lst (v1 ++ v2 ++ v3)) = G3 at t3 D3 L3 ⊢
   refine ⟨_,rfl,env5 (AnS.tA n) (AnS.tF n) (AnS.tL n) (AnS.tO n) (AnS.tB n),EnvD.sub (mkE _ _ t3),fun v4 H4' s4 d4=>⟨le_line (by rw [d4.length]; show 3 <= 16777216; decide),fun a4 na4=>⟨l3,a4,_,_,rfl,rfl,(s4.trans (same_upd na4)).seq L3,SqL.of zB,le_line (by rw [n3',d4.length]; show 4 + 3 + 3 + 3 <= 16777216; decide),fun l4 nl4=>?_⟩⟩⟩
   obtain ⟨t4,D4,L4⟩:=stepC t3 D3 s4 d4 na4 nl4
   have n4':=D4.length
   clear d4 s4
   generalize upd (upd H4' a4 (.lst v4)) l4 (.lst (v1 ++ v2 ++ v3 ++ v4)) = G4 at t4 D4 L4 ⊢
   refine ⟨_,rfl,env5 (AnS.tA n) (AnS.tF n) (AnS.tL n) (AnS.tO n) (AnS.tB n),EnvD.sub (mkE _ _ t4),fun v5 H5' s5 d5=>⟨le_line (by rw [d5.length]; show 3 <= 16777216; decide),fun a5 na5=>⟨l4,a5,_,_,rfl,rfl,(s5.trans (same_upd na5)).seq L4,SqL.of zB,le_line (by rw [n4',d5.length]; show 4 + 3 + 3 + 3 + 3 <= 16777216; decide),fun l5 nl5=>?_⟩⟩⟩
   obtain ⟨t5,D5,L5⟩:=stepC t4 D4 s5 d5 na5 nl5
   clear d5 s5
   generalize upd (upd H5' a5 (.lst v5)) l5 (.lst (v1 ++ v2 ++ v3 ++ v4 ++ v5)) = G5 at t5 D5 L5 ⊢
   generalize v1 ++ v2 ++ v3 ++ v4 ++ v5 = us at D5 L5
   have D5:DwAll K G5 ((AnS.tab17 n).map AnS.caseD) us:=D5
   have ul:=D5.length
   have ul:us.length = 16:=ul
   obtain ⟨i,ei⟩:=Int.eq_ofNat_of_zero_le b2.1
   have hi:i < 16:=by omega
   have gv:us[i]? = some (us[i]'(by omega)):=List.getElem?_eq_getElem _
   have D6:=DwAll.dt _ _ (by
    have:∀ l:List AnS.R17,z7 (l.map AnS.caseD) = true:=fun l=>by
     induction l with
     | nil=>rfl
     | cons r l ih =>
      show (yG (AnS.caseD r) && z7 (l.map AnS.caseD)) = true
      rw [free_case,ih]
      rfl
    exact this _) D5
   obtain ⟨dd,hd1,hd2⟩:=D6.get gv
   rw [List.getElem?_map] at hd1
   obtain ⟨row,er,ed⟩:=Option.map_eq_some_iff.mp hd1
   subst ed
   exact ⟨_,rfl,_,rfl,_,_,rfl,rfl,(by decide:(0:Int) < 16),l5,us,c % 16,_,rfl,rfl,L5,(by rw [ei]; exact yP gv),k _ n row G5 (t0.trans t5) hN (List.mem_of_getElem? er) hd2⟩
end g_case
end
end An17
namespace An17
open PySem L2 An An10 An12
seal L2.PS L2.PSs L2.PE L2.PT L2.PW L2.PA L2.PG L2.PGs L2.PI L2.PFi L2.PC
def spSides (K:PySem.W.Frag):Sp:=fun vs H Q _=>∃ (pa c:Addr) (i:Nat) (ps:List Str) (rows:List AnS.R17),vs = [.ref pa,.ref c,.int i] /\ i < 4 /\ SqL K H pa (ps.map V.str) /\ Dt K H (.list (rows.map AnS.caseD)) (.ref c) /\ Nine ps /\ rows.length <= 9 /\
 ∀ (d:Addr) (kvs:List (Key × V)) (L:List Str) H',Same H H' -> H d = none -> H' d = some (.dK kvs) -> AnS.Files K H' kvs L (AnS.colF (AnS.selA i) (ps.zip rows)) -> L.length <= 9 -> Q (.ref d) H'
def spFirst (K:PySem.W.Frag):Sp:=fun vs H Q _=>∃ (t:Addr) (p:Str) (ws:List V),vs = [.ref t] /\ SqT K H t (.str p :: ws) /\ Q (.str p) H
def rowZ (zs:List (Str × AnS.R17)) (p:Str):PyData:=AnS.rowD (AnS.colF AnS.R17.b zs) (AnS.colF AnS.R17.m zs) (AnS.colF AnS.R17.y zs) p
def spClashes (K:PySem.W.Frag):Sp:=fun vs H Q _=>∃ (pa c:Addr) (ps:List Str) (rows:List AnS.R17),vs = [.ref pa,.ref c] /\ SqL K H pa (ps.map V.str) /\ Dt K H (.list (rows.map AnS.caseD)) (.ref c) /\ Nine ps /\ rows.length <= 9 /\
 ∀ (l:Addr) (cl:List Str) (us:List V) H',Same H H' -> H l = none -> H' l = some (.lst us) -> DtAll K H' (cl.map (rowZ (ps.zip rows))) us -> cl.Pairwise leS -> cl.Nodup -> (∀ p,p ∈ cl ↔ ∃ row,AnS.rowAt (ps.zip rows) p = some row /\ row.r = none) -> cl.length <= 9 -> Q (.ref l) H'
section
variable {P:Program} {w:World} {K:PySem.W.Frag} {mg:Str -> Option Value} {base:Heap} {t1 t2:Tok}
theorem iteNo {c A B:Prop} [Decidable c] (hc:¬ c) (h:A):if (!decide c) = true then A else B:=by
 rw [decide_eq_false hc]
 exact iteT h
def ColV (K:PySem.W.Frag) (H:Hp) (o:Option (List Str)) (v:V):Prop:=(v = .non /\ o = none) \/ (v = .bl true /\ o = none) \/ ∃ ls a,o = some ls /\ v = .ref a /\ Dt K H (AnJ.tupS ls) v
theorem colv_oD {H:Hp} {o:Option (List Str)} {v:V} (h:Dt K H (AnS.oD o) v):ColV K H o v:=by
 cases o with
 | none=>exact .inl ⟨h,rfl⟩
 | some ls =>
  obtain ⟨a,xs,e,_⟩:=(show ∃ a xs,v = .ref a /\ _ from h)
  exact .inr (.inr ⟨ls,a,rfl,e,h⟩)
theorem case_open {H:Hp} {row:AnS.R17} {v:V} (h:Dt K H (AnS.caseD row) v):∃ t w0 w1 w2 w3,v = .ref t /\ SqT K H t [w0,w1,w2,w3] /\ Dt K H (AnS.oD row.b) w0 /\ Dt K H (AnS.oD row.m) w1 /\ Dt K H (AnS.oD row.y) w2 /\ Dt K H (AnS.rD row.r) w3:=by
 obtain ⟨t,ws,e,ht,w0,r0,rfl,q0,w1,r1,rfl,q1,w2,r2,rfl,q2,w3,r3,rfl,q3,q4⟩:=(show ∃ t ws,v = .ref t /\ SqT K H t ws /\ DtAll K H [AnS.oD row.b,AnS.oD row.m,AnS.oD row.y,AnS.rD row.r] ws from h)
 have q4:r3 = []:=q4
 subst q4
 exact ⟨t,w0,w1,w2,w3,e,ht,q0,q1,q2,q3⟩
theorem col_val {H:Hp} {row:AnS.R17} {w0 w1 w2 w3:V} (q0:Dt K H (AnS.oD row.b) w0) (q1:Dt K H (AnS.oD row.m) w1) (q2:Dt K H (AnS.oD row.y) w2) (q3:Dt K H (AnS.rD row.r) w3) {i:Nat} (hi:i < 4):∃ v,atI [w0,w1,w2,w3] (i:Int) = some v /\ ColV K H (AnS.selA i row) v:=by
 match i,hi with
 | 0,_=>exact ⟨w0,rfl,colv_oD q0⟩
 | 1,_=>exact ⟨w1,rfl,colv_oD q1⟩
 | 2,_=>exact ⟨w2,rfl,colv_oD q2⟩
 | 3,_ =>
  refine ⟨w3,rfl,?_⟩
  show ColV K H (AnS.selR row) w3
  unfold AnS.selR
  cases e:row.r with
  | none=>rw [e] at q3; exact .inr (.inl ⟨q3,rfl⟩)
  | some o=>rw [e] at q3; exact colv_oD q3
 | i + 4,h=>omega
theorem col_snoc {zs:List (Str × AnS.R17)} {p:Str} {row:AnS.R17} {sel:AnS.R17 -> Option (List Str)} (n:p ∉ zs.map (·.1)):AnS.colF sel (zs ++ [(p,row)]) = fun q=>if q = p then sel row else AnS.colF sel zs q:=by
 funext q
 unfold AnS.colF
 rw [AnS.rowAt_snoc n]
 by_cases z:q = p
 ·rw [if_pos z,if_pos z]; rfl
 ·rw [if_neg z,if_neg z]
theorem col_out {zs:List (Str × AnS.R17)} {p:Str} {sel:AnS.R17 -> Option (List Str)} (n:p ∉ zs.map (·.1)):AnS.colF sel zs p = none:=by
 unfold AnS.colF
 rw [AnS.rowAt_none n]
 rfl
theorem zip_keys {ps:List Str} {rows:List AnS.R17} (n:Nine ps) (h:rows.length <= 9):(ps.zip rows).map (·.1) = ps.take rows.length:=by
 have:=n.len
 refine List.ext_getElem? fun i=>?_
 rw [List.getElem?_map,List.getElem?_take]
 by_cases z:i < rows.length
 ·rw [if_pos z,List.getElem?_eq_getElem (by rw [List.length_zip]; omega),List.getElem_zip,List.getElem?_eq_getElem (by omega)]
  rfl
 ·rw [if_neg z,List.getElem?_eq_none (by rw [List.length_zip]; omega)]
  rfl
theorem zip_nd {ps:List Str} {rows:List AnS.R17} (n:Nine ps) (h:rows.length <= 9):((ps.zip rows).map (·.1)).Nodup:=by
 rw [zip_keys n h]
 exact n.nd.sublist (List.take_sublist _ _)
theorem take_out {zs:List (Str × AnS.R17)} (nd:(zs.map (·.1)).Nodup) {k:Nat} {p:Str} {row:AnS.R17} (e:zs[k]? = some (p,row)):p ∉ (zs.take k).map (·.1):=fun h=>by
 rw [List.map_take] at h
 obtain ⟨j,hj,ej⟩:=List.mem_iff_getElem.mp h
 rw [List.getElem_take] at ej
 rw [List.length_take] at hj
 have hk:k < zs.length:=(List.getElem?_eq_some_iff.mp e).1
 have ek:(zs.map (·.1))[k]'(by simpa using hk) = p:=by
  rw [List.getElem_map,(List.getElem?_eq_some_iff.mp e).2]
 have:=(List.getElem_inj nd).mp (ej.trans ek.symm)
 omega
namespace g_sides
abbrev st:Stmt:=top 25
theorem sc:FnScope ["_law_paths_here","_law_cases","_law_at","_law_found","_law_k"] ["_law_paths_here","_law_cases","_law_at"] (zE st):=⟨rfl,rfl,rfl,by decide +kernel,rfl,by decide +kernel,by decide +kernel⟩
theorem ok {f:Addr} {fd:FuncData} (F:Fun K "_law_sides" "_law_sides" st f fd) (T:Txt K mg t1 t2):FnOk P w K mg base CX0 1 f fd ["_law_paths_here","_law_cases","_law_at"] (spSides K):=by
 refine F.ok sc (fun vs H Q E h=>?_) (fun cdv A outer s H vs Q E hr h=>?_)
 ·obtain ⟨pa,c,i,ps,rows,rfl,_⟩:=h
  rfl
 ·obtain ⟨pa,c,i,ps,rows,rfl,hi,hp,⟨c',xs,e0,hc,hd⟩,nine,rl,k⟩:=h
  cases e0
  refine ⟨_,(zC (zJ (i:=3) sc.nd rfl (Or.inl rfl) jD)
   (zC (yZ PassesOwn.never rfl (xT rfl T.range (zA (zO zL (by rfl) T.len PySem.boot_len (zA (pv 1) pa_nil)) pa_nil)) (zN (i:=4) sc.nd rfl (Or.inl rfl))
    (zH (yS (PW.pt (pw_and (zQ op_notN (zM (ix_tup:IxR _ (rIxT K)) (zM (ix_list:IxR _ (rIxL K)) (pv 1) (pv 4) (fun _ _=>rfl)) (pv 2) (fun _ _=>rfl)) pe_non (zX _)) (pw_and1 (zQ op_isnotX (zM (ix_tup:IxR _ (rIxT K)) (zM (ix_list:IxR _ (rIxL K)) (pv 1) (pv 4) (fun _ _=>rfl)) (pv 2) (fun _ _=>rfl)) pe_bl (zX _)))))
     (zH (qT hr.units1 (pv 3) (zM (ix_list:IxR _ (rIxL K)) (pv 0) (pv 4) (fun _ _=>rfl)) (zM (ix_tup:IxR _ (rIxT K)) (zM (ix_list:IxR _ (rIxL K)) (pv 1) (pv 4) (fun _ _=>rfl)) (pv 2) (fun _ _=>rfl)) rfl))
     z4)))
   (zH (zW (pv 3))))),?_⟩
  have xl:=hd.length
  rw [List.length_map] at xl
  have pl:=nine.len
  have zl:(ps.zip rows).length = rows.length:=by rw [List.length_zip]; omega
  have znd:=zip_nd nine rl
  refine fun d nd=>⟨_,rfl,c,_,rfl,.inl ((same_upd nd).seq hc),_,rfl,by omega,by omega,for_range (lo:=0) (n:=((xs.length:Nat):Int).toNat) (fun j σ H2=>∃ o4,σ = [some (.ref pa),some (.ref c),some (.int i),some (.ref d),o4] /\ Same H H2 /\ ∃ kd L,H2 d = some (.dK kd) /\ AnS.Files K H2 kd L (AnS.colF (AnS.selA i) ((ps.zip rows).take j)) /\ L.length <= j)
   ⟨none,rfl,same_upd nd,[],[],zB,AnS.files_nil,Nat.le_refl _⟩ ?_ ?_⟩
  ·rintro j σ H2 hj ⟨o4,rfl,e2,kd,L,hkd,fi,ll⟩
   have hj:j < rows.length:=by omega
   have gx:xs[j]? = some (xs[j]'(by omega)):=List.getElem?_eq_getElem _
   obtain ⟨dd,hd1,hd2⟩:=hd.get gx
   generalize xs[j]'(by omega) = v at gx hd2
   rw [List.getElem?_map] at hd1
   obtain ⟨row,er,ed⟩:=Option.map_eq_some_iff.mp hd1
   subst ed
   have gp:ps[j]? = some (ps[j]'(by omega)):=List.getElem?_eq_getElem _
   generalize ps[j]'(by omega) = p at gp
   have gz:(ps.zip rows)[j]? = some (p,row):=by rw [List.getElem?_zip_eq_some]; exact ⟨gp,er⟩
   have out:=take_out znd gz
   have tk:(ps.zip rows).take (j + 1) = (ps.zip rows).take j ++ [(p,row)]:=by rw [List.take_add_one,gz]; rfl
   obtain ⟨t,w0,w1,w2,w3,rfl,ht,q0,q1,q2,q3⟩:=case_open (Dt.same e2 _ _ hd2)
   obtain ⟨u,au,cu⟩:=col_val q0 q1 q2 q3 hi
   have gx2:atI xs (0 + (j:Int)) = some (.ref t):=by rw [Int.zero_add]; exact yP gx
   have gp2:atI (ps.map V.str) (0 + (j:Int)) = some (.str p):=by
    rw [Int.zero_add]
    exact yP (by rw [List.getElem?_map,gp]; rfl)
   have kl:=fi.is.len
   have hc2:=e2.seq hc
   have hp2:=e2.seq hp
   refine ⟨_,rfl,_,rfl,c,_,_,_,rfl,rfl,hc2,gx2,_,rfl,t,_,_,_,rfl,rfl,ht,au,rfl,_,rfl,?_⟩
   have no:AnS.selA i row = none -> ∃ o4,[some (V.ref pa),some (.ref c),some (.int i),some (.ref d),some (.int (0 + (j:Int)))] = [some (.ref pa),some (.ref c),some (.int i),some (.ref d),o4] /\ Same H H2 /\ ∃ kd L,H2 d = some (.dK kd) /\ AnS.Files K H2 kd L (AnS.colF (AnS.selA i) ((ps.zip rows).take (j + 1))) /\ L.length <= j + 1:=fun z=>by
    refine ⟨_,rfl,e2,kd,L,hkd,?_,by omega⟩
    rw [tk,col_snoc out,z]
    have:(fun q=>if q = p then none else AnS.colF (AnS.selA i) ((ps.zip rows).take j) q) = AnS.colF (AnS.selA i) ((ps.zip rows).take j):=by
     funext q
     by_cases y:q = p
     ·rw [if_pos y,y,col_out out]
     ·rw [if_neg y]
    rw [this]
    exact fi
   rcases cu with ⟨rfl,z⟩ | ⟨rfl,z⟩ | ⟨ls,a,z,rfl,du⟩
   ·exact iteNS rfl (iteF (no z))
   ·exact iteNo (by decide) ⟨_,rfl,_,rfl,c,_,_,_,rfl,rfl,hc2,gx2,_,rfl,t,_,_,_,rfl,rfl,ht,au,_,rfl,.inr (.inl ⟨_,rfl⟩),_,rfl,iteNS rfl (no z)⟩
   ·refine iteNo (by simp) ⟨_,rfl,_,rfl,c,_,_,_,rfl,rfl,hc2,gx2,_,rfl,t,_,_,_,rfl,rfl,ht,au,_,rfl,.inr (.inr ⟨_,rfl⟩),_,rfl,iteNo (by simp) ?_⟩
    refine ⟨_,rfl,_,rfl,c,_,_,_,rfl,rfl,hc2,gx2,_,rfl,t,_,_,_,rfl,rfl,ht,au,_,rfl,_,rfl,_,rfl,pa,_,_,_,rfl,rfl,hp2,gp2,d,_,rfl,DPut.k (k:=.inr p) hkd (Nat.lt_of_lt_of_le (by omega:kd.length < 16777216) (le_line (Nat.le_refl _))),?_⟩
    have al:=AnS.addL_len (L:=L) p
    refine ⟨_,rfl,An.Same.updF e2 nd,_,_,zB,?_,Nat.le_trans al (by omega)⟩
    rw [tk,col_snoc out,z]
    exact (fi.put p du).mono (AnS.DS.upd hkd)
  ·rintro σ H2 ⟨o4,rfl,e2,kd,L,hkd,fi,ll⟩
   have en:((xs.length:Nat):Int).toNat = rows.length:=by omega
   rw [en,← zl,List.take_length] at fi
   exact ⟨_,rfl,k d kd L H2 e2 nd hkd fi (by omega)⟩
end g_sides
namespace g_first
abbrev st:Stmt:=top 27
theorem sc:FnScope ["_law_row"] ["_law_row"] (zE st):=⟨rfl,rfl,rfl,by decide +kernel,rfl,by decide +kernel,by decide +kernel⟩
theorem ok {f:Addr} {fd:FuncData} (F:Fun K "_law_first" "_law_first" st f fd) (T:Txt K mg t1 t2):FnOk P w K mg base CX0 1 f fd ["_law_row"] (spFirst K):=by
 refine F.ok sc (fun vs H Q E h=>?_) (fun cdv A outer s H vs Q E hr h=>?_)
 ·obtain ⟨t,p,ws,rfl,_⟩:=h
  rfl
 ·obtain ⟨t,p,ws,rfl,ht,k⟩:=h
  refine ⟨_,(zH (zW (zM (ix_tup:IxR _ (rIxT K)) (pv 0) zG (fun _ _=>rfl)))),?_⟩
  exact ⟨_,rfl,t,_,_,_,rfl,rfl,ht,yP (j:=0) rfl,k⟩
end g_first
theorem noL_oD (o:Option (List Str)):AnJ.noList (AnS.oD o) = true:=by
 cases o with
 | none=>rfl
 | some ls =>
  refine AnJ.noLists_all fun d hd=>?_
  obtain ⟨x,_,rfl⟩:=List.mem_map.mp hd
  rfl
theorem noL_rows {B M Y:Str -> Option (List Str)} (l:List Str):AnJ.noLists (l.map (AnS.rowD B M Y)) = true:=AnJ.noLists_all fun d hd=>by
 obtain ⟨p,_,rfl⟩:=List.mem_map.mp hd
 unfold AnS.rowD
 show (true && (AnJ.noList (AnS.oD (B p)) && (AnJ.noList (AnS.oD (M p)) && (AnJ.noList (AnS.oD (Y p)) && true)))) = true
 rw [noL_oD,noL_oD,noL_oD]
 rfl
def clsK (zs:List (Str × AnS.R17)):List Str:=(zs.filter fun z=>z.2.r.isNone).map (·.1)
theorem cls_mem {zs:List (Str × AnS.R17)} (nd:(zs.map (·.1)).Nodup) (p:Str):p ∈ clsK zs ↔ ∃ row,AnS.rowAt zs p = some row /\ row.r = none:=by
 unfold clsK
 rw [List.mem_map]
 constructor
 ·rintro ⟨⟨q,row⟩,h,rfl⟩
  obtain ⟨h1,h2⟩:=List.mem_filter.mp h
  exact ⟨row,AnS.rowAt_of nd h1,Option.isNone_iff_eq_none.mp h2⟩
 ·rintro ⟨row,h1,h2⟩
  exact ⟨(p,row),List.mem_filter.mpr ⟨AnS.rowAt_mem h1,Option.isNone_iff_eq_none.mpr h2⟩,rfl⟩
namespace g_clashes
abbrev st:Stmt:=top 26
theorem sc:FnScope ["_law_paths_here","_law_cases","_law_rows","_law_k"] ["_law_paths_here","_law_cases"] (zE st):=⟨rfl,rfl,rfl,by decide +kernel,rfl,by decide +kernel,by decide +kernel⟩
theorem ok {f:Addr} {fd:FuncData} (F:Fun K "_law_clashes" "_law_clashes" st f fd) (T:Txt K mg t1 t2) (C__law_first:Cal P w K mg base 1 "_law_first" ["_law_row"] (spFirst K)):FnOk P w K mg base CX0 4 f fd ["_law_paths_here","_law_cases"] (spClashes K):=by
 refine F.ok sc (fun vs H Q E h=>?_) (fun cdv A outer s H vs Q E hr h=>?_)
 ·obtain ⟨pa,c,ps,rows,rfl,_⟩:=h
  rfl
 ·obtain ⟨pa,c,ps,rows,rfl,hp,⟨c',xs,e0,hc,hd⟩,nine,rl,k⟩:=h
  cases e0
  refine ⟨_,(zC (zJ (i:=2) sc.nd rfl (Or.inl rfl) (zZ pa_nil))
   (zC (yZ PassesOwn.never rfl (xT rfl T.range (zA (zO zL (by rfl) T.len PySem.boot_len (zA (pv 1) pa_nil)) pa_nil)) (zN (i:=3) sc.nd rfl (Or.inl rfl))
    (zH (yS (zQ op_isX (zM (ix_tup:IxR _ (rIxT K)) (zM (ix_list:IxR _ (rIxL K)) (pv 1) (pv 3) (fun _ _=>rfl)) zG (fun _ _=>rfl)) pe_bl (zX _))
     (zH (z3 (xL PySem.F.plainAttrs_list PySem.F.slot_list_append PySem.F.type_list_append yE (pv 2) (zA (yC (zA (zM (ix_list:IxR _ (rIxL K)) (pv 0) (pv 3) (fun _ _=>rfl)) (zA (zM (ix_tup:IxR _ (rIxT K)) (zM (ix_list:IxR _ (rIxL K)) (pv 1) (pv 3) (fun _ _=>rfl)) zG (fun _ _=>rfl)) (zA (zM (ix_tup:IxR _ (rIxT K)) (zM (ix_list:IxR _ (rIxL K)) (pv 1) (pv 3) (fun _ _=>rfl)) zG (fun _ _=>rfl)) (zA (zM (ix_tup:IxR _ (rIxT K)) (zM (ix_list:IxR _ (rIxL K)) (pv 1) (pv 3) (fun _ _=>rfl)) zG (fun _ _=>rfl)) pa_nil))))) pa_nil))))
     z4)))
   (zH (zW (pe_sortK C__law_first (hr.mono (by decide)) T.sorted (pv 2)))))),?_⟩
  have xl:=hd.length
  rw [List.length_map] at xl
  have pl:=nine.len
  have zl:(ps.zip rows).length = rows.length:=by rw [List.length_zip]; omega
  have znd:=zip_nd nine rl
  generalize ez:ps.zip rows = zs at zl znd k
  refine ⟨Nat.zero_le _,fun r nr=>⟨_,rfl,c,_,rfl,.inl ((same_upd nr).seq hc),_,rfl,by omega,by omega,for_range (lo:=0) (n:=((xs.length:Nat):Int).toNat) (fun j σ H2=>∃ o4,σ = [some (.ref pa),some (.ref c),some (.ref r),o4] /\ Same H H2 /\ ∃ us,H2 r = some (.lst us) /\ DtAll K H2 ((clsK (zs.take j)).map (rowZ zs)) us)
   ⟨none,rfl,same_upd nr,[],zB,rfl⟩ ?_ ?_⟩⟩
  ·rintro j σ H2 hj ⟨o4,rfl,e2,us,hr2,du⟩
   have hj:j < rows.length:=by omega
   have gx:xs[j]? = some (xs[j]'(by omega)):=List.getElem?_eq_getElem _
   obtain ⟨dd,hd1,hd2⟩:=hd.get gx
   generalize xs[j]'(by omega) = v at gx hd2
   rw [List.getElem?_map] at hd1
   obtain ⟨row,er,ed⟩:=Option.map_eq_some_iff.mp hd1
   subst ed
   have gp:ps[j]? = some (ps[j]'(by omega)):=List.getElem?_eq_getElem _
   generalize ps[j]'(by omega) = p at gp
   have gz:zs[j]? = some (p,row):=by rw [← ez,List.getElem?_zip_eq_some]; exact ⟨gp,er⟩
   have tk:zs.take (j + 1) = zs.take j ++ [(p,row)]:=by rw [List.take_add_one,gz]; rfl
   obtain ⟨t,w0,w1,w2,w3,rfl,ht,q0,q1,q2,q3⟩:=case_open (Dt.same e2 _ _ hd2)
   have gx2:atI xs (0 + (j:Int)) = some (.ref t):=by rw [Int.zero_add]; exact yP gx
   have gp2:atI (ps.map V.str) (0 + (j:Int)) = some (.str p):=by
    rw [Int.zero_add]
    exact yP (by rw [List.getElem?_map,gp]; rfl)
   have hc2:=e2.seq hc
   have hp2:=e2.seq hp
   have ul:=du.length
   have ul2:(clsK (zs.take j)).length <= j:=by
    unfold clsK
    rw [List.length_map]
    exact Nat.le_trans (List.length_filter_le _ _) (by rw [List.length_take]; exact Nat.min_le_left _ _)
   rw [List.length_map] at ul
   cases e:row.r with
   | some o =>
    rw [e] at q3
    have ne:w3 ≠ .bl true /\ Pln w3:=by
     cases o with
     | none=>rw [show w3 = .non from q3]; exact ⟨by decide,.inl rfl⟩
     | some ls =>
      obtain ⟨a,ys,e',_⟩:=(show ∃ a ys,w3 = .ref a /\ _ from q3)
      rw [e']
      exact ⟨fun z=>(nomatch z),.inr (.inr ⟨_,rfl⟩)⟩
    refine ⟨_,rfl,_,rfl,c,_,_,_,rfl,rfl,hc2,gx2,t,_,_,_,rfl,rfl,ht,rfl,_,rfl,ne.2,_,rfl,iteN ne.1 ⟨_,rfl,e2,us,hr2,?_⟩⟩
    have:clsK (zs.take (j + 1)) = clsK (zs.take j):=by
     rw [tk]
     unfold clsK
     rw [List.filter_append,List.map_append,List.filter_cons,if_neg (by rw [e]; exact Bool.false_ne_true)]
     exact List.append_nil _
    rw [this]
    exact du
   | none =>
    rw [e] at q3
    have q3:w3 = .bl true:=q3
    subst q3
    refine ⟨_,rfl,_,rfl,c,_,_,_,rfl,rfl,hc2,gx2,t,_,_,_,rfl,rfl,ht,rfl,_,rfl,.inr (.inl ⟨_,rfl⟩),_,rfl,iteY (by decide) ?_⟩
    refine ⟨_,rfl,.inl ⟨rfl,_,SqL.of hr2⟩,_,rfl,_,rfl,pa,_,_,_,rfl,rfl,hp2,gp2,_,rfl,_,rfl,c,_,_,_,rfl,rfl,hc2,gx2,t,_,_,_,rfl,rfl,ht,rfl,_,rfl,_,rfl,c,_,_,_,rfl,rfl,hc2,gx2,t,_,_,_,rfl,rfl,ht,rfl,_,rfl,_,rfl,c,_,_,_,rfl,rfl,hc2,gx2,t,_,_,_,rfl,rfl,ht,rfl,lineN 4,fun q nq=>?_⟩
    have u:=same_upd (o:=.tup [.str p,w0,w1,w2]) nq
    have ts:TSame (upd H2 q (.tup [.str p,w0,w1,w2])) (upd (upd H2 q (.tup [.str p,w0,w1,w2])) r (.lst (us ++ [.ref q]))):=TSame.upd (u _ _ hr2)
    refine ⟨r,_,_,rfl,rfl,u _ _ hr2,Nat.lt_of_lt_of_le (by omega:us.length < 16777216) (le_line (Nat.le_refl _)),_,rfl,An.Same.updF (e2.trans u) nr,us ++ [.ref q],zB,?_⟩
    have ec:clsK (zs.take (j + 1)) = clsK (zs.take j) ++ [p]:=by
     rw [tk]
     unfold clsK
     rw [List.filter_append,List.map_append,List.filter_cons,if_pos (by rw [e]; rfl)]
     rfl
    have ea:AnS.rowAt zs p = some row:=AnS.rowAt_of znd (List.mem_of_getElem? gz)
    have c0:∀ sel:AnS.R17 -> Option (List Str),AnS.colF sel zs p = sel row:=fun sel=>by unfold AnS.colF; rw [ea]; rfl
    rw [ec,List.map_append]
    refine AnJ.DtAll.ts ts _ _ ?_ (DtAll.append (DtAll.same u _ _ du) ⟨_,_,rfl,?_,rfl⟩)
    ·have:=noL_rows (B:=AnS.colF AnS.R17.b zs) (M:=AnS.colF AnS.R17.m zs) (Y:=AnS.colF AnS.R17.y zs) (clsK (zs.take j) ++ [p])
     rw [List.map_append] at this
     exact this
    ·show Dt K _ (rowZ zs p) (.ref q)
     unfold rowZ AnS.rowD
     rw [c0,c0,c0]
     exact ⟨q,_,rfl,SqT.of zB,_,_,rfl,rfl,_,_,rfl,Dt.same u _ _ q0,_,_,rfl,Dt.same u _ _ q1,_,_,rfl,Dt.same u _ _ q2,rfl⟩
  ·rintro σ H2 ⟨o4,rfl,e2,us,hr2,du⟩
   have en:((xs.length:Nat):Int).toNat = zs.length:=by omega
   rw [en,List.take_length] at du
   have ul:=du.length
   rw [List.length_map] at ul
   have cn:(clsK zs).length <= 9:=by
    unfold clsK
    rw [List.length_map]
    exact Nat.le_trans (List.length_filter_le _ _) (by omega)
   have cnd:(clsK zs).Nodup:=(znd.sublist (List.Sublist.map _ (List.filter_sublist)))
   refine ⟨_,rfl,r,us,clsK zs,rfl,SqL.of hr2,by omega,ul.symm,fun i v x hv hx H3 s3=>?_,fun l H3 p s3 nl pp pw hl=>?_⟩
   ·obtain ⟨dd,hd1,hd2⟩:=du.get hv
    rw [List.getElem?_map,hx] at hd1
    have hd1:=Option.some.inj hd1
    subst hd1
    obtain ⟨t,ws,rfl,ht,w0,r0,rfl,q0,_⟩:=(show ∃ t ws,v = .ref t /\ SqT K H2 t ws /\ ∃ w0 r0,ws = w0 :: r0 /\ Dt K H2 (.str x) w0 /\ _ from hd2)
    have q0:w0 = .str x:=q0
    subst q0
    exact ⟨t,x,r0,rfl,s3.tupS ht,rfl,rfl⟩
   ·have pm:∀ i ∈ p,i < us.length:=fun i hi=>List.mem_range.mp (pp.mem_iff.mp hi)
    have dp:=DtAll.same s3 _ _ (dt_pick du p pm)
    have ed:(p.map fun i=>((clsK zs).map (rowZ zs)).getD i PyData.none) = (p.map fun i=>(clsK zs).getD i "").map (rowZ zs):=by
     rw [List.map_map]
     refine List.map_congr_left fun i hi=>?_
     have hi:=pm i hi
     show ((clsK zs).map (rowZ zs)).getD i PyData.none = rowZ zs ((clsK zs).getD i "")
     rw [List.getD_eq_getElem?_getD,List.getD_eq_getElem?_getD,List.getElem?_map,List.getElem?_eq_getElem (by omega)]
     rfl
    rw [ed] at dp
    have pc:(p.map fun i=>(clsK zs).getD i "").Perm (clsK zs):=by
     have:=pp.map fun i=>(clsK zs).getD i ""
     rw [ul,pick_all] at this
     exact this
    refine k l _ _ H3 (e2.trans s3) (e2.free nl) hl dp pw (pc.nodup_iff.mpr cnd) (fun q=>by rw [pc.mem_iff,cls_mem znd]) ?_
    rw [pc.length_eq]
    exact cn
end g_clashes
end
end An17
namespace An17
open PySem L2 An An10 An12
seal L2.PS L2.PSs L2.PE L2.PT L2.PW L2.PA L2.PG L2.PGs L2.PI L2.PFi L2.PC
structure IsAt (K:PySem.W.Frag) (H:Hp) (t fa ca:Addr) (kf kr:List (Key × V)) (L LR cl:List Str) (g B M Y:Str -> Option (List Str)) (af ac:Addr) (zs us:List V):Prop where
 ht:H t = some (.tup [.ref af,.ref ac])
 hf:H af = some (.dK kf)
 df:AnS.DictIs K H kf L (fun p=>AnS.oD (g p))
 hr:H fa = some (.dK kr)
 dr:AnS.DictIs K H kr LR (fun p=>AnS.oD (g p))
 mem:∀ p,p ∈ L ↔ p ∈ LR
 ism:∀ p ∈ L,(g p).isSome = true
 okg:∀ p,AnS.okO (g p)
 hc:H ac = some (.lst zs)
 dc:DtAll K H (cl.map (AnS.rowD B M Y)) zs
 hd:SqL K H ca us
 dd:DtAll K H (cl.map (AnS.rowD B M Y)) us
 ok:∀ p,AnS.okO (B p) /\ AnS.okO (M p) /\ AnS.okO (Y p)
 op:∀ p ∈ cl,PyData.strOk p = true
 ne:af ≠ fa
 l1:L.length <= 1000
 l2:cl.length <= 1000
def spIs (K:PySem.W.Frag):Sp:=fun vs H Q _=>∃ (t fa ca:Addr) (kf kr:List (Key × V)) (L LR cl:List Str) (g B M Y:Str -> Option (List Str)) (af ac:Addr) (zs us:List V),vs = [.ref t,.ref fa,.ref ca] /\ IsAt K H t fa ca kf kr L LR cl g B M Y af ac zs us /\ ∀ H',Same H H' -> Q (.bl true) H'
theorem getsome {H:Hp} {a:Addr} {ob:Obj} {kvs:List (Key × V)} {k:Key} {v:V} (e:H a = some (.frz ob (.dK kvs))) (h:valV kvs k = some v):DGet H a (kV k) (some v):=by
 have:=get_frz (k:=k) e
 rw [h] at this
 exact this
section
variable {P:Program} {w:World} {K:PySem.W.Frag} {mg:Str -> Option Value} {base:Heap} {t1 t2:Tok}
namespace g_is
abbrev st:Stmt:=top 28
theorem sc:FnScope ["_law_found","_law_files","_law_clashes_here","_law_row","_law_path"] ["_law_found","_law_files","_law_clashes_here"] (zE st):=⟨rfl,rfl,rfl,by decide +kernel,rfl,by decide +kernel,by decide +kernel⟩
theorem ok {f:Addr} {fd:FuncData} (F:Fun K "_law_is" "_law_is" st f fd) (T:Txt K mg t1 t2):FnOk P w K mg base CX0 1 f fd ["_law_found","_law_files","_law_clashes_here"] (spIs K):=by
 refine F.ok sc (fun vs H Q E h=>?_) (fun cdv A outer s H vs Q E hr h=>?_)
 ·obtain ⟨t,fa,ca,kf,kr,L,LR,cl,g,B,M,Y,af,ac,zs,us,rfl,_⟩:=h
  rfl
 ·obtain ⟨t,fa,ca,kf,kr,L,LR,cl,g,B,M,Y,af,ac,zs,us,rfl,i,k⟩:=h
  refine ⟨_,(zC (yS (PW.pt (pw_or (jB (yU (K:=K) (zO (yR (K:=K)) (by rfl) T.isinstance PyProof.Rows.boot_isinstance (zA (pv 0) (zA (jI (v:=.ty "tuple") rfl T.tuple PyProof.Rows.boot_tuple rfl) pa_nil))) (fun _=>rfl))) (jF (zQ op_ne (zO zL (by rfl) T.len PySem.boot_len (zA (pv 0) pa_nil)) zG (zX _)))))
    (zH (zW (qQ pe_bl)))
    z4)
   (zC (yS (PW.pt (pw_or (jB (yU (K:=K) (zO (yR (K:=K)) (by rfl) T.isinstance PyProof.Rows.boot_isinstance (zA (zM (ix_tup:IxR _ (rIxT K)) (pv 0) zG (fun _ _=>rfl)) (zA (jI (v:=.ty "dict") rfl T.dict PyProof.Rows.boot_dict rfl) pa_nil))) (fun _=>rfl))) (jF (jB (yU (K:=K) (zO (yR (K:=K)) (by rfl) T.isinstance PyProof.Rows.boot_isinstance (zA (zM (ix_tup:IxR _ (rIxT K)) (pv 0) zG (fun _ _=>rfl)) (zA (jI (v:=.ty "list") rfl T.list PyProof.Rows.boot_list rfl) pa_nil))) (fun _=>rfl))))))
    (zH (zW (qQ pe_bl)))
    z4)
   (zC (yZ PassesOwn.never rfl (yN (zM (ix_tup:IxR _ (rIxT K)) (pv 0) zG (fun _ _=>rfl))) (zN (i:=3) sc.nd rfl (Or.inl rfl))
    (zH (yS (jB (yU (K:=K) (zO (yR (K:=K)) (by rfl) T.isinstance PyProof.Rows.boot_isinstance (zA (pv 3) (zA (jI (v:=.ty "tuple") rfl T.tuple PyProof.Rows.boot_tuple rfl) pa_nil))) (fun _=>rfl)))
     (zH (zW (qQ pe_bl)))
     z4)))
   (zC (yZ PassesOwn.never rfl (pi_keys (pe_frz (zM (ix_tup:IxR _ (rIxT K)) (pv 0) zG (fun _ _=>rfl)))) (zN (i:=4) sc.nd rfl (Or.inl rfl))
    (zH (yS (jB (yU (K:=K) (zO (yR (K:=K)) (by rfl) T.isinstance PyProof.Rows.boot_isinstance (zA (pe_dget hr.units1 (zM (ix_tup:IxR _ (rIxT K)) (pv 0) zG (fun _ _=>rfl)) (pv 4) (fun _ _=>rfl)) (zA (jI (v:=.ty "tuple") rfl T.tuple PyProof.Rows.boot_tuple rfl) pa_nil))) (fun _=>rfl)))
     (zH (zW (qQ pe_bl)))
     z4)))
   (zH (zW (qQ (pe_and (pe_cmpR (op_eqT hr.units128) (zM (ix_tup:IxR _ (rIxT K)) (pv 0) zG (fun _ _=>rfl)) (pv 1) (zX _)) (pe_one (pe_cmpR (op_eqD hr.units) (zM (ix_tup:IxR _ (rIxT K)) (pv 0) zG (fun _ _=>rfl)) (pv 2) (zX _))))))))))),?_⟩
  have kt:PySem.W.kitOne K (.type "tuple") (.type "tuple") = some true:=by simpa using T.kit "tuple" (by simp [kinds]) "tuple" (by simp [kinds])
  have kd:PySem.W.kitOne K (.type "dict") (.type "dict") = some true:=by simpa using T.kit "dict" (by simp [kinds]) "dict" (by simp [kinds])
  have kl:PySem.W.kitOne K (.type "list") (.type "list") = some true:=by simpa using T.kit "list" (by simp [kinds]) "list" (by simp [kinds])
  have st:=SqT.of (K:=K) i.ht
  have dwD:Dw K H (.dict []) (.ref af):=⟨af,kf,rfl,i.hf⟩
  have dwL:Dw K H (.list (cl.map (AnS.rowD B M Y))) (.ref ac):=⟨ac,zs,rfl,SqL.of i.hc,DtAll.dw i.dc⟩
  have dwT:Dw K H (.tuple [.dict [],.list (cl.map (AnS.rowD B M Y))]) (.ref t):=⟨t,_,rfl,st,_,_,rfl,dwD,_,_,rfl,dwL,rfl⟩
  refine ⟨_,rfl,_,_,.tuple [.dict [],.list (cl.map (AnS.rowD B M Y))],true,rfl,dwT,kt,_,rfl,iteNF ⟨_,rfl,t,_,rfl,.inr st,rfl,_,rfl,iteNS rfl ?_⟩⟩
  refine ⟨_,rfl,t,_,_,_,rfl,rfl,st,rfl,_,_,.dict [],true,rfl,dwD,kd,_,rfl,iteNF ⟨_,rfl,t,_,_,_,rfl,rfl,st,rfl,_,_,.list (cl.map (AnS.rowD B M Y)),true,rfl,dwL,kl,_,rfl,iteNF ?_⟩⟩
  have zl:=i.dc.length
  have ul:=i.dd.length
  rw [List.length_map] at zl ul
  refine ⟨_,rfl,t,_,_,_,rfl,rfl,st,rfl,ac,rfl,⟨_,SqL.of i.hc⟩,y9 (K:=K) (a:=ac) (xs:=zs) (fun j σ H2=>∃ o3,σ = [some (.ref t),some (.ref fa),some (.ref ca),o3,none] /\ H2 = H) ⟨none,rfl,rfl⟩ (fun j σ H2 _ ⟨_,_,e⟩=>by rw [e]; exact SqL.of i.hc) ?_ ?_⟩
  ·rintro j x σ H2 hx ⟨o3,rfl,rfl⟩
   obtain ⟨dd,hd1,hd2⟩:=i.dc.get hx
   rw [List.getElem?_map] at hd1
   obtain ⟨p,_,ed⟩:=Option.map_eq_some_iff.mp hd1
   subst ed
   exact ⟨_,rfl,_,_,AnS.rowD B M Y p,true,rfl,Dt.dw hd2,kt,_,rfl,iteNF ⟨_,rfl,rfl⟩⟩
  rintro σ H2 ⟨o3,rfl,rfl⟩
  refine ⟨_,rfl,t,_,_,_,rfl,rfl,st,rfl,af,kf,rfl,i.hf,fun ob=>⟨af,ob,kf,rfl,zB,?_⟩⟩
  have tne:t ≠ af:=fun z=>by have:=i.ht; rw [z,i.hf] at this; cases this
  have cne:ac ≠ af:=fun z=>by have:=i.hc; rw [z,i.hf] at this; cases this
  have ds:=AnS.DS.upd (o:=.frz ob (.dK kf)) i.hf
  have df2:=i.df.mono ds
  have st2:SqT K (upd H2 af (.frz ob (.dK kf))) t [.ref af,.ref ac]:=ds.sqT st
  have sf2:upd H2 af (.frz ob (.dK kf)) af = some (.frz ob (.dK kf)):=zB
  have dr2:=i.dr.mono ds
  have hr2:upd H2 af (.frz ob (.dK kf)) fa = some (.dK kr):=by rw [zD (Ne.symm i.ne)]; exact i.hr
  have hc2:SqL K (upd H2 af (.frz ob (.dK kf))) ac zs:=ds.sqL (SqL.of i.hc)
  have dc2:=AnS.DS.dts ds _ _ i.dc
  have hd2:=ds.sqL i.hd
  have dd2:=AnS.DS.dts ds _ _ i.dd
  have back:Same H2 (upd (upd H2 af (.frz ob (.dK kf))) af (.dK kf)):=fun b o hb=>by
   by_cases z:b = af
   ·subst z
    rw [zB,← i.hf]
    exact hb
   ·rw [zD z,zD z]
    exact hb
  refine for_keys (fun j σ H3=>∃ o4,σ = [some (.ref t),some (.ref fa),some (.ref ca),o3,o4] /\ H3 = upd H2 af (.frz ob (.dK kf))) ⟨none,rfl,rfl⟩ (fun j σ H3 _ ⟨_,_,e⟩=>by rw [e]; exact sf2) ?_ ?_
  ·rintro j ky v σ H3 hj ⟨o4,rfl,rfl⟩
   obtain ⟨hx,ek⟩:=df2.at hj
   have hm:=List.mem_of_getElem? hj
   obtain ⟨ek',hL,hdv⟩:=df2.pair hm
   have hv:=AnS.valV_at df2.nodup hm
   have hs:=i.ism _ hL
   obtain ⟨ls,els⟩:=Option.isSome_iff_exists.mp hs
   rw [els] at hdv
   have ek:ky = .inr (keyS (ky,v)):=ek
   have gv:DGet (upd H2 af (.frz ob (.dK kf))) af (kV ky) (some v):=getsome sf2 hv
   exact ⟨_,rfl,t,_,_,_,rfl,rfl,st2,rfl,_,rfl,af,_,rfl,gv,_,_,AnS.oD (some ls),true,rfl,Dt.dw hdv,kt,_,rfl,iteNF ⟨_,rfl,rfl⟩⟩
  ·rintro σ H3 ⟨o4,rfl,rfl⟩
   have e1:EqT K 100 (upd H2 af (.frz ob (.dK kf))) (.ref af) (.ref fa):=(EqT.dic (.inr ⟨ob,sf2⟩) (.inl hr2) (by rw [df2.len,dr2.len]; exact AnS.len_same df2.nd dr2.nd i.mem) (df2.vals3 dr2 (fun p hp=>(i.mem p).mp hp) (fun p _=>AnS.shaped_oD (i.okg p)) fun p _=>by rw [AnS.eqv_oD,decide_eq_true rfl])).more (by decide)
   have sh:SeqAt.shaped (.list (cl.map (AnS.rowD B M Y))) = true:=AnJ.shaped_list (n:=2) (by decide) fun p hp=>AnS.lay_row (i.ok p).1 (i.ok p).2.1 (i.ok p).2.2 (i.op p hp)
   refine ⟨_,rfl,t,_,_,_,rfl,rfl,st2,rfl,_,rfl,e1,true,rfl,iteT ⟨_,rfl,t,_,_,_,rfl,rfl,st2,rfl,_,rfl,.list (cl.map (AnS.rowD B M Y)),.list (cl.map (AnS.rowD B M Y)),⟨ac,zs,rfl,hc2,dc2⟩,⟨ca,us,rfl,hd2,dd2⟩,sh,sh,?_⟩⟩
   have ev:PyData.eqv (.list (cl.map (AnS.rowD B M Y))) (.list (cl.map (AnS.rowD B M Y))) = true:=AnS.eqv_rows2 B M Y cl
   rw [ev]
   exact ⟨af,ob,kf,sf2,fun o u (z:H2 af = some (.frz o u))=>(by rw [i.hf] at z; cases z),k _ back⟩
end g_is
end
end An17
namespace An17
open PySem L2 An An10 An12
seal L2.PS L2.PSs L2.PE L2.PT L2.PW L2.PA L2.PG L2.PGs L2.PI L2.PFi L2.PC
def spLaw (K:PySem.W.Frag):Sp:=fun vs H Q _=>∃ (a:Addr) (ns:List Int),vs = [.ref a] /\ SqL K H a (ns.map V.int) /\ ∀ H',Q (.bl true) H'
abbrev cB (zs:List (Str × AnS.R17)):=AnS.colF AnS.R17.b zs
abbrev cM (zs:List (Str × AnS.R17)):=AnS.colF AnS.R17.m zs
abbrev cY (zs:List (Str × AnS.R17)):=AnS.colF AnS.R17.y zs
structure Bed (K:PySem.W.Frag) (H:Hp) (hl sl h0 h1 h2 d0 d1 d2 fa ca:Addr) (kb km ky kr:List (Key × V)) (LB LM LY LR cl:List Str) (zs:List (Str × AnS.R17)) (us:List V):Prop where
 hhl:H hl = some (.lst [.ref h0,.ref h1,.ref h2])
 hsl:H sl = some (.lst [.ref d0,.ref d1,.ref d2])
 hh0:H h0 = some (.dK kb)
 hh1:H h1 = some (.dK km)
 hh2:H h2 = some (.dK ky)
 hd0:H d0 = some (.dK kb)
 hd1:H d1 = some (.dK km)
 hd2:H d2 = some (.dK ky)
 hfa:H fa = some (.dK kr)
 hca:H ca = some (.lst us)
 fb:AnS.Files K H kb LB (cB zs)
 fm:AnS.Files K H km LM (cM zs)
 fy:AnS.Files K H ky LY (cY zs)
 fr:AnS.Files K H kr LR (AnS.colF AnS.selR zs)
 dd:DtAll K H (cl.map (AnS.rowD (cB zs) (cM zs) (cY zs))) us
 due:AnS.Due LB LM LY LR cl zs
 len:LB.length + LM.length + LY.length < 60
 cln:cl.length <= 9
section
variable {K:PySem.W.Frag} {H H':Hp} {hl sl h0 h1 h2 d0 d1 d2 fa ca:Addr} {kb km ky kr:List (Key × V)} {LB LM LY LR cl:List Str} {zs:List (Str × AnS.R17)} {us:List V}
theorem Bed.same (b:Bed K H hl sl h0 h1 h2 d0 d1 d2 fa ca kb km ky kr LB LM LY LR cl zs us) (e:Same H H'):Bed K H' hl sl h0 h1 h2 d0 d1 d2 fa ca kb km ky kr LB LM LY LR cl zs us :=
 ⟨e _ _ b.hhl,e _ _ b.hsl,e _ _ b.hh0,e _ _ b.hh1,e _ _ b.hh2,e _ _ b.hd0,e _ _ b.hd1,e _ _ b.hd2,e _ _ b.hfa,e _ _ b.hca,b.fb.same e,b.fm.same e,b.fy.same e,b.fr.same e,DtAll.same e _ _ b.dd,b.due,b.len,b.cln⟩
theorem Bed.path (b:Bed K H hl sl h0 h1 h2 d0 d1 d2 fa ca kb km ky kr LB LM LY LR cl zs us) (p:Str) (h:p ∈ LB \/ p ∈ LM \/ p ∈ LY):p.length <= 1000 /\ PyData.strOk p = true:=by
 rcases h with h | h | h
 ·obtain ⟨row,_,e,_⟩:=AnS.col_mem ((b.due.lb p).mp h); exact b.due.z.path _ e
 ·obtain ⟨row,_,e,_⟩:=AnS.col_mem ((b.due.lm p).mp h); exact b.due.z.path _ e
 ·obtain ⟨row,_,e,_⟩:=AnS.col_mem ((b.due.ly p).mp h); exact b.due.z.path _ e
theorem Bed.three (b:Bed K H hl sl h0 h1 h2 d0 d1 d2 fa ca kb km ky kr LB LM LY LR cl zs us):AnS.Three K H kb km ky LB LM LY (cB zs) (cM zs) (cY zs) :=
 ⟨b.fb,b.fm,b.fy,b.len,b.path,fun p=>⟨(b.due.z.ok p).1,(b.due.z.ok p).2.1,(b.due.z.ok p).2.2.1⟩⟩
theorem Bed.isAt (b:Bed K H hl sl h0 h1 h2 d0 d1 d2 fa ca kb km ky kr LB LM LY LR cl zs us) (s:Same H H') {t af ac ca':Addr} {ss:List Str} {kf:List (Key × V)} {ws us':List V} {M' Y':Str -> Option (List Str)} (un:AnS.Uni LB LM LY ss) (naf:H af = none)
  (ht:H' t = some (.tup [.ref af,.ref ac])) (hf:H' af = some (.dK kf)) (df:AnS.DictIs K H' kf (AnS.LF ss (AnS.j17 zs)) (AnS.gF (AnS.j17 zs))) (hc:H' ac = some (.lst ws)) (dc:DtAll K H' ((AnS.LC ss (AnS.j17 zs)).map (AnS.rowD (cB zs) M' Y')) ws)
  (hd:SqL K H' ca' us') (dd:DtAll K H' (cl.map (AnS.rowD (cB zs) M' Y')) us') (ok:∀ p,AnS.okO (cB zs p) /\ AnS.okO (M' p) /\ AnS.okO (Y' p)) :
  IsAt K H' t fa ca' kf kr (AnS.LF ss (AnS.j17 zs)) LR cl (AnS.colF AnS.selR zs) (cB zs) M' Y' af ac ws us':=by
 have b':=b.same s
 have z:=b.due.z
 have dl:(AnS.LF ss (AnS.j17 zs)).length <= 1000:=by
  have e:=AnS.len_same df.nd b'.fr.is.nd (b.due.files un)
  have:LR.length <= zs.length:=by
   have:=AnS.len_sub b.fr.is.nd z.nd fun p hp=>by
    obtain ⟨row,_,e,_⟩:=AnS.col_mem ((b.due.lr p).mp hp)
    exact List.mem_map.mpr ⟨_,e,rfl⟩
   rw [List.length_map] at this
   exact this
  have:=z.len
  omega
 have cn:=b.cln
 refine ⟨ht,hf,df.cong fun p _=>?_,b'.hfa,b'.fr.is,b.due.files un,fun p hp=>(b.due.lr p).mp ((b.due.files un p).mp hp),fun p=>(z.ok p).2.2.2,hc,?_,hd,dd,ok,fun p hp=>?_,fun e=>?_,dl,by omega⟩
 ·unfold AnS.gF
  rw [AnS.j17_get]
 ·rw [b.due.clashes un] at dc
  exact dc
 ·obtain ⟨row,e,_⟩:=(b.due.lc p).mp hp
  exact (z.path _ (AnS.rowAt_mem e)).2
 ·rw [e,b.hfa] at naf
  cases naf
theorem files_eqO {a b:Addr} {kvs:List (Key × V)} {L:List Str} {F:Str -> Option (List Str)} (ha:H a = some (.dK kvs)) (hb:H b = some (.dK kvs)) (f:AnS.Files K H kvs L F) (s:∀ p,AnS.okO (F p)):EqT K 65 H (.ref a) (.ref b) :=
 EqT.dic (.inl ha) (.inl hb) rfl (f.is.vals2 f.is (fun p _=>AnS.shaped_oD (s p)) fun p _=>by rw [AnS.eqv_oD,decide_eq_true rfl])
theorem Bed.eq (b:Bed K H hl sl h0 h1 h2 d0 d1 d2 fa ca kb km ky kr LB LM LY LR cl zs us):EqT K 100 H (.ref hl) (.ref sl):=by
 have z:=b.due.z
 refine (EqT.lst (n:=65) (SqL.of b.hhl) (SqL.of b.hsl) rfl fun i x y hx hy=>?_).more (by decide)
 match i,hx,hy with
 | 0,hx,hy=>cases hx; cases hy; exact files_eqO b.hh0 b.hd0 b.fb fun p=>(z.ok p).1
 | 1,hx,hy=>cases hx; cases hy; exact files_eqO b.hh1 b.hd1 b.fm fun p=>(z.ok p).2.1
 | 2,hx,hy=>cases hx; cases hy; exact files_eqO b.hh2 b.hd2 b.fy fun p=>(z.ok p).2.2.1
 | i + 3,hx,hy=>cases hx
theorem z17_of {ps:List Str} {rows:List AnS.R17} (n:Nine ps) (rl:rows.length <= 9) (hr:∀ row ∈ rows,∃ n,AnS.N17 n /\ row ∈ AnS.tab17 n):AnS.Z17 (ps.zip rows):=by
 have pl:=n.len
 have m1:∀ z ∈ ps.zip rows,z.1 ∈ ps /\ z.2 ∈ rows:=fun z hz=>List.of_mem_zip (a:=z.1) (b:=z.2) hz
 exact ⟨zip_nd n rl,fun z hz=>hr _ (m1 z hz).2,by rw [List.length_zip]; omega,fun z hz=>n.ok _ (m1 z hz).1,fun z hz u hu=>n.even _ (m1 z hz).1 _ (m1 u hu).1⟩
end
section
variable {P:Program} {w:World} {K:PySem.W.Frag} {mg:Str -> Option Value} {base:Heap} {t1 t2:Tok}
namespace g_law
abbrev st:Stmt:=top 29
theorem sc:FnScope ["_law_script","_law_paths_here","_law_cases","_law_sides_here","_law_files","_law_clashes_here","_law_handed","_law_found","_law_swapped"] ["_law_script"] (zE st):=⟨rfl,rfl,rfl,by decide +kernel,rfl,by decide +kernel,by decide +kernel⟩
theorem ok {f:Addr} {fd:FuncData} (F:Fun K "law" "law" st f fd) (T:Txt K mg t1 t2) (C__law_cell_at:Cal P w K mg base 1 "_law_cell_at" ["_law_script","_law_k"] (spCell K)) (C__law_paths:Cal P w K mg base 1 "_law_paths" ["_law_cell"] spPaths) (C__law_case:Cal P w K mg base 1 "_law_case" ["_law_cell"] (spCase K)) (C__law_sides:Cal P w K mg base 1 "_law_sides" ["_law_paths_here","_law_cases","_law_at"] (spSides K)) (C__law_clashes:Cal P w K mg base 4 "_law_clashes" ["_law_paths_here","_law_cases"] (spClashes K)) (C_joined_files:Cal P w K mg base 9 "joined_files" ["base","mine","yours"] (AnS.spFilesN K)) (C__law_is:Cal P w K mg base 1 "_law_is" ["_law_found","_law_files","_law_clashes_here"] (spIs K)):FnOk P w K mg base CX0 10 f fd ["_law_script"] (spLaw K):=by
 refine F.ok sc (fun vs H Q E h=>?_) (fun cdv A outer s H vs Q E hr h=>?_)
 ·obtain ⟨a,ns,rfl,_⟩:=h
  rfl
 ·obtain ⟨a,ns,rfl,ha,k⟩:=h
  refine ⟨_,(zC (zJ (i:=1) sc.nd rfl (Or.inl rfl) (zK C__law_paths (hr.mono (by decide)) (zA (zK C__law_cell_at (hr.mono (by decide)) (zA (pv 0) (zA zG pa_nil))) pa_nil)))
   (zC (jJ (sc:=zE st) (N:=["_law_script","_law_paths_here","_law_cases","_law_sides_here","_law_files","_law_clashes_here","_law_handed","_law_found","_law_swapped"]) (N':=["_law_cell"]) (src:=[none]) ⟨by decide +kernel,rfl,rfl,by decide +kernel,by decide +kernel,by decide +kernel,by decide +kernel⟩ rfl rfl rfl (yN (yL (sl_list:SlR _ (rSlL K)) (pv 0) (yB zG) (yB zG))) (fun _ _ _ _=>(zN (i:=0) (show (["_law_cell"]:List Str).Nodup by decide +kernel) rfl (Or.inl rfl))) (fun _ _ _ _=>x5) (fun _ _ _ _=>(zK C__law_case (hr.mono (by decide)) (zA (pv 0) pa_nil))) sc.nd rfl (Or.inl rfl) (k:=2))
   (zC (zJ (i:=3) sc.nd rfl (Or.inl rfl) (zZ (zA (zK C__law_sides (hr.mono (by decide)) (zA (pv 1) (zA (pv 2) (zA zG pa_nil)))) (zA (zK C__law_sides (hr.mono (by decide)) (zA (pv 1) (zA (pv 2) (zA zG pa_nil)))) (zA (zK C__law_sides (hr.mono (by decide)) (zA (pv 1) (zA (pv 2) (zA zG pa_nil)))) pa_nil)))))
   (zC (zJ (i:=4) sc.nd rfl (Or.inl rfl) (zK C__law_sides (hr.mono (by decide)) (zA (pv 1) (zA (pv 2) (zA zG pa_nil)))))
   (zC (zJ (i:=5) sc.nd rfl (Or.inl rfl) (zK C__law_clashes (hr.mono (by decide)) (zA (pv 1) (zA (pv 2) pa_nil))))
   (zC (jJ (sc:=zE st) (N:=["_law_script","_law_paths_here","_law_cases","_law_sides_here","_law_files","_law_clashes_here","_law_handed","_law_found","_law_swapped"]) (N':=["_law_side"]) (src:=[none]) ⟨by decide +kernel,rfl,rfl,by decide +kernel,by decide +kernel,by decide +kernel,by decide +kernel⟩ rfl rfl rfl (yN (pv 3)) (fun _ _ _ _=>(zN (i:=0) (show (["_law_side"]:List Str).Nodup by decide +kernel) rfl (Or.inl rfl))) (fun _ _ _ _=>x5) (fun _ _ _ _=>(z5 call_dictR (by rfl) T.dict PyProof.Rows.boot_dict (zA (pv 0) pa_nil))) sc.nd rfl (Or.inl rfl) (k:=6))
   (zC (zJ (i:=7) sc.nd rfl (Or.inl rfl) (zK C_joined_files (hr.mono (by decide)) (zA (zM (ix_list:IxR _ (rIxL K)) (pv 6) zG (fun _ _=>rfl)) (zA (zM (ix_list:IxR _ (rIxL K)) (pv 6) zG (fun _ _=>rfl)) (zA (zM (ix_list:IxR _ (rIxL K)) (pv 6) zG (fun _ _=>rfl)) pa_nil)))))
   (zC (yS (PW.pt (pw_or (jB (yU (K:=K) (zK C__law_is (hr.mono (by decide)) (zA (pv 7) (zA (pv 4) (zA (pv 5) pa_nil)))) (fun _=>rfl))) (jF (zQ (op_neT hr.units128) (pv 6) (pv 3) (zX _)))))
    (zH (zW pe_bl))
    z4)
   (zC (qT hr.units1 (zM (ix_tup:IxR _ (rIxT K)) (pv 7) zG (fun _ _=>rfl)) zS (yC (zA zS pa_nil)) rfl)
   (zC (z3 (xL PySem.F.plainAttrs_list PySem.F.slot_list_append PySem.F.type_list_append yE (zM (ix_tup:IxR _ (rIxT K)) (pv 7) zG (fun _ _=>rfl)) (zA zS pa_nil)))
   (zC (jJ (sc:=zE st) (N:=["_law_script","_law_paths_here","_law_cases","_law_sides_here","_law_files","_law_clashes_here","_law_handed","_law_found","_law_swapped"]) (N':=["_law_row"]) (src:=[none]) ⟨by decide +kernel,rfl,rfl,by decide +kernel,by decide +kernel,by decide +kernel,by decide +kernel⟩ rfl rfl rfl (yN (pv 5)) (fun _ _ _ _=>(zN (i:=0) (show (["_law_row"]:List Str).Nodup by decide +kernel) rfl (Or.inl rfl))) (fun _ _ _ _=>x5) (fun _ _ _ _=>(yC (zA (zM (ix_tup:IxR _ (rIxT K)) (pv 0) zG (fun _ _=>rfl)) (zA (zM (ix_tup:IxR _ (rIxT K)) (pv 0) zG (fun _ _=>rfl)) (zA (zM (ix_tup:IxR _ (rIxT K)) (pv 0) zG (fun _ _=>rfl)) (zA (zM (ix_tup:IxR _ (rIxT K)) (pv 0) zG (fun _ _=>rfl)) pa_nil)))))) sc.nd rfl (Or.inl rfl) (k:=8))
   (zC (yS (jB (yU (K:=K) (zK C__law_is (hr.mono (by decide)) (zA (zK C_joined_files (hr.mono (by decide)) (zA (zM (ix_list:IxR _ (rIxL K)) (pv 6) zG (fun _ _=>rfl)) (zA (zM (ix_list:IxR _ (rIxL K)) (pv 6) zG (fun _ _=>rfl)) (zA (zM (ix_list:IxR _ (rIxL K)) (pv 6) zG (fun _ _=>rfl)) pa_nil)))) (zA (pv 4) (zA (pv 8) pa_nil)))) (fun _=>rfl)))
    (zH (zW pe_bl))
    z4)
   (zH (zW (zK C__law_is (hr.mono (by decide)) (zA (zK C_joined_files (hr.mono (by decide)) (zA (zM (ix_list:IxR _ (rIxL K)) (pv 6) zG (fun _ _=>rfl)) (zA (zM (ix_list:IxR _ (rIxL K)) (pv 6) zG (fun _ _=>rfl)) (zA (zM (ix_list:IxR _ (rIxL K)) (pv 6) zG (fun _ _=>rfl)) pa_nil)))) (zA (pv 4) (zA (pv 5) pa_nil)))))))))))))))))),?_⟩
  refine ⟨_,rfl,a,ns,0,rfl,ha,Int.le_refl 0,fun i0=>⟨i0,rfl,fun pa ps H1 s1 npa hpa nine=>?_⟩⟩
  refine ⟨_,rfl,_,rfl,_,rfl,a,_,rfl,s1.seq ha,fun p1 np1=>?_⟩
  obtain ⟨m1,c1,ml⟩:=cut_ints (ns:=ns) (f:=1) (k:=10) (by decide)
  have c1:cutV (ns.map V.int) (some 1) (some 10) = m1.map V.int:=c1
  rw [c1]
  have u1:=same_upd (o:=.lst (m1.map V.int)) np1
  have hp1:SqL K (upd H1 p1 (.lst (m1.map V.int))) p1 (m1.map V.int):=SqL.of zB
  have hpa1:=u1 _ _ hpa
  generalize upd H1 p1 (.lst (m1.map V.int)) = G1 at u1 hp1 hpa1 ⊢
  refine ⟨p1,rfl,⟨_,hp1⟩,yQ (K:=K) (a:=p1) (xs:=m1.map V.int) (fun i ys σ H2=>∃ o rows,σ = [o] /\ Same G1 H2 /\ ys.length <= i /\ List.length rows = i /\ (∀ row ∈ rows,∃ n,AnS.N17 n /\ row ∈ AnS.tab17 n) /\ DtAll K H2 (rows.map AnS.caseD) ys) ⟨none,[],rfl,Same.refl _,Nat.le_refl _,rfl,fun _ h=>(nomatch h),rfl⟩ (le_line (by rw [List.length_map]; omega)) ?_ ?_ ?_⟩
  ·rintro i ys σ H2 hi ⟨o,rows,rfl,e2,yl,_⟩
   exact ⟨e2.seq hp1,yl⟩
  ·rintro i x ys σ H2 hx ⟨o,rows,rfl,e2,yl,rl,hr,hd⟩
   rw [List.getElem?_map] at hx
   obtain ⟨v,_,ev⟩:=Option.map_eq_some_iff.mp hx
   subst ev
   refine ⟨_,rfl,v,rfl,fun u n row H3 s3 hn hrow hu=>⟨_,rows ++ [row],rfl,e2.trans s3,by rw [List.length_append]; exact Nat.succ_le_succ yl,by rw [List.length_append,rl]; rfl,fun r hr'=>?_,?_⟩⟩
   ·rcases List.mem_append.mp hr' with z | z
    ·exact hr r z
    ·rw [List.mem_singleton.mp z]; exact ⟨n,hn,hrow⟩
   ·rw [List.map_append]
    exact DtAll.append (DtAll.same s3 _ _ hd) ⟨_,_,rfl,hu,rfl⟩
  rintro ys σ H2 ⟨o,rows,rfl,e2,yl,rl,hrw,hd⟩ c nc
  rw [List.length_map] at rl yl
  have rl9:rows.length <= 9:=by omega
  have u2:=same_upd (o:=.lst ys) nc
  have hpa2:=(e2.trans u2) _ _ hpa1
  have hc2:Dt K (upd H2 c (.lst ys)) (.list (rows.map AnS.caseD)) (.ref c):=⟨c,ys,rfl,SqL.of zB,DtAll.same u2 _ _ hd⟩
  refine xU ?_
  generalize upd H2 c (.lst ys) = G2 at hpa2 hc2 ⊢
  have z17:=z17_of nine rl9 hrw
  refine ⟨_,rfl,_,rfl,pa,c,0,ps,rows,rfl,by decide,SqL.of hpa2,hc2,nine,rl9,fun d0 kb LB H3 s3 n0 hd0 fb lb=>?_⟩
  have fb:AnS.Files K H3 kb LB (cB (ps.zip rows)):=fb
  refine ⟨_,rfl,_,rfl,pa,c,1,ps,rows,rfl,by decide,SqL.of (s3 _ _ hpa2),Dt.same s3 _ _ hc2,nine,rl9,fun d1 km LM H4 s4 n1 hd1 fm lm=>?_⟩
  have fm:AnS.Files K H4 km LM (cM (ps.zip rows)):=fm
  refine ⟨_,rfl,_,rfl,pa,c,2,ps,rows,rfl,by decide,SqL.of (s4 _ _ (s3 _ _ hpa2)),Dt.same (s3.trans s4) _ _ hc2,nine,rl9,fun d2 ky LY H5 s5 n2 hd2 fy ly=>?_⟩
  have fy:AnS.Files K H5 ky LY (cY (ps.zip rows)):=fy
  refine ⟨lineN 3,fun sl nsl=>?_⟩
  have u6:=same_upd (o:=.lst [.ref d0,.ref d1,.ref d2]) nsl
  have v6:=((s3.trans s4).trans s5).trans u6
  have hsl:upd H5 sl (.lst [.ref d0,.ref d1,.ref d2]) sl = some (.lst [.ref d0,.ref d1,.ref d2]):=zB
  have hd0:=((s4.trans s5).trans u6) _ _ hd0
  have fb:=fb.same ((s4.trans s5).trans u6)
  have hd1:=(s5.trans u6) _ _ hd1
  have fm:=fm.same (s5.trans u6)
  have hd2:=u6 _ _ hd2
  have fy:=fy.same u6
  have hpa6:=v6 _ _ hpa2
  have hc6:=Dt.same v6 _ _ hc2
  clear u6
  generalize upd H5 sl (.lst [.ref d0,.ref d1,.ref d2]) = G6 at v6 hsl hd0 fb hd1 fm hd2 fy hpa6 hc6 ⊢
  refine ⟨_,rfl,_,rfl,pa,c,3,ps,rows,rfl,by decide,SqL.of hpa6,hc6,nine,rl9,fun fa kr LR H7 s7 nfa hfa fr lr=>?_⟩
  have fr:AnS.Files K H7 kr LR (AnS.colF AnS.selR (ps.zip rows)):=fr
  refine ⟨_,rfl,_,rfl,pa,c,ps,rows,rfl,SqL.of (s7 _ _ hpa6),Dt.same s7 _ _ hc6,nine,rl9,fun ca cl us H8 s8 nca hca dd so nd mem cn=>?_⟩
  have v8:=s7.trans s8
  have hsl:=v8 _ _ hsl
  have hd0:=v8 _ _ hd0
  have hd1:=v8 _ _ hd1
  have hd2:=v8 _ _ hd2
  have fb:=fb.same v8
  have fm:=fm.same v8
  have fy:=fy.same v8
  have hfa:=s8 _ _ hfa
  have fr:=fr.same s8
  have dd:DtAll K H8 (cl.map (AnS.rowD (cB (ps.zip rows)) (cM (ps.zip rows)) (cY (ps.zip rows)))) us:=dd
  generalize ps.zip rows = zs at z17 fb fm fy fr mem dd
  have due:AnS.Due LB LM LY LR cl zs:=⟨z17,fb.mem,fm.mem,fy.mem,fr.mem,mem,so,nd⟩
  refine ⟨_,rfl,sl,rfl,⟨_,SqL.of hsl⟩,yQ (K:=K) (a:=sl) (xs:=[V.ref d0,.ref d1,.ref d2]) (fun i ys σ H9=>∃ o,∃ hs:List Addr,σ = [o] /\ Same H8 H9 /\ ys = hs.map V.ref /\ hs.length = i /\ ∀ (j:Nat) (h:Addr),hs[j]? = some h -> ∃ kv,[kb,km,ky][j]? = some kv /\ H9 h = some (.dK kv)) ⟨none,[],rfl,Same.refl _,rfl,rfl,fun j h e=>(nomatch e)⟩ (lineN 3) ?_ ?_ ?_⟩
  ·rintro i ys σ H9 hi ⟨o,hs,rfl,e9,rfl,hl,_⟩
   exact ⟨SqL.of (e9 _ _ hsl),by rw [List.length_map,hl]; exact Nat.le_refl _⟩
  ·rintro i x ys σ H9 hx ⟨o,hs,rfl,e9,rfl,hl,al⟩
   obtain ⟨d,kv,ex,ekv,hdk⟩:∃ d kv,x = V.ref d /\ [kb,km,ky][i]? = some kv /\ H8 d = some (.dK kv):=by
    match i,hx with
    | 0,hx=>cases hx; exact ⟨d0,kb,rfl,rfl,hd0⟩
    | 1,hx=>cases hx; exact ⟨d1,km,rfl,rfl,hd1⟩
    | 2,hx=>cases hx; exact ⟨d2,ky,rfl,rfl,hd2⟩
    | i + 3,hx=>cases hx
   subst ex
   refine ⟨_,rfl,d,kv,rfl,.inl (e9 _ _ hdk),fun l nl=>⟨_,hs ++ [l],rfl,e9.trans (same_upd nl),by rw [List.map_append]; rfl,by rw [List.length_append,hl]; rfl,fun j h e=>?_⟩⟩
   by_cases z:j < hs.length
   ·rw [List.getElem?_append_left z] at e
    obtain ⟨kv',e1,e2⟩:=al j h e
    exact ⟨kv',e1,same_upd nl _ _ e2⟩
   ·rw [List.getElem?_append_right (by omega)] at e
    have hj:j - hs.length = 0:=by
     rcases Nat.eq_zero_or_pos (j - hs.length) with q | q
     ·exact q
     ·rw [List.getElem?_eq_none_iff.mpr (by show 1 <= _; omega)] at e; cases e
    rw [hj] at e
    cases e
    exact ⟨kv,by rw [show j = i by omega]; exact ekv,zB⟩
  rintro ys σ H9 ⟨o,hs,rfl,e9,rfl,hl,al⟩ hl' nhl
  obtain ⟨h0,h1,h2,rfl⟩:∃ h0 h1 h2,hs = [h0,h1,h2]:=by
   match hs,hl with
   | [x,y,z],_=>exact ⟨x,y,z,rfl⟩
  obtain ⟨_,ek0,hh0⟩:=al 0 h0 rfl
  obtain ⟨_,ek1,hh1⟩:=al 1 h1 rfl
  obtain ⟨_,ek2,hh2⟩:=al 2 h2 rfl
  cases ek0
  cases ek1
  cases ek2
  have u10:=same_upd (o:=.lst [V.ref h0,.ref h1,.ref h2]) nhl
  have v10:=e9.trans u10
  have bed:Bed K (upd H9 hl' (.lst [V.ref h0,.ref h1,.ref h2])) hl' sl h0 h1 h2 d0 d1 d2 fa ca kb km ky kr LB LM LY LR cl zs us :=
   ⟨zB,v10 _ _ hsl,u10 _ _ hh0,u10 _ _ hh1,u10 _ _ hh2,v10 _ _ hd0,v10 _ _ hd1,v10 _ _ hd2,v10 _ _ hfa,v10 _ _ hca,fb.same v10,fm.same v10,fy.same v10,fr.same v10,DtAll.same v10 _ _ dd,due,by omega,cn⟩
  refine xU ?_
  have em3:List.map V.ref [h0,h1,h2] = [V.ref h0,V.ref h1,V.ref h2]:=rfl
  rw [em3]
  generalize upd H9 hl' (.lst [V.ref h0,.ref h1,.ref h2]) = G at bed ⊢
  have okM:∀ p,AnS.okO (cB zs p) /\ AnS.okO (cM zs p) /\ AnS.okO (cY zs p):=fun p=>⟨(z17.ok p).1,(z17.ok p).2.1,(z17.ok p).2.2.1⟩
  have okY:∀ p,AnS.okO (cB zs p) /\ AnS.okO (cY zs p) /\ AnS.okO (cM zs p):=fun p=>⟨(z17.ok p).1,(z17.ok p).2.2.1,(z17.ok p).2.1⟩
  refine ⟨_,rfl,hl',_,_,_,rfl,rfl,SqL.of bed.hhl,rfl,_,rfl,hl',_,_,_,rfl,rfl,SqL.of bed.hhl,rfl,_,rfl,hl',_,_,_,rfl,rfl,SqL.of bed.hhl,rfl,?_⟩
  refine ⟨h0,h1,h2,kb,km,ky,LB,LM,LY,cB zs,cM zs,cY zs,AnS.j17 zs,rfl,bed.hh0,bed.hh1,bed.hh2,bed.three,z17.okJ,z17.det,fun t ss H11 s11 un af ac kf ws naf nac ht hf df hc dc=>?_⟩
  have bed11:=bed.same s11
  refine ⟨_,rfl,_,rfl,_,rfl,t,fa,ca,kf,kr,_,LR,cl,_,_,_,_,af,ac,ws,us,rfl,bed.isAt s11 un naf ht hf df hc dc (SqL.of bed11.hca) bed11.dd okM,fun H12 s12=>⟨_,rfl,iteNF ⟨_,rfl,_,rfl,(bed11.same s12).eq,_,rfl,iteF ?_⟩⟩⟩
  have ht:=s12 _ _ ht
  have hf:=s12 _ _ hf
  have hc:=s12 _ _ hc
  have s12:=s11.trans s12
  have wl:=dc.length
  rw [List.length_map] at wl
  have lcl:(AnS.LC ss (AnS.j17 zs)).length <= 9:=by rw [due.clashes un]; exact cn
  have kfl:=df.len
  have kfl2:(AnS.LF ss (AnS.j17 zs)).length <= 9:=by
   have:=AnS.len_same df.nd fr.is.nd (due.files un)
   omega
  refine ⟨lineN 1,fun q nq=>⟨_,rfl,t,_,_,_,rfl,rfl,SqT.of (same_upd nq _ _ ht),rfl,af,_,rfl,DPut.k (k:=.inr "more") (same_upd nq _ _ hf) (Nat.lt_of_lt_of_le (by omega:kf.length < 16777216) (le_line (Nat.le_refl _))),?_⟩⟩
  have uq:=same_upd (o:=.tup [V.str "x"]) nq
  have acf:ac ≠ af:=fun z=>by rw [z,hf] at hc; cases hc
  have taf:t ≠ af:=fun z=>by rw [z,hf] at ht; cases ht
  have s13:Same G (upd (upd H12 q (.tup [V.str "x"])) af (.dK (putK kf (.inr "more") (.ref q)))):=An.Same.updF (s12.trans uq) naf
  have ht13:upd (upd H12 q (.tup [V.str "x"])) af (.dK (putK kf (.inr "more") (.ref q))) t = some (.tup [.ref af,.ref ac]):=by rw [zD taf]; exact uq _ _ ht
  have hc13:upd (upd H12 q (.tup [V.str "x"])) af (.dK (putK kf (.inr "more") (.ref q))) ac = some (.lst ws):=by rw [zD acf]; exact uq _ _ hc
  generalize upd (upd H12 q (.tup [V.str "x"])) af (.dK (putK kf (.inr "more") (.ref q))) = H13 at s13 ht13 hc13 ⊢
  refine ⟨_,rfl,t,_,_,_,rfl,rfl,SqT.of ht13,rfl,.inl ⟨rfl,_,SqL.of hc13⟩,ac,_,_,rfl,rfl,hc13,Nat.lt_of_lt_of_le (by omega:ws.length < 16777216) (le_line (Nat.le_refl _)),?_⟩
  have s14:Same G (upd H13 ac (.lst (ws ++ [.str "more"]))):=An.Same.updF s13 nac
  generalize upd H13 ac (.lst (ws ++ [.str "more"])) = H14 at s14 ⊢
  have bed:=bed.same s14
  clear bed11 s14 s13 ht13 hc13 ht hf hc dc df
  have usl:=bed.dd.length
  rw [List.length_map] at usl
  refine ⟨_,rfl,ca,rfl,⟨_,SqL.of bed.hca⟩,yQ (K:=K) (a:=ca) (xs:=us) (fun i zz σ H15=>∃ o,σ = [o] /\ Same H14 H15 /\ zz.length <= i /\ DtAll K H15 ((cl.take i).map (AnS.rowD (cB zs) (cY zs) (cM zs))) zz) ⟨none,rfl,Same.refl _,Nat.le_refl _,rfl⟩ (le_line (by omega)) ?_ ?_ ?_⟩
  ·rintro i zz σ H15 hi ⟨o,rfl,s15,zl,_⟩
   exact ⟨SqL.of (s15 _ _ bed.hca),zl⟩
  ·rintro i x zz σ H15 hx ⟨o,rfl,s15,zl,hz⟩
   obtain ⟨p,ep,dp⟩:=AnJ.dts_get (DtAll.same s15 _ _ bed.dd) hx
   obtain ⟨tr,wv,rfl,hw,w0,r0,rfl,q0,w1,r1,rfl,q1,w2,r2,rfl,q2,w3,r3,rfl,q3,q4⟩:=(show ∃ tr wv,x = .ref tr /\ SqT K H15 tr wv /\ DtAll K H15 [.str p,AnS.oD (cB zs p),AnS.oD (cM zs p),AnS.oD (cY zs p)] wv from dp)
   have q0:w0 = .str p:=q0
   have q4:r3 = []:=q4
   subst q0 q4
   refine ⟨_,rfl,tr,_,_,_,rfl,rfl,hw,rfl,_,rfl,tr,_,_,_,rfl,rfl,hw,rfl,_,rfl,tr,_,_,_,rfl,rfl,hw,rfl,_,rfl,tr,_,_,_,rfl,rfl,hw,rfl,lineN 4,fun tp ntp=>?_⟩
   have u:=same_upd (o:=.tup [.str p,w1,w3,w2]) ntp
   refine ⟨_,rfl,s15.trans u,by rw [List.length_append]; exact Nat.succ_le_succ zl,?_⟩
   rw [List.take_add_one,ep,List.map_append]
   refine DtAll.append (DtAll.same u _ _ hz) ⟨_,_,rfl,?_,rfl⟩
   exact ⟨tp,_,rfl,SqT.of zB,_,_,rfl,rfl,_,_,rfl,Dt.same u _ _ q1,_,_,rfl,Dt.same u _ _ q3,_,_,rfl,Dt.same u _ _ q2,rfl⟩
  rintro zz σ H15 ⟨o,rfl,s15,zl,hz⟩ cb ncb
  rw [usl,List.take_length] at hz
  have u16:=same_upd (o:=.lst zz) ncb
  have bed:=bed.same (s15.trans u16)
  have hcb:upd H15 cb (.lst zz) cb = some (.lst zz):=zB
  have hz:=DtAll.same u16 _ _ hz
  refine xU ?_
  generalize upd H15 cb (.lst zz) = H16 at bed hcb hz ⊢
  refine ⟨_,rfl,hl',_,_,_,rfl,rfl,SqL.of bed.hhl,rfl,_,rfl,hl',_,_,_,rfl,rfl,SqL.of bed.hhl,rfl,_,rfl,hl',_,_,_,rfl,rfl,SqL.of bed.hhl,rfl,?_⟩
  refine ⟨h0,h2,h1,kb,ky,km,LB,LY,LM,cB zs,cY zs,cM zs,AnS.j17 zs,rfl,bed.hh0,bed.hh2,bed.hh1,bed.three.turn,fun p xs ms ys e1 e2 e3=>?_,z17.det2,fun t2 ss2 H17 s17 un2 af2 ac2 kf2 ws2 naf2 nac2 ht2 hf2 df2 hc2 dc2=>?_⟩
  ·obtain ⟨n,row,hn,hr,g1,g2⟩:=z17.at e1
   obtain ⟨_,row2,_,_,g3,g4⟩:=z17.at e2
   obtain ⟨_,row3,_,_,g5,g6⟩:=z17.at e3
   rw [g1] at g3 g5
   cases g3
   cases g5
   obtain ⟨w1,w2,w3,_⟩:=AnS.row_in hr
   rw [w1 xs g2]
   exact AnS.okJ4 hn _ (w3 ms g4) _ (w2 ys g6)
  refine ⟨_,rfl,_,rfl,t2,fa,cb,kf2,kr,_,LR,cl,_,_,_,_,af2,ac2,ws2,zz,rfl,bed.isAt s17 un2.turn naf2 ht2 hf2 df2 hc2 dc2 (SqL.of (s17 _ _ hcb)) (DtAll.same s17 _ _ hz) okY,fun H18 s18=>⟨_,rfl,iteNF ?_⟩⟩
  have bed:=bed.same (s17.trans s18)
  refine ⟨_,rfl,hl',_,_,_,rfl,rfl,SqL.of bed.hhl,rfl,_,rfl,hl',_,_,_,rfl,rfl,SqL.of bed.hhl,rfl,_,rfl,hl',_,_,_,rfl,rfl,SqL.of bed.hhl,rfl,?_⟩
  refine ⟨h0,h1,h2,kb,km,ky,LB,LM,LY,cB zs,cM zs,cY zs,AnS.j17 zs,rfl,bed.hh0,bed.hh1,bed.hh2,bed.three,z17.okJ,z17.det,fun t3 ss3 H19 s19 un3 af3 ac3 kf3 ws3 naf3 nac3 ht3 hf3 df3 hc3 dc3=>?_⟩
  have bed19:=bed.same s19
  exact ⟨_,rfl,_,rfl,t3,fa,ca,kf3,kr,_,LR,cl,_,_,_,_,af3,ac3,ws3,us,rfl,bed.isAt s19 un3 naf3 ht3 hf3 df3 hc3 dc3 (SqL.of bed19.hca) bed19.dd okM,fun H20 _=>k H20⟩
end g_law
end
end An17
/-! the evaluating tactics look for a twin of each of these constants under these names; names that are taken keep them from laying one,for the twins' equations make the compiled file too large -/
theorem PySem.W.Fast.tw17108712088756673734:True:=trivial
theorem PySem.W.Fast.tw17851946428615058508:True:=trivial
theorem PySem.W.Fast.tw9870735425592544347:True:=trivial
theorem PySem.W.Fast.tw7493367148227605275:True:=trivial
theorem PySem.W.Fast.tw17765206290238039315:True:=trivial
theorem PySem.W.Fast.tw1484709253614487114:True:=trivial
theorem PySem.W.Fast.tw10683837023668665518:True:=trivial
theorem PySem.W.Fast.tw16784666669206052870:True:=trivial
theorem PySem.W.Fast.tw3691891351557978601:True:=trivial
theorem PySem.W.Fast.tw5805688095532592335:True:=trivial
theorem PySem.W.Fast.tw3494749866119617360:True:=trivial
theorem PySem.W.Fast.tw3687165413766433240:True:=trivial
theorem PySem.W.Fast.tw10706673706600835190:True:=trivial
theorem PySem.W.Fast.tw13855869192920513907:True:=trivial
theorem PySem.W.Fast.tw11971244766862043831:True:=trivial
theorem PySem.W.Fast.tw17906546725924557740:True:=trivial
theorem PySem.W.Fast.tw9383077982229981725:True:=trivial
theorem PySem.W.Fast.tw2957486946980407294:True:=trivial
theorem PySem.W.Fast.tw16664401990370612042:True:=trivial
theorem PySem.W.Fast.tw7173701862983189562:True:=trivial
theorem PySem.W.Fast.tw8303152849334101438:True:=trivial
namespace An17
open PySem L2 An
set_option maxHeartbeats 0 in
theorem all_mk {l:PySem.W.OpenLaw} {w:World} {K:PySem.W.Frag} {h:Heap} {mg:Str -> Option Value} {fa:Addr} {t1 t2:Tok} (X:K.In h) (G:h.Ns mainGlobals mg) (hfa:mg "law" = some (.ref fa))
  (z_len:PySem.W.nsIn K mainGlobals "len" = some none)
  (z_list:PySem.W.nsIn K mainGlobals "list" = some none)
  (z_tuple:PySem.W.nsIn K mainGlobals "tuple" = some none)
  (z_range:PySem.W.nsIn K mainGlobals "range" = some none)
  (z_isinstance:PySem.W.nsIn K mainGlobals "isinstance" = some none)
  (z_int:PySem.W.nsIn K mainGlobals "int" = some none)
  (z_max:PySem.W.nsIn K mainGlobals "max" = some none)
  (z_min:PySem.W.nsIn K mainGlobals "min" = some none)
  (z_sorted:PySem.W.nsIn K mainGlobals "sorted" = some none)
  (z_reversed:PySem.W.nsIn K mainGlobals "reversed" = some none)
  (z_all:PySem.W.nsIn K mainGlobals "all" = some none)
  (z_set:PySem.W.nsIn K mainGlobals "set" = some none)
  (z_dict:PySem.W.nsIn K mainGlobals "dict" = some none)
  (z_str:PySem.W.nsIn K mainGlobals "str" = some none)
  (z_ONES:PySem.W.nsIn K mainGlobals "ONES" = some (some (.int 2 t1)))
  (z_OTHERS:PySem.W.nsIn K mainGlobals "OTHERS" = some (some (.int 3 t2)))
  (s_kit:∀ a ∈ kinds,∀ b ∈ kinds,PySem.W.kitOne K (.type a) (.type b) = some (a == b || (a == "bool" && b == "int")))
  {f0 f1 f2 f3 f4 f5 f6 f7 f8 f9 f10 f11 f12 f13 f14 f15 f16 f17 f18 f19 f20 f21 f22:Addr} {od0 an0 od1 an1 od2 an2 od3 an3 od4 an4 od5 an5 od6 an6 od7 an7 od8 an8 od9 an9 od10 an10 od11 an11 od12 an12 od13 an13 od14 an14 od15 an15 od16 an16 od17 an17 od18 an18 od19 an19 od20 an20 od21 an21 od22 an22:Option Addr} {sl0 sl1 sl2 sl3 sl4 sl5 sl6 sl7 sl8 sl9 sl10 sl11 sl12 sl13 sl14 sl15 sl16 sl17 sl18 sl19 sl20 sl21 sl22:Array (Option Value)} {oc0 kV0 dc0 pm0 cd0 ct0 oc1 kV1 dc1 pm1 cd1 ct1 oc2 kV2 dc2 pm2 cd2 ct2 oc3 kV3 dc3 pm3 cd3 ct3 oc4 kV4 dc4 pm4 cd4 ct4 oc5 kV5 dc5 pm5 cd5 ct5 oc6 kV6 dc6 pm6 cd6 ct6 oc7 kV7 dc7 pm7 cd7 ct7 oc8 kV8 dc8 pm8 cd8 ct8 oc9 kV9 dc9 pm9 cd9 ct9 oc10 kV10 dc10 pm10 cd10 ct10 oc11 kV11 dc11 pm11 cd11 ct11 oc12 kV12 dc12 pm12 cd12 ct12 oc13 kV13 dc13 pm13 cd13 ct13 oc14 kV14 dc14 pm14 cd14 ct14 oc15 kV15 dc15 pm15 cd15 ct15 oc16 kV16 dc16 pm16 cd16 ct16 oc17 kV17 dc17 pm17 cd17 ct17 oc18 kV18 dc18 pm18 cd18 ct18 oc19 kV19 dc19 pm19 cd19 ct19 oc20 kV20 dc20 pm20 cd20 ct20 oc21 kV21 dc21 pm21 cd21 ct21 oc22 kV22 dc22 pm22 cd22 ct22:Value}
  (a0:PySem.W.nsIn K mainGlobals "_law_cell_at" = some (some (.ref f0)))
  (l0:K.lookup f0 = some ⟨oc0,od0,.func (PySem.W.fnOf "_law_cell_at" "_law_cell_at" (zT g_cell.st) (zR g_cell.st) (zE g_cell.st) .none kV0 dc0 pm0 an0 cd0 ct0),sl0⟩)
  (c0:PySem.W.codeIn K cd0 "_law_cell_at" = true)
  (k0:PySem.W.keepIn K (.ref f0) = true)
  (a1:PySem.W.nsIn K mainGlobals "_law_paths" = some (some (.ref f1)))
  (l1:K.lookup f1 = some ⟨oc1,od1,.func (PySem.W.fnOf "_law_paths" "_law_paths" (zT g_paths.st) (zR g_paths.st) (zE g_paths.st) .none kV1 dc1 pm1 an1 cd1 ct1),sl1⟩)
  (c1:PySem.W.codeIn K cd1 "_law_paths" = true)
  (k1:PySem.W.keepIn K (.ref f1) = true)
  (a2:PySem.W.nsIn K mainGlobals "_law_case" = some (some (.ref f2)))
  (l2:K.lookup f2 = some ⟨oc2,od2,.func (PySem.W.fnOf "_law_case" "_law_case" (zT g_case.st) (zR g_case.st) (zE g_case.st) .none kV2 dc2 pm2 an2 cd2 ct2),sl2⟩)
  (c2:PySem.W.codeIn K cd2 "_law_case" = true)
  (k2:PySem.W.keepIn K (.ref f2) = true)
  (a3:PySem.W.nsIn K mainGlobals "_law_sides" = some (some (.ref f3)))
  (l3:K.lookup f3 = some ⟨oc3,od3,.func (PySem.W.fnOf "_law_sides" "_law_sides" (zT g_sides.st) (zR g_sides.st) (zE g_sides.st) .none kV3 dc3 pm3 an3 cd3 ct3),sl3⟩)
  (c3:PySem.W.codeIn K cd3 "_law_sides" = true)
  (k3:PySem.W.keepIn K (.ref f3) = true)
  (a4:PySem.W.nsIn K mainGlobals "_law_first" = some (some (.ref f4)))
  (l4:K.lookup f4 = some ⟨oc4,od4,.func (PySem.W.fnOf "_law_first" "_law_first" (zT g_first.st) (zR g_first.st) (zE g_first.st) .none kV4 dc4 pm4 an4 cd4 ct4),sl4⟩)
  (c4:PySem.W.codeIn K cd4 "_law_first" = true)
  (k4:PySem.W.keepIn K (.ref f4) = true)
  (a5:PySem.W.nsIn K mainGlobals "_law_clashes" = some (some (.ref f5)))
  (l5:K.lookup f5 = some ⟨oc5,od5,.func (PySem.W.fnOf "_law_clashes" "_law_clashes" (zT g_clashes.st) (zR g_clashes.st) (zE g_clashes.st) .none kV5 dc5 pm5 an5 cd5 ct5),sl5⟩)
  (c5:PySem.W.codeIn K cd5 "_law_clashes" = true)
  (k5:PySem.W.keepIn K (.ref f5) = true)
  (a6:PySem.W.nsIn K mainGlobals "table_row" = some (some (.ref f6)))
  (l6:K.lookup f6 = some ⟨oc6,od6,.func (PySem.W.fnOf "table_row" "table_row" (zT f_table_row.st) (zR f_table_row.st) (zE f_table_row.st) .none kV6 dc6 pm6 an6 cd6 ct6),sl6⟩)
  (c6:PySem.W.codeIn K cd6 "table_row" = true)
  (k6:PySem.W.keepIn K (.ref f6) = true)
  (a7:PySem.W.nsIn K mainGlobals "common_table" = some (some (.ref f7)))
  (l7:K.lookup f7 = some ⟨oc7,od7,.func (PySem.W.fnOf "common_table" "common_table" (zT f_common_table.st) (zR f_common_table.st) (zE f_common_table.st) .none kV7 dc7 pm7 an7 cd7 ct7),sl7⟩)
  (c7:PySem.W.codeIn K cd7 "common_table" = true)
  (k7:PySem.W.keepIn K (.ref f7) = true)
  (a8:PySem.W.nsIn K mainGlobals "kept_pairs" = some (some (.ref f8)))
  (l8:K.lookup f8 = some ⟨oc8,od8,.func (PySem.W.fnOf "kept_pairs" "kept_pairs" (zT f_kept_pairs.st) (zR f_kept_pairs.st) (zE f_kept_pairs.st) .none kV8 dc8 pm8 an8 cd8 ct8),sl8⟩)
  (c8:PySem.W.codeIn K cd8 "kept_pairs" = true)
  (k8:PySem.W.keepIn K (.ref f8) = true)
  (a9:PySem.W.nsIn K mainGlobals "spans_of" = some (some (.ref f9)))
  (l9:K.lookup f9 = some ⟨oc9,od9,.func (PySem.W.fnOf "spans_of" "spans_of" (zT f_spans_of.st) (zR f_spans_of.st) (zE f_spans_of.st) .none kV9 dc9 pm9 an9 cd9 ct9),sl9⟩)
  (c9:PySem.W.codeIn K cd9 "spans_of" = true)
  (k9:PySem.W.keepIn K (.ref f9) = true)
  (a10:PySem.W.nsIn K mainGlobals "near_spans" = some (some (.ref f10)))
  (l10:K.lookup f10 = some ⟨oc10,od10,.func (PySem.W.fnOf "near_spans" "near_spans" (zT j_near.st) (zR j_near.st) (zE j_near.st) .none kV10 dc10 pm10 an10 cd10 ct10),sl10⟩)
  (c10:PySem.W.codeIn K cd10 "near_spans" = true)
  (k10:PySem.W.keepIn K (.ref f10) = true)
  (a11:PySem.W.nsIn K mainGlobals "groups_of" = some (some (.ref f11)))
  (l11:K.lookup f11 = some ⟨oc11,od11,.func (PySem.W.fnOf "groups_of" "groups_of" (zT j_groups.st) (zR j_groups.st) (zE j_groups.st) .none kV11 dc11 pm11 an11 cd11 ct11),sl11⟩)
  (c11:PySem.W.codeIn K cd11 "groups_of" = true)
  (k11:PySem.W.keepIn K (.ref f11) = true)
  (a12:PySem.W.nsIn K mainGlobals "spans_done" = some (some (.ref f12)))
  (l12:K.lookup f12 = some ⟨oc12,od12,.func (PySem.W.fnOf "spans_done" "spans_done" (zT f_spans_done.st) (zR f_spans_done.st) (zE f_spans_done.st) .none kV12 dc12 pm12 an12 cd12 ct12),sl12⟩)
  (c12:PySem.W.codeIn K cd12 "spans_done" = true)
  (k12:PySem.W.keepIn K (.ref f12) = true)
  (a13:PySem.W.nsIn K mainGlobals "side_lines" = some (some (.ref f13)))
  (l13:K.lookup f13 = some ⟨oc13,od13,.func (PySem.W.fnOf "side_lines" "side_lines" (zT j_side.st) (zR j_side.st) (zE j_side.st) .none kV13 dc13 pm13 an13 cd13 ct13),sl13⟩)
  (c13:PySem.W.codeIn K cd13 "side_lines" = true)
  (k13:PySem.W.keepIn K (.ref f13) = true)
  (a14:PySem.W.nsIn K mainGlobals "add_same" = some (some (.ref f14)))
  (l14:K.lookup f14 = some ⟨oc14,od14,.func (PySem.W.fnOf "add_same" "add_same" (zT j_add.st) (zR j_add.st) (zE j_add.st) .none kV14 dc14 pm14 an14 cd14 ct14),sl14⟩)
  (c14:PySem.W.codeIn K cd14 "add_same" = true)
  (k14:PySem.W.keepIn K (.ref f14) = true)
  (a15:PySem.W.nsIn K mainGlobals "joined_lines" = some (some (.ref f15)))
  (l15:K.lookup f15 = some ⟨oc15,od15,.func (PySem.W.fnOf "joined_lines" "joined_lines" (zT j_joined.st) (zR j_joined.st) (zE j_joined.st) .none kV15 dc15 pm15 an15 cd15 ct15),sl15⟩)
  (c15:PySem.W.codeIn K cd15 "joined_lines" = true)
  (k15:PySem.W.keepIn K (.ref f15) = true)
  (a16:PySem.W.nsIn K mainGlobals "clean_lines" = some (some (.ref f16)))
  (l16:K.lookup f16 = some ⟨oc16,od16,.func (PySem.W.fnOf "clean_lines" "clean_lines" (zT j_clean.st) (zR j_clean.st) (zE j_clean.st) .none kV16 dc16 pm16 an16 cd16 ct16),sl16⟩)
  (c16:PySem.W.codeIn K cd16 "clean_lines" = true)
  (k16:PySem.W.keepIn K (.ref f16) = true)
  (a17:PySem.W.nsIn K mainGlobals "joined_at" = some (some (.ref f17)))
  (l17:K.lookup f17 = some ⟨oc17,od17,.func (PySem.W.fnOf "joined_at" "joined_at" (zT s_at.st) (zR s_at.st) (zE s_at.st) .none kV17 dc17 pm17 an17 cd17 ct17),sl17⟩)
  (c17:PySem.W.codeIn K cd17 "joined_at" = true)
  (k17:PySem.W.keepIn K (.ref f17) = true)
  (a18:PySem.W.nsIn K mainGlobals "folders_of" = some (some (.ref f18)))
  (l18:K.lookup f18 = some ⟨oc18,od18,.func (PySem.W.fnOf "folders_of" "folders_of" (zT p_fols.st) (zR p_fols.st) (zE p_fols.st) .none kV18 dc18 pm18 an18 cd18 ct18),sl18⟩)
  (c18:PySem.W.codeIn K cd18 "folders_of" = true)
  (k18:PySem.W.keepIn K (.ref f18) = true)
  (a19:PySem.W.nsIn K mainGlobals "in_the_way" = some (some (.ref f19)))
  (l19:K.lookup f19 = some ⟨oc19,od19,.func (PySem.W.fnOf "in_the_way" "in_the_way" (zT s_way.st) (zR s_way.st) (zE s_way.st) .none kV19 dc19 pm19 an19 cd19 ct19),sl19⟩)
  (c19:PySem.W.codeIn K cd19 "in_the_way" = true)
  (k19:PySem.W.keepIn K (.ref f19) = true)
  (a20:PySem.W.nsIn K mainGlobals "joined_files" = some (some (.ref f20)))
  (l20:K.lookup f20 = some ⟨oc20,od20,.func (PySem.W.fnOf "joined_files" "joined_files" (zT s_files.st) (zR s_files.st) (zE s_files.st) .none kV20 dc20 pm20 an20 cd20 ct20),sl20⟩)
  (c20:PySem.W.codeIn K cd20 "joined_files" = true)
  (k20:PySem.W.keepIn K (.ref f20) = true)
  (a21:PySem.W.nsIn K mainGlobals "_law_is" = some (some (.ref f21)))
  (l21:K.lookup f21 = some ⟨oc21,od21,.func (PySem.W.fnOf "_law_is" "_law_is" (zT g_is.st) (zR g_is.st) (zE g_is.st) .none kV21 dc21 pm21 an21 cd21 ct21),sl21⟩)
  (c21:PySem.W.codeIn K cd21 "_law_is" = true)
  (k21:PySem.W.keepIn K (.ref f21) = true)
  (a22:PySem.W.nsIn K mainGlobals "law" = some (some (.ref f22)))
  (l22:K.lookup f22 = some ⟨oc22,od22,.func (PySem.W.fnOf "law" "law" (zT g_law.st) (zR g_law.st) (zE g_law.st) .none kV22 dc22 pm22 an22 cd22 ct22),sl22⟩)
  (c22:PySem.W.codeIn K cd22 "law" = true)
  (k22:PySem.W.keepIn K (.ref f22) = true) :
  ∃ fd:FuncData,(∀ (s:Shared) (v:Value),BindsTo s fd ⟨[v],[]⟩ [("_law_script",v)]) /\ ∀ base:Heap,K.In base -> base.Ns mainGlobals mg -> FnOk l.prog w K mg base CX0 10 fa fd ["_law_script"] (spLaw K):=by
 have e:=hfa.symm.trans (PySem.W.mg_of X G a22)
 cases e
 have T:Txt K mg t1 t2:=⟨PySem.W.mg_none_of X G z_len,PySem.W.mg_none_of X G z_list,PySem.W.mg_none_of X G z_tuple,PySem.W.mg_none_of X G z_range,PySem.W.mg_none_of X G z_isinstance,PySem.W.mg_none_of X G z_int,PySem.W.mg_none_of X G z_max,PySem.W.mg_none_of X G z_min,PySem.W.mg_none_of X G z_sorted,PySem.W.mg_none_of X G z_reversed,PySem.W.mg_none_of X G z_all,PySem.W.mg_none_of X G z_set,PySem.W.mg_none_of X G z_dict,PySem.W.mg_none_of X G z_str,PySem.W.mg_of X G z_ONES,PySem.W.mg_of X G z_OTHERS,s_kit⟩
 have F0:=yD (st:=g_cell.st) l0 c0 k0
 have b0:=F0.binds (ps:=["_law_script","_law_k"]) fun _ _ _ _ _ _ us hl=>match us,hl with | [_,_],_=>rfl
 have F1:=yD (st:=g_paths.st) l1 c1 k1
 have b1:=F1.binds (ps:=["_law_cell"]) fun _ _ _ _ _ _ us hl=>match us,hl with | [_],_=>rfl
 have F2:=yD (st:=g_case.st) l2 c2 k2
 have b2:=F2.binds (ps:=["_law_cell"]) fun _ _ _ _ _ _ us hl=>match us,hl with | [_],_=>rfl
 have F3:=yD (st:=g_sides.st) l3 c3 k3
 have b3:=F3.binds (ps:=["_law_paths_here","_law_cases","_law_at"]) fun _ _ _ _ _ _ us hl=>match us,hl with | [_,_,_],_=>rfl
 have F4:=yD (st:=g_first.st) l4 c4 k4
 have b4:=F4.binds (ps:=["_law_row"]) fun _ _ _ _ _ _ us hl=>match us,hl with | [_],_=>rfl
 have F5:=yD (st:=g_clashes.st) l5 c5 k5
 have b5:=F5.binds (ps:=["_law_paths_here","_law_cases"]) fun _ _ _ _ _ _ us hl=>match us,hl with | [_,_],_=>rfl
 have F6:=yD (st:=f_table_row.st) l6 c6 k6
 have b6:=F6.binds (ps:=["line","new","behind"]) fun _ _ _ _ _ _ us hl=>match us,hl with | [_,_,_],_=>rfl
 have F7:=yD (st:=f_common_table.st) l7 c7 k7
 have b7:=F7.binds (ps:=["old","new"]) fun _ _ _ _ _ _ us hl=>match us,hl with | [_,_],_=>rfl
 have F8:=yD (st:=f_kept_pairs.st) l8 c8 k8
 have b8:=F8.binds (ps:=["old","new"]) fun _ _ _ _ _ _ us hl=>match us,hl with | [_,_],_=>rfl
 have F9:=yD (st:=f_spans_of.st) l9 c9 k9
 have b9:=F9.binds (ps:=["old","new"]) fun _ _ _ _ _ _ us hl=>match us,hl with | [_,_],_=>rfl
 have F10:=yD (st:=j_near.st) l10 c10 k10
 have b10:=F10.binds (ps:=["one","other"]) fun _ _ _ _ _ _ us hl=>match us,hl with | [_,_],_=>rfl
 have F11:=yD (st:=j_groups.st) l11 c11 k11
 have b11:=F11.binds (ps:=["ones","others"]) fun _ _ _ _ _ _ us hl=>match us,hl with | [_,_],_=>rfl
 have F12:=yD (st:=f_spans_done.st) l12 c12 k12
 have b12:=F12.binds (ps:=["old","rows"]) fun _ _ _ _ _ _ us hl=>match us,hl with | [_,_],_=>rfl
 have F13:=yD (st:=j_side.st) l13 c13 k13
 have b13:=F13.binds (ps:=["base","low","high","rows"]) fun _ _ _ _ _ _ us hl=>match us,hl with | [_,_,_,_],_=>rfl
 have F14:=yD (st:=j_add.st) l14 c14 k14
 have b14:=F14.binds (ps:=["parts","lines"]) fun _ _ _ _ _ _ us hl=>match us,hl with | [_,_],_=>rfl
 have F15:=yD (st:=j_joined.st) l15 c15 k15
 have b15:=F15.binds (ps:=["base","mine","yours"]) fun _ _ _ _ _ _ us hl=>match us,hl with | [_,_,_],_=>rfl
 have F16:=yD (st:=j_clean.st) l16 c16 k16
 have b16:=F16.binds (ps:=["parts"]) fun _ _ _ _ _ _ us hl=>match us,hl with | [_],_=>rfl
 have F17:=yD (st:=s_at.st) l17 c17 k17
 have b17:=F17.binds (ps:=["base","mine","yours"]) fun _ _ _ _ _ _ us hl=>match us,hl with | [_,_,_],_=>rfl
 have F18:=yD (st:=p_fols.st) l18 c18 k18
 have b18:=F18.binds (ps:=["path"]) fun _ _ _ _ _ _ us hl=>match us,hl with | [_],_=>rfl
 have F19:=yD (st:=s_way.st) l19 c19 k19
 have b19:=F19.binds (ps:=["files"]) fun _ _ _ _ _ _ us hl=>match us,hl with | [_],_=>rfl
 have F20:=yD (st:=s_files.st) l20 c20 k20
 have b20:=F20.binds (ps:=["base","mine","yours"]) fun _ _ _ _ _ _ us hl=>match us,hl with | [_,_,_],_=>rfl
 have F21:=yD (st:=g_is.st) l21 c21 k21
 have b21:=F21.binds (ps:=["_law_found","_law_files","_law_clashes_here"]) fun _ _ _ _ _ _ us hl=>match us,hl with | [_,_,_],_=>rfl
 have F22:=yD (st:=g_law.st) l22 c22 k22
 have b22:=F22.binds (ps:=["_law_script"]) fun _ _ _ _ _ _ us hl=>match us,hl with | [_],_=>rfl
 refine ⟨PySem.W.fnOf "law" "law" (zT g_law.st) (zR g_law.st) (zE g_law.st) .none kV22 dc22 pm22 an22 cd22 ct22,fun s v=>.of_eq rfl,fun base _ _=>?_⟩
 have C0:=Cal.mk' F0 (g_cell.ok (P:=l.prog) (w:=w) (base:=base) F0 T ) (PySem.W.mg_of X G a0) b0
 have C1:=Cal.mk' F1 (g_paths.ok (P:=l.prog) (w:=w) (base:=base) F1 T ) (PySem.W.mg_of X G a1) b1
 have C2:=Cal.mk' F2 (g_case.ok (P:=l.prog) (w:=w) (base:=base) F2 T ) (PySem.W.mg_of X G a2) b2
 have C3:=Cal.mk' F3 (g_sides.ok (P:=l.prog) (w:=w) (base:=base) F3 T ) (PySem.W.mg_of X G a3) b3
 have C4:=Cal.mk' F4 (g_first.ok (P:=l.prog) (w:=w) (base:=base) F4 T ) (PySem.W.mg_of X G a4) b4
 have C5:=Cal.mk' F5 (g_clashes.ok (P:=l.prog) (w:=w) (base:=base) F5 T C4) (PySem.W.mg_of X G a5) b5
 have C6:=Cal.mk' F6 (f_table_row.ok (P:=l.prog) (w:=w) (base:=base) F6 T ) (PySem.W.mg_of X G a6) b6
 have C7:=Cal.mk' F7 (f_common_table.ok (P:=l.prog) (w:=w) (base:=base) F7 T C6) (PySem.W.mg_of X G a7) b7
 have C8:=Cal.mk' F8 (f_kept_pairs.ok (P:=l.prog) (w:=w) (base:=base) F8 T C7) (PySem.W.mg_of X G a8) b8
 have C9:=Cal.mk' F9 (f_spans_of.ok (P:=l.prog) (w:=w) (base:=base) F9 T C8) (PySem.W.mg_of X G a9) b9
 have C10:=Cal.mk' F10 (j_near.ok (P:=l.prog) (w:=w) (base:=base) F10 T ) (PySem.W.mg_of X G a10) b10
 have C11:=Cal.mk' F11 (j_groups.ok (P:=l.prog) (w:=w) (base:=base) F11 T C10) (PySem.W.mg_of X G a11) b11
 have C12:=Cal.mk' F12 (f_spans_done.ok (P:=l.prog) (w:=w) (base:=base) F12 T ) (PySem.W.mg_of X G a12) b12
 have C13:=Cal.mk' F13 (j_side.ok (P:=l.prog) (w:=w) (base:=base) F13 T C12) (PySem.W.mg_of X G a13) b13
 have C14:=Cal.mk' F14 (j_add.ok (P:=l.prog) (w:=w) (base:=base) F14 T ) (PySem.W.mg_of X G a14) b14
 have C15:=Cal.mk' F15 (j_joined.ok (P:=l.prog) (w:=w) (base:=base) F15 T C9 C11 C13 C14) (PySem.W.mg_of X G a15) b15
 have C16:=Cal.mk' F16 (j_clean.ok (P:=l.prog) (w:=w) (base:=base) F16 T ) (PySem.W.mg_of X G a16) b16
 have C17:=Cal.mk' F17 (s_at.ok (P:=l.prog) (w:=w) (base:=base) F17 T C15 C16) (PySem.W.mg_of X G a17) b17
 have C18:=Cal.mk' F18 (p_fols.ok (P:=l.prog) (w:=w) (base:=base) F18 T ) (PySem.W.mg_of X G a18) b18
 have C19:=Cal.mk' F19 (s_way.ok (P:=l.prog) (w:=w) (base:=base) F19 T C18) (PySem.W.mg_of X G a19) b19
 have C20:=Cal.mk' F20 (s_files.ok (P:=l.prog) (w:=w) (base:=base) F20 T C17 C19) (PySem.W.mg_of X G a20) b20
 have C21:=Cal.mk' F21 (g_is.ok (P:=l.prog) (w:=w) (base:=base) F21 T ) (PySem.W.mg_of X G a21) b21
 exact g_law.ok F22 T C0 C1 C2 C3 C5 C20 C21
theorem walk {l:PySem.W.OpenLaw} {q:Program} {loose:List Str} {XP:(Str -> Option Value) -> Heap -> Prop} {YP:World -> Heap -> Prop} {d:DefRec} {K:Params -> PySem.W.Frag} (hn:l.most = some 63) (hdf:d.params.defaults = [])
  (hY:∀ (w:World) (h:Heap),YP w h -> (K w.params).In h)
  (F:∀ (w:World) (mg:Str -> Option Value) (fa:Addr) (h:Heap),(K w.params).In h -> h.Ns mainGlobals mg -> mg d.name = some (.ref fa) ->
   ∃ fd:FuncData,(∀ (s:Shared) (u:Value),BindsTo s fd ⟨[u],[]⟩ [("_law_script",u)]) /\ ∀ base:Heap,(K w.params).In base -> base.Ns mainGlobals mg -> FnOk l.prog w (K w.params) mg base CX0 10 fa fd ["_law_script"] (spLaw (K w.params))) :
  PySem.W.WalkO q loose XP YP l.row.toRowW d [] (fun f vs=>PySem.call f vs) :=
 L2.walk_of (n:=63) (k:=10) (x:="_law_script") (CX:=fun _=>CX0) (sp:=fun w=>spLaw (K w.params)) hn (by decide) hdf ⟨rfl,by decide,by decide⟩ hY F (fun _ _ a ns hl _ hS=>⟨a,ns,rfl,hS,fun _=>rfl⟩) fun _ _ _ _ _ z=>z
end An17
open PySem PySem.W PyProof.Rows
set_option maxRecDepth 100000 in
set_option maxHeartbeats 0 in
theorem PySem.Challenge.cw_annals_k17_paths_joined_holds : PySem.Challenge.rw_annals_k17_paths_joined.Holds := by
 w_on; o_law; k_head; (case hw=>w_witness2)
 k_fill
 refine An17.walk (l:=PySem.Challenge.rw_annals_k17_paths_joined) rfl rfl (fun w h Y=>PySem.W.kIn_of Y) ?F
 case F =>
  intro w mg fa h KX G hmg
  refine' An17.all_mk KX G hmg ?z_len ?z_list ?z_tuple ?z_range ?z_isinstance ?z_int ?z_max ?z_min ?z_sorted ?z_reversed ?z_all ?z_set ?z_dict ?z_str ?z_ONES ?z_OTHERS ?s_kit ?a0 ?l0 ?c0 ?k0 ?a1 ?l1 ?c1 ?k1 ?a2 ?l2 ?c2 ?k2 ?a3 ?l3 ?c3 ?k3 ?a4 ?l4 ?c4 ?k4 ?a5 ?l5 ?c5 ?k5 ?a6 ?l6 ?c6 ?k6 ?a7 ?l7 ?c7 ?k7 ?a8 ?l8 ?c8 ?k8 ?a9 ?l9 ?c9 ?k9 ?a10 ?l10 ?c10 ?k10 ?a11 ?l11 ?c11 ?k11 ?a12 ?l12 ?c12 ?k12 ?a13 ?l13 ?c13 ?k13 ?a14 ?l14 ?c14 ?k14 ?a15 ?l15 ?c15 ?k15 ?a16 ?l16 ?c16 ?k16 ?a17 ?l17 ?c17 ?k17 ?a18 ?l18 ?c18 ?k18 ?a19 ?l19 ?c19 ?k19 ?a20 ?l20 ?c20 ?k20 ?a21 ?l21 ?c21 ?k21 ?a22 ?l22 ?c22 ?k22
  case z_len | z_list | z_tuple | z_range | z_isinstance | z_int | z_max | z_min | z_sorted | z_reversed | z_all | z_set | z_dict | z_str | z_ONES | z_OTHERS | a0 | l0 | c0 | k0 | a1 | l1 | c1 | k1 | a2 | l2 | c2 | k2 | a3 | l3 | c3 | k3 | a4 | l4 | c4 | k4 | a5 | l5 | c5 | k5 | a6 | l6 | c6 | k6 | a7 | l7 | c7 | k7 | a8 | l8 | c8 | k8 | a9 | l9 | c9 | k9 | a10 | l10 | c10 | k10 | a11 | l11 | c11 | k11 | a12 | l12 | c12 | k12 | a13 | l13 | c13 | k13 | a14 | l14 | c14 | k14 | a15 | l15 | c15 | k15 | a16 | l16 | c16 | k16 | a17 | l17 | c17 | k17 | a18 | l18 | c18 | k18 | a19 | l19 | c19 | k19 | a20 | l20 | c20 | k20 | a21 | l21 | c21 | k21 | a22 | l22 | c22 | k22=>k_is
  case s_kit=>(intro a ha b hb; simp only [An17.kinds,List.mem_cons,List.not_mem_nil,or_false] at ha hb; rcases ha with rfl | rfl | rfl | rfl | rfl | rfl | rfl <;> rcases hb with rfl | rfl | rfl | rfl | rfl | rfl | rfl <;> rfl)
