import PyProof.Rows.All
import Wide.All
import OpenK.AllK
import Wide.FinOn
import Lean
import PyProof.EqAt
import PyProof.EqKinds
import PyProof.TupleCall
import PyProof.ListMulRoad
import PyProof.ZipIter
import PyProof.SumAny
import PyProof.CompUse
import PyProof.Rows.SortShellK
import KE.KSortTup
import PyProof.EnumIter
import PyProof.EnumMake
import PyProof.EnumFor
import KE.KRevIter
import PyProof.ListNew
import PyProof.ListStr
import KE.KTryDeep
import PyProof.NsDelKeeps
import PyProof.P3Eq
import PyProof.TupleKey
import PyProof.MinMaxWalk
import PyProof.StrLoop
import PyProof.StrWalks
import PyProof.StrCalls2
import PyProof.FString
import PyProof.Rows.StrNews
import PyProof.Rows.StrWeight2
import KE.KIntText
import PyProof.CollectWalk
import PyProof.SetKind
import PyProof.Rows.SetFrom
import PyProof.Rows.SortWalk
import PyProof.SetRoads
import PyProof.AutoListH
import PyProof.FactsAll.list_4
import PyProof.Rows.MinMaxN
import PyProof.MeetsDict
import PyProof.DictRoadsH
import PyProof.Rows.TupTab
import PyProof.DictItems
import PyProof.CollectIter
import PyProof.DictIter
import PyProof.DictWalks
import PyProof.AutoSeq1
import PyProof.FactsAll.list_3
import PySem.Challenge.RW_paritydesk_k24_nothing_is_kept
def jB:=@PySem.wpAny_bind
def jP:=@PySem.wpAny_pure
def jG:=@PySem.Heap.get?_push_of_some
def jM:=@List.mem_cons_of_mem
def jC:=@List.mem_cons_self
def jH:=@PySem.Heap.lt_size
set_option Elab.async false
set_option linter.all false
set_option maxRecDepth 100000
namespace L2
open PySem PySem.Spec PyProof.Rows
abbrev Key:=Sum Int Str
def SW:Key->Value->Bool
 | .inl k,v=>Value.isInt k v
 | .inr x,v=>Value.isStrOf x v
def keyH (w:World):Key->Int
 | .inl k=>hashInt k
 | .inr x=>hashStr w x
theorem yN:∀ {k:Key} {v:Value},SW k v=true->(∃ i t,k=Sum.inl i/\v=Value.int i t)\/(∃ x t,k=Sum.inr x/\v=Value.str x t)
 | .inl i,v,h=>by
  obtain ⟨t,e⟩:=Value.isInt_shape (k:=i) (v:=v) h;exact .inl ⟨i,t,rfl,e⟩
 | .inr x,v,h=>by
  obtain ⟨t,e⟩:=Value.isStrOf_shape (x:=x) (v:=v) h;exact .inr ⟨x,t,rfl,e⟩
theorem RY (a b:Int):decide ((Sum.inl a:Key)=Sum.inl b)=(a==b):=by
 by_cases e:a=b
 ·subst e;simp
 ·have h:¬ (Sum.inl a:Key)=Sum.inl b:=fun q=>e (Sum.inl.inj q)
  rw [decide_eq_false h];exact (beq_eq_false_iff_ne.mpr e).symm
theorem RV (a b:Str):decide ((Sum.inr a:Key)=Sum.inr b)=decide (a=b):=by
 by_cases e:a=b
 ·subst e;simp
 ·have h:¬ (Sum.inr a:Key)=Sum.inr b:=fun q=>e (Sum.inr.inj q)
  rw [decide_eq_false h,decide_eq_false e]
theorem RX (a:Int) (b:Str):decide ((Sum.inl a:Key)=Sum.inr b)=false:=decide_eq_false (fun q=>nomatch q)
theorem RW (a:Str) (b:Int):decide ((Sum.inr a:Key)=Sum.inl b)=false:=decide_eq_false (fun q=>nomatch q)
def WY (prog:Program) (w:World):PySem.KeyKind prog w Key where
 is:=SW
 hash:=keyH w
 inj:=fun v a b ha hb=>by
  rcases yN ha with ⟨i,t,rfl,rfl⟩ | ⟨x,t,rfl,rfl⟩
  ·rcases yN hb with ⟨j,u,rfl,e⟩ | ⟨y,u,rfl,e⟩
   ·injection e with e1 _;rw [e1]
   ·exact nomatch e
  ·rcases yN hb with ⟨j,u,rfl,e⟩ | ⟨y,u,rfl,e⟩
   ·exact nomatch e
   ·injection e with e1 _;rw [e1]
 byValue:=fun k v h=>by
  rcases yN h with ⟨i,t,rfl,rfl⟩ | ⟨x,t,rfl,rfl⟩<;>rfl
 pyHash:=fun hv h=>by
  rcases yN hv with ⟨i,t,rfl,rfl⟩ | ⟨x,t,rfl,rfl⟩
  ·exact wpAny_pyHash_int h
  ·exact wpAny_pyHash_str h
 eqBool:=fun hu hv h=>by
  rcases yN hu with ⟨i,t,rfl,rfl⟩ | ⟨x,t,rfl,rfl⟩
  ·rcases yN hv with ⟨j,u,rfl,rfl⟩ | ⟨y,u,rfl,rfl⟩
   ·rw [RY] at h;exact wpAny_eqBool_int h
   ·rw [RX] at h;exact SeqAt.EqAt.int_str i t y u _ _ _ _ h
  ·rcases yN hv with ⟨j,u,rfl,rfl⟩ | ⟨y,u,rfl,rfl⟩
   ·rw [RW] at h;exact SeqAt.EqAt.str_int x t j u _ _ _ _ h
   ·rw [RV] at h;exact wpAny_eqBool_str h
 «strs»:=fun k x t v h=>by
  rcases yN h with ⟨i,u,rfl,e⟩ | ⟨y,u,rfl,e⟩
  ·exact nomatch e
  ·injection e with e1 _
   subst e1;cases v<;>rfl
inductive V where
 | non | bl (b:Bool) | int (i:Int) | str (x:Str) | byt (b:Array UInt8) | flt (b:UInt64) | ref (a:Addr) | ty (n:String)
 deriving DecidableEq
def RelV:V->Value->Prop
 | .non,u=>u=Value.none
 | .bl b,u=>u=Value.bool b
 | .int i,u=>∃ t,u=Value.int i t
 | .str x,u=>∃ t,u=Value.str x t
 | .byt b,u=>∃ t,u=Value.bytes b t
 | .flt b,u=>∃ t,u=Value.float b t
 | .ref a,u=>u=Value.ref a
 | .ty n,u=>u=Value.type n
abbrev Vals:List V->List Value->Prop:=Paired RelV
theorem Vals.length {xs:List V} {us:List Value} (r:Vals xs us):xs.length=us.length:=Paired.length r
theorem Vals.get:∀ {xs:List V} {us:List Value} {i:Nat} {x:V},Vals xs us->xs[i]?=some x->∃ u,us[i]?=some u/\RelV x u
 | _,_,_,_,.nil,e=>by simp at e
 | _,_,0,_,.cons r _,e=>by simp at e;subst e;exact ⟨_,rfl,r⟩
 | _,_,i+1,x,.cons _ t,e=>by
  obtain ⟨u,h1,h2⟩:=Vals.get (i:=i) (x:=x) t (by simpa using e);exact ⟨u,by simpa using h1,h2⟩
theorem Vals.set {x:V} {u:Value} (r:RelV x u):∀ {xs:List V} {us:List Value} (i:Nat),Vals xs us->Vals (xs.set i x) (us.set i u)
 | _,_,_,.nil=>.nil
 | _,_,0,.cons _ t=>.cons r t
 | _,_,i+1,.cons q t=>.cons q (Vals.set r i t)
theorem Vals.append:∀ {xs ys:List V} {us ws:List Value},Vals xs us->Vals ys ws->Vals (xs++ys) (us++ws)
 | _,_,_,_,.nil,s=>s
 | _,_,_,_,.cons r t,s=>.cons r (Vals.append t s)
theorem Vals.take:∀ {xs:List V} {us:List Value} (n:Nat),Vals xs us->Vals (xs.take n) (us.take n)
 | _,_,0,_=>.nil
 | _,_,_+1,.nil=>.nil
 | _,_,n+1,.cons r t=>.cons r (Vals.take n t)
theorem Vals.drop:∀ {xs:List V} {us:List Value} (n:Nat),Vals xs us->Vals (xs.drop n) (us.drop n)
 | _,_,0,r=>r
 | _,_,_+1,.nil=>.nil
 | _,_,n+1,.cons _ t=>Vals.drop n t
def AX:Option V->Option Value->Prop
 | some v,some u=>RelV v u
 | none,none=>True
 | _,_=>False
def KV {κ:Type}:List (κ×V)->List (κ×Value)->Prop:=Paired fun (p:κ×V) (q:κ×Value)=>p.1=q.1/\RelV p.2 q.2
def kV:Key->V
 | .inl i=>.int i
 | .inr x=>.str x
inductive HO where
 | lst (xs:List V)
 | tup (xs:List V)
 | dK (kvs:List (Key×V)) | dT (kvs:List (List Key×V))
 | set (S:Int->Bool) (n:Nat)
 | ins (C dx:Addr) (fs:List (Str×V))
 | own (x:Addr)
 | xd (fs:List (Str×V))
 | met (f x:Addr)
 | rng (lo hi:Int)
 | frz (o:Obj) (u:HO)
 | tbl (ps:Array Value)
 | ext (φ:Heap->Prop)
abbrev Hp:=Addr->Option HO
def upd (H:Hp) (a:Addr) (o:HO):Hp:=fun b=>if b=a then some o else H b
theorem zE {H:Hp} {a:Addr} {o:HO}:upd H a o a=some o:=by unfold upd;rw [if_pos rfl]
theorem zu {H:Hp} {a b:Addr} {o:HO} (h:b≠a):upd H a o b=H b:=by unfold upd;rw [if_neg h]
theorem zA {H:Hp} {a b:Addr} {o:HO} (h:H a=some o) (h':H b=none):a≠b:=by
 intro e;subst e;rw [h] at h';cases h'
def IsTupD (h:Heap) (a:Addr) (items:Array Value):Prop:=∃ o,h.get? a=some o/\o.cls=.type "tuple" /\ o.dict=none/\∃ n,o.data=.seq items n
theorem IsTupD.tup {h:Heap} {a:Addr} {items:Array Value} (x:IsTupD h a items):IsTup h a items:=let ⟨o,e,c,_,d⟩:=x;⟨o,e,c,d⟩
theorem IsTupD.new (h:Heap) (items:Array Value):IsTupD (h.push {cls:=.type "tuple",data:=.seq items}) h.objs.size items:=⟨_,Heap.get?_push_size _ rfl,rfl,rfl,_,rfl⟩
section
variable (P:Program) (w:World)
def ObjOk (H:Hp) (h:Heap) (a:Addr):HO->Prop
 | .lst xs=>xs.length<=sizeLine/\∃ (its:List Value) (n:Nat),Vals xs its/\h.get? a=some {cls:=.type "list",data:=.seq its.toArray n}
 | .tup xs=>xs.length<=sizeLine/\∃ its:List Value,Vals xs its/\IsTupD h a its.toArray
 | .dK kvs=>kvs.length<=sizeLine/\(a==sysModules)=false/\∃ vs,KV kvs vs/\h.DictOf (WY P w) a vs
 | .dT kvs=>kvs.length<=sizeLine/\(a==sysModules)=false/\∃ xs:List (List Key×Addr×Value),
   Paired (fun (p:List Key×V) (q:List Key×Addr×Value)=>p.1=q.1/\H q.2.1=some (.tup (p.1.map kV))/\RelV p.2 q.2.2) kvs xs /\
   ∃ o es ep,h.get? a=some o/\o.ExactDict/\o.data=.dict es ep/\es.toList=xs.map (entryOfKey (tupleKind (WY P w)))/\(xs.map (·.1)).Nodup
 | .set S n=>h.SetOf (intKind P w) a S n
 | .ins C dx fs=>H dx=some (.own a)/\fs.length<=1000/\dx≠a/\h.get? a=some (PySem.W.instObj C dx) /\
   ∃ mA,h.Ns1 dx mA/\(∀ f,AX (fs.lookup f) (mA f))/\PySem.Within mA (fs.map (·.1))
 | .own _=>∃ o,h.get? a=some o
 | .xd fs=>∃ mA,h.Ns1 a mA/\∀ f,AX (fs.lookup f) (mA f)
 | .rng lo hi=>∃ t u v,h.get? a=some {cls:=.type "range",data:=.fields #[.int lo t,.int hi u,.int 1 v]}
 | .frz o u=>h.get? a=some o/\ObjOk H h a u
 | .tbl ps=>h.get? a=some {cls:=.none,data:=.fields ps}
 | .met f x=>h.get? a=some (PySem.W.methodObj (.ref f) (.ref x))
 | .ext φ=>φ h/\(∃ o,h.get? a=some o)/\∀ h1 h2:Heap,φ h1->(∀ o,h1.get? a=some o->h2.get? a=some o)->φ h2
def HOk (H:Hp) (h:Heap):Prop:=∀ a o,H a=some o->ObjOk P w H h a o
end
section
variable {P:Program} {w:World} {H H':Hp} {h h':Heap} {a:Addr} {o:HO}
theorem ObjOk.lt (x:ObjOk P w H h a o):a<h.objs.size:=by
 cases o with
 | lst xs=>obtain ⟨_,_,_,_,e⟩:=x;exact jH e
 | tup xs=>obtain ⟨_,_,_,p⟩:=x;exact p.tup.lt
 | dK kvs=>obtain ⟨_,_,_,_,o,_,_,e,_⟩:=x;exact jH e
 | dT kvs=>obtain ⟨_,_,_,_,o,_,_,e,_⟩:=x;exact jH e
 | set S n=>obtain ⟨o,_,_,_,e,_⟩:=x;exact jH e
 | ins C dx fs=>obtain ⟨_,_,_,e,_⟩:=x;exact jH e
 | own y=>obtain ⟨_,e⟩:=x;exact jH e
 | xd fs=>obtain ⟨_,⟨_,_,_,e,_⟩,_⟩:=x;exact jH e
 | rng lo hi=>obtain ⟨_,_,_,e⟩:=x;exact jH e
 | frz ob u=>obtain ⟨e,_⟩:=x;exact jH e
 | tbl ps=>exact jH (show h.get? a=some _ from x)
 | met f y=>exact jH (show h.get? a=some _ from x)
 | ext φ=>obtain ⟨_,⟨_,e⟩,_⟩:=x;exact jH e
theorem Paired.mapP {α β:Type} {F G:α->β->Prop}:∀ {l₁:List α} {l₂:List β},Paired F l₁ l₂->(∀ a b,F a b->G a b)->Paired G l₁ l₂
 | _,_,.nil,_=>.nil
 | _,_,.cons r t,f=>.cons (f _ _ r) (Paired.mapP t f)
theorem ObjOk.stay (x:ObjOk P w H h a o) (k:∀ b u,(b=a\/H b=some (.own a))->h.get? b=some u->h'.get? b=some u)
  (ho:∀ b,H b=some (.own a)->H' b=some (.own a)) (ht:∀ b xs,H b=some (.tup xs)->H' b=some (.tup xs)):ObjOk P w H' h' a o:=by
 induction o with
 | lst xs=>obtain ⟨z,its,n,r,e⟩:=x;exact ⟨z,its,n,r,k _ _ (.inl rfl) e⟩
 | tup xs=>obtain ⟨z,its,r,ob,e,c⟩:=x;exact ⟨z,its,r,ob,k _ _ (.inl rfl) e,c⟩
 | dK kvs=>obtain ⟨z,y,vs,r,ob,es,ep,e,c⟩:=x;exact ⟨z,y,vs,r,ob,es,ep,k _ _ (.inl rfl) e,c⟩
 | dT kvs =>
  obtain ⟨z,y,xs,r,ob,es,ep,e,c⟩:=x;exact ⟨z,y,xs,Paired.mapP r fun p q z=>⟨z.1,ht _ _ z.2.1,z.2.2⟩,ob,es,ep,k _ _ (.inl rfl) e,c⟩
 | set S n=>obtain ⟨ob,es,ep,t,e,c⟩:=x;exact ⟨ob,es,ep,t,k _ _ (.inl rfl) e,c⟩
 | ins C dx fs =>
  obtain ⟨d,z,ne,e,mA,⟨od,es,ep,e2,c⟩,r⟩:=x;exact ⟨ho _ d,z,ne,k _ _ (.inl rfl) e,mA,⟨od,es,ep,k _ _ (.inr d) e2,c⟩,r⟩
 | own y=>obtain ⟨ob,e⟩:=x;exact ⟨ob,k _ _ (.inl rfl) e⟩
 | xd fs=>obtain ⟨mA,⟨od,es,ep,e,c⟩,r⟩:=x;exact ⟨mA,⟨od,es,ep,k _ _ (.inl rfl) e,c⟩,r⟩
 | rng lo hi=>obtain ⟨t,u,v,e⟩:=x;exact ⟨t,u,v,k _ _ (.inl rfl) e⟩
 | frz ob u ih=>obtain ⟨e,q⟩:=x;exact ⟨k _ _ (.inl rfl) e,ih q⟩
 | tbl ps =>
  have e:h.get? a=some {cls:=.none,data:=.fields ps}:=x;show h'.get? a=some {cls:=.none,data:=.fields ps};exact k a _ (.inl rfl) e
 | met f y =>
  have e:h.get? a=some (PySem.W.methodObj (.ref f) (.ref y)):=x;show h'.get? a=some (PySem.W.methodObj (.ref f) (.ref y));exact k a _ (.inl rfl) e
 | ext φ=>obtain ⟨p,⟨o,e⟩,st⟩:=x;exact ⟨st _ _ p fun o q=>k _ _ (.inl rfl) q,⟨o,k _ _ (.inl rfl) e⟩,st⟩
theorem HOk.lt (x:HOk P w H h) (e:H a=some o):a<h.objs.size:=(x a o e).lt
theorem HOk.fresh (x:HOk P w H h) (e:h.objs.size<=a):H a=none:=by
 cases q:H a with
 | none=>rfl
 | some u=>exact absurd (Nat.lt_of_lt_of_le (x.lt q) e) (Nat.lt_irrefl _)
theorem HOk.kept (x:HOk P w H h) (k:∀ b u,h.get? b=some u->h'.get? b=some u):HOk P w H h':=fun a o e =>
 (x a o e).stay (fun b u _ q=>k b u q) (fun _ q=>q) fun _ _ q=>q
theorem HOk.laid (x:HOk P w H h) (k:∀ b u,h.get? b=some u->h'.get? b=some u) (hp:h.objs.size<=a) (new:ObjOk P w (upd H a o) h' a o):HOk P w (upd H a o) h':=fun b u e=>by
 have hn:=x.fresh hp
 by_cases hb:b=a
 ·subst hb;rw [zE] at e;cases e;exact new
 ·rw [zu hb] at e;exact (x b u e).stay (fun c v _ q=>k c v q) (fun c q=>by rw [zu (zA q hn)];exact q) fun c xs q=>by rw [zu (zA q hn)];exact q
end
def Rd (H:Hp) (a:Addr) (u:HO):Prop:=H a=some u\/∃ o,H a=some (.frz o u)
theorem Rd.ok {P:Program} {w:World} {H:Hp} {h:Heap} {a:Addr} {u:HO} (r:Rd H a u) (x:HOk P w H h):ObjOk P w H h a u:=by
 rcases r with r | ⟨o,r⟩
 ·exact x a u r
 ·obtain ⟨_,q⟩:=x a _ r;exact q
def Mut:Option HO->Prop
 | some (.lst _)=>True
 | some (.dK _)=>True
 | some (.dT _)=>True
 | some (.set _ _)=>True
 | some (.ins _ _ _)=>True
 | some (.ext _)=>True
 | _=>False
section
variable {P:Program} {w:World} {H:Hp} {h h':Heap} {x e:Addr} {o':HO}
theorem HOk.write (ok:HOk P w H h) (mu:Mut (H x)) (he:e=x\/H e=some (.own x)) (k:∀ b u,b≠e->h.get? b=some u->h'.get? b=some u) (heo:∃ u,h'.get? e=some u)
  (new:ObjOk P w (upd H x o') h' x o'):HOk P w (upd H x o') h':=fun b u q=>by
 have nown:∀ c y,H c=some (.own y)->c≠x:=fun c y r z=>by subst z;rw [r] at mu;exact mu
 have ntup:∀ c xs,H c=some (.tup xs)->c≠x:=fun c xs r z=>by subst z;rw [r] at mu;exact mu
 by_cases hb:b=x
 ·subst hb;rw [zE] at q;cases q;exact new
 ·rw [zu hb] at q
  by_cases hbe:b=e
  ·have q':H b=some (.own x):=by
    rcases he with z | z
    ·exact absurd (hbe.trans z) hb
    ·rw [hbe];exact z
   rw [q] at q';cases q';obtain ⟨v,hv⟩:=heo;exact ⟨v,by rw [hbe];exact hv⟩
  ·refine (ok b u q).stay (fun c v hc r=>k c v ?_ r) (fun c r=>by rw [zu (nown c b r)];exact r) fun c xs r=>by rw [zu (ntup c xs r)];exact r
   rcases hc with rfl | hc
   ·exact hbe
   ·rintro rfl
    rcases he with z | z
    ·exact nown c b hc z
    ·rw [hc] at z;cases z;exact hb rfl
end
structure Un (fs ex:List Addr) (H H':Hp) (h h':Heap):Prop where
 keep:∀ b o,h.get? b=some o->H b=none->b∉fs->b∉ex->h'.get? b=some o
 slot:∀ b o,h.get? b=some o->H b=none->b∈fs->b∉ex->∃ sl,h'.get? b=some {o with slots:=sl}
 free:∀ b o,h.get? b=some o->H b=none->b∉ex->H' b=none
 there:∀ b o,h.get? b=some o->b∉ex->∃ o',h'.get? b=some o'
 tups:∀ b xs,H b=some (.tup xs)->H' b=some (.tup xs)
 frzs:∀ b o u,H b=some (.frz o u)->H' b=some (.frz o u)
 tbls:∀ b ps,H b=some (.tbl ps)->∃ more,H' b=some (.tbl (ps++more))
section
variable {fs fs' ex ex':List Addr} {H H1 H2:Hp} {h h1 h2 h':Heap} {a x e:Addr} {o:HO}
theorem Un.any (u:Un fs ex H H1 h h1) {b:Addr} {ob:Obj} (q:h.get? b=some ob) (n:H b=none) (hx:b∉ex):∃ sl,h1.get? b=some {ob with slots:=sl}:=by
 by_cases hb:b∈fs
 ·exact u.slot b ob q n hb hx
 ·exact ⟨ob.slots,u.keep b ob q n hb hx⟩
theorem Un.kept (k:∀ b u,h.get? b=some u->h'.get? b=some u):Un fs ex H H h h' :=
 ⟨fun b ob q _ _ _=>k b ob q,fun b ob q _ _ _=>⟨ob.slots,k b ob q⟩,fun _ _ _ n _=>n,fun b ob q _=>⟨ob,k b ob q⟩,fun _ _ q=>q,fun _ _ _ q=>q,fun _ ps q=>⟨#[],by rw [q];simp⟩⟩
theorem Un.refl:Un fs ex H H h h:=Un.kept fun _ _ q=>q
theorem Un.laid (k:∀ b u,h.get? b=some u->h'.get? b=some u) (hp:h.objs.size<=a) (hn:H a=none):Un fs ex H (upd H a o) h h' where
 keep:=fun b u q _ _ _=>k b u q
 slot:=fun b u q _ _ _=>⟨u.slots,k b u q⟩
 free:=fun b u q n _=>by rw [zu (Nat.ne_of_lt (Nat.lt_of_lt_of_le (jH q) hp))];exact n
 there:=fun b u q _=>⟨u,k b u q⟩
 tups:=fun b xs q=>by rw [zu (zA q hn)];exact q
 frzs:=fun b u xs q=>by rw [zu (zA q hn)];exact q
 tbls:=fun b ps q=>⟨#[],by rw [zu (zA q hn),q];simp⟩
theorem Un.write (mu:Mut (H x)) (he:e=x\/H e=some (.own x)) (k:∀ b u,b≠e->h.get? b=some u->h'.get? b=some u) (heo:∃ u,h'.get? e=some u):Un fs ex H (upd H x o) h h':=by
 have hx:∀ b,H b=none->b≠x:=fun b n z=>by subst z;rw [n] at mu;exact mu
 have hb:∀ b,H b=none->b≠e:=fun b n z=>by
  subst z
  rcases he with r | r
  ·exact hx b n r
  ·rw [n] at r;cases r
 have hm:∀ b u,H b=some u->¬ Mut (some u)->b≠x:=fun b u q nm z=>by subst z;rw [q] at mu;exact nm mu
 refine ⟨fun b u q n _ _=>k b u (hb b n) q,fun b u q n _ _=>⟨u.slots,k b u (hb b n) q⟩,fun b u q n _=>by rw [zu (hx b n)];exact n,fun b u q _=>?_,
  fun b xs q=>by rw [zu (hm b _ q fun z=>z)];exact q,fun b u xs q=>by rw [zu (hm b _ q fun z=>z)];exact q,fun b ps q=>⟨#[],by rw [zu (hm b _ q fun z=>z),q];simp⟩⟩
 by_cases hbe:b=e
 ·subst hbe;exact heo
 ·exact ⟨u,k b u hbe q⟩
end
def trk (h:Heap) (H:Hp):List Addr:=(List.range h.objs.size).filter fun a=>(H a).isSome
def Vf (h:Heap) (H:Hp):Heap:=PySem.W.hideAll h (trk h H)
theorem GJ (h:Heap) (H:Hp):(Vf h H).objs.size=h.objs.size:=PySem.W.hideAll_size _ _
theorem NU {h:Heap} {H:Hp} {b:Addr} {o:Obj} (e:h.get? b=some o) (n:H b=none):(Vf h H).get? b=some o :=
 PySem.W.hideAll_get _ e fun hm=>by
  have q:(H b).isSome=true:=(List.mem_filter.mp hm).2;rw [n] at q;simp at q
theorem PD {h:Heap} {H:Hp} {b:Addr} {o:Obj} (e:(Vf h H).get? b=some o):h.get? b=some o/\H b=none:=by
 have e':h.get? b=some o:=PySem.W.of_hideAll (trk h H) e;refine ⟨e',?_⟩;cases q:H b with
 | none=>rfl
 | some x =>
  have hm:b∈trk h H:=List.mem_filter.mpr ⟨List.mem_range.mpr (jH e'),by simp [q]⟩;have z:(Vf h H).get? b=none:=PySem.W.hideAll_none (trk h H) hm;rw [z] at e;cases e
structure Mod (K:PySem.W.Frag) (mg:Str->Option Value) (base:Heap):Prop where
 kin:K.In base
 glob:base.Ns mainGlobals mg
 blt:∃ mb,base.Ns builtinsNs mb/\∀ x:Str,x ≠ "__name__" -> mb x=bootBuiltins x
 nolimit:base.NoLimit
structure Cx where
 prog:Program
 w:World
 K:PySem.W.Frag
 mg:Str->Option Value
 base:Heap
 A:Around
 N:List Str
 s₀:Shared
 H₀:Hp
 env:Env
 outer:List Env
 stack:List Env
 ex:List Addr
 fn:Str->Bool
 calm:Bool
 pn:List (Addr×Obj)
 xe:Value->Shared->Prop
def frs (l:List Env):List Addr:=l.filterMap (·.frame)
abbrev Cx.fs (X:Cx):List Addr:=frs X.outer
def Vis (sc:Scope) (x:Str):Prop:=sc.names.lookup x=some .local\/sc.names.lookup x=some .cell\/sc.names.lookup x=some .free
def Loc (sc:Scope) (x:Str):Prop:=sc.names.lookup x=some .local\/sc.names.lookup x=some .cell
def Dk (env:Env) (h:Heap) (m:Str->Option Value) (x:Str) (u:Value):Prop :=
 (env.kindOf x=some .local/\m x=some u)\/((env.kindOf x=some .cell\/env.kindOf x=some .free)/\∃ c,env.cells.lookup x=some c/\h.IsCell c (some u))
structure Cx.Ok (X:Cx):Prop where
 mod:Mod X.K X.mg X.base
 kind:X.env.scope.kind=.function
 glob:X.env.globals=mainGlobals
 blt:X.env.builtins=builtinsNs
 above:X.s₀.heap.objs.size<=X.env.locals
 inj:∀ x y c,X.env.cells.lookup x=some c->X.env.cells.lookup y=some c->x=y
 has:∀ x,(X.env.kindOf x=some .cell\/X.env.kindOf x=some .free)->∃ c,X.env.cells.lookup x=some c
 cab:∀ x c,X.fn x=true->X.env.cells.lookup x=some c->X.s₀.heap.objs.size<=c
 hd:X.calm=true->X.A.handled=none
 frames:X.A.frames=some X.stack
 stk:X.stack=X.outer\/(X.stack=X.env::X.outer/\X.env.frame=some X.env.locals)
 exf:∀ b∈X.ex,b≠X.env.locals/\∀ x c,X.env.cells.lookup x=some c->c≠b
 bs:∀ b o,X.base.get? b=some o->X.s₀.heap.get? b=some o/\X.H₀ b=none
 bsz:X.base.objs.size<=X.s₀.heap.objs.size
 noex:∀ b o,X.base.get? b=some o->b∉X.ex
 exfs:∀ b∈X.ex,b∉X.fs
 funs:X.s₀.heap.FunFrames X.base X.outer
 frf:∀ b∈X.fs,X.H₀ b=none
structure Inv (X:Cx) (pins:List (Addr×Obj)) (σ:List (Option V)) (H:Hp) (s:Shared):Prop where
 ok:X.Ok
 os:s.os=X.s₀.os
 bare:AllBare s.gens
 base:Un X.fs X.ex X.H₀ H X.s₀.heap s.heap
 loc:∃ m,s.heap.Ns X.env.locals m/\∀ (i:Nat) (x:Str) (v:V),X.N[i]?=some x->σ[i]?=some (some v)->Vis X.env.scope x->∃ u,RelV v u/\Dk X.env s.heap m x u
 cell:∀ x c,X.env.cells.lookup x=some c->∃ v,s.heap.IsCell c v
 free:H X.env.locals=none
 freeC:∀ x c,X.env.cells.lookup x=some c->H c=none
 pin:∀ p∈X.pn++pins,s.heap.get? p.1=some p.2/\H p.1=none/\p.1≠X.env.locals/\p.1∉X.fs/\∀ v,p.2.data≠.cell v
 hok:HOk X.prog X.w H s.heap
 len:σ.length=X.N.length
section
variable {X:Cx} {pins:List (Addr×Obj)} {σ:List (Option V)} {H H':Hp} {s:Shared} {h':Heap}
theorem Cx.Ok.nofr (ok:X.Ok) {b:Addr} {o:Obj} (e:X.base.get? b=some o):b∉X.fs:=fun hb=>by
 have:=(ok.funs.mem hb).1;rw [e] at this;cases this
theorem Inv.bs (I:Inv X pins σ H s):∀ b o,X.base.get? b=some o->s.heap.get? b=some o/\H b=none:=fun b o e =>
 ⟨I.base.keep b o (I.ok.bs b o e).1 (I.ok.bs b o e).2 (I.ok.nofr e) (I.ok.noex b o e),I.base.free b o (I.ok.bs b o e).1 (I.ok.bs b o e).2 (I.ok.noex b o e)⟩
theorem Inv.bk (I:Inv X pins σ H s):∀ b o,X.base.get? b=some o->s.heap.get? b=some o:=fun b o e=>(I.bs b o e).1
theorem Inv.mod (I:Inv X pins σ H s):Mod X.K X.mg X.base:=I.ok.mod
theorem Inv.kIn (I:Inv X pins σ H s):X.K.In s.heap:=I.ok.mod.kin.keeps I.bk
theorem Inv.lt (I:Inv X pins σ H s):X.env.locals<s.heap.objs.size:=let ⟨_,hn,_⟩:=I.loc;hn.lt
theorem Inv.sz (I:Inv X pins σ H s):X.s₀.heap.objs.size<=s.heap.objs.size:=Nat.le_trans I.ok.above (Nat.le_of_lt I.lt)
theorem Inv.nofs (I:Inv X pins σ H s) {a:Addr} (h:s.heap.objs.size<=a):a∉X.fs:=fun hb=>by
 obtain ⟨_,o,ho,_⟩:=I.ok.funs.mem hb;exact absurd (Nat.lt_of_lt_of_le (jH ho) (Nat.le_trans I.sz h)) (Nat.lt_irrefl _)
theorem Inv.cne (I:Inv X pins σ H s):∀ x c,X.env.cells.lookup x=some c->c≠X.env.locals:=fun x c e z=>by
 obtain ⟨v,o,ho,hd⟩:=I.cell x c e;obtain ⟨m,⟨o',es,ep,ho',hd',_⟩,_⟩:=I.loc;rw [z,ho'] at ho;cases ho;rw [hd'] at hd;cases hd
theorem Inv.funs (I:Inv X pins σ H s):s.heap.FunFrames X.base X.outer:=by
 have all:∀ (l:List Env),(∀ b∈frs l,b∈X.fs)->X.s₀.heap.FunFrames X.base l->s.heap.FunFrames X.base l:=by
  intro l
  induction l with
  | nil=>intro _ _;trivial
  | cons env r ih =>
   intro hs hl;obtain ⟨hk,⟨L,o,hf,hn,ho,hd⟩,hr⟩:=hl;have hL:L∈X.fs:=hs L (by unfold frs;rw [List.filterMap_cons,hf];exact jC);obtain ⟨sl,e⟩:=I.base.slot L o ho (I.ok.frf L hL) hL fun z=>I.ok.exfs L z hL
   exact ⟨hk,⟨L,_,hf,hn,e,hd⟩,ih (fun b hb=>hs b (by unfold frs;rw [List.filterMap_cons,hf];exact jM _ hb)) hr⟩
 exact all X.outer (fun _ hb=>hb) I.ok.funs
theorem Inv.stack (I:Inv X pins σ H s):s.heap.FunFrames X.base X.stack:=by
 rcases I.ok.stk with e | ⟨e,hf⟩
 ·rw [e];exact I.funs
 ·rw [e];obtain ⟨m,hn,_⟩:=I.loc;refine .cons (by rw [I.ok.kind];decide) hf hn ?_ I.funs;exact Heap.get?_none_of_le (Nat.le_trans I.ok.bsz I.ok.above)
theorem Inv.stkSub (I:Inv X pins σ H s):∀ b∈frs X.stack,b∈X.env.locals::X.fs:=fun b hb=>by
 rcases I.ok.stk with e | ⟨e,hf⟩
 ·rw [e] at hb;exact jM _ hb
 ·rw [e] at hb;unfold frs at hb;rw [List.filterMap_cons,hf] at hb;exact hb
theorem Inv.stkFree (I:Inv X pins σ H s):∀ b∈frs X.stack,H b=none:=fun b hb=>by
 rcases List.mem_cons.mp (I.stkSub b hb) with e | hb
 ·rw [e];exact I.free
 ·obtain ⟨_,o,ho,_⟩:=I.ok.funs.mem hb;exact I.base.free b o ho (I.ok.frf b hb) fun z=>I.ok.exfs b z hb
theorem Inv.step {g':Array GenState} {t':Nat} {d':Drawn} {ch:List Addr} (I:Inv X pins σ H s)
  (hch:∀ b∈ch,(b∈X.ex\/X.s₀.heap.objs.size<=b)/\b≠X.env.locals/\(∀ x c,X.env.cells.lookup x=some c->c≠b)/\∀ p∈X.pn++pins,p.1≠b)
  (keep:∀ b o,b≠X.env.locals->b∉X.fs->b∉ch->s.heap.get? b=some o->H b=none->h'.get? b=some o)
  (slot:∀ b o,b≠X.env.locals->b∈X.fs->b∉ch->s.heap.get? b=some o->H b=none->∃ sl,h'.get? b=some {o with slots:=sl}) (free:∀ b o,b∉ch->s.heap.get? b=some o->H b=none->H' b=none)
  (there:∀ b o,b∉ch->s.heap.get? b=some o->∃ o',h'.get? b=some o')
  (tups:∀ b xs,H b=some (.tup xs)->H' b=some (.tup xs)) (frzs:∀ b o u,H b=some (.frz o u)->H' b=some (.frz o u)) (tbls:∀ b ps,H b=some (.tbl ps)->∃ more,H' b=some (.tbl (ps++more)))
  (ns:∀ m,s.heap.Ns X.env.locals m->h'.Ns X.env.locals m) (hok:HOk X.prog X.w H' h') (hg:AllBare g') :
  Inv X pins σ H' {s with heap:=h',gens:=g',drawn:=d',toks:=t'}:=by
 have neL:∀ b o,X.s₀.heap.get? b=some o->b≠X.env.locals:=fun b o e=>Nat.ne_of_lt (Nat.lt_of_lt_of_le (jH e) I.ok.above)
 have neC:∀ b o,X.s₀.heap.get? b=some o->b∉X.ex->b∉ch:=fun b o e hx hb=>by
  rcases (hch b hb).1 with z | z
  ·exact hx z
  ·exact absurd (Nat.lt_of_lt_of_le (jH e) z) (Nat.lt_irrefl _)
 have cellK:∀ x c,X.env.cells.lookup x=some c->∀ v,s.heap.IsCell c v->h'.IsCell c v:=fun x c e v ⟨o,ho,hd⟩=>by
  have nch:c∉ch:=fun z=>(hch c z).2.2.1 x c e rfl
  by_cases hc:c∈X.fs
  ·obtain ⟨sl,q⟩:=slot c o (I.cne x c e) hc nch ho (I.freeC x c e);exact ⟨_,q,hd⟩
  ·exact ⟨o,keep c o (I.cne x c e) hc nch ho (I.freeC x c e),hd⟩
 refine ⟨I.ok,I.os,hg,⟨fun b o e n hb hx=>?_,fun b o e n hb hx=>?_,fun b o e n hx=>?_,fun b o e hx=>?_,fun b xs e=>tups b xs (I.base.tups b xs e),fun b o xs e=>frzs b o xs (I.base.frzs b o xs e),fun b ps e=>?_⟩,?_,fun x c e=>?_,?_,fun x c e=>?_,fun p hp=>?_,hok,I.len⟩
 ·exact keep b o (neL b o e) hb (neC b o e hx) (I.base.keep b o e n hb hx) (I.base.free b o e n hx)
 ·obtain ⟨sl,e1⟩:=I.base.slot b o e n hb hx;obtain ⟨sl',e2⟩:=slot b _ (neL b o e) hb (neC b o e hx) e1 (I.base.free b o e n hx);exact ⟨sl',e2⟩
 ·obtain ⟨o',e1⟩:=I.base.there b o e hx;exact free b o' (neC b o e hx) e1 (I.base.free b o e n hx)
 ·obtain ⟨o',e1⟩:=I.base.there b o e hx;exact there b o' (neC b o e hx) e1
 ·obtain ⟨m1,e1⟩:=I.base.tbls b ps e;obtain ⟨m2,e2⟩:=tbls b _ e1;exact ⟨m1++m2,by rw [e2,Array.append_assoc]⟩
 ·obtain ⟨m,hn,hl⟩:=I.loc;refine ⟨m,ns m hn,fun i x v e1 e2 e3=>?_⟩
  obtain ⟨u,r,l⟩:=hl i x v e1 e2 e3;refine ⟨u,r,?_⟩
  rcases l with l | ⟨k,c,e,z⟩
  ·exact .inl l
  ·exact .inr ⟨k,c,e,cellK x c e _ z⟩
 ·obtain ⟨v,z⟩:=I.cell x c e;exact ⟨v,cellK x c e v z⟩
 ·obtain ⟨m,⟨o,_,_,ho,_⟩,_⟩:=I.loc;exact free _ o (fun z=>(hch _ z).2.1 rfl) ho I.free
 ·obtain ⟨v,o,ho,hd⟩:=I.cell x c e;exact free c o (fun z=>(hch c z).2.2.1 x c e rfl) ho (I.freeC x c e)
 ·obtain ⟨e,n,ne,nf,d⟩:=I.pin p hp;have nch:p.1∉ch:=fun z=>(hch p.1 z).2.2.2 p hp rfl
  exact ⟨keep p.1 p.2 ne nf nch e n,free p.1 p.2 nch e n,ne,nf,d⟩
theorem Inv.un {t':Nat} (I:Inv X pins σ H s) (u:Un X.fs [] H H' s.heap h') (hok:HOk X.prog X.w H' h'):Inv X pins σ H' {s with heap:=h',toks:=t'}:=by
 obtain ⟨m,⟨o,es,ep,ho,r⟩,_⟩:=id I.loc;obtain ⟨sl,hL⟩:=u.any ho I.free (by simp);exact I.step (g':=s.gens) (d':=s.drawn) (ch:=[]) (fun _ z=>nomatch z) (fun b o _ hb _ e n=>u.keep b o e n hb (by simp)) (fun b o _ hb _ e n=>u.slot b o e n hb (by simp)) (fun b o _ e n=>u.free b o e n (by simp)) (fun b o _ e=>u.there b o e (by simp)) u.tups u.frzs u.tbls (fun m' hm=>by
  obtain ⟨o',es',ep',ho',r'⟩:=hm;rw [ho] at ho';cases ho';exact ⟨_,es',ep',hL,r'⟩) hok I.bare
theorem Inv.call {g':Array GenState} {t':Nat} {d':Drawn} {ch:List Addr} (I:Inv X pins σ H s) (u:Un (frs X.stack) ch H H' s.heap h') (hok:HOk X.prog X.w H' h') (hg:AllBare g')
  (hch:∀ b∈ch,(b∈X.ex\/X.s₀.heap.objs.size<=b)/\b≠X.env.locals/\(∀ x c,X.env.cells.lookup x=some c->c≠b)/\∀ p∈X.pn++pins,p.1≠b) :
  Inv X pins σ H' {s with heap:=h',gens:=g',drawn:=d',toks:=t'}:=by
 obtain ⟨m,⟨o,es,ep,ho,r⟩,_⟩:=id I.loc;obtain ⟨sl,hL⟩:=u.any ho I.free fun z=>(hch _ z).2.1 rfl
 exact I.step (ch:=ch) hch (fun b o hL hb hc e n=>u.keep b o e n (fun z=>(List.mem_cons.mp (I.stkSub b z)).elim hL hb) hc) (fun b o _ _ hc e n=>u.any e n hc) (fun b o hc e n=>u.free b o e n hc) (fun b o hc e=>u.there b o e hc) u.tups u.frzs u.tbls (fun m' hm=>by
  obtain ⟨o',es',ep',ho',r'⟩:=hm;rw [ho] at ho';cases ho';exact ⟨_,es',ep',hL,r'⟩) hok hg
theorem Inv.turned {t':Nat} {it:Addr} (I:Inv X pins σ H s) (k:∀ b o,b≠it->s.heap.get? b=some o->h'.get? b=some o) (hn:H it=none) (hL:it≠X.env.locals)
  (h1:it∈X.ex\/X.s₀.heap.objs.size<=it) (h2:∀ x c,X.env.cells.lookup x=some c->c≠it) (h3:∀ p∈X.pn++pins,p.1≠it):Inv X pins σ H {s with heap:=h',toks:=t'}:=by
 have nit:∀ b u,H b=some u->b≠it:=fun b u e z=>by rw [z,hn] at e;cases e
 refine I.step (g':=s.gens) (d':=s.drawn) (ch:=[it]) (fun b hb=>?_) (fun b o _ _ hc e _=>k b o (fun z=>hc (by simp [z])) e) (fun b o _ _ hc e _=>⟨o.slots,k b o (fun z=>hc (by simp [z])) e⟩) (fun _ _ _ _ n=>n)
  (fun b o hc e=>⟨o,k b o (fun z=>hc (by simp [z])) e⟩) (fun _ _ e=>e) (fun _ _ _ e=>e) (fun b ps e=>⟨#[],by rw [e];simp⟩) (fun m hm=>?_) (fun b u e=>?_) I.bare
 ·have e:b=it:=by simpa using hb
  subst e;exact ⟨h1,hL,h2,h3⟩
 ·obtain ⟨o,es,ep,ho,r⟩:=hm;exact ⟨o,es,ep,k _ o (Ne.symm hL) ho,r⟩
 ·refine (I.hok b u e).stay (fun c v hc q=>k c v ?_ q) (fun _ q=>q) fun _ _ q=>q
  rcases hc with z | z
  ·rw [z];exact nit b u e
  ·exact nit c _ z
theorem Inv.tok (I:Inv X pins σ H s) (t:Nat):Inv X pins σ H {s with toks:=t}:=I.un (h':=s.heap) (t':=t) Un.refl I.hok
theorem Inv.kept {t':Nat} (I:Inv X pins σ H s) (k:∀ b u,s.heap.get? b=some u->h'.get? b=some u):Inv X pins σ H {s with heap:=h',toks:=t'}:=I.un (Un.kept k) (I.hok.kept k)
theorem Inv.laid {a:Addr} {o:HO} {t':Nat} (I:Inv X pins σ H s) (k:∀ b u,s.heap.get? b=some u->h'.get? b=some u) (hp:s.heap.objs.size<=a) (new:ObjOk X.prog X.w (upd H a o) h' a o) :
  Inv X pins σ (upd H a o) {s with heap:=h',toks:=t'}:=I.un (Un.laid k hp (I.hok.fresh hp)) (I.hok.laid k hp new)
theorem Inv.write {x e:Addr} {o:HO} {t':Nat} (I:Inv X pins σ H s) (mu:Mut (H x)) (he:e=x\/H e=some (.own x)) (k:∀ b u,b≠e->s.heap.get? b=some u->h'.get? b=some u) (heo:∃ u,h'.get? e=some u)
  (new:ObjOk X.prog X.w (upd H x o) h' x o):Inv X pins σ (upd H x o) {s with heap:=h',toks:=t'}:=I.un (Un.write mu he k heo) (I.hok.write mu he k heo new)
theorem Inv.pins_of {pins':List (Addr×Obj)} (I:Inv X pins σ H s) (h:∀ p∈pins',s.heap.get? p.1=some p.2/\H p.1=none/\p.1≠X.env.locals/\p.1∉X.fs/\∀ v,p.2.data≠.cell v):Inv X pins' σ H s :=
 ⟨I.ok,I.os,I.bare,I.base,I.loc,I.cell,I.free,I.freeC,fun p hp=>(List.mem_append.mp hp).elim (fun z=>I.pin p (List.mem_append_left _ z)) (h p),I.hok,I.len⟩
theorem Ut {N:List Str} (hN:N.Nodup) {i j:Nat} {x:Str} (a:N[i]?=some x) (b:N[j]?=some x):i=j:=by
 obtain ⟨h1,e1⟩:=List.getElem?_eq_some_iff.mp a;obtain ⟨h2,e2⟩:=List.getElem?_eq_some_iff.mp b;exact (List.getElem_inj hN).mp (e1.trans e2.symm)
theorem Zb {M:Model} {A:Around} {E:Value->Shared->Prop} {i:Nat} {x:Str} {v:V} {u:Value} {Q:Unit->Shared->Prop} (I:Inv X pins σ H s) (hN:X.N.Nodup) (hi:X.N[i]?=some x) (hx:Loc X.env.scope x) (r:RelV v u)
  (h:∀ s',Inv X pins (σ.set i (some v)) H s'->(∃ a,Heap.SameBut a s.heap s'.heap/\(a=X.env.locals\/X.env.cells.lookup x=some a))->Q () s') (hf:X.fn x=true\/X.env.scope.names.lookup x=some .local:=by first | exact .inl rfl | exact .inr rfl | assumption):wpAny M A (storeName X.env x u) Q E s:=by
 obtain ⟨m,hn,hl⟩:=id I.loc;have hcls:(X.env.scope.kind==.class||(X.env.scope.kind==.module&&X.env.locals != X.env.globals))=false:=by rw [I.ok.kind];rfl
 have hiσ:i<σ.length:=by rw [I.len];exact (List.getElem?_eq_some_iff.mp hi).1
 have cne:=I.cne;have tracked:∀ {a:Addr} {h':Heap},(∃ o,s.heap.get? a=some o/\H a=none)->Heap.SameBut a s.heap h'->HOk X.prog X.w H h':=fun {a h'} ha hs b ob e=>by
  obtain ⟨_,_,hfree⟩:=ha;refine (I.hok b ob e).stay (fun c w' hc q=>(hs.2 c ?_).trans q) (fun _ q=>q) fun _ _ q=>q
  rintro rfl
  rcases hc with rfl | hc
  ·rw [hfree] at e;cases e
  ·rw [hfree] at hc;cases hc
 rcases hx with hk | hk
 ·refine wpAny_storeName_local hk hn (fun h' hn' hs=>?_) hcls;obtain ⟨oL,_,_,hoL,_⟩:=id hn;refine h _ ⟨I.ok,I.os,I.bare,⟨fun b o e n hb hx=>?_,fun b o e n hb hx=>?_,I.base.free,fun b o e hx=>?_,I.base.tups,I.base.frzs,I.base.tbls⟩,⟨_,hn',fun j y v' e1 e2 e3=>?_⟩,fun y c e=>?_,I.free,I.freeC,fun p hp=>?_,tracked ⟨oL,hoL,I.free⟩ hs,by simpa using I.len⟩ ⟨_,hs,.inl rfl⟩
  ·exact (hs.2 b (Nat.ne_of_lt (Nat.lt_of_lt_of_le (jH e) I.ok.above))).trans (I.base.keep b o e n hb hx)
  ·obtain ⟨sl,e1⟩:=I.base.slot b o e n hb hx;exact ⟨sl,(hs.2 b (Nat.ne_of_lt (Nat.lt_of_lt_of_le (jH e) I.ok.above))).trans e1⟩
  ·obtain ⟨o',e1⟩:=I.base.there b o e hx;exact ⟨o',(hs.2 b (Nat.ne_of_lt (Nat.lt_of_lt_of_le (jH e) I.ok.above))).trans e1⟩
  ·by_cases hj:j=i
   ·subst hj;rw [hi] at e1;cases e1;rw [List.getElem?_set_self hiσ] at e2;cases e2;exact ⟨u,r,.inl ⟨hk,by simp⟩⟩
   ·rw [List.getElem?_set_ne (Ne.symm hj)] at e2;obtain ⟨u',r',q⟩:=hl j y v' e1 e2 e3;refine ⟨u',r',?_⟩
    rcases q with ⟨k,e⟩ | ⟨k,c,e,z⟩
    ·refine .inl ⟨k,?_⟩;have:y≠x:=fun e=>hj (Ut hN e1 (e ▸ hi))
     simp [this,e]
    ·exact .inr ⟨k,c,e,z.sameBut hs (cne y c e)⟩
  ·obtain ⟨w',z⟩:=I.cell y c e;exact ⟨w',z.sameBut hs (cne y c e)⟩
  ·obtain ⟨e,n,ne,nf,d⟩:=I.pin p hp;exact ⟨(hs.2 p.1 ne).trans e,n,ne,nf,d⟩
 ·have hfn:X.fn x=true:=by
   rcases hf with z | z
   ·exact z
   ·rw [z] at hk;cases hk
  obtain ⟨c,hc⟩:=I.ok.has x (.inl hk);obtain ⟨w',z⟩:=I.cell x c hc;refine wpAny_storeName_cell I.ok.kind hk hc z (fun h' hc' hs=>?_);obtain ⟨oc,hoc,hocd⟩:=id z;refine h {s with heap:=h'} ⟨I.ok,I.os,I.bare,⟨fun b o e n hb hx=>?_,fun b o e n hb hx=>?_,I.base.free,fun b o e hx=>?_,I.base.tups,I.base.frzs,I.base.tbls⟩,⟨m,hn.sameBut hs (Ne.symm (cne x c hc)),fun j y v' e1 e2 e3=>?_⟩,fun y c' e=>?_,I.free,I.freeC,fun p hp=>?_,tracked ⟨oc,hoc,I.freeC x c hc⟩ hs,by simpa using I.len⟩ ⟨c,hs,.inr hc⟩
  ·exact (hs.2 b (Nat.ne_of_lt (Nat.lt_of_lt_of_le (jH e) (I.ok.cab x c hfn hc)))).trans (I.base.keep b o e n hb hx)
  ·obtain ⟨sl,e1⟩:=I.base.slot b o e n hb hx;exact ⟨sl,(hs.2 b (Nat.ne_of_lt (Nat.lt_of_lt_of_le (jH e) (I.ok.cab x c hfn hc)))).trans e1⟩
  ·obtain ⟨o',e1⟩:=I.base.there b o e hx;exact ⟨o',(hs.2 b (Nat.ne_of_lt (Nat.lt_of_lt_of_le (jH e) (I.ok.cab x c hfn hc)))).trans e1⟩
  ·by_cases hj:j=i
   ·subst hj;rw [hi] at e1;cases e1;rw [List.getElem?_set_self hiσ] at e2;cases e2;exact ⟨u,r,.inr ⟨.inl hk,c,hc,hc'⟩⟩
   ·rw [List.getElem?_set_ne (Ne.symm hj)] at e2;obtain ⟨u',r',q⟩:=hl j y v' e1 e2 e3;refine ⟨u',r',?_⟩
    rcases q with q | ⟨k,c',e,z'⟩
    ·exact .inl q
    ·refine .inr ⟨k,c',e,z'.sameBut hs ?_⟩;rintro rfl;exact hj (Ut hN e1 (I.ok.inj _ _ _ e hc ▸ hi))
  ·by_cases hcc:c'=c
   ·subst hcc;exact ⟨_,hc'⟩
   ·obtain ⟨w2,z2⟩:=I.cell y c' e;exact ⟨w2,z2.sameBut hs hcc⟩
  ·obtain ⟨e,n,ne,nf,d⟩:=I.pin p hp;refine ⟨(hs.2 p.1 ?_).trans e,n,ne,nf,d⟩;intro q;rw [q,hoc] at e;have q':oc=p.2:=Option.some.inj e;exact d w' (by rw [<- q'];exact hocd)
theorem VE {M:Model} {A:Around} {E:Value->Shared->Prop} {i:Nat} {x:Str} {v:V} {u:Value} {Q:Unit->Shared->Prop} (I:Inv X pins σ H s) (hN:X.N.Nodup) (hi:X.N[i]?=some x) (hx:Loc X.env.scope x) (r:RelV v u)
  (h:∀ s',Inv X pins (σ.set i (some v)) H s'->Q () s') (hf:X.fn x=true\/X.env.scope.names.lookup x=some .local:=by first | exact .inl rfl | exact .inr rfl | assumption):wpAny M A (storeName X.env x u) Q E s :=
 Zb I hN hi hx r (fun s' I' _=>h s' I') hf
end
abbrev XK:=Value->Option Addr->Hp->Prop
abbrev St:=List (Option V)
abbrev VK:=V->Hp->Prop
abbrev TE:=St->Hp->VK->Prop
abbrev TT:=St->Hp->(Bool->Hp->Prop)->Prop
abbrev TA:=St->Hp->(List V->Hp->Prop)->Prop
structure Ends where
 nx:St->Hp->Prop
 rt:VK
 bk:St->Hp->Prop:=fun _ _=>False
 ct:St->Hp->Prop:=fun _ _=>False
abbrev TS:=Ends->St->Hp->Prop
def EP (X:Cx) (pins:List (Addr×Obj)) (σ:St) (Q:VK) (u:Value) (s':Shared):Prop:=∃ v H',Inv X pins σ H' s'/\RelV v u/\Q v H'
def TP (X:Cx) (pins:List (Addr×Obj)) (σ:St) (Q:Bool->Hp->Prop) (b:Bool) (s':Shared):Prop:=∃ H',Inv X pins σ H' s'/\Q b H'
def AP (X:Cx) (pins:List (Addr×Obj)) (σ:St) (Q:List V->Hp->Prop) (us:List Value) (s':Shared):Prop:=∃ vs H',Inv X pins σ H' s'/\Vals vs us/\Q vs H'
def SP (X:Cx) (pins:List (Addr×Obj)) (D:Ends) (f:Flow) (s':Shared):Prop :=
 match f with
 | .next=>∃ σ' H',Inv X pins σ' H' s'/\D.nx σ' H'
 | .brk=>∃ σ' H',Inv X pins σ' H' s'/\D.bk σ' H'
 | .cont=>∃ σ' H',Inv X pins σ' H' s'/\D.ct σ' H'
 | .ret u=>∃ v σ' H',Inv X pins σ' H' s'/\RelV v u/\D.rt v H'
def PE (X:Cx) (e:Expr) (t:TE):Prop :=
 ∀ (pins:List (Addr×Obj)) (s:Shared) (σ:St) (H:Hp) (Q:VK),Inv X pins σ H s->t σ H Q->wpAny (model X.prog X.w) X.A (eval e X.env) (EP X pins σ Q) X.xe s
def PT (X:Cx) (e:Expr) (t:TT):Prop :=
 ∀ (pins:List (Addr×Obj)) (s:Shared) (σ:St) (H:Hp) (Q:Bool->Hp->Prop),Inv X pins σ H s->t σ H Q->wpAny (model X.prog X.w) X.A (isTrue e X.env (eval e X.env)) (TP X pins σ Q) X.xe s
def PW (X:Cx) (e:Expr) (t:TT):Prop :=
 ∀ (whole:Sem Value) (pins:List (Addr×Obj)) (s:Shared) (σ:St) (H:Hp) (Q:Bool->Hp->Prop),Inv X pins σ H s->t σ H Q->wpAny (model X.prog X.w) X.A (isTrue e X.env whole) (TP X pins σ Q) X.xe s
theorem PW.pt {X:Cx} {e:Expr} {t:TT} (h:PW X e t):PT X e t:=h _
def PA (X:Cx) (es:List Expr) (t:TA):Prop :=
 ∀ (pos:Pos) (pins:List (Addr×Obj)) (s:Shared) (σ:St) (H:Hp) (Q:List V->Hp->Prop),Inv X pins σ H s->t σ H Q->wpAny (model X.prog X.w) X.A (spliced (backTo pos (starEach es X.env))) (AP X pins σ Q) X.xe s
def PS (X:Cx) (st:Stmt) (t:TS):Prop :=
 ∀ (pins:List (Addr×Obj)) (s:Shared) (σ:St) (H:Hp) (D:Ends),Inv X pins σ H s->t D σ H->wpAny (model X.prog X.w) X.A (exec st X.env) (SP X pins D) X.xe s
def PSs (X:Cx) (st:List Stmt) (t:TS):Prop :=
 ∀ (pins:List (Addr×Obj)) (s:Shared) (σ:St) (H:Hp) (D:Ends),Inv X pins σ H s->t D σ H->wpAny (model X.prog X.w) X.A (execs st X.env) (SP X pins D) X.xe s
theorem thn {α:Type} {t:Sem α} {Q Q':α->Shared->Prop} {M:Model} {A:Around} {E:Value->Shared->Prop} {s:Shared} (h:wpAny M A t Q E s) (hQ:∀ a s,Q a s->Q' a s):wpAny M A t Q' E s:=wpAny_mono h hQ fun _ _ x=>x
section
variable {X:Cx}
def LN (i:Nat):TE:=fun σ H Q=>∃ v,σ[i]?=some (some v)/\Q v H
def tC (v:V):TE:=fun _ H Q=>Q v H
theorem vM {i:Nat} {x:Str} {pos:Pos} (hN:X.N[i]?=some x) (hv:Vis X.env.scope x) (hd:(x==("__debug__" : Str))=false:=by decide) (hcd:(x==("__classdict__" : Str))=false:=by decide):PE X (.Name x pos) (LN i):=by
 intro pins s σ H Q I h;obtain ⟨v,e,h⟩:=h;obtain ⟨m,hn,hl⟩:=I.loc;obtain ⟨u,r,l⟩:=hl i x v hN e hv;have fin:EP X pins σ Q u s:=⟨v,H,I,r,h⟩
 rcases l with ⟨hk,hm⟩ | ⟨hk,c,hc,hcell⟩
 ·exact wpAny_Name (wpAny_loadName_local I.ok.kind hk hn hm fin) hd
 ·rcases hk with hk | hk
  ·exact wpAny_Name (wpAny_loadName_cell I.ok.kind hk hc hcell fin) hd
  ·exact wpAny_Name (wpAny_loadName_free I.ok.kind hk hc hcell fin hcd) hd
theorem RB {i j pos}:PE X (.Constant (.int i) j pos) (tC (.int i)):=fun _ _ _ H _ I h=>wpAny_Constant_int ⟨.int i,H,I.tok _,⟨_,rfl⟩,h⟩
theorem SR {b j pos}:PE X (.Constant (.bool b) j pos) (tC (.bl b)):=fun _ _ _ H _ I h=>Constant_bool ⟨.bl b,H,I,rfl,h⟩
theorem RA {j pos}:PE X (.Constant .none j pos) (tC .non):=fun _ _ _ H _ I h=>Constant_none ⟨.non,H,I,rfl,h⟩
def Gl (X:Cx) (x:Str):Prop:=X.env.kindOf x=some .globalImplicit
theorem Ki {E:Value->Shared->Prop} {pins:List (Addr×Obj)} {s:Shared} {σ:St} {H:Hp} {x:Str} {u:Value} {pos:Pos} {Q:Value->Shared->Prop} (I:Inv X pins σ H s) (hg:Gl X x) (hm:X.mg x=some u) (h:Q u s)
  (hd:(x==("__debug__" : Str))=false:=by decide):wpAny (model X.prog X.w) X.A (eval (.Name x pos) X.env) Q E s :=
 Calls.Name_function_global I.ok.kind hg (Calls.loadGlobal_global (by rw [I.ok.glob];exact I.mod.glob.keeps I.bk) hm h) hd
theorem vv {E:Value->Shared->Prop} {pins:List (Addr×Obj)} {s:Shared} {σ:St} {H:Hp} {x:Str} {u:Value} {pos:Pos} {Q:Value->Shared->Prop} (I:Inv X pins σ H s) (hg:Gl X x) (hm:X.mg x=none) (hv:bootBuiltins x=some u) (h:Q u s)
  (hn:x ≠ "__name__" := by decide) (hd:(x==("__debug__" : Str))=false:=by decide):wpAny (model X.prog X.w) X.A (eval (.Name x pos) X.env) Q E s:=by
 obtain ⟨mb,h1,h2⟩:=I.mod.blt;exact Calls.Name_function_global I.ok.kind hg (Calls.loadGlobal_builtin (by rw [I.ok.glob];exact I.mod.glob.keeps I.bk) hm (by rw [I.ok.blt];exact h1.keeps I.bk) ((h2 x hn).trans hv) h) hd
theorem JW {x:Str} {v:V} {u:Value} {pos:Pos} (hg:Gl X x) (hm:X.mg x=some u) (r:RelV v u) (hd:(x==("__debug__" : Str))=false:=by decide):PE X (.Name x pos) (tC v) :=
 fun _ _ _ H _ I h=>Ki I hg hm ⟨v,H,I,r,h⟩ hd
theorem Pq {x:Str} {v:V} {u:Value} {pos:Pos} (hg:Gl X x) (hm:X.mg x=none) (hv:bootBuiltins x=some u) (r:RelV v u) (hn:x ≠ "__name__" := by decide) (hd:(x==("__debug__" : Str))=false:=by decide):PE X (.Name x pos) (tC v) :=
 fun _ _ _ H _ I h=>vv I hg hm hv ⟨v,H,I,r,h⟩ hn hd
variable {a b:Expr} {ta tb:TE} {pos:Pos}
variable {tA tB':TT} {rest:List Expr}
def Es (t u:TT):TT:=fun σ H Q=>t σ H fun c H1=>if c=true then u σ H1 Q else Q false H1
def tOr (t u:TT):TT:=fun σ H Q=>t σ H fun c H1=>if c=true then Q true H1 else u σ H1 Q
def Ej (t:TT):TT:=fun σ H Q=>t σ H fun c H1=>Q (!c) H1
theorem Pj (ha:PT X a tA):PW X (.BoolOp .And [a] pos) tA:=by
 intro wh pins s σ H Q I h;refine isTrue_and (thn (ha pins s σ H Q I h) fun c s1 e=>?_)
 cases c with
 | true=>exact isTrue_and_nil e
 | false=>exact e
theorem Rp (ha:PT X a tA):PW X (.BoolOp .Or [a] pos) tA:=by
 intro wh pins s σ H Q I h;refine isTrue_or (thn (ha pins s σ H Q I h) fun c s1 e=>?_)
 cases c with
 | false=>exact isTrue_or_nil e
 | true=>exact e
theorem Rq (ha:PT X a tA) (hb:PW X (.BoolOp .And (b::rest) pos) tB'):PW X (.BoolOp .And (a::b::rest) pos) (Es tA tB'):=by
 intro wh pins s σ H Q I h;refine isTrue_and (thn (ha pins s σ H _ I h) fun c s1 ⟨H1,I1,q1⟩=>?_)
 cases c with
 | true=>exact hb wh pins s1 σ H1 Q I1 q1
 | false=>exact ⟨H1,I1,q1⟩
theorem Am (ha:PT X a tA) (hb:PW X (.BoolOp .Or (b::rest) pos) tB'):PW X (.BoolOp .Or (a::b::rest) pos) (tOr tA tB'):=by
 intro wh pins s σ H Q I h;refine isTrue_or (thn (ha pins s σ H _ I h) fun c s1 ⟨H1,I1,q1⟩=>?_)
 cases c with
 | true=>exact ⟨H1,I1,q1⟩
 | false=>exact hb wh pins s1 σ H1 Q I1 q1
theorem Rr (ha:PT X a tA):PT X (.UnaryOp .Not a pos) (Ej tA):=by
 intro pins s σ H Q I h;exact isTrue_not (ha pins s σ H (fun c H1=>Q (!c) H1) I h)
def LV (ta tb:TE):TE:=fun σ H Q=>ta σ H fun x H1=>∃ c,x=.bl c/\if c=true then tb σ H1 Q else Q (.bl false) H1
def Ei (ta tb:TE):TE:=fun σ H Q=>ta σ H fun x H1=>∃ c,x=.bl c/\if c=true then Q (.bl true) H1 else tb σ H1 Q
theorem Rz {op} {t:TE} (h:PE X a t):PE X (.BoolOp op [a] pos) t:=fun pins s σ H Q I hw=>BoolOp_one (h pins s σ H Q I hw)
theorem RE (ha:PE X a ta) (hb:PE X (.BoolOp .And (b::rest) pos) tb):PE X (.BoolOp .And (a::b::rest) pos) (LV ta tb):=by
 intro pins s σ H Q I h;refine BoolOp_and (thn (ha pins s σ H _ I h) fun v s1 ⟨x,H1,I1,r1,q1⟩=>?_)
 obtain ⟨c,rfl,q1⟩:=q1;cases r1;refine wpAny_truthy_bool ?_;cases c with
 | true=>exact hb pins s1 σ H1 Q I1 q1
 | false=>exact ⟨.bl false,H1,I1,rfl,q1⟩
theorem Aq (ha:PE X a ta) (hb:PE X (.BoolOp .Or (b::rest) pos) tb):PE X (.BoolOp .Or (a::b::rest) pos) (Ei ta tb):=by
 intro pins s σ H Q I h;refine BoolOp_or (thn (ha pins s σ H _ I h) fun v s1 ⟨x,H1,I1,r1,q1⟩=>?_)
 obtain ⟨c,rfl,q1⟩:=q1;cases r1;refine wpAny_truthy_bool ?_;cases c with
 | false=>exact hb pins s1 σ H1 Q I1 q1
 | true=>exact ⟨.bl true,H1,I1,rfl,q1⟩
def tIf (t:TT) (ta tb:TE):TE:=fun σ H Q=>t σ H fun c H1=>if c=true then ta σ H1 Q else tb σ H1 Q
theorem Nb {c:Expr} (hc:PT X c tA) (ha:PE X a ta) (hb:PE X b tb):PE X (.IfExp c a b pos) (tIf tA ta tb):=by
 intro pins s σ H Q I h;refine wpAny_IfExp (thn (hc pins s σ H _ I h) fun d s1 ⟨H1,I1,q1⟩=>?_)
 cases d with
 | true=>exact ha pins s1 σ H1 Q I1 q1
 | false=>exact hb pins s1 σ H1 Q I1 q1
end
def SqL (K:PySem.W.Frag) (H:Hp) (a:Addr) (xs:List V):Prop :=
 Rd H a (.lst xs) \/
  ∃ (o:Obj) (its:Array Value) (n:Nat),K.lookup a=some o/\o.cls=.type "list" /\ o.dict=none/\o.data=.seq its n/\its.size<=sizeLine/\Vals xs its.toList
def SqT (K:PySem.W.Frag) (H:Hp) (a:Addr) (xs:List V):Prop :=
 Rd H a (.tup xs) \/
  ∃ (o:Obj) (its:Array Value) (n:Nat),K.lookup a=some o/\o.cls=.type "tuple" /\ o.dict=none/\o.data=.seq its n/\its.size<=sizeLine/\Vals xs its.toList
def Dc:Value->Option V
 | .none=>some .non
 | .bool b=>some (.bl b)
 | .int i _=>some (.int i)
 | .str x _=>some (.str x)
 | .bytes b _=>some (.byt b)
 | .float b _=>some (.flt b)
 | .ref a=>some (.ref a)
 | .type n=>some (.ty n)
 | _=>none
theorem RelV.abs {x:V} {u:Value} (r:RelV x u):Dc u=some x:=by
 cases x with
 | non=>cases r;rfl
 | bl _=>cases r;rfl
 | int _=>obtain ⟨t,rfl⟩:=r;rfl
 | str _=>obtain ⟨t,rfl⟩:=r;rfl
 | byt _=>obtain ⟨t,rfl⟩:=r;rfl
 | flt _=>obtain ⟨t,rfl⟩:=r;rfl
 | ref _=>cases r;rfl
 | ty _=>cases r;rfl
theorem RelV.inj {x y:V} {u:Value} (r:RelV x u) (q:RelV y u):x=y:=Option.some.inj (r.abs.symm.trans q.abs)
theorem Vals.inj:∀ {xs ys:List V} {us:List Value},Vals xs us->Vals ys us->xs=ys
 | _,_,_,.nil,.nil=>rfl
 | _,_,_,.cons r t,.cons r' t'=>by rw [r.inj r',Vals.inj t t']
section
variable {X:Cx} {pins:List (Addr×Obj)} {σ:St} {H:Hp} {s:Shared} {a:Addr} {xs ys:List V}
theorem SqL.of {K:PySem.W.Frag} (h:H a=some (.lst xs)):SqL K H a xs:=.inl (.inl h)
theorem Inv.list (I:Inv X pins σ H s) (h:SqL X.K H a xs):∃ its:List Value,Vals xs its/\PlainL s.heap a its.toArray/\xs.length<=sizeLine:=by
 rcases h with h | ⟨o,its,n,hk,hc,hd,hs,hz,r⟩
 ·obtain ⟨z,its,n,r,e⟩:=h.ok I.hok;exact ⟨its,r,⟨_,n,e,rfl,rfl,rfl⟩,z⟩
 ·refine ⟨its.toList,r,⟨o,n,I.kIn a o hk,hc,hd,by simpa using hs⟩,?_⟩;have e:=r.length;simp only [Array.length_toList] at e
  lia
theorem Inv.tuple (I:Inv X pins σ H s) (h:SqT X.K H a xs):∃ its:List Value,Vals xs its/\IsTup s.heap a its.toArray/\xs.length<=sizeLine:=by
 rcases h with h | ⟨o,its,n,hk,hc,hdn,hs,hz,r⟩
 ·obtain ⟨z,its,r,p⟩:=h.ok I.hok;exact ⟨its,r,p.tup,z⟩
 ·refine ⟨its.toList,r,⟨o,I.kIn a o hk,hc,n,by simpa using hs⟩,?_⟩;have e:=r.length;simp only [Array.length_toList] at e
  lia
theorem Inv.tupleD (I:Inv X pins σ H s) (h:SqT X.K H a xs):∃ its:List Value,Vals xs its/\IsTupD s.heap a its.toArray/\xs.length<=sizeLine:=by
 rcases h with h | ⟨o,its,n,hk,hc,hdn,hs,hz,r⟩
 ·obtain ⟨z,its,r,p⟩:=h.ok I.hok;exact ⟨its,r,p,z⟩
 ·refine ⟨its.toList,r,⟨o,I.kIn a o hk,hc,hdn,n,by simpa using hs⟩,?_⟩;have e:=r.length;simp only [Array.length_toList] at e
  lia
theorem Inv.list_inj (I:Inv X pins σ H s) (h:SqL X.K H a xs) (h':SqL X.K H a ys):xs=ys:=by
 obtain ⟨its,r,⟨o,n,e,_,_,d⟩,_⟩:=I.list h;obtain ⟨its',r',⟨o',n',e',_,_,d'⟩,_⟩:=I.list h';rw [e] at e';cases e';rw [d] at d';injection d' with d1 _
 have:its=its':=by simpa using congrArg Array.toList d1
 subst this;exact r.inj r'
theorem Inv.tuple_inj (I:Inv X pins σ H s) (h:SqT X.K H a xs) (h':SqT X.K H a ys):xs=ys:=by
 obtain ⟨its,r,⟨o,e,_,n,d⟩,_⟩:=I.tuple h;obtain ⟨its',r',⟨o',e',_,n',d'⟩,_⟩:=I.tuple h';rw [e] at e';cases e';rw [d] at d';injection d' with d1 _
 have:its=its':=by simpa using congrArg Array.toList d1
 subst this;exact r.inj r'
end
abbrev Cx.wish (X:Cx) (E:Value->Shared->Prop):Cx:={X with xe:=E}
abbrev Cx.nox (X:Cx):Cx:=X.wish fun _ _=>False
theorem Cx.Ok.wish {X:Cx} (ok:X.Ok) (E:Value->Shared->Prop):(X.wish E).Ok :=
 ⟨ok.mod,ok.kind,ok.glob,ok.blt,ok.above,ok.inj,ok.has,ok.cab,ok.hd,ok.frames,ok.stk,ok.exf,ok.bs,ok.bsz,ok.noex,ok.exfs,ok.funs,ok.frf⟩
theorem Cx.Ok.unwish {X:Cx} {E:Value->Shared->Prop} (ok:(X.wish E).Ok):X.Ok :=
 ⟨ok.mod,ok.kind,ok.glob,ok.blt,ok.above,ok.inj,ok.has,ok.cab,ok.hd,ok.frames,ok.stk,ok.exf,ok.bs,ok.bsz,ok.noex,ok.exfs,ok.funs,ok.frf⟩
section
variable {X:Cx} {pins:List (Addr×Obj)} {σ:St} {H:Hp} {s:Shared} {E:Value->Shared->Prop}
theorem Inv.wish (I:Inv X pins σ H s) (E:Value->Shared->Prop):Inv (X.wish E) pins σ H s:=⟨I.ok.wish E,I.os,I.bare,I.base,I.loc,I.cell,I.free,I.freeC,I.pin,I.hok,I.len⟩
theorem Inv.unwish (I:Inv (X.wish E) pins σ H s):Inv X pins σ H s:=⟨I.ok.unwish,I.os,I.bare,I.base,I.loc,I.cell,I.free,I.freeC,I.pin,I.hok,I.len⟩
theorem SP.unwish {D:Ends} {f:Flow} {s':Shared} (h:SP (X.wish E) pins D f s'):SP X pins D f s':=by
 cases f with
 | next=>obtain ⟨σ',H',I,q⟩:=h;exact ⟨σ',H',I.unwish,q⟩
 | brk=>obtain ⟨σ',H',I,q⟩:=h;exact ⟨σ',H',I.unwish,q⟩
 | cont=>obtain ⟨σ',H',I,q⟩:=h;exact ⟨σ',H',I.unwish,q⟩
 | ret u=>obtain ⟨v,σ',H',I,r,q⟩:=h;exact ⟨v,σ',H',I.unwish,r,q⟩
theorem PE.nox {e:Expr} {t:TE} (h:PE X.nox e t):PE X e t:=fun pins s σ H Q I hw =>
 wpAny_mono (h pins s σ H Q (I.wish _) hw) (fun _ _ ⟨v,H',I',r,q⟩=>⟨v,H',I'.unwish,r,q⟩) fun _ _ z=>False.elim z
theorem PT.nox {e:Expr} {t:TT} (h:PT X.nox e t):PT X e t:=fun pins s σ H Q I hw =>
 wpAny_mono (h pins s σ H Q (I.wish _) hw) (fun _ _ ⟨H',I',q⟩=>⟨H',I'.unwish,q⟩) fun _ _ z=>False.elim z
theorem PSs.nox {st:List Stmt} {t:TS} (h:PSs X.nox st t):PSs X st t:=fun pins s σ H D I hw =>
 wpAny_mono (h pins s σ H D (I.wish _) hw) (fun _ _ q=>q.unwish) fun _ _ z=>False.elim z
end
section
variable {X:Cx} {st:Stmt} {rest:List Stmt} {t u:TS} {e:Expr} {te:TE} {pos:Pos}
def LQ:TS:=fun D σ H=>D.nx σ H
def Eg (t u:TS):TS:=fun D σ H=>t {D with nx:=u D} σ H
theorem JU:PSs X [] LQ:=fun _ _ σ H _ I h=>wpAny_execs_nil ⟨σ,H,I,h⟩
theorem xG (h1:PS X st t) (h2:PSs X rest u):PSs X (st::rest) (Eg t u):=by
 intro pins s σ H D I h;refine wpAny_execs_cons (thn (h1 pins s σ H {D with nx:=u D} I h) fun f s1 q=>?_)
 cases f with
 | next =>
  obtain ⟨σ',H',I',q⟩:=q;exact h2 pins s1 σ' H' D I' q
 | ret v=>exact q
 | brk=>exact q
 | cont=>exact q
theorem ZX (h1:PS X st t):PSs X [st] t:=by
 intro pins s σ H D I h;refine wpAny_execs_cons (thn (h1 pins s σ H D I h) fun f s1 q=>?_)
 cases f with
 | next=>exact wpAny_execs_nil q
 | ret v=>exact q
 | brk=>exact q
 | cont=>exact q
theorem Inv.quiet {pins:List (Addr×Obj)} {σ:St} {H:Hp} {s:Shared} (I:Inv X pins σ H s):interactive X.env=false:=by simp [interactive,I.ok.kind]
def LS (te:TE):TS:=fun D σ H=>te σ H fun _ H1=>D.nx σ H1
theorem ZY (he:PE X e te) (hs:swapsWith e none pos.line X.env=pure false:=by rfl):PS X (.Expr e pos) (LS te):=by
 intro pins s σ H D I h;exact wpAny_Expr_any (thn (he pins s σ H _ I h) fun v s1 ⟨x,H1,I1,r1,q1⟩=>⟨σ,H1,I1,q1⟩) I.quiet hs
def Eh (te:TE):TS:=fun D σ H=>te σ H D.rt
theorem QD (he:PE X e te):PS X (.Return (some e) pos) (Eh te):=by
 intro pins s σ H D I h;exact wpAny_Return_some (thn (he pins s σ H _ I h) fun v s1 ⟨x,H1,I1,r1,q1⟩=>⟨x,σ,H1,I1,r1,q1⟩)
def Em (c:TT) (t u:TS):TS:=fun D σ H=>c σ H fun b H1=>if b=true then t D σ H1 else u D σ H1
theorem SN {c:Expr} {a b:List Stmt} {tc:TT} (hc:PT X c tc) (ha:PSs X a t) (hb:PSs X b u):PS X (.If c a b pos) (Em tc t u):=by
 intro pins s σ H D I h;refine wpAny_If (thn (hc pins s σ H _ I h) fun d s1 ⟨H1,I1,q1⟩=>?_)
 cases d with
 | true=>exact ha pins s1 σ H1 D I1 q1
 | false=>exact hb pins s1 σ H1 D I1 q1
def TF:TS:=fun _ _ _=>False
theorem MV:PS X st TF:=fun _ _ _ _ _ _ h=>h.elim
end
abbrev TG:=V->St->Hp->(St->Hp->Prop)->Prop
abbrev TGs:=List V->St->Hp->(St->Hp->Prop)->Prop
def PG (X:Cx) (target:Expr) (t:TG):Prop :=
 ∀ (pins:List (Addr×Obj)) (s:Shared) (σ:St) (H:Hp) (v:V) (u:Value) (Q:St->Hp->Prop),Inv X pins σ H s->RelV v u->t v σ H Q ->
  wpAny (model X.prog X.w) X.A (assign target X.env u) (fun _ s'=>∃ σ' H',Inv X pins σ' H' s'/\Q σ' H') X.xe s
def PGs (X:Cx) (ts:List Expr) (t:TGs):Prop :=
 ∀ (pins:List (Addr×Obj)) (s:Shared) (σ:St) (H:Hp) (vs:List V) (us:List Value) (Q:St->Hp->Prop),Inv X pins σ H s->Vals vs us->t vs σ H Q ->
  wpAny (model X.prog X.w) X.A (assignInOrder ((assignEach ts X.env).map (·.2)) us) (fun _ s'=>∃ σ' H',Inv X pins σ' H' s'/\Q σ' H') X.xe s
abbrev LG:=V->V->V->Hp->(Hp->Prop)->Prop
def AY (X:Cx) (t:LG):Prop :=
 ∀ (pins:List (Addr×Obj)) (s:Shared) (σ:St) (H:Hp) (o i v:V) (ov iv u:Value) (Q:Hp->Prop),Inv X pins σ H s->RelV o ov->RelV i iv->RelV v u->t o i v H Q ->
  wpAny (model X.prog X.w) X.A (setItem ov iv u) (fun _ s'=>∃ H',Inv X pins σ H' s'/\Q H') X.xe s
section
variable {X:Cx} {pos:Pos}
def Kr (i:Nat):TG:=fun v σ H Q=>Q (σ.set i (some v)) H
theorem ZZ {i:Nat} {x:Str} (hN:X.N.Nodup) (hi:X.N[i]?=some x) (hx:Loc X.env.scope x) (hf:X.fn x=true\/X.env.scope.names.lookup x=some .local:=by first | exact .inl rfl | exact .inr rfl | assumption):PG X (.Name x pos) (Kr i):=by
 intro pins s σ H v u Q I r h;exact wpAny_assign_Name (VE I hN hi hx r (fun s' I'=>⟨_,H,I',h⟩) hf)
def EX:TGs:=fun vs σ H Q=>vs=[]/\Q σ H
def AH (t:TG) (u:TGs):TGs:=fun vs σ H Q=>∃ v r,vs=v::r/\t v σ H fun σ' H'=>u r σ' H' Q
theorem Pn:PGs X [] EX:=by
 intro pins s σ H vs us Q I r h;obtain ⟨e,h⟩:=h;subst e;cases r;exact assignInOrder_nil ⟨σ,H,I,h⟩
theorem Ud {e:Expr} {es:List Expr} {t:TG} {u:TGs} (h1:PG X e t) (h2:PGs X es u)
  (hs:(assignEach (e::es) X.env).map (·.2)=assign e X.env::(assignEach es X.env).map (·.2):=by rfl):PGs X (e::es) (AH t u):=by
 intro pins s σ H vs us Q I r h;obtain ⟨v,vr,e1,h⟩:=h;subst e1;cases r with
 | cons r rr =>
  rw [hs];refine assignInOrder_cons (thn (h1 pins s σ H _ _ _ I r h) fun _ s1 ⟨σ1,H1,I1,q1⟩=>?_)
  exact h2 pins s1 σ1 H1 _ _ Q I1 rr q1
def EU (K:PySem.W.Frag) (n:Nat) (t:TGs):TG:=fun v σ H Q=>∃ a xs,v=.ref a/\SqT K H a xs/\xs.length=n/\t xs σ H Q
theorem Rw {es:List Expr} {k:Nat} {t:TGs} {n:Nat} (hc:X.calm=true) (h:PGs X es t)
  (hn:(assignEach es X.env).length=n:=by rfl) (hst:(assignEach es X.env).findIdx? (·.1)=none:=by rfl):PG X (.Tuple es k pos) (EU X.K n t):=by
 intro pins s σ H v u Q I r hw;obtain ⟨a,xs,e1,hq,hl,hw⟩:=hw;subst e1;cases r;obtain ⟨its,rv,ht,hz⟩:=I.tuple hq;refine assign_Tuple_tuple (I.ok.hd hc) ht (by simp [hn,<- hl,rv.length]) hst fun h' hx=>?_
 have I1:Inv X pins σ H {s with heap:=h'}:=I.kept (t':=s.toks) fun b o e=>hx b o (Nat.ne_of_lt (jH e)) e
 exact h pins _ σ H xs _ Q I1 (by simpa using rv) hw
def EV (to ti:TE) (t:LG):TG:=fun v σ H Q=>to σ H fun o H1=>ti σ H1 fun i H2=>t o i v H2 fun H3=>Q σ H3
theorem Rx {o i:Expr} {to ti:TE} {t:LG} (ho:PE X o to) (hi:PE X i ti) (hs:AY X t)
  (ha:∀ v,assign (.Subscript o i pos) X.env v=(do
   let ov <- holding [v] (eval o X.env)
   let iv <- holding [v,ov] (eval i X.env)
   standAt pos
   holding [v,ov,iv] (setItem ov iv v)
   release [v,ov,iv] []):=by intro _;rfl):PG X (.Subscript o i pos) (EV to ti t):=by
 intro pins s σ H v u Q I r h;rw [ha];refine jB (wpAny_holding (thn (ho pins s σ H _ I h) fun ov s1 ⟨x,H1,I1,r1,q1⟩=>?_))
 refine jB (wpAny_holding (thn (hi pins s1 σ H1 _ I1 q1) fun iv s2 ⟨y,H2,I2,r2,q2⟩=>?_))
 refine jB (wpAny_standAt (jB (wpAny_holding (thn (hs pins s2 σ H2 x y v ov iv u _ I2 r1 r2 r q2) fun _ s3 ⟨H3,I3,q3⟩=>?_))))
 exact wpAny_release ⟨σ,H3,I3,q3⟩
def BK (te:TE) (g:TG):TS:=fun D σ H=>te σ H fun x H1=>g x σ H1 D.nx
theorem Rt {tg e:Expr} {te:TE} {g:TG} (he:PE X e te) (hg:PG X tg g) (hs:swapsWithSole [tg] e pos.line X.env=pure false:=by rfl) (hw:swappedStores [tg] e X.env=pure none:=by rfl)
  (h1:(assignEach [tg] X.env).map (·.2)=[assign tg X.env]:=by rfl):PS X (.Assign [tg] e pos) (BK te g):=by
 intro pins s σ H D I h;refine wpAny_Assign_stores (thn (he pins s σ H _ I h) fun v s1 ⟨x,H1,I1,r1,q1⟩=>?_) hs hw
 rw [h1];exact thn (hg pins s1 σ H1 x v _ I1 r1 q1) fun _ s2 q=>q
theorem uY {i:Nat} {x:Str} {e:Expr} {te:TE} {pos':Pos} (hN:X.N.Nodup) (hi:X.N[i]?=some x) (hx:Loc X.env.scope x) (he:PE X e te) (hs:swapsWith e (some (.Name x pos')) pos.line X.env=pure false:=by rfl) (hf:X.fn x=true\/X.env.scope.names.lookup x=some .local:=by first | exact .inl rfl | exact .inr rfl | assumption) :
  PS X (.Assign [.Name x pos'] e pos) (BK te (Kr i)):=by
 intro pins s σ H D I h;refine wpAny_Assign_Name (thn (he pins s σ H _ I h) fun v s1 ⟨y,H1,I1,r1,q1⟩=>?_) hs
 exact VE I1 hN hi hx r1 (fun s2 I2=>⟨_,H1,I2,q1⟩) hf
end
structure It where
 go:Nat->Hp->Prop
 yld:Nat->Hp->V->Hp->Prop
 stop:Nat->Hp->Prop
def wW (X:Cx) (pins:List (Addr×Obj)) (H:Hp) (b:Addr):Prop :=
 H b=none/\b≠X.env.locals/\b∉X.fs/\(b∈X.ex\/X.s₀.heap.objs.size<=b)/\(∀ x c,X.env.cells.lookup x=some c->c≠b)/\∀ p∈X.pn++pins,p.1≠b
theorem Inv.fpOk {X:Cx} {pins:List (Addr×Obj)} {σ:St} {H H':Hp} {s:Shared} {b:Addr} (I:Inv X pins σ H s) (hb:s.heap.objs.size<=b) (hn:H' b=none):wW X pins H' b:=by
 refine ⟨hn,Nat.ne_of_gt (Nat.lt_of_lt_of_le I.lt hb),I.nofs hb,.inr (Nat.le_trans I.sz hb),fun x c e z=>?_,fun p hp z=>?_⟩
 ·obtain ⟨v,q⟩:=I.cell x c e;exact absurd (Nat.lt_of_lt_of_le q.lt (by rw [z];exact hb)) (Nat.lt_irrefl _)
 ·exact absurd (Nat.lt_of_lt_of_le (jH (I.pin p hp).1) (by rw [z];exact hb)) (Nat.lt_irrefl _)
structure Turn (P:Program) (w:World) (K:PySem.W.Frag) (tg:Expr) (J:It) (fp:List Addr) (it:Addr) (tn:Nat->Heap->Prop):Prop where
 mem:it∈fp
 obj:∀ i h,tn i h->∀ b∈fp,∃ o,h.get? b=some o/\∀ v,o.data≠.cell v
 keep:∀ i h h',tn i h->(∀ b∈fp,∀ o,h.get? b=some o->h'.get? b=some o)->tn i h'
 item:∀ (X:Cx),X.prog=P->X.w=w->X.K=K->X.calm=true->∀ (i:Nat) (pins:List (Addr×Obj)) (s:Shared) (σ:St) (H:Hp) (E:Value->Shared->Prop),Inv X pins σ H s->(∀ b∈fp,wW X pins H b)->tn i s.heap->J.go i H ->
  wpAny (model P w) X.A (pyNext (.ref it)) (fun r s1=>∃ u,r=some u /\
   wpAny (model P w) X.A (letOwnedTupleGo tg (.ref it) u) (fun _ s2=>∃ x H',Inv X pins σ H' s2/\RelV x u/\J.yld i H x H'/\tn (i+1) s2.heap/\∀ b∈fp,H' b=none) E s1) E s
 done:∀ (X:Cx),X.prog=P->X.w=w->X.K=K->X.calm=true->∀ (i:Nat) (pins:List (Addr×Obj)) (s:Shared) (σ:St) (H:Hp) (E:Value->Shared->Prop),Inv X pins σ H s->(∀ b∈fp,wW X pins H b)->tn i s.heap->J.stop i H ->
  wpAny (model P w) X.A (pyNext (.ref it)) (fun r s1=>r=none/\Inv X pins σ H s1) E s
 self:∀ (A:Around) (i:Nat) (s:Shared) (Q:Value->Shared->Prop) (E:Value->Shared->Prop),tn i s.heap->Q (.ref it) s->wpAny (model P w) A (pyIter (.ref it)) Q E s
abbrev TI:=St->Hp->(It->Hp->Prop)->Prop
def PIE (X:Cx) (pins:List (Addr×Obj)) (σ:St) (tg:Expr) (R:It->Hp->Prop) (itv:Value) (s2:Shared):Prop :=
 ∃ (it:Addr) (fp:List Addr) (tn:Nat->Heap->Prop) (J:It) (H':Hp),itv=.ref it/\Inv X pins σ H' s2/\Turn X.prog X.w X.K tg J fp it tn/\tn 0 s2.heap/\(∀ b∈fp,wW X pins H' b)/\R J H'
def PI (X:Cx) (tg iter:Expr) (wi:TI):Prop :=
 ∀ (pins:List (Addr×Obj)) (s:Shared) (σ:St) (H:Hp) (R:It->Hp->Prop),Inv X pins σ H s->wi σ H R ->
  wpAny (model X.prog X.w) X.A (eval iter X.env) (fun v s1=>wpAny (model X.prog X.w) X.A (pyIter v) (PIE X pins σ tg R) X.xe s1) X.xe s
theorem NW {M:Model} {A:Around} {E:Value->Shared->Prop} {s:Shared} {tg:Expr} {it:Addr} {u:Value} {o:Obj} {n:String} {vs:Array Value} {Q:Unit->Shared->Prop} (ho:s.heap.get? it=some o) (hc:o.cls=.type n) (hd:o.data=.fields vs)
  (hn:["enumerate","zip","dict_itemiterator","dict_reverseitemiterator","odict_iterator","itertools.zip_longest","itertools.pairwise"].contains n=false) (hQ:Q () s):wpAny M A (letOwnedTupleGo tg (.ref it) u) Q E s:=by
 unfold letOwnedTupleGo;cases tg<;>first
  | exact jP hQ
  | (cases u<;>first
      | exact jP hQ
      | (refine jB (wpAny_load ho ?_)
         rw [hc,hd];show wpAny M A (if (["enumerate","zip","dict_itemiterator","dict_reverseitemiterator","odict_iterator","itertools.zip_longest","itertools.pairwise"].contains n&&vs[0]?==some (rawInt _))=true then _ else _) Q E s
         rw [if_neg (by intro h;rw [hn,Bool.false_and] at h;cases h)];exact jP hQ))
def Itl (K:PySem.W.Frag) (a:Addr):It :=
 ⟨fun i H=>∃ xs x,SqL K H a xs/\xs[i]?=some x,fun i H x H'=>H'=H/\∀ xs,SqL K H a xs->xs[i]?=some x,fun i H=>∃ xs,SqL K H a xs/\xs.length<=i⟩
def Itt (K:PySem.W.Frag) (a:Addr):It :=
 ⟨fun i H=>∃ xs x,SqT K H a xs/\xs[i]?=some x,fun i H x H'=>H'=H/\∀ xs,SqT K H a xs->xs[i]?=some x,fun i H=>∃ xs,SqT K H a xs/\xs.length<=i⟩
def Itr (lo:Int) (n:Nat):It:=⟨fun i _=>i<n,fun i H x H'=>H'=H/\x=.int (lo+i),fun i _=>n<=i⟩
theorem Xq {P:Program} {w:World} {K:PySem.W.Frag} {tg:Expr} (a it:Addr):Turn P w K tg (Itl K a) [it] it (fun i h=>h.IsListIter it a i) where
 mem:=by simp
 obj:=fun i h st b hb=>by
  have e:b=it:=by simpa using hb
  subst e;obtain ⟨o,e,c,d⟩:=st;exact ⟨o,e,fun v z=>by rw [d] at z;cases z⟩
 keep:=fun i h h' st k=>st.at fun o e=>k it (by simp) o e
 item:=by
  intro X hP hw hK hc i pins s σ H E I hf st hg;subst hP hw hK;obtain ⟨xs,x,hq,hx⟩:=hg;obtain ⟨its,rv,p,hz⟩:=I.list hq;obtain ⟨u,hu,ru⟩:=rv.get hx;obtain ⟨f0,f1,f2,f3,f4,f5⟩:=hf it (by simp);refine wpAny_pyNext_list_item st p.isList (x:=u) (by simpa using hu) fun h' st' sb=>?_
  have I1:Inv X pins σ H {s with heap:=h'}:=I.turned (t':=s.toks) (fun b o hb e=>(sb.2 b hb).trans e) f0 f1 f3 f4 f5
  obtain ⟨o,e,c,d⟩:=id st';exact ⟨u,rfl,NW (s:={s with heap:=h'}) e c d (by decide) ⟨x,H,I1,ru,⟨rfl,fun ys hy=>by rw [I.list_inj hy hq];exact hx⟩,st',fun b hb=>(hf b hb).1⟩⟩
 done:=by
  intro X hP hw hK hc i pins s σ H E I hf st hg;subst hP hw hK;obtain ⟨xs,hq,hx⟩:=hg;obtain ⟨its,rv,p,hz⟩:=I.list hq;obtain ⟨f0,f1,f2,f3,f4,f5⟩:=hf it (by simp);have hl:=rv.length;exact wpAny_pyNext_list_end (I.ok.hd hc) st p.isList (by simp;lia) fun h' eb=>⟨rfl,I.turned (t':=s.toks) (fun b o hb e=>eb b o hb e) f0 f1 f3 f4 f5⟩
 self:=fun _ _ _ _ _ st h=>wpAny_pyIter_listiter st h
theorem Qi {P:Program} {w:World} {K:PySem.W.Frag} {tg:Expr} (a it:Addr):Turn P w K tg (Itt K a) [it] it (fun i h=>h.IsTupleIter it a i) where
 mem:=by simp
 obj:=fun i h st b hb=>by
  have e:b=it:=by simpa using hb
  subst e;obtain ⟨o,e,c,d⟩:=st;exact ⟨o,e,fun v z=>by rw [d] at z;cases z⟩
 keep:=fun i h h' st k=>st.at fun o e=>k it (by simp) o e
 item:=by
  intro X hP hw hK hc i pins s σ H E I hf st hg;subst hP hw hK;obtain ⟨xs,x,hq,hx⟩:=hg;obtain ⟨its,rv,p,hz⟩:=I.tuple hq;obtain ⟨u,hu,ru⟩:=rv.get hx;obtain ⟨f0,f1,f2,f3,f4,f5⟩:=hf it (by simp);refine wpAny_pyNext_tuple_item st (show s.heap.IsTuple a its.toArray from p) (x:=u) (by simpa using hu) fun h' st' sb=>?_
  have I1:Inv X pins σ H {s with heap:=h'}:=I.turned (t':=s.toks) (fun b o hb e=>(sb.2 b hb).trans e) f0 f1 f3 f4 f5
  obtain ⟨o,e,c,d⟩:=id st';exact ⟨u,rfl,NW (s:={s with heap:=h'}) e c d (by decide) ⟨x,H,I1,ru,⟨rfl,fun ys hy=>by rw [I.tuple_inj hy hq];exact hx⟩,st',fun b hb=>(hf b hb).1⟩⟩
 done:=by
  intro X hP hw hK hc i pins s σ H E I hf st hg;subst hP hw hK;obtain ⟨xs,hq,hx⟩:=hg;obtain ⟨its,rv,p,hz⟩:=I.tuple hq;obtain ⟨f0,f1,f2,f3,f4,f5⟩:=hf it (by simp);have hl:=rv.length;exact wpAny_pyNext_tuple_end (I.ok.hd hc) st (show s.heap.IsTuple a its.toArray from p) (by simp;lia) fun h' eb=>⟨rfl,I.turned (t':=s.toks) (fun b o hb e=>eb b o hb e) f0 f1 f3 f4 f5⟩
 self:=fun _ _ _ _ _ st h=>wpAny_pyIter_tupleiter st h
theorem Qj {P:Program} {w:World} {K:PySem.W.Frag} {tg:Expr} (it:Addr) (lo:Int) (n:Nat):Turn P w K tg (Itr lo n) [it] it (fun i h=>IsRangeIter h it (lo+(i:Nat)*1) ((n:Int)-(i:Nat)) 1) where
 mem:=by simp
 obj:=fun i h st b hb=>by
  have e:b=it:=by simpa using hb
  subst e;exact ⟨_,st,fun v z=>by
   have z':Data.fields _=Data.cell v:=z;cases z'⟩
 keep:=fun i h h' st k=>k it (by simp) _ st
 item:=by
  intro X hP hw hK hc i pins s σ H E I hf st hg;subst hP hw hK;obtain ⟨f0,f1,f2,f3,f4,f5⟩:=hf it (by simp);have W:=Walks.range (prog:=X.prog) (w:=X.w) (I.ok.hd hc) it lo 1 n;refine W.item i s _ _ hg st fun v h' tk hv st' kk=>?_
  obtain ⟨t,rfl⟩:=hv;have I1:Inv X pins σ H {s with heap:=h',toks:=tk}:=I.turned (fun b o hb e=>kk b o (by simpa using hb) e) f0 f1 f3 f4 f5
  refine ⟨_,rfl,NW (s:={s with heap:=h',toks:=tk}) (n := "range_iterator") st' rfl rfl (by decide) ⟨.int (lo+i),H,I1,⟨t,?_⟩,⟨rfl,rfl⟩,st',fun b hb=>(hf b hb).1⟩⟩
  rw [Int.mul_one]
 done:=by
  intro X hP hw hK hc i pins s σ H E I hf st hg;subst hP hw hK;obtain ⟨f0,f1,f2,f3,f4,f5⟩:=hf it (by simp);exact wpAny_pyNext_range_end (I.ok.hd hc) st (by have:n<=i:=hg;lia) fun h' eb=>⟨rfl,I.turned (t':=s.toks) (fun b o hb e=>eb b o hb e) f0 f1 f3 f4 f5⟩
 self:=fun _ _ _ _ _ st h=>wpAny_pyIter_rangeiter st h
section
variable {X:Cx} {tg:Expr}
def AG (K:PySem.W.Frag) (tl:TE):TI:=fun σ H R=>tl σ H fun x H1=>∃ a,x=.ref a/\(∃ xs,SqL K H1 a xs)/\R (Itl K a) H1
theorem Pl {l:Expr} {tl:TE} (hl:PE X l tl):PI X tg l (AG X.K tl):=by
 intro pins s σ H R I h;refine thn (hl pins s σ H _ I h) fun v s1 ⟨x,H1,I1,r1,q1⟩=>?_
 obtain ⟨a,e,⟨xs,hq⟩,q⟩:=q1;subst e;cases r1;obtain ⟨its,rv,p,hz⟩:=I1.list hq;refine wpAny_pyIter_list p.isList ?_;refine ⟨s1.heap.objs.size,[s1.heap.objs.size],_,_,H1,rfl,I1.kept (t':=s1.toks) fun b o e=>jG _ e,Xq a _,⟨_,Heap.get?_push_size _ rfl,rfl,rfl⟩,fun b hb=>?_,q⟩
 have e:b=s1.heap.objs.size:=by simpa using hb
 subst e;exact I1.fpOk (Nat.le_refl _) (I1.hok.fresh (Nat.le_refl _))
theorem MJ {pins:List (Addr×Obj)} {σ:St} {H:Hp} {s:Shared} {R:It->Hp->Prop} {E:Value->Shared->Prop} {lo hi:Int} {t u v:Tok} {tk:Nat} (I:Inv X pins σ H s) (h1 : -(2 ^ 62)<=lo) (h2:lo<2 ^ 62) (h3 : -(2 ^ 62)<=hi) (h4:hi<2 ^ 62)
  (q:R (Itr lo (hi-lo).toNat) H):wpAny (model X.prog X.w) X.A (pyIter (.ref s.heap.objs.size)) (PIE X pins σ tg R) E {s with heap:=s.heap.push {cls:=.type "range",data:=.fields #[.int lo t,.int hi u,.int 1 v]},toks:=tk}:=by
 refine wpAny_pyIter_range (IsRange.new ..) (small_one h1 h2 h3 h4) ?_;have I1:Inv X pins σ H {s with heap:=s.heap.push {cls:=.type "range",data:=.fields #[.int lo t,.int hi u,.int 1 v]},toks:=tk}:=I.kept fun b o e=>jG _ e
 refine ⟨(s.heap.push {cls:=.type "range",data:=.fields #[.int lo t,.int hi u,.int 1 v]}).objs.size,[(s.heap.push {cls:=.type "range",data:=.fields #[.int lo t,.int hi u,.int 1 v]}).objs.size],_,_,H,rfl,
  I1.kept (t':=tk) fun b o e=>jG _ e,Qj _ lo (hi-lo).toNat,?_,fun b hb=>?_,q⟩
 ·have e1:lo+((0:Nat):Int)*1=lo:=by simp
  have e2:(((hi-lo).toNat:Nat):Int)-((0:Nat):Int)=Builtin.Range.rangeSize lo hi 1:=by rw [rangeSize_one];split<;>lia
  show IsRangeIter _ _ (lo+((0:Nat):Int)*1) ((((hi-lo).toNat:Nat):Int)-((0:Nat):Int)) 1;rw [e1,e2];exact Heap.get?_push_size _ rfl
 ·have e:b=(s.heap.push {cls:=.type "range",data:=.fields #[.int lo t,.int hi u,.int 1 v]}).objs.size:=by simpa using hb
  subst e;exact I1.fpOk (Nat.le_refl _) (I1.hok.fresh (Nat.le_refl _))
def AF (ta:TA):TI:=fun σ H R=>ta σ H fun vs H1=>∃ j:Int,vs=[.int j] /\ -(2 ^ 62)<=j/\j<2 ^ 62/\R (Itr 0 j.toNat) H1
theorem Gm {a:Expr} {ta:TA} {p pos:Pos} (hg:Gl X "range") (hm:X.mg "range" = none) (ha:PA X [a] ta) (hs:starEach [a] X.env=[(false,eval a X.env)]:=by rfl):PI X tg (.Call (.Name "range" p) [a] [] pos) (AF ta):=by
 intro pins s σ H R I h;refine Call_ (vv I hg hm boot_range (PyProof.Rows.callWith_type1 (thn (ha pos pins s σ H _ I h) fun us s1 ⟨vs,H1,I1,r1,q1⟩=>?_) hs rfl))
 obtain ⟨j,e,q1,q2,q⟩:=q1;subst e;cases r1 with
 | cons r rr =>
  cases rr;obtain ⟨t,rfl⟩:=r;exact call_range_1 (MJ I1 (by lia) (by lia) q1 q2 (by simpa using q))
def Eo (wi:TI) (g:TG) (tb:TS):TS:=fun D σ H=>wi σ H fun J H1=>∃ W:Nat->Nat->St->Hp->Prop,(∃ m,W 0 m σ H1)/\∀ i m σ H,W i m σ H ->
 (J.stop i H/\D.nx σ H)\/(J.go i H/\∃ N:St->Hp->Prop,(∀ σ' H',N σ' H'->∃ m',m'<m/\W (i+1) m' σ' H')/\∀ x H',J.yld i H x H'->g x σ H' fun σ2 H2=>tb {D with nx:=N,ct:=N,bk:=D.nx} σ2 H2)
def Zj (fp:List Addr) (h:Heap):List (Addr×Obj):=fp.filterMap fun b=>(h.get? b).map fun o=>(b,o)
theorem xx {fp:List Addr} {h:Heap} {b:Addr} {o:Obj} (hb:b∈fp) (e:h.get? b=some o):(b,o)∈Zj fp h:=List.mem_filterMap.mpr ⟨b,hb,by rw [e];rfl⟩
theorem Gu {fp:List Addr} {h:Heap} {p:Addr×Obj} (hp:p∈Zj fp h):p.1∈fp/\h.get? p.1=some p.2:=by
 obtain ⟨b,hb,e⟩:=List.mem_filterMap.mp hp;cases q:h.get? b with
 | none=>rw [q] at e;cases e
 | some o =>
  rw [q] at e;have e':(b,o)=p:=Option.some.inj e;subst e';exact ⟨hb,q⟩
theorem Inv.pinned {pins:List (Addr×Obj)} {σ:St} {H:Hp} {s:Shared} {fp:List Addr} (I:Inv X pins σ H s) (hf:∀ b∈fp,wW X pins H b) (ho:∀ b∈fp,∃ o,s.heap.get? b=some o/\∀ v,o.data≠.cell v):Inv X (pins++Zj fp s.heap) σ H s :=
 I.pins_of fun p hp=>(List.mem_append.mp hp).elim (fun z=>I.pin p (List.mem_append_right _ z)) fun z=>by
  obtain ⟨hb,e⟩:=Gu z;obtain ⟨f0,f1,f2,_⟩:=hf p.1 hb;obtain ⟨o,e',d⟩:=ho p.1 hb;rw [e] at e';cases e';exact ⟨e,f0,f1,f2,d⟩
theorem Inv.unpinned {pins pl:List (Addr×Obj)} {σ:St} {H:Hp} {s:Shared} (I:Inv X (pins++pl) σ H s):Inv X pins σ H s:=I.pins_of fun p hp=>I.pin p (List.mem_append_right _ (List.mem_append_left _ hp))
theorem MW {iter:Expr} {body:List Stmt} {wi:TI} {g:TG} {tb:TS} {pos:Pos} (hp:PassesOwn (model X.prog X.w) X.A X.env X.xe) (hc:X.calm=true) (hi:PI X tg iter wi) (hg:PG X tg g) (hb:PSs X body tb)
  (hs:∀ x,foldedSetIterable iter X.env x=pure x:=by intro _;rfl):PS X (.For tg iter body [] pos) (Eo wi g tb):=by
 intro pins s σ H D I h;refine wpAny_For (thn (hi pins s σ H _ I h) fun v s1 h1=>thn h1 fun itv s2 h2=>?_) hs
 obtain ⟨it,fp,tn,J,H2,e,I2,T,st2,f2,W,⟨m0,w0⟩,turn⟩:=h2;subst e;have stat:∀ {H':Hp},(∀ b∈fp,H' b=none)->∀ b∈fp,wW X pins H' b:=fun hn b hb=>⟨hn b hb,(f2 b hb).2⟩
 refine codeAny_forLoop_any (fun n s'=>∃ i σ' H',Inv X pins σ' H' s'/\tn i s'.heap/\(∀ b∈fp,H' b=none)/\W i n σ' H') ?_ m0 ⟨0,σ,H2,I2,st2,fun b hb=>(f2 b hb).1,w0⟩
 rintro n s3 ⟨i,σ3,H3,I3,st3,fr3,w3⟩
 rcases turn i n σ3 H3 w3 with ⟨stop,qn⟩ | ⟨go,N,hN,step⟩
 ·refine wpAny_passesOwn hp (thn (T.done X rfl rfl rfl hc i pins s3 σ3 H3 X.xe I3 (stat fr3) st3 stop) fun r s4 ⟨hr,I4⟩=>?_)
  subst hr;exact wpAny_execs_nil ⟨σ3,H3,I4,qn⟩
 ·refine wpAny_passesOwn hp (thn (T.item X rfl rfl rfl hc i pins s3 σ3 H3 X.xe I3 (stat fr3) st3 go) fun r s4 ⟨u,hr,h4⟩=>?_)
  subst hr;refine wpAny_passesOwn hp (thn h4 fun _ s5 ⟨x,H5,I5,r5,y5,st5,fr5⟩=>?_);have I5':=I5.pinned (stat fr5) (T.obj _ _ st5);refine wpAny_passesOwn hp (thn (hg _ s5 σ3 H5 x u _ I5' r5 (step x H5 y5)) fun _ s6 ⟨σ6,H6,I6,q6⟩=>?_)
  refine wpAny_passesOwn hp (thn (hb _ s6 σ6 H6 _ I6 q6) fun f s7 q7=>?_)
  have again:∀ {σ7:St} {H7:Hp},Inv X (pins++Zj fp s5.heap) σ7 H7 s7->N σ7 H7->∃ m,m<n/\∃ i σ' H',Inv X pins σ' H' s7/\tn i s7.heap/\(∀ b∈fp,H' b=none)/\W i m σ' H':=fun {σ7 H7} I7 n7=>by
   obtain ⟨m',hm,w7⟩:=hN σ7 H7 n7;refine ⟨m',hm,i+1,σ7,H7,I7.unpinned,T.keep _ _ _ st5 fun b hb o e=>(I7.pin (b,o) (List.mem_append_right _ (List.mem_append_right _ (xx hb e)))).1,fun b hb=>?_,w7⟩
   obtain ⟨o,e,d⟩:=T.obj _ _ st5 b hb;exact (I7.pin (b,o) (List.mem_append_right _ (List.mem_append_right _ (xx hb e)))).2.1
  cases f with
  | next=>obtain ⟨σ7,H7,I7,n7⟩:=q7;exact again I7 n7
  | cont=>obtain ⟨σ7,H7,I7,n7⟩:=q7;exact again I7 n7
  | brk=>obtain ⟨σ7,H7,I7,q7⟩:=q7;exact ⟨σ7,H7,I7.unpinned,q7⟩
  | ret v=>obtain ⟨x7,σ7,H7,I7,r7,q7⟩:=q7;exact ⟨x7,σ7,H7,I7.unpinned,r7,q7⟩
end
abbrev R2:=V->V->Hp->VK->Prop
def OpR (X:Cx) (f:Value->Value->Sem Value) (r:R2):Prop :=
 ∀ (pins:List (Addr×Obj)) (s:Shared) (σ:St) (H:Hp) (x y:V) (v u:Value) (Q:VK),Inv X pins σ H s->RelV x v->RelV y u->r x y H Q ->
  wpAny (model X.prog X.w) X.A (f v u) (EP X pins σ Q) X.xe s
def UnR (X:Cx) (f:Value->Sem Value) (r:V->Hp->VK->Prop):Prop :=
 ∀ (pins:List (Addr×Obj)) (s:Shared) (σ:St) (H:Hp) (x:V) (v:Value) (Q:VK),Inv X pins σ H s->RelV x v->r x H Q ->
  wpAny (model X.prog X.w) X.A (f v) (EP X pins σ Q) X.xe s
def vb (X:Cx) (f:Value) (r:List V->Hp->VK->Prop):Prop :=
 ∀ (pins:List (Addr×Obj)) (s:Shared) (σ:St) (H:Hp) (xs:List V) (us:List Value) (Q:VK),Inv X pins σ H s->Vals xs us->r xs H Q ->
  wpAny (model X.prog X.w) X.A (call f us) (EP X pins σ Q) X.xe s
def Dd (X:Cx) (r:V->Hp->(Bool->Hp->Prop)->Prop):Prop :=
 ∀ (pins:List (Addr×Obj)) (s:Shared) (σ:St) (H:Hp) (x:V) (v:Value) (Q:Bool->Hp->Prop),Inv X pins σ H s->RelV x v->r x H Q ->
  wpAny (model X.prog X.w) X.A (truthy v) (TP X pins σ Q) X.xe s
def tOp (r:R2) (ta tb:TE):TE:=fun σ H Q=>ta σ H fun x H1=>tb σ H1 fun y H2=>r x y H2 Q
def tUn (r:V->Hp->VK->Prop) (ta:TE):TE:=fun σ H Q=>ta σ H fun x H1=>r x H1 Q
def rI (C:Int->Int->Prop) (g:Int->Int->V):R2:=fun x y H Q=>∃ i j,x=.int i/\y=.int j/\C i j/\Q (g i j) H
def rI0 (g:Int->Int->V):R2:=fun x y H Q=>∃ i j,x=.int i/\y=.int j/\Q (g i j) H
def rU (g:Int->V):V->Hp->VK->Prop:=fun x H Q=>∃ i,x=.int i/\Q (g i) H
section
variable {X:Cx} {a b c:Expr} {ta tb tc:TE} {pos:Pos}
theorem Ly (ha:PE X a ta) (hb:PE X b tb) {pins:List (Addr×Obj)} {s:Shared} {σ:St} {H:Hp} {R:V->V->Hp->Prop} (I:Inv X pins σ H s)
  (h:ta σ H fun x H1=>tb σ H1 fun y H2=>R x y H2) {Q:Value->Shared->Prop} {f:Value->Value->Sem Value}
  (hf:∀ v u s2 x y H2,Inv X pins σ H2 s2->RelV x v->RelV y u->R x y H2->wpAny (model X.prog X.w) X.A (f v u) Q X.xe s2) :
  wpAny (model X.prog X.w) X.A (eval a X.env) (fun v s₁=>wpAny (model X.prog X.w) X.A (eval b X.env) (fun u s₂=>wpAny (model X.prog X.w) X.A (f v u) Q X.xe s₂) X.xe s₁) X.xe s:=by
 refine thn (ha pins s σ H _ I h) fun v s1 ⟨x,H1,I1,r1,q1⟩=>?_
 refine thn (hb pins s1 σ H1 _ I1 q1) fun u s2 ⟨y,H2,I2,r2,q2⟩=>?_
 exact hf v u s2 x y H2 I2 r1 r2 q2
theorem SO {op:Operator} {r:R2} (ho:OpR X (binaryOp op) r) (ha:PE X a ta) (hb:PE X b tb):PE X (.BinOp a op b pos) (tOp r ta tb):=by
 intro pins s σ H Q I h;exact wpAny_BinOp (Ly ha hb I h fun v u s2 x y H2 I2 rx ry q=>ho pins s2 σ H2 x y v u Q I2 rx ry q)
theorem Ao {op:UnaryOp} {r:V->Hp->VK->Prop} (ho:UnR X (unaryOp op) r) (ha:PE X a ta):PE X (.UnaryOp op a pos) (tUn r ta):=by
 intro pins s σ H Q I h;exact UnaryOp_ (thn (ha pins s σ H _ I h) fun v s1 ⟨x,H1,I1,r1,q1⟩=>ho pins s1 σ H1 x v Q I1 r1 q1)
theorem opI {f:Value->Value->Sem Value} {C:Int->Int->Prop} {g:Int->Int->Int}
  (rule:∀ (i j:Int) (t u:Tok) (s:Shared) (Q:Value->Shared->Prop) (E:Value->Shared->Prop),C i j->Q (.int (g i j) s.toks) {s with toks:=s.toks+1}->wpAny (model X.prog X.w) X.A (f (.int i t) (.int j u)) Q E s) :
  OpR X f (rI C fun i j=>.int (g i j)):=by
 intro pins s σ H x y v u Q I rx ry h;obtain ⟨i,j,rfl,rfl,hc,q⟩:=h;obtain ⟨t,rfl⟩:=rx;obtain ⟨t',rfl⟩:=ry;exact rule i j t t' s _ _ hc ⟨.int (g i j),H,I.tok _,⟨_,rfl⟩,q⟩
theorem Ax {f:Value->Value->Sem Value} {g:Int->Int->Int}
  (rule:∀ (i j:Int) (t u:Tok) (s:Shared) (Q:Value->Shared->Prop) (E:Value->Shared->Prop),Q (.int (g i j) s.toks) {s with toks:=s.toks+1}->wpAny (model X.prog X.w) X.A (f (.int i t) (.int j u)) Q E s) :
  OpR X f (rI0 fun i j=>.int (g i j)):=by
 intro pins s σ H x y v u Q I rx ry h;obtain ⟨i,j,rfl,rfl,q⟩:=h;obtain ⟨t,rfl⟩:=rx;obtain ⟨t',rfl⟩:=ry;exact rule i j t t' s _ _ ⟨.int (g i j),H,I.tok _,⟨_,rfl⟩,q⟩
theorem RN {f:Value->Value->Sem Value} {g:Int->Int->Bool}
  (rule:∀ (i j:Int) (t u:Tok) (s:Shared) (Q:Value->Shared->Prop) (E:Value->Shared->Prop),Q (.bool (g i j)) s->wpAny (model X.prog X.w) X.A (f (.int i t) (.int j u)) Q E s) :
  OpR X f (rI0 fun i j=>.bl (g i j)):=by
 intro pins s σ H x y v u Q I rx ry h;obtain ⟨i,j,rfl,rfl,q⟩:=h;obtain ⟨t,rfl⟩:=rx;obtain ⟨t',rfl⟩:=ry;exact rule i j t t' s _ _ ⟨.bl (g i j),H,I,rfl,q⟩
def Dm (i j:Int):Prop:=0<j/\j<1073741824
def CMul (i j:Int):Prop:=(-(2 ^ 64)<i/\i<2 ^ 64)\/(-(2 ^ 64)<j/\j<2 ^ 64)
theorem CMul.ok {i j:Int} (h:CMul i j):IntMulOk i j:=by
 rcases h with ⟨h1,h2⟩ | ⟨h1,h2⟩
 ·exact .of_left (intBits_le_64 h1 h2)
 ·exact .of_right (intBits_le_64 h1 h2)
theorem RM:OpR X (binaryOp .Add) (rI0 fun i j=>.int (i+j)):=Ax fun _ _ _ _ _ _ _ q=>add_int q
theorem RG:OpR X (binaryOp .Sub) (rI0 fun i j=>.int (i-j)):=Ax fun _ _ _ _ _ _ _ q=>sub_int q
theorem RH:OpR X (binaryOp .Mult) (rI CMul fun i j=>.int (i*j)):=opI fun _ _ _ _ _ _ _ hc q=>mul_int q hc.ok
theorem Pw:OpR X (binaryOp .FloorDiv) (rI Dm fun i j=>.int (i/j)):=opI fun i j _ _ _ _ _ hc q=>by
 have h1:(0:Int)<j:=hc.1;have h2:j<1073741824:=hc.2;exact floordiv_int (by lia) (by rw [Int.fdiv_eq_ediv_of_nonneg i (by lia)];exact q) (.inl (PyProof.noPylong_small (by lia)))
theorem RJ:OpR X (binaryOp .Mod) (rI (fun _ j=>0<j) fun i j=>.int (i % j)):=opI fun i j _ _ _ _ _ hc q=>by
 have h1:(0:Int)<j:=hc;exact mod_int' (by lia) (by rw [Int.fmod_eq_emod_of_nonneg i (by lia)];exact q)
theorem unI {f:Value->Sem Value} {g:Int->Int}
  (rule:∀ (i:Int) (t:Tok) (s:Shared) (Q:Value->Shared->Prop) (E:Value->Shared->Prop),Q (.int (g i) s.toks) {s with toks:=s.toks+1}->wpAny (model X.prog X.w) X.A (f (.int i t)) Q E s) :
  UnR X f (rU fun i=>.int (g i)):=by
 intro pins s σ H x v Q I rx h;obtain ⟨i,rfl,q⟩:=h;obtain ⟨t,rfl⟩:=rx;exact rule i t s _ _ ⟨.int (g i),H,I.tok _,⟨_,rfl⟩,q⟩
theorem TC:UnR X (unaryOp .USub) (rU fun i=>.int (-i)):=unI fun _ _ _ _ _ q=>neg_int q
end
section
variable {X:Cx} {a b c:Expr} {ta tb tc:TE} {pos:Pos}
theorem Lj {pins:List (Addr×Obj)} {σ:St} {H:Hp} {s:Shared} {Q:VK} {k k':Bool} (I:Inv X pins σ H s) (q:Q (.bl k) H) (e:k=k'):EP X pins σ Q (.bool k') s:=by
 subst e;exact ⟨.bl k,H,I,rfl,q⟩
theorem Au:OpR X (compareOp .Lt) (rI0 fun i j=>.bl (decide (i<j))):=RN fun _ _ _ _ _ _ _ q=>lt_int q
theorem Av:OpR X (compareOp .LtE) (rI0 fun i j=>.bl (decide (i<=j))):=RN fun _ _ _ _ _ _ _ q=>le_int q
theorem Aw:OpR X (compareOp .Gt) (rI0 fun i j=>.bl (decide (j<i))):=RN fun _ _ _ _ _ _ _ q=>gt_int q
theorem RK:OpR X (compareOp .Is) (fun x y H Q=>y=.non/\Q (.bl (decide (x=.non))) H):=by
 intro pins s σ H x y v u Q I rx ry h;obtain ⟨rfl,q⟩:=h;cases ry;refine is_none_gen (Lj I q ?_);cases x<;>first
  | (cases rx;rfl)
  | (obtain ⟨t,rfl⟩:=rx;rfl)
theorem yV (b:Expr) {op:CmpOp} (h:op≠.In:=by decide) (h2:op≠.NotIn:=by decide):behindInMarks op b=false:=by
 have e1:(op==CmpOp.In)=false:=by cases op<;>first | rfl | exact absurd rfl h
 have e2:(op==CmpOp.NotIn)=false:=by cases op<;>first | rfl | exact absurd rfl h2
 cases b<;>simp [behindInMarks,e1,e2]
theorem Pp {op:CmpOp} {r:R2} (ho:OpR X (compareOp op) r) (ha:PE X a ta) (hb:PE X b tb) (hm:behindInMarks op b=false):PE X (.Compare a [op] [b] pos) (tOp r ta tb):=by
 intro pins s σ H Q I h;exact wpAny_Compare1 (Ly ha hb I h fun v u s2 x y H2 I2 rx ry q=>ho pins s2 σ H2 x y v u Q I2 rx ry q) hm
def LO (t:TE):TT:=fun σ H Q=>t σ H fun x H'=>∃ k,x=.bl k/\Q k H'
theorem Pk {op:CmpOp} {r:R2} (ho:OpR X (compareOp op) r) (ha:PE X a ta) (hb:PE X b tb) (hm:behindInMarks op b=false):PT X (.Compare a [op] [b] pos) (LO (tOp r ta tb)):=by
 intro pins s σ H Q I h;refine wpAny_isTrue_Compare1 (thn (ha pins s σ H _ I h) fun v s1 ⟨x,H1,I1,r1,q1⟩=>thn (hb pins s1 σ H1 _ I1 q1) fun u s2 ⟨y,H2,I2,r2,q2⟩ =>
  thn (ho pins s2 σ H2 x y v u _ I2 r1 r2 q2) fun c s3 ⟨z,H3,I3,r3,k,e,q3⟩=>?_) hm
 subst e;cases r3;exact wpAny_truthy_bool ⟨H3,I3,q3⟩
def Mn (r r':R2) (ta tb tc:TE):TE:=fun σ H Q=>ta σ H fun x H1=>tb σ H1 fun y H2=>r x y H2 fun z H3=>∃ k,z=.bl k /\
 (if k=true then tc σ H3 fun w' H4=>r' y w' H4 Q else Q (.bl false) H3)
theorem Nf {op op':CmpOp} {r r':R2} (ho:OpR X (compareOp op) r) (ho':OpR X (compareOp op') r') (ha:PE X a ta) (hb:PE X b tb) (hc:PE X c tc)
  (hm:lastMarks [op,op'] [b,c]=false:=by with_unfolding_all rfl):PE X (.Compare a [op,op'] [b,c] pos) (Mn r r' ta tb tc):=by
 intro pins s σ H Q I h;refine Compare_chain (thn (ha pins s σ H _ I h) fun v s1 ⟨x,H1,I1,r1,q1⟩=>chain_link (thn (hb pins s1 σ H1 _ I1 q1) fun u s2 ⟨y,H2,I2,r2,q2⟩ =>
  thn (ho pins s2 σ H2 x y v u _ I2 r1 r2 q2) fun d s3 ⟨z,H3,I3,r3,k,e,q3⟩=>?_)) hm
 subst e;cases r3;refine wpAny_truthy_bool ?_;cases k with
 | false=>exact ite_ff ⟨.bl false,H3,I3,rfl,q3⟩
 | true=>exact ite_tt (chain_last (thn (hc pins s3 σ H3 _ I3 q3) fun w' s4 ⟨z',H4,I4,r4,q4⟩=>ho' pins s4 σ H4 y z' u w' Q I4 r2 r4 q4))
def LF (K:PySem.W.Frag) (x:V) (H:Hp) (k:Bool):Prop :=
 match x with
 | .non=>k=false
 | .bl b=>k=b
 | .int i=>k=(i != 0)
 | .str y=>y.length<=sizeLine/\k=((y.length:Int) != 0)
 | .byt y=>y.size<=sizeLine/\k=((y.size:Int) != 0)
 | .ref p=>(∃ xs,SqL K H p xs/\k=!xs.isEmpty)\/(∃ xs,SqT K H p xs/\k=!xs.isEmpty)\/∃ kvs,H p=some (.dK kvs)/\k=!kvs.isEmpty
 | _=>False
theorem Jc {κ:Type} {kvs:List (κ×V)} {vs:List (κ×Value)} (r:KV kvs vs):(!vs.isEmpty)=!kvs.isEmpty:=by
 cases r<;>rfl
theorem YG {xs:List V} {its:List Value} (r:Vals xs its):(!its.toArray.isEmpty)=!xs.isEmpty:=by
 cases r<;>simp
theorem Zq:(sizeLine:Nat)<2 ^ 63:=by rw [sizeLine_eq];decide
theorem TD:Dd X (fun x H Q=>∃ k,LF X.K x H k/\Q k H):=by
 intro pins s σ H x v Q I rx h;obtain ⟨k,e,q⟩:=h;have hl:=Zq;have hs:sizeLine=16777216:=sizeLine_eq;cases x with
 | non =>
  cases rx;have e':k=false:=e;subst e';exact truthy_none ⟨H,I,q⟩
 | bl b =>
  cases rx;have e':k=b:=e;subst e';exact wpAny_truthy_bool ⟨H,I,q⟩
 | int i =>
  obtain ⟨t,rfl⟩:=rx;have e':k=(i != 0):=e;subst e';exact PySem.P.truthy_int ⟨H,I,q⟩
 | str y =>
  obtain ⟨t,rfl⟩:=rx;obtain ⟨hy,e'⟩:y.length<=sizeLine/\k=((y.length:Int) != 0):=e;subst e';exact PySem.P.truthy_str (by lia) ⟨H,I.tok _,q⟩
 | byt y =>
  obtain ⟨t,rfl⟩:=rx;obtain ⟨hy,e'⟩:y.size<=sizeLine/\k=((y.size:Int) != 0):=e;subst e';exact PySem.W.truthy_bytes (by lia) ⟨H,I.tok _,q⟩
 | ref p =>
  cases rx;have e':(∃ xs,SqL X.K H p xs/\k=!xs.isEmpty)\/(∃ xs,SqT X.K H p xs/\k=!xs.isEmpty)\/∃ kvs,H p=some (.dK kvs)/\k=!kvs.isEmpty:=e
  rcases e' with ⟨xs,hx,e'⟩ | ⟨xs,hx,e'⟩ | ⟨kvs,hx,e'⟩
  ·subst e';obtain ⟨its,r,pl,hz⟩:=I.list hx;have hlen:=r.length;exact wpAny_truthy_list pl.isList (by simp only [List.size_toArray];lia) ⟨H,I.tok _,by rw [YG r];exact q⟩
  ·subst e';obtain ⟨its,r,pl,hz⟩:=I.tuple hx;have hlen:=r.length;exact truthy_tuple pl (by simp only [List.size_toArray];lia) ⟨H,I.tok _,by rw [YG r];exact q⟩
  ·subst e';obtain ⟨hz,hS,vs,r,m⟩:kvs.length<=sizeLine/\(p==sysModules)=false/\∃ vs,KV kvs vs/\s.heap.DictOf (WY X.prog X.w) p vs:=I.hok p _ hx;have hlen:kvs.length=vs.length:=Paired.length r;exact wpAny_truthy_dict hS m (by lia) ⟨H,I.tok _,by rw [Jc r];exact q⟩
 | _=>exact (show False from e).elim
theorem MU (ha:PE X a ta) (he:∀ whole,isTrue a X.env whole=(do let v <- whole;standAt a.pos;holding [v] (truthy v))) :
  PT X a (fun σ H Q=>ta σ H fun x H'=>∃ k,LF X.K x H' k/\Q k H'):=by
 intro pins s σ H Q I h;exact isTrue_plain (thn (ha pins s σ H _ I h) fun v s1 ⟨x,H1,I1,r1,q1⟩=>TD pins s1 σ H1 x v Q I1 r1 q1) (he _)
theorem QL:OpR X (binaryOp .Add) (fun x y H Q=>∃ i j,x=.str i/\y=.str j/\i.length+j.length<=sizeLine/\Q (.str (i++j)) H):=by
 intro pins s σ H x y v u Q I rx ry h;obtain ⟨i,j,rfl,rfl,hz,q⟩:=h;obtain ⟨t,rfl⟩:=rx;obtain ⟨t',rfl⟩:=ry;exact add_str (fun t' tk=>⟨.str (i++j),H,I.tok _,⟨_,rfl⟩,q⟩) hz
theorem wM {x:V} {us:List Value} (r:Vals [x] us):∃ u,us=[u]/\RelV x u:=by
 cases r with
 | cons r1 r2=>cases r2;exact ⟨_,rfl,r1⟩
theorem XZ:vb X (.type "int") (fun xs H Q=>(∃ i,xs=[.int i]/\Q (.int i) H)\/∃ k,xs=[.bl k]/\Q (.int (if k then 1 else 0)) H):=by
 intro pins s σ H xs us Q I r h
 rcases h with ⟨i,rfl,q⟩ | ⟨k,rfl,q⟩
 ·obtain ⟨u,rfl,t,rfl⟩:=wM r;exact call_int_int ⟨.int i,H,I,⟨_,rfl⟩,q⟩
 ·obtain ⟨u,rfl,r1⟩:=wM r;cases r1;exact call_int_bool ⟨.int (if k then 1 else 0),H,I.tok _,⟨_,rfl⟩,q⟩
end
structure Room (k:Nat) (A:Around):Prop where
 hd:A.handled=none
 dp:A.depth+3*k+5<recursionLimit
 un:A.units+16*k+200<cLine
theorem Room.mono {j k:Nat} {A:Around} (r:Room k A) (h:j<=k):Room j A:=⟨r.hd,by have:=r.dp;lia,by have:=r.un;lia⟩
theorem Room.deeper {k:Nat} {A:Around} (r:Room (k+1) A) (env:Env):Room k (A.deeper env) :=
 ⟨r.hd,by have:=r.dp;show A.depth+1+3*k+5<_;lia,by have:=r.un;show A.units+3+16*k+200<_;lia⟩
theorem Room.in1 {k:Nat} {A:Around} (r:Room (k+1) A):Room k A.in1 :=
 ⟨r.hd,by have:=r.dp;show A.depth+3*k+5<_;lia,by have:=r.un;show A.units+1+16*k+200<_;lia⟩
theorem Room.depth {k:Nat} {A:Around} (r:Room k A):A.depth<recursionLimit:=by have:=r.dp;lia
def LP:TA:=fun _ H Q=>Q [] H
def SF (ta:TE) (tr:TA):TA:=fun σ H Q=>ta σ H fun x H1=>tr σ H1 fun xs H2=>Q (x::xs) H2
section
variable {X:Cx} {e:Expr} {es:List Expr} {te:TE} {t:TA} {pos:Pos}
theorem QH:PA X [] LP:=fun _ _ _ _ H Q I h=>Calls.spliced_nil ⟨[],H,I,.nil,h⟩
theorem Ya (ha:PE X e te) (hr:PA X es t) (hs:starEach (e::es) X.env=(false,eval e X.env)::starEach es X.env:=by rfl):PA X (e::es) (SF te t):=by
 intro pos pins s σ H Q I h;rw [hs];show wpAny _ _ (spliced ((false,eval e X.env)::backTo pos (starEach es X.env))) _ _ s;refine Calls.spliced_cons (thn (ha pins s σ H _ I h) fun u s1 ⟨x,H1,I1,r1,q1⟩=>?_)
 exact thn (hr pos pins s1 σ H1 _ I1 q1) fun us s2 ⟨xs,H2,I2,r2,q2⟩=>⟨x::xs,H2,I2,.cons r1 r2,q2⟩
def Ef (t:TA):TE:=fun σ H Q=>t σ H fun xs H1=>xs.length<=sizeLine/\∀ p,H1 p=none->Q (.ref p) (upd H1 p (.tup xs))
def Ek (t:TA):TE:=fun σ H Q=>t σ H fun xs H1=>xs.length<=sizeLine/\∀ p,H1 p=none->Q (.ref p) (upd H1 p (.lst xs))
theorem Ry {x1} (h:PA X es t):PE X (.Tuple es x1 pos) (Ef t):=by
 intro pins s σ H Q I hq;refine wpAny_Tuple_spliced (thn (h pos pins s σ H _ I hq) fun us s1 ⟨xs,H1,I1,r,z,q⟩=>⟨by rw [<- r.length];exact z,?_⟩)
 have hf:H1 s1.heap.objs.size=none:=I1.hok.fresh (Nat.le_refl _);refine ⟨.ref s1.heap.objs.size,upd H1 s1.heap.objs.size (.tup xs),I1.laid (t':=s1.toks) (fun b u e=>jG _ e) (Nat.le_refl _) ?_,rfl,q _ hf⟩;exact ⟨z,us,r,⟨_,Heap.get?_push_size _ rfl,rfl,rfl,_,rfl⟩⟩
theorem WG (h:PA X es t):PE X (.List es pos) (Ek t):=by
 intro pins s σ H Q I hq;refine wpAny_List_spliced (thn (h pos pins s σ H _ I hq) fun us s1 ⟨xs,H1,I1,r,z,q⟩=>⟨by rw [<- r.length];exact z,?_⟩)
 have hf:H1 s1.heap.objs.size=none:=I1.hok.fresh (Nat.le_refl _);refine ⟨.ref s1.heap.objs.size,upd H1 s1.heap.objs.size (.lst xs),I1.laid (t':=s1.toks) (fun b u e=>jG _ e) (Nat.le_refl _) ?_,rfl,q _ hf⟩;exact ⟨z,us,0,r,Heap.get?_push_size _ rfl⟩
end
abbrev Sp:=List V->Hp->VK->XK->Prop
abbrev CXT:=List Env->Hp->Shared->XK->Value->Shared->Prop
structure Env0 (P:Program) (w:World) (K:PySem.W.Frag) (mg:Str->Option Value) (base:Heap) (A:Around) (outer:List Env) (s:Shared) (H:Hp):Prop where
 frames:A.frames=some outer
 mod:Mod K mg base
 bs:∀ b o,base.get? b=some o->s.heap.get? b=some o/\H b=none
 bsz:base.objs.size<=s.heap.objs.size
 funs:s.heap.FunFrames base outer
 frf:∀ b∈frs outer,H b=none
 hok:HOk P w H s.heap
 bare:AllBare s.gens
def CE (outer:List Env) (P:Program) (w:World) (H:Hp) (s:Shared) (Q:VK) (u:Value) (s':Shared):Prop :=
 ∃ v H',s'.os=s.os/\AllBare s'.gens/\Un (frs outer) [] H H' s.heap s'.heap/\HOk P w H' s'.heap/\RelV v u/\Q v H'
def CR (CX:CXT) (outer:List Env) (P:Program) (w:World) (H:Hp) (s:Shared) (Q:VK) (E:XK) (r:Result) (s':Shared):Prop :=
 match r with
 | .ok (.ret u)=>CE outer P w H s Q u s'
 | .ok _=>False
 | .error e=>CX outer H s E e s'
structure FnOk (P:Program) (w:World) (K:PySem.W.Frag) (mg:Str->Option Value) (base:Heap) (CX:CXT) (k:Nat) (f:Addr) (fd:FuncData) (ps:List Str) (sp:Sp):Prop where
 len:∀ vs H Q E,sp vs H Q E->vs.length=ps.length
 run:∀ (A:Around) (outer:List Env) (s:Shared) (H:Hp) (args:Args) (us:List Value) (vs:List V) (Q:VK) (E:XK),Room k A->Env0 P w K mg base A outer s H->BindsTo s fd args (ps.zip us)->Vals vs us->sp vs H Q E ->
  codeAny (model P w) A (.call (.ref f) args) (CR CX outer P w H s Q E) s
theorem Env0.in1 {P:Program} {w:World} {K:PySem.W.Frag} {mg:Str->Option Value} {base:Heap} {A:Around} {outer:List Env} {s:Shared} {H:Hp} (e:Env0 P w K mg base A outer s H) :
  Env0 P w K mg base A.in1 outer s H:=⟨e.frames,e.mod,e.bs,e.bsz,e.funs,e.frf,e.hok,e.bare⟩
section
variable {X:Cx} {pins:List (Addr×Obj)} {σ:St} {H:Hp} {s s':Shared}
theorem Inv.env0 (I:Inv X pins σ H s):Env0 X.prog X.w X.K X.mg X.base X.A X.stack s H :=
 ⟨I.ok.frames,I.ok.mod,I.bs,Nat.le_trans I.ok.bsz I.sz,I.stack,I.stkFree,I.hok,I.bare⟩
theorem Inv.after {Q:VK} {u:Value} (I:Inv X pins σ H s) (h:CE X.stack X.prog X.w H s Q u s'):EP X pins σ Q u s':=by
 obtain ⟨v,H',os,bare,un,hok,r,q⟩:=h;obtain ⟨hh,g,d,t,os'⟩:=s';obtain rfl:os'=s.os:=os;exact ⟨v,H',I.call (h':=hh) (g':=g) (d':=d) (t':=t) (ch:=[]) un hok bare (fun b z=>absurd z (by simp)),r,q⟩
end
def LU (sp:Sp) (dvs:List V) (E:XK) (t:TA):TE:=fun σ H Q=>t σ H fun vs H1=>sp (vs++dvs) H1 Q E
def Binds (K:PySem.W.Frag) (fd:FuncData) (ps:List Str) (ds:List Value):Prop :=
 ∀ (s:Shared) (us:List Value),K.In s.heap->(us++ds).length=ps.length->BindsTo s fd ⟨us,[]⟩ (ps.zip (us++ds))
theorem Binds.all {K:PySem.W.Frag} {fd:FuncData} {ps:List Str} (h:∀ us:List Value,us.length=ps.length->bindArgs fd ⟨us,[]⟩=pure (ps.zip us)):Binds K fd ps []:=fun s us _ hl=>by
 rw [List.append_nil] at hl ⊢;exact .of_eq (h us hl)
def Jw (CX:CXT) (X:Cx) (E:XK):Prop:=∀ (pins:List (Addr×Obj)) (σ:St) (H:Hp) (s:Shared) (e:Value) (s':Shared),Inv X pins σ H s->CX X.stack H s E e s'->X.xe e s'
section
variable {X:Cx} {CX:CXT} {k:Nat} {f C:Addr} {fd:FuncData} {ps:List Str} {sp:Sp} {dvs:List V} {ds:List Value} {E:XK} {x m:Str} {p pos apos:Pos} {e o:Expr} {es:List Expr} {ta:TE} {t:TA}
theorem Rc {pins:List (Addr×Obj)} {σ:St} {H:Hp} {s:Shared} {Q:VK} {us:List Value} {vs:List V} (F:FnOk X.prog X.w X.K X.mg X.base CX k f fd ps sp) (hr:Room k X.A) (hb:Binds X.K fd ps ds) (hd:Vals dvs ds) (hx:Jw CX X E)
  (I:Inv X pins σ H s) (r:Vals vs us) (h:sp (vs++dvs) H Q E):wpAny (model X.prog X.w) X.A (call (.ref f) us) (EP X pins σ Q) X.xe s:=by
 have r2:Vals (vs++dvs) (us++ds):=r.append hd;have hl:(us++ds).length=ps.length:=by rw [<- r2.length];exact F.len _ _ _ _ h
 refine wpAny_call (codeAny_mono (F.run X.A X.stack s H ⟨us,[]⟩ (us++ds) (vs++dvs) Q E hr I.env0 (hb s us I.kIn hl) r2 h) fun r s' hq=>?_)
 cases r with
 | error e=>exact hx pins σ H s e s' I hq
 | ok fl =>
  cases fl with
  | ret u=>exact I.after hq
  | next=>exact False.elim hq
  | brk=>exact False.elim hq
  | cont=>exact False.elim hq
theorem WH (F:FnOk X.prog X.w X.K X.mg X.base CX k f fd ps sp) (hr:Room k X.A) (hg:Gl X x) (hm:X.mg x=some (.ref f)) (hk:PySem.W.keepIn X.K (.ref f)=true) (hb:Binds X.K fd ps ds) (hd:Vals dvs ds) (hx:Jw CX X E)
  (ha:PA X (e::es) t) (hdb:(x==("__debug__" : Str))=false:=by decide) (he:starEach (e::es) X.env=(false,eval e X.env)::starEach es X.env:=by rfl) (hpl:(backTo pos (starEach es X.env)).any (·.1)=false:=by rfl) :
  PE X (.Call (.Name x p) (e::es) [] pos) (LU sp dvs E t):=by
 intro pins s σ H Q I h;refine wpAny_Call_Name_kw (Ki I hg hm ?_ hdb);refine PySem.W.callWith_K (h₀:=X.base) I.ok.mod.kin hk (thn (ha pos pins s σ H _ I h) fun us s1 ⟨vs,H1,I1,r,q⟩=>⟨I1.kIn,?_⟩) he hpl
 exact Rc F hr hb hd hx I1 r q
end
def PK (X:Cx) (kws:List Keyword) (t:TA):Prop :=
 ∀ (pos:Pos) (pins:List (Addr×Obj)) (s:Shared) (σ:St) (H:Hp) (Q:List V->Hp->Prop),Inv X pins σ H s->t σ H Q->wpAny (model X.prog X.w) X.A (evalAll ((backToKw pos (keywordEach kws X.env)).map (·.2))) (AP X pins σ Q) X.xe s
section
variable {X:Cx} {CX:CXT} {k:Nat} {f C:Addr} {fd:FuncData} {ps ks:List Str} {sp:Sp} {E:XK} {x m:Str} {p pos apos kpos:Pos} {e o:Expr} {es:List Expr} {kws:List Keyword} {te ta:TE} {t tk:TA} {nm:Option Str}
theorem MX:PK X [] LP:=fun _ _ _ _ H Q I h=>wpAny_evalAll_nil ⟨[],H,I,.nil,h⟩
theorem JV (ha:PE X e te) (hr:PK X kws t):PK X (⟨nm,e,kpos⟩::kws) (SF te t):=by
 intro pos pins s σ H Q I h;show wpAny _ _ (evalAll ((do let v <- eval e X.env;standAt pos;pure v)::(backToKw pos (keywordEach kws X.env)).map (·.2))) _ _ s;refine wpAny_evalAll_cons (jB (thn (ha pins s σ H _ I h) fun u s1 ⟨x,H1,I1,r1,q1⟩=>jB (wpAny_standAt (jP ?_))))
 exact thn (hr pos pins s1 σ H1 _ I1 q1) fun us s2 ⟨xs,H2,I2,r2,q2⟩=>⟨x::xs,H2,I2,.cons r1 r2,q2⟩
variable {g:List Value->List Value->List Value} {gV:List V->List V->List V}
end
structure FnScope (N P:List Str) (sc:Scope):Prop where
 kind:sc.kind=.function
 co:sc.isCoroutine=false
 gen:sc.isGenerator=false
 nd:N.Nodup
 pre:N.take P.length=P
 par:∀ x∈P,sc.names.lookup x=some .local\/sc.names.lookup x=some .cell
 nofree:∀ y∈sc.names,y.2≠.free
theorem We {kindOf:Str->Option NameKind} {x:Str}:∀ {binds:List (Str×Value)} {m:Str->Option Value},(∀ v,(x,v)∉binds)->bindL kindOf binds m x=m x
 | [],_,_=>rfl
 | (n,v)::r,m,h=>by
  unfold bindL;rw [We fun w hw=>h w (jM _ hw)]
  split
  ·have:x≠n:=by rintro rfl;exact h v jC
   simp [this]
  ·rfl
theorem Wg {kindOf:Str->Option NameKind} {x:Str}:∀ {binds:List (Str×Value)} {m:Str->Option Value},(∀ v,(x,v)∉binds)->bindC kindOf binds m x=m x
 | [],_,_=>rfl
 | (n,v)::r,m,h=>by
  unfold bindC;rw [Wg fun w hw=>h w (jM _ hw)]
  split
  ·rfl
  ·have:x≠n:=by rintro rfl;exact h v jC
   simp [this]
theorem Wf {kindOf:Str->Option NameKind} {x:Str} {v:Value}:∀ {P:List Str} {vs:List Value} {i:Nat} {m:Str->Option Value},P.Nodup->P[i]?=some x->vs[i]?=some v->kindOf x=some .local ->
  bindL kindOf (P.zip vs) m x=some v
 | [],_,_,_,_,h,_,_=>by simp at h
 | _::_,[],_,_,_,_,h,_=>by simp at h
 | p::P,w::vs,0,m,nd,h1,h2,hk=>by
  simp at h1 h2;subst h1;subst h2;show bindL kindOf ((p,w)::P.zip vs) m p=_;unfold bindL;rw [We fun v hv=>(List.nodup_cons.mp nd).1 (List.of_mem_zip hv).1,if_pos hk]
  simp
 | p::P,w::vs,i+1,m,nd,h1,h2,hk=>by
  show bindL kindOf ((p,w)::P.zip vs) m x=_;unfold bindL;exact Wf (i:=i) (List.nodup_cons.mp nd).2 (by simpa using h1) (by simpa using h2) hk
theorem Wh {kindOf:Str->Option NameKind} {x:Str} {v:Value}:∀ {P:List Str} {vs:List Value} {i:Nat} {m:Str->Option Value},P.Nodup->P[i]?=some x->vs[i]?=some v->kindOf x≠some .local ->
  bindC kindOf (P.zip vs) m x=some v
 | [],_,_,_,_,h,_,_=>by simp at h
 | _::_,[],_,_,_,_,h,_=>by simp at h
 | p::P,w::vs,0,m,nd,h1,h2,hk=>by
  simp at h1 h2;subst h1;subst h2;show bindC kindOf ((p,w)::P.zip vs) m p=_;unfold bindC;rw [Wg fun v hv=>(List.nodup_cons.mp nd).1 (List.of_mem_zip hv).1,if_neg hk]
  simp
 | p::P,w::vs,i+1,m,nd,h1,h2,hk=>by
  show bindC kindOf ((p,w)::P.zip vs) m x=_;unfold bindC;exact Wh (i:=i) (List.nodup_cons.mp nd).2 (by simpa using h1) (by simpa using h2) hk
def start (N:List Str) (vs:List V):St:=vs.map some++List.replicate (N.length-vs.length) none
def jk (CX:CXT) (P:Program) (w:World) (K:PySem.W.Frag) (mg:Str->Option Value) (base:Heap) (N:List Str) (qual:Str) (scope:Scope) (f:Addr) (cd:Value) (A:Around) (outer:List Env) (s:Shared) (H:Hp) (E:XK):Cx where
 prog:=P
 w:=w
 K:=K
 mg:=mg
 base:=base
 A:=A.deeper (envOfC qual scope s.heap.objs.size f cd)
 N:=N
 s₀:=s
 H₀:=H
 env:=envOfC qual scope s.heap.objs.size f cd
 outer:=outer
 stack:=envOfC qual scope s.heap.objs.size f cd::outer
 ex:=[]
 calm:=true
 fn:=fun _=>true
 pn:=[]
 xe:=fun e s'=>wpAny (model P w) (A.deeper (envOfC qual scope s.heap.objs.size f cd)) (leaving (envOfC qual scope s.heap.objs.size f cd) e) (fun _ s''=>CX outer H s E e s'') (fun e' s''=>CX outer H s E e' s'') s'
theorem UU {sc:Scope} {n:Nat} {x:Str} (h:sc.names.lookup x=some .cell):∃ c,(cellsFrom n sc.names []).lookup x=some c:=by
 have q:=PySem.W.cellsFrom_some sc.names n [] (.inl h);exact Option.isSome_iff_exists.mp q
theorem GI {CX:CXT} {P:Program} {w:World} {K:PySem.W.Frag} {mg:Str->Option Value} {base:Heap} {N ps:List Str} {qual:Str} {scope:Scope} {f:Addr} {cd:Value} {A:Around} {outer:List Env} {s s1:Shared} {H:Hp} {E:XK} {us:List Value} {vs:List V}
  (S:FnScope N ps scope) (hd:A.handled=none) (e0:Env0 P w K mg base A outer s H) (hl:vs.length=ps.length) (r:Vals vs us)
  (x:InCallC s s.heap.objs.size (bindL (envOfC qual scope s.heap.objs.size f cd).kindOf (ps.zip us) fun _=>none) (cellsFrom (s.heap.objs.size+1) scope.names []) (bindC (envOfC qual scope s.heap.objs.size f cd).kindOf (ps.zip us) fun _=>none) s1) :
  Inv (jk CX P w K mg base N qual scope f cd A outer s H E) [] (start N vs) H s1:=by
 have hpl:ps.length<=N.length:=by have:=congrArg List.length S.pre;rw [List.length_take] at this;lia
 obtain ⟨h1,tk,rfl,hk⟩:=x.done;have noA:∀ b:Addr,b∉(jk CX P w K mg base N qual scope f cd A outer s H E).ex:=fun b z=>absurd (show b∈([]:List Addr) from z) (by simp)
 refine ⟨⟨e0.mod,S.kind,rfl,rfl,Nat.le_refl _,fun y z c h1 h2=>?_,fun y hy=>?_,fun y c _ h=>?_,fun _=>hd,Around.frames_deeper e0.frames,.inr ⟨rfl,rfl⟩,fun b z=>absurd z (noA b),e0.bs,e0.bsz,fun b _ _=>noA b,fun b z=>absurd z (noA b),e0.funs,e0.frf⟩,
  rfl,e0.bare,Un.kept hk,⟨_,x.toInCall.ns,fun i y v h1 h2 h3=>?_⟩,fun y c h=>⟨_,x.cell y c h⟩,e0.hok.fresh (Nat.le_refl _),fun y c h=>?_,fun p hp=>absurd (show p∈([]:List (Addr×Obj)) from hp) (by simp),e0.hok.kept hk,?_⟩
 ·exact name_of_addr x.apart (PySem.mem_of_lookup h1) (PySem.mem_of_lookup h2)
 ·have hy:scope.names.lookup y=some .cell\/scope.names.lookup y=some .free:=hy
  rcases hy with hy | hy
  ·exact UU hy
  ·exact absurd rfl (S.nofree _ (PySem.mem_of_lookup hy))
 ·exact Nat.le_of_lt (x.above y c (PySem.mem_of_lookup h))
 ·have hi:i<vs.length:=by
   unfold start at h2
   by_cases hi:i<vs.length
   ·exact hi
   ·rw [List.getElem?_append_right (by simpa using hi)] at h2;rw [List.getElem?_replicate] at h2
    split at h2<;>cases h2
  have ha:vs[i]?=some v:=by
   unfold start at h2;rw [List.getElem?_append_left (by simpa using hi),List.getElem?_map] at h2;cases e:vs[i]? with
   | none=>rw [e] at h2;cases h2
   | some a=>rw [e] at h2;cases h2;rfl
  obtain ⟨u,hu,rv⟩:=r.get ha;have hp:ps[i]?=some y:=by
   rw [<- S.pre,List.getElem?_take_of_lt (by lia)];exact h1
  have ndP:ps.Nodup:=by rw [<- S.pre];exact S.nd.sublist (List.take_sublist _ _)
  refine ⟨u,rv,?_⟩
  rcases S.par y (List.mem_of_getElem? hp) with k | k
  ·exact .inl ⟨k,Wf ndP hp hu k⟩
  ·obtain ⟨c,e⟩:=UU (n:=s.heap.objs.size+1) k;refine .inr ⟨.inl k,c,e,?_⟩;have q:=x.cell y c e;rw [Wh ndP hp hu (by show scope.names.lookup y≠_;rw [k];decide)] at q;exact q
 ·exact e0.hok.fresh (Nat.le_of_lt (x.above y c (PySem.mem_of_lookup h)))
 ·unfold start;show _=N.length;rw [List.length_append,List.length_map,List.length_replicate]
  lia
theorem Ks {CX:CXT} {P:Program} {w:World} {K:PySem.W.Frag} {mg:Str->Option Value} {base:Heap} {k:Nat} {f:Addr} {name qual:Str} {params:Arguments} {body:List Stmt} {scope:Scope} {dV kV doc pm cdv ct oc:Value} {an od:Option Addr}
  {osl:Array (Option Value)} {N ps:List Str} {sp:Sp} (lk:K.lookup f=some ⟨oc,od,.func (PySem.W.fnOf name qual params body scope dV kV doc pm an cdv ct),osl⟩) (hcd:PySem.W.codeIn K cdv qual=true) (S:FnScope N ps scope)
  (len:∀ vs H Q E,sp vs H Q E->vs.length=ps.length)
  (hbody:∀ (A:Around) (outer:List Env) (s:Shared) (H:Hp) (vs:List V) (Q:VK) (E:XK),Room k (A.deeper (envOfC qual scope s.heap.objs.size f cdv))->sp vs H Q E ->
   ∃ t,PSs (jk CX P w K mg base N qual scope f cdv A outer s H E) body t/\t {nx:=fun _ H'=>Q .non H',rt:=Q} (start N vs) H) :
  FnOk P w K mg base CX (k+1) f (PySem.W.fnOf name qual params body scope dV kV doc pm an cdv ct) ps sp:=by
 refine ⟨len,fun A outer s H args us vs Q E hr e0 hb r hsp=>?_⟩
 have hl:=len _ _ _ _ hsp;have KX:K.In s.heap:=e0.mod.kin.keeps fun b o e=>(e0.bs b o e).1
 have lim:s.heap.NoLimit:=e0.mod.nolimit.keeps fun b o e=>(e0.bs b o e).1
 have hkind:∀ y∈ps.zip us,scope.names.lookup y.1=some .local\/(scope.names.lookup y.1=some .cell/\((cellsFrom (s.heap.objs.size+1) scope.names []).lookup y.1).isSome=true):=fun ⟨n,v⟩ hy=>by
  rcases S.par n (List.of_mem_zip hy).1 with q | q
  ·exact .inl q
  ·exact .inr ⟨q,PySem.W.cellsFrom_some _ _ _ (.inl q)⟩
 refine codeAny_call_function hr.depth (KX _ _ lk) rfl S.co S.gen rfl (PySem.W.codeRec_of KX hcd) (hb _ _ _ _ ?_);refine wpAny_newFunctionEnv_cells S.kind hkind fun env he s1 x=>?_
 subst he;refine ⟨lim.keeps x.toInCall.keep,codeAny_func ?_⟩;obtain ⟨t,ht,hq⟩:=hbody A outer s H vs Q E (hr.deeper _) hsp;have I:Inv (jk CX P w K mg base N qual scope f cdv A outer s H E) [] (start N vs) H s1:=GI S hr.hd e0 hl r x;refine wpAny_mono (ht [] s1 (start N vs) H _ I hq) (fun fl s' hs=>?_) fun e s' hs=>hs
 have fin:∀ {σ':St} {H':Hp} {v:V} {u:Value},Inv (jk CX P w K mg base N qual scope f cdv A outer s H E) [] σ' H' s'->RelV v u->Q v H'->CE outer P w H s Q u s' :=
  fun {σ' H' v u} J rv q=>⟨v,H',J.os,J.bare,J.base,J.hok,rv,q⟩
 cases fl with
 | ret u =>
  obtain ⟨v,σ',H',J,rv,q⟩:=hs;exact fin J rv q
 | next =>
  obtain ⟨σ',H',J,q⟩:=hs;exact fin (v:=V.non) (u:=Value.none) J rfl q
 | brk =>
  obtain ⟨_,_,_,q⟩:=hs;exact False.elim q
 | cont =>
  obtain ⟨_,_,_,q⟩:=hs;exact False.elim q
section
variable {X:Cx} {x:Str} {p pos:Pos} {e:Expr} {es:List Expr} {t:TA} {id T:String} {r:List V->Hp->VK->Prop}
def tCB (r:List V->Hp->VK->Prop) (t:TA):TE:=fun σ H Q=>t σ H fun vs H1=>r vs H1 Q
theorem Ug (hc:vb X (.builtin id) r) (hg:Gl X x) (hm:X.mg x=none) (hv:bootBuiltins x=some (.builtin id)) (ha:PA X (e::es) t) (hn:x ≠ "__name__" := by decide) (hdb:(x==("__debug__" : Str))=false:=by decide)
  (he:starEach (e::es) X.env=(false,eval e X.env)::starEach es X.env:=by rfl) (hpl:(backTo pos (starEach es X.env)).any (·.1)=false:=by rfl):PE X (.Call (.Name x p) (e::es) [] pos) (tCB r t):=by
 intro pins s σ H Q I h;refine wpAny_Call_Name_kw (vv I hg hm hv ?_ hn hdb);exact PyProof.Rows.callWith_builtin1 (thn (ha pos pins s σ H _ I h) fun us s1 ⟨vs,H1,I1,r1,q1⟩=>hc pins s1 σ H1 vs us Q I1 r1 q1) he hpl
theorem Zk (hc:vb X (.type T) r) (hg:Gl X x) (hm:X.mg x=none) (hv:bootBuiltins x=some (.type T)) (ha:PA X (e::es) t) (hn:x ≠ "__name__" := by decide) (hdb:(x==("__debug__" : Str))=false:=by decide)
  (he:starEach (e::es) X.env=(false,eval e X.env)::starEach es X.env:=by rfl) (hpl:(backTo pos (starEach es X.env)).any (·.1)=false:=by rfl):PE X (.Call (.Name x p) (e::es) [] pos) (tCB r t):=by
 intro pins s σ H Q I h;refine wpAny_Call_Name_kw (vv I hg hm hv ?_ hn hdb);exact PyProof.Rows.callWith_type1 (thn (ha pos pins s σ H _ I h) fun us s1 ⟨vs,H1,I1,r1,q1⟩=>hc pins s1 σ H1 vs us Q I1 r1 q1) he hpl
end
end L2
namespace HT
open PySem PyProof.Rows
section
open PySem.SeqAt
open PySem.AutoSeq1 (wpAny_loadPart')
open PySem.MeetsSeq PySem.MeetsSeq2 PySem.MeetsSeq3
end
section
variable {prog:Program} {w:World} {A:Around} {E:Value->Shared->Prop} {s:Shared}
theorem cat_tup {t b:Addr} {vs ws:List Value} {Q:Value->Shared->Prop} (ht:IsTup s.heap t vs.toArray) (hb:IsTup s.heap b ws.toArray) (hv:vs≠[])
  (h1:ws=[]->Q (.ref t) s) (h2:ws≠[]->Q (.ref s.heap.objs.size) {s with heap:=s.heap.push {cls:=.type "tuple",data:=.seq (vs++ws).toArray}})
  (hsz:vs.length+ws.length<=sizeLine):wpAny (model prog w) A (binaryOp .Add (.ref t) (.ref b)) Q E s:=by
 obtain ⟨⟨cls,dd,data,sl⟩,ho,hc,n,hd⟩:=id ht;obtain ⟨⟨cls2,dd2,data2,sl2⟩,ho2,hc2,n2,hd2⟩:=id hb;simp only at hc hd hc2 hd2;subst hc hd hc2 hd2;have e:vs.toArray++ws.toArray=(vs++ws).toArray:=by simp
 by_cases hw:ws=[]
 ·exact concat_meets ⟨_,ho,rfl⟩ ⟨_,ho2,rfl⟩ noFill_tuple_add seq_tuple_add F.slot_tuple_add F.entry_tuple_add (F.args_tuple_add_2 _ _)
   (tuple_addW1 t b vs.toArray ws.toArray n n2 dd dd2 sl sl2 (by simpa using hv) (by simp [hw])) ⟨ho,ho2,h1 hw⟩
 ·refine concat_meets ⟨_,ho,rfl⟩ ⟨_,ho2,rfl⟩ noFill_tuple_add seq_tuple_add F.slot_tuple_add F.entry_tuple_add (F.args_tuple_add_2 _ _)
   (tuple_addW2 t b vs.toArray ws.toArray n n2 dd dd2 sl sl2 (by simpa using hv) (by simpa using hw) (by rw [List.size_toArray,List.size_toArray];exact hsz)) ⟨ho,ho2,?_⟩
  rw [e];exact h2 hw
def sIx (n d:Nat):Option Int->Nat
 | none=>d
 | some v=>if v<0 then (v+(n:Int)).toNat else min v.toNat n
theorem LZ (n d:Nat):sIx n d none=d:=rfl
theorem AZ (n d k:Nat):sIx n d (some (k:Int))=min k n:=by
 show (if (k:Int)<0 then ((k:Int)+(n:Int)).toNat else min (k:Int).toNat n)=min k n
 rw [if_neg (by lia),Int.toNat_natCast]
end
end HT
namespace L2
open PySem PySem.Spec PyProof.Rows
abbrev TO:=St->Hp->(Option Int->Hp->Prop)->Prop
section
variable {X:Cx} {e:Expr} {te:TE} {lo hi:Option Expr} {tl th:TO} {pos p2:Pos}
def Al (K:PySem.W.Frag):R2:=fun x y H Q=>∃ a b xs ys,x=.ref a/\y=.ref b/\SqT K H a xs/\SqT K H b ys/\xs≠[]/\xs.length+ys.length<=sizeLine /\
 (ys=[]->Q (.ref a) H)/\(ys≠[]->∀ p,H p=none->Q (.ref p) (upd H p (.tup (xs++ys))))
theorem Vals.nil_iff {xs:List V} {us:List Value} (r:Vals xs us):us=[]↔xs=[]:=by
 cases r with
 | nil=>simp
 | cons _ _=>simp
theorem Px:OpR X (binaryOp .Add) (Al X.K):=by
 intro pins s σ H x y v u Q I rx ry h;obtain ⟨a,b,xs,ys,rfl,rfl,ha,hb,hx,hz,q1,q2⟩:=h;cases rx;cases ry;obtain ⟨its,r1,p1,_⟩:=I.tuple ha;obtain ⟨its2,r2,p2,_⟩:=I.tuple hb;refine HT.cat_tup p1 p2 (fun z=>hx (r1.nil_iff.mp z)) (fun z=>⟨.ref a,H,I,rfl,q1 (r2.nil_iff.mp z)⟩) (fun z=>?_) (by rw [<- r1.length,<- r2.length];exact hz)
 refine ⟨.ref s.heap.objs.size,_,I.laid (t':=s.toks) (o:=.tup (xs++ys)) (fun b ob q=>jG _ q) (Nat.le_refl _) ?_,rfl,q2 (fun w=>z (r2.nil_iff.mpr w)) _ (I.hok.fresh (Nat.le_refl _))⟩
 exact ⟨by rw [List.length_append];exact hz,_,r1.append r2,IsTupD.new _ _⟩
end
def ixN (n:Nat) (i:Int):Option Nat:=if 0<=i then (if i<n then some i.toNat else none) else if -(n:Int)<=i then some (i+n).toNat else none
def atI {α:Type} (xs:List α) (i:Int):Option α:=(ixN xs.length i).bind fun j=>xs[j]?
theorem Kk {n:Nat} {i:Int} {j:Nat} (h:ixN n i=some j):seqIndex? i n=some j/\j<n /\ -(n:Int)<=i/\i<n:=by
 unfold ixN at h
 by_cases h0:0<=i
 ·rw [if_pos h0] at h
  by_cases h1:i<n
  ·rw [if_pos h1] at h;have e:i.toNat=j:=Option.some.inj h;exact ⟨by rw [seqIndex_of h0 h1,e],by lia,by lia,h1⟩
  ·rw [if_neg h1] at h;cases h
 ·rw [if_neg h0] at h
  by_cases h1 : -(n:Int)<=i
  ·rw [if_pos h1] at h;have e:(i+n).toNat=j:=Option.some.inj h;exact ⟨by rw [seqIndex_neg (by lia) h1,e],by lia,h1,by lia⟩
  ·rw [if_neg h1] at h;cases h
theorem KH {α:Type} {xs:List α} {i:Int} {v:α} (h:atI xs i=some v):∃ j,seqIndex? i xs.length=some j/\xs[j]?=some v/\j<xs.length /\ -(xs.length:Int)<=i/\i<xs.length:=by
 unfold atI at h;cases e:ixN xs.length i with
 | none=>rw [e] at h;cases h
 | some j =>
  rw [e] at h;obtain ⟨h1,h2,h3,h4⟩:=Kk e;exact ⟨j,h1,h,h2,h3,h4⟩
def KJ (b:Expr):Prop:=∀ o i,subscripted b false o i=operate [o,i] (getItem o i)
def IxR (X:Cx) (r:R2):Prop :=
 ∀ (value slice:Expr) (pins:List (Addr×Obj)) (s:Shared) (σ:St) (H:Hp) (x y:V) (v u:Value) (Q:VK),Inv X pins σ H s->RelV x v->RelV y u->r x y H Q ->
  subscripted slice false v u=operate [v,u] (getItem v u)->wpAny (model X.prog X.w) X.A (subscriptTail value slice v u) (EP X pins σ Q) X.xe s
def MtR (X:Cx) (id:String) (r:V->List V->Hp->VK->Prop):Prop :=
 ∀ (pins:List (Addr×Obj)) (s:Shared) (σ:St) (H:Hp) (x:V) (xs:List V) (v:Value) (us:List Value) (Q:VK),Inv X pins σ H s->RelV x v->Vals xs us->r x xs H Q ->
  wpAny (model X.prog X.w) X.A (call (.builtin id) (v::us)) (EP X pins σ Q) X.xe s
section
variable {X:Cx} {a b:Expr} {ta tb:TE} {pos:Pos}
theorem Ar {r:R2} (hr:IxR X r) (ha:PE X a ta) (hb:PE X b tb) (hs:KJ b):PE X (.Subscript a b pos) (tOp r ta tb):=by
 intro pins s σ H Q I h;exact Subscript_ (Ly ha hb I h fun v u s2 x y H2 I2 rx ry q=>hr a b pins s2 σ H2 x y v u Q I2 rx ry q (hs _ _))
def EQ (K:PySem.W.Frag):R2:=fun x y H Q=>∃ p xs i v,x=.ref p/\y=.int i/\SqL K H p xs/\atI xs i=some v/\Q v H
def EO (K:PySem.W.Frag):R2:=fun x y H Q=>∃ p xs i v,x=.ref p/\y=.int i/\SqT K H p xs/\atI xs i=some v/\Q v H
theorem PU:IxR X (EQ X.K):=by
 intro value slice pins s σ H x y v u Q I rx ry h hs;obtain ⟨p,xs,i,z,rfl,rfl,hq,he,q⟩:=h;cases rx;obtain ⟨t,rfl⟩:=ry;obtain ⟨its,r,pl,hz⟩:=I.list hq;obtain ⟨j,h1,h2,h3,h4,h5⟩:=KH he;obtain ⟨w,ew,rw'⟩:=r.get h2;have hl:=r.length;have hn:=Zq;have fin:EP X pins σ Q w s:=⟨z,H,I,rw',q⟩
 by_cases h0:0<=i
 ·have hj:i.toNat=j:=by
   rw [seqIndex_of h0 h5] at h1;exact Option.some.inj h1
  exact item_listR pl.isList h0 (by lia) (by rw [hj];simpa using ew) fin hs
 ·have hj:(i+(its.toArray.size:Int)).toNat=j:=by
   rw [seqIndex_neg (by lia) h4] at h1;rw [List.size_toArray,<- hl];exact Option.some.inj h1
  exact subscriptTail_builtinR (x:=w) pl.isList.typeIs slot_list_getitem.lookup
   (wpAny_getItem_list_neg (Q:=fun r s'=>r=w/\EP X pins σ Q r s') pl.isList (by lia) (by rw [List.size_toArray]<;>lia) (by lia) (by rw [hj];simpa using ew) ⟨rfl,fin⟩) hs
theorem RZ:IxR X (EO X.K):=by
 intro value slice pins s σ H x y v u Q I rx ry h hs;obtain ⟨p,xs,i,z,rfl,rfl,hq,he,q⟩:=h;cases rx;obtain ⟨t,rfl⟩:=ry;obtain ⟨its,r,pl,hz⟩:=I.tuple hq;obtain ⟨j,h1,h2,h3,h4,h5⟩:=KH he;obtain ⟨w,ew,rw'⟩:=r.get h2;have hl:=r.length;have hn:=Zq;have fin:EP X pins σ Q w s:=⟨z,H,I,rw',q⟩;exact subscriptTail_builtinR (x:=w) pl.typeIs slot_tuple_getitem.lookup
  (getItem_tuple (j:=j) (Q:=fun r s'=>r=w/\EP X pins σ Q r s') pl (by lia) (by lia) (by rw [List.size_toArray,<- hl];exact h1) (by simpa using ew) ⟨rfl,fin⟩) hs
theorem QY (its:List Value) (n j:Nat) (u:Value):Obj.mapSeq (·.setIfInBounds j u) {cls:=.type "list",data:=.seq its.toArray n}={cls:=.type "list",data:=.seq (its.set j u).toArray n}:=by
 simp [Obj.mapSeq]
theorem Inv.lst {pins:List (Addr×Obj)} {σ:St} {H:Hp} {s:Shared} {p:Addr} {xs:List V} (I:Inv X pins σ H s) (h:H p=some (.lst xs)) :
  ∃ (its:List Value) (n:Nat),Vals xs its/\s.heap.get? p=some {cls:=.type "list",data:=.seq its.toArray n}/\xs.length<=sizeLine:=by
 obtain ⟨z,its,n,r,e⟩:=I.hok p _ h;exact ⟨its,n,r,e,z⟩
theorem Inv.lstUpd {pins:List (Addr×Obj)} {σ:St} {H:Hp} {s:Shared} {p:Addr} {xs ys:List V} {its its':List Value} {n n':Nat} {f:Obj->Obj} (I:Inv X pins σ H s) (h:H p=some (.lst xs))
  (ho:s.heap.get? p=some {cls:=.type "list",data:=.seq its.toArray n}) (hf:f {cls:=.type "list",data:=.seq its.toArray n}={cls:=.type "list",data:=.seq its'.toArray n'}) (r:Vals ys its') (hz:ys.length<=sizeLine) (t:Nat) :
  Inv X pins σ (upd H p (.lst ys)) {s with heap:=s.heap.update p f,toks:=t}:=by
 have e:(s.heap.update p f).get? p=some {cls:=.type "list",data:=.seq its'.toArray n'}:=by
  rw [Heap.get?_update_self f ho (by rw [hf]<;>rfl),hf]
 refine I.write (x:=p) (e:=p) (by rw [h];trivial) (.inl rfl) (fun b u hb q=>(Heap.get?_update_other _ _ (Ne.symm hb)).trans q) ⟨_,e⟩ ?_
 exact ⟨hz,its',n',r,e⟩
def Ak:V->V->V->Hp->(Hp->Prop)->Prop:=fun o i v H Q=>∃ p xs k j,o=.ref p/\i=.int k/\H p=some (.lst xs)/\ixN xs.length k=some j/\Q (upd H p (.lst (xs.set j v)))
theorem Mx:AY X Ak:=by
 intro pins s σ H o i v ov iv u Q I ro ri rv h;obtain ⟨p,xs,k,j,rfl,rfl,hp,hj,q⟩:=h;cases ro;obtain ⟨t,rfl⟩:=ri;obtain ⟨its,n,r,ho,hz⟩:=I.lst hp;obtain ⟨h1,h2,h3,h4⟩:=Kk hj;have hl:=r.length;have hn:=Zq;have I':Inv X pins σ (upd H p (.lst (xs.set j v))) {s with heap:=s.heap.update p (Obj.mapSeq (·.setIfInBounds j u))} :=
  I.lstUpd hp ho (QY its n j u) (r.set rv j) (by rw [List.length_set];exact hz) s.toks
 by_cases h0:0<=k
 ·have hk:k.toNat=j:=by
   rw [seqIndex_of h0 h4] at h1;exact Option.some.inj h1
  exact PySem.W.ki_setAt ho h0 (by lia) (by rw [List.size_toArray,<- hl];exact h4) (by rw [hk];exact ⟨_,I',q⟩)
 ·have hk:(k+(its.toArray.size:Int)).toNat=j:=by
   rw [seqIndex_neg (by lia) h3] at h1;rw [List.size_toArray,<- hl];exact Option.some.inj h1
  exact PySem.W.ki_setBack ho (by lia) (by rw [List.size_toArray,<- hl];exact h3) (by lia) (by rw [hk];exact ⟨_,I',q⟩)
theorem jX:vb X (.builtin "len") (fun xs H Q=>∃ p ys,xs=[.ref p]/\(SqL X.K H p ys\/SqT X.K H p ys)/\Q (.int ys.length) H):=by
 intro pins s σ H xs us Q I r h;obtain ⟨p,ys,rfl,hq,q⟩:=h;obtain ⟨u,rfl,rx⟩:=wM r;cases rx;have hn:=Zq
 rcases hq with hq | hq
 ·obtain ⟨its,r',pl,hz⟩:=I.list hq;have hlen:=r'.length;exact Calls.call_len_list pl.isList (by simp only [List.size_toArray]<;>lia) ⟨.int ys.length,H,I.tok _,⟨s.toks+1,by rw [List.size_toArray,hlen]⟩,q⟩
 ·obtain ⟨its,r',pl,hz⟩:=I.tuple hq;have hlen:=r'.length;exact len_tuple pl (by simp only [List.size_toArray]<;>lia) ⟨.int ys.length,H,I.tok _,⟨s.toks+1,by rw [List.size_toArray,hlen]⟩,q⟩
theorem Vn:vb X (.builtin "len") (fun xs H Q=>∃ z,xs=[.str z]/\z.length<=sizeLine/\Q (.int z.length) H):=by
 intro pins s σ H xs us Q I r h;obtain ⟨z,rfl,hz,q⟩:=h;obtain ⟨u,rfl,t,rfl⟩:=wM r;have hn:=Zq;exact len_str (by lia) ⟨.int z.length,H,I.tok _,⟨_,rfl⟩,q⟩
theorem vd:vb X (.type "list") (fun xs H Q=>∃ p ys,xs=[.ref p]/\(SqL X.K H p ys\/SqT X.K H p ys)/\∀ l,H l=none->Q (.ref l) (upd H l (.lst ys))):=by
 intro pins s σ H xs us Q I r h;obtain ⟨p,ys,rfl,hq,q⟩:=h;obtain ⟨u,rfl,rx⟩:=wM r;cases rx;have fin:∀ (its:List Value),Vals ys its->ys.length<=sizeLine->∀ (h':Heap) (c':Nat),(∀ b o',s.heap.get? b=some o'->h'.get? b=some o') ->
   h'.get? s.heap.objs.size=some {cls:=.type "list",dict:=none,data:=.seq its.toArray c',slots:=#[]}->EP X pins σ Q (.ref s.heap.objs.size) {s with heap:=h'}:=fun its r' hz h' c' kp e =>
  ⟨.ref s.heap.objs.size,_,I.laid (t':=s.toks) kp (Nat.le_refl _) (show ObjOk X.prog X.w _ h' _ (.lst ys) from ⟨hz,its,c',r',e⟩),rfl,q _ (I.hok.fresh (Nat.le_refl _))⟩
 rcases hq with hq | hq
 ·obtain ⟨its,r',pl,hz⟩:=I.list hq;have hlen:=r'.length;obtain ⟨o,ho,hc,n,hd⟩:=pl.isList;exact call_list_seq p (.inl rfl) ho hc hd (fun h' c' kp e=>fin its r' hz h' c' kp e) (by simp only [List.size_toArray]<;>lia)
 ·obtain ⟨its,r',pl,hz⟩:=I.tuple hq;have hlen:=r'.length;obtain ⟨o,ho,hc,n,hd⟩:=pl;exact call_list_seq p (.inr rfl) ho hc hd (fun h' c' kp e=>fin its r' hz h' c' kp e) (by simp only [List.size_toArray]<;>lia)
theorem qU:vb X (.type "tuple") (fun xs H Q=>∃ p ys,xs=[.ref p]/\((SqL X.K H p ys/\∀ l,H l=none->Q (.ref l) (upd H l (.tup ys)))\/(SqT X.K H p ys/\Q (.ref p) H))):=by
 intro pins s σ H xs us Q I r h;obtain ⟨p,ys,rfl,h⟩:=h;obtain ⟨u,rfl,rx⟩:=wM r;cases rx
 rcases h with ⟨hq,q⟩ | ⟨hq,q⟩
 ·obtain ⟨its,r',pl,hz⟩:=I.list hq;have hlen:=r'.length;refine call_tuple_list pl.isList (fun h' kp=>?_) (by simp only [List.size_toArray]<;>lia);have I1:Inv X pins σ H {s with heap:=h'}:=I.kept (t':=s.toks) kp
  have I2:Inv X pins σ (upd H h'.objs.size (.tup ys)) {s with heap:=h'.push {cls:=.type "tuple",data:=.seq its.toArray}} :=
   I1.laid (t':=s.toks) (fun b o e=>jG _ e) (Nat.le_refl _) (show ObjOk X.prog X.w _ _ _ (.tup ys) from ⟨hz,its,r',IsTupD.new _ _⟩)
  exact ⟨.ref h'.objs.size,_,I2,rfl,q _ (I1.hok.fresh (Nat.le_refl _))⟩
 ·obtain ⟨its,r',pl,hz⟩:=I.tuple hq;exact call_tuple_same pl ⟨.ref p,H,I,rfl,q⟩
def tyV (K:PySem.W.Frag) (T:String) (x:V) (H:Hp):Prop:=match x with
 | .str _=>T = "str"
 | .int _=>T = "int"
 | .ref p=>(T = "list" /\ ∃ xs,SqL K H p xs)\/(T = "tuple" /\ ∃ o,K.lookup p=some o/\o.cls=.type "tuple" /\ o.dict=none) \/
   (T = "dict" /\ ((∃ kvs,H p=some (.dK kvs))\/∃ kvs,H p=some (.dT kvs)))\/(T = "set" /\ ∃ S n,H p=some (.set S n))
 | _=>False
theorem Mi {pins:List (Addr×Obj)} {σ:St} {H:Hp} {s:Shared} {T:String} {x:V} {v:Value} (I:Inv X pins σ H s) (r:RelV x v) (ty:tyV X.K T x H) :
  s.TypeIs v T/\∀ a,v=.ref a->∃ ob,s.heap.get? a=some ob/\ob.dict=none:=by
 cases x with
 | str z =>
  obtain ⟨t,rfl⟩:=r;cases (show T = "str" from ty);exact ⟨typeIs_str s z t,fun _ e=>nomatch e⟩
 | int i =>
  obtain ⟨t,rfl⟩:=r;cases (show T = "int" from ty);exact ⟨typeIs_int s i t,fun _ e=>nomatch e⟩
 | ref p =>
  cases r
  rcases ty with ⟨rfl,xs,hq⟩ | ⟨rfl,o,hk,hc,hd⟩ | ⟨rfl,hk⟩ | ⟨rfl,S,n,hk⟩
  ·obtain ⟨its,_,pl,_⟩:=I.list hq;refine ⟨pl.isList.typeIs,fun a e=>?_⟩
   cases e;obtain ⟨o,n,e,c,hd,_⟩:=pl;exact ⟨o,e,hd⟩
  ·refine ⟨⟨o,I.kIn p o hk,hc⟩,fun a e=>?_⟩
   cases e;exact ⟨o,I.kIn _ o hk,hd⟩
  ·have z:∃ o,s.heap.get? p=some o/\o.ExactDict:=by
    rcases hk with ⟨kvs,hk⟩ | ⟨kvs,hk⟩
    ·obtain ⟨_,_,_,_,o,_,_,e,ex,_⟩:=I.hok p _ hk;exact ⟨o,e,ex⟩
    ·obtain ⟨_,_,_,_,o,_,_,e,ex,_⟩:=I.hok p _ hk;exact ⟨o,e,ex⟩
   obtain ⟨o,e,ex⟩:=z;refine ⟨⟨o,e,ex.1⟩,fun a e2=>?_⟩
   cases e2;exact ⟨o,e,ex.2.1⟩
  ·obtain ⟨o,_,_,_,e,ex,_⟩:=I.hok p _ hk;refine ⟨⟨o,e,ex.1⟩,fun a e2=>?_⟩
   cases e2;exact ⟨o,e,ex.2.1⟩
 | _=>exact False.elim ty
def Er (K:PySem.W.Frag) (T:String) (r:V->List V->Hp->VK->Prop) (to:TE):TE:=fun σ H Q=>to σ H fun x H1=>tyV K T x H1/\r x [] H1 Q
def tBM (K:PySem.W.Frag) (T:String) (r:V->List V->Hp->VK->Prop) (to:TE) (t:TA):TE:=fun σ H Q=>to σ H fun x H1=>tyV K T x H1/\t σ H1 fun xs H2=>r x xs H2 Q
variable {o e:Expr} {es:List Expr} {to:TE} {t:TA} {name:Str} {apos cpos:Pos} {T id:String} {r:V->List V->Hp->VK->Prop}
theorem RD (pa:PlainAttrs T) (slot:Slot T name id) (hty:typeOf (.builtin id)=pure (.type "method_descriptor")) (hm:MtR X id r) (ho:PE X o to)
  (hbase:attributeBase o name X.env (eval o X.env)=eval o X.env:=by rfl) (hline:(apos.endLine==cpos.line)=true:=by rfl):PE X (.Call (.Attribute o name apos) [] [] cpos) (Er X.K T r to):=by
 intro pins s σ H Q I h;refine wpAny_Call_method0_late hbase hline (thn (ho pins s σ H _ I h) fun v s1 ⟨x,H1,I1,r1,ty,q1⟩=>?_)
 obtain ⟨h1,h2⟩:=Mi I1 r1 ty;exact ⟨T,id,pa,slot,hty,h1,h2,Calls.callWith_builtin rfl (PySem.evalArgs_none (hm pins s1 σ H1 x [] v [] Q I1 r1 .nil q1))⟩
theorem SQ (pa:PlainAttrs T) (slot:Slot T name id) (hty:typeOf (.builtin id)=pure (.type "method_descriptor")) (hm:MtR X id r) (ho:PE X o to) (ha:PA X (e::es) t)
  (hbase:attributeBase o name X.env (eval o X.env)=eval o X.env:=by rfl)
  (hfew:((backTo cpos (starEach (e::es) X.env)).all (fun x=>!x.1)&&(backToKw cpos (keywordEach [] X.env)).all (fun x=>x.1.isSome)
   && decide ((e::es).length+([]:List Keyword).length+(if ([]:List Keyword).isEmpty then 0 else 1)<30))=true:=by rfl)
  (hline:(apos.endLine==cpos.line)=true:=by rfl) (hs:starEach (e::es) X.env=(false,eval e X.env)::starEach es X.env:=by rfl) (hplain:(backTo cpos (starEach es X.env)).any (·.1)=false:=by rfl) :
  PE X (.Call (.Attribute o name apos) (e::es) [] cpos) (tBM X.K T r to t):=by
 intro pins s σ H Q I h;refine wpAny_Call_method_late hbase hfew hline rfl (thn (ho pins s σ H _ I h) fun v s1 ⟨x,H1,I1,r1,ty,q1⟩=>?_)
 obtain ⟨h1,h2⟩:=Mi I1 r1 ty;refine ⟨T,id,pa,slot,hty,h1,h2,?_⟩;have hA:=ha cpos pins s1 σ H1 _ I1 q1;rw [hs] at hA ⊢;refine Calls.callWith_builtin (by show (false||(backTo cpos (starEach es X.env)).any (·.1))=false;rw [hplain]<;>rfl) (Calls.evalArgs_plain ?_);exact thn hA fun us s2 ⟨vs,H2,I2,r2,q2⟩=>hm pins s2 σ H2 x vs v us Q I2 r1 r2 q2
end
def MtM (X:Cx) (id:String) (r:V->List V->Hp->VK->Prop):Prop :=
 ∀ (pins:List (Addr×Obj)) (s:Shared) (σ:St) (H:Hp) (x:V) (xs:List V) (v:Value) (us:List Value) (Q:VK),Inv X pins σ H s->RelV x v->Vals xs us->r x xs H Q ->
  wpAny (model X.prog X.w) X.A (call (.builtin id) (v::us)) (EP X pins σ Q) X.xe s
theorem Vals.one:∀ {x:V} {us:List Value},Vals [x] us->∃ u,us=[u]/\RelV x u
 | _,_,.cons r .nil=>⟨_,rfl,r⟩
theorem Vals.two:∀ {x y:V} {us:List Value},Vals [x,y] us->∃ u v,us=[u,v]/\RelV x u/\RelV y v
 | _,_,_,.cons r (.cons q .nil)=>⟨_,_,rfl,r,q⟩
theorem Vals.reverse {xs:List V} {us:List Value} (h:Vals xs us):Vals xs.reverse us.reverse:=by
 induction h with
 | nil=>exact .nil
 | cons r t ih=>rw [List.reverse_cons,List.reverse_cons];exact Vals.append ih (.cons r .nil)
theorem Vals.rep {xs:List V} {us:List Value} (h:Vals xs us):∀ k:Nat,Vals (List.replicate k xs).flatten (List.replicate k us).flatten
 | 0=>.nil
 | k+1=>by
  rw [List.replicate_succ,List.replicate_succ,List.flatten_cons,List.flatten_cons];exact Vals.append h (Vals.rep h k)
theorem Zr (its:List Value):∀ (k:Nat) (acc:List Value),
  List.foldl (fun x1 x2=>x1++x2) acc.toArray (List.replicate k its.toArray)=(acc++(List.replicate k its).flatten).toArray
 | 0,acc=>by simp
 | k+1,acc=>by
  have e:acc.toArray++its.toArray=(acc++its).toArray:=by simp
  have e2:(acc++its)++(List.replicate k its).flatten=acc++(List.replicate (k+1) its).flatten:=by
   rw [List.replicate_succ,List.flatten_cons,List.append_assoc]
  rw [<- e2,<- Zr its k (acc++its),<- e,List.replicate_succ,List.foldl_cons]
section
variable {X:Cx} {pins:List (Addr×Obj)} {σ:St} {H:Hp} {s:Shared} {l b:Addr} {xs ys zs:List V}
theorem Inv.lset {its its':List Value} {n:Nat} {f:Array Value->Array Value} {t':Nat} (I:Inv X pins σ H s) (hH:H l=some (.lst xs))
  (e:s.heap.get? l=some {cls:=.type "list",data:=.seq its.toArray n}) (hf:f its.toArray=its'.toArray) (hv:Vals ys its') (hz:ys.length<=sizeLine) :
  Inv X pins σ (upd H l (.lst ys)) {s with heap:=s.heap.update l (Obj.mapSeq f),toks:=t'}:=by
 have q:=PySem.IsL.update e f;rw [hf] at q;refine I.write (x:=l) (e:=l) (by rw [hH];exact trivial) (.inl rfl) (fun b' u hb hu=>(Heap.get?_update_other s.heap (Obj.mapSeq f) (Ne.symm hb)).trans hu) ⟨_,q⟩ ?_
 exact ⟨hz,its',_,hv,q⟩
theorem Inv.lnew {its:List Value} {t':Nat} (I:Inv X pins σ H s) (hv:Vals ys its) (hz:ys.length<=sizeLine) :
  Inv X pins σ (upd H s.heap.objs.size (.lst ys)) {s with heap:=s.heap.push {cls:=.type "list",data:=.seq its.toArray},toks:=t'} :=
 I.laid (fun _ _ q=>jG _ q) (Nat.le_refl _) ⟨hz,its,0,hv,Heap.get?_push_size _ rfl⟩
theorem Inv.fresh (I:Inv X pins σ H s):H s.heap.objs.size=none:=I.hok.fresh (Nat.le_refl _)
theorem Inv.lstM (I:Inv X pins σ H s) (hH:H l=some (.lst xs)):xs.length<=sizeLine/\∃ (its:List Value) (n:Nat),Vals xs its/\xs.length=its.length/\s.heap.get? l=some {cls:=.type "list",data:=.seq its.toArray n}:=by
 obtain ⟨z,its,n,r,e⟩:=I.hok l _ hH;exact ⟨z,its,n,r,r.length,e⟩
theorem Nq {n:Nat} (h:n<=sizeLine):Builtin.List.listTooLong n=false:=by
 unfold Builtin.List.listTooLong;exact decide_eq_false (by lia)
end
section
variable {X:Cx}
def Pi:V->List V->Hp->VK->Prop:=fun x vs H Q=>∃ l xs y,x=.ref l/\vs=[y]/\H l=some (.lst xs)/\xs.length<sizeLine/\Q .non (upd H l (.lst (xs++[y])))
theorem qy:MtM X "list.append" Pi:=by
 intro pins s σ H x vs v us Q I rx rv h;obtain ⟨l,xs,y,rfl,rfl,hH,hz,q⟩:=h;cases rx;obtain ⟨u,rfl,ru⟩:=rv.one;obtain ⟨z,its,n,r,hl,e⟩:=I.lstM hH;refine call_meets F.slot_list_append ⟨_,e,rfl⟩ F.entry_list_append (F.args_list_append_2 _ _) (PySem.list_append l its.toArray n u (by rw [List.size_toArray];lia)) ⟨e,?_⟩;refine ⟨.non,_,I.lset (its':=its++[u]) hH e (by simp) (r.append (.cons ru .nil)) ?_,rfl,q⟩;rw [List.length_append,List.length_singleton]
 lia
theorem Ve {α:Type} (xs:List α) (k:Nat):(List.replicate k xs).flatten.length=k*xs.length:=by
 induction k with
 | zero=>simp
 | succ k ih=>rw [List.replicate_succ,List.flatten_cons,List.length_append,ih,Nat.succ_mul,Nat.add_comm]
end
end L2
namespace Att
open PySem PySem.W PySem.Calls PyProof.Rows
theorem ZR {P:Params} {h:Heap}:∀ (ns:List Int) (vs:List Value),WellAll P h vs (ns.map WData.int)->IntsAre vs ns:=by
 intro ns
 induction ns with
 | nil =>
  intro vs w;rw [List.map_nil] at w;cases w;exact .nil
 | cons n ns ih =>
  intro vs w;rw [List.map_cons] at w;cases w with
  | cons a b =>
   cases a;exact .cons _ _ (ih _ b)
theorem KZ {l:OpenLaw} {n:Nat} (hn:l.most=some n) {P:Params} {h:Heap} {args:List WData} {vals:List Value}
  (hpre:l.row.toRowW.claim.pre args=true) (hwl:WellAll P h vals args) :
  ∃ a vs ns,vals=[Value.ref a]/\args=[WData.list (ns.map WData.int)]/\h.get? a=some {cls:=.type "list",data:=.seq vs.toArray}/\IntsAre vs ns/\ns.length<=n:=by
 have hsh:WShape.hasAll [] args [.list .int]=true:=(pre_splitW hpre).1;have hc:l.pre.holds [] {args:=args}=true:=(pre_splitW hpre).2;obtain ⟨d,r,rfl,h1,h2⟩:=hasAllW_cons hsh;obtain rfl:=hasAllW_nil h2;obtain ⟨xs,rfl,h3⟩:=hasW_list h1;obtain ⟨ns,rfl⟩:=items_int h3;have hlen:ns.length<=n:=by
  unfold OpenLaw.pre at hc;have h4:(WTm.not (.lt (.lit (.int (n:Int))) (.len (.arg 0)))).holds [] {args:=[.list (ns.map .int)]}=true:=by
   have h4:=(holds_andW hc).1;rw [hn] at h4;exact h4
  have h5:=condW_of h4 (w_not (w_lt w_lit (w_len_list (w_arg rfl))));rw [List.length_map] at h5;refine Nat.le_of_not_lt fun q=>?_
  have q':(n:Int)<((ns.length:Nat):Int):=by lia
  first
   | (rw [decide_eq_true q'] at h5;exact absurd h5 (by decide))
   | (simp at h5;lia)
 cases hwl with
 | cons w1 w2 =>
  cases w2;cases w1 with
  | list ho hall=>exact ⟨_,_,ns,rfl,rfl,ho,ZR ns _ hall,hlen⟩
theorem Gk (l:OpenLaw) (args:List WData):l.row.toRowW.claim.post args (.bool true) args=true :=
 postW_of (r:=l.row.toRowW) (X:=(true==true))
  (show WShape.has [] (.bool true) .bool=true by first | rfl | decide | simp [WShape.has,WShape.arms,WShape.armsAll])
  (show (WTm.eq .res (.lit (.bool true))).value [] {args:=args,res:=some (.bool true),after:=args}=some (.bool (true==true)) from w_eq_bool (w_res rfl) w_lit) rfl
theorem attach_call {l:OpenLaw} {n:Nat} {q:Program} {loose:List Str} {XP:(Str->Option Value)->Heap->Prop} {YP:World->Heap->Prop} {d:DefRec}
  (hn:l.most=some n) (hdf:d.params.defaults=[])
  (call:∀ (w:World) (s₀ s₁:Shared) (mg mb:Str->Option Value) (fa:Addr) (o:Obj) (pm cd doc:Value) (a:Addr) (vs:List Value) (ns:List Int),
   Ground q loose [] XP w s₀ mg mb s₁.heap->YP w s₁.heap ->
   s₁.heap.get? fa=some o->o.data=.func (docDef d.name d.params d.body d.scope pm cd doc)->s₁.heap.CodeRec cd d.name->mg d.name=some (.ref fa) ->
   s₁.heap.get? a=some {cls:=.type "list",data:=.seq vs.toArray}->IntsAre vs ns->ns.length<=n->s₁.gens=#[] ->
   codeAny (model l.prog w) callerA (.call (.ref fa) ⟨[.ref a],[]⟩) (fun r s'=>r=.ok (.ret (.bool true))/\OldK s₁.heap s'.heap/\s'.os=s₁.os/\AllBare s'.gens) s₁) :
  WalkO q loose XP YP l.row.toRowW d [] (fun f vs=>PySem.call f vs):=by
 intro w s₀ s₁ mg mb G Y fa o pm cd doc dV kV ho hd hcd hD hmg hg args vals as hpre hlay hrd hwl hlo;obtain rfl:dV=.none:=Dflts.none hD hdf;obtain rfl:kV=.none:=Dflts.noKw hD;obtain ⟨a,vs,ns,rfl,rfl,hobj,hints,hlen⟩:=KZ hn hpre hwl;refine enter_call (codeAny_mono (call w s₀ s₁ mg mb fa o pm cd doc a vs ns G Y ho (fd_plain hd) hcd hmg hobj hints hlen hg) fun r s' hq=>?_)
 obtain ⟨rfl,h2,h3,h4⟩:=hq;exact ⟨.inl ⟨.bool true,.bool true,[],rfl,fun _=>rfl,.bool true,Gk l _,fun _=>⟨List.Pairwise.nil,fun _ hm=>(nomatch hm)⟩⟩,h2,h3,h4⟩
end Att
namespace L2
open PySem PySem.Spec PyProof.Rows
theorem Xp:∀ {vs:List Value} {ns:List Int},IntsAre vs ns->Vals (ns.map V.int) vs
 | _,_,.nil=>.nil
 | _,_,.cons n t h=>.cons ⟨t,rfl⟩ (Xp h)
def SA (H:Hp):Prop:=∀ b,H b=none\/∃ o xs,H b=some (.frz o (.lst xs))
theorem ND {P:Program} {w:World} {K:PySem.W.Frag} {mg mb:Str->Option Value} {CX:CXT} {k:Nat} {fa a:Addr} {fd:FuncData} {x:Str} {sp:Sp} {s₁:Shared} {vs:List Value} {ns:List Int}
  (KX:K.In s₁.heap) (hns:s₁.heap.Ns mainGlobals mg) (hb:s₁.heap.Ns builtinsNs mb) (hbb:∀ x:Str,x ≠ "__name__" -> mb x=bootBuiltins x) (hlim:s₁.heap.NoLimit) (hg:s₁.gens=#[])
  (ha:s₁.heap.get? a=some {cls:=.type "list",data:=.seq vs.toArray}) (hi:IntsAre vs ns) (hl:ns.length<=sizeLine) (hr:Room k callerA)
  (F:∀ base:Heap,K.In base->base.Ns mainGlobals mg->FnOk P w K mg base CX k fa fd [x] sp) (hbind:∀ (s:Shared) (u:Value),BindsTo s fd ⟨[u],[]⟩ [(x,u)])
  (hsp:∀ H:Hp,SA H->SqL K H a (ns.map V.int)->sp [.ref a] H (fun v _=>v=.bl true) fun _ _ _=>False)
  (hCX:∀ H e s',CX [] H s₁ (fun _ _ _=>False) e s'->False) :
  codeAny (model P w) callerA (.call (.ref fa) ⟨[.ref a],[]⟩) (fun r s'=>r=.ok (.ret (.bool true))/\OldK s₁.heap s'.heap/\s'.os=s₁.os/\AllBare s'.gens) s₁:=by
 have rv:=Xp hi;have lenV:=hi.length;have core:∀ H:Hp,SA H->SqL K H a (ns.map V.int)->HOk P w H s₁.heap->(∀ b,H b≠none->b=a)->(H a≠none->K.lookup a=none) ->
   codeAny (model P w) callerA (.call (.ref fa) ⟨[.ref a],[]⟩) (fun r s'=>r=.ok (.ret (.bool true))/\OldK s₁.heap s'.heap/\s'.os=s₁.os/\AllBare s'.gens) s₁:=by
  intro H hO hS hok hA hK;have base_of:∀ {b:Addr} {o:Obj},s₁.heap.get? b=some o->H b=none->(Vf s₁.heap H).get? b=some o:=fun e n=>NU e n
  have noA:∀ {b:Addr} {o:Obj} {es:Array DictEntry} {ep:Nat},s₁.heap.get? b=some o->o.data=.dict es ep->H b=none:=fun {b o es ep} e d=>by
   cases q:H b with
   | none=>rfl
   | some u =>
    have e':b=a:=hA b (by rw [q];simp);subst e';rw [ha] at e;cases e;have d':Data.seq vs.toArray _=Data.dict es ep:=d;cases d'
  have nsK:∀ {b:Addr} {m:Str->Option Value},s₁.heap.Ns b m->(Vf s₁.heap H).Ns b m:=fun {b m} ⟨o,es,ep,e,d,r⟩=>⟨o,es,ep,base_of e (noA e d),d,r⟩
  have hKb:K.In (Vf s₁.heap H):=fun b o e=>base_of (KX b o e) (by
   cases q:H b with
   | none=>rfl
   | some u =>
    have e':b=a:=hA b (by rw [q];simp);subst e';rw [hK (by rw [q];simp)] at e;cases e)
  have hM:Mod K mg (Vf s₁.heap H):=⟨hKb,nsK hns,⟨mb,nsK hb,hbb⟩,let ⟨mc,h1,h2⟩:=hlim;⟨mc,nsK h1,h2⟩⟩
  have e0:Env0 P w K mg (Vf s₁.heap H) callerA [] s₁ H:=⟨rfl,hM,fun b o e=>PD e,Nat.le_of_eq (GJ _ _),trivial,fun b hb=>absurd (show b∈([]:List Addr) from hb) (by simp),hok,.of_eq hg⟩
  refine codeAny_mono ((F _ hKb (nsK hns)).run callerA [] s₁ H ⟨[.ref a],[]⟩ [.ref a] [.ref a] _ _ hr e0 (hbind s₁ (.ref a)) (.cons rfl .nil) (hsp H hO hS)) fun r s' h=>?_
  cases r with
  | error e=>exact (hCX H e s' h).elim
  | ok fl =>
   cases fl with
   | next=>exact False.elim h
   | brk=>exact False.elim h
   | cont=>exact False.elim h
   | ret u =>
    obtain ⟨v,H',os,bare,un,hok',r',q⟩:=h;have q':v=.bl true:=q;subst q';obtain rfl:u=Value.bool true:=r';refine ⟨rfl,OldK.of_keep fun b o e=>?_,os,bare⟩
    cases q:H b with
    | none=>exact un.keep b o e q (by intro z;exact absurd (show b∈([]:List Addr) from z) (by simp)) (by simp)
    | some u =>
     rcases hO b with z | ⟨ob,xs,z⟩
     ·rw [q] at z;cases z
     ·have z2:=un.frzs b ob _ z;obtain ⟨e1,_⟩:=hok b _ z;obtain ⟨e2,_⟩:=hok' b _ z2;rw [e] at e1;cases e1;exact e2
 cases hk:K.lookup a with
 | some o =>
  have e:=KX a o hk;rw [ha] at e;cases e;refine core (fun _=>none) (fun _=>.inl rfl) (.inr ⟨_,vs.toArray,_,hk,rfl,rfl,rfl,by rw [List.size_toArray,lenV];exact hl,by simpa using rv⟩) (fun b u z=>by have z':(none:Option HO)=some u:=z;cases z') (fun b z=>absurd rfl z) fun z=>absurd rfl z
 | none =>
  refine core (fun b=>if b=a then some (.frz {cls:=.type "list",data:=.seq vs.toArray} (.lst (ns.map V.int))) else none) (fun b=>?_) (.inl (.inr ⟨{cls:=.type "list",data:=.seq vs.toArray},if_pos rfl⟩)) (fun b u z=>?_) (fun b z=>?_) fun _=>hk
  ·by_cases hb:b=a
   ·exact .inr ⟨_,_,if_pos hb⟩
   ·exact .inl (if_neg hb)
  ·by_cases hb:b=a
   ·have z':=(if_pos hb).symm.trans z;cases z';subst hb;exact ⟨ha,by rw [List.length_map];exact hl,vs,_,rv,ha⟩
   ·have z':=(if_neg hb).symm.trans z;cases z'
  ·by_cases hb:b=a
   ·exact hb
   ·exact absurd (if_neg hb) z
theorem BE {l:PySem.W.OpenLaw} {n k:Nat} {q:Program} {loose:List Str} {XP:(Str->Option Value)->Heap->Prop} {YP:World->Heap->Prop} {d:DefRec} {K:Params->PySem.W.Frag} {CX:World->CXT} {sp:World->Sp} {x:Str}
  (hn:l.most=some n) (hn2:n<=sizeLine) (hdf:d.params.defaults=[]) (hr:Room k callerA)
  (hY:∀ (w:World) (h:Heap),YP w h->(K w.params).In h)
  (F:∀ (w:World) (mg:Str->Option Value) (fa:Addr) (h:Heap),(K w.params).In h->h.Ns mainGlobals mg->mg d.name=some (.ref fa) ->
   ∃ fd:FuncData,(∀ (s:Shared) (u:Value),BindsTo s fd ⟨[u],[]⟩ [(x,u)]) /\
    ∀ base:Heap,(K w.params).In base->base.Ns mainGlobals mg->FnOk l.prog w (K w.params) mg base (CX w) k fa fd [x] (sp w))
  (hsp:∀ (w:World) (H:Hp) (a:Addr) (ns:List Int),ns.length<=n->SA H->SqL (K w.params) H a (ns.map V.int)->sp w [.ref a] H (fun v _=>v=.bl true) fun _ _ _=>False)
  (hCX:∀ (w:World) (H:Hp) (s:Shared) (e:Value) (s':Shared),CX w [] H s (fun _ _ _=>False) e s'->False) :
  PySem.W.WalkO q loose XP YP l.row.toRowW d [] (fun f vs=>PySem.call f vs):=by
 refine Att.attach_call hn hdf fun w s₀ s₁ mg mb fa o pm cd doc a vs ns G Y ho hd hcd hmg hobj hints hlen hg=>?_
 have KX:=hY w _ Y;obtain ⟨fd,hb,hF⟩:=F w mg fa _ KX G.T.g hmg;exact ND KX G.T.g G.T.b G.T.builtins G.T.nolimit hg hobj hints (Nat.le_trans hlen hn2) hr hF hb (fun H hO hS=>hsp w H a ns hlen hO hS) fun H e s'=>hCX w H s₁ e s'
theorem walk_ofK {l:PySem.W.OpenLaw} {n k:Nat} {q:Program} {loose:List Str} {XP:(Str->Option Value)->Heap->Prop} {YP:World->Heap->Prop} {d:DefRec} {K:Params->PySem.W.Frag} {CX:CXT} {sp:PySem.W.Frag->Sp} {x:Str}
  (hn:l.most=some n) (hn2:n<=sizeLine) (hdf:d.params.defaults=[]) (hr:Room k callerA)
  (hY:∀ (w:World) (h:Heap),YP w h->(K w.params).In h)
  (F:∀ (w:World) (mg:Str->Option Value) (fa:Addr) (h:Heap),(K w.params).In h->h.Ns mainGlobals mg->mg d.name=some (.ref fa) ->
   ∃ fd:FuncData,(∀ (s:Shared) (u:Value),BindsTo s fd ⟨[u],[]⟩ [(x,u)]) /\
    ∀ base:Heap,(K w.params).In base->base.Ns mainGlobals mg->FnOk l.prog w (K w.params) mg base CX k fa fd [x] (sp (K w.params)))
  (hsp:∀ (K:PySem.W.Frag) (H:Hp) (a:Addr) (ns:List Int),ns.length<=n->SA H->SqL K H a (ns.map V.int)->sp K [.ref a] H (fun v _=>v=.bl true) fun _ _ _=>False)
  (hCX:∀ (H:Hp) (s:Shared) (e:Value) (s':Shared),CX [] H s (fun _ _ _=>False) e s'->False) :
  PySem.W.WalkO q loose XP YP l.row.toRowW d [] (fun f vs=>PySem.call f vs) :=
 BE (K:=K) (CX:=fun _=>CX) (sp:=fun w=>sp (K w.params)) hn hn2 hdf hr hY F (fun w H a ns h1 h2 h3=>hsp (K w.params) H a ns h1 h2 h3) fun _ H s e s'=>hCX H s e s'
def wK (s:Stmt):Arguments:=match s with
 | .FunctionDef _ a _ _ _ _ _ _ _ _=>a
 | _=>{posonlyargs:=[],args:=[],vararg:=none,kwonlyargs:=[],kw_defaults:=[],kwarg:=none,defaults:=[]}
def yQ (s:Stmt):List Stmt:=match s with
 | .FunctionDef _ _ b _ _ _ _ _ _ _=>b
 | _=>[]
def zk (s:Stmt):Scope:=match s with
 | .FunctionDef _ _ _ _ _ _ sc _ _ _=>sc
 | _=>{kind:=.function,names:=[],isGenerator:=false,isCoroutine:=false}
abbrev CX0:CXT:=fun _ _ _ _ _ _=>False
structure Fun (K:PySem.W.Frag) (x qual:Str) (st:Stmt) (f:Addr) (fd:FuncData):Prop where
 ex:∃ (oc:Value) (od:Option Addr) (kV doc pm:Value) (an:Option Addr) (cdv ct:Value) (osl:Array (Option Value)),
  fd=PySem.W.fnOf x qual (wK st) (yQ st) (zk st) .none kV doc pm an cdv ct/\K.lookup f=some ⟨oc,od,.func fd,osl⟩/\PySem.W.codeIn K cdv qual=true
 kp:PySem.W.keepIn K (.ref f)=true
section
variable {P:Program} {w:World} {K:PySem.W.Frag} {mg:Str->Option Value} {base:Heap}
theorem Fun.ok {x qual:Str} {st:Stmt} {f:Addr} {fd:FuncData} {N ps:List Str} {k:Nat} {sp:Sp} (F:Fun K x qual st f fd) (S:FnScope N ps (zk st)) (len:∀ vs H Q E,sp vs H Q E->vs.length=ps.length)
  (hbody:∀ (cdv:Value) (A:Around) (outer:List Env) (s:Shared) (H:Hp) (vs:List V) (Q:VK) (E:XK),Room k (A.deeper (envOfC qual (zk st) s.heap.objs.size f cdv))->sp vs H Q E ->
   ∃ t,PSs (jk CX0 P w K mg base N qual (zk st) f cdv A outer s H E).nox (yQ st) t/\t {nx:=fun _ H'=>Q .non H',rt:=Q} (start N vs) H):FnOk P w K mg base CX0 (k+1) f fd ps sp:=by
 obtain ⟨oc,od,kV,doc,pm,an,cdv,ct,osl,rfl,lk,hcd⟩:=F.ex;refine Ks lk hcd S len fun A outer s H vs Q E hr hsp=>?_
 obtain ⟨t,h,q⟩:=hbody cdv A outer s H vs Q E hr hsp;exact ⟨t,h.nox,q⟩
theorem Fun.binds {x qual:Str} {st:Stmt} {f:Addr} {fd:FuncData} {ps:List Str} (F:Fun K x qual st f fd)
  (h:∀ (kV doc pm:Value) (an:Option Addr) (cdv ct:Value) (us:List Value),us.length=ps.length->bindArgs (PySem.W.fnOf x qual (wK st) (yQ st) (zk st) .none kV doc pm an cdv ct) ⟨us,[]⟩=pure (ps.zip us)):Binds K fd ps []:=by
 obtain ⟨oc,od,kV,doc,pm,an,cdv,ct,osl,rfl,lk,hcd⟩:=F.ex;exact .all (h kV doc pm an cdv ct)
theorem Vg {x qual:Str} {st:Stmt} {f:Addr} {oc:Value} {od an:Option Addr} {osl:Array (Option Value)} {kV doc pm cdv ct:Value} (l:K.lookup f=some ⟨oc,od,.func (PySem.W.fnOf x qual (wK st) (yQ st) (zk st) .none kV doc pm an cdv ct),osl⟩)
  (c:PySem.W.codeIn K cdv qual=true) (k:PySem.W.keepIn K (.ref f)=true):Fun K x qual st f (PySem.W.fnOf x qual (wK st) (yQ st) (zk st) .none kV doc pm an cdv ct):=⟨⟨oc,od,kV,doc,pm,an,cdv,ct,osl,rfl,l,c⟩,k⟩
end
section
variable {X:Cx}
theorem pv (i:Nat) {x:Str} {pos:Pos} (hN:X.N[i]?=some x:=by rfl) (hv:Vis X.env.scope x:=by first | exact Or.inl rfl | exact Or.inr (Or.inl rfl) | exact Or.inr (Or.inr rfl)) (hd:(x==("__debug__" : Str))=false:=by decide)
  (hcd:(x==("__classdict__" : Str))=false:=by decide):PE X (.Name x pos) (LN i):=vM hN hv hd hcd
end
theorem UC {A B:Prop} (h:B):if false=true then A else B:=by
 rw [if_neg Bool.false_ne_true];exact h
theorem Jb {A B:Prop} (h:A):if true=true then A else B:=by
 rw [if_pos rfl];exact h
def Same (H H':Hp):Prop:=∀ b o,H b=some o->H' b=some o
theorem Same.refl (H:Hp):Same H H:=fun _ _ h=>h
theorem Same.trans {H H1 H2:Hp} (a:Same H H1) (b:Same H1 H2):Same H H2:=fun c o h=>b c o (a c o h)
theorem Same.free {H H':Hp} (e:Same H H') {l:Addr} (h:H' l=Option.none):H l=Option.none:=by
 cases q:H l with
 | none=>rfl
 | some o =>
  rw [e l o q] at h;cases h
theorem Same.seq {K:PySem.W.Frag} {H H':Hp} {a:Addr} {xs:List V} (e:Same H H') (h:SqL K H a xs):SqL K H' a xs:=by
 rcases h with (h | ⟨o,h⟩) | h
 ·exact .inl (.inl (e _ _ h))
 ·exact .inl (.inr ⟨o,e _ _ h⟩)
 ·exact .inr h
end L2
namespace Pu
open PySem PySem.Spec PyProof.Rows L2
abbrev SS:=L2.St
inductive PV where
 | non | bl (b:Bool) | int (i:Int) | str (x:Str) | lst (xs:List PV) | tup (xs:List PV)
 deriving Inhabited
inductive XCl where
 | own (x:Str) | blt (T:String)
structure XC where
 cls:XCl
 fs:List (Str×PV):=[]
inductive Res (α:Type) where
 | ok (a:α) | exc (x:XC) | bad
def Res.bind {α β:Type}:Res α->(α->Res β)->Res β
 | .ok a,f=>f a
 | .exc x,_=>.exc x
 | .bad,_=>.bad
@[simp] theorem Res.bind_ok {α β:Type} (a:α) (f:α->Res β):(Res.ok a).bind f=f a:=(rfl)
@[simp] theorem Res.bind_exc {α β:Type} (x:XC) (f:α->Res β):(Res.exc x:Res α).bind f=.exc x:=(rfl)
@[simp] theorem Res.bind_bad {α β:Type} (f:α->Res β):(Res.bad:Res α).bind f=.bad:=(rfl)
def On {α:Type} (r:Res α) (x:XC->Prop) (k:α->Prop):Prop:=match r with
 | .ok v=>k v
 | .exc e=>x e
 | .bad=>False
mutual
def Rep (K:PySem.W.Frag) (H:Hp):PV->V->Prop
 | .non,x=>x=.non
 | .bl b,x=>x=.bl b
 | .int i,x=>x=.int i
 | .str t,x=>x=.str t
 | .lst vs,x=>∃ a xs,x=.ref a/\SqL K H a xs/\Reps K H vs xs
 | .tup vs,x=>∃ a xs,x=.ref a/\SqT K H a xs/\Reps K H vs xs
def Reps (K:PySem.W.Frag) (H:Hp):List PV->List V->Prop
 | [],xs=>xs=[]
 | v::vs,xs=>∃ x r,xs=x::r/\Rep K H v x/\Reps K H vs r
end
section
variable {K:PySem.W.Frag} {H H':Hp}
theorem jn {a:Addr} {xs:List V} (e:Same H H') (h:SqT K H a xs):SqT K H' a xs:=by
 rcases h with (h | ⟨o,h⟩) | h
 ·exact .inl (.inl (e _ _ h))
 ·exact .inl (.inr ⟨o,e _ _ h⟩)
 ·exact .inr h
mutual
theorem Rep.mono (e:Same H H'):∀ {v:PV} {x:V},Rep K H v x->Rep K H' v x
 | .non,_,h=>by simpa only [Rep] using h
 | .bl _,_,h=>by simpa only [Rep] using h
 | .int _,_,h=>by simpa only [Rep] using h
 | .str _,_,h=>by simpa only [Rep] using h
 | .lst vs,x,h=>by
  simp only [Rep] at h ⊢;obtain ⟨a,xs,h1,h2,h3⟩:=h;exact ⟨a,xs,h1,e.seq h2,Reps.mono e h3⟩
 | .tup vs,x,h=>by
  simp only [Rep] at h ⊢;obtain ⟨a,xs,h1,h2,h3⟩:=h;exact ⟨a,xs,h1,jn e h2,Reps.mono e h3⟩
theorem Reps.mono (e:Same H H'):∀ {vs:List PV} {xs:List V},Reps K H vs xs->Reps K H' vs xs
 | [],_,h=>by simpa only [Reps] using h
 | v::vs,xs,h=>by
  simp only [Reps] at h ⊢;obtain ⟨x,r,h1,h2,h3⟩:=h;exact ⟨x,r,h1,Rep.mono e h2,Reps.mono e h3⟩
end
theorem Reps.nil {xs:List V}:Reps K H [] xs↔xs=[]:=by simp only [Reps]
theorem Reps.cons {v:PV} {vs:List PV} {xs:List V}:Reps K H (v::vs) xs↔∃ x r,xs=x::r/\Rep K H v x/\Reps K H vs r:=by simp only [Reps]
theorem Reps.mk {v:PV} {vs:List PV} {x:V} {r:List V} (h:Rep K H v x) (t:Reps K H vs r):Reps K H (v::vs) (x::r):=Reps.cons.mpr ⟨x,r,rfl,h,t⟩
theorem Reps.length:∀ {vs:List PV} {xs:List V},Reps K H vs xs->xs.length=vs.length
 | [],_,h=>by rw [Reps.nil.mp h];rfl
 | v::vs,xs,h=>by
  obtain ⟨x,r,rfl,_,t⟩:=Reps.cons.mp h;simp [Reps.length t]
theorem Reps.append:∀ {vs us:List PV} {xs ys:List V},Reps K H vs xs->Reps K H us ys->Reps K H (vs++us) (xs++ys)
 | [],us,xs,ys,h,t=>by rw [Reps.nil.mp h];exact t
 | v::vs,us,xs,ys,h,t=>by
  obtain ⟨x,r,rfl,h1,h2⟩:=Reps.cons.mp h;exact Reps.mk h1 (Reps.append h2 t)
theorem Reps.get:∀ {vs:List PV} {xs:List V} {i:Nat} {v:PV},Reps K H vs xs->vs[i]?=some v->∃ x,xs[i]?=some x/\Rep K H v x
 | [],_,i,v,_,e=>by simp at e
 | u::vs,xs,0,v,h,e=>by
  obtain ⟨x,r,rfl,h1,_⟩:=Reps.cons.mp h;simp at e;subst e;exact ⟨x,rfl,h1⟩
 | u::vs,xs,i+1,v,h,e=>by
  obtain ⟨x,r,rfl,_,h2⟩:=Reps.cons.mp h;obtain ⟨y,e1,e2⟩:=Reps.get h2 (i:=i) (v:=v) (by simpa using e);exact ⟨y,by simpa using e1,e2⟩
theorem Reps.take:∀ {vs:List PV} {xs:List V} (n:Nat),Reps K H vs xs->Reps K H (vs.take n) (xs.take n)
 | _,_,0,_=>by simp [Reps.nil]
 | [],xs,n+1,h=>by rw [Reps.nil.mp h];simp [Reps.nil]
 | v::vs,xs,n+1,h=>by
  obtain ⟨x,r,rfl,h1,h2⟩:=Reps.cons.mp h;exact Reps.mk h1 (Reps.take n h2)
theorem Reps.drop:∀ {vs:List PV} {xs:List V} (n:Nat),Reps K H vs xs->Reps K H (vs.drop n) (xs.drop n)
 | _,_,0,h=>h
 | [],xs,n+1,h=>by rw [Reps.nil.mp h];simp [Reps.nil]
 | v::vs,xs,n+1,h=>by
  obtain ⟨x,r,rfl,_,h2⟩:=Reps.cons.mp h;exact Reps.drop n h2
theorem Reps.set {v:PV} {x:V} (q:Rep K H v x):∀ {vs:List PV} {xs:List V} (i:Nat),Reps K H vs xs->Reps K H (vs.set i v) (xs.set i x)
 | [],xs,i,h=>by rw [Reps.nil.mp h];simp [Reps.nil]
 | u::vs,xs,0,h=>by
  obtain ⟨y,r,rfl,_,h2⟩:=Reps.cons.mp h;exact Reps.mk q h2
 | u::vs,xs,i+1,h=>by
  obtain ⟨y,r,rfl,h1,h2⟩:=Reps.cons.mp h;exact Reps.mk h1 (Reps.set q i h2)
theorem Reps.snoc {v:PV} {vs:List PV} {x:V} {xs:List V} (h:Reps K H vs xs) (q:Rep K H v x):Reps K H (vs++[v]) (xs++[x]):=h.append (Reps.mk q (Reps.nil.mpr rfl))
theorem Reps.reverse:∀ {vs:List PV} {xs:List V},Reps K H vs xs->Reps K H vs.reverse xs.reverse
 | [],xs,h=>by rw [Reps.nil.mp h];simp [Reps.nil]
 | v::vs,xs,h=>by
  obtain ⟨x,r,rfl,h1,h2⟩:=Reps.cons.mp h;rw [List.reverse_cons,List.reverse_cons];exact (Reps.reverse h2).snoc h1
theorem Reps.rep {vs:List PV} {xs:List V} (h:Reps K H vs xs):∀ k:Nat,Reps K H (List.replicate k vs).flatten (List.replicate k xs).flatten
 | 0=>by simp [Reps.nil]
 | k+1=>by
  rw [List.replicate_succ,List.replicate_succ,List.flatten_cons,List.flatten_cons];exact h.append (Reps.rep h k)
theorem Rep.lst {a:Addr} {vs:List PV} {xs:List V} (h:SqL K H a xs) (r:Reps K H vs xs):Rep K H (.lst vs) (.ref a):=by
 simp only [Rep];exact ⟨a,xs,rfl,h,r⟩
theorem Rep.tup {a:Addr} {vs:List PV} {xs:List V} (h:SqT K H a xs) (r:Reps K H vs xs):Rep K H (.tup vs) (.ref a):=by
 simp only [Rep];exact ⟨a,xs,rfl,h,r⟩
theorem Rep.lst' {vs:List PV} {x:V}:Rep K H (.lst vs) x↔∃ a xs,x=.ref a/\SqL K H a xs/\Reps K H vs xs:=by simp only [Rep]
theorem Rep.tup' {vs:List PV} {x:V}:Rep K H (.tup vs) x↔∃ a xs,x=.ref a/\SqT K H a xs/\Reps K H vs xs:=by simp only [Rep]
theorem Rep.int {i:Int} {x:V}:Rep K H (.int i) x↔x=.int i:=by simp only [Rep]
theorem Rep.bl {i:Bool} {x:V}:Rep K H (.bl i) x↔x=.bl i:=by simp only [Rep]
theorem Rep.str {i:Str} {x:V}:Rep K H (.str i) x↔x=.str i:=by simp only [Rep]
theorem Rep.non {x:V}:Rep K H .non x↔x=.non:=by simp only [Rep]
end
open Classical in
noncomputable def hid (W:Addr->Prop) (H:Hp):Hp:=fun a=>if W a then none else H a
theorem xf {W:Addr->Prop} {H:Hp} {a:Addr} {o:HO} (n:¬ W a) (h:H a=some o):hid W H a=some o:=by
 unfold hid;rw [if_neg n];exact h
theorem hid_sub {W:Addr->Prop} {H:Hp}:Same (hid W H) H:=fun b o h=>by
 unfold hid at h
 split at h
 ·cases h
 ·exact h
theorem zD {W:Addr->Prop} {H H':Hp} (e:Same H H'):Same (hid W H) (hid W H'):=fun b o h=>by
 unfold hid at h ⊢
 split at h
 ·cases h
 ·rename_i n;rw [if_neg n];exact e b o h
theorem vw {W W':Addr->Prop} {H:Hp} (e:∀ a,W' a->W a):Same (hid W H) (hid W' H):=fun b o h=>by
 unfold hid at h ⊢
 split at h
 ·cases h
 ·rename_i n;rw [if_neg fun z=>n (e b z)];exact h
theorem Yg {W:Addr->Prop} {H:Hp} {p:Addr} {o:HO} (n:¬ W p):hid W (upd H p o) p=some o:=xf n zE
theorem yv {H:Hp} {p:Addr} {o:HO} (n:H p=none):Same H (upd H p o):=fun b u h=>by
 rw [zu (zA h n)];exact h
def BA (e:Addr) (C:Value) (dx:Option Addr) (h:Heap):Prop:=∃ oe vs,h.get? e=some oe/\oe.cls=C/\oe.dict=dx/\oe.data=.fields vs/\1<vs.size
def Vt (T:Addr) (h:Heap):Prop:=∃ oT ts,h.get? T=some oT/\oT.data=.fields ts/\3<ts.size
def KM (H:Hp) (h:Heap) (e:Addr) (C:Value) (dx:Option Addr):Prop :=
 H e=some (.ext (BA e C dx))/\∃ oe vs,h.get? e=some oe/\oe.data=.fields vs /\
  (vs[1]?=some .none\/∃ T oT ts,vs[1]?=some (.ref T)/\T≠e/\H T=some (.ext (Vt T))/\h.get? T=some oT/\oT.data=.fields ts/\ts[3]?=some .none)
def Ts (K:PySem.W.Frag):XCl->Value->Prop
 | .own x,C=>PySem.W.nsIn K mainGlobals x=some (some C)
 | .blt T,C=>C=.type T
def Pay (K:PySem.W.Frag) (H:Hp) (dx:Option Addr) (fs:List (Str×PV)):Prop :=
 fs=[]\/∃ d ys,dx=some d/\H d=some (.xd ys)/\ys.map (·.1)=fs.map (·.1)/\Reps K (fun _=>none) (fs.map (·.2)) (ys.map (·.2))
theorem Pay.mono {K:PySem.W.Frag} {H H':Hp} {dx:Option Addr} {fs:List (Str×PV)} (h:Pay K H dx fs) (e:Same H H'):Pay K H' dx fs:=by
 rcases h with h | ⟨d,ys,h1,h2,h3⟩
 ·exact .inl h
 ·exact .inr ⟨d,ys,h1,e _ _ h2,h3⟩
def BI (x:List Int×Addr×Value):DictEntry:=⟨reduceHash (Builtin.Tuple.tupleHashOf (x.1.map hashInt)),.ref x.2.1,x.2.2⟩
def Qf (y:List Int×Addr×V) (x:List Int×Addr×Value):Prop:=y.1=x.1/\y.2.1=x.2.1/\RelV y.2.2 x.2.2
def ZD (a:Addr) (o:Obj) (ys:List (List Int×Addr×V)) (h:Heap):Prop:=(a==sysModules)=false/\∃ xs:List (List Int×Addr×Value),Paired Qf ys xs /\
 ∃ es ep,h.get? a=some o/\o.ExactDict/\o.data=.dict es ep/\es.toList=xs.map BI/\(xs.map (·.1)).Nodup
def DR (K:PySem.W.Frag) (H:Hp) (p:List Int×PV) (y:List Int×Addr×V):Prop:=p.1=y.1/\Rep K H (.tup (p.1.map PV.int)) (.ref y.2.1)/\Rep K H p.2 y.2.2
theorem DR.mono {K:PySem.W.Frag} {H H':Hp} (e:Same H H') {kvs:List (List Int×PV)} {ys:List (List Int×Addr×V)} (h:Paired (DR K H) kvs ys):Paired (DR K H') kvs ys:=Paired.mapP h fun _ _ q=>⟨q.1,q.2.1.mono e,q.2.2.mono e⟩
inductive Sl where
 | val (v:PV) | own (xs:List PV) | exn (x:XC) | dic (kvs:List (List Int×PV)) | fdc (kvs:List (List Int×PV))
def Sl.Mine:Sl->Prop
 | .own _=>True
 | .dic _=>True
 | _=>False
abbrev En:=List (Option Sl)
def SlRep (K:PySem.W.Frag) (W:Addr->Prop) (H:Hp):Sl->V->Prop
 | .val v,x=>Rep K (hid W H) v x
 | .own vs,x=>∃ a xs,x=.ref a/\W a/\H a=some (.lst xs)/\Reps K (hid W H) vs xs
 | .exn z,x=>∃ e C dx,x=.ref e/\hid W H e=some (.ext (BA e C dx))/\Ts K z.cls C/\Pay K (hid W H) dx z.fs
 | .dic kvs,x=>∃ a o ys,x=.ref a/\W a/\H a=some (.ext (ZD a o ys))/\Paired (DR K (hid W H)) kvs ys
 | .fdc kvs,x=>∃ a o ys,x=.ref a/\hid W H a=some (.ext (ZD a o ys))/\Paired (DR K (hid W H)) kvs ys
theorem SlRep.mono {K:PySem.W.Frag} {W:Addr->Prop} {H H':Hp} (e:Same H H'):∀ {s:Sl} {x:V},SlRep K W H s x->SlRep K W H' s x
 | .val _,_,h=>Rep.mono (zD e) h
 | .own _,_,⟨a,xs,h1,h2,h3,h4⟩=>⟨a,xs,h1,h2,e _ _ h3,h4.mono (zD e)⟩
 | .exn _,_,⟨a,C,dx,h1,h2,h3,h4⟩=>⟨a,C,dx,h1,zD e _ _ h2,h3,h4.mono (zD e)⟩
 | .dic _,_,⟨a,o,ys,h1,h2,h3,h4⟩=>⟨a,o,ys,h1,h2,e _ _ h3,DR.mono (zD e) h4⟩
 | .fdc _,_,⟨a,o,ys,h1,h2,h3⟩=>⟨a,o,ys,h1,zD e _ _ h2,DR.mono (zD e) h3⟩
structure ER (K:PySem.W.Frag) (W:Addr->Prop) (H:Hp) (σ:SS) (ρ:En):Prop where
 len:ρ.length=σ.length
 val:∀ (i:Nat) (s:Sl),ρ[i]?=some (some s)->∃ x,σ[i]?=some (some x)/\SlRep K W H s x
 trk:∀ a,W a->H a≠none
theorem ER.mono {K:PySem.W.Frag} {W:Addr->Prop} {H H':Hp} {σ:SS} {ρ:En} (h:ER K W H σ ρ) (e:Same H H'):ER K W H' σ ρ :=
 ⟨h.len,fun i s q=>let ⟨x,h1,h2⟩:=h.val i s q;⟨x,h1,h2.mono e⟩,fun a w z=>by
  cases q:H a with
  | none=>exact h.trk a w q
  | some o=>rw [e a o q] at z;cases z⟩
theorem ER.new {K:PySem.W.Frag} {W:Addr->Prop} {H:Hp} {σ:SS} {ρ:En} (h:ER K W H σ ρ) {p:Addr} (n:H p=none):¬ W p:=fun w=>h.trk p w n
theorem ER.set {K:PySem.W.Frag} {W:Addr->Prop} {H:Hp} {σ:SS} {ρ:En} (h:ER K W H σ ρ) {v:PV} {x:V} (r:Rep K (hid W H) v x) (i:Nat):ER K W H (σ.set i (some x)) (ρ.set i (some (.val v))):=by
 refine ⟨by simp [h.len],fun j s q=>?_,h.trk⟩
 rw [List.getElem?_set] at q
 by_cases e:i=j
 ·subst e;rw [if_pos rfl] at q
  by_cases hl:i<ρ.length
  ·rw [if_pos hl] at q;cases q;exact ⟨x,by rw [List.getElem?_set,if_pos rfl,if_pos (by rw [<- h.len];exact hl)],r⟩
  ·rw [if_neg hl] at q;cases q
 ·rw [if_neg e] at q;obtain ⟨y,h1,h2⟩:=h.val j s q;exact ⟨y,by rw [List.getElem?_set,if_neg e];exact h1,h2⟩
def Ext (ρ ρ':En):Prop:=ρ.length=ρ'.length/\∀ (i:Nat) (s:Sl),ρ[i]?=some (some s)->ρ'[i]?=some (some s)
theorem ER.weak {K:PySem.W.Frag} {W:Addr->Prop} {H:Hp} {σ:SS} {ρ ρ':En} (h:ER K W H σ ρ') (e:Ext ρ ρ'):ER K W H σ ρ:=⟨by rw [e.1];exact h.len,fun i s q=>h.val i s (e.2 i s q),h.trk⟩
def XA (X:Cx):XK:=fun C dx H=>∀ (pins:List (Addr×Obj)) (σ:SS) (s:Shared) (e:Addr),Inv X pins σ H s->KM H s.heap e C dx->(X.ex=[]->X.s₀.heap.get? e=none)->X.xe (.ref e) s
def EW (K:PySem.W.Frag) (E:XK) (x:XC) (H:Hp):Prop:=∀ H' C dx,Same H H'->Ts K x.cls C->Pay K H' dx x.fs->(∀ d,dx=some d->H d=none)->E C dx H'
theorem EW.mono {K:PySem.W.Frag} {E:XK} {x:XC} {H H':Hp} (h:EW K E x H) (e:Same H H'):EW K E x H':=fun H2 C dx s c p n=>h H2 C dx (e.trans s) c p fun d q=>e.free (n d q)
def XW (X:Cx) (x:XC) (H:Hp):Prop:=EW X.K (XA X) x H
theorem XW.mono {X:Cx} {x:XC} {H H':Hp} (h:XW X x H) (e:Same H H'):XW X x H':=EW.mono h e
def OkQ (K:PySem.W.Frag) (W:Addr->Prop) (H:Hp) (Q:VK) (v:PV):Prop:=∀ x H',Same H H'->Rep K (hid W H') v x->Q x H'
def Fin (X:Cx) (W:Addr->Prop) (H:Hp) (Q:VK):Res PV->Prop
 | .ok v=>OkQ X.K W H Q v
 | .exc x=>XW X x H
 | .bad=>False
abbrev De:=En->Res PV
def tD (X:Cx) (d:De):TE:=fun σ H Q=>∃ W ρ,ER X.K W H σ ρ/\Fin X W H Q (d ρ)
def DE (X:Cx) (e:Expr) (d:De):Prop:=PE X e (tD X d)
def Dh (K:PySem.W.Frag) (W:Addr->Prop) (H:Hp) (Q:List V->Hp->Prop) (v:List PV):Prop:=∀ x H',Same H H'->Reps K (hid W H') v x->Q x H'
def Fins (X:Cx) (W:Addr->Prop) (H:Hp) (Q:List V->Hp->Prop):Res (List PV)->Prop
 | .ok v=>Dh X.K W H Q v
 | .exc x=>XW X x H
 | .bad=>False
abbrev Das:=En->Res (List PV)
def tDA (X:Cx) (d:Das):TA:=fun σ H Q=>∃ W ρ,ER X.K W H σ ρ/\Fins X W H Q (d ρ)
def DA (X:Cx) (es:List Expr) (d:Das):Prop:=PA X es (tDA X d)
def FinT (X:Cx) (W:Addr->Prop) (H:Hp) (Q:Bool->Hp->Prop):Res Bool->Prop
 | .ok v=>∀ H',Same H H'->Q v H'
 | .exc x=>XW X x H
 | .bad=>False
abbrev Dt:=En->Res Bool
def tDT (X:Cx) (d:Dt):TT:=fun σ H Q=>∃ W ρ,ER X.K W H σ ρ/\FinT X W H Q (d ρ)
def DT (X:Cx) (e:Expr) (d:Dt):Prop:=PT X e (tDT X d)
def DW (X:Cx) (e:Expr) (d:Dt):Prop:=PW X e (tDT X d)
theorem yI {X:Cx} {e:Expr} {t t':TE} (h:PE X e t) (i:∀ σ H Q,t' σ H Q->t σ H Q):PE X e t':=fun pins s σ H Q I q=>h pins s σ H Q I (i σ H Q q)
theorem QC {X:Cx} {e:Expr} {t t':TT} (h:PT X e t) (i:∀ σ H Q,t' σ H Q->t σ H Q):PT X e t':=fun pins s σ H Q I q=>h pins s σ H Q I (i σ H Q q)
theorem MT {X:Cx} {e:Expr} {t t':TT} (h:PW X e t) (i:∀ σ H Q,t' σ H Q->t σ H Q):PW X e t':=fun wh pins s σ H Q I q=>h wh pins s σ H Q I (i σ H Q q)
theorem WI {X:Cx} {e:List Expr} {t t':TA} (h:PA X e t) (i:∀ σ H Q,t' σ H Q->t σ H Q):PA X e t':=fun pos pins s σ H Q I q=>h pos pins s σ H Q I (i σ H Q q)
section
variable {X:Cx} {W:Addr->Prop} {σ:SS} {ρ:En} {H:Hp}
theorem wf (d:De) {Q:VK} {k:PV->Prop} (er:ER X.K W H σ ρ) (h:On (d ρ) (fun x=>XW X x H) k)
  (hk:∀ v x H',Same H H'->ER X.K W H' σ ρ->Rep X.K (hid W H') v x->k v->Q x H'):tD X d σ H Q:=by
 refine ⟨W,ρ,er,?_⟩;cases e:d ρ with
 | ok v=>rw [e] at h;exact fun x H' s r=>hk v x H' s (er.mono s) r h
 | exc x=>rw [e] at h;exact h
 | bad=>rw [e] at h;exact h
theorem Fin.imp {d:Res PV} {H':Hp} {Q Q':VK} (h:Fin X W H Q d) (s:Same H H') (i:∀ x H'',Same H' H''->Q x H''->Q' x H''):Fin X W H' Q' d:=by
 cases d with
 | ok v=>exact fun x H'' s' r=>i x H'' s' (h x H'' (s.trans s') r)
 | exc x=>exact XW.mono (X:=X) (x:=x) h s
 | bad=>exact h
theorem Fin.bind {α:Type} {r:Res α} {f:α->Res PV} {Q:VK} (h:Fin X W H Q (r.bind f)):On r (fun x=>XW X x H) fun v=>Fin X W H Q (f v):=by
 cases r<;>exact h
theorem FinT.bind {α:Type} {r:Res α} {f:α->Res Bool} {Q:Bool->Hp->Prop} (h:FinT X W H Q (r.bind f)):On r (fun x=>XW X x H) fun v=>FinT X W H Q (f v):=by
 cases r<;>exact h
theorem Fins.bind {α:Type} {r:Res α} {f:α->Res (List PV)} {Q:List V->Hp->Prop} (h:Fins X W H Q (r.bind f)):On r (fun x=>XW X x H) fun v=>Fins X W H Q (f v):=by
 cases r<;>exact h
theorem Fin.grow {d:Res PV} {H':Hp} {Q:VK} (h:Fin X W H Q d) (s:Same H H'):Fin X W H' Q d:=h.imp s fun _ _ _ q=>q
theorem FinT.grow {d:Res Bool} {H':Hp} {Q:Bool->Hp->Prop} (h:FinT X W H Q d) (s:Same H H'):FinT X W H' Q d:=by
 cases d with
 | ok v=>exact fun H'' s'=>h H'' (s.trans s')
 | exc x=>exact XW.mono (X:=X) (x:=x) h s
 | bad=>exact h
theorem Fins.grow {d:Res (List PV)} {H':Hp} {Q:List V->Hp->Prop} (h:Fins X W H Q d) (s:Same H H'):Fins X W H' Q d:=by
 cases d with
 | ok v=>exact fun x H'' s' r=>h x H'' (s.trans s') r
 | exc x=>exact XW.mono (X:=X) (x:=x) h s
 | bad=>exact h
theorem zx {i j pos}:DE X (.Constant (.int i) j pos) (fun _=>.ok (.int i)):=yI RB fun σ H Q ⟨W,ρ,er,h⟩=>h _ H (Same.refl H) (Rep.int.mpr rfl)
theorem jT {i j pos}:DE X (.Constant (.bool i) j pos) (fun _=>.ok (.bl i)):=yI SR fun σ H Q ⟨W,ρ,er,h⟩=>h _ H (Same.refl H) (Rep.bl.mpr rfl)
theorem Bm {j pos}:DE X (.Constant .none j pos) (fun _=>.ok .non):=yI RA fun σ H Q ⟨W,ρ,er,h⟩=>h _ H (Same.refl H) (Rep.non.mpr rfl)
def ze (i:Nat):De:=fun ρ=>match ρ[i]? with
 | some (some (.val v))=>.ok v
 | _=>.bad
theorem zc (i:Nat) {x:Str} {pos:Pos} (hN:X.N[i]?=some x) (hv:Vis X.env.scope x) (hd:(x==("__debug__" : Str))=false:=by decide) (hcd:(x==("__classdict__" : Str))=false:=by decide) :
  DE X (.Name x pos) (ze i):=yI (vM hN hv hd hcd) fun σ H Q ⟨W,ρ,er,h⟩=>by
 unfold ze at h
 split at h
 ·rename_i v e
  obtain ⟨y,e1,r⟩:=er.val i _ e;exact ⟨y,e1,h y H (Same.refl H) r⟩
 ·exact h.elim
theorem UQ {x:Str} {i:Int} {t:Tok} {pos:Pos} (hg:Gl X x) (hm:X.mg x=some (.int i t)) (hd:(x==("__debug__" : Str))=false:=by decide):DE X (.Name x pos) (fun _=>.ok (.int i)) :=
 yI (JW hg hm (v:=.int i) ⟨t,rfl⟩ hd) fun σ H Q ⟨W,ρ,er,h⟩=>h _ H (Same.refl H) (Rep.int.mpr rfl)
def rD (X:Cx) (f:PV->PV->Res PV):R2:=fun x y H Q=>∃ W v u,(∀ a,W a->H a≠none)/\Rep X.K (hid W H) v x/\Rep X.K (hid W H) u y/\∃ z,f v u=.ok z/\OkQ X.K W H Q z
def NoX (f:PV->PV->Res PV):Prop:=∀ v u x,f v u≠.exc x
def e2 (f:PV->PV->Res PV) (a b:De):De:=fun ρ=>(a ρ).bind fun v=>(b ρ).bind fun u=>f v u
theorem Wm {f:PV->PV->Res PV} {da db:De} {Q:VK} (nx:NoX f) (h:tD X (e2 f da db) σ H Q):tOp (rD X f) (tD X da) (tD X db) σ H Q:=by
 obtain ⟨W,ρ,er,h⟩:=h;refine wf da er h.bind fun v x H1 s1 er1 r1 h1=>?_
 refine wf db er1 (h1.grow s1).bind fun u y H2 s2 er2 r2 h2=>?_
 have h2:=Fin.grow h2 s2;cases e:f v u with
 | ok z=>rw [e] at h2;exact ⟨W,v,u,er2.trk,r1.mono (zD s2),r2,z,e,h2⟩
 | exc z=>exact absurd e (nx v u z)
 | bad=>rw [e] at h2;exact h2.elim
variable {a b:Expr} {da db:De} {pos:Pos} {f:PV->PV->Res PV}
theorem zG {op:Operator} (ho:OpR X (binaryOp op) (rD X f)) (nx:NoX f) (ha:DE X a da) (hb:DE X b db):DE X (.BinOp a op b pos) (e2 f da db) :=
 yI (SO ho ha hb) fun σ H Q h=>Wm nx h
theorem Zy {op:CmpOp} (ho:OpR X (compareOp op) (rD X f)) (nx:NoX f) (ha:DE X a da) (hb:DE X b db) (hm:behindInMarks op b=false):DE X (.Compare a [op] [b] pos) (e2 f da db) :=
 yI (Pp ho ha hb hm) fun σ H Q h=>Wm nx h
theorem xJ (ho:IxR X (rD X f)) (nx:NoX f) (ha:DE X a da) (hb:DE X b db) (hs:KJ b):DE X (.Subscript a b pos) (e2 f da db) :=
 yI (Ar ho ha hb hs) fun σ H Q h=>Wm nx h
def asB:PV->Res Bool
 | .bl b=>.ok b
 | _=>.bad
def Wl:PV->Res Bool
 | .non=>.ok false
 | .bl b=>.ok b
 | .int i=>.ok (i != 0)
 | .str y=>if y.length<=sizeLine then .ok ((y.length:Int) != 0) else .bad
 | .lst xs=>.ok (!xs.isEmpty)
 | .tup xs=>.ok (!xs.isEmpty)
def yX (d:De):Dt:=fun ρ=>(d ρ).bind asB
def vP (d:De):Dt:=fun ρ=>(d ρ).bind Wl
theorem xb {op:CmpOp} (ho:OpR X (compareOp op) (rD X f)) (nx:NoX f) (ha:DE X a da) (hb:DE X b db) (hm:behindInMarks op b=false):DT X (.Compare a [op] [b] pos) (yX (e2 f da db)) :=
 QC (Pk ho ha hb hm) fun σ H Q ⟨W,ρ,er,h⟩=>by
  refine Wm nx ⟨W,ρ,er,?_⟩;unfold yX at h;cases e:e2 f da db ρ with
  | ok v =>
   rw [e] at h;intro x H' s r;cases v with
   | bl k=>exact ⟨k,Rep.bl.mp r,h H' s⟩
   | _=>exact h.elim
  | exc x=>rw [e] at h;exact h
  | bad=>rw [e] at h;exact h.elim
theorem jt {K:PySem.W.Frag} {H:Hp} {vs:List PV} {xs:List V} (h:Reps K H vs xs):xs.isEmpty=vs.isEmpty:=by
 have:=h.length;cases vs<;>cases xs<;>simp_all
theorem xP {K:PySem.W.Frag} {p:Addr} {xs:List V} (h:SqL K (hid W H) p xs):SqL K H p xs:=hid_sub.seq h
theorem yU {K:PySem.W.Frag} {p:Addr} {xs:List V} (h:SqT K (hid W H) p xs):SqT K H p xs:=jn hid_sub h
theorem BG {v:PV} {k:Bool} {x:V} (h:Wl v=.ok k) (r:Rep X.K (hid W H) v x):LF X.K x H k:=by
 cases v with
 | non=>rw [Rep.non.mp r];cases h;exact rfl
 | bl b=>rw [Rep.bl.mp r];cases h;exact rfl
 | int i=>rw [Rep.int.mp r];cases h;exact rfl
 | str y =>
  rw [Rep.str.mp r];simp only [Wl] at h
  split at h
  ·rename_i hl;cases h;exact ⟨hl,rfl⟩
  ·cases h
 | lst vs =>
  obtain ⟨p,xs,rfl,h1,h2⟩:=Rep.lst'.mp r;cases h;exact .inl ⟨xs,xP h1,by rw [jt h2]⟩
 | tup vs =>
  obtain ⟨p,xs,rfl,h1,h2⟩:=Rep.tup'.mp r;cases h;exact .inr (.inl ⟨xs,yU h1,by rw [jt h2]⟩)
theorem BH {v:PV} {x:XC}:Wl v≠.exc x:=by
 intro h;cases v<;>simp [Wl] at h
 split at h<;>cases h
theorem xT (ha:DE X a da) (he:∀ whole,isTrue a X.env whole=(do let v <- whole;standAt a.pos;holding [v] (truthy v)):=by intro _;rfl):DT X a (vP da) :=
 QC (MU ha he) fun σ H Q ⟨W,ρ,er,h⟩=>by
  refine wf da er h.bind fun v x H1 s1 er1 r1 h1=>?_
  cases e:Wl v with
  | ok k=>rw [e] at h1;exact ⟨k,BG e r1,h1 H1 s1⟩
  | exc z=>exact absurd e BH
  | bad=>rw [e] at h1;exact h1.elim
def vT (d:Dt):Dt:=fun ρ=>(d ρ).bind fun b=>.ok (!b)
def Vz (d d':Dt):Dt:=fun ρ=>(d ρ).bind fun b=>if b then d' ρ else .ok false
def Yl (d d':Dt):Dt:=fun ρ=>(d ρ).bind fun b=>if b then .ok true else d' ρ
theorem Ym (d:Dt) {Q:Bool->Hp->Prop} {k:Bool->Prop} (er:ER X.K W H σ ρ) (h:On (d ρ) (fun x=>XW X x H) k)
  (hk:∀ v H',Same H H'->ER X.K W H' σ ρ->k v->Q v H'):tDT X d σ H Q:=by
 refine ⟨W,ρ,er,?_⟩;cases e:d ρ with
 | ok v=>rw [e] at h;exact fun H' s=>hk v H' s (er.mono s) h
 | exc x=>rw [e] at h;exact h
 | bad=>rw [e] at h;exact h
variable {ta tb:Dt}
theorem vQ (ha:DT X a ta):DT X (.UnaryOp .Not a pos) (vT ta):=QC (Rr ha) fun σ H Q ⟨W,ρ,er,h⟩ =>
 Ym ta er h.bind fun v H1 s1 er1 h1=>h1 H1 s1
theorem Sb (ha:DT X a ta):DW X (.BoolOp .And [a] pos) ta:=Pj ha
theorem Zv (ha:DT X a ta):DW X (.BoolOp .Or [a] pos) ta:=Rp ha
variable {rest:List Expr}
theorem Lp (ha:DT X a ta) (hb:DW X (.BoolOp .And (b::rest) pos) tb):DW X (.BoolOp .And (a::b::rest) pos) (Vz ta tb):=MT (Rq ha hb) fun σ H Q ⟨W,ρ,er,h⟩ =>
 Ym ta er h.bind fun v H1 s1 er1 h1=>by
  cases v with
  | true=>exact Jb ⟨W,ρ,er1,FinT.grow h1 s1⟩
  | false=>exact UC (h1 H1 s1)
theorem ZM (ha:DT X a ta) (hb:DW X (.BoolOp .Or (b::rest) pos) tb):DW X (.BoolOp .Or (a::b::rest) pos) (Yl ta tb):=MT (Am ha hb) fun σ H Q ⟨W,ρ,er,h⟩ =>
 Ym ta er h.bind fun v H1 s1 er1 h1=>by
  cases v with
  | true=>exact Jb (h1 H1 s1)
  | false=>exact UC ⟨W,ρ,er1,FinT.grow h1 s1⟩
theorem Jl (h:DW X a ta):DT X a ta:=PW.pt h
def Lo (d d':De):De:=fun ρ=>(d ρ).bind fun v=>(asB v).bind fun b=>if b then d' ρ else .ok (.bl false)
def eOr (d d':De):De:=fun ρ=>(d ρ).bind fun v=>(asB v).bind fun b=>if b then .ok (.bl true) else d' ρ
def eIf (c:Dt) (d d':De):De:=fun ρ=>(c ρ).bind fun b=>if b then d ρ else d' ρ
theorem Jv {v:PV} {Q:VK} {f:Bool->Res PV} (h:Fin X W H Q ((asB v).bind f)):∃ b,v=.bl b/\Fin X W H Q (f b):=by
 cases v with
 | bl b=>exact ⟨b,rfl,h⟩
 | _=>exact h.elim
theorem Bl {op} (ha:DE X a da):DE X (.BoolOp op [a] pos) da:=Rz ha
theorem Lu (ha:DE X a da) (hb:DE X (.BoolOp .And (b::rest) pos) db):DE X (.BoolOp .And (a::b::rest) pos) (Lo da db):=yI (RE ha hb) fun σ H Q ⟨W,ρ,er,h⟩ =>
 wf da er h.bind fun v x H1 s1 er1 r1 h1=>by
  obtain ⟨b,rfl,h1⟩:=Jv h1;refine ⟨b,Rep.bl.mp r1,?_⟩;cases b with
  | true=>exact Jb ⟨W,ρ,er1,Fin.grow h1 s1⟩
  | false=>exact UC (h1 _ H1 s1 (Rep.bl.mpr rfl))
theorem AL (ha:DE X a da) (hb:DE X (.BoolOp .Or (b::rest) pos) db):DE X (.BoolOp .Or (a::b::rest) pos) (eOr da db):=yI (Aq ha hb) fun σ H Q ⟨W,ρ,er,h⟩ =>
 wf da er h.bind fun v x H1 s1 er1 r1 h1=>by
  obtain ⟨b,rfl,h1⟩:=Jv h1;refine ⟨b,Rep.bl.mp r1,?_⟩;cases b with
  | true=>exact Jb (h1 _ H1 s1 (Rep.bl.mpr rfl))
  | false=>exact UC ⟨W,ρ,er1,Fin.grow h1 s1⟩
theorem Bo {c:Expr} (hc:DT X c ta) (ha:DE X a da) (hb:DE X b db):DE X (.IfExp c a b pos) (eIf ta da db):=yI (Nb hc ha hb) fun σ H Q ⟨W,ρ,er,h⟩ =>
 Ym ta er h.bind fun v H1 s1 er1 h1=>by
  cases v with
  | true=>exact Jb ⟨W,ρ,er1,Fin.grow h1 s1⟩
  | false=>exact UC ⟨W,ρ,er1,Fin.grow h1 s1⟩
def zj:Das:=fun _=>.ok []
def zd (d:De) (ds:Das):Das:=fun ρ=>(d ρ).bind fun v=>(ds ρ).bind fun vs=>.ok (v::vs)
theorem zi:DA X [] zj:=WI QH fun σ H Q ⟨W,ρ,er,h⟩=>h [] H (Same.refl H) (Reps.nil.mpr rfl)
theorem xN (d:Das) {Q:List V->Hp->Prop} {k:List PV->Prop} (er:ER X.K W H σ ρ) (h:On (d ρ) (fun x=>XW X x H) k)
  (hk:∀ v x H',Same H H'->ER X.K W H' σ ρ->Reps X.K (hid W H') v x->k v->Q x H'):tDA X d σ H Q:=by
 refine ⟨W,ρ,er,?_⟩;cases e:d ρ with
 | ok v=>rw [e] at h;exact fun x H' s r=>hk v x H' s (er.mono s) r h
 | exc x=>rw [e] at h;exact h
 | bad=>rw [e] at h;exact h
variable {es:List Expr} {ds:Das}
theorem zg (ha:DE X a da) (hr:DA X es ds) (hs:starEach (a::es) X.env=(false,eval a X.env)::starEach es X.env:=by rfl):DA X (a::es) (zd da ds):=WI (Ya ha hr hs) fun σ H Q ⟨W,ρ,er,h⟩ =>
 wf da er h.bind fun v x H1 s1 er1 r1 h1 =>
  xN ds er1 (Fins.grow h1 s1).bind fun vs xs H2 s2 er2 r2 h2=>h2 _ H2 s2 (Reps.mk (r1.mono (zD s2)) r2)
def jm (n:Nat) (v:PV):Res PV:=if n<=sizeLine then .ok v else .bad
def Zu (ds:Das):De:=fun ρ=>(ds ρ).bind fun vs=>jm vs.length (.tup vs)
def ql (ds:Das):De:=fun ρ=>(ds ρ).bind fun vs=>jm vs.length (.lst vs)
theorem VA {n:Nat} {v:PV} {Q:VK} (h:Fin X W H Q (jm n v)):n<=sizeLine/\OkQ X.K W H Q v:=by
 unfold jm at h
 split at h
 ·exact ⟨by assumption,h⟩
 ·exact h.elim
theorem Yd {vs:List PV} {xs:List V} {p:Addr} {Q:VK} (q:OkQ X.K W H Q (.tup vs)) (er:∀ a,W a->H a≠none) (r:Reps X.K (hid W H) vs xs) (hp:H p=none):Q (.ref p) (upd H p (.tup xs)) :=
 q _ _ (yv hp) (Rep.tup (.inl (.inl (Yg fun w=>er p w hp))) (r.mono (zD (yv hp))))
theorem uF {vs:List PV} {xs:List V} {p:Addr} {Q:VK} (q:OkQ X.K W H Q (.lst vs)) (er:∀ a,W a->H a≠none) (r:Reps X.K (hid W H) vs xs) (hp:H p=none):Q (.ref p) (upd H p (.lst xs)) :=
 q _ _ (yv hp) (Rep.lst (.inl (.inl (Yg fun w=>er p w hp))) (r.mono (zD (yv hp))))
theorem wO {v:PV} {Q:VK} {H':Hp} (q:OkQ X.K W H Q v) (s:Same H H'):OkQ X.K W H' Q v:=fun x H'' s' r=>q x H'' (s.trans s') r
theorem qo {k} (h:DA X es ds):DE X (.Tuple es k pos) (Zu ds):=yI (Ry h) fun σ H Q ⟨W,ρ,er,h⟩ =>
 xN ds er h.bind fun vs xs H1 s1 er1 r1 h1=>by
  obtain ⟨hz,q⟩:=VA h1;exact ⟨by rw [r1.length];exact hz,fun p hp=>Yd (wO q s1) er1.trk r1 hp⟩
theorem wZ (h:DA X es ds):DE X (.List es pos) (ql ds):=yI (WG h) fun σ H Q ⟨W,ρ,er,h⟩ =>
 xN ds er h.bind fun vs xs H1 s1 er1 r1 h1=>by
  obtain ⟨hz,q⟩:=VA h1;exact ⟨by rw [r1.length];exact hz,fun p hp=>uF (wO q s1) er1.trk r1 hp⟩
def rC (X:Cx) (f:List PV->Res PV):List V->Hp->VK->Prop:=fun xs H Q=>∃ W vs,(∀ a,W a->H a≠none)/\Reps X.K (hid W H) vs xs/\∃ z,f vs=.ok z/\OkQ X.K W H Q z
def Vu (f:List PV->Res PV):Prop:=∀ vs x,f vs≠.exc x
def eB (f:List PV->Res PV) (ds:Das):De:=fun ρ=>(ds ρ).bind f
theorem JB {g:List PV->Res PV} {Q:VK} (nx:Vu g) (h:tD X (eB g ds) σ H Q):tCB (rC X g) (tDA X ds) σ H Q:=by
 obtain ⟨W,ρ,er,h⟩:=h;refine xN ds er h.bind fun vs xs H1 s1 er1 r1 h1=>?_
 cases e:g vs with
 | ok z=>rw [e] at h1;exact ⟨W,vs,er1.trk,r1,z,e,wO h1 s1⟩
 | exc z=>exact absurd e (nx vs z)
 | bad=>rw [e] at h1;exact h1.elim
variable {g:List PV->Res PV} {x:Str} {p:Pos} {id T:String}
theorem yt (hc:vb X (.builtin id) (rC X g)) (nx:Vu g) (hg:Gl X x) (hm:X.mg x=none) (hv:bootBuiltins x=some (.builtin id)) (ha:DA X (a::es) ds) (hn:x ≠ "__name__" := by decide) (hdb:(x==("__debug__" : Str))=false:=by decide)
  (he:starEach (a::es) X.env=(false,eval a X.env)::starEach es X.env:=by rfl) (hpl:(backTo pos (starEach es X.env)).any (·.1)=false:=by rfl):DE X (.Call (.Name x p) (a::es) [] pos) (eB g ds) :=
 yI (Ug hc hg hm hv ha hn hdb he hpl) fun σ H Q h=>JB nx h
theorem xj (hc:vb X (.type T) (rC X g)) (nx:Vu g) (hg:Gl X x) (hm:X.mg x=none) (hv:bootBuiltins x=some (.type T)) (ha:DA X (a::es) ds) (hn:x ≠ "__name__" := by decide) (hdb:(x==("__debug__" : Str))=false:=by decide)
  (he:starEach (a::es) X.env=(false,eval a X.env)::starEach es X.env:=by rfl) (hpl:(backTo pos (starEach es X.env)).any (·.1)=false:=by rfl):DE X (.Call (.Name x p) (a::es) [] pos) (eB g ds) :=
 yI (Zk hc hg hm hv ha hn hdb he hpl) fun σ H Q h=>JB nx h
end
mutual
def dat:PV->PyData
 | .non=>.none
 | .bl b=>.bool b
 | .int i=>.int i
 | .str x=>.str x
 | .lst xs=>.list (dats xs)
 | .tup xs=>.tuple (dats xs)
def dats:List PV->List PyData
 | []=>[]
 | x::xs=>dat x::dats xs
end
section
variable {X:Cx} {pins:List (Addr×Obj)} {σ:SS} {H:Hp} {s:Shared}
mutual
theorem yH (I:L2.Inv X pins σ H s):∀ (v:PV) (x:V) (u:Value),Rep X.K H v x->RelV x u->∃ as,Reads s.heap u (dat v) as
 | .non,x,u,r,q=>by rw [Rep.non.mp r] at q;cases q;simp only [dat];exact ⟨_,.none⟩
 | .bl b,x,u,r,q=>by rw [Rep.bl.mp r] at q;cases q;simp only [dat];exact ⟨_,.bool b⟩
 | .int i,x,u,r,q=>by rw [Rep.int.mp r] at q;obtain ⟨t,rfl⟩:=q;simp only [dat];exact ⟨_,.int i t⟩
 | .str i,x,u,r,q=>by rw [Rep.str.mp r] at q;obtain ⟨t,rfl⟩:=q;simp only [dat];exact ⟨_,.str i t⟩
 | .lst vs,x,u,r,q=>by
  obtain ⟨a,xs,rfl,h1,h2⟩:=Rep.lst'.mp r;cases q;obtain ⟨its,r1,pl,_⟩:=I.list h1;obtain ⟨o,ho,hc,n,hd⟩:=pl.isList;obtain ⟨as,ra⟩:=reps_reads I vs xs its h2 r1;simp only [dat];exact ⟨_,.list ho hc hd (by simpa using ra)⟩
 | .tup vs,x,u,r,q=>by
  obtain ⟨a,xs,rfl,h1,h2⟩:=Rep.tup'.mp r;cases q;obtain ⟨its,r1,⟨o,ho,hc,n,hd⟩,_⟩:=I.tuple h1;obtain ⟨as,ra⟩:=reps_reads I vs xs its h2 r1;simp only [dat];exact ⟨_,.tuple ho hc hd (by simpa using ra)⟩
theorem reps_reads (I:L2.Inv X pins σ H s):∀ (vs:List PV) (xs:List V) (us:List Value),Reps X.K H vs xs->Vals xs us->∃ as,ReadsAll s.heap us (dats vs) as
 | [],xs,us,r,q=>by rw [Reps.nil.mp r] at q;cases q;simp only [dats];exact ⟨_,.nil⟩
 | v::vs,xs,us,r,q=>by
  obtain ⟨x,xr,rfl,h1,h2⟩:=Reps.cons.mp r;cases q with
  | cons q1 q2 =>
   obtain ⟨as,ra⟩:=yH I v x _ h1 q1;obtain ⟨bs,rb⟩:=reps_reads I vs xr _ h2 q2;simp only [dats];exact ⟨_,.cons ra rb⟩
end
end
def eqv (a b:PV):Bool:=PyData.eqv (dat a) (dat b)
def xB (a:PV):Bool:=(dat a).canLay0&&decide ((dat a).depth<=50)
def eqF (a b:PV):Res PV:=if xB a&&xB b then .ok (.bl (eqv a b)) else .bad
def neF (a b:PV):Res PV:=if xB a&&xB b then .ok (.bl (!eqv a b)) else .bad
def inF (a:PV):PV->Res PV
 | .lst xs=>if xB a&&xB (.lst xs) then .ok (.bl (xs.any fun y=>eqv y a)) else .bad
 | .tup xs=>if xB a&&xB (.tup xs) then .ok (.bl (xs.any fun y=>eqv y a)) else .bad
 | _=>.bad
def uN (a:PV):PV->Res PV
 | .lst xs=>if xB a&&xB (.lst xs) then .ok (.bl (!xs.any fun y=>eqv y a)) else .bad
 | .tup xs=>if xB a&&xB (.tup xs) then .ok (.bl (!xs.any fun y=>eqv y a)) else .bad
 | _=>.bad
theorem jZ (xs:List PV) (a:PV):(dats xs).any (fun y=>PyData.eqv y (dat a))=xs.any fun y=>eqv y a:=by
 induction xs with
 | nil=>simp [dats]
 | cons x xs ih=>simp [dats,ih,eqv]
theorem zM {a:PV} (h:xB a=true):(dat a).canLay0=true/\(dat a).depth<=50:=by
 unfold xB at h;rw [Bool.and_eq_true,decide_eq_true_eq] at h;exact h
theorem qg {f:PV->PV->Res PV} (h:∀ v u,(∃ z,f v u=.ok z)\/f v u=.bad):NoX f:=fun v u x e=>by
 rcases h v u with ⟨z,q⟩ | q<;>rw [q] at e<;>cases e
theorem jI {c:Bool} {z:PV}:(∃ y,(if c=true then Res.ok z else Res.bad)=.ok y)\/(if c=true then Res.ok z else Res.bad:Res PV)=.bad:=by
 cases c<;>simp
theorem jz:NoX eqF:=qg fun v u=>by unfold eqF;exact jI
theorem Us:NoX neF:=qg fun v u=>by unfold neF;exact jI
theorem Ay:NoX inF:=qg fun v u=>by
 cases u<;>simp only [inF]<;>first | exact jI | exact .inr rfl | exact .inr trivial
theorem WW:NoX uN:=qg fun v u=>by
 cases u<;>simp only [uN]<;>first | exact jI | exact .inr rfl | exact .inr trivial
theorem jg {c:Bool} {z y:PV} (h:(if c=true then Res.ok z else Res.bad)=.ok y):c=true/\y=z:=by
 cases c
 ·simp at h
 ·simp at h;exact ⟨rfl,h.symm⟩
section
variable {X:Cx}
theorem wA {k:Nat} (hr:Room k X.A):X.A.units+150<cLine:=by have:=hr.un;lia
theorem qD {pins:List (Addr×Obj)} {σ:SS} {H:Hp} {s:Shared} {Q:VK} {W:Addr->Prop} {k:Bool} (I:L2.Inv X pins σ H s) (q:OkQ X.K W H Q (.bl k)):EP X pins σ Q (.bool k) s :=
 ⟨.bl k,H,I,rfl,q _ H (Same.refl H) (Rep.bl.mpr rfl)⟩
theorem uE {k:Nat} (hr:Room k X.A):OpR X (compareOp .Eq) (rD X eqF):=by
 intro pins s σ H x y v u Q I rx ry ⟨W,a,b,tk,ra,rb,z,e,q⟩;obtain ⟨hc,rfl⟩:=jg e;rw [Bool.and_eq_true] at hc;obtain ⟨c1,c2⟩:=zM hc.1;obtain ⟨c3,c4⟩:=zM hc.2;obtain ⟨as,r1⟩:=yH I a x v (ra.mono hid_sub) rx;obtain ⟨bs,r2⟩:=yH I b y u (rb.mono hid_sub) ry;exact PySem.SeqAt.compareEq_reads r1 r2 c1 c3 (by have:=wA hr;lia) (qD I q)
theorem YA {k:Nat} (hr:Room k X.A):OpR X (compareOp .NotEq) (rD X neF):=by
 intro pins s σ H x y v u Q I rx ry ⟨W,a,b,tk,ra,rb,z,e,q⟩;obtain ⟨hc,rfl⟩:=jg e;rw [Bool.and_eq_true] at hc;obtain ⟨c1,c2⟩:=zM hc.1;obtain ⟨c3,c4⟩:=zM hc.2;obtain ⟨as,r1⟩:=yH I a x v (ra.mono hid_sub) rx;obtain ⟨bs,r2⟩:=yH I b y u (rb.mono hid_sub) ry;exact PySem.SeqAt.compareNe_reads r1 r2 c1 c3 (by have:=wA hr;lia) (qD I q)
theorem RL {k:Nat} (hr:Room k X.A):OpR X (compareOp .In) (rD X inF):=by
 intro pins s σ H x y v u Q I rx ry ⟨W,a,b,tk,ra,rb,z,e,q⟩;have hu:=wA hr;obtain ⟨as,r1⟩:=yH I a x v (ra.mono hid_sub) rx;obtain ⟨bs,r2⟩:=yH I b y u (rb.mono hid_sub) ry;cases b with
 | lst xs =>
  simp only [inF] at e;obtain ⟨hc,rfl⟩:=jg e;rw [Bool.and_eq_true] at hc;obtain ⟨c1,c2⟩:=zM hc.1;obtain ⟨c3,c4⟩:=zM hc.2;simp only [dat] at r2 c3 c4;refine PySem.SeqAt.in_list_reads r2 r1 (by simpa [PyData.canLay0] using c3) c1 (by lia) ?_;rw [jZ];exact qD I q
 | tup xs =>
  simp only [inF] at e;obtain ⟨hc,rfl⟩:=jg e;rw [Bool.and_eq_true] at hc;obtain ⟨c1,c2⟩:=zM hc.1;obtain ⟨c3,c4⟩:=zM hc.2;simp only [dat] at r2 c3 c4;refine PySem.SeqAt.in_tuple_reads r2 r1 (by simpa [PyData.canLay0] using c3) c1 (by lia) ?_;rw [jZ];exact qD I q
 | _=>simp [inF] at e
theorem Yc {k:Nat} (hr:Room k X.A):OpR X (compareOp .NotIn) (rD X uN):=by
 intro pins s σ H x y v u Q I rx ry ⟨W,a,b,tk,ra,rb,z,e,q⟩;have hu:=wA hr;obtain ⟨as,r1⟩:=yH I a x v (ra.mono hid_sub) rx;obtain ⟨bs,r2⟩:=yH I b y u (rb.mono hid_sub) ry;cases b with
 | lst xs =>
  simp only [uN] at e;obtain ⟨hc,rfl⟩:=jg e;rw [Bool.and_eq_true] at hc;obtain ⟨c1,c2⟩:=zM hc.1;obtain ⟨c3,c4⟩:=zM hc.2;simp only [dat] at r2 c3 c4;refine PySem.SeqAt.notIn_list_reads r2 r1 (by simpa [PyData.canLay0] using c3) c1 (by lia) ?_;rw [jZ];exact qD I q
 | tup xs =>
  simp only [uN] at e;obtain ⟨hc,rfl⟩:=jg e;rw [Bool.and_eq_true] at hc;obtain ⟨c1,c2⟩:=zM hc.1;obtain ⟨c3,c4⟩:=zM hc.2;simp only [dat] at r2 c3 c4;refine PySem.SeqAt.notIn_tuple_reads r2 r1 (by simpa [PyData.canLay0] using c3) c1 (by lia) ?_;rw [jZ];exact qD I q
 | _=>simp [uN] at e
end
def i2 (f:Int->Int->Res PV):PV->PV->Res PV
 | .int i,.int j=>f i j
 | _,_=>.bad
def Qk:PV->PV->Res PV:=i2 fun i j=>.ok (.int (i-j))
def jA:PV->PV->Res PV:=i2 fun i j=>if 0<j then .ok (.int (i % j)) else .bad
def Vh:PV->PV->Res PV:=i2 fun i j=>if 0<j/\j<1073741824 then .ok (.int (i/j)) else .bad
def ltF:PV->PV->Res PV:=i2 fun i j=>.ok (.bl (decide (i<j)))
def leF:PV->PV->Res PV:=i2 fun i j=>.ok (.bl (decide (i<=j)))
def gtF:PV->PV->Res PV:=i2 fun i j=>.ok (.bl (decide (j<i)))
def yi:PV->PV->Res PV
 | .int i,.int j=>.ok (.int (i+j))
 | .str x,.str y=>if x.length+y.length<=sizeLine then .ok (.str (x++y)) else .bad
 | .lst xs,.lst ys=>jm (xs.length+ys.length) (.lst (xs++ys))
 | .tup xs,.tup ys=>jm (xs.length+ys.length) (.tup (xs++ys))
 | _,_=>.bad
def yT:PV->PV->Res PV
 | .int i,.int j=>if (-(2 ^ 64)<i/\i<2 ^ 64)\/(-(2 ^ 64)<j/\j<2 ^ 64) then .ok (.int (i*j)) else .bad
 | .tup xs,.int k=>if -(2 ^ 60)<=k/\k<2 ^ 60/\xs.length*k.toNat<=sizeLine then .ok (.tup (List.replicate k.toNat xs).flatten) else .bad
 | .lst xs,.int k=>if -(2 ^ 60)<=k/\k<2 ^ 60/\xs.length*k.toNat<=sizeLine then .ok (.lst (List.replicate k.toNat xs).flatten) else .bad
 | _,_=>.bad
theorem XE {f:Int->Int->Res PV} (h:∀ i j,(∃ z,f i j=.ok z)\/f i j=.bad):NoX (i2 f):=qg fun v u=>by
 cases v<;>cases u<;>simp only [i2]<;>first | exact h _ _ | exact .inr trivial | exact .inr rfl
theorem qi {c:Prop} [Decidable c] {z:PV}:(∃ y,(if c then Res.ok z else Res.bad)=.ok y)\/(if c then Res.ok z else Res.bad:Res PV)=.bad:=by
 by_cases h:c<;>simp [h]
theorem vH {c:Prop} [Decidable c] {z y:PV} (h:(if c then Res.ok z else Res.bad)=.ok y):c/\y=z:=by
 by_cases hc:c
 ·rw [if_pos hc] at h;cases h;exact ⟨hc,rfl⟩
 ·rw [if_neg hc] at h;cases h
theorem Nl:NoX Qk:=XE fun _ _=>.inl ⟨_,rfl⟩
theorem jd:NoX jA:=XE fun _ _=>qi
theorem No:NoX Vh:=XE fun _ _=>qi
theorem SU:NoX ltF:=XE fun _ _=>.inl ⟨_,rfl⟩
theorem Nm:NoX leF:=XE fun _ _=>.inl ⟨_,rfl⟩
theorem SV:NoX gtF:=XE fun _ _=>.inl ⟨_,rfl⟩
theorem Mo {n:Nat} {v:PV}:(∃ z,jm n v=.ok z)\/jm n v=.bad:=by unfold jm;exact qi
theorem yF:NoX yi:=qg fun v u=>by
 cases v<;>cases u<;>simp only [yi]<;>first | exact qi | exact Mo | exact .inr trivial | exact .inr rfl | exact .inl ⟨_,rfl⟩
theorem wB:NoX yT:=qg fun v u=>by
 cases v<;>cases u<;>simp only [yT]<;>first | exact qi | exact .inr trivial | exact .inr rfl
section
variable {X:Cx}
theorem XO {f:Int->Int->Res PV} {v u z:PV} (h:i2 f v u=.ok z):∃ i j,v=.int i/\u=.int j/\f i j=.ok z:=by
 cases v<;>cases u<;>simp only [i2] at h<;>first | exact ⟨_,_,rfl,rfl,h⟩ | cases h
theorem okI {W:Addr->Prop} {H:Hp} {Q:VK} {i:Int} (q:OkQ X.K W H Q (.int i)):Q (.int i) H:=q _ H (Same.refl H) (Rep.int.mpr rfl)
theorem okB {W:Addr->Prop} {H:Hp} {Q:VK} {i:Bool} (q:OkQ X.K W H Q (.bl i)):Q (.bl i) H:=q _ H (Same.refl H) (Rep.bl.mpr rfl)
theorem okS {W:Addr->Prop} {H:Hp} {Q:VK} {i:Str} (q:OkQ X.K W H Q (.str i)):Q (.str i) H:=q _ H (Same.refl H) (Rep.str.mpr rfl)
theorem OpR.use {f:Value->Value->Sem Value} {r r':R2} (h:OpR X f r) (i:∀ x y H Q,r' x y H Q->r x y H Q):OpR X f r':=fun pins s σ H x y v u Q I rx ry q=>h pins s σ H x y v u Q I rx ry (i x y H Q q)
theorem Kc:OpR X (binaryOp .Sub) (rD X Qk):=OpR.use RG fun x y H Q ⟨W,a,b,tk,ra,rb,z,e,q⟩=>by
 obtain ⟨i,j,rfl,rfl,e⟩:=XO e;cases e;exact ⟨i,j,Rep.int.mp ra,Rep.int.mp rb,okI q⟩
theorem uD:OpR X (binaryOp .Mod) (rD X jA):=OpR.use RJ fun x y H Q ⟨W,a,b,tk,ra,rb,z,e,q⟩=>by
 obtain ⟨i,j,rfl,rfl,e⟩:=XO e;obtain ⟨c,rfl⟩:=vH e;exact ⟨i,j,Rep.int.mp ra,Rep.int.mp rb,c,okI q⟩
theorem Ke:OpR X (binaryOp .FloorDiv) (rD X Vh):=OpR.use Pw fun x y H Q ⟨W,a,b,tk,ra,rb,z,e,q⟩=>by
 obtain ⟨i,j,rfl,rfl,e⟩:=XO e;obtain ⟨c,rfl⟩:=vH e;exact ⟨i,j,Rep.int.mp ra,Rep.int.mp rb,c,okI q⟩
theorem Nh:OpR X (compareOp .Lt) (rD X ltF):=OpR.use Au fun x y H Q ⟨W,a,b,tk,ra,rb,z,e,q⟩=>by
 obtain ⟨i,j,rfl,rfl,e⟩:=XO e;cases e;exact ⟨i,j,Rep.int.mp ra,Rep.int.mp rb,okB q⟩
theorem QK:OpR X (compareOp .LtE) (rD X leF):=OpR.use Av fun x y H Q ⟨W,a,b,tk,ra,rb,z,e,q⟩=>by
 obtain ⟨i,j,rfl,rfl,e⟩:=XO e;cases e;exact ⟨i,j,Rep.int.mp ra,Rep.int.mp rb,okB q⟩
theorem Ni:OpR X (compareOp .Gt) (rD X gtF):=OpR.use Aw fun x y H Q ⟨W,a,b,tk,ra,rb,z,e,q⟩=>by
 obtain ⟨i,j,rfl,rfl,e⟩:=XO e;cases e;exact ⟨i,j,Rep.int.mp ra,Rep.int.mp rb,okB q⟩
theorem Kf:OpR X (binaryOp .Add) (fun x y H Q=>∃ l b xs zs,x=.ref l/\y=.ref b/\SqL X.K H l xs/\SqL X.K H b zs/\xs.length+zs.length<=sizeLine/\∀ p,H p=none->Q (.ref p) (upd H p (.lst (xs++zs)))):=by
 intro pins s σ H x y v u Q I rx ry ⟨l,b,xs,zs,e1,e2,h1,h2,hz,q⟩;subst e1 e2;cases rx;cases ry;obtain ⟨its,r,pl,z⟩:=I.list h1;obtain ⟨its2,r2,pl2,z2⟩:=I.list h2;obtain ⟨⟨c1,d1,dt1,sl1⟩,o1,hc1,n1,hd1⟩:=pl.isList;obtain ⟨⟨c2,d2,dt2,sl2⟩,o2,hc2,n2,hd2⟩:=pl2.isList;simp only at hc1 hd1 hc2 hd2;subst hc1 hd1 hc2 hd2;have l1:=r.length;have l2:=r2.length;refine concat_meets ⟨_,o1,rfl⟩ ⟨_,o2,rfl⟩ noFill_list_add seq_list_add F.slot_list_add F.entry_list_add (F.args_list_add_2 _ _) (list_addW l b its.toArray its2.toArray n1 n2 d1 d2 sl1 sl2 (by rw [List.size_toArray,List.size_toArray];lia)) ⟨o1,o2,?_⟩;have ea:its.toArray++its2.toArray=(its++its2).toArray:=by simp
 rw [ea];exact ⟨.ref _,_,I.lnew (t':=s.toks) (r.append r2) (by rw [List.length_append];lia),rfl,q _ I.fresh⟩
theorem Nj:OpR X (binaryOp .Add) (fun x y H Q=>∃ a b ys,x=.ref a/\y=.ref b/\SqT X.K H a []/\SqT X.K H b ys/\Q (.ref b) H):=by
 intro pins s σ H x y v u Q I rx ry ⟨a,b,ys,e1,e2,h1,h2,q⟩;subst e1 e2;cases rx;cases ry;obtain ⟨its,r,ht,_⟩:=I.tuple h1;obtain ⟨its2,r2,hb,_⟩:=I.tuple h2;cases r;obtain ⟨⟨cls,dd,data,sl⟩,ho,hc,n,hd⟩:=id ht;obtain ⟨⟨cls2,dd2,data2,sl2⟩,ho2,hc2,n2,hd2⟩:=id hb;simp only at hc hd hc2 hd2;subst hc hd hc2 hd2;exact concat_meets ⟨_,ho,rfl⟩ ⟨_,ho2,rfl⟩ noFill_tuple_add seq_tuple_add F.slot_tuple_add F.entry_tuple_add (F.args_tuple_add_2 _ _)
   (tuple_addW0 a b _ its2.toArray n n2 dd dd2 sl sl2 (by simp)) ⟨ho,ho2,⟨.ref b,H,I,rfl,q⟩⟩
theorem yb:OpR X (binaryOp .Add) (rD X yi):=by
 intro pins s σ H x y v u Q I rx ry ⟨W,a,b,tk,ra,rb,z,e,q⟩;cases a<;>cases b<;>simp only [yi] at e<;>try cases e
 case int.int i j=>exact RM pins s σ H x y v u Q I rx ry ⟨i,j,Rep.int.mp ra,Rep.int.mp rb,okI q⟩
 case str.str i j =>
  obtain ⟨c,rfl⟩:=vH e;exact QL pins s σ H x y v u Q I rx ry ⟨i,j,Rep.str.mp ra,Rep.str.mp rb,c,okS q⟩
 case lst.lst as bs =>
  obtain ⟨c,rfl⟩:=vH (show (if as.length+bs.length<=sizeLine then Res.ok (PV.lst (as++bs)) else .bad)=.ok z from e)
  obtain ⟨l,xs,rfl,h1,h2⟩:=Rep.lst'.mp ra;obtain ⟨l2,ys,rfl,h3,h4⟩:=Rep.lst'.mp rb;exact Kf pins s σ H _ _ v u Q I rx ry ⟨l,l2,xs,ys,rfl,rfl,xP h1,xP h3,by rw [h2.length,h4.length];exact c,fun p hp=>uF q tk (h2.append h4) hp⟩
 case tup.tup as bs =>
  obtain ⟨c,rfl⟩:=vH (show (if as.length+bs.length<=sizeLine then Res.ok (PV.tup (as++bs)) else .bad)=.ok z from e)
  obtain ⟨l,xs,rfl,h1,h2⟩:=Rep.tup'.mp ra;obtain ⟨l2,ys,rfl,h3,h4⟩:=Rep.tup'.mp rb
  by_cases hx:xs=[]
  ·subst hx;have:as=[]:=by have:=h2.length;cases as<;>simp_all
   subst this;exact Nj pins s σ H _ _ v u Q I rx ry ⟨l,l2,ys,rfl,rfl,yU h1,yU h3,q _ H (Same.refl H) (by simpa using rb)⟩
  ·refine Px pins s σ H _ _ v u Q I rx ry ⟨l,l2,xs,ys,rfl,rfl,yU h1,yU h3,hx,by rw [h2.length,h4.length];exact c,fun hy=>?_,fun _ p hp=>Yd q tk (h2.append h4) hp⟩
   subst hy;have:bs=[]:=by have:=h4.length;cases bs<;>simp_all
   subst this;exact q _ H (Same.refl H) (by simpa using ra)
end
open PySem.AutoSeq1 (wpAny_loadPart')
theorem Zn:fillsNumberSlot (.type "tuple") "mul" = pure false :=
 PySem.fillsNumberSlot_seq (id := "tuple.__mul__") (r:=some (.builtin "tuple.__rmul__")) F.slot_tuple_mul.lookup (by decide +kernel) F.slot_tuple_rmul.lookup (by decide +kernel)
theorem WB:seqRepeat? (.type "tuple")=pure (some (.builtin "tuple.__mul__")):=by
 unfold seqRepeat?;rw [PySem.seqSlot_of (T := "tuple") (name := "__mul__") (id := "tuple.__mul__") F.slot_tuple_mul.lookup (by decide +kernel),PySem.seqSlot_of (T := "tuple") (name := "__rmul__") (id := "tuple.__rmul__") F.slot_tuple_rmul.lookup (by decide +kernel)];rfl
theorem YH (a:Int) (t:Tok) (l:Addr) (items:Array Value) (n:Nat) (dd:Option Addr) (sl:Array (Option Value)) :
  Meets (Builtin.«int.__rmul__» ⟨[.int a t,.ref l],[]⟩) (fun _ R s=>s.heap.get? l=some {cls:=.type "tuple",dict:=dd,data:=.seq items n,slots:=sl}/\R (.ok (.ret Value.notImplemented)) s) :=
 .of_wp fun prog w A R s h=>by obtain ⟨hp,g,d,tk,os⟩:=s;obtain ⟨hl,h⟩:=h;wp_walk;exact ⟨_,rfl,h⟩
theorem ZN (l:Addr) (its:List Value) (n:Nat) (dd:Option Addr) (sl:Array (Option Value)) (x:Int) (u:Tok) (h1 : -(2 ^ 60)<=x) (h2:x<2 ^ 60) (hz:its.length*x.toNat<=sizeLine) :
  Meets (Builtin.«tuple.__mul__» ⟨[.ref l,.int x u],[]⟩) (fun _ R s=>s.heap.get? l=some {cls:=.type "tuple",dict:=dd,data:=.seq its.toArray n,slots:=sl} /\
   ((its=[]\/x=1)->R (.ok (.ret (Value.ref l))) s)/\(¬ (its=[]\/x=1)->R (.ok (.ret (Value.ref s.heap.objs.size))) {s with heap:=s.heap.push {cls:=Value.type "tuple",data:=Data.seq (List.replicate x.toNat its).flatten.toArray}})) :=
 .of_wp fun prog w A R s h=>by
  obtain ⟨hp,g,d,tk,os⟩:=s;obtain ⟨hl,ha,hb⟩:=h;have f1:=AutoSeq1.idx_int;have f2:=AutoSeq1.sub_tuple_tuple;have hs:(sizeLine:Nat)=16777216:=sizeLine_eq
  wp_walk using wpAny_loadPart' hl
  refine wpAny_ite_split (fun c=>absurd c ?_) (fun _=>?_)
  ·intro c;simp only [Bool.or_eq_true,decide_eq_true_eq] at c;lia
  wp_walk using wpAny_loadPart' hl
  refine wpAny_ite_split (fun c=>?_) (fun c=>?_)
  ·wp_walk using wpAny_loadPart' hl
   have:its=[]\/x=1:=by
    rw [Bool.or_eq_true] at c
    rcases c with c | c
    ·left;simpa using c
    ·right;simpa using c
   exact ⟨_,rfl,ha this⟩
  ·have nc:¬ (its=[]\/x=1):=fun q=>c (by rcases q with q | q<;>simp [q])
   have he:its≠[]:=fun q=>nc (.inl q)
   wp_walk
   refine wpAny_ite_split (fun c2=>?_) (fun c2=>?_)
   ·have hx:x.toNat=0:=by
     rw [Bool.or_eq_true,decide_eq_true_eq] at c2
     rcases c2 with c2 | c2
     ·lia
     ·exact absurd (by simpa using c2) he
    have e:(List.replicate x.toNat its).flatten.toArray=(#[]:Array Value):=by rw [hx];rfl
    have hb':=hb nc;rw [e] at hb'
    wp_walk
    exact ⟨_,rfl,hb'⟩
   ·have hx:0<x:=by
     rw [Bool.or_eq_true,decide_eq_true_eq] at c2
     lia
    have hxt:(x.toNat:Int)=x:=Int.toNat_of_nonneg (by lia);have hprod:((its.toArray.size:Int))*x<=16777216:=by
     have:(((its.length*x.toNat:Nat)):Int)<=16777216:=by lia
     rw [Int.natCast_mul,hxt] at this;simpa using this
    wp_walk
    refine wpAny_ite_split (fun c3=>absurd c3 ?_) (fun _=>?_)
    ·lia
    wp_walk
    refine wpAny_ite_split (fun c3=>absurd c3 ?_) (fun _=>?_)
    ·intro c3;unfold Builtin.Tuple.tupleTooMany at c3;rw [decide_eq_true_eq] at c3
     lia
    have e:List.foldl (fun x1 x2=>x1++x2) #[] (List.replicate x.toNat its.toArray)=(List.replicate x.toNat its).flatten.toArray:=by
     have:=Zr its x.toNat [];rw [List.nil_append] at this;exact this
    have hb':=hb nc;have hsz:sizeOk (.seq (List.replicate x.toNat its).flatten.toArray):=by
     show (List.replicate x.toNat its).flatten.toArray.size<=sizeLine;rw [List.size_toArray,Ve,Nat.mul_comm];exact hz
    rw [e]
    first
     | exact jB (m:=Builtin.Tuple.tupleExact _) (wpAny_newObj_type (jP ⟨_,rfl,hb'⟩) hsz)
     | exact jB (m:=Builtin.Tuple.tupleExact _) (wpAny_newObj_type (jB (jP ⟨_,rfl,hb'⟩)) hsz)
section
variable {X:Cx}
theorem Ps:OpR X (binaryOp .Mult) (fun x y H Q=>∃ l k xs,x=.ref l/\y=.int k/\SqT X.K H l xs /\ -(2 ^ 60)<=k/\k<2 ^ 60/\xs.length*k.toNat<=sizeLine /\
  ((xs=[]\/k=1)->Q (.ref l) H)/\∀ p,H p=none->Q (.ref p) (upd H p (.tup (List.replicate k.toNat xs).flatten))):=by
 intro pins s σ H x y v u Q I rx ry ⟨l,k,xs,e1,e2,h1,k1,k2,hz,q1,q2⟩;subst e1 e2;cases rx;obtain ⟨t,rfl⟩:=ry;obtain ⟨its,r,ht,_⟩:=I.tuple h1;obtain ⟨⟨cls,dd,data,sl⟩,ho,hc,n,hd⟩:=id ht;simp only at hc hd;subst hc hd;have hlen:=r.length;refine wpAny_binaryOp_repeat_ref (T := "tuple") (U := "int") (by decide) ⟨_,ho,rfl⟩ (fun s'=>typeIs_int s' k t) Zn F.fills_int_mul F.slot_int_rmul WB F.slot_int_index.lookup
  (call_meets F.slot_int_rmul (typeIs_int s k t) F.entry_int_rmul (F.args_int_rmul_2 _ _) (YH k t l its.toArray n dd sl)
   ⟨ho,rfl,⟨_,ho,rfl⟩,call_meets F.slot_tuple_mul ⟨_,ho,rfl⟩ F.entry_tuple_mul (F.args_tuple_mul_2 _ _) (ZN l its n dd sl k t k1 k2 (by rw [<- hlen];exact hz)) ⟨ho,fun c=>?_,fun _=>?_⟩⟩)
 ·exact ⟨.ref l,H,I,rfl,q1 (c.imp (fun e=>by rw [e] at hlen;exact List.length_eq_zero_iff.mp hlen) id)⟩
 ·refine ⟨.ref s.heap.objs.size,_,I.laid (t':=s.toks) (o:=.tup (List.replicate k.toNat xs).flatten) (fun b ob q=>jG _ q) (Nat.le_refl _) ?_,rfl,q2 _ I.fresh⟩;exact ⟨by rw [Ve,Nat.mul_comm];exact hz,_,r.rep k.toNat,IsTupD.new _ _⟩
theorem YE (l:Addr) (items:Array Value) (n:Nat) (dd:Option Addr) (sl:Array (Option Value)) (x:Int) (u:Tok) (hc0:¬(!Builtin.List.listFitsIndex x)=true) (hc1:¬items.size*x.toNat>(2 ^ 63-1)/8) (hc2:¬Builtin.List.listTooLong (items.size*x.toNat)=true) :
  Meets (Builtin.«list.__mul__» ⟨[.ref l,.int x u],[]⟩) (fun _ R s=>s.heap.get? l=some {cls:=.type "list",dict:=dd,data:=.seq items n,slots:=sl}/\R (.ok (.ret (Value.ref s.heap.objs.size))) {s with heap:=s.heap.push {cls:=Value.type "list",data:=Data.seq (List.foldl (fun x1 x2=>x1++x2) #[] (List.replicate (if items.isEmpty=true then 0 else x.toNat) items))}}) :=
 .of_wp fun prog w A R s h=>by
  obtain ⟨hp,g,d,tk,os⟩:=s;obtain ⟨hl,h⟩:=h;have hsz:=AutoListH.joined_fits hc2
  wp_walk using wpAny_loadPart' hl;refine wpAny_ite_false (decide_eq_false (Nat.not_lt.mpr hsz)) ?_;wp_walk using wpAny_loadPart' hl;exact ⟨_,rfl,h⟩
theorem Xh (a:Int) (t:Tok) (l:Addr) (items:Array Value) (n:Nat) (dd:Option Addr) (sl:Array (Option Value)) :
  Meets (Builtin.«int.__rmul__» ⟨[.int a t,.ref l],[]⟩) (fun _ R s=>s.heap.get? l=some {cls:=.type "list",dict:=dd,data:=.seq items n,slots:=sl}/\R (.ok (.ret Value.notImplemented)) s) :=
 .of_wp fun prog w A R s h=>by obtain ⟨hp,g,d,tk,os⟩:=s;obtain ⟨hl,h⟩:=h;wp_walk;exact ⟨_,rfl,h⟩
theorem Pt:OpR X (binaryOp .Mult) (fun x y H Q=>∃ l k xs,x=.ref l/\y=.int k/\SqL X.K H l xs /\ -(2 ^ 60)<=k/\k<2 ^ 60/\xs.length*k.toNat<=sizeLine /\
  ∀ p,H p=none->Q (.ref p) (upd H p (.lst (List.replicate k.toNat xs).flatten))):=by
 intro pins s σ H x y v u Q I rx ry ⟨l,k,xs,e1,e2,h1,k1,k2,hz,q⟩;subst e1 e2;cases rx;obtain ⟨t,rfl⟩:=ry;obtain ⟨its,r,pl,z⟩:=I.list h1;obtain ⟨⟨c1,d1,dt1,sl1⟩,o1,hc1,n1,hd1⟩:=pl.isList;simp only at hc1 hd1;subst hc1 hd1;have hl:=r.length;have hlen:its.toArray.size*k.toNat<=sizeLine:=by rw [List.size_toArray,<- hl];exact hz
 have hcap:¬ its.toArray.size*k.toNat>(2 ^ 63-1)/8:=by
  have:(sizeLine:Nat)<=(2 ^ 63-1)/8:=by decide
  lia
 have hfit:¬ (!Builtin.List.listFitsIndex k)=true:=by
  rw [fitsIndex_both (by lia) (by lia)];exact Bool.false_ne_true
 have hlong:¬ Builtin.List.listTooLong (its.toArray.size*k.toNat)=true:=by
  rw [Nq hlen];exact Bool.false_ne_true
 have hnew:List.foldl (fun x1 x2=>x1++x2) #[] (List.replicate (if its.toArray.isEmpty=true then 0 else k.toNat) its.toArray)=(List.replicate k.toNat its).flatten.toArray:=by
  have f0:∀ m:Nat,List.foldl (fun x1 x2=>x1++x2) #[] (List.replicate m its.toArray)=(List.replicate m its).flatten.toArray:=fun m=>by
   have:=Zr its m [];rw [List.nil_append] at this;exact this
  rw [f0];cases its with
  | nil=>simp
  | cons a r'=>rw [if_neg (by simp)]
 refine wpAny_binaryOp_repeat_ref (T := "list") (U := "int") (by decide) ⟨_,o1,rfl⟩ (fun s'=>typeIs_int s' k t) noFill_list_mul F.fills_int_mul F.slot_int_rmul repeat_list F.slot_int_index.lookup
  (call_meets F.slot_int_rmul (typeIs_int s k t) F.entry_int_rmul (F.args_int_rmul_2 _ _) (Xh k t l its.toArray n1 d1 sl1)
   ⟨o1,rfl,⟨_,o1,rfl⟩,call_meets F.slot_list_mul ⟨_,o1,rfl⟩ F.entry_list_mul (F.args_list_mul_2 _ _) (YE l its.toArray n1 d1 sl1 k t hfit hcap hlong) ⟨o1,?_⟩⟩)
 rw [hnew];exact ⟨.ref _,_,I.lnew (t':=s.toks) (r.rep k.toNat) (by rw [Ve,Nat.mul_comm];exact hz),rfl,q _ I.fresh⟩
theorem NX {α:Type} (xs:List α):(List.replicate 1 xs).flatten=xs:=by simp
theorem NY {α:Type} (k:Nat):(List.replicate k ([]:List α)).flatten=[]:=by simp
theorem xC:OpR X (binaryOp .Mult) (rD X yT):=by
 intro pins s σ H x y v u Q I rx ry ⟨W,a,b,tk,ra,rb,z,e,q⟩;cases a<;>cases b<;>simp only [yT] at e<;>try cases e
 case int.int i j =>
  obtain ⟨c,rfl⟩:=vH e;exact RH pins s σ H x y v u Q I rx ry ⟨i,j,Rep.int.mp ra,Rep.int.mp rb,c,okI q⟩
 case tup.int as k =>
  obtain ⟨c,rfl⟩:=vH e;obtain ⟨l,xs,rfl,h1,h2⟩:=Rep.tup'.mp ra;have hl:=h2.length;refine Ps pins s σ H _ _ v u Q I rx ry ⟨l,k,xs,rfl,Rep.int.mp rb,yU h1,c.1,c.2.1,by rw [hl];exact c.2.2,fun hq=>?_,fun p hp=>Yd q tk (h2.rep _) hp⟩
  rcases hq with hq | hq
  ·subst hq;have:as=[]:=by cases as<;>simp_all
   subst this;rw [NY] at q;exact q _ H (Same.refl H) ra
  ·subst hq;rw [show (1:Int).toNat=1 from rfl,NX] at q
   exact q _ H (Same.refl H) ra
 case lst.int as k =>
  obtain ⟨c,rfl⟩:=vH e;obtain ⟨l,xs,rfl,h1,h2⟩:=Rep.lst'.mp ra;have hl:=h2.length;exact Pt pins s σ H _ _ v u Q I rx ry ⟨l,k,xs,rfl,Rep.int.mp rb,xP h1,c.1,c.2.1,by rw [hl];exact c.2.2,fun p hp=>uF q tk (h2.rep _) hp⟩
end
def atF (xs:List PV) (i:Int):Res PV:=match atI xs i with
 | some v=>.ok v
 | none=>.bad
def ixF:PV->PV->Res PV
 | .lst xs,.int i=>atF xs i
 | .tup xs,.int i=>atF xs i
 | _,_=>.bad
theorem Sx (xs:List PV) (i:Int):(∃ z,atF xs i=.ok z)\/atF xs i=.bad:=by
 unfold atF;cases atI xs i<;>simp
theorem xI:NoX ixF:=qg fun v u=>by
 cases v<;>cases u<;>simp only [ixF]<;>first | exact Sx _ _ | exact .inr trivial | exact .inr rfl
theorem By {K:PySem.W.Frag} {H:Hp} {vs:List PV} {xs:List V} {i:Int} {z:PV} (h:atF vs i=.ok z) (r:Reps K H vs xs):∃ x,atI xs i=some x/\Rep K H z x:=by
 unfold atF at h;cases e:atI vs i with
 | none=>rw [e] at h;cases h
 | some v =>
  rw [e] at h;cases h;unfold atI at e ⊢;rw [r.length];cases e2:ixN vs.length i with
  | none=>rw [e2] at e;cases e
  | some j =>
   rw [e2] at e;exact r.get e
section
variable {X:Cx}
theorem vO:IxR X (rD X ixF):=by
 intro value slice pins s σ H x y v u Q I rx ry ⟨W,a,b,tk,ra,rb,z,e,q⟩ hs;cases a<;>cases b<;>simp only [ixF] at e<;>try cases e
 case lst.int as i =>
  obtain ⟨l,xs,rfl,h1,h2⟩:=Rep.lst'.mp ra;obtain ⟨w,e1,r1⟩:=By e h2;exact PU value slice pins s σ H _ y v u Q I rx ry ⟨l,xs,i,w,rfl,Rep.int.mp rb,xP h1,e1,q w H (Same.refl H) r1⟩ hs
 case tup.int as i =>
  obtain ⟨l,xs,rfl,h1,h2⟩:=Rep.tup'.mp ra;obtain ⟨w,e1,r1⟩:=By e h2;exact RZ value slice pins s σ H _ y v u Q I rx ry ⟨l,xs,i,w,rfl,Rep.int.mp rb,yU h1,e1,q w H (Same.refl H) r1⟩ hs
end
section
variable {X:Cx} {a b c:Expr} {da db dc:De} {pos p2:Pos}
abbrev Dp:=En->Res (Option Int)
variable {lo hi:Option Expr} {dl dh:Dp}
def eCh (f g:PV->PV->Res PV) (a b c:De):De:=fun ρ=>(a ρ).bind fun x=>(b ρ).bind fun y=>(f x y).bind fun z=>(asB z).bind fun k=>if k then (c ρ).bind fun w=>g y w else .ok (.bl false)
theorem Mm {f g:PV->PV->Res PV} {W:Addr->Prop} {σ:SS} {ρ:En} {H:Hp} {Q:VK} (nf:NoX f) (ng:NoX g) (er:ER X.K W H σ ρ) (h:Fin X W H Q (eCh f g da db dc ρ)):Mn (rD X f) (rD X g) (tD X da) (tD X db) (tD X dc) σ H Q:=by
 refine wf da er h.bind fun v x H1 s1 er1 r1 h1=>?_
 refine wf db er1 (Fin.grow h1 s1).bind fun u y H2 s2 er2 r2 h2=>?_
 have h2:=Fin.grow h2 s2;cases e:f v u with
 | exc z=>exact absurd e (nf v u z)
 | bad=>rw [e] at h2;exact h2.elim
 | ok z =>
  rw [e] at h2;obtain ⟨k,rfl,h3⟩:=Jv (show Fin X W H2 Q ((asB z).bind _) from h2)
  refine ⟨W,v,u,er2.trk,r1.mono (zD s2),r2,_,e,fun x3 H3 s3 r3=>⟨k,Rep.bl.mp r3,?_⟩⟩
  have er3:=er2.mono s3;have h3:=Fin.grow h3 s3;cases k with
  | false=>exact UC (h3 _ H3 (Same.refl H3) (Rep.bl.mpr rfl))
  | true =>
   refine Jb (wf dc er3 h3.bind fun w z4 H4 s4 er4 r4 h4=>?_);have h4:=Fin.grow h4 s4;cases e4:g u w with
   | ok z=>rw [e4] at h4;exact ⟨W,u,w,er4.trk,r2.mono (zD (s3.trans s4)),r4,z,e4,h4⟩
   | exc z=>exact absurd e4 (ng u w z)
   | bad=>rw [e4] at h4;exact h4.elim
theorem Bp {op op':CmpOp} {f g:PV->PV->Res PV} (ho:OpR X (compareOp op) (rD X f)) (ho':OpR X (compareOp op') (rD X g)) (nf:NoX f) (ng:NoX g) (ha:DE X a da) (hb:DE X b db) (hc:DE X c dc)
  (hm:lastMarks [op,op'] [b,c]=false:=by with_unfolding_all rfl):DE X (.Compare a [op,op'] [b,c] pos) (eCh f g da db dc) :=
 yI (Nf ho ho' ha hb hc hm) fun σ H Q ⟨W,ρ,er,h⟩=>Mm nf ng er h
def isN (a b:PV):Res PV:=match a,b with
 | .non,.non=>.ok (.bl true)
 | _,.non=>.ok (.bl false)
 | _,_=>.bad
theorem RQ:NoX isN:=qg fun v u=>by cases v<;>cases u<;>simp [isN]
def AE:PV->Bool
 | .non=>true
 | _=>false
theorem VW {K:PySem.W.Frag} {H:Hp} {v:PV} {x:V} (r:Rep K H v x):decide (x=.non)=AE v:=by
 cases v with
 | non=>rw [Rep.non.mp r];rfl
 | bl b=>rw [Rep.bl.mp r];rfl
 | int b=>rw [Rep.int.mp r];rfl
 | str b=>rw [Rep.str.mp r];rfl
 | lst b=>obtain ⟨a,xs,rfl,_⟩:=Rep.lst'.mp r;rfl
 | tup b=>obtain ⟨a,xs,rfl,_⟩:=Rep.tup'.mp r;rfl
theorem Pv:OpR X (compareOp .Is) (rD X isN):=OpR.use RK fun x y H Q ⟨W,a,b,tk,ra,rb,z,e,q⟩=>by
 have hr:=VW ra;cases b with
 | non =>
  refine ⟨Rep.non.mp rb,?_⟩;rw [hr];cases a<;>simp only [isN] at e<;>cases e<;>exact okB q
 | _=>cases a<;>simp [isN] at e
def Jj (d:De):De:=fun ρ=>(d ρ).bind fun v=>match v with
 | .int i=>.ok (.int (-i))
 | _=>.bad
theorem Bn (ha:DE X a da):DE X (.UnaryOp .USub a pos) (Jj da):=yI (Ao TC ha) fun σ H Q ⟨W,ρ,er,h⟩ =>
 wf da er h.bind fun v x H1 s1 er1 r1 h1=>by
  cases v with
  | int i=>exact ⟨i,Rep.int.mp r1,okI (wO h1 s1)⟩
  | _=>exact h1.elim
end
def ZT (K:PySem.W.Frag) (G:Hp) (J:It) (vs:List PV):Prop :=
 ∀ (i:Nat) (H1:Hp),Same G H1 ->
  (∀ v,vs[i]?=some v->J.go i H1/\∀ x H2,J.yld i H1 x H2->Same H1 H2/\∀ W',(∀ a,W' a->H1 a≠none)->Same G (hid W' H1)->Rep K (hid W' H2) v x)/\(i=vs.length->J.stop i H1)
abbrev Di:=En->Res (List PV)
def FinI (X:Cx) (W:Addr->Prop) (H:Hp) (R:It->Hp->Prop):Res (List PV)->Prop
 | .ok vs=>∀ J H',Same H H'->ZT X.K (hid W H') J vs->R J H'
 | .exc x=>XW X x H
 | .bad=>False
def tDI (X:Cx) (d:Di):TI:=fun σ H R=>∃ W ρ,ER X.K W H σ ρ/\FinI X W H R (d ρ)
def DI (X:Cx) (tg iter:Expr) (d:Di):Prop:=PI X tg iter (tDI X d)
abbrev Dg:=PV->En->Res En
def Kp (σ σ':SS) (ρ ρ':En):Prop:=∀ (i:Nat) (s:Sl),s.Mine->ρ'[i]?=some (some s)->ρ[i]?=some (some s)/\σ'[i]?=σ[i]?
theorem Kp.set {σ:SS} {ρ:En} (i:Nat) (x:V) (v:PV):Kp σ (σ.set i (some x)) ρ (ρ.set i (some (.val v))):=fun j vs hm h=>by
 rw [List.getElem?_set] at h
 by_cases e:i=j
 ·rw [if_pos e] at h
  split at h
  ·cases h;exact hm.elim
  ·cases h
 ·rw [if_neg e] at h;exact ⟨h,by rw [List.getElem?_set,if_neg e]⟩
theorem Kp.trans {σ σ' σ'':SS} {ρ ρ' ρ'':En} (a:Kp σ σ' ρ ρ') (b:Kp σ' σ'' ρ' ρ''):Kp σ σ'' ρ ρ'':=fun i vs m h=>by
 obtain ⟨h1,h2⟩:=b i vs m h;obtain ⟨h3,h4⟩:=a i vs m h1;exact ⟨h3,h2.trans h4⟩
def gD (X:Cx) (b:Dg):TG:=fun v σ H Q=>∃ W ρ pv,ER X.K W H σ ρ/\Rep X.K (hid W H) pv v/\∃ ρ',b pv ρ=.ok ρ'/\∀ σ',ER X.K W H σ' ρ'->Kp σ σ' ρ ρ'->Q σ' H
def DG (X:Cx) (tg:Expr) (b:Dg):Prop:=PG X tg (gD X b)
def zp (i:Nat):Dg:=fun v ρ=>.ok (ρ.set i (some (.val v)))
def vg (i j:Nat):Dg:=fun v ρ=>match v with
 | .tup [a,b]=>.ok ((ρ.set i (some (.val a))).set j (some (.val b)))
 | _=>.bad
section
variable {X:Cx} {pos:Pos}
theorem MY {tg:Expr} {t t':TG} (h:PG X tg t) (i:∀ v σ H Q,t' v σ H Q->t v σ H Q):PG X tg t':=fun pins s σ H v u Q I r q=>h pins s σ H v u Q I r (i v σ H Q q)
theorem zF (i:Nat) {x:Str} (hN:X.N.Nodup) (hi:X.N[i]?=some x) (hx:Loc X.env.scope x) (hf:X.fn x=true\/X.env.scope.names.lookup x=some .local):DG X (.Name x pos) (zp i) :=
 MY (ZZ hN hi hx hf) fun v σ H Q ⟨W,ρ,pv,er,r,ρ',e,q⟩=>by
  cases e;exact q _ (er.set r i) (Kp.set i _ _)
theorem qm {i j:Nat} {x y:Str} {px py:Pos} {k:Nat} (hc:X.calm=true) (hN:X.N.Nodup) (hi:X.N[i]?=some x) (hj:X.N[j]?=some y) (hx:Loc X.env.scope x) (hy:Loc X.env.scope y)
  (hf:X.fn x=true\/X.env.scope.names.lookup x=some .local) (hg:X.fn y=true\/X.env.scope.names.lookup y=some .local):DG X (.Tuple [.Name x px,.Name y py] k pos) (vg i j) :=
 MY (Rw (n:=2) hc (Ud (ZZ hN hi hx hf) (Ud (ZZ hN hj hy hg) Pn))) fun v σ H Q ⟨W,ρ,pv,er,r,ρ',e,q⟩=>by
  unfold vg at e
  split at e
  ·rename_i a b
   cases e;obtain ⟨l,xs,rfl,h1,h2⟩:=Rep.tup'.mp r;obtain ⟨x1,r1,rfl,h3,h4⟩:=Reps.cons.mp h2;obtain ⟨x2,r2,rfl,h5,h6⟩:=Reps.cons.mp h4;have hnil:=Reps.nil.mp h6;subst hnil;exact ⟨l,_,rfl,yU h1,rfl,x1,[x2],rfl,x2,[],rfl,rfl,q _ ((er.set h3 i).set h5 j) ((Kp.set i _ _).trans (Kp.set j _ _))⟩
  ·cases e
end
def yR (t:Dg) (c:Dt) (e:De) (ρ:En):List PV->Res (List PV)
 | []=>.ok []
 | v::vs=>(t v ρ).bind fun ρ1=>(c ρ1).bind fun b=>if b then (e ρ1).bind fun x=>(yR t c e ρ vs).bind fun xs=>.ok (x::xs) else yR t c e ρ vs
def GW:Option (Option Sl)->Option Sl
 | some (some (.val v))=>some (.val v)
 | some (some (.fdc v))=>some (.fdc v)
 | _=>none
def zV (k:Nat) (idx:List Nat) (ρ:En):En:=List.replicate k none++idx.map fun i=>GW ρ[i]?
def UV (k:Nat) (idx:List Nat) (σ:SS):SS:=List.replicate k none++idx.map fun i=>(σ[i]?).join
def noX {α:Type}:Res α->Res α
 | .ok v=>.ok v
 | _=>.bad
def zC (d:Di) (k:Nat) (idx:List Nat) (t:Dg) (c:Dt) (e:De):De:=fun ρ=>(d ρ).bind fun vs=>if vs.length<=sizeLine then (noX (yR t c e (zV k idx ρ) vs)).bind fun xs=>.ok (.lst xs) else .bad
def zT (X:Cx) (scope:Scope) (cl:List (Str×Addr)) (N:List Str) (C:Addr) (s₀:Shared) (H₀:Hp) (fp:List Addr):Cx :=
 {X with N:=N,s₀:=s₀,H₀:=H₀,env:=compEnvC scope cl C X.env,outer:=X.stack,ex:=fp,fn:=fun x=>scope.names.lookup x==some .cell,pn:=[],xe:=fun _ _=>False}
structure CompOk (X:Cx) (scope:Scope) (cl:List (Str×Addr)) (k:Nat) (idx:List Nat) (N:List Str):Prop where
 kind:scope.kind=.function
 clos:closureFor scope X.env=pure cl
 loc:∀ y∈scope.names,y.2=.local->scope.names.lookup y.1=some .local
 sub:∀ x c,cl.lookup x=some c->X.env.cells.lookup x=some c
 has:∀ x,((relabel scope X.env).names.lookup x=some .cell\/(relabel scope X.env).names.lookup x=some .free)->(x,NameKind.cell)∈scope.names\/∃ c,cl.lookup x=some c
 len:N.length=k+idx.length
 cap:∀ (j i:Nat) (x:Str),idx[j]?=some i->N[k+j]?=some x->X.N[i]?=some x/\(X.env.kindOf x=some .cell\/X.env.kindOf x=some .free)/\Vis X.env.scope x/\((relabel scope X.env).names.lookup x=some .cell\/(relabel scope X.env).names.lookup x=some .free)/\(∃ c,cl.lookup x=some c)/\(x,NameKind.cell)∉scope.names
theorem wL:∀ (names:List (Str×NameKind)) (a:Nat) (acc:List (Str×Addr)),cellsFrom a names acc=cellsFrom a names []++acc
 | [],_,_=>rfl
 | (n,k)::r,a,acc=>by
  unfold cellsFrom
  split
  ·rw [wL r (a+1) ((n,a)::acc),wL r (a+1) [(n,a)],List.append_assoc];rfl
  ·exact wL r a acc
theorem vS:∀ {names:List (Str×NameKind)} {a:Nat} {acc:List (Str×Addr)} {x:Str},(x,NameKind.cell)∈names\/(∃ c,acc.lookup x=some c)->∃ c,(cellsFrom a names acc).lookup x=some c
 | [],_,_,_,h=>by
  rcases h with h | h
  ·cases h
  ·exact h
 | (n,k)::r,a,acc,x,h=>by
  have front:∃ c,((n,a)::acc).lookup x=some c\/(x≠n/\((n,a)::acc).lookup x=acc.lookup x):=by
   cases hb:(x==n) with
   | true=>exact ⟨a,.inl (by rw [List.lookup_cons,hb])⟩
   | false=>exact ⟨a,.inr ⟨fun e=>by simp [e] at hb,by rw [List.lookup_cons,hb]⟩⟩
  unfold cellsFrom
  split
  ·refine vS ?_;obtain ⟨c,z | ⟨z1,z2⟩⟩:=front
   ·exact .inr ⟨c,z⟩
   ·rcases h with h | h
    ·rcases List.mem_cons.mp h with e | h
     ·cases e;exact absurd rfl z1
     ·exact .inl h
    ·exact .inr (by rw [z2];exact h)
  ·rename_i hk
   refine vS ?_
   rcases h with h | h
   ·rcases List.mem_cons.mp h with e | h
    ·cases e;exact absurd rfl hk
    ·exact .inl h
   ·exact .inr h
theorem vR:∀ {names:List (Str×NameKind)} {a:Nat} {acc:List (Str×Addr)} {x:Str} {c:Addr},(x,c)∈cellsFrom a names acc->(x,c)∈acc\/(x,NameKind.cell)∈names
 | [],_,_,_,_,h=>.inl h
 | (n,k)::r,a,acc,x,c,h=>by
  unfold cellsFrom at h
  split at h
  ·rename_i hk
   have ek:k=.cell:=by simpa using hk
   rcases vR h with z | z
   ·rcases List.mem_cons.mp z with e | z
    ·cases e;rw [ek];exact .inr jC
    ·exact .inl z
   ·exact .inr (jM _ z)
  ·rcases vR h with z | z
   ·exact .inl z
   ·exact .inr (jM _ z)
theorem qO (s:Shared) (names:List (Str×NameKind)):CellsOk (pushCells (s.heap.push {cls:=.type "dict",data:=.dict #[]}) names) (s.heap.objs.size+1) (cellsFrom (s.heap.objs.size+1) names []):=by
 have ok:=cellsFrom_ok names (s.heap.push {cls:=.type "dict",data:=.dict #[]}) (s.heap.objs.size+1) [] ⟨fun _ _ hm=>(nomatch hm),List.Pairwise.nil⟩ (by rw [Heap.size_push];exact Nat.le_refl _)
 rwa [Heap.size_push] at ok
theorem yr {M:Model} {A:Around} {E:Value->Shared->Prop} {s:Shared} {scope:Scope} {g:Addr} {cl:List (Str×Addr)} {qual:Str} {env:Env} {Q:Env->Shared->Prop}
  (h:Q {scope:=scope,locals:=s.heap.objs.size,globals:=g,cells:=cellsFrom (s.heap.objs.size+1) scope.names cl,qual:=qual,func:=none,code:=env.code,frame:=env.frame,builtins:=env.builtins} {s with heap:=pushCells (s.heap.push {cls:=.type "dict",data:=.dict #[]}) scope.names}) :
  wpAny M A (newFunctionEnv scope g cl [] qual none .none (some env)) Q E s:=by
 simp only [newFunctionEnv,Option.isSome_some,if_true];refine jB (wpAny_alloc ?_);refine jB (wpAny_layCells _ (fun name kind cells=>by cases hkc:kind==NameKind.cell<;>simp [hkc]) _ _ _ _ ?_);rw [show ({s with heap:=s.heap.push {cls:=.type "dict",data:=.dict #[]}}:Shared).heap.objs.size=s.heap.objs.size+1 from Heap.size_push ..]
 rw [List.forIn_nil];exact jB (jP (jP h))
def DIf (X:Cx) (ifs:List Expr) (d:Dt):Prop :=
 ∀ (pins:List (Addr×Obj)) (s:Shared) (σ:SS) (H:Hp) (Q:Bool->Hp->Prop),L2.Inv X pins σ H s->tDT X d σ H Q ->
  wpAny (model X.prog X.w) X.A (forIn ifs true fun c r=>if r=true then do let ok <- isTrue c X.env (eval c X.env);pure (ForInStep.yield ok) else pure (ForInStep.yield r)) (TP X pins σ Q) X.xe s
theorem zO {X:Cx}:DIf X [] (fun _=>.ok true):=fun pins s σ H Q I ⟨W,ρ,er,h⟩=>by
 rw [List.forIn_nil];exact jP ⟨H,I,h H (Same.refl H)⟩
theorem Vl {X:Cx} {c:Expr} {d:Dt} (h:DT X c d):DIf X [c] d:=fun pins s σ H Q I q=>by
 rw [List.forIn_cons];simp only [if_true];refine jB (jB (thn (h pins s σ H Q I q) fun b s1 h1=>jP ?_))
 dsimp only;rw [List.forIn_nil];exact jP h1
section
variable {X:Cx} {scope:Scope} {cl:List (Str×Addr)} {k:Nat} {idx:List Nat} {N:List Str}
theorem Yh {W W':Addr->Prop} {H H':Hp} {σ:SS} {ρ:En} (er:ER X.K W H σ ρ) (hs:Same (hid W H) (hid W' H')) (ht:∀ a,W' a->H' a≠none):ER X.K W' H' (UV k idx σ) (zV k idx ρ):=by
 refine ⟨by simp [zV,UV],fun i s q=>?_,ht⟩
 unfold zV at q
 by_cases hi:i<k
 ·rw [List.getElem?_append_left (by simpa using hi),List.getElem?_replicate,if_pos hi] at q;cases q
 ·rw [List.getElem?_append_right (by simpa using hi),List.getElem?_map,List.length_replicate] at q;cases e:idx[i-k]? with
  | none=>rw [e] at q;cases q
  | some j =>
   rw [e] at q;have q':GW ρ[j]?=some s:=by simpa using q
   unfold GW at q'
   split at q'
   ·rename_i v e2
    cases q';obtain ⟨x,h1,h2⟩:=er.val j _ e2;refine ⟨x,?_,Rep.mono hs (show Rep X.K (hid W H) v x from h2)⟩
    unfold UV;rw [List.getElem?_append_right (by simpa using hi),List.getElem?_map,List.length_replicate,e];simp [h1]
   ·rename_i v e2
    cases q';obtain ⟨x,h1,a,o,ys,h2,h3,h4⟩:=er.val j _ e2;refine ⟨x,?_,a,o,ys,h2,hs _ _ h3,DR.mono hs h4⟩;unfold UV;rw [List.getElem?_append_right (by simpa using hi),List.getElem?_map,List.length_replicate,e];simp [h1]
   ·cases q'
theorem jJ {pins:List (Addr×Obj)} {σ:SS} {H:Hp} {s3:Shared} {h4:Heap} {fp:List Addr} (ok:CompOk X scope cl k idx N) (I:L2.Inv X pins σ H s3) (hfp:∀ b∈fp,wW X pins H b/\b<s3.heap.objs.size)
  (hns:h4.Ns s3.heap.objs.size (fun _=>none)) (hk:∀ b o,s3.heap.get? b=some o->h4.get? b=some o) (hw:CellsOk h4 (s3.heap.objs.size+1) (cellsFrom (s3.heap.objs.size+1) scope.names [])) {t:Nat} :
  L2.Inv (zT X scope (cellsFrom (s3.heap.objs.size+1) scope.names cl) N s3.heap.objs.size s3 H fp) [] (UV k idx σ) H {s3 with heap:=h4,toks:=t}:=by
 have hC:H s3.heap.objs.size=none:=I.fresh;generalize hL:cellsFrom (s3.heap.objs.size+1) scope.names cl=L;rw [wL] at hL;have hmem:∀ x c,(x,c)∈cellsFrom (s3.heap.objs.size+1) scope.names []->(x,NameKind.cell)∈scope.names:=fun x c z=>(vR z).elim (fun y=>by cases y) id
 have hhas:∀ x,(x,NameKind.cell)∈scope.names->∃ c,(cellsFrom (s3.heap.objs.size+1) scope.names []).lookup x=some c:=fun x z=>vS (.inl z)
 generalize cellsFrom (s3.heap.objs.size+1) scope.names []=own at hL hmem hhas hw;have lk:∀ x,L.lookup x=(own.lookup x).or (cl.lookup x):=fun x=>by rw [<- hL,List.lookup_append]
 have fa:∀ x c,L.lookup x=some c->(x,c)∈own\/X.env.cells.lookup x=some c:=fun x c e=>by
  rw [lk] at e;cases eo:own.lookup x with
  | none=>rw [eo] at e;exact .inr (ok.sub x c e)
  | some d=>rw [eo] at e;cases e;exact .inl (mem_of_lookup eo)
 have old:∀ x c,X.env.cells.lookup x=some c->c<s3.heap.objs.size:=fun x c e=>by
  obtain ⟨v,o,ho,_⟩:=I.cell x c e;exact jH ho
 have new:∀ x c,(x,c)∈own->s3.heap.objs.size<c:=fun x c e=>(hw.empty x c e).2
 refine ⟨⟨I.ok.mod,?_,I.ok.glob,I.ok.blt,Nat.le_refl _,fun x y c h1 h2=>?_,fun x h=>?_,fun x c h e=>?_,I.ok.hd,I.ok.frames,.inl rfl,fun b hb=>⟨Nat.ne_of_lt (hfp b hb).2,fun x c e=>?_⟩,
  I.bs,Nat.le_trans I.ok.bsz I.sz,fun b o e hb=>?_,fun b hb z=>?_,I.stack,I.stkFree⟩,rfl,I.bare,Un.kept hk,⟨_,hns,fun i x v e1 e2 e3=>?_⟩,fun x c e=>?_,hC,fun x c e=>?_,fun p hp=>absurd hp (by simp [zT]),I.hok.kept hk,?_⟩
 ·show (relabel scope X.env).kind=.function;exact ok.kind
 ·rcases fa x c h1 with z1 | z1<;>rcases fa y c h2 with z2 | z2
  ·exact name_of_addr hw.apart z1 z2
  ·exact absurd (Nat.lt_trans (new x c z1) (old y c z2)) (Nat.lt_irrefl _)
  ·exact absurd (Nat.lt_trans (new y c z2) (old x c z1)) (Nat.lt_irrefl _)
  ·exact I.ok.inj x y c z1 z2
 ·show ∃ c,L.lookup x=some c;rw [lk];cases eo:own.lookup x with
  | some d=>exact ⟨d,rfl⟩
  | none =>
   rcases ok.has x h with z | z
   ·obtain ⟨c,e⟩:=hhas x z;rw [eo] at e;cases e
   ·exact z
 ·have h':scope.names.lookup x=some .cell:=by
   have:(scope.names.lookup x==some NameKind.cell)=true:=h;simpa using this
  obtain ⟨d,ed⟩:=hhas x (mem_of_lookup h')
  replace e:L.lookup x=some c:=e
  rw [lk,ed] at e;cases e;exact Nat.le_of_lt (new x _ (mem_of_lookup ed))
 ·rcases fa x c e with z | z
  ·exact Nat.ne_of_gt (Nat.lt_trans (hfp b hb).2 (new x c z))
  ·exact (hfp b hb).1.2.2.2.2.1 x c z
 ·rcases (hfp b hb).1.2.2.2.1 with z | z
  ·exact I.ok.noex b o e z
  ·exact absurd (Nat.lt_of_lt_of_le (jH (I.ok.bs b o e).1) z) (Nat.lt_irrefl _)
 ·rcases List.mem_cons.mp (I.stkSub b z) with q | q
  ·exact (hfp b hb).1.2.1 q
  ·exact (hfp b hb).1.2.2.1 q
 ·
  replace e1:N[i]?=some x:=e1
  unfold UV at e2
  by_cases hi:i<k
  ·rw [List.getElem?_append_left (by simpa using hi),List.getElem?_replicate,if_pos hi] at e2;cases e2
  ·rw [List.getElem?_append_right (by simpa using hi),List.getElem?_map,List.length_replicate] at e2;cases e:idx[i-k]? with
   | none=>rw [e] at e2;cases e2
   | some j =>
    rw [e] at e2;have e2':(σ[j]?).join=some v:=by simpa using e2
    have e2'':σ[j]?=some (some v):=by
     cases q:σ[j]? with
     | none=>rw [q] at e2';cases e2'
     | some z=>rw [q] at e2';rw [show z=some v from e2']
    obtain ⟨a1,a2,a3,a4,⟨c',ec'⟩,a6⟩:=ok.cap (i-k) j x e (by rw [show k+(i-k)=i by lia];exact e1);obtain ⟨m,hn,hl⟩:=I.loc;obtain ⟨u,ru,lk'⟩:=hl j x v a1 e2'' a3;refine ⟨u,ru,?_⟩
    rcases lk' with ⟨q,_⟩ | ⟨_,c,ec,⟨o,ho,hd⟩⟩
    ·exfalso
     rcases a2 with a2 | a2<;>rw [q] at a2<;>cases a2
    ·have hcc:c=c':=Option.some.inj (ec.symm.trans (ok.sub x c' ec'));subst hcc;refine .inr ⟨a4,c,?_,o,hk c o ho,hd⟩;show L.lookup x=some c;rw [lk];cases eo:own.lookup x with
     | none=>exact ec'
     | some d=>exact absurd (hmem x d (mem_of_lookup eo)) a6
 ·rcases fa x c e with z | z
  ·exact ⟨none,(hw.empty x c z).1⟩
  ·obtain ⟨v,o,ho,hd⟩:=I.cell x c z;exact ⟨v,o,hk c o ho,hd⟩
 ·rcases fa x c e with z | z
  ·exact I.hok.fresh (Nat.le_of_lt (new x c z))
  ·exact I.freeC x c z
 ·show (UV k idx σ).length=N.length;rw [ok.len];simp [UV]
theorem qL {pins:List (Addr×Obj)} {σ σ':SS} {H H':Hp} {s3 s':Shared} {h':Heap} {fp:List Addr} (I:L2.Inv X pins σ H s3) (hfp:∀ b∈fp,wW X pins H b/\b<s3.heap.objs.size)
  (J:L2.Inv (zT X scope cl N s3.heap.objs.size s3 H fp) [] σ' H' s') (hs:Heap.SameBut s3.heap.objs.size s'.heap h'):L2.Inv X pins σ H' {s' with heap:=h'}:=by
 have hC:H' s3.heap.objs.size=none:=J.free;have up:∀ b o,b≠s3.heap.objs.size->s'.heap.get? b=some o->h'.get? b=some o:=fun b o hb e=>hs.extBut b o hb e
 have u0:Un (frs X.stack) fp H H' s3.heap s'.heap:=J.base;have old:∀ b o,s3.heap.get? b=some o->b≠s3.heap.objs.size:=fun b o e=>Nat.ne_of_lt (jH e)
 have u:Un (frs X.stack) fp H H' s3.heap h':=⟨fun b o e n h1 h2=>up b o (old b o e) (u0.keep b o e n h1 h2),fun b o e n h1 h2=>let ⟨sl,q⟩:=u0.slot b o e n h1 h2;⟨sl,up b _ (old b o e) q⟩,u0.free,
  fun b o e h=>let ⟨o',q⟩:=u0.there b o e h;⟨o',up b _ (old b o e) q⟩,u0.tups,u0.frzs,u0.tbls⟩
 have hok:HOk X.prog X.w H' h':=fun a o e=>by
  have nz:∀ c v,H' c=some v->c≠s3.heap.objs.size:=fun c v q z=>by rw [z,hC] at q;cases q
  refine (J.hok a o e).stay (fun b v hb q=>up b v ?_ q) (fun _ q=>q) fun _ _ q=>q
  rcases hb with z | z
  ·rw [z];exact nz a o e
  ·exact nz b _ z
 have hos:s'.os=s3.os:=J.os;obtain ⟨hh,g,d,t,os'⟩:=s';obtain rfl:os'=s3.os:=hos;have fin:=I.call (s:=s3) (h':=h') (g':=g) (d':=d) (t':=t) (ch:=fp) u hok J.bare fun b hb=>by
  obtain ⟨⟨f0,f1,f2,f3,f4,f5⟩,_⟩:=hfp b hb;exact ⟨f3,f1,f4,f5⟩
 exact fin
end
section
variable {prog:Program} {w:World} {A:Around} {R:Result->Shared->Prop} {s:Shared}
theorem jU {elt target iter:Expr} {ifs:List Expr} {scope:Scope} {pos:Pos} {it acc:Value} {env:Env} (I:Nat->Shared->Prop)
  (turn:∀ n s E,I n s->wpAny (model prog w) A (pyNext it) (fun r s₁=>match r with
   | none=>R (.ok .next) s₁
   | some v=>wpAny (model prog w) A (letOwnedTupleGo target it v) (fun _ s₂=>wpAny (model prog w) A (assign target env v) (fun _ s₃ =>
     wpAny (model prog w) A (forIn ifs true fun c r=>if r=true then do let ok <- isTrue c env (eval c env);pure (ForInStep.yield ok) else pure (ForInStep.yield r)) (fun ok s₄ =>
      if ok=true then wpAny (model prog w) A (eval elt env) (fun x s₅=>wpAny (model prog w) A (call (.builtin "list.append") [acc,x]) (fun _ s₆=>∃ m,m<n/\I m s₆) E s₅) E s₄
      else ∃ m,m<n/\I m s₄) E s₃) E s₂) E s₁) E s)
  (n:Nat) (h:I n s):codeAny (model prog w) A (.compLoop (.ListComp elt [⟨target,iter,ifs,0⟩] scope pos) 0 it acc env) R s:=by
 refine codeAny_loop rfl I (fun n s hI=>?_) n h;show wpAny _ A ((compTurn (.ListComp elt [⟨target,iter,ifs,0⟩] scope pos) 0 it acc env).onRaise (fun x=>do noteFrame x env;theTreesLotGoes x)) _ _ s;refine wpAny_noted ?_;rw [compTurn_list];refine jB (wpAny_standAt (jB (wpAny_mono (turn n s _ hI) (fun r s₁ h₁=>?_) fun _ _ h'=>h')))
 cases r with
 | none=>exact jP h₁
 | some v =>
  refine jB (wpAny_mono h₁ (fun _ s₂ h₂=>?_) fun _ _ h'=>h')
  refine jB (wpAny_mono h₂ (fun _ s₃ h₃=>jB (wpAny_mono h₃ (fun ok s₄ h₄=>?_) fun _ _ h'=>h')) fun _ _ h'=>h')
  cases ok with
  | false=>exact jP ⟨rfl,h₄⟩
  | true =>
   exact jB (jB (wpAny_mono h₄ (fun x s₅ h₅=>jB (wpAny_mono h₅ (fun _ s₆ h₆=>jP (jP ⟨rfl,h₆⟩)) fun _ _ h'=>h')) fun _ _ h'=>h'))
end
def SameB (D:Addr) (H H':Hp):Prop:=∀ b o,b≠D->H b=some o->H' b=some o
theorem SameB.hid {D:Addr} {H H':Hp} {W:Addr->Prop} (h:SameB D H H') (hD:W D):Same (Pu.hid W H) (Pu.hid W H'):=fun b o q=>by
 unfold Pu.hid at q ⊢
 split at q
 ·cases q
 ·rename_i n
  rw [if_neg n];exact h b o (fun z=>n (z ▸ hD)) q
section
variable {X:Cx} {scope:Scope} {cl:List (Str×Addr)} {N:List Str} {tg iter elt:Expr} {ifs:List Expr} {pos:Pos} {t:Dg} {c:Dt} {e:De}
theorem Zz {C D:Addr} {s3 s4:Shared} {H3:Hp} {fp:List Addr} {it:Addr} {J:It} {tn:Nat->Heap->Prop} {σ0:SS} {ρ0:En} {W:Addr->Prop} {G:Hp} {vs out:List PV} {R:Result->Shared->Prop}
  (hcalm:X.calm=true) (T:Turn X.prog X.w X.K tg J fp it tn) (hg:DG (zT X scope cl N C s3 H3 fp) tg t) (hif:DIf (zT X scope cl N C s3 H3 fp) ifs c) (he:DE (zT X scope cl N C s3 H3 fp) elt e)
  (J0:L2.Inv (zT X scope cl N C s3 H3 fp) [] σ0 H3 s4) (st:tn 0 s4.heap) (fr:∀ b∈fp,H3 b=none) (hD:H3 D=some (.lst [])) (hWD:W D) (er:ER X.K W H3 σ0 ρ0) (hw:∀ v ρ1,t v ρ0=.ok ρ1->Ext ρ0 ρ1) (hv:∀ (i:Nat) (s:Sl),ρ0[i]?=some (some s)->(∃ v,s=.val v)\/∃ v,s=.fdc v)
  (hG:Same G (hid W H3)) (hit:ZT X.K G J vs) (hz:vs.length<=sizeLine) (ho:yR t c e ρ0 vs=.ok out)
  (hR:∀ s' σ' H' ys,L2.Inv (zT X scope cl N C s3 H3 fp) [] σ' H' s'->H' D=some (.lst ys)->Reps X.K (hid W H') out ys->SameB D H3 H'->R (.ok .next) s') :
  codeAny (model X.prog X.w) X.A (.compLoop (.ListComp elt [⟨tg,iter,ifs,0⟩] scope pos) 0 (.ref it) (.ref D) (compEnvC scope cl C X.env)) R s4:=by
 generalize hY:zT X scope cl N C s3 H3 fp=Y at *;have yp:Y.prog=X.prog:=by rw [<- hY];rfl
 have yw:Y.w=X.w:=by rw [<- hY];rfl
 have yK:Y.K=X.K:=by rw [<- hY];rfl
 have yA:Y.A=X.A:=by rw [<- hY];rfl
 have yx:Y.xe=fun _ _=>False:=by rw [<- hY];rfl
 have yc:Y.calm=true:=by rw [<- hY];exact hcalm
 have yex:Y.ex=fp:=by rw [<- hY];rfl
 have ypn:Y.pn=[]:=by rw [<- hY];rfl
 have yenv:Y.env=compEnvC scope cl C X.env:=by rw [<- hY];rfl
 rw [<- yK] at er hit hR;rw [<- yp,<- yw,<- yK] at T;rw [<- yp,<- yw,<- yA,<- yenv];have stat:∀ {H':Hp},(∀ b∈fp,H' b=none)->∀ b∈fp,wW Y [] H' b:=fun hn b hb=>by
  have h1:=J0.ok.exf b (by rw [yex];exact hb);exact ⟨hn b hb,h1.1,J0.ok.exfs b (by rw [yex];exact hb),.inl (by rw [yex];exact hb),h1.2,fun p hp=>by rw [ypn] at hp;exact absurd hp (by simp)⟩
 refine jU (fun n s'=>∃ i σ H ys acc rest,n=vs.length-i+1/\i<=vs.length/\L2.Inv Y [] σ H s'/\tn i s'.heap/\(∀ b∈fp,H b=none)/\H D=some (.lst ys)/\Reps Y.K (hid W H) acc ys/\yR t c e ρ0 (vs.drop i)=.ok rest/\out=acc++rest /\
  SameB D H3 H/\ER Y.K W H σ ρ0/\ys.length<=i) ?_ (vs.length+1) ⟨0,σ0,H3,[],[],out,by simp,Nat.zero_le _,J0,st,fr,hD,Reps.nil.mpr rfl,ho,rfl,fun _ _ _ q=>q,er,Nat.le_refl _⟩
 rintro n s5 E ⟨i,σ,H,ys,acc,rest,rfl,hi,I5,st5,fr5,hD5,hys,hrest,hout,same,er5,hyl⟩;have hGH:Same G (hid W H):=fun b o q=>same.hid hWD b o (hG b o q)
 have hGH':Same G H:=hGH.trans hid_sub
 by_cases hlt:i<vs.length
 ·
  have ev:vs[i]?=some vs[i]:=by simp [hlt]
  have edr:vs.drop i=vs[i]::vs.drop (i+1):=List.drop_eq_getElem_cons hlt;obtain ⟨go,yl⟩:=(hit i H hGH').1 vs[i] ev;rw [edr,yR] at hrest;cases et:t vs[i] ρ0 with
  | exc x=>rw [et] at hrest;cases hrest
  | bad=>rw [et] at hrest;cases hrest
  | ok ρ1 =>
  rw [et,Res.bind_ok] at hrest;cases ec:c ρ1 with
  | exc x=>rw [ec] at hrest;cases hrest
  | bad=>rw [ec] at hrest;cases hrest
  | ok b =>
  rw [ec,Res.bind_ok] at hrest;refine wpAny_mono (T.item Y rfl rfl rfl yc i [] s5 σ H E I5 (stat fr5) st5 go) (fun r s6 ⟨u,hr,h6⟩=>?_) fun _ _ q=>q
  subst hr;refine wpAny_mono h6 (fun _ s7 ⟨x,H7,I7,r7,y7,st7,fr7⟩=>?_) fun _ _ q=>q
  obtain ⟨s57,rp⟩:=yl x H7 y7;have rep7:=rp W er5.trk hGH;have I7':=I7.pinned (stat fr7) (T.obj _ _ st7);have er7:=er5.mono s57;have again:∀ {σ':SS} {H':Hp} {s':Shared},L2.Inv Y ([]++Zj fp s7.heap) σ' H' s'->L2.Inv Y [] σ' H' s'/\tn (i+1) s'.heap/\∀ b∈fp,H' b=none:=fun {σ' H' s'} K9=>by
   refine ⟨K9.unpinned,T.keep _ _ _ st7 fun b hb o q=>(K9.pin (b,o) (List.mem_append_right _ (List.mem_append_right _ (xx hb q)))).1,fun b hb=>?_⟩
   obtain ⟨o,q,d⟩:=T.obj _ _ st7 b hb;exact (K9.pin (b,o) (List.mem_append_right _ (List.mem_append_right _ (xx hb q)))).2.1
  have hg':=hg _ s7 σ H7 x u (fun σ8 H8=>H8=H7/\ER Y.K W H7 σ8 ρ1) I7' r7 ⟨W,ρ0,vs[i],er7,rep7,ρ1,et,fun σ8 q _=>⟨rfl,q⟩⟩
  rw [yx] at hg';refine wpAny_mono hg' (fun _ s8 ⟨σ8,H8,I8,e8,er8⟩=>?_) fun _ _ q=>q.elim
  subst e8;have hif':=hif _ s8 σ8 H8 (fun b' H9=>b'=b/\Same H8 H9) I8 ⟨W,ρ1,er8,by rw [ec];exact fun H9 s9=>⟨rfl,s9⟩⟩
  rw [yx] at hif';refine wpAny_mono hif' (fun b' s9 ⟨H9,I9,eb,s89⟩=>?_) fun _ _ q=>q.elim
  subst eb;have er9:=er8.mono s89;have hext:=hw vs[i] ρ1 et;have hD9:H9 D=some (.lst ys):=s89 _ _ (s57 _ _ hD5);have same9:SameB D H3 H9:=fun b o hb q=>s89 _ _ (s57 _ _ (same b o hb q))
  cases b' with
  | false =>
   simp only [Bool.false_eq_true,if_false] at hrest ⊢;obtain ⟨k1,k2,k3⟩:=again I9;exact ⟨vs.length-(i+1)+1,by lia,i+1,σ8,H9,ys,acc,rest,rfl,hlt,k1,k2,k3,hD9,hys.mono (zD (s57.trans s89)),hrest,hout,same9,er9.weak hext,Nat.le_succ_of_le hyl⟩
  | true =>
   simp only [if_true] at hrest ⊢;cases ee:e ρ1 with
   | exc x=>rw [ee] at hrest;cases hrest
   | bad=>rw [ee] at hrest;cases hrest
   | ok xv =>
   rw [ee,Res.bind_ok] at hrest;cases er':yR t c e ρ0 (vs.drop (i+1)) with
   | exc x=>rw [er'] at hrest;cases hrest
   | bad=>rw [er'] at hrest;cases hrest
   | ok rest' =>
   rw [er',Res.bind_ok] at hrest;cases hrest;have he':=he _ s9 σ8 H9 (fun z H10=>Same H9 H10/\Rep Y.K (hid W H10) xv z) I9 ⟨W,ρ1,er9,by rw [ee];exact fun z H10 s10 rz=>⟨s10,rz⟩⟩
   rw [yx] at he';refine wpAny_mono he' (fun z s10 ⟨zv,H10,I10,rz,s910,rep10⟩=>?_) fun _ _ q=>q.elim
   have hD10:=s910 _ _ hD9;have hap:=qy (X:=Y) _ s10 σ8 H10 (.ref D) [zv] (.ref D) [z] (fun _ H11=>H11=upd H10 D (.lst (ys++[zv]))) I10 rfl (.cons rz .nil) ⟨D,ys,zv,rfl,rfl,hD10,by lia,rfl⟩
   rw [yx] at hap;refine wpAny_mono hap (fun _ s11 ⟨_,H11,I11,_,e11⟩=>?_) fun _ _ q=>q.elim
   subst e11;obtain ⟨k1,k2,k3⟩:=again I11;have sb:SameB D H10 (upd H10 D (.lst (ys++[zv]))):=fun b o hb q=>by rw [zu hb];exact q
   have tot:SameB D H (upd H10 D (.lst (ys++[zv]))):=fun b o hb q=>sb b o hb (s910 _ _ (s89 _ _ (s57 _ _ q)))
   refine ⟨vs.length-(i+1)+1,by lia,i+1,σ8,_,ys++[zv],acc++[xv],rest',rfl,hlt,k1,k2,k3,zE,?_,er',by rw [hout];simp,fun b o hb q=>tot b o hb (same b o hb q),?_,by simp;lia⟩
   ·exact (hys.mono (tot.hid hWD)).snoc (rep10.mono (sb.hid hWD))
   ·have er10:=(er9.mono s910).weak hext;refine ⟨er10.len,fun j sl q=>?_,fun a wa z=>?_⟩
    ·obtain ⟨y,h1,h2⟩:=er10.val j sl q;refine ⟨y,h1,?_⟩
     rcases hv j sl q with ⟨v,rfl⟩ | ⟨v,rfl⟩
     ·exact Rep.mono (sb.hid hWD) (show Rep Y.K (hid W H10) v y from h2)
     ·obtain ⟨a,o,ys,h3,h4,h5⟩:=h2;exact ⟨a,o,ys,h3,sb.hid hWD _ _ h4,DR.mono (sb.hid hWD) h5⟩
    ·by_cases ha:a=D
     ·subst ha;rw [zE] at z;cases z
     ·rw [zu ha] at z;exact er10.trk a wa z
 ·
  have hie:i=vs.length:=by lia
  subst hie;have stop:=(hit vs.length H hGH').2 rfl;rw [List.drop_length,yR] at hrest;cases hrest;rw [List.append_nil] at hout;subst hout;refine wpAny_mono (T.done Y rfl rfl rfl yc _ [] s5 σ H E I5 (stat fr5) st5 stop) (fun r s6 ⟨hr,I6⟩=>?_) fun _ _ q=>q
  subst hr;exact hR s6 σ H ys I6 hD5 hys same
theorem jW {k:Nat} {idx:List Nat} {ρ:En} (i:Nat) (s:Sl) (h:(zV k idx ρ)[i]?=some (some s)):(∃ v,s=.val v)\/∃ v,s=.fdc v:=by
 unfold zV at h
 by_cases hi:i<k
 ·rw [List.getElem?_append_left (by simpa using hi),List.getElem?_replicate,if_pos hi] at h;cases h
 ·rw [List.getElem?_append_right (by simpa using hi),List.getElem?_map,List.length_replicate] at h;cases e:idx[i-k]? with
  | none=>rw [e] at h;cases h
  | some j =>
   rw [e] at h;have q:GW ρ[j]?=some s:=by simpa using h
   unfold GW at q
   split at q
   ·cases q;exact .inl ⟨_,rfl⟩
   ·cases q;exact .inr ⟨_,rfl⟩
   ·cases q
variable {k:Nat} {idx:List Nat} {di:Di}
theorem Sm (ok:CompOk X scope cl k idx N) (hcalm:X.calm=true) (hi:DI X tg iter di) (hw:∀ ρ v ρ1,t v (zV k idx ρ)=.ok ρ1->Ext (zV k idx ρ) ρ1)
  (hg:∀ cl C s3 H3 fp,DG (zT X scope cl N C s3 H3 fp) tg t) (hif:∀ cl C s3 H3 fp,DIf (zT X scope cl N C s3 H3 fp) ifs c) (he:∀ cl C s3 H3 fp,DE (zT X scope cl N C s3 H3 fp) elt e)
  (hs:∀ x,foldedSetIterable iter X.env x=pure x:=by intro _;rfl):DE X (.ListComp elt [⟨tg,iter,ifs,0⟩] scope pos) (zC di k idx t c e):=by
 intro pins s σ H Q I ⟨W,ρ,er,h⟩;rw [eval_ListComp];have hfin:FinI X W H (fun J H2=>∃ vs out,vs.length<=sizeLine/\yR t c e (zV k idx ρ) vs=.ok out/\ZT X.K (hid W H2) J vs/\Same H H2/\OkQ X.K W H Q (.lst out)) (di ρ):=by
  unfold zC at h;cases ed:di ρ with
  | exc x=>rw [ed] at h;exact h
  | bad=>rw [ed] at h;exact h.elim
  | ok vs =>
   rw [ed,Res.bind_ok] at h
   by_cases hz:vs.length<=sizeLine
   ·rw [if_pos hz] at h;cases eo:yR t c e (zV k idx ρ) vs with
    | exc x=>rw [eo] at h;exact h.elim
    | bad=>rw [eo] at h;exact h.elim
    | ok out =>
     rw [eo] at h;exact fun J H2 s2 it=>⟨vs,out,hz,eo,it,s2,h⟩
   ·rw [if_neg hz] at h;exact h.elim
 refine wpAny_comprehension_free (use:=none) rfl hs ok.clos ok.kind ok.loc ?_;refine thn (hi pins s σ H _ I ⟨W,ρ,er,hfin⟩) fun v s1 h1=>thn h1 fun itv s2 h2=>?_
 obtain ⟨it,fp,tn,J,H2,rfl,I2,T,st2,f2,vs,out,hz,ho,hit,s02,q⟩:=h2;have hfp2:∀ b∈fp,b<s2.heap.objs.size:=fun b hb=>by
  obtain ⟨o,e1,_⟩:=T.obj 0 _ st2 b hb;exact jH e1
 refine wpAny_newObj_type ?_;have I3:L2.Inv X pins σ (upd H2 s2.heap.objs.size (.lst [])) {s2 with heap:=s2.heap.push {cls:=.type "list",data:=.seq ([]:List Value).toArray}}:=I2.lnew (t':=s2.toks) (its:=[]) .nil (Nat.zero_le _)
 have hn2:H2 s2.heap.objs.size=none:=I2.fresh;generalize hs3:({s2 with heap:=s2.heap.push {cls:=.type "list",data:=.seq ([]:List Value).toArray}}:Shared)=s3 at *
 have k23:∀ b o,s2.heap.get? b=some o->s3.heap.get? b=some o:=fun b o e=>by rw [<- hs3];exact jG _ e
 have sz3:s3.heap.objs.size=s2.heap.objs.size+1:=by rw [<- hs3];exact Heap.size_push ..
 generalize hD:s2.heap.objs.size=D at *;have neD:∀ b,b<D->b≠D:=fun b hb=>Nat.ne_of_lt hb
 have hfp3:∀ b∈fp,wW X pins (upd H2 D (.lst [])) b/\b<s3.heap.objs.size:=fun b hb=>by
  obtain ⟨a0,a1⟩:=f2 b hb;exact ⟨⟨by rw [zu (neD b (hfp2 b hb))];exact a0,a1⟩,by rw [sz3];exact Nat.lt_succ_of_lt (hfp2 b hb)⟩
 show wpAny _ _ (newFunctionEnv scope X.env.globals cl [] X.env.qual none .none (some X.env)) _ _ s3;refine yr ?_;have hblk:=qO s3 scope.names;have hns:=(Heap.Ns.new s3.heap (.type "dict")).keeps (pushCells_keeps scope.names _);have k34:∀ b o,s3.heap.get? b=some o->(pushCells (s3.heap.push {cls:=.type "dict",data:=.dict #[]}) scope.names).get? b=some o:=fun b o e=>pushCells_keeps _ _ b o (jG _ e)
 generalize pushCells (s3.heap.push {cls:=.type "dict",data:=.dict #[]}) scope.names=h4 at hblk hns k34 ⊢;have J0:=jJ (t:=s3.toks) ok I3 hfp3 hns k34 hblk;have er2:=er.mono s02;have sD:Same H2 (upd H2 D (.lst [])):=yv hn2;have nWD:¬ W D:=er2.new hn2;have hGs:Same (hid W H2) (hid (fun a=>W a\/a=D) (upd H2 D (.lst []))):=fun b o z=>by
  have z1:=hid_sub b o z;have hb:b≠D:=fun y=>by rw [y,hn2] at z1;cases z1
  unfold hid at z ⊢
  split at z
  ·cases z
  ·rename_i nb
   rw [if_neg (fun y=>y.elim nb hb),zu hb];exact z1
 have erC:=Yh (k:=k) (idx:=idx) er2 hGs (fun a wa=>by
  rcases wa with wa | rfl
  ·by_cases ha:a=D
   ·rw [ha,zE];simp
   ·rw [zu ha];exact er2.trk a wa
  ·rw [zE];simp)
 have st4:tn 0 h4:=T.keep _ _ _ st2 fun b hb o e=>k34 b o (k23 b o e)
 have loop:∀ s4:Shared,s4={s3 with heap:=h4,toks:=s3.toks} ->
   codeAny (model X.prog X.w) X.A (.compLoop (.ListComp elt [⟨tg,iter,ifs,0⟩] scope pos) 0 (.ref it) (.ref D) (compEnvC scope (cellsFrom (s3.heap.objs.size+1) scope.names cl) s3.heap.objs.size X.env)) (compPost (model X.prog X.w) X.A X.xe none (EP X pins σ Q) (.ref D) s3.heap.objs.size) s4:=by
  rintro s4 rfl;refine Zz (W:=fun a=>W a\/a=D) (G:=hid W H2) hcalm T (hg _ _ _ _ _) (hif _ _ _ _ _) (he _ _ _ _ _) J0 st4 (fun b hb=>(hfp3 b hb).1.1) zE (.inr rfl) erC (hw ρ) jW hGs hit hz ho ?_
  intro s' σ' H' ys Jn hDn hys same;obtain ⟨m',hn',_⟩:=Jn.loc;refine ⟨m',hn',fun h' hsb'=>?_⟩
  have fin:=qL I3 hfp3 Jn hsb';have sH:Same H H':=fun b o z=>by
   have z2:=s02 b o z;have hb:b≠D:=fun y=>by rw [y,hn2] at z2;cases z2
   exact same b o hb (sD b o z2)
  refine ⟨.ref D,H',fin,rfl,q _ H' sH ?_⟩;have lift:Same (hid (fun a=>W a\/a=D) H') (hid W H'):=vw fun a wa=>.inl wa
  exact Rep.lst (.inl (.inl (xf nWD hDn))) (hys.mono lift)
 exact codeAny_compStart_list (loop _ rfl) (T.self _ 0 _ _ _ st4 (loop _ rfl))
end
inductive Kd where
 | L | T
def IsIt (k:Kd) (h:Heap) (it a:Addr) (i:Nat):Prop:=match k with
 | .L=>h.IsListIter it a i
 | .T=>h.IsTupleIter it a i
def IsSq (k:Kd) (h:Heap) (a:Addr) (xs:Array Value):Prop:=match k with
 | .L=>h.IsList a xs
 | .T=>h.IsTuple a xs
theorem IsIt.to {k:Kd} {h h':Heap} {it a:Addr} {i:Nat} (x:IsIt k h it a i) (e:∀ o,h.get? it=some o->h'.get? it=some o):IsIt k h' it a i:=by
 cases k with
 | L=>exact Heap.IsListIter.at x e
 | T=>exact Heap.IsTupleIter.at x e
theorem IsSq.to {k:Kd} {h h':Heap} {a:Addr} {xs:Array Value} (x:IsSq k h a xs) (e:∀ o,h.get? a=some o->h'.get? a=some o):IsSq k h' a xs:=by
 cases k with
 | L=>obtain ⟨o,ho,r⟩:=x;exact ⟨o,e o ho,r⟩
 | T=>obtain ⟨o,ho,r⟩:=x;exact ⟨o,e o ho,r⟩
theorem IsIt.lt {k:Kd} {h:Heap} {it a:Addr} {i:Nat} (x:IsIt k h it a i):it<h.objs.size:=by
 cases k with
 | L=>obtain ⟨o,ho,r⟩:=x;exact jH ho
 | T=>obtain ⟨o,ho,r⟩:=x;exact jH ho
section
variable {prog:Program} {w:World} {A:Around} {E:Value->Shared->Prop} {s:Shared}
theorem Jo {it t:Addr} {i:Nat} {xs:Array Value} {x:Value} {Q:Value->Shared->Prop} (h1:s.heap.IsTupleIter it t i) (h2:s.heap.IsTuple t xs) (hx:xs[i]?=some x)
  (q:∀ h',h'.IsTupleIter it t (i+1)->Heap.SameBut it s.heap h'->Q x {s with heap:=h'}):wpAny (model prog w) A (Builtin.SmallTypes.nextOf (.ref it)) Q E s:=by
 obtain ⟨o,ho,hc,hd⟩:=id h1;obtain ⟨ot,hot,_,nt,hdt⟩:=h2;unfold Builtin.SmallTypes.nextOf;refine jB (wpAny_callSpecial?_slot (name:=Str.ofString "__next__") h1.typeIs F.slot_tuple_iterator_next (wpAny_call_entry F.slot_tuple_iterator_next h1.typeIs F.entry_tuple_iterator_next ?_ (F.args_tuple_iterator_next_1 _)));refine jB (m:=field (.ref it) 0) (wpAny_field ho hd (x:=.ref t) rfl ?_);show wpAny (model prog w) _ (if (Value.ref t==Value.none)=true then _ else _) _ E s
 rw [if_neg (show ¬ (Value.ref t==Value.none)=true from Bool.false_ne_true)]
 refine jB (m:=field (.ref it) 1) (wpAny_field ho hd (x:=.int i 0) rfl ?_);refine jB (m:=seqItems? (.ref t)) (wpAny_seqItems hot hdt ?_);simp only [Int.toNat_natCast,hx];refine jB (wpAny_setField ho hd (by simp) (jP ⟨x,rfl,jP (q _ ⟨_,Heap.get?_update_self _ ho (Obj.isFreed_of_fields (Obj.data_mapFields hd _)),(Obj.cls_mapFields ..).trans hc,?_⟩ (Heap.SameBut.update ..))⟩));rw [Obj.data_mapFields hd];simp [rawInt]
theorem BM {Q:PySem.Fin->Shared->Prop} (hh:A.handled=none) (q:∀ h' e,(∀ b o,s.heap.get? b=some o->h'.get? b=some o)->(∃ o,h'.get? e=some o/\o.cls=.type "StopIteration")->E (.ref e) {s with heap:=h'}) :
  wpAny (model prog w) A.in1 Builtin.SmallTypes.stopIteration Q E s:=by
 refine jB (m:=newExc (.type "StopIteration") []) ?_;simp only [newExc,newTuple];refine jB (wpAny_newObj_type (jB (m:=firstArgMember _ _) (wpAny_of_eq (a:=Value.none) (by first | rfl | (simp only [firstArgMember];rfl)) (wpAny_newObj_type ?_ (by size_fits)))) (by size_fits))
 simp only [raiseNew];refine jB (wpAny_handled ?_);rw [show A.in1.handled=none from hh]
 exact jB (jP (wpAny_throw (q _ _ (fun b o e=>jG _ (jG _ e)) ⟨_,Heap.get?_push_size _ rfl,rfl⟩)))
theorem YM {it t:Addr} {i:Nat} {xs:Array Value} {Q:Value->Shared->Prop} (hh:A.handled=none) (h1:s.heap.IsTupleIter it t i) (h2:s.heap.IsTuple t xs) (hx:xs[i]?=none)
  (q:∀ h' e,Heap.ExtBut it s.heap h'->(∃ o,h'.get? e=some o/\o.cls=.type "StopIteration")->E (.ref e) {s with heap:=h'}):wpAny (model prog w) A (Builtin.SmallTypes.nextOf (.ref it)) Q E s:=by
 obtain ⟨o,ho,hc,hd⟩:=id h1;obtain ⟨ot,hot,_,nt,hdt⟩:=h2;unfold Builtin.SmallTypes.nextOf;refine jB (wpAny_callSpecial?_slot (name:=Str.ofString "__next__") h1.typeIs F.slot_tuple_iterator_next (wpAny_call_entry F.slot_tuple_iterator_next h1.typeIs F.entry_tuple_iterator_next ?_ (F.args_tuple_iterator_next_1 _)));refine jB (m:=field (.ref it) 0) (wpAny_field ho hd (x:=.ref t) rfl ?_);show wpAny (model prog w) _ (if (Value.ref t==Value.none)=true then _ else _) _ E s
 rw [if_neg (show ¬ (Value.ref t==Value.none)=true from Bool.false_ne_true)]
 refine jB (m:=field (.ref it) 1) (wpAny_field ho hd (x:=.int i 0) rfl ?_);refine jB (m:=seqItems? (.ref t)) (wpAny_seqItems hot hdt ?_);simp only [Int.toNat_natCast,hx];refine jB (wpAny_rule (jB (wpAny_setField ho hd (by simp) ?_)));refine BM hh fun h' e k he=>q h' e (fun b ob hb eb=>k b ob ((Heap.SameBut.update s.heap it _).extBut b ob hb eb)) he
theorem Zw {k:Kd} {it l:Addr} {i:Nat} {xs:Array Value} {x:Value} {Q:Value->Shared->Prop} (h1:IsIt k s.heap it l i) (h2:IsSq k s.heap l xs) (hx:xs[i]?=some x)
  (q:∀ h',IsIt k h' it l (i+1)->Heap.SameBut it s.heap h'->Q x {s with heap:=h'}):wpAny (model prog w) A (Builtin.SmallTypes.nextOf (.ref it)) Q E s:=by
 cases k with
 | L=>exact wpAny_nextOf_list_item h1 h2 hx q
 | T=>exact Jo h1 h2 hx q
theorem UN {k:Kd} {it l:Addr} {i:Nat} {xs:Array Value} {Q:Value->Shared->Prop} (hh:A.handled=none) (h1:IsIt k s.heap it l i) (h2:IsSq k s.heap l xs) (hx:xs[i]?=none)
  (q:∀ h' e,Heap.ExtBut it s.heap h'->(∃ o,h'.get? e=some o/\o.cls=.type "StopIteration")->E (.ref e) {s with heap:=h'}):wpAny (model prog w) A (Builtin.SmallTypes.nextOf (.ref it)) Q E s:=by
 cases k with
 | L=>exact wpAny_nextOf_list_end hh h1 h2 hx q
 | T=>exact YM hh h1 h2 hx q
theorem Kl {k:Kd} {l:Addr} {xs:Array Value} {Q:Value->Shared->Prop} (h2:IsSq k s.heap l xs) (q:∀ h',h'.objs.size=s.heap.objs.size+1->IsIt k h' s.heap.objs.size l 0->(∀ b o,s.heap.get? b=some o->h'.get? b=some o)->Q (.ref s.heap.objs.size) {s with heap:=h'}) :
  wpAny (model prog w) A (pyIter (.ref l)) Q E s:=by
 cases k with
 | L=>exact wpAny_pyIter_list h2 (q _ (Heap.size_push ..) ⟨_,Heap.get?_push_size _ rfl,rfl,rfl⟩ fun b o e=>jG _ e)
 | T=>exact wpAny_pyIter_tuple h2 (q _ (Heap.size_push ..) ⟨_,Heap.get?_push_size _ rfl,rfl,rfl⟩ fun b o e=>jG _ e)
structure Zp (k1 k2:Kd) (h:Heap) (z TI TO i1 i2 l1 l2:Addr) (f0:Value) (n1 n2:Nat):Prop where
 zz:IsZip h z TI TO f0
 ti:IsPair h TI (.ref i1) (.ref i2)
 to:∃ a b,IsPair h TO a b
 t1:IsIt k1 h i1 l1 n1
 t2:IsIt k2 h i2 l2 n2
structure Ap (z TI TO i1 i2 l1 l2:Addr):Prop where
 a1:TI≠z
 a2:TO≠z
 a3:i1≠z
 a4:i2≠z
 a5:TO≠i1
 a6:TO≠i2
 a7:i1≠i2
 b1:l1≠z
 b2:l1≠TO
 b3:l1≠i1
 b4:l1≠i2
 c1:l2≠z
 c2:l2≠TO
 c3:l2≠i1
 c4:l2≠i2
 d1:TI≠TO
 d2:TI≠i1
 d3:TI≠i2
theorem Me {k1 k2:Kd} {z TI TO i1 i2 l1 l2:Addr} {n1 n2:Nat} {xs ys:Array Value} {x y:Value} {Q:Value->Shared->Prop} (D:Ap z TI TO i1 i2 l1 l2) (Z:Zp k1 k2 s.heap z TI TO i1 i2 l1 l2 .none n1 n2)
  (g1:IsSq k1 s.heap l1 xs) (g2:IsSq k2 s.heap l2 ys) (hx:xs[n1]?=some x) (hy:ys[n2]?=some y)
  (q:∀ h',Zp k1 k2 h' z TI TO i1 i2 l1 l2 (rawInt s.heap.objs.size) (n1+1) (n2+1)->IsPair h' s.heap.objs.size x y->h'.objs.size=s.heap.objs.size+1 ->
   (∀ c o,c≠z->c≠TO->c≠i1->c≠i2->s.heap.get? c=some o->h'.get? c=some o)->Q (.ref s.heap.objs.size) {s with heap:=h'}) :
  wpAny (model prog w) A (Builtin.«zip.__next__» ⟨[.ref z],[]⟩) (fun fin s'=>∃ v,fin=.done (.ret v)/\Q v s') E s:=by
 obtain ⟨hz,hTI,⟨a,b,hTO⟩,h1,h2⟩:=Z;refine jB (m:=field (.ref z) 2) (wpAny_field hz rfl (x:=.bool false) rfl (jB (m:=field (.ref z) 3) (wpAny_field hz rfl (x:=.ref TI) rfl (jB (wpAny_seqItems hTI rfl ?_)))));refine jB (m:=Builtin.SmallTypes.ownedTupleIsFree (.ref z)) (jB (m:=field (.ref z) 0) (wpAny_field hz rfl (x:=.none) rfl (jP ?_)));simp only [if_true];refine jB (wpAny_rule (jB (wpAny_field hz rfl (x:=.ref TO) rfl (jB (wpAny_setField_rec hz (by simp) fun m1 zz1 e1=>jB ?_)))))
 replace zz1:IsZip m1 z TI TO .ellipsis:=zz1
 simp only [List.zipIdx_cons,List.zipIdx_nil,List.forIn_cons,List.forIn_nil];refine jB (jB (wpAny_onRaise (jB (m:=Builtin.SmallTypes.nextOf (.ref i1)) (Zw (h1.to fun o=>e1.extBut _ o D.a3) (g1.to fun o=>e1.extBut _ o D.b1) hx fun m2 t2 e2=>jP ?_))))
 have o2:IsPair m2 TO a b:=e2.extBut _ _ D.a5 (e1.extBut _ _ D.a2 hTO);refine jB (wpAny_seqItems o2 rfl (jB (wpAny_updateSeq_pair o2 fun m3 o3 e3=>jB (wpAny_letGo (jP ?_)))))
 replace o3:IsPair m3 TO x b:=o3
 refine jB (jB (wpAny_onRaise (jB (m:=Builtin.SmallTypes.nextOf (.ref i2)) (Zw (((h2.to fun o=>e1.extBut _ o D.a4).to fun o=>e2.extBut _ o D.a7.symm).to fun o=>e3.extBut _ o D.a6.symm)
  (((g2.to fun o=>e1.extBut _ o D.c1).to fun o=>e2.extBut _ o D.c3).to fun o=>e3.extBut _ o D.c2) hy fun m4 t4 e4=>jP ?_))))
 have o4:IsPair m4 TO x b:=e4.extBut _ _ D.a6 o3;refine jB (wpAny_seqItems o4 rfl (jB (wpAny_updateSeq_pair o4 fun m5 o5 e5=>jB (wpAny_letGo (jP (jP ?_))))))
 replace o5:IsPair m5 TO x y:=o5
 refine jB (wpAny_seqItems o5 rfl (jB (wpAny_newTuple ?_)));have sz:m5.objs.size=s.heap.objs.size:=by rw [e5.1,e4.1,e3.1,e2.1,e1.1]
 have z5:IsZip m5 z TI TO .ellipsis:=e5.extBut _ _ D.a2.symm (e4.extBut _ _ D.a4.symm (e3.extBut _ _ D.a2.symm (e2.extBut _ _ D.a3.symm zz1)));have kp:∀ c o,c≠z->c≠TO->c≠i1->c≠i2->s.heap.get? c=some o->m5.get? c=some o:=fun c o w1 w2 w3 w4 e=>e5.extBut _ _ w2 (e4.extBut _ _ w4 (e3.extBut _ _ w2 (e2.extBut _ _ w3 (e1.extBut _ _ w1 e))))
 have p1:IsIt k1 m5 i1 l1 (n1+1):=((t2.to fun o=>e3.extBut _ o D.a5.symm).to fun o=>e4.extBut _ o D.a7).to fun o=>e5.extBut _ o D.a5.symm
 have p2:IsIt k2 m5 i2 l2 (n2+1):=t4.to fun o=>e5.extBut _ o D.a6.symm
 have zl:z<m5.objs.size:=jH z5;refine jB (m:=Builtin.SmallTypes.ownedTupleHandOut (.ref z) (.ref m5.objs.size)) ?_;unfold Builtin.SmallTypes.ownedTupleHandOut;have z6:IsZip (m5.push {cls:=.type "tuple",data:=.seq #[x,y]}) z TI TO .ellipsis:=jG _ z5;refine jB (wpAny_setField_rec z6 (by simp) fun m7 z7 e7=>?_)
 replace z7:IsZip m7 z TI TO (rawInt m5.objs.size):=z7
 refine wpAny_setField_rec z7 (by simp) fun m8 z8 e8=>?_
 replace z8:IsZip m8 z TI TO (rawInt m5.objs.size):=z8
 have up:∀ c o,c≠z->m5.get? c=some o->m8.get? c=some o:=fun c o w1 e=>e8.extBut _ _ w1 (e7.extBut _ _ w1 (jG _ e))
 have pr:IsPair m8 m5.objs.size x y:=e8.extBut _ _ (Nat.ne_of_gt zl) (e7.extBut _ _ (Nat.ne_of_gt zl) (Heap.get?_push_size _ rfl));have s8:m8.objs.size=m5.objs.size+1:=by rw [e8.1,e7.1,Heap.size_push]
 rw [sz] at z8 pr s8;refine jP ⟨_,rfl,?_⟩;show Q (.ref m5.objs.size) _;rw [sz];exact q m8 ⟨z8,up _ _ D.a1 (kp _ _ D.a1 D.d1 D.d2 D.d3 hTI),⟨x,y,up _ _ D.a2 o5⟩,p1.to fun o=>up _ o D.a3,p2.to fun o=>up _ o D.a4⟩ pr s8 fun c o w1 w2 w3 w4 e=>up c o w1 (kp c o w1 w2 w3 w4 e)
theorem BB {k1 k2:Kd} {z TI TO i1 i2 l1 l2:Addr} {n1 n2:Nat} {xs ys:Array Value} {Q:PySem.Fin->Shared->Prop} (hh:A.handled=none) (D:Ap z TI TO i1 i2 l1 l2) (Z:Zp k1 k2 s.heap z TI TO i1 i2 l1 l2 .none n1 n2)
  (g1:IsSq k1 s.heap l1 xs) (g2:IsSq k2 s.heap l2 ys) (he:xs[n1]?=none\/ys[n2]?=none)
  (q:∀ h' e,(∀ c o,c≠z->c≠TO->c≠i1->c≠i2->s.heap.get? c=some o->h'.get? c=some o)->(∃ o,h'.get? e=some o/\o.cls=.type "StopIteration")->E (.ref e) {s with heap:=h'}) :
  wpAny (model prog w) A (Builtin.«zip.__next__» ⟨[.ref z],[]⟩) Q E s:=by
 obtain ⟨hz,hTI,⟨a,b,hTO⟩,h1,h2⟩:=Z;refine jB (m:=field (.ref z) 2) (wpAny_field hz rfl (x:=.bool false) rfl (jB (m:=field (.ref z) 3) (wpAny_field hz rfl (x:=.ref TI) rfl (jB (wpAny_seqItems hTI rfl ?_)))));refine jB (m:=Builtin.SmallTypes.ownedTupleIsFree (.ref z)) (jB (m:=field (.ref z) 0) (wpAny_field hz rfl (x:=.none) rfl (jP ?_)));simp only [if_true];refine jB (wpAny_rule (jB (wpAny_field hz rfl (x:=.ref TO) rfl (jB (wpAny_setField_rec hz (by simp) fun m1 zz1 e1=>jB ?_)))))
 replace zz1:IsZip m1 z TI TO .ellipsis:=zz1
 simp only [List.zipIdx_cons,List.zipIdx_nil,List.forIn_cons,List.forIn_nil];cases hx:xs[n1]? with
 | none =>
  refine jB (jB (wpAny_onRaise (jB (m:=Builtin.SmallTypes.nextOf (.ref i1)) (UN hh (h1.to fun o=>e1.extBut _ o D.a3) (g1.to fun o=>e1.extBut _ o D.b1) hx fun m2 e e2 hes=>?_))))
  obtain ⟨oe,hoe,hce⟩:=hes;have z2:IsZip m2 z TI TO .ellipsis:=e2 _ _ D.a3.symm zz1;have ez:e≠z:=fun u=>by subst u;rw [z2] at hoe;cases hoe;simp at hce
  exact wpAny_setField_rec z2 (by simp) fun m3 _ e3=>q m3 e (fun c o w1 _ w3 _ u=>e3.extBut _ _ w1 (e2 _ _ w3 (e1.extBut _ _ w1 u))) ⟨oe,e3.extBut _ _ ez hoe,hce⟩
 | some x =>
  have hy:ys[n2]?=none:=he.resolve_left (by rw [hx];simp);refine jB (jB (wpAny_onRaise (jB (m:=Builtin.SmallTypes.nextOf (.ref i1)) (Zw (h1.to fun o=>e1.extBut _ o D.a3) (g1.to fun o=>e1.extBut _ o D.b1) hx fun m2 t2 e2=>jP ?_))))
  have o2:IsPair m2 TO a b:=e2.extBut _ _ D.a5 (e1.extBut _ _ D.a2 hTO);refine jB (wpAny_seqItems o2 rfl (jB (wpAny_updateSeq_pair o2 fun m3 o3 e3=>jB (wpAny_letGo (jP ?_)))))
  refine jB (jB (wpAny_onRaise (jB (m:=Builtin.SmallTypes.nextOf (.ref i2)) (UN hh (((h2.to fun o=>e1.extBut _ o D.a4).to fun o=>e2.extBut _ o D.a7.symm).to fun o=>e3.extBut _ o D.a6.symm)
   (((g2.to fun o=>e1.extBut _ o D.c1).to fun o=>e2.extBut _ o D.c3).to fun o=>e3.extBut _ o D.c2) hy fun m4 e e4 hes=>?_))))
  obtain ⟨oe,hoe,hce⟩:=hes;have z4:IsZip m4 z TI TO .ellipsis:=e4 _ _ D.a4.symm (e3.extBut _ _ D.a2.symm (e2.extBut _ _ D.a3.symm zz1));have ez:e≠z:=fun u=>by subst u;rw [z4] at hoe;cases hoe;simp at hce
  exact wpAny_setField_rec z4 (by simp) fun m5 _ e5=>q m5 e (fun c o w1 w2 w3 w4 u=>e5.extBut _ _ w1 (e4 _ _ w4 (e3.extBut _ _ w2 (e2.extBut _ _ w3 (e1.extBut _ _ w1 u))))) ⟨oe,e5.extBut _ _ ez hoe,hce⟩
theorem Xe {k1 k2:Kd} {z TI TO i1 i2 l1 l2:Addr} {n1 n2:Nat} {xs ys:Array Value} {x y:Value} {Q:Option Value->Shared->Prop} (D:Ap z TI TO i1 i2 l1 l2) (Z:Zp k1 k2 s.heap z TI TO i1 i2 l1 l2 .none n1 n2)
  (g1:IsSq k1 s.heap l1 xs) (g2:IsSq k2 s.heap l2 ys) (hx:xs[n1]?=some x) (hy:ys[n2]?=some y)
  (q:∀ h',Zp k1 k2 h' z TI TO i1 i2 l1 l2 (rawInt s.heap.objs.size) (n1+1) (n2+1)->IsPair h' s.heap.objs.size x y->h'.objs.size=s.heap.objs.size+1 ->
   (∀ c o,c≠z->c≠TO->c≠i1->c≠i2->s.heap.get? c=some o->h'.get? c=some o)->Q (some (.ref s.heap.objs.size)) {s with heap:=h'}):wpAny (model prog w) A (pyNext (.ref z)) Q E s:=by
 have hT:s.TypeIs (.ref z) "zip" := ⟨_,Z.zz,rfl⟩;unfold pyNext;exact jB (wpAny_attempt (wpAny_callSpecial?_slot (name:=Str.ofString "__next__") hT F.slot_zip_next (wpAny_call_entry F.slot_zip_next hT F.entry_zip_next
  (Me D Z g1 g2 hx hy fun h' a1 a2 a3 a4=>jP (q h' a1 a2 a3 a4)) (F.args_zip_next_1 _))))
theorem WX {k1 k2:Kd} {z TI TO i1 i2 l1 l2:Addr} {n1 n2:Nat} {xs ys:Array Value} {Q:Option Value->Shared->Prop} (hh:A.handled=none) (D:Ap z TI TO i1 i2 l1 l2) (Z:Zp k1 k2 s.heap z TI TO i1 i2 l1 l2 .none n1 n2)
  (g1:IsSq k1 s.heap l1 xs) (g2:IsSq k2 s.heap l2 ys) (he:xs[n1]?=none\/ys[n2]?=none)
  (q:∀ h',(∀ c o,c≠z->c≠TO->c≠i1->c≠i2->s.heap.get? c=some o->h'.get? c=some o)->Q none {s with heap:=h'}):wpAny (model prog w) A (pyNext (.ref z)) Q E s:=by
 have hT:s.TypeIs (.ref z) "zip" := ⟨_,Z.zz,rfl⟩;unfold pyNext;refine jB (wpAny_attempt (wpAny_callSpecial?_slot (name:=Str.ofString "__next__") hT F.slot_zip_next (wpAny_call_entry F.slot_zip_next hT F.entry_zip_next (BB hh D Z g1 g2 he fun h' e hk hes=>?_) (F.args_zip_next_1 _))));obtain ⟨o,ho,hc⟩:=hes;exact jB (wpAny_isInstance (T := "StopIteration") (b:=true) ⟨o,ho,hc⟩ isSubtype_stop (jP (q _ hk)))
def AD:Kd->String
 | .L => "list_iterator"
 | .T => "tuple_iterator"
abbrev itO (k:Kd) (l:Addr):Obj:={cls:=.type (AD k),data:=.fields #[.ref l,.int 0 0]}
abbrev zq2 (k1 k2:Kd) (h:Heap) (l1 l2:Addr):Heap:=(h.push (itO k1 l1)).push (itO k2 l2)
abbrev zq4 (k1 k2:Kd) (h:Heap) (l1 l2:Addr):Heap:=((zq2 k1 k2 h l1 l2).push {cls:=.type "tuple",data:=.seq #[.ref h.objs.size,.ref (h.push (itO k1 l1)).objs.size]}).push {cls:=.type "tuple",data:=.seq #[.none,.none]}
abbrev zq5 (k1 k2:Kd) (h:Heap) (l1 l2:Addr):Heap:=(zq4 k1 k2 h l1 l2).push {cls:=.type "zip",data:=.fields #[.none,.bool false,.bool false,.ref (zq2 k1 k2 h l1 l2).objs.size,.ref ((zq2 k1 k2 h l1 l2).push {cls:=.type "tuple",data:=.seq #[.ref h.objs.size,.ref (h.push (itO k1 l1)).objs.size]}).objs.size]}
set_option maxHeartbeats 8000000 in
theorem Mc (k1 k2:Kd) (l1 l2:Addr) (xs ys:Array Value) :
  Meets (Builtin.«zip.__new__» ⟨[.type "zip",.ref l1,.ref l2],[]⟩) (fun _ R s=>IsSq k1 s.heap l1 xs/\IsSq k2 s.heap l2 ys/\R (.ok (.ret (.ref (zq4 k1 k2 s.heap l1 l2).objs.size))) {s with heap:=zq5 k1 k2 s.heap l1 l2}) :=
 .of_wp fun prog w A R s h=>by
  obtain ⟨hp,g,d,tk,os⟩:=s;obtain ⟨hl1,hl2,h⟩:=h;have hsub:=sub_zip;have hL2:IsSq k2 (hp.push (itO k1 l1)) l2 ys:=hl2.to fun o e=>jG _ e
  cases k1<;>cases k2
  ·have q1:Heap.IsList (Shared.heap ⟨hp,g,d,tk,os⟩) l1 xs:=hl1;have q2:Heap.IsList (Shared.heap ⟨hp.push {cls:=.type "list_iterator",data:=.fields #[.ref l1,.int 0 0]},g,d,tk,os⟩) l2 ys:=hL2
   wp_walk using wpAny_pyIter_list q1,wpAny_pyIter_list q2
   exact ⟨_,rfl,h⟩
  ·have q1:Heap.IsList (Shared.heap ⟨hp,g,d,tk,os⟩) l1 xs:=hl1;have q2:Heap.IsTuple (Shared.heap ⟨hp.push {cls:=.type "list_iterator",data:=.fields #[.ref l1,.int 0 0]},g,d,tk,os⟩) l2 ys:=hL2
   wp_walk using wpAny_pyIter_list q1,wpAny_pyIter_tuple q2
   exact ⟨_,rfl,h⟩
  ·have q1:Heap.IsTuple (Shared.heap ⟨hp,g,d,tk,os⟩) l1 xs:=hl1;have q2:Heap.IsList (Shared.heap ⟨hp.push {cls:=.type "tuple_iterator",data:=.fields #[.ref l1,.int 0 0]},g,d,tk,os⟩) l2 ys:=hL2
   wp_walk using wpAny_pyIter_tuple q1,wpAny_pyIter_list q2
   exact ⟨_,rfl,h⟩
  ·have q1:Heap.IsTuple (Shared.heap ⟨hp,g,d,tk,os⟩) l1 xs:=hl1;have q2:Heap.IsTuple (Shared.heap ⟨hp.push {cls:=.type "tuple_iterator",data:=.fields #[.ref l1,.int 0 0]},g,d,tk,os⟩) l2 ys:=hL2
   wp_walk using wpAny_pyIter_tuple q1,wpAny_pyIter_tuple q2
   exact ⟨_,rfl,h⟩
theorem NK {k:Kd} {h:Heap} {it l:Addr} (e:h.get? it=some (itO k l)):IsIt k h it l 0:=by
 cases k with
 | L=>exact ⟨_,e,rfl,rfl⟩
 | T=>exact ⟨_,e,rfl,rfl⟩
theorem Bs {k1 k2:Kd} {l1 l2:Addr} {xs ys:Array Value} {Q:Value->Shared->Prop} (g1:IsSq k1 s.heap l1 xs) (g2:IsSq k2 s.heap l2 ys)
  (q:∀ h',Zp k1 k2 h' (s.heap.objs.size+4) (s.heap.objs.size+2) (s.heap.objs.size+3) s.heap.objs.size (s.heap.objs.size+1) l1 l2 .none 0 0->(∀ c o,s.heap.get? c=some o->h'.get? c=some o)->Q (.ref (s.heap.objs.size+4)) {s with heap:=h'}) :
  wpAny (model prog w) A (call (.type "zip") [.ref l1,.ref l2]) Q E s:=by
 refine callType_new F.called_zip (by decide) (F.typeCall_zip_2 _ _) (F.newCall_zip_2 _ _) (fun obj=>F.args_object_init_3 obj _ _) F.entry_zip_new (Mc k1 k2 l1 l2 xs ys) ⟨g1,g2,?_⟩;have z1:(s.heap.push (itO k1 l1)).objs.size=s.heap.objs.size+1:=Heap.size_push ..;have z2:(zq2 k1 k2 s.heap l1 l2).objs.size=s.heap.objs.size+2:=by rw [Heap.size_push,z1]
 have z3:((zq2 k1 k2 s.heap l1 l2).push {cls:=.type "tuple",data:=.seq #[.ref s.heap.objs.size,.ref (s.heap.push (itO k1 l1)).objs.size]}).objs.size=s.heap.objs.size+3:=by rw [Heap.size_push,z2]
 have z4:(zq4 k1 k2 s.heap l1 l2).objs.size=s.heap.objs.size+4:=by rw [Heap.size_push,z3]
 have e5:(zq5 k1 k2 s.heap l1 l2).get? (zq4 k1 k2 s.heap l1 l2).objs.size=some _:=Heap.get?_push_size _ rfl;have e4:(zq5 k1 k2 s.heap l1 l2).get? ((zq2 k1 k2 s.heap l1 l2).push {cls:=.type "tuple",data:=.seq #[.ref s.heap.objs.size,.ref (s.heap.push (itO k1 l1)).objs.size]}).objs.size=some _:=jG _ (Heap.get?_push_size _ rfl);have e3:(zq5 k1 k2 s.heap l1 l2).get? (zq2 k1 k2 s.heap l1 l2).objs.size=some _:=jG _ (jG _ (Heap.get?_push_size _ rfl));have e2:(zq5 k1 k2 s.heap l1 l2).get? (s.heap.push (itO k1 l1)).objs.size=some _:=jG _ (jG _ (jG _ (Heap.get?_push_size _ rfl)));have e1:(zq5 k1 k2 s.heap l1 l2).get? s.heap.objs.size=some _:=jG _ (jG _ (jG _ (jG _ (Heap.get?_push_size _ rfl))));show _/\_;rw [z2,z3,z4] at e5;rw [z1,z2] at e3;rw [z3] at e4;rw [z1] at e2;rw [z4];exact ⟨⟨_,e5,rfl⟩,q _ ⟨e5,e3,⟨_,_,e4⟩,NK e1,NK e2⟩ fun c o x=>jG _ (jG _ (jG _ (jG _ (jG _ x))))⟩
end
def SqK (k:Kd) (K:PySem.W.Frag) (H:Hp) (a:Addr) (xs:List V):Prop:=match k with
 | .L=>SqL K H a xs
 | .T=>SqT K H a xs
theorem SqK.sq {X:Cx} {pins:List (Addr×Obj)} {σ:SS} {H:Hp} {s:Shared} {k:Kd} {a:Addr} {xs:List V} (I:L2.Inv X pins σ H s) (h:SqK k X.K H a xs):∃ its:List Value,Vals xs its/\IsSq k s.heap a its.toArray:=by
 cases k with
 | L=>obtain ⟨its,r,p,_⟩:=I.list h;exact ⟨its,r,p.isList⟩
 | T=>obtain ⟨its,r,p,_⟩:=I.tuple h;exact ⟨its,r,p⟩
theorem SqK.inj {X:Cx} {pins:List (Addr×Obj)} {σ:SS} {H:Hp} {s:Shared} {k:Kd} {a:Addr} {xs ys:List V} (I:L2.Inv X pins σ H s) (h:SqK k X.K H a xs) (h':SqK k X.K H a ys):xs=ys:=by
 cases k with
 | L=>exact I.list_inj h h'
 | T=>exact I.tuple_inj h h'
def Itz (k1 k2:Kd) (K:PySem.W.Frag) (a b:Addr):It :=
 ⟨fun i H=>∃ xs ys x y,SqK k1 K H a xs/\SqK k2 K H b ys/\xs[i]?=some x/\ys[i]?=some y,
  fun i H z H'=>∃ p x y,z=.ref p/\H p=none/\H'=upd H p (.tup [x,y])/\(∀ xs,SqK k1 K H a xs->xs[i]?=some x)/\∀ ys,SqK k2 K H b ys->ys[i]?=some y,
  fun i H=>∃ xs ys,SqK k1 K H a xs/\SqK k2 K H b ys/\(xs.length<=i\/ys.length<=i)⟩
theorem Zp.mv {k1 k2:Kd} {h h':Heap} {z TI TO i1 i2 l1 l2:Addr} {f0:Value} {n1 n2:Nat} (Z:Zp k1 k2 h z TI TO i1 i2 l1 l2 f0 n1 n2) (e:∀ b∈[z,TI,TO,i1,i2],∀ o,h.get? b=some o->h'.get? b=some o):Zp k1 k2 h' z TI TO i1 i2 l1 l2 f0 n1 n2 :=
 ⟨e z (by simp) _ Z.zz,e TI (by simp) _ Z.ti,let ⟨a,b,q⟩:=Z.to;⟨a,b,e TO (by simp) _ q⟩,Z.t1.to (e i1 (by simp)),Z.t2.to (e i2 (by simp))⟩
theorem NG {k:Kd} {h:Heap} {it a:Addr} {i:Nat} (x:IsIt k h it a i):∃ o,h.get? it=some o/\∀ v,o.data≠.cell v:=by
 cases k with
 | L=>obtain ⟨o,ho,hc,hd⟩:=x;exact ⟨o,ho,fun v z=>by rw [hd] at z;cases z⟩
 | T=>obtain ⟨o,ho,hc,hd⟩:=x;exact ⟨o,ho,fun v z=>by rw [hd] at z;cases z⟩
theorem Mj {P:Program} {w:World} {K:PySem.W.Frag} {es:List Expr} {kk:Nat} {ps:Pos} (k1 k2:Kd) (z TI TO i1 i2 a b:Addr) (D:Ap z TI TO i1 i2 a b) :
  Turn P w K (.Tuple es kk ps) (Itz k1 k2 K a b) [z,TI,TO,i1,i2] z (fun i h=>Zp k1 k2 h z TI TO i1 i2 a b .none i i) where
 mem:=by simp
 obj:=fun i h Z c hc=>by
  obtain ⟨x,y,q⟩:=Z.to;simp only [List.mem_cons,List.not_mem_nil,or_false] at hc
  rcases hc with rfl | rfl | rfl | rfl | rfl
  ·exact ⟨_,Z.zz,fun v e=>by cases e⟩
  ·exact ⟨_,Z.ti,fun v e=>by cases e⟩
  ·exact ⟨_,q,fun v e=>by cases e⟩
  ·exact NG Z.t1
  ·exact NG Z.t2
 keep:=fun i h h' Z e=>Z.mv fun c hc o q=>e c hc o q
 item:=by
  intro X hP hw hK hc i pins s σ H E I hf Z hg;subst hP hw hK;obtain ⟨xs,ys,x,y,qa,qb,hx,hy⟩:=hg;obtain ⟨its,r1,g1⟩:=qa.sq I;obtain ⟨its2,r2,g2⟩:=qb.sq I;obtain ⟨u,hu,ru⟩:=r1.get hx;obtain ⟨v,hv,rv⟩:=r2.get hy;refine Xe D Z g1 g2 (x:=u) (y:=v) (by simpa using hu) (by simpa using hv) fun h' Z' pr sz kp=>⟨_,rfl,?_⟩
  refine wpAny_letOwnedTupleGo_zip (s:={s with heap:=h'}) Z'.zz fun h2 z2 e2=>?_
  have fr:H s.heap.objs.size=none:=I.fresh;have nz:∀ c∈[z,TI,TO,i1,i2],c<s.heap.objs.size:=fun c hc=>by
   obtain ⟨x,y,q⟩:=Z.to;simp only [List.mem_cons,List.not_mem_nil,or_false] at hc
   rcases hc with rfl | rfl | rfl | rfl | rfl
   ·exact jH Z.zz
   ·exact jH Z.ti
   ·exact jH q
   ·exact Z.t1.lt
   ·exact Z.t2.lt
  have pz:s.heap.objs.size≠z:=Nat.ne_of_gt (nz z (by simp));have up:∀ c o,c∉[z,TO,i1,i2]->s.heap.get? c=some o->h2.get? c=some o:=fun c o hc q=>by
   simp only [List.mem_cons,List.not_mem_nil,or_false,not_or] at hc;exact e2.extBut _ _ hc.1 (kp c o hc.1 hc.2.1 hc.2.2.1 hc.2.2.2 q)
  have sub:∀ c∈[z,TO,i1,i2],c∈[z,TI,TO,i1,i2]:=fun c hc=>by
   simp only [List.mem_cons,List.not_mem_nil,or_false] at hc ⊢
   rcases hc with h | h | h | h<;>simp [h]
  have nH:∀ c o,H c=some o->c∉[z,TO,i1,i2]:=fun c o q hc=>by rw [(hf c (sub c hc)).1] at q;cases q
  have pT:h2.get? s.heap.objs.size=some {cls:=.type "tuple",data:=.seq #[u,v]}:=e2.extBut _ _ pz pr;have I2:L2.Inv X pins σ (upd H s.heap.objs.size (.tup [x,y])) {s with heap:=h2,gens:=s.gens,drawn:=s.drawn,toks:=s.toks}:=by
   refine I.step (ch:=[z,TO,i1,i2]) (fun c hc=>?_) (fun c o _ _ hc q _=>up c o hc q) (fun c o _ _ hc q _=>⟨o.slots,up c o hc q⟩) (fun c o _ q n=>by rw [zu (Nat.ne_of_lt (jH q))];exact n)
    (fun c o hc q=>⟨o,up c o hc q⟩) (fun c l q=>by rw [zu (zA q fr)];exact q) (fun c o l q=>by rw [zu (zA q fr)];exact q) (fun c l q=>⟨#[],by rw [zu (zA q fr),q];simp⟩) (fun m hm=>?_) (fun c o q=>?_) I.bare
   ·obtain ⟨f0,f1,f2,f3,f4,f5⟩:=hf c (sub c hc);exact ⟨f3,f1,f4,f5⟩
   ·obtain ⟨o,es',ep,ho,rr⟩:=hm;refine ⟨o,es',ep,up _ o (fun hc=>?_) ho,rr⟩;exact (hf _ (sub _ hc)).2.1 rfl
   ·by_cases hcp:c=s.heap.objs.size
    ·subst hcp;rw [zE] at q;cases q;exact ⟨by show 2<=sizeLine;decide,[u,v],.cons ru (.cons rv .nil),⟨_,pT,rfl,rfl,_,rfl⟩⟩
    ·rw [zu hcp] at q;refine (I.hok c o q).stay (fun d ob hd e=>up d ob ?_ e) (fun d e=>by rw [zu (zA e fr)];exact e) fun d l e=>by rw [zu (zA e fr)];exact e
     rcases hd with hd | hd
     ·rw [hd];exact nH c o q
     ·exact nH d _ hd
  refine ⟨.ref s.heap.objs.size,_,I2,rfl,⟨_,x,y,rfl,fr,rfl,fun l hl=>by rw [hl.inj I qa];exact hx,fun l hl=>by rw [hl.inj I qb];exact hy⟩,?_,fun c hc=>?_⟩
  ·have kp2:∀ c∈[TI,TO,i1,i2],∀ o,h'.get? c=some o->h2.get? c=some o:=fun c hc o q=>e2.extBut _ _ (by
    simp only [List.mem_cons,List.not_mem_nil,or_false] at hc
    rcases hc with rfl | rfl | rfl | rfl
    ·exact D.a1
    ·exact D.a2
    ·exact D.a3
    ·exact D.a4) q
   exact ⟨z2,kp2 TI (by simp) _ Z'.ti,let ⟨a',b',q⟩:=Z'.to;⟨a',b',kp2 TO (by simp) _ q⟩,Z'.t1.to (kp2 i1 (by simp)),Z'.t2.to (kp2 i2 (by simp))⟩
  ·rw [zu (Nat.ne_of_lt (nz c hc))];exact (hf c hc).1
 done:=by
  intro X hP hw hK hc i pins s σ H E I hf Z hg;subst hP hw hK;obtain ⟨xs,ys,qa,qb,hend⟩:=hg;obtain ⟨its,r1,g1⟩:=qa.sq I;obtain ⟨its2,r2,g2⟩:=qb.sq I;have l1:=r1.length;have l2:=r2.length;refine WX (I.ok.hd hc) D Z g1 g2 (hend.imp (fun q=>by simp;lia) fun q=>by simp;lia) fun h' kp=>⟨rfl,?_⟩
  have sub:∀ c∈[z,TO,i1,i2],c∈[z,TI,TO,i1,i2]:=fun c hc=>by
   simp only [List.mem_cons,List.not_mem_nil,or_false] at hc ⊢
   rcases hc with h | h | h | h<;>simp [h]
  have up:∀ c o,c∉[z,TO,i1,i2]->s.heap.get? c=some o->h'.get? c=some o:=fun c o hc q=>by
   simp only [List.mem_cons,List.not_mem_nil,or_false,not_or] at hc;exact kp c o hc.1 hc.2.1 hc.2.2.1 hc.2.2.2 q
  have nH:∀ c o,H c=some o->c∉[z,TO,i1,i2]:=fun c o q hc=>by rw [(hf c (sub c hc)).1] at q;cases q
  exact I.step (g':=s.gens) (d':=s.drawn) (t':=s.toks) (ch:=[z,TO,i1,i2]) (fun c hc=>by
    obtain ⟨f0,f1,f2,f3,f4,f5⟩:=hf c (sub c hc);exact ⟨f3,f1,f4,f5⟩) (fun c o _ _ hc q _=>up c o hc q) (fun c o _ _ hc q _=>⟨o.slots,up c o hc q⟩) (fun c o _ q n=>n) (fun c o hc q=>⟨o,up c o hc q⟩) (fun c l q=>q) (fun c o l q=>q) (fun c l q=>⟨#[],by rw [q];simp⟩)
    (fun m hm=>by
     obtain ⟨o,es',ep,ho,rr⟩:=hm;exact ⟨o,es',ep,up _ o (fun hc=>(hf _ (sub _ hc)).2.1 rfl) ho,rr⟩)
    (fun c o q=>(I.hok c o q).stay (fun d ob hd e=>up d ob (by
     rcases hd with hd | hd
     ·rw [hd];exact nH c o q
     ·exact nH d _ hd) e) (fun _ e=>e) fun _ _ e=>e) I.bare
 self:=fun _ _ _ _ _ Z h=>wpAny_pyIter_zip Z.zz h
def vC:PV->Res (List PV)
 | .lst xs=>.ok xs
 | .tup xs=>.ok xs
 | _=>.bad
def yu (d:De):Di:=fun ρ=>(d ρ).bind vC
theorem FinI.bind {α:Type} {X:Cx} {W:Addr->Prop} {H:Hp} {r:Res α} {f:α->Res (List PV)} {R:It->Hp->Prop} (h:FinI X W H R (r.bind f)):On r (fun x=>XW X x H) fun v=>FinI X W H R (f v):=by
 cases r<;>exact h
theorem wj {k:Kd} {K:PySem.W.Frag} {H H':Hp} {a:Addr} {xs:List V} (e:Same H H') (h:SqK k K H a xs):SqK k K H' a xs:=by
 cases k with
 | L=>exact e.seq h
 | T=>exact jn e h
def Itk (k:Kd) (K:PySem.W.Frag) (a:Addr):It:=match k with
 | .L=>Itl K a
 | .T=>Itt K a
theorem NI {k:Kd} {K:PySem.W.Frag} {G:Hp} {a:Addr} {vs:List PV} {xs:List V} (h:SqK k K G a xs) (r:Reps K G vs xs):ZT K G (Itk k K a) vs:=by
 intro i H1 hs;have h1:=wj hs h;cases k with
 | L =>
  refine ⟨fun v ev=>?_,fun e=>⟨xs,h1,by rw [r.length,e];exact Nat.le_refl _⟩⟩
  obtain ⟨x,ex,rx⟩:=r.get ev;refine ⟨⟨xs,x,h1,ex⟩,fun y H2 ⟨e,q⟩=>?_⟩
  subst e;have:=q xs h1;rw [ex] at this;cases this;exact ⟨Same.refl _,fun W' _ hg=>rx.mono hg⟩
 | T =>
  refine ⟨fun v ev=>?_,fun e=>⟨xs,h1,by rw [r.length,e];exact Nat.le_refl _⟩⟩
  obtain ⟨x,ex,rx⟩:=r.get ev;refine ⟨⟨xs,x,h1,ex⟩,fun y H2 ⟨e,q⟩=>?_⟩
  subst e;have:=q xs h1;rw [ex] at this;cases this;exact ⟨Same.refl _,fun W' _ hg=>rx.mono hg⟩
section
variable {X:Cx} {tg l:Expr} {d:De}
theorem Rv {tl:TE} (hl:PE X l tl):PI X tg l (fun σ H R=>tl σ H fun x H1=>∃ k a,x=.ref a/\(∃ xs,SqK k X.K H1 a xs)/\R (Itk k X.K a) H1):=by
 intro pins s σ H R I h;refine thn (hl pins s σ H _ I h) fun v s1 ⟨x,H1,I1,r1,k,a,e,⟨xs,hq⟩,q⟩=>?_
 subst e;cases r1;have fp:∀ b∈[s1.heap.objs.size],wW X pins H1 b:=fun b hb=>by
  have e:b=s1.heap.objs.size:=by simpa using hb
  subst e;exact I1.fpOk (Nat.le_refl _) I1.fresh
 cases k with
 | L =>
  obtain ⟨its,rv,p,hz⟩:=I1.list hq;exact wpAny_pyIter_list p.isList ⟨_,[s1.heap.objs.size],_,_,H1,rfl,I1.kept (t':=s1.toks) fun b o e=>jG _ e,Xq a _,⟨_,Heap.get?_push_size _ rfl,rfl,rfl⟩,fp,q⟩
 | T =>
  obtain ⟨its,rv,p,hz⟩:=I1.tuple hq;exact wpAny_pyIter_tuple (show s1.heap.IsTuple a its.toArray from p) ⟨_,[s1.heap.objs.size],_,_,H1,rfl,I1.kept (t':=s1.toks) fun b o e=>jG _ e,Qi a _,⟨_,Heap.get?_push_size _ rfl,rfl,rfl⟩,fp,q⟩
theorem WF {iter:Expr} {t t':TI} (h:PI X tg iter t) (i:∀ σ H R,t' σ H R->t σ H R):PI X tg iter t':=fun pins s σ H R I q=>h pins s σ H R I (i σ H R q)
theorem vj {K:PySem.W.Frag} {G:Hp} {v:PV} {x:V} {vs:List PV} (h:vC v=.ok vs) (r:Rep K G v x):∃ k a xs,x=.ref a/\SqK k K G a xs/\Reps K G vs xs:=by
 cases v<;>simp only [vC] at h<;>try cases h
 case lst=>obtain ⟨a,xs,rfl,h1,h2⟩:=Rep.lst'.mp r;exact ⟨.L,a,xs,rfl,h1,h2⟩
 case tup=>obtain ⟨a,xs,rfl,h1,h2⟩:=Rep.tup'.mp r;exact ⟨.T,a,xs,rfl,h1,h2⟩
theorem qw {v:PV} {x:XC}:vC v≠.exc x:=by cases v<;>simp [vC]
theorem yg (ha:DE X l d):DI X tg l (yu d):=WF (Rv ha) fun σ H R ⟨W,ρ,er,h⟩ =>
 wf d er h.bind fun v x H1 s1 er1 r1 h1=>by
  cases e:vC v with
  | exc z=>exact absurd e qw
  | bad=>rw [e] at h1;exact h1.elim
  | ok vs =>
   rw [e] at h1;obtain ⟨k,a,xs,rfl,q1,q2⟩:=vj e r1;exact ⟨k,a,rfl,⟨xs,wj hid_sub q1⟩,h1 _ H1 s1 (NI q1 q2)⟩
def rng (lo:Int) (n:Nat):List PV:=(List.range n).map fun k:Nat=>PV.int (lo+(k:Int))
theorem NJ {K:PySem.W.Frag} {G:Hp} (lo:Int) (n:Nat):ZT K G (Itr lo n) (rng lo n):=by
 intro i H1 hs;refine ⟨fun v ev=>?_,fun e=>by rw [e];simp [Itr,rng]⟩
 have hi:i<n:=by
  have:=(List.getElem?_eq_some_iff.mp ev).1;simpa [rng] using this
 unfold rng at ev;rw [List.getElem?_map,List.getElem?_range hi] at ev;cases ev;exact ⟨hi,fun x H2 ⟨e1,e2⟩=>by subst e1 e2;exact ⟨Same.refl _,fun W' _ _=>Rep.int.mpr rfl⟩⟩
def rg1:List PV->Res (List PV)
 | [.int j]=>if -(2 ^ 62)<=j/\j<2 ^ 62 then .ok (rng 0 j.toNat) else .bad
 | _=>.bad
def iR1 (ds:Das):Di:=fun ρ=>(ds ρ).bind rg1
variable {a b:Expr} {da db:De} {p pos:Pos}
theorem xi (hg:Gl X "range") (hm:X.mg "range" = none) (ha:DE X a da) (hs:starEach [a] X.env=[(false,eval a X.env)]:=by rfl):DI X tg (.Call (.Name "range" p) [a] [] pos) (iR1 (zd da zj)) :=
 WF (Gm hg hm (zg ha zi hs) hs) fun σ H R ⟨W,ρ,er,h⟩=>by
  refine xN (zd da zj) er h.bind fun vs xs H1 s1 er1 r1 h1=>?_
  unfold rg1 at h1
  split at h1
  ·rename_i j
   obtain ⟨x,t,rfl,r2,r3⟩:=Reps.cons.mp r1;obtain rfl:=Rep.int.mp r2;obtain rfl:=Reps.nil.mp r3
   by_cases c : -(2 ^ 62)<=j/\j<2 ^ 62
   ·rw [if_pos c] at h1;exact ⟨j,rfl,c.1,c.2,h1 _ H1 s1 (NJ 0 j.toNat)⟩
   ·rw [if_neg c] at h1;exact h1.elim
  ·exact h1.elim
def zpL:List PV->List PV->List PV
 | x::xs,y::ys=>.tup [x,y]::zpL xs ys
 | _,_=>[]
theorem Yi:∀ xs ys:List PV,(zpL xs ys).length=min xs.length ys.length
 | [],ys=>by simp [zpL]
 | _::_,[]=>by simp [zpL]
 | _::xs,_::ys=>by simp [zpL,Yi xs ys,Nat.succ_min_succ]
theorem Jx:∀ (xs ys:List PV) (i:Nat) (v:PV),(zpL xs ys)[i]?=some v->∃ x y,xs[i]?=some x/\ys[i]?=some y/\v=.tup [x,y]
 | [],ys,i,v,h=>by simp [zpL] at h
 | _::_,[],i,v,h=>by simp [zpL] at h
 | x::xs,y::ys,0,v,h=>by simp [zpL] at h;exact ⟨x,y,rfl,rfl,h.symm⟩
 | x::xs,y::ys,i+1,v,h=>by
  obtain ⟨x',y',h1,h2,h3⟩:=Jx xs ys i v (by simpa [zpL] using h);exact ⟨x',y',by simpa using h1,by simpa using h2,h3⟩
def zpF:List PV->Res (List PV)
 | [v,u]=>(vC v).bind fun xs=>(vC u).bind fun ys=>.ok (zpL xs ys)
 | _=>.bad
def jh (ds:Das):Di:=fun ρ=>(ds ρ).bind zpF
theorem NH {k1 k2:Kd} {K:PySem.W.Frag} {G:Hp} {a b:Addr} {vs us:List PV} {xs ys:List V} (h1:SqK k1 K G a xs) (r1:Reps K G vs xs) (h2:SqK k2 K G b ys) (r2:Reps K G us ys):ZT K G (Itz k1 k2 K a b) (zpL vs us):=by
 intro i H1 hs;have q1:=wj hs h1;have q2:=wj hs h2;refine ⟨fun v ev=>?_,fun e=>⟨xs,ys,q1,q2,?_⟩⟩
 ·obtain ⟨x,y,e1,e2,rfl⟩:=Jx _ _ _ _ ev;obtain ⟨x',e3,r3⟩:=r1.get e1;obtain ⟨y',e4,r4⟩:=r2.get e2;refine ⟨⟨xs,ys,x',y',q1,q2,e3,e4⟩,fun z H2 ⟨p,x2,y2,ez,hp,eH,f1,f2⟩=>?_⟩
  have g1:=f1 xs q1;have g2:=f2 ys q2;rw [e3] at g1;cases g1;rw [e4] at g2;cases g2;subst ez eH;refine ⟨yv hp,fun W' tk hg=>?_⟩
  exact Rep.tup (.inl (.inl (Yg fun w=>tk p w hp))) (Reps.mk ((r3.mono hg).mono (zD (yv hp))) (Reps.mk ((r4.mono hg).mono (zD (yv hp))) (Reps.nil.mpr rfl)))
 ·rw [Yi] at e;rw [r1.length,r2.length,e]
  lia
theorem AT (n l1 l2:Nat) (l1n:l1<n) (l2n:l2<n):Ap (n+4) (n+2) (n+3) n (n+1) l1 l2:=by
 have ne:∀ a b:Nat,a<b\/b<a->(a:Addr)≠(b:Addr):=fun a b h e=>by
  have e':(a:Nat)=b:=e
  lia
 exact ⟨ne _ _ (by lia),ne _ _ (by lia),ne _ _ (by lia),ne _ _ (by lia),ne _ _ (by lia),ne _ _ (by lia),ne _ _ (by lia),ne _ _ (by lia),ne _ _ (by lia),ne _ _ (by lia),ne _ _ (by lia),
  ne _ _ (by lia),ne _ _ (by lia),ne _ _ (by lia),ne _ _ (by lia),ne _ _ (by lia),ne _ _ (by lia),ne _ _ (by lia)⟩
theorem Bu:bootBuiltins "zip" = some (.type "zip"):=by decide
theorem Ru {a b:Expr} {ta:TA} {es:List Expr} {kk:Nat} {ps:Pos} (hg:Gl X "zip") (hm:X.mg "zip" = none) (ha:PA X [a,b] ta) (hs:starEach [a,b] X.env=[(false,eval a X.env),(false,eval b X.env)]:=by rfl) (hs2:starEach [b] X.env=[(false,eval b X.env)]:=by rfl) :
  PI X (.Tuple es kk ps) (.Call (.Name "zip" p) [a,b] [] pos) (fun σ H R=>ta σ H fun vs H1=>∃ k1 k2 l1 l2 xs ys,vs=[.ref l1,.ref l2]/\SqK k1 X.K H1 l1 xs/\SqK k2 X.K H1 l2 ys/\R (Itz k1 k2 X.K l1 l2) H1):=by
 intro pins s σ H R I h;refine Call_ (vv I hg hm Bu (PyProof.Rows.callWith_type1 (thn (ha pos pins s σ H _ I h) fun us s1 ⟨vs,H1,I1,r1,q1⟩=>?_) (by rw [hs,hs2]) (by rw [hs2];rfl)))
 obtain ⟨k1,k2,l1,l2,xs,ys,e,g1,g2,q⟩:=q1;subst e;cases r1 with
 | cons r rr =>
  cases rr with
  | cons r' rr =>
   cases rr;cases r;cases r';obtain ⟨its,rv,p1⟩:=g1.sq I1;obtain ⟨its2,rv2,p2⟩:=g2.sq I1;refine Bs p1 p2 fun h' Z kp=>?_
   have I2:L2.Inv X pins σ H1 {s1 with heap:=h',toks:=s1.toks}:=I1.kept (t':=s1.toks) kp
   have lt1:l1<s1.heap.objs.size:=by
    cases k1 with
    | L=>obtain ⟨o,ho,_⟩:=p1;exact jH ho
    | T=>obtain ⟨o,ho,_⟩:=p1;exact jH ho
   have lt2:l2<s1.heap.objs.size:=by
    cases k2 with
    | L=>obtain ⟨o,ho,_⟩:=p2;exact jH ho
    | T=>obtain ⟨o,ho,_⟩:=p2;exact jH ho
   generalize hn:s1.heap.objs.size=n at *;have hfr:∀ b,n<=b->H1 b=none:=fun b hb=>by
    cases q:H1 b with
    | none=>rfl
    | some o =>
     have z:b<s1.heap.objs.size:=I1.hok.lt q;rw [hn] at z;exact absurd (Nat.lt_of_lt_of_le z hb) (Nat.lt_irrefl _)
   refine wpAny_pyIter_zip Z.zz ⟨_,[n+4,n+2,n+3,n,n+1],_,_,H1,rfl,I2,Mj k1 k2 _ _ _ _ _ l1 l2 ?_,Z,fun b hb=>?_,q⟩
   ·exact AT n l1 l2 lt1 lt2
   ·have hb':n<=b:=by
     simp only [List.mem_cons,List.not_mem_nil,or_false] at hb
     rcases hb with e | e | e | e | e<;>rw [e]
     ·exact Nat.le_add_right _ _
     ·exact Nat.le_add_right _ _
     ·exact Nat.le_add_right _ _
     ·exact Nat.le_refl _
     ·exact Nat.le_add_right _ _
    exact I1.fpOk (by rw [hn];exact hb') (hfr b hb')
theorem Zx {es:List Expr} {kk:Nat} {ps:Pos} (hg:Gl X "zip") (hm:X.mg "zip" = none) (ha:DE X a da) (hb:DE X b db) (hs:starEach [a,b] X.env=[(false,eval a X.env),(false,eval b X.env)]:=by rfl) (hs2:starEach [b] X.env=[(false,eval b X.env)]:=by rfl) :
  DI X (.Tuple es kk ps) (.Call (.Name "zip" p) [a,b] [] pos) (jh (zd da (zd db zj))) :=
 WF (Ru hg hm (zg ha (zg hb zi hs2) (by rw [hs,hs2])) hs hs2) fun σ H R ⟨W,ρ,er,h⟩=>by
  refine xN (zd da (zd db zj)) er h.bind fun vs xs H1 s1 er1 r1 h1=>?_
  unfold zpF at h1
  split at h1
  ·rename_i v u
   obtain ⟨x,t,rfl,r2,r3⟩:=Reps.cons.mp r1;obtain ⟨y,t,rfl,r4,r5⟩:=Reps.cons.mp r3;obtain rfl:=Reps.nil.mp r5;cases e1:vC v with
   | exc z=>exact absurd e1 qw
   | bad=>rw [e1] at h1;exact h1.elim
   | ok l =>
    rw [e1] at h1;cases e2:vC u with
    | exc z=>exact absurd e2 qw
    | bad=>rw [e2] at h1;exact h1.elim
    | ok l' =>
     rw [e2] at h1;obtain ⟨k1,a1,xs,rfl,p1,p2⟩:=vj e1 r2;obtain ⟨k2,a2,ys,rfl,p3,p4⟩:=vj e2 r4;exact ⟨k1,k2,a1,a2,xs,ys,rfl,wj hid_sub p1,wj hid_sub p3,h1 _ H1 s1 (NH p1 p2 p3 p4)⟩
  ·exact h1.elim
end
structure Noted (fs:List Addr) (h h':Heap) (e T:Addr) (oe:Obj) (old:Addr->Prop) (fl:Value):Prop where
 newN:h.objs.size<=T
 new:h.get? T=none
 keep:∀ b o,b≠e->b∉fs->¬ old b->h.get? b=some o->h'.get? b=some o
 slot:∀ b o,b∈fs->h.get? b=some o->∃ sl,h'.get? b=some {o with slots:=sl}
 exc:h'.get? e=some (oe.mapFields (·.setIfInBounds 1 (.ref T)))
 tb:∃ oT ts,h'.get? T=some oT/\oT.data=.fields ts/\ts[3]?=some fl
 before:∀ b oT ts,old b->h.get? b=some oT->oT.data=.fields ts->∃ oT' ts',h'.get? b=some oT'/\oT'.data=.fields ts'/\ts'.size=ts.size
section
variable {M:Model} {A:Around} {E:Value->Shared->Prop} {s:Shared} {base:Heap} {env:Env} {outer:List Env} {L e:Addr} {oe:Obj} {vs:Array Value}
theorem XS {head:Value} {hadNext:Bool} {Q:Unit->Shared->Prop}
  (hfr:A.frames=some (env::outer)) (hl:s.heap.FunFrames base (env::outer)) (hf:env.frame=some L)
  (he:s.heap.get? e=some oe) (hd:oe.data=.fields vs) (hsz:1<vs.size)
  (h:∀ h' T,Noted (frs (env::outer)) s.heap h' e T oe (fun _=>False) (rawInt L)->Q () {s with heap:=h'}) :
  wpAny M A (do let a <- frameOf env;let pl <- entryPlaceOf L hadNext;let b <- EntryCells.newEntry head a .none (rawInt L) .none pl;setField (.ref e) 1 b) Q E s:=by
 have hene:e∉frs (env::outer):=fun hm=>by
  obtain ⟨_,o,ho,hnf⟩:=hl.mem hm;rw [he] at ho;cases ho;exact hnf vs hd
 refine jB (wpAny_frameOf_fun hfr hl hf fun h1 hs1=>?_);refine jB (wpAny_entryPlaceOf fun pl hpl=>?_);unfold EntryCells.newEntry newFields;refine jB (wpAny_newObj_type ?_ (hpl.sizeOk5 _ _ _ _ _));have he1:h1.get? e=some oe:=(hs1.2.1 e hene).trans he;generalize hob:({cls:=.type "traceback",dict:=none,data:=.fields ([head,.ref L,.none,rawInt L,.none]++(if pl.isEmpty then List.replicate 6 Value.none else pl)).toArray}:Obj)=ob;have he2:=jG (h:=h1) ob he1;have hTe:h1.objs.size≠e:=Nat.ne_of_gt (jH he1);have hd3:=Obj.data_mapFields hd (·.setIfInBounds 1 (Value.ref h1.objs.size));have he3:=Heap.get?_update_self (Obj.mapFields (·.setIfInBounds 1 (Value.ref h1.objs.size))) he2 (Obj.isFreed_of_fields hd3);have hT3:((h1.push ob).update e (Obj.mapFields (·.setIfInBounds 1 (Value.ref h1.objs.size)))).get? h1.objs.size=some ob:=(Heap.get?_update_other (h1.push ob) _ (Ne.symm hTe)).trans (Heap.get?_push_size h1 (by rw [<- hob];rfl));have keep:∀ b o,b≠e->h1.get? b=some o->((h1.push ob).update e (Obj.mapFields (·.setIfInBounds 1 (Value.ref h1.objs.size)))).get? b=some o:=fun b o hbe hb=>by
  rw [Heap.get?_update_other _ _ (Ne.symm hbe)];exact jG _ hb
 refine wpAny_setField he2 hd hsz (h _ h1.objs.size ⟨by rw [hs1.1];exact Nat.le_refl _,?_,fun b o hbe hb _ ho=>?_,fun b o hb ho=>?_,he3,⟨ob,_,hT3,by rw [<- hob],?_⟩,fun _ _ _ z=>z.elim⟩)
 ·exact Heap.get?_none_of_le (by rw [hs1.1];exact Nat.le_refl _)
 ·exact keep b o hbe ((hs1.2.1 b hb).trans ho)
 ·obtain ⟨sl,q⟩:=hs1.2.2 b o ho;exact ⟨sl,keep b _ (fun z=>hene (z ▸ hb)) q⟩
 ·first | (simp;done) | (rcases hpl with rfl | ⟨_,_,_,_,_,_,_,rfl⟩<;>simp)
def AW (h:Heap) (e:Addr) (vs:Array Value) (old:Addr->Prop):Prop :=
 (vs[1]?=some .none/\∀ b,¬ old b)\/∃ T oT ts,vs[1]?=some (.ref T)/\T≠e/\h.get? T=some oT/\oT.data=.fields ts/\ts[3]?=some .none/\∀ b,old b↔b=T
theorem Np {Q:Unit->Shared->Prop} {old:Addr->Prop} (hfr:A.frames=some (env::outer)) (hl:s.heap.FunFrames base (env::outer)) (hf:env.frame=some L)
  (he:s.heap.get? e=some oe) (hd:oe.data=.fields vs) (ht:AW s.heap e vs old)
  (h:∀ h' T,Noted (frs (env::outer)) s.heap h' e T oe old (rawInt L)->Q () {s with heap:=h'}):wpAny M A (noteFrame (.ref e) env) Q E s:=by
 unfold noteFrame;simp only [hf]
 rcases ht with ⟨h1,ho⟩ | ⟨T,oT,ts,h1,hTe,hT,hdT,h3,ho⟩
 ·refine jB (wpAny_field he hd h1 ?_);rw [if_neg (by decide)];refine XS hfr hl hf he hd (Array.getElem?_eq_some_iff.mp h1).1 fun h' T' N=>h h' T' ?_
  exact ⟨N.newN,N.new,fun b o q1 q2 _ q3=>N.keep b o q1 q2 (fun z=>z) q3,N.slot,N.exc,N.tb,fun b _ _ z=>(ho b z).elim⟩
 ·refine jB (wpAny_field he hd h1 ?_);rw [if_pos (show (Value.ref T != Value.none)=true from by simp)]
  refine jB (wpAny_field hT hdT h3 ?_);rw [if_neg (show ¬ ((Value.none==rawInt L)=true) from by simp [rawInt])]
  have hz:3<ts.size:=(Array.getElem?_eq_some_iff.mp h3).1;refine jB (wpAny_setField hT hdT hz ?_);have other:∀ b,b≠T->(s.heap.update T (Obj.mapFields (·.setIfInBounds 3 Value.none))).get? b=s.heap.get? b:=fun b hb=>Heap.get?_update_other _ _ (Ne.symm hb)
  have hdT2:=Obj.data_mapFields hdT (·.setIfInBounds 3 Value.none);have hT2:=Heap.get?_update_self (Obj.mapFields (·.setIfInBounds 3 Value.none)) hT (Obj.isFreed_of_fields hdT2);have noR:∀ b o,s.heap.get? b=some o->(∀ vs,o.data≠.fields vs)->b≠T:=fun b o hb hnf q=>by
   rw [q,hT] at hb;cases hb;exact hnf ts hdT
  have hTf:T∉frs (env::outer):=fun hm=>by
   obtain ⟨_,o,q,hnf⟩:=hl.mem hm;exact noR T o q hnf rfl
  refine XS (s:={s with heap:=s.heap.update T (Obj.mapFields (·.setIfInBounds 3 Value.none))}) hfr (hl.of_keeps fun b o hb hnf=>⟨o,(other b (noR b o hb hnf)).trans hb,rfl⟩) hf ((other e (Ne.symm hTe)).trans he) hd (Array.getElem?_eq_some_iff.mp h1).1 fun h' T' N=>h h' T' ?_
  have nT':T'≠T:=fun z=>by have:=N.new;rw [z] at this;rw [show (s.heap.update T (Obj.mapFields (·.setIfInBounds 3 Value.none))).get? T=_ from hT2] at this;cases this
  refine ⟨by have:=N.newN;rw [Heap.size_after_update] at this;exact this,(other T' nT').symm.trans N.new,fun b o q1 q2 q4 q3=>?_,fun b o q1 q2=>?_,N.exc,N.tb,fun b oT' ts' z q1 q2=>?_⟩
  ·have nb:b≠T:=fun z=>q4 ((ho b).mpr z)
   exact N.keep b o q1 q2 (fun z=>z) ((other b nb).trans q3)
  ·exact N.slot b o q1 ((other b fun z=>hTf (z ▸ q1)).trans q2)
  ·have z:=(ho b).mp z;subst z;rw [hT] at q1;cases q1;rw [hdT] at q2;cases q2;exact ⟨_,_,N.keep b _ hTe hTf (fun z=>z) hT2,hdT2,by simp⟩
theorem UJ {Q:Unit->Shared->Prop} {T:Addr} {oT:Obj} {ts:Array Value} (he:s.heap.get? e=some oe) (hd:oe.data=.fields vs) (h1:vs[1]?=some (.ref T)) (hT:s.heap.get? T=some oT) (hdT:oT.data=.fields ts) (hz:3<ts.size)
  (h:Q () {s with heap:=s.heap.update T (Obj.mapFields (·.setIfInBounds 3 .none))}):wpAny M A (setFlight (.ref e) none) Q E s:=wpAny_setFlight_none he hd h1 hT hdT hz h
theorem GB {Q:Unit->Shared->Prop} {old:Addr->Prop} (hfr:A.frames=some (env::outer)) (hl:s.heap.FunFrames base (env::outer)) (hf:env.frame=some L)
  (he:s.heap.get? e=some oe) (hd:oe.data=.fields vs) (ht:AW s.heap e vs old)
  (h:∀ h' T,Noted (frs (env::outer)) s.heap h' e T oe old .none->Q () {s with heap:=h'}) :
  wpAny M A (noteFrame (.ref e) env) (fun _ s'=>wpAny M A (setFlight (.ref e) none) Q E s') E s:=by
 have hs1:1<vs.size:=by
  rcases ht with ⟨h1,_⟩ | ⟨T,oT,ts,h1,_⟩<;>exact (Array.getElem?_eq_some_iff.mp h1).1
 refine Np hfr hl hf he hd ht fun h' T N=>?_
 obtain ⟨oT,ts,hT,hdT,h3⟩:=N.tb;have hz:3<ts.size:=(Array.getElem?_eq_some_iff.mp h3).1;have hTe:T≠e:=fun z=>by have:=N.new;rw [z,he] at this;cases this
 have hd2:=Obj.data_mapFields hd (·.setIfInBounds 1 (Value.ref T));refine UJ (s:={s with heap:=h'}) (T:=T) N.exc hd2 (by simp [hs1]) hT hdT hz (h _ T ?_);have other:∀ b,b≠T->(h'.update T (Obj.mapFields (·.setIfInBounds 3 Value.none))).get? b=h'.get? b:=fun b hb=>Heap.get?_update_other _ _ (Ne.symm hb)
 have hdT2:=Obj.data_mapFields hdT (·.setIfInBounds 3 Value.none);have hT2:=Heap.get?_update_self (Obj.mapFields (·.setIfInBounds 3 Value.none)) hT (Obj.isFreed_of_fields hdT2);have nT:∀ b o,s.heap.get? b=some o->b≠T:=fun b o q z=>by rw [z,N.new] at q;cases q
 refine ⟨N.newN,N.new,fun b o q1 q2 q3 q4=>(other b (nT b o q4)).trans (N.keep b o q1 q2 q3 q4),fun b o q1 q2=>?_,(other e (Ne.symm hTe)).trans N.exc,⟨_,_,hT2,hdT2,by simp [hz]⟩,fun b oT' ts' z q1 q2=>?_⟩
 ·obtain ⟨sl,q⟩:=N.slot b o q1 q2;exact ⟨sl,(other b (nT b o q2)).trans q⟩
 ·obtain ⟨o2,t2,r1,r2,r3⟩:=N.before b oT' ts' z q1 q2;exact ⟨o2,t2,(other b (nT b _ q1)).trans r1,r2,r3⟩
end
theorem AJ {P:Program} {w:World} {H:Hp} {h:Heap} {e:Addr} {C:Value} {dx:Option Addr} (x:BA e C dx h):ObjOk P w H h e (.ext (BA e C dx)):=by
 refine ⟨x,?_,fun h1 h2 q k=>?_⟩
 ·obtain ⟨oe,vs,ho,_⟩:=x;exact ⟨oe,ho⟩
 ·obtain ⟨oe,vs,ho,r⟩:=q;exact ⟨oe,vs,k oe ho,r⟩
theorem Tq {P:Program} {w:World} {H:Hp} {h:Heap} {e:Addr} (x:Vt e h):ObjOk P w H h e (.ext (Vt e)):=by
 refine ⟨x,?_,fun h1 h2 q k=>?_⟩
 ·obtain ⟨oe,vs,ho,_⟩:=x;exact ⟨oe,ho⟩
 ·obtain ⟨oe,vs,ho,r⟩:=q;exact ⟨oe,vs,k oe ho,r⟩
section
variable {X:Cx} {pins:List (Addr×Obj)} {σ:SS} {H:Hp} {s:Shared} {e:Addr} {C:Value} {dx:Option Addr}
theorem Gw {oe:Obj} {vs:Array Value} {h':Heap} {T:Addr} {fl:Value} (I:Inv X pins σ H s) (hs:X.stack=X.env::X.outer) (hf:X.env.frame=some X.env.locals) (hE:H e=some (.ext (BA e C dx))) (he:s.heap.get? e=some oe) (hd:oe.data=.fields vs)
  (ho:∀ b,vs[1]?=some (.ref b)->b≠e/\H b=some (.ext (Vt b))/\Vt b s.heap) (N:Noted (frs (X.env::X.outer)) s.heap h' e T oe (fun b=>vs[1]?=some (.ref b)) fl) :
  H T=none/\Inv X pins σ (upd H T (.ext (Vt T))) {s with heap:=h'}:=by
 have hT:H T=none:=I.hok.fresh N.newN;have sF:∀ b∈frs (X.env::X.outer),H b=none:=fun b hb=>I.stkFree b (by rw [hs];exact hb)
 have frL:frs (X.env::X.outer)=X.env.locals::X.fs:=by unfold frs;rw [List.filterMap_cons,hf];rfl
 have hz:3<5:=by decide
 have tT:Vt T h':=by obtain ⟨oT,ts,q1,q2,q3⟩:=N.tb;exact ⟨oT,ts,q1,q2,(Array.getElem?_eq_some_iff.mp q3).1⟩
 have nf:∀ b u,H b=some u->b∉frs (X.env::X.outer):=fun b u q z=>by rw [sF b z] at q;cases q
 have eo:=I.hok e _ hE;obtain ⟨⟨oe',vs',q1,q2,q3,q4,q5⟩,_⟩:=eo;rw [he] at q1;cases q1;rw [hd] at q4;cases q4;refine ⟨hT,I.step (g':=s.gens) (t':=s.toks) (d':=s.drawn) (ch:=[]) (fun _ z=>nomatch z) (fun b o h1 h2 _ h4 h5=>?_) (fun b o h1 h2 _ h4 h5=>?_) (fun b o _ h4 h5=>?_) (fun b o _ h4=>?_) (fun b xs q=>?_) (fun b o u q=>?_) (fun b ps q=>?_) (fun m hm=>?_) (fun a o q=>?_) I.bare⟩
 ·refine N.keep b o (fun z=>by rw [z,hE] at h5;cases h5) (fun z=>?_) (fun z=>?_) h4
  ·rw [frL] at z
   rcases List.mem_cons.mp z with z | z
   ·exact h1 z
   ·exact h2 z
  ·rw [(ho b z).2.1] at h5;cases h5
 ·exact N.slot b o (by rw [frL];exact jM _ h2) h4
 ·rw [zu fun z=>?_]
  ·exact h5
  ·rw [z,N.new] at h4;cases h4
 ·by_cases z1:b=e
  ·rw [z1];exact ⟨_,N.exc⟩
  ·by_cases z2:b∈frs (X.env::X.outer)
   ·obtain ⟨sl,q⟩:=N.slot b o z2 h4;exact ⟨_,q⟩
   ·by_cases z3:vs[1]?=some (.ref b)
    ·obtain ⟨_,_,oT,ts,r1,r2,_⟩:=ho b z3;obtain ⟨o',ts',r3,_⟩:=N.before b oT ts z3 r1 r2;exact ⟨o',r3⟩
    ·exact ⟨o,N.keep b o z1 z2 z3 h4⟩
 ·rw [zu (zA q hT)];exact q
 ·rw [zu (zA q hT)];exact q
 ·exact ⟨#[],by rw [zu (zA q hT),q];simp⟩
 ·obtain ⟨o,es,ep,r1,r2⟩:=hm;obtain ⟨sl,q⟩:=N.slot _ o (by rw [frL];exact jC) r1;exact ⟨_,es,ep,q,r2⟩
 ·by_cases z0:a=T
  ·subst z0;rw [zE] at q;cases q;exact Tq tT
  ·rw [zu z0] at q
   by_cases z1:a=e
   ·subst z1;rw [hE] at q;cases q;refine AJ ⟨_,_,N.exc,?_,?_,Obj.data_mapFields hd _,by simpa using q5⟩
    ·rw [Obj.cls_mapFields];exact q2
    ·obtain ⟨c,d,dt,sl⟩:=oe;cases dt<;>exact q3
   ·by_cases z3:vs[1]?=some (.ref a)
    ·obtain ⟨_,r0,oT,ts,r1,r2,r3⟩:=ho a z3;rw [r0] at q;cases q;obtain ⟨o',ts',r4,r5,r6⟩:=N.before a oT ts z3 r1 r2;exact Tq ⟨o',ts',r4,r5,by rw [r6];exact r3⟩
    ·refine (I.hok a o q).stay (fun b u hb r=>?_) (fun b r=>by rw [zu (zA r hT)];exact r) fun b xs r=>by rw [zu (zA r hT)];exact r
     rcases hb with rfl | hb
     ·exact N.keep b u z1 (nf b o q) z3 r
     ·refine N.keep b u (fun z=>by rw [z,hE] at hb;cases hb) (nf b _ hb) (fun z=>?_) r;rw [(ho b z).2.1] at hb;cases hb
theorem GA {Q:Unit->Shared->Prop} {E:Value->Shared->Prop} (I:Inv X pins σ H s) (hs:X.stack=X.env::X.outer) (hf:X.env.frame=some X.env.locals) (F:KM H s.heap e C dx)
  (h:∀ h' H',Same H H'->Inv X pins σ H' {s with heap:=h'}->KM H' h' e C dx->Q () {s with heap:=h'}) :
  wpAny (model X.prog X.w) X.A (noteFrame (.ref e) X.env) (fun _ s'=>wpAny (model X.prog X.w) X.A (setFlight (.ref e) none) Q E s') E s:=by
 obtain ⟨hE,oe,vs,he,hd,ht⟩:=F;have ho:∀ b,vs[1]?=some (.ref b)->b≠e/\H b=some (.ext (Vt b))/\Vt b s.heap:=fun b z=>by
  rcases ht with ht | ⟨T,oT,ts,h1,h2,h3,h4,h5,h6⟩
  ·rw [ht] at z;cases z
  ·rw [h1] at z;cases z;exact ⟨h2,h3,oT,ts,h4,h5,(Array.getElem?_eq_some_iff.mp h6).1⟩
 have st:=I.stack;rw [hs] at st;refine GB (old:=fun b=>vs[1]?=some (.ref b)) (I.ok.frames.trans (by rw [hs])) st hf he hd ?_ fun h' T N=>?_
 ·rcases ht with ht | ⟨T,oT,ts,h1,h2,h3,h4,h5,h6⟩
  ·exact .inl ⟨ht,fun b z=>by rw [ht] at z;cases z⟩
  ·exact .inr ⟨T,oT,ts,h1,h2,h4,h5,h6,fun b=>⟨fun z=>by rw [h1] at z;cases z;rfl,fun z=>z ▸ h1⟩⟩
 ·obtain ⟨hT,J⟩:=Gw I hs hf hE he hd ho N;obtain ⟨oT,ts,r1,r2,r3⟩:=N.tb;have eT:e≠T:=zA hE hT;have hv:1<vs.size:=by
   rcases ht with ht | ⟨T,oT,ts,h1,_⟩
   ·exact (Array.getElem?_eq_some_iff.mp ht).1
   ·exact (Array.getElem?_eq_some_iff.mp h1).1
  refine h h' _ (yv hT) J ⟨by rw [zu eT];exact hE,_,_,N.exc,Obj.data_mapFields hd _,.inr ⟨T,oT,ts,by simp [hv],Ne.symm eT,zE,r1,r2,r3⟩⟩
end
def CXP (P:Program) (w:World):CXT:=fun outer H s E e s'=>∃ ea C dx H',e=.ref ea/\s'.os=s.os/\AllBare s'.gens/\Un (frs outer) [] H H' s.heap s'.heap/\HOk P w H' s'.heap/\KM H' s'.heap ea C dx/\s.heap.get? ea=none/\E C dx H'
theorem QG {X:Cx}:Jw (CXP X.prog X.w) X (XA X):=fun pins σ H s e s' I ⟨ea,C,dx,H',q1,q2,q3,q4,q5,q6,q8,q7⟩=>by
 subst q1;obtain ⟨hh,g,d,t,os'⟩:=s';obtain rfl:os'=s.os:=q2;exact q7 pins σ _ ea (I.call (h':=hh) (g':=g) (d':=d) (t':=t) (ch:=[]) q4 q5 q3 fun b z=>absurd z (by simp)) q6 fun hex=>by
  cases e0:X.s₀.heap.get? ea with
  | none=>rfl
  | some o =>
   obtain ⟨o',e1⟩:=I.base.there ea o e0 (by rw [hex];simp);rw [q8] at e1;cases e1
theorem BC {P:Program} {w:World} {K:PySem.W.Frag} {mg:Str->Option Value} {base:Heap} {N:List Str} {qual:Str} {scope:Scope} {f:Addr} {cd:Value} {A:Around} {outer:List Env} {s:Shared} {H:Hp} {E:XK} {x:XC} (h:EW K E x H) :
  XW (jk (CXP P w) P w K mg base N qual scope f cd A outer s H E) x H:=fun H' C dx sm hc hp nw pins σ s' e I F hnew=>by
 show wpAny (model P w) _ (leaving _ _) _ _ s';unfold leaving;refine jB (GA I rfl rfl F fun h' H2 s2 J F2=>?_);exact ⟨e,C,dx,H2,rfl,J.os,J.bare,J.base,J.hok,F2,hnew rfl,h H2 C dx (sm.trans s2) hc (hp.mono s2) nw⟩
inductive Out where
 | nx (ρ:En) | rt (v:PV) | bk (ρ:En) | ct (ρ:En)
structure Wd (W0:Addr->Prop) (H0:Hp) (W:Addr->Prop) (H:Hp) (σ:SS) (ρ:En):Prop where
 same:Same H0 H
 trk:∀ a,W0 a->H0 a≠none
 sub:∀ a,W0 a->W a
 own:∀ (i:Nat) (s:Sl) (a:Addr),s.Mine->ρ[i]?=some (some s)->σ[i]?=some (some (.ref a))->H0 a=none
 dis:∀ (i j:Nat) (s t:Sl) (a:Addr),s.Mine->t.Mine->ρ[i]?=some (some s)->ρ[j]?=some (some t)->σ[i]?=some (some (.ref a))->σ[j]?=some (some (.ref a))->i=j
theorem Wd.kp {W0:Addr->Prop} {H0:Hp} {W W':Addr->Prop} {H H':Hp} {σ σ':SS} {ρ ρ':En} (w:Wd W0 H0 W H σ ρ) (s:Same H0 H') (b:∀ a,W0 a->W' a) (k:Kp σ σ' ρ ρ'):Wd W0 H0 W' H' σ' ρ' :=
 ⟨s,w.trk,b,fun i vs a m h1 h2=>by obtain ⟨q1,q2⟩:=k i vs m h1;exact w.own i vs a m q1 (q2 ▸ h2),fun i j vs us a m1 m2 h1 h2 h3 h4=>by
  obtain ⟨q1,q2⟩:=k i vs m1 h1;obtain ⟨q3,q4⟩:=k j us m2 h2;exact w.dis i j vs us a m1 m2 q1 q3 (q2 ▸ h3) (q4 ▸ h4)⟩
theorem Kp.refl (σ:SS) (ρ:En):Kp σ σ ρ ρ:=fun _ _ _ h=>⟨h,rfl⟩
theorem Wd.grow {W0:Addr->Prop} {H0:Hp} {W:Addr->Prop} {H H':Hp} {σ:SS} {ρ:En} (w:Wd W0 H0 W H σ ρ) (s:Same H H'):Wd W0 H0 W H' σ ρ:=w.kp (w.same.trans s) w.sub (Kp.refl _ _)
def FinS (X:Cx) (W0:Addr->Prop) (H0:Hp) (W:Addr->Prop) (H:Hp) (D:Ends):Res Out->Prop
 | .ok (.nx ρ)=>∀ σ W' H',Wd W0 H0 W' H' σ ρ->Same (hid W H) (hid W' H')->ER X.K W' H' σ ρ->D.nx σ H'
 | .ok (.bk ρ)=>∀ σ W' H',Wd W0 H0 W' H' σ ρ->Same (hid W H) (hid W' H')->ER X.K W' H' σ ρ->D.bk σ H'
 | .ok (.ct ρ)=>∀ σ W' H',Wd W0 H0 W' H' σ ρ->Same (hid W H) (hid W' H')->ER X.K W' H' σ ρ->D.ct σ H'
 | .ok (.rt v)=>∀ x H',Same H0 H'->Rep X.K (hid W0 H') v x->D.rt x H'
 | .exc x=>XW X x H0
 | .bad=>False
abbrev Ds:=En->Res Out
def tDS (X:Cx) (d:Ds):TS:=fun D σ H=>∃ W0 H0 W ρ,Wd W0 H0 W H σ ρ/\ER X.K W H σ ρ/\FinS X W0 H0 W H D (d ρ)
def DS (X:Cx) (st:Stmt) (d:Ds):Prop:=PS X st (tDS X d)
def DSs (X:Cx) (st:List Stmt) (d:Ds):Prop:=PSs X st (tDS X d)
theorem vt {X:Cx} {e:Stmt} {t t':TS} (h:PS X e t) (i:∀ D σ H,t' D σ H->t D σ H):PS X e t':=fun pins s σ H D I q=>h pins s σ H D I (i D σ H q)
theorem vG {X:Cx} {e:List Stmt} {t t':TS} (h:PSs X e t) (i:∀ D σ H,t' D σ H->t D σ H):PSs X e t':=fun pins s σ H D I q=>h pins s σ H D I (i D σ H q)
section
variable {X:Cx} {W0:Addr->Prop} {H0:Hp} {W W':Addr->Prop} {H H':Hp} {σ:SS} {ρ:En} {D:Ends}
theorem FinS.grow {r:Res Out} (h:FinS X W0 H0 W H D r) (s:Same (hid W H) (hid W' H')):FinS X W0 H0 W' H' D r:=by
 cases r with
 | ok o =>
  cases o with
  | nx ρ=>exact fun σ W2 H2 w s2 e=>h σ W2 H2 w (s.trans s2) e
  | bk ρ=>exact fun σ W2 H2 w s2 e=>h σ W2 H2 w (s.trans s2) e
  | ct ρ=>exact fun σ W2 H2 w s2 e=>h σ W2 H2 w (s.trans s2) e
  | rt v=>exact h
 | exc x=>exact h
 | bad=>exact h
theorem FinS.bind {α:Type} {r:Res α} {f:α->Res Out} (h:FinS X W0 H0 W H D (r.bind f)):On r (fun x=>XW X x H0) fun v=>FinS X W0 H0 W H D (f v):=by
 cases r<;>exact h
theorem On.xw {α:Type} {r:Res α} {k:α->Prop} (s:Same H0 H) (h:On r (fun x=>XW X x H0) k):On r (fun x=>XW X x H) k:=by
 cases r with
 | ok v=>exact h
 | exc x=>exact XW.mono (X:=X) (x:=x) h s
 | bad=>exact h
variable {st:Stmt} {rest:List Stmt} {d d':Ds} {a b:Expr} {da db:De} {pos:Pos}
def wr:Ds:=fun ρ=>.ok (.nx ρ)
def zJ (d d':Ds):Ds:=fun ρ=>(d ρ).bind fun o=>match o with
 | .nx ρ'=>d' ρ'
 | o=>.ok o
theorem yJ:DSs X [] wr:=vG JU fun D σ H ⟨W0,H0,W,ρ,w,er,h⟩=>h σ W H w (Same.refl _) er
theorem zw (h1:DS X st d) (h2:DSs X rest d'):DSs X (st::rest) (zJ d d'):=vG (xG h1 h2) fun D σ H ⟨W0,H0,W,ρ,w,er,h⟩=>by
 refine ⟨W0,H0,W,ρ,w,er,?_⟩;unfold zJ at h;cases e:d ρ with
 | ok o =>
  rw [e] at h;cases o with
  | nx ρ'=>exact fun σ' W' H' w' s' er'=>⟨W0,H0,W',ρ',w',er',FinS.grow (show FinS X W0 H0 W H D (d' ρ') from h) s'⟩
  | bk ρ'=>exact h
  | ct ρ'=>exact h
  | rt v=>exact h
 | exc x=>rw [e] at h;exact h
 | bad=>rw [e] at h;exact h
theorem zt (h1:DS X st d):DSs X [st] d:=ZX h1
def ym (d:De):Ds:=fun ρ=>(d ρ).bind fun v=>.ok (.rt v)
theorem zI (ha:DE X a da):DS X (.Return (some a) pos) (ym da):=vt (QD ha) fun D σ H ⟨W0,H0,W,ρ,w,er,h⟩ =>
 wf da er (h.bind.xw w.same) fun v x H1 s1 er1 r1 h1=>h1 x H1 (w.same.trans s1) (r1.mono (vw w.sub))
def sIf (c:Dt) (d d':Ds):Ds:=fun ρ=>(c ρ).bind fun b=>if b then d ρ else d' ρ
theorem wz {c:Expr} {sa sb:List Stmt} {tc:Dt} (hc:DT X c tc) (ha:DSs X sa d) (hb:DSs X sb d'):DS X (.If c sa sb pos) (sIf tc d d'):=vt (SN hc ha hb) fun D σ H ⟨W0,H0,W,ρ,w,er,h⟩ =>
 Ym tc er (h.bind.xw w.same) fun v H1 s1 er1 h1=>by
  have h2:=FinS.grow h1 (zD (W:=W) s1);cases v with
  | true=>exact Jb ⟨W0,H0,W,ρ,w.grow s1,er1,h2⟩
  | false=>exact UC ⟨W0,H0,W,ρ,w.grow s1,er1,h2⟩
def yk (d:De) (t:Dg):Ds:=fun ρ=>(d ρ).bind fun v=>(t v ρ).bind fun ρ'=>.ok (.nx ρ')
def NoG (t:Dg):Prop:=∀ v ρ z,t v ρ≠.exc z
theorem xD (i:Nat):NoG (zp i):=fun _ _ _ h=>by cases h
theorem Nr (i j:Nat):NoG (vg i j):=fun v ρ z h=>by unfold vg at h;split at h<;>cases h
theorem zL {i:Nat} {x:Str} {p2:Pos} (hN:X.N.Nodup) (hi:X.N[i]?=some x) (hx:Loc X.env.scope x) (ha:DE X a da) (hs:swapsWith a (some (.Name x p2)) pos.line X.env=pure false:=by rfl) (hf:X.fn x=true\/X.env.scope.names.lookup x=some .local) :
  DS X (.Assign [.Name x p2] a pos) (yk da (zp i)):=vt (uY hN hi hx ha hs hf) fun D σ H ⟨W0,H0,W,ρ,w,er,h⟩ =>
 wf da er (h.bind.xw w.same) fun v x H1 s1 er1 r1 h1 =>
  h1 (σ.set i (some x)) W H1 ((w.grow s1).kp (w.same.trans s1) w.sub (Kp.set i _ _)) (zD s1) (er1.set r1 i)
def MF:Ds:=fun _=>.bad
theorem Jm:DS X st MF:=vt MV fun D σ H ⟨W0,H0,W,ρ,w,er,h⟩=>h
def ji (t:Dg) (b:Ds):List PV->En->Res Out
 | [],ρ=>.ok (.nx ρ)
 | v::vs,ρ=>(t v ρ).bind fun ρ1=>(b ρ1).bind fun o=>match o with
  | .nx ρ2=>ji t b vs ρ2
  | .ct ρ2=>ji t b vs ρ2
  | .bk ρ2=>.ok (.nx ρ2)
  | .rt v=>.ok (.rt v)
def uw (di:Di) (t:Dg) (b:Ds):Ds:=fun ρ=>(di ρ).bind fun vs=>ji t b vs ρ
theorem TJ {σ:SS} {ρ:En} {H:Hp} (d:Di) {R:It->Hp->Prop} {k:List PV->Prop} (er:ER X.K W H σ ρ) (h:On (d ρ) (fun x=>XW X x H) k)
  (hk:∀ vs J H',Same H H'->ER X.K W H' σ ρ->ZT X.K (hid W H') J vs->k vs->R J H'):tDI X d σ H R:=by
 refine ⟨W,ρ,er,?_⟩;cases e:d ρ with
 | ok v=>rw [e] at h;exact fun J H' s it=>hk v J H' s (er.mono s) it h
 | exc x=>rw [e] at h;exact h
 | bad=>rw [e] at h;exact h
theorem xU {tg iter:Expr} {body:List Stmt} {di:Di} {t:Dg} {db:Ds} (hp:PassesOwn (model X.prog X.w) X.A X.env X.xe) (hc:X.calm=true) (hi:DI X tg iter di) (hg:DG X tg t) (hb:DSs X body db) (ng:NoG t)
  (hs:∀ x,foldedSetIterable iter X.env x=pure x:=by intro _;rfl):DS X (.For tg iter body [] pos) (uw di t db):=vt (MW hp hc hi hg hb hs) fun D σ H ⟨W0,H0,W,ρ,w,er,h⟩=>by
 refine TJ di er (h.bind.xw w.same) fun vs J H1 s1 er1 it h1=>?_
 refine ⟨fun i m σ' H'=>m=vs.length-i/\i<=vs.length/\∃ W' ρ',Wd W0 H0 W' H' σ' ρ'/\Same (hid W H1) (hid W' H')/\ER X.K W' H' σ' ρ'/\FinS X W0 H0 W' H' D (ji t db (vs.drop i) ρ'),
  ⟨vs.length,rfl,Nat.zero_le _,W,ρ,w.grow s1,Same.refl _,er1,FinS.grow h1 (zD (W:=W) s1)⟩,?_⟩
 rintro i m σ2 H2 ⟨rfl,hi,W2,ρ2,w2,s2,er2,h2⟩;have hGH:Same (hid W H1) H2:=s2.trans hid_sub
 by_cases hlt:i<vs.length
 ·right
  have ev:vs[i]?=some vs[i]:=by simp [hlt]
  have edr:vs.drop i=vs[i]::vs.drop (i+1):=List.drop_eq_getElem_cons hlt;obtain ⟨go,yl⟩:=(it i H2 hGH).1 vs[i] ev;refine ⟨go,fun σ' H'=>∃ W' ρ',Wd W0 H0 W' H' σ' ρ'/\Same (hid W H1) (hid W' H')/\ER X.K W' H' σ' ρ'/\FinS X W0 H0 W' H' D (ji t db (vs.drop (i+1)) ρ'),fun σ' H' q=>⟨vs.length-(i+1),by lia,rfl,hlt,q⟩,fun x H3 y3=>?_⟩
  obtain ⟨s23,rp⟩:=yl x H3 y3;have rep:=rp W2 er2.trk s2;have er3:=er2.mono s23;have w3:=w2.grow s23;have sG3:Same (hid W H1) (hid W2 H3):=s2.trans (zD s23);rw [edr,ji] at h2;have h3:=FinS.grow h2 (zD (W:=W2) s23);cases et:t vs[i] ρ2 with
  | exc z=>exact absurd et (ng _ _ _)
  | bad=>rw [et] at h3;exact h3.elim
  | ok ρ4 =>
   rw [et,Res.bind_ok] at h3;refine ⟨W2,ρ2,vs[i],er3,rep,ρ4,et,fun σ4 er4 k4=>⟨W0,H0,W2,ρ4,w3.kp w3.same w3.sub k4,er4,?_⟩⟩
   cases eb:db ρ4 with
   | exc z=>rw [eb] at h3;exact h3
   | bad=>rw [eb] at h3;exact h3.elim
   | ok o =>
    rw [eb] at h3;cases o with
    | nx ρ5=>exact fun σ5 W5 H5 w5 s5 er5=>⟨W5,ρ5,w5,sG3.trans s5,er5,FinS.grow (show FinS X W0 H0 W2 H3 D (ji t db (vs.drop (i+1)) ρ5) from h3) s5⟩
    | ct ρ5=>exact fun σ5 W5 H5 w5 s5 er5=>⟨W5,ρ5,w5,sG3.trans s5,er5,FinS.grow (show FinS X W0 H0 W2 H3 D (ji t db (vs.drop (i+1)) ρ5) from h3) s5⟩
    | bk ρ5=>exact h3
    | rt v=>exact h3
 ·left
  have hie:i=vs.length:=by lia
  subst hie;rw [List.drop_length] at h2;exact ⟨(it vs.length H2 hGH).2 rfl,h2 σ2 W2 H2 w2 (Same.refl _) er2⟩
end
abbrev Df:=List PV->Res PV
def SpR (K:PySem.W.Frag) (W:Addr->Prop) (H:Hp) (Q:VK) (E:XK):Res PV->Prop
 | .ok z=>OkQ K W H Q z
 | .exc x=>EW K E x H
 | .bad=>False
def spD (K:PySem.W.Frag) (n:Nat) (f:Df):Sp:=fun xs H Q E=>∃ W vs,(∀ a,W a->H a≠none)/\Reps K (hid W H) vs xs/\xs.length=n/\SpR K W H Q E (f vs)
def spO (K:PySem.W.Frag) (n:Nat) (f:Df):Sp:=fun xs H Q E=>∃ W vs,(∀ a,W a->H a≠none)/\Reps K (hid W H) vs xs/\xs.length=n/\∃ z,f vs=.ok z/\OkQ K W H Q z
def FnD (P:Program) (w:World) (K:PySem.W.Frag) (mg:Str->Option Value) (base:Heap) (k:Nat) (f:Addr) (fd:FuncData) (ps:List Str) (D:Df):Prop:=FnOk P w K mg base (CXP P w) k f fd ps (spD K ps.length D)
theorem FnD.no {P:Program} {w:World} {K:PySem.W.Frag} {mg:Str->Option Value} {base:Heap} {k:Nat} {f:Addr} {fd:FuncData} {ps:List Str} {D:Df} (F:FnD P w K mg base k f fd ps D):FnOk P w K mg base CX0 k f fd ps (spO K ps.length D) :=
 ⟨fun vs H Q E ⟨_,_,_,_,h,_⟩=>h,fun A outer s H args us vs Q E hr he hb hv ⟨W,ws,tk,r,hl,z,e,q⟩ =>
  codeAny_mono (F.run A outer s H args us vs Q (fun _ _ _=>False) hr he hb hv ⟨W,ws,tk,r,hl,by rw [e];exact q⟩) fun r s' h=>by
   cases r with
   | ok f=>cases f<;>exact h
   | error e=>obtain ⟨_,_,_,_,_,_,_,_,_,_,_,h⟩:=h;exact h⟩
section
variable {X:Cx} {k:Nat} {f:Addr} {fd:FuncData} {ps:List Str} {g:Df} {x:Str} {p pos:Pos} {a:Expr} {es:List Expr} {ds:Das}
theorem Sn (F:FnD X.prog X.w X.K X.mg X.base k f fd ps g) (hr:Room k X.A) (hg:Gl X x) (hm:X.mg x=some (.ref f)) (hk:PySem.W.keepIn X.K (.ref f)=true) (hb:Binds X.K fd ps []) (hl:(a::es).length=ps.length)
  (hn:∀ ρ vs,ds ρ=.ok vs->vs.length=(a::es).length) (ha:DA X (a::es) ds) (hdb:(x==("__debug__" : Str))=false:=by decide) (he:starEach (a::es) X.env=(false,eval a X.env)::starEach es X.env:=by rfl) (hpl:(backTo pos (starEach es X.env)).any (·.1)=false:=by rfl) :
  DE X (.Call (.Name x p) (a::es) [] pos) (eB g ds):=yI (WH F hr hg hm hk hb .nil QG ha hdb he hpl) fun σ H Q ⟨W,ρ,er,h⟩=>by
 unfold eB at h;refine ⟨W,ρ,er,?_⟩;cases e1:ds ρ with
 | exc z=>rw [e1] at h;exact h
 | bad=>rw [e1] at h;exact h.elim
 | ok vs =>
  rw [e1,Res.bind_ok] at h;refine fun xs H1 s1 r1=>?_
  show spD X.K ps.length g (xs++[]) H1 Q (XA X);rw [List.append_nil];refine ⟨W,vs,(er.mono s1).trk,r1,by rw [r1.length,hn ρ vs e1,hl],?_⟩;cases e2:g vs with
  | exc z=>rw [e2] at h;exact EW.mono h s1
  | bad=>rw [e2] at h;exact h.elim
  | ok z=>rw [e2] at h;exact wO h s1
end
def zH (n:Nat) (vs:List PV):En:=vs.map (fun v=>some (Sl.val v))++List.replicate (n-vs.length) none
def yC (n:Nat) (d:Ds):Df:=fun vs=>(d (zH n vs)).bind fun o=>match o with
 | .rt v=>.ok v
 | .nx _=>.ok .non
 | _=>.bad
theorem jN {K:PySem.W.Frag} {W:Addr->Prop} {H:Hp} {N:List Str} {vs:List PV} {xs:List V} (tk:∀ a,W a->H a≠none) (r:Reps K (hid W H) vs xs):ER K W H (L2.start N xs) (zH N.length vs):=by
 refine ⟨by simp [zH,L2.start,r.length],fun i s q=>?_,tk⟩
 unfold zH at q
 by_cases hi:i<vs.length
 ·rw [List.getElem?_append_left (by simpa using hi),List.getElem?_map] at q;have e:vs[i]?=some vs[i]:=by simp [hi]
  rw [e] at q;cases q;obtain ⟨x,e1,r1⟩:=r.get e;refine ⟨x,?_,r1⟩;unfold L2.start;rw [List.getElem?_append_left (by simp [r.length];exact hi),List.getElem?_map,e1];rfl
 ·rw [List.getElem?_append_right (by simpa using hi),List.getElem?_replicate] at q
  split at q<;>cases q
theorem qJ {n:Nat} {vs:List PV} {s:Sl} (m:s.Mine) {i:Nat}:(zH n vs)[i]?≠some (some s):=fun q=>by
 unfold zH at q
 by_cases hi:i<vs.length
 ·rw [List.getElem?_append_left (by simpa using hi),List.getElem?_map] at q;have e:vs[i]?=some vs[i]:=by simp [hi]
  rw [e] at q;cases q;exact m
 ·rw [List.getElem?_append_right (by simpa using hi),List.getElem?_replicate] at q
  split at q<;>cases q
section
variable {P:Program} {w:World} {K:PySem.W.Frag} {mg:Str->Option Value} {base:Heap}
theorem fnD {x qual:Str} {st:Stmt} {f:Addr} {fd:FuncData} {N ps:List Str} {k:Nat} {d:Ds} (F:Fun K x qual st f fd) (S:FnScope N ps (zk st))
  (hbody:∀ (cdv:Value) (A:Around) (outer:List Env) (s:Shared) (H:Hp) (E:XK),Room k (A.deeper (envOfC qual (zk st) s.heap.objs.size f cdv)) ->
   DSs (jk (CXP P w) P w K mg base N qual (zk st) f cdv A outer s H E) (yQ st) d):FnD P w K mg base (k+1) f fd ps (yC N.length d):=by
 obtain ⟨oc,od,kV,doc,pm,an,cdv,ct,osl,rfl,lk,hcd⟩:=F.ex;refine Ks lk hcd S (fun vs H Q E ⟨_,_,_,_,h,_⟩=>h) fun A outer s H xs Q E hr ⟨W,vs,tk,r,hl,q⟩=>?_
 refine ⟨_,hbody cdv A outer s H E hr,W,H,W,zH N.length vs,?_,jN tk r,?_⟩
 ·exact ⟨Same.refl _,tk,fun _ h=>h,fun i s a m h=>absurd h (qJ m),fun i j s t a m _ h=>absurd h (qJ m)⟩
 ·unfold yC at q;cases ed:d (zH N.length vs) with
  | exc z=>rw [ed] at q;exact BC q
  | bad=>rw [ed] at q;exact q
  | ok o =>
   rw [ed] at q;cases o with
   | rt v=>exact fun x H' s' r'=>q x H' s' r'
   | nx ρ=>exact fun σ W' H' w' s' er'=>q .non H' w'.same (Rep.non.mpr rfl)
   | bk ρ=>exact q.elim
   | ct ρ=>exact q.elim
end
section
variable {prog:Program} {w:World} {A:Around}
theorem SC (k:Kd) (hh:A.handled=none) {it a:Addr} {items:Array Value} (hne:a≠it) :
  WalksS prog w A it [it,a] [it] (fun x y=>x=y) items.size (fun i v=>items[i]?=some v) (fun i s=>IsIt k s.heap it a i/\IsSq k s.heap a items) where
 sub:=fun b hb=>by simp at hb;simp [hb]
 grefl:=fun _=>rfl
 gtrans:=fun _ _ _ h1 h2=>h1.trans h2
 frame:=fun i s h' tk ⟨h1,h2⟩ _ kp=>⟨h1.to fun o e=>kp it (by simp) o e,h2.to fun o e=>kp a (by simp) o e⟩
 item:=fun i s Q E hi ⟨h1,h2⟩ q=>by
  have fin:∀ h':Heap,IsIt k h' it a (i+1)->Heap.SameBut it s.heap h'->Q (some items[i]) {s with heap:=h'}:=fun h' st sb =>
   q items[i] {s with heap:=h'} (by simp [hi]) ⟨st,h2.to fun o e=>sb.extBut a o hne e⟩ ⟨fun b o hb e=>sb.extBut b o (fun z=>hb (by simp [z])) e,rfl,rfl,rfl,Nat.le_refl _⟩
  cases k with
  | L=>exact wpAny_pyNext_list_item h1 h2 (x:=items[i]) (by simp [hi]) fin
  | T=>exact wpAny_pyNext_tuple_item h1 h2 (x:=items[i]) (by simp [hi]) fin
 done:=fun s Q E ⟨h1,h2⟩ q=>by
  have fin:∀ h':Heap,Heap.ExtBut it s.heap h'->Q none {s with heap:=h'}:=fun h' eb =>
   q {s with heap:=h'} ⟨fun b o hb e=>eb b o (fun z=>hb (by simp [z])) e,rfl,rfl,rfl,Nat.le_refl _⟩
  cases k with
  | L=>exact wpAny_pyNext_list_end hh h1 h2 (by simp) fin
  | T=>exact wpAny_pyNext_tuple_end hh h1 h2 (by simp) fin
 self:=fun i s Q E ⟨h1,h2⟩ q=>by
  cases k with
  | L=>exact wpAny_pyIter_listiter h1 q
  | T=>exact wpAny_pyIter_tupleiter h1 q
end
def yZ:List PV->Option (List Int)
 | []=>some []
 | .int i::vs=>(yZ vs).map (i::·)
 | _=>none
def ul:List PV->Option (List Bool)
 | []=>some []
 | .bl i::vs=>(ul vs).map (i::·)
 | _=>none
theorem wC:∀ {vs:List PV} {ns:List Int},yZ vs=some ns->vs=ns.map PV.int
 | [],ns,h=>by simp [yZ] at h;simp [h]
 | .int i::vs,ns,h=>by
  simp only [yZ] at h;cases e:yZ vs with
  | none=>rw [e] at h;simp at h
  | some ms=>rw [e] at h;simp at h;subst h;rw [wC e];rfl
 | .non::_,_,h=>by simp [yZ] at h
 | .bl _::_,_,h=>by simp [yZ] at h
 | .str _::_,_,h=>by simp [yZ] at h
 | .lst _::_,_,h=>by simp [yZ] at h
 | .tup _::_,_,h=>by simp [yZ] at h
theorem Wc:∀ {vs:List PV} {ns:List Bool},ul vs=some ns->vs=ns.map PV.bl
 | [],ns,h=>by simp [ul] at h;simp [h]
 | .bl i::vs,ns,h=>by
  simp only [ul] at h;cases e:ul vs with
  | none=>rw [e] at h;simp at h
  | some ms=>rw [e] at h;simp at h;subst h;rw [Wc e];rfl
 | .non::_,_,h=>by simp [ul] at h
 | .int _::_,_,h=>by simp [ul] at h
 | .str _::_,_,h=>by simp [ul] at h
 | .lst _::_,_,h=>by simp [ul] at h
 | .tup _::_,_,h=>by simp [ul] at h
theorem xR (ns:List Int):yZ (ns.map PV.int)=some ns:=by
 induction ns with
 | nil=>rfl
 | cons n ns ih=>simp [yZ,ih]
theorem GZ (ns:List Bool):ul (ns.map PV.bl)=some ns:=by
 induction ns with
 | nil=>rfl
 | cons n ns ih=>simp [ul,ih]
def qR {α:Type}:Option α->Res α
 | some a=>.ok a
 | none=>.bad
theorem jy {α β:Type} {o:Option α} {f:α->Res β} {z:β} (h:(qR o).bind f=.ok z):∃ a,o=some a/\f a=.ok z:=by
 cases o with
 | none=>cases h
 | some a=>exact ⟨a,rfl,h⟩
theorem bind_ok {α β:Type} {r:Res α} {f:α->Res β} {z:β} (h:r.bind f=.ok z):∃ a,r=.ok a/\f a=.ok z:=by
 cases r with
 | ok a=>exact ⟨a,rfl,h⟩
 | exc x=>cases h
 | bad=>cases h
def qP:List PV->Res PV
 | [v]=>(vC v).bind fun xs=>(qR (yZ xs)).bind fun ns=>.ok (.int ns.sum)
 | _=>.bad
def Vs:List PV->Res PV
 | [v]=>(vC v).bind fun xs=>(qR (ul xs)).bind fun ns=>.ok (.bl (ns.all id))
 | _=>.bad
theorem Yb {α:Type} {o:Option α} {x:XC}:qR o≠.exc x:=by cases o<;>intro h<;>cases h
theorem jY {α β:Type} {r:Res α} {f:α->Res β} (h1:∀ x,r≠.exc x) (h2:∀ a x,f a≠.exc x) (x:XC):r.bind f≠.exc x:=by
 cases r with
 | ok a=>exact h2 a x
 | exc y=>exact absurd rfl (h1 y)
 | bad=>intro h;cases h
theorem WV:Vu qP:=fun vs x=>by
 unfold qP
 split
 ·exact jY (fun x=>qw) (fun a=>jY (fun x=>Yb) fun _ _ h=>by cases h) x
 ·intro h;cases h
theorem QW:Vu Vs:=fun vs x=>by
 unfold Vs
 split
 ·exact jY (fun x=>qw) (fun a=>jY (fun x=>Yb) fun _ _ h=>by cases h) x
 ·intro h;cases h
theorem Yz (ns:List Int):∀ j,j<=ns.length->preSum (fun i=>ns.getD i 0) j=(ns.take j).sum
 | 0,_=>by simp [preSum]
 | j+1,h=>by
  have e:ns[j]?=some ns[j]:=by simp [show j<ns.length by lia]
  have e2:ns.getD j 0=ns[j]:=by simp [List.getD,e]
  have e3:ns.take (j+1)=ns.take j++[ns[j]]:=by rw [List.take_add_one,e];rfl
  rw [preSum,Yz ns j (by lia),e3,List.sum_append,e2];simp
section
variable {X:Cx} {pins:List (Addr×Obj)} {σ:SS} {H:Hp} {s:Shared}
theorem Vy:∀ {ns:List Int} {xs:List V} {us:List Value},Reps X.K H (ns.map PV.int) xs->Vals xs us->∀ (i:Nat) (v:Value),us[i]?=some v->∃ t,v=Value.int (ns.getD i 0) t
 | [],xs,us,r,q,i,v,e=>by
  obtain rfl:=Reps.nil.mp r;cases q;simp at e
 | n::ns,xs,us,r,q,i,v,e=>by
  obtain ⟨x,t,rfl,r1,r2⟩:=Reps.cons.mp r;obtain rfl:=Rep.int.mp r1;cases q with
  | cons q1 q2 =>
   cases i with
   | zero =>
    simp at e;subst e;obtain ⟨t,rfl⟩:=q1;exact ⟨t,by simp⟩
   | succ i =>
    obtain ⟨t,h⟩:=Vy r2 q2 i v (by simpa using e);exact ⟨t,by simpa using h⟩
theorem Jz:∀ {ns:List Bool} {xs:List V} {us:List Value},Reps X.K H (ns.map PV.bl) xs->Vals xs us->∀ (i:Nat) (v:Value),us[i]?=some v->v=Value.bool (ns.getD i true)
 | [],xs,us,r,q,i,v,e=>by
  obtain rfl:=Reps.nil.mp r;cases q;simp at e
 | n::ns,xs,us,r,q,i,v,e=>by
  obtain ⟨x,t,rfl,r1,r2⟩:=Reps.cons.mp r;obtain rfl:=Rep.bl.mp r1;cases q with
  | cons q1 q2 =>
   cases i with
   | zero =>
    simp at e;subst e;cases q1;simp
   | succ i =>
    have h:=Jz r2 q2 i v (by simpa using e);simpa using h
theorem YX {it:Addr} {h2:Heap} {s':Shared} (I:L2.Inv X pins σ H s) (hk:∀ b o,s.heap.get? b=some o->h2.get? b=some o) (hit:it=s.heap.objs.size)
  (mv:Moved [it] (fun x y=>x=y) {s with heap:=h2} s'):L2.Inv X pins σ H s':=by
 obtain ⟨h,g,d,t,os⟩:=s';have e1:s.gens=g:=mv.gens;have e2:d=s.drawn:=mv.drawn;have e3:os=s.os:=mv.os;subst e1 e2 e3;refine I.kept (t':=t) fun b o e=>mv.heap b o ?_ (hk b o e)
 intro z;have:b=it:=by simpa using z
 rw [this,hit] at e;exact absurd (jH e) (Nat.lt_irrefl _)
theorem Ma (ns:List Bool) (n:Nat) (hn:n=ns.length):((List.range n).all fun i=>ns.getD i true)=ns.all id:=by
 subst hn;rw [Bool.eq_iff_iff,List.all_eq_true,List.all_eq_true]
 constructor
 ·intro h b hb;obtain ⟨i,hi,e⟩:=List.mem_iff_getElem.mp hb;have:=h i (by simpa using hi);rw [List.getD_eq_getElem?_getD,List.getElem?_eq_getElem hi] at this;simpa [e] using this
 ·intro h i hi;have hi':i<ns.length:=by simpa using hi
  rw [List.getD_eq_getElem?_getD,List.getElem?_eq_getElem hi'];simpa using h _ (List.getElem_mem hi')
theorem SH {k:Kd} {h:Heap} {a:Addr} {xs:Array Value} (x:IsSq k h a xs):a<h.objs.size:=by
 cases k with
 | L=>obtain ⟨o,ho,_⟩:=x;exact jH ho
 | T=>obtain ⟨o,ho,_⟩:=x;exact jH ho
theorem qN (hc:X.calm=true):vb X (.builtin "sum") (rC X qP):=by
 intro pins s σ H xs us Q I rs ⟨W,vs,tk,r,z,e,q⟩;unfold qP at e
 split at e
 ·rename_i v
  obtain ⟨l,e1,e⟩:=bind_ok e;obtain ⟨ns,e2,e⟩:=jy e;cases e;obtain rfl:=wC e2;obtain ⟨x,t,rfl,r1,r2⟩:=Reps.cons.mp r;obtain rfl:=Reps.nil.mp r2;obtain ⟨k,a,ys,rfl,q1,q2⟩:=vj e1 r1;obtain ⟨u,rfl,ru⟩:=wM rs;cases ru;obtain ⟨its,rv,p1⟩:=(wj hid_sub q1).sq I;have hlt:=SH p1;refine call_sum_walkAnyS (Kl p1 fun h' hsz hit hk=>?_);refine ⟨s.heap.objs.size,_,_,_,its.toArray.size,_,_,fun i=>ns.getD i 0,rfl,SC (A:=X.A.in1) (items:=its.toArray) k (show X.A.in1.handled=none from I.ok.hd hc) (Nat.ne_of_lt hlt),⟨hit,p1.to fun o e=>hk a o e⟩,fun b hb=>?_,fun i v hv=>?_,fun s' t' mv=>?_⟩
  ·simp only [List.mem_cons,List.not_mem_nil,or_false] at hb;show b<h'.objs.size;rw [hsz]
   rcases hb with rfl | rfl
   ·exact Nat.lt_succ_self _
   ·exact Nat.lt_succ_of_lt hlt
  ·exact Vy q2 rv i v (by simpa using hv)
  ·have hl:its.length=ns.length:=by rw [<- rv.length,q2.length];simp
   refine ⟨.int ns.sum,H,YX I hk rfl mv,⟨t',?_⟩,q _ H (Same.refl H) (Rep.int.mpr rfl)⟩;rw [show its.toArray.size=ns.length by simpa using hl,Yz ns _ (Nat.le_refl _),List.take_length]
 ·cases e
theorem ZC (hc:X.calm=true):vb X (.builtin "all") (rC X Vs):=by
 intro pins s σ H xs us Q I rs ⟨W,vs,tk,r,z,e,q⟩;unfold Vs at e
 split at e
 ·rename_i v
  obtain ⟨l,e1,e⟩:=bind_ok e;obtain ⟨ns,e2,e⟩:=jy e;cases e;obtain rfl:=Wc e2;obtain ⟨x,t,rfl,r1,r2⟩:=Reps.cons.mp r;obtain rfl:=Reps.nil.mp r2;obtain ⟨k,a,ys,rfl,q1,q2⟩:=vj e1 r1;obtain ⟨u,rfl,ru⟩:=wM rs;cases ru;obtain ⟨its,rv,p1⟩:=(wj hid_sub q1).sq I;have hlt:=SH p1;refine call_all_walkS (Kl p1 fun h' hsz hit hk=>?_);refine ⟨s.heap.objs.size,_,_,_,its.toArray.size,_,_,fun i=>ns.getD i true,rfl,SC (A:=X.A.in1) (items:=its.toArray) k (show X.A.in1.handled=none from I.ok.hd hc) (Nat.ne_of_lt hlt),⟨hit,p1.to fun o e=>hk a o e⟩,fun i v s' Q' E' hv hQ=>?_,fun s' mv=>?_⟩
  ·rw [Jz q2 rv i v (by simpa using hv)];exact wpAny_truthy_bool hQ
  ·have hl:its.length=ns.length:=by rw [<- rv.length,q2.length];simp
   refine ⟨.bl (ns.all id),H,YX I hk rfl mv,?_,q _ H (Same.refl H) (Rep.bl.mpr rfl)⟩;show Value.bool _=Value.bool _;rw [Ma ns _ (by simpa using hl)]
 ·cases e
def vD:List PV->Res PV
 | [.lst xs]=>.ok (.int xs.length)
 | [.tup xs]=>.ok (.int xs.length)
 | [.str x]=>if x.length<=sizeLine then .ok (.int x.length) else .bad
 | _=>.bad
theorem vN:Vu vD:=fun vs x h=>by
 unfold vD at h
 split at h
 ·cases h
 ·cases h
 ·split at h<;>cases h
 ·cases h
theorem xp:vb X (.builtin "len") (rC X vD):=by
 intro pins s σ H xs us Q I rs ⟨W,vs,tk,r,z,e,q⟩;unfold vD at e
 split at e
 ·obtain ⟨x,t,rfl,r1,r2⟩:=Reps.cons.mp r;obtain rfl:=Reps.nil.mp r2;cases e;obtain ⟨a,ys,rfl,h1,h2⟩:=Rep.lst'.mp r1;exact jX pins s σ H _ us Q I rs ⟨a,ys,rfl,.inl (xP h1),by rw [h2.length];exact q _ H (Same.refl H) (Rep.int.mpr rfl)⟩
 ·obtain ⟨x,t,rfl,r1,r2⟩:=Reps.cons.mp r;obtain rfl:=Reps.nil.mp r2;cases e;obtain ⟨a,ys,rfl,h1,h2⟩:=Rep.tup'.mp r1;exact jX pins s σ H _ us Q I rs ⟨a,ys,rfl,.inr (yU h1),by rw [h2.length];exact q _ H (Same.refl H) (Rep.int.mpr rfl)⟩
 ·split at e
  ·rename_i hz
   cases e;obtain ⟨x,t,rfl,r1,r2⟩:=Reps.cons.mp r;obtain rfl:=Reps.nil.mp r2;obtain rfl:=Rep.str.mp r1;exact Vn pins s σ H _ us Q I rs ⟨_,rfl,hz,q _ H (Same.refl H) (Rep.int.mpr rfl)⟩
  ·cases e
 ·cases e
def qX:List PV->Res PV
 | [.lst xs]=>.ok (.tup xs)
 | [.tup xs]=>.ok (.tup xs)
 | _=>.bad
def je:List PV->Res PV
 | [.lst xs]=>.ok (.lst xs)
 | [.tup xs]=>.ok (.lst xs)
 | _=>.bad
def Xi:List PV->Res PV
 | [.int i]=>.ok (.int i)
 | [.bl k]=>.ok (.int (if k then 1 else 0))
 | _=>.bad
theorem qf:Vu qX:=fun vs x h=>by unfold qX at h;split at h<;>cases h
theorem RP:Vu je:=fun vs x h=>by unfold je at h;split at h<;>cases h
theorem RR:Vu Xi:=fun vs x h=>by unfold Xi at h;split at h<;>cases h
theorem wc:vb X (.type "tuple") (rC X qX):=by
 intro pins s σ H xs us Q I rs ⟨W,vs,tk,r,z,e,q⟩;unfold qX at e
 split at e
 ·obtain ⟨x,t,rfl,r1,r2⟩:=Reps.cons.mp r;obtain rfl:=Reps.nil.mp r2;cases e;obtain ⟨a,ys,rfl,h1,h2⟩:=Rep.lst'.mp r1;exact qU pins s σ H _ us Q I rs ⟨a,ys,rfl,.inl ⟨xP h1,fun p hp=>Yd q tk h2 hp⟩⟩
 ·obtain ⟨x,t,rfl,r1,r2⟩:=Reps.cons.mp r;obtain rfl:=Reps.nil.mp r2;cases e;obtain ⟨a,ys,rfl,h1,h2⟩:=Rep.tup'.mp r1;exact qU pins s σ H _ us Q I rs ⟨a,ys,rfl,.inr ⟨yU h1,q _ H (Same.refl H) r1⟩⟩
 ·cases e
theorem GX:vb X (.type "list") (rC X je):=by
 intro pins s σ H xs us Q I rs ⟨W,vs,tk,r,z,e,q⟩;unfold je at e
 split at e
 ·obtain ⟨x,t,rfl,r1,r2⟩:=Reps.cons.mp r;obtain rfl:=Reps.nil.mp r2;cases e;obtain ⟨a,ys,rfl,h1,h2⟩:=Rep.lst'.mp r1;exact vd pins s σ H _ us Q I rs ⟨a,ys,rfl,.inl (xP h1),fun p hp=>uF q tk h2 hp⟩
 ·obtain ⟨x,t,rfl,r1,r2⟩:=Reps.cons.mp r;obtain rfl:=Reps.nil.mp r2;cases e;obtain ⟨a,ys,rfl,h1,h2⟩:=Rep.tup'.mp r1;exact vd pins s σ H _ us Q I rs ⟨a,ys,rfl,.inr (yU h1),fun p hp=>uF q tk h2 hp⟩
 ·cases e
theorem GY:vb X (.type "int") (rC X Xi):=by
 intro pins s σ H xs us Q I rs ⟨W,vs,tk,r,z,e,q⟩;unfold Xi at e
 split at e
 ·obtain ⟨x,t,rfl,r1,r2⟩:=Reps.cons.mp r;obtain rfl:=Reps.nil.mp r2;obtain rfl:=Rep.int.mp r1;cases e;exact XZ pins s σ H _ us Q I rs (.inl ⟨_,rfl,q _ H (Same.refl H) (Rep.int.mpr rfl)⟩)
 ·obtain ⟨x,t,rfl,r1,r2⟩:=Reps.cons.mp r;obtain rfl:=Reps.nil.mp r2;obtain rfl:=Rep.bl.mp r1;cases e;exact XZ pins s σ H _ us Q I rs (.inr ⟨_,rfl,q _ H (Same.refl H) (Rep.int.mpr rfl)⟩)
 ·cases e
end
end Pu
namespace Pu
open PySem PySem.Spec PyProof.Rows L2 PySem.SeqAt
abbrev eC (v:PV):De:=fun _=>.ok v
theorem zy:∀ (ρ:En) (vs:List PV),zj ρ=.ok vs->vs.length=0:=fun _ _ h=>by cases h;rfl
theorem zh {d:De} {ds:Das} {n:Nat} (h:∀ (ρ:En) (vs:List PV),ds ρ=.ok vs->vs.length=n):∀ (ρ:En) (vs:List PV),zd d ds ρ=.ok vs->vs.length=n+1:=fun ρ vs e=>by
 unfold zd at e;obtain ⟨v,_,e⟩:=bind_ok e;obtain ⟨us,e1,e⟩:=bind_ok e;cases e;simp [h ρ us e1]
theorem Vi {ρ:En} {i:Nat} {o:Option Sl} (h:ρ[i]?=some none):Ext ρ (ρ.set i o):=⟨by simp,fun j s q=>by
 rw [List.getElem?_set]
 by_cases e:i=j
 ·subst e;rw [h] at q;cases q
 ·rw [if_neg e];exact q⟩
theorem Ext.trans {a b c:En} (h:Ext a b) (g:Ext b c):Ext a c:=⟨h.1.trans g.1,fun i s q=>g.2 i s (h.2 i s q)⟩
theorem ZB {k:Nat} {idx:List Nat} {ρ:En} {i:Nat} (h:i<k):(zV k idx ρ)[i]?=some none:=by
 unfold zV;rw [List.getElem?_append_left (by simpa using h),List.getElem?_replicate,if_pos h]
theorem zK (i:Nat) {k:Nat} {idx:List Nat} (h:decide (i<k)=true):∀ (ρ:En) (v:PV) (ρ1:En),zp i v (zV k idx ρ)=.ok ρ1->Ext (zV k idx ρ) ρ1:=fun ρ v ρ1 e=>by
 cases e;exact Vi (ZB (of_decide_eq_true h))
theorem qE (i j:Nat) {k:Nat} {idx:List Nat} (h:decide (i<k/\j<k/\i≠j)=true):∀ (ρ:En) (v:PV) (ρ1:En),vg i j v (zV k idx ρ)=.ok ρ1->Ext (zV k idx ρ) ρ1:=fun ρ v ρ1 e=>by
 obtain ⟨h1,h2,h3⟩:=of_decide_eq_true h;unfold vg at e
 split at e
 ·cases e;refine (Vi (ZB h1)).trans (Vi ?_);rw [List.getElem?_set,if_neg h3];exact ZB h2
 ·cases e
def zY (P:Program) (w:World) (K:PySem.W.Frag) (mg:Str->Option Value) (base:Heap) (k:Nat) (x:Str) (ps:List Str) (D:Df):Prop :=
 ∃ f fd,FnD P w K mg base k f fd ps D/\Binds K fd ps []/\PySem.W.keepIn K (.ref f)=true/\mg x=some (.ref f)
section
variable {X:Cx} {k:Nat} {ps:List Str} {g:Df} {x:Str} {p pos:Pos} {a b:Expr} {es:List Expr} {ds:Das} {da db:De}
theorem zq (h:zY X.prog X.w X.K X.mg X.base k x ps g) (hr:Room k X.A) (hg:Gl X x) (hn:∀ (ρ:En) (vs:List PV),ds ρ=.ok vs->vs.length=(a::es).length) (ha:DA X (a::es) ds) (hl:(a::es).length=ps.length:=by rfl)
  (hdb:(x==("__debug__" : Str))=false:=by decide) (he:starEach (a::es) X.env=(false,eval a X.env)::starEach es X.env:=by rfl) (hpl:(backTo pos (starEach es X.env)).any (·.1)=false:=by rfl) :
  DE X (.Call (.Name x p) (a::es) [] pos) (eB g ds):=by
 obtain ⟨f,fd,F,hb,hk,hm⟩:=h;exact Sn F hr hg hm hk hb hl hn ha hdb he hpl
inductive Ty where
 | int | bool | tup | lst | str | dict
def Ty.nm:Ty->String
 | .int => "int" | .bool => "bool" | .tup => "tuple" | .lst => "list" | .str => "str" | .dict => "dict"
abbrev LR:Ty:=.int
abbrev SG:Ty:=.bool
abbrev Xs:Ty:=.tup
abbrev SE:Ty:=.lst
def isT:Ty->PV->Bool
 | .int,.int _=>true
 | .int,.bl _=>true
 | .bool,.bl _=>true
 | .tup,.tup _=>true
 | .lst,.lst _=>true
 | .str,.str _=>true
 | _,_=>false
def tyN:PV->String
 | .non => "NoneType" | .bl _ => "bool" | .int _ => "int" | .str _ => "str" | .lst _ => "list" | .tup _ => "tuple"
theorem RU (K:PySem.W.Frag) (T:Ty) (v:PV):PySem.W.kitOne K (.type (tyN v)) (.type T.nm)=some (isT T v):=by
 cases v<;>cases T<;>(simp only [tyN,Ty.nm,isT];first | rfl | kernel_rfl | decide +kernel)
def eIs (T:Ty) (d:De):De:=fun ρ=>(d ρ).bind fun v=>.ok (.bl (isT T v))
theorem NM {pins:List (Addr×Obj)} {σ:SS} {H:Hp} {s:Shared} {A:Around} {E:Value->Shared->Prop} {Q:Value->Shared->Prop} {W:Addr->Prop} {v:PV} {x:V} {u:Value} (T:Ty)
  (I:L2.Inv X pins σ H s) (rx:RelV x u) (r:Rep X.K (hid W H) v x) (h:∀ tk,Q (.bool (isT T v)) {s with toks:=tk}):wpAny (model X.prog X.w) A (call (.builtin "isinstance") [u,.type T.nm]) Q E s:=by
 have e:=RU X.K T v;cases v with
 | non=>cases Rep.non.mp r;cases rx;exact PySem.W.kia_one PySem.W.kitx_none I.kIn True.intro e (fun z=>nomatch z) h
 | bl y=>cases Rep.bl.mp r;cases rx;exact PySem.W.kia_one PySem.W.kitx_bool I.kIn True.intro e (fun z=>nomatch z) h
 | int i=>cases Rep.int.mp r;obtain ⟨t,q⟩:=(show ∃ t,u=Value.int i t from rx);cases q;exact PySem.W.kia_one PySem.W.kitx_int I.kIn True.intro e (fun z=>nomatch z) h
 | str y=>cases Rep.str.mp r;obtain ⟨t,q⟩:=(show ∃ t,u=Value.str y t from rx);cases q;exact PySem.W.kia_one PySem.W.kitx_str I.kIn True.intro e (fun z=>nomatch z) h
 | lst vs =>
  obtain ⟨a,xs,rfl,h1,h2⟩:=Rep.lst'.mp r;cases rx;obtain ⟨its,_,⟨o,n,e1,e2,_⟩,_⟩:=I.list (xP h1);exact PySem.W.kia_one PySem.W.kitx_list I.kIn ⟨o,e1,e2⟩ e (fun z=>nomatch z) h
 | tup vs =>
  obtain ⟨a,xs,rfl,h1,h2⟩:=Rep.tup'.mp r;cases rx;obtain ⟨its,_,⟨o,e1,e2,_⟩,_⟩:=I.tuple (yU h1);exact PySem.W.kia_one PySem.W.kitx_tuple I.kIn ⟨o,e1,e2⟩ e (fun z=>nomatch z) h
def rIs (X:Cx) (T:Ty):List V->Hp->VK->Prop:=fun xs H Q=>∃ W v x,xs=[x,.ty T.nm]/\Rep X.K (hid W H) v x/\Q (.bl (isT T v)) H
theorem Bt (T:Ty):vb X (.builtin "isinstance") (rIs X T):=by
 intro pins s σ H xs us Q I rs ⟨W,v,x,e,r,q⟩;subst e;cases rs with
 | cons r1 r2 =>
  cases r2 with
  | cons r3 r4 =>
   cases r4;cases (show _=Value.type T.nm from r3);exact NM T I r1 r fun tk=>⟨.bl (isT T v),H,I.tok tk,rfl,q⟩
theorem ZS:bootBuiltins "isinstance" = some (.builtin "isinstance"):=by decide
theorem XU {T:Ty} {p2:Pos} {y:Str} (hg:Gl X "isinstance") (hm:X.mg "isinstance" = none) (hgT:Gl X y) (hmT:X.mg y=none) (ha:DE X a da) (hv:bootBuiltins y=some (.type T.nm):=by decide) (hn:y ≠ "__name__" := by decide) (hdb:(y==("__debug__" : Str))=false:=by decide)
  (he:starEach [a,.Name y p2] X.env=(false,eval a X.env)::starEach [.Name y p2] X.env:=by rfl) (he2:starEach [.Name y p2] X.env=(false,eval (.Name y p2) X.env)::starEach [] X.env:=by rfl) (hpl:(backTo pos (starEach [.Name y p2] X.env)).any (·.1)=false:=by rfl) :
  DE X (.Call (.Name "isinstance" p) [a,.Name y p2] [] pos) (eIs T da) :=
 yI (Ug (Bt T) hg hm ZS (Ya ha (Ya (Pq hgT hmT hv (v:=.ty T.nm) rfl hn hdb) QH he2) he) (by decide) (by decide) he hpl) fun σ H Q ⟨W,ρ,er,h⟩=>by
  refine wf da er h.bind fun v x H1 s1 er1 r1 h1=>?_
  exact ⟨W,v,x,rfl,r1,h1 _ H1 s1 (Rep.bl.mpr rfl)⟩
theorem eVar_nx {i:Nat} {ρ:En} {z:XC} (h:ze i ρ=.exc z):False:=by
 unfold ze at h
 split at h<;>cases h
def MtT (X:Cx) (id:String) (f:PV->PV->Res PV):Prop :=
 ∀ (pins:List (Addr×Obj)) (s:Shared) (σ:SS) (H:Hp) (W:Addr->Prop) (vs:List PV) (b z:PV) (x y:V) (v u:Value) (Q:VK),L2.Inv X pins σ H s->RelV x v->RelV y u->Rep X.K (hid W H) (.tup vs) x->Rep X.K (hid W H) b y ->
  f (.tup vs) b=.ok z->OkQ X.K W H Q z->wpAny (model X.prog X.w) X.A (call (.builtin id) [v,u]) (EP X pins σ Q) X.xe s
theorem Ls {f:PV->PV->Res PV} {name:Str} {id:String} {apos cpos:Pos} (slot:Slot "tuple" name id) (hty:typeOf (.builtin id)=pure (.type "method_descriptor")) (hm:MtT X id f) (ho:∀ v u z,f v u=.ok z->∃ vs,v=.tup vs)
  (ha:DE X a da) (hb:DE X b db) (hnx:∀ ρ z,db ρ≠.exc z) (nx:NoX f) (hbase:attributeBase a name X.env (eval a X.env)=eval a X.env:=by rfl)
  (hfew:((backTo cpos (starEach [b] X.env)).all (fun x=>!x.1)&&(backToKw cpos (keywordEach [] X.env)).all (fun x=>x.1.isSome)
   && decide ([b].length+([]:List Keyword).length+(if ([]:List Keyword).isEmpty then 0 else 1)<30))=true:=by rfl)
  (hline:(apos.endLine==cpos.line)=true:=by rfl) (hs:starEach [b] X.env=(false,eval b X.env)::starEach [] X.env:=by rfl) (hplain:(backTo cpos (starEach [] X.env)).any (·.1)=false:=by rfl) :
  DE X (.Call (.Attribute a name apos) [b] [] cpos) (e2 f da db):=by
 intro pins s σ H Q I ⟨W,ρ,er,h⟩;refine wpAny_Call_method_late hbase hfew hline rfl (thn (ha pins s σ H (fun x H1=>∃ v,ER X.K W H1 σ ρ/\Rep X.K (hid W H1) v x/\Fin X W H1 Q ((db ρ).bind fun u=>f v u)) I
  (wf da er h.bind fun v x H1 s1 er1 r1 h1=>⟨v,er1,r1,Fin.grow h1 s1⟩)) fun v s1 ⟨x,H1,I1,r1,pv,er1,rp1,h1⟩=>?_)
 cases e1:db ρ with
 | exc z=>exact absurd e1 (hnx ρ z)
 | bad=>rw [e1] at h1;exact h1.elim
 | ok u =>
  rw [e1,Res.bind_ok] at h1;cases e2:f pv u with
  | exc z=>exact absurd e2 (nx _ _ _)
  | bad=>rw [e2] at h1;exact h1.elim
  | ok z =>
   rw [e2] at h1;obtain ⟨vs,rfl⟩:=ho _ _ _ e2;obtain ⟨l,xs,rfl,hq,hrs⟩:=Rep.tup'.mp rp1;cases r1;obtain ⟨its,rv,⟨o,ho1,hc,hd,n,hdat⟩,hz⟩:=I1.tupleD (yU hq);refine ⟨"tuple",id,F.plainAttrs_tuple,slot,hty,⟨o,ho1,hc⟩,fun b e=>by cases e;exact ⟨o,ho1,hd⟩,?_⟩
   have hA:=(zg hb zi hs) cpos pins s1 σ H1 (fun ys H2=>∃ y,ys=[y]/\Rep X.K (hid W H2) u y/\Same H1 H2) I1 ⟨W,ρ,er1,by
    simp only [zd,zj,e1,Res.bind_ok];intro ys H2 s2 r2;obtain ⟨y,t,rfl,q1,q2⟩:=Reps.cons.mp r2;obtain rfl:=Reps.nil.mp q2;exact ⟨y,rfl,q1,s2⟩⟩
   rw [hs] at hA ⊢;refine Calls.callWith_builtin (by show (false||(backTo cpos (starEach [] X.env)).any (·.1))=false;rw [hplain]<;>rfl) (Calls.evalArgs_plain ?_);refine thn hA fun us s2 ⟨ys,H2,I2,rys,y,e,ry,s12⟩=>?_
   subst e;obtain ⟨w,rfl,rw'⟩:=wM rys;exact hm pins s2 σ H2 W vs u z (.ref l) y (.ref l) w Q I2 rfl rw' (Rep.tup (jn (zD s12) hq) (hrs.mono (zD s12))) ry e2 (wO h1 s12)
def xS:PV->PV->Res PV
 | .tup xs,b=>if xB b&&xB (.tup xs) then (match xs.findIdx? fun y=>eqv y b with
  | some i=>.ok (.int (i:Nat))
  | none=>.bad) else .bad
 | _,_=>.bad
theorem Jd (v u z:PV) (h:xS v u=.ok z):∃ vs,v=.tup vs:=by
 cases v<;>simp [xS] at h;exact ⟨_,rfl⟩
theorem Nn:NoX xS:=qg fun v u=>by
 cases v<;>simp only [xS]<;>try (first | exact .inr rfl | exact .inr trivial)
 split
 ·split
  ·exact .inl ⟨_,rfl⟩
  ·exact .inr rfl
 ·exact .inr rfl
theorem UR (xs:List PV):dats xs=xs.map dat:=by
 induction xs with
 | nil=>rfl
 | cons x xs ih=>simp [dats,ih]
end
end Pu
namespace Pu
open PySem PySem.Spec PyProof.Rows L2
def jl (cells:List (Str×Addr)):List (Str×NameKind)->List (Str×Addr)->List (Str×Addr)
 | [],acc=>acc
 | (n,k)::r,acc=>if k==.free then jl cells r ((n,(cells.lookup n).getD 0)::acc) else jl cells r acc
theorem Xj {scope:Scope} {env:Env} (h:∀ y∈scope.names,y.2=.free->∃ c,env.cells.lookup y.1=some c):closureFor scope env=pure (jl env.cells scope.names []):=by
 unfold closureFor;have gen:∀ (names:List (Str×NameKind)) (acc:List (Str×Addr)),(∀ y∈names,y.2=.free->∃ c,env.cells.lookup y.1=some c) ->
   (forIn names acc fun (x:Str×NameKind) (r:List (Str×Addr))=>match x with
    | (name,kind)=>if (kind==.free)=true then do let a <- cellOf env name;pure (ForInStep.yield ((name,a)::r)) else pure (ForInStep.yield r))=(pure (jl env.cells names acc):Sem (List (Str×Addr))):=by
  intro names
  induction names with
  | nil=>intro acc _;rfl
  | cons y names ih =>
   intro acc hn;obtain ⟨nm,k⟩:=y;rw [List.forIn_cons];have ih':=fun acc=>ih acc fun y hy=>hn y (jM _ hy)
   by_cases hk:(k==NameKind.free)=true
   ·obtain ⟨c,hc⟩:=hn (nm,k) jC (by simpa using hk);have e:cellOf env nm=pure c:=by unfold cellOf;rw [show env.cells.lookup nm=some c from hc]
    simp only [hk,if_true,e,jl];have e2:(env.cells.lookup nm).getD 0=c:=by rw [show env.cells.lookup nm=some c from hc];rfl
    rw [e2];exact ih' _
   ·simp only [hk,jl,Bool.false_eq_true,if_false];exact ih' _
 exact (congrArg (fun m:Sem (List (Str×Addr))=>(m>>=fun s=>pure s)) (gen scope.names [] h)).trans rfl
theorem YO {cells:List (Str×Addr)}:∀ {names:List (Str×NameKind)} {acc:List (Str×Addr)},(∀ y∈names,y.2=.free->∃ c,cells.lookup y.1=some c)->(∀ x c,acc.lookup x=some c->cells.lookup x=some c)->∀ x c,(jl cells names acc).lookup x=some c->cells.lookup x=some c
 | [],acc,_,h,x,c,e=>h x c e
 | (n,k)::r,acc,hn,h,x,c,e=>by
  unfold jl at e;have hn':∀ y∈r,y.2=.free->∃ c,cells.lookup y.1=some c:=fun y hy=>hn y (jM _ hy)
  split at e
  ·rename_i hk
   obtain ⟨d,hd⟩:=hn (n,k) jC (by simpa using hk);refine YO hn' (fun y c' e'=>?_) x c e;rw [List.lookup_cons] at e'
   by_cases hy:(y==n)=true
   ·rw [hy] at e';have:y=n:=by simpa using hy
    subst this;have hd':cells.lookup y=some d:=hd;rw [hd'] at e';simp at e';subst e';exact hd'
   ·simp only [hy] at e';exact h y c' e'
  ·exact YO hn' h x c e
theorem YQ {cells:List (Str×Addr)}:∀ {names:List (Str×NameKind)} {acc:List (Str×Addr)} {x:Str},(∃ c,acc.lookup x=some c)->∃ c,(jl cells names acc).lookup x=some c
 | [],acc,x,h=>h
 | (n,k)::r,acc,x,h=>by
  unfold jl
  split
  ·refine YQ ?_;rw [List.lookup_cons];cases hb:(x==n) with
   | true=>exact ⟨_,rfl⟩
   | false=>exact h
  ·exact YQ h
theorem jV {cells:List (Str×Addr)}:∀ {names:List (Str×NameKind)} {acc:List (Str×Addr)} {x:Str},(x,NameKind.free)∈names->∃ c,(jl cells names acc).lookup x=some c
 | [],acc,x,h=>by cases h
 | (n,k)::r,acc,x,h=>by
  unfold jl
  rcases List.mem_cons.mp h with e | h
  ·cases e;simp only [beq_self_eq_true,if_true];refine YQ ⟨(cells.lookup n).getD 0,?_⟩;rw [List.lookup_cons,beq_self_eq_true]
  ·split<;>exact jV h
def qM (cs:List (Str×NameKind)) (around:List (Str×NameKind)) (XN:List Str) (k:Nat) (idx:List Nat) (N:List Str):Bool :=
 cs.all (fun y=>(y.2 != .local||cs.lookup y.1==some .local)&&(y.2 != .free||around.lookup y.1==some .cell||around.lookup y.1==some .free))
 && N.length==k+idx.length
 && (List.range idx.length).all fun j=>match idx[j]?,N[k+j]? with
  | some i,some x=>XN[i]?==some x&&(around.lookup x==some .cell||around.lookup x==some .free)&&cs.lookup x==some .free&&cs.all (fun y=>y.2 != .cell||y.1 != x)
  | _,_=>false
theorem va {env:Env}:∀ {names:List (Str×NameKind)} {x:Str},names.lookup x=some .free ->
  (names.map fun (n,k)=>if (k==NameKind.free&&env.scope.kind==.function&&env.kindOf n==some .cell) then (n,NameKind.cell) else (n,k)).lookup x=some .cell \/
  (names.map fun (n,k)=>if (k==NameKind.free&&env.scope.kind==.function&&env.kindOf n==some .cell) then (n,NameKind.cell) else (n,k)).lookup x=some .free
 | [],_,h=>by simp at h
 | (n,k)::r,x,h=>by
  rw [List.lookup_cons] at h;rw [List.map_cons];dsimp only;cases hb:(x==n) with
  | true =>
   rw [hb] at h;simp only [Option.some.injEq] at h;subst h
   split
   ·left;rw [List.lookup_cons,hb]
   ·right;rw [List.lookup_cons,hb]
  | false =>
   rw [hb] at h;have ih:=va (env:=env) h
   split
   ·rw [List.lookup_cons,hb];exact ih
   ·rw [List.lookup_cons,hb];exact ih
theorem vE {env:Env}:∀ {names:List (Str×NameKind)} {x:Str} {q:NameKind},(names.map fun (n,k)=>if (k==NameKind.free&&env.scope.kind==.function&&env.kindOf n==some .cell) then (n,NameKind.cell) else (n,k)).lookup x=some q ->
  (x,q)∈names\/(q=.cell/\(x,NameKind.free)∈names)
 | [],_,_,h=>by simp at h
 | (n,k)::r,x,q,h=>by
  rw [List.map_cons] at h;dsimp only at h
  split at h
  ·rename_i hc
   rw [List.lookup_cons] at h;cases hb:(x==n) with
   | true =>
    rw [hb] at h;have e:x=n:=by simpa using hb
    subst e;simp only [Option.some.injEq] at h;subst h;have hk:k=.free:=by simp at hc;exact hc.1.1
    subst hk;exact .inr ⟨rfl,jC⟩
   | false =>
    rw [hb] at h
    rcases vE h with z | ⟨z1,z2⟩
    ·exact .inl (jM _ z)
    ·exact .inr ⟨z1,jM _ z2⟩
  ·rw [List.lookup_cons] at h;cases hb:(x==n) with
   | true =>
    rw [hb] at h;have e:x=n:=by simpa using hb
    subst e;simp only [Option.some.injEq] at h;subst h;exact .inl jC
   | false =>
    rw [hb] at h
    rcases vE h with z | ⟨z1,z2⟩
    ·exact .inl (jM _ z)
    ·exact .inr ⟨z1,jM _ z2⟩
theorem uJ {X:Cx} {scope:Scope} {k:Nat} {idx:List Nat} {N:List Str} (ok:X.Ok) (hk:scope.kind=.function) (h:qM scope.names X.env.scope.names X.N k idx N=true):CompOk X scope (jl X.env.cells scope.names []) k idx N:=by
 unfold qM at h;rw [Bool.and_eq_true,Bool.and_eq_true,List.all_eq_true,List.all_eq_true] at h;obtain ⟨⟨h1,h2⟩,h3⟩:=h;have hf:∀ y∈scope.names,y.2=.free->∃ c,X.env.cells.lookup y.1=some c:=fun y hy e=>by
  have:=h1 y hy;simp only [e,Bool.and_eq_true,Bool.or_eq_true,beq_iff_eq,bne_self_eq_false,Bool.false_eq_true,false_or] at this;exact ok.has y.1 this.2
 refine ⟨hk,Xj hf,fun y hy e=>?_,YO hf (fun x c e=>by simp at e),fun x hx=>?_,by simpa using h2,fun j i x hj hx=>?_⟩
 ·have:=h1 y hy;simp only [e,Bool.and_eq_true,Bool.or_eq_true,beq_iff_eq,bne_self_eq_false,Bool.false_eq_true,false_or] at this;exact this.1
 ·rcases hx with hx | hx
  ·rcases vE (env:=X.env) hx with z | ⟨_,z⟩
   ·exact .inl z
   ·exact .inr (jV z)
  ·rcases vE (env:=X.env) hx with z | ⟨z,_⟩
   ·exact .inr (jV z)
   ·cases z
 ·have hjl:j<idx.length:=(List.getElem?_eq_some_iff.mp hj).1;have:=h3 j (List.mem_range.mpr hjl);rw [hj,hx] at this;simp only [Bool.and_eq_true,Bool.or_eq_true,beq_iff_eq,List.all_eq_true] at this;obtain ⟨⟨⟨q1,q2⟩,q3⟩,q4⟩:=this;refine ⟨q1,q2,.inr q2,va q3,jV (mem_of_lookup q3),fun z=>?_⟩
  have:=q4 _ z;simp at this
section
variable {X:Cx} {scope:Scope} {k:Nat} {idx:List Nat} {N:List Str} {tg iter elt:Expr} {ifs:List Expr} {di:Di} {t:Dg} {c:Dt} {e:De} {pos:Pos}
theorem zS (hk:scope.kind=.function) (chk:qM scope.names X.env.scope.names X.N k idx N=true) (hcalm:X.calm=true) (hi:DI X tg iter di) (hw:∀ ρ v ρ1,t v (zV k idx ρ)=.ok ρ1->Ext (zV k idx ρ) ρ1)
  (hg:∀ cl C s3 H3 fp,DG (zT X scope cl N C s3 H3 fp) tg t) (hif:∀ cl C s3 H3 fp,DIf (zT X scope cl N C s3 H3 fp) ifs c) (he:∀ cl C s3 H3 fp,DE (zT X scope cl N C s3 H3 fp) elt e)
  (hs:∀ x,foldedSetIterable iter X.env x=pure x:=by intro _;rfl):DE X (.ListComp elt [⟨tg,iter,ifs,0⟩] scope pos) (zC di k idx t c e):=fun pins s σ H Q I h =>
 Sm (uJ I.ok hk chk) hcalm hi hw hg hif he hs pins s σ H Q I h
end
theorem Le (H:Hp):hid (fun _=>False) H=H:=by
 funext a;unfold hid;simp
theorem Xz {K:PySem.W.Frag} {H:Hp}:∀ ns:List Int,Reps K H (ns.map PV.int) (ns.map V.int)
 | []=>Reps.nil.mpr rfl
 | n::ns=>Reps.mk (Rep.int.mpr rfl) (Xz ns)
theorem walkD {l:PySem.W.OpenLaw} {k:Nat} {q:Program} {loose:List Str} {XP:(Str->Option Value)->Heap->Prop} {YP:World->Heap->Prop} {d:DefRec} {K:Params->PySem.W.Frag} {x:Str} {D:Df}
  (hn:l.most=some 63) (hdf:d.params.defaults=[]) (hr:Room k callerA) (hY:∀ (w:World) (h:Heap),YP w h->(K w.params).In h)
  (F:∀ (w:World) (mg:Str->Option Value) (fa:Addr) (h:Heap),(K w.params).In h->h.Ns mainGlobals mg->mg d.name=some (.ref fa) ->
   ∃ fd:FuncData,(∀ (s:Shared) (u:Value),BindsTo s fd ⟨[u],[]⟩ [(x,u)])/\∀ base:Heap,(K w.params).In base->base.Ns mainGlobals mg->FnD l.prog w (K w.params) mg base k fa fd [x] D)
  (hD:∀ ns:List Int,ns.length<=63->D [.lst (ns.map PV.int)]=.ok (.bl true)):PySem.W.WalkO q loose XP YP l.row.toRowW d [] (fun f vs=>PySem.call f vs) :=
 L2.walk_ofK (n:=63) (CX:=CX0) (sp:=fun K=>spO K 1 D) hn (by decide) hdf hr hY (fun w mg fa h a b c=>let ⟨fd,q1,q2⟩:=F w mg fa h a b c;⟨fd,q1,fun base x y=>(q2 base x y).no⟩)
  (fun K H a ns hl hO hS=>⟨fun _=>False,[.lst (ns.map PV.int)],fun _ h=>h.elim,Reps.mk (Rep.lst (by rw [Le];exact hS) (Xz ns)) (Reps.nil.mpr rfl),rfl,.bl true,hD ns hl,fun y H' s r=>Rep.bl.mp r⟩) fun _ _ _ _ z=>z
theorem boot_len:bootBuiltins "len" = some (.builtin "len"):=by decide
theorem boot_sum:bootBuiltins "sum" = some (.builtin "sum"):=by decide
theorem boot_all:bootBuiltins "all" = some (.builtin "all"):=by decide
theorem boot_tuple:bootBuiltins "tuple" = some (.type "tuple"):=by decide
theorem boot_list:bootBuiltins "list" = some (.type "list"):=by decide
theorem boot_int:bootBuiltins "int" = some (.type "int"):=by decide
theorem us1 {fd:FuncData} {ps:List Str} (h:∀ a,bindArgs fd ⟨[a],[]⟩=pure (ps.zip [a])):∀ us:List Value,us.length=1->bindArgs fd ⟨us,[]⟩=pure (ps.zip us)
 | [a],_=>h a
theorem us2 {fd:FuncData} {ps:List Str} (h:∀ a b,bindArgs fd ⟨[a,b],[]⟩=pure (ps.zip [a,b])):∀ us:List Value,us.length=2->bindArgs fd ⟨us,[]⟩=pure (ps.zip us)
 | [a,b],_=>h a b
theorem us3 {fd:FuncData} {ps:List Str} (h:∀ a b c,bindArgs fd ⟨[a,b,c],[]⟩=pure (ps.zip [a,b,c])):∀ us:List Value,us.length=3->bindArgs fd ⟨us,[]⟩=pure (ps.zip us)
 | [a,b,c],_=>h a b c
def yL (K:PySem.W.Frag) (x:Str) (st:Stmt):Prop:=∃ (f:Addr) (oc:Value) (od an:Option Addr) (sl:Array (Option Value)) (kV dc pm cd ct:Value),PySem.W.nsIn K mainGlobals x=some (some (.ref f)) /\
 K.lookup f=some ⟨oc,od,.func (PySem.W.fnOf x x (wK st) (yQ st) (zk st) .none kV dc pm an cd ct),sl⟩/\PySem.W.codeIn K cd x=true/\PySem.W.keepIn K (.ref f)=true
theorem dfin {K:PySem.W.Frag} {x:Str} {st:Stmt} {f:Addr} {oc:Value} {od an:Option Addr} {sl:Array (Option Value)} {kV dc pm cd ct:Value} (a:PySem.W.nsIn K mainGlobals x=some (some (.ref f)))
  (l:K.lookup f=some ⟨oc,od,.func (PySem.W.fnOf x x (wK st) (yQ st) (zk st) .none kV dc pm an cd ct),sl⟩) (c:PySem.W.codeIn K cd x=true) (k:PySem.W.keepIn K (.ref f)=true):yL K x st:=⟨f,oc,od,an,sl,kV,dc,pm,cd,ct,a,l,c,k⟩
theorem xy {P:Program} {w:World} {K:PySem.W.Frag} {mg:Str->Option Value} {base h:Heap} {k:Nat} {x:Str} {st:Stmt} {ps:List Str} {D:Df} (X:K.In h) (G:h.Ns mainGlobals mg) (q:yL K x st)
  (ok:∀ {f:Addr} {fd:FuncData},Fun K x x st f fd->FnD P w K mg base k f fd ps D)
  (hb:∀ (kV doc pm:Value) (an:Option Addr) (cdv ct:Value) (us:List Value),us.length=ps.length->bindArgs (PySem.W.fnOf x x (wK st) (yQ st) (zk st) .none kV doc pm an cdv ct) ⟨us,[]⟩=pure (ps.zip us)):zY P w K mg base k x ps D:=by
 obtain ⟨f,oc,od,an,sl,kV,dc,pm,cd,ct,a,l,c,kp⟩:=q;have F:=Vg (st:=st) l c kp;exact ⟨_,_,ok F,F.binds hb,kp,PySem.W.mg_of X G a⟩
theorem yd {N P:List Str} {sc:Scope} (a:sc.kind=.function:=by rfl) (b:sc.isCoroutine=false:=by rfl) (c:sc.isGenerator=false:=by rfl) (d:N.Nodup:=by decide +kernel) (e:N.take P.length=P:=by rfl)
  (g:∀ x∈P,sc.names.lookup x=some .local\/sc.names.lookup x=some .cell:=by decide +kernel) (h:∀ y∈sc.names,y.2≠.free:=by decide +kernel):FnScope N P sc:=⟨a,b,c,d,e,g,h⟩
theorem fnN {P:Program} {w:World} {K:PySem.W.Frag} {mg:Str->Option Value} {base:Heap} {x qual:Str} {st:Stmt} {f:Addr} {fd:FuncData} {N ps:List Str} {k:Nat} {d:Ds} (F:Fun K x qual st f fd) (S:FnScope N ps (zk st))
  (hbody:∀ {cdv:Value} {A:Around} {outer:List Env} {s:Shared} {H:Hp} {E:XK},N.Nodup->Room k (A.deeper (envOfC qual (zk st) s.heap.objs.size f cdv)) ->
   DSs (jk (CXP P w) P w K mg base N qual (zk st) f cdv A outer s H E) (yQ st) d):FnD P w K mg base (k+1) f fd ps (yC N.length d):=fnD F S fun cdv A outer s H E hr=>hbody S.nd hr
theorem Lg {l:PySem.W.OpenLaw} {w:World} {K:PySem.W.Frag} {h:Heap} {mg:Str->Option Value} {fa:Addr} {st:Stmt} {k:Nat} {x:Str} {D:Df} (X:K.In h) (G:h.Ns mainGlobals mg) (hfa:mg "law" = some (.ref fa)) (q:yL K "law" st)
  (hb:∀ (kV doc pm:Value) (an:Option Addr) (cdv ct:Value) (v:Value),bindArgs (PySem.W.fnOf "law" "law" (wK st) (yQ st) (zk st) .none kV doc pm an cdv ct) ⟨[v],[]⟩=pure [(x,v)])
  (ok:∀ (base:Heap) {fd:FuncData},Fun K "law" "law" st fa fd->FnD l.prog w K mg base k fa fd [x] D) :
  ∃ fd:FuncData,(∀ (s:Shared) (v:Value),BindsTo s fd ⟨[v],[]⟩ [(x,v)])/\∀ base:Heap,K.In base->base.Ns mainGlobals mg->FnD l.prog w K mg base k fa fd [x] D:=by
 obtain ⟨f,oc,od,an,sl,kV,dc,pm,cd,ct,a,lk,c,kp⟩:=q;have e:=hfa.symm.trans (PySem.W.mg_of X G a);cases e;exact ⟨_,fun s v=>.of_eq (hb kV dc pm an cd ct v),fun base _ _=>ok base (Vg (st:=st) lk c kp)⟩
section
variable {X:Cx} {scope:Scope} {cl:List (Str×Addr)} {k:Nat} {idx:List Nat} {N:List Str} {tg iter elt:Expr} {ifs:List Expr} {di:Di} {t:Dg} {c:Dt} {e:De} {pos:Pos}
theorem vA {i:Nat} {y:Str} {py spos:Pos} (hk:scope.kind=.function) (chk:qM scope.names X.env.scope.names X.N k idx N=true) (hcalm:X.calm=true) (hN:X.N.Nodup) (hyi:X.N[i]?=some y) (hyx:Loc X.env.scope y) (hyf:X.fn y=true\/X.env.scope.names.lookup y=some .local)
  (hi:DI X tg iter di) (hw:∀ ρ v ρ1,t v (zV k idx ρ)=.ok ρ1->Ext (zV k idx ρ) ρ1)
  (hg:∀ cl C s3 H3 fp,DG (zT X scope cl N C s3 H3 fp) tg t) (hif:∀ cl C s3 H3 fp,DIf (zT X scope cl N C s3 H3 fp) ifs c) (he:∀ cl C s3 H3 fp,DE (zT X scope cl N C s3 H3 fp) elt e)
  (hs:∀ x,foldedSetIterable iter X.env x=pure x:=by intro _;rfl)
  (hsw:swapsWith (.ListComp elt [⟨tg,iter,ifs,0⟩] scope pos) (some (.Name y py)) spos.line X.env=pure true:=by rfl) :
  DS X (.Assign [.Name y py] (.ListComp elt [⟨tg,iter,ifs,0⟩] scope pos) spos) (yk (zC di k idx t c e) (zp i)):=by
 intro pins s σ H D' I ⟨W0,H0,W,ρ,w,er,h⟩;have ok:=uJ (X:=X) (scope:=scope) (k:=k) (idx:=idx) (N:=N) I.ok hk chk
 revert ok
 generalize jl X.env.cells scope.names []=cl;intro ok;have h:Fin X W H (fun x H1=>D'.nx (σ.set i (some x)) H1) (zC di k idx t c e ρ):=by
  have hb:=h.bind.xw w.same;cases e0:zC di k idx t c e ρ with
  | ok v =>
   rw [e0] at hb;exact fun x H1 s1 r1=>hb (σ.set i (some x)) W H1 ((w.grow s1).kp (w.same.trans s1) w.sub (Kp.set i _ _)) (zD s1) ((er.mono s1).set r1 i)
  | exc z=>rw [e0] at hb;exact hb
  | bad=>rw [e0] at hb;exact hb
 rw [exec_Assign_Name_used _ _ _ _ hsw];refine jB (wpAny_standAt (jB ?_));show wpAny _ X.A (do let _ <- comprehension (.ListComp elt [⟨tg,iter,ifs,0⟩] scope pos) scope X.env _ (newList []) false (eval iter X.env) (some (assign (.Name y py) X.env))) _ _ s
 have hfin:FinI X W H (fun J H2=>∃ vs out,vs.length<=sizeLine/\yR t c e (zV k idx ρ) vs=.ok out/\ZT X.K (hid W H2) J vs/\Same H H2/\OkQ X.K W H (fun x H1=>D'.nx (σ.set i (some x)) H1) (.lst out)) (di ρ):=by
  unfold zC at h;cases ed:di ρ with
  | exc x=>rw [ed] at h;exact h
  | bad=>rw [ed] at h;exact h.elim
  | ok vs =>
   rw [ed,Res.bind_ok] at h
   by_cases hz:vs.length<=sizeLine
   ·rw [if_pos hz] at h;cases eo:yR t c e (zV k idx ρ) vs with
    | exc x=>rw [eo] at h;exact h.elim
    | bad=>rw [eo] at h;exact h.elim
    | ok out =>
     rw [eo] at h;exact fun J H2 s2 it=>⟨vs,out,hz,eo,it,s2,h⟩
   ·rw [if_neg hz] at h;exact h.elim
 refine jB (wpAny_mono (wpAny_comprehension_free (use:=some (assign (.Name y py) X.env)) (Q:=fun _ s'=>SP X pins D' .next s') rfl hs ok.clos ok.kind ok.loc ?_) (fun _ s' hq=>jP (jP hq)) fun _ _ z=>z)
 refine thn (hi pins s σ H _ I ⟨W,ρ,er,hfin⟩) fun v s1 h1=>thn h1 fun itv s2 h2=>?_
 obtain ⟨it,fp,tn,J,H2,rfl,I2,T,st2,f2,vs,out,hz,ho,hit,s02,q⟩:=h2;have hfp2:∀ b∈fp,b<s2.heap.objs.size:=fun b hb=>by
  obtain ⟨o,e1,_⟩:=T.obj 0 _ st2 b hb;exact jH e1
 refine wpAny_newObj_type ?_;have I3:L2.Inv X pins σ (upd H2 s2.heap.objs.size (.lst [])) {s2 with heap:=s2.heap.push {cls:=.type "list",data:=.seq ([]:List Value).toArray}}:=I2.lnew (t':=s2.toks) (its:=[]) .nil (Nat.zero_le _)
 have hn2:H2 s2.heap.objs.size=none:=I2.fresh;generalize hs3:({s2 with heap:=s2.heap.push {cls:=.type "list",data:=.seq ([]:List Value).toArray}}:Shared)=s3 at *
 have k23:∀ b o,s2.heap.get? b=some o->s3.heap.get? b=some o:=fun b o e=>by rw [<- hs3];exact jG _ e
 have sz3:s3.heap.objs.size=s2.heap.objs.size+1:=by rw [<- hs3];exact Heap.size_push ..
 generalize hD:s2.heap.objs.size=D at *;have neD:∀ b,b<D->b≠D:=fun b hb=>Nat.ne_of_lt hb
 have hfp3:∀ b∈fp,wW X pins (upd H2 D (.lst [])) b/\b<s3.heap.objs.size:=fun b hb=>by
  obtain ⟨a0,a1⟩:=f2 b hb;exact ⟨⟨by rw [zu (neD b (hfp2 b hb))];exact a0,a1⟩,by rw [sz3];exact Nat.lt_succ_of_lt (hfp2 b hb)⟩
 show wpAny _ _ (newFunctionEnv scope X.env.globals cl [] X.env.qual none .none (some X.env)) _ _ s3;refine yr ?_;have hblk:=qO s3 scope.names;have hns:=(Heap.Ns.new s3.heap (.type "dict")).keeps (pushCells_keeps scope.names _);have k34:∀ b o,s3.heap.get? b=some o->(pushCells (s3.heap.push {cls:=.type "dict",data:=.dict #[]}) scope.names).get? b=some o:=fun b o e=>pushCells_keeps _ _ b o (jG _ e)
 generalize pushCells (s3.heap.push {cls:=.type "dict",data:=.dict #[]}) scope.names=h4 at hblk hns k34 ⊢;have J0:=jJ (t:=s3.toks) ok I3 hfp3 hns k34 hblk;have er2:=er.mono s02;have sD:Same H2 (upd H2 D (.lst [])):=yv hn2;have nWD:¬ W D:=er2.new hn2;have hGs:Same (hid W H2) (hid (fun a=>W a\/a=D) (upd H2 D (.lst []))):=fun b o z=>by
  have z1:=hid_sub b o z;have hb:b≠D:=fun y=>by rw [y,hn2] at z1;cases z1
  unfold hid at z ⊢
  split at z
  ·cases z
  ·rename_i nb
   rw [if_neg (fun y=>y.elim nb hb),zu hb];exact z1
 have erC:=Yh (k:=k) (idx:=idx) er2 hGs (fun a wa=>by
  rcases wa with wa | rfl
  ·by_cases ha:a=D
   ·rw [ha,zE];simp
   ·rw [zu ha];exact er2.trk a wa
  ·rw [zE];simp)
 have st4:tn 0 h4:=T.keep _ _ _ st2 fun b hb o e=>k34 b o (k23 b o e)
 have loop:∀ s4:Shared,s4={s3 with heap:=h4,toks:=s3.toks} ->
   codeAny (model X.prog X.w) X.A (.compLoop (.ListComp elt [⟨tg,iter,ifs,0⟩] scope pos) 0 (.ref it) (.ref D) (compEnvC scope (cellsFrom (s3.heap.objs.size+1) scope.names cl) s3.heap.objs.size X.env)) (compPost (model X.prog X.w) X.A X.xe (some (assign (.Name y py) X.env)) (fun _ s'=>SP X pins D' .next s') (.ref D) s3.heap.objs.size) s4:=by
  rintro s4 rfl;refine Zz (W:=fun a=>W a\/a=D) (G:=hid W H2) hcalm T (hg _ _ _ _ _) (hif _ _ _ _ _) (he _ _ _ _ _) J0 st4 (fun b hb=>(hfp3 b hb).1.1) zE (.inr rfl) erC (hw ρ) jW hGs hit hz ho ?_
  intro s' σ' H' ys Jn hDn hys same;obtain ⟨m',hn',_⟩:=Jn.loc;have fin0:=qL I3 hfp3 Jn (Heap.SameBut.refl _ _);have sH:Same H H':=fun b o z=>by
   have z2:=s02 b o z;have hb:b≠D:=fun y=>by rw [y,hn2] at z2;cases z2
   exact same b o hb (sD b o z2)
  have lift:Same (hid (fun a=>W a\/a=D) H') (hid W H'):=vw fun a wa=>.inl wa
  have hQ:D'.nx (σ.set i (some (.ref D))) H':=q _ H' sH (Rep.lst (.inl (.inl (xf nWD hDn))) (hys.mono lift));have hCl:X.env.locals<s3.heap.objs.size:=by
   obtain ⟨m3,⟨o3,_,_,ho3,_⟩,_⟩:=I3.loc;exact jH ho3
  have hCc:∀ x c,X.env.cells.lookup x=some c->c<s3.heap.objs.size:=fun x c ec=>by
   obtain ⟨v3,o3,ho3,_⟩:=I3.cell x c ec;exact jH ho3
  show wpAny (model X.prog X.w) X.A (assign (.Name y py) X.env (.ref D)) _ _ s';refine wpAny_assign_Name (Zb fin0 hN hyi hyx (v:=.ref D) rfl (fun s'' I'' ⟨a,sa,ha⟩=>?_) hyf);have neC:a≠s3.heap.objs.size:=by
   rcases ha with rfl | ha
   ·exact Nat.ne_of_lt hCl
   ·exact Nat.ne_of_lt (hCc _ _ ha)
  obtain ⟨oC,esC,epC,hoC,rC⟩:=hn';refine ⟨m',⟨oC,esC,epC,sa.extBut _ _ (Ne.symm neC) hoC,rC⟩,fun h'' hsb''=>?_⟩
  refine ⟨σ.set i (some (.ref D)),H',?_,hQ⟩;have Jf:H' s3.heap.objs.size=none:=Jn.free;exact I''.turned (t':=s''.toks) (it:=s3.heap.objs.size) (fun b o hb ho=>hsb''.extBut b o hb ho) Jf (Nat.ne_of_gt hCl) (.inr I3.sz) (fun x c ec=>Nat.ne_of_lt (hCc x c ec)) fun p hp=>by
   obtain ⟨ep,_⟩:=I3.pin p hp;exact Nat.ne_of_lt (jH ep)
 exact codeAny_compStart_list (loop _ rfl) (T.self _ 0 _ _ _ st4 (loop _ rfl))
end
end Pu
namespace Pd
abbrev W:=List Bool
def pl (a b:W):W:=List.zipWith (fun x y=>x^^y) a b
def zr (n:Nat):W:=List.replicate n false
def bt (w:W) (i:Nat):Bool:=w.getD i false
def hd (w:W):Nat:=w.idxOf true
theorem zZ {n:Nat} {a b:W} (ha:a.length=n) (hb:b.length=n):(pl a b).length=n:=by
 simp [pl,ha,hb]
theorem zr_length (n:Nat):(zr n).length=n:=by simp [zr]
theorem bt_zr (n i:Nat):bt (zr n) i=false:=by
 simp [bt,zr,List.getD]
 by_cases h:i<n
 ·simp [h]
 ·simp [h]
theorem Lx (i:Nat):bt [] i=false:=by simp [bt]
theorem uL (x:Bool) (w:W):bt (x::w) 0=x:=by simp [bt]
theorem vf (x:Bool) (w:W) (i:Nat):bt (x::w) (i+1)=bt w i:=by simp [bt]
theorem YS {w:W} {i:Nat} (h:w.length<=i):bt w i=false:=by
 simp [bt,List.getD,h]
theorem bt_eq {w:W} {i:Nat} (h:i<w.length):bt w i=w[i]:=by
 simp [bt,List.getD,h]
theorem bt_pl {a b:W} (h:a.length=b.length) (i:Nat):bt (pl a b) i=(bt a i^^bt b i):=by
 induction a generalizing b i with
 | nil=>cases b with
  | nil=>simp [pl,bt]
  | cons y b=>simp at h
 | cons x a ih=>cases b with
  | nil=>simp at h
  | cons y b =>
   simp at h;cases i with
   | zero=>simp [pl,bt]
   | succ i =>
    have:=ih h i;simpa [pl,bt] using this
theorem ext {a b:W} (h:a.length=b.length) (hb:∀ i,bt a i=bt b i):a=b:=by
 apply List.ext_getElem h;intro i h1 h2;have:=hb i;rw [bt_eq h1,bt_eq h2] at this;exact this
theorem uB (a b:W):pl a b=pl b a:=by
 unfold pl;rw [List.zipWith_comm];congr 1;funext x y;exact Bool.xor_comm y x
theorem xH {n:Nat} {a b c:W} (ha:a.length=n) (hb:b.length=n) (hc:c.length=n):pl (pl a b) c=pl a (pl b c):=by
 have h1:=zZ ha hb;have h2:=zZ hb hc;apply ext
 ·rw [zZ h1 hc,zZ ha h2]
 ·intro i;rw [bt_pl (by rw [h1,hc]),bt_pl (by rw [ha,hb]),bt_pl (by rw [ha,h2]),bt_pl (by rw [hb,hc]),Bool.xor_assoc]
theorem jw {n:Nat} {a:W} (ha:a.length=n):pl a a=zr n:=by
 apply ext
 ·rw [zZ ha ha,zr_length]
 ·intro i;rw [bt_pl rfl,bt_zr,Bool.xor_self]
theorem Uc {n:Nat} {a:W} (ha:a.length=n):pl a (zr n)=a:=by
 apply ext
 ·rw [zZ ha (zr_length n),ha]
 ·intro i;rw [bt_pl (by rw [ha,zr_length]),bt_zr,Bool.xor_false]
theorem LK {n:Nat} {a:W} (ha:a.length=n):pl (zr n) a=a:=by
 rw [uB,Uc ha]
theorem yM {n:Nat} {a b:W} (ha:a.length=n) (hb:b.length=n):pl (pl a b) b=a:=by
 rw [xH ha hb hb,jw hb,Uc ha]
theorem QF {n:Nat} {a b c:W} (ha:a.length=n) (hb:b.length=n) (hc:c.length=n) (h:pl a c=pl b c):a=b:=by
 rw [<- yM ha hc,<- yM hb hc,h]
theorem UL {n:Nat} {a b:W} (ha:a.length=n) (hb:b.length=n) (h:pl a b=zr n):a=b:=by
 apply QF ha hb hb;rw [h,jw hb]
theorem qI {n:Nat} {a:W} (ha:a.length=n):a=zr n↔true∉a:=by
 constructor
 ·rintro rfl h;simp [zr] at h
 ·intro h;apply List.ext_getElem (by rw [ha,zr_length]);intro i h1 h2;have:a[i]∈a:=List.getElem_mem h1;cases e:a[i] with
  | true=>rw [e] at this;exact absurd this h
  | false=>simp [zr]
theorem hd_lt {w:W} (h:true∈w):hd w<w.length:=List.idxOf_lt_length_of_mem h
theorem bt_hd {w:W} (h:true∈w):bt w (hd w)=true:=by
 rw [bt_eq (hd_lt h)];exact List.getElem_idxOf (hd_lt h)
theorem uj {w:W} {i:Nat} (h:i<hd w):bt w i=false:=by
 induction w generalizing i with
 | nil=>simp [bt]
 | cons x w ih =>
  cases x with
  | true=>simp [hd] at h
  | false =>
   have e:hd (false::w)=hd w+1:=by simp [hd,List.idxOf_cons]
   rw [e] at h;cases i with
   | zero=>simp [bt]
   | succ i=>rw [vf];exact ih (by lia)
theorem Zo {w:W} {i:Nat} (h:bt w i=true):true∈w:=by
 by_cases hi:i<w.length
 ·rw [bt_eq hi] at h;rw [<- h];exact List.getElem_mem hi
 ·rw [YS (by lia)] at h;cases h
theorem qj {w:W} {i:Nat} (h:bt w i=true):hd w<=i:=by
 apply Nat.le_of_not_lt;intro hi;rw [uj hi] at h;cases h
theorem Tp {w:W} {i:Nat} (h:bt w i=true) (hz:∀ j,j<i->bt w j=false):hd w=i:=by
 have h1:=qj h;apply Nat.le_antisymm h1;apply Nat.le_of_not_lt;intro h2;have:=hz _ h2;rw [bt_hd (Zo h)] at this;cases this
def All (n:Nat) (ws:List W):Prop:=∀ w∈ws,w.length=n
inductive Sp (n:Nat) (ws:List W):W->Prop
 | zero:Sp n ws (zr n)
 | add {w v:W}:w∈ws->Sp n ws v->Sp n ws (pl v w)
theorem Sp.length {n:Nat} {ws:List W} (ha:All n ws) {v:W} (h:Sp n ws v):v.length=n:=by
 induction h with
 | zero=>exact zr_length n
 | add hw _ ih=>exact zZ ih (ha _ hw)
theorem Sp.of_mem {n:Nat} {ws:List W} (ha:All n ws) {w:W} (h:w∈ws):Sp n ws w:=by
 have:=Sp.add (n:=n) h Sp.zero
 rwa [LK (ha w h)] at this
theorem Sp.plus {n:Nat} {ws:List W} (ha:All n ws) {u v:W} (hu:Sp n ws u) (hv:Sp n ws v):Sp n ws (pl u v):=by
 induction hv with
 | zero=>rw [Uc (hu.length ha)];exact hu
 | add hw hv ih =>
  rw [<- xH (hu.length ha) (hv.length ha) (ha _ hw)];exact .add hw ih
theorem Sp.mono {n:Nat} {ws us:List W} (hu:All n us) (h:∀ w∈ws,Sp n us w) {v:W} (hv:Sp n ws v):Sp n us v:=by
 induction hv with
 | zero=>exact .zero
 | add hw _ ih=>exact ih.plus hu (h _ hw)
theorem Sp.sub {n:Nat} {ws us:List W} (h:∀ w∈ws,w∈us) {v:W} (hv:Sp n ws v):Sp n us v:=by
 induction hv with
 | zero=>exact .zero
 | add hw _ ih=>exact .add (h _ hw) ih
structure Lin (n:Nat) (V:W->Prop):Prop where
 len:∀ v,V v->v.length=n
 zero:V (zr n)
 plus:∀ u v,V u->V v->V (pl u v)
structure Rows (n:Nat) (rows:List W):Prop where
 len:All n rows
 one:∀ r∈rows,true∈r
 ord:rows.Pairwise fun r s=>hd r<hd s
 off:∀ r∈rows,∀ s∈rows,hd r≠hd s->bt s (hd r)=false
def stp (w r:W):W:=if bt w (hd r) then pl w r else w
def rest (rows:List W) (w:W):W:=rows.foldl stp w
theorem xO {n:Nat} {w r:W} (hw:w.length=n) (hr:r.length=n):(stp w r).length=n:=by
 unfold stp;split
 ·exact zZ hw hr
 ·exact hw
theorem rest_length {n:Nat} {rows:List W} (ha:All n rows) {w:W} (hw:w.length=n):(rest rows w).length=n:=by
 induction rows generalizing w with
 | nil=>exact hw
 | cons r rows ih=>exact ih (fun x hx=>ha x (jM _ hx)) (xO hw (ha r jC))
theorem xh (r:W) (rows:List W) (w:W):rest (r::rows) w=rest rows (stp w r):=rfl
theorem TL {n:Nat} {a b r:W} (ha:a.length=n) (hb:b.length=n) (hr:r.length=n):stp (pl a b) r=pl (stp a r) (stp b r):=by
 unfold stp;rw [bt_pl (by rw [ha,hb])];cases bt a (hd r)<;>cases bt b (hd r)<;>simp
 ·rw [xH ha hb hr]
 ·rw [xH ha hb hr,uB b r,<- xH ha hr hb]
 ·rw [uB b r,<- xH (zZ ha hr) hr hb,yM ha hr]
theorem Pe {n:Nat} {rows:List W} (hr:All n rows) {a b:W} (ha:a.length=n) (hb:b.length=n):rest rows (pl a b)=pl (rest rows a) (rest rows b):=by
 induction rows generalizing a b with
 | nil=>rfl
 | cons r rows ih =>
  have h1:=hr r jC;rw [xh,xh,xh,TL ha hb h1];exact ih (fun x hx=>hr x (jM _ hx)) (xO ha h1) (xO hb h1)
theorem JN {n:Nat} (rows:List W):rest rows (zr n)=zr n:=by
 induction rows with
 | nil=>rfl
 | cons r rows ih=>rw [xh];simpa [stp,bt_zr] using ih
theorem Gg {rows:List W} {w:W} (h:∀ r∈rows,bt w (hd r)=false):rest rows w=w:=by
 induction rows with
 | nil=>rfl
 | cons r rows ih =>
  rw [xh];have:stp w r=w:=by unfold stp;rw [h r jC];rfl
  rw [this];exact ih fun x hx=>h x (jM _ hx)
theorem jq {n:Nat} {rows:List W} (hr:All n rows) {w:W} (hw:w.length=n):Sp n rows (pl w (rest rows w)):=by
 have key:∀ (l:List W) (u:W),(∀ x∈l,x∈rows)->u.length=n->Sp n rows (pl u (rest l u)):=by
  intro l
  induction l with
  | nil=>intro u _ hu;show Sp n rows (pl u u);rw [jw hu];exact .zero
  | cons r l ih =>
   intro u hl hu;have hrl:=hr r (hl r jC);rw [xh];have h2:=ih (stp u r) (fun x hx=>hl x (jM _ hx)) (xO hu hrl)
   by_cases hb:bt u (hd r)=true
   ·have e:stp u r=pl u r:=by unfold stp;rw [hb];rfl
    rw [e] at h2 ⊢;have h3:=h2.add (hl r jC);have hrest:(rest l (pl u r)).length=n:=rest_length (fun x hx=>hr x (hl x (jM _ hx))) (zZ hu hrl)
    have e2:pl (pl (pl u r) (rest l (pl u r))) r=pl u (rest l (pl u r)):=by
     rw [xH (zZ hu hrl) hrest hrl,uB (rest l (pl u r)) r,<- xH (zZ hu hrl) hrl hrest,yM hu hrl]
    rwa [e2] at h3
   ·have e:stp u r=u:=by unfold stp;simp [hb]
    rw [e] at h2 ⊢;exact h2
 exact key rows w (fun _ h=>h) hw
section
variable {n:Nat} {rows:List W}
theorem Rows.tail {r:W} (h:Rows n (r::rows)):Rows n rows :=
 ⟨fun x hx=>h.len x (jM _ hx),fun x hx=>h.one x (jM _ hx),(List.pairwise_cons.mp h.ord).2,fun a ha b hb=>h.off a (jM _ ha) b (jM _ hb)⟩
theorem Rows.inj (h:Rows n rows) {r s:W} (hr:r∈rows) (hs:s∈rows) (e:hd r=hd s):r=s:=by
 have:=h.ord
 induction rows with
 | nil=>cases hr
 | cons x rows ih =>
  obtain ⟨h1,h2⟩:=List.pairwise_cons.mp this
  rcases List.mem_cons.mp hr with hr' | hr'<;>rcases List.mem_cons.mp hs with hs' | hs'
  ·rw [hr',hs']
  ·have:=h1 s hs';rw [hr'] at e;lia
  ·have:=h1 r hr';rw [hs'] at e;lia
  ·exact ih h.tail hr' hs' h2
theorem Rows.bits (h:Rows n rows) {r s:W} (hr:r∈rows) (hs:s∈rows):bt s (hd r)=decide (s=r):=by
 by_cases e:s=r
 ·subst e;rw [bt_hd (h.one s hs)];simp
 ·rw [h.off r hr s hs fun q=>e (h.inj hs hr q.symm)];simp [e]
theorem jr (h:Rows n rows) {w:W} (hw:w.length=n):∀ r∈rows,bt (rest rows w) (hd r)=false:=by
 induction rows generalizing w with
 | nil=>intro r hr;cases hr
 | cons x rows ih =>
  have hx:=h.len x jC;intro r hr;rw [xh]
  rcases List.mem_cons.mp hr with rfl | hr
  ·
   have h0:bt (stp w r) (hd r)=false:=by
    unfold stp;cases e:bt w (hd r) with
    | true=>simp only [if_true];rw [bt_pl (by rw [hw,hx]),e,bt_hd (h.one r jC)];rfl
    | false=>simp only [Bool.false_eq_true,if_false];exact e
   have key:∀ (l:List W) (u:W),(∀ y∈l,y∈rows)->u.length=n->bt u (hd r)=false->bt (rest l u) (hd r)=false:=by
    intro l
    induction l with
    | nil=>intro u _ _ hu;exact hu
    | cons y l ih2 =>
     intro u hl hul hu;have hy:=hl y jC;have hyl:=h.len y (jM _ hy);rw [xh];refine ih2 _ (fun z hz=>hl z (jM _ hz)) (xO hul hyl) ?_
     have hne:hd r≠hd y:=Nat.ne_of_lt ((List.pairwise_cons.mp h.ord).1 y hy);unfold stp
     split
     ·rw [bt_pl (by rw [hul,hyl]),hu,h.off r jC y (jM _ hy) hne];rfl
     ·exact hu
   exact key rows _ (fun _ hy=>hy) (xO hw hx) h0
  ·exact ih h.tail (xO hw hx) r hr
theorem MH (h:Rows n rows) {r:W} (hr:r∈rows):rest rows r=zr n:=by
 have h1:=jq h.len (h.len r hr);have key:∀ (l:List W),l.Pairwise (fun r s=>hd r<hd s)->(∀ x∈l,x∈rows)->r∈l->rest l r=zr n:=by
  intro l
  induction l with
  | nil=>intro _ _ hm;cases hm
  | cons x l ih =>
   intro hp hl hm;obtain ⟨hp1,hp2⟩:=List.pairwise_cons.mp hp;rw [xh]
   by_cases e:x=r
   ·subst e;have:stp x x=zr n:=by unfold stp;rw [bt_hd (h.one x hr)];simp only [if_true];exact jw (h.len x hr)
    rw [this,JN]
   ·have hm':r∈l:=by
     rcases List.mem_cons.mp hm with q | q
     ·exact absurd q.symm e
     ·exact q
    have hb:bt r (hd x)=false:=h.off x (hl x jC) r hr (Nat.ne_of_lt (hp1 r hm'));have:stp r x=r:=by unfold stp;rw [hb];rfl
    rw [this];exact ih hp2 (fun y hy=>hl y (jM _ hy)) hm'
 exact key rows h.ord (fun _ hx=>hx) hr
theorem jb (h:Rows n rows) {v:W} (hv:Sp n rows v):rest rows v=zr n:=by
 induction hv with
 | zero=>exact JN rows
 | add hw hv ih=>rw [Pe h.len (hv.length h.len) (h.len _ hw),ih,MH h hw,jw (zr_length n)]
theorem Mr (h:Rows n rows) {w:W} (hw:w.length=n):Sp n rows w↔rest rows w=zr n:=by
 constructor
 ·exact jb h
 ·intro e;have:=jq h.len hw
  rwa [e,Uc hw] at this
theorem Rows.zero_of (h:Rows n rows) {v:W} (hv:Sp n rows v) (hz:∀ r∈rows,bt v (hd r)=false):v=zr n:=by
 rw [<- Gg hz,jb h hv]
theorem Rows.told (h:Rows n rows) {u v:W} (hu:Sp n rows u) (hv:Sp n rows v) (e:∀ r∈rows,bt u (hd r)=bt v (hd r)):u=v:=by
 apply UL (hu.length h.len) (hv.length h.len);apply h.zero_of (hu.plus h.len hv);intro r hr;rw [bt_pl (by rw [hu.length h.len,hv.length h.len]),e r hr,Bool.xor_self]
theorem Rows.head_in (h:Rows n rows) {v:W} (hv:Sp n rows v) (h1:true∈v):∃ r∈rows,hd r=hd v:=by
 have key:∀ (l:List W),l.Pairwise (fun r s=>hd r<hd s)->(∀ x∈l,x∈rows)->∀ u:W,u.length=n->rest l u=zr n->true∈u->∃ r∈l,hd r=hd u:=by
  intro l
  induction l with
  | nil=>intro _ _ u hu e hm;have e':u=zr n:=e;exact absurd hm ((qI hu).mp e')
  | cons x l ih =>
   intro hp hl u hu e hm;obtain ⟨hp1,hp2⟩:=List.pairwise_cons.mp hp;have hx:=hl x jC;have hxl:=h.len x hx;rw [xh] at e;cases hb:bt u (hd x) with
   | false =>
    have e2:stp u x=u:=by unfold stp;rw [hb];rfl
    rw [e2] at e;obtain ⟨r,hr,q⟩:=ih hp2 (fun y hy=>hl y (jM _ hy)) u hu e hm
    exact ⟨r,jM _ hr,q⟩
   | true =>
    have e2:stp u x=pl u x:=by unfold stp;rw [hb];rfl
    rw [e2] at e;have hle:=qj hb
    rcases Nat.lt_or_eq_of_le hle with hlt | heq
    ·
     have hbu:bt (pl u x) (hd u)=true:=by
      rw [bt_pl (by rw [hu,hxl]),bt_hd hm,uj hlt];rfl
     have hhd:hd (pl u x)=hd u:=Tp hbu fun j hj=>by
      rw [bt_pl (by rw [hu,hxl]),uj hj,uj (by lia)];rfl
     obtain ⟨r,hr,q⟩:=ih hp2 (fun y hy=>hl y (jM _ hy)) (pl u x) (zZ hu hxl) e (Zo hbu)
     exact ⟨r,jM _ hr,by rw [q,hhd]⟩
    ·exact ⟨x,jC,heq.symm⟩
 exact key rows h.ord (fun _ hx=>hx) v (hv.length h.len) (jb h hv) h1
end
end Pd
namespace Pd
def wlt:W->W->Bool
 | [],[]=>false
 | [],_::_=>true
 | _::_,[]=>false
 | x::a,y::b=>if x=y then wlt a b else (!x&&y)
theorem Qh (a:W):wlt a a=false:=by
 induction a with
 | nil=>rfl
 | cons x a ih=>simp [wlt,ih]
theorem Xm {a b c:W} (h1:wlt a b=true) (h2:wlt b c=true):wlt a c=true:=by
 induction a generalizing b c with
 | nil=>cases c with
  | nil=>cases b<;>simp [wlt] at h2
  | cons=>rfl
 | cons x a ih=>cases b with
  | nil=>simp [wlt] at h1
  | cons y b=>cases c with
   | nil=>simp [wlt] at h2
   | cons z c =>
    simp only [wlt] at h1 h2 ⊢;cases x<;>cases y<;>cases z<;>simp_all
    ·exact ih h1 h2
    ·exact ih h1 h2
theorem KN {a b:W}:wlt a b=true\/a=b\/wlt b a=true:=by
 induction a generalizing b with
 | nil=>cases b<;>simp [wlt]
 | cons x a ih=>cases b with
  | nil=>simp [wlt]
  | cons y b =>
   rcases @ih b with h | h | h<;>cases x<;>cases y<;>simp [wlt,h]
theorem KP {a b:W} (h:wlt a b=true):wlt b a=false:=by
 cases e:wlt b a with
 | false=>rfl
 | true=>have:=Xm h e;rw [Qh] at this;cases this
def wle (a b:W):Bool:=!wlt b a
theorem Xn (a b c:W) (h1:wle a b=true) (h2:wle b c=true):wle a c=true:=by
 simp only [wle,Bool.not_eq_true'] at *;cases e:wlt c a with
 | false=>rfl
 | true =>
  rcases KN (a:=a) (b:=b) with h | h | h
  ·have:=Xm e h;rw [h2] at this;cases this
  ·subst h;rw [h2] at e;cases e
  ·rw [h1] at h;cases h
theorem Xo (a b:W):(wle a b||wle b a)=true:=by
 simp only [wle,Bool.or_eq_true,Bool.not_eq_true'];cases e:wlt b a with
 | false=>exact .inl rfl
 | true=>exact .inr (KP e)
theorem KO {a b:W} (hl:a.length=b.length) (h1:true∈a) (h:hd a<hd b):wlt b a=true:=by
 induction a generalizing b with
 | nil=>cases h1
 | cons x a ih=>cases b with
  | nil=>simp at hl
  | cons y b =>
   cases y with
   | true=>simp [hd] at h
   | false =>
    cases x with
    | true=>simp [wlt]
    | false =>
     have e1:hd (false::a)=hd a+1:=by simp [hd,List.idxOf_cons]
     have e2:hd (false::b)=hd b+1:=by simp [hd,List.idxOf_cons]
     simp only [wlt,if_true];exact ih (by simpa using hl) (by simpa using h1) (by lia)
def srt (l:List W):List W:=l.mergeSort wle
def srtD (l:List W):List W:=l.mergeSort fun a b=>wle b a
theorem srt_perm (l:List W):(srt l).Perm l:=List.mergeSort_perm l _
theorem srt_ord (l:List W):(srt l).Pairwise fun a b=>wle a b=true:=List.pairwise_mergeSort Xn Xo l
theorem srtD_perm (l:List W):(srtD l).Perm l:=List.mergeSort_perm l _
theorem srtD_ord (l:List W):(srtD l).Pairwise fun a b=>wle b a=true:=List.pairwise_mergeSort (fun a b c h1 h2=>Xn c b a h2 h1) (fun a b=>Xo b a) l
theorem perm_unique {α:Type} {le:α->α->Prop} (anti:∀ a b,le a b->le b a->a=b):∀ {l₁ l₂:List α},l₁.Perm l₂->l₁.Pairwise le->l₂.Pairwise le->l₁=l₂
 | [],l₂,hp,_,_=>(List.Perm.eq_nil hp.symm).symm
 | a::l₁,[],hp,_,_=>absurd (List.Perm.eq_nil hp) (by simp)
 | a::l₁,b::l₂,hp,h1,h2=>by
  have hab:a=b:=by
   have ha:a∈b::l₂:=hp.subset jC;have hb:b∈a::l₁:=hp.symm.subset jC
   rcases List.mem_cons.mp ha with e | ha
   ·exact e
   ·rcases List.mem_cons.mp hb with e | hb
    ·exact e.symm
    ·exact anti a b ((List.pairwise_cons.mp h1).1 b hb) ((List.pairwise_cons.mp h2).1 a ha)
  subst hab;rw [perm_unique anti (List.Perm.cons_inv hp) (List.pairwise_cons.mp h1).2 (List.pairwise_cons.mp h2).2]
def clr (r x:W):W:=if bt x (hd r) then pl x r else x
def ww (rows:List W) (w:W):List W :=
 let r:=rest rows w
 if true∈r then srtD (rows.map (clr r)++[r]) else rows
section
variable {n:Nat} {rows:List W}
theorem clr_length {r x:W} (hr:r.length=n) (hx:x.length=n):(clr r x).length=n:=by
 unfold clr;split
 ·exact zZ hx hr
 ·exact hx
theorem Jy (h:Rows n rows) {w:W} (hw:w.length=n):Rows n (ww rows w):=by
 unfold ww;have hrl:=rest_length h.len hw;have hoff:=jr h hw;generalize rest rows w=r at *;dsimp only
 split
 case isFalse=>exact h
 case isTrue hr =>
 have hbr:∀ x∈rows,bt x (hd r)=true->hd x<hd r:=fun x hx hb=>by
  have h1:=qj hb
  rcases Nat.lt_or_eq_of_le h1 with q | q
  ·exact q
  ·have:=hoff x hx;rw [q,bt_hd hr] at this;cases this
 have hbx:∀ x∈rows,∀ j,bt (clr r x) j=(bt x j^^(bt x (hd r)&&bt r j)):=fun x hx j=>by
  unfold clr;cases e:bt x (hd r) with
  | true=>simp only [if_true,Bool.true_and];rw [bt_pl (by rw [h.len x hx,hrl])]
  | false=>simp
 have hhd:∀ x∈rows,hd (clr r x)=hd x:=fun x hx=>by
  have h1:=h.one x hx;apply Tp
  ·rw [hbx x hx,bt_hd h1,hoff x hx];simp
  ·intro j hj;rw [hbx x hx,uj hj];cases e:bt x (hd r) with
   | true=>rw [uj (Nat.lt_trans hj (hbr x hx e))];rfl
   | false=>simp
 have hone:∀ x∈rows,true∈clr r x:=fun x hx=>by
  apply Zo (i:=hd x);rw [hbx x hx,bt_hd (h.one x hx),hoff x hx];simp
 have hdne:∀ x∈rows,hd x≠hd r:=fun x hx q=>by
  have:=hoff x hx;rw [q,bt_hd hr] at this;cases this
 have hmem:∀ y,y∈srtD (rows.map (clr r)++[r])↔(∃ x∈rows,clr r x=y)\/y=r:=fun y=>by
  rw [(srtD_perm _).mem_iff,List.mem_append,List.mem_map,List.mem_singleton]
 have hlen:All n (srtD (rows.map (clr r)++[r])):=fun y hy=>by
  rcases (hmem y).mp hy with ⟨x,hx,rfl⟩ | rfl
  ·exact clr_length hrl (h.len x hx)
  ·exact hrl
 have h1:∀ y∈srtD (rows.map (clr r)++[r]),true∈y:=fun y hy=>by
  rcases (hmem y).mp hy with ⟨x,hx,rfl⟩ | rfl
  ·exact hone x hx
  ·exact hr
 refine ⟨hlen,h1,?_,?_⟩
 ·
  have hne:(rows.map (clr r)++[r]).Pairwise fun a b=>hd a≠hd b:=by
   rw [List.pairwise_append];refine ⟨?_,List.pairwise_singleton _ _,fun a ha b hb=>?_⟩
   ·rw [List.pairwise_map];exact h.ord.imp_of_mem fun {a b} ha hb q=>by rw [hhd a ha,hhd b hb];lia
   ·obtain ⟨x,hx,rfl⟩:=List.mem_map.mp ha;rw [List.mem_singleton.mp hb,hhd x hx];exact hdne x hx
  have hne':(srtD (rows.map (clr r)++[r])).Pairwise fun a b=>hd a≠hd b :=
   (List.Perm.pairwise_iff (fun {a b} q=>Ne.symm q) (srtD_perm _)).mpr hne
  refine ((srtD_ord (rows.map (clr r)++[r])).and hne').imp_of_mem fun {a b} ha hb q=>?_
  obtain ⟨q1,q2⟩:=q
  rcases Nat.lt_trichotomy (hd a) (hd b) with z | z | z
  ·exact z
  ·exact absurd z q2
  ·have:=KO (by rw [hlen a ha,hlen b hb]) (h1 b hb) z;simp only [wle,Bool.not_eq_true'] at q1;rw [q1] at this;cases this
 ·intro a ha b hb hab
  rcases (hmem a).mp ha with ⟨x,hx,rfl⟩ | rfl
  ·rw [hhd x hx] at hab ⊢
   rcases (hmem b).mp hb with ⟨y,hy,rfl⟩ | rfl
   ·rw [hhd y hy] at hab;rw [hbx y hy,h.off x hx y hy hab,hoff x hx];simp
   ·exact hoff x hx
  ·rcases (hmem b).mp hb with ⟨y,hy,rfl⟩ | rfl
   ·rw [hbx y hy,bt_hd hr];simp
   ·exact absurd rfl hab
theorem LL (h:Rows n rows) {w:W} (hw:w.length=n) (v:W):Sp n (ww rows w) v↔Sp n (rows++[w]) v:=by
 have hrl:=rest_length h.len hw;have hsp:=jq h.len hw;have hall:All n (rows++[w]):=fun x hx=>by
  rcases List.mem_append.mp hx with q | q
  ·exact h.len x q
  ·rw [List.mem_singleton.mp q];exact hw
 have hrsp:Sp n (rows++[w]) (rest rows w):=by
  have h1:Sp n (rows++[w]) (pl w (rest rows w)):=hsp.sub fun x hx=>List.mem_append_left _ hx
  have h2:Sp n (rows++[w]) w:=Sp.of_mem hall (List.mem_append_right _ (List.mem_singleton.mpr rfl));have h3:=h1.plus hall h2;rw [uB w,yM hrl hw] at h3;exact h3
 have hR:=Jy h hw;unfold ww at hR ⊢;generalize hr0:rest rows w=r at *;dsimp only at hR ⊢
 split
 case isFalse hr =>
  have e:r=zr n:=(qI hrl).mpr hr;rw [e,Uc hw] at hsp
  constructor
  ·exact Sp.sub fun x hx=>List.mem_append_left _ hx
  ·refine Sp.mono h.len fun x hx=>?_
   rcases List.mem_append.mp hx with q | q
   ·exact Sp.of_mem h.len q
   ·rw [List.mem_singleton.mp q];exact hsp
 case isTrue hr =>
 rw [if_pos hr] at hR;have hmem:∀ y,y∈srtD (rows.map (clr r)++[r])↔(∃ x∈rows,clr r x=y)\/y=r:=fun y=>by
  rw [(srtD_perm _).mem_iff,List.mem_append,List.mem_map,List.mem_singleton]
 have hrin:Sp n (srtD (rows.map (clr r)++[r])) r:=Sp.of_mem hR.len ((hmem r).mpr (.inr rfl));have hxin:∀ x∈rows,Sp n (srtD (rows.map (clr r)++[r])) x:=fun x hx=>by
  have h1:Sp n (srtD (rows.map (clr r)++[r])) (clr r x):=Sp.of_mem hR.len ((hmem _).mpr (.inl ⟨x,hx,rfl⟩));unfold clr at h1
  by_cases e:bt x (hd r)=true
  ·rw [if_pos e] at h1;have:=h1.plus hR.len hrin
   rwa [yM (h.len x hx) hrl] at this
  ·rwa [if_neg e] at h1
 constructor
 ·refine Sp.mono hall fun y hy=>?_
  rcases (hmem y).mp hy with ⟨x,hx,rfl⟩ | rfl
  ·have h1:Sp n (rows++[w]) x:=Sp.of_mem hall (List.mem_append_left _ hx);unfold clr
   split
   ·exact h1.plus hall hrsp
   ·exact h1
  ·exact hrsp
 ·refine Sp.mono hR.len fun y hy=>?_
  rcases List.mem_append.mp hy with q | q
  ·exact hxin y q
  ·rw [List.mem_singleton.mp q];have h2:Sp n (srtD (rows.map (clr r)++[r])) (pl w r):=hsp.mono hR.len hxin;have h3:=h2.plus hR.len hrin
   rwa [yM hw hrl] at h3
def mk (ws:List W):List W:=ws.foldl ww []
theorem MG:Rows n []:=⟨fun _ h=>(by cases h),fun _ h=>(by cases h),.nil,fun _ h=>(by cases h)⟩
theorem mk_all {ws:List W} (hw:All n ws):Rows n (mk ws)/\∀ v,Sp n (mk ws) v↔Sp n ws v:=by
 have key:∀ (ws us:List W) (rows:List W),All n ws->All n us->Rows n rows->(∀ v,Sp n rows v↔Sp n us v)->Rows n (ws.foldl ww rows)/\∀ v,Sp n (ws.foldl ww rows) v↔Sp n (us++ws) v:=by
  intro ws
  induction ws with
  | nil=>intro us rows _ _ h1 h2;rw [List.append_nil];exact ⟨h1,h2⟩
  | cons w ws ih =>
   intro us rows ha hu h1 h2;have hwl:=ha w jC;have hu':All n (us++[w]):=fun x hx=>by
    rcases List.mem_append.mp hx with q | q
    ·exact hu x q
    ·rw [List.mem_singleton.mp q];exact hwl
   have h3:∀ v,Sp n (ww rows w) v↔Sp n (us++[w]) v:=fun v=>by
    rw [LL h1 hwl];have hr':All n (rows++[w]):=fun x hx=>by
     rcases List.mem_append.mp hx with q | q
     ·exact h1.len x q
     ·rw [List.mem_singleton.mp q];exact hwl
    constructor
    ·refine Sp.mono hu' fun x hx=>?_
     rcases List.mem_append.mp hx with q | q
     ·exact ((h2 x).mp (Sp.of_mem h1.len q)).sub fun y hy=>List.mem_append_left _ hy
     ·exact Sp.of_mem hu' (List.mem_append_right _ q)
    ·refine Sp.mono hr' fun x hx=>?_
     rcases List.mem_append.mp hx with q | q
     ·exact ((h2 x).mpr (Sp.of_mem hu q)).sub fun y hy=>List.mem_append_left _ hy
     ·exact Sp.of_mem hr' (List.mem_append_right _ q)
   have:=ih (us++[w]) (ww rows w) (fun x hx=>ha x (jM _ hx)) hu' (Jy h1 hwl) h3
   rwa [List.append_assoc] at this
 have:=key ws [] [] hw (fun _ h=>(by cases h)) MG fun v=>Iff.rfl
 rwa [List.nil_append] at this
end
end Pd
namespace Pd
theorem perm_of_mem {α:Type} {l l':List α} (n1:l.Nodup) (n2:l'.Nodup) (h:∀ w,w∈l↔w∈l'):l.Perm l':=by
 classical
 induction l generalizing l' with
 | nil =>
  cases l' with
  | nil=>exact .nil
  | cons y _=>exact absurd ((h y).mpr jC) (by simp)
 | cons x l ih =>
  have hx:x∈l':=(h x).mp jC;obtain ⟨s,t,rfl⟩:=List.append_of_mem hx;refine List.Perm.trans (List.Perm.cons x (ih (l':=s++t) (List.nodup_cons.mp n1).2 ?_ fun w=>?_)) List.perm_middle.symm
  ·exact (List.nodup_cons.mp (List.perm_middle.nodup_iff.mp n2)).2
  ·have hn:x∉s++t:=(List.nodup_cons.mp (List.perm_middle.nodup_iff.mp n2)).1;have hm:=h w;rw [List.mem_cons,List.mem_append,List.mem_cons] at hm;rw [List.mem_append]
   constructor
   ·intro hw
    rcases hm.mp (.inr hw) with q | q | q
    ·exact .inl q
    ·subst q;exact absurd hw (List.nodup_cons.mp n1).1
    ·exact .inr q
   ·intro hw
    rcases hm.mpr (hw.elim .inl fun q=>.inr (.inr q)) with q | q
    ·subst q;exact absurd (List.mem_append.mpr hw) hn
    ·exact q
theorem Jh {α:Type} {l:List α} {p:α->Bool} {x:α} (nd:l.Nodup) (hx:x∈l) (h:∀ y∈l,p y=true↔y=x):l.filter p=[x]:=by
 induction l with
 | nil=>cases hx
 | cons y l ih =>
  obtain ⟨h1,h2⟩:=List.nodup_cons.mp nd
  by_cases e:y=x
  ·subst e;have hp:p y=true:=(h y jC).mpr rfl;rw [List.filter_cons_of_pos hp];congr 1;rw [List.filter_eq_nil_iff];intro z hz hpz;have:=(h z (jM _ hz)).mp hpz;subst this;exact h1 hz
  ·have hp:¬ p y=true:=fun q=>e ((h y jC).mp q)
   rw [List.filter_cons_of_neg hp]
   rcases List.mem_cons.mp hx with q | q
   ·exact absurd q.symm e
   ·exact ih h2 q fun z hz=>h z (jM _ hz)
def hds (n:Nat) (S:List W):List Nat:=(List.range n).filter fun p=>!(S.filter fun w=>decide (true∈w)&&decide (hd w=p)).isEmpty
def lawRows (n:Nat) (S:List W):List W :=
 (List.range (hds n S).length).flatMap fun k=>S.filter fun w=>decide ((hds n S).map (bt w)=(List.range (hds n S).length).map fun j=>decide (j=k))
section
variable {n:Nat} {R S:List W}
theorem Rows.nodup (h:Rows n R):R.Nodup:=h.ord.imp fun {a b} q e=>by subst e;lia
theorem hds_eq (h:Rows n R) (hS:∀ w,w∈S↔Sp n R w):hds n S=R.map hd:=by
 have n1:(hds n S).Pairwise (·<·):=List.Pairwise.filter _ List.pairwise_lt_range;have n2:(R.map hd).Pairwise (·<·):=by rw [List.pairwise_map];exact h.ord
 refine perm_unique (le:=fun a b:Nat=>a<b) (fun a b h1 h2=>by lia) (perm_of_mem (n1.imp fun q=>Nat.ne_of_lt q) (n2.imp fun q=>Nat.ne_of_lt q) fun p=>?_) n1 n2
 unfold hds;rw [List.mem_filter,List.mem_range,List.mem_map];simp only [Bool.not_eq_true',List.isEmpty_eq_false_iff_exists_mem,List.mem_filter,Bool.and_eq_true,decide_eq_true_eq]
 constructor
 ·rintro ⟨_,w,hw,h1,rfl⟩;exact h.head_in ((hS w).mp hw) h1
 ·rintro ⟨r,hr,rfl⟩;have h1:=h.one r hr;refine ⟨?_,r,(hS r).mpr (Sp.of_mem h.len hr),h1,rfl⟩;have:=hd_lt h1
  rwa [h.len r hr] at this
theorem jf (h:Rows n R) (nd:S.Nodup) (hS:∀ w,w∈S↔Sp n R w):lawRows n S=R:=by
 unfold lawRows;rw [hds_eq h hS,List.length_map];have key:∀ k (hk:k<R.length),(S.filter fun w=>decide ((R.map hd).map (bt w)=(List.range R.length).map fun j=>decide (j=k)))=[R[k]]:=by
  intro k hk;have hr:R[k]∈R:=List.getElem_mem hk;refine Jh nd ((hS _).mpr (Sp.of_mem h.len hr)) fun y hy=>?_
  rw [decide_eq_true_eq,List.map_map];have hbits:R.map (bt R[k] ∘ hd)=(List.range R.length).map fun j=>decide (j=k):=by
   apply List.ext_getElem (by simp);intro i h1 h2;rw [List.getElem_map,List.getElem_map,List.getElem_range];have hi:i<R.length:=by simpa using h1
   show bt R[k] (hd R[i])=_;rw [h.bits (List.getElem_mem hi) hr];have nd':=h.nodup
   by_cases e:i=k
   ·subst e;simp
   ·have:R[k]≠R[i]:=fun q=>e ((List.getElem_inj nd').mp q).symm
    simp [this,e]
  constructor
  ·intro e;refine h.told ((hS y).mp hy) (Sp.of_mem h.len hr) fun r hrr=>?_
   obtain ⟨i,hi,rfl⟩:=List.getElem_of_mem hrr;have e2:(R.map (bt y ∘ hd))[i]'(by simpa using hi)=(R.map (bt R[k] ∘ hd))[i]'(by simpa using hi):=by
    have:=e.trans hbits.symm;simp only [this]
   simpa using e2
  ·rintro rfl;exact hbits
 have e1:(List.range R.length).flatMap (fun k=>S.filter fun w=>decide ((R.map hd).map (bt w)=(List.range R.length).map fun j=>decide (j=k)))=(List.range R.length).flatMap (fun k=>[R.getD k []]):=by
  rw [List.flatMap_def,List.flatMap_def];congr 1;apply List.map_congr_left;intro k hk;have hk':=List.mem_range.mp hk;rw [key k hk'];simp [hk']
 rw [e1];rw [List.flatMap_def];have e2:(List.range R.length).map (fun k=>[R.getD k []])=R.map fun r=>[r]:=by
  apply List.ext_getElem (by simp);intro i h1 h2;have hi:i<R.length:=by simpa using h1
  simp [hi]
 rw [e2]
 clear e1 e2 key hS nd h
 induction R with
 | nil=>rfl
 | cons r R ih=>simpa using ih
def sums (n:Nat) (ws:List W):List W:=ws.foldl (fun f w=>if w∈f then f else f++f.map fun x=>pl x w) [zr n]
def sprd (n:Nat) (ws:List W):List W:=srt (sums n ws)
theorem BP {us:List W} {w:W} (hu:All n us) (hw:w.length=n) (v:W) (hv:v.length=n):Sp n (us++[w]) v↔Sp n us v\/Sp n us (pl v w):=by
 have ha:All n (us++[w]):=fun x hx=>by
  rcases List.mem_append.mp hx with q | q
  ·exact hu x q
  ·rw [List.mem_singleton.mp q];exact hw
 have hwin:Sp n (us++[w]) w:=Sp.of_mem ha (List.mem_append_right _ (List.mem_singleton.mpr rfl))
 constructor
 ·intro h
  clear hv
  induction h with
  | zero=>exact .inl .zero
  | @add x y hx hy ih =>
   have hyl:=hy.length ha
   rcases List.mem_append.mp hx with q | q
   ·have hxl:=hu x q
    rcases ih with z | z
    ·exact .inl (z.add q)
    ·refine .inr ?_;have:=z.add q
     rwa [xH hyl hw hxl,uB w x,<- xH hyl hxl hw] at this
   ·rw [List.mem_singleton.mp q]
    rcases ih with z | z
    ·exact .inr (by rw [yM hyl hw];exact z)
    ·exact .inl z
 ·rintro (h | h)
  ·exact h.sub fun x hx=>List.mem_append_left _ hx
  ·have:=(h.sub fun x hx=>List.mem_append_left [w] hx).plus ha hwin
   rwa [yM hv hw] at this
theorem sums_all {ws:List W} (hw:All n ws):(sums n ws).Nodup/\∀ v,v∈sums n ws↔Sp n ws v:=by
 have key:∀ (ws us f:List W),All n ws->All n us->f.Nodup->(∀ v,v∈f↔Sp n us v) ->
   (ws.foldl (fun f w=>if w∈f then f else f++f.map fun x=>pl x w) f).Nodup/\∀ v,v∈ws.foldl (fun f w=>if w∈f then f else f++f.map fun x=>pl x w) f↔Sp n (us++ws) v:=by
  intro ws
  induction ws with
  | nil=>intro us f _ _ h1 h2;rw [List.append_nil];exact ⟨h1,h2⟩
  | cons w ws ih =>
   intro us f ha hu h1 h2;have hwl:=ha w jC;have hu':All n (us++[w]):=fun x hx=>by
    rcases List.mem_append.mp hx with q | q
    ·exact hu x q
    ·rw [List.mem_singleton.mp q];exact hwl
   have hfl:∀ v∈f,v.length=n:=fun v hv=>((h2 v).mp hv).length hu
   rw [List.foldl_cons,show us++w::ws=(us++[w])++ws by simp];refine ih _ _ (fun x hx=>ha x (jM _ hx)) hu' ?_ fun v=>?_
   ·split
    ·exact h1
    case isFalse hn =>
     rw [List.nodup_append];refine ⟨h1,?_,fun a ha' b hb e=>?_⟩
     ·refine List.pairwise_map.mpr (h1.imp_of_mem fun {a b} ha' hb q e=>q ?_);exact QF (hfl a ha') (hfl b hb) hwl e
     ·subst e;obtain ⟨c,hc,e⟩:=List.mem_map.mp hb;have h3:=((h2 a).mp ha').plus hu ((h2 c).mp hc);have:pl a c=w:=by rw [<- e,uB c w,yM hwl (hfl c hc)]
      rw [this] at h3;exact hn ((h2 w).mpr h3)
   ·split
    case isTrue hin =>
     constructor
     ·intro hv;exact ((h2 v).mp hv).sub fun x hx=>List.mem_append_left _ hx
     ·intro hv;refine (h2 v).mpr (hv.mono hu fun x hx=>?_)
      rcases List.mem_append.mp hx with q | q
      ·exact Sp.of_mem hu q
      ·rw [List.mem_singleton.mp q];exact (h2 w).mp hin
    case isFalse hn =>
     rw [List.mem_append,List.mem_map]
     constructor
     ·rintro (hv | ⟨c,hc,rfl⟩)
      ·exact ((h2 v).mp hv).sub fun x hx=>List.mem_append_left _ hx
      ·exact (((h2 c).mp hc).sub fun x hx=>List.mem_append_left _ hx).add (List.mem_append_right _ (List.mem_singleton.mpr rfl))
     ·intro hv;have hvl:=hv.length hu'
      rcases (BP hu hwl v hvl).mp hv with q | q
      ·exact .inl ((h2 v).mpr q)
      ·exact .inr ⟨_,(h2 _).mpr q,yM hvl hwl⟩
 have:=key ws [] [zr n] hw (fun _ h=>(by cases h)) (by simp) fun v=>by
  rw [List.mem_singleton]
  constructor
  ·rintro rfl;exact .zero
  ·intro h;cases h with
   | zero=>rfl
   | add h _=>cases h
 rwa [List.nil_append] at this
theorem mem_sprd {ws:List W} (hw:All n ws) (v:W):v∈sprd n ws↔Sp n ws v:=by
 rw [sprd,(srt_perm _).mem_iff];exact (sums_all hw).2 v
theorem sprd_nodup {ws:List W} (hw:All n ws):(sprd n ws).Nodup:=(srt_perm _).nodup_iff.mpr (sums_all hw).1
theorem law_desk {ws:List W} (hw:All n ws):lawRows n (sprd n ws)=mk ws :=
 jf (mk_all hw).1 (sprd_nodup hw) fun w=>by rw [mem_sprd hw,(mk_all hw).2]
theorem VV {R':List W} (h:Rows n R) (h':Rows n R') (e:∀ v,Sp n R v↔Sp n R' v):R=R':=by
 rw [<- jf h (sprd_nodup h.len) (mem_sprd h.len),<- jf h' (sprd_nodup h.len) fun w=>by rw [mem_sprd h.len,e]]
theorem mk_of_rows (h:Rows n R):mk R=R:=VV (mk_all h.len).1 h (mk_all h.len).2
end
end Pd
namespace Pd
theorem nodup_map_on {α β:Type} {f:α->β}:∀ {l:List α},l.Nodup->(∀ x∈l,∀ y∈l,f x=f y->x=y)->(l.map f).Nodup
 | [],_,_=>by simp
 | x::l,nd,h=>by
  have ⟨n1,n2⟩:=List.nodup_cons.mp nd;rw [List.map_cons,List.nodup_cons];refine ⟨fun hm=>?_,nodup_map_on n2 fun a ha b hb=>h a (jM _ ha) b (jM _ hb)⟩
  obtain ⟨y,hy,e⟩:=List.mem_map.mp hm;rw [<- h y (jM _ hy) x jC e] at n1;exact n1 hy
def aw:Nat->List W
 | 0=>[[]]
 | n+1=>(aw n).map (false::·)++(aw n).map (true::·)
theorem mem_aw {n:Nat} {v:W}:v∈aw n↔v.length=n:=by
 induction n generalizing v with
 | zero=>simp [aw]
 | succ n ih =>
  cases v with
  | nil=>simp [aw]
  | cons b v =>
   cases b<;>simp [aw,ih]
theorem aw_nodup (n:Nat):(aw n).Nodup:=by
 induction n with
 | zero=>simp [aw]
 | succ n ih =>
  rw [aw,List.nodup_append];refine ⟨?_,?_,?_⟩
  ·exact nodup_map_on ih fun x _ y _ e=>by cases e;rfl
  ·exact nodup_map_on ih fun x _ y _ e=>by cases e;rfl
  ·intro a ha b hb e;obtain ⟨x,_,rfl⟩:=List.mem_map.mp ha;obtain ⟨y,_,rfl⟩:=List.mem_map.mp hb;cases e
theorem aw_length (n:Nat):(aw n).length=2 ^ n:=by
 induction n with
 | zero=>rfl
 | succ n ih=>rw [aw,List.length_append,List.length_map,List.length_map,ih,Nat.pow_succ];lia
end Pd
namespace Pd
def ip:W->W->Bool
 | a::as,b::bs=>(a&&b)^^ip as bs
 | _,_=>false
theorem NO (b:W):ip [] b=false:=by cases b<;>rfl
theorem vI (a b:W):ip a b=ip b a:=by
 induction a generalizing b with
 | nil=>cases b<;>rfl
 | cons x a ih=>cases b with
  | nil=>rfl
  | cons y b=>simp only [ip,ih b,Bool.and_comm]
theorem UE {n:Nat} {a b c:W} (ha:a.length=n) (hb:b.length=n) (hc:c.length=n):ip (pl a b) c=(ip a c^^ip b c):=by
 induction a generalizing b c n with
 | nil =>
  have:b=[]:=by cases b;rfl;simp at ha hb;lia
  subst this;simp [pl,NO]
 | cons x a ih =>
  cases b with
  | nil=>simp at ha hb;lia
  | cons y b =>
   cases c with
   | nil=>simp at ha hc;lia
   | cons z c =>
    have:=ih (n:=n-1) (b:=b) (c:=c) (by simp at ha;lia) (by simp at hb;lia) (by simp at hc;lia);have e:pl (x::a) (y::b)=(x^^y)::pl a b:=rfl;rw [e];simp only [ip,this];cases x<;>cases y<;>cases z<;>simp<;>cases ip a c<;>cases ip b c<;>rfl
theorem ZK {n:Nat} {a b c:W} (ha:a.length=n) (hb:b.length=n) (hc:c.length=n):ip c (pl a b)=(ip c a^^ip c b):=by
 rw [vI,UE ha hb hc,vI a,vI b]
theorem To (n:Nat) (a:W):ip (zr n) a=false:=by
 induction n generalizing a with
 | zero=>cases a<;>rfl
 | succ n ih=>cases a with
  | nil=>rfl
  | cons x a =>
   have:zr (n+1)=false::zr n:=rfl;rw [this];simp [ip,ih]
theorem ZJ (n:Nat) (a:W):ip a (zr n)=false:=by rw [vI,To]
def un:Nat->Nat->W
 | 0,_=>[]
 | n+1,0=>true::zr n
 | n+1,j+1=>false::un n j
theorem vh (n j:Nat):(un n j).length=n:=by
 induction n generalizing j with
 | zero=>rfl
 | succ n ih=>cases j with
  | zero=>simp [un,zr]
  | succ j=>simp [un,ih]
theorem NN {n j:Nat} {v:W} (hv:v.length=n):ip v (un n j)=bt v j:=by
 induction n generalizing j v with
 | zero=>cases v with
  | nil=>simp [NO,Lx]
  | cons x v=>simp at hv
 | succ n ih=>cases v with
  | nil=>simp at hv
  | cons x v =>
   have hv':v.length=n:=by simpa using hv
   cases j with
   | zero=>simp [un,ip,ZJ,uL]
   | succ j=>simp [un,ip,ih hv',vf]
theorem Tv {n j i:Nat} (hj:j<n):bt (un n j) i=decide (i=j):=by
 induction n generalizing j i with
 | zero=>lia
 | succ n ih=>cases j with
  | zero=>cases i with
   | zero=>simp [un,uL]
   | succ i=>simp [un,vf,bt_zr]
  | succ j=>cases i with
   | zero=>simp [un,uL]
   | succ i=>simp [un,vf,ih (show j<n by lia)]
def Du (n:Nat) (ws:List W) (v:W):Prop:=v.length=n/\∀ w∈ws,ip w v=false
instance (n:Nat) (ws:List W) (v:W):Decidable (Du n ws v):=inferInstanceAs (Decidable (_/\_))
section
variable {n:Nat} {R ws:List W}
theorem Du.lin (ha:All n ws):Lin n (Du n ws):=⟨fun v h=>h.1,⟨zr_length n,fun w _=>ZJ n w⟩,fun u v hu hv=>⟨zZ hu.1 hv.1,fun w hw=>by
 rw [ZK hu.1 hv.1 (ha w hw),hu.2 w hw,hv.2 w hw];rfl⟩⟩
theorem Du.sp (ha:All n ws) {v:W} (h:Du n ws v) {w:W} (hw:Sp n ws w):ip w v=false:=by
 induction hw with
 | zero=>exact To n v
 | add h1 h2 ih=>rw [UE (h2.length ha) (ha _ h1) h.1,ih,h.2 _ h1];rfl
def db (n:Nat) (R:List W) (j:Nat):W:=(R.filter fun r=>bt r j).foldr (fun r v=>pl (un n (hd r)) v) (un n j)
theorem vk (j:Nat):(db n R j).length=n:=by
 unfold db
 induction (R.filter fun r=>bt r j) with
 | nil=>exact vh n j
 | cons r l ih=>exact zZ (vh n _) ih
theorem GH {s:W} (hs:s.length=n) (j:Nat) (l:List W):ip s (l.foldr (fun r v=>pl (un n (hd r)) v) (un n j))=(bt s j^^l.foldr (fun r b=>bt s (hd r)^^b) false):=by
 induction l with
 | nil=>simp [NN hs]
 | cons r l ih =>
  have hl:(l.foldr (fun r v=>pl (un n (hd r)) v) (un n j)).length=n:=by
   clear ih
   induction l with
   | nil=>exact vh n j
   | cons r l ih=>exact zZ (vh n _) ih
  rw [List.foldr_cons,List.foldr_cons,ZK (vh n _) hl hs,ih,NN hs];cases bt s j<;>cases bt s (hd r)<;>simp
theorem Kn {s:W} (hs:s.length=n) (j:Nat):ip s (db n R j)=(bt s j^^(R.filter fun r=>bt r j).foldr (fun r b=>bt s (hd r)^^b) false):=GH hs j _
theorem UI {l:List W} (nd:l.Nodup) (s:W) (g:W->Bool) (hg:∀ r∈l,g r=decide (s=r)):l.foldr (fun r b=>g r^^b) false=decide (s∈l):=by
 induction l with
 | nil=>simp
 | cons r l ih =>
  have ⟨n1,n2⟩:=List.nodup_cons.mp nd;rw [List.foldr_cons,ih n2 fun r hr=>hg r (jM _ hr),hg r jC]
  by_cases e:s=r
  ·subst e;simp [n1]
  ·simp [e]
theorem Zs {l:List W} (g:W->Bool) (hg:∀ r∈l,g r=false):l.foldr (fun r b=>g r^^b) false=false:=by
 induction l with
 | nil=>rfl
 | cons r l ih=>rw [List.foldr_cons,ih fun r hr=>hg r (jM _ hr),hg r jC];rfl
theorem KB (h:Rows n R) (j:Nat):Du n R (db n R j):=by
 refine ⟨vk j,fun s hs=>?_⟩
 rw [Kn (h.len s hs),UI (h.nodup.filter _) s _ fun r hr=>by rw [h.bits (List.mem_filter.mp hr).1 hs]]
 have:decide (s∈R.filter fun r=>bt r j)=bt s j:=by
  rw [Bool.eq_iff_iff,decide_eq_true_eq,List.mem_filter];exact ⟨fun z=>z.2,fun z=>⟨hs,z⟩⟩
 rw [this,Bool.xor_self]
theorem GQ (h:Rows n R) {v:W} (hv:v.length=n) (hd:∀ u,Du n R u->ip u v=false):Sp n R v:=by
 rw [Mr h hv];have hw:=rest_length h.len hv;rw [qI hw];intro hm;have hj:=hd (db n R (Pd.hd (rest R v))) (KB h _);have e1:ip (pl v (rest R v)) (db n R (Pd.hd (rest R v)))=false:=(KB h _).sp h.len (jq h.len hv);rw [UE hv hw (vk _),vI v,hj,Bool.false_xor,Kn hw,Zs,bt_hd hm] at e1
 ·cases e1
 ·intro r hr;exact jr h hv r (List.mem_filter.mp hr).1
theorem KU (h:Rows n R) {v:W}:Sp n R v↔v.length=n/\∀ u,Du n R u->ip u v=false :=
 ⟨fun z=>⟨z.length h.len,fun u hu=>by rw [vI];exact hu.sp h.len z⟩,fun z=>GQ h z.1 z.2⟩
noncomputable def desk (n:Nat) (V:W->Prop):List W:=open Classical in mk ((aw n).filter fun v=>decide (V v))
theorem VB:∀ {R:List W},Rows n R->(sums n R).length=2 ^ R.length:=by
 intro R;have gen:∀ (Q P:List W),Rows n (P++Q)->(sums n P).length=2 ^ P.length->(sums n (P++Q)).length=2 ^ (P++Q).length:=by
  intro Q
  induction Q with
  | nil=>intro P _ h;simpa using h
  | cons r Q ih =>
   intro P hR hP;have e:P++r::Q=(P++[r])++Q:=by simp
   rw [e] at hR ⊢;refine ih _ hR ?_;have hall:=hR.len;have hPa:All n P:=fun w hw=>hall w (by simp [hw])
   have hr:r∉sums n P:=by
    rw [(sums_all hPa).2];intro hs;have z:bt r (hd r)=false:=by
     have gz:∀ v,Sp n P v->bt v (hd r)=false:=by
      intro v hv
      induction hv with
      | zero=>exact bt_zr n _
      | add hw hv ih =>
       rename_i w v
       have hw':w∈(P++[r])++Q:=by simp [hw]
       have hr':r∈(P++[r])++Q:=by simp
       have hne:hd r≠hd w:=by
        have:=hR.ord;rw [List.append_assoc,List.pairwise_append] at this;have:=this.2.2 w hw r (by simp)
        lia
       rw [bt_pl ((hv.length hPa).trans (hPa w hw).symm),ih,hR.off r hr' w hw' hne];rfl
     exact gz r hs
    rw [bt_hd (hR.one r (by simp))] at z;cases z
   have es:sums n (P++[r])=if r∈sums n P then sums n P else sums n P++(sums n P).map fun x=>pl x r:=by
    unfold sums;rw [List.foldl_append];rfl
   rw [es,if_neg hr,List.length_append,List.length_map,hP,List.length_append,List.length_singleton,Nat.pow_succ];lia
 intro h;have:=gen R [] (by simpa using h) (by simp [sums]);simpa using this
theorem ZF (h:Rows n R):(sprd n R).length=2 ^ R.length:=by rw [sprd,(srt_perm _).length_eq];exact VB h
def sg (R:List W) (v:W):W:=R.map fun r=>ip r v
end
end Pd
namespace Pd
section
variable {n:Nat} {R D ws:List W}
def lift (n:Nat):List W->W->W
 | r::R,b::s=>if b then pl (un n (hd r)) (lift n R s) else lift n R s
 | _,_=>zr n
end
end Pd
namespace Pu
open PySem L2
structure EncOk {α:Type} (f:α->PV) (d:Nat):Prop where
 eq:∀ a b,eqv (f a) (f b)=true↔a=b
 lay:∀ a,(dat (f a)).canLay0=true
 dep:∀ a,(dat (f a)).depth<=d
section
variable {α β:Type} {f:α->PV} {g:β->PV} {d e:Nat}
theorem EncOk.cmp (h:EncOk f d) (hd:d<=50:=by decide) (a:α):xB (f a)=true:=by
 unfold xB;rw [h.lay a,Bool.true_and,decide_eq_true_eq];exact Nat.le_trans (h.dep a) hd
theorem EncOk.int:EncOk PV.int 0:=⟨fun a b=>by simp [eqv,dat,PyData.eqv],fun _=>by simp [dat,PyData.canLay0],fun _=>by simp [dat,PyData.depth]⟩
theorem EncOk.bl:EncOk PV.bl 0:=⟨fun a b=>by simp [eqv,dat,PyData.eqv],fun _=>by simp [dat,PyData.canLay0],fun _=>by simp [dat,PyData.depth]⟩
theorem EncOk.nat:EncOk (fun n:Nat=>PV.int (n:Int)) 0:=⟨fun a b=>by simp [eqv,dat,PyData.eqv,Int.ofNat_inj],fun _=>by simp [dat,PyData.canLay0],fun _=>by simp [dat,PyData.depth]⟩
def eb (b:Bool):PV:=.int (if b then 1 else 0)
theorem EncOk.eb:EncOk eb 0:=⟨fun a b=>by cases a<;>cases b<;>simp [Pu.eb,eqv,dat,PyData.eqv],fun a=>by simp [Pu.eb,dat,PyData.canLay0],fun a=>by simp [Pu.eb,dat,PyData.depth]⟩
theorem EncOk.all (h:EncOk f d):∀ l m:List α,PyData.eqvAll (dats (l.map f)) (dats (m.map f))=true↔l=m
 | [],[]=>by simp [dats,PyData.eqvAll]
 | [],_::_=>by simp [dats,PyData.eqvAll]
 | _::_,[]=>by simp [dats,PyData.eqvAll]
 | a::l,b::m=>by
  have:=h.all l m;have h1:=h.eq a b;unfold eqv at h1;simp only [List.map_cons,dats,PyData.eqvAll,Bool.and_eq_true,this,h1,List.cons.injEq]
theorem EncOk.lays (h:EncOk f d):∀ l:List α,PyData.canLayAll0 (dats (l.map f))=true
 | []=>by simp [dats,PyData.canLayAll0]
 | a::l=>by simp [dats,PyData.canLayAll0,h.lay a,h.lays l]
theorem EncOk.deps (h:EncOk f d):∀ l:List α,PyData.depthAll (dats (l.map f))<=d
 | []=>by simp [dats,PyData.depthAll]
 | a::l=>by
  simp only [List.map_cons,dats,PyData.depthAll];exact Nat.max_le.mpr ⟨h.dep a,h.deps l⟩
theorem EncOk.lst (h:EncOk f d):EncOk (fun l:List α=>PV.lst (l.map f)) (d+1) :=
 ⟨fun a b=>by simp only [eqv,dat,PyData.eqv];exact h.all a b,fun a=>by simp [dat,PyData.canLay0,h.lays a],fun a=>by simp only [dat,PyData.depth];have:=h.deps a;lia⟩
theorem EncOk.tup (h:EncOk f d):EncOk (fun l:List α=>PV.tup (l.map f)) (d+1) :=
 ⟨fun a b=>by simp only [eqv,dat,PyData.eqv];exact h.all a b,fun a=>by simp [dat,PyData.canLay0,h.lays a],fun a=>by simp only [dat,PyData.depth];have:=h.deps a;lia⟩
theorem EncOk.pair (h:EncOk f d) (k:EncOk g e):EncOk (fun p:α×β=>PV.tup [f p.1,g p.2]) (max d e+1) :=
 ⟨fun a b=>by
  have h1:=h.eq a.1 b.1;have h2:=k.eq a.2 b.2;unfold eqv at h1 h2;simp only [eqv,dat,dats,PyData.eqv,PyData.eqvAll,Bool.and_eq_true,h1,h2,and_true];exact ⟨fun z=>Prod.ext z.1 z.2,fun z=>z ▸ ⟨rfl,rfl⟩⟩,fun a=>by simp [dat,dats,PyData.canLay0,PyData.canLayAll0,h.lay,k.lay],fun a=>by
  simp only [dat,dats,PyData.depth,PyData.depthAll];have:=h.dep a.1;have:=k.dep a.2;lia⟩
theorem EncOk.comp (h:EncOk f d) {γ:Type} (k:γ->α) (inj:∀ a b,k a=k b->a=b):EncOk (fun x=>f (k x)) d :=
 ⟨fun a b=>(h.eq _ _).trans ⟨inj a b,fun z=>z ▸ rfl⟩,fun a=>h.lay _,fun a=>h.dep _⟩
def ew (w:Pd.W):PV:=.tup (w.map eb)
theorem EncOk.ew:EncOk ew 1:=EncOk.eb.tup
section
variable [DecidableEq α]
theorem EncOk.eqv (h:EncOk f d) (a b:α):eqv (f a) (f b)=decide (a=b):=by
 rw [Bool.eq_iff_iff,h.eq,decide_eq_true_eq]
theorem EncOk.eqF (h:EncOk f d) (a b:α) (hd:d<=50:=by decide):eqF (f a) (f b)=.ok (.bl (decide (a=b))):=by
 unfold Pu.eqF;rw [h.cmp hd,h.cmp hd,h.eqv];rfl
theorem EncOk.neF (h:EncOk f d) (a b:α) (hd:d<=50:=by decide):neF (f a) (f b)=.ok (.bl (!decide (a=b))):=by
 unfold Pu.neF;rw [h.cmp hd,h.cmp hd,h.eqv];rfl
theorem EncOk.any (h:EncOk f d) (a:α) (l:List α):((l.map f).any fun y=>Pu.eqv y (f a))=decide (a∈l):=by
 rw [Bool.eq_iff_iff,List.any_eq_true,decide_eq_true_eq]
 constructor
 ·rintro ⟨y,hy,e⟩;obtain ⟨b,hb,rfl⟩:=List.mem_map.mp hy;rw [(h.eq b a).mp e] at hb;exact hb
 ·intro ha;exact ⟨f a,List.mem_map_of_mem ha,(h.eq a a).mpr rfl⟩
theorem EncOk.inT (h:EncOk f d) (a:α) (l:List α) (hd:d+1<=50:=by decide):inF (f a) (.tup (l.map f))=.ok (.bl (decide (a∈l))):=by
 have:=h.tup.cmp hd l;simp only [inF,h.cmp (by lia),this,Bool.and_self,if_true,h.any]
theorem EncOk.ninL (h:EncOk f d) (a:α) (l:List α) (hd:d+1<=50:=by decide):uN (f a) (.lst (l.map f))=.ok (.bl (!decide (a∈l))):=by
 have:=h.lst.cmp hd l;simp only [uN,h.cmp (by lia),this,Bool.and_self,if_true,h.any]
theorem EncOk.ninT (h:EncOk f d) (a:α) (l:List α) (hd:d+1<=50:=by decide):uN (f a) (.tup (l.map f))=.ok (.bl (!decide (a∈l))):=by
 have:=h.tup.cmp hd l;simp only [uN,h.cmp (by lia),this,Bool.and_self,if_true,h.any]
end
theorem e1:PV.int 1=eb true:=rfl
theorem e0:PV.int 0=eb false:=rfl
theorem in1 (w:Pd.W):inF (.int 1) (ew w)=.ok (.bl (decide (true∈w))):=EncOk.eb.inT true w
theorem AA (w:Pd.W):uN (.int 1) (ew w)=.ok (.bl (!decide (true∈w))):=EncOk.eb.ninT true w
theorem Je (w:Pd.W) (h:true∈w):xS (ew w) (.int 1)=.ok (.int (Pd.hd w:Nat)):=by
 have h1:=EncOk.eb.tup.cmp (by decide) w;have h2:xB (.int 1)=true:=EncOk.int.cmp (by decide) 1;have e:(w.map eb).findIdx? (fun y=>eqv y (.int 1))=some (Pd.hd w):=by
  rw [List.findIdx?_map];have z:(fun y=>eqv y (.int 1)) ∘ eb=fun b=>b==true:=by funext b;cases b<;>rfl
  rw [z];have hl:=Pd.hd_lt h;rw [List.findIdx?_eq_some_iff_findIdx_eq];exact ⟨hl,rfl⟩
 simp only [xS,ew,h1,h2,Bool.and_self,if_true,e]
end
theorem Vp {α:Type} (g:α->PV) (l:List α) (i:Nat) (h:i<l.length):atF (l.map g) (i:Int)=.ok (g l[i]):=by
 unfold atF atI ixN;rw [if_pos (Int.natCast_nonneg i),if_pos (by rw [List.length_map];exact Int.ofNat_lt.mpr h)];simp [h]
theorem ixT (w:Pd.W) (i:Nat) (h:i<w.length):ixF (ew w) (.int i)=.ok (eb (Pd.bt w i)):=by
 show atF (w.map eb) (i:Int)=_;rw [Vp eb w i h,Pd.bt_eq h]
def qV (t:Dg) (c:Dt) (e:De) (ρ:En) (v:PV):Res (Option PV):=(t v ρ).bind fun ρ1=>(c ρ1).bind fun b=>if b then (e ρ1).bind fun x=>.ok (some x) else .ok none
theorem Jr (t:Dg) (c:Dt) (e:De) (ρ:En) (v:PV) (vs:List PV):yR t c e ρ (v::vs)=(qV t c e ρ v).bind fun o=>(yR t c e ρ vs).bind fun xs=>.ok (match o with | some x=>x::xs | none=>xs):=by
 rw [yR];unfold qV;cases t v ρ with
 | exc x=>rfl
 | bad=>rfl
 | ok ρ1 =>
  simp only [Res.bind_ok];cases c ρ1 with
  | exc x=>rfl
  | bad=>rfl
  | ok b =>
   simp only [Res.bind_ok];cases b with
   | true =>
    simp only [if_true];cases e ρ1<;>rfl
   | false =>
    simp only [Bool.false_eq_true,if_false,Res.bind_ok];show yR t c e ρ vs=_;cases yR t c e ρ vs<;>rfl
section
variable {α:Type} {t:Dg} {c:Dt} {e:De} {ρ:En} {l:List α} {g:α->PV}
theorem US {h:α->Option PV} (hs:∀ a∈l,qV t c e ρ (g a)=.ok (h a)):yR t c e ρ (l.map g)=.ok (l.filterMap h):=by
 induction l with
 | nil=>rfl
 | cons a l ih =>
  rw [List.map_cons,Jr,hs a jC,Res.bind_ok,ih fun a ha=>hs a (jM _ ha),Res.bind_ok,List.filterMap_cons]
  cases h a<;>rfl
theorem GV {f:α->PV} (hs:∀ a∈l,qV t c e ρ (g a)=.ok (some (f a))):yR t c e ρ (l.map g)=.ok (l.map f):=by
 rw [US hs,<- List.filterMap_eq_map];rfl
theorem Js {p:α->Bool} {f:α->PV} (hs:∀ a∈l,qV t c e ρ (g a)=.ok (if p a then some (f a) else none)):yR t c e ρ (l.map g)=.ok ((l.filter p).map f):=by
 rw [US hs];congr 1
 induction l with
 | nil=>rfl
 | cons a l ih =>
  rw [List.filterMap_cons,List.filter_cons,ih fun a ha=>hs a (jM _ ha)]
  cases p a<;>rfl
theorem GP {d:Di} {k:Nat} {idx:List Nat} {f:α->PV} (hd:d ρ=.ok (l.map g)) (hz:l.length<=sizeLine) (hs:∀ a∈l,qV t c e (zV k idx ρ) (g a)=.ok (some (f a))):zC d k idx t c e ρ=.ok (.lst (l.map f)):=by
 unfold zC;rw [hd,Res.bind_ok,if_pos (by rw [List.length_map];exact hz),GV hs];rfl
theorem Jk {d:Di} {k:Nat} {idx:List Nat} {p:α->Bool} {f:α->PV} (hd:d ρ=.ok (l.map g)) (hz:l.length<=sizeLine) (hs:∀ a∈l,qV t c e (zV k idx ρ) (g a)=.ok (if p a then some (f a) else none)):zC d k idx t c e ρ=.ok (.lst ((l.filter p).map f)):=by
 unfold zC;rw [hd,Res.bind_ok,if_pos (by rw [List.length_map];exact hz),Js hs];rfl
theorem ZU {β γ:Type} (f:α->PV) (h:β->PV):∀ (l:List α) (m:List β),zpL (l.map f) (m.map h)=(l.zip m).map fun p=>PV.tup [f p.1,h p.2]
 | [],_=>by simp [zpL]
 | _::_,[]=>by simp [zpL]
 | a::l,b::m=>by simp [zpL,ZU (γ:=γ) f h l m]
theorem yO {b:Ds} (P:List α->En->Prop) (hs:∀ done a rest ρ,l=done++a::rest->P done ρ->∃ ρ',(t (g a) ρ).bind b=.ok (.nx ρ')/\P (done++[a]) ρ') (h0:P [] ρ):∃ ρ',ji t b (l.map g) ρ=.ok (.nx ρ')/\P l ρ':=by
 have gen:∀ (m done:List α) (ρ:En),l=done++m->P done ρ->∃ ρ',ji t b (m.map g) ρ=.ok (.nx ρ')/\P l ρ':=by
  intro m
  induction m with
  | nil=>intro done ρ e hp;rw [List.append_nil] at e;subst e;exact ⟨ρ,rfl,hp⟩
  | cons a m ih =>
   intro done ρ e hp;obtain ⟨ρ1,e1,p1⟩:=hs done a m ρ e hp;obtain ⟨ρ2,e2,p2⟩:=ih (done++[a]) ρ1 (by rw [e];simp) p1;refine ⟨ρ2,?_,p2⟩;rw [List.map_cons,ji];cases et:t (g a) ρ with
   | exc x=>rw [et] at e1;cases e1
   | bad=>rw [et] at e1;cases e1
   | ok ρ3 =>
    rw [et,Res.bind_ok] at e1;rw [Res.bind_ok,e1];exact e2
 exact gen l [] ρ rfl h0
end
end Pu
namespace Pu
open PySem PySem.Spec PyProof.Rows L2
section
variable {X:Cx} {W0:Addr->Prop} {H0:Hp} {W:Addr->Prop} {H:Hp} {σ:SS} {ρ:En} {D:Ends} {p:Addr} {vs:List PV} {xs:List V}
theorem vU {W':Addr->Prop} {H':Hp} (hs:Same (hid W H) (hid W' H')):∀ {s:Sl} {x:V},(∀ a,s.Mine->x=.ref a->W a->W' a/\∀ o,H a=some o->H' a=some o)->SlRep X.K W H s x->SlRep X.K W' H' s x
 | .val _,_,_,h=>Rep.mono hs h
 | .own ys,x,k,⟨a,zs,h1,h2,h3,h4⟩=>⟨a,zs,h1,(k a True.intro h1 h2).1,(k a True.intro h1 h2).2 _ h3,h4.mono hs⟩
 | .exn _,_,_,⟨a,C,dx,h1,h2,h3,h4⟩=>⟨a,C,dx,h1,hs _ _ h2,h3,h4.mono hs⟩
 | .dic ys,x,k,⟨a,o,zs,h1,h2,h3,h4⟩=>⟨a,o,zs,h1,(k a True.intro h1 h2).1,(k a True.intro h1 h2).2 _ h3,DR.mono hs h4⟩
 | .fdc _,_,_,⟨a,o,zs,h1,h2,h3⟩=>⟨a,o,zs,h1,hs _ _ h2,DR.mono hs h3⟩
theorem Ng (er:ER X.K W H σ ρ) {j:Nat} {us:List PV} {a:Addr} (h:ρ[j]?=some (some (.own us))) (e:σ[j]?=some (some (.ref a))):W a/\∃ zs,H a=some (.lst zs)/\Reps X.K (hid W H) us zs:=by
 obtain ⟨y,e1,b,zs,e2,h2,h3,h4⟩:=er.val j _ h;rw [e] at e1;cases e1;cases e2;exact ⟨h2,zs,h3,h4⟩
theorem XG (er:ER X.K W H σ ρ) {j:Nat} {s:Sl} {a:Addr} (m:s.Mine) (h:ρ[j]?=some (some s)) (e:σ[j]?=some (some (.ref a))):W a/\∃ o,H a=some o:=by
 cases s with
 | val v=>exact m.elim
 | exn z=>exact m.elim
 | fdc z=>exact m.elim
 | own us=>obtain ⟨h1,zs,h2,_⟩:=Ng er h e;exact ⟨h1,_,h2⟩
 | dic us =>
  obtain ⟨y,e1,b,o,zs,e2,h2,h3,h4⟩:=er.val j _ h;rw [e] at e1;cases e1;cases e2;exact ⟨h2,_,h3⟩
theorem wq {i j:Nat} {ρ:En} {s:Sl} {t:Sl} (h:(ρ.set i (some t))[j]?=some (some s)):(i=j/\s=t/\i<ρ.length)\/(i≠j/\ρ[j]?=some (some s)):=by
 rw [List.getElem?_set] at h
 by_cases e:i=j
 ·subst e;rw [if_pos rfl] at h
  by_cases hl:i<ρ.length
  ·rw [if_pos hl] at h;cases h;exact .inl ⟨rfl,rfl,hl⟩
  ·rw [if_neg hl] at h;cases h
 ·rw [if_neg e] at h;exact .inr ⟨e,h⟩
theorem Uv {s:Sl} {o:HO} (hm:s.Mine) (w:Wd W0 H0 W H σ ρ) (er:ER X.K W H σ ρ) (hp:H p=none) (r:∀ (W':Addr->Prop) (H':Hp),W' p->H' p=some o->Same (hid W H) (hid W' H')->SlRep X.K W' H' s (.ref p)) (i:Nat) :
  Wd W0 H0 (fun a=>W a\/a=p) (upd H p o) (σ.set i (some (.ref p))) (ρ.set i (some s))/\Same (hid W H) (hid (fun a=>W a\/a=p) (upd H p o))/\ER X.K (fun a=>W a\/a=p) (upd H p o) (σ.set i (some (.ref p))) (ρ.set i (some s)):=by
 have hs:Same (hid W H) (hid (fun a=>W a\/a=p) (upd H p o)):=fun b o h=>by
  unfold hid at h ⊢
  split at h
  ·cases h
  ·rename_i n
   have hb:b≠p:=zA h hp;rw [if_neg (by rintro (z | z);exact n z;exact hb z),zu hb];exact h
 refine ⟨⟨w.same.trans (yv hp),w.trk,fun a h=>.inl (w.sub a h),fun j us a m h1 h2=>?_,fun j k us ts a m1 m2 h1 h2 h3 h4=>?_⟩,hs,⟨by simp [er.len],fun j s' h=>?_,fun a h=>?_⟩⟩
 ·rcases wq h1 with ⟨rfl,e,hl⟩ | ⟨ne,h1⟩
  ·rw [List.getElem?_set,if_pos rfl,if_pos (by rw [<- er.len];exact hl)] at h2;cases h2;exact w.same.free hp
  ·rw [List.getElem?_set,if_neg ne] at h2;exact w.own j us a m h1 h2
 ·have neq:∀ {j:Nat} {us:Sl},us.Mine->ρ[j]?=some (some us)->σ[j]?=some (some (.ref p))->False:=fun m h1 h2=>by
   obtain ⟨_,zs,z⟩:=XG er m h1 h2;rw [hp] at z;cases z
  rcases wq h1 with ⟨rfl,e,hl⟩ | ⟨ne,h1⟩
  ·rw [List.getElem?_set,if_pos rfl,if_pos (by rw [<- er.len];exact hl)] at h3;cases h3
   rcases wq h2 with ⟨rfl,_,_⟩ | ⟨ne2,h2⟩
   ·rfl
   ·rw [List.getElem?_set,if_neg ne2] at h4;exact (neq m2 h2 h4).elim
  ·rw [List.getElem?_set,if_neg ne] at h3
   rcases wq h2 with ⟨rfl,_,hl⟩ | ⟨ne2,h2⟩
   ·rw [List.getElem?_set,if_pos rfl,if_pos (by rw [<- er.len];exact hl)] at h4;cases h4;exact (neq m1 h1 h3).elim
   ·rw [List.getElem?_set,if_neg ne2] at h4;exact w.dis j k us ts a m1 m2 h1 h2 h3 h4
 ·rcases wq h with ⟨rfl,rfl,hl⟩ | ⟨ne,h⟩
  ·exact ⟨.ref p,by rw [List.getElem?_set,if_pos rfl,if_pos (by rw [<- er.len];exact hl)],r _ _ (.inr rfl) zE hs⟩
  ·obtain ⟨y,e1,q⟩:=er.val j s' h;refine ⟨y,by rw [List.getElem?_set,if_neg ne];exact e1,vU hs (fun a _ _ hw=>⟨.inl hw,fun o ho=>?_⟩) q⟩;rw [zu (zA ho hp)];exact ho
 ·rcases h with h | rfl
  ·intro z
   by_cases e:a=p
   ·subst e;rw [zE] at z;cases z
   ·rw [zu e] at z;exact er.trk a h z
  ·rw [zE];intro z;cases z
theorem Kb (w:Wd W0 H0 W H σ ρ) (er:ER X.K W H σ ρ) (hp:H p=none) (r:Reps X.K (hid W H) vs xs) (i:Nat) :
  Wd W0 H0 (fun a=>W a\/a=p) (upd H p (.lst xs)) (σ.set i (some (.ref p))) (ρ.set i (some (.own vs)))/\Same (hid W H) (hid (fun a=>W a\/a=p) (upd H p (.lst xs)))/\ER X.K (fun a=>W a\/a=p) (upd H p (.lst xs)) (σ.set i (some (.ref p))) (ρ.set i (some (.own vs))) :=
 Uv (s:=.own vs) True.intro w er hp (fun W' H' h1 h2 hs=>⟨p,xs,rfl,h1,h2,r.mono hs⟩) i
theorem Uu {s t:Sl} {o:HO} (hm:s.Mine) (ht:t.Mine) (w:Wd W0 H0 W H σ ρ) (er:ER X.K W H σ ρ) {i:Nat} (h:ρ[i]?=some (some t)) (e:σ[i]?=some (some (.ref p))) (r:∀ (W':Addr->Prop) (H':Hp),W' p->H' p=some o->Same (hid W H) (hid W' H')->SlRep X.K W' H' s (.ref p)) :
  Wd W0 H0 W (upd H p o) σ (ρ.set i (some s))/\Same (hid W H) (hid W (upd H p o))/\ER X.K W (upd H p o) σ (ρ.set i (some s)):=by
 obtain ⟨wp,zs,hz⟩:=XG er ht h e;have hs:Same (hid W H) (hid W (upd H p o)):=fun b o q=>by
  unfold hid at q ⊢
  split at q
  ·cases q
  ·rename_i n
   rw [if_neg n,zu (by rintro rfl;exact n wp)];exact q
 have h0:H0 p=none:=w.own i t p ht h e;have hil:i<ρ.length:=(List.getElem?_eq_some_iff.mp h).1;have s0:Same H0 (upd H p o):=fun b o q=>by
  rw [zu (zA q h0)];exact w.same b o q
 have old:∀ {j:Nat} {ts:Sl},ts.Mine->(ρ.set i (some s))[j]?=some (some ts)->∃ ts':Sl,ts'.Mine/\ρ[j]?=some (some ts'):=fun {j ts} m q=>by
  rcases wq q with ⟨rfl,_,_⟩ | ⟨_,q⟩
  ·exact ⟨t,ht,h⟩
  ·exact ⟨ts,m,q⟩
 refine ⟨⟨s0,w.trk,w.sub,fun j ts a m h1 h2=>?_,fun j k ts rs a m1 m2 h1 h2 h3 h4=>?_⟩,hs,⟨by simp [er.len],fun j s' q=>?_,fun a wa=>?_⟩⟩
 ·obtain ⟨ts',m',q⟩:=old m h1;exact w.own j ts' a m' q h2
 ·obtain ⟨ts',m1',q1⟩:=old m1 h1;obtain ⟨rs',m2',q2⟩:=old m2 h2;exact w.dis j k ts' rs' a m1' m2' q1 q2 h3 h4
 ·rcases wq q with ⟨rfl,rfl,_⟩ | ⟨ne,q⟩
  ·exact ⟨.ref p,e,r _ _ wp zE hs⟩
  ·obtain ⟨y,e1,q1⟩:=er.val j s' q;refine ⟨y,e1,vU hs (fun a ms ey hw=>⟨hw,fun o ho=>?_⟩) q1⟩;subst ey;have:a≠p:=by
    rintro rfl;exact ne (w.dis i j t s' a ht ms h q e e1)
   rw [zu this];exact ho
 ·intro z
  by_cases e':a=p
  ·subst e';rw [zE] at z;cases z
  ·rw [zu e'] at z;exact er.trk a wa z
theorem Ka (w:Wd W0 H0 W H σ ρ) (er:ER X.K W H σ ρ) {i:Nat} {us:List PV} (h:ρ[i]?=some (some (.own us))) (e:σ[i]?=some (some (.ref p))) (r:Reps X.K (hid W H) vs xs) :
  Wd W0 H0 W (upd H p (.lst xs)) σ (ρ.set i (some (.own vs)))/\Same (hid W H) (hid W (upd H p (.lst xs)))/\ER X.K W (upd H p (.lst xs)) σ (ρ.set i (some (.own vs))) :=
 Uu (s:=.own vs) (t:=.own us) True.intro True.intro w er h e fun W' H' h1 h2 hs=>⟨p,xs,rfl,h1,h2,r.mono hs⟩
variable {es:List Expr} {ds:Das} {a b:Expr} {da db:De} {i:Nat} {x:Str} {p1 p2 p3 pos apos cpos:Pos} {sts:List Stmt} {d:Ds}
def JL (i:Nat) (ds:Das):Ds:=fun ρ=>(ds ρ).bind fun vs=>if vs.length<=sizeLine then .ok (.nx (ρ.set i (some (.own vs)))) else .bad
theorem Ky (hN:X.N.Nodup) (hi:X.N[i]?=some x) (hx:Loc X.env.scope x) (ha:DA X es ds) (hf:X.fn x=true\/X.env.scope.names.lookup x=some .local) (hs:swapsWith (.List es p3) (some (.Name x p2)) pos.line X.env=pure false:=by rfl) :
  DS X (.Assign [.Name x p2] (.List es p3) pos) (JL i ds):=vt (uY hN hi hx (WG ha) hs hf) fun D σ H ⟨W0,H0,W,ρ,w,er,h⟩ =>
 xN ds er (h.bind.xw w.same) fun vs xs H1 s1 er1 r1 h1=>by
  split at h1
  ·rename_i hz
   refine ⟨by rw [r1.length];exact hz,fun p hp=>?_⟩
   obtain ⟨k1,k2,k3⟩:=Kb (w.grow s1) er1 hp r1 i;exact h1 _ _ _ k1 ((zD s1).trans k2) k3
  ·exact h1.elim
def VT (i:Nat) (d:De):Ds:=fun ρ=>(d ρ).bind fun v=>(vC v).bind fun vs=>.ok (.nx (ρ.set i (some (.own vs))))
theorem Sg (hN:X.N.Nodup) (hi:X.N[i]?=some x) (hx:Loc X.env.scope x) (hg:Gl X "list") (hm:X.mg "list" = none) (ha:DE X a da) (hf:X.fn x=true\/X.env.scope.names.lookup x=some .local)
  (he:starEach [a] X.env=(false,eval a X.env)::starEach [] X.env:=by rfl) (hpl:(backTo p3 (starEach [] X.env)).any (·.1)=false:=by rfl) (hs:swapsWith (.Call (.Name "list" p1) [a] [] p3) (some (.Name x p2)) pos.line X.env=pure false:=by rfl) :
  DS X (.Assign [.Name x p2] (.Call (.Name "list" p1) [a] [] p3) pos) (VT i da):=vt (uY hN hi hx (Zk vd hg hm (by decide) (zg ha zi he) (by decide) (by decide) he hpl) hs hf) fun D σ H ⟨W0,H0,W,ρ,w,er,h⟩=>by
 have h':On (zd da zj ρ) (fun x=>XW X x H) fun us=>∃ v,us=[v]/\FinS X W0 H0 W H D ((vC v).bind fun vs=>.ok (.nx (ρ.set i (some (.own vs))))):=by
  have hb:=h.bind.xw w.same;unfold zd zj;cases e:da ρ with
  | ok v=>rw [e] at hb;exact ⟨v,rfl,hb⟩
  | exc z=>rw [e] at hb;exact hb
  | bad=>rw [e] at hb;exact hb
 refine xN (zd da zj) er h' fun us xs H1 s1 er1 r1 ⟨v,e,h1⟩=>?_
 subst e;obtain ⟨y,t,rfl,q1,q2⟩:=Reps.cons.mp r1;obtain rfl:=Reps.nil.mp q2;cases e1:vC v with
 | exc z=>exact absurd e1 qw
 | bad=>rw [e1] at h1;exact h1.elim
 | ok vs =>
  rw [e1] at h1;obtain ⟨k,l,zs,rfl,g1,g2⟩:=vj e1 q1;refine ⟨l,zs,rfl,?_,fun p hp=>?_⟩
  ·cases k with
   | L=>exact .inl (xP g1)
   | T=>exact .inr (yU g1)
  ·obtain ⟨k1,k2,k3⟩:=Kb (w.grow s1) er1 hp g2 i;exact h1 _ _ _ k1 ((zD s1).trans k2) k3
def wN (ρ:En) (i:Nat):Res (List PV):=match ρ[i]? with
 | some (some (.own vs))=>.ok vs
 | _=>.bad
theorem Uj {ρ:En} {i:Nat} {vs:List PV} (h:wN ρ i=.ok vs):ρ[i]?=some (some (.own vs)):=by
 unfold wN at h
 split at h
 ·cases h;assumption
 ·cases h
theorem Ui {ρ:En} {i:Nat} {α:Type} {f:List PV->Res α} {P:Res α->Prop} (hb:P .bad->False) (h:P ((wN ρ i).bind f)):∃ vs,ρ[i]?=some (some (.own vs))/\P (f vs):=by
 cases e:wN ρ i with
 | ok vs=>rw [e] at h;exact ⟨vs,Uj e,h⟩
 | exc z=>unfold wN at e;split at e<;>cases e
 | bad=>rw [e] at h;exact (hb h).elim
def VU (i:Nat) (d:De):Ds:=fun ρ=>(wN ρ i).bind fun vs=>(d ρ).bind fun v=>if vs.length<sizeLine then .ok (.nx (ρ.set i (some (.own (vs++[v]))))) else .bad
theorem Bg (i:Nat) (hN:X.N[i]?=some x) (hv:Vis X.env.scope x) (ha:DE X a da) (hd:(x==("__debug__" : Str))=false:=by decide) (hcd:(x==("__classdict__" : Str))=false:=by decide)
  (hbase:attributeBase (.Name x p1) "append" X.env (eval (.Name x p1) X.env)=eval (.Name x p1) X.env:=by rfl)
  (hfew:((backTo cpos (starEach [a] X.env)).all (fun x=>!x.1)&&(backToKw cpos (keywordEach [] X.env)).all (fun x=>x.1.isSome)
   && decide ([a].length+([]:List Keyword).length+(if ([]:List Keyword).isEmpty then 0 else 1)<30))=true:=by rfl)
  (hline:(apos.endLine==cpos.line)=true:=by rfl) (hs:starEach [a] X.env=(false,eval a X.env)::starEach [] X.env:=by rfl) (hplain:(backTo cpos (starEach [] X.env)).any (·.1)=false:=by rfl)
  (hsw:swapsWith (.Call (.Attribute (.Name x p1) "append" apos) [a] [] cpos) none pos.line X.env=pure false:=by rfl) :
  DS X (.Expr (.Call (.Attribute (.Name x p1) "append" apos) [a] [] cpos) pos) (VU i da) :=
 vt (ZY (SQ F.plainAttrs_list F.slot_list_append F.type_list_append qy (vM hN hv hd hcd) (zg ha zi hs) hbase hfew hline hs hplain) hsw) fun D σ H ⟨W0,H0,W,ρ,w,er,h⟩=>by
  obtain ⟨vs,hi,h⟩:=Ui (P:=FinS X W0 H0 W H D) (fun z=>z) h;obtain ⟨y,e1,l,zs,e2,wl,hl,rl⟩:=er.val i _ hi;subst e2;refine ⟨.ref l,e1,.inl ⟨rfl,zs,SqL.of hl⟩,?_⟩;have h':On (zd da zj ρ) (fun x=>XW X x H) fun us=>∃ v,us=[v]/\FinS X W0 H0 W H D (if vs.length<sizeLine then .ok (.nx (ρ.set i (some (.own (vs++[v]))))) else .bad):=by
   have hb:=h.bind.xw w.same;unfold zd zj;cases e:da ρ with
   | ok v=>rw [e] at hb;exact ⟨v,rfl,hb⟩
   | exc z=>rw [e] at hb;exact hb
   | bad=>rw [e] at hb;exact hb
  refine xN (zd da zj) er h' fun us xs H1 s1 er1 r1 ⟨v,e,h1⟩=>?_
  subst e;obtain ⟨u,t,rfl,q1,q2⟩:=Reps.cons.mp r1;obtain rfl:=Reps.nil.mp q2
  split at h1
  ·rename_i hz
   have hl1:=s1 _ _ hl;refine ⟨l,zs,u,rfl,rfl,hl1,by rw [rl.length];exact hz,?_⟩;obtain ⟨k1,k2,k3⟩:=Ka (w.grow s1) er1 hi e1 ((rl.mono (zD s1)).snoc q1);exact h1 _ _ _ k1 ((zD s1).trans k2) k3
  ·exact h1.elim
def Xy (i:Nat) (dk d:De):Ds:=fun ρ=>(d ρ).bind fun v=>(wN ρ i).bind fun vs=>(dk ρ).bind fun k=>match k with
 | .int j=>match ixN vs.length j with
  | some m=>.ok (.nx (ρ.set i (some (.own (vs.set m v)))))
  | none=>.bad
 | _=>.bad
theorem Kx (i:Nat) (hN:X.N[i]?=some x) (hv:Vis X.env.scope x) (hb:DE X b db) (ha:DE X a da) (hd:(x==("__debug__" : Str))=false:=by decide) (hcd:(x==("__classdict__" : Str))=false:=by decide)
  (hi:∀ v,assign (.Subscript (.Name x p1) b p2) X.env v=(do
   let ov <- holding [v] (eval (.Name x p1) X.env)
   let iv <- holding [v,ov] (eval b X.env)
   standAt p2
   holding [v,ov,iv] (setItem ov iv v)
   release [v,ov,iv] []):=by intro _;rfl)
  (hs:swapsWithSole [.Subscript (.Name x p1) b p2] a pos.line X.env=pure false:=by rfl) (hw:swappedStores [.Subscript (.Name x p1) b p2] a X.env=pure none:=by rfl)
  (h1:(assignEach [.Subscript (.Name x p1) b p2] X.env).map (·.2)=[assign (.Subscript (.Name x p1) b p2) X.env]:=by rfl) :
  DS X (.Assign [.Subscript (.Name x p1) b p2] a pos) (Xy i db da):=vt (Rt ha (Rx (vM hN hv hd hcd) hb Mx hi) hs hw h1) fun D σ H ⟨W0,H0,W,ρ,w,er,h⟩=>by
 refine wf da er (h.bind.xw w.same) fun v y H1 s1 er1 r1 h1=>?_
 obtain ⟨vs,hi,h1⟩:=Ui (P:=FinS X W0 H0 W H D) (fun z=>z) h1;obtain ⟨q,e1,l,zs,e2,wl,hl,rl⟩:=er1.val i _ hi;subst e2;refine ⟨.ref l,e1,?_⟩;have w1:=w.grow s1;have h1':=FinS.grow h1 (zD (W:=W) s1);refine wf db er1 (h1'.bind.xw w1.same) fun k z H2 s2 er2 r2 h2=>?_
 cases k with
 | int j =>
  obtain rfl:=Rep.int.mp r2;have hlen:=rl.length
  change FinS X W0 H0 W H1 D (match ixN vs.length j with | some m=>.ok (.nx (ρ.set i (some (.own (vs.set m v))))) | none=>.bad) at h2
  cases ej:ixN vs.length j with
  | none=>rw [ej] at h2;exact h2.elim
  | some m =>
   rw [ej] at h2;refine ⟨l,zs,j,m,rfl,rfl,s2 _ _ hl,by rw [hlen];exact ej,?_⟩;obtain ⟨k1,k2,k3⟩:=Ka (w1.grow s2) er2 hi e1 (Reps.set (r1.mono (zD s2)) m (rl.mono (zD s2)));exact h2 _ _ _ k1 ((zD s2).trans k2) k3
 | _=>exact h2.elim
def Gf (i:Nat):Ds:=fun ρ=>(wN ρ i).bind fun vs=>.ok (.nx (ρ.set i (some (.val (.lst vs)))))
theorem Vk (i:Nat) (h:DSs X sts d):DSs X sts (zJ (Gf i) d):=vG h fun D σ H ⟨W0,H0,W,ρ,w,er,h⟩=>by
 unfold zJ Gf at h;cases e:wN ρ i with
 | exc z=>unfold wN at e;split at e<;>cases e
 | bad=>rw [e] at h;exact h.elim
 | ok vs =>
  rw [e] at h;have hi:=Uj e;obtain ⟨y,e1,l,zs,e2,wl,hl,rl⟩:=er.val i _ hi;subst e2;have hm:Same (hid W H) (hid (fun b=>W b/\b≠l) H):=vw fun b z=>z.1
  refine ⟨W0,H0,fun b=>W b/\b≠l,ρ.set i (some (.val (.lst vs))),⟨w.same,w.trk,fun b hb=>⟨w.sub b hb,fun z=>?_⟩,fun j us b m h1 h2=>?_,fun j k us ts b m1 m2 h1 h2 h3 h4=>?_⟩,⟨by simp [er.len],fun j s q=>?_,fun b hb=>er.trk b hb.1⟩,FinS.grow h hm⟩
  ·subst z;exact w.trk b hb (w.own i (.own vs) b True.intro hi e1)
  ·rcases wq h1 with ⟨_,z,_⟩ | ⟨_,h1⟩
   ·subst z;exact m.elim
   ·exact w.own j us b m h1 h2
  ·rcases wq h1 with ⟨_,z,_⟩ | ⟨_,h1⟩
   ·subst z;exact m1.elim
   ·rcases wq h2 with ⟨_,z,_⟩ | ⟨_,h2⟩
    ·subst z;exact m2.elim
    ·exact w.dis j k us ts b m1 m2 h1 h2 h3 h4
  ·rcases wq q with ⟨rfl,rfl,_⟩ | ⟨ne,q⟩
   ·exact ⟨.ref l,e1,Rep.lst (.inl (.inl (xf (fun z=>z.2 rfl) hl))) (rl.mono hm)⟩
   ·obtain ⟨y,e3,q1⟩:=er.val j s q;refine ⟨y,e3,vU hm (fun b ms ey hw=>⟨⟨hw,fun z=>?_⟩,fun o ho=>ho⟩) q1⟩;subst ey z;exact ne (w.dis i j (.own vs) s b True.intro ms hi q e1 e3)
end
end Pu
namespace PuS
open PySem PyProof.Rows
def PY:Bool->Keyed->Array Keyed->Nat->Nat->Nat->StateT SortSt Sem (Option Nat):=sortPriv% PySem.Builtin.gallop
def Nx:Array Keyed->Array Keyed->StateT SortSt Sem (Array Keyed):=sortPriv% PySem.Builtin.mergeLo
def Nz:Array Keyed->Array Keyed->StateT SortSt Sem (Array Keyed):=sortPriv% PySem.Builtin.mergeHi
def kk (κ:KeyKind) (u:Keyed):κ.α:=(κ.keyOf u.1).getD κ.dflt
section
variable {prog:Program} {w:World} {A:Around} {E:Value->Shared->Prop} {s:Shared} {κ:KeyKind} {kd:SortKind} {G:List Keyed}
def Cmp (prog:Program) (w:World) (A:Around) (s:Shared) (κ:KeyKind) (kd:SortKind) (G:List Keyed):Prop :=
 ∀ u∈G,∀ v∈G,∀ (E:Value->Shared->Prop) (Q:Bool->Shared->Prop),Q (κ.blt (kk κ u) (kk κ v)) s->wpAny (model prog w) A (keyLt' kd u.1 v.1) Q E s
def qv (kd:SortKind) (st:SortSt):Prop:=kindOf st=kd/\failedOf st=none
theorem ltS (hC:Cmp prog w A s κ kd G) {st:SortSt} (hg:qv kd st) {u v:Keyed} (hu:u∈G) (hv:v∈G) {Q:Option Bool->SortSt->Prop} (h:Q (some (κ.blt (kk κ u) (kk κ v))) st) :
  wpS (model prog w) A E s (lt' u v) Q st:=by
 rw [lt'_eq];refine wpS_bind (wpS_get ?_);rw [hg.1];refine wpS_bind (wpS_lift (wpAny_attempt (hC u hu v hv _ _ ⟨rfl,?_⟩)));exact wpS_pure h
theorem yP {arr:Array Keyed} {i:Nat} {st:SortSt} {M:Model} (hi:i<arr.size) {Q:Keyed->SortSt->Prop} (h:Q arr[i] st):wpS M A E s (elem' arr i) Q st:=by
 rw [elem'_eq,getElem?_pos arr i hi];exact wpS_pure h
def bey (κ:KeyKind) (left:Bool) (key:Keyed) (arr:Array Keyed) (base i:Nat):Bool :=
 match arr[base+i]? with
 | some x=>if left then κ.blt (kk κ x) (kk κ key) else !κ.blt (kk κ key) (kk κ x)
 | none=>false
theorem uG (hC:Cmp prog w A s κ kd G) {st:SortSt} (hg:qv kd st) {left:Bool} {key:Keyed} {arr:Array Keyed} {base n hint:Nat} (hk:key∈G) (ha:∀ x∈arr.toList,x∈G)
  (hsz:base+n<=arr.size) (hh:hint<n) (mono:∀ i j,i<=j->j<n->bey κ left key arr base j=true->bey κ left key arr base i=true)
  {Q:Option Nat->SortSt->Prop} (h:∀ k,k<=n->(∀ i,i<k->bey κ left key arr base i=true)->(∀ i,k<=i->i<n->bey κ left key arr base i=false)->Q (some k) st) :
  wpS (model prog w) A E s (PY left key arr base n hint) Q st:=by
 have ask:∀ (i:Nat) (R:Option Bool->SortSt->Prop),i<n->R (some (bey κ left key arr base i)) st ->
   wpS (model prog w) A E s (do
    let x <- elem' arr (base+i)
    if left=true then lt' x key else do
     let r <- lt' key x
     pure (Option.map (fun x=>!x) r)) R st:=by
  intro i R hi hR;have hi':base+i<arr.size:=by lia
  refine wpS_bind (yP hi' ?_);have hx:arr[base+i]∈G:=ha _ (by simp);unfold bey at hR;rw [getElem?_pos arr (base+i) hi'] at hR;dsimp only at hR;cases left with
  | true =>
   simp only [if_true] at hR ⊢;exact ltS hC hg hx hk hR
  | false =>
   simp only [Bool.false_eq_true,if_false] at hR ⊢;exact wpS_bind (ltS hC hg hk hx (wpS_pure hR))
 generalize hb:bey κ left key arr base=b at *;refine wpS_bind (ask hint _ hh ?_);cases e0:b hint with
 | true =>
  show wpS _ _ _ _ (bind (forIn [:n] _ _) _) Q st;refine wpS_bind (wpS_mono (wpS_forRange (I:=fun x c st'=>st'=st/\∃ l o,c=(none,l,o)/\l<o/\hint+l<n/\b (hint+l)=true/\x+1<=o)
   (Q:=fun c st'=>st'=st/\∃ l o,c=(none,l,o)/\l<o/\hint+l<n/\b (hint+l)=true/\(n-hint<=o\/(hint+o<n/\b (hint+o)=false))) ?_ ?_ ⟨rfl,0,1,rfl,by lia,by lia,by simpa using e0,by lia⟩) ?_)
  ·rintro x c st' _ hx ⟨rfl,l,o,rfl,a1,a2,a3,a4⟩;dsimp only
   by_cases hge:o≥n-hint
   ·rw [if_pos hge];exact wpS_pure ⟨rfl,l,o,rfl,a1,a2,a3,.inl hge⟩
   ·rw [if_neg hge];refine wpS_bind (ask _ _ (by lia) ?_);cases e:b (hint+o) with
    | true =>
     simp only [Bool.not_true,Bool.false_eq_true,if_false];exact wpS_pure ⟨rfl,_,_,rfl,by lia,by lia,e,by lia⟩
    | false =>
     simp only [Bool.not_false,if_true];exact wpS_pure ⟨rfl,l,o,rfl,a1,a2,a3,.inr ⟨by lia,e⟩⟩
  ·rintro c st' ⟨rfl,l,o,rfl,a1,a2,a3,a4⟩;exact ⟨rfl,l,o,rfl,a1,a2,a3,.inl (by lia)⟩
  ·rintro c st' ⟨rfl,l,o,rfl,a1,a2,a3,a4⟩;have g1:hint+l+1<=hint+min o (n-hint):=by lia
   have g2:hint+min o (n-hint)<=n:=by lia
   have g3:∀ i,i<hint+l+1->b i=true:=fun i hi=>mono i _ (by lia) (by lia) a3
   have g4:∀ i,hint+min o (n-hint)<=i->i<n->b i=false:=fun i hi hin=>by
    rcases a4 with a4 | ⟨a4,a5⟩
    ·lia
    ·cases e2:b i with
     | false=>rfl
     | true=>have:=mono (hint+o) i (by lia) hin e2;rw [a5] at this;cases this
   clear a1 a2 a3 a4
   rename SortSt=>st0
   refine wpS_bind (wpS_mono (wpS_forRange (I:=fun x c st'=>st'=st0/\∃ l r,c=(none,l,r)/\l<=r/\r<=n/\r-l<=n-x/\(∀ i,i<l->b i=true)/\(∀ i,r<=i->i<n->b i=false))
    (Q:=fun c st'=>st'=st0/\∃ r,c=(none,r,r)/\r<=n/\(∀ i,i<r->b i=true)/\(∀ i,r<=i->i<n->b i=false)) ?_ ?_ ⟨rfl,_,_,rfl,g1,g2,by lia,g3,g4⟩) ?_)
   ·rintro x c st' _ hx ⟨rfl,l,r,rfl,a1,a2,a3,a4,a5⟩;dsimp only
    by_cases hge:l≥r
    ·rw [if_pos hge];have:l=r:=by lia
     subst this;exact wpS_pure ⟨rfl,l,rfl,a2,a4,a5⟩
    ·rw [if_neg hge];refine wpS_bind (ask _ _ (by lia) ?_);cases e:b (l+(r-l)/2) with
     | true =>
      simp only [if_true];exact wpS_pure ⟨rfl,_,_,rfl,by lia,a2,by lia,fun i hi=>mono i _ (by lia) (by lia) e,a5⟩
     | false =>
      simp only [Bool.false_eq_true,if_false];refine wpS_pure ⟨rfl,_,_,rfl,by lia,by lia,by lia,a4,fun i hi hin=>?_⟩
      cases e2:b i with
      | false=>rfl
      | true=>have:=mono _ i hi hin e2;rw [e] at this;cases this
   ·rintro c st' ⟨rfl,l,r,rfl,a1,a2,a3,a4,a5⟩;have:l=r:=by lia
    subst this;exact ⟨rfl,l,rfl,a2,a4,a5⟩
   ·rintro c st' ⟨rfl,r,rfl,a2,a4,a5⟩;exact wpS_pure (h r a2 a4 a5)
 | false =>
  show wpS _ _ _ _ (bind (forIn [:n] _ _) _) Q st;refine wpS_bind (wpS_mono (wpS_forRange (I:=fun x c st'=>st'=st/\∃ l o,c=(none,l,o)/\l<o/\l<=hint/\b (hint-l)=false/\x+1<=o)
   (Q:=fun c st'=>st'=st/\∃ l o,c=(none,l,o)/\l<o/\l<=hint/\b (hint-l)=false/\(hint+1<=o\/(o<=hint/\b (hint-o)=true))) ?_ ?_ ⟨rfl,0,1,rfl,by lia,by lia,by simpa using e0,by lia⟩) ?_)
  ·rintro x c st' _ hx ⟨rfl,l,o,rfl,a1,a2,a3,a4⟩;dsimp only
   by_cases hge:o≥hint+1
   ·rw [if_pos hge];exact wpS_pure ⟨rfl,l,o,rfl,a1,a2,a3,.inl hge⟩
   ·rw [if_neg hge];refine wpS_bind (ask _ _ (by lia) ?_);cases e:b (hint-o) with
    | true =>
     simp only [if_true];exact wpS_pure ⟨rfl,l,o,rfl,a1,a2,a3,.inr ⟨by lia,e⟩⟩
    | false =>
     simp only [Bool.false_eq_true,if_false];exact wpS_pure ⟨rfl,_,_,rfl,by lia,by lia,e,by lia⟩
  ·rintro c st' ⟨rfl,l,o,rfl,a1,a2,a3,a4⟩;exact ⟨rfl,l,o,rfl,a1,a2,a3,.inl (by lia)⟩
  ·rintro c st' ⟨rfl,l,o,rfl,a1,a2,a3,a4⟩;have g1:hint+1-min o (hint+1)<=hint-l:=Nat.le_trans (Nat.sub_le_sub_left (Nat.le_min.mpr ⟨a1,Nat.succ_le_succ a2⟩) (hint+1)) (Nat.le_of_eq (Nat.add_sub_add_right hint 1 l));have g2:hint-l<=n:=by lia
   have g3:∀ i,i<hint+1-min o (hint+1)->b i=true:=fun i hi=>by
    rcases a4 with a4 | ⟨a4,a5⟩
    ·lia
    ·exact mono i _ (by lia) (by lia) a5
   have g4:∀ i,hint-l<=i->i<n->b i=false:=fun i hi hin=>by
    cases e2:b i with
    | false=>rfl
    | true=>have:=mono (hint-l) i (by lia) hin e2;rw [a3] at this;cases this
   clear a1 a2 a3 a4
   rename SortSt=>st0
   refine wpS_bind (wpS_mono (wpS_forRange (I:=fun x c st'=>st'=st0/\∃ l r,c=(none,l,r)/\l<=r/\r<=n/\r-l<=n-x/\(∀ i,i<l->b i=true)/\(∀ i,r<=i->i<n->b i=false))
    (Q:=fun c st'=>st'=st0/\∃ r,c=(none,r,r)/\r<=n/\(∀ i,i<r->b i=true)/\(∀ i,r<=i->i<n->b i=false)) ?_ ?_ ⟨rfl,_,_,rfl,g1,g2,by lia,g3,g4⟩) ?_)
   ·rintro x c st' _ hx ⟨rfl,l,r,rfl,a1,a2,a3,a4,a5⟩;dsimp only
    by_cases hge:l≥r
    ·rw [if_pos hge];have:l=r:=by lia
     subst this;exact wpS_pure ⟨rfl,l,rfl,a2,a4,a5⟩
    ·rw [if_neg hge];refine wpS_bind (ask _ _ (by lia) ?_);cases e:b (l+(r-l)/2) with
     | true =>
      simp only [if_true];exact wpS_pure ⟨rfl,_,_,rfl,by lia,a2,by lia,fun i hi=>mono i _ (by lia) (by lia) e,a5⟩
     | false =>
      simp only [Bool.false_eq_true,if_false];refine wpS_pure ⟨rfl,_,_,rfl,by lia,by lia,by lia,a4,fun i hi hin=>?_⟩
      cases e2:b i with
      | false=>rfl
      | true=>have:=mono _ i hi hin e2;rw [e] at this;cases this
   ·rintro c st' ⟨rfl,l,r,rfl,a1,a2,a3,a4,a5⟩;have:l=r:=by lia
    subst this;exact ⟨rfl,l,rfl,a2,a4,a5⟩
   ·rintro c st' ⟨rfl,r,rfl,a2,a4,a5⟩;exact wpS_pure (h r a2 a4 a5)
end
def le (κ:KeyKind) (x y:Keyed):Prop:=κ.kle (kk κ x) (kk κ y)
theorem le_refl {κ:KeyKind} (x:Keyed):le κ x x:=KeyOrd.kle_refl _
theorem le_trans {κ:KeyKind} {x y z:Keyed} (h1:le κ x y) (h2:le κ y z):le κ x z:=KeyOrd.kle_trans h1 h2
structure MInv (κ:KeyKind) (a b out:Array Keyed) (ia ib:Nat):Prop where
 perm:(out.toList++(a.toList.drop ia++b.toList.drop ib)).Perm (a.toList++b.toList)
 sa:(out.toList++a.toList.drop ia).Pairwise (le κ)
 sb:(out.toList++b.toList.drop ib).Pairwise (le κ)
def Mg (κ:KeyKind) (a b r:Array Keyed):Prop:=r.toList.Perm (a.toList++b.toList)/\r.toList.Pairwise (le κ)
section
variable {κ:KeyKind} {a b out:Array Keyed} {ia ib:Nat}
theorem drop_take {α:Type} (l:List α) (i n:Nat):l.drop i=(l.drop i).take n++l.drop (i+n):=by
 rw [<- List.drop_drop,List.take_append_drop]
theorem vz (x:Array Keyed) (i n:Nat):(x.extract i (i+n)).toList=(x.toList.drop i).take n:=by
 rw [Array.toList_extract,List.extract_eq_take_drop,Nat.add_sub_cancel_left]
theorem qH (x:Array Keyed) (i:Nat):(x.extract i x.size).toList=x.toList.drop i:=by
 rw [Array.toList_extract,List.extract_eq_take_drop,List.take_of_length_le];simp
theorem MInv.takeA (h:MInv κ a b out ia ib) (n:Nat) (hx:∀ x∈(a.toList.drop ia).take n,∀ y∈b.toList.drop ib,le κ x y):MInv κ a b (out++a.extract ia (ia+n)) (ia+n) ib:=by
 have e:=drop_take a.toList ia n;refine ⟨?_,?_,?_⟩
 ·rw [Array.toList_append,vz,List.append_assoc,<- List.append_assoc _ (a.toList.drop (ia+n)),<- e];exact h.perm
 ·rw [Array.toList_append,vz,List.append_assoc,<- e];exact h.sa
 ·rw [Array.toList_append,vz,List.append_assoc,List.pairwise_append];obtain ⟨s1,s2,s3⟩:=List.pairwise_append.mp h.sa;obtain ⟨t1,t2,t3⟩:=List.pairwise_append.mp h.sb;refine ⟨s1,List.pairwise_append.mpr ⟨s2.sublist (List.take_sublist _ _),t2,hx⟩,fun x hx' y hy=>?_⟩
  rcases List.mem_append.mp hy with hy | hy
  ·exact s3 x hx' y (List.mem_of_mem_take hy)
  ·exact t3 x hx' y hy
theorem MInv.takeB (h:MInv κ a b out ia ib) (n:Nat) (hx:∀ x∈(b.toList.drop ib).take n,∀ y∈a.toList.drop ia,le κ x y):MInv κ a b (out++b.extract ib (ib+n)) ia (ib+n):=by
 have e:=drop_take b.toList ib n;refine ⟨?_,?_,?_⟩
 ·rw [Array.toList_append,vz,List.append_assoc];refine List.Perm.trans (List.Perm.append_left _ ?_) h.perm
  conv=>rhs;rw [e]
  rw [<- List.append_assoc,<- List.append_assoc];exact List.Perm.append_right _ List.perm_append_comm
 ·rw [Array.toList_append,vz,List.append_assoc,List.pairwise_append];obtain ⟨s1,s2,s3⟩:=List.pairwise_append.mp h.sa;obtain ⟨t1,t2,t3⟩:=List.pairwise_append.mp h.sb;refine ⟨s1,List.pairwise_append.mpr ⟨t2.sublist (List.take_sublist _ _),s2,hx⟩,fun x hx' y hy=>?_⟩
  rcases List.mem_append.mp hy with hy | hy
  ·exact t3 x hx' y (List.mem_of_mem_take hy)
  ·exact s3 x hx' y hy
 ·rw [Array.toList_append,vz,List.append_assoc,<- e];exact h.sb
theorem Ua {x o:Array Keyed} {i:Nat} (hi:i<x.size):o.push x[i]=o++x.extract i (i+1):=by
 apply Array.ext';rw [Array.toList_push,Array.toList_append,vz];congr 1;rw [List.drop_eq_getElem_cons (by simpa using hi)];simp
theorem MInv.pushA (h:MInv κ a b out ia ib) (hi:ia<a.size) (hx:∀ y∈b.toList.drop ib,le κ a[ia] y):MInv κ a b (out.push a[ia]) (ia+1) ib:=by
 rw [Ua hi];refine h.takeA 1 fun x hx' y hy=>?_
 rw [List.drop_eq_getElem_cons (by simpa using hi)] at hx';simp at hx';rw [hx'];exact hx y hy
theorem MInv.pushB (h:MInv κ a b out ia ib) (hi:ib<b.size) (hx:∀ y∈a.toList.drop ia,le κ b[ib] y):MInv κ a b (out.push b[ib]) ia (ib+1):=by
 rw [Ua hi];refine h.takeB 1 fun x hx' y hy=>?_
 rw [List.drop_eq_getElem_cons (by simpa using hi)] at hx';simp at hx';rw [hx'];exact hx y hy
theorem MInv.finB (h:MInv κ a b out ia ib) (e:ib=b.size):Mg κ a b (out++a.extract ia a.size++b.extract ib b.size):=by
 have e0:b.toList.drop ib=[]:=by rw [e];simp
 have p:=h.perm;rw [e0,List.append_nil] at p;unfold Mg;rw [Array.toList_append,Array.toList_append,qH,qH,e0,List.append_nil];exact ⟨p,h.sa⟩
theorem MInv.finA (h:MInv κ a b out ia ib) (e:ia=a.size):Mg κ a b (out++a.extract ia a.size++b.extract ib b.size):=by
 have e0:a.toList.drop ia=[]:=by rw [e];simp
 have p:=h.perm;rw [e0,List.nil_append] at p;unfold Mg;rw [Array.toList_append,Array.toList_append,qH,qH,e0,List.append_nil];exact ⟨p,h.sb⟩
theorem MInv.finL (h:MInv κ a b out ia ib) (e:ia+1=a.size) (hl:∀ y∈b.toList,∀ x∈a.toList.drop ia,le κ y x):Mg κ a b (out++b.extract ib b.size++a.extract ia a.size):=by
 unfold Mg;rw [Array.toList_append,Array.toList_append,qH,qH];obtain ⟨s1,s2,s3⟩:=List.pairwise_append.mp h.sa;refine ⟨List.Perm.trans ?_ h.perm,List.pairwise_append.mpr ⟨h.sb,s2,fun x hx y hy=>?_⟩⟩
 ·rw [List.append_assoc];exact List.Perm.append_left _ List.perm_append_comm
 ·rcases List.mem_append.mp hx with hx | hx
  ·exact s3 x hx y hy
  ·exact hl x (List.mem_of_mem_drop hx) y hy
theorem MInv.leA (h:MInv κ a b out ia ib) (hi:ia<a.size):∀ y∈a.toList.drop ia,le κ a[ia] y:=by
 obtain ⟨_,s2,_⟩:=List.pairwise_append.mp h.sa;rw [List.drop_eq_getElem_cons (by simpa using hi)] at s2 ⊢;intro y hy
 rcases List.mem_cons.mp hy with rfl | hy
 ·exact le_refl _
 ·have:=(List.pairwise_cons.mp s2).1 y hy;simpa using this
theorem MInv.leB (h:MInv κ a b out ia ib) (hi:ib<b.size):∀ y∈b.toList.drop ib,le κ b[ib] y:=by
 obtain ⟨_,s2,_⟩:=List.pairwise_append.mp h.sb;rw [List.drop_eq_getElem_cons (by simpa using hi)] at s2 ⊢;intro y hy
 rcases List.mem_cons.mp hy with rfl | hy
 ·exact le_refl _
 ·have:=(List.pairwise_cons.mp s2).1 y hy;simpa using this
theorem jx {l:List Keyed} (h:l.Pairwise (le κ)) {i j:Nat} (hij:i<=j) (hj:j<l.length):le κ l[i] l[j]:=by
 rcases Nat.lt_or_eq_of_le hij with q | q
 ·exact List.pairwise_iff_getElem.mp h i j (by lia) hj q
 ·subst q;exact le_refl _
theorem vB {left:Bool} {key:Keyed} {arr:Array Keyed} {base n:Nat} (hs:(arr.toList.drop base).Pairwise (le κ)\/((arr.toList.drop base).take n).Pairwise (le κ)) (hsz:base+n<=arr.size) :
  ∀ i j,i<=j->j<n->bey κ left key arr base j=true->bey κ left key arr base i=true:=by
 intro i j hij hj hb;have h1:base+i<arr.size:=by lia
 have h2:base+j<arr.size:=by lia
 have hle:le κ arr[base+i] arr[base+j]:=by
  have hs':((arr.toList.drop base).take n).Pairwise (le κ):=by
   rcases hs with hs | hs
   ·exact hs.sublist (List.take_sublist _ _)
   ·exact hs
  have:=jx hs' hij (by simp;lia);simpa using this
 unfold bey at hb ⊢;rw [getElem?_pos arr _ h1];rw [getElem?_pos arr _ h2] at hb;dsimp only at hb ⊢;cases left with
 | true =>
  simp only [if_true] at hb ⊢;exact KeyOrd.klt_of_kle_of_klt hle hb
 | false =>
  simp only [Bool.false_eq_true,if_false,Bool.not_eq_true'] at hb ⊢;exact KeyOrd.kle_trans hle hb
end
section
variable {prog:Program} {w:World} {A:Around} {E:Value->Shared->Prop} {s:Shared} {κ:KeyKind} {kd:SortKind} {G:List Keyed}
def Alike (kd:SortKind) (st st':SortSt):Prop:=arrOf st'=arrOf st/\pendingOf st'=pendingOf st/\qv kd st'
theorem Alike.refl {st:SortSt} (h:qv kd st):Alike kd st st:=⟨rfl,rfl,h⟩
theorem Alike.setG {st st':SortSt} (h:Alike kd st st') (g:Nat):Alike kd st (SortSt.mk' (kindOf st') (arrOf st') (pendingOf st') g (failedOf st')):=⟨h.1,h.2.1,h.2.2⟩
theorem zB {M:Model} {α:Type} {c:Prop} [Decidable c] {m1 m2:StateT SortSt Sem α} {Q:α->SortSt->Prop} {st:SortSt} (h1:c->wpS M A E s m1 Q st) (h2:¬ c->wpS M A E s m2 Q st):wpS M A E s (if c then m1 else m2) Q st:=by
 by_cases h:c
 ·rw [if_pos h];exact h1 h
 ·rw [if_neg h];exact h2 h
theorem Vw {M:Model} {α:Type} {c:Prop} [Decidable c] {m1 m2:StateT SortSt Sem α} {Q:α->SortSt->Prop} {st:SortSt} {F:Nat->StateT SortSt Sem α} {g1 g2:Nat} (e2:m2=F g2) (e1:m1=F g1)
  (h:∀ g,wpS M A E s (F g) Q st):wpS M A E s (if c then m1 else m2) Q st:=by
 subst e1 e2;exact zB (fun _=>h _) (fun _=>h _)
theorem Tx {M:Model} {α:Type} {c d d2:Prop} [Decidable c] [Decidable d] [Decidable d2] {x1 x2 r1 r0:StateT SortSt Sem α} {Q:α->SortSt->Prop} {st:SortSt} {F:Array Keyed->Nat->StateT SortSt Sem α} {o1 o0:Array Keyed} {i1 i0:Nat} (P:Array Keyed->Nat->Prop)
  (e0:r0=F o0 i0) (e1:r1=F o1 i1) (hx1:c->d->wpS M A E s x1 Q st) (hx2:c->¬ d->d2->wpS M A E s x2 Q st) (p1:c->¬ d->¬ d2->P o1 i1) (p0:¬ c->P o0 i0) (h:∀ o i,P o i->wpS M A E s (F o i) Q st) :
  wpS M A E s (if c then (if d then x1 else if d2 then x2 else r1) else r0) Q st:=by
 subst e0 e1;exact zB (fun hc=>zB (hx1 hc) fun hd=>zB (hx2 hc hd) fun h2=>h _ _ (p1 hc hd h2)) (fun hc=>h _ _ (p0 hc))
theorem qt {key:Keyed} {arr:Array Keyed} {base k:Nat} (k1:k<=arr.size-base) (k2:∀ i,i<k->bey κ false key arr base i=true):∀ x∈(arr.toList.drop base).take k,le κ x key:=by
 intro x hx;obtain ⟨i,hi,rfl⟩:=List.getElem_of_mem hx;have hi':i<k:=by simp at hi;lia
 have hb:base+i<arr.size:=by lia
 have:=k2 i hi';unfold bey at this;rw [getElem?_pos arr _ hb] at this;simpa [le,KeyOrd.kle] using this
theorem Qa {key:Keyed} {arr:Array Keyed} {base k:Nat} (k3:∀ i,k<=i->i<arr.size-base->bey κ false key arr base i=false):∀ x∈arr.toList.drop (base+k),le κ key x:=by
 intro x hx;obtain ⟨i,hi,rfl⟩:=List.getElem_of_mem hx;have hb:base+(k+i)<arr.size:=by simp at hi;lia
 have:=k3 (k+i) (by lia) (by lia);unfold bey at this;rw [getElem?_pos arr _ hb] at this;have h2:κ.blt (kk κ key) (kk κ arr[base+(k+i)])=true:=by simpa using this
 have h3:=KeyOrd.kle_of_klt h2;simpa [le,Nat.add_assoc] using h3
theorem qr {key:Keyed} {arr:Array Keyed} {base k:Nat} (k1:k<=arr.size-base) (k2:∀ i,i<k->bey κ true key arr base i=true):∀ x∈(arr.toList.drop base).take k,le κ x key:=by
 intro x hx;obtain ⟨i,hi,rfl⟩:=List.getElem_of_mem hx;have hi':i<k:=by simp at hi;lia
 have hb:base+i<arr.size:=by lia
 have:=k2 i hi';unfold bey at this;rw [getElem?_pos arr _ hb] at this;have h2:κ.blt (kk κ arr[base+i]) (kk κ key)=true:=by simpa using this
 have h3:=KeyOrd.kle_of_klt h2;simpa [le] using h3
theorem UZ {key:Keyed} {arr:Array Keyed} {base k:Nat} (k3:∀ i,k<=i->i<arr.size-base->bey κ true key arr base i=false):∀ x∈arr.toList.drop (base+k),le κ key x:=by
 intro x hx;obtain ⟨i,hi,rfl⟩:=List.getElem_of_mem hx;have hb:base+(k+i)<arr.size:=by simp at hi;lia
 have:=k3 (k+i) (by lia) (by lia);unfold bey at this;rw [getElem?_pos arr _ hb] at this;simpa [le,KeyOrd.kle,Nat.add_assoc] using this
theorem Nw (hC:Cmp prog w A s κ kd G) {st:SortSt} (hg:qv kd st) {a b:Array Keyed} (ha:∀ x∈a.toList,x∈G) (hb:∀ x∈b.toList,x∈G)
  (sa:a.toList.Pairwise (le κ)) (sb:b.toList.Pairwise (le κ)) (na:0<a.size) (nb:0<b.size)
  (first:∀ x∈a.toList,le κ b[0] x) (lastOf:∀ y∈b.toList,∀ x∈a.toList.drop (a.size-1),le κ y x)
  {Q:Array Keyed->SortSt->Prop} (h:∀ r st',Mg κ a b r->Alike kd st st'->Q r st'):wpS (model prog w) A E s (Nx a b) Q st:=by
 have inA:∀ i (hi:i<a.size),a[i]∈G:=fun i hi=>ha _ (by simp)
 have inB:∀ i (hi:i<b.size),b[i]∈G:=fun i hi=>hb _ (by simp)
 have hl:∀ ia,ia+1=a.size->∀ y∈b.toList,∀ x∈a.toList.drop ia,le κ y x:=fun ia e=>by
  have:ia=a.size-1:=by lia
  subst this;exact lastOf
 refine wpS_bind (wpS_lift (wpAny_rule ⟨rfl,?_⟩));refine wpS_bind (yP nb ?_);have m0:MInv κ a b #[b[0]] 0 1:=by
  have z:MInv κ a b #[] 0 0:=⟨by simp,by simpa using sa,by simpa using sb⟩;exact z.pushB nb (by simpa using first)
 dsimp only
 by_cases c1:(1==b.size)=true
 ·rw [if_pos c1];exact wpS_pure (h _ _ (m0.finB (by simpa using c1)) (.refl hg))
 rw [if_neg c1]
 by_cases c2:(0+1==a.size)=true
 ·rw [if_pos c2];exact wpS_pure (h _ _ (m0.finL (by simpa using c2) (hl 0 (by simpa using c2))) (.refl hg))
 rw [if_neg c2]
 have c1' : 1 < b.size := by have : ¬ 1 = b.size := by simpa using c1
                             lia
 have c2' : 0 + 1 < a.size := by have : ¬ 0 + 1 = a.size := by simpa using c2
                                 lia
 refine wpS_bind (wpS_get ?_);refine wpS_bind (wpS_mono (wpS_forRange (I:=fun x c st'=>Alike kd st st'/\∃ out ia ib mg,c=(none,out,ia,ib,mg)/\MInv κ a b out ia ib/\ia+1<a.size/\ib<b.size/\x<=ia+ib)
  (Q:=fun c st'=>Alike kd st st'/\∃ r,c.1=some r/\Mg κ a b r) ?_ ?_ ⟨.refl hg,_,0,1,_,rfl,m0,c2',c1',by lia⟩) ?_)
 ·rintro x c st1 _ hx ⟨al1,out,ia,ib,mg,rfl,m,h1,h2,h3⟩;dsimp only;refine wpS_bind (wpS_mono (wpS_forRange (I:=fun y c st'=>Alike kd st st'/\∃ out ia' ib' ac bc,c=(none,out,ia',ib',ac,bc)/\MInv κ a b out ia' ib'/\ia'+1<a.size/\ib'<b.size/\ia+ib+y<=ia'+ib')
   (Q:=fun c st'=>Alike kd st st'/\((∃ r,c.1=some r/\Mg κ a b r)\/∃ out ia' ib' ac bc,c=(none,out,ia',ib',ac,bc)/\MInv κ a b out ia' ib'/\ia'+1<a.size/\ib'<b.size/\ia+ib<ia'+ib')) ?_ ?_ ⟨al1,out,ia,ib,0,0,rfl,m,h1,h2,by lia⟩) ?_)
  ·rintro y c st2 _ hy ⟨al2,out,ia',ib',ac,bc,rfl,m',g1,g2,g3⟩;dsimp only;have hia:ia'<a.size:=by lia
   refine wpS_bind (yP g2 (wpS_bind (yP hia (wpS_bind (ltS hC al2.2.2 (inB _ g2) (inA _ hia) ?_)))));cases e:κ.blt (kk κ b[ib']) (kk κ a[ia']) with
   | true =>
    simp only [if_true];refine wpS_bind (yP g2 ?_);have m2:MInv κ a b (out.push b[ib']) ia' (ib'+1):=m'.pushB g2 fun z hz=>le_trans (KeyOrd.kle_of_klt e) (m'.leA hia z hz)
    by_cases d1:(ib'+1==b.size)=true
    ·rw [if_pos d1];exact wpS_pure ⟨al2,.inl ⟨_,rfl,m2.finB (by simpa using d1)⟩⟩
    ·rw [if_neg d1];have d1':¬ ib'+1=b.size:=by simpa using d1
     split
     ·exact wpS_pure ⟨al2,.inr ⟨_,_,_,_,_,rfl,m2,g1,by lia,by lia⟩⟩
     ·exact wpS_pure ⟨al2,_,_,_,_,_,rfl,m2,g1,by lia,by lia⟩
   | false =>
    simp only [Bool.false_eq_true,if_false];refine wpS_bind (yP hia ?_);have m2:MInv κ a b (out.push a[ia']) (ia'+1) ib':=m'.pushA hia fun z hz=>le_trans (show le κ a[ia'] b[ib'] from e) (m'.leB g2 z hz)
    by_cases d1:(ia'+1+1==a.size)=true
    ·rw [if_pos d1];exact wpS_pure ⟨al2,.inl ⟨_,rfl,m2.finL (by simpa using d1) (hl _ (by simpa using d1))⟩⟩
    ·rw [if_neg d1];have d1':¬ ia'+1+1=a.size:=by simpa using d1
     split
     ·exact wpS_pure ⟨al2,.inr ⟨_,_,_,_,_,rfl,m2,by lia,g2,by lia⟩⟩
     ·exact wpS_pure ⟨al2,_,_,_,_,_,rfl,m2,by lia,g2,by lia⟩
  ·rintro c st2 ⟨al2,out,ia',ib',ac,bc,rfl,m',g1,g2,g3⟩;exact absurd g3 (by lia)
  ·rintro ⟨r,out,ia',ib',ac,bc⟩ st2 ⟨al2,hor⟩;dsimp only at hor ⊢
   rcases hor with ⟨r',rfl,mr⟩ | ⟨out,ia',ib',ac,bc,e,m',g1,g2,g3⟩
   ·exact wpS_pure ⟨al2,r',rfl,mr⟩
   ·cases e;dsimp only;refine wpS_bind (wpS_lift (wpAny_rule ⟨rfl,?_⟩));refine wpS_bind (wpS_mono (wpS_forRange (I:=fun y c st'=>Alike kd st st'/\∃ out ia'' ib'' mg ac bc,c=(none,out,ia'',ib'',mg,ac,bc)/\MInv κ a b out ia'' ib''/\ia''+1<a.size/\ib''<b.size/\ia+ib<ia''+ib'')
     (Q:=fun c st'=>Alike kd st st'/\((∃ r,c.1=some r/\Mg κ a b r)\/∃ out ia'' ib'' mg ac bc,c=(none,out,ia'',ib'',mg,ac,bc)/\MInv κ a b out ia'' ib''/\ia''+1<a.size/\ib''<b.size/\ia+ib<ia''+ib'')) ?_ ?_ ⟨al2,out,ia',ib',_,ac,bc,rfl,m',g1,g2,g3⟩) ?_)
    ·rintro y c st3 _ hy ⟨al3,out,i,j,mg,ac,bc,rfl,m,f1,f2,f3⟩;dsimp only;have hi:i<a.size:=by lia
     have hsA:(a.toList.drop i).Pairwise (le κ):=(List.pairwise_append.mp m.sa).2.1;apply Vw (g1:=mg-1) (g2:=mg)
     case e2=>rfl
     case e1=>rfl
     case h =>
      intro g;refine wpS_bind (wpS_modify ?_);refine wpS_bind (yP f2 ?_);refine wpS_bind (uG (n:=a.size-i) (hint:=0) hC (by exact (al3.setG _).2.2) (inB _ f2) ha (by lia) (by lia) (vB (.inl hsA) (by lia)) fun k k1 k2 k3=>?_)
      dsimp only;have kA:∀ x∈(a.toList.drop i).take k,∀ y∈b.toList.drop j,le κ x y:=fun x hx z hz=>le_trans (qt k1 k2 x hx) (m.leB f2 z hz)
      have mA:=m.takeA k kA;have lA:∀ y∈a.toList.drop (i+k),le κ b[j] y:=fun z hz=>Qa k3 z hz
      apply Tx (o0:=out) (i0:=i) (P:=fun o' i'=>MInv κ a b o' i' j/\i'+1<a.size/\(∀ y∈a.toList.drop i',le κ b[j] y)/\i<=i')
      case e0=>rfl
      case e1=>rfl
      case hx1=>exact fun hk d=>wpS_pure ⟨al3.setG _,.inl ⟨_,rfl,mA.finL (by simpa using d) (hl _ (by simpa using d))⟩⟩
      case hx2=>exact fun hk d d2=>wpS_pure ⟨al3.setG _,.inl ⟨_,rfl,mA.finA (by simpa using d2)⟩⟩
      case p1 =>
       intro hk d d2;have d':¬ i+k+1=a.size:=by simpa using d
       have d2':¬ i+k=a.size:=by simpa using d2
       exact ⟨mA,by lia,lA,by lia⟩
      case p0 =>
       intro hk;have k0:k=0:=by lia
       subst k0;exact ⟨m,f1,lA,Nat.le_refl _⟩
      case h =>
       rintro o' i' ⟨m',bI,lA',hii⟩;refine wpS_bind (yP f2 ?_);have m5:=m'.pushB f2 lA';refine zB (fun d3=>?_) (fun d3=>?_)
       ·exact wpS_pure ⟨al3.setG _,.inl ⟨_,rfl,m5.finB (by simpa using d3)⟩⟩
       ·have d3':¬ j+1=b.size:=by simpa using d3
        have f5:j+1<b.size:=by lia
        have hiI:i'<a.size:=by lia
        have hsB:(b.toList.drop (j+1)).Pairwise (le κ):=(List.pairwise_append.mp m5.sb).2.1;refine wpS_bind (yP hiI ?_);refine wpS_bind (uG (n:=b.size-(j+1)) (hint:=0) hC (by exact (al3.setG _).2.2) (inA _ hiI) hb (by lia) (by lia) (vB (.inl hsB) (by lia)) fun q q1 q2 q3=>?_)
        dsimp only;have mB:=m5.takeB q (fun x hx z hz=>le_trans (qr q1 q2 x hx) (m5.leA hiI z hz))
        have lB:∀ y∈b.toList.drop (j+1+q),le κ a[i'] y:=fun z hz=>UZ q3 z hz
        refine zB (fun hq=>?_) (fun hq=>?_)
        ·refine zB (fun d4=>?_) (fun d4=>?_)
         ·exact wpS_pure ⟨al3.setG _,.inl ⟨_,rfl,mB.finB (by simpa using d4)⟩⟩
         ·have d4':¬ j+1+q=b.size:=by simpa using d4
          refine wpS_bind (yP hiI ?_);have m6:=mB.pushA hiI lB;refine zB (fun d5=>?_) (fun d5=>?_)
          ·exact wpS_pure ⟨al3.setG _,.inl ⟨_,rfl,m6.finL (by simpa using d5) (hl _ (by simpa using d5))⟩⟩
          ·have d5':¬ i'+1+1=a.size:=by simpa using d5
           refine zB (fun _=>?_) (fun _=>?_)
           ·exact wpS_pure ⟨al3.setG _,.inr ⟨_,_,_,_,_,_,rfl,m6,by lia,by lia,by lia⟩⟩
           ·exact wpS_pure ⟨al3.setG _,_,_,_,_,_,_,rfl,m6,by lia,by lia,by lia⟩
        ·have q0:q=0:=by lia
         subst q0;refine wpS_bind (yP hiI ?_);have m6:=m5.pushA hiI lB;refine zB (fun d5=>?_) (fun d5=>?_)
         ·exact wpS_pure ⟨al3.setG _,.inl ⟨_,rfl,m6.finL (by simpa using d5) (hl _ (by simpa using d5))⟩⟩
         ·have d5':¬ i'+1+1=a.size:=by simpa using d5
          refine zB (fun _=>?_) (fun _=>?_)
          ·exact wpS_pure ⟨al3.setG _,.inr ⟨_,_,_,_,_,_,rfl,m6,by lia,by lia,by lia⟩⟩
          ·exact wpS_pure ⟨al3.setG _,_,_,_,_,_,_,rfl,m6,by lia,by lia,by lia⟩
    ·rintro c st3 ⟨al3,out,i,j,mg,ac,bc,rfl,m,f1,f2,f3⟩;exact ⟨al3,.inr ⟨_,_,_,_,_,_,rfl,m,f1,f2,f3⟩⟩
    ·rintro ⟨r,out,i,j,mg,ac,bc⟩ st3 ⟨al3,hor⟩;dsimp only at hor ⊢
     rcases hor with ⟨r',rfl,mr⟩ | ⟨out,i,j,mg,ac,bc,e,m,f1,f2,f3⟩
     ·exact wpS_pure ⟨al3,r',rfl,mr⟩
     ·cases e;exact wpS_bind (wpS_modify (wpS_pure ⟨al3.setG _,_,_,_,_,rfl,m,f1,f2,by lia⟩))
 ·rintro c st1 ⟨al1,out,ia,ib,mg,rfl,m,h1,h2,h3⟩;exact absurd h3 (by lia)
 ·rintro ⟨r,rest⟩ st1 ⟨al1,r',e,mr⟩;cases e;exact wpS_pure (h _ _ mr al1)
end
structure HInv (κ:KeyKind) (a b out:Array Keyed) (na nb:Nat):Prop where
 perm:((a.toList.take na++b.toList.take nb)++out.toList.reverse).Perm (a.toList++b.toList)
 sa:(a.toList.take na++out.toList.reverse).Pairwise (le κ)
 sb:(b.toList.take nb++out.toList.reverse).Pairwise (le κ)
section
variable {κ:KeyKind} {a b out:Array Keyed} {na nb:Nat}
theorem um {α:Type} (l:List α) {i j:Nat} (h:i<=j):l.take j=l.take i++(l.drop i).take (j-i):=by
 have:=List.take_append_drop i (l.take j);rw [List.take_take,List.drop_take,Nat.min_eq_left h] at this;exact this.symm
theorem qG (x:Array Keyed) (i j:Nat):(x.extract i j).toList=(x.toList.drop i).take (j-i):=by
 rw [Array.toList_extract,List.extract_eq_take_drop]
theorem qF (x:Array Keyed) (j:Nat):(x.extract 0 j).toList=x.toList.take j:=by
 rw [qG];simp
theorem HInv.takeA (h:HInv κ a b out na nb) {i:Nat} (hi:i<=na) (hx:∀ x∈(a.toList.drop i).take (na-i),∀ y∈b.toList.take nb,le κ y x):HInv κ a b (out++(a.extract i na).reverse) i nb:=by
 have e:=um a.toList hi;have r:(out++(a.extract i na).reverse).toList.reverse=(a.toList.drop i).take (na-i)++out.toList.reverse:=by
  rw [Array.toList_append,Array.toList_reverse,qG,List.reverse_append,List.reverse_reverse]
 obtain ⟨s1,s2,s3⟩:=List.pairwise_append.mp h.sa;obtain ⟨t1,t2,t3⟩:=List.pairwise_append.mp h.sb;refine ⟨?_,?_,?_⟩
 ·rw [r];refine List.Perm.trans ?_ h.perm;rw [e,<- List.append_assoc,List.append_assoc (a.toList.take i) (b.toList.take nb),List.append_assoc (a.toList.take i) ((a.toList.drop i).take (na-i))];exact List.Perm.append_right _ (List.Perm.append_left _ List.perm_append_comm)
 ·rw [r,<- List.append_assoc,<- e];exact h.sa
 ·rw [r,List.pairwise_append];rw [e] at s1 s3;refine ⟨t1,List.pairwise_append.mpr ⟨(List.pairwise_append.mp s1).2.1,s2,fun x hx' y hy=>s3 x (List.mem_append_right _ hx') y hy⟩,fun y hy z hz=>?_⟩
  rcases List.mem_append.mp hz with hz | hz
  ·exact hx z hz y hy
  ·exact t3 y hy z hz
theorem HInv.takeB (h:HInv κ a b out na nb) {i:Nat} (hi:i<=nb) (hx:∀ x∈(b.toList.drop i).take (nb-i),∀ y∈a.toList.take na,le κ y x):HInv κ a b (out++(b.extract i nb).reverse) na i:=by
 have e:=um b.toList hi;have r:(out++(b.extract i nb).reverse).toList.reverse=(b.toList.drop i).take (nb-i)++out.toList.reverse:=by
  rw [Array.toList_append,Array.toList_reverse,qG,List.reverse_append,List.reverse_reverse]
 obtain ⟨s1,s2,s3⟩:=List.pairwise_append.mp h.sb;obtain ⟨t1,t2,t3⟩:=List.pairwise_append.mp h.sa;refine ⟨?_,?_,?_⟩
 ·rw [r,<- List.append_assoc,List.append_assoc (a.toList.take na),<- e];exact h.perm
 ·rw [r,List.pairwise_append];rw [e] at s1 s3;refine ⟨t1,List.pairwise_append.mpr ⟨(List.pairwise_append.mp s1).2.1,s2,fun x hx' y hy=>s3 x (List.mem_append_right _ hx') y hy⟩,fun y hy z hz=>?_⟩
  rcases List.mem_append.mp hz with hz | hz
  ·exact hx z hz y hy
  ·exact t3 y hy z hz
 ·rw [r,<- List.append_assoc,<- e];exact h.sb
theorem VZ {x o:Array Keyed} {n:Nat} (hn:0<n) (hi:n-1<x.size):o.push x[n-1]=o++(x.extract (n-1) n).reverse:=by
 apply Array.ext';rw [Array.toList_push,Array.toList_append,Array.toList_reverse,qG,List.drop_eq_getElem_cons (by simpa using hi)];have:n-(n-1)=1:=by lia
 rw [this];simp
theorem Kh {x:Array Keyed} {n:Nat} (hn:0<n) (hi:n-1<x.size) {y:Keyed} (h:y∈(x.toList.drop (n-1)).take (n-(n-1))):y=x[n-1]:=by
 have:n-(n-1)=1:=by lia
 rw [this,List.drop_eq_getElem_cons (by simpa using hi)] at h;simpa using h
theorem HInv.pushA (h:HInv κ a b out na nb) (hn:0<na) (hi:na-1<a.size) (hx:∀ y∈b.toList.take nb,le κ y a[na-1]):HInv κ a b (out.push a[na-1]) (na-1) nb:=by
 rw [VZ hn hi];exact h.takeA (by lia) fun x hx' y hy=>by rw [Kh hn hi hx'];exact hx y hy
theorem HInv.pushB (h:HInv κ a b out na nb) (hn:0<nb) (hi:nb-1<b.size) (hx:∀ y∈a.toList.take na,le κ y b[nb-1]):HInv κ a b (out.push b[nb-1]) na (nb-1):=by
 rw [VZ hn hi];exact h.takeB (by lia) fun x hx' y hy=>by rw [Kh hn hi hx'];exact hx y hy
theorem HInv.finA (h:HInv κ a b out na nb) (e:na=0):Mg κ a b (a.extract 0 na++b.extract 0 nb++out.reverse):=by
 subst e;unfold Mg;have p:=h.perm;rw [List.take_zero,List.nil_append] at p;rw [Array.toList_append,Array.toList_append,qF,qF,Array.toList_reverse,List.take_zero,List.nil_append];exact ⟨p,h.sb⟩
theorem HInv.finB (h:HInv κ a b out na nb) (e:nb=0):Mg κ a b (a.extract 0 na++b.extract 0 nb++out.reverse):=by
 subst e;unfold Mg;have p:=h.perm;rw [List.take_zero,List.append_nil] at p;rw [Array.toList_append,Array.toList_append,qF,qF,Array.toList_reverse,List.take_zero,List.append_nil];exact ⟨p,h.sa⟩
theorem HInv.finF (h:HInv κ a b out na nb) (hl:∀ x∈a.toList,∀ y∈b.toList.take nb,le κ y x):Mg κ a b (b.extract 0 nb++a.extract 0 na++out.reverse):=by
 unfold Mg;rw [Array.toList_append,Array.toList_append,qF,qF,Array.toList_reverse];obtain ⟨t1,t2,t3⟩:=List.pairwise_append.mp h.sb;refine ⟨List.Perm.trans (List.Perm.append_right _ List.perm_append_comm) h.perm,?_⟩;rw [List.append_assoc,List.pairwise_append];refine ⟨t1,h.sa,fun y hy x hx=>?_⟩
 rcases List.mem_append.mp hx with hx | hx
 ·exact hl x (List.mem_of_mem_take hx) y hy
 ·exact t3 y hy x hx
theorem Kj {x:Array Keyed} {n:Nat} (hn:0<n) (hi:n<=x.size) (hs:(x.toList.take n).Pairwise (le κ)):∀ y∈x.toList.take n,le κ y x[n-1]:=by
 intro y hy;obtain ⟨i,hi',rfl⟩:=List.getElem_of_mem hy;have h1:i<n:=by simp at hi';lia
 have:=jx hs (i:=i) (j:=n-1) (by lia) (by simp;lia);simpa using this
theorem HInv.leA (h:HInv κ a b out na nb) (hn:0<na) (hi:na<=a.size):∀ y∈a.toList.take na,le κ y a[na-1]:=Kj hn hi (List.pairwise_append.mp h.sa).1
theorem HInv.leB (h:HInv κ a b out na nb) (hn:0<nb) (hi:nb<=b.size):∀ y∈b.toList.take nb,le κ y b[nb-1]:=Kj hn hi (List.pairwise_append.mp h.sb).1
theorem Sw {key:Keyed} {arr:Array Keyed} {k n:Nat} (hn:n<=arr.size) (k1:k<=n) (k2:∀ i,i<k->bey κ false key arr 0 i=true):∀ x∈arr.toList.take k,le κ x key:=by
 have:=qt (κ:=κ) (key:=key) (arr:=arr) (base:=0) (k:=k) (by lia) k2;simpa using this
theorem KG {key:Keyed} {arr:Array Keyed} {k n:Nat} (hn:n<=arr.size) (k1:k<=n) (k2:∀ i,i<k->bey κ true key arr 0 i=true):∀ x∈arr.toList.take k,le κ x key:=by
 have:=qr (κ:=κ) (key:=key) (arr:=arr) (base:=0) (k:=k) (by lia) k2;simpa using this
theorem YU {left:Bool} {key:Keyed} {arr:Array Keyed} {k n:Nat} (hn:n<=arr.size) (k3:∀ i,k<=i->i<n->bey κ left key arr 0 i=false):∀ x∈(arr.toList.drop k).take (n-k),le κ key x:=by
 intro x hx;obtain ⟨i,hi,rfl⟩:=List.getElem_of_mem hx;have hb:0+(k+i)<arr.size:=by simp at hi;lia
 have hin:k+i<n:=by simp at hi;lia
 have:=k3 (k+i) (by lia) hin;unfold bey at this;rw [getElem?_pos arr _ hb] at this;cases left with
 | true=>simpa [le,KeyOrd.kle] using this
 | false =>
  have h2:κ.blt (kk κ key) (kk κ arr[0+(k+i)])=true:=by simpa using this
  have h3:=KeyOrd.kle_of_klt h2;simpa [le] using h3
end
section
variable {prog:Program} {w:World} {A:Around} {E:Value->Shared->Prop} {s:Shared} {κ:KeyKind} {kd:SortKind} {G:List Keyed}
theorem Ny (hC:Cmp prog w A s κ kd G) {st:SortSt} (hg:qv kd st) {a b:Array Keyed} (ha:∀ x∈a.toList,x∈G) (hb:∀ x∈b.toList,x∈G)
  (sa:a.toList.Pairwise (le κ)) (sb:b.toList.Pairwise (le κ)) (za:0<a.size) (zb:0<b.size)
  (first:∀ x∈a.toList,∀ y∈b.toList.take 1,le κ y x) (lastOf:∀ y∈b.toList,le κ y a[a.size-1])
  {Q:Array Keyed->SortSt->Prop} (h:∀ r st',Mg κ a b r->Alike kd st st'->Q r st'):wpS (model prog w) A E s (Nz a b) Q st:=by
 have inA:∀ i (hi:i<a.size),a[i]∈G:=fun i hi=>ha _ (by simp)
 have inB:∀ i (hi:i<b.size),b[i]∈G:=fun i hi=>hb _ (by simp)
 have hf:∀ nb,nb=1->∀ x∈a.toList,∀ y∈b.toList.take nb,le κ y x:=fun nb e=>by subst e;exact first
 refine wpS_bind (wpS_lift (wpAny_rule ⟨rfl,?_⟩));refine wpS_bind (yP (show a.size-1<a.size by lia) ?_);have m0:HInv κ a b #[a[a.size-1]] (a.size-1) b.size:=by
  have ta:a.toList.take a.size=a.toList:=List.take_of_length_le (by simp);have tb:b.toList.take b.size=b.toList:=List.take_of_length_le (by simp);have z:HInv κ a b #[] a.size b.size:=⟨by rw [ta,tb];simp,by rw [ta];simpa using sa,by rw [tb];simpa using sb⟩;exact z.pushA za (by lia) (by rw [tb];exact lastOf)
 dsimp only;refine zB (fun c1=>?_) (fun c1=>?_)
 ·exact wpS_pure (h _ _ (m0.finA (by simpa using c1)) (.refl hg))
 refine zB (fun c2=>?_) (fun c2=>?_)
 ·exact wpS_pure (h _ _ (m0.finF (hf _ (by simpa using c2))) (.refl hg))
 have c1':¬ a.size-1=0:=by simpa using c1
 have c2':¬ b.size=1:=by simpa using c2
 refine wpS_bind (wpS_get ?_);refine wpS_bind (wpS_mono (wpS_forRange (I:=fun x c st'=>Alike kd st st'/\∃ na nb out mg,c=(none,na,nb,out,mg)/\HInv κ a b out na nb/\0<na/\na<=a.size/\1<nb/\nb<=b.size/\na+nb+x<a.size+b.size)
  (Q:=fun c st'=>Alike kd st st'/\∃ r,c.1=some r/\Mg κ a b r) ?_ ?_ ⟨.refl hg,a.size-1,b.size,_,_,rfl,m0,by lia,by lia,by lia,by lia,by lia⟩) ?_)
 ·rintro x c st1 _ hx ⟨al1,na,nb,out,mg,rfl,m,h1,h1',h2,h2',h3⟩;dsimp only;refine wpS_bind (wpS_mono (wpS_forRange (I:=fun y c st'=>Alike kd st st'/\∃ na' nb' out ac bc,c=(none,na',nb',out,ac,bc)/\HInv κ a b out na' nb'/\0<na'/\na'<=a.size/\1<nb'/\nb'<=b.size/\na'+nb'+y<=na+nb)
   (Q:=fun c st'=>Alike kd st st'/\((∃ r,c.1=some r/\Mg κ a b r)\/∃ na' nb' out ac bc,c=(none,na',nb',out,ac,bc)/\HInv κ a b out na' nb'/\0<na'/\na'<=a.size/\1<nb'/\nb'<=b.size/\na'+nb'<na+nb)) ?_ ?_ ⟨al1,na,nb,out,0,0,rfl,m,h1,h1',h2,h2',by lia⟩) ?_)
  ·rintro y c st2 _ hy ⟨al2,na',nb',out,ac,bc,rfl,m',g1,g1',g2,g2',g3⟩;dsimp only;have hi:na'-1<a.size:=by lia
   have hj:nb'-1<b.size:=by lia
   refine wpS_bind (yP hj (wpS_bind (yP hi (wpS_bind (ltS hC al2.2.2 (inB _ hj) (inA _ hi) ?_)))));cases e:κ.blt (kk κ b[nb'-1]) (kk κ a[na'-1]) with
   | true =>
    simp only [if_true];refine wpS_bind (yP hi ?_);have m2:=m'.pushA g1 hi fun z hz=>le_trans (m'.leB (by lia) g2' z hz) (KeyOrd.kle_of_klt e)
    refine zB (fun d1=>?_) (fun d1=>?_)
    ·exact wpS_pure ⟨al2,.inl ⟨_,rfl,m2.finA (by simpa using d1)⟩⟩
    ·have d1':¬ na'-1=0:=by simpa using d1
     refine zB (fun _=>?_) (fun _=>?_)
     ·exact wpS_pure ⟨al2,.inr ⟨_,_,_,_,_,rfl,m2,by lia,by lia,g2,g2',by lia⟩⟩
     ·exact wpS_pure ⟨al2,_,_,_,_,_,rfl,m2,by lia,by lia,g2,g2',by lia⟩
   | false =>
    simp only [Bool.false_eq_true,if_false];refine wpS_bind (yP hj ?_);have m2:=m'.pushB (by lia) hj fun z hz=>le_trans (m'.leA g1 g1' z hz) (show le κ a[na'-1] b[nb'-1] from e)
    refine zB (fun d1=>?_) (fun d1=>?_)
    ·exact wpS_pure ⟨al2,.inl ⟨_,rfl,m2.finF (hf _ (by simpa using d1))⟩⟩
    ·have d1':¬ nb'-1=1:=by simpa using d1
     refine zB (fun _=>?_) (fun _=>?_)
     ·exact wpS_pure ⟨al2,.inr ⟨_,_,_,_,_,rfl,m2,g1,g1',by lia,by lia,by lia⟩⟩
     ·exact wpS_pure ⟨al2,_,_,_,_,_,rfl,m2,g1,g1',by lia,by lia,by lia⟩
  ·rintro c st2 ⟨al2,na',nb',out,ac,bc,rfl,m',g1,g1',g2,g2',g3⟩;exact absurd g3 (by lia)
  ·rintro ⟨r,na',nb',out,ac,bc⟩ st2 ⟨al2,hor⟩;dsimp only at hor ⊢
   rcases hor with ⟨r',rfl,mr⟩ | ⟨na',nb',out,ac,bc,e,m',g1,g1',g2,g2',g3⟩
   ·exact wpS_pure ⟨al2,r',rfl,mr⟩
   ·cases e;dsimp only;refine wpS_bind (wpS_lift (wpAny_rule ⟨rfl,?_⟩));refine wpS_bind (wpS_mono (wpS_forRange (I:=fun y c st'=>Alike kd st st'/\∃ na' nb' out mg ac bc,c=(none,na',nb',out,mg,ac,bc)/\HInv κ a b out na' nb'/\0<na'/\na'<=a.size/\1<nb'/\nb'<=b.size/\na'+nb'<na+nb)
     (Q:=fun c st'=>Alike kd st st'/\((∃ r,c.1=some r/\Mg κ a b r)\/∃ na' nb' out mg ac bc,c=(none,na',nb',out,mg,ac,bc)/\HInv κ a b out na' nb'/\0<na'/\na'<=a.size/\1<nb'/\nb'<=b.size/\na'+nb'<na+nb)) ?_ ?_ ⟨al2,na',nb',out,_,ac,bc,rfl,m',g1,g1',g2,g2',g3⟩) ?_)
    ·rintro y c st3 _ hy ⟨al3,i,nb,out,mg,ac,bc,rfl,m,f1,f1',f2,f2',f3⟩;dsimp only;have hj:nb-1<b.size:=by lia
     have hsA:((a.toList.drop 0).take i).Pairwise (le κ):=by simpa using (List.pairwise_append.mp m.sa).1
     apply Vw (g1:=mg-1) (g2:=mg)
     case e2=>rfl
     case e1=>rfl
     case h =>
      intro g;refine wpS_bind (wpS_modify ?_);refine wpS_bind (yP hj ?_);refine wpS_bind (uG (n:=i) (hint:=i-1) hC (by exact (al3.setG _).2.2) (inB _ hj) ha (by lia) (by lia) (vB (.inr hsA) (by lia)) fun k k1 k2 k3=>?_)
      dsimp only;have mA:=m.takeA k1 (fun x hx y hy=>le_trans (m.leB (by lia) f2' y hy) (YU f1' k3 x hx))
      have lA:∀ y∈a.toList.take k,le κ y b[nb-1]:=Sw (n:=i) f1' k1 k2;refine zB (fun hk=>?_) (fun hk=>?_)
      ·refine zB (fun d=>?_) (fun d=>?_)
       ·exact wpS_pure ⟨al3.setG _,.inl ⟨_,rfl,mA.finA (by simpa using d)⟩⟩
       ·have d':¬ k=0:=by simpa using d
        have n0:0<k:=by lia
        refine wpS_bind (yP hj ?_);have m5:=mA.pushB (by lia) hj lA;refine zB (fun d3=>?_) (fun d3=>?_)
        ·exact wpS_pure ⟨al3.setG _,.inl ⟨_,rfl,m5.finF (hf _ (by simpa using d3))⟩⟩
        ·have d3':¬ nb-1=1:=by simpa using d3
         have hiI:k-1<a.size:=by lia
         have hsB:((b.toList.drop 0).take (nb-1)).Pairwise (le κ):=by simpa using (List.pairwise_append.mp m5.sb).1
         refine wpS_bind (yP hiI ?_);refine wpS_bind (uG (n:=nb-1) (hint:=nb-1-1) hC (by exact (al3.setG _).2.2) (inA _ hiI) hb (by lia) (by lia) (vB (.inr hsB) (by lia)) fun q q1 q2 q3=>?_)
         dsimp only;have mB:=m5.takeB q1 (fun x hx y hy=>le_trans (m5.leA n0 (by lia) y hy) (YU (by lia) q3 x hx))
         have lB:∀ y∈b.toList.take q,le κ y a[k-1]:=KG (n:=nb-1) (by lia) q1 q2;refine zB (fun hq=>?_) (fun hq=>?_)
         ·refine zB (fun d4=>?_) (fun d4=>?_)
          ·exact wpS_pure ⟨al3.setG _,.inl ⟨_,rfl,mB.finF (hf _ (by simpa using d4))⟩⟩
          ·refine zB (fun d6=>?_) (fun d6=>?_)
           ·exact wpS_pure ⟨al3.setG _,.inl ⟨_,rfl,mB.finB (by simpa using d6)⟩⟩
           ·have d4':¬ q=1:=by simpa using d4
            have d6':¬ q=0:=by simpa using d6
            refine wpS_bind (yP hiI ?_);have m6:=mB.pushA n0 (by lia) lB;refine zB (fun d5=>?_) (fun d5=>?_)
            ·exact wpS_pure ⟨al3.setG _,.inl ⟨_,rfl,m6.finA (by simpa using d5)⟩⟩
            ·have d5':¬ k-1=0:=by simpa using d5
             refine zB (fun _=>?_) (fun _=>?_)
             ·exact wpS_pure ⟨al3.setG _,.inr ⟨_,_,_,_,_,_,rfl,m6,by lia,by lia,by lia,by lia,by lia⟩⟩
             ·exact wpS_pure ⟨al3.setG _,_,_,_,_,_,_,rfl,m6,by lia,by lia,by lia,by lia,by lia⟩
         ·have q0:q=nb-1:=by lia
          subst q0;refine wpS_bind (yP hiI ?_);have m6:=m5.pushA n0 (by lia) lB;refine zB (fun d5=>?_) (fun d5=>?_)
          ·exact wpS_pure ⟨al3.setG _,.inl ⟨_,rfl,m6.finA (by simpa using d5)⟩⟩
          ·have d5':¬ k-1=0:=by simpa using d5
           refine zB (fun _=>?_) (fun _=>?_)
           ·exact wpS_pure ⟨al3.setG _,.inr ⟨_,_,_,_,_,_,rfl,m6,by lia,by lia,by lia,by lia,by lia⟩⟩
           ·exact wpS_pure ⟨al3.setG _,_,_,_,_,_,_,rfl,m6,by lia,by lia,by lia,by lia,by lia⟩
      ·have k0:k=i:=by lia
       subst k0;have n0:0<k:=f1;refine wpS_bind (yP hj ?_);have m5:=m.pushB (by lia) hj lA;refine zB (fun d3=>?_) (fun d3=>?_)
       ·exact wpS_pure ⟨al3.setG _,.inl ⟨_,rfl,m5.finF (hf _ (by simpa using d3))⟩⟩
       ·have d3':¬ nb-1=1:=by simpa using d3
        have hiI:k-1<a.size:=by lia
        have hsB:((b.toList.drop 0).take (nb-1)).Pairwise (le κ):=by simpa using (List.pairwise_append.mp m5.sb).1
        refine wpS_bind (yP hiI ?_);refine wpS_bind (uG (n:=nb-1) (hint:=nb-1-1) hC (by exact (al3.setG _).2.2) (inA _ hiI) hb (by lia) (by lia) (vB (.inr hsB) (by lia)) fun q q1 q2 q3=>?_)
        dsimp only;have mB:=m5.takeB q1 (fun x hx y hy=>le_trans (m5.leA n0 (by lia) y hy) (YU (by lia) q3 x hx))
        have lB:∀ y∈b.toList.take q,le κ y a[k-1]:=KG (n:=nb-1) (by lia) q1 q2;refine zB (fun hq=>?_) (fun hq=>?_)
        ·refine zB (fun d4=>?_) (fun d4=>?_)
         ·exact wpS_pure ⟨al3.setG _,.inl ⟨_,rfl,mB.finF (hf _ (by simpa using d4))⟩⟩
         ·refine zB (fun d6=>?_) (fun d6=>?_)
          ·exact wpS_pure ⟨al3.setG _,.inl ⟨_,rfl,mB.finB (by simpa using d6)⟩⟩
          ·have d4':¬ q=1:=by simpa using d4
           have d6':¬ q=0:=by simpa using d6
           refine wpS_bind (yP hiI ?_);have m6:=mB.pushA n0 (by lia) lB;refine zB (fun d5=>?_) (fun d5=>?_)
           ·exact wpS_pure ⟨al3.setG _,.inl ⟨_,rfl,m6.finA (by simpa using d5)⟩⟩
           ·have d5':¬ k-1=0:=by simpa using d5
            refine zB (fun _=>?_) (fun _=>?_)
            ·exact wpS_pure ⟨al3.setG _,.inr ⟨_,_,_,_,_,_,rfl,m6,by lia,by lia,by lia,by lia,by lia⟩⟩
            ·exact wpS_pure ⟨al3.setG _,_,_,_,_,_,_,rfl,m6,by lia,by lia,by lia,by lia,by lia⟩
        ·have q0:q=nb-1:=by lia
         subst q0;refine wpS_bind (yP hiI ?_);have m6:=m5.pushA n0 (by lia) lB;refine zB (fun d5=>?_) (fun d5=>?_)
         ·exact wpS_pure ⟨al3.setG _,.inl ⟨_,rfl,m6.finA (by simpa using d5)⟩⟩
         ·have d5':¬ k-1=0:=by simpa using d5
          refine zB (fun _=>?_) (fun _=>?_)
          ·exact wpS_pure ⟨al3.setG _,.inr ⟨_,_,_,_,_,_,rfl,m6,by lia,by lia,by lia,by lia,by lia⟩⟩
          ·exact wpS_pure ⟨al3.setG _,_,_,_,_,_,_,rfl,m6,by lia,by lia,by lia,by lia,by lia⟩
    ·rintro c st3 ⟨al3,i,j,out,mg,ac,bc,rfl,m,f1,f1',f2,f2',f3⟩;exact ⟨al3,.inr ⟨_,_,_,_,_,_,rfl,m,f1,f1',f2,f2',f3⟩⟩
    ·rintro ⟨r,i,j,out,mg,ac,bc⟩ st3 ⟨al3,hor⟩;dsimp only at hor ⊢
     rcases hor with ⟨r',rfl,mr⟩ | ⟨i,j,out,mg,ac,bc,e,m,f1,f1',f2,f2',f3⟩
     ·exact wpS_pure ⟨al3,r',rfl,mr⟩
     ·cases e;exact wpS_bind (wpS_modify (wpS_pure ⟨al3.setG _,_,_,_,_,rfl,m,f1,f1',f2,f2',by lia⟩))
 ·rintro c st1 ⟨al1,na,nb,out,mg,rfl,m,h1,h1',h2,h2',h3⟩;exact absurd h3 (by lia)
 ·rintro ⟨r,rest⟩ st1 ⟨al1,r',e,mr⟩;cases e;exact wpS_pure (h _ _ mr al1)
end
def Up (κ:KeyKind) (xs:Array Keyed) (lo m:Nat):Prop:=∀ i j,lo<=i->i<=j->j<lo+m->κ.kle (KK κ xs i) (KK κ xs j)
def Down (κ:KeyKind) (xs:Array Keyed) (lo m:Nat):Prop:=∀ i j,lo<=i->i<=j->j<lo+m->κ.kle (KK κ xs j) (KK κ xs i)
theorem Up.snoc {κ:KeyKind} {xs:Array Keyed} {lo m:Nat} (h:Up κ xs lo m) (hm:0<m) (h1:κ.kle (KK κ xs (lo+m-1)) (KK κ xs (lo+m))):Up κ xs lo (m+1):=fun i j a1 a2 a3=>by
 by_cases e:j=lo+m
 ·subst e
  by_cases e2:i=lo+m
  ·subst e2;exact KeyOrd.kle_refl _
  ·exact KeyOrd.kle_trans (h i (lo+m-1) a1 (by lia) (by lia)) h1
 ·exact h i j a1 a2 (by lia)
theorem Down.snoc {κ:KeyKind} {xs:Array Keyed} {lo m:Nat} (h:Down κ xs lo m) (hm:0<m) (h1:κ.kle (KK κ xs (lo+m)) (KK κ xs (lo+m-1))):Down κ xs lo (m+1):=fun i j a1 a2 a3=>by
 by_cases e:j=lo+m
 ·subst e
  by_cases e2:i=lo+m
  ·subst e2;exact KeyOrd.kle_refl _
  ·exact KeyOrd.kle_trans h1 (h i (lo+m-1) a1 (by lia) (by lia))
 ·exact h i j a1 a2 (by lia)
theorem Down.same {κ:KeyKind} {xs ys:Array Keyed} {lo m:Nat} (h:Down κ xs lo m) (e:∀ k,KK κ ys k=KK κ xs k):Down κ ys lo m:=fun i j a1 a2 a3=>by rw [e,e];exact h i j a1 a2 a3
theorem Down.flip {κ:KeyKind} {xs:Array Keyed} {lo m:Nat} (h:Down κ xs lo m) (hs:lo+m<=xs.size):Up κ (mirror xs lo (lo+m) ((lo+m-lo)/2)) lo m:=fun i j a1 a2 a3=>by
 rw [KK_mirror hs,KK_mirror hs,if_pos (by lia),if_pos (by lia)];exact h _ _ (by lia) (by lia) (by lia)
structure Kin (kd:SortKind) (st st':SortSt) (lo:Nat):Prop where
 perm:(arrOf st').Perm (arrOf st)
 low:∀ k,k<lo->(arrOf st')[k]?=(arrOf st)[k]?
 pend:pendingOf st'=pendingOf st
 good:qv kd st'
theorem Kin.refl {kd:SortKind} {st:SortSt} {lo:Nat} (h:qv kd st):Kin kd st st lo:=⟨Array.Perm.refl _,fun _ _=>rfl,rfl,h⟩
theorem Kin.size {kd:SortKind} {st st':SortSt} {lo:Nat} (h:Kin kd st st' lo):(arrOf st').size=(arrOf st).size:=h.perm.size_eq
theorem Kin.mirror {kd:SortKind} {st st':SortSt} {lo i j d:Nat} (h:Kin kd st st' lo) (hi:lo<=i) (hj:j<=(arrOf st').size) (hd:2*d<=j-i):Kin kd st (setArr st' (mirror (arrOf st') i j d)) lo :=
 ⟨(mirror_perm _ _ _ _).trans h.perm,fun k hk=>by
  show (PyProof.Rows.mirror (arrOf st') i j d)[k]?=_;rw [getElem?_mirror hj d hd,if_neg (by lia)];exact h.low k hk,h.pend,h.good⟩
theorem Kin.bubble {kd:SortKind} {st st':SortSt} {lo src d:Nat} (h:Kin kd st st' lo) (hs:src<(arrOf st').size) (hd:lo+d<=src):Kin kd st (setArr st' (bubble (arrOf st') src d)) lo :=
 ⟨(bubble_perm _ _ _).trans h.perm,fun k hk=>by
  show (PyProof.Rows.bubble (arrOf st') src d)[k]?=_;rw [getElem?_bubble hs d (by lia),if_neg (by lia),if_neg (by lia)];exact h.low k hk,h.pend,h.good⟩
section
variable {prog:Program} {w:World} {A:Around} {E:Value->Shared->Prop} {s:Shared} {κ:KeyKind} {kd:SortKind} {G:List Keyed}
theorem KL {xs:Array Keyed} {i:Nat} (h:i<xs.size):KK κ xs i=kk κ xs[i]:=by
 unfold KK kk;rw [getElem?_pos xs i h]
theorem qh (hC:Cmp prog w A s κ kd G) {st:SortSt} (hg:qv kd st) (hG:∀ x∈(arrOf st).toList,x∈G) {i j:Nat} (hi:i<(arrOf st).size) (hj:j<(arrOf st).size) {Q:Option Bool->SortSt->Prop}
  (h:Q (some (κ.blt (KK κ (arrOf st) i) (KK κ (arrOf st) j))) st):wpS (model prog w) A E s (ltAt' i j) Q st:=by
 rw [ltAt'_eq];refine wpS_bind (wpS_get ?_);refine wpS_bind (yP hi (wpS_bind (yP hj ?_)));rw [KL hi,KL hj] at h;exact ltS hC hg (hG _ (by simp)) (hG _ (by simp)) h
theorem WA {i j:Nat} {st:SortSt} {M:Model} {Q:PUnit->SortSt->Prop} (h:Q ⟨⟩ (setArr st (mirror (arrOf st) i j ((j-i)/2)))):wpS M A E s (reverseSlice' i j) Q st:=by
 rw [reverseSlice'_eq];exact wpS_modify h
theorem GT (hC:Cmp prog w A s κ kd G) {st:SortSt} (hg:qv kd st) (hG:∀ x∈(arrOf st).toList,x∈G) {lo nrem:Nat} (hn:lo+nrem<=(arrOf st).size) (h1:1<=nrem)
  {Q:Option Nat->SortSt->Prop} (h:∀ m st',Kin kd st st' lo->1<=m->m<=nrem->Up κ (arrOf st') lo m->Q (some m) st'):wpS (model prog w) A E s (countRun' lo nrem) Q st:=by
 have hGk:∀ st',Kin kd st st' lo->∀ x∈(arrOf st').toList,x∈G:=fun st' k x hx=>hG x ((Array.perm_iff_toList_perm.mp k.perm).mem_iff.mp hx)
 refine wpS_bind (wpS_mono (wpS_forRange (I:=fun x c st'=>st'=st/\c=(none,x)/\Up κ (arrOf st) lo x)
  (Q:=fun c st'=>st'=st/\∃ n,c=(none,n)/\1<=n/\n<=nrem/\Up κ (arrOf st) lo n/\(n=nrem\/κ.klt (KK κ (arrOf st) (lo+n)) (KK κ (arrOf st) (lo+n-1)))) ?_ ?_ ⟨rfl,rfl,fun i j a1 a2 a3=>?_⟩) ?_)
 ·rintro x c st' hx1 hx2 ⟨rfl,rfl,up⟩;dsimp only;refine wpS_bind (qh hC hg hG (by lia) (by lia) ?_);cases e:κ.blt (KK κ (arrOf st') (lo+x)) (KK κ (arrOf st') (lo+x-1)) with
  | true =>
   simp only [if_true];exact wpS_pure ⟨rfl,x,rfl,hx1,by lia,up,.inr e⟩
  | false =>
   simp only [Bool.false_eq_true,if_false];exact wpS_pure ⟨rfl,rfl,up.snoc (by lia) e⟩
 ·rintro c st' ⟨rfl,rfl,up⟩;have e:max 1 nrem=nrem:=by lia
  rw [e] at up ⊢;exact ⟨rfl,nrem,rfl,h1,Nat.le_refl _,up,.inl rfl⟩
 ·have:i=j:=by lia
  subst this;exact KeyOrd.kle_refl _
 ·rintro c st' ⟨rfl,n,rfl,n1,n2,up,hor⟩;dsimp only;refine zB (fun c1=>?_) (fun c1=>?_)
  ·exact wpS_pure (h n st' (.refl hg) n1 n2 up)
  have c1':¬ n=nrem:=by simpa using c1
  have hlt:=hor.resolve_left c1';refine zB (fun c2=>?_) (fun c2=>?_)
  ·refine wpS_bind (qh hC hg hG (by lia) (by lia) ?_);generalize er:κ.blt _ _=bb;cases bb with
   | true =>
    simp only [if_true];exact wpS_pure (h n st' (.refl hg) n1 n2 up)
   | false =>
    simp only [Bool.false_eq_true,if_false];have all:∀ k,lo<=k->k<lo+n->KK κ (arrOf st') k=KK κ (arrOf st') (lo+n-1):=fun k a1 a2 =>
     KeyOrd.kle_antisymm (up k (lo+n-1) a1 (by lia) (by lia)) (KeyOrd.kle_trans er (up lo k (Nat.le_refl _) a1 a2))
    have kf:=(Kin.refl (lo:=lo) hg).mirror (i:=lo) (j:=lo+n) (d:=(lo+n-lo)/2) (Nat.le_refl _) (by lia) (by lia);have df:Down κ (arrOf (setArr st' (mirror (arrOf st') lo (lo+n) ((lo+n-lo)/2)))) lo (n+1):=Down.same (fun i j a1 a2 a3=>by
     by_cases ej:j=lo+n
     ·subst ej
      by_cases ei:i=lo+n
      ·subst ei;exact KeyOrd.kle_refl _
      ·rw [all i a1 (by lia)];exact KeyOrd.kle_of_klt hlt
     ·rw [all i a1 (by lia),all j (by lia) (by lia)];exact KeyOrd.kle_refl _) (KK_mirror_equal (by lia) all)
    refine wpS_bind (WA ?_);refine wpS_bind (wpS_lift (wpAny_rule ⟨rfl,?_⟩));refine wpS_bind (wpS_mono (wpS_forRange (I:=fun x c st3=>Kin kd st' st3 lo/\∃ q,c=(none,x,q)/\Down κ (arrOf st3) lo x/\q+1<=x/\∀ i,lo+x-(q+1)<=i->i<lo+x->KK κ (arrOf st3) i=KK κ (arrOf st3) (lo+x-1))
     (Q:=fun c st3=>Kin kd st' st3 lo/\∃ x q,c=(none,x,q)/\n+1<=x/\x<=nrem/\Down κ (arrOf st3) lo x/\q+1<=x/\∀ i,lo+x-(q+1)<=i->i<lo+x->KK κ (arrOf st3) i=KK κ (arrOf st3) (lo+x-1)) ?_ ?_ ⟨kf,0,rfl,df,by lia,fun i a1 a2=>by congr 1;lia⟩) ?_)
    ·rintro x c st3 hx1 hx2 ⟨k3,q,rfl,dn,q1,qe⟩;dsimp only;have hz:=k3.size;refine wpS_bind (qh hC k3.good (hGk _ k3) (by lia) (by lia) ?_);cases e:κ.blt (KK κ (arrOf st3) (lo+x)) (KK κ (arrOf st3) (lo+x-1)) with
     | true =>
      simp only [if_true];have dn2:=dn.snoc (by lia) (KeyOrd.kle_of_klt e);refine zB (fun hq=>?_) (fun hq=>?_)
      ·refine wpS_bind (WA (wpS_pure ⟨k3.mirror (by lia) (by lia) (by lia),0,rfl,dn2.same (KK_mirror_equal (by lia) qe),by lia,fun i a1 a2=>by congr 1;lia⟩))
      ·exact wpS_pure ⟨k3,0,rfl,dn2,by lia,fun i a1 a2=>by congr 1;lia⟩
     | false =>
      simp only [Bool.false_eq_true,if_false];refine wpS_bind (qh hC k3.good (hGk _ k3) (by lia) (by lia) ?_);cases e2:κ.blt (KK κ (arrOf st3) (lo+x-1)) (KK κ (arrOf st3) (lo+x)) with
      | true =>
       simp only [if_true];exact wpS_pure ⟨k3,x,q,rfl,hx1,by lia,dn,q1,qe⟩
      | false =>
       simp only [Bool.false_eq_true,if_false];have ee:KK κ (arrOf st3) (lo+x)=KK κ (arrOf st3) (lo+x-1):=KeyOrd.kle_antisymm e2 e;refine wpS_pure ⟨k3,q+1,rfl,dn.snoc (by lia) e2,by lia,fun i a1 a2=>?_⟩
       rw [show lo+(x+1)-1=lo+x by lia]
       by_cases ei:i=lo+x
       ·subst ei;rfl
       ·rw [ee];exact qe i (by lia) (by lia)
    ·rintro c st3 ⟨k3,q,rfl,dn,q1,qe⟩;have e:max (n+1) nrem=nrem:=by lia
     rw [e] at dn q1 qe ⊢;exact ⟨k3,nrem,q,rfl,by lia,Nat.le_refl _,dn,q1,qe⟩
    ·rintro c st3 ⟨k3,n',q,rfl,w1,w2,dn,q1,qe⟩;dsimp only;have hz:=k3.size;refine zB (fun hq=>?_) (fun hq=>?_)
     ·have kq:=k3.mirror (lo:=lo) (i:=lo+n'-(q+1)) (j:=lo+n') (d:=(lo+n'-(lo+n'-(q+1)))/2) (by lia) (by lia) (by lia);have dq:Down κ (arrOf (setArr st3 (mirror (arrOf st3) (lo+n'-(q+1)) (lo+n') ((lo+n'-(lo+n'-(q+1)))/2)))) lo n':=dn.same (KK_mirror_equal (by lia) qe);refine wpS_bind (WA ?_);refine wpS_bind (WA ?_);have kz:=kq.mirror (lo:=lo) (i:=lo) (j:=lo+n') (d:=(lo+n'-lo)/2) (Nat.le_refl _) (by rw [kq.size];lia) (by lia);have uz:=dq.flip (by rw [kq.size];lia);have nz:=kq.size;refine wpS_bind (wpS_mono (wpS_forRange (I:=fun x c st4=>st4=setArr (setArr st3 (mirror (arrOf st3) (lo+n'-(q+1)) (lo+n') ((lo+n'-(lo+n'-(q+1)))/2))) (mirror (arrOf (setArr st3 (mirror (arrOf st3) (lo+n'-(q+1)) (lo+n') ((lo+n'-(lo+n'-(q+1)))/2)))) lo (lo+n') ((lo+n'-lo)/2))/\c=(none,x)/\Up κ (arrOf st4) lo x)
       (Q:=fun c st4=>st4=setArr (setArr st3 (mirror (arrOf st3) (lo+n'-(q+1)) (lo+n') ((lo+n'-(lo+n'-(q+1)))/2))) (mirror (arrOf (setArr st3 (mirror (arrOf st3) (lo+n'-(q+1)) (lo+n') ((lo+n'-(lo+n'-(q+1)))/2)))) lo (lo+n') ((lo+n'-lo)/2))/\∃ m,c=(none,m)/\1<=m/\m<=nrem/\Up κ (arrOf st4) lo m) ?_ ?_ ⟨rfl,rfl,uz⟩) ?_)
      ·rintro x c st4 hx1 hx2 ⟨rfl,rfl,up⟩;dsimp only;refine wpS_bind (qh hC kz.good (hGk _ kz) (by rw [kz.size];lia) (by rw [kz.size];lia) ?_);generalize eb:κ.blt _ _=bb;cases bb with
       | true =>
        simp only [if_true];exact wpS_pure ⟨rfl,x,rfl,by lia,by lia,up⟩
       | false =>
        simp only [Bool.false_eq_true,if_false];exact wpS_pure ⟨rfl,rfl,up.snoc (by lia) eb⟩
      ·rintro c st4 ⟨rfl,rfl,up⟩;have e:max n' nrem=nrem:=by lia
       rw [e] at up ⊢;exact ⟨rfl,nrem,rfl,h1,Nat.le_refl _,up⟩
      ·rintro c st4 ⟨rfl,m,rfl,m1,m2,up⟩;exact wpS_pure (h m _ kz m1 m2 up)
     ·skip
      refine wpS_bind (WA ?_);have kz:=k3.mirror (lo:=lo) (i:=lo) (j:=lo+n') (d:=(lo+n'-lo)/2) (Nat.le_refl _) (by rw [k3.size];lia) (by lia);have uz:=dn.flip (by rw [k3.size];lia);have nz:=k3.size;refine wpS_bind (wpS_mono (wpS_forRange (I:=fun x c st4=>st4=setArr st3 (mirror (arrOf st3) lo (lo+n') ((lo+n'-lo)/2))/\c=(none,x)/\Up κ (arrOf st4) lo x)
       (Q:=fun c st4=>st4=setArr st3 (mirror (arrOf st3) lo (lo+n') ((lo+n'-lo)/2))/\∃ m,c=(none,m)/\1<=m/\m<=nrem/\Up κ (arrOf st4) lo m) ?_ ?_ ⟨rfl,rfl,uz⟩) ?_)
      ·rintro x c st4 hx1 hx2 ⟨rfl,rfl,up⟩;dsimp only;refine wpS_bind (qh hC kz.good (hGk _ kz) (by rw [kz.size];lia) (by rw [kz.size];lia) ?_);generalize eb:κ.blt _ _=bb;cases bb with
       | true =>
        simp only [if_true];exact wpS_pure ⟨rfl,x,rfl,by lia,by lia,up⟩
       | false =>
        simp only [Bool.false_eq_true,if_false];exact wpS_pure ⟨rfl,rfl,up.snoc (by lia) eb⟩
      ·rintro c st4 ⟨rfl,rfl,up⟩;have e:max n' nrem=nrem:=by lia
       rw [e] at up ⊢;exact ⟨rfl,nrem,rfl,h1,Nat.le_refl _,up⟩
      ·rintro c st4 ⟨rfl,m,rfl,m1,m2,up⟩;exact wpS_pure (h m _ kz m1 m2 up)
  ·have e1:n=1:=by lia
   have df:Down κ (arrOf st') lo (n+1):=fun i j a1 a2 a3=>by
    subst e1
    by_cases ei:i=j
    ·subst ei;exact KeyOrd.kle_refl _
    ·have:i=lo:=by lia
     have:j=lo+1:=by lia
     subst i j;exact KeyOrd.kle_of_klt hlt
   refine wpS_bind (wpS_lift (wpAny_rule ⟨rfl,?_⟩));refine wpS_bind (wpS_mono (wpS_forRange (I:=fun x c st3=>Kin kd st' st3 lo/\∃ q,c=(none,x,q)/\Down κ (arrOf st3) lo x/\q+1<=x/\∀ i,lo+x-(q+1)<=i->i<lo+x->KK κ (arrOf st3) i=KK κ (arrOf st3) (lo+x-1))
    (Q:=fun c st3=>Kin kd st' st3 lo/\∃ x q,c=(none,x,q)/\n+1<=x/\x<=nrem/\Down κ (arrOf st3) lo x/\q+1<=x/\∀ i,lo+x-(q+1)<=i->i<lo+x->KK κ (arrOf st3) i=KK κ (arrOf st3) (lo+x-1)) ?_ ?_ ⟨(.refl hg),0,rfl,df,by lia,fun i a1 a2=>by congr 1;lia⟩) ?_)
   ·rintro x c st3 hx1 hx2 ⟨k3,q,rfl,dn,q1,qe⟩;dsimp only;have hz:=k3.size;refine wpS_bind (qh hC k3.good (hGk _ k3) (by lia) (by lia) ?_);cases e:κ.blt (KK κ (arrOf st3) (lo+x)) (KK κ (arrOf st3) (lo+x-1)) with
    | true =>
     simp only [if_true];have dn2:=dn.snoc (by lia) (KeyOrd.kle_of_klt e);refine zB (fun hq=>?_) (fun hq=>?_)
     ·refine wpS_bind (WA (wpS_pure ⟨k3.mirror (by lia) (by lia) (by lia),0,rfl,dn2.same (KK_mirror_equal (by lia) qe),by lia,fun i a1 a2=>by congr 1;lia⟩))
     ·exact wpS_pure ⟨k3,0,rfl,dn2,by lia,fun i a1 a2=>by congr 1;lia⟩
    | false =>
     simp only [Bool.false_eq_true,if_false];refine wpS_bind (qh hC k3.good (hGk _ k3) (by lia) (by lia) ?_);cases e2:κ.blt (KK κ (arrOf st3) (lo+x-1)) (KK κ (arrOf st3) (lo+x)) with
     | true =>
      simp only [if_true];exact wpS_pure ⟨k3,x,q,rfl,hx1,by lia,dn,q1,qe⟩
     | false =>
      simp only [Bool.false_eq_true,if_false];have ee:KK κ (arrOf st3) (lo+x)=KK κ (arrOf st3) (lo+x-1):=KeyOrd.kle_antisymm e2 e;refine wpS_pure ⟨k3,q+1,rfl,dn.snoc (by lia) e2,by lia,fun i a1 a2=>?_⟩
      rw [show lo+(x+1)-1=lo+x by lia]
      by_cases ei:i=lo+x
      ·subst ei;rfl
      ·rw [ee];exact qe i (by lia) (by lia)
   ·rintro c st3 ⟨k3,q,rfl,dn,q1,qe⟩;have e:max (n+1) nrem=nrem:=by lia
    rw [e] at dn q1 qe ⊢;exact ⟨k3,nrem,q,rfl,by lia,Nat.le_refl _,dn,q1,qe⟩
   ·rintro c st3 ⟨k3,n',q,rfl,w1,w2,dn,q1,qe⟩;dsimp only;have hz:=k3.size;refine zB (fun hq=>?_) (fun hq=>?_)
    ·have kq:=k3.mirror (lo:=lo) (i:=lo+n'-(q+1)) (j:=lo+n') (d:=(lo+n'-(lo+n'-(q+1)))/2) (by lia) (by lia) (by lia);have dq:Down κ (arrOf (setArr st3 (mirror (arrOf st3) (lo+n'-(q+1)) (lo+n') ((lo+n'-(lo+n'-(q+1)))/2)))) lo n':=dn.same (KK_mirror_equal (by lia) qe);refine wpS_bind (WA ?_);refine wpS_bind (WA ?_);have kz:=kq.mirror (lo:=lo) (i:=lo) (j:=lo+n') (d:=(lo+n'-lo)/2) (Nat.le_refl _) (by rw [kq.size];lia) (by lia);have uz:=dq.flip (by rw [kq.size];lia);have nz:=kq.size;refine wpS_bind (wpS_mono (wpS_forRange (I:=fun x c st4=>st4=setArr (setArr st3 (mirror (arrOf st3) (lo+n'-(q+1)) (lo+n') ((lo+n'-(lo+n'-(q+1)))/2))) (mirror (arrOf (setArr st3 (mirror (arrOf st3) (lo+n'-(q+1)) (lo+n') ((lo+n'-(lo+n'-(q+1)))/2)))) lo (lo+n') ((lo+n'-lo)/2))/\c=(none,x)/\Up κ (arrOf st4) lo x)
      (Q:=fun c st4=>st4=setArr (setArr st3 (mirror (arrOf st3) (lo+n'-(q+1)) (lo+n') ((lo+n'-(lo+n'-(q+1)))/2))) (mirror (arrOf (setArr st3 (mirror (arrOf st3) (lo+n'-(q+1)) (lo+n') ((lo+n'-(lo+n'-(q+1)))/2)))) lo (lo+n') ((lo+n'-lo)/2))/\∃ m,c=(none,m)/\1<=m/\m<=nrem/\Up κ (arrOf st4) lo m) ?_ ?_ ⟨rfl,rfl,uz⟩) ?_)
     ·rintro x c st4 hx1 hx2 ⟨rfl,rfl,up⟩;dsimp only;refine wpS_bind (qh hC kz.good (hGk _ kz) (by rw [kz.size];lia) (by rw [kz.size];lia) ?_);generalize eb:κ.blt _ _=bb;cases bb with
      | true =>
       simp only [if_true];exact wpS_pure ⟨rfl,x,rfl,by lia,by lia,up⟩
      | false =>
       simp only [Bool.false_eq_true,if_false];exact wpS_pure ⟨rfl,rfl,up.snoc (by lia) eb⟩
     ·rintro c st4 ⟨rfl,rfl,up⟩;have e:max n' nrem=nrem:=by lia
      rw [e] at up ⊢;exact ⟨rfl,nrem,rfl,h1,Nat.le_refl _,up⟩
     ·rintro c st4 ⟨rfl,m,rfl,m1,m2,up⟩;exact wpS_pure (h m _ kz m1 m2 up)
    ·skip
     refine wpS_bind (WA ?_);have kz:=k3.mirror (lo:=lo) (i:=lo) (j:=lo+n') (d:=(lo+n'-lo)/2) (Nat.le_refl _) (by rw [k3.size];lia) (by lia);have uz:=dn.flip (by rw [k3.size];lia);have nz:=k3.size;refine wpS_bind (wpS_mono (wpS_forRange (I:=fun x c st4=>st4=setArr st3 (mirror (arrOf st3) lo (lo+n') ((lo+n'-lo)/2))/\c=(none,x)/\Up κ (arrOf st4) lo x)
      (Q:=fun c st4=>st4=setArr st3 (mirror (arrOf st3) lo (lo+n') ((lo+n'-lo)/2))/\∃ m,c=(none,m)/\1<=m/\m<=nrem/\Up κ (arrOf st4) lo m) ?_ ?_ ⟨rfl,rfl,uz⟩) ?_)
     ·rintro x c st4 hx1 hx2 ⟨rfl,rfl,up⟩;dsimp only;refine wpS_bind (qh hC kz.good (hGk _ kz) (by rw [kz.size];lia) (by rw [kz.size];lia) ?_);generalize eb:κ.blt _ _=bb;cases bb with
      | true =>
       simp only [if_true];exact wpS_pure ⟨rfl,x,rfl,by lia,by lia,up⟩
      | false =>
       simp only [Bool.false_eq_true,if_false];exact wpS_pure ⟨rfl,rfl,up.snoc (by lia) eb⟩
     ·rintro c st4 ⟨rfl,rfl,up⟩;have e:max n' nrem=nrem:=by lia
      rw [e] at up ⊢;exact ⟨rfl,nrem,rfl,h1,Nat.le_refl _,up⟩
     ·rintro c st4 ⟨rfl,m,rfl,m1,m2,up⟩;exact wpS_pure (h m _ kz m1 m2 up)
theorem UY (hC:Cmp prog w A s κ kd G) {st:SortSt} (hg:qv kd st) (hG:∀ x∈(arrOf st).toList,x∈G) {lo n ok:Nat} (hn:lo+n<=(arrOf st).size) (hok:ok<=n) (hs:Up κ (arrOf st) lo ok)
  {Q:Bool->SortSt->Prop} (h:∀ st',Kin kd st st' lo->Up κ (arrOf st') lo n->Q true st'):wpS (model prog w) A E s (binarySort' lo n ok) Q st:=by
 have hGk:∀ st',Kin kd st st' lo->∀ x∈(arrOf st').toList,x∈G:=fun st' k x hx=>hG x ((Array.perm_iff_toList_perm.mp k.perm).mem_iff.mp hx)
 refine wpS_bind (wpS_mono (wpS_forRange (I:=fun k c st'=>c=(none,())/\Kin kd st st' lo/\Up κ (arrOf st') lo (min k n))
  (Q:=fun c st'=>c=(none,())/\Kin kd st st' lo/\Up κ (arrOf st') lo n) ?_ ?_ ⟨rfl,.refl hg,fun i j a1 a2 a3=>?_⟩) ?_)
 ·rintro k c st1 hk1 hk2 ⟨rfl,kin,up⟩;rw [show min k n=k by lia] at up;have hz:=kin.size;dsimp only;refine wpS_bind (wpS_mono (wpS_forRange (I:=fun x c st2=>st2=st1/\∃ l r,c=(none,l,r)/\l<=r/\r<=k/\r-l<=k-x/\(∀ i,lo<=i->i<lo+l->κ.kle (KK κ (arrOf st1) i) (KK κ (arrOf st1) (lo+k)))/\(∀ i,lo+r<=i->i<lo+k->κ.klt (KK κ (arrOf st1) (lo+k)) (KK κ (arrOf st1) i)))
   (Q:=fun c st2=>st2=st1/\∃ l,c=(none,l,l)/\l<=k/\(∀ i,lo<=i->i<lo+l->κ.kle (KK κ (arrOf st1) i) (KK κ (arrOf st1) (lo+k)))/\(∀ i,lo+l<=i->i<lo+k->κ.klt (KK κ (arrOf st1) (lo+k)) (KK κ (arrOf st1) i))) ?_ ?_ ⟨rfl,0,k,rfl,by lia,by lia,by lia,fun i a1 a2=>by lia,fun i a1 a2=>by lia⟩) ?_)
  ·rintro x c st2 _ hx ⟨rfl,l,r,rfl,b1,b2,b3,b4,b5⟩;dsimp only;refine zB (fun hge=>?_) (fun hge=>?_)
   ·have:l=r:=by lia
    subst this;exact wpS_pure ⟨rfl,l,rfl,b2,b4,b5⟩
   ·refine wpS_bind (qh hC kin.good (hGk _ kin) (by lia) (by lia) ?_);cases e:κ.blt (KK κ (arrOf st2) (lo+k)) (KK κ (arrOf st2) (lo+(l+r)/2)) with
    | true =>
     simp only [if_true];exact wpS_pure ⟨rfl,l,(l+r)/2,rfl,by lia,by lia,by lia,b4,fun i a1 a2=>KeyOrd.klt_of_klt_of_kle e (up _ i (by lia) a1 a2)⟩
    | false =>
     simp only [Bool.false_eq_true,if_false];exact wpS_pure ⟨rfl,(l+r)/2+1,r,rfl,by lia,by lia,by lia,fun i a1 a2=>KeyOrd.kle_trans (up i (lo+(l+r)/2) a1 (by lia) (by lia)) e,b5⟩
  ·rintro c st2 ⟨rfl,l,r,rfl,b1,b2,b3,b4,b5⟩;have:l=r:=by lia
   subst this;exact ⟨rfl,l,rfl,b2,b4,b5⟩
  ·rintro c st2 ⟨rfl,l,rfl,b2,b4,b5⟩;dsimp only;show wpS _ _ _ _ (bind (moveDown' (lo+k) (lo+l)) _) _ _;rw [moveDown'_eq];refine wpS_bind (wpS_modify (wpS_pure ⟨rfl,kin.bubble (by lia) (by lia),fun i j a1 a2 a3=>?_⟩))
   rw [show min (k+1) n=k+1 by lia] at a3;show κ.kle (KK κ (bubble (arrOf st2) (lo+k) (lo+k-(lo+l))) i) (KK κ (bubble (arrOf st2) (lo+k) (lo+k-(lo+l))) j);have hsz:lo+k<(arrOf st2).size:=by lia
   rw [KK_bubble hsz (by lia),KK_bubble hsz (by lia),show lo+k-(lo+k-(lo+l))=lo+l by lia]
   repeat' split
   all_goals first
    | (exfalso;lia)
    | exact KeyOrd.kle_refl _
    | exact b4 _ (by lia) (by lia)
    | exact KeyOrd.kle_of_klt (b5 _ (by lia) (by lia))
    | exact up _ _ (by lia) (by lia) (by lia)
 ·rintro c st1 ⟨hc,kin,up⟩;rw [show min (max (max ok 1) n) n=n by lia] at up;exact ⟨hc,kin,up⟩
 ·by_cases z:ok=0
  ·have:i=j:=by lia
   subst this;exact KeyOrd.kle_refl _
  ·exact hs i j a1 a2 (by lia)
 ·rintro c st1 ⟨rfl,kin,up⟩;exact wpS_pure (h st1 kin up)
end
def Seg (l:List Keyed) (i n:Nat):List Keyed:=(l.drop i).take n
section
variable {κ:KeyKind}
theorem qY {l:List Keyed} {i n:Nat} (h:i+n<=l.length):(Seg l i n).length=n:=by simp [Seg];lia
theorem Zd (l:List Keyed) (i n k:Nat) (hk:k<=n):Seg l i n=Seg l i k++Seg l (i+k) (n-k):=by
 unfold Seg;rw [um (l.drop i) hk,List.drop_drop]
theorem BR (l:List Keyed) (i n m:Nat):Seg l i (n+m)=Seg l i n++Seg l (i+n) m:=by
 have:=Zd l i (n+m) n (by lia)
 rwa [Nat.add_sub_cancel_left] at this
theorem KD {left:Bool} {key:Keyed} {arr:Array Keyed} {base k n:Nat} (hn:base+n<=arr.size) (k1:k<=n) (k2:∀ i,i<k->bey κ left key arr base i=true):∀ x∈Seg arr.toList base k,le κ x key:=by
 cases left with
 | true=>exact qr (by lia) k2
 | false=>exact qt (by lia) k2
theorem KF {left:Bool} {key:Keyed} {arr:Array Keyed} {base k n:Nat} (hn:base+n<=arr.size) (k3:∀ i,k<=i->i<n->bey κ left key arr base i=false):∀ x∈Seg arr.toList (base+k) (n-k),le κ key x:=by
 intro x hx;unfold Seg at hx;obtain ⟨i,hi,rfl⟩:=List.getElem_of_mem hx;have hin:k+i<n:=by simp at hi;lia
 have hb:base+(k+i)<arr.size:=by lia
 have:=k3 (k+i) (by lia) hin;unfold bey at this;rw [getElem?_pos arr _ hb] at this;cases left with
 | true=>simpa [le,KeyOrd.kle,Nat.add_assoc] using this
 | false =>
  have h2:κ.blt (kk κ key) (kk κ arr[base+(k+i)])=true:=by simpa using this
  have h3:=KeyOrd.kle_of_klt h2;simpa [le,Nat.add_assoc] using h3
theorem MA {arr:Array Keyed} {i n:Nat} (hn:0<n) (h:i+n<=arr.size) (hs:(Seg arr.toList i n).Pairwise (le κ)):∀ x∈Seg arr.toList i n,le κ arr[i] x:=by
 intro x hx;unfold Seg at hx hs;obtain ⟨j,hj,rfl⟩:=List.getElem_of_mem hx;have:=jx hs (i:=0) (j:=j) (by lia) hj;simpa using this
theorem Mz {arr:Array Keyed} {i n:Nat} (hn:0<n) (h:i+n<=arr.size) (hs:(Seg arr.toList i n).Pairwise (le κ)):∀ x∈Seg arr.toList i n,le κ x arr[i+n-1]:=by
 intro x hx;unfold Seg at hx hs;obtain ⟨j,hj,rfl⟩:=List.getElem_of_mem hx;have hj':j<n:=by simp at hj;lia
 have:=jx hs (i:=j) (j:=n-1) (by lia) (by simp;lia);simp only [List.getElem_take,List.getElem_drop] at this ⊢;have e:i+n-1=i+(n-1):=by lia
 simpa [e] using this
theorem BD {M:Model} {A:Around} {E:Value->Shared->Prop} {s:Shared} {st x:SortSt} {Q:PUnit->SortSt->Prop} (h:Q ⟨⟩ x):wpS M A E s (set x:StateT SortSt Sem PUnit) Q st:=by
 unfold wpS;rw [StateT.run_set];exact jP ⟨rfl,h⟩
theorem Yj (o:Nat):∀ (m:List Keyed) (k:Nat) (arr:Array Keyed),o+k+m.length<=arr.size ->
  ((m.zipIdx k).foldl (fun a (x:Keyed×Nat)=>match x with | (p,j)=>a.setIfInBounds (o+j) p) arr).toList=arr.toList.take (o+k)++m++arr.toList.drop (o+k+m.length)
 | [],k,arr,_=>by simp
 | p::m,k,arr,h=>by
  rw [List.zipIdx_cons,List.foldl_cons];have hl:o+k<arr.size:=by simp at h;lia
  have ih:=Yj o m (k+1) (arr.setIfInBounds (o+k) p) (by simp at h ⊢;lia);rw [ih];have e:(arr.setIfInBounds (o+k) p).toList=arr.toList.take (o+k)++p::arr.toList.drop (o+k+1):=by
   rw [Array.toList_setIfInBounds,List.set_eq_take_append_cons_drop];simp [hl]
  have hlen:(arr.toList.take (o+k)).length=o+k:=by simp;lia
  have e1:(arr.toList.take (o+k)++p::arr.toList.drop (o+k+1)).take (o+(k+1))=arr.toList.take (o+k)++[p]:=by
   rw [List.take_append,hlen,List.take_of_length_le (by lia),show o+(k+1)-(o+k)=1 by lia];rfl
  have e2:(arr.toList.take (o+k)++p::arr.toList.drop (o+k+1)).drop (o+(k+1)+m.length)=arr.toList.drop (o+k+(p::m).length):=by
   rw [List.drop_append,hlen,List.drop_of_length_le (by lia),List.nil_append,show o+(k+1)+m.length-(o+k)=m.length+1 by lia,List.drop_succ_cons,List.drop_drop];congr 1;simp;lia
  rw [e,e1,e2];simp
theorem Va {α:Type} {l:List α} {y:α} (h:y∈l.take 1) (h0:0<l.length):y=l[0]:=by
 cases l with
 | nil=>simp at h0
 | cons z zs=>simpa using h
theorem MZ {arr:List Keyed} {i n:Nat} {M:List Keyed} (h:M.Perm (Seg arr i n)):(arr.take i++M++arr.drop (i+n)).Perm arr:=by
 have e:arr=arr.take i++Seg arr i n++arr.drop (i+n):=by
  unfold Seg;rw [<- List.drop_drop,List.append_assoc,List.take_append_drop,List.take_append_drop]
 conv=>rhs;rw [e]
 exact List.Perm.append_right _ (List.Perm.append_left _ h)
end
section
variable {prog:Program} {w:World} {A:Around} {E:Value->Shared->Prop} {s:Shared} {κ:KeyKind} {kd:SortKind} {G:List Keyed}
theorem NA (hC:Cmp prog w A s κ kd G) {st:SortSt} (hg:qv kd st) (hG:∀ x∈(arrOf st).toList,x∈G) {i sa na pa nb pb:Nat} (pi:(pendingOf st)[i]?=some (sa,na,pa)) (pj:(pendingOf st)[i+1]?=some (sa+na,nb,pb))
  (za:0<na) (zb:0<nb) (hz:sa+na+nb<=(arrOf st).size) (ra:(Seg (arrOf st).toList sa na).Pairwise (le κ)) (rb:(Seg (arrOf st).toList (sa+na) nb).Pairwise (le κ))
  {Q:Bool->SortSt->Prop} (h:∀ st' M,qv kd st'->pendingOf st'=((pendingOf st).setIfInBounds i (sa,na+nb,pa)).eraseIdxIfInBounds (i+1)->M.Perm (Seg (arrOf st).toList sa (na+nb))->M.Pairwise (le κ) ->
   (arrOf st').toList=(arrOf st).toList.take sa++M++(arrOf st).toList.drop (sa+(na+nb))->Q true st'):wpS (model prog w) A E s (mergeAt' i) Q st:=by
 obtain ⟨kd0,xs,P0,g0,f0⟩:=st
 replace hg:kd0=kd/\f0=none:=hg
 replace hG:∀ x∈xs.toList,x∈G:=hG
 replace pi:P0[i]?=some (sa,na,pa):=pi
 replace pj:P0[i+1]?=some (sa+na,nb,pb):=pj
 replace hz:sa+na+nb<=xs.size:=hz
 replace ra:(Seg xs.toList sa na).Pairwise (le κ):=ra
 replace rb:(Seg xs.toList (sa+na) nb).Pairwise (le κ):=rb
 replace h:∀ st' M,qv kd st'->pendingOf st'=(P0.setIfInBounds i (sa,na+nb,pa)).eraseIdxIfInBounds (i+1)->M.Perm (Seg xs.toList sa (na+nb))->M.Pairwise (le κ) ->
   (arrOf st').toList=xs.toList.take sa++M++xs.toList.drop (sa+(na+nb))->Q true st':=h
 refine wpS_bind (wpS_get ?_);dsimp only;rw [pi,pj];dsimp only;generalize hP:(P0.setIfInBounds i (sa,na+nb,pa)).eraseIdxIfInBounds (i+1)=P at *;refine wpS_bind (BD ?_);have hg1:qv kd (SortSt.mk' kd0 xs P g0 f0):=hg;have ha1:arrOf (SortSt.mk' kd0 xs P g0 f0)=xs:=rfl;have hp1:pendingOf (SortSt.mk' kd0 xs P g0 f0)=P:=rfl;show wpS _ _ _ _ _ Q (SortSt.mk' kd0 xs P g0 f0);generalize hst1:SortSt.mk' kd0 xs P g0 f0=st1 at *;have hsb:sa+na<xs.size:=by lia
 have split1:=BR xs.toList sa na nb;have asis:∀ {st':SortSt},arrOf st'=xs->xs.toList.take sa++Seg xs.toList sa (na+nb)++xs.toList.drop (sa+(na+nb))=(arrOf st').toList:=fun {st'} e=>by
  rw [e];unfold Seg;rw [<- List.drop_drop,List.append_assoc,List.take_append_drop,List.take_append_drop]
 refine wpS_bind (yP hsb ?_);refine wpS_bind (uG (n:=na) (hint:=0) hC hg1 (hG xs[sa+na] (by simp)) hG (by lia) za (vB (.inr ra) (by lia)) fun k k1 k2 k3=>?_)
 dsimp only;have b0:=MA zb (by lia) rb;have kA:∀ x∈Seg xs.toList sa k,le κ x xs[sa+na]:=KD (n:=na) (by lia) k1 k2;have kB:∀ x∈Seg xs.toList (sa+k) (na-k),le κ xs[sa+na] x:=KF (n:=na) (by lia) k3;have sA:=Zd xs.toList sa na k k1;refine zB (fun c1=>?_) (fun c1=>?_)
 ·have c1' : k = na := by have : na - k = 0 := by simpa using c1
                          lia
  subst c1';refine wpS_pure (h st1 _ hg1 hp1 (List.Perm.refl _) ?_ (asis ha1).symm);rw [split1];exact List.pairwise_append.mpr ⟨ra,rb,fun x hx y hy=>le_trans (kA x hx) (b0 y hy)⟩
 have c1':¬ na-k=0:=by simpa using c1
 have elast:sa+k+(na-k)-1=sa+na-1:=by lia
 rw [elast];have hlast:sa+na-1<xs.size:=Nat.lt_of_le_of_lt (Nat.sub_le _ _) hsb;refine wpS_bind (yP hlast ?_);refine wpS_bind (uG (n:=nb) (hint:=nb-1) hC hg1 (hG xs[sa+na-1] (by simp)) hG (by lia) (by lia) (vB (.inr rb) (by lia)) fun q q1 q2 q3=>?_)
 dsimp only;have aL:=Mz za (by lia) ra;have qA:∀ x∈Seg xs.toList (sa+na) q,le κ x xs[sa+na-1]:=KD (n:=nb) (by lia) q1 q2;have qB:∀ x∈Seg xs.toList (sa+na+q) (nb-q),le κ xs[sa+na-1] x:=KF (n:=nb) (by lia) q3;have sB:=Zd xs.toList (sa+na) nb q q1;refine zB (fun c2=>?_) (fun c2=>?_)
 ·have c2':q=0:=by simpa using c2
  subst c2';refine wpS_pure (h st1 _ hg1 hp1 (List.Perm.refl _) ?_ (asis ha1).symm);rw [split1];exact List.pairwise_append.mpr ⟨ra,rb,fun x hx y hy=>le_trans (aL x hx) (qB y (by simpa using hy))⟩
 have c2':¬ q=0:=by simpa using c2
 have eX:(xs.extract (sa+k) (sa+na)).toList=Seg xs.toList (sa+k) (na-k):=by
  rw [qG];unfold Seg;congr 1;lia
 have eY:(xs.extract (sa+na) (sa+na+q)).toList=Seg xs.toList (sa+na) q:=by
  rw [qG];unfold Seg;congr 1;lia
 have lX:(xs.extract (sa+k) (sa+na)).size=na-k:=by rw [Array.size_extract,Nat.min_eq_left (by lia)];lia
 have lY:(xs.extract (sa+na) (sa+na+q)).size=q:=by simp;lia
 rw [sA] at ra aL;rw [sB] at rb b0;obtain ⟨ra1,ra2,ra3⟩:=List.pairwise_append.mp ra;obtain ⟨rb1,rb2,rb3⟩:=List.pairwise_append.mp rb;have subX:∀ x∈(xs.extract (sa+k) (sa+na)).toList,x∈G:=fun x hx=>by
  rw [eX] at hx;exact hG x (List.mem_of_mem_drop (List.mem_of_mem_take hx))
 have subY:∀ x∈(xs.extract (sa+na) (sa+na+q)).toList,x∈G:=fun x hx=>by
  rw [eY] at hx;exact hG x (List.mem_of_mem_drop (List.mem_of_mem_take hx))
 have y0:(xs.extract (sa+na) (sa+na+q))[0]'(by lia)=xs[sa+na]:=by simp
 have xl:(xs.extract (sa+k) (sa+na))[(xs.extract (sa+k) (sa+na)).size-1]'(by lia)=xs[sa+na-1]:=by
  simp only [Array.getElem_extract];congr 1;lia
 have done:∀ (r:Array Keyed) (st2:SortSt),Mg κ (xs.extract (sa+k) (sa+na)) (xs.extract (sa+na) (sa+na+q)) r->Alike kd st1 st2 ->
   Q true (SortSt.mk' (kindOf st2) (r.toList.zipIdx.foldl (fun a (x:Keyed×Nat)=>match x with | (p,j)=>a.setIfInBounds (sa+k+j) p) (arrOf st2)) (pendingOf st2) (gallopOf st2) (failedOf st2)):=by
  intro r st2 ⟨mp,ms⟩ al;rw [eX,eY] at mp;have ea:arrOf st2=xs:=by rw [al.1,ha1]
  have lr:r.toList.length=(na-k)+q:=by
   rw [mp.length_eq,List.length_append,qY (by simp;lia),qY (by simp;lia)]
  refine h _ (Seg xs.toList sa k++r.toList++Seg xs.toList (sa+na+q) (nb-q)) al.2.2 (by rw [<- hp1];exact al.2.1) ?_ ?_ ?_
  ·rw [split1,sA,sB,List.append_assoc,List.append_assoc];refine List.Perm.append_left _ ?_;rw [<- List.append_assoc];exact List.Perm.append_right _ mp
  ·have inr:∀ z,z∈r.toList->z∈Seg xs.toList (sa+k) (na-k)\/z∈Seg xs.toList (sa+na) q:=fun z hz=>List.mem_append.mp (mp.mem_iff.mp hz)
   rw [List.append_assoc,List.pairwise_append];refine ⟨ra1,List.pairwise_append.mpr ⟨ms,rb2,fun x hx y hy=>?_⟩,fun x hx y hy=>?_⟩
   ·rcases inr x hx with hx | hx
    ·exact le_trans (aL x (List.mem_append_right _ hx)) (qB y hy)
    ·exact rb3 x hx y hy
   ·rcases List.mem_append.mp hy with hy | hy
    ·rcases inr y hy with hy | hy
     ·exact ra3 x hx y hy
     ·exact le_trans (kA x hx) (b0 y (List.mem_append_left _ hy))
    ·exact le_trans (kA x hx) (b0 y (List.mem_append_right _ hy))
  ·show (r.toList.zipIdx.foldl _ (arrOf st2)).toList=_;rw [ea,Yj (sa+k) r.toList 0 xs (by rw [lr];lia),lr];have e1:xs.toList.take (sa+k+0)=xs.toList.take sa++Seg xs.toList sa k:=by
    rw [Nat.add_zero,um xs.toList (show sa<=sa+k by lia),Nat.add_sub_cancel_left];rfl
   have e2:xs.toList.drop (sa+k+0+(na-k+q))=Seg xs.toList (sa+na+q) (nb-q)++xs.toList.drop (sa+(na+nb)):=by
    unfold Seg;rw [show sa+k+0+(na-k+q)=sa+na+q by lia,show sa+(na+nb)=sa+na+q+(nb-q) by lia];have:=List.take_append_drop (nb-q) (xs.toList.drop (sa+na+q));rw [List.drop_drop] at this;exact this.symm
   rw [e1,e2];simp only [List.append_assoc]
 have first:∀ x∈(xs.extract (sa+k) (sa+na)).toList,le κ xs[sa+na] x:=fun x hx=>kB x (by rwa [eX] at hx)
 have lastY:∀ y∈(xs.extract (sa+na) (sa+na+q)).toList,le κ y xs[sa+na-1]:=fun y hy=>qA y (by rwa [eY] at hy)
 refine zB (fun _=>?_) (fun _=>?_)
 ·refine wpS_bind (Nw hC hg1 subX subY (by rw [eX];exact ra2) (by rw [eY];exact rb1) (by lia) (by lia) (by rw [y0];exact first) (fun y hy x hx=>?_) fun r st2 mr al=>?_)
  ·have:x=xs[sa+na-1]:=by
    rw [List.drop_eq_getElem_cons (by rw [Array.length_toList,lX];lia)] at hx;have hx':=List.mem_cons.mp hx
    rcases hx' with hx' | hx'
    ·rw [hx',<- xl];simp
    ·rw [List.drop_of_length_le (by rw [Array.length_toList,lX];lia)] at hx';cases hx'
   rw [this];exact lastY y hy
  ·refine wpS_bind (wpS_modify (wpS_bind (wpS_get (wpS_pure ?_))));have:=done r st2 mr al;obtain ⟨_,_,_,_,f2⟩:=st2;have hf:f2=none:=al.2.2.2;subst hf;exact this
 ·refine wpS_bind (Ny hC hg1 subX subY (by rw [eX];exact ra2) (by rw [eY];exact rb1) (by lia) (by lia) (fun x hx y hy=>?_) (by rw [xl];exact lastY) fun r st2 mr al=>?_)
  ·have:y=xs[sa+na]:=by
    have hne:0<(xs.extract (sa+na) (sa+na+q)).toList.length:=by simp;lia
    have hy':=Va hy hne;rw [hy',Array.getElem_toList];exact y0
   rw [this];exact first x hx
  ·refine wpS_bind (wpS_modify (wpS_bind (wpS_get (wpS_pure ?_))));have:=done r st2 mr al;obtain ⟨_,_,_,_,f2⟩:=st2;have hf:f2=none:=al.2.2.2;subst hf;exact this
end
def Chain (κ:KeyKind) (l:List Keyed):Nat->List (Nat×Nat×Nat)->Nat->Prop
 | i,[],j=>i=j
 | i,(a,n,_)::r,j=>a=i/\0<n/\(Seg l i n).Pairwise (le κ)/\Chain κ l (i+n) r j
section
variable {κ:KeyKind} {l l':List Keyed}
theorem Chain.append:∀ {p q:List (Nat×Nat×Nat)} {i j:Nat},Chain κ l i (p++q) j↔∃ m,Chain κ l i p m/\Chain κ l m q j
 | [],q,i,j=>by simp [Chain]
 | (a,n,x)::p,q,i,j=>by
  simp only [List.cons_append,Chain,Chain.append (p:=p)]
  constructor
  ·rintro ⟨h1,h2,h3,m,h4,h5⟩;exact ⟨m,⟨h1,h2,h3,h4⟩,h5⟩
  ·rintro ⟨m,⟨h1,h2,h3,h4⟩,h5⟩;exact ⟨h1,h2,h3,m,h4,h5⟩
theorem Chain.len:∀ {p:List (Nat×Nat×Nat)} {i j:Nat},Chain κ l i p j->i+p.length<=j
 | [],i,j,h=>by have:i=j:=h;simp;lia
 | (a,n,x)::p,i,j,h=>by
  obtain ⟨_,h2,_,h4⟩:=h;have:=h4.len;simp;lia
theorem Chain.congr:∀ {p:List (Nat×Nat×Nat)} {i j:Nat},Chain κ l i p j->(∀ k n,i<=k->k+n<=j->Seg l' k n=Seg l k n)->Chain κ l' i p j
 | [],_,_,h,_=>h
 | (a,n,x)::p,i,j,⟨h1,h2,h3,h4⟩,e=>by
  have:=h4.len;refine ⟨h1,h2,?_,h4.congr fun k m a1 a2=>e k m (by lia) a2⟩
  rw [e i n (Nat.le_refl _) (by lia)];exact h3
theorem Chain.modify {f:Nat×Nat×Nat->Nat×Nat×Nat} (hf:∀ x,(f x).1=x.1/\(f x).2.1=x.2.1):∀ {p:List (Nat×Nat×Nat)} {i j:Nat} (k:Nat),Chain κ l i p j->Chain κ l i (p.modify k f) j
 | [],i,j,k,h=>by simpa using h
 | (a,n,x)::p,i,j,0,⟨h1,h2,h3,h4⟩=>by
  obtain ⟨e1,e2⟩:=hf (a,n,x);rw [List.modify_zero_cons];generalize f (a,n,x)=y at *;obtain ⟨y1,y2,y3⟩:=y;dsimp only at e1 e2;subst e1 e2;exact ⟨h1,h2,h3,h4⟩
 | (a,n,x)::p,i,j,k+1,⟨h1,h2,h3,h4⟩=>by
  rw [List.modify_succ_cons];exact ⟨h1,h2,h3,h4.modify hf k⟩
theorem BQ {l M D:List Keyed} {a k n:Nat} (ha:a<=l.length) (h:k+n<=a):Seg (l.take a++M++D) k n=Seg l k n:=by
 unfold Seg;rw [List.append_assoc,List.drop_append_of_le_length (by simp;lia),List.take_append_of_le_length (by simp;lia),List.drop_take,List.take_take];congr 1
 lia
theorem VL {l M:List Keyed} {a e k n:Nat} (ha:a<=e) (he:e<=l.length) (hM:M.length=e-a) (h:e<=k):Seg (l.take a++M++l.drop e) k n=Seg l k n:=by
 unfold Seg;have hl:(l.take a++M).length=e:=by simp [hM];lia
 rw [List.drop_append,hl,List.drop_of_length_le (by lia),List.nil_append,List.drop_drop];congr 2
 lia
theorem Mf {xs:Array Keyed} {lo m:Nat} (hz:lo+m<=xs.size) (h:Up κ xs lo m):(Seg xs.toList lo m).Pairwise (le κ):=by
 show List.Pairwise (le κ) ((xs.toList.drop lo).take m);rw [List.pairwise_iff_getElem];intro i j hi hj hij;have hj':j<m:=by simp at hj;lia
 have:=h (lo+i) (lo+j) (by lia) (by lia) (by lia);rw [KL (by lia),KL (by lia)] at this;rw [List.getElem_take,List.getElem_take,List.getElem_drop,List.getElem_drop,Array.getElem_toList,Array.getElem_toList];exact this
theorem Yp {xs ys:Array Keyed} {lo k n:Nat} (h:∀ i,i<lo->ys[i]?=xs[i]?) (hk:k+n<=lo):Seg ys.toList k n=Seg xs.toList k n:=by
 apply List.ext_getElem?;intro i;unfold Seg
 by_cases hi:i<n
 ·rw [List.getElem?_take_of_lt hi,List.getElem?_take_of_lt hi,List.getElem?_drop,List.getElem?_drop];have:=h (k+i) (by lia);simpa using this
 ·rw [List.getElem?_eq_none (by simp;lia),List.getElem?_eq_none (by simp;lia)]
theorem GO {α:Type} (p q:List α) (a b x:α):((p++a::b::q).set p.length x).eraseIdx (p.length+1)=p++x::q:=by
 induction p with
 | nil=>simp
 | cons y p ih=>simpa using ih
end
section
variable {prog:Program} {w:World} {A:Around} {E:Value->Shared->Prop} {s:Shared} {κ:KeyKind} {kd:SortKind} {a₀:Array Keyed}
structure RI (κ:KeyKind) (kd:SortKind) (a₀:Array Keyed) (st:SortSt) (lo:Nat):Prop where
 good:qv kd st
 perm:(arrOf st).Perm a₀
 chain:Chain κ (arrOf st).toList 0 (pendingOf st).toList lo
 top:lo<=a₀.size
theorem RI.size {st:SortSt} {lo:Nat} (h:RI κ kd a₀ st lo):(arrOf st).size=a₀.size:=h.perm.size_eq
theorem WZ (hC:Cmp prog w A s κ kd a₀.toList) {st:SortSt} {lo i:Nat} (h:RI κ kd a₀ st lo) (hi:i+1<(pendingOf st).size) {Q:Bool->SortSt->Prop}
  (hQ:∀ st',RI κ kd a₀ st' lo->(pendingOf st').size+1=(pendingOf st).size->(∀ k n,lo<=k->Seg (arrOf st').toList k n=Seg (arrOf st).toList k n)->Q true st'):wpS (model prog w) A E s (mergeAt' i) Q st:=by
 have hG:∀ x∈(arrOf st).toList,x∈a₀.toList:=fun x hx=>(Array.perm_iff_toList_perm.mp h.perm).mem_iff.mp hx
 have hil:i<(pendingOf st).toList.length:=by simp;lia
 have hil2:i+1<(pendingOf st).toList.length:=by simpa using hi
 generalize hp:(pendingOf st).toList.take i=p;generalize hq:(pendingOf st).toList.drop (i+2)=q;generalize ea:(pendingOf st).toList[i]=ra;generalize eb:(pendingOf st).toList[i+1]=rb;have split:(pendingOf st).toList=p++ra::rb::q:=by
  rw [<- hp,<- hq,<- ea,<- eb,<- List.drop_eq_getElem_cons hil2,<- List.drop_eq_getElem_cons hil,List.take_append_drop]
 have hpl:p.length=i:=by rw [<- hp];simp;lia
 obtain ⟨sa,na,pa⟩:=ra;obtain ⟨sb,nb,pb⟩:=rb;have ch:=h.chain;rw [split] at ch;obtain ⟨m,c1,c2⟩:=Chain.append.mp ch;obtain ⟨e1,za,sA,e2,zb,sB,c3⟩:=c2;subst e1 e2;have l3:=c3.len;have hz:=h.size;have ht:=h.top;have g1:(pendingOf st)[i]?=some (sa,na,pa):=by
  rw [<- Array.getElem?_toList,split,<- hpl];simp
 have g2:(pendingOf st)[i+1]?=some (sa+na,nb,pb):=by
  rw [<- Array.getElem?_toList,split,<- hpl,List.getElem?_append_right (by lia)];simp
 refine NA hC h.good hG g1 g2 za zb (by lia) sA sB fun st' M gd pe mp ms al=>?_
 have lM:M.length=sa+(na+nb)-sa:=by rw [mp.length_eq,qY (by simp;lia)];lia
 have pl:(pendingOf st').toList=p++(sa,na+nb,pa)::q:=by
  rw [pe,Array.toList_eraseIdxIfInBounds,Array.toList_setIfInBounds,split,<- hpl,GO]
 have la:(arrOf st).toList.length=a₀.size:=by simpa using hz
 refine hQ st' ⟨gd,?_,?_,ht⟩ ?_ fun k n hk=>?_
 ·refine Array.Perm.trans (Array.perm_iff_toList_perm.mpr ?_) h.perm;rw [al];exact MZ mp
 ·rw [pl,Chain.append];refine ⟨sa,c1.congr fun k n a1 a2=>?_,rfl,by lia,?_,?_⟩
  ·rw [al];exact BQ (by lia) a2
  ·have:Seg (arrOf st').toList sa (na+nb)=M:=by
    rw [al];unfold Seg;rw [List.append_assoc,List.drop_append_of_le_length (by simp;lia),List.drop_of_length_le (by simp;lia),List.nil_append,List.take_append_of_le_length (by lia),List.take_of_length_le (by lia)]
   rw [this];exact ms
  ·have e:sa+(na+nb)=sa+na+nb:=by lia
   rw [e];refine c3.congr fun k n a1 a2=>?_
   rw [al];exact VL (by lia) (by lia) lM (by lia)
 ·have e1:=congrArg List.length pl;have e2:=congrArg List.length split;simp at e1 e2
  lia
 ·rw [al];exact VL (by lia) (by lia) lM (by lia)
theorem RI.push {st:SortSt} {lo n:Nat} (h:RI κ kd a₀ st lo) (hn:0<n) (hz:lo+n<=a₀.size) (hs:(Seg (arrOf st).toList lo n).Pairwise (le κ)) :
  RI κ kd a₀ (SortSt.mk' (kindOf st) (arrOf st) ((pendingOf st).push (lo,n,0)) (gallopOf st) (failedOf st)) (lo+n) :=
 ⟨h.good,h.perm,by
  show Chain κ (arrOf st).toList 0 ((pendingOf st).push (lo,n,0)).toList (lo+n);rw [Array.toList_push,Chain.append];exact ⟨lo,h.chain,rfl,hn,hs,rfl⟩,hz⟩
theorem RI.power {st:SortSt} {lo k:Nat} (h:RI κ kd a₀ st lo) {f:Nat×Nat×Nat->Nat×Nat×Nat} (hf:∀ x,(f x).1=x.1/\(f x).2.1=x.2.1) :
  RI κ kd a₀ (SortSt.mk' (kindOf st) (arrOf st) ((pendingOf st).modify k f) (gallopOf st) (failedOf st)) lo :=
 ⟨h.good,h.perm,by
  show Chain κ (arrOf st).toList 0 ((pendingOf st).modify k f).toList lo;rw [Array.toList_modify];exact h.chain.modify hf k,h.top⟩
theorem Xv (hC:Cmp prog w A s κ kd a₀.toList) {st:SortSt} (hg:qv kd st) (hp:(arrOf st).Perm a₀) (he:pendingOf st=#[]) (h2:1<=a₀.size)
  {Q:Unit->SortSt->Prop} (h:∀ st',(arrOf st').Perm a₀->failedOf st'=none->(arrOf st').toList.Pairwise (le κ)->Q () st'):wpS (model prog w) A E s sortRuns' Q st:=by
 have hsz:(arrOf st).size=a₀.size:=hp.size_eq;refine wpS_bind (wpS_get ?_);show wpS (model prog w) A E s (bind (forIn [:(arrOf st).size] _ _) _) Q st;rw [hsz];have r0:RI κ kd a₀ st 0:=⟨hg,hp,by rw [he];exact rfl,Nat.zero_le _⟩;refine wpS_bind (wpS_mono (wpS_forRange (I:=fun x c st'=>∃ lo,c=(none,lo)/\RI κ kd a₀ st' lo/\x<=lo) (Q:=fun c st'=>c=(none,a₀.size)/\RI κ kd a₀ st' a₀.size) ?_ ?_ ⟨0,rfl,r0,Nat.le_refl _⟩) ?_)
 ·rintro x c st1 _ hx ⟨lo,rfl,r1,hxl⟩
  try dsimp only
  have t1:=r1.top;have z1:=r1.size;refine zB (fun c1=>?_) (fun c1=>?_)
  ·have:lo=a₀.size:=by lia
   subst this;exact wpS_pure ⟨rfl,r1⟩
  have hG:∀ {st':SortSt},(arrOf st').Perm a₀->∀ x∈(arrOf st').toList,x∈a₀.toList:=fun {st'} p x hx=>(Array.perm_iff_toList_perm.mp p).mem_iff.mp hx
  refine wpS_bind (GT hC r1.good (hG r1.perm) (by lia) (by lia) fun m st2 k2 m1 m2 up=>?_)
  try dsimp only
  have r2:RI κ kd a₀ st2 lo:=⟨k2.good,k2.perm.trans r1.perm,by rw [k2.pend];exact r1.chain.congr fun k n _ a2=>Yp k2.low a2,t1⟩
  have z2:=r2.size;refine zB (fun c2=>?_) (fun c2=>?_)
  ·refine wpS_bind (wpS_lift (wpAny_rule ⟨rfl,?_⟩));refine wpS_bind (UY hC r2.good (hG r2.perm) (by lia) (by lia) up fun st3 k3 up3=>?_)
   simp only [Bool.not_true,Bool.false_eq_true,if_false];have r3:RI κ kd a₀ st3 lo:=⟨k3.good,k3.perm.trans r2.perm,by rw [k3.pend];exact r2.chain.congr fun k n _ a2=>Yp k3.low a2,t1⟩
   have z3:=r3.size;have n3:0<min (a₀.size-lo) (minRun' a₀.size a₀.size 0):=by
    have:m<minRun' a₀.size a₀.size 0:=c2
    lia
   have sg3:=Mf (by lia) up3;refine wpS_bind (wpS_get ?_)
   try dsimp only
   cases hbk:(pendingOf st3).back? with
   | none =>
    try dsimp only
    exact wpS_bind (wpS_modify (wpS_pure ⟨_,rfl,r3.push n3 (by lia) sg3,by lia⟩))
   | some bb =>
    obtain ⟨s1,n1,p1⟩:=bb
    try dsimp only
    refine wpS_bind (wpS_mono (wpS_forRange (I:=fun _ c st4=>c=(none,())/\RI κ kd a₀ st4 lo/\(Seg (arrOf st4).toList lo _).Pairwise (le κ)) (Q:=fun c st4=>c=(none,())/\RI κ kd a₀ st4 lo/\(Seg (arrOf st4).toList lo _).Pairwise (le κ)) ?_ (fun _ _ hh=>hh) ⟨rfl,r3,sg3⟩) ?_)
    ·rintro y c st4 _ hy ⟨rfl,r4,sg⟩;refine wpS_bind (wpS_get ?_)
     try dsimp only
     by_cases hps:(pendingOf st4).size>1
     ·rw [if_pos hps,getElem?_pos (pendingOf st4) ((pendingOf st4).size-2) (by lia)]
      try dsimp only
      refine zB (fun _=>?_) (fun _=>?_)
      ·exact wpS_pure ⟨rfl,r4,sg⟩
      ·refine wpS_bind (WZ hC r4 (show (pendingOf st4).size-2+1<(pendingOf st4).size by lia) fun st5 r5 _ keep=>?_)
       simp only [Bool.not_true,Bool.false_eq_true,if_false];exact wpS_pure ⟨rfl,r5,by rw [keep lo _ (Nat.le_refl _)];exact sg⟩
     ·rw [if_neg hps];exact wpS_pure ⟨rfl,r4,sg⟩
    ·rintro c st4 ⟨rfl,r4,sg⟩
     try dsimp only
     refine wpS_bind (wpS_modify ?_);exact wpS_bind (wpS_modify (wpS_pure ⟨_,rfl,RI.push (r4.power (by intro x;exact ⟨rfl,rfl⟩)) n3 (by lia) sg,by lia⟩))
  ·have sg2:=Mf (by lia) up;refine wpS_bind (wpS_get ?_)
   try dsimp only
   cases hbk:(pendingOf st2).back? with
   | none =>
    try dsimp only
    exact wpS_bind (wpS_modify (wpS_pure ⟨_,rfl,r2.push m1 (by lia) sg2,by lia⟩))
   | some bb =>
    obtain ⟨s1,n1,p1⟩:=bb
    try dsimp only
    refine wpS_bind (wpS_mono (wpS_forRange (I:=fun _ c st4=>c=(none,())/\RI κ kd a₀ st4 lo/\(Seg (arrOf st4).toList lo _).Pairwise (le κ)) (Q:=fun c st4=>c=(none,())/\RI κ kd a₀ st4 lo/\(Seg (arrOf st4).toList lo _).Pairwise (le κ)) ?_ (fun _ _ hh=>hh) ⟨rfl,r2,sg2⟩) ?_)
    ·rintro y c st4 _ hy ⟨rfl,r4,sg⟩;refine wpS_bind (wpS_get ?_)
     try dsimp only
     by_cases hps:(pendingOf st4).size>1
     ·rw [if_pos hps,getElem?_pos (pendingOf st4) ((pendingOf st4).size-2) (by lia)]
      try dsimp only
      refine zB (fun _=>?_) (fun _=>?_)
      ·exact wpS_pure ⟨rfl,r4,sg⟩
      ·refine wpS_bind (WZ hC r4 (show (pendingOf st4).size-2+1<(pendingOf st4).size by lia) fun st5 r5 _ keep=>?_)
       simp only [Bool.not_true,Bool.false_eq_true,if_false];exact wpS_pure ⟨rfl,r5,by rw [keep lo _ (Nat.le_refl _)];exact sg⟩
     ·rw [if_neg hps];exact wpS_pure ⟨rfl,r4,sg⟩
    ·rintro c st4 ⟨rfl,r4,sg⟩
     try dsimp only
     refine wpS_bind (wpS_modify ?_);exact wpS_bind (wpS_modify (wpS_pure ⟨_,rfl,RI.push (r4.power (by intro x;exact ⟨rfl,rfl⟩)) m1 (by lia) sg,by lia⟩))
 ·rintro c st1 ⟨lo,rfl,r1,hxl⟩;have t1:=r1.top;have:lo=a₀.size:=by lia
  subst this;exact ⟨rfl,r1⟩
 ·rintro c st1 ⟨rfl,r1⟩
  try dsimp only
  refine wpS_bind (wpS_mono (wpS_forRange (I:=fun x c st'=>c=(none,())/\RI κ kd a₀ st' a₀.size/\((pendingOf st').size<=1\/(pendingOf st').size+x<=a₀.size)) (Q:=fun c st'=>c=(none,())/\RI κ kd a₀ st' a₀.size/\(pendingOf st').size<=1) ?_ ?_ ⟨rfl,r1,.inr (by have:=r1.chain.len;simp at this;lia)⟩) ?_)
  ·rintro y c st4 _ hy ⟨rfl,r4,hor⟩;refine wpS_bind (wpS_get ?_)
   try dsimp only
   refine zB (fun c1=>?_) (fun c1=>?_)
   ·exact wpS_pure ⟨rfl,r4,c1⟩
   ·have c1':¬ (pendingOf st4).size<=1:=c1;have hor':=hor.resolve_left c1';have step:∀ i,i+1<(pendingOf st4).size->wpS (model prog w) A E s (mergeAt' i) (fun r st5=>r=true/\RI κ kd a₀ st5 a₀.size/\(pendingOf st5).size+(y+1)<=a₀.size) st4:=fun i hi =>
     WZ hC r4 hi fun st5 r5 e5 _=>⟨rfl,r5,by lia⟩
    have bound:∀ c:Bool,(if c=true then (pendingOf st4).size-2-1 else (pendingOf st4).size-2)+1<(pendingOf st4).size:=by intro c;split<;>lia
    refine wpS_bind (wpS_mono (step _ (bound _)) ?_);rintro r st5 ⟨rfl,r5,e5⟩;simp only [Bool.not_true,Bool.false_eq_true,if_false];exact wpS_pure ⟨rfl,r5,.inr e5⟩
  ·rintro c st4 ⟨rfl,r4,hor⟩;exact ⟨rfl,r4,by lia⟩
  ·rintro c st4 ⟨rfl,r4,hle⟩;refine wpS_pure (h st4 r4.perm r4.good.2 ?_);have ch:=r4.chain;have z4:=r4.size;cases e:(pendingOf st4).toList with
   | nil=>rw [e] at ch;have:0=a₀.size:=ch;lia
   | cons r rs =>
    have hl:(pendingOf st4).toList.length<=1:=by simpa using hle
    rw [e] at hl ch;have:rs=[]:=by cases rs with
     | nil=>rfl
     | cons _ _=>simp at hl
    subst this;obtain ⟨a,n,p⟩:=r;obtain ⟨e1,_,e3,e4⟩:=ch;have e4':0+n=a₀.size:=e4;have:Seg (arrOf st4).toList 0 n=(arrOf st4).toList:=by
     unfold Seg;rw [List.drop_zero,List.take_of_length_le];simp;lia
    rw [this] at e3;exact e3
end
end PuS
namespace PuS
open PySem PyProof.Rows PySem.W
def llt:List Int->List Int->Bool
 | [],[]=>false
 | [],_::_=>true
 | _::_,[]=>false
 | x::xs,y::ys=>if x=y then llt xs ys else decide (x<y)
theorem llt_irrefl:∀ a,llt a a=false
 | []=>rfl
 | x::xs=>by simp [llt,llt_irrefl xs]
theorem llt_trans:∀ a b c,llt a b=true->llt b c=true->llt a c=true
 | [],[],c,h,_=>by simp [llt] at h
 | [],_::_,[],_,h=>by simp [llt] at h
 | [],_::_,_::_,_,_=>rfl
 | _::_,[],_,h,_=>by simp [llt] at h
 | _::_,_::_,[],_,h=>by simp [llt] at h
 | x::xs,y::ys,z::zs,h1,h2=>by
  simp only [llt] at h1 h2 ⊢
  by_cases e1:x=y
  ·subst e1;rw [if_pos rfl] at h1
   by_cases e2:x=z
   ·subst e2;rw [if_pos rfl] at h2 ⊢;exact llt_trans xs ys zs h1 h2
   ·rw [if_neg e2] at h2 ⊢;exact h2
  ·rw [if_neg e1,decide_eq_true_eq] at h1
   by_cases e2:y=z
   ·subst e2;rw [if_neg e1,decide_eq_true_eq];exact h1
   ·rw [if_neg e2,decide_eq_true_eq] at h2;rw [if_neg (by lia),decide_eq_true_eq];lia
theorem llt_neg:∀ a b c,llt a c=true->llt a b=true\/llt b c=true
 | [],[],c,h=>.inr h
 | [],_::_,_,_=>.inl rfl
 | _::_,_,[],h=>by simp [llt] at h
 | _::_,[],_::_,_=>.inr rfl
 | x::xs,y::ys,z::zs,h=>by
  simp only [llt] at h ⊢
  by_cases e1:x=y
  ·subst e1
   by_cases e2:x=z
   ·subst e2;rw [if_pos rfl] at h;simp only [if_true];exact llt_neg xs ys zs h
   ·rw [if_neg e2] at h;right;rw [if_neg e2];exact h
  ·by_cases e2:y=z
   ·subst e2;rw [if_neg e1] at h;left;rw [if_neg e1];exact h
   ·by_cases e3:x=z
    ·subst e3;rw [if_neg e1,if_neg e2,decide_eq_true_eq,decide_eq_true_eq];lia
    ·rw [if_neg e3,decide_eq_true_eq] at h;rw [if_neg e1,if_neg e2,decide_eq_true_eq,decide_eq_true_eq];lia
theorem llt_total:∀ a b,llt a b=false->llt b a=false->a=b
 | [],[],_,_=>rfl
 | [],_::_,h,_=>by simp [llt] at h
 | _::_,[],_,h=>by simp [llt] at h
 | x::xs,y::ys,h1,h2=>by
  simp only [llt] at h1 h2
  by_cases e:x=y
  ·subst e;simp only [if_true] at h1 h2;rw [llt_total xs ys h1 h2]
  ·rw [if_neg e,decide_eq_false_iff_not] at h1;rw [if_neg (Ne.symm e),decide_eq_false_iff_not] at h2
   lia
def ints?:List Value->Option (List Int)
 | []=>some []
 | .int i _::r=>(ints? r).map (i::·)
 | _=>none
def GD (h:Heap):Value->Option (List Int)
 | .ref a=>(h.get? a).bind fun o=>match o.data with
  | .seq xs _=>ints? xs.toList
  | _=>none
 | _=>none
inductive Md where
 | one | two | prs
def kdM:Md->Bool
 | .prs=>false
 | _=>true
def enc2 (a b:List Int):List Int:=(a.flatMap fun i=>[1,i])++0::b
def keyH (m:PuS.Md) (h:Heap) (u:Value):Option (List Int):=match m with
 | .one=>GD h u
 | .two=>(match u with
  | .ref a=>(h.get? a).bind fun o=>match o.data with
   | .seq xs _=>match xs.toList with
    | [.int i _,v]=>(GD h v).map (i::·)
    | _=>none
   | _=>none
  | _=>none)
 | .prs=>(match u with
  | .ref a=>(h.get? a).bind fun o=>match o.data with
   | .seq xs _=>match xs.toList with
    | [v,v2]=>(GD h v).bind fun t=>(GD h v2).map (enc2 t)
    | _=>none
   | _=>none
  | _=>none)
def kInts (m:PuS.Md) (h:Heap):KeyKind:={α:=List Int,blt:=llt,irrefl:=llt_irrefl,trans:=llt_trans,negTrans:=llt_neg,total:=llt_total,keyOf:=keyH m h,dflt:=[]}
theorem ints?_of:∀ {vs:List Value} {ns:List Int},IntsAre vs ns->ints? vs=some ns
 | _,_,.nil=>rfl
 | _,_,.cons n t h=>by simp [ints?,ints?_of h]
def IT0 (h:Heap) (u:Value) (ns:List Int):Prop:=∃ a o xs n,u=.ref a/\h.get? a=some o/\o.cls=.type "tuple" /\ o.data=.seq xs n/\IntsAre xs.toList ns
def ITp (h:Heap) (u:Value) (ns:List Int):Prop:=∃ a o xs n i t v ms,u=.ref a/\h.get? a=some o/\o.cls=.type "tuple" /\ o.data=.seq xs n/\xs.toList=[.int i t,v]/\IT0 h v ms/\ns=i::ms
def ITq (h:Heap) (u:Value) (ns:List Int):Prop:=∃ a o xs n v v2 t t2,u=.ref a/\h.get? a=some o/\o.cls=.type "tuple" /\ o.data=.seq xs n/\xs.toList=[v,v2]/\IT0 h v t/\IT0 h v2 t2/\ns=enc2 t t2
def IT (m:PuS.Md) (h:Heap) (u:Value) (ns:List Int):Prop:=match m with
 | .one=>IT0 h u ns/\ns≠[]
 | .two=>ITp h u ns
 | .prs=>ITq h u ns
theorem IT0.key {h:Heap} {u:Value} {ns:List Int} (x:IT0 h u ns):GD h u=some ns:=by
 obtain ⟨a,o,xs,n,rfl,ho,_,hd,hi⟩:=x;simp only [GD,ho,Option.bind_some,hd];exact ints?_of hi
theorem IT.key {m:PuS.Md} {h:Heap} {u:Value} {ns:List Int} (x:IT m h u ns):keyH m h u=some ns:=by
 cases m with
 | one=>exact x.1.key
 | two =>
  obtain ⟨a,o,xs,n,i,t,v,ms,rfl,ho,_,hd,hx,hi,rfl⟩:=x;simp only [keyH,ho,Option.bind_some,hd,hx,hi.key,Option.map_some]
 | prs =>
  obtain ⟨a,o,xs,n,v,v2,t,t2,rfl,ho,_,hd,hx,hi,hi2,rfl⟩:=x;obtain ⟨b,_,_,_,rfl,_⟩:=id hi;simp only [keyH,ho,Option.bind_some,hd,hx,hi.key,hi2.key,Option.map_some]
theorem IT0.keepT {h h':Heap} {u:Value} {ns:List Int} (k:∀ c o,h.get? c=some o->o.cls=.type "tuple" -> h'.get? c=some o) (x:IT0 h u ns):IT0 h' u ns:=by
 obtain ⟨a,o,xs,n,e,ho,hc,r⟩:=x;exact ⟨a,o,xs,n,e,k a o ho hc,hc,r⟩
theorem IT.keepT {m:PuS.Md} {h h':Heap} {u:Value} {ns:List Int} (k:∀ c o,h.get? c=some o->o.cls=.type "tuple" -> h'.get? c=some o) (x:IT m h u ns):IT m h' u ns:=by
 cases m with
 | one=>exact ⟨x.1.keepT k,x.2⟩
 | two =>
  obtain ⟨a,o,xs,n,i,t,v,ms,e,ho,hc,hd,hx,hi,hn⟩:=x;exact ⟨a,o,xs,n,i,t,v,ms,e,k a o ho hc,hc,hd,hx,hi.keepT k,hn⟩
 | prs =>
  obtain ⟨a,o,xs,n,v,v2,t,t2,e,ho,hc,hd,hx,hi,hi2,hn⟩:=x;exact ⟨a,o,xs,n,v,v2,t,t2,e,k a o ho hc,hc,hd,hx,hi.keepT k,hi2.keepT k,hn⟩
def Vd (fin:Bool):List Int->List Int->Bool
 | x::xs,y::ys=>if x=y then Vd fin xs ys else decide (x<y)
 | _,_=>fin
theorem UA:∀ ns ms:List Int,Vd (decide (ns.length<ms.length)) ns ms=llt ns ms
 | [],[]=>by simp [Vd,llt]
 | [],_::_=>by simp [Vd,llt]
 | _::_,[]=>by simp [Vd,llt]
 | x::xs,y::ys=>by
  have ih:=UA xs ys;simp only [Vd,llt,List.length_cons,Nat.add_lt_add_iff_right,ih]
section
variable {prog:Program} {w:World} {A:Around} {E:Value->Shared->Prop} {s:Shared}
theorem Uz {fin:Bool} {Q:Bool->Shared->Prop}:∀ {us ws:List Value} {ns ms:List Int},IntsAre us ns->IntsAre ws ms->∀ i:Nat,Q (Vd fin ns ms) s->KatLex prog w A true fin Q (us.zip ws) i s
 | _,_,_,_,.nil,_,_,q=>kat_nil q
 | _,_,_,_,.cons _ _ _,.nil,_,q=>kat_nil q
 | _,_,_,_,.cons n t h,.cons m u g,i,q=>by
  rw [List.zip_cons_cons];refine kat_cons (wpAny_eqBool_int (kat_go (fun e=>?_) fun e=>?_))
  ·have e':n=m:=by simpa using e
   subst e';refine kat_yes (Uz h g (i+1) ?_);simpa [Vd] using q
  ·have e':¬ n=m:=by simpa using e
   have q':Q (decide (n<m)) s:=by simpa [Vd,e'] using q
   refine kat_no ?_;cases i with
   | zero=>exact kat_lt_int q'
   | succ i=>exact kat_one _ _ (lt_int q')
theorem cmp_ints0 {G:List Keyed} (hG:∀ u∈G,∃ ns,IT .one s.heap u.1 ns):Cmp prog w A s (kInts .one s.heap) (tuples' true) G:=by
 intro u hu' v hv E Q q;obtain ⟨ns,hn⟩:=hG u hu';obtain ⟨ms,hm⟩:=hG v hv;have k1:kk (kInts .one s.heap) u=ns:=by show (keyH .one s.heap u.1).getD []=ns;rw [hn.key];rfl
 have k2:kk (kInts .one s.heap) v=ms:=by show (keyH .one s.heap v.1).getD []=ms;rw [hm.key];rfl
 have q':Q (llt ns ms) s:=by rw [k1,k2] at q;exact q
 obtain ⟨⟨a,o,xs,n,e1,ho,_,hd,hi⟩,_⟩:=hn;obtain ⟨⟨b,p,ys,m,e2,hp,_,hd2,hi2⟩,_⟩:=hm;rw [e1,e2];refine kat_lt ho hd hp hd2 (Uz hi hi2 0 ?_);have z1:=hi.length;have z2:=hi2.length;have:decide (xs.size<ys.size)=decide (ns.length<ms.length):=by
  simp only [Array.length_toList] at z1 z2;rw [z1,z2]
 rw [this,UA];exact q'
theorem Xr {m:PuS.Md} {h:Heap}:∀ {vs:List Value} {nss:List (List Int)},Paired (IT m h) vs nss->∃ fs,KatTups h vs fs/\fs.length=vs.length/\∀ f∈fs,if kdM m=true then ∃ i t,f=Value.int i t else ∃ t,IT0 h f t
 | _,_,.nil=>⟨[],.nil,rfl,fun _ h=>by cases h⟩
 | u::_,ns::_,.cons x r=>by
  obtain ⟨fs,h1,h2,h3⟩:=Xr r;have hx:∃ a o xs n f rest,u=Value.ref a/\h.get? a=some o/\o.cls=.type "tuple" /\ o.data=.seq xs n/\xs.toList=f::rest/\if kdM m=true then ∃ i t,f=Value.int i t else ∃ t,IT0 h f t:=by
   cases m with
   | one =>
    obtain ⟨⟨a,o,xs,n,e,ho,hc,hd,hi⟩,hne⟩:=x;cases hx:xs.toList with
    | nil =>
     rw [hx] at hi;cases hi;exact absurd rfl hne
    | cons v rest =>
     rw [hx] at hi;cases hi with
     | cons n t hr=>exact ⟨a,o,xs,_,_,_,e,ho,hc,hd,hx,by simp only [kdM,if_true];exact ⟨_,_,rfl⟩⟩
   | two =>
    obtain ⟨a,o,xs,n,i,t,v,ms,e,ho,hc,hd,hx,_⟩:=x;exact ⟨a,o,xs,_,_,_,e,ho,hc,hd,hx,by simp only [kdM,if_true];exact ⟨_,_,rfl⟩⟩
   | prs =>
    obtain ⟨a,o,xs,n,v,v2,t,t2,e,ho,hc,hd,hx,hi,_⟩:=x;exact ⟨a,o,xs,_,_,_,e,ho,hc,hd,hx,by simp only [kdM,Bool.false_eq_true,if_false];exact ⟨_,hi⟩⟩
  obtain ⟨a,o,xs,n,f0,rest,e,ho,hc,hd,hx,hf0⟩:=hx;subst e;refine ⟨f0::fs,.cons ho hc hd (by rw [<- Array.getElem?_toList,hx];rfl) h1,by simp [h2],fun f hf=>?_⟩
  rcases List.mem_cons.mp hf with rfl | hf
  ·exact hf0
  ·exact h3 f hf
theorem XM {m:PuS.Md} {vs:List Value} {nss:List (List Int)} {Q:SortKind->Shared->Prop} (t:Paired (IT m s.heap) vs nss) (hne:0<vs.length) (h:Q (tuples' (kdM m)) s):wpAny (model prog w) A (keyKind' vs.toArray) Q E s:=by
 obtain ⟨fs,h1,h2,h3⟩:=Xr t;cases hk:kdM m with
 | true =>
  refine kat_kind (T:=.type "int") h1 (by lia) (fun v hv=>?_) (by first | rfl | decide) ?_
  ·have:=h3 v hv;rw [if_pos hk] at this;obtain ⟨i,t,rfl⟩:=this;exact Looks.of_pure rfl
  ·rw [hk] at h;exact h
 | false =>
  refine kat_kind (T:=.type "tuple") h1 (by lia) (fun v hv=>?_) (by first | rfl | decide) ?_
  ·have:=h3 v hv;rw [if_neg (by rw [hk];decide)] at this;obtain ⟨t,a,o,xs,n,rfl,ho,hc,_⟩:=this;exact fun A Q E s k q=>wpAny_typeOf (T := "tuple") ⟨_,k _ _ ho,hc⟩ q
  ·rw [hk] at h;exact h
end
end PuS
namespace PuS
open PySem PyProof.Rows PySem.W PySem.Calls
def Wn (a:Addr) (b:Bool):Sem PySem.Fin:=(do
  let items <- Builtin.List.listItems (.ref a)
  Builtin.List.listUpdate (.ref a) fun _=>#[]
  let before <- seqEpoch a
  let held <- newTuple items.toList
  let keyStore <- newList []
  holding [held,keyStore] do
   if b then rule "list.sort.reverse"
   let kind <- if items.size<2 then pure general' else keyKind' items
   let ((),s) <- (if items.size<2 then pure () else sortRuns').run (SortSt.mk' kind (if b then (items.zip items).reverse else items.zip items) #[] 7 none)
   let sorted:=(arrOf s).map (·.2)
   let touched:=(<- seqEpoch a) != before
   Builtin.List.listUpdate (.ref a) fun _=>if b then sorted.reverse else sorted
   if let some e:=failedOf s then rule "list.sort.comparison-raised";throw e
   if touched then rule "list.sort.modified";raiseError "ValueError" "list modified during sort"
   ret .none)
def kwOf (b:Bool):List (Str×Value):=if b then [(Str.ofString "reverse",.bool true)] else []
theorem tree_eq (a:Addr) (b:Bool):Builtin.«list.sort» ⟨[.ref a],kwOf b⟩=Wn a b:=by
 cases b
 ·rfl
 ·rfl
theorem LA (a:Value) (b:Bool):argsOk "sorted" ⟨[a],kwOf b⟩:=by
 cases b
 ·exact args_sorted1 a
 ·unfold argsOk;kernel_rfl
theorem LB (a:Value) (b:Bool):argsOk "list.sort" ⟨[a],kwOf b⟩:=by
 cases b
 ·exact args_list_sort a
 ·unfold argsOk;kernel_rfl
def KY (m:PuS.Md) (h:Heap) (u:Value):List Int:=(keyH m h u).getD []
def Srt (m:PuS.Md) (b:Bool) (h:Heap) (out:List Value):Prop:=out.Pairwise fun u v=>if b then llt (KY m h u) (KY m h v)=false else llt (KY m h v) (KY m h u)=false
theorem IT.keep {m:PuS.Md} {h h':Heap} {a:Addr} {u:Value} {ns:List Int} {o:Obj} (ho:h.get? a=some o) (hc:o.cls=.type "list") (k:∀ c o,c≠a->h.get? c=some o->h'.get? c=some o) (x:IT m h u ns):IT m h' u ns:=by
 refine x.keepT fun c p hp hq=>k c p ?_ hp
 rintro rfl;rw [ho] at hp;cases hp;rw [hc] at hq;injection hq with hq
 exact absurd hq (by decide)
theorem paired_imp {α β:Type} {R S:α->β->Prop} (i:∀ a b,R a b->S a b):∀ {as:List α} {bs:List β},Paired R as bs->Paired S as bs
 | _,_,.nil=>.nil
 | _,_,.cons r t=>.cons (i _ _ r) (paired_imp i t)
theorem paired_mem {α β:Type} {R:α->β->Prop}:∀ {as:List α} {bs:List β},Paired R as bs->∀ a∈as,∃ b,R a b
 | _,_,.nil,a,h=>by cases h
 | _,_,.cons r t,a,h=>by
  rcases List.mem_cons.mp h with rfl | h
  ·exact ⟨_,r⟩
  ·exact paired_mem t a h
theorem uZ {α:Type} {R:α->α->Prop}:∀ {l:List α},l.length<2->l.Pairwise R
 | [],_=>.nil
 | [_],_=>List.pairwise_singleton _ _
 | _::_::_,h=>absurd h (by simp)
section
variable {prog:Program} {w:World} {A:Around} {E:Value->Shared->Prop} {s:Shared}
theorem srt_tree {m:PuS.Md} (b:Bool) {a:Addr} {vs:List Value} {nss:List (List Int)} {n:Nat} {P:PySem.Fin->Shared->Prop} (ho:s.heap.get? a=some (seqObj "list" vs.toArray n)) (t:Paired (IT m s.heap) vs nss) (hz:vs.length<=100000) (hcmp:∀ (s':Shared) (G:List Keyed),(∀ u∈G,∃ ns,IT m s'.heap u.1 ns)->Cmp prog w A s' (kInts m s'.heap) (tuples' (PuS.kdM m)) G)
  (h:∀ (h':Heap) (out:List Value) (n':Nat),out.Perm vs->Srt m b s.heap out->(∀ c o,c≠a->s.heap.get? c=some o->h'.get? c=some o)->h'.get? a=some (seqObj "list" out.toArray n')->P (.done (.ret .none)) {s with heap:=h'}) :
  wpAny (model prog w) A (Wn a b) P E s:=by
 unfold Wn;have ha:a<s.heap.objs.size:=jH ho;have hzl:vs.length<=sizeLine:=by rw [sizeLine_eq];lia
 refine jB (listItems_at ho rfl ?_);refine jB (listUpdate_at ho rfl ?_ (by rw [List.size_toArray];exact hzl) (Nat.zero_le _));obtain ⟨e1,ho1⟩:∃ e1,(s.heap.update a (Obj.mapSeq fun _=>#[])).get? a=some (seqObj "list" #[] e1):=⟨_,get?_update_seq ho (fun _=>#[])⟩;refine jB (seqEpoch_at ho1 rfl ?_);refine jB (wpAny_newTuple ?_ (by show vs.length<=_;exact hzl));refine jB (wpAny_newList ?_ (Nat.zero_le _));refine wpAny_holding ?_;generalize hh6:((s.heap.update a (Obj.mapSeq fun _=>#[])).push (seqObj "tuple" vs.toArray 0)).push (seqObj "list" #[] 0)=h6;have ho6:h6.get? a=some (seqObj "list" #[] e1):=by
  rw [<- hh6,Heap.get?_push_ne _ _ _ (by rw [size_push',Heap.size_update];exact Nat.ne_of_lt (Nat.lt_succ_of_lt ha)),Heap.get?_push_ne _ _ _ (by rw [Heap.size_update];exact Nat.ne_of_lt ha)];exact ho1
 have k6:∀ c o,c≠a->s.heap.get? c=some o->h6.get? c=some o:=fun c o hc e=>by
  have hlt:c<s.heap.objs.size:=jH e;rw [<- hh6];refine jG _ (jG _ ?_);rw [Heap.get?_update_other _ _ (Ne.symm hc)];exact e
 have it6:∀ {u ns},IT m s.heap u ns->IT m h6 u ns:=fun x=>x.keep ho rfl k6
 have t6:Paired (IT m h6) vs nss:=paired_imp (fun u ns x=>it6 x) t;have key6:∀ u∈vs,KY m h6 u=KY m s.heap u:=fun u hu=>by
  obtain ⟨ns,x⟩:=paired_mem t u hu;unfold KY;rw [x.key,(it6 x).key]
 show wpAny (model prog w) A _ P E {s with heap:=h6}
 dsimp only;have hsz:vs.toArray.size=vs.length:=by simp
 have fin:∀ st':SortSt,(arrOf st').Perm (if b=true then (pairsOf vs).reverse else pairsOf vs)->failedOf st'=none->(arrOf st').toList.Pairwise (le (kInts m h6)) ->
   (if b=true then ((arrOf st').map (·.2)).reverse else (arrOf st').map (·.2)).size=vs.length/\P (.done (.ret .none)) {s with heap:=h6.update a (Obj.mapSeq fun _=>if b=true then ((arrOf st').map (·.2)).reverse else (arrOf st').map (·.2))}:=by
  intro st' hp hf hs;have hp2:(arrOf st').Perm (pairsOf vs):=by
   refine hp.trans ?_;cases b with
   | true=>exact Array.perm_iff_toList_perm.mpr (by rw [if_pos rfl,Array.toList_reverse];exact List.reverse_perm _)
   | false=>exact Array.Perm.refl _
  have hl2:(arrOf st').toList.Perm (vs.zip vs):=by
   have:=Array.perm_iff_toList_perm.mp hp2
   rwa [pairsOf_toList] at this
  have hmem:∀ p∈(arrOf st').toList,p.1=p.2/\p.2∈vs:=fun p hp'=>by
   have:=hl2.mem_iff.mp hp';obtain ⟨i,hi,e⟩:=List.mem_iff_getElem.mp this;rw [List.getElem_zip] at e;subst e;exact ⟨rfl,List.getElem_mem _⟩
  have hmp:((arrOf st').toList.map (·.2)).Perm vs:=by
   have z:=hl2.map (·.2);have:(vs.zip vs).map (·.2)=vs:=by rw [<- List.unzip_snd,List.unzip_zip rfl]
   rwa [this] at z
  have hpw:((arrOf st').toList.map (·.2)).Pairwise fun u v=>llt (KY m s.heap v) (KY m s.heap u)=false:=by
   rw [List.pairwise_map];refine hs.imp_of_mem fun {p q} mp mq hle=>?_
   have e1:=hmem p mp;have e2:=hmem q mq;have:llt ((keyH m h6 q.1).getD []) ((keyH m h6 p.1).getD [])=false:=hle;rw [e1.1,e2.1] at this;rw [<- key6 _ e1.2,<- key6 _ e2.2];exact this
  have hszo:(if b=true then ((arrOf st').map (·.2)).reverse else (arrOf st').map (·.2)).size=vs.length:=by
   have:=hp2.size_eq;rw [pairsOf_size] at this;cases b<;>simp [this]
  obtain ⟨e2,ho7⟩:∃ e2,(h6.update a (Obj.mapSeq fun _=>if b=true then ((arrOf st').map (·.2)).reverse else (arrOf st').map (·.2))).get? a=some (seqObj "list" (if b=true then ((arrOf st').map (·.2)).reverse else (arrOf st').map (·.2)) e2):=⟨_,get?_update_seq ho6 _⟩
  have k7:∀ c o,c≠a->s.heap.get? c=some o->(h6.update a (Obj.mapSeq fun _=>if b=true then ((arrOf st').map (·.2)).reverse else (arrOf st').map (·.2))).get? c=some o:=fun c o hc e=>by
   rw [Heap.get?_update_other _ _ (Ne.symm hc)];exact k6 c o hc e
  refine ⟨hszo,h _ (if b=true then ((arrOf st').toList.map (·.2)).reverse else (arrOf st').toList.map (·.2)) e2 ?_ ?_ k7 ?_⟩
  ·cases b with
   | true=>rw [if_pos rfl];exact (List.reverse_perm _).trans hmp
   | false=>exact hmp
  ·unfold Srt;cases b with
   | true =>
    simp only [if_true];rw [List.pairwise_reverse];exact hpw
   | false =>
    simp only [Bool.false_eq_true,if_false];exact hpw
  ·rw [ho7];congr 2;cases b with
   | true =>
    simp only [if_true];apply Array.toList_inj.mp;simp
   | false =>
    simp only [Bool.false_eq_true,if_false];apply Array.toList_inj.mp;simp
 have step:∀ t:Sem PySem.Fin,wpAny (model prog w) A t P E {s with heap:=h6}->wpAny (model prog w) A (if b=true then (do let _ <- rule "list.sort.reverse";t) else t) P E {s with heap:=h6}:=by
  intro t ht;cases b with
  | true=>rw [if_pos rfl];exact jB (wpAny_rule ht)
  | false=>rw [if_neg (by simp)];exact ht
 refine step _ ?_;have hperm0:∀ k:SortKind,(arrOf (SortSt.mk' k (if b=true then (vs.toArray.zip vs.toArray).reverse else vs.toArray.zip vs.toArray) #[] 7 none))=(if b=true then (pairsOf vs).reverse else pairsOf vs):=fun k=>rfl
 have hsz0:(if b=true then (pairsOf vs).reverse else pairsOf vs).size=vs.length:=by cases b<;>simp [pairsOf]
 by_cases h2:vs.toArray.size<2
 ·rw [if_pos h2,if_pos h2];refine jB (jP ?_);rw [StateT.run_pure];refine jB (jP ?_);dsimp only;have FF:=fin (SortSt.mk' general' (if b=true then (vs.toArray.zip vs.toArray).reverse else vs.toArray.zip vs.toArray) #[] 7 none) (Array.Perm.refl _) rfl ?srt
  case srt =>
   have hl1:(if b=true then (pairsOf vs).reverse else pairsOf vs).toList.length<2:=by
    rw [Array.length_toList,hsz0];lia
   show (if b=true then (pairsOf vs).reverse else pairsOf vs).toList.Pairwise _
   exact uZ hl1
  refine jB (seqEpoch_at ho6 rfl ?_);refine jB (listUpdate_at ho6 rfl ?_ (Nat.zero_le _) (Nat.le_succ_of_le (Nat.le_trans (Nat.le_of_eq FF.1) hzl)));simp only [bne_self_eq_false,Bool.false_eq_true,if_false];exact jP FF.2
 ·rw [if_neg h2,if_neg h2];refine jB (XM t6 (by lia) ?_);have hG:∀ u∈(if b=true then (pairsOf vs).reverse else pairsOf vs).toList,∃ ns,IT m h6 u.1 ns:=fun u hu=>by
   have hu':u∈vs.zip vs:=by
    rw [<- pairsOf_toList];cases b with
    | true=>rw [if_pos rfl,Array.toList_reverse,List.mem_reverse] at hu;exact hu
    | false=>exact hu
   have:=(List.of_mem_zip (a:=u.1) (b:=u.2) hu').1;exact paired_mem t6 u.1 this
  refine jB (wpAny_mono (Xv (s:={s with heap:=h6}) (κ:=kInts m h6) (kd:=tuples' (kdM m)) (a₀:=if b=true then (pairsOf vs).reverse else pairsOf vs) (hcmp {s with heap:=h6} _ hG)
   (st:=SortSt.mk' (tuples' (kdM m)) (if b=true then (vs.toArray.zip vs.toArray).reverse else vs.toArray.zip vs.toArray) #[] 7 none)
   (Q:=fun _ st'=>(arrOf st').Perm (if b=true then (pairsOf vs).reverse else pairsOf vs)/\failedOf st'=none/\(arrOf st').toList.Pairwise (le (kInts m h6)))
   ⟨rfl,rfl⟩ (Array.Perm.refl _) rfl (by rw [hsz0];lia) fun st' a1 a2 a3=>⟨a1,a2,a3⟩) ?_ fun _ _ e=>e)
  rintro ⟨⟨⟩,st'⟩ s' ⟨rfl,hp,hf,hs⟩;dsimp only;have FF:=fin st' hp hf hs;refine jB (seqEpoch_at ho6 rfl ?_);refine jB (listUpdate_at ho6 rfl ?_ (Nat.zero_le _) (Nat.le_succ_of_le (Nat.le_trans (Nat.le_of_eq FF.1) hzl)));rw [hf];simp only [bne_self_eq_false,Bool.false_eq_true,if_false];exact jP FF.2
theorem sorted_any {m:PuS.Md} (b:Bool) {l:Addr} {vs:List Value} {nss:List (List Int)} {Q:Value->Shared->Prop} (hl:s.heap.IsList l vs.toArray) (t:Paired (IT m s.heap) vs nss) (hz:vs.length<=100000) (hcmp:∀ (A':Around),A'.units<=A.units+5->∀ (s':Shared) (G:List Keyed),(∀ u∈G,∃ ns,IT m s'.heap u.1 ns)->Cmp prog w A' s' (kInts m s'.heap) (tuples' (PuS.kdM m)) G)
  (h:∀ (h':Heap) (out:List Value) (n':Nat),out.Perm vs->Srt m b s.heap out->(∀ c o,s.heap.get? c=some o->h'.get? c=some o)->h'.get? (s.heap.objs.size+1)=some (seqObj "list" out.toArray n')->Q (.ref (s.heap.objs.size+1)) {s with heap:=h'}) :
  wpAny (model prog w) A (call (.builtin "sorted") [.ref l] (kwOf b)) Q E s:=by
 have hzl:vs.length<=sizeLine:=by rw [sizeLine_eq];lia
 refine call_function_entry_kw kind_sorted plain_sorted entry_sorted (LA _ b) ?_;unfold Builtin.«sorted»;refine jB (m:=checkCount "sorted" 1 1 _) (jP ?_);refine jB (collect_list hl ?_ hzl);refine jB (wpAny_newList ?_ hzl);have hsz:((s.heap.push (seqObj "list" #[] 0)).update s.heap.objs.size (Obj.mapSeq (·++vs.toArray))).objs.size=s.heap.objs.size+1:=by
  rw [Heap.size_update,size_push']
 generalize hh:((s.heap.push (seqObj "list" #[] 0)).update s.heap.objs.size (Obj.mapSeq (·++vs.toArray))).push (seqObj "list" vs.toArray 0)=h1;have hoL:h1.get? (s.heap.objs.size+1)=some (seqObj "list" vs.toArray 0):=by
  rw [<- hh,<- hsz];exact Heap.get?_push_size _ rfl
 have keep:∀ c o,s.heap.get? c=some o->h1.get? c=some o:=fun c o q=>by
  have hlt:c<s.heap.objs.size:=jH q;rw [<- hh,Heap.get?_push_ne _ _ _ (by rw [hsz];exact Nat.ne_of_lt (Nat.lt_succ_of_lt hlt)),Heap.get?_update_ne _ _ _ _ (Nat.ne_of_lt hlt),Heap.get?_push_ne _ _ _ (Nat.ne_of_lt hlt)];exact q
 show wpAny _ _ _ _ _ {s with heap:=h1}
 rw [hsz];have it1:∀ {u ns},IT m s.heap u ns->IT m h1 u ns:=fun {u ns} x=>x.keepT fun c o e _=>keep c o e
 have t1:Paired (IT m h1) vs nss:=paired_imp (fun u ns x=>it1 x) t;refine jB (wpAny_holding (wpAny_call_entry_kw slot_list_sort ⟨_,hoL,rfl⟩ entry_list_sort ?body (LB _ b)))
 case body =>
  rw [tree_eq];refine srt_tree b (s:={s with heap:=h1}) hoL t1 hz (hcmp _ (by simp only [Around.in1_units];lia)) fun h' out n' hp hs k ho'=>⟨_,rfl,?_⟩
  refine jP ⟨_,rfl,h h' out n' hp ?_ (fun c o q=>k c o (Nat.ne_of_lt (Nat.lt_succ_of_lt (jH q))) (keep c o q)) ho'⟩
  have key1:∀ u∈vs,KY m h1 u=KY m s.heap u:=fun u hu=>by
   obtain ⟨ns,x⟩:=paired_mem t u hu;unfold KY;rw [x.key,(it1 x).key]
  refine hs.imp_of_mem fun {u v} mu mv e=>?_
  have e1:=key1 u (hp.mem_iff.mp mu);have e2:=key1 v (hp.mem_iff.mp mv);have e':if b=true then llt (KY m h1 u) (KY m h1 v)=false else llt (KY m h1 v) (KY m h1 u)=false:=e
  rw [e1,e2] at e';exact e'
end
end PuS
namespace Pu
open PySem PySem.Spec PyProof.Rows L2
def we:List PV->Option (List (List Int))
 | []=>some []
 | .tup xs::r=>match yZ xs with
  | some (n::ns)=>(we r).map ((n::ns)::·)
  | _=>none
 | _=>none
def lle (a b:List Int):Bool:=!PuS.llt b a
def ub (b:Bool) (x y:List Int):Bool:=if b then lle y x else lle x y
def wo (b:Bool) (nss:List (List Int)):List (List Int):=nss.mergeSort (ub b)
def tpv (ns:List Int):PV:=.tup (ns.map PV.int)
def uq (b:Bool):PV->Res PV
 | .lst xs=>(qR (we xs)).bind fun nss=>if nss.length<=100000 then .ok (.lst ((wo b nss).map tpv)) else .bad
 | _=>.bad
theorem JD {b:Bool} {v:PV} {x:XC}:uq b v≠.exc x:=by
 cases v<;>simp only [uq]<;>first | (intro h;cases h;done) | skip
 exact jY (fun _=>Yb) (fun a x=>by split<;>(intro h;cases h)) x
theorem qW:∀ {vs:List PV} {nss:List (List Int)},we vs=some nss->vs=nss.map tpv/\∀ ns∈nss,ns≠[]
 | [],nss,h=>by simp [we] at h;subst h;simp
 | .tup xs::r,nss,h=>by
  simp only [we] at h
  split at h
  ·rename_i n ns e
   obtain ⟨m,e2,rfl⟩:=Option.map_eq_some_iff.mp h;obtain ⟨h1,h2⟩:=qW e2;refine ⟨by rw [List.map_cons,<- h1,wC e];rfl,fun k hk=>?_⟩
   rcases List.mem_cons.mp hk with rfl | hk
   ·simp
   ·exact h2 k hk
  ·cases h
 | .non::_,_,h=>by simp [we] at h
 | .bl _::_,_,h=>by simp [we] at h
 | .int _::_,_,h=>by simp [we] at h
 | .str _::_,_,h=>by simp [we] at h
 | .lst _::_,_,h=>by simp [we] at h
theorem Yk {nss:List (List Int)} (h:∀ ns∈nss,ns≠[]):we (nss.map tpv)=some nss:=by
 induction nss with
 | nil=>rfl
 | cons ns nss ih =>
  have h1:=h ns jC;rw [List.map_cons];unfold tpv at ih ⊢;simp only [we,xR];cases ns with
  | nil=>exact absurd rfl h1
  | cons n ns=>simp [ih fun k hk=>h k (jM _ hk)]
theorem qc {α β:Type} {R:α->β->Prop} {as as':List α} (p:as.Perm as'):∀ {bs:List β},Paired R as bs->∃ bs',bs.Perm bs'/\Paired R as' bs':=by
 induction p with
 | nil=>intro bs h;exact ⟨bs,.refl _,h⟩
 | cons a _ ih =>
  intro bs h;cases h with
  | cons r t =>
   obtain ⟨bs',q1,q2⟩:=ih t;exact ⟨_,q1.cons _,.cons r q2⟩
 | swap a b l =>
  intro bs h;cases h with
  | cons r t =>
   cases t with
   | cons r2 t2=>exact ⟨_,.swap _ _ _,.cons r2 (.cons r t2)⟩
 | trans _ _ ih1 ih2 =>
  intro bs h;obtain ⟨bs1,q1,q2⟩:=ih1 h;obtain ⟨bs2,q3,q4⟩:=ih2 q2;exact ⟨bs2,q1.trans q3,q4⟩
theorem XH (a b c:List Int) (h1:lle a b=true) (h2:lle b c=true):lle a c=true:=by
 unfold lle at *;cases h:PuS.llt c a
 ·rfl
 ·rcases PuS.llt_neg _ b _ h with z | z
  ·rw [z] at h2;cases h2
  ·rw [z] at h1;cases h1
theorem XI (a b:List Int):(lle a b||lle b a)=true:=by
 unfold lle;cases h:PuS.llt b a
 ·rfl
 ·cases h2:PuS.llt a b
  ·rfl
  ·have:=PuS.llt_trans _ _ _ h h2;rw [PuS.llt_irrefl] at this;cases this
theorem Uy (a b:List Int) (h1:lle a b=true) (h2:lle b a=true):a=b:=by
 unfold lle at *;exact PuS.llt_total a b (by simpa using h2) (by simpa using h1)
theorem QI (b:Bool) (x y z:List Int) (h1:ub b x y=true) (h2:ub b y z=true):ub b x z=true:=by
 cases b
 ·exact XH x y z h1 h2
 ·exact XH z y x h2 h1
theorem QJ (b:Bool) (x y:List Int):(ub b x y||ub b y x)=true:=by
 cases b
 ·exact XI x y
 ·exact XI y x
theorem Gn (b:Bool) (x y:List Int) (h1:ub b x y=true) (h2:ub b y x=true):x=y:=by
 cases b
 ·exact Uy x y h1 h2
 ·exact Uy x y h2 h1
theorem wm {b:Bool} {nss ms:List (List Int)} (hp:ms.Perm nss) (ho:ms.Pairwise fun x y=>ub b x y=true):ms=wo b nss :=
 Pd.perm_unique (le:=fun x y=>ub b x y=true) (fun x y=>Gn b x y) (hp.trans (List.mergeSort_perm nss (ub b)).symm) ho (List.pairwise_mergeSort (QI b) (QJ b) nss)
section
variable {X:Cx} {pins:List (Addr×Obj)} {σ:SS} {H:Hp} {s:Shared} {W:Addr->Prop}
theorem Yf:∀ {ns:List Int} {xs:List V} {us:List Value},Reps X.K H (ns.map PV.int) xs->Vals xs us->IntsAre us ns
 | [],xs,us,r,q=>by
  obtain rfl:=Reps.nil.mp r;cases q;exact .nil
 | n::ns,xs,us,r,q=>by
  obtain ⟨x,t,rfl,r1,r2⟩:=Reps.cons.mp r;obtain rfl:=Rep.int.mp r1;cases q with
  | cons q1 q2 =>
   obtain ⟨t,rfl⟩:=q1;exact .cons _ _ (Yf r2 q2)
theorem SX (I:L2.Inv X pins σ H s) {ns:List Int} {x:V} {u:Value} (hne:ns≠[]) (r:Rep X.K (hid W H) (tpv ns) x) (q:RelV x u):PuS.IT .one s.heap u ns:=by
 obtain ⟨a,xs,rfl,h1,h2⟩:=Rep.tup'.mp r;cases q;obtain ⟨its,rv,⟨o,e1,e2,n,e3⟩,_⟩:=I.tuple (yU h1);exact ⟨⟨a,o,its.toArray,n,rfl,e1,e2,e3,by simpa using Yf h2 rv⟩,hne⟩
theorem JY {m:PuS.Md} {pv:List Int->PV}:∀ {nss:List (List Int)} {xs:List V} {us:List Value},(∀ ns∈nss,∀ x u,Rep X.K (hid W H) (pv ns) x->RelV x u->PuS.IT m s.heap u ns)->Reps X.K (hid W H) (nss.map pv) xs->Vals xs us ->
  Paired (fun (u:Value) (p:V×List Int)=>RelV p.1 u/\Rep X.K (hid W H) (pv p.2) p.1/\PuS.IT m s.heap u p.2) us (xs.zip nss)/\Paired (PuS.IT m s.heap) us nss
 | [],xs,us,_,r,q=>by
  obtain rfl:=Reps.nil.mp r;cases q;exact ⟨.nil,.nil⟩
 | ns::nss,xs,us,hit,r,q=>by
  obtain ⟨x,t,rfl,r1,r2⟩:=Reps.cons.mp r;cases q with
  | cons q1 q2 =>
   obtain ⟨h1,h2⟩:=JY (fun k hk=>hit k (jM _ hk)) r2 q2
   have it:=hit ns jC _ _ r1 q1;exact ⟨.cons ⟨q1,r1,it⟩ h1,.cons it h2⟩
theorem Wk {s:Shared} {m:PuS.Md} {pv:List Int->PV}:∀ {us:List Value} {ps:List (V×List Int)},Paired (fun (u:Value) (p:V×List Int)=>RelV p.1 u/\Rep X.K (hid W H) (pv p.2) p.1/\PuS.IT m s.heap u p.2) us ps ->
  Vals (ps.map (·.1)) us/\Reps X.K (hid W H) ((ps.map (·.2)).map pv) (ps.map (·.1))/\us.map (PuS.KY m s.heap)=ps.map (·.2)
 | _,_,.nil=>⟨.nil,Reps.nil.mpr rfl,rfl⟩
 | _,_,.cons ⟨r1,r2,r3⟩ t=>by
  obtain ⟨h1,h2,h3⟩:=Wk t;refine ⟨.cons r1 h1,Reps.mk r2 h2,?_⟩;rw [List.map_cons,List.map_cons,h3];congr 1;unfold PuS.KY;rw [r3.key];rfl
theorem jp {m:PuS.Md} {pv:List Int->PV} (b:Bool) (I:L2.Inv X pins σ H s) {nss:List (List Int)} {x:V} {u:Value} {Q:VK} {E:Value->Shared->Prop} (tk:∀ a,W a->H a≠none) (r:Rep X.K (hid W H) (.lst (nss.map pv)) x) (rx:RelV x u)
  (hit:∀ ns∈nss,∀ x u,Rep X.K (hid W H) (pv ns) x->RelV x u->PuS.IT m s.heap u ns) (hz:nss.length<=100000) (hcmp:∀ (A':Around),A'.units<=X.A.units+5->∀ (s':Shared) (G:List Keyed),(∀ u∈G,∃ ns,PuS.IT m s'.heap u.1 ns)->PuS.Cmp X.prog X.w A' s' (PuS.kInts m s'.heap) (tuples' (PuS.kdM m)) G) (q:∀ p ys,H p=none->Reps X.K (hid W H) ((wo b nss).map pv) ys->Q (.ref p) (upd H p (.lst ys))) :
  wpAny (model X.prog X.w) X.A (call (.builtin "sorted") [u] (PuS.kwOf b)) (EP X pins σ Q) E s:=by
 obtain ⟨a,xs,rfl,h1,h2⟩:=Rep.lst'.mp r;cases rx;obtain ⟨its,rv,pl,hl⟩:=I.list (xP h1);obtain ⟨p3,p2⟩:=JY hit h2 rv;have hlen:its.length=nss.length:=by rw [<- rv.length,h2.length,List.length_map]
 refine PuS.sorted_any b pl.isList p2 (by lia) hcmp fun h' out n' hp hs keep hD=>?_
 obtain ⟨ps,q1,q2⟩:=qc hp.symm p3;obtain ⟨g1,g2,g3⟩:=Wk q2;have hsnd:(xs.zip nss).map (·.2)=nss:=by
  rw [<- List.unzip_snd,List.unzip_zip (by rw [h2.length,List.length_map])]
 have hperm:(ps.map (·.2)).Perm nss:=by
  have:=(q1.map (·.2)).symm
  rwa [hsnd] at this
 have hsort:(ps.map (·.2)).Pairwise fun x y=>ub b x y=true:=by
  rw [<- g3,List.pairwise_map];refine List.Pairwise.imp ?_ hs;intro u v hh;unfold ub lle;cases b
  ·simp only [Bool.false_eq_true,if_false] at hh ⊢;simp [hh]
  ·simp only [if_true] at hh ⊢;simp [hh]
 have he:=wm hperm hsort;rw [he] at g2;have hps:ps.length=out.length:=by have:=g1.length;simpa using this
 have hol:out.length=nss.length:=by rw [hp.length_eq,hlen]
 have hD0:H (s.heap.objs.size+1)=none:=I.hok.fresh (Nat.le_succ _);refine ⟨.ref (s.heap.objs.size+1),upd H (s.heap.objs.size+1) (.lst (ps.map (·.1))),I.laid (t':=s.toks) keep (Nat.le_succ _) ⟨?_,out,n',g1,hD⟩,rfl,q _ _ hD0 g2⟩;rw [List.length_map,hps,hol];exact Nat.le_trans hz (by decide)
theorem VG {m:PuS.Md} {pv:List Int->PV} (b:Bool) (I:L2.Inv X pins σ H s) {nss:List (List Int)} {x:V} {u:Value} {Q:VK} {E:Value->Shared->Prop} (tk:∀ a,W a->H a≠none) (r:Rep X.K (hid W H) (.lst (nss.map pv)) x) (rx:RelV x u)
  (hit:∀ ns∈nss,∀ x u,Rep X.K (hid W H) (pv ns) x->RelV x u->PuS.IT m s.heap u ns) (hz:nss.length<=100000) (hcmp:∀ (A':Around),A'.units<=X.A.units+5->∀ (s':Shared) (G:List Keyed),(∀ u∈G,∃ ns,PuS.IT m s'.heap u.1 ns)->PuS.Cmp X.prog X.w A' s' (PuS.kInts m s'.heap) (tuples' (PuS.kdM m)) G) (q:OkQ X.K W H Q (.lst ((wo b nss).map pv))) :
  wpAny (model X.prog X.w) X.A (call (.builtin "sorted") [u] (PuS.kwOf b)) (EP X pins σ Q) E s :=
 jp b I tk r rx hit hz hcmp fun p ys hp r=>uF q tk r hp
theorem Yo {k:Nat} (b:Bool) (I:L2.Inv X pins σ H s) {v z:PV} {x:V} {u:Value} {Q:VK} {E:Value->Shared->Prop} (tk:∀ a,W a->H a≠none) (r:Rep X.K (hid W H) v x) (rx:RelV x u) (e:uq b v=.ok z) (q:OkQ X.K W H Q z) :
  wpAny (model X.prog X.w) X.A (call (.builtin "sorted") [u] (PuS.kwOf b)) (EP X pins σ Q) E s:=by
 cases v with
 | lst vs =>
  simp only [uq] at e;obtain ⟨nss,e1,e⟩:=jy e
  split at e
  ·rename_i hz
   cases e;obtain ⟨rfl,hne⟩:=qW e1;exact VG (m:=.one) b I tk r rx (fun ns hn x u r q=>SX I (hne ns hn) r q) hz (fun A' _ s' G hG=>PuS.cmp_ints0 hG) q
  ·cases e
 | _=>simp [uq] at e
def Ji (d:De):De:=fun ρ=>(d ρ).bind (uq false)
def Kw (d:De):De:=fun ρ=>(d ρ).bind (uq true)
theorem wU:bootBuiltins "sorted" = some (.builtin "sorted"):=by decide
variable {a:Expr} {da:De} {p pos:Pos}
theorem Bk {k:Nat} (hr:Room k X.A) (hg:Gl X "sorted") (hm:X.mg "sorted" = none) (ha:DE X a da) (he:starEach [a] X.env=(false,eval a X.env)::starEach [] X.env:=by rfl) (hpl:(backTo pos (starEach [] X.env)).any (·.1)=false:=by rfl) :
  DE X (.Call (.Name "sorted" p) [a] [] pos) (Ji da):=by
 intro pins s σ H Q I ⟨W,ρ,er,h⟩;refine wpAny_Call_Name_kw (vv I hg hm wU ?_ (by decide) (by decide));refine PyProof.Rows.callWith_builtin1 (thn ((zg ha zi he) pos pins s σ H (fun ys H2=>∃ y v,ys=[y]/\ER X.K W H2 σ ρ/\Rep X.K (hid W H2) v y/\Fin X W H2 Q (uq false v)) I ?_) fun us s1 ⟨vs,H1,I1,r1,y,v,e,er1,ry,h1⟩=>?_) he hpl
 ·refine ⟨W,ρ,er,?_⟩;unfold Ji at h;cases e:da ρ with
  | exc z=>rw [e] at h;simp only [zd,e,Res.bind_exc];exact h
  | bad=>rw [e] at h;exact h.elim
  | ok v =>
   rw [e,Res.bind_ok] at h;simp only [zd,zj,e,Res.bind_ok];intro ys H2 s2 r2;obtain ⟨y,t,rfl,q1,q2⟩:=Reps.cons.mp r2;obtain rfl:=Reps.nil.mp q2;exact ⟨y,v,rfl,er.mono s2,q1,Fin.grow h s2⟩
 ·subst e;obtain ⟨w,rfl,rw'⟩:=wM r1;cases e2:uq false v with
  | exc z=>exact absurd e2 JD
  | bad=>rw [e2] at h1;exact h1.elim
  | ok z =>
   rw [e2] at h1;exact Yo (k:=k) false I1 er1.trk ry rw' e2 h1
theorem Sk {k:Nat} {j:Nat} {kp cp:Pos} (hr:Room k X.A) (hg:Gl X "sorted") (hm:X.mg "sorted" = none) (ha:DE X a da) (he:starEach [a] X.env=(false,eval a X.env)::starEach [] X.env:=by rfl)
  (hall:(backToKw pos (keywordEach [⟨some "reverse",.Constant (.bool true) j cp,kp⟩] X.env)).all (·.1.isSome)=true:=by rfl)
  (hks:(backToKw pos (keywordEach [⟨some "reverse",.Constant (.bool true) j cp,kp⟩] X.env)).filterMap (·.1)=[Str.ofString "reverse"]:=by rfl)
  (hp1:(backTo pos (starEach [a] X.env)).any (·.1)=false:=by rfl) (hp2:(backToKw pos (keywordEach [⟨some "reverse",.Constant (.bool true) j cp,kp⟩] X.env)).any (·.1.isNone)=false:=by rfl) :
  DE X (.Call (.Name "sorted" p) [a] [⟨some "reverse",.Constant (.bool true) j cp,kp⟩] pos) (Kw da):=by
 intro pins s σ H Q I ⟨W,ρ,er,h⟩;refine wpAny_Call_Name_kw (vv I hg hm wU ?_ (by decide) (by decide));refine PyProof.Rows.callWith_kw (thn ((zg ha zi he) pos pins s σ H (fun ys H2=>∃ y v,ys=[y]/\ER X.K W H2 σ ρ/\Rep X.K (hid W H2) v y/\Fin X W H2 Q (uq true v)) I ?_) fun us s1 ⟨vs,H1,I1,r1,y,v,e,er1,ry,h1⟩=>?_) (by rw [he]<;>rfl) hp1 hall hp2
 ·refine ⟨W,ρ,er,?_⟩;unfold Kw at h;cases e:da ρ with
  | exc z=>rw [e] at h;simp only [zd,e,Res.bind_exc];exact h
  | bad=>rw [e] at h;exact h.elim
  | ok v =>
   rw [e,Res.bind_ok] at h;simp only [zd,zj,e,Res.bind_ok];intro ys H2 s2 r2;obtain ⟨y,t,rfl,q1,q2⟩:=Reps.cons.mp r2;obtain rfl:=Reps.nil.mp q2;exact ⟨y,v,rfl,er.mono s2,q1,Fin.grow h s2⟩
 ·refine thn (JV (nm:=some "reverse") (kpos:=kp) (SR (b:=true)) MX pos pins s1 σ H1 (fun zs H2=>zs=[V.bl true]/\H2=H1) I1 ⟨rfl,rfl⟩) fun ws s2 ⟨zs,H2,I2,rz,e3,e4⟩=>?_
  subst e3 e4;rw [hks];obtain ⟨b,rfl,rb⟩:=wM rz;cases (show b=Value.bool true from rb);subst e;obtain ⟨w,rfl,rw'⟩:=wM r1;cases e2:uq true v with
  | exc z=>exact absurd e2 JD
  | bad=>rw [e2] at h1;exact h1.elim
  | ok z =>
   rw [e2] at h1;exact Yo (k:=k) true I2 er1.trk ry rw' e2 h1
end
end Pu
namespace Pu
open PySem L2
section
variable {α:Type} {d d' a b c':De} {s s':Ds} {c t t':Dt} {ds:Das} {ρ ρ':En} {f g:PV->PV->Res PV} {v u:PV} {vs us:List PV} {tg:Dg} {di:Di}
def TQ (s':Ds):Out->Res Out
 | .nx ρ'=>s' ρ'
 | o=>.ok o
@[simp] theorem qS:zJ s s' ρ=(s ρ).bind (TQ s'):=by
 unfold zJ;congr 1
@[simp] theorem vL:TQ s' (.nx ρ)=s' ρ:=(rfl)
@[simp] theorem Ey:TQ s' (.rt v)=.ok (.rt v):=(rfl)
def ifK (x y:En->Res α) (ρ:En) (k:Bool):Res α:=if k then x ρ else y ρ
@[simp] theorem Rl {x y:En->Res α}:ifK x y ρ true=x ρ:=(rfl)
@[simp] theorem QA {x y:En->Res α}:ifK x y ρ false=y ρ:=(rfl)
@[simp] theorem Ag:sIf c s s' ρ=(c ρ).bind (ifK s s' ρ):=(rfl)
@[simp] theorem SM:eIf c d d' ρ=(c ρ).bind (ifK d d' ρ):=(rfl)
def nxK (ρ:En):Res Out:=.ok (.nx ρ)
@[simp] theorem uW:nxK ρ=.ok (.nx ρ):=(rfl)
def AR (tg:Dg) (ρ:En) (v:PV):Res Out:=(tg v ρ).bind nxK
@[simp] theorem uX:yk d tg ρ=(d ρ).bind (AR tg ρ):=(rfl)
@[simp] theorem vq:AR tg ρ v=(tg v ρ).bind nxK:=(rfl)
@[simp] theorem xq {i:Nat}:zp i v ρ=.ok (ρ.set i (some (.val v))):=(rfl)
@[simp] theorem ML {i j:Nat}:vg i j (.tup [v,u]) ρ=.ok ((ρ.set i (some (.val v))).set j (some (.val u))):=(rfl)
def rtK (v:PV):Res Out:=.ok (.rt v)
@[simp] theorem uV:rtK v=.ok (.rt v):=(rfl)
@[simp] theorem vW:ym d ρ=(d ρ).bind rtK:=(rfl)
@[simp] theorem SK:wr ρ=.ok (.nx ρ):=(rfl)
def As:Out->Res PV
 | .rt v=>.ok v
 | .nx _=>.ok .non
 | _=>.bad
@[simp] theorem wY:As (.rt v)=.ok v:=(rfl)
theorem zQ {n:Nat}:yC n s vs=(s (zH n vs)).bind As:=by
 unfold yC;congr 1
def e2K (f:PV->PV->Res PV) (b:De) (ρ:En) (v:PV):Res PV:=(b ρ).bind (f v)
@[simp] theorem vX:e2 f a b ρ=(a ρ).bind (e2K f b ρ):=(rfl)
@[simp] theorem xW:e2K f b ρ v=(b ρ).bind (f v):=(rfl)
@[simp] theorem vp {h:List PV->Res PV}:eB h ds ρ=(ds ρ).bind h:=(rfl)
@[simp] theorem jv:eC v ρ=.ok v:=(rfl)
@[simp] theorem yE:zj ρ=.ok []:=(rfl)
def LD (v:PV) (vs:List PV):Res (List PV):=.ok (v::vs)
def acK (ds:Das) (ρ:En) (v:PV):Res (List PV):=(ds ρ).bind (LD v)
@[simp] theorem zR:zd d ds ρ=(d ρ).bind (acK ds ρ):=(rfl)
@[simp] theorem xc:acK ds ρ v=(ds ρ).bind (LD v):=(rfl)
@[simp] theorem yD:LD v vs=.ok (v::vs):=(rfl)
@[simp] theorem Zi:yX d ρ=(d ρ).bind asB:=(rfl)
@[simp] theorem XB {k:Bool}:asB (.bl k)=.ok k:=(rfl)
@[simp] theorem EF:vP d ρ=(d ρ).bind Wl:=(rfl)
@[simp] theorem Ew {k:Bool}:Wl (.bl k)=.ok k:=(rfl)
@[simp] theorem Eu:Wl (.lst vs)=.ok (!vs.isEmpty):=(rfl)
def Az (k:Bool):Res Bool:=.ok (!k)
@[simp] theorem EB {k:Bool}:Az k=.ok (!k):=(rfl)
@[simp] theorem Dr:vT t ρ=(t ρ).bind Az:=(rfl)
def LC (t:Dt) (ρ:En) (k:Bool):Res Bool:=if k then t ρ else .ok false
def orK (t:Dt) (ρ:En) (k:Bool):Res Bool:=if k then .ok true else t ρ
@[simp] theorem DF:Vz t t' ρ=(t ρ).bind (LC t' ρ):=(rfl)
@[simp] theorem EA:Yl t t' ρ=(t ρ).bind (orK t' ρ):=(rfl)
@[simp] theorem EM:LC t ρ true=t ρ:=(rfl)
@[simp] theorem EL:LC t ρ false=.ok false:=(rfl)
@[simp] theorem Dq:orK t ρ true=.ok true:=(rfl)
@[simp] theorem Ad:orK t ρ false=t ρ:=(rfl)
def Tr (d:De) (ρ:En) (v:PV):Res PV:=(asB v).bind fun k=>if k then d ρ else .ok (.bl false)
def Ln (d:De) (ρ:En) (v:PV):Res PV:=(asB v).bind fun k=>if k then .ok (.bl true) else d ρ
@[simp] theorem EI:Lo d d' ρ=(d ρ).bind (Tr d' ρ):=(rfl)
@[simp] theorem Ee:Tr d ρ (.bl true)=d ρ:=(rfl)
@[simp] theorem Dx:eOr d d' ρ=(d ρ).bind (Ln d' ρ):=(rfl)
@[simp] theorem EH:Ln d ρ (.bl true)=.ok (.bl true):=(rfl)
@[simp] theorem EG:Ln d ρ (.bl false)=d ρ:=(rfl)
def Sq (g:PV->PV->Res PV) (c':De) (ρ:En) (y:PV) (z:PV):Res PV:=(asB z).bind fun k=>if k then (c' ρ).bind fun w=>g y w else .ok (.bl false)
def Lw (f g:PV->PV->Res PV) (c':De) (ρ:En) (x y:PV):Res PV:=(f x y).bind (Sq g c' ρ y)
def AO (f g:PV->PV->Res PV) (b c':De) (ρ:En) (x:PV):Res PV:=(b ρ).bind (Lw f g c' ρ x)
@[simp] theorem DK:eCh f g a b c' ρ=(a ρ).bind (AO f g b c' ρ):=(rfl)
@[simp] theorem DC:AO f g b c' ρ v=(b ρ).bind (Lw f g c' ρ v):=(rfl)
@[simp] theorem DB:Lw f g c' ρ v u=(f v u).bind (Sq g c' ρ u):=(rfl)
@[simp] theorem Dz:Sq g c' ρ u (.bl true)=(c' ρ).bind (g u):=(rfl)
@[simp] theorem Dy:Sq g c' ρ u (.bl false)=.ok (.bl false):=(rfl)
def BF (vs:List PV):Res PV:=jm vs.length (.tup vs)
def PN (vs:List PV):Res PV:=jm vs.length (.lst vs)
@[simp] theorem Ab:Zu ds ρ=(ds ρ).bind BF:=(rfl)
@[simp] theorem VX:ql ds ρ=(ds ρ).bind PN:=(rfl)
theorem BL {n:Nat} (h:n<=sizeLine):jm n v=.ok v:=by unfold jm;rw [if_pos h]
theorem xt {n:Nat} (h:n<=100000):jm n v=.ok v:=BL (Nat.le_trans h (by decide))
@[simp] theorem Pf:BF []=.ok (.tup []):=xt (by simp)
@[simp] theorem Eb {v0:PV}:BF [v0]=.ok (.tup [v0]):=xt (by simp)
@[simp] theorem Ea {v0 v1:PV}:BF [v0,v1]=.ok (.tup [v0,v1]):=xt (by simp)
@[simp] theorem Ed:PN []=.ok (.lst []):=xt (by simp)
@[simp] theorem ZW {v0:PV}:PN [v0]=.ok (.lst [v0]):=xt (by simp)
def isK (T:Ty) (v:PV):Res PV:=.ok (.bl (isT T v))
@[simp] theorem DH {T:Ty}:eIs T d ρ=(d ρ).bind (isK T):=(rfl)
@[simp] theorem Dw {T:Ty}:isK T v=.ok (.bl (isT T v)):=(rfl)
def AB:PV->Res PV
 | .int i=>.ok (.int (-i))
 | _=>.bad
@[simp] theorem Ae:Jj d ρ=(d ρ).bind AB:=by unfold Jj;congr 1
@[simp] theorem Ri {i:Int}:AB (.int i)=.ok (.int (-i)):=(rfl)
def jj (tg:Dg) (s:Ds) (ρ:En) (vs:List PV):Res Out:=ji tg s vs ρ
@[simp] theorem VY:uw di tg s ρ=(di ρ).bind (jj tg s ρ):=(rfl)
@[simp] theorem Yu:yu d ρ=(d ρ).bind vC:=(rfl)
@[simp] theorem WC:vC (.lst vs)=.ok vs:=(rfl)
@[simp] theorem Rh:vC (.tup vs)=.ok vs:=(rfl)
@[simp] theorem MR:iR1 ds ρ=(ds ρ).bind rg1:=(rfl)
@[simp] theorem MQ:jh ds ρ=(ds ρ).bind zpF:=(rfl)
theorem ju {n:Nat} (h:n<=100000):rg1 [.int (n:Int)]=.ok ((List.range n).map fun k:Nat=>PV.int (k:Int)):=by
 simp only [rg1];rw [if_pos (by lia)];simp [rng]
@[simp] theorem MK {x y:List PV}:zpF [.lst x,.lst y]=.ok (zpL x y):=(rfl)
@[simp] theorem Et {x y:List PV}:zpF [.tup x,.tup y]=.ok (zpL x y):=(rfl)
@[simp] theorem zX:ze 0 (some (.val v)::ρ)=.ok v:=(rfl)
@[simp] theorem yj {i:Nat} {o:Option Sl}:ze (i+1) (o::ρ)=ze i ρ:=(rfl)
@[simp] theorem JT {i j:Int}:yi (.int i) (.int j)=.ok (.int (i+j)):=(rfl)
@[simp] theorem Ac {i j:Int}:Qk (.int i) (.int j)=.ok (.int (i-j)):=(rfl)
@[simp] theorem Af {i j:Int}:ltF (.int i) (.int j)=.ok (.bl (decide (i<j))):=(rfl)
@[simp] theorem ED {i j:Int}:leF (.int i) (.int j)=.ok (.bl (decide (i<=j))):=(rfl)
@[simp] theorem DJ {i j:Int}:gtF (.int i) (.int j)=.ok (.bl (decide (j<i))):=(rfl)
theorem yz {i j:Int} (h:0<j):jA (.int i) (.int j)=.ok (.int (i % j)):=by simp [jA,i2,h]
theorem SL {i j:Int} (h:0<j) (h2:j<1000000):Vh (.int i) (.int j)=.ok (.int (i/j)):=by
 simp only [Vh,i2];rw [if_pos (by lia)]
theorem zN {i j:Int} (h : -1000000<i/\i<1000000):yT (.int i) (.int j)=.ok (.int (i*j)):=by
 simp only [yT];rw [if_pos (by lia)]
theorem zP {i j:Int} (h : -1000000<j/\j<1000000):yT (.int i) (.int j)=.ok (.int (i*j)):=by
 simp only [yT];rw [if_pos (by lia)]
theorem Rj {k:Nat} (h:us.length*k<=100000) (hk:k<=100000):yT (.tup us) (.int (k:Int))=.ok (.tup (List.replicate k us).flatten):=by
 simp only [yT,Int.toNat_natCast];rw [if_pos ⟨by lia,by lia,Nat.le_trans h (by decide)⟩]
theorem JR {k:Nat} (h:us.length*k<=100000) (hk:k<=100000):yT (.lst us) (.int (k:Int))=.ok (.lst (List.replicate k us).flatten):=by
 simp only [yT,Int.toNat_natCast];rw [if_pos ⟨by lia,by lia,Nat.le_trans h (by decide)⟩]
theorem Rn (h:vs.length+us.length<=100000):yi (.tup vs) (.tup us)=.ok (.tup (vs++us)):=xt h
theorem jc (h:vs.length+us.length<=100000):yi (.lst vs) (.lst us)=.ok (.lst (vs++us)):=xt h
@[simp] theorem Rk:vD [.lst vs]=.ok (.int (vs.length:Nat)):=(rfl)
@[simp] theorem EC:vD [.tup vs]=.ok (.int (vs.length:Nat)):=(rfl)
@[simp] theorem Re:qX [.lst vs]=.ok (.tup vs):=(rfl)
@[simp] theorem EE {k:Bool}:Xi [.bl k]=.ok (eb k):=(rfl)
@[simp] theorem Dv {i:Int}:ixF (.lst vs) (.int i)=atF vs i:=(rfl)
@[simp] theorem Yt {i:Int}:ixF (.tup vs) (.int i)=atF vs i:=(rfl)
theorem VC (ns:List Int):qP [.lst (ns.map PV.int)]=.ok (.int ns.sum):=by
 simp [qP,xR,qR]
theorem KT (ns:List Int):qP [.tup (ns.map PV.int)]=.ok (.int ns.sum):=by
 simp [qP,xR,qR]
theorem Vq (ns:List Bool):Vs [.lst (ns.map PV.bl)]=.ok (.bl (ns.all id)):=by
 simp [Vs,GZ,qR]
theorem yf {k:Nat} {idx:List Nat} {t:Dg} {c:Dt} {e:De} {l:List α} {q h:α->PV} (hd:di ρ=.ok (l.map q)) (hz:l.length<=100000) (hs:∀ x∈l,qV t c e (zV k idx ρ) (q x)=.ok (some (h x))) :
  zC di k idx t c e ρ=.ok (.lst (l.map h)):=GP hd (Nat.le_trans hz (by decide)) hs
theorem WD {k:Nat} {idx:List Nat} {t:Dg} {c:Dt} {e:De} {l:List α} {p:α->Bool} {q h:α->PV} (hd:di ρ=.ok (l.map q)) (hz:l.length<=100000) (hs:∀ x∈l,qV t c e (zV k idx ρ) (q x)=.ok (if p x then some (h x) else none)) :
  zC di k idx t c e ρ=.ok (.lst ((l.filter p).map h)):=Jk hd (Nat.le_trans hz (by decide)) hs
def So (e:De) (ρ:En) (k:Bool):Res (Option PV):=if k then (e ρ).bind fun x=>.ok (some x) else .ok none
def AN (c:Dt) (e:De) (ρ:En):Res (Option PV):=(c ρ).bind (So e ρ)
def SI (v:PV):Res (Option PV):=.ok (some v)
@[simp] theorem uA:SI v=.ok (some v):=(rfl)
@[simp] theorem QB {e:De}:qV tg c e ρ v=(tg v ρ).bind (AN c e):=(rfl)
@[simp] theorem Yw {e:De}:AN c e ρ=(c ρ).bind (So e ρ):=(rfl)
@[simp] theorem Yv {e:De}:So e ρ true=(e ρ).bind SI:=(rfl)
@[simp] theorem Aj {e:De}:So e ρ false=.ok none:=(rfl)
@[simp] theorem EJ {x:PV}:GW (some (some (.val x)))=some (.val x):=(rfl)
@[simp] theorem MP:wN (some (.own vs)::ρ) 0=.ok vs:=(rfl)
@[simp] theorem MN {i:Nat} {o:Option Sl}:wN (o::ρ) (i+1)=wN ρ i:=(rfl)
def AI (i:Nat) (ρ:En) (vs:List PV):Res Out:=.ok (.nx (ρ.set i (some (.val (.lst vs)))))
@[simp] theorem Ah {i:Nat}:Gf i ρ=(wN ρ i).bind (AI i ρ):=(rfl)
@[simp] theorem Rm {i:Nat}:AI i ρ vs=.ok (.nx (ρ.set i (some (.val (.lst vs))))):=(rfl)
def Pr (i:Nat) (ρ:En) (vs:List PV):Res Out:=if vs.length<=sizeLine then .ok (.nx (ρ.set i (some (.own vs)))) else .bad
@[simp] theorem Ez {i:Nat}:JL i ds ρ=(ds ρ).bind (Pr i ρ):=(rfl)
theorem MO {i:Nat} (h:vs.length<=sizeLine):Pr i ρ vs=.ok (.nx (ρ.set i (some (.own vs)))):=by unfold Pr;rw [if_pos h]
@[simp] theorem Ec {i:Nat}:Pr i ρ []=.ok (.nx (ρ.set i (some (.own [])))):=MO (by simp)
def KI (i:Nat) (ρ:En) (vs:List PV) (v:PV):Res Out:=if vs.length<sizeLine then .ok (.nx (ρ.set i (some (.own (vs++[v]))))) else .bad
def AS (i:Nat) (d:De) (ρ:En) (vs:List PV):Res Out:=(d ρ).bind (KI i ρ vs)
@[simp] theorem DD {i:Nat}:VU i d ρ=(wN ρ i).bind (AS i d ρ):=(rfl)
@[simp] theorem EK {i:Nat}:AS i d ρ vs=(d ρ).bind (KI i ρ vs):=(rfl)
theorem JS {i:Nat} (h:vs.length<100000):KI i ρ vs v=.ok (.nx (ρ.set i (some (.own (vs++[v]))))):=by unfold KI;rw [if_pos (Nat.lt_trans h (by decide))]
@[simp] theorem Do:Ji d ρ=(d ρ).bind (uq false):=(rfl)
@[simp] theorem Ex:Kw d ρ=(d ρ).bind (uq true):=(rfl)
@[simp] theorem Th:isT .int .non=false:=(rfl)
@[simp] theorem Ld {k:Bool}:isT .int (.bl k)=true:=(rfl)
@[simp] theorem Tj {i:Int}:isT .int (.int i)=true:=(rfl)
@[simp] theorem Tg {x:Str}:isT .int (.str x)=false:=(rfl)
@[simp] theorem Ti:isT .int (.lst vs)=false:=(rfl)
@[simp] theorem Tf:isT .int (.tup vs)=false:=(rfl)
@[simp] theorem Tl {k:Bool}:isT .bool (.bl k)=true:=(rfl)
@[simp] theorem PX {i:Int}:isT .bool (.int i)=false:=(rfl)
@[simp] theorem Ta:isT .tup .non=false:=(rfl)
@[simp] theorem Lc {k:Bool}:isT .tup (.bl k)=false:=(rfl)
@[simp] theorem Td {i:Int}:isT .tup (.int i)=false:=(rfl)
@[simp] theorem SZ {x:Str}:isT .tup (.str x)=false:=(rfl)
@[simp] theorem Tc:isT .tup (.lst vs)=false:=(rfl)
@[simp] theorem SY:isT .tup (.tup vs)=true:=(rfl)
@[simp] theorem Te:isT .lst (.lst vs)=true:=(rfl)
end
end Pu
namespace Pu
open PySem PySem.Spec PyProof.Rows L2 PySem.SeqAt
open AutoSeq1 (wpAny_loadPart')
theorem Qz {M:Model} {A:Around} {E:Value->Shared->Prop} {s:Shared} {β:Type} {body:Nat->Option β×PUnit->Sem (ForInStep (Option β×PUnit))} {R:Option β×PUnit->Shared->Prop} {j:Nat} {s':Shared} {b:β}
  (hn:∀ i,i<j->∀ P:ForInStep (Option β×PUnit)->Shared->Prop,P (.yield (none,⟨⟩)) s->wpAny M A (body i (none,⟨⟩)) P E s)
  (hy:∀ P:ForInStep (Option β×PUnit)->Shared->Prop,P (.done (some b,⟨⟩)) s'->wpAny M A (body j (none,⟨⟩)) P E s) (h:R (some b,⟨⟩) s') :
  ∀ (m k:Nat),k<=j->j<k+m->wpAny M A (forIn (List.range' k m) (none,⟨⟩) body) R E s:=by
 intro m
 induction m with
 | zero=>intro k h1 h2;lia
 | succ m ih =>
  intro k h1 h2;rw [List.range'_succ,List.forIn_cons]
  by_cases e:k=j
  ·subst e;exact jB (hy _ (jP h))
  ·exact jB (hn k (by lia) _ (ih (k+1) (by lia) (by lia)))
theorem YY (l:Addr) (items:Array Value) (n:Nat) (dd:Option Addr) (sl:Array (Option Value)) (x:Value) (e:Value->Bool) (j:Nat) (hj:j<items.size) (hjt:e items[j]=true) (hlt:∀ i (h:i<items.size),i<j->e items[i]=false) :
  Meets (Builtin.«tuple.index» ⟨[.ref l,x],[]⟩)
   (fun A R s=>s.heap.get? l=some {cls:=.type "tuple",dict:=dd,data:=.seq items n,slots:=sl}/\(∀ y,y∈items->EqAt A.in1 s y x (e y))/\R (.ok (.ret (.int (j:Nat) s.toks))) {s with toks:=s.toks+1}) :=
 .of_wp fun prog w A R s h=>by
  obtain ⟨hp,g,d,tk,os⟩:=s;obtain ⟨hl,he,h⟩:=h
  wp_walk using wpAny_loadPart' hl
  show wpAny (model prog w) A.in1 (forIn ([:min items.size items.size]:Std.Legacy.Range) ((none:Option PySem.Fin),()) (fun (i:Nat) (_:Option PySem.Fin×Unit)=>(match items[i]? with
      | some y=>do
       let b <- eqBool y x
       if b=true then do
         let r <- retInt (i:Int)
         pure (ForInStep.done (some r,()))
        else pure (ForInStep.yield (none,()))
      | _=>pure (ForInStep.yield (none,())):Sem (ForInStep (Option PySem.Fin×Unit))))) _ _ _
  rw [Std.Legacy.Range.forIn_eq_forIn_range'];have hsz:([:min items.size items.size]:Std.Legacy.Range).size=items.size:=by simp [Std.Legacy.Range.size]
  rw [hsz];refine Qz (j:=j) (s':=⟨hp,g,d,tk+1,os⟩) (b:=.done (.ret (.int (j:Nat) tk))) (fun i hi P hP=>?_) (fun P hP=>?_) ?_ items.size 0 (Nat.zero_le _) (by lia)
  ·have hi':i<items.size:=by lia
   rw [getElem?_pos items i hi'];dsimp only;refine jB (he items[i] (Array.getElem_mem hi') prog w _ _ ?_);rw [hlt i hi' hi];simp only [Bool.false_eq_true,if_false];exact jP hP
  ·rw [getElem?_pos items j hj];dsimp only;refine jB (he items[j] (Array.getElem_mem hj) prog w _ _ ?_);rw [hjt];simp only [if_true]
   wp_walk
   exact hP
  ·wp_walk
   exact ⟨_,rfl,h⟩
section
variable {X:Cx} {a b:Expr} {da db:De}
theorem Nu {k:Nat} (hr:Room k X.A):MtT X "tuple.index" xS:=by
 intro pins s σ H W vs b z x y v u Q I rx ry ra rb e q;obtain ⟨as,r1⟩:=yH I (.tup vs) x v (ra.mono hid_sub) rx;obtain ⟨bs,r2⟩:=yH I b y u (rb.mono hid_sub) ry;simp only [xS] at e
 split at e
 ·rename_i hc
  rw [Bool.and_eq_true] at hc;obtain ⟨c1,c2⟩:=zM hc.1;obtain ⟨c3,c4⟩:=zM hc.2;have hu:=wA hr;simp only [dat] at r1 c3 c4;have c3':PyData.canLayAll0 (dats vs)=true:=by simpa [PyData.canLay0] using c3
  split at e
  ·rename_i j hj
   cases e;cases r1 with
   | tuple h1 h2 h3 h4 =>
    rename_i l o its n
    obtain ⟨cls,dd,data,sl⟩:=o;simp only at h2 h3;subst h2 h3;have hm:=readsAll_map _ _ _ c3' h4;rw [UR] at hm;have hlen:its.size=vs.length:=by
     have:=congrArg List.length hm;simpa using this
    obtain ⟨hjl,hjt,hjf⟩:=List.findIdx?_eq_some_iff_getElem.mp hj;have at_:∀ i (h:i<its.size),PyData.eqv (readOf s.heap its[i]) (dat b)=eqv (vs[i]'(by lia)) b:=fun i h=>by
     have q1:(its.toList.map (readOf s.heap))[i]?=(vs.map dat)[i]?:=by rw [hm]
     rw [List.getElem?_map,List.getElem?_map,List.getElem?_eq_getElem (by simpa using h),List.getElem?_eq_getElem (by lia)] at q1;simp only [Option.map_some,Option.some.injEq,Array.getElem_toList] at q1;rw [q1];rfl
    refine call_meets F.slot_tuple_index ⟨_,h1,rfl⟩ F.entry_tuple_index (F.args_tuple_index_2 _ _) (YY _ _ _ _ _ _ (fun y=>PyData.eqv (readOf s.heap y) (dat b)) j (by lia) (by rw [at_];exact hjt) (fun i h hi=>by rw [at_];simpa using hjf i hi)) ⟨h1,items_eqAt h4 r2 c3' c1 (by lia),?_⟩
    exact ⟨.int _,H,I.tok _,⟨_,rfl⟩,okI q⟩
  ·cases e
 ·cases e
theorem YN {k:Nat} {apos cpos:Pos} (hr:Room k X.A) (ha:DE X a da) (hb:DE X b db) (hbase:attributeBase a "index" X.env (eval a X.env)=eval a X.env:=by rfl)
  (hfew:((backTo cpos (starEach [b] X.env)).all (fun x=>!x.1)&&(backToKw cpos (keywordEach [] X.env)).all (fun x=>x.1.isSome)
   && decide ([b].length+([]:List Keyword).length+(if ([]:List Keyword).isEmpty then 0 else 1)<30))=true:=by rfl)
  (hline:(apos.endLine==cpos.line)=true:=by rfl) (hs:starEach [b] X.env=(false,eval b X.env)::starEach [] X.env:=by rfl) (hplain:(backTo cpos (starEach [] X.env)).any (·.1)=false:=by rfl)
  (hnx:∀ ρ z,db ρ≠.exc z:=by intro _ _ h;first | (cases h;done) | exact Pu.eVar_nx h) :
  DE X (.Call (.Attribute a "index" apos) [b] [] cpos) (e2 xS da db):=Ls F.slot_tuple_index F.type_tuple_index (Nu hr) Jd ha hb hnx Nn hbase hfew hline hs hplain
end
end Pu
namespace Pu
open PySem L2
def ue (i:Nat):List PV->List PV
 | []=>[]
 | v::vs=>.tup [.int (i:Int),v]::ue (i+1) vs
def enF:PV->Res (List PV)
 | .lst vs=>.ok (ue 0 vs)
 | _=>.bad
def Ko (d:De):Di:=fun ρ=>(d ρ).bind enF
@[simp] theorem Ph {d:De} {ρ:En}:Ko d ρ=(d ρ).bind enF:=(rfl)
@[simp] theorem Ai {vs:List PV}:enF (.lst vs)=.ok (ue 0 vs):=(rfl)
theorem Zt {α:Type} (g:α->PV):∀ (l:List α) (i:Nat),ue i (l.map g)=(l.zipIdx i).map fun p=>PV.tup [.int (p.2:Nat),g p.1]
 | [],_=>rfl
 | a::l,i=>by rw [List.map_cons,ue,Zt g l,List.zipIdx_cons,List.map_cons]
def Xw (i:Nat) (ρ:En) (v:PV) (vs:List PV) (k:PV):Res Out:=match k with
 | .int j=>match ixN vs.length j with
  | some m=>.ok (.nx (ρ.set i (some (.own (vs.set m v)))))
  | none=>.bad
 | _=>.bad
def JK (i:Nat) (dk:De) (ρ:En) (v:PV) (vs:List PV):Res Out:=(dk ρ).bind (Xw i ρ v vs)
def My (i:Nat) (dk:De) (ρ:En) (v:PV):Res Out:=(wN ρ i).bind (JK i dk ρ v)
@[simp] theorem MM {i:Nat} {dk d:De} {ρ:En}:Xy i dk d ρ=(d ρ).bind (My i dk ρ):=by
 unfold Xy My JK;congr 1
@[simp] theorem JQ {i:Nat} {dk:De} {ρ:En} {v:PV}:My i dk ρ v=(wN ρ i).bind (JK i dk ρ v):=(rfl)
@[simp] theorem JP {i:Nat} {dk:De} {ρ:En} {v:PV} {vs:List PV}:JK i dk ρ v vs=(dk ρ).bind (Xw i ρ v vs):=(rfl)
theorem Pg {i:Nat} {ρ:En} {v:PV} {vs:List PV} {k:Nat} (h:k<vs.length):Xw i ρ v vs (.int (k:Int))=.ok (.nx (ρ.set i (some (.own (vs.set k v))))):=by
 unfold Xw ixN;simp [h]
end Pu
namespace Pu
open PySem PySem.Spec PyProof.Rows L2
def Ite (K:PySem.W.Frag) (l:Addr):It :=
 ⟨fun i H=>∃ xs x,SqL K H l xs/\xs[i]?=some x,
  fun i H z H'=>∃ p x,z=.ref p/\H p=none/\H'=upd H p (.tup [.int (i:Int),x])/\∀ xs,SqL K H l xs->xs[i]?=some x,
  fun i H=>∃ xs,SqL K H l xs/\xs.length<=i⟩
def En2 (e it l:Addr) (i:Nat) (h:Heap):Prop:=(∃ old,IsEnum h e it (i:Int) old)/\h.IsListIter it l i
theorem KQ {P:Program} {w:World} {K:PySem.W.Frag} {es:List Expr} {kk:Nat} {ps:Pos} (e it l:Addr) (hei:e≠it) :
  Turn P w K (.Tuple es kk ps) (Ite K l) [e,it] e (En2 e it l) where
 mem:=by simp
 obj:=fun i h Z c hc=>by
  obtain ⟨⟨old,q⟩,o,ho,hcl,hd⟩:=Z;simp only [List.mem_cons,List.not_mem_nil,or_false] at hc
  rcases hc with rfl | rfl
  ·exact ⟨_,q,fun v z=>by cases z⟩
  ·exact ⟨o,ho,fun v z=>by rw [hd] at z;cases z⟩
 keep:=fun i h h' ⟨⟨old,q⟩,o,ho,r⟩ k=>⟨⟨old,k e (by simp) _ q⟩,o,k it (by simp) _ ho,r⟩
 item:=by
  intro X hP hw hK hc i pins s σ H E I hf Z hg;subst hP hw hK;obtain ⟨xs,x,qa,hx⟩:=hg;obtain ⟨its,r1,pl,hz⟩:=I.list qa;obtain ⟨u,hu,ru⟩:=r1.get hx;obtain ⟨⟨old,he⟩,hit⟩:=Z;refine wpAny_pyNext_enum_item he hit pl.isList (x:=u) (by simpa using hu) hei fun h' he' hit' pr sz kp=>⟨_,rfl,?_⟩
  refine wpAny_letOwnedTupleGo_enum (s:={s with heap:=h',toks:=s.toks+1}) he' fun h2 he2 e2=>?_
  have fr:H s.heap.objs.size=none:=I.fresh;have hel:e<s.heap.objs.size:=jH he;have hil:it<s.heap.objs.size:=by obtain ⟨o,ho,_⟩:=hit;exact jH ho
  have pz:s.heap.objs.size≠e:=Nat.ne_of_gt hel;have up:∀ c o,c∉[e,it]->s.heap.get? c=some o->h2.get? c=some o:=fun c o hc q=>by
   simp only [List.mem_cons,List.not_mem_nil,or_false,not_or] at hc;exact e2.extBut _ _ hc.1 (kp c o hc.1 hc.2 q)
  have nH:∀ c o,H c=some o->c∉[e,it]:=fun c o q hc=>by rw [(hf c hc).1] at q;cases q
  have pT:h2.get? s.heap.objs.size=some {cls:=.type "tuple",data:=.seq #[.int (i:Int) s.toks,u]}:=e2.extBut _ _ pz pr;have I2:L2.Inv X pins σ (upd H s.heap.objs.size (.tup [.int (i:Int),x])) {s with heap:=h2,gens:=s.gens,drawn:=s.drawn,toks:=s.toks+1}:=by
   refine I.step (ch:=[e,it]) (fun c hc=>?_) (fun c o _ _ hc q _=>up c o hc q) (fun c o _ _ hc q _=>⟨o.slots,up c o hc q⟩) (fun c o _ q n=>by rw [zu (Nat.ne_of_lt (jH q))];exact n)
    (fun c o hc q=>⟨o,up c o hc q⟩) (fun c l q=>by rw [zu (zA q fr)];exact q) (fun c o l q=>by rw [zu (zA q fr)];exact q) (fun c l q=>⟨#[],by rw [zu (zA q fr),q];simp⟩) (fun m hm=>?_) (fun c o q=>?_) I.bare
   ·obtain ⟨f0,f1,f2,f3,f4,f5⟩:=hf c hc;exact ⟨f3,f1,f4,f5⟩
   ·obtain ⟨o,es',ep,ho,rr⟩:=hm;refine ⟨o,es',ep,up _ o (fun hc=>?_) ho,rr⟩;exact (hf _ hc).2.1 rfl
   ·by_cases hcp:c=s.heap.objs.size
    ·subst hcp;rw [zE] at q;cases q;exact ⟨by show 2<=sizeLine;decide,[.int (i:Int) s.toks,u],.cons ⟨_,rfl⟩ (.cons ru .nil),⟨_,pT,rfl,rfl,_,rfl⟩⟩
    ·rw [zu hcp] at q;refine (I.hok c o q).stay (fun d ob hd e=>up d ob ?_ e) (fun d e=>by rw [zu (zA e fr)];exact e) fun d l e=>by rw [zu (zA e fr)];exact e
     rcases hd with hd | hd
     ·rw [hd];exact nH c o q
     ·exact nH d _ hd
  refine ⟨.ref s.heap.objs.size,_,I2,rfl,⟨_,x,rfl,fr,rfl,fun zs hl=>by rw [I.list_inj hl qa];exact hx⟩,⟨⟨u,?_⟩,?_⟩,fun c hc=>?_⟩
  ·have z:((i+1:Nat):Int)=(i:Int)+1:=by lia
   rw [z];exact he2
  ·obtain ⟨o,ho,r⟩:=hit';exact ⟨o,e2.extBut _ _ (Ne.symm hei) ho,r⟩
  ·have hcl:c<s.heap.objs.size:=by
    simp only [List.mem_cons,List.not_mem_nil,or_false] at hc
    rcases hc with rfl | rfl
    ·exact hel
    ·exact hil
   rw [zu (Nat.ne_of_lt hcl)];exact (hf c hc).1
 done:=by
  intro X hP hw hK hc i pins s σ H E I hf Z hg;subst hP hw hK;obtain ⟨xs,qa,hend⟩:=hg;obtain ⟨its,r1,pl,hz⟩:=I.list qa;have l1:=r1.length;obtain ⟨⟨old,he⟩,hit⟩:=Z;refine wpAny_pyNext_enum_end (I.ok.hd hc) he hit pl.isList (by simp;lia) fun h' kp=>⟨rfl,?_⟩
  have up:∀ c o,c∉[it]->s.heap.get? c=some o->h'.get? c=some o:=fun c o hc q=>kp c o (fun z=>hc (by simp [z])) q
  have nH:∀ c o,H c=some o->c∉[it]:=fun c o q hc=>by
   have hc':c=it:=by simpa using hc
   rw [(hf c (by simp [hc'])).1] at q;cases q
  exact I.step (g':=s.gens) (d':=s.drawn) (t':=s.toks) (ch:=[it]) (fun c hc=>by
    have hc':c=it:=by simpa using hc
    obtain ⟨f0,f1,f2,f3,f4,f5⟩:=hf c (by simp [hc']);exact ⟨f3,f1,f4,f5⟩) (fun c o _ _ hc q _=>up c o hc q) (fun c o _ _ hc q _=>⟨o.slots,up c o hc q⟩) (fun c o _ q n=>n) (fun c o hc q=>⟨o,up c o hc q⟩) (fun c l q=>q) (fun c o l q=>q) (fun c l q=>⟨#[],by rw [q];simp⟩)
    (fun m hm=>by
     obtain ⟨o,es',ep,ho,rr⟩:=hm;refine ⟨o,es',ep,up _ o (fun hc=>?_) ho,rr⟩;have hc':X.env.locals=it:=by simpa using hc
     exact (hf it (by simp)).2.1 hc'.symm)
    (fun c o q=>(I.hok c o q).stay (fun d ob hd e=>up d ob (by
     rcases hd with hd | hd
     ·rw [hd];exact nH c o q
     ·exact nH d _ hd) e) (fun _ e=>e) fun _ _ e=>e) I.bare
 self:=fun _ _ _ _ _ ⟨⟨old,he⟩,_⟩ h=>wpAny_pyIter_enum he h
theorem XR:∀ (vs:List PV) (k i:Nat) (v:PV),(ue k vs)[i]?=some v->∃ x,vs[i]?=some x/\v=.tup [.int ((k+i:Nat):Int),x]
 | [],k,i,v,h=>by simp [ue] at h
 | x::vs,k,0,v,h=>by simp [ue] at h;exact ⟨x,rfl,h.symm⟩
 | x::vs,k,i+1,v,h=>by
  obtain ⟨y,h1,h2⟩:=XR vs (k+1) i v (by simpa [ue] using h);refine ⟨y,by simpa using h1,?_⟩;rw [h2];congr 3;lia
theorem jO:∀ (vs:List PV) (k:Nat),(ue k vs).length=vs.length
 | [],_=>rfl
 | _::vs,k=>by simp [ue,jO vs]
theorem GG {K:PySem.W.Frag} {G:Hp} {l:Addr} {vs:List PV} {xs:List V} (h1:SqL K G l xs) (r1:Reps K G vs xs):ZT K G (Ite K l) (ue 0 vs):=by
 intro i H1 hs;have q1:=hs.seq h1;refine ⟨fun v ev=>?_,fun e=>⟨xs,q1,?_⟩⟩
 ·obtain ⟨x,e1,rfl⟩:=XR _ _ _ _ ev;obtain ⟨x',e3,r3⟩:=r1.get e1;refine ⟨⟨xs,x',q1,e3⟩,fun z H2 ⟨p,x2,ez,hp,eH,f1⟩=>?_⟩
  have g1:=f1 xs q1;rw [e3] at g1;cases g1;subst ez eH;refine ⟨yv hp,fun W' tk hg=>?_⟩
  refine Rep.tup (.inl (.inl (Yg fun w=>tk p w hp))) (Reps.mk (Rep.int.mpr ?_) (Reps.mk ((r3.mono hg).mono (zD (yv hp))) (Reps.nil.mpr rfl)));rw [Nat.zero_add]
 ·rw [jO] at e;rw [r1.length];lia
theorem YT:bootBuiltins "enumerate" = some (.type "enumerate"):=by decide
section
variable {X:Cx} {p pos:Pos} {a:Expr} {da:De}
theorem Pm {ta:TA} {es:List Expr} {kk:Nat} {ps:Pos} (hg:Gl X "enumerate") (hm:X.mg "enumerate" = none) (ha:PA X [a] ta) (hs:starEach [a] X.env=[(false,eval a X.env)]:=by rfl) :
  PI X (.Tuple es kk ps) (.Call (.Name "enumerate" p) [a] [] pos) (fun σ H R=>ta σ H fun vs H1=>∃ l xs,vs=[.ref l]/\SqL X.K H1 l xs/\R (Ite X.K l) H1):=by
 intro pins s σ H R I h;refine Call_ (vv I hg hm YT (PyProof.Rows.callWith_type1 (thn (ha pos pins s σ H _ I h) fun us s1 ⟨vs,H1,I1,r1,q1⟩=>?_) (by rw [hs];rfl) (by rfl)))
 obtain ⟨l,xs,e,g1,q⟩:=q1;subst e;obtain ⟨u,rfl,ru⟩:=wM r1;cases ru;obtain ⟨its,rv,pl,hz⟩:=I1.list g1;refine call_enumerate_list pl.isList fun h' he hit sz kp=>?_
 have I2:L2.Inv X pins σ H1 {s1 with heap:=h',toks:=s1.toks}:=I1.kept (t':=s1.toks) kp
 refine wpAny_pyIter_enum he ⟨_,[s1.heap.objs.size+1,s1.heap.objs.size],_,_,H1,rfl,I2,KQ _ _ l (Nat.succ_ne_self _),⟨⟨_,he⟩,hit⟩,fun b hb=>?_,q⟩
 have hb':s1.heap.objs.size<=b:=by
  simp only [List.mem_cons,List.not_mem_nil,or_false] at hb
  rcases hb with e | e<;>rw [e]
  ·exact Nat.le_succ _
  ·exact Nat.le_refl _
 exact I1.fpOk hb' (I1.hok.fresh hb')
theorem Kz {es:List Expr} {kk:Nat} {ps:Pos} (hg:Gl X "enumerate") (hm:X.mg "enumerate" = none) (ha:DE X a da) (hs:starEach [a] X.env=[(false,eval a X.env)]:=by rfl) :
  DI X (.Tuple es kk ps) (.Call (.Name "enumerate" p) [a] [] pos) (Ko da):=WF (Pm hg hm (zg ha zi hs) hs) fun σ H R ⟨W,ρ,er,h⟩=>by
 have hb:On (da ρ) (fun x=>XW X x H) fun v=>FinI X W H R (enF v):=FinI.bind h
 have h':On (zd da zj ρ) (fun x=>XW X x H) fun us=>∃ v,us=[v]/\FinI X W H R (enF v):=by
  unfold zd zj;cases e:da ρ with
  | ok v=>rw [e] at hb;exact ⟨v,rfl,hb⟩
  | exc z=>rw [e] at hb;exact hb
  | bad=>rw [e] at hb;exact hb
 refine xN (zd da zj) er h' fun us xs H1 s1 er1 r1 ⟨v,e,h1⟩=>?_
 subst e;obtain ⟨y,t,rfl,q1,q2⟩:=Reps.cons.mp r1;obtain rfl:=Reps.nil.mp q2;cases v with
 | lst vs =>
  obtain ⟨l,zs,rfl,g1,g2⟩:=Rep.lst'.mp q1;exact ⟨l,zs,rfl,xP g1,h1 _ H1 s1 (GG g1 g2)⟩
 | _=>exact h1.elim
end
end Pu
namespace PuS
open PySem PyProof.Rows PySem.SeqAt
mutual
def ltD:PyData->PyData->Option Bool
 | .int x,.int y=>some (decide (x<y))
 | .tuple xs,.tuple ys=>ltDs xs ys
 | _,_=>none
def ltDs:List PyData->List PyData->Option Bool
 | [],[]=>some false
 | [],_::_=>some true
 | _::_,[]=>some false
 | x::xs,y::ys=>if PyData.eqv x y=true then ltDs xs ys else ltD x y
end
theorem NB {xs ys:List PyData} (h:xs=[]\/ys=[]):ltDs xs ys=some (decide (xs.length<ys.length)):=by
 cases xs with
 | nil=>cases ys with
  | nil=>simp [ltDs]
  | cons y ys=>simp [ltDs]
 | cons x xs=>cases ys with
  | nil=>simp [ltDs]
  | cons y ys=>simp at h
def SB (A:Around) (s:Shared) (a b:Value) (r:Bool):Prop :=
 ∀ (prog:Program) (w:World) (E:Value->Shared->Prop) (Q:Value->Shared->Prop),Q (.bool r) s->wpAny (model prog w) A (richCompare .Lt a b) Q E s
def Za (A:Around) (s:Shared) (r:Bool):List Value->List Value->List PyData->List PyData->Prop
 | v::vs,w::ws,x::xs,y::ys=>EqAt A s v w (PyData.eqv x y)/\(if PyData.eqv x y=true then Za A s r vs ws xs ys else SB A s v w r)
 | [],ws,[],ys=>ws.length=ys.length/\r=decide (0<ys.length)
 | vs,[],xs,[]=>vs.length=xs.length/\r=false
 | _,_,_,_=>False
theorem Gz {A:Around} {s:Shared} {a b:Addr} {oa ob:Obj} {vs ws:Array Value} {na nb:Nat} {xs ys:List PyData} {r:Bool} (ha:s.heap.get? a=some oa) (ca:oa.cls=.type "tuple") (da:oa.data=.seq vs na)
  (hb:s.heap.get? b=some ob) (cb:ob.cls=.type "tuple") (db:ob.data=.seq ws nb) (hu:A.units<cLine) (hp:Za A.in1 s r vs.toList ws.toList xs ys):SB A s (.ref a) (.ref b) r:=by
 intro prog w E Q hq;have hTa:s.TypeIs (.ref a) "tuple" := ⟨oa,ha,ca⟩;have hTb:s.TypeIs (.ref b) "tuple" := ⟨ob,hb,cb⟩;refine wpAny_richCompare_same_room hTa hTb F.slot_tuple_lt (wpAny_call_entry F.slot_tuple_lt hTa F.entry_tuple_lt ?_ (F.args_tuple_lt_2 _ _)) hu;show wpAny _ _ (isInstance (.ref b) (.type "tuple")>>=_) _ _ s;refine jB (wpAny_isInstance hTb isSubtype_tuple_tuple ?_);simp only [Bool.not_true,Bool.false_eq_true,if_false];refine jB (wpAny_tupleItemsOf ha da ?_);refine jB (wpAny_tupleItemsOf hb db ?_);refine jB ?_;refine wpAny_forIn_list _
  (fun rest st s'=>st.1=none/\s'=s/\∃ vs' ws' xs' ys',rest=List.zip vs' ws'/\Za A.in1 s r vs' ws' xs' ys'/\(vs'.length<ws'.length↔vs.size<ws.size))
  _ ?_ ?_ _ _ ⟨rfl,rfl,vs.toList,ws.toList,xs,ys,rfl,hp,by simp⟩
 ·rintro ⟨u,v⟩ rest st s' ⟨hr,rfl,vs',ws',xs',ys',hz,hp',hl⟩
  match vs',ws',xs',ys',hp' with
  | v'::vs'',w'::ws'',x::xs'',y::ys'',hp' =>
   simp only [List.zip_cons_cons,List.cons.injEq,Prod.mk.injEq] at hz;obtain ⟨⟨rfl,rfl⟩,rfl⟩:=hz;obtain ⟨h1,h2⟩:=hp';refine jB (h1 prog w _ _ ?_);cases hk:PyData.eqv x y with
   | true =>
    rw [hk,if_pos rfl] at h2;simp only [Bool.not_true,Bool.false_eq_true,if_false];exact jP ⟨rfl,rfl,vs'',ws'',xs'',ys'',rfl,h2,by simpa using hl⟩
   | false =>
    rw [hk,if_neg (by simp)] at h2;simp only [Bool.not_false,if_true];refine jB (wpAny_rule (jB (h2 prog w _ _ ?_)));exact jB (jP (jP (jP ⟨_,rfl,by simp,hq⟩)))
  | [],ws'',[],ys'',_=>simp at hz
  | _::_,[],_,[],_=>simp at hz
 ·rintro ⟨r1,r2⟩ s' ⟨hr,rfl,vs',ws',xs',ys',hz,hp',hl⟩;simp only at hr;subst hr;refine jP ?_;have hfin:decide (vs.size<ws.size)=r:=by
   match vs',ws',xs',ys',hp' with
   | [],ws'',[],ys'',hp' =>
    obtain ⟨e1,e2⟩:=hp';rw [e2,decide_eq_decide,<- hl,e1];simp
   | _::_,[],_,[],hp' =>
    rw [hp'.2,decide_eq_false_iff_not,<- hl];simp
   | _::_,_::_,_::_,_::_,_=>simp at hz
   | [],ws'',x::xs'',ys'',hp'=>cases ws''<;>cases ys''<;>simp [Za] at hp'
  refine ⟨.bool (decide (vs.size<ws.size)),rfl,by simp,?_⟩;rw [hfin];exact hq
theorem PM (A:Around) (s:Shared) (i j:Int) (t u:Tok):SB A s (.int i t) (.int j u) (decide (i<j)):=fun prog w E Q hq=>(show wpAny (model prog w) A (compareOp .Lt (.int i t) (.int j u)) Q E s from lt_int hq)
mutual
theorem jD:∀ (da db:PyData) {A:Around} {s:Shared} {a b:Value} {as bs:List Addr} {r:Bool},Reads s.heap a da as->Reads s.heap b db bs->da.canLay0=true->db.canLay0=true->A.units+min da.depth db.depth<cLine->ltD da db=some r->SB A s a b r
 | .int x,.int y,A,s,a,b,as,bs,r,ra,rb,ha,hb,hu,h=>by
  cases ra;cases rb;simp only [ltD,Option.some.injEq] at h;subst h;exact PM A s _ _ _ _
 | .tuple xs,.tuple ys,A,s,a,b,as,bs,r,ra,rb,ha,hb,hu,h=>by
  cases ra with
  | tuple h1 h2 h3 h4 =>
   cases rb with
   | tuple k1 k2 k3 k4 =>
    simp only [ltD] at h;exact Gz h1 h2 h3 k1 k2 k3 (room_here hu) (pairs_reads xs ys h4 k4 ha hb (room_in hu) h)
 | .none,_,_,_,_,_,_,_,_,_,_,_,_,_,h=>by simp [ltD] at h
 | .bool _,_,_,_,_,_,_,_,_,_,_,_,_,_,h=>by simp [ltD] at h
 | .str _,_,_,_,_,_,_,_,_,_,_,_,_,_,h=>by simp [ltD] at h
 | .list _,_,_,_,_,_,_,_,_,_,_,_,_,_,h=>by simp [ltD] at h
 | .dict _,_,_,_,_,_,_,_,_,_,_,_,_,_,h=>by simp [ltD] at h
 | .int _,.none,_,_,_,_,_,_,_,_,_,_,_,_,h=>by simp [ltD] at h
 | .int _,.bool _,_,_,_,_,_,_,_,_,_,_,_,_,h=>by simp [ltD] at h
 | .int _,.str _,_,_,_,_,_,_,_,_,_,_,_,_,h=>by simp [ltD] at h
 | .int _,.list _,_,_,_,_,_,_,_,_,_,_,_,_,h=>by simp [ltD] at h
 | .int _,.tuple _,_,_,_,_,_,_,_,_,_,_,_,_,h=>by simp [ltD] at h
 | .int _,.dict _,_,_,_,_,_,_,_,_,_,_,_,_,h=>by simp [ltD] at h
 | .tuple _,.none,_,_,_,_,_,_,_,_,_,_,_,_,h=>by simp [ltD] at h
 | .tuple _,.bool _,_,_,_,_,_,_,_,_,_,_,_,_,h=>by simp [ltD] at h
 | .tuple _,.int _,_,_,_,_,_,_,_,_,_,_,_,_,h=>by simp [ltD] at h
 | .tuple _,.str _,_,_,_,_,_,_,_,_,_,_,_,_,h=>by simp [ltD] at h
 | .tuple _,.list _,_,_,_,_,_,_,_,_,_,_,_,_,h=>by simp [ltD] at h
 | .tuple _,.dict _,_,_,_,_,_,_,_,_,_,_,_,_,h=>by simp [ltD] at h
theorem pairs_reads:∀ (xs ys:List PyData) {A:Around} {s:Shared} {vs ws:List Value} {as bs:List Addr} {r:Bool},ReadsAll s.heap vs xs as->ReadsAll s.heap ws ys bs->PyData.canLayAll0 xs=true->PyData.canLayAll0 ys=true ->
  A.units+min (PyData.depthAll xs) (PyData.depthAll ys)<cLine->ltDs xs ys=some r->Za A s r vs ws xs ys
 | [],ys,A,s,vs,ws,as,bs,r,ra,rb,ha,hb,hu,h=>by
  cases ra;have hl:=ReadsAll.length _ _ _ rb;rw [NB (.inl rfl)] at h;simp only [Option.some.injEq,List.length_nil] at h;exact ⟨hl,h.symm⟩
 | x::xs,[],A,s,vs,ws,as,bs,r,ra,rb,ha,hb,hu,h=>by
  cases rb;have hl:=ReadsAll.length _ _ _ ra;cases ra;simp only [ltDs,Option.some.injEq] at h;exact ⟨hl,h.symm⟩
 | x::xs,y::ys,A,s,vs,ws,as,bs,r,ra,rb,ha,hb,hu,h=>by
  cases ra with
  | cons a1 a2 =>
   cases rb with
   | cons b1 b2 =>
    simp only [PyData.canLayAll0,Bool.and_eq_true] at ha hb;simp only [PyData.depthAll] at hu;have hu1:A.units+min x.depth y.depth<cLine:=room_head hu;refine ⟨eqAt_reads x y A s _ _ _ _ a1 b1 ha.1 hb.1 hu1,?_⟩;simp only [ltDs] at h
    split
    ·rename_i e
     rw [if_pos e] at h;exact pairs_reads xs ys a2 b2 ha.2 hb.2 (by lia) h
    ·rename_i e
     rw [if_neg e] at h;exact jD x y a1 b1 ha.1 hb.1 hu1 h
end
end PuS
namespace PuS
open PySem PyProof.Rows PySem.W
section
variable {prog:Program} {w:World} {A:Around} {E:Value->Shared->Prop} {s:Shared}
theorem qz {h:Heap}:∀ {us:List Value} {ns:List Int},IntsAre us ns->ReadsAll h us (ns.map PyData.int) []
 | _,_,.nil=>.nil
 | _,_,.cons n t r=>.cons (.int n t) (qz r)
theorem jF:∀ ns:List Int,PyData.canLayAll0 (ns.map PyData.int)=true
 | []=>rfl
 | n::ns=>by simp [PyData.canLayAll0,PyData.canLay0,jF ns]
theorem jR:∀ ns:List Int,PyData.depthAll (ns.map PyData.int)=0
 | []=>rfl
 | n::ns=>by simp [PyData.depthAll,PyData.depth,jR ns]
theorem YL:∀ ns ms:List Int,PyData.eqvAll (ns.map PyData.int) (ms.map PyData.int)=decide (ns=ms)
 | [],[]=>rfl
 | [],_::_=>by simp [PyData.eqvAll]
 | _::_,[]=>by simp [PyData.eqvAll]
 | n::ns,m::ms=>by
  simp only [List.map_cons,PyData.eqvAll,YL ns ms,PyData.eqv]
  by_cases e:n=m<;>by_cases e2:ns=ms<;>simp [e,e2]
theorem jE:∀ ns ms:List Int,ltDs (ns.map PyData.int) (ms.map PyData.int)=some (llt ns ms)
 | [],[]=>rfl
 | [],_::_=>rfl
 | _::_,[]=>rfl
 | n::ns,m::ms=>by
  simp only [List.map_cons,ltDs,ltD,jE ns ms,PyData.eqv,llt]
  by_cases e:n=m<;>simp [e]
theorem cmp_ints1 {G:List Keyed} (hu:A.units+10<cLine) (hG:∀ u∈G,∃ ns,IT .two s.heap u.1 ns):Cmp prog w A s (kInts .two s.heap) (tuples' true) G:=by
 intro u hu' v hv E Q q;obtain ⟨ns,hn⟩:=hG u hu';obtain ⟨ms,hm⟩:=hG v hv;have k1:kk (kInts .two s.heap) u=ns:=by show (keyH .two s.heap u.1).getD []=ns;rw [hn.key];rfl
 have k2:kk (kInts .two s.heap) v=ms:=by show (keyH .two s.heap v.1).getD []=ms;rw [hm.key];rfl
 have q':Q (llt ns ms) s:=by rw [k1,k2] at q;exact q
 obtain ⟨a,o,xs,n,i,t,x,ns',e1,ho,_,hd,hx,⟨xa,xo,xxs,xn,rfl,hxo,hxc,hxd,hxi⟩,rfl⟩:=hn;obtain ⟨b,p,ys,m,j,t2,y,ms',e2,hp,_,hd2,hy,⟨ya,yo,yys,yn,rfl,hyo,hyc,hyd,hyi⟩,rfl⟩:=hm;rw [e1,e2];refine kat_lt ho hd hp hd2 ?_;rw [hx,hy];have hsz:decide (xs.size<ys.size)=false:=by
  rw [<- Array.length_toList,<- Array.length_toList,hx,hy];simp
 rw [hsz];have rx:Reads s.heap (.ref xa) (.tuple (ns'.map PyData.int)) []:=.tuple hxo hxc hxd (qz hxi);have ry:Reads s.heap (.ref ya) (.tuple (ms'.map PyData.int)) []:=.tuple hyo hyc hyd (qz hyi);have lx:(PyData.tuple (ns'.map PyData.int)).canLay0=true:=jF ns';have ly:(PyData.tuple (ms'.map PyData.int)).canLay0=true:=jF ms';have dx:(PyData.tuple (ns'.map PyData.int)).depth=1:=by simp [PyData.depth,jR]
 have dy:(PyData.tuple (ms'.map PyData.int)).depth=1:=by simp [PyData.depth,jR]
 have hr:A.units+min (PyData.tuple (ns'.map PyData.int)).depth (PyData.tuple (ms'.map PyData.int)).depth<cLine:=by rw [dx,dy];lia
 show KatLex prog w A true false Q [(.int i t,.int j t2),(.ref xa,.ref ya)] 0 s;refine kat_cons (wpAny_eqBool_int (kat_go (fun e=>?_) fun e=>?_))
 ·have e':i=j:=by simpa using e
  subst e';have hll:llt (i::ns') (i::ms')=llt ns' ms':=by simp [llt]
  rw [hll] at q';refine kat_yes (kat_cons (PySem.SeqAt.eqAt_reads _ _ A s _ _ _ _ rx ry lx ly hr prog w _ _ ?_));have hev:PyData.eqv (PyData.tuple (ns'.map PyData.int)) (PyData.tuple (ms'.map PyData.int))=decide (ns'=ms'):=YL ns' ms';rw [hev]
  by_cases hnm:ns'=ms'
  ·subst hnm;rw [decide_eq_true rfl];rw [llt_irrefl] at q';exact kat_yes (kat_nil q')
  ·rw [decide_eq_false hnm];exact kat_no (kat_one _ _ (jD _ _ rx ry lx ly hr (jE ns' ms') prog w _ _ q'))
 ·have e':¬ i=j:=by simpa using e
  have q2:Q (decide (i<j)) s:=by simpa [llt,e'] using q'
  exact kat_no (kat_lt_int q2)
end
end PuS
namespace Pu
open PySem PySem.Spec PyProof.Rows L2
section
variable {X:Cx} {pins:List (Addr×Obj)} {σ:SS} {H:Hp} {s:Shared} {W:Addr->Prop}
def ppv:List Int->PV
 | []=>.non
 | i::ns=>.tup [.int i,tpv ns]
def qT:List PV->Option (List (List Int))
 | []=>some []
 | .tup [.int i,.tup xs]::r=>match yZ xs with
  | some ns=>(qT r).map ((i::ns)::·)
  | none=>none
 | _=>none
theorem Gj:∀ {vs:List PV} {nss:List (List Int)},qT vs=some nss->vs=nss.map ppv/\∀ ns∈nss,ns≠[]:=by
 intro vs
 induction vs with
 | nil=>intro nss h;simp [qT] at h;subst h;simp
 | cons v r ih =>
  intro nss h;unfold qT at h
  split at h
  ·rename_i e;cases e
  ·rename_i i xs r' e
   cases e
   split at h
   ·rename_i ns e2
    obtain ⟨m,e3,rfl⟩:=Option.map_eq_some_iff.mp h;obtain ⟨h1,h2⟩:=ih e3;refine ⟨by rw [List.map_cons,<- h1,wC e2];rfl,fun k hk=>?_⟩
    rcases List.mem_cons.mp hk with rfl | hk
    ·simp
    ·exact h2 k hk
   ·cases h
  ·cases h
theorem Gi {nss:List (List Int)} (h:∀ ns∈nss,ns≠[]):qT (nss.map ppv)=some nss:=by
 induction nss with
 | nil=>rfl
 | cons ns nss ih =>
  have h1:=h ns jC;cases ns with
  | nil=>exact absurd rfl h1
  | cons n ns =>
   rw [List.map_cons];simp only [ppv,tpv,qT,xR];rw [ih fun k hk=>h k (jM _ hk)];rfl
theorem Lb (I:L2.Inv X pins σ H s) {ns:List Int} {x:V} {u:Value} (hne:ns≠[]) (r:Rep X.K (hid W H) (ppv ns) x) (q:RelV x u):PuS.IT .two s.heap u ns:=by
 cases ns with
 | nil=>exact absurd rfl hne
 | cons i ns =>
  obtain ⟨a,xs,rfl,h1,h2⟩:=Rep.tup'.mp r;cases q;obtain ⟨x1,r1,rfl,a1,a2⟩:=Reps.cons.mp h2;obtain ⟨x2,r2,rfl,b1,b2⟩:=Reps.cons.mp a2;obtain rfl:=Reps.nil.mp b2;obtain rfl:=Rep.int.mp a1;obtain ⟨its,rv,⟨o,e1,e2,n,e3⟩,_⟩:=I.tuple (yU h1);cases rv with
  | cons q1 rv =>
   cases rv with
   | cons q2 rv =>
    cases rv;obtain ⟨t,rfl⟩:=q1;obtain ⟨b,ys,rfl,c1,c2⟩:=Rep.tup'.mp b1;cases q2;obtain ⟨its2,rv2,⟨o2,f1,f2,n2,f3⟩,_⟩:=I.tuple (yU c1);exact ⟨a,o,_,n,i,t,_,ns,rfl,e1,e2,e3,rfl,⟨b,o2,its2.toArray,n2,rfl,f1,f2,f3,by simpa using Yf c2 rv2⟩,rfl⟩
variable {a:Expr} {da:De} {p pos:Pos}
end
end Pu
namespace Pu
open PySem PySem.Spec PyProof.Rows L2 PySem.SeqAt
section
variable {X:Cx} {a b:Expr} {da db:De}
def xM:PV->PV->Res PV
 | .lst xs,b=>if xB b&&xB (.lst xs) then .ok (.int (xs.countP fun y=>eqv y b:Nat)) else .bad
 | _,_=>.bad
theorem Gv:NoX xM:=qg fun v u=>by
 cases v<;>simp only [xM]<;>first | exact jI | exact .inr rfl | exact .inr trivial
theorem Gy {k:Nat} (hr:Room k X.A) {pins:List (Addr×Obj)} {s:Shared} {σ:SS} {H:Hp} {W:Addr->Prop} {vs:List PV} {b z:PV} {x y:V} {v u:Value} {Q:VK} (I:L2.Inv X pins σ H s) (rx:RelV x v) (ry:RelV y u) (ra:Rep X.K (hid W H) (.lst vs) x) (rb:Rep X.K (hid W H) b y)
  (e:xM (.lst vs) b=.ok z) (q:OkQ X.K W H Q z):wpAny (model X.prog X.w) X.A (call (.builtin "list.count") [v,u]) (EP X pins σ Q) X.xe s:=by
 obtain ⟨as,r1⟩:=yH I (.lst vs) x v (ra.mono hid_sub) rx;obtain ⟨bs,r2⟩:=yH I b y u (rb.mono hid_sub) ry;simp only [xM] at e;obtain ⟨hc,rfl⟩:=jg e;rw [Bool.and_eq_true] at hc;obtain ⟨c1,c2⟩:=zM hc.1;obtain ⟨c3,c4⟩:=zM hc.2;have hu:=wA hr;simp only [dat] at r1 c3 c4;have c3':PyData.canLayAll0 (dats vs)=true:=by simpa [PyData.canLay0] using c3
 cases r1 with
 | list h1 h2 h3 h4 =>
  rename_i l o its n asx
  obtain ⟨cls,dd,data,sl⟩:=o;simp only at h2 h3;subst h2 h3;refine call_meets F.slot_list_count ⟨_,h1,rfl⟩ F.entry_list_count (F.args_list_count_2 _ _) (list_countAt _ _ _ _ _ _ (fun y=>PyData.eqv (readOf s.heap y) (dat b))) ⟨h1,items_eqAt h4 r2 c3' c1 (by lia),?_⟩
  have e4:its.toList.countP (fun y=>PyData.eqv (readOf s.heap y) (dat b))=vs.countP fun y=>eqv y b:=by
   have:=readsAll_map _ _ _ c3' h4;rw [UR] at this;have e5:(vs.map dat).countP (fun d=>PyData.eqv d (dat b))=vs.countP fun y=>eqv y b:=by rw [List.countP_map];rfl
   rw [<- e5,<- this,List.countP_map];rfl
  rw [e4];exact ⟨.int _,H,I.tok _,⟨_,rfl⟩,okI q⟩
theorem XV {k:Nat} {apos cpos:Pos} (hr:Room k X.A) (ha:DE X a da) (hb:DE X b db) (hbase:attributeBase a "count" X.env (eval a X.env)=eval a X.env:=by rfl)
  (hfew:((backTo cpos (starEach [b] X.env)).all (fun x=>!x.1)&&(backToKw cpos (keywordEach [] X.env)).all (fun x=>x.1.isSome)
   && decide ([b].length+([]:List Keyword).length+(if ([]:List Keyword).isEmpty then 0 else 1)<30))=true:=by rfl)
  (hline:(apos.endLine==cpos.line)=true:=by rfl) (hs:starEach [b] X.env=(false,eval b X.env)::starEach [] X.env:=by rfl) (hplain:(backTo cpos (starEach [] X.env)).any (·.1)=false:=by rfl)
  (hnx:∀ ρ z,db ρ≠.exc z:=by intro _ _ h;first | (cases h;done) | exact Pu.eVar_nx h) :
  DE X (.Call (.Attribute a "count" apos) [b] [] cpos) (e2 xM da db):=by
 intro pins s σ H Q I ⟨W,ρ,er,h⟩;refine wpAny_Call_method_late hbase hfew hline rfl (thn (ha pins s σ H (fun x H1=>∃ v,ER X.K W H1 σ ρ/\Rep X.K (hid W H1) v x/\Fin X W H1 Q ((db ρ).bind fun u=>xM v u)) I
  (wf da er h.bind fun v x H1 s1 er1 r1 h1=>⟨v,er1,r1,Fin.grow h1 s1⟩)) fun v s1 ⟨x,H1,I1,r1,pv,er1,rp1,h1⟩=>?_)
 cases e1:db ρ with
 | exc z=>exact absurd e1 (hnx ρ z)
 | bad=>rw [e1] at h1;exact h1.elim
 | ok u =>
  rw [e1,Res.bind_ok] at h1;cases e2:xM pv u with
  | exc z=>exact absurd e2 (Gv _ _ _)
  | bad=>rw [e2] at h1;exact h1.elim
  | ok z =>
   rw [e2] at h1;obtain ⟨vs,rfl⟩:∃ vs,pv=.lst vs:=by
    cases pv<;>simp [xM] at e2;exact ⟨_,rfl⟩
   obtain ⟨l,xs,rfl,hq,hrs⟩:=Rep.lst'.mp rp1;cases r1;obtain ⟨its,rv,⟨o,n,ho1,hc,hd,hdat⟩,hz⟩:=I1.list (xP hq);refine ⟨"list","list.count",F.plainAttrs_list,F.slot_list_count,F.type_list_count,⟨o,ho1,hc⟩,fun b e=>by cases e;exact ⟨o,ho1,hd⟩,?_⟩
   have hA:=(zg hb zi hs) cpos pins s1 σ H1 (fun ys H2=>∃ y,ys=[y]/\Rep X.K (hid W H2) u y/\Same H1 H2) I1 ⟨W,ρ,er1,by
    simp only [zd,zj,e1,Res.bind_ok];intro ys H2 s2 r2;obtain ⟨y,t,rfl,q1,q2⟩:=Reps.cons.mp r2;obtain rfl:=Reps.nil.mp q2;exact ⟨y,rfl,q1,s2⟩⟩
   rw [hs] at hA ⊢;refine Calls.callWith_builtin (by show (false||(backTo cpos (starEach [] X.env)).any (·.1))=false;rw [hplain]<;>rfl) (Calls.evalArgs_plain ?_);refine thn hA fun us s2 ⟨ys,H2,I2,rys,y,e,ry,s12⟩=>?_
   subst e;obtain ⟨w,rfl,rw'⟩:=wM rys;exact Gy hr I2 (v:=.ref l) (x:=.ref l) rfl rw' (rp1.mono (zD s12)) ry e2 (wO h1 s12)
end
end Pu
namespace Pu
open PySem PySem.Spec PyProof.Rows L2
end Pu
namespace Pu
open PySem PySem.Spec PyProof.Rows L2 PySem.SeqAt
end Pu
namespace Pu
open PySem PySem.Spec PyProof.Rows L2
end Pu
namespace Pu
open PySem PySem.Spec PyProof.Rows L2 PySem.W
open PySem.Builtin PySem.Builtin.ObjectAttr
end Pu
namespace Pu
open PySem PySem.Spec PyProof.Rows L2
open PySem.Builtin PySem.Builtin.ObjectAttr PySem.W
open PySem.Builtin PySem.Builtin.ObjectAttr PySem.W PySem.Builtin.Getset_descriptor
section
variable {d:De} {ρ:En} {x f:Str} {i:Nat} {ys ns:List Str}
end
end Pu
namespace PuT
open PySem PySem.Spec PyProof.Rows
abbrev byT (w:World):Bool:=w.params.followText "set-order"
def b2 (b:Bool):Int:=if b then 1 else 0
section
variable {prog:Program} {w:World} {A:Around} {E:Value->Shared->Prop} {s:Shared} {a:Addr}
end
end PuT
namespace Pu
open PySem PySem.Spec PyProof.Rows L2 PuT
theorem UF {K:PySem.W.Frag} {H:Hp}:∀ {ns:List Int} {xs:List V} {us:List Value},Reps K H (ns.map PV.int) xs->Vals xs us->IntsAre us ns
 | [],xs,us,r,q=>by
  obtain rfl:=Reps.nil.mp r;cases q;exact .nil
 | n::ns,xs,us,r,q=>by
  obtain ⟨x,t,rfl,r1,r2⟩:=Reps.cons.mp r;obtain rfl:=Rep.int.mp r1;cases q with
  | cons q1 q2 =>
   obtain ⟨t,rfl⟩:=q1;exact .cons n t (UF r2 q2)
end Pu
namespace PuT
open PySem SetTable
def An (mask:Nat) (p:Probe):Probe:=if p.more>0 then {p with j:=p.j+1,more:=p.more-1} else
 {p with j:=(leap mask p.i p.perturb).1,more:=runEnd mask (leap mask p.i p.perturb).1-(leap mask p.i p.perturb).1,i:=(leap mask p.i p.perturb).1,perturb:=(leap mask p.i p.perturb).2}
def Aa (mask i pert:Nat):Probe:={j:=i,more:=runEnd mask i-i,i:=i,perturb:=pert,dummy:=none}
def RF (mask:Nat) (h:Int):Nat->Probe
 | 0=>Aa mask (bits h % (mask+1)) (bits h)
 | m+1=>An mask (RF mask h m)
def turn (mask i:Nat):Nat:=(i*5+1) % (mask+1)
def AC:List Nat:=[7,31,127,511]
theorem least {P:Nat->Prop} (dec:∀ m,P m\/¬ P m):∀ m0,P m0->∃ m,m<=m0/\P m/\∀ m',m'<m->¬ P m'
 | m0,h=>by
  induction m0 using Nat.strongRecOn with
  | _ m0 ih =>
   by_cases z:∃ m',m'<m0/\P m'
   ·obtain ⟨m',h1,h2⟩:=z;obtain ⟨m,a,b,c⟩:=ih m' h1 h2;exact ⟨m,by omega,b,c⟩
   ·exact ⟨m0,Nat.le_refl _,h,fun m' h1 h2=>z ⟨m',h1,h2⟩⟩
def WP (occ:Nat->Prop) (mask:Nat) (h:Int) (j:Nat):Prop:=∃ m,(RF mask h m).j=j/\∀ m',m'<m->occ (RF mask h m').j
structure Tb (t:SetTable) (es:Array (Int×Value)) (pl:List (Nat×(Int×Value))):Prop where
 place:t.place=(pl.map (·.1)).toArray
 es:es=(pl.map (·.2)).toArray
 dum:t.dummies=#[]
 rise:(pl.map (·.1)).Pairwise (·<·)
 msk:t.mask∈AC
 le:∀ p∈pl,p.1<=t.mask
 full:pl.length*5<t.mask*3
 way:∀ p∈pl,WP (·∈pl.map (·.1)) t.mask p.2.1 p.1
section
variable {prog:Program} {w:World} {A:Around} {E:Value->Shared->Prop} {s:Shared}
abbrev LH (prog:Program) (w:World) (h:Heap) (ks:List Int) (a:Addr):Prop:=IsTupleKey (intKind prog w) h ks a
theorem UG {k:Int} {v:Value} (h:(intKind prog w).is k v=true):∃ t,v=Value.int k t:=Value.isInt_shape h
theorem items_int:∀ {ks:List Int} {vs:List Value},ItemsAre (intKind prog w) ks vs->∀ v∈vs,∃ i t,v=Value.int i t
 | _,_,.nil,v,h=>by cases h
 | _,_,.cons (k:=k) h1 h2,v,h=>by
  rcases List.mem_cons.mp h with rfl | h
  ·exact ⟨k,(UG h1)⟩
  ·exact items_int h2 v h
end
def ElB (prog:Program) (w:World) (base:Nat) (G:Addr->Prop) (h:Heap) (v:Int×Value) (ks:List Int):Prop:=∃ a,a<base/\G a/\v=(tupleKeyHash (intKind prog w) ks,.ref a)/\LH prog w h ks a
def TS (prog:Program) (w:World) (base:Nat) (G:Addr->Prop) (h:Heap) (S:Addr) (KS:List (List Int)):Prop :=
 ∃ o es ep t pl,h.get? S=some o/\o.ExactSet/\o.data=.set es ep t/\Tb t es pl/\KS.Nodup/\pl.length=KS.length/\(∀ p∈pl,∃ ks∈KS,ElB prog w base G h p.2 ks)/\(∀ ks∈KS,∃ p∈pl,ElB prog w base G h p.2 ks)/\(t.plain=true/\t.led=!byT w)
end PuT
namespace PuT
open PySem PySem.Spec PyProof.Rows
section
variable {prog:Program} {w:World} {A:Around} {E:Value->Shared->Prop} {s:Shared}
theorem UB:∀ {ks:List Int} {vs:List Value},IntsAre vs ks->ItemsAre (intKind prog w) ks vs
 | _,_,.nil=>.nil
 | _,_,.cons n t h=>.cons (intKind_is _ _ _ _) (UB h)
end
end PuT
namespace Pu
open PySem PySem.Spec PyProof.Rows L2 PuT
section
variable {X:Cx} {pins:List (Addr×Obj)} {σ:SS} {H:Hp} {s:Shared} {W:Addr->Prop}
theorem JA (I:L2.Inv X pins σ H s) {ks:List Int} {x:V} {u:Value} (r:Rep X.K (hid W H) (.tup (ks.map PV.int)) x) (rx:RelV x u):∃ a,u=.ref a/\LH X.prog X.w s.heap ks a:=by
 obtain ⟨a,ys,rfl,q1,q2⟩:=Rep.tup'.mp r;cases (show u=Value.ref a from rx);obtain ⟨its,rv,p1⟩:=(wj hid_sub (k:=.T) q1).sq I;obtain ⟨o,ho,hc,n,hd⟩:=p1;exact ⟨a,rfl,o,its.toArray,n,ho,hc,hd,by simpa using UB (UF q2 rv)⟩
end
end Pu
namespace PuT
open PySem PySem.Spec PyProof.Rows SetTable
end PuT
namespace Pu
open PySem PySem.Spec PyProof.Rows L2 PuT
end Pu
namespace Pu
open PySem PySem.Spec PyProof.Rows L2
def OkL (K:PySem.W.Frag) (W:Addr->Prop) (H:Hp) (Q:VK) (vs:List PV):Prop:=∀ p ys H',H p=none->Same H H'->H' p=some (.lst ys)->Reps K (hid (fun a=>W a\/a=p) H') vs ys->Q (.ref p) H'
def tDL (X:Cx) (d:De):TE:=fun σ H Q=>∃ W ρ,ER X.K W H σ ρ/\∃ z,d ρ=.ok (.lst z)/\OkL X.K W H Q z
def spL (K:PySem.W.Frag) (n:Nat) (f:Df):Sp:=fun xs H Q E=>∃ W vs,(∀ a,W a->H a≠none)/\Reps K (hid W H) vs xs/\xs.length=n/\∃ z,f vs=.ok (.lst z)/\OkL K W H Q z
def FnL (P:Program) (w:World) (K:PySem.W.Frag) (mg:Str->Option Value) (base:Heap) (k:Nat) (f:Addr) (fd:FuncData) (ps:List Str) (D:Df):Prop:=FnOk P w K mg base (CXP P w) k f fd ps (spL K ps.length D)
section
variable {X:Cx} {scope:Scope} {cl:List (Str×Addr)} {N:List Str} {tg iter elt:Expr} {ifs:List Expr} {pos:Pos} {t:Dg} {c:Dt} {e:De} {k:Nat} {idx:List Nat} {di:Di}
theorem Nd (ok:CompOk X scope cl k idx N) (hcalm:X.calm=true) (hi:DI X tg iter di) (hw:∀ ρ v ρ1,t v (zV k idx ρ)=.ok ρ1->Ext (zV k idx ρ) ρ1)
  (hg:∀ cl C s3 H3 fp,DG (zT X scope cl N C s3 H3 fp) tg t) (hif:∀ cl C s3 H3 fp,DIf (zT X scope cl N C s3 H3 fp) ifs c) (he:∀ cl C s3 H3 fp,DE (zT X scope cl N C s3 H3 fp) elt e)
  (hs:∀ x,foldedSetIterable iter X.env x=pure x:=by intro _;rfl):PE X (.ListComp elt [⟨tg,iter,ifs,0⟩] scope pos) (tDL X (zC di k idx t c e)):=by
 intro pins s σ H Q I ⟨W,ρ,er,out0,h0,q0⟩;rw [eval_ListComp];have hfin:FinI X W H (fun J H2=>∃ vs out,vs.length<=sizeLine/\yR t c e (zV k idx ρ) vs=.ok out/\ZT X.K (hid W H2) J vs/\Same H H2/\OkL X.K W H Q out) (di ρ):=by
  unfold zC at h0;cases ed:di ρ with
  | exc x=>rw [ed] at h0;cases h0
  | bad=>rw [ed] at h0;cases h0
  | ok vs =>
   rw [ed,Res.bind_ok] at h0
   by_cases hz:vs.length<=sizeLine
   ·rw [if_pos hz] at h0;cases eo:yR t c e (zV k idx ρ) vs with
    | exc x=>rw [eo] at h0;cases h0
    | bad=>rw [eo] at h0;cases h0
    | ok out =>
     rw [eo] at h0;cases h0;exact fun J H2 s2 it=>⟨vs,_,hz,eo,it,s2,q0⟩
   ·rw [if_neg hz] at h0;cases h0
 refine wpAny_comprehension_free (use:=none) rfl hs ok.clos ok.kind ok.loc ?_;refine thn (hi pins s σ H _ I ⟨W,ρ,er,hfin⟩) fun v s1 h1=>thn h1 fun itv s2 h2=>?_
 obtain ⟨it,fp,tn,J,H2,rfl,I2,T,st2,f2,vs,out,hz,ho,hit,s02,q⟩:=h2;have hfp2:∀ b∈fp,b<s2.heap.objs.size:=fun b hb=>by
  obtain ⟨o,e1,_⟩:=T.obj 0 _ st2 b hb;exact jH e1
 refine wpAny_newObj_type ?_;have I3:L2.Inv X pins σ (upd H2 s2.heap.objs.size (.lst [])) {s2 with heap:=s2.heap.push {cls:=.type "list",data:=.seq ([]:List Value).toArray}}:=I2.lnew (t':=s2.toks) (its:=[]) .nil (Nat.zero_le _)
 have hn2:H2 s2.heap.objs.size=none:=I2.fresh;generalize hs3:({s2 with heap:=s2.heap.push {cls:=.type "list",data:=.seq ([]:List Value).toArray}}:Shared)=s3 at *
 have k23:∀ b o,s2.heap.get? b=some o->s3.heap.get? b=some o:=fun b o e=>by rw [<- hs3];exact jG _ e
 have sz3:s3.heap.objs.size=s2.heap.objs.size+1:=by rw [<- hs3];exact Heap.size_push ..
 generalize hD:s2.heap.objs.size=D at *;have neD:∀ b,b<D->b≠D:=fun b hb=>Nat.ne_of_lt hb
 have hfp3:∀ b∈fp,wW X pins (upd H2 D (.lst [])) b/\b<s3.heap.objs.size:=fun b hb=>by
  obtain ⟨a0,a1⟩:=f2 b hb;exact ⟨⟨by rw [zu (neD b (hfp2 b hb))];exact a0,a1⟩,by rw [sz3];exact Nat.lt_succ_of_lt (hfp2 b hb)⟩
 show wpAny _ _ (newFunctionEnv scope X.env.globals cl [] X.env.qual none .none (some X.env)) _ _ s3;refine yr ?_;have hblk:=qO s3 scope.names;have hns:=(Heap.Ns.new s3.heap (.type "dict")).keeps (pushCells_keeps scope.names _);have k34:∀ b o,s3.heap.get? b=some o->(pushCells (s3.heap.push {cls:=.type "dict",data:=.dict #[]}) scope.names).get? b=some o:=fun b o e=>pushCells_keeps _ _ b o (jG _ e)
 generalize pushCells (s3.heap.push {cls:=.type "dict",data:=.dict #[]}) scope.names=h4 at hblk hns k34 ⊢;have J0:=jJ (t:=s3.toks) ok I3 hfp3 hns k34 hblk;have er2:=er.mono s02;have sD:Same H2 (upd H2 D (.lst [])):=yv hn2;have nWD:¬ W D:=er2.new hn2;have hGs:Same (hid W H2) (hid (fun a=>W a\/a=D) (upd H2 D (.lst []))):=fun b o z=>by
  have z1:=hid_sub b o z;have hb:b≠D:=fun y=>by rw [y,hn2] at z1;cases z1
  unfold hid at z ⊢
  split at z
  ·cases z
  ·rename_i nb
   rw [if_neg (fun y=>y.elim nb hb),zu hb];exact z1
 have erC:=Yh (k:=k) (idx:=idx) er2 hGs (fun a wa=>by
  rcases wa with wa | rfl
  ·by_cases ha:a=D
   ·rw [ha,zE];simp
   ·rw [zu ha];exact er2.trk a wa
  ·rw [zE];simp)
 have st4:tn 0 h4:=T.keep _ _ _ st2 fun b hb o e=>k34 b o (k23 b o e)
 have loop:∀ s4:Shared,s4={s3 with heap:=h4,toks:=s3.toks} ->
   codeAny (model X.prog X.w) X.A (.compLoop (.ListComp elt [⟨tg,iter,ifs,0⟩] scope pos) 0 (.ref it) (.ref D) (compEnvC scope (cellsFrom (s3.heap.objs.size+1) scope.names cl) s3.heap.objs.size X.env)) (compPost (model X.prog X.w) X.A X.xe none (EP X pins σ Q) (.ref D) s3.heap.objs.size) s4:=by
  rintro s4 rfl;refine Zz (W:=fun a=>W a\/a=D) (G:=hid W H2) hcalm T (hg _ _ _ _ _) (hif _ _ _ _ _) (he _ _ _ _ _) J0 st4 (fun b hb=>(hfp3 b hb).1.1) zE (.inr rfl) erC (hw ρ) jW hGs hit hz ho ?_
  intro s' σ' H' ys Jn hDn hys same;obtain ⟨m',hn',_⟩:=Jn.loc;refine ⟨m',hn',fun h' hsb'=>?_⟩
  have fin:=qL I3 hfp3 Jn hsb';have sH:Same H H':=fun b o z=>by
   have z2:=s02 b o z;have hb:b≠D:=fun y=>by rw [y,hn2] at z2;cases z2
   exact same b o hb (sD b o z2)
  have hn:H D=none:=by
   cases z:H D with
   | none=>rfl
   | some o=>rw [s02 D o z] at hn2;cases hn2
  exact ⟨.ref D,H',fin,rfl,q D ys H' hn sH hDn hys⟩
 exact codeAny_compStart_list (loop _ rfl) (T.self _ 0 _ _ _ st4 (loop _ rfl))
theorem qx (hk:scope.kind=.function) (chk:qM scope.names X.env.scope.names X.N k idx N=true) (hcalm:X.calm=true) (hi:DI X tg iter di) (hw:∀ ρ v ρ1,t v (zV k idx ρ)=.ok ρ1->Ext (zV k idx ρ) ρ1)
  (hg:∀ cl C s3 H3 fp,DG (zT X scope cl N C s3 H3 fp) tg t) (hif:∀ cl C s3 H3 fp,DIf (zT X scope cl N C s3 H3 fp) ifs c) (he:∀ cl C s3 H3 fp,DE (zT X scope cl N C s3 H3 fp) elt e)
  (hs:∀ x,foldedSetIterable iter X.env x=pure x:=by intro _;rfl):PE X (.ListComp elt [⟨tg,iter,ifs,0⟩] scope pos) (tDL X (zC di k idx t c e)):=fun pins s σ H Q I h =>
 Nd (uJ I.ok hk chk) hcalm hi hw hg hif he hs pins s σ H Q I h
end
section
variable {X:Cx} {W0:Addr->Prop} {H0:Hp} {W:Addr->Prop} {H:Hp} {σ:SS} {ρ:En} {D:Ends} {k i:Nat} {f:Addr} {fd:FuncData} {ps:List Str} {g:Df} {x y:Str} {p p1 p2 pos apos cpos:Pos} {a:Expr} {es:List Expr} {ds:Das}
def Qe (P:Program) (w:World) (K:PySem.W.Frag) (mg:Str->Option Value) (base:Heap) (k:Nat) (x:Str) (ps:List Str) (D:Df):Prop :=
 ∃ f fd,FnL P w K mg base k f fd ps D/\Binds K fd ps []/\PySem.W.keepIn K (.ref f)=true/\mg x=some (.ref f)
end
end Pu
namespace PuS
open PySem PyProof.Rows PySem.W PySem.Calls
def js (a:Addr) (K:Value) (before:Nat) (items:Array Value):Sem PySem.Fin:=(do
   let keys <- Builtin.List.listItems K
   let kind <- if items.size<2 then pure general' else keyKind' keys
   let ((),s) <- (if items.size<2 then pure () else sortRuns').run (SortSt.mk' kind (keys.zip items) #[] 7 none)
   let sorted:=(arrOf s).map (·.2)
   Builtin.List.listUpdate K fun _=>#[]
   letGo ((arrOf s).map (·.1)).toList (failedOf s).toList
   let touched:=(<- seqEpoch a) != before
   Builtin.List.listUpdate (.ref a) fun _=>sorted
   if let some e:=failedOf s then rule "list.sort.comparison-raised";throw e
   if touched then rule "list.sort.modified";raiseError "ValueError" "list modified during sort"
   ret .none)
def keyStep (a:Addr) (K:Value) (f:Addr) (items:Array Value) (x:Value):Sem (ForInStep PUnit):=(do
 let r <- (call (.ref f) [x]).attempt
 match r with
 | .ok k=>do
  Builtin.List.listUpdate K (·.push k)
  pure (.yield ⟨⟩)
 | .error e=>do
  rule "list.sort.key-raised"
  let made <- Builtin.List.listItems K
  Builtin.List.listUpdate K fun _=>#[]
  letGo made.toList.reverse [e]
  Builtin.List.listUpdate (.ref a) fun _=>items
  throw e
  pure (.yield ⟨⟩))
def kwK (f:Addr):List (Str×Value):=[(Str.ofString "key",.ref f)]
def SD (a f:Addr):Sem PySem.Fin:=(do
  let items <- Builtin.List.listItems (.ref a)
  Builtin.List.listUpdate (.ref a) fun _=>#[]
  let before <- seqEpoch a
  let held <- newTuple items.toList
  let keyStore <- newList []
  holding [held,keyStore] do
   rule "list.sort.key"
   let _ <- forIn items PUnit.unit fun x _=>keyStep a keyStore f items x
   js a keyStore before items)
theorem Sy (a:Value) (f:Addr):argsOk "sorted" ⟨[a],kwK f⟩:=by unfold argsOk;kernel_rfl
theorem Sz (a:Value) (f:Addr):argsOk "list.sort" ⟨[a],kwK f⟩:=by unfold argsOk;kernel_rfl
theorem Ml (a f:Addr):Builtin.«list.sort» ⟨[.ref a],kwK f⟩=SD a f:=by rfl
section
variable {prog:Program} {w:World} {A:Around} {E:Value->Shared->Prop} {s:Shared}
theorem rest_ok {m:PuS.Md} {a K:Addr} {keys items:List Value} {nss:List (List Int)} {e1 n:Nat} {P:PySem.Fin->Shared->Prop} (ho:s.heap.get? a=some (seqObj "list" #[] e1)) (hK:s.heap.get? K=some (seqObj "list" keys.toArray n)) (hne:K≠a)
  (hl:keys.length=items.length) (t:Paired (IT m s.heap) keys nss) (hz:items.length<=100000) (hcmp:∀ (s':Shared) (G:List Keyed),(∀ u∈G,∃ ns,IT m s'.heap u.1 ns)->Cmp prog w A s' (kInts m s'.heap) (tuples' (PuS.kdM m)) G)
  (h:∀ (hm h':Heap) (ps:List Keyed) (n':Nat),ps.Perm (keys.zip items)->(ps.Pairwise fun u v=>llt (KY m s.heap v.1) (KY m s.heap u.1)=false)->(∀ c o,c≠K->s.heap.get? c=some o->hm.get? c=some o)->(∀ c o,c≠a->hm.get? c=some o->h'.get? c=some o)->h'.get? a=some (seqObj "list" (ps.map (·.2)).toArray n')->P (.done (.ret .none)) {s with heap:=h'}) :
  wpAny (model prog w) A (js a (.ref K) e1 items.toArray) P E s:=by
 unfold js;have hzl:items.length<=sizeLine:=by rw [sizeLine_eq];omega
 refine jB (listItems_at hK rfl ?_);have hsz:(keys.toArray.zip items.toArray).size=items.length:=by simp [hl]
 have htl:(keys.toArray.zip items.toArray).toList=keys.zip items:=by simp
 have fin:∀ st':SortSt,(arrOf st').Perm (keys.toArray.zip items.toArray)->failedOf st'=none->(arrOf st').toList.Pairwise (le (kInts m s.heap)) ->
   wpAny (model prog w) A (do
    Builtin.List.listUpdate (.ref K) fun _=>#[]
    letGo ((arrOf st').map (·.1)).toList (failedOf st').toList
    let touched:=(<- seqEpoch a) != e1
    Builtin.List.listUpdate (.ref a) fun _=>(arrOf st').map (·.2)
    if let some e:=failedOf st' then rule "list.sort.comparison-raised";throw e
    if touched then rule "list.sort.modified";raiseError "ValueError" "list modified during sort"
    ret .none) P E s:=by
  intro st' hp hf hs;have hpl:(arrOf st').toList.Perm (keys.zip items):=by rw [<- htl];exact Array.perm_iff_toList_perm.mp hp
  have hsz2:(arrOf st').size=items.length:=by rw [hp.size_eq,hsz]
  refine jB (listUpdate_at hK rfl ?_ (by simp;omega) (Nat.zero_le _));obtain ⟨e2,hK2⟩:∃ e2,(s.heap.update K (Obj.mapSeq fun _=>#[])).get? K=some (seqObj "list" #[] e2):=⟨_,get?_update_seq hK (fun _=>#[])⟩;have ho2:(s.heap.update K (Obj.mapSeq fun _=>#[])).get? a=some (seqObj "list" #[] e1):=(Heap.get?_update_other _ _ hne).trans ho;refine jB (wpAny_letGo ?_);refine jB (seqEpoch_at ho2 rfl ?_);refine jB (listUpdate_at ho2 rfl ?_ (Nat.zero_le _) (by show ((arrOf st').map (·.2)).size<=_;rw [Array.size_map,hsz2];omega));rw [hf];simp only [bne_self_eq_false,Bool.false_eq_true,if_false];obtain ⟨e3,ho3⟩:∃ e3,((s.heap.update K (Obj.mapSeq fun _=>#[])).update a (Obj.mapSeq fun _=>(arrOf st').map (·.2))).get? a=some (seqObj "list" ((arrOf st').map (·.2)) e3):=⟨_,get?_update_seq ho2 _⟩
  refine jP (h (s.heap.update K (Obj.mapSeq fun _=>#[])) _ (arrOf st').toList e3 hpl ?_ (fun c o c2 e=>?_) (fun c o c1 e=>?_) ?_)
  ·exact hs.imp fun {u v} q=>q
  ·rw [Heap.get?_update_other _ _ (Ne.symm c2)];exact e
  ·rw [Heap.get?_update_other _ _ (Ne.symm c1)];exact e
  ·rw [ho3];congr 2;apply Array.toList_inj.mp;simp
 by_cases h2:items.toArray.size<2
 ·rw [if_pos h2,if_pos h2];refine jB (jP ?_);dsimp only;rw [StateT.run_pure];refine jB (jP ?_);exact fin (SortSt.mk' general' (keys.toArray.zip items.toArray) #[] 7 none) (Array.Perm.refl _) rfl (by
   show (keys.toArray.zip items.toArray).toList.Pairwise _;refine uZ ?_;rw [Array.length_toList,hsz];simpa using h2)
 ·rw [if_neg h2,if_neg h2];have h3:2<=items.length:=by simpa using h2
  refine jB (XM t (by omega) ?_);have hG:∀ u∈(keys.toArray.zip items.toArray).toList,∃ ns,IT m s.heap u.1 ns:=fun u hu=>by
   rw [htl] at hu;exact paired_mem t u.1 (List.of_mem_zip (a:=u.1) (b:=u.2) hu).1
  refine jB (wpAny_mono (Xv (s:=s) (κ:=kInts m s.heap) (kd:=tuples' (kdM m)) (a₀:=keys.toArray.zip items.toArray) (hcmp s _ hG)
   (st:=SortSt.mk' (tuples' (kdM m)) (keys.toArray.zip items.toArray) #[] 7 none)
   (Q:=fun _ st'=>(arrOf st').Perm (keys.toArray.zip items.toArray)/\failedOf st'=none/\(arrOf st').toList.Pairwise (le (kInts m s.heap)))
   ⟨rfl,rfl⟩ (Array.Perm.refl _) rfl (by rw [hsz];omega) fun st' a1 a2 a3=>⟨a1,a2,a3⟩) ?_ fun _ _ e=>e)
  rintro ⟨⟨⟩,st'⟩ s' ⟨rfl,hp,hf,hs⟩;exact fin st' hp hf hs
end
end PuS
namespace Pu
open PySem PySem.Spec PyProof.Rows L2
def ZP (g:Df):List PV->Res (List PV)
 | []=>.ok []
 | v::vs=>(g [v]).bind fun k=>(ZP g vs).bind fun ks=>.ok (k::ks)
section
variable {X:Cx} {pins:List (Addr×Obj)} {σ:SS} {W:Addr->Prop} {k:Nat} {f:Addr} {fd:FuncData} {p:Str} {g:Df}
theorem NE {H:Hp} {s:Shared} (F:FnD X.prog X.w X.K X.mg X.base k f fd [p] g) (hr:Room (k+2) X.A) (hb:Binds X.K fd [p] []) (I:L2.Inv X pins σ H s) (tk:∀ a,W a->H a≠none) {v kv:PV} {x:V} {u:Value}
  (r:Rep X.K (hid W H) v x) (rx:RelV x u) (e:g [v]=.ok kv):wpAny (model X.prog X.w) X.A.in1.in1 (call (.ref f) [u]) (EP X pins σ fun y H'=>Same H H'/\Rep X.K (hid W H') kv y) (fun _ _=>False) s:=by
 have h0:spO X.K [p].length g [x] H (fun y H'=>Same H H'/\Rep X.K (hid W H') kv y) (fun _ _ _=>False):=⟨W,[v],tk,Reps.mk r (Reps.nil.mpr rfl),rfl,kv,e,fun y H' s' r'=>⟨s',r'⟩⟩
 refine wpAny_call (codeAny_mono (F.no.run X.A.in1.in1 X.stack s H ⟨[u],[]⟩ [u] [x] _ _ hr.in1.in1 I.env0.in1.in1 (by simpa using hb s [u] I.kIn rfl) (.cons rx .nil) h0) fun r s' hq=>?_)
 cases r with
 | error e=>exact hq.elim
 | ok fl =>
  cases fl with
  | ret u=>exact I.after hq
  | next=>exact False.elim hq
  | brk=>exact False.elim hq
  | cont=>exact False.elim hq
theorem NF {a KS:Addr} {items:Array Value} {oa:Obj} {E:Value->Shared->Prop} (F:FnD X.prog X.w X.K X.mg X.base k f fd [p] g) (hr:Room (k+2) X.A) (hb:Binds X.K fd [p] []) (hne:KS≠a) (hoa:∀ v,oa.data≠.cell v) :
  ∀ (us:List Value) (xs:List V) (pvs kvs:List PV) (s:Shared) (H:Hp) (ks:List Value) (n:Nat) (Q:PUnit->Shared->Prop),L2.Inv X pins σ H s->(∀ a,W a->H a≠none)->wW X pins H a->wW X pins H KS->s.heap.get? a=some oa ->
   s.heap.get? KS=some (seqObj "list" ks.toArray n)->Vals xs us->Reps X.K (hid W H) pvs xs->ZP g pvs=.ok kvs->ks.length+us.length<=100000 ->
   (∀ s' H' kx kus n',L2.Inv X pins σ H' s'->Same H H'->(∀ a,W a->H' a≠none)->wW X pins H' a->wW X pins H' KS->s'.heap.get? a=some oa->s'.heap.get? KS=some (seqObj "list" (ks++kus).toArray n')->Vals kx kus->Reps X.K (hid W H') kvs kx->Q ⟨⟩ s') ->
   wpAny (model X.prog X.w) X.A.in1.in1 (forIn us PUnit.unit fun x _=>PuS.keyStep a (.ref KS) f items x) Q E s:=by
 intro us
 induction us with
 | nil =>
  intro xs pvs kvs s H ks n Q I tk fa fK ha hK rv r ek hz q;cases rv;cases pvs with
  | cons _ _=>obtain ⟨_,_,e,_⟩:=Reps.cons.mp r;cases e
  | nil =>
   cases ek;rw [List.forIn_nil];exact jP (q s H [] [] n I (Same.refl _) tk fa fK ha (by rw [List.append_nil];exact hK) .nil (Reps.nil.mpr rfl))
 | cons u us ih =>
  intro xs pvs kvs s H ks n Q I tk fa fK ha hK rv r ek hz q;cases rv with
  | cons q1 q2 =>
  rename_i x xs
  cases pvs with
  | nil=>have:=Reps.nil.mp r;cases this
  | cons v pvs =>
  obtain ⟨x',t',e,r1,r2⟩:=Reps.cons.mp r;cases e;rw [ZP] at ek;cases e1:g [v] with
  | exc z=>rw [e1] at ek;cases ek
  | bad=>rw [e1] at ek;cases ek
  | ok kP =>
  rw [e1,Res.bind_ok] at ek;cases e2:ZP g pvs with
  | exc z=>rw [e2] at ek;cases ek
  | bad=>rw [e2] at ek;cases ek
  | ok kvs' =>
  rw [e2,Res.bind_ok] at ek;cases ek;rw [List.forIn_cons];have ffp:∀ b∈[a,KS],wW X pins H b:=fun b hb'=>by
   rcases List.mem_cons.mp hb' with rfl | hb'
   ·exact fa
   ·rw [List.mem_singleton.mp hb'];exact fK
  have I1p:=I.pinned (fp:=[a,KS]) ffp (fun b hb'=>by
   rcases List.mem_cons.mp hb' with rfl | hb'
   ·exact ⟨_,ha,hoa⟩
   ·rw [List.mem_singleton.mp hb'];exact ⟨_,hK,fun v e=>by cases e⟩)
  refine jB ?_;unfold PuS.keyStep;refine jB (wpAny_attempt (wpAny_mono (NE F hr hb I1p tk r1 q1 e1) (fun kv' s2 ⟨kx',H2,I2,qk',s12,rk'⟩=>?_) fun _ _ e=>e.elim))
  have pa:=I2.pin (a,oa) (List.mem_append_right _ (List.mem_append_right _ (xx (by simp) ha)));have pK:=I2.pin (KS,seqObj "list" ks.toArray n) (List.mem_append_right _ (List.mem_append_right _ (xx (by simp) hK)));have I2':=I2.unpinned;have fa2:wW X pins H2 a:=⟨pa.2.1,fa.2⟩;have fK2:wW X pins H2 KS:=⟨pK.2.1,fK.2⟩;have tk2:∀ a,W a->H2 a≠none:=fun a wa e=>by
   cases e0:H a with
   | none=>exact tk a wa e0
   | some o=>rw [s12 a o e0] at e;cases e
  simp only [List.length_cons] at hz;dsimp only;refine jB (listUpdate_at pK.1 rfl ?_ (by simp [sizeLine_eq];omega) (by simp [sizeLine_eq];omega));obtain ⟨n2,hK3⟩:∃ n2,(s2.heap.update KS (Obj.mapSeq (·.push kv'))).get? KS=some (seqObj "list" (ks.toArray.push kv') n2):=⟨_,get?_update_seq pK.1 (·.push kv')⟩;have hK3':(s2.heap.update KS (Obj.mapSeq (·.push kv'))).get? KS=some (seqObj "list" (ks++[kv']).toArray n2):=by rw [hK3];simp
  refine jP ?_;dsimp only;refine ih xs pvs kvs' _ H2 (ks++[kv']) n2 Q (I2'.turned (t':=s2.toks) (it:=KS) (fun b o hb e=>(Heap.get?_update_other _ _ (Ne.symm hb)).trans e) fK2.1 fK2.2.1 fK2.2.2.2.1 fK2.2.2.2.2.1 fK2.2.2.2.2.2) tk2 fa2 fK2 ((Heap.get?_update_other _ _ hne).trans pa.1) hK3' q2 (r2.mono (zD s12)) e2 (by simp;omega) ?_
  intro s' H' kx kus n' I' sH tk' fa' fK' ha' hK' rvk rk;exact q s' H' (kx'::kx) (kv'::kus) n' I' (s12.trans sH) tk' fa' fK' ha' (by rw [List.append_assoc] at hK';exact hK') (.cons qk' rvk) (Reps.mk (rk'.mono (zD sH)) rk)
end
section
variable {X:Cx} {pins:List (Addr×Obj)} {σ:SS} {H:Hp} {s:Shared}
theorem AV {a:Addr} {its:List Value} {ys:List V} {n:Nat} (I:L2.Inv X pins σ H s) (f:wW X pins H a) (e:s.heap.get? a=some {cls:=.type "list",data:=.seq its.toArray n}) (hv:Vals ys its) (hz:ys.length<=sizeLine):L2.Inv X pins σ (upd H a (.lst ys)) s:=by
 obtain ⟨f1,f2,f3,f4,f5,f6⟩:=f;have nb:∀ b o,X.s₀.heap.get? b=some o->b∉X.ex->b≠a:=fun b o q hx z=>by
  rcases f4 with z1 | z1
  ·exact hx (z ▸ z1)
  ·exact absurd (Nat.lt_of_lt_of_le (jH q) z1) (by rw [z];exact Nat.lt_irrefl _)
 refine ⟨I.ok,I.os,I.bare,⟨I.base.keep,I.base.slot,fun b o q n hx=>by rw [zu (nb b o q hx)];exact I.base.free b o q n hx,I.base.there,fun b xs q=>?_,fun b o u q=>?_,fun b ps q=>?_⟩,I.loc,I.cell,by rw [zu (Ne.symm f2)];exact I.free,
  fun x c q=>by rw [zu (f5 x c q)];exact I.freeC x c q,fun p hp=>?_,fun b u q=>?_,I.len⟩
 ·have:=I.base.tups b xs q;rw [zu (zA this f1)];exact this
 ·have:=I.base.frzs b o u q;rw [zu (zA this f1)];exact this
 ·obtain ⟨more,this⟩:=I.base.tbls b ps q;exact ⟨more,by rw [zu (zA this f1)];exact this⟩
 ·obtain ⟨p1,p2,p3⟩:=I.pin p hp;exact ⟨p1,by rw [zu (f6 p hp)];exact p2,p3⟩
 ·by_cases hb:b=a
  ·subst hb;rw [zE] at q;cases q;exact ⟨hz,its,n,hv,e⟩
  ·rw [zu hb] at q;exact (I.hok b u q).stay (fun c v _ q=>q) (fun c q=>by rw [zu (zA q f1)];exact q) fun c xs q=>by rw [zu (zA q f1)];exact q
end
def Lh (l:List (List Int×PV)) (k:List Int):PV:=((l.find? fun p=>p.1==k).map (·.2)).getD .non
def ZG (nss:List (List Int)) (vs:List PV):List PV:=(wo false nss).map (Lh (nss.zip vs))
theorem Kq {l:List (List Int×PV)} (nd:(l.map (·.1)).Nodup) {p:List Int×PV} (hp:p∈l):Lh l p.1=p.2:=by
 induction l with
 | nil=>cases hp
 | cons q l ih =>
  rw [List.map_cons,List.nodup_cons] at nd;unfold Lh;rw [List.find?_cons]
  rcases List.mem_cons.mp hp with rfl | hp
  ·simp
  ·have hne:(q.1==p.1)=false:=by
    rw [beq_eq_false_iff_ne];exact fun z=>nd.1 (z ▸ List.mem_map_of_mem hp)
   rw [hne];exact ih nd.2 hp
def VF (g:Df):PV->Res PV
 | .lst vs=>(noX (ZP g vs)).bind fun kvs=>(qR (qT kvs)).bind fun nss=>if nss.Nodup/\nss.length<=100000 then .ok (.lst (ZG nss vs)) else .bad
 | _=>.bad
def Ku (g:Df) (d:De):De:=fun ρ=>(d ρ).bind (VF g)
theorem Uw {g:Df}:∀ {vs ks:List PV},ZP g vs=.ok ks->ks.length=vs.length
 | [],ks,h=>by cases h;rfl
 | v::vs,ks,h=>by
  rw [ZP] at h;obtain ⟨k,h1,h⟩:=bind_ok h;obtain ⟨ks',h2,h⟩:=bind_ok h;cases h;simp [Uw h2]
section
variable {X:Cx} {pins:List (Addr×Obj)} {σ:SS} {W:Addr->Prop} {k:Nat} {f:Addr} {fd:FuncData} {p:Str} {g:Df}
theorem XD {m:PuS.Md} {h:Heap} {K:PySem.W.Frag} {G:Hp} {pv:List Int->PV}:∀ {nss:List (List Int)} {xs:List V} {us:List Value},(∀ ns∈nss,∀ x u,Rep K G (pv ns) x->RelV x u->PuS.IT m h u ns)->Reps K G (nss.map pv) xs->Vals xs us->Paired (PuS.IT m h) us nss
 | [],xs,us,_,r,q=>by
  obtain rfl:=Reps.nil.mp r;cases q;exact .nil
 | ns::nss,xs,us,hit,r,q=>by
  obtain ⟨x,t,rfl,r1,r2⟩:=Reps.cons.mp r;cases q with
  | cons q1 q2=>exact .cons (hit ns jC _ _ r1 q1) (XD (fun k hk=>hit k (jM _ hk)) r2 q2)
theorem Xl {m:PuS.Md} {h:Heap} {K:PySem.W.Frag} {G:Hp}:∀ {nss:List (List Int)} {ks us:List Value} {xs:List V} {vs:List PV},Paired (PuS.IT m h) ks nss->Vals xs us->Reps K G vs xs->ks.length=us.length ->
  Paired (fun (q:Keyed) (p:List Int×(PV×V))=>PuS.KY m h q.1=p.1/\RelV p.2.2 q.2/\Rep K G p.2.1 p.2.2) (ks.zip us) (nss.zip (vs.zip xs))
 | _,_,_,_,_,.nil,_,_,_=>by rw [List.zip_nil_left,List.zip_nil_left];exact .nil
 | n::nss,k::ks,us,xs,vs,.cons r t,rv,rp,hl=>by
  cases rv with
  | nil=>simp at hl
  | cons q1 q2 =>
   cases vs with
   | nil=>have:=Reps.nil.mp rp;cases this
   | cons v vs =>
    obtain ⟨x',t',e,r1,r2⟩:=Reps.cons.mp rp;cases e;rw [List.zip_cons_cons,List.zip_cons_cons,List.zip_cons_cons];exact .cons ⟨by unfold PuS.KY;rw [r.key];rfl,q1,r1⟩ (Xl t q2 r2 (by simpa using hl))
theorem Mh {m:PuS.Md} {h:Heap} {K:PySem.W.Frag} {G:Hp}:∀ {ps:List Keyed} {qs:List (List Int×(PV×V))},Paired (fun (q:Keyed) (p:List Int×(PV×V))=>PuS.KY m h q.1=p.1/\RelV p.2.2 q.2/\Rep K G p.2.1 p.2.2) ps qs ->
  ps.map (fun q=>PuS.KY m h q.1)=qs.map (·.1)/\Vals (qs.map (·.2.2)) (ps.map (·.2))/\Reps K G (qs.map (·.2.1)) (qs.map (·.2.2))
 | _,_,.nil=>⟨rfl,.nil,Reps.nil.mpr rfl⟩
 | _,_,.cons ⟨a,b,c⟩ t=>by
  obtain ⟨h1,h2,h3⟩:=Mh t;exact ⟨by rw [List.map_cons,List.map_cons,h1,a],.cons b h2,Reps.mk c h3⟩
theorem Qm {nss:List (List Int)} {vs:List PV} {xs:List V} (nd:nss.Nodup) (h1:nss.length=vs.length) (h2:vs.length=xs.length) {qs:List (List Int×(PV×V))} (hp:qs.Perm (nss.zip (vs.zip xs))) (hs:(qs.map (·.1)).Pairwise fun x y=>ub false x y=true):qs.map (·.2.1)=ZG nss vs:=by
 have e1:(nss.zip (vs.zip xs)).map (·.1)=nss:=by rw [<- List.unzip_fst,List.unzip_zip (by simp;omega)]
 have hk:qs.map (·.1)=wo false nss:=wm (by have:=hp.map (·.1);rwa [e1] at this) hs;unfold ZG;rw [<- hk,List.map_map];apply List.map_congr_left;intro q hq;have hm:=hp.mem_iff.mp hq;have hm2:(q.1,q.2.1)∈nss.zip vs:=by
  obtain ⟨i,hi,e⟩:=List.mem_iff_getElem.mp hm;rw [List.getElem_zip,List.getElem_zip] at e;rw [<- e];have hi':i<nss.length/\i<vs.length:=by simp at hi;omega
  exact List.mem_iff_getElem.mpr ⟨i,by simp;omega,by rw [List.getElem_zip]⟩
 have e2:(nss.zip vs).map (·.1)=nss:=by rw [<- List.unzip_fst,List.unzip_zip h1]
 exact (Kq (by rw [e2];exact nd) hm2).symm
end
end Pu
namespace PuS
open PySem PyProof.Rows PySem.W PySem.Calls
section
variable {prog:Program} {w:World} {A:Around} {E:Value->Shared->Prop} {s:Shared}
theorem sorted_head {f l:Addr} {vs:List Value} {Q:Value->Shared->Prop} (hl:s.heap.IsList l vs.toArray) (hz:vs.length<=100000)
  (h:∀ (h6:Heap) (e1:Nat),(∀ c o,s.heap.get? c=some o->h6.get? c=some o)->h6.get? (s.heap.objs.size+1)=some (seqObj "list" #[] e1)->h6.get? (s.heap.objs.size+3)=some (seqObj "list" #[] 0) ->
   wpAny (model prog w) A.in1.in1 (do
    let _ <- forIn vs PUnit.unit fun x _=>keyStep (s.heap.objs.size+1) (.ref (s.heap.objs.size+3)) f vs.toArray x
    js (s.heap.objs.size+1) (.ref (s.heap.objs.size+3)) e1 vs.toArray) (fun fin s'=>fin=.done (.ret .none)/\Q (.ref (s.heap.objs.size+1)) s') E {s with heap:=h6}) :
  wpAny (model prog w) A (call (.builtin "sorted") [.ref l] (kwK f)) Q E s:=by
 have hzl:vs.length<=sizeLine:=by rw [sizeLine_eq];omega
 refine call_function_entry_kw kind_sorted plain_sorted entry_sorted (Sy _ f) ?_;unfold Builtin.«sorted»;refine jB (m:=checkCount "sorted" 1 1 _) (jP ?_);refine jB (collect_list hl ?_ hzl);refine jB (wpAny_newList ?_ hzl);have hsz:((s.heap.push (seqObj "list" #[] 0)).update s.heap.objs.size (Obj.mapSeq (·++vs.toArray))).objs.size=s.heap.objs.size+1:=by
  rw [Heap.size_update,size_push']
 generalize hh:((s.heap.push (seqObj "list" #[] 0)).update s.heap.objs.size (Obj.mapSeq (·++vs.toArray))).push (seqObj "list" vs.toArray 0)=h1;have hs1:h1.objs.size=s.heap.objs.size+2:=by rw [<- hh,size_push',hsz]
 have hoL:h1.get? (s.heap.objs.size+1)=some (seqObj "list" vs.toArray 0):=by
  rw [<- hh,<- hsz];exact Heap.get?_push_size _ rfl
 have keep:∀ c o,s.heap.get? c=some o->h1.get? c=some o:=fun c o q=>by
  have hlt:c<s.heap.objs.size:=jH q;rw [<- hh,Heap.get?_push_ne _ _ _ (by rw [hsz];exact Nat.ne_of_lt (Nat.lt_succ_of_lt hlt)),Heap.get?_update_ne _ _ _ _ (Nat.ne_of_lt hlt),Heap.get?_push_ne _ _ _ (Nat.ne_of_lt hlt)];exact q
 show wpAny _ _ _ _ _ {s with heap:=h1}
 rw [hsz];refine jB (wpAny_holding (wpAny_call_entry_kw slot_list_sort ⟨_,hoL,rfl⟩ entry_list_sort ?body (Sz _ f)))
 case body =>
  rw [Ml];unfold SD;refine jB (listItems_at hoL rfl ?_);refine jB (listUpdate_at hoL rfl ?_ (by rw [List.size_toArray];exact hzl) (Nat.zero_le _));obtain ⟨e1,ho1⟩:∃ e1,(h1.update (s.heap.objs.size+1) (Obj.mapSeq fun _=>#[])).get? (s.heap.objs.size+1)=some (seqObj "list" #[] e1):=⟨_,get?_update_seq hoL (fun _=>#[])⟩;refine jB (seqEpoch_at ho1 rfl ?_);refine jB (wpAny_newTuple ?_ (by show vs.length<=_;exact hzl));refine jB (wpAny_newList ?_ (Nat.zero_le _));refine wpAny_holding ?_;have hk:((h1.update (s.heap.objs.size+1) (Obj.mapSeq fun _=>#[])).push (seqObj "tuple" vs.toArray 0)).objs.size=s.heap.objs.size+3:=by rw [size_push',Heap.size_update,hs1]
  generalize hh6:((h1.update (s.heap.objs.size+1) (Obj.mapSeq fun _=>#[])).push (seqObj "tuple" vs.toArray 0)).push (seqObj "list" #[] 0)=h6;have hK6:h6.get? (s.heap.objs.size+3)=some (seqObj "list" #[] 0):=by rw [<- hh6,<- hk];exact Heap.get?_push_size _ rfl
  have k6:∀ c o,c≠s.heap.objs.size+1->h1.get? c=some o->h6.get? c=some o:=fun c o hc e=>by
   rw [<- hh6];refine jG _ (jG _ ?_);rw [Heap.get?_update_other _ _ (Ne.symm hc)];exact e
  have ho6:h6.get? (s.heap.objs.size+1)=some (seqObj "list" #[] e1):=by
   rw [<- hh6];exact jG _ (jG _ ho1)
  show wpAny _ _ _ _ _ {s with heap:=h6}
  rw [hk];refine jB (wpAny_rule ?_);have fin:=h h6 e1 (fun c o q=>k6 c o (Nat.ne_of_lt (Nat.lt_succ_of_lt (jH q))) (keep c o q)) ho6 hK6
  rw [List.forIn_toArray];refine wpAny_mono fin (fun fn s' ⟨e,q⟩=>?_) fun e s' q=>q
  subst e;exact ⟨_,rfl,jP ⟨_,rfl,q⟩⟩
end
end PuS
namespace Pu
open PySem PySem.Spec PyProof.Rows L2
section
variable {X:Cx} {pins:List (Addr×Obj)} {σ:SS} {W:Addr->Prop} {k:Nat} {f:Addr} {fd:FuncData} {p:Str} {g:Df}
set_option maxHeartbeats 4000000 in
theorem Ql {H:Hp} {s:Shared} (F:FnD X.prog X.w X.K X.mg X.base k f fd [p] g) (hr:Room (k+2) X.A) (hb:Binds X.K fd [p] []) (I:L2.Inv X pins σ H s) {pvs kvs:List PV} {nss:List (List Int)} {x:V} {u:Value} {Q:VK} {E:Value->Shared->Prop} (tk:∀ a,W a->H a≠none)
  (r:Rep X.K (hid W H) (.lst pvs) x) (rx:RelV x u) (ek:ZP g pvs=.ok kvs) (en:qT kvs=some nss) (nd:nss.Nodup) (hz:nss.length<=100000) (q:OkQ X.K W H Q (.lst (ZG nss pvs))) :
  wpAny (model X.prog X.w) X.A (call (.builtin "sorted") [u] (PuS.kwK f)) (EP X pins σ Q) E s:=by
 obtain ⟨l,xs,rfl,h1,h2⟩:=Rep.lst'.mp r;cases rx;obtain ⟨vs,rv,pl,hl0⟩:=I.list (xP h1);obtain ⟨rfl,hne⟩:=Gj en;have lk:nss.length=pvs.length:=by have:=Uw ek;simpa using this
 have lx:xs.length=pvs.length:=h2.length;have lv:vs.length=pvs.length:=by rw [<- rv.length,lx]
 refine PuS.sorted_head pl.isList (by omega) fun h6 e1 keep ho hK=>?_
 have hna:(s.heap.objs.size+3)≠(s.heap.objs.size+1):=by omega
 have I6:L2.Inv X pins σ H {s with heap:=h6}:=I.kept (t':=s.toks) keep
 have fa:wW X pins H (s.heap.objs.size+1):=I.fpOk (Nat.le_succ _) (I.hok.fresh (Nat.le_succ _));have fK:wW X pins H (s.heap.objs.size+3):=I.fpOk (by omega) (I.hok.fresh (by omega));have hn1:H (s.heap.objs.size+1)=none:=I.hok.fresh (Nat.le_succ _);generalize s.heap.objs.size+1=a at *;generalize s.heap.objs.size+3=KS at *;refine jB (NF (W:=W) F hr hb hna (fun v e=>by cases e) vs xs pvs (nss.map ppv) _ H [] 0 _ I6 tk fa fK ho (by simpa using hK) rv h2 ek (by simp;omega) ?_);intro s' H' kx kus n' I' sH tk' fa' fK' ha' hK' rvk rk;rw [List.nil_append] at hK';have pk:Paired (PuS.IT .two s'.heap) kus nss:=XD (fun ns hn x u r q=>Lb I' (hne ns hn) r q) rk rvk
 have lku:kus.length=vs.length:=by
  have a1:=rk.length;have a2:=rvk.length;simp at a1;omega
 refine PuS.rest_ok (m:=.two) ha' hK' hna lku pk (by omega) (fun s2 G hG=>PuS.cmp_ints1 (by have:=hr.un;simp only [Around.in1_units];omega) hG) fun hm h2' ps n2 hp hs kp1 kp2 hfin=>⟨rfl,?_⟩
 have rI:Reps X.K (hid W H') pvs xs:=h2.mono (zD sH);obtain ⟨qs,g1,g2⟩:=qc hp.symm (Xl (K:=X.K) (G:=hid W H') pk rv rI lku);obtain ⟨z1,z2,z3⟩:=Mh g2;have hsrt:(qs.map (·.1)).Pairwise fun x y=>ub false x y=true:=by
  rw [<- z1,List.pairwise_map];refine hs.imp fun {u v} e=>?_
  unfold ub lle;simp only [Bool.false_eq_true,if_false];simp [e]
 have hres:=Qm nd lk lx.symm g1.symm hsrt;rw [hres] at z3;have Im:L2.Inv X pins σ H' {s' with heap:=hm}:=I'.turned (t':=s'.toks) (it:=KS) kp1 fK'.1 fK'.2.1 fK'.2.2.2.1 fK'.2.2.2.2.1 fK'.2.2.2.2.2
 have I2:L2.Inv X pins σ H' {s' with heap:=h2'}:=L2.Inv.turned (s:={s' with heap:=hm}) (t':=s'.toks) (it:=a) Im kp2 fa'.1 fa'.2.1 fa'.2.2.2.1 fa'.2.2.2.2.1 fa'.2.2.2.2.2
 have fa2:wW X pins H' a:=fa';have hlen:(qs.map (·.2.2)).length<=sizeLine:=by
  rw [List.length_map,<- g1.length_eq,List.length_zip,List.length_zip,sizeLine_eq];omega
 have J:=AV (s:={s' with heap:=h2'}) I2 fa2 hfin z2 hlen;exact ⟨.ref a,_,J,rfl,uF (wO q sH) tk' z3 fa'.1⟩
variable {a:Expr} {da:De} {pos:Pos}
theorem Sj {x:Str} {pn px kp:Pos} (h:zY X.prog X.w X.K X.mg X.base k x [p] g) (hr:Room (k+2) X.A) (hg:Gl X "sorted") (hm:X.mg "sorted" = none) (hgx:Gl X x) (ha:DE X a da) (hdx:(x==("__debug__" : Str))=false:=by decide)
  (he:starEach [a] X.env=(false,eval a X.env)::starEach [] X.env:=by rfl)
  (hall:(backToKw pos (keywordEach [⟨some "key",.Name x px,kp⟩] X.env)).all (·.1.isSome)=true:=by rfl)
  (hks:(backToKw pos (keywordEach [⟨some "key",.Name x px,kp⟩] X.env)).filterMap (·.1)=[Str.ofString "key"]:=by rfl)
  (hp1:(backTo pos (starEach [a] X.env)).any (·.1)=false:=by rfl) (hp2:(backToKw pos (keywordEach [⟨some "key",.Name x px,kp⟩] X.env)).any (·.1.isNone)=false:=by rfl) :
  DE X (.Call (.Name "sorted" pn) [a] [⟨some "key",.Name x px,kp⟩] pos) (Ku g da):=by
 obtain ⟨f,fd,F,hb,hk,hmf⟩:=h;intro pins s σ H Q I ⟨W,ρ,er,h⟩;refine wpAny_Call_Name_kw (vv I hg hm wU ?_ (by decide) (by decide));refine PyProof.Rows.callWith_kw (thn ((zg ha zi he) pos pins s σ H (fun ys H2=>∃ y v,ys=[y]/\ER X.K W H2 σ ρ/\Rep X.K (hid W H2) v y/\Fin X W H2 Q (VF g v)) I ?_) fun us s1 ⟨vs,H1,I1,r1,y,v,e,er1,ry,h1⟩=>?_) (by rw [he]<;>rfl) hp1 hall hp2
 ·refine ⟨W,ρ,er,?_⟩;unfold Ku at h;cases e:da ρ with
  | exc z=>rw [e] at h;simp only [zd,e,Res.bind_exc];exact h
  | bad=>rw [e] at h;exact h.elim
  | ok v =>
   rw [e,Res.bind_ok] at h;simp only [zd,zj,e,Res.bind_ok];intro ys H2 s2 r2;obtain ⟨y,t,rfl,q1,q2⟩:=Reps.cons.mp r2;obtain rfl:=Reps.nil.mp q2;exact ⟨y,v,rfl,er.mono s2,q1,Fin.grow h s2⟩
 ·refine thn (JV (nm:=some "key") (kpos:=kp) (JW hgx hmf (v:=.ref f) rfl hdx) MX pos pins s1 σ H1 (fun zs H2=>zs=[V.ref f]/\H2=H1) I1 ⟨rfl,rfl⟩) fun ws s2 ⟨zs,H2,I2,rz,e3,e4⟩=>?_
  subst e3 e4;rw [hks];obtain ⟨b,rfl,rb⟩:=wM rz;cases (show b=Value.ref f from rb);subst e;obtain ⟨w,rfl,rw'⟩:=wM r1;cases v<;>simp only [VF] at h1<;>first | exact h1.elim | skip
  rename_i vs
  cases e1:ZP g vs with
  | exc z=>rw [e1] at h1;exact h1.elim
  | bad=>rw [e1] at h1;exact h1.elim
  | ok kvs =>
  rw [e1] at h1;cases e2:qT kvs with
  | none=>simp only [noX,Res.bind_ok,e2,qR,Res.bind_bad] at h1;exact h1.elim
  | some nss =>
  have h1:Fin X W H2 Q (if nss.Nodup/\nss.length<=100000 then .ok (.lst (ZG nss vs)) else .bad):=by simpa only [noX,Res.bind_ok,e2,qR] using h1
  by_cases hc:nss.Nodup/\nss.length<=100000
  ·rw [if_pos hc] at h1;exact Ql F hr hb I2 er1.trk ry rw' e1 e2 hc.1 hc.2 h1
  ·rw [if_neg hc] at h1;exact h1.elim
end
@[simp] theorem Rf {g:Df} {d:De} {ρ:En}:Ku g d ρ=(d ρ).bind (VF g):=(rfl)
end Pu
namespace PuS
open PySem PyProof.Rows PySem.W
theorem Bc:∀ (t a b:List Int),llt (enc2 t a) (enc2 t b)=llt a b
 | [],a,b=>by simp [enc2,llt]
 | i::t,a,b=>by
  have ih:=Bc t a b;unfold enc2 at ih ⊢;simp only [List.flatMap_cons,List.cons_append,List.nil_append,llt,if_true];exact ih
theorem Bb:∀ (t t' a b:List Int),t≠t'->llt (enc2 t a) (enc2 t' b)=llt t t'
 | [],[],a,b,h=>absurd rfl h
 | [],j::s,a,b,_=>by simp [enc2,llt]
 | i::t,[],a,b,_=>by simp [enc2,llt]
 | i::t,j::s,a,b,h=>by
  by_cases e:i=j
  ·subst e;have ih:=Bb t s a b fun z=>h (by rw [z])
   unfold enc2 at ih ⊢;simp only [List.flatMap_cons,List.cons_append,List.nil_append,llt,if_true];exact ih
  ·unfold enc2;simp only [List.flatMap_cons,List.cons_append,List.nil_append,llt,if_true,if_neg e]
section
variable {prog:Program} {w:World} {A:Around} {E:Value->Shared->Prop} {s:Shared}
theorem cmp_prs {G:List Keyed} (hu:A.units+10<cLine) (hG:∀ u∈G,∃ ns,IT .prs s.heap u.1 ns):Cmp prog w A s (kInts .prs s.heap) (tuples' false) G:=by
 intro u hu' v hv E Q q;obtain ⟨ns,hn⟩:=hG u hu';obtain ⟨ms,hm⟩:=hG v hv;have k1:kk (kInts .prs s.heap) u=ns:=by show (keyH .prs s.heap u.1).getD []=ns;rw [hn.key];rfl
 have k2:kk (kInts .prs s.heap) v=ms:=by show (keyH .prs s.heap v.1).getD []=ms;rw [hm.key];rfl
 have q':Q (llt ns ms) s:=by rw [k1,k2] at q;exact q
 obtain ⟨a,o,xs,n,x,x2,t,t2,e1,ho,_,hd,hx,hi,hi2,rfl⟩:=hn;obtain ⟨b,p,ys,m,y,y2,r,r2,e2,hp,_,hd2,hy,hj,hj2,rfl⟩:=hm;rw [e1,e2];refine kat_lt ho hd hp hd2 ?_;rw [hx,hy];have hsz:decide (xs.size<ys.size)=false:=by
  rw [<- Array.length_toList,<- Array.length_toList,hx,hy];simp
 rw [hsz];have rd:∀ {z:Value} {l:List Int},IT0 s.heap z l->Reads s.heap z (.tuple (l.map PyData.int)) []:=fun ⟨za,zo,zxs,zn,e,h1,h2,h3,h4⟩=>by rw [e];exact .tuple h1 h2 h3 (qz h4)
 have ly:∀ l:List Int,(PyData.tuple (l.map PyData.int)).canLay0=true:=fun l=>jF l
 have dp:∀ l:List Int,(PyData.tuple (l.map PyData.int)).depth=1:=fun l=>by simp [PyData.depth,jR]
 have hr:∀ l l':List Int,A.units+min (PyData.tuple (l.map PyData.int)).depth (PyData.tuple (l'.map PyData.int)).depth<cLine:=fun l l'=>by rw [dp,dp];omega
 have hev:∀ l l':List Int,PyData.eqv (PyData.tuple (l.map PyData.int)) (PyData.tuple (l'.map PyData.int))=decide (l=l'):=fun l l'=>YL l l'
 show KatLex prog w A false false Q [(x,y),(x2,y2)] 0 s;refine kat_cons (PySem.SeqAt.eqAt_reads _ _ A s _ _ _ _ (rd hi) (rd hj) (ly t) (ly r) (hr t r) prog w _ _ ?_);rw [hev]
 by_cases htr:t=r
 ·subst htr;rw [decide_eq_true rfl];rw [Bc] at q';refine kat_yes (kat_cons (PySem.SeqAt.eqAt_reads _ _ A s _ _ _ _ (rd hi2) (rd hj2) (ly t2) (ly r2) (hr t2 r2) prog w _ _ ?_));rw [hev]
  by_cases h2:t2=r2
  ·subst h2;rw [decide_eq_true rfl];rw [llt_irrefl] at q';exact kat_yes (kat_nil q')
  ·rw [decide_eq_false h2];exact kat_no (kat_one _ _ (jD _ _ (rd hi2) (rd hj2) (ly t2) (ly r2) (hr t2 r2) (jE t2 r2) prog w _ _ q'))
 ·rw [decide_eq_false htr];rw [Bb _ _ _ _ htr] at q';exact kat_no (kat_one _ _ (jD _ _ (rd hi) (rd hj) (ly t) (ly r) (hr t r) (jE t r) prog w _ _ q'))
end
end PuS
namespace Pu
open PySem PySem.Spec PyProof.Rows L2
def jS:List Int->List Int×List Int
 | []=>([],[])
 | [_]=>([],[])
 | k::i::r=>if k=1 then (i::(jS r).1,(jS r).2) else ([],i::r)
theorem KA:∀ (t:List Int) (i:Int) (b:List Int),jS (PuS.enc2 t (i::b))=(t,i::b)
 | [],i,b=>by simp [PuS.enc2,jS]
 | j::t,i,b=>by
  have ih:=KA t i b;unfold PuS.enc2 at ih ⊢;simp only [List.flatMap_cons,List.cons_append,List.nil_append,jS,if_true,ih]
theorem UP:∀ (t:List Int),jS (PuS.enc2 t [])=(t,[])
 | []=>by simp [PuS.enc2,jS]
 | j::t=>by
  have ih:=UP t;unfold PuS.enc2 at ih ⊢;simp only [List.flatMap_cons,List.cons_append,List.nil_append,jS,if_true,ih]
theorem XT (t b:List Int):jS (PuS.enc2 t b)=(t,b):=by
 cases b with
 | nil=>exact UP t
 | cons i b=>exact KA t i b
def qpv (ns:List Int):PV:=.tup [tpv (jS ns).1,tpv (jS ns).2]
theorem WE (t b:List Int):qpv (PuS.enc2 t b)=.tup [tpv t,tpv b]:=by unfold qpv;rw [XT]
def Yy:List PV->Option (List (List Int))
 | []=>some []
 | .tup [.tup xs,.tup ys]::r=>(yZ xs).bind fun a=>(yZ ys).bind fun b=>(Yy r).map (PuS.enc2 a b::·)
 | _=>none
theorem MS (l:List (List Int×List Int)):Yy (l.map fun p=>.tup [tpv p.1,tpv p.2])=some (l.map fun p=>PuS.enc2 p.1 p.2):=by
 induction l with
 | nil=>rfl
 | cons p l ih =>
  rw [List.map_cons];unfold tpv at ih ⊢;simp only [Yy,xR,ih];rfl
def JC (b:Bool):PV->Res PV
 | .lst xs=>(qR (Yy xs)).bind fun nss=>if nss.length<=100000 then .ok (.lst ((wo b nss).map qpv)) else .bad
 | _=>.bad
section
variable {X:Cx} {pins:List (Addr×Obj)} {σ:SS} {H:Hp} {s:Shared} {W:Addr->Prop}
theorem NL (I:L2.Inv X pins σ H s) {ns:List Int} {x:V} {u:Value} (r:Rep X.K (hid W H) (tpv ns) x) (q:RelV x u):PuS.IT0 s.heap u ns:=by
 obtain ⟨a,xs,rfl,h1,h2⟩:=Rep.tup'.mp r;cases q;obtain ⟨its,rv,⟨o,e1,e2,n,e3⟩,_⟩:=I.tuple (yU h1);exact ⟨a,o,its.toArray,n,rfl,e1,e2,e3,by simpa using Yf h2 rv⟩
theorem La (I:L2.Inv X pins σ H s) {a b:List Int} {x:V} {u:Value} (r:Rep X.K (hid W H) (qpv (PuS.enc2 a b)) x) (q:RelV x u):PuS.IT .prs s.heap u (PuS.enc2 a b):=by
 rw [WE] at r;obtain ⟨c,xs,rfl,h1,h2⟩:=Rep.tup'.mp r;cases q;obtain ⟨x1,r1,rfl,a1,a2⟩:=Reps.cons.mp h2;obtain ⟨x2,r2,rfl,b1,b2⟩:=Reps.cons.mp a2;obtain rfl:=Reps.nil.mp b2;obtain ⟨its,rv,⟨o,e1,e2,n,e3⟩,_⟩:=I.tuple (yU h1);cases rv with
 | cons q1 rv =>
  cases rv with
  | cons q2 rv =>
   cases rv;exact ⟨c,o,_,n,_,_,a,b,rfl,e1,e2,e3,rfl,NL I a1 q1,NL I b1 q2,rfl⟩
variable {a:Expr} {da:De} {p pos:Pos}
end
end Pu
namespace PuD
open PySem PySem.Spec PyProof.Rows
section
variable {prog:Program} {w:World} {K:Type} [DecidableEq K] {knd:HeapKind prog w K} {A:Around} {E:Value->Shared->Prop} {s:Shared}
theorem ZO {d a:Addr} {xs:List (K×Addr×Value)} {k:K} {v:Value} {Q:Value->Shared->Prop} (hu:knd.room A) (hkey:knd.is s.heap k a) (hm:s.heap.DictOfH knd d xs) (hsz:xs.length<=sizeLine)
  (h1:∀ p,atKey xs k=some p->Q p.2 {s with toks:=s.toks+knd.draws k})
  (h2:atKey xs k=none->∀ h',h'.DictOfH knd d (xs++[(k,a,v)])->Heap.SameBut d s.heap h'->Q v {s with heap:=h',toks:=s.toks+knd.draws k}) :
  wpAny (model prog w) A (dictSetDefault d (.ref a) v) Q E s:=by
 obtain ⟨o,es,ep,ho,hc,hd,he,his,hn⟩:=hm;unfold dictSetDefault;refine wpAny_holding ?_;refine jB (knd.pyHash hu hkey (jB (wpAny_dictFind_heap (s:={s with toks:=s.toks+knd.draws k}) hu hkey ho hd he his hn ?_ ?_)))
 ·intro hno;have hnot:k∉xs.map (·.1):=not_mem_keys_of_get hno;refine jB (wpAny_rule (jB (wpAny_updateDictKeys (hz:=by have e:=size_of_entries he;omega) (s:={s with toks:=s.toks+knd.draws k}) ho hd (jP (h2 (atKey_none_of_get hno) _ ⟨_,_,ep+1,Heap.get?_update_self _ ho (Obj.isFreed_of_dict (Obj.data_mapDictKeys hd _)),
   hc.mapDictKeys _,Obj.data_mapDictKeys hd _,?_,?_,?_⟩ (Heap.SameBut.update ..))))))
  ·simp [he,entryOfKey]
  ·intro x hx
   rcases List.mem_append.mp hx with hx | hx
   ·exact knd.keeps (his x hx) ho hd (Heap.SameBut.update ..)
   ·simp only [List.mem_singleton] at hx;subst hx;exact knd.keeps hkey ho hd (Heap.SameBut.update ..)
  ·rw [List.map_append,List.nodup_append];refine ⟨hn,by simp,?_⟩;intro x hx y hy;simp only [List.map_cons,List.map_nil,List.mem_singleton] at hy;subst hy;exact fun e=>hnot (e ▸ hx)
 ·intro j p hj;refine jB (wpAny_dictEntries (s:={s with toks:=s.toks+knd.draws k}) ho hd ?_);rw [entry_at he j,hj];exact jB (wpAny_rule (jP (h1 p (atKey_of_get hn hj))))
theorem meets_setdefault {d a:Addr} {xs:List (K×Addr×Value)} {k:K} {v:Value} {R:Value->Shared->Prop} (hu:knd.room A) (hkey:knd.is s.heap k a) (hd:(d==sysModules)=false) (hm:s.heap.DictOfH knd d xs) (hsz:xs.length<=sizeLine)
  (h1:∀ p,atKey xs k=some p->R p.2 {s with toks:=s.toks+knd.draws k})
  (h2:atKey xs k=none->∀ h',h'.DictOfH knd d (xs++[(k,a,v)])->Heap.SameBut d s.heap h'->R v {s with heap:=h',toks:=s.toks+knd.draws k}) :
  wpAny (model prog w) A (Builtin.«dict.setdefault» ⟨[.ref d,.ref a,v],[]⟩) (fun fin s'=>∃ u,fin=.done (.ret u)/\R u s') E s:=by
 have hT:s.TypeIs (.ref d) "dict" := by obtain ⟨o,es,ep,ho,hc,_⟩:=hm;exact ⟨o,ho,hc.1⟩
 unfold Builtin.«dict.setdefault»;refine jB ?_;unfold Builtin.Dict.keyAndDefault;refine jB (wpAny_notOrdered_dict hT ?_);show wpAny _ _ (pure (d,Value.ref a,some v)) _ _ s;refine jP ?_;show wpAny _ _ (if (d==sysModules)=true then _ else (dictSetDefault d (.ref a) v>>=_)) _ _ s
 rw [if_neg (by rw [hd];exact Bool.false_ne_true)];exact jB (ZO hu hkey hm hsz (fun p hp=>jP ⟨_,rfl,h1 p hp⟩) fun hn h' hm' hs'=>jP ⟨_,rfl,h2 hn h' hm' hs'⟩)
end
abbrev IIt (h:Heap) (it d:Addr) (f0 f1:Value) (i n ep:Nat) (ok ov:Value):Prop :=
 h.get? it=some {cls:=.type "dict_itemiterator",dict:=none,data:=.fields #[f0,f1,.ref d,.int i 0,.int n 0,.int ep 0,ok,ov],slots:=#[]}
def Fst (h:Heap) (nx:List Addr) (f0 f1:Value):Prop:=(f0=.none/\f1=.bool false)\/∃ (a:Addr) (o:Obj),a∉nx/\f0=rawInt a/\h.get? a=some o/\(f1=.bool false\/f1=.bool true)
theorem Fst.keep {h h':Heap} {nx:List Addr} {f0 f1:Value} (x:Fst h nx f0 f1) (k:∀ b o,b∉nx->h.get? b=some o->h'.get? b=some o):Fst h' nx f0 f1:=by
 rcases x with x | ⟨a,o,n,e,g,f⟩
 ·exact .inl x
 ·exact .inr ⟨a,o,n,e,k a o n g,f⟩
theorem AU {M:Model} {A:Around} {E:Value->Shared->Prop} {s:Shared} {a:Addr} {Q:Option Obj->Shared->Prop} (h:Q (s.heap.get? a) s):wpAny M A (loadIfAlive a) Q E s:=fun Γ p _=>by
 unfold loadIfAlive;rw [Sem.wp_loadIfAlive];exact (jP (M:=M) (A:=A) (E:=E) h) Γ p ‹_›
section
variable {prog:Program} {w:World} {A:Around} {E:Value->Shared->Prop} {s:Shared}
set_option maxHeartbeats 4000000 in
theorem Gx {nx:List Addr} {it d:Addr} {f0 f1:Value} {i ep:Nat} {es:Array DictEntry} {od:Obj} {ok ov:Value} {Q:Option Value->Shared->Prop} (hit:IIt s.heap it d f0 f1 i es.size ep ok ov) (hf:Fst s.heap nx f0 f1) (hin:it∈nx) (hbn:∀ b∈nx,b<s.heap.objs.size) (hod:s.heap.get? d=some od) (hdd:od.data=.dict es ep) (hlt:i<es.size)
  (hQ:∀ (h':Heap) (g0 g1 k' v':Value),IIt h' it d g0 g1 (i+1) es.size ep k' v'->Fst h' nx g0 g1->h'.get? s.heap.objs.size=some {cls:=.type "tuple",data:=.seq #[es[i].key,es[i].val]}->h'.objs.size=s.heap.objs.size+1 ->
   (∀ b o,b≠it->s.heap.get? b=some o->h'.get? b=some o)->Q (some (.ref s.heap.objs.size)) {s with heap:=h'}):wpAny (model prog w) A (pyNext (.ref it)) Q E s:=by
 obtain ⟨hp,gg,dr,tk,os⟩:=s;have hnn:hp.objs.size∉nx:=fun z=>Nat.lt_irrefl _ (hbn _ z)
 have nit:∀ {b},b∉nx->b≠it:=fun h z=>h (z ▸ hin)
 have ty0:Shared.TypeIs ⟨hp,gg,dr,tk,os⟩ (.ref it) "dict_itemiterator" := ⟨_,hit,rfl⟩;unfold pyNext;refine jB (wpAny_attempt (wpAny_callSpecial?_slot (name:=Str.ofString "__next__") ty0 F.slot_dict_itemiterator_next (wpAny_call_entry F.slot_dict_itemiterator_next ty0 F.entry_dict_itemiterator_next ?body (F.args_dict_itemiterator_next_1 _))))
 case body =>
 refine jB (jP (jB (jB ?_)));refine jB (wpAny_typeNameOfWhole_itemiter ty0 (jP (jB (wpAny_fieldsOf hit rfl ?_))));have own2:Builtin.Dict_items.ownsTuple "dict_itemiterator" = true:=by decide
 simp only [own2,if_true];show wpAny _ _ (if (Value.ref d==Value.none)=true then _ else _) _ _ _
 rw [if_neg (show ¬ ((Value.ref d==Value.none)=true) from Bool.false_ne_true)]
 refine jB (jP (jB (wpAny_dictEntries hod hdd ?_)));rw [if_neg (show ¬ _ by simp)];refine jB (jP (jB (wpAny_dictEpoch hod hdd ?_)));rw [if_neg (show ¬ _ by simp)];refine jP ?_;simp only [show ¬ ((i:Int)<0) from by omega,if_false,Int.toNat_natCast,Array.getElem?_eq_getElem hlt]
 refine jB (jB (wpAny_typeNameOfWhole_itemiter ty0 (jP (jB (wpAny_isOneOf_itemiter ty0 ?_)))));show wpAny _ _ (setField (.ref it) 3 (rawInt ((i:Int)+1))>>=_) _ _ ⟨hp,gg,dr,tk,os⟩;refine jB (wpAny_setField_rec hit (by simp) fun h1 e1 b1=>?_)
 replace b1:Heap.SameBut it hp h1:=b1
 replace e1:IIt h1 it d f0 f1 (i+1) es.size ep ok ov:=by
  have ec:((i+1:Nat):Int)=(i:Int)+1:=by omega
  show h1.get? it=_;rw [ec];simpa [rawInt] using e1
 have ty1:Shared.TypeIs ⟨h1,gg,dr,tk,os⟩ (.ref it) "dict_itemiterator" := ⟨_,e1,rfl⟩;refine jB (wpAny_holding (jB (wpAny_isOneOf_itemiter ty1 (jB (wpAny_isOneOf_itemiter ty1 ?_)))));show wpAny _ _ (Builtin.Dict_items.pairFromOwner (.ref it) 6 es[i].key es[i].val) _ _ ⟨h1,gg,dr,tk,os⟩;unfold Builtin.Dict_items.pairFromOwner;refine jB (wpAny_newTuple ?_);generalize ek:es[i].key=k at *;generalize ev:es[i].val=v at *;have e2:IIt (h1.push {cls:=.type "tuple",data:=.seq #[k,v]}) it d f0 f1 (i+1) es.size ep ok ov:=jG _ e1;have z1:h1.objs.size=hp.objs.size:=b1.1;have il:it<hp.objs.size:=jH hit;have t2:(h1.push {cls:=.type "tuple",data:=.seq #[k,v]}).get? hp.objs.size=some {cls:=.type "tuple",data:=.seq #[k,v]}:=by rw [<- z1];exact Heap.get?_push_size _ rfl
 have z2:(h1.push {cls:=.type "tuple",data:=.seq #[k,v]}).objs.size=hp.objs.size+1:=by rw [Heap.size_push,z1]
 have q2:∀ b o,b≠it->hp.get? b=some o->(h1.push {cls:=.type "tuple",data:=.seq #[k,v]}).get? b=some o:=fun b o hb e=>jG _ (b1.extBut b o hb e)
 generalize h1.push {cls:=.type "tuple",data:=.seq #[k,v]}=h2 at *;have ne:hp.objs.size≠it:=Nat.ne_of_gt il;show wpAny _ _ (Builtin.Dict_items.ownedTupleIsFree (.ref it)>>=_) _ _ ⟨h2,gg,dr,tk,os⟩;rw [z1];refine jB ?_;unfold Builtin.Dict_items.ownedTupleIsFree
 rcases hf with ⟨rfl,rfl⟩ | ⟨a,o,na,rfl,ga,hb⟩
 ·refine jB (wpAny_field e2 rfl (x:=.none) rfl (jP ?_));simp only [if_true];refine jB (wpAny_field e2 rfl (x:=ok) rfl (jB (wpAny_field e2 rfl (x:=ov) rfl ?_)));refine jB (wpAny_setField_rec e2 (by simp) fun h3 e3 b3=>?_)
  refine jB (wpAny_setField_rec e3 (by simp) fun h4 e4 b4=>?_)
  refine jB (wpAny_setField_rec e4 (by simp) fun h5 e5 b5=>?_)
  refine jB (wpAny_setField_rec e5 (by simp) fun h6 e6 b6=>?_)
  replace b3:Heap.SameBut it h2 h3:=b3
  replace b4:Heap.SameBut it h3 h4:=b4
  replace b5:Heap.SameBut it h4 h5:=b5
  replace b6:Heap.SameBut it h5 h6:=b6
  have kp:∀ b o,b≠it->h2.get? b=some o->h6.get? b=some o:=fun b o hb e=>b6.extBut b o hb (b5.extBut b o hb (b4.extBut b o hb (b3.extBut b o hb e)))
  refine jB (wpAny_letGo (jP (jP ⟨_,rfl,jP (hQ h6 (rawInt hp.objs.size) (.bool false) k v e6 (.inr ⟨hp.objs.size,_,hnn,rfl,kp _ _ ne t2,.inl rfl⟩) (kp _ _ ne t2) ?_ fun b o hb e=>kp b o hb (q2 b o hb e))⟩)))
  show h6.objs.size=hp.objs.size+1;rw [b6.1,b5.1,b4.1,b3.1,z2]
 ·refine jB (wpAny_field e2 rfl (x:=rawInt a) rfl ?_);show wpAny _ _ (loadIfAlive (Int.toNat (a:Int))>>=_) _ _ _;refine jB (AU ?_);rw [Int.toNat_natCast,q2 a o (nit na) ga];simp only [Option.isNone_some,Bool.false_eq_true,if_false];refine jB (wpAny_field e2 rfl (x:=f1) rfl ?_)
  rcases hb with rfl | rfl
  ·rw [if_pos (by decide)];refine jB (wpAny_setField_rec e2 (by simp) fun h3 e3 b3=>jP ?_)
   replace b3:Heap.SameBut it h2 h3:=b3
   simp only [Bool.false_eq_true,if_false];have kp:∀ b o,b≠it->h2.get? b=some o->h3.get? b=some o:=fun b o hb e=>b3.extBut b o hb e
   refine jP (jP ⟨_,rfl,jP (hQ h3 (rawInt a) (.bool true) ok ov e3 (.inr ⟨a,o,na,rfl,kp a o (nit na) (q2 a o (nit na) ga),.inr rfl⟩) (kp _ _ ne t2) ?_ fun b o hb e=>kp b o hb (q2 b o hb e))⟩)
   show h3.objs.size=hp.objs.size+1;rw [b3.1,z2]
  ·rw [if_neg (by decide)];refine jB (jP (jP ?_));simp only [Bool.false_eq_true,if_false];exact jP (jP ⟨_,rfl,jP (hQ h2 (rawInt a) (.bool true) ok ov e2 (.inr ⟨a,o,na,rfl,q2 a o (nit na) ga,.inr rfl⟩) t2 z2 q2)⟩)
set_option maxHeartbeats 4000000 in
theorem Nt {it d:Addr} {f0 f1:Value} {i ep:Nat} {es:Array DictEntry} {od:Obj} {ok ov:Value} {Q:Option Value->Shared->Prop} (hh:A.handled=none) (hit:IIt s.heap it d f0 f1 i es.size ep ok ov) (hod:s.heap.get? d=some od) (hdd:od.data=.dict es ep) (hge:es.size<=i)
  (hQ:∀ (h':Heap),(∀ b o,b≠it->s.heap.get? b=some o->h'.get? b=some o)->Q none {s with heap:=h'}):wpAny (model prog w) A (pyNext (.ref it)) Q E s:=by
 have ty0:s.TypeIs (.ref it) "dict_itemiterator" := ⟨_,hit,rfl⟩;unfold pyNext;refine jB (wpAny_attempt (wpAny_callSpecial?_slot (name:=Str.ofString "__next__") ty0 F.slot_dict_itemiterator_next (wpAny_call_entry F.slot_dict_itemiterator_next ty0 F.entry_dict_itemiterator_next ?body (F.args_dict_itemiterator_next_1 _))))
 case body =>
 refine jB (jP (jB (jB ?_)));refine jB (wpAny_typeNameOfWhole_itemiter ty0 (jP (jB (wpAny_fieldsOf hit rfl ?_))));have own2:Builtin.Dict_items.ownsTuple "dict_itemiterator" = true:=by decide
 simp only [own2,if_true];show wpAny _ _ (if (Value.ref d==Value.none)=true then _ else _) _ _ s
 rw [if_neg (show ¬ ((Value.ref d==Value.none)=true) from Bool.false_ne_true)]
 refine jB (jP (jB (wpAny_dictEntries hod hdd ?_)));rw [if_neg (show ¬ _ by simp)];refine jB (jP (jB (wpAny_dictEpoch hod hdd ?_)));rw [if_neg (show ¬ _ by simp)];refine jP ?_;simp only [show ¬ ((i:Int)<0) from by omega,if_false,Int.toNat_natCast,Array.getElem?_eq_none hge]
 refine jB (jB (wpAny_typeNameOfWhole_itemiter ty0 (jP ?_)));show wpAny _ _ (setField (.ref it) 2 .none>>=_) _ _ s;refine jB (wpAny_setField hit rfl (by simp) ?_);show wpAny _ _ (newExc (.type "StopIteration") []>>=_) _ _ _;refine jB ?_;simp only [newExc,newTuple];refine jB (wpAny_newObj_type ?_ (by size_fits));refine jB (m:=firstArgMember _ _) (wpAny_of_eq (a:=Value.none) (by first | rfl | (simp only [firstArgMember];rfl)) ?_)
 refine wpAny_newObj_type ?_ (by size_fits);simp only [raiseNew];refine jB (wpAny_handled ?_);rw [show A.in1.handled=none from hh]
 refine jB (jP (wpAny_throw ?_));refine jB (wpAny_isInstance (T := "StopIteration") (b:=true) ⟨_,Heap.get?_push_size _ rfl,rfl⟩ isSubtype_stop ?_);exact jP (hQ _ fun b o hb e=>(((Heap.SameBut.update ..).extBut.push _).push _) b o hb e)
def Prs (h:Heap) (es:Array DictEntry) (nx:List Addr) (lo:Nat) (acc:Array Value) (i:Nat):Prop:=acc.size=i/\∀ (j:Nat) (hj:j<es.size),j<i->∃ b,acc[j]?=some (.ref b)/\b∉nx/\lo<=b/\h.get? b=some {cls:=.type "tuple",data:=.seq #[es[j].key,es[j].val]}
set_option maxHeartbeats 4000000 in
theorem NZ {R:Result->Shared->Prop} {S it d:Addr} {es:Array DictEntry} {ep lo:Nat} {od:Obj} {res:Value} (hh:A.handled=none) (hdd:od.data=.dict es ep) (hn:es.size<=sizeLine) (hSi:S≠it) (hSd:S≠d) (hdi:d≠it) :
  ∀ (k i:Nat) (s:Shared) (acc:Array Value) (c:Nat) (f0 f1 ok ov:Value),es.size-i=k->i<=es.size->IIt s.heap it d f0 f1 i es.size ep ok ov->Fst s.heap [it,S] f0 f1->s.heap.get? d=some od->s.heap.get? S=some {cls:=.type "list",dict:=none,data:=.seq acc c,slots:=#[]}->lo<=s.heap.objs.size->Prs s.heap es [it,S] lo acc i ->
  (∀ (h':Heap) (acc':Array Value) (c':Nat),(∀ b o,b≠it->b≠S->s.heap.get? b=some o->h'.get? b=some o)->h'.get? S=some {cls:=.type "list",dict:=none,data:=.seq acc' c',slots:=#[]}->Prs h' es [it,S] lo acc' es.size->R (.ok (.ret res)) {s with heap:=h'}) ->
  codeAny (model prog w) A (.builtin "list.extend.loop" ⟨[.ref S,.ref it,res],[]⟩) R s:=by
 intro k
 induction k with
 | zero =>
  intro i s acc c f0 f1 ok ov hk hi hit hf hod hS hlo hacc hR;obtain rfl:i=es.size:=by omega
  refine codeAny_builtin F.entry_extend_loop ?_;rw [Around.under_plainId F.plain_extend_loop _];show wpAny _ A.in1 (pyNext (.ref it)>>=_) _ _ s;refine jB (Nt (by simpa using hh) hit hod hdd (Nat.le_refl _) fun h' kp=>?_)
  refine jP (hR h' acc c (fun b o h1 _ e=>kp b o h1 e) (kp S _ hSi hS) ⟨hacc.1,fun j hj hlt=>?_⟩)
  obtain ⟨b,q1,q2,q3,q4⟩:=hacc.2 j hj hlt;exact ⟨b,q1,q2,q3,kp b _ (fun z=>q2 (z ▸ jC)) q4⟩
 | succ k ih =>
  intro i s acc c f0 f1 ok ov hk hi hit hf hod hS hlo hacc hR;have hlt:i<es.size:=by omega
  refine codeAny_builtin F.entry_extend_loop ?_;rw [Around.under_plainId F.plain_extend_loop _];show wpAny _ A.in1 (pyNext (.ref it)>>=_) _ _ s;have bd:∀ b∈[it,S],b<s.heap.objs.size:=fun b hb=>by
   rcases List.mem_cons.mp hb with rfl | hb
   ·exact jH hit
   ·rw [List.mem_singleton.mp hb];exact jH hS
  refine jB (Gx hit hf jC bd hod hdd hlt fun h' g0 g1 k' v' hit' hf' ht hz kp=>?_);have hS':=kp S _ hSi hS;have hod':=kp d _ hdi hod;show wpAny _ A.in1 (updateSeq S (·.push (.ref s.heap.objs.size))>>=_) _ _ _;refine jB ?_;have oth:∀ b o,b≠S->h'.get? b=some o->(h'.update S (Obj.mapSeq (·.push (.ref s.heap.objs.size)))).get? b=some o:=fun b o hb e=>(Heap.get?_update_other _ _ (Ne.symm hb)).trans e
  have nS:s.heap.objs.size∉[it,S]:=fun z=>Nat.lt_irrefl _ (bd _ z)
  have noS:∀ {b},b∉[it,S]->b≠it/\b≠S:=fun h=>⟨fun z=>h (z ▸ jC),fun z=>h (z ▸ jM _ jC)⟩
  refine wpAny_updateSeq hS' rfl (jP ⟨plainId_quiet F.plain_extend_loop _,ih (i+1) _ (acc.push (.ref s.heap.objs.size)) _ g0 g1 k' v' (by omega) hlt (oth it _ (Ne.symm hSi) hit') (hf'.keep fun b o hb e=>oth b o (noS hb).2 e) (oth d _ (Ne.symm hSd) hod') (Heap.get?_update_self _ hS' rfl) ?_ ?_ ?_⟩)
   (by rw [hacc.1];omega) (by show (acc.push _).size<=sizeLine+1;rw [Array.size_push,hacc.1];omega)
  ·show lo<=(h'.update S _).objs.size;rw [Heap.size_update,hz];omega
  ·refine ⟨by rw [Array.size_push,hacc.1],fun j hj hji=>?_⟩
   by_cases e:j=i
   ·subst e;refine ⟨s.heap.objs.size,?_,nS,hlo,oth _ _ (noS nS).2 ht⟩;rw [Array.getElem?_push,if_pos hacc.1.symm]
   ·obtain ⟨b,q1,q2,q3,q4⟩:=hacc.2 j hj (by omega);refine ⟨b,?_,q2,q3,oth _ _ (noS q2).2 (kp b _ (noS q2).1 q4)⟩;rw [Array.getElem?_push,if_neg (by rw [hacc.1];exact e)];exact q1
  ·intro h2 acc' c' kp2 hS2 hp2;exact hR h2 acc' c' (fun b o h1 h2' e=>kp2 b o h1 h2' (oth b o h2' (kp b o h1 e))) hS2 hp2
end
theorem GF:typeLookup (.type "dict_items") "__len__" = pure (some (.builtin "dict_items.__len__")):=by rw [typeLookup_type,builtinLookup_eq_fast];kernel_rfl
theorem GE:isSubtype (.type "dict_items") (.type "dict_items")=pure true:=by rw [isSubtype_type];kernel_rfl
section
variable {prog:Program} {w:World} {A:Around} {E:Value->Shared->Prop} {s:Shared}
def YF (d:Addr) (n ep:Nat):Obj:={cls:=.type "dict_itemiterator",data:=.fields #[.none,.bool false,.ref d,.int 0 0,.int n 0,.int ep 0,.none,.none]}
theorem Ja {v d:Addr} {es:Array DictEntry} {ep:Nat} {od:Obj} {Q:Value->Shared->Prop} (hv:s.heap.IsItemsView v d) (hod:s.heap.get? d=some od) (hdd:od.data=.dict es ep)
  (hQ:Q (.ref s.heap.objs.size) {s with heap:=s.heap.push (YF d es.size ep)}):wpAny (model prog w) A (pyIter (.ref v)) Q E s:=by
 obtain ⟨ov,g1,g2,g3⟩:=id hv;refine wpAny_pyIter_slot hv.typeIs F.slot_dict_items_iter (wpAny_call_entry F.slot_dict_items_iter hv.typeIs F.entry_dict_items_iter ?body (F.args_dict_items_iter_1 _))
 case body =>
 unfold Builtin.«dict_items.__iter__»;refine jB (jP (jB ?_));unfold Builtin.Dict_items.dictOf;refine jB (wpAny_field g1 g3 (x:=.ref d) rfl (jP (jB ?_)));unfold Builtin.Dict_items.newIterator;refine jB (wpAny_dictEntries hod hdd (jB (wpAny_dictEpoch hod hdd ?_)));have own2:Builtin.Dict_items.ownsTuple "dict_itemiterator" = true:=by decide
 simp only [own2,if_true];refine wpAny_newObj_type (jP ⟨_,rfl,"dict_itemiterator",_,⟨_,Heap.get?_push_size _ rfl,rfl⟩,F.slot_dict_itemiterator_next.lookup,?_⟩)
  (by simp only [sizeOk,Builtin.Dict_items.ownedTupleFields,List.size_toArray,List.length_append,List.length_cons,List.length_nil,sizeLine_eq];omega)
 simpa [rawInt,YF,Builtin.Dict_items.ownedTupleFields] using hQ
set_option maxHeartbeats 4000000 in
theorem collect_items {v d:Addr} {es:Array DictEntry} {ep:Nat} {od:Obj} {Q:List Value->Shared->Prop} (hh:A.handled=none) (hv:s.heap.IsItemsView v d) (hod:s.heap.get? d=some od) (hdd:od.data=.dict es ep) (hn:es.size<=1000)
  (h:∀ (h':Heap) (acc:List Value),(∀ b o,s.heap.get? b=some o->h'.get? b=some o)->s.heap.objs.size<h'.objs.size->acc.length=es.size ->
   (∀ (j:Nat) (hj:j<es.size),∃ b,acc[j]?=some (.ref b)/\s.heap.objs.size<=b/\h'.get? b=some {cls:=.type "tuple",data:=.seq #[es[j].key,es[j].val]})->Q acc {s with heap:=h'}):wpAny (model prog w) A (collect (.ref v)) Q E s:=by
 have hsl:es.size<=sizeLine:=Nat.le_trans hn (by decide);have hvl:v<s.heap.objs.size:=by obtain ⟨o,h1,_⟩:=hv;exact jH h1
 have hdl:d<s.heap.objs.size:=jH hod;have nv:s.heap.objs.size≠v:=Nat.ne_of_gt hvl;unfold collect;refine jB (wpAny_runValue (codeAny_builtin F.entry_proto_collect ?_));rw [Around.under_plainId F.plain_proto_collect _];show wpAny _ A.in1 (newList []>>=fun l=>again (.builtin "list.__iadd__" ⟨[l,.ref v],[]⟩)) _ _ s
 refine jB (wpAny_newObj_type (jP ⟨plainId_quiet F.plain_list_iadd _,codeAny_builtin F.entry_list_iadd ?_⟩));rw [Around.under_plainId F.plain_list_iadd _];generalize hnl:({cls:=.type "list",data:=.seq ([]:List Value).toArray}:Obj)=nl;have k1:∀ b o,s.heap.get? b=some o->(s.heap.push nl).get? b=some o:=fun b o e=>jG _ e
 have v1:(s.heap.push nl).IsItemsView v d:=by obtain ⟨o,h1,h2⟩:=hv;exact ⟨o,k1 _ _ h1,h2⟩
 have hS1:(s.heap.push nl).get? s.heap.objs.size=some nl:=Heap.get?_push_size _ (by rw [<- hnl];rfl);show wpAny _ A.in1 (Builtin.List.listExtendWith (.ref s.heap.objs.size) (.ref v) (.ref s.heap.objs.size)) _ _ _;unfold Builtin.List.listExtendWith;refine jB (wpAny_typeOf (T := "dict_items") (Heap.IsItemsView.typeIs (s:={s with heap:=s.heap.push nl}) v1) ?_);have h1:Builtin.List.listSameRef (.ref s.heap.objs.size) (.ref v)=false:=by simp [Builtin.List.listSameRef,nv]
 have h2:(Value.type "dict_items" == Value.type "list")=false:=by decide
 have h3:(Value.type "dict_items" == Value.type "tuple")=false:=by decide
 simp only [h1,h2,h3,Bool.or_false,Bool.false_eq_true,if_false];refine jB (Ja (s:={s with heap:=s.heap.push nl}) v1 (k1 _ _ hod) hdd ?_);generalize hI:(s.heap.push nl).objs.size=I;have hIs:I=s.heap.objs.size+1:=by rw [<- hI,Heap.size_push]
 have k2:∀ b o,(s.heap.push nl).get? b=some o->((s.heap.push nl).push (YF d es.size ep)).get? b=some o:=fun b o e=>jG _ e
 have v2:((s.heap.push nl).push (YF d es.size ep)).IsItemsView v d:=by obtain ⟨o,h1,h2⟩:=v1;exact ⟨o,k2 _ _ h1,h2⟩
 have hI2:((s.heap.push nl).push (YF d es.size ep)).get? I=some (YF d es.size ep):=by rw [<- hI];exact Heap.get?_push_size _ rfl
 have hS2:=k2 _ _ hS1;generalize hH:(s.heap.push nl).push (YF d es.size ep)=H at *;have keepH:∀ b o,s.heap.get? b=some o->H.get? b=some o:=fun b o e=>k2 b o (k1 b o e)
 have hT2:=Heap.IsItemsView.typeIs (s:={s with heap:=H}) v2;refine jB (wpAny_holding ?_);unfold Builtin.List.listLengthHint;refine jB (wpAny_specialOf hT2 GF ?_);have sp:splitId "dict_items.__len__" = some ("dict_items","__len__"):=by decide +kernel
 dsimp only;rw [sp];dsimp only;refine jB (wpAny_isInstance hT2 GE ?_);simp only [Bool.not_true,Bool.false_eq_true,if_false];rw [if_pos (by decide +kernel)];refine jB (wpAny_typeOf hT2 (jP ?_));show wpAny _ A.in1 (rule "list.extend.makes-room" >>= fun _=>Builtin.List.listTouch (.ref s.heap.objs.size)>>=fun _=>again (.builtin "list.extend.loop" ⟨[.ref s.heap.objs.size,.ref I,.ref s.heap.objs.size],[]⟩)) _ _ _
 refine jB (wpAny_rule (jB ?_));show wpAny _ A.in1 (updateSeq s.heap.objs.size (·.push .none)>>=fun _=>updateSeq s.heap.objs.size (·.pop)) _ _ _
 have hd:nl.data=.seq #[] 0:=by rw [<- hnl]
 refine jB (wpAny_updateSeq hS2 hd ?_);have hf1:(Obj.mapSeq (·.push Value.none) nl).isFreed=false:=by rw [<- hnl];rfl
 have hS3:=Heap.get?_update_self (Obj.mapSeq (·.push Value.none)) hS2 hf1;have hd3:(Obj.mapSeq (·.push Value.none) nl).data=.seq #[.none] 1:=by rw [<- hnl];rfl
 refine wpAny_updateSeq hS3 hd3 ?_;have hf2:(Obj.mapSeq (·.pop) (Obj.mapSeq (·.push Value.none) nl)).isFreed=false:=by rw [<- hnl];rfl
 have hS4:=Heap.get?_update_self (Obj.mapSeq (·.pop)) hS3 hf2;have oth:∀ b o,b≠s.heap.objs.size->H.get? b=some o->((H.update s.heap.objs.size (Obj.mapSeq (·.push Value.none))).update s.heap.objs.size (Obj.mapSeq (·.pop))).get? b=some o :=
  fun b o hb e=>(Heap.get?_update_other _ _ (Ne.symm hb)).trans ((Heap.get?_update_other _ _ (Ne.symm hb)).trans e)
 have e4:Obj.mapSeq (·.pop) (Obj.mapSeq (·.push Value.none) nl)={cls:=.type "list",dict:=none,data:=.seq #[] 2,slots:=#[]}:=by rw [<- hnl];rfl
 rw [e4] at hS4;have hI3:=oth I _ (by omega) hI2;have hod3:=oth d _ (Nat.ne_of_lt hdl) (keepH d _ hod);have hz3:s.heap.objs.size<=((H.update s.heap.objs.size (Obj.mapSeq (·.push Value.none))).update s.heap.objs.size (Obj.mapSeq (·.pop))).objs.size:=by
  exact Nat.le_of_lt (jH hS4)
 have n1:s.heap.objs.size≠I:=by omega
 have n2:d≠I:=Nat.ne_of_lt (by rw [hIs];exact Nat.lt_succ_of_lt hdl);refine jP ⟨plainId_quiet F.plain_extend_loop _,NZ (A:=A) (it:=I) (d:=d) (od:=od) (lo:=s.heap.objs.size) hh hdd hsl n1 (Nat.ne_of_gt hdl) n2 es.size 0 _ #[] 2 .none (.bool false) .none .none rfl (Nat.zero_le _) hI3 (.inl ⟨rfl,rfl⟩) hod3 hS4 hz3 ⟨rfl,fun j _ hj=>absurd hj (Nat.not_lt_zero j)⟩ fun h' acc' c' kp hS' hp=>?_⟩
 show wpAny _ A (load s.heap.objs.size>>=_) _ _ _;refine jB (wpAny_load hS' (jP (h h' acc'.toList (fun b o e=>?_) (jH hS') (by rw [Array.length_toList];exact hp.1) fun j hj=>?_)))
 ·have nb:b≠s.heap.objs.size:=Nat.ne_of_lt (jH e);have nI:b≠I:=by rw [hIs];exact Nat.ne_of_lt (Nat.lt_succ_of_lt (jH e))
  exact kp b o nI nb (oth b o nb (keepH b o e))
 ·obtain ⟨b,q1,_,q2,q3⟩:=hp.2 j hj hj;exact ⟨b,by rw [Array.getElem?_toList];exact q1,q2,q3⟩
end
end PuD
namespace Pu
open PySem PySem.Spec PyProof.Rows L2 PuT
def sdf (kvs:List (List Int×PV)) (k:List Int) (v:PV):List (List Int×PV):=if k∈kvs.map (·.1) then kvs else kvs++[(k,v)]
def jQ (ρ:En) (i:Nat):Res (List (List Int×PV)):=match ρ[i]? with
 | some (some (.dic kvs))=>.ok kvs
 | _=>.bad
theorem Bj {ρ:En} {i:Nat} {α:Type} {f:List (List Int×PV)->Res α} {P:Res α->Prop} (hb:P .bad->False) (h:P ((jQ ρ i).bind f)):∃ kvs,ρ[i]?=some (some (.dic kvs))/\P (f kvs):=by
 unfold jQ at h
 split at h
 ·rename_i kvs e;exact ⟨kvs,e,h⟩
 ·exact (hb h).elim
def Xf:PV->Res (List Int)
 | .tup xs=>qR (yZ xs)
 | _=>.bad
theorem PQ {v:PV} {k:List Int} (h:Xf v=.ok k):v=.tup (k.map PV.int):=by
 cases v<;>simp only [Xf] at h<;>first | (cases h;done) | skip
 rename_i xs
 cases e:yZ xs with
 | none=>rw [e] at h;cases h
 | some ns=>rw [e] at h;cases h;rw [wC e]
theorem PR {v:PV} {x:XC}:Xf v≠.exc x:=by
 cases v<;>simp only [Xf]<;>first | (intro h;cases h;done) | exact Yb
theorem GS {ys:List (List Int×Addr×V)} {xs:List (List Int×Addr×Value)} (h:Paired Qf ys xs):xs.map (·.1)=ys.map (·.1):=by
 induction h with
 | nil=>rfl
 | cons r _ ih=>rw [List.map_cons,List.map_cons,ih,r.1]
theorem Si {K:PySem.W.Frag} {H:Hp} {kvs:List (List Int×PV)} {ys:List (List Int×Addr×V)} (h:Paired (DR K H) kvs ys):ys.map (·.1)=kvs.map (·.1):=by
 induction h with
 | nil=>rfl
 | cons r _ ih=>rw [List.map_cons,List.map_cons,ih,r.1]
theorem yS {α β:Type} {F:α->β->Prop} {a:List α} {b:List β} (h:Paired F a b):a.length=b.length:=by
 induction h with
 | nil=>rfl
 | cons _ _ ih=>simp [ih]
theorem uC {α β:Type} {F:α->β->Prop} {a c:List α} {b d:List β} (h:Paired F a b) (g:Paired F c d):Paired F (a++c) (b++d):=by
 induction h with
 | nil=>exact g
 | cons r _ ih=>exact .cons r ih
section
variable {X:Cx} {pins:List (Addr×Obj)} {σ:SS} {H:Hp} {s:Shared} {W:Addr->Prop} {p:Addr} {od:Obj} {kvs:List (List Int×PV)} {ys:List (List Int×Addr×V)}
theorem UO (I:L2.Inv X pins σ H s):∀ {kvs:List (List Int×PV)} {ys:List (List Int×Addr×V)} {xs:List (List Int×Addr×Value)},Paired (DR X.K (hid W H)) kvs ys->Paired Qf ys xs->∀ x∈xs,LH X.prog X.w s.heap x.1 x.2.1
 | _,_,_,.nil,.nil,x,hx=>by cases hx
 | _,_,_,.cons r t,.cons q u,x,hx=>by
  rcases List.mem_cons.mp hx with rfl | hx
  ·obtain ⟨a,e,tk⟩:=JA I r.2.1 (show RelV (.ref _) (.ref _) from rfl)
   cases e;rw [<- q.1,<- r.1,<- q.2.1];exact tk
  ·exact UO I t u x hx
theorem Bi (I:L2.Inv X pins σ H s) (hp:H p=some (.ext (ZD p od ys))) (r:Paired (DR X.K (hid W H)) kvs ys):(p==sysModules)=false/\∃ xs,Paired Qf ys xs/\s.heap.DictOfH (tupleKind (intKind X.prog X.w)) p xs:=by
 obtain ⟨⟨hs,xs,hx,es,ep,h1,h2,h3,h4,h5⟩,_⟩:=I.hok p _ hp;exact ⟨hs,xs,hx,od,es,ep,h1,h2,h3,h4,UO I r hx,h5⟩
theorem Bh {P:Program} {w:World} {h:Heap} (hs:(p==sysModules)=false) {xs:List (List Int×Addr×Value)} (hx:Paired Qf ys xs) (hd:h.DictOfH (tupleKind (intKind P w)) p xs):∃ od,∀ H:Hp,ObjOk P w H h p (.ext (ZD p od ys)):=by
 obtain ⟨o,es,ep,h1,h2,h3,h4,_,h5⟩:=hd;refine ⟨o,fun H=>⟨⟨hs,xs,hx,es,ep,h1,h2,h3,h4,h5⟩,⟨o,h1⟩,?_⟩⟩
 rintro g1 g2 ⟨a1,xs',a2,es',ep',a3,a4⟩ k;exact ⟨a1,xs',a2,es',ep',k _ a3,a4⟩
end
section
variable {X:Cx} {i:Nat} {x:Str} {p1 p2 p3 pos apos cpos:Pos} {a b:Expr} {da db:De}
def TH:TE:=fun _ H Q=>∀ p o,H p=none->Q (.ref p) (upd H p (.ext (ZD p o [])))
theorem Lz {pins:List (Addr×Obj)} {σ:SS} {H:Hp} {s:Shared} (I:L2.Inv X pins σ H s):sysModules<s.heap.objs.size:=by
 have h:mainGlobals<s.heap.objs.size:=(I.mod.glob.keeps I.bk).lt;exact Nat.lt_trans (by decide) h
theorem Nc:PE X (.Dict [] [] pos) TH:=fun pins s σ H Q I h=>by
 have hb:=Lz I;obtain ⟨od,hod⟩:=Bh (P:=X.prog) (w:=X.w) (beq_eq_false_iff_ne.mpr (Nat.ne_of_gt hb)) .nil (Heap.DictOfH.new s.heap);exact wpAny_Dict_empty ⟨.ref s.heap.objs.size,_,I.laid (a:=s.heap.objs.size) (o:=.ext (ZD s.heap.objs.size od [])) (t':=s.toks) (fun _ _ q=>jG _ q) (Nat.le_refl _) (hod _),rfl,h _ _ (I.hok.fresh (Nat.le_refl _))⟩
def JM (i:Nat):Ds:=fun ρ=>.ok (.nx (ρ.set i (some (.dic []))))
theorem Sh (hN:X.N.Nodup) (hi:X.N[i]?=some x) (hx:Loc X.env.scope x) (hf:X.fn x=true\/X.env.scope.names.lookup x=some .local) (hs:swapsWith (.Dict [] [] p3) (some (.Name x p2)) pos.line X.env=pure false:=by rfl) :
  DS X (.Assign [.Name x p2] (.Dict [] [] p3) pos) (JM i):=vt (uY hN hi hx Nc hs hf) fun D σ H ⟨W0,H0,W,ρ,w,er,h⟩=>fun p od hp=>by
 obtain ⟨k1,k2,k3⟩:=Uv (s:=.dic []) (o:=.ext (ZD p od [])) True.intro w er hp (fun W' H' h1 h2 hs=>⟨p,od,[],rfl,h1,h2,.nil⟩) i;exact h _ _ _ k1 k2 k3
def tBE (r:V->List V->Hp->VK->Prop) (to:TE) (t:TA):TE:=fun σ H Q=>to σ H fun x H1=>(∃ p o ys,x=.ref p/\H1 p=some (.ext (ZD p o ys)))/\t σ H1 fun xs H2=>r x xs H2 Q
theorem Jp {pins:List (Addr×Obj)} {σ:SS} {H:Hp} {s:Shared} {p:Addr} {o:Obj} {ys:List (List Int×Addr×V)} (I:L2.Inv X pins σ H s) (hp:H p=some (.ext (ZD p o ys))):s.TypeIs (.ref p) "dict" /\ ∀ a,Value.ref p=.ref a->∃ o,s.heap.get? a=some o/\o.dict=none:=by
 obtain ⟨⟨_,xs,hx,es,ep,h1,h2,h3,h4,h5⟩,_⟩:=I.hok p _ hp;exact ⟨⟨o,h1,h2.1⟩,fun a e=>by cases e;exact ⟨o,h1,h2.2.1⟩⟩
theorem RC {o e:Expr} {es:List Expr} {to:TE} {t:TA} {name:Str} {id:String} {r:V->List V->Hp->VK->Prop} (slot:Slot "dict" name id) (hty:typeOf (.builtin id)=pure (.type "method_descriptor")) (hm:MtM X id r) (ho:PE X o to) (ha:PA X (e::es) t)
  (hbase:attributeBase o name X.env (eval o X.env)=eval o X.env:=by rfl)
  (hfew:((backTo cpos (starEach (e::es) X.env)).all (fun x=>!x.1)&&(backToKw cpos (keywordEach [] X.env)).all (fun x=>x.1.isSome)
   && decide ((e::es).length+([]:List Keyword).length+(if ([]:List Keyword).isEmpty then 0 else 1)<30))=true:=by rfl)
  (hline:(apos.endLine==cpos.line)=true:=by rfl) (hs:starEach (e::es) X.env=(false,eval e X.env)::starEach es X.env:=by rfl) (hplain:(backTo cpos (starEach es X.env)).any (·.1)=false:=by rfl) :
  PE X (.Call (.Attribute o name apos) (e::es) [] cpos) (tBE r to t):=by
 intro pins s σ H Q I h;refine wpAny_Call_method_late hbase hfew hline rfl (thn (ho pins s σ H _ I h) fun v s1 ⟨x,H1,I1,r1,⟨p,od,ys,ex,hp⟩,q1⟩=>?_)
 subst ex;cases r1;obtain ⟨h1,h2⟩:=Jp I1 hp;refine ⟨"dict",id,F.plainAttrs_dict,slot,hty,h1,h2,?_⟩;have hA:=ha cpos pins s1 σ H1 _ I1 q1;rw [hs] at hA ⊢;refine Calls.callWith_builtin (by show (false||(backTo cpos (starEach es X.env)).any (·.1))=false;rw [hplain]<;>rfl) (Calls.evalArgs_plain ?_);exact thn hA fun us s2 ⟨vs,H2,I2,r2,q2⟩=>hm pins s2 σ H2 (.ref p) vs (.ref p) us Q I2 rfl r2 q2
def EN (X:Cx):V->List V->Hp->VK->Prop:=fun x vs H Q=>∃ p o ys W kvs k kx vx v,x=.ref p/\vs=[kx,vx]/\H p=some (.ext (ZD p o ys))/\Paired (DR X.K (hid W H)) kvs ys/\kvs.length<sizeLine/\Rep X.K (hid W H) (.tup (k.map PV.int)) kx/\Rep X.K (hid W H) v vx /\
 ((k∈kvs.map (·.1)->∀ z,Q z H)/\(k∉kvs.map (·.1)->∀ ka,kx=.ref ka->∀ z o,Q z (upd H p (.ext (ZD p o (ys++[(k,ka,vx)]))))))
theorem Bx {xs:List (List Int×Addr×Value)} {k:List Int} {q:Addr×Value} (h:atKey xs k=some q):(k,q)∈xs:=by
 unfold atKey at h;obtain ⟨y,e,hq⟩:=Option.map_eq_some_iff.mp h;have h1:=List.find?_some e;have h2:=List.mem_of_find?_eq_some e;simp at h1;rw [<- h1,<- hq];exact h2
theorem Bw {xs:List (List Int×Addr×Value)} {k:List Int} (h:atKey xs k=none):k∉xs.map (·.1):=by
 unfold atKey at h;have:=List.find?_eq_none.mp (Option.map_eq_none_iff.mp h);intro hk;obtain ⟨y,hy,e⟩:=List.mem_map.mp hk;have z:=this y hy;simp [e] at z
theorem MI {ys:List (List Int×Addr×V)} {xs:List (List Int×Addr×Value)} (h:Paired Qf ys xs):∀ x∈xs,∃ v,RelV v x.2.2:=by
 induction h with
 | nil=>intro x hx;cases hx
 | cons r _ ih =>
  intro x hx
  rcases List.mem_cons.mp hx with rfl | hx
  ·exact ⟨_,r.2.2⟩
  ·exact ih x hx
theorem RT (hu:X.A.units+1<cLine):MtM X "dict.setdefault" (EN X):=by
 intro pins s σ H x vs v us Q I rx rv h;obtain ⟨p,od,ys,W,kvs,k,kx,vx,pv,rfl,rfl,hp,hr,hz,rk,rvx,q1,q2⟩:=h;cases rx;obtain ⟨uk,uv,rfl,ru,rw'⟩:=rv.two;obtain ⟨ka,rfl,tk⟩:=JA I rk ru;obtain ⟨hs,xs,hx,hd⟩:=Bi I hp hr;have hl:xs.length<sizeLine:=by rw [<- yS hx,<- yS hr];exact hz
 have hkeys:xs.map (·.1)=kvs.map (·.1):=by rw [GS hx,Si hr]
 obtain ⟨hT,_⟩:=Jp I hp;refine wpAny_call_entry F.slot_dict_setdefault hT F.entry_dict_setdefault ?body (F.args_dict_setdefault_3 _ _ _)
 case body =>
 refine PuD.meets_setdefault (tupleKind_room_in1 hu) tk hs hd (Nat.le_of_lt hl) (fun q hq=>?_) fun hn h' hd' hsb=>?_
 ·have hm:=Bx hq;have hk:k∈kvs.map (·.1):=by rw [<- hkeys];exact List.mem_map_of_mem hm
  obtain ⟨z,hz'⟩:=MI hx _ hm;exact ⟨z,H,I.tok _,hz',q1 hk z⟩
 ·have hk:k∉kvs.map (·.1):=by rw [<- hkeys];exact Bw hn
  have ek:kx=.ref ka:=ru.inj (show RelV (.ref ka) (.ref ka) from rfl)
  have hpair:Paired Qf (ys++[(k,ka,vx)]) (xs++[(k,ka,uv)]):=uC hx (.cons ⟨rfl,rfl,rw'⟩ .nil);obtain ⟨o2,ho2⟩:=Bh hs hpair hd';refine ⟨vx,_,I.write (x:=p) (e:=p) (o:=.ext (ZD p o2 (ys++[(k,ka,vx)]))) (t':=_) (by rw [hp];exact True.intro) (.inl rfl) (fun b o hb z=>(hsb.2 b hb).trans z) ?_ (ho2 _),rw',q2 hk ka ek vx o2⟩
  obtain ⟨o,_,_,h1,_⟩:=hd';exact ⟨o,h1⟩
def Ge (i:Nat) (da db:De):Ds:=fun ρ=>(jQ ρ i).bind fun kvs=>(zd da (zd db zj) ρ).bind fun us=>match us with
 | [k,v]=>(Xf k).bind fun ks=>if kvs.length<sizeLine then .ok (.nx (ρ.set i (some (.dic (sdf kvs ks v))))) else .bad
 | _=>.bad
theorem VJ {α:Type}:∀ {l:List α} {i:Nat} {v:α},l[i]?=some v->l.set i v=l
 | [],i,v,h=>rfl
 | a::l,0,v,h=>by simp at h;simp [h]
 | a::l,i+1,v,h=>by simp at h;simp [VJ h]
theorem Lq (i:Nat) {k:Nat} (hr:Room k X.A) (hN:X.N[i]?=some x) (hv:Vis X.env.scope x) (ha:DE X a da) (hb:DE X b db) (hd:(x==("__debug__" : Str))=false:=by decide) (hcd:(x==("__classdict__" : Str))=false:=by decide)
  (hbase:attributeBase (.Name x p1) "setdefault" X.env (eval (.Name x p1) X.env)=eval (.Name x p1) X.env:=by rfl)
  (hfew:((backTo cpos (starEach [a,b] X.env)).all (fun x=>!x.1)&&(backToKw cpos (keywordEach [] X.env)).all (fun x=>x.1.isSome)
   && decide ([a,b].length+([]:List Keyword).length+(if ([]:List Keyword).isEmpty then 0 else 1)<30))=true:=by rfl)
  (hline:(apos.endLine==cpos.line)=true:=by rfl) (hs:starEach [a,b] X.env=(false,eval a X.env)::starEach [b] X.env:=by rfl) (hs2:starEach [b] X.env=(false,eval b X.env)::starEach [] X.env:=by rfl) (hplain:(backTo cpos (starEach [b] X.env)).any (·.1)=false:=by rfl)
  (hsw:swapsWith (.Call (.Attribute (.Name x p1) "setdefault" apos) [a,b] [] cpos) none pos.line X.env=pure false:=by rfl) :
  DS X (.Expr (.Call (.Attribute (.Name x p1) "setdefault" apos) [a,b] [] cpos) pos) (Ge i da db) :=
 vt (ZY (RC F.slot_dict_setdefault F.type_dict_setdefault (RT (by have:=hr.un;omega)) (vM hN hv hd hcd) (zg ha (zg hb zi hs2) hs) hbase hfew hline hs hplain) hsw) fun D σ H ⟨W0,H0,W,ρ,w,er,h⟩=>by
  obtain ⟨kvs,hi,h⟩:=Bj (P:=FinS X W0 H0 W H D) (fun z=>z) h;obtain ⟨y,e1,p,od,ys,e2,wl,hl,rl⟩:=er.val i _ hi;subst e2;refine ⟨.ref p,e1,⟨p,od,ys,rfl,hl⟩,?_⟩;refine xN (zd da (zd db zj)) er (h.bind.xw w.same) fun us xs H1 s1 er1 r1 h1=>?_
  match us,r1,h1 with
  | [],_,h1=>exact h1.elim
  | [_],_,h1=>exact h1.elim
  | _::_::_::_,_,h1=>exact h1.elim
  | [k,v],r1,h1 =>
  obtain ⟨u,t,rfl,g1,g2⟩:=Reps.cons.mp r1;obtain ⟨u2,t2,rfl,g3,g4⟩:=Reps.cons.mp g2;obtain rfl:=Reps.nil.mp g4;have g5:FinS X W0 H0 W H D ((Xf k).bind fun ks=>if kvs.length<sizeLine then .ok (.nx (ρ.set i (some (.dic (sdf kvs ks v))))) else .bad):=h1
  cases ek:Xf k with
  | exc z=>exact absurd ek PR
  | bad=>rw [ek] at g5;exact g5.elim
  | ok ks =>
   rw [ek,Res.bind_ok] at g5
   by_cases hz:kvs.length<sizeLine
   ·rw [if_pos hz] at g5;obtain rfl:=PQ ek;have rl1:=DR.mono (zD (W:=W) s1) rl;refine ⟨p,od,ys,W,kvs,ks,u,u2,v,rfl,rfl,s1 _ _ hl,rl1,hz,g1,g3,fun hk z=>?_,fun hk ka e z o2=>?_⟩
    ·unfold sdf at g5;rw [if_pos hk,VJ hi] at g5;exact g5 _ _ _ (w.grow s1) (zD s1) er1
    ·unfold sdf at g5;rw [if_neg hk] at g5;subst e;obtain ⟨k1,k2,k3⟩:=Uu (s:=.dic (kvs++[(ks,v)])) (t:=.dic kvs) (o:=.ext (ZD p o2 (ys++[(ks,ka,u2)]))) True.intro True.intro (w.grow s1) er1 hi e1 fun W' H' h1 h2 hs=>⟨p,o2,_,rfl,h1,h2,uC (DR.mono hs rl1) (.cons ⟨rfl,g1.mono hs,g3.mono hs⟩ .nil)⟩
     exact g5 _ _ _ k1 ((zD s1).trans k2) k3
   ·rw [if_neg hz] at g5;exact g5.elim
end
section
variable {X:Cx} {pins:List (Addr×Obj)} {σ:SS} {H:Hp} {s:Shared} {W:Addr->Prop}
open Classical in
noncomputable def ZQ (H:Hp) (L:Addr->V->V->Prop):Hp:=fun a=>if h:∃ q:V×V,L a q.1 q.2 then some (.tup [(choose h).1,(choose h).2]) else H a
theorem GC {h':Heap} (I:L2.Inv X pins σ H s) (L:Addr->V->V->Prop) (k:∀ b u,s.heap.get? b=some u->h'.get? b=some u)
  (hL:∀ a x y,L a x y->s.heap.objs.size<=a/\∃ ux uy,RelV x ux/\RelV y uy/\h'.get? a=some {cls:=.type "tuple",data:=.seq #[ux,uy]}) :
  Same H (ZQ H L)/\(∀ a x y,L a x y->ZQ H L a=some (.tup [x,y]))/\L2.Inv X pins σ (ZQ H L) {s with heap:=h'}:=by
 have new:∀ a x y,L a x y->H a=none:=fun a x y h=>I.hok.fresh (hL a x y h).1
 have at':∀ a x y,L a x y->ZQ H L a=some (.tup [x,y]):=fun a x y h=>by
  unfold ZQ;have hex:∃ q:V×V,L a q.1 q.2:=⟨(x,y),h⟩;rw [dif_pos hex];have hc:=Classical.choose_spec hex;obtain ⟨_,ux,uy,r1,r2,e⟩:=hL a x y h;obtain ⟨_,vx,vy,r3,r4,e'⟩:=hL a _ _ hc;rw [e] at e';injection e' with e'
  injection e' with _ _ e' _
  injection e' with e' _
  injection e' with e'
  injection e' with q1 e'
  injection e' with q2 _
  subst q1 q2;rw [r1.inj r3,r2.inj r4]
 have old:∀ a o,H a=some o->ZQ H L a=some o:=fun a o e=>by
  unfold ZQ;rw [dif_neg]
  ·exact e
  ·rintro ⟨q,h⟩;rw [new a _ _ h] at e;cases e
 have inv:∀ a o,ZQ H L a=some o->H a=some o\/∃ x y,L a x y/\o=.tup [x,y]:=fun a o e=>by
  by_cases hex:∃ q:V×V,L a q.1 q.2
  ·obtain ⟨q,h⟩:=hex;rw [at' a _ _ h] at e;cases e;exact .inr ⟨_,_,h,rfl⟩
  ·unfold ZQ at e;rw [dif_neg hex] at e;exact .inl e
 refine ⟨old,at',I.un (t':=s.toks) ⟨fun b u q _ _ _=>k b u q,fun b u q _ _ _=>⟨u.slots,k b u q⟩,fun b u q n _=>?_,fun b u q _=>⟨u,k b u q⟩,fun b xs q=>old b _ q,fun b u xs q=>old b _ q,fun b ps q=>⟨#[],by rw [old b _ q];simp⟩⟩ fun a o e=>?_⟩
 ·cases e:ZQ H L b with
  | none=>rfl
  | some o =>
   rcases inv b o e with z | ⟨x,y,z,_⟩
   ·rw [n] at z;cases z
   ·exact absurd (Nat.lt_of_lt_of_le (jH q) (hL b x y z).1) (Nat.lt_irrefl _)
 ·rcases inv a o e with z | ⟨x,y,z,rfl⟩
  ·exact (I.hok a o z).stay (fun c v _ q=>k c v q) (fun c q=>old c _ q) fun c xs q=>old c _ q
  ·obtain ⟨_,ux,uy,r1,r2,e⟩:=hL a x y z;exact ⟨by rw [sizeLine_eq];show 2<=16777216;decide,[ux,uy],.cons r1 (.cons r2 .nil),_,e,rfl,rfl,_,rfl⟩
theorem Ms {A:Around} {E:Value->Shared->Prop} {L:List Value} {nss:List (List Int)} {Q:Value->Shared->Prop} (hu:A.units+20<cLine) (hz:L.length<=1000) (t0:Paired (PuS.IT .prs s.heap) L nss)
  (h:∀ (h':Heap) (tk:Nat) (e:Nat) (out:List Value),(∀ b o,s.heap.get? b=some o->h'.get? b=some o)->h'.get? s.heap.objs.size=some (seqObj "list" out.toArray e) ->
   out.Perm L->PuS.Srt .prs false s.heap out->Q (.ref s.heap.objs.size) {s with heap:=h',toks:=tk}) :
  wpAny (model X.prog X.w) A (newList L>>=fun l=>(holding [l] (call (.builtin "list.sort") [l]))>>=fun _=>ret l) (fun fin s'=>∃ v,fin=.done (.ret v)/\Q v s') E s:=by
 refine jB (wpAny_newList ?_ (by rw [sizeLine_eq];omega));have hoL:(s.heap.push (seqObj "list" L.toArray 0)).get? s.heap.objs.size=some (seqObj "list" L.toArray 0):=Heap.get?_push_size _ rfl;have keep:∀ c o,s.heap.get? c=some o->(s.heap.push (seqObj "list" L.toArray 0)).get? c=some o:=fun c o q=>jG _ q
 have it1:∀ {u ns},PuS.IT .prs s.heap u ns->PuS.IT .prs (s.heap.push (seqObj "list" L.toArray 0)) u ns:=fun {u ns} x=>x.keepT fun c o e _=>keep c o e
 have t1:Paired (PuS.IT .prs (s.heap.push (seqObj "list" L.toArray 0))) L nss:=PuS.paired_imp (fun u ns x=>it1 x) t0;refine jB (wpAny_holding (wpAny_call_entry slot_list_sort ⟨_,hoL,rfl⟩ entry_list_sort ?body (args_list_sort _)))
 case body =>
  show wpAny _ _ (Builtin.«list.sort» ⟨[.ref s.heap.objs.size],PuS.kwOf false⟩) _ _ _;rw [PuS.tree_eq];refine PuS.srt_tree false (s:={s with heap:=s.heap.push (seqObj "list" L.toArray 0)}) hoL t1 (by omega) (fun s' G hG=>PuS.cmp_prs (by simp;omega) hG) fun h' out n' hp' hs k ho'=>⟨_,rfl,?_⟩
  refine jP ⟨_,rfl,h h' _ n' out (fun b o q=>k b o (Nat.ne_of_lt (jH q)) (keep b o q)) ho' hp' ?_⟩
  have key1:∀ u∈L,PuS.KY .prs (s.heap.push (seqObj "list" L.toArray 0)) u=PuS.KY .prs s.heap u:=fun u hu=>by
   obtain ⟨ns,x⟩:=PuS.paired_mem t0 u hu;unfold PuS.KY;rw [x.key,(it1 x).key]
  refine hs.imp_of_mem fun {u v} mu mv e=>?_
  have e1:=key1 u (hp'.mem_iff.mp mu);have e2:=key1 v (hp'.mem_iff.mp mv);have e':if false=true then PuS.llt (PuS.KY .prs (s.heap.push (seqObj "list" L.toArray 0)) u) (PuS.KY .prs (s.heap.push (seqObj "list" L.toArray 0)) v)=false else PuS.llt (PuS.KY .prs (s.heap.push (seqObj "list" L.toArray 0)) v) (PuS.KY .prs (s.heap.push (seqObj "list" L.toArray 0)) u)=false:=e
  rw [e1,e2] at e';exact e'
def JZ (q:List Int×PV):PV:=.tup [tpv q.1,q.2]
def Xu (kvs:List (List Int×PV)):Res PV:=if kvs.length<=1000 then JC false (.lst (kvs.map JZ)) else .bad
def Kv (i:Nat):De:=fun ρ=>(jQ ρ i).bind Xu
theorem Yx:∀ {kvs:List (List Int×PV)} {nss:List (List Int)},Yy (kvs.map JZ)=some nss->∃ bs:List (List Int),kvs.map (·.2)=bs.map tpv/\nss=(kvs.zip bs).map fun q=>PuS.enc2 q.1.1 q.2
 | [],nss,h=>by simp [Yy] at h;subst h;exact ⟨[],rfl,rfl⟩
 | q::kvs,nss,h=>by
  obtain ⟨k,v⟩:=q;simp only [List.map_cons,JZ,tpv] at h;unfold Yy at h
  split at h
  ·rename_i e;cases e
  ·rename_i xs ys r' e
   simp only [List.cons.injEq,PV.tup.injEq,and_true] at e;obtain ⟨⟨e1,e2⟩,e3⟩:=e;subst e1 e2 e3;simp only [Option.bind_eq_some_iff,Option.map_eq_some_iff] at h;obtain ⟨a,ha,b,hb,m,hm,rfl⟩:=h;obtain ⟨bs,h1,h2⟩:=Yx hm;rw [xR] at ha;cases ha;refine ⟨b::bs,?_,?_⟩
   ·simp only [List.map_cons,h1,wC hb];rfl
   ·simp [h2]
  ·cases h
variable {kvs:List (List Int×PV)} {ys:List (List Int×Addr×V)}
theorem Uh (I:L2.Inv X pins σ H s):∀ {kvs:List (List Int×PV)} {ys:List (List Int×Addr×V)} {bs:List (List Int)} {bl:List Addr},Paired (DR X.K (hid W H)) kvs ys->kvs.map (·.2)=bs.map tpv ->
  Paired (fun (b:Addr) (y:List Int×Addr×V)=>H b=some (.tup [.ref y.2.1,y.2.2])/\¬ W b) bl ys ->
  Paired (fun (u:Value) (q:V×List Int)=>RelV q.1 u/\Rep X.K (hid W H) (qpv q.2) q.1/\PuS.IT .prs s.heap u q.2) (bl.map Value.ref) ((bl.map V.ref).zip ((kvs.zip bs).map fun q=>PuS.enc2 q.1.1 q.2))
 | _,_,_,_,.nil,_,.nil=>.nil
 | (k,v)::_,(k',ka,vx)::_,[],_,.cons r t,e,.cons q u=>by simp at e
 | (k,v)::_,(k',ka,vx)::_,b::bs,l::_,.cons r t,e,.cons q u=>by
  simp only [List.map_cons,List.cons.injEq] at e;obtain ⟨e1,e2⟩:=e;have ih:=Uh I t e2 u;simp only [List.map_cons,List.zip_cons_cons];have rp:Rep X.K (hid W H) (qpv (PuS.enc2 k b)) (.ref l):=by
   rw [WE];refine Rep.tup (.inl (.inl (xf q.2 q.1))) (Reps.mk r.2.1 (Reps.mk ?_ (Reps.nil.mpr rfl)));have:=r.2.2;rw [show v=tpv b from e1] at this
   exact this
  exact .cons ⟨rfl,rp,La I rp rfl⟩ ih
theorem Wj {α β:Type}:∀ {a:List α} {b:List β},a.length=b.length->(a.zip b).map (·.2)=b
 | [],[],_=>rfl
 | x::a,y::b,h=>by simp at h;simp [Wj h]
variable {i:Nat} {x:Str} {p p1 pos apos cpos:Pos}
theorem Zl {α β:Type} {F:α->β->Prop}:∀ {a:List α} {b:List β},a.length=b.length->(∀ (j:Nat) x y,a[j]?=some x->b[j]?=some y->F x y)->Paired F a b
 | [],[],_,_=>.nil
 | x::a,y::b,h,f=>.cons (f 0 x y rfl rfl) (Zl (by simpa using h) fun j u v h1 h2=>f (j+1) u v (by simpa using h1) (by simpa using h2))
theorem ua {α β:Type} {F:α->β->Prop} {a:List α} {b:List β} (h:Paired F a b):∀ {j:Nat} {x:α} {y:β},a[j]?=some x->b[j]?=some y->F x y:=by
 induction h with
 | nil=>intro j x y e;simp at e
 | cons r _ ih =>
  intro j x y e1 e2;cases j with
  | zero=>simp at e1 e2;subst e1 e2;exact r
  | succ j=>exact ih (by simpa using e1) (by simpa using e2)
set_option maxHeartbeats 1000000 in
theorem Wo {v:Addr} {es:Array DictEntry} {ep:Nat} {od:Obj} {z:List PV} {d:Addr} {xs:List (List Int×Addr×Value)} {Q:VK} {E:Value->Shared->Prop} (hh:X.A.handled=none) (hu:X.A.units+30<cLine) (I:L2.Inv X pins σ H s) (tk:∀ a,W a->H a≠none)
  (hv:s.heap.IsItemsView v d) (hod:s.heap.get? d=some od) (hdd:od.data=.dict es ep) (hes:es.toList=xs.map BI) (hx:Paired Qf ys xs) (hr:Paired (DR X.K (hid W H)) kvs ys) (e:Xu kvs=.ok (.lst z)) (q:∀ p ys H1,Same H H1->H1 p=none->Reps X.K (hid W H1) z ys->Q (.ref p) (upd H1 p (.lst ys))) :
  wpAny (model X.prog X.w) X.A (call (.builtin "sorted") [.ref v]) (EP X pins σ Q) E s:=by
 unfold Xu at e
 rcases Nat.lt_or_ge 1000 kvs.length with hz | hz
 ·rw [if_neg (Nat.not_le_of_lt hz)] at e;cases e
 rw [if_pos hz] at e;simp only [JC] at e;obtain ⟨nss,e1,e⟩:=jy e
 rcases Nat.lt_or_ge 100000 nss.length with hz2 | hz2
 ·rw [if_neg (Nat.not_le_of_lt hz2)] at e;cases e
 rw [if_pos hz2] at e;cases e;obtain ⟨bs,hb1,hb2⟩:=Yx e1;have l1:=yS hr;have l2:=yS hx;have hsz:es.size=xs.length:=by have:=congrArg List.length hes;simpa using this
 have lb:kvs.length=bs.length:=by have:=congrArg List.length hb1;simpa using this
 refine Calls.call_function_entry kind_sorted plain_sorted entry_sorted (args_sorted1 _) ?_;unfold Builtin.«sorted»;refine jB (m:=checkCount "sorted" 1 1 _) (jP ?_);refine jB (PuD.collect_items (by simp [hh]) hv hod hdd (by omega) fun h1 acc k1 z1 la ha=>?_)
 have hget:∀ (j:Nat) (hj:j<es.size) (hj2:j<xs.length),es[j]=BI xs[j]:=fun j hj hj2=>by
  have:=congrArg (fun l=>l[j]?) hes;simp only [Array.getElem?_toList,List.getElem?_map] at this;rw [Array.getElem?_eq_getElem hj,List.getElem?_eq_getElem hj2] at this;simpa using this
 have hbl:∃ bl:List Addr,acc=bl.map Value.ref/\bl.length=ys.length:=by
  refine ⟨acc.map fun u=>match u with | .ref b=>b | _=>0,?_,by rw [List.length_map,la,hsz];omega⟩
  rw [List.map_map];apply List.ext_getElem?;intro j;rw [List.getElem?_map]
  by_cases hj:j<es.size
  ·obtain ⟨b,hb,_⟩:=ha j hj;rw [hb];rfl
  ·rw [List.getElem?_eq_none (by omega)];rfl
 obtain ⟨bl,rfl,lbl⟩:=hbl
 let L:Addr->V->V->Prop:=fun a x y=>∃ (j:Nat) (yy:List Int×Addr×V),bl[j]?=some a/\ys[j]?=some yy/\x=.ref yy.2.1/\y=yy.2.2
 have hL:∀ a x y,L a x y->s.heap.objs.size<=a/\∃ ux uy,RelV x ux/\RelV y uy/\h1.get? a=some {cls:=.type "tuple",data:=.seq #[ux,uy]}:=by
  rintro a x y ⟨j,yy,ea,ey,rfl,rfl⟩;have hj:j<es.size:=by have:=(List.getElem?_eq_some_iff.mp ey).1;omega
  have hj2:j<xs.length:=by omega
  obtain ⟨b,hb,h2,h3⟩:=ha j hj;rw [List.getElem?_map,ea] at hb;cases hb;have dd:=ua hx ey (List.getElem?_eq_getElem hj2);refine ⟨h2,.ref yy.2.1,xs[j].2.2,rfl,dd.2.2,?_⟩;rw [h3,hget j hj hj2];simp only [BI,dd.2.1]
 obtain ⟨sm,at',I1⟩:=GC I L k1 hL;have tk1:∀ a,W a->ZQ H L a≠none:=fun a wa z=>by
  cases q:H a with
  | none=>exact tk a wa q
  | some o=>rw [sm a o q] at z;cases z
 have hp:Paired (fun (b:Addr) (y:List Int×Addr×V)=>ZQ H L b=some (.tup [.ref y.2.1,y.2.2])/\¬ W b) bl ys:=Zl lbl fun j b y h1 h2=>by
  have hl:L b (.ref y.2.1) y.2.2:=⟨j,y,h1,h2,rfl,rfl⟩;exact ⟨at' _ _ _ hl,fun wb=>tk b wb (I.hok.fresh (hL _ _ _ hl).1)⟩
 have pit:=Uh (W:=W) I1 (DR.mono (zD sm) hr) hb1 hp;rw [<- hb2] at pit;have ln:nss.length=kvs.length:=by rw [hb2];simp [<- lb]
 obtain ⟨g1,g2,g3⟩:=Wk (s:={s with heap:=h1}) pit;have pit2:Paired (PuS.IT .prs h1) (bl.map Value.ref) nss:=by
  have:=Paired.mapP pit (G:=fun (u:Value) (q:V×List Int)=>PuS.IT .prs h1 u q.2) fun a b h=>h.2.2
  have mp:∀ {l:List Value} {m:List (V×List Int)},Paired (fun (u:Value) (q:V×List Int)=>PuS.IT .prs h1 u q.2) l m->Paired (PuS.IT .prs h1) l (m.map (·.2)):=fun h=>by
   induction h with
   | nil=>exact .nil
   | cons r _ ih=>exact .cons r ih
  have h2:Paired (PuS.IT .prs h1) (bl.map Value.ref) (((bl.map V.ref).zip nss).map (·.2)):=mp this
  rwa [Wj (by simp;omega)] at h2
 refine Ms (X:=X) (s:={s with heap:=h1}) (by simp;omega) (by simp;omega) pit2 fun h' tk2 ne out k2 ho hperm hs=>?_
 obtain ⟨ps,q3,q4⟩:=qc hperm.symm pit;obtain ⟨f1,f2,f3⟩:=Wk (s:={s with heap:=h1}) q4;have hperm2:(ps.map (·.2)).Perm nss:=by
  have:=(q3.map (·.2)).symm
  rwa [Wj (by simp;omega)] at this
 have hsort:(ps.map (·.2)).Pairwise fun x y=>ub false x y=true:=by
  rw [<- f3,List.pairwise_map];refine List.Pairwise.imp ?_ hs;intro u v hh;unfold ub lle;simp only [Bool.false_eq_true,if_false] at hh ⊢;simp [hh]
 have he:=wm hperm2 hsort;rw [he] at f2;have hl:(ps.map (·.1)).length<=sizeLine:=by
  have a1:=hperm2.length_eq;rw [List.length_map] at a1 ⊢;rw [sizeLine_eq];omega
 have J:=I1.laid (a:=h1.objs.size) (o:=.lst (ps.map (·.1))) (t':=tk2) (h':=h') k2 (Nat.le_refl _) ⟨hl,out,_,f1,ho⟩;exact ⟨.ref h1.objs.size,_,J,rfl,q _ _ _ sm (I1.hok.fresh (Nat.le_refl _)) f2⟩
end
@[simp] theorem Rg {i:Nat} {ρ:En}:Kv i ρ=(jQ ρ i).bind Xu:=(rfl)
end Pu
namespace PuD
open PySem PySem.Spec PyProof.Rows
end PuD
namespace Pu
open PySem PySem.Spec PyProof.Rows L2 PuT
end Pu
namespace Pu
open PySem PySem.Spec PyProof.Rows L2
def Dl (X:Cx) (W0:Addr->Prop) (H0:Hp) (D:Ends) (z:List PV):Prop:=∀ p ys H',H0 p=none->Same H0 H'->H' p=some (.lst ys)->Reps X.K (hid (fun a=>W0 a\/a=p) H') z ys->D.rt (.ref p) H'
def Ep (X:Cx) (d:Ds):TS:=fun D σ H=>∃ W0 H0 W ρ,Wd W0 H0 W H σ ρ/\ER X.K W H σ ρ/\∃ z,d ρ=.ok (.rt (.lst z))/\Dl X W0 H0 D z
def DSL (X:Cx) (st:List Stmt) (d:Ds):Prop:=PSs X st (Ep X d)
def Mb (d:Ds):Prop:=∀ ρ v,d ρ≠.ok (.rt v)
section
variable {X:Cx} {st:Stmt} {rest:List Stmt} {d d':Ds} {a:Expr} {da:De} {pos:Pos}
theorem xz (h1:DS X st d) (hg:Mb d) (h2:DSL X rest d'):DSL X (st::rest) (zJ d d'):=vG (xG h1 h2) fun D σ H ⟨W0,H0,W,ρ,w,er,z,e,f⟩=>by
 refine ⟨W0,H0,W,ρ,w,er,?_⟩;unfold zJ at e;cases ed:d ρ with
 | exc x=>rw [ed] at e;cases e
 | bad=>rw [ed] at e;cases e
 | ok o =>
  rw [ed] at e;cases o with
  | nx ρ'=>exact fun σ' W' H' w' s' er'=>⟨W0,H0,W',ρ',w',er',z,e,f⟩
  | bk ρ'=>cases e
  | ct ρ'=>cases e
  | rt v=>exact absurd ed (hg ρ v)
theorem qK (ha:PE X a (tDL X da)):DSL X [.Return (some a) pos] (ym da):=vG (ZX (QD ha)) fun D σ H ⟨W0,H0,W,ρ,w,er,z,e,f⟩=>by
 unfold ym at e;cases ed:da ρ with
 | exc x=>rw [ed] at e;cases e
 | bad=>rw [ed] at e;cases e
 | ok v =>
  rw [ed] at e;cases e;refine ⟨W,ρ,er,z,ed,fun p ys H' hp s' hy r=>f p ys H' (w.same.free hp) (w.same.trans s') hy (r.mono (vw fun a h=>?_))⟩
  rcases h with h | h
  ·exact .inl (w.sub a h)
  ·exact .inr h
theorem wu {t:Dg}:Mb (yk da t):=fun ρ v h=>by
 unfold yk at h;cases e:da ρ with
 | exc x=>rw [e] at h;cases h
 | bad=>rw [e] at h;cases h
 | ok u =>
  rw [e,Res.bind_ok] at h;cases e2:t u ρ with
  | exc x=>rw [e2] at h;cases h
  | bad=>rw [e2] at h;cases h
  | ok ρ'=>rw [e2] at h;cases h
theorem YJ {di:Di} {t:Dg} {b:Ds} (hb:Mb b):Mb (uw di t b):=fun ρ v h=>by
 have loop:∀ (vs:List PV) (ρ:En),ji t b vs ρ≠.ok (.rt v):=by
  intro vs
  induction vs with
  | nil=>intro ρ h;cases h
  | cons u vs ih =>
   intro ρ h;rw [ji] at h;cases e1:t u ρ with
   | exc x=>rw [e1] at h;cases h
   | bad=>rw [e1] at h;cases h
   | ok ρ1 =>
    rw [e1,Res.bind_ok] at h;cases e2:b ρ1 with
    | exc x=>rw [e2] at h;cases h
    | bad=>rw [e2] at h;cases h
    | ok o =>
     rw [e2,Res.bind_ok] at h;cases o with
     | nx ρ2=>exact ih ρ2 h
     | ct ρ2=>exact ih ρ2 h
     | bk ρ2=>cases h
     | rt u=>exact hb ρ1 u e2
 unfold uw at h;cases e:di ρ with
 | exc x=>rw [e] at h;cases h
 | bad=>rw [e] at h;cases h
 | ok vs=>rw [e] at h;exact loop vs ρ h
theorem GL {i:Nat}:Mb (JM i):=fun ρ v h=>by cases h
theorem NV {i:Nat} {da db:De}:Mb (Ge i da db):=fun ρ v h=>by
 unfold Ge at h;cases e:jQ ρ i with
 | exc x=>rw [e] at h;cases h
 | bad=>rw [e] at h;cases h
 | ok kvs =>
  rw [e,Res.bind_ok] at h;cases e2:zd da (zd db zj) ρ with
  | exc x=>rw [e2] at h;cases h
  | bad=>rw [e2] at h;cases h
  | ok us =>
   rw [e2,Res.bind_ok] at h
   split at h
   ·cases e3:Xf _ with
    | exc x=>rw [e3] at h;cases h
    | bad=>rw [e3] at h;cases h
    | ok ks=>rw [e3,Res.bind_ok] at h;split at h<;>cases h
   ·cases h
end
section
variable {X:Cx} {a:Expr} {da:De} {p p1 pos apos cpos:Pos} {x:Str}
theorem Ye {W:Addr->Prop} {H H1:Hp} {Q:VK} {z:List PV} (q:OkL X.K W H Q z) (sm:Same H H1) {p:Addr} {ys:List V} (hp:H1 p=none) (r:Reps X.K (hid W H1) z ys):Q (.ref p) (upd H1 p (.lst ys)):=by
 refine q p ys _ (sm.free hp) (sm.trans (yv hp)) zE (r.mono fun b o h=>?_);unfold hid at h ⊢
 split at h
 ·cases h
 ·rename_i n
  have hb:b≠p:=zA h hp;rw [if_neg (by rintro (z | z);exact n z;exact hb z),zu hb];exact h
theorem Po {k:Nat} (hr:Room k X.A) (hg:Gl X "sorted") (hm:X.mg "sorted" = none) (ha:DE X a da) (he:starEach [a] X.env=(false,eval a X.env)::starEach [] X.env:=by rfl) (hpl:(backTo pos (starEach [] X.env)).any (·.1)=false:=by rfl) :
  PE X (.Call (.Name "sorted" p) [a] [] pos) (tDL X (Ji da)):=by
 intro pins s σ H Q I ⟨W,ρ,er,z,h,q⟩;unfold Ji at h;obtain ⟨v,ev,h⟩:=bind_ok h;refine wpAny_Call_Name_kw (vv I hg hm wU ?_ (by decide) (by decide));refine PyProof.Rows.callWith_builtin1 (thn ((zg ha zi he) pos pins s σ H (fun ys H2=>∃ y,ys=[y]/\ER X.K W H2 σ ρ/\Rep X.K (hid W H2) v y/\Same H H2) I ?_) fun us s1 ⟨vs,H1,I1,r1,y,e,er1,ry,sm⟩=>?_) he hpl
 ·refine ⟨W,ρ,er,?_⟩;simp only [zd,zj,ev,Res.bind_ok];intro ys H2 s2 r2;obtain ⟨y,t,rfl,q1,q2⟩:=Reps.cons.mp r2;obtain rfl:=Reps.nil.mp q2;exact ⟨y,rfl,er.mono s2,q1,s2⟩
 ·subst e;obtain ⟨w,rfl,rw'⟩:=wM r1;cases v with
  | lst vs =>
   simp only [uq] at h;obtain ⟨nss,e1,e⟩:=jy h
   split at e
   ·rename_i hz
    cases e;obtain ⟨rfl,hne⟩:=qW e1;exact jp (m:=.one) false I1 er1.trk ry rw' (fun ns hn x u r q=>SX I1 (hne ns hn) r q) hz (fun A' _ s' G hG=>PuS.cmp_ints0 hG) fun p ys hp r=>Ye q sm hp r
   ·cases e
  | _=>simp [uq] at h
set_option maxHeartbeats 1000000 in
theorem Na (i:Nat) {k:Nat} (hr:Room k X.A) (hc:X.calm=true) (hg:Gl X "sorted") (hm:X.mg "sorted" = none) (hN:X.N[i]?=some x) (hv:Vis X.env.scope x) (hd:(x==("__debug__" : Str))=false:=by decide) (hcd:(x==("__classdict__" : Str))=false:=by decide)
  (hbase:attributeBase (.Name x p1) "items" X.env (eval (.Name x p1) X.env)=eval (.Name x p1) X.env:=by rfl) (hline:(apos.endLine==cpos.line)=true:=by rfl)
  (he:starEach [.Call (.Attribute (.Name x p1) "items" apos) [] [] cpos] X.env=(false,eval (.Call (.Attribute (.Name x p1) "items" apos) [] [] cpos) X.env)::starEach [] X.env:=by rfl) (hpl:(backTo pos (starEach [] X.env)).any (·.1)=false:=by rfl) :
  PE X (.Call (.Name "sorted" p) [.Call (.Attribute (.Name x p1) "items" apos) [] [] cpos] [] pos) (tDL X (Kv i)):=by
 intro pins s σ H Q I ⟨W,ρ,er,z,h,qq⟩;unfold Kv at h;obtain ⟨kvs,hi,ez⟩:=bind_ok h;have hi:ρ[i]?=some (some (.dic kvs)):=by
  unfold jQ at hi
  split at hi
  ·rename_i q;cases hi;exact q
  ·cases hi
 obtain ⟨y,e1,d,od,ys,e2,wl,hl,rl⟩:=er.val i _ hi;subst e2;refine wpAny_Call_Name_kw (vv I hg hm wU ?_ (by decide) (by decide));refine PyProof.Rows.callWith_builtin1 ?_ he hpl;rw [he];show wpAny _ _ (spliced ((false,eval (.Call (.Attribute (.Name x p1) "items" apos) [] [] cpos) X.env)::backTo pos (starEach [] X.env))) _ _ s;refine Calls.spliced_cons (thn (Q:=fun u s1=>wpAny (model X.prog X.w) X.A (call (.builtin "sorted") [u]) (EP X pins σ Q) X.xe s1) ?_ fun u s1 hu=>Calls.spliced_nil hu)
 refine wpAny_Call_method0_late hbase hline (thn (vM hN hv hd hcd pins s σ H (fun z H2=>z=.ref d/\H2=H) I ⟨_,e1,rfl,rfl⟩) fun u s1 ⟨z',H1,I1,r1,ez',eH⟩=>?_)
 subst ez' eH;cases r1;obtain ⟨h1,h2⟩:=Jp I1 hl;refine ⟨"dict","dict.items",F.plainAttrs_dict,F.slot_dict_items,F.type_dict_items,h1,h2,Calls.callWith_builtin rfl (PySem.evalArgs_none ?_)⟩;obtain ⟨⟨hsys,xs,hx,es,ep,g1,g2,g3,g4,g5⟩,_⟩:=I1.hok d _ hl;refine wpAny_call_entry F.slot_dict_items h1 F.entry_dict_items ?body (F.args_dict_items_1 _)
 case body =>
 unfold Builtin.«dict.items»;refine jB ?_;unfold Builtin.Dict.noArgs;refine jB (wpAny_notOrdered_dict h1 ?_);show wpAny _ _ (pure d) _ _ s1;refine jP ?_;show wpAny _ _ (Builtin.Dict.showsAll d>>=_) _ _ s1;unfold Builtin.Dict.showsAll;rw [if_neg (by rw [hsys];exact Bool.false_ne_true)];refine jB (jP (jB (wpAny_newObj_type (jP ⟨_,rfl,?_⟩))));have kp:∀ b o,s1.heap.get? b=some o->(s1.heap.push {cls:=.type "dict_items",data:=.fields #[.ref d]}).get? b=some o:=fun b o e=>jG _ e
 have J:L2.Inv X pins σ H1 {s1 with heap:=s1.heap.push {cls:=.type "dict_items",data:=.fields #[.ref d]}} :=
  I1.un (t':=s1.toks) ⟨fun b u q _ _ _=>kp b u q,fun b u q _ _ _=>⟨u.slots,kp b u q⟩,fun b u q n _=>n,fun b u q _=>⟨u,kp b u q⟩,fun b xs q=>q,fun b u xs q=>q,fun b ps q=>⟨#[],by rw [q];simp⟩⟩ (I1.hok.kept kp)
 have hh:X.A.handled=none:=I1.ok.hd hc;exact Wo (s:={s1 with heap:=s1.heap.push {cls:=.type "dict_items",data:=.fields #[.ref d]}}) hh (by have:=hr.un;omega) J er.trk ⟨_,Heap.get?_push_size _ rfl,rfl,rfl⟩ (kp d od g1) g3 g4 hx rl ez fun p ys H2 sm hp r=>Ye qq sm hp r
end
section
variable {P:Program} {w:World} {K:PySem.W.Frag} {mg:Str->Option Value} {base:Heap}
theorem Da {x qual:Str} {st:Stmt} {f:Addr} {fd:FuncData} {N ps:List Str} {k:Nat} {d:Ds} (F:Fun K x qual st f fd) (S:FnScope N ps (zk st))
  (hbody:∀ (cdv:Value) (A:Around) (outer:List Env) (s:Shared) (H:Hp) (E:XK),Room k (A.deeper (envOfC qual (zk st) s.heap.objs.size f cdv)) ->
   DSL (jk (CXP P w) P w K mg base N qual (zk st) f cdv A outer s H E) (yQ st) d):FnL P w K mg base (k+1) f fd ps (yC N.length d):=by
 obtain ⟨oc,od,kV,doc,pm,an,cdv,ct,osl,rfl,lk,hcd⟩:=F.ex;refine Ks lk hcd S (fun vs H Q E ⟨_,_,_,_,h,_⟩=>h) fun A outer s H xs Q E hr ⟨W,vs,tk,r,hl,z,e,q⟩=>?_
 refine ⟨_,hbody cdv A outer s H E hr,W,H,W,zH N.length vs,?_,jN tk r,z,?_,?_⟩
 ·exact ⟨Same.refl _,tk,fun _ h=>h,fun i s a m h=>absurd h (qJ m),fun i j s t a m _ h=>absurd h (qJ m)⟩
 ·unfold yC at e;cases ed:d (zH N.length vs) with
  | exc z=>rw [ed] at e;cases e
  | bad=>rw [ed] at e;cases e
  | ok o =>
   rw [ed] at e;cases o with
   | rt v=>cases e;rfl
   | nx ρ=>cases e
   | bk ρ=>cases e
   | ct ρ=>cases e
 ·exact fun p ys H' hp s' hy r'=>q p ys H' hp s' hy r'
end
section
variable {X:Cx} {W:Addr->Prop} {H H1:Hp} {σ:SS} {ρ:En}
theorem NS {p:Addr} (hp:H p=none) (s:Same H H1):Same (hid W H) (hid (fun a=>W a\/a=p) H1):=fun b o h=>by
 unfold hid at h ⊢
 split at h
 ·cases h
 ·rename_i n
  have hb:b≠p:=zA h hp;rw [if_neg (by rintro (z | z);exact n z;exact hb z)];exact s b o h
theorem Vj {p:Addr} {o:HO} (er:ER X.K W H σ ρ) (hp:H p=none) (s:Same H H1) (hy:H1 p=some o):ER X.K (fun a=>W a\/a=p) H1 σ ρ:=by
 refine ⟨er.len,fun i sl q=>?_,fun a h=>?_⟩
 ·obtain ⟨x,e1,r⟩:=er.val i sl q;exact ⟨x,e1,vU (NS hp s) (fun a _ _ hw=>⟨.inl hw,fun o ho=>s a o ho⟩) r⟩
 ·rcases h with h | rfl
  ·exact (er.mono s).trk a h
  ·rw [hy];intro z;cases z
theorem Ba {i:Nat} {x:V} (er:ER X.K W H σ ρ) (h:∀ s,ρ[i]?≠some (some s)):ER X.K W H (σ.set i (some x)) ρ:=by
 refine ⟨by rw [List.length_set];exact er.len,fun j sl q=>?_,er.trk⟩
 have hj:i≠j:=fun z=>h sl (z ▸ q)
 obtain ⟨y,e1,r⟩:=er.val j sl q;exact ⟨y,by rw [List.getElem?_set,if_neg hj];exact e1,r⟩
end
section
variable {X:Cx} {k:Nat} {ps:List Str} {g:Df} {x:Str} {p pos:Pos} {a:Expr} {es:List Expr} {ds:Das} {d:De} {dl:List De}
theorem vY (h:Qe X.prog X.w X.K X.mg X.base k x ps g) (hr:Room k X.A) (hg:Gl X x) (hn:∀ (ρ:En) (vs:List PV),ds ρ=.ok vs->vs.length=(a::es).length) (ha:DA X (a::es) ds) (hl:(a::es).length=ps.length:=by rfl)
  (hdb:(x==("__debug__" : Str))=false:=by decide) (he:starEach (a::es) X.env=(false,eval a X.env)::starEach es X.env:=by rfl) (hpl:(backTo pos (starEach es X.env)).any (·.1)=false:=by rfl) :
  PE X (.Call (.Name x p) (a::es) [] pos) (tDL X (eB g ds)):=by
 obtain ⟨f,fd,F,hb,hk,hm⟩:=h;refine yI (WH F hr hg hm hk hb .nil (QG (X:=X)) ha hdb he hpl) fun σ H Q ⟨W,ρ,er,z,e,q⟩=>?_
 unfold eB at e;obtain ⟨vs,ev,e⟩:=bind_ok e;have h':On (ds ρ) (fun x=>XW X x H) fun us=>us=vs:=by rw [ev];rfl
 refine xN ds er h' fun us xs H1 s1 er1 r1 eu=>?_
 subst eu;show spL X.K ps.length g (xs++[]) H1 _ _;rw [List.append_nil];exact ⟨W,us,er1.trk,r1,by rw [r1.length,hn ρ us ev,hl],z,e,fun p ys H2 hp s2 hy r=>q p ys H2 (s1.free hp) (s1.trans s2) hy r⟩
def Inn (K:PySem.W.Frag) (W:Addr->Prop) (bs:List Addr) (H':Hp) (z:List PV) (b:Addr):Prop:=∃ ys,H' b=some (.lst ys)/\Reps K (hid (fun a=>W a\/a∈bs) H') z ys
def Dj (K:PySem.W.Frag) (W:Addr->Prop) (H:Hp) (Q:List V->Hp->Prop) (zs:List (List PV)):Prop:=∀ bs H',Same H H'->bs.Nodup->(∀ b∈bs,H b=none)->Paired (Inn K W bs H') zs bs->Q (bs.map V.ref) H'
def BJ (X:Cx) (dl:List De):TA:=fun σ H Q=>∃ W ρ,ER X.K W H σ ρ/\∃ zs:List (List PV),Paired (fun (d:De) z=>d ρ=.ok (.lst z)) dl zs/\Dj X.K W H Q zs
theorem JX:PA X [] (BJ X []):=WI QH fun σ H Q ⟨W,ρ,er,zs,e,q⟩=>by
 cases e;exact q [] H (Same.refl _) List.nodup_nil (fun b hb=>by cases hb) .nil
theorem NT {W:Addr->Prop} {H H':Hp} {p:Addr} {bs:List Addr} (s:Same H H') (n:∀ b∈bs,H b=none):Same (hid (fun a=>W a\/a=p) H) (hid (fun a=>W a\/a∈p::bs) H'):=fun b o h=>by
 unfold hid at h ⊢
 split at h
 ·cases h
 ·rename_i nn
  have hb:b∉bs:=fun z=>by rw [n b z] at h;cases h
  rw [if_neg (by
   rintro (z | z)
   ·exact nn (.inl z)
   ·rcases List.mem_cons.mp z with z | z
    ·exact nn (.inr z)
    ·exact hb z)]
  exact s b o h
theorem NQ {K:PySem.W.Frag} {W:Addr->Prop} {H':Hp} {p:Addr} {bs cs:List Addr} {zs:List (List PV)} (h:Paired (Inn K (fun a=>W a\/a=p) bs H') zs cs):Paired (Inn K W (p::bs) H') zs cs :=
 Paired.mapP h fun z b ⟨ys,h1,h2⟩=>⟨ys,h1,h2.mono fun c o hc=>by
  unfold hid at hc ⊢
  split at hc
  ·cases hc
  ·rename_i nn
   rw [if_neg (by
    rintro (z | z)
    ·exact nn (.inl (.inl z))
    ·rcases List.mem_cons.mp z with z | z
     ·exact nn (.inl (.inr z))
     ·exact nn (.inr z))]
   exact hc⟩
theorem vZ (ha:PE X a (tDL X d)) (hes:PA X es (BJ X dl)) (he:starEach (a::es) X.env=(false,eval a X.env)::starEach es X.env:=by rfl):PA X (a::es) (BJ X (d::dl)) :=
 WI (Ya ha hes he) fun σ H Q ⟨W,ρ,er,zs,e,q⟩=>by
  cases e with
  | cons e1 e2 =>
   rename_i z zs
   refine ⟨W,ρ,er,z,e1,fun p ys H1 hp s1 hy r=>?_⟩
   refine ⟨fun a=>W a\/a=p,ρ,Vj er hp s1 hy,zs,e2,fun bs H2 s2 nd nb pr=>?_⟩
   have hpb:p∉bs:=fun z=>by rw [nb p z] at hy;cases hy
   refine q (p::bs) H2 (s1.trans s2) (List.nodup_cons.mpr ⟨hpb,nd⟩) (fun b hb=>?_) (.cons ⟨ys,s2 _ _ hy,r.mono (NT s2 nb)⟩ (NQ pr))
   rcases List.mem_cons.mp hb with rfl | hb
   ·exact hp
   ·exact s1.free (nb b hb)
def OkN (K:PySem.W.Frag) (W:Addr->Prop) (H:Hp) (Q:VK) (zs:List (List PV)):Prop:=∀ p bs H',Same H H'->(p::bs).Nodup->(∀ b∈p::bs,H b=none)->H' p=some (.lst (bs.map V.ref))->Paired (Inn K W (p::bs) H') zs bs->Q (.ref p) H'
end
def LJ (X:Cx) (W:Addr->Prop) (H:Hp) (D:Ends) (zs:List (List PV)):Prop:=∀ p bs H',Same H H'->(p::bs).Nodup->(∀ b∈p::bs,H b=none)->H' p=some (.lst (bs.map V.ref))->Paired (Inn X.K W (p::bs) H') zs bs->D.rt (.ref p) H'
def Qd:List De->Das
 | []=>zj
 | d::l=>zd d (Qd l)
def Zh (dl:List De) (d6:De):Ds:=fun ρ=>(Qd dl ρ).bind fun us=>(d6 ρ).bind fun v=>.ok (.rt (.lst (us++[v])))
section
variable {X:Cx} {i:Nat} {y:Str} {p2 p3 p4 p5 p6 p7 p8:Pos} {es:List Expr} {e6:Expr} {dl:List De} {d6:De}
theorem NR {K:PySem.W.Frag} {W W':Addr->Prop} {bs bs':List Addr} {H H':Hp} {zs:List (List PV)} {cs:List Addr} (h:Paired (Inn K W bs H) zs cs) (s:Same H H') (sh:Same (hid (fun a=>W a\/a∈bs) H) (hid (fun a=>W' a\/a∈bs') H')):Paired (Inn K W' bs' H') zs cs :=
 Paired.mapP h fun z b ⟨ys,h1,h2⟩=>⟨ys,s _ _ h1,h2.mono sh⟩
theorem GR (i:Nat) (hN:X.N.Nodup) (hi:X.N[i]?=some y) (hx:Loc X.env.scope y) (hv:Vis X.env.scope y) (hf:X.fn y=true\/X.env.scope.names.lookup y=some .local) (hA:PA X es (BJ X dl)) (h6:PE X e6 (tDL X d6)) (hz:dl.length<=1000:=by decide)
  (hd:(y==("__debug__" : Str))=false:=by decide) (hcd:(y==("__classdict__" : Str))=false:=by decide) (hs:swapsWith (.List es p3) (some (.Name y p2)) p4.line X.env=pure false:=by rfl) (he:starEach [e6] X.env=(false,eval e6 X.env)::starEach [] X.env:=by rfl)
  : PSs X [.Assign [.Name y p2] (.List es p3) p4,.Return (some (.BinOp (.Name y p5) .Add (.List [e6] p6) p7)) p8] (fun D σ H=>(∃ W ρ,ER X.K W H σ ρ/\(∀ s,ρ[i]?≠some (some s))/\i<σ.length/\∃ zs z,Paired (fun (d:De) z=>d ρ=.ok (.lst z)) dl zs/\d6 ρ=.ok (.lst z)/\LJ X W H D (zs++[z]))) :=
 vG (xG (uY hN hi hx (WG hA) hs hf) (ZX (QD (SO Kf (vM hi hv hd hcd) (WG (vZ h6 JX he)))))) fun D σ H ⟨W,ρ,er,hb,hil,zs,z,e,e6,f⟩=>by
  refine ⟨W,ρ,er,zs,e,fun bs H1 s1 nd nb pr=>?_⟩
  have hl:bs.length=dl.length:=by rw [<- yS pr,<- yS e]
  refine ⟨by rw [List.length_map,hl];exact Nat.le_trans hz (by rw [sizeLine_eq];decide),fun p0 hp0=>?_⟩
  have sh1:Same (hid W H) (hid (fun a=>W a\/a∈bs) H1):=fun b o h=>by
   unfold hid at h ⊢
   split at h
   ·cases h
   ·rename_i n
    rw [if_neg (by rintro (z | z);exact n z;rw [nb b z] at h;cases h)];exact s1 b o h
  have inH:∀ b∈bs,∃ o,H1 b=some o:=fun b hb=>by
   obtain ⟨j,hj,ej⟩:=List.getElem_of_mem hb;have hj2:j<zs.length:=by rw [yS pr];exact hj
   obtain ⟨ys,h1,_⟩:=ua pr (List.getElem?_eq_getElem hj2) (List.getElem?_eq_getElem hj);rw [ej] at h1;exact ⟨_,h1⟩
  have er1:ER X.K (fun a=>W a\/a∈bs) H1 σ ρ:=by
   refine ⟨er.len,fun j sl q=>?_,fun a h=>?_⟩
   ·obtain ⟨x,e1,r⟩:=er.val j sl q;exact ⟨x,e1,vU sh1 (fun a _ _ hw=>⟨.inl hw,fun o ho=>s1 a o ho⟩) r⟩
   ·rcases h with h | h
    ·exact (er.mono s1).trk a h
    ·obtain ⟨o,ho⟩:=inH a h;rw [ho];intro z;cases z
  have er2:ER X.K (fun a=>(W a\/a∈bs)\/a=p0) (upd H1 p0 (.lst (bs.map V.ref))) (σ.set i (some (.ref p0))) ρ:=Ba (Vj er1 hp0 (yv hp0) zE) hb
  have hp0b:p0∉bs:=fun z=>by obtain ⟨o,ho⟩:=inH p0 z;rw [hp0] at ho;cases ho
  refine ⟨.ref p0,by rw [List.getElem?_set,if_pos rfl,if_pos hil],?_⟩;refine ⟨_,ρ,er2,[z],.cons e6 .nil,fun cs H3 s3 nd3 nb3 pr3=>?_⟩
  obtain ⟨c,rfl⟩:∃ c,cs=[c]:=by
   cases pr3 with
   | cons _ t=>cases t;exact ⟨_,rfl⟩
  refine ⟨by rw [sizeLine_eq];show 1<=16777216;decide,fun p1 hp1=>?_⟩
  have hF0:H3 p0=some (.lst (bs.map V.ref)):=s3 _ _ zE;have hp01:p0≠p1:=zA hF0 hp1;refine ⟨p0,p1,bs.map V.ref,[.ref c],rfl,rfl,SqL.of (by rw [zu hp01];exact hF0),SqL.of zE,?_,fun p hp=>?_⟩
  ·rw [List.length_map,hl];have:dl.length+1<=16777216:=by omega
   rw [sizeLine_eq];exact this
  have hcn:=nb3 c jC;have c1:c≠p0:=fun z=>by rw [z,zE] at hcn;cases hcn
  rw [zu c1] at hcn;have hcb:c∉bs:=fun z=>by obtain ⟨o,ho⟩:=inH c z;rw [hcn] at ho;cases ho
  have hp':H3 p=none:=by
   by_cases z:p=p1
   ·rw [z,zE] at hp;cases hp
   ·rwa [zu z] at hp
  have s13:Same H1 H3:=(yv hp0).trans s3;have s3f:Same H3 (upd (upd H3 p1 (.lst [.ref c])) p (.lst (bs.map V.ref++[.ref c]))):=(yv hp1).trans (yv hp);have hc3:∃ ys,H3 c=some (.lst ys)/\Reps X.K (hid (fun a=>((W a\/a∈bs)\/a=p0)\/a∈[c]) H3) z ys:=by
   cases pr3 with
   | cons h _=>exact h
  have hpb:∀ b∈bs++[c],∃ o,H3 b=some o:=fun b hb=>by
   rcases List.mem_append.mp hb with hb | hb
   ·obtain ⟨o,ho⟩:=inH b hb;exact ⟨o,s13 _ _ ho⟩
   ·rw [List.mem_singleton.mp hb];obtain ⟨ys,h,_⟩:=hc3;exact ⟨_,h⟩
  have hpn:p∉bs++[c]:=fun z=>by obtain ⟨o,ho⟩:=hpb p z;rw [hp'] at ho;cases ho
  have e:=f p (bs++[c]) (upd (upd H3 p1 (.lst [.ref c])) p (.lst (bs.map V.ref++[.ref c]))) ((s1.trans s13).trans s3f) ?_ ?_ ?_ ?_
  ·exact e
  ·refine List.nodup_cons.mpr ⟨hpn,?_⟩;rw [List.nodup_append];exact ⟨nd,by simp,fun a ha b hb z=>hcb (by rw [<- List.mem_singleton.mp hb,<- z];exact ha)⟩
  ·intro b hb
   rcases List.mem_cons.mp hb with rfl | hb
   ·exact s1.free (s13.free hp')
   ·rcases List.mem_append.mp hb with hb | hb
    ·exact nb b hb
    ·rw [List.mem_singleton.mp hb];exact s1.free hcn
  ·rw [zE,List.map_append];rfl
  ·
   have key:∀ {V0:Addr->Prop} {G:Hp},(∀ a,V0 a->W a\/a∈bs++[c]\/a=p0)->Same G (upd (upd H3 p1 (.lst [.ref c])) p (.lst (bs.map V.ref++[.ref c])))->(∀ a,a∈p::(bs++[c])->¬ V0 a->G a=none)->(∀ a,W a->V0 a)->Same (hid V0 G) (hid (fun a=>W a\/a∈p::(bs++[c])) (upd (upd H3 p1 (.lst [.ref c])) p (.lst (bs.map V.ref++[.ref c])))):=fun h1 h2 h3 h4 b o hb=>by
    unfold hid at hb ⊢
    split at hb
    ·cases hb
    ·rename_i n
     rw [if_neg (by
      rintro (z | z)
      ·exact n (h4 b z)
      ·rw [h3 b z n] at hb;cases hb)]
     exact h2 b o hb
   refine uC (NR pr (s13.trans s3f) (key (fun a h=>?_) (s13.trans s3f) (fun a ha n=>?_) fun a h=>.inl h)) (.cons ?_ .nil)
   ·rcases h with h | h
    ·exact .inl h
    ·exact .inr (.inl (List.mem_append_left _ h))
   ·rcases List.mem_cons.mp ha with rfl | ha
    ·exact s13.free hp'
    ·rcases List.mem_append.mp ha with ha | ha
     ·exact absurd (.inr ha) n
     ·rw [List.mem_singleton.mp ha];exact hcn
   ·obtain ⟨ys,h1,h2⟩:=hc3;refine ⟨ys,s3f _ _ h1,h2.mono (key (fun a h=>?_) s3f (fun a ha n=>?_) fun a h=>.inl (.inl (.inl h)))⟩
    ·rcases h with ((h | h) | h) | h
     ·exact .inl h
     ·exact .inr (.inl (List.mem_append_left _ h))
     ·exact .inr (.inr h)
     ·exact .inr (.inl (List.mem_append_right _ h))
    ·rcases List.mem_cons.mp ha with rfl | ha
     ·exact hp'
     ·rcases List.mem_append.mp ha with ha | ha
      ·exact absurd (.inl (.inl (.inr ha))) n
      ·exact absurd (.inr ha) n
end
section
variable {X:Cx} {scope:Scope} {cl:List (Str×Addr)} {N:List Str} {tg iter elt:Expr} {pos:Pos} {t:Dg} {e:De}
theorem Jq {C D:Addr} {s3 s4:Shared} {H3:Hp} {fp:List Addr} {it:Addr} {J:It} {tn:Nat->Heap->Prop} {σ0:SS} {ρ0:En} {W:Addr->Prop} {G:Hp} {vs:List PV} {out:List (List PV)} {R:Result->Shared->Prop}
  (hcalm:X.calm=true) (T:Turn X.prog X.w X.K tg J fp it tn) (hg:DG (zT X scope cl N C s3 H3 fp) tg t) (he:PE (zT X scope cl N C s3 H3 fp) elt (tDL (zT X scope cl N C s3 H3 fp) e))
  (J0:L2.Inv (zT X scope cl N C s3 H3 fp) [] σ0 H3 s4) (st:tn 0 s4.heap) (fr:∀ b∈fp,H3 b=none) (hD:H3 D=some (.lst [])) (hWD:W D) (er:ER X.K W H3 σ0 ρ0) (hw:∀ v ρ1,t v ρ0=.ok ρ1->Ext ρ0 ρ1) (hv:∀ (i:Nat) (s:Sl),ρ0[i]?=some (some s)->(∃ v,s=.val v)\/∃ v,s=.fdc v)
  (hG:Same G (hid W H3)) (hit:ZT X.K G J vs) (hz:vs.length<=sizeLine) (ho:yR t (fun _=>.ok true) e ρ0 vs=.ok (out.map PV.lst))
  (hR:∀ s' σ' H' cs,L2.Inv (zT X scope cl N C s3 H3 fp) [] σ' H' s'->H' D=some (.lst (cs.map V.ref))->cs.Nodup->(∀ b∈cs,H3 b=none)->Paired (Inn X.K W cs H') out cs->SameB D H3 H'->R (.ok .next) s') :
  codeAny (model X.prog X.w) X.A (.compLoop (.ListComp elt [⟨tg,iter,[],0⟩] scope pos) 0 (.ref it) (.ref D) (compEnvC scope cl C X.env)) R s4:=by
 generalize hY:zT X scope cl N C s3 H3 fp=Y at *;have yp:Y.prog=X.prog:=by rw [<- hY];rfl
 have yw:Y.w=X.w:=by rw [<- hY];rfl
 have yK:Y.K=X.K:=by rw [<- hY];rfl
 have yA:Y.A=X.A:=by rw [<- hY];rfl
 have yx:Y.xe=fun _ _=>False:=by rw [<- hY];rfl
 have yc:Y.calm=true:=by rw [<- hY];exact hcalm
 have yex:Y.ex=fp:=by rw [<- hY];rfl
 have ypn:Y.pn=[]:=by rw [<- hY];rfl
 have yenv:Y.env=compEnvC scope cl C X.env:=by rw [<- hY];rfl
 rw [<- yK] at er hit hR;rw [<- yp,<- yw,<- yK] at T;rw [<- yp,<- yw,<- yA,<- yenv];have stat:∀ {H':Hp},(∀ b∈fp,H' b=none)->∀ b∈fp,wW Y [] H' b:=fun hn b hb=>by
  have h1:=J0.ok.exf b (by rw [yex];exact hb);exact ⟨hn b hb,h1.1,J0.ok.exfs b (by rw [yex];exact hb),.inl (by rw [yex];exact hb),h1.2,fun p hp=>by rw [ypn] at hp;exact absurd hp (by simp)⟩
 have er0:ER Y.K (fun a=>W a\/a∈([]:List Addr)) H3 σ0 ρ0:=by
  have e0:(fun a=>W a\/a∈([]:List Addr))=W:=by funext a;simp
  rw [e0];exact er
 refine jU (fun n s'=>∃ i σ H cs acc rest,n=vs.length-i+1/\i<=vs.length/\L2.Inv Y [] σ H s'/\tn i s'.heap/\(∀ b∈fp,H b=none)/\H D=some (.lst (cs.map V.ref))/\cs.Nodup/\(∀ b∈cs,H3 b=none)/\Paired (Inn Y.K W cs H) acc cs/\yR t (fun _=>.ok true) e ρ0 (vs.drop i)=.ok (rest.map PV.lst)/\out=acc++rest /\
  SameB D H3 H/\ER Y.K (fun a=>W a\/a∈cs) H σ ρ0/\cs.length<=i) ?_ (vs.length+1) ⟨0,σ0,H3,[],[],out,by simp,Nat.zero_le _,J0,st,fr,hD,List.nodup_nil,(fun b hb=>by cases hb),.nil,ho,rfl,fun _ _ _ q=>q,er0,Nat.le_refl _⟩
 rintro n s5 E ⟨i,σ,H,cs,acc,rest,rfl,hi,I5,st5,fr5,hD5,nd5,nb5,hys,hrest,hout,same,er5,hyl⟩;have hGH:Same G (hid W H):=fun b o q=>same.hid hWD b o (hG b o q)
 have hGH':Same G H:=hGH.trans hid_sub;have hGc:Same G (hid (fun a=>W a\/a∈cs) H):=fun b o q=>by
  have q1:=hGH b o q;have q2:=hid_sub _ _ (hG b o q);unfold hid at q1 ⊢
  split at q1
  ·cases q1
  ·rename_i nn
   rw [if_neg (by rintro (z | z);exact nn z;rw [nb5 b z] at q2;cases q2)];exact q1
 by_cases hlt:i<vs.length
 ·
  have ev:vs[i]?=some vs[i]:=by simp [hlt]
  have edr:vs.drop i=vs[i]::vs.drop (i+1):=List.drop_eq_getElem_cons hlt;obtain ⟨go,yl⟩:=(hit i H hGH').1 vs[i] ev;rw [edr,yR] at hrest;cases et:t vs[i] ρ0 with
  | exc x=>rw [et] at hrest;cases hrest
  | bad=>rw [et] at hrest;cases hrest
  | ok ρ1 =>
  rw [et,Res.bind_ok,Res.bind_ok] at hrest;simp only [if_true] at hrest;refine wpAny_mono (T.item Y rfl rfl rfl yc i [] s5 σ H E I5 (stat fr5) st5 go) (fun r s6 ⟨u,hr,h6⟩=>?_) fun _ _ q=>q
  subst hr;refine wpAny_mono h6 (fun _ s7 ⟨x,H7,I7,r7,y7,st7,fr7⟩=>?_) fun _ _ q=>q
  obtain ⟨s57,rp⟩:=yl x H7 y7;have rep7:=rp _ er5.trk hGc;have I7':=I7.pinned (stat fr7) (T.obj _ _ st7);have er7:=er5.mono s57;have again:∀ {σ':SS} {H':Hp} {s':Shared},L2.Inv Y ([]++Zj fp s7.heap) σ' H' s'->L2.Inv Y [] σ' H' s'/\tn (i+1) s'.heap/\∀ b∈fp,H' b=none:=fun {σ' H' s'} K9=>by
   refine ⟨K9.unpinned,T.keep _ _ _ st7 fun b hb o q=>(K9.pin (b,o) (List.mem_append_right _ (List.mem_append_right _ (xx hb q)))).1,fun b hb=>?_⟩
   obtain ⟨o,q,d⟩:=T.obj _ _ st7 b hb;exact (K9.pin (b,o) (List.mem_append_right _ (List.mem_append_right _ (xx hb q)))).2.1
  have hg':=hg _ s7 σ H7 x u (fun σ8 H8=>H8=H7/\ER Y.K (fun a=>W a\/a∈cs) H7 σ8 ρ1) I7' r7 ⟨_,ρ0,vs[i],er7,rep7,ρ1,et,fun σ8 q _=>⟨rfl,q⟩⟩
  rw [yx] at hg';refine wpAny_mono hg' (fun _ s8 ⟨σ8,H8,I8,e8,er8⟩=>?_) fun _ _ q=>q.elim
  subst e8;rw [List.forIn_nil];refine jP ?_;simp only [if_true];have hext:=hw vs[i] ρ1 et;cases ee:e ρ1 with
  | exc x=>rw [ee] at hrest;cases hrest
  | bad=>rw [ee] at hrest;cases hrest
  | ok xv =>
  rw [ee,Res.bind_ok] at hrest;cases er':yR t (fun _=>.ok true) e ρ0 (vs.drop (i+1)) with
  | exc x=>rw [er'] at hrest;cases hrest
  | bad=>rw [er'] at hrest;cases hrest
  | ok rest' =>
  rw [er',Res.bind_ok] at hrest;cases rest with
  | nil=>simp at hrest
  | cons z rest =>
  simp only [List.map_cons,Res.ok.injEq,List.cons.injEq] at hrest;obtain ⟨rfl,rfl⟩:=hrest;have he':=he _ s8 σ8 H8 (fun v H10=>∃ c ys,v=.ref c/\H8 c=none/\Same H8 H10/\H10 c=some (.lst ys)/\Reps Y.K (hid (fun a=>(W a\/a∈cs)\/a=c) H10) z ys) I8 ⟨_,ρ1,er8,z,ee,fun c ys H10 hc s10 hy rz=>⟨c,ys,rfl,hc,s10,hy,rz⟩⟩
  rw [yx] at he';refine wpAny_mono he' (fun zz s10 ⟨zv,H10,I10,rz,c,ys,ez,hcn,s910,hcy,rep10⟩=>?_) fun _ _ q=>q.elim
  subst ez;have hD8:=s57 _ _ hD5;have hD10:=s910 _ _ hD8;have hap:=qy (X:=Y) _ s10 σ8 H10 (.ref D) [.ref c] (.ref D) [zz] (fun _ H11=>H11=upd H10 D (.lst (cs.map V.ref++[.ref c]))) I10 rfl (.cons rz .nil) ⟨D,_,.ref c,rfl,rfl,hD10,by rw [List.length_map];omega,rfl⟩
  rw [yx] at hap;refine wpAny_mono hap (fun _ s11 ⟨_,H11,I11,_,e11⟩=>?_) fun _ _ q=>q.elim
  subst e11;obtain ⟨k1,k2,k3⟩:=again I11;have sb:SameB D H10 (upd H10 D (.lst (cs.map V.ref++[.ref c]))):=fun b o hb q=>by rw [zu hb];exact q
  have s510:Same H H10:=s57.trans s910;have tot:SameB D H (upd H10 D (.lst (cs.map V.ref++[.ref c]))):=fun b o hb q=>sb b o hb (s510 _ _ q)
  have hcD:c≠D:=fun z=>by rw [z,hD8] at hcn;cases hcn
  have inH:∀ b∈cs,∃ o,H b=some o:=fun b hb=>by
   obtain ⟨j,hj,ej⟩:=List.getElem_of_mem hb;have hj2:j<acc.length:=by rw [yS hys];exact hj
   obtain ⟨ys,h1,_⟩:=ua hys (List.getElem?_eq_getElem hj2) (List.getElem?_eq_getElem hj);rw [ej] at h1;exact ⟨_,h1⟩
  have hccs:c∉cs:=fun z=>by obtain ⟨o,ho⟩:=inH c z;rw [s57 _ _ ho] at hcn;cases hcn
  have hc3:H3 c=none:=by
   cases q:H3 c with
   | none=>rfl
   | some o=>rw [s57 _ _ (same c o hcD q)] at hcn;cases hcn
  have nDcs:D∉cs:=fun z=>by rw [nb5 D z] at hD;cases hD
  have gr:∀ {V0:Addr->Prop} {G0:Hp},(∀ a,W a->V0 a)->Same G0 H10->(∀ a,a∈cs++[c]->¬ V0 a->G0 a=none)->Same (hid V0 G0) (hid (fun a=>W a\/a∈cs++[c]) (upd H10 D (.lst (cs.map V.ref++[.ref c])))):=fun g1 g2 g3 b o hb=>by
   unfold hid at hb ⊢
   split at hb
   ·cases hb
   ·rename_i nn
    have hbD:b≠D:=fun z=>nn (g1 b (z ▸ hWD))
    rw [if_neg (by
     rintro (z | z)
     ·exact nn (g1 b z)
     ·rw [g3 b z nn] at hb;cases hb),zu hbD]
    exact g2 b o hb
  refine ⟨vs.length-(i+1)+1,by omega,i+1,σ8,_,cs++[c],acc++[z],rest,rfl,hlt,k1,k2,k3,by rw [zE,List.map_append];rfl,?_,?_,?_,er',by rw [hout];simp,fun b o hb q=>tot b o hb (same b o hb q),?_,by simp;omega⟩
  ·rw [List.nodup_append];exact ⟨nd5,by simp,fun a ha b hb z=>hccs (by rw [<- List.mem_singleton.mp hb,<- z];exact ha)⟩
  ·intro b hb
   rcases List.mem_append.mp hb with hb | hb
   ·exact nb5 b hb
   ·rw [List.mem_singleton.mp hb];exact hc3
  ·refine uC (Zl (yS hys) fun j z0 b0 h1 h2=>?_) (.cons ⟨ys,by rw [zu hcD];exact hcy,rep10.mono (gr (fun a h=>.inl (.inl h)) (Same.refl _) fun a ha nn=>?_)⟩ .nil)
   ·obtain ⟨ys0,q1,q2⟩:=ua hys h1 h2;have hb0:b0≠D:=fun z=>nDcs (z ▸ List.mem_of_getElem? h2)
    exact ⟨ys0,by rw [zu hb0];exact s510 _ _ q1,q2.mono (gr (fun a h=>.inl h) s510 fun a ha nn=>by
     rcases List.mem_append.mp ha with ha | ha
     ·exact absurd (.inr ha) nn
     ·rw [List.mem_singleton.mp ha];exact s57.free hcn)⟩
   ·rcases List.mem_append.mp ha with ha | ha
    ·exact absurd (.inl (.inr ha)) nn
    ·exact absurd (.inr (List.mem_singleton.mp ha)) nn
  ·have er10:=(Vj er8 hcn s910 hcy).weak hext;have gg:=gr (V0:=fun a=>(W a\/a∈cs)\/a=c) (fun a h=>.inl (.inl h)) (Same.refl H10) fun a ha nn=>by
    rcases List.mem_append.mp ha with ha | ha
    ·exact absurd (.inl (.inr ha)) nn
    ·exact absurd (.inr (List.mem_singleton.mp ha)) nn
   refine ⟨er10.len,fun j sl q=>?_,fun a wa z=>?_⟩
   ·obtain ⟨y,h1,h2⟩:=er10.val j sl q;refine ⟨y,h1,?_⟩
    rcases hv j sl q with ⟨v,rfl⟩ | ⟨v,rfl⟩
    ·exact Rep.mono gg (show Rep Y.K (hid (fun a=>(W a\/a∈cs)\/a=c) H10) v y from h2)
    ·obtain ⟨a,o,ys,h3,h4,h5⟩:=h2;exact ⟨a,o,ys,h3,gg _ _ h4,DR.mono gg h5⟩
   ·by_cases ha:a=D
    ·subst ha;rw [zE] at z;cases z
    ·rw [zu ha] at z;refine er10.trk a ?_ z
     rcases wa with wa | wa
     ·exact .inl (.inl wa)
     ·rcases List.mem_append.mp wa with wa | wa
      ·exact .inl (.inr wa)
      ·exact .inr (List.mem_singleton.mp wa)
 ·
  have hie:i=vs.length:=by omega
  subst hie;have stop:=(hit vs.length H hGH').2 rfl;rw [List.drop_length,yR] at hrest;cases rest with
  | cons z rest=>simp at hrest
  | nil =>
  rw [List.append_nil] at hout;subst hout;refine wpAny_mono (T.done Y rfl rfl rfl yc _ [] s5 σ H E I5 (stat fr5) st5 stop) (fun r s6 ⟨hr,I6⟩=>?_) fun _ _ q=>q
  subst hr;exact hR s6 σ H cs I6 hD5 nd5 nb5 hys same
variable {k:Nat} {idx:List Nat} {di:Di}
def tDN (X:Cx) (d:De):TE:=fun σ H Q=>∃ W ρ,ER X.K W H σ ρ/\∃ zs:List (List PV),d ρ=.ok (.lst (zs.map PV.lst))/\OkN X.K W H Q zs
end
mutual
def noL:PV->Bool
 | .lst _=>false
 | .tup xs=>noLs xs
 | _=>true
def noLs:List PV->Bool
 | []=>true
 | v::vs=>noL v&&noLs vs
end
section
variable {K:PySem.W.Frag} {G G':Hp}
mutual
theorem JO (h1:∀ a xs,Rd G a (.tup xs)->Rd G' a (.tup xs)):∀ {v:PV} {x:V},noL v=true->Rep K G v x->Rep K G' v x
 | .non,_,_,h=>by simpa only [Rep] using h
 | .bl _,_,_,h=>by simpa only [Rep] using h
 | .int _,_,_,h=>by simpa only [Rep] using h
 | .str _,_,_,h=>by simpa only [Rep] using h
 | .lst vs,x,n,h=>by simp [noL] at n
 | .tup vs,x,n,h=>by
  simp only [Rep] at h ⊢;obtain ⟨a,xs,e1,e2,e3⟩:=h;refine ⟨a,xs,e1,?_,reps_noL h1 (by simpa only [noL] using n) e3⟩
  rcases e2 with e2 | e2
  ·exact .inl (h1 a xs e2)
  ·exact .inr e2
theorem reps_noL (h1:∀ a xs,Rd G a (.tup xs)->Rd G' a (.tup xs)):∀ {vs:List PV} {xs:List V},noLs vs=true->Reps K G vs xs->Reps K G' vs xs
 | [],_,_,h=>by simpa only [Reps] using h
 | v::vs,xs,n,h=>by
  simp only [Reps] at h ⊢;obtain ⟨x,r,e1,e2,e3⟩:=h;simp only [noLs,Bool.and_eq_true] at n;exact ⟨x,r,e1,JO h1 n.1 e2,reps_noL h1 n.2 e3⟩
end
end
section
variable {X:Cx}
def Ro:V->List V->Hp->VK->Prop:=fun x vs H Q=>∃ l xs,x=.ref l/\vs=[]/\H l=some (.lst xs)/\Q .non (upd H l (.lst []))
theorem Nv:MtM X "list.clear" Ro:=by
 intro pins s σ H x vs v us Q I rx rv h;obtain ⟨l,xs,rfl,rfl,hH,q⟩:=h;cases rx;cases rv;obtain ⟨z,its,n,r,hl,e⟩:=I.lstM hH;refine call_meets F.slot_list_clear ⟨_,e,rfl⟩ F.entry_list_clear (F.args_list_clear_1 _) (PySem.AutoSeq1.list_clear_list_0 l its.toArray n (by rw [List.size_toArray];lia)) ⟨e,?_⟩;exact ⟨.non,_,I.lset (its':=[]) hH e (by simp) .nil (Nat.zero_le _),rfl,q⟩
variable {a:Expr} {da:De} {p1 p3:Pos}
theorem Ue (hg:Gl X "list") (hm:X.mg "list" = none) (ha:DE X a da) (he:starEach [a] X.env=(false,eval a X.env)::starEach [] X.env:=by rfl) (hpl:(backTo p3 (starEach [] X.env)).any (·.1)=false:=by rfl) :
  PE X (.Call (.Name "list" p1) [a] [] p3) (tDL X (eB je (zd da zj))):=yI (Zk vd hg hm (by decide) (zg ha zi he) (by decide) (by decide) he hpl) fun σ H Q ⟨W,ρ,er,z,e,q⟩=>by
 unfold eB at e;obtain ⟨us0,ev,e⟩:=bind_ok e;have h':On (zd da zj ρ) (fun x=>XW X x H) fun us=>us=us0:=by rw [ev];rfl
 refine xN (zd da zj) er h' fun us xs H1 s1 er1 r1 eu=>?_
 subst eu;unfold je at e
 split at e
 ·obtain ⟨x,t,rfl,k1,k2⟩:=Reps.cons.mp r1;obtain rfl:=Reps.nil.mp k2;cases e;obtain ⟨a,ys,rfl,h1,h2⟩:=Rep.lst'.mp k1;exact ⟨a,ys,rfl,.inl (xP h1),fun p hp=>Ye q s1 hp h2⟩
 ·obtain ⟨x,t,rfl,k1,k2⟩:=Reps.cons.mp r1;obtain rfl:=Reps.nil.mp k2;cases e;obtain ⟨a,ys,rfl,h1,h2⟩:=Rep.tup'.mp k1;exact ⟨a,ys,rfl,.inr (yU h1),fun p hp=>Ye q s1 hp h2⟩
 ·cases e
def spN (K:PySem.W.Frag) (n:Nat) (f:Df):Sp:=fun xs H Q E=>∃ W vs,(∀ a,W a->H a≠none)/\Reps K (hid W H) vs xs/\xs.length=n/\∃ zs:List (List PV),f vs=.ok (.lst (zs.map PV.lst))/\OkN K W H Q zs
def FnN (P:Program) (w:World) (K:PySem.W.Frag) (mg:Str->Option Value) (base:Heap) (k:Nat) (f:Addr) (fd:FuncData) (ps:List Str) (D:Df):Prop:=FnOk P w K mg base (CXP P w) k f fd ps (spN K ps.length D)
def LI (P:Program) (w:World) (K:PySem.W.Frag) (mg:Str->Option Value) (base:Heap) (k:Nat) (x:Str) (ps:List Str) (D:Df):Prop :=
 ∃ f fd,FnN P w K mg base k f fd ps D/\Binds K fd ps []/\PySem.W.keepIn K (.ref f)=true/\mg x=some (.ref f)
end
section
variable {X:Cx} {k:Nat} {ps:List Str} {g:Df} {x:Str} {p pos:Pos} {a:Expr} {es:List Expr} {ds:Das}
theorem Uf (h:LI X.prog X.w X.K X.mg X.base k x ps g) (hr:Room k X.A) (hg:Gl X x) (hn:∀ (ρ:En) (vs:List PV),ds ρ=.ok vs->vs.length=(a::es).length) (ha:DA X (a::es) ds) (hl:(a::es).length=ps.length:=by rfl)
  (hdb:(x==("__debug__" : Str))=false:=by decide) (he:starEach (a::es) X.env=(false,eval a X.env)::starEach es X.env:=by rfl) (hpl:(backTo pos (starEach es X.env)).any (·.1)=false:=by rfl) :
  PE X (.Call (.Name x p) (a::es) [] pos) (tDN X (eB g ds)):=by
 obtain ⟨f,fd,F,hb,hk,hm⟩:=h;refine yI (WH F hr hg hm hk hb .nil (QG (X:=X)) ha hdb he hpl) fun σ H Q ⟨W,ρ,er,z,e,q⟩=>?_
 unfold eB at e;obtain ⟨vs,ev,e⟩:=bind_ok e;have h':On (ds ρ) (fun x=>XW X x H) fun us=>us=vs:=by rw [ev];rfl
 refine xN ds er h' fun us xs H1 s1 er1 r1 eu=>?_
 subst eu;show spN X.K ps.length g (xs++[]) H1 _ _;rw [List.append_nil];exact ⟨W,us,er1.trk,r1,by rw [r1.length,hn ρ us ev,hl],z,e,fun p bs H2 s2 nd nb hp hi=>q p bs H2 (s1.trans s2) nd (fun b hb=>s1.free (nb b hb)) hp hi⟩
end
section
variable {P:Program} {w:World} {K:PySem.W.Frag} {mg:Str->Option Value} {base:Heap}
theorem Wi:∀ {dl:List De} {ρ:En} {us:List PV},Qd dl ρ=.ok us->Paired (fun (d:De) u=>d ρ=.ok u) dl us
 | [],ρ,us,h=>by cases h;exact .nil
 | d::dl,ρ,us,h=>by
  unfold Qd zd at h;obtain ⟨v,e1,h⟩:=bind_ok h;obtain ⟨vs,e2,h⟩:=bind_ok h;cases h;exact .cons e1 (Wi e2)
theorem Yn:∀ {us:List PV} {v:PV} {zs:List (List PV)},us++[v]=zs.map PV.lst->∃ zs' z,us=zs'.map PV.lst/\v=.lst z/\zs=zs'++[z]
 | [],v,zs,h=>by
  match zs,h with
  | [z],h=>simp at h;exact ⟨[],z,rfl,h,rfl⟩
 | u::us,v,zs,h=>by
  match zs,h with
  | z::zs,h =>
   simp only [List.cons_append,List.map_cons,List.cons.injEq] at h;obtain ⟨zs',z',h1,h2,h3⟩:=Yn h.2;exact ⟨z::zs',z',by rw [List.map_cons,h.1,h1],h2,by rw [h3];rfl⟩
theorem EZ {x qual:Str} {st:Stmt} {f:Addr} {fd:FuncData} {N ps:List Str} {k i:Nat} {dl:List De} {d6:De} (F:Fun K x qual st f fd) (S:FnScope N ps (zk st)) (hi1:ps.length<=i) (hi2:i<N.length)
  (hbody:∀ (cdv:Value) (A:Around) (outer:List Env) (s:Shared) (H:Hp) (E:XK),Room k (A.deeper (envOfC qual (zk st) s.heap.objs.size f cdv)) ->
   PSs (jk (CXP P w) P w K mg base N qual (zk st) f cdv A outer s H E) (yQ st) (fun D σ H=>(∃ W ρ,ER K W H σ ρ/\(∀ s,ρ[i]?≠some (some s))/\i<σ.length/\∃ zs z,Paired (fun (d:De) z=>d ρ=.ok (.lst z)) dl zs/\d6 ρ=.ok (.lst z)/\LJ (jk (CXP P w) P w K mg base N qual (zk st) f cdv A outer s H E) W H D (zs++[z])))) :
  FnN P w K mg base (k+1) f fd ps (yC N.length (Zh dl d6)):=by
 obtain ⟨oc,od,kV,doc,pm,an,cdv,ct,osl,rfl,lk,hcd⟩:=F.ex;refine Ks lk hcd S (fun vs H Q E ⟨_,_,_,_,h,_⟩=>h) fun A outer s H xs Q E hr ⟨W,vs,tk,r,hl,zs,e,q⟩=>?_
 unfold yC Zh at e;obtain ⟨o,e0,e⟩:=bind_ok e;obtain ⟨us,e1,e0⟩:=bind_ok e0;obtain ⟨v,e2,e0⟩:=bind_ok e0;cases e0;have e':(Res.ok (PV.lst (us++[v])):Res PV)=.ok (.lst (zs.map PV.lst)):=e;injection e' with e'
 injection e' with e3
 obtain ⟨zs',z,rfl,rfl,rfl⟩:=Yn e3;have pr:=Wi e1;have pr':Paired (fun (d:De) z=>d (zH N.length vs)=.ok (.lst z)) dl zs':=by
  have go:∀ {dl:List De} {zs:List (List PV)},Paired (fun (d:De) u=>d (zH N.length vs)=.ok u) dl (zs.map PV.lst)->Paired (fun (d:De) z=>d (zH N.length vs)=.ok (.lst z)) dl zs:=by
   intro dl
   induction dl with
   | nil=>intro zs h;cases zs with
    | nil=>exact .nil
    | cons z zs=>cases h
   | cons d dl ih=>intro zs h;cases zs with
    | nil=>cases h
    | cons z zs=>cases h with
     | cons h1 h2=>exact .cons h1 (ih h2)
  exact go pr
 have hvl:vs.length=ps.length:=by rw [<- r.length];exact hl
 refine ⟨_,hbody cdv A outer s H E hr,W,zH N.length vs,jN tk r,fun sl z=>?_,?_,zs',z,pr',e2,fun p bs H' s' nd nb hp hi=>q p bs H' s' nd nb hp hi⟩
 ·unfold zH at z;rw [List.getElem?_append_right (by simpa [hvl] using hi1),List.getElem?_replicate] at z
  split at z<;>cases z
 ·have:=(jN (N:=N) tk r).len;rw [<- this];simp [zH];omega
end
section
variable {X:Cx} {scope:Scope} {cl:List (Str×Addr)} {k:Nat} {idx:List Nat} {N:List Str} {tg iter elt:Expr} {di:Di} {t:Dg} {e:De} {pos:Pos}
theorem Ub {i:Nat} {y:Str} {py spos:Pos} (hk:scope.kind=.function) (chk:qM scope.names X.env.scope.names X.N k idx N=true) (hcalm:X.calm=true) (hN:X.N.Nodup) (hyi:X.N[i]?=some y) (hyx:Loc X.env.scope y) (hyf:X.fn y=true\/X.env.scope.names.lookup y=some .local)
  (hi:DI X tg iter di) (hw:∀ ρ v ρ1,t v (zV k idx ρ)=.ok ρ1->Ext (zV k idx ρ) ρ1)
  (hg:∀ cl C s3 H3 fp,DG (zT X scope cl N C s3 H3 fp) tg t) (he:∀ cl C s3 H3 fp,PE (zT X scope cl N C s3 H3 fp) elt (tDL (zT X scope cl N C s3 H3 fp) e))
  (hs:∀ x,foldedSetIterable iter X.env x=pure x:=by intro _;rfl)
  (hsw:swapsWith (.ListComp elt [⟨tg,iter,[],0⟩] scope pos) (some (.Name y py)) spos.line X.env=pure true:=by rfl) :
  PS X (.Assign [.Name y py] (.ListComp elt [⟨tg,iter,[],0⟩] scope pos) spos) (BK (tDN X (zC di k idx t (fun _=>.ok true) e)) (Kr i)):=by
 intro pins s σ H D' I ⟨W,ρ,er,out0,h0,q0⟩;have ok:=uJ (X:=X) (scope:=scope) (k:=k) (idx:=idx) (N:=N) I.ok hk chk
 revert ok
 generalize jl X.env.cells scope.names []=cl;intro ok;rw [exec_Assign_Name_used _ _ _ _ hsw];refine jB (wpAny_standAt (jB ?_));show wpAny _ X.A (do let _ <- comprehension (.ListComp elt [⟨tg,iter,[],0⟩] scope pos) scope X.env _ (newList []) false (eval iter X.env) (some (assign (.Name y py) X.env))) _ _ s
 have hfin:FinI X W H (fun J H2=>∃ (vs:List PV) (out:List (List PV)),vs.length<=sizeLine/\yR t (fun _=>.ok true) e (zV k idx ρ) vs=.ok (out.map PV.lst)/\ZT X.K (hid W H2) J vs/\Same H H2/\OkN X.K W H (fun x H1=>D'.nx (σ.set i (some x)) H1) out) (di ρ):=by
  unfold zC at h0;cases ed:di ρ with
  | exc x=>rw [ed] at h0;cases h0
  | bad=>rw [ed] at h0;cases h0
  | ok vs =>
   rw [ed,Res.bind_ok] at h0
   by_cases hz:vs.length<=sizeLine
   ·rw [if_pos hz] at h0;cases eo:yR t (fun _=>.ok true) e (zV k idx ρ) vs with
    | exc x=>rw [eo] at h0;cases h0
    | bad=>rw [eo] at h0;cases h0
    | ok out =>
     rw [eo] at h0;have:out=out0.map PV.lst:=by cases h0;rfl
     subst this;exact fun J H2 s2 it=>⟨vs,_,hz,eo,it,s2,q0⟩
   ·rw [if_neg hz] at h0;cases h0
 refine jB (wpAny_mono (wpAny_comprehension_free (use:=some (assign (.Name y py) X.env)) (Q:=fun _ s'=>SP X pins D' .next s') rfl hs ok.clos ok.kind ok.loc ?_) (fun _ s' hq=>jP (jP hq)) fun _ _ z=>z)
 refine thn (hi pins s σ H _ I ⟨W,ρ,er,hfin⟩) fun v s1 h1=>thn h1 fun itv s2 h2=>?_
 obtain ⟨it,fp,tn,J,H2,rfl,I2,T,st2,f2,vs,out,hz,ho,hit,s02,q⟩:=h2;have hfp2:∀ b∈fp,b<s2.heap.objs.size:=fun b hb=>by
  obtain ⟨o,e1,_⟩:=T.obj 0 _ st2 b hb;exact jH e1
 refine wpAny_newObj_type ?_;have I3:L2.Inv X pins σ (upd H2 s2.heap.objs.size (.lst [])) {s2 with heap:=s2.heap.push {cls:=.type "list",data:=.seq ([]:List Value).toArray}}:=I2.lnew (t':=s2.toks) (its:=[]) .nil (Nat.zero_le _)
 have hn2:H2 s2.heap.objs.size=none:=I2.fresh;generalize hs3:({s2 with heap:=s2.heap.push {cls:=.type "list",data:=.seq ([]:List Value).toArray}}:Shared)=s3 at *
 have k23:∀ b o,s2.heap.get? b=some o->s3.heap.get? b=some o:=fun b o e=>by rw [<- hs3];exact jG _ e
 have sz3:s3.heap.objs.size=s2.heap.objs.size+1:=by rw [<- hs3];exact Heap.size_push ..
 generalize hD:s2.heap.objs.size=D at *;have neD:∀ b,b<D->b≠D:=fun b hb=>Nat.ne_of_lt hb
 have hfp3:∀ b∈fp,wW X pins (upd H2 D (.lst [])) b/\b<s3.heap.objs.size:=fun b hb=>by
  obtain ⟨a0,a1⟩:=f2 b hb;exact ⟨⟨by rw [zu (neD b (hfp2 b hb))];exact a0,a1⟩,by rw [sz3];exact Nat.lt_succ_of_lt (hfp2 b hb)⟩
 show wpAny _ _ (newFunctionEnv scope X.env.globals cl [] X.env.qual none .none (some X.env)) _ _ s3;refine yr ?_;have hblk:=qO s3 scope.names;have hns:=(Heap.Ns.new s3.heap (.type "dict")).keeps (pushCells_keeps scope.names _);have k34:∀ b o,s3.heap.get? b=some o->(pushCells (s3.heap.push {cls:=.type "dict",data:=.dict #[]}) scope.names).get? b=some o:=fun b o e=>pushCells_keeps _ _ b o (jG _ e)
 generalize pushCells (s3.heap.push {cls:=.type "dict",data:=.dict #[]}) scope.names=h4 at hblk hns k34 ⊢;have J0:=jJ (t:=s3.toks) ok I3 hfp3 hns k34 hblk;have er2:=er.mono s02;have sD:Same H2 (upd H2 D (.lst [])):=yv hn2;have nWD:¬ W D:=er2.new hn2;have hGs:Same (hid W H2) (hid (fun a=>W a\/a=D) (upd H2 D (.lst []))):=fun b o z=>by
  have z1:=hid_sub b o z;have hb:b≠D:=fun y=>by rw [y,hn2] at z1;cases z1
  unfold hid at z ⊢
  split at z
  ·cases z
  ·rename_i nb
   rw [if_neg (fun y=>y.elim nb hb),zu hb];exact z1
 have erC:=Yh (k:=k) (idx:=idx) er2 hGs (fun a wa=>by
  rcases wa with wa | rfl
  ·by_cases ha:a=D
   ·rw [ha,zE];simp
   ·rw [zu ha];exact er2.trk a wa
  ·rw [zE];simp)
 have st4:tn 0 h4:=T.keep _ _ _ st2 fun b hb o e=>k34 b o (k23 b o e)
 have loop:∀ s4:Shared,s4={s3 with heap:=h4,toks:=s3.toks} ->
   codeAny (model X.prog X.w) X.A (.compLoop (.ListComp elt [⟨tg,iter,[],0⟩] scope pos) 0 (.ref it) (.ref D) (compEnvC scope (cellsFrom (s3.heap.objs.size+1) scope.names cl) s3.heap.objs.size X.env)) (compPost (model X.prog X.w) X.A X.xe (some (assign (.Name y py) X.env)) (fun _ s'=>SP X pins D' .next s') (.ref D) s3.heap.objs.size) s4:=by
  rintro s4 rfl;refine Jq (W:=fun a=>W a\/a=D) (G:=hid W H2) hcalm T (hg _ _ _ _ _) (he _ _ _ _ _) J0 st4 (fun b hb=>(hfp3 b hb).1.1) zE (.inr rfl) erC (hw ρ) jW hGs hit hz ho ?_
  intro s' σ' H' cs Jn hDn ndc nbc hys same;obtain ⟨m',hn',_⟩:=Jn.loc;have fin0:=qL I3 hfp3 Jn (Heap.SameBut.refl _ _);have sH:Same H H':=fun b o z=>by
   have z2:=s02 b o z;have hb:b≠D:=fun y=>by rw [y,hn2] at z2;cases z2
   exact same b o hb (sD b o z2)
  have nDc:D∉cs:=fun z=>by have:=nbc D z;rw [zE] at this;cases this
  have hQ:D'.nx (σ.set i (some (.ref D))) H':=q D cs H' sH (List.nodup_cons.mpr ⟨nDc,ndc⟩) (fun b hb=>by
   rcases List.mem_cons.mp hb with rfl | hb
   ·exact s02.free hn2
   ·exact (s02.trans sD).free (nbc b hb)) hDn (NQ hys)
  have hCl:X.env.locals<s3.heap.objs.size:=by
   obtain ⟨m3,⟨o3,_,_,ho3,_⟩,_⟩:=I3.loc;exact jH ho3
  have hCc:∀ x c,X.env.cells.lookup x=some c->c<s3.heap.objs.size:=fun x c ec=>by
   obtain ⟨v3,o3,ho3,_⟩:=I3.cell x c ec;exact jH ho3
  show wpAny (model X.prog X.w) X.A (assign (.Name y py) X.env (.ref D)) _ _ s';refine wpAny_assign_Name (Zb fin0 hN hyi hyx (v:=.ref D) rfl (fun s'' I'' ⟨a,sa,ha⟩=>?_) hyf);have neC:a≠s3.heap.objs.size:=by
   rcases ha with rfl | ha
   ·exact Nat.ne_of_lt hCl
   ·exact Nat.ne_of_lt (hCc _ _ ha)
  obtain ⟨oC,esC,epC,hoC,rC⟩:=hn';refine ⟨m',⟨oC,esC,epC,sa.extBut _ _ (Ne.symm neC) hoC,rC⟩,fun h'' hsb''=>?_⟩
  refine ⟨σ.set i (some (.ref D)),H',?_,hQ⟩;have Jf:H' s3.heap.objs.size=none:=Jn.free;exact I''.turned (t':=s''.toks) (it:=s3.heap.objs.size) (fun b o hb ho=>hsb''.extBut b o hb ho) Jf (Nat.ne_of_gt hCl) (.inr I3.sz) (fun x c ec=>Nat.ne_of_lt (hCc x c ec)) fun p hp=>by
   obtain ⟨ep,_⟩:=I3.pin p hp;exact Nat.ne_of_lt (jH ep)
 exact codeAny_compStart_list (loop _ rfl) (T.self _ 0 _ _ _ st4 (loop _ rfl))
end
def Vr (us:List PV):Bool:=us.all fun u=>match u with
 | .lst z=>noLs z
 | _=>false
def ME (i j l:Nat) (g:Df) (ds:Das):Ds:=fun ρ=>match eB g ds ρ with
 | .ok (.lst us)=>if Vr us&&decide (us.length<=1000/\i<ρ.length/\l<ρ.length) then .ok (.nx (((ρ.set i none).set j (some (.val (.lst us)))).set l none)) else .bad
 | _=>.bad
theorem YW:∀ {us:List PV},Vr us=true->∃ zs:List (List PV),us=zs.map PV.lst/\∀ z∈zs,noLs z=true
 | [],_=>⟨[],rfl,fun z h=>by cases h⟩
 | u::us,h=>by
  unfold Vr at h;rw [List.all_cons,Bool.and_eq_true] at h;obtain ⟨zs,h1,h2⟩:=YW h.2;cases u with
  | lst z=>exact ⟨z::zs,by rw [h1];rfl,fun y hy=>by
    rcases List.mem_cons.mp hy with rfl | hy
    ·exact h.1
    ·exact h2 y hy⟩
  | _=>simp at h
section
variable {X:Cx} {W0:Addr->Prop} {H0:Hp} {W:Addr->Prop} {H:Hp} {σ:SS} {ρ:En}
def emp (H:Hp) (bs:List Addr):Hp:=fun a=>if a∈bs then some (.lst []) else H a
theorem Sa {H:Hp} {bs:List Addr} {b:Addr}:upd (emp H bs) b (.lst [])=emp H (bs++[b]):=by
 funext a;unfold upd emp
 by_cases e:a=b
 ·simp [e]
 ·by_cases m:a∈bs<;>simp [e,m]
theorem YI {K:PySem.W.Frag} {bs0:List Addr}:∀ {zs:List (List PV)} {bs:List Addr},Paired (Inn K W bs0 H) zs bs->(∀ b∈bs,¬ W b)->Reps K (hid W H) (zs.map PV.lst) (bs.map V.ref)
 | _,_,.nil,_=>Reps.nil.mpr rfl
 | _,_,.cons ⟨ys,h1,h2⟩ t,hn=>Reps.mk (Rep.lst (.inl (.inl (xf (hn _ jC) h1))) (h2.mono (vw fun a h=>.inl h))) (YI t fun b hb=>hn b (jM _ hb))
variable {i j l:Nat} {rn dn wn:Str} {g:Df} {ds:Das} {ec:Expr} {ed:Expr} {dc:De} {rest:List Stmt} {d:Ds} {p1 p2 p3 p4 p5 p6 p7 p8 p9 apos cpos:Pos}
set_option maxHeartbeats 2000000 in
theorem Se (i j l:Nat) (hN:X.N.Nodup) (hi:X.N[i]?=some rn) (hj:X.N[j]?=some dn) (hl:X.N[l]?=some wn) (li:Loc X.env.scope rn) (lj:Loc X.env.scope dn) (ll:Loc X.env.scope wn) (vi:Vis X.env.scope rn) (vl:Vis X.env.scope wn)
  (fi:X.fn rn=true\/X.env.scope.names.lookup rn=some .local) (fj:X.fn dn=true\/X.env.scope.names.lookup dn=some .local) (fl:X.fn wn=true\/X.env.scope.names.lookup wn=some .local)
  (hij:i≠j) (hil:i≠l) (hjl:j≠l) (hp:PassesOwn (model X.prog X.w) X.A X.env X.xe) (hc:X.calm=true)
  (hcall:PE X ec (tDN X (eB g ds))) (hcomp:PS X (.Assign [.Name dn p3] ed p4) (BK (tDN X dc) (Kr j))) (hdc:∀ (ρ:En) (zs:List (List PV)),i<ρ.length->zs.length<=1000->dc (ρ.set i (some (.val (.lst (zs.map PV.lst)))))=.ok (.lst (zs.map PV.lst)))
  (hrest:DSs X rest d) (s1:swapsWith ec (some (.Name rn p1)) p2.line X.env=pure false:=by rfl)
  (dr:(rn==("__debug__" : Str))=false:=by decide) (cr:(rn==("__classdict__" : Str))=false:=by decide) (dw:(wn==("__debug__" : Str))=false:=by decide) (cw:(wn==("__classdict__" : Str))=false:=by decide)
  (hbase:attributeBase (.Name wn p5) "clear" X.env (eval (.Name wn p5) X.env)=eval (.Name wn p5) X.env:=by rfl) (hline:(apos.endLine==cpos.line)=true:=by rfl)
  (sw:swapsWith (.Call (.Attribute (.Name wn p5) "clear" apos) [] [] cpos) none p8.line X.env=pure false:=by rfl) (hs:∀ x,foldedSetIterable (.Name rn p7) X.env x=pure x:=by intro _;rfl) :
  DSs X (.Assign [.Name rn p1] ec p2::.Assign [.Name dn p3] ed p4::.For (.Name wn p6) (.Name rn p7) [.Expr (.Call (.Attribute (.Name wn p5) "clear" apos) [] [] cpos) p8] [] p9::rest) (zJ (ME i j l g ds) d) :=
 vG (xG (uY hN hi li hcall s1 fi) (xG hcomp (xG (MW hp hc (Pl (vM hi vi dr cr)) (ZZ hN hl ll fl) (ZX (ZY (RD F.plainAttrs_list F.slot_list_clear F.type_list_clear Nv (vM hl vl dw cw) hbase hline) sw)) hs) hrest))) fun D σ H ⟨W0,H0,W,ρ,w,er,h⟩=>by
  have hf:∃ zs:List (List PV),eB g ds ρ=.ok (.lst (zs.map PV.lst))/\(∀ z∈zs,noLs z=true)/\zs.length<=1000/\i<ρ.length/\l<ρ.length/\FinS X W0 H0 W H D (d (((ρ.set i none).set j (some (.val (.lst (zs.map PV.lst))))).set l none)):=by
   unfold zJ ME at h
   split at h
   ·rename_i us e
    by_cases hh:(Vr us&&decide (us.length<=1000/\i<ρ.length/\l<ρ.length))=true
    ·rw [if_pos hh] at h;rw [Bool.and_eq_true,decide_eq_true_eq] at hh;obtain ⟨zs,rfl,hz⟩:=YW hh.1;exact ⟨zs,e,hz,by simpa using hh.2.1,hh.2.2.1,hh.2.2.2,h⟩
    ·rw [if_neg hh] at h;exact h.elim
   ·exact h.elim
  obtain ⟨zs,e,hnz,hzl,hiρ,hlρ,hfin⟩:=hf;refine ⟨W,ρ,er,zs,e,fun p bs H1 s1 nd nb hp1 pr=>?_⟩
  have nWp:¬ W p:=er.new (nb p jC);have nWb:∀ b∈bs,¬ W b:=fun b hb=>er.new (nb b (jM _ hb))
  have rep1:Rep X.K (hid W H1) (.lst (zs.map PV.lst)) (.ref p):=Rep.lst (.inl (.inl (xf nWp hp1))) (YI pr nWb);have er1:=(er.mono s1).set rep1 i;refine ⟨W,_,er1,zs,hdc ρ zs hiρ hzl,fun q cs H2 s2 nd2 nb2 hq pr2=>?_⟩
  obtain ⟨hpb,ndb⟩:=List.nodup_cons.mp nd;obtain ⟨hqc,ndc⟩:=List.nodup_cons.mp nd2;have hil':i<σ.length:=by rw [<- er.len];exact hiρ
  have hp2:H2 p=some (.lst (bs.map V.ref)):=s2 _ _ hp1;have inB:∀ (k:Nat) (hk:k<bs.length),∃ ys,H1 bs[k]=some (.lst ys):=fun k hk=>by
   have hk2:k<zs.length:=by rw [yS pr];exact hk
   obtain ⟨ys,h1,_⟩:=ua pr (List.getElem?_eq_getElem hk2) (List.getElem?_eq_getElem hk);exact ⟨ys,h1⟩
  have inB':∀ b∈bs,∃ ys,H1 b=some (.lst ys):=fun b hb=>by
   obtain ⟨k,hk,ek⟩:=List.getElem_of_mem hb;obtain ⟨ys,h1⟩:=inB k hk;rw [ek] at h1;exact ⟨ys,h1⟩
  have σ2i:((σ.set i (some (.ref p))).set j (some (.ref q)))[i]?=some (some (.ref p)):=by
   rw [List.getElem?_set,if_neg (Ne.symm hij),List.getElem?_set,if_pos rfl,if_pos hil']
  refine ⟨.ref p,σ2i,p,rfl,⟨_,SqL.of hp2⟩,?_⟩;refine ⟨fun k m σ' H'=>m=bs.length-k/\k<=bs.length/\H'=emp H2 (bs.take k)/\σ'.length=σ.length/\∀ t,t≠l->σ'[t]?=((σ.set i (some (.ref p))).set j (some (.ref q)))[t]?,⟨bs.length,rfl,Nat.zero_le _,by funext a;simp [emp],by simp,fun _ _=>rfl⟩,?_⟩
  rintro k m σ' H' ⟨rfl,hk,rfl,hsl,hσ⟩;have hpk:emp H2 (bs.take k) p=some (.lst (bs.map V.ref)):=by
   unfold emp;rw [if_neg fun z=>hpb (List.mem_of_mem_take z)];exact hp2
  by_cases hlt:k<bs.length
  ·right
   have hxk:(bs.map V.ref)[k]?=some (.ref bs[k]):=by rw [List.getElem?_map,List.getElem?_eq_getElem hlt];rfl
   refine ⟨⟨_,_,SqL.of hpk,hxk⟩,fun σ'' H''=>H''=emp H2 (bs.take (k+1))/\σ''.length=σ.length/\∀ t,t≠l->σ''[t]?=((σ.set i (some (.ref p))).set j (some (.ref q)))[t]?,fun σ'' H'' ⟨a1,a2,a3⟩=>⟨bs.length-(k+1),by omega,rfl,hlt,a1,a2,a3⟩,?_⟩
   rintro x H3 ⟨rfl,hx⟩;have hx:=hx _ (SqL.of hpk);rw [hxk] at hx;obtain rfl:V.ref bs[k]=x:=by injection hx
   have hll:l<σ'.length:=by rw [hsl,<- er.len];exact hlρ
   refine ⟨.ref bs[k],by rw [List.getElem?_set,if_pos rfl,if_pos hll],?_⟩;obtain ⟨ys,hy⟩:=inB k hlt;have hnk:bs[k]∉bs.take k:=fun z=>by
    obtain ⟨m,hm,em⟩:=List.getElem_of_mem z;have hm2:m<k:=by simp at hm;omega
    rw [List.getElem_take] at em;have:=(List.getElem_inj (h₀:=by omega) (h₁:=hlt) ndb).mp em;omega
   have hyk:emp H2 (bs.take k) bs[k]=some (.lst ys):=by unfold emp;rw [if_neg hnk];exact s2 _ _ hy
   refine ⟨.inl ⟨rfl,_,SqL.of hyk⟩,bs[k],ys,rfl,rfl,hyk,?_,by simp [hsl],fun t ht=>?_⟩
   ·rw [Sa,List.take_succ,List.getElem?_eq_getElem hlt];rfl
   ·rw [List.getElem?_set,if_neg (Ne.symm ht)];exact hσ t ht
  ·left
   have hke:k=bs.length:=by omega
   subst hke;refine ⟨⟨_,SqL.of hpk,by simp⟩,?_⟩;rw [List.take_length];have hn:∀ b∈p::bs,H b=none:=nb;have hs3:∀ a o,H a=some o->emp H2 bs a=some o:=fun a o ha=>by
    unfold emp;rw [if_neg fun z=>by rw [hn a (jM _ z)] at ha;cases ha]
    exact s2 _ _ (s1 _ _ ha)
   have sh:Same (hid W H) (hid (fun a=>W a\/a∈p::bs) (emp H2 bs)):=fun b o hb=>by
    unfold hid at hb ⊢
    split at hb
    ·cases hb
    ·rename_i nn
     rw [if_neg (by rintro (z | z);exact nn z;rw [hn b z] at hb;cases hb)];exact hs3 b o hb
   have old:∀ {t:Nat} {s:Sl},(((ρ.set i none).set j (some (.val (.lst (zs.map PV.lst))))).set l none)[t]?=some (some s)->(t=j/\s=.val (.lst (zs.map PV.lst)))\/(t≠i/\t≠j/\t≠l/\ρ[t]?=some (some s)):=fun {t s} ht=>by
    rw [List.getElem?_set] at ht
    by_cases e1:l=t
    ·rw [if_pos e1] at ht;split at ht<;>cases ht
    ·rw [if_neg e1,List.getElem?_set] at ht
     by_cases e2:j=t
     ·rw [if_pos e2] at ht
      split at ht
      ·cases ht;exact .inl ⟨e2.symm,rfl⟩
      ·cases ht
     ·rw [if_neg e2,List.getElem?_set] at ht
      by_cases e3:i=t
      ·rw [if_pos e3] at ht;split at ht<;>cases ht
      ·rw [if_neg e3] at ht;exact .inr ⟨Ne.symm e3,Ne.symm e2,Ne.symm e1,ht⟩
   have σt:∀ t,t≠i->t≠j->t≠l->σ'[t]?=σ[t]?:=fun t a1 a2 a3=>by
    rw [hσ t a3,List.getElem?_set,if_neg (Ne.symm a2),List.getElem?_set,if_neg (Ne.symm a1)]
   have own':∀ {t:Nat} {s:Sl},s.Mine->(((ρ.set i none).set j (some (.val (.lst (zs.map PV.lst))))).set l none)[t]?=some (some s)->ρ[t]?=some (some s)/\σ'[t]?=σ[t]?:=fun m ht=>by
    rcases old ht with ⟨_,rfl⟩ | ⟨a1,a2,a3,a4⟩
    ·exact m.elim
    ·exact ⟨a4,σt _ a1 a2 a3⟩
   refine ⟨W0,H0,fun a=>W a\/a∈p::bs,_,⟨fun b o hb=>hs3 b o (w.same b o hb),w.trk,fun a ha=>.inl (w.sub a ha),fun t s a m h1 h2=>?_,fun t u s s' a m1 m2 h1 h2 h3 h4=>?_⟩,⟨by simp [hsl,er.len],fun t s ht=>?_,fun a ha=>?_⟩,FinS.grow hfin sh⟩
   ·obtain ⟨q1,q2⟩:=own' m h1;exact w.own t s a m q1 (q2 ▸ h2)
   ·obtain ⟨q1,q2⟩:=own' m1 h1;obtain ⟨q3,q4⟩:=own' m2 h2;exact w.dis t u s s' a m1 m2 q1 q3 (q2 ▸ h3) (q4 ▸ h4)
   ·rcases old ht with ⟨rfl,rfl⟩ | ⟨a1,a2,a3,a4⟩
    ·have hjl2:t<(σ.set i (some (V.ref p))).length:=by
      have:=(List.getElem?_eq_some_iff.mp ht).1;simp at this ⊢;rw [<- er.len];exact this
     refine ⟨.ref q,by rw [hσ t hjl,List.getElem?_set,if_pos rfl,if_pos hjl2],?_⟩;have nqh:¬ (W q\/q∈p::bs):=by
      rintro (z | z)
      ·exact (er.mono s1).new (nb2 q jC) z
      ·have:=nb2 q jC
       rcases List.mem_cons.mp z with rfl | z
       ·rw [hp1] at this;cases this
       ·obtain ⟨ys,hy⟩:=inB' q z;rw [hy] at this;cases this
     have nch:∀ c∈cs,¬ (W c\/c∈p::bs):=fun c hc z=>by
      have:=nb2 c (jM _ hc)
      rcases z with z | z
      ·exact (er.mono s1).new this z
      ·rcases List.mem_cons.mp z with rfl | z
       ·rw [hp1] at this;cases this
       ·obtain ⟨ys,hy⟩:=inB' c z;rw [hy] at this;cases this
     have e2:∀ a,a∉bs->emp H2 bs a=H2 a:=fun a ha=>by unfold emp;rw [if_neg ha]
     have rd:∀ a xs,Rd (hid (fun a=>W a\/a∈q::cs) H2) a (.tup xs)->Rd (hid (fun a=>W a\/a∈p::bs) (emp H2 bs)) a (.tup xs):=fun a xs hr=>by
      have up:∀ o,(∀ ys,o≠.lst ys)->hid (fun a=>W a\/a∈q::cs) H2 a=some o->hid (fun a=>W a\/a∈p::bs) (emp H2 bs) a=some o:=fun o ho hh=>by
       unfold hid at hh
       split at hh
       ·cases hh
       ·rename_i nn
        have na:a∉p::bs:=fun z=>by
         rcases List.mem_cons.mp z with rfl | z
         ·rw [hp2] at hh;cases hh;exact ho _ rfl
         ·obtain ⟨ys,hy⟩:=inB' a z;rw [s2 _ _ hy] at hh;cases hh;exact ho _ rfl
        refine xf (by rintro (z | z);exact nn (.inl z);exact na z) ?_;rw [e2 a fun z=>na (jM _ z)];exact hh
      rcases hr with hr | ⟨o,hr⟩
      ·exact .inl (up _ (fun ys z=>by cases z) hr)
      ·exact .inr ⟨o,up _ (fun ys z=>by cases z) hr⟩
     have inner:∀ {zs':List (List PV)} {cs':List Addr},(∀ z∈zs',noLs z=true)->(∀ c∈cs',c∈cs)->Paired (Inn X.K W (q::cs) H2) zs' cs'->Reps X.K (hid (fun a=>W a\/a∈p::bs) (emp H2 bs)) (zs'.map PV.lst) (cs'.map V.ref):=by
      intro zs' cs' hz hc' hp'
      induction hp' with
      | nil=>exact Reps.nil.mpr rfl
      | cons r _ ih =>
       obtain ⟨ys,h1,h2⟩:=r;have hcm:=hc' _ jC;refine Reps.mk (Rep.lst (.inl (.inl (xf (nch _ hcm) ?_))) (reps_noL rd (hz _ jC) h2)) (ih (fun z h=>hz z (jM _ h)) fun c h=>hc' c (jM _ h))
       rw [e2 _ fun z=>nch _ hcm (.inr (jM _ z))];exact h1
     refine Rep.lst (.inl (.inl (xf nqh ?_))) (inner hnz (fun c h=>h) pr2);rw [e2 q fun z=>nqh (.inr (jM _ z))];exact hq
    ·obtain ⟨x,e1,r⟩:=er.val t s a4;exact ⟨x,by rw [σt t a1 a2 a3];exact e1,vU sh (fun a _ _ hw=>⟨.inl hw,fun o ho=>hs3 a o ho⟩) r⟩
   ·rcases ha with ha | ha
    ·intro z;cases q1:H a with
     | none=>exact er.trk a ha q1
     | some o=>rw [hs3 a o q1] at z;cases z
    ·rcases List.mem_cons.mp ha with rfl | ha
     ·unfold emp;rw [if_neg hpb,hp2];intro z;cases z
     ·unfold emp;rw [if_pos ha];intro z;cases z
end
def uc:Option Sl->Option Sl
 | some (.val v)=>if noL v then some (.val v) else none
 | _=>none
def VS (i j:Nat) (da db:De) (tc:Dt) (dv:De):Ds:=fun ρ=>match da ρ with
 | .ok (.lst vs)=>match db (ρ.set i (some (.val (.lst vs)))) with
  | .ok v=>match tc ((ρ.set i (some (.val (.lst vs)))).set j (some (.val v))),dv ((ρ.set i (some (.val (.lst vs)))).set j (some (.val v))) with
   | .ok false,.ok u=>if vs.length<sizeLine/\i<ρ.length then .ok (.nx ((((ρ.set i none).set j (some (.val v))).map uc))) else .bad
   | _,_=>.bad
  | _=>.bad
 | _=>.bad
section
variable {X:Cx} {i j:Nat} {xn yn:Str} {ea eb ec ev:Expr} {da db dv:De} {tc:Dt} {dr:Ds} {sr rest:List Stmt} {d:Ds} {p1 p2 p3 p4 p5 p6 p7 apos cpos:Pos}
theorem Bf (i j:Nat) (hN:X.N.Nodup) (hi:X.N[i]?=some xn) (hj:X.N[j]?=some yn) (li:Loc X.env.scope xn) (lj:Loc X.env.scope yn) (vi:Vis X.env.scope xn) (fi:X.fn xn=true\/X.env.scope.names.lookup xn=some .local) (fj:X.fn yn=true\/X.env.scope.names.lookup yn=some .local) (hij:i≠j)
  (ha:PE X ea (tDL X da)) (hb:DE X eb db) (hc:DT X ec tc) (hsr:DSs X sr dr) (hv:DE X ev dv) (hrest:DSs X rest d)
  (s1:swapsWith ea (some (.Name xn p1)) p2.line X.env=pure false:=by rfl) (s2:swapsWith eb (some (.Name yn p3)) p4.line X.env=pure false:=by rfl)
  (dx:(xn==("__debug__" : Str))=false:=by decide) (cx:(xn==("__classdict__" : Str))=false:=by decide)
  (hbase:attributeBase (.Name xn p5) "append" X.env (eval (.Name xn p5) X.env)=eval (.Name xn p5) X.env:=by rfl)
  (hfew:((backTo cpos (starEach [ev] X.env)).all (fun x=>!x.1)&&(backToKw cpos (keywordEach [] X.env)).all (fun x=>x.1.isSome)
   && decide ([ev].length+([]:List Keyword).length+(if ([]:List Keyword).isEmpty then 0 else 1)<30))=true:=by rfl)
  (hline:(apos.endLine==cpos.line)=true:=by rfl) (hs:starEach [ev] X.env=(false,eval ev X.env)::starEach [] X.env:=by rfl) (hplain:(backTo cpos (starEach [] X.env)).any (·.1)=false:=by rfl)
  (hsw:swapsWith (.Call (.Attribute (.Name xn p5) "append" apos) [ev] [] cpos) none p6.line X.env=pure false:=by rfl) :
  DSs X (.Assign [.Name xn p1] ea p2::.Assign [.Name yn p3] eb p4::.If ec sr [] p7::.Expr (.Call (.Attribute (.Name xn p5) "append" apos) [ev] [] cpos) p6::rest) (zJ (VS i j da db tc dv) d) :=
 vG (xG (uY hN hi li ha s1 fi) (xG (uY hN hj lj hb s2 fj) (xG (SN hc hsr JU) (xG (ZY (SQ F.plainAttrs_list F.slot_list_append F.type_list_append qy (vM hi vi dx cx) (zg hv zi hs) hbase hfew hline hs hplain) hsw) hrest)))) fun D σ H ⟨W0,H0,W,ρ,w,er,h⟩=>by
  have hf:∃ vs v u,da ρ=.ok (.lst vs)/\db (ρ.set i (some (.val (.lst vs))))=.ok v/\tc ((ρ.set i (some (.val (.lst vs)))).set j (some (.val v)))=.ok false/\dv ((ρ.set i (some (.val (.lst vs)))).set j (some (.val v)))=.ok u/\vs.length<sizeLine/\i<ρ.length/\FinS X W0 H0 W H D (d (((ρ.set i none).set j (some (.val v))).map uc)):=by
   unfold zJ VS at h
   split at h
   ·rename_i vs e1
    split at h
    ·rename_i v e2
     split at h
     ·rename_i u e3 e4
      by_cases hz:vs.length<sizeLine/\i<ρ.length
      ·rw [if_pos hz] at h;exact ⟨vs,v,u,e1,e2,e3,e4,hz.1,hz.2,h⟩
      ·rw [if_neg hz] at h;exact h.elim
     ·exact h.elim
    ·exact h.elim
   ·exact h.elim
  obtain ⟨vs,v,u,e1,e2,e3,e4,hz,hiρ,hfin⟩:=hf;have hil:i<σ.length:=by rw [<- er.len];exact hiρ
  refine ⟨W,ρ,er,vs,e1,fun p ys H1 hp s1 hy r=>?_⟩
  have nWp:¬ W p:=er.new hp;have rep1:Rep X.K (hid W H1) (.lst vs) (.ref p):=Rep.lst (.inl (.inl (xf nWp hy))) (r.mono (vw fun a h=>.inl h));have er1:=(er.mono s1).set rep1 i;refine wf db er1 (k:=fun z=>z=v) (by rw [e2];rfl) fun z y H2 s2 er2 r2 ez=>?_
  subst ez;have er2':=er2.set r2 j;refine ⟨W,_,er2',?_⟩;rw [e3];intro H3 s3;refine UC ?_;have er3:=er2'.mono s3;have σi:((σ.set i (some (.ref p))).set j (some y))[i]?=some (some (.ref p)):=by
   rw [List.getElem?_set,if_neg (Ne.symm hij),List.getElem?_set,if_pos rfl,if_pos hil]
  have hp3:H3 p=some (.lst ys):=s3 _ _ (s2 _ _ hy);refine ⟨.ref p,σi,.inl ⟨rfl,ys,SqL.of hp3⟩,?_⟩;have h':On (zd dv zj ((ρ.set i (some (.val (.lst vs)))).set j (some (.val z)))) (fun x=>XW X x H3) fun us=>us=[u]:=by
   unfold zd zj;rw [e4];rfl
  refine xN (zd dv zj) er3 h' fun us xs H4 s4 er4 r4 eu=>?_
  subst eu;obtain ⟨x4,t4,rfl,k1,k2⟩:=Reps.cons.mp r4;obtain rfl:=Reps.nil.mp k2;have hp4:H4 p=some (.lst ys):=s4 _ _ hp3;refine ⟨p,ys,x4,rfl,rfl,hp4,by rw [r.length];exact hz,?_⟩;have s14:Same H1 H4:=(s2.trans s3).trans s4;have hk:∀ a o,H a=some o->upd H4 p (.lst (ys++[x4])) a=some o:=fun a o ha=>by
   rw [zu (zA ha hp)];exact s14 _ _ (s1 _ _ ha)
  have sh:Same (hid W H) (hid W (upd H4 p (.lst (ys++[x4])))):=fun b o hb=>by
   unfold hid at hb ⊢
   split at hb
   ·cases hb
   ·rename_i nn;rw [if_neg nn];exact hk b o hb
  have sl:∀ {t:Nat} {s:Sl},(((ρ.set i none).set j (some (.val z))).map uc)[t]?=some (some s)->∃ q,s=.val q/\noL q=true/\(((ρ.set i (some (.val (.lst vs)))).set j (some (.val z)))[t]?=some (some (.val q))):=fun {t s} ht=>by
   rw [List.getElem?_map] at ht;obtain ⟨o,ho,ek⟩:=Option.map_eq_some_iff.mp ht;unfold uc at ek
   split at ek
   ·rename_i q
    by_cases nq:noL q=true
    ·rw [if_pos nq] at ek;cases ek;refine ⟨q,rfl,nq,?_⟩;rw [List.getElem?_set] at ho ⊢
     by_cases ej:j=t
     ·rw [if_pos ej] at ho ⊢;simpa using ho
     ·rw [if_neg ej,List.getElem?_set] at ho ⊢
      by_cases ei:i=t
      ·rw [if_pos ei] at ho;split at ho<;>cases ho
      ·rw [if_neg ei] at ho ⊢;exact ho
    ·rw [if_neg nq] at ek;cases ek
   ·cases ek
  refine ⟨W0,H0,W,_,⟨fun b o hb=>hk b o (w.same b o hb),w.trk,w.sub,fun t s a m h1 h2=>?_,fun t u s s' a m1 m2 h1 h2 h3 h4=>?_⟩,⟨?_,fun t s ht=>?_,fun a ha=>?_⟩,FinS.grow hfin sh⟩
  ·obtain ⟨q,rfl,_⟩:=sl h1;exact m.elim
  ·obtain ⟨q,rfl,_⟩:=sl h1;exact m1.elim
  ·simp [er.len]
  ·obtain ⟨q,rfl,nq,hq⟩:=sl ht;obtain ⟨x,ex,rx⟩:=er4.val t _ hq;refine ⟨x,ex,JO (fun a xs hr=>?_) nq (show Rep X.K (hid W H4) q x from rx)⟩
   have up:∀ o,(∀ ys,o≠.lst ys)->hid W H4 a=some o->hid W (upd H4 p (.lst (ys++[x4]))) a=some o:=fun o ho hh=>by
    unfold hid at hh ⊢
    split at hh
    ·cases hh
    ·rename_i nn
     rw [if_neg nn,zu (fun z=>by rw [z,hp4] at hh;cases hh;exact ho _ rfl)];exact hh
   rcases hr with hr | ⟨o,hr⟩
   ·exact .inl (up _ (fun ys z=>by cases z) hr)
   ·exact .inr ⟨o,up _ (fun ys z=>by cases z) hr⟩
  ·intro z
   by_cases e:a=p
   ·rw [e,zE] at z;cases z
   ·rw [zu e] at z;exact er4.trk a ha z
end
theorem GK {P:Program} {w:World} {K:PySem.W.Frag} {mg:Str->Option Value} {base h:Heap} {k:Nat} {x:Str} {st:Stmt} {ps:List Str} {D:Df} (X:K.In h) (G:h.Ns mainGlobals mg) (q:yL K x st)
  (ok:∀ {f:Addr} {fd:FuncData},Fun K x x st f fd->FnL P w K mg base k f fd ps D)
  (hb:∀ (kV doc pm:Value) (an:Option Addr) (cdv ct:Value) (us:List Value),us.length=ps.length->bindArgs (PySem.W.fnOf x x (wK st) (yQ st) (zk st) .none kV doc pm an cdv ct) ⟨us,[]⟩=pure (ps.zip us)):Qe P w K mg base k x ps D:=by
 obtain ⟨f,oc,od,an,sl,kV,dc,pm,cd,ct,a,l,c,kp⟩:=q;have F:=Vg (st:=st) l c kp;exact ⟨_,_,ok F,F.binds hb,kp,PySem.W.mg_of X G a⟩
theorem ET {P:Program} {w:World} {K:PySem.W.Frag} {mg:Str->Option Value} {base h:Heap} {k:Nat} {x:Str} {st:Stmt} {ps:List Str} {D:Df} (X:K.In h) (G:h.Ns mainGlobals mg) (q:yL K x st)
  (ok:∀ {f:Addr} {fd:FuncData},Fun K x x st f fd->FnN P w K mg base k f fd ps D)
  (hb:∀ (kV doc pm:Value) (an:Option Addr) (cdv ct:Value) (us:List Value),us.length=ps.length->bindArgs (PySem.W.fnOf x x (wK st) (yQ st) (zk st) .none kV doc pm an cdv ct) ⟨us,[]⟩=pure (ps.zip us)):LI P w K mg base k x ps D:=by
 obtain ⟨f,oc,od,an,sl,kV,dc,pm,cd,ct,a,l,c,kp⟩:=q;have F:=Vg (st:=st) l c kp;exact ⟨_,_,ok F,F.binds hb,kp,PySem.W.mg_of X G a⟩
section
variable {P:Program} {w:World} {K:PySem.W.Frag} {mg:Str->Option Value} {base:Heap} {x qual:Str} {st:Stmt} {f:Addr} {fd:FuncData} {N ps:List Str} {k i:Nat} {d:Ds} {dl:List De} {d6:De}
theorem GN (F:Fun K x qual st f fd) (S:FnScope N ps (zk st))
  (hbody:∀ {cdv:Value} {A:Around} {outer:List Env} {s:Shared} {H:Hp} {E:XK},N.Nodup->Room k (A.deeper (envOfC qual (zk st) s.heap.objs.size f cdv)) ->
   DSL (jk (CXP P w) P w K mg base N qual (zk st) f cdv A outer s H E) (yQ st) d):FnL P w K mg base (k+1) f fd ps (yC N.length d):=Da F S fun cdv A outer s H E hr=>hbody S.nd hr
theorem EY (i:Nat) (F:Fun K x qual st f fd) (S:FnScope N ps (zk st)) (hi1:ps.length<=i) (hi2:i<N.length)
  (hbody:∀ {cdv:Value} {A:Around} {outer:List Env} {s:Shared} {H:Hp} {E:XK},N.Nodup->Room k (A.deeper (envOfC qual (zk st) s.heap.objs.size f cdv)) ->
   PSs (jk (CXP P w) P w K mg base N qual (zk st) f cdv A outer s H E) (yQ st) (fun D σ H=>(∃ W ρ,ER K W H σ ρ/\(∀ s,ρ[i]?≠some (some s))/\i<σ.length/\∃ zs z,Paired (fun (d:De) z=>d ρ=.ok (.lst z)) dl zs/\d6 ρ=.ok (.lst z)/\LJ (jk (CXP P w) P w K mg base N qual (zk st) f cdv A outer s H E) W H D (zs++[z])))) :
  FnN P w K mg base (k+1) f fd ps (yC N.length (Zh dl d6)):=EZ F S hi1 hi2 fun cdv A outer s H E hr=>hbody S.nd hr
end
def Uk (d:De):De:=fun ρ=>match d ρ with
 | .ok (.lst us)=>if Vr us then .ok (.lst us) else .bad
 | _=>.bad
theorem Lr {X:Cx} {e:Expr} {d:De} (h:PE X e (tDN X d)):DE X e (Uk d):=yI h fun σ H Q ⟨W,ρ,er,hf⟩=>by
 unfold Uk at hf
 split at hf
 ·rename_i us ed
  by_cases ha:Vr us=true
  ·rw [if_pos ha] at hf;obtain ⟨zs,rfl,_⟩:=YW ha;exact ⟨W,ρ,er,zs,ed,fun p bs H' s nd nb hp pr=>hf _ H' s (Rep.lst (.inl (.inl (xf (er.new (nb p jC)) hp))) (YI pr fun b hb=>er.new (nb b (jM _ hb))))⟩
  ·rw [if_neg ha] at hf;exact hf.elim
 ·exact hf.elim
theorem AM (i:Nat) (ρ:En) (zs:List (List PV)) (hi:i<ρ.length) (hz:zs.length<=1000):zC (yu (ze i)) 1 [] (zp 0) (fun _=>.ok true) (eB je (zd (ze 0) zj)) (ρ.set i (some (.val (.lst (zs.map PV.lst)))))=.ok (.lst (zs.map PV.lst)):=by
 have hv:ze i (ρ.set i (some (.val (.lst (zs.map PV.lst)))))=.ok (.lst (zs.map PV.lst)):=by
  unfold ze;rw [List.getElem?_set,if_pos rfl,if_pos hi]
 rw [yf (l:=zs) (q:=PV.lst) (h:=PV.lst)]
 ·simp only [Yu,hv,Res.bind_ok,WC]
 ·lia
 ·intro z hz;have hcap:zV 1 [] (ρ.set i (some (.val (.lst (zs.map PV.lst)))))=[none]:=rfl;rw [hcap];have hl:je [.lst z]=.ok (.lst z):=rfl;simp only [QB,xq,Res.bind_ok,List.set_cons_zero,Yw,Yv,vp,zR,zX,xc,yE,yD,hl,uA]
end Pu
namespace Pu
theorem jMc {α β:Type} {f:α->β} {a:α} {l:List α}:(a::l).map f=f a::l.map f:=rfl
theorem jMn {α β:Type} {f:α->β}:([]:List α).map f=[]:=rfl
theorem jCa {α:Type} {a:α} {l m:List α}:(a::l)++m=a::(l++m):=rfl
theorem jNa {α:Type} {m:List α}:([]:List α)++m=m:=rfl
theorem jLc {α:Type} {a:α} {l:List α}:(a::l).length=l.length+1:=rfl
theorem jLn {α:Type}:([]:List α).length=0:=rfl
theorem jSs {α:Type} {a b:α} {l:List α} {i:Nat}:(a::l).set (i+1) b=a::l.set i b:=rfl
theorem jSz {α:Type} {a b:α} {l:List α}:(a::l).set 0 b=b::l:=rfl
theorem jRb {α β:Type} {a:α} {f:α->Res β}:(Res.ok a).bind f=f a:=(rfl)
end Pu
namespace Dn
open PySem Pu
def xV:Df:=yC 3 (ym (e2 jA (e2 jA (e2 yT (ze 0) (eC (.int 48271))) (ze 1)) (ze 2)))
def zU:Df:=yC 2 (zJ (sIf (yX (e2 ltF (ze 1) (eB vD (zd (ze 0) zj)))) (ym (e2 ixF (ze 0) (ze 1))) wr)
  (ym (eC (.int 0))))
def wy:Df:=yC 1 (ym (e2 eqF (eB xV (zd (e2 yi (eB zU (zd (ze 0) (zd (eC (.int 0)) zj))) (e2 yT (eC (.int 7)) (eB vD (zd (ze 0) zj)))) (zd (eC (.int 9871)) (zd (eC (.int 8)) zj)))) (eC (.int 3))))
def wR:Df:=yC 3 (zJ (yk (eC (.int 6)) (zp 2))
  (zJ (sIf (vP (eB wy (zd (ze 0) zj))) (yk (eC (.int 8)) (zp 2)) wr)
  (zJ (sIf (yX (e2 gtF (eB vD (zd (ze 0) zj)) (eC (.int 63)))) (yk (eC (.int 9)) (zp 2)) wr)
  (ym (e2 yi (eC (.int 1)) (e2 jA (eB zU (zd (ze 0) (zd (ze 1) zj))) (ze 2)))))))
def xX:Df:=yC 2 (ym (eB qX (zd (zC (iR1 (zd (ze 1) zj)) 1 [0] (zp 0) (fun _=>.ok true) (eB xV (zd (e2 yi (ze 1) (e2 yT (e2 yT (eC (.int 17)) (ze 0)) (ze 0))) (zd (eC (.int 9973)) (zd (eC (.int 2)) zj))))) zj)))
def wv:Df:=yC 2 (ym (eB qX (zd (zC (jh (zd (ze 0) (zd (ze 1) zj))) 2 [] (vg 0 1) (fun _=>.ok true) (e2 jA (e2 yi (ze 0) (ze 1)) (eC (.int 2)))) zj)))
def xk:Df:=yC 2 (ym (e2 eqF (e2 jA (eB qP (zd (zC (jh (zd (ze 0) (zd (ze 1) zj))) 2 [] (vg 0 1) (fun _=>.ok true) (e2 yT (ze 0) (ze 1))) zj)) (eC (.int 2))) (eC (.int 0))))
def yG:Df:=yC 3 (zJ (sIf (Yl (vT (vP (eIs LR (ze 0)))) (vP (eIs SG (ze 0)))) (ym (eC (.bl false))) wr)
  (ym (eCh leF leF (ze 1) (ze 0) (ze 2))))
def xF:Df:=yC 1 (ym (eB yG (zd (ze 0) (zd (eC (.int 1)) (zd (eC (.int 10)) zj)))))
def xE:Df:=yC 2 (zJ (sIf (Yl (vT (vP (eB xF (zd (ze 1) zj)))) (Yl (vT (vP (eIs Xs (ze 0)))) (yX (e2 neF (eB vD (zd (ze 0) zj)) (ze 1))))) (ym (eC (.bl false))) wr)
  (ym (eB Vs (zd (zC (yu (ze 0)) 1 [] (zp 0) (fun _=>.ok true) (eB yG (zd (ze 0) (zd (eC (.int 0)) (zd (eC (.int 1)) zj))))) zj))))
def xK:Df:=yC 1 (ym (eB qP (zd (ze 0) zj)))
def wH:Df:=yC 2 (ym (eB qX (zd (zC (jh (zd (ze 0) (zd (ze 1) zj))) 2 [] (vg 0 1) (fun _=>.ok true) (e2 jA (e2 yi (ze 0) (ze 1)) (eC (.int 2)))) zj)))
def uH:Df:=yC 1 (ym (e2 yT (Zu (zd (eC (.int 0)) zj)) (ze 0)))
abbrev scr (ns:List Int):PV:=.lst (ns.map PV.int)
def cell (ns:List Int) (k:Nat):Int:=ns.getD k 0
theorem SJ (a p m:Int) (hp:0<p) (hm:0<m):xV [.int a,.int p,.int m]=.ok (.int (a*48271 % p % m)):=by
 simp [xV,zQ,zH,yz,zN,zP,-List.map_map,hp,hm]
theorem Wz (ns:List Int) (k:Nat):zU [scr ns,.int k]=.ok (.int (cell ns k)):=by
 by_cases h:k<ns.length
 ·have e:=Vp PV.int ns k h;simp [zU,zQ,zH,yz,zN,zP,-List.map_map,scr,h,e,cell]
 ·simp [zU,zQ,zH,yz,zN,zP,-List.map_map,scr,h,cell]
theorem Pc (ns:List Int):zU [scr ns,.int 0]=.ok (.int (cell ns 0)):=Wz ns 0
def ZI (ns:List Int):Bool:=decide ((cell ns 0+7*(ns.length:Int))*48271 % 9871 % 8=3)
theorem Pa (ns:List Int):wy [scr ns]=.ok (.bl (ZI ns)):=by
 have h0:=Pc ns;have h1:=SJ (cell ns 0+7*(ns.length:Int)) 9871 8 (by decide) (by decide);have h2:=EncOk.int.eqF ((cell ns 0+7*(ns.length:Int))*48271 % 9871 % 8) 3;unfold scr at *;simp [wy,zQ,zH,yz,zN,zP,-List.map_map,h0,h1,h2,ZI]
def size (ns:List Int) (at_:Nat):Nat:=(1+cell ns at_ % (if ZI ns then 8 else 6)).toNat
theorem VI (ns:List Int) (k:Nat):1<=size ns k:=by
 unfold size;have:=Int.emod_nonneg (cell ns k) (b:=if ZI ns then 8 else 6) (by split<;>decide)
 lia
theorem JH (ns:List Int) (k:Nat):size ns k<=8:=by
 unfold size;have h:cell ns k % (if ZI ns then 8 else 6)<8:=by
  split
  ·exact Int.emod_lt_of_pos _ (by decide)
  ·exact Int.lt_trans (Int.emod_lt_of_pos _ (by decide)) (by decide)
 lia
theorem TX (ns:List Int) (k:Nat) (h63:ns.length<=63):wR [scr ns,.int k]=.ok (.int (size ns k:Nat)):=by
 have h0:=Wz ns k;have h1:=Pa ns;have hn:¬ (63:Int)<(ns.length:Int):=by lia
 have e:((size ns k:Nat):Int)=1+cell ns k % (if ZI ns then 8 else 6):=by
  unfold size;have:=Int.emod_nonneg (cell ns k) (b:=if ZI ns then 8 else 6) (by split<;>decide)
  lia
 rw [e];unfold scr at *;cases hl:ZI ns<;>rw [hl] at h1<;>simp [wR,zQ,zH,yz,zN,zP,-List.map_map,h0,h1,hn]
def word (c:Int) (n:Nat):Pd.W:=(List.range n).map fun k:Nat=>decide ((c+17*(k:Int)*(k:Int))*48271 % 9973 % 2=1)
theorem Vx (c:Int) (n:Nat):(word c n).length=n:=by simp [word]
theorem ES (x:Int):PV.int (x % 2)=eb (decide (x % 2=1)):=by
 unfold eb
 rcases Int.emod_two_eq x with h | h<;>simp [h]
theorem TU (c:Int) (n:Nat) (hn:n<=1000):xX [.int c,.int n]=.ok (ew (word c n)):=by
 unfold xX;simp only [zQ,zH,yz,zN,zP,-List.map_map,vW,vp,zR];rw [yf (l:=List.range n) (q:=fun k:Nat=>PV.int (k:Int)) (h:=fun k:Nat=>eb (decide ((c+17*(k:Int)*(k:Int))*48271 % 9973 % 2=1)))]
 ·simp [ew,word]
 ·simp [ju (show n<=100000 by lia)]
 ·simp;lia
 ·intro k hk;have hk':k<n:=List.mem_range.mp hk;have h1:=SJ (c+17*(k:Int)*(k:Int)) 9973 2 (by decide) (by decide);have hb : -1000000<(k:Int)/\(k:Int)<1000000:=by lia
  have e1:yT (.int 17) (.int (k:Int))=.ok (.int (17*(k:Int))):=zN (by decide);have e2:yT (.int (17*(k:Int))) (.int (k:Int))=.ok (.int (17*(k:Int)*(k:Int))):=zP hb;simp [zV,e1,e2,h1];exact ES _
theorem Xk (a b:Pd.W):zpL (a.map eb) (b.map eb)=(a.zip b).map fun p=>PV.tup [eb p.1,eb p.2]:=ZU (γ:=Unit) eb eb a b
theorem Lm (x y:Bool):yi (eb x) (eb y)=.ok (.int ((if x then 1 else 0)+(if y then 1 else 0))):=rfl
theorem Ll (x y:Bool):yT (eb x) (eb y)=.ok (eb (x&&y)):=by cases x<;>cases y<;>rfl
theorem Lk (x y:Bool):jA (.int ((if x then 1 else 0)+(if y then 1 else 0))) (.int 2)=.ok (eb (x^^y)):=by cases x<;>cases y<;>rfl
theorem Qy (a b:Pd.W) (h:a.length<=1000):zC (jh (zd (ze 0) (zd (ze 1) zj))) 2 [] (vg 0 1) (fun _=>.ok true) (e2 jA (e2 yi (ze 0) (ze 1)) (eC (.int 2))) (zH 2 [ew a,ew b])=.ok (.lst ((Pd.pl a b).map eb)):=by
 rw [yf (l:=a.zip b) (q:=fun p=>PV.tup [eb p.1,eb p.2]) (h:=fun p=>eb (p.1^^p.2))]
 ·congr 2;rw [Pd.pl,<- List.map_uncurry_zip_eq_zipWith,List.map_map];rfl
 ·simp [zH,ew,Xk]
 ·simp;lia
 ·intro p hp;simp [zV,Lm,Lk]
theorem s_plus (a b:Pd.W) (h:a.length<=1000):wv [ew a,ew b]=.ok (ew (Pd.pl a b)):=by
 have e:=Qy a b h;unfold wv;simp only [zQ,vW,vp,zR,e];simp [ew]
theorem LW (a b:Pd.W) (h:a.length<=1000):wH [ew a,ew b]=.ok (ew (Pd.pl a b)):=s_plus a b h
def ud (lo hi:Int):PV->Bool
 | .int i=>decide (lo<=i)&&decide (i<=hi)
 | _=>false
theorem s_is_number (v:PV) (lo hi:Int):yG [v,.int lo,.int hi]=.ok (.bl (ud lo hi v)):=by
 cases v with
 | int i =>
  by_cases h1:lo<=i
  ·simp [yG,zQ,zH,yz,zN,zP,-List.map_map,ud,h1]
  ·simp [yG,zQ,zH,yz,zN,zP,-List.map_map,ud,h1]
 | _=>simp [yG,zQ,zH,yz,zN,zP,-List.map_map,ud]
def Xg (v:PV):Bool:=ud 1 10 v
theorem s_is_size (v:PV):xF [v]=.ok (.bl (Xg v)):=by
 simp [xF,zQ,zH,yz,zN,zP,-List.map_map,s_is_number,Xg]
def UD (v s:PV):Bool:=match v,s with
 | .tup xs,.int n=>Xg (.int n)&&decide ((xs.length:Int)=n)&&xs.all (ud 0 1)
 | _,_=>false
theorem s_is_word (v s:PV) (hv:∀ xs,v=.tup xs->xs.length<=1000):xE [v,s]=.ok (.bl (UD v s)):=by
 unfold xE;cases hs:Xg s with
 | false =>
  have e:UD v s=false:=by unfold UD;split<;>simp_all
  simp [zQ,zH,yz,zN,zP,-List.map_map,s_is_size,hs,e]
 | true =>
  cases s with
  | int n =>
   cases v with
   | tup xs =>
    have hl:=hv xs rfl;have hne:=EncOk.int.neF (xs.length:Int) n
    by_cases h:(xs.length:Int)=n
    ·rw [h] at hne;have hc:zC (yu (ze 0)) 1 [] (zp 0) (fun _=>.ok true) (eB yG (zd (ze 0) (zd (eC (.int 0)) (zd (eC (.int 1)) zj)))) [some (Sl.val (PV.tup xs)),some (Sl.val (PV.int n))]=.ok (.lst ((xs.map (ud 0 1)).map PV.bl)):=by
      rw [yf (l:=xs) (q:=id) (h:=fun x=>PV.bl (ud 0 1 x))]
      ·simp [List.map_map]
      ·simp
      ·lia
      ·intro x hx;simp [zV,s_is_number]
     simp [zQ,zH,yz,zN,zP,-List.map_map,s_is_size,hs,h,hne,hc,Vq,UD,-List.map_map,List.all_map]
    ·have h':decide ((xs.length:Int)=n)=false:=by simpa using h
     simp [zQ,zH,yz,zN,zP,-List.map_map,s_is_size,hs,hne,h',UD]
   | _=>simp [zQ,zH,yz,zN,zP,-List.map_map,s_is_size,hs,UD]
  | _=>simp [Xg,ud] at hs
theorem Bz (w:Pd.W):(w.map eb).all (ud 0 1)=true:=by
 rw [List.all_eq_true];intro v hv;obtain ⟨b,_,rfl⟩:=List.mem_map.mp hv;cases b<;>rfl
theorem Km (w:Pd.W) (n:Nat) (h:w.length=n) (h1:1<=n) (h2:n<=10):UD (ew w) (.int n)=true:=by
 simp only [UD,ew,Bz,Xg,ud,List.length_map,h,Bool.and_true,decide_true];simp;lia
def cnt (w:Pd.W):Nat:=w.count true
theorem UX (w:Pd.W):(w.map fun b=>if b then (1:Int) else 0).sum=(cnt w:Nat):=by
 induction w with
 | nil=>rfl
 | cons b w ih=>cases b<;>simp [cnt,List.count_cons] at*<;> lia
theorem Kt (w:Pd.W):w.map eb=(w.map fun b=>if b then (1:Int) else 0).map PV.int:=by
 rw [List.map_map];rfl
theorem TK (w:Pd.W):qP [ew w]=.ok (.int (cnt w:Nat)):=by
 unfold ew;rw [Kt,KT,UX]
theorem VD (w:Pd.W):qP [.lst (w.map eb)]=.ok (.int (cnt w:Nat)):=by
 rw [Kt,VC,UX]
theorem s_weight (w:Pd.W):xK [ew w]=.ok (.int (cnt w:Nat)):=by
 simp [xK,zQ,zH,yz,zN,zP,-List.map_map,TK]
theorem ZE:∀ a b:Pd.W,(cnt ((a.zip b).map fun p=>p.1&&p.2)) % 2=if Pd.ip a b then 1 else 0
 | [],b=>by cases b<;>rfl
 | _::_,[]=>by rfl
 | x::a,y::b=>by
  have ih:=ZE a b;have e:cnt (((x::a).zip (y::b)).map fun p=>p.1&&p.2)=cnt ((a.zip b).map fun p=>p.1&&p.2)+if (x&&y) then 1 else 0:=by
   rw [List.zip_cons_cons,List.map_cons];unfold cnt;rw [List.count_cons];cases x<;>cases y<;>rfl
  rw [e,Pd.ip];cases hxy:(x&&y)<;>cases hi:Pd.ip a b<;>rw [hi] at ih<;>simp at ih ⊢<;>lia
theorem PZ (a b:Pd.W):eqF (.int (((cnt ((a.zip b).map fun p=>p.1&&p.2):Nat):Int) % 2)) (.int 0)=.ok (.bl (!Pd.ip a b)):=by
 have h2:=EncOk.int.eqF (((cnt ((a.zip b).map fun p=>p.1&&p.2):Nat):Int) % 2) 0
 have h3:=ZE a b;have h4:decide ((((cnt ((a.zip b).map fun p=>p.1&&p.2):Nat):Int) % 2)=0)=!Pd.ip a b:=by
  cases hi:Pd.ip a b<;>rw [hi] at h3
  ·simp only [Bool.false_eq_true,if_false] at h3;rw [decide_eq_true (by lia)];rfl
  ·simp only [if_true] at h3;rw [decide_eq_false (by lia)];rfl
 rw [h4] at h2;exact h2
theorem Ra (a b:Pd.W) (h:a.length<=1000):xk [ew a,ew b]=.ok (.bl (!Pd.ip a b)):=by
 have hc:zC (jh (zd (ze 0) (zd (ze 1) zj))) 2 [] (vg 0 1) (fun _=>.ok true) (e2 yT (ze 0) (ze 1)) [some (Sl.val (ew a)),some (Sl.val (ew b))]=.ok (.lst (((a.zip b).map fun p=>p.1&&p.2).map eb)):=by
  rw [yf (l:=a.zip b) (q:=fun p=>PV.tup [eb p.1,eb p.2]) (h:=fun p=>eb (p.1&&p.2))]
  ·rw [List.map_map];rfl
  ·simp [ew,Xk]
  ·simp;lia
  ·intro p hp;simp [zV,Ll]
 simp [xk,zQ,zH,yz,zN,zP,-List.map_map,hc,VD,PZ]
theorem UK {α:Type} (n:Nat) (x:α):(List.replicate n [x]).flatten=List.replicate n x:=by
 induction n with
 | zero=>rfl
 | succ n ih=>rw [List.replicate_succ,List.replicate_succ,List.flatten_cons,ih];rfl
theorem Kg (n:Nat) (h:n<=1000):yT (.tup [.int 0]) (.int (n:Int))=.ok (ew (Pd.zr n)):=by
 rw [Rj (by simp;lia) (by lia),UK];simp [ew,Pd.zr,eb]
theorem s_none (n:Nat) (h:n<=1000):uH [.int n]=.ok (ew (Pd.zr n)):=by
 simp [uH,zQ,zH,yz,zN,zP,-List.map_map,Kg n h]
def UM (x:Int) (m:Nat):Nat:=(x % (m:Int)).toNat
theorem Bd (x:Int) {m:Nat} (h:0<m):UM x m<m:=by
 unfold UM;have h1:=Int.emod_nonneg x (b:=(m:Int)) (by lia);have h2:=Int.emod_lt_of_pos x (b:=(m:Int)) (by lia)
 lia
theorem Be (x:Int) {m:Nat} (h:0<m):x % (m:Int)=(UM x m:Nat):=by
 unfold UM;have h1:=Int.emod_nonneg x (b:=(m:Int)) (by lia)
 lia
theorem uM (vs:List PV) (i:Nat) (h:i<vs.length):atF vs (i:Int)=.ok vs[i]:=by
 have:=Vp id vs i h;simpa using this
def wx:Df:=yC 4 (zJ (yk (e2 jA (e2 Vh (eB zU (zd (ze 0) (zd (ze 1) zj))) (eC (.int 7))) (e2 yi (ze 2) (eC (.int 1)))) (zp 3))
  (ym (zC (iR1 (zd (ze 3) zj)) 1 [0,1,2] (zp 0) (fun _=>.ok true) (eB xX (zd (e2 yi (eB zU (zd (ze 1) (zd (e2 yi (e2 yi (ze 2) (eC (.int 1))) (ze 0)) zj))) (e2 yT (e2 yT (eC (.int 31)) (ze 0)) (ze 0))) (zd (ze 3) zj))))))
def xm:Df:=yC 4 (zJ (yk (ql (zd (e2 yT (Zu (zd (eC (.int 0)) zj)) (ze 0)) zj)) (zp 2))
  (zJ (uw (yu (ze 1)) (zp 3) (sIf (yX (e2 uN (ze 3) (ze 2))) (yk (e2 yi (ze 2) (zC (yu (ze 2)) 1 [3] (zp 0) (fun _=>.ok true) (eB wH (zd (ze 0) (zd (ze 1) zj))))) (zp 2)) wr))
  (ym (Ji (ze 2)))))
def zW:Df:=yC 1 (ym (e2 xS (ze 0) (eC (.int 1))))
def vn:Df:=yC 3 (zJ (uw (yu (ze 0)) (zp 2) (sIf (yX (e2 eqF (e2 ixF (ze 1) (eB zW (zd (ze 2) zj))) (eC (.int 1)))) (yk (eB wv (zd (ze 1) (zd (ze 2) zj))) (zp 1)) wr))
  (ym (ze 1)))
def xA:Df:=yC 5 (zJ (yk (eB vn (zd (ze 0) (zd (ze 1) zj))) (zp 2))
  (zJ (sIf (yX (e2 uN (eC (.int 1)) (ze 2))) (ym (ze 0)) wr)
  (zJ (yk (eB zW (zd (ze 2) zj)) (zp 3))
  (zJ (yk (zC (yu (ze 0)) 1 [3,2] (zp 0) (fun _=>.ok true) (eIf (yX (e2 eqF (e2 ixF (ze 0) (ze 1)) (eC (.int 1)))) (eB wv (zd (ze 0) (zd (ze 2) zj))) (ze 0))) (zp 4))
  (ym (Kw (e2 yi (ze 4) (ql (zd (ze 2) zj)))))))))
def uI:Df:=yC 5 (zJ (sIf (Yl (vT (vP (eB xF (zd (ze 0) zj)))) (Yl (vT (vP (eIs SE (ze 1)))) (yX (e2 gtF (eB vD (zd (ze 1) zj)) (eC (.int 20)))))) MF wr)
  (zJ (uw (Ko (ze 1)) (vg 2 3) (sIf (vT (vP (eB xE (zd (ze 3) (zd (ze 0) zj))))) MF wr))
  (zJ (yk (ql zj) (zp 4))
  (zJ (uw (yu (ze 1)) (zp 3) (yk (eB xA (zd (ze 4) (zd (ze 3) zj))) (zp 4)))
  (ym (Zu (zd (ze 0) (zd (eB qX (zd (ze 4) zj)) zj))))))))
def xY:Df:=yC 9 (zJ (yk (eB vD (zd (e2 ixF (ze 0) (eC (.int 0))) zj)) (zp 1))
  (zJ (JL 2 zj)
  (zJ (uw (iR1 (zd (ze 1) zj)) (zp 3) (zJ (yk (zC (yu (ze 0)) 1 [3] (zp 0) (Vz (yX (e2 inF (eC (.int 1)) (ze 0))) (yX (e2 eqF (e2 xS (ze 0) (eC (.int 1))) (ze 1)))) (ze 0)) (zp 4))
  (sIf (vP (ze 4)) (VU 2 (e2 ixF (ze 4) (eC (.int 0)))) wr)))
  (zJ (Gf 2) (zJ (yk (zC (yu (ze 2)) 1 [] (zp 0) (fun _=>.ok true) (e2 xS (ze 0) (eC (.int 1)))) (zp 5))
  (zJ (JL 6 zj)
  (zJ (uw (iR1 (zd (eB vD (zd (ze 2) zj)) zj)) (zp 7) (uw (yu (ze 0)) (zp 8) (sIf (yX (e2 eqF (zC (yu (ze 5)) 1 [8] (zp 0) (fun _=>.ok true) (e2 ixF (ze 1) (ze 0))) (zC (iR1 (zd (eB vD (zd (ze 2) zj)) zj)) 1 [7] (zp 0) (fun _=>.ok true) (eB Xi (zd (e2 eqF (ze 0) (ze 1)) zj))))) (VU 6 (ze 8)) wr)))
  (zJ (Gf 6) (ym (Zu (zd (ze 1) (zd (eB qX (zd (ze 6) zj)) zj))))))))))))
abbrev ewl (ws:List Pd.W):PV:=.lst (ws.map ew)
abbrev ewt (ws:List Pd.W):PV:=.tup (ws.map ew)
def bi (b:Bool):Int:=if b then 1 else 0
theorem qk (w:Pd.W):ew w=tpv (w.map bi):=by
 unfold ew tpv;rw [List.map_map];rfl
theorem Vc:∀ a b:Pd.W,PuS.llt (a.map bi) (b.map bi)=Pd.wlt a b
 | [],[]=>rfl
 | [],_::_=>rfl
 | _::_,[]=>rfl
 | x::a,y::b=>by
  have ih:=Vc a b;simp only [jMc,PuS.llt,Pd.wlt,ih];cases x<;>cases y<;>simp [bi]
theorem Bv {a b:Pd.W} (h:a.map bi=b.map bi):a=b:=by
 have:∀ a b:Pd.W,a.map bi=b.map bi->a=b:=by
  intro a
  induction a with
  | nil=>intro b h;cases b;rfl;simp at h
  | cons x a ih =>
   intro b h;cases b with
   | nil=>simp at h
   | cons y b =>
    simp only [jMc,List.cons.injEq] at h;rw [ih b h.2];congr 1;cases x<;>cases y<;>simp [bi] at h<;>rfl
 exact this a b h
theorem Mq (l:List Pd.W) (hl:l.length<=2000) (hne:∀ w∈l,w≠[]):uq false (ewl l)=.ok (ewl (Pd.srt l)):=by
 have e1:l.map ew=(l.map fun w=>w.map bi).map tpv:=by rw [List.map_map];exact List.map_congr_left fun w _=>qk w
 have e2:we (l.map ew)=some (l.map fun w=>w.map bi):=by
  rw [e1];refine Yk fun ns hns=>?_
  obtain ⟨w,hw,rfl⟩:=List.mem_map.mp hns;simpa using hne w hw
 have e3:wo false (l.map fun w=>w.map bi)=(Pd.srt l).map fun w=>w.map bi:=by
  refine (wm ((Pd.srt_perm l).map _) ?_).symm;rw [List.pairwise_map];refine (Pd.srt_ord l).imp fun {a b} h=>?_
  simp only [ub,Bool.false_eq_true,if_false,lle,Vc];exact h
 simp only [uq,e2,qR,jRb,List.length_map];rw [if_pos (by lia),e3,List.map_map];congr 2;exact List.map_congr_left fun w _=>(qk w).symm
theorem BN (l:List Pd.W) (hl:l.length<=2000) (hne:∀ w∈l,w≠[]):uq true (ewl l)=.ok (ewl (Pd.srtD l)):=by
 have e1:l.map ew=(l.map fun w=>w.map bi).map tpv:=by rw [List.map_map];exact List.map_congr_left fun w _=>qk w
 have e2:we (l.map ew)=some (l.map fun w=>w.map bi):=by
  rw [e1];refine Yk fun ns hns=>?_
  obtain ⟨w,hw,rfl⟩:=List.mem_map.mp hns;simpa using hne w hw
 have e3:wo true (l.map fun w=>w.map bi)=(Pd.srtD l).map fun w=>w.map bi:=by
  refine (wm ((Pd.srtD_perm l).map _) ?_).symm;rw [List.pairwise_map];refine (Pd.srtD_ord l).imp fun {a b} h=>?_
  simp only [ub,if_true,lle,Vc];exact h
 simp only [uq,e2,qR,jRb,List.length_map];rw [if_pos (by lia),e3,List.map_map];congr 2;exact List.map_congr_left fun w _=>(qk w).symm
theorem wJ {n:Nat} (h1:1<=n) {w:Pd.W} (h:w.length=n):w≠[]:=by rintro rfl;simp at h;lia
def Ux (ns:List Int) (at_ n:Nat):Nat:=UM (cell ns at_/7) (n+1)
def lws (ns:List Int) (at_ n:Nat):List Pd.W:=(List.range (Ux ns at_ n)).map fun k:Nat=>word (cell ns (at_+1+k)+31*(k:Int)*(k:Int)) n
theorem Vb (ns:List Int) (at_ n:Nat):Pd.All n (lws ns at_ n):=fun w hw=>by
 obtain ⟨k,_,rfl⟩:=List.mem_map.mp hw;exact Vx _ _
theorem BX (ns:List Int) (at_ n:Nat) (hn:n<=10):wx [scr ns,.int at_,.int n]=.ok (ewl (lws ns at_ n)):=by
 have c0:=Wz ns at_;have e1:Vh (.int (cell ns at_)) (.int 7)=.ok (.int (cell ns at_/7)):=SL (by decide) (by decide);have g2:jA (.int (cell ns at_/7)) (.int ((n:Int)+1))=.ok (.int (Ux ns at_ n:Nat)):=by
  rw [yz (by lia)];have:=Be (cell ns at_/7) (m:=n+1) (by lia);exact congrArg (fun x=>Res.ok (PV.int x)) this
 have hm:=Bd (cell ns at_/7) (m:=n+1) (by lia);have hm':Ux ns at_ n<=10:=by unfold Ux;lia
 have hc:zC (iR1 (zd (ze 3) zj)) 1 [0,1,2] (zp 0) (fun _=>.ok true) (eB xX (zd (e2 yi (eB zU (zd (ze 1) (zd (e2 yi (e2 yi (ze 2) (eC (.int 1))) (ze 0)) zj))) (e2 yT (e2 yT (eC (.int 31)) (ze 0)) (ze 0))) (zd (ze 3) zj)))
   [some (Sl.val (scr ns)),some (Sl.val (.int (at_:Int))),some (Sl.val (.int (n:Int))),some (Sl.val (.int (Ux ns at_ n:Nat)))]=.ok (ewl (lws ns at_ n)):=by
  rw [yf (l:=List.range (Ux ns at_ n)) (q:=fun k:Nat=>PV.int (k:Int)) (h:=fun k:Nat=>ew (word (cell ns (at_+1+k)+31*(k:Int)*(k:Int)) n))]
  ·unfold ewl lws;rw [List.map_map];rfl
  ·simp [ju (show Ux ns at_ n<=100000 by lia)]
  ·simp;lia
  ·intro k hk;have hk':k<Ux ns at_ n:=List.mem_range.mp hk;have hb : -1000000<(k:Int)/\(k:Int)<1000000:=by lia
   have f1:yT (.int 31) (.int (k:Int))=.ok (.int (31*(k:Int))):=zN (by decide);have f2:yT (.int (31*(k:Int))) (.int (k:Int))=.ok (.int (31*(k:Int)*(k:Int))):=zP hb;have f3:zU [scr ns,.int ((at_:Int)+1+(k:Int))]=.ok (.int (cell ns (at_+1+k))):=Wz ns (at_+1+k);have f4:=TU (cell ns (at_+1+k)+31*(k:Int)*(k:Int)) n (by lia);simp [zV,f1,f2,f3,f4]
 simp [wx,zQ,zH,yz,zN,zP,-List.map_map,c0,e1,g2,hc]
theorem XF {n:Nat} {l:List Pd.W} (nd:l.Nodup) (ha:Pd.All n l):l.length<=2 ^ n:=by
 rw [<- Pd.aw_length n];have p:l.Perm ((Pd.aw n).filter fun w=>decide (w∈l)):=Pd.perm_of_mem nd ((Pd.aw_nodup n).filter _) fun w=>by
  rw [List.mem_filter,decide_eq_true_eq];exact ⟨fun h=>⟨Pd.mem_aw.mpr (ha w h),h⟩,fun h=>h.2⟩
 rw [p.length_eq];exact List.length_filter_le _ _
theorem QE {n:Nat} (h:n<=10):2 ^ n<=1024:=by
 have:=Nat.pow_le_pow_right (n:=2) (by decide) h;simpa using this
theorem Xt (n:Nat) (us:List Pd.W) (w:Pd.W):Pd.sums n (us++[w])=if w∈Pd.sums n us then Pd.sums n us else Pd.sums n us++(Pd.sums n us).map fun x=>Pd.pl x w:=by
 unfold Pd.sums;rw [List.foldl_append];rfl
theorem wg {n:Nat} {ws:List Pd.W} (ha:Pd.All n ws):Pd.All n (Pd.sums n ws):=fun v hv=>(((Pd.sums_all ha).2 v).mp hv).length ha
theorem uo {n:Nat} (h2:n<=10) {ws:List Pd.W} (ha:Pd.All n ws):(Pd.sums n ws).length<=1024 :=
 Nat.le_trans (XF (Pd.sums_all ha).1 (wg ha)) (QE h2)
theorem Qx (n:Nat) (h1:1<=n) (h2:n<=10) (ws:List Pd.W) (ha:Pd.All n ws) (V:PV) (hV:vC V=.ok (ws.map ew)):xm [.int n,V]=.ok (ewl (Pd.sprd n ws)):=by
 have hn:=Kg n (by lia);have loop:∃ ρ',jj (zp 3) (sIf (yX (e2 uN (ze 3) (ze 2))) (yk (e2 yi (ze 2) (zC (yu (ze 2)) 1 [3] (zp 0) (fun _=>.ok true) (eB wH (zd (ze 0) (zd (ze 1) zj))))) (zp 2)) wr)
   [some (Sl.val (.int (n:Int))),some (Sl.val V),some (Sl.val (.lst [ew (Pd.zr n)])),none] (ws.map ew)=.ok (.nx ρ')/\∃ g,ρ'=[some (Sl.val (.int (n:Int))),some (Sl.val V),some (Sl.val (ewl (Pd.sums n ws))),g]:=by
  refine yO (fun done ρ=>∃ g,ρ=[some (Sl.val (.int (n:Int))),some (Sl.val V),some (Sl.val (ewl (Pd.sums n done))),g]) ?_ ⟨none,rfl⟩
  rintro done w rest ρ e ⟨g,rfl⟩;have hd:Pd.All n done:=fun x hx=>ha x (by rw [e];simp [hx])
  have hw:w.length=n:=ha w (by rw [e];simp);have hb:=uo h2 hd;have hin:=EncOk.ew.ninL w (Pd.sums n done);rw [Xt]
  by_cases hm:w∈Pd.sums n done
  ·rw [if_pos hm];simp only [hm,decide_true,Bool.not_true] at hin;simp [hin]
  ·rw [if_neg hm];simp only [hm,decide_false,Bool.not_false] at hin;have hc:zC (yu (ze 2)) 1 [3] (zp 0) (fun _=>.ok true) (eB wH (zd (ze 0) (zd (ze 1) zj))) [some (Sl.val (.int (n:Int))),some (Sl.val V),some (Sl.val (ewl (Pd.sums n done))),some (Sl.val (ew w))]=.ok (ewl ((Pd.sums n done).map fun x=>Pd.pl x w)):=by
    rw [yf (l:=Pd.sums n done) (q:=ew) (h:=fun x=>ew (Pd.pl x w))]
    ·unfold ewl;rw [List.map_map];rfl
    ·simp
    ·lia
    ·intro x hx;have:=LW x w (by rw [wg hd x hx];lia);simp [zV,this]
   have hadd:yi (ewl (Pd.sums n done)) (ewl ((Pd.sums n done).map fun x=>Pd.pl x w))=.ok (ewl (Pd.sums n done++(Pd.sums n done).map fun x=>Pd.pl x w)):=by
    have:=jc (vs:=(Pd.sums n done).map ew) (us:=((Pd.sums n done).map fun x=>Pd.pl x w).map ew) (by simp;lia)
    rw [<- List.map_append] at this;exact this
   unfold ewl at *;simp [hin,hc,hadd,-List.map_map,-List.map_append]
 obtain ⟨ρ',e1,g,rfl⟩:=loop;have hs:=Mq (Pd.sums n ws) (by have:=uo h2 ha;lia) fun w hw=>wJ h1 (wg ha w hw)
 simp [xm,zQ,zH,yz,zN,zP,-List.map_map,hn,hV,e1,hs,Pd.sprd]
theorem MB (n:Nat) (h1:1<=n) (h2:n<=10) (ws:List Pd.W) (ha:Pd.All n ws):xm [.int n,ewl ws]=.ok (ewl (Pd.sprd n ws)):=Qx n h1 h2 ws ha _ rfl
theorem Ys (w:Pd.W) (h:true∈w):zW [ew w]=.ok (.int (Pd.hd w:Nat)):=by
 have:=Je w h;simp [zW,zQ,zH,yz,zN,zP,-List.map_map,this]
theorem eq1 (b:Bool):eqF (eb b) (.int 1)=.ok (.bl b):=by cases b<;>rfl
theorem MC (n:Nat) (h2:n<=10) (rows:List Pd.W) (ha:Pd.All n rows) (ho:∀ r∈rows,true∈r) (w:Pd.W) (hw:w.length=n) (V:PV) (hV:vC V=.ok (rows.map ew)):vn [V,ew w]=.ok (ew (Pd.rest rows w)):=by
 have loop:∃ ρ',jj (zp 2) (sIf (yX (e2 eqF (e2 ixF (ze 1) (eB zW (zd (ze 2) zj))) (eC (.int 1)))) (yk (eB wv (zd (ze 1) (zd (ze 2) zj))) (zp 1)) wr)
   [some (Sl.val V),some (Sl.val (ew w)),none] (rows.map ew)=.ok (.nx ρ')/\∃ g,ρ'=[some (Sl.val V),some (Sl.val (ew (Pd.rest rows w))),g]:=by
  refine yO (fun done ρ=>∃ g,ρ=[some (Sl.val V),some (Sl.val (ew (Pd.rest done w))),g]) ?_ ⟨none,rfl⟩
  rintro done r rest ρ e ⟨g,rfl⟩;have hd:Pd.All n done:=fun x hx=>ha x (by rw [e];simp [hx])
  have hr:r.length=n:=ha r (by rw [e];simp);have h1:true∈r:=ho r (by rw [e];simp);have hl:=Pd.rest_length hd hw;have e1:=Ys r h1;have e2:=ixT (Pd.rest done w) (Pd.hd r) (by rw [hl,<- hr];exact Pd.hd_lt h1);have e3:=s_plus (Pd.rest done w) r (by rw [hl];lia);have e4:Pd.rest (done++[r]) w=Pd.stp (Pd.rest done w) r:=by unfold Pd.rest;rw [List.foldl_append];rfl
  rw [e4];unfold Pd.stp;have e5:=eq1 (Pd.bt (Pd.rest done w) (Pd.hd r));cases hb:Pd.bt (Pd.rest done w) (Pd.hd r) with
  | true=>rw [hb] at e2 e5;simp [e1,e2,e3,e5]
  | false=>rw [hb] at e2 e5;simp [e1,e2,e3,e5]
 obtain ⟨ρ',e1,g,rfl⟩:=loop;simp [vn,zQ,zH,yz,zN,zP,-List.map_map,hV,e1]
theorem TZ (n:Nat) (h2:n<=10) (rows:List Pd.W) (ha:Pd.All n rows) (ho:∀ r∈rows,true∈r) (w:Pd.W) (hw:w.length=n):vn [ewl rows,ew w]=.ok (ew (Pd.rest rows w)):=MC n h2 rows ha ho w hw _ rfl
theorem TV (n:Nat) (h1:1<=n) (h2:n<=10) (rows:List Pd.W) (hR:Pd.Rows n rows) (hl:rows.length<=1000) (w:Pd.W) (hw:w.length=n):xA [ewl rows,ew w]=.ok (ewl (Pd.ww rows w)):=by
 have e1:=TZ n h2 rows hR.len hR.one w hw;have hrl:=Pd.rest_length hR.len hw;have hni:=AA (Pd.rest rows w)
 by_cases hm:true∈Pd.rest rows w
 ·have e2:=Ys _ hm;simp only [hm,decide_true,Bool.not_true] at hni;have hc:zC (yu (ze 0)) 1 [3,2] (zp 0) (fun _=>.ok true) (eIf (yX (Pu.e2 eqF (Pu.e2 ixF (ze 0) (ze 1)) (eC (.int 1)))) (eB wv (zd (ze 0) (zd (ze 2) zj))) (ze 0))
    [some (Sl.val (ewl rows)),some (Sl.val (ew w)),some (Sl.val (ew (Pd.rest rows w))),some (Sl.val (.int (Pd.hd (Pd.rest rows w):Nat))),none]=.ok (ewl (rows.map (Pd.clr (Pd.rest rows w)))):=by
   rw [yf (l:=rows) (q:=ew) (h:=fun x=>ew (Pd.clr (Pd.rest rows w) x))]
   ·unfold ewl;rw [List.map_map];rfl
   ·simp
   ·lia
   ·intro x hx;have hxl:=hR.len x hx;have e3:=ixT x (Pd.hd (Pd.rest rows w)) (by rw [hxl,<- hrl];exact Pd.hd_lt hm);have e4:=s_plus x (Pd.rest rows w) (by lia);have e5:=eq1 (Pd.bt x (Pd.hd (Pd.rest rows w)));unfold Pd.clr;cases hb:Pd.bt x (Pd.hd (Pd.rest rows w)) with
    | true=>rw [hb] at e3 e5;simp [zV,e3,e4,e5]
    | false=>rw [hb] at e3 e5;simp [zV,e3,e4,e5]
  have hadd:yi (ewl (rows.map (Pd.clr (Pd.rest rows w)))) (.lst [ew (Pd.rest rows w)])=.ok (ewl (rows.map (Pd.clr (Pd.rest rows w))++[Pd.rest rows w])):=by
   have:=jc (vs:=(rows.map (Pd.clr (Pd.rest rows w))).map ew) (us:=[ew (Pd.rest rows w)]) (by simp;lia);rw [this];unfold ewl;rw [List.map_append];rfl
  have hs:=BN (rows.map (Pd.clr (Pd.rest rows w))++[Pd.rest rows w]) (by simp;lia) fun x hx=>by
   rcases List.mem_append.mp hx with hx | hx
   ·obtain ⟨y,hy,rfl⟩:=List.mem_map.mp hx;exact wJ h1 (Pd.clr_length hrl (hR.len y hy))
   ·rw [List.mem_singleton.mp hx];exact wJ h1 hrl
  have e6:Pd.ww rows w=Pd.srtD (rows.map (Pd.clr (Pd.rest rows w))++[Pd.rest rows w]):=by unfold Pd.ww;rw [if_pos hm]
  rw [e6];unfold ewl at *;simp [xA,zQ,zH,yz,zN,zP,-List.map_map,e1,hni,e2,hc,hadd,hs,-List.map_append]
 ·simp only [hm,decide_false,Bool.not_false] at hni;have e6:Pd.ww rows w=rows:=by unfold Pd.ww;rw [if_neg hm]
  rw [e6];simp [xA,zQ,zH,yz,zN,zP,-List.map_map,e1,hni]
theorem vV {n:Nat} {rows:List Pd.W} (h:Pd.Rows n rows):rows.length<=n:=by
 have nd:(rows.map Pd.hd).Nodup:=Pd.nodup_map_on h.nodup fun x hx y hy e=>h.inj hx hy e
 have p:(rows.map Pd.hd).Perm ((List.range n).filter fun k=>decide (k∈rows.map Pd.hd)):=Pd.perm_of_mem nd (List.nodup_range.filter _) fun k=>by
  rw [List.mem_filter,decide_eq_true_eq,List.mem_range];refine ⟨fun hk=>⟨?_,hk⟩,fun hk=>hk.2⟩
  obtain ⟨r,hr,rfl⟩:=List.mem_map.mp hk;have:=Pd.hd_lt (h.one r hr);rw [h.len r hr] at this;exact this
 have:=p.length_eq;rw [List.length_map] at this;rw [this];exact Nat.le_trans (List.length_filter_le _ _) (by simp)
theorem PL (us:List Pd.W) (w:Pd.W):Pd.mk (us++[w])=Pd.ww (Pd.mk us) w:=by unfold Pd.mk;rw [List.foldl_append];rfl
abbrev edk (n:Nat) (rows:List Pd.W):PV:=.tup [.int (n:Int),ewt rows]
theorem s_made (n:Nat) (h1:1<=n) (h2:n<=10) (ws:List Pd.W) (ha:Pd.All n ws) (hl:ws.length<=20):uI [.int n,ewl ws]=.ok (edk n (Pd.mk ws)):=by
 have hsz:Xg (.int (n:Int))=true:=by simp [Xg,ud];lia
 have hln:¬ (20:Int)<(ws.length:Int):=by lia
 have loop1:∃ ρ',jj (vg 2 3) (sIf (vT (vP (eB xE (zd (ze 3) (zd (ze 0) zj))))) MF wr) [some (Sl.val (.int (n:Int))),some (Sl.val (ewl ws)),none,none,none] (ue 0 (ws.map ew))=.ok (.nx ρ')/\∃ g1 g2,ρ'=[some (Sl.val (.int (n:Int))),some (Sl.val (ewl ws)),g1,g2,none]:=by
  rw [Zt];refine yO (fun done ρ=>∃ g1 g2,ρ=[some (Sl.val (.int (n:Int))),some (Sl.val (ewl ws)),g1,g2,none]) ?_ ⟨none,none,rfl⟩
  rintro done p rest ρ e ⟨g1,g2,rfl⟩;have hp:p.1∈ws:=by
   have:p∈ws.zipIdx 0:=by rw [e];simp
   exact List.fst_mem_of_mem_zipIdx this
  have hk:=s_is_word (ew p.1) (.int (n:Int)) (fun xs h=>by cases h;simp [ha p.1 hp];lia)
  rw [Km p.1 n (ha p.1 hp) h1 h2] at hk;simp [hk]
 obtain ⟨ρ1,l1,g1,g2,rfl⟩:=loop1;have loop2:∃ ρ',jj (zp 3) (yk (eB xA (zd (ze 4) (zd (ze 3) zj))) (zp 4)) [some (Sl.val (.int (n:Int))),some (Sl.val (ewl ws)),g1,g2,some (Sl.val (.lst []))] (ws.map ew)=.ok (.nx ρ')/\∃ g3,ρ'=[some (Sl.val (.int (n:Int))),some (Sl.val (ewl ws)),g1,g3,some (Sl.val (ewl (Pd.mk ws)))]:=by
  refine yO (fun done ρ=>∃ g3,ρ=[some (Sl.val (.int (n:Int))),some (Sl.val (ewl ws)),g1,g3,some (Sl.val (ewl (Pd.mk done)))]) ?_ ⟨g2,rfl⟩
  rintro done w rest ρ e ⟨g3,rfl⟩;have hd:Pd.All n done:=fun x hx=>ha x (by rw [e];simp [hx])
  have hw:w.length=n:=ha w (by rw [e];simp);have hR:=(Pd.mk_all hd).1;have:=TV n h1 h2 (Pd.mk done) hR (by have:=vV hR;lia) w hw;rw [PL];simp [this]
 obtain ⟨ρ2,l2,g3,rfl⟩:=loop2;simp [uI,zQ,zH,yz,zN,zP,-List.map_map,s_is_size,hsz,hln,l1,l2]
def Ju (S:List Pd.W) (p:Nat):List Pd.W:=S.filter fun w=>decide (true∈w)&&decide (Pd.hd w=p)
def frs (S:List Pd.W) (p:Nat):List Pd.W:=(Ju S p).take 1
def yW (n:Nat) (S:List Pd.W):List Pd.W:=(List.range n).flatMap fun p=>frs S p
theorem Li {S:List Pd.W} {p:Nat}:(frs S p).map Pd.hd=if (Ju S p).isEmpty then [] else [p]:=by
 unfold frs;cases h:Ju S p with
 | nil=>rfl
 | cons w l =>
  have:w∈Ju S p:=by rw [h];exact jC
  have:=(List.mem_filter.mp this).2;simp at this;simp [this.2]
theorem ZL (f:Nat->Bool):∀ l:List Nat,(l.flatMap fun p=>if f p then [] else [p])=l.filter fun p=>!f p
 | []=>rfl
 | p::l=>by
  rw [List.flatMap_cons,ZL f l,List.filter_cons];cases f p<;>rfl
theorem XQ (n:Nat) (S:List Pd.W):(yW n S).map Pd.hd=Pd.hds n S:=by
 unfold yW Pd.hds;rw [List.map_flatMap];simp only [Li];exact ZL (fun p=>(Ju S p).isEmpty) (List.range n)
theorem YK (n:Nat) (S:List Pd.W):(yW n S).length=(Pd.hds n S).length:=by rw [<- XQ,List.length_map]
theorem qC (n:Nat) (S:List Pd.W):(Pd.hds n S).length<=n:=by
 unfold Pd.hds;exact Nat.le_trans (List.length_filter_le _ _) (by simp)
theorem Lf {n:Nat} {S:List Pd.W} {p:Nat} (h:p∈Pd.hds n S):p<n:=List.mem_range.mp (List.mem_filter.mp h).1
theorem Jg {n:Nat} {S:List Pd.W} {w:Pd.W} (h:w∈yW n S):true∈w:=by
 obtain ⟨p,_,hw⟩:=List.mem_flatMap.mp h;have:=(List.mem_filter.mp (List.mem_of_mem_take hw)).2;simp at this;exact this.1
def QZ (n:Nat) (S:List Pd.W) (k:Nat):List Pd.W:=S.filter fun w=>decide ((Pd.hds n S).map (Pd.bt w)=(List.range (Pd.hds n S).length).map fun j=>decide (j=k))
theorem NP (i j:Nat):eqF (.int (i:Int)) (.int (j:Int))=.ok (.bl (decide (i=j))):=EncOk.nat.eqF i j
theorem jL {α β:Type} (f:α->List β) (l:List α) (a:α):(l++[a]).flatMap f=l.flatMap f++f a:=by simp
theorem vF {m:Nat} {done:List Nat} {k:Nat} {rest:List Nat} (h:List.range m=done++k::rest):k<m/\done.length<m:=by
 have h1:k∈List.range m:=by rw [h];simp
 have h2:=congrArg List.length h;simp at h2;exact ⟨List.mem_range.mp h1,by lia⟩
theorem wV (x:PV) (l:List PV):atF (x::l) 0=.ok x:=uM (x::l) 0 (by simp)
theorem TY (n:Nat) (h1:1<=n) (h2:n<=10) (S:List Pd.W) (hS:S≠[]) (ha:Pd.All n S) (hz:S.length<=2000) (hrow:∀ k,(QZ n S k).length<=1):xY [ewl S]=.ok (edk n (Pd.lawRows n S)):=by
 obtain ⟨w0,S',e0⟩:∃ w0 S',S=w0::S':=by cases S with | nil=>exact absurd rfl hS | cons a b=>exact ⟨a,b,rfl⟩
 have hw0:w0.length=n:=ha w0 (by rw [e0];exact jC);have i0:atF (S.map ew) 0=.ok (ew w0):=by
  rw [e0];exact wV _ _
 have l0:vD [ew w0]=.ok (.int (n:Nat)):=by unfold ew;simp [hw0]
 have loop1:∃ ρ',jj (zp 3) (zJ (yk (zC (yu (ze 0)) 1 [3] (zp 0) (Vz (yX (e2 inF (eC (.int 1)) (ze 0))) (yX (e2 eqF (e2 xS (ze 0) (eC (.int 1))) (ze 1)))) (ze 0)) (zp 4))
   (sIf (vP (ze 4)) (VU 2 (e2 ixF (ze 4) (eC (.int 0)))) wr)) [some (Sl.val (ewl S)),some (Sl.val (.int (n:Nat))),some (Sl.own []),none,none,none,none,none,none] ((List.range n).map fun k:Nat=>PV.int (k:Int))=.ok (.nx ρ')
   /\ ∃ g3 g4,ρ'=[some (Sl.val (ewl S)),some (Sl.val (.int (n:Nat))),some (Sl.own ((yW n S).map ew)),g3,g4,none,none,none,none]:=by
  refine yO (fun done ρ=>∃ g3 g4,ρ=[some (Sl.val (ewl S)),some (Sl.val (.int (n:Nat))),some (Sl.own ((done.flatMap fun p=>frs S p).map ew)),g3,g4,none,none,none,none]) ?_ ⟨none,none,rfl⟩
  rintro done p rest ρ e ⟨g3,g4,rfl⟩;have hc:zC (yu (ze 0)) 1 [3] (zp 0) (Vz (yX (e2 inF (eC (.int 1)) (ze 0))) (yX (e2 eqF (e2 xS (ze 0) (eC (.int 1))) (ze 1)))) (ze 0)
    [some (Sl.val (ewl S)),some (Sl.val (.int (n:Nat))),some (Sl.own ((done.flatMap fun p=>frs S p).map ew)),some (Sl.val (.int (p:Nat))),g4,none,none,none,none]=.ok (ewl (Ju S p)):=by
   rw [WD (l:=S) (q:=ew) (h:=ew) (p:=fun w=>decide (true∈w)&&decide (Pd.hd w=p))]
   ·rfl
   ·simp
   ·lia
   ·intro w hw;have hi:=in1 w
    by_cases hm:true∈w
    ·have hx:=Je w hm;have he:=NP (Pd.hd w) p;simp only [hm,decide_true] at hi
     by_cases hp:Pd.hd w=p
     ·simp only [hp,decide_true] at he;simp [zV,hi,hx,he,hm,hp]
     ·simp only [hp,decide_false] at he;simp [zV,hi,hx,he,hm,hp]
    ·simp only [hm,decide_false] at hi;simp [zV,hi,hm]
  have hdl:(done.flatMap fun p=>frs S p).length<=n:=by
   have:((done.flatMap fun p=>frs S p).length)<=done.length:=by
    clear hc e
    induction done with
    | nil=>simp
    | cons a l ih =>
     have:(frs S a).length<=1:=by unfold frs;simp;lia
     simp only [List.flatMap_cons,List.length_append,jLc];lia
   have:=(vF e).2
   lia
  rw [jL];cases hx:Ju S p with
  | nil =>
   have:frs S p=[]:=by unfold frs;rw [hx];rfl
   rw [this];rw [hx] at hc;unfold ewl at *;simp only [jMn] at hc;simp [hc]
  | cons w l =>
   have:frs S p=[w]:=by unfold frs;rw [hx];rfl
   rw [this];rw [hx] at hc;have hat:atF ((w::l).map ew) 0=.ok (ew w):=wV _ _;have happ:=JS (i:=2) (ρ:=[some (Sl.val (ewl S)),some (Sl.val (.int (n:Nat))),some (Sl.own ((done.flatMap fun p=>frs S p).map ew)),some (Sl.val (.int (p:Nat))),some (Sl.val (ewl (w::l))),none,none,none,none]) (vs:=(done.flatMap fun p=>frs S p).map ew) (v:=ew w) (by rw [List.length_map];lia);unfold ewl at *;simp only [jMc] at hc hat happ;simp [hc,hat,happ]
 obtain ⟨ρ1,l1,g3,g4,rfl⟩:=loop1;have hfl:(yW n S).length<=10:=by rw [YK];have:=qC n S;lia
 have hcH:zC (yu (ze 2)) 1 [] (zp 0) (fun _=>.ok true) (e2 xS (ze 0) (eC (.int 1))) [some (Sl.val (ewl S)),some (Sl.val (.int (n:Nat))),some (Sl.val (ewl (yW n S))),g3,g4,none,none,none,none]=.ok (.lst ((Pd.hds n S).map fun k:Nat=>PV.int (k:Int))):=by
  rw [yf (l:=yW n S) (q:=ew) (h:=fun w=>PV.int ((Pd.hd w:Nat):Int))]
  ·rw [<- XQ,List.map_map];rfl
  ·simp
  ·lia
  ·intro w hw;have:=Je w (Jg hw);simp [zV,this]
 have hm:(yW n S).length=(Pd.hds n S).length:=YK n S;have inner:∀ (k:Nat) (acc:List Pd.W) (g8:Option Sl),acc.length<=10->∃ ρ',jj (zp 8) (sIf (yX (e2 eqF (zC (yu (ze 5)) 1 [8] (zp 0) (fun _=>.ok true) (e2 ixF (ze 1) (ze 0))) (zC (iR1 (zd (eB vD (zd (ze 2) zj)) zj)) 1 [7] (zp 0) (fun _=>.ok true) (eB Xi (zd (e2 eqF (ze 0) (ze 1)) zj))))) (VU 6 (ze 8)) wr)
   [some (Sl.val (ewl S)),some (Sl.val (.int (n:Nat))),some (Sl.val (ewl (yW n S))),g3,g4,some (Sl.val (.lst ((Pd.hds n S).map fun k:Nat=>PV.int (k:Int)))),some (Sl.own (acc.map ew)),some (Sl.val (.int (k:Nat))),g8] (S.map ew)=.ok (.nx ρ')
   /\ ∃ g8',ρ'=[some (Sl.val (ewl S)),some (Sl.val (.int (n:Nat))),some (Sl.val (ewl (yW n S))),g3,g4,some (Sl.val (.lst ((Pd.hds n S).map fun k:Nat=>PV.int (k:Int)))),some (Sl.own ((acc++QZ n S k).map ew)),some (Sl.val (.int (k:Nat))),g8']:=by
  intro k acc g8 hacc;have key:∃ ρ',ji (zp 8) (sIf (yX (e2 eqF (zC (yu (ze 5)) 1 [8] (zp 0) (fun _=>.ok true) (e2 ixF (ze 1) (ze 0))) (zC (iR1 (zd (eB vD (zd (ze 2) zj)) zj)) 1 [7] (zp 0) (fun _=>.ok true) (eB Xi (zd (e2 eqF (ze 0) (ze 1)) zj))))) (VU 6 (ze 8)) wr) (S.map ew)
   [some (Sl.val (ewl S)),some (Sl.val (.int (n:Nat))),some (Sl.val (ewl (yW n S))),g3,g4,some (Sl.val (.lst ((Pd.hds n S).map fun k:Nat=>PV.int (k:Int)))),some (Sl.own (acc.map ew)),some (Sl.val (.int (k:Nat))),g8]=.ok (.nx ρ')
   /\ ∃ g8',ρ'=[some (Sl.val (ewl S)),some (Sl.val (.int (n:Nat))),some (Sl.val (ewl (yW n S))),g3,g4,some (Sl.val (.lst ((Pd.hds n S).map fun k:Nat=>PV.int (k:Int)))),some (Sl.own ((acc++S.filter fun w=>decide ((Pd.hds n S).map (Pd.bt w)=(List.range (Pd.hds n S).length).map fun j=>decide (j=k))).map ew)),some (Sl.val (.int (k:Nat))),g8']:=by
   refine yO (fun done ρ=>∃ g8',ρ=[some (Sl.val (ewl S)),some (Sl.val (.int (n:Nat))),some (Sl.val (ewl (yW n S))),g3,g4,some (Sl.val (.lst ((Pd.hds n S).map fun k:Nat=>PV.int (k:Int)))),some (Sl.own ((acc++done.filter fun w=>decide ((Pd.hds n S).map (Pd.bt w)=(List.range (Pd.hds n S).length).map fun j=>decide (j=k))).map ew)),some (Sl.val (.int (k:Nat))),g8']) ?_ ⟨g8,by simp⟩
   rintro done w rest ρ e ⟨g,rfl⟩;have hwl:w.length=n:=ha w (by rw [e];simp);have hdl:done.length<=2000:=by have:=congrArg List.length e;simp at this;lia
   have ca:zC (yu (ze 5)) 1 [8] (zp 0) (fun _=>.ok true) (e2 ixF (ze 1) (ze 0)) [some (Sl.val (ewl S)),some (Sl.val (.int (n:Nat))),some (Sl.val (ewl (yW n S))),g3,g4,some (Sl.val (.lst ((Pd.hds n S).map fun k:Nat=>PV.int (k:Int)))),some (Sl.own ((acc++done.filter fun w=>decide ((Pd.hds n S).map (Pd.bt w)=(List.range (Pd.hds n S).length).map fun j=>decide (j=k))).map ew)),some (Sl.val (.int (k:Nat))),some (Sl.val (ew w))]
     = .ok (.lst (((Pd.hds n S).map (Pd.bt w)).map eb)):=by
    rw [yf (l:=Pd.hds n S) (q:=fun k:Nat=>PV.int (k:Int)) (h:=fun p=>eb (Pd.bt w p))]
    ·rw [List.map_map];rfl
    ·simp
    ·have:=qC n S;lia
    ·intro p hp;have:=ixT w p (by rw [hwl];exact Lf hp);simp [zV,this]
   have cb:zC (iR1 (zd (eB vD (zd (ze 2) zj)) zj)) 1 [7] (zp 0) (fun _=>.ok true) (eB Xi (zd (e2 eqF (ze 0) (ze 1)) zj)) [some (Sl.val (ewl S)),some (Sl.val (.int (n:Nat))),some (Sl.val (ewl (yW n S))),g3,g4,some (Sl.val (.lst ((Pd.hds n S).map fun k:Nat=>PV.int (k:Int)))),some (Sl.own ((acc++done.filter fun w=>decide ((Pd.hds n S).map (Pd.bt w)=(List.range (Pd.hds n S).length).map fun j=>decide (j=k))).map ew)),some (Sl.val (.int (k:Nat))),some (Sl.val (ew w))]
     = .ok (.lst (((List.range (Pd.hds n S).length).map fun j=>decide (j=k)).map eb)):=by
    rw [yf (l:=List.range (Pd.hds n S).length) (q:=fun k:Nat=>PV.int (k:Int)) (h:=fun j=>eb (decide (j=k)))]
    ·rw [List.map_map];rfl
    ·simp [hm,ju (show (Pd.hds n S).length<=100000 by have:=qC n S;lia)]
    ·simp;have:=qC n S;lia
    ·intro j hj;have:=NP j k;simp [zV,this]
   have hq:=EncOk.eb.lst.eqF ((Pd.hds n S).map (Pd.bt w)) ((List.range (Pd.hds n S).length).map fun j=>decide (j=k))
   rw [List.filter_append]
   by_cases hd:(Pd.hds n S).map (Pd.bt w)=(List.range (Pd.hds n S).length).map fun j=>decide (j=k)
   ·have happ:=JS (i:=6) (ρ:=[some (Sl.val (ewl S)),some (Sl.val (.int (n:Nat))),some (Sl.val (ewl (yW n S))),g3,g4,some (Sl.val (.lst ((Pd.hds n S).map fun k:Nat=>PV.int (k:Int)))),some (Sl.own ((acc++done.filter fun w=>decide ((Pd.hds n S).map (Pd.bt w)=(List.range (Pd.hds n S).length).map fun j=>decide (j=k))).map ew)),some (Sl.val (.int (k:Nat))),some (Sl.val (ew w))])
     (vs:=(acc++done.filter fun w=>decide ((Pd.hds n S).map (Pd.bt w)=(List.range (Pd.hds n S).length).map fun j=>decide (j=k))).map ew) (v:=ew w) (by
      have:=List.length_filter_le (fun w=>decide ((Pd.hds n S).map (Pd.bt w)=(List.range (Pd.hds n S).length).map fun j=>decide (j=k))) done
      simp only [List.length_map,List.length_append];lia)
    have hf:([w].filter fun w=>decide ((Pd.hds n S).map (Pd.bt w)=(List.range (Pd.hds n S).length).map fun j=>decide (j=k)))=[w]:=by simp [hd]
    rw [hf];simp only [hd,decide_true] at hq;simp only [hd] at ca;simp [ca,cb,hq,happ,-List.map_map,-List.map_append];simp
   ·have hf:([w].filter fun w=>decide ((Pd.hds n S).map (Pd.bt w)=(List.range (Pd.hds n S).length).map fun j=>decide (j=k)))=[]:=by simp [hd]
    rw [hf];simp only [hd,decide_false] at hq;simp [ca,cb,hq,-List.map_map,-List.map_append]
  exact key
 have loop2:∃ ρ',jj (zp 7) (uw (yu (ze 0)) (zp 8) (sIf (yX (e2 eqF (zC (yu (ze 5)) 1 [8] (zp 0) (fun _=>.ok true) (e2 ixF (ze 1) (ze 0))) (zC (iR1 (zd (eB vD (zd (ze 2) zj)) zj)) 1 [7] (zp 0) (fun _=>.ok true) (eB Xi (zd (e2 eqF (ze 0) (ze 1)) zj))))) (VU 6 (ze 8)) wr))
   [some (Sl.val (ewl S)),some (Sl.val (.int (n:Nat))),some (Sl.val (ewl (yW n S))),g3,g4,some (Sl.val (.lst ((Pd.hds n S).map fun k:Nat=>PV.int (k:Int)))),some (Sl.own []),none,none] ((List.range (Pd.hds n S).length).map fun k:Nat=>PV.int (k:Int))=.ok (.nx ρ')
   /\ ∃ g7 g8,ρ'=[some (Sl.val (ewl S)),some (Sl.val (.int (n:Nat))),some (Sl.val (ewl (yW n S))),g3,g4,some (Sl.val (.lst ((Pd.hds n S).map fun k:Nat=>PV.int (k:Int)))),some (Sl.own ((Pd.lawRows n S).map ew)),g7,g8]:=by
  refine yO (fun done ρ=>∃ g7 g8,ρ=[some (Sl.val (ewl S)),some (Sl.val (.int (n:Nat))),some (Sl.val (ewl (yW n S))),g3,g4,some (Sl.val (.lst ((Pd.hds n S).map fun k:Nat=>PV.int (k:Int)))),some (Sl.own ((done.flatMap (QZ n S)).map ew)),g7,g8]) ?_ ⟨none,none,rfl⟩
  rintro done k rest ρ e ⟨g7,g8,rfl⟩;have hdl:(done.flatMap (QZ n S)).length<=10:=by
   have h1:(done.flatMap (QZ n S)).length<=done.length:=by
    clear e
    induction done with
    | nil=>simp
    | cons a l ih =>
     have:=hrow a;simp only [List.flatMap_cons,List.length_append,jLc];lia
   have:=(vF e).2;have:=qC n S
   lia
  obtain ⟨ρ',e1,g8',e2⟩:=inner k (done.flatMap (QZ n S)) g8 hdl;rw [jL];refine ⟨ρ',?_,some (Sl.val (.int (k:Nat))),g8',e2⟩;simp [e1]
 obtain ⟨ρ2,l2,g7,g8,rfl⟩:=loop2;have hr:=ju (n:=n) (by lia);have hr2:=ju (n:=(Pd.hds n S).length) (by have:=qC n S;lia);unfold ewl at *;simp [xY,zQ,zH,yz,zN,zP,-List.map_map,i0,l0,hr,l1,hcH,hm,hr2,l2,-List.map_map,-List.map_append]
def xZ:Df:=yC 3 (zJ (yk (eB wR (zd (ze 0) (zd (ze 1) zj))) (zp 2))
  (ym (eB xY (zd (eB xm (zd (ze 2) (zd (eB wx (zd (ze 0) (zd (ze 1) (zd (ze 2) zj)))) zj))) zj))))
def xg:Df:=yC 4 (zJ (yk (Jj (eC (.int 1))) (zp 1))
  (zJ (uw (yu (ze 0)) (zp 2) (zJ (sIf (yX (e2 uN (eC (.int 1)) (ze 2))) (ym (eC (.bl false))) wr)
  (zJ (yk (eB zW (zd (ze 2) zj)) (zp 3))
  (zJ (sIf (Yl (yX (e2 leF (ze 3) (ze 1))) (yX (e2 neF (eB qP (zd (zC (yu (ze 0)) 1 [3] (zp 0) (fun _=>.ok true) (e2 ixF (ze 0) (ze 1))) zj)) (eC (.int 1))))) (ym (eC (.bl false))) wr)
  (yk (ze 3) (zp 1))))))
  (ym (eC (.bl true)))))
def ug:Df:=yC 3 (zJ (sIf (Yl (vT (vP (eIs Xs (ze 0)))) (yX (e2 neF (eB vD (zd (ze 0) zj)) (eC (.int 2))))) (ym (eC (.bl false))) wr)
  (zJ (yk (e2 ixF (ze 0) (eC (.int 0))) (zp 1))
  (zJ (yk (e2 ixF (ze 0) (eC (.int 1))) (zp 2))
  (zJ (sIf (Yl (vT (vP (eB xF (zd (ze 1) zj)))) (vT (vP (eIs Xs (ze 2))))) (ym (eC (.bl false))) wr)
  (ym (Lo (eB Vs (zd (zC (yu (ze 2)) 1 [1] (zp 0) (fun _=>.ok true) (eB xE (zd (ze 0) (zd (ze 1) zj)))) zj)) (eB xg (zd (ze 2) zj))))))))
def uh:Df:=yC 1 (zJ (sIf (vT (vP (eB ug (zd (ze 0) zj)))) MF wr)
  (ym (ze 0)))
def yB:Df:=yC 1 (ym (e2 ixF (eB uh (zd (ze 0) zj)) (eC (.int 1))))
def yh:Df:=yC 4 (zJ (yk (eB yB (zd (ze 0) zj)) (zp 1))
  (zJ (yk (ql (zd (eB uH (zd (e2 ixF (ze 0) (eC (.int 0))) zj)) zj)) (zp 2))
  (zJ (uw (yu (ze 1)) (zp 3) (yk (e2 yi (ze 2) (zC (yu (ze 2)) 1 [3] (zp 0) (fun _=>.ok true) (eB wv (zd (ze 0) (zd (ze 1) zj))))) (zp 2)))
  (ym (Ji (ze 2))))))
def vc:Df:=yC 1 (ym (zC (yu (eB yB (zd (ze 0) zj))) 1 [] (zp 0) (fun _=>.ok true) (eB zW (zd (ze 0) zj))))
theorem Qb {α:Type} {l:List α} (nd:l.Nodup) (h:∀ a∈l,∀ b∈l,a=b):l.length<=1:=by
 match l,nd,h with
 | [],_,_=>simp
 | [_],_,_=>simp
 | a::b::r,nd,h =>
  have:=h a jC b (by simp);subst this;simp at nd
theorem PP {n:Nat} {R S:List Pd.W} (h:Pd.Rows n R) (nd:S.Nodup) (hS:∀ w,w∈S↔Pd.Sp n R w) (k:Nat):(QZ n S k).length<=1:=by
 refine Qb (nd.filter _) fun a ha b hb=>?_
 obtain ⟨a1,a2⟩:=List.mem_filter.mp ha;obtain ⟨b1,b2⟩:=List.mem_filter.mp hb;have e:=(of_decide_eq_true a2).trans (of_decide_eq_true b2).symm;refine h.told ((hS a).mp a1) ((hS b).mp b1) fun r hr=>?_
 have hm:Pd.hd r∈Pd.hds n S:=by rw [Pd.hds_eq h hS];exact List.mem_map_of_mem hr
 exact List.map_inj_left.mp e _ hm
theorem BO {n:Nat} {ws:List Pd.W} (ha:Pd.All n ws):Pd.sprd n ws≠[]:=fun h=>by
 have:Pd.zr n∈Pd.sprd n ws:=(Pd.mem_sprd ha _).mpr .zero;rw [h] at this;cases this
theorem jo {n:Nat} {ws:List Pd.W} (ha:Pd.All n ws):Pd.All n (Pd.sprd n ws):=fun v hv=>((Pd.mem_sprd ha v).mp hv).length ha
theorem ZV {n:Nat} (h2:n<=10) {ws:List Pd.W} (ha:Pd.All n ws):(Pd.sprd n ws).length<=1024:=Nat.le_trans (XF (Pd.sprd_nodup ha) (jo ha)) (QE h2)
theorem VR (n:Nat) (h1:1<=n) (h2:n<=10) (ws:List Pd.W) (ha:Pd.All n ws):xY [ewl (Pd.sprd n ws)]=.ok (edk n (Pd.mk ws)):=by
 rw [TY n h1 h2 (Pd.sprd n ws) (BO ha) (jo ha) (by have:=ZV h2 ha;lia) (PP (Pd.mk_all ha).1 (Pd.sprd_nodup ha) fun w=>by rw [Pd.mem_sprd ha,(Pd.mk_all ha).2]),Pd.law_desk ha]
def ldk (ns:List Int) (at_:Nat):List Pd.W:=Pd.mk (lws ns at_ (size ns at_))
theorem NC (ns:List Int) (at_:Nat):Pd.Rows (size ns at_) (ldk ns at_):=(Pd.mk_all (Vb ns at_ _)).1
theorem Rb (ns:List Int) (at_:Nat) (h63:ns.length<=63):xZ [scr ns,.int at_]=.ok (edk (size ns at_) (ldk ns at_)):=by
 have e1:=TX ns at_ h63;have p1:=VI ns at_;have p2:=JH ns at_;have e2:=BX ns at_ (size ns at_) (by lia);have e3:=MB (size ns at_) p1 (by lia) _ (Vb ns at_ (size ns at_));have e4:=VR (size ns at_) p1 (by lia) _ (Vb ns at_ (size ns at_));simp [xZ,zQ,zH,yz,zN,zP,-List.map_map,e1,e2,e3,e4,ldk]
theorem Sv (n:Nat) (rows:List Pd.W) (ha:Pd.All n rows) (h:Nat) (hh:h<n) (V:PV) (ρ:En) (hV:ze 0 ρ=.ok V) (hs:vC V=.ok (rows.map ew)) (hc:(zV 1 [3] ρ)=[none,some (.val (.int (h:Nat)))]) (hl:rows.length<=1000) :
  zC (yu (ze 0)) 1 [3] (zp 0) (fun _=>.ok true) (e2 ixF (ze 0) (ze 1)) ρ=.ok (.lst ((rows.map fun r=>Pd.bt r h).map eb)):=by
 rw [yf (l:=rows) (q:=ew) (h:=fun r=>eb (Pd.bt r h))]
 ·rw [List.map_map];rfl
 ·simp [hV,hs]
 ·lia
 ·intro r hr;have:=ixT r h (by rw [ha r hr];exact hh);simp [hc,this]
theorem KC {α:Type} [DecidableEq α] (f:α->Bool):∀ {l:List α},l.Nodup->∀ {x:α},x∈l->(∀ y∈l,f y=decide (y=x))->cnt (l.map f)=1
 | [],_,x,hx,_=>by cases hx
 | a::l,nd,x,hx,h=>by
  have ⟨n1,n2⟩:=List.nodup_cons.mp nd;unfold cnt;rw [List.map_cons,List.count_cons]
  by_cases e:a=x
  ·subst e;have z:(l.map f).count true=0:=by
    rw [List.count_eq_zero];intro hm;obtain ⟨y,hy,e⟩:=List.mem_map.mp hm;rw [h y (jM _ hy)] at e;have:y=a:=of_decide_eq_true e;subst this;exact n1 hy
   rw [z,h a jC];simp
  ·have hx':x∈l:=by rcases List.mem_cons.mp hx with h' | h';exact absurd h'.symm e;exact h'
   have ih:=KC f n2 hx' fun y hy=>h y (jM _ hy)
   unfold cnt at ih;rw [ih,h a jC];simp [e]
theorem BY (n:Nat) (h2:n<=10) (rows:List Pd.W) (hR:Pd.Rows n rows):xg [ewt rows]=.ok (.bl true):=by
 have hlen:=vV hR;have loop:∃ ρ',jj (zp 2) (zJ (sIf (yX (e2 uN (eC (.int 1)) (ze 2))) (ym (eC (.bl false))) wr)
   (zJ (yk (eB zW (zd (ze 2) zj)) (zp 3))
   (zJ (sIf (Yl (yX (e2 leF (ze 3) (ze 1))) (yX (e2 neF (eB qP (zd (zC (yu (ze 0)) 1 [3] (zp 0) (fun _=>.ok true) (e2 ixF (ze 0) (ze 1))) zj)) (eC (.int 1))))) (ym (eC (.bl false))) wr)
   (yk (ze 3) (zp 1))))) [some (Sl.val (ewt rows)),some (Sl.val (.int (-1))),none,none] (rows.map ew)=.ok (.nx ρ')
   /\ ∃ (last:Int) (g2 g3:Option Sl),ρ'=[some (Sl.val (ewt rows)),some (Sl.val (.int last)),g2,g3]/\∀ r∈rows,(Pd.hd r:Int)<=last:=by
  refine yO (fun done ρ=>∃ (last:Int) (g2 g3:Option Sl),ρ=[some (Sl.val (ewt rows)),some (Sl.val (.int last)),g2,g3]/\(∀ r∈done,(Pd.hd r:Int)<=last)/\(last = -1\/∃ r∈done,last=(Pd.hd r:Int))) ?_ ?_ |> fun ⟨ρ',a,last,g2,g3,b,c,_⟩=>⟨ρ',a,last,g2,g3,b,c⟩
  ·rintro done r rest ρ e ⟨last,g2,g3,rfl,hle,hlast⟩;have hr:r∈rows:=by rw [e];simp
   have h1:=hR.one r hr;have hni:=AA r;simp only [h1,decide_true,Bool.not_true] at hni;have e1:=Ys r h1;have hlt:¬ (Pd.hd r:Int)<=last:=by
    rcases hlast with rfl | ⟨q,hq,rfl⟩
    ·lia
    ·have:=hR.ord;rw [e,List.pairwise_append] at this;have:=this.2.2 q hq r jC
     lia
   have hlt':decide ((Pd.hd r:Int)<=last)=false:=decide_eq_false hlt;have hc:=Sv n rows hR.len (Pd.hd r) (by have:=Pd.hd_lt h1;rw [hR.len r hr] at this;exact this) (ewt rows) [some (Sl.val (ewt rows)),some (Sl.val (.int last)),some (Sl.val (ew r)),some (Sl.val (.int (Pd.hd r:Nat)))] rfl rfl rfl (by lia);have hs:=VD (rows.map fun q=>Pd.bt q (Pd.hd r))
   rw [KC (fun q=>Pd.bt q (Pd.hd r)) hR.nodup hr (fun q hq=>hR.bits hr hq)] at hs
   have hne:neF (.int ((1:Nat):Int)) (.int 1)=.ok (.bl false):=EncOk.int.neF 1 1;refine ⟨[some (Sl.val (ewt rows)),some (Sl.val (.int (Pd.hd r:Nat))),some (Sl.val (ew r)),some (Sl.val (.int (Pd.hd r:Nat)))],?_,(Pd.hd r:Int),some (Sl.val (ew r)),some (Sl.val (.int (Pd.hd r:Nat))),rfl,?_,.inr ⟨r,by simp,rfl⟩⟩
   ·simp only [xq,jRb,jSs,jSz,qS,Ag,Zi,vX,jv,xW,yj,zX,hni,XB,QA,SK,vL,uX,vp,zR,yE,xc,yD,e1,vq,uW,EA,ED,hlt',Ad,hc,hs,hne]
   ·intro q hq
    rcases List.mem_append.mp hq with hq | hq
    ·have:=hle q hq;lia
    ·rw [List.mem_singleton.mp hq];exact Int.le_refl _
  ·exact ⟨-1,none,none,rfl,fun r h=>(by cases h),.inl rfl⟩
 obtain ⟨ρ',e1,last,g2,g3,rfl,_⟩:=loop;simp [xg,zQ,zH,yz,zN,zP,-List.map_map,e1]
theorem s_is_desk (n:Nat) (h1:1<=n) (h2:n<=10) (rows:List Pd.W) (hR:Pd.Rows n rows):ug [edk n rows]=.ok (.bl true):=by
 have hsz:Xg (.int (n:Int))=true:=by simp [Xg,ud];lia
 have hlen:=vV hR;have hst:=BY n h2 rows hR;have i0:atF [PV.int (n:Int),ewt rows] 0=.ok (.int (n:Int)):=wV _ _;have i1:atF [PV.int (n:Int),ewt rows] 1=.ok (ewt rows):=uM _ 1 (by simp);have hne:neF (.int 2) (.int 2)=.ok (.bl false):=EncOk.int.neF 2 2;have hc:zC (yu (ze 2)) 1 [1] (zp 0) (fun _=>.ok true) (eB xE (zd (ze 0) (zd (ze 1) zj))) [some (Sl.val (edk n rows)),some (Sl.val (.int (n:Int))),some (Sl.val (ewt rows))]=.ok (.lst ((rows.map fun _=>true).map PV.bl)):=by
  rw [yf (l:=rows) (q:=ew) (h:=fun _=>PV.bl true)]
  ·rw [List.map_map];rfl
  ·simp
  ·lia
  ·intro r hr;have hl:=hR.len r hr;have:=s_is_word (ew r) (.int (n:Int)) (fun xs h=>by cases h;simp [hl];lia)
   rw [Km r n hl h1 h2] at this;simp [zV,this]
 have hall:((rows.map fun _=>true).all id)=true:=by simp
 simp [ug,zQ,zH,yz,zN,zP,-List.map_map,s_is_size,hsz,i0,i1,hne,hc,Vq,hall,hst]
theorem s_checked (n:Nat) (h1:1<=n) (h2:n<=10) (rows:List Pd.W) (hR:Pd.Rows n rows):uh [edk n rows]=.ok (edk n rows):=by
 simp [uh,zQ,zH,yz,zN,zP,-List.map_map,s_is_desk n h1 h2 rows hR]
theorem s_rows_of (n:Nat) (h1:1<=n) (h2:n<=10) (rows:List Pd.W) (hR:Pd.Rows n rows):yB [edk n rows]=.ok (ewt rows):=by
 have i1:atF [PV.int (n:Int),ewt rows] 1=.ok (ewt rows):=uM _ 1 (by simp);simp [yB,zQ,zH,yz,zN,zP,-List.map_map,s_checked n h1 h2 rows hR,i1]
theorem s_heads (n:Nat) (h1:1<=n) (h2:n<=10) (rows:List Pd.W) (hR:Pd.Rows n rows):vc [edk n rows]=.ok (.lst ((rows.map Pd.hd).map fun k:Nat=>PV.int (k:Int))):=by
 have e1:=s_rows_of n h1 h2 rows hR;have hlen:=vV hR;have hc:zC (yu (eB yB (zd (ze 0) zj))) 1 [] (zp 0) (fun _=>.ok true) (eB zW (zd (ze 0) zj)) [some (Sl.val (edk n rows))]=.ok (.lst ((rows.map Pd.hd).map fun k:Nat=>PV.int (k:Int))):=by
  rw [yf (l:=rows) (q:=ew) (h:=fun r=>PV.int ((Pd.hd r:Nat):Int))]
  ·rw [List.map_map];rfl
  ·simp [e1]
  ·lia
  ·intro r hr;simp [zV,Ys r (hR.one r hr)]
 simp [vc,zQ,zH,yz,zN,zP,-List.map_map,hc]
def uf (n:Nat) (rows:List Pd.W):List Pd.W:=rows.foldl (fun (f:List Pd.W) w=>f++f.map fun x=>Pd.pl x w) [Pd.zr n]
theorem XY (n:Nat) (us:List Pd.W) (w:Pd.W):uf n (us++[w])=uf n us++(uf n us).map fun x=>Pd.pl x w:=by unfold uf;rw [List.foldl_append];rfl
theorem XX {n:Nat} {rows:List Pd.W} (hR:Pd.Rows n rows):uf n rows=Pd.sums n rows:=by
 have gen:∀ (Q P:List Pd.W),Pd.Rows n (P++Q)->uf n P=Pd.sums n P->uf n (P++Q)=Pd.sums n (P++Q):=by
  intro Q
  induction Q with
  | nil=>intro P _ h;simpa using h
  | cons r Q ih =>
   intro P hR hP;have e:P++r::Q=(P++[r])++Q:=by simp
   rw [e] at hR ⊢;refine ih _ hR ?_;rw [XY,Xt,hP];have hPa:Pd.All n P:=fun w hw=>hR.len w (by simp [hw])
   have hn:r∉Pd.sums n P:=by
    rw [(Pd.sums_all hPa).2];intro hs;have gz:∀ v,Pd.Sp n P v->Pd.bt v (Pd.hd r)=false:=by
     intro v hv
     induction hv with
     | zero=>exact Pd.bt_zr n _
     | add hw hv ih =>
      rename_i w v
      have hne:Pd.hd r≠Pd.hd w:=by
       have:=hR.ord;rw [List.append_assoc,List.pairwise_append] at this;have:=this.2.2 w hw r (by simp)
       lia
      rw [Pd.bt_pl ((hv.length hPa).trans (hPa w hw).symm),ih,hR.off r (by simp) w (by simp [hw]) hne];rfl
    have z:=gz r hs;rw [Pd.bt_hd (hR.one r (by simp))] at z;cases z
   rw [if_neg hn]
 have:=gen rows [] (by simpa using hR) rfl;simpa using this
theorem s_words_of (n:Nat) (h1:1<=n) (h2:n<=10) (rows:List Pd.W) (hR:Pd.Rows n rows):yh [edk n rows]=.ok (ewl (Pd.sprd n rows)):=by
 have e1:=s_rows_of n h1 h2 rows hR;have e2:=s_none n (by lia);have i0:atF [PV.int (n:Int),ewt rows] 0=.ok (.int (n:Int)):=wV _ _;have hb:∀ done rest,rows=done++rest->(uf n done).length<=1024/\Pd.All n (uf n done):=fun done rest e=>by
  have hd:Pd.Rows n done:=by
   subst e;exact ⟨fun w hw=>hR.len w (by simp [hw]),fun w hw=>hR.one w (by simp [hw]),(List.pairwise_append.mp hR.ord).1,fun a ha b hb'=>hR.off a (by simp [ha]) b (by simp [hb'])⟩
  rw [XX hd];exact ⟨uo h2 hd.len,wg hd.len⟩
 have loop:∃ ρ',jj (zp 3) (yk (Pu.e2 yi (ze 2) (zC (yu (ze 2)) 1 [3] (zp 0) (fun _=>.ok true) (eB wv (zd (ze 0) (zd (ze 1) zj))))) (zp 2)) [some (Sl.val (edk n rows)),some (Sl.val (ewt rows)),some (Sl.val (.lst [ew (Pd.zr n)])),none] (rows.map ew)=.ok (.nx ρ')
   /\ ∃ g,ρ'=[some (Sl.val (edk n rows)),some (Sl.val (ewt rows)),some (Sl.val (ewl (uf n rows))),g]:=by
  refine yO (fun done ρ=>∃ g,ρ=[some (Sl.val (edk n rows)),some (Sl.val (ewt rows)),some (Sl.val (ewl (uf n done))),g]) ?_ ⟨none,rfl⟩
  rintro done r rest ρ e ⟨g,rfl⟩;obtain ⟨b1,b2⟩:=hb done _ e;have hc:zC (yu (ze 2)) 1 [3] (zp 0) (fun _=>.ok true) (eB wv (zd (ze 0) (zd (ze 1) zj))) [some (Sl.val (edk n rows)),some (Sl.val (ewt rows)),some (Sl.val (ewl (uf n done))),some (Sl.val (ew r))]=.ok (ewl ((uf n done).map fun x=>Pd.pl x r)):=by
   rw [yf (l:=uf n done) (q:=ew) (h:=fun x=>ew (Pd.pl x r))]
   ·unfold ewl;rw [List.map_map];rfl
   ·simp
   ·lia
   ·intro x hx;have:=s_plus x r (by rw [b2 x hx];lia);simp [zV,this]
  have hadd:yi (ewl (uf n done)) (ewl ((uf n done).map fun x=>Pd.pl x r))=.ok (ewl (uf n done++(uf n done).map fun x=>Pd.pl x r)):=by
   have:=jc (vs:=(uf n done).map ew) (us:=((uf n done).map fun x=>Pd.pl x r).map ew) (by simp;lia)
   rw [<- List.map_append] at this;exact this
  rw [XY];unfold ewl at *;simp [hc,hadd,-List.map_map,-List.map_append]
 obtain ⟨ρ',l1,g,rfl⟩:=loop;rw [XX hR] at l1;have hs:=Mq (Pd.sums n rows) (by have:=uo h2 hR.len;lia) fun w hw=>wJ h1 (wg hR.len w hw)
 simp [yh,zQ,zH,yz,zN,zP,-List.map_map,e1,e2,i0,l1,hs,Pd.sprd]
end Dn
set_option maxHeartbeats 4000000
namespace Dn
open PySem Pu
def yY:Df:=yC 1 (ym (Zu (zd (eB xK (zd (ze 0) zj)) (zd (ze 0) zj))))
def wk (w:Pd.W):List Int:=(cnt w:Int)::w.map bi
theorem Tz {a b:Pd.W} (h:wk a=wk b):a=b:=Bv (List.cons.inj h).2
abbrev eky (w:Pd.W):PV:=.tup [.int (cnt w:Nat),ew w]
theorem BZ (w:Pd.W):yY [ew w]=.ok (eky w):=by
 simp [yY,zQ,zH,yz,zN,zP,-List.map_map,s_weight]
section
variable {n:Nat} {R:List Pd.W} (hR:Pd.Rows n R)
include hR
end
def wG:Df:=yC 5 (zJ (VT 3 (eB uH (zd (ze 0) zj)))
  (zJ (Xy 3 (ze 2) (eC (.int 1)))
  (zJ (uw (yu (ze 1)) (zp 4) (Xy 3 (eB zW (zd (ze 4) zj)) (e2 ixF (ze 4) (ze 2))))
  (zJ (Gf 3) (ym (eB qX (zd (ze 3) zj)))))))
def qp:Df:=yC 4 (zJ (yk (eB vc (zd (ze 0) zj)) (zp 1))
  (zJ (yk (eB yB (zd (ze 0) zj)) (zp 2))
  (zJ (yk (e2 ixF (ze 0) (eC (.int 0))) (zp 3))
  (ym (eB uI (zd (ze 3) (zd (zC (iR1 (zd (ze 3) zj)) 1 [3,2,1] (zp 0) (yX (e2 uN (ze 0) (ze 3))) (eB wG (zd (ze 1) (zd (ze 2) (zd (ze 0) zj))))) zj)))))))
end Dn
namespace Pd
section
variable {n:Nat} {R:List W}
theorem Sd (h:Rows n R) {v:W} (hv:v.length=n) (hq:∀ j,j<n->j∉R.map hd->ip (db n R j) v=false):Sp n R v:=by
 rw [Mr h hv];have hw:=rest_length h.len hv;rw [qI hw];intro hm;have hlt:hd (rest R v)<n:=hw ▸ hd_lt hm;have hno:hd (rest R v)∉R.map hd:=fun z=>by
  obtain ⟨r,hr,e⟩:=List.mem_map.mp z;have:=jr h hv r hr;rw [e,bt_hd hm] at this;cases this
 have hj:=hq _ hlt hno;have e1:ip (pl v (rest R v)) (db n R (hd (rest R v)))=false:=(KB h _).sp h.len (jq h.len hv);rw [UE hv hw (vk _),vI v,hj,Bool.false_xor,Kn hw,Zs,bt_hd hm] at e1
 ·cases e1
 ·intro r hr;exact jr h hv r (List.mem_filter.mp hr).1
def ckF (p:Nat) (w:W) (l:List W):W:=l.foldl (fun b r=>b.set (hd r) (bt r p)) w
def ck (n:Nat) (R:List W) (p:Nat):W:=ckF p ((zr n).set p true) R
theorem ckF_length (p:Nat):∀ (l:List W) (w:W),(ckF p w l).length=w.length
 | [],_=>rfl
 | r::l,w=>by
  show (ckF p (w.set (hd r) (bt r p)) l).length=_;rw [ckF_length p l,List.length_set]
theorem ZA (p:Nat):(ck n R p).length=n:=by unfold ck;rw [ckF_length,List.length_set,zr_length]
theorem ckF_snoc (p:Nat) (w:W) (l:List W) (r:W):ckF p w (l++[r])=(ckF p w l).set (hd r) (bt r p):=by unfold ckF;rw [List.foldl_append];rfl
theorem Wa {w:W} {a i:Nat} (b:Bool) (h:a≠i):bt (w.set a b) i=bt w i:=by
 unfold bt;rw [List.getD_eq_getElem?_getD,List.getD_eq_getElem?_getD,List.getElem?_set_ne h]
theorem Wb {w:W} {a:Nat} (b:Bool) (h:a<w.length):bt (w.set a b) a=b:=by
 unfold bt;rw [List.getD_eq_getElem?_getD,List.getElem?_set_self h];rfl
theorem Vm {p i:Nat}:∀ {l:List W} {w:W},(∀ r∈l,hd r≠i)->bt (ckF p w l) i=bt w i
 | [],_,_=>rfl
 | r::l,w,h=>by
  show bt (ckF p (w.set (hd r) (bt r p)) l) i=_;rw [Vm fun q hq=>h q (jM _ hq),Wa _ (h r jC)]
theorem Br {p i:Nat} {b:Bool}:∀ {l:List W} {w:W},(∃ r∈l,hd r=i)->(∀ r∈l,hd r=i->bt r p=b)->i<w.length->bt (ckF p w l) i=b
 | [],_,⟨_,h,_⟩,_,_=>by cases h
 | r::l,w,h,hb,hi=>by
  show bt (ckF p (w.set (hd r) (bt r p)) l) i=_
  by_cases z:∃ q∈l,hd q=i
  ·exact Br z (fun q hq=>hb q (jM _ hq)) (by rw [List.length_set];exact hi)
  ·rw [Vm fun q hq e=>z ⟨q,hq,e⟩]
   obtain ⟨q,hq,e⟩:=h
   rcases List.mem_cons.mp hq with rfl | hq
   ·subst e;rw [Wb _ hi,hb q jC rfl]
   ·exact absurd ⟨q,hq,e⟩ z
theorem AQ (hR:Rows n R) {p i:Nat} (hi:i<n):bt (db n R p) i=(decide (p=i)^^(R.filter fun r=>bt r p).foldr (fun r b=>decide (hd r=i)^^b) false):=by
 rw [<- NN (vk p),vI,Kn (vh n i),Tv hi];congr 2;funext r b;rw [Tv hi]
theorem Tt (hR:Rows n R) {p:Nat} (hp:p<n) (hf:p∉R.map hd):ck n R p=db n R p:=by
 refine ext ((ZA p).trans (vk p).symm) fun i=>?_
 by_cases hi:i<n
 ·rw [AQ hR hi]
  by_cases z:∃ r∈R,hd r=i
  ·obtain ⟨r,hr,rfl⟩:=z;have hpi:p≠hd r:=fun e=>hf (e ▸ List.mem_map_of_mem hr)
   have e1:bt (ck n R p) (hd r)=bt r p:=Br ⟨r,hr,rfl⟩ (fun q hq e=>by rw [hR.inj hq hr e]) (by rw [List.length_set,zr_length];exact hi);rw [e1,UI (hR.nodup.filter _) r _ fun q hq=>?_]
   ·have:decide (r∈R.filter fun r=>bt r p)=bt r p:=by
     rw [Bool.eq_iff_iff,decide_eq_true_eq,List.mem_filter];exact ⟨fun z=>z.2,fun z=>⟨hr,z⟩⟩
    rw [this,decide_eq_false hpi,Bool.false_xor]
   ·rw [decide_eq_decide];exact ⟨fun e=>(hR.inj (List.mem_filter.mp hq).1 hr e).symm,fun e=>by rw [e]⟩
  ·have z':∀ r∈R,hd r≠i:=fun r hr e=>z ⟨r,hr,e⟩
   have e1:bt (ck n R p) i=bt ((zr n).set p true) i:=Vm z';rw [e1,Zs _ fun r hr=>decide_eq_false (z' r (List.mem_filter.mp hr).1),Bool.xor_false]
   by_cases e:p=i
   ·subst e;rw [Wb _ (by rw [zr_length];exact hp)];simp
   ·rw [Wa _ e,bt_zr,decide_eq_false e]
 ·rw [YS (by rw [ZA];lia),YS (by rw [vk];lia)]
def free (n:Nat) (R:List W):List Nat:=(List.range n).filter fun p=>!decide (p∈R.map hd)
def ckl (n:Nat) (R:List W):List W:=(free n R).map (ck n R)
def chk (n:Nat) (R:List W):List W:=mk (ckl n R)
theorem ckl_all:All n (ckl n R):=fun w hw=>by
 obtain ⟨p,_,rfl⟩:=List.mem_map.mp hw;exact ZA p
theorem ckl_len:(ckl n R).length<=n:=by
 unfold ckl free;rw [List.length_map];exact Nat.le_trans (List.length_filter_le _ _) (by simp)
theorem chk_ok (h:Rows n R):Rows n (chk n R)/\∀ v,Sp n (chk n R) v↔Du n R v:=by
 obtain ⟨h1,h2⟩:=mk_all (ckl_all (n:=n) (R:=R));have hm:∀ {w},w∈ckl n R->∃ p,p<n/\p∉R.map hd/\w=db n R p:=fun {w} hw=>by
  obtain ⟨p,hp,rfl⟩:=List.mem_map.mp hw;obtain ⟨p1,p2⟩:=List.mem_filter.mp hp;have p1':=List.mem_range.mp p1;have p2':p∉R.map hd:=by simpa using p2
  exact ⟨p,p1',p2',Tt h p1' p2'⟩
 have fwd:∀ v,Sp n (ckl n R) v->Du n R v:=fun v hv=>by
  induction hv with
  | zero=>exact (Du.lin h.len).zero
  | add hw _ ih =>
   obtain ⟨p,_,_,rfl⟩:=hm hw;exact (Du.lin h.len).plus _ _ ih (KB h p)
 refine ⟨h1,fun v=>⟨fun hv=>fwd v ((h2 v).mp hv),fun hv=>?_⟩⟩
 rw [show chk n R=mk (ckl n R) from rfl,KU h1]
 refine ⟨hv.1,fun u hu=>?_⟩
 have hs:Sp n R u:=Sd h hu.1 fun j hj hf=>by
  have:db n R j∈ckl n R:=by
   rw [<- Tt h hj hf];exact List.mem_map_of_mem (List.mem_filter.mpr ⟨List.mem_range.mpr hj,by simpa using hf⟩)
  exact hu.sp h1.len ((h2 _).mpr (Sp.of_mem ckl_all this))
 exact hv.sp h.len hs
end
end Pd
namespace Dn
open PySem Pu
theorem Gh {i:Nat} {d:De} {ρ:En} {v:PV} {vs:List PV} (h:d ρ=.ok v) (hs:vC v=.ok vs):VT i d ρ=.ok (.nx (ρ.set i (some (.own vs)))):=by
 unfold VT;rw [h,Res.bind_ok,hs];rfl
section
variable (n:Nat) (h1:1<=n) (h2:n<=10) (R:List Pd.W) (hR:Pd.Rows n R)
include h1 h2 hR
theorem s_check_of (p:Nat) (hp:p<n):wG [.int (n:Int),ewt R,.int (p:Int)]=.ok (ew (Pd.ck n R p)):=by
 have e1:=s_none n (by lia);have o1:VT 3 (eB uH (zd (ze 0) zj)) [some (Sl.val (.int (n:Int))),some (Sl.val (ewt R)),some (Sl.val (.int (p:Int))),none,none]=.ok (.nx [some (Sl.val (.int (n:Int))),some (Sl.val (ewt R)),some (Sl.val (.int (p:Int))),some (Sl.own ((Pd.zr n).map eb)),none]) :=
  Gh (v:=ew (Pd.zr n)) (by simp [e1]) rfl
 have st:∀ (i:Nat) (ρ:En) (w:Pd.W) (k:Nat) (b:Bool),k<w.length->Xw i ρ (eb b) (w.map eb) (.int (k:Int))=.ok (.nx (ρ.set i (some (.own ((w.set k b).map eb))))):=fun i ρ w k b hk=>by
  rw [Pg (by simpa using hk),List.map_set]
 have s0:=st 3 [some (Sl.val (.int (n:Int))),some (Sl.val (ewt R)),some (Sl.val (.int (p:Int))),some (Sl.own ((Pd.zr n).map eb)),none] (Pd.zr n) p true (by rw [Pd.zr_length];exact hp);have s0':Xw 3 [some (Sl.val (.int (n:Int))),some (Sl.val (ewt R)),some (Sl.val (.int (p:Int))),some (Sl.own ((Pd.zr n).map eb)),none] (.int 1) ((Pd.zr n).map eb) (.int (p:Int))=.ok (.nx [some (Sl.val (.int (n:Int))),some (Sl.val (ewt R)),some (Sl.val (.int (p:Int))),some (Sl.own (((Pd.zr n).set p true).map eb)),none]):=s0;have hw0:((Pd.zr n).set p true).length=n:=by rw [List.length_set,Pd.zr_length]
 have loop:∃ ρ',jj (zp 4) (Xy 3 (eB zW (zd (ze 4) zj)) (e2 ixF (ze 4) (ze 2))) [some (Sl.val (.int (n:Int))),some (Sl.val (ewt R)),some (Sl.val (.int (p:Int))),some (Sl.own (((Pd.zr n).set p true).map eb)),none] (R.map ew)=.ok (.nx ρ')
   /\ ∃ g,ρ'=[some (Sl.val (.int (n:Int))),some (Sl.val (ewt R)),some (Sl.val (.int (p:Int))),some (Sl.own ((Pd.ck n R p).map eb)),g]:=by
  refine yO (fun done ρ=>∃ g,ρ=[some (Sl.val (.int (n:Int))),some (Sl.val (ewt R)),some (Sl.val (.int (p:Int))),some (Sl.own ((Pd.ckF p ((Pd.zr n).set p true) done).map eb)),g]) ?_ ⟨none,rfl⟩
  rintro done r rest ρ e ⟨g,rfl⟩;have hr:r∈R:=by rw [e];simp
  have hl:=hR.len r hr;have hh:Pd.hd r<n:=by have:=Pd.hd_lt (hR.one r hr);lia
  have e2':=Ys r (hR.one r hr);have e3:=ixT r p (by lia);have e4:=st 3 [some (Sl.val (.int (n:Int))),some (Sl.val (ewt R)),some (Sl.val (.int (p:Int))),some (Sl.own ((Pd.ckF p ((Pd.zr n).set p true) done).map eb)),some (Sl.val (ew r))] (Pd.ckF p ((Pd.zr n).set p true) done) (Pd.hd r) (Pd.bt r p) (by rw [Pd.ckF_length,hw0];exact hh);refine ⟨_,?_,some (Sl.val (ew r)),rfl⟩;rw [Pd.ckF_snoc];simp only [xq,jRb,jSs,jSz,MM,vX,xW,zX,yj,e3,JQ,MP,MN,JP,vp,zR,yE,xc,yD,e2',e4]
 obtain ⟨ρ',l1,g,rfl⟩:=loop;simp only [wG,zQ,zH,jMc,jMn,jCa,jNa,jLc,jLn,Nat.reduceAdd,Nat.reduceSub,List.replicate,qS,o1,jRb,vL,MM,jv,JQ,MP,MN,JP,zX,yj,s0',VY,Yu,Rh,l1,Ah,Rm,jSs,jSz,vW,vp,zR,yE,xc,yD,Re,uV,wY,ew]
theorem s_checks:qp [edk n R]=.ok (edk n (Pd.chk n R)):=by
 have e1:=s_heads n h1 h2 R hR;have e2':=s_rows_of n h1 h2 R hR;have i0:atF [PV.int (n:Int),ewt R] 0=.ok (.int (n:Int)):=wV _ _;have hc:zC (iR1 (zd (ze 3) zj)) 1 [3,2,1] (zp 0) (yX (e2 uN (ze 0) (ze 3))) (eB wG (zd (ze 1) (zd (ze 2) (zd (ze 0) zj))))
   [some (Sl.val (edk n R)),some (Sl.val (.lst ((R.map Pd.hd).map fun k:Nat=>PV.int (k:Int)))),some (Sl.val (ewt R)),some (Sl.val (.int (n:Int)))]=.ok (ewl (Pd.ckl n R)):=by
  rw [WD (l:=List.range n) (p:=fun p=>!decide (p∈R.map Pd.hd)) (q:=fun k:Nat=>PV.int (k:Int)) (h:=fun p=>ew (Pd.ck n R p))]
  ·unfold Pd.ckl Pd.free ewl;rw [List.map_map];rfl
  ·simp [ju (show n<=100000 by lia)]
  ·simp;lia
  ·intro p hp;have hp':=List.mem_range.mp hp;have e3:=EncOk.nat.ninL p (R.map Pd.hd);have e4:=s_check_of n h1 h2 R hR p hp';have hcap:zV 1 [3,2,1] [some (Sl.val (edk n R)),some (Sl.val (.lst ((R.map Pd.hd).map fun k:Nat=>PV.int (k:Int)))),some (Sl.val (ewt R)),some (Sl.val (.int (n:Int)))]=[none,some (Sl.val (.int (n:Int))),some (Sl.val (ewt R)),some (Sl.val (.lst ((R.map Pd.hd).map fun k:Nat=>PV.int (k:Int))))]:=rfl
   rw [hcap];generalize (R.map Pd.hd).map (fun k:Nat=>PV.int (k:Int))=hs at *
   cases hb:decide (p∈R.map Pd.hd)<;>rw [hb] at e3<;>simp only [QB,xq,jRb,jSz,Yw,Zi,vX,xW,zX,yj,e3,XB,Bool.not_true,Bool.not_false,Yv,Aj,vp,zR,yE,xc,yD,e4,uA,if_true,Bool.false_eq_true,if_false]
 have e5:=s_made n h1 h2 (Pd.ckl n R) Pd.ckl_all (by have:=Pd.ckl_len (n:=n) (R:=R);lia);simp only [qp,zQ,zH,jMc,jMn,jCa,jNa,jLc,jLn,Nat.reduceAdd,Nat.reduceSub,List.replicate,qS,uX,vq,xq,uW,jSs,jSz,vp,zR,yE,xc,yD,jv,zX,yj,jRb,vL,e1,e2',vX,xW,Yt,i0,hc,e5,vW,uV,wY,Pd.chk]
end
theorem enc_desk7:EncOk (fun p:Nat×List Pd.W=>edk p.1 p.2) 3:=EncOk.nat.pair EncOk.ew.tup
section
variable (n:Nat) (h1:1<=n) (h2:n<=10) (R:List Pd.W) (hR:Pd.Rows n R)
include h1 h2 hR
end
end Dn
namespace Pd
end Pd
namespace Pd
end Pd
namespace Dn
open PySem Pu
section
variable (n:Nat) (h1:1<=n) (h2:n<=10) (A B:List Pd.W) (hA:Pd.Rows n A) (hB:Pd.Rows n B)
include h1 h2 hA hB
end
end Dn
namespace Pd
section
variable {n m:Nat} {A B:List W}
def wt (w:W):Nat:=w.count true
end
end Pd
namespace Pd
end Pd
namespace Dn
open PySem Pu
def vm:Df:=yC 2 (ym (eB qX (zd (zC (yu (ze 0)) 1 [1] (zp 0) (fun _=>.ok true) (eIf (vP (eB xk (zd (ze 0) (zd (ze 1) zj)))) (eC (.int 0)) (eC (.int 1)))) zj)))
theorem s_sign_by (C:List Pd.W) (w:Pd.W) (hl:C.length<=1000) (hc:∀ r∈C,r.length<=1000):vm [ewt C,ew w]=.ok (ew (Pd.sg C w)):=by
 have hcm:zC (yu (ze 0)) 1 [1] (zp 0) (fun _=>.ok true) (eIf (vP (eB xk (zd (ze 0) (zd (ze 1) zj)))) (eC (.int 0)) (eC (.int 1))) [some (Sl.val (ewt C)),some (Sl.val (ew w))]=.ok (.lst ((Pd.sg C w).map eb)):=by
  rw [yf (l:=C) (q:=ew) (h:=fun r=>eb (Pd.ip r w))]
  ·unfold Pd.sg;rw [List.map_map];rfl
  ·simp
  ·lia
  ·intro r hr;have e:=Ra r w (hc r hr);have hcap:zV 1 [1] [some (Sl.val (ewt C)),some (Sl.val (ew w))]=[none,some (Sl.val (ew w))]:=rfl;rw [hcap];cases hb:Pd.ip r w<;>rw [hb] at e<;>simp [e,eb]
 have tl:qX [.lst ((Pd.sg C w).map eb)]=.ok (ew (Pd.sg C w)):=rfl;simp only [vm,zQ,zH,jMc,jMn,jCa,jNa,jLc,jLn,Nat.reduceAdd,Nat.reduceSub,List.replicate,vW,vp,zR,yE,xc,yD,jRb,hcm,tl,uV,wY]
section
variable (n:Nat) (h1:1<=n) (h2:n<=10) (R:List Pd.W) (hR:Pd.Rows n R)
include h1 h2 hR
end
def wQ:Df:=yC 3 (zJ (yk (ql (zd (Zu zj) zj)) (zp 1))
  (zJ (uw (iR1 (zd (ze 0) zj)) (zp 2) (yk (e2 yi (zC (yu (ze 1)) 1 [] (zp 0) (fun _=>.ok true) (e2 yi (Zu (zd (eC (.int 0)) zj)) (ze 0))) (zC (yu (ze 1)) 1 [] (zp 0) (fun _=>.ok true) (e2 yi (Zu (zd (eC (.int 1)) zj)) (ze 0)))) (zp 1)))
  (ym (ze 1))))
def vo:Df:=yC 4 (zJ (yk (eB yB (zd (eB qp (zd (ze 0) zj)) zj)) (zp 1))
  (zJ (JM 2)
  (zJ (uw (yu (Ku yY (eB wQ (zd (e2 ixF (ze 0) (eC (.int 0))) zj)))) (zp 3) (Ge 2 (eB vm (zd (ze 1) (zd (ze 3) zj))) (ze 3)))
  (ym (Kv 2)))))
def wd:Nat->List Pd.W
 | 0=>[[]]
 | k+1=>((wd k).map fun w=>false::w)++(wd k).map fun w=>true::w
theorem mem_allp:∀ {k:Nat} {v:Pd.W},v∈wd k↔v.length=k
 | 0,v=>by simp [wd]
 | k+1,v=>by
  rw [wd,List.mem_append,List.mem_map,List.mem_map]
  constructor
  ·rintro (⟨w,hw,rfl⟩ | ⟨w,hw,rfl⟩)<;>simp [mem_allp.mp hw]
  ·intro h;cases v with
   | nil=>simp at h
   | cons b v =>
    have hl:v.length=k:=by simpa using h
    cases b with
    | false=>exact .inl ⟨v,mem_allp.mpr hl,rfl⟩
    | true=>exact .inr ⟨v,mem_allp.mpr hl,rfl⟩
theorem YV:∀ k,(wd k).Nodup
 | 0=>by simp [wd]
 | k+1=>by
  have ih:=YV k;have cj:∀ b:Bool,((wd k).map fun w=>b::w).Nodup:=fun b=>List.Pairwise.map _ (fun x y h z=>h (List.cons.inj z).2) ih
  rw [wd,List.nodup_append];refine ⟨cj false,cj true,fun a ha b hb e=>?_⟩
  obtain ⟨x,_,rfl⟩:=List.mem_map.mp ha;obtain ⟨y,_,rfl⟩:=List.mem_map.mp hb;cases e
theorem qu:∀ k,(wd k).length=2 ^ k
 | 0=>rfl
 | k+1=>by rw [wd,List.length_append,List.length_map,List.length_map,qu k];lia
theorem s_all_words (n:Nat) (h2:n<=10):wQ [.int (n:Int)]=.ok (ewl (wd n)):=by
 have app:∀ (w:Pd.W) (b:Bool),w.length<=1000->yi (.tup [eb b]) (ew w)=.ok (ew (b::w)):=fun w b hw=>by
  have:yi (.tup [eb b]) (.tup (w.map eb))=.ok (.tup ([eb b]++w.map eb)):=Rn (by simp;lia);unfold ew;rw [this];rfl
 have hb:∀ k,k<=10->(wd k).length<=1024:=fun k hk=>by rw [qu];exact QE hk
 have loop:∃ ρ',jj (zp 2) (yk (e2 yi (zC (yu (ze 1)) 1 [] (zp 0) (fun _=>.ok true) (e2 yi (Zu (zd (eC (.int 0)) zj)) (ze 0))) (zC (yu (ze 1)) 1 [] (zp 0) (fun _=>.ok true) (e2 yi (Zu (zd (eC (.int 1)) zj)) (ze 0)))) (zp 1))
   [some (Sl.val (.int (n:Int))),some (Sl.val (.lst [.tup []])),none] ((List.range n).map fun k:Nat=>PV.int (k:Int))=.ok (.nx ρ')/\∃ g,ρ'=[some (Sl.val (.int (n:Int))),some (Sl.val (ewl (wd (List.range n).length))),g]:=by
  refine yO (fun done ρ=>∃ g,ρ=[some (Sl.val (.int (n:Int))),some (Sl.val (ewl (wd done.length))),g]) ?_ ⟨none,rfl⟩
  rintro done r rest ρ e ⟨g,rfl⟩;have hd:=(vF e).2;have hl:=hb done.length (by lia);have hc:∀ b:Bool,∀ d:De,d=eC (eb b)->zC (yu (ze 1)) 1 [] (zp 0) (fun _=>.ok true) (e2 yi (Zu (zd d zj)) (ze 0)) [some (Sl.val (.int (n:Int))),some (Sl.val (ewl (wd done.length))),some (Sl.val (.int (r:Int)))]=.ok (ewl ((wd done.length).map fun w=>b::w)):=by
   rintro b d rfl;rw [yf (l:=wd done.length) (q:=ew) (h:=fun w=>ew (b::w))]
   ·unfold ewl;rw [List.map_map];rfl
   ·simp
   ·lia
   ·intro w hw;have:=app w b (by rw [mem_allp.mp hw];lia);simp [zV,this]
  have c0:=hc false (eC (.int 0)) rfl;have c1:=hc true (eC (.int 1)) rfl;have hadd:yi (ewl ((wd done.length).map fun w=>false::w)) (ewl ((wd done.length).map fun w=>true::w))=.ok (ewl (wd (done++[r]).length)):=by
   have:=jc (vs:=((wd done.length).map fun w=>false::w).map ew) (us:=((wd done.length).map fun w=>true::w).map ew) (by simp;lia)
   rw [<- List.map_append] at this;rw [List.length_append,List.length_singleton,wd];exact this
  refine ⟨_,?_,some (Sl.val (.int (r:Int))),rfl⟩;simp only [xq,jRb,jSs,jSz,uX,vX,xW,c0,c1,hadd,vq,uW]
 obtain ⟨ρ',l1,g,rfl⟩:=loop;rw [List.length_range] at l1;have hrg:=ju (show n<=100000 by lia);simp only [wQ,zQ,zH,jMc,jMn,jCa,jNa,jLc,jLn,Nat.reduceAdd,Nat.reduceSub,List.replicate,qS,uX,vq,xq,uW,jSs,jSz,VX,zR,yE,xc,yD,Ab,Pf,ZW,zX,yj,jRb,vL,VY,MR,hrg,l1,vW,uV,wY]
def dbi (l:List Int):Pd.W:=l.map fun i=>decide (i=1)
theorem Bq (w:Pd.W):dbi (w.map bi)=w:=by
 induction w with
 | nil=>rfl
 | cons b w ih =>
  show decide (bi b=1)::dbi (w.map bi)=b::w;rw [ih];cases b<;>rfl
def ve (l:List Pd.W):List Pd.W:=(wo false (l.map wk)).map fun k=>dbi k.tail
theorem dwk (w:Pd.W):dbi (wk w).tail=w:=Bq w
theorem uK (l:List Pd.W):(ve l).Perm l:=by
 have h:(wo false (l.map wk)).Perm (l.map wk):=List.mergeSort_perm _ _;have h2:=h.map fun k=>dbi k.tail
 rw [List.map_map] at h2;have e:l.map ((fun k=>dbi k.tail) ∘ wk)=l:=by
  conv=>rhs;rw [<- List.map_id l]
  exact List.map_congr_left fun w _=>dwk w
 rw [e] at h2;exact h2
theorem Vo (l:List Pd.W):(ve l).map wk=wo false (l.map wk):=by
 have h:(wo false (l.map wk)).Perm (l.map wk):=List.mergeSort_perm _ _;unfold ve;rw [List.map_map]
 conv=>rhs;rw [<- List.map_id (wo false (l.map wk))]
 refine List.map_congr_left fun k hk=>?_
 obtain ⟨w,_,rfl⟩:=List.mem_map.mp (h.mem_iff.mp hk);show wk (dbi (wk w).tail)=_;rw [dwk];rfl
theorem Gd (l:List Pd.W) (nd:l.Nodup) (hl:l.length<=100000):VF yY (ewl l)=.ok (ewl (ve l)):=by
 have hm:∀ l:List Pd.W,ZP yY (l.map ew)=.ok ((l.map wk).map ppv):=fun l=>by
  induction l with
  | nil=>rfl
  | cons w l ih =>
   have hp:ppv (wk w)=eky w:=by
    show PV.tup [.int (cnt w:Nat),tpv (w.map bi)]=_;rw [<- qk]
   simp only [jMc,ZP,BZ,jRb,ih,hp]
 have hne:∀ m∈l.map wk,m≠[]:=fun m hm=>by
  obtain ⟨d,_,rfl⟩:=List.mem_map.mp hm;simp [wk]
 have ndk:(l.map wk).Nodup:=List.Pairwise.map _ (fun x y h z=>h (Tz z)) nd
 have hz:ZG (l.map wk) (l.map ew)=(ve l).map ew:=by
  unfold ZG;rw [<- Vo,List.map_map];refine List.map_congr_left fun w hw=>?_
  have hw':=(uK l).mem_iff.mp hw;have zm:∀ {l:List Pd.W} {w:Pd.W},w∈l->(wk w,ew w)∈(l.map wk).zip (l.map ew):=fun {l w} h=>by
   rw [List.zip_map',List.mem_map];exact ⟨w,h,rfl⟩
  have zf:((l.map wk).zip (l.map ew)).map (·.1)=l.map wk:=by rw [List.zip_map',List.map_map];rfl
  exact Kq (p:=(wk w,ew w)) (by rw [zf];exact ndk) (zm hw')
 show (noX (ZP yY (l.map ew))).bind _=_;rw [hm];show (qR (qT ((l.map wk).map ppv))).bind _=_;rw [Gi hne];show (if (l.map wk).Nodup/\(l.map wk).length<=100000 then Res.ok (PV.lst (ZG (l.map wk) (l.map ew))) else .bad)=_
 rw [if_pos ⟨ndk,by rw [List.length_map];exact hl⟩,hz]
def Qc (C:List Pd.W) (vs:List Pd.W) (w:Pd.W):List Pd.W:=if Pd.sg C w∈vs.map (Pd.sg C) then vs else vs++[w]
def jK (C:List Pd.W) (l:List Pd.W):List Pd.W:=l.foldl (Qc C) []
theorem GM (C l:List Pd.W) (w:Pd.W):jK C (l++[w])=Qc C (jK C l) w:=by unfold jK;rw [List.foldl_append];rfl
theorem UH (C:List Pd.W) (l:List Pd.W):(jK C l).length<=l.length:=by
 have key:∀ (l acc:List Pd.W),(l.foldl (Qc C) acc).length<=acc.length+l.length:=by
  intro l
  induction l with
  | nil=>intro acc;simp
  | cons k l ih =>
   intro acc;have:=ih (Qc C acc k);have h2:(Qc C acc k).length<=acc.length+1:=by unfold Qc;split<;>simp
   simp only [List.foldl_cons,jLc];lia
 have:=key l [];simpa [jK] using this
def dkv (C:List Pd.W) (v:Pd.W):List Int×PV:=((Pd.sg C v).map bi,ew v)
def k2 (C:List Pd.W) (v:Pd.W):List Int:=PuS.enc2 ((Pd.sg C v).map bi) (v.map bi)
abbrev epr (C:List Pd.W) (v:Pd.W):PV:=.tup [ew (Pd.sg C v),ew v]
theorem BS (C vs:List Pd.W) (w:Pd.W):sdf (vs.map (dkv C)) ((Pd.sg C w).map bi) (ew w)=(Qc C vs w).map (dkv C):=by
 unfold sdf Qc;have e:((Pd.sg C w).map bi∈(vs.map (dkv C)).map (·.1))↔Pd.sg C w∈vs.map (Pd.sg C):=by
  rw [List.map_map,List.mem_map,List.mem_map]
  constructor
  ·rintro ⟨v,hv,z⟩;exact ⟨v,hv,Bv z⟩
  ·rintro ⟨v,hv,z⟩;exact ⟨v,hv,by show (Pd.sg C v).map bi=_;rw [z]⟩
 by_cases h:Pd.sg C w∈vs.map (Pd.sg C)
 ·rw [if_pos h,if_pos (e.mpr h)]
 ·rw [if_neg h,if_neg fun z=>h (e.mp z),List.map_append];rfl
def YR (C l:List Pd.W):List Pd.W:=(wo false (l.map (k2 C))).map fun k=>dbi (jS k).2
theorem dk2 (C:List Pd.W) (w:Pd.W):dbi (jS (k2 C w)).2=w:=by unfold k2;rw [XT];exact Bq w
theorem UW (C l:List Pd.W):(YR C l).map (k2 C)=wo false (l.map (k2 C)):=by
 have h:(wo false (l.map (k2 C))).Perm (l.map (k2 C)):=List.mergeSort_perm _ _;unfold YR;rw [List.map_map]
 conv=>rhs;rw [<- List.map_id (wo false (l.map (k2 C)))]
 refine List.map_congr_left fun k hk=>?_
 obtain ⟨w,_,rfl⟩:=List.mem_map.mp (h.mem_iff.mp hk);show k2 C (dbi (jS (k2 C w)).2)=_;rw [dk2];rfl
theorem AK (C:List Pd.W) (v:Pd.W):qpv (k2 C v)=epr C v:=by
 unfold k2;rw [WE,<- qk,<- qk]
theorem TW (C l:List Pd.W) (hl:l.length<=100000):JC false (.lst (l.map (epr C)))=.ok (.lst ((YR C l).map (epr C))):=by
 have e1:l.map (epr C)=(l.map fun v=>((Pd.sg C v).map bi,v.map bi)).map fun p=>PV.tup [tpv p.1,tpv p.2]:=by
  rw [List.map_map];exact List.map_congr_left fun v _=>by show epr C v=_;unfold epr;rw [qk,qk];rfl
 simp only [JC];rw [e1,MS,List.map_map];show (if (l.map (k2 C)).length<=100000 then Res.ok (PV.lst ((wo false (l.map (k2 C))).map qpv)) else .bad)=_
 rw [if_pos (by rw [List.length_map];exact hl),<- UW,List.map_map];congr 2;exact List.map_congr_left fun v _=>AK C v
theorem Pb (C l:List Pd.W) (hl:l.length<=1000):Xu (l.map (dkv C))=.ok (.lst ((YR C l).map (epr C))):=by
 unfold Xu;rw [if_pos (by rw [List.length_map];exact hl),List.map_map];have e:l.map (JZ ∘ dkv C)=l.map (epr C):=List.map_congr_left fun v _=>by
  show PV.tup [tpv ((Pd.sg C v).map bi),ew v]=_;rw [<- qk]
 rw [e];exact TW C l (by lia)
def XJ (n:Nat) (C:List Pd.W):List Pd.W:=YR C (jK C (ve (wd n)))
theorem s_leaders (n:Nat) (h1:1<=n) (h2:n<=9) (R:List Pd.W) (hR:Pd.Rows n R):vo [edk n R]=.ok (.lst ((XJ n (Pd.chk n R)).map (epr (Pd.chk n R)))):=by
 have h2':n<=10:=by lia
 have hC:=(Pd.chk_ok hR).1;have e1:=s_checks n h1 h2' R hR;have e2':=s_rows_of n h1 h2' (Pd.chk n R) hC;have hcl:=vV hC;have i0:atF [PV.int (n:Int),ewt R] 0=.ok (.int (n:Int)):=wV _ _;have e3:=s_all_words n h2';have hal:(wd n).length<=512:=by rw [qu];exact Nat.pow_le_pow_right (by decide) h2
 have e4:=Gd (wd n) (YV n) (by lia);have hbl:(ve (wd n)).length<=512:=by rw [(uK _).length_eq];exact hal
 have hln:∀ w∈ve (wd n),w.length=n:=fun w hw=>mem_allp.mp ((uK _).mem_iff.mp hw)
 unfold XJ;generalize Pd.chk n R=C at *;generalize ve (wd n)=L at *;have loop:∃ ρ',jj (zp 3) (Ge 2 (eB vm (zd (ze 1) (zd (ze 3) zj))) (ze 3)) [some (Sl.val (edk n R)),some (Sl.val (ewt C)),some (Sl.dic []),none] (L.map ew)=.ok (.nx ρ')/\∃ g,ρ'=[some (Sl.val (edk n R)),some (Sl.val (ewt C)),some (Sl.dic ((jK C L).map (dkv C))),g]:=by
  refine yO (fun done ρ=>∃ g,ρ=[some (Sl.val (edk n R)),some (Sl.val (ewt C)),some (Sl.dic ((jK C done).map (dkv C))),g]) ?_ ⟨none,rfl⟩
  rintro done w rest ρ e ⟨g,rfl⟩;have hd:done.length<=512:=by have:=congrArg List.length e;simp at this;lia
  have hf:=UH C done;have e5:=s_sign_by C w (by lia) fun r hr=>by rw [hC.len r hr];lia
  have hk:Xf (ew (Pd.sg C w))=.ok ((Pd.sg C w).map bi):=by rw [qk];simp only [tpv,Xf,xR];rfl
  have hs:=BS C (jK C done) w;rw [<- GM] at hs;refine ⟨_,?_,some (Sl.val (ew w)),rfl⟩;have hdic:jQ [some (Sl.val (edk n R)),some (Sl.val (ewt C)),some (Sl.dic ((jK C done).map (dkv C))),some (Sl.val (ew w))] 2=.ok ((jK C done).map (dkv C)):=rfl;simp only [xq,jRb,jSs,jSz,Ge,hdic,zR,vp,zX,yj,xc,yE,yD,e5,hk];rw [if_pos (by rw [List.length_map];exact Nat.lt_of_le_of_lt (Nat.le_trans hf hd) (by rw [sizeLine_eq];decide)),hs]
 obtain ⟨ρ',l1,g,rfl⟩:=loop;have hf:=UH C L;have e6:=Pb C (jK C L) (by lia);have hdic:∀ g,jQ [some (Sl.val (edk n R)),some (Sl.val (ewt C)),some (Sl.dic ((jK C L).map (dkv C))),g] 2=.ok ((jK C L).map (dkv C)):=fun _=>rfl
 have hdn:∀ ρ,JM 2 ρ=.ok (.nx (ρ.set 2 (some (.dic [])))):=fun _=>rfl
 simp only [vo,zQ,zH,jMc,jMn,jCa,jNa,jLc,jLn,Nat.reduceAdd,Nat.reduceSub,List.replicate,qS,uX,vq,xq,uW,jSs,jSz,vp,zR,yE,xc,yD,jv,zX,yj,jRb,vL,vX,xW,Yt,i0,e1,e2',hdn,VY,Yu,Rf,e3,e4,WC,l1,vW,Rg,hdic,e6,uV,wY]
section
variable {n:Nat} {R:List Pd.W} (hR:Pd.Rows n R)
include hR
end
def xL:Df:=yC 2 (zJ (yk (zC (yu (eB yh (zd (ze 0) zj))) 1 [] (zp 0) (fun _=>.ok true) (eB xK (zd (ze 0) zj))) (zp 1))
  (ym (zC (iR1 (zd (e2 yi (e2 ixF (ze 0) (eC (.int 0))) (eC (.int 1))) zj)) 1 [1] (zp 0) (fun _=>.ok true) (e2 xM (ze 1) (ze 0)))))
end Dn
namespace Pd
def sgn (b:Bool):Int:=if b then -1 else 1
theorem JI (a b:Bool):sgn (a^^b)=sgn a*sgn b:=by cases a<;>cases b<;>rfl
def sm {α:Type} (l:List α) (f:α->Int):Int:=(l.map f).sum
section
variable {α β:Type}
theorem Mp {l m:List Int} (p:l.Perm m):l.sum=m.sum:=by
 induction p with
 | nil=>rfl
 | cons x _ ih=>rw [List.sum_cons,List.sum_cons,ih]
 | swap x y l=>rw [List.sum_cons,List.sum_cons,List.sum_cons,List.sum_cons];omega
 | trans _ _ a b=>rw [a,b]
theorem Mt (f:α->Int):sm [] f=0:=rfl
theorem wI (a:α) (l:List α) (f:α->Int):sm (a::l) f=f a+sm l f:=by simp [sm]
theorem Zc (l m:List α) (f:α->Int):sm (l++m) f=sm l f+sm m f:=by simp [sm]
theorem xu {l:List α} {f g:α->Int} (h:∀ a∈l,f a=g a):sm l f=sm l g:=by unfold sm;rw [List.map_congr_left h]
theorem JF {l m:List α} (p:l.Perm m) (f:α->Int):sm l f=sm m f:=Mp (p.map f)
theorem Wp (l:List α) (g:α->β) (f:β->Int):sm (l.map g) f=sm l fun a=>f (g a):=by unfold sm;rw [List.map_map];rfl
theorem TM (l:List α) (f g:α->Int):(sm l fun a=>f a+g a)=sm l f+sm l g:=by
 induction l with
 | nil=>rfl
 | cons a l ih=>rw [wI,wI,wI,ih];omega
theorem Mu (l:List α) (c:Int) (f:α->Int):(sm l fun a=>c*f a)=c*sm l f:=by
 induction l with
 | nil=>simp [sm]
 | cons a l ih=>rw [wI,wI,ih,Int.mul_add]
theorem JE (l:List α):(sm l fun _=>(0:Int))=0:=by
 induction l with
 | nil=>rfl
 | cons a l ih=>rw [wI,ih];rfl
theorem JG (l:List α) (m:List β) (f:α->β->Int):(sm l fun a=>sm m fun b=>f a b)=sm m fun b=>sm l fun a=>f a b:=by
 induction l with
 | nil=>rw [Mt];exact (JE m).symm
 | cons a l ih =>
  rw [wI,ih,<- TM];exact xu fun b _=>(wI a l fun a=>f a b).symm
theorem VH (l:List α) (c:Int):(sm l fun _=>c)=c*(l.length:Int):=by
 induction l with
 | nil=>simp [sm]
 | cons a l ih=>rw [wI,ih,List.length_cons,Int.natCast_succ,Int.mul_add,Int.mul_one];omega
theorem Mv (l:List α) (p:α->Bool) (c:Int):(sm l fun a=>if p a=true then c else 0)=c*((l.filter p).length:Int):=by
 induction l with
 | nil=>simp [sm]
 | cons a l ih =>
  rw [wI,ih,List.filter_cons];cases h:p a with
  | true=>rw [if_pos rfl,if_pos rfl,List.length_cons,Int.natCast_succ,Int.mul_add,Int.mul_one];omega
  | false=>simp
end
section
variable {n:Nat} {R:List W}
theorem KR (h:Rows n R) {v:W} (hv:v.length=n):(sm (sprd n R) fun u=>sgn (ip u v))=if decide (Du n R v)=true then ((2 ^ R.length:Nat):Int) else 0:=by
 by_cases hd:Du n R v
 ·rw [decide_eq_true hd,if_pos rfl,xu (g:=fun _=>1) fun u hu=>by rw [hd.sp h.len ((mem_sprd h.len u).mp hu)];rfl,VH,ZF h,Int.one_mul]
 ·rw [decide_eq_false hd,if_neg (by simp)];have:∃ w∈R,ip w v=true:=by
   apply Classical.byContradiction;intro z;refine hd ⟨hv,fun w hw=>?_⟩
   cases e:ip w v with
   | false=>rfl
   | true=>exact absurd ⟨w,hw,e⟩ z
  obtain ⟨w,hw,e⟩:=this;have lw:=h.len w hw;have len:∀ u∈sprd n R,u.length=n:=fun u hu=>((mem_sprd h.len u).mp hu).length h.len
  have hp:((sprd n R).map fun u=>pl u w).Perm (sprd n R):=by
   refine perm_of_mem (nodup_map_on (sprd_nodup h.len) fun x hx y hy e=>QF (len x hx) (len y hy) lw e) (sprd_nodup h.len) fun u=>?_
   rw [List.mem_map]
   constructor
   ·rintro ⟨x,hx,rfl⟩;exact (mem_sprd h.len _).mpr (((mem_sprd h.len x).mp hx).plus h.len (Sp.of_mem h.len hw))
   ·intro hu;exact ⟨pl u w,(mem_sprd h.len _).mpr (((mem_sprd h.len u).mp hu).plus h.len (Sp.of_mem h.len hw)),yM (len u hu) lw⟩
  have a:=JF hp fun u=>sgn (ip u v)
  rw [Wp,xu (g:=fun u => -1*sgn (ip u v)) fun u hu=>by rw [UE (len u hu) lw hv,e,JI,Int.mul_comm];rfl,Mu] at a
  omega
end
def cf:W->Nat->Int
 | [],0=>1
 | [],_+1=>0
 | _::u,0=>cf u 0
 | b::u,j+1=>cf u (j+1)+sgn b*cf u j
theorem UT:∀ (u:W) (j:Nat),(sm ((aw u.length).filter fun v=>decide (wt v=j)) fun v=>sgn (ip u v))=cf u j
 | [],0=>rfl
 | [],j+1=>rfl
 | b::u,j=>by
  have ih:=UT u;have split:aw (u.length+1)=((aw u.length).map fun v=>false::v)++(aw u.length).map fun v=>true::v:=rfl
  have e0:∀ v:W,wt (false::v)=wt v:=fun v=>by simp [wt]
  have e1:∀ v:W,wt (true::v)=wt v+1:=fun v=>by simp [wt]
  have i0:∀ v:W,ip (b::u) (false::v)=ip u v:=fun v=>by simp [ip]
  have i1:∀ v:W,ip (b::u) (true::v)=(b^^ip u v):=fun v=>by simp [ip]
  rw [List.length_cons,split,List.filter_append,Zc,List.filter_map,List.filter_map,Wp,Wp];have f0:(aw u.length).filter ((fun v=>decide (wt v=j)) ∘ fun v=>false::v)=(aw u.length).filter fun v=>decide (wt v=j):=List.filter_congr fun v _=>by simp [e0]
  rw [f0,xu (g:=fun v=>sgn (ip u v)) fun v _=>by rw [i0],ih j]
  cases j with
  | zero =>
   have f1:(aw u.length).filter ((fun v=>decide (wt v=0)) ∘ fun v=>true::v)=[]:=by
    rw [List.filter_eq_nil_iff];intro v _;simp [e1]
   rw [f1,Mt,cf];omega
  | succ j =>
   have f1:(aw u.length).filter ((fun v=>decide (wt v=j+1)) ∘ fun v=>true::v)=(aw u.length).filter fun v=>decide (wt v=j):=List.filter_congr fun v _=>by simp [e1]
   rw [f1,xu (g:=fun v=>sgn b*sgn (ip u v)) fun v _=>by rw [i1,JI],Mu,ih j,cf]
theorem mac {n:Nat} {R:List W} (h:Rows n R) (j:Nat):(sm (sprd n R) fun u=>cf u j)=((2 ^ R.length:Nat):Int)*((((aw n).filter fun v=>decide (wt v=j)).filter fun v=>decide (Du n R v)).length:Int):=by
 have len:∀ u∈sprd n R,u.length=n:=fun u hu=>((mem_sprd h.len u).mp hu).length h.len
 rw [xu (g:=fun u=>sm ((aw n).filter fun v=>decide (wt v=j)) fun v=>sgn (ip u v)) fun u hu=>by rw [<- UT u j,len u hu],JG]
 rw [xu (g:=fun v=>if decide (Du n R v)=true then ((2 ^ R.length:Nat):Int) else 0) fun v hv=>KR h (mem_aw.mp (List.mem_filter.mp hv).1)]
 exact Mv _ _ _
theorem Sr (x y:Bool) (u:W):∀ j,cf (x::y::u) j=cf (y::x::u) j
 | 0=>rfl
 | 1=>by simp only [cf];omega
 | j+2=>by
  simp only [cf,Int.mul_add];have:sgn x*(sgn y*cf u j)=sgn y*(sgn x*cf u j):=by rw [<- Int.mul_assoc,<- Int.mul_assoc,Int.mul_comm (sgn x)]
  omega
theorem Su {u u':W} (h:∀ j,cf u j=cf u' j) (x:Bool):∀ j,cf (x::u) j=cf (x::u') j
 | 0=>h 0
 | j+1=>by simp only [cf,h]
theorem Ss {u u':W} (p:u.Perm u'):∀ j,cf u j=cf u' j:=by
 induction p with
 | nil=>intro j;rfl
 | cons x _ ih=>exact Su ih x
 | swap x y l=>exact Sr y x l
 | trans _ _ a b=>intro j;rw [a,b]
def kr (n i j:Nat):Int:=cf (List.replicate i true++List.replicate (n-i) false) j
theorem Tu {n:Nat} {u:W} (h:u.length=n) (j:Nat):cf u j=kr n (wt u) j:=by
 unfold kr;refine Ss ?_ j;subst h
 induction u with
 | nil=>exact .refl _
 | cons b u ih =>
  have hle:wt u<=u.length:=List.count_le_length;cases b with
  | true =>
   have e:wt (true::u)=wt u+1:=by simp [wt]
   rw [e,List.length_cons,Nat.add_sub_add_right,List.replicate_succ,List.cons_append];exact ih.cons _
  | false =>
   have e:wt (false::u)=wt u:=by simp [wt]
   rw [e,List.length_cons,Nat.succ_sub hle,List.replicate_succ];exact (ih.cons _).trans List.perm_middle.symm
end Pd
namespace Pd
def cts (n:Nat) (S:List W):List Nat:=(List.range (n+1)).map fun j=>(S.filter fun v=>decide (wt v=j)).length
theorem cts_length (n:Nat) (S:List W):(cts n S).length=n+1:=by simp [cts]
theorem LM {n:Nat} {w:W} (h:w.length=n):wt w<=n:=by subst h;exact List.count_le_length
theorem cts_le (n:Nat) (S:List W) {c:Nat} (h:c∈cts n S):c<=S.length:=by
 obtain ⟨j,_,rfl⟩:=List.mem_map.mp h;exact List.length_filter_le _ _
theorem KW {m a:Nat} (h:a<m) (f:Nat->Int):(sm (List.range m) fun i=>if decide (a=i)=true then f i else 0)=f a:=by
 induction m with
 | zero=>exact absurd h (Nat.not_lt_zero _)
 | succ m ih =>
  rw [List.range_succ,Zc]
  by_cases e:a=m
  ·subst e;rw [xu (g:=fun _=>0) fun i hi=>by
    have:=List.mem_range.mp hi;rw [decide_eq_false (by omega),if_neg (by simp)],JE]
   simp [sm]
  ·rw [ih (by omega)];simp [sm,e]
theorem Mw {n:Nat} {S:List W} (h:All n S) (f:Nat->Int):(sm (List.range (n+1)) fun i=>((S.filter fun v=>decide (wt v=i)).length:Int)*f i)=sm S fun u=>f (wt u):=by
 rw [xu (g:=fun i=>sm S fun u=>if decide (wt u=i)=true then f i else 0) fun i _=>by rw [Mv,Int.mul_comm],JG]
 exact xu fun u hu=>KW (by have:=LM (h u hu);omega) f
theorem zipIdx_cts (n:Nat) (S:List W):(cts n S).zipIdx=(List.range (n+1)).map fun i=>((S.filter fun v=>decide (wt v=i)).length,i):=by
 apply List.ext_getElem
 ·simp [cts]
 ·intro j h1 h2;simp [cts]
theorem cts_sum {n:Nat} {S:List W} (h:All n S):((cts n S).map fun c:Nat=>(c:Int)).sum=(S.length:Int):=by
 have:=Mw h fun _=>1
 rw [VH,Int.one_mul] at this;rw [<- this];unfold sm cts;rw [List.map_map];congr 1;exact List.map_congr_left fun i _=>by simp
def tot (n:Nat) (l:List (Nat×Nat)) (j:Nat):Int:=sm l fun p=>(p.1:Int)*kr n p.2 j
theorem tot_snoc (n:Nat) (l:List (Nat×Nat)) (p:Nat×Nat) (j:Nat):tot n (l++[p]) j=tot n l j+(p.1:Int)*kr n p.2 j:=by
 unfold tot;rw [Zc];simp [sm]
theorem tot_cts {n:Nat} {S:List W} (h:All n S) (j:Nat):tot n (cts n S).zipIdx j=sm S fun u=>cf u j:=by
 unfold tot;rw [zipIdx_cts,Wp];have:=Mw h fun i=>kr n i j
 rw [this];exact xu fun u hu=>(Tu (h u hu) j).symm
theorem mac_of {n:Nat} {R S T:List W} (h:Rows n R) (nS:S.Nodup) (hS:∀ w,w∈S↔Sp n R w) (nT:T.Nodup) (hT:∀ w,w∈T↔Du n R w) (j:Nat):(sm S fun u=>cf u j)=(S.length:Int)*((T.filter fun v=>decide (wt v=j)).length:Int):=by
 have pS:S.Perm (sprd n R):=perm_of_mem nS (sprd_nodup h.len) fun w=>by rw [hS,mem_sprd h.len]
 rw [JF pS,mac h j,pS.length_eq,ZF h];congr 2;refine (perm_of_mem (((aw_nodup n).filter _).filter _) (nT.filter _) fun w=>?_).length_eq
 rw [List.mem_filter,List.mem_filter,List.mem_filter,hT,mem_aw]
 constructor
 ·rintro ⟨⟨_,a⟩,b⟩;exact ⟨of_decide_eq_true b,a⟩
 ·rintro ⟨a,b⟩;exact ⟨⟨a.1,b⟩,decide_eq_true a⟩
def bs (i:Nat):Nat->W
 | 0=>[]
 | p+1=>decide (p<i)::bs i p
theorem bs_length (i:Nat):∀ p,(bs i p).length=p
 | 0=>rfl
 | p+1=>by rw [bs,List.length_cons,bs_length i p]
theorem Tw (i:Nat):∀ p,wt (bs i p)=min i p
 | 0=>by simp [bs,wt]
 | p+1=>by
  have ih:=Tw i p;unfold wt at *;rw [bs,List.count_cons,ih]
  by_cases e:p<i
  ·simp [e];omega
  ·simp [e];omega
def cl (u:W):List Int:=(List.range (u.length+1)).map (cf u)
theorem Jt:∀ (u:W) (j:Nat),u.length<j->cf u j=0
 | [],0,h=>by simp at h
 | [],_+1,_=>rfl
 | _::u,0,h=>by simp at h
 | b::u,j+1,h=>by
  rw [cf,Jt u (j+1) (by simp at h;omega),Jt u j (by simpa using h)];simp
theorem Lv (u:W):(cl u++[0]).zip (0::cl u)=(List.range (u.length+2)).map fun j=>(cf u j,if j=0 then 0 else cf u (j-1)):=by
 apply List.ext_getElem
 ·simp [cl]
 ·intro j h1 h2;have hj:j<u.length+2:=by simpa using h2
  rw [List.getElem_zip,List.getElem_map,List.getElem_range];congr 1
  ·by_cases e:j<u.length+1
   ·rw [List.getElem_append_left (by simpa [cl] using e)];simp [cl]
   ·rw [List.getElem_append_right (by simp [cl];omega)];simp [Jt u j (by omega)]
  ·cases j with
   | zero=>rfl
   | succ j=>simp [cl]
theorem cl_cons (b:Bool) (u:W):cl (b::u)=((cl u++[0]).zip (0::cl u)).map fun p:Int×Int=>p.1+sgn b*p.2:=by
 rw [Lv,List.map_map];unfold cl;refine List.map_congr_left fun j _=>?_
 cases j with
 | zero=>simp [cf]
 | succ j=>simp [cf]
theorem cl_kr {n i:Nat} (h:i<=n):cl (bs i n)=(List.range (n+1)).map (kr n i):=by
 unfold cl;rw [bs_length];refine List.map_congr_left fun j _=>?_
 rw [Tu (bs_length i n),Tw,Nat.min_eq_left h]
end Pd
namespace Dn
open PySem Pu
abbrev eN (k:Nat):PV:=.int (k:Int)
theorem GU (S:List Pd.W) (j:Nat):xM (.lst ((S.map Pd.wt).map eN)) (eN j)=.ok (eN (S.filter fun v=>decide (Pd.wt v=j)).length):=by
 have h1:=EncOk.nat.cmp (by decide) j;have h2:=EncOk.nat.lst.cmp (by decide) (S.map Pd.wt);simp only [xM];rw [if_pos (by rw [Bool.and_eq_true];exact ⟨h1,h2⟩)];congr 3;rw [List.countP_map,List.countP_map,List.countP_eq_length_filter];congr 2;funext v;exact EncOk.nat.eqv (Pd.wt v) j
theorem s_counts (n:Nat) (h1:1<=n) (h2:n<=10) (R:List Pd.W) (hR:Pd.Rows n R):xL [edk n R]=.ok (.lst ((Pd.cts n (Pd.sprd n R)).map eN)):=by
 have e1:=s_words_of n h1 h2 R hR;have hsl:=ZV h2 hR.len;have i0:atF [PV.int (n:Int),ewt R] 0=.ok (.int (n:Int)):=wV _ _;have c1:zC (yu (eB yh (zd (ze 0) zj))) 1 [] (zp 0) (fun _=>.ok true) (eB xK (zd (ze 0) zj)) [some (Sl.val (edk n R)),none]=.ok (.lst (((Pd.sprd n R).map Pd.wt).map eN)):=by
  rw [yf (l:=Pd.sprd n R) (q:=ew) (h:=fun w=>eN (Pd.wt w))]
  ·rw [List.map_map];rfl
  ·simp only [Yu,vp,zR,zX,jRb,xc,yE,yD,e1,WC]
  ·lia
  ·intro w hw;have:xK [ew w]=.ok (eN (Pd.wt w)):=s_weight w;simp only [QB,zV,jMn,List.append_nil,List.replicate,xq,jRb,jSz,Yw,Yv,vp,zR,zX,xc,yE,yD,this,uA]
 have hrg:rg1 [.int ((n:Int)+1)]=.ok ((List.range (n+1)).map fun k:Nat=>PV.int (k:Int)):=ju (n:=n+1) (by lia)
 have c2:∀ v:PV,v=.lst (((Pd.sprd n R).map Pd.wt).map eN)->zC (iR1 (zd (e2 yi (e2 ixF (ze 0) (eC (.int 0))) (eC (.int 1))) zj)) 1 [1] (zp 0) (fun _=>.ok true) (e2 xM (ze 1) (ze 0)) [some (Sl.val (edk n R)),some (Sl.val v)]=.ok (.lst ((Pd.cts n (Pd.sprd n R)).map eN)):=by
  intro v hv;rw [yf (l:=List.range (n+1)) (q:=eN) (h:=fun j=>eN ((Pd.sprd n R).filter fun v=>decide (Pd.wt v=j)).length)]
  ·unfold Pd.cts;rw [List.map_map];rfl
  ·simp only [MR,zR,vX,zX,jRb,xW,jv,Yt,i0,JT,xc,yE,yD,hrg]
  ·simp;lia
  ·intro j hj;have:=GU (Pd.sprd n R) j;rw [<- hv] at this;have hcap:zV 1 [1] [some (Sl.val (edk n R)),some (Sl.val v)]=[none,some (Sl.val v)]:=rfl;rw [hcap];simp only [QB,xq,jRb,jSz,Yw,Yv,vX,xW,zX,yj,this,uA]
 have c2':=c2 _ rfl;generalize (Pd.cts n (Pd.sprd n R)).map eN=res at *;generalize ((Pd.sprd n R).map Pd.wt).map eN=ws at *;simp only [xL,zQ,zH,jMc,jMn,jCa,jNa,jLc,jLn,Nat.reduceAdd,Nat.reduceSub,List.replicate,qS,uX,c1,jRb,vq,xq,uW,jSs,jSz,vL,vW,c2',uV,wY]
def wD:Df:=yC 5 (zJ (yk (ql (zd (eC (.int 1)) zj)) (zp 2))
  (zJ (uw (iR1 (zd (ze 0) zj)) (zp 3) (zJ (yk (eIf (yX (e2 ltF (ze 3) (ze 1))) (Jj (eC (.int 1))) (eC (.int 1))) (zp 4))
  (yk (zC (jh (zd (e2 yi (ze 2) (ql (zd (eC (.int 0)) zj))) (zd (e2 yi (ql (zd (eC (.int 0)) zj)) (ze 2)) zj))) 2 [4] (vg 0 1) (fun _=>.ok true) (e2 yi (ze 0) (e2 yT (ze 2) (ze 1)))) (zp 2))))
  (ym (ze 2))))
def yq:Df:=yC 6 (zJ (yk (e2 Qk (eB vD (zd (ze 0) zj)) (eC (.int 1))) (zp 1))
  (zJ (yk (e2 yT (ql (zd (eC (.int 0)) zj)) (e2 yi (ze 1) (eC (.int 1)))) (zp 2))
  (zJ (uw (Ko (ze 0)) (vg 3 4) (yk (zC (jh (zd (ze 2) (zd (eB wD (zd (ze 1) (zd (ze 3) zj))) zj))) 2 [4] (vg 0 1) (fun _=>.ok true) (e2 yi (ze 0) (e2 yT (ze 2) (ze 1)))) (zp 2)))
  (zJ (yk (eB qP (zd (ze 0) zj)) (zp 5))
  (ym (zC (yu (ze 2)) 1 [5] (zp 0) (fun _=>.ok true) (e2 Vh (ze 0) (ze 1))))))))
theorem s_surplus (n i:Nat) (h2:n<=10) (hi:i<=n):wD [.int (n:Int),.int (i:Int)]=.ok (.lst (((List.range (n+1)).map (Pd.kr n i)).map PV.int)):=by
 rw [<- Pd.cl_kr hi];have loop:∃ ρ',jj (zp 3) (zJ (yk (eIf (yX (e2 ltF (ze 3) (ze 1))) (Jj (eC (.int 1))) (eC (.int 1))) (zp 4))
   (yk (zC (jh (zd (e2 yi (ze 2) (ql (zd (eC (.int 0)) zj))) (zd (e2 yi (ql (zd (eC (.int 0)) zj)) (ze 2)) zj))) 2 [4] (vg 0 1) (fun _=>.ok true) (e2 yi (ze 0) (e2 yT (ze 2) (ze 1)))) (zp 2)))
   [some (Sl.val (.int (n:Int))),some (Sl.val (.int (i:Int))),some (Sl.val (.lst [.int 1])),none,none] ((List.range n).map fun k:Nat=>PV.int (k:Int))=.ok (.nx ρ')
   /\ ∃ g3 g4,ρ'=[some (Sl.val (.int (n:Int))),some (Sl.val (.int (i:Int))),some (Sl.val (.lst ((Pd.cl (Pd.bs i (List.range n).length)).map PV.int))),g3,g4]:=by
  refine yO (fun done ρ=>∃ g3 g4,ρ=[some (Sl.val (.int (n:Int))),some (Sl.val (.int (i:Int))),some (Sl.val (.lst ((Pd.cl (Pd.bs i done.length)).map PV.int))),g3,g4]) ?_ ⟨none,none,rfl⟩
  rintro done p rest ρ e ⟨g3,g4,rfl⟩;have hd:=(vF e).2;have hp:p=done.length:=by
   have h:=congrArg (fun l=>l[done.length]?) e;simp at h;rw [List.getElem?_range hd] at h;exact (Option.some.inj h).symm
  subst hp;have hcl:(Pd.cl (Pd.bs i done.length)).length=done.length+1:=by simp [Pd.cl,Pd.bs_length]
  have hst:(eIf (yX (e2 ltF (ze 3) (ze 1))) (Jj (eC (.int 1))) (eC (.int 1))) [some (Sl.val (.int (n:Int))),some (Sl.val (.int (i:Int))),some (Sl.val (.lst ((Pd.cl (Pd.bs i done.length)).map PV.int))),some (Sl.val (.int (done.length:Int))),g4]=.ok (.int (Pd.sgn (decide (done.length<i)))):=by
   by_cases h:done.length<i
   ·have h':decide ((done.length:Int)<(i:Int))=true:=decide_eq_true (by lia);simp only [SM,Zi,vX,xW,zX,yj,jRb,Af,h',XB,Rl,Ae,jv,Ri,h,decide_true];rfl
   ·have h':decide ((done.length:Int)<(i:Int))=false:=decide_eq_false (by lia);simp only [SM,Zi,vX,xW,zX,yj,jRb,Af,h',XB,QA,jv,h,decide_false];rfl
  have hb : -1000000<Pd.sgn (decide (done.length<i))/\Pd.sgn (decide (done.length<i))<1000000:=by cases decide (done.length<i)<;>decide
  have hbs:Pd.cl (Pd.bs i (done++[done.length]).length)=((Pd.cl (Pd.bs i done.length)++[0]).zip (0::Pd.cl (Pd.bs i done.length))).map fun q:Int×Int=>q.1+Pd.sgn (decide (done.length<i))*q.2:=by
   rw [List.length_append,List.length_singleton,Pd.bs,Pd.cl_cons]
  rw [hbs];generalize Pd.sgn (decide (done.length<i))=s at *;generalize Pd.cl (Pd.bs i done.length)=l at *;have a1:yi (.lst (l.map PV.int)) (.lst [.int 0])=.ok (.lst ((l++[0]).map PV.int)):=by rw [jc (by simp;lia),List.map_append];rfl
  have a2:yi (.lst [.int 0]) (.lst (l.map PV.int))=.ok (.lst ((0::l).map PV.int)):=by rw [jc (by simp;lia)];rfl
  have hz:=ZU (γ:=Unit) PV.int PV.int (l++[0]) (0::l);have hc:zC (jh (zd (e2 yi (ze 2) (ql (zd (eC (.int 0)) zj))) (zd (e2 yi (ql (zd (eC (.int 0)) zj)) (ze 2)) zj))) 2 [4] (vg 0 1) (fun _=>.ok true) (e2 yi (ze 0) (e2 yT (ze 2) (ze 1)))
    [some (Sl.val (.int (n:Int))),some (Sl.val (.int (i:Int))),some (Sl.val (.lst (l.map PV.int))),some (Sl.val (.int (done.length:Int))),some (Sl.val (.int s))]=.ok (.lst ((((l++[0]).zip (0::l)).map fun q:Int×Int=>q.1+s*q.2).map PV.int)):=by
   rw [yf (l:=(l++[0]).zip (0::l)) (q:=fun q=>PV.tup [.int q.1,.int q.2]) (h:=fun q=>PV.int (q.1+s*q.2))]
   ·rw [List.map_map];rfl
   ·simp only [MQ,zR,vX,zX,yj,jRb,xW,VX,jv,xc,yE,yD,ZW,a1,a2,MK,hz]
   ·simp;lia
   ·intro q hq;have m1:yT (.int s) (.int q.2)=.ok (.int (s*q.2)):=zN hb;have hcap:zV 2 [4] [some (Sl.val (.int (n:Int))),some (Sl.val (.int (i:Int))),some (Sl.val (.lst (l.map PV.int))),some (Sl.val (.int (done.length:Int))),some (Sl.val (.int s))]=[none,none,some (Sl.val (.int s))]:=rfl;rw [hcap];simp only [QB,ML,jRb,jSz,jSs,Yw,Yv,vX,zX,yj,xW,m1,JT,uA]
  refine ⟨_,?_,some (Sl.val (.int (done.length:Int))),some (Sl.val (.int s)),rfl⟩;simp only [xq,jRb,jSz,jSs,qS,uX,hst,vq,uW,vL,hc]
 obtain ⟨ρ',l1,g3,g4,rfl⟩:=loop;rw [List.length_range] at l1;have hrg:=ju (show n<=100000 by lia);simp only [wD,zQ,zH,jMc,jMn,jCa,jNa,jLc,jLn,Nat.reduceAdd,Nat.reduceSub,List.replicate,qS,uX,vq,xq,uW,jSs,jSz,VX,zR,yE,xc,yD,jv,ZW,zX,yj,jRb,vL,VY,MR,hrg,l1,vW,uV,wY]
theorem Qg (m:Nat) (f g:Nat->Int):((List.range m).map f).zip ((List.range m).map g)=(List.range m).map fun j=>(f j,g j):=by
 rw [List.zip_map']
theorem LY (n:Nat) (h2:n<=10) (S T:List Pd.W) (ha:Pd.All n S) (h0:1<=S.length) (hz:S.length<=1024) (hm:∀ j,(Pd.sm S fun u=>Pd.cf u j)=(S.length:Int)*((T.filter fun v=>decide (Pd.wt v=j)).length:Int)) :
  yq [.lst ((Pd.cts n S).map eN)]=.ok (.lst ((Pd.cts n T).map eN)):=by
 have hcl:=Pd.cts_length n S;have hln:vD [.lst ((Pd.cts n S).map eN)]=.ok (.int ((n:Int)+1)):=by rw [Rk,List.length_map,hcl];simp
 have hle:∀ c∈Pd.cts n S,c<=1024:=fun c hc=>Nat.le_trans (Pd.cts_le n S hc) hz
 have hsum:qP [.lst ((Pd.cts n S).map eN)]=.ok (.int (S.length:Int)):=by
  have:=VC ((Pd.cts n S).map fun c:Nat=>(c:Int))
  rw [Pd.cts_sum ha,List.map_map] at this;exact this
 have hsub:Qk (.int ((n:Int)+1)) (.int 1)=.ok (.int (n:Int)):=by rw [Ac];congr 2;lia
 have hmul:yT (.lst [.int 0]) (.int ((n:Int)+1))=.ok (.lst (((List.range (n+1)).map (Pd.tot n [])).map PV.int)):=by
  have:=JR (us:=[.int 0]) (k:=n+1) (by simp;lia) (by lia);rw [UK] at this;have z:List.replicate (n+1) (PV.int 0)=((List.range (n+1)).map (Pd.tot n [])).map PV.int:=by
   rw [List.map_map];apply List.ext_getElem
   ·simp
   ·intro j _ _;simp [Pd.tot,Pd.sm]
  rw [z] at this;exact this
 have loop:∃ ρ',jj (vg 3 4) (yk (zC (jh (zd (ze 2) (zd (eB wD (zd (ze 1) (zd (ze 3) zj))) zj))) 2 [4] (vg 0 1) (fun _=>.ok true) (e2 yi (ze 0) (e2 yT (ze 2) (ze 1)))) (zp 2))
   [some (Sl.val (.lst ((Pd.cts n S).map eN))),some (Sl.val (.int (n:Int))),some (Sl.val (.lst (((List.range (n+1)).map (Pd.tot n [])).map PV.int))),none,none,none] ((Pd.cts n S).zipIdx.map fun p=>PV.tup [.int (p.2:Nat),eN p.1])=.ok (.nx ρ')
   /\ ∃ g3 g4,ρ'=[some (Sl.val (.lst ((Pd.cts n S).map eN))),some (Sl.val (.int (n:Int))),some (Sl.val (.lst (((List.range (n+1)).map (Pd.tot n (Pd.cts n S).zipIdx)).map PV.int))),g3,g4,none]:=by
  refine yO (fun done ρ=>∃ g3 g4,ρ=[some (Sl.val (.lst ((Pd.cts n S).map eN))),some (Sl.val (.int (n:Int))),some (Sl.val (.lst (((List.range (n+1)).map (Pd.tot n done)).map PV.int))),g3,g4,none]) ?_ ⟨none,none,rfl⟩
  rintro done p rest ρ e ⟨g3,g4,rfl⟩;have hp:p∈(Pd.cts n S).zipIdx:=by rw [e];simp
  have hp2:p.2<=n/\p.1<=1024:=by
   rw [Pd.zipIdx_cts] at hp;obtain ⟨i,hi,rfl⟩:=List.mem_map.mp hp;have:=List.mem_range.mp hi;exact ⟨by lia,Nat.le_trans (List.length_filter_le _ _) hz⟩
  have e1:=s_surplus n p.2 h2 hp2.1;have hzp:=ZU (γ:=Unit) PV.int PV.int ((List.range (n+1)).map (Pd.tot n done)) ((List.range (n+1)).map (Pd.kr n p.2));have hnew:(List.range (n+1)).map (Pd.tot n (done++[p]))=(((List.range (n+1)).map (Pd.tot n done)).zip ((List.range (n+1)).map (Pd.kr n p.2))).map fun q:Int×Int=>q.1+(p.1:Int)*q.2:=by
   rw [Qg,List.map_map];exact List.map_congr_left fun j _=>Pd.tot_snoc n done p j
  have hl1:((List.range (n+1)).map (Pd.tot n done)).length=n+1:=by simp
  rw [hnew];generalize (List.range (n+1)).map (Pd.tot n done)=l at *;generalize (List.range (n+1)).map (Pd.kr n p.2)=k at *;generalize (Pd.cts n S).map eN=nums at *;have hc:zC (jh (zd (ze 2) (zd (eB wD (zd (ze 1) (zd (ze 3) zj))) zj))) 2 [4] (vg 0 1) (fun _=>.ok true) (e2 yi (ze 0) (e2 yT (ze 2) (ze 1)))
    [some (Sl.val (.lst nums)),some (Sl.val (.int (n:Int))),some (Sl.val (.lst (l.map PV.int))),some (Sl.val (.int (p.2:Nat))),some (Sl.val (eN p.1)),none]=.ok (.lst (((l.zip k).map fun q:Int×Int=>q.1+(p.1:Int)*q.2).map PV.int)):=by
   rw [yf (l:=l.zip k) (q:=fun q=>PV.tup [.int q.1,.int q.2]) (h:=fun q=>PV.int (q.1+(p.1:Int)*q.2))]
   ·rw [List.map_map];rfl
   ·simp only [MQ,zR,zX,yj,jRb,xc,vp,yE,yD,e1,MK,hzp]
   ·simp;lia
   ·intro q hq;have m1:yT (eN p.1) (.int q.2)=.ok (.int ((p.1:Int)*q.2)):=zN (by lia);have hcap:zV 2 [4] [some (Sl.val (.lst nums)),some (Sl.val (.int (n:Int))),some (Sl.val (.lst (l.map PV.int))),some (Sl.val (.int (p.2:Nat))),some (Sl.val (eN p.1)),none]=[none,none,some (Sl.val (eN p.1))]:=rfl;rw [hcap];simp only [QB,ML,jRb,jSz,jSs,Yw,Yv,vX,zX,yj,xW,m1,JT,uA]
  refine ⟨_,?_,some (Sl.val (.int (p.2:Nat))),some (Sl.val (eN p.1)),rfl⟩;simp only [ML,jRb,jSz,jSs,uX,hc,vq,xq,uW]
 obtain ⟨ρ',l1,g3,g4,rfl⟩:=loop;have hen:=Zt eN (Pd.cts n S) 0;have htot:(List.range (n+1)).map (Pd.tot n (Pd.cts n S).zipIdx)=(List.range (n+1)).map fun j=>(S.length:Int)*((T.filter fun v=>decide (Pd.wt v=j)).length:Int):=List.map_congr_left fun j _=>by rw [Pd.tot_cts ha,hm]
 rw [htot] at l1;have hcd:zC (yu (ze 2)) 1 [5] (zp 0) (fun _=>.ok true) (e2 Vh (ze 0) (ze 1)) [some (Sl.val (.lst ((Pd.cts n S).map eN))),some (Sl.val (.int (n:Int))),some (Sl.val (.lst (((List.range (n+1)).map fun j=>(S.length:Int)*((T.filter fun v=>decide (Pd.wt v=j)).length:Int)).map PV.int))),g3,g4,some (Sl.val (.int (S.length:Int)))]=.ok (.lst ((Pd.cts n T).map eN)):=by
  rw [yf (l:=List.range (n+1)) (q:=fun j=>PV.int ((S.length:Int)*((T.filter fun v=>decide (Pd.wt v=j)).length:Int))) (h:=fun j=>eN (T.filter fun v=>decide (Pd.wt v=j)).length)]
  ·unfold Pd.cts;rw [List.map_map];rfl
  ·simp only [Yu,zX,yj,jRb,WC,List.map_map];rfl
  ·simp;lia
  ·intro j hj;have hcap:∀ a b c d e,zV 1 [5] [a,b,c,d,e,some (Sl.val (.int (S.length:Int)))]=[none,some (Sl.val (.int (S.length:Int)))]:=fun _ _ _ _ _=>rfl
   have hf:Vh (.int ((S.length:Int)*((T.filter fun v=>decide (Pd.wt v=j)).length:Int))) (.int (S.length:Int))=.ok (eN (T.filter fun v=>decide (Pd.wt v=j)).length):=by
    rw [SL (by lia) (by lia),Int.mul_ediv_cancel_left _ (by lia)]
   rw [hcap];simp only [QB,xq,jRb,jSz,Yw,Yv,vX,zX,yj,xW,hf,uA]
 generalize (Pd.cts n S).map eN=nums at *;generalize ((List.range (n+1)).map (Pd.tot n [])).map PV.int=t0 at *;generalize ((List.range (n+1)).map fun j=>(S.length:Int)*((T.filter fun v=>decide (Pd.wt v=j)).length:Int)).map PV.int=t1 at *
 have ad:yi (.int (n:Int)) (.int 1)=.ok (.int ((n:Int)+1)):=JT;simp only [yq,zQ,zH,jMc,jMn,jCa,jNa,jLc,jLn,Nat.reduceAdd,Nat.reduceSub,List.replicate,qS,uX,vq,xq,uW,jSs,jSz,vX,vp,zR,yE,xc,yD,jv,zX,yj,jRb,vL,xW,hln,hsub,VX,ZW,ad,hmul,VY,Ph,Ai,hen,l1,hsum,hcd,vW,uV,wY]
def ui:Df:=yC 2 (ym (eB Vs (zd (zC (jh (zd (ze 0) (zd (ze 1) zj))) 2 [] (vg 0 1) (fun _=>.ok true) (eOr (e2 isN (ze 1) (eC .non)) (e2 eqF (ze 1) (ze 0)))) zj)))
def wF:Df:=yC 2 (ym (zC (yu (eB yh (zd (ze 0) zj))) 1 [1] (zp 0) (vP (eB ui (zd (ze 0) (zd (ze 1) zj)))) (ze 0)))
abbrev Tn:=List (Option Bool)
def eo:Option Bool->PV
 | none=>.non
 | some b=>eb b
abbrev et (t:Tn):PV:=.tup (t.map eo)
def okB (b:Bool) (o:Option Bool):Bool:=match o with
 | none=>true
 | some c=>decide (c=b)
def agr (w:Pd.W) (t:Tn):Bool:=(w.zip t).all fun p=>okB p.1 p.2
theorem Vv:∀ (w:Pd.W) (t:Tn),zpL (w.map eb) (t.map eo)=(w.zip t).map fun p=>PV.tup [eb p.1,eo p.2]
 | [],t=>by cases t<;>rfl
 | b::w,[]=>rfl
 | b::w,o::t=>by
  have:=Vv w t;simp only [jMc,zpL,List.zip_cons_cons,this]
theorem s_agrees (w:Pd.W) (t:Tn) (hw:w.length<=1000):ui [ew w,et t]=.ok (.bl (agr w t)):=by
 have hc:zC (jh (zd (ze 0) (zd (ze 1) zj))) 2 [] (vg 0 1) (fun _=>.ok true) (eOr (e2 isN (ze 1) (eC .non)) (e2 eqF (ze 1) (ze 0))) [some (Sl.val (ew w)),some (Sl.val (et t))]=.ok (.lst (((w.zip t).map fun p=>okB p.1 p.2).map PV.bl)):=by
  rw [yf (l:=w.zip t) (q:=fun p=>PV.tup [eb p.1,eo p.2]) (h:=fun p=>PV.bl (okB p.1 p.2))]
  ·rw [List.map_map];rfl
  ·simp [ew,Vv]
  ·simp;omega
  ·intro p hp;obtain ⟨b,o⟩:=p;cases o with
   | none=>simp [zV,eo,isN,okB]
   | some c =>
    have e:=EncOk.eb.eqF c b;have e2:isN (eb c) .non=.ok (.bl false):=rfl;simp [zV,eo,e2,okB,e]
 have e3:=Vq ((w.zip t).map fun p=>okB p.1 p.2)
 rw [List.all_map] at e3;simp only [ui,zQ,zH,jMc,jMn,jCa,jNa,jLc,jLn,Nat.reduceAdd,Nat.reduceSub,List.replicate,vW,vp,zR,yE,xc,yD,hc,jRb,e3,uV,wY];rfl
section
variable (n:Nat) (h1:1<=n) (h2:n<=10) (R:List Pd.W) (hR:Pd.Rows n R)
include h1 h2 hR
theorem s_fillings (t:Tn):wF [edk n R,et t]=.ok (ewl ((Pd.sprd n R).filter fun w=>agr w t)):=by
 have e1:=s_words_of n h1 h2 R hR;have hsl:=ZV h2 hR.len;have hc:zC (yu (eB yh (zd (ze 0) zj))) 1 [1] (zp 0) (vP (eB ui (zd (ze 0) (zd (ze 1) zj)))) (ze 0) [some (Sl.val (edk n R)),some (Sl.val (et t))]=.ok (ewl ((Pd.sprd n R).filter fun w=>agr w t)):=by
  rw [WD (l:=Pd.sprd n R) (p:=fun w=>agr w t) (q:=ew) (h:=ew)]
  ·simp [e1]
  ·omega
  ·intro w hw;have e3:=s_agrees w t (by rw [jo hR.len w hw];omega);have hcap:zV 1 [1] [some (Sl.val (edk n R)),some (Sl.val (et t))]=[none,some (Sl.val (et t))]:=rfl;rw [hcap];generalize et t=T at *;cases hb:agr w t<;>rw [hb] at e3<;>simp [e3]
 simp only [wF,zQ,zH,jMc,jMn,jCa,jNa,jLc,jLn,Nat.reduceAdd,Nat.reduceSub,List.replicate,vW,hc,jRb,uV,wY]
end
def ye:Df:=yC 3 (Zh [(eB vo (zd (ze 0) zj)),(eB xL (zd (ze 0) zj)),(eB vc (zd (ze 0) zj)),(eB yh (zd (ze 0) zj)),(eB wF (zd (ze 0) (zd (ze 1) zj)))] (eB yq (zd (eB xL (zd (ze 0) zj)) zj)))
def d_law_k24:Df:=yC 8 (zJ (yk (eB xZ (zd (ze 0) (zd (eC (.int 1)) zj))) (zp 1))
  (zJ (yk (eB qX (zd (e2 yi (e2 yT (ql (zd (eC .non) zj)) (e2 Qk (e2 ixF (ze 1) (eC (.int 0))) (eC (.int 1)))) (ql (zd (eC (.int 0)) zj))) zj)) (zp 2))
  (zJ (ME 3 4 5 ye (zd (ze 1) (zd (ze 2) zj)))
  (zJ (sIf (yX (e2 neF (Uk (eB ye (zd (ze 1) (zd (ze 2) zj)))) (ze 4))) (ym (eC (.bl false))) wr)
  (zJ (VS 6 7 (eB je (zd (e2 ixF (ze 1) (eC (.int 1))) zj)) (eB uI (zd (e2 ixF (ze 1) (eC (.int 0))) (zd (ze 6) zj))) (yX (e2 neF (ze 6) (eB je (zd (e2 ixF (ze 1) (eC (.int 1))) zj)))) (eC (.int 0)))
  (ym (e2 eqF (ze 7) (ze 1))))))))
def Sf (u:PV):Prop:=(dat u).canLay0=true/\(dat u).depth<=10/\eqv u u=true
theorem EncOk.sf {α:Type} {f:α->PV} {d:Nat} (h:EncOk f d) (hd:d<=10) (a:α):Sf (f a):=⟨h.lay a,Nat.le_trans (h.dep a) hd,(h.eq a a).mpr rfl⟩
theorem JJ:∀ {us:List PV},(∀ u∈us,Sf u)->PyData.canLayAll0 (dats us)=true/\PyData.depthAll (dats us)<=10/\PyData.eqvAll (dats us) (dats us)=true
 | [],_=>by simp [dats,PyData.canLayAll0,PyData.depthAll,PyData.eqvAll]
 | u::us,h=>by
  obtain ⟨a1,a2,a3⟩:=h u jC;obtain ⟨b1,b2,b3⟩:=JJ fun v hv=>h v (jM _ hv)
  unfold eqv at a3;refine ⟨by simp [dats,PyData.canLayAll0,a1,b1],?_,by simp [dats,PyData.eqvAll,a3,b3]⟩;simp only [dats,PyData.depthAll];exact Nat.max_le.mpr ⟨a2,b2⟩
theorem PJ {us:List PV} (h:∀ u∈us,Sf u):neF (.lst us) (.lst us)=.ok (.bl false):=by
 obtain ⟨a1,a2,a3⟩:=JJ h;have hc:xB (.lst us)=true:=by
  unfold xB;rw [Bool.and_eq_true,decide_eq_true_eq];refine ⟨by simp [dat,PyData.canLay0,a1],?_⟩;simp only [dat,PyData.depth];lia
 have he:eqv (.lst us) (.lst us)=true:=by simp only [eqv,dat,PyData.eqv];exact a3
 unfold neF;rw [hc,he];rfl
theorem vu {α:Type} {f:α->PV} (h:∀ a,noL (f a)=true):∀ l:List α,noLs (l.map f)=true
 | []=>rfl
 | a::l=>by simp only [jMc,noLs,h a,vu h l,Bool.and_self]
theorem RS (b:Bool):noL (eb b)=true:=by cases b<;>rfl
theorem QX (w:Pd.W):noL (ew w)=true:=by unfold ew;simp only [noL];exact vu RS w
theorem PF (C:List Pd.W) (v:Pd.W):noL (epr C v)=true:=by simp only [epr,noL,noLs,QX,Bool.and_self]
theorem PH (n:Nat) (R:List Pd.W):noL (edk n R)=true:=by
 have h:noLs (R.map ew)=true:=vu QX R;simp only [edk,ewt,noL,noLs,h,Bool.and_self]
section
variable {n:Nat} {R:List Pd.W} (h1:1<=n) (h2:n<=8) (hR:Pd.Rows n R)
include h1 h2 hR
def six (n:Nat) (R:List Pd.W) (t:Tn):List PV:=[.lst ((XJ n (Pd.chk n R)).map (epr (Pd.chk n R))),.lst ((Pd.cts n (Pd.sprd n R)).map eN),.lst ((R.map Pd.hd).map fun k:Nat=>PV.int (k:Int)),ewl (Pd.sprd n R),ewl ((Pd.sprd n R).filter fun w=>agr w t),.lst ((Pd.cts n (Pd.sprd n (Pd.chk n R))).map eN)]
theorem LX (t:Tn):ye [edk n R,et t]=.ok (.lst (six n R t)):=by
 have h10:n<=10:=by lia
 obtain ⟨hC,hC2⟩:=Pd.chk_ok hR;have e1:=s_leaders n h1 (by lia) R hR;have e2':=s_counts n h1 h10 R hR;have e3:=s_heads n h1 h10 R hR;have e4:=s_words_of n h1 h10 R hR;have e5:=s_fillings n h1 h10 R hR t;have hS1:1<=(Pd.sprd n R).length:=List.length_pos_of_mem ((Pd.mem_sprd hR.len _).mpr .zero);have e6:=LY n h10 (Pd.sprd n R) (Pd.sprd n (Pd.chk n R)) (jo hR.len) hS1 (ZV h10 hR.len) fun j=>Pd.mac_of hR (Pd.sprd_nodup hR.len) (Pd.mem_sprd hR.len) (Pd.sprd_nodup hC.len) (fun w=>by rw [Pd.mem_sprd hC.len,hC2]) j
 unfold six;generalize PV.lst ((XJ n (Pd.chk n R)).map (epr (Pd.chk n R)))=u1 at *;generalize PV.lst ((Pd.cts n (Pd.sprd n R)).map eN)=u2 at *;generalize PV.lst ((R.map Pd.hd).map fun k:Nat=>PV.int (k:Int))=u3 at *
 generalize ewl (Pd.sprd n R)=u4 at *;generalize ewl ((Pd.sprd n R).filter fun w=>agr w t)=u5 at *
 generalize PV.lst ((Pd.cts n (Pd.sprd n (Pd.chk n R))).map eN)=u6 at *;have hl:Zh [(eB vo (zd (ze 0) zj)),(eB xL (zd (ze 0) zj)),(eB vc (zd (ze 0) zj)),(eB yh (zd (ze 0) zj)),(eB wF (zd (ze 0) (zd (ze 1) zj)))] (eB yq (zd (eB xL (zd (ze 0) zj)) zj)) [some (Sl.val (edk n R)),some (Sl.val (et t)),none]=.ok (.rt (.lst [u1,u2,u3,u4,u5,u6])):=by
  simp only [Zh,Qd,vp,zR,yE,xc,yD,zX,yj,jRb,e1,e2',e3,e4,e5,e6,jCa,jNa]
 simp only [ye,zQ,zH,jMc,jMn,jCa,jNa,jLc,jLn,Nat.reduceAdd,Nat.reduceSub,List.replicate,hl,jRb,wY]
end
theorem TN (n:Nat) (R:List Pd.W) (t:Tn):(∀ u∈six n R t,Sf u)/\Vr (six n R t)=true:=by
 have encP:EncOk (epr (Pd.chk n R)) 2:=(EncOk.ew.pair EncOk.ew).comp (fun v=>(Pd.sg (Pd.chk n R) v,v)) fun a b h=>(Prod.mk.inj h).2
 have a1:=EncOk.sf encP.lst (by decide) (XJ n (Pd.chk n R));have a2:=fun l=>EncOk.sf EncOk.nat.lst (by decide) l
 have a3:=fun l=>EncOk.sf EncOk.ew.lst (by decide) l
 constructor
 ·intro u hu;simp only [six,List.mem_cons,List.not_mem_nil,or_false] at hu
  rcases hu with rfl | rfl | rfl | rfl | rfl | rfl
  ·exact a1
  ·exact a2 _
  ·exact a2 _
  ·exact a3 _
  ·exact a3 _
  ·exact a2 _
 ·have b1:=vu (PF (Pd.chk n R)) (XJ n (Pd.chk n R));have b2:∀ l:List Nat,noLs (l.map fun k:Nat=>PV.int (k:Int))=true:=vu fun a=>rfl
  have b3:=fun l:List Pd.W=>vu QX l
  have b4:∀ l:List Nat,noLs (l.map eN)=true:=vu fun a=>rfl
  unfold Vr six ewl;simp only [List.all_cons,List.all_nil,b1,b2,b3,b4,Bool.and_self]
theorem law_k24_true (ns:List Int) (h63:ns.length<=63):d_law_k24 [.lst (ns.map PV.int)]=.ok (.bl true):=by
 show d_law_k24 [scr ns]=_;have p1:=VI ns 1;have p2:=JH ns 1;have hR:=NC ns 1;have hdk:xZ [scr ns,.int 1]=.ok (edk (size ns 1) (ldk ns 1)):=Rb ns 1 h63;generalize size ns 1=n at *;generalize ldk ns 1=R at *;have h2:n<=10:=by lia
 have hrl:=vV hR;have i0:atF [PV.int (n:Int),ewt R] 0=.ok (.int (n:Int)):=wV _ _;have i1:atF [PV.int (n:Int),ewt R] 1=.ok (ewt R):=uM _ 1 (by simp);have sb:Qk (.int (n:Int)) (.int 1)=.ok (.int ((n-1:Nat):Int)):=by
  show Res.ok (PV.int ((n:Int)-1))=_;congr 2;lia
 have mu:yT (.lst [.non]) (.int ((n-1:Nat):Int))=.ok (.lst (List.replicate (n-1) [PV.non]).flatten):=JR (by simp;lia) (by lia);have fl:∀ k:Nat,(List.replicate k [PV.non]).flatten=(List.replicate k (none:Option Bool)).map eo:=fun k=>by
  induction k with
  | zero=>rfl
  | succ k ih=>rw [List.replicate_succ,List.flatten_cons,ih,List.replicate_succ,List.map_cons];rfl
 rw [fl] at mu;have ad:yi (.lst ((List.replicate (n-1) (none:Option Bool)).map eo)) (.lst [.int 0])=.ok (.lst ((List.replicate (n-1) (none:Option Bool)++[some false]).map eo)):=by
  have:=jc (vs:=(List.replicate (n-1) (none:Option Bool)).map eo) (us:=[.int 0]) (by simp;lia);rw [this,List.map_append];rfl
 have tp:qX [.lst ((List.replicate (n-1) (none:Option Bool)++[some false]).map eo)]=.ok (et (List.replicate (n-1) none++[some false])):=rfl;have l1:∀ v:PV,PN [v]=.ok (.lst [v]):=fun v=>xt (by simp)
 generalize List.replicate (n-1) (none:Option Bool)++[some false]=t at *;have s2:=LX p1 p2 hR t;obtain ⟨sf,al⟩:=TN n R t;have n1:=PJ sf;have hlen:(six n R t).length<=1000:=by simp [six]
 generalize six n R t=U at *;have md:=s_made n p1 h2 R hR.len (by lia);rw [Pd.mk_of_rows hR] at md;have n2:=EncOk.ew.lst.neF R R;simp only [decide_true,Bool.not_true] at n2;have lf:je [ewt R]=.ok (ewl R):=rfl;have n2':neF (ewl R) (ewl R)=.ok (.bl false):=n2;have q1:=enc_desk7.eqF (n,R) (n,R);simp only [decide_true] at q1;have nd:=PH n R;have blk:ME 3 4 5 ye (zd (ze 1) (zd (ze 2) zj)) [some (Sl.val (scr ns)),some (Sl.val (edk n R)),some (Sl.val (et t)),none,none,none,none,none]=.ok (.nx [some (Sl.val (scr ns)),some (Sl.val (edk n R)),some (Sl.val (et t)),none,some (Sl.val (.lst U)),none,none,none]):=by
  have e:eB ye (zd (ze 1) (zd (ze 2) zj)) [some (Sl.val (scr ns)),some (Sl.val (edk n R)),some (Sl.val (et t)),none,none,none,none,none]=.ok (.lst U):=by
   simp only [vp,zR,yj,zX,xc,yE,yD,jRb,s2]
  unfold ME;rw [e];show (if (Vr U&&decide (U.length<=1000/\3<8/\5<8))=true then Res.ok (Out.nx _) else .bad)=_
  rw [if_pos (by rw [al,Bool.true_and,decide_eq_true_eq];exact ⟨hlen,by decide,by decide⟩)];rfl
 have s1:Uk (eB ye (zd (ze 1) (zd (ze 2) zj))) [some (Sl.val (scr ns)),some (Sl.val (edk n R)),some (Sl.val (et t)),none,some (Sl.val (.lst U)),none,none,none]=.ok (.lst U):=by
  have e:eB ye (zd (ze 1) (zd (ze 2) zj)) [some (Sl.val (scr ns)),some (Sl.val (edk n R)),some (Sl.val (et t)),none,some (Sl.val (.lst U)),none,none,none]=.ok (.lst U):=by
   simp only [vp,zR,yj,zX,xc,yE,yD,jRb,s2]
  unfold Uk;rw [e];exact if_pos al
 have tail:VS 6 7 (eB je (zd (e2 ixF (ze 1) (eC (.int 1))) zj)) (eB uI (zd (e2 ixF (ze 1) (eC (.int 0))) (zd (ze 6) zj))) (yX (e2 neF (ze 6) (eB je (zd (e2 ixF (ze 1) (eC (.int 1))) zj)))) (eC (.int 0)) [some (Sl.val (scr ns)),some (Sl.val (edk n R)),some (Sl.val (et t)),none,some (Sl.val (.lst U)),none,none,none]
   = .ok (.nx ([some (Sl.val (scr ns)),some (Sl.val (edk n R)),some (Sl.val (et t)),none,some (Sl.val (.lst U)),none,none,some (Sl.val (edk n R))].map uc)):=by
  have a1:eB je (zd (e2 ixF (ze 1) (eC (.int 1))) zj) [some (Sl.val (scr ns)),some (Sl.val (edk n R)),some (Sl.val (et t)),none,some (Sl.val (.lst U)),none,none,none]=.ok (.lst (R.map ew)):=by
   simp only [vp,zR,vX,xW,yj,zX,jv,Yt,i1,xc,yE,yD,jRb,lf]
  have a2:eB uI (zd (e2 ixF (ze 1) (eC (.int 0))) (zd (ze 6) zj)) [some (Sl.val (scr ns)),some (Sl.val (edk n R)),some (Sl.val (et t)),none,some (Sl.val (.lst U)),none,some (Sl.val (.lst (R.map ew))),none]=.ok (edk n R):=by
   simp only [vp,zR,vX,xW,yj,zX,jv,Yt,i0,xc,yE,yD,jRb,md]
  have a3:yX (e2 neF (ze 6) (eB je (zd (e2 ixF (ze 1) (eC (.int 1))) zj))) [some (Sl.val (scr ns)),some (Sl.val (edk n R)),some (Sl.val (et t)),none,some (Sl.val (.lst U)),none,some (Sl.val (.lst (R.map ew))),some (Sl.val (edk n R))]=.ok false:=by
   simp only [Zi,vp,zR,vX,xW,yj,zX,jv,Yt,i1,xc,yE,yD,jRb,lf,n2',XB]
  have hz:(R.map ew).length<sizeLine/\6<8:=by
   refine ⟨?_,by decide⟩;rw [List.length_map,sizeLine_eq];lia
  unfold VS;rw [a1];dsimp only [jSs,jSz];rw [a2];dsimp only [jSs,jSz];rw [a3];show (if (R.map ew).length<sizeLine/\6<8 then _ else _)=_
  rw [if_pos hz]
 have k7:∀ a b c d e f g,ze 7 ([a,b,c,d,e,f,g,some (Sl.val (edk n R))].map uc)=.ok (edk n R):=fun a b c d e f g=>by
  show ze 7 [_,_,_,_,_,_,_,uc (some (Sl.val (edk n R)))]=_;simp only [uc,nd,if_true,yj,zX]
 have k1:∀ a c d e f g h,ze 1 ([a,some (Sl.val (edk n R)),c,d,e,f,g,h].map uc)=.ok (edk n R):=fun a c d e f g h=>by
  show ze 1 [_,uc (some (Sl.val (edk n R))),_,_,_,_,_,_]=_;simp only [uc,nd,if_true,yj,zX]
 have last:ym (e2 eqF (ze 7) (ze 1)) ([some (Sl.val (scr ns)),some (Sl.val (edk n R)),some (Sl.val (et t)),none,some (Sl.val (.lst U)),none,none,some (Sl.val (edk n R))].map uc)=.ok (.rt (.bl true)):=by
  simp only [vW,vX,xW,k7,k1,jRb,q1,uV]
 generalize [some (Sl.val (scr ns)),some (Sl.val (edk n R)),some (Sl.val (et t)),none,some (Sl.val (.lst U)),none,none,some (Sl.val (edk n R))].map uc=ρ9 at *;simp only [d_law_k24,zQ,zH,jMc,jMn,jCa,jNa,jLc,jLn,Nat.reduceAdd,Nat.reduceSub,List.replicate,qS,uX,vq,xq,uW,jSs,jSz,vp,zR,yE,xc,yD,jv,zX,yj,jRb,vL,hdk,vX,xW,Yt,i0,sb,VX,l1,mu,ad,tp,blk,Ag,Zi,s1,n1,XB,QA,SK,tail,last,wY]
end Dn
namespace K24
open PySem PySem.Spec PyProof.Rows L2 Pu Dn
section
variable {P:Program} {w:World} {K:PySem.W.Frag} {mg:Str->Option Value} {base:Heap}
abbrev tp (i:Nat):Stmt:=PySem.Challenge.pw_paritydesk_k24_nothing_is_kept.main.body.getD i (.Pass ⟨0,0,0,0⟩)
variable {f:Addr} {fd:FuncData}
abbrev ja:=tp 41
theorem VQ:FnScope ["_law_cell_here","_law_prime","_law_many"] ["_law_cell_here","_law_prime","_law_many"] (zk ja):=yd
theorem Uq (F:Fun K "_law_mix" "_law_mix" ja f fd)  : FnD P w K mg base 1 f fd ["_law_cell_here","_law_prime","_law_many"] xV :=
 fnN F VQ fun nd hr =>
  (zt (zI (zG uD jd (zG uD jd (zG xC wB (zc 0 rfl (Or.inl rfl)) zx) (zc 1 rfl (Or.inl rfl))) (zc 2 rfl (Or.inl rfl)))))
abbrev uU:=tp 40
theorem Wy:FnScope ["_law_script","_law_k"] ["_law_script","_law_k"] (zk uU):=yd
theorem WS (F:Fun K "_law_cell" "_law_cell" uU f fd) (m_len:mg "len" = none):FnD P w K mg base 1 f fd ["_law_script","_law_k"] zU :=
 fnN F Wy fun nd hr =>
  (zw (wz (xb Nh SU (zc 1 rfl (Or.inl rfl)) (yt xp vN rfl m_len Pu.boot_len (zg (zc 0 rfl (Or.inl rfl)) zi)) (yV _)) (zt (zI (xJ vO xI (zc 0 rfl (Or.inl rfl)) (zc 1 rfl (Or.inl rfl)) (fun _ _=>rfl)))) yJ)
  (zt (zI zx)))
abbrev uu:=tp 42
theorem Xb:FnScope ["_law_script"] ["_law_script"] (zk uu):=yd
theorem Xd (F:Fun K "_law_large" "_law_large" uu f fd) (m_len:mg "len" = none) (h__law_cell:zY P w K mg base 1 "_law_cell" ["_law_script","_law_k"] zU) (h__law_mix:zY P w K mg base 1 "_law_mix" ["_law_cell_here","_law_prime","_law_many"] xV):FnD P w K mg base 2 f fd ["_law_script"] wy :=
 fnN F Xb fun nd hr =>
  (zt (zI (Zy (uE hr) jz (zq h__law_mix (hr.mono (by decide)) rfl (zh (zh (zh zy))) (zg (zG yb yF (zq h__law_cell (hr.mono (by decide)) rfl (zh (zh zy)) (zg (zc 0 rfl (Or.inl rfl)) (zg zx zi))) (zG xC wB zx (yt xp vN rfl m_len Pu.boot_len (zg (zc 0 rfl (Or.inl rfl)) zi)))) (zg zx (zg zx zi)))) zx (yV _))))
abbrev uR:=tp 45
theorem Wv:FnScope ["_law_script","_law_at","_law_most"] ["_law_script","_law_at"] (zk uR):=yd
theorem WO (F:Fun K "_law_size" "_law_size" uR f fd) (m_len:mg "len" = none) (h__law_cell:zY P w K mg base 1 "_law_cell" ["_law_script","_law_k"] zU) (h__law_large:zY P w K mg base 2 "_law_large" ["_law_script"] wy):FnD P w K mg base 3 f fd ["_law_script","_law_at"] wR :=
 fnN F Wv fun nd hr =>
  (zw (zL (i:=2) nd rfl (Or.inl rfl) zx (hf:=(Or.inl rfl)))
  (zw (wz (xT (zq h__law_large (hr.mono (by decide)) rfl (zh zy) (zg (zc 0 rfl (Or.inl rfl)) zi))) (zt (zL (i:=2) nd rfl (Or.inl rfl) zx (hf:=(Or.inl rfl)))) yJ)
  (zw (wz (xb Ni SV (yt xp vN rfl m_len Pu.boot_len (zg (zc 0 rfl (Or.inl rfl)) zi)) zx (yV _)) (zt (zL (i:=2) nd rfl (Or.inl rfl) zx (hf:=(Or.inl rfl)))) yJ)
  (zt (zI (zG yb yF zx (zG uD jd (zq h__law_cell (hr.mono (by decide)) rfl (zh (zh zy)) (zg (zc 0 rfl (Or.inl rfl)) (zg (zc 1 rfl (Or.inl rfl)) zi))) (zc 2 rfl (Or.inl rfl)))))))))
abbrev uS:=tp 48
theorem Ww:FnScope ["_law_spread_here","_law_size_here","_law_rows_here","_law_place","_law_some","_law_heads_of","_law_found","_law_k","_law_word_here"] ["_law_spread_here"] (zk uS):=yd
theorem WQ (F:Fun K "_law_rows" "_law_rows" uS f fd) (m_int:mg "int" = none) (m_len:mg "len" = none) (m_range:mg "range" = none) (m_tuple:mg "tuple" = none):FnD P w K mg base 1 f fd ["_law_spread_here"] xY :=
 fnN F Ww fun nd hr =>
  (zw (zL (i:=1) nd rfl (Or.inl rfl) (yt xp vN rfl m_len Pu.boot_len (zg (xJ vO xI (zc 0 rfl (Or.inl rfl)) zx (fun _ _=>rfl)) zi)) (hf:=(Or.inl rfl)))
  (zw (Ky (i:=2) nd rfl (Or.inl rfl) zi (Or.inl rfl))
  (zw (xU PassesOwn.leaving rfl (xi rfl m_range (zc 1 rfl (Or.inl rfl))) (zF 3 nd rfl (Or.inr rfl) (Or.inl rfl)) (zw (vA (N:=["_law_word_here","_law_place"]) (k:=1) (idx:=[3]) (i:=4) rfl (by kernel_rfl) rfl nd rfl (Or.inl rfl) (Or.inl rfl) (yg (zc 0 rfl (Or.inl rfl))) (zK 0 rfl) (fun _ _ _ _ _=>(zF 0 (show (["_law_word_here","_law_place"]:List Str).Nodup from by decide +kernel) rfl (Or.inl rfl) (Or.inr rfl))) (fun _ _ _ _ _=>(Vl (Jl (Lp (xb (RL hr) Ay zx (zc 0 rfl (Or.inl rfl)) (by with_unfolding_all rfl)) (Sb (xb (uE hr) jz (YN hr (zc 0 rfl (Or.inl rfl)) zx) (zc 1 rfl (Or.inr (Or.inl rfl))) (yV _))))))) (fun _ _ _ _ _=>(zc 0 rfl (Or.inl rfl))))
  (zt (wz (xT (zc 4 rfl (Or.inl rfl))) (zt (Bg 2 rfl (Or.inl rfl) (xJ vO xI (zc 4 rfl (Or.inl rfl)) zx (fun _ _=>rfl)))) yJ))) (xD 3))
  (Vk 2 (zw (vA (N:=["_law_row"]) (k:=1) (idx:=[]) (i:=5) rfl (by kernel_rfl) rfl nd rfl (Or.inl rfl) (Or.inl rfl) (yg (zc 2 rfl (Or.inl rfl))) (zK 0 rfl) (fun _ _ _ _ _=>(zF 0 (show (["_law_row"]:List Str).Nodup from by decide +kernel) rfl (Or.inl rfl) (Or.inr rfl))) (fun _ _ _ _ _=>zO) (fun _ _ _ _ _=>(YN hr (zc 0 rfl (Or.inl rfl)) zx)))
  (zw (Ky (i:=6) nd rfl (Or.inl rfl) zi (Or.inl rfl))
  (zw (xU PassesOwn.leaving rfl (xi rfl m_range (yt xp vN rfl m_len Pu.boot_len (zg (zc 2 rfl (Or.inl rfl)) zi))) (zF 7 nd rfl (Or.inr rfl) (Or.inl rfl)) (zt (xU PassesOwn.leaving rfl (yg (zc 0 rfl (Or.inl rfl))) (zF 8 nd rfl (Or.inr rfl) (Or.inl rfl)) (zt (wz (xb (uE hr) jz (zS (N:=["_law_head","_law_word_here"]) (k:=1) (idx:=[8]) rfl (by kernel_rfl) rfl (yg (zc 5 rfl (Or.inl rfl))) (zK 0 rfl) (fun _ _ _ _ _=>(zF 0 (show (["_law_head","_law_word_here"]:List Str).Nodup from by decide +kernel) rfl (Or.inl rfl) (Or.inr rfl))) (fun _ _ _ _ _=>zO) (fun _ _ _ _ _=>(xJ vO xI (zc 1 rfl (Or.inr (Or.inl rfl))) (zc 0 rfl (Or.inl rfl)) (fun _ _=>rfl)))) (zS (N:=["_law_j","_law_k"]) (k:=1) (idx:=[7]) rfl (by kernel_rfl) rfl (xi rfl m_range (yt xp vN rfl m_len Pu.boot_len (zg (zc 2 rfl (Or.inl rfl)) zi))) (zK 0 rfl) (fun _ _ _ _ _=>(zF 0 (show (["_law_j","_law_k"]:List Str).Nodup from by decide +kernel) rfl (Or.inl rfl) (Or.inr rfl))) (fun _ _ _ _ _=>zO) (fun _ _ _ _ _=>(xj GY RR rfl m_int Pu.boot_int (zg (Zy (uE hr) jz (zc 0 rfl (Or.inl rfl)) (zc 1 rfl (Or.inr (Or.inl rfl))) (yV _)) zi)))) (yV _)) (zt (Bg 6 rfl (Or.inl rfl) (zc 8 rfl (Or.inr (Or.inl rfl))))) yJ)) (xD 8))) (xD 7))
  (Vk 6 (zt (zI (qo (zg (zc 1 rfl (Or.inl rfl)) (zg (xj wc qf rfl m_tuple Pu.boot_tuple (zg (zc 6 rfl (Or.inl rfl)) zi)) zi)))))))))))))
abbrev qZ:=tp 43
theorem VP:FnScope ["_law_one","_law_two"] ["_law_one","_law_two"] (zk qZ):=yd
theorem Uo (F:Fun K "_law_sum" "_law_sum" qZ f fd) (m_tuple:mg "tuple" = none) (m_zip:mg "zip" = none):FnD P w K mg base 1 f fd ["_law_one","_law_two"] wH :=
 fnN F VP fun nd hr =>
  (zt (zI (xj wc qf rfl m_tuple Pu.boot_tuple (zg (zS (N:=["_law_a","_law_b"]) (k:=2) (idx:=[]) rfl (by kernel_rfl) rfl (Zx rfl m_zip (zc 0 rfl (Or.inl rfl)) (zc 1 rfl (Or.inl rfl))) (qE 0 1 rfl) (fun _ _ _ _ _=>(qm (i:=0) (j:=1) rfl (show (["_law_a","_law_b"]:List Str).Nodup from by decide +kernel) rfl rfl (Or.inl rfl) (Or.inl rfl) (Or.inr rfl) (Or.inr rfl))) (fun _ _ _ _ _=>zO) (fun _ _ _ _ _=>(zG uD jd (zG yb yF (zc 0 rfl (Or.inl rfl)) (zc 1 rfl (Or.inl rfl))) zx))) zi))))
abbrev vK:=tp 47
theorem Yr:FnScope ["_law_size_here","_law_words_here","_law_found","_law_word_here"] ["_law_size_here","_law_words_here"] (zk vK):=yd
theorem YC (F:Fun K "_law_spread" "_law_spread" vK f fd) (m_sorted:mg "sorted" = none) (h__law_sum:zY P w K mg base 1 "_law_sum" ["_law_one","_law_two"] wH):FnD P w K mg base 2 f fd ["_law_size_here","_law_words_here"] xm :=
 fnN F Yr fun nd hr =>
  (zw (zL (i:=2) nd rfl (Or.inl rfl) (wZ (zg (zG xC wB (qo (zg zx zi)) (zc 0 rfl (Or.inl rfl))) zi)) (hf:=(Or.inl rfl)))
  (zw (xU PassesOwn.leaving rfl (yg (zc 1 rfl (Or.inl rfl))) (zF 3 nd rfl (Or.inr rfl) (Or.inl rfl)) (zt (wz (xb (Yc hr) WW (zc 3 rfl (Or.inr (Or.inl rfl))) (zc 2 rfl (Or.inl rfl)) (by with_unfolding_all rfl)) (zt (zL (i:=2) nd rfl (Or.inl rfl) (zG yb yF (zc 2 rfl (Or.inl rfl)) (zS (N:=["_law_one","_law_word_here"]) (k:=1) (idx:=[3]) rfl (by kernel_rfl) rfl (yg (zc 2 rfl (Or.inl rfl))) (zK 0 rfl) (fun _ _ _ _ _=>(zF 0 (show (["_law_one","_law_word_here"]:List Str).Nodup from by decide +kernel) rfl (Or.inl rfl) (Or.inr rfl))) (fun _ _ _ _ _=>zO) (fun _ _ _ _ _=>(zq h__law_sum (hr.mono (by decide)) rfl (zh (zh zy)) (zg (zc 0 rfl (Or.inl rfl)) (zg (zc 1 rfl (Or.inr (Or.inl rfl))) zi)))))) (hf:=(Or.inl rfl)))) yJ)) (xD 3))
  (zt (zI (Bk hr rfl m_sorted (zc 2 rfl (Or.inl rfl)))))))
abbrev uQ:=tp 44
theorem Wu:FnScope ["_law_cell_here","_law_size_here"] ["_law_cell_here","_law_size_here"] (zk uQ):=yd
theorem WN (F:Fun K "_law_word" "_law_word" uQ f fd) (m_range:mg "range" = none) (m_tuple:mg "tuple" = none) (h__law_mix:zY P w K mg base 1 "_law_mix" ["_law_cell_here","_law_prime","_law_many"] xV):FnD P w K mg base 2 f fd ["_law_cell_here","_law_size_here"] xX :=
 fnN F Wu fun nd hr =>
  (zt (zI (xj wc qf rfl m_tuple Pu.boot_tuple (zg (zS (N:=["_law_k","_law_cell_here"]) (k:=1) (idx:=[0]) rfl (by kernel_rfl) rfl (xi rfl m_range (zc 1 rfl (Or.inl rfl))) (zK 0 rfl) (fun _ _ _ _ _=>(zF 0 (show (["_law_k","_law_cell_here"]:List Str).Nodup from by decide +kernel) rfl (Or.inl rfl) (Or.inr rfl))) (fun _ _ _ _ _=>zO) (fun _ _ _ _ _=>(zq h__law_mix (hr.mono (by decide)) rfl (zh (zh (zh zy))) (zg (zG yb yF (zc 1 rfl (Or.inr (Or.inl rfl))) (zG xC wB (zG xC wB zx (zc 0 rfl (Or.inl rfl))) (zc 0 rfl (Or.inl rfl)))) (zg zx (zg zx zi)))))) zi))))
abbrev ur:=tp 46
theorem YZ:FnScope ["_law_script","_law_at","_law_size_here","_law_many"] ["_law_script","_law_at","_law_size_here"] (zk ur):=yd
theorem Xc (F:Fun K "_law_words" "_law_words" ur f fd) (m_range:mg "range" = none) (h__law_cell:zY P w K mg base 1 "_law_cell" ["_law_script","_law_k"] zU) (h__law_word:zY P w K mg base 2 "_law_word" ["_law_cell_here","_law_size_here"] xX):FnD P w K mg base 3 f fd ["_law_script","_law_at","_law_size_here"] wx :=
 fnN F YZ fun nd hr =>
  (zw (zL (i:=3) nd rfl (Or.inl rfl) (zG uD jd (zG Ke No (zq h__law_cell (hr.mono (by decide)) rfl (zh (zh zy)) (zg (zc 0 rfl (Or.inr (Or.inl rfl))) (zg (zc 1 rfl (Or.inr (Or.inl rfl))) zi))) zx) (zG yb yF (zc 2 rfl (Or.inr (Or.inl rfl))) zx)) (hf:=(Or.inl rfl)))
  (zt (zI (zS (N:=["_law_k","_law_script","_law_at","_law_size_here"]) (k:=1) (idx:=[0,1,2]) rfl (by kernel_rfl) rfl (xi rfl m_range (zc 3 rfl (Or.inl rfl))) (zK 0 rfl) (fun _ _ _ _ _=>(zF 0 (show (["_law_k","_law_script","_law_at","_law_size_here"]:List Str).Nodup from by decide +kernel) rfl (Or.inl rfl) (Or.inr rfl))) (fun _ _ _ _ _=>zO) (fun _ _ _ _ _=>(zq h__law_word (hr.mono (by decide)) rfl (zh (zh zy)) (zg (zG yb yF (zq h__law_cell (hr.mono (by decide)) rfl (zh (zh zy)) (zg (zc 1 rfl (Or.inr (Or.inl rfl))) (zg (zG yb yF (zG yb yF (zc 2 rfl (Or.inr (Or.inl rfl))) zx) (zc 0 rfl (Or.inl rfl))) zi))) (zG xC wB (zG xC wB zx (zc 0 rfl (Or.inl rfl))) (zc 0 rfl (Or.inl rfl)))) (zg (zc 3 rfl (Or.inr (Or.inl rfl))) zi))))))))
abbrev uT:=tp 49
theorem Wx:FnScope ["_law_script","_law_at","_law_size_here"] ["_law_script","_law_at"] (zk uT):=yd
theorem WR (F:Fun K "_law_desk" "_law_desk" uT f fd) (h__law_rows:zY P w K mg base 1 "_law_rows" ["_law_spread_here"] xY) (h__law_size:zY P w K mg base 3 "_law_size" ["_law_script","_law_at"] wR) (h__law_spread:zY P w K mg base 2 "_law_spread" ["_law_size_here","_law_words_here"] xm) (h__law_words:zY P w K mg base 3 "_law_words" ["_law_script","_law_at","_law_size_here"] wx):FnD P w K mg base 4 f fd ["_law_script","_law_at"] xZ :=
 fnN F Wx fun nd hr =>
  (zw (zL (i:=2) nd rfl (Or.inl rfl) (zq h__law_size (hr.mono (by decide)) rfl (zh (zh zy)) (zg (zc 0 rfl (Or.inl rfl)) (zg (zc 1 rfl (Or.inl rfl)) zi))) (hf:=(Or.inl rfl)))
  (zt (zI (zq h__law_rows (hr.mono (by decide)) rfl (zh zy) (zg (zq h__law_spread (hr.mono (by decide)) rfl (zh (zh zy)) (zg (zc 2 rfl (Or.inl rfl)) (zg (zq h__law_words (hr.mono (by decide)) rfl (zh (zh (zh zy))) (zg (zc 0 rfl (Or.inl rfl)) (zg (zc 1 rfl (Or.inl rfl)) (zg (zc 2 rfl (Or.inl rfl)) zi)))) zi))) zi)))))
abbrev Zg:=tp 17
theorem Qv:FnScope ["row"] ["row"] (zk Zg):=yd
theorem QT (F:Fun K "head_of" "head_of" Zg f fd)  : FnD P w K mg base 1 f fd ["row"] zW :=
 fnN F Qv fun nd hr =>
  (zt (zI (YN hr (zc 0 rfl (Or.inl rfl)) zx)))
abbrev wX:=tp 21
theorem Ze:FnScope ["words","last","word","head"] ["words"] (zk wX):=yd
theorem Zm (F:Fun K "stand_as_rows" "stand_as_rows" wX f fd) (m_sum:mg "sum" = none) (h_head_of:zY P w K mg base 1 "head_of" ["row"] zW):FnD P w K mg base 2 f fd ["words"] xg :=
 fnN F Ze fun nd hr =>
  (zw (zL (i:=1) nd rfl (Or.inl rfl) (Bn zx) (hf:=(Or.inl rfl)))
  (zw (xU PassesOwn.leaving rfl (yg (zc 0 rfl (Or.inl rfl))) (zF 2 nd rfl (Or.inl rfl) (Or.inl rfl)) (zw (wz (xb (Yc hr) WW zx (zc 2 rfl (Or.inl rfl)) (by with_unfolding_all rfl)) (zt (zI jT)) yJ)
  (zw (zL (i:=3) nd rfl (Or.inr rfl) (zq h_head_of (hr.mono (by decide)) rfl (zh zy) (zg (zc 2 rfl (Or.inl rfl)) zi)) (hf:=(Or.inl rfl)))
  (zw (wz (Jl (ZM (xb QK Nm (zc 3 rfl (Or.inr (Or.inl rfl))) (zc 1 rfl (Or.inl rfl)) (yV _)) (Zv (xb (YA hr) Us (yt (qN rfl) WV rfl m_sum Pu.boot_sum (zg (zS (N:=["other","head"]) (k:=1) (idx:=[3]) rfl (by kernel_rfl) rfl (yg (zc 0 rfl (Or.inl rfl))) (zK 0 rfl) (fun _ _ _ _ _=>(zF 0 (show (["other","head"]:List Str).Nodup from by decide +kernel) rfl (Or.inl rfl) (Or.inr rfl))) (fun _ _ _ _ _=>zO) (fun _ _ _ _ _=>(xJ vO xI (zc 0 rfl (Or.inl rfl)) (zc 1 rfl (Or.inr (Or.inl rfl))) (fun _ _=>rfl)))) zi)) zx (yV _))))) (zt (zI jT)) yJ)
  (zt (zL (i:=1) nd rfl (Or.inl rfl) (zc 3 rfl (Or.inr (Or.inl rfl))) (hf:=(Or.inl rfl))))))) (xD 2))
  (zt (zI jT))))
abbrev s_is_number:=tp 6
theorem Ws:FnScope ["thing","least","most"] ["thing","least","most"] (zk s_is_number):=yd
theorem WL (F:Fun K "is_number" "is_number" s_is_number f fd) (m_bool:mg "bool" = none) (m_int:mg "int" = none) (m_isinstance:mg "isinstance" = none):FnD P w K mg base 1 f fd ["thing","least","most"] yG :=
 fnN F Ws fun nd hr =>
  (zw (wz (Jl (ZM (vQ (xT (XU (T:=LR) rfl m_isinstance rfl m_int (zc 0 rfl (Or.inl rfl))))) (Zv (xT (XU (T:=SG) rfl m_isinstance rfl m_bool (zc 0 rfl (Or.inl rfl))))))) (zt (zI jT)) yJ)
  (zt (zI (Bp QK QK Nm Nm (zc 1 rfl (Or.inl rfl)) (zc 0 rfl (Or.inl rfl)) (zc 2 rfl (Or.inl rfl))))))
abbrev s_is_size:=tp 7
theorem Qt:FnScope ["thing"] ["thing"] (zk s_is_size):=yd
theorem QR (F:Fun K "is_size" "is_size" s_is_size f fd) {t_LONGEST:Tok} (m_LONGEST:mg "LONGEST" = some (.int 10 t_LONGEST)) (h_is_number:zY P w K mg base 1 "is_number" ["thing","least","most"] yG):FnD P w K mg base 2 f fd ["thing"] xF :=
 fnN F Qt fun nd hr =>
  (zt (zI (zq h_is_number (hr.mono (by decide)) rfl (zh (zh (zh zy))) (zg (zc 0 rfl (Or.inl rfl)) (zg zx (zg (UQ rfl m_LONGEST) zi))))))
abbrev s_is_word:=tp 8
theorem Qs:FnScope ["thing","size"] ["thing","size"] (zk s_is_word):=yd
theorem QQ (F:Fun K "is_word" "is_word" s_is_word f fd) (m_all:mg "all" = none) (m_isinstance:mg "isinstance" = none) (m_len:mg "len" = none) (m_tuple:mg "tuple" = none) (h_is_number:zY P w K mg base 1 "is_number" ["thing","least","most"] yG) (h_is_size:zY P w K mg base 2 "is_size" ["thing"] xF):FnD P w K mg base 3 f fd ["thing","size"] xE :=
 fnN F Qs fun nd hr =>
  (zw (wz (Jl (ZM (vQ (xT (zq h_is_size (hr.mono (by decide)) rfl (zh zy) (zg (zc 1 rfl (Or.inl rfl)) zi)))) (ZM (vQ (xT (XU (T:=Xs) rfl m_isinstance rfl m_tuple (zc 0 rfl (Or.inl rfl))))) (Zv (xb (YA hr) Us (yt xp vN rfl m_len Pu.boot_len (zg (zc 0 rfl (Or.inl rfl)) zi)) (zc 1 rfl (Or.inl rfl)) (yV _)))))) (zt (zI jT)) yJ)
  (zt (zI (yt (ZC rfl) QW rfl m_all Pu.boot_all (zg (zS (N:=["bit"]) (k:=1) (idx:=[]) rfl (by kernel_rfl) rfl (yg (zc 0 rfl (Or.inl rfl))) (zK 0 rfl) (fun _ _ _ _ _=>(zF 0 (show (["bit"]:List Str).Nodup from by decide +kernel) rfl (Or.inl rfl) (Or.inr rfl))) (fun _ _ _ _ _=>zO) (fun _ _ _ _ _=>(zq h_is_number (hr.mono (by decide)) rfl (zh (zh (zh zy))) (zg (zc 0 rfl (Or.inl rfl)) (zg zx (zg zx zi)))))) zi)))))
abbrev s_is_desk:=tp 22
theorem Qu:FnScope ["thing","size","rows"] ["thing"] (zk s_is_desk):=yd
theorem QS (F:Fun K "is_desk" "is_desk" s_is_desk f fd) (m_all:mg "all" = none) (m_isinstance:mg "isinstance" = none) (m_len:mg "len" = none) (m_tuple:mg "tuple" = none) (h_is_size:zY P w K mg base 2 "is_size" ["thing"] xF) (h_is_word:zY P w K mg base 3 "is_word" ["thing","size"] xE) (h_stand_as_rows:zY P w K mg base 2 "stand_as_rows" ["words"] xg):FnD P w K mg base 4 f fd ["thing"] ug :=
 fnN F Qu fun nd hr =>
  (zw (wz (Jl (ZM (vQ (xT (XU (T:=Xs) rfl m_isinstance rfl m_tuple (zc 0 rfl (Or.inl rfl))))) (Zv (xb (YA hr) Us (yt xp vN rfl m_len Pu.boot_len (zg (zc 0 rfl (Or.inl rfl)) zi)) zx (yV _))))) (zt (zI jT)) yJ)
  (zw (zL (i:=1) nd rfl (Or.inr rfl) (xJ vO xI (zc 0 rfl (Or.inl rfl)) zx (fun _ _=>rfl)) (hf:=(Or.inl rfl)))
  (zw (zL (i:=2) nd rfl (Or.inl rfl) (xJ vO xI (zc 0 rfl (Or.inl rfl)) zx (fun _ _=>rfl)) (hf:=(Or.inl rfl)))
  (zw (wz (Jl (ZM (vQ (xT (zq h_is_size (hr.mono (by decide)) rfl (zh zy) (zg (zc 1 rfl (Or.inr (Or.inl rfl))) zi)))) (Zv (vQ (xT (XU (T:=Xs) rfl m_isinstance rfl m_tuple (zc 2 rfl (Or.inl rfl)))))))) (zt (zI jT)) yJ)
  (zt (zI (Lu (yt (ZC rfl) QW rfl m_all Pu.boot_all (zg (zS (N:=["row","size"]) (k:=1) (idx:=[1]) rfl (by kernel_rfl) rfl (yg (zc 2 rfl (Or.inl rfl))) (zK 0 rfl) (fun _ _ _ _ _=>(zF 0 (show (["row","size"]:List Str).Nodup from by decide +kernel) rfl (Or.inl rfl) (Or.inr rfl))) (fun _ _ _ _ _=>zO) (fun _ _ _ _ _=>(zq h_is_word (hr.mono (by decide)) rfl (zh (zh zy)) (zg (zc 0 rfl (Or.inl rfl)) (zg (zc 1 rfl (Or.inr (Or.inl rfl))) zi))))) zi)) (Bl (zq h_stand_as_rows (hr.mono (by decide)) rfl (zh zy) (zg (zc 2 rfl (Or.inl rfl)) zi))))))))))
abbrev s_checked:=tp 23
theorem Qw:FnScope ["desk"] ["desk"] (zk s_checked):=yd
theorem QU (F:Fun K "checked" "checked" s_checked f fd) (h_is_desk:zY P w K mg base 4 "is_desk" ["thing"] ug):FnD P w K mg base 5 f fd ["desk"] uh :=
 fnN F Qw fun nd hr =>
  (zw (wz (vQ (xT (zq h_is_desk (hr.mono (by decide)) rfl (zh zy) (zg (zc 0 rfl (Or.inl rfl)) zi)))) (zt Jm) yJ)
  (zt (zI (zc 0 rfl (Or.inl rfl)))))
abbrev s_rows_of:=tp 24
theorem Qp:FnScope ["desk"] ["desk"] (zk s_rows_of):=yd
theorem QO (F:Fun K "rows_of" "rows_of" s_rows_of f fd) (h_checked:zY P w K mg base 5 "checked" ["desk"] uh):FnD P w K mg base 6 f fd ["desk"] yB :=
 fnN F Qp fun nd hr =>
  (zt (zI (xJ vO xI (zq h_checked (hr.mono (by decide)) rfl (zh zy) (zg (zc 0 rfl (Or.inl rfl)) zi)) zx (fun _ _=>rfl))))
abbrev s_heads:=tp 25
theorem VM:FnScope ["desk"] ["desk"] (zk s_heads):=yd
theorem Nk (F:Fun K "heads" "heads" s_heads f fd) (h_head_of:zY P w K mg base 1 "head_of" ["row"] zW) (h_rows_of:zY P w K mg base 6 "rows_of" ["desk"] yB):FnD P w K mg base 7 f fd ["desk"] vc :=
 fnN F VM fun nd hr =>
  (zt (zI (zS (N:=["row"]) (k:=1) (idx:=[]) rfl (by kernel_rfl) rfl (yg (zq h_rows_of (hr.mono (by decide)) rfl (zh zy) (zg (zc 0 rfl (Or.inl rfl)) zi))) (zK 0 rfl) (fun _ _ _ _ _=>(zF 0 (show (["row"]:List Str).Nodup from by decide +kernel) rfl (Or.inl rfl) (Or.inr rfl))) (fun _ _ _ _ _=>zO) (fun _ _ _ _ _=>(zq h_head_of (hr.mono (by decide)) rfl (zh zy) (zg (zc 0 rfl (Or.inl rfl)) zi))))))
theorem Gs (F:Fun K "heads" "heads" s_heads f fd) (h_head_of:zY P w K mg base 1 "head_of" ["row"] zW) (h_rows_of:zY P w K mg base 6 "rows_of" ["desk"] yB):FnL P w K mg base 7 f fd ["desk"] vc :=
 GN F VM fun nd hr =>
  (qK (qx (N:=["row"]) (k:=1) (idx:=[]) rfl (by kernel_rfl) rfl (yg (zq h_rows_of (hr.mono (by decide)) rfl (zh zy) (zg (zc 0 rfl (Or.inl rfl)) zi))) (zK 0 rfl) (fun _ _ _ _ _=>(zF 0 (show (["row"]:List Str).Nodup from by decide +kernel) rfl (Or.inl rfl) (Or.inr rfl))) (fun _ _ _ _ _=>zO) (fun _ _ _ _ _=>(zq h_head_of (hr.mono (by decide)) rfl (zh zy) (zg (zc 0 rfl (Or.inl rfl)) zi)))))
abbrev s_plus:=tp 9
theorem BU:FnScope ["one","other"] ["one","other"] (zk s_plus):=yd
theorem Py (F:Fun K "plus" "plus" s_plus f fd) (m_tuple:mg "tuple" = none) (m_zip:mg "zip" = none):FnD P w K mg base 1 f fd ["one","other"] wv :=
 fnN F BU fun nd hr =>
  (zt (zI (xj wc qf rfl m_tuple Pu.boot_tuple (zg (zS (N:=["bit","opposite"]) (k:=2) (idx:=[]) rfl (by kernel_rfl) rfl (Zx rfl m_zip (zc 0 rfl (Or.inl rfl)) (zc 1 rfl (Or.inl rfl))) (qE 0 1 rfl) (fun _ _ _ _ _=>(qm (i:=0) (j:=1) rfl (show (["bit","opposite"]:List Str).Nodup from by decide +kernel) rfl rfl (Or.inl rfl) (Or.inl rfl) (Or.inr rfl) (Or.inr rfl))) (fun _ _ _ _ _=>zO) (fun _ _ _ _ _=>(zG uD jd (zG yb yF (zc 0 rfl (Or.inl rfl)) (zc 1 rfl (Or.inl rfl))) zx))) zi))))
abbrev Zf:=tp 18
theorem Qq:FnScope ["rows","word","row"] ["rows","word"] (zk Zf):=yd
theorem QP (F:Fun K "rest_of" "rest_of" Zf f fd) (h_head_of:zY P w K mg base 1 "head_of" ["row"] zW) (h_plus:zY P w K mg base 1 "plus" ["one","other"] wv):FnD P w K mg base 2 f fd ["rows","word"] vn :=
 fnN F Qq fun nd hr =>
  (zw (xU PassesOwn.leaving rfl (yg (zc 0 rfl (Or.inl rfl))) (zF 2 nd rfl (Or.inl rfl) (Or.inl rfl)) (zt (wz (xb (uE hr) jz (xJ vO xI (zc 1 rfl (Or.inl rfl)) (zq h_head_of (hr.mono (by decide)) rfl (zh zy) (zg (zc 2 rfl (Or.inl rfl)) zi)) (fun _ _=>rfl)) zx (yV _)) (zt (zL (i:=1) nd rfl (Or.inl rfl) (zq h_plus (hr.mono (by decide)) rfl (zh (zh zy)) (zg (zc 1 rfl (Or.inl rfl)) (zg (zc 2 rfl (Or.inl rfl)) zi))) (hf:=(Or.inl rfl)))) yJ)) (xD 2))
  (zt (zI (zc 1 rfl (Or.inl rfl)))))
abbrev uO:=tp 19
theorem Wq:FnScope ["rows","word","rest","head","cleared"] ["rows","word"] (zk uO):=yd
theorem WJ (F:Fun K "with_word" "with_word" uO f fd) (m_sorted:mg "sorted" = none) (h_head_of:zY P w K mg base 1 "head_of" ["row"] zW) (h_plus:zY P w K mg base 1 "plus" ["one","other"] wv) (h_rest_of:zY P w K mg base 2 "rest_of" ["rows","word"] vn):FnD P w K mg base 3 f fd ["rows","word"] xA :=
 fnN F Wq fun nd hr =>
  (zw (zL (i:=2) nd rfl (Or.inr rfl) (zq h_rest_of (hr.mono (by decide)) rfl (zh (zh zy)) (zg (zc 0 rfl (Or.inl rfl)) (zg (zc 1 rfl (Or.inl rfl)) zi))) (hf:=(Or.inl rfl)))
  (zw (wz (xb (Yc hr) WW zx (zc 2 rfl (Or.inr (Or.inl rfl))) (by with_unfolding_all rfl)) (zt (zI (zc 0 rfl (Or.inl rfl)))) yJ)
  (zw (zL (i:=3) nd rfl (Or.inr rfl) (zq h_head_of (hr.mono (by decide)) rfl (zh zy) (zg (zc 2 rfl (Or.inr (Or.inl rfl))) zi)) (hf:=(Or.inl rfl)))
  (zw (vA (N:=["row","head","rest"]) (k:=1) (idx:=[3,2]) (i:=4) rfl (by kernel_rfl) rfl nd rfl (Or.inl rfl) (Or.inl rfl) (yg (zc 0 rfl (Or.inl rfl))) (zK 0 rfl) (fun _ _ _ _ _=>(zF 0 (show (["row","head","rest"]:List Str).Nodup from by decide +kernel) rfl (Or.inl rfl) (Or.inr rfl))) (fun _ _ _ _ _=>zO) (fun _ _ _ _ _=>(Bo (xb (uE hr) jz (xJ vO xI (zc 0 rfl (Or.inl rfl)) (zc 1 rfl (Or.inr (Or.inl rfl))) (fun _ _=>rfl)) zx (yV _)) (zq h_plus (hr.mono (by decide)) rfl (zh (zh zy)) (zg (zc 0 rfl (Or.inl rfl)) (zg (zc 2 rfl (Or.inr (Or.inl rfl))) zi))) (zc 0 rfl (Or.inl rfl)))))
  (zt (zI (Sk hr rfl m_sorted (zG yb yF (zc 4 rfl (Or.inl rfl)) (wZ (zg (zc 2 rfl (Or.inr (Or.inl rfl))) zi))))))))))
abbrev s_made:=tp 20
theorem BW:FnScope ["size","words","place","word","rows"] ["size","words"] (zk s_made):=yd
theorem PB (F:Fun K "made" "made" s_made f fd) (m_enumerate:mg "enumerate" = none) (m_isinstance:mg "isinstance" = none) (m_len:mg "len" = none) (m_list:mg "list" = none) (m_tuple:mg "tuple" = none) {t_MOST_WORDS:Tok} (m_MOST_WORDS:mg "MOST_WORDS" = some (.int 20 t_MOST_WORDS)) (h_is_size:zY P w K mg base 2 "is_size" ["thing"] xF) (h_is_word:zY P w K mg base 3 "is_word" ["thing","size"] xE) (h_with_word:zY P w K mg base 3 "with_word" ["rows","word"] xA):FnD P w K mg base 4 f fd ["size","words"] uI :=
 fnN F BW fun nd hr =>
  (zw (wz (Jl (ZM (vQ (xT (zq h_is_size (hr.mono (by decide)) rfl (zh zy) (zg (zc 0 rfl (Or.inl rfl)) zi)))) (ZM (vQ (xT (XU (T:=SE) rfl m_isinstance rfl m_list (zc 1 rfl (Or.inl rfl))))) (Zv (xb Ni SV (yt xp vN rfl m_len Pu.boot_len (zg (zc 1 rfl (Or.inl rfl)) zi)) (UQ rfl m_MOST_WORDS) (yV _)))))) (zt Jm) yJ)
  (zw (xU PassesOwn.leaving rfl (Kz rfl m_enumerate (zc 1 rfl (Or.inl rfl))) (qm (i:=2) (j:=3) rfl nd rfl rfl (Or.inl rfl) (Or.inl rfl) (Or.inl rfl) (Or.inl rfl)) (zt (wz (vQ (xT (zq h_is_word (hr.mono (by decide)) rfl (zh (zh zy)) (zg (zc 3 rfl (Or.inl rfl)) (zg (zc 0 rfl (Or.inl rfl)) zi))))) (zt Jm) yJ)) (Nr 2 3))
  (zw (zL (i:=4) nd rfl (Or.inl rfl) (wZ zi) (hf:=(Or.inl rfl)))
  (zw (xU PassesOwn.leaving rfl (yg (zc 1 rfl (Or.inl rfl))) (zF 3 nd rfl (Or.inl rfl) (Or.inl rfl)) (zt (zL (i:=4) nd rfl (Or.inl rfl) (zq h_with_word (hr.mono (by decide)) rfl (zh (zh zy)) (zg (zc 4 rfl (Or.inl rfl)) (zg (zc 3 rfl (Or.inl rfl)) zi))) (hf:=(Or.inl rfl)))) (xD 3))
  (zt (zI (qo (zg (zc 0 rfl (Or.inl rfl)) (zg (xj wc qf rfl m_tuple Pu.boot_tuple (zg (zc 4 rfl (Or.inl rfl)) zi)) zi)))))))))
abbrev s_none:=tp 13
theorem BV:FnScope ["size"] ["size"] (zk s_none):=yd
theorem Pz (F:Fun K "none" "none" s_none f fd)  : FnD P w K mg base 1 f fd ["size"] uH :=
 fnN F BV fun nd hr =>
  (zt (zI (zG xC wB (qo (zg zx zi)) (zc 0 rfl (Or.inl rfl)))))
abbrev s_check_of:=tp 28
theorem VO:FnScope ["size","rows","place","bits","row"] ["size","rows","place"] (zk s_check_of):=yd
theorem Um (F:Fun K "check_of" "check_of" s_check_of f fd) (m_list:mg "list" = none) (m_tuple:mg "tuple" = none) (h_head_of:zY P w K mg base 1 "head_of" ["row"] zW) (h_none:zY P w K mg base 1 "none" ["size"] uH):FnD P w K mg base 2 f fd ["size","rows","place"] wG :=
 fnN F VO fun nd hr =>
  (zw (Sg (i:=3) nd rfl (Or.inl rfl) rfl m_list (zq h_none (hr.mono (by decide)) rfl (zh zy) (zg (zc 0 rfl (Or.inl rfl)) zi)) (Or.inl rfl))
  (zw (Kx 3 rfl (Or.inl rfl) (zc 2 rfl (Or.inl rfl)) zx)
  (zw (xU PassesOwn.leaving rfl (yg (zc 1 rfl (Or.inl rfl))) (zF 4 nd rfl (Or.inl rfl) (Or.inl rfl)) (zt (Kx 3 rfl (Or.inl rfl) (zq h_head_of (hr.mono (by decide)) rfl (zh zy) (zg (zc 4 rfl (Or.inl rfl)) zi)) (xJ vO xI (zc 4 rfl (Or.inl rfl)) (zc 2 rfl (Or.inl rfl)) (fun _ _=>rfl)))) (xD 4))
  (Vk 3 (zt (zI (xj wc qf rfl m_tuple Pu.boot_tuple (zg (zc 3 rfl (Or.inl rfl)) zi))))))))
abbrev s_checks:=tp 29
theorem Gb:FnScope ["desk","taken","rows","size"] ["desk"] (zk s_checks):=yd
theorem Gq (F:Fun K "checks" "checks" s_checks f fd) (m_range:mg "range" = none) (h_check_of:zY P w K mg base 2 "check_of" ["size","rows","place"] wG) (h_heads:zY P w K mg base 7 "heads" ["desk"] vc) (h_made:zY P w K mg base 4 "made" ["size","words"] uI) (h_rows_of:zY P w K mg base 6 "rows_of" ["desk"] yB):FnD P w K mg base 8 f fd ["desk"] qp :=
 fnN F Gb fun nd hr =>
  (zw (zL (i:=1) nd rfl (Or.inr rfl) (zq h_heads (hr.mono (by decide)) rfl (zh zy) (zg (zc 0 rfl (Or.inl rfl)) zi)) (hf:=(Or.inl rfl)))
  (zw (zL (i:=2) nd rfl (Or.inr rfl) (zq h_rows_of (hr.mono (by decide)) rfl (zh zy) (zg (zc 0 rfl (Or.inl rfl)) zi)) (hf:=(Or.inl rfl)))
  (zw (zL (i:=3) nd rfl (Or.inr rfl) (xJ vO xI (zc 0 rfl (Or.inl rfl)) zx (fun _ _=>rfl)) (hf:=(Or.inl rfl)))
  (zt (zI (zq h_made (hr.mono (by decide)) rfl (zh (zh zy)) (zg (zc 3 rfl (Or.inr (Or.inl rfl))) (zg (zS (N:=["place","size","rows","taken"]) (k:=1) (idx:=[3,2,1]) rfl (by kernel_rfl) rfl (xi rfl m_range (zc 3 rfl (Or.inr (Or.inl rfl)))) (zK 0 rfl) (fun _ _ _ _ _=>(zF 0 (show (["place","size","rows","taken"]:List Str).Nodup from by decide +kernel) rfl (Or.inl rfl) (Or.inr rfl))) (fun _ _ _ _ _=>(Vl (xb (Yc hr) WW (zc 0 rfl (Or.inl rfl)) (zc 3 rfl (Or.inr (Or.inl rfl))) (by with_unfolding_all rfl)))) (fun _ _ _ _ _=>(zq h_check_of (hr.mono (by decide)) rfl (zh (zh (zh zy))) (zg (zc 1 rfl (Or.inr (Or.inl rfl))) (zg (zc 2 rfl (Or.inr (Or.inl rfl))) (zg (zc 0 rfl (Or.inl rfl)) zi)))))) zi))))))))
abbrev s_all_words:=tp 14
theorem Wt:FnScope ["size","words","place"] ["size"] (zk s_all_words):=yd
theorem WM (F:Fun K "all_words" "all_words" s_all_words f fd) (m_range:mg "range" = none):FnD P w K mg base 1 f fd ["size"] wQ :=
 fnN F Wt fun nd hr =>
  (zw (zL (i:=1) nd rfl (Or.inl rfl) (wZ (zg (qo zi) zi)) (hf:=(Or.inl rfl)))
  (zw (xU PassesOwn.leaving rfl (xi rfl m_range (zc 0 rfl (Or.inl rfl))) (zF 2 nd rfl (Or.inl rfl) (Or.inl rfl)) (zt (zL (i:=1) nd rfl (Or.inl rfl) (zG yb yF (zS (N:=["word"]) (k:=1) (idx:=[]) rfl (by kernel_rfl) rfl (yg (zc 1 rfl (Or.inl rfl))) (zK 0 rfl) (fun _ _ _ _ _=>(zF 0 (show (["word"]:List Str).Nodup from by decide +kernel) rfl (Or.inl rfl) (Or.inr rfl))) (fun _ _ _ _ _=>zO) (fun _ _ _ _ _=>(zG yb yF (qo (zg zx zi)) (zc 0 rfl (Or.inl rfl))))) (zS (N:=["word"]) (k:=1) (idx:=[]) rfl (by kernel_rfl) rfl (yg (zc 1 rfl (Or.inl rfl))) (zK 0 rfl) (fun _ _ _ _ _=>(zF 0 (show (["word"]:List Str).Nodup from by decide +kernel) rfl (Or.inl rfl) (Or.inr rfl))) (fun _ _ _ _ _=>zO) (fun _ _ _ _ _=>(zG yb yF (qo (zg zx zi)) (zc 0 rfl (Or.inl rfl)))))) (hf:=(Or.inl rfl)))) (xD 2))
  (zt (zI (zc 1 rfl (Or.inl rfl))))))
abbrev s_weight:=tp 10
theorem Ga:FnScope ["word"] ["word"] (zk s_weight):=yd
theorem Go (F:Fun K "weight" "weight" s_weight f fd) (m_sum:mg "sum" = none):FnD P w K mg base 1 f fd ["word"] xK :=
 fnN F Ga fun nd hr =>
  (zt (zI (yt (qN rfl) WV rfl m_sum Pu.boot_sum (zg (zc 0 rfl (Or.inl rfl)) zi))))
abbrev uP:=tp 11
theorem Wr:FnScope ["word"] ["word"] (zk uP):=yd
theorem WK (F:Fun K "lightness" "lightness" uP f fd) (h_weight:zY P w K mg base 1 "weight" ["word"] xK):FnD P w K mg base 2 f fd ["word"] yY :=
 fnN F Wr fun nd hr =>
  (zt (zI (qo (zg (zq h_weight (hr.mono (by decide)) rfl (zh zy) (zg (zc 0 rfl (Or.inl rfl)) zi)) (zg (zc 0 rfl (Or.inl rfl)) zi)))))
abbrev vJ:=tp 12
theorem Yq:FnScope ["one","other"] ["one","other"] (zk vJ):=yd
theorem YB (F:Fun K "meet_evenly" "meet_evenly" vJ f fd) (m_sum:mg "sum" = none) (m_zip:mg "zip" = none):FnD P w K mg base 1 f fd ["one","other"] xk :=
 fnN F Yq fun nd hr =>
  (zt (zI (Zy (uE hr) jz (zG uD jd (yt (qN rfl) WV rfl m_sum Pu.boot_sum (zg (zS (N:=["bit","opposite"]) (k:=2) (idx:=[]) rfl (by kernel_rfl) rfl (Zx rfl m_zip (zc 0 rfl (Or.inl rfl)) (zc 1 rfl (Or.inl rfl))) (qE 0 1 rfl) (fun _ _ _ _ _=>(qm (i:=0) (j:=1) rfl (show (["bit","opposite"]:List Str).Nodup from by decide +kernel) rfl rfl (Or.inl rfl) (Or.inl rfl) (Or.inr rfl) (Or.inr rfl))) (fun _ _ _ _ _=>zO) (fun _ _ _ _ _=>(zG xC wB (zc 0 rfl (Or.inl rfl)) (zc 1 rfl (Or.inl rfl))))) zi)) zx) zx (yV _))))
abbrev s_sign_by:=tp 30
theorem Qo:FnScope ["rows","word"] ["rows","word"] (zk s_sign_by):=yd
theorem QN (F:Fun K "sign_by" "sign_by" s_sign_by f fd) (m_tuple:mg "tuple" = none) (h_meet_evenly:zY P w K mg base 1 "meet_evenly" ["one","other"] xk):FnD P w K mg base 2 f fd ["rows","word"] vm :=
 fnN F Qo fun nd hr =>
  (zt (zI (xj wc qf rfl m_tuple Pu.boot_tuple (zg (zS (N:=["row","word"]) (k:=1) (idx:=[1]) rfl (by kernel_rfl) rfl (yg (zc 0 rfl (Or.inl rfl))) (zK 0 rfl) (fun _ _ _ _ _=>(zF 0 (show (["row","word"]:List Str).Nodup from by decide +kernel) rfl (Or.inl rfl) (Or.inr rfl))) (fun _ _ _ _ _=>zO) (fun _ _ _ _ _=>(Bo (xT (zq h_meet_evenly (hr.mono (by decide)) rfl (zh (zh zy)) (zg (zc 0 rfl (Or.inl rfl)) (zg (zc 1 rfl (Or.inr (Or.inl rfl))) zi)))) zx zx))) zi))))
abbrev s_leaders:=tp 31
theorem Qr:FnScope ["desk","rows","found","word"] ["desk"] (zk s_leaders):=yd
theorem Ur (F:Fun K "leaders" "leaders" s_leaders f fd) (m_sorted:mg "sorted" = none) (h_all_words:zY P w K mg base 1 "all_words" ["size"] wQ) (h_checks:zY P w K mg base 8 "checks" ["desk"] qp) (h_lightness:zY P w K mg base 2 "lightness" ["word"] yY) (h_rows_of:zY P w K mg base 6 "rows_of" ["desk"] yB) (h_sign_by:zY P w K mg base 2 "sign_by" ["rows","word"] vm):FnL P w K mg base 9 f fd ["desk"] vo :=
 GN F Qr fun nd hr =>
  (xz (zL (i:=1) nd rfl (Or.inl rfl) (zq h_rows_of (hr.mono (by decide)) rfl (zh zy) (zg (zq h_checks (hr.mono (by decide)) rfl (zh zy) (zg (zc 0 rfl (Or.inl rfl)) zi)) zi)) (hf:=(Or.inl rfl))) wu
  (xz (Sh (i:=2) nd rfl (Or.inl rfl) (Or.inl rfl)) GL
  (xz (xU PassesOwn.leaving rfl (yg (Sj h_lightness (hr.mono (by decide)) rfl m_sorted rfl (zq h_all_words (hr.mono (by decide)) rfl (zh zy) (zg (xJ vO xI (zc 0 rfl (Or.inl rfl)) zx (fun _ _=>rfl)) zi)))) (zF 3 nd rfl (Or.inl rfl) (Or.inl rfl)) (zt (Lq 2 hr rfl (Or.inl rfl) (zq h_sign_by (hr.mono (by decide)) rfl (zh (zh zy)) (zg (zc 1 rfl (Or.inl rfl)) (zg (zc 3 rfl (Or.inl rfl)) zi))) (zc 3 rfl (Or.inl rfl)))) (xD 3)) (YJ NV)
  (qK (Na 2 hr rfl rfl m_sorted rfl (Or.inl rfl))))))
abbrev s_words_of:=tp 26
theorem ZH:FnScope ["desk","rows","words","row"] ["desk"] (zk s_words_of):=yd
theorem Ul (F:Fun K "words_of" "words_of" s_words_of f fd) (m_sorted:mg "sorted" = none) (h_none:zY P w K mg base 1 "none" ["size"] uH) (h_plus:zY P w K mg base 1 "plus" ["one","other"] wv) (h_rows_of:zY P w K mg base 6 "rows_of" ["desk"] yB):FnD P w K mg base 7 f fd ["desk"] yh :=
 fnN F ZH fun nd hr =>
  (zw (zL (i:=1) nd rfl (Or.inl rfl) (zq h_rows_of (hr.mono (by decide)) rfl (zh zy) (zg (zc 0 rfl (Or.inl rfl)) zi)) (hf:=(Or.inl rfl)))
  (zw (zL (i:=2) nd rfl (Or.inl rfl) (wZ (zg (zq h_none (hr.mono (by decide)) rfl (zh zy) (zg (xJ vO xI (zc 0 rfl (Or.inl rfl)) zx (fun _ _=>rfl)) zi)) zi)) (hf:=(Or.inl rfl)))
  (zw (xU PassesOwn.leaving rfl (yg (zc 1 rfl (Or.inl rfl))) (zF 3 nd rfl (Or.inr rfl) (Or.inl rfl)) (zt (zL (i:=2) nd rfl (Or.inl rfl) (zG yb yF (zc 2 rfl (Or.inl rfl)) (zS (N:=["word","row"]) (k:=1) (idx:=[3]) rfl (by kernel_rfl) rfl (yg (zc 2 rfl (Or.inl rfl))) (zK 0 rfl) (fun _ _ _ _ _=>(zF 0 (show (["word","row"]:List Str).Nodup from by decide +kernel) rfl (Or.inl rfl) (Or.inr rfl))) (fun _ _ _ _ _=>zO) (fun _ _ _ _ _=>(zq h_plus (hr.mono (by decide)) rfl (zh (zh zy)) (zg (zc 0 rfl (Or.inl rfl)) (zg (zc 1 rfl (Or.inr (Or.inl rfl))) zi)))))) (hf:=(Or.inl rfl)))) (xD 3))
  (zt (zI (Bk hr rfl m_sorted (zc 2 rfl (Or.inl rfl))))))))
theorem WT (F:Fun K "words_of" "words_of" s_words_of f fd) (m_sorted:mg "sorted" = none) (h_none:zY P w K mg base 1 "none" ["size"] uH) (h_plus:zY P w K mg base 1 "plus" ["one","other"] wv) (h_rows_of:zY P w K mg base 6 "rows_of" ["desk"] yB):FnL P w K mg base 7 f fd ["desk"] yh :=
 GN F ZH fun nd hr =>
  (xz (zL (i:=1) nd rfl (Or.inl rfl) (zq h_rows_of (hr.mono (by decide)) rfl (zh zy) (zg (zc 0 rfl (Or.inl rfl)) zi)) (hf:=(Or.inl rfl))) wu
  (xz (zL (i:=2) nd rfl (Or.inl rfl) (wZ (zg (zq h_none (hr.mono (by decide)) rfl (zh zy) (zg (xJ vO xI (zc 0 rfl (Or.inl rfl)) zx (fun _ _=>rfl)) zi)) zi)) (hf:=(Or.inl rfl))) wu
  (xz (xU PassesOwn.leaving rfl (yg (zc 1 rfl (Or.inl rfl))) (zF 3 nd rfl (Or.inr rfl) (Or.inl rfl)) (zt (zL (i:=2) nd rfl (Or.inl rfl) (zG yb yF (zc 2 rfl (Or.inl rfl)) (zS (N:=["word","row"]) (k:=1) (idx:=[3]) rfl (by kernel_rfl) rfl (yg (zc 2 rfl (Or.inl rfl))) (zK 0 rfl) (fun _ _ _ _ _=>(zF 0 (show (["word","row"]:List Str).Nodup from by decide +kernel) rfl (Or.inl rfl) (Or.inr rfl))) (fun _ _ _ _ _=>zO) (fun _ _ _ _ _=>(zq h_plus (hr.mono (by decide)) rfl (zh (zh zy)) (zg (zc 0 rfl (Or.inl rfl)) (zg (zc 1 rfl (Or.inr (Or.inl rfl))) zi)))))) (hf:=(Or.inl rfl)))) (xD 3)) (YJ wu)
  (qK (Po hr rfl m_sorted (zc 2 rfl (Or.inl rfl)))))))
abbrev s_counts:=tp 33
theorem Xx:FnScope ["desk","weights"] ["desk"] (zk s_counts):=yd
theorem Gp (F:Fun K "counts" "counts" s_counts f fd) (m_range:mg "range" = none) (h_weight:zY P w K mg base 1 "weight" ["word"] xK) (h_words_of:zY P w K mg base 7 "words_of" ["desk"] yh):FnD P w K mg base 8 f fd ["desk"] xL :=
 fnN F Xx fun nd hr =>
  (zw (zL (i:=1) nd rfl (Or.inr rfl) (zS (N:=["word"]) (k:=1) (idx:=[]) rfl (by kernel_rfl) rfl (yg (zq h_words_of (hr.mono (by decide)) rfl (zh zy) (zg (zc 0 rfl (Or.inl rfl)) zi))) (zK 0 rfl) (fun _ _ _ _ _=>(zF 0 (show (["word"]:List Str).Nodup from by decide +kernel) rfl (Or.inl rfl) (Or.inr rfl))) (fun _ _ _ _ _=>zO) (fun _ _ _ _ _=>(zq h_weight (hr.mono (by decide)) rfl (zh zy) (zg (zc 0 rfl (Or.inl rfl)) zi)))) (hf:=(Or.inl rfl)))
  (zt (zI (zS (N:=["number","weights"]) (k:=1) (idx:=[1]) rfl (by kernel_rfl) rfl (xi rfl m_range (zG yb yF (xJ vO xI (zc 0 rfl (Or.inl rfl)) zx (fun _ _=>rfl)) zx)) (zK 0 rfl) (fun _ _ _ _ _=>(zF 0 (show (["number","weights"]:List Str).Nodup from by decide +kernel) rfl (Or.inl rfl) (Or.inr rfl))) (fun _ _ _ _ _=>zO) (fun _ _ _ _ _=>(XV hr (zc 1 rfl (Or.inr (Or.inl rfl))) (zc 0 rfl (Or.inl rfl))))))))
theorem QV (F:Fun K "counts" "counts" s_counts f fd) (m_range:mg "range" = none) (h_weight:zY P w K mg base 1 "weight" ["word"] xK) (h_words_of:zY P w K mg base 7 "words_of" ["desk"] yh):FnL P w K mg base 8 f fd ["desk"] xL :=
 GN F Xx fun nd hr =>
  (xz (zL (i:=1) nd rfl (Or.inr rfl) (zS (N:=["word"]) (k:=1) (idx:=[]) rfl (by kernel_rfl) rfl (yg (zq h_words_of (hr.mono (by decide)) rfl (zh zy) (zg (zc 0 rfl (Or.inl rfl)) zi))) (zK 0 rfl) (fun _ _ _ _ _=>(zF 0 (show (["word"]:List Str).Nodup from by decide +kernel) rfl (Or.inl rfl) (Or.inr rfl))) (fun _ _ _ _ _=>zO) (fun _ _ _ _ _=>(zq h_weight (hr.mono (by decide)) rfl (zh zy) (zg (zc 0 rfl (Or.inl rfl)) zi)))) (hf:=(Or.inl rfl))) wu
  (qK (qx (N:=["number","weights"]) (k:=1) (idx:=[1]) rfl (by kernel_rfl) rfl (xi rfl m_range (zG yb yF (xJ vO xI (zc 0 rfl (Or.inl rfl)) zx (fun _ _=>rfl)) zx)) (zK 0 rfl) (fun _ _ _ _ _=>(zF 0 (show (["number","weights"]:List Str).Nodup from by decide +kernel) rfl (Or.inl rfl) (Or.inr rfl))) (fun _ _ _ _ _=>zO) (fun _ _ _ _ _=>(XV hr (zc 1 rfl (Or.inr (Or.inl rfl))) (zc 0 rfl (Or.inl rfl)))))))
abbrev s_agrees:=tp 37
theorem Gc:FnScope ["word","torn"] ["word","torn"] (zk s_agrees):=yd
theorem Gr (F:Fun K "agrees" "agrees" s_agrees f fd) (m_all:mg "all" = none) (m_zip:mg "zip" = none):FnD P w K mg base 1 f fd ["word","torn"] ui :=
 fnN F Gc fun nd hr =>
  (zt (zI (yt (ZC rfl) QW rfl m_all Pu.boot_all (zg (zS (N:=["bit","known"]) (k:=2) (idx:=[]) rfl (by kernel_rfl) rfl (Zx rfl m_zip (zc 0 rfl (Or.inl rfl)) (zc 1 rfl (Or.inl rfl))) (qE 0 1 rfl) (fun _ _ _ _ _=>(qm (i:=0) (j:=1) rfl (show (["bit","known"]:List Str).Nodup from by decide +kernel) rfl rfl (Or.inl rfl) (Or.inl rfl) (Or.inr rfl) (Or.inr rfl))) (fun _ _ _ _ _=>zO) (fun _ _ _ _ _=>(AL (Zy Pv RQ (zc 1 rfl (Or.inl rfl)) Bm (yV _)) (Bl (Zy (uE hr) jz (zc 1 rfl (Or.inl rfl)) (zc 0 rfl (Or.inl rfl)) (yV _)))))) zi))))
abbrev s_fillings:=tp 38
theorem VN:FnScope ["desk","torn"] ["desk","torn"] (zk s_fillings):=yd
theorem WU (F:Fun K "fillings" "fillings" s_fillings f fd) (h_agrees:zY P w K mg base 1 "agrees" ["word","torn"] ui) (h_words_of:zY P w K mg base 7 "words_of" ["desk"] yh):FnL P w K mg base 8 f fd ["desk","torn"] wF :=
 GN F VN fun nd hr =>
  (qK (qx (N:=["word","torn"]) (k:=1) (idx:=[1]) rfl (by kernel_rfl) rfl (yg (zq h_words_of (hr.mono (by decide)) rfl (zh zy) (zg (zc 0 rfl (Or.inl rfl)) zi))) (zK 0 rfl) (fun _ _ _ _ _=>(zF 0 (show (["word","torn"]:List Str).Nodup from by decide +kernel) rfl (Or.inl rfl) (Or.inr rfl))) (fun _ _ _ _ _=>(Vl (xT (zq h_agrees (hr.mono (by decide)) rfl (zh (zh zy)) (zg (zc 0 rfl (Or.inl rfl)) (zg (zc 1 rfl (Or.inr (Or.inl rfl))) zi)))))) (fun _ _ _ _ _=>(zc 0 rfl (Or.inl rfl)))))
abbrev s_surplus:=tp 34
theorem Qn:FnScope ["size","ones","found","place","step"] ["size","ones"] (zk s_surplus):=yd
theorem QM (F:Fun K "surplus" "surplus" s_surplus f fd) (m_range:mg "range" = none) (m_zip:mg "zip" = none):FnD P w K mg base 1 f fd ["size","ones"] wD :=
 fnN F Qn fun nd hr =>
  (zw (zL (i:=2) nd rfl (Or.inl rfl) (wZ (zg zx zi)) (hf:=(Or.inl rfl)))
  (zw (xU PassesOwn.leaving rfl (xi rfl m_range (zc 0 rfl (Or.inl rfl))) (zF 3 nd rfl (Or.inl rfl) (Or.inl rfl)) (zw (zL (i:=4) nd rfl (Or.inr rfl) (Bo (xb Nh SU (zc 3 rfl (Or.inl rfl)) (zc 1 rfl (Or.inl rfl)) (yV _)) (Bn zx) zx) (hf:=(Or.inl rfl)))
  (zt (vA (N:=["number","left","step"]) (k:=2) (idx:=[4]) (i:=2) rfl (by kernel_rfl) rfl nd rfl (Or.inl rfl) (Or.inl rfl) (Zx rfl m_zip (zG yb yF (zc 2 rfl (Or.inl rfl)) (wZ (zg zx zi))) (zG yb yF (wZ (zg zx zi)) (zc 2 rfl (Or.inl rfl)))) (qE 0 1 rfl) (fun _ _ _ _ _=>(qm (i:=0) (j:=1) rfl (show (["number","left","step"]:List Str).Nodup from by decide +kernel) rfl rfl (Or.inl rfl) (Or.inl rfl) (Or.inr rfl) (Or.inr rfl))) (fun _ _ _ _ _=>zO) (fun _ _ _ _ _=>(zG yb yF (zc 0 rfl (Or.inl rfl)) (zG xC wB (zc 2 rfl (Or.inr (Or.inl rfl))) (zc 1 rfl (Or.inl rfl)))))))) (xD 3))
  (zt (zI (zc 2 rfl (Or.inl rfl))))))
abbrev xQ:=tp 35
theorem qQ:FnScope ["numbers","size","totals","ones","number","words"] ["numbers"] (zk xQ):=yd
theorem qd (F:Fun K "counts_of_checks" "counts_of_checks" xQ f fd) (m_enumerate:mg "enumerate" = none) (m_len:mg "len" = none) (m_sum:mg "sum" = none) (m_zip:mg "zip" = none) (h_surplus:zY P w K mg base 1 "surplus" ["size","ones"] wD):FnL P w K mg base 2 f fd ["numbers"] yq :=
 GN F qQ fun nd hr =>
  (xz (zL (i:=1) nd rfl (Or.inl rfl) (zG Kc Nl (yt xp vN rfl m_len Pu.boot_len (zg (zc 0 rfl (Or.inl rfl)) zi)) zx) (hf:=(Or.inl rfl))) wu
  (xz (zL (i:=2) nd rfl (Or.inl rfl) (zG xC wB (wZ (zg zx zi)) (zG yb yF (zc 1 rfl (Or.inl rfl)) zx)) (hf:=(Or.inl rfl))) wu
  (xz (xU PassesOwn.leaving rfl (Kz rfl m_enumerate (zc 0 rfl (Or.inl rfl))) (qm (i:=3) (j:=4) rfl nd rfl rfl (Or.inl rfl) (Or.inr rfl) (Or.inl rfl) (Or.inl rfl)) (zt (vA (N:=["total","more","number"]) (k:=2) (idx:=[4]) (i:=2) rfl (by kernel_rfl) rfl nd rfl (Or.inl rfl) (Or.inl rfl) (Zx rfl m_zip (zc 2 rfl (Or.inl rfl)) (zq h_surplus (hr.mono (by decide)) rfl (zh (zh zy)) (zg (zc 1 rfl (Or.inl rfl)) (zg (zc 3 rfl (Or.inl rfl)) zi)))) (qE 0 1 rfl) (fun _ _ _ _ _=>(qm (i:=0) (j:=1) rfl (show (["total","more","number"]:List Str).Nodup from by decide +kernel) rfl rfl (Or.inl rfl) (Or.inl rfl) (Or.inr rfl) (Or.inr rfl))) (fun _ _ _ _ _=>zO) (fun _ _ _ _ _=>(zG yb yF (zc 0 rfl (Or.inl rfl)) (zG xC wB (zc 2 rfl (Or.inr (Or.inl rfl))) (zc 1 rfl (Or.inl rfl))))))) (Nr 3 4)) (YJ wu)
  (xz (zL (i:=5) nd rfl (Or.inr rfl) (yt (qN rfl) WV rfl m_sum Pu.boot_sum (zg (zc 0 rfl (Or.inl rfl)) zi)) (hf:=(Or.inl rfl))) wu
  (qK (qx (N:=["total","words"]) (k:=1) (idx:=[5]) rfl (by kernel_rfl) rfl (yg (zc 2 rfl (Or.inl rfl))) (zK 0 rfl) (fun _ _ _ _ _=>(zF 0 (show (["total","words"]:List Str).Nodup from by decide +kernel) rfl (Or.inl rfl) (Or.inr rfl))) (fun _ _ _ _ _=>zO) (fun _ _ _ _ _=>(zG Ke No (zc 0 rfl (Or.inl rfl)) (zc 1 rfl (Or.inr (Or.inl rfl)))))))))))
abbrev ut:=tp 50
theorem Xa:FnScope ["_law_desk_here","_law_torn","_law_found"] ["_law_desk_here","_law_torn"] (zk ut):=yd
theorem YD (F:Fun K "_law_lists" "_law_lists" ut f fd) (h_counts:zY P w K mg base 8 "counts" ["desk"] xL) (hL_counts:Qe P w K mg base 8 "counts" ["desk"] xL) (hL_counts_of_checks:Qe P w K mg base 2 "counts_of_checks" ["numbers"] yq) (hL_fillings:Qe P w K mg base 8 "fillings" ["desk","torn"] wF) (hL_heads:Qe P w K mg base 7 "heads" ["desk"] vc) (hL_leaders:Qe P w K mg base 9 "leaders" ["desk"] vo) (hL_words_of:Qe P w K mg base 7 "words_of" ["desk"] yh):FnN P w K mg base 10 f fd ["_law_desk_here","_law_torn"] ye :=
 EY 2 F Xa (by decide) (by decide) fun nd hr =>
  (GR 2 nd rfl (Or.inl rfl) (Or.inl rfl) (Or.inl rfl) (vZ (vY hL_leaders (hr.mono (by decide)) rfl (zh zy) (zg (zc 0 rfl (Or.inl rfl)) zi)) (vZ (vY hL_counts (hr.mono (by decide)) rfl (zh zy) (zg (zc 0 rfl (Or.inl rfl)) zi)) (vZ (vY hL_heads (hr.mono (by decide)) rfl (zh zy) (zg (zc 0 rfl (Or.inl rfl)) zi)) (vZ (vY hL_words_of (hr.mono (by decide)) rfl (zh zy) (zg (zc 0 rfl (Or.inl rfl)) zi)) (vZ (vY hL_fillings (hr.mono (by decide)) rfl (zh (zh zy)) (zg (zc 0 rfl (Or.inl rfl)) (zg (zc 1 rfl (Or.inl rfl)) zi))) JX))))) (vY hL_counts_of_checks (hr.mono (by decide)) rfl (zh zy) (zg (zq h_counts (hr.mono (by decide)) rfl (zh zy) (zg (zc 0 rfl (Or.inl rfl)) zi)) zi)))
abbrev MD:=tp 51
theorem TR:FnScope ["_law_script","_law_desk_here","_law_torn","_law_rows_here","_law_due","_law_row","_law_words_here","_law_found"] ["_law_script"] (zk MD):=yd
theorem RO (F:Fun K "law" "law" MD f fd) (m_list:mg "list" = none) (m_tuple:mg "tuple" = none) (h__law_desk:zY P w K mg base 4 "_law_desk" ["_law_script","_law_at"] xZ) (h_made:zY P w K mg base 4 "made" ["size","words"] uI) (hN__law_lists:LI P w K mg base 10 "_law_lists" ["_law_desk_here","_law_torn"] ye):FnD P w K mg base 11 f fd ["_law_script"] d_law_k24 :=
 fnN F TR fun nd hr =>
  (zw (zL (i:=1) nd rfl (Or.inl rfl) (zq h__law_desk (hr.mono (by decide)) rfl (zh (zh zy)) (zg (zc 0 rfl (Or.inl rfl)) (zg zx zi))) (hf:=(Or.inl rfl)))
  (zw (zL (i:=2) nd rfl (Or.inl rfl) (xj wc qf rfl m_tuple Pu.boot_tuple (zg (zG yb yF (zG xC wB (wZ (zg Bm zi)) (zG Kc Nl (xJ vO xI (zc 1 rfl (Or.inl rfl)) zx (fun _ _=>rfl)) zx)) (wZ (zg zx zi))) zi)) (hf:=(Or.inl rfl)))
  (Se 3 4 5 nd rfl rfl rfl (Or.inl rfl) (Or.inl rfl) (Or.inl rfl) (Or.inl rfl) (Or.inl rfl) (Or.inl rfl) (Or.inl rfl) (Or.inl rfl) (by decide) (by decide) (by decide) PassesOwn.leaving rfl (Uf hN__law_lists (hr.mono (by decide)) rfl (zh (zh zy)) (zg (zc 1 rfl (Or.inl rfl)) (zg (zc 2 rfl (Or.inl rfl)) zi))) (Ub (N:=["_law_row"]) (k:=1) (idx:=[]) (i:=4) rfl (by kernel_rfl) rfl nd rfl (Or.inl rfl) (Or.inl rfl) (yg (zc 3 rfl (Or.inl rfl))) (zK 0 rfl) (fun _ _ _ _ _=>(zF 0 (show (["_law_row"]:List Str).Nodup from by decide +kernel) rfl (Or.inl rfl) (Or.inr rfl))) (fun _ _ _ _ _=>(Ue rfl m_list (zc 0 rfl (Or.inl rfl))))) (AM 3) (zw (wz (xb (YA hr) Us (Lr (Uf hN__law_lists (hr.mono (by decide)) rfl (zh (zh zy)) (zg (zc 1 rfl (Or.inl rfl)) (zg (zc 2 rfl (Or.inl rfl)) zi)))) (zc 4 rfl (Or.inl rfl)) (yV _)) (zt (zI jT)) yJ)
  (Bf 6 7 nd rfl rfl (Or.inl rfl) (Or.inl rfl) (Or.inl rfl) (Or.inl rfl) (Or.inl rfl) (by decide) (Ue rfl m_list (xJ vO xI (zc 1 rfl (Or.inl rfl)) zx (fun _ _=>rfl))) (zq h_made (hr.mono (by decide)) rfl (zh (zh zy)) (zg (xJ vO xI (zc 1 rfl (Or.inl rfl)) zx (fun _ _=>rfl)) (zg (zc 6 rfl (Or.inl rfl)) zi))) (xb (YA hr) Us (zc 6 rfl (Or.inl rfl)) (xj GX RP rfl m_list Pu.boot_list (zg (xJ vO xI (zc 1 rfl (Or.inl rfl)) zx (fun _ _=>rfl)) zi)) (yV _)) (zt (zI jT)) zx (zt (zI (Zy (uE hr) jz (zc 7 rfl (Or.inl rfl)) (zc 1 rfl (Or.inl rfl)) (yV _)))))))))
end
theorem all_mk {l:PySem.W.OpenLaw} {w:World} {K:PySem.W.Frag} {h:Heap} {mg:Str->Option Value} {fa:Addr} (X:K.In h) (G:h.Ns mainGlobals mg) (hfa:mg "law" = some (.ref fa))
  {t_LONGEST:Tok} {t_MOST_WORDS:Tok}
  (q__law_mix:yL K "_law_mix" ja)
  (q__law_cell:yL K "_law_cell" uU)
  (q__law_large:yL K "_law_large" uu)
  (q__law_size:yL K "_law_size" uR)
  (q__law_rows:yL K "_law_rows" uS)
  (q__law_sum:yL K "_law_sum" qZ)
  (q__law_spread:yL K "_law_spread" vK)
  (q__law_word:yL K "_law_word" uQ)
  (q__law_words:yL K "_law_words" ur)
  (q__law_desk:yL K "_law_desk" uT)
  (q_head_of:yL K "head_of" Zg)
  (q_stand_as_rows:yL K "stand_as_rows" wX)
  (q_is_number:yL K "is_number" s_is_number)
  (q_is_size:yL K "is_size" s_is_size)
  (q_is_word:yL K "is_word" s_is_word)
  (q_is_desk:yL K "is_desk" s_is_desk)
  (q_checked:yL K "checked" s_checked)
  (q_rows_of:yL K "rows_of" s_rows_of)
  (q_heads:yL K "heads" s_heads)
  (q_plus:yL K "plus" s_plus)
  (q_rest_of:yL K "rest_of" Zf)
  (q_with_word:yL K "with_word" uO)
  (q_made:yL K "made" s_made)
  (q_none:yL K "none" s_none)
  (q_check_of:yL K "check_of" s_check_of)
  (q_checks:yL K "checks" s_checks)
  (q_all_words:yL K "all_words" s_all_words)
  (q_weight:yL K "weight" s_weight)
  (q_lightness:yL K "lightness" uP)
  (q_meet_evenly:yL K "meet_evenly" vJ)
  (q_sign_by:yL K "sign_by" s_sign_by)
  (q_leaders:yL K "leaders" s_leaders)
  (q_words_of:yL K "words_of" s_words_of)
  (q_counts:yL K "counts" s_counts)
  (q_agrees:yL K "agrees" s_agrees)
  (q_fillings:yL K "fillings" s_fillings)
  (q_surplus:yL K "surplus" s_surplus)
  (q_counts_of_checks:yL K "counts_of_checks" xQ)
  (q__law_lists:yL K "_law_lists" ut)
  (q_law:yL K "law" MD)
  (a_LONGEST:PySem.W.nsIn K mainGlobals "LONGEST" = some (some (.int 10 t_LONGEST)))
  (a_MOST_WORDS:PySem.W.nsIn K mainGlobals "MOST_WORDS" = some (some (.int 20 t_MOST_WORDS)))
  (z_all:PySem.W.nsIn K mainGlobals "all" = some none)
  (z_bool:PySem.W.nsIn K mainGlobals "bool" = some none)
  (z_enumerate:PySem.W.nsIn K mainGlobals "enumerate" = some none)
  (z_int:PySem.W.nsIn K mainGlobals "int" = some none)
  (z_isinstance:PySem.W.nsIn K mainGlobals "isinstance" = some none)
  (z_len:PySem.W.nsIn K mainGlobals "len" = some none)
  (z_list:PySem.W.nsIn K mainGlobals "list" = some none)
  (z_range:PySem.W.nsIn K mainGlobals "range" = some none)
  (z_sorted:PySem.W.nsIn K mainGlobals "sorted" = some none)
  (z_sum:PySem.W.nsIn K mainGlobals "sum" = some none)
  (z_tuple:PySem.W.nsIn K mainGlobals "tuple" = some none)
  (z_zip:PySem.W.nsIn K mainGlobals "zip" = some none) :
  ∃ fd:FuncData,(∀ (s:Shared) (v:Value),BindsTo s fd ⟨[v],[]⟩ [("_law_script",v)])/\∀ base:Heap,K.In base->base.Ns mainGlobals mg->FnD l.prog w K mg base 11 fa fd ["_law_script"] d_law_k24:=by
 refine Lg X G hfa q_law (fun _ _ _ _ _ _ _=>rfl) fun base fd F_law=>?_
 have m_all:=PySem.W.mg_none_of X G z_all;have m_bool:=PySem.W.mg_none_of X G z_bool;have m_enumerate:=PySem.W.mg_none_of X G z_enumerate;have m_int:=PySem.W.mg_none_of X G z_int;have m_isinstance:=PySem.W.mg_none_of X G z_isinstance;have m_len:=PySem.W.mg_none_of X G z_len;have m_list:=PySem.W.mg_none_of X G z_list;have m_range:=PySem.W.mg_none_of X G z_range;have m_sorted:=PySem.W.mg_none_of X G z_sorted;have m_sum:=PySem.W.mg_none_of X G z_sum;have m_tuple:=PySem.W.mg_none_of X G z_tuple;have m_zip:=PySem.W.mg_none_of X G z_zip;have m_LONGEST:=PySem.W.mg_of X G a_LONGEST;have m_MOST_WORDS:=PySem.W.mg_of X G a_MOST_WORDS;have h__law_mix:=xy X G q__law_mix (fun F=>Uq (P:=l.prog) (w:=w) (base:=base) F ) fun _ _ _ _ _ _=>us3 fun _ _ _=>rfl
 have h__law_cell:=xy X G q__law_cell (fun F=>WS (P:=l.prog) (w:=w) (base:=base) F m_len) fun _ _ _ _ _ _=>us2 fun _ _=>rfl
 have h__law_large:=xy X G q__law_large (fun F=>Xd (P:=l.prog) (w:=w) (base:=base) F m_len h__law_cell h__law_mix) fun _ _ _ _ _ _=>us1 fun _=>rfl
 have h__law_size:=xy X G q__law_size (fun F=>WO (P:=l.prog) (w:=w) (base:=base) F m_len h__law_cell h__law_large) fun _ _ _ _ _ _=>us2 fun _ _=>rfl
 have h__law_rows:=xy X G q__law_rows (fun F=>WQ (P:=l.prog) (w:=w) (base:=base) F m_int m_len m_range m_tuple) fun _ _ _ _ _ _=>us1 fun _=>rfl
 have h__law_sum:=xy X G q__law_sum (fun F=>Uo (P:=l.prog) (w:=w) (base:=base) F m_tuple m_zip) fun _ _ _ _ _ _=>us2 fun _ _=>rfl
 have h__law_spread:=xy X G q__law_spread (fun F=>YC (P:=l.prog) (w:=w) (base:=base) F m_sorted h__law_sum) fun _ _ _ _ _ _=>us2 fun _ _=>rfl
 have h__law_word:=xy X G q__law_word (fun F=>WN (P:=l.prog) (w:=w) (base:=base) F m_range m_tuple h__law_mix) fun _ _ _ _ _ _=>us2 fun _ _=>rfl
 have h__law_words:=xy X G q__law_words (fun F=>Xc (P:=l.prog) (w:=w) (base:=base) F m_range h__law_cell h__law_word) fun _ _ _ _ _ _=>us3 fun _ _ _=>rfl
 have h__law_desk:=xy X G q__law_desk (fun F=>WR (P:=l.prog) (w:=w) (base:=base) F h__law_rows h__law_size h__law_spread h__law_words) fun _ _ _ _ _ _=>us2 fun _ _=>rfl
 have h_head_of:=xy X G q_head_of (fun F=>QT (P:=l.prog) (w:=w) (base:=base) F ) fun _ _ _ _ _ _=>us1 fun _=>rfl
 have h_stand_as_rows:=xy X G q_stand_as_rows (fun F=>Zm (P:=l.prog) (w:=w) (base:=base) F m_sum h_head_of) fun _ _ _ _ _ _=>us1 fun _=>rfl
 have h_is_number:=xy X G q_is_number (fun F=>WL (P:=l.prog) (w:=w) (base:=base) F m_bool m_int m_isinstance) fun _ _ _ _ _ _=>us3 fun _ _ _=>rfl
 have h_is_size:=xy X G q_is_size (fun F=>QR (P:=l.prog) (w:=w) (base:=base) F m_LONGEST h_is_number) fun _ _ _ _ _ _=>us1 fun _=>rfl
 have h_is_word:=xy X G q_is_word (fun F=>QQ (P:=l.prog) (w:=w) (base:=base) F m_all m_isinstance m_len m_tuple h_is_number h_is_size) fun _ _ _ _ _ _=>us2 fun _ _=>rfl
 have h_is_desk:=xy X G q_is_desk (fun F=>QS (P:=l.prog) (w:=w) (base:=base) F m_all m_isinstance m_len m_tuple h_is_size h_is_word h_stand_as_rows) fun _ _ _ _ _ _=>us1 fun _=>rfl
 have h_checked:=xy X G q_checked (fun F=>QU (P:=l.prog) (w:=w) (base:=base) F h_is_desk) fun _ _ _ _ _ _=>us1 fun _=>rfl
 have h_rows_of:=xy X G q_rows_of (fun F=>QO (P:=l.prog) (w:=w) (base:=base) F h_checked) fun _ _ _ _ _ _=>us1 fun _=>rfl
 have hL_heads:=GK X G q_heads (fun F=>Gs (P:=l.prog) (w:=w) (base:=base) F h_head_of h_rows_of) fun _ _ _ _ _ _=>us1 fun _=>rfl
 have h_heads:=xy X G q_heads (fun F=>Nk (P:=l.prog) (w:=w) (base:=base) F h_head_of h_rows_of) fun _ _ _ _ _ _=>us1 fun _=>rfl
 have h_plus:=xy X G q_plus (fun F=>Py (P:=l.prog) (w:=w) (base:=base) F m_tuple m_zip) fun _ _ _ _ _ _=>us2 fun _ _=>rfl
 have h_rest_of:=xy X G q_rest_of (fun F=>QP (P:=l.prog) (w:=w) (base:=base) F h_head_of h_plus) fun _ _ _ _ _ _=>us2 fun _ _=>rfl
 have h_with_word:=xy X G q_with_word (fun F=>WJ (P:=l.prog) (w:=w) (base:=base) F m_sorted h_head_of h_plus h_rest_of) fun _ _ _ _ _ _=>us2 fun _ _=>rfl
 have h_made:=xy X G q_made (fun F=>PB (P:=l.prog) (w:=w) (base:=base) F m_enumerate m_isinstance m_len m_list m_tuple m_MOST_WORDS h_is_size h_is_word h_with_word) fun _ _ _ _ _ _=>us2 fun _ _=>rfl
 have h_none:=xy X G q_none (fun F=>Pz (P:=l.prog) (w:=w) (base:=base) F ) fun _ _ _ _ _ _=>us1 fun _=>rfl
 have h_check_of:=xy X G q_check_of (fun F=>Um (P:=l.prog) (w:=w) (base:=base) F m_list m_tuple h_head_of h_none) fun _ _ _ _ _ _=>us3 fun _ _ _=>rfl
 have h_checks:=xy X G q_checks (fun F=>Gq (P:=l.prog) (w:=w) (base:=base) F m_range h_check_of h_heads h_made h_rows_of) fun _ _ _ _ _ _=>us1 fun _=>rfl
 have h_all_words:=xy X G q_all_words (fun F=>WM (P:=l.prog) (w:=w) (base:=base) F m_range) fun _ _ _ _ _ _=>us1 fun _=>rfl
 have h_weight:=xy X G q_weight (fun F=>Go (P:=l.prog) (w:=w) (base:=base) F m_sum) fun _ _ _ _ _ _=>us1 fun _=>rfl
 have h_lightness:=xy X G q_lightness (fun F=>WK (P:=l.prog) (w:=w) (base:=base) F h_weight) fun _ _ _ _ _ _=>us1 fun _=>rfl
 have h_meet_evenly:=xy X G q_meet_evenly (fun F=>YB (P:=l.prog) (w:=w) (base:=base) F m_sum m_zip) fun _ _ _ _ _ _=>us2 fun _ _=>rfl
 have h_sign_by:=xy X G q_sign_by (fun F=>QN (P:=l.prog) (w:=w) (base:=base) F m_tuple h_meet_evenly) fun _ _ _ _ _ _=>us2 fun _ _=>rfl
 have hL_leaders:=GK X G q_leaders (fun F=>Ur (P:=l.prog) (w:=w) (base:=base) F m_sorted h_all_words h_checks h_lightness h_rows_of h_sign_by) fun _ _ _ _ _ _=>us1 fun _=>rfl
 have hL_words_of:=GK X G q_words_of (fun F=>WT (P:=l.prog) (w:=w) (base:=base) F m_sorted h_none h_plus h_rows_of) fun _ _ _ _ _ _=>us1 fun _=>rfl
 have h_words_of:=xy X G q_words_of (fun F=>Ul (P:=l.prog) (w:=w) (base:=base) F m_sorted h_none h_plus h_rows_of) fun _ _ _ _ _ _=>us1 fun _=>rfl
 have hL_counts:=GK X G q_counts (fun F=>QV (P:=l.prog) (w:=w) (base:=base) F m_range h_weight h_words_of) fun _ _ _ _ _ _=>us1 fun _=>rfl
 have h_counts:=xy X G q_counts (fun F=>Gp (P:=l.prog) (w:=w) (base:=base) F m_range h_weight h_words_of) fun _ _ _ _ _ _=>us1 fun _=>rfl
 have h_agrees:=xy X G q_agrees (fun F=>Gr (P:=l.prog) (w:=w) (base:=base) F m_all m_zip) fun _ _ _ _ _ _=>us2 fun _ _=>rfl
 have hL_fillings:=GK X G q_fillings (fun F=>WU (P:=l.prog) (w:=w) (base:=base) F h_agrees h_words_of) fun _ _ _ _ _ _=>us2 fun _ _=>rfl
 have h_surplus:=xy X G q_surplus (fun F=>QM (P:=l.prog) (w:=w) (base:=base) F m_range m_zip) fun _ _ _ _ _ _=>us2 fun _ _=>rfl
 have hL_counts_of_checks:=GK X G q_counts_of_checks (fun F=>qd (P:=l.prog) (w:=w) (base:=base) F m_enumerate m_len m_sum m_zip h_surplus) fun _ _ _ _ _ _=>us1 fun _=>rfl
 have hN__law_lists:=ET X G q__law_lists (fun F=>YD (P:=l.prog) (w:=w) (base:=base) F h_counts hL_counts hL_counts_of_checks hL_fillings hL_heads hL_leaders hL_words_of) fun _ _ _ _ _ _=>us2 fun _ _=>rfl
 exact RO F_law m_list m_tuple h__law_desk h_made hN__law_lists
end K24
def PySem.W.Fast.tw11764858719368088636:Nat:=0
def PySem.W.Fast.tw5626748602145822869:Nat:=0
def PySem.W.Fast.tw14856324368558796784:Nat:=0
def PySem.W.Fast.tw16662767968895770840:Nat:=0
def PySem.W.Fast.tw13635493864547961788:Nat:=0
def PySem.W.Fast.tw17388055844459560076:Nat:=0
def PySem.W.Fast.tw9924176758685967627:Nat:=0
def PySem.W.Fast.tw11962395006353617515:Nat:=0
open PySem PySem.W PyProof.Rows
set_option maxHeartbeats 0 in
theorem PySem.Challenge.cw_paritydesk_k24_nothing_is_kept_holds : PySem.Challenge.rw_paritydesk_k24_nothing_is_kept.Holds := by
 w_on;o_law;k_head;(case hw=>w_witness2)
 k_fill
 refine Pu.walkD (l:=PySem.Challenge.rw_paritydesk_k24_nothing_is_kept) (k:=11) (x := "_law_script") (D:=Dn.d_law_k24) rfl rfl ⟨rfl,by decide,by decide⟩ (fun w h Y=>PySem.W.kIn_of Y) ?F Dn.law_k24_true
 case F =>
  intro w mg fa h KX G hmg
  refine' K24.all_mk KX G hmg ?q__law_mix ?q__law_cell ?q__law_large ?q__law_size ?q__law_rows ?q__law_sum ?q__law_spread ?q__law_word ?q__law_words ?q__law_desk ?q_head_of ?q_stand_as_rows ?q_is_number ?q_is_size ?q_is_word ?q_is_desk ?q_checked ?q_rows_of ?q_heads ?q_plus ?q_rest_of ?q_with_word ?q_made ?q_none ?q_check_of ?q_checks ?q_all_words ?q_weight ?q_lightness ?q_meet_evenly ?q_sign_by ?q_leaders ?q_words_of ?q_counts ?q_agrees ?q_fillings ?q_surplus ?q_counts_of_checks ?q__law_lists ?q_law ?a_LONGEST ?a_MOST_WORDS ?z_all ?z_bool ?z_enumerate ?z_int ?z_isinstance ?z_len ?z_list ?z_range ?z_sorted ?z_sum ?z_tuple ?z_zip
  (case q__law_mix=>(refine' Pu.dfin ?a ?l ?c ?k;(case a=>k_is);(case l=>k_is);(case c=>k_is);(case k=>k_is)))
  (case q__law_cell=>(refine' Pu.dfin ?a ?l ?c ?k;(case a=>k_is);(case l=>k_is);(case c=>k_is);(case k=>k_is)))
  (case q__law_large=>(refine' Pu.dfin ?a ?l ?c ?k;(case a=>k_is);(case l=>k_is);(case c=>k_is);(case k=>k_is)))
  (case q__law_size=>(refine' Pu.dfin ?a ?l ?c ?k;(case a=>k_is);(case l=>k_is);(case c=>k_is);(case k=>k_is)))
  (case q__law_rows=>(refine' Pu.dfin ?a ?l ?c ?k;(case a=>k_is);(case l=>k_is);(case c=>k_is);(case k=>k_is)))
  (case q__law_sum=>(refine' Pu.dfin ?a ?l ?c ?k;(case a=>k_is);(case l=>k_is);(case c=>k_is);(case k=>k_is)))
  (case q__law_spread=>(refine' Pu.dfin ?a ?l ?c ?k;(case a=>k_is);(case l=>k_is);(case c=>k_is);(case k=>k_is)))
  (case q__law_word=>(refine' Pu.dfin ?a ?l ?c ?k;(case a=>k_is);(case l=>k_is);(case c=>k_is);(case k=>k_is)))
  (case q__law_words=>(refine' Pu.dfin ?a ?l ?c ?k;(case a=>k_is);(case l=>k_is);(case c=>k_is);(case k=>k_is)))
  (case q__law_desk=>(refine' Pu.dfin ?a ?l ?c ?k;(case a=>k_is);(case l=>k_is);(case c=>k_is);(case k=>k_is)))
  (case q_head_of=>(refine' Pu.dfin ?a ?l ?c ?k;(case a=>k_is);(case l=>k_is);(case c=>k_is);(case k=>k_is)))
  (case q_stand_as_rows=>(refine' Pu.dfin ?a ?l ?c ?k;(case a=>k_is);(case l=>k_is);(case c=>k_is);(case k=>k_is)))
  (case q_is_number=>(refine' Pu.dfin ?a ?l ?c ?k;(case a=>k_is);(case l=>k_is);(case c=>k_is);(case k=>k_is)))
  (case q_is_size=>(refine' Pu.dfin ?a ?l ?c ?k;(case a=>k_is);(case l=>k_is);(case c=>k_is);(case k=>k_is)))
  (case q_is_word=>(refine' Pu.dfin ?a ?l ?c ?k;(case a=>k_is);(case l=>k_is);(case c=>k_is);(case k=>k_is)))
  (case q_is_desk=>(refine' Pu.dfin ?a ?l ?c ?k;(case a=>k_is);(case l=>k_is);(case c=>k_is);(case k=>k_is)))
  (case q_checked=>(refine' Pu.dfin ?a ?l ?c ?k;(case a=>k_is);(case l=>k_is);(case c=>k_is);(case k=>k_is)))
  (case q_rows_of=>(refine' Pu.dfin ?a ?l ?c ?k;(case a=>k_is);(case l=>k_is);(case c=>k_is);(case k=>k_is)))
  (case q_heads=>(refine' Pu.dfin ?a ?l ?c ?k;(case a=>k_is);(case l=>k_is);(case c=>k_is);(case k=>k_is)))
  (case q_plus=>(refine' Pu.dfin ?a ?l ?c ?k;(case a=>k_is);(case l=>k_is);(case c=>k_is);(case k=>k_is)))
  (case q_rest_of=>(refine' Pu.dfin ?a ?l ?c ?k;(case a=>k_is);(case l=>k_is);(case c=>k_is);(case k=>k_is)))
  (case q_with_word=>(refine' Pu.dfin ?a ?l ?c ?k;(case a=>k_is);(case l=>k_is);(case c=>k_is);(case k=>k_is)))
  (case q_made=>(refine' Pu.dfin ?a ?l ?c ?k;(case a=>k_is);(case l=>k_is);(case c=>k_is);(case k=>k_is)))
  (case q_none=>(refine' Pu.dfin ?a ?l ?c ?k;(case a=>k_is);(case l=>k_is);(case c=>k_is);(case k=>k_is)))
  (case q_check_of=>(refine' Pu.dfin ?a ?l ?c ?k;(case a=>k_is);(case l=>k_is);(case c=>k_is);(case k=>k_is)))
  (case q_checks=>(refine' Pu.dfin ?a ?l ?c ?k;(case a=>k_is);(case l=>k_is);(case c=>k_is);(case k=>k_is)))
  (case q_all_words=>(refine' Pu.dfin ?a ?l ?c ?k;(case a=>k_is);(case l=>k_is);(case c=>k_is);(case k=>k_is)))
  (case q_weight=>(refine' Pu.dfin ?a ?l ?c ?k;(case a=>k_is);(case l=>k_is);(case c=>k_is);(case k=>k_is)))
  (case q_lightness=>(refine' Pu.dfin ?a ?l ?c ?k;(case a=>k_is);(case l=>k_is);(case c=>k_is);(case k=>k_is)))
  (case q_meet_evenly=>(refine' Pu.dfin ?a ?l ?c ?k;(case a=>k_is);(case l=>k_is);(case c=>k_is);(case k=>k_is)))
  (case q_sign_by=>(refine' Pu.dfin ?a ?l ?c ?k;(case a=>k_is);(case l=>k_is);(case c=>k_is);(case k=>k_is)))
  (case q_leaders=>(refine' Pu.dfin ?a ?l ?c ?k;(case a=>k_is);(case l=>k_is);(case c=>k_is);(case k=>k_is)))
  (case q_words_of=>(refine' Pu.dfin ?a ?l ?c ?k;(case a=>k_is);(case l=>k_is);(case c=>k_is);(case k=>k_is)))
  (case q_counts=>(refine' Pu.dfin ?a ?l ?c ?k;(case a=>k_is);(case l=>k_is);(case c=>k_is);(case k=>k_is)))
  (case q_agrees=>(refine' Pu.dfin ?a ?l ?c ?k;(case a=>k_is);(case l=>k_is);(case c=>k_is);(case k=>k_is)))
  (case q_fillings=>(refine' Pu.dfin ?a ?l ?c ?k;(case a=>k_is);(case l=>k_is);(case c=>k_is);(case k=>k_is)))
  (case q_surplus=>(refine' Pu.dfin ?a ?l ?c ?k;(case a=>k_is);(case l=>k_is);(case c=>k_is);(case k=>k_is)))
  (case q_counts_of_checks=>(refine' Pu.dfin ?a ?l ?c ?k;(case a=>k_is);(case l=>k_is);(case c=>k_is);(case k=>k_is)))
  (case q__law_lists=>(refine' Pu.dfin ?a ?l ?c ?k;(case a=>k_is);(case l=>k_is);(case c=>k_is);(case k=>k_is)))
  (case q_law=>(refine' Pu.dfin ?a ?l ?c ?k;(case a=>k_is);(case l=>k_is);(case c=>k_is);(case k=>k_is)))
  (case a_LONGEST=>k_is)
  (case a_MOST_WORDS=>k_is)
  (case z_all=>k_is)
  (case z_bool=>k_is)
  (case z_enumerate=>k_is)
  (case z_int=>k_is)
  (case z_isinstance=>k_is)
  (case z_len=>k_is)
  (case z_list=>k_is)
  (case z_range=>k_is)
  (case z_sorted=>k_is)
  (case z_sum=>k_is)
  (case z_tuple=>k_is)
  (case z_zip=>k_is)
