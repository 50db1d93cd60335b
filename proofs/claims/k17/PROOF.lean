import PyProof.Rows.All
import Wide.All
import OpenK.AllK
import Wide.FinOn
import Lean
import PyProof.EqAt
import PyProof.EqKinds
import PyProof.TupleCall
import PyProof.ListMulRoad
import PyProof.ZipIter
import PyProof.SumAny
import PyProof.CompUse
import PyProof.Rows.SortShellK
import KE.KSortTup
import PyProof.EnumIter
import PyProof.EnumMake
import PyProof.EnumFor
import KE.KRevIter
import PyProof.ListNew
import PyProof.ListStr
import KE.KTryDeep
import PyProof.NsDelKeeps
import PyProof.P3Eq
import PyProof.TupleKey
import PyProof.MinMaxWalk
import PyProof.StrLoop
import PyProof.StrWalks
import PyProof.StrCalls2
import PyProof.FString
import PyProof.Rows.StrNews
import PyProof.Rows.StrWeight2
import KE.KIntText
import PyProof.CollectWalk
import PyProof.SetKind
import PyProof.Rows.SetFrom
import PyProof.Rows.SortWalk
import PyProof.SetRoads
import PyProof.AutoListH
import PyProof.FactsAll.list_4
import PyProof.StrLawsTight
import PyProof.StrLawsChain
import PySem.Challenge.RW_paritydesk_k17_whole_cut_and_kept
set_option Elab.async false
set_option linter.all false
set_option maxRecDepth 100000
namespace L2
open PySem PySem.Spec PyProof.Rows
abbrev Key:=Sum Int Str
def keyIs:Key->Value->Bool
 | .inl k,v=>Value.isInt k v
 | .inr x,v=>Value.isStrOf x v
def keyH (w:World):Key->Int
 | .inl k=>hashInt k
 | .inr x=>hashStr w x
theorem keyIs_shape:∀ {k:Key} {v:Value},keyIs k v=true->(∃ i t,k=Sum.inl i/\v=Value.int i t)\/(∃ x t,k=Sum.inr x/\v=Value.str x t)
 | .inl i,v,h=>by
  obtain ⟨t,e⟩:=Value.isInt_shape (k:=i) (v:=v) h;exact .inl ⟨i,t,rfl,e⟩
 | .inr x,v,h=>by
  obtain ⟨t,e⟩:=Value.isStrOf_shape (x:=x) (v:=v) h;exact .inr ⟨x,t,rfl,e⟩
theorem key_ll (a b:Int):decide ((Sum.inl a:Key)=Sum.inl b)=(a==b):=by
 by_cases e:a=b
 ·subst e;simp
 ·have h:¬ (Sum.inl a:Key)=Sum.inl b:=fun q=>e (Sum.inl.inj q)
  rw [decide_eq_false h];exact (beq_eq_false_iff_ne.mpr e).symm
theorem key_rr (a b:Str):decide ((Sum.inr a:Key)=Sum.inr b)=decide (a=b):=by
 by_cases e:a=b
 ·subst e;simp
 ·have h:¬ (Sum.inr a:Key)=Sum.inr b:=fun q=>e (Sum.inr.inj q)
  rw [decide_eq_false h,decide_eq_false e]
theorem key_lr (a:Int) (b:Str):decide ((Sum.inl a:Key)=Sum.inr b)=false:=decide_eq_false (fun q=>nomatch q)
theorem key_rl (a:Str) (b:Int):decide ((Sum.inr a:Key)=Sum.inl b)=false:=decide_eq_false (fun q=>nomatch q)
def mixKind (prog:Program) (w:World):PySem.KeyKind prog w Key where
 is:=keyIs
 hash:=keyH w
 inj:=fun v a b ha hb=>by
  rcases keyIs_shape ha with ⟨i,t,rfl,rfl⟩ | ⟨x,t,rfl,rfl⟩
  ·rcases keyIs_shape hb with ⟨j,u,rfl,e⟩ | ⟨y,u,rfl,e⟩
   ·injection e with e1 _;rw [e1]
   ·exact nomatch e
  ·rcases keyIs_shape hb with ⟨j,u,rfl,e⟩ | ⟨y,u,rfl,e⟩
   ·exact nomatch e
   ·injection e with e1 _;rw [e1]
 byValue:=fun k v h=>by
  rcases keyIs_shape h with ⟨i,t,rfl,rfl⟩ | ⟨x,t,rfl,rfl⟩<;>rfl
 pyHash:=fun hv h=>by
  rcases keyIs_shape hv with ⟨i,t,rfl,rfl⟩ | ⟨x,t,rfl,rfl⟩
  ·exact wpAny_pyHash_int h
  ·exact wpAny_pyHash_str h
 eqBool:=fun hu hv h=>by
  rcases keyIs_shape hu with ⟨i,t,rfl,rfl⟩ | ⟨x,t,rfl,rfl⟩
  ·rcases keyIs_shape hv with ⟨j,u,rfl,rfl⟩ | ⟨y,u,rfl,rfl⟩
   ·rw [key_ll] at h;exact wpAny_eqBool_int h
   ·rw [key_lr] at h;exact SeqAt.EqAt.int_str i t y u _ _ _ _ h
  ·rcases keyIs_shape hv with ⟨j,u,rfl,rfl⟩ | ⟨y,u,rfl,rfl⟩
   ·rw [key_rl] at h;exact SeqAt.EqAt.str_int x t j u _ _ _ _ h
   ·rw [key_rr] at h;exact wpAny_eqBool_str h
 «strs»:=fun k x t v h=>by
  rcases keyIs_shape h with ⟨i,u,rfl,e⟩ | ⟨y,u,rfl,e⟩
  ·exact nomatch e
  ·injection e with e1 _
   subst e1;cases v<;>rfl
end L2
namespace L2
open PySem PySem.Spec PyProof.Rows
inductive V where
 | non | bl (b:Bool) | int (i:Int) | str (x:Str) | byt (b:Array UInt8) | flt (b:UInt64) | ref (a:Addr) | ty (n:String)
 deriving DecidableEq
def RelV:V->Value->Prop
 | .non,u=>u=Value.none
 | .bl b,u=>u=Value.bool b
 | .int i,u=>∃ t,u=Value.int i t
 | .str x,u=>∃ t,u=Value.str x t
 | .byt b,u=>∃ t,u=Value.bytes b t
 | .flt b,u=>∃ t,u=Value.float b t
 | .ref a,u=>u=Value.ref a
 | .ty n,u=>u=Value.type n
abbrev Vals:List V->List Value->Prop:=Paired RelV
theorem Vals.length {xs:List V} {us:List Value} (r:Vals xs us):xs.length=us.length:=Paired.length r
theorem Vals.get:∀ {xs:List V} {us:List Value} {i:Nat} {x:V},Vals xs us->xs[i]?=some x->∃ u,us[i]?=some u/\RelV x u
 | _,_,_,_,.nil,e=>by simp at e
 | _,_,0,_,.cons r _,e=>by simp at e;subst e;exact ⟨_,rfl,r⟩
 | _,_,i+1,x,.cons _ t,e=>by
  obtain ⟨u,h1,h2⟩:=Vals.get (i:=i) (x:=x) t (by simpa using e);exact ⟨u,by simpa using h1,h2⟩
theorem Vals.set {x:V} {u:Value} (r:RelV x u):∀ {xs:List V} {us:List Value} (i:Nat),Vals xs us->Vals (xs.set i x) (us.set i u)
 | _,_,_,.nil=>.nil
 | _,_,0,.cons _ t=>.cons r t
 | _,_,i+1,.cons q t=>.cons q (Vals.set r i t)
theorem Vals.append:∀ {xs ys:List V} {us ws:List Value},Vals xs us->Vals ys ws->Vals (xs++ys) (us++ws)
 | _,_,_,_,.nil,s=>s
 | _,_,_,_,.cons r t,s=>.cons r (Vals.append t s)
theorem Vals.take:∀ {xs:List V} {us:List Value} (n:Nat),Vals xs us->Vals (xs.take n) (us.take n)
 | _,_,0,_=>.nil
 | _,_,_+1,.nil=>.nil
 | _,_,n+1,.cons r t=>.cons r (Vals.take n t)
theorem Vals.drop:∀ {xs:List V} {us:List Value} (n:Nat),Vals xs us->Vals (xs.drop n) (us.drop n)
 | _,_,0,r=>r
 | _,_,_+1,.nil=>.nil
 | _,_,n+1,.cons _ t=>Vals.drop n t
def RelO:Option V->Option Value->Prop
 | some v,some u=>RelV v u
 | none,none=>True
 | _,_=>False
def KV {κ:Type}:List (κ×V)->List (κ×Value)->Prop:=Paired fun (p:κ×V) (q:κ×Value)=>p.1=q.1/\RelV p.2 q.2
def kV:Key->V
 | .inl i=>.int i
 | .inr x=>.str x
inductive HO where
 | lst (xs:List V)
 | tup (xs:List V)
 | dK (kvs:List (Key×V)) | dT (kvs:List (List Key×V))
 | set (S:Int->Bool) (n:Nat)
 | ins (C dx:Addr) (fs:List (Str×V))
 | own (x:Addr)
 | xd (fs:List (Str×V))
 | met (f x:Addr)
 | rng (lo hi:Int)
 | frz (o:Obj) (u:HO)
 | tbl (ps:Array Value)
 | ext (φ:Heap->Prop)
abbrev Hp:=Addr->Option HO
def upd (H:Hp) (a:Addr) (o:HO):Hp:=fun b=>if b=a then some o else H b
theorem upd_same {H:Hp} {a:Addr} {o:HO}:upd H a o a=some o:=by unfold upd;rw [if_pos rfl]
theorem upd_ne {H:Hp} {a b:Addr} {o:HO} (h:b≠a):upd H a o b=H b:=by unfold upd;rw [if_neg h]
theorem ne_of_none {H:Hp} {a b:Addr} {o:HO} (h:H a=some o) (h':H b=none):a≠b:=by
 intro e;subst e;rw [h] at h';cases h'
def IsTupD (h:Heap) (a:Addr) (items:Array Value):Prop:=∃ o,h.get? a=some o/\o.cls=.type "tuple" /\ o.dict=none/\∃ n,o.data=.seq items n
theorem IsTupD.tup {h:Heap} {a:Addr} {items:Array Value} (x:IsTupD h a items):IsTup h a items:=let ⟨o,e,c,_,d⟩:=x;⟨o,e,c,d⟩
theorem IsTupD.new (h:Heap) (items:Array Value):IsTupD (h.push {cls:=.type "tuple",data:=.seq items}) h.objs.size items:=⟨_,Heap.get?_push_size _ rfl,rfl,rfl,_,rfl⟩
section
variable (P:Program) (w:World)
def ObjOk (H:Hp) (h:Heap) (a:Addr):HO->Prop
 | .lst xs=>xs.length<=sizeLine/\∃ (its:List Value) (n:Nat),Vals xs its/\h.get? a=some {cls:=.type "list",data:=.seq its.toArray n}
 | .tup xs=>xs.length<=sizeLine/\∃ its:List Value,Vals xs its/\IsTupD h a its.toArray
 | .dK kvs=>kvs.length<=sizeLine/\(a==sysModules)=false/\∃ vs,KV kvs vs/\h.DictOf (mixKind P w) a vs
 | .dT kvs=>kvs.length<=sizeLine/\(a==sysModules)=false/\∃ xs:List (List Key×Addr×Value),
   Paired (fun (p:List Key×V) (q:List Key×Addr×Value)=>p.1=q.1/\H q.2.1=some (.tup (p.1.map kV))/\RelV p.2 q.2.2) kvs xs /\
   ∃ o es ep,h.get? a=some o/\o.ExactDict/\o.data=.dict es ep/\es.toList=xs.map (entryOfKey (tupleKind (mixKind P w)))/\(xs.map (·.1)).Nodup
 | .set S n=>h.SetOf (intKind P w) a S n
 | .ins C dx fs=>H dx=some (.own a)/\fs.length<=1000/\dx≠a/\h.get? a=some (PySem.W.instObj C dx) /\
   ∃ mA,h.Ns1 dx mA/\(∀ f,RelO (fs.lookup f) (mA f))/\PySem.Within mA (fs.map (·.1))
 | .own _=>∃ o,h.get? a=some o
 | .xd fs=>∃ mA,h.Ns1 a mA/\∀ f,RelO (fs.lookup f) (mA f)
 | .rng lo hi=>∃ t u v,h.get? a=some {cls:=.type "range",data:=.fields #[.int lo t,.int hi u,.int 1 v]}
 | .frz o u=>h.get? a=some o/\ObjOk H h a u
 | .tbl ps=>h.get? a=some {cls:=.none,data:=.fields ps}
 | .met f x=>h.get? a=some (PySem.W.methodObj (.ref f) (.ref x))
 | .ext φ=>φ h/\(∃ o,h.get? a=some o)/\∀ h1 h2:Heap,φ h1->(∀ o,h1.get? a=some o->h2.get? a=some o)->φ h2
def HOk (H:Hp) (h:Heap):Prop:=∀ a o,H a=some o->ObjOk P w H h a o
end
section
variable {P:Program} {w:World} {H H':Hp} {h h':Heap} {a:Addr} {o:HO}
theorem ObjOk.lt (x:ObjOk P w H h a o):a<h.objs.size:=by
 cases o with
 | lst xs=>obtain ⟨_,_,_,_,e⟩:=x;exact Heap.lt_size e
 | tup xs=>obtain ⟨_,_,_,p⟩:=x;exact p.tup.lt
 | dK kvs=>obtain ⟨_,_,_,_,o,_,_,e,_⟩:=x;exact Heap.lt_size e
 | dT kvs=>obtain ⟨_,_,_,_,o,_,_,e,_⟩:=x;exact Heap.lt_size e
 | set S n=>obtain ⟨o,_,_,_,e,_⟩:=x;exact Heap.lt_size e
 | ins C dx fs=>obtain ⟨_,_,_,e,_⟩:=x;exact Heap.lt_size e
 | own y=>obtain ⟨_,e⟩:=x;exact Heap.lt_size e
 | xd fs=>obtain ⟨_,⟨_,_,_,e,_⟩,_⟩:=x;exact Heap.lt_size e
 | rng lo hi=>obtain ⟨_,_,_,e⟩:=x;exact Heap.lt_size e
 | frz ob u=>obtain ⟨e,_⟩:=x;exact Heap.lt_size e
 | tbl ps=>exact Heap.lt_size (show h.get? a=some _ from x)
 | met f y=>exact Heap.lt_size (show h.get? a=some _ from x)
 | ext φ=>obtain ⟨_,⟨_,e⟩,_⟩:=x;exact Heap.lt_size e
theorem Paired.mapP {α β:Type} {F G:α->β->Prop}:∀ {l₁:List α} {l₂:List β},Paired F l₁ l₂->(∀ a b,F a b->G a b)->Paired G l₁ l₂
 | _,_,.nil,_=>.nil
 | _,_,.cons r t,f=>.cons (f _ _ r) (Paired.mapP t f)
theorem ObjOk.stay (x:ObjOk P w H h a o) (k:∀ b u,(b=a\/H b=some (.own a))->h.get? b=some u->h'.get? b=some u)
  (ho:∀ b,H b=some (.own a)->H' b=some (.own a)) (ht:∀ b xs,H b=some (.tup xs)->H' b=some (.tup xs)):ObjOk P w H' h' a o:=by
 induction o with
 | lst xs=>obtain ⟨z,its,n,r,e⟩:=x;exact ⟨z,its,n,r,k _ _ (.inl rfl) e⟩
 | tup xs=>obtain ⟨z,its,r,ob,e,c⟩:=x;exact ⟨z,its,r,ob,k _ _ (.inl rfl) e,c⟩
 | dK kvs=>obtain ⟨z,y,vs,r,ob,es,ep,e,c⟩:=x;exact ⟨z,y,vs,r,ob,es,ep,k _ _ (.inl rfl) e,c⟩
 | dT kvs =>
  obtain ⟨z,y,xs,r,ob,es,ep,e,c⟩:=x;exact ⟨z,y,xs,Paired.mapP r fun p q z=>⟨z.1,ht _ _ z.2.1,z.2.2⟩,ob,es,ep,k _ _ (.inl rfl) e,c⟩
 | set S n=>obtain ⟨ob,es,ep,t,e,c⟩:=x;exact ⟨ob,es,ep,t,k _ _ (.inl rfl) e,c⟩
 | ins C dx fs =>
  obtain ⟨d,z,ne,e,mA,⟨od,es,ep,e2,c⟩,r⟩:=x;exact ⟨ho _ d,z,ne,k _ _ (.inl rfl) e,mA,⟨od,es,ep,k _ _ (.inr d) e2,c⟩,r⟩
 | own y=>obtain ⟨ob,e⟩:=x;exact ⟨ob,k _ _ (.inl rfl) e⟩
 | xd fs=>obtain ⟨mA,⟨od,es,ep,e,c⟩,r⟩:=x;exact ⟨mA,⟨od,es,ep,k _ _ (.inl rfl) e,c⟩,r⟩
 | rng lo hi=>obtain ⟨t,u,v,e⟩:=x;exact ⟨t,u,v,k _ _ (.inl rfl) e⟩
 | frz ob u ih=>obtain ⟨e,q⟩:=x;exact ⟨k _ _ (.inl rfl) e,ih q⟩
 | tbl ps =>
  have e:h.get? a=some {cls:=.none,data:=.fields ps}:=x;show h'.get? a=some {cls:=.none,data:=.fields ps};exact k a _ (.inl rfl) e
 | met f y =>
  have e:h.get? a=some (PySem.W.methodObj (.ref f) (.ref y)):=x;show h'.get? a=some (PySem.W.methodObj (.ref f) (.ref y));exact k a _ (.inl rfl) e
 | ext φ=>obtain ⟨p,⟨o,e⟩,st⟩:=x;exact ⟨st _ _ p fun o q=>k _ _ (.inl rfl) q,⟨o,k _ _ (.inl rfl) e⟩,st⟩
theorem HOk.lt (x:HOk P w H h) (e:H a=some o):a<h.objs.size:=(x a o e).lt
theorem HOk.fresh (x:HOk P w H h) (e:h.objs.size<=a):H a=none:=by
 cases q:H a with
 | none=>rfl
 | some u=>exact absurd (Nat.lt_of_lt_of_le (x.lt q) e) (Nat.lt_irrefl _)
theorem HOk.kept (x:HOk P w H h) (k:∀ b u,h.get? b=some u->h'.get? b=some u):HOk P w H h':=fun a o e =>
 (x a o e).stay (fun b u _ q=>k b u q) (fun _ q=>q) fun _ _ q=>q
theorem HOk.laid (x:HOk P w H h) (k:∀ b u,h.get? b=some u->h'.get? b=some u) (hp:h.objs.size<=a) (new:ObjOk P w (upd H a o) h' a o):HOk P w (upd H a o) h':=fun b u e=>by
 have hn:=x.fresh hp
 by_cases hb:b=a
 ·subst hb;rw [upd_same] at e;cases e;exact new
 ·rw [upd_ne hb] at e;exact (x b u e).stay (fun c v _ q=>k c v q) (fun c q=>by rw [upd_ne (ne_of_none q hn)];exact q) fun c xs q=>by rw [upd_ne (ne_of_none q hn)];exact q
end
def Rd (H:Hp) (a:Addr) (u:HO):Prop:=H a=some u\/∃ o,H a=some (.frz o u)
theorem Rd.ok {P:Program} {w:World} {H:Hp} {h:Heap} {a:Addr} {u:HO} (r:Rd H a u) (x:HOk P w H h):ObjOk P w H h a u:=by
 rcases r with r | ⟨o,r⟩
 ·exact x a u r
 ·obtain ⟨_,q⟩:=x a _ r;exact q
def Mut:Option HO->Prop
 | some (.lst _)=>True
 | some (.dK _)=>True
 | some (.dT _)=>True
 | some (.set _ _)=>True
 | some (.ins _ _ _)=>True
 | some (.ext _)=>True
 | _=>False
section
variable {P:Program} {w:World} {H:Hp} {h h':Heap} {x e:Addr} {o':HO}
theorem HOk.write (ok:HOk P w H h) (mu:Mut (H x)) (he:e=x\/H e=some (.own x)) (k:∀ b u,b≠e->h.get? b=some u->h'.get? b=some u) (heo:∃ u,h'.get? e=some u)
  (new:ObjOk P w (upd H x o') h' x o'):HOk P w (upd H x o') h':=fun b u q=>by
 have nown:∀ c y,H c=some (.own y)->c≠x:=fun c y r z=>by subst z;rw [r] at mu;exact mu
 have ntup:∀ c xs,H c=some (.tup xs)->c≠x:=fun c xs r z=>by subst z;rw [r] at mu;exact mu
 by_cases hb:b=x
 ·subst hb;rw [upd_same] at q;cases q;exact new
 ·rw [upd_ne hb] at q
  by_cases hbe:b=e
  ·have q':H b=some (.own x):=by
    rcases he with z | z
    ·exact absurd (hbe.trans z) hb
    ·rw [hbe];exact z
   rw [q] at q';cases q';obtain ⟨v,hv⟩:=heo;exact ⟨v,by rw [hbe];exact hv⟩
  ·refine (ok b u q).stay (fun c v hc r=>k c v ?_ r) (fun c r=>by rw [upd_ne (nown c b r)];exact r) fun c xs r=>by rw [upd_ne (ntup c xs r)];exact r
   rcases hc with rfl | hc
   ·exact hbe
   ·rintro rfl
    rcases he with z | z
    ·exact nown c b hc z
    ·rw [hc] at z;cases z;exact hb rfl
end
structure Un (fs ex:List Addr) (H H':Hp) (h h':Heap):Prop where
 keep:∀ b o,h.get? b=some o->H b=none->b∉fs->b∉ex->h'.get? b=some o
 slot:∀ b o,h.get? b=some o->H b=none->b∈fs->b∉ex->∃ sl,h'.get? b=some {o with slots:=sl}
 free:∀ b o,h.get? b=some o->H b=none->b∉ex->H' b=none
 there:∀ b o,h.get? b=some o->b∉ex->∃ o',h'.get? b=some o'
 tups:∀ b xs,H b=some (.tup xs)->H' b=some (.tup xs)
 frzs:∀ b o u,H b=some (.frz o u)->H' b=some (.frz o u)
 tbls:∀ b ps,H b=some (.tbl ps)->∃ more,H' b=some (.tbl (ps++more))
section
variable {fs fs' ex ex':List Addr} {H H1 H2:Hp} {h h1 h2 h':Heap} {a x e:Addr} {o:HO}
theorem Un.any (u:Un fs ex H H1 h h1) {b:Addr} {ob:Obj} (q:h.get? b=some ob) (n:H b=none) (hx:b∉ex):∃ sl,h1.get? b=some {ob with slots:=sl}:=by
 by_cases hb:b∈fs
 ·exact u.slot b ob q n hb hx
 ·exact ⟨ob.slots,u.keep b ob q n hb hx⟩
theorem Un.kept (k:∀ b u,h.get? b=some u->h'.get? b=some u):Un fs ex H H h h' :=
 ⟨fun b ob q _ _ _=>k b ob q,fun b ob q _ _ _=>⟨ob.slots,k b ob q⟩,fun _ _ _ n _=>n,fun b ob q _=>⟨ob,k b ob q⟩,fun _ _ q=>q,fun _ _ _ q=>q,fun _ ps q=>⟨#[],by rw [q];simp⟩⟩
theorem Un.refl:Un fs ex H H h h:=Un.kept fun _ _ q=>q
theorem Un.laid (k:∀ b u,h.get? b=some u->h'.get? b=some u) (hp:h.objs.size<=a) (hn:H a=none):Un fs ex H (upd H a o) h h' where
 keep:=fun b u q _ _ _=>k b u q
 slot:=fun b u q _ _ _=>⟨u.slots,k b u q⟩
 free:=fun b u q n _=>by rw [upd_ne (Nat.ne_of_lt (Nat.lt_of_lt_of_le (Heap.lt_size q) hp))];exact n
 there:=fun b u q _=>⟨u,k b u q⟩
 tups:=fun b xs q=>by rw [upd_ne (ne_of_none q hn)];exact q
 frzs:=fun b u xs q=>by rw [upd_ne (ne_of_none q hn)];exact q
 tbls:=fun b ps q=>⟨#[],by rw [upd_ne (ne_of_none q hn),q];simp⟩
theorem Un.write (mu:Mut (H x)) (he:e=x\/H e=some (.own x)) (k:∀ b u,b≠e->h.get? b=some u->h'.get? b=some u) (heo:∃ u,h'.get? e=some u):Un fs ex H (upd H x o) h h':=by
 have hx:∀ b,H b=none->b≠x:=fun b n z=>by subst z;rw [n] at mu;exact mu
 have hb:∀ b,H b=none->b≠e:=fun b n z=>by
  subst z
  rcases he with r | r
  ·exact hx b n r
  ·rw [n] at r;cases r
 have hm:∀ b u,H b=some u->¬ Mut (some u)->b≠x:=fun b u q nm z=>by subst z;rw [q] at mu;exact nm mu
 refine ⟨fun b u q n _ _=>k b u (hb b n) q,fun b u q n _ _=>⟨u.slots,k b u (hb b n) q⟩,fun b u q n _=>by rw [upd_ne (hx b n)];exact n,fun b u q _=>?_,
  fun b xs q=>by rw [upd_ne (hm b _ q fun z=>z)];exact q,fun b u xs q=>by rw [upd_ne (hm b _ q fun z=>z)];exact q,fun b ps q=>⟨#[],by rw [upd_ne (hm b _ q fun z=>z),q];simp⟩⟩
 by_cases hbe:b=e
 ·subst hbe;exact heo
 ·exact ⟨u,k b u hbe q⟩
end
def trk (h:Heap) (H:Hp):List Addr:=(List.range h.objs.size).filter fun a=>(H a).isSome
def hidT (h:Heap) (H:Hp):Heap:=PySem.W.hideAll h (trk h H)
theorem hidT_size (h:Heap) (H:Hp):(hidT h H).objs.size=h.objs.size:=PySem.W.hideAll_size _ _
theorem hidT_get {h:Heap} {H:Hp} {b:Addr} {o:Obj} (e:h.get? b=some o) (n:H b=none):(hidT h H).get? b=some o :=
 PySem.W.hideAll_get _ e fun hm=>by
  have q:(H b).isSome=true:=(List.mem_filter.mp hm).2;rw [n] at q;simp at q
theorem of_hidT {h:Heap} {H:Hp} {b:Addr} {o:Obj} (e:(hidT h H).get? b=some o):h.get? b=some o/\H b=none:=by
 have e':h.get? b=some o:=PySem.W.of_hideAll (trk h H) e;refine ⟨e',?_⟩;cases q:H b with
 | none=>rfl
 | some x =>
  have hm:b∈trk h H:=List.mem_filter.mpr ⟨List.mem_range.mpr (Heap.lt_size e'),by simp [q]⟩;have z:(hidT h H).get? b=none:=PySem.W.hideAll_none (trk h H) hm;rw [z] at e;cases e
end L2
namespace L2
open PySem PySem.Spec PyProof.Rows
structure Mod (K:PySem.W.Frag) (mg:Str->Option Value) (base:Heap):Prop where
 kin:K.In base
 glob:base.Ns mainGlobals mg
 blt:∃ mb,base.Ns builtinsNs mb/\∀ x:Str,x ≠ "__name__" -> mb x=bootBuiltins x
 nolimit:base.NoLimit
structure Cx where
 prog:Program
 w:World
 K:PySem.W.Frag
 mg:Str->Option Value
 base:Heap
 A:Around
 N:List Str
 s₀:Shared
 H₀:Hp
 env:Env
 outer:List Env
 stack:List Env
 ex:List Addr
 fn:Str->Bool
 calm:Bool
 pn:List (Addr×Obj)
 xe:Value->Shared->Prop
def frs (l:List Env):List Addr:=l.filterMap (·.frame)
abbrev Cx.fs (X:Cx):List Addr:=frs X.outer
def Vis (sc:Scope) (x:Str):Prop:=sc.names.lookup x=some .local\/sc.names.lookup x=some .cell\/sc.names.lookup x=some .free
def Loc (sc:Scope) (x:Str):Prop:=sc.names.lookup x=some .local\/sc.names.lookup x=some .cell
def Look (env:Env) (h:Heap) (m:Str->Option Value) (x:Str) (u:Value):Prop :=
 (env.kindOf x=some .local/\m x=some u)\/((env.kindOf x=some .cell\/env.kindOf x=some .free)/\∃ c,env.cells.lookup x=some c/\h.IsCell c (some u))
structure Cx.Ok (X:Cx):Prop where
 mod:Mod X.K X.mg X.base
 kind:X.env.scope.kind=.function
 glob:X.env.globals=mainGlobals
 blt:X.env.builtins=builtinsNs
 above:X.s₀.heap.objs.size<=X.env.locals
 inj:∀ x y c,X.env.cells.lookup x=some c->X.env.cells.lookup y=some c->x=y
 has:∀ x,(X.env.kindOf x=some .cell\/X.env.kindOf x=some .free)->∃ c,X.env.cells.lookup x=some c
 cab:∀ x c,X.fn x=true->X.env.cells.lookup x=some c->X.s₀.heap.objs.size<=c
 hd:X.calm=true->X.A.handled=none
 frames:X.A.frames=some X.stack
 stk:X.stack=X.outer\/(X.stack=X.env::X.outer/\X.env.frame=some X.env.locals)
 exf:∀ b∈X.ex,b≠X.env.locals/\∀ x c,X.env.cells.lookup x=some c->c≠b
 bs:∀ b o,X.base.get? b=some o->X.s₀.heap.get? b=some o/\X.H₀ b=none
 bsz:X.base.objs.size<=X.s₀.heap.objs.size
 noex:∀ b o,X.base.get? b=some o->b∉X.ex
 exfs:∀ b∈X.ex,b∉X.fs
 funs:X.s₀.heap.FunFrames X.base X.outer
 frf:∀ b∈X.fs,X.H₀ b=none
structure Inv (X:Cx) (pins:List (Addr×Obj)) (σ:List (Option V)) (H:Hp) (s:Shared):Prop where
 ok:X.Ok
 os:s.os=X.s₀.os
 bare:AllBare s.gens
 base:Un X.fs X.ex X.H₀ H X.s₀.heap s.heap
 loc:∃ m,s.heap.Ns X.env.locals m/\∀ (i:Nat) (x:Str) (v:V),X.N[i]?=some x->σ[i]?=some (some v)->Vis X.env.scope x->∃ u,RelV v u/\Look X.env s.heap m x u
 cell:∀ x c,X.env.cells.lookup x=some c->∃ v,s.heap.IsCell c v
 free:H X.env.locals=none
 freeC:∀ x c,X.env.cells.lookup x=some c->H c=none
 pin:∀ p∈X.pn++pins,s.heap.get? p.1=some p.2/\H p.1=none/\p.1≠X.env.locals/\p.1∉X.fs/\∀ v,p.2.data≠.cell v
 hok:HOk X.prog X.w H s.heap
 len:σ.length=X.N.length
section
variable {X:Cx} {pins:List (Addr×Obj)} {σ:List (Option V)} {H H':Hp} {s:Shared} {h':Heap}
theorem Cx.Ok.nofr (ok:X.Ok) {b:Addr} {o:Obj} (e:X.base.get? b=some o):b∉X.fs:=fun hb=>by
 have:=(ok.funs.mem hb).1;rw [e] at this;cases this
theorem Inv.bs (I:Inv X pins σ H s):∀ b o,X.base.get? b=some o->s.heap.get? b=some o/\H b=none:=fun b o e =>
 ⟨I.base.keep b o (I.ok.bs b o e).1 (I.ok.bs b o e).2 (I.ok.nofr e) (I.ok.noex b o e),I.base.free b o (I.ok.bs b o e).1 (I.ok.bs b o e).2 (I.ok.noex b o e)⟩
theorem Inv.bk (I:Inv X pins σ H s):∀ b o,X.base.get? b=some o->s.heap.get? b=some o:=fun b o e=>(I.bs b o e).1
theorem Inv.mod (I:Inv X pins σ H s):Mod X.K X.mg X.base:=I.ok.mod
theorem Inv.kIn (I:Inv X pins σ H s):X.K.In s.heap:=I.ok.mod.kin.keeps I.bk
theorem Inv.fr (I:Inv X pins σ H s):∃ m,Fr X.base X.env.locals s.heap m :=
 let ⟨m,hn,_⟩:=I.loc
 ⟨m,hn,I.bk,Nat.le_trans I.ok.bsz I.ok.above⟩
theorem Inv.lt (I:Inv X pins σ H s):X.env.locals<s.heap.objs.size:=let ⟨_,hn,_⟩:=I.loc;hn.lt
theorem Inv.sz (I:Inv X pins σ H s):X.s₀.heap.objs.size<=s.heap.objs.size:=Nat.le_trans I.ok.above (Nat.le_of_lt I.lt)
theorem Inv.nofs (I:Inv X pins σ H s) {a:Addr} (h:s.heap.objs.size<=a):a∉X.fs:=fun hb=>by
 obtain ⟨_,o,ho,_⟩:=I.ok.funs.mem hb;exact absurd (Nat.lt_of_lt_of_le (Heap.lt_size ho) (Nat.le_trans I.sz h)) (Nat.lt_irrefl _)
theorem Inv.cne (I:Inv X pins σ H s):∀ x c,X.env.cells.lookup x=some c->c≠X.env.locals:=fun x c e z=>by
 obtain ⟨v,o,ho,hd⟩:=I.cell x c e;obtain ⟨m,⟨o',es,ep,ho',hd',_⟩,_⟩:=I.loc;rw [z,ho'] at ho;cases ho;rw [hd'] at hd;cases hd
theorem Inv.funs (I:Inv X pins σ H s):s.heap.FunFrames X.base X.outer:=by
 have all:∀ (l:List Env),(∀ b∈frs l,b∈X.fs)->X.s₀.heap.FunFrames X.base l->s.heap.FunFrames X.base l:=by
  intro l
  induction l with
  | nil=>intro _ _;trivial
  | cons env r ih =>
   intro hs hl;obtain ⟨hk,⟨L,o,hf,hn,ho,hd⟩,hr⟩:=hl;have hL:L∈X.fs:=hs L (by unfold frs;rw [List.filterMap_cons,hf];exact List.mem_cons_self);obtain ⟨sl,e⟩:=I.base.slot L o ho (I.ok.frf L hL) hL fun z=>I.ok.exfs L z hL
   exact ⟨hk,⟨L,_,hf,hn,e,hd⟩,ih (fun b hb=>hs b (by unfold frs;rw [List.filterMap_cons,hf];exact List.mem_cons_of_mem _ hb)) hr⟩
 exact all X.outer (fun _ hb=>hb) I.ok.funs
theorem Inv.stack (I:Inv X pins σ H s):s.heap.FunFrames X.base X.stack:=by
 rcases I.ok.stk with e | ⟨e,hf⟩
 ·rw [e];exact I.funs
 ·rw [e];obtain ⟨m,hn,_⟩:=I.loc;refine .cons (by rw [I.ok.kind];decide) hf hn ?_ I.funs;exact Heap.get?_none_of_le (Nat.le_trans I.ok.bsz I.ok.above)
theorem Inv.stkSub (I:Inv X pins σ H s):∀ b∈frs X.stack,b∈X.env.locals::X.fs:=fun b hb=>by
 rcases I.ok.stk with e | ⟨e,hf⟩
 ·rw [e] at hb;exact List.mem_cons_of_mem _ hb
 ·rw [e] at hb;unfold frs at hb;rw [List.filterMap_cons,hf] at hb;exact hb
theorem Inv.stkFree (I:Inv X pins σ H s):∀ b∈frs X.stack,H b=none:=fun b hb=>by
 rcases List.mem_cons.mp (I.stkSub b hb) with e | hb
 ·rw [e];exact I.free
 ·obtain ⟨_,o,ho,_⟩:=I.ok.funs.mem hb;exact I.base.free b o ho (I.ok.frf b hb) fun z=>I.ok.exfs b z hb
theorem Inv.step {g':Array GenState} {t':Nat} {d':Drawn} {ch:List Addr} (I:Inv X pins σ H s)
  (hch:∀ b∈ch,(b∈X.ex\/X.s₀.heap.objs.size<=b)/\b≠X.env.locals/\(∀ x c,X.env.cells.lookup x=some c->c≠b)/\∀ p∈X.pn++pins,p.1≠b)
  (keep:∀ b o,b≠X.env.locals->b∉X.fs->b∉ch->s.heap.get? b=some o->H b=none->h'.get? b=some o)
  (slot:∀ b o,b≠X.env.locals->b∈X.fs->b∉ch->s.heap.get? b=some o->H b=none->∃ sl,h'.get? b=some {o with slots:=sl}) (free:∀ b o,b∉ch->s.heap.get? b=some o->H b=none->H' b=none)
  (there:∀ b o,b∉ch->s.heap.get? b=some o->∃ o',h'.get? b=some o')
  (tups:∀ b xs,H b=some (.tup xs)->H' b=some (.tup xs)) (frzs:∀ b o u,H b=some (.frz o u)->H' b=some (.frz o u)) (tbls:∀ b ps,H b=some (.tbl ps)->∃ more,H' b=some (.tbl (ps++more)))
  (ns:∀ m,s.heap.Ns X.env.locals m->h'.Ns X.env.locals m) (hok:HOk X.prog X.w H' h') (hg:AllBare g') :
  Inv X pins σ H' {s with heap:=h',gens:=g',drawn:=d',toks:=t'}:=by
 have neL:∀ b o,X.s₀.heap.get? b=some o->b≠X.env.locals:=fun b o e=>Nat.ne_of_lt (Nat.lt_of_lt_of_le (Heap.lt_size e) I.ok.above)
 have neC:∀ b o,X.s₀.heap.get? b=some o->b∉X.ex->b∉ch:=fun b o e hx hb=>by
  rcases (hch b hb).1 with z | z
  ·exact hx z
  ·exact absurd (Nat.lt_of_lt_of_le (Heap.lt_size e) z) (Nat.lt_irrefl _)
 have cellK:∀ x c,X.env.cells.lookup x=some c->∀ v,s.heap.IsCell c v->h'.IsCell c v:=fun x c e v ⟨o,ho,hd⟩=>by
  have nch:c∉ch:=fun z=>(hch c z).2.2.1 x c e rfl
  by_cases hc:c∈X.fs
  ·obtain ⟨sl,q⟩:=slot c o (I.cne x c e) hc nch ho (I.freeC x c e);exact ⟨_,q,hd⟩
  ·exact ⟨o,keep c o (I.cne x c e) hc nch ho (I.freeC x c e),hd⟩
 refine ⟨I.ok,I.os,hg,⟨fun b o e n hb hx=>?_,fun b o e n hb hx=>?_,fun b o e n hx=>?_,fun b o e hx=>?_,fun b xs e=>tups b xs (I.base.tups b xs e),fun b o xs e=>frzs b o xs (I.base.frzs b o xs e),fun b ps e=>?_⟩,?_,fun x c e=>?_,?_,fun x c e=>?_,fun p hp=>?_,hok,I.len⟩
 ·exact keep b o (neL b o e) hb (neC b o e hx) (I.base.keep b o e n hb hx) (I.base.free b o e n hx)
 ·obtain ⟨sl,e1⟩:=I.base.slot b o e n hb hx;obtain ⟨sl',e2⟩:=slot b _ (neL b o e) hb (neC b o e hx) e1 (I.base.free b o e n hx);exact ⟨sl',e2⟩
 ·obtain ⟨o',e1⟩:=I.base.there b o e hx;exact free b o' (neC b o e hx) e1 (I.base.free b o e n hx)
 ·obtain ⟨o',e1⟩:=I.base.there b o e hx;exact there b o' (neC b o e hx) e1
 ·obtain ⟨m1,e1⟩:=I.base.tbls b ps e;obtain ⟨m2,e2⟩:=tbls b _ e1;exact ⟨m1++m2,by rw [e2,Array.append_assoc]⟩
 ·obtain ⟨m,hn,hl⟩:=I.loc;refine ⟨m,ns m hn,fun i x v e1 e2 e3=>?_⟩
  obtain ⟨u,r,l⟩:=hl i x v e1 e2 e3;refine ⟨u,r,?_⟩
  rcases l with l | ⟨k,c,e,z⟩
  ·exact .inl l
  ·exact .inr ⟨k,c,e,cellK x c e _ z⟩
 ·obtain ⟨v,z⟩:=I.cell x c e;exact ⟨v,cellK x c e v z⟩
 ·obtain ⟨m,⟨o,_,_,ho,_⟩,_⟩:=I.loc;exact free _ o (fun z=>(hch _ z).2.1 rfl) ho I.free
 ·obtain ⟨v,o,ho,hd⟩:=I.cell x c e;exact free c o (fun z=>(hch c z).2.2.1 x c e rfl) ho (I.freeC x c e)
 ·obtain ⟨e,n,ne,nf,d⟩:=I.pin p hp;have nch:p.1∉ch:=fun z=>(hch p.1 z).2.2.2 p hp rfl
  exact ⟨keep p.1 p.2 ne nf nch e n,free p.1 p.2 nch e n,ne,nf,d⟩
theorem Inv.un {t':Nat} (I:Inv X pins σ H s) (u:Un X.fs [] H H' s.heap h') (hok:HOk X.prog X.w H' h'):Inv X pins σ H' {s with heap:=h',toks:=t'}:=by
 obtain ⟨m,⟨o,es,ep,ho,r⟩,_⟩:=id I.loc;obtain ⟨sl,hL⟩:=u.any ho I.free (by simp);exact I.step (g':=s.gens) (d':=s.drawn) (ch:=[]) (fun _ z=>nomatch z) (fun b o _ hb _ e n=>u.keep b o e n hb (by simp)) (fun b o _ hb _ e n=>u.slot b o e n hb (by simp)) (fun b o _ e n=>u.free b o e n (by simp)) (fun b o _ e=>u.there b o e (by simp)) u.tups u.frzs u.tbls (fun m' hm=>by
  obtain ⟨o',es',ep',ho',r'⟩:=hm;rw [ho] at ho';cases ho';exact ⟨_,es',ep',hL,r'⟩) hok I.bare
theorem Inv.call {g':Array GenState} {t':Nat} {d':Drawn} {ch:List Addr} (I:Inv X pins σ H s) (u:Un (frs X.stack) ch H H' s.heap h') (hok:HOk X.prog X.w H' h') (hg:AllBare g')
  (hch:∀ b∈ch,(b∈X.ex\/X.s₀.heap.objs.size<=b)/\b≠X.env.locals/\(∀ x c,X.env.cells.lookup x=some c->c≠b)/\∀ p∈X.pn++pins,p.1≠b) :
  Inv X pins σ H' {s with heap:=h',gens:=g',drawn:=d',toks:=t'}:=by
 obtain ⟨m,⟨o,es,ep,ho,r⟩,_⟩:=id I.loc;obtain ⟨sl,hL⟩:=u.any ho I.free fun z=>(hch _ z).2.1 rfl
 exact I.step (ch:=ch) hch (fun b o hL hb hc e n=>u.keep b o e n (fun z=>(List.mem_cons.mp (I.stkSub b z)).elim hL hb) hc) (fun b o _ _ hc e n=>u.any e n hc) (fun b o hc e n=>u.free b o e n hc) (fun b o hc e=>u.there b o e hc) u.tups u.frzs u.tbls (fun m' hm=>by
  obtain ⟨o',es',ep',ho',r'⟩:=hm;rw [ho] at ho';cases ho';exact ⟨_,es',ep',hL,r'⟩) hok hg
theorem Inv.turned {t':Nat} {it:Addr} (I:Inv X pins σ H s) (k:∀ b o,b≠it->s.heap.get? b=some o->h'.get? b=some o) (hn:H it=none) (hL:it≠X.env.locals)
  (h1:it∈X.ex\/X.s₀.heap.objs.size<=it) (h2:∀ x c,X.env.cells.lookup x=some c->c≠it) (h3:∀ p∈X.pn++pins,p.1≠it):Inv X pins σ H {s with heap:=h',toks:=t'}:=by
 have nit:∀ b u,H b=some u->b≠it:=fun b u e z=>by rw [z,hn] at e;cases e
 refine I.step (g':=s.gens) (d':=s.drawn) (ch:=[it]) (fun b hb=>?_) (fun b o _ _ hc e _=>k b o (fun z=>hc (by simp [z])) e) (fun b o _ _ hc e _=>⟨o.slots,k b o (fun z=>hc (by simp [z])) e⟩) (fun _ _ _ _ n=>n)
  (fun b o hc e=>⟨o,k b o (fun z=>hc (by simp [z])) e⟩) (fun _ _ e=>e) (fun _ _ _ e=>e) (fun b ps e=>⟨#[],by rw [e];simp⟩) (fun m hm=>?_) (fun b u e=>?_) I.bare
 ·have e:b=it:=by simpa using hb
  subst e;exact ⟨h1,hL,h2,h3⟩
 ·obtain ⟨o,es,ep,ho,r⟩:=hm;exact ⟨o,es,ep,k _ o (Ne.symm hL) ho,r⟩
 ·refine (I.hok b u e).stay (fun c v hc q=>k c v ?_ q) (fun _ q=>q) fun _ _ q=>q
  rcases hc with z | z
  ·rw [z];exact nit b u e
  ·exact nit c _ z
theorem Inv.tok (I:Inv X pins σ H s) (t:Nat):Inv X pins σ H {s with toks:=t}:=I.un (h':=s.heap) (t':=t) Un.refl I.hok
theorem Inv.kept {t':Nat} (I:Inv X pins σ H s) (k:∀ b u,s.heap.get? b=some u->h'.get? b=some u):Inv X pins σ H {s with heap:=h',toks:=t'}:=I.un (Un.kept k) (I.hok.kept k)
theorem Inv.laid {a:Addr} {o:HO} {t':Nat} (I:Inv X pins σ H s) (k:∀ b u,s.heap.get? b=some u->h'.get? b=some u) (hp:s.heap.objs.size<=a) (new:ObjOk X.prog X.w (upd H a o) h' a o) :
  Inv X pins σ (upd H a o) {s with heap:=h',toks:=t'}:=I.un (Un.laid k hp (I.hok.fresh hp)) (I.hok.laid k hp new)
theorem Inv.write {x e:Addr} {o:HO} {t':Nat} (I:Inv X pins σ H s) (mu:Mut (H x)) (he:e=x\/H e=some (.own x)) (k:∀ b u,b≠e->s.heap.get? b=some u->h'.get? b=some u) (heo:∃ u,h'.get? e=some u)
  (new:ObjOk X.prog X.w (upd H x o) h' x o):Inv X pins σ (upd H x o) {s with heap:=h',toks:=t'}:=I.un (Un.write mu he k heo) (I.hok.write mu he k heo new)
theorem Inv.pins_of {pins':List (Addr×Obj)} (I:Inv X pins σ H s) (h:∀ p∈pins',s.heap.get? p.1=some p.2/\H p.1=none/\p.1≠X.env.locals/\p.1∉X.fs/\∀ v,p.2.data≠.cell v):Inv X pins' σ H s :=
 ⟨I.ok,I.os,I.bare,I.base,I.loc,I.cell,I.free,I.freeC,fun p hp=>(List.mem_append.mp hp).elim (fun z=>I.pin p (List.mem_append_left _ z)) (h p),I.hok,I.len⟩
theorem nodup_ix {N:List Str} (hN:N.Nodup) {i j:Nat} {x:Str} (a:N[i]?=some x) (b:N[j]?=some x):i=j:=by
 obtain ⟨h1,e1⟩:=List.getElem?_eq_some_iff.mp a;obtain ⟨h2,e2⟩:=List.getElem?_eq_some_iff.mp b;exact (List.getElem_inj hN).mp (e1.trans e2.symm)
theorem store_ok2 {M:Model} {A:Around} {E:Value->Shared->Prop} {i:Nat} {x:Str} {v:V} {u:Value} {Q:Unit->Shared->Prop} (I:Inv X pins σ H s) (hN:X.N.Nodup) (hi:X.N[i]?=some x) (hx:Loc X.env.scope x) (r:RelV v u)
  (h:∀ s',Inv X pins (σ.set i (some v)) H s'->(∃ a,Heap.SameBut a s.heap s'.heap/\(a=X.env.locals\/X.env.cells.lookup x=some a))->Q () s') (hf:X.fn x=true\/X.env.scope.names.lookup x=some .local:=by first | exact .inl rfl | exact .inr rfl | assumption):wpAny M A (storeName X.env x u) Q E s:=by
 obtain ⟨m,hn,hl⟩:=id I.loc;have hcls:(X.env.scope.kind==.class||(X.env.scope.kind==.module&&X.env.locals != X.env.globals))=false:=by rw [I.ok.kind];rfl
 have hiσ:i<σ.length:=by rw [I.len];exact (List.getElem?_eq_some_iff.mp hi).1
 have cne:=I.cne;have tracked:∀ {a:Addr} {h':Heap},(∃ o,s.heap.get? a=some o/\H a=none)->Heap.SameBut a s.heap h'->HOk X.prog X.w H h':=fun {a h'} ha hs b ob e=>by
  obtain ⟨_,_,hfree⟩:=ha;refine (I.hok b ob e).stay (fun c w' hc q=>(hs.2 c ?_).trans q) (fun _ q=>q) fun _ _ q=>q
  rintro rfl
  rcases hc with rfl | hc
  ·rw [hfree] at e;cases e
  ·rw [hfree] at hc;cases hc
 rcases hx with hk | hk
 ·refine wpAny_storeName_local hk hn (fun h' hn' hs=>?_) hcls;obtain ⟨oL,_,_,hoL,_⟩:=id hn;refine h _ ⟨I.ok,I.os,I.bare,⟨fun b o e n hb hx=>?_,fun b o e n hb hx=>?_,I.base.free,fun b o e hx=>?_,I.base.tups,I.base.frzs,I.base.tbls⟩,⟨_,hn',fun j y v' e1 e2 e3=>?_⟩,fun y c e=>?_,I.free,I.freeC,fun p hp=>?_,tracked ⟨oL,hoL,I.free⟩ hs,by simpa using I.len⟩ ⟨_,hs,.inl rfl⟩
  ·exact (hs.2 b (Nat.ne_of_lt (Nat.lt_of_lt_of_le (Heap.lt_size e) I.ok.above))).trans (I.base.keep b o e n hb hx)
  ·obtain ⟨sl,e1⟩:=I.base.slot b o e n hb hx;exact ⟨sl,(hs.2 b (Nat.ne_of_lt (Nat.lt_of_lt_of_le (Heap.lt_size e) I.ok.above))).trans e1⟩
  ·obtain ⟨o',e1⟩:=I.base.there b o e hx;exact ⟨o',(hs.2 b (Nat.ne_of_lt (Nat.lt_of_lt_of_le (Heap.lt_size e) I.ok.above))).trans e1⟩
  ·by_cases hj:j=i
   ·subst hj;rw [hi] at e1;cases e1;rw [List.getElem?_set_self hiσ] at e2;cases e2;exact ⟨u,r,.inl ⟨hk,by simp⟩⟩
   ·rw [List.getElem?_set_ne (Ne.symm hj)] at e2;obtain ⟨u',r',q⟩:=hl j y v' e1 e2 e3;refine ⟨u',r',?_⟩
    rcases q with ⟨k,e⟩ | ⟨k,c,e,z⟩
    ·refine .inl ⟨k,?_⟩;have:y≠x:=fun e=>hj (nodup_ix hN e1 (e ▸ hi))
     simp [this,e]
    ·exact .inr ⟨k,c,e,z.sameBut hs (cne y c e)⟩
  ·obtain ⟨w',z⟩:=I.cell y c e;exact ⟨w',z.sameBut hs (cne y c e)⟩
  ·obtain ⟨e,n,ne,nf,d⟩:=I.pin p hp;exact ⟨(hs.2 p.1 ne).trans e,n,ne,nf,d⟩
 ·have hfn:X.fn x=true:=by
   rcases hf with z | z
   ·exact z
   ·rw [z] at hk;cases hk
  obtain ⟨c,hc⟩:=I.ok.has x (.inl hk);obtain ⟨w',z⟩:=I.cell x c hc;refine wpAny_storeName_cell I.ok.kind hk hc z (fun h' hc' hs=>?_);obtain ⟨oc,hoc,hocd⟩:=id z;refine h {s with heap:=h'} ⟨I.ok,I.os,I.bare,⟨fun b o e n hb hx=>?_,fun b o e n hb hx=>?_,I.base.free,fun b o e hx=>?_,I.base.tups,I.base.frzs,I.base.tbls⟩,⟨m,hn.sameBut hs (Ne.symm (cne x c hc)),fun j y v' e1 e2 e3=>?_⟩,fun y c' e=>?_,I.free,I.freeC,fun p hp=>?_,tracked ⟨oc,hoc,I.freeC x c hc⟩ hs,by simpa using I.len⟩ ⟨c,hs,.inr hc⟩
  ·exact (hs.2 b (Nat.ne_of_lt (Nat.lt_of_lt_of_le (Heap.lt_size e) (I.ok.cab x c hfn hc)))).trans (I.base.keep b o e n hb hx)
  ·obtain ⟨sl,e1⟩:=I.base.slot b o e n hb hx;exact ⟨sl,(hs.2 b (Nat.ne_of_lt (Nat.lt_of_lt_of_le (Heap.lt_size e) (I.ok.cab x c hfn hc)))).trans e1⟩
  ·obtain ⟨o',e1⟩:=I.base.there b o e hx;exact ⟨o',(hs.2 b (Nat.ne_of_lt (Nat.lt_of_lt_of_le (Heap.lt_size e) (I.ok.cab x c hfn hc)))).trans e1⟩
  ·by_cases hj:j=i
   ·subst hj;rw [hi] at e1;cases e1;rw [List.getElem?_set_self hiσ] at e2;cases e2;exact ⟨u,r,.inr ⟨.inl hk,c,hc,hc'⟩⟩
   ·rw [List.getElem?_set_ne (Ne.symm hj)] at e2;obtain ⟨u',r',q⟩:=hl j y v' e1 e2 e3;refine ⟨u',r',?_⟩
    rcases q with q | ⟨k,c',e,z'⟩
    ·exact .inl q
    ·refine .inr ⟨k,c',e,z'.sameBut hs ?_⟩;rintro rfl;exact hj (nodup_ix hN e1 (I.ok.inj _ _ _ e hc ▸ hi))
  ·by_cases hcc:c'=c
   ·subst hcc;exact ⟨_,hc'⟩
   ·obtain ⟨w2,z2⟩:=I.cell y c' e;exact ⟨w2,z2.sameBut hs hcc⟩
  ·obtain ⟨e,n,ne,nf,d⟩:=I.pin p hp;refine ⟨(hs.2 p.1 ?_).trans e,n,ne,nf,d⟩;intro q;rw [q,hoc] at e;have q':oc=p.2:=Option.some.inj e;exact d w' (by rw [<- q'];exact hocd)
theorem store_ok {M:Model} {A:Around} {E:Value->Shared->Prop} {i:Nat} {x:Str} {v:V} {u:Value} {Q:Unit->Shared->Prop} (I:Inv X pins σ H s) (hN:X.N.Nodup) (hi:X.N[i]?=some x) (hx:Loc X.env.scope x) (r:RelV v u)
  (h:∀ s',Inv X pins (σ.set i (some v)) H s'->Q () s') (hf:X.fn x=true\/X.env.scope.names.lookup x=some .local:=by first | exact .inl rfl | exact .inr rfl | assumption):wpAny M A (storeName X.env x u) Q E s :=
 store_ok2 I hN hi hx r (fun s' I' _=>h s' I') hf
end
abbrev XK:=Value->Option Addr->Hp->Prop
abbrev St:=List (Option V)
abbrev VK:=V->Hp->Prop
abbrev TE:=St->Hp->VK->Prop
abbrev TT:=St->Hp->(Bool->Hp->Prop)->Prop
abbrev TA:=St->Hp->(List V->Hp->Prop)->Prop
structure Ends where
 nx:St->Hp->Prop
 rt:VK
 bk:St->Hp->Prop:=fun _ _=>False
 ct:St->Hp->Prop:=fun _ _=>False
abbrev TS:=Ends->St->Hp->Prop
def EP (X:Cx) (pins:List (Addr×Obj)) (σ:St) (Q:VK) (u:Value) (s':Shared):Prop:=∃ v H',Inv X pins σ H' s'/\RelV v u/\Q v H'
def TP (X:Cx) (pins:List (Addr×Obj)) (σ:St) (Q:Bool->Hp->Prop) (b:Bool) (s':Shared):Prop:=∃ H',Inv X pins σ H' s'/\Q b H'
def AP (X:Cx) (pins:List (Addr×Obj)) (σ:St) (Q:List V->Hp->Prop) (us:List Value) (s':Shared):Prop:=∃ vs H',Inv X pins σ H' s'/\Vals vs us/\Q vs H'
def SP (X:Cx) (pins:List (Addr×Obj)) (D:Ends) (f:Flow) (s':Shared):Prop :=
 match f with
 | .next=>∃ σ' H',Inv X pins σ' H' s'/\D.nx σ' H'
 | .brk=>∃ σ' H',Inv X pins σ' H' s'/\D.bk σ' H'
 | .cont=>∃ σ' H',Inv X pins σ' H' s'/\D.ct σ' H'
 | .ret u=>∃ v σ' H',Inv X pins σ' H' s'/\RelV v u/\D.rt v H'
def PE (X:Cx) (e:Expr) (t:TE):Prop :=
 ∀ (pins:List (Addr×Obj)) (s:Shared) (σ:St) (H:Hp) (Q:VK),Inv X pins σ H s->t σ H Q->wpAny (model X.prog X.w) X.A (eval e X.env) (EP X pins σ Q) X.xe s
def PT (X:Cx) (e:Expr) (t:TT):Prop :=
 ∀ (pins:List (Addr×Obj)) (s:Shared) (σ:St) (H:Hp) (Q:Bool->Hp->Prop),Inv X pins σ H s->t σ H Q->wpAny (model X.prog X.w) X.A (isTrue e X.env (eval e X.env)) (TP X pins σ Q) X.xe s
def PW (X:Cx) (e:Expr) (t:TT):Prop :=
 ∀ (whole:Sem Value) (pins:List (Addr×Obj)) (s:Shared) (σ:St) (H:Hp) (Q:Bool->Hp->Prop),Inv X pins σ H s->t σ H Q->wpAny (model X.prog X.w) X.A (isTrue e X.env whole) (TP X pins σ Q) X.xe s
theorem PW.pt {X:Cx} {e:Expr} {t:TT} (h:PW X e t):PT X e t:=h _
def PA (X:Cx) (es:List Expr) (t:TA):Prop :=
 ∀ (pos:Pos) (pins:List (Addr×Obj)) (s:Shared) (σ:St) (H:Hp) (Q:List V->Hp->Prop),Inv X pins σ H s->t σ H Q->wpAny (model X.prog X.w) X.A (spliced (backTo pos (starEach es X.env))) (AP X pins σ Q) X.xe s
def PS (X:Cx) (st:Stmt) (t:TS):Prop :=
 ∀ (pins:List (Addr×Obj)) (s:Shared) (σ:St) (H:Hp) (D:Ends),Inv X pins σ H s->t D σ H->wpAny (model X.prog X.w) X.A (exec st X.env) (SP X pins D) X.xe s
def PSs (X:Cx) (st:List Stmt) (t:TS):Prop :=
 ∀ (pins:List (Addr×Obj)) (s:Shared) (σ:St) (H:Hp) (D:Ends),Inv X pins σ H s->t D σ H->wpAny (model X.prog X.w) X.A (execs st X.env) (SP X pins D) X.xe s
theorem thn {α:Type} {t:Sem α} {Q Q':α->Shared->Prop} {M:Model} {A:Around} {E:Value->Shared->Prop} {s:Shared} (h:wpAny M A t Q E s) (hQ:∀ a s,Q a s->Q' a s):wpAny M A t Q' E s:=wpAny_mono h hQ fun _ _ x=>x
end L2
namespace L2
open PySem PySem.Spec PyProof.Rows
section
variable {X:Cx}
def tVar (i:Nat):TE:=fun σ H Q=>∃ v,σ[i]?=some (some v)/\Q v H
def tC (v:V):TE:=fun _ H Q=>Q v H
theorem pe_var {i:Nat} {x:Str} {pos:Pos} (hN:X.N[i]?=some x) (hv:Vis X.env.scope x) (hd:(x==("__debug__" : Str))=false:=by decide) (hcd:(x==("__classdict__" : Str))=false:=by decide):PE X (.Name x pos) (tVar i):=by
 intro pins s σ H Q I h;obtain ⟨v,e,h⟩:=h;obtain ⟨m,hn,hl⟩:=I.loc;obtain ⟨u,r,l⟩:=hl i x v hN e hv;have fin:EP X pins σ Q u s:=⟨v,H,I,r,h⟩
 rcases l with ⟨hk,hm⟩ | ⟨hk,c,hc,hcell⟩
 ·exact wpAny_Name (wpAny_loadName_local I.ok.kind hk hn hm fin) hd
 ·rcases hk with hk | hk
  ·exact wpAny_Name (wpAny_loadName_cell I.ok.kind hk hc hcell fin) hd
  ·exact wpAny_Name (wpAny_loadName_free I.ok.kind hk hc hcell fin hcd) hd
theorem pe_int {i j pos}:PE X (.Constant (.int i) j pos) (tC (.int i)):=fun _ _ _ H _ I h=>wpAny_Constant_int ⟨.int i,H,I.tok _,⟨_,rfl⟩,h⟩
theorem pe_bl {b j pos}:PE X (.Constant (.bool b) j pos) (tC (.bl b)):=fun _ _ _ H _ I h=>Constant_bool ⟨.bl b,H,I,rfl,h⟩
theorem pe_non {j pos}:PE X (.Constant .none j pos) (tC .non):=fun _ _ _ H _ I h=>Constant_none ⟨.non,H,I,rfl,h⟩
theorem pe_str {x j pos}:PE X (.Constant (.str x) j pos) (tC (.str x)):=fun _ _ _ H _ I h=>Calls.Constant_str ⟨.str x,H,I.tok _,⟨_,rfl⟩,h⟩
def Gl (X:Cx) (x:Str):Prop:=X.env.kindOf x=some .globalImplicit
theorem ld_glob {E:Value->Shared->Prop} {pins:List (Addr×Obj)} {s:Shared} {σ:St} {H:Hp} {x:Str} {u:Value} {pos:Pos} {Q:Value->Shared->Prop} (I:Inv X pins σ H s) (hg:Gl X x) (hm:X.mg x=some u) (h:Q u s)
  (hd:(x==("__debug__" : Str))=false:=by decide):wpAny (model X.prog X.w) X.A (eval (.Name x pos) X.env) Q E s :=
 Calls.Name_function_global I.ok.kind hg (Calls.loadGlobal_global (by rw [I.ok.glob];exact I.mod.glob.keeps I.bk) hm h) hd
theorem ld_blt {E:Value->Shared->Prop} {pins:List (Addr×Obj)} {s:Shared} {σ:St} {H:Hp} {x:Str} {u:Value} {pos:Pos} {Q:Value->Shared->Prop} (I:Inv X pins σ H s) (hg:Gl X x) (hm:X.mg x=none) (hv:bootBuiltins x=some u) (h:Q u s)
  (hn:x ≠ "__name__" := by decide) (hd:(x==("__debug__" : Str))=false:=by decide):wpAny (model X.prog X.w) X.A (eval (.Name x pos) X.env) Q E s:=by
 obtain ⟨mb,h1,h2⟩:=I.mod.blt;exact Calls.Name_function_global I.ok.kind hg (Calls.loadGlobal_builtin (by rw [I.ok.glob];exact I.mod.glob.keeps I.bk) hm (by rw [I.ok.blt];exact h1.keeps I.bk) ((h2 x hn).trans hv) h) hd
theorem pe_glob {x:Str} {v:V} {u:Value} {pos:Pos} (hg:Gl X x) (hm:X.mg x=some u) (r:RelV v u) (hd:(x==("__debug__" : Str))=false:=by decide):PE X (.Name x pos) (tC v) :=
 fun _ _ _ H _ I h=>ld_glob I hg hm ⟨v,H,I,r,h⟩ hd
theorem pe_bltn {x:Str} {v:V} {u:Value} {pos:Pos} (hg:Gl X x) (hm:X.mg x=none) (hv:bootBuiltins x=some u) (r:RelV v u) (hn:x ≠ "__name__" := by decide) (hd:(x==("__debug__" : Str))=false:=by decide):PE X (.Name x pos) (tC v) :=
 fun _ _ _ H _ I h=>ld_blt I hg hm hv ⟨v,H,I,r,h⟩ hn hd
variable {a b:Expr} {ta tb:TE} {pos:Pos}
variable {tA tB':TT} {rest:List Expr}
def tAnd (t u:TT):TT:=fun σ H Q=>t σ H fun c H1=>if c=true then u σ H1 Q else Q false H1
def tOr (t u:TT):TT:=fun σ H Q=>t σ H fun c H1=>if c=true then Q true H1 else u σ H1 Q
def tNot (t:TT):TT:=fun σ H Q=>t σ H fun c H1=>Q (!c) H1
theorem pw_and1 (ha:PT X a tA):PW X (.BoolOp .And [a] pos) tA:=by
 intro wh pins s σ H Q I h;refine isTrue_and (thn (ha pins s σ H Q I h) fun c s1 e=>?_)
 cases c with
 | true=>exact isTrue_and_nil e
 | false=>exact e
theorem pw_or1 (ha:PT X a tA):PW X (.BoolOp .Or [a] pos) tA:=by
 intro wh pins s σ H Q I h;refine isTrue_or (thn (ha pins s σ H Q I h) fun c s1 e=>?_)
 cases c with
 | false=>exact isTrue_or_nil e
 | true=>exact e
theorem pw_and (ha:PT X a tA) (hb:PW X (.BoolOp .And (b::rest) pos) tB'):PW X (.BoolOp .And (a::b::rest) pos) (tAnd tA tB'):=by
 intro wh pins s σ H Q I h;refine isTrue_and (thn (ha pins s σ H _ I h) fun c s1 ⟨H1,I1,q1⟩=>?_)
 cases c with
 | true=>exact hb wh pins s1 σ H1 Q I1 q1
 | false=>exact ⟨H1,I1,q1⟩
theorem pw_or (ha:PT X a tA) (hb:PW X (.BoolOp .Or (b::rest) pos) tB'):PW X (.BoolOp .Or (a::b::rest) pos) (tOr tA tB'):=by
 intro wh pins s σ H Q I h;refine isTrue_or (thn (ha pins s σ H _ I h) fun c s1 ⟨H1,I1,q1⟩=>?_)
 cases c with
 | true=>exact ⟨H1,I1,q1⟩
 | false=>exact hb wh pins s1 σ H1 Q I1 q1
theorem pt_not (ha:PT X a tA):PT X (.UnaryOp .Not a pos) (tNot tA):=by
 intro pins s σ H Q I h;exact isTrue_not (ha pins s σ H (fun c H1=>Q (!c) H1) I h)
def tAndV (ta tb:TE):TE:=fun σ H Q=>ta σ H fun x H1=>∃ c,x=.bl c/\if c=true then tb σ H1 Q else Q (.bl false) H1
theorem pe_one {op} {t:TE} (h:PE X a t):PE X (.BoolOp op [a] pos) t:=fun pins s σ H Q I hw=>BoolOp_one (h pins s σ H Q I hw)
theorem pe_and (ha:PE X a ta) (hb:PE X (.BoolOp .And (b::rest) pos) tb):PE X (.BoolOp .And (a::b::rest) pos) (tAndV ta tb):=by
 intro pins s σ H Q I h;refine BoolOp_and (thn (ha pins s σ H _ I h) fun v s1 ⟨x,H1,I1,r1,q1⟩=>?_)
 obtain ⟨c,rfl,q1⟩:=q1;cases r1;refine wpAny_truthy_bool ?_;cases c with
 | true=>exact hb pins s1 σ H1 Q I1 q1
 | false=>exact ⟨.bl false,H1,I1,rfl,q1⟩
def tIf (t:TT) (ta tb:TE):TE:=fun σ H Q=>t σ H fun c H1=>if c=true then ta σ H1 Q else tb σ H1 Q
theorem pe_ifExp {c:Expr} (hc:PT X c tA) (ha:PE X a ta) (hb:PE X b tb):PE X (.IfExp c a b pos) (tIf tA ta tb):=by
 intro pins s σ H Q I h;refine wpAny_IfExp (thn (hc pins s σ H _ I h) fun d s1 ⟨H1,I1,q1⟩=>?_)
 cases d with
 | true=>exact ha pins s1 σ H1 Q I1 q1
 | false=>exact hb pins s1 σ H1 Q I1 q1
end
end L2
namespace L2
open PySem PySem.Spec PyProof.Rows
def SqL (K:PySem.W.Frag) (H:Hp) (a:Addr) (xs:List V):Prop :=
 Rd H a (.lst xs) \/
  ∃ (o:Obj) (its:Array Value) (n:Nat),K.lookup a=some o/\o.cls=.type "list" /\ o.dict=none/\o.data=.seq its n/\its.size<=sizeLine/\Vals xs its.toList
def SqT (K:PySem.W.Frag) (H:Hp) (a:Addr) (xs:List V):Prop :=
 Rd H a (.tup xs) \/
  ∃ (o:Obj) (its:Array Value) (n:Nat),K.lookup a=some o/\o.cls=.type "tuple" /\ o.dict=none/\o.data=.seq its n/\its.size<=sizeLine/\Vals xs its.toList
def absV:Value->Option V
 | .none=>some .non
 | .bool b=>some (.bl b)
 | .int i _=>some (.int i)
 | .str x _=>some (.str x)
 | .bytes b _=>some (.byt b)
 | .float b _=>some (.flt b)
 | .ref a=>some (.ref a)
 | .type n=>some (.ty n)
 | _=>none
theorem RelV.abs {x:V} {u:Value} (r:RelV x u):absV u=some x:=by
 cases x with
 | non=>cases r;rfl
 | bl _=>cases r;rfl
 | int _=>obtain ⟨t,rfl⟩:=r;rfl
 | str _=>obtain ⟨t,rfl⟩:=r;rfl
 | byt _=>obtain ⟨t,rfl⟩:=r;rfl
 | flt _=>obtain ⟨t,rfl⟩:=r;rfl
 | ref _=>cases r;rfl
 | ty _=>cases r;rfl
theorem RelV.inj {x y:V} {u:Value} (r:RelV x u) (q:RelV y u):x=y:=Option.some.inj (r.abs.symm.trans q.abs)
theorem Vals.inj:∀ {xs ys:List V} {us:List Value},Vals xs us->Vals ys us->xs=ys
 | _,_,_,.nil,.nil=>rfl
 | _,_,_,.cons r t,.cons r' t'=>by rw [r.inj r',Vals.inj t t']
section
variable {X:Cx} {pins:List (Addr×Obj)} {σ:St} {H:Hp} {s:Shared} {a:Addr} {xs ys:List V}
theorem SqL.of {K:PySem.W.Frag} (h:H a=some (.lst xs)):SqL K H a xs:=.inl (.inl h)
theorem Inv.list (I:Inv X pins σ H s) (h:SqL X.K H a xs):∃ its:List Value,Vals xs its/\PlainL s.heap a its.toArray/\xs.length<=sizeLine:=by
 rcases h with h | ⟨o,its,n,hk,hc,hd,hs,hz,r⟩
 ·obtain ⟨z,its,n,r,e⟩:=h.ok I.hok;exact ⟨its,r,⟨_,n,e,rfl,rfl,rfl⟩,z⟩
 ·refine ⟨its.toList,r,⟨o,n,I.kIn a o hk,hc,hd,by simpa using hs⟩,?_⟩;have e:=r.length;simp only [Array.length_toList] at e
  lia
theorem Inv.tuple (I:Inv X pins σ H s) (h:SqT X.K H a xs):∃ its:List Value,Vals xs its/\IsTup s.heap a its.toArray/\xs.length<=sizeLine:=by
 rcases h with h | ⟨o,its,n,hk,hc,hdn,hs,hz,r⟩
 ·obtain ⟨z,its,r,p⟩:=h.ok I.hok;exact ⟨its,r,p.tup,z⟩
 ·refine ⟨its.toList,r,⟨o,I.kIn a o hk,hc,n,by simpa using hs⟩,?_⟩;have e:=r.length;simp only [Array.length_toList] at e
  lia
theorem Inv.tupleD (I:Inv X pins σ H s) (h:SqT X.K H a xs):∃ its:List Value,Vals xs its/\IsTupD s.heap a its.toArray/\xs.length<=sizeLine:=by
 rcases h with h | ⟨o,its,n,hk,hc,hdn,hs,hz,r⟩
 ·obtain ⟨z,its,r,p⟩:=h.ok I.hok;exact ⟨its,r,p,z⟩
 ·refine ⟨its.toList,r,⟨o,I.kIn a o hk,hc,hdn,n,by simpa using hs⟩,?_⟩;have e:=r.length;simp only [Array.length_toList] at e
  lia
theorem Inv.list_inj (I:Inv X pins σ H s) (h:SqL X.K H a xs) (h':SqL X.K H a ys):xs=ys:=by
 obtain ⟨its,r,⟨o,n,e,_,_,d⟩,_⟩:=I.list h;obtain ⟨its',r',⟨o',n',e',_,_,d'⟩,_⟩:=I.list h';rw [e] at e';cases e';rw [d] at d';injection d' with d1 _
 have:its=its':=by simpa using congrArg Array.toList d1
 subst this;exact r.inj r'
theorem Inv.tuple_inj (I:Inv X pins σ H s) (h:SqT X.K H a xs) (h':SqT X.K H a ys):xs=ys:=by
 obtain ⟨its,r,⟨o,e,_,n,d⟩,_⟩:=I.tuple h;obtain ⟨its',r',⟨o',e',_,n',d'⟩,_⟩:=I.tuple h';rw [e] at e';cases e';rw [d] at d';injection d' with d1 _
 have:its=its':=by simpa using congrArg Array.toList d1
 subst this;exact r.inj r'
end
abbrev Cx.wish (X:Cx) (E:Value->Shared->Prop):Cx:={X with xe:=E}
abbrev Cx.nox (X:Cx):Cx:=X.wish fun _ _=>False
theorem Cx.Ok.wish {X:Cx} (ok:X.Ok) (E:Value->Shared->Prop):(X.wish E).Ok :=
 ⟨ok.mod,ok.kind,ok.glob,ok.blt,ok.above,ok.inj,ok.has,ok.cab,ok.hd,ok.frames,ok.stk,ok.exf,ok.bs,ok.bsz,ok.noex,ok.exfs,ok.funs,ok.frf⟩
theorem Cx.Ok.unwish {X:Cx} {E:Value->Shared->Prop} (ok:(X.wish E).Ok):X.Ok :=
 ⟨ok.mod,ok.kind,ok.glob,ok.blt,ok.above,ok.inj,ok.has,ok.cab,ok.hd,ok.frames,ok.stk,ok.exf,ok.bs,ok.bsz,ok.noex,ok.exfs,ok.funs,ok.frf⟩
section
variable {X:Cx} {pins:List (Addr×Obj)} {σ:St} {H:Hp} {s:Shared} {E:Value->Shared->Prop}
theorem Inv.wish (I:Inv X pins σ H s) (E:Value->Shared->Prop):Inv (X.wish E) pins σ H s:=⟨I.ok.wish E,I.os,I.bare,I.base,I.loc,I.cell,I.free,I.freeC,I.pin,I.hok,I.len⟩
theorem Inv.unwish (I:Inv (X.wish E) pins σ H s):Inv X pins σ H s:=⟨I.ok.unwish,I.os,I.bare,I.base,I.loc,I.cell,I.free,I.freeC,I.pin,I.hok,I.len⟩
theorem SP.unwish {D:Ends} {f:Flow} {s':Shared} (h:SP (X.wish E) pins D f s'):SP X pins D f s':=by
 cases f with
 | next=>obtain ⟨σ',H',I,q⟩:=h;exact ⟨σ',H',I.unwish,q⟩
 | brk=>obtain ⟨σ',H',I,q⟩:=h;exact ⟨σ',H',I.unwish,q⟩
 | cont=>obtain ⟨σ',H',I,q⟩:=h;exact ⟨σ',H',I.unwish,q⟩
 | ret u=>obtain ⟨v,σ',H',I,r,q⟩:=h;exact ⟨v,σ',H',I.unwish,r,q⟩
theorem PE.nox {e:Expr} {t:TE} (h:PE X.nox e t):PE X e t:=fun pins s σ H Q I hw =>
 wpAny_mono (h pins s σ H Q (I.wish _) hw) (fun _ _ ⟨v,H',I',r,q⟩=>⟨v,H',I'.unwish,r,q⟩) fun _ _ z=>False.elim z
theorem PT.nox {e:Expr} {t:TT} (h:PT X.nox e t):PT X e t:=fun pins s σ H Q I hw =>
 wpAny_mono (h pins s σ H Q (I.wish _) hw) (fun _ _ ⟨H',I',q⟩=>⟨H',I'.unwish,q⟩) fun _ _ z=>False.elim z
theorem PSs.nox {st:List Stmt} {t:TS} (h:PSs X.nox st t):PSs X st t:=fun pins s σ H D I hw =>
 wpAny_mono (h pins s σ H D (I.wish _) hw) (fun _ _ q=>q.unwish) fun _ _ z=>False.elim z
end
section
variable {X:Cx} {st:Stmt} {rest:List Stmt} {t u:TS} {e:Expr} {te:TE} {pos:Pos}
def tNext:TS:=fun D σ H=>D.nx σ H
def tSeq (t u:TS):TS:=fun D σ H=>t {D with nx:=u D} σ H
theorem pss_nil:PSs X [] tNext:=fun _ _ σ H _ I h=>wpAny_execs_nil ⟨σ,H,I,h⟩
theorem pss_cons (h1:PS X st t) (h2:PSs X rest u):PSs X (st::rest) (tSeq t u):=by
 intro pins s σ H D I h;refine wpAny_execs_cons (thn (h1 pins s σ H {D with nx:=u D} I h) fun f s1 q=>?_)
 cases f with
 | next =>
  obtain ⟨σ',H',I',q⟩:=q;exact h2 pins s1 σ' H' D I' q
 | ret v=>exact q
 | brk=>exact q
 | cont=>exact q
theorem pss_one (h1:PS X st t):PSs X [st] t:=by
 intro pins s σ H D I h;refine wpAny_execs_cons (thn (h1 pins s σ H D I h) fun f s1 q=>?_)
 cases f with
 | next=>exact wpAny_execs_nil q
 | ret v=>exact q
 | brk=>exact q
 | cont=>exact q
theorem Inv.quiet {pins:List (Addr×Obj)} {σ:St} {H:Hp} {s:Shared} (I:Inv X pins σ H s):interactive X.env=false:=by simp [interactive,I.ok.kind]
def tDrop (te:TE):TS:=fun D σ H=>te σ H fun _ H1=>D.nx σ H1
theorem ps_expr (he:PE X e te) (hs:swapsWith e none pos.line X.env=pure false:=by rfl):PS X (.Expr e pos) (tDrop te):=by
 intro pins s σ H D I h;exact wpAny_Expr_any (thn (he pins s σ H _ I h) fun v s1 ⟨x,H1,I1,r1,q1⟩=>⟨σ,H1,I1,q1⟩) I.quiet hs
def tRet (te:TE):TS:=fun D σ H=>te σ H D.rt
theorem ps_ret (he:PE X e te):PS X (.Return (some e) pos) (tRet te):=by
 intro pins s σ H D I h;exact wpAny_Return_some (thn (he pins s σ H _ I h) fun v s1 ⟨x,H1,I1,r1,q1⟩=>⟨x,σ,H1,I1,r1,q1⟩)
def tIfS (c:TT) (t u:TS):TS:=fun D σ H=>c σ H fun b H1=>if b=true then t D σ H1 else u D σ H1
theorem ps_if {c:Expr} {a b:List Stmt} {tc:TT} (hc:PT X c tc) (ha:PSs X a t) (hb:PSs X b u):PS X (.If c a b pos) (tIfS tc t u):=by
 intro pins s σ H D I h;refine wpAny_If (thn (hc pins s σ H _ I h) fun d s1 ⟨H1,I1,q1⟩=>?_)
 cases d with
 | true=>exact ha pins s1 σ H1 D I1 q1
 | false=>exact hb pins s1 σ H1 D I1 q1
def tNever:TS:=fun _ _ _=>False
theorem ps_never:PS X st tNever:=fun _ _ _ _ _ _ h=>h.elim
end
abbrev TG:=V->St->Hp->(St->Hp->Prop)->Prop
abbrev TGs:=List V->St->Hp->(St->Hp->Prop)->Prop
def PG (X:Cx) (target:Expr) (t:TG):Prop :=
 ∀ (pins:List (Addr×Obj)) (s:Shared) (σ:St) (H:Hp) (v:V) (u:Value) (Q:St->Hp->Prop),Inv X pins σ H s->RelV v u->t v σ H Q ->
  wpAny (model X.prog X.w) X.A (assign target X.env u) (fun _ s'=>∃ σ' H',Inv X pins σ' H' s'/\Q σ' H') X.xe s
def PGs (X:Cx) (ts:List Expr) (t:TGs):Prop :=
 ∀ (pins:List (Addr×Obj)) (s:Shared) (σ:St) (H:Hp) (vs:List V) (us:List Value) (Q:St->Hp->Prop),Inv X pins σ H s->Vals vs us->t vs σ H Q ->
  wpAny (model X.prog X.w) X.A (assignInOrder ((assignEach ts X.env).map (·.2)) us) (fun _ s'=>∃ σ' H',Inv X pins σ' H' s'/\Q σ' H') X.xe s
abbrev TSet:=V->V->V->Hp->(Hp->Prop)->Prop
def PSet (X:Cx) (t:TSet):Prop :=
 ∀ (pins:List (Addr×Obj)) (s:Shared) (σ:St) (H:Hp) (o i v:V) (ov iv u:Value) (Q:Hp->Prop),Inv X pins σ H s->RelV o ov->RelV i iv->RelV v u->t o i v H Q ->
  wpAny (model X.prog X.w) X.A (setItem ov iv u) (fun _ s'=>∃ H',Inv X pins σ H' s'/\Q H') X.xe s
section
variable {X:Cx} {pos:Pos}
def gName (i:Nat):TG:=fun v σ H Q=>Q (σ.set i (some v)) H
theorem pg_name {i:Nat} {x:Str} (hN:X.N.Nodup) (hi:X.N[i]?=some x) (hx:Loc X.env.scope x) (hf:X.fn x=true\/X.env.scope.names.lookup x=some .local:=by first | exact .inl rfl | exact .inr rfl | assumption):PG X (.Name x pos) (gName i):=by
 intro pins s σ H v u Q I r h;exact wpAny_assign_Name (store_ok I hN hi hx r (fun s' I'=>⟨_,H,I',h⟩) hf)
def gNil:TGs:=fun vs σ H Q=>vs=[]/\Q σ H
def gCons (t:TG) (u:TGs):TGs:=fun vs σ H Q=>∃ v r,vs=v::r/\t v σ H fun σ' H'=>u r σ' H' Q
theorem pgs_nil:PGs X [] gNil:=by
 intro pins s σ H vs us Q I r h;obtain ⟨e,h⟩:=h;subst e;cases r;exact assignInOrder_nil ⟨σ,H,I,h⟩
theorem pgs_cons {e:Expr} {es:List Expr} {t:TG} {u:TGs} (h1:PG X e t) (h2:PGs X es u)
  (hs:(assignEach (e::es) X.env).map (·.2)=assign e X.env::(assignEach es X.env).map (·.2):=by rfl):PGs X (e::es) (gCons t u):=by
 intro pins s σ H vs us Q I r h;obtain ⟨v,vr,e1,h⟩:=h;subst e1;cases r with
 | cons r rr =>
  rw [hs];refine assignInOrder_cons (thn (h1 pins s σ H _ _ _ I r h) fun _ s1 ⟨σ1,H1,I1,q1⟩=>?_)
  exact h2 pins s1 σ1 H1 _ _ Q I1 rr q1
def gTup (K:PySem.W.Frag) (n:Nat) (t:TGs):TG:=fun v σ H Q=>∃ a xs,v=.ref a/\SqT K H a xs/\xs.length=n/\t xs σ H Q
theorem pg_tup {es:List Expr} {k:Nat} {t:TGs} {n:Nat} (hc:X.calm=true) (h:PGs X es t)
  (hn:(assignEach es X.env).length=n:=by rfl) (hst:(assignEach es X.env).findIdx? (·.1)=none:=by rfl):PG X (.Tuple es k pos) (gTup X.K n t):=by
 intro pins s σ H v u Q I r hw;obtain ⟨a,xs,e1,hq,hl,hw⟩:=hw;subst e1;cases r;obtain ⟨its,rv,ht,hz⟩:=I.tuple hq;refine assign_Tuple_tuple (I.ok.hd hc) ht (by simp [hn,<- hl,rv.length]) hst fun h' hx=>?_
 have I1:Inv X pins σ H {s with heap:=h'}:=I.kept (t':=s.toks) fun b o e=>hx b o (Nat.ne_of_lt (Heap.lt_size e)) e
 exact h pins _ σ H xs _ Q I1 (by simpa using rv) hw
def gSub (to ti:TE) (t:TSet):TG:=fun v σ H Q=>to σ H fun o H1=>ti σ H1 fun i H2=>t o i v H2 fun H3=>Q σ H3
theorem pg_sub {o i:Expr} {to ti:TE} {t:TSet} (ho:PE X o to) (hi:PE X i ti) (hs:PSet X t)
  (ha:∀ v,assign (.Subscript o i pos) X.env v=(do
   let ov <- holding [v] (eval o X.env)
   let iv <- holding [v,ov] (eval i X.env)
   standAt pos
   holding [v,ov,iv] (setItem ov iv v)
   release [v,ov,iv] []):=by intro _;rfl):PG X (.Subscript o i pos) (gSub to ti t):=by
 intro pins s σ H v u Q I r h;rw [ha];refine wpAny_bind (wpAny_holding (thn (ho pins s σ H _ I h) fun ov s1 ⟨x,H1,I1,r1,q1⟩=>?_))
 refine wpAny_bind (wpAny_holding (thn (hi pins s1 σ H1 _ I1 q1) fun iv s2 ⟨y,H2,I2,r2,q2⟩=>?_))
 refine wpAny_bind (wpAny_standAt (wpAny_bind (wpAny_holding (thn (hs pins s2 σ H2 x y v ov iv u _ I2 r1 r2 r q2) fun _ s3 ⟨H3,I3,q3⟩=>?_))))
 exact wpAny_release ⟨σ,H3,I3,q3⟩
def tAsg (te:TE) (g:TG):TS:=fun D σ H=>te σ H fun x H1=>g x σ H1 D.nx
theorem ps_asg {tg e:Expr} {te:TE} {g:TG} (he:PE X e te) (hg:PG X tg g) (hs:swapsWithSole [tg] e pos.line X.env=pure false:=by rfl) (hw:swappedStores [tg] e X.env=pure none:=by rfl)
  (h1:(assignEach [tg] X.env).map (·.2)=[assign tg X.env]:=by rfl):PS X (.Assign [tg] e pos) (tAsg te g):=by
 intro pins s σ H D I h;refine wpAny_Assign_stores (thn (he pins s σ H _ I h) fun v s1 ⟨x,H1,I1,r1,q1⟩=>?_) hs hw
 rw [h1];exact thn (hg pins s1 σ H1 x v _ I1 r1 q1) fun _ s2 q=>q
theorem ps_set {i:Nat} {x:Str} {e:Expr} {te:TE} {pos':Pos} (hN:X.N.Nodup) (hi:X.N[i]?=some x) (hx:Loc X.env.scope x) (he:PE X e te) (hs:swapsWith e (some (.Name x pos')) pos.line X.env=pure false:=by rfl) (hf:X.fn x=true\/X.env.scope.names.lookup x=some .local:=by first | exact .inl rfl | exact .inr rfl | assumption) :
  PS X (.Assign [.Name x pos'] e pos) (tAsg te (gName i)):=by
 intro pins s σ H D I h;refine wpAny_Assign_Name (thn (he pins s σ H _ I h) fun v s1 ⟨y,H1,I1,r1,q1⟩=>?_) hs
 exact store_ok I1 hN hi hx r1 (fun s2 I2=>⟨_,H1,I2,q1⟩) hf
end
structure It where
 go:Nat->Hp->Prop
 yld:Nat->Hp->V->Hp->Prop
 stop:Nat->Hp->Prop
def FpOk (X:Cx) (pins:List (Addr×Obj)) (H:Hp) (b:Addr):Prop :=
 H b=none/\b≠X.env.locals/\b∉X.fs/\(b∈X.ex\/X.s₀.heap.objs.size<=b)/\(∀ x c,X.env.cells.lookup x=some c->c≠b)/\∀ p∈X.pn++pins,p.1≠b
theorem Inv.fpOk {X:Cx} {pins:List (Addr×Obj)} {σ:St} {H H':Hp} {s:Shared} {b:Addr} (I:Inv X pins σ H s) (hb:s.heap.objs.size<=b) (hn:H' b=none):FpOk X pins H' b:=by
 refine ⟨hn,Nat.ne_of_gt (Nat.lt_of_lt_of_le I.lt hb),I.nofs hb,.inr (Nat.le_trans I.sz hb),fun x c e z=>?_,fun p hp z=>?_⟩
 ·obtain ⟨v,q⟩:=I.cell x c e;exact absurd (Nat.lt_of_lt_of_le q.lt (by rw [z];exact hb)) (Nat.lt_irrefl _)
 ·exact absurd (Nat.lt_of_lt_of_le (Heap.lt_size (I.pin p hp).1) (by rw [z];exact hb)) (Nat.lt_irrefl _)
structure Turn (P:Program) (w:World) (K:PySem.W.Frag) (tg:Expr) (J:It) (fp:List Addr) (it:Addr) (tn:Nat->Heap->Prop):Prop where
 mem:it∈fp
 obj:∀ i h,tn i h->∀ b∈fp,∃ o,h.get? b=some o/\∀ v,o.data≠.cell v
 keep:∀ i h h',tn i h->(∀ b∈fp,∀ o,h.get? b=some o->h'.get? b=some o)->tn i h'
 item:∀ (X:Cx),X.prog=P->X.w=w->X.K=K->X.calm=true->∀ (i:Nat) (pins:List (Addr×Obj)) (s:Shared) (σ:St) (H:Hp) (E:Value->Shared->Prop),Inv X pins σ H s->(∀ b∈fp,FpOk X pins H b)->tn i s.heap->J.go i H ->
  wpAny (model P w) X.A (pyNext (.ref it)) (fun r s1=>∃ u,r=some u /\
   wpAny (model P w) X.A (letOwnedTupleGo tg (.ref it) u) (fun _ s2=>∃ x H',Inv X pins σ H' s2/\RelV x u/\J.yld i H x H'/\tn (i+1) s2.heap/\∀ b∈fp,H' b=none) E s1) E s
 done:∀ (X:Cx),X.prog=P->X.w=w->X.K=K->X.calm=true->∀ (i:Nat) (pins:List (Addr×Obj)) (s:Shared) (σ:St) (H:Hp) (E:Value->Shared->Prop),Inv X pins σ H s->(∀ b∈fp,FpOk X pins H b)->tn i s.heap->J.stop i H ->
  wpAny (model P w) X.A (pyNext (.ref it)) (fun r s1=>r=none/\Inv X pins σ H s1) E s
 self:∀ (A:Around) (i:Nat) (s:Shared) (Q:Value->Shared->Prop) (E:Value->Shared->Prop),tn i s.heap->Q (.ref it) s->wpAny (model P w) A (pyIter (.ref it)) Q E s
abbrev TI:=St->Hp->(It->Hp->Prop)->Prop
def PIE (X:Cx) (pins:List (Addr×Obj)) (σ:St) (tg:Expr) (R:It->Hp->Prop) (itv:Value) (s2:Shared):Prop :=
 ∃ (it:Addr) (fp:List Addr) (tn:Nat->Heap->Prop) (J:It) (H':Hp),itv=.ref it/\Inv X pins σ H' s2/\Turn X.prog X.w X.K tg J fp it tn/\tn 0 s2.heap/\(∀ b∈fp,FpOk X pins H' b)/\R J H'
def PI (X:Cx) (tg iter:Expr) (wi:TI):Prop :=
 ∀ (pins:List (Addr×Obj)) (s:Shared) (σ:St) (H:Hp) (R:It->Hp->Prop),Inv X pins σ H s->wi σ H R ->
  wpAny (model X.prog X.w) X.A (eval iter X.env) (fun v s1=>wpAny (model X.prog X.w) X.A (pyIter v) (PIE X pins σ tg R) X.xe s1) X.xe s
theorem go_of {M:Model} {A:Around} {E:Value->Shared->Prop} {s:Shared} {tg:Expr} {it:Addr} {u:Value} {o:Obj} {n:String} {vs:Array Value} {Q:Unit->Shared->Prop} (ho:s.heap.get? it=some o) (hc:o.cls=.type n) (hd:o.data=.fields vs)
  (hn:["enumerate","zip","dict_itemiterator","dict_reverseitemiterator","odict_iterator","itertools.zip_longest","itertools.pairwise"].contains n=false) (hQ:Q () s):wpAny M A (letOwnedTupleGo tg (.ref it) u) Q E s:=by
 unfold letOwnedTupleGo;cases tg<;>first
  | exact wpAny_pure hQ
  | (cases u<;>first
      | exact wpAny_pure hQ
      | (refine wpAny_bind (wpAny_load ho ?_)
         rw [hc,hd];show wpAny M A (if (["enumerate","zip","dict_itemiterator","dict_reverseitemiterator","odict_iterator","itertools.zip_longest","itertools.pairwise"].contains n&&vs[0]?==some (rawInt _))=true then _ else _) Q E s
         rw [if_neg (by intro h;rw [hn,Bool.false_and] at h;cases h)];exact wpAny_pure hQ))
def Itl (K:PySem.W.Frag) (a:Addr):It :=
 ⟨fun i H=>∃ xs x,SqL K H a xs/\xs[i]?=some x,fun i H x H'=>H'=H/\∀ xs,SqL K H a xs->xs[i]?=some x,fun i H=>∃ xs,SqL K H a xs/\xs.length<=i⟩
def Itt (K:PySem.W.Frag) (a:Addr):It :=
 ⟨fun i H=>∃ xs x,SqT K H a xs/\xs[i]?=some x,fun i H x H'=>H'=H/\∀ xs,SqT K H a xs->xs[i]?=some x,fun i H=>∃ xs,SqT K H a xs/\xs.length<=i⟩
def Itr (lo:Int) (n:Nat):It:=⟨fun i _=>i<n,fun i H x H'=>H'=H/\x=.int (lo+i),fun i _=>n<=i⟩
theorem turn_list {P:Program} {w:World} {K:PySem.W.Frag} {tg:Expr} (a it:Addr):Turn P w K tg (Itl K a) [it] it (fun i h=>h.IsListIter it a i) where
 mem:=by simp
 obj:=fun i h st b hb=>by
  have e:b=it:=by simpa using hb
  subst e;obtain ⟨o,e,c,d⟩:=st;exact ⟨o,e,fun v z=>by rw [d] at z;cases z⟩
 keep:=fun i h h' st k=>st.at fun o e=>k it (by simp) o e
 item:=by
  intro X hP hw hK hc i pins s σ H E I hf st hg;subst hP hw hK;obtain ⟨xs,x,hq,hx⟩:=hg;obtain ⟨its,rv,p,hz⟩:=I.list hq;obtain ⟨u,hu,ru⟩:=rv.get hx;obtain ⟨f0,f1,f2,f3,f4,f5⟩:=hf it (by simp);refine wpAny_pyNext_list_item st p.isList (x:=u) (by simpa using hu) fun h' st' sb=>?_
  have I1:Inv X pins σ H {s with heap:=h'}:=I.turned (t':=s.toks) (fun b o hb e=>(sb.2 b hb).trans e) f0 f1 f3 f4 f5
  obtain ⟨o,e,c,d⟩:=id st';exact ⟨u,rfl,go_of (s:={s with heap:=h'}) e c d (by decide) ⟨x,H,I1,ru,⟨rfl,fun ys hy=>by rw [I.list_inj hy hq];exact hx⟩,st',fun b hb=>(hf b hb).1⟩⟩
 done:=by
  intro X hP hw hK hc i pins s σ H E I hf st hg;subst hP hw hK;obtain ⟨xs,hq,hx⟩:=hg;obtain ⟨its,rv,p,hz⟩:=I.list hq;obtain ⟨f0,f1,f2,f3,f4,f5⟩:=hf it (by simp);have hl:=rv.length;exact wpAny_pyNext_list_end (I.ok.hd hc) st p.isList (by simp;lia) fun h' eb=>⟨rfl,I.turned (t':=s.toks) (fun b o hb e=>eb b o hb e) f0 f1 f3 f4 f5⟩
 self:=fun _ _ _ _ _ st h=>wpAny_pyIter_listiter st h
theorem turn_tuple {P:Program} {w:World} {K:PySem.W.Frag} {tg:Expr} (a it:Addr):Turn P w K tg (Itt K a) [it] it (fun i h=>h.IsTupleIter it a i) where
 mem:=by simp
 obj:=fun i h st b hb=>by
  have e:b=it:=by simpa using hb
  subst e;obtain ⟨o,e,c,d⟩:=st;exact ⟨o,e,fun v z=>by rw [d] at z;cases z⟩
 keep:=fun i h h' st k=>st.at fun o e=>k it (by simp) o e
 item:=by
  intro X hP hw hK hc i pins s σ H E I hf st hg;subst hP hw hK;obtain ⟨xs,x,hq,hx⟩:=hg;obtain ⟨its,rv,p,hz⟩:=I.tuple hq;obtain ⟨u,hu,ru⟩:=rv.get hx;obtain ⟨f0,f1,f2,f3,f4,f5⟩:=hf it (by simp);refine wpAny_pyNext_tuple_item st (show s.heap.IsTuple a its.toArray from p) (x:=u) (by simpa using hu) fun h' st' sb=>?_
  have I1:Inv X pins σ H {s with heap:=h'}:=I.turned (t':=s.toks) (fun b o hb e=>(sb.2 b hb).trans e) f0 f1 f3 f4 f5
  obtain ⟨o,e,c,d⟩:=id st';exact ⟨u,rfl,go_of (s:={s with heap:=h'}) e c d (by decide) ⟨x,H,I1,ru,⟨rfl,fun ys hy=>by rw [I.tuple_inj hy hq];exact hx⟩,st',fun b hb=>(hf b hb).1⟩⟩
 done:=by
  intro X hP hw hK hc i pins s σ H E I hf st hg;subst hP hw hK;obtain ⟨xs,hq,hx⟩:=hg;obtain ⟨its,rv,p,hz⟩:=I.tuple hq;obtain ⟨f0,f1,f2,f3,f4,f5⟩:=hf it (by simp);have hl:=rv.length;exact wpAny_pyNext_tuple_end (I.ok.hd hc) st (show s.heap.IsTuple a its.toArray from p) (by simp;lia) fun h' eb=>⟨rfl,I.turned (t':=s.toks) (fun b o hb e=>eb b o hb e) f0 f1 f3 f4 f5⟩
 self:=fun _ _ _ _ _ st h=>wpAny_pyIter_tupleiter st h
theorem turn_range {P:Program} {w:World} {K:PySem.W.Frag} {tg:Expr} (it:Addr) (lo:Int) (n:Nat):Turn P w K tg (Itr lo n) [it] it (fun i h=>IsRangeIter h it (lo+(i:Nat)*1) ((n:Int)-(i:Nat)) 1) where
 mem:=by simp
 obj:=fun i h st b hb=>by
  have e:b=it:=by simpa using hb
  subst e;exact ⟨_,st,fun v z=>by
   have z':Data.fields _=Data.cell v:=z;cases z'⟩
 keep:=fun i h h' st k=>k it (by simp) _ st
 item:=by
  intro X hP hw hK hc i pins s σ H E I hf st hg;subst hP hw hK;obtain ⟨f0,f1,f2,f3,f4,f5⟩:=hf it (by simp);have W:=Walks.range (prog:=X.prog) (w:=X.w) (I.ok.hd hc) it lo 1 n;refine W.item i s _ _ hg st fun v h' tk hv st' kk=>?_
  obtain ⟨t,rfl⟩:=hv;have I1:Inv X pins σ H {s with heap:=h',toks:=tk}:=I.turned (fun b o hb e=>kk b o (by simpa using hb) e) f0 f1 f3 f4 f5
  refine ⟨_,rfl,go_of (s:={s with heap:=h',toks:=tk}) (n := "range_iterator") st' rfl rfl (by decide) ⟨.int (lo+i),H,I1,⟨t,?_⟩,⟨rfl,rfl⟩,st',fun b hb=>(hf b hb).1⟩⟩
  rw [Int.mul_one]
 done:=by
  intro X hP hw hK hc i pins s σ H E I hf st hg;subst hP hw hK;obtain ⟨f0,f1,f2,f3,f4,f5⟩:=hf it (by simp);exact wpAny_pyNext_range_end (I.ok.hd hc) st (by have:n<=i:=hg;lia) fun h' eb=>⟨rfl,I.turned (t':=s.toks) (fun b o hb e=>eb b o hb e) f0 f1 f3 f4 f5⟩
 self:=fun _ _ _ _ _ st h=>wpAny_pyIter_rangeiter st h
end L2
namespace L2
open PySem PySem.Spec PyProof.Rows
section
variable {X:Cx} {tg:Expr}
theorem range_it {pins:List (Addr×Obj)} {σ:St} {H:Hp} {s:Shared} {R:It->Hp->Prop} {E:Value->Shared->Prop} {lo hi:Int} {t u v:Tok} {tk:Nat} (I:Inv X pins σ H s) (h1 : -(2 ^ 62)<=lo) (h2:lo<2 ^ 62) (h3 : -(2 ^ 62)<=hi) (h4:hi<2 ^ 62)
  (q:R (Itr lo (hi-lo).toNat) H):wpAny (model X.prog X.w) X.A (pyIter (.ref s.heap.objs.size)) (PIE X pins σ tg R) E {s with heap:=s.heap.push {cls:=.type "range",data:=.fields #[.int lo t,.int hi u,.int 1 v]},toks:=tk}:=by
 refine wpAny_pyIter_range (IsRange.new ..) (small_one h1 h2 h3 h4) ?_;have I1:Inv X pins σ H {s with heap:=s.heap.push {cls:=.type "range",data:=.fields #[.int lo t,.int hi u,.int 1 v]},toks:=tk}:=I.kept fun b o e=>Heap.get?_push_of_some _ e
 refine ⟨(s.heap.push {cls:=.type "range",data:=.fields #[.int lo t,.int hi u,.int 1 v]}).objs.size,[(s.heap.push {cls:=.type "range",data:=.fields #[.int lo t,.int hi u,.int 1 v]}).objs.size],_,_,H,rfl,
  I1.kept (t':=tk) fun b o e=>Heap.get?_push_of_some _ e,turn_range _ lo (hi-lo).toNat,?_,fun b hb=>?_,q⟩
 ·have e1:lo+((0:Nat):Int)*1=lo:=by simp
  have e2:(((hi-lo).toNat:Nat):Int)-((0:Nat):Int)=Builtin.Range.rangeSize lo hi 1:=by rw [rangeSize_one];split<;>lia
  show IsRangeIter _ _ (lo+((0:Nat):Int)*1) ((((hi-lo).toNat:Nat):Int)-((0:Nat):Int)) 1;rw [e1,e2];exact Heap.get?_push_size _ rfl
 ·have e:b=(s.heap.push {cls:=.type "range",data:=.fields #[.int lo t,.int hi u,.int 1 v]}).objs.size:=by simpa using hb
  subst e;exact I1.fpOk (Nat.le_refl _) (I1.hok.fresh (Nat.le_refl _))
def iRng1 (ta:TA):TI:=fun σ H R=>ta σ H fun vs H1=>∃ j:Int,vs=[.int j] /\ -(2 ^ 62)<=j/\j<2 ^ 62/\R (Itr 0 j.toNat) H1
theorem pi_range1 {a:Expr} {ta:TA} {p pos:Pos} (hg:Gl X "range") (hm:X.mg "range" = none) (ha:PA X [a] ta) (hs:starEach [a] X.env=[(false,eval a X.env)]:=by rfl):PI X tg (.Call (.Name "range" p) [a] [] pos) (iRng1 ta):=by
 intro pins s σ H R I h;refine Call_ (ld_blt I hg hm boot_range (PyProof.Rows.callWith_type1 (thn (ha pos pins s σ H _ I h) fun us s1 ⟨vs,H1,I1,r1,q1⟩=>?_) hs rfl))
 obtain ⟨j,e,q1,q2,q⟩:=q1;subst e;cases r1 with
 | cons r rr =>
  cases rr;obtain ⟨t,rfl⟩:=r;exact call_range_1 (range_it I1 (by lia) (by lia) q1 q2 (by simpa using q))
def tFor (wi:TI) (g:TG) (tb:TS):TS:=fun D σ H=>wi σ H fun J H1=>∃ W:Nat->Nat->St->Hp->Prop,(∃ m,W 0 m σ H1)/\∀ i m σ H,W i m σ H ->
 (J.stop i H/\D.nx σ H)\/(J.go i H/\∃ N:St->Hp->Prop,(∀ σ' H',N σ' H'->∃ m',m'<m/\W (i+1) m' σ' H')/\∀ x H',J.yld i H x H'->g x σ H' fun σ2 H2=>tb {D with nx:=N,ct:=N,bk:=D.nx} σ2 H2)
def pinsAt (fp:List Addr) (h:Heap):List (Addr×Obj):=fp.filterMap fun b=>(h.get? b).map fun o=>(b,o)
theorem mem_pinsAt {fp:List Addr} {h:Heap} {b:Addr} {o:Obj} (hb:b∈fp) (e:h.get? b=some o):(b,o)∈pinsAt fp h:=List.mem_filterMap.mpr ⟨b,hb,by rw [e];rfl⟩
theorem of_pinsAt {fp:List Addr} {h:Heap} {p:Addr×Obj} (hp:p∈pinsAt fp h):p.1∈fp/\h.get? p.1=some p.2:=by
 obtain ⟨b,hb,e⟩:=List.mem_filterMap.mp hp;cases q:h.get? b with
 | none=>rw [q] at e;cases e
 | some o =>
  rw [q] at e;have e':(b,o)=p:=Option.some.inj e;subst e';exact ⟨hb,q⟩
theorem Inv.pinned {pins:List (Addr×Obj)} {σ:St} {H:Hp} {s:Shared} {fp:List Addr} (I:Inv X pins σ H s) (hf:∀ b∈fp,FpOk X pins H b) (ho:∀ b∈fp,∃ o,s.heap.get? b=some o/\∀ v,o.data≠.cell v):Inv X (pins++pinsAt fp s.heap) σ H s :=
 I.pins_of fun p hp=>(List.mem_append.mp hp).elim (fun z=>I.pin p (List.mem_append_right _ z)) fun z=>by
  obtain ⟨hb,e⟩:=of_pinsAt z;obtain ⟨f0,f1,f2,_⟩:=hf p.1 hb;obtain ⟨o,e',d⟩:=ho p.1 hb;rw [e] at e';cases e';exact ⟨e,f0,f1,f2,d⟩
theorem Inv.unpinned {pins pl:List (Addr×Obj)} {σ:St} {H:Hp} {s:Shared} (I:Inv X (pins++pl) σ H s):Inv X pins σ H s:=I.pins_of fun p hp=>I.pin p (List.mem_append_right _ (List.mem_append_left _ hp))
theorem ps_for {iter:Expr} {body:List Stmt} {wi:TI} {g:TG} {tb:TS} {pos:Pos} (hp:PassesOwn (model X.prog X.w) X.A X.env X.xe) (hc:X.calm=true) (hi:PI X tg iter wi) (hg:PG X tg g) (hb:PSs X body tb)
  (hs:∀ x,foldedSetIterable iter X.env x=pure x:=by intro _;rfl):PS X (.For tg iter body [] pos) (tFor wi g tb):=by
 intro pins s σ H D I h;refine wpAny_For (thn (hi pins s σ H _ I h) fun v s1 h1=>thn h1 fun itv s2 h2=>?_) hs
 obtain ⟨it,fp,tn,J,H2,e,I2,T,st2,f2,W,⟨m0,w0⟩,turn⟩:=h2;subst e;have stat:∀ {H':Hp},(∀ b∈fp,H' b=none)->∀ b∈fp,FpOk X pins H' b:=fun hn b hb=>⟨hn b hb,(f2 b hb).2⟩
 refine codeAny_forLoop_any (fun n s'=>∃ i σ' H',Inv X pins σ' H' s'/\tn i s'.heap/\(∀ b∈fp,H' b=none)/\W i n σ' H') ?_ m0 ⟨0,σ,H2,I2,st2,fun b hb=>(f2 b hb).1,w0⟩
 rintro n s3 ⟨i,σ3,H3,I3,st3,fr3,w3⟩
 rcases turn i n σ3 H3 w3 with ⟨stop,qn⟩ | ⟨go,N,hN,step⟩
 ·refine wpAny_passesOwn hp (thn (T.done X rfl rfl rfl hc i pins s3 σ3 H3 X.xe I3 (stat fr3) st3 stop) fun r s4 ⟨hr,I4⟩=>?_)
  subst hr;exact wpAny_execs_nil ⟨σ3,H3,I4,qn⟩
 ·refine wpAny_passesOwn hp (thn (T.item X rfl rfl rfl hc i pins s3 σ3 H3 X.xe I3 (stat fr3) st3 go) fun r s4 ⟨u,hr,h4⟩=>?_)
  subst hr;refine wpAny_passesOwn hp (thn h4 fun _ s5 ⟨x,H5,I5,r5,y5,st5,fr5⟩=>?_);have I5':=I5.pinned (stat fr5) (T.obj _ _ st5);refine wpAny_passesOwn hp (thn (hg _ s5 σ3 H5 x u _ I5' r5 (step x H5 y5)) fun _ s6 ⟨σ6,H6,I6,q6⟩=>?_)
  refine wpAny_passesOwn hp (thn (hb _ s6 σ6 H6 _ I6 q6) fun f s7 q7=>?_)
  have again:∀ {σ7:St} {H7:Hp},Inv X (pins++pinsAt fp s5.heap) σ7 H7 s7->N σ7 H7->∃ m,m<n/\∃ i σ' H',Inv X pins σ' H' s7/\tn i s7.heap/\(∀ b∈fp,H' b=none)/\W i m σ' H':=fun {σ7 H7} I7 n7=>by
   obtain ⟨m',hm,w7⟩:=hN σ7 H7 n7;refine ⟨m',hm,i+1,σ7,H7,I7.unpinned,T.keep _ _ _ st5 fun b hb o e=>(I7.pin (b,o) (List.mem_append_right _ (List.mem_append_right _ (mem_pinsAt hb e)))).1,fun b hb=>?_,w7⟩
   obtain ⟨o,e,d⟩:=T.obj _ _ st5 b hb;exact (I7.pin (b,o) (List.mem_append_right _ (List.mem_append_right _ (mem_pinsAt hb e)))).2.1
  cases f with
  | next=>obtain ⟨σ7,H7,I7,n7⟩:=q7;exact again I7 n7
  | cont=>obtain ⟨σ7,H7,I7,n7⟩:=q7;exact again I7 n7
  | brk=>obtain ⟨σ7,H7,I7,q7⟩:=q7;exact ⟨σ7,H7,I7.unpinned,q7⟩
  | ret v=>obtain ⟨x7,σ7,H7,I7,r7,q7⟩:=q7;exact ⟨x7,σ7,H7,I7.unpinned,r7,q7⟩
end
end L2
namespace L2
open PySem PySem.Spec PyProof.Rows
abbrev R2:=V->V->Hp->VK->Prop
def OpR (X:Cx) (f:Value->Value->Sem Value) (r:R2):Prop :=
 ∀ (pins:List (Addr×Obj)) (s:Shared) (σ:St) (H:Hp) (x y:V) (v u:Value) (Q:VK),Inv X pins σ H s->RelV x v->RelV y u->r x y H Q ->
  wpAny (model X.prog X.w) X.A (f v u) (EP X pins σ Q) X.xe s
def UnR (X:Cx) (f:Value->Sem Value) (r:V->Hp->VK->Prop):Prop :=
 ∀ (pins:List (Addr×Obj)) (s:Shared) (σ:St) (H:Hp) (x:V) (v:Value) (Q:VK),Inv X pins σ H s->RelV x v->r x H Q ->
  wpAny (model X.prog X.w) X.A (f v) (EP X pins σ Q) X.xe s
def CallR (X:Cx) (f:Value) (r:List V->Hp->VK->Prop):Prop :=
 ∀ (pins:List (Addr×Obj)) (s:Shared) (σ:St) (H:Hp) (xs:List V) (us:List Value) (Q:VK),Inv X pins σ H s->Vals xs us->r xs H Q ->
  wpAny (model X.prog X.w) X.A (call f us) (EP X pins σ Q) X.xe s
def TruR (X:Cx) (r:V->Hp->(Bool->Hp->Prop)->Prop):Prop :=
 ∀ (pins:List (Addr×Obj)) (s:Shared) (σ:St) (H:Hp) (x:V) (v:Value) (Q:Bool->Hp->Prop),Inv X pins σ H s->RelV x v->r x H Q ->
  wpAny (model X.prog X.w) X.A (truthy v) (TP X pins σ Q) X.xe s
def tOp (r:R2) (ta tb:TE):TE:=fun σ H Q=>ta σ H fun x H1=>tb σ H1 fun y H2=>r x y H2 Q
def tUn (r:V->Hp->VK->Prop) (ta:TE):TE:=fun σ H Q=>ta σ H fun x H1=>r x H1 Q
def rI (C:Int->Int->Prop) (g:Int->Int->V):R2:=fun x y H Q=>∃ i j,x=.int i/\y=.int j/\C i j/\Q (g i j) H
def rI0 (g:Int->Int->V):R2:=fun x y H Q=>∃ i j,x=.int i/\y=.int j/\Q (g i j) H
def rU (g:Int->V):V->Hp->VK->Prop:=fun x H Q=>∃ i,x=.int i/\Q (g i) H
section
variable {X:Cx} {a b c:Expr} {ta tb tc:TE} {pos:Pos}
theorem binT (ha:PE X a ta) (hb:PE X b tb) {pins:List (Addr×Obj)} {s:Shared} {σ:St} {H:Hp} {R:V->V->Hp->Prop} (I:Inv X pins σ H s)
  (h:ta σ H fun x H1=>tb σ H1 fun y H2=>R x y H2) {Q:Value->Shared->Prop} {f:Value->Value->Sem Value}
  (hf:∀ v u s2 x y H2,Inv X pins σ H2 s2->RelV x v->RelV y u->R x y H2->wpAny (model X.prog X.w) X.A (f v u) Q X.xe s2) :
  wpAny (model X.prog X.w) X.A (eval a X.env) (fun v s₁=>wpAny (model X.prog X.w) X.A (eval b X.env) (fun u s₂=>wpAny (model X.prog X.w) X.A (f v u) Q X.xe s₂) X.xe s₁) X.xe s:=by
 refine thn (ha pins s σ H _ I h) fun v s1 ⟨x,H1,I1,r1,q1⟩=>?_
 refine thn (hb pins s1 σ H1 _ I1 q1) fun u s2 ⟨y,H2,I2,r2,q2⟩=>?_
 exact hf v u s2 x y H2 I2 r1 r2 q2
theorem pe_op {op:Operator} {r:R2} (ho:OpR X (binaryOp op) r) (ha:PE X a ta) (hb:PE X b tb):PE X (.BinOp a op b pos) (tOp r ta tb):=by
 intro pins s σ H Q I h;exact wpAny_BinOp (binT ha hb I h fun v u s2 x y H2 I2 rx ry q=>ho pins s2 σ H2 x y v u Q I2 rx ry q)
theorem pe_un {op:UnaryOp} {r:V->Hp->VK->Prop} (ho:UnR X (unaryOp op) r) (ha:PE X a ta):PE X (.UnaryOp op a pos) (tUn r ta):=by
 intro pins s σ H Q I h;exact UnaryOp_ (thn (ha pins s σ H _ I h) fun v s1 ⟨x,H1,I1,r1,q1⟩=>ho pins s1 σ H1 x v Q I1 r1 q1)
theorem opI {f:Value->Value->Sem Value} {C:Int->Int->Prop} {g:Int->Int->Int}
  (rule:∀ (i j:Int) (t u:Tok) (s:Shared) (Q:Value->Shared->Prop) (E:Value->Shared->Prop),C i j->Q (.int (g i j) s.toks) {s with toks:=s.toks+1}->wpAny (model X.prog X.w) X.A (f (.int i t) (.int j u)) Q E s) :
  OpR X f (rI C fun i j=>.int (g i j)):=by
 intro pins s σ H x y v u Q I rx ry h;obtain ⟨i,j,rfl,rfl,hc,q⟩:=h;obtain ⟨t,rfl⟩:=rx;obtain ⟨t',rfl⟩:=ry;exact rule i j t t' s _ _ hc ⟨.int (g i j),H,I.tok _,⟨_,rfl⟩,q⟩
theorem opI0 {f:Value->Value->Sem Value} {g:Int->Int->Int}
  (rule:∀ (i j:Int) (t u:Tok) (s:Shared) (Q:Value->Shared->Prop) (E:Value->Shared->Prop),Q (.int (g i j) s.toks) {s with toks:=s.toks+1}->wpAny (model X.prog X.w) X.A (f (.int i t) (.int j u)) Q E s) :
  OpR X f (rI0 fun i j=>.int (g i j)):=by
 intro pins s σ H x y v u Q I rx ry h;obtain ⟨i,j,rfl,rfl,q⟩:=h;obtain ⟨t,rfl⟩:=rx;obtain ⟨t',rfl⟩:=ry;exact rule i j t t' s _ _ ⟨.int (g i j),H,I.tok _,⟨_,rfl⟩,q⟩
theorem opB0 {f:Value->Value->Sem Value} {g:Int->Int->Bool}
  (rule:∀ (i j:Int) (t u:Tok) (s:Shared) (Q:Value->Shared->Prop) (E:Value->Shared->Prop),Q (.bool (g i j)) s->wpAny (model X.prog X.w) X.A (f (.int i t) (.int j u)) Q E s) :
  OpR X f (rI0 fun i j=>.bl (g i j)):=by
 intro pins s σ H x y v u Q I rx ry h;obtain ⟨i,j,rfl,rfl,q⟩:=h;obtain ⟨t,rfl⟩:=rx;obtain ⟨t',rfl⟩:=ry;exact rule i j t t' s _ _ ⟨.bl (g i j),H,I,rfl,q⟩
def CDiv (i j:Int):Prop:=0<j/\j<1073741824
def CPow (i j:Int):Prop:=0<=j/\j<=1000000/\i.natAbs<2 ^ 64
def CMul (i j:Int):Prop:=(-(2 ^ 64)<i/\i<2 ^ 64)\/(-(2 ^ 64)<j/\j<2 ^ 64)
theorem CMul.ok {i j:Int} (h:CMul i j):IntMulOk i j:=by
 rcases h with ⟨h1,h2⟩ | ⟨h1,h2⟩
 ·exact .of_left (intBits_le_64 h1 h2)
 ·exact .of_right (intBits_le_64 h1 h2)
theorem op_add:OpR X (binaryOp .Add) (rI0 fun i j=>.int (i+j)):=opI0 fun _ _ _ _ _ _ _ q=>add_int q
theorem op_sub:OpR X (binaryOp .Sub) (rI0 fun i j=>.int (i-j)):=opI0 fun _ _ _ _ _ _ _ q=>sub_int q
theorem op_mul:OpR X (binaryOp .Mult) (rI CMul fun i j=>.int (i*j)):=opI fun _ _ _ _ _ _ _ hc q=>mul_int q hc.ok
theorem op_fdiv:OpR X (binaryOp .FloorDiv) (rI CDiv fun i j=>.int (i/j)):=opI fun i j _ _ _ _ _ hc q=>by
 have h1:(0:Int)<j:=hc.1;have h2:j<1073741824:=hc.2;exact floordiv_int (by lia) (by rw [Int.fdiv_eq_ediv_of_nonneg i (by lia)];exact q) (.inl (PyProof.noPylong_small (by lia)))
theorem op_mod:OpR X (binaryOp .Mod) (rI (fun _ j=>0<j) fun i j=>.int (i % j)):=opI fun i j _ _ _ _ _ hc q=>by
 have h1:(0:Int)<j:=hc;exact mod_int' (by lia) (by rw [Int.fmod_eq_emod_of_nonneg i (by lia)];exact q)
theorem op_pow:OpR X (binaryOp .Pow) (rI CPow fun i j=>.int (i ^ j.toNat)):=opI fun _ _ _ _ _ _ _ hc q=>pow_int_small hc.1 hc.2.1 hc.2.2 q
theorem unI {f:Value->Sem Value} {g:Int->Int}
  (rule:∀ (i:Int) (t:Tok) (s:Shared) (Q:Value->Shared->Prop) (E:Value->Shared->Prop),Q (.int (g i) s.toks) {s with toks:=s.toks+1}->wpAny (model X.prog X.w) X.A (f (.int i t)) Q E s) :
  UnR X f (rU fun i=>.int (g i)):=by
 intro pins s σ H x v Q I rx h;obtain ⟨i,rfl,q⟩:=h;obtain ⟨t,rfl⟩:=rx;exact rule i t s _ _ ⟨.int (g i),H,I.tok _,⟨_,rfl⟩,q⟩
theorem un_neg:UnR X (unaryOp .USub) (rU fun i=>.int (-i)):=unI fun _ _ _ _ _ q=>neg_int q
end
section
variable {X:Cx} {a b c:Expr} {ta tb tc:TE} {pos:Pos}
theorem op_lt:OpR X (compareOp .Lt) (rI0 fun i j=>.bl (decide (i<j))):=opB0 fun _ _ _ _ _ _ _ q=>lt_int q
theorem op_le:OpR X (compareOp .LtE) (rI0 fun i j=>.bl (decide (i<=j))):=opB0 fun _ _ _ _ _ _ _ q=>le_int q
theorem op_gt:OpR X (compareOp .Gt) (rI0 fun i j=>.bl (decide (j<i))):=opB0 fun _ _ _ _ _ _ _ q=>gt_int q
theorem nomark (b:Expr) {op:CmpOp} (h:op≠.In:=by decide) (h2:op≠.NotIn:=by decide):behindInMarks op b=false:=by
 have e1:(op==CmpOp.In)=false:=by cases op<;>first | rfl | exact absurd rfl h
 have e2:(op==CmpOp.NotIn)=false:=by cases op<;>first | rfl | exact absurd rfl h2
 cases b<;>simp [behindInMarks,e1,e2]
theorem pe_cmpR {op:CmpOp} {r:R2} (ho:OpR X (compareOp op) r) (ha:PE X a ta) (hb:PE X b tb) (hm:behindInMarks op b=false):PE X (.Compare a [op] [b] pos) (tOp r ta tb):=by
 intro pins s σ H Q I h;exact wpAny_Compare1 (binT ha hb I h fun v u s2 x y H2 I2 rx ry q=>ho pins s2 σ H2 x y v u Q I2 rx ry q) hm
def tTest (t:TE):TT:=fun σ H Q=>t σ H fun x H'=>∃ k,x=.bl k/\Q k H'
theorem pt_cmpR {op:CmpOp} {r:R2} (ho:OpR X (compareOp op) r) (ha:PE X a ta) (hb:PE X b tb) (hm:behindInMarks op b=false):PT X (.Compare a [op] [b] pos) (tTest (tOp r ta tb)):=by
 intro pins s σ H Q I h;refine wpAny_isTrue_Compare1 (thn (ha pins s σ H _ I h) fun v s1 ⟨x,H1,I1,r1,q1⟩=>thn (hb pins s1 σ H1 _ I1 q1) fun u s2 ⟨y,H2,I2,r2,q2⟩ =>
  thn (ho pins s2 σ H2 x y v u _ I2 r1 r2 q2) fun c s3 ⟨z,H3,I3,r3,k,e,q3⟩=>?_) hm
 subst e;cases r3;exact wpAny_truthy_bool ⟨H3,I3,q3⟩
def tChain (r r':R2) (ta tb tc:TE):TE:=fun σ H Q=>ta σ H fun x H1=>tb σ H1 fun y H2=>r x y H2 fun z H3=>∃ k,z=.bl k /\
 (if k=true then tc σ H3 fun w' H4=>r' y w' H4 Q else Q (.bl false) H3)
theorem pe_chain {op op':CmpOp} {r r':R2} (ho:OpR X (compareOp op) r) (ho':OpR X (compareOp op') r') (ha:PE X a ta) (hb:PE X b tb) (hc:PE X c tc)
  (hm:lastMarks [op,op'] [b,c]=false:=by with_unfolding_all rfl):PE X (.Compare a [op,op'] [b,c] pos) (tChain r r' ta tb tc):=by
 intro pins s σ H Q I h;refine Compare_chain (thn (ha pins s σ H _ I h) fun v s1 ⟨x,H1,I1,r1,q1⟩=>chain_link (thn (hb pins s1 σ H1 _ I1 q1) fun u s2 ⟨y,H2,I2,r2,q2⟩ =>
  thn (ho pins s2 σ H2 x y v u _ I2 r1 r2 q2) fun d s3 ⟨z,H3,I3,r3,k,e,q3⟩=>?_)) hm
 subst e;cases r3;refine wpAny_truthy_bool ?_;cases k with
 | false=>exact ite_ff ⟨.bl false,H3,I3,rfl,q3⟩
 | true=>exact ite_tt (chain_last (thn (hc pins s3 σ H3 _ I3 q3) fun w' s4 ⟨z',H4,I4,r4,q4⟩=>ho' pins s4 σ H4 y z' u w' Q I4 r2 r4 q4))
def TruV (K:PySem.W.Frag) (x:V) (H:Hp) (k:Bool):Prop :=
 match x with
 | .non=>k=false
 | .bl b=>k=b
 | .int i=>k=(i != 0)
 | .str y=>y.length<=sizeLine/\k=((y.length:Int) != 0)
 | .byt y=>y.size<=sizeLine/\k=((y.size:Int) != 0)
 | .ref p=>(∃ xs,SqL K H p xs/\k=!xs.isEmpty)\/(∃ xs,SqT K H p xs/\k=!xs.isEmpty)\/∃ kvs,H p=some (.dK kvs)/\k=!kvs.isEmpty
 | _=>False
theorem isEmpty_kv {κ:Type} {kvs:List (κ×V)} {vs:List (κ×Value)} (r:KV kvs vs):(!vs.isEmpty)=!kvs.isEmpty:=by
 cases r<;>rfl
theorem isEmpty_of {xs:List V} {its:List Value} (r:Vals xs its):(!its.toArray.isEmpty)=!xs.isEmpty:=by
 cases r<;>simp
theorem line63:(sizeLine:Nat)<2 ^ 63:=by rw [sizeLine_eq];decide
theorem tru_ok:TruR X (fun x H Q=>∃ k,TruV X.K x H k/\Q k H):=by
 intro pins s σ H x v Q I rx h;obtain ⟨k,e,q⟩:=h;have hl:=line63;have hs:sizeLine=16777216:=sizeLine_eq;cases x with
 | non =>
  cases rx;have e':k=false:=e;subst e';exact truthy_none ⟨H,I,q⟩
 | bl b =>
  cases rx;have e':k=b:=e;subst e';exact wpAny_truthy_bool ⟨H,I,q⟩
 | int i =>
  obtain ⟨t,rfl⟩:=rx;have e':k=(i != 0):=e;subst e';exact PySem.P.truthy_int ⟨H,I,q⟩
 | str y =>
  obtain ⟨t,rfl⟩:=rx;obtain ⟨hy,e'⟩:y.length<=sizeLine/\k=((y.length:Int) != 0):=e;subst e';exact PySem.P.truthy_str (by lia) ⟨H,I.tok _,q⟩
 | byt y =>
  obtain ⟨t,rfl⟩:=rx;obtain ⟨hy,e'⟩:y.size<=sizeLine/\k=((y.size:Int) != 0):=e;subst e';exact PySem.W.truthy_bytes (by lia) ⟨H,I.tok _,q⟩
 | ref p =>
  cases rx;have e':(∃ xs,SqL X.K H p xs/\k=!xs.isEmpty)\/(∃ xs,SqT X.K H p xs/\k=!xs.isEmpty)\/∃ kvs,H p=some (.dK kvs)/\k=!kvs.isEmpty:=e
  rcases e' with ⟨xs,hx,e'⟩ | ⟨xs,hx,e'⟩ | ⟨kvs,hx,e'⟩
  ·subst e';obtain ⟨its,r,pl,hz⟩:=I.list hx;have hlen:=r.length;exact wpAny_truthy_list pl.isList (by simp only [List.size_toArray];lia) ⟨H,I.tok _,by rw [isEmpty_of r];exact q⟩
  ·subst e';obtain ⟨its,r,pl,hz⟩:=I.tuple hx;have hlen:=r.length;exact truthy_tuple pl (by simp only [List.size_toArray];lia) ⟨H,I.tok _,by rw [isEmpty_of r];exact q⟩
  ·subst e';obtain ⟨hz,hS,vs,r,m⟩:kvs.length<=sizeLine/\(p==sysModules)=false/\∃ vs,KV kvs vs/\s.heap.DictOf (mixKind X.prog X.w) p vs:=I.hok p _ hx;have hlen:kvs.length=vs.length:=Paired.length r;exact wpAny_truthy_dict hS m (by lia) ⟨H,I.tok _,by rw [isEmpty_kv r];exact q⟩
 | _=>exact (show False from e).elim
theorem pt_truth (ha:PE X a ta) (he:∀ whole,isTrue a X.env whole=(do let v <- whole;standAt a.pos;holding [v] (truthy v))) :
  PT X a (fun σ H Q=>ta σ H fun x H'=>∃ k,TruV X.K x H' k/\Q k H'):=by
 intro pins s σ H Q I h;exact isTrue_plain (thn (ha pins s σ H _ I h) fun v s1 ⟨x,H1,I1,r1,q1⟩=>tru_ok pins s1 σ H1 x v Q I1 r1 q1) (he _)
theorem op_add_str:OpR X (binaryOp .Add) (fun x y H Q=>∃ i j,x=.str i/\y=.str j/\i.length+j.length<=sizeLine/\Q (.str (i++j)) H):=by
 intro pins s σ H x y v u Q I rx ry h;obtain ⟨i,j,rfl,rfl,hz,q⟩:=h;obtain ⟨t,rfl⟩:=rx;obtain ⟨t',rfl⟩:=ry;exact add_str (fun t' tk=>⟨.str (i++j),H,I.tok _,⟨_,rfl⟩,q⟩) hz
theorem vals1 {x:V} {us:List Value} (r:Vals [x] us):∃ u,us=[u]/\RelV x u:=by
 cases r with
 | cons r1 r2=>cases r2;exact ⟨_,rfl,r1⟩
theorem call_int1:CallR X (.type "int") (fun xs H Q=>(∃ i,xs=[.int i]/\Q (.int i) H)\/∃ k,xs=[.bl k]/\Q (.int (if k then 1 else 0)) H):=by
 intro pins s σ H xs us Q I r h
 rcases h with ⟨i,rfl,q⟩ | ⟨k,rfl,q⟩
 ·obtain ⟨u,rfl,t,rfl⟩:=vals1 r;exact call_int_int ⟨.int i,H,I,⟨_,rfl⟩,q⟩
 ·obtain ⟨u,rfl,r1⟩:=vals1 r;cases r1;exact call_int_bool ⟨.int (if k then 1 else 0),H,I.tok _,⟨_,rfl⟩,q⟩
end
end L2
namespace L2
open PySem PySem.Spec PyProof.Rows
end L2
namespace L2
open PySem PySem.Spec PyProof.Rows
structure Room (k:Nat) (A:Around):Prop where
 hd:A.handled=none
 dp:A.depth+3*k+5<recursionLimit
 un:A.units+16*k+200<cLine
theorem Room.mono {j k:Nat} {A:Around} (r:Room k A) (h:j<=k):Room j A:=⟨r.hd,by have:=r.dp;lia,by have:=r.un;lia⟩
theorem Room.deeper {k:Nat} {A:Around} (r:Room (k+1) A) (env:Env):Room k (A.deeper env) :=
 ⟨r.hd,by have:=r.dp;show A.depth+1+3*k+5<_;lia,by have:=r.un;show A.units+3+16*k+200<_;lia⟩
theorem Room.depth {k:Nat} {A:Around} (r:Room k A):A.depth<recursionLimit:=by have:=r.dp;lia
theorem Room.units {k:Nat} {A:Around} (r:Room k A):A.units+64<cLine:=by have:=r.un;lia
def tNil:TA:=fun _ H Q=>Q [] H
def tCons (ta:TE) (tr:TA):TA:=fun σ H Q=>ta σ H fun x H1=>tr σ H1 fun xs H2=>Q (x::xs) H2
section
variable {X:Cx} {e:Expr} {es:List Expr} {te:TE} {t:TA} {pos:Pos}
theorem pa_nil:PA X [] tNil:=fun _ _ _ _ H Q I h=>Calls.spliced_nil ⟨[],H,I,.nil,h⟩
theorem pa_cons (ha:PE X e te) (hr:PA X es t) (hs:starEach (e::es) X.env=(false,eval e X.env)::starEach es X.env:=by rfl):PA X (e::es) (tCons te t):=by
 intro pos pins s σ H Q I h;rw [hs];show wpAny _ _ (spliced ((false,eval e X.env)::backTo pos (starEach es X.env))) _ _ s;refine Calls.spliced_cons (thn (ha pins s σ H _ I h) fun u s1 ⟨x,H1,I1,r1,q1⟩=>?_)
 exact thn (hr pos pins s1 σ H1 _ I1 q1) fun us s2 ⟨xs,H2,I2,r2,q2⟩=>⟨x::xs,H2,I2,.cons r1 r2,q2⟩
def tTup (t:TA):TE:=fun σ H Q=>t σ H fun xs H1=>xs.length<=sizeLine/\∀ p,H1 p=none->Q (.ref p) (upd H1 p (.tup xs))
def tLst (t:TA):TE:=fun σ H Q=>t σ H fun xs H1=>xs.length<=sizeLine/\∀ p,H1 p=none->Q (.ref p) (upd H1 p (.lst xs))
theorem pe_tup {x1} (h:PA X es t):PE X (.Tuple es x1 pos) (tTup t):=by
 intro pins s σ H Q I hq;refine wpAny_Tuple_spliced (thn (h pos pins s σ H _ I hq) fun us s1 ⟨xs,H1,I1,r,z,q⟩=>⟨by rw [<- r.length];exact z,?_⟩)
 have hf:H1 s1.heap.objs.size=none:=I1.hok.fresh (Nat.le_refl _);refine ⟨.ref s1.heap.objs.size,upd H1 s1.heap.objs.size (.tup xs),I1.laid (t':=s1.toks) (fun b u e=>Heap.get?_push_of_some _ e) (Nat.le_refl _) ?_,rfl,q _ hf⟩;exact ⟨z,us,r,⟨_,Heap.get?_push_size _ rfl,rfl,rfl,_,rfl⟩⟩
theorem pe_lst (h:PA X es t):PE X (.List es pos) (tLst t):=by
 intro pins s σ H Q I hq;refine wpAny_List_spliced (thn (h pos pins s σ H _ I hq) fun us s1 ⟨xs,H1,I1,r,z,q⟩=>⟨by rw [<- r.length];exact z,?_⟩)
 have hf:H1 s1.heap.objs.size=none:=I1.hok.fresh (Nat.le_refl _);refine ⟨.ref s1.heap.objs.size,upd H1 s1.heap.objs.size (.lst xs),I1.laid (t':=s1.toks) (fun b u e=>Heap.get?_push_of_some _ e) (Nat.le_refl _) ?_,rfl,q _ hf⟩;exact ⟨z,us,0,r,Heap.get?_push_size _ rfl⟩
end
abbrev Sp:=List V->Hp->VK->XK->Prop
abbrev CXT:=List Env->Hp->Shared->XK->Value->Shared->Prop
structure Env0 (P:Program) (w:World) (K:PySem.W.Frag) (mg:Str->Option Value) (base:Heap) (A:Around) (outer:List Env) (s:Shared) (H:Hp):Prop where
 frames:A.frames=some outer
 mod:Mod K mg base
 bs:∀ b o,base.get? b=some o->s.heap.get? b=some o/\H b=none
 bsz:base.objs.size<=s.heap.objs.size
 funs:s.heap.FunFrames base outer
 frf:∀ b∈frs outer,H b=none
 hok:HOk P w H s.heap
 bare:AllBare s.gens
def CE (outer:List Env) (P:Program) (w:World) (H:Hp) (s:Shared) (Q:VK) (u:Value) (s':Shared):Prop :=
 ∃ v H',s'.os=s.os/\AllBare s'.gens/\Un (frs outer) [] H H' s.heap s'.heap/\HOk P w H' s'.heap/\RelV v u/\Q v H'
def CR (CX:CXT) (outer:List Env) (P:Program) (w:World) (H:Hp) (s:Shared) (Q:VK) (E:XK) (r:Result) (s':Shared):Prop :=
 match r with
 | .ok (.ret u)=>CE outer P w H s Q u s'
 | .ok _=>False
 | .error e=>CX outer H s E e s'
structure FnOk (P:Program) (w:World) (K:PySem.W.Frag) (mg:Str->Option Value) (base:Heap) (CX:CXT) (k:Nat) (f:Addr) (fd:FuncData) (ps:List Str) (sp:Sp):Prop where
 len:∀ vs H Q E,sp vs H Q E->vs.length=ps.length
 run:∀ (A:Around) (outer:List Env) (s:Shared) (H:Hp) (args:Args) (us:List Value) (vs:List V) (Q:VK) (E:XK),Room k A->Env0 P w K mg base A outer s H->BindsTo s fd args (ps.zip us)->Vals vs us->sp vs H Q E ->
  codeAny (model P w) A (.call (.ref f) args) (CR CX outer P w H s Q E) s
section
variable {X:Cx} {pins:List (Addr×Obj)} {σ:St} {H:Hp} {s s':Shared}
theorem Inv.env0 (I:Inv X pins σ H s):Env0 X.prog X.w X.K X.mg X.base X.A X.stack s H :=
 ⟨I.ok.frames,I.ok.mod,I.bs,Nat.le_trans I.ok.bsz I.sz,I.stack,I.stkFree,I.hok,I.bare⟩
theorem Inv.after {Q:VK} {u:Value} (I:Inv X pins σ H s) (h:CE X.stack X.prog X.w H s Q u s'):EP X pins σ Q u s':=by
 obtain ⟨v,H',os,bare,un,hok,r,q⟩:=h;obtain ⟨hh,g,d,t,os'⟩:=s';obtain rfl:os'=s.os:=os;exact ⟨v,H',I.call (h':=hh) (g':=g) (d':=d) (t':=t) (ch:=[]) un hok bare (fun b z=>absurd z (by simp)),r,q⟩
end
def tCall (sp:Sp) (dvs:List V) (E:XK) (t:TA):TE:=fun σ H Q=>t σ H fun vs H1=>sp (vs++dvs) H1 Q E
def Binds (K:PySem.W.Frag) (fd:FuncData) (ps:List Str) (ds:List Value):Prop :=
 ∀ (s:Shared) (us:List Value),K.In s.heap->(us++ds).length=ps.length->BindsTo s fd ⟨us,[]⟩ (ps.zip (us++ds))
theorem Binds.all {K:PySem.W.Frag} {fd:FuncData} {ps:List Str} (h:∀ us:List Value,us.length=ps.length->bindArgs fd ⟨us,[]⟩=pure (ps.zip us)):Binds K fd ps []:=fun s us _ hl=>by
 rw [List.append_nil] at hl ⊢;exact .of_eq (h us hl)
def Passes (CX:CXT) (X:Cx) (E:XK):Prop:=∀ (pins:List (Addr×Obj)) (σ:St) (H:Hp) (s:Shared) (e:Value) (s':Shared),Inv X pins σ H s->CX X.stack H s E e s'->X.xe e s'
section
variable {X:Cx} {CX:CXT} {k:Nat} {f C:Addr} {fd:FuncData} {ps:List Str} {sp:Sp} {dvs:List V} {ds:List Value} {E:XK} {x m:Str} {p pos apos:Pos} {e o:Expr} {es:List Expr} {ta:TE} {t:TA}
theorem run_fn {pins:List (Addr×Obj)} {σ:St} {H:Hp} {s:Shared} {Q:VK} {us:List Value} {vs:List V} (F:FnOk X.prog X.w X.K X.mg X.base CX k f fd ps sp) (hr:Room k X.A) (hb:Binds X.K fd ps ds) (hd:Vals dvs ds) (hx:Passes CX X E)
  (I:Inv X pins σ H s) (r:Vals vs us) (h:sp (vs++dvs) H Q E):wpAny (model X.prog X.w) X.A (call (.ref f) us) (EP X pins σ Q) X.xe s:=by
 have r2:Vals (vs++dvs) (us++ds):=r.append hd;have hl:(us++ds).length=ps.length:=by rw [<- r2.length];exact F.len _ _ _ _ h
 refine wpAny_call (codeAny_mono (F.run X.A X.stack s H ⟨us,[]⟩ (us++ds) (vs++dvs) Q E hr I.env0 (hb s us I.kIn hl) r2 h) fun r s' hq=>?_)
 cases r with
 | error e=>exact hx pins σ H s e s' I hq
 | ok fl =>
  cases fl with
  | ret u=>exact I.after hq
  | next=>exact False.elim hq
  | brk=>exact False.elim hq
  | cont=>exact False.elim hq
theorem pe_call (F:FnOk X.prog X.w X.K X.mg X.base CX k f fd ps sp) (hr:Room k X.A) (hg:Gl X x) (hm:X.mg x=some (.ref f)) (hk:PySem.W.keepIn X.K (.ref f)=true) (hb:Binds X.K fd ps ds) (hd:Vals dvs ds) (hx:Passes CX X E)
  (ha:PA X (e::es) t) (hdb:(x==("__debug__" : Str))=false:=by decide) (he:starEach (e::es) X.env=(false,eval e X.env)::starEach es X.env:=by rfl) (hpl:(backTo pos (starEach es X.env)).any (·.1)=false:=by rfl) :
  PE X (.Call (.Name x p) (e::es) [] pos) (tCall sp dvs E t):=by
 intro pins s σ H Q I h;refine wpAny_Call_Name_kw (ld_glob I hg hm ?_ hdb);refine PySem.W.callWith_K (h₀:=X.base) I.ok.mod.kin hk (thn (ha pos pins s σ H _ I h) fun us s1 ⟨vs,H1,I1,r,q⟩=>⟨I1.kIn,?_⟩) he hpl
 exact run_fn F hr hb hd hx I1 r q
end
def PK (X:Cx) (kws:List Keyword) (t:TA):Prop :=
 ∀ (pos:Pos) (pins:List (Addr×Obj)) (s:Shared) (σ:St) (H:Hp) (Q:List V->Hp->Prop),Inv X pins σ H s->t σ H Q->wpAny (model X.prog X.w) X.A (evalAll ((backToKw pos (keywordEach kws X.env)).map (·.2))) (AP X pins σ Q) X.xe s
section
variable {X:Cx} {CX:CXT} {k:Nat} {f C:Addr} {fd:FuncData} {ps ks:List Str} {sp:Sp} {E:XK} {x m:Str} {p pos apos kpos:Pos} {e o:Expr} {es:List Expr} {kws:List Keyword} {te ta:TE} {t tk:TA} {nm:Option Str}
theorem pk_nil:PK X [] tNil:=fun _ _ _ _ H Q I h=>wpAny_evalAll_nil ⟨[],H,I,.nil,h⟩
theorem pk_cons (ha:PE X e te) (hr:PK X kws t):PK X (⟨nm,e,kpos⟩::kws) (tCons te t):=by
 intro pos pins s σ H Q I h;show wpAny _ _ (evalAll ((do let v <- eval e X.env;standAt pos;pure v)::(backToKw pos (keywordEach kws X.env)).map (·.2))) _ _ s;refine wpAny_evalAll_cons (wpAny_bind (thn (ha pins s σ H _ I h) fun u s1 ⟨x,H1,I1,r1,q1⟩=>wpAny_bind (wpAny_standAt (wpAny_pure ?_))))
 exact thn (hr pos pins s1 σ H1 _ I1 q1) fun us s2 ⟨xs,H2,I2,r2,q2⟩=>⟨x::xs,H2,I2,.cons r1 r2,q2⟩
variable {g:List Value->List Value->List Value} {gV:List V->List V->List V}
end
structure FnScope (N P:List Str) (sc:Scope):Prop where
 kind:sc.kind=.function
 co:sc.isCoroutine=false
 gen:sc.isGenerator=false
 nd:N.Nodup
 pre:N.take P.length=P
 par:∀ x∈P,sc.names.lookup x=some .local\/sc.names.lookup x=some .cell
 nofree:∀ y∈sc.names,y.2≠.free
theorem bindL_out {kindOf:Str->Option NameKind} {x:Str}:∀ {binds:List (Str×Value)} {m:Str->Option Value},(∀ v,(x,v)∉binds)->bindL kindOf binds m x=m x
 | [],_,_=>rfl
 | (n,v)::r,m,h=>by
  unfold bindL;rw [bindL_out fun w hw=>h w (List.mem_cons_of_mem _ hw)]
  split
  ·have:x≠n:=by rintro rfl;exact h v List.mem_cons_self
   simp [this]
  ·rfl
theorem bindC_out {kindOf:Str->Option NameKind} {x:Str}:∀ {binds:List (Str×Value)} {m:Str->Option Value},(∀ v,(x,v)∉binds)->bindC kindOf binds m x=m x
 | [],_,_=>rfl
 | (n,v)::r,m,h=>by
  unfold bindC;rw [bindC_out fun w hw=>h w (List.mem_cons_of_mem _ hw)]
  split
  ·rfl
  ·have:x≠n:=by rintro rfl;exact h v List.mem_cons_self
   simp [this]
theorem bindL_get {kindOf:Str->Option NameKind} {x:Str} {v:Value}:∀ {P:List Str} {vs:List Value} {i:Nat} {m:Str->Option Value},P.Nodup->P[i]?=some x->vs[i]?=some v->kindOf x=some .local ->
  bindL kindOf (P.zip vs) m x=some v
 | [],_,_,_,_,h,_,_=>by simp at h
 | _::_,[],_,_,_,_,h,_=>by simp at h
 | p::P,w::vs,0,m,nd,h1,h2,hk=>by
  simp at h1 h2;subst h1;subst h2;show bindL kindOf ((p,w)::P.zip vs) m p=_;unfold bindL;rw [bindL_out fun v hv=>(List.nodup_cons.mp nd).1 (List.of_mem_zip hv).1,if_pos hk]
  simp
 | p::P,w::vs,i+1,m,nd,h1,h2,hk=>by
  show bindL kindOf ((p,w)::P.zip vs) m x=_;unfold bindL;exact bindL_get (i:=i) (List.nodup_cons.mp nd).2 (by simpa using h1) (by simpa using h2) hk
theorem bindC_get {kindOf:Str->Option NameKind} {x:Str} {v:Value}:∀ {P:List Str} {vs:List Value} {i:Nat} {m:Str->Option Value},P.Nodup->P[i]?=some x->vs[i]?=some v->kindOf x≠some .local ->
  bindC kindOf (P.zip vs) m x=some v
 | [],_,_,_,_,h,_,_=>by simp at h
 | _::_,[],_,_,_,_,h,_=>by simp at h
 | p::P,w::vs,0,m,nd,h1,h2,hk=>by
  simp at h1 h2;subst h1;subst h2;show bindC kindOf ((p,w)::P.zip vs) m p=_;unfold bindC;rw [bindC_out fun v hv=>(List.nodup_cons.mp nd).1 (List.of_mem_zip hv).1,if_neg hk]
  simp
 | p::P,w::vs,i+1,m,nd,h1,h2,hk=>by
  show bindC kindOf ((p,w)::P.zip vs) m x=_;unfold bindC;exact bindC_get (i:=i) (List.nodup_cons.mp nd).2 (by simpa using h1) (by simpa using h2) hk
def start (N:List Str) (vs:List V):St:=vs.map some++List.replicate (N.length-vs.length) none
def cxOf (CX:CXT) (P:Program) (w:World) (K:PySem.W.Frag) (mg:Str->Option Value) (base:Heap) (N:List Str) (qual:Str) (scope:Scope) (f:Addr) (cd:Value) (A:Around) (outer:List Env) (s:Shared) (H:Hp) (E:XK):Cx where
 prog:=P
 w:=w
 K:=K
 mg:=mg
 base:=base
 A:=A.deeper (envOfC qual scope s.heap.objs.size f cd)
 N:=N
 s₀:=s
 H₀:=H
 env:=envOfC qual scope s.heap.objs.size f cd
 outer:=outer
 stack:=envOfC qual scope s.heap.objs.size f cd::outer
 ex:=[]
 calm:=true
 fn:=fun _=>true
 pn:=[]
 xe:=fun e s'=>wpAny (model P w) (A.deeper (envOfC qual scope s.heap.objs.size f cd)) (leaving (envOfC qual scope s.heap.objs.size f cd) e) (fun _ s''=>CX outer H s E e s'') (fun e' s''=>CX outer H s E e' s'') s'
theorem cell_has {sc:Scope} {n:Nat} {x:Str} (h:sc.names.lookup x=some .cell):∃ c,(cellsFrom n sc.names []).lookup x=some c:=by
 have q:=PySem.W.cellsFrom_some sc.names n [] (.inl h);exact Option.isSome_iff_exists.mp q
theorem inv_start {CX:CXT} {P:Program} {w:World} {K:PySem.W.Frag} {mg:Str->Option Value} {base:Heap} {N ps:List Str} {qual:Str} {scope:Scope} {f:Addr} {cd:Value} {A:Around} {outer:List Env} {s s1:Shared} {H:Hp} {E:XK} {us:List Value} {vs:List V}
  (S:FnScope N ps scope) (hd:A.handled=none) (e0:Env0 P w K mg base A outer s H) (hl:vs.length=ps.length) (r:Vals vs us)
  (x:InCallC s s.heap.objs.size (bindL (envOfC qual scope s.heap.objs.size f cd).kindOf (ps.zip us) fun _=>none) (cellsFrom (s.heap.objs.size+1) scope.names []) (bindC (envOfC qual scope s.heap.objs.size f cd).kindOf (ps.zip us) fun _=>none) s1) :
  Inv (cxOf CX P w K mg base N qual scope f cd A outer s H E) [] (start N vs) H s1:=by
 have hpl:ps.length<=N.length:=by have:=congrArg List.length S.pre;rw [List.length_take] at this;lia
 obtain ⟨h1,tk,rfl,hk⟩:=x.done;have noA:∀ b:Addr,b∉(cxOf CX P w K mg base N qual scope f cd A outer s H E).ex:=fun b z=>absurd (show b∈([]:List Addr) from z) (by simp)
 refine ⟨⟨e0.mod,S.kind,rfl,rfl,Nat.le_refl _,fun y z c h1 h2=>?_,fun y hy=>?_,fun y c _ h=>?_,fun _=>hd,Around.frames_deeper e0.frames,.inr ⟨rfl,rfl⟩,fun b z=>absurd z (noA b),e0.bs,e0.bsz,fun b _ _=>noA b,fun b z=>absurd z (noA b),e0.funs,e0.frf⟩,
  rfl,e0.bare,Un.kept hk,⟨_,x.toInCall.ns,fun i y v h1 h2 h3=>?_⟩,fun y c h=>⟨_,x.cell y c h⟩,e0.hok.fresh (Nat.le_refl _),fun y c h=>?_,fun p hp=>absurd (show p∈([]:List (Addr×Obj)) from hp) (by simp),e0.hok.kept hk,?_⟩
 ·exact name_of_addr x.apart (PySem.mem_of_lookup h1) (PySem.mem_of_lookup h2)
 ·have hy:scope.names.lookup y=some .cell\/scope.names.lookup y=some .free:=hy
  rcases hy with hy | hy
  ·exact cell_has hy
  ·exact absurd rfl (S.nofree _ (PySem.mem_of_lookup hy))
 ·exact Nat.le_of_lt (x.above y c (PySem.mem_of_lookup h))
 ·have hi:i<vs.length:=by
   unfold start at h2
   by_cases hi:i<vs.length
   ·exact hi
   ·rw [List.getElem?_append_right (by simpa using hi)] at h2;rw [List.getElem?_replicate] at h2
    split at h2<;>cases h2
  have ha:vs[i]?=some v:=by
   unfold start at h2;rw [List.getElem?_append_left (by simpa using hi),List.getElem?_map] at h2;cases e:vs[i]? with
   | none=>rw [e] at h2;cases h2
   | some a=>rw [e] at h2;cases h2;rfl
  obtain ⟨u,hu,rv⟩:=r.get ha;have hp:ps[i]?=some y:=by
   rw [<- S.pre,List.getElem?_take_of_lt (by lia)];exact h1
  have ndP:ps.Nodup:=by rw [<- S.pre];exact S.nd.sublist (List.take_sublist _ _)
  refine ⟨u,rv,?_⟩
  rcases S.par y (List.mem_of_getElem? hp) with k | k
  ·exact .inl ⟨k,bindL_get ndP hp hu k⟩
  ·obtain ⟨c,e⟩:=cell_has (n:=s.heap.objs.size+1) k;refine .inr ⟨.inl k,c,e,?_⟩;have q:=x.cell y c e;rw [bindC_get ndP hp hu (by show scope.names.lookup y≠_;rw [k];decide)] at q;exact q
 ·exact e0.hok.fresh (Nat.le_of_lt (x.above y c (PySem.mem_of_lookup h)))
 ·unfold start;show _=N.length;rw [List.length_append,List.length_map,List.length_replicate]
  lia
theorem fn_of {CX:CXT} {P:Program} {w:World} {K:PySem.W.Frag} {mg:Str->Option Value} {base:Heap} {k:Nat} {f:Addr} {name qual:Str} {params:Arguments} {body:List Stmt} {scope:Scope} {dV kV doc pm cdv ct oc:Value} {an od:Option Addr}
  {osl:Array (Option Value)} {N ps:List Str} {sp:Sp} (lk:K.lookup f=some ⟨oc,od,.func (PySem.W.fnOf name qual params body scope dV kV doc pm an cdv ct),osl⟩) (hcd:PySem.W.codeIn K cdv qual=true) (S:FnScope N ps scope)
  (len:∀ vs H Q E,sp vs H Q E->vs.length=ps.length)
  (hbody:∀ (A:Around) (outer:List Env) (s:Shared) (H:Hp) (vs:List V) (Q:VK) (E:XK),Room k (A.deeper (envOfC qual scope s.heap.objs.size f cdv))->sp vs H Q E ->
   ∃ t,PSs (cxOf CX P w K mg base N qual scope f cdv A outer s H E) body t/\t {nx:=fun _ H'=>Q .non H',rt:=Q} (start N vs) H) :
  FnOk P w K mg base CX (k+1) f (PySem.W.fnOf name qual params body scope dV kV doc pm an cdv ct) ps sp:=by
 refine ⟨len,fun A outer s H args us vs Q E hr e0 hb r hsp=>?_⟩
 have hl:=len _ _ _ _ hsp;have KX:K.In s.heap:=e0.mod.kin.keeps fun b o e=>(e0.bs b o e).1
 have lim:s.heap.NoLimit:=e0.mod.nolimit.keeps fun b o e=>(e0.bs b o e).1
 have hkind:∀ y∈ps.zip us,scope.names.lookup y.1=some .local\/(scope.names.lookup y.1=some .cell/\((cellsFrom (s.heap.objs.size+1) scope.names []).lookup y.1).isSome=true):=fun ⟨n,v⟩ hy=>by
  rcases S.par n (List.of_mem_zip hy).1 with q | q
  ·exact .inl q
  ·exact .inr ⟨q,PySem.W.cellsFrom_some _ _ _ (.inl q)⟩
 refine codeAny_call_function hr.depth (KX _ _ lk) rfl S.co S.gen rfl (PySem.W.codeRec_of KX hcd) (hb _ _ _ _ ?_);refine wpAny_newFunctionEnv_cells S.kind hkind fun env he s1 x=>?_
 subst he;refine ⟨lim.keeps x.toInCall.keep,codeAny_func ?_⟩;obtain ⟨t,ht,hq⟩:=hbody A outer s H vs Q E (hr.deeper _) hsp;have I:Inv (cxOf CX P w K mg base N qual scope f cdv A outer s H E) [] (start N vs) H s1:=inv_start S hr.hd e0 hl r x;refine wpAny_mono (ht [] s1 (start N vs) H _ I hq) (fun fl s' hs=>?_) fun e s' hs=>hs
 have fin:∀ {σ':St} {H':Hp} {v:V} {u:Value},Inv (cxOf CX P w K mg base N qual scope f cdv A outer s H E) [] σ' H' s'->RelV v u->Q v H'->CE outer P w H s Q u s' :=
  fun {σ' H' v u} J rv q=>⟨v,H',J.os,J.bare,J.base,J.hok,rv,q⟩
 cases fl with
 | ret u =>
  obtain ⟨v,σ',H',J,rv,q⟩:=hs;exact fin J rv q
 | next =>
  obtain ⟨σ',H',J,q⟩:=hs;exact fin (v:=V.non) (u:=Value.none) J rfl q
 | brk =>
  obtain ⟨_,_,_,q⟩:=hs;exact False.elim q
 | cont =>
  obtain ⟨_,_,_,q⟩:=hs;exact False.elim q
end L2
namespace L2
open PySem PySem.Spec PyProof.Rows
section
variable {X:Cx} {x:Str} {p pos:Pos} {e:Expr} {es:List Expr} {t:TA} {id T:String} {r:List V->Hp->VK->Prop}
def tCB (r:List V->Hp->VK->Prop) (t:TA):TE:=fun σ H Q=>t σ H fun vs H1=>r vs H1 Q
theorem pe_callB (hc:CallR X (.builtin id) r) (hg:Gl X x) (hm:X.mg x=none) (hv:bootBuiltins x=some (.builtin id)) (ha:PA X (e::es) t) (hn:x ≠ "__name__" := by decide) (hdb:(x==("__debug__" : Str))=false:=by decide)
  (he:starEach (e::es) X.env=(false,eval e X.env)::starEach es X.env:=by rfl) (hpl:(backTo pos (starEach es X.env)).any (·.1)=false:=by rfl):PE X (.Call (.Name x p) (e::es) [] pos) (tCB r t):=by
 intro pins s σ H Q I h;refine wpAny_Call_Name_kw (ld_blt I hg hm hv ?_ hn hdb);exact PyProof.Rows.callWith_builtin1 (thn (ha pos pins s σ H _ I h) fun us s1 ⟨vs,H1,I1,r1,q1⟩=>hc pins s1 σ H1 vs us Q I1 r1 q1) he hpl
theorem pe_callTy (hc:CallR X (.type T) r) (hg:Gl X x) (hm:X.mg x=none) (hv:bootBuiltins x=some (.type T)) (ha:PA X (e::es) t) (hn:x ≠ "__name__" := by decide) (hdb:(x==("__debug__" : Str))=false:=by decide)
  (he:starEach (e::es) X.env=(false,eval e X.env)::starEach es X.env:=by rfl) (hpl:(backTo pos (starEach es X.env)).any (·.1)=false:=by rfl):PE X (.Call (.Name x p) (e::es) [] pos) (tCB r t):=by
 intro pins s σ H Q I h;refine wpAny_Call_Name_kw (ld_blt I hg hm hv ?_ hn hdb);exact PyProof.Rows.callWith_type1 (thn (ha pos pins s σ H _ I h) fun us s1 ⟨vs,H1,I1,r1,q1⟩=>hc pins s1 σ H1 vs us Q I1 r1 q1) he hpl
end
end L2
namespace HT
open PySem PyProof.Rows
section
open PySem.SeqAt
open PySem.AutoSeq1 (wpAny_loadPart')
open PySem.MeetsSeq PySem.MeetsSeq2 PySem.MeetsSeq3
end
section
variable {prog:Program} {w:World} {A:Around} {E:Value->Shared->Prop} {s:Shared}
theorem cat_tup {t b:Addr} {vs ws:List Value} {Q:Value->Shared->Prop} (ht:IsTup s.heap t vs.toArray) (hb:IsTup s.heap b ws.toArray) (hv:vs≠[])
  (h1:ws=[]->Q (.ref t) s) (h2:ws≠[]->Q (.ref s.heap.objs.size) {s with heap:=s.heap.push {cls:=.type "tuple",data:=.seq (vs++ws).toArray}})
  (hsz:vs.length+ws.length<=sizeLine):wpAny (model prog w) A (binaryOp .Add (.ref t) (.ref b)) Q E s:=by
 obtain ⟨⟨cls,dd,data,sl⟩,ho,hc,n,hd⟩:=id ht;obtain ⟨⟨cls2,dd2,data2,sl2⟩,ho2,hc2,n2,hd2⟩:=id hb;simp only at hc hd hc2 hd2;subst hc hd hc2 hd2;have e:vs.toArray++ws.toArray=(vs++ws).toArray:=by simp
 by_cases hw:ws=[]
 ·exact concat_meets ⟨_,ho,rfl⟩ ⟨_,ho2,rfl⟩ noFill_tuple_add seq_tuple_add PySem.F.slot_tuple_add PySem.F.entry_tuple_add (PySem.F.args_tuple_add_2 _ _)
   (tuple_addW1 t b vs.toArray ws.toArray n n2 dd dd2 sl sl2 (by simpa using hv) (by simp [hw])) ⟨ho,ho2,h1 hw⟩
 ·refine concat_meets ⟨_,ho,rfl⟩ ⟨_,ho2,rfl⟩ noFill_tuple_add seq_tuple_add PySem.F.slot_tuple_add PySem.F.entry_tuple_add (PySem.F.args_tuple_add_2 _ _)
   (tuple_addW2 t b vs.toArray ws.toArray n n2 dd dd2 sl sl2 (by simpa using hv) (by simpa using hw) (by rw [List.size_toArray,List.size_toArray];exact hsz)) ⟨ho,ho2,?_⟩
  rw [e];exact h2 hw
def sIx (n d:Nat):Option Int->Nat
 | none=>d
 | some v=>if v<0 then (v+(n:Int)).toNat else min v.toNat n
theorem sIx_none (n d:Nat):sIx n d none=d:=rfl
theorem sIx_nat (n d k:Nat):sIx n d (some (k:Int))=min k n:=by
 show (if (k:Int)<0 then ((k:Int)+(n:Int)).toNat else min (k:Int).toNat n)=min k n
 rw [if_neg (by lia),Int.toNat_natCast]
theorem sIx_le (n d:Nat) (hd:d<=n) (o:Option Int):sIx n d o<=n:=by
 cases o with
 | none=>exact hd
 | some v =>
  show (if v<0 then (v+(n:Int)).toNat else min v.toNat n)<=n
  by_cases hv:v<0
  ·rw [if_pos hv];lia
  ·rw [if_neg hv];exact Nat.min_le_right _ _
theorem clip_eq (v:Int) (n d:Nat):(if v<0 then max (v+(n:Int)) 0 else min v (n:Int))=((sIx n d (some v):Nat):Int):=by
 show (if v<0 then max (v+(n:Int)) 0 else min v (n:Int))=(((if v<0 then (v+(n:Int)).toNat else min v.toNat n):Nat):Int)
 by_cases hv:v<0
 ·simp only [if_pos hv];lia
 ·simp only [if_neg hv];lia
theorem adjust_gen (lo hi:Option Int) (n:Nat):Builtin.Slice.sliceAdjust lo hi 1 (n:Int)=(((sIx n 0 lo:Nat):Int),((sIx n n hi:Nat):Int)):=by
 have h1:¬ ((1:Int)<0):=by lia
 unfold Builtin.Slice.sliceAdjust;simp only [h1,if_false];refine Prod.ext ?_ ?_
 ·cases lo with
  | none=>rfl
  | some v=>exact clip_eq v n 0
 ·cases hi with
  | none=>rfl
  | some v=>exact clip_eq v n n
theorem places_gen (i j:Nat):Builtin.Slice.slicePlaces (i:Int) (j:Int) 1=j-i:=by
 unfold Builtin.Slice.slicePlaces;have h1:(1:Int)>0:=by lia
 simp only [h1,if_true,Int.ediv_one]
 split<;>lia
theorem slicePart_ {v:Value} {o:Option Int} {Q:Option Int->Shared->Prop} (p:IsPart v o) (h:Q o s):wpAny (model prog w) A (Builtin.Slice.slicePartIndex v) Q E s:=by
 cases p with
 | none=>exact slicePart_none h
 | int i t=>exact slicePart_int h
theorem sliceApplied_gen {sl:Addr} {vl vu:Value} {lo hi:Option Int} {n:Nat} {Q:Int×Int×Nat->Shared->Prop} (hs:s.heap.IsSliceOf sl vl vu .none) (pl:IsPart vl lo) (pu:IsPart vu hi)
  (h:Q (((sIx n 0 lo:Nat):Int),1,sIx n n hi-sIx n 0 lo) s):wpAny (model prog w) A (Builtin.Slice.sliceApplied (.ref sl) (pure (n:Int))) Q E s:=by
 obtain ⟨os,hos,hcs,hds⟩:=id hs;unfold Builtin.Slice.sliceApplied Builtin.Slice.sliceFields;refine wpAny_bind (wpAny_bind (wpAny_field hos hds (x:=vl) rfl (wpAny_bind (wpAny_field hos hds (x:=vu) rfl (wpAny_bind (wpAny_field hos hds (x:=.none) rfl (wpAny_pure ?_)))))));refine wpAny_bind (slicePart_none ?_);show wpAny _ _ (if ((1:Int)==0)=true then _ else _) _ _ s
 rw [if_neg (by decide)];refine wpAny_bind (slicePart_ pl (wpAny_bind (slicePart_ pu (wpAny_bind (wpAny_pure ?_)))));show wpAny _ _ (match Builtin.Slice.sliceAdjust lo hi 1 (n:Int) with | (lo,hi)=>pure (lo,(1:Int),Builtin.Slice.slicePlaces lo hi 1)) _ _ s
 rw [adjust_gen lo hi n];show wpAny _ _ (pure (((sIx n 0 lo:Nat):Int),(1:Int),Builtin.Slice.slicePlaces ((sIx n 0 lo:Nat):Int) ((sIx n n hi:Nat):Int) 1)) _ _ s;rw [places_gen];exact wpAny_pure h
theorem pick_gen (xs:Array Value) (i k:Nat):((List.range k).filterMap fun (m:Nat)=>xs[((i:Int)+(m:Int)*1).toNat]?).toArray=((xs.toList.drop i).take k).toArray:=by
 have e:(fun (m:Nat)=>xs[((i:Int)+(m:Int)*1).toNat]?)=fun m=>xs[i+m]?:=by
  funext m;have:((i:Int)+(m:Int)*1).toNat=i+m:=by lia
  rw [this]
 rw [e];have:=pick_run xs i k;rw [List.filterMap_map] at this;have e2:((fun x=>xs[x]?) ∘ fun x=>i+x)=fun m=>xs[i+m]?:=rfl
 rw [e2] at this;rw [this]
theorem getItem_tuple_cut {t sl:Addr} {items:Array Value} {vl vu:Value} {lo hi:Option Int} {Q:Value->Shared->Prop} (ht:IsTup s.heap t items) (hs:s.heap.IsSliceOf sl vl vu .none) (pl:IsPart vl lo) (pu:IsPart vu hi)
  (hw:¬ (sIx items.size 0 lo=0/\sIx items.size items.size hi=items.size))
  (h:Q (.ref s.heap.objs.size) {s with heap:=s.heap.push {cls:=.type "tuple",data:=.seq ((items.toList.drop (sIx items.size 0 lo)).take (sIx items.size items.size hi-sIx items.size 0 lo)).toArray}})
  (hsz:items.size<=sizeLine):wpAny (model prog w) A (getItem (.ref t) (.ref sl)) Q E s:=by
 have htake:sizeOk (.seq ((items.toList.drop (sIx items.size 0 lo)).take (sIx items.size items.size hi-sIx items.size 0 lo)).toArray):=by
  show ((items.toList.drop (sIx items.size 0 lo)).take (sIx items.size items.size hi-sIx items.size 0 lo)).toArray.size<=sizeLine;rw [List.size_toArray,List.length_take,List.length_drop,Array.length_toList]
  lia
 have hj:sIx items.size items.size hi<=items.size:=sIx_le _ _ (Nat.le_refl _) hi;obtain ⟨os,hos,hcs,hds⟩:=id hs;have hTs:s.TypeIs (.ref sl) "slice" := ⟨os,hos,hcs⟩;unfold getItem
 try with_reducible refine wpAny_holding ?_
 first | refine wpAny_bind (wpAny_pure ?_) | skip
 refine wpAny_bind (wpAny_sequenceKey ht.typeIs (by decide) ?_);refine wpAny_bind (wpAny_callSpecial?_slot (name:=Str.ofString "__getitem__") ht.typeIs PyProof.Rows.slot_tuple_getitem
  (wpAny_call_entry PyProof.Rows.slot_tuple_getitem ht.typeIs entry_tuple_getitem ?_ (args_tuple_getitem _ _)))
 show wpAny _ _ (Builtin.Tuple.tupleItemsOf (.ref t)>>=_) _ _ s;refine wpAny_bind (tupleItemsOf_ ht ?_);refine wpAny_bind (wpAny_typeOf hTs ?_);rw [if_pos (by decide)];refine wpAny_bind (sliceApplied_gen hs pl pu ?_);have hno:¬ ((((sIx items.size 0 lo:Nat):Int)==0&&(1:Int)==1&&(sIx items.size items.size hi-sIx items.size 0 lo)==items.size)=true):=by
  intro q;rw [Bool.and_eq_true,Bool.and_eq_true] at q;have q1:((sIx items.size 0 lo:Nat):Int)=0:=eq_of_beq q.1.1;have q2:sIx items.size items.size hi-sIx items.size 0 lo=items.size:=eq_of_beq q.2;exact hw ⟨by lia,by lia⟩
 show wpAny _ _ (if (((sIx items.size 0 lo:Nat):Int)==0&&(1:Int)==1&&(sIx items.size items.size hi-sIx items.size 0 lo)==items.size)=true then _ else _) _ _ s
 rw [if_neg hno,pick_gen]
 first
  | exact wpAny_bind (m:=Builtin.Tuple.tupleExact _) (wpAny_newObj_type (wpAny_pure ⟨_,rfl,wpAny_pure h⟩) htake)
  | exact wpAny_bind (m:=Builtin.Tuple.tupleExact _) (wpAny_newObj_type (wpAny_bind (wpAny_pure (wpAny_pure ⟨_,rfl,wpAny_pure h⟩))) htake)
  | exact wpAny_bind (wpAny_bind (m:=Builtin.Tuple.tupleExact _) (wpAny_newObj_type (wpAny_pure (wpAny_pure ⟨_,rfl,wpAny_pure h⟩)) htake))
  | exact wpAny_bind (wpAny_bind (m:=Builtin.Tuple.tupleExact _) (wpAny_newObj_type (wpAny_pure ⟨_,rfl,wpAny_pure h⟩) htake))
end
end HT
namespace L2
open PySem PySem.Spec PyProof.Rows
abbrev TO:=St->Hp->(Option Int->Hp->Prop)->Prop
def PO (X:Cx) (e:Option Expr) (t:TO):Prop :=
 ∀ (pins:List (Addr×Obj)) (s:Shared) (σ:St) (H:Hp) (Q:Option Int->Hp->Prop),Inv X pins σ H s->t σ H Q ->
  wpAny (model X.prog X.w) X.A (evalPart e X.env) (fun u s'=>∃ o H',Inv X pins σ H' s'/\IsPart u o/\Q o H') X.xe s
def tNoPart:TO:=fun _ H Q=>Q none H
def tPart (t:TE):TO:=fun σ H Q=>t σ H fun x H1=>∃ i,x=.int i/\Q (some i) H1
section
variable {X:Cx} {e:Expr} {te:TE} {lo hi:Option Expr} {tl th:TO} {pos p2:Pos}
theorem po_none:PO X none tNoPart:=by
 intro pins s σ H Q I h;rw [evalPart_none];exact wpAny_pure ⟨none,H,I,.none,h⟩
theorem po_some (h:PE X e te):PO X (some e) (tPart te):=by
 intro pins s σ H Q I hw;rw [evalPart_some];refine thn (h pins s σ H _ I hw) fun u s1 ⟨x,H1,I1,r1,q1⟩=>?_
 obtain ⟨i,rfl,q⟩:=q1;obtain ⟨t,rfl⟩:=r1;exact ⟨some i,H1,I1,.int i t,q⟩
def SlR (X:Cx) (r:V->Option Int->Option Int->Hp->VK->Prop):Prop :=
 ∀ (pins:List (Addr×Obj)) (s:Shared) (σ:St) (H:Hp) (x:V) (v vl vu:Value) (lo hi:Option Int) (sl:Addr) (Q:VK),Inv X pins σ H s->RelV x v->s.heap.IsSliceOf sl vl vu .none->IsPart vl lo->IsPart vu hi->r x lo hi H Q ->
  ∃ T id,typeLookup (.type T) "__getitem__" = pure (some (.builtin id))/\s.TypeIs v T/\wpAny (model X.prog X.w) X.A (getItem v (.ref sl)) (EP X pins σ Q) X.xe s
def tSl (r:V->Option Int->Option Int->Hp->VK->Prop) (te:TE) (tl th:TO):TE:=fun σ H Q=>te σ H fun x H1=>tl σ H1 fun l H2=>th σ H2 fun u H3=>r x l u H3 Q
theorem pe_slice {r:V->Option Int->Option Int->Hp->VK->Prop} (hr:SlR X r) (he:PE X e te) (hl:PO X lo tl) (hu:PO X hi th):PE X (.Subscript e (.Slice lo hi none p2) pos) (tSl r te tl th):=by
 intro pins s σ H Q I h;refine Subscript_ (thn (he pins s σ H _ I h) fun v s1 ⟨x,H1,I1,r1,q1⟩=>?_)
 refine wpAny_Slice (thn (hl pins s1 σ H1 _ I1 q1) fun vl s2 ⟨l,H2,I2,pl,q2⟩=>thn (hu pins s2 σ H2 _ I2 q2) fun vu s3 ⟨u,H3,I3,pu,q3⟩=>?_)
 rw [evalPart_none];refine wpAny_pure ?_;have I4:Inv X pins σ H3 {s3 with heap:=s3.heap.push {cls:=.type "slice",data:=.fields #[vl,vu,.none]}}:=I3.kept (t':=s3.toks) fun b ob q=>Heap.get?_push_of_some _ q
 obtain ⟨T,id,hT,ht,hg⟩:=hr pins {s3 with heap:=s3.heap.push {cls:=.type "slice",data:=.fields #[vl,vu,.none]}} σ H3 x v vl vu l u s3.heap.objs.size Q I4 r1 (Heap.IsSliceOf.new ..) pl pu q3
 show wpAny (model X.prog X.w) X.A (subscriptTail e (.Slice lo hi none p2) v (.ref s3.heap.objs.size)) (EP X pins σ Q) X.xe {s3 with heap:=s3.heap.push {cls:=.type "slice",data:=.fields #[vl,vu,.none]}}
 exact tail_any (ops:=[.ref s3.heap.objs.size,v]) ht hT hg (by with_unfolding_all rfl)
def cutV (xs:List V) (lo hi:Option Int):List V:=(xs.drop (HT.sIx xs.length 0 lo)).take (HT.sIx xs.length xs.length hi-HT.sIx xs.length 0 lo)
theorem cutV_length (xs:List V) (lo hi:Option Int):(cutV xs lo hi).length<=xs.length:=by
 unfold cutV;rw [List.length_take,List.length_drop]
 lia
def rSlT (K:PySem.W.Frag):V->Option Int->Option Int->Hp->VK->Prop:=fun x lo hi H Q=>∃ a xs,x=.ref a/\SqT K H a xs /\
 ¬ (HT.sIx xs.length 0 lo=0/\HT.sIx xs.length xs.length hi=xs.length)/\∀ p,H p=none->Q (.ref p) (upd H p (.tup (cutV xs lo hi)))
theorem sl_tup:SlR X (rSlT X.K):=by
 intro pins s σ H x v vl vu lo hi sl Q I rx hs pl pu h;obtain ⟨a,xs,rfl,hx,hw,q⟩:=h;cases rx;obtain ⟨its,r,ht,hz⟩:=I.tuple hx;have hlen:its.toArray.size=xs.length:=by rw [List.size_toArray];exact r.length.symm
 refine ⟨"tuple",_,PyProof.Rows.slot_tuple_getitem.lookup,ht.typeIs,?_⟩;refine HT.getItem_tuple_cut ht hs pl pu (by rw [hlen];exact hw) ?_ (by rw [hlen];exact hz);rw [hlen];refine ⟨.ref s.heap.objs.size,_,I.laid (t':=s.toks) (o:=.tup (cutV xs lo hi)) (fun b ob q=>Heap.get?_push_of_some _ q) (Nat.le_refl _) ?_,rfl,q _ (I.hok.fresh (Nat.le_refl _))⟩;exact ⟨Nat.le_trans (cutV_length xs lo hi) hz,_,(r.drop (HT.sIx xs.length 0 lo)).take (HT.sIx xs.length xs.length hi-HT.sIx xs.length 0 lo),IsTupD.new _ _⟩
def rCatT (K:PySem.W.Frag):R2:=fun x y H Q=>∃ a b xs ys,x=.ref a/\y=.ref b/\SqT K H a xs/\SqT K H b ys/\xs≠[]/\xs.length+ys.length<=sizeLine /\
 (ys=[]->Q (.ref a) H)/\(ys≠[]->∀ p,H p=none->Q (.ref p) (upd H p (.tup (xs++ys))))
theorem Vals.nil_iff {xs:List V} {us:List Value} (r:Vals xs us):us=[]↔xs=[]:=by
 cases r with
 | nil=>simp
 | cons _ _=>simp
theorem op_catT:OpR X (binaryOp .Add) (rCatT X.K):=by
 intro pins s σ H x y v u Q I rx ry h;obtain ⟨a,b,xs,ys,rfl,rfl,ha,hb,hx,hz,q1,q2⟩:=h;cases rx;cases ry;obtain ⟨its,r1,p1,_⟩:=I.tuple ha;obtain ⟨its2,r2,p2,_⟩:=I.tuple hb;refine HT.cat_tup p1 p2 (fun z=>hx (r1.nil_iff.mp z)) (fun z=>⟨.ref a,H,I,rfl,q1 (r2.nil_iff.mp z)⟩) (fun z=>?_) (by rw [<- r1.length,<- r2.length];exact hz)
 refine ⟨.ref s.heap.objs.size,_,I.laid (t':=s.toks) (o:=.tup (xs++ys)) (fun b ob q=>Heap.get?_push_of_some _ q) (Nat.le_refl _) ?_,rfl,q2 (fun w=>z (r2.nil_iff.mpr w)) _ (I.hok.fresh (Nat.le_refl _))⟩
 exact ⟨by rw [List.length_append];exact hz,_,r1.append r2,IsTupD.new _ _⟩
end
end L2
namespace L2
open PySem PySem.Spec PyProof.Rows
def ixN (n:Nat) (i:Int):Option Nat:=if 0<=i then (if i<n then some i.toNat else none) else if -(n:Int)<=i then some (i+n).toNat else none
def atI {α:Type} (xs:List α) (i:Int):Option α:=(ixN xs.length i).bind fun j=>xs[j]?
theorem ixN_seq {n:Nat} {i:Int} {j:Nat} (h:ixN n i=some j):seqIndex? i n=some j/\j<n /\ -(n:Int)<=i/\i<n:=by
 unfold ixN at h
 by_cases h0:0<=i
 ·rw [if_pos h0] at h
  by_cases h1:i<n
  ·rw [if_pos h1] at h;have e:i.toNat=j:=Option.some.inj h;exact ⟨by rw [seqIndex_of h0 h1,e],by lia,by lia,h1⟩
  ·rw [if_neg h1] at h;cases h
 ·rw [if_neg h0] at h
  by_cases h1 : -(n:Int)<=i
  ·rw [if_pos h1] at h;have e:(i+n).toNat=j:=Option.some.inj h;exact ⟨by rw [seqIndex_neg (by lia) h1,e],by lia,h1,by lia⟩
  ·rw [if_neg h1] at h;cases h
theorem atI_get {α:Type} {xs:List α} {i:Int} {v:α} (h:atI xs i=some v):∃ j,seqIndex? i xs.length=some j/\xs[j]?=some v/\j<xs.length /\ -(xs.length:Int)<=i/\i<xs.length:=by
 unfold atI at h;cases e:ixN xs.length i with
 | none=>rw [e] at h;cases h
 | some j =>
  rw [e] at h;obtain ⟨h1,h2,h3,h4⟩:=ixN_seq e;exact ⟨j,h1,h,h2,h3,h4⟩
def PlainIx (b:Expr):Prop:=∀ o i,subscripted b false o i=operate [o,i] (getItem o i)
def IxR (X:Cx) (r:R2):Prop :=
 ∀ (value slice:Expr) (pins:List (Addr×Obj)) (s:Shared) (σ:St) (H:Hp) (x y:V) (v u:Value) (Q:VK),Inv X pins σ H s->RelV x v->RelV y u->r x y H Q ->
  subscripted slice false v u=operate [v,u] (getItem v u)->wpAny (model X.prog X.w) X.A (subscriptTail value slice v u) (EP X pins σ Q) X.xe s
def MtR (X:Cx) (id:String) (r:V->List V->Hp->VK->Prop):Prop :=
 ∀ (pins:List (Addr×Obj)) (s:Shared) (σ:St) (H:Hp) (x:V) (xs:List V) (v:Value) (us:List Value) (Q:VK),Inv X pins σ H s->RelV x v->Vals xs us->r x xs H Q ->
  wpAny (model X.prog X.w) X.A (call (.builtin id) (v::us)) (EP X pins σ Q) X.xe s
section
variable {X:Cx} {a b:Expr} {ta tb:TE} {pos:Pos}
theorem pe_ix {r:R2} (hr:IxR X r) (ha:PE X a ta) (hb:PE X b tb) (hs:PlainIx b):PE X (.Subscript a b pos) (tOp r ta tb):=by
 intro pins s σ H Q I h;exact Subscript_ (binT ha hb I h fun v u s2 x y H2 I2 rx ry q=>hr a b pins s2 σ H2 x y v u Q I2 rx ry q (hs _ _))
def rIxL (K:PySem.W.Frag):R2:=fun x y H Q=>∃ p xs i v,x=.ref p/\y=.int i/\SqL K H p xs/\atI xs i=some v/\Q v H
def rIxT (K:PySem.W.Frag):R2:=fun x y H Q=>∃ p xs i v,x=.ref p/\y=.int i/\SqT K H p xs/\atI xs i=some v/\Q v H
theorem ix_list:IxR X (rIxL X.K):=by
 intro value slice pins s σ H x y v u Q I rx ry h hs;obtain ⟨p,xs,i,z,rfl,rfl,hq,he,q⟩:=h;cases rx;obtain ⟨t,rfl⟩:=ry;obtain ⟨its,r,pl,hz⟩:=I.list hq;obtain ⟨j,h1,h2,h3,h4,h5⟩:=atI_get he;obtain ⟨w,ew,rw'⟩:=r.get h2;have hl:=r.length;have hn:=line63;have fin:EP X pins σ Q w s:=⟨z,H,I,rw',q⟩
 by_cases h0:0<=i
 ·have hj:i.toNat=j:=by
   rw [seqIndex_of h0 h5] at h1;exact Option.some.inj h1
  exact item_listR pl.isList h0 (by lia) (by rw [hj];simpa using ew) fin hs
 ·have hj:(i+(its.toArray.size:Int)).toNat=j:=by
   rw [seqIndex_neg (by lia) h4] at h1;rw [List.size_toArray,<- hl];exact Option.some.inj h1
  exact subscriptTail_builtinR (x:=w) pl.isList.typeIs slot_list_getitem.lookup
   (wpAny_getItem_list_neg (Q:=fun r s'=>r=w/\EP X pins σ Q r s') pl.isList (by lia) (by rw [List.size_toArray]<;>lia) (by lia) (by rw [hj];simpa using ew) ⟨rfl,fin⟩) hs
theorem ix_tup:IxR X (rIxT X.K):=by
 intro value slice pins s σ H x y v u Q I rx ry h hs;obtain ⟨p,xs,i,z,rfl,rfl,hq,he,q⟩:=h;cases rx;obtain ⟨t,rfl⟩:=ry;obtain ⟨its,r,pl,hz⟩:=I.tuple hq;obtain ⟨j,h1,h2,h3,h4,h5⟩:=atI_get he;obtain ⟨w,ew,rw'⟩:=r.get h2;have hl:=r.length;have hn:=line63;have fin:EP X pins σ Q w s:=⟨z,H,I,rw',q⟩;exact subscriptTail_builtinR (x:=w) pl.typeIs slot_tuple_getitem.lookup
  (getItem_tuple (j:=j) (Q:=fun r s'=>r=w/\EP X pins σ Q r s') pl (by lia) (by lia) (by rw [List.size_toArray,<- hl];exact h1) (by simpa using ew) ⟨rfl,fin⟩) hs
theorem mapSeq_set (its:List Value) (n j:Nat) (u:Value):Obj.mapSeq (·.setIfInBounds j u) {cls:=.type "list",data:=.seq its.toArray n}={cls:=.type "list",data:=.seq (its.set j u).toArray n}:=by
 simp [Obj.mapSeq]
theorem Inv.lst {pins:List (Addr×Obj)} {σ:St} {H:Hp} {s:Shared} {p:Addr} {xs:List V} (I:Inv X pins σ H s) (h:H p=some (.lst xs)) :
  ∃ (its:List Value) (n:Nat),Vals xs its/\s.heap.get? p=some {cls:=.type "list",data:=.seq its.toArray n}/\xs.length<=sizeLine:=by
 obtain ⟨z,its,n,r,e⟩:=I.hok p _ h;exact ⟨its,n,r,e,z⟩
theorem Inv.lstUpd {pins:List (Addr×Obj)} {σ:St} {H:Hp} {s:Shared} {p:Addr} {xs ys:List V} {its its':List Value} {n n':Nat} {f:Obj->Obj} (I:Inv X pins σ H s) (h:H p=some (.lst xs))
  (ho:s.heap.get? p=some {cls:=.type "list",data:=.seq its.toArray n}) (hf:f {cls:=.type "list",data:=.seq its.toArray n}={cls:=.type "list",data:=.seq its'.toArray n'}) (r:Vals ys its') (hz:ys.length<=sizeLine) (t:Nat) :
  Inv X pins σ (upd H p (.lst ys)) {s with heap:=s.heap.update p f,toks:=t}:=by
 have e:(s.heap.update p f).get? p=some {cls:=.type "list",data:=.seq its'.toArray n'}:=by
  rw [Heap.get?_update_self f ho (by rw [hf]<;>rfl),hf]
 refine I.write (x:=p) (e:=p) (by rw [h];trivial) (.inl rfl) (fun b u hb q=>(Heap.get?_update_other _ _ (Ne.symm hb)).trans q) ⟨_,e⟩ ?_
 exact ⟨hz,its',n',r,e⟩
def rSetL:V->V->V->Hp->(Hp->Prop)->Prop:=fun o i v H Q=>∃ p xs k j,o=.ref p/\i=.int k/\H p=some (.lst xs)/\ixN xs.length k=some j/\Q (upd H p (.lst (xs.set j v)))
theorem set_list:PSet X rSetL:=by
 intro pins s σ H o i v ov iv u Q I ro ri rv h;obtain ⟨p,xs,k,j,rfl,rfl,hp,hj,q⟩:=h;cases ro;obtain ⟨t,rfl⟩:=ri;obtain ⟨its,n,r,ho,hz⟩:=I.lst hp;obtain ⟨h1,h2,h3,h4⟩:=ixN_seq hj;have hl:=r.length;have hn:=line63;have I':Inv X pins σ (upd H p (.lst (xs.set j v))) {s with heap:=s.heap.update p (Obj.mapSeq (·.setIfInBounds j u))} :=
  I.lstUpd hp ho (mapSeq_set its n j u) (r.set rv j) (by rw [List.length_set];exact hz) s.toks
 by_cases h0:0<=k
 ·have hk:k.toNat=j:=by
   rw [seqIndex_of h0 h4] at h1;exact Option.some.inj h1
  exact PySem.W.ki_setAt ho h0 (by lia) (by rw [List.size_toArray,<- hl];exact h4) (by rw [hk];exact ⟨_,I',q⟩)
 ·have hk:(k+(its.toArray.size:Int)).toNat=j:=by
   rw [seqIndex_neg (by lia) h3] at h1;rw [List.size_toArray,<- hl];exact Option.some.inj h1
  exact PySem.W.ki_setBack ho (by lia) (by rw [List.size_toArray,<- hl];exact h3) (by lia) (by rw [hk];exact ⟨_,I',q⟩)
theorem slice_bounds (lo hi:Option Int) (n:Nat):(sliceBounds lo hi none n).1=((HT.sIx n 0 lo:Nat):Int)/\(sliceBounds lo hi none n).2.1=((HT.sIx n n hi:Nat):Int)/\(sliceBounds lo hi none n).2.2=1:=by
 refine ⟨?_,?_,rfl⟩
 ·cases lo with
  | none=>simp [sliceBounds,HT.sIx]
  | some i =>
   simp only [sliceBounds,HT.sIx,Option.getD_none,show (1:Int)>0 by decide,if_true]
   by_cases h:i<0
   ·simp only [h,if_true]<;>lia
   ·simp only [h,if_false]<;>lia
 ·cases hi with
  | none=>simp [sliceBounds,HT.sIx]
  | some i =>
   simp only [sliceBounds,HT.sIx,Option.getD_none,show (1:Int)>0 by decide,if_true]
   by_cases h:i<0
   ·simp only [h,if_true]<;>lia
   ·simp only [h,if_false]<;>lia
theorem slicePick_cut (its:List Value) (lo hi:Option Int):slicePick its.toArray lo hi none=((its.drop (HT.sIx its.length 0 lo)).take (HT.sIx its.length its.length hi-HT.sIx its.length 0 lo)).toArray:=by
 obtain ⟨h1,h2,h3⟩:=slice_bounds lo hi its.toArray.size;unfold slicePick;rw [h1,h2,h3];simp only [sliceRange_one,pick_run,List.size_toArray]<;>rfl
def rSlL (K:PySem.W.Frag):V->Option Int->Option Int->Hp->VK->Prop:=fun x lo hi H Q=>∃ a xs,x=.ref a/\SqL K H a xs/\∀ p,H p=none->Q (.ref p) (upd H p (.lst (cutV xs lo hi)))
theorem sl_list:SlR X (rSlL X.K):=by
 intro pins s σ H x v vl vu lo hi sl Q I rx hs pl pu h;obtain ⟨a,xs,rfl,hx,q⟩:=h;cases rx;obtain ⟨its,r,ht,hz⟩:=I.list hx;have hlen:=r.length;refine ⟨"list",_,slot_list_getitem.lookup,ht.isList.typeIs,?_⟩;refine wpAny_getItem_list_slice ht.isList hs pl pu .none (by simp) ?_ (by rw [List.size_toArray]<;>lia);rw [slicePick_cut,<- hlen];refine ⟨.ref s.heap.objs.size,_,I.laid (t':=s.toks) (o:=.lst (cutV xs lo hi)) (fun b ob q=>Heap.get?_push_of_some _ q) (Nat.le_refl _) ?_,rfl,q _ (I.hok.fresh (Nat.le_refl _))⟩;exact ⟨Nat.le_trans (cutV_length xs lo hi) hz,_,0,(r.drop (HT.sIx xs.length 0 lo)).take (HT.sIx xs.length xs.length hi-HT.sIx xs.length 0 lo),Heap.get?_push_size _ rfl⟩
theorem call_len_seq:CallR X (.builtin "len") (fun xs H Q=>∃ p ys,xs=[.ref p]/\(SqL X.K H p ys\/SqT X.K H p ys)/\Q (.int ys.length) H):=by
 intro pins s σ H xs us Q I r h;obtain ⟨p,ys,rfl,hq,q⟩:=h;obtain ⟨u,rfl,rx⟩:=vals1 r;cases rx;have hn:=line63
 rcases hq with hq | hq
 ·obtain ⟨its,r',pl,hz⟩:=I.list hq;have hlen:=r'.length;exact Calls.call_len_list pl.isList (by simp only [List.size_toArray]<;>lia) ⟨.int ys.length,H,I.tok _,⟨s.toks+1,by rw [List.size_toArray,hlen]⟩,q⟩
 ·obtain ⟨its,r',pl,hz⟩:=I.tuple hq;have hlen:=r'.length;exact len_tuple pl (by simp only [List.size_toArray]<;>lia) ⟨.int ys.length,H,I.tok _,⟨s.toks+1,by rw [List.size_toArray,hlen]⟩,q⟩
theorem call_len_str:CallR X (.builtin "len") (fun xs H Q=>∃ z,xs=[.str z]/\z.length<=sizeLine/\Q (.int z.length) H):=by
 intro pins s σ H xs us Q I r h;obtain ⟨z,rfl,hz,q⟩:=h;obtain ⟨u,rfl,t,rfl⟩:=vals1 r;have hn:=line63;exact len_str (by lia) ⟨.int z.length,H,I.tok _,⟨_,rfl⟩,q⟩
theorem call_list_of:CallR X (.type "list") (fun xs H Q=>∃ p ys,xs=[.ref p]/\(SqL X.K H p ys\/SqT X.K H p ys)/\∀ l,H l=none->Q (.ref l) (upd H l (.lst ys))):=by
 intro pins s σ H xs us Q I r h;obtain ⟨p,ys,rfl,hq,q⟩:=h;obtain ⟨u,rfl,rx⟩:=vals1 r;cases rx;have fin:∀ (its:List Value),Vals ys its->ys.length<=sizeLine->∀ (h':Heap) (c':Nat),(∀ b o',s.heap.get? b=some o'->h'.get? b=some o') ->
   h'.get? s.heap.objs.size=some {cls:=.type "list",dict:=none,data:=.seq its.toArray c',slots:=#[]}->EP X pins σ Q (.ref s.heap.objs.size) {s with heap:=h'}:=fun its r' hz h' c' kp e =>
  ⟨.ref s.heap.objs.size,_,I.laid (t':=s.toks) kp (Nat.le_refl _) (show ObjOk X.prog X.w _ h' _ (.lst ys) from ⟨hz,its,c',r',e⟩),rfl,q _ (I.hok.fresh (Nat.le_refl _))⟩
 rcases hq with hq | hq
 ·obtain ⟨its,r',pl,hz⟩:=I.list hq;have hlen:=r'.length;obtain ⟨o,ho,hc,n,hd⟩:=pl.isList;exact call_list_seq p (.inl rfl) ho hc hd (fun h' c' kp e=>fin its r' hz h' c' kp e) (by simp only [List.size_toArray]<;>lia)
 ·obtain ⟨its,r',pl,hz⟩:=I.tuple hq;have hlen:=r'.length;obtain ⟨o,ho,hc,n,hd⟩:=pl;exact call_list_seq p (.inr rfl) ho hc hd (fun h' c' kp e=>fin its r' hz h' c' kp e) (by simp only [List.size_toArray]<;>lia)
theorem call_tuple_of:CallR X (.type "tuple") (fun xs H Q=>∃ p ys,xs=[.ref p]/\((SqL X.K H p ys/\∀ l,H l=none->Q (.ref l) (upd H l (.tup ys)))\/(SqT X.K H p ys/\Q (.ref p) H))):=by
 intro pins s σ H xs us Q I r h;obtain ⟨p,ys,rfl,h⟩:=h;obtain ⟨u,rfl,rx⟩:=vals1 r;cases rx
 rcases h with ⟨hq,q⟩ | ⟨hq,q⟩
 ·obtain ⟨its,r',pl,hz⟩:=I.list hq;have hlen:=r'.length;refine call_tuple_list pl.isList (fun h' kp=>?_) (by simp only [List.size_toArray]<;>lia);have I1:Inv X pins σ H {s with heap:=h'}:=I.kept (t':=s.toks) kp
  have I2:Inv X pins σ (upd H h'.objs.size (.tup ys)) {s with heap:=h'.push {cls:=.type "tuple",data:=.seq its.toArray}} :=
   I1.laid (t':=s.toks) (fun b o e=>Heap.get?_push_of_some _ e) (Nat.le_refl _) (show ObjOk X.prog X.w _ _ _ (.tup ys) from ⟨hz,its,r',IsTupD.new _ _⟩)
  exact ⟨.ref h'.objs.size,_,I2,rfl,q _ (I1.hok.fresh (Nat.le_refl _))⟩
 ·obtain ⟨its,r',pl,hz⟩:=I.tuple hq;exact call_tuple_same pl ⟨.ref p,H,I,rfl,q⟩
def tyV (K:PySem.W.Frag) (T:String) (x:V) (H:Hp):Prop:=match x with
 | .str _=>T = "str"
 | .int _=>T = "int"
 | .ref p=>(T = "list" /\ ∃ xs,SqL K H p xs)\/(T = "tuple" /\ ∃ o,K.lookup p=some o/\o.cls=.type "tuple" /\ o.dict=none) \/
   (T = "dict" /\ ((∃ kvs,H p=some (.dK kvs))\/∃ kvs,H p=some (.dT kvs)))\/(T = "set" /\ ∃ S n,H p=some (.set S n))
 | _=>False
theorem tyV_is {pins:List (Addr×Obj)} {σ:St} {H:Hp} {s:Shared} {T:String} {x:V} {v:Value} (I:Inv X pins σ H s) (r:RelV x v) (ty:tyV X.K T x H) :
  s.TypeIs v T/\∀ a,v=.ref a->∃ ob,s.heap.get? a=some ob/\ob.dict=none:=by
 cases x with
 | str z =>
  obtain ⟨t,rfl⟩:=r;cases (show T = "str" from ty);exact ⟨typeIs_str s z t,fun _ e=>nomatch e⟩
 | int i =>
  obtain ⟨t,rfl⟩:=r;cases (show T = "int" from ty);exact ⟨typeIs_int s i t,fun _ e=>nomatch e⟩
 | ref p =>
  cases r
  rcases ty with ⟨rfl,xs,hq⟩ | ⟨rfl,o,hk,hc,hd⟩ | ⟨rfl,hk⟩ | ⟨rfl,S,n,hk⟩
  ·obtain ⟨its,_,pl,_⟩:=I.list hq;refine ⟨pl.isList.typeIs,fun a e=>?_⟩
   cases e;obtain ⟨o,n,e,c,hd,_⟩:=pl;exact ⟨o,e,hd⟩
  ·refine ⟨⟨o,I.kIn p o hk,hc⟩,fun a e=>?_⟩
   cases e;exact ⟨o,I.kIn _ o hk,hd⟩
  ·have z:∃ o,s.heap.get? p=some o/\o.ExactDict:=by
    rcases hk with ⟨kvs,hk⟩ | ⟨kvs,hk⟩
    ·obtain ⟨_,_,_,_,o,_,_,e,ex,_⟩:=I.hok p _ hk;exact ⟨o,e,ex⟩
    ·obtain ⟨_,_,_,_,o,_,_,e,ex,_⟩:=I.hok p _ hk;exact ⟨o,e,ex⟩
   obtain ⟨o,e,ex⟩:=z;refine ⟨⟨o,e,ex.1⟩,fun a e2=>?_⟩
   cases e2;exact ⟨o,e,ex.2.1⟩
  ·obtain ⟨o,_,_,_,e,ex,_⟩:=I.hok p _ hk;refine ⟨⟨o,e,ex.1⟩,fun a e2=>?_⟩
   cases e2;exact ⟨o,e,ex.2.1⟩
 | _=>exact False.elim ty
def tBM (K:PySem.W.Frag) (T:String) (r:V->List V->Hp->VK->Prop) (to:TE) (t:TA):TE:=fun σ H Q=>to σ H fun x H1=>tyV K T x H1/\t σ H1 fun xs H2=>r x xs H2 Q
variable {o e:Expr} {es:List Expr} {to:TE} {t:TA} {name:Str} {apos cpos:Pos} {T id:String} {r:V->List V->Hp->VK->Prop}
theorem pe_bm (pa:PlainAttrs T) (slot:Slot T name id) (hty:typeOf (.builtin id)=pure (.type "method_descriptor")) (hm:MtR X id r) (ho:PE X o to) (ha:PA X (e::es) t)
  (hbase:attributeBase o name X.env (eval o X.env)=eval o X.env:=by rfl)
  (hfew:((backTo cpos (starEach (e::es) X.env)).all (fun x=>!x.1)&&(backToKw cpos (keywordEach [] X.env)).all (fun x=>x.1.isSome)
   && decide ((e::es).length+([]:List Keyword).length+(if ([]:List Keyword).isEmpty then 0 else 1)<30))=true:=by rfl)
  (hline:(apos.endLine==cpos.line)=true:=by rfl) (hs:starEach (e::es) X.env=(false,eval e X.env)::starEach es X.env:=by rfl) (hplain:(backTo cpos (starEach es X.env)).any (·.1)=false:=by rfl) :
  PE X (.Call (.Attribute o name apos) (e::es) [] cpos) (tBM X.K T r to t):=by
 intro pins s σ H Q I h;refine wpAny_Call_method_late hbase hfew hline rfl (thn (ho pins s σ H _ I h) fun v s1 ⟨x,H1,I1,r1,ty,q1⟩=>?_)
 obtain ⟨h1,h2⟩:=tyV_is I1 r1 ty;refine ⟨T,id,pa,slot,hty,h1,h2,?_⟩;have hA:=ha cpos pins s1 σ H1 _ I1 q1;rw [hs] at hA ⊢;refine Calls.callWith_builtin (by show (false||(backTo cpos (starEach es X.env)).any (·.1))=false;rw [hplain]<;>rfl) (Calls.evalArgs_plain ?_);exact thn hA fun us s2 ⟨vs,H2,I2,r2,q2⟩=>hm pins s2 σ H2 x vs v us Q I2 r1 r2 q2
end
end L2
namespace L2
open PySem PySem.Spec PyProof.Rows
def MtM (X:Cx) (id:String) (r:V->List V->Hp->VK->Prop):Prop :=
 ∀ (pins:List (Addr×Obj)) (s:Shared) (σ:St) (H:Hp) (x:V) (xs:List V) (v:Value) (us:List Value) (Q:VK),Inv X pins σ H s->RelV x v->Vals xs us->r x xs H Q ->
  wpAny (model X.prog X.w) X.A (call (.builtin id) (v::us)) (EP X pins σ Q) X.xe s
theorem Vals.one:∀ {x:V} {us:List Value},Vals [x] us->∃ u,us=[u]/\RelV x u
 | _,_,.cons r .nil=>⟨_,rfl,r⟩
theorem Vals.reverse {xs:List V} {us:List Value} (h:Vals xs us):Vals xs.reverse us.reverse:=by
 induction h with
 | nil=>exact .nil
 | cons r t ih=>rw [List.reverse_cons,List.reverse_cons];exact Vals.append ih (.cons r .nil)
theorem Vals.rep {xs:List V} {us:List Value} (h:Vals xs us):∀ k:Nat,Vals (List.replicate k xs).flatten (List.replicate k us).flatten
 | 0=>.nil
 | k+1=>by
  rw [List.replicate_succ,List.replicate_succ,List.flatten_cons,List.flatten_cons];exact Vals.append h (Vals.rep h k)
theorem foldl_rep (its:List Value):∀ (k:Nat) (acc:List Value),
  List.foldl (fun x1 x2=>x1++x2) acc.toArray (List.replicate k its.toArray)=(acc++(List.replicate k its).flatten).toArray
 | 0,acc=>by simp
 | k+1,acc=>by
  have e:acc.toArray++its.toArray=(acc++its).toArray:=by simp
  have e2:(acc++its)++(List.replicate k its).flatten=acc++(List.replicate (k+1) its).flatten:=by
   rw [List.replicate_succ,List.flatten_cons,List.append_assoc]
  rw [<- e2,<- foldl_rep its k (acc++its),<- e,List.replicate_succ,List.foldl_cons]
section
variable {X:Cx} {pins:List (Addr×Obj)} {σ:St} {H:Hp} {s:Shared} {l b:Addr} {xs ys zs:List V}
theorem Inv.lset {its its':List Value} {n:Nat} {f:Array Value->Array Value} {t':Nat} (I:Inv X pins σ H s) (hH:H l=some (.lst xs))
  (e:s.heap.get? l=some {cls:=.type "list",data:=.seq its.toArray n}) (hf:f its.toArray=its'.toArray) (hv:Vals ys its') (hz:ys.length<=sizeLine) :
  Inv X pins σ (upd H l (.lst ys)) {s with heap:=s.heap.update l (Obj.mapSeq f),toks:=t'}:=by
 have q:=PySem.IsL.update e f;rw [hf] at q;refine I.write (x:=l) (e:=l) (by rw [hH];exact trivial) (.inl rfl) (fun b' u hb hu=>(Heap.get?_update_other s.heap (Obj.mapSeq f) (Ne.symm hb)).trans hu) ⟨_,q⟩ ?_
 exact ⟨hz,its',_,hv,q⟩
theorem Inv.lnew {its:List Value} {t':Nat} (I:Inv X pins σ H s) (hv:Vals ys its) (hz:ys.length<=sizeLine) :
  Inv X pins σ (upd H s.heap.objs.size (.lst ys)) {s with heap:=s.heap.push {cls:=.type "list",data:=.seq its.toArray},toks:=t'} :=
 I.laid (fun _ _ q=>Heap.get?_push_of_some _ q) (Nat.le_refl _) ⟨hz,its,0,hv,Heap.get?_push_size _ rfl⟩
theorem Inv.fresh (I:Inv X pins σ H s):H s.heap.objs.size=none:=I.hok.fresh (Nat.le_refl _)
theorem Inv.lstM (I:Inv X pins σ H s) (hH:H l=some (.lst xs)):xs.length<=sizeLine/\∃ (its:List Value) (n:Nat),Vals xs its/\xs.length=its.length/\s.heap.get? l=some {cls:=.type "list",data:=.seq its.toArray n}:=by
 obtain ⟨z,its,n,r,e⟩:=I.hok l _ hH;exact ⟨z,its,n,r,r.length,e⟩
theorem notLongL {n:Nat} (h:n<=sizeLine):Builtin.List.listTooLong n=false:=by
 unfold Builtin.List.listTooLong;exact decide_eq_false (by lia)
end
section
variable {X:Cx}
def rAppend:V->List V->Hp->VK->Prop:=fun x vs H Q=>∃ l xs y,x=.ref l/\vs=[y]/\H l=some (.lst xs)/\xs.length<sizeLine/\Q .non (upd H l (.lst (xs++[y])))
theorem mt_append:MtM X "list.append" rAppend:=by
 intro pins s σ H x vs v us Q I rx rv h;obtain ⟨l,xs,y,rfl,rfl,hH,hz,q⟩:=h;cases rx;obtain ⟨u,rfl,ru⟩:=rv.one;obtain ⟨z,its,n,r,hl,e⟩:=I.lstM hH;refine call_meets F.slot_list_append ⟨_,e,rfl⟩ F.entry_list_append (F.args_list_append_2 _ _) (PySem.list_append l its.toArray n u (by rw [List.size_toArray];lia)) ⟨e,?_⟩;refine ⟨.non,_,I.lset (its':=its++[u]) hH e (by simp) (r.append (.cons ru .nil)) ?_,rfl,q⟩;rw [List.length_append,List.length_singleton]
 lia
theorem len_rep {α:Type} (xs:List α) (k:Nat):(List.replicate k xs).flatten.length=k*xs.length:=by
 induction k with
 | zero=>simp
 | succ k ih=>rw [List.replicate_succ,List.flatten_cons,List.length_append,ih,Nat.succ_mul,Nat.add_comm]
end
end L2
namespace Att
open PySem PySem.W PySem.Calls PyProof.Rows
theorem ints_of_wellAll {P:Params} {h:Heap}:∀ (ns:List Int) (vs:List Value),WellAll P h vs (ns.map WData.int)->IntsAre vs ns:=by
 intro ns
 induction ns with
 | nil =>
  intro vs w;rw [List.map_nil] at w;cases w;exact .nil
 | cons n ns ih =>
  intro vs w;rw [List.map_cons] at w;cases w with
  | cons a b =>
   cases a;exact .cons _ _ (ih _ b)
theorem script_of {l:OpenLaw} {n:Nat} (hn:l.most=some n) {P:Params} {h:Heap} {args:List WData} {vals:List Value}
  (hpre:l.row.toRowW.claim.pre args=true) (hwl:WellAll P h vals args) :
  ∃ a vs ns,vals=[Value.ref a]/\args=[WData.list (ns.map WData.int)]/\h.get? a=some {cls:=.type "list",data:=.seq vs.toArray}/\IntsAre vs ns/\ns.length<=n:=by
 have hsh:WShape.hasAll [] args [.list .int]=true:=(pre_splitW hpre).1;have hc:l.pre.holds [] {args:=args}=true:=(pre_splitW hpre).2;obtain ⟨d,r,rfl,h1,h2⟩:=hasAllW_cons hsh;obtain rfl:=hasAllW_nil h2;obtain ⟨xs,rfl,h3⟩:=hasW_list h1;obtain ⟨ns,rfl⟩:=items_int h3;have hlen:ns.length<=n:=by
  unfold OpenLaw.pre at hc;have h4:(WTm.not (.lt (.lit (.int (n:Int))) (.len (.arg 0)))).holds [] {args:=[.list (ns.map .int)]}=true:=by
   have h4:=(holds_andW hc).1;rw [hn] at h4;exact h4
  have h5:=condW_of h4 (w_not (w_lt w_lit (w_len_list (w_arg rfl))));rw [List.length_map] at h5;refine Nat.le_of_not_lt fun q=>?_
  have q':(n:Int)<((ns.length:Nat):Int):=by lia
  first
   | (rw [decide_eq_true q'] at h5;exact absurd h5 (by decide))
   | (simp at h5;lia)
 cases hwl with
 | cons w1 w2 =>
  cases w2;cases w1 with
  | list ho hall=>exact ⟨_,_,ns,rfl,rfl,ho,ints_of_wellAll ns _ hall,hlen⟩
theorem post_true (l:OpenLaw) (args:List WData):l.row.toRowW.claim.post args (.bool true) args=true :=
 postW_of (r:=l.row.toRowW) (X:=(true==true))
  (show WShape.has [] (.bool true) .bool=true by first | rfl | decide | simp [WShape.has,WShape.arms,WShape.armsAll])
  (show (WTm.eq .res (.lit (.bool true))).value [] {args:=args,res:=some (.bool true),after:=args}=some (.bool (true==true)) from w_eq_bool (w_res rfl) w_lit) rfl
theorem attach_call {l:OpenLaw} {n:Nat} {q:Program} {loose:List Str} {XP:(Str->Option Value)->Heap->Prop} {YP:World->Heap->Prop} {d:DefRec}
  (hn:l.most=some n) (hdf:d.params.defaults=[])
  (call:∀ (w:World) (s₀ s₁:Shared) (mg mb:Str->Option Value) (fa:Addr) (o:Obj) (pm cd doc:Value) (a:Addr) (vs:List Value) (ns:List Int),
   Ground q loose [] XP w s₀ mg mb s₁.heap->YP w s₁.heap ->
   s₁.heap.get? fa=some o->o.data=.func (docDef d.name d.params d.body d.scope pm cd doc)->s₁.heap.CodeRec cd d.name->mg d.name=some (.ref fa) ->
   s₁.heap.get? a=some {cls:=.type "list",data:=.seq vs.toArray}->IntsAre vs ns->ns.length<=n->s₁.gens=#[] ->
   codeAny (model l.prog w) callerA (.call (.ref fa) ⟨[.ref a],[]⟩) (fun r s'=>r=.ok (.ret (.bool true))/\OldK s₁.heap s'.heap/\s'.os=s₁.os/\AllBare s'.gens) s₁) :
  WalkO q loose XP YP l.row.toRowW d [] (fun f vs=>PySem.call f vs):=by
 intro w s₀ s₁ mg mb G Y fa o pm cd doc dV kV ho hd hcd hD hmg hg args vals as hpre hlay hrd hwl hlo;obtain rfl:dV=.none:=Dflts.none hD hdf;obtain rfl:kV=.none:=Dflts.noKw hD;obtain ⟨a,vs,ns,rfl,rfl,hobj,hints,hlen⟩:=script_of hn hpre hwl;refine enter_call (codeAny_mono (call w s₀ s₁ mg mb fa o pm cd doc a vs ns G Y ho (fd_plain hd) hcd hmg hobj hints hlen hg) fun r s' hq=>?_)
 obtain ⟨rfl,h2,h3,h4⟩:=hq;exact ⟨.inl ⟨.bool true,.bool true,[],rfl,fun _=>rfl,.bool true,post_true l _,fun _=>⟨List.Pairwise.nil,fun _ hm=>(nomatch hm)⟩⟩,h2,h3,h4⟩
end Att
namespace L2
open PySem PySem.Spec PyProof.Rows
theorem vals_ints:∀ {vs:List Value} {ns:List Int},IntsAre vs ns->Vals (ns.map V.int) vs
 | _,_,.nil=>.nil
 | _,_,.cons n t h=>.cons ⟨t,rfl⟩ (vals_ints h)
def Only (H:Hp):Prop:=∀ b,H b=none\/∃ o xs,H b=some (.frz o (.lst xs))
theorem law_call {P:Program} {w:World} {K:PySem.W.Frag} {mg mb:Str->Option Value} {CX:CXT} {k:Nat} {fa a:Addr} {fd:FuncData} {x:Str} {sp:Sp} {s₁:Shared} {vs:List Value} {ns:List Int}
  (KX:K.In s₁.heap) (hns:s₁.heap.Ns mainGlobals mg) (hb:s₁.heap.Ns builtinsNs mb) (hbb:∀ x:Str,x ≠ "__name__" -> mb x=bootBuiltins x) (hlim:s₁.heap.NoLimit) (hg:s₁.gens=#[])
  (ha:s₁.heap.get? a=some {cls:=.type "list",data:=.seq vs.toArray}) (hi:IntsAre vs ns) (hl:ns.length<=sizeLine) (hr:Room k callerA)
  (F:∀ base:Heap,K.In base->base.Ns mainGlobals mg->FnOk P w K mg base CX k fa fd [x] sp) (hbind:∀ (s:Shared) (u:Value),BindsTo s fd ⟨[u],[]⟩ [(x,u)])
  (hsp:∀ H:Hp,Only H->SqL K H a (ns.map V.int)->sp [.ref a] H (fun v _=>v=.bl true) fun _ _ _=>False)
  (hCX:∀ H e s',CX [] H s₁ (fun _ _ _=>False) e s'->False) :
  codeAny (model P w) callerA (.call (.ref fa) ⟨[.ref a],[]⟩) (fun r s'=>r=.ok (.ret (.bool true))/\OldK s₁.heap s'.heap/\s'.os=s₁.os/\AllBare s'.gens) s₁:=by
 have rv:=vals_ints hi;have lenV:=hi.length;have core:∀ H:Hp,Only H->SqL K H a (ns.map V.int)->HOk P w H s₁.heap->(∀ b,H b≠none->b=a)->(H a≠none->K.lookup a=none) ->
   codeAny (model P w) callerA (.call (.ref fa) ⟨[.ref a],[]⟩) (fun r s'=>r=.ok (.ret (.bool true))/\OldK s₁.heap s'.heap/\s'.os=s₁.os/\AllBare s'.gens) s₁:=by
  intro H hO hS hok hA hK;have base_of:∀ {b:Addr} {o:Obj},s₁.heap.get? b=some o->H b=none->(hidT s₁.heap H).get? b=some o:=fun e n=>hidT_get e n
  have noA:∀ {b:Addr} {o:Obj} {es:Array DictEntry} {ep:Nat},s₁.heap.get? b=some o->o.data=.dict es ep->H b=none:=fun {b o es ep} e d=>by
   cases q:H b with
   | none=>rfl
   | some u =>
    have e':b=a:=hA b (by rw [q];simp);subst e';rw [ha] at e;cases e;have d':Data.seq vs.toArray _=Data.dict es ep:=d;cases d'
  have nsK:∀ {b:Addr} {m:Str->Option Value},s₁.heap.Ns b m->(hidT s₁.heap H).Ns b m:=fun {b m} ⟨o,es,ep,e,d,r⟩=>⟨o,es,ep,base_of e (noA e d),d,r⟩
  have hKb:K.In (hidT s₁.heap H):=fun b o e=>base_of (KX b o e) (by
   cases q:H b with
   | none=>rfl
   | some u =>
    have e':b=a:=hA b (by rw [q];simp);subst e';rw [hK (by rw [q];simp)] at e;cases e)
  have hM:Mod K mg (hidT s₁.heap H):=⟨hKb,nsK hns,⟨mb,nsK hb,hbb⟩,let ⟨mc,h1,h2⟩:=hlim;⟨mc,nsK h1,h2⟩⟩
  have e0:Env0 P w K mg (hidT s₁.heap H) callerA [] s₁ H:=⟨rfl,hM,fun b o e=>of_hidT e,Nat.le_of_eq (hidT_size _ _),trivial,fun b hb=>absurd (show b∈([]:List Addr) from hb) (by simp),hok,.of_eq hg⟩
  refine codeAny_mono ((F _ hKb (nsK hns)).run callerA [] s₁ H ⟨[.ref a],[]⟩ [.ref a] [.ref a] _ _ hr e0 (hbind s₁ (.ref a)) (.cons rfl .nil) (hsp H hO hS)) fun r s' h=>?_
  cases r with
  | error e=>exact (hCX H e s' h).elim
  | ok fl =>
   cases fl with
   | next=>exact False.elim h
   | brk=>exact False.elim h
   | cont=>exact False.elim h
   | ret u =>
    obtain ⟨v,H',os,bare,un,hok',r',q⟩:=h;have q':v=.bl true:=q;subst q';obtain rfl:u=Value.bool true:=r';refine ⟨rfl,OldK.of_keep fun b o e=>?_,os,bare⟩
    cases q:H b with
    | none=>exact un.keep b o e q (by intro z;exact absurd (show b∈([]:List Addr) from z) (by simp)) (by simp)
    | some u =>
     rcases hO b with z | ⟨ob,xs,z⟩
     ·rw [q] at z;cases z
     ·have z2:=un.frzs b ob _ z;obtain ⟨e1,_⟩:=hok b _ z;obtain ⟨e2,_⟩:=hok' b _ z2;rw [e] at e1;cases e1;exact e2
 cases hk:K.lookup a with
 | some o =>
  have e:=KX a o hk;rw [ha] at e;cases e;refine core (fun _=>none) (fun _=>.inl rfl) (.inr ⟨_,vs.toArray,_,hk,rfl,rfl,rfl,by rw [List.size_toArray,lenV];exact hl,by simpa using rv⟩) (fun b u z=>by have z':(none:Option HO)=some u:=z;cases z') (fun b z=>absurd rfl z) fun z=>absurd rfl z
 | none =>
  refine core (fun b=>if b=a then some (.frz {cls:=.type "list",data:=.seq vs.toArray} (.lst (ns.map V.int))) else none) (fun b=>?_) (.inl (.inr ⟨{cls:=.type "list",data:=.seq vs.toArray},if_pos rfl⟩)) (fun b u z=>?_) (fun b z=>?_) fun _=>hk
  ·by_cases hb:b=a
   ·exact .inr ⟨_,_,if_pos hb⟩
   ·exact .inl (if_neg hb)
  ·by_cases hb:b=a
   ·have z':=(if_pos hb).symm.trans z;cases z';subst hb;exact ⟨ha,by rw [List.length_map];exact hl,vs,_,rv,ha⟩
   ·have z':=(if_neg hb).symm.trans z;cases z'
  ·by_cases hb:b=a
   ·exact hb
   ·exact absurd (if_neg hb) z
end L2
namespace L2
open PySem PySem.Spec PyProof.Rows
theorem walk_of {l:PySem.W.OpenLaw} {n k:Nat} {q:Program} {loose:List Str} {XP:(Str->Option Value)->Heap->Prop} {YP:World->Heap->Prop} {d:DefRec} {K:Params->PySem.W.Frag} {CX:World->CXT} {sp:World->Sp} {x:Str}
  (hn:l.most=some n) (hn2:n<=sizeLine) (hdf:d.params.defaults=[]) (hr:Room k callerA)
  (hY:∀ (w:World) (h:Heap),YP w h->(K w.params).In h)
  (F:∀ (w:World) (mg:Str->Option Value) (fa:Addr) (h:Heap),(K w.params).In h->h.Ns mainGlobals mg->mg d.name=some (.ref fa) ->
   ∃ fd:FuncData,(∀ (s:Shared) (u:Value),BindsTo s fd ⟨[u],[]⟩ [(x,u)]) /\
    ∀ base:Heap,(K w.params).In base->base.Ns mainGlobals mg->FnOk l.prog w (K w.params) mg base (CX w) k fa fd [x] (sp w))
  (hsp:∀ (w:World) (H:Hp) (a:Addr) (ns:List Int),ns.length<=n->Only H->SqL (K w.params) H a (ns.map V.int)->sp w [.ref a] H (fun v _=>v=.bl true) fun _ _ _=>False)
  (hCX:∀ (w:World) (H:Hp) (s:Shared) (e:Value) (s':Shared),CX w [] H s (fun _ _ _=>False) e s'->False) :
  PySem.W.WalkO q loose XP YP l.row.toRowW d [] (fun f vs=>PySem.call f vs):=by
 refine Att.attach_call hn hdf fun w s₀ s₁ mg mb fa o pm cd doc a vs ns G Y ho hd hcd hmg hobj hints hlen hg=>?_
 have KX:=hY w _ Y;obtain ⟨fd,hb,hF⟩:=F w mg fa _ KX G.T.g hmg;exact law_call KX G.T.g G.T.b G.T.builtins G.T.nolimit hg hobj hints (Nat.le_trans hlen hn2) hr hF hb (fun H hO hS=>hsp w H a ns hlen hO hS) fun H e s'=>hCX w H s₁ e s'
theorem walk_ofK {l:PySem.W.OpenLaw} {n k:Nat} {q:Program} {loose:List Str} {XP:(Str->Option Value)->Heap->Prop} {YP:World->Heap->Prop} {d:DefRec} {K:Params->PySem.W.Frag} {CX:CXT} {sp:PySem.W.Frag->Sp} {x:Str}
  (hn:l.most=some n) (hn2:n<=sizeLine) (hdf:d.params.defaults=[]) (hr:Room k callerA)
  (hY:∀ (w:World) (h:Heap),YP w h->(K w.params).In h)
  (F:∀ (w:World) (mg:Str->Option Value) (fa:Addr) (h:Heap),(K w.params).In h->h.Ns mainGlobals mg->mg d.name=some (.ref fa) ->
   ∃ fd:FuncData,(∀ (s:Shared) (u:Value),BindsTo s fd ⟨[u],[]⟩ [(x,u)]) /\
    ∀ base:Heap,(K w.params).In base->base.Ns mainGlobals mg->FnOk l.prog w (K w.params) mg base CX k fa fd [x] (sp (K w.params)))
  (hsp:∀ (K:PySem.W.Frag) (H:Hp) (a:Addr) (ns:List Int),ns.length<=n->Only H->SqL K H a (ns.map V.int)->sp K [.ref a] H (fun v _=>v=.bl true) fun _ _ _=>False)
  (hCX:∀ (H:Hp) (s:Shared) (e:Value) (s':Shared),CX [] H s (fun _ _ _=>False) e s'->False) :
  PySem.W.WalkO q loose XP YP l.row.toRowW d [] (fun f vs=>PySem.call f vs) :=
 walk_of (K:=K) (CX:=fun _=>CX) (sp:=fun w=>sp (K w.params)) hn hn2 hdf hr hY F (fun w H a ns h1 h2 h3=>hsp (K w.params) H a ns h1 h2 h3) fun _ H s e s'=>hCX H s e s'
end L2
namespace L2
open PySem PySem.Spec PyProof.Rows
def defArgs (s:Stmt):Arguments:=match s with
 | .FunctionDef _ a _ _ _ _ _ _ _ _=>a
 | _=>{posonlyargs:=[],args:=[],vararg:=none,kwonlyargs:=[],kw_defaults:=[],kwarg:=none,defaults:=[]}
def defBody (s:Stmt):List Stmt:=match s with
 | .FunctionDef _ _ b _ _ _ _ _ _ _=>b
 | _=>[]
def defScope (s:Stmt):Scope:=match s with
 | .FunctionDef _ _ _ _ _ _ sc _ _ _=>sc
 | _=>{kind:=.function,names:=[],isGenerator:=false,isCoroutine:=false}
abbrev CX0:CXT:=fun _ _ _ _ _ _=>False
structure Fun (K:PySem.W.Frag) (x qual:Str) (st:Stmt) (f:Addr) (fd:FuncData):Prop where
 ex:∃ (oc:Value) (od:Option Addr) (kV doc pm:Value) (an:Option Addr) (cdv ct:Value) (osl:Array (Option Value)),
  fd=PySem.W.fnOf x qual (defArgs st) (defBody st) (defScope st) .none kV doc pm an cdv ct/\K.lookup f=some ⟨oc,od,.func fd,osl⟩/\PySem.W.codeIn K cdv qual=true
 kp:PySem.W.keepIn K (.ref f)=true
section
variable {P:Program} {w:World} {K:PySem.W.Frag} {mg:Str->Option Value} {base:Heap}
theorem Fun.ok {x qual:Str} {st:Stmt} {f:Addr} {fd:FuncData} {N ps:List Str} {k:Nat} {sp:Sp} (F:Fun K x qual st f fd) (S:FnScope N ps (defScope st)) (len:∀ vs H Q E,sp vs H Q E->vs.length=ps.length)
  (hbody:∀ (cdv:Value) (A:Around) (outer:List Env) (s:Shared) (H:Hp) (vs:List V) (Q:VK) (E:XK),Room k (A.deeper (envOfC qual (defScope st) s.heap.objs.size f cdv))->sp vs H Q E ->
   ∃ t,PSs (cxOf CX0 P w K mg base N qual (defScope st) f cdv A outer s H E).nox (defBody st) t/\t {nx:=fun _ H'=>Q .non H',rt:=Q} (start N vs) H):FnOk P w K mg base CX0 (k+1) f fd ps sp:=by
 obtain ⟨oc,od,kV,doc,pm,an,cdv,ct,osl,rfl,lk,hcd⟩:=F.ex;refine fn_of lk hcd S len fun A outer s H vs Q E hr hsp=>?_
 obtain ⟨t,h,q⟩:=hbody cdv A outer s H vs Q E hr hsp;exact ⟨t,h.nox,q⟩
theorem Fun.binds {x qual:Str} {st:Stmt} {f:Addr} {fd:FuncData} {ps:List Str} (F:Fun K x qual st f fd)
  (h:∀ (kV doc pm:Value) (an:Option Addr) (cdv ct:Value) (us:List Value),us.length=ps.length->bindArgs (PySem.W.fnOf x qual (defArgs st) (defBody st) (defScope st) .none kV doc pm an cdv ct) ⟨us,[]⟩=pure (ps.zip us)):Binds K fd ps []:=by
 obtain ⟨oc,od,kV,doc,pm,an,cdv,ct,osl,rfl,lk,hcd⟩:=F.ex;exact .all (h kV doc pm an cdv ct)
theorem fun_mk {x qual:Str} {st:Stmt} {f:Addr} {oc:Value} {od an:Option Addr} {osl:Array (Option Value)} {kV doc pm cdv ct:Value} (l:K.lookup f=some ⟨oc,od,.func (PySem.W.fnOf x qual (defArgs st) (defBody st) (defScope st) .none kV doc pm an cdv ct),osl⟩)
  (c:PySem.W.codeIn K cdv qual=true) (k:PySem.W.keepIn K (.ref f)=true):Fun K x qual st f (PySem.W.fnOf x qual (defArgs st) (defBody st) (defScope st) .none kV doc pm an cdv ct):=⟨⟨oc,od,kV,doc,pm,an,cdv,ct,osl,rfl,l,c⟩,k⟩
end
theorem small1000 {n:Nat} (h:n<=1000):n<sizeLine:=Nat.lt_of_le_of_lt h (by decide)
section
variable {X:Cx}
theorem pv (i:Nat) {x:Str} {pos:Pos} (hN:X.N[i]?=some x:=by rfl) (hv:Vis X.env.scope x:=by first | exact Or.inl rfl | exact Or.inr (Or.inl rfl) | exact Or.inr (Or.inr rfl)) (hd:(x==("__debug__" : Str))=false:=by decide)
  (hcd:(x==("__classdict__" : Str))=false:=by decide):PE X (.Name x pos) (tVar i):=pe_var hN hv hd hcd
end
theorem iteF {A B:Prop} (h:B):if false=true then A else B:=by
 rw [if_neg Bool.false_ne_true];exact h
theorem iteT {A B:Prop} (h:A):if true=true then A else B:=by
 rw [if_pos rfl];exact h
def Same (H H':Hp):Prop:=∀ b o,H b=some o->H' b=some o
theorem Same.refl (H:Hp):Same H H:=fun _ _ h=>h
theorem Same.trans {H H1 H2:Hp} (a:Same H H1) (b:Same H1 H2):Same H H2:=fun c o h=>b c o (a c o h)
theorem Same.free {H H':Hp} (e:Same H H') {l:Addr} (h:H' l=Option.none):H l=Option.none:=by
 cases q:H l with
 | none=>rfl
 | some o =>
  rw [e l o q] at h;cases h
theorem Same.seq {K:PySem.W.Frag} {H H':Hp} {a:Addr} {xs:List V} (e:Same H H') (h:SqL K H a xs):SqL K H' a xs:=by
 rcases h with (h | ⟨o,h⟩) | h
 ·exact .inl (.inl (e _ _ h))
 ·exact .inl (.inr ⟨o,e _ _ h⟩)
 ·exact .inr h
end L2
namespace Pu
open PySem PySem.Spec PyProof.Rows L2
abbrev SS:=L2.St
inductive PV where
 | non | bl (b:Bool) | int (i:Int) | str (x:Str) | lst (xs:List PV) | tup (xs:List PV)
 deriving Inhabited
inductive XCl where
 | own (x:Str) | blt (T:String)
structure XC where
 cls:XCl
 fs:List (Str×PV):=[]
inductive Res (α:Type) where
 | ok (a:α) | exc (x:XC) | bad
def Res.bind {α β:Type}:Res α->(α->Res β)->Res β
 | .ok a,f=>f a
 | .exc x,_=>.exc x
 | .bad,_=>.bad
@[simp] theorem Res.bind_ok {α β:Type} (a:α) (f:α->Res β):(Res.ok a).bind f=f a:=(rfl)
@[simp] theorem Res.bind_exc {α β:Type} (x:XC) (f:α->Res β):(Res.exc x:Res α).bind f=.exc x:=(rfl)
@[simp] theorem Res.bind_bad {α β:Type} (f:α->Res β):(Res.bad:Res α).bind f=.bad:=(rfl)
def On {α:Type} (r:Res α) (x:XC->Prop) (k:α->Prop):Prop:=match r with
 | .ok v=>k v
 | .exc e=>x e
 | .bad=>False
mutual
def Rep (K:PySem.W.Frag) (H:Hp):PV->V->Prop
 | .non,x=>x=.non
 | .bl b,x=>x=.bl b
 | .int i,x=>x=.int i
 | .str t,x=>x=.str t
 | .lst vs,x=>∃ a xs,x=.ref a/\SqL K H a xs/\Reps K H vs xs
 | .tup vs,x=>∃ a xs,x=.ref a/\SqT K H a xs/\Reps K H vs xs
def Reps (K:PySem.W.Frag) (H:Hp):List PV->List V->Prop
 | [],xs=>xs=[]
 | v::vs,xs=>∃ x r,xs=x::r/\Rep K H v x/\Reps K H vs r
end
section
variable {K:PySem.W.Frag} {H H':Hp}
theorem sqT_same {a:Addr} {xs:List V} (e:Same H H') (h:SqT K H a xs):SqT K H' a xs:=by
 rcases h with (h | ⟨o,h⟩) | h
 ·exact .inl (.inl (e _ _ h))
 ·exact .inl (.inr ⟨o,e _ _ h⟩)
 ·exact .inr h
mutual
theorem Rep.mono (e:Same H H'):∀ {v:PV} {x:V},Rep K H v x->Rep K H' v x
 | .non,_,h=>by simpa only [Rep] using h
 | .bl _,_,h=>by simpa only [Rep] using h
 | .int _,_,h=>by simpa only [Rep] using h
 | .str _,_,h=>by simpa only [Rep] using h
 | .lst vs,x,h=>by
  simp only [Rep] at h ⊢;obtain ⟨a,xs,h1,h2,h3⟩:=h;exact ⟨a,xs,h1,e.seq h2,Reps.mono e h3⟩
 | .tup vs,x,h=>by
  simp only [Rep] at h ⊢;obtain ⟨a,xs,h1,h2,h3⟩:=h;exact ⟨a,xs,h1,sqT_same e h2,Reps.mono e h3⟩
theorem Reps.mono (e:Same H H'):∀ {vs:List PV} {xs:List V},Reps K H vs xs->Reps K H' vs xs
 | [],_,h=>by simpa only [Reps] using h
 | v::vs,xs,h=>by
  simp only [Reps] at h ⊢;obtain ⟨x,r,h1,h2,h3⟩:=h;exact ⟨x,r,h1,Rep.mono e h2,Reps.mono e h3⟩
end
theorem Reps.nil {xs:List V}:Reps K H [] xs↔xs=[]:=by simp only [Reps]
theorem Reps.cons {v:PV} {vs:List PV} {xs:List V}:Reps K H (v::vs) xs↔∃ x r,xs=x::r/\Rep K H v x/\Reps K H vs r:=by simp only [Reps]
theorem Reps.mk {v:PV} {vs:List PV} {x:V} {r:List V} (h:Rep K H v x) (t:Reps K H vs r):Reps K H (v::vs) (x::r):=Reps.cons.mpr ⟨x,r,rfl,h,t⟩
theorem Reps.length:∀ {vs:List PV} {xs:List V},Reps K H vs xs->xs.length=vs.length
 | [],_,h=>by rw [Reps.nil.mp h];rfl
 | v::vs,xs,h=>by
  obtain ⟨x,r,rfl,_,t⟩:=Reps.cons.mp h;simp [Reps.length t]
theorem Reps.append:∀ {vs us:List PV} {xs ys:List V},Reps K H vs xs->Reps K H us ys->Reps K H (vs++us) (xs++ys)
 | [],us,xs,ys,h,t=>by rw [Reps.nil.mp h];exact t
 | v::vs,us,xs,ys,h,t=>by
  obtain ⟨x,r,rfl,h1,h2⟩:=Reps.cons.mp h;exact Reps.mk h1 (Reps.append h2 t)
theorem Reps.get:∀ {vs:List PV} {xs:List V} {i:Nat} {v:PV},Reps K H vs xs->vs[i]?=some v->∃ x,xs[i]?=some x/\Rep K H v x
 | [],_,i,v,_,e=>by simp at e
 | u::vs,xs,0,v,h,e=>by
  obtain ⟨x,r,rfl,h1,_⟩:=Reps.cons.mp h;simp at e;subst e;exact ⟨x,rfl,h1⟩
 | u::vs,xs,i+1,v,h,e=>by
  obtain ⟨x,r,rfl,_,h2⟩:=Reps.cons.mp h;obtain ⟨y,e1,e2⟩:=Reps.get h2 (i:=i) (v:=v) (by simpa using e);exact ⟨y,by simpa using e1,e2⟩
theorem Reps.take:∀ {vs:List PV} {xs:List V} (n:Nat),Reps K H vs xs->Reps K H (vs.take n) (xs.take n)
 | _,_,0,_=>by simp [Reps.nil]
 | [],xs,n+1,h=>by rw [Reps.nil.mp h];simp [Reps.nil]
 | v::vs,xs,n+1,h=>by
  obtain ⟨x,r,rfl,h1,h2⟩:=Reps.cons.mp h;exact Reps.mk h1 (Reps.take n h2)
theorem Reps.drop:∀ {vs:List PV} {xs:List V} (n:Nat),Reps K H vs xs->Reps K H (vs.drop n) (xs.drop n)
 | _,_,0,h=>h
 | [],xs,n+1,h=>by rw [Reps.nil.mp h];simp [Reps.nil]
 | v::vs,xs,n+1,h=>by
  obtain ⟨x,r,rfl,_,h2⟩:=Reps.cons.mp h;exact Reps.drop n h2
theorem Reps.set {v:PV} {x:V} (q:Rep K H v x):∀ {vs:List PV} {xs:List V} (i:Nat),Reps K H vs xs->Reps K H (vs.set i v) (xs.set i x)
 | [],xs,i,h=>by rw [Reps.nil.mp h];simp [Reps.nil]
 | u::vs,xs,0,h=>by
  obtain ⟨y,r,rfl,_,h2⟩:=Reps.cons.mp h;exact Reps.mk q h2
 | u::vs,xs,i+1,h=>by
  obtain ⟨y,r,rfl,h1,h2⟩:=Reps.cons.mp h;exact Reps.mk h1 (Reps.set q i h2)
theorem Reps.snoc {v:PV} {vs:List PV} {x:V} {xs:List V} (h:Reps K H vs xs) (q:Rep K H v x):Reps K H (vs++[v]) (xs++[x]):=h.append (Reps.mk q (Reps.nil.mpr rfl))
theorem Reps.reverse:∀ {vs:List PV} {xs:List V},Reps K H vs xs->Reps K H vs.reverse xs.reverse
 | [],xs,h=>by rw [Reps.nil.mp h];simp [Reps.nil]
 | v::vs,xs,h=>by
  obtain ⟨x,r,rfl,h1,h2⟩:=Reps.cons.mp h;rw [List.reverse_cons,List.reverse_cons];exact (Reps.reverse h2).snoc h1
theorem Reps.rep {vs:List PV} {xs:List V} (h:Reps K H vs xs):∀ k:Nat,Reps K H (List.replicate k vs).flatten (List.replicate k xs).flatten
 | 0=>by simp [Reps.nil]
 | k+1=>by
  rw [List.replicate_succ,List.replicate_succ,List.flatten_cons,List.flatten_cons];exact h.append (Reps.rep h k)
theorem Rep.lst {a:Addr} {vs:List PV} {xs:List V} (h:SqL K H a xs) (r:Reps K H vs xs):Rep K H (.lst vs) (.ref a):=by
 simp only [Rep];exact ⟨a,xs,rfl,h,r⟩
theorem Rep.tup {a:Addr} {vs:List PV} {xs:List V} (h:SqT K H a xs) (r:Reps K H vs xs):Rep K H (.tup vs) (.ref a):=by
 simp only [Rep];exact ⟨a,xs,rfl,h,r⟩
theorem Rep.lst' {vs:List PV} {x:V}:Rep K H (.lst vs) x↔∃ a xs,x=.ref a/\SqL K H a xs/\Reps K H vs xs:=by simp only [Rep]
theorem Rep.tup' {vs:List PV} {x:V}:Rep K H (.tup vs) x↔∃ a xs,x=.ref a/\SqT K H a xs/\Reps K H vs xs:=by simp only [Rep]
theorem Rep.int {i:Int} {x:V}:Rep K H (.int i) x↔x=.int i:=by simp only [Rep]
theorem Rep.bl {i:Bool} {x:V}:Rep K H (.bl i) x↔x=.bl i:=by simp only [Rep]
theorem Rep.str {i:Str} {x:V}:Rep K H (.str i) x↔x=.str i:=by simp only [Rep]
theorem Rep.non {x:V}:Rep K H .non x↔x=.non:=by simp only [Rep]
end
open Classical in
noncomputable def hid (W:Addr->Prop) (H:Hp):Hp:=fun a=>if W a then none else H a
theorem hid_some {W:Addr->Prop} {H:Hp} {a:Addr} {o:HO} (n:¬ W a) (h:H a=some o):hid W H a=some o:=by
 unfold hid;rw [if_neg n];exact h
theorem hid_sub {W:Addr->Prop} {H:Hp}:Same (hid W H) H:=fun b o h=>by
 unfold hid at h
 split at h
 ·cases h
 ·exact h
theorem hid_same {W:Addr->Prop} {H H':Hp} (e:Same H H'):Same (hid W H) (hid W H'):=fun b o h=>by
 unfold hid at h ⊢
 split at h
 ·cases h
 ·rename_i n;rw [if_neg n];exact e b o h
theorem hid_mono {W W':Addr->Prop} {H:Hp} (e:∀ a,W' a->W a):Same (hid W H) (hid W' H):=fun b o h=>by
 unfold hid at h ⊢
 split at h
 ·cases h
 ·rename_i n;rw [if_neg fun z=>n (e b z)];exact h
theorem hid_new {W:Addr->Prop} {H:Hp} {p:Addr} {o:HO} (n:¬ W p):hid W (upd H p o) p=some o:=hid_some n upd_same
theorem upd_new {H:Hp} {p:Addr} {o:HO} (n:H p=none):Same H (upd H p o):=fun b u h=>by
 rw [upd_ne (ne_of_none h n)];exact h
def EObj (e:Addr) (C:Value) (dx:Option Addr) (h:Heap):Prop:=∃ oe vs,h.get? e=some oe/\oe.cls=C/\oe.dict=dx/\oe.data=.fields vs/\1<vs.size
def TObj (T:Addr) (h:Heap):Prop:=∃ oT ts,h.get? T=some oT/\oT.data=.fields ts/\3<ts.size
def Flies (H:Hp) (h:Heap) (e:Addr) (C:Value) (dx:Option Addr):Prop :=
 H e=some (.ext (EObj e C dx))/\∃ oe vs,h.get? e=some oe/\oe.data=.fields vs /\
  (vs[1]?=some .none\/∃ T oT ts,vs[1]?=some (.ref T)/\T≠e/\H T=some (.ext (TObj T))/\h.get? T=some oT/\oT.data=.fields ts/\ts[3]?=some .none)
def clsIs (K:PySem.W.Frag):XCl->Value->Prop
 | .own x,C=>PySem.W.nsIn K mainGlobals x=some (some C)
 | .blt T,C=>C=.type T
def Pay (K:PySem.W.Frag) (H:Hp) (dx:Option Addr) (fs:List (Str×PV)):Prop :=
 fs=[]\/∃ d ys,dx=some d/\H d=some (.xd ys)/\ys.map (·.1)=fs.map (·.1)/\Reps K (fun _=>none) (fs.map (·.2)) (ys.map (·.2))
theorem Pay.mono {K:PySem.W.Frag} {H H':Hp} {dx:Option Addr} {fs:List (Str×PV)} (h:Pay K H dx fs) (e:Same H H'):Pay K H' dx fs:=by
 rcases h with h | ⟨d,ys,h1,h2,h3⟩
 ·exact .inl h
 ·exact .inr ⟨d,ys,h1,e _ _ h2,h3⟩
inductive Sl where
 | val (v:PV) | own (xs:List PV) | exn (x:XC)
abbrev En:=List (Option Sl)
def SlRep (K:PySem.W.Frag) (W:Addr->Prop) (H:Hp):Sl->V->Prop
 | .val v,x=>Rep K (hid W H) v x
 | .own vs,x=>∃ a xs,x=.ref a/\W a/\H a=some (.lst xs)/\Reps K (hid W H) vs xs
 | .exn z,x=>∃ e C dx,x=.ref e/\hid W H e=some (.ext (EObj e C dx))/\clsIs K z.cls C/\Pay K (hid W H) dx z.fs
theorem SlRep.mono {K:PySem.W.Frag} {W:Addr->Prop} {H H':Hp} (e:Same H H'):∀ {s:Sl} {x:V},SlRep K W H s x->SlRep K W H' s x
 | .val _,_,h=>Rep.mono (hid_same e) h
 | .own _,_,⟨a,xs,h1,h2,h3,h4⟩=>⟨a,xs,h1,h2,e _ _ h3,h4.mono (hid_same e)⟩
 | .exn _,_,⟨a,C,dx,h1,h2,h3,h4⟩=>⟨a,C,dx,h1,hid_same e _ _ h2,h3,h4.mono (hid_same e)⟩
structure ER (K:PySem.W.Frag) (W:Addr->Prop) (H:Hp) (σ:SS) (ρ:En):Prop where
 len:ρ.length=σ.length
 val:∀ (i:Nat) (s:Sl),ρ[i]?=some (some s)->∃ x,σ[i]?=some (some x)/\SlRep K W H s x
 trk:∀ a,W a->H a≠none
theorem ER.mono {K:PySem.W.Frag} {W:Addr->Prop} {H H':Hp} {σ:SS} {ρ:En} (h:ER K W H σ ρ) (e:Same H H'):ER K W H' σ ρ :=
 ⟨h.len,fun i s q=>let ⟨x,h1,h2⟩:=h.val i s q;⟨x,h1,h2.mono e⟩,fun a w z=>by
  cases q:H a with
  | none=>exact h.trk a w q
  | some o=>rw [e a o q] at z;cases z⟩
theorem ER.new {K:PySem.W.Frag} {W:Addr->Prop} {H:Hp} {σ:SS} {ρ:En} (h:ER K W H σ ρ) {p:Addr} (n:H p=none):¬ W p:=fun w=>h.trk p w n
theorem ER.set {K:PySem.W.Frag} {W:Addr->Prop} {H:Hp} {σ:SS} {ρ:En} (h:ER K W H σ ρ) {v:PV} {x:V} (r:Rep K (hid W H) v x) (i:Nat):ER K W H (σ.set i (some x)) (ρ.set i (some (.val v))):=by
 refine ⟨by simp [h.len],fun j s q=>?_,h.trk⟩
 rw [List.getElem?_set] at q
 by_cases e:i=j
 ·subst e;rw [if_pos rfl] at q
  by_cases hl:i<ρ.length
  ·rw [if_pos hl] at q;cases q;exact ⟨x,by rw [List.getElem?_set,if_pos rfl,if_pos (by rw [<- h.len];exact hl)],r⟩
  ·rw [if_neg hl] at q;cases q
 ·rw [if_neg e] at q;obtain ⟨y,h1,h2⟩:=h.val j s q;exact ⟨y,by rw [List.getElem?_set,if_neg e];exact h1,h2⟩
def Ext (ρ ρ':En):Prop:=ρ.length=ρ'.length/\∀ (i:Nat) (s:Sl),ρ[i]?=some (some s)->ρ'[i]?=some (some s)
theorem ER.weak {K:PySem.W.Frag} {W:Addr->Prop} {H:Hp} {σ:SS} {ρ ρ':En} (h:ER K W H σ ρ') (e:Ext ρ ρ'):ER K W H σ ρ:=⟨by rw [e.1];exact h.len,fun i s q=>h.val i s (e.2 i s q),h.trk⟩
def XA (X:Cx):XK:=fun C dx H=>∀ (pins:List (Addr×Obj)) (σ:SS) (s:Shared) (e:Addr),Inv X pins σ H s->Flies H s.heap e C dx->(X.ex=[]->X.s₀.heap.get? e=none)->X.xe (.ref e) s
def EW (K:PySem.W.Frag) (E:XK) (x:XC) (H:Hp):Prop:=∀ H' C dx,Same H H'->clsIs K x.cls C->Pay K H' dx x.fs->(∀ d,dx=some d->H d=none)->E C dx H'
theorem EW.mono {K:PySem.W.Frag} {E:XK} {x:XC} {H H':Hp} (h:EW K E x H) (e:Same H H'):EW K E x H':=fun H2 C dx s c p n=>h H2 C dx (e.trans s) c p fun d q=>e.free (n d q)
def XW (X:Cx) (x:XC) (H:Hp):Prop:=EW X.K (XA X) x H
theorem XW.mono {X:Cx} {x:XC} {H H':Hp} (h:XW X x H) (e:Same H H'):XW X x H':=EW.mono h e
def OkQ (K:PySem.W.Frag) (W:Addr->Prop) (H:Hp) (Q:VK) (v:PV):Prop:=∀ x H',Same H H'->Rep K (hid W H') v x->Q x H'
def Fin (X:Cx) (W:Addr->Prop) (H:Hp) (Q:VK):Res PV->Prop
 | .ok v=>OkQ X.K W H Q v
 | .exc x=>XW X x H
 | .bad=>False
abbrev De:=En->Res PV
def tD (X:Cx) (d:De):TE:=fun σ H Q=>∃ W ρ,ER X.K W H σ ρ/\Fin X W H Q (d ρ)
def DE (X:Cx) (e:Expr) (d:De):Prop:=PE X e (tD X d)
def OkQs (K:PySem.W.Frag) (W:Addr->Prop) (H:Hp) (Q:List V->Hp->Prop) (v:List PV):Prop:=∀ x H',Same H H'->Reps K (hid W H') v x->Q x H'
def Fins (X:Cx) (W:Addr->Prop) (H:Hp) (Q:List V->Hp->Prop):Res (List PV)->Prop
 | .ok v=>OkQs X.K W H Q v
 | .exc x=>XW X x H
 | .bad=>False
abbrev Das:=En->Res (List PV)
def tDA (X:Cx) (d:Das):TA:=fun σ H Q=>∃ W ρ,ER X.K W H σ ρ/\Fins X W H Q (d ρ)
def DA (X:Cx) (es:List Expr) (d:Das):Prop:=PA X es (tDA X d)
def FinT (X:Cx) (W:Addr->Prop) (H:Hp) (Q:Bool->Hp->Prop):Res Bool->Prop
 | .ok v=>∀ H',Same H H'->Q v H'
 | .exc x=>XW X x H
 | .bad=>False
abbrev Dt:=En->Res Bool
def tDT (X:Cx) (d:Dt):TT:=fun σ H Q=>∃ W ρ,ER X.K W H σ ρ/\FinT X W H Q (d ρ)
def DT (X:Cx) (e:Expr) (d:Dt):Prop:=PT X e (tDT X d)
def DW (X:Cx) (e:Expr) (d:Dt):Prop:=PW X e (tDT X d)
theorem pe_imp {X:Cx} {e:Expr} {t t':TE} (h:PE X e t) (i:∀ σ H Q,t' σ H Q->t σ H Q):PE X e t':=fun pins s σ H Q I q=>h pins s σ H Q I (i σ H Q q)
theorem pt_imp {X:Cx} {e:Expr} {t t':TT} (h:PT X e t) (i:∀ σ H Q,t' σ H Q->t σ H Q):PT X e t':=fun pins s σ H Q I q=>h pins s σ H Q I (i σ H Q q)
theorem pw_imp {X:Cx} {e:Expr} {t t':TT} (h:PW X e t) (i:∀ σ H Q,t' σ H Q->t σ H Q):PW X e t':=fun wh pins s σ H Q I q=>h wh pins s σ H Q I (i σ H Q q)
theorem pa_imp {X:Cx} {e:List Expr} {t t':TA} (h:PA X e t) (i:∀ σ H Q,t' σ H Q->t σ H Q):PA X e t':=fun pos pins s σ H Q I q=>h pos pins s σ H Q I (i σ H Q q)
section
variable {X:Cx} {W:Addr->Prop} {σ:SS} {ρ:En} {H:Hp}
theorem tD_of (d:De) {Q:VK} {k:PV->Prop} (er:ER X.K W H σ ρ) (h:On (d ρ) (fun x=>XW X x H) k)
  (hk:∀ v x H',Same H H'->ER X.K W H' σ ρ->Rep X.K (hid W H') v x->k v->Q x H'):tD X d σ H Q:=by
 refine ⟨W,ρ,er,?_⟩;cases e:d ρ with
 | ok v=>rw [e] at h;exact fun x H' s r=>hk v x H' s (er.mono s) r h
 | exc x=>rw [e] at h;exact h
 | bad=>rw [e] at h;exact h
theorem Fin.imp {d:Res PV} {H':Hp} {Q Q':VK} (h:Fin X W H Q d) (s:Same H H') (i:∀ x H'',Same H' H''->Q x H''->Q' x H''):Fin X W H' Q' d:=by
 cases d with
 | ok v=>exact fun x H'' s' r=>i x H'' s' (h x H'' (s.trans s') r)
 | exc x=>exact XW.mono (X:=X) (x:=x) h s
 | bad=>exact h
theorem Fin.bind {α:Type} {r:Res α} {f:α->Res PV} {Q:VK} (h:Fin X W H Q (r.bind f)):On r (fun x=>XW X x H) fun v=>Fin X W H Q (f v):=by
 cases r<;>exact h
theorem FinT.bind {α:Type} {r:Res α} {f:α->Res Bool} {Q:Bool->Hp->Prop} (h:FinT X W H Q (r.bind f)):On r (fun x=>XW X x H) fun v=>FinT X W H Q (f v):=by
 cases r<;>exact h
theorem Fins.bind {α:Type} {r:Res α} {f:α->Res (List PV)} {Q:List V->Hp->Prop} (h:Fins X W H Q (r.bind f)):On r (fun x=>XW X x H) fun v=>Fins X W H Q (f v):=by
 cases r<;>exact h
theorem Fin.grow {d:Res PV} {H':Hp} {Q:VK} (h:Fin X W H Q d) (s:Same H H'):Fin X W H' Q d:=h.imp s fun _ _ _ q=>q
theorem FinT.grow {d:Res Bool} {H':Hp} {Q:Bool->Hp->Prop} (h:FinT X W H Q d) (s:Same H H'):FinT X W H' Q d:=by
 cases d with
 | ok v=>exact fun H'' s'=>h H'' (s.trans s')
 | exc x=>exact XW.mono (X:=X) (x:=x) h s
 | bad=>exact h
theorem Fins.grow {d:Res (List PV)} {H':Hp} {Q:List V->Hp->Prop} (h:Fins X W H Q d) (s:Same H H'):Fins X W H' Q d:=by
 cases d with
 | ok v=>exact fun x H'' s' r=>h x H'' (s.trans s') r
 | exc x=>exact XW.mono (X:=X) (x:=x) h s
 | bad=>exact h
theorem de_int {i j pos}:DE X (.Constant (.int i) j pos) (fun _=>.ok (.int i)):=pe_imp pe_int fun σ H Q ⟨W,ρ,er,h⟩=>h _ H (Same.refl H) (Rep.int.mpr rfl)
theorem de_bl {i j pos}:DE X (.Constant (.bool i) j pos) (fun _=>.ok (.bl i)):=pe_imp pe_bl fun σ H Q ⟨W,ρ,er,h⟩=>h _ H (Same.refl H) (Rep.bl.mpr rfl)
theorem de_str {i j pos}:DE X (.Constant (.str i) j pos) (fun _=>.ok (.str i)):=pe_imp pe_str fun σ H Q ⟨W,ρ,er,h⟩=>h _ H (Same.refl H) (Rep.str.mpr rfl)
theorem de_non {j pos}:DE X (.Constant .none j pos) (fun _=>.ok .non):=pe_imp pe_non fun σ H Q ⟨W,ρ,er,h⟩=>h _ H (Same.refl H) (Rep.non.mpr rfl)
def eVar (i:Nat):De:=fun ρ=>match ρ[i]? with
 | some (some (.val v))=>.ok v
 | _=>.bad
theorem de_var (i:Nat) {x:Str} {pos:Pos} (hN:X.N[i]?=some x) (hv:Vis X.env.scope x) (hd:(x==("__debug__" : Str))=false:=by decide) (hcd:(x==("__classdict__" : Str))=false:=by decide) :
  DE X (.Name x pos) (eVar i):=pe_imp (pe_var hN hv hd hcd) fun σ H Q ⟨W,ρ,er,h⟩=>by
 unfold eVar at h
 split at h
 ·rename_i v e
  obtain ⟨y,e1,r⟩:=er.val i _ e;exact ⟨y,e1,h y H (Same.refl H) r⟩
 ·exact h.elim
theorem de_globI {x:Str} {i:Int} {t:Tok} {pos:Pos} (hg:Gl X x) (hm:X.mg x=some (.int i t)) (hd:(x==("__debug__" : Str))=false:=by decide):DE X (.Name x pos) (fun _=>.ok (.int i)) :=
 pe_imp (pe_glob hg hm (v:=.int i) ⟨t,rfl⟩ hd) fun σ H Q ⟨W,ρ,er,h⟩=>h _ H (Same.refl H) (Rep.int.mpr rfl)
def rD (X:Cx) (f:PV->PV->Res PV):R2:=fun x y H Q=>∃ W v u,(∀ a,W a->H a≠none)/\Rep X.K (hid W H) v x/\Rep X.K (hid W H) u y/\∃ z,f v u=.ok z/\OkQ X.K W H Q z
def NoX (f:PV->PV->Res PV):Prop:=∀ v u x,f v u≠.exc x
def e2 (f:PV->PV->Res PV) (a b:De):De:=fun ρ=>(a ρ).bind fun v=>(b ρ).bind fun u=>f v u
theorem tD_two {f:PV->PV->Res PV} {da db:De} {Q:VK} (nx:NoX f) (h:tD X (e2 f da db) σ H Q):tOp (rD X f) (tD X da) (tD X db) σ H Q:=by
 obtain ⟨W,ρ,er,h⟩:=h;refine tD_of da er h.bind fun v x H1 s1 er1 r1 h1=>?_
 refine tD_of db er1 (h1.grow s1).bind fun u y H2 s2 er2 r2 h2=>?_
 have h2:=Fin.grow h2 s2;cases e:f v u with
 | ok z=>rw [e] at h2;exact ⟨W,v,u,er2.trk,r1.mono (hid_same s2),r2,z,e,h2⟩
 | exc z=>exact absurd e (nx v u z)
 | bad=>rw [e] at h2;exact h2.elim
variable {a b:Expr} {da db:De} {pos:Pos} {f:PV->PV->Res PV}
theorem de_bin {op:Operator} (ho:OpR X (binaryOp op) (rD X f)) (nx:NoX f) (ha:DE X a da) (hb:DE X b db):DE X (.BinOp a op b pos) (e2 f da db) :=
 pe_imp (pe_op ho ha hb) fun σ H Q h=>tD_two nx h
theorem de_cmp {op:CmpOp} (ho:OpR X (compareOp op) (rD X f)) (nx:NoX f) (ha:DE X a da) (hb:DE X b db) (hm:behindInMarks op b=false):DE X (.Compare a [op] [b] pos) (e2 f da db) :=
 pe_imp (pe_cmpR ho ha hb hm) fun σ H Q h=>tD_two nx h
theorem de_ix (ho:IxR X (rD X f)) (nx:NoX f) (ha:DE X a da) (hb:DE X b db) (hs:PlainIx b):DE X (.Subscript a b pos) (e2 f da db) :=
 pe_imp (pe_ix ho ha hb hs) fun σ H Q h=>tD_two nx h
def asB:PV->Res Bool
 | .bl b=>.ok b
 | _=>.bad
def truV:PV->Res Bool
 | .non=>.ok false
 | .bl b=>.ok b
 | .int i=>.ok (i != 0)
 | .str y=>if y.length<=sizeLine then .ok ((y.length:Int) != 0) else .bad
 | .lst xs=>.ok (!xs.isEmpty)
 | .tup xs=>.ok (!xs.isEmpty)
def eTst (d:De):Dt:=fun ρ=>(d ρ).bind asB
def eTru (d:De):Dt:=fun ρ=>(d ρ).bind truV
theorem dt_cmp {op:CmpOp} (ho:OpR X (compareOp op) (rD X f)) (nx:NoX f) (ha:DE X a da) (hb:DE X b db) (hm:behindInMarks op b=false):DT X (.Compare a [op] [b] pos) (eTst (e2 f da db)) :=
 pt_imp (pt_cmpR ho ha hb hm) fun σ H Q ⟨W,ρ,er,h⟩=>by
  refine tD_two nx ⟨W,ρ,er,?_⟩;unfold eTst at h;cases e:e2 f da db ρ with
  | ok v =>
   rw [e] at h;intro x H' s r;cases v with
   | bl k=>exact ⟨k,Rep.bl.mp r,h H' s⟩
   | _=>exact h.elim
  | exc x=>rw [e] at h;exact h
  | bad=>rw [e] at h;exact h.elim
theorem reps_isEmpty {K:PySem.W.Frag} {H:Hp} {vs:List PV} {xs:List V} (h:Reps K H vs xs):xs.isEmpty=vs.isEmpty:=by
 have:=h.length;cases vs<;>cases xs<;>simp_all
theorem sqL_of {K:PySem.W.Frag} {p:Addr} {xs:List V} (h:SqL K (hid W H) p xs):SqL K H p xs:=hid_sub.seq h
theorem sqT_of {K:PySem.W.Frag} {p:Addr} {xs:List V} (h:SqT K (hid W H) p xs):SqT K H p xs:=sqT_same hid_sub h
theorem truV_ok {v:PV} {k:Bool} {x:V} (h:truV v=.ok k) (r:Rep X.K (hid W H) v x):TruV X.K x H k:=by
 cases v with
 | non=>rw [Rep.non.mp r];cases h;exact rfl
 | bl b=>rw [Rep.bl.mp r];cases h;exact rfl
 | int i=>rw [Rep.int.mp r];cases h;exact rfl
 | str y =>
  rw [Rep.str.mp r];simp only [truV] at h
  split at h
  ·rename_i hl;cases h;exact ⟨hl,rfl⟩
  ·cases h
 | lst vs =>
  obtain ⟨p,xs,rfl,h1,h2⟩:=Rep.lst'.mp r;cases h;exact .inl ⟨xs,sqL_of h1,by rw [reps_isEmpty h2]⟩
 | tup vs =>
  obtain ⟨p,xs,rfl,h1,h2⟩:=Rep.tup'.mp r;cases h;exact .inr (.inl ⟨xs,sqT_of h1,by rw [reps_isEmpty h2]⟩)
theorem truV_nx {v:PV} {x:XC}:truV v≠.exc x:=by
 intro h;cases v<;>simp [truV] at h
 split at h<;>cases h
theorem dt_val (ha:DE X a da) (he:∀ whole,isTrue a X.env whole=(do let v <- whole;standAt a.pos;holding [v] (truthy v)):=by intro _;rfl):DT X a (eTru da) :=
 pt_imp (pt_truth ha he) fun σ H Q ⟨W,ρ,er,h⟩=>by
  refine tD_of da er h.bind fun v x H1 s1 er1 r1 h1=>?_
  cases e:truV v with
  | ok k=>rw [e] at h1;exact ⟨k,truV_ok e r1,h1 H1 s1⟩
  | exc z=>exact absurd e truV_nx
  | bad=>rw [e] at h1;exact h1.elim
def tNotD (d:Dt):Dt:=fun ρ=>(d ρ).bind fun b=>.ok (!b)
def tAndD (d d':Dt):Dt:=fun ρ=>(d ρ).bind fun b=>if b then d' ρ else .ok false
def tOrD (d d':Dt):Dt:=fun ρ=>(d ρ).bind fun b=>if b then .ok true else d' ρ
theorem tDT_of (d:Dt) {Q:Bool->Hp->Prop} {k:Bool->Prop} (er:ER X.K W H σ ρ) (h:On (d ρ) (fun x=>XW X x H) k)
  (hk:∀ v H',Same H H'->ER X.K W H' σ ρ->k v->Q v H'):tDT X d σ H Q:=by
 refine ⟨W,ρ,er,?_⟩;cases e:d ρ with
 | ok v=>rw [e] at h;exact fun H' s=>hk v H' s (er.mono s) h
 | exc x=>rw [e] at h;exact h
 | bad=>rw [e] at h;exact h
variable {ta tb:Dt}
theorem dt_not (ha:DT X a ta):DT X (.UnaryOp .Not a pos) (tNotD ta):=pt_imp (pt_not ha) fun σ H Q ⟨W,ρ,er,h⟩ =>
 tDT_of ta er h.bind fun v H1 s1 er1 h1=>h1 H1 s1
theorem dw_and1 (ha:DT X a ta):DW X (.BoolOp .And [a] pos) ta:=pw_and1 ha
theorem dw_or1 (ha:DT X a ta):DW X (.BoolOp .Or [a] pos) ta:=pw_or1 ha
variable {rest:List Expr}
theorem dw_and (ha:DT X a ta) (hb:DW X (.BoolOp .And (b::rest) pos) tb):DW X (.BoolOp .And (a::b::rest) pos) (tAndD ta tb):=pw_imp (pw_and ha hb) fun σ H Q ⟨W,ρ,er,h⟩ =>
 tDT_of ta er h.bind fun v H1 s1 er1 h1=>by
  cases v with
  | true=>exact iteT ⟨W,ρ,er1,FinT.grow h1 s1⟩
  | false=>exact iteF (h1 H1 s1)
theorem dw_or (ha:DT X a ta) (hb:DW X (.BoolOp .Or (b::rest) pos) tb):DW X (.BoolOp .Or (a::b::rest) pos) (tOrD ta tb):=pw_imp (pw_or ha hb) fun σ H Q ⟨W,ρ,er,h⟩ =>
 tDT_of ta er h.bind fun v H1 s1 er1 h1=>by
  cases v with
  | true=>exact iteT (h1 H1 s1)
  | false=>exact iteF ⟨W,ρ,er1,FinT.grow h1 s1⟩
theorem dt_w (h:DW X a ta):DT X a ta:=PW.pt h
def eNot (d:De):De:=fun ρ=>(d ρ).bind fun v=>(asB v).bind fun b=>.ok (.bl (!b))
def eAnd (d d':De):De:=fun ρ=>(d ρ).bind fun v=>(asB v).bind fun b=>if b then d' ρ else .ok (.bl false)
def eOr (d d':De):De:=fun ρ=>(d ρ).bind fun v=>(asB v).bind fun b=>if b then .ok (.bl true) else d' ρ
def eIf (c:Dt) (d d':De):De:=fun ρ=>(c ρ).bind fun b=>if b then d ρ else d' ρ
theorem asB_bl {v:PV} {Q:VK} {f:Bool->Res PV} (h:Fin X W H Q ((asB v).bind f)):∃ b,v=.bl b/\Fin X W H Q (f b):=by
 cases v with
 | bl b=>exact ⟨b,rfl,h⟩
 | _=>exact h.elim
theorem de_one {op} (ha:DE X a da):DE X (.BoolOp op [a] pos) da:=pe_one ha
theorem de_and (ha:DE X a da) (hb:DE X (.BoolOp .And (b::rest) pos) db):DE X (.BoolOp .And (a::b::rest) pos) (eAnd da db):=pe_imp (pe_and ha hb) fun σ H Q ⟨W,ρ,er,h⟩ =>
 tD_of da er h.bind fun v x H1 s1 er1 r1 h1=>by
  obtain ⟨b,rfl,h1⟩:=asB_bl h1;refine ⟨b,Rep.bl.mp r1,?_⟩;cases b with
  | true=>exact iteT ⟨W,ρ,er1,Fin.grow h1 s1⟩
  | false=>exact iteF (h1 _ H1 s1 (Rep.bl.mpr rfl))
theorem de_if {c:Expr} (hc:DT X c ta) (ha:DE X a da) (hb:DE X b db):DE X (.IfExp c a b pos) (eIf ta da db):=pe_imp (pe_ifExp hc ha hb) fun σ H Q ⟨W,ρ,er,h⟩ =>
 tDT_of ta er h.bind fun v H1 s1 er1 h1=>by
  cases v with
  | true=>exact iteT ⟨W,ρ,er1,Fin.grow h1 s1⟩
  | false=>exact iteF ⟨W,ρ,er1,Fin.grow h1 s1⟩
def aNil:Das:=fun _=>.ok []
def aCons (d:De) (ds:Das):Das:=fun ρ=>(d ρ).bind fun v=>(ds ρ).bind fun vs=>.ok (v::vs)
theorem da_nil:DA X [] aNil:=pa_imp pa_nil fun σ H Q ⟨W,ρ,er,h⟩=>h [] H (Same.refl H) (Reps.nil.mpr rfl)
theorem tDA_of (d:Das) {Q:List V->Hp->Prop} {k:List PV->Prop} (er:ER X.K W H σ ρ) (h:On (d ρ) (fun x=>XW X x H) k)
  (hk:∀ v x H',Same H H'->ER X.K W H' σ ρ->Reps X.K (hid W H') v x->k v->Q x H'):tDA X d σ H Q:=by
 refine ⟨W,ρ,er,?_⟩;cases e:d ρ with
 | ok v=>rw [e] at h;exact fun x H' s r=>hk v x H' s (er.mono s) r h
 | exc x=>rw [e] at h;exact h
 | bad=>rw [e] at h;exact h
variable {es:List Expr} {ds:Das}
theorem da_cons (ha:DE X a da) (hr:DA X es ds) (hs:starEach (a::es) X.env=(false,eval a X.env)::starEach es X.env:=by rfl):DA X (a::es) (aCons da ds):=pa_imp (pa_cons ha hr hs) fun σ H Q ⟨W,ρ,er,h⟩ =>
 tD_of da er h.bind fun v x H1 s1 er1 r1 h1 =>
  tDA_of ds er1 (Fins.grow h1 s1).bind fun vs xs H2 s2 er2 r2 h2=>h2 _ H2 s2 (Reps.mk (r1.mono (hid_same s2)) r2)
def szOk (n:Nat) (v:PV):Res PV:=if n<=sizeLine then .ok v else .bad
def eTup (ds:Das):De:=fun ρ=>(ds ρ).bind fun vs=>szOk vs.length (.tup vs)
def eLst (ds:Das):De:=fun ρ=>(ds ρ).bind fun vs=>szOk vs.length (.lst vs)
theorem szOk_fin {n:Nat} {v:PV} {Q:VK} (h:Fin X W H Q (szOk n v)):n<=sizeLine/\OkQ X.K W H Q v:=by
 unfold szOk at h
 split at h
 ·exact ⟨by assumption,h⟩
 ·exact h.elim
theorem okQ_tup {vs:List PV} {xs:List V} {p:Addr} {Q:VK} (q:OkQ X.K W H Q (.tup vs)) (er:∀ a,W a->H a≠none) (r:Reps X.K (hid W H) vs xs) (hp:H p=none):Q (.ref p) (upd H p (.tup xs)) :=
 q _ _ (upd_new hp) (Rep.tup (.inl (.inl (hid_new fun w=>er p w hp))) (r.mono (hid_same (upd_new hp))))
theorem okQ_lst {vs:List PV} {xs:List V} {p:Addr} {Q:VK} (q:OkQ X.K W H Q (.lst vs)) (er:∀ a,W a->H a≠none) (r:Reps X.K (hid W H) vs xs) (hp:H p=none):Q (.ref p) (upd H p (.lst xs)) :=
 q _ _ (upd_new hp) (Rep.lst (.inl (.inl (hid_new fun w=>er p w hp))) (r.mono (hid_same (upd_new hp))))
theorem okQ_grow {v:PV} {Q:VK} {H':Hp} (q:OkQ X.K W H Q v) (s:Same H H'):OkQ X.K W H' Q v:=fun x H'' s' r=>q x H'' (s.trans s') r
theorem de_tup {k} (h:DA X es ds):DE X (.Tuple es k pos) (eTup ds):=pe_imp (pe_tup h) fun σ H Q ⟨W,ρ,er,h⟩ =>
 tDA_of ds er h.bind fun vs xs H1 s1 er1 r1 h1=>by
  obtain ⟨hz,q⟩:=szOk_fin h1;exact ⟨by rw [r1.length];exact hz,fun p hp=>okQ_tup (okQ_grow q s1) er1.trk r1 hp⟩
theorem de_lst (h:DA X es ds):DE X (.List es pos) (eLst ds):=pe_imp (pe_lst h) fun σ H Q ⟨W,ρ,er,h⟩ =>
 tDA_of ds er h.bind fun vs xs H1 s1 er1 r1 h1=>by
  obtain ⟨hz,q⟩:=szOk_fin h1;exact ⟨by rw [r1.length];exact hz,fun p hp=>okQ_lst (okQ_grow q s1) er1.trk r1 hp⟩
def rC (X:Cx) (f:List PV->Res PV):List V->Hp->VK->Prop:=fun xs H Q=>∃ W vs,(∀ a,W a->H a≠none)/\Reps X.K (hid W H) vs xs/\∃ z,f vs=.ok z/\OkQ X.K W H Q z
def NoXs (f:List PV->Res PV):Prop:=∀ vs x,f vs≠.exc x
def eB (f:List PV->Res PV) (ds:Das):De:=fun ρ=>(ds ρ).bind f
theorem tD_call {g:List PV->Res PV} {Q:VK} (nx:NoXs g) (h:tD X (eB g ds) σ H Q):tCB (rC X g) (tDA X ds) σ H Q:=by
 obtain ⟨W,ρ,er,h⟩:=h;refine tDA_of ds er h.bind fun vs xs H1 s1 er1 r1 h1=>?_
 cases e:g vs with
 | ok z=>rw [e] at h1;exact ⟨W,vs,er1.trk,r1,z,e,okQ_grow h1 s1⟩
 | exc z=>exact absurd e (nx vs z)
 | bad=>rw [e] at h1;exact h1.elim
variable {g:List PV->Res PV} {x:Str} {p:Pos} {id T:String}
theorem de_callB (hc:CallR X (.builtin id) (rC X g)) (nx:NoXs g) (hg:Gl X x) (hm:X.mg x=none) (hv:bootBuiltins x=some (.builtin id)) (ha:DA X (a::es) ds) (hn:x ≠ "__name__" := by decide) (hdb:(x==("__debug__" : Str))=false:=by decide)
  (he:starEach (a::es) X.env=(false,eval a X.env)::starEach es X.env:=by rfl) (hpl:(backTo pos (starEach es X.env)).any (·.1)=false:=by rfl):DE X (.Call (.Name x p) (a::es) [] pos) (eB g ds) :=
 pe_imp (pe_callB hc hg hm hv ha hn hdb he hpl) fun σ H Q h=>tD_call nx h
theorem de_callTy (hc:CallR X (.type T) (rC X g)) (nx:NoXs g) (hg:Gl X x) (hm:X.mg x=none) (hv:bootBuiltins x=some (.type T)) (ha:DA X (a::es) ds) (hn:x ≠ "__name__" := by decide) (hdb:(x==("__debug__" : Str))=false:=by decide)
  (he:starEach (a::es) X.env=(false,eval a X.env)::starEach es X.env:=by rfl) (hpl:(backTo pos (starEach es X.env)).any (·.1)=false:=by rfl):DE X (.Call (.Name x p) (a::es) [] pos) (eB g ds) :=
 pe_imp (pe_callTy hc hg hm hv ha hn hdb he hpl) fun σ H Q h=>tD_call nx h
end
end Pu
namespace Pu
open PySem PySem.Spec PyProof.Rows L2
mutual
def dat:PV->PyData
 | .non=>.none
 | .bl b=>.bool b
 | .int i=>.int i
 | .str x=>.str x
 | .lst xs=>.list (dats xs)
 | .tup xs=>.tuple (dats xs)
def dats:List PV->List PyData
 | []=>[]
 | x::xs=>dat x::dats xs
end
section
variable {X:Cx} {pins:List (Addr×Obj)} {σ:SS} {H:Hp} {s:Shared}
mutual
theorem rep_reads (I:L2.Inv X pins σ H s):∀ (v:PV) (x:V) (u:Value),Rep X.K H v x->RelV x u->∃ as,Reads s.heap u (dat v) as
 | .non,x,u,r,q=>by rw [Rep.non.mp r] at q;cases q;simp only [dat];exact ⟨_,.none⟩
 | .bl b,x,u,r,q=>by rw [Rep.bl.mp r] at q;cases q;simp only [dat];exact ⟨_,.bool b⟩
 | .int i,x,u,r,q=>by rw [Rep.int.mp r] at q;obtain ⟨t,rfl⟩:=q;simp only [dat];exact ⟨_,.int i t⟩
 | .str i,x,u,r,q=>by rw [Rep.str.mp r] at q;obtain ⟨t,rfl⟩:=q;simp only [dat];exact ⟨_,.str i t⟩
 | .lst vs,x,u,r,q=>by
  obtain ⟨a,xs,rfl,h1,h2⟩:=Rep.lst'.mp r;cases q;obtain ⟨its,r1,pl,_⟩:=I.list h1;obtain ⟨o,ho,hc,n,hd⟩:=pl.isList;obtain ⟨as,ra⟩:=reps_reads I vs xs its h2 r1;simp only [dat];exact ⟨_,.list ho hc hd (by simpa using ra)⟩
 | .tup vs,x,u,r,q=>by
  obtain ⟨a,xs,rfl,h1,h2⟩:=Rep.tup'.mp r;cases q;obtain ⟨its,r1,⟨o,ho,hc,n,hd⟩,_⟩:=I.tuple h1;obtain ⟨as,ra⟩:=reps_reads I vs xs its h2 r1;simp only [dat];exact ⟨_,.tuple ho hc hd (by simpa using ra)⟩
theorem reps_reads (I:L2.Inv X pins σ H s):∀ (vs:List PV) (xs:List V) (us:List Value),Reps X.K H vs xs->Vals xs us->∃ as,ReadsAll s.heap us (dats vs) as
 | [],xs,us,r,q=>by rw [Reps.nil.mp r] at q;cases q;simp only [dats];exact ⟨_,.nil⟩
 | v::vs,xs,us,r,q=>by
  obtain ⟨x,xr,rfl,h1,h2⟩:=Reps.cons.mp r;cases q with
  | cons q1 q2 =>
   obtain ⟨as,ra⟩:=rep_reads I v x _ h1 q1;obtain ⟨bs,rb⟩:=reps_reads I vs xr _ h2 q2;simp only [dats];exact ⟨_,.cons ra rb⟩
end
end
def eqv (a b:PV):Bool:=PyData.eqv (dat a) (dat b)
def cmpOk (a:PV):Bool:=(dat a).canLay0&&decide ((dat a).depth<=50)
def eqF (a b:PV):Res PV:=if cmpOk a&&cmpOk b then .ok (.bl (eqv a b)) else .bad
def neF (a b:PV):Res PV:=if cmpOk a&&cmpOk b then .ok (.bl (!eqv a b)) else .bad
def inF (a:PV):PV->Res PV
 | .lst xs=>if cmpOk a&&cmpOk (.lst xs) then .ok (.bl (xs.any fun y=>eqv y a)) else .bad
 | .tup xs=>if cmpOk a&&cmpOk (.tup xs) then .ok (.bl (xs.any fun y=>eqv y a)) else .bad
 | _=>.bad
def ninF (a:PV):PV->Res PV
 | .lst xs=>if cmpOk a&&cmpOk (.lst xs) then .ok (.bl (!xs.any fun y=>eqv y a)) else .bad
 | .tup xs=>if cmpOk a&&cmpOk (.tup xs) then .ok (.bl (!xs.any fun y=>eqv y a)) else .bad
 | _=>.bad
theorem any_dats (xs:List PV) (a:PV):(dats xs).any (fun y=>PyData.eqv y (dat a))=xs.any fun y=>eqv y a:=by
 induction xs with
 | nil=>simp [dats]
 | cons x xs ih=>simp [dats,ih,eqv]
theorem cmpOk_parts {a:PV} (h:cmpOk a=true):(dat a).canLay0=true/\(dat a).depth<=50:=by
 unfold cmpOk at h;rw [Bool.and_eq_true,decide_eq_true_eq] at h;exact h
theorem nx_of {f:PV->PV->Res PV} (h:∀ v u,(∃ z,f v u=.ok z)\/f v u=.bad):NoX f:=fun v u x e=>by
 rcases h v u with ⟨z,q⟩ | q<;>rw [q] at e<;>cases e
theorem ite_res {c:Bool} {z:PV}:(∃ y,(if c=true then Res.ok z else Res.bad)=.ok y)\/(if c=true then Res.ok z else Res.bad:Res PV)=.bad:=by
 cases c<;>simp
theorem nx_eq:NoX eqF:=nx_of fun v u=>by unfold eqF;exact ite_res
theorem nx_ne:NoX neF:=nx_of fun v u=>by unfold neF;exact ite_res
theorem nx_in:NoX inF:=nx_of fun v u=>by
 cases u<;>simp only [inF]<;>first | exact ite_res | exact .inr rfl | exact .inr trivial
theorem nx_nin:NoX ninF:=nx_of fun v u=>by
 cases u<;>simp only [ninF]<;>first | exact ite_res | exact .inr rfl | exact .inr trivial
theorem ite_ok {c:Bool} {z y:PV} (h:(if c=true then Res.ok z else Res.bad)=.ok y):c=true/\y=z:=by
 cases c
 ·simp at h
 ·simp at h;exact ⟨rfl,h.symm⟩
section
variable {X:Cx}
theorem room_units {k:Nat} (hr:Room k X.A):X.A.units+150<cLine:=by have:=hr.un;lia
theorem fin_bl' {pins:List (Addr×Obj)} {σ:SS} {H:Hp} {s:Shared} {Q:VK} {W:Addr->Prop} {k:Bool} (I:L2.Inv X pins σ H s) (q:OkQ X.K W H Q (.bl k)):EP X pins σ Q (.bool k) s :=
 ⟨.bl k,H,I,rfl,q _ H (Same.refl H) (Rep.bl.mpr rfl)⟩
theorem op_eqD {k:Nat} (hr:Room k X.A):OpR X (compareOp .Eq) (rD X eqF):=by
 intro pins s σ H x y v u Q I rx ry ⟨W,a,b,tk,ra,rb,z,e,q⟩;obtain ⟨hc,rfl⟩:=ite_ok e;rw [Bool.and_eq_true] at hc;obtain ⟨c1,c2⟩:=cmpOk_parts hc.1;obtain ⟨c3,c4⟩:=cmpOk_parts hc.2;obtain ⟨as,r1⟩:=rep_reads I a x v (ra.mono hid_sub) rx;obtain ⟨bs,r2⟩:=rep_reads I b y u (rb.mono hid_sub) ry;exact PySem.SeqAt.compareEq_reads r1 r2 c1 c3 (by have:=room_units hr;lia) (fin_bl' I q)
theorem op_neD {k:Nat} (hr:Room k X.A):OpR X (compareOp .NotEq) (rD X neF):=by
 intro pins s σ H x y v u Q I rx ry ⟨W,a,b,tk,ra,rb,z,e,q⟩;obtain ⟨hc,rfl⟩:=ite_ok e;rw [Bool.and_eq_true] at hc;obtain ⟨c1,c2⟩:=cmpOk_parts hc.1;obtain ⟨c3,c4⟩:=cmpOk_parts hc.2;obtain ⟨as,r1⟩:=rep_reads I a x v (ra.mono hid_sub) rx;obtain ⟨bs,r2⟩:=rep_reads I b y u (rb.mono hid_sub) ry;exact PySem.SeqAt.compareNe_reads r1 r2 c1 c3 (by have:=room_units hr;lia) (fin_bl' I q)
theorem op_inD {k:Nat} (hr:Room k X.A):OpR X (compareOp .In) (rD X inF):=by
 intro pins s σ H x y v u Q I rx ry ⟨W,a,b,tk,ra,rb,z,e,q⟩;have hu:=room_units hr;obtain ⟨as,r1⟩:=rep_reads I a x v (ra.mono hid_sub) rx;obtain ⟨bs,r2⟩:=rep_reads I b y u (rb.mono hid_sub) ry;cases b with
 | lst xs =>
  simp only [inF] at e;obtain ⟨hc,rfl⟩:=ite_ok e;rw [Bool.and_eq_true] at hc;obtain ⟨c1,c2⟩:=cmpOk_parts hc.1;obtain ⟨c3,c4⟩:=cmpOk_parts hc.2;simp only [dat] at r2 c3 c4;refine PySem.SeqAt.in_list_reads r2 r1 (by simpa [PyData.canLay0] using c3) c1 (by lia) ?_;rw [any_dats];exact fin_bl' I q
 | tup xs =>
  simp only [inF] at e;obtain ⟨hc,rfl⟩:=ite_ok e;rw [Bool.and_eq_true] at hc;obtain ⟨c1,c2⟩:=cmpOk_parts hc.1;obtain ⟨c3,c4⟩:=cmpOk_parts hc.2;simp only [dat] at r2 c3 c4;refine PySem.SeqAt.in_tuple_reads r2 r1 (by simpa [PyData.canLay0] using c3) c1 (by lia) ?_;rw [any_dats];exact fin_bl' I q
 | _=>simp [inF] at e
theorem op_ninD {k:Nat} (hr:Room k X.A):OpR X (compareOp .NotIn) (rD X ninF):=by
 intro pins s σ H x y v u Q I rx ry ⟨W,a,b,tk,ra,rb,z,e,q⟩;have hu:=room_units hr;obtain ⟨as,r1⟩:=rep_reads I a x v (ra.mono hid_sub) rx;obtain ⟨bs,r2⟩:=rep_reads I b y u (rb.mono hid_sub) ry;cases b with
 | lst xs =>
  simp only [ninF] at e;obtain ⟨hc,rfl⟩:=ite_ok e;rw [Bool.and_eq_true] at hc;obtain ⟨c1,c2⟩:=cmpOk_parts hc.1;obtain ⟨c3,c4⟩:=cmpOk_parts hc.2;simp only [dat] at r2 c3 c4;refine PySem.SeqAt.notIn_list_reads r2 r1 (by simpa [PyData.canLay0] using c3) c1 (by lia) ?_;rw [any_dats];exact fin_bl' I q
 | tup xs =>
  simp only [ninF] at e;obtain ⟨hc,rfl⟩:=ite_ok e;rw [Bool.and_eq_true] at hc;obtain ⟨c1,c2⟩:=cmpOk_parts hc.1;obtain ⟨c3,c4⟩:=cmpOk_parts hc.2;simp only [dat] at r2 c3 c4;refine PySem.SeqAt.notIn_tuple_reads r2 r1 (by simpa [PyData.canLay0] using c3) c1 (by lia) ?_;rw [any_dats];exact fin_bl' I q
 | _=>simp [ninF] at e
end
end Pu
namespace Pu
open PySem PySem.Spec PyProof.Rows L2
def i2 (f:Int->Int->Res PV):PV->PV->Res PV
 | .int i,.int j=>f i j
 | _,_=>.bad
def subF:PV->PV->Res PV:=i2 fun i j=>.ok (.int (i-j))
def modF:PV->PV->Res PV:=i2 fun i j=>if 0<j then .ok (.int (i % j)) else .bad
def fdvF:PV->PV->Res PV:=i2 fun i j=>if 0<j/\j<1073741824 then .ok (.int (i/j)) else .bad
def powF:PV->PV->Res PV:=i2 fun i j=>if 0<=j/\j<=1000000/\i.natAbs<2 ^ 64 then .ok (.int (i ^ j.toNat)) else .bad
def ltF:PV->PV->Res PV:=i2 fun i j=>.ok (.bl (decide (i<j)))
def leF:PV->PV->Res PV:=i2 fun i j=>.ok (.bl (decide (i<=j)))
def gtF:PV->PV->Res PV:=i2 fun i j=>.ok (.bl (decide (j<i)))
def geF:PV->PV->Res PV:=i2 fun i j=>.ok (.bl (decide (j<=i)))
def addF:PV->PV->Res PV
 | .int i,.int j=>.ok (.int (i+j))
 | .str x,.str y=>if x.length+y.length<=sizeLine then .ok (.str (x++y)) else .bad
 | .lst xs,.lst ys=>szOk (xs.length+ys.length) (.lst (xs++ys))
 | .tup xs,.tup ys=>szOk (xs.length+ys.length) (.tup (xs++ys))
 | _,_=>.bad
def mulF:PV->PV->Res PV
 | .int i,.int j=>if (-(2 ^ 64)<i/\i<2 ^ 64)\/(-(2 ^ 64)<j/\j<2 ^ 64) then .ok (.int (i*j)) else .bad
 | .tup xs,.int k=>if -(2 ^ 60)<=k/\k<2 ^ 60/\xs.length*k.toNat<=sizeLine then .ok (.tup (List.replicate k.toNat xs).flatten) else .bad
 | .lst xs,.int k=>if -(2 ^ 60)<=k/\k<2 ^ 60/\xs.length*k.toNat<=sizeLine then .ok (.lst (List.replicate k.toNat xs).flatten) else .bad
 | _,_=>.bad
theorem nx_i2 {f:Int->Int->Res PV} (h:∀ i j,(∃ z,f i j=.ok z)\/f i j=.bad):NoX (i2 f):=nx_of fun v u=>by
 cases v<;>cases u<;>simp only [i2]<;>first | exact h _ _ | exact .inr trivial | exact .inr rfl
theorem ite_resP {c:Prop} [Decidable c] {z:PV}:(∃ y,(if c then Res.ok z else Res.bad)=.ok y)\/(if c then Res.ok z else Res.bad:Res PV)=.bad:=by
 by_cases h:c<;>simp [h]
theorem ite_okP {c:Prop} [Decidable c] {z y:PV} (h:(if c then Res.ok z else Res.bad)=.ok y):c/\y=z:=by
 by_cases hc:c
 ·rw [if_pos hc] at h;cases h;exact ⟨hc,rfl⟩
 ·rw [if_neg hc] at h;cases h
theorem nx_sub:NoX subF:=nx_i2 fun _ _=>.inl ⟨_,rfl⟩
theorem nx_mod:NoX modF:=nx_i2 fun _ _=>ite_resP
theorem nx_fdv:NoX fdvF:=nx_i2 fun _ _=>ite_resP
theorem nx_pow:NoX powF:=nx_i2 fun _ _=>ite_resP
theorem nx_lt:NoX ltF:=nx_i2 fun _ _=>.inl ⟨_,rfl⟩
theorem nx_le:NoX leF:=nx_i2 fun _ _=>.inl ⟨_,rfl⟩
theorem nx_gt:NoX gtF:=nx_i2 fun _ _=>.inl ⟨_,rfl⟩
theorem szOk_res {n:Nat} {v:PV}:(∃ z,szOk n v=.ok z)\/szOk n v=.bad:=by unfold szOk;exact ite_resP
theorem nx_add:NoX addF:=nx_of fun v u=>by
 cases v<;>cases u<;>simp only [addF]<;>first | exact ite_resP | exact szOk_res | exact .inr trivial | exact .inr rfl | exact .inl ⟨_,rfl⟩
theorem nx_mul:NoX mulF:=nx_of fun v u=>by
 cases v<;>cases u<;>simp only [mulF]<;>first | exact ite_resP | exact .inr trivial | exact .inr rfl
section
variable {X:Cx}
theorem i2_ok {f:Int->Int->Res PV} {v u z:PV} (h:i2 f v u=.ok z):∃ i j,v=.int i/\u=.int j/\f i j=.ok z:=by
 cases v<;>cases u<;>simp only [i2] at h<;>first | exact ⟨_,_,rfl,rfl,h⟩ | cases h
theorem okI {W:Addr->Prop} {H:Hp} {Q:VK} {i:Int} (q:OkQ X.K W H Q (.int i)):Q (.int i) H:=q _ H (Same.refl H) (Rep.int.mpr rfl)
theorem okB {W:Addr->Prop} {H:Hp} {Q:VK} {i:Bool} (q:OkQ X.K W H Q (.bl i)):Q (.bl i) H:=q _ H (Same.refl H) (Rep.bl.mpr rfl)
theorem okS {W:Addr->Prop} {H:Hp} {Q:VK} {i:Str} (q:OkQ X.K W H Q (.str i)):Q (.str i) H:=q _ H (Same.refl H) (Rep.str.mpr rfl)
theorem OpR.use {f:Value->Value->Sem Value} {r r':R2} (h:OpR X f r) (i:∀ x y H Q,r' x y H Q->r x y H Q):OpR X f r':=fun pins s σ H x y v u Q I rx ry q=>h pins s σ H x y v u Q I rx ry (i x y H Q q)
theorem op_subD:OpR X (binaryOp .Sub) (rD X subF):=OpR.use op_sub fun x y H Q ⟨W,a,b,tk,ra,rb,z,e,q⟩=>by
 obtain ⟨i,j,rfl,rfl,e⟩:=i2_ok e;cases e;exact ⟨i,j,Rep.int.mp ra,Rep.int.mp rb,okI q⟩
theorem op_modD:OpR X (binaryOp .Mod) (rD X modF):=OpR.use op_mod fun x y H Q ⟨W,a,b,tk,ra,rb,z,e,q⟩=>by
 obtain ⟨i,j,rfl,rfl,e⟩:=i2_ok e;obtain ⟨c,rfl⟩:=ite_okP e;exact ⟨i,j,Rep.int.mp ra,Rep.int.mp rb,c,okI q⟩
theorem op_fdvD:OpR X (binaryOp .FloorDiv) (rD X fdvF):=OpR.use op_fdiv fun x y H Q ⟨W,a,b,tk,ra,rb,z,e,q⟩=>by
 obtain ⟨i,j,rfl,rfl,e⟩:=i2_ok e;obtain ⟨c,rfl⟩:=ite_okP e;exact ⟨i,j,Rep.int.mp ra,Rep.int.mp rb,c,okI q⟩
theorem op_powD:OpR X (binaryOp .Pow) (rD X powF):=OpR.use op_pow fun x y H Q ⟨W,a,b,tk,ra,rb,z,e,q⟩=>by
 obtain ⟨i,j,rfl,rfl,e⟩:=i2_ok e;obtain ⟨c,rfl⟩:=ite_okP e;exact ⟨i,j,Rep.int.mp ra,Rep.int.mp rb,c,okI q⟩
theorem op_ltD:OpR X (compareOp .Lt) (rD X ltF):=OpR.use op_lt fun x y H Q ⟨W,a,b,tk,ra,rb,z,e,q⟩=>by
 obtain ⟨i,j,rfl,rfl,e⟩:=i2_ok e;cases e;exact ⟨i,j,Rep.int.mp ra,Rep.int.mp rb,okB q⟩
theorem op_leD:OpR X (compareOp .LtE) (rD X leF):=OpR.use op_le fun x y H Q ⟨W,a,b,tk,ra,rb,z,e,q⟩=>by
 obtain ⟨i,j,rfl,rfl,e⟩:=i2_ok e;cases e;exact ⟨i,j,Rep.int.mp ra,Rep.int.mp rb,okB q⟩
theorem op_gtD:OpR X (compareOp .Gt) (rD X gtF):=OpR.use op_gt fun x y H Q ⟨W,a,b,tk,ra,rb,z,e,q⟩=>by
 obtain ⟨i,j,rfl,rfl,e⟩:=i2_ok e;cases e;exact ⟨i,j,Rep.int.mp ra,Rep.int.mp rb,okB q⟩
theorem op_catL:OpR X (binaryOp .Add) (fun x y H Q=>∃ l b xs zs,x=.ref l/\y=.ref b/\SqL X.K H l xs/\SqL X.K H b zs/\xs.length+zs.length<=sizeLine/\∀ p,H p=none->Q (.ref p) (upd H p (.lst (xs++zs)))):=by
 intro pins s σ H x y v u Q I rx ry ⟨l,b,xs,zs,e1,e2,h1,h2,hz,q⟩;subst e1 e2;cases rx;cases ry;obtain ⟨its,r,pl,z⟩:=I.list h1;obtain ⟨its2,r2,pl2,z2⟩:=I.list h2;obtain ⟨⟨c1,d1,dt1,sl1⟩,o1,hc1,n1,hd1⟩:=pl.isList;obtain ⟨⟨c2,d2,dt2,sl2⟩,o2,hc2,n2,hd2⟩:=pl2.isList;simp only at hc1 hd1 hc2 hd2;subst hc1 hd1 hc2 hd2;have l1:=r.length;have l2:=r2.length;refine concat_meets ⟨_,o1,rfl⟩ ⟨_,o2,rfl⟩ noFill_list_add seq_list_add PySem.F.slot_list_add PySem.F.entry_list_add (PySem.F.args_list_add_2 _ _) (list_addW l b its.toArray its2.toArray n1 n2 d1 d2 sl1 sl2 (by rw [List.size_toArray,List.size_toArray];lia)) ⟨o1,o2,?_⟩;have ea:its.toArray++its2.toArray=(its++its2).toArray:=by simp
 rw [ea];exact ⟨.ref _,_,I.lnew (t':=s.toks) (r.append r2) (by rw [List.length_append];lia),rfl,q _ I.fresh⟩
theorem op_catT0:OpR X (binaryOp .Add) (fun x y H Q=>∃ a b ys,x=.ref a/\y=.ref b/\SqT X.K H a []/\SqT X.K H b ys/\Q (.ref b) H):=by
 intro pins s σ H x y v u Q I rx ry ⟨a,b,ys,e1,e2,h1,h2,q⟩;subst e1 e2;cases rx;cases ry;obtain ⟨its,r,ht,_⟩:=I.tuple h1;obtain ⟨its2,r2,hb,_⟩:=I.tuple h2;cases r;obtain ⟨⟨cls,dd,data,sl⟩,ho,hc,n,hd⟩:=id ht;obtain ⟨⟨cls2,dd2,data2,sl2⟩,ho2,hc2,n2,hd2⟩:=id hb;simp only at hc hd hc2 hd2;subst hc hd hc2 hd2;exact concat_meets ⟨_,ho,rfl⟩ ⟨_,ho2,rfl⟩ noFill_tuple_add seq_tuple_add PySem.F.slot_tuple_add PySem.F.entry_tuple_add (PySem.F.args_tuple_add_2 _ _)
   (tuple_addW0 a b _ its2.toArray n n2 dd dd2 sl sl2 (by simp)) ⟨ho,ho2,⟨.ref b,H,I,rfl,q⟩⟩
theorem op_addD:OpR X (binaryOp .Add) (rD X addF):=by
 intro pins s σ H x y v u Q I rx ry ⟨W,a,b,tk,ra,rb,z,e,q⟩;cases a<;>cases b<;>simp only [addF] at e<;>try cases e
 case int.int i j=>exact op_add pins s σ H x y v u Q I rx ry ⟨i,j,Rep.int.mp ra,Rep.int.mp rb,okI q⟩
 case str.str i j =>
  obtain ⟨c,rfl⟩:=ite_okP e;exact op_add_str pins s σ H x y v u Q I rx ry ⟨i,j,Rep.str.mp ra,Rep.str.mp rb,c,okS q⟩
 case lst.lst as bs =>
  obtain ⟨c,rfl⟩:=ite_okP (show (if as.length+bs.length<=sizeLine then Res.ok (PV.lst (as++bs)) else .bad)=.ok z from e)
  obtain ⟨l,xs,rfl,h1,h2⟩:=Rep.lst'.mp ra;obtain ⟨l2,ys,rfl,h3,h4⟩:=Rep.lst'.mp rb;exact op_catL pins s σ H _ _ v u Q I rx ry ⟨l,l2,xs,ys,rfl,rfl,sqL_of h1,sqL_of h3,by rw [h2.length,h4.length];exact c,fun p hp=>okQ_lst q tk (h2.append h4) hp⟩
 case tup.tup as bs =>
  obtain ⟨c,rfl⟩:=ite_okP (show (if as.length+bs.length<=sizeLine then Res.ok (PV.tup (as++bs)) else .bad)=.ok z from e)
  obtain ⟨l,xs,rfl,h1,h2⟩:=Rep.tup'.mp ra;obtain ⟨l2,ys,rfl,h3,h4⟩:=Rep.tup'.mp rb
  by_cases hx:xs=[]
  ·subst hx;have:as=[]:=by have:=h2.length;cases as<;>simp_all
   subst this;exact op_catT0 pins s σ H _ _ v u Q I rx ry ⟨l,l2,ys,rfl,rfl,sqT_of h1,sqT_of h3,q _ H (Same.refl H) (by simpa using rb)⟩
  ·refine op_catT pins s σ H _ _ v u Q I rx ry ⟨l,l2,xs,ys,rfl,rfl,sqT_of h1,sqT_of h3,hx,by rw [h2.length,h4.length];exact c,fun hy=>?_,fun _ p hp=>okQ_tup q tk (h2.append h4) hp⟩
   subst hy;have:bs=[]:=by have:=h4.length;cases bs<;>simp_all
   subst this;exact q _ H (Same.refl H) (by simpa using ra)
end
end Pu
namespace Pu
open PySem PySem.Spec PyProof.Rows L2
open PySem.AutoSeq1 (wpAny_loadPart')
theorem noFill_tuple_mul:fillsNumberSlot (.type "tuple") "mul" = pure false :=
 PySem.fillsNumberSlot_seq (id := "tuple.__mul__") (r:=some (.builtin "tuple.__rmul__")) PySem.F.slot_tuple_mul.lookup (by decide +kernel) PySem.F.slot_tuple_rmul.lookup (by decide +kernel)
theorem repeat_tuple:seqRepeat? (.type "tuple")=pure (some (.builtin "tuple.__mul__")):=by
 unfold seqRepeat?;rw [PySem.seqSlot_of (T := "tuple") (name := "__mul__") (id := "tuple.__mul__") PySem.F.slot_tuple_mul.lookup (by decide +kernel),PySem.seqSlot_of (T := "tuple") (name := "__rmul__") (id := "tuple.__rmul__") PySem.F.slot_tuple_rmul.lookup (by decide +kernel)];rfl
theorem int_rmul_tuple (a:Int) (t:Tok) (l:Addr) (items:Array Value) (n:Nat) (dd:Option Addr) (sl:Array (Option Value)) :
  Meets (Builtin.«int.__rmul__» ⟨[.int a t,.ref l],[]⟩) (fun _ R s=>s.heap.get? l=some {cls:=.type "tuple",dict:=dd,data:=.seq items n,slots:=sl}/\R (.ok (.ret Value.notImplemented)) s) :=
 .of_wp fun prog w A R s h=>by obtain ⟨hp,g,d,tk,os⟩:=s;obtain ⟨hl,h⟩:=h;wp_walk;exact ⟨_,rfl,h⟩
theorem tuple_mul_meets (l:Addr) (its:List Value) (n:Nat) (dd:Option Addr) (sl:Array (Option Value)) (x:Int) (u:Tok) (h1 : -(2 ^ 60)<=x) (h2:x<2 ^ 60) (hz:its.length*x.toNat<=sizeLine) :
  Meets (Builtin.«tuple.__mul__» ⟨[.ref l,.int x u],[]⟩) (fun _ R s=>s.heap.get? l=some {cls:=.type "tuple",dict:=dd,data:=.seq its.toArray n,slots:=sl} /\
   ((its=[]\/x=1)->R (.ok (.ret (Value.ref l))) s)/\(¬ (its=[]\/x=1)->R (.ok (.ret (Value.ref s.heap.objs.size))) {s with heap:=s.heap.push {cls:=Value.type "tuple",data:=Data.seq (List.replicate x.toNat its).flatten.toArray}})) :=
 .of_wp fun prog w A R s h=>by
  obtain ⟨hp,g,d,tk,os⟩:=s;obtain ⟨hl,ha,hb⟩:=h;have f1:=AutoSeq1.idx_int;have f2:=AutoSeq1.sub_tuple_tuple;have hs:(sizeLine:Nat)=16777216:=sizeLine_eq
  wp_walk using wpAny_loadPart' hl
  refine wpAny_ite_split (fun c=>absurd c ?_) (fun _=>?_)
  ·intro c;simp only [Bool.or_eq_true,decide_eq_true_eq] at c;lia
  wp_walk using wpAny_loadPart' hl
  refine wpAny_ite_split (fun c=>?_) (fun c=>?_)
  ·wp_walk using wpAny_loadPart' hl
   have:its=[]\/x=1:=by
    rw [Bool.or_eq_true] at c
    rcases c with c | c
    ·left;simpa using c
    ·right;simpa using c
   exact ⟨_,rfl,ha this⟩
  ·have nc:¬ (its=[]\/x=1):=fun q=>c (by rcases q with q | q<;>simp [q])
   have he:its≠[]:=fun q=>nc (.inl q)
   wp_walk
   refine wpAny_ite_split (fun c2=>?_) (fun c2=>?_)
   ·have hx:x.toNat=0:=by
     rw [Bool.or_eq_true,decide_eq_true_eq] at c2
     rcases c2 with c2 | c2
     ·lia
     ·exact absurd (by simpa using c2) he
    have e:(List.replicate x.toNat its).flatten.toArray=(#[]:Array Value):=by rw [hx];rfl
    have hb':=hb nc;rw [e] at hb'
    wp_walk
    exact ⟨_,rfl,hb'⟩
   ·have hx:0<x:=by
     rw [Bool.or_eq_true,decide_eq_true_eq] at c2
     lia
    have hxt:(x.toNat:Int)=x:=Int.toNat_of_nonneg (by lia);have hprod:((its.toArray.size:Int))*x<=16777216:=by
     have:(((its.length*x.toNat:Nat)):Int)<=16777216:=by lia
     rw [Int.natCast_mul,hxt] at this;simpa using this
    wp_walk
    refine wpAny_ite_split (fun c3=>absurd c3 ?_) (fun _=>?_)
    ·lia
    wp_walk
    refine wpAny_ite_split (fun c3=>absurd c3 ?_) (fun _=>?_)
    ·intro c3;unfold Builtin.Tuple.tupleTooMany at c3;rw [decide_eq_true_eq] at c3
     lia
    have e:List.foldl (fun x1 x2=>x1++x2) #[] (List.replicate x.toNat its.toArray)=(List.replicate x.toNat its).flatten.toArray:=by
     have:=foldl_rep its x.toNat [];rw [List.nil_append] at this;exact this
    have hb':=hb nc;have hsz:sizeOk (.seq (List.replicate x.toNat its).flatten.toArray):=by
     show (List.replicate x.toNat its).flatten.toArray.size<=sizeLine;rw [List.size_toArray,len_rep,Nat.mul_comm];exact hz
    rw [e]
    first
     | exact wpAny_bind (m:=Builtin.Tuple.tupleExact _) (wpAny_newObj_type (wpAny_pure ⟨_,rfl,hb'⟩) hsz)
     | exact wpAny_bind (m:=Builtin.Tuple.tupleExact _) (wpAny_newObj_type (wpAny_bind (wpAny_pure ⟨_,rfl,hb'⟩)) hsz)
section
variable {X:Cx}
theorem op_mulT:OpR X (binaryOp .Mult) (fun x y H Q=>∃ l k xs,x=.ref l/\y=.int k/\SqT X.K H l xs /\ -(2 ^ 60)<=k/\k<2 ^ 60/\xs.length*k.toNat<=sizeLine /\
  ((xs=[]\/k=1)->Q (.ref l) H)/\∀ p,H p=none->Q (.ref p) (upd H p (.tup (List.replicate k.toNat xs).flatten))):=by
 intro pins s σ H x y v u Q I rx ry ⟨l,k,xs,e1,e2,h1,k1,k2,hz,q1,q2⟩;subst e1 e2;cases rx;obtain ⟨t,rfl⟩:=ry;obtain ⟨its,r,ht,_⟩:=I.tuple h1;obtain ⟨⟨cls,dd,data,sl⟩,ho,hc,n,hd⟩:=id ht;simp only at hc hd;subst hc hd;have hlen:=r.length;refine wpAny_binaryOp_repeat_ref (T := "tuple") (U := "int") (by decide) ⟨_,ho,rfl⟩ (fun s'=>typeIs_int s' k t) noFill_tuple_mul PySem.F.fills_int_mul PySem.F.slot_int_rmul repeat_tuple PySem.F.slot_int_index.lookup
  (call_meets PySem.F.slot_int_rmul (typeIs_int s k t) PySem.F.entry_int_rmul (PySem.F.args_int_rmul_2 _ _) (int_rmul_tuple k t l its.toArray n dd sl)
   ⟨ho,rfl,⟨_,ho,rfl⟩,call_meets PySem.F.slot_tuple_mul ⟨_,ho,rfl⟩ PySem.F.entry_tuple_mul (PySem.F.args_tuple_mul_2 _ _) (tuple_mul_meets l its n dd sl k t k1 k2 (by rw [<- hlen];exact hz)) ⟨ho,fun c=>?_,fun _=>?_⟩⟩)
 ·exact ⟨.ref l,H,I,rfl,q1 (c.imp (fun e=>by rw [e] at hlen;exact List.length_eq_zero_iff.mp hlen) id)⟩
 ·refine ⟨.ref s.heap.objs.size,_,I.laid (t':=s.toks) (o:=.tup (List.replicate k.toNat xs).flatten) (fun b ob q=>Heap.get?_push_of_some _ q) (Nat.le_refl _) ?_,rfl,q2 _ I.fresh⟩;exact ⟨by rw [len_rep,Nat.mul_comm];exact hz,_,r.rep k.toNat,IsTupD.new _ _⟩
theorem list_mul_meets (l:Addr) (items:Array Value) (n:Nat) (dd:Option Addr) (sl:Array (Option Value)) (x:Int) (u:Tok) (hc0:¬(!Builtin.List.listFitsIndex x)=true) (hc1:¬items.size*x.toNat>(2 ^ 63-1)/8) (hc2:¬Builtin.List.listTooLong (items.size*x.toNat)=true) :
  Meets (Builtin.«list.__mul__» ⟨[.ref l,.int x u],[]⟩) (fun _ R s=>s.heap.get? l=some {cls:=.type "list",dict:=dd,data:=.seq items n,slots:=sl}/\R (.ok (.ret (Value.ref s.heap.objs.size))) {s with heap:=s.heap.push {cls:=Value.type "list",data:=Data.seq (List.foldl (fun x1 x2=>x1++x2) #[] (List.replicate (if items.isEmpty=true then 0 else x.toNat) items))}}) :=
 .of_wp fun prog w A R s h=>by
  obtain ⟨hp,g,d,tk,os⟩:=s;obtain ⟨hl,h⟩:=h;have hsz:=AutoListH.joined_fits hc2
  wp_walk using wpAny_loadPart' hl;refine wpAny_ite_false (decide_eq_false (Nat.not_lt.mpr hsz)) ?_;wp_walk using wpAny_loadPart' hl;exact ⟨_,rfl,h⟩
theorem int_rmul_list (a:Int) (t:Tok) (l:Addr) (items:Array Value) (n:Nat) (dd:Option Addr) (sl:Array (Option Value)) :
  Meets (Builtin.«int.__rmul__» ⟨[.int a t,.ref l],[]⟩) (fun _ R s=>s.heap.get? l=some {cls:=.type "list",dict:=dd,data:=.seq items n,slots:=sl}/\R (.ok (.ret Value.notImplemented)) s) :=
 .of_wp fun prog w A R s h=>by obtain ⟨hp,g,d,tk,os⟩:=s;obtain ⟨hl,h⟩:=h;wp_walk;exact ⟨_,rfl,h⟩
theorem op_mulL:OpR X (binaryOp .Mult) (fun x y H Q=>∃ l k xs,x=.ref l/\y=.int k/\SqL X.K H l xs /\ -(2 ^ 60)<=k/\k<2 ^ 60/\xs.length*k.toNat<=sizeLine /\
  ∀ p,H p=none->Q (.ref p) (upd H p (.lst (List.replicate k.toNat xs).flatten))):=by
 intro pins s σ H x y v u Q I rx ry ⟨l,k,xs,e1,e2,h1,k1,k2,hz,q⟩;subst e1 e2;cases rx;obtain ⟨t,rfl⟩:=ry;obtain ⟨its,r,pl,z⟩:=I.list h1;obtain ⟨⟨c1,d1,dt1,sl1⟩,o1,hc1,n1,hd1⟩:=pl.isList;simp only at hc1 hd1;subst hc1 hd1;have hl:=r.length;have hlen:its.toArray.size*k.toNat<=sizeLine:=by rw [List.size_toArray,<- hl];exact hz
 have hcap:¬ its.toArray.size*k.toNat>(2 ^ 63-1)/8:=by
  have:(sizeLine:Nat)<=(2 ^ 63-1)/8:=by decide
  lia
 have hfit:¬ (!Builtin.List.listFitsIndex k)=true:=by
  rw [fitsIndex_both (by lia) (by lia)];exact Bool.false_ne_true
 have hlong:¬ Builtin.List.listTooLong (its.toArray.size*k.toNat)=true:=by
  rw [notLongL hlen];exact Bool.false_ne_true
 have hnew:List.foldl (fun x1 x2=>x1++x2) #[] (List.replicate (if its.toArray.isEmpty=true then 0 else k.toNat) its.toArray)=(List.replicate k.toNat its).flatten.toArray:=by
  have f0:∀ m:Nat,List.foldl (fun x1 x2=>x1++x2) #[] (List.replicate m its.toArray)=(List.replicate m its).flatten.toArray:=fun m=>by
   have:=foldl_rep its m [];rw [List.nil_append] at this;exact this
  rw [f0];cases its with
  | nil=>simp
  | cons a r'=>rw [if_neg (by simp)]
 refine wpAny_binaryOp_repeat_ref (T := "list") (U := "int") (by decide) ⟨_,o1,rfl⟩ (fun s'=>typeIs_int s' k t) noFill_list_mul PySem.F.fills_int_mul PySem.F.slot_int_rmul repeat_list PySem.F.slot_int_index.lookup
  (call_meets PySem.F.slot_int_rmul (typeIs_int s k t) PySem.F.entry_int_rmul (PySem.F.args_int_rmul_2 _ _) (int_rmul_list k t l its.toArray n1 d1 sl1)
   ⟨o1,rfl,⟨_,o1,rfl⟩,call_meets PySem.F.slot_list_mul ⟨_,o1,rfl⟩ PySem.F.entry_list_mul (PySem.F.args_list_mul_2 _ _) (list_mul_meets l its.toArray n1 d1 sl1 k t hfit hcap hlong) ⟨o1,?_⟩⟩)
 rw [hnew];exact ⟨.ref _,_,I.lnew (t':=s.toks) (r.rep k.toNat) (by rw [len_rep,Nat.mul_comm];exact hz),rfl,q _ I.fresh⟩
theorem flat_one {α:Type} (xs:List α):(List.replicate 1 xs).flatten=xs:=by simp
theorem flat_nil {α:Type} (k:Nat):(List.replicate k ([]:List α)).flatten=[]:=by simp
theorem op_mulD:OpR X (binaryOp .Mult) (rD X mulF):=by
 intro pins s σ H x y v u Q I rx ry ⟨W,a,b,tk,ra,rb,z,e,q⟩;cases a<;>cases b<;>simp only [mulF] at e<;>try cases e
 case int.int i j =>
  obtain ⟨c,rfl⟩:=ite_okP e;exact op_mul pins s σ H x y v u Q I rx ry ⟨i,j,Rep.int.mp ra,Rep.int.mp rb,c,okI q⟩
 case tup.int as k =>
  obtain ⟨c,rfl⟩:=ite_okP e;obtain ⟨l,xs,rfl,h1,h2⟩:=Rep.tup'.mp ra;have hl:=h2.length;refine op_mulT pins s σ H _ _ v u Q I rx ry ⟨l,k,xs,rfl,Rep.int.mp rb,sqT_of h1,c.1,c.2.1,by rw [hl];exact c.2.2,fun hq=>?_,fun p hp=>okQ_tup q tk (h2.rep _) hp⟩
  rcases hq with hq | hq
  ·subst hq;have:as=[]:=by cases as<;>simp_all
   subst this;rw [flat_nil] at q;exact q _ H (Same.refl H) ra
  ·subst hq;rw [show (1:Int).toNat=1 from rfl,flat_one] at q
   exact q _ H (Same.refl H) ra
 case lst.int as k =>
  obtain ⟨c,rfl⟩:=ite_okP e;obtain ⟨l,xs,rfl,h1,h2⟩:=Rep.lst'.mp ra;have hl:=h2.length;exact op_mulL pins s σ H _ _ v u Q I rx ry ⟨l,k,xs,rfl,Rep.int.mp rb,sqL_of h1,c.1,c.2.1,by rw [hl];exact c.2.2,fun p hp=>okQ_lst q tk (h2.rep _) hp⟩
end
end Pu
namespace Pu
open PySem PySem.Spec PyProof.Rows L2
def atF (xs:List PV) (i:Int):Res PV:=match atI xs i with
 | some v=>.ok v
 | none=>.bad
def ixF:PV->PV->Res PV
 | .lst xs,.int i=>atF xs i
 | .tup xs,.int i=>atF xs i
 | _,_=>.bad
theorem atF_res (xs:List PV) (i:Int):(∃ z,atF xs i=.ok z)\/atF xs i=.bad:=by
 unfold atF;cases atI xs i<;>simp
theorem nx_ix:NoX ixF:=nx_of fun v u=>by
 cases v<;>cases u<;>simp only [ixF]<;>first | exact atF_res _ _ | exact .inr trivial | exact .inr rfl
theorem atF_ok {K:PySem.W.Frag} {H:Hp} {vs:List PV} {xs:List V} {i:Int} {z:PV} (h:atF vs i=.ok z) (r:Reps K H vs xs):∃ x,atI xs i=some x/\Rep K H z x:=by
 unfold atF at h;cases e:atI vs i with
 | none=>rw [e] at h;cases h
 | some v =>
  rw [e] at h;cases h;unfold atI at e ⊢;rw [r.length];cases e2:ixN vs.length i with
  | none=>rw [e2] at e;cases e
  | some j =>
   rw [e2] at e;exact r.get e
section
variable {X:Cx}
theorem ix_D:IxR X (rD X ixF):=by
 intro value slice pins s σ H x y v u Q I rx ry ⟨W,a,b,tk,ra,rb,z,e,q⟩ hs;cases a<;>cases b<;>simp only [ixF] at e<;>try cases e
 case lst.int as i =>
  obtain ⟨l,xs,rfl,h1,h2⟩:=Rep.lst'.mp ra;obtain ⟨w,e1,r1⟩:=atF_ok e h2;exact ix_list value slice pins s σ H _ y v u Q I rx ry ⟨l,xs,i,w,rfl,Rep.int.mp rb,sqL_of h1,e1,q w H (Same.refl H) r1⟩ hs
 case tup.int as i =>
  obtain ⟨l,xs,rfl,h1,h2⟩:=Rep.tup'.mp ra;obtain ⟨w,e1,r1⟩:=atF_ok e h2;exact ix_tup value slice pins s σ H _ y v u Q I rx ry ⟨l,xs,i,w,rfl,Rep.int.mp rb,sqT_of h1,e1,q w H (Same.refl H) r1⟩ hs
end
def cutP {α:Type} (xs:List α) (lo hi:Option Int):List α:=(xs.drop (HT.sIx xs.length 0 lo)).take (HT.sIx xs.length xs.length hi-HT.sIx xs.length 0 lo)
def slF (lo hi:Option Int):PV->Res PV
 | .lst xs=>.ok (.lst (cutP xs lo hi))
 | .tup xs=>.ok (.tup (cutP xs lo hi))
 | _=>.bad
theorem cut_reps {K:PySem.W.Frag} {H:Hp} {vs:List PV} {xs:List V} {lo hi:Option Int} (r:Reps K H vs xs):Reps K H (cutP vs lo hi) (cutV xs lo hi):=by
 unfold cutP cutV;rw [r.length];exact (r.drop _).take _
section
variable {prog:Program} {w:World} {A:Around} {E:Value->Shared->Prop} {s:Shared}
theorem getItem_tuple_whole {t sl:Addr} {items:Array Value} {vl vu:Value} {lo hi:Option Int} {Q:Value->Shared->Prop} (ht:IsTup s.heap t items) (hs:s.heap.IsSliceOf sl vl vu .none) (pl:IsPart vl lo) (pu:IsPart vu hi)
  (hw:HT.sIx items.size 0 lo=0/\HT.sIx items.size items.size hi=items.size) (h:Q (.ref t) s):wpAny (model prog w) A (getItem (.ref t) (.ref sl)) Q E s:=by
 obtain ⟨os,hos,hcs,hds⟩:=id hs;have hTs:s.TypeIs (.ref sl) "slice" := ⟨os,hos,hcs⟩;unfold getItem
 try with_reducible refine wpAny_holding ?_
 first | refine wpAny_bind (wpAny_pure ?_) | skip
 refine wpAny_bind (wpAny_sequenceKey ht.typeIs (by decide) ?_);refine wpAny_bind (wpAny_callSpecial?_slot (name:=Str.ofString "__getitem__") ht.typeIs PyProof.Rows.slot_tuple_getitem
  (wpAny_call_entry PyProof.Rows.slot_tuple_getitem ht.typeIs entry_tuple_getitem ?_ (args_tuple_getitem _ _)))
 show wpAny _ _ (Builtin.Tuple.tupleItemsOf (.ref t)>>=_) _ _ s;refine wpAny_bind (tupleItemsOf_ ht ?_);refine wpAny_bind (wpAny_typeOf hTs ?_);rw [if_pos (by decide)];refine wpAny_bind (HT.sliceApplied_gen hs pl pu ?_);have hyes:(((HT.sIx items.size 0 lo:Nat):Int)==0&&(1:Int)==1&&(HT.sIx items.size items.size hi-HT.sIx items.size 0 lo)==items.size)=true:=by
  rw [hw.1,hw.2];simp
 show wpAny _ _ (if (((HT.sIx items.size 0 lo:Nat):Int)==0&&(1:Int)==1&&(HT.sIx items.size items.size hi-HT.sIx items.size 0 lo)==items.size)=true then _ else _) _ _ s
 rw [if_pos hyes];refine wpAny_bind (m:=Builtin.Tuple.tupleIsExact _) ?_;refine wpAny_bind (wpAny_typeOf ht.typeIs (wpAny_pure ?_))
 first
  | (refine wpAny_bind (wpAny_rule ?_);exact wpAny_pure ⟨_,rfl,wpAny_pure h⟩)
  | (rw [if_pos (by decide)];refine wpAny_bind (wpAny_rule ?_);exact wpAny_pure ⟨_,rfl,wpAny_pure h⟩)
end
section
variable {X:Cx} {a b c:Expr} {da db dc:De} {pos p2:Pos}
theorem sl_tupD:SlR X (fun x lo hi H Q=>∃ l xs,x=.ref l/\SqT X.K H l xs/\((HT.sIx xs.length 0 lo=0/\HT.sIx xs.length xs.length hi=xs.length)->Q (.ref l) H)/\∀ p,H p=none->Q (.ref p) (upd H p (.tup (cutV xs lo hi)))):=by
 intro pins s σ H x v vl vu lo hi sl Q I rx hs pl pu ⟨l,xs,e,hx,q1,q2⟩;subst e
 by_cases hw:HT.sIx xs.length 0 lo=0/\HT.sIx xs.length xs.length hi=xs.length
 ·cases rx;obtain ⟨its,r,ht,hz⟩:=I.tuple hx;have hlen:its.toArray.size=xs.length:=by rw [List.size_toArray];exact r.length.symm
  refine ⟨"tuple",_,PyProof.Rows.slot_tuple_getitem.lookup,ht.typeIs,?_⟩;exact getItem_tuple_whole ht hs pl pu (by rw [hlen];exact hw) ⟨.ref l,H,I,rfl,q1 hw⟩
 ·exact sl_tup pins s σ H _ v vl vu lo hi sl Q I rx hs pl pu ⟨l,xs,rfl,hx,hw,q2⟩
def rSl (X:Cx):V->Option Int->Option Int->Hp->VK->Prop:=fun x lo hi H Q=>∃ W v,(∀ a,W a->H a≠none)/\Rep X.K (hid W H) v x/\∃ z,slF lo hi v=.ok z/\OkQ X.K W H Q z
theorem cut_whole {α:Type} (xs:List α) (lo hi:Option Int) (h:HT.sIx xs.length 0 lo=0/\HT.sIx xs.length xs.length hi=xs.length):cutP xs lo hi=xs:=by
 unfold cutP;rw [h.1,h.2];simp
theorem sl_D:SlR X (rSl X):=by
 intro pins s σ H x v vl vu lo hi sl Q I rx hs pl pu ⟨W,a,tk,ra,z,e,q⟩;cases a<;>simp only [slF] at e<;>try cases e
 case lst as =>
  obtain ⟨l,xs,rfl,h1,h2⟩:=Rep.lst'.mp ra;exact sl_list pins s σ H _ v vl vu lo hi sl Q I rx hs pl pu ⟨l,xs,rfl,sqL_of h1,fun p hp=>okQ_lst q tk (cut_reps h2) hp⟩
 case tup as =>
  obtain ⟨l,xs,rfl,h1,h2⟩:=Rep.tup'.mp ra;refine sl_tupD pins s σ H _ v vl vu lo hi sl Q I rx hs pl pu ⟨l,xs,rfl,sqT_of h1,fun hw=>?_,fun p hp=>okQ_tup q tk (cut_reps h2) hp⟩
  rw [h2.length] at hw;rw [cut_whole as lo hi hw] at q;exact q _ H (Same.refl H) ra
abbrev Dp:=En->Res (Option Int)
def FinP (X:Cx) (W:Addr->Prop) (H:Hp) (Q:Option Int->Hp->Prop):Res (Option Int)->Prop
 | .ok v=>∀ H',Same H H'->Q v H'
 | .exc x=>XW X x H
 | .bad=>False
def tDP (X:Cx) (d:Dp):TO:=fun σ H Q=>∃ W ρ,ER X.K W H σ ρ/\FinP X W H Q (d ρ)
def DP (X:Cx) (e:Option Expr) (d:Dp):Prop:=PO X e (tDP X d)
def asI:PV->Res (Option Int)
 | .int i=>.ok (some i)
 | _=>.bad
theorem dp_none:DP X none (fun _=>.ok none):=fun pins s σ H Q I ⟨W,ρ,er,h⟩=>po_none pins s σ H Q I (h H (Same.refl H))
theorem dp_some (ha:DE X a da):DP X (some a) (fun ρ=>(da ρ).bind asI):=fun pins s σ H Q I ⟨W,ρ,er,h⟩=>po_some ha pins s σ H Q I (by
 refine tD_of da er (k:=fun v=>FinP X W H Q (asI v)) ?_ fun v x H1 s1 er1 r1 h1=>?_
 ·replace h:FinP X W H Q ((da ρ).bind asI):=h
  cases e:da ρ with
  | ok v=>rw [e] at h;exact h
  | exc x=>rw [e] at h;exact h
  | bad=>rw [e] at h;exact h
 ·cases v with
  | int i=>exact ⟨i,Rep.int.mp r1,h1 H1 s1⟩
  | _=>exact h1.elim)
theorem tDP_of {W:Addr->Prop} {σ:SS} {ρ:En} {H:Hp} (d:Dp) {Q:Option Int->Hp->Prop} {k:Option Int->Prop} (er:ER X.K W H σ ρ) (h:On (d ρ) (fun x=>XW X x H) k)
  (hk:∀ v H',Same H H'->ER X.K W H' σ ρ->k v->Q v H'):tDP X d σ H Q:=by
 refine ⟨W,ρ,er,?_⟩;cases e:d ρ with
 | ok v=>rw [e] at h;exact fun H' s=>hk v H' s (er.mono s) h
 | exc x=>rw [e] at h;exact h
 | bad=>rw [e] at h;exact h
def eSl (d:De) (lo hi:Dp):De:=fun ρ=>(d ρ).bind fun v=>(lo ρ).bind fun l=>(hi ρ).bind fun h=>slF l h v
variable {lo hi:Option Expr} {dl dh:Dp}
theorem slF_nx {l h:Option Int} {v:PV} {x:XC}:slF l h v≠.exc x:=by cases v<;>simp [slF]
theorem de_slice (ha:DE X a da) (hl:DP X lo dl) (hh:DP X hi dh):DE X (.Subscript a (.Slice lo hi none p2) pos) (eSl da dl dh):=pe_imp (pe_slice sl_D ha hl hh) fun σ H Q ⟨W,ρ,er,h⟩ =>
 tD_of da er h.bind fun v x H1 s1 er1 r1 h1 =>
  tDP_of dl er1 (Fin.grow h1 s1).bind fun l H2 s2 er2 h2 =>
   tDP_of dh er2 (Fin.grow h2 s2).bind fun u H3 s3 er3 h3=>by
    have h3:=Fin.grow h3 s3;cases e:slF l u v with
    | ok z=>rw [e] at h3;exact ⟨W,v,er3.trk,r1.mono (hid_same (s2.trans s3)),z,e,h3⟩
    | exc z=>exact absurd e slF_nx
    | bad=>rw [e] at h3;exact h3.elim
def eCh (f g:PV->PV->Res PV) (a b c:De):De:=fun ρ=>(a ρ).bind fun x=>(b ρ).bind fun y=>(f x y).bind fun z=>(asB z).bind fun k=>if k then (c ρ).bind fun w=>g y w else .ok (.bl false)
theorem tD_chain {f g:PV->PV->Res PV} {W:Addr->Prop} {σ:SS} {ρ:En} {H:Hp} {Q:VK} (nf:NoX f) (ng:NoX g) (er:ER X.K W H σ ρ) (h:Fin X W H Q (eCh f g da db dc ρ)):tChain (rD X f) (rD X g) (tD X da) (tD X db) (tD X dc) σ H Q:=by
 refine tD_of da er h.bind fun v x H1 s1 er1 r1 h1=>?_
 refine tD_of db er1 (Fin.grow h1 s1).bind fun u y H2 s2 er2 r2 h2=>?_
 have h2:=Fin.grow h2 s2;cases e:f v u with
 | exc z=>exact absurd e (nf v u z)
 | bad=>rw [e] at h2;exact h2.elim
 | ok z =>
  rw [e] at h2;obtain ⟨k,rfl,h3⟩:=asB_bl (show Fin X W H2 Q ((asB z).bind _) from h2)
  refine ⟨W,v,u,er2.trk,r1.mono (hid_same s2),r2,_,e,fun x3 H3 s3 r3=>⟨k,Rep.bl.mp r3,?_⟩⟩
  have er3:=er2.mono s3;have h3:=Fin.grow h3 s3;cases k with
  | false=>exact iteF (h3 _ H3 (Same.refl H3) (Rep.bl.mpr rfl))
  | true =>
   refine iteT (tD_of dc er3 h3.bind fun w z4 H4 s4 er4 r4 h4=>?_);have h4:=Fin.grow h4 s4;cases e4:g u w with
   | ok z=>rw [e4] at h4;exact ⟨W,u,w,er4.trk,r2.mono (hid_same (s3.trans s4)),r4,z,e4,h4⟩
   | exc z=>exact absurd e4 (ng u w z)
   | bad=>rw [e4] at h4;exact h4.elim
theorem de_chain {op op':CmpOp} {f g:PV->PV->Res PV} (ho:OpR X (compareOp op) (rD X f)) (ho':OpR X (compareOp op') (rD X g)) (nf:NoX f) (ng:NoX g) (ha:DE X a da) (hb:DE X b db) (hc:DE X c dc)
  (hm:lastMarks [op,op'] [b,c]=false:=by with_unfolding_all rfl):DE X (.Compare a [op,op'] [b,c] pos) (eCh f g da db dc) :=
 pe_imp (pe_chain ho ho' ha hb hc hm) fun σ H Q ⟨W,ρ,er,h⟩=>tD_chain nf ng er h
def isN (a b:PV):Res PV:=match a,b with
 | .non,.non=>.ok (.bl true)
 | _,.non=>.ok (.bl false)
 | _,_=>.bad
def eNeg (d:De):De:=fun ρ=>(d ρ).bind fun v=>match v with
 | .int i=>.ok (.int (-i))
 | _=>.bad
theorem de_neg (ha:DE X a da):DE X (.UnaryOp .USub a pos) (eNeg da):=pe_imp (pe_un un_neg ha) fun σ H Q ⟨W,ρ,er,h⟩ =>
 tD_of da er h.bind fun v x H1 s1 er1 r1 h1=>by
  cases v with
  | int i=>exact ⟨i,Rep.int.mp r1,okI (okQ_grow h1 s1)⟩
  | _=>exact h1.elim
end
end Pu
namespace Pu
open PySem PySem.Spec PyProof.Rows L2
def ItOk (K:PySem.W.Frag) (G:Hp) (J:It) (vs:List PV):Prop :=
 ∀ (i:Nat) (H1:Hp),Same G H1 ->
  (∀ v,vs[i]?=some v->J.go i H1/\∀ x H2,J.yld i H1 x H2->Same H1 H2/\∀ W',(∀ a,W' a->H1 a≠none)->Same G (hid W' H1)->Rep K (hid W' H2) v x)/\(i=vs.length->J.stop i H1)
abbrev Di:=En->Res (List PV)
def FinI (X:Cx) (W:Addr->Prop) (H:Hp) (R:It->Hp->Prop):Res (List PV)->Prop
 | .ok vs=>∀ J H',Same H H'->ItOk X.K (hid W H') J vs->R J H'
 | .exc x=>XW X x H
 | .bad=>False
def tDI (X:Cx) (d:Di):TI:=fun σ H R=>∃ W ρ,ER X.K W H σ ρ/\FinI X W H R (d ρ)
def DI (X:Cx) (tg iter:Expr) (d:Di):Prop:=PI X tg iter (tDI X d)
abbrev Dg:=PV->En->Res En
def Kp (σ σ':SS) (ρ ρ':En):Prop:=∀ (i:Nat) (vs:List PV),ρ'[i]?=some (some (.own vs))->ρ[i]?=some (some (.own vs))/\σ'[i]?=σ[i]?
theorem Kp.set {σ:SS} {ρ:En} (i:Nat) (x:V) (v:PV):Kp σ (σ.set i (some x)) ρ (ρ.set i (some (.val v))):=fun j vs h=>by
 rw [List.getElem?_set] at h
 by_cases e:i=j
 ·rw [if_pos e] at h
  split at h<;>cases h
 ·rw [if_neg e] at h;exact ⟨h,by rw [List.getElem?_set,if_neg e]⟩
theorem Kp.trans {σ σ' σ'':SS} {ρ ρ' ρ'':En} (a:Kp σ σ' ρ ρ') (b:Kp σ' σ'' ρ' ρ''):Kp σ σ'' ρ ρ'':=fun i vs h=>by
 obtain ⟨h1,h2⟩:=b i vs h;obtain ⟨h3,h4⟩:=a i vs h1;exact ⟨h3,h2.trans h4⟩
def gD (X:Cx) (b:Dg):TG:=fun v σ H Q=>∃ W ρ pv,ER X.K W H σ ρ/\Rep X.K (hid W H) pv v/\∃ ρ',b pv ρ=.ok ρ'/\∀ σ',ER X.K W H σ' ρ'->Kp σ σ' ρ ρ'->Q σ' H
def DG (X:Cx) (tg:Expr) (b:Dg):Prop:=PG X tg (gD X b)
def bName (i:Nat):Dg:=fun v ρ=>.ok (ρ.set i (some (.val v)))
def bTwo (i j:Nat):Dg:=fun v ρ=>match v with
 | .tup [a,b]=>.ok ((ρ.set i (some (.val a))).set j (some (.val b)))
 | _=>.bad
section
variable {X:Cx} {pos:Pos}
theorem pg_imp {tg:Expr} {t t':TG} (h:PG X tg t) (i:∀ v σ H Q,t' v σ H Q->t v σ H Q):PG X tg t':=fun pins s σ H v u Q I r q=>h pins s σ H v u Q I r (i v σ H Q q)
theorem dg_name (i:Nat) {x:Str} (hN:X.N.Nodup) (hi:X.N[i]?=some x) (hx:Loc X.env.scope x) (hf:X.fn x=true\/X.env.scope.names.lookup x=some .local):DG X (.Name x pos) (bName i) :=
 pg_imp (pg_name hN hi hx hf) fun v σ H Q ⟨W,ρ,pv,er,r,ρ',e,q⟩=>by
  cases e;exact q _ (er.set r i) (Kp.set i _ _)
theorem dg_two {i j:Nat} {x y:Str} {px py:Pos} {k:Nat} (hc:X.calm=true) (hN:X.N.Nodup) (hi:X.N[i]?=some x) (hj:X.N[j]?=some y) (hx:Loc X.env.scope x) (hy:Loc X.env.scope y)
  (hf:X.fn x=true\/X.env.scope.names.lookup x=some .local) (hg:X.fn y=true\/X.env.scope.names.lookup y=some .local):DG X (.Tuple [.Name x px,.Name y py] k pos) (bTwo i j) :=
 pg_imp (pg_tup (n:=2) hc (pgs_cons (pg_name hN hi hx hf) (pgs_cons (pg_name hN hj hy hg) pgs_nil))) fun v σ H Q ⟨W,ρ,pv,er,r,ρ',e,q⟩=>by
  unfold bTwo at e
  split at e
  ·rename_i a b
   cases e;obtain ⟨l,xs,rfl,h1,h2⟩:=Rep.tup'.mp r;obtain ⟨x1,r1,rfl,h3,h4⟩:=Reps.cons.mp h2;obtain ⟨x2,r2,rfl,h5,h6⟩:=Reps.cons.mp h4;have hnil:=Reps.nil.mp h6;subst hnil;exact ⟨l,_,rfl,sqT_of h1,rfl,x1,[x2],rfl,x2,[],rfl,rfl,q _ ((er.set h3 i).set h5 j) ((Kp.set i _ _).trans (Kp.set j _ _))⟩
  ·cases e
end
def compL (t:Dg) (c:Dt) (e:De) (ρ:En):List PV->Res (List PV)
 | []=>.ok []
 | v::vs=>(t v ρ).bind fun ρ1=>(c ρ1).bind fun b=>if b then (e ρ1).bind fun x=>(compL t c e ρ vs).bind fun xs=>.ok (x::xs) else compL t c e ρ vs
def capS:Option (Option Sl)->Option Sl
 | some (some (.val v))=>some (.val v)
 | _=>none
def caps (k:Nat) (idx:List Nat) (ρ:En):En:=List.replicate k none++idx.map fun i=>capS ρ[i]?
def capV (k:Nat) (idx:List Nat) (σ:SS):SS:=List.replicate k none++idx.map fun i=>(σ[i]?).join
def noX {α:Type}:Res α->Res α
 | .ok v=>.ok v
 | _=>.bad
def eComp (d:Di) (k:Nat) (idx:List Nat) (t:Dg) (c:Dt) (e:De):De:=fun ρ=>(d ρ).bind fun vs=>if vs.length<=sizeLine then (noX (compL t c e (caps k idx ρ) vs)).bind fun xs=>.ok (.lst xs) else .bad
def cxComp (X:Cx) (scope:Scope) (cl:List (Str×Addr)) (N:List Str) (C:Addr) (s₀:Shared) (H₀:Hp) (fp:List Addr):Cx :=
 {X with N:=N,s₀:=s₀,H₀:=H₀,env:=compEnvC scope cl C X.env,outer:=X.stack,ex:=fp,fn:=fun x=>scope.names.lookup x==some .cell,pn:=[],xe:=fun _ _=>False}
structure CompOk (X:Cx) (scope:Scope) (cl:List (Str×Addr)) (k:Nat) (idx:List Nat) (N:List Str):Prop where
 kind:scope.kind=.function
 clos:closureFor scope X.env=pure cl
 loc:∀ y∈scope.names,y.2=.local->scope.names.lookup y.1=some .local
 sub:∀ x c,cl.lookup x=some c->X.env.cells.lookup x=some c
 has:∀ x,((relabel scope X.env).names.lookup x=some .cell\/(relabel scope X.env).names.lookup x=some .free)->(x,NameKind.cell)∈scope.names\/∃ c,cl.lookup x=some c
 len:N.length=k+idx.length
 cap:∀ (j i:Nat) (x:Str),idx[j]?=some i->N[k+j]?=some x->X.N[i]?=some x/\(X.env.kindOf x=some .cell\/X.env.kindOf x=some .free)/\Vis X.env.scope x/\((relabel scope X.env).names.lookup x=some .cell\/(relabel scope X.env).names.lookup x=some .free)/\(∃ c,cl.lookup x=some c)/\(x,NameKind.cell)∉scope.names
theorem cellsFrom_app:∀ (names:List (Str×NameKind)) (a:Nat) (acc:List (Str×Addr)),cellsFrom a names acc=cellsFrom a names []++acc
 | [],_,_=>rfl
 | (n,k)::r,a,acc=>by
  unfold cellsFrom
  split
  ·rw [cellsFrom_app r (a+1) ((n,a)::acc),cellsFrom_app r (a+1) [(n,a)],List.append_assoc];rfl
  ·exact cellsFrom_app r a acc
theorem cellsFrom_has:∀ {names:List (Str×NameKind)} {a:Nat} {acc:List (Str×Addr)} {x:Str},(x,NameKind.cell)∈names\/(∃ c,acc.lookup x=some c)->∃ c,(cellsFrom a names acc).lookup x=some c
 | [],_,_,_,h=>by
  rcases h with h | h
  ·cases h
  ·exact h
 | (n,k)::r,a,acc,x,h=>by
  have front:∃ c,((n,a)::acc).lookup x=some c\/(x≠n/\((n,a)::acc).lookup x=acc.lookup x):=by
   cases hb:(x==n) with
   | true=>exact ⟨a,.inl (by rw [List.lookup_cons,hb])⟩
   | false=>exact ⟨a,.inr ⟨fun e=>by simp [e] at hb,by rw [List.lookup_cons,hb]⟩⟩
  unfold cellsFrom
  split
  ·refine cellsFrom_has ?_;obtain ⟨c,z | ⟨z1,z2⟩⟩:=front
   ·exact .inr ⟨c,z⟩
   ·rcases h with h | h
    ·rcases List.mem_cons.mp h with e | h
     ·cases e;exact absurd rfl z1
     ·exact .inl h
    ·exact .inr (by rw [z2];exact h)
  ·rename_i hk
   refine cellsFrom_has ?_
   rcases h with h | h
   ·rcases List.mem_cons.mp h with e | h
    ·cases e;exact absurd rfl hk
    ·exact .inl h
   ·exact .inr h
theorem cellsFrom_mem:∀ {names:List (Str×NameKind)} {a:Nat} {acc:List (Str×Addr)} {x:Str} {c:Addr},(x,c)∈cellsFrom a names acc->(x,c)∈acc\/(x,NameKind.cell)∈names
 | [],_,_,_,_,h=>.inl h
 | (n,k)::r,a,acc,x,c,h=>by
  unfold cellsFrom at h
  split at h
  ·rename_i hk
   have ek:k=.cell:=by simpa using hk
   rcases cellsFrom_mem h with z | z
   ·rcases List.mem_cons.mp z with e | z
    ·cases e;rw [ek];exact .inr List.mem_cons_self
    ·exact .inl z
   ·exact .inr (List.mem_cons_of_mem _ z)
  ·rcases cellsFrom_mem h with z | z
   ·exact .inl z
   ·exact .inr (List.mem_cons_of_mem _ z)
theorem blk_cells (s:Shared) (names:List (Str×NameKind)):CellsOk (pushCells (s.heap.push {cls:=.type "dict",data:=.dict #[]}) names) (s.heap.objs.size+1) (cellsFrom (s.heap.objs.size+1) names []):=by
 have ok:=cellsFrom_ok names (s.heap.push {cls:=.type "dict",data:=.dict #[]}) (s.heap.objs.size+1) [] ⟨fun _ _ hm=>(nomatch hm),List.Pairwise.nil⟩ (by rw [Heap.size_push];exact Nat.le_refl _)
 rwa [Heap.size_push] at ok
theorem wpAny_newFunctionEnv_blk {M:Model} {A:Around} {E:Value->Shared->Prop} {s:Shared} {scope:Scope} {g:Addr} {cl:List (Str×Addr)} {qual:Str} {env:Env} {Q:Env->Shared->Prop}
  (h:Q {scope:=scope,locals:=s.heap.objs.size,globals:=g,cells:=cellsFrom (s.heap.objs.size+1) scope.names cl,qual:=qual,func:=none,code:=env.code,frame:=env.frame,builtins:=env.builtins} {s with heap:=pushCells (s.heap.push {cls:=.type "dict",data:=.dict #[]}) scope.names}) :
  wpAny M A (newFunctionEnv scope g cl [] qual none .none (some env)) Q E s:=by
 simp only [newFunctionEnv,Option.isSome_some,if_true];refine wpAny_bind (wpAny_alloc ?_);refine wpAny_bind (wpAny_layCells _ (fun name kind cells=>by cases hkc:kind==NameKind.cell<;>simp [hkc]) _ _ _ _ ?_);rw [show ({s with heap:=s.heap.push {cls:=.type "dict",data:=.dict #[]}}:Shared).heap.objs.size=s.heap.objs.size+1 from Heap.size_push ..]
 rw [List.forIn_nil];exact wpAny_bind (wpAny_pure (wpAny_pure h))
def DIf (X:Cx) (ifs:List Expr) (d:Dt):Prop :=
 ∀ (pins:List (Addr×Obj)) (s:Shared) (σ:SS) (H:Hp) (Q:Bool->Hp->Prop),L2.Inv X pins σ H s->tDT X d σ H Q ->
  wpAny (model X.prog X.w) X.A (forIn ifs true fun c r=>if r=true then do let ok <- isTrue c X.env (eval c X.env);pure (ForInStep.yield ok) else pure (ForInStep.yield r)) (TP X pins σ Q) X.xe s
theorem dif_nil {X:Cx}:DIf X [] (fun _=>.ok true):=fun pins s σ H Q I ⟨W,ρ,er,h⟩=>by
 rw [List.forIn_nil];exact wpAny_pure ⟨H,I,h H (Same.refl H)⟩
theorem dif_one {X:Cx} {c:Expr} {d:Dt} (h:DT X c d):DIf X [c] d:=fun pins s σ H Q I q=>by
 rw [List.forIn_cons];simp only [if_true];refine wpAny_bind (wpAny_bind (thn (h pins s σ H Q I q) fun b s1 h1=>wpAny_pure ?_))
 dsimp only;rw [List.forIn_nil];exact wpAny_pure h1
section
variable {X:Cx} {scope:Scope} {cl:List (Str×Addr)} {k:Nat} {idx:List Nat} {N:List Str}
theorem er_caps {W W':Addr->Prop} {H H':Hp} {σ:SS} {ρ:En} (er:ER X.K W H σ ρ) (hs:Same (hid W H) (hid W' H')) (ht:∀ a,W' a->H' a≠none):ER X.K W' H' (capV k idx σ) (caps k idx ρ):=by
 refine ⟨by simp [caps,capV],fun i s q=>?_,ht⟩
 unfold caps at q
 by_cases hi:i<k
 ·rw [List.getElem?_append_left (by simpa using hi),List.getElem?_replicate,if_pos hi] at q;cases q
 ·rw [List.getElem?_append_right (by simpa using hi),List.getElem?_map,List.length_replicate] at q;cases e:idx[i-k]? with
  | none=>rw [e] at q;cases q
  | some j =>
   rw [e] at q;have q':capS ρ[j]?=some s:=by simpa using q
   unfold capS at q'
   split at q'
   ·rename_i v e2
    cases q';obtain ⟨x,h1,h2⟩:=er.val j _ e2;refine ⟨x,?_,Rep.mono hs (show Rep X.K (hid W H) v x from h2)⟩
    unfold capV;rw [List.getElem?_append_right (by simpa using hi),List.getElem?_map,List.length_replicate,e];simp [h1]
   ·cases q'
theorem inv_comp {pins:List (Addr×Obj)} {σ:SS} {H:Hp} {s3:Shared} {h4:Heap} {fp:List Addr} (ok:CompOk X scope cl k idx N) (I:L2.Inv X pins σ H s3) (hfp:∀ b∈fp,FpOk X pins H b/\b<s3.heap.objs.size)
  (hns:h4.Ns s3.heap.objs.size (fun _=>none)) (hk:∀ b o,s3.heap.get? b=some o->h4.get? b=some o) (hw:CellsOk h4 (s3.heap.objs.size+1) (cellsFrom (s3.heap.objs.size+1) scope.names [])) {t:Nat} :
  L2.Inv (cxComp X scope (cellsFrom (s3.heap.objs.size+1) scope.names cl) N s3.heap.objs.size s3 H fp) [] (capV k idx σ) H {s3 with heap:=h4,toks:=t}:=by
 have hC:H s3.heap.objs.size=none:=I.fresh;generalize hL:cellsFrom (s3.heap.objs.size+1) scope.names cl=L;rw [cellsFrom_app] at hL;have hmem:∀ x c,(x,c)∈cellsFrom (s3.heap.objs.size+1) scope.names []->(x,NameKind.cell)∈scope.names:=fun x c z=>(cellsFrom_mem z).elim (fun y=>by cases y) id
 have hhas:∀ x,(x,NameKind.cell)∈scope.names->∃ c,(cellsFrom (s3.heap.objs.size+1) scope.names []).lookup x=some c:=fun x z=>cellsFrom_has (.inl z)
 generalize cellsFrom (s3.heap.objs.size+1) scope.names []=own at hL hmem hhas hw;have lk:∀ x,L.lookup x=(own.lookup x).or (cl.lookup x):=fun x=>by rw [<- hL,List.lookup_append]
 have fa:∀ x c,L.lookup x=some c->(x,c)∈own\/X.env.cells.lookup x=some c:=fun x c e=>by
  rw [lk] at e;cases eo:own.lookup x with
  | none=>rw [eo] at e;exact .inr (ok.sub x c e)
  | some d=>rw [eo] at e;cases e;exact .inl (mem_of_lookup eo)
 have old:∀ x c,X.env.cells.lookup x=some c->c<s3.heap.objs.size:=fun x c e=>by
  obtain ⟨v,o,ho,_⟩:=I.cell x c e;exact Heap.lt_size ho
 have new:∀ x c,(x,c)∈own->s3.heap.objs.size<c:=fun x c e=>(hw.empty x c e).2
 refine ⟨⟨I.ok.mod,?_,I.ok.glob,I.ok.blt,Nat.le_refl _,fun x y c h1 h2=>?_,fun x h=>?_,fun x c h e=>?_,I.ok.hd,I.ok.frames,.inl rfl,fun b hb=>⟨Nat.ne_of_lt (hfp b hb).2,fun x c e=>?_⟩,
  I.bs,Nat.le_trans I.ok.bsz I.sz,fun b o e hb=>?_,fun b hb z=>?_,I.stack,I.stkFree⟩,rfl,I.bare,Un.kept hk,⟨_,hns,fun i x v e1 e2 e3=>?_⟩,fun x c e=>?_,hC,fun x c e=>?_,fun p hp=>absurd hp (by simp [cxComp]),I.hok.kept hk,?_⟩
 ·show (relabel scope X.env).kind=.function;exact ok.kind
 ·rcases fa x c h1 with z1 | z1<;>rcases fa y c h2 with z2 | z2
  ·exact name_of_addr hw.apart z1 z2
  ·exact absurd (Nat.lt_trans (new x c z1) (old y c z2)) (Nat.lt_irrefl _)
  ·exact absurd (Nat.lt_trans (new y c z2) (old x c z1)) (Nat.lt_irrefl _)
  ·exact I.ok.inj x y c z1 z2
 ·show ∃ c,L.lookup x=some c;rw [lk];cases eo:own.lookup x with
  | some d=>exact ⟨d,rfl⟩
  | none =>
   rcases ok.has x h with z | z
   ·obtain ⟨c,e⟩:=hhas x z;rw [eo] at e;cases e
   ·exact z
 ·have h':scope.names.lookup x=some .cell:=by
   have:(scope.names.lookup x==some NameKind.cell)=true:=h;simpa using this
  obtain ⟨d,ed⟩:=hhas x (mem_of_lookup h')
  replace e:L.lookup x=some c:=e
  rw [lk,ed] at e;cases e;exact Nat.le_of_lt (new x _ (mem_of_lookup ed))
 ·rcases fa x c e with z | z
  ·exact Nat.ne_of_gt (Nat.lt_trans (hfp b hb).2 (new x c z))
  ·exact (hfp b hb).1.2.2.2.2.1 x c z
 ·rcases (hfp b hb).1.2.2.2.1 with z | z
  ·exact I.ok.noex b o e z
  ·exact absurd (Nat.lt_of_lt_of_le (Heap.lt_size (I.ok.bs b o e).1) z) (Nat.lt_irrefl _)
 ·rcases List.mem_cons.mp (I.stkSub b z) with q | q
  ·exact (hfp b hb).1.2.1 q
  ·exact (hfp b hb).1.2.2.1 q
 ·
  replace e1:N[i]?=some x:=e1
  unfold capV at e2
  by_cases hi:i<k
  ·rw [List.getElem?_append_left (by simpa using hi),List.getElem?_replicate,if_pos hi] at e2;cases e2
  ·rw [List.getElem?_append_right (by simpa using hi),List.getElem?_map,List.length_replicate] at e2;cases e:idx[i-k]? with
   | none=>rw [e] at e2;cases e2
   | some j =>
    rw [e] at e2;have e2':(σ[j]?).join=some v:=by simpa using e2
    have e2'':σ[j]?=some (some v):=by
     cases q:σ[j]? with
     | none=>rw [q] at e2';cases e2'
     | some z=>rw [q] at e2';rw [show z=some v from e2']
    obtain ⟨a1,a2,a3,a4,⟨c',ec'⟩,a6⟩:=ok.cap (i-k) j x e (by rw [show k+(i-k)=i by lia];exact e1);obtain ⟨m,hn,hl⟩:=I.loc;obtain ⟨u,ru,lk'⟩:=hl j x v a1 e2'' a3;refine ⟨u,ru,?_⟩
    rcases lk' with ⟨q,_⟩ | ⟨_,c,ec,⟨o,ho,hd⟩⟩
    ·exfalso
     rcases a2 with a2 | a2<;>rw [q] at a2<;>cases a2
    ·have hcc:c=c':=Option.some.inj (ec.symm.trans (ok.sub x c' ec'));subst hcc;refine .inr ⟨a4,c,?_,o,hk c o ho,hd⟩;show L.lookup x=some c;rw [lk];cases eo:own.lookup x with
     | none=>exact ec'
     | some d=>exact absurd (hmem x d (mem_of_lookup eo)) a6
 ·rcases fa x c e with z | z
  ·exact ⟨none,(hw.empty x c z).1⟩
  ·obtain ⟨v,o,ho,hd⟩:=I.cell x c z;exact ⟨v,o,hk c o ho,hd⟩
 ·rcases fa x c e with z | z
  ·exact I.hok.fresh (Nat.le_of_lt (new x c z))
  ·exact I.freeC x c z
 ·show (capV k idx σ).length=N.length;rw [ok.len];simp [capV]
theorem comp_back {pins:List (Addr×Obj)} {σ σ':SS} {H H':Hp} {s3 s':Shared} {h':Heap} {fp:List Addr} (I:L2.Inv X pins σ H s3) (hfp:∀ b∈fp,FpOk X pins H b/\b<s3.heap.objs.size)
  (J:L2.Inv (cxComp X scope cl N s3.heap.objs.size s3 H fp) [] σ' H' s') (hs:Heap.SameBut s3.heap.objs.size s'.heap h'):L2.Inv X pins σ H' {s' with heap:=h'}:=by
 have hC:H' s3.heap.objs.size=none:=J.free;have up:∀ b o,b≠s3.heap.objs.size->s'.heap.get? b=some o->h'.get? b=some o:=fun b o hb e=>hs.extBut b o hb e
 have u0:Un (frs X.stack) fp H H' s3.heap s'.heap:=J.base;have old:∀ b o,s3.heap.get? b=some o->b≠s3.heap.objs.size:=fun b o e=>Nat.ne_of_lt (Heap.lt_size e)
 have u:Un (frs X.stack) fp H H' s3.heap h':=⟨fun b o e n h1 h2=>up b o (old b o e) (u0.keep b o e n h1 h2),fun b o e n h1 h2=>let ⟨sl,q⟩:=u0.slot b o e n h1 h2;⟨sl,up b _ (old b o e) q⟩,u0.free,
  fun b o e h=>let ⟨o',q⟩:=u0.there b o e h;⟨o',up b _ (old b o e) q⟩,u0.tups,u0.frzs,u0.tbls⟩
 have hok:HOk X.prog X.w H' h':=fun a o e=>by
  have nz:∀ c v,H' c=some v->c≠s3.heap.objs.size:=fun c v q z=>by rw [z,hC] at q;cases q
  refine (J.hok a o e).stay (fun b v hb q=>up b v ?_ q) (fun _ q=>q) fun _ _ q=>q
  rcases hb with z | z
  ·rw [z];exact nz a o e
  ·exact nz b _ z
 have hos:s'.os=s3.os:=J.os;obtain ⟨hh,g,d,t,os'⟩:=s';obtain rfl:os'=s3.os:=hos;have fin:=I.call (s:=s3) (h':=h') (g':=g) (d':=d) (t':=t) (ch:=fp) u hok J.bare fun b hb=>by
  obtain ⟨⟨f0,f1,f2,f3,f4,f5⟩,_⟩:=hfp b hb;exact ⟨f3,f1,f4,f5⟩
 exact fin
end
end Pu
namespace Pu
open PySem PySem.Spec PyProof.Rows L2
section
variable {prog:Program} {w:World} {A:Around} {R:Result->Shared->Prop} {s:Shared}
theorem compLoop_gen {elt target iter:Expr} {ifs:List Expr} {scope:Scope} {pos:Pos} {it acc:Value} {env:Env} (I:Nat->Shared->Prop)
  (turn:∀ n s E,I n s->wpAny (model prog w) A (pyNext it) (fun r s₁=>match r with
   | none=>R (.ok .next) s₁
   | some v=>wpAny (model prog w) A (letOwnedTupleGo target it v) (fun _ s₂=>wpAny (model prog w) A (assign target env v) (fun _ s₃ =>
     wpAny (model prog w) A (forIn ifs true fun c r=>if r=true then do let ok <- isTrue c env (eval c env);pure (ForInStep.yield ok) else pure (ForInStep.yield r)) (fun ok s₄ =>
      if ok=true then wpAny (model prog w) A (eval elt env) (fun x s₅=>wpAny (model prog w) A (call (.builtin "list.append") [acc,x]) (fun _ s₆=>∃ m,m<n/\I m s₆) E s₅) E s₄
      else ∃ m,m<n/\I m s₄) E s₃) E s₂) E s₁) E s)
  (n:Nat) (h:I n s):codeAny (model prog w) A (.compLoop (.ListComp elt [⟨target,iter,ifs,0⟩] scope pos) 0 it acc env) R s:=by
 refine codeAny_loop rfl I (fun n s hI=>?_) n h;show wpAny _ A ((compTurn (.ListComp elt [⟨target,iter,ifs,0⟩] scope pos) 0 it acc env).onRaise (fun x=>do noteFrame x env;theTreesLotGoes x)) _ _ s;refine wpAny_noted ?_;rw [compTurn_list];refine wpAny_bind (wpAny_standAt (wpAny_bind (wpAny_mono (turn n s _ hI) (fun r s₁ h₁=>?_) fun _ _ h'=>h')))
 cases r with
 | none=>exact wpAny_pure h₁
 | some v =>
  refine wpAny_bind (wpAny_mono h₁ (fun _ s₂ h₂=>?_) fun _ _ h'=>h')
  refine wpAny_bind (wpAny_mono h₂ (fun _ s₃ h₃=>wpAny_bind (wpAny_mono h₃ (fun ok s₄ h₄=>?_) fun _ _ h'=>h')) fun _ _ h'=>h')
  cases ok with
  | false=>exact wpAny_pure ⟨rfl,h₄⟩
  | true =>
   exact wpAny_bind (wpAny_bind (wpAny_mono h₄ (fun x s₅ h₅=>wpAny_bind (wpAny_mono h₅ (fun _ s₆ h₆=>wpAny_pure (wpAny_pure ⟨rfl,h₆⟩)) fun _ _ h'=>h')) fun _ _ h'=>h'))
end
def SameB (D:Addr) (H H':Hp):Prop:=∀ b o,b≠D->H b=some o->H' b=some o
theorem SameB.hid {D:Addr} {H H':Hp} {W:Addr->Prop} (h:SameB D H H') (hD:W D):Same (Pu.hid W H) (Pu.hid W H'):=fun b o q=>by
 unfold Pu.hid at q ⊢
 split at q
 ·cases q
 ·rename_i n
  rw [if_neg n];exact h b o (fun z=>n (z ▸ hD)) q
section
variable {X:Cx} {scope:Scope} {cl:List (Str×Addr)} {N:List Str} {tg iter elt:Expr} {ifs:List Expr} {pos:Pos} {t:Dg} {c:Dt} {e:De}
theorem comp_loop {C D:Addr} {s3 s4:Shared} {H3:Hp} {fp:List Addr} {it:Addr} {J:It} {tn:Nat->Heap->Prop} {σ0:SS} {ρ0:En} {W:Addr->Prop} {G:Hp} {vs out:List PV} {R:Result->Shared->Prop}
  (hcalm:X.calm=true) (T:Turn X.prog X.w X.K tg J fp it tn) (hg:DG (cxComp X scope cl N C s3 H3 fp) tg t) (hif:DIf (cxComp X scope cl N C s3 H3 fp) ifs c) (he:DE (cxComp X scope cl N C s3 H3 fp) elt e)
  (J0:L2.Inv (cxComp X scope cl N C s3 H3 fp) [] σ0 H3 s4) (st:tn 0 s4.heap) (fr:∀ b∈fp,H3 b=none) (hD:H3 D=some (.lst [])) (hWD:W D) (er:ER X.K W H3 σ0 ρ0) (hw:∀ v ρ1,t v ρ0=.ok ρ1->Ext ρ0 ρ1) (hv:∀ (i:Nat) (s:Sl),ρ0[i]?=some (some s)->∃ v,s=.val v)
  (hG:Same G (hid W H3)) (hit:ItOk X.K G J vs) (hz:vs.length<=sizeLine) (ho:compL t c e ρ0 vs=.ok out)
  (hR:∀ s' σ' H' ys,L2.Inv (cxComp X scope cl N C s3 H3 fp) [] σ' H' s'->H' D=some (.lst ys)->Reps X.K (hid W H') out ys->SameB D H3 H'->R (.ok .next) s') :
  codeAny (model X.prog X.w) X.A (.compLoop (.ListComp elt [⟨tg,iter,ifs,0⟩] scope pos) 0 (.ref it) (.ref D) (compEnvC scope cl C X.env)) R s4:=by
 generalize hY:cxComp X scope cl N C s3 H3 fp=Y at *;have yp:Y.prog=X.prog:=by rw [<- hY];rfl
 have yw:Y.w=X.w:=by rw [<- hY];rfl
 have yK:Y.K=X.K:=by rw [<- hY];rfl
 have yA:Y.A=X.A:=by rw [<- hY];rfl
 have yx:Y.xe=fun _ _=>False:=by rw [<- hY];rfl
 have yc:Y.calm=true:=by rw [<- hY];exact hcalm
 have yex:Y.ex=fp:=by rw [<- hY];rfl
 have ypn:Y.pn=[]:=by rw [<- hY];rfl
 have yenv:Y.env=compEnvC scope cl C X.env:=by rw [<- hY];rfl
 rw [<- yK] at er hit hR;rw [<- yp,<- yw,<- yK] at T;rw [<- yp,<- yw,<- yA,<- yenv];have stat:∀ {H':Hp},(∀ b∈fp,H' b=none)->∀ b∈fp,FpOk Y [] H' b:=fun hn b hb=>by
  have h1:=J0.ok.exf b (by rw [yex];exact hb);exact ⟨hn b hb,h1.1,J0.ok.exfs b (by rw [yex];exact hb),.inl (by rw [yex];exact hb),h1.2,fun p hp=>by rw [ypn] at hp;exact absurd hp (by simp)⟩
 refine compLoop_gen (fun n s'=>∃ i σ H ys acc rest,n=vs.length-i+1/\i<=vs.length/\L2.Inv Y [] σ H s'/\tn i s'.heap/\(∀ b∈fp,H b=none)/\H D=some (.lst ys)/\Reps Y.K (hid W H) acc ys/\compL t c e ρ0 (vs.drop i)=.ok rest/\out=acc++rest /\
  SameB D H3 H/\ER Y.K W H σ ρ0/\ys.length<=i) ?_ (vs.length+1) ⟨0,σ0,H3,[],[],out,by simp,Nat.zero_le _,J0,st,fr,hD,Reps.nil.mpr rfl,ho,rfl,fun _ _ _ q=>q,er,Nat.le_refl _⟩
 rintro n s5 E ⟨i,σ,H,ys,acc,rest,rfl,hi,I5,st5,fr5,hD5,hys,hrest,hout,same,er5,hyl⟩;have hGH:Same G (hid W H):=fun b o q=>same.hid hWD b o (hG b o q)
 have hGH':Same G H:=hGH.trans hid_sub
 by_cases hlt:i<vs.length
 ·
  have ev:vs[i]?=some vs[i]:=by simp [hlt]
  have edr:vs.drop i=vs[i]::vs.drop (i+1):=List.drop_eq_getElem_cons hlt;obtain ⟨go,yl⟩:=(hit i H hGH').1 vs[i] ev;rw [edr,compL] at hrest;cases et:t vs[i] ρ0 with
  | exc x=>rw [et] at hrest;cases hrest
  | bad=>rw [et] at hrest;cases hrest
  | ok ρ1 =>
  rw [et,Res.bind_ok] at hrest;cases ec:c ρ1 with
  | exc x=>rw [ec] at hrest;cases hrest
  | bad=>rw [ec] at hrest;cases hrest
  | ok b =>
  rw [ec,Res.bind_ok] at hrest;refine wpAny_mono (T.item Y rfl rfl rfl yc i [] s5 σ H E I5 (stat fr5) st5 go) (fun r s6 ⟨u,hr,h6⟩=>?_) fun _ _ q=>q
  subst hr;refine wpAny_mono h6 (fun _ s7 ⟨x,H7,I7,r7,y7,st7,fr7⟩=>?_) fun _ _ q=>q
  obtain ⟨s57,rp⟩:=yl x H7 y7;have rep7:=rp W er5.trk hGH;have I7':=I7.pinned (stat fr7) (T.obj _ _ st7);have er7:=er5.mono s57;have again:∀ {σ':SS} {H':Hp} {s':Shared},L2.Inv Y ([]++pinsAt fp s7.heap) σ' H' s'->L2.Inv Y [] σ' H' s'/\tn (i+1) s'.heap/\∀ b∈fp,H' b=none:=fun {σ' H' s'} K9=>by
   refine ⟨K9.unpinned,T.keep _ _ _ st7 fun b hb o q=>(K9.pin (b,o) (List.mem_append_right _ (List.mem_append_right _ (mem_pinsAt hb q)))).1,fun b hb=>?_⟩
   obtain ⟨o,q,d⟩:=T.obj _ _ st7 b hb;exact (K9.pin (b,o) (List.mem_append_right _ (List.mem_append_right _ (mem_pinsAt hb q)))).2.1
  have hg':=hg _ s7 σ H7 x u (fun σ8 H8=>H8=H7/\ER Y.K W H7 σ8 ρ1) I7' r7 ⟨W,ρ0,vs[i],er7,rep7,ρ1,et,fun σ8 q _=>⟨rfl,q⟩⟩
  rw [yx] at hg';refine wpAny_mono hg' (fun _ s8 ⟨σ8,H8,I8,e8,er8⟩=>?_) fun _ _ q=>q.elim
  subst e8;have hif':=hif _ s8 σ8 H8 (fun b' H9=>b'=b/\Same H8 H9) I8 ⟨W,ρ1,er8,by rw [ec];exact fun H9 s9=>⟨rfl,s9⟩⟩
  rw [yx] at hif';refine wpAny_mono hif' (fun b' s9 ⟨H9,I9,eb,s89⟩=>?_) fun _ _ q=>q.elim
  subst eb;have er9:=er8.mono s89;have hext:=hw vs[i] ρ1 et;have hD9:H9 D=some (.lst ys):=s89 _ _ (s57 _ _ hD5);have same9:SameB D H3 H9:=fun b o hb q=>s89 _ _ (s57 _ _ (same b o hb q))
  cases b' with
  | false =>
   simp only [Bool.false_eq_true,if_false] at hrest ⊢;obtain ⟨k1,k2,k3⟩:=again I9;exact ⟨vs.length-(i+1)+1,by lia,i+1,σ8,H9,ys,acc,rest,rfl,hlt,k1,k2,k3,hD9,hys.mono (hid_same (s57.trans s89)),hrest,hout,same9,er9.weak hext,Nat.le_succ_of_le hyl⟩
  | true =>
   simp only [if_true] at hrest ⊢;cases ee:e ρ1 with
   | exc x=>rw [ee] at hrest;cases hrest
   | bad=>rw [ee] at hrest;cases hrest
   | ok xv =>
   rw [ee,Res.bind_ok] at hrest;cases er':compL t c e ρ0 (vs.drop (i+1)) with
   | exc x=>rw [er'] at hrest;cases hrest
   | bad=>rw [er'] at hrest;cases hrest
   | ok rest' =>
   rw [er',Res.bind_ok] at hrest;cases hrest;have he':=he _ s9 σ8 H9 (fun z H10=>Same H9 H10/\Rep Y.K (hid W H10) xv z) I9 ⟨W,ρ1,er9,by rw [ee];exact fun z H10 s10 rz=>⟨s10,rz⟩⟩
   rw [yx] at he';refine wpAny_mono he' (fun z s10 ⟨zv,H10,I10,rz,s910,rep10⟩=>?_) fun _ _ q=>q.elim
   have hD10:=s910 _ _ hD9;have hap:=mt_append (X:=Y) _ s10 σ8 H10 (.ref D) [zv] (.ref D) [z] (fun _ H11=>H11=upd H10 D (.lst (ys++[zv]))) I10 rfl (.cons rz .nil) ⟨D,ys,zv,rfl,rfl,hD10,by lia,rfl⟩
   rw [yx] at hap;refine wpAny_mono hap (fun _ s11 ⟨_,H11,I11,_,e11⟩=>?_) fun _ _ q=>q.elim
   subst e11;obtain ⟨k1,k2,k3⟩:=again I11;have sb:SameB D H10 (upd H10 D (.lst (ys++[zv]))):=fun b o hb q=>by rw [upd_ne hb];exact q
   have tot:SameB D H (upd H10 D (.lst (ys++[zv]))):=fun b o hb q=>sb b o hb (s910 _ _ (s89 _ _ (s57 _ _ q)))
   refine ⟨vs.length-(i+1)+1,by lia,i+1,σ8,_,ys++[zv],acc++[xv],rest',rfl,hlt,k1,k2,k3,upd_same,?_,er',by rw [hout];simp,fun b o hb q=>tot b o hb (same b o hb q),?_,by simp;lia⟩
   ·exact (hys.mono (tot.hid hWD)).snoc (rep10.mono (sb.hid hWD))
   ·have er10:=(er9.mono s910).weak hext;refine ⟨er10.len,fun j sl q=>?_,fun a wa z=>?_⟩
    ·obtain ⟨y,h1,h2⟩:=er10.val j sl q;refine ⟨y,h1,?_⟩;obtain ⟨v,rfl⟩:=hv j sl q;exact Rep.mono (sb.hid hWD) (show Rep Y.K (hid W H10) v y from h2)
    ·by_cases ha:a=D
     ·subst ha;rw [upd_same] at z;cases z
     ·rw [upd_ne ha] at z;exact er10.trk a wa z
 ·
  have hie:i=vs.length:=by lia
  subst hie;have stop:=(hit vs.length H hGH').2 rfl;rw [List.drop_length,compL] at hrest;cases hrest;rw [List.append_nil] at hout;subst hout;refine wpAny_mono (T.done Y rfl rfl rfl yc _ [] s5 σ H E I5 (stat fr5) st5 stop) (fun r s6 ⟨hr,I6⟩=>?_) fun _ _ q=>q
  subst hr;exact hR s6 σ H ys I6 hD5 hys same
theorem caps_val {k:Nat} {idx:List Nat} {ρ:En} (i:Nat) (s:Sl) (h:(caps k idx ρ)[i]?=some (some s)):∃ v,s=.val v:=by
 unfold caps at h
 by_cases hi:i<k
 ·rw [List.getElem?_append_left (by simpa using hi),List.getElem?_replicate,if_pos hi] at h;cases h
 ·rw [List.getElem?_append_right (by simpa using hi),List.getElem?_map,List.length_replicate] at h;cases e:idx[i-k]? with
  | none=>rw [e] at h;cases h
  | some j =>
   rw [e] at h;have q:capS ρ[j]?=some s:=by simpa using h
   unfold capS at q
   split at q
   ·cases q;exact ⟨_,rfl⟩
   ·cases q
variable {k:Nat} {idx:List Nat} {di:Di}
theorem de_comp (ok:CompOk X scope cl k idx N) (hcalm:X.calm=true) (hi:DI X tg iter di) (hw:∀ ρ v ρ1,t v (caps k idx ρ)=.ok ρ1->Ext (caps k idx ρ) ρ1)
  (hg:∀ cl C s3 H3 fp,DG (cxComp X scope cl N C s3 H3 fp) tg t) (hif:∀ cl C s3 H3 fp,DIf (cxComp X scope cl N C s3 H3 fp) ifs c) (he:∀ cl C s3 H3 fp,DE (cxComp X scope cl N C s3 H3 fp) elt e)
  (hs:∀ x,foldedSetIterable iter X.env x=pure x:=by intro _;rfl):DE X (.ListComp elt [⟨tg,iter,ifs,0⟩] scope pos) (eComp di k idx t c e):=by
 intro pins s σ H Q I ⟨W,ρ,er,h⟩;rw [eval_ListComp];have hfin:FinI X W H (fun J H2=>∃ vs out,vs.length<=sizeLine/\compL t c e (caps k idx ρ) vs=.ok out/\ItOk X.K (hid W H2) J vs/\Same H H2/\OkQ X.K W H Q (.lst out)) (di ρ):=by
  unfold eComp at h;cases ed:di ρ with
  | exc x=>rw [ed] at h;exact h
  | bad=>rw [ed] at h;exact h.elim
  | ok vs =>
   rw [ed,Res.bind_ok] at h
   by_cases hz:vs.length<=sizeLine
   ·rw [if_pos hz] at h;cases eo:compL t c e (caps k idx ρ) vs with
    | exc x=>rw [eo] at h;exact h.elim
    | bad=>rw [eo] at h;exact h.elim
    | ok out =>
     rw [eo] at h;exact fun J H2 s2 it=>⟨vs,out,hz,eo,it,s2,h⟩
   ·rw [if_neg hz] at h;exact h.elim
 refine wpAny_comprehension_free (use:=none) rfl hs ok.clos ok.kind ok.loc ?_;refine thn (hi pins s σ H _ I ⟨W,ρ,er,hfin⟩) fun v s1 h1=>thn h1 fun itv s2 h2=>?_
 obtain ⟨it,fp,tn,J,H2,rfl,I2,T,st2,f2,vs,out,hz,ho,hit,s02,q⟩:=h2;have hfp2:∀ b∈fp,b<s2.heap.objs.size:=fun b hb=>by
  obtain ⟨o,e1,_⟩:=T.obj 0 _ st2 b hb;exact Heap.lt_size e1
 refine wpAny_newObj_type ?_;have I3:L2.Inv X pins σ (upd H2 s2.heap.objs.size (.lst [])) {s2 with heap:=s2.heap.push {cls:=.type "list",data:=.seq ([]:List Value).toArray}}:=I2.lnew (t':=s2.toks) (its:=[]) .nil (Nat.zero_le _)
 have hn2:H2 s2.heap.objs.size=none:=I2.fresh;generalize hs3:({s2 with heap:=s2.heap.push {cls:=.type "list",data:=.seq ([]:List Value).toArray}}:Shared)=s3 at *
 have k23:∀ b o,s2.heap.get? b=some o->s3.heap.get? b=some o:=fun b o e=>by rw [<- hs3];exact Heap.get?_push_of_some _ e
 have sz3:s3.heap.objs.size=s2.heap.objs.size+1:=by rw [<- hs3];exact Heap.size_push ..
 generalize hD:s2.heap.objs.size=D at *;have neD:∀ b,b<D->b≠D:=fun b hb=>Nat.ne_of_lt hb
 have hfp3:∀ b∈fp,FpOk X pins (upd H2 D (.lst [])) b/\b<s3.heap.objs.size:=fun b hb=>by
  obtain ⟨a0,a1⟩:=f2 b hb;exact ⟨⟨by rw [upd_ne (neD b (hfp2 b hb))];exact a0,a1⟩,by rw [sz3];exact Nat.lt_succ_of_lt (hfp2 b hb)⟩
 show wpAny _ _ (newFunctionEnv scope X.env.globals cl [] X.env.qual none .none (some X.env)) _ _ s3;refine wpAny_newFunctionEnv_blk ?_;have hblk:=blk_cells s3 scope.names;have hns:=(Heap.Ns.new s3.heap (.type "dict")).keeps (pushCells_keeps scope.names _);have k34:∀ b o,s3.heap.get? b=some o->(pushCells (s3.heap.push {cls:=.type "dict",data:=.dict #[]}) scope.names).get? b=some o:=fun b o e=>pushCells_keeps _ _ b o (Heap.get?_push_of_some _ e)
 generalize pushCells (s3.heap.push {cls:=.type "dict",data:=.dict #[]}) scope.names=h4 at hblk hns k34 ⊢;have J0:=inv_comp (t:=s3.toks) ok I3 hfp3 hns k34 hblk;have er2:=er.mono s02;have sD:Same H2 (upd H2 D (.lst [])):=upd_new hn2;have nWD:¬ W D:=er2.new hn2;have hGs:Same (hid W H2) (hid (fun a=>W a\/a=D) (upd H2 D (.lst []))):=fun b o z=>by
  have z1:=hid_sub b o z;have hb:b≠D:=fun y=>by rw [y,hn2] at z1;cases z1
  unfold hid at z ⊢
  split at z
  ·cases z
  ·rename_i nb
   rw [if_neg (fun y=>y.elim nb hb),upd_ne hb];exact z1
 have erC:=er_caps (k:=k) (idx:=idx) er2 hGs (fun a wa=>by
  rcases wa with wa | rfl
  ·by_cases ha:a=D
   ·rw [ha,upd_same];simp
   ·rw [upd_ne ha];exact er2.trk a wa
  ·rw [upd_same];simp)
 have st4:tn 0 h4:=T.keep _ _ _ st2 fun b hb o e=>k34 b o (k23 b o e)
 have loop:∀ s4:Shared,s4={s3 with heap:=h4,toks:=s3.toks} ->
   codeAny (model X.prog X.w) X.A (.compLoop (.ListComp elt [⟨tg,iter,ifs,0⟩] scope pos) 0 (.ref it) (.ref D) (compEnvC scope (cellsFrom (s3.heap.objs.size+1) scope.names cl) s3.heap.objs.size X.env)) (compPost (model X.prog X.w) X.A X.xe none (EP X pins σ Q) (.ref D) s3.heap.objs.size) s4:=by
  rintro s4 rfl;refine comp_loop (W:=fun a=>W a\/a=D) (G:=hid W H2) hcalm T (hg _ _ _ _ _) (hif _ _ _ _ _) (he _ _ _ _ _) J0 st4 (fun b hb=>(hfp3 b hb).1.1) upd_same (.inr rfl) erC (hw ρ) caps_val hGs hit hz ho ?_
  intro s' σ' H' ys Jn hDn hys same;obtain ⟨m',hn',_⟩:=Jn.loc;refine ⟨m',hn',fun h' hsb'=>?_⟩
  have fin:=comp_back I3 hfp3 Jn hsb';have sH:Same H H':=fun b o z=>by
   have z2:=s02 b o z;have hb:b≠D:=fun y=>by rw [y,hn2] at z2;cases z2
   exact same b o hb (sD b o z2)
  refine ⟨.ref D,H',fin,rfl,q _ H' sH ?_⟩;have lift:Same (hid (fun a=>W a\/a=D) H') (hid W H'):=hid_mono fun a wa=>.inl wa
  exact Rep.lst (.inl (.inl (hid_some nWD hDn))) (hys.mono lift)
 exact codeAny_compStart_list (loop _ rfl) (T.self _ 0 _ _ _ st4 (loop _ rfl))
end
end Pu
namespace Pu
open PySem PySem.Spec PyProof.Rows L2
inductive Kd where
 | L | T
def IsIt (k:Kd) (h:Heap) (it a:Addr) (i:Nat):Prop:=match k with
 | .L=>h.IsListIter it a i
 | .T=>h.IsTupleIter it a i
def IsSq (k:Kd) (h:Heap) (a:Addr) (xs:Array Value):Prop:=match k with
 | .L=>h.IsList a xs
 | .T=>h.IsTuple a xs
theorem IsIt.to {k:Kd} {h h':Heap} {it a:Addr} {i:Nat} (x:IsIt k h it a i) (e:∀ o,h.get? it=some o->h'.get? it=some o):IsIt k h' it a i:=by
 cases k with
 | L=>exact Heap.IsListIter.at x e
 | T=>exact Heap.IsTupleIter.at x e
theorem IsSq.to {k:Kd} {h h':Heap} {a:Addr} {xs:Array Value} (x:IsSq k h a xs) (e:∀ o,h.get? a=some o->h'.get? a=some o):IsSq k h' a xs:=by
 cases k with
 | L=>obtain ⟨o,ho,r⟩:=x;exact ⟨o,e o ho,r⟩
 | T=>obtain ⟨o,ho,r⟩:=x;exact ⟨o,e o ho,r⟩
theorem IsIt.lt {k:Kd} {h:Heap} {it a:Addr} {i:Nat} (x:IsIt k h it a i):it<h.objs.size:=by
 cases k with
 | L=>obtain ⟨o,ho,r⟩:=x;exact Heap.lt_size ho
 | T=>obtain ⟨o,ho,r⟩:=x;exact Heap.lt_size ho
section
variable {prog:Program} {w:World} {A:Around} {E:Value->Shared->Prop} {s:Shared}
theorem draw_tuple {it t:Addr} {i:Nat} {xs:Array Value} {x:Value} {Q:Value->Shared->Prop} (h1:s.heap.IsTupleIter it t i) (h2:s.heap.IsTuple t xs) (hx:xs[i]?=some x)
  (q:∀ h',h'.IsTupleIter it t (i+1)->Heap.SameBut it s.heap h'->Q x {s with heap:=h'}):wpAny (model prog w) A (Builtin.SmallTypes.nextOf (.ref it)) Q E s:=by
 obtain ⟨o,ho,hc,hd⟩:=id h1;obtain ⟨ot,hot,_,nt,hdt⟩:=h2;unfold Builtin.SmallTypes.nextOf;refine wpAny_bind (wpAny_callSpecial?_slot (name:=Str.ofString "__next__") h1.typeIs PySem.F.slot_tuple_iterator_next (wpAny_call_entry PySem.F.slot_tuple_iterator_next h1.typeIs PySem.F.entry_tuple_iterator_next ?_ (PySem.F.args_tuple_iterator_next_1 _)));refine wpAny_bind (m:=field (.ref it) 0) (wpAny_field ho hd (x:=.ref t) rfl ?_);show wpAny (model prog w) _ (if (Value.ref t==Value.none)=true then _ else _) _ E s
 rw [if_neg (show ¬ (Value.ref t==Value.none)=true from Bool.false_ne_true)]
 refine wpAny_bind (m:=field (.ref it) 1) (wpAny_field ho hd (x:=.int i 0) rfl ?_);refine wpAny_bind (m:=seqItems? (.ref t)) (wpAny_seqItems hot hdt ?_);simp only [Int.toNat_natCast,hx];refine wpAny_bind (wpAny_setField ho hd (by simp) (wpAny_pure ⟨x,rfl,wpAny_pure (q _ ⟨_,Heap.get?_update_self _ ho (Obj.isFreed_of_fields (Obj.data_mapFields hd _)),(Obj.cls_mapFields ..).trans hc,?_⟩ (Heap.SameBut.update ..))⟩));rw [Obj.data_mapFields hd];simp [rawInt]
theorem stop_wp {Q:PySem.Fin->Shared->Prop} (hh:A.handled=none) (q:∀ h' e,(∀ b o,s.heap.get? b=some o->h'.get? b=some o)->(∃ o,h'.get? e=some o/\o.cls=.type "StopIteration")->E (.ref e) {s with heap:=h'}) :
  wpAny (model prog w) A.in1 Builtin.SmallTypes.stopIteration Q E s:=by
 refine wpAny_bind (m:=newExc (.type "StopIteration") []) ?_;simp only [newExc,newTuple];refine wpAny_bind (wpAny_newObj_type (wpAny_bind (m:=firstArgMember _ _) (wpAny_of_eq (a:=Value.none) (by first | rfl | (simp only [firstArgMember];rfl)) (wpAny_newObj_type ?_ (by size_fits)))) (by size_fits))
 simp only [raiseNew];refine wpAny_bind (wpAny_handled ?_);rw [show A.in1.handled=none from hh]
 exact wpAny_bind (wpAny_pure (wpAny_throw (q _ _ (fun b o e=>Heap.get?_push_of_some _ (Heap.get?_push_of_some _ e)) ⟨_,Heap.get?_push_size _ rfl,rfl⟩)))
theorem draw_tuple_end {it t:Addr} {i:Nat} {xs:Array Value} {Q:Value->Shared->Prop} (hh:A.handled=none) (h1:s.heap.IsTupleIter it t i) (h2:s.heap.IsTuple t xs) (hx:xs[i]?=none)
  (q:∀ h' e,Heap.ExtBut it s.heap h'->(∃ o,h'.get? e=some o/\o.cls=.type "StopIteration")->E (.ref e) {s with heap:=h'}):wpAny (model prog w) A (Builtin.SmallTypes.nextOf (.ref it)) Q E s:=by
 obtain ⟨o,ho,hc,hd⟩:=id h1;obtain ⟨ot,hot,_,nt,hdt⟩:=h2;unfold Builtin.SmallTypes.nextOf;refine wpAny_bind (wpAny_callSpecial?_slot (name:=Str.ofString "__next__") h1.typeIs PySem.F.slot_tuple_iterator_next (wpAny_call_entry PySem.F.slot_tuple_iterator_next h1.typeIs PySem.F.entry_tuple_iterator_next ?_ (PySem.F.args_tuple_iterator_next_1 _)));refine wpAny_bind (m:=field (.ref it) 0) (wpAny_field ho hd (x:=.ref t) rfl ?_);show wpAny (model prog w) _ (if (Value.ref t==Value.none)=true then _ else _) _ E s
 rw [if_neg (show ¬ (Value.ref t==Value.none)=true from Bool.false_ne_true)]
 refine wpAny_bind (m:=field (.ref it) 1) (wpAny_field ho hd (x:=.int i 0) rfl ?_);refine wpAny_bind (m:=seqItems? (.ref t)) (wpAny_seqItems hot hdt ?_);simp only [Int.toNat_natCast,hx];refine wpAny_bind (wpAny_rule (wpAny_bind (wpAny_setField ho hd (by simp) ?_)));refine stop_wp hh fun h' e k he=>q h' e (fun b ob hb eb=>k b ob ((Heap.SameBut.update s.heap it _).extBut b ob hb eb)) he
theorem draw_item {k:Kd} {it l:Addr} {i:Nat} {xs:Array Value} {x:Value} {Q:Value->Shared->Prop} (h1:IsIt k s.heap it l i) (h2:IsSq k s.heap l xs) (hx:xs[i]?=some x)
  (q:∀ h',IsIt k h' it l (i+1)->Heap.SameBut it s.heap h'->Q x {s with heap:=h'}):wpAny (model prog w) A (Builtin.SmallTypes.nextOf (.ref it)) Q E s:=by
 cases k with
 | L=>exact wpAny_nextOf_list_item h1 h2 hx q
 | T=>exact draw_tuple h1 h2 hx q
theorem draw_end {k:Kd} {it l:Addr} {i:Nat} {xs:Array Value} {Q:Value->Shared->Prop} (hh:A.handled=none) (h1:IsIt k s.heap it l i) (h2:IsSq k s.heap l xs) (hx:xs[i]?=none)
  (q:∀ h' e,Heap.ExtBut it s.heap h'->(∃ o,h'.get? e=some o/\o.cls=.type "StopIteration")->E (.ref e) {s with heap:=h'}):wpAny (model prog w) A (Builtin.SmallTypes.nextOf (.ref it)) Q E s:=by
 cases k with
 | L=>exact wpAny_nextOf_list_end hh h1 h2 hx q
 | T=>exact draw_tuple_end hh h1 h2 hx q
theorem iter_sq {k:Kd} {l:Addr} {xs:Array Value} {Q:Value->Shared->Prop} (h2:IsSq k s.heap l xs) (q:∀ h',h'.objs.size=s.heap.objs.size+1->IsIt k h' s.heap.objs.size l 0->(∀ b o,s.heap.get? b=some o->h'.get? b=some o)->Q (.ref s.heap.objs.size) {s with heap:=h'}) :
  wpAny (model prog w) A (pyIter (.ref l)) Q E s:=by
 cases k with
 | L=>exact wpAny_pyIter_list h2 (q _ (Heap.size_push ..) ⟨_,Heap.get?_push_size _ rfl,rfl,rfl⟩ fun b o e=>Heap.get?_push_of_some _ e)
 | T=>exact wpAny_pyIter_tuple h2 (q _ (Heap.size_push ..) ⟨_,Heap.get?_push_size _ rfl,rfl,rfl⟩ fun b o e=>Heap.get?_push_of_some _ e)
structure Zp (k1 k2:Kd) (h:Heap) (z TI TO i1 i2 l1 l2:Addr) (f0:Value) (n1 n2:Nat):Prop where
 zz:IsZip h z TI TO f0
 ti:IsPair h TI (.ref i1) (.ref i2)
 to:∃ a b,IsPair h TO a b
 t1:IsIt k1 h i1 l1 n1
 t2:IsIt k2 h i2 l2 n2
structure Ap (z TI TO i1 i2 l1 l2:Addr):Prop where
 a1:TI≠z
 a2:TO≠z
 a3:i1≠z
 a4:i2≠z
 a5:TO≠i1
 a6:TO≠i2
 a7:i1≠i2
 b1:l1≠z
 b2:l1≠TO
 b3:l1≠i1
 b4:l1≠i2
 c1:l2≠z
 c2:l2≠TO
 c3:l2≠i1
 c4:l2≠i2
 d1:TI≠TO
 d2:TI≠i1
 d3:TI≠i2
theorem zip_item {k1 k2:Kd} {z TI TO i1 i2 l1 l2:Addr} {n1 n2:Nat} {xs ys:Array Value} {x y:Value} {Q:Value->Shared->Prop} (D:Ap z TI TO i1 i2 l1 l2) (Z:Zp k1 k2 s.heap z TI TO i1 i2 l1 l2 .none n1 n2)
  (g1:IsSq k1 s.heap l1 xs) (g2:IsSq k2 s.heap l2 ys) (hx:xs[n1]?=some x) (hy:ys[n2]?=some y)
  (q:∀ h',Zp k1 k2 h' z TI TO i1 i2 l1 l2 (rawInt s.heap.objs.size) (n1+1) (n2+1)->IsPair h' s.heap.objs.size x y->h'.objs.size=s.heap.objs.size+1 ->
   (∀ c o,c≠z->c≠TO->c≠i1->c≠i2->s.heap.get? c=some o->h'.get? c=some o)->Q (.ref s.heap.objs.size) {s with heap:=h'}) :
  wpAny (model prog w) A (Builtin.«zip.__next__» ⟨[.ref z],[]⟩) (fun fin s'=>∃ v,fin=.done (.ret v)/\Q v s') E s:=by
 obtain ⟨hz,hTI,⟨a,b,hTO⟩,h1,h2⟩:=Z;refine wpAny_bind (m:=field (.ref z) 2) (wpAny_field hz rfl (x:=.bool false) rfl (wpAny_bind (m:=field (.ref z) 3) (wpAny_field hz rfl (x:=.ref TI) rfl (wpAny_bind (wpAny_seqItems hTI rfl ?_)))));refine wpAny_bind (m:=Builtin.SmallTypes.ownedTupleIsFree (.ref z)) (wpAny_bind (m:=field (.ref z) 0) (wpAny_field hz rfl (x:=.none) rfl (wpAny_pure ?_)));simp only [if_true];refine wpAny_bind (wpAny_rule (wpAny_bind (wpAny_field hz rfl (x:=.ref TO) rfl (wpAny_bind (wpAny_setField_rec hz (by simp) fun m1 zz1 e1=>wpAny_bind ?_)))))
 replace zz1:IsZip m1 z TI TO .ellipsis:=zz1
 simp only [List.zipIdx_cons,List.zipIdx_nil,List.forIn_cons,List.forIn_nil];refine wpAny_bind (wpAny_bind (wpAny_onRaise (wpAny_bind (m:=Builtin.SmallTypes.nextOf (.ref i1)) (draw_item (h1.to fun o=>e1.extBut _ o D.a3) (g1.to fun o=>e1.extBut _ o D.b1) hx fun m2 t2 e2=>wpAny_pure ?_))))
 have o2:IsPair m2 TO a b:=e2.extBut _ _ D.a5 (e1.extBut _ _ D.a2 hTO);refine wpAny_bind (wpAny_seqItems o2 rfl (wpAny_bind (wpAny_updateSeq_pair o2 fun m3 o3 e3=>wpAny_bind (wpAny_letGo (wpAny_pure ?_)))))
 replace o3:IsPair m3 TO x b:=o3
 refine wpAny_bind (wpAny_bind (wpAny_onRaise (wpAny_bind (m:=Builtin.SmallTypes.nextOf (.ref i2)) (draw_item (((h2.to fun o=>e1.extBut _ o D.a4).to fun o=>e2.extBut _ o D.a7.symm).to fun o=>e3.extBut _ o D.a6.symm)
  (((g2.to fun o=>e1.extBut _ o D.c1).to fun o=>e2.extBut _ o D.c3).to fun o=>e3.extBut _ o D.c2) hy fun m4 t4 e4=>wpAny_pure ?_))))
 have o4:IsPair m4 TO x b:=e4.extBut _ _ D.a6 o3;refine wpAny_bind (wpAny_seqItems o4 rfl (wpAny_bind (wpAny_updateSeq_pair o4 fun m5 o5 e5=>wpAny_bind (wpAny_letGo (wpAny_pure (wpAny_pure ?_))))))
 replace o5:IsPair m5 TO x y:=o5
 refine wpAny_bind (wpAny_seqItems o5 rfl (wpAny_bind (wpAny_newTuple ?_)));have sz:m5.objs.size=s.heap.objs.size:=by rw [e5.1,e4.1,e3.1,e2.1,e1.1]
 have z5:IsZip m5 z TI TO .ellipsis:=e5.extBut _ _ D.a2.symm (e4.extBut _ _ D.a4.symm (e3.extBut _ _ D.a2.symm (e2.extBut _ _ D.a3.symm zz1)));have kp:∀ c o,c≠z->c≠TO->c≠i1->c≠i2->s.heap.get? c=some o->m5.get? c=some o:=fun c o w1 w2 w3 w4 e=>e5.extBut _ _ w2 (e4.extBut _ _ w4 (e3.extBut _ _ w2 (e2.extBut _ _ w3 (e1.extBut _ _ w1 e))))
 have p1:IsIt k1 m5 i1 l1 (n1+1):=((t2.to fun o=>e3.extBut _ o D.a5.symm).to fun o=>e4.extBut _ o D.a7).to fun o=>e5.extBut _ o D.a5.symm
 have p2:IsIt k2 m5 i2 l2 (n2+1):=t4.to fun o=>e5.extBut _ o D.a6.symm
 have zl:z<m5.objs.size:=Heap.lt_size z5;refine wpAny_bind (m:=Builtin.SmallTypes.ownedTupleHandOut (.ref z) (.ref m5.objs.size)) ?_;unfold Builtin.SmallTypes.ownedTupleHandOut;have z6:IsZip (m5.push {cls:=.type "tuple",data:=.seq #[x,y]}) z TI TO .ellipsis:=Heap.get?_push_of_some _ z5;refine wpAny_bind (wpAny_setField_rec z6 (by simp) fun m7 z7 e7=>?_)
 replace z7:IsZip m7 z TI TO (rawInt m5.objs.size):=z7
 refine wpAny_setField_rec z7 (by simp) fun m8 z8 e8=>?_
 replace z8:IsZip m8 z TI TO (rawInt m5.objs.size):=z8
 have up:∀ c o,c≠z->m5.get? c=some o->m8.get? c=some o:=fun c o w1 e=>e8.extBut _ _ w1 (e7.extBut _ _ w1 (Heap.get?_push_of_some _ e))
 have pr:IsPair m8 m5.objs.size x y:=e8.extBut _ _ (Nat.ne_of_gt zl) (e7.extBut _ _ (Nat.ne_of_gt zl) (Heap.get?_push_size _ rfl));have s8:m8.objs.size=m5.objs.size+1:=by rw [e8.1,e7.1,Heap.size_push]
 rw [sz] at z8 pr s8;refine wpAny_pure ⟨_,rfl,?_⟩;show Q (.ref m5.objs.size) _;rw [sz];exact q m8 ⟨z8,up _ _ D.a1 (kp _ _ D.a1 D.d1 D.d2 D.d3 hTI),⟨x,y,up _ _ D.a2 o5⟩,p1.to fun o=>up _ o D.a3,p2.to fun o=>up _ o D.a4⟩ pr s8 fun c o w1 w2 w3 w4 e=>up c o w1 (kp c o w1 w2 w3 w4 e)
theorem zip_end {k1 k2:Kd} {z TI TO i1 i2 l1 l2:Addr} {n1 n2:Nat} {xs ys:Array Value} {Q:PySem.Fin->Shared->Prop} (hh:A.handled=none) (D:Ap z TI TO i1 i2 l1 l2) (Z:Zp k1 k2 s.heap z TI TO i1 i2 l1 l2 .none n1 n2)
  (g1:IsSq k1 s.heap l1 xs) (g2:IsSq k2 s.heap l2 ys) (he:xs[n1]?=none\/ys[n2]?=none)
  (q:∀ h' e,(∀ c o,c≠z->c≠TO->c≠i1->c≠i2->s.heap.get? c=some o->h'.get? c=some o)->(∃ o,h'.get? e=some o/\o.cls=.type "StopIteration")->E (.ref e) {s with heap:=h'}) :
  wpAny (model prog w) A (Builtin.«zip.__next__» ⟨[.ref z],[]⟩) Q E s:=by
 obtain ⟨hz,hTI,⟨a,b,hTO⟩,h1,h2⟩:=Z;refine wpAny_bind (m:=field (.ref z) 2) (wpAny_field hz rfl (x:=.bool false) rfl (wpAny_bind (m:=field (.ref z) 3) (wpAny_field hz rfl (x:=.ref TI) rfl (wpAny_bind (wpAny_seqItems hTI rfl ?_)))));refine wpAny_bind (m:=Builtin.SmallTypes.ownedTupleIsFree (.ref z)) (wpAny_bind (m:=field (.ref z) 0) (wpAny_field hz rfl (x:=.none) rfl (wpAny_pure ?_)));simp only [if_true];refine wpAny_bind (wpAny_rule (wpAny_bind (wpAny_field hz rfl (x:=.ref TO) rfl (wpAny_bind (wpAny_setField_rec hz (by simp) fun m1 zz1 e1=>wpAny_bind ?_)))))
 replace zz1:IsZip m1 z TI TO .ellipsis:=zz1
 simp only [List.zipIdx_cons,List.zipIdx_nil,List.forIn_cons,List.forIn_nil];cases hx:xs[n1]? with
 | none =>
  refine wpAny_bind (wpAny_bind (wpAny_onRaise (wpAny_bind (m:=Builtin.SmallTypes.nextOf (.ref i1)) (draw_end hh (h1.to fun o=>e1.extBut _ o D.a3) (g1.to fun o=>e1.extBut _ o D.b1) hx fun m2 e e2 hes=>?_))))
  obtain ⟨oe,hoe,hce⟩:=hes;have z2:IsZip m2 z TI TO .ellipsis:=e2 _ _ D.a3.symm zz1;have ez:e≠z:=fun u=>by subst u;rw [z2] at hoe;cases hoe;simp at hce
  exact wpAny_setField_rec z2 (by simp) fun m3 _ e3=>q m3 e (fun c o w1 _ w3 _ u=>e3.extBut _ _ w1 (e2 _ _ w3 (e1.extBut _ _ w1 u))) ⟨oe,e3.extBut _ _ ez hoe,hce⟩
 | some x =>
  have hy:ys[n2]?=none:=he.resolve_left (by rw [hx];simp);refine wpAny_bind (wpAny_bind (wpAny_onRaise (wpAny_bind (m:=Builtin.SmallTypes.nextOf (.ref i1)) (draw_item (h1.to fun o=>e1.extBut _ o D.a3) (g1.to fun o=>e1.extBut _ o D.b1) hx fun m2 t2 e2=>wpAny_pure ?_))))
  have o2:IsPair m2 TO a b:=e2.extBut _ _ D.a5 (e1.extBut _ _ D.a2 hTO);refine wpAny_bind (wpAny_seqItems o2 rfl (wpAny_bind (wpAny_updateSeq_pair o2 fun m3 o3 e3=>wpAny_bind (wpAny_letGo (wpAny_pure ?_)))))
  refine wpAny_bind (wpAny_bind (wpAny_onRaise (wpAny_bind (m:=Builtin.SmallTypes.nextOf (.ref i2)) (draw_end hh (((h2.to fun o=>e1.extBut _ o D.a4).to fun o=>e2.extBut _ o D.a7.symm).to fun o=>e3.extBut _ o D.a6.symm)
   (((g2.to fun o=>e1.extBut _ o D.c1).to fun o=>e2.extBut _ o D.c3).to fun o=>e3.extBut _ o D.c2) hy fun m4 e e4 hes=>?_))))
  obtain ⟨oe,hoe,hce⟩:=hes;have z4:IsZip m4 z TI TO .ellipsis:=e4 _ _ D.a4.symm (e3.extBut _ _ D.a2.symm (e2.extBut _ _ D.a3.symm zz1));have ez:e≠z:=fun u=>by subst u;rw [z4] at hoe;cases hoe;simp at hce
  exact wpAny_setField_rec z4 (by simp) fun m5 _ e5=>q m5 e (fun c o w1 w2 w3 w4 u=>e5.extBut _ _ w1 (e4 _ _ w4 (e3.extBut _ _ w2 (e2.extBut _ _ w3 (e1.extBut _ _ w1 u))))) ⟨oe,e5.extBut _ _ ez hoe,hce⟩
theorem next_zip_item {k1 k2:Kd} {z TI TO i1 i2 l1 l2:Addr} {n1 n2:Nat} {xs ys:Array Value} {x y:Value} {Q:Option Value->Shared->Prop} (D:Ap z TI TO i1 i2 l1 l2) (Z:Zp k1 k2 s.heap z TI TO i1 i2 l1 l2 .none n1 n2)
  (g1:IsSq k1 s.heap l1 xs) (g2:IsSq k2 s.heap l2 ys) (hx:xs[n1]?=some x) (hy:ys[n2]?=some y)
  (q:∀ h',Zp k1 k2 h' z TI TO i1 i2 l1 l2 (rawInt s.heap.objs.size) (n1+1) (n2+1)->IsPair h' s.heap.objs.size x y->h'.objs.size=s.heap.objs.size+1 ->
   (∀ c o,c≠z->c≠TO->c≠i1->c≠i2->s.heap.get? c=some o->h'.get? c=some o)->Q (some (.ref s.heap.objs.size)) {s with heap:=h'}):wpAny (model prog w) A (pyNext (.ref z)) Q E s:=by
 have hT:s.TypeIs (.ref z) "zip" := ⟨_,Z.zz,rfl⟩;unfold pyNext;exact wpAny_bind (wpAny_attempt (wpAny_callSpecial?_slot (name:=Str.ofString "__next__") hT PySem.F.slot_zip_next (wpAny_call_entry PySem.F.slot_zip_next hT PySem.F.entry_zip_next
  (zip_item D Z g1 g2 hx hy fun h' a1 a2 a3 a4=>wpAny_pure (q h' a1 a2 a3 a4)) (PySem.F.args_zip_next_1 _))))
theorem next_zip_end {k1 k2:Kd} {z TI TO i1 i2 l1 l2:Addr} {n1 n2:Nat} {xs ys:Array Value} {Q:Option Value->Shared->Prop} (hh:A.handled=none) (D:Ap z TI TO i1 i2 l1 l2) (Z:Zp k1 k2 s.heap z TI TO i1 i2 l1 l2 .none n1 n2)
  (g1:IsSq k1 s.heap l1 xs) (g2:IsSq k2 s.heap l2 ys) (he:xs[n1]?=none\/ys[n2]?=none)
  (q:∀ h',(∀ c o,c≠z->c≠TO->c≠i1->c≠i2->s.heap.get? c=some o->h'.get? c=some o)->Q none {s with heap:=h'}):wpAny (model prog w) A (pyNext (.ref z)) Q E s:=by
 have hT:s.TypeIs (.ref z) "zip" := ⟨_,Z.zz,rfl⟩;unfold pyNext;refine wpAny_bind (wpAny_attempt (wpAny_callSpecial?_slot (name:=Str.ofString "__next__") hT PySem.F.slot_zip_next (wpAny_call_entry PySem.F.slot_zip_next hT PySem.F.entry_zip_next (zip_end hh D Z g1 g2 he fun h' e hk hes=>?_) (PySem.F.args_zip_next_1 _))));obtain ⟨o,ho,hc⟩:=hes;exact wpAny_bind (wpAny_isInstance (T := "StopIteration") (b:=true) ⟨o,ho,hc⟩ isSubtype_stop (wpAny_pure (q _ hk)))
def itCls:Kd->String
 | .L => "list_iterator"
 | .T => "tuple_iterator"
abbrev itO (k:Kd) (l:Addr):Obj:={cls:=.type (itCls k),data:=.fields #[.ref l,.int 0 0]}
abbrev zq2 (k1 k2:Kd) (h:Heap) (l1 l2:Addr):Heap:=(h.push (itO k1 l1)).push (itO k2 l2)
abbrev zq4 (k1 k2:Kd) (h:Heap) (l1 l2:Addr):Heap:=((zq2 k1 k2 h l1 l2).push {cls:=.type "tuple",data:=.seq #[.ref h.objs.size,.ref (h.push (itO k1 l1)).objs.size]}).push {cls:=.type "tuple",data:=.seq #[.none,.none]}
abbrev zq5 (k1 k2:Kd) (h:Heap) (l1 l2:Addr):Heap:=(zq4 k1 k2 h l1 l2).push {cls:=.type "zip",data:=.fields #[.none,.bool false,.bool false,.ref (zq2 k1 k2 h l1 l2).objs.size,.ref ((zq2 k1 k2 h l1 l2).push {cls:=.type "tuple",data:=.seq #[.ref h.objs.size,.ref (h.push (itO k1 l1)).objs.size]}).objs.size]}
set_option maxHeartbeats 8000000 in
theorem zip_made (k1 k2:Kd) (l1 l2:Addr) (xs ys:Array Value) :
  Meets (Builtin.«zip.__new__» ⟨[.type "zip",.ref l1,.ref l2],[]⟩) (fun _ R s=>IsSq k1 s.heap l1 xs/\IsSq k2 s.heap l2 ys/\R (.ok (.ret (.ref (zq4 k1 k2 s.heap l1 l2).objs.size))) {s with heap:=zq5 k1 k2 s.heap l1 l2}) :=
 .of_wp fun prog w A R s h=>by
  obtain ⟨hp,g,d,tk,os⟩:=s;obtain ⟨hl1,hl2,h⟩:=h;have hsub:=sub_zip;have hL2:IsSq k2 (hp.push (itO k1 l1)) l2 ys:=hl2.to fun o e=>Heap.get?_push_of_some _ e
  cases k1<;>cases k2
  ·have q1:Heap.IsList (Shared.heap ⟨hp,g,d,tk,os⟩) l1 xs:=hl1;have q2:Heap.IsList (Shared.heap ⟨hp.push {cls:=.type "list_iterator",data:=.fields #[.ref l1,.int 0 0]},g,d,tk,os⟩) l2 ys:=hL2
   wp_walk using wpAny_pyIter_list q1,wpAny_pyIter_list q2
   exact ⟨_,rfl,h⟩
  ·have q1:Heap.IsList (Shared.heap ⟨hp,g,d,tk,os⟩) l1 xs:=hl1;have q2:Heap.IsTuple (Shared.heap ⟨hp.push {cls:=.type "list_iterator",data:=.fields #[.ref l1,.int 0 0]},g,d,tk,os⟩) l2 ys:=hL2
   wp_walk using wpAny_pyIter_list q1,wpAny_pyIter_tuple q2
   exact ⟨_,rfl,h⟩
  ·have q1:Heap.IsTuple (Shared.heap ⟨hp,g,d,tk,os⟩) l1 xs:=hl1;have q2:Heap.IsList (Shared.heap ⟨hp.push {cls:=.type "tuple_iterator",data:=.fields #[.ref l1,.int 0 0]},g,d,tk,os⟩) l2 ys:=hL2
   wp_walk using wpAny_pyIter_tuple q1,wpAny_pyIter_list q2
   exact ⟨_,rfl,h⟩
  ·have q1:Heap.IsTuple (Shared.heap ⟨hp,g,d,tk,os⟩) l1 xs:=hl1;have q2:Heap.IsTuple (Shared.heap ⟨hp.push {cls:=.type "tuple_iterator",data:=.fields #[.ref l1,.int 0 0]},g,d,tk,os⟩) l2 ys:=hL2
   wp_walk using wpAny_pyIter_tuple q1,wpAny_pyIter_tuple q2
   exact ⟨_,rfl,h⟩
theorem itO_is {k:Kd} {h:Heap} {it l:Addr} (e:h.get? it=some (itO k l)):IsIt k h it l 0:=by
 cases k with
 | L=>exact ⟨_,e,rfl,rfl⟩
 | T=>exact ⟨_,e,rfl,rfl⟩
theorem call_zip {k1 k2:Kd} {l1 l2:Addr} {xs ys:Array Value} {Q:Value->Shared->Prop} (g1:IsSq k1 s.heap l1 xs) (g2:IsSq k2 s.heap l2 ys)
  (q:∀ h',Zp k1 k2 h' (s.heap.objs.size+4) (s.heap.objs.size+2) (s.heap.objs.size+3) s.heap.objs.size (s.heap.objs.size+1) l1 l2 .none 0 0->(∀ c o,s.heap.get? c=some o->h'.get? c=some o)->Q (.ref (s.heap.objs.size+4)) {s with heap:=h'}) :
  wpAny (model prog w) A (call (.type "zip") [.ref l1,.ref l2]) Q E s:=by
 refine callType_new PySem.F.called_zip (by decide) (PySem.F.typeCall_zip_2 _ _) (PySem.F.newCall_zip_2 _ _) (fun obj=>PySem.F.args_object_init_3 obj _ _) PySem.F.entry_zip_new (zip_made k1 k2 l1 l2 xs ys) ⟨g1,g2,?_⟩;have z1:(s.heap.push (itO k1 l1)).objs.size=s.heap.objs.size+1:=Heap.size_push ..;have z2:(zq2 k1 k2 s.heap l1 l2).objs.size=s.heap.objs.size+2:=by rw [Heap.size_push,z1]
 have z3:((zq2 k1 k2 s.heap l1 l2).push {cls:=.type "tuple",data:=.seq #[.ref s.heap.objs.size,.ref (s.heap.push (itO k1 l1)).objs.size]}).objs.size=s.heap.objs.size+3:=by rw [Heap.size_push,z2]
 have z4:(zq4 k1 k2 s.heap l1 l2).objs.size=s.heap.objs.size+4:=by rw [Heap.size_push,z3]
 have e5:(zq5 k1 k2 s.heap l1 l2).get? (zq4 k1 k2 s.heap l1 l2).objs.size=some _:=Heap.get?_push_size _ rfl;have e4:(zq5 k1 k2 s.heap l1 l2).get? ((zq2 k1 k2 s.heap l1 l2).push {cls:=.type "tuple",data:=.seq #[.ref s.heap.objs.size,.ref (s.heap.push (itO k1 l1)).objs.size]}).objs.size=some _:=Heap.get?_push_of_some _ (Heap.get?_push_size _ rfl);have e3:(zq5 k1 k2 s.heap l1 l2).get? (zq2 k1 k2 s.heap l1 l2).objs.size=some _:=Heap.get?_push_of_some _ (Heap.get?_push_of_some _ (Heap.get?_push_size _ rfl));have e2:(zq5 k1 k2 s.heap l1 l2).get? (s.heap.push (itO k1 l1)).objs.size=some _:=Heap.get?_push_of_some _ (Heap.get?_push_of_some _ (Heap.get?_push_of_some _ (Heap.get?_push_size _ rfl)));have e1:(zq5 k1 k2 s.heap l1 l2).get? s.heap.objs.size=some _:=Heap.get?_push_of_some _ (Heap.get?_push_of_some _ (Heap.get?_push_of_some _ (Heap.get?_push_of_some _ (Heap.get?_push_size _ rfl))));show _/\_;rw [z2,z3,z4] at e5;rw [z1,z2] at e3;rw [z3] at e4;rw [z1] at e2;rw [z4];exact ⟨⟨_,e5,rfl⟩,q _ ⟨e5,e3,⟨_,_,e4⟩,itO_is e1,itO_is e2⟩ fun c o x=>Heap.get?_push_of_some _ (Heap.get?_push_of_some _ (Heap.get?_push_of_some _ (Heap.get?_push_of_some _ (Heap.get?_push_of_some _ x))))⟩
end
def SqK (k:Kd) (K:PySem.W.Frag) (H:Hp) (a:Addr) (xs:List V):Prop:=match k with
 | .L=>SqL K H a xs
 | .T=>SqT K H a xs
theorem SqK.sq {X:Cx} {pins:List (Addr×Obj)} {σ:SS} {H:Hp} {s:Shared} {k:Kd} {a:Addr} {xs:List V} (I:L2.Inv X pins σ H s) (h:SqK k X.K H a xs):∃ its:List Value,Vals xs its/\IsSq k s.heap a its.toArray:=by
 cases k with
 | L=>obtain ⟨its,r,p,_⟩:=I.list h;exact ⟨its,r,p.isList⟩
 | T=>obtain ⟨its,r,p,_⟩:=I.tuple h;exact ⟨its,r,p⟩
theorem SqK.inj {X:Cx} {pins:List (Addr×Obj)} {σ:SS} {H:Hp} {s:Shared} {k:Kd} {a:Addr} {xs ys:List V} (I:L2.Inv X pins σ H s) (h:SqK k X.K H a xs) (h':SqK k X.K H a ys):xs=ys:=by
 cases k with
 | L=>exact I.list_inj h h'
 | T=>exact I.tuple_inj h h'
def Itz (k1 k2:Kd) (K:PySem.W.Frag) (a b:Addr):It :=
 ⟨fun i H=>∃ xs ys x y,SqK k1 K H a xs/\SqK k2 K H b ys/\xs[i]?=some x/\ys[i]?=some y,
  fun i H z H'=>∃ p x y,z=.ref p/\H p=none/\H'=upd H p (.tup [x,y])/\(∀ xs,SqK k1 K H a xs->xs[i]?=some x)/\∀ ys,SqK k2 K H b ys->ys[i]?=some y,
  fun i H=>∃ xs ys,SqK k1 K H a xs/\SqK k2 K H b ys/\(xs.length<=i\/ys.length<=i)⟩
end Pu
namespace Pu
open PySem PySem.Spec PyProof.Rows L2
theorem Zp.mv {k1 k2:Kd} {h h':Heap} {z TI TO i1 i2 l1 l2:Addr} {f0:Value} {n1 n2:Nat} (Z:Zp k1 k2 h z TI TO i1 i2 l1 l2 f0 n1 n2) (e:∀ b∈[z,TI,TO,i1,i2],∀ o,h.get? b=some o->h'.get? b=some o):Zp k1 k2 h' z TI TO i1 i2 l1 l2 f0 n1 n2 :=
 ⟨e z (by simp) _ Z.zz,e TI (by simp) _ Z.ti,let ⟨a,b,q⟩:=Z.to;⟨a,b,e TO (by simp) _ q⟩,Z.t1.to (e i1 (by simp)),Z.t2.to (e i2 (by simp))⟩
theorem it_obj {k:Kd} {h:Heap} {it a:Addr} {i:Nat} (x:IsIt k h it a i):∃ o,h.get? it=some o/\∀ v,o.data≠.cell v:=by
 cases k with
 | L=>obtain ⟨o,ho,hc,hd⟩:=x;exact ⟨o,ho,fun v z=>by rw [hd] at z;cases z⟩
 | T=>obtain ⟨o,ho,hc,hd⟩:=x;exact ⟨o,ho,fun v z=>by rw [hd] at z;cases z⟩
theorem turn_zip {P:Program} {w:World} {K:PySem.W.Frag} {es:List Expr} {kk:Nat} {ps:Pos} (k1 k2:Kd) (z TI TO i1 i2 a b:Addr) (D:Ap z TI TO i1 i2 a b) :
  Turn P w K (.Tuple es kk ps) (Itz k1 k2 K a b) [z,TI,TO,i1,i2] z (fun i h=>Zp k1 k2 h z TI TO i1 i2 a b .none i i) where
 mem:=by simp
 obj:=fun i h Z c hc=>by
  obtain ⟨x,y,q⟩:=Z.to;simp only [List.mem_cons,List.not_mem_nil,or_false] at hc
  rcases hc with rfl | rfl | rfl | rfl | rfl
  ·exact ⟨_,Z.zz,fun v e=>by cases e⟩
  ·exact ⟨_,Z.ti,fun v e=>by cases e⟩
  ·exact ⟨_,q,fun v e=>by cases e⟩
  ·exact it_obj Z.t1
  ·exact it_obj Z.t2
 keep:=fun i h h' Z e=>Z.mv fun c hc o q=>e c hc o q
 item:=by
  intro X hP hw hK hc i pins s σ H E I hf Z hg;subst hP hw hK;obtain ⟨xs,ys,x,y,qa,qb,hx,hy⟩:=hg;obtain ⟨its,r1,g1⟩:=qa.sq I;obtain ⟨its2,r2,g2⟩:=qb.sq I;obtain ⟨u,hu,ru⟩:=r1.get hx;obtain ⟨v,hv,rv⟩:=r2.get hy;refine next_zip_item D Z g1 g2 (x:=u) (y:=v) (by simpa using hu) (by simpa using hv) fun h' Z' pr sz kp=>⟨_,rfl,?_⟩
  refine wpAny_letOwnedTupleGo_zip (s:={s with heap:=h'}) Z'.zz fun h2 z2 e2=>?_
  have fr:H s.heap.objs.size=none:=I.fresh;have nz:∀ c∈[z,TI,TO,i1,i2],c<s.heap.objs.size:=fun c hc=>by
   obtain ⟨x,y,q⟩:=Z.to;simp only [List.mem_cons,List.not_mem_nil,or_false] at hc
   rcases hc with rfl | rfl | rfl | rfl | rfl
   ·exact Heap.lt_size Z.zz
   ·exact Heap.lt_size Z.ti
   ·exact Heap.lt_size q
   ·exact Z.t1.lt
   ·exact Z.t2.lt
  have pz:s.heap.objs.size≠z:=Nat.ne_of_gt (nz z (by simp));have up:∀ c o,c∉[z,TO,i1,i2]->s.heap.get? c=some o->h2.get? c=some o:=fun c o hc q=>by
   simp only [List.mem_cons,List.not_mem_nil,or_false,not_or] at hc;exact e2.extBut _ _ hc.1 (kp c o hc.1 hc.2.1 hc.2.2.1 hc.2.2.2 q)
  have sub:∀ c∈[z,TO,i1,i2],c∈[z,TI,TO,i1,i2]:=fun c hc=>by
   simp only [List.mem_cons,List.not_mem_nil,or_false] at hc ⊢
   rcases hc with h | h | h | h<;>simp [h]
  have nH:∀ c o,H c=some o->c∉[z,TO,i1,i2]:=fun c o q hc=>by rw [(hf c (sub c hc)).1] at q;cases q
  have pT:h2.get? s.heap.objs.size=some {cls:=.type "tuple",data:=.seq #[u,v]}:=e2.extBut _ _ pz pr;have I2:L2.Inv X pins σ (upd H s.heap.objs.size (.tup [x,y])) {s with heap:=h2,gens:=s.gens,drawn:=s.drawn,toks:=s.toks}:=by
   refine I.step (ch:=[z,TO,i1,i2]) (fun c hc=>?_) (fun c o _ _ hc q _=>up c o hc q) (fun c o _ _ hc q _=>⟨o.slots,up c o hc q⟩) (fun c o _ q n=>by rw [upd_ne (Nat.ne_of_lt (Heap.lt_size q))];exact n)
    (fun c o hc q=>⟨o,up c o hc q⟩) (fun c l q=>by rw [upd_ne (ne_of_none q fr)];exact q) (fun c o l q=>by rw [upd_ne (ne_of_none q fr)];exact q) (fun c l q=>⟨#[],by rw [upd_ne (ne_of_none q fr),q];simp⟩) (fun m hm=>?_) (fun c o q=>?_) I.bare
   ·obtain ⟨f0,f1,f2,f3,f4,f5⟩:=hf c (sub c hc);exact ⟨f3,f1,f4,f5⟩
   ·obtain ⟨o,es',ep,ho,rr⟩:=hm;refine ⟨o,es',ep,up _ o (fun hc=>?_) ho,rr⟩;exact (hf _ (sub _ hc)).2.1 rfl
   ·by_cases hcp:c=s.heap.objs.size
    ·subst hcp;rw [upd_same] at q;cases q;exact ⟨by show 2<=sizeLine;decide,[u,v],.cons ru (.cons rv .nil),⟨_,pT,rfl,rfl,_,rfl⟩⟩
    ·rw [upd_ne hcp] at q;refine (I.hok c o q).stay (fun d ob hd e=>up d ob ?_ e) (fun d e=>by rw [upd_ne (ne_of_none e fr)];exact e) fun d l e=>by rw [upd_ne (ne_of_none e fr)];exact e
     rcases hd with hd | hd
     ·rw [hd];exact nH c o q
     ·exact nH d _ hd
  refine ⟨.ref s.heap.objs.size,_,I2,rfl,⟨_,x,y,rfl,fr,rfl,fun l hl=>by rw [hl.inj I qa];exact hx,fun l hl=>by rw [hl.inj I qb];exact hy⟩,?_,fun c hc=>?_⟩
  ·have kp2:∀ c∈[TI,TO,i1,i2],∀ o,h'.get? c=some o->h2.get? c=some o:=fun c hc o q=>e2.extBut _ _ (by
    simp only [List.mem_cons,List.not_mem_nil,or_false] at hc
    rcases hc with rfl | rfl | rfl | rfl
    ·exact D.a1
    ·exact D.a2
    ·exact D.a3
    ·exact D.a4) q
   exact ⟨z2,kp2 TI (by simp) _ Z'.ti,let ⟨a',b',q⟩:=Z'.to;⟨a',b',kp2 TO (by simp) _ q⟩,Z'.t1.to (kp2 i1 (by simp)),Z'.t2.to (kp2 i2 (by simp))⟩
  ·rw [upd_ne (Nat.ne_of_lt (nz c hc))];exact (hf c hc).1
 done:=by
  intro X hP hw hK hc i pins s σ H E I hf Z hg;subst hP hw hK;obtain ⟨xs,ys,qa,qb,hend⟩:=hg;obtain ⟨its,r1,g1⟩:=qa.sq I;obtain ⟨its2,r2,g2⟩:=qb.sq I;have l1:=r1.length;have l2:=r2.length;refine next_zip_end (I.ok.hd hc) D Z g1 g2 (hend.imp (fun q=>by simp;lia) fun q=>by simp;lia) fun h' kp=>⟨rfl,?_⟩
  have sub:∀ c∈[z,TO,i1,i2],c∈[z,TI,TO,i1,i2]:=fun c hc=>by
   simp only [List.mem_cons,List.not_mem_nil,or_false] at hc ⊢
   rcases hc with h | h | h | h<;>simp [h]
  have up:∀ c o,c∉[z,TO,i1,i2]->s.heap.get? c=some o->h'.get? c=some o:=fun c o hc q=>by
   simp only [List.mem_cons,List.not_mem_nil,or_false,not_or] at hc;exact kp c o hc.1 hc.2.1 hc.2.2.1 hc.2.2.2 q
  have nH:∀ c o,H c=some o->c∉[z,TO,i1,i2]:=fun c o q hc=>by rw [(hf c (sub c hc)).1] at q;cases q
  exact I.step (g':=s.gens) (d':=s.drawn) (t':=s.toks) (ch:=[z,TO,i1,i2]) (fun c hc=>by
    obtain ⟨f0,f1,f2,f3,f4,f5⟩:=hf c (sub c hc);exact ⟨f3,f1,f4,f5⟩) (fun c o _ _ hc q _=>up c o hc q) (fun c o _ _ hc q _=>⟨o.slots,up c o hc q⟩) (fun c o _ q n=>n) (fun c o hc q=>⟨o,up c o hc q⟩) (fun c l q=>q) (fun c o l q=>q) (fun c l q=>⟨#[],by rw [q];simp⟩)
    (fun m hm=>by
     obtain ⟨o,es',ep,ho,rr⟩:=hm;exact ⟨o,es',ep,up _ o (fun hc=>(hf _ (sub _ hc)).2.1 rfl) ho,rr⟩)
    (fun c o q=>(I.hok c o q).stay (fun d ob hd e=>up d ob (by
     rcases hd with hd | hd
     ·rw [hd];exact nH c o q
     ·exact nH d _ hd) e) (fun _ e=>e) fun _ _ e=>e) I.bare
 self:=fun _ _ _ _ _ Z h=>wpAny_pyIter_zip Z.zz h
def seqF:PV->Res (List PV)
 | .lst xs=>.ok xs
 | .tup xs=>.ok xs
 | _=>.bad
def iSeq (d:De):Di:=fun ρ=>(d ρ).bind seqF
theorem FinI.bind {α:Type} {X:Cx} {W:Addr->Prop} {H:Hp} {r:Res α} {f:α->Res (List PV)} {R:It->Hp->Prop} (h:FinI X W H R (r.bind f)):On r (fun x=>XW X x H) fun v=>FinI X W H R (f v):=by
 cases r<;>exact h
theorem sqK_same {k:Kd} {K:PySem.W.Frag} {H H':Hp} {a:Addr} {xs:List V} (e:Same H H') (h:SqK k K H a xs):SqK k K H' a xs:=by
 cases k with
 | L=>exact e.seq h
 | T=>exact sqT_same e h
def Itk (k:Kd) (K:PySem.W.Frag) (a:Addr):It:=match k with
 | .L=>Itl K a
 | .T=>Itt K a
theorem itOk_seq {k:Kd} {K:PySem.W.Frag} {G:Hp} {a:Addr} {vs:List PV} {xs:List V} (h:SqK k K G a xs) (r:Reps K G vs xs):ItOk K G (Itk k K a) vs:=by
 intro i H1 hs;have h1:=sqK_same hs h;cases k with
 | L =>
  refine ⟨fun v ev=>?_,fun e=>⟨xs,h1,by rw [r.length,e];exact Nat.le_refl _⟩⟩
  obtain ⟨x,ex,rx⟩:=r.get ev;refine ⟨⟨xs,x,h1,ex⟩,fun y H2 ⟨e,q⟩=>?_⟩
  subst e;have:=q xs h1;rw [ex] at this;cases this;exact ⟨Same.refl _,fun W' _ hg=>rx.mono hg⟩
 | T =>
  refine ⟨fun v ev=>?_,fun e=>⟨xs,h1,by rw [r.length,e];exact Nat.le_refl _⟩⟩
  obtain ⟨x,ex,rx⟩:=r.get ev;refine ⟨⟨xs,x,h1,ex⟩,fun y H2 ⟨e,q⟩=>?_⟩
  subst e;have:=q xs h1;rw [ex] at this;cases this;exact ⟨Same.refl _,fun W' _ hg=>rx.mono hg⟩
section
variable {X:Cx} {tg l:Expr} {d:De}
theorem pi_any {tl:TE} (hl:PE X l tl):PI X tg l (fun σ H R=>tl σ H fun x H1=>∃ k a,x=.ref a/\(∃ xs,SqK k X.K H1 a xs)/\R (Itk k X.K a) H1):=by
 intro pins s σ H R I h;refine thn (hl pins s σ H _ I h) fun v s1 ⟨x,H1,I1,r1,k,a,e,⟨xs,hq⟩,q⟩=>?_
 subst e;cases r1;have fp:∀ b∈[s1.heap.objs.size],FpOk X pins H1 b:=fun b hb=>by
  have e:b=s1.heap.objs.size:=by simpa using hb
  subst e;exact I1.fpOk (Nat.le_refl _) I1.fresh
 cases k with
 | L =>
  obtain ⟨its,rv,p,hz⟩:=I1.list hq;exact wpAny_pyIter_list p.isList ⟨_,[s1.heap.objs.size],_,_,H1,rfl,I1.kept (t':=s1.toks) fun b o e=>Heap.get?_push_of_some _ e,turn_list a _,⟨_,Heap.get?_push_size _ rfl,rfl,rfl⟩,fp,q⟩
 | T =>
  obtain ⟨its,rv,p,hz⟩:=I1.tuple hq;exact wpAny_pyIter_tuple (show s1.heap.IsTuple a its.toArray from p) ⟨_,[s1.heap.objs.size],_,_,H1,rfl,I1.kept (t':=s1.toks) fun b o e=>Heap.get?_push_of_some _ e,turn_tuple a _,⟨_,Heap.get?_push_size _ rfl,rfl,rfl⟩,fp,q⟩
theorem pi_imp {iter:Expr} {t t':TI} (h:PI X tg iter t) (i:∀ σ H R,t' σ H R->t σ H R):PI X tg iter t':=fun pins s σ H R I q=>h pins s σ H R I (i σ H R q)
theorem seq_parts {K:PySem.W.Frag} {G:Hp} {v:PV} {x:V} {vs:List PV} (h:seqF v=.ok vs) (r:Rep K G v x):∃ k a xs,x=.ref a/\SqK k K G a xs/\Reps K G vs xs:=by
 cases v<;>simp only [seqF] at h<;>try cases h
 case lst=>obtain ⟨a,xs,rfl,h1,h2⟩:=Rep.lst'.mp r;exact ⟨.L,a,xs,rfl,h1,h2⟩
 case tup=>obtain ⟨a,xs,rfl,h1,h2⟩:=Rep.tup'.mp r;exact ⟨.T,a,xs,rfl,h1,h2⟩
theorem seqF_nx {v:PV} {x:XC}:seqF v≠.exc x:=by cases v<;>simp [seqF]
theorem di_seq (ha:DE X l d):DI X tg l (iSeq d):=pi_imp (pi_any ha) fun σ H R ⟨W,ρ,er,h⟩ =>
 tD_of d er h.bind fun v x H1 s1 er1 r1 h1=>by
  cases e:seqF v with
  | exc z=>exact absurd e seqF_nx
  | bad=>rw [e] at h1;exact h1.elim
  | ok vs =>
   rw [e] at h1;obtain ⟨k,a,xs,rfl,q1,q2⟩:=seq_parts e r1;exact ⟨k,a,rfl,⟨xs,sqK_same hid_sub q1⟩,h1 _ H1 s1 (itOk_seq q1 q2)⟩
def rng (lo:Int) (n:Nat):List PV:=(List.range n).map fun k:Nat=>PV.int (lo+(k:Int))
theorem itOk_rng {K:PySem.W.Frag} {G:Hp} (lo:Int) (n:Nat):ItOk K G (Itr lo n) (rng lo n):=by
 intro i H1 hs;refine ⟨fun v ev=>?_,fun e=>by rw [e];simp [Itr,rng]⟩
 have hi:i<n:=by
  have:=(List.getElem?_eq_some_iff.mp ev).1;simpa [rng] using this
 unfold rng at ev;rw [List.getElem?_map,List.getElem?_range hi] at ev;cases ev;exact ⟨hi,fun x H2 ⟨e1,e2⟩=>by subst e1 e2;exact ⟨Same.refl _,fun W' _ _=>Rep.int.mpr rfl⟩⟩
def rg1:List PV->Res (List PV)
 | [.int j]=>if -(2 ^ 62)<=j/\j<2 ^ 62 then .ok (rng 0 j.toNat) else .bad
 | _=>.bad
def rg2:List PV->Res (List PV)
 | [.int i,.int j]=>if -(2 ^ 62)<=i/\i<2 ^ 62 /\ -(2 ^ 62)<=j/\j<2 ^ 62 then .ok (rng i (j-i).toNat) else .bad
 | _=>.bad
def iR1 (ds:Das):Di:=fun ρ=>(ds ρ).bind rg1
def iR2 (ds:Das):Di:=fun ρ=>(ds ρ).bind rg2
variable {a b:Expr} {da db:De} {p pos:Pos}
theorem di_range1 (hg:Gl X "range") (hm:X.mg "range" = none) (ha:DE X a da) (hs:starEach [a] X.env=[(false,eval a X.env)]:=by rfl):DI X tg (.Call (.Name "range" p) [a] [] pos) (iR1 (aCons da aNil)) :=
 pi_imp (pi_range1 hg hm (da_cons ha da_nil hs) hs) fun σ H R ⟨W,ρ,er,h⟩=>by
  refine tDA_of (aCons da aNil) er h.bind fun vs xs H1 s1 er1 r1 h1=>?_
  unfold rg1 at h1
  split at h1
  ·rename_i j
   obtain ⟨x,t,rfl,r2,r3⟩:=Reps.cons.mp r1;obtain rfl:=Rep.int.mp r2;obtain rfl:=Reps.nil.mp r3
   by_cases c : -(2 ^ 62)<=j/\j<2 ^ 62
   ·rw [if_pos c] at h1;exact ⟨j,rfl,c.1,c.2,h1 _ H1 s1 (itOk_rng 0 j.toNat)⟩
   ·rw [if_neg c] at h1;exact h1.elim
  ·exact h1.elim
def zpL:List PV->List PV->List PV
 | x::xs,y::ys=>.tup [x,y]::zpL xs ys
 | _,_=>[]
theorem zpL_length:∀ xs ys:List PV,(zpL xs ys).length=min xs.length ys.length
 | [],ys=>by simp [zpL]
 | _::_,[]=>by simp [zpL]
 | _::xs,_::ys=>by simp [zpL,zpL_length xs ys,Nat.succ_min_succ]
theorem zpL_get:∀ (xs ys:List PV) (i:Nat) (v:PV),(zpL xs ys)[i]?=some v->∃ x y,xs[i]?=some x/\ys[i]?=some y/\v=.tup [x,y]
 | [],ys,i,v,h=>by simp [zpL] at h
 | _::_,[],i,v,h=>by simp [zpL] at h
 | x::xs,y::ys,0,v,h=>by simp [zpL] at h;exact ⟨x,y,rfl,rfl,h.symm⟩
 | x::xs,y::ys,i+1,v,h=>by
  obtain ⟨x',y',h1,h2,h3⟩:=zpL_get xs ys i v (by simpa [zpL] using h);exact ⟨x',y',by simpa using h1,by simpa using h2,h3⟩
def zpF:List PV->Res (List PV)
 | [v,u]=>(seqF v).bind fun xs=>(seqF u).bind fun ys=>.ok (zpL xs ys)
 | _=>.bad
def iZip (ds:Das):Di:=fun ρ=>(ds ρ).bind zpF
theorem itOk_zip {k1 k2:Kd} {K:PySem.W.Frag} {G:Hp} {a b:Addr} {vs us:List PV} {xs ys:List V} (h1:SqK k1 K G a xs) (r1:Reps K G vs xs) (h2:SqK k2 K G b ys) (r2:Reps K G us ys):ItOk K G (Itz k1 k2 K a b) (zpL vs us):=by
 intro i H1 hs;have q1:=sqK_same hs h1;have q2:=sqK_same hs h2;refine ⟨fun v ev=>?_,fun e=>⟨xs,ys,q1,q2,?_⟩⟩
 ·obtain ⟨x,y,e1,e2,rfl⟩:=zpL_get _ _ _ _ ev;obtain ⟨x',e3,r3⟩:=r1.get e1;obtain ⟨y',e4,r4⟩:=r2.get e2;refine ⟨⟨xs,ys,x',y',q1,q2,e3,e4⟩,fun z H2 ⟨p,x2,y2,ez,hp,eH,f1,f2⟩=>?_⟩
  have g1:=f1 xs q1;have g2:=f2 ys q2;rw [e3] at g1;cases g1;rw [e4] at g2;cases g2;subst ez eH;refine ⟨upd_new hp,fun W' tk hg=>?_⟩
  exact Rep.tup (.inl (.inl (hid_new fun w=>tk p w hp))) (Reps.mk ((r3.mono hg).mono (hid_same (upd_new hp))) (Reps.mk ((r4.mono hg).mono (hid_same (upd_new hp))) (Reps.nil.mpr rfl)))
 ·rw [zpL_length] at e;rw [r1.length,r2.length,e]
  lia
theorem ap_of (n l1 l2:Nat) (l1n:l1<n) (l2n:l2<n):Ap (n+4) (n+2) (n+3) n (n+1) l1 l2:=by
 have ne:∀ a b:Nat,a<b\/b<a->(a:Addr)≠(b:Addr):=fun a b h e=>by
  have e':(a:Nat)=b:=e
  lia
 exact ⟨ne _ _ (by lia),ne _ _ (by lia),ne _ _ (by lia),ne _ _ (by lia),ne _ _ (by lia),ne _ _ (by lia),ne _ _ (by lia),ne _ _ (by lia),ne _ _ (by lia),ne _ _ (by lia),ne _ _ (by lia),
  ne _ _ (by lia),ne _ _ (by lia),ne _ _ (by lia),ne _ _ (by lia),ne _ _ (by lia),ne _ _ (by lia),ne _ _ (by lia)⟩
theorem boot_zip:bootBuiltins "zip" = some (.type "zip"):=by decide
theorem pi_zip {a b:Expr} {ta:TA} {es:List Expr} {kk:Nat} {ps:Pos} (hg:Gl X "zip") (hm:X.mg "zip" = none) (ha:PA X [a,b] ta) (hs:starEach [a,b] X.env=[(false,eval a X.env),(false,eval b X.env)]:=by rfl) (hs2:starEach [b] X.env=[(false,eval b X.env)]:=by rfl) :
  PI X (.Tuple es kk ps) (.Call (.Name "zip" p) [a,b] [] pos) (fun σ H R=>ta σ H fun vs H1=>∃ k1 k2 l1 l2 xs ys,vs=[.ref l1,.ref l2]/\SqK k1 X.K H1 l1 xs/\SqK k2 X.K H1 l2 ys/\R (Itz k1 k2 X.K l1 l2) H1):=by
 intro pins s σ H R I h;refine Call_ (ld_blt I hg hm boot_zip (PyProof.Rows.callWith_type1 (thn (ha pos pins s σ H _ I h) fun us s1 ⟨vs,H1,I1,r1,q1⟩=>?_) (by rw [hs,hs2]) (by rw [hs2];rfl)))
 obtain ⟨k1,k2,l1,l2,xs,ys,e,g1,g2,q⟩:=q1;subst e;cases r1 with
 | cons r rr =>
  cases rr with
  | cons r' rr =>
   cases rr;cases r;cases r';obtain ⟨its,rv,p1⟩:=g1.sq I1;obtain ⟨its2,rv2,p2⟩:=g2.sq I1;refine call_zip p1 p2 fun h' Z kp=>?_
   have I2:L2.Inv X pins σ H1 {s1 with heap:=h',toks:=s1.toks}:=I1.kept (t':=s1.toks) kp
   have lt1:l1<s1.heap.objs.size:=by
    cases k1 with
    | L=>obtain ⟨o,ho,_⟩:=p1;exact Heap.lt_size ho
    | T=>obtain ⟨o,ho,_⟩:=p1;exact Heap.lt_size ho
   have lt2:l2<s1.heap.objs.size:=by
    cases k2 with
    | L=>obtain ⟨o,ho,_⟩:=p2;exact Heap.lt_size ho
    | T=>obtain ⟨o,ho,_⟩:=p2;exact Heap.lt_size ho
   generalize hn:s1.heap.objs.size=n at *;have hfr:∀ b,n<=b->H1 b=none:=fun b hb=>by
    cases q:H1 b with
    | none=>rfl
    | some o =>
     have z:b<s1.heap.objs.size:=I1.hok.lt q;rw [hn] at z;exact absurd (Nat.lt_of_lt_of_le z hb) (Nat.lt_irrefl _)
   refine wpAny_pyIter_zip Z.zz ⟨_,[n+4,n+2,n+3,n,n+1],_,_,H1,rfl,I2,turn_zip k1 k2 _ _ _ _ _ l1 l2 ?_,Z,fun b hb=>?_,q⟩
   ·exact ap_of n l1 l2 lt1 lt2
   ·have hb':n<=b:=by
     simp only [List.mem_cons,List.not_mem_nil,or_false] at hb
     rcases hb with e | e | e | e | e<;>rw [e]
     ·exact Nat.le_add_right _ _
     ·exact Nat.le_add_right _ _
     ·exact Nat.le_add_right _ _
     ·exact Nat.le_refl _
     ·exact Nat.le_add_right _ _
    exact I1.fpOk (by rw [hn];exact hb') (hfr b hb')
theorem di_zip {es:List Expr} {kk:Nat} {ps:Pos} (hg:Gl X "zip") (hm:X.mg "zip" = none) (ha:DE X a da) (hb:DE X b db) (hs:starEach [a,b] X.env=[(false,eval a X.env),(false,eval b X.env)]:=by rfl) (hs2:starEach [b] X.env=[(false,eval b X.env)]:=by rfl) :
  DI X (.Tuple es kk ps) (.Call (.Name "zip" p) [a,b] [] pos) (iZip (aCons da (aCons db aNil))) :=
 pi_imp (pi_zip hg hm (da_cons ha (da_cons hb da_nil hs2) (by rw [hs,hs2])) hs hs2) fun σ H R ⟨W,ρ,er,h⟩=>by
  refine tDA_of (aCons da (aCons db aNil)) er h.bind fun vs xs H1 s1 er1 r1 h1=>?_
  unfold zpF at h1
  split at h1
  ·rename_i v u
   obtain ⟨x,t,rfl,r2,r3⟩:=Reps.cons.mp r1;obtain ⟨y,t,rfl,r4,r5⟩:=Reps.cons.mp r3;obtain rfl:=Reps.nil.mp r5;cases e1:seqF v with
   | exc z=>exact absurd e1 seqF_nx
   | bad=>rw [e1] at h1;exact h1.elim
   | ok l =>
    rw [e1] at h1;cases e2:seqF u with
    | exc z=>exact absurd e2 seqF_nx
    | bad=>rw [e2] at h1;exact h1.elim
    | ok l' =>
     rw [e2] at h1;obtain ⟨k1,a1,xs,rfl,p1,p2⟩:=seq_parts e1 r2;obtain ⟨k2,a2,ys,rfl,p3,p4⟩:=seq_parts e2 r4;exact ⟨k1,k2,a1,a2,xs,ys,rfl,sqK_same hid_sub p1,sqK_same hid_sub p3,h1 _ H1 s1 (itOk_zip p1 p2 p3 p4)⟩
  ·exact h1.elim
end
end Pu
namespace Pu
open PySem PySem.Spec PyProof.Rows L2
structure Noted (fs:List Addr) (h h':Heap) (e T:Addr) (oe:Obj) (old:Addr->Prop) (fl:Value):Prop where
 newN:h.objs.size<=T
 new:h.get? T=none
 keep:∀ b o,b≠e->b∉fs->¬ old b->h.get? b=some o->h'.get? b=some o
 slot:∀ b o,b∈fs->h.get? b=some o->∃ sl,h'.get? b=some {o with slots:=sl}
 exc:h'.get? e=some (oe.mapFields (·.setIfInBounds 1 (.ref T)))
 tb:∃ oT ts,h'.get? T=some oT/\oT.data=.fields ts/\ts[3]?=some fl
 before:∀ b oT ts,old b->h.get? b=some oT->oT.data=.fields ts->∃ oT' ts',h'.get? b=some oT'/\oT'.data=.fields ts'/\ts'.size=ts.size
section
variable {M:Model} {A:Around} {E:Value->Shared->Prop} {s:Shared} {base:Heap} {env:Env} {outer:List Env} {L e:Addr} {oe:Obj} {vs:Array Value}
theorem entry_all {head:Value} {hadNext:Bool} {Q:Unit->Shared->Prop}
  (hfr:A.frames=some (env::outer)) (hl:s.heap.FunFrames base (env::outer)) (hf:env.frame=some L)
  (he:s.heap.get? e=some oe) (hd:oe.data=.fields vs) (hsz:1<vs.size)
  (h:∀ h' T,Noted (frs (env::outer)) s.heap h' e T oe (fun _=>False) (rawInt L)->Q () {s with heap:=h'}) :
  wpAny M A (do let a <- frameOf env;let pl <- entryPlaceOf L hadNext;let b <- EntryCells.newEntry head a .none (rawInt L) .none pl;setField (.ref e) 1 b) Q E s:=by
 have hene:e∉frs (env::outer):=fun hm=>by
  obtain ⟨_,o,ho,hnf⟩:=hl.mem hm;rw [he] at ho;cases ho;exact hnf vs hd
 refine wpAny_bind (wpAny_frameOf_fun hfr hl hf fun h1 hs1=>?_);refine wpAny_bind (wpAny_entryPlaceOf fun pl hpl=>?_);unfold EntryCells.newEntry newFields;refine wpAny_bind (wpAny_newObj_type ?_ (hpl.sizeOk5 _ _ _ _ _));have he1:h1.get? e=some oe:=(hs1.2.1 e hene).trans he;generalize hob:({cls:=.type "traceback",dict:=none,data:=.fields ([head,.ref L,.none,rawInt L,.none]++(if pl.isEmpty then List.replicate 6 Value.none else pl)).toArray}:Obj)=ob;have he2:=Heap.get?_push_of_some (h:=h1) ob he1;have hTe:h1.objs.size≠e:=Nat.ne_of_gt (Heap.lt_size he1);have hd3:=Obj.data_mapFields hd (·.setIfInBounds 1 (Value.ref h1.objs.size));have he3:=Heap.get?_update_self (Obj.mapFields (·.setIfInBounds 1 (Value.ref h1.objs.size))) he2 (Obj.isFreed_of_fields hd3);have hT3:((h1.push ob).update e (Obj.mapFields (·.setIfInBounds 1 (Value.ref h1.objs.size)))).get? h1.objs.size=some ob:=(Heap.get?_update_other (h1.push ob) _ (Ne.symm hTe)).trans (Heap.get?_push_size h1 (by rw [<- hob];rfl));have keep:∀ b o,b≠e->h1.get? b=some o->((h1.push ob).update e (Obj.mapFields (·.setIfInBounds 1 (Value.ref h1.objs.size)))).get? b=some o:=fun b o hbe hb=>by
  rw [Heap.get?_update_other _ _ (Ne.symm hbe)];exact Heap.get?_push_of_some _ hb
 refine wpAny_setField he2 hd hsz (h _ h1.objs.size ⟨by rw [hs1.1];exact Nat.le_refl _,?_,fun b o hbe hb _ ho=>?_,fun b o hb ho=>?_,he3,⟨ob,_,hT3,by rw [<- hob],?_⟩,fun _ _ _ z=>z.elim⟩)
 ·exact Heap.get?_none_of_le (by rw [hs1.1];exact Nat.le_refl _)
 ·exact keep b o hbe ((hs1.2.1 b hb).trans ho)
 ·obtain ⟨sl,q⟩:=hs1.2.2 b o ho;exact ⟨sl,keep b _ (fun z=>hene (z ▸ hb)) q⟩
 ·first | (simp;done) | (rcases hpl with rfl | ⟨_,_,_,_,_,_,_,rfl⟩<;>simp)
def TbIs (h:Heap) (e:Addr) (vs:Array Value) (old:Addr->Prop):Prop :=
 (vs[1]?=some .none/\∀ b,¬ old b)\/∃ T oT ts,vs[1]?=some (.ref T)/\T≠e/\h.get? T=some oT/\oT.data=.fields ts/\ts[3]?=some .none/\∀ b,old b↔b=T
theorem note_all {Q:Unit->Shared->Prop} {old:Addr->Prop} (hfr:A.frames=some (env::outer)) (hl:s.heap.FunFrames base (env::outer)) (hf:env.frame=some L)
  (he:s.heap.get? e=some oe) (hd:oe.data=.fields vs) (ht:TbIs s.heap e vs old)
  (h:∀ h' T,Noted (frs (env::outer)) s.heap h' e T oe old (rawInt L)->Q () {s with heap:=h'}):wpAny M A (noteFrame (.ref e) env) Q E s:=by
 unfold noteFrame;simp only [hf]
 rcases ht with ⟨h1,ho⟩ | ⟨T,oT,ts,h1,hTe,hT,hdT,h3,ho⟩
 ·refine wpAny_bind (wpAny_field he hd h1 ?_);rw [if_neg (by decide)];refine entry_all hfr hl hf he hd (Array.getElem?_eq_some_iff.mp h1).1 fun h' T' N=>h h' T' ?_
  exact ⟨N.newN,N.new,fun b o q1 q2 _ q3=>N.keep b o q1 q2 (fun z=>z) q3,N.slot,N.exc,N.tb,fun b _ _ z=>(ho b z).elim⟩
 ·refine wpAny_bind (wpAny_field he hd h1 ?_);rw [if_pos (show (Value.ref T != Value.none)=true from by simp)]
  refine wpAny_bind (wpAny_field hT hdT h3 ?_);rw [if_neg (show ¬ ((Value.none==rawInt L)=true) from by simp [rawInt])]
  have hz:3<ts.size:=(Array.getElem?_eq_some_iff.mp h3).1;refine wpAny_bind (wpAny_setField hT hdT hz ?_);have other:∀ b,b≠T->(s.heap.update T (Obj.mapFields (·.setIfInBounds 3 Value.none))).get? b=s.heap.get? b:=fun b hb=>Heap.get?_update_other _ _ (Ne.symm hb)
  have hdT2:=Obj.data_mapFields hdT (·.setIfInBounds 3 Value.none);have hT2:=Heap.get?_update_self (Obj.mapFields (·.setIfInBounds 3 Value.none)) hT (Obj.isFreed_of_fields hdT2);have noR:∀ b o,s.heap.get? b=some o->(∀ vs,o.data≠.fields vs)->b≠T:=fun b o hb hnf q=>by
   rw [q,hT] at hb;cases hb;exact hnf ts hdT
  have hTf:T∉frs (env::outer):=fun hm=>by
   obtain ⟨_,o,q,hnf⟩:=hl.mem hm;exact noR T o q hnf rfl
  refine entry_all (s:={s with heap:=s.heap.update T (Obj.mapFields (·.setIfInBounds 3 Value.none))}) hfr (hl.of_keeps fun b o hb hnf=>⟨o,(other b (noR b o hb hnf)).trans hb,rfl⟩) hf ((other e (Ne.symm hTe)).trans he) hd (Array.getElem?_eq_some_iff.mp h1).1 fun h' T' N=>h h' T' ?_
  have nT':T'≠T:=fun z=>by have:=N.new;rw [z] at this;rw [show (s.heap.update T (Obj.mapFields (·.setIfInBounds 3 Value.none))).get? T=_ from hT2] at this;cases this
  refine ⟨by have:=N.newN;rw [Heap.size_after_update] at this;exact this,(other T' nT').symm.trans N.new,fun b o q1 q2 q4 q3=>?_,fun b o q1 q2=>?_,N.exc,N.tb,fun b oT' ts' z q1 q2=>?_⟩
  ·have nb:b≠T:=fun z=>q4 ((ho b).mpr z)
   exact N.keep b o q1 q2 (fun z=>z) ((other b nb).trans q3)
  ·exact N.slot b o q1 ((other b fun z=>hTf (z ▸ q1)).trans q2)
  ·have z:=(ho b).mp z;subst z;rw [hT] at q1;cases q1;rw [hdT] at q2;cases q2;exact ⟨_,_,N.keep b _ hTe hTf (fun z=>z) hT2,hdT2,by simp⟩
theorem flight_none {Q:Unit->Shared->Prop} {T:Addr} {oT:Obj} {ts:Array Value} (he:s.heap.get? e=some oe) (hd:oe.data=.fields vs) (h1:vs[1]?=some (.ref T)) (hT:s.heap.get? T=some oT) (hdT:oT.data=.fields ts) (hz:3<ts.size)
  (h:Q () {s with heap:=s.heap.update T (Obj.mapFields (·.setIfInBounds 3 .none))}):wpAny M A (setFlight (.ref e) none) Q E s:=wpAny_setFlight_none he hd h1 hT hdT hz h
theorem leave_all {Q:Unit->Shared->Prop} {old:Addr->Prop} (hfr:A.frames=some (env::outer)) (hl:s.heap.FunFrames base (env::outer)) (hf:env.frame=some L)
  (he:s.heap.get? e=some oe) (hd:oe.data=.fields vs) (ht:TbIs s.heap e vs old)
  (h:∀ h' T,Noted (frs (env::outer)) s.heap h' e T oe old .none->Q () {s with heap:=h'}) :
  wpAny M A (noteFrame (.ref e) env) (fun _ s'=>wpAny M A (setFlight (.ref e) none) Q E s') E s:=by
 have hs1:1<vs.size:=by
  rcases ht with ⟨h1,_⟩ | ⟨T,oT,ts,h1,_⟩<;>exact (Array.getElem?_eq_some_iff.mp h1).1
 refine note_all hfr hl hf he hd ht fun h' T N=>?_
 obtain ⟨oT,ts,hT,hdT,h3⟩:=N.tb;have hz:3<ts.size:=(Array.getElem?_eq_some_iff.mp h3).1;have hTe:T≠e:=fun z=>by have:=N.new;rw [z,he] at this;cases this
 have hd2:=Obj.data_mapFields hd (·.setIfInBounds 1 (Value.ref T));refine flight_none (s:={s with heap:=h'}) (T:=T) N.exc hd2 (by simp [hs1]) hT hdT hz (h _ T ?_);have other:∀ b,b≠T->(h'.update T (Obj.mapFields (·.setIfInBounds 3 Value.none))).get? b=h'.get? b:=fun b hb=>Heap.get?_update_other _ _ (Ne.symm hb)
 have hdT2:=Obj.data_mapFields hdT (·.setIfInBounds 3 Value.none);have hT2:=Heap.get?_update_self (Obj.mapFields (·.setIfInBounds 3 Value.none)) hT (Obj.isFreed_of_fields hdT2);have nT:∀ b o,s.heap.get? b=some o->b≠T:=fun b o q z=>by rw [z,N.new] at q;cases q
 refine ⟨N.newN,N.new,fun b o q1 q2 q3 q4=>(other b (nT b o q4)).trans (N.keep b o q1 q2 q3 q4),fun b o q1 q2=>?_,(other e (Ne.symm hTe)).trans N.exc,⟨_,_,hT2,hdT2,by simp [hz]⟩,fun b oT' ts' z q1 q2=>?_⟩
 ·obtain ⟨sl,q⟩:=N.slot b o q1 q2;exact ⟨sl,(other b (nT b o q2)).trans q⟩
 ·obtain ⟨o2,t2,r1,r2,r3⟩:=N.before b oT' ts' z q1 q2;exact ⟨o2,t2,(other b (nT b _ q1)).trans r1,r2,r3⟩
end
end Pu
namespace Pu
open PySem PySem.Spec PyProof.Rows L2
theorem ext_E {P:Program} {w:World} {H:Hp} {h:Heap} {e:Addr} {C:Value} {dx:Option Addr} (x:EObj e C dx h):ObjOk P w H h e (.ext (EObj e C dx)):=by
 refine ⟨x,?_,fun h1 h2 q k=>?_⟩
 ·obtain ⟨oe,vs,ho,_⟩:=x;exact ⟨oe,ho⟩
 ·obtain ⟨oe,vs,ho,r⟩:=q;exact ⟨oe,vs,k oe ho,r⟩
theorem ext_T {P:Program} {w:World} {H:Hp} {h:Heap} {e:Addr} (x:TObj e h):ObjOk P w H h e (.ext (TObj e)):=by
 refine ⟨x,?_,fun h1 h2 q k=>?_⟩
 ·obtain ⟨oe,vs,ho,_⟩:=x;exact ⟨oe,ho⟩
 ·obtain ⟨oe,vs,ho,r⟩:=q;exact ⟨oe,vs,k oe ho,r⟩
section
variable {X:Cx} {pins:List (Addr×Obj)} {σ:SS} {H:Hp} {s:Shared} {e:Addr} {C:Value} {dx:Option Addr}
theorem noted_inv {oe:Obj} {vs:Array Value} {h':Heap} {T:Addr} {fl:Value} (I:Inv X pins σ H s) (hs:X.stack=X.env::X.outer) (hf:X.env.frame=some X.env.locals) (hE:H e=some (.ext (EObj e C dx))) (he:s.heap.get? e=some oe) (hd:oe.data=.fields vs)
  (ho:∀ b,vs[1]?=some (.ref b)->b≠e/\H b=some (.ext (TObj b))/\TObj b s.heap) (N:Noted (frs (X.env::X.outer)) s.heap h' e T oe (fun b=>vs[1]?=some (.ref b)) fl) :
  H T=none/\Inv X pins σ (upd H T (.ext (TObj T))) {s with heap:=h'}:=by
 have hT:H T=none:=I.hok.fresh N.newN;have sF:∀ b∈frs (X.env::X.outer),H b=none:=fun b hb=>I.stkFree b (by rw [hs];exact hb)
 have frL:frs (X.env::X.outer)=X.env.locals::X.fs:=by unfold frs;rw [List.filterMap_cons,hf];rfl
 have hz:3<5:=by decide
 have tT:TObj T h':=by obtain ⟨oT,ts,q1,q2,q3⟩:=N.tb;exact ⟨oT,ts,q1,q2,(Array.getElem?_eq_some_iff.mp q3).1⟩
 have nf:∀ b u,H b=some u->b∉frs (X.env::X.outer):=fun b u q z=>by rw [sF b z] at q;cases q
 have eo:=I.hok e _ hE;obtain ⟨⟨oe',vs',q1,q2,q3,q4,q5⟩,_⟩:=eo;rw [he] at q1;cases q1;rw [hd] at q4;cases q4;refine ⟨hT,I.step (g':=s.gens) (t':=s.toks) (d':=s.drawn) (ch:=[]) (fun _ z=>nomatch z) (fun b o h1 h2 _ h4 h5=>?_) (fun b o h1 h2 _ h4 h5=>?_) (fun b o _ h4 h5=>?_) (fun b o _ h4=>?_) (fun b xs q=>?_) (fun b o u q=>?_) (fun b ps q=>?_) (fun m hm=>?_) (fun a o q=>?_) I.bare⟩
 ·refine N.keep b o (fun z=>by rw [z,hE] at h5;cases h5) (fun z=>?_) (fun z=>?_) h4
  ·rw [frL] at z
   rcases List.mem_cons.mp z with z | z
   ·exact h1 z
   ·exact h2 z
  ·rw [(ho b z).2.1] at h5;cases h5
 ·exact N.slot b o (by rw [frL];exact List.mem_cons_of_mem _ h2) h4
 ·rw [upd_ne fun z=>?_]
  ·exact h5
  ·rw [z,N.new] at h4;cases h4
 ·by_cases z1:b=e
  ·rw [z1];exact ⟨_,N.exc⟩
  ·by_cases z2:b∈frs (X.env::X.outer)
   ·obtain ⟨sl,q⟩:=N.slot b o z2 h4;exact ⟨_,q⟩
   ·by_cases z3:vs[1]?=some (.ref b)
    ·obtain ⟨_,_,oT,ts,r1,r2,_⟩:=ho b z3;obtain ⟨o',ts',r3,_⟩:=N.before b oT ts z3 r1 r2;exact ⟨o',r3⟩
    ·exact ⟨o,N.keep b o z1 z2 z3 h4⟩
 ·rw [upd_ne (ne_of_none q hT)];exact q
 ·rw [upd_ne (ne_of_none q hT)];exact q
 ·exact ⟨#[],by rw [upd_ne (ne_of_none q hT),q];simp⟩
 ·obtain ⟨o,es,ep,r1,r2⟩:=hm;obtain ⟨sl,q⟩:=N.slot _ o (by rw [frL];exact List.mem_cons_self) r1;exact ⟨_,es,ep,q,r2⟩
 ·by_cases z0:a=T
  ·subst z0;rw [upd_same] at q;cases q;exact ext_T tT
  ·rw [upd_ne z0] at q
   by_cases z1:a=e
   ·subst z1;rw [hE] at q;cases q;refine ext_E ⟨_,_,N.exc,?_,?_,Obj.data_mapFields hd _,by simpa using q5⟩
    ·rw [Obj.cls_mapFields];exact q2
    ·obtain ⟨c,d,dt,sl⟩:=oe;cases dt<;>exact q3
   ·by_cases z3:vs[1]?=some (.ref a)
    ·obtain ⟨_,r0,oT,ts,r1,r2,r3⟩:=ho a z3;rw [r0] at q;cases q;obtain ⟨o',ts',r4,r5,r6⟩:=N.before a oT ts z3 r1 r2;exact ext_T ⟨o',ts',r4,r5,by rw [r6];exact r3⟩
    ·refine (I.hok a o q).stay (fun b u hb r=>?_) (fun b r=>by rw [upd_ne (ne_of_none r hT)];exact r) fun b xs r=>by rw [upd_ne (ne_of_none r hT)];exact r
     rcases hb with rfl | hb
     ·exact N.keep b u z1 (nf b o q) z3 r
     ·refine N.keep b u (fun z=>by rw [z,hE] at hb;cases hb) (nf b _ hb) (fun z=>?_) r;rw [(ho b z).2.1] at hb;cases hb
theorem leave_inv {Q:Unit->Shared->Prop} {E:Value->Shared->Prop} (I:Inv X pins σ H s) (hs:X.stack=X.env::X.outer) (hf:X.env.frame=some X.env.locals) (F:Flies H s.heap e C dx)
  (h:∀ h' H',Same H H'->Inv X pins σ H' {s with heap:=h'}->Flies H' h' e C dx->Q () {s with heap:=h'}) :
  wpAny (model X.prog X.w) X.A (noteFrame (.ref e) X.env) (fun _ s'=>wpAny (model X.prog X.w) X.A (setFlight (.ref e) none) Q E s') E s:=by
 obtain ⟨hE,oe,vs,he,hd,ht⟩:=F;have ho:∀ b,vs[1]?=some (.ref b)->b≠e/\H b=some (.ext (TObj b))/\TObj b s.heap:=fun b z=>by
  rcases ht with ht | ⟨T,oT,ts,h1,h2,h3,h4,h5,h6⟩
  ·rw [ht] at z;cases z
  ·rw [h1] at z;cases z;exact ⟨h2,h3,oT,ts,h4,h5,(Array.getElem?_eq_some_iff.mp h6).1⟩
 have st:=I.stack;rw [hs] at st;refine leave_all (old:=fun b=>vs[1]?=some (.ref b)) (I.ok.frames.trans (by rw [hs])) st hf he hd ?_ fun h' T N=>?_
 ·rcases ht with ht | ⟨T,oT,ts,h1,h2,h3,h4,h5,h6⟩
  ·exact .inl ⟨ht,fun b z=>by rw [ht] at z;cases z⟩
  ·exact .inr ⟨T,oT,ts,h1,h2,h4,h5,h6,fun b=>⟨fun z=>by rw [h1] at z;cases z;rfl,fun z=>z ▸ h1⟩⟩
 ·obtain ⟨hT,J⟩:=noted_inv I hs hf hE he hd ho N;obtain ⟨oT,ts,r1,r2,r3⟩:=N.tb;have eT:e≠T:=ne_of_none hE hT;have hv:1<vs.size:=by
   rcases ht with ht | ⟨T,oT,ts,h1,_⟩
   ·exact (Array.getElem?_eq_some_iff.mp ht).1
   ·exact (Array.getElem?_eq_some_iff.mp h1).1
  refine h h' _ (upd_new hT) J ⟨by rw [upd_ne eT];exact hE,_,_,N.exc,Obj.data_mapFields hd _,.inr ⟨T,oT,ts,by simp [hv],Ne.symm eT,upd_same,r1,r2,r3⟩⟩
end
def CXP (P:Program) (w:World):CXT:=fun outer H s E e s'=>∃ ea C dx H',e=.ref ea/\s'.os=s.os/\AllBare s'.gens/\Un (frs outer) [] H H' s.heap s'.heap/\HOk P w H' s'.heap/\Flies H' s'.heap ea C dx/\s.heap.get? ea=none/\E C dx H'
theorem pass_P {X:Cx}:Passes (CXP X.prog X.w) X (XA X):=fun pins σ H s e s' I ⟨ea,C,dx,H',q1,q2,q3,q4,q5,q6,q8,q7⟩=>by
 subst q1;obtain ⟨hh,g,d,t,os'⟩:=s';obtain rfl:os'=s.os:=q2;exact q7 pins σ _ ea (I.call (h':=hh) (g':=g) (d':=d) (t':=t) (ch:=[]) q4 q5 q3 fun b z=>absurd z (by simp)) q6 fun hex=>by
  cases e0:X.s₀.heap.get? ea with
  | none=>rfl
  | some o =>
   obtain ⟨o',e1⟩:=I.base.there ea o e0 (by rw [hex];simp);rw [q8] at e1;cases e1
theorem xw_body {P:Program} {w:World} {K:PySem.W.Frag} {mg:Str->Option Value} {base:Heap} {N:List Str} {qual:Str} {scope:Scope} {f:Addr} {cd:Value} {A:Around} {outer:List Env} {s:Shared} {H:Hp} {E:XK} {x:XC} (h:EW K E x H) :
  XW (cxOf (CXP P w) P w K mg base N qual scope f cd A outer s H E) x H:=fun H' C dx sm hc hp nw pins σ s' e I F hnew=>by
 show wpAny (model P w) _ (leaving _ _) _ _ s';unfold leaving;refine wpAny_bind (leave_inv I rfl rfl F fun h' H2 s2 J F2=>?_);exact ⟨e,C,dx,H2,rfl,J.os,J.bare,J.base,J.hok,F2,hnew rfl,h H2 C dx (sm.trans s2) hc (hp.mono s2) nw⟩
end Pu
namespace Pu
open PySem PySem.Spec PyProof.Rows L2
inductive Out where
 | nx (ρ:En) | rt (v:PV) | bk (ρ:En) | ct (ρ:En)
structure Wd (W0:Addr->Prop) (H0:Hp) (W:Addr->Prop) (H:Hp) (σ:SS) (ρ:En):Prop where
 same:Same H0 H
 trk:∀ a,W0 a->H0 a≠none
 sub:∀ a,W0 a->W a
 own:∀ (i:Nat) (vs:List PV) (a:Addr),ρ[i]?=some (some (.own vs))->σ[i]?=some (some (.ref a))->H0 a=none
 dis:∀ (i j:Nat) (vs us:List PV) (a:Addr),ρ[i]?=some (some (.own vs))->ρ[j]?=some (some (.own us))->σ[i]?=some (some (.ref a))->σ[j]?=some (some (.ref a))->i=j
theorem Wd.kp {W0:Addr->Prop} {H0:Hp} {W W':Addr->Prop} {H H':Hp} {σ σ':SS} {ρ ρ':En} (w:Wd W0 H0 W H σ ρ) (s:Same H0 H') (b:∀ a,W0 a->W' a) (k:Kp σ σ' ρ ρ'):Wd W0 H0 W' H' σ' ρ' :=
 ⟨s,w.trk,b,fun i vs a h1 h2=>by obtain ⟨q1,q2⟩:=k i vs h1;exact w.own i vs a q1 (q2 ▸ h2),fun i j vs us a h1 h2 h3 h4=>by
  obtain ⟨q1,q2⟩:=k i vs h1;obtain ⟨q3,q4⟩:=k j us h2;exact w.dis i j vs us a q1 q3 (q2 ▸ h3) (q4 ▸ h4)⟩
theorem Kp.refl (σ:SS) (ρ:En):Kp σ σ ρ ρ:=fun _ _ h=>⟨h,rfl⟩
theorem Wd.grow {W0:Addr->Prop} {H0:Hp} {W:Addr->Prop} {H H':Hp} {σ:SS} {ρ:En} (w:Wd W0 H0 W H σ ρ) (s:Same H H'):Wd W0 H0 W H' σ ρ:=w.kp (w.same.trans s) w.sub (Kp.refl _ _)
def FinS (X:Cx) (W0:Addr->Prop) (H0:Hp) (W:Addr->Prop) (H:Hp) (D:Ends):Res Out->Prop
 | .ok (.nx ρ)=>∀ σ W' H',Wd W0 H0 W' H' σ ρ->Same (hid W H) (hid W' H')->ER X.K W' H' σ ρ->D.nx σ H'
 | .ok (.bk ρ)=>∀ σ W' H',Wd W0 H0 W' H' σ ρ->Same (hid W H) (hid W' H')->ER X.K W' H' σ ρ->D.bk σ H'
 | .ok (.ct ρ)=>∀ σ W' H',Wd W0 H0 W' H' σ ρ->Same (hid W H) (hid W' H')->ER X.K W' H' σ ρ->D.ct σ H'
 | .ok (.rt v)=>∀ x H',Same H0 H'->Rep X.K (hid W0 H') v x->D.rt x H'
 | .exc x=>XW X x H0
 | .bad=>False
abbrev Ds:=En->Res Out
def tDS (X:Cx) (d:Ds):TS:=fun D σ H=>∃ W0 H0 W ρ,Wd W0 H0 W H σ ρ/\ER X.K W H σ ρ/\FinS X W0 H0 W H D (d ρ)
def DS (X:Cx) (st:Stmt) (d:Ds):Prop:=PS X st (tDS X d)
def DSs (X:Cx) (st:List Stmt) (d:Ds):Prop:=PSs X st (tDS X d)
theorem ps_imp {X:Cx} {e:Stmt} {t t':TS} (h:PS X e t) (i:∀ D σ H,t' D σ H->t D σ H):PS X e t':=fun pins s σ H D I q=>h pins s σ H D I (i D σ H q)
theorem pss_imp {X:Cx} {e:List Stmt} {t t':TS} (h:PSs X e t) (i:∀ D σ H,t' D σ H->t D σ H):PSs X e t':=fun pins s σ H D I q=>h pins s σ H D I (i D σ H q)
section
variable {X:Cx} {W0:Addr->Prop} {H0:Hp} {W W':Addr->Prop} {H H':Hp} {σ:SS} {ρ:En} {D:Ends}
theorem FinS.grow {r:Res Out} (h:FinS X W0 H0 W H D r) (s:Same (hid W H) (hid W' H')):FinS X W0 H0 W' H' D r:=by
 cases r with
 | ok o =>
  cases o with
  | nx ρ=>exact fun σ W2 H2 w s2 e=>h σ W2 H2 w (s.trans s2) e
  | bk ρ=>exact fun σ W2 H2 w s2 e=>h σ W2 H2 w (s.trans s2) e
  | ct ρ=>exact fun σ W2 H2 w s2 e=>h σ W2 H2 w (s.trans s2) e
  | rt v=>exact h
 | exc x=>exact h
 | bad=>exact h
theorem FinS.bind {α:Type} {r:Res α} {f:α->Res Out} (h:FinS X W0 H0 W H D (r.bind f)):On r (fun x=>XW X x H0) fun v=>FinS X W0 H0 W H D (f v):=by
 cases r<;>exact h
theorem On.xw {α:Type} {r:Res α} {k:α->Prop} (s:Same H0 H) (h:On r (fun x=>XW X x H0) k):On r (fun x=>XW X x H) k:=by
 cases r with
 | ok v=>exact h
 | exc x=>exact XW.mono (X:=X) (x:=x) h s
 | bad=>exact h
variable {st:Stmt} {rest:List Stmt} {d d':Ds} {a b:Expr} {da db:De} {pos:Pos}
def sNil:Ds:=fun ρ=>.ok (.nx ρ)
def sSeq (d d':Ds):Ds:=fun ρ=>(d ρ).bind fun o=>match o with
 | .nx ρ'=>d' ρ'
 | o=>.ok o
theorem dss_nil:DSs X [] sNil:=pss_imp pss_nil fun D σ H ⟨W0,H0,W,ρ,w,er,h⟩=>h σ W H w (Same.refl _) er
theorem dss_cons (h1:DS X st d) (h2:DSs X rest d'):DSs X (st::rest) (sSeq d d'):=pss_imp (pss_cons h1 h2) fun D σ H ⟨W0,H0,W,ρ,w,er,h⟩=>by
 refine ⟨W0,H0,W,ρ,w,er,?_⟩;unfold sSeq at h;cases e:d ρ with
 | ok o =>
  rw [e] at h;cases o with
  | nx ρ'=>exact fun σ' W' H' w' s' er'=>⟨W0,H0,W',ρ',w',er',FinS.grow (show FinS X W0 H0 W H D (d' ρ') from h) s'⟩
  | bk ρ'=>exact h
  | ct ρ'=>exact h
  | rt v=>exact h
 | exc x=>rw [e] at h;exact h
 | bad=>rw [e] at h;exact h
theorem dss_one (h1:DS X st d):DSs X [st] d:=pss_one h1
def sRet (d:De):Ds:=fun ρ=>(d ρ).bind fun v=>.ok (.rt v)
theorem ds_ret (ha:DE X a da):DS X (.Return (some a) pos) (sRet da):=ps_imp (ps_ret ha) fun D σ H ⟨W0,H0,W,ρ,w,er,h⟩ =>
 tD_of da er (h.bind.xw w.same) fun v x H1 s1 er1 r1 h1=>h1 x H1 (w.same.trans s1) (r1.mono (hid_mono w.sub))
def sRetN:Ds:=fun _=>.ok (.rt .non)
def sRetO (i:Nat):Ds:=fun ρ=>match ρ[i]? with
 | some (some (.own vs))=>.ok (.rt (.lst vs))
 | _=>.bad
def sIf (c:Dt) (d d':Ds):Ds:=fun ρ=>(c ρ).bind fun b=>if b then d ρ else d' ρ
theorem ds_if {c:Expr} {sa sb:List Stmt} {tc:Dt} (hc:DT X c tc) (ha:DSs X sa d) (hb:DSs X sb d'):DS X (.If c sa sb pos) (sIf tc d d'):=ps_imp (ps_if hc ha hb) fun D σ H ⟨W0,H0,W,ρ,w,er,h⟩ =>
 tDT_of tc er (h.bind.xw w.same) fun v H1 s1 er1 h1=>by
  have h2:=FinS.grow h1 (hid_same (W:=W) s1);cases v with
  | true=>exact iteT ⟨W0,H0,W,ρ,w.grow s1,er1,h2⟩
  | false=>exact iteF ⟨W0,H0,W,ρ,w.grow s1,er1,h2⟩
def sAsg (d:De) (t:Dg):Ds:=fun ρ=>(d ρ).bind fun v=>(t v ρ).bind fun ρ'=>.ok (.nx ρ')
def NoG (t:Dg):Prop:=∀ v ρ z,t v ρ≠.exc z
theorem ng_name (i:Nat):NoG (bName i):=fun _ _ _ h=>by cases h
theorem ng_two (i j:Nat):NoG (bTwo i j):=fun v ρ z h=>by unfold bTwo at h;split at h<;>cases h
theorem ds_set {i:Nat} {x:Str} {p2:Pos} (hN:X.N.Nodup) (hi:X.N[i]?=some x) (hx:Loc X.env.scope x) (ha:DE X a da) (hs:swapsWith a (some (.Name x p2)) pos.line X.env=pure false:=by rfl) (hf:X.fn x=true\/X.env.scope.names.lookup x=some .local) :
  DS X (.Assign [.Name x p2] a pos) (sAsg da (bName i)):=ps_imp (ps_set hN hi hx ha hs hf) fun D σ H ⟨W0,H0,W,ρ,w,er,h⟩ =>
 tD_of da er (h.bind.xw w.same) fun v x H1 s1 er1 r1 h1 =>
  h1 (σ.set i (some x)) W H1 ((w.grow s1).kp (w.same.trans s1) w.sub (Kp.set i _ _)) (hid_same s1) (er1.set r1 i)
def sDrop (d:De):Ds:=fun ρ=>(d ρ).bind fun _=>.ok (.nx ρ)
def sBad:Ds:=fun _=>.bad
theorem ds_bad:DS X st sBad:=ps_imp ps_never fun D σ H ⟨W0,H0,W,ρ,w,er,h⟩=>h
def forL (t:Dg) (b:Ds):List PV->En->Res Out
 | [],ρ=>.ok (.nx ρ)
 | v::vs,ρ=>(t v ρ).bind fun ρ1=>(b ρ1).bind fun o=>match o with
  | .nx ρ2=>forL t b vs ρ2
  | .ct ρ2=>forL t b vs ρ2
  | .bk ρ2=>.ok (.nx ρ2)
  | .rt v=>.ok (.rt v)
def sFor (di:Di) (t:Dg) (b:Ds):Ds:=fun ρ=>(di ρ).bind fun vs=>forL t b vs ρ
theorem tDI_of {σ:SS} {ρ:En} {H:Hp} (d:Di) {R:It->Hp->Prop} {k:List PV->Prop} (er:ER X.K W H σ ρ) (h:On (d ρ) (fun x=>XW X x H) k)
  (hk:∀ vs J H',Same H H'->ER X.K W H' σ ρ->ItOk X.K (hid W H') J vs->k vs->R J H'):tDI X d σ H R:=by
 refine ⟨W,ρ,er,?_⟩;cases e:d ρ with
 | ok v=>rw [e] at h;exact fun J H' s it=>hk v J H' s (er.mono s) it h
 | exc x=>rw [e] at h;exact h
 | bad=>rw [e] at h;exact h
theorem ds_for {tg iter:Expr} {body:List Stmt} {di:Di} {t:Dg} {db:Ds} (hp:PassesOwn (model X.prog X.w) X.A X.env X.xe) (hc:X.calm=true) (hi:DI X tg iter di) (hg:DG X tg t) (hb:DSs X body db) (ng:NoG t)
  (hs:∀ x,foldedSetIterable iter X.env x=pure x:=by intro _;rfl):DS X (.For tg iter body [] pos) (sFor di t db):=ps_imp (ps_for hp hc hi hg hb hs) fun D σ H ⟨W0,H0,W,ρ,w,er,h⟩=>by
 refine tDI_of di er (h.bind.xw w.same) fun vs J H1 s1 er1 it h1=>?_
 refine ⟨fun i m σ' H'=>m=vs.length-i/\i<=vs.length/\∃ W' ρ',Wd W0 H0 W' H' σ' ρ'/\Same (hid W H1) (hid W' H')/\ER X.K W' H' σ' ρ'/\FinS X W0 H0 W' H' D (forL t db (vs.drop i) ρ'),
  ⟨vs.length,rfl,Nat.zero_le _,W,ρ,w.grow s1,Same.refl _,er1,FinS.grow h1 (hid_same (W:=W) s1)⟩,?_⟩
 rintro i m σ2 H2 ⟨rfl,hi,W2,ρ2,w2,s2,er2,h2⟩;have hGH:Same (hid W H1) H2:=s2.trans hid_sub
 by_cases hlt:i<vs.length
 ·right
  have ev:vs[i]?=some vs[i]:=by simp [hlt]
  have edr:vs.drop i=vs[i]::vs.drop (i+1):=List.drop_eq_getElem_cons hlt;obtain ⟨go,yl⟩:=(it i H2 hGH).1 vs[i] ev;refine ⟨go,fun σ' H'=>∃ W' ρ',Wd W0 H0 W' H' σ' ρ'/\Same (hid W H1) (hid W' H')/\ER X.K W' H' σ' ρ'/\FinS X W0 H0 W' H' D (forL t db (vs.drop (i+1)) ρ'),fun σ' H' q=>⟨vs.length-(i+1),by lia,rfl,hlt,q⟩,fun x H3 y3=>?_⟩
  obtain ⟨s23,rp⟩:=yl x H3 y3;have rep:=rp W2 er2.trk s2;have er3:=er2.mono s23;have w3:=w2.grow s23;have sG3:Same (hid W H1) (hid W2 H3):=s2.trans (hid_same s23);rw [edr,forL] at h2;have h3:=FinS.grow h2 (hid_same (W:=W2) s23);cases et:t vs[i] ρ2 with
  | exc z=>exact absurd et (ng _ _ _)
  | bad=>rw [et] at h3;exact h3.elim
  | ok ρ4 =>
   rw [et,Res.bind_ok] at h3;refine ⟨W2,ρ2,vs[i],er3,rep,ρ4,et,fun σ4 er4 k4=>⟨W0,H0,W2,ρ4,w3.kp w3.same w3.sub k4,er4,?_⟩⟩
   cases eb:db ρ4 with
   | exc z=>rw [eb] at h3;exact h3
   | bad=>rw [eb] at h3;exact h3.elim
   | ok o =>
    rw [eb] at h3;cases o with
    | nx ρ5=>exact fun σ5 W5 H5 w5 s5 er5=>⟨W5,ρ5,w5,sG3.trans s5,er5,FinS.grow (show FinS X W0 H0 W2 H3 D (forL t db (vs.drop (i+1)) ρ5) from h3) s5⟩
    | ct ρ5=>exact fun σ5 W5 H5 w5 s5 er5=>⟨W5,ρ5,w5,sG3.trans s5,er5,FinS.grow (show FinS X W0 H0 W2 H3 D (forL t db (vs.drop (i+1)) ρ5) from h3) s5⟩
    | bk ρ5=>exact h3
    | rt v=>exact h3
 ·left
  have hie:i=vs.length:=by lia
  subst hie;rw [List.drop_length] at h2;exact ⟨(it vs.length H2 hGH).2 rfl,h2 σ2 W2 H2 w2 (Same.refl _) er2⟩
end
abbrev Df:=List PV->Res PV
def SpR (K:PySem.W.Frag) (W:Addr->Prop) (H:Hp) (Q:VK) (E:XK):Res PV->Prop
 | .ok z=>OkQ K W H Q z
 | .exc x=>EW K E x H
 | .bad=>False
def spD (K:PySem.W.Frag) (n:Nat) (f:Df):Sp:=fun xs H Q E=>∃ W vs,(∀ a,W a->H a≠none)/\Reps K (hid W H) vs xs/\xs.length=n/\SpR K W H Q E (f vs)
def spO (K:PySem.W.Frag) (n:Nat) (f:Df):Sp:=fun xs H Q E=>∃ W vs,(∀ a,W a->H a≠none)/\Reps K (hid W H) vs xs/\xs.length=n/\∃ z,f vs=.ok z/\OkQ K W H Q z
def FnD (P:Program) (w:World) (K:PySem.W.Frag) (mg:Str->Option Value) (base:Heap) (k:Nat) (f:Addr) (fd:FuncData) (ps:List Str) (D:Df):Prop:=FnOk P w K mg base (CXP P w) k f fd ps (spD K ps.length D)
theorem FnD.no {P:Program} {w:World} {K:PySem.W.Frag} {mg:Str->Option Value} {base:Heap} {k:Nat} {f:Addr} {fd:FuncData} {ps:List Str} {D:Df} (F:FnD P w K mg base k f fd ps D):FnOk P w K mg base CX0 k f fd ps (spO K ps.length D) :=
 ⟨fun vs H Q E ⟨_,_,_,_,h,_⟩=>h,fun A outer s H args us vs Q E hr he hb hv ⟨W,ws,tk,r,hl,z,e,q⟩ =>
  codeAny_mono (F.run A outer s H args us vs Q (fun _ _ _=>False) hr he hb hv ⟨W,ws,tk,r,hl,by rw [e];exact q⟩) fun r s' h=>by
   cases r with
   | ok f=>cases f<;>exact h
   | error e=>obtain ⟨_,_,_,_,_,_,_,_,_,_,_,h⟩:=h;exact h⟩
section
variable {X:Cx} {k:Nat} {f:Addr} {fd:FuncData} {ps:List Str} {g:Df} {x:Str} {p pos:Pos} {a:Expr} {es:List Expr} {ds:Das}
theorem de_call (F:FnD X.prog X.w X.K X.mg X.base k f fd ps g) (hr:Room k X.A) (hg:Gl X x) (hm:X.mg x=some (.ref f)) (hk:PySem.W.keepIn X.K (.ref f)=true) (hb:Binds X.K fd ps []) (hl:(a::es).length=ps.length)
  (hn:∀ ρ vs,ds ρ=.ok vs->vs.length=(a::es).length) (ha:DA X (a::es) ds) (hdb:(x==("__debug__" : Str))=false:=by decide) (he:starEach (a::es) X.env=(false,eval a X.env)::starEach es X.env:=by rfl) (hpl:(backTo pos (starEach es X.env)).any (·.1)=false:=by rfl) :
  DE X (.Call (.Name x p) (a::es) [] pos) (eB g ds):=pe_imp (pe_call F hr hg hm hk hb .nil pass_P ha hdb he hpl) fun σ H Q ⟨W,ρ,er,h⟩=>by
 unfold eB at h;refine ⟨W,ρ,er,?_⟩;cases e1:ds ρ with
 | exc z=>rw [e1] at h;exact h
 | bad=>rw [e1] at h;exact h.elim
 | ok vs =>
  rw [e1,Res.bind_ok] at h;refine fun xs H1 s1 r1=>?_
  show spD X.K ps.length g (xs++[]) H1 Q (XA X);rw [List.append_nil];refine ⟨W,vs,(er.mono s1).trk,r1,by rw [r1.length,hn ρ vs e1,hl],?_⟩;cases e2:g vs with
  | exc z=>rw [e2] at h;exact EW.mono h s1
  | bad=>rw [e2] at h;exact h.elim
  | ok z=>rw [e2] at h;exact okQ_grow h s1
end
def entry (n:Nat) (vs:List PV):En:=vs.map (fun v=>some (Sl.val v))++List.replicate (n-vs.length) none
def runF (n:Nat) (d:Ds):Df:=fun vs=>(d (entry n vs)).bind fun o=>match o with
 | .rt v=>.ok v
 | .nx _=>.ok .non
 | _=>.bad
theorem er_entry {K:PySem.W.Frag} {W:Addr->Prop} {H:Hp} {N:List Str} {vs:List PV} {xs:List V} (tk:∀ a,W a->H a≠none) (r:Reps K (hid W H) vs xs):ER K W H (L2.start N xs) (entry N.length vs):=by
 refine ⟨by simp [entry,L2.start,r.length],fun i s q=>?_,tk⟩
 unfold entry at q
 by_cases hi:i<vs.length
 ·rw [List.getElem?_append_left (by simpa using hi),List.getElem?_map] at q;have e:vs[i]?=some vs[i]:=by simp [hi]
  rw [e] at q;cases q;obtain ⟨x,e1,r1⟩:=r.get e;refine ⟨x,?_,r1⟩;unfold L2.start;rw [List.getElem?_append_left (by simp [r.length];exact hi),List.getElem?_map,e1];rfl
 ·rw [List.getElem?_append_right (by simpa using hi),List.getElem?_replicate] at q
  split at q<;>cases q
theorem entry_own {n:Nat} {vs us:List PV} {i:Nat}:(entry n vs)[i]?≠some (some (.own us)):=fun q=>by
 unfold entry at q
 by_cases hi:i<vs.length
 ·rw [List.getElem?_append_left (by simpa using hi),List.getElem?_map] at q;have e:vs[i]?=some vs[i]:=by simp [hi]
  rw [e] at q;cases q
 ·rw [List.getElem?_append_right (by simpa using hi),List.getElem?_replicate] at q
  split at q<;>cases q
section
variable {P:Program} {w:World} {K:PySem.W.Frag} {mg:Str->Option Value} {base:Heap}
theorem fnD {x qual:Str} {st:Stmt} {f:Addr} {fd:FuncData} {N ps:List Str} {k:Nat} {d:Ds} (F:Fun K x qual st f fd) (S:FnScope N ps (defScope st))
  (hbody:∀ (cdv:Value) (A:Around) (outer:List Env) (s:Shared) (H:Hp) (E:XK),Room k (A.deeper (envOfC qual (defScope st) s.heap.objs.size f cdv)) ->
   DSs (cxOf (CXP P w) P w K mg base N qual (defScope st) f cdv A outer s H E) (defBody st) d):FnD P w K mg base (k+1) f fd ps (runF N.length d):=by
 obtain ⟨oc,od,kV,doc,pm,an,cdv,ct,osl,rfl,lk,hcd⟩:=F.ex;refine fn_of lk hcd S (fun vs H Q E ⟨_,_,_,_,h,_⟩=>h) fun A outer s H xs Q E hr ⟨W,vs,tk,r,hl,q⟩=>?_
 refine ⟨_,hbody cdv A outer s H E hr,W,H,W,entry N.length vs,?_,er_entry tk r,?_⟩
 ·exact ⟨Same.refl _,tk,fun _ h=>h,fun i vs a h=>absurd h entry_own,fun i j vs us a h=>absurd h entry_own⟩
 ·unfold runF at q;cases ed:d (entry N.length vs) with
  | exc z=>rw [ed] at q;exact xw_body q
  | bad=>rw [ed] at q;exact q
  | ok o =>
   rw [ed] at q;cases o with
   | rt v=>exact fun x H' s' r'=>q x H' s' r'
   | nx ρ=>exact fun σ W' H' w' s' er'=>q .non H' w'.same (Rep.non.mpr rfl)
   | bk ρ=>exact q.elim
   | ct ρ=>exact q.elim
end
end Pu
namespace Pu
open PySem PySem.Spec PyProof.Rows L2
section
variable {prog:Program} {w:World} {A:Around}
theorem walkK (k:Kd) (hh:A.handled=none) {it a:Addr} {items:Array Value} (hne:a≠it) :
  WalksS prog w A it [it,a] [it] (fun x y=>x=y) items.size (fun i v=>items[i]?=some v) (fun i s=>IsIt k s.heap it a i/\IsSq k s.heap a items) where
 sub:=fun b hb=>by simp at hb;simp [hb]
 grefl:=fun _=>rfl
 gtrans:=fun _ _ _ h1 h2=>h1.trans h2
 frame:=fun i s h' tk ⟨h1,h2⟩ _ kp=>⟨h1.to fun o e=>kp it (by simp) o e,h2.to fun o e=>kp a (by simp) o e⟩
 item:=fun i s Q E hi ⟨h1,h2⟩ q=>by
  have fin:∀ h':Heap,IsIt k h' it a (i+1)->Heap.SameBut it s.heap h'->Q (some items[i]) {s with heap:=h'}:=fun h' st sb =>
   q items[i] {s with heap:=h'} (by simp [hi]) ⟨st,h2.to fun o e=>sb.extBut a o hne e⟩ ⟨fun b o hb e=>sb.extBut b o (fun z=>hb (by simp [z])) e,rfl,rfl,rfl,Nat.le_refl _⟩
  cases k with
  | L=>exact wpAny_pyNext_list_item h1 h2 (x:=items[i]) (by simp [hi]) fin
  | T=>exact wpAny_pyNext_tuple_item h1 h2 (x:=items[i]) (by simp [hi]) fin
 done:=fun s Q E ⟨h1,h2⟩ q=>by
  have fin:∀ h':Heap,Heap.ExtBut it s.heap h'->Q none {s with heap:=h'}:=fun h' eb =>
   q {s with heap:=h'} ⟨fun b o hb e=>eb b o (fun z=>hb (by simp [z])) e,rfl,rfl,rfl,Nat.le_refl _⟩
  cases k with
  | L=>exact wpAny_pyNext_list_end hh h1 h2 (by simp) fin
  | T=>exact wpAny_pyNext_tuple_end hh h1 h2 (by simp) fin
 self:=fun i s Q E ⟨h1,h2⟩ q=>by
  cases k with
  | L=>exact wpAny_pyIter_listiter h1 q
  | T=>exact wpAny_pyIter_tupleiter h1 q
end
def intsOf:List PV->Option (List Int)
 | []=>some []
 | .int i::vs=>(intsOf vs).map (i::·)
 | _=>none
def blsOf:List PV->Option (List Bool)
 | []=>some []
 | .bl i::vs=>(blsOf vs).map (i::·)
 | _=>none
theorem intsOf_get:∀ {vs:List PV} {ns:List Int},intsOf vs=some ns->vs=ns.map PV.int
 | [],ns,h=>by simp [intsOf] at h;simp [h]
 | .int i::vs,ns,h=>by
  simp only [intsOf] at h;cases e:intsOf vs with
  | none=>rw [e] at h;simp at h
  | some ms=>rw [e] at h;simp at h;subst h;rw [intsOf_get e];rfl
 | .non::_,_,h=>by simp [intsOf] at h
 | .bl _::_,_,h=>by simp [intsOf] at h
 | .str _::_,_,h=>by simp [intsOf] at h
 | .lst _::_,_,h=>by simp [intsOf] at h
 | .tup _::_,_,h=>by simp [intsOf] at h
theorem blsOf_get:∀ {vs:List PV} {ns:List Bool},blsOf vs=some ns->vs=ns.map PV.bl
 | [],ns,h=>by simp [blsOf] at h;simp [h]
 | .bl i::vs,ns,h=>by
  simp only [blsOf] at h;cases e:blsOf vs with
  | none=>rw [e] at h;simp at h
  | some ms=>rw [e] at h;simp at h;subst h;rw [blsOf_get e];rfl
 | .non::_,_,h=>by simp [blsOf] at h
 | .int _::_,_,h=>by simp [blsOf] at h
 | .str _::_,_,h=>by simp [blsOf] at h
 | .lst _::_,_,h=>by simp [blsOf] at h
 | .tup _::_,_,h=>by simp [blsOf] at h
theorem intsOf_map (ns:List Int):intsOf (ns.map PV.int)=some ns:=by
 induction ns with
 | nil=>rfl
 | cons n ns ih=>simp [intsOf,ih]
theorem blsOf_map (ns:List Bool):blsOf (ns.map PV.bl)=some ns:=by
 induction ns with
 | nil=>rfl
 | cons n ns ih=>simp [blsOf,ih]
def optR {α:Type}:Option α->Res α
 | some a=>.ok a
 | none=>.bad
theorem optR_ok {α β:Type} {o:Option α} {f:α->Res β} {z:β} (h:(optR o).bind f=.ok z):∃ a,o=some a/\f a=.ok z:=by
 cases o with
 | none=>cases h
 | some a=>exact ⟨a,rfl,h⟩
theorem bind_ok {α β:Type} {r:Res α} {f:α->Res β} {z:β} (h:r.bind f=.ok z):∃ a,r=.ok a/\f a=.ok z:=by
 cases r with
 | ok a=>exact ⟨a,rfl,h⟩
 | exc x=>cases h
 | bad=>cases h
def sumF:List PV->Res PV
 | [v]=>(seqF v).bind fun xs=>(optR (intsOf xs)).bind fun ns=>.ok (.int ns.sum)
 | _=>.bad
def allF:List PV->Res PV
 | [v]=>(seqF v).bind fun xs=>(optR (blsOf xs)).bind fun ns=>.ok (.bl (ns.all id))
 | _=>.bad
theorem optR_nx {α:Type} {o:Option α} {x:XC}:optR o≠.exc x:=by cases o<;>intro h<;>cases h
theorem bind_nx {α β:Type} {r:Res α} {f:α->Res β} (h1:∀ x,r≠.exc x) (h2:∀ a x,f a≠.exc x) (x:XC):r.bind f≠.exc x:=by
 cases r with
 | ok a=>exact h2 a x
 | exc y=>exact absurd rfl (h1 y)
 | bad=>intro h;cases h
theorem nx_sum:NoXs sumF:=fun vs x=>by
 unfold sumF
 split
 ·exact bind_nx (fun x=>seqF_nx) (fun a=>bind_nx (fun x=>optR_nx) fun _ _ h=>by cases h) x
 ·intro h;cases h
theorem nx_all:NoXs allF:=fun vs x=>by
 unfold allF
 split
 ·exact bind_nx (fun x=>seqF_nx) (fun a=>bind_nx (fun x=>optR_nx) fun _ _ h=>by cases h) x
 ·intro h;cases h
theorem preSum_get (ns:List Int):∀ j,j<=ns.length->preSum (fun i=>ns.getD i 0) j=(ns.take j).sum
 | 0,_=>by simp [preSum]
 | j+1,h=>by
  have e:ns[j]?=some ns[j]:=by simp [show j<ns.length by lia]
  have e2:ns.getD j 0=ns[j]:=by simp [List.getD,e]
  have e3:ns.take (j+1)=ns.take j++[ns[j]]:=by rw [List.take_add_one,e];rfl
  rw [preSum,preSum_get ns j (by lia),e3,List.sum_append,e2];simp
section
variable {X:Cx} {pins:List (Addr×Obj)} {σ:SS} {H:Hp} {s:Shared}
theorem vals_int:∀ {ns:List Int} {xs:List V} {us:List Value},Reps X.K H (ns.map PV.int) xs->Vals xs us->∀ (i:Nat) (v:Value),us[i]?=some v->∃ t,v=Value.int (ns.getD i 0) t
 | [],xs,us,r,q,i,v,e=>by
  obtain rfl:=Reps.nil.mp r;cases q;simp at e
 | n::ns,xs,us,r,q,i,v,e=>by
  obtain ⟨x,t,rfl,r1,r2⟩:=Reps.cons.mp r;obtain rfl:=Rep.int.mp r1;cases q with
  | cons q1 q2 =>
   cases i with
   | zero =>
    simp at e;subst e;obtain ⟨t,rfl⟩:=q1;exact ⟨t,by simp⟩
   | succ i =>
    obtain ⟨t,h⟩:=vals_int r2 q2 i v (by simpa using e);exact ⟨t,by simpa using h⟩
theorem vals_bl:∀ {ns:List Bool} {xs:List V} {us:List Value},Reps X.K H (ns.map PV.bl) xs->Vals xs us->∀ (i:Nat) (v:Value),us[i]?=some v->v=Value.bool (ns.getD i true)
 | [],xs,us,r,q,i,v,e=>by
  obtain rfl:=Reps.nil.mp r;cases q;simp at e
 | n::ns,xs,us,r,q,i,v,e=>by
  obtain ⟨x,t,rfl,r1,r2⟩:=Reps.cons.mp r;obtain rfl:=Rep.bl.mp r1;cases q with
  | cons q1 q2 =>
   cases i with
   | zero =>
    simp at e;subst e;cases q1;simp
   | succ i =>
    have h:=vals_bl r2 q2 i v (by simpa using e);simpa using h
theorem after_walk {it:Addr} {h2:Heap} {s':Shared} (I:L2.Inv X pins σ H s) (hk:∀ b o,s.heap.get? b=some o->h2.get? b=some o) (hit:it=s.heap.objs.size)
  (mv:Moved [it] (fun x y=>x=y) {s with heap:=h2} s'):L2.Inv X pins σ H s':=by
 obtain ⟨h,g,d,t,os⟩:=s';have e1:s.gens=g:=mv.gens;have e2:d=s.drawn:=mv.drawn;have e3:os=s.os:=mv.os;subst e1 e2 e3;refine I.kept (t':=t) fun b o e=>mv.heap b o ?_ (hk b o e)
 intro z;have:b=it:=by simpa using z
 rw [this,hit] at e;exact absurd (Heap.lt_size e) (Nat.lt_irrefl _)
theorem all_range (ns:List Bool) (n:Nat) (hn:n=ns.length):((List.range n).all fun i=>ns.getD i true)=ns.all id:=by
 subst hn;rw [Bool.eq_iff_iff,List.all_eq_true,List.all_eq_true]
 constructor
 ·intro h b hb;obtain ⟨i,hi,e⟩:=List.mem_iff_getElem.mp hb;have:=h i (by simpa using hi);rw [List.getD_eq_getElem?_getD,List.getElem?_eq_getElem hi] at this;simpa [e] using this
 ·intro h i hi;have hi':i<ns.length:=by simpa using hi
  rw [List.getD_eq_getElem?_getD,List.getElem?_eq_getElem hi'];simpa using h _ (List.getElem_mem hi')
theorem sq_lt {k:Kd} {h:Heap} {a:Addr} {xs:Array Value} (x:IsSq k h a xs):a<h.objs.size:=by
 cases k with
 | L=>obtain ⟨o,ho,_⟩:=x;exact Heap.lt_size ho
 | T=>obtain ⟨o,ho,_⟩:=x;exact Heap.lt_size ho
theorem call_sumD (hc:X.calm=true):CallR X (.builtin "sum") (rC X sumF):=by
 intro pins s σ H xs us Q I rs ⟨W,vs,tk,r,z,e,q⟩;unfold sumF at e
 split at e
 ·rename_i v
  obtain ⟨l,e1,e⟩:=bind_ok e;obtain ⟨ns,e2,e⟩:=optR_ok e;cases e;obtain rfl:=intsOf_get e2;obtain ⟨x,t,rfl,r1,r2⟩:=Reps.cons.mp r;obtain rfl:=Reps.nil.mp r2;obtain ⟨k,a,ys,rfl,q1,q2⟩:=seq_parts e1 r1;obtain ⟨u,rfl,ru⟩:=vals1 rs;cases ru;obtain ⟨its,rv,p1⟩:=(sqK_same hid_sub q1).sq I;have hlt:=sq_lt p1;refine call_sum_walkAnyS (iter_sq p1 fun h' hsz hit hk=>?_);refine ⟨s.heap.objs.size,_,_,_,its.toArray.size,_,_,fun i=>ns.getD i 0,rfl,walkK (A:=X.A.in1) (items:=its.toArray) k (show X.A.in1.handled=none from I.ok.hd hc) (Nat.ne_of_lt hlt),⟨hit,p1.to fun o e=>hk a o e⟩,fun b hb=>?_,fun i v hv=>?_,fun s' t' mv=>?_⟩
  ·simp only [List.mem_cons,List.not_mem_nil,or_false] at hb;show b<h'.objs.size;rw [hsz]
   rcases hb with rfl | rfl
   ·exact Nat.lt_succ_self _
   ·exact Nat.lt_succ_of_lt hlt
  ·exact vals_int q2 rv i v (by simpa using hv)
  ·have hl:its.length=ns.length:=by rw [<- rv.length,q2.length];simp
   refine ⟨.int ns.sum,H,after_walk I hk rfl mv,⟨t',?_⟩,q _ H (Same.refl H) (Rep.int.mpr rfl)⟩;rw [show its.toArray.size=ns.length by simpa using hl,preSum_get ns _ (Nat.le_refl _),List.take_length]
 ·cases e
theorem call_allD (hc:X.calm=true):CallR X (.builtin "all") (rC X allF):=by
 intro pins s σ H xs us Q I rs ⟨W,vs,tk,r,z,e,q⟩;unfold allF at e
 split at e
 ·rename_i v
  obtain ⟨l,e1,e⟩:=bind_ok e;obtain ⟨ns,e2,e⟩:=optR_ok e;cases e;obtain rfl:=blsOf_get e2;obtain ⟨x,t,rfl,r1,r2⟩:=Reps.cons.mp r;obtain rfl:=Reps.nil.mp r2;obtain ⟨k,a,ys,rfl,q1,q2⟩:=seq_parts e1 r1;obtain ⟨u,rfl,ru⟩:=vals1 rs;cases ru;obtain ⟨its,rv,p1⟩:=(sqK_same hid_sub q1).sq I;have hlt:=sq_lt p1;refine call_all_walkS (iter_sq p1 fun h' hsz hit hk=>?_);refine ⟨s.heap.objs.size,_,_,_,its.toArray.size,_,_,fun i=>ns.getD i true,rfl,walkK (A:=X.A.in1) (items:=its.toArray) k (show X.A.in1.handled=none from I.ok.hd hc) (Nat.ne_of_lt hlt),⟨hit,p1.to fun o e=>hk a o e⟩,fun i v s' Q' E' hv hQ=>?_,fun s' mv=>?_⟩
  ·rw [vals_bl q2 rv i v (by simpa using hv)];exact wpAny_truthy_bool hQ
  ·have hl:its.length=ns.length:=by rw [<- rv.length,q2.length];simp
   refine ⟨.bl (ns.all id),H,after_walk I hk rfl mv,?_,q _ H (Same.refl H) (Rep.bl.mpr rfl)⟩;show Value.bool _=Value.bool _;rw [all_range ns _ (by simpa using hl)]
 ·cases e
def lenF:List PV->Res PV
 | [.lst xs]=>.ok (.int xs.length)
 | [.tup xs]=>.ok (.int xs.length)
 | [.str x]=>if x.length<=sizeLine then .ok (.int x.length) else .bad
 | _=>.bad
theorem nx_len:NoXs lenF:=fun vs x h=>by
 unfold lenF at h
 split at h
 ·cases h
 ·cases h
 ·split at h<;>cases h
 ·cases h
theorem call_lenD:CallR X (.builtin "len") (rC X lenF):=by
 intro pins s σ H xs us Q I rs ⟨W,vs,tk,r,z,e,q⟩;unfold lenF at e
 split at e
 ·obtain ⟨x,t,rfl,r1,r2⟩:=Reps.cons.mp r;obtain rfl:=Reps.nil.mp r2;cases e;obtain ⟨a,ys,rfl,h1,h2⟩:=Rep.lst'.mp r1;exact call_len_seq pins s σ H _ us Q I rs ⟨a,ys,rfl,.inl (sqL_of h1),by rw [h2.length];exact q _ H (Same.refl H) (Rep.int.mpr rfl)⟩
 ·obtain ⟨x,t,rfl,r1,r2⟩:=Reps.cons.mp r;obtain rfl:=Reps.nil.mp r2;cases e;obtain ⟨a,ys,rfl,h1,h2⟩:=Rep.tup'.mp r1;exact call_len_seq pins s σ H _ us Q I rs ⟨a,ys,rfl,.inr (sqT_of h1),by rw [h2.length];exact q _ H (Same.refl H) (Rep.int.mpr rfl)⟩
 ·split at e
  ·rename_i hz
   cases e;obtain ⟨x,t,rfl,r1,r2⟩:=Reps.cons.mp r;obtain rfl:=Reps.nil.mp r2;obtain rfl:=Rep.str.mp r1;exact call_len_str pins s σ H _ us Q I rs ⟨_,rfl,hz,q _ H (Same.refl H) (Rep.int.mpr rfl)⟩
  ·cases e
 ·cases e
def tupF:List PV->Res PV
 | [.lst xs]=>.ok (.tup xs)
 | [.tup xs]=>.ok (.tup xs)
 | _=>.bad
def lstF:List PV->Res PV
 | [.lst xs]=>.ok (.lst xs)
 | [.tup xs]=>.ok (.lst xs)
 | _=>.bad
def intF:List PV->Res PV
 | [.int i]=>.ok (.int i)
 | [.bl k]=>.ok (.int (if k then 1 else 0))
 | _=>.bad
theorem nx_tup:NoXs tupF:=fun vs x h=>by unfold tupF at h;split at h<;>cases h
theorem nx_int:NoXs intF:=fun vs x h=>by unfold intF at h;split at h<;>cases h
theorem call_tupD:CallR X (.type "tuple") (rC X tupF):=by
 intro pins s σ H xs us Q I rs ⟨W,vs,tk,r,z,e,q⟩;unfold tupF at e
 split at e
 ·obtain ⟨x,t,rfl,r1,r2⟩:=Reps.cons.mp r;obtain rfl:=Reps.nil.mp r2;cases e;obtain ⟨a,ys,rfl,h1,h2⟩:=Rep.lst'.mp r1;exact call_tuple_of pins s σ H _ us Q I rs ⟨a,ys,rfl,.inl ⟨sqL_of h1,fun p hp=>okQ_tup q tk h2 hp⟩⟩
 ·obtain ⟨x,t,rfl,r1,r2⟩:=Reps.cons.mp r;obtain rfl:=Reps.nil.mp r2;cases e;obtain ⟨a,ys,rfl,h1,h2⟩:=Rep.tup'.mp r1;exact call_tuple_of pins s σ H _ us Q I rs ⟨a,ys,rfl,.inr ⟨sqT_of h1,q _ H (Same.refl H) r1⟩⟩
 ·cases e
theorem call_intD:CallR X (.type "int") (rC X intF):=by
 intro pins s σ H xs us Q I rs ⟨W,vs,tk,r,z,e,q⟩;unfold intF at e
 split at e
 ·obtain ⟨x,t,rfl,r1,r2⟩:=Reps.cons.mp r;obtain rfl:=Reps.nil.mp r2;obtain rfl:=Rep.int.mp r1;cases e;exact call_int1 pins s σ H _ us Q I rs (.inl ⟨_,rfl,q _ H (Same.refl H) (Rep.int.mpr rfl)⟩)
 ·obtain ⟨x,t,rfl,r1,r2⟩:=Reps.cons.mp r;obtain rfl:=Reps.nil.mp r2;obtain rfl:=Rep.bl.mp r1;cases e;exact call_int1 pins s σ H _ us Q I rs (.inr ⟨_,rfl,q _ H (Same.refl H) (Rep.int.mpr rfl)⟩)
 ·cases e
end
end Pu
namespace Pu
open PySem PySem.Spec PyProof.Rows L2 PySem.SeqAt
abbrev eC (v:PV):De:=fun _=>.ok v
abbrev pI (d:De):Dp:=fun ρ=>(d ρ).bind asI
theorem an_nil:∀ (ρ:En) (vs:List PV),aNil ρ=.ok vs->vs.length=0:=fun _ _ h=>by cases h;rfl
theorem an_cons {d:De} {ds:Das} {n:Nat} (h:∀ (ρ:En) (vs:List PV),ds ρ=.ok vs->vs.length=n):∀ (ρ:En) (vs:List PV),aCons d ds ρ=.ok vs->vs.length=n+1:=fun ρ vs e=>by
 unfold aCons at e;obtain ⟨v,_,e⟩:=bind_ok e;obtain ⟨us,e1,e⟩:=bind_ok e;cases e;simp [h ρ us e1]
theorem ext_set {ρ:En} {i:Nat} {o:Option Sl} (h:ρ[i]?=some none):Ext ρ (ρ.set i o):=⟨by simp,fun j s q=>by
 rw [List.getElem?_set]
 by_cases e:i=j
 ·subst e;rw [h] at q;cases q
 ·rw [if_neg e];exact q⟩
theorem Ext.trans {a b c:En} (h:Ext a b) (g:Ext b c):Ext a c:=⟨h.1.trans g.1,fun i s q=>g.2 i s (h.2 i s q)⟩
theorem caps_none {k:Nat} {idx:List Nat} {ρ:En} {i:Nat} (h:i<k):(caps k idx ρ)[i]?=some none:=by
 unfold caps;rw [List.getElem?_append_left (by simpa using h),List.getElem?_replicate,if_pos h]
theorem ext_name (i:Nat) {k:Nat} {idx:List Nat} (h:decide (i<k)=true):∀ (ρ:En) (v:PV) (ρ1:En),bName i v (caps k idx ρ)=.ok ρ1->Ext (caps k idx ρ) ρ1:=fun ρ v ρ1 e=>by
 cases e;exact ext_set (caps_none (of_decide_eq_true h))
theorem ext_two (i j:Nat) {k:Nat} {idx:List Nat} (h:decide (i<k/\j<k/\i≠j)=true):∀ (ρ:En) (v:PV) (ρ1:En),bTwo i j v (caps k idx ρ)=.ok ρ1->Ext (caps k idx ρ) ρ1:=fun ρ v ρ1 e=>by
 obtain ⟨h1,h2,h3⟩:=of_decide_eq_true h;unfold bTwo at e
 split at e
 ·cases e;refine (ext_set (caps_none h1)).trans (ext_set ?_);rw [List.getElem?_set,if_neg h3];exact caps_none h2
 ·cases e
def HasF (P:Program) (w:World) (K:PySem.W.Frag) (mg:Str->Option Value) (base:Heap) (k:Nat) (x:Str) (ps:List Str) (D:Df):Prop :=
 ∃ f fd,FnD P w K mg base k f fd ps D/\Binds K fd ps []/\PySem.W.keepIn K (.ref f)=true/\mg x=some (.ref f)
section
variable {X:Cx} {k:Nat} {ps:List Str} {g:Df} {x:Str} {p pos:Pos} {a b:Expr} {es:List Expr} {ds:Das} {da db:De}
theorem de_callH (h:HasF X.prog X.w X.K X.mg X.base k x ps g) (hr:Room k X.A) (hg:Gl X x) (hn:∀ (ρ:En) (vs:List PV),ds ρ=.ok vs->vs.length=(a::es).length) (ha:DA X (a::es) ds) (hl:(a::es).length=ps.length:=by rfl)
  (hdb:(x==("__debug__" : Str))=false:=by decide) (he:starEach (a::es) X.env=(false,eval a X.env)::starEach es X.env:=by rfl) (hpl:(backTo pos (starEach es X.env)).any (·.1)=false:=by rfl) :
  DE X (.Call (.Name x p) (a::es) [] pos) (eB g ds):=by
 obtain ⟨f,fd,F,hb,hk,hm⟩:=h;exact de_call F hr hg hm hk hb hl hn ha hdb he hpl
inductive Ty where
 | int | bool | tup | lst | str | dict
def Ty.nm:Ty->String
 | .int => "int" | .bool => "bool" | .tup => "tuple" | .lst => "list" | .str => "str" | .dict => "dict"
abbrev tInt:Ty:=.int
abbrev tBool:Ty:=.bool
abbrev tTupT:Ty:=.tup
abbrev tLstT:Ty:=.lst
def isT:Ty->PV->Bool
 | .int,.int _=>true
 | .int,.bl _=>true
 | .bool,.bl _=>true
 | .tup,.tup _=>true
 | .lst,.lst _=>true
 | .str,.str _=>true
 | _,_=>false
def tyN:PV->String
 | .non => "NoneType" | .bl _ => "bool" | .int _ => "int" | .str _ => "str" | .lst _ => "list" | .tup _ => "tuple"
theorem kit_of (K:PySem.W.Frag) (T:Ty) (v:PV):PySem.W.kitOne K (.type (tyN v)) (.type T.nm)=some (isT T v):=by
 cases v<;>cases T<;>(simp only [tyN,Ty.nm,isT];first | rfl | kernel_rfl | decide +kernel)
def eIs (T:Ty) (d:De):De:=fun ρ=>(d ρ).bind fun v=>.ok (.bl (isT T v))
theorem isinst_D {pins:List (Addr×Obj)} {σ:SS} {H:Hp} {s:Shared} {A:Around} {E:Value->Shared->Prop} {Q:Value->Shared->Prop} {W:Addr->Prop} {v:PV} {x:V} {u:Value} (T:Ty)
  (I:L2.Inv X pins σ H s) (rx:RelV x u) (r:Rep X.K (hid W H) v x) (h:∀ tk,Q (.bool (isT T v)) {s with toks:=tk}):wpAny (model X.prog X.w) A (call (.builtin "isinstance") [u,.type T.nm]) Q E s:=by
 have e:=kit_of X.K T v;cases v with
 | non=>cases Rep.non.mp r;cases rx;exact PySem.W.kia_one PySem.W.kitx_none I.kIn True.intro e (fun z=>nomatch z) h
 | bl y=>cases Rep.bl.mp r;cases rx;exact PySem.W.kia_one PySem.W.kitx_bool I.kIn True.intro e (fun z=>nomatch z) h
 | int i=>cases Rep.int.mp r;obtain ⟨t,q⟩:=(show ∃ t,u=Value.int i t from rx);cases q;exact PySem.W.kia_one PySem.W.kitx_int I.kIn True.intro e (fun z=>nomatch z) h
 | str y=>cases Rep.str.mp r;obtain ⟨t,q⟩:=(show ∃ t,u=Value.str y t from rx);cases q;exact PySem.W.kia_one PySem.W.kitx_str I.kIn True.intro e (fun z=>nomatch z) h
 | lst vs =>
  obtain ⟨a,xs,rfl,h1,h2⟩:=Rep.lst'.mp r;cases rx;obtain ⟨its,_,⟨o,n,e1,e2,_⟩,_⟩:=I.list (sqL_of h1);exact PySem.W.kia_one PySem.W.kitx_list I.kIn ⟨o,e1,e2⟩ e (fun z=>nomatch z) h
 | tup vs =>
  obtain ⟨a,xs,rfl,h1,h2⟩:=Rep.tup'.mp r;cases rx;obtain ⟨its,_,⟨o,e1,e2,_⟩,_⟩:=I.tuple (sqT_of h1);exact PySem.W.kia_one PySem.W.kitx_tuple I.kIn ⟨o,e1,e2⟩ e (fun z=>nomatch z) h
def rIs (X:Cx) (T:Ty):List V->Hp->VK->Prop:=fun xs H Q=>∃ W v x,xs=[x,.ty T.nm]/\Rep X.K (hid W H) v x/\Q (.bl (isT T v)) H
theorem call_isD (T:Ty):CallR X (.builtin "isinstance") (rIs X T):=by
 intro pins s σ H xs us Q I rs ⟨W,v,x,e,r,q⟩;subst e;cases rs with
 | cons r1 r2 =>
  cases r2 with
  | cons r3 r4 =>
   cases r4;cases (show _=Value.type T.nm from r3);exact isinst_D T I r1 r fun tk=>⟨.bl (isT T v),H,I.tok tk,rfl,q⟩
theorem boot_isinstance:bootBuiltins "isinstance" = some (.builtin "isinstance"):=by decide
theorem de_is {T:Ty} {p2:Pos} {y:Str} (hg:Gl X "isinstance") (hm:X.mg "isinstance" = none) (hgT:Gl X y) (hmT:X.mg y=none) (ha:DE X a da) (hv:bootBuiltins y=some (.type T.nm):=by decide) (hn:y ≠ "__name__" := by decide) (hdb:(y==("__debug__" : Str))=false:=by decide)
  (he:starEach [a,.Name y p2] X.env=(false,eval a X.env)::starEach [.Name y p2] X.env:=by rfl) (he2:starEach [.Name y p2] X.env=(false,eval (.Name y p2) X.env)::starEach [] X.env:=by rfl) (hpl:(backTo pos (starEach [.Name y p2] X.env)).any (·.1)=false:=by rfl) :
  DE X (.Call (.Name "isinstance" p) [a,.Name y p2] [] pos) (eIs T da) :=
 pe_imp (pe_callB (call_isD T) hg hm boot_isinstance (pa_cons ha (pa_cons (pe_bltn hgT hmT hv (v:=.ty T.nm) rfl hn hdb) pa_nil he2) he) (by decide) (by decide) he hpl) fun σ H Q ⟨W,ρ,er,h⟩=>by
  refine tD_of da er h.bind fun v x H1 s1 er1 r1 h1=>?_
  exact ⟨W,v,x,rfl,r1,h1 _ H1 s1 (Rep.bl.mpr rfl)⟩
theorem eVar_nx {i:Nat} {ρ:En} {z:XC} (h:eVar i ρ=.exc z):False:=by
 unfold eVar at h
 split at h<;>cases h
def MtT (X:Cx) (id:String) (f:PV->PV->Res PV):Prop :=
 ∀ (pins:List (Addr×Obj)) (s:Shared) (σ:SS) (H:Hp) (W:Addr->Prop) (vs:List PV) (b z:PV) (x y:V) (v u:Value) (Q:VK),L2.Inv X pins σ H s->RelV x v->RelV y u->Rep X.K (hid W H) (.tup vs) x->Rep X.K (hid W H) b y ->
  f (.tup vs) b=.ok z->OkQ X.K W H Q z->wpAny (model X.prog X.w) X.A (call (.builtin id) [v,u]) (EP X pins σ Q) X.xe s
theorem de_mt1 {f:PV->PV->Res PV} {name:Str} {id:String} {apos cpos:Pos} (slot:Slot "tuple" name id) (hty:typeOf (.builtin id)=pure (.type "method_descriptor")) (hm:MtT X id f) (ho:∀ v u z,f v u=.ok z->∃ vs,v=.tup vs)
  (ha:DE X a da) (hb:DE X b db) (hnx:∀ ρ z,db ρ≠.exc z) (nx:NoX f) (hbase:attributeBase a name X.env (eval a X.env)=eval a X.env:=by rfl)
  (hfew:((backTo cpos (starEach [b] X.env)).all (fun x=>!x.1)&&(backToKw cpos (keywordEach [] X.env)).all (fun x=>x.1.isSome)
   && decide ([b].length+([]:List Keyword).length+(if ([]:List Keyword).isEmpty then 0 else 1)<30))=true:=by rfl)
  (hline:(apos.endLine==cpos.line)=true:=by rfl) (hs:starEach [b] X.env=(false,eval b X.env)::starEach [] X.env:=by rfl) (hplain:(backTo cpos (starEach [] X.env)).any (·.1)=false:=by rfl) :
  DE X (.Call (.Attribute a name apos) [b] [] cpos) (e2 f da db):=by
 intro pins s σ H Q I ⟨W,ρ,er,h⟩;refine wpAny_Call_method_late hbase hfew hline rfl (thn (ha pins s σ H (fun x H1=>∃ v,ER X.K W H1 σ ρ/\Rep X.K (hid W H1) v x/\Fin X W H1 Q ((db ρ).bind fun u=>f v u)) I
  (tD_of da er h.bind fun v x H1 s1 er1 r1 h1=>⟨v,er1,r1,Fin.grow h1 s1⟩)) fun v s1 ⟨x,H1,I1,r1,pv,er1,rp1,h1⟩=>?_)
 cases e1:db ρ with
 | exc z=>exact absurd e1 (hnx ρ z)
 | bad=>rw [e1] at h1;exact h1.elim
 | ok u =>
  rw [e1,Res.bind_ok] at h1;cases e2:f pv u with
  | exc z=>exact absurd e2 (nx _ _ _)
  | bad=>rw [e2] at h1;exact h1.elim
  | ok z =>
   rw [e2] at h1;obtain ⟨vs,rfl⟩:=ho _ _ _ e2;obtain ⟨l,xs,rfl,hq,hrs⟩:=Rep.tup'.mp rp1;cases r1;obtain ⟨its,rv,⟨o,ho1,hc,hd,n,hdat⟩,hz⟩:=I1.tupleD (sqT_of hq);refine ⟨"tuple",id,PySem.F.plainAttrs_tuple,slot,hty,⟨o,ho1,hc⟩,fun b e=>by cases e;exact ⟨o,ho1,hd⟩,?_⟩
   have hA:=(da_cons hb da_nil hs) cpos pins s1 σ H1 (fun ys H2=>∃ y,ys=[y]/\Rep X.K (hid W H2) u y/\Same H1 H2) I1 ⟨W,ρ,er1,by
    simp only [aCons,aNil,e1,Res.bind_ok];intro ys H2 s2 r2;obtain ⟨y,t,rfl,q1,q2⟩:=Reps.cons.mp r2;obtain rfl:=Reps.nil.mp q2;exact ⟨y,rfl,q1,s2⟩⟩
   rw [hs] at hA ⊢;refine Calls.callWith_builtin (by show (false||(backTo cpos (starEach [] X.env)).any (·.1))=false;rw [hplain]<;>rfl) (Calls.evalArgs_plain ?_);refine thn hA fun us s2 ⟨ys,H2,I2,rys,y,e,ry,s12⟩=>?_
   subst e;obtain ⟨w,rfl,rw'⟩:=vals1 rys;exact hm pins s2 σ H2 W vs u z (.ref l) y (.ref l) w Q I2 rfl rw' (Rep.tup (sqT_same (hid_same s12) hq) (hrs.mono (hid_same s12))) ry e2 (okQ_grow h1 s12)
def indexF:PV->PV->Res PV
 | .tup xs,b=>if cmpOk b&&cmpOk (.tup xs) then (match xs.findIdx? fun y=>eqv y b with
  | some i=>.ok (.int (i:Nat))
  | none=>.bad) else .bad
 | _,_=>.bad
theorem indexF_tup (v u z:PV) (h:indexF v u=.ok z):∃ vs,v=.tup vs:=by
 cases v<;>simp [indexF] at h;exact ⟨_,rfl⟩
theorem nx_index:NoX indexF:=nx_of fun v u=>by
 cases v<;>simp only [indexF]<;>try (first | exact .inr rfl | exact .inr trivial)
 split
 ·split
  ·exact .inl ⟨_,rfl⟩
  ·exact .inr rfl
 ·exact .inr rfl
theorem dats_map (xs:List PV):dats xs=xs.map dat:=by
 induction xs with
 | nil=>rfl
 | cons x xs ih=>simp [dats,ih]
end
end Pu
namespace Pu
open PySem PySem.Spec PyProof.Rows L2
def clOf (cells:List (Str×Addr)):List (Str×NameKind)->List (Str×Addr)->List (Str×Addr)
 | [],acc=>acc
 | (n,k)::r,acc=>if k==.free then clOf cells r ((n,(cells.lookup n).getD 0)::acc) else clOf cells r acc
theorem closureFor_eq {scope:Scope} {env:Env} (h:∀ y∈scope.names,y.2=.free->∃ c,env.cells.lookup y.1=some c):closureFor scope env=pure (clOf env.cells scope.names []):=by
 unfold closureFor;have gen:∀ (names:List (Str×NameKind)) (acc:List (Str×Addr)),(∀ y∈names,y.2=.free->∃ c,env.cells.lookup y.1=some c) ->
   (forIn names acc fun (x:Str×NameKind) (r:List (Str×Addr))=>match x with
    | (name,kind)=>if (kind==.free)=true then do let a <- cellOf env name;pure (ForInStep.yield ((name,a)::r)) else pure (ForInStep.yield r))=(pure (clOf env.cells names acc):Sem (List (Str×Addr))):=by
  intro names
  induction names with
  | nil=>intro acc _;rfl
  | cons y names ih =>
   intro acc hn;obtain ⟨nm,k⟩:=y;rw [List.forIn_cons];have ih':=fun acc=>ih acc fun y hy=>hn y (List.mem_cons_of_mem _ hy)
   by_cases hk:(k==NameKind.free)=true
   ·obtain ⟨c,hc⟩:=hn (nm,k) List.mem_cons_self (by simpa using hk);have e:cellOf env nm=pure c:=by unfold cellOf;rw [show env.cells.lookup nm=some c from hc]
    simp only [hk,if_true,e,clOf];have e2:(env.cells.lookup nm).getD 0=c:=by rw [show env.cells.lookup nm=some c from hc];rfl
    rw [e2];exact ih' _
   ·simp only [hk,clOf,Bool.false_eq_true,if_false];exact ih' _
 exact (congrArg (fun m:Sem (List (Str×Addr))=>(m>>=fun s=>pure s)) (gen scope.names [] h)).trans rfl
theorem clOf_sub {cells:List (Str×Addr)}:∀ {names:List (Str×NameKind)} {acc:List (Str×Addr)},(∀ y∈names,y.2=.free->∃ c,cells.lookup y.1=some c)->(∀ x c,acc.lookup x=some c->cells.lookup x=some c)->∀ x c,(clOf cells names acc).lookup x=some c->cells.lookup x=some c
 | [],acc,_,h,x,c,e=>h x c e
 | (n,k)::r,acc,hn,h,x,c,e=>by
  unfold clOf at e;have hn':∀ y∈r,y.2=.free->∃ c,cells.lookup y.1=some c:=fun y hy=>hn y (List.mem_cons_of_mem _ hy)
  split at e
  ·rename_i hk
   obtain ⟨d,hd⟩:=hn (n,k) List.mem_cons_self (by simpa using hk);refine clOf_sub hn' (fun y c' e'=>?_) x c e;rw [List.lookup_cons] at e'
   by_cases hy:(y==n)=true
   ·rw [hy] at e';have:y=n:=by simpa using hy
    subst this;have hd':cells.lookup y=some d:=hd;rw [hd'] at e';simp at e';subst e';exact hd'
   ·simp only [hy] at e';exact h y c' e'
  ·exact clOf_sub hn' h x c e
theorem clOf_acc {cells:List (Str×Addr)}:∀ {names:List (Str×NameKind)} {acc:List (Str×Addr)} {x:Str},(∃ c,acc.lookup x=some c)->∃ c,(clOf cells names acc).lookup x=some c
 | [],acc,x,h=>h
 | (n,k)::r,acc,x,h=>by
  unfold clOf
  split
  ·refine clOf_acc ?_;rw [List.lookup_cons];cases hb:(x==n) with
   | true=>exact ⟨_,rfl⟩
   | false=>exact h
  ·exact clOf_acc h
theorem clOf_has {cells:List (Str×Addr)}:∀ {names:List (Str×NameKind)} {acc:List (Str×Addr)} {x:Str},(x,NameKind.free)∈names->∃ c,(clOf cells names acc).lookup x=some c
 | [],acc,x,h=>by cases h
 | (n,k)::r,acc,x,h=>by
  unfold clOf
  rcases List.mem_cons.mp h with e | h
  ·cases e;simp only [beq_self_eq_true,if_true];refine clOf_acc ⟨(cells.lookup n).getD 0,?_⟩;rw [List.lookup_cons,beq_self_eq_true]
  ·split<;>exact clOf_has h
def compChk (cs:List (Str×NameKind)) (around:List (Str×NameKind)) (XN:List Str) (k:Nat) (idx:List Nat) (N:List Str):Bool :=
 cs.all (fun y=>(y.2 != .local||cs.lookup y.1==some .local)&&(y.2 != .free||around.lookup y.1==some .cell||around.lookup y.1==some .free))
 && N.length==k+idx.length
 && (List.range idx.length).all fun j=>match idx[j]?,N[k+j]? with
  | some i,some x=>XN[i]?==some x&&(around.lookup x==some .cell||around.lookup x==some .free)&&cs.lookup x==some .free&&cs.all (fun y=>y.2 != .cell||y.1 != x)
  | _,_=>false
theorem lookup_relabel_free {env:Env}:∀ {names:List (Str×NameKind)} {x:Str},names.lookup x=some .free ->
  (names.map fun (n,k)=>if (k==NameKind.free&&env.scope.kind==.function&&env.kindOf n==some .cell) then (n,NameKind.cell) else (n,k)).lookup x=some .cell \/
  (names.map fun (n,k)=>if (k==NameKind.free&&env.scope.kind==.function&&env.kindOf n==some .cell) then (n,NameKind.cell) else (n,k)).lookup x=some .free
 | [],_,h=>by simp at h
 | (n,k)::r,x,h=>by
  rw [List.lookup_cons] at h;rw [List.map_cons];dsimp only;cases hb:(x==n) with
  | true =>
   rw [hb] at h;simp only [Option.some.injEq] at h;subst h
   split
   ·left;rw [List.lookup_cons,hb]
   ·right;rw [List.lookup_cons,hb]
  | false =>
   rw [hb] at h;have ih:=lookup_relabel_free (env:=env) h
   split
   ·rw [List.lookup_cons,hb];exact ih
   ·rw [List.lookup_cons,hb];exact ih
theorem relabel_mem {env:Env}:∀ {names:List (Str×NameKind)} {x:Str} {q:NameKind},(names.map fun (n,k)=>if (k==NameKind.free&&env.scope.kind==.function&&env.kindOf n==some .cell) then (n,NameKind.cell) else (n,k)).lookup x=some q ->
  (x,q)∈names\/(q=.cell/\(x,NameKind.free)∈names)
 | [],_,_,h=>by simp at h
 | (n,k)::r,x,q,h=>by
  rw [List.map_cons] at h;dsimp only at h
  split at h
  ·rename_i hc
   rw [List.lookup_cons] at h;cases hb:(x==n) with
   | true =>
    rw [hb] at h;have e:x=n:=by simpa using hb
    subst e;simp only [Option.some.injEq] at h;subst h;have hk:k=.free:=by simp at hc;exact hc.1.1
    subst hk;exact .inr ⟨rfl,List.mem_cons_self⟩
   | false =>
    rw [hb] at h
    rcases relabel_mem h with z | ⟨z1,z2⟩
    ·exact .inl (List.mem_cons_of_mem _ z)
    ·exact .inr ⟨z1,List.mem_cons_of_mem _ z2⟩
  ·rw [List.lookup_cons] at h;cases hb:(x==n) with
   | true =>
    rw [hb] at h;have e:x=n:=by simpa using hb
    subst e;simp only [Option.some.injEq] at h;subst h;exact .inl List.mem_cons_self
   | false =>
    rw [hb] at h
    rcases relabel_mem h with z | ⟨z1,z2⟩
    ·exact .inl (List.mem_cons_of_mem _ z)
    ·exact .inr ⟨z1,List.mem_cons_of_mem _ z2⟩
theorem comp_ok_of {X:Cx} {scope:Scope} {k:Nat} {idx:List Nat} {N:List Str} (ok:X.Ok) (hk:scope.kind=.function) (h:compChk scope.names X.env.scope.names X.N k idx N=true):CompOk X scope (clOf X.env.cells scope.names []) k idx N:=by
 unfold compChk at h;rw [Bool.and_eq_true,Bool.and_eq_true,List.all_eq_true,List.all_eq_true] at h;obtain ⟨⟨h1,h2⟩,h3⟩:=h;have hf:∀ y∈scope.names,y.2=.free->∃ c,X.env.cells.lookup y.1=some c:=fun y hy e=>by
  have:=h1 y hy;simp only [e,Bool.and_eq_true,Bool.or_eq_true,beq_iff_eq,bne_self_eq_false,Bool.false_eq_true,false_or] at this;exact ok.has y.1 this.2
 refine ⟨hk,closureFor_eq hf,fun y hy e=>?_,clOf_sub hf (fun x c e=>by simp at e),fun x hx=>?_,by simpa using h2,fun j i x hj hx=>?_⟩
 ·have:=h1 y hy;simp only [e,Bool.and_eq_true,Bool.or_eq_true,beq_iff_eq,bne_self_eq_false,Bool.false_eq_true,false_or] at this;exact this.1
 ·rcases hx with hx | hx
  ·rcases relabel_mem (env:=X.env) hx with z | ⟨_,z⟩
   ·exact .inl z
   ·exact .inr (clOf_has z)
  ·rcases relabel_mem (env:=X.env) hx with z | ⟨z,_⟩
   ·exact .inr (clOf_has z)
   ·cases z
 ·have hjl:j<idx.length:=(List.getElem?_eq_some_iff.mp hj).1;have:=h3 j (List.mem_range.mpr hjl);rw [hj,hx] at this;simp only [Bool.and_eq_true,Bool.or_eq_true,beq_iff_eq,List.all_eq_true] at this;obtain ⟨⟨⟨q1,q2⟩,q3⟩,q4⟩:=this;refine ⟨q1,q2,.inr q2,lookup_relabel_free q3,clOf_has (mem_of_lookup q3),fun z=>?_⟩
  have:=q4 _ z;simp at this
section
variable {X:Cx} {scope:Scope} {k:Nat} {idx:List Nat} {N:List Str} {tg iter elt:Expr} {ifs:List Expr} {di:Di} {t:Dg} {c:Dt} {e:De} {pos:Pos}
theorem de_compW (hk:scope.kind=.function) (chk:compChk scope.names X.env.scope.names X.N k idx N=true) (hcalm:X.calm=true) (hi:DI X tg iter di) (hw:∀ ρ v ρ1,t v (caps k idx ρ)=.ok ρ1->Ext (caps k idx ρ) ρ1)
  (hg:∀ cl C s3 H3 fp,DG (cxComp X scope cl N C s3 H3 fp) tg t) (hif:∀ cl C s3 H3 fp,DIf (cxComp X scope cl N C s3 H3 fp) ifs c) (he:∀ cl C s3 H3 fp,DE (cxComp X scope cl N C s3 H3 fp) elt e)
  (hs:∀ x,foldedSetIterable iter X.env x=pure x:=by intro _;rfl):DE X (.ListComp elt [⟨tg,iter,ifs,0⟩] scope pos) (eComp di k idx t c e):=fun pins s σ H Q I h =>
 de_comp (comp_ok_of I.ok hk chk) hcalm hi hw hg hif he hs pins s σ H Q I h
end
end Pu
namespace Pu
open PySem PySem.Spec PyProof.Rows L2
theorem hid_no (H:Hp):hid (fun _=>False) H=H:=by
 funext a;unfold hid;simp
theorem reps_ints {K:PySem.W.Frag} {H:Hp}:∀ ns:List Int,Reps K H (ns.map PV.int) (ns.map V.int)
 | []=>Reps.nil.mpr rfl
 | n::ns=>Reps.mk (Rep.int.mpr rfl) (reps_ints ns)
theorem walkD {l:PySem.W.OpenLaw} {k:Nat} {q:Program} {loose:List Str} {XP:(Str->Option Value)->Heap->Prop} {YP:World->Heap->Prop} {d:DefRec} {K:Params->PySem.W.Frag} {x:Str} {D:Df}
  (hn:l.most=some 63) (hdf:d.params.defaults=[]) (hr:Room k callerA) (hY:∀ (w:World) (h:Heap),YP w h->(K w.params).In h)
  (F:∀ (w:World) (mg:Str->Option Value) (fa:Addr) (h:Heap),(K w.params).In h->h.Ns mainGlobals mg->mg d.name=some (.ref fa) ->
   ∃ fd:FuncData,(∀ (s:Shared) (u:Value),BindsTo s fd ⟨[u],[]⟩ [(x,u)])/\∀ base:Heap,(K w.params).In base->base.Ns mainGlobals mg->FnD l.prog w (K w.params) mg base k fa fd [x] D)
  (hD:∀ ns:List Int,ns.length<=63->D [.lst (ns.map PV.int)]=.ok (.bl true)):PySem.W.WalkO q loose XP YP l.row.toRowW d [] (fun f vs=>PySem.call f vs) :=
 L2.walk_ofK (n:=63) (CX:=CX0) (sp:=fun K=>spO K 1 D) hn (by decide) hdf hr hY (fun w mg fa h a b c=>let ⟨fd,q1,q2⟩:=F w mg fa h a b c;⟨fd,q1,fun base x y=>(q2 base x y).no⟩)
  (fun K H a ns hl hO hS=>⟨fun _=>False,[.lst (ns.map PV.int)],fun _ h=>h.elim,Reps.mk (Rep.lst (by rw [hid_no];exact hS) (reps_ints ns)) (Reps.nil.mpr rfl),rfl,.bl true,hD ns hl,fun y H' s r=>Rep.bl.mp r⟩) fun _ _ _ _ z=>z
theorem boot_len:bootBuiltins "len" = some (.builtin "len"):=by decide
theorem boot_sum:bootBuiltins "sum" = some (.builtin "sum"):=by decide
theorem boot_all:bootBuiltins "all" = some (.builtin "all"):=by decide
theorem boot_tuple:bootBuiltins "tuple" = some (.type "tuple"):=by decide
theorem boot_int:bootBuiltins "int" = some (.type "int"):=by decide
theorem us1 {fd:FuncData} {ps:List Str} (h:∀ a,bindArgs fd ⟨[a],[]⟩=pure (ps.zip [a])):∀ us:List Value,us.length=1->bindArgs fd ⟨us,[]⟩=pure (ps.zip us)
 | [a],_=>h a
theorem us2 {fd:FuncData} {ps:List Str} (h:∀ a b,bindArgs fd ⟨[a,b],[]⟩=pure (ps.zip [a,b])):∀ us:List Value,us.length=2->bindArgs fd ⟨us,[]⟩=pure (ps.zip us)
 | [a,b],_=>h a b
theorem us3 {fd:FuncData} {ps:List Str} (h:∀ a b c,bindArgs fd ⟨[a,b,c],[]⟩=pure (ps.zip [a,b,c])):∀ us:List Value,us.length=3->bindArgs fd ⟨us,[]⟩=pure (ps.zip us)
 | [a,b,c],_=>h a b c
end Pu
namespace Pu
open PySem PySem.Spec PyProof.Rows L2
def DfIn (K:PySem.W.Frag) (x:Str) (st:Stmt):Prop:=∃ (f:Addr) (oc:Value) (od an:Option Addr) (sl:Array (Option Value)) (kV dc pm cd ct:Value),PySem.W.nsIn K mainGlobals x=some (some (.ref f)) /\
 K.lookup f=some ⟨oc,od,.func (PySem.W.fnOf x x (defArgs st) (defBody st) (defScope st) .none kV dc pm an cd ct),sl⟩/\PySem.W.codeIn K cd x=true/\PySem.W.keepIn K (.ref f)=true
theorem dfin {K:PySem.W.Frag} {x:Str} {st:Stmt} {f:Addr} {oc:Value} {od an:Option Addr} {sl:Array (Option Value)} {kV dc pm cd ct:Value} (a:PySem.W.nsIn K mainGlobals x=some (some (.ref f)))
  (l:K.lookup f=some ⟨oc,od,.func (PySem.W.fnOf x x (defArgs st) (defBody st) (defScope st) .none kV dc pm an cd ct),sl⟩) (c:PySem.W.codeIn K cd x=true) (k:PySem.W.keepIn K (.ref f)=true):DfIn K x st:=⟨f,oc,od,an,sl,kV,dc,pm,cd,ct,a,l,c,k⟩
theorem hasF {P:Program} {w:World} {K:PySem.W.Frag} {mg:Str->Option Value} {base h:Heap} {k:Nat} {x:Str} {st:Stmt} {ps:List Str} {D:Df} (X:K.In h) (G:h.Ns mainGlobals mg) (q:DfIn K x st)
  (ok:∀ {f:Addr} {fd:FuncData},Fun K x x st f fd->FnD P w K mg base k f fd ps D)
  (hb:∀ (kV doc pm:Value) (an:Option Addr) (cdv ct:Value) (us:List Value),us.length=ps.length->bindArgs (PySem.W.fnOf x x (defArgs st) (defBody st) (defScope st) .none kV doc pm an cdv ct) ⟨us,[]⟩=pure (ps.zip us)):HasF P w K mg base k x ps D:=by
 obtain ⟨f,oc,od,an,sl,kV,dc,pm,cd,ct,a,l,c,kp⟩:=q;have F:=fun_mk (st:=st) l c kp;exact ⟨_,_,ok F,F.binds hb,kp,PySem.W.mg_of X G a⟩
theorem sc_mk {N P:List Str} {sc:Scope} (a:sc.kind=.function:=by rfl) (b:sc.isCoroutine=false:=by rfl) (c:sc.isGenerator=false:=by rfl) (d:N.Nodup:=by decide +kernel) (e:N.take P.length=P:=by rfl)
  (g:∀ x∈P,sc.names.lookup x=some .local\/sc.names.lookup x=some .cell:=by decide +kernel) (h:∀ y∈sc.names,y.2≠.free:=by decide +kernel):FnScope N P sc:=⟨a,b,c,d,e,g,h⟩
theorem fnN {P:Program} {w:World} {K:PySem.W.Frag} {mg:Str->Option Value} {base:Heap} {x qual:Str} {st:Stmt} {f:Addr} {fd:FuncData} {N ps:List Str} {k:Nat} {d:Ds} (F:Fun K x qual st f fd) (S:FnScope N ps (defScope st))
  (hbody:∀ {cdv:Value} {A:Around} {outer:List Env} {s:Shared} {H:Hp} {E:XK},N.Nodup->Room k (A.deeper (envOfC qual (defScope st) s.heap.objs.size f cdv)) ->
   DSs (cxOf (CXP P w) P w K mg base N qual (defScope st) f cdv A outer s H E) (defBody st) d):FnD P w K mg base (k+1) f fd ps (runF N.length d):=fnD F S fun cdv A outer s H E hr=>hbody S.nd hr
theorem hasLaw {l:PySem.W.OpenLaw} {w:World} {K:PySem.W.Frag} {h:Heap} {mg:Str->Option Value} {fa:Addr} {st:Stmt} {k:Nat} {x:Str} {D:Df} (X:K.In h) (G:h.Ns mainGlobals mg) (hfa:mg "law" = some (.ref fa)) (q:DfIn K "law" st)
  (hb:∀ (kV doc pm:Value) (an:Option Addr) (cdv ct:Value) (v:Value),bindArgs (PySem.W.fnOf "law" "law" (defArgs st) (defBody st) (defScope st) .none kV doc pm an cdv ct) ⟨[v],[]⟩=pure [(x,v)])
  (ok:∀ (base:Heap) {fd:FuncData},Fun K "law" "law" st fa fd->FnD l.prog w K mg base k fa fd [x] D) :
  ∃ fd:FuncData,(∀ (s:Shared) (v:Value),BindsTo s fd ⟨[v],[]⟩ [(x,v)])/\∀ base:Heap,K.In base->base.Ns mainGlobals mg->FnD l.prog w K mg base k fa fd [x] D:=by
 obtain ⟨f,oc,od,an,sl,kV,dc,pm,cd,ct,a,lk,c,kp⟩:=q;have e:=hfa.symm.trans (PySem.W.mg_of X G a);cases e;exact ⟨_,fun s v=>.of_eq (hb kV dc pm an cd ct v),fun base _ _=>ok base (fun_mk (st:=st) lk c kp)⟩
end Pu
namespace Pu
open PySem PySem.Spec PyProof.Rows L2
section
variable {X:Cx} {scope:Scope} {cl:List (Str×Addr)} {k:Nat} {idx:List Nat} {N:List Str} {tg iter elt:Expr} {ifs:List Expr} {di:Di} {t:Dg} {c:Dt} {e:De} {pos:Pos}
theorem ds_setComp {i:Nat} {y:Str} {py spos:Pos} (hk:scope.kind=.function) (chk:compChk scope.names X.env.scope.names X.N k idx N=true) (hcalm:X.calm=true) (hN:X.N.Nodup) (hyi:X.N[i]?=some y) (hyx:Loc X.env.scope y) (hyf:X.fn y=true\/X.env.scope.names.lookup y=some .local)
  (hi:DI X tg iter di) (hw:∀ ρ v ρ1,t v (caps k idx ρ)=.ok ρ1->Ext (caps k idx ρ) ρ1)
  (hg:∀ cl C s3 H3 fp,DG (cxComp X scope cl N C s3 H3 fp) tg t) (hif:∀ cl C s3 H3 fp,DIf (cxComp X scope cl N C s3 H3 fp) ifs c) (he:∀ cl C s3 H3 fp,DE (cxComp X scope cl N C s3 H3 fp) elt e)
  (hs:∀ x,foldedSetIterable iter X.env x=pure x:=by intro _;rfl)
  (hsw:swapsWith (.ListComp elt [⟨tg,iter,ifs,0⟩] scope pos) (some (.Name y py)) spos.line X.env=pure true:=by rfl) :
  DS X (.Assign [.Name y py] (.ListComp elt [⟨tg,iter,ifs,0⟩] scope pos) spos) (sAsg (eComp di k idx t c e) (bName i)):=by
 intro pins s σ H D' I ⟨W0,H0,W,ρ,w,er,h⟩;have ok:=comp_ok_of (X:=X) (scope:=scope) (k:=k) (idx:=idx) (N:=N) I.ok hk chk
 revert ok
 generalize clOf X.env.cells scope.names []=cl;intro ok;have h:Fin X W H (fun x H1=>D'.nx (σ.set i (some x)) H1) (eComp di k idx t c e ρ):=by
  have hb:=h.bind.xw w.same;cases e0:eComp di k idx t c e ρ with
  | ok v =>
   rw [e0] at hb;exact fun x H1 s1 r1=>hb (σ.set i (some x)) W H1 ((w.grow s1).kp (w.same.trans s1) w.sub (Kp.set i _ _)) (hid_same s1) ((er.mono s1).set r1 i)
  | exc z=>rw [e0] at hb;exact hb
  | bad=>rw [e0] at hb;exact hb
 rw [exec_Assign_Name_used _ _ _ _ hsw];refine wpAny_bind (wpAny_standAt (wpAny_bind ?_));show wpAny _ X.A (do let _ <- comprehension (.ListComp elt [⟨tg,iter,ifs,0⟩] scope pos) scope X.env _ (newList []) false (eval iter X.env) (some (assign (.Name y py) X.env))) _ _ s
 have hfin:FinI X W H (fun J H2=>∃ vs out,vs.length<=sizeLine/\compL t c e (caps k idx ρ) vs=.ok out/\ItOk X.K (hid W H2) J vs/\Same H H2/\OkQ X.K W H (fun x H1=>D'.nx (σ.set i (some x)) H1) (.lst out)) (di ρ):=by
  unfold eComp at h;cases ed:di ρ with
  | exc x=>rw [ed] at h;exact h
  | bad=>rw [ed] at h;exact h.elim
  | ok vs =>
   rw [ed,Res.bind_ok] at h
   by_cases hz:vs.length<=sizeLine
   ·rw [if_pos hz] at h;cases eo:compL t c e (caps k idx ρ) vs with
    | exc x=>rw [eo] at h;exact h.elim
    | bad=>rw [eo] at h;exact h.elim
    | ok out =>
     rw [eo] at h;exact fun J H2 s2 it=>⟨vs,out,hz,eo,it,s2,h⟩
   ·rw [if_neg hz] at h;exact h.elim
 refine wpAny_bind (wpAny_mono (wpAny_comprehension_free (use:=some (assign (.Name y py) X.env)) (Q:=fun _ s'=>SP X pins D' .next s') rfl hs ok.clos ok.kind ok.loc ?_) (fun _ s' hq=>wpAny_pure (wpAny_pure hq)) fun _ _ z=>z)
 refine thn (hi pins s σ H _ I ⟨W,ρ,er,hfin⟩) fun v s1 h1=>thn h1 fun itv s2 h2=>?_
 obtain ⟨it,fp,tn,J,H2,rfl,I2,T,st2,f2,vs,out,hz,ho,hit,s02,q⟩:=h2;have hfp2:∀ b∈fp,b<s2.heap.objs.size:=fun b hb=>by
  obtain ⟨o,e1,_⟩:=T.obj 0 _ st2 b hb;exact Heap.lt_size e1
 refine wpAny_newObj_type ?_;have I3:L2.Inv X pins σ (upd H2 s2.heap.objs.size (.lst [])) {s2 with heap:=s2.heap.push {cls:=.type "list",data:=.seq ([]:List Value).toArray}}:=I2.lnew (t':=s2.toks) (its:=[]) .nil (Nat.zero_le _)
 have hn2:H2 s2.heap.objs.size=none:=I2.fresh;generalize hs3:({s2 with heap:=s2.heap.push {cls:=.type "list",data:=.seq ([]:List Value).toArray}}:Shared)=s3 at *
 have k23:∀ b o,s2.heap.get? b=some o->s3.heap.get? b=some o:=fun b o e=>by rw [<- hs3];exact Heap.get?_push_of_some _ e
 have sz3:s3.heap.objs.size=s2.heap.objs.size+1:=by rw [<- hs3];exact Heap.size_push ..
 generalize hD:s2.heap.objs.size=D at *;have neD:∀ b,b<D->b≠D:=fun b hb=>Nat.ne_of_lt hb
 have hfp3:∀ b∈fp,FpOk X pins (upd H2 D (.lst [])) b/\b<s3.heap.objs.size:=fun b hb=>by
  obtain ⟨a0,a1⟩:=f2 b hb;exact ⟨⟨by rw [upd_ne (neD b (hfp2 b hb))];exact a0,a1⟩,by rw [sz3];exact Nat.lt_succ_of_lt (hfp2 b hb)⟩
 show wpAny _ _ (newFunctionEnv scope X.env.globals cl [] X.env.qual none .none (some X.env)) _ _ s3;refine wpAny_newFunctionEnv_blk ?_;have hblk:=blk_cells s3 scope.names;have hns:=(Heap.Ns.new s3.heap (.type "dict")).keeps (pushCells_keeps scope.names _);have k34:∀ b o,s3.heap.get? b=some o->(pushCells (s3.heap.push {cls:=.type "dict",data:=.dict #[]}) scope.names).get? b=some o:=fun b o e=>pushCells_keeps _ _ b o (Heap.get?_push_of_some _ e)
 generalize pushCells (s3.heap.push {cls:=.type "dict",data:=.dict #[]}) scope.names=h4 at hblk hns k34 ⊢;have J0:=inv_comp (t:=s3.toks) ok I3 hfp3 hns k34 hblk;have er2:=er.mono s02;have sD:Same H2 (upd H2 D (.lst [])):=upd_new hn2;have nWD:¬ W D:=er2.new hn2;have hGs:Same (hid W H2) (hid (fun a=>W a\/a=D) (upd H2 D (.lst []))):=fun b o z=>by
  have z1:=hid_sub b o z;have hb:b≠D:=fun y=>by rw [y,hn2] at z1;cases z1
  unfold hid at z ⊢
  split at z
  ·cases z
  ·rename_i nb
   rw [if_neg (fun y=>y.elim nb hb),upd_ne hb];exact z1
 have erC:=er_caps (k:=k) (idx:=idx) er2 hGs (fun a wa=>by
  rcases wa with wa | rfl
  ·by_cases ha:a=D
   ·rw [ha,upd_same];simp
   ·rw [upd_ne ha];exact er2.trk a wa
  ·rw [upd_same];simp)
 have st4:tn 0 h4:=T.keep _ _ _ st2 fun b hb o e=>k34 b o (k23 b o e)
 have loop:∀ s4:Shared,s4={s3 with heap:=h4,toks:=s3.toks} ->
   codeAny (model X.prog X.w) X.A (.compLoop (.ListComp elt [⟨tg,iter,ifs,0⟩] scope pos) 0 (.ref it) (.ref D) (compEnvC scope (cellsFrom (s3.heap.objs.size+1) scope.names cl) s3.heap.objs.size X.env)) (compPost (model X.prog X.w) X.A X.xe (some (assign (.Name y py) X.env)) (fun _ s'=>SP X pins D' .next s') (.ref D) s3.heap.objs.size) s4:=by
  rintro s4 rfl;refine comp_loop (W:=fun a=>W a\/a=D) (G:=hid W H2) hcalm T (hg _ _ _ _ _) (hif _ _ _ _ _) (he _ _ _ _ _) J0 st4 (fun b hb=>(hfp3 b hb).1.1) upd_same (.inr rfl) erC (hw ρ) caps_val hGs hit hz ho ?_
  intro s' σ' H' ys Jn hDn hys same;obtain ⟨m',hn',_⟩:=Jn.loc;have fin0:=comp_back I3 hfp3 Jn (Heap.SameBut.refl _ _);have sH:Same H H':=fun b o z=>by
   have z2:=s02 b o z;have hb:b≠D:=fun y=>by rw [y,hn2] at z2;cases z2
   exact same b o hb (sD b o z2)
  have lift:Same (hid (fun a=>W a\/a=D) H') (hid W H'):=hid_mono fun a wa=>.inl wa
  have hQ:D'.nx (σ.set i (some (.ref D))) H':=q _ H' sH (Rep.lst (.inl (.inl (hid_some nWD hDn))) (hys.mono lift));have hCl:X.env.locals<s3.heap.objs.size:=by
   obtain ⟨m3,⟨o3,_,_,ho3,_⟩,_⟩:=I3.loc;exact Heap.lt_size ho3
  have hCc:∀ x c,X.env.cells.lookup x=some c->c<s3.heap.objs.size:=fun x c ec=>by
   obtain ⟨v3,o3,ho3,_⟩:=I3.cell x c ec;exact Heap.lt_size ho3
  show wpAny (model X.prog X.w) X.A (assign (.Name y py) X.env (.ref D)) _ _ s';refine wpAny_assign_Name (store_ok2 fin0 hN hyi hyx (v:=.ref D) rfl (fun s'' I'' ⟨a,sa,ha⟩=>?_) hyf);have neC:a≠s3.heap.objs.size:=by
   rcases ha with rfl | ha
   ·exact Nat.ne_of_lt hCl
   ·exact Nat.ne_of_lt (hCc _ _ ha)
  obtain ⟨oC,esC,epC,hoC,rC⟩:=hn';refine ⟨m',⟨oC,esC,epC,sa.extBut _ _ (Ne.symm neC) hoC,rC⟩,fun h'' hsb''=>?_⟩
  refine ⟨σ.set i (some (.ref D)),H',?_,hQ⟩;have Jf:H' s3.heap.objs.size=none:=Jn.free;exact I''.turned (t':=s''.toks) (it:=s3.heap.objs.size) (fun b o hb ho=>hsb''.extBut b o hb ho) Jf (Nat.ne_of_gt hCl) (.inr I3.sz) (fun x c ec=>Nat.ne_of_lt (hCc x c ec)) fun p hp=>by
   obtain ⟨ep,_⟩:=I3.pin p hp;exact Nat.ne_of_lt (Heap.lt_size ep)
 exact codeAny_compStart_list (loop _ rfl) (T.self _ 0 _ _ _ st4 (loop _ rfl))
end
end Pu
namespace Pd
abbrev W:=List Bool
def pl (a b:W):W:=List.zipWith (fun x y=>x^^y) a b
def zr (n:Nat):W:=List.replicate n false
def bt (w:W) (i:Nat):Bool:=w.getD i false
def hd (w:W):Nat:=w.idxOf true
theorem pl_length {n:Nat} {a b:W} (ha:a.length=n) (hb:b.length=n):(pl a b).length=n:=by
 simp [pl,ha,hb]
theorem zr_length (n:Nat):(zr n).length=n:=by simp [zr]
theorem bt_zr (n i:Nat):bt (zr n) i=false:=by
 simp [bt,zr,List.getD]
 by_cases h:i<n
 ·simp [h]
 ·simp [h]
theorem bt_nil (i:Nat):bt [] i=false:=by simp [bt]
theorem bt_cons_zero (x:Bool) (w:W):bt (x::w) 0=x:=by simp [bt]
theorem bt_cons_succ (x:Bool) (w:W) (i:Nat):bt (x::w) (i+1)=bt w i:=by simp [bt]
theorem bt_of_le {w:W} {i:Nat} (h:w.length<=i):bt w i=false:=by
 simp [bt,List.getD,h]
theorem bt_eq {w:W} {i:Nat} (h:i<w.length):bt w i=w[i]:=by
 simp [bt,List.getD,h]
theorem bt_pl {a b:W} (h:a.length=b.length) (i:Nat):bt (pl a b) i=(bt a i^^bt b i):=by
 induction a generalizing b i with
 | nil=>cases b with
  | nil=>simp [pl,bt]
  | cons y b=>simp at h
 | cons x a ih=>cases b with
  | nil=>simp at h
  | cons y b =>
   simp at h;cases i with
   | zero=>simp [pl,bt]
   | succ i =>
    have:=ih h i;simpa [pl,bt] using this
theorem ext {a b:W} (h:a.length=b.length) (hb:∀ i,bt a i=bt b i):a=b:=by
 apply List.ext_getElem h;intro i h1 h2;have:=hb i;rw [bt_eq h1,bt_eq h2] at this;exact this
theorem pl_comm (a b:W):pl a b=pl b a:=by
 unfold pl;rw [List.zipWith_comm];congr 1;funext x y;exact Bool.xor_comm y x
theorem pl_assoc {n:Nat} {a b c:W} (ha:a.length=n) (hb:b.length=n) (hc:c.length=n):pl (pl a b) c=pl a (pl b c):=by
 have h1:=pl_length ha hb;have h2:=pl_length hb hc;apply ext
 ·rw [pl_length h1 hc,pl_length ha h2]
 ·intro i;rw [bt_pl (by rw [h1,hc]),bt_pl (by rw [ha,hb]),bt_pl (by rw [ha,h2]),bt_pl (by rw [hb,hc]),Bool.xor_assoc]
theorem pl_self {n:Nat} {a:W} (ha:a.length=n):pl a a=zr n:=by
 apply ext
 ·rw [pl_length ha ha,zr_length]
 ·intro i;rw [bt_pl rfl,bt_zr,Bool.xor_self]
theorem pl_zr {n:Nat} {a:W} (ha:a.length=n):pl a (zr n)=a:=by
 apply ext
 ·rw [pl_length ha (zr_length n),ha]
 ·intro i;rw [bt_pl (by rw [ha,zr_length]),bt_zr,Bool.xor_false]
theorem zr_pl {n:Nat} {a:W} (ha:a.length=n):pl (zr n) a=a:=by
 rw [pl_comm,pl_zr ha]
theorem pl_cancel {n:Nat} {a b:W} (ha:a.length=n) (hb:b.length=n):pl (pl a b) b=a:=by
 rw [pl_assoc ha hb hb,pl_self hb,pl_zr ha]
theorem pl_inj {n:Nat} {a b c:W} (ha:a.length=n) (hb:b.length=n) (hc:c.length=n) (h:pl a c=pl b c):a=b:=by
 rw [<- pl_cancel ha hc,<- pl_cancel hb hc,h]
theorem eq_of_pl_zr {n:Nat} {a b:W} (ha:a.length=n) (hb:b.length=n) (h:pl a b=zr n):a=b:=by
 apply pl_inj ha hb hb;rw [h,pl_self hb]
theorem eq_zr_iff {n:Nat} {a:W} (ha:a.length=n):a=zr n↔true∉a:=by
 constructor
 ·rintro rfl h;simp [zr] at h
 ·intro h;apply List.ext_getElem (by rw [ha,zr_length]);intro i h1 h2;have:a[i]∈a:=List.getElem_mem h1;cases e:a[i] with
  | true=>rw [e] at this;exact absurd this h
  | false=>simp [zr]
theorem hd_lt {w:W} (h:true∈w):hd w<w.length:=List.idxOf_lt_length_of_mem h
theorem bt_hd {w:W} (h:true∈w):bt w (hd w)=true:=by
 rw [bt_eq (hd_lt h)];exact List.getElem_idxOf (hd_lt h)
theorem bt_lt_hd {w:W} {i:Nat} (h:i<hd w):bt w i=false:=by
 induction w generalizing i with
 | nil=>simp [bt]
 | cons x w ih =>
  cases x with
  | true=>simp [hd] at h
  | false =>
   have e:hd (false::w)=hd w+1:=by simp [hd,List.idxOf_cons]
   rw [e] at h;cases i with
   | zero=>simp [bt]
   | succ i=>rw [bt_cons_succ];exact ih (by lia)
theorem mem_of_bt {w:W} {i:Nat} (h:bt w i=true):true∈w:=by
 by_cases hi:i<w.length
 ·rw [bt_eq hi] at h;rw [<- h];exact List.getElem_mem hi
 ·rw [bt_of_le (by lia)] at h;cases h
theorem hd_le_of_bt {w:W} {i:Nat} (h:bt w i=true):hd w<=i:=by
 apply Nat.le_of_not_lt;intro hi;rw [bt_lt_hd hi] at h;cases h
theorem hd_eq {w:W} {i:Nat} (h:bt w i=true) (hz:∀ j,j<i->bt w j=false):hd w=i:=by
 have h1:=hd_le_of_bt h;apply Nat.le_antisymm h1;apply Nat.le_of_not_lt;intro h2;have:=hz _ h2;rw [bt_hd (mem_of_bt h)] at this;cases this
def All (n:Nat) (ws:List W):Prop:=∀ w∈ws,w.length=n
inductive Sp (n:Nat) (ws:List W):W->Prop
 | zero:Sp n ws (zr n)
 | add {w v:W}:w∈ws->Sp n ws v->Sp n ws (pl v w)
theorem Sp.length {n:Nat} {ws:List W} (ha:All n ws) {v:W} (h:Sp n ws v):v.length=n:=by
 induction h with
 | zero=>exact zr_length n
 | add hw _ ih=>exact pl_length ih (ha _ hw)
theorem Sp.of_mem {n:Nat} {ws:List W} (ha:All n ws) {w:W} (h:w∈ws):Sp n ws w:=by
 have:=Sp.add (n:=n) h Sp.zero
 rwa [zr_pl (ha w h)] at this
theorem Sp.plus {n:Nat} {ws:List W} (ha:All n ws) {u v:W} (hu:Sp n ws u) (hv:Sp n ws v):Sp n ws (pl u v):=by
 induction hv with
 | zero=>rw [pl_zr (hu.length ha)];exact hu
 | add hw hv ih =>
  rw [<- pl_assoc (hu.length ha) (hv.length ha) (ha _ hw)];exact .add hw ih
theorem Sp.mono {n:Nat} {ws us:List W} (hu:All n us) (h:∀ w∈ws,Sp n us w) {v:W} (hv:Sp n ws v):Sp n us v:=by
 induction hv with
 | zero=>exact .zero
 | add hw _ ih=>exact ih.plus hu (h _ hw)
theorem Sp.sub {n:Nat} {ws us:List W} (h:∀ w∈ws,w∈us) {v:W} (hv:Sp n ws v):Sp n us v:=by
 induction hv with
 | zero=>exact .zero
 | add hw _ ih=>exact .add (h _ hw) ih
structure Lin (n:Nat) (V:W->Prop):Prop where
 len:∀ v,V v->v.length=n
 zero:V (zr n)
 plus:∀ u v,V u->V v->V (pl u v)
structure Rows (n:Nat) (rows:List W):Prop where
 len:All n rows
 one:∀ r∈rows,true∈r
 ord:rows.Pairwise fun r s=>hd r<hd s
 off:∀ r∈rows,∀ s∈rows,hd r≠hd s->bt s (hd r)=false
def stp (w r:W):W:=if bt w (hd r) then pl w r else w
def rest (rows:List W) (w:W):W:=rows.foldl stp w
theorem stp_length {n:Nat} {w r:W} (hw:w.length=n) (hr:r.length=n):(stp w r).length=n:=by
 unfold stp;split
 ·exact pl_length hw hr
 ·exact hw
theorem rest_length {n:Nat} {rows:List W} (ha:All n rows) {w:W} (hw:w.length=n):(rest rows w).length=n:=by
 induction rows generalizing w with
 | nil=>exact hw
 | cons r rows ih=>exact ih (fun x hx=>ha x (List.mem_cons_of_mem _ hx)) (stp_length hw (ha r List.mem_cons_self))
theorem rest_cons (r:W) (rows:List W) (w:W):rest (r::rows) w=rest rows (stp w r):=rfl
theorem stp_pl {n:Nat} {a b r:W} (ha:a.length=n) (hb:b.length=n) (hr:r.length=n):stp (pl a b) r=pl (stp a r) (stp b r):=by
 unfold stp;rw [bt_pl (by rw [ha,hb])];cases bt a (hd r)<;>cases bt b (hd r)<;>simp
 ·rw [pl_assoc ha hb hr]
 ·rw [pl_assoc ha hb hr,pl_comm b r,<- pl_assoc ha hr hb]
 ·rw [pl_comm b r,<- pl_assoc (pl_length ha hr) hr hb,pl_cancel ha hr]
theorem rest_pl {n:Nat} {rows:List W} (hr:All n rows) {a b:W} (ha:a.length=n) (hb:b.length=n):rest rows (pl a b)=pl (rest rows a) (rest rows b):=by
 induction rows generalizing a b with
 | nil=>rfl
 | cons r rows ih =>
  have h1:=hr r List.mem_cons_self;rw [rest_cons,rest_cons,rest_cons,stp_pl ha hb h1];exact ih (fun x hx=>hr x (List.mem_cons_of_mem _ hx)) (stp_length ha h1) (stp_length hb h1)
theorem rest_zr {n:Nat} (rows:List W):rest rows (zr n)=zr n:=by
 induction rows with
 | nil=>rfl
 | cons r rows ih=>rw [rest_cons];simpa [stp,bt_zr] using ih
theorem rest_same {rows:List W} {w:W} (h:∀ r∈rows,bt w (hd r)=false):rest rows w=w:=by
 induction rows with
 | nil=>rfl
 | cons r rows ih =>
  rw [rest_cons];have:stp w r=w:=by unfold stp;rw [h r List.mem_cons_self];rfl
  rw [this];exact ih fun x hx=>h x (List.mem_cons_of_mem _ hx)
theorem rest_sp {n:Nat} {rows:List W} (hr:All n rows) {w:W} (hw:w.length=n):Sp n rows (pl w (rest rows w)):=by
 have key:∀ (l:List W) (u:W),(∀ x∈l,x∈rows)->u.length=n->Sp n rows (pl u (rest l u)):=by
  intro l
  induction l with
  | nil=>intro u _ hu;show Sp n rows (pl u u);rw [pl_self hu];exact .zero
  | cons r l ih =>
   intro u hl hu;have hrl:=hr r (hl r List.mem_cons_self);rw [rest_cons];have h2:=ih (stp u r) (fun x hx=>hl x (List.mem_cons_of_mem _ hx)) (stp_length hu hrl)
   by_cases hb:bt u (hd r)=true
   ·have e:stp u r=pl u r:=by unfold stp;rw [hb];rfl
    rw [e] at h2 ⊢;have h3:=h2.add (hl r List.mem_cons_self);have hrest:(rest l (pl u r)).length=n:=rest_length (fun x hx=>hr x (hl x (List.mem_cons_of_mem _ hx))) (pl_length hu hrl)
    have e2:pl (pl (pl u r) (rest l (pl u r))) r=pl u (rest l (pl u r)):=by
     rw [pl_assoc (pl_length hu hrl) hrest hrl,pl_comm (rest l (pl u r)) r,<- pl_assoc (pl_length hu hrl) hrl hrest,pl_cancel hu hrl]
    rwa [e2] at h3
   ·have e:stp u r=u:=by unfold stp;simp [hb]
    rw [e] at h2 ⊢;exact h2
 exact key rows w (fun _ h=>h) hw
section
variable {n:Nat} {rows:List W}
theorem Rows.tail {r:W} (h:Rows n (r::rows)):Rows n rows :=
 ⟨fun x hx=>h.len x (List.mem_cons_of_mem _ hx),fun x hx=>h.one x (List.mem_cons_of_mem _ hx),(List.pairwise_cons.mp h.ord).2,fun a ha b hb=>h.off a (List.mem_cons_of_mem _ ha) b (List.mem_cons_of_mem _ hb)⟩
theorem Rows.inj (h:Rows n rows) {r s:W} (hr:r∈rows) (hs:s∈rows) (e:hd r=hd s):r=s:=by
 have:=h.ord
 induction rows with
 | nil=>cases hr
 | cons x rows ih =>
  obtain ⟨h1,h2⟩:=List.pairwise_cons.mp this
  rcases List.mem_cons.mp hr with hr' | hr'<;>rcases List.mem_cons.mp hs with hs' | hs'
  ·rw [hr',hs']
  ·have:=h1 s hs';rw [hr'] at e;lia
  ·have:=h1 r hr';rw [hs'] at e;lia
  ·exact ih h.tail hr' hs' h2
theorem Rows.bits (h:Rows n rows) {r s:W} (hr:r∈rows) (hs:s∈rows):bt s (hd r)=decide (s=r):=by
 by_cases e:s=r
 ·subst e;rw [bt_hd (h.one s hs)];simp
 ·rw [h.off r hr s hs fun q=>e (h.inj hs hr q.symm)];simp [e]
theorem rest_off (h:Rows n rows) {w:W} (hw:w.length=n):∀ r∈rows,bt (rest rows w) (hd r)=false:=by
 induction rows generalizing w with
 | nil=>intro r hr;cases hr
 | cons x rows ih =>
  have hx:=h.len x List.mem_cons_self;intro r hr;rw [rest_cons]
  rcases List.mem_cons.mp hr with rfl | hr
  ·
   have h0:bt (stp w r) (hd r)=false:=by
    unfold stp;cases e:bt w (hd r) with
    | true=>simp only [if_true];rw [bt_pl (by rw [hw,hx]),e,bt_hd (h.one r List.mem_cons_self)];rfl
    | false=>simp only [Bool.false_eq_true,if_false];exact e
   have key:∀ (l:List W) (u:W),(∀ y∈l,y∈rows)->u.length=n->bt u (hd r)=false->bt (rest l u) (hd r)=false:=by
    intro l
    induction l with
    | nil=>intro u _ _ hu;exact hu
    | cons y l ih2 =>
     intro u hl hul hu;have hy:=hl y List.mem_cons_self;have hyl:=h.len y (List.mem_cons_of_mem _ hy);rw [rest_cons];refine ih2 _ (fun z hz=>hl z (List.mem_cons_of_mem _ hz)) (stp_length hul hyl) ?_
     have hne:hd r≠hd y:=Nat.ne_of_lt ((List.pairwise_cons.mp h.ord).1 y hy);unfold stp
     split
     ·rw [bt_pl (by rw [hul,hyl]),hu,h.off r List.mem_cons_self y (List.mem_cons_of_mem _ hy) hne];rfl
     ·exact hu
   exact key rows _ (fun _ hy=>hy) (stp_length hw hx) h0
  ·exact ih h.tail (stp_length hw hx) r hr
theorem rest_row (h:Rows n rows) {r:W} (hr:r∈rows):rest rows r=zr n:=by
 have h1:=rest_sp h.len (h.len r hr);have key:∀ (l:List W),l.Pairwise (fun r s=>hd r<hd s)->(∀ x∈l,x∈rows)->r∈l->rest l r=zr n:=by
  intro l
  induction l with
  | nil=>intro _ _ hm;cases hm
  | cons x l ih =>
   intro hp hl hm;obtain ⟨hp1,hp2⟩:=List.pairwise_cons.mp hp;rw [rest_cons]
   by_cases e:x=r
   ·subst e;have:stp x x=zr n:=by unfold stp;rw [bt_hd (h.one x hr)];simp only [if_true];exact pl_self (h.len x hr)
    rw [this,rest_zr]
   ·have hm':r∈l:=by
     rcases List.mem_cons.mp hm with q | q
     ·exact absurd q.symm e
     ·exact q
    have hb:bt r (hd x)=false:=h.off x (hl x List.mem_cons_self) r hr (Nat.ne_of_lt (hp1 r hm'));have:stp r x=r:=by unfold stp;rw [hb];rfl
    rw [this];exact ih hp2 (fun y hy=>hl y (List.mem_cons_of_mem _ hy)) hm'
 exact key rows h.ord (fun _ hx=>hx) hr
theorem rest_of_sp (h:Rows n rows) {v:W} (hv:Sp n rows v):rest rows v=zr n:=by
 induction hv with
 | zero=>exact rest_zr rows
 | add hw hv ih=>rw [rest_pl h.len (hv.length h.len) (h.len _ hw),ih,rest_row h hw,pl_self (zr_length n)]
theorem sp_iff (h:Rows n rows) {w:W} (hw:w.length=n):Sp n rows w↔rest rows w=zr n:=by
 constructor
 ·exact rest_of_sp h
 ·intro e;have:=rest_sp h.len hw
  rwa [e,pl_zr hw] at this
theorem Rows.zero_of (h:Rows n rows) {v:W} (hv:Sp n rows v) (hz:∀ r∈rows,bt v (hd r)=false):v=zr n:=by
 rw [<- rest_same hz,rest_of_sp h hv]
theorem Rows.told (h:Rows n rows) {u v:W} (hu:Sp n rows u) (hv:Sp n rows v) (e:∀ r∈rows,bt u (hd r)=bt v (hd r)):u=v:=by
 apply eq_of_pl_zr (hu.length h.len) (hv.length h.len);apply h.zero_of (hu.plus h.len hv);intro r hr;rw [bt_pl (by rw [hu.length h.len,hv.length h.len]),e r hr,Bool.xor_self]
theorem Rows.head_in (h:Rows n rows) {v:W} (hv:Sp n rows v) (h1:true∈v):∃ r∈rows,hd r=hd v:=by
 have key:∀ (l:List W),l.Pairwise (fun r s=>hd r<hd s)->(∀ x∈l,x∈rows)->∀ u:W,u.length=n->rest l u=zr n->true∈u->∃ r∈l,hd r=hd u:=by
  intro l
  induction l with
  | nil=>intro _ _ u hu e hm;have e':u=zr n:=e;exact absurd hm ((eq_zr_iff hu).mp e')
  | cons x l ih =>
   intro hp hl u hu e hm;obtain ⟨hp1,hp2⟩:=List.pairwise_cons.mp hp;have hx:=hl x List.mem_cons_self;have hxl:=h.len x hx;rw [rest_cons] at e;cases hb:bt u (hd x) with
   | false =>
    have e2:stp u x=u:=by unfold stp;rw [hb];rfl
    rw [e2] at e;obtain ⟨r,hr,q⟩:=ih hp2 (fun y hy=>hl y (List.mem_cons_of_mem _ hy)) u hu e hm
    exact ⟨r,List.mem_cons_of_mem _ hr,q⟩
   | true =>
    have e2:stp u x=pl u x:=by unfold stp;rw [hb];rfl
    rw [e2] at e;have hle:=hd_le_of_bt hb
    rcases Nat.lt_or_eq_of_le hle with hlt | heq
    ·
     have hbu:bt (pl u x) (hd u)=true:=by
      rw [bt_pl (by rw [hu,hxl]),bt_hd hm,bt_lt_hd hlt];rfl
     have hhd:hd (pl u x)=hd u:=hd_eq hbu fun j hj=>by
      rw [bt_pl (by rw [hu,hxl]),bt_lt_hd hj,bt_lt_hd (by lia)];rfl
     obtain ⟨r,hr,q⟩:=ih hp2 (fun y hy=>hl y (List.mem_cons_of_mem _ hy)) (pl u x) (pl_length hu hxl) e (mem_of_bt hbu)
     exact ⟨r,List.mem_cons_of_mem _ hr,by rw [q,hhd]⟩
    ·exact ⟨x,List.mem_cons_self,heq.symm⟩
 exact key rows h.ord (fun _ hx=>hx) v (hv.length h.len) (rest_of_sp h hv) h1
end
end Pd
namespace Pd
def wlt:W->W->Bool
 | [],[]=>false
 | [],_::_=>true
 | _::_,[]=>false
 | x::a,y::b=>if x=y then wlt a b else (!x&&y)
theorem wlt_irrefl (a:W):wlt a a=false:=by
 induction a with
 | nil=>rfl
 | cons x a ih=>simp [wlt,ih]
theorem wlt_trans {a b c:W} (h1:wlt a b=true) (h2:wlt b c=true):wlt a c=true:=by
 induction a generalizing b c with
 | nil=>cases c with
  | nil=>cases b<;>simp [wlt] at h2
  | cons=>rfl
 | cons x a ih=>cases b with
  | nil=>simp [wlt] at h1
  | cons y b=>cases c with
   | nil=>simp [wlt] at h2
   | cons z c =>
    simp only [wlt] at h1 h2 ⊢;cases x<;>cases y<;>cases z<;>simp_all
    ·exact ih h1 h2
    ·exact ih h1 h2
theorem wlt_total {a b:W}:wlt a b=true\/a=b\/wlt b a=true:=by
 induction a generalizing b with
 | nil=>cases b<;>simp [wlt]
 | cons x a ih=>cases b with
  | nil=>simp [wlt]
  | cons y b =>
   rcases @ih b with h | h | h<;>cases x<;>cases y<;>simp [wlt,h]
theorem wlt_asymm {a b:W} (h:wlt a b=true):wlt b a=false:=by
 cases e:wlt b a with
 | false=>rfl
 | true=>have:=wlt_trans h e;rw [wlt_irrefl] at this;cases this
def wle (a b:W):Bool:=!wlt b a
theorem wle_trans (a b c:W) (h1:wle a b=true) (h2:wle b c=true):wle a c=true:=by
 simp only [wle,Bool.not_eq_true'] at *;cases e:wlt c a with
 | false=>rfl
 | true =>
  rcases wlt_total (a:=a) (b:=b) with h | h | h
  ·have:=wlt_trans e h;rw [h2] at this;cases this
  ·subst h;rw [h2] at e;cases e
  ·rw [h1] at h;cases h
theorem wle_total (a b:W):(wle a b||wle b a)=true:=by
 simp only [wle,Bool.or_eq_true,Bool.not_eq_true'];cases e:wlt b a with
 | false=>exact .inl rfl
 | true=>exact .inr (wlt_asymm e)
theorem wle_antisymm {a b:W} (h1:wle a b=true) (h2:wle b a=true):a=b:=by
 simp only [wle,Bool.not_eq_true'] at *
 rcases wlt_total (a:=a) (b:=b) with h | h | h
 ·rw [h2] at h;cases h
 ·exact h
 ·rw [h1] at h;cases h
theorem wlt_of_hd {a b:W} (hl:a.length=b.length) (h1:true∈a) (h:hd a<hd b):wlt b a=true:=by
 induction a generalizing b with
 | nil=>cases h1
 | cons x a ih=>cases b with
  | nil=>simp at hl
  | cons y b =>
   cases y with
   | true=>simp [hd] at h
   | false =>
    cases x with
    | true=>simp [wlt]
    | false =>
     have e1:hd (false::a)=hd a+1:=by simp [hd,List.idxOf_cons]
     have e2:hd (false::b)=hd b+1:=by simp [hd,List.idxOf_cons]
     simp only [wlt,if_true];exact ih (by simpa using hl) (by simpa using h1) (by lia)
def srt (l:List W):List W:=l.mergeSort wle
def srtD (l:List W):List W:=l.mergeSort fun a b=>wle b a
theorem srt_perm (l:List W):(srt l).Perm l:=List.mergeSort_perm l _
theorem srt_ord (l:List W):(srt l).Pairwise fun a b=>wle a b=true:=List.pairwise_mergeSort wle_trans wle_total l
theorem srtD_perm (l:List W):(srtD l).Perm l:=List.mergeSort_perm l _
theorem srtD_ord (l:List W):(srtD l).Pairwise fun a b=>wle b a=true:=List.pairwise_mergeSort (fun a b c h1 h2=>wle_trans c b a h2 h1) (fun a b=>wle_total b a) l
theorem perm_unique {α:Type} {le:α->α->Prop} (anti:∀ a b,le a b->le b a->a=b):∀ {l₁ l₂:List α},l₁.Perm l₂->l₁.Pairwise le->l₂.Pairwise le->l₁=l₂
 | [],l₂,hp,_,_=>(List.Perm.eq_nil hp.symm).symm
 | a::l₁,[],hp,_,_=>absurd (List.Perm.eq_nil hp) (by simp)
 | a::l₁,b::l₂,hp,h1,h2=>by
  have hab:a=b:=by
   have ha:a∈b::l₂:=hp.subset List.mem_cons_self;have hb:b∈a::l₁:=hp.symm.subset List.mem_cons_self
   rcases List.mem_cons.mp ha with e | ha
   ·exact e
   ·rcases List.mem_cons.mp hb with e | hb
    ·exact e.symm
    ·exact anti a b ((List.pairwise_cons.mp h1).1 b hb) ((List.pairwise_cons.mp h2).1 a ha)
  subst hab;rw [perm_unique anti (List.Perm.cons_inv hp) (List.pairwise_cons.mp h1).2 (List.pairwise_cons.mp h2).2]
theorem srt_unique {l l':List W} (hp:l'.Perm l) (ho:l'.Pairwise fun a b=>wle a b=true):l'=srt l :=
 perm_unique (le:=fun a b=>wle a b=true) (fun _ _=>wle_antisymm) (hp.trans (srt_perm l).symm) ho (srt_ord l)
theorem eq_of_mem {l l':List W} (n1:l.Nodup) (n2:l'.Nodup) (h:∀ w,w∈l↔w∈l'):srt l=srt l':=by
 have hp:l.Perm l':=by
  rw [List.perm_ext_iff_of_nodup n1 n2];exact h
 exact srt_unique ((srt_perm l).trans hp) (srt_ord l)
def clr (r x:W):W:=if bt x (hd r) then pl x r else x
def ww (rows:List W) (w:W):List W :=
 let r:=rest rows w
 if true∈r then srtD (rows.map (clr r)++[r]) else rows
section
variable {n:Nat} {rows:List W}
theorem clr_length {r x:W} (hr:r.length=n) (hx:x.length=n):(clr r x).length=n:=by
 unfold clr;split
 ·exact pl_length hx hr
 ·exact hx
theorem ww_rows (h:Rows n rows) {w:W} (hw:w.length=n):Rows n (ww rows w):=by
 unfold ww;have hrl:=rest_length h.len hw;have hoff:=rest_off h hw;generalize rest rows w=r at *;dsimp only
 split
 case isFalse=>exact h
 case isTrue hr =>
 have hbr:∀ x∈rows,bt x (hd r)=true->hd x<hd r:=fun x hx hb=>by
  have h1:=hd_le_of_bt hb
  rcases Nat.lt_or_eq_of_le h1 with q | q
  ·exact q
  ·have:=hoff x hx;rw [q,bt_hd hr] at this;cases this
 have hbx:∀ x∈rows,∀ j,bt (clr r x) j=(bt x j^^(bt x (hd r)&&bt r j)):=fun x hx j=>by
  unfold clr;cases e:bt x (hd r) with
  | true=>simp only [if_true,Bool.true_and];rw [bt_pl (by rw [h.len x hx,hrl])]
  | false=>simp
 have hhd:∀ x∈rows,hd (clr r x)=hd x:=fun x hx=>by
  have h1:=h.one x hx;apply hd_eq
  ·rw [hbx x hx,bt_hd h1,hoff x hx];simp
  ·intro j hj;rw [hbx x hx,bt_lt_hd hj];cases e:bt x (hd r) with
   | true=>rw [bt_lt_hd (Nat.lt_trans hj (hbr x hx e))];rfl
   | false=>simp
 have hone:∀ x∈rows,true∈clr r x:=fun x hx=>by
  apply mem_of_bt (i:=hd x);rw [hbx x hx,bt_hd (h.one x hx),hoff x hx];simp
 have hdne:∀ x∈rows,hd x≠hd r:=fun x hx q=>by
  have:=hoff x hx;rw [q,bt_hd hr] at this;cases this
 have hmem:∀ y,y∈srtD (rows.map (clr r)++[r])↔(∃ x∈rows,clr r x=y)\/y=r:=fun y=>by
  rw [(srtD_perm _).mem_iff,List.mem_append,List.mem_map,List.mem_singleton]
 have hlen:All n (srtD (rows.map (clr r)++[r])):=fun y hy=>by
  rcases (hmem y).mp hy with ⟨x,hx,rfl⟩ | rfl
  ·exact clr_length hrl (h.len x hx)
  ·exact hrl
 have h1:∀ y∈srtD (rows.map (clr r)++[r]),true∈y:=fun y hy=>by
  rcases (hmem y).mp hy with ⟨x,hx,rfl⟩ | rfl
  ·exact hone x hx
  ·exact hr
 refine ⟨hlen,h1,?_,?_⟩
 ·
  have hne:(rows.map (clr r)++[r]).Pairwise fun a b=>hd a≠hd b:=by
   rw [List.pairwise_append];refine ⟨?_,List.pairwise_singleton _ _,fun a ha b hb=>?_⟩
   ·rw [List.pairwise_map];exact h.ord.imp_of_mem fun {a b} ha hb q=>by rw [hhd a ha,hhd b hb];lia
   ·obtain ⟨x,hx,rfl⟩:=List.mem_map.mp ha;rw [List.mem_singleton.mp hb,hhd x hx];exact hdne x hx
  have hne':(srtD (rows.map (clr r)++[r])).Pairwise fun a b=>hd a≠hd b :=
   (List.Perm.pairwise_iff (fun {a b} q=>Ne.symm q) (srtD_perm _)).mpr hne
  refine ((srtD_ord (rows.map (clr r)++[r])).and hne').imp_of_mem fun {a b} ha hb q=>?_
  obtain ⟨q1,q2⟩:=q
  rcases Nat.lt_trichotomy (hd a) (hd b) with z | z | z
  ·exact z
  ·exact absurd z q2
  ·have:=wlt_of_hd (by rw [hlen a ha,hlen b hb]) (h1 b hb) z;simp only [wle,Bool.not_eq_true'] at q1;rw [q1] at this;cases this
 ·intro a ha b hb hab
  rcases (hmem a).mp ha with ⟨x,hx,rfl⟩ | rfl
  ·rw [hhd x hx] at hab ⊢
   rcases (hmem b).mp hb with ⟨y,hy,rfl⟩ | rfl
   ·rw [hhd y hy] at hab;rw [hbx y hy,h.off x hx y hy hab,hoff x hx];simp
   ·exact hoff x hx
  ·rcases (hmem b).mp hb with ⟨y,hy,rfl⟩ | rfl
   ·rw [hbx y hy,bt_hd hr];simp
   ·exact absurd rfl hab
theorem ww_sp (h:Rows n rows) {w:W} (hw:w.length=n) (v:W):Sp n (ww rows w) v↔Sp n (rows++[w]) v:=by
 have hrl:=rest_length h.len hw;have hsp:=rest_sp h.len hw;have hall:All n (rows++[w]):=fun x hx=>by
  rcases List.mem_append.mp hx with q | q
  ·exact h.len x q
  ·rw [List.mem_singleton.mp q];exact hw
 have hrsp:Sp n (rows++[w]) (rest rows w):=by
  have h1:Sp n (rows++[w]) (pl w (rest rows w)):=hsp.sub fun x hx=>List.mem_append_left _ hx
  have h2:Sp n (rows++[w]) w:=Sp.of_mem hall (List.mem_append_right _ (List.mem_singleton.mpr rfl));have h3:=h1.plus hall h2;rw [pl_comm w,pl_cancel hrl hw] at h3;exact h3
 have hR:=ww_rows h hw;unfold ww at hR ⊢;generalize hr0:rest rows w=r at *;dsimp only at hR ⊢
 split
 case isFalse hr =>
  have e:r=zr n:=(eq_zr_iff hrl).mpr hr;rw [e,pl_zr hw] at hsp
  constructor
  ·exact Sp.sub fun x hx=>List.mem_append_left _ hx
  ·refine Sp.mono h.len fun x hx=>?_
   rcases List.mem_append.mp hx with q | q
   ·exact Sp.of_mem h.len q
   ·rw [List.mem_singleton.mp q];exact hsp
 case isTrue hr =>
 rw [if_pos hr] at hR;have hmem:∀ y,y∈srtD (rows.map (clr r)++[r])↔(∃ x∈rows,clr r x=y)\/y=r:=fun y=>by
  rw [(srtD_perm _).mem_iff,List.mem_append,List.mem_map,List.mem_singleton]
 have hrin:Sp n (srtD (rows.map (clr r)++[r])) r:=Sp.of_mem hR.len ((hmem r).mpr (.inr rfl));have hxin:∀ x∈rows,Sp n (srtD (rows.map (clr r)++[r])) x:=fun x hx=>by
  have h1:Sp n (srtD (rows.map (clr r)++[r])) (clr r x):=Sp.of_mem hR.len ((hmem _).mpr (.inl ⟨x,hx,rfl⟩));unfold clr at h1
  by_cases e:bt x (hd r)=true
  ·rw [if_pos e] at h1;have:=h1.plus hR.len hrin
   rwa [pl_cancel (h.len x hx) hrl] at this
  ·rwa [if_neg e] at h1
 constructor
 ·refine Sp.mono hall fun y hy=>?_
  rcases (hmem y).mp hy with ⟨x,hx,rfl⟩ | rfl
  ·have h1:Sp n (rows++[w]) x:=Sp.of_mem hall (List.mem_append_left _ hx);unfold clr
   split
   ·exact h1.plus hall hrsp
   ·exact h1
  ·exact hrsp
 ·refine Sp.mono hR.len fun y hy=>?_
  rcases List.mem_append.mp hy with q | q
  ·exact hxin y q
  ·rw [List.mem_singleton.mp q];have h2:Sp n (srtD (rows.map (clr r)++[r])) (pl w r):=hsp.mono hR.len hxin;have h3:=h2.plus hR.len hrin
   rwa [pl_cancel hw hrl] at h3
def mk (ws:List W):List W:=ws.foldl ww []
theorem rows_nil:Rows n []:=⟨fun _ h=>(by cases h),fun _ h=>(by cases h),.nil,fun _ h=>(by cases h)⟩
theorem mk_all {ws:List W} (hw:All n ws):Rows n (mk ws)/\∀ v,Sp n (mk ws) v↔Sp n ws v:=by
 have key:∀ (ws us:List W) (rows:List W),All n ws->All n us->Rows n rows->(∀ v,Sp n rows v↔Sp n us v)->Rows n (ws.foldl ww rows)/\∀ v,Sp n (ws.foldl ww rows) v↔Sp n (us++ws) v:=by
  intro ws
  induction ws with
  | nil=>intro us rows _ _ h1 h2;rw [List.append_nil];exact ⟨h1,h2⟩
  | cons w ws ih =>
   intro us rows ha hu h1 h2;have hwl:=ha w List.mem_cons_self;have hu':All n (us++[w]):=fun x hx=>by
    rcases List.mem_append.mp hx with q | q
    ·exact hu x q
    ·rw [List.mem_singleton.mp q];exact hwl
   have h3:∀ v,Sp n (ww rows w) v↔Sp n (us++[w]) v:=fun v=>by
    rw [ww_sp h1 hwl];have hr':All n (rows++[w]):=fun x hx=>by
     rcases List.mem_append.mp hx with q | q
     ·exact h1.len x q
     ·rw [List.mem_singleton.mp q];exact hwl
    constructor
    ·refine Sp.mono hu' fun x hx=>?_
     rcases List.mem_append.mp hx with q | q
     ·exact ((h2 x).mp (Sp.of_mem h1.len q)).sub fun y hy=>List.mem_append_left _ hy
     ·exact Sp.of_mem hu' (List.mem_append_right _ q)
    ·refine Sp.mono hr' fun x hx=>?_
     rcases List.mem_append.mp hx with q | q
     ·exact ((h2 x).mpr (Sp.of_mem hu q)).sub fun y hy=>List.mem_append_left _ hy
     ·exact Sp.of_mem hr' (List.mem_append_right _ q)
   have:=ih (us++[w]) (ww rows w) (fun x hx=>ha x (List.mem_cons_of_mem _ hx)) hu' (ww_rows h1 hwl) h3
   rwa [List.append_assoc] at this
 have:=key ws [] [] hw (fun _ h=>(by cases h)) rows_nil fun v=>Iff.rfl
 rwa [List.nil_append] at this
end
end Pd
namespace Pd
theorem perm_of_mem {α:Type} {l l':List α} (n1:l.Nodup) (n2:l'.Nodup) (h:∀ w,w∈l↔w∈l'):l.Perm l':=by
 classical
 induction l generalizing l' with
 | nil =>
  cases l' with
  | nil=>exact .nil
  | cons y _=>exact absurd ((h y).mpr List.mem_cons_self) (by simp)
 | cons x l ih =>
  have hx:x∈l':=(h x).mp List.mem_cons_self;obtain ⟨s,t,rfl⟩:=List.append_of_mem hx;refine List.Perm.trans (List.Perm.cons x (ih (l':=s++t) (List.nodup_cons.mp n1).2 ?_ fun w=>?_)) List.perm_middle.symm
  ·exact (List.nodup_cons.mp (List.perm_middle.nodup_iff.mp n2)).2
  ·have hn:x∉s++t:=(List.nodup_cons.mp (List.perm_middle.nodup_iff.mp n2)).1;have hm:=h w;rw [List.mem_cons,List.mem_append,List.mem_cons] at hm;rw [List.mem_append]
   constructor
   ·intro hw
    rcases hm.mp (.inr hw) with q | q | q
    ·exact .inl q
    ·subst q;exact absurd hw (List.nodup_cons.mp n1).1
    ·exact .inr q
   ·intro hw
    rcases hm.mpr (hw.elim .inl fun q=>.inr (.inr q)) with q | q
    ·subst q;exact absurd (List.mem_append.mpr hw) hn
    ·exact q
theorem filter_one {α:Type} {l:List α} {p:α->Bool} {x:α} (nd:l.Nodup) (hx:x∈l) (h:∀ y∈l,p y=true↔y=x):l.filter p=[x]:=by
 induction l with
 | nil=>cases hx
 | cons y l ih =>
  obtain ⟨h1,h2⟩:=List.nodup_cons.mp nd
  by_cases e:y=x
  ·subst e;have hp:p y=true:=(h y List.mem_cons_self).mpr rfl;rw [List.filter_cons_of_pos hp];congr 1;rw [List.filter_eq_nil_iff];intro z hz hpz;have:=(h z (List.mem_cons_of_mem _ hz)).mp hpz;subst this;exact h1 hz
  ·have hp:¬ p y=true:=fun q=>e ((h y List.mem_cons_self).mp q)
   rw [List.filter_cons_of_neg hp]
   rcases List.mem_cons.mp hx with q | q
   ·exact absurd q.symm e
   ·exact ih h2 q fun z hz=>h z (List.mem_cons_of_mem _ hz)
def hds (n:Nat) (S:List W):List Nat:=(List.range n).filter fun p=>!(S.filter fun w=>decide (true∈w)&&decide (hd w=p)).isEmpty
def lawRows (n:Nat) (S:List W):List W :=
 (List.range (hds n S).length).flatMap fun k=>S.filter fun w=>decide ((hds n S).map (bt w)=(List.range (hds n S).length).map fun j=>decide (j=k))
section
variable {n:Nat} {R S:List W}
theorem Rows.nodup (h:Rows n R):R.Nodup:=h.ord.imp fun {a b} q e=>by subst e;lia
theorem hds_eq (h:Rows n R) (hS:∀ w,w∈S↔Sp n R w):hds n S=R.map hd:=by
 have n1:(hds n S).Pairwise (·<·):=List.Pairwise.filter _ List.pairwise_lt_range;have n2:(R.map hd).Pairwise (·<·):=by rw [List.pairwise_map];exact h.ord
 refine perm_unique (le:=fun a b:Nat=>a<b) (fun a b h1 h2=>by lia) (perm_of_mem (n1.imp fun q=>Nat.ne_of_lt q) (n2.imp fun q=>Nat.ne_of_lt q) fun p=>?_) n1 n2
 unfold hds;rw [List.mem_filter,List.mem_range,List.mem_map];simp only [Bool.not_eq_true',List.isEmpty_eq_false_iff_exists_mem,List.mem_filter,Bool.and_eq_true,decide_eq_true_eq]
 constructor
 ·rintro ⟨_,w,hw,h1,rfl⟩;exact h.head_in ((hS w).mp hw) h1
 ·rintro ⟨r,hr,rfl⟩;have h1:=h.one r hr;refine ⟨?_,r,(hS r).mpr (Sp.of_mem h.len hr),h1,rfl⟩;have:=hd_lt h1
  rwa [h.len r hr] at this
theorem lawRows_eq (h:Rows n R) (nd:S.Nodup) (hS:∀ w,w∈S↔Sp n R w):lawRows n S=R:=by
 unfold lawRows;rw [hds_eq h hS,List.length_map];have key:∀ k (hk:k<R.length),(S.filter fun w=>decide ((R.map hd).map (bt w)=(List.range R.length).map fun j=>decide (j=k)))=[R[k]]:=by
  intro k hk;have hr:R[k]∈R:=List.getElem_mem hk;refine filter_one nd ((hS _).mpr (Sp.of_mem h.len hr)) fun y hy=>?_
  rw [decide_eq_true_eq,List.map_map];have hbits:R.map (bt R[k] ∘ hd)=(List.range R.length).map fun j=>decide (j=k):=by
   apply List.ext_getElem (by simp);intro i h1 h2;rw [List.getElem_map,List.getElem_map,List.getElem_range];have hi:i<R.length:=by simpa using h1
   show bt R[k] (hd R[i])=_;rw [h.bits (List.getElem_mem hi) hr];have nd':=h.nodup
   by_cases e:i=k
   ·subst e;simp
   ·have:R[k]≠R[i]:=fun q=>e ((List.getElem_inj nd').mp q).symm
    simp [this,e]
  constructor
  ·intro e;refine h.told ((hS y).mp hy) (Sp.of_mem h.len hr) fun r hrr=>?_
   obtain ⟨i,hi,rfl⟩:=List.getElem_of_mem hrr;have e2:(R.map (bt y ∘ hd))[i]'(by simpa using hi)=(R.map (bt R[k] ∘ hd))[i]'(by simpa using hi):=by
    have:=e.trans hbits.symm;simp only [this]
   simpa using e2
  ·rintro rfl;exact hbits
 have e1:(List.range R.length).flatMap (fun k=>S.filter fun w=>decide ((R.map hd).map (bt w)=(List.range R.length).map fun j=>decide (j=k)))=(List.range R.length).flatMap (fun k=>[R.getD k []]):=by
  rw [List.flatMap_def,List.flatMap_def];congr 1;apply List.map_congr_left;intro k hk;have hk':=List.mem_range.mp hk;rw [key k hk'];simp [hk']
 rw [e1];rw [List.flatMap_def];have e2:(List.range R.length).map (fun k=>[R.getD k []])=R.map fun r=>[r]:=by
  apply List.ext_getElem (by simp);intro i h1 h2;have hi:i<R.length:=by simpa using h1
  simp [hi]
 rw [e2]
 clear e1 e2 key hS nd h
 induction R with
 | nil=>rfl
 | cons r R ih=>simpa using ih
def sums (n:Nat) (ws:List W):List W:=ws.foldl (fun f w=>if w∈f then f else f++f.map fun x=>pl x w) [zr n]
def sprd (n:Nat) (ws:List W):List W:=srt (sums n ws)
theorem sp_snoc {us:List W} {w:W} (hu:All n us) (hw:w.length=n) (v:W) (hv:v.length=n):Sp n (us++[w]) v↔Sp n us v\/Sp n us (pl v w):=by
 have ha:All n (us++[w]):=fun x hx=>by
  rcases List.mem_append.mp hx with q | q
  ·exact hu x q
  ·rw [List.mem_singleton.mp q];exact hw
 have hwin:Sp n (us++[w]) w:=Sp.of_mem ha (List.mem_append_right _ (List.mem_singleton.mpr rfl))
 constructor
 ·intro h
  clear hv
  induction h with
  | zero=>exact .inl .zero
  | @add x y hx hy ih =>
   have hyl:=hy.length ha
   rcases List.mem_append.mp hx with q | q
   ·have hxl:=hu x q
    rcases ih with z | z
    ·exact .inl (z.add q)
    ·refine .inr ?_;have:=z.add q
     rwa [pl_assoc hyl hw hxl,pl_comm w x,<- pl_assoc hyl hxl hw] at this
   ·rw [List.mem_singleton.mp q]
    rcases ih with z | z
    ·exact .inr (by rw [pl_cancel hyl hw];exact z)
    ·exact .inl z
 ·rintro (h | h)
  ·exact h.sub fun x hx=>List.mem_append_left _ hx
  ·have:=(h.sub fun x hx=>List.mem_append_left [w] hx).plus ha hwin
   rwa [pl_cancel hv hw] at this
theorem sums_all {ws:List W} (hw:All n ws):(sums n ws).Nodup/\∀ v,v∈sums n ws↔Sp n ws v:=by
 have key:∀ (ws us f:List W),All n ws->All n us->f.Nodup->(∀ v,v∈f↔Sp n us v) ->
   (ws.foldl (fun f w=>if w∈f then f else f++f.map fun x=>pl x w) f).Nodup/\∀ v,v∈ws.foldl (fun f w=>if w∈f then f else f++f.map fun x=>pl x w) f↔Sp n (us++ws) v:=by
  intro ws
  induction ws with
  | nil=>intro us f _ _ h1 h2;rw [List.append_nil];exact ⟨h1,h2⟩
  | cons w ws ih =>
   intro us f ha hu h1 h2;have hwl:=ha w List.mem_cons_self;have hu':All n (us++[w]):=fun x hx=>by
    rcases List.mem_append.mp hx with q | q
    ·exact hu x q
    ·rw [List.mem_singleton.mp q];exact hwl
   have hfl:∀ v∈f,v.length=n:=fun v hv=>((h2 v).mp hv).length hu
   rw [List.foldl_cons,show us++w::ws=(us++[w])++ws by simp];refine ih _ _ (fun x hx=>ha x (List.mem_cons_of_mem _ hx)) hu' ?_ fun v=>?_
   ·split
    ·exact h1
    case isFalse hn =>
     rw [List.nodup_append];refine ⟨h1,?_,fun a ha' b hb e=>?_⟩
     ·refine List.pairwise_map.mpr (h1.imp_of_mem fun {a b} ha' hb q e=>q ?_);exact pl_inj (hfl a ha') (hfl b hb) hwl e
     ·subst e;obtain ⟨c,hc,e⟩:=List.mem_map.mp hb;have h3:=((h2 a).mp ha').plus hu ((h2 c).mp hc);have:pl a c=w:=by rw [<- e,pl_comm c w,pl_cancel hwl (hfl c hc)]
      rw [this] at h3;exact hn ((h2 w).mpr h3)
   ·split
    case isTrue hin =>
     constructor
     ·intro hv;exact ((h2 v).mp hv).sub fun x hx=>List.mem_append_left _ hx
     ·intro hv;refine (h2 v).mpr (hv.mono hu fun x hx=>?_)
      rcases List.mem_append.mp hx with q | q
      ·exact Sp.of_mem hu q
      ·rw [List.mem_singleton.mp q];exact (h2 w).mp hin
    case isFalse hn =>
     rw [List.mem_append,List.mem_map]
     constructor
     ·rintro (hv | ⟨c,hc,rfl⟩)
      ·exact ((h2 v).mp hv).sub fun x hx=>List.mem_append_left _ hx
      ·exact (((h2 c).mp hc).sub fun x hx=>List.mem_append_left _ hx).add (List.mem_append_right _ (List.mem_singleton.mpr rfl))
     ·intro hv;have hvl:=hv.length hu'
      rcases (sp_snoc hu hwl v hvl).mp hv with q | q
      ·exact .inl ((h2 v).mpr q)
      ·exact .inr ⟨_,(h2 _).mpr q,pl_cancel hvl hwl⟩
 have:=key ws [] [zr n] hw (fun _ h=>(by cases h)) (by simp) fun v=>by
  rw [List.mem_singleton]
  constructor
  ·rintro rfl;exact .zero
  ·intro h;cases h with
   | zero=>rfl
   | add h _=>cases h
 rwa [List.nil_append] at this
theorem mem_sprd {ws:List W} (hw:All n ws) (v:W):v∈sprd n ws↔Sp n ws v:=by
 rw [sprd,(srt_perm _).mem_iff];exact (sums_all hw).2 v
theorem sprd_nodup {ws:List W} (hw:All n ws):(sprd n ws).Nodup:=(srt_perm _).nodup_iff.mpr (sums_all hw).1
theorem law_desk {ws:List W} (hw:All n ws):lawRows n (sprd n ws)=mk ws :=
 lawRows_eq (mk_all hw).1 (sprd_nodup hw) fun w=>by rw [mem_sprd hw,(mk_all hw).2]
theorem rows_unique {R':List W} (h:Rows n R) (h':Rows n R') (e:∀ v,Sp n R v↔Sp n R' v):R=R':=by
 rw [<- lawRows_eq h (sprd_nodup h.len) (mem_sprd h.len),<- lawRows_eq h' (sprd_nodup h.len) fun w=>by rw [mem_sprd h.len,e]]
end
end Pd
namespace Pd
theorem nodup_map_on {α β:Type} {f:α->β}:∀ {l:List α},l.Nodup->(∀ x∈l,∀ y∈l,f x=f y->x=y)->(l.map f).Nodup
 | [],_,_=>by simp
 | x::l,nd,h=>by
  have ⟨n1,n2⟩:=List.nodup_cons.mp nd;rw [List.map_cons,List.nodup_cons];refine ⟨fun hm=>?_,nodup_map_on n2 fun a ha b hb=>h a (List.mem_cons_of_mem _ ha) b (List.mem_cons_of_mem _ hb)⟩
  obtain ⟨y,hy,e⟩:=List.mem_map.mp hm;rw [<- h y (List.mem_cons_of_mem _ hy) x List.mem_cons_self e] at n1;exact n1 hy
section
variable {α β:Type} [DecidableEq α] [DecidableEq β]
def nub:List α->List α
 | []=>[]
 | x::xs=>if x∈nub xs then nub xs else x::nub xs
theorem mem_nub {l:List α} {x:α}:x∈nub l↔x∈l:=by
 induction l with
 | nil=>simp [nub]
 | cons y l ih =>
  simp only [nub]
  split
  ·rename_i h
   rw [List.mem_cons,ih]
   constructor
   ·exact Or.inr
   ·rintro (rfl | h')
    ·exact ih.mp h
    ·exact h'
  ·simp [ih]
theorem nodup_nub (l:List α):(nub l).Nodup:=by
 induction l with
 | nil=>simp [nub]
 | cons y l ih =>
  simp only [nub]
  split
  ·exact ih
  ·rename_i h;exact List.nodup_cons.mpr ⟨h,ih⟩
end
def aw:Nat->List W
 | 0=>[[]]
 | n+1=>(aw n).map (false::·)++(aw n).map (true::·)
theorem mem_aw {n:Nat} {v:W}:v∈aw n↔v.length=n:=by
 induction n generalizing v with
 | zero=>simp [aw]
 | succ n ih =>
  cases v with
  | nil=>simp [aw]
  | cons b v =>
   cases b<;>simp [aw,ih]
theorem aw_nodup (n:Nat):(aw n).Nodup:=by
 induction n with
 | zero=>simp [aw]
 | succ n ih =>
  rw [aw,List.nodup_append];refine ⟨?_,?_,?_⟩
  ·exact nodup_map_on ih fun x _ y _ e=>by cases e;rfl
  ·exact nodup_map_on ih fun x _ y _ e=>by cases e;rfl
  ·intro a ha b hb e;obtain ⟨x,_,rfl⟩:=List.mem_map.mp ha;obtain ⟨y,_,rfl⟩:=List.mem_map.mp hb;cases e
theorem aw_length (n:Nat):(aw n).length=2 ^ n:=by
 induction n with
 | zero=>rfl
 | succ n ih=>rw [aw,List.length_append,List.length_map,List.length_map,ih,Nat.pow_succ];lia
end Pd
namespace Pd
def ip:W->W->Bool
 | a::as,b::bs=>(a&&b)^^ip as bs
 | _,_=>false
theorem ip_nil (b:W):ip [] b=false:=by cases b<;>rfl
theorem ip_comm (a b:W):ip a b=ip b a:=by
 induction a generalizing b with
 | nil=>cases b<;>rfl
 | cons x a ih=>cases b with
  | nil=>rfl
  | cons y b=>simp only [ip,ih b,Bool.and_comm]
theorem ip_pl {n:Nat} {a b c:W} (ha:a.length=n) (hb:b.length=n) (hc:c.length=n):ip (pl a b) c=(ip a c^^ip b c):=by
 induction a generalizing b c n with
 | nil =>
  have:b=[]:=by cases b;rfl;simp at ha hb;lia
  subst this;simp [pl,ip_nil]
 | cons x a ih =>
  cases b with
  | nil=>simp at ha hb;lia
  | cons y b =>
   cases c with
   | nil=>simp at ha hc;lia
   | cons z c =>
    have:=ih (n:=n-1) (b:=b) (c:=c) (by simp at ha;lia) (by simp at hb;lia) (by simp at hc;lia);have e:pl (x::a) (y::b)=(x^^y)::pl a b:=rfl;rw [e];simp only [ip,this];cases x<;>cases y<;>cases z<;>simp<;>cases ip a c<;>cases ip b c<;>rfl
theorem ip_pl_right {n:Nat} {a b c:W} (ha:a.length=n) (hb:b.length=n) (hc:c.length=n):ip c (pl a b)=(ip c a^^ip c b):=by
 rw [ip_comm,ip_pl ha hb hc,ip_comm a,ip_comm b]
theorem ip_zr (n:Nat) (a:W):ip (zr n) a=false:=by
 induction n generalizing a with
 | zero=>cases a<;>rfl
 | succ n ih=>cases a with
  | nil=>rfl
  | cons x a =>
   have:zr (n+1)=false::zr n:=rfl;rw [this];simp [ip,ih]
theorem ip_zr_right (n:Nat) (a:W):ip a (zr n)=false:=by rw [ip_comm,ip_zr]
def un:Nat->Nat->W
 | 0,_=>[]
 | n+1,0=>true::zr n
 | n+1,j+1=>false::un n j
theorem un_length (n j:Nat):(un n j).length=n:=by
 induction n generalizing j with
 | zero=>rfl
 | succ n ih=>cases j with
  | zero=>simp [un,zr]
  | succ j=>simp [un,ih]
theorem ip_un {n j:Nat} {v:W} (hv:v.length=n):ip v (un n j)=bt v j:=by
 induction n generalizing j v with
 | zero=>cases v with
  | nil=>simp [ip_nil,bt_nil]
  | cons x v=>simp at hv
 | succ n ih=>cases v with
  | nil=>simp at hv
  | cons x v =>
   have hv':v.length=n:=by simpa using hv
   cases j with
   | zero=>simp [un,ip,ip_zr_right,bt_cons_zero]
   | succ j=>simp [un,ip,ih hv',bt_cons_succ]
theorem bt_un {n j i:Nat} (hj:j<n):bt (un n j) i=decide (i=j):=by
 induction n generalizing j i with
 | zero=>lia
 | succ n ih=>cases j with
  | zero=>cases i with
   | zero=>simp [un,bt_cons_zero]
   | succ i=>simp [un,bt_cons_succ,bt_zr]
  | succ j=>cases i with
   | zero=>simp [un,bt_cons_zero]
   | succ i=>simp [un,bt_cons_succ,ih (show j<n by lia)]
def Du (n:Nat) (ws:List W) (v:W):Prop:=v.length=n/\∀ w∈ws,ip w v=false
instance (n:Nat) (ws:List W) (v:W):Decidable (Du n ws v):=inferInstanceAs (Decidable (_/\_))
section
variable {n:Nat} {R ws:List W}
theorem Du.lin (ha:All n ws):Lin n (Du n ws):=⟨fun v h=>h.1,⟨zr_length n,fun w _=>ip_zr_right n w⟩,fun u v hu hv=>⟨pl_length hu.1 hv.1,fun w hw=>by
 rw [ip_pl_right hu.1 hv.1 (ha w hw),hu.2 w hw,hv.2 w hw];rfl⟩⟩
theorem Du.sp (ha:All n ws) {v:W} (h:Du n ws v) {w:W} (hw:Sp n ws w):ip w v=false:=by
 induction hw with
 | zero=>exact ip_zr n v
 | add h1 h2 ih=>rw [ip_pl (h2.length ha) (ha _ h1) h.1,ih,h.2 _ h1];rfl
theorem du_iff (ha:All n ws) {v:W}:Du n ws v↔v.length=n/\∀ w,Sp n ws w->ip w v=false :=
 ⟨fun h=>⟨h.1,fun w hw=>h.sp ha hw⟩,fun h=>⟨h.1,fun w hw=>h.2 w (Sp.of_mem ha hw)⟩⟩
def db (n:Nat) (R:List W) (j:Nat):W:=(R.filter fun r=>bt r j).foldr (fun r v=>pl (un n (hd r)) v) (un n j)
theorem db_length (j:Nat):(db n R j).length=n:=by
 unfold db
 induction (R.filter fun r=>bt r j) with
 | nil=>exact un_length n j
 | cons r l ih=>exact pl_length (un_length n _) ih
theorem ip_db_aux {s:W} (hs:s.length=n) (j:Nat) (l:List W):ip s (l.foldr (fun r v=>pl (un n (hd r)) v) (un n j))=(bt s j^^l.foldr (fun r b=>bt s (hd r)^^b) false):=by
 induction l with
 | nil=>simp [ip_un hs]
 | cons r l ih =>
  have hl:(l.foldr (fun r v=>pl (un n (hd r)) v) (un n j)).length=n:=by
   clear ih
   induction l with
   | nil=>exact un_length n j
   | cons r l ih=>exact pl_length (un_length n _) ih
  rw [List.foldr_cons,List.foldr_cons,ip_pl_right (un_length n _) hl hs,ih,ip_un hs];cases bt s j<;>cases bt s (hd r)<;>simp
theorem ip_db {s:W} (hs:s.length=n) (j:Nat):ip s (db n R j)=(bt s j^^(R.filter fun r=>bt r j).foldr (fun r b=>bt s (hd r)^^b) false):=ip_db_aux hs j _
theorem fold_one {l:List W} (nd:l.Nodup) (s:W) (g:W->Bool) (hg:∀ r∈l,g r=decide (s=r)):l.foldr (fun r b=>g r^^b) false=decide (s∈l):=by
 induction l with
 | nil=>simp
 | cons r l ih =>
  have ⟨n1,n2⟩:=List.nodup_cons.mp nd;rw [List.foldr_cons,ih n2 fun r hr=>hg r (List.mem_cons_of_mem _ hr),hg r List.mem_cons_self]
  by_cases e:s=r
  ·subst e;simp [n1]
  ·simp [e]
theorem fold_none {l:List W} (g:W->Bool) (hg:∀ r∈l,g r=false):l.foldr (fun r b=>g r^^b) false=false:=by
 induction l with
 | nil=>rfl
 | cons r l ih=>rw [List.foldr_cons,ih fun r hr=>hg r (List.mem_cons_of_mem _ hr),hg r List.mem_cons_self];rfl
theorem db_du (h:Rows n R) (j:Nat):Du n R (db n R j):=by
 refine ⟨db_length j,fun s hs=>?_⟩
 rw [ip_db (h.len s hs),fold_one (h.nodup.filter _) s _ fun r hr=>by rw [h.bits (List.mem_filter.mp hr).1 hs]]
 have:decide (s∈R.filter fun r=>bt r j)=bt s j:=by
  rw [Bool.eq_iff_iff,decide_eq_true_eq,List.mem_filter];exact ⟨fun z=>z.2,fun z=>⟨hs,z⟩⟩
 rw [this,Bool.xor_self]
theorem dual_dual (h:Rows n R) {v:W} (hv:v.length=n) (hd:∀ u,Du n R u->ip u v=false):Sp n R v:=by
 rw [sp_iff h hv];have hw:=rest_length h.len hv;rw [eq_zr_iff hw];intro hm;have hj:=hd (db n R (Pd.hd (rest R v))) (db_du h _);have e1:ip (pl v (rest R v)) (db n R (Pd.hd (rest R v)))=false:=(db_du h _).sp h.len (rest_sp h.len hv);rw [ip_pl hv hw (db_length _),ip_comm v,hj,Bool.false_xor,ip_db hw,fold_none,bt_hd hm] at e1
 ·cases e1
 ·intro r hr;exact rest_off h hv r (List.mem_filter.mp hr).1
theorem sp_iff_du (h:Rows n R) {v:W}:Sp n R v↔v.length=n/\∀ u,Du n R u->ip u v=false :=
 ⟨fun z=>⟨z.length h.len,fun u hu=>by rw [ip_comm];exact hu.sp h.len z⟩,fun z=>dual_dual h z.1 z.2⟩
noncomputable def desk (n:Nat) (V:W->Prop):List W:=open Classical in mk ((aw n).filter fun v=>decide (V v))
theorem sums_length:∀ {R:List W},Rows n R->(sums n R).length=2 ^ R.length:=by
 intro R;have gen:∀ (Q P:List W),Rows n (P++Q)->(sums n P).length=2 ^ P.length->(sums n (P++Q)).length=2 ^ (P++Q).length:=by
  intro Q
  induction Q with
  | nil=>intro P _ h;simpa using h
  | cons r Q ih =>
   intro P hR hP;have e:P++r::Q=(P++[r])++Q:=by simp
   rw [e] at hR ⊢;refine ih _ hR ?_;have hall:=hR.len;have hPa:All n P:=fun w hw=>hall w (by simp [hw])
   have hr:r∉sums n P:=by
    rw [(sums_all hPa).2];intro hs;have z:bt r (hd r)=false:=by
     have gz:∀ v,Sp n P v->bt v (hd r)=false:=by
      intro v hv
      induction hv with
      | zero=>exact bt_zr n _
      | add hw hv ih =>
       rename_i w v
       have hw':w∈(P++[r])++Q:=by simp [hw]
       have hr':r∈(P++[r])++Q:=by simp
       have hne:hd r≠hd w:=by
        have:=hR.ord;rw [List.append_assoc,List.pairwise_append] at this;have:=this.2.2 w hw r (by simp)
        lia
       rw [bt_pl ((hv.length hPa).trans (hPa w hw).symm),ih,hR.off r hr' w hw' hne];rfl
     exact gz r hs
    rw [bt_hd (hR.one r (by simp))] at z;cases z
   have es:sums n (P++[r])=if r∈sums n P then sums n P else sums n P++(sums n P).map fun x=>pl x r:=by
    unfold sums;rw [List.foldl_append];rfl
   rw [es,if_neg hr,List.length_append,List.length_map,hP,List.length_append,List.length_singleton,Nat.pow_succ];lia
 intro h;have:=gen R [] (by simpa using h) (by simp [sums]);simpa using this
theorem sprd_length (h:Rows n R):(sprd n R).length=2 ^ R.length:=by rw [sprd,(srt_perm _).length_eq];exact sums_length h
def sg (R:List W) (v:W):W:=R.map fun r=>ip r v
end
end Pd
namespace Pd
section
variable {n:Nat} {R D ws:List W}
def lift (n:Nat):List W->W->W
 | r::R,b::s=>if b then pl (un n (hd r)) (lift n R s) else lift n R s
 | _,_=>zr n
theorem dual_back (h:Rows n R) (hD:Rows n D) (e:∀ v,Sp n D v↔Du n R v) (v:W):Du n D v↔Sp n R v:=by
 rw [du_iff hD.len,sp_iff_du h]
 constructor
 ·rintro ⟨h1,h2⟩;exact ⟨h1,fun u hu=>h2 u ((e u).mpr hu)⟩
 ·rintro ⟨h1,h2⟩;exact ⟨h1,fun u hu=>h2 u ((e u).mp hu)⟩
end
end Pd
namespace Pu
open PySem L2
structure EncOk {α:Type} (f:α->PV) (d:Nat):Prop where
 eq:∀ a b,eqv (f a) (f b)=true↔a=b
 lay:∀ a,(dat (f a)).canLay0=true
 dep:∀ a,(dat (f a)).depth<=d
section
variable {α β:Type} {f:α->PV} {g:β->PV} {d e:Nat}
theorem EncOk.cmp (h:EncOk f d) (hd:d<=50:=by decide) (a:α):cmpOk (f a)=true:=by
 unfold cmpOk;rw [h.lay a,Bool.true_and,decide_eq_true_eq];exact Nat.le_trans (h.dep a) hd
theorem EncOk.int:EncOk PV.int 0:=⟨fun a b=>by simp [eqv,dat,PyData.eqv],fun _=>by simp [dat,PyData.canLay0],fun _=>by simp [dat,PyData.depth]⟩
theorem EncOk.bl:EncOk PV.bl 0:=⟨fun a b=>by simp [eqv,dat,PyData.eqv],fun _=>by simp [dat,PyData.canLay0],fun _=>by simp [dat,PyData.depth]⟩
theorem EncOk.nat:EncOk (fun n:Nat=>PV.int (n:Int)) 0:=⟨fun a b=>by simp [eqv,dat,PyData.eqv,Int.ofNat_inj],fun _=>by simp [dat,PyData.canLay0],fun _=>by simp [dat,PyData.depth]⟩
def eb (b:Bool):PV:=.int (if b then 1 else 0)
theorem EncOk.eb:EncOk eb 0:=⟨fun a b=>by cases a<;>cases b<;>simp [Pu.eb,eqv,dat,PyData.eqv],fun a=>by simp [Pu.eb,dat,PyData.canLay0],fun a=>by simp [Pu.eb,dat,PyData.depth]⟩
theorem EncOk.all (h:EncOk f d):∀ l m:List α,PyData.eqvAll (dats (l.map f)) (dats (m.map f))=true↔l=m
 | [],[]=>by simp [dats,PyData.eqvAll]
 | [],_::_=>by simp [dats,PyData.eqvAll]
 | _::_,[]=>by simp [dats,PyData.eqvAll]
 | a::l,b::m=>by
  have:=h.all l m;have h1:=h.eq a b;unfold eqv at h1;simp only [List.map_cons,dats,PyData.eqvAll,Bool.and_eq_true,this,h1,List.cons.injEq]
theorem EncOk.lays (h:EncOk f d):∀ l:List α,PyData.canLayAll0 (dats (l.map f))=true
 | []=>by simp [dats,PyData.canLayAll0]
 | a::l=>by simp [dats,PyData.canLayAll0,h.lay a,h.lays l]
theorem EncOk.deps (h:EncOk f d):∀ l:List α,PyData.depthAll (dats (l.map f))<=d
 | []=>by simp [dats,PyData.depthAll]
 | a::l=>by
  simp only [List.map_cons,dats,PyData.depthAll];exact Nat.max_le.mpr ⟨h.dep a,h.deps l⟩
theorem EncOk.lst (h:EncOk f d):EncOk (fun l:List α=>PV.lst (l.map f)) (d+1) :=
 ⟨fun a b=>by simp only [eqv,dat,PyData.eqv];exact h.all a b,fun a=>by simp [dat,PyData.canLay0,h.lays a],fun a=>by simp only [dat,PyData.depth];have:=h.deps a;lia⟩
theorem EncOk.tup (h:EncOk f d):EncOk (fun l:List α=>PV.tup (l.map f)) (d+1) :=
 ⟨fun a b=>by simp only [eqv,dat,PyData.eqv];exact h.all a b,fun a=>by simp [dat,PyData.canLay0,h.lays a],fun a=>by simp only [dat,PyData.depth];have:=h.deps a;lia⟩
theorem EncOk.pair (h:EncOk f d) (k:EncOk g e):EncOk (fun p:α×β=>PV.tup [f p.1,g p.2]) (max d e+1) :=
 ⟨fun a b=>by
  have h1:=h.eq a.1 b.1;have h2:=k.eq a.2 b.2;unfold eqv at h1 h2;simp only [eqv,dat,dats,PyData.eqv,PyData.eqvAll,Bool.and_eq_true,h1,h2,and_true];exact ⟨fun z=>Prod.ext z.1 z.2,fun z=>z ▸ ⟨rfl,rfl⟩⟩,fun a=>by simp [dat,dats,PyData.canLay0,PyData.canLayAll0,h.lay,k.lay],fun a=>by
  simp only [dat,dats,PyData.depth,PyData.depthAll];have:=h.dep a.1;have:=k.dep a.2;lia⟩
def ew (w:Pd.W):PV:=.tup (w.map eb)
theorem EncOk.ew:EncOk ew 1:=EncOk.eb.tup
section
variable [DecidableEq α]
theorem EncOk.eqv (h:EncOk f d) (a b:α):eqv (f a) (f b)=decide (a=b):=by
 rw [Bool.eq_iff_iff,h.eq,decide_eq_true_eq]
theorem EncOk.eqF (h:EncOk f d) (a b:α) (hd:d<=50:=by decide):eqF (f a) (f b)=.ok (.bl (decide (a=b))):=by
 unfold Pu.eqF;rw [h.cmp hd,h.cmp hd,h.eqv];rfl
theorem EncOk.neF (h:EncOk f d) (a b:α) (hd:d<=50:=by decide):neF (f a) (f b)=.ok (.bl (!decide (a=b))):=by
 unfold Pu.neF;rw [h.cmp hd,h.cmp hd,h.eqv];rfl
theorem EncOk.any (h:EncOk f d) (a:α) (l:List α):((l.map f).any fun y=>Pu.eqv y (f a))=decide (a∈l):=by
 rw [Bool.eq_iff_iff,List.any_eq_true,decide_eq_true_eq]
 constructor
 ·rintro ⟨y,hy,e⟩;obtain ⟨b,hb,rfl⟩:=List.mem_map.mp hy;rw [(h.eq b a).mp e] at hb;exact hb
 ·intro ha;exact ⟨f a,List.mem_map_of_mem ha,(h.eq a a).mpr rfl⟩
theorem EncOk.inT (h:EncOk f d) (a:α) (l:List α) (hd:d+1<=50:=by decide):inF (f a) (.tup (l.map f))=.ok (.bl (decide (a∈l))):=by
 have:=h.tup.cmp hd l;simp only [inF,h.cmp (by lia),this,Bool.and_self,if_true,h.any]
theorem EncOk.ninL (h:EncOk f d) (a:α) (l:List α) (hd:d+1<=50:=by decide):ninF (f a) (.lst (l.map f))=.ok (.bl (!decide (a∈l))):=by
 have:=h.lst.cmp hd l;simp only [ninF,h.cmp (by lia),this,Bool.and_self,if_true,h.any]
theorem EncOk.ninT (h:EncOk f d) (a:α) (l:List α) (hd:d+1<=50:=by decide):ninF (f a) (.tup (l.map f))=.ok (.bl (!decide (a∈l))):=by
 have:=h.tup.cmp hd l;simp only [ninF,h.cmp (by lia),this,Bool.and_self,if_true,h.any]
end
theorem e1:PV.int 1=eb true:=rfl
theorem e0:PV.int 0=eb false:=rfl
theorem in1 (w:Pd.W):inF (.int 1) (ew w)=.ok (.bl (decide (true∈w))):=EncOk.eb.inT true w
theorem nin1 (w:Pd.W):ninF (.int 1) (ew w)=.ok (.bl (!decide (true∈w))):=EncOk.eb.ninT true w
theorem index1 (w:Pd.W) (h:true∈w):indexF (ew w) (.int 1)=.ok (.int (Pd.hd w:Nat)):=by
 have h1:=EncOk.eb.tup.cmp (by decide) w;have h2:cmpOk (.int 1)=true:=EncOk.int.cmp (by decide) 1;have e:(w.map eb).findIdx? (fun y=>eqv y (.int 1))=some (Pd.hd w):=by
  rw [List.findIdx?_map];have z:(fun y=>eqv y (.int 1)) ∘ eb=fun b=>b==true:=by funext b;cases b<;>rfl
  rw [z];have hl:=Pd.hd_lt h;rw [List.findIdx?_eq_some_iff_findIdx_eq];exact ⟨hl,rfl⟩
 simp only [indexF,ew,h1,h2,Bool.and_self,if_true,e]
end
theorem atF_nat {α:Type} (g:α->PV) (l:List α) (i:Nat) (h:i<l.length):atF (l.map g) (i:Int)=.ok (g l[i]):=by
 unfold atF atI ixN;rw [if_pos (Int.natCast_nonneg i),if_pos (by rw [List.length_map];exact Int.ofNat_lt.mpr h)];simp [h]
theorem ixT (w:Pd.W) (i:Nat) (h:i<w.length):ixF (ew w) (.int i)=.ok (eb (Pd.bt w i)):=by
 show atF (w.map eb) (i:Int)=_;rw [atF_nat eb w i h,Pd.bt_eq h]
def cStep (t:Dg) (c:Dt) (e:De) (ρ:En) (v:PV):Res (Option PV):=(t v ρ).bind fun ρ1=>(c ρ1).bind fun b=>if b then (e ρ1).bind fun x=>.ok (some x) else .ok none
theorem compL_step (t:Dg) (c:Dt) (e:De) (ρ:En) (v:PV) (vs:List PV):compL t c e ρ (v::vs)=(cStep t c e ρ v).bind fun o=>(compL t c e ρ vs).bind fun xs=>.ok (match o with | some x=>x::xs | none=>xs):=by
 rw [compL];unfold cStep;cases t v ρ with
 | exc x=>rfl
 | bad=>rfl
 | ok ρ1 =>
  simp only [Res.bind_ok];cases c ρ1 with
  | exc x=>rfl
  | bad=>rfl
  | ok b =>
   simp only [Res.bind_ok];cases b with
   | true =>
    simp only [if_true];cases e ρ1<;>rfl
   | false =>
    simp only [Bool.false_eq_true,if_false,Res.bind_ok];show compL t c e ρ vs=_;cases compL t c e ρ vs<;>rfl
section
variable {α:Type} {t:Dg} {c:Dt} {e:De} {ρ:En} {l:List α} {g:α->PV}
theorem compL_fm {h:α->Option PV} (hs:∀ a∈l,cStep t c e ρ (g a)=.ok (h a)):compL t c e ρ (l.map g)=.ok (l.filterMap h):=by
 induction l with
 | nil=>rfl
 | cons a l ih =>
  rw [List.map_cons,compL_step,hs a List.mem_cons_self,Res.bind_ok,ih fun a ha=>hs a (List.mem_cons_of_mem _ ha),Res.bind_ok,List.filterMap_cons]
  cases h a<;>rfl
theorem compL_map {f:α->PV} (hs:∀ a∈l,cStep t c e ρ (g a)=.ok (some (f a))):compL t c e ρ (l.map g)=.ok (l.map f):=by
 rw [compL_fm hs,<- List.filterMap_eq_map];rfl
theorem compL_filt {p:α->Bool} {f:α->PV} (hs:∀ a∈l,cStep t c e ρ (g a)=.ok (if p a then some (f a) else none)):compL t c e ρ (l.map g)=.ok ((l.filter p).map f):=by
 rw [compL_fm hs];congr 1
 induction l with
 | nil=>rfl
 | cons a l ih =>
  rw [List.filterMap_cons,List.filter_cons,ih fun a ha=>hs a (List.mem_cons_of_mem _ ha)]
  cases p a<;>rfl
theorem eComp_map {d:Di} {k:Nat} {idx:List Nat} {f:α->PV} (hd:d ρ=.ok (l.map g)) (hz:l.length<=sizeLine) (hs:∀ a∈l,cStep t c e (caps k idx ρ) (g a)=.ok (some (f a))):eComp d k idx t c e ρ=.ok (.lst (l.map f)):=by
 unfold eComp;rw [hd,Res.bind_ok,if_pos (by rw [List.length_map];exact hz),compL_map hs];rfl
theorem eComp_filt {d:Di} {k:Nat} {idx:List Nat} {p:α->Bool} {f:α->PV} (hd:d ρ=.ok (l.map g)) (hz:l.length<=sizeLine) (hs:∀ a∈l,cStep t c e (caps k idx ρ) (g a)=.ok (if p a then some (f a) else none)):eComp d k idx t c e ρ=.ok (.lst ((l.filter p).map f)):=by
 unfold eComp;rw [hd,Res.bind_ok,if_pos (by rw [List.length_map];exact hz),compL_filt hs];rfl
theorem zpL_map {β γ:Type} (f:α->PV) (h:β->PV):∀ (l:List α) (m:List β),zpL (l.map f) (m.map h)=(l.zip m).map fun p=>PV.tup [f p.1,h p.2]
 | [],_=>by simp [zpL]
 | _::_,[]=>by simp [zpL]
 | a::l,b::m=>by simp [zpL,zpL_map (γ:=γ) f h l m]
theorem forL_inv {b:Ds} (P:List α->En->Prop) (hs:∀ done a rest ρ,l=done++a::rest->P done ρ->∃ ρ',(t (g a) ρ).bind b=.ok (.nx ρ')/\P (done++[a]) ρ') (h0:P [] ρ):∃ ρ',forL t b (l.map g) ρ=.ok (.nx ρ')/\P l ρ':=by
 have gen:∀ (m done:List α) (ρ:En),l=done++m->P done ρ->∃ ρ',forL t b (m.map g) ρ=.ok (.nx ρ')/\P l ρ':=by
  intro m
  induction m with
  | nil=>intro done ρ e hp;rw [List.append_nil] at e;subst e;exact ⟨ρ,rfl,hp⟩
  | cons a m ih =>
   intro done ρ e hp;obtain ⟨ρ1,e1,p1⟩:=hs done a m ρ e hp;obtain ⟨ρ2,e2,p2⟩:=ih (done++[a]) ρ1 (by rw [e];simp) p1;refine ⟨ρ2,?_,p2⟩;rw [List.map_cons,forL];cases et:t (g a) ρ with
   | exc x=>rw [et] at e1;cases e1
   | bad=>rw [et] at e1;cases e1
   | ok ρ3 =>
    rw [et,Res.bind_ok] at e1;rw [Res.bind_ok,e1];exact e2
 exact gen l [] ρ rfl h0
end
end Pu
namespace Pu
open PySem PySem.Spec PyProof.Rows L2
section
variable {X:Cx} {W0:Addr->Prop} {H0:Hp} {W:Addr->Prop} {H:Hp} {σ:SS} {ρ:En} {D:Ends} {p:Addr} {vs:List PV} {xs:List V}
theorem slRep_to {W':Addr->Prop} {H':Hp} (hs:Same (hid W H) (hid W' H')):∀ {s:Sl} {x:V},(∀ a ys,s=.own ys->x=.ref a->W a->W' a/\∀ o,H a=some o->H' a=some o)->SlRep X.K W H s x->SlRep X.K W' H' s x
 | .val _,_,_,h=>Rep.mono hs h
 | .own ys,x,k,⟨a,zs,h1,h2,h3,h4⟩=>⟨a,zs,h1,(k a ys rfl h1 h2).1,(k a ys rfl h1 h2).2 _ h3,h4.mono hs⟩
 | .exn _,_,_,⟨a,C,dx,h1,h2,h3,h4⟩=>⟨a,C,dx,h1,hs _ _ h2,h3,h4.mono hs⟩
theorem own_addr (er:ER X.K W H σ ρ) {j:Nat} {us:List PV} {a:Addr} (h:ρ[j]?=some (some (.own us))) (e:σ[j]?=some (some (.ref a))):W a/\∃ zs,H a=some (.lst zs)/\Reps X.K (hid W H) us zs:=by
 obtain ⟨y,e1,b,zs,e2,h2,h3,h4⟩:=er.val j _ h;rw [e] at e1;cases e1;cases e2;exact ⟨h2,zs,h3,h4⟩
theorem set_own {i j:Nat} {ρ:En} {s:Sl} {t:Sl} (h:(ρ.set i (some t))[j]?=some (some s)):(i=j/\s=t/\i<ρ.length)\/(i≠j/\ρ[j]?=some (some s)):=by
 rw [List.getElem?_set] at h
 by_cases e:i=j
 ·subst e;rw [if_pos rfl] at h
  by_cases hl:i<ρ.length
  ·rw [if_pos hl] at h;cases h;exact .inl ⟨rfl,rfl,hl⟩
  ·rw [if_neg hl] at h;cases h
 ·rw [if_neg e] at h;exact .inr ⟨e,h⟩
theorem own_new (w:Wd W0 H0 W H σ ρ) (er:ER X.K W H σ ρ) (hp:H p=none) (r:Reps X.K (hid W H) vs xs) (i:Nat) :
  Wd W0 H0 (fun a=>W a\/a=p) (upd H p (.lst xs)) (σ.set i (some (.ref p))) (ρ.set i (some (.own vs)))/\Same (hid W H) (hid (fun a=>W a\/a=p) (upd H p (.lst xs)))/\ER X.K (fun a=>W a\/a=p) (upd H p (.lst xs)) (σ.set i (some (.ref p))) (ρ.set i (some (.own vs))):=by
 have hs:Same (hid W H) (hid (fun a=>W a\/a=p) (upd H p (.lst xs))):=fun b o h=>by
  unfold hid at h ⊢
  split at h
  ·cases h
  ·rename_i n
   have hb:b≠p:=ne_of_none h hp;rw [if_neg (by rintro (z | z);exact n z;exact hb z),upd_ne hb];exact h
 refine ⟨⟨w.same.trans (upd_new hp),w.trk,fun a h=>.inl (w.sub a h),fun j us a h1 h2=>?_,fun j k us ts a h1 h2 h3 h4=>?_⟩,hs,⟨by simp [er.len],fun j s h=>?_,fun a h=>?_⟩⟩
 ·rcases set_own h1 with ⟨rfl,e,hl⟩ | ⟨ne,h1⟩
  ·rw [List.getElem?_set,if_pos rfl,if_pos (by rw [<- er.len];exact hl)] at h2;cases h2;exact w.same.free hp
  ·rw [List.getElem?_set,if_neg ne] at h2;exact w.own j us a h1 h2
 ·have neq:∀ {j:Nat} {us:List PV},ρ[j]?=some (some (.own us))->σ[j]?=some (some (.ref p))->False:=fun h1 h2=>by
   obtain ⟨_,zs,z,_⟩:=own_addr er h1 h2;rw [hp] at z;cases z
  rcases set_own h1 with ⟨rfl,e,hl⟩ | ⟨ne,h1⟩
  ·rw [List.getElem?_set,if_pos rfl,if_pos (by rw [<- er.len];exact hl)] at h3;cases h3
   rcases set_own h2 with ⟨rfl,_,_⟩ | ⟨ne2,h2⟩
   ·rfl
   ·rw [List.getElem?_set,if_neg ne2] at h4;exact (neq h2 h4).elim
  ·rw [List.getElem?_set,if_neg ne] at h3
   rcases set_own h2 with ⟨rfl,_,hl⟩ | ⟨ne2,h2⟩
   ·rw [List.getElem?_set,if_pos rfl,if_pos (by rw [<- er.len];exact hl)] at h4;cases h4;exact (neq h1 h3).elim
   ·rw [List.getElem?_set,if_neg ne2] at h4;exact w.dis j k us ts a h1 h2 h3 h4
 ·rcases set_own h with ⟨rfl,rfl,hl⟩ | ⟨ne,h⟩
  ·exact ⟨.ref p,by rw [List.getElem?_set,if_pos rfl,if_pos (by rw [<- er.len];exact hl)],p,xs,rfl,.inr rfl,upd_same,r.mono hs⟩
  ·obtain ⟨y,e1,q⟩:=er.val j s h;refine ⟨y,by rw [List.getElem?_set,if_neg ne];exact e1,slRep_to hs (fun a ys _ _ hw=>⟨.inl hw,fun o ho=>?_⟩) q⟩;rw [upd_ne (ne_of_none ho hp)];exact ho
 ·rcases h with h | rfl
  ·intro z
   by_cases e:a=p
   ·subst e;rw [upd_same] at z;cases z
   ·rw [upd_ne e] at z;exact er.trk a h z
  ·rw [upd_same];intro z;cases z
theorem own_put (w:Wd W0 H0 W H σ ρ) (er:ER X.K W H σ ρ) {i:Nat} {us:List PV} (h:ρ[i]?=some (some (.own us))) (e:σ[i]?=some (some (.ref p))) (r:Reps X.K (hid W H) vs xs) :
  Wd W0 H0 W (upd H p (.lst xs)) σ (ρ.set i (some (.own vs)))/\Same (hid W H) (hid W (upd H p (.lst xs)))/\ER X.K W (upd H p (.lst xs)) σ (ρ.set i (some (.own vs))):=by
 obtain ⟨wp,zs,hz,_⟩:=own_addr er h e;have hs:Same (hid W H) (hid W (upd H p (.lst xs))):=fun b o q=>by
  unfold hid at q ⊢
  split at q
  ·cases q
  ·rename_i n
   rw [if_neg n,upd_ne (by rintro rfl;exact n wp)];exact q
 have h0:H0 p=none:=w.own i us p h e;have hil:i<ρ.length:=(List.getElem?_eq_some_iff.mp h).1;have s0:Same H0 (upd H p (.lst xs)):=fun b o q=>by
  rw [upd_ne (ne_of_none q h0)];exact w.same b o q
 have old:∀ {j:Nat} {ts:List PV},(ρ.set i (some (.own vs)))[j]?=some (some (.own ts))->∃ ts',ρ[j]?=some (some (.own ts')):=fun {j ts} q=>by
  rcases set_own q with ⟨rfl,_,_⟩ | ⟨_,q⟩
  ·exact ⟨us,h⟩
  ·exact ⟨ts,q⟩
 refine ⟨⟨s0,w.trk,w.sub,fun j ts a h1 h2=>?_,fun j k ts rs a h1 h2 h3 h4=>?_⟩,hs,⟨by simp [er.len],fun j s q=>?_,fun a wa=>?_⟩⟩
 ·obtain ⟨ts',q⟩:=old h1;exact w.own j ts' a q h2
 ·obtain ⟨ts',q1⟩:=old h1;obtain ⟨rs',q2⟩:=old h2;exact w.dis j k ts' rs' a q1 q2 h3 h4
 ·rcases set_own q with ⟨rfl,rfl,_⟩ | ⟨ne,q⟩
  ·exact ⟨.ref p,e,p,xs,rfl,wp,upd_same,r.mono hs⟩
  ·obtain ⟨y,e1,q1⟩:=er.val j s q;refine ⟨y,e1,slRep_to hs (fun a ys es ey hw=>⟨hw,fun o ho=>?_⟩) q1⟩;subst es ey;have:a≠p:=by
    rintro rfl;exact ne (w.dis i j us ys a h q e e1)
   rw [upd_ne this];exact ho
 ·intro z
  by_cases e':a=p
  ·subst e';rw [upd_same] at z;cases z
  ·rw [upd_ne e'] at z;exact er.trk a wa z
variable {es:List Expr} {ds:Das} {a b:Expr} {da db:De} {i:Nat} {x:Str} {p1 p2 p3 pos apos cpos:Pos} {sts:List Stmt} {d:Ds}
def sOwnL (i:Nat) (ds:Das):Ds:=fun ρ=>(ds ρ).bind fun vs=>if vs.length<=sizeLine then .ok (.nx (ρ.set i (some (.own vs)))) else .bad
theorem ds_ownL (hN:X.N.Nodup) (hi:X.N[i]?=some x) (hx:Loc X.env.scope x) (ha:DA X es ds) (hf:X.fn x=true\/X.env.scope.names.lookup x=some .local) (hs:swapsWith (.List es p3) (some (.Name x p2)) pos.line X.env=pure false:=by rfl) :
  DS X (.Assign [.Name x p2] (.List es p3) pos) (sOwnL i ds):=ps_imp (ps_set hN hi hx (pe_lst ha) hs hf) fun D σ H ⟨W0,H0,W,ρ,w,er,h⟩ =>
 tDA_of ds er (h.bind.xw w.same) fun vs xs H1 s1 er1 r1 h1=>by
  split at h1
  ·rename_i hz
   refine ⟨by rw [r1.length];exact hz,fun p hp=>?_⟩
   obtain ⟨k1,k2,k3⟩:=own_new (w.grow s1) er1 hp r1 i;exact h1 _ _ _ k1 ((hid_same s1).trans k2) k3
  ·exact h1.elim
def sOwnC (i:Nat) (d:De):Ds:=fun ρ=>(d ρ).bind fun v=>(seqF v).bind fun vs=>.ok (.nx (ρ.set i (some (.own vs))))
theorem ds_ownC (hN:X.N.Nodup) (hi:X.N[i]?=some x) (hx:Loc X.env.scope x) (hg:Gl X "list") (hm:X.mg "list" = none) (ha:DE X a da) (hf:X.fn x=true\/X.env.scope.names.lookup x=some .local)
  (he:starEach [a] X.env=(false,eval a X.env)::starEach [] X.env:=by rfl) (hpl:(backTo p3 (starEach [] X.env)).any (·.1)=false:=by rfl) (hs:swapsWith (.Call (.Name "list" p1) [a] [] p3) (some (.Name x p2)) pos.line X.env=pure false:=by rfl) :
  DS X (.Assign [.Name x p2] (.Call (.Name "list" p1) [a] [] p3) pos) (sOwnC i da):=ps_imp (ps_set hN hi hx (pe_callTy call_list_of hg hm (by decide) (da_cons ha da_nil he) (by decide) (by decide) he hpl) hs hf) fun D σ H ⟨W0,H0,W,ρ,w,er,h⟩=>by
 have h':On (aCons da aNil ρ) (fun x=>XW X x H) fun us=>∃ v,us=[v]/\FinS X W0 H0 W H D ((seqF v).bind fun vs=>.ok (.nx (ρ.set i (some (.own vs))))):=by
  have hb:=h.bind.xw w.same;unfold aCons aNil;cases e:da ρ with
  | ok v=>rw [e] at hb;exact ⟨v,rfl,hb⟩
  | exc z=>rw [e] at hb;exact hb
  | bad=>rw [e] at hb;exact hb
 refine tDA_of (aCons da aNil) er h' fun us xs H1 s1 er1 r1 ⟨v,e,h1⟩=>?_
 subst e;obtain ⟨y,t,rfl,q1,q2⟩:=Reps.cons.mp r1;obtain rfl:=Reps.nil.mp q2;cases e1:seqF v with
 | exc z=>exact absurd e1 seqF_nx
 | bad=>rw [e1] at h1;exact h1.elim
 | ok vs =>
  rw [e1] at h1;obtain ⟨k,l,zs,rfl,g1,g2⟩:=seq_parts e1 q1;refine ⟨l,zs,rfl,?_,fun p hp=>?_⟩
  ·cases k with
   | L=>exact .inl (sqL_of g1)
   | T=>exact .inr (sqT_of g1)
  ·obtain ⟨k1,k2,k3⟩:=own_new (w.grow s1) er1 hp g2 i;exact h1 _ _ _ k1 ((hid_same s1).trans k2) k3
def ownAt (ρ:En) (i:Nat):Res (List PV):=match ρ[i]? with
 | some (some (.own vs))=>.ok vs
 | _=>.bad
theorem ownAt_ok {ρ:En} {i:Nat} {vs:List PV} (h:ownAt ρ i=.ok vs):ρ[i]?=some (some (.own vs)):=by
 unfold ownAt at h
 split at h
 ·cases h;assumption
 ·cases h
theorem ownAt_on {ρ:En} {i:Nat} {α:Type} {f:List PV->Res α} {P:Res α->Prop} (hb:P .bad->False) (h:P ((ownAt ρ i).bind f)):∃ vs,ρ[i]?=some (some (.own vs))/\P (f vs):=by
 cases e:ownAt ρ i with
 | ok vs=>rw [e] at h;exact ⟨vs,ownAt_ok e,h⟩
 | exc z=>unfold ownAt at e;split at e<;>cases e
 | bad=>rw [e] at h;exact (hb h).elim
def sApp (i:Nat) (d:De):Ds:=fun ρ=>(ownAt ρ i).bind fun vs=>(d ρ).bind fun v=>if vs.length<sizeLine then .ok (.nx (ρ.set i (some (.own (vs++[v]))))) else .bad
theorem ds_app (i:Nat) (hN:X.N[i]?=some x) (hv:Vis X.env.scope x) (ha:DE X a da) (hd:(x==("__debug__" : Str))=false:=by decide) (hcd:(x==("__classdict__" : Str))=false:=by decide)
  (hbase:attributeBase (.Name x p1) "append" X.env (eval (.Name x p1) X.env)=eval (.Name x p1) X.env:=by rfl)
  (hfew:((backTo cpos (starEach [a] X.env)).all (fun x=>!x.1)&&(backToKw cpos (keywordEach [] X.env)).all (fun x=>x.1.isSome)
   && decide ([a].length+([]:List Keyword).length+(if ([]:List Keyword).isEmpty then 0 else 1)<30))=true:=by rfl)
  (hline:(apos.endLine==cpos.line)=true:=by rfl) (hs:starEach [a] X.env=(false,eval a X.env)::starEach [] X.env:=by rfl) (hplain:(backTo cpos (starEach [] X.env)).any (·.1)=false:=by rfl)
  (hsw:swapsWith (.Call (.Attribute (.Name x p1) "append" apos) [a] [] cpos) none pos.line X.env=pure false:=by rfl) :
  DS X (.Expr (.Call (.Attribute (.Name x p1) "append" apos) [a] [] cpos) pos) (sApp i da) :=
 ps_imp (ps_expr (pe_bm PySem.F.plainAttrs_list PySem.F.slot_list_append PySem.F.type_list_append mt_append (pe_var hN hv hd hcd) (da_cons ha da_nil hs) hbase hfew hline hs hplain) hsw) fun D σ H ⟨W0,H0,W,ρ,w,er,h⟩=>by
  obtain ⟨vs,hi,h⟩:=ownAt_on (P:=FinS X W0 H0 W H D) (fun z=>z) h;obtain ⟨y,e1,l,zs,e2,wl,hl,rl⟩:=er.val i _ hi;subst e2;refine ⟨.ref l,e1,.inl ⟨rfl,zs,SqL.of hl⟩,?_⟩;have h':On (aCons da aNil ρ) (fun x=>XW X x H) fun us=>∃ v,us=[v]/\FinS X W0 H0 W H D (if vs.length<sizeLine then .ok (.nx (ρ.set i (some (.own (vs++[v]))))) else .bad):=by
   have hb:=h.bind.xw w.same;unfold aCons aNil;cases e:da ρ with
   | ok v=>rw [e] at hb;exact ⟨v,rfl,hb⟩
   | exc z=>rw [e] at hb;exact hb
   | bad=>rw [e] at hb;exact hb
  refine tDA_of (aCons da aNil) er h' fun us xs H1 s1 er1 r1 ⟨v,e,h1⟩=>?_
  subst e;obtain ⟨u,t,rfl,q1,q2⟩:=Reps.cons.mp r1;obtain rfl:=Reps.nil.mp q2
  split at h1
  ·rename_i hz
   have hl1:=s1 _ _ hl;refine ⟨l,zs,u,rfl,rfl,hl1,by rw [rl.length];exact hz,?_⟩;obtain ⟨k1,k2,k3⟩:=own_put (w.grow s1) er1 hi e1 ((rl.mono (hid_same s1)).snoc q1);exact h1 _ _ _ k1 ((hid_same s1).trans k2) k3
  ·exact h1.elim
def eIxO (i:Nat) (d:De):De:=fun ρ=>(ownAt ρ i).bind fun vs=>(d ρ).bind fun u=>match u with
 | .int j=>atF vs j
 | _=>.bad
def eLenO (i:Nat):De:=fun ρ=>(ownAt ρ i).bind fun vs=>.ok (.int vs.length)
def sSetO (i:Nat) (dk d:De):Ds:=fun ρ=>(d ρ).bind fun v=>(ownAt ρ i).bind fun vs=>(dk ρ).bind fun k=>match k with
 | .int j=>match ixN vs.length j with
  | some m=>.ok (.nx (ρ.set i (some (.own (vs.set m v)))))
  | none=>.bad
 | _=>.bad
theorem ds_setO (i:Nat) (hN:X.N[i]?=some x) (hv:Vis X.env.scope x) (hb:DE X b db) (ha:DE X a da) (hd:(x==("__debug__" : Str))=false:=by decide) (hcd:(x==("__classdict__" : Str))=false:=by decide)
  (hi:∀ v,assign (.Subscript (.Name x p1) b p2) X.env v=(do
   let ov <- holding [v] (eval (.Name x p1) X.env)
   let iv <- holding [v,ov] (eval b X.env)
   standAt p2
   holding [v,ov,iv] (setItem ov iv v)
   release [v,ov,iv] []):=by intro _;rfl)
  (hs:swapsWithSole [.Subscript (.Name x p1) b p2] a pos.line X.env=pure false:=by rfl) (hw:swappedStores [.Subscript (.Name x p1) b p2] a X.env=pure none:=by rfl)
  (h1:(assignEach [.Subscript (.Name x p1) b p2] X.env).map (·.2)=[assign (.Subscript (.Name x p1) b p2) X.env]:=by rfl) :
  DS X (.Assign [.Subscript (.Name x p1) b p2] a pos) (sSetO i db da):=ps_imp (ps_asg ha (pg_sub (pe_var hN hv hd hcd) hb set_list hi) hs hw h1) fun D σ H ⟨W0,H0,W,ρ,w,er,h⟩=>by
 refine tD_of da er (h.bind.xw w.same) fun v y H1 s1 er1 r1 h1=>?_
 obtain ⟨vs,hi,h1⟩:=ownAt_on (P:=FinS X W0 H0 W H D) (fun z=>z) h1;obtain ⟨q,e1,l,zs,e2,wl,hl,rl⟩:=er1.val i _ hi;subst e2;refine ⟨.ref l,e1,?_⟩;have w1:=w.grow s1;have h1':=FinS.grow h1 (hid_same (W:=W) s1);refine tD_of db er1 (h1'.bind.xw w1.same) fun k z H2 s2 er2 r2 h2=>?_
 cases k with
 | int j =>
  obtain rfl:=Rep.int.mp r2;have hlen:=rl.length
  change FinS X W0 H0 W H1 D (match ixN vs.length j with | some m=>.ok (.nx (ρ.set i (some (.own (vs.set m v))))) | none=>.bad) at h2
  cases ej:ixN vs.length j with
  | none=>rw [ej] at h2;exact h2.elim
  | some m =>
   rw [ej] at h2;refine ⟨l,zs,j,m,rfl,rfl,s2 _ _ hl,by rw [hlen];exact ej,?_⟩;obtain ⟨k1,k2,k3⟩:=own_put (w1.grow s2) er2 hi e1 (Reps.set (r1.mono (hid_same s2)) m (rl.mono (hid_same s2)));exact h2 _ _ _ k1 ((hid_same s2).trans k2) k3
 | _=>exact h2.elim
def sFrz (i:Nat):Ds:=fun ρ=>(ownAt ρ i).bind fun vs=>.ok (.nx (ρ.set i (some (.val (.lst vs)))))
theorem dss_frz (i:Nat) (h:DSs X sts d):DSs X sts (sSeq (sFrz i) d):=pss_imp h fun D σ H ⟨W0,H0,W,ρ,w,er,h⟩=>by
 unfold sSeq sFrz at h;cases e:ownAt ρ i with
 | exc z=>unfold ownAt at e;split at e<;>cases e
 | bad=>rw [e] at h;exact h.elim
 | ok vs =>
  rw [e] at h;have hi:=ownAt_ok e;obtain ⟨y,e1,l,zs,e2,wl,hl,rl⟩:=er.val i _ hi;subst e2;have hm:Same (hid W H) (hid (fun b=>W b/\b≠l) H):=hid_mono fun b z=>z.1
  refine ⟨W0,H0,fun b=>W b/\b≠l,ρ.set i (some (.val (.lst vs))),⟨w.same,w.trk,fun b hb=>⟨w.sub b hb,fun z=>?_⟩,fun j us b h1 h2=>?_,fun j k us ts b h1 h2 h3 h4=>?_⟩,⟨by simp [er.len],fun j s q=>?_,fun b hb=>er.trk b hb.1⟩,FinS.grow h hm⟩
  ·subst z;exact w.trk b hb (w.own i vs b hi e1)
  ·rcases set_own h1 with ⟨_,z,_⟩ | ⟨_,h1⟩
   ·cases z
   ·exact w.own j us b h1 h2
  ·rcases set_own h1 with ⟨_,z,_⟩ | ⟨_,h1⟩
   ·cases z
   ·rcases set_own h2 with ⟨_,z,_⟩ | ⟨_,h2⟩
    ·cases z
    ·exact w.dis j k us ts b h1 h2 h3 h4
  ·rcases set_own q with ⟨rfl,rfl,_⟩ | ⟨ne,q⟩
   ·exact ⟨.ref l,e1,Rep.lst (.inl (.inl (hid_some (fun z=>z.2 rfl) hl))) (rl.mono hm)⟩
   ·obtain ⟨y,e3,q1⟩:=er.val j s q;refine ⟨y,e3,slRep_to hm (fun b ys es ey hw=>⟨⟨hw,fun z=>?_⟩,fun o ho=>ho⟩) q1⟩;subst es ey z;exact ne (w.dis i j vs ys b hi q e1 e3)
end
end Pu
namespace PuS
open PySem PyProof.Rows
def gallopP:Bool->Keyed->Array Keyed->Nat->Nat->Nat->StateT SortSt Sem (Option Nat):=sortPriv% PySem.Builtin.gallop
def mergeLoP:Array Keyed->Array Keyed->StateT SortSt Sem (Array Keyed):=sortPriv% PySem.Builtin.mergeLo
def mergeHiP:Array Keyed->Array Keyed->StateT SortSt Sem (Array Keyed):=sortPriv% PySem.Builtin.mergeHi
def kk (κ:KeyKind) (u:Keyed):κ.α:=(κ.keyOf u.1).getD κ.dflt
section
variable {prog:Program} {w:World} {A:Around} {E:Value->Shared->Prop} {s:Shared} {κ:KeyKind} {kd:SortKind} {G:List Keyed}
def Cmp (prog:Program) (w:World) (A:Around) (s:Shared) (κ:KeyKind) (kd:SortKind) (G:List Keyed):Prop :=
 ∀ u∈G,∀ v∈G,∀ (E:Value->Shared->Prop) (Q:Bool->Shared->Prop),Q (κ.blt (kk κ u) (kk κ v)) s->wpAny (model prog w) A (keyLt' kd u.1 v.1) Q E s
def Good (kd:SortKind) (st:SortSt):Prop:=kindOf st=kd/\failedOf st=none
theorem ltS (hC:Cmp prog w A s κ kd G) {st:SortSt} (hg:Good kd st) {u v:Keyed} (hu:u∈G) (hv:v∈G) {Q:Option Bool->SortSt->Prop} (h:Q (some (κ.blt (kk κ u) (kk κ v))) st) :
  wpS (model prog w) A E s (lt' u v) Q st:=by
 rw [lt'_eq];refine wpS_bind (wpS_get ?_);rw [hg.1];refine wpS_bind (wpS_lift (wpAny_attempt (hC u hu v hv _ _ ⟨rfl,?_⟩)));exact wpS_pure h
theorem elemS {arr:Array Keyed} {i:Nat} {st:SortSt} {M:Model} (hi:i<arr.size) {Q:Keyed->SortSt->Prop} (h:Q arr[i] st):wpS M A E s (elem' arr i) Q st:=by
 rw [elem'_eq,getElem?_pos arr i hi];exact wpS_pure h
def bey (κ:KeyKind) (left:Bool) (key:Keyed) (arr:Array Keyed) (base i:Nat):Bool :=
 match arr[base+i]? with
 | some x=>if left then κ.blt (kk κ x) (kk κ key) else !κ.blt (kk κ key) (kk κ x)
 | none=>false
theorem gallopS (hC:Cmp prog w A s κ kd G) {st:SortSt} (hg:Good kd st) {left:Bool} {key:Keyed} {arr:Array Keyed} {base n hint:Nat} (hk:key∈G) (ha:∀ x∈arr.toList,x∈G)
  (hsz:base+n<=arr.size) (hh:hint<n) (mono:∀ i j,i<=j->j<n->bey κ left key arr base j=true->bey κ left key arr base i=true)
  {Q:Option Nat->SortSt->Prop} (h:∀ k,k<=n->(∀ i,i<k->bey κ left key arr base i=true)->(∀ i,k<=i->i<n->bey κ left key arr base i=false)->Q (some k) st) :
  wpS (model prog w) A E s (gallopP left key arr base n hint) Q st:=by
 have ask:∀ (i:Nat) (R:Option Bool->SortSt->Prop),i<n->R (some (bey κ left key arr base i)) st ->
   wpS (model prog w) A E s (do
    let x <- elem' arr (base+i)
    if left=true then lt' x key else do
     let r <- lt' key x
     pure (Option.map (fun x=>!x) r)) R st:=by
  intro i R hi hR;have hi':base+i<arr.size:=by lia
  refine wpS_bind (elemS hi' ?_);have hx:arr[base+i]∈G:=ha _ (by simp);unfold bey at hR;rw [getElem?_pos arr (base+i) hi'] at hR;dsimp only at hR;cases left with
  | true =>
   simp only [if_true] at hR ⊢;exact ltS hC hg hx hk hR
  | false =>
   simp only [Bool.false_eq_true,if_false] at hR ⊢;exact wpS_bind (ltS hC hg hk hx (wpS_pure hR))
 generalize hb:bey κ left key arr base=b at *;refine wpS_bind (ask hint _ hh ?_);cases e0:b hint with
 | true =>
  show wpS _ _ _ _ (bind (forIn [:n] _ _) _) Q st;refine wpS_bind (wpS_mono (wpS_forRange (I:=fun x c st'=>st'=st/\∃ l o,c=(none,l,o)/\l<o/\hint+l<n/\b (hint+l)=true/\x+1<=o)
   (Q:=fun c st'=>st'=st/\∃ l o,c=(none,l,o)/\l<o/\hint+l<n/\b (hint+l)=true/\(n-hint<=o\/(hint+o<n/\b (hint+o)=false))) ?_ ?_ ⟨rfl,0,1,rfl,by lia,by lia,by simpa using e0,by lia⟩) ?_)
  ·rintro x c st' _ hx ⟨rfl,l,o,rfl,a1,a2,a3,a4⟩;dsimp only
   by_cases hge:o≥n-hint
   ·rw [if_pos hge];exact wpS_pure ⟨rfl,l,o,rfl,a1,a2,a3,.inl hge⟩
   ·rw [if_neg hge];refine wpS_bind (ask _ _ (by lia) ?_);cases e:b (hint+o) with
    | true =>
     simp only [Bool.not_true,Bool.false_eq_true,if_false];exact wpS_pure ⟨rfl,_,_,rfl,by lia,by lia,e,by lia⟩
    | false =>
     simp only [Bool.not_false,if_true];exact wpS_pure ⟨rfl,l,o,rfl,a1,a2,a3,.inr ⟨by lia,e⟩⟩
  ·rintro c st' ⟨rfl,l,o,rfl,a1,a2,a3,a4⟩;exact ⟨rfl,l,o,rfl,a1,a2,a3,.inl (by lia)⟩
  ·rintro c st' ⟨rfl,l,o,rfl,a1,a2,a3,a4⟩;have g1:hint+l+1<=hint+min o (n-hint):=by lia
   have g2:hint+min o (n-hint)<=n:=by lia
   have g3:∀ i,i<hint+l+1->b i=true:=fun i hi=>mono i _ (by lia) (by lia) a3
   have g4:∀ i,hint+min o (n-hint)<=i->i<n->b i=false:=fun i hi hin=>by
    rcases a4 with a4 | ⟨a4,a5⟩
    ·lia
    ·cases e2:b i with
     | false=>rfl
     | true=>have:=mono (hint+o) i (by lia) hin e2;rw [a5] at this;cases this
   clear a1 a2 a3 a4
   rename SortSt=>st0
   refine wpS_bind (wpS_mono (wpS_forRange (I:=fun x c st'=>st'=st0/\∃ l r,c=(none,l,r)/\l<=r/\r<=n/\r-l<=n-x/\(∀ i,i<l->b i=true)/\(∀ i,r<=i->i<n->b i=false))
    (Q:=fun c st'=>st'=st0/\∃ r,c=(none,r,r)/\r<=n/\(∀ i,i<r->b i=true)/\(∀ i,r<=i->i<n->b i=false)) ?_ ?_ ⟨rfl,_,_,rfl,g1,g2,by lia,g3,g4⟩) ?_)
   ·rintro x c st' _ hx ⟨rfl,l,r,rfl,a1,a2,a3,a4,a5⟩;dsimp only
    by_cases hge:l≥r
    ·rw [if_pos hge];have:l=r:=by lia
     subst this;exact wpS_pure ⟨rfl,l,rfl,a2,a4,a5⟩
    ·rw [if_neg hge];refine wpS_bind (ask _ _ (by lia) ?_);cases e:b (l+(r-l)/2) with
     | true =>
      simp only [if_true];exact wpS_pure ⟨rfl,_,_,rfl,by lia,a2,by lia,fun i hi=>mono i _ (by lia) (by lia) e,a5⟩
     | false =>
      simp only [Bool.false_eq_true,if_false];refine wpS_pure ⟨rfl,_,_,rfl,by lia,by lia,by lia,a4,fun i hi hin=>?_⟩
      cases e2:b i with
      | false=>rfl
      | true=>have:=mono _ i hi hin e2;rw [e] at this;cases this
   ·rintro c st' ⟨rfl,l,r,rfl,a1,a2,a3,a4,a5⟩;have:l=r:=by lia
    subst this;exact ⟨rfl,l,rfl,a2,a4,a5⟩
   ·rintro c st' ⟨rfl,r,rfl,a2,a4,a5⟩;exact wpS_pure (h r a2 a4 a5)
 | false =>
  show wpS _ _ _ _ (bind (forIn [:n] _ _) _) Q st;refine wpS_bind (wpS_mono (wpS_forRange (I:=fun x c st'=>st'=st/\∃ l o,c=(none,l,o)/\l<o/\l<=hint/\b (hint-l)=false/\x+1<=o)
   (Q:=fun c st'=>st'=st/\∃ l o,c=(none,l,o)/\l<o/\l<=hint/\b (hint-l)=false/\(hint+1<=o\/(o<=hint/\b (hint-o)=true))) ?_ ?_ ⟨rfl,0,1,rfl,by lia,by lia,by simpa using e0,by lia⟩) ?_)
  ·rintro x c st' _ hx ⟨rfl,l,o,rfl,a1,a2,a3,a4⟩;dsimp only
   by_cases hge:o≥hint+1
   ·rw [if_pos hge];exact wpS_pure ⟨rfl,l,o,rfl,a1,a2,a3,.inl hge⟩
   ·rw [if_neg hge];refine wpS_bind (ask _ _ (by lia) ?_);cases e:b (hint-o) with
    | true =>
     simp only [if_true];exact wpS_pure ⟨rfl,l,o,rfl,a1,a2,a3,.inr ⟨by lia,e⟩⟩
    | false =>
     simp only [Bool.false_eq_true,if_false];exact wpS_pure ⟨rfl,_,_,rfl,by lia,by lia,e,by lia⟩
  ·rintro c st' ⟨rfl,l,o,rfl,a1,a2,a3,a4⟩;exact ⟨rfl,l,o,rfl,a1,a2,a3,.inl (by lia)⟩
  ·rintro c st' ⟨rfl,l,o,rfl,a1,a2,a3,a4⟩;have g1:hint+1-min o (hint+1)<=hint-l:=Nat.le_trans (Nat.sub_le_sub_left (Nat.le_min.mpr ⟨a1,Nat.succ_le_succ a2⟩) (hint+1)) (Nat.le_of_eq (Nat.add_sub_add_right hint 1 l));have g2:hint-l<=n:=by lia
   have g3:∀ i,i<hint+1-min o (hint+1)->b i=true:=fun i hi=>by
    rcases a4 with a4 | ⟨a4,a5⟩
    ·lia
    ·exact mono i _ (by lia) (by lia) a5
   have g4:∀ i,hint-l<=i->i<n->b i=false:=fun i hi hin=>by
    cases e2:b i with
    | false=>rfl
    | true=>have:=mono (hint-l) i (by lia) hin e2;rw [a3] at this;cases this
   clear a1 a2 a3 a4
   rename SortSt=>st0
   refine wpS_bind (wpS_mono (wpS_forRange (I:=fun x c st'=>st'=st0/\∃ l r,c=(none,l,r)/\l<=r/\r<=n/\r-l<=n-x/\(∀ i,i<l->b i=true)/\(∀ i,r<=i->i<n->b i=false))
    (Q:=fun c st'=>st'=st0/\∃ r,c=(none,r,r)/\r<=n/\(∀ i,i<r->b i=true)/\(∀ i,r<=i->i<n->b i=false)) ?_ ?_ ⟨rfl,_,_,rfl,g1,g2,by lia,g3,g4⟩) ?_)
   ·rintro x c st' _ hx ⟨rfl,l,r,rfl,a1,a2,a3,a4,a5⟩;dsimp only
    by_cases hge:l≥r
    ·rw [if_pos hge];have:l=r:=by lia
     subst this;exact wpS_pure ⟨rfl,l,rfl,a2,a4,a5⟩
    ·rw [if_neg hge];refine wpS_bind (ask _ _ (by lia) ?_);cases e:b (l+(r-l)/2) with
     | true =>
      simp only [if_true];exact wpS_pure ⟨rfl,_,_,rfl,by lia,a2,by lia,fun i hi=>mono i _ (by lia) (by lia) e,a5⟩
     | false =>
      simp only [Bool.false_eq_true,if_false];refine wpS_pure ⟨rfl,_,_,rfl,by lia,by lia,by lia,a4,fun i hi hin=>?_⟩
      cases e2:b i with
      | false=>rfl
      | true=>have:=mono _ i hi hin e2;rw [e] at this;cases this
   ·rintro c st' ⟨rfl,l,r,rfl,a1,a2,a3,a4,a5⟩;have:l=r:=by lia
    subst this;exact ⟨rfl,l,rfl,a2,a4,a5⟩
   ·rintro c st' ⟨rfl,r,rfl,a2,a4,a5⟩;exact wpS_pure (h r a2 a4 a5)
end
end PuS
namespace PuS
open PySem PyProof.Rows
def le (κ:KeyKind) (x y:Keyed):Prop:=κ.kle (kk κ x) (kk κ y)
theorem le_refl {κ:KeyKind} (x:Keyed):le κ x x:=KeyOrd.kle_refl _
theorem le_trans {κ:KeyKind} {x y z:Keyed} (h1:le κ x y) (h2:le κ y z):le κ x z:=KeyOrd.kle_trans h1 h2
structure MInv (κ:KeyKind) (a b out:Array Keyed) (ia ib:Nat):Prop where
 perm:(out.toList++(a.toList.drop ia++b.toList.drop ib)).Perm (a.toList++b.toList)
 sa:(out.toList++a.toList.drop ia).Pairwise (le κ)
 sb:(out.toList++b.toList.drop ib).Pairwise (le κ)
def Mg (κ:KeyKind) (a b r:Array Keyed):Prop:=r.toList.Perm (a.toList++b.toList)/\r.toList.Pairwise (le κ)
section
variable {κ:KeyKind} {a b out:Array Keyed} {ia ib:Nat}
theorem drop_take {α:Type} (l:List α) (i n:Nat):l.drop i=(l.drop i).take n++l.drop (i+n):=by
 rw [<- List.drop_drop,List.take_append_drop]
theorem ext_list (x:Array Keyed) (i n:Nat):(x.extract i (i+n)).toList=(x.toList.drop i).take n:=by
 rw [Array.toList_extract,List.extract_eq_take_drop,Nat.add_sub_cancel_left]
theorem ext_all (x:Array Keyed) (i:Nat):(x.extract i x.size).toList=x.toList.drop i:=by
 rw [Array.toList_extract,List.extract_eq_take_drop,List.take_of_length_le];simp
theorem MInv.takeA (h:MInv κ a b out ia ib) (n:Nat) (hx:∀ x∈(a.toList.drop ia).take n,∀ y∈b.toList.drop ib,le κ x y):MInv κ a b (out++a.extract ia (ia+n)) (ia+n) ib:=by
 have e:=drop_take a.toList ia n;refine ⟨?_,?_,?_⟩
 ·rw [Array.toList_append,ext_list,List.append_assoc,<- List.append_assoc _ (a.toList.drop (ia+n)),<- e];exact h.perm
 ·rw [Array.toList_append,ext_list,List.append_assoc,<- e];exact h.sa
 ·rw [Array.toList_append,ext_list,List.append_assoc,List.pairwise_append];obtain ⟨s1,s2,s3⟩:=List.pairwise_append.mp h.sa;obtain ⟨t1,t2,t3⟩:=List.pairwise_append.mp h.sb;refine ⟨s1,List.pairwise_append.mpr ⟨s2.sublist (List.take_sublist _ _),t2,hx⟩,fun x hx' y hy=>?_⟩
  rcases List.mem_append.mp hy with hy | hy
  ·exact s3 x hx' y (List.mem_of_mem_take hy)
  ·exact t3 x hx' y hy
theorem MInv.takeB (h:MInv κ a b out ia ib) (n:Nat) (hx:∀ x∈(b.toList.drop ib).take n,∀ y∈a.toList.drop ia,le κ x y):MInv κ a b (out++b.extract ib (ib+n)) ia (ib+n):=by
 have e:=drop_take b.toList ib n;refine ⟨?_,?_,?_⟩
 ·rw [Array.toList_append,ext_list,List.append_assoc];refine List.Perm.trans (List.Perm.append_left _ ?_) h.perm
  conv=>rhs;rw [e]
  rw [<- List.append_assoc,<- List.append_assoc];exact List.Perm.append_right _ List.perm_append_comm
 ·rw [Array.toList_append,ext_list,List.append_assoc,List.pairwise_append];obtain ⟨s1,s2,s3⟩:=List.pairwise_append.mp h.sa;obtain ⟨t1,t2,t3⟩:=List.pairwise_append.mp h.sb;refine ⟨s1,List.pairwise_append.mpr ⟨t2.sublist (List.take_sublist _ _),s2,hx⟩,fun x hx' y hy=>?_⟩
  rcases List.mem_append.mp hy with hy | hy
  ·exact t3 x hx' y (List.mem_of_mem_take hy)
  ·exact s3 x hx' y hy
 ·rw [Array.toList_append,ext_list,List.append_assoc,<- e];exact h.sb
theorem push_ext {x o:Array Keyed} {i:Nat} (hi:i<x.size):o.push x[i]=o++x.extract i (i+1):=by
 apply Array.ext';rw [Array.toList_push,Array.toList_append,ext_list];congr 1;rw [List.drop_eq_getElem_cons (by simpa using hi)];simp
theorem MInv.pushA (h:MInv κ a b out ia ib) (hi:ia<a.size) (hx:∀ y∈b.toList.drop ib,le κ a[ia] y):MInv κ a b (out.push a[ia]) (ia+1) ib:=by
 rw [push_ext hi];refine h.takeA 1 fun x hx' y hy=>?_
 rw [List.drop_eq_getElem_cons (by simpa using hi)] at hx';simp at hx';rw [hx'];exact hx y hy
theorem MInv.pushB (h:MInv κ a b out ia ib) (hi:ib<b.size) (hx:∀ y∈a.toList.drop ia,le κ b[ib] y):MInv κ a b (out.push b[ib]) ia (ib+1):=by
 rw [push_ext hi];refine h.takeB 1 fun x hx' y hy=>?_
 rw [List.drop_eq_getElem_cons (by simpa using hi)] at hx';simp at hx';rw [hx'];exact hx y hy
theorem MInv.finB (h:MInv κ a b out ia ib) (e:ib=b.size):Mg κ a b (out++a.extract ia a.size++b.extract ib b.size):=by
 have e0:b.toList.drop ib=[]:=by rw [e];simp
 have p:=h.perm;rw [e0,List.append_nil] at p;unfold Mg;rw [Array.toList_append,Array.toList_append,ext_all,ext_all,e0,List.append_nil];exact ⟨p,h.sa⟩
theorem MInv.finA (h:MInv κ a b out ia ib) (e:ia=a.size):Mg κ a b (out++a.extract ia a.size++b.extract ib b.size):=by
 have e0:a.toList.drop ia=[]:=by rw [e];simp
 have p:=h.perm;rw [e0,List.nil_append] at p;unfold Mg;rw [Array.toList_append,Array.toList_append,ext_all,ext_all,e0,List.append_nil];exact ⟨p,h.sb⟩
theorem MInv.finL (h:MInv κ a b out ia ib) (e:ia+1=a.size) (hl:∀ y∈b.toList,∀ x∈a.toList.drop ia,le κ y x):Mg κ a b (out++b.extract ib b.size++a.extract ia a.size):=by
 unfold Mg;rw [Array.toList_append,Array.toList_append,ext_all,ext_all];obtain ⟨s1,s2,s3⟩:=List.pairwise_append.mp h.sa;refine ⟨List.Perm.trans ?_ h.perm,List.pairwise_append.mpr ⟨h.sb,s2,fun x hx y hy=>?_⟩⟩
 ·rw [List.append_assoc];exact List.Perm.append_left _ List.perm_append_comm
 ·rcases List.mem_append.mp hx with hx | hx
  ·exact s3 x hx y hy
  ·exact hl x (List.mem_of_mem_drop hx) y hy
theorem MInv.leA (h:MInv κ a b out ia ib) (hi:ia<a.size):∀ y∈a.toList.drop ia,le κ a[ia] y:=by
 obtain ⟨_,s2,_⟩:=List.pairwise_append.mp h.sa;rw [List.drop_eq_getElem_cons (by simpa using hi)] at s2 ⊢;intro y hy
 rcases List.mem_cons.mp hy with rfl | hy
 ·exact le_refl _
 ·have:=(List.pairwise_cons.mp s2).1 y hy;simpa using this
theorem MInv.leB (h:MInv κ a b out ia ib) (hi:ib<b.size):∀ y∈b.toList.drop ib,le κ b[ib] y:=by
 obtain ⟨_,s2,_⟩:=List.pairwise_append.mp h.sb;rw [List.drop_eq_getElem_cons (by simpa using hi)] at s2 ⊢;intro y hy
 rcases List.mem_cons.mp hy with rfl | hy
 ·exact le_refl _
 ·have:=(List.pairwise_cons.mp s2).1 y hy;simpa using this
theorem pair_get {l:List Keyed} (h:l.Pairwise (le κ)) {i j:Nat} (hij:i<=j) (hj:j<l.length):le κ l[i] l[j]:=by
 rcases Nat.lt_or_eq_of_le hij with q | q
 ·exact List.pairwise_iff_getElem.mp h i j (by lia) hj q
 ·subst q;exact le_refl _
theorem bey_mono {left:Bool} {key:Keyed} {arr:Array Keyed} {base n:Nat} (hs:(arr.toList.drop base).Pairwise (le κ)\/((arr.toList.drop base).take n).Pairwise (le κ)) (hsz:base+n<=arr.size) :
  ∀ i j,i<=j->j<n->bey κ left key arr base j=true->bey κ left key arr base i=true:=by
 intro i j hij hj hb;have h1:base+i<arr.size:=by lia
 have h2:base+j<arr.size:=by lia
 have hle:le κ arr[base+i] arr[base+j]:=by
  have hs':((arr.toList.drop base).take n).Pairwise (le κ):=by
   rcases hs with hs | hs
   ·exact hs.sublist (List.take_sublist _ _)
   ·exact hs
  have:=pair_get hs' hij (by simp;lia);simpa using this
 unfold bey at hb ⊢;rw [getElem?_pos arr _ h1];rw [getElem?_pos arr _ h2] at hb;dsimp only at hb ⊢;cases left with
 | true =>
  simp only [if_true] at hb ⊢;exact KeyOrd.klt_of_kle_of_klt hle hb
 | false =>
  simp only [Bool.false_eq_true,if_false,Bool.not_eq_true'] at hb ⊢;exact KeyOrd.kle_trans hle hb
end
end PuS
namespace PuS
open PySem PyProof.Rows
section
variable {prog:Program} {w:World} {A:Around} {E:Value->Shared->Prop} {s:Shared} {κ:KeyKind} {kd:SortKind} {G:List Keyed}
def Alike (kd:SortKind) (st st':SortSt):Prop:=arrOf st'=arrOf st/\pendingOf st'=pendingOf st/\Good kd st'
theorem Alike.refl {st:SortSt} (h:Good kd st):Alike kd st st:=⟨rfl,rfl,h⟩
theorem Alike.setG {st st':SortSt} (h:Alike kd st st') (g:Nat):Alike kd st (SortSt.mk' (kindOf st') (arrOf st') (pendingOf st') g (failedOf st')):=⟨h.1,h.2.1,h.2.2⟩
theorem wpS_ite {M:Model} {α:Type} {c:Prop} [Decidable c] {m1 m2:StateT SortSt Sem α} {Q:α->SortSt->Prop} {st:SortSt} (h1:c->wpS M A E s m1 Q st) (h2:¬ c->wpS M A E s m2 Q st):wpS M A E s (if c then m1 else m2) Q st:=by
 by_cases h:c
 ·rw [if_pos h];exact h1 h
 ·rw [if_neg h];exact h2 h
theorem wpS_join {M:Model} {α:Type} {c:Prop} [Decidable c] {m1 m2:StateT SortSt Sem α} {Q:α->SortSt->Prop} {st:SortSt} {F:Nat->StateT SortSt Sem α} {g1 g2:Nat} (e2:m2=F g2) (e1:m1=F g1)
  (h:∀ g,wpS M A E s (F g) Q st):wpS M A E s (if c then m1 else m2) Q st:=by
 subst e1 e2;exact wpS_ite (fun _=>h _) (fun _=>h _)
theorem wpS_k2 {M:Model} {α:Type} {c d d2:Prop} [Decidable c] [Decidable d] [Decidable d2] {x1 x2 r1 r0:StateT SortSt Sem α} {Q:α->SortSt->Prop} {st:SortSt} {F:Array Keyed->Nat->StateT SortSt Sem α} {o1 o0:Array Keyed} {i1 i0:Nat} (P:Array Keyed->Nat->Prop)
  (e0:r0=F o0 i0) (e1:r1=F o1 i1) (hx1:c->d->wpS M A E s x1 Q st) (hx2:c->¬ d->d2->wpS M A E s x2 Q st) (p1:c->¬ d->¬ d2->P o1 i1) (p0:¬ c->P o0 i0) (h:∀ o i,P o i->wpS M A E s (F o i) Q st) :
  wpS M A E s (if c then (if d then x1 else if d2 then x2 else r1) else r0) Q st:=by
 subst e0 e1;exact wpS_ite (fun hc=>wpS_ite (hx1 hc) fun hd=>wpS_ite (hx2 hc hd) fun h2=>h _ _ (p1 hc hd h2)) (fun hc=>h _ _ (p0 hc))
theorem bey_le_take {key:Keyed} {arr:Array Keyed} {base k:Nat} (k1:k<=arr.size-base) (k2:∀ i,i<k->bey κ false key arr base i=true):∀ x∈(arr.toList.drop base).take k,le κ x key:=by
 intro x hx;obtain ⟨i,hi,rfl⟩:=List.getElem_of_mem hx;have hi':i<k:=by simp at hi;lia
 have hb:base+i<arr.size:=by lia
 have:=k2 i hi';unfold bey at this;rw [getElem?_pos arr _ hb] at this;simpa [le,KeyOrd.kle] using this
theorem bey_le_drop {key:Keyed} {arr:Array Keyed} {base k:Nat} (k3:∀ i,k<=i->i<arr.size-base->bey κ false key arr base i=false):∀ x∈arr.toList.drop (base+k),le κ key x:=by
 intro x hx;obtain ⟨i,hi,rfl⟩:=List.getElem_of_mem hx;have hb:base+(k+i)<arr.size:=by simp at hi;lia
 have:=k3 (k+i) (by lia) (by lia);unfold bey at this;rw [getElem?_pos arr _ hb] at this;have h2:κ.blt (kk κ key) (kk κ arr[base+(k+i)])=true:=by simpa using this
 have h3:=KeyOrd.kle_of_klt h2;simpa [le,Nat.add_assoc] using h3
theorem bey_lt_take {key:Keyed} {arr:Array Keyed} {base k:Nat} (k1:k<=arr.size-base) (k2:∀ i,i<k->bey κ true key arr base i=true):∀ x∈(arr.toList.drop base).take k,le κ x key:=by
 intro x hx;obtain ⟨i,hi,rfl⟩:=List.getElem_of_mem hx;have hi':i<k:=by simp at hi;lia
 have hb:base+i<arr.size:=by lia
 have:=k2 i hi';unfold bey at this;rw [getElem?_pos arr _ hb] at this;have h2:κ.blt (kk κ arr[base+i]) (kk κ key)=true:=by simpa using this
 have h3:=KeyOrd.kle_of_klt h2;simpa [le] using h3
theorem bey_lt_drop {key:Keyed} {arr:Array Keyed} {base k:Nat} (k3:∀ i,k<=i->i<arr.size-base->bey κ true key arr base i=false):∀ x∈arr.toList.drop (base+k),le κ key x:=by
 intro x hx;obtain ⟨i,hi,rfl⟩:=List.getElem_of_mem hx;have hb:base+(k+i)<arr.size:=by simp at hi;lia
 have:=k3 (k+i) (by lia) (by lia);unfold bey at this;rw [getElem?_pos arr _ hb] at this;simpa [le,KeyOrd.kle,Nat.add_assoc] using this
theorem mergeLoS (hC:Cmp prog w A s κ kd G) {st:SortSt} (hg:Good kd st) {a b:Array Keyed} (ha:∀ x∈a.toList,x∈G) (hb:∀ x∈b.toList,x∈G)
  (sa:a.toList.Pairwise (le κ)) (sb:b.toList.Pairwise (le κ)) (na:0<a.size) (nb:0<b.size)
  (first:∀ x∈a.toList,le κ b[0] x) (lastOf:∀ y∈b.toList,∀ x∈a.toList.drop (a.size-1),le κ y x)
  {Q:Array Keyed->SortSt->Prop} (h:∀ r st',Mg κ a b r->Alike kd st st'->Q r st'):wpS (model prog w) A E s (mergeLoP a b) Q st:=by
 have inA:∀ i (hi:i<a.size),a[i]∈G:=fun i hi=>ha _ (by simp)
 have inB:∀ i (hi:i<b.size),b[i]∈G:=fun i hi=>hb _ (by simp)
 have hl:∀ ia,ia+1=a.size->∀ y∈b.toList,∀ x∈a.toList.drop ia,le κ y x:=fun ia e=>by
  have:ia=a.size-1:=by lia
  subst this;exact lastOf
 refine wpS_bind (wpS_lift (wpAny_rule ⟨rfl,?_⟩));refine wpS_bind (elemS nb ?_);have m0:MInv κ a b #[b[0]] 0 1:=by
  have z:MInv κ a b #[] 0 0:=⟨by simp,by simpa using sa,by simpa using sb⟩;exact z.pushB nb (by simpa using first)
 dsimp only
 by_cases c1:(1==b.size)=true
 ·rw [if_pos c1];exact wpS_pure (h _ _ (m0.finB (by simpa using c1)) (.refl hg))
 rw [if_neg c1]
 by_cases c2:(0+1==a.size)=true
 ·rw [if_pos c2];exact wpS_pure (h _ _ (m0.finL (by simpa using c2) (hl 0 (by simpa using c2))) (.refl hg))
 rw [if_neg c2]
 have c1' : 1 < b.size := by have : ¬ 1 = b.size := by simpa using c1
                             lia
 have c2' : 0 + 1 < a.size := by have : ¬ 0 + 1 = a.size := by simpa using c2
                                 lia
 refine wpS_bind (wpS_get ?_);refine wpS_bind (wpS_mono (wpS_forRange (I:=fun x c st'=>Alike kd st st'/\∃ out ia ib mg,c=(none,out,ia,ib,mg)/\MInv κ a b out ia ib/\ia+1<a.size/\ib<b.size/\x<=ia+ib)
  (Q:=fun c st'=>Alike kd st st'/\∃ r,c.1=some r/\Mg κ a b r) ?_ ?_ ⟨.refl hg,_,0,1,_,rfl,m0,c2',c1',by lia⟩) ?_)
 ·rintro x c st1 _ hx ⟨al1,out,ia,ib,mg,rfl,m,h1,h2,h3⟩;dsimp only;refine wpS_bind (wpS_mono (wpS_forRange (I:=fun y c st'=>Alike kd st st'/\∃ out ia' ib' ac bc,c=(none,out,ia',ib',ac,bc)/\MInv κ a b out ia' ib'/\ia'+1<a.size/\ib'<b.size/\ia+ib+y<=ia'+ib')
   (Q:=fun c st'=>Alike kd st st'/\((∃ r,c.1=some r/\Mg κ a b r)\/∃ out ia' ib' ac bc,c=(none,out,ia',ib',ac,bc)/\MInv κ a b out ia' ib'/\ia'+1<a.size/\ib'<b.size/\ia+ib<ia'+ib')) ?_ ?_ ⟨al1,out,ia,ib,0,0,rfl,m,h1,h2,by lia⟩) ?_)
  ·rintro y c st2 _ hy ⟨al2,out,ia',ib',ac,bc,rfl,m',g1,g2,g3⟩;dsimp only;have hia:ia'<a.size:=by lia
   refine wpS_bind (elemS g2 (wpS_bind (elemS hia (wpS_bind (ltS hC al2.2.2 (inB _ g2) (inA _ hia) ?_)))));cases e:κ.blt (kk κ b[ib']) (kk κ a[ia']) with
   | true =>
    simp only [if_true];refine wpS_bind (elemS g2 ?_);have m2:MInv κ a b (out.push b[ib']) ia' (ib'+1):=m'.pushB g2 fun z hz=>le_trans (KeyOrd.kle_of_klt e) (m'.leA hia z hz)
    by_cases d1:(ib'+1==b.size)=true
    ·rw [if_pos d1];exact wpS_pure ⟨al2,.inl ⟨_,rfl,m2.finB (by simpa using d1)⟩⟩
    ·rw [if_neg d1];have d1':¬ ib'+1=b.size:=by simpa using d1
     split
     ·exact wpS_pure ⟨al2,.inr ⟨_,_,_,_,_,rfl,m2,g1,by lia,by lia⟩⟩
     ·exact wpS_pure ⟨al2,_,_,_,_,_,rfl,m2,g1,by lia,by lia⟩
   | false =>
    simp only [Bool.false_eq_true,if_false];refine wpS_bind (elemS hia ?_);have m2:MInv κ a b (out.push a[ia']) (ia'+1) ib':=m'.pushA hia fun z hz=>le_trans (show le κ a[ia'] b[ib'] from e) (m'.leB g2 z hz)
    by_cases d1:(ia'+1+1==a.size)=true
    ·rw [if_pos d1];exact wpS_pure ⟨al2,.inl ⟨_,rfl,m2.finL (by simpa using d1) (hl _ (by simpa using d1))⟩⟩
    ·rw [if_neg d1];have d1':¬ ia'+1+1=a.size:=by simpa using d1
     split
     ·exact wpS_pure ⟨al2,.inr ⟨_,_,_,_,_,rfl,m2,by lia,g2,by lia⟩⟩
     ·exact wpS_pure ⟨al2,_,_,_,_,_,rfl,m2,by lia,g2,by lia⟩
  ·rintro c st2 ⟨al2,out,ia',ib',ac,bc,rfl,m',g1,g2,g3⟩;exact absurd g3 (by lia)
  ·rintro ⟨r,out,ia',ib',ac,bc⟩ st2 ⟨al2,hor⟩;dsimp only at hor ⊢
   rcases hor with ⟨r',rfl,mr⟩ | ⟨out,ia',ib',ac,bc,e,m',g1,g2,g3⟩
   ·exact wpS_pure ⟨al2,r',rfl,mr⟩
   ·cases e;dsimp only;refine wpS_bind (wpS_lift (wpAny_rule ⟨rfl,?_⟩));refine wpS_bind (wpS_mono (wpS_forRange (I:=fun y c st'=>Alike kd st st'/\∃ out ia'' ib'' mg ac bc,c=(none,out,ia'',ib'',mg,ac,bc)/\MInv κ a b out ia'' ib''/\ia''+1<a.size/\ib''<b.size/\ia+ib<ia''+ib'')
     (Q:=fun c st'=>Alike kd st st'/\((∃ r,c.1=some r/\Mg κ a b r)\/∃ out ia'' ib'' mg ac bc,c=(none,out,ia'',ib'',mg,ac,bc)/\MInv κ a b out ia'' ib''/\ia''+1<a.size/\ib''<b.size/\ia+ib<ia''+ib'')) ?_ ?_ ⟨al2,out,ia',ib',_,ac,bc,rfl,m',g1,g2,g3⟩) ?_)
    ·rintro y c st3 _ hy ⟨al3,out,i,j,mg,ac,bc,rfl,m,f1,f2,f3⟩;dsimp only;have hi:i<a.size:=by lia
     have hsA:(a.toList.drop i).Pairwise (le κ):=(List.pairwise_append.mp m.sa).2.1;apply wpS_join (g1:=mg-1) (g2:=mg)
     case e2=>rfl
     case e1=>rfl
     case h =>
      intro g;refine wpS_bind (wpS_modify ?_);refine wpS_bind (elemS f2 ?_);refine wpS_bind (gallopS (n:=a.size-i) (hint:=0) hC (by exact (al3.setG _).2.2) (inB _ f2) ha (by lia) (by lia) (bey_mono (.inl hsA) (by lia)) fun k k1 k2 k3=>?_)
      dsimp only;have kA:∀ x∈(a.toList.drop i).take k,∀ y∈b.toList.drop j,le κ x y:=fun x hx z hz=>le_trans (bey_le_take k1 k2 x hx) (m.leB f2 z hz)
      have mA:=m.takeA k kA;have lA:∀ y∈a.toList.drop (i+k),le κ b[j] y:=fun z hz=>bey_le_drop k3 z hz
      apply wpS_k2 (o0:=out) (i0:=i) (P:=fun o' i'=>MInv κ a b o' i' j/\i'+1<a.size/\(∀ y∈a.toList.drop i',le κ b[j] y)/\i<=i')
      case e0=>rfl
      case e1=>rfl
      case hx1=>exact fun hk d=>wpS_pure ⟨al3.setG _,.inl ⟨_,rfl,mA.finL (by simpa using d) (hl _ (by simpa using d))⟩⟩
      case hx2=>exact fun hk d d2=>wpS_pure ⟨al3.setG _,.inl ⟨_,rfl,mA.finA (by simpa using d2)⟩⟩
      case p1 =>
       intro hk d d2;have d':¬ i+k+1=a.size:=by simpa using d
       have d2':¬ i+k=a.size:=by simpa using d2
       exact ⟨mA,by lia,lA,by lia⟩
      case p0 =>
       intro hk;have k0:k=0:=by lia
       subst k0;exact ⟨m,f1,lA,Nat.le_refl _⟩
      case h =>
       rintro o' i' ⟨m',bI,lA',hii⟩;refine wpS_bind (elemS f2 ?_);have m5:=m'.pushB f2 lA';refine wpS_ite (fun d3=>?_) (fun d3=>?_)
       ·exact wpS_pure ⟨al3.setG _,.inl ⟨_,rfl,m5.finB (by simpa using d3)⟩⟩
       ·have d3':¬ j+1=b.size:=by simpa using d3
        have f5:j+1<b.size:=by lia
        have hiI:i'<a.size:=by lia
        have hsB:(b.toList.drop (j+1)).Pairwise (le κ):=(List.pairwise_append.mp m5.sb).2.1;refine wpS_bind (elemS hiI ?_);refine wpS_bind (gallopS (n:=b.size-(j+1)) (hint:=0) hC (by exact (al3.setG _).2.2) (inA _ hiI) hb (by lia) (by lia) (bey_mono (.inl hsB) (by lia)) fun q q1 q2 q3=>?_)
        dsimp only;have mB:=m5.takeB q (fun x hx z hz=>le_trans (bey_lt_take q1 q2 x hx) (m5.leA hiI z hz))
        have lB:∀ y∈b.toList.drop (j+1+q),le κ a[i'] y:=fun z hz=>bey_lt_drop q3 z hz
        refine wpS_ite (fun hq=>?_) (fun hq=>?_)
        ·refine wpS_ite (fun d4=>?_) (fun d4=>?_)
         ·exact wpS_pure ⟨al3.setG _,.inl ⟨_,rfl,mB.finB (by simpa using d4)⟩⟩
         ·have d4':¬ j+1+q=b.size:=by simpa using d4
          refine wpS_bind (elemS hiI ?_);have m6:=mB.pushA hiI lB;refine wpS_ite (fun d5=>?_) (fun d5=>?_)
          ·exact wpS_pure ⟨al3.setG _,.inl ⟨_,rfl,m6.finL (by simpa using d5) (hl _ (by simpa using d5))⟩⟩
          ·have d5':¬ i'+1+1=a.size:=by simpa using d5
           refine wpS_ite (fun _=>?_) (fun _=>?_)
           ·exact wpS_pure ⟨al3.setG _,.inr ⟨_,_,_,_,_,_,rfl,m6,by lia,by lia,by lia⟩⟩
           ·exact wpS_pure ⟨al3.setG _,_,_,_,_,_,_,rfl,m6,by lia,by lia,by lia⟩
        ·have q0:q=0:=by lia
         subst q0;refine wpS_bind (elemS hiI ?_);have m6:=m5.pushA hiI lB;refine wpS_ite (fun d5=>?_) (fun d5=>?_)
         ·exact wpS_pure ⟨al3.setG _,.inl ⟨_,rfl,m6.finL (by simpa using d5) (hl _ (by simpa using d5))⟩⟩
         ·have d5':¬ i'+1+1=a.size:=by simpa using d5
          refine wpS_ite (fun _=>?_) (fun _=>?_)
          ·exact wpS_pure ⟨al3.setG _,.inr ⟨_,_,_,_,_,_,rfl,m6,by lia,by lia,by lia⟩⟩
          ·exact wpS_pure ⟨al3.setG _,_,_,_,_,_,_,rfl,m6,by lia,by lia,by lia⟩
    ·rintro c st3 ⟨al3,out,i,j,mg,ac,bc,rfl,m,f1,f2,f3⟩;exact ⟨al3,.inr ⟨_,_,_,_,_,_,rfl,m,f1,f2,f3⟩⟩
    ·rintro ⟨r,out,i,j,mg,ac,bc⟩ st3 ⟨al3,hor⟩;dsimp only at hor ⊢
     rcases hor with ⟨r',rfl,mr⟩ | ⟨out,i,j,mg,ac,bc,e,m,f1,f2,f3⟩
     ·exact wpS_pure ⟨al3,r',rfl,mr⟩
     ·cases e;exact wpS_bind (wpS_modify (wpS_pure ⟨al3.setG _,_,_,_,_,rfl,m,f1,f2,by lia⟩))
 ·rintro c st1 ⟨al1,out,ia,ib,mg,rfl,m,h1,h2,h3⟩;exact absurd h3 (by lia)
 ·rintro ⟨r,rest⟩ st1 ⟨al1,r',e,mr⟩;cases e;exact wpS_pure (h _ _ mr al1)
end
end PuS
namespace PuS
open PySem PyProof.Rows
structure HInv (κ:KeyKind) (a b out:Array Keyed) (na nb:Nat):Prop where
 perm:((a.toList.take na++b.toList.take nb)++out.toList.reverse).Perm (a.toList++b.toList)
 sa:(a.toList.take na++out.toList.reverse).Pairwise (le κ)
 sb:(b.toList.take nb++out.toList.reverse).Pairwise (le κ)
section
variable {κ:KeyKind} {a b out:Array Keyed} {na nb:Nat}
theorem take_split {α:Type} (l:List α) {i j:Nat} (h:i<=j):l.take j=l.take i++(l.drop i).take (j-i):=by
 have:=List.take_append_drop i (l.take j);rw [List.take_take,List.drop_take,Nat.min_eq_left h] at this;exact this.symm
theorem ext_mid (x:Array Keyed) (i j:Nat):(x.extract i j).toList=(x.toList.drop i).take (j-i):=by
 rw [Array.toList_extract,List.extract_eq_take_drop]
theorem ext_pre (x:Array Keyed) (j:Nat):(x.extract 0 j).toList=x.toList.take j:=by
 rw [ext_mid];simp
theorem HInv.takeA (h:HInv κ a b out na nb) {i:Nat} (hi:i<=na) (hx:∀ x∈(a.toList.drop i).take (na-i),∀ y∈b.toList.take nb,le κ y x):HInv κ a b (out++(a.extract i na).reverse) i nb:=by
 have e:=take_split a.toList hi;have r:(out++(a.extract i na).reverse).toList.reverse=(a.toList.drop i).take (na-i)++out.toList.reverse:=by
  rw [Array.toList_append,Array.toList_reverse,ext_mid,List.reverse_append,List.reverse_reverse]
 obtain ⟨s1,s2,s3⟩:=List.pairwise_append.mp h.sa;obtain ⟨t1,t2,t3⟩:=List.pairwise_append.mp h.sb;refine ⟨?_,?_,?_⟩
 ·rw [r];refine List.Perm.trans ?_ h.perm;rw [e,<- List.append_assoc,List.append_assoc (a.toList.take i) (b.toList.take nb),List.append_assoc (a.toList.take i) ((a.toList.drop i).take (na-i))];exact List.Perm.append_right _ (List.Perm.append_left _ List.perm_append_comm)
 ·rw [r,<- List.append_assoc,<- e];exact h.sa
 ·rw [r,List.pairwise_append];rw [e] at s1 s3;refine ⟨t1,List.pairwise_append.mpr ⟨(List.pairwise_append.mp s1).2.1,s2,fun x hx' y hy=>s3 x (List.mem_append_right _ hx') y hy⟩,fun y hy z hz=>?_⟩
  rcases List.mem_append.mp hz with hz | hz
  ·exact hx z hz y hy
  ·exact t3 y hy z hz
theorem HInv.takeB (h:HInv κ a b out na nb) {i:Nat} (hi:i<=nb) (hx:∀ x∈(b.toList.drop i).take (nb-i),∀ y∈a.toList.take na,le κ y x):HInv κ a b (out++(b.extract i nb).reverse) na i:=by
 have e:=take_split b.toList hi;have r:(out++(b.extract i nb).reverse).toList.reverse=(b.toList.drop i).take (nb-i)++out.toList.reverse:=by
  rw [Array.toList_append,Array.toList_reverse,ext_mid,List.reverse_append,List.reverse_reverse]
 obtain ⟨s1,s2,s3⟩:=List.pairwise_append.mp h.sb;obtain ⟨t1,t2,t3⟩:=List.pairwise_append.mp h.sa;refine ⟨?_,?_,?_⟩
 ·rw [r,<- List.append_assoc,List.append_assoc (a.toList.take na),<- e];exact h.perm
 ·rw [r,List.pairwise_append];rw [e] at s1 s3;refine ⟨t1,List.pairwise_append.mpr ⟨(List.pairwise_append.mp s1).2.1,s2,fun x hx' y hy=>s3 x (List.mem_append_right _ hx') y hy⟩,fun y hy z hz=>?_⟩
  rcases List.mem_append.mp hz with hz | hz
  ·exact hx z hz y hy
  ·exact t3 y hy z hz
 ·rw [r,<- List.append_assoc,<- e];exact h.sb
theorem push_rev {x o:Array Keyed} {n:Nat} (hn:0<n) (hi:n-1<x.size):o.push x[n-1]=o++(x.extract (n-1) n).reverse:=by
 apply Array.ext';rw [Array.toList_push,Array.toList_append,Array.toList_reverse,ext_mid,List.drop_eq_getElem_cons (by simpa using hi)];have:n-(n-1)=1:=by lia
 rw [this];simp
theorem mid_one {x:Array Keyed} {n:Nat} (hn:0<n) (hi:n-1<x.size) {y:Keyed} (h:y∈(x.toList.drop (n-1)).take (n-(n-1))):y=x[n-1]:=by
 have:n-(n-1)=1:=by lia
 rw [this,List.drop_eq_getElem_cons (by simpa using hi)] at h;simpa using h
theorem HInv.pushA (h:HInv κ a b out na nb) (hn:0<na) (hi:na-1<a.size) (hx:∀ y∈b.toList.take nb,le κ y a[na-1]):HInv κ a b (out.push a[na-1]) (na-1) nb:=by
 rw [push_rev hn hi];exact h.takeA (by lia) fun x hx' y hy=>by rw [mid_one hn hi hx'];exact hx y hy
theorem HInv.pushB (h:HInv κ a b out na nb) (hn:0<nb) (hi:nb-1<b.size) (hx:∀ y∈a.toList.take na,le κ y b[nb-1]):HInv κ a b (out.push b[nb-1]) na (nb-1):=by
 rw [push_rev hn hi];exact h.takeB (by lia) fun x hx' y hy=>by rw [mid_one hn hi hx'];exact hx y hy
theorem HInv.finA (h:HInv κ a b out na nb) (e:na=0):Mg κ a b (a.extract 0 na++b.extract 0 nb++out.reverse):=by
 subst e;unfold Mg;have p:=h.perm;rw [List.take_zero,List.nil_append] at p;rw [Array.toList_append,Array.toList_append,ext_pre,ext_pre,Array.toList_reverse,List.take_zero,List.nil_append];exact ⟨p,h.sb⟩
theorem HInv.finB (h:HInv κ a b out na nb) (e:nb=0):Mg κ a b (a.extract 0 na++b.extract 0 nb++out.reverse):=by
 subst e;unfold Mg;have p:=h.perm;rw [List.take_zero,List.append_nil] at p;rw [Array.toList_append,Array.toList_append,ext_pre,ext_pre,Array.toList_reverse,List.take_zero,List.append_nil];exact ⟨p,h.sa⟩
theorem HInv.finF (h:HInv κ a b out na nb) (hl:∀ x∈a.toList,∀ y∈b.toList.take nb,le κ y x):Mg κ a b (b.extract 0 nb++a.extract 0 na++out.reverse):=by
 unfold Mg;rw [Array.toList_append,Array.toList_append,ext_pre,ext_pre,Array.toList_reverse];obtain ⟨t1,t2,t3⟩:=List.pairwise_append.mp h.sb;refine ⟨List.Perm.trans (List.Perm.append_right _ List.perm_append_comm) h.perm,?_⟩;rw [List.append_assoc,List.pairwise_append];refine ⟨t1,h.sa,fun y hy x hx=>?_⟩
 rcases List.mem_append.mp hx with hx | hx
 ·exact hl x (List.mem_of_mem_take hx) y hy
 ·exact t3 y hy x hx
theorem last_le {x:Array Keyed} {n:Nat} (hn:0<n) (hi:n<=x.size) (hs:(x.toList.take n).Pairwise (le κ)):∀ y∈x.toList.take n,le κ y x[n-1]:=by
 intro y hy;obtain ⟨i,hi',rfl⟩:=List.getElem_of_mem hy;have h1:i<n:=by simp at hi';lia
 have:=pair_get hs (i:=i) (j:=n-1) (by lia) (by simp;lia);simpa using this
theorem HInv.leA (h:HInv κ a b out na nb) (hn:0<na) (hi:na<=a.size):∀ y∈a.toList.take na,le κ y a[na-1]:=last_le hn hi (List.pairwise_append.mp h.sa).1
theorem HInv.leB (h:HInv κ a b out na nb) (hn:0<nb) (hi:nb<=b.size):∀ y∈b.toList.take nb,le κ y b[nb-1]:=last_le hn hi (List.pairwise_append.mp h.sb).1
theorem bey0_le {key:Keyed} {arr:Array Keyed} {k n:Nat} (hn:n<=arr.size) (k1:k<=n) (k2:∀ i,i<k->bey κ false key arr 0 i=true):∀ x∈arr.toList.take k,le κ x key:=by
 have:=bey_le_take (κ:=κ) (key:=key) (arr:=arr) (base:=0) (k:=k) (by lia) k2;simpa using this
theorem bey0_lt {key:Keyed} {arr:Array Keyed} {k n:Nat} (hn:n<=arr.size) (k1:k<=n) (k2:∀ i,i<k->bey κ true key arr 0 i=true):∀ x∈arr.toList.take k,le κ x key:=by
 have:=bey_lt_take (κ:=κ) (key:=key) (arr:=arr) (base:=0) (k:=k) (by lia) k2;simpa using this
theorem bey0_mid {left:Bool} {key:Keyed} {arr:Array Keyed} {k n:Nat} (hn:n<=arr.size) (k3:∀ i,k<=i->i<n->bey κ left key arr 0 i=false):∀ x∈(arr.toList.drop k).take (n-k),le κ key x:=by
 intro x hx;obtain ⟨i,hi,rfl⟩:=List.getElem_of_mem hx;have hb:0+(k+i)<arr.size:=by simp at hi;lia
 have hin:k+i<n:=by simp at hi;lia
 have:=k3 (k+i) (by lia) hin;unfold bey at this;rw [getElem?_pos arr _ hb] at this;cases left with
 | true=>simpa [le,KeyOrd.kle] using this
 | false =>
  have h2:κ.blt (kk κ key) (kk κ arr[0+(k+i)])=true:=by simpa using this
  have h3:=KeyOrd.kle_of_klt h2;simpa [le] using h3
end
section
variable {prog:Program} {w:World} {A:Around} {E:Value->Shared->Prop} {s:Shared} {κ:KeyKind} {kd:SortKind} {G:List Keyed}
theorem mergeHiS (hC:Cmp prog w A s κ kd G) {st:SortSt} (hg:Good kd st) {a b:Array Keyed} (ha:∀ x∈a.toList,x∈G) (hb:∀ x∈b.toList,x∈G)
  (sa:a.toList.Pairwise (le κ)) (sb:b.toList.Pairwise (le κ)) (za:0<a.size) (zb:0<b.size)
  (first:∀ x∈a.toList,∀ y∈b.toList.take 1,le κ y x) (lastOf:∀ y∈b.toList,le κ y a[a.size-1])
  {Q:Array Keyed->SortSt->Prop} (h:∀ r st',Mg κ a b r->Alike kd st st'->Q r st'):wpS (model prog w) A E s (mergeHiP a b) Q st:=by
 have inA:∀ i (hi:i<a.size),a[i]∈G:=fun i hi=>ha _ (by simp)
 have inB:∀ i (hi:i<b.size),b[i]∈G:=fun i hi=>hb _ (by simp)
 have hf:∀ nb,nb=1->∀ x∈a.toList,∀ y∈b.toList.take nb,le κ y x:=fun nb e=>by subst e;exact first
 refine wpS_bind (wpS_lift (wpAny_rule ⟨rfl,?_⟩));refine wpS_bind (elemS (show a.size-1<a.size by lia) ?_);have m0:HInv κ a b #[a[a.size-1]] (a.size-1) b.size:=by
  have ta:a.toList.take a.size=a.toList:=List.take_of_length_le (by simp);have tb:b.toList.take b.size=b.toList:=List.take_of_length_le (by simp);have z:HInv κ a b #[] a.size b.size:=⟨by rw [ta,tb];simp,by rw [ta];simpa using sa,by rw [tb];simpa using sb⟩;exact z.pushA za (by lia) (by rw [tb];exact lastOf)
 dsimp only;refine wpS_ite (fun c1=>?_) (fun c1=>?_)
 ·exact wpS_pure (h _ _ (m0.finA (by simpa using c1)) (.refl hg))
 refine wpS_ite (fun c2=>?_) (fun c2=>?_)
 ·exact wpS_pure (h _ _ (m0.finF (hf _ (by simpa using c2))) (.refl hg))
 have c1':¬ a.size-1=0:=by simpa using c1
 have c2':¬ b.size=1:=by simpa using c2
 refine wpS_bind (wpS_get ?_);refine wpS_bind (wpS_mono (wpS_forRange (I:=fun x c st'=>Alike kd st st'/\∃ na nb out mg,c=(none,na,nb,out,mg)/\HInv κ a b out na nb/\0<na/\na<=a.size/\1<nb/\nb<=b.size/\na+nb+x<a.size+b.size)
  (Q:=fun c st'=>Alike kd st st'/\∃ r,c.1=some r/\Mg κ a b r) ?_ ?_ ⟨.refl hg,a.size-1,b.size,_,_,rfl,m0,by lia,by lia,by lia,by lia,by lia⟩) ?_)
 ·rintro x c st1 _ hx ⟨al1,na,nb,out,mg,rfl,m,h1,h1',h2,h2',h3⟩;dsimp only;refine wpS_bind (wpS_mono (wpS_forRange (I:=fun y c st'=>Alike kd st st'/\∃ na' nb' out ac bc,c=(none,na',nb',out,ac,bc)/\HInv κ a b out na' nb'/\0<na'/\na'<=a.size/\1<nb'/\nb'<=b.size/\na'+nb'+y<=na+nb)
   (Q:=fun c st'=>Alike kd st st'/\((∃ r,c.1=some r/\Mg κ a b r)\/∃ na' nb' out ac bc,c=(none,na',nb',out,ac,bc)/\HInv κ a b out na' nb'/\0<na'/\na'<=a.size/\1<nb'/\nb'<=b.size/\na'+nb'<na+nb)) ?_ ?_ ⟨al1,na,nb,out,0,0,rfl,m,h1,h1',h2,h2',by lia⟩) ?_)
  ·rintro y c st2 _ hy ⟨al2,na',nb',out,ac,bc,rfl,m',g1,g1',g2,g2',g3⟩;dsimp only;have hi:na'-1<a.size:=by lia
   have hj:nb'-1<b.size:=by lia
   refine wpS_bind (elemS hj (wpS_bind (elemS hi (wpS_bind (ltS hC al2.2.2 (inB _ hj) (inA _ hi) ?_)))));cases e:κ.blt (kk κ b[nb'-1]) (kk κ a[na'-1]) with
   | true =>
    simp only [if_true];refine wpS_bind (elemS hi ?_);have m2:=m'.pushA g1 hi fun z hz=>le_trans (m'.leB (by lia) g2' z hz) (KeyOrd.kle_of_klt e)
    refine wpS_ite (fun d1=>?_) (fun d1=>?_)
    ·exact wpS_pure ⟨al2,.inl ⟨_,rfl,m2.finA (by simpa using d1)⟩⟩
    ·have d1':¬ na'-1=0:=by simpa using d1
     refine wpS_ite (fun _=>?_) (fun _=>?_)
     ·exact wpS_pure ⟨al2,.inr ⟨_,_,_,_,_,rfl,m2,by lia,by lia,g2,g2',by lia⟩⟩
     ·exact wpS_pure ⟨al2,_,_,_,_,_,rfl,m2,by lia,by lia,g2,g2',by lia⟩
   | false =>
    simp only [Bool.false_eq_true,if_false];refine wpS_bind (elemS hj ?_);have m2:=m'.pushB (by lia) hj fun z hz=>le_trans (m'.leA g1 g1' z hz) (show le κ a[na'-1] b[nb'-1] from e)
    refine wpS_ite (fun d1=>?_) (fun d1=>?_)
    ·exact wpS_pure ⟨al2,.inl ⟨_,rfl,m2.finF (hf _ (by simpa using d1))⟩⟩
    ·have d1':¬ nb'-1=1:=by simpa using d1
     refine wpS_ite (fun _=>?_) (fun _=>?_)
     ·exact wpS_pure ⟨al2,.inr ⟨_,_,_,_,_,rfl,m2,g1,g1',by lia,by lia,by lia⟩⟩
     ·exact wpS_pure ⟨al2,_,_,_,_,_,rfl,m2,g1,g1',by lia,by lia,by lia⟩
  ·rintro c st2 ⟨al2,na',nb',out,ac,bc,rfl,m',g1,g1',g2,g2',g3⟩;exact absurd g3 (by lia)
  ·rintro ⟨r,na',nb',out,ac,bc⟩ st2 ⟨al2,hor⟩;dsimp only at hor ⊢
   rcases hor with ⟨r',rfl,mr⟩ | ⟨na',nb',out,ac,bc,e,m',g1,g1',g2,g2',g3⟩
   ·exact wpS_pure ⟨al2,r',rfl,mr⟩
   ·cases e;dsimp only;refine wpS_bind (wpS_lift (wpAny_rule ⟨rfl,?_⟩));refine wpS_bind (wpS_mono (wpS_forRange (I:=fun y c st'=>Alike kd st st'/\∃ na' nb' out mg ac bc,c=(none,na',nb',out,mg,ac,bc)/\HInv κ a b out na' nb'/\0<na'/\na'<=a.size/\1<nb'/\nb'<=b.size/\na'+nb'<na+nb)
     (Q:=fun c st'=>Alike kd st st'/\((∃ r,c.1=some r/\Mg κ a b r)\/∃ na' nb' out mg ac bc,c=(none,na',nb',out,mg,ac,bc)/\HInv κ a b out na' nb'/\0<na'/\na'<=a.size/\1<nb'/\nb'<=b.size/\na'+nb'<na+nb)) ?_ ?_ ⟨al2,na',nb',out,_,ac,bc,rfl,m',g1,g1',g2,g2',g3⟩) ?_)
    ·rintro y c st3 _ hy ⟨al3,i,nb,out,mg,ac,bc,rfl,m,f1,f1',f2,f2',f3⟩;dsimp only;have hj:nb-1<b.size:=by lia
     have hsA:((a.toList.drop 0).take i).Pairwise (le κ):=by simpa using (List.pairwise_append.mp m.sa).1
     apply wpS_join (g1:=mg-1) (g2:=mg)
     case e2=>rfl
     case e1=>rfl
     case h =>
      intro g;refine wpS_bind (wpS_modify ?_);refine wpS_bind (elemS hj ?_);refine wpS_bind (gallopS (n:=i) (hint:=i-1) hC (by exact (al3.setG _).2.2) (inB _ hj) ha (by lia) (by lia) (bey_mono (.inr hsA) (by lia)) fun k k1 k2 k3=>?_)
      dsimp only;have mA:=m.takeA k1 (fun x hx y hy=>le_trans (m.leB (by lia) f2' y hy) (bey0_mid f1' k3 x hx))
      have lA:∀ y∈a.toList.take k,le κ y b[nb-1]:=bey0_le (n:=i) f1' k1 k2;refine wpS_ite (fun hk=>?_) (fun hk=>?_)
      ·refine wpS_ite (fun d=>?_) (fun d=>?_)
       ·exact wpS_pure ⟨al3.setG _,.inl ⟨_,rfl,mA.finA (by simpa using d)⟩⟩
       ·have d':¬ k=0:=by simpa using d
        have n0:0<k:=by lia
        refine wpS_bind (elemS hj ?_);have m5:=mA.pushB (by lia) hj lA;refine wpS_ite (fun d3=>?_) (fun d3=>?_)
        ·exact wpS_pure ⟨al3.setG _,.inl ⟨_,rfl,m5.finF (hf _ (by simpa using d3))⟩⟩
        ·have d3':¬ nb-1=1:=by simpa using d3
         have hiI:k-1<a.size:=by lia
         have hsB:((b.toList.drop 0).take (nb-1)).Pairwise (le κ):=by simpa using (List.pairwise_append.mp m5.sb).1
         refine wpS_bind (elemS hiI ?_);refine wpS_bind (gallopS (n:=nb-1) (hint:=nb-1-1) hC (by exact (al3.setG _).2.2) (inA _ hiI) hb (by lia) (by lia) (bey_mono (.inr hsB) (by lia)) fun q q1 q2 q3=>?_)
         dsimp only;have mB:=m5.takeB q1 (fun x hx y hy=>le_trans (m5.leA n0 (by lia) y hy) (bey0_mid (by lia) q3 x hx))
         have lB:∀ y∈b.toList.take q,le κ y a[k-1]:=bey0_lt (n:=nb-1) (by lia) q1 q2;refine wpS_ite (fun hq=>?_) (fun hq=>?_)
         ·refine wpS_ite (fun d4=>?_) (fun d4=>?_)
          ·exact wpS_pure ⟨al3.setG _,.inl ⟨_,rfl,mB.finF (hf _ (by simpa using d4))⟩⟩
          ·refine wpS_ite (fun d6=>?_) (fun d6=>?_)
           ·exact wpS_pure ⟨al3.setG _,.inl ⟨_,rfl,mB.finB (by simpa using d6)⟩⟩
           ·have d4':¬ q=1:=by simpa using d4
            have d6':¬ q=0:=by simpa using d6
            refine wpS_bind (elemS hiI ?_);have m6:=mB.pushA n0 (by lia) lB;refine wpS_ite (fun d5=>?_) (fun d5=>?_)
            ·exact wpS_pure ⟨al3.setG _,.inl ⟨_,rfl,m6.finA (by simpa using d5)⟩⟩
            ·have d5':¬ k-1=0:=by simpa using d5
             refine wpS_ite (fun _=>?_) (fun _=>?_)
             ·exact wpS_pure ⟨al3.setG _,.inr ⟨_,_,_,_,_,_,rfl,m6,by lia,by lia,by lia,by lia,by lia⟩⟩
             ·exact wpS_pure ⟨al3.setG _,_,_,_,_,_,_,rfl,m6,by lia,by lia,by lia,by lia,by lia⟩
         ·have q0:q=nb-1:=by lia
          subst q0;refine wpS_bind (elemS hiI ?_);have m6:=m5.pushA n0 (by lia) lB;refine wpS_ite (fun d5=>?_) (fun d5=>?_)
          ·exact wpS_pure ⟨al3.setG _,.inl ⟨_,rfl,m6.finA (by simpa using d5)⟩⟩
          ·have d5':¬ k-1=0:=by simpa using d5
           refine wpS_ite (fun _=>?_) (fun _=>?_)
           ·exact wpS_pure ⟨al3.setG _,.inr ⟨_,_,_,_,_,_,rfl,m6,by lia,by lia,by lia,by lia,by lia⟩⟩
           ·exact wpS_pure ⟨al3.setG _,_,_,_,_,_,_,rfl,m6,by lia,by lia,by lia,by lia,by lia⟩
      ·have k0:k=i:=by lia
       subst k0;have n0:0<k:=f1;refine wpS_bind (elemS hj ?_);have m5:=m.pushB (by lia) hj lA;refine wpS_ite (fun d3=>?_) (fun d3=>?_)
       ·exact wpS_pure ⟨al3.setG _,.inl ⟨_,rfl,m5.finF (hf _ (by simpa using d3))⟩⟩
       ·have d3':¬ nb-1=1:=by simpa using d3
        have hiI:k-1<a.size:=by lia
        have hsB:((b.toList.drop 0).take (nb-1)).Pairwise (le κ):=by simpa using (List.pairwise_append.mp m5.sb).1
        refine wpS_bind (elemS hiI ?_);refine wpS_bind (gallopS (n:=nb-1) (hint:=nb-1-1) hC (by exact (al3.setG _).2.2) (inA _ hiI) hb (by lia) (by lia) (bey_mono (.inr hsB) (by lia)) fun q q1 q2 q3=>?_)
        dsimp only;have mB:=m5.takeB q1 (fun x hx y hy=>le_trans (m5.leA n0 (by lia) y hy) (bey0_mid (by lia) q3 x hx))
        have lB:∀ y∈b.toList.take q,le κ y a[k-1]:=bey0_lt (n:=nb-1) (by lia) q1 q2;refine wpS_ite (fun hq=>?_) (fun hq=>?_)
        ·refine wpS_ite (fun d4=>?_) (fun d4=>?_)
         ·exact wpS_pure ⟨al3.setG _,.inl ⟨_,rfl,mB.finF (hf _ (by simpa using d4))⟩⟩
         ·refine wpS_ite (fun d6=>?_) (fun d6=>?_)
          ·exact wpS_pure ⟨al3.setG _,.inl ⟨_,rfl,mB.finB (by simpa using d6)⟩⟩
          ·have d4':¬ q=1:=by simpa using d4
           have d6':¬ q=0:=by simpa using d6
           refine wpS_bind (elemS hiI ?_);have m6:=mB.pushA n0 (by lia) lB;refine wpS_ite (fun d5=>?_) (fun d5=>?_)
           ·exact wpS_pure ⟨al3.setG _,.inl ⟨_,rfl,m6.finA (by simpa using d5)⟩⟩
           ·have d5':¬ k-1=0:=by simpa using d5
            refine wpS_ite (fun _=>?_) (fun _=>?_)
            ·exact wpS_pure ⟨al3.setG _,.inr ⟨_,_,_,_,_,_,rfl,m6,by lia,by lia,by lia,by lia,by lia⟩⟩
            ·exact wpS_pure ⟨al3.setG _,_,_,_,_,_,_,rfl,m6,by lia,by lia,by lia,by lia,by lia⟩
        ·have q0:q=nb-1:=by lia
         subst q0;refine wpS_bind (elemS hiI ?_);have m6:=m5.pushA n0 (by lia) lB;refine wpS_ite (fun d5=>?_) (fun d5=>?_)
         ·exact wpS_pure ⟨al3.setG _,.inl ⟨_,rfl,m6.finA (by simpa using d5)⟩⟩
         ·have d5':¬ k-1=0:=by simpa using d5
          refine wpS_ite (fun _=>?_) (fun _=>?_)
          ·exact wpS_pure ⟨al3.setG _,.inr ⟨_,_,_,_,_,_,rfl,m6,by lia,by lia,by lia,by lia,by lia⟩⟩
          ·exact wpS_pure ⟨al3.setG _,_,_,_,_,_,_,rfl,m6,by lia,by lia,by lia,by lia,by lia⟩
    ·rintro c st3 ⟨al3,i,j,out,mg,ac,bc,rfl,m,f1,f1',f2,f2',f3⟩;exact ⟨al3,.inr ⟨_,_,_,_,_,_,rfl,m,f1,f1',f2,f2',f3⟩⟩
    ·rintro ⟨r,i,j,out,mg,ac,bc⟩ st3 ⟨al3,hor⟩;dsimp only at hor ⊢
     rcases hor with ⟨r',rfl,mr⟩ | ⟨i,j,out,mg,ac,bc,e,m,f1,f1',f2,f2',f3⟩
     ·exact wpS_pure ⟨al3,r',rfl,mr⟩
     ·cases e;exact wpS_bind (wpS_modify (wpS_pure ⟨al3.setG _,_,_,_,_,rfl,m,f1,f1',f2,f2',by lia⟩))
 ·rintro c st1 ⟨al1,na,nb,out,mg,rfl,m,h1,h1',h2,h2',h3⟩;exact absurd h3 (by lia)
 ·rintro ⟨r,rest⟩ st1 ⟨al1,r',e,mr⟩;cases e;exact wpS_pure (h _ _ mr al1)
end
end PuS
namespace PuS
open PySem PyProof.Rows
def Up (κ:KeyKind) (xs:Array Keyed) (lo m:Nat):Prop:=∀ i j,lo<=i->i<=j->j<lo+m->κ.kle (KK κ xs i) (KK κ xs j)
def Down (κ:KeyKind) (xs:Array Keyed) (lo m:Nat):Prop:=∀ i j,lo<=i->i<=j->j<lo+m->κ.kle (KK κ xs j) (KK κ xs i)
theorem Up.snoc {κ:KeyKind} {xs:Array Keyed} {lo m:Nat} (h:Up κ xs lo m) (hm:0<m) (h1:κ.kle (KK κ xs (lo+m-1)) (KK κ xs (lo+m))):Up κ xs lo (m+1):=fun i j a1 a2 a3=>by
 by_cases e:j=lo+m
 ·subst e
  by_cases e2:i=lo+m
  ·subst e2;exact KeyOrd.kle_refl _
  ·exact KeyOrd.kle_trans (h i (lo+m-1) a1 (by lia) (by lia)) h1
 ·exact h i j a1 a2 (by lia)
theorem Down.snoc {κ:KeyKind} {xs:Array Keyed} {lo m:Nat} (h:Down κ xs lo m) (hm:0<m) (h1:κ.kle (KK κ xs (lo+m)) (KK κ xs (lo+m-1))):Down κ xs lo (m+1):=fun i j a1 a2 a3=>by
 by_cases e:j=lo+m
 ·subst e
  by_cases e2:i=lo+m
  ·subst e2;exact KeyOrd.kle_refl _
  ·exact KeyOrd.kle_trans h1 (h i (lo+m-1) a1 (by lia) (by lia))
 ·exact h i j a1 a2 (by lia)
theorem Down.same {κ:KeyKind} {xs ys:Array Keyed} {lo m:Nat} (h:Down κ xs lo m) (e:∀ k,KK κ ys k=KK κ xs k):Down κ ys lo m:=fun i j a1 a2 a3=>by rw [e,e];exact h i j a1 a2 a3
theorem Down.flip {κ:KeyKind} {xs:Array Keyed} {lo m:Nat} (h:Down κ xs lo m) (hs:lo+m<=xs.size):Up κ (mirror xs lo (lo+m) ((lo+m-lo)/2)) lo m:=fun i j a1 a2 a3=>by
 rw [KK_mirror hs,KK_mirror hs,if_pos (by lia),if_pos (by lia)];exact h _ _ (by lia) (by lia) (by lia)
structure Kin (kd:SortKind) (st st':SortSt) (lo:Nat):Prop where
 perm:(arrOf st').Perm (arrOf st)
 low:∀ k,k<lo->(arrOf st')[k]?=(arrOf st)[k]?
 pend:pendingOf st'=pendingOf st
 good:Good kd st'
theorem Kin.refl {kd:SortKind} {st:SortSt} {lo:Nat} (h:Good kd st):Kin kd st st lo:=⟨Array.Perm.refl _,fun _ _=>rfl,rfl,h⟩
theorem Kin.size {kd:SortKind} {st st':SortSt} {lo:Nat} (h:Kin kd st st' lo):(arrOf st').size=(arrOf st).size:=h.perm.size_eq
theorem Kin.mirror {kd:SortKind} {st st':SortSt} {lo i j d:Nat} (h:Kin kd st st' lo) (hi:lo<=i) (hj:j<=(arrOf st').size) (hd:2*d<=j-i):Kin kd st (setArr st' (mirror (arrOf st') i j d)) lo :=
 ⟨(mirror_perm _ _ _ _).trans h.perm,fun k hk=>by
  show (PyProof.Rows.mirror (arrOf st') i j d)[k]?=_;rw [getElem?_mirror hj d hd,if_neg (by lia)];exact h.low k hk,h.pend,h.good⟩
theorem Kin.bubble {kd:SortKind} {st st':SortSt} {lo src d:Nat} (h:Kin kd st st' lo) (hs:src<(arrOf st').size) (hd:lo+d<=src):Kin kd st (setArr st' (bubble (arrOf st') src d)) lo :=
 ⟨(bubble_perm _ _ _).trans h.perm,fun k hk=>by
  show (PyProof.Rows.bubble (arrOf st') src d)[k]?=_;rw [getElem?_bubble hs d (by lia),if_neg (by lia),if_neg (by lia)];exact h.low k hk,h.pend,h.good⟩
section
variable {prog:Program} {w:World} {A:Around} {E:Value->Shared->Prop} {s:Shared} {κ:KeyKind} {kd:SortKind} {G:List Keyed}
theorem KK_eq {xs:Array Keyed} {i:Nat} (h:i<xs.size):KK κ xs i=kk κ xs[i]:=by
 unfold KK kk;rw [getElem?_pos xs i h]
theorem ltAtS (hC:Cmp prog w A s κ kd G) {st:SortSt} (hg:Good kd st) (hG:∀ x∈(arrOf st).toList,x∈G) {i j:Nat} (hi:i<(arrOf st).size) (hj:j<(arrOf st).size) {Q:Option Bool->SortSt->Prop}
  (h:Q (some (κ.blt (KK κ (arrOf st) i) (KK κ (arrOf st) j))) st):wpS (model prog w) A E s (ltAt' i j) Q st:=by
 rw [ltAt'_eq];refine wpS_bind (wpS_get ?_);refine wpS_bind (elemS hi (wpS_bind (elemS hj ?_)));rw [KK_eq hi,KK_eq hj] at h;exact ltS hC hg (hG _ (by simp)) (hG _ (by simp)) h
theorem revS {i j:Nat} {st:SortSt} {M:Model} {Q:PUnit->SortSt->Prop} (h:Q ⟨⟩ (setArr st (mirror (arrOf st) i j ((j-i)/2)))):wpS M A E s (reverseSlice' i j) Q st:=by
 rw [reverseSlice'_eq];exact wpS_modify h
theorem countRunS (hC:Cmp prog w A s κ kd G) {st:SortSt} (hg:Good kd st) (hG:∀ x∈(arrOf st).toList,x∈G) {lo nrem:Nat} (hn:lo+nrem<=(arrOf st).size) (h1:1<=nrem)
  {Q:Option Nat->SortSt->Prop} (h:∀ m st',Kin kd st st' lo->1<=m->m<=nrem->Up κ (arrOf st') lo m->Q (some m) st'):wpS (model prog w) A E s (countRun' lo nrem) Q st:=by
 have hGk:∀ st',Kin kd st st' lo->∀ x∈(arrOf st').toList,x∈G:=fun st' k x hx=>hG x ((Array.perm_iff_toList_perm.mp k.perm).mem_iff.mp hx)
 refine wpS_bind (wpS_mono (wpS_forRange (I:=fun x c st'=>st'=st/\c=(none,x)/\Up κ (arrOf st) lo x)
  (Q:=fun c st'=>st'=st/\∃ n,c=(none,n)/\1<=n/\n<=nrem/\Up κ (arrOf st) lo n/\(n=nrem\/κ.klt (KK κ (arrOf st) (lo+n)) (KK κ (arrOf st) (lo+n-1)))) ?_ ?_ ⟨rfl,rfl,fun i j a1 a2 a3=>?_⟩) ?_)
 ·rintro x c st' hx1 hx2 ⟨rfl,rfl,up⟩;dsimp only;refine wpS_bind (ltAtS hC hg hG (by lia) (by lia) ?_);cases e:κ.blt (KK κ (arrOf st') (lo+x)) (KK κ (arrOf st') (lo+x-1)) with
  | true =>
   simp only [if_true];exact wpS_pure ⟨rfl,x,rfl,hx1,by lia,up,.inr e⟩
  | false =>
   simp only [Bool.false_eq_true,if_false];exact wpS_pure ⟨rfl,rfl,up.snoc (by lia) e⟩
 ·rintro c st' ⟨rfl,rfl,up⟩;have e:max 1 nrem=nrem:=by lia
  rw [e] at up ⊢;exact ⟨rfl,nrem,rfl,h1,Nat.le_refl _,up,.inl rfl⟩
 ·have:i=j:=by lia
  subst this;exact KeyOrd.kle_refl _
 ·rintro c st' ⟨rfl,n,rfl,n1,n2,up,hor⟩;dsimp only;refine wpS_ite (fun c1=>?_) (fun c1=>?_)
  ·exact wpS_pure (h n st' (.refl hg) n1 n2 up)
  have c1':¬ n=nrem:=by simpa using c1
  have hlt:=hor.resolve_left c1';refine wpS_ite (fun c2=>?_) (fun c2=>?_)
  ·refine wpS_bind (ltAtS hC hg hG (by lia) (by lia) ?_);generalize er:κ.blt _ _=bb;cases bb with
   | true =>
    simp only [if_true];exact wpS_pure (h n st' (.refl hg) n1 n2 up)
   | false =>
    simp only [Bool.false_eq_true,if_false];have all:∀ k,lo<=k->k<lo+n->KK κ (arrOf st') k=KK κ (arrOf st') (lo+n-1):=fun k a1 a2 =>
     KeyOrd.kle_antisymm (up k (lo+n-1) a1 (by lia) (by lia)) (KeyOrd.kle_trans er (up lo k (Nat.le_refl _) a1 a2))
    have kf:=(Kin.refl (lo:=lo) hg).mirror (i:=lo) (j:=lo+n) (d:=(lo+n-lo)/2) (Nat.le_refl _) (by lia) (by lia);have df:Down κ (arrOf (setArr st' (mirror (arrOf st') lo (lo+n) ((lo+n-lo)/2)))) lo (n+1):=Down.same (fun i j a1 a2 a3=>by
     by_cases ej:j=lo+n
     ·subst ej
      by_cases ei:i=lo+n
      ·subst ei;exact KeyOrd.kle_refl _
      ·rw [all i a1 (by lia)];exact KeyOrd.kle_of_klt hlt
     ·rw [all i a1 (by lia),all j (by lia) (by lia)];exact KeyOrd.kle_refl _) (KK_mirror_equal (by lia) all)
    refine wpS_bind (revS ?_);refine wpS_bind (wpS_lift (wpAny_rule ⟨rfl,?_⟩));refine wpS_bind (wpS_mono (wpS_forRange (I:=fun x c st3=>Kin kd st' st3 lo/\∃ q,c=(none,x,q)/\Down κ (arrOf st3) lo x/\q+1<=x/\∀ i,lo+x-(q+1)<=i->i<lo+x->KK κ (arrOf st3) i=KK κ (arrOf st3) (lo+x-1))
     (Q:=fun c st3=>Kin kd st' st3 lo/\∃ x q,c=(none,x,q)/\n+1<=x/\x<=nrem/\Down κ (arrOf st3) lo x/\q+1<=x/\∀ i,lo+x-(q+1)<=i->i<lo+x->KK κ (arrOf st3) i=KK κ (arrOf st3) (lo+x-1)) ?_ ?_ ⟨kf,0,rfl,df,by lia,fun i a1 a2=>by congr 1;lia⟩) ?_)
    ·rintro x c st3 hx1 hx2 ⟨k3,q,rfl,dn,q1,qe⟩;dsimp only;have hz:=k3.size;refine wpS_bind (ltAtS hC k3.good (hGk _ k3) (by lia) (by lia) ?_);cases e:κ.blt (KK κ (arrOf st3) (lo+x)) (KK κ (arrOf st3) (lo+x-1)) with
     | true =>
      simp only [if_true];have dn2:=dn.snoc (by lia) (KeyOrd.kle_of_klt e);refine wpS_ite (fun hq=>?_) (fun hq=>?_)
      ·refine wpS_bind (revS (wpS_pure ⟨k3.mirror (by lia) (by lia) (by lia),0,rfl,dn2.same (KK_mirror_equal (by lia) qe),by lia,fun i a1 a2=>by congr 1;lia⟩))
      ·exact wpS_pure ⟨k3,0,rfl,dn2,by lia,fun i a1 a2=>by congr 1;lia⟩
     | false =>
      simp only [Bool.false_eq_true,if_false];refine wpS_bind (ltAtS hC k3.good (hGk _ k3) (by lia) (by lia) ?_);cases e2:κ.blt (KK κ (arrOf st3) (lo+x-1)) (KK κ (arrOf st3) (lo+x)) with
      | true =>
       simp only [if_true];exact wpS_pure ⟨k3,x,q,rfl,hx1,by lia,dn,q1,qe⟩
      | false =>
       simp only [Bool.false_eq_true,if_false];have ee:KK κ (arrOf st3) (lo+x)=KK κ (arrOf st3) (lo+x-1):=KeyOrd.kle_antisymm e2 e;refine wpS_pure ⟨k3,q+1,rfl,dn.snoc (by lia) e2,by lia,fun i a1 a2=>?_⟩
       rw [show lo+(x+1)-1=lo+x by lia]
       by_cases ei:i=lo+x
       ·subst ei;rfl
       ·rw [ee];exact qe i (by lia) (by lia)
    ·rintro c st3 ⟨k3,q,rfl,dn,q1,qe⟩;have e:max (n+1) nrem=nrem:=by lia
     rw [e] at dn q1 qe ⊢;exact ⟨k3,nrem,q,rfl,by lia,Nat.le_refl _,dn,q1,qe⟩
    ·rintro c st3 ⟨k3,n',q,rfl,w1,w2,dn,q1,qe⟩;dsimp only;have hz:=k3.size;refine wpS_ite (fun hq=>?_) (fun hq=>?_)
     ·have kq:=k3.mirror (lo:=lo) (i:=lo+n'-(q+1)) (j:=lo+n') (d:=(lo+n'-(lo+n'-(q+1)))/2) (by lia) (by lia) (by lia);have dq:Down κ (arrOf (setArr st3 (mirror (arrOf st3) (lo+n'-(q+1)) (lo+n') ((lo+n'-(lo+n'-(q+1)))/2)))) lo n':=dn.same (KK_mirror_equal (by lia) qe);refine wpS_bind (revS ?_);refine wpS_bind (revS ?_);have kz:=kq.mirror (lo:=lo) (i:=lo) (j:=lo+n') (d:=(lo+n'-lo)/2) (Nat.le_refl _) (by rw [kq.size];lia) (by lia);have uz:=dq.flip (by rw [kq.size];lia);have nz:=kq.size;refine wpS_bind (wpS_mono (wpS_forRange (I:=fun x c st4=>st4=setArr (setArr st3 (mirror (arrOf st3) (lo+n'-(q+1)) (lo+n') ((lo+n'-(lo+n'-(q+1)))/2))) (mirror (arrOf (setArr st3 (mirror (arrOf st3) (lo+n'-(q+1)) (lo+n') ((lo+n'-(lo+n'-(q+1)))/2)))) lo (lo+n') ((lo+n'-lo)/2))/\c=(none,x)/\Up κ (arrOf st4) lo x)
       (Q:=fun c st4=>st4=setArr (setArr st3 (mirror (arrOf st3) (lo+n'-(q+1)) (lo+n') ((lo+n'-(lo+n'-(q+1)))/2))) (mirror (arrOf (setArr st3 (mirror (arrOf st3) (lo+n'-(q+1)) (lo+n') ((lo+n'-(lo+n'-(q+1)))/2)))) lo (lo+n') ((lo+n'-lo)/2))/\∃ m,c=(none,m)/\1<=m/\m<=nrem/\Up κ (arrOf st4) lo m) ?_ ?_ ⟨rfl,rfl,uz⟩) ?_)
      ·rintro x c st4 hx1 hx2 ⟨rfl,rfl,up⟩;dsimp only;refine wpS_bind (ltAtS hC kz.good (hGk _ kz) (by rw [kz.size];lia) (by rw [kz.size];lia) ?_);generalize eb:κ.blt _ _=bb;cases bb with
       | true =>
        simp only [if_true];exact wpS_pure ⟨rfl,x,rfl,by lia,by lia,up⟩
       | false =>
        simp only [Bool.false_eq_true,if_false];exact wpS_pure ⟨rfl,rfl,up.snoc (by lia) eb⟩
      ·rintro c st4 ⟨rfl,rfl,up⟩;have e:max n' nrem=nrem:=by lia
       rw [e] at up ⊢;exact ⟨rfl,nrem,rfl,h1,Nat.le_refl _,up⟩
      ·rintro c st4 ⟨rfl,m,rfl,m1,m2,up⟩;exact wpS_pure (h m _ kz m1 m2 up)
     ·skip
      refine wpS_bind (revS ?_);have kz:=k3.mirror (lo:=lo) (i:=lo) (j:=lo+n') (d:=(lo+n'-lo)/2) (Nat.le_refl _) (by rw [k3.size];lia) (by lia);have uz:=dn.flip (by rw [k3.size];lia);have nz:=k3.size;refine wpS_bind (wpS_mono (wpS_forRange (I:=fun x c st4=>st4=setArr st3 (mirror (arrOf st3) lo (lo+n') ((lo+n'-lo)/2))/\c=(none,x)/\Up κ (arrOf st4) lo x)
       (Q:=fun c st4=>st4=setArr st3 (mirror (arrOf st3) lo (lo+n') ((lo+n'-lo)/2))/\∃ m,c=(none,m)/\1<=m/\m<=nrem/\Up κ (arrOf st4) lo m) ?_ ?_ ⟨rfl,rfl,uz⟩) ?_)
      ·rintro x c st4 hx1 hx2 ⟨rfl,rfl,up⟩;dsimp only;refine wpS_bind (ltAtS hC kz.good (hGk _ kz) (by rw [kz.size];lia) (by rw [kz.size];lia) ?_);generalize eb:κ.blt _ _=bb;cases bb with
       | true =>
        simp only [if_true];exact wpS_pure ⟨rfl,x,rfl,by lia,by lia,up⟩
       | false =>
        simp only [Bool.false_eq_true,if_false];exact wpS_pure ⟨rfl,rfl,up.snoc (by lia) eb⟩
      ·rintro c st4 ⟨rfl,rfl,up⟩;have e:max n' nrem=nrem:=by lia
       rw [e] at up ⊢;exact ⟨rfl,nrem,rfl,h1,Nat.le_refl _,up⟩
      ·rintro c st4 ⟨rfl,m,rfl,m1,m2,up⟩;exact wpS_pure (h m _ kz m1 m2 up)
  ·have e1:n=1:=by lia
   have df:Down κ (arrOf st') lo (n+1):=fun i j a1 a2 a3=>by
    subst e1
    by_cases ei:i=j
    ·subst ei;exact KeyOrd.kle_refl _
    ·have:i=lo:=by lia
     have:j=lo+1:=by lia
     subst i j;exact KeyOrd.kle_of_klt hlt
   refine wpS_bind (wpS_lift (wpAny_rule ⟨rfl,?_⟩));refine wpS_bind (wpS_mono (wpS_forRange (I:=fun x c st3=>Kin kd st' st3 lo/\∃ q,c=(none,x,q)/\Down κ (arrOf st3) lo x/\q+1<=x/\∀ i,lo+x-(q+1)<=i->i<lo+x->KK κ (arrOf st3) i=KK κ (arrOf st3) (lo+x-1))
    (Q:=fun c st3=>Kin kd st' st3 lo/\∃ x q,c=(none,x,q)/\n+1<=x/\x<=nrem/\Down κ (arrOf st3) lo x/\q+1<=x/\∀ i,lo+x-(q+1)<=i->i<lo+x->KK κ (arrOf st3) i=KK κ (arrOf st3) (lo+x-1)) ?_ ?_ ⟨(.refl hg),0,rfl,df,by lia,fun i a1 a2=>by congr 1;lia⟩) ?_)
   ·rintro x c st3 hx1 hx2 ⟨k3,q,rfl,dn,q1,qe⟩;dsimp only;have hz:=k3.size;refine wpS_bind (ltAtS hC k3.good (hGk _ k3) (by lia) (by lia) ?_);cases e:κ.blt (KK κ (arrOf st3) (lo+x)) (KK κ (arrOf st3) (lo+x-1)) with
    | true =>
     simp only [if_true];have dn2:=dn.snoc (by lia) (KeyOrd.kle_of_klt e);refine wpS_ite (fun hq=>?_) (fun hq=>?_)
     ·refine wpS_bind (revS (wpS_pure ⟨k3.mirror (by lia) (by lia) (by lia),0,rfl,dn2.same (KK_mirror_equal (by lia) qe),by lia,fun i a1 a2=>by congr 1;lia⟩))
     ·exact wpS_pure ⟨k3,0,rfl,dn2,by lia,fun i a1 a2=>by congr 1;lia⟩
    | false =>
     simp only [Bool.false_eq_true,if_false];refine wpS_bind (ltAtS hC k3.good (hGk _ k3) (by lia) (by lia) ?_);cases e2:κ.blt (KK κ (arrOf st3) (lo+x-1)) (KK κ (arrOf st3) (lo+x)) with
     | true =>
      simp only [if_true];exact wpS_pure ⟨k3,x,q,rfl,hx1,by lia,dn,q1,qe⟩
     | false =>
      simp only [Bool.false_eq_true,if_false];have ee:KK κ (arrOf st3) (lo+x)=KK κ (arrOf st3) (lo+x-1):=KeyOrd.kle_antisymm e2 e;refine wpS_pure ⟨k3,q+1,rfl,dn.snoc (by lia) e2,by lia,fun i a1 a2=>?_⟩
      rw [show lo+(x+1)-1=lo+x by lia]
      by_cases ei:i=lo+x
      ·subst ei;rfl
      ·rw [ee];exact qe i (by lia) (by lia)
   ·rintro c st3 ⟨k3,q,rfl,dn,q1,qe⟩;have e:max (n+1) nrem=nrem:=by lia
    rw [e] at dn q1 qe ⊢;exact ⟨k3,nrem,q,rfl,by lia,Nat.le_refl _,dn,q1,qe⟩
   ·rintro c st3 ⟨k3,n',q,rfl,w1,w2,dn,q1,qe⟩;dsimp only;have hz:=k3.size;refine wpS_ite (fun hq=>?_) (fun hq=>?_)
    ·have kq:=k3.mirror (lo:=lo) (i:=lo+n'-(q+1)) (j:=lo+n') (d:=(lo+n'-(lo+n'-(q+1)))/2) (by lia) (by lia) (by lia);have dq:Down κ (arrOf (setArr st3 (mirror (arrOf st3) (lo+n'-(q+1)) (lo+n') ((lo+n'-(lo+n'-(q+1)))/2)))) lo n':=dn.same (KK_mirror_equal (by lia) qe);refine wpS_bind (revS ?_);refine wpS_bind (revS ?_);have kz:=kq.mirror (lo:=lo) (i:=lo) (j:=lo+n') (d:=(lo+n'-lo)/2) (Nat.le_refl _) (by rw [kq.size];lia) (by lia);have uz:=dq.flip (by rw [kq.size];lia);have nz:=kq.size;refine wpS_bind (wpS_mono (wpS_forRange (I:=fun x c st4=>st4=setArr (setArr st3 (mirror (arrOf st3) (lo+n'-(q+1)) (lo+n') ((lo+n'-(lo+n'-(q+1)))/2))) (mirror (arrOf (setArr st3 (mirror (arrOf st3) (lo+n'-(q+1)) (lo+n') ((lo+n'-(lo+n'-(q+1)))/2)))) lo (lo+n') ((lo+n'-lo)/2))/\c=(none,x)/\Up κ (arrOf st4) lo x)
      (Q:=fun c st4=>st4=setArr (setArr st3 (mirror (arrOf st3) (lo+n'-(q+1)) (lo+n') ((lo+n'-(lo+n'-(q+1)))/2))) (mirror (arrOf (setArr st3 (mirror (arrOf st3) (lo+n'-(q+1)) (lo+n') ((lo+n'-(lo+n'-(q+1)))/2)))) lo (lo+n') ((lo+n'-lo)/2))/\∃ m,c=(none,m)/\1<=m/\m<=nrem/\Up κ (arrOf st4) lo m) ?_ ?_ ⟨rfl,rfl,uz⟩) ?_)
     ·rintro x c st4 hx1 hx2 ⟨rfl,rfl,up⟩;dsimp only;refine wpS_bind (ltAtS hC kz.good (hGk _ kz) (by rw [kz.size];lia) (by rw [kz.size];lia) ?_);generalize eb:κ.blt _ _=bb;cases bb with
      | true =>
       simp only [if_true];exact wpS_pure ⟨rfl,x,rfl,by lia,by lia,up⟩
      | false =>
       simp only [Bool.false_eq_true,if_false];exact wpS_pure ⟨rfl,rfl,up.snoc (by lia) eb⟩
     ·rintro c st4 ⟨rfl,rfl,up⟩;have e:max n' nrem=nrem:=by lia
      rw [e] at up ⊢;exact ⟨rfl,nrem,rfl,h1,Nat.le_refl _,up⟩
     ·rintro c st4 ⟨rfl,m,rfl,m1,m2,up⟩;exact wpS_pure (h m _ kz m1 m2 up)
    ·skip
     refine wpS_bind (revS ?_);have kz:=k3.mirror (lo:=lo) (i:=lo) (j:=lo+n') (d:=(lo+n'-lo)/2) (Nat.le_refl _) (by rw [k3.size];lia) (by lia);have uz:=dn.flip (by rw [k3.size];lia);have nz:=k3.size;refine wpS_bind (wpS_mono (wpS_forRange (I:=fun x c st4=>st4=setArr st3 (mirror (arrOf st3) lo (lo+n') ((lo+n'-lo)/2))/\c=(none,x)/\Up κ (arrOf st4) lo x)
      (Q:=fun c st4=>st4=setArr st3 (mirror (arrOf st3) lo (lo+n') ((lo+n'-lo)/2))/\∃ m,c=(none,m)/\1<=m/\m<=nrem/\Up κ (arrOf st4) lo m) ?_ ?_ ⟨rfl,rfl,uz⟩) ?_)
     ·rintro x c st4 hx1 hx2 ⟨rfl,rfl,up⟩;dsimp only;refine wpS_bind (ltAtS hC kz.good (hGk _ kz) (by rw [kz.size];lia) (by rw [kz.size];lia) ?_);generalize eb:κ.blt _ _=bb;cases bb with
      | true =>
       simp only [if_true];exact wpS_pure ⟨rfl,x,rfl,by lia,by lia,up⟩
      | false =>
       simp only [Bool.false_eq_true,if_false];exact wpS_pure ⟨rfl,rfl,up.snoc (by lia) eb⟩
     ·rintro c st4 ⟨rfl,rfl,up⟩;have e:max n' nrem=nrem:=by lia
      rw [e] at up ⊢;exact ⟨rfl,nrem,rfl,h1,Nat.le_refl _,up⟩
     ·rintro c st4 ⟨rfl,m,rfl,m1,m2,up⟩;exact wpS_pure (h m _ kz m1 m2 up)
theorem binarySortS (hC:Cmp prog w A s κ kd G) {st:SortSt} (hg:Good kd st) (hG:∀ x∈(arrOf st).toList,x∈G) {lo n ok:Nat} (hn:lo+n<=(arrOf st).size) (hok:ok<=n) (hs:Up κ (arrOf st) lo ok)
  {Q:Bool->SortSt->Prop} (h:∀ st',Kin kd st st' lo->Up κ (arrOf st') lo n->Q true st'):wpS (model prog w) A E s (binarySort' lo n ok) Q st:=by
 have hGk:∀ st',Kin kd st st' lo->∀ x∈(arrOf st').toList,x∈G:=fun st' k x hx=>hG x ((Array.perm_iff_toList_perm.mp k.perm).mem_iff.mp hx)
 refine wpS_bind (wpS_mono (wpS_forRange (I:=fun k c st'=>c=(none,())/\Kin kd st st' lo/\Up κ (arrOf st') lo (min k n))
  (Q:=fun c st'=>c=(none,())/\Kin kd st st' lo/\Up κ (arrOf st') lo n) ?_ ?_ ⟨rfl,.refl hg,fun i j a1 a2 a3=>?_⟩) ?_)
 ·rintro k c st1 hk1 hk2 ⟨rfl,kin,up⟩;rw [show min k n=k by lia] at up;have hz:=kin.size;dsimp only;refine wpS_bind (wpS_mono (wpS_forRange (I:=fun x c st2=>st2=st1/\∃ l r,c=(none,l,r)/\l<=r/\r<=k/\r-l<=k-x/\(∀ i,lo<=i->i<lo+l->κ.kle (KK κ (arrOf st1) i) (KK κ (arrOf st1) (lo+k)))/\(∀ i,lo+r<=i->i<lo+k->κ.klt (KK κ (arrOf st1) (lo+k)) (KK κ (arrOf st1) i)))
   (Q:=fun c st2=>st2=st1/\∃ l,c=(none,l,l)/\l<=k/\(∀ i,lo<=i->i<lo+l->κ.kle (KK κ (arrOf st1) i) (KK κ (arrOf st1) (lo+k)))/\(∀ i,lo+l<=i->i<lo+k->κ.klt (KK κ (arrOf st1) (lo+k)) (KK κ (arrOf st1) i))) ?_ ?_ ⟨rfl,0,k,rfl,by lia,by lia,by lia,fun i a1 a2=>by lia,fun i a1 a2=>by lia⟩) ?_)
  ·rintro x c st2 _ hx ⟨rfl,l,r,rfl,b1,b2,b3,b4,b5⟩;dsimp only;refine wpS_ite (fun hge=>?_) (fun hge=>?_)
   ·have:l=r:=by lia
    subst this;exact wpS_pure ⟨rfl,l,rfl,b2,b4,b5⟩
   ·refine wpS_bind (ltAtS hC kin.good (hGk _ kin) (by lia) (by lia) ?_);cases e:κ.blt (KK κ (arrOf st2) (lo+k)) (KK κ (arrOf st2) (lo+(l+r)/2)) with
    | true =>
     simp only [if_true];exact wpS_pure ⟨rfl,l,(l+r)/2,rfl,by lia,by lia,by lia,b4,fun i a1 a2=>KeyOrd.klt_of_klt_of_kle e (up _ i (by lia) a1 a2)⟩
    | false =>
     simp only [Bool.false_eq_true,if_false];exact wpS_pure ⟨rfl,(l+r)/2+1,r,rfl,by lia,by lia,by lia,fun i a1 a2=>KeyOrd.kle_trans (up i (lo+(l+r)/2) a1 (by lia) (by lia)) e,b5⟩
  ·rintro c st2 ⟨rfl,l,r,rfl,b1,b2,b3,b4,b5⟩;have:l=r:=by lia
   subst this;exact ⟨rfl,l,rfl,b2,b4,b5⟩
  ·rintro c st2 ⟨rfl,l,rfl,b2,b4,b5⟩;dsimp only;show wpS _ _ _ _ (bind (moveDown' (lo+k) (lo+l)) _) _ _;rw [moveDown'_eq];refine wpS_bind (wpS_modify (wpS_pure ⟨rfl,kin.bubble (by lia) (by lia),fun i j a1 a2 a3=>?_⟩))
   rw [show min (k+1) n=k+1 by lia] at a3;show κ.kle (KK κ (bubble (arrOf st2) (lo+k) (lo+k-(lo+l))) i) (KK κ (bubble (arrOf st2) (lo+k) (lo+k-(lo+l))) j);have hsz:lo+k<(arrOf st2).size:=by lia
   rw [KK_bubble hsz (by lia),KK_bubble hsz (by lia),show lo+k-(lo+k-(lo+l))=lo+l by lia]
   repeat' split
   all_goals first
    | (exfalso;lia)
    | exact KeyOrd.kle_refl _
    | exact b4 _ (by lia) (by lia)
    | exact KeyOrd.kle_of_klt (b5 _ (by lia) (by lia))
    | exact up _ _ (by lia) (by lia) (by lia)
 ·rintro c st1 ⟨hc,kin,up⟩;rw [show min (max (max ok 1) n) n=n by lia] at up;exact ⟨hc,kin,up⟩
 ·by_cases z:ok=0
  ·have:i=j:=by lia
   subst this;exact KeyOrd.kle_refl _
  ·exact hs i j a1 a2 (by lia)
 ·rintro c st1 ⟨rfl,kin,up⟩;exact wpS_pure (h st1 kin up)
end
end PuS
namespace PuS
open PySem PyProof.Rows
def Seg (l:List Keyed) (i n:Nat):List Keyed:=(l.drop i).take n
section
variable {κ:KeyKind}
theorem seg_length {l:List Keyed} {i n:Nat} (h:i+n<=l.length):(Seg l i n).length=n:=by simp [Seg];lia
theorem seg_split (l:List Keyed) (i n k:Nat) (hk:k<=n):Seg l i n=Seg l i k++Seg l (i+k) (n-k):=by
 unfold Seg;rw [take_split (l.drop i) hk,List.drop_drop]
theorem seg_cat (l:List Keyed) (i n m:Nat):Seg l i (n+m)=Seg l i n++Seg l (i+n) m:=by
 have:=seg_split l i (n+m) n (by lia)
 rwa [Nat.add_sub_cancel_left] at this
theorem bey_pre {left:Bool} {key:Keyed} {arr:Array Keyed} {base k n:Nat} (hn:base+n<=arr.size) (k1:k<=n) (k2:∀ i,i<k->bey κ left key arr base i=true):∀ x∈Seg arr.toList base k,le κ x key:=by
 cases left with
 | true=>exact bey_lt_take (by lia) k2
 | false=>exact bey_le_take (by lia) k2
theorem bey_mid {left:Bool} {key:Keyed} {arr:Array Keyed} {base k n:Nat} (hn:base+n<=arr.size) (k3:∀ i,k<=i->i<n->bey κ left key arr base i=false):∀ x∈Seg arr.toList (base+k) (n-k),le κ key x:=by
 intro x hx;unfold Seg at hx;obtain ⟨i,hi,rfl⟩:=List.getElem_of_mem hx;have hin:k+i<n:=by simp at hi;lia
 have hb:base+(k+i)<arr.size:=by lia
 have:=k3 (k+i) (by lia) hin;unfold bey at this;rw [getElem?_pos arr _ hb] at this;cases left with
 | true=>simpa [le,KeyOrd.kle,Nat.add_assoc] using this
 | false =>
  have h2:κ.blt (kk κ key) (kk κ arr[base+(k+i)])=true:=by simpa using this
  have h3:=KeyOrd.kle_of_klt h2;simpa [le,Nat.add_assoc] using h3
theorem seg_head {arr:Array Keyed} {i n:Nat} (hn:0<n) (h:i+n<=arr.size) (hs:(Seg arr.toList i n).Pairwise (le κ)):∀ x∈Seg arr.toList i n,le κ arr[i] x:=by
 intro x hx;unfold Seg at hx hs;obtain ⟨j,hj,rfl⟩:=List.getElem_of_mem hx;have:=pair_get hs (i:=0) (j:=j) (by lia) hj;simpa using this
theorem seg_last {arr:Array Keyed} {i n:Nat} (hn:0<n) (h:i+n<=arr.size) (hs:(Seg arr.toList i n).Pairwise (le κ)):∀ x∈Seg arr.toList i n,le κ x arr[i+n-1]:=by
 intro x hx;unfold Seg at hx hs;obtain ⟨j,hj,rfl⟩:=List.getElem_of_mem hx;have hj':j<n:=by simp at hj;lia
 have:=pair_get hs (i:=j) (j:=n-1) (by lia) (by simp;lia);simp only [List.getElem_take,List.getElem_drop] at this ⊢;have e:i+n-1=i+(n-1):=by lia
 simpa [e] using this
theorem wpS_set {M:Model} {A:Around} {E:Value->Shared->Prop} {s:Shared} {st x:SortSt} {Q:PUnit->SortSt->Prop} (h:Q ⟨⟩ x):wpS M A E s (set x:StateT SortSt Sem PUnit) Q st:=by
 unfold wpS;rw [StateT.run_set];exact wpAny_pure ⟨rfl,h⟩
theorem write_back (o:Nat):∀ (m:List Keyed) (k:Nat) (arr:Array Keyed),o+k+m.length<=arr.size ->
  ((m.zipIdx k).foldl (fun a (x:Keyed×Nat)=>match x with | (p,j)=>a.setIfInBounds (o+j) p) arr).toList=arr.toList.take (o+k)++m++arr.toList.drop (o+k+m.length)
 | [],k,arr,_=>by simp
 | p::m,k,arr,h=>by
  rw [List.zipIdx_cons,List.foldl_cons];have hl:o+k<arr.size:=by simp at h;lia
  have ih:=write_back o m (k+1) (arr.setIfInBounds (o+k) p) (by simp at h ⊢;lia);rw [ih];have e:(arr.setIfInBounds (o+k) p).toList=arr.toList.take (o+k)++p::arr.toList.drop (o+k+1):=by
   rw [Array.toList_setIfInBounds,List.set_eq_take_append_cons_drop];simp [hl]
  have hlen:(arr.toList.take (o+k)).length=o+k:=by simp;lia
  have e1:(arr.toList.take (o+k)++p::arr.toList.drop (o+k+1)).take (o+(k+1))=arr.toList.take (o+k)++[p]:=by
   rw [List.take_append,hlen,List.take_of_length_le (by lia),show o+(k+1)-(o+k)=1 by lia];rfl
  have e2:(arr.toList.take (o+k)++p::arr.toList.drop (o+k+1)).drop (o+(k+1)+m.length)=arr.toList.drop (o+k+(p::m).length):=by
   rw [List.drop_append,hlen,List.drop_of_length_le (by lia),List.nil_append,show o+(k+1)+m.length-(o+k)=m.length+1 by lia,List.drop_succ_cons,List.drop_drop];congr 1;simp;lia
  rw [e,e1,e2];simp
theorem mem_take_one {α:Type} {l:List α} {y:α} (h:y∈l.take 1) (h0:0<l.length):y=l[0]:=by
 cases l with
 | nil=>simp at h0
 | cons z zs=>simpa using h
theorem perm_seg {arr:List Keyed} {i n:Nat} {M:List Keyed} (h:M.Perm (Seg arr i n)):(arr.take i++M++arr.drop (i+n)).Perm arr:=by
 have e:arr=arr.take i++Seg arr i n++arr.drop (i+n):=by
  unfold Seg;rw [<- List.drop_drop,List.append_assoc,List.take_append_drop,List.take_append_drop]
 conv=>rhs;rw [e]
 exact List.Perm.append_right _ (List.Perm.append_left _ h)
end
section
variable {prog:Program} {w:World} {A:Around} {E:Value->Shared->Prop} {s:Shared} {κ:KeyKind} {kd:SortKind} {G:List Keyed}
theorem mergeAtS (hC:Cmp prog w A s κ kd G) {st:SortSt} (hg:Good kd st) (hG:∀ x∈(arrOf st).toList,x∈G) {i sa na pa nb pb:Nat} (pi:(pendingOf st)[i]?=some (sa,na,pa)) (pj:(pendingOf st)[i+1]?=some (sa+na,nb,pb))
  (za:0<na) (zb:0<nb) (hz:sa+na+nb<=(arrOf st).size) (ra:(Seg (arrOf st).toList sa na).Pairwise (le κ)) (rb:(Seg (arrOf st).toList (sa+na) nb).Pairwise (le κ))
  {Q:Bool->SortSt->Prop} (h:∀ st' M,Good kd st'->pendingOf st'=((pendingOf st).setIfInBounds i (sa,na+nb,pa)).eraseIdxIfInBounds (i+1)->M.Perm (Seg (arrOf st).toList sa (na+nb))->M.Pairwise (le κ) ->
   (arrOf st').toList=(arrOf st).toList.take sa++M++(arrOf st).toList.drop (sa+(na+nb))->Q true st'):wpS (model prog w) A E s (mergeAt' i) Q st:=by
 obtain ⟨kd0,xs,P0,g0,f0⟩:=st
 replace hg:kd0=kd/\f0=none:=hg
 replace hG:∀ x∈xs.toList,x∈G:=hG
 replace pi:P0[i]?=some (sa,na,pa):=pi
 replace pj:P0[i+1]?=some (sa+na,nb,pb):=pj
 replace hz:sa+na+nb<=xs.size:=hz
 replace ra:(Seg xs.toList sa na).Pairwise (le κ):=ra
 replace rb:(Seg xs.toList (sa+na) nb).Pairwise (le κ):=rb
 replace h:∀ st' M,Good kd st'->pendingOf st'=(P0.setIfInBounds i (sa,na+nb,pa)).eraseIdxIfInBounds (i+1)->M.Perm (Seg xs.toList sa (na+nb))->M.Pairwise (le κ) ->
   (arrOf st').toList=xs.toList.take sa++M++xs.toList.drop (sa+(na+nb))->Q true st':=h
 refine wpS_bind (wpS_get ?_);dsimp only;rw [pi,pj];dsimp only;generalize hP:(P0.setIfInBounds i (sa,na+nb,pa)).eraseIdxIfInBounds (i+1)=P at *;refine wpS_bind (wpS_set ?_);have hg1:Good kd (SortSt.mk' kd0 xs P g0 f0):=hg;have ha1:arrOf (SortSt.mk' kd0 xs P g0 f0)=xs:=rfl;have hp1:pendingOf (SortSt.mk' kd0 xs P g0 f0)=P:=rfl;show wpS _ _ _ _ _ Q (SortSt.mk' kd0 xs P g0 f0);generalize hst1:SortSt.mk' kd0 xs P g0 f0=st1 at *;have hsb:sa+na<xs.size:=by lia
 have split1:=seg_cat xs.toList sa na nb;have asis:∀ {st':SortSt},arrOf st'=xs->xs.toList.take sa++Seg xs.toList sa (na+nb)++xs.toList.drop (sa+(na+nb))=(arrOf st').toList:=fun {st'} e=>by
  rw [e];unfold Seg;rw [<- List.drop_drop,List.append_assoc,List.take_append_drop,List.take_append_drop]
 refine wpS_bind (elemS hsb ?_);refine wpS_bind (gallopS (n:=na) (hint:=0) hC hg1 (hG xs[sa+na] (by simp)) hG (by lia) za (bey_mono (.inr ra) (by lia)) fun k k1 k2 k3=>?_)
 dsimp only;have b0:=seg_head zb (by lia) rb;have kA:∀ x∈Seg xs.toList sa k,le κ x xs[sa+na]:=bey_pre (n:=na) (by lia) k1 k2;have kB:∀ x∈Seg xs.toList (sa+k) (na-k),le κ xs[sa+na] x:=bey_mid (n:=na) (by lia) k3;have sA:=seg_split xs.toList sa na k k1;refine wpS_ite (fun c1=>?_) (fun c1=>?_)
 ·have c1' : k = na := by have : na - k = 0 := by simpa using c1
                          lia
  subst c1';refine wpS_pure (h st1 _ hg1 hp1 (List.Perm.refl _) ?_ (asis ha1).symm);rw [split1];exact List.pairwise_append.mpr ⟨ra,rb,fun x hx y hy=>le_trans (kA x hx) (b0 y hy)⟩
 have c1':¬ na-k=0:=by simpa using c1
 have elast:sa+k+(na-k)-1=sa+na-1:=by lia
 rw [elast];have hlast:sa+na-1<xs.size:=Nat.lt_of_le_of_lt (Nat.sub_le _ _) hsb;refine wpS_bind (elemS hlast ?_);refine wpS_bind (gallopS (n:=nb) (hint:=nb-1) hC hg1 (hG xs[sa+na-1] (by simp)) hG (by lia) (by lia) (bey_mono (.inr rb) (by lia)) fun q q1 q2 q3=>?_)
 dsimp only;have aL:=seg_last za (by lia) ra;have qA:∀ x∈Seg xs.toList (sa+na) q,le κ x xs[sa+na-1]:=bey_pre (n:=nb) (by lia) q1 q2;have qB:∀ x∈Seg xs.toList (sa+na+q) (nb-q),le κ xs[sa+na-1] x:=bey_mid (n:=nb) (by lia) q3;have sB:=seg_split xs.toList (sa+na) nb q q1;refine wpS_ite (fun c2=>?_) (fun c2=>?_)
 ·have c2':q=0:=by simpa using c2
  subst c2';refine wpS_pure (h st1 _ hg1 hp1 (List.Perm.refl _) ?_ (asis ha1).symm);rw [split1];exact List.pairwise_append.mpr ⟨ra,rb,fun x hx y hy=>le_trans (aL x hx) (qB y (by simpa using hy))⟩
 have c2':¬ q=0:=by simpa using c2
 have eX:(xs.extract (sa+k) (sa+na)).toList=Seg xs.toList (sa+k) (na-k):=by
  rw [ext_mid];unfold Seg;congr 1;lia
 have eY:(xs.extract (sa+na) (sa+na+q)).toList=Seg xs.toList (sa+na) q:=by
  rw [ext_mid];unfold Seg;congr 1;lia
 have lX:(xs.extract (sa+k) (sa+na)).size=na-k:=by rw [Array.size_extract,Nat.min_eq_left (by lia)];lia
 have lY:(xs.extract (sa+na) (sa+na+q)).size=q:=by simp;lia
 rw [sA] at ra aL;rw [sB] at rb b0;obtain ⟨ra1,ra2,ra3⟩:=List.pairwise_append.mp ra;obtain ⟨rb1,rb2,rb3⟩:=List.pairwise_append.mp rb;have subX:∀ x∈(xs.extract (sa+k) (sa+na)).toList,x∈G:=fun x hx=>by
  rw [eX] at hx;exact hG x (List.mem_of_mem_drop (List.mem_of_mem_take hx))
 have subY:∀ x∈(xs.extract (sa+na) (sa+na+q)).toList,x∈G:=fun x hx=>by
  rw [eY] at hx;exact hG x (List.mem_of_mem_drop (List.mem_of_mem_take hx))
 have y0:(xs.extract (sa+na) (sa+na+q))[0]'(by lia)=xs[sa+na]:=by simp
 have xl:(xs.extract (sa+k) (sa+na))[(xs.extract (sa+k) (sa+na)).size-1]'(by lia)=xs[sa+na-1]:=by
  simp only [Array.getElem_extract];congr 1;lia
 have done:∀ (r:Array Keyed) (st2:SortSt),Mg κ (xs.extract (sa+k) (sa+na)) (xs.extract (sa+na) (sa+na+q)) r->Alike kd st1 st2 ->
   Q true (SortSt.mk' (kindOf st2) (r.toList.zipIdx.foldl (fun a (x:Keyed×Nat)=>match x with | (p,j)=>a.setIfInBounds (sa+k+j) p) (arrOf st2)) (pendingOf st2) (gallopOf st2) (failedOf st2)):=by
  intro r st2 ⟨mp,ms⟩ al;rw [eX,eY] at mp;have ea:arrOf st2=xs:=by rw [al.1,ha1]
  have lr:r.toList.length=(na-k)+q:=by
   rw [mp.length_eq,List.length_append,seg_length (by simp;lia),seg_length (by simp;lia)]
  refine h _ (Seg xs.toList sa k++r.toList++Seg xs.toList (sa+na+q) (nb-q)) al.2.2 (by rw [<- hp1];exact al.2.1) ?_ ?_ ?_
  ·rw [split1,sA,sB,List.append_assoc,List.append_assoc];refine List.Perm.append_left _ ?_;rw [<- List.append_assoc];exact List.Perm.append_right _ mp
  ·have inr:∀ z,z∈r.toList->z∈Seg xs.toList (sa+k) (na-k)\/z∈Seg xs.toList (sa+na) q:=fun z hz=>List.mem_append.mp (mp.mem_iff.mp hz)
   rw [List.append_assoc,List.pairwise_append];refine ⟨ra1,List.pairwise_append.mpr ⟨ms,rb2,fun x hx y hy=>?_⟩,fun x hx y hy=>?_⟩
   ·rcases inr x hx with hx | hx
    ·exact le_trans (aL x (List.mem_append_right _ hx)) (qB y hy)
    ·exact rb3 x hx y hy
   ·rcases List.mem_append.mp hy with hy | hy
    ·rcases inr y hy with hy | hy
     ·exact ra3 x hx y hy
     ·exact le_trans (kA x hx) (b0 y (List.mem_append_left _ hy))
    ·exact le_trans (kA x hx) (b0 y (List.mem_append_right _ hy))
  ·show (r.toList.zipIdx.foldl _ (arrOf st2)).toList=_;rw [ea,write_back (sa+k) r.toList 0 xs (by rw [lr];lia),lr];have e1:xs.toList.take (sa+k+0)=xs.toList.take sa++Seg xs.toList sa k:=by
    rw [Nat.add_zero,take_split xs.toList (show sa<=sa+k by lia),Nat.add_sub_cancel_left];rfl
   have e2:xs.toList.drop (sa+k+0+(na-k+q))=Seg xs.toList (sa+na+q) (nb-q)++xs.toList.drop (sa+(na+nb)):=by
    unfold Seg;rw [show sa+k+0+(na-k+q)=sa+na+q by lia,show sa+(na+nb)=sa+na+q+(nb-q) by lia];have:=List.take_append_drop (nb-q) (xs.toList.drop (sa+na+q));rw [List.drop_drop] at this;exact this.symm
   rw [e1,e2];simp only [List.append_assoc]
 have first:∀ x∈(xs.extract (sa+k) (sa+na)).toList,le κ xs[sa+na] x:=fun x hx=>kB x (by rwa [eX] at hx)
 have lastY:∀ y∈(xs.extract (sa+na) (sa+na+q)).toList,le κ y xs[sa+na-1]:=fun y hy=>qA y (by rwa [eY] at hy)
 refine wpS_ite (fun _=>?_) (fun _=>?_)
 ·refine wpS_bind (mergeLoS hC hg1 subX subY (by rw [eX];exact ra2) (by rw [eY];exact rb1) (by lia) (by lia) (by rw [y0];exact first) (fun y hy x hx=>?_) fun r st2 mr al=>?_)
  ·have:x=xs[sa+na-1]:=by
    rw [List.drop_eq_getElem_cons (by rw [Array.length_toList,lX];lia)] at hx;have hx':=List.mem_cons.mp hx
    rcases hx' with hx' | hx'
    ·rw [hx',<- xl];simp
    ·rw [List.drop_of_length_le (by rw [Array.length_toList,lX];lia)] at hx';cases hx'
   rw [this];exact lastY y hy
  ·refine wpS_bind (wpS_modify (wpS_bind (wpS_get (wpS_pure ?_))));have:=done r st2 mr al;obtain ⟨_,_,_,_,f2⟩:=st2;have hf:f2=none:=al.2.2.2;subst hf;exact this
 ·refine wpS_bind (mergeHiS hC hg1 subX subY (by rw [eX];exact ra2) (by rw [eY];exact rb1) (by lia) (by lia) (fun x hx y hy=>?_) (by rw [xl];exact lastY) fun r st2 mr al=>?_)
  ·have:y=xs[sa+na]:=by
    have hne:0<(xs.extract (sa+na) (sa+na+q)).toList.length:=by simp;lia
    have hy':=mem_take_one hy hne;rw [hy',Array.getElem_toList];exact y0
   rw [this];exact first x hx
  ·refine wpS_bind (wpS_modify (wpS_bind (wpS_get (wpS_pure ?_))));have:=done r st2 mr al;obtain ⟨_,_,_,_,f2⟩:=st2;have hf:f2=none:=al.2.2.2;subst hf;exact this
end
end PuS
namespace PuS
open PySem PyProof.Rows
def Chain (κ:KeyKind) (l:List Keyed):Nat->List (Nat×Nat×Nat)->Nat->Prop
 | i,[],j=>i=j
 | i,(a,n,_)::r,j=>a=i/\0<n/\(Seg l i n).Pairwise (le κ)/\Chain κ l (i+n) r j
section
variable {κ:KeyKind} {l l':List Keyed}
theorem Chain.append:∀ {p q:List (Nat×Nat×Nat)} {i j:Nat},Chain κ l i (p++q) j↔∃ m,Chain κ l i p m/\Chain κ l m q j
 | [],q,i,j=>by simp [Chain]
 | (a,n,x)::p,q,i,j=>by
  simp only [List.cons_append,Chain,Chain.append (p:=p)]
  constructor
  ·rintro ⟨h1,h2,h3,m,h4,h5⟩;exact ⟨m,⟨h1,h2,h3,h4⟩,h5⟩
  ·rintro ⟨m,⟨h1,h2,h3,h4⟩,h5⟩;exact ⟨h1,h2,h3,m,h4,h5⟩
theorem Chain.len:∀ {p:List (Nat×Nat×Nat)} {i j:Nat},Chain κ l i p j->i+p.length<=j
 | [],i,j,h=>by have:i=j:=h;simp;lia
 | (a,n,x)::p,i,j,h=>by
  obtain ⟨_,h2,_,h4⟩:=h;have:=h4.len;simp;lia
theorem Chain.congr:∀ {p:List (Nat×Nat×Nat)} {i j:Nat},Chain κ l i p j->(∀ k n,i<=k->k+n<=j->Seg l' k n=Seg l k n)->Chain κ l' i p j
 | [],_,_,h,_=>h
 | (a,n,x)::p,i,j,⟨h1,h2,h3,h4⟩,e=>by
  have:=h4.len;refine ⟨h1,h2,?_,h4.congr fun k m a1 a2=>e k m (by lia) a2⟩
  rw [e i n (Nat.le_refl _) (by lia)];exact h3
theorem Chain.modify {f:Nat×Nat×Nat->Nat×Nat×Nat} (hf:∀ x,(f x).1=x.1/\(f x).2.1=x.2.1):∀ {p:List (Nat×Nat×Nat)} {i j:Nat} (k:Nat),Chain κ l i p j->Chain κ l i (p.modify k f) j
 | [],i,j,k,h=>by simpa using h
 | (a,n,x)::p,i,j,0,⟨h1,h2,h3,h4⟩=>by
  obtain ⟨e1,e2⟩:=hf (a,n,x);rw [List.modify_zero_cons];generalize f (a,n,x)=y at *;obtain ⟨y1,y2,y3⟩:=y;dsimp only at e1 e2;subst e1 e2;exact ⟨h1,h2,h3,h4⟩
 | (a,n,x)::p,i,j,k+1,⟨h1,h2,h3,h4⟩=>by
  rw [List.modify_succ_cons];exact ⟨h1,h2,h3,h4.modify hf k⟩
theorem seg_low {l M D:List Keyed} {a k n:Nat} (ha:a<=l.length) (h:k+n<=a):Seg (l.take a++M++D) k n=Seg l k n:=by
 unfold Seg;rw [List.append_assoc,List.drop_append_of_le_length (by simp;lia),List.take_append_of_le_length (by simp;lia),List.drop_take,List.take_take];congr 1
 lia
theorem seg_high {l M:List Keyed} {a e k n:Nat} (ha:a<=e) (he:e<=l.length) (hM:M.length=e-a) (h:e<=k):Seg (l.take a++M++l.drop e) k n=Seg l k n:=by
 unfold Seg;have hl:(l.take a++M).length=e:=by simp [hM];lia
 rw [List.drop_append,hl,List.drop_of_length_le (by lia),List.nil_append,List.drop_drop];congr 2
 lia
theorem up_seg {xs:Array Keyed} {lo m:Nat} (hz:lo+m<=xs.size) (h:Up κ xs lo m):(Seg xs.toList lo m).Pairwise (le κ):=by
 show List.Pairwise (le κ) ((xs.toList.drop lo).take m);rw [List.pairwise_iff_getElem];intro i j hi hj hij;have hj':j<m:=by simp at hj;lia
 have:=h (lo+i) (lo+j) (by lia) (by lia) (by lia);rw [KK_eq (by lia),KK_eq (by lia)] at this;rw [List.getElem_take,List.getElem_take,List.getElem_drop,List.getElem_drop,Array.getElem_toList,Array.getElem_toList];exact this
theorem seg_of_low {xs ys:Array Keyed} {lo k n:Nat} (h:∀ i,i<lo->ys[i]?=xs[i]?) (hk:k+n<=lo):Seg ys.toList k n=Seg xs.toList k n:=by
 apply List.ext_getElem?;intro i;unfold Seg
 by_cases hi:i<n
 ·rw [List.getElem?_take_of_lt hi,List.getElem?_take_of_lt hi,List.getElem?_drop,List.getElem?_drop];have:=h (k+i) (by lia);simpa using this
 ·rw [List.getElem?_eq_none (by simp;lia),List.getElem?_eq_none (by simp;lia)]
theorem erase_two {α:Type} (p q:List α) (a b x:α):((p++a::b::q).set p.length x).eraseIdx (p.length+1)=p++x::q:=by
 induction p with
 | nil=>simp
 | cons y p ih=>simpa using ih
end
section
variable {prog:Program} {w:World} {A:Around} {E:Value->Shared->Prop} {s:Shared} {κ:KeyKind} {kd:SortKind} {a₀:Array Keyed}
structure RI (κ:KeyKind) (kd:SortKind) (a₀:Array Keyed) (st:SortSt) (lo:Nat):Prop where
 good:Good kd st
 perm:(arrOf st).Perm a₀
 chain:Chain κ (arrOf st).toList 0 (pendingOf st).toList lo
 top:lo<=a₀.size
theorem RI.size {st:SortSt} {lo:Nat} (h:RI κ kd a₀ st lo):(arrOf st).size=a₀.size:=h.perm.size_eq
theorem mergeRI (hC:Cmp prog w A s κ kd a₀.toList) {st:SortSt} {lo i:Nat} (h:RI κ kd a₀ st lo) (hi:i+1<(pendingOf st).size) {Q:Bool->SortSt->Prop}
  (hQ:∀ st',RI κ kd a₀ st' lo->(pendingOf st').size+1=(pendingOf st).size->(∀ k n,lo<=k->Seg (arrOf st').toList k n=Seg (arrOf st).toList k n)->Q true st'):wpS (model prog w) A E s (mergeAt' i) Q st:=by
 have hG:∀ x∈(arrOf st).toList,x∈a₀.toList:=fun x hx=>(Array.perm_iff_toList_perm.mp h.perm).mem_iff.mp hx
 have hil:i<(pendingOf st).toList.length:=by simp;lia
 have hil2:i+1<(pendingOf st).toList.length:=by simpa using hi
 generalize hp:(pendingOf st).toList.take i=p;generalize hq:(pendingOf st).toList.drop (i+2)=q;generalize ea:(pendingOf st).toList[i]=ra;generalize eb:(pendingOf st).toList[i+1]=rb;have split:(pendingOf st).toList=p++ra::rb::q:=by
  rw [<- hp,<- hq,<- ea,<- eb,<- List.drop_eq_getElem_cons hil2,<- List.drop_eq_getElem_cons hil,List.take_append_drop]
 have hpl:p.length=i:=by rw [<- hp];simp;lia
 obtain ⟨sa,na,pa⟩:=ra;obtain ⟨sb,nb,pb⟩:=rb;have ch:=h.chain;rw [split] at ch;obtain ⟨m,c1,c2⟩:=Chain.append.mp ch;obtain ⟨e1,za,sA,e2,zb,sB,c3⟩:=c2;subst e1 e2;have l3:=c3.len;have hz:=h.size;have ht:=h.top;have g1:(pendingOf st)[i]?=some (sa,na,pa):=by
  rw [<- Array.getElem?_toList,split,<- hpl];simp
 have g2:(pendingOf st)[i+1]?=some (sa+na,nb,pb):=by
  rw [<- Array.getElem?_toList,split,<- hpl,List.getElem?_append_right (by lia)];simp
 refine mergeAtS hC h.good hG g1 g2 za zb (by lia) sA sB fun st' M gd pe mp ms al=>?_
 have lM:M.length=sa+(na+nb)-sa:=by rw [mp.length_eq,seg_length (by simp;lia)];lia
 have pl:(pendingOf st').toList=p++(sa,na+nb,pa)::q:=by
  rw [pe,Array.toList_eraseIdxIfInBounds,Array.toList_setIfInBounds,split,<- hpl,erase_two]
 have la:(arrOf st).toList.length=a₀.size:=by simpa using hz
 refine hQ st' ⟨gd,?_,?_,ht⟩ ?_ fun k n hk=>?_
 ·refine Array.Perm.trans (Array.perm_iff_toList_perm.mpr ?_) h.perm;rw [al];exact perm_seg mp
 ·rw [pl,Chain.append];refine ⟨sa,c1.congr fun k n a1 a2=>?_,rfl,by lia,?_,?_⟩
  ·rw [al];exact seg_low (by lia) a2
  ·have:Seg (arrOf st').toList sa (na+nb)=M:=by
    rw [al];unfold Seg;rw [List.append_assoc,List.drop_append_of_le_length (by simp;lia),List.drop_of_length_le (by simp;lia),List.nil_append,List.take_append_of_le_length (by lia),List.take_of_length_le (by lia)]
   rw [this];exact ms
  ·have e:sa+(na+nb)=sa+na+nb:=by lia
   rw [e];refine c3.congr fun k n a1 a2=>?_
   rw [al];exact seg_high (by lia) (by lia) lM (by lia)
 ·have e1:=congrArg List.length pl;have e2:=congrArg List.length split;simp at e1 e2
  lia
 ·rw [al];exact seg_high (by lia) (by lia) lM (by lia)
theorem RI.push {st:SortSt} {lo n:Nat} (h:RI κ kd a₀ st lo) (hn:0<n) (hz:lo+n<=a₀.size) (hs:(Seg (arrOf st).toList lo n).Pairwise (le κ)) :
  RI κ kd a₀ (SortSt.mk' (kindOf st) (arrOf st) ((pendingOf st).push (lo,n,0)) (gallopOf st) (failedOf st)) (lo+n) :=
 ⟨h.good,h.perm,by
  show Chain κ (arrOf st).toList 0 ((pendingOf st).push (lo,n,0)).toList (lo+n);rw [Array.toList_push,Chain.append];exact ⟨lo,h.chain,rfl,hn,hs,rfl⟩,hz⟩
theorem RI.power {st:SortSt} {lo k:Nat} (h:RI κ kd a₀ st lo) {f:Nat×Nat×Nat->Nat×Nat×Nat} (hf:∀ x,(f x).1=x.1/\(f x).2.1=x.2.1) :
  RI κ kd a₀ (SortSt.mk' (kindOf st) (arrOf st) ((pendingOf st).modify k f) (gallopOf st) (failedOf st)) lo :=
 ⟨h.good,h.perm,by
  show Chain κ (arrOf st).toList 0 ((pendingOf st).modify k f).toList lo;rw [Array.toList_modify];exact h.chain.modify hf k,h.top⟩
theorem sortRunsS (hC:Cmp prog w A s κ kd a₀.toList) {st:SortSt} (hg:Good kd st) (hp:(arrOf st).Perm a₀) (he:pendingOf st=#[]) (h2:1<=a₀.size)
  {Q:Unit->SortSt->Prop} (h:∀ st',(arrOf st').Perm a₀->failedOf st'=none->(arrOf st').toList.Pairwise (le κ)->Q () st'):wpS (model prog w) A E s sortRuns' Q st:=by
 have hsz:(arrOf st).size=a₀.size:=hp.size_eq;refine wpS_bind (wpS_get ?_);show wpS (model prog w) A E s (bind (forIn [:(arrOf st).size] _ _) _) Q st;rw [hsz];have r0:RI κ kd a₀ st 0:=⟨hg,hp,by rw [he];exact rfl,Nat.zero_le _⟩;refine wpS_bind (wpS_mono (wpS_forRange (I:=fun x c st'=>∃ lo,c=(none,lo)/\RI κ kd a₀ st' lo/\x<=lo) (Q:=fun c st'=>c=(none,a₀.size)/\RI κ kd a₀ st' a₀.size) ?_ ?_ ⟨0,rfl,r0,Nat.le_refl _⟩) ?_)
 ·rintro x c st1 _ hx ⟨lo,rfl,r1,hxl⟩
  try dsimp only
  have t1:=r1.top;have z1:=r1.size;refine wpS_ite (fun c1=>?_) (fun c1=>?_)
  ·have:lo=a₀.size:=by lia
   subst this;exact wpS_pure ⟨rfl,r1⟩
  have hG:∀ {st':SortSt},(arrOf st').Perm a₀->∀ x∈(arrOf st').toList,x∈a₀.toList:=fun {st'} p x hx=>(Array.perm_iff_toList_perm.mp p).mem_iff.mp hx
  refine wpS_bind (countRunS hC r1.good (hG r1.perm) (by lia) (by lia) fun m st2 k2 m1 m2 up=>?_)
  try dsimp only
  have r2:RI κ kd a₀ st2 lo:=⟨k2.good,k2.perm.trans r1.perm,by rw [k2.pend];exact r1.chain.congr fun k n _ a2=>seg_of_low k2.low a2,t1⟩
  have z2:=r2.size;refine wpS_ite (fun c2=>?_) (fun c2=>?_)
  ·refine wpS_bind (wpS_lift (wpAny_rule ⟨rfl,?_⟩));refine wpS_bind (binarySortS hC r2.good (hG r2.perm) (by lia) (by lia) up fun st3 k3 up3=>?_)
   simp only [Bool.not_true,Bool.false_eq_true,if_false];have r3:RI κ kd a₀ st3 lo:=⟨k3.good,k3.perm.trans r2.perm,by rw [k3.pend];exact r2.chain.congr fun k n _ a2=>seg_of_low k3.low a2,t1⟩
   have z3:=r3.size;have n3:0<min (a₀.size-lo) (minRun' a₀.size a₀.size 0):=by
    have:m<minRun' a₀.size a₀.size 0:=c2
    lia
   have sg3:=up_seg (by lia) up3;refine wpS_bind (wpS_get ?_)
   try dsimp only
   cases hbk:(pendingOf st3).back? with
   | none =>
    try dsimp only
    exact wpS_bind (wpS_modify (wpS_pure ⟨_,rfl,r3.push n3 (by lia) sg3,by lia⟩))
   | some bb =>
    obtain ⟨s1,n1,p1⟩:=bb
    try dsimp only
    refine wpS_bind (wpS_mono (wpS_forRange (I:=fun _ c st4=>c=(none,())/\RI κ kd a₀ st4 lo/\(Seg (arrOf st4).toList lo _).Pairwise (le κ)) (Q:=fun c st4=>c=(none,())/\RI κ kd a₀ st4 lo/\(Seg (arrOf st4).toList lo _).Pairwise (le κ)) ?_ (fun _ _ hh=>hh) ⟨rfl,r3,sg3⟩) ?_)
    ·rintro y c st4 _ hy ⟨rfl,r4,sg⟩;refine wpS_bind (wpS_get ?_)
     try dsimp only
     by_cases hps:(pendingOf st4).size>1
     ·rw [if_pos hps,getElem?_pos (pendingOf st4) ((pendingOf st4).size-2) (by lia)]
      try dsimp only
      refine wpS_ite (fun _=>?_) (fun _=>?_)
      ·exact wpS_pure ⟨rfl,r4,sg⟩
      ·refine wpS_bind (mergeRI hC r4 (show (pendingOf st4).size-2+1<(pendingOf st4).size by lia) fun st5 r5 _ keep=>?_)
       simp only [Bool.not_true,Bool.false_eq_true,if_false];exact wpS_pure ⟨rfl,r5,by rw [keep lo _ (Nat.le_refl _)];exact sg⟩
     ·rw [if_neg hps];exact wpS_pure ⟨rfl,r4,sg⟩
    ·rintro c st4 ⟨rfl,r4,sg⟩
     try dsimp only
     refine wpS_bind (wpS_modify ?_);exact wpS_bind (wpS_modify (wpS_pure ⟨_,rfl,RI.push (r4.power (by intro x;exact ⟨rfl,rfl⟩)) n3 (by lia) sg,by lia⟩))
  ·have sg2:=up_seg (by lia) up;refine wpS_bind (wpS_get ?_)
   try dsimp only
   cases hbk:(pendingOf st2).back? with
   | none =>
    try dsimp only
    exact wpS_bind (wpS_modify (wpS_pure ⟨_,rfl,r2.push m1 (by lia) sg2,by lia⟩))
   | some bb =>
    obtain ⟨s1,n1,p1⟩:=bb
    try dsimp only
    refine wpS_bind (wpS_mono (wpS_forRange (I:=fun _ c st4=>c=(none,())/\RI κ kd a₀ st4 lo/\(Seg (arrOf st4).toList lo _).Pairwise (le κ)) (Q:=fun c st4=>c=(none,())/\RI κ kd a₀ st4 lo/\(Seg (arrOf st4).toList lo _).Pairwise (le κ)) ?_ (fun _ _ hh=>hh) ⟨rfl,r2,sg2⟩) ?_)
    ·rintro y c st4 _ hy ⟨rfl,r4,sg⟩;refine wpS_bind (wpS_get ?_)
     try dsimp only
     by_cases hps:(pendingOf st4).size>1
     ·rw [if_pos hps,getElem?_pos (pendingOf st4) ((pendingOf st4).size-2) (by lia)]
      try dsimp only
      refine wpS_ite (fun _=>?_) (fun _=>?_)
      ·exact wpS_pure ⟨rfl,r4,sg⟩
      ·refine wpS_bind (mergeRI hC r4 (show (pendingOf st4).size-2+1<(pendingOf st4).size by lia) fun st5 r5 _ keep=>?_)
       simp only [Bool.not_true,Bool.false_eq_true,if_false];exact wpS_pure ⟨rfl,r5,by rw [keep lo _ (Nat.le_refl _)];exact sg⟩
     ·rw [if_neg hps];exact wpS_pure ⟨rfl,r4,sg⟩
    ·rintro c st4 ⟨rfl,r4,sg⟩
     try dsimp only
     refine wpS_bind (wpS_modify ?_);exact wpS_bind (wpS_modify (wpS_pure ⟨_,rfl,RI.push (r4.power (by intro x;exact ⟨rfl,rfl⟩)) m1 (by lia) sg,by lia⟩))
 ·rintro c st1 ⟨lo,rfl,r1,hxl⟩;have t1:=r1.top;have:lo=a₀.size:=by lia
  subst this;exact ⟨rfl,r1⟩
 ·rintro c st1 ⟨rfl,r1⟩
  try dsimp only
  refine wpS_bind (wpS_mono (wpS_forRange (I:=fun x c st'=>c=(none,())/\RI κ kd a₀ st' a₀.size/\((pendingOf st').size<=1\/(pendingOf st').size+x<=a₀.size)) (Q:=fun c st'=>c=(none,())/\RI κ kd a₀ st' a₀.size/\(pendingOf st').size<=1) ?_ ?_ ⟨rfl,r1,.inr (by have:=r1.chain.len;simp at this;lia)⟩) ?_)
  ·rintro y c st4 _ hy ⟨rfl,r4,hor⟩;refine wpS_bind (wpS_get ?_)
   try dsimp only
   refine wpS_ite (fun c1=>?_) (fun c1=>?_)
   ·exact wpS_pure ⟨rfl,r4,c1⟩
   ·have c1':¬ (pendingOf st4).size<=1:=c1;have hor':=hor.resolve_left c1';have step:∀ i,i+1<(pendingOf st4).size->wpS (model prog w) A E s (mergeAt' i) (fun r st5=>r=true/\RI κ kd a₀ st5 a₀.size/\(pendingOf st5).size+(y+1)<=a₀.size) st4:=fun i hi =>
     mergeRI hC r4 hi fun st5 r5 e5 _=>⟨rfl,r5,by lia⟩
    have bound:∀ c:Bool,(if c=true then (pendingOf st4).size-2-1 else (pendingOf st4).size-2)+1<(pendingOf st4).size:=by intro c;split<;>lia
    refine wpS_bind (wpS_mono (step _ (bound _)) ?_);rintro r st5 ⟨rfl,r5,e5⟩;simp only [Bool.not_true,Bool.false_eq_true,if_false];exact wpS_pure ⟨rfl,r5,.inr e5⟩
  ·rintro c st4 ⟨rfl,r4,hor⟩;exact ⟨rfl,r4,by lia⟩
  ·rintro c st4 ⟨rfl,r4,hle⟩;refine wpS_pure (h st4 r4.perm r4.good.2 ?_);have ch:=r4.chain;have z4:=r4.size;cases e:(pendingOf st4).toList with
   | nil=>rw [e] at ch;have:0=a₀.size:=ch;lia
   | cons r rs =>
    have hl:(pendingOf st4).toList.length<=1:=by simpa using hle
    rw [e] at hl ch;have:rs=[]:=by cases rs with
     | nil=>rfl
     | cons _ _=>simp at hl
    subst this;obtain ⟨a,n,p⟩:=r;obtain ⟨e1,_,e3,e4⟩:=ch;have e4':0+n=a₀.size:=e4;have:Seg (arrOf st4).toList 0 n=(arrOf st4).toList:=by
     unfold Seg;rw [List.drop_zero,List.take_of_length_le];simp;lia
    rw [this] at e3;exact e3
end
end PuS
namespace PuS
open PySem PyProof.Rows PySem.W
def llt:List Int->List Int->Bool
 | [],[]=>false
 | [],_::_=>true
 | _::_,[]=>false
 | x::xs,y::ys=>if x=y then llt xs ys else decide (x<y)
theorem llt_irrefl:∀ a,llt a a=false
 | []=>rfl
 | x::xs=>by simp [llt,llt_irrefl xs]
theorem llt_trans:∀ a b c,llt a b=true->llt b c=true->llt a c=true
 | [],[],c,h,_=>by simp [llt] at h
 | [],_::_,[],_,h=>by simp [llt] at h
 | [],_::_,_::_,_,_=>rfl
 | _::_,[],_,h,_=>by simp [llt] at h
 | _::_,_::_,[],_,h=>by simp [llt] at h
 | x::xs,y::ys,z::zs,h1,h2=>by
  simp only [llt] at h1 h2 ⊢
  by_cases e1:x=y
  ·subst e1;rw [if_pos rfl] at h1
   by_cases e2:x=z
   ·subst e2;rw [if_pos rfl] at h2 ⊢;exact llt_trans xs ys zs h1 h2
   ·rw [if_neg e2] at h2 ⊢;exact h2
  ·rw [if_neg e1,decide_eq_true_eq] at h1
   by_cases e2:y=z
   ·subst e2;rw [if_neg e1,decide_eq_true_eq];exact h1
   ·rw [if_neg e2,decide_eq_true_eq] at h2;rw [if_neg (by lia),decide_eq_true_eq];lia
theorem llt_neg:∀ a b c,llt a c=true->llt a b=true\/llt b c=true
 | [],[],c,h=>.inr h
 | [],_::_,_,_=>.inl rfl
 | _::_,_,[],h=>by simp [llt] at h
 | _::_,[],_::_,_=>.inr rfl
 | x::xs,y::ys,z::zs,h=>by
  simp only [llt] at h ⊢
  by_cases e1:x=y
  ·subst e1
   by_cases e2:x=z
   ·subst e2;rw [if_pos rfl] at h;simp only [if_true];exact llt_neg xs ys zs h
   ·rw [if_neg e2] at h;right;rw [if_neg e2];exact h
  ·by_cases e2:y=z
   ·subst e2;rw [if_neg e1] at h;left;rw [if_neg e1];exact h
   ·by_cases e3:x=z
    ·subst e3;rw [if_neg e1,if_neg e2,decide_eq_true_eq,decide_eq_true_eq];lia
    ·rw [if_neg e3,decide_eq_true_eq] at h;rw [if_neg e1,if_neg e2,decide_eq_true_eq,decide_eq_true_eq];lia
theorem llt_total:∀ a b,llt a b=false->llt b a=false->a=b
 | [],[],_,_=>rfl
 | [],_::_,h,_=>by simp [llt] at h
 | _::_,[],_,h=>by simp [llt] at h
 | x::xs,y::ys,h1,h2=>by
  simp only [llt] at h1 h2
  by_cases e:x=y
  ·subst e;simp only [if_true] at h1 h2;rw [llt_total xs ys h1 h2]
  ·rw [if_neg e,decide_eq_false_iff_not] at h1;rw [if_neg (Ne.symm e),decide_eq_false_iff_not] at h2
   lia
def ints?:List Value->Option (List Int)
 | []=>some []
 | .int i _::r=>(ints? r).map (i::·)
 | _=>none
def keyT (h:Heap):Value->Option (List Int)
 | .ref a=>(h.get? a).bind fun o=>match o.data with
  | .seq xs _=>ints? xs.toList
  | _=>none
 | _=>none
def keyH (m:Bool) (h:Heap) (u:Value):Option (List Int):=if m then (match u with
 | .ref a=>(h.get? a).bind fun o=>match o.data with
  | .seq xs _=>match xs.toList with
   | [.int i _,v]=>(keyT h v).map (i::·)
   | _=>none
  | _=>none
 | _=>none) else keyT h u
def kInts (m:Bool) (h:Heap):KeyKind:={α:=List Int,blt:=llt,irrefl:=llt_irrefl,trans:=llt_trans,negTrans:=llt_neg,total:=llt_total,keyOf:=keyH m h,dflt:=[]}
theorem ints?_of:∀ {vs:List Value} {ns:List Int},IntsAre vs ns->ints? vs=some ns
 | _,_,.nil=>rfl
 | _,_,.cons n t h=>by simp [ints?,ints?_of h]
def IT0 (h:Heap) (u:Value) (ns:List Int):Prop:=∃ a o xs n,u=.ref a/\h.get? a=some o/\o.cls=.type "tuple" /\ o.data=.seq xs n/\IntsAre xs.toList ns
def ITp (h:Heap) (u:Value) (ns:List Int):Prop:=∃ a o xs n i t v ms,u=.ref a/\h.get? a=some o/\o.cls=.type "tuple" /\ o.data=.seq xs n/\xs.toList=[.int i t,v]/\IT0 h v ms/\ns=i::ms
def IT (m:Bool) (h:Heap) (u:Value) (ns:List Int):Prop:=if m then ITp h u ns else IT0 h u ns/\ns≠[]
theorem IT0.key {h:Heap} {u:Value} {ns:List Int} (x:IT0 h u ns):keyT h u=some ns:=by
 obtain ⟨a,o,xs,n,rfl,ho,_,hd,hi⟩:=x;simp only [keyT,ho,Option.bind_some,hd];exact ints?_of hi
theorem IT.key {m:Bool} {h:Heap} {u:Value} {ns:List Int} (x:IT m h u ns):keyH m h u=some ns:=by
 cases m with
 | false=>exact x.1.key
 | true =>
  obtain ⟨a,o,xs,n,i,t,v,ms,rfl,ho,_,hd,hx,hi,rfl⟩:=x;simp only [keyH,if_true,ho,Option.bind_some,hd,hx,hi.key,Option.map_some]
theorem IT0.keepT {h h':Heap} {u:Value} {ns:List Int} (k:∀ c o,h.get? c=some o->o.cls=.type "tuple" -> h'.get? c=some o) (x:IT0 h u ns):IT0 h' u ns:=by
 obtain ⟨a,o,xs,n,e,ho,hc,r⟩:=x;exact ⟨a,o,xs,n,e,k a o ho hc,hc,r⟩
theorem IT.keepT {m:Bool} {h h':Heap} {u:Value} {ns:List Int} (k:∀ c o,h.get? c=some o->o.cls=.type "tuple" -> h'.get? c=some o) (x:IT m h u ns):IT m h' u ns:=by
 cases m with
 | false=>exact ⟨x.1.keepT k,x.2⟩
 | true =>
  obtain ⟨a,o,xs,n,i,t,v,ms,e,ho,hc,hd,hx,hi,hn⟩:=x;exact ⟨a,o,xs,n,i,t,v,ms,e,k a o ho hc,hc,hd,hx,hi.keepT k,hn⟩
def lexZ (fin:Bool):List Int->List Int->Bool
 | x::xs,y::ys=>if x=y then lexZ fin xs ys else decide (x<y)
 | _,_=>fin
theorem lexZ_llt:∀ ns ms:List Int,lexZ (decide (ns.length<ms.length)) ns ms=llt ns ms
 | [],[]=>by simp [lexZ,llt]
 | [],_::_=>by simp [lexZ,llt]
 | _::_,[]=>by simp [lexZ,llt]
 | x::xs,y::ys=>by
  have ih:=lexZ_llt xs ys;simp only [lexZ,llt,List.length_cons,Nat.add_lt_add_iff_right,ih]
section
variable {prog:Program} {w:World} {A:Around} {E:Value->Shared->Prop} {s:Shared}
theorem lex_ints {fin:Bool} {Q:Bool->Shared->Prop}:∀ {us ws:List Value} {ns ms:List Int},IntsAre us ns->IntsAre ws ms->∀ i:Nat,Q (lexZ fin ns ms) s->KatLex prog w A true fin Q (us.zip ws) i s
 | _,_,_,_,.nil,_,_,q=>kat_nil q
 | _,_,_,_,.cons _ _ _,.nil,_,q=>kat_nil q
 | _,_,_,_,.cons n t h,.cons m u g,i,q=>by
  rw [List.zip_cons_cons];refine kat_cons (wpAny_eqBool_int (kat_go (fun e=>?_) fun e=>?_))
  ·have e':n=m:=by simpa using e
   subst e';refine kat_yes (lex_ints h g (i+1) ?_);simpa [lexZ] using q
  ·have e':¬ n=m:=by simpa using e
   have q':Q (decide (n<m)) s:=by simpa [lexZ,e'] using q
   refine kat_no ?_;cases i with
   | zero=>exact kat_lt_int q'
   | succ i=>exact kat_one _ _ (lt_int q')
theorem cmp_ints0 {G:List Keyed} (hG:∀ u∈G,∃ ns,IT false s.heap u.1 ns):Cmp prog w A s (kInts false s.heap) (tuples' true) G:=by
 intro u hu' v hv E Q q;obtain ⟨ns,hn⟩:=hG u hu';obtain ⟨ms,hm⟩:=hG v hv;have k1:kk (kInts false s.heap) u=ns:=by show (keyH false s.heap u.1).getD []=ns;rw [hn.key];rfl
 have k2:kk (kInts false s.heap) v=ms:=by show (keyH false s.heap v.1).getD []=ms;rw [hm.key];rfl
 have q':Q (llt ns ms) s:=by rw [k1,k2] at q;exact q
 obtain ⟨⟨a,o,xs,n,e1,ho,_,hd,hi⟩,_⟩:=hn;obtain ⟨⟨b,p,ys,m,e2,hp,_,hd2,hi2⟩,_⟩:=hm;rw [e1,e2];refine kat_lt ho hd hp hd2 (lex_ints hi hi2 0 ?_);have z1:=hi.length;have z2:=hi2.length;have:decide (xs.size<ys.size)=decide (ns.length<ms.length):=by
  simp only [Array.length_toList] at z1 z2;rw [z1,z2]
 rw [this,lexZ_llt];exact q'
theorem tups_ints {m:Bool} {h:Heap}:∀ {vs:List Value} {nss:List (List Int)},Paired (IT m h) vs nss->∃ fs,KatTups h vs fs/\fs.length=vs.length/\∀ f∈fs,∃ i t,f=Value.int i t
 | _,_,.nil=>⟨[],.nil,rfl,fun _ h=>by cases h⟩
 | u::_,ns::_,.cons x r=>by
  obtain ⟨fs,h1,h2,h3⟩:=tups_ints r;have hx:∃ a o xs n i t rest,u=Value.ref a/\h.get? a=some o/\o.cls=.type "tuple" /\ o.data=.seq xs n/\xs.toList=Value.int i t::rest:=by
   cases m with
   | false =>
    obtain ⟨⟨a,o,xs,n,e,ho,hc,hd,hi⟩,hne⟩:=x;cases hx:xs.toList with
    | nil =>
     rw [hx] at hi;cases hi;exact absurd rfl hne
    | cons v rest =>
     rw [hx] at hi;cases hi with
     | cons n t hr=>exact ⟨a,o,xs,_,_,_,_,e,ho,hc,hd,hx⟩
   | true =>
    obtain ⟨a,o,xs,n,i,t,v,ms,e,ho,hc,hd,hx,_⟩:=x;exact ⟨a,o,xs,_,_,_,_,e,ho,hc,hd,hx⟩
  obtain ⟨a,o,xs,n,i,t,rest,e,ho,hc,hd,hx⟩:=hx;subst e;refine ⟨Value.int i t::fs,.cons ho hc hd (by rw [<- Array.getElem?_toList,hx];rfl) h1,by simp [h2],fun f hf=>?_⟩
  rcases List.mem_cons.mp hf with rfl | hf
  ·exact ⟨_,_,rfl⟩
  ·exact h3 f hf
theorem kind_ints {m:Bool} {vs:List Value} {nss:List (List Int)} {Q:SortKind->Shared->Prop} (t:Paired (IT m s.heap) vs nss) (hne:0<vs.length) (h:Q (tuples' true) s):wpAny (model prog w) A (keyKind' vs.toArray) Q E s:=by
 obtain ⟨fs,h1,h2,h3⟩:=tups_ints t;refine kat_kind (T:=.type "int") h1 (by lia) (fun v hv=>?_) (by first | rfl | decide) ?_
 ·obtain ⟨i,t,rfl⟩:=h3 v hv;exact Looks.of_pure rfl
 ·exact h
end
end PuS
namespace PuS
open PySem PyProof.Rows PySem.W PySem.Calls
def srtTree (a:Addr) (b:Bool):Sem PySem.Fin:=(do
  let items <- Builtin.List.listItems (.ref a)
  Builtin.List.listUpdate (.ref a) fun _=>#[]
  let before <- seqEpoch a
  let held <- newTuple items.toList
  let keyStore <- newList []
  holding [held,keyStore] do
   if b then rule "list.sort.reverse"
   let kind <- if items.size<2 then pure general' else keyKind' items
   let ((),s) <- (if items.size<2 then pure () else sortRuns').run (SortSt.mk' kind (if b then (items.zip items).reverse else items.zip items) #[] 7 none)
   let sorted:=(arrOf s).map (·.2)
   let touched:=(<- seqEpoch a) != before
   Builtin.List.listUpdate (.ref a) fun _=>if b then sorted.reverse else sorted
   if let some e:=failedOf s then rule "list.sort.comparison-raised";throw e
   if touched then rule "list.sort.modified";raiseError "ValueError" "list modified during sort"
   ret .none)
def kwOf (b:Bool):List (Str×Value):=if b then [(Str.ofString "reverse",.bool true)] else []
theorem tree_eq (a:Addr) (b:Bool):Builtin.«list.sort» ⟨[.ref a],kwOf b⟩=srtTree a b:=by
 cases b
 ·rfl
 ·rfl
theorem args_s (a:Value) (b:Bool):argsOk "sorted" ⟨[a],kwOf b⟩:=by
 cases b
 ·exact args_sorted1 a
 ·unfold argsOk;kernel_rfl
theorem args_l (a:Value) (b:Bool):argsOk "list.sort" ⟨[a],kwOf b⟩:=by
 cases b
 ·exact args_list_sort a
 ·unfold argsOk;kernel_rfl
def KY (m:Bool) (h:Heap) (u:Value):List Int:=(keyH m h u).getD []
def Srt (m b:Bool) (h:Heap) (out:List Value):Prop:=out.Pairwise fun u v=>if b then llt (KY m h u) (KY m h v)=false else llt (KY m h v) (KY m h u)=false
theorem IT.keep {m:Bool} {h h':Heap} {a:Addr} {u:Value} {ns:List Int} {o:Obj} (ho:h.get? a=some o) (hc:o.cls=.type "list") (k:∀ c o,c≠a->h.get? c=some o->h'.get? c=some o) (x:IT m h u ns):IT m h' u ns:=by
 refine x.keepT fun c p hp hq=>k c p ?_ hp
 rintro rfl;rw [ho] at hp;cases hp;rw [hc] at hq;injection hq with hq
 exact absurd hq (by decide)
theorem paired_imp {α β:Type} {R S:α->β->Prop} (i:∀ a b,R a b->S a b):∀ {as:List α} {bs:List β},Paired R as bs->Paired S as bs
 | _,_,.nil=>.nil
 | _,_,.cons r t=>.cons (i _ _ r) (paired_imp i t)
theorem paired_mem {α β:Type} {R:α->β->Prop}:∀ {as:List α} {bs:List β},Paired R as bs->∀ a∈as,∃ b,R a b
 | _,_,.nil,a,h=>by cases h
 | _,_,.cons r t,a,h=>by
  rcases List.mem_cons.mp h with rfl | h
  ·exact ⟨_,r⟩
  ·exact paired_mem t a h
theorem pairwise_short {α:Type} {R:α->α->Prop}:∀ {l:List α},l.length<2->l.Pairwise R
 | [],_=>.nil
 | [_],_=>List.pairwise_singleton _ _
 | _::_::_,h=>absurd h (by simp)
section
variable {prog:Program} {w:World} {A:Around} {E:Value->Shared->Prop} {s:Shared}
theorem srt_tree {m:Bool} (b:Bool) {a:Addr} {vs:List Value} {nss:List (List Int)} {n:Nat} {P:PySem.Fin->Shared->Prop} (ho:s.heap.get? a=some (seqObj "list" vs.toArray n)) (t:Paired (IT m s.heap) vs nss) (hz:vs.length<=100000) (hcmp:∀ (s':Shared) (G:List Keyed),(∀ u∈G,∃ ns,IT m s'.heap u.1 ns)->Cmp prog w A s' (kInts m s'.heap) (tuples' true) G)
  (h:∀ (h':Heap) (out:List Value) (n':Nat),out.Perm vs->Srt m b s.heap out->(∀ c o,c≠a->s.heap.get? c=some o->h'.get? c=some o)->h'.get? a=some (seqObj "list" out.toArray n')->P (.done (.ret .none)) {s with heap:=h'}) :
  wpAny (model prog w) A (srtTree a b) P E s:=by
 unfold srtTree;have ha:a<s.heap.objs.size:=Heap.lt_size ho;have hzl:vs.length<=sizeLine:=by rw [sizeLine_eq];lia
 refine wpAny_bind (listItems_at ho rfl ?_);refine wpAny_bind (listUpdate_at ho rfl ?_ (by rw [List.size_toArray];exact hzl) (Nat.zero_le _));obtain ⟨e1,ho1⟩:∃ e1,(s.heap.update a (Obj.mapSeq fun _=>#[])).get? a=some (seqObj "list" #[] e1):=⟨_,get?_update_seq ho (fun _=>#[])⟩;refine wpAny_bind (seqEpoch_at ho1 rfl ?_);refine wpAny_bind (wpAny_newTuple ?_ (by show vs.length<=_;exact hzl));refine wpAny_bind (wpAny_newList ?_ (Nat.zero_le _));refine wpAny_holding ?_;generalize hh6:((s.heap.update a (Obj.mapSeq fun _=>#[])).push (seqObj "tuple" vs.toArray 0)).push (seqObj "list" #[] 0)=h6;have ho6:h6.get? a=some (seqObj "list" #[] e1):=by
  rw [<- hh6,Heap.get?_push_ne _ _ _ (by rw [size_push',Heap.size_update];exact Nat.ne_of_lt (Nat.lt_succ_of_lt ha)),Heap.get?_push_ne _ _ _ (by rw [Heap.size_update];exact Nat.ne_of_lt ha)];exact ho1
 have k6:∀ c o,c≠a->s.heap.get? c=some o->h6.get? c=some o:=fun c o hc e=>by
  have hlt:c<s.heap.objs.size:=Heap.lt_size e;rw [<- hh6];refine Heap.get?_push_of_some _ (Heap.get?_push_of_some _ ?_);rw [Heap.get?_update_other _ _ (Ne.symm hc)];exact e
 have it6:∀ {u ns},IT m s.heap u ns->IT m h6 u ns:=fun x=>x.keep ho rfl k6
 have t6:Paired (IT m h6) vs nss:=paired_imp (fun u ns x=>it6 x) t;have key6:∀ u∈vs,KY m h6 u=KY m s.heap u:=fun u hu=>by
  obtain ⟨ns,x⟩:=paired_mem t u hu;unfold KY;rw [x.key,(it6 x).key]
 show wpAny (model prog w) A _ P E {s with heap:=h6}
 dsimp only;have hsz:vs.toArray.size=vs.length:=by simp
 have fin:∀ st':SortSt,(arrOf st').Perm (if b=true then (pairsOf vs).reverse else pairsOf vs)->failedOf st'=none->(arrOf st').toList.Pairwise (le (kInts m h6)) ->
   (if b=true then ((arrOf st').map (·.2)).reverse else (arrOf st').map (·.2)).size=vs.length/\P (.done (.ret .none)) {s with heap:=h6.update a (Obj.mapSeq fun _=>if b=true then ((arrOf st').map (·.2)).reverse else (arrOf st').map (·.2))}:=by
  intro st' hp hf hs;have hp2:(arrOf st').Perm (pairsOf vs):=by
   refine hp.trans ?_;cases b with
   | true=>exact Array.perm_iff_toList_perm.mpr (by rw [if_pos rfl,Array.toList_reverse];exact List.reverse_perm _)
   | false=>exact Array.Perm.refl _
  have hl2:(arrOf st').toList.Perm (vs.zip vs):=by
   have:=Array.perm_iff_toList_perm.mp hp2
   rwa [pairsOf_toList] at this
  have hmem:∀ p∈(arrOf st').toList,p.1=p.2/\p.2∈vs:=fun p hp'=>by
   have:=hl2.mem_iff.mp hp';obtain ⟨i,hi,e⟩:=List.mem_iff_getElem.mp this;rw [List.getElem_zip] at e;subst e;exact ⟨rfl,List.getElem_mem _⟩
  have hmp:((arrOf st').toList.map (·.2)).Perm vs:=by
   have z:=hl2.map (·.2);have:(vs.zip vs).map (·.2)=vs:=by rw [<- List.unzip_snd,List.unzip_zip rfl]
   rwa [this] at z
  have hpw:((arrOf st').toList.map (·.2)).Pairwise fun u v=>llt (KY m s.heap v) (KY m s.heap u)=false:=by
   rw [List.pairwise_map];refine hs.imp_of_mem fun {p q} mp mq hle=>?_
   have e1:=hmem p mp;have e2:=hmem q mq;have:llt ((keyH m h6 q.1).getD []) ((keyH m h6 p.1).getD [])=false:=hle;rw [e1.1,e2.1] at this;rw [<- key6 _ e1.2,<- key6 _ e2.2];exact this
  have hszo:(if b=true then ((arrOf st').map (·.2)).reverse else (arrOf st').map (·.2)).size=vs.length:=by
   have:=hp2.size_eq;rw [pairsOf_size] at this;cases b<;>simp [this]
  obtain ⟨e2,ho7⟩:∃ e2,(h6.update a (Obj.mapSeq fun _=>if b=true then ((arrOf st').map (·.2)).reverse else (arrOf st').map (·.2))).get? a=some (seqObj "list" (if b=true then ((arrOf st').map (·.2)).reverse else (arrOf st').map (·.2)) e2):=⟨_,get?_update_seq ho6 _⟩
  have k7:∀ c o,c≠a->s.heap.get? c=some o->(h6.update a (Obj.mapSeq fun _=>if b=true then ((arrOf st').map (·.2)).reverse else (arrOf st').map (·.2))).get? c=some o:=fun c o hc e=>by
   rw [Heap.get?_update_other _ _ (Ne.symm hc)];exact k6 c o hc e
  refine ⟨hszo,h _ (if b=true then ((arrOf st').toList.map (·.2)).reverse else (arrOf st').toList.map (·.2)) e2 ?_ ?_ k7 ?_⟩
  ·cases b with
   | true=>rw [if_pos rfl];exact (List.reverse_perm _).trans hmp
   | false=>exact hmp
  ·unfold Srt;cases b with
   | true =>
    simp only [if_true];rw [List.pairwise_reverse];exact hpw
   | false =>
    simp only [Bool.false_eq_true,if_false];exact hpw
  ·rw [ho7];congr 2;cases b with
   | true =>
    simp only [if_true];apply Array.toList_inj.mp;simp
   | false =>
    simp only [Bool.false_eq_true,if_false];apply Array.toList_inj.mp;simp
 have step:∀ t:Sem PySem.Fin,wpAny (model prog w) A t P E {s with heap:=h6}->wpAny (model prog w) A (if b=true then (do let _ <- rule "list.sort.reverse";t) else t) P E {s with heap:=h6}:=by
  intro t ht;cases b with
  | true=>rw [if_pos rfl];exact wpAny_bind (wpAny_rule ht)
  | false=>rw [if_neg (by simp)];exact ht
 refine step _ ?_;have hperm0:∀ k:SortKind,(arrOf (SortSt.mk' k (if b=true then (vs.toArray.zip vs.toArray).reverse else vs.toArray.zip vs.toArray) #[] 7 none))=(if b=true then (pairsOf vs).reverse else pairsOf vs):=fun k=>rfl
 have hsz0:(if b=true then (pairsOf vs).reverse else pairsOf vs).size=vs.length:=by cases b<;>simp [pairsOf]
 by_cases h2:vs.toArray.size<2
 ·rw [if_pos h2,if_pos h2];refine wpAny_bind (wpAny_pure ?_);rw [StateT.run_pure];refine wpAny_bind (wpAny_pure ?_);dsimp only;have FF:=fin (SortSt.mk' general' (if b=true then (vs.toArray.zip vs.toArray).reverse else vs.toArray.zip vs.toArray) #[] 7 none) (Array.Perm.refl _) rfl ?srt
  case srt =>
   have hl1:(if b=true then (pairsOf vs).reverse else pairsOf vs).toList.length<2:=by
    rw [Array.length_toList,hsz0];lia
   show (if b=true then (pairsOf vs).reverse else pairsOf vs).toList.Pairwise _
   exact pairwise_short hl1
  refine wpAny_bind (seqEpoch_at ho6 rfl ?_);refine wpAny_bind (listUpdate_at ho6 rfl ?_ (Nat.zero_le _) (Nat.le_succ_of_le (Nat.le_trans (Nat.le_of_eq FF.1) hzl)));simp only [bne_self_eq_false,Bool.false_eq_true,if_false];exact wpAny_pure FF.2
 ·rw [if_neg h2,if_neg h2];refine wpAny_bind (kind_ints t6 (by lia) ?_);have hG:∀ u∈(if b=true then (pairsOf vs).reverse else pairsOf vs).toList,∃ ns,IT m h6 u.1 ns:=fun u hu=>by
   have hu':u∈vs.zip vs:=by
    rw [<- pairsOf_toList];cases b with
    | true=>rw [if_pos rfl,Array.toList_reverse,List.mem_reverse] at hu;exact hu
    | false=>exact hu
   have:=(List.of_mem_zip (a:=u.1) (b:=u.2) hu').1;exact paired_mem t6 u.1 this
  refine wpAny_bind (wpAny_mono (sortRunsS (s:={s with heap:=h6}) (κ:=kInts m h6) (kd:=tuples' true) (a₀:=if b=true then (pairsOf vs).reverse else pairsOf vs) (hcmp {s with heap:=h6} _ hG)
   (st:=SortSt.mk' (tuples' true) (if b=true then (vs.toArray.zip vs.toArray).reverse else vs.toArray.zip vs.toArray) #[] 7 none)
   (Q:=fun _ st'=>(arrOf st').Perm (if b=true then (pairsOf vs).reverse else pairsOf vs)/\failedOf st'=none/\(arrOf st').toList.Pairwise (le (kInts m h6)))
   ⟨rfl,rfl⟩ (Array.Perm.refl _) rfl (by rw [hsz0];lia) fun st' a1 a2 a3=>⟨a1,a2,a3⟩) ?_ fun _ _ e=>e)
  rintro ⟨⟨⟩,st'⟩ s' ⟨rfl,hp,hf,hs⟩;dsimp only;have FF:=fin st' hp hf hs;refine wpAny_bind (seqEpoch_at ho6 rfl ?_);refine wpAny_bind (listUpdate_at ho6 rfl ?_ (Nat.zero_le _) (Nat.le_succ_of_le (Nat.le_trans (Nat.le_of_eq FF.1) hzl)));rw [hf];simp only [bne_self_eq_false,Bool.false_eq_true,if_false];exact wpAny_pure FF.2
theorem sorted_any {m:Bool} (b:Bool) {l:Addr} {vs:List Value} {nss:List (List Int)} {Q:Value->Shared->Prop} (hl:s.heap.IsList l vs.toArray) (t:Paired (IT m s.heap) vs nss) (hz:vs.length<=100000) (hcmp:∀ (A':Around),A'.units<=A.units+5->∀ (s':Shared) (G:List Keyed),(∀ u∈G,∃ ns,IT m s'.heap u.1 ns)->Cmp prog w A' s' (kInts m s'.heap) (tuples' true) G)
  (h:∀ (h':Heap) (out:List Value) (n':Nat),out.Perm vs->Srt m b s.heap out->(∀ c o,s.heap.get? c=some o->h'.get? c=some o)->h'.get? (s.heap.objs.size+1)=some (seqObj "list" out.toArray n')->Q (.ref (s.heap.objs.size+1)) {s with heap:=h'}) :
  wpAny (model prog w) A (call (.builtin "sorted") [.ref l] (kwOf b)) Q E s:=by
 have hzl:vs.length<=sizeLine:=by rw [sizeLine_eq];lia
 refine call_function_entry_kw kind_sorted plain_sorted entry_sorted (args_s _ b) ?_;unfold Builtin.«sorted»;refine wpAny_bind (m:=checkCount "sorted" 1 1 _) (wpAny_pure ?_);refine wpAny_bind (collect_list hl ?_ hzl);refine wpAny_bind (wpAny_newList ?_ hzl);have hsz:((s.heap.push (seqObj "list" #[] 0)).update s.heap.objs.size (Obj.mapSeq (·++vs.toArray))).objs.size=s.heap.objs.size+1:=by
  rw [Heap.size_update,size_push']
 generalize hh:((s.heap.push (seqObj "list" #[] 0)).update s.heap.objs.size (Obj.mapSeq (·++vs.toArray))).push (seqObj "list" vs.toArray 0)=h1;have hoL:h1.get? (s.heap.objs.size+1)=some (seqObj "list" vs.toArray 0):=by
  rw [<- hh,<- hsz];exact Heap.get?_push_size _ rfl
 have keep:∀ c o,s.heap.get? c=some o->h1.get? c=some o:=fun c o q=>by
  have hlt:c<s.heap.objs.size:=Heap.lt_size q;rw [<- hh,Heap.get?_push_ne _ _ _ (by rw [hsz];exact Nat.ne_of_lt (Nat.lt_succ_of_lt hlt)),Heap.get?_update_ne _ _ _ _ (Nat.ne_of_lt hlt),Heap.get?_push_ne _ _ _ (Nat.ne_of_lt hlt)];exact q
 show wpAny _ _ _ _ _ {s with heap:=h1}
 rw [hsz];have it1:∀ {u ns},IT m s.heap u ns->IT m h1 u ns:=fun {u ns} x=>x.keepT fun c o e _=>keep c o e
 have t1:Paired (IT m h1) vs nss:=paired_imp (fun u ns x=>it1 x) t;refine wpAny_bind (wpAny_holding (wpAny_call_entry_kw slot_list_sort ⟨_,hoL,rfl⟩ entry_list_sort ?body (args_l _ b)))
 case body =>
  rw [tree_eq];refine srt_tree b (s:={s with heap:=h1}) hoL t1 hz (hcmp _ (by simp only [Around.in1_units];lia)) fun h' out n' hp hs k ho'=>⟨_,rfl,?_⟩
  refine wpAny_pure ⟨_,rfl,h h' out n' hp ?_ (fun c o q=>k c o (Nat.ne_of_lt (Nat.lt_succ_of_lt (Heap.lt_size q))) (keep c o q)) ho'⟩
  have key1:∀ u∈vs,KY m h1 u=KY m s.heap u:=fun u hu=>by
   obtain ⟨ns,x⟩:=paired_mem t u hu;unfold KY;rw [x.key,(it1 x).key]
  refine hs.imp_of_mem fun {u v} mu mv e=>?_
  have e1:=key1 u (hp.mem_iff.mp mu);have e2:=key1 v (hp.mem_iff.mp mv);have e':if b=true then llt (KY m h1 u) (KY m h1 v)=false else llt (KY m h1 v) (KY m h1 u)=false:=e
  rw [e1,e2] at e';exact e'
end
end PuS
namespace Pu
open PySem PySem.Spec PyProof.Rows L2
def tupsOf:List PV->Option (List (List Int))
 | []=>some []
 | .tup xs::r=>match intsOf xs with
  | some (n::ns)=>(tupsOf r).map ((n::ns)::·)
  | _=>none
 | _=>none
def lle (a b:List Int):Bool:=!PuS.llt b a
def ordB (b:Bool) (x y:List Int):Bool:=if b then lle y x else lle x y
def sortL (b:Bool) (nss:List (List Int)):List (List Int):=nss.mergeSort (ordB b)
def tpv (ns:List Int):PV:=.tup (ns.map PV.int)
def srtF (b:Bool):PV->Res PV
 | .lst xs=>(optR (tupsOf xs)).bind fun nss=>if nss.length<=100000 then .ok (.lst ((sortL b nss).map tpv)) else .bad
 | _=>.bad
theorem srtF_nx {b:Bool} {v:PV} {x:XC}:srtF b v≠.exc x:=by
 cases v<;>simp only [srtF]<;>first | (intro h;cases h;done) | skip
 exact bind_nx (fun _=>optR_nx) (fun a x=>by split<;>(intro h;cases h)) x
theorem tupsOf_get:∀ {vs:List PV} {nss:List (List Int)},tupsOf vs=some nss->vs=nss.map tpv/\∀ ns∈nss,ns≠[]
 | [],nss,h=>by simp [tupsOf] at h;subst h;simp
 | .tup xs::r,nss,h=>by
  simp only [tupsOf] at h
  split at h
  ·rename_i n ns e
   obtain ⟨m,e2,rfl⟩:=Option.map_eq_some_iff.mp h;obtain ⟨h1,h2⟩:=tupsOf_get e2;refine ⟨by rw [List.map_cons,<- h1,intsOf_get e];rfl,fun k hk=>?_⟩
   rcases List.mem_cons.mp hk with rfl | hk
   ·simp
   ·exact h2 k hk
  ·cases h
 | .non::_,_,h=>by simp [tupsOf] at h
 | .bl _::_,_,h=>by simp [tupsOf] at h
 | .int _::_,_,h=>by simp [tupsOf] at h
 | .str _::_,_,h=>by simp [tupsOf] at h
 | .lst _::_,_,h=>by simp [tupsOf] at h
theorem tupsOf_map {nss:List (List Int)} (h:∀ ns∈nss,ns≠[]):tupsOf (nss.map tpv)=some nss:=by
 induction nss with
 | nil=>rfl
 | cons ns nss ih =>
  have h1:=h ns List.mem_cons_self;rw [List.map_cons];unfold tpv at ih ⊢;simp only [tupsOf,intsOf_map];cases ns with
  | nil=>exact absurd rfl h1
  | cons n ns=>simp [ih fun k hk=>h k (List.mem_cons_of_mem _ hk)]
theorem paired_perm {α β:Type} {R:α->β->Prop} {as as':List α} (p:as.Perm as'):∀ {bs:List β},Paired R as bs->∃ bs',bs.Perm bs'/\Paired R as' bs':=by
 induction p with
 | nil=>intro bs h;exact ⟨bs,.refl _,h⟩
 | cons a _ ih =>
  intro bs h;cases h with
  | cons r t =>
   obtain ⟨bs',q1,q2⟩:=ih t;exact ⟨_,q1.cons _,.cons r q2⟩
 | swap a b l =>
  intro bs h;cases h with
  | cons r t =>
   cases t with
   | cons r2 t2=>exact ⟨_,.swap _ _ _,.cons r2 (.cons r t2)⟩
 | trans _ _ ih1 ih2 =>
  intro bs h;obtain ⟨bs1,q1,q2⟩:=ih1 h;obtain ⟨bs2,q3,q4⟩:=ih2 q2;exact ⟨bs2,q1.trans q3,q4⟩
theorem lle_trans (a b c:List Int) (h1:lle a b=true) (h2:lle b c=true):lle a c=true:=by
 unfold lle at *;cases h:PuS.llt c a
 ·rfl
 ·rcases PuS.llt_neg _ b _ h with z | z
  ·rw [z] at h2;cases h2
  ·rw [z] at h1;cases h1
theorem lle_total (a b:List Int):(lle a b||lle b a)=true:=by
 unfold lle;cases h:PuS.llt b a
 ·rfl
 ·cases h2:PuS.llt a b
  ·rfl
  ·have:=PuS.llt_trans _ _ _ h h2;rw [PuS.llt_irrefl] at this;cases this
theorem lle_anti (a b:List Int) (h1:lle a b=true) (h2:lle b a=true):a=b:=by
 unfold lle at *;exact PuS.llt_total a b (by simpa using h2) (by simpa using h1)
theorem ordB_trans (b:Bool) (x y z:List Int) (h1:ordB b x y=true) (h2:ordB b y z=true):ordB b x z=true:=by
 cases b
 ·exact lle_trans x y z h1 h2
 ·exact lle_trans z y x h2 h1
theorem ordB_total (b:Bool) (x y:List Int):(ordB b x y||ordB b y x)=true:=by
 cases b
 ·exact lle_total x y
 ·exact lle_total y x
theorem ordB_anti (b:Bool) (x y:List Int) (h1:ordB b x y=true) (h2:ordB b y x=true):x=y:=by
 cases b
 ·exact lle_anti x y h1 h2
 ·exact lle_anti x y h2 h1
theorem sortL_unique {b:Bool} {nss ms:List (List Int)} (hp:ms.Perm nss) (ho:ms.Pairwise fun x y=>ordB b x y=true):ms=sortL b nss :=
 Pd.perm_unique (le:=fun x y=>ordB b x y=true) (fun x y=>ordB_anti b x y) (hp.trans (List.mergeSort_perm nss (ordB b)).symm) ho (List.pairwise_mergeSort (ordB_trans b) (ordB_total b) nss)
section
variable {X:Cx} {pins:List (Addr×Obj)} {σ:SS} {H:Hp} {s:Shared} {W:Addr->Prop}
theorem ints_of:∀ {ns:List Int} {xs:List V} {us:List Value},Reps X.K H (ns.map PV.int) xs->Vals xs us->IntsAre us ns
 | [],xs,us,r,q=>by
  obtain rfl:=Reps.nil.mp r;cases q;exact .nil
 | n::ns,xs,us,r,q=>by
  obtain ⟨x,t,rfl,r1,r2⟩:=Reps.cons.mp r;obtain rfl:=Rep.int.mp r1;cases q with
  | cons q1 q2 =>
   obtain ⟨t,rfl⟩:=q1;exact .cons _ _ (ints_of r2 q2)
theorem it_of (I:L2.Inv X pins σ H s) {ns:List Int} {x:V} {u:Value} (hne:ns≠[]) (r:Rep X.K (hid W H) (tpv ns) x) (q:RelV x u):PuS.IT false s.heap u ns:=by
 obtain ⟨a,xs,rfl,h1,h2⟩:=Rep.tup'.mp r;cases q;obtain ⟨its,rv,⟨o,e1,e2,n,e3⟩,_⟩:=I.tuple (sqT_of h1);exact ⟨⟨a,o,its.toArray,n,rfl,e1,e2,e3,by simpa using ints_of h2 rv⟩,hne⟩
theorem paired3 {m:Bool} {pv:List Int->PV}:∀ {nss:List (List Int)} {xs:List V} {us:List Value},(∀ ns∈nss,∀ x u,Rep X.K (hid W H) (pv ns) x->RelV x u->PuS.IT m s.heap u ns)->Reps X.K (hid W H) (nss.map pv) xs->Vals xs us ->
  Paired (fun (u:Value) (p:V×List Int)=>RelV p.1 u/\Rep X.K (hid W H) (pv p.2) p.1/\PuS.IT m s.heap u p.2) us (xs.zip nss)/\Paired (PuS.IT m s.heap) us nss
 | [],xs,us,_,r,q=>by
  obtain rfl:=Reps.nil.mp r;cases q;exact ⟨.nil,.nil⟩
 | ns::nss,xs,us,hit,r,q=>by
  obtain ⟨x,t,rfl,r1,r2⟩:=Reps.cons.mp r;cases q with
  | cons q1 q2 =>
   obtain ⟨h1,h2⟩:=paired3 (fun k hk=>hit k (List.mem_cons_of_mem _ hk)) r2 q2
   have it:=hit ns List.mem_cons_self _ _ r1 q1;exact ⟨.cons ⟨q1,r1,it⟩ h1,.cons it h2⟩
theorem unpair {s:Shared} {m:Bool} {pv:List Int->PV}:∀ {us:List Value} {ps:List (V×List Int)},Paired (fun (u:Value) (p:V×List Int)=>RelV p.1 u/\Rep X.K (hid W H) (pv p.2) p.1/\PuS.IT m s.heap u p.2) us ps ->
  Vals (ps.map (·.1)) us/\Reps X.K (hid W H) ((ps.map (·.2)).map pv) (ps.map (·.1))/\us.map (PuS.KY m s.heap)=ps.map (·.2)
 | _,_,.nil=>⟨.nil,Reps.nil.mpr rfl,rfl⟩
 | _,_,.cons ⟨r1,r2,r3⟩ t=>by
  obtain ⟨h1,h2,h3⟩:=unpair t;refine ⟨.cons r1 h1,Reps.mk r2 h2,?_⟩;rw [List.map_cons,List.map_cons,h3];congr 1;unfold PuS.KY;rw [r3.key];rfl
theorem sorted_core {m:Bool} {pv:List Int->PV} (b:Bool) (I:L2.Inv X pins σ H s) {nss:List (List Int)} {x:V} {u:Value} {Q:VK} {E:Value->Shared->Prop} (tk:∀ a,W a->H a≠none) (r:Rep X.K (hid W H) (.lst (nss.map pv)) x) (rx:RelV x u)
  (hit:∀ ns∈nss,∀ x u,Rep X.K (hid W H) (pv ns) x->RelV x u->PuS.IT m s.heap u ns) (hz:nss.length<=100000) (hcmp:∀ (A':Around),A'.units<=X.A.units+5->∀ (s':Shared) (G:List Keyed),(∀ u∈G,∃ ns,PuS.IT m s'.heap u.1 ns)->PuS.Cmp X.prog X.w A' s' (PuS.kInts m s'.heap) (tuples' true) G) (q:OkQ X.K W H Q (.lst ((sortL b nss).map pv))) :
  wpAny (model X.prog X.w) X.A (call (.builtin "sorted") [u] (PuS.kwOf b)) (EP X pins σ Q) E s:=by
 obtain ⟨a,xs,rfl,h1,h2⟩:=Rep.lst'.mp r;cases rx;obtain ⟨its,rv,pl,hl⟩:=I.list (sqL_of h1);obtain ⟨p3,p2⟩:=paired3 hit h2 rv;have hlen:its.length=nss.length:=by rw [<- rv.length,h2.length,List.length_map]
 refine PuS.sorted_any b pl.isList p2 (by lia) hcmp fun h' out n' hp hs keep hD=>?_
 obtain ⟨ps,q1,q2⟩:=paired_perm hp.symm p3;obtain ⟨g1,g2,g3⟩:=unpair q2;have hsnd:(xs.zip nss).map (·.2)=nss:=by
  rw [<- List.unzip_snd,List.unzip_zip (by rw [h2.length,List.length_map])]
 have hperm:(ps.map (·.2)).Perm nss:=by
  have:=(q1.map (·.2)).symm
  rwa [hsnd] at this
 have hsort:(ps.map (·.2)).Pairwise fun x y=>ordB b x y=true:=by
  rw [<- g3,List.pairwise_map];refine List.Pairwise.imp ?_ hs;intro u v hh;unfold ordB lle;cases b
  ·simp only [Bool.false_eq_true,if_false] at hh ⊢;simp [hh]
  ·simp only [if_true] at hh ⊢;simp [hh]
 have he:=sortL_unique hperm hsort;rw [he] at g2;have hps:ps.length=out.length:=by have:=g1.length;simpa using this
 have hol:out.length=nss.length:=by rw [hp.length_eq,hlen]
 have hD0:H (s.heap.objs.size+1)=none:=I.hok.fresh (Nat.le_succ _);refine ⟨.ref (s.heap.objs.size+1),upd H (s.heap.objs.size+1) (.lst (ps.map (·.1))),I.laid (t':=s.toks) keep (Nat.le_succ _) ⟨?_,out,n',g1,hD⟩,rfl,okQ_lst q tk g2 hD0⟩;rw [List.length_map,hps,hol];exact Nat.le_trans hz (by decide)
theorem sorted_run {k:Nat} (b:Bool) (I:L2.Inv X pins σ H s) {v z:PV} {x:V} {u:Value} {Q:VK} {E:Value->Shared->Prop} (tk:∀ a,W a->H a≠none) (r:Rep X.K (hid W H) v x) (rx:RelV x u) (e:srtF b v=.ok z) (q:OkQ X.K W H Q z) :
  wpAny (model X.prog X.w) X.A (call (.builtin "sorted") [u] (PuS.kwOf b)) (EP X pins σ Q) E s:=by
 cases v with
 | lst vs =>
  simp only [srtF] at e;obtain ⟨nss,e1,e⟩:=optR_ok e
  split at e
  ·rename_i hz
   cases e;obtain ⟨rfl,hne⟩:=tupsOf_get e1;exact sorted_core (m:=false) b I tk r rx (fun ns hn x u r q=>it_of I (hne ns hn) r q) hz (fun A' _ s' G hG=>PuS.cmp_ints0 hG) q
  ·cases e
 | _=>simp [srtF] at e
def eSrt (d:De):De:=fun ρ=>(d ρ).bind (srtF false)
def eSrtD (d:De):De:=fun ρ=>(d ρ).bind (srtF true)
theorem boot_sorted:bootBuiltins "sorted" = some (.builtin "sorted"):=by decide
variable {a:Expr} {da:De} {p pos:Pos}
theorem de_srt {k:Nat} (hr:Room k X.A) (hg:Gl X "sorted") (hm:X.mg "sorted" = none) (ha:DE X a da) (he:starEach [a] X.env=(false,eval a X.env)::starEach [] X.env:=by rfl) (hpl:(backTo pos (starEach [] X.env)).any (·.1)=false:=by rfl) :
  DE X (.Call (.Name "sorted" p) [a] [] pos) (eSrt da):=by
 intro pins s σ H Q I ⟨W,ρ,er,h⟩;refine wpAny_Call_Name_kw (ld_blt I hg hm boot_sorted ?_ (by decide) (by decide));refine PyProof.Rows.callWith_builtin1 (thn ((da_cons ha da_nil he) pos pins s σ H (fun ys H2=>∃ y v,ys=[y]/\ER X.K W H2 σ ρ/\Rep X.K (hid W H2) v y/\Fin X W H2 Q (srtF false v)) I ?_) fun us s1 ⟨vs,H1,I1,r1,y,v,e,er1,ry,h1⟩=>?_) he hpl
 ·refine ⟨W,ρ,er,?_⟩;unfold eSrt at h;cases e:da ρ with
  | exc z=>rw [e] at h;simp only [aCons,e,Res.bind_exc];exact h
  | bad=>rw [e] at h;exact h.elim
  | ok v =>
   rw [e,Res.bind_ok] at h;simp only [aCons,aNil,e,Res.bind_ok];intro ys H2 s2 r2;obtain ⟨y,t,rfl,q1,q2⟩:=Reps.cons.mp r2;obtain rfl:=Reps.nil.mp q2;exact ⟨y,v,rfl,er.mono s2,q1,Fin.grow h s2⟩
 ·subst e;obtain ⟨w,rfl,rw'⟩:=vals1 r1;cases e2:srtF false v with
  | exc z=>exact absurd e2 srtF_nx
  | bad=>rw [e2] at h1;exact h1.elim
  | ok z =>
   rw [e2] at h1;exact sorted_run (k:=k) false I1 er1.trk ry rw' e2 h1
theorem de_srtD {k:Nat} {j:Nat} {kp cp:Pos} (hr:Room k X.A) (hg:Gl X "sorted") (hm:X.mg "sorted" = none) (ha:DE X a da) (he:starEach [a] X.env=(false,eval a X.env)::starEach [] X.env:=by rfl)
  (hall:(backToKw pos (keywordEach [⟨some "reverse",.Constant (.bool true) j cp,kp⟩] X.env)).all (·.1.isSome)=true:=by rfl)
  (hks:(backToKw pos (keywordEach [⟨some "reverse",.Constant (.bool true) j cp,kp⟩] X.env)).filterMap (·.1)=[Str.ofString "reverse"]:=by rfl)
  (hp1:(backTo pos (starEach [a] X.env)).any (·.1)=false:=by rfl) (hp2:(backToKw pos (keywordEach [⟨some "reverse",.Constant (.bool true) j cp,kp⟩] X.env)).any (·.1.isNone)=false:=by rfl) :
  DE X (.Call (.Name "sorted" p) [a] [⟨some "reverse",.Constant (.bool true) j cp,kp⟩] pos) (eSrtD da):=by
 intro pins s σ H Q I ⟨W,ρ,er,h⟩;refine wpAny_Call_Name_kw (ld_blt I hg hm boot_sorted ?_ (by decide) (by decide));refine PyProof.Rows.callWith_kw (thn ((da_cons ha da_nil he) pos pins s σ H (fun ys H2=>∃ y v,ys=[y]/\ER X.K W H2 σ ρ/\Rep X.K (hid W H2) v y/\Fin X W H2 Q (srtF true v)) I ?_) fun us s1 ⟨vs,H1,I1,r1,y,v,e,er1,ry,h1⟩=>?_) (by rw [he]<;>rfl) hp1 hall hp2
 ·refine ⟨W,ρ,er,?_⟩;unfold eSrtD at h;cases e:da ρ with
  | exc z=>rw [e] at h;simp only [aCons,e,Res.bind_exc];exact h
  | bad=>rw [e] at h;exact h.elim
  | ok v =>
   rw [e,Res.bind_ok] at h;simp only [aCons,aNil,e,Res.bind_ok];intro ys H2 s2 r2;obtain ⟨y,t,rfl,q1,q2⟩:=Reps.cons.mp r2;obtain rfl:=Reps.nil.mp q2;exact ⟨y,v,rfl,er.mono s2,q1,Fin.grow h s2⟩
 ·refine thn (pk_cons (nm:=some "reverse") (kpos:=kp) (pe_bl (b:=true)) pk_nil pos pins s1 σ H1 (fun zs H2=>zs=[V.bl true]/\H2=H1) I1 ⟨rfl,rfl⟩) fun ws s2 ⟨zs,H2,I2,rz,e3,e4⟩=>?_
  subst e3 e4;rw [hks];obtain ⟨b,rfl,rb⟩:=vals1 rz;cases (show b=Value.bool true from rb);subst e;obtain ⟨w,rfl,rw'⟩:=vals1 r1;cases e2:srtF true v with
  | exc z=>exact absurd e2 srtF_nx
  | bad=>rw [e2] at h1;exact h1.elim
  | ok z =>
   rw [e2] at h1;exact sorted_run (k:=k) true I2 er1.trk ry rw' e2 h1
end
end Pu
namespace Pu
open PySem L2
section
variable {α:Type} {d d' a b c':De} {s s':Ds} {c t t':Dt} {ds:Das} {ρ ρ':En} {f g:PV->PV->Res PV} {v u:PV} {vs us:List PV} {tg:Dg} {di:Di}
def seqK (s':Ds):Out->Res Out
 | .nx ρ'=>s' ρ'
 | o=>.ok o
@[simp] theorem r_seq:sSeq s s' ρ=(s ρ).bind (seqK s'):=by
 unfold sSeq;congr 1
@[simp] theorem r_seq1:seqK s' (.nx ρ)=s' ρ:=(rfl)
@[simp] theorem r_seq2:seqK s' (.rt v)=.ok (.rt v):=(rfl)
@[simp] theorem r_seq3:seqK s' (.bk ρ)=.ok (.bk ρ):=(rfl)
@[simp] theorem r_seq4:seqK s' (.ct ρ)=.ok (.ct ρ):=(rfl)
def ifK (x y:En->Res α) (ρ:En) (k:Bool):Res α:=if k then x ρ else y ρ
@[simp] theorem r_ifK1 {x y:En->Res α}:ifK x y ρ true=x ρ:=(rfl)
@[simp] theorem r_ifK2 {x y:En->Res α}:ifK x y ρ false=y ρ:=(rfl)
@[simp] theorem r_if:sIf c s s' ρ=(c ρ).bind (ifK s s' ρ):=(rfl)
@[simp] theorem r_eif:eIf c d d' ρ=(c ρ).bind (ifK d d' ρ):=(rfl)
def nxK (ρ:En):Res Out:=.ok (.nx ρ)
@[simp] theorem r_nxK:nxK ρ=.ok (.nx ρ):=(rfl)
def asgK (tg:Dg) (ρ:En) (v:PV):Res Out:=(tg v ρ).bind nxK
@[simp] theorem r_asg:sAsg d tg ρ=(d ρ).bind (asgK tg ρ):=(rfl)
@[simp] theorem r_asg1:asgK tg ρ v=(tg v ρ).bind nxK:=(rfl)
@[simp] theorem r_name {i:Nat}:bName i v ρ=.ok (ρ.set i (some (.val v))):=(rfl)
@[simp] theorem r_two {i j:Nat}:bTwo i j (.tup [v,u]) ρ=.ok ((ρ.set i (some (.val v))).set j (some (.val u))):=(rfl)
def rtK (v:PV):Res Out:=.ok (.rt v)
@[simp] theorem r_rtK:rtK v=.ok (.rt v):=(rfl)
@[simp] theorem r_ret:sRet d ρ=(d ρ).bind rtK:=(rfl)
@[simp] theorem r_retN:sRetN ρ=.ok (.rt .non):=(rfl)
@[simp] theorem r_nil:sNil ρ=.ok (.nx ρ):=(rfl)
def dropK (ρ:En) (v:PV):Res Out:=.ok (.nx ρ)
@[simp] theorem r_dropK:dropK ρ v=.ok (.nx ρ):=(rfl)
@[simp] theorem r_drop:sDrop d ρ=(d ρ).bind (dropK ρ):=(rfl)
def outK:Out->Res PV
 | .rt v=>.ok v
 | .nx _=>.ok .non
 | _=>.bad
@[simp] theorem r_out1:outK (.rt v)=.ok v:=(rfl)
@[simp] theorem r_out2:outK (.nx ρ)=.ok .non:=(rfl)
@[simp] theorem r_rtout (r:Res PV):(r.bind rtK).bind outK=r:=by cases r<;>rfl
theorem r_run {n:Nat}:runF n s vs=(s (entry n vs)).bind outK:=by
 unfold runF;congr 1
def e2K (f:PV->PV->Res PV) (b:De) (ρ:En) (v:PV):Res PV:=(b ρ).bind (f v)
@[simp] theorem r_e2:e2 f a b ρ=(a ρ).bind (e2K f b ρ):=(rfl)
@[simp] theorem r_e2K:e2K f b ρ v=(b ρ).bind (f v):=(rfl)
@[simp] theorem r_eB {h:List PV->Res PV}:eB h ds ρ=(ds ρ).bind h:=(rfl)
@[simp] theorem r_eC:eC v ρ=.ok v:=(rfl)
@[simp] theorem r_aNil:aNil ρ=.ok []:=(rfl)
def acK2 (v:PV) (vs:List PV):Res (List PV):=.ok (v::vs)
def acK (ds:Das) (ρ:En) (v:PV):Res (List PV):=(ds ρ).bind (acK2 v)
@[simp] theorem r_aCons:aCons d ds ρ=(d ρ).bind (acK ds ρ):=(rfl)
@[simp] theorem r_acK:acK ds ρ v=(ds ρ).bind (acK2 v):=(rfl)
@[simp] theorem r_acK2:acK2 v vs=.ok (v::vs):=(rfl)
@[simp] theorem r_eTst:eTst d ρ=(d ρ).bind asB:=(rfl)
@[simp] theorem r_asB {k:Bool}:asB (.bl k)=.ok k:=(rfl)
@[simp] theorem r_eTru:eTru d ρ=(d ρ).bind truV:=(rfl)
@[simp] theorem r_tru1 {k:Bool}:truV (.bl k)=.ok k:=(rfl)
@[simp] theorem r_tru2 {i:Int}:truV (.int i)=.ok (i != 0):=(rfl)
@[simp] theorem r_tru3:truV (.lst vs)=.ok (!vs.isEmpty):=(rfl)
@[simp] theorem r_tru4:truV (.tup vs)=.ok (!vs.isEmpty):=(rfl)
@[simp] theorem r_tru5:truV .non=.ok false:=(rfl)
def notK (k:Bool):Res Bool:=.ok (!k)
@[simp] theorem r_notK {k:Bool}:notK k=.ok (!k):=(rfl)
@[simp] theorem r_not:tNotD t ρ=(t ρ).bind notK:=(rfl)
def andK (t:Dt) (ρ:En) (k:Bool):Res Bool:=if k then t ρ else .ok false
def orK (t:Dt) (ρ:En) (k:Bool):Res Bool:=if k then .ok true else t ρ
@[simp] theorem r_and:tAndD t t' ρ=(t ρ).bind (andK t' ρ):=(rfl)
@[simp] theorem r_or:tOrD t t' ρ=(t ρ).bind (orK t' ρ):=(rfl)
@[simp] theorem r_and1:andK t ρ true=t ρ:=(rfl)
@[simp] theorem r_and2:andK t ρ false=.ok false:=(rfl)
@[simp] theorem r_or1:orK t ρ true=.ok true:=(rfl)
@[simp] theorem r_or2:orK t ρ false=t ρ:=(rfl)
def eAndK (d:De) (ρ:En) (v:PV):Res PV:=(asB v).bind fun k=>if k then d ρ else .ok (.bl false)
def eOrK (d:De) (ρ:En) (v:PV):Res PV:=(asB v).bind fun k=>if k then .ok (.bl true) else d ρ
def eNotK (v:PV):Res PV:=(asB v).bind fun k=>.ok (.bl (!k))
@[simp] theorem r_eAnd:eAnd d d' ρ=(d ρ).bind (eAndK d' ρ):=(rfl)
@[simp] theorem r_eAnd1:eAndK d ρ (.bl true)=d ρ:=(rfl)
@[simp] theorem r_eAnd2:eAndK d ρ (.bl false)=.ok (.bl false):=(rfl)
@[simp] theorem r_eOr:eOr d d' ρ=(d ρ).bind (eOrK d' ρ):=(rfl)
@[simp] theorem r_eOr1:eOrK d ρ (.bl true)=.ok (.bl true):=(rfl)
@[simp] theorem r_eOr2:eOrK d ρ (.bl false)=d ρ:=(rfl)
@[simp] theorem r_eNot:eNot d ρ=(d ρ).bind eNotK:=(rfl)
@[simp] theorem r_eNotK {k:Bool}:eNotK (.bl k)=.ok (.bl (!k)):=(rfl)
def chK3 (g:PV->PV->Res PV) (c':De) (ρ:En) (y:PV) (z:PV):Res PV:=(asB z).bind fun k=>if k then (c' ρ).bind fun w=>g y w else .ok (.bl false)
def chK2 (f g:PV->PV->Res PV) (c':De) (ρ:En) (x y:PV):Res PV:=(f x y).bind (chK3 g c' ρ y)
def chK1 (f g:PV->PV->Res PV) (b c':De) (ρ:En) (x:PV):Res PV:=(b ρ).bind (chK2 f g c' ρ x)
@[simp] theorem r_ch:eCh f g a b c' ρ=(a ρ).bind (chK1 f g b c' ρ):=(rfl)
@[simp] theorem r_ch1:chK1 f g b c' ρ v=(b ρ).bind (chK2 f g c' ρ v):=(rfl)
@[simp] theorem r_ch2:chK2 f g c' ρ v u=(f v u).bind (chK3 g c' ρ u):=(rfl)
@[simp] theorem r_ch3:chK3 g c' ρ u (.bl true)=(c' ρ).bind (g u):=(rfl)
@[simp] theorem r_ch4:chK3 g c' ρ u (.bl false)=.ok (.bl false):=(rfl)
def tupK (vs:List PV):Res PV:=szOk vs.length (.tup vs)
def lstK (vs:List PV):Res PV:=szOk vs.length (.lst vs)
@[simp] theorem r_tup:eTup ds ρ=(ds ρ).bind tupK:=(rfl)
@[simp] theorem r_lst:eLst ds ρ=(ds ρ).bind lstK:=(rfl)
theorem szOk_ok {n:Nat} (h:n<=sizeLine):szOk n v=.ok v:=by unfold szOk;rw [if_pos h]
theorem szOk_small {n:Nat} (h:n<=100000):szOk n v=.ok v:=szOk_ok (Nat.le_trans h (by decide))
@[simp] theorem r_tupK0:tupK []=.ok (.tup []):=szOk_small (by simp)
@[simp] theorem r_tupK1 {v0:PV}:tupK [v0]=.ok (.tup [v0]):=szOk_small (by simp)
@[simp] theorem r_tupK2 {v0 v1:PV}:tupK [v0,v1]=.ok (.tup [v0,v1]):=szOk_small (by simp)
@[simp] theorem r_lstK0:lstK []=.ok (.lst []):=szOk_small (by simp)
@[simp] theorem r_lstK1 {v0:PV}:lstK [v0]=.ok (.lst [v0]):=szOk_small (by simp)
@[simp] theorem r_lstK2 {v0 v1:PV}:lstK [v0,v1]=.ok (.lst [v0,v1]):=szOk_small (by simp)
@[simp] theorem r_lstK3 {v0 v1 v2:PV}:lstK [v0,v1,v2]=.ok (.lst [v0,v1,v2]):=szOk_small (by simp)
def slK3 (x:PV) (l h:Option Int):Res PV:=slF l h x
def slK2 (hi:Dp) (ρ:En) (x:PV) (l:Option Int):Res PV:=(hi ρ).bind (slK3 x l)
def slK1 (lo hi:Dp) (ρ:En) (x:PV):Res PV:=(lo ρ).bind (slK2 hi ρ x)
@[simp] theorem r_sl {lo hi:Dp}:eSl d lo hi ρ=(d ρ).bind (slK1 lo hi ρ):=(rfl)
@[simp] theorem r_sl1 {lo hi:Dp}:slK1 lo hi ρ v=(lo ρ).bind (slK2 hi ρ v):=(rfl)
@[simp] theorem r_sl2 {hi:Dp} {l:Option Int}:slK2 hi ρ v l=(hi ρ).bind (slK3 v l):=(rfl)
@[simp] theorem r_sl3 {l h:Option Int}:slK3 v l h=slF l h v:=(rfl)
@[simp] theorem r_pI:pI d ρ=(d ρ).bind asI:=(rfl)
@[simp] theorem r_asI {i:Int}:asI (.int i)=.ok (some i):=(rfl)
def isK (T:Ty) (v:PV):Res PV:=.ok (.bl (isT T v))
@[simp] theorem r_is {T:Ty}:eIs T d ρ=(d ρ).bind (isK T):=(rfl)
@[simp] theorem r_isK {T:Ty}:isK T v=.ok (.bl (isT T v)):=(rfl)
def negK:PV->Res PV
 | .int i=>.ok (.int (-i))
 | _=>.bad
@[simp] theorem r_neg:eNeg d ρ=(d ρ).bind negK:=by unfold eNeg;congr 1
@[simp] theorem r_negK {i:Int}:negK (.int i)=.ok (.int (-i)):=(rfl)
def forK (tg:Dg) (s:Ds) (ρ:En) (vs:List PV):Res Out:=forL tg s vs ρ
@[simp] theorem r_for:sFor di tg s ρ=(di ρ).bind (forK tg s ρ):=(rfl)
@[simp] theorem r_iSeq:iSeq d ρ=(d ρ).bind seqF:=(rfl)
@[simp] theorem r_seqL:seqF (.lst vs)=.ok vs:=(rfl)
@[simp] theorem r_seqT:seqF (.tup vs)=.ok vs:=(rfl)
@[simp] theorem r_iR1:iR1 ds ρ=(ds ρ).bind rg1:=(rfl)
@[simp] theorem r_iR2:iR2 ds ρ=(ds ρ).bind rg2:=(rfl)
@[simp] theorem r_iZip:iZip ds ρ=(ds ρ).bind zpF:=(rfl)
theorem r_rg1 {n:Nat} (h:n<=100000):rg1 [.int (n:Int)]=.ok ((List.range n).map fun k:Nat=>PV.int (k:Int)):=by
 simp only [rg1];rw [if_pos (by lia)];simp [rng]
@[simp] theorem r_zip1 {x y:List PV}:zpF [.lst x,.lst y]=.ok (zpL x y):=(rfl)
@[simp] theorem r_zip2 {x y:List PV}:zpF [.tup x,.tup y]=.ok (zpL x y):=(rfl)
@[simp] theorem r_zip3 {x y:List PV}:zpF [.lst x,.tup y]=.ok (zpL x y):=(rfl)
@[simp] theorem r_zip4 {x y:List PV}:zpF [.tup x,.lst y]=.ok (zpL x y):=(rfl)
@[simp] theorem r_var0:eVar 0 (some (.val v)::ρ)=.ok v:=(rfl)
@[simp] theorem r_varS {i:Nat} {o:Option Sl}:eVar (i+1) (o::ρ)=eVar i ρ:=(rfl)
@[simp] theorem r_add {i j:Int}:addF (.int i) (.int j)=.ok (.int (i+j)):=(rfl)
@[simp] theorem r_sub {i j:Int}:subF (.int i) (.int j)=.ok (.int (i-j)):=(rfl)
@[simp] theorem r_lt {i j:Int}:ltF (.int i) (.int j)=.ok (.bl (decide (i<j))):=(rfl)
@[simp] theorem r_le {i j:Int}:leF (.int i) (.int j)=.ok (.bl (decide (i<=j))):=(rfl)
@[simp] theorem r_gt {i j:Int}:gtF (.int i) (.int j)=.ok (.bl (decide (j<i))):=(rfl)
@[simp] theorem r_ge {i j:Int}:geF (.int i) (.int j)=.ok (.bl (decide (j<=i))):=(rfl)
theorem r_mod {i j:Int} (h:0<j):modF (.int i) (.int j)=.ok (.int (i % j)):=by simp [modF,i2,h]
theorem r_fdv {i j:Int} (h:0<j) (h2:j<1000000):fdvF (.int i) (.int j)=.ok (.int (i/j)):=by
 simp only [fdvF,i2];rw [if_pos (by lia)]
theorem r_mulL {i j:Int} (h : -1000000<i/\i<1000000):mulF (.int i) (.int j)=.ok (.int (i*j)):=by
 simp only [mulF];rw [if_pos (by lia)]
theorem r_mulR {i j:Int} (h : -1000000<j/\j<1000000):mulF (.int i) (.int j)=.ok (.int (i*j)):=by
 simp only [mulF];rw [if_pos (by lia)]
theorem r_mulT {k:Nat} (h:us.length*k<=100000) (hk:k<=100000):mulF (.tup us) (.int (k:Int))=.ok (.tup (List.replicate k us).flatten):=by
 simp only [mulF,Int.toNat_natCast];rw [if_pos ⟨by lia,by lia,Nat.le_trans h (by decide)⟩]
theorem r_addT (h:vs.length+us.length<=100000):addF (.tup vs) (.tup us)=.ok (.tup (vs++us)):=szOk_small h
theorem r_addL (h:vs.length+us.length<=100000):addF (.lst vs) (.lst us)=.ok (.lst (vs++us)):=szOk_small h
@[simp] theorem r_lenL:lenF [.lst vs]=.ok (.int (vs.length:Nat)):=(rfl)
@[simp] theorem r_lenT:lenF [.tup vs]=.ok (.int (vs.length:Nat)):=(rfl)
@[simp] theorem r_tupL:tupF [.lst vs]=.ok (.tup vs):=(rfl)
@[simp] theorem r_tupT:tupF [.tup vs]=.ok (.tup vs):=(rfl)
@[simp] theorem r_lstL:lstF [.lst vs]=.ok (.lst vs):=(rfl)
@[simp] theorem r_lstT:lstF [.tup vs]=.ok (.lst vs):=(rfl)
@[simp] theorem r_intI {i:Int}:intF [.int i]=.ok (.int i):=(rfl)
@[simp] theorem r_intB {k:Bool}:intF [.bl k]=.ok (eb k):=(rfl)
@[simp] theorem r_ixL {i:Int}:ixF (.lst vs) (.int i)=atF vs i:=(rfl)
@[simp] theorem r_ixT {i:Int}:ixF (.tup vs) (.int i)=atF vs i:=(rfl)
@[simp] theorem r_slL {lo hi:Option Int}:slF lo hi (.lst vs)=.ok (.lst (cutP vs lo hi)):=(rfl)
@[simp] theorem r_slT {lo hi:Option Int}:slF lo hi (.tup vs)=.ok (.tup (cutP vs lo hi)):=(rfl)
theorem cutP_take (xs:List PV) (n:Nat):cutP xs none (some (n:Int))=xs.take n:=by
 simp [cutP,HT.sIx_nat,HT.sIx_none]
theorem cutP_drop (xs:List PV) (n:Nat):cutP xs (some (n:Int)) none=xs.drop n:=by
 simp only [cutP,HT.sIx_nat,HT.sIx_none]
 rcases Nat.le_total n xs.length with h | h
 ·rw [Nat.min_eq_left h,List.take_of_length_le (by simp)]
 ·rw [Nat.min_eq_right h,List.drop_of_length_le (Nat.le_refl _),List.drop_of_length_le h];simp
theorem sum_ints (ns:List Int):sumF [.lst (ns.map PV.int)]=.ok (.int ns.sum):=by
 simp [sumF,intsOf_map,optR]
theorem all_bls (ns:List Bool):allF [.lst (ns.map PV.bl)]=.ok (.bl (ns.all id)):=by
 simp [allF,blsOf_map,optR]
theorem r_compM {k:Nat} {idx:List Nat} {t:Dg} {c:Dt} {e:De} {l:List α} {q h:α->PV} (hd:di ρ=.ok (l.map q)) (hz:l.length<=100000) (hs:∀ x∈l,cStep t c e (caps k idx ρ) (q x)=.ok (some (h x))) :
  eComp di k idx t c e ρ=.ok (.lst (l.map h)):=eComp_map hd (Nat.le_trans hz (by decide)) hs
theorem r_compF {k:Nat} {idx:List Nat} {t:Dg} {c:Dt} {e:De} {l:List α} {p:α->Bool} {q h:α->PV} (hd:di ρ=.ok (l.map q)) (hz:l.length<=100000) (hs:∀ x∈l,cStep t c e (caps k idx ρ) (q x)=.ok (if p x then some (h x) else none)) :
  eComp di k idx t c e ρ=.ok (.lst ((l.filter p).map h)):=eComp_filt hd (Nat.le_trans hz (by decide)) hs
def csK2 (e:De) (ρ:En) (k:Bool):Res (Option PV):=if k then (e ρ).bind fun x=>.ok (some x) else .ok none
def csK1 (c:Dt) (e:De) (ρ:En):Res (Option PV):=(c ρ).bind (csK2 e ρ)
def someK (v:PV):Res (Option PV):=.ok (some v)
@[simp] theorem r_someK:someK v=.ok (some v):=(rfl)
@[simp] theorem r_cs {e:De}:cStep tg c e ρ v=(tg v ρ).bind (csK1 c e):=(rfl)
@[simp] theorem r_cs1 {e:De}:csK1 c e ρ=(c ρ).bind (csK2 e ρ):=(rfl)
@[simp] theorem r_cs2 {e:De}:csK2 e ρ true=(e ρ).bind someK:=(rfl)
@[simp] theorem r_cs3 {e:De}:csK2 e ρ false=.ok none:=(rfl)
@[simp] theorem r_cap1 {x:PV}:capS (some (some (.val x)))=some (.val x):=(rfl)
@[simp] theorem r_own0:ownAt (some (.own vs)::ρ) 0=.ok vs:=(rfl)
@[simp] theorem r_ownS {i:Nat} {o:Option Sl}:ownAt (o::ρ) (i+1)=ownAt ρ i:=(rfl)
def frzK (i:Nat) (ρ:En) (vs:List PV):Res Out:=.ok (.nx (ρ.set i (some (.val (.lst vs)))))
@[simp] theorem r_frz {i:Nat}:sFrz i ρ=(ownAt ρ i).bind (frzK i ρ):=(rfl)
@[simp] theorem r_frzK {i:Nat}:frzK i ρ vs=.ok (.nx (ρ.set i (some (.val (.lst vs))))):=(rfl)
def ownK (i:Nat) (ρ:En) (vs:List PV):Res Out:=if vs.length<=sizeLine then .ok (.nx (ρ.set i (some (.own vs)))) else .bad
@[simp] theorem r_ownL {i:Nat}:sOwnL i ds ρ=(ds ρ).bind (ownK i ρ):=(rfl)
theorem r_ownK0' {i:Nat} (h:vs.length<=sizeLine):ownK i ρ vs=.ok (.nx (ρ.set i (some (.own vs)))):=by unfold ownK;rw [if_pos h]
@[simp] theorem r_ownK0 {i:Nat}:ownK i ρ []=.ok (.nx (ρ.set i (some (.own [])))):=r_ownK0' (by simp)
def appK2 (i:Nat) (ρ:En) (vs:List PV) (v:PV):Res Out:=if vs.length<sizeLine then .ok (.nx (ρ.set i (some (.own (vs++[v]))))) else .bad
def appK (i:Nat) (d:De) (ρ:En) (vs:List PV):Res Out:=(d ρ).bind (appK2 i ρ vs)
@[simp] theorem r_app {i:Nat}:sApp i d ρ=(ownAt ρ i).bind (appK i d ρ):=(rfl)
@[simp] theorem r_appK {i:Nat}:appK i d ρ vs=(d ρ).bind (appK2 i ρ vs):=(rfl)
theorem r_appK2 {i:Nat} (h:vs.length<100000):appK2 i ρ vs v=.ok (.nx (ρ.set i (some (.own (vs++[v]))))):=by unfold appK2;rw [if_pos (Nat.lt_trans h (by decide))]
@[simp] theorem r_lenO {i:Nat}:eLenO i ρ=(ownAt ρ i).bind (fun vs=>.ok (.int vs.length)):=(rfl)
def ixOK2 (vs:List PV):PV->Res PV
 | .int j=>atF vs j
 | _=>.bad
def ixOK (d:De) (ρ:En) (vs:List PV):Res PV:=(d ρ).bind (ixOK2 vs)
@[simp] theorem r_ixO {i:Nat}:eIxO i d ρ=(ownAt ρ i).bind (ixOK d ρ):=by
 unfold eIxO ixOK;congr 1
@[simp] theorem r_ixOK:ixOK d ρ vs=(d ρ).bind (ixOK2 vs):=(rfl)
@[simp] theorem r_ixOK2 {j:Int}:ixOK2 vs (.int j)=atF vs j:=(rfl)
@[simp] theorem r_retO0:sRetO 0 (some (.own vs)::ρ)=.ok (.rt (.lst vs)):=(rfl)
@[simp] theorem r_retOS {i:Nat} {o:Option Sl}:sRetO (i+1) (o::ρ)=sRetO i ρ:=(rfl)
@[simp] theorem r_srt:eSrt d ρ=(d ρ).bind (srtF false):=(rfl)
@[simp] theorem r_srtD:eSrtD d ρ=(d ρ).bind (srtF true):=(rfl)
@[simp] theorem r_isN1:isN .non .non=.ok (.bl true):=(rfl)
@[simp] theorem r_isN2 {i:Int}:isN (.int i) .non=.ok (.bl false):=(rfl)
@[simp] theorem isT_int_non:isT .int .non=false:=(rfl)
@[simp] theorem isT_int_bl {k:Bool}:isT .int (.bl k)=true:=(rfl)
@[simp] theorem isT_int_int {i:Int}:isT .int (.int i)=true:=(rfl)
@[simp] theorem isT_int_str {x:Str}:isT .int (.str x)=false:=(rfl)
@[simp] theorem isT_int_lst:isT .int (.lst vs)=false:=(rfl)
@[simp] theorem isT_int_tup:isT .int (.tup vs)=false:=(rfl)
@[simp] theorem isT_int_ew {w:Pd.W}:isT .int (ew w)=false:=(rfl)
@[simp] theorem isT_int_eb {k:Bool}:isT .int (eb k)=true:=(rfl)
@[simp] theorem isT_bool_non:isT .bool .non=false:=(rfl)
@[simp] theorem isT_bool_bl {k:Bool}:isT .bool (.bl k)=true:=(rfl)
@[simp] theorem isT_bool_int {i:Int}:isT .bool (.int i)=false:=(rfl)
@[simp] theorem isT_bool_str {x:Str}:isT .bool (.str x)=false:=(rfl)
@[simp] theorem isT_bool_lst:isT .bool (.lst vs)=false:=(rfl)
@[simp] theorem isT_bool_tup:isT .bool (.tup vs)=false:=(rfl)
@[simp] theorem isT_bool_ew {w:Pd.W}:isT .bool (ew w)=false:=(rfl)
@[simp] theorem isT_bool_eb {k:Bool}:isT .bool (eb k)=false:=(rfl)
@[simp] theorem isT_tup_non:isT .tup .non=false:=(rfl)
@[simp] theorem isT_tup_bl {k:Bool}:isT .tup (.bl k)=false:=(rfl)
@[simp] theorem isT_tup_int {i:Int}:isT .tup (.int i)=false:=(rfl)
@[simp] theorem isT_tup_str {x:Str}:isT .tup (.str x)=false:=(rfl)
@[simp] theorem isT_tup_lst:isT .tup (.lst vs)=false:=(rfl)
@[simp] theorem isT_tup_tup:isT .tup (.tup vs)=true:=(rfl)
@[simp] theorem isT_tup_ew {w:Pd.W}:isT .tup (ew w)=true:=(rfl)
@[simp] theorem isT_tup_eb {k:Bool}:isT .tup (eb k)=false:=(rfl)
@[simp] theorem isT_lst_non:isT .lst .non=false:=(rfl)
@[simp] theorem isT_lst_bl {k:Bool}:isT .lst (.bl k)=false:=(rfl)
@[simp] theorem isT_lst_int {i:Int}:isT .lst (.int i)=false:=(rfl)
@[simp] theorem isT_lst_str {x:Str}:isT .lst (.str x)=false:=(rfl)
@[simp] theorem isT_lst_lst:isT .lst (.lst vs)=true:=(rfl)
@[simp] theorem isT_lst_tup:isT .lst (.tup vs)=false:=(rfl)
@[simp] theorem isT_lst_ew {w:Pd.W}:isT .lst (ew w)=false:=(rfl)
@[simp] theorem isT_lst_eb {k:Bool}:isT .lst (eb k)=false:=(rfl)
@[simp] theorem isT_str_non:isT .str .non=false:=(rfl)
@[simp] theorem isT_str_bl {k:Bool}:isT .str (.bl k)=false:=(rfl)
@[simp] theorem isT_str_int {i:Int}:isT .str (.int i)=false:=(rfl)
@[simp] theorem isT_str_str {x:Str}:isT .str (.str x)=true:=(rfl)
@[simp] theorem isT_str_lst:isT .str (.lst vs)=false:=(rfl)
@[simp] theorem isT_str_tup:isT .str (.tup vs)=false:=(rfl)
@[simp] theorem isT_str_ew {w:Pd.W}:isT .str (ew w)=false:=(rfl)
@[simp] theorem isT_str_eb {k:Bool}:isT .str (eb k)=false:=(rfl)
@[simp] theorem isT_dict_non:isT .dict .non=false:=(rfl)
@[simp] theorem isT_dict_bl {k:Bool}:isT .dict (.bl k)=false:=(rfl)
@[simp] theorem isT_dict_int {i:Int}:isT .dict (.int i)=false:=(rfl)
@[simp] theorem isT_dict_str {x:Str}:isT .dict (.str x)=false:=(rfl)
@[simp] theorem isT_dict_lst:isT .dict (.lst vs)=false:=(rfl)
@[simp] theorem isT_dict_tup:isT .dict (.tup vs)=false:=(rfl)
@[simp] theorem isT_dict_ew {w:Pd.W}:isT .dict (ew w)=false:=(rfl)
@[simp] theorem isT_dict_eb {k:Bool}:isT .dict (eb k)=false:=(rfl)
end
end Pu
namespace Pu
open PySem PySem.Spec PyProof.Rows L2 PySem.SeqAt
open AutoSeq1 (wpAny_loadPart')
theorem range_find {M:Model} {A:Around} {E:Value->Shared->Prop} {s:Shared} {β:Type} {body:Nat->Option β×PUnit->Sem (ForInStep (Option β×PUnit))} {R:Option β×PUnit->Shared->Prop} {j:Nat} {s':Shared} {b:β}
  (hn:∀ i,i<j->∀ P:ForInStep (Option β×PUnit)->Shared->Prop,P (.yield (none,⟨⟩)) s->wpAny M A (body i (none,⟨⟩)) P E s)
  (hy:∀ P:ForInStep (Option β×PUnit)->Shared->Prop,P (.done (some b,⟨⟩)) s'->wpAny M A (body j (none,⟨⟩)) P E s) (h:R (some b,⟨⟩) s') :
  ∀ (m k:Nat),k<=j->j<k+m->wpAny M A (forIn (List.range' k m) (none,⟨⟩) body) R E s:=by
 intro m
 induction m with
 | zero=>intro k h1 h2;lia
 | succ m ih =>
  intro k h1 h2;rw [List.range'_succ,List.forIn_cons]
  by_cases e:k=j
  ·subst e;exact wpAny_bind (hy _ (wpAny_pure h))
  ·exact wpAny_bind (hn k (by lia) _ (ih (k+1) (by lia) (by lia)))
theorem tuple_indexAt (l:Addr) (items:Array Value) (n:Nat) (dd:Option Addr) (sl:Array (Option Value)) (x:Value) (e:Value->Bool) (j:Nat) (hj:j<items.size) (hjt:e items[j]=true) (hlt:∀ i (h:i<items.size),i<j->e items[i]=false) :
  Meets (Builtin.«tuple.index» ⟨[.ref l,x],[]⟩)
   (fun A R s=>s.heap.get? l=some {cls:=.type "tuple",dict:=dd,data:=.seq items n,slots:=sl}/\(∀ y,y∈items->EqAt A.in1 s y x (e y))/\R (.ok (.ret (.int (j:Nat) s.toks))) {s with toks:=s.toks+1}) :=
 .of_wp fun prog w A R s h=>by
  obtain ⟨hp,g,d,tk,os⟩:=s;obtain ⟨hl,he,h⟩:=h
  wp_walk using wpAny_loadPart' hl
  show wpAny (model prog w) A.in1 (forIn ([:min items.size items.size]:Std.Legacy.Range) ((none:Option PySem.Fin),()) (fun (i:Nat) (_:Option PySem.Fin×Unit)=>(match items[i]? with
      | some y=>do
       let b <- eqBool y x
       if b=true then do
         let r <- retInt (i:Int)
         pure (ForInStep.done (some r,()))
        else pure (ForInStep.yield (none,()))
      | _=>pure (ForInStep.yield (none,())):Sem (ForInStep (Option PySem.Fin×Unit))))) _ _ _
  rw [Std.Legacy.Range.forIn_eq_forIn_range'];have hsz:([:min items.size items.size]:Std.Legacy.Range).size=items.size:=by simp [Std.Legacy.Range.size]
  rw [hsz];refine range_find (j:=j) (s':=⟨hp,g,d,tk+1,os⟩) (b:=.done (.ret (.int (j:Nat) tk))) (fun i hi P hP=>?_) (fun P hP=>?_) ?_ items.size 0 (Nat.zero_le _) (by lia)
  ·have hi':i<items.size:=by lia
   rw [getElem?_pos items i hi'];dsimp only;refine wpAny_bind (he items[i] (Array.getElem_mem hi') prog w _ _ ?_);rw [hlt i hi' hi];simp only [Bool.false_eq_true,if_false];exact wpAny_pure hP
  ·rw [getElem?_pos items j hj];dsimp only;refine wpAny_bind (he items[j] (Array.getElem_mem hj) prog w _ _ ?_);rw [hjt];simp only [if_true]
   wp_walk
   exact hP
  ·wp_walk
   exact ⟨_,rfl,h⟩
section
variable {X:Cx} {a b:Expr} {da db:De}
theorem mt_index {k:Nat} (hr:Room k X.A):MtT X "tuple.index" indexF:=by
 intro pins s σ H W vs b z x y v u Q I rx ry ra rb e q;obtain ⟨as,r1⟩:=rep_reads I (.tup vs) x v (ra.mono hid_sub) rx;obtain ⟨bs,r2⟩:=rep_reads I b y u (rb.mono hid_sub) ry;simp only [indexF] at e
 split at e
 ·rename_i hc
  rw [Bool.and_eq_true] at hc;obtain ⟨c1,c2⟩:=cmpOk_parts hc.1;obtain ⟨c3,c4⟩:=cmpOk_parts hc.2;have hu:=room_units hr;simp only [dat] at r1 c3 c4;have c3':PyData.canLayAll0 (dats vs)=true:=by simpa [PyData.canLay0] using c3
  split at e
  ·rename_i j hj
   cases e;cases r1 with
   | tuple h1 h2 h3 h4 =>
    rename_i l o its n
    obtain ⟨cls,dd,data,sl⟩:=o;simp only at h2 h3;subst h2 h3;have hm:=readsAll_map _ _ _ c3' h4;rw [dats_map] at hm;have hlen:its.size=vs.length:=by
     have:=congrArg List.length hm;simpa using this
    obtain ⟨hjl,hjt,hjf⟩:=List.findIdx?_eq_some_iff_getElem.mp hj;have at_:∀ i (h:i<its.size),PyData.eqv (readOf s.heap its[i]) (dat b)=eqv (vs[i]'(by lia)) b:=fun i h=>by
     have q1:(its.toList.map (readOf s.heap))[i]?=(vs.map dat)[i]?:=by rw [hm]
     rw [List.getElem?_map,List.getElem?_map,List.getElem?_eq_getElem (by simpa using h),List.getElem?_eq_getElem (by lia)] at q1;simp only [Option.map_some,Option.some.injEq,Array.getElem_toList] at q1;rw [q1];rfl
    refine call_meets PySem.F.slot_tuple_index ⟨_,h1,rfl⟩ PySem.F.entry_tuple_index (PySem.F.args_tuple_index_2 _ _) (tuple_indexAt _ _ _ _ _ _ (fun y=>PyData.eqv (readOf s.heap y) (dat b)) j (by lia) (by rw [at_];exact hjt) (fun i h hi=>by rw [at_];simpa using hjf i hi)) ⟨h1,items_eqAt h4 r2 c3' c1 (by lia),?_⟩
    exact ⟨.int _,H,I.tok _,⟨_,rfl⟩,okI q⟩
  ·cases e
 ·cases e
theorem de_index {k:Nat} {apos cpos:Pos} (hr:Room k X.A) (ha:DE X a da) (hb:DE X b db) (hbase:attributeBase a "index" X.env (eval a X.env)=eval a X.env:=by rfl)
  (hfew:((backTo cpos (starEach [b] X.env)).all (fun x=>!x.1)&&(backToKw cpos (keywordEach [] X.env)).all (fun x=>x.1.isSome)
   && decide ([b].length+([]:List Keyword).length+(if ([]:List Keyword).isEmpty then 0 else 1)<30))=true:=by rfl)
  (hline:(apos.endLine==cpos.line)=true:=by rfl) (hs:starEach [b] X.env=(false,eval b X.env)::starEach [] X.env:=by rfl) (hplain:(backTo cpos (starEach [] X.env)).any (·.1)=false:=by rfl)
  (hnx:∀ ρ z,db ρ≠.exc z:=by intro _ _ h;first | (cases h;done) | exact Pu.eVar_nx h) :
  DE X (.Call (.Attribute a "index" apos) [b] [] cpos) (e2 indexF da db):=de_mt1 PySem.F.slot_tuple_index PySem.F.type_tuple_index (mt_index hr) indexF_tup ha hb hnx nx_index hbase hfew hline hs hplain
end
end Pu
namespace Pu
open PySem L2
def enumL (i:Nat):List PV->List PV
 | []=>[]
 | v::vs=>.tup [.int (i:Int),v]::enumL (i+1) vs
def enF:PV->Res (List PV)
 | .lst vs=>.ok (enumL 0 vs)
 | _=>.bad
def iEnum (d:De):Di:=fun ρ=>(d ρ).bind enF
@[simp] theorem r_iEnum {d:De} {ρ:En}:iEnum d ρ=(d ρ).bind enF:=(rfl)
@[simp] theorem r_enL {vs:List PV}:enF (.lst vs)=.ok (enumL 0 vs):=(rfl)
theorem enumL_map {α:Type} (g:α->PV):∀ (l:List α) (i:Nat),enumL i (l.map g)=(l.zipIdx i).map fun p=>PV.tup [.int (p.2:Nat),g p.1]
 | [],_=>rfl
 | a::l,i=>by rw [List.map_cons,enumL,enumL_map g l,List.zipIdx_cons,List.map_cons]
def revK (i:Nat) (ρ:En) (v:PV):Res Out:=match v with
 | .lst vs=>.ok (.nx (ρ.set i (some (.own vs.reverse))))
 | _=>.bad
def sOwnR (i:Nat) (d:De):Ds:=fun ρ=>(d ρ).bind (revK i ρ)
@[simp] theorem r_ownR {i:Nat} {d:De} {ρ:En}:sOwnR i d ρ=(d ρ).bind (revK i ρ):=(rfl)
@[simp] theorem r_revK {i:Nat} {vs:List PV} {ρ:En}:revK i ρ (.lst vs)=.ok (.nx (ρ.set i (some (.own vs.reverse)))):=(rfl)
def isBF (k:Bool) (a:PV) (b:PV):Res PV:=match a,b with
 | .bl x,.bl y=>if y=k then .ok (.bl (decide (x=y))) else .bad
 | _,_=>.bad
def notBF (k:Bool) (a:PV) (b:PV):Res PV:=match a,b with
 | .bl x,.bl y=>if y=k then .ok (.bl (!decide (x=y))) else .bad
 | _,_=>.bad
@[simp] theorem r_notB {x k:Bool}:notBF k (.bl x) (.bl k)=.ok (.bl (!decide (x=k))):=by simp [notBF]
@[simp] theorem r_isB {x k:Bool}:isBF k (.bl x) (.bl k)=.ok (.bl (decide (x=k))):=by simp [isBF]
def setK3 (i:Nat) (ρ:En) (v:PV) (vs:List PV) (k:PV):Res Out:=match k with
 | .int j=>match ixN vs.length j with
  | some m=>.ok (.nx (ρ.set i (some (.own (vs.set m v)))))
  | none=>.bad
 | _=>.bad
def setK2 (i:Nat) (dk:De) (ρ:En) (v:PV) (vs:List PV):Res Out:=(dk ρ).bind (setK3 i ρ v vs)
def setK1 (i:Nat) (dk:De) (ρ:En) (v:PV):Res Out:=(ownAt ρ i).bind (setK2 i dk ρ v)
@[simp] theorem r_setO {i:Nat} {dk d:De} {ρ:En}:sSetO i dk d ρ=(d ρ).bind (setK1 i dk ρ):=by
 unfold sSetO setK1 setK2;congr 1
@[simp] theorem r_setK1 {i:Nat} {dk:De} {ρ:En} {v:PV}:setK1 i dk ρ v=(ownAt ρ i).bind (setK2 i dk ρ v):=(rfl)
@[simp] theorem r_setK2 {i:Nat} {dk:De} {ρ:En} {v:PV} {vs:List PV}:setK2 i dk ρ v vs=(dk ρ).bind (setK3 i ρ v vs):=(rfl)
theorem r_setK3 {i:Nat} {ρ:En} {v:PV} {vs:List PV} {k:Nat} (h:k<vs.length):setK3 i ρ v vs (.int (k:Int))=.ok (.nx (ρ.set i (some (.own (vs.set k v))))):=by
 unfold setK3 ixN;simp [h]
end Pu
namespace Pu
open PySem PySem.Spec PyProof.Rows L2
def Ite (K:PySem.W.Frag) (l:Addr):It :=
 ⟨fun i H=>∃ xs x,SqL K H l xs/\xs[i]?=some x,
  fun i H z H'=>∃ p x,z=.ref p/\H p=none/\H'=upd H p (.tup [.int (i:Int),x])/\∀ xs,SqL K H l xs->xs[i]?=some x,
  fun i H=>∃ xs,SqL K H l xs/\xs.length<=i⟩
def En2 (e it l:Addr) (i:Nat) (h:Heap):Prop:=(∃ old,IsEnum h e it (i:Int) old)/\h.IsListIter it l i
theorem turn_enum {P:Program} {w:World} {K:PySem.W.Frag} {es:List Expr} {kk:Nat} {ps:Pos} (e it l:Addr) (hei:e≠it) :
  Turn P w K (.Tuple es kk ps) (Ite K l) [e,it] e (En2 e it l) where
 mem:=by simp
 obj:=fun i h Z c hc=>by
  obtain ⟨⟨old,q⟩,o,ho,hcl,hd⟩:=Z;simp only [List.mem_cons,List.not_mem_nil,or_false] at hc
  rcases hc with rfl | rfl
  ·exact ⟨_,q,fun v z=>by cases z⟩
  ·exact ⟨o,ho,fun v z=>by rw [hd] at z;cases z⟩
 keep:=fun i h h' ⟨⟨old,q⟩,o,ho,r⟩ k=>⟨⟨old,k e (by simp) _ q⟩,o,k it (by simp) _ ho,r⟩
 item:=by
  intro X hP hw hK hc i pins s σ H E I hf Z hg;subst hP hw hK;obtain ⟨xs,x,qa,hx⟩:=hg;obtain ⟨its,r1,pl,hz⟩:=I.list qa;obtain ⟨u,hu,ru⟩:=r1.get hx;obtain ⟨⟨old,he⟩,hit⟩:=Z;refine wpAny_pyNext_enum_item he hit pl.isList (x:=u) (by simpa using hu) hei fun h' he' hit' pr sz kp=>⟨_,rfl,?_⟩
  refine wpAny_letOwnedTupleGo_enum (s:={s with heap:=h',toks:=s.toks+1}) he' fun h2 he2 e2=>?_
  have fr:H s.heap.objs.size=none:=I.fresh;have hel:e<s.heap.objs.size:=Heap.lt_size he;have hil:it<s.heap.objs.size:=by obtain ⟨o,ho,_⟩:=hit;exact Heap.lt_size ho
  have pz:s.heap.objs.size≠e:=Nat.ne_of_gt hel;have up:∀ c o,c∉[e,it]->s.heap.get? c=some o->h2.get? c=some o:=fun c o hc q=>by
   simp only [List.mem_cons,List.not_mem_nil,or_false,not_or] at hc;exact e2.extBut _ _ hc.1 (kp c o hc.1 hc.2 q)
  have nH:∀ c o,H c=some o->c∉[e,it]:=fun c o q hc=>by rw [(hf c hc).1] at q;cases q
  have pT:h2.get? s.heap.objs.size=some {cls:=.type "tuple",data:=.seq #[.int (i:Int) s.toks,u]}:=e2.extBut _ _ pz pr;have I2:L2.Inv X pins σ (upd H s.heap.objs.size (.tup [.int (i:Int),x])) {s with heap:=h2,gens:=s.gens,drawn:=s.drawn,toks:=s.toks+1}:=by
   refine I.step (ch:=[e,it]) (fun c hc=>?_) (fun c o _ _ hc q _=>up c o hc q) (fun c o _ _ hc q _=>⟨o.slots,up c o hc q⟩) (fun c o _ q n=>by rw [upd_ne (Nat.ne_of_lt (Heap.lt_size q))];exact n)
    (fun c o hc q=>⟨o,up c o hc q⟩) (fun c l q=>by rw [upd_ne (ne_of_none q fr)];exact q) (fun c o l q=>by rw [upd_ne (ne_of_none q fr)];exact q) (fun c l q=>⟨#[],by rw [upd_ne (ne_of_none q fr),q];simp⟩) (fun m hm=>?_) (fun c o q=>?_) I.bare
   ·obtain ⟨f0,f1,f2,f3,f4,f5⟩:=hf c hc;exact ⟨f3,f1,f4,f5⟩
   ·obtain ⟨o,es',ep,ho,rr⟩:=hm;refine ⟨o,es',ep,up _ o (fun hc=>?_) ho,rr⟩;exact (hf _ hc).2.1 rfl
   ·by_cases hcp:c=s.heap.objs.size
    ·subst hcp;rw [upd_same] at q;cases q;exact ⟨by show 2<=sizeLine;decide,[.int (i:Int) s.toks,u],.cons ⟨_,rfl⟩ (.cons ru .nil),⟨_,pT,rfl,rfl,_,rfl⟩⟩
    ·rw [upd_ne hcp] at q;refine (I.hok c o q).stay (fun d ob hd e=>up d ob ?_ e) (fun d e=>by rw [upd_ne (ne_of_none e fr)];exact e) fun d l e=>by rw [upd_ne (ne_of_none e fr)];exact e
     rcases hd with hd | hd
     ·rw [hd];exact nH c o q
     ·exact nH d _ hd
  refine ⟨.ref s.heap.objs.size,_,I2,rfl,⟨_,x,rfl,fr,rfl,fun zs hl=>by rw [I.list_inj hl qa];exact hx⟩,⟨⟨u,?_⟩,?_⟩,fun c hc=>?_⟩
  ·have z:((i+1:Nat):Int)=(i:Int)+1:=by lia
   rw [z];exact he2
  ·obtain ⟨o,ho,r⟩:=hit';exact ⟨o,e2.extBut _ _ (Ne.symm hei) ho,r⟩
  ·have hcl:c<s.heap.objs.size:=by
    simp only [List.mem_cons,List.not_mem_nil,or_false] at hc
    rcases hc with rfl | rfl
    ·exact hel
    ·exact hil
   rw [upd_ne (Nat.ne_of_lt hcl)];exact (hf c hc).1
 done:=by
  intro X hP hw hK hc i pins s σ H E I hf Z hg;subst hP hw hK;obtain ⟨xs,qa,hend⟩:=hg;obtain ⟨its,r1,pl,hz⟩:=I.list qa;have l1:=r1.length;obtain ⟨⟨old,he⟩,hit⟩:=Z;refine wpAny_pyNext_enum_end (I.ok.hd hc) he hit pl.isList (by simp;lia) fun h' kp=>⟨rfl,?_⟩
  have up:∀ c o,c∉[it]->s.heap.get? c=some o->h'.get? c=some o:=fun c o hc q=>kp c o (fun z=>hc (by simp [z])) q
  have nH:∀ c o,H c=some o->c∉[it]:=fun c o q hc=>by
   have hc':c=it:=by simpa using hc
   rw [(hf c (by simp [hc'])).1] at q;cases q
  exact I.step (g':=s.gens) (d':=s.drawn) (t':=s.toks) (ch:=[it]) (fun c hc=>by
    have hc':c=it:=by simpa using hc
    obtain ⟨f0,f1,f2,f3,f4,f5⟩:=hf c (by simp [hc']);exact ⟨f3,f1,f4,f5⟩) (fun c o _ _ hc q _=>up c o hc q) (fun c o _ _ hc q _=>⟨o.slots,up c o hc q⟩) (fun c o _ q n=>n) (fun c o hc q=>⟨o,up c o hc q⟩) (fun c l q=>q) (fun c o l q=>q) (fun c l q=>⟨#[],by rw [q];simp⟩)
    (fun m hm=>by
     obtain ⟨o,es',ep,ho,rr⟩:=hm;refine ⟨o,es',ep,up _ o (fun hc=>?_) ho,rr⟩;have hc':X.env.locals=it:=by simpa using hc
     exact (hf it (by simp)).2.1 hc'.symm)
    (fun c o q=>(I.hok c o q).stay (fun d ob hd e=>up d ob (by
     rcases hd with hd | hd
     ·rw [hd];exact nH c o q
     ·exact nH d _ hd) e) (fun _ e=>e) fun _ _ e=>e) I.bare
 self:=fun _ _ _ _ _ ⟨⟨old,he⟩,_⟩ h=>wpAny_pyIter_enum he h
theorem enumL_get:∀ (vs:List PV) (k i:Nat) (v:PV),(enumL k vs)[i]?=some v->∃ x,vs[i]?=some x/\v=.tup [.int ((k+i:Nat):Int),x]
 | [],k,i,v,h=>by simp [enumL] at h
 | x::vs,k,0,v,h=>by simp [enumL] at h;exact ⟨x,rfl,h.symm⟩
 | x::vs,k,i+1,v,h=>by
  obtain ⟨y,h1,h2⟩:=enumL_get vs (k+1) i v (by simpa [enumL] using h);refine ⟨y,by simpa using h1,?_⟩;rw [h2];congr 3;lia
theorem enumL_length:∀ (vs:List PV) (k:Nat),(enumL k vs).length=vs.length
 | [],_=>rfl
 | _::vs,k=>by simp [enumL,enumL_length vs]
theorem itOk_enum {K:PySem.W.Frag} {G:Hp} {l:Addr} {vs:List PV} {xs:List V} (h1:SqL K G l xs) (r1:Reps K G vs xs):ItOk K G (Ite K l) (enumL 0 vs):=by
 intro i H1 hs;have q1:=hs.seq h1;refine ⟨fun v ev=>?_,fun e=>⟨xs,q1,?_⟩⟩
 ·obtain ⟨x,e1,rfl⟩:=enumL_get _ _ _ _ ev;obtain ⟨x',e3,r3⟩:=r1.get e1;refine ⟨⟨xs,x',q1,e3⟩,fun z H2 ⟨p,x2,ez,hp,eH,f1⟩=>?_⟩
  have g1:=f1 xs q1;rw [e3] at g1;cases g1;subst ez eH;refine ⟨upd_new hp,fun W' tk hg=>?_⟩
  refine Rep.tup (.inl (.inl (hid_new fun w=>tk p w hp))) (Reps.mk (Rep.int.mpr ?_) (Reps.mk ((r3.mono hg).mono (hid_same (upd_new hp))) (Reps.nil.mpr rfl)));rw [Nat.zero_add]
 ·rw [enumL_length] at e;rw [r1.length];lia
theorem boot_enumerate:bootBuiltins "enumerate" = some (.type "enumerate"):=by decide
section
variable {X:Cx} {p pos:Pos} {a:Expr} {da:De}
theorem pi_enum {ta:TA} {es:List Expr} {kk:Nat} {ps:Pos} (hg:Gl X "enumerate") (hm:X.mg "enumerate" = none) (ha:PA X [a] ta) (hs:starEach [a] X.env=[(false,eval a X.env)]:=by rfl) :
  PI X (.Tuple es kk ps) (.Call (.Name "enumerate" p) [a] [] pos) (fun σ H R=>ta σ H fun vs H1=>∃ l xs,vs=[.ref l]/\SqL X.K H1 l xs/\R (Ite X.K l) H1):=by
 intro pins s σ H R I h;refine Call_ (ld_blt I hg hm boot_enumerate (PyProof.Rows.callWith_type1 (thn (ha pos pins s σ H _ I h) fun us s1 ⟨vs,H1,I1,r1,q1⟩=>?_) (by rw [hs];rfl) (by rfl)))
 obtain ⟨l,xs,e,g1,q⟩:=q1;subst e;obtain ⟨u,rfl,ru⟩:=vals1 r1;cases ru;obtain ⟨its,rv,pl,hz⟩:=I1.list g1;refine call_enumerate_list pl.isList fun h' he hit sz kp=>?_
 have I2:L2.Inv X pins σ H1 {s1 with heap:=h',toks:=s1.toks}:=I1.kept (t':=s1.toks) kp
 refine wpAny_pyIter_enum he ⟨_,[s1.heap.objs.size+1,s1.heap.objs.size],_,_,H1,rfl,I2,turn_enum _ _ l (Nat.succ_ne_self _),⟨⟨_,he⟩,hit⟩,fun b hb=>?_,q⟩
 have hb':s1.heap.objs.size<=b:=by
  simp only [List.mem_cons,List.not_mem_nil,or_false] at hb
  rcases hb with e | e<;>rw [e]
  ·exact Nat.le_succ _
  ·exact Nat.le_refl _
 exact I1.fpOk hb' (I1.hok.fresh hb')
theorem di_enum {es:List Expr} {kk:Nat} {ps:Pos} (hg:Gl X "enumerate") (hm:X.mg "enumerate" = none) (ha:DE X a da) (hs:starEach [a] X.env=[(false,eval a X.env)]:=by rfl) :
  DI X (.Tuple es kk ps) (.Call (.Name "enumerate" p) [a] [] pos) (iEnum da):=pi_imp (pi_enum hg hm (da_cons ha da_nil hs) hs) fun σ H R ⟨W,ρ,er,h⟩=>by
 have hb:On (da ρ) (fun x=>XW X x H) fun v=>FinI X W H R (enF v):=FinI.bind h
 have h':On (aCons da aNil ρ) (fun x=>XW X x H) fun us=>∃ v,us=[v]/\FinI X W H R (enF v):=by
  unfold aCons aNil;cases e:da ρ with
  | ok v=>rw [e] at hb;exact ⟨v,rfl,hb⟩
  | exc z=>rw [e] at hb;exact hb
  | bad=>rw [e] at hb;exact hb
 refine tDA_of (aCons da aNil) er h' fun us xs H1 s1 er1 r1 ⟨v,e,h1⟩=>?_
 subst e;obtain ⟨y,t,rfl,q1,q2⟩:=Reps.cons.mp r1;obtain rfl:=Reps.nil.mp q2;cases v with
 | lst vs =>
  obtain ⟨l,zs,rfl,g1,g2⟩:=Rep.lst'.mp q1;exact ⟨l,zs,rfl,sqL_of g1,h1 _ H1 s1 (itOk_enum g1 g2)⟩
 | _=>exact h1.elim
end
end Pu
namespace Pu
open PySem PySem.Spec PyProof.Rows L2
end Pu
namespace Pu
open PySem PySem.Spec PyProof.Rows L2
end Pu
namespace Pu
open PySem PySem.Spec PyProof.Rows L2
theorem obj_some {P:Program} {w:World} {H:Hp} {h:Heap} {a:Addr} {o:HO} (x:ObjOk P w H h a o):∃ u,h.get? a=some u:=by
 cases o with
 | lst xs=>obtain ⟨_,_,_,_,e⟩:=x;exact ⟨_,e⟩
 | tup xs=>obtain ⟨_,_,_,ob,e,_⟩:=x;exact ⟨_,e⟩
 | dK kvs=>obtain ⟨_,_,_,_,o,_,_,e,_⟩:=x;exact ⟨_,e⟩
 | dT kvs=>obtain ⟨_,_,_,_,o,_,_,e,_⟩:=x;exact ⟨_,e⟩
 | set S n=>obtain ⟨o,_,_,_,e,_⟩:=x;exact ⟨_,e⟩
 | ins C dx fs=>obtain ⟨_,_,_,e,_⟩:=x;exact ⟨_,e⟩
 | own y=>exact x
 | xd fs=>obtain ⟨_,⟨_,_,_,e,_⟩,_⟩:=x;exact ⟨_,e⟩
 | rng lo hi=>obtain ⟨_,_,_,e⟩:=x;exact ⟨_,e⟩
 | frz ob u=>obtain ⟨e,_⟩:=x;exact ⟨_,e⟩
 | tbl ps=>exact ⟨_,(show h.get? a=some _ from x)⟩
 | met f y=>exact ⟨_,(show h.get? a=some _ from x)⟩
 | ext φ=>obtain ⟨_,e,_⟩:=x;exact e
theorem inv_new {X:Cx} {pins:List (Addr×Obj)} {σ:SS} {H:Hp} {s:Shared} {h':Heap} {a:Addr} {o:HO} {t':Nat} (I:Inv X pins σ H s) (k:∀ b u,s.heap.get? b=some u->h'.get? b=some u) (n:s.heap.get? a=none)
  (new:ObjOk X.prog X.w (upd H a o) h' a o):H a=none/\Inv X pins σ (upd H a o) {s with heap:=h',toks:=t'}:=by
 have hn:H a=none:=by
  cases q:H a with
  | none=>rfl
  | some u=>obtain ⟨v,e⟩:=obj_some (I.hok a u q);rw [n] at e;cases e
 refine ⟨hn,I.step (g':=s.gens) (t':=t') (d':=s.drawn) (ch:=[]) (fun _ z=>nomatch z) (fun b o _ _ _ e _=>k b o e) (fun b o _ _ _ e _=>⟨o.slots,k b o e⟩) (fun b o _ e z=>?_) (fun b o _ e=>⟨o,k b o e⟩) (fun b xs e=>?_) (fun b o u e=>?_) (fun b ps e=>⟨#[],?_⟩) (fun m hm=>hm.keeps k) (fun b u e=>?_) I.bare⟩
 ·rw [upd_ne fun y=>by rw [y,n] at e;cases e];exact z
 ·rw [upd_ne (ne_of_none e hn)];exact e
 ·rw [upd_ne (ne_of_none e hn)];exact e
 ·rw [upd_ne (ne_of_none e hn),e];simp
 ·by_cases hb:b=a
  ·subst hb;rw [upd_same] at e;cases e;exact new
  ·rw [upd_ne hb] at e;exact (I.hok b u e).stay (fun c v _ q=>k c v q) (fun c q=>by rw [upd_ne (ne_of_none q hn)];exact q) fun c xs q=>by rw [upd_ne (ne_of_none q hn)];exact q
def mroVE:List Value:=[.type "ValueError",.type "Exception",.type "BaseException",.type "object"]
def hasX (K:PySem.W.Frag) (x:Str):Bool:=match PySem.W.nsIn K mainGlobals x with
 | some (some (.ref C))=>PySem.W.excIn K C mroVE "ValueError.__new__"
 | _=>false
theorem hasX_get {K:PySem.W.Frag} {x:Str} (h:hasX K x=true):∃ C,PySem.W.nsIn K mainGlobals x=some (some (.ref C))/\PySem.W.excIn K C mroVE "ValueError.__new__" = true:=by
 unfold hasX at h
 split at h
 ·rename_i C e;exact ⟨C,e,h⟩
 ·cases h
theorem own_cls {K:PySem.W.Frag} {h:Heap} {mg:Str->Option Value} {x:Str} {C:Addr} {bmB:List Value} {newId:String} (X:K.In h) (e:mg x=some (.ref C)) (q:PySem.W.excIn K C bmB newId=true):OwnCls x C bmB newId mg h:=by
 refine ⟨e,?_⟩;unfold PySem.W.excIn at q
 split at q
 ·rename_i dd cd sl ho
  split at q
  ·rename_i C' bm k0 k1 k2 k3 n k5 hm hs
   simp only [Bool.and_eq_true,beq_iff_eq,Bool.not_eq_true'] at q;obtain ⟨⟨⟨⟨⟨rfl,rfl⟩,hdel⟩,ht⟩,hok⟩,hni⟩:=q;obtain ⟨nm,bs,mro,ns,qn,hd,sn,sub,ab,col,del⟩:=cd;dsimp only at hm hdel hok hni;subst hm hdel;obtain rfl:sl=#[k0,k1,k2,k3,some (.builtin n),k5]:=by
    obtain ⟨l⟩:=sl;simp only at hs;rw [hs]
   exact ⟨bm,ns,nm,qn,bs,hd,sn,sub,ab,col,dd,k0,k1,k2,k3,k5,_,X _ _ ho,.of_isNs (PySem.W.isNs_of_in X hok),PySem.W.nsMap_none_of_in X hok hni,PySem.W.tail_of_in X ht⟩
  ·cases q
 ·cases q
def sRaise (x:Str) (ds:Das):Ds:=fun ρ=>(ds ρ).bind fun _=>.exc ⟨.own x,[]⟩
section
variable {X:Cx} {x:Str} {a:Expr} {es:List Expr} {ds:Das} {np cpos pos:Pos}
theorem ds_raise (hX:hasX X.K x=true) (hc:X.calm=true) (hg:Gl X x) (hl:(a::es).length<=1000) (hn:∀ ρ vs,ds ρ=.ok vs->vs.length=(a::es).length) (ha:DA X (a::es) ds) (hd:(x==("__debug__" : Str))=false:=by decide)
  (he:starEach (a::es) X.env=(false,eval a X.env)::starEach es X.env:=by rfl) (hpl:(backTo cpos (starEach es X.env)).any (·.1)=false:=by rfl) :
  DS X (.Raise (some (.Call (.Name x np) (a::es) [] cpos)) none pos) (sRaise x ds):=by
 intro pins s σ H D I ⟨W0,H0,W,ρ,w,er,h⟩;obtain ⟨C,hmK,q⟩:=hasX_get hX;have hm:X.mg x=some (.ref C):=PySem.W.mg_of I.mod.kin I.mod.glob hmK;have O:=own_cls I.mod.kin hm q;obtain ⟨tl,N,nm,q,bs,hdct,sn,sub,ab,col,dd,k0,k1,k2,k3,k5,mN,hC,hN,hni,T⟩:=O.obj;have hb:=FinS.bind h;refine wpAny_Raise_call_subT (C:=C) (nm:=nm) (q:=q) (N:=N) (bs:=bs) (bm:=tl) (hdct:=hdct) (sn:=sn) (sub:=sub) (ab:=ab) (col:=col) (dd:=dd) (k0:=k0) (k1:=k1) (k2:=k2) (k3:=k3) (k5:=k5)
  PySem.F.excBase_ValueError (mN:=mN) (T.hasType PySem.F.excBase_ValueError.hasBase) (I.ok.hd hc) (by rw [he];show (false||(backTo cpos (starEach es X.env)).any (·.1))=false;rw [hpl];rfl) hni (ld_glob I hg hm ⟨rfl,?_⟩ hd)
 have hA:=ha cpos pins s σ H (fun xs H1=>xs.length=(a::es).length/\Same H H1/\XW X ⟨.own x,[]⟩ H0) I ⟨W,ρ,er,?_⟩
 ·rw [he] at hA ⊢;refine Calls.evalArgs_plain (wpAny_mono hA (fun us s2 ⟨vs,H1,I1,rv,hlen,sm,xw⟩=>⟨rfl,?_,I1.bk _ _ hC,hN.keeps I1.bk,T.keeps I1.bk,fun h' e hx=>?_⟩) fun _ _ y=>y)
  ·show us.length<=sizeLine;rw [<- rv.length,hlen];exact Nat.le_of_lt (small1000 hl)
  ·obtain ⟨t,h1,_,_⟩:=hx.there;obtain ⟨hn1,J⟩:=inv_new (t':=s2.toks) (o:=.ext (EObj e (.ref C) none)) I1 hx.keeps hx.new (ext_E ⟨_,_,h1,rfl,rfl,rfl,by simp⟩);exact xw (upd H1 e (.ext (EObj e (.ref C) none))) (.ref C) none ((w.same.trans sm).trans (upd_new hn1)) hmK (.inl rfl) (fun d q=>by cases q) pins σ _ e J ⟨upd_same,_,_,h1,rfl,.inl rfl⟩ fun hex=>by
    cases e0:X.s₀.heap.get? e with
    | none=>rfl
    | some o =>
     obtain ⟨o',e1⟩:=I1.base.there e o e0 (by rw [hex];simp);rw [hx.new] at e1;cases e1
 ·cases e1:ds ρ with
  | exc z=>rw [e1] at hb;exact XW.mono hb w.same
  | bad=>rw [e1] at hb;exact hb.elim
  | ok vs =>
   rw [e1] at hb;exact fun xs H1 s1 r1=>⟨by rw [r1.length,hn ρ vs e1],s1,hb⟩
end
end Pu
namespace Pu
open PySem PySem.Spec PyProof.Rows L2
section
variable {M:Model} {A:Around} {E:Value->Shared->Prop} {h:Heap} {g:Array GenState} {d:Drawn} {t:Nat} {os:OsState}
variable {nm q:Str} {C N:Addr} {bs bm:List Value} {hdct:Bool} {sn:List Str} {sub:List Value} {ab:Bool} {col:Option Bool} {dd:Option Addr} {k0 k1 k2 k3 k5:Option Value} {newId:String}
variable {nm' q':Str} {C' N':Addr} {bs' bm':List Value} {hdct':Bool} {sn':List Str} {sub':List Value} {ab':Bool} {col':Option Bool} {dd':Option Addr} {j0 j1 j2 j3 j5:Option Value} {newId':String}
theorem exc_match {e:Addr} {oe:Obj} {b:Bool} {Q:Bool->Shared->Prop}
  (hC:h.get? C=some (excClassObj nm q C N bs bm hdct sn sub ab col dd k0 k1 k2 k3 k5 newId)) (hC':h.get? C'=some (excClassObj nm' q' C' N' bs' bm' hdct' sn' sub' ab' col' dd' j0 j1 j2 j3 j5 newId'))
  (he:h.get? e=some oe) (hcls:oe.cls=.ref C) (hbase:bm'.contains (.type "BaseException")=true) (hm:(Value.ref C::bm).contains (.ref C')=b)
  (hq:Q b ⟨h,g,d,t,os⟩):wpAny M A (excMatches (.ref e) (.ref C')) Q E ⟨h,g,d,t,os⟩:=by
 have hcB:(Value.ref C'::bm').contains (.type "BaseException")=true:=by rw [List.contains_cons,hbase,Bool.or_true]
 have f:=tc_notTuple;unfold excMatches
 repeat (first | (with_reducible refine wpAny_loadPart_at he ?_;rw [hcls]) | with_reducible refine wpAny_loadPart_at hC' ?_ | (with_reducible refine wpAny_isSubtype_exc hC' ?_;rw [hcB]) | (with_reducible refine wpAny_isSubtype_exc hC ?_;rw [hm]) | wp_step)
 cases b<;>(wp_walk;exact hq)
end
def catchIn (K:PySem.W.Frag) (y x:Str):Bool:=match PySem.W.nsIn K mainGlobals y,PySem.W.nsIn K mainGlobals x with
 | some (some (.ref C)),some (some (.ref C'))=>PySem.W.ktsIn K C "ValueError" && PySem.W.ktsIn K C' "ValueError" && (match K.lookup C with
  | some ⟨_,_,.cls cd,_⟩=>cd.mro.contains (.ref C')
  | _=>false)
 | _,_=>false
theorem catch_get {K:PySem.W.Frag} {y x:Str} (hq:catchIn K y x=true):∃ C C',PySem.W.nsIn K mainGlobals y=some (some (.ref C))/\PySem.W.nsIn K mainGlobals x=some (some (.ref C')) /\
  ∀ h:Heap,K.In h->∀ (e:Addr) (oe:Obj) (M:Model) (A:Around) (E:Value->Shared->Prop) (g:Array GenState) (d:Drawn) (t:Nat) (os:OsState) (Q:Bool->Shared->Prop),h.get? e=some oe->oe.cls=.ref C->Q true ⟨h,g,d,t,os⟩ ->
   wpAny M A (excMatches (.ref e) (.ref C')) Q E ⟨h,g,d,t,os⟩:=by
 unfold catchIn at hq
 split at hq
 ·rename_i C C' e1 e2
  simp only [Bool.and_eq_true] at hq;obtain ⟨⟨q1,q2⟩,q3⟩:=hq;refine ⟨C,C',e1,e2,fun h X e oe M A E g d t os Q he hc hQ=>?_⟩
  obtain ⟨_,_,_,_,bm,_,_,_,_,_,_,_,_,_,_,_,_,hC,_,_⟩:=PySem.W.kts_cls X q1;obtain ⟨_,_,_,_,bm',_,_,_,_,_,_,_,_,_,_,_,_,hC',hb,_⟩:=PySem.W.kts_cls X q2;refine exc_match hC hC' he hc hb ?_ hQ
  split at q3
  ·rename_i cd _ ho
   have:=X _ _ ho;rw [hC] at this;cases this;exact q3
  ·cases q3
 ·cases hq
abbrev inSuite (X:Cx) (e:Addr) (E:Value->Shared->Prop):Cx:={X with A:=X.A.mark (some (.ref e)),calm:=false,xe:=E}
theorem inv_suite {X:Cx} {pins:List (Addr×Obj)} {σ:SS} {H:Hp} {s:Shared} (I:Inv X pins σ H s) (e:Addr) (E:Value->Shared->Prop):Inv (inSuite X e E) pins σ H s :=
 ⟨⟨I.ok.mod,I.ok.kind,I.ok.glob,I.ok.blt,I.ok.above,I.ok.inj,I.ok.has,I.ok.cab,(fun z=>by cases z),I.ok.frames,I.ok.stk,I.ok.exf,I.ok.bs,I.ok.bsz,I.ok.noex,I.ok.exfs,I.ok.funs,I.ok.frf⟩,I.os,I.bare,I.base,I.loc,I.cell,I.free,I.freeC,I.pin,I.hok,I.len⟩
theorem inv_unsuite {X:Cx} {pins:List (Addr×Obj)} {σ:SS} {H:Hp} {s:Shared} {e:Addr} {E:Value->Shared->Prop} (ok:X.Ok) (I:Inv (inSuite X e E) pins σ H s):Inv X pins σ H s :=
 ⟨ok,I.os,I.bare,I.base,I.loc,I.cell,I.free,I.freeC,I.pin,I.hok,I.len⟩
def noXR {α:Type}:Res α->Res α
 | .ok a=>.ok a
 | _=>.bad
@[simp] theorem noXR_ok {α:Type} (a:α):noXR (.ok a)=.ok a:=(rfl)
theorem flight_same {M:Model} {A:Around} {E:Value->Shared->Prop} {s:Shared} {H:Hp} {e:Addr} {C:Value} {dx:Option Addr} {Q:Unit->Shared->Prop} (F:Flies H s.heap e C dx) (h:Q () s):wpAny M A (setFlight (.ref e) none) Q E s:=by
 obtain ⟨_,oe,vs,he,hd,ht⟩:=F
 rcases ht with h1 | ⟨T,oT,ts,h1,_,_,hT,hdT,h3⟩
 ·unfold setFlight;refine wpAny_bind (wpAny_field he hd h1 ?_);rw [if_neg (by decide)];exact wpAny_pure h
 ·refine wpAny_setFlight_none he hd h1 hT hdT (Array.getElem?_eq_some_iff.mp h3).1 ?_;rw [Heap.update_setField_same s.heap T oT ts 3 .none hT hdT h3];exact h
abbrev Db:=En->Res Unit
def bCall (g:Df) (ds:Das):Db:=fun ρ=>(ds ρ).bind fun vs=>(g vs).bind fun _=>.ok ()
def bIf (c:Dt) (d1 d2:Db):Db:=fun ρ=>match c ρ with
 | .ok true=>d1 ρ
 | .ok false=>d2 ρ
 | _=>.bad
def sTryB (bd:Db) (ys:List Str) (su:XC->Ds):Ds:=fun ρ=>match bd ρ with
 | .ok _=>.ok (.nx ρ)
 | .exc z=>(match z.cls with
  | .own y=>if y∈ys then noXR (su z ρ) else .bad
  | _=>.bad)
 | .bad=>.bad
def TB (X:Cx) (b:List Stmt) (d:Db):Prop:=∀ (pins:List (Addr×Obj)) (s:Shared) (σ:SS) (H:Hp) (W:Addr->Prop) (ρ:En) (E':Value->Shared->Prop) (Q:Flow->Shared->Prop),Inv X pins σ H s->ER X.K W H σ ρ ->
 (d ρ=.ok ()->∀ H2 s2,Same H H2->Inv X pins σ H2 s2->Q .next s2) ->
 (∀ z,d ρ=.exc z->∀ C dx H2 s2 ea,H ea=none->Same H H2->Inv X pins σ H2 s2->Flies H2 s2.heap ea C dx->clsIs X.K z.cls C->Pay X.K H2 dx z.fs->(∀ d,dx=some d->H d=none)->E' (.ref ea) s2)->d ρ≠.bad ->
 wpAny (model X.prog X.w) X.A (execs b X.env) Q E' s
section
variable {X:Cx} {k:Nat} {f:Addr} {fd:FuncData} {ps:List Str} {g:Df} {y x:Str} {p np cpos epos hpos pos:Pos} {a:Expr} {es:List Expr} {ds:Das} {ys:List Str} {b0:Stmt} {suite:List Stmt} {su:Ds}
theorem call_x {pins:List (Addr×Obj)} {s:Shared} {σ:SS} {H:Hp} {W:Addr->Prop} {ρ:En} {vs:List PV} {E':Value->Shared->Prop} {Q:Flow->Shared->Prop}
  (F:FnD X.prog X.w X.K X.mg X.base k f fd ps g) (hr:Room k X.A) (hg:Gl X y) (hm:X.mg y=some (.ref f)) (hk:PySem.W.keepIn X.K (.ref f)=true) (hb:Binds X.K fd ps []) (hl:(a::es).length=ps.length)
  (hn:∀ ρ vs,ds ρ=.ok vs->vs.length=(a::es).length) (ha:DA (X.wish E') (a::es) ds) (I:Inv X pins σ H s) (er:ER X.K W H σ ρ) (e1:ds ρ=.ok vs)
  (hok:∀ v,g vs=.ok v->∀ H2 s2,Same H H2->Inv X pins σ H2 s2->Q .next s2)
  (hex:∀ z,g vs=.exc z->∀ C dx H2 s2 ea,H ea=none->Same H H2->Inv X pins σ H2 s2->Flies H2 s2.heap ea C dx->clsIs X.K z.cls C->Pay X.K H2 dx z.fs->(∀ d,dx=some d->H d=none)->E' (.ref ea) s2) (hnb:g vs≠.bad)
  (hdb:(y==("__debug__" : Str))=false) (he:starEach (a::es) X.env=(false,eval a X.env)::starEach es X.env) (hpl:(backTo cpos (starEach es X.env)).any (·.1)=false)
  (hsw:swapsWith (.Call (.Name y p) (a::es) [] cpos) none epos.line X.env=pure false):wpAny (model X.prog X.w) X.A (exec (.Expr (.Call (.Name y p) (a::es) [] cpos) epos) X.env) Q E' s:=by
 refine wpAny_Expr_any ?_ I.quiet hsw;refine wpAny_Call_Name_kw (ld_glob I hg hm ?_ hdb);have hA:=ha cpos pins s σ H (fun xs H1=>Same H H1/\Reps X.K (hid W H1) vs xs) (I.wish E') ⟨W,ρ,er,by rw [e1];exact fun xs H1 s1 r1=>⟨s1,r1⟩⟩
 refine PySem.W.callWith_K (h₀:=X.base) I.ok.mod.kin hk (thn hA fun us s1 ⟨xs,H1,I1,r,sm,rp⟩=>⟨I1.kIn,?_⟩) he hpl;have I1:=I1.unwish;have hlx:us.length=ps.length:=by rw [<- r.length,rp.length,hn ρ vs e1,hl]
 have hbn:BindsTo s1 fd ⟨us,[]⟩ (ps.zip us):=by have:=hb s1 us I1.kIn (by simpa using hlx);simpa using this
 have er1:=er.mono sm;have sp:spD X.K ps.length g xs H1 (fun _ H2=>Same H1 H2/\∃ v,g vs=.ok v) (fun C dx H2=>Same H1 H2/\∃ z,g vs=.exc z/\clsIs X.K z.cls C/\Pay X.K H2 dx z.fs/\∀ d,dx=some d->H1 d=none):=by
  refine ⟨W,vs,er1.trk,rp,by rw [r.length,hlx],?_⟩;cases e2:g vs with
  | bad=>exact absurd e2 hnb
  | ok v=>exact fun x H' s' _=>⟨s',v,rfl⟩
  | exc z=>exact fun H2 C dx s2 c p nw=>⟨s2,z,rfl,c,p,nw⟩
 refine wpAny_call (codeAny_mono (F.run X.A X.stack s1 H1 ⟨us,[]⟩ us xs _ _ hr I1.env0 hbn r sp) fun r s' hq=>?_)
 cases r with
 | ok fl =>
  cases fl with
  | ret u =>
   obtain ⟨v,H2,I2,rv,q2,v',q3⟩:=I1.after hq;exact hok v' q3 H2 s' (sm.trans q2) I2
  | next=>exact False.elim hq
  | brk=>exact False.elim hq
  | cont=>exact False.elim hq
 | error e =>
  obtain ⟨ea,C2,dx,H2,rfl,q2,q3,q4,q5,q6,q9,sm2,z,ez,q7,q8,q10⟩:=hq;obtain ⟨hh,g',d',t',os'⟩:=s';obtain rfl:os'=s1.os:=q2;have hn1:H1 ea=none:=by
   cases q:H1 ea with
   | none=>rfl
   | some u=>obtain ⟨v,e⟩:=obj_some (I1.hok ea u q);rw [q9] at e;cases e
  exact hex z ez C2 dx H2 _ ea (sm.free hn1) (sm.trans sm2) (I1.call (h':=hh) (g':=g') (d':=d') (t':=t') (ch:=[]) q4 q5 q3 fun b z=>absurd z (by simp)) q6 q7 q8 fun d q=>sm.free (q10 d q)
theorem tb_call (F:FnD X.prog X.w X.K X.mg X.base k f fd ps g) (hr:Room k X.A) (hg:Gl X y) (hm:X.mg y=some (.ref f)) (hk:PySem.W.keepIn X.K (.ref f)=true) (hb:Binds X.K fd ps []) (hl:(a::es).length=ps.length)
  (hn:∀ ρ vs,ds ρ=.ok vs->vs.length=(a::es).length) (ha:∀ E,DA (X.wish E) (a::es) ds) (hx:∀ ρ z,ds ρ≠.exc z)
  (hdb:(y==("__debug__" : Str))=false:=by decide) (he:starEach (a::es) X.env=(false,eval a X.env)::starEach es X.env:=by rfl) (hpl:(backTo cpos (starEach es X.env)).any (·.1)=false:=by rfl)
  (hsw:swapsWith (.Call (.Name y p) (a::es) [] cpos) none epos.line X.env=pure false:=by rfl):TB X [.Expr (.Call (.Name y p) (a::es) [] cpos) epos] (bCall g ds):=by
 intro pins s σ H W ρ E' Q I er hok hex hnb;unfold bCall at hok hex hnb;cases e1:ds ρ with
 | exc z=>exact absurd e1 (hx ρ z)
 | bad=>rw [e1] at hnb;exact absurd rfl hnb
 | ok vs =>
 rw [e1,Res.bind_ok] at hok hex hnb;refine wpAny_execs_cons (call_x F hr hg hm hk hb hl hn (ha _) I er e1 (fun v e2 H2 s2 sm J=>?_) (fun z e2 C dx H2 s2 ea hnew sm J Fl hcl hpay hpn=>?_) ?_ hdb he hpl hsw)
 ·exact wpAny_execs_nil (hok (by rw [e2];rfl) H2 s2 sm J)
 ·exact hex z (by rw [e2];rfl) C dx H2 s2 ea hnew sm J Fl hcl hpay hpn
 ·intro e2;rw [e2] at hnb;exact hnb rfl
theorem tb_if {c:Expr} {dc:Dt} {b1 b2:List Stmt} {d1 d2:Db} (hc:∀ E,DT (X.wish E) c dc) (h1:TB X b1 d1) (h2:TB X b2 d2):TB X [.If c b1 b2 pos] (bIf dc d1 d2):=by
 intro pins s σ H W ρ E' Q I er hok hex hnb;unfold bIf at hok hex hnb;cases e:dc ρ with
 | exc z=>rw [e] at hnb;exact absurd rfl hnb
 | bad=>rw [e] at hnb;exact absurd rfl hnb
 | ok q =>
 rw [e] at hok hex hnb;have hT:=hc E' pins s σ H (fun b H1=>b=q/\Same H H1) (I.wish E') ⟨W,ρ,er,by rw [e];exact fun H1 s1=>⟨rfl,s1⟩⟩
 refine wpAny_execs_cons (wpAny_If (wpAny_mono hT (fun b s1 ⟨H1,I1,eb,sm⟩=>?_) fun _ _ x=>x))
 subst eb;have I1:=I1.unwish;have fin:∀ (b:List Stmt) (d:Db),TB X b d->(d ρ=.ok ()->∀ H2 s2,Same H H2->Inv X pins σ H2 s2->Q .next s2) ->
   (∀ z,d ρ=.exc z->∀ C dx H2 s2 ea,H ea=none->Same H H2->Inv X pins σ H2 s2->Flies H2 s2.heap ea C dx->clsIs X.K z.cls C->Pay X.K H2 dx z.fs->(∀ d,dx=some d->H d=none)->E' (.ref ea) s2)->d ρ≠.bad ->
   wpAny (model X.prog X.w) X.A (execs b X.env) (fun f s'=>match f with | .next=>wpAny (model X.prog X.w) X.A (execs [] X.env) Q E' s' | f=>Q f s') E' s1:=fun b d hb hok hex hnb =>
  hb pins s1 σ H1 W ρ E' _ I1 (er.mono sm) (fun e2 H2 s2 sm2 J=>wpAny_execs_nil (hok e2 H2 s2 (sm.trans sm2) J)) (fun z e2 C dx H2 s2 ea hnew sm2 J Fl hcl hpay hpn=>hex z e2 C dx H2 s2 ea (sm.free hnew) (sm.trans sm2) J Fl hcl hpay fun d q=>sm.free (hpn d q)) hnb
 cases b with
 | true=>exact fin b1 d1 h1 hok hex hnb
 | false=>exact fin b2 d2 h2 hok hex hnb
variable {bd:Db} {body:List Stmt}
end
end Pu
namespace Pu
open PySem PySem.Spec PyProof.Rows L2
section
variable {X:Cx} {pins:List (Addr×Obj)} {σ:SS} {H:Hp} {s:Shared}
theorem goes_ok {M:Model} {A:Around} {E:Value->Shared->Prop} {i:Nat} {x:Str} {pos:Pos} {Q:Unit->Shared->Prop} (I:Inv X pins σ H s) (hN:X.N.Nodup) (hi:X.N[i]?=some x) (hk:X.env.scope.names.lookup x=some .local)
  (h:∀ s',Inv X pins (σ.set i none) H s'->Q () s'):wpAny M A (do bindName X.env x .none;unbindBehindTheSuite X.env x pos) Q E s:=by
 obtain ⟨m,hn,hl⟩:=id I.loc;have hcls:(X.env.scope.kind==.class||(X.env.scope.kind==.module&&X.env.locals != X.env.globals))=false:=by rw [I.ok.kind];rfl
 have hiσ:i<σ.length:=by rw [I.len];exact (List.getElem?_eq_some_iff.mp hi).1
 have cne:=I.cne;refine wpAny_nameGoes_keeps hk hn hcls fun h' v hn' hs=>?_
 have below:∀ b o,X.s₀.heap.get? b=some o->b≠X.env.locals:=fun b o e=>Nat.ne_of_lt (Nat.lt_of_lt_of_le (Heap.lt_size e) I.ok.above)
 refine h _ ⟨I.ok,I.os,I.bare,⟨fun b o e n hb hx=>?_,fun b o e n hb hx=>?_,I.base.free,fun b o e hx=>?_,I.base.tups,I.base.frzs,I.base.tbls⟩,⟨_,hn',fun j y v' e1 e2 e3=>?_⟩,fun y c e=>?_,I.free,I.freeC,fun p hp=>?_,fun b ob e=>?_,by simpa using I.len⟩
 ·exact (hs.2 b (below b o e)).trans (I.base.keep b o e n hb hx)
 ·obtain ⟨sl,e1⟩:=I.base.slot b o e n hb hx;exact ⟨sl,(hs.2 b (below b o e)).trans e1⟩
 ·obtain ⟨o',e1⟩:=I.base.there b o e hx;exact ⟨o',(hs.2 b (below b o e)).trans e1⟩
 ·by_cases hj:j=i
  ·subst hj;rw [List.getElem?_set_self hiσ] at e2;cases e2
  ·rw [List.getElem?_set_ne (Ne.symm hj)] at e2;obtain ⟨u',r',q⟩:=hl j y v' e1 e2 e3;refine ⟨u',r',?_⟩
   rcases q with ⟨k,e⟩ | ⟨k,c,e,z⟩
   ·refine .inl ⟨k,?_⟩;have:y≠x:=fun e=>hj (nodup_ix hN e1 (e ▸ hi))
    simp [this,e]
   ·exact .inr ⟨k,c,e,z.sameBut hs (cne y c e)⟩
 ·obtain ⟨w',z⟩:=I.cell y c e;exact ⟨w',z.sameBut hs (cne y c e)⟩
 ·obtain ⟨e,n,ne,nf,d⟩:=I.pin p hp;exact ⟨(hs.2 p.1 ne).trans e,n,ne,nf,d⟩
 ·refine (I.hok b ob e).stay (fun c w' hc q=>(hs.2 c ?_).trans q) (fun _ q=>q) fun _ _ q=>q
  rintro rfl
  rcases hc with rfl | hc
  ·rw [I.free] at e;cases e
  ·rw [I.free] at hc;cases hc
end
theorem er_exn {K:PySem.W.Frag} {W:Addr->Prop} {H:Hp} {σ:SS} {ρ:En} (h:ER K W H σ ρ) {z:XC} {x:V} (r:SlRep K W H (.exn z) x) (i:Nat):ER K W H (σ.set i (some x)) (ρ.set i (some (.exn z))):=by
 refine ⟨by simp [h.len],fun j s q=>?_,h.trk⟩
 rw [List.getElem?_set] at q
 by_cases e:i=j
 ·subst e;rw [if_pos rfl] at q
  by_cases hl:i<ρ.length
  ·rw [if_pos hl] at q;cases q;exact ⟨x,by rw [List.getElem?_set,if_pos rfl,if_pos (by rw [<- h.len];exact hl)],r⟩
  ·rw [if_neg hl] at q;cases q
 ·rw [if_neg e] at q;obtain ⟨y,h1,h2⟩:=h.val j s q;exact ⟨y,by rw [List.getElem?_set,if_neg e];exact h1,h2⟩
theorem er_gone {K:PySem.W.Frag} {W:Addr->Prop} {H:Hp} {σ:SS} {ρ:En} (h:ER K W H σ ρ) (i:Nat):ER K W H (σ.set i none) (ρ.set i none):=by
 refine ⟨by simp [h.len],fun j s q=>?_,h.trk⟩
 rw [List.getElem?_set] at q
 by_cases e:i=j
 ·subst e;rw [if_pos rfl] at q
  split at q<;>cases q
 ·rw [if_neg e] at q;obtain ⟨y,h1,h2⟩:=h.val j s q;exact ⟨y,by rw [List.getElem?_set,if_neg e];exact h1,h2⟩
theorem kp_exn {σ:SS} {ρ:En} (i:Nat) (x:Option V) (z:Option Sl) (hz:∀ vs,z≠some (.own vs)):Kp σ (σ.set i x) ρ (ρ.set i z):=fun j vs h=>by
 rw [List.getElem?_set] at h
 by_cases e:i=j
 ·subst e;rw [if_pos rfl] at h
  split at h
  ·cases h;exact absurd rfl (hz vs)
  ·cases h
 ·rw [if_neg e] at h;exact ⟨h,by rw [List.getElem?_set,if_neg e]⟩
def gone (i:Nat):Res Out->Res Out
 | .ok (.nx ρ)=>.ok (.nx (ρ.set i none))
 | .ok (.bk ρ)=>.ok (.bk (ρ.set i none))
 | .ok (.ct ρ)=>.ok (.ct (ρ.set i none))
 | .ok (.rt v)=>.ok (.rt v)
 | _=>.bad
@[simp] theorem gone_rt {i:Nat} {v:PV}:gone i (.ok (.rt v))=.ok (.rt v):=(rfl)
def asSuite (i:Nat) (su:Ds) (z:XC):Ds:=fun ρ=>gone i (su (ρ.set i (some (.exn z))))
section
variable {X:Cx} {k:Nat} {f:Addr} {fd:FuncData} {ps:List Str} {g:Df} {y x n:Str} {p np cpos epos hpos pos:Pos} {a:Expr} {es:List Expr} {ds:Das} {ys:List Str} {b0:Stmt} {suite:List Stmt} {su:Ds}
theorem ds_tryAsB (i:Nat) {bd:Db} {body:List Stmt} (hB:TB X body bd) (hst:X.stack=X.env::X.outer) (hfr:X.env.frame=some X.env.locals) (hgx:Gl X x) (hys:∀ z∈ys,catchIn X.K z x=true)
  (hN:X.N.Nodup) (hi:X.N[i]?=some n) (hloc:X.env.scope.names.lookup n=some .local) (hsu:∀ e E,DSs (inSuite X e E) (b0::suite) su) (hdx:(x==("__debug__" : Str))=false:=by decide) :
  DS X (.Try body [.ExceptHandler (some (.Name x np)) (some n) (b0::suite) hpos] [] [] pos) (sTryB bd ys (asSuite i su)):=by
 intro pins s σ H D I ⟨W0,H0,W,ρ,w,er,h⟩;unfold sTryB at h;refine wpAny_Try_except (hB pins s σ H W ρ _ _ I er (fun e2 H2 s2 sm J=>?_) (fun z e2 C dx H2 s2 ea hnew sm J Fl hcl hpay hpn=>?_) ?_)
 ·rw [e2] at h;exact wpAny_execs_nil ⟨σ,H2,J,h σ W H2 (w.grow sm) (hid_same sm) (er.mono sm)⟩
 ·rw [e2] at h;dsimp only at h;cases ez:z.cls with
  | blt T=>rw [ez] at h;exact h.elim
  | own c =>
  rw [ez] at h;dsimp only at h;have hc:c∈ys:=by
   by_cases hc:c∈ys
   ·exact hc
   ·rw [if_neg hc] at h;exact h.elim
  rw [if_pos hc] at h;obtain ⟨C1,C',n1,n2,mt⟩:=catch_get (hys c hc);have hmx:X.mg x=some (.ref C'):=PySem.W.mg_of I.mod.kin I.mod.glob n2;have hcl0:=hcl;rw [ez] at hcl;have hcl:PySem.W.nsIn X.K mainGlobals c=some (some C):=hcl;rw [n1] at hcl;cases hcl;refine leave_inv J hst hfr Fl fun h3 H3 s3 J3 F3=>?_
  have sA:Same H H3:=sm.trans s3;have erA:=er.mono sA;have nW:¬ W ea:=er.new hnew;refine wpAny_handleBy_cons (codeAny_handlers_test (ld_glob (X:=inSuite X ea (notedBy (model X.prog X.w) (X.A.mark (some (.ref ea))) X.env fun x s₁=>cameBackBy (model X.prog X.w) X.A X.env X.xe x s₁)) (inv_suite J3 ea _) hgx hmx ?_ hdx)) (by intro q;cases q)
  obtain ⟨⟨oe',_,k1,k2,_⟩,_⟩:=J3.hok ea _ F3.1;obtain ⟨hh,g',d',t',os'⟩:=s2;refine mt h3 J3.kIn ea oe' _ _ _ g' d' t' os' _ k1 k2 ?_;refine codeAny_handlers_suite_as (flight_same F3 ?_);refine store_ok (v:=V.ref ea) J3 hN hi (.inl hloc) rfl (fun s5 I5=>?_) (.inr hloc);have hpayA:Pay X.K (hid W H3) dx z.fs:=by
   rcases hpay with hp | ⟨d1,ys1,p1,p2,p3⟩
   ·exact .inl hp
   ·refine .inr ⟨d1,ys1,p1,?_,p3⟩;exact hid_some (er.new (hpn d1 p1)) (s3 _ _ p2)
  have hexn:SlRep X.K W H3 (.exn z) (.ref ea):=⟨ea,.ref C1,dx,rfl,hid_some nW F3.1,hcl0,hpayA⟩;have w5:Wd W0 H0 W H3 (σ.set i (some (.ref ea))) (ρ.set i (some (.exn z))):=(w.grow sA).kp (w.same.trans sA) w.sub (kp_exn i _ _ (fun vs q=>by cases q));have er5:=er_exn erA hexn i;refine wpAny_mono (hsu ea _ pins s5 _ H3 {nx:=fun σ' H'=>D.nx (σ'.set i none) H',rt:=D.rt,bk:=fun σ' H'=>D.bk (σ'.set i none) H',ct:=fun σ' H'=>D.ct (σ'.set i none) H'} (inv_suite I5 ea _) ⟨W0,H0,W,_,w5,er5,?_⟩) (fun fl s6 q=>?_) fun _ _ x=>x
  ·have h:FinS X W0 H0 W H D (noXR (gone i (su (ρ.set i (some (.exn z)))))):=h;have h2:=FinS.grow h (hid_same (W:=W) sA);cases e3:su (ρ.set i (some (.exn z))) with
   | exc u=>rw [e3] at h2;exact h2.elim
   | bad=>rw [e3] at h2;exact h2.elim
   | ok o =>
    rw [e3] at h2;have wk:∀ {σ' W' H' ρ'},Wd W0 H0 W' H' σ' ρ'->Wd W0 H0 W' H' (σ'.set i none) (ρ'.set i none):=fun w'=>w'.kp w'.same w'.sub (kp_exn i none none (fun vs q=>by cases q))
    cases o with
    | nx ρ'=>exact fun σ' W' H' w' s' er'=>h2 (σ'.set i none) W' H' (wk w') s' (er_gone er' i)
    | bk ρ'=>exact fun σ' W' H' w' s' er'=>h2 (σ'.set i none) W' H' (wk w') s' (er_gone er' i)
    | ct ρ'=>exact fun σ' W' H' w' s' er'=>h2 (σ'.set i none) W' H' (wk w') s' (er_gone er' i)
    | rt v=>exact h2
  ·cases fl with
   | next=>obtain ⟨σ',H',I',q'⟩:=q;exact goes_ok (inv_unsuite I.ok I') hN hi hloc fun s7 I7=>⟨_,H',I7,q'⟩
   | brk=>obtain ⟨σ',H',I',q'⟩:=q;exact goes_ok (inv_unsuite I.ok I') hN hi hloc fun s7 I7=>⟨_,H',I7,q'⟩
   | cont=>obtain ⟨σ',H',I',q'⟩:=q;exact goes_ok (inv_unsuite I.ok I') hN hi hloc fun s7 I7=>⟨_,H',I7,q'⟩
   | ret u=>obtain ⟨v,σ',H',I',r',q'⟩:=q;exact goes_ok (inv_unsuite I.ok I') hN hi hloc fun s7 I7=>⟨v,_,H',I7,r',q'⟩
 ·intro e2;rw [e2] at h;exact h.elim
end
end Pu
namespace Pu
open PySem PySem.Spec PyProof.Rows L2
theorem isx_true {K:PySem.W.Frag} {a:Addr} {t c:Value} (e:PySem.W.kitOne K t c=some true):Answers (fun s=>K.In s.heap/\∃ o,s.heap.get? a=some o/\o.cls=t) (.ref a) c true:=by
 intro dep tk prog w A R s hs;obtain ⟨h0,g,d,tt,os⟩:=s;obtain ⟨⟨X,o,h1,h2⟩,hq⟩:=hs;have LT:PySem.W.Looks (model prog w) h0 (typeOf (.ref a)) t:=h2 ▸ (PySem.W.Looks.ld h1).andThen .now;unfold PySem.W.kitOne at e;unfold Builtin.«isinstance.nested»;refine wpAny_bind (LT.at ?_)
 by_cases q:(t==c)=true
 ·rw [if_pos q]
  first
   | exact wpAny_bind (wpAny_rule (hq tt))
   | exact wpAny_bind (wpAny_rule (wpAny_pure (hq tt)))
 ·rw [if_neg q] at e;rw [if_neg q];obtain ⟨hty,his,hsub⟩:=PySem.W.kit_cls (M:=model prog w) X e;have LI:PySem.W.Looks (model prog w) h0 (isInstance (.ref a) c) true:=LT.andThen hsub;refine wpAny_bind (hty.at ?_);rw [if_pos (by decide)]
  k_delta "plainIsInstance"
  refine wpAny_bind (wpAny_bind (his.at ?_));simp only [Bool.not_true,Bool.false_eq_true,if_false];refine wpAny_bind (LI.at ?_)
  first
   | exact wpAny_pure (wpAny_pure (hq tt))
   | (simp only [if_true];first | exact wpAny_pure (wpAny_pure (hq tt)) | exact wpAny_pure (hq tt) | exact wpAny_bind (wpAny_pure (wpAny_pure (hq tt))))
def isxIn (K:PySem.W.Frag) (cv:Value) (c:Str):Bool:=match PySem.W.nsIn K mainGlobals c with
 | some (some t)=>PySem.W.kitOne K t cv==some true
 | _=>false
def eIsX (i:Nat) (ys:List Str):De:=fun ρ=>match ρ[i]? with
 | some (some (.exn z))=>(match z.cls with
  | .own c=>if c∈ys then .ok (.bl true) else .bad
  | _=>.bad)
 | _=>.bad
section
variable {X:Cx} {x y:Str} {p p2 p3 pos:Pos}
def rIsX (X:Cx) (cv:V) (ys:List Str):List V->Hp->VK->Prop:=fun xs H Q=>∃ e C dx c,xs=[.ref e,cv]/\H e=some (.ext (EObj e C dx))/\c∈ys/\clsIs X.K (.own c) C/\Q (.bl true) H
theorem call_isX {cv:V} {cu:Value} {ys:List Str} (rc:∀ u,RelV cv u->u=cu) (hys:∀ c∈ys,isxIn X.K cu c=true):CallR X (.builtin "isinstance") (rIsX X cv ys):=by
 intro pins s σ H xs us Q I rs ⟨e,C,dx,c,ex,he,hc,hcl,q⟩;subst ex;cases rs with
 | cons r1 r2 =>
  cases r2 with
  | cons r3 r4 =>
   cases r4;cases rc _ r3;cases (show _=Value.ref e from r1);obtain ⟨⟨oe,vs,k1,k2,_⟩,_⟩:=I.hok e _ he;have hk:=hys c hc;unfold isxIn at hk;rw [show PySem.W.nsIn X.K mainGlobals c=some (some C) from hcl] at hk
   have hk:PySem.W.kitOne X.K C cu=some true:=beq_iff_eq.mp hk;exact call_isinstance (S:=fun _ R s=>(X.K.In s.heap/\∃ o,s.heap.get? e=some o/\o.cls=C)/\∀ tk,R (.ok (.ret (.bool true))) {s with toks:=tk})
    (fun prog w A R s hs=>isinstance_outer (isx_true hk 0 _ prog w A R s hs) (fun z=>by cases z)) ⟨⟨I.kIn,oe,k1,k2⟩,fun tk=>⟨.bl true,H,I.tok tk,rfl,q⟩⟩
theorem eIsX_of {i:Nat} {ys:List Str} {W:Addr->Prop} {H:Hp} {σ:SS} {ρ:En} {Q:VK} {cv:V} (er:ER X.K W H σ ρ) (h:Fin X W H Q (eIsX i ys ρ)):∃ v,σ[i]?=some (some v)/\rIsX X cv ys [v,cv] H Q:=by
 unfold eIsX at h
 split at h
 ·rename_i z e
  obtain ⟨v,e1,ea,C,dx,rfl,h2,h3,_⟩:=er.val i _ e;cases ez:z.cls with
  | blt T=>rw [ez] at h;exact h.elim
  | own c =>
   rw [ez] at h h3;dsimp only at h
   by_cases hc:c∈ys
   ·rw [if_pos hc] at h;exact ⟨_,e1,ea,C,dx,c,rfl,hid_sub _ _ h2,hc,h3,h _ H (Same.refl _) (Rep.bl.mpr rfl)⟩
   ·rw [if_neg hc] at h;exact h.elim
 ·exact h.elim
theorem de_isXB (i:Nat) {T:String} {ys:List Str} (hg:Gl X "isinstance") (hm:X.mg "isinstance" = none) (hN:X.N[i]?=some x) (hv:Vis X.env.scope x) (hgT:Gl X y) (hmT:X.mg y=none) (hys:∀ c∈ys,isxIn X.K (.type T) c=true)
  (hbv:bootBuiltins y=some (.type T):=by decide) (hn:y ≠ "__name__" := by decide) (hdb:(y==("__debug__" : Str))=false:=by decide) (hd:(x==("__debug__" : Str))=false:=by decide) (hcd:(x==("__classdict__" : Str))=false:=by decide)
  (he:starEach [.Name x p2,.Name y p3] X.env=(false,eval (.Name x p2) X.env)::starEach [.Name y p3] X.env:=by rfl) (he2:starEach [.Name y p3] X.env=(false,eval (.Name y p3) X.env)::starEach [] X.env:=by rfl) (hpl:(backTo pos (starEach [.Name y p3] X.env)).any (·.1)=false:=by rfl) :
  DE X (.Call (.Name "isinstance" p) [.Name x p2,.Name y p3] [] pos) (eIsX i ys) :=
 pe_imp (pe_callB (call_isX (cv:=.ty T) (cu:=.type T) (fun u r=>r) hys) hg hm boot_isinstance (pa_cons (pe_var hN hv hd hcd) (pa_cons (pe_bltn hgT hmT hbv (v:=.ty T) rfl hn hdb) pa_nil he2) he) (by decide) (by decide) he hpl) fun σ H Q ⟨W,ρ,er,h⟩=>eIsX_of er h
theorem de_isXO (i:Nat) {C:Addr} {ys:List Str} (hg:Gl X "isinstance") (hm:X.mg "isinstance" = none) (hN:X.N[i]?=some x) (hv:Vis X.env.scope x) (hgT:Gl X y) (hmT:X.mg y=some (.ref C)) (hys:∀ c∈ys,isxIn X.K (.ref C) c=true)
  (hdb:(y==("__debug__" : Str))=false:=by decide) (hd:(x==("__debug__" : Str))=false:=by decide) (hcd:(x==("__classdict__" : Str))=false:=by decide)
  (he:starEach [.Name x p2,.Name y p3] X.env=(false,eval (.Name x p2) X.env)::starEach [.Name y p3] X.env:=by rfl) (he2:starEach [.Name y p3] X.env=(false,eval (.Name y p3) X.env)::starEach [] X.env:=by rfl) (hpl:(backTo pos (starEach [.Name y p3] X.env)).any (·.1)=false:=by rfl) :
  DE X (.Call (.Name "isinstance" p) [.Name x p2,.Name y p3] [] pos) (eIsX i ys) :=
 pe_imp (pe_callB (call_isX (cv:=.ref C) (cu:=.ref C) (fun u r=>r) hys) hg hm boot_isinstance (pa_cons (pe_var hN hv hd hcd) (pa_cons (pe_glob hgT hmT (v:=.ref C) rfl hdb) pa_nil he2) he) (by decide) (by decide) he hpl) fun σ H Q ⟨W,ρ,er,h⟩=>eIsX_of er h
end
theorem al_nil {α:Type} {P:α->Prop}:∀ c∈([]:List α),P c:=fun _ h=>by cases h
theorem al_cons {α:Type} {P:α->Prop} {a:α} {l:List α} (h:P a) (t:∀ c∈l,P c):∀ c∈a::l,P c:=fun c q=>by
 rcases List.mem_cons.mp q with rfl | q
 ·exact h
 ·exact t c q
theorem xn_nil (ρ:En) (z:XC):aNil ρ≠.exc z:=fun h=>by cases h
theorem xn_var {i:Nat} (ρ:En) (z:XC):eVar i ρ≠.exc z:=fun h=>eVar_nx h
theorem xn_cons {d:De} {ds:Das} (h1:∀ ρ z,d ρ≠.exc z) (h2:∀ ρ z,ds ρ≠.exc z) (ρ:En) (z:XC):aCons d ds ρ≠.exc z:=by
 unfold aCons;exact bind_nx (h1 ρ) (fun v=>bind_nx (h2 ρ) fun vs x h=>by cases h) z
section
variable {X:Cx} {k:Nat} {ps:List Str} {g:Df} {y x n:Str} {p np cpos epos hpos pos:Pos} {a:Expr} {es:List Expr} {ds:Das} {ys:List Str} {b0:Stmt} {suite:List Stmt} {su:Ds}
theorem tb_callH (h:HasF X.prog X.w X.K X.mg X.base k y ps g) (hr:Room k X.A) (hg:Gl X y) (hn:∀ ρ vs,ds ρ=.ok vs->vs.length=(a::es).length) (ha:∀ E,DA (X.wish E) (a::es) ds) (hx:∀ ρ z,ds ρ≠.exc z) (hl:(a::es).length=ps.length:=by rfl)
  (hdb:(y==("__debug__" : Str))=false:=by decide) (he:starEach (a::es) X.env=(false,eval a X.env)::starEach es X.env:=by rfl) (hpl:(backTo cpos (starEach es X.env)).any (·.1)=false:=by rfl)
  (hsw:swapsWith (.Call (.Name y p) (a::es) [] cpos) none epos.line X.env=pure false:=by rfl):TB X [.Expr (.Call (.Name y p) (a::es) [] cpos) epos] (bCall g ds):=by
 obtain ⟨f,fd,F,hb,hk,hm⟩:=h;exact tb_call F hr hg hm hk hb hl hn ha hx hdb he hpl hsw
end
end Pu
namespace PuS
open PySem PyProof.Rows PySem.SeqAt
end PuS
namespace PuS
open PySem PyProof.Rows PySem.W
end PuS
namespace Pu
open PySem PySem.Spec PyProof.Rows L2
end Pu
namespace Pu
open PySem PySem.Spec PyProof.Rows L2
end Pu
namespace Pu
open PySem PySem.Spec PyProof.Rows L2
end Pu
namespace Pu
open PySem PySem.Spec PyProof.Rows L2 PySem.SeqAt
end Pu
namespace Pu
open PySem PySem.Spec PyProof.Rows L2
end Pu
namespace Pu
open PySem PySem.Spec PyProof.Rows L2
end Pu
namespace Pu
open PySem PySem.Spec PyProof.Rows L2 PySem.SeqAt
end Pu
namespace Pu
open PySem PySem.Spec PyProof.Rows L2 PySem.SeqAt
end Pu
namespace Pu
open PySem PySem.Spec PyProof.Rows L2
end Pu
namespace Pu
open PySem PySem.Spec PyProof.Rows L2 PySem.W
open PySem.Builtin PySem.Builtin.ObjectAttr
end Pu
namespace Pu
open PySem PySem.Spec PyProof.Rows L2
end Pu
namespace Pu
open PySem PySem.Spec PyProof.Rows L2
end Pu
namespace Pu
open PySem PySem.Spec PyProof.Rows L2
def raiseIF (x f:Str):PV->Res Out
 | .non=>.exc ⟨.own x,[(f,.non)]⟩
 | .int i=>if 0<=i/\i<1000000 then .exc ⟨.own x,[(f,.int i)]⟩ else .bad
 | _=>.bad
def sRaiseI (x f:Str) (d:De):Ds:=fun ρ=>(d ρ).bind (raiseIF x f)
end Pu
namespace Pu
open PySem PySem.Spec PyProof.Rows L2
open PySem.Builtin PySem.Builtin.ObjectAttr PySem.W
end Pu
namespace Pu
open PySem PySem.Spec PyProof.Rows L2
open PySem.Builtin PySem.Builtin.ObjectAttr PySem.W PySem.Builtin.Getset_descriptor
section
variable {d:De} {ρ:En} {x f:Str} {i:Nat} {ys ns:List Str}
@[simp] theorem r_raiseI:sRaiseI x f d ρ=(d ρ).bind (raiseIF x f):=(rfl)
@[simp] theorem r_raiseI1:raiseIF x f .non=.exc ⟨.own x,[(f,.non)]⟩:=(rfl)
end
end Pu
namespace PuT
open PySem PySem.Spec PyProof.Rows
theorem slot_iter:Slot "set" "__iter__" "set.__iter__" :=
 .of (owner := "set") (n := "__iter__") (by rw [typeLookup_type,builtinLookup_eq_fast];kernel_rfl) (by decide +kernel) (by decide +kernel) (by decide +kernel)
  (by first | exact .inl (by decide +kernel) | exact .inr (by decide +kernel)) (by rw [isSubtype_type];kernel_rfl)
theorem slot_next:Slot "set_iterator" "__next__" "set_iterator.__next__" :=
 .of (owner := "set_iterator") (n := "__next__") (by rw [typeLookup_type,builtinLookup_eq_fast];kernel_rfl) (by decide +kernel) (by decide +kernel) (by decide +kernel)
  (by first | exact .inl (by decide +kernel) | exact .inr (by decide +kernel)) (by rw [isSubtype_type];kernel_rfl)
theorem slot_it2:Slot "set_iterator" "__iter__" "set_iterator.__iter__" :=
 .of (owner := "set_iterator") (n := "__iter__") (by rw [typeLookup_type,builtinLookup_eq_fast];kernel_rfl) (by decide +kernel) (by decide +kernel) (by decide +kernel)
  (by first | exact .inl (by decide +kernel) | exact .inr (by decide +kernel)) (by rw [isSubtype_type];kernel_rfl)
theorem entry_iter:entryFor table "set.__iter__" = some Builtin.«frozenset.__iter__» :=
 entryFor_alias (id' := "frozenset.__iter__") (by kernel_rfl) (by first | rfl | decide +kernel) (by decide +kernel) (by kernel_rfl)
theorem entry_next:entryFor table "set_iterator.__next__" = some Builtin.«set_iterator.__next__»:=entryFor_of_tree (by kernel_rfl)
theorem args_iter (a:Value):argsOk "set.__iter__" ⟨[a],[]⟩:=by unfold argsOk;kernel_rfl
theorem args_next (a:Value):argsOk "set_iterator.__next__" ⟨[a],[]⟩:=by unfold argsOk;kernel_rfl
theorem entry_it2:entryFor table "set_iterator.__iter__" = some Builtin.«dict_keyiterator.__iter__»:=entryFor_alias (id' := "dict_keyiterator.__iter__") (by kernel_rfl) (by first | rfl | decide +kernel) (by decide +kernel) (by kernel_rfl)
theorem args_it2 (a:Value):argsOk "set_iterator.__iter__" ⟨[a],[]⟩:=by unfold argsOk;kernel_rfl
theorem set_len:typeLookup (.type "set") "__len__" = pure (some (.builtin "set.__len__")):=by rw [typeLookup_type,builtinLookup_eq_fast];kernel_rfl
end PuT
namespace PuT
open PySem PySem.Spec PyProof.Rows
abbrev byT (w:World):Bool:=w.params.followText "set-order"
structure SetAt (h:Heap) (a:Addr) (es:Array (Int×Value)) (ep:Nat) (t:SetTable):Prop where
 obj:∃ o,h.get? a=some o/\o.cls=.type "set" /\ o.data=.set es ep t
 fit:t.fits es.size=true
theorem SetAt.to {h h':Heap} {a:Addr} {es:Array (Int×Value)} {ep:Nat} {t:SetTable} (x:SetAt h a es ep t) (k:∀ o,h.get? a=some o->h'.get? a=some o):SetAt h' a es ep t :=
 ⟨let ⟨o,h1,h2,h3⟩:=x.obj;⟨o,k o h1,h2,h3⟩,x.fit⟩
theorem SetAt.typeIs {s:Shared} {a:Addr} {es:Array (Int×Value)} {ep:Nat} {t:SetTable} (x:SetAt s.heap a es ep t):s.TypeIs (.ref a) "set" := let ⟨o,h1,h2,_⟩:=x.obj;⟨o,h1,h2⟩
theorem go_perm {α:Type} (next:Nat->Nat):∀ (fuel k:Nat) (left:List α) (out:Array α),fuel=left.length->(pickOrder.go next fuel k left out).toList.Perm (out.toList++left)
 | 0,k,left,out,h=>by
  have:left=[]:=List.eq_nil_of_length_eq_zero h.symm;subst this;unfold pickOrder.go;simp
 | fuel+1,k,left,out,h=>by
  unfold pickOrder.go;have hl:next k % left.length<left.length:=Nat.mod_lt _ (by omega)
  rw [List.getElem?_eq_getElem hl];dsimp only;refine (go_perm next fuel (k+1) _ _ (by rw [List.length_eraseIdx_of_lt hl];omega)).trans ?_
  rw [Array.toList_push,List.append_assoc];refine List.Perm.append_left _ ?_;rw [List.eraseIdx_eq_take_drop_succ];have e:left.take (next k % left.length)++left[next k % left.length]::left.drop (next k % left.length+1)=left:=by
   rw [<- List.drop_eq_getElem_cons hl,List.take_append_drop]
  generalize left[next k % left.length]=y at *
  generalize next k % left.length=i at *
  refine List.Perm.trans ?_ (List.Perm.of_eq e);show (y::(left.take i++left.drop (i+1))).Perm _;exact (List.perm_middle).symm
theorem pick_perm {α:Type} (next:Nat->Nat) (xs:Array α):(pickOrder next xs).toList.Perm xs.toList:=by
 have:=go_perm next xs.size 0 xs.toList #[] (by simp)
 simpa [pickOrder] using this
def walked (w:World) (a:Addr) (ep:Nat) (es:Array (Int×Value)):Array (Int×Value):=if byT w=true then pickOrder (w.params.setOrder a ep) es else es
theorem walked_perm (w:World) (a:Addr) (ep:Nat) (es:Array (Int×Value)):(walked w a ep es).toList.Perm es.toList:=by
 unfold walked
 split
 ·exact pick_perm _ _
 ·exact .refl _
theorem walked_size (w:World) (a:Addr) (ep:Nat) (es:Array (Int×Value)):(walked w a ep es).size=es.size:=by
 have:=(walked_perm w a ep es).length_eq;simpa using this
def slt (w:World) (t:SetTable) (i:Nat):Nat:=if byT w=true then 0 else if i=0 then 0 else t.place.getD (i-1) 0+1
structure Walkable (w:World) (es:Array (Int×Value)) (t:SetTable):Prop where
 plain:(!t.plain&&decide (es.size>1))=false
 led:byT w=false->t.led=true
 below:byT w=false->∀ i,i<=es.size->SetTable.below t.place (slt w t i)=i
abbrev iterObj (w:World) (a:Addr) (es:Array (Int×Value)) (ep:Nat) (t:SetTable) (i:Nat):Obj:={cls:=.type "set_iterator",data:=.fields #[rawInt (slt w t i:Nat),rawInt (i:Nat),.ref a,rawInt (es.size:Nat),rawInt (ep:Nat)]}
section
variable {prog:Program} {w:World} {A:Around} {E:Value->Shared->Prop} {s:Shared} {a I:Addr} {es:Array (Int×Value)} {ep:Nat} {t:SetTable}
theorem st_state {Q:(Array (Int×Value)×Nat×SetTable)->Shared->Prop} (x:SetAt s.heap a es ep t) (h:Q (es,ep,t) s):wpAny (model prog w) A (setState a) Q E s :=
 let ⟨_,h1,_,h3⟩:=x.obj;wpAny_setState_of h1 h3 x.fit h
theorem st_entries {Q:Array (Int×Value)->Shared->Prop} (x:SetAt s.heap a es ep t) (h:Q es s):wpAny (model prog w) A (setEntries a) Q E s:=by
 unfold setEntries;exact wpAny_bind (st_state x (wpAny_pure h))
theorem st_byText {Q:Bool->Shared->Prop} (h:Q (byT w) s):wpAny (model prog w) A setsByText Q E s:=by
 unfold setsByText;exact wpAny_bind (wpAny_askSetting (wpAny_pure h))
theorem st_next {Q:Option (Value×Nat)->Shared->Prop} {i:Nat} (x:SetAt s.heap a es ep t) (k:Walkable w es t) (hi:i<=es.size)
  (h:Q (((walked w a ep es)[i]?).map fun e=>(e.2,slt w t (i+1))) s):wpAny (model prog w) A (setNext a (slt w t i) i ep) Q E s:=by
 unfold setNext;refine wpAny_bind (st_state x ?_);dsimp only;refine wpAny_bind (st_byText ?_);cases hb:byT w with
 | true =>
  simp only [if_true,bne_self_eq_false,Bool.false_eq_true,if_false];unfold setWalk;refine wpAny_bind (wpAny_bind (st_state x ?_));dsimp only;refine wpAny_bind (st_byText ?_);rw [hb];simp only [if_true];refine wpAny_bind (wpAny_askSetting (wpAny_pure ?_));refine wpAny_pure ?_;have e1:walked w a ep es=pickOrder (w.params.setOrder a ep) es:=by unfold walked;rw [if_pos hb]
  have e2:slt w t (i+1)=slt w t i:=by unfold slt;rw [if_pos hb,if_pos hb]
  rw [e1,e2] at h;exact h
 | false =>
  simp only [Bool.false_eq_true,if_false]
  k_delta "drawn"
  rw [k.plain];simp only [Bool.false_eq_true,if_false]
  k_delta "mustBeLedForItsPlaces"
  rw [k.led hb];simp only [Bool.not_true,Bool.false_and,Bool.false_eq_true,if_false];refine wpAny_bind (wpAny_pure (wpAny_pure ?_));rw [k.below hb i hi];have e1:walked w a ep es=es:=by unfold walked;rw [if_neg (by rw [hb];decide)]
  rw [e1] at h;have hf:=x.fit;simp only [SetTable.fits,Bool.and_eq_true,beq_iff_eq,decide_eq_true_eq] at hf
  by_cases hl:i<es.size
  ·have p1:es[i]?=some es[i]:=by simp [hl]
   have p2:t.place[i]?=some (t.place[i]'(by omega)):=by simp [hf.1,hl]
   rw [p1,p2];rw [p1] at h;have e2:slt w t (i+1)=t.place[i]'(by omega)+1:=by
    unfold slt;rw [if_neg (by rw [hb];decide),if_neg (by omega)];simp [Array.getD,hf.1,hl]
   rw [e2] at h;exact h
  ·have p1:es[i]?=none:=by simp;omega
   rw [p1];rw [p1] at h;exact h
theorem next_item {i:Nat} {Q:Option Value->Shared->Prop} (hI:s.heap.get? I=some (iterObj w a es ep t i)) (x:SetAt s.heap a es ep t) (k:Walkable w es t) (hi:i<es.size)
  (h:∀ h',h'.get? I=some (iterObj w a es ep t (i+1))->Heap.SameBut I s.heap h'->Q (some ((walked w a ep es)[i]'(by rw [walked_size];exact hi)).2) {s with heap:=h'}):wpAny (model prog w) A (pyNext (.ref I)) Q E s:=by
 have hT:s.TypeIs (.ref I) "set_iterator" := ⟨_,hI,rfl⟩;unfold pyNext;refine wpAny_bind (wpAny_attempt (wpAny_callSpecial?_slot (name:=Str.ofString "__next__") hT slot_next (wpAny_call_entry slot_next hT entry_next ?_ (args_next _))));unfold Builtin.«set_iterator.__next__»;refine wpAny_bind (wpAny_pure ?_);refine wpAny_bind (wpAny_fieldsOf hI rfl ?_);show wpAny _ _ (setEntries a>>=_) _ _ _;refine wpAny_bind (st_entries x ?_);have e0:((es.size:Int) != (es.size:Nat))=false:=by simp
 simp only [e0,Bool.false_eq_true,if_false];show wpAny _ _ (setNext a (Int.toNat (slt w t i:Nat)) (Int.toNat (i:Nat)) (Int.toNat (ep:Nat))>>=_) _ _ _;rw [Int.toNat_natCast,Int.toNat_natCast,Int.toNat_natCast];have hw:i<(walked w a ep es).size:=by rw [walked_size];exact hi
 refine wpAny_bind (st_next x k (Nat.le_of_lt hi) ?_);rw [show (walked w a ep es)[i]?=some ((walked w a ep es)[i]'hw) by simp [hw]];dsimp only [Option.map_some];refine wpAny_bind (wpAny_setField hI rfl (by simp) ?_);have h1:=Heap.get?_update_self (Obj.mapFields (·.setIfInBounds 0 (rawInt (slt w t (i+1):Nat)))) hI rfl;refine wpAny_bind (wpAny_setField h1 rfl (by simp [Obj.mapFields]) ?_);refine wpAny_pure ⟨_,rfl,wpAny_pure (h _ ?_ ?_)⟩
 ·rw [Heap.get?_update_self _ h1 rfl];simp [Obj.mapFields,rawInt]
 ·exact (Heap.SameBut.update ..).trans (Heap.SameBut.update ..)
theorem next_end {Q:Option Value->Shared->Prop} (hh:A.handled=none) (hI:s.heap.get? I=some (iterObj w a es ep t es.size)) (x:SetAt s.heap a es ep t) (k:Walkable w es t)
  (h:∀ h',Heap.ExtBut I s.heap h'->Q none {s with heap:=h'}):wpAny (model prog w) A (pyNext (.ref I)) Q E s:=by
 have hT:s.TypeIs (.ref I) "set_iterator" := ⟨_,hI,rfl⟩;unfold pyNext;refine wpAny_bind (wpAny_attempt (wpAny_callSpecial?_slot (name:=Str.ofString "__next__") hT slot_next (wpAny_call_entry slot_next hT entry_next ?_ (args_next _))));unfold Builtin.«set_iterator.__next__»;refine wpAny_bind (wpAny_pure ?_);refine wpAny_bind (wpAny_fieldsOf hI rfl ?_);show wpAny _ _ (setEntries a>>=_) _ _ _;refine wpAny_bind (st_entries x ?_);have e0:((es.size:Int) != (es.size:Nat))=false:=by simp
 simp only [e0,Bool.false_eq_true,if_false];show wpAny _ _ (setNext a (Int.toNat (slt w t es.size:Nat)) (Int.toNat (es.size:Nat)) (Int.toNat (ep:Nat))>>=_) _ _ _;rw [Int.toNat_natCast,Int.toNat_natCast,Int.toNat_natCast];refine wpAny_bind (st_next x k (Nat.le_refl _) ?_);rw [show (walked w a ep es)[es.size]?=none by simp [walked_size]];dsimp only [Option.map_none];refine wpAny_bind (wpAny_setField hI rfl (by simp) ?_);show wpAny _ _ (newExc (.type "StopIteration") []>>=_) _ _ _;refine wpAny_bind ?_;simp only [newExc,newTuple];refine wpAny_bind (wpAny_newObj_type ?_ (by size_fits));refine wpAny_bind (m:=firstArgMember _ _) (wpAny_of_eq (a:=Value.none) (by first | rfl | (simp only [firstArgMember];rfl)) ?_)
 refine wpAny_newObj_type ?_ (by size_fits);simp only [raiseNew];refine wpAny_bind (wpAny_handled ?_);rw [show A.in1.handled=none from hh]
 refine wpAny_bind (wpAny_pure (wpAny_throw ?_));refine wpAny_bind (wpAny_isInstance (T := "StopIteration") (b:=true) ⟨_,Heap.get?_push_size _ rfl,rfl⟩ isSubtype_stop ?_);exact wpAny_pure (h _ (((Heap.SameBut.update ..).extBut.push _).push _))
theorem walkSet (hh:A.handled=none) (k:Walkable w es t) (hne:a≠I) :
  WalksS prog w A I [I,a] [I] (fun x y=>x=y) es.size (fun i v=>∃ hi:i<(walked w a ep es).size,v=((walked w a ep es)[i]'hi).2) (fun i s=>s.heap.get? I=some (iterObj w a es ep t i)/\SetAt s.heap a es ep t) where
 sub:=fun b hb=>by simp at hb;simp [hb]
 grefl:=fun _=>rfl
 gtrans:=fun _ _ _ h1 h2=>h1.trans h2
 frame:=fun i s h' tk ⟨h1,h2⟩ _ kp=>⟨kp I (by simp) _ h1,h2.to fun o e=>kp a (by simp) o e⟩
 item:=fun i s Q E hi ⟨h1,h2⟩ q=>next_item h1 h2 k hi fun h' st sb=>q _ {s with heap:=h'} ⟨by rw [walked_size];exact hi,rfl⟩ ⟨st,h2.to fun o e=>sb.extBut a o hne e⟩ ⟨fun b o hb e=>sb.extBut b o (fun z=>hb (by simp [z])) e,rfl,rfl,rfl,Nat.le_refl _⟩
 done:=fun s Q E ⟨h1,h2⟩ q=>next_end hh h1 h2 k fun h' eb=>q {s with heap:=h'} ⟨fun b o hb e=>eb b o (fun z=>hb (by simp [z])) e,rfl,rfl,rfl,Nat.le_refl _⟩
 self:=fun i s Q E ⟨h1,h2⟩ q=>by
  have hT:s.TypeIs (.ref I) "set_iterator" := ⟨_,h1,rfl⟩;refine wpAny_pyIter_slot hT slot_it2 (wpAny_call_entry slot_it2 hT entry_it2 ?_ (args_it2 _));exact wpAny_pure ⟨_,rfl,"set_iterator",_,hT,slot_next.lookup,q⟩
theorem iter_set {Q:Value->Shared->Prop} (x:SetAt s.heap a es ep t) (k:Walkable w es t)
  (h:Q (.ref s.heap.objs.size) {s with heap:=s.heap.push (iterObj w a es ep t 0)}):wpAny (model prog w) A (pyIter (.ref a)) Q E s:=by
 refine wpAny_pyIter_slot x.typeIs slot_iter (wpAny_call_entry slot_iter x.typeIs entry_iter ?_ (args_iter _));unfold Builtin.«frozenset.__iter__»;refine wpAny_bind (wpAny_bind (wpAny_pure (wpAny_pure ?_)));refine wpAny_bind (wpAny_bind (st_entries x (wpAny_pure ?_)));have hd:∀ (Q':Bool->Shared->Prop),Q' false s->wpAny (model prog w) A.in1 (setDrawn a) Q' (fun e s'=>E e s') s:=fun Q' q=>by
  unfold setDrawn;refine wpAny_bind (st_state x ?_);dsimp only;refine wpAny_bind (st_byText (wpAny_pure ?_));show Q' (!byT w&&(!t.plain&&decide (es.size>1))) s;rw [k.plain,Bool.and_false];exact q
 refine wpAny_bind (hd _ ?_);simp only [Bool.false_eq_true,if_false];refine wpAny_bind (wpAny_pure ?_);have hep:∀ (Q':Nat->Shared->Prop),Q' ep s->wpAny (model prog w) A.in1 (setEpoch a) Q' (fun e s'=>E e s') s:=fun Q' q=>by
  unfold setEpoch;exact wpAny_bind (st_state x (wpAny_pure q))
 refine wpAny_bind (hep _ ?_);have e0:slt w t 0=0:=by unfold slt;split<;>simp
 have e1:iterObj w a es ep t 0={cls:=.type "set_iterator",data:=.fields #[rawInt 0,rawInt 0,.ref a,rawInt (es.size:Nat),rawInt (ep:Nat)]}:=by
  unfold iterObj;rw [e0];rfl
 rw [e1] at h;refine wpAny_bind (wpAny_newObj_type (wpAny_pure ⟨_,rfl,"set_iterator",_,⟨_,Heap.get?_push_size _ rfl,rfl⟩,slot_next.lookup,h⟩))
end
end PuT
namespace PuT
open PySem PySem.Spec PyProof.Rows
theorem sub_set:isSubtype (.type "set") (.type "set")=pure true:=by rw [isSubtype_type];kernel_rfl
section
variable {prog:Program} {w:World} {A:Around} {E:Value->Shared->Prop} {s:Shared} {a:Addr} {es:Array (Int×Value)} {ep:Nat} {t:SetTable}
set_option maxHeartbeats 4000000 in
theorem collect_set {Q:List Value->Shared->Prop} (hh:A.handled=none) (x:SetAt s.heap a es ep t) (k:Walkable w es t) (hn:es.size<=1000)
  (h:∀ s',(∀ b o,s.heap.get? b=some o->s'.heap.get? b=some o)->s'.gens=s.gens->s'.drawn=s.drawn->s'.os=s.os->s.heap.objs.size<s'.heap.objs.size->Q ((walked w a ep es).toList.map (·.2)) s'):wpAny (model prog w) A (collect (.ref a)) Q E s:=by
 have hsl:es.size<=sizeLine:=Nat.le_trans hn (by decide);have hlt:a<s.heap.objs.size:=by obtain ⟨o,h1,_⟩:=x.obj;exact Heap.lt_size h1
 have hSa:s.heap.objs.size≠a:=Nat.ne_of_gt hlt;unfold collect;refine wpAny_bind (wpAny_runValue (codeAny_builtin PySem.F.entry_proto_collect ?_));rw [Around.under_plainId PySem.F.plain_proto_collect _];show wpAny _ A.in1 (newList []>>=fun l=>again (.builtin "list.__iadd__" ⟨[l,.ref a],[]⟩)) _ _ s
 refine wpAny_bind (wpAny_newObj_type ?_);refine wpAny_pure ⟨plainId_quiet PySem.F.plain_list_iadd _,codeAny_builtin PySem.F.entry_list_iadd ?_⟩;rw [Around.under_plainId PySem.F.plain_list_iadd _];generalize hnl:({cls:=.type "list",data:=.seq ([]:List Value).toArray}:Obj)=nl;have k1:∀ b o,s.heap.get? b=some o->(s.heap.push nl).get? b=some o:=fun b o e=>Heap.get?_push_of_some _ e
 have x1:SetAt (s.heap.push nl) a es ep t:=x.to fun o e=>k1 a o e
 have hS1:(s.heap.push nl).get? s.heap.objs.size=some nl:=Heap.get?_push_size _ (by rw [<- hnl];rfl);show wpAny _ A.in1 (Builtin.List.listExtendWith (.ref s.heap.objs.size) (.ref a) (.ref s.heap.objs.size)) _ _ _;unfold Builtin.List.listExtendWith;refine wpAny_bind (wpAny_typeOf (T := "set") (SetAt.typeIs (s:={s with heap:=s.heap.push nl}) x1) ?_);have h1:Builtin.List.listSameRef (.ref s.heap.objs.size) (.ref a)=false:=by simp [Builtin.List.listSameRef,hSa]
 have h2:(Value.type "set" == Value.type "list")=false:=by decide
 have h3:(Value.type "set" == Value.type "tuple")=false:=by decide
 simp only [h1,h2,h3,Bool.or_false,Bool.false_eq_true,if_false];refine wpAny_bind (iter_set (s:={s with heap:=s.heap.push nl}) x1 k ?_);generalize hI:(s.heap.push nl).objs.size=I;have hIs:I=s.heap.objs.size+1:=by rw [<- hI,Heap.size_push]
 have hneI:a≠I:=by rw [hIs];exact Nat.ne_of_lt (Nat.lt_succ_of_lt hlt)
 have k2:∀ b o,(s.heap.push nl).get? b=some o->((s.heap.push nl).push (iterObj w a es ep t 0)).get? b=some o:=fun b o e=>Heap.get?_push_of_some _ e
 have x2:SetAt ((s.heap.push nl).push (iterObj w a es ep t 0)) a es ep t:=x1.to fun o e=>k2 a o e
 have hI2:((s.heap.push nl).push (iterObj w a es ep t 0)).get? I=some (iterObj w a es ep t 0):=by rw [<- hI];exact Heap.get?_push_size _ rfl
 have hS2:=k2 _ _ hS1;generalize hH:(s.heap.push nl).push (iterObj w a es ep t 0)=H at *;have keepH:∀ b o,s.heap.get? b=some o->H.get? b=some o:=fun b o e=>k2 b o (k1 b o e)
 have hT2:=SetAt.typeIs (s:={s with heap:=H}) x2;refine wpAny_bind (wpAny_holding ?_);unfold Builtin.List.listLengthHint;refine wpAny_bind (wpAny_specialOf hT2 set_len ?_);have sp:splitId "set.__len__" = some ("set","__len__"):=by decide +kernel
 dsimp only;rw [sp];dsimp only;refine wpAny_bind (wpAny_isInstance hT2 sub_set ?_);simp only [Bool.not_true,Bool.false_eq_true,if_false];rw [if_pos (by decide +kernel)];refine wpAny_bind (wpAny_typeOf hT2 (wpAny_pure ?_));show wpAny _ A.in1 (rule "list.extend.makes-room" >>= fun _=>Builtin.List.listTouch (.ref s.heap.objs.size)>>=fun _=>again (.builtin "list.extend.loop" ⟨[.ref s.heap.objs.size,.ref I,.ref s.heap.objs.size],[]⟩)) _ _ _
 refine wpAny_bind (wpAny_rule ?_);refine wpAny_bind ?_;show wpAny _ A.in1 (updateSeq s.heap.objs.size (·.push .none)>>=fun _=>updateSeq s.heap.objs.size (·.pop)) _ _ _
 have hd:nl.data=.seq #[] 0:=by rw [<- hnl]
 refine wpAny_bind (wpAny_updateSeq hS2 hd ?_);have hf1:(Obj.mapSeq (·.push Value.none) nl).isFreed=false:=by rw [<- hnl];rfl
 have hS3:=Heap.get?_update_self (Obj.mapSeq (·.push Value.none)) hS2 hf1;have hd3:(Obj.mapSeq (·.push Value.none) nl).data=.seq #[.none] 1:=by rw [<- hnl];rfl
 refine wpAny_updateSeq hS3 hd3 ?_;have hf2:(Obj.mapSeq (·.pop) (Obj.mapSeq (·.push Value.none) nl)).isFreed=false:=by rw [<- hnl];rfl
 have hS4:=Heap.get?_update_self (Obj.mapSeq (·.pop)) hS3 hf2;have oth:∀ b o,b≠s.heap.objs.size->H.get? b=some o->((H.update s.heap.objs.size (Obj.mapSeq (·.push Value.none))).update s.heap.objs.size (Obj.mapSeq (·.pop))).get? b=some o :=
  fun b o hb e=>(Heap.get?_update_other _ _ (Ne.symm hb)).trans ((Heap.get?_update_other _ _ (Ne.symm hb)).trans e)
 have e4:Obj.mapSeq (·.pop) (Obj.mapSeq (·.push Value.none) nl)={cls:=.type "list",dict:=none,data:=.seq #[] 2,slots:=#[]}:=by rw [<- hnl];rfl
 rw [e4] at hS4;have hI3:=oth I _ (by omega) hI2;have x3:=x2.to fun o e=>oth a o (Ne.symm hSa) e
 have hSf:s.heap.objs.size∉[I,a]:=by simp;exact ⟨by omega,hSa⟩
 refine wpAny_pure ⟨plainId_quiet PySem.F.plain_extend_loop _,codeAny_extend_loopS (walkSet (A:=A.in1) (I:=I) (a:=a) (ep:=ep) (by simp [hh]) k hneI) hsl _ hSf _ es.size 0 _ #[] 2 rfl (Nat.zero_le _) ⟨hI3,x3⟩ hS4 (ItemsOf.nil _) fun s' acc' c' hm hS' hacc=>?_⟩
 show wpAny _ A (load s.heap.objs.size>>=_) _ _ s';refine wpAny_bind (wpAny_load hS' ?_);have eq:acc'.toList=(walked w a ep es).toList.map (·.2):=by
  obtain ⟨z1,z2⟩:=hacc;apply List.ext_getElem?;intro i;rw [Array.getElem?_toList,List.getElem?_map,Array.getElem?_toList]
  by_cases hi:i<es.size
  ·have p1:acc'[i]?=some (acc'[i]'(by omega)):=by simp [z1,hi]
   obtain ⟨q1,q2⟩:=z2 i _ p1;rw [p1,q2];simp [q1]
  ·have p1:acc'[i]?=none:=by simp [z1];omega
   have p2:(walked w a ep es)[i]?=none:=by simp [walked_size];omega
   rw [p1,p2];rfl
 show wpAny _ A (pure acc'.toList) _ _ _;rw [eq];refine wpAny_pure (h s' (fun b o e=>?_) ?_ ?_ ?_ (Heap.lt_size hS'))
 ·have nb:b≠s.heap.objs.size:=Nat.ne_of_lt (Heap.lt_size e);have nI:b≠I:=by rw [hIs];exact Nat.ne_of_lt (Nat.lt_succ_of_lt (Heap.lt_size e))
  exact hm.heap b o (by simp [nb,nI]) (oth b o nb (keepH b o e))
 ·exact hm.gens.symm
 ·exact hm.drawn
 ·exact hm.os
end
end PuT
namespace PuT
open PySem PySem.Spec PyProof.Rows
abbrev freshSet (led:Bool):Obj:={cls:=.type "set",dict:=none,data:=.set #[] 0 (.fresh 0 0 led)}
section
variable {prog:Program} {w:World} {A:Around} {R:Result->Shared->Prop} {I:Addr} {fp wr:List Addr} {n:Nat} {P:Nat->Value->Prop} {St:Nat->Shared->Prop}
theorem upd_loop (W:WalksS prog w A.in1 I fp wr (fun x y=>x=y) n P St) (S:Addr) (hSf:S∉fp) (D:Nat->Heap->Prop)
  (frame:∀ i h h',D i h->(∀ b o,b∉wr->h.get? b=some o->h'.get? b=some o)->D i h')
  (add:∀ (i:Nat) (v:Value) (s':Shared) (Q:Shared->Prop) (E:Value->Shared->Prop),i<n->P i v->D i s'.heap->(∀ h' tk,s'.toks<=tk->Heap.SameBut S s'.heap h'->D (i+1) h'->Q {s' with heap:=h',toks:=tk}) ->
   wpAny (model prog w) A.in1 (setAdd S v) (fun _=>Q) E s') :
  ∀ (k i:Nat) (s:Shared),n-i=k->i<=n->St i s->D i s.heap->(∀ s',Moved (S::wr) (fun x y=>x=y) s s'->D n s'.heap->R (.ok (.ret .none)) s') ->
   codeAny (model prog w) A (.builtin "set.update.loop" ⟨[.ref S,.ref I],[]⟩) R s:=by
 have sub:∀ b∈wr,b∈S::wr:=fun b hb=>List.mem_cons_of_mem _ hb
 intro k
 induction k with
 | zero =>
  intro i s hk hi hst hD hR;obtain rfl:i=n:=by omega
  refine codeAny_builtin F.entry_set_update_loop ?_;rw [Around.under_plainId F.plain_set_update_loop _];show wpAny _ A.in1 (pyNext (.ref I)>>=_) _ _ s;refine wpAny_bind (W.done s _ _ hst fun s' hm=>?_);exact wpAny_pure (hR s' (hm.mono sub) (frame _ _ _ hD fun b o hb e=>hm.heap b o hb e))
 | succ k ih =>
  intro i s hk hi hst hD hR;have hlt:i<n:=by omega
  refine codeAny_builtin F.entry_set_update_loop ?_;rw [Around.under_plainId F.plain_set_update_loop _];show wpAny _ A.in1 (pyNext (.ref I)>>=_) _ _ s;refine wpAny_bind (W.item i s _ _ hlt hst fun v s' hP hst' hm=>?_);have hD':D i s'.heap:=frame _ _ _ hD fun b o hb e=>hm.heap b o hb e
  show wpAny _ A.in1 (holding [v] (setAdd S v)>>=_) _ _ s';refine wpAny_bind (wpAny_holding (add i v s' _ _ hlt hP hD' fun h' tk htk hsb hD2=>?_));refine wpAny_pure ⟨plainId_quiet F.plain_set_update_loop _,ih (i+1) _ (by omega) hlt (W.frame _ s' _ _ hst' htk fun b hb o e=>?_) hD2 fun s'' hm'' hS''=>?_⟩
  ·rw [hsb.2 b (fun h:b=S=>hSf (by rw [<- h];exact hb))];exact e
  ·refine hR s'' (Moved.trans W.gtrans ((hm.mono sub).then_heap htk fun b o hb e=>?_) hm'') hS''
   rw [hsb.2 b (fun h:b=S=>hb (by rw [h];exact List.mem_cons_self))];exact e
end
section
variable {prog:Program} {w:World} {A:Around} {E:Value->Shared->Prop} {s:Shared}
theorem new_set (a:Value) {Q₁:Value->Shared->Prop} (h:Q₁ (.ref s.heap.objs.size) {s with heap:=s.heap.push (freshSet (!byT w))}) :
  codeAny (model prog w) A (.call (.builtin "set.__new__") ⟨[.type "set",a],[]⟩) (wants Q₁ E) s:=by
 refine codeAny_of_tree ?_;show wpAny _ A.in1 (do checkBuiltinCall "set.__new__" ⟨[.type "set",a],[]⟩;again (.builtin "set.__new__" ⟨[.type "set",a],[]⟩)) _ _ s
 refine wpAny_bind (wpAny_of_eq (PySem.F.newCall_set_1 a) (wpAny_pure ⟨plainId_quiet PySem.F.plain_set_new _,codeAny_builtin PySem.F.entry_set_new ?_⟩));rw [Around.under_plainId PySem.F.plain_set_new _];unfold Builtin.«set.__new__» Builtin.Frozenset.newClass;have hsub:=sub_set_self;obtain ⟨hp,g,d,tk,os⟩:=s;dsimp only
 wp_walk
 refine wpAny_askSetting (wpAny_pure ?_);dsimp only;simp only [newObj];refine wpAny_bind (wpAny_alloc (wpAny_pure ?_));exact wpAny_pure h
end
end PuT
namespace PuT
open PySem PySem.Spec PyProof.Rows
section
variable {prog:Program} {w:World} {A:Around} {E:Value->Shared->Prop} {s:Shared}
set_option maxHeartbeats 4000000 in
theorem set_of_list {l:Addr} {items:Array Value} {Q:Value->Shared->Prop} (D:Nat->Heap->Prop) (hh:A.handled=none) (hl:s.heap.IsList l items)
  (d0:∀ h:Heap,(∀ b o,s.heap.get? b=some o->h.get? b=some o)->h.get? s.heap.objs.size=some (freshSet (!byT w))->D 0 h)
  (frame:∀ i h h',D i h->(∀ b o,b≠s.heap.objs.size+1->h.get? b=some o->h'.get? b=some o)->D i h')
  (add:∀ (A':Around),A'.units<=A.units+8->∀ (i:Nat) (v:Value) (s':Shared) (Q':Shared->Prop) (E':Value->Shared->Prop),items[i]?=some v->D i s'.heap ->
   (∀ h' tk,s'.toks<=tk->Heap.SameBut s.heap.objs.size s'.heap h'->D (i+1) h'->Q' {s' with heap:=h',toks:=tk})->wpAny (model prog w) A' (setAdd s.heap.objs.size v) (fun _=>Q') E' s')
  (h:∀ (h':Heap) (tk:Nat),(∀ b o,s.heap.get? b=some o->h'.get? b=some o)->D items.size h'->Q (.ref s.heap.objs.size) {s with heap:=h',toks:=tk}) :
  wpAny (model prog w) A (call (.type "set") [.ref l]) Q E s:=by
 obtain ⟨c,tl,hmro⟩:=PySem.F.called_set.mro;have hmade:=PySem.F.called_set.made;have hsub:=PySem.F.called_set.sub;refine wpAny_call (codeAny_of_tree ?_);show wpAny _ _ (callAny (.type "set") _) _ _ _;refine wpAny_pure ⟨Code.quiet_builtin _ (by decide +kernel),codeAny_builtin PySem.F.entry_type_call ?_⟩;rw [Around.under_plain (weight_type_call_type "set" [.ref l] []) rfl];have t1:=PySem.F.called_set.notType;have t2:=PySem.F.called_set.canCreate;have t3:=PySem.F.typeCall_set_1 (.ref l)
 repeat (any_goals (first
  | assumption
  | wp_step))
 refine codeAny_mono (new_set (.ref l) (E:=E) (Q₁:=fun obj s₁=>obj=.ref s.heap.objs.size/\s₁={s with heap:=s.heap.push (freshSet (!byT w))}) ⟨rfl,rfl⟩) fun r s₁ hr=>?_
 rcases r with e | fl
 ·exact hr
 rcases fl with _ | _ | _ | obj
 ·exact hr.elim
 ·exact hr.elim
 ·exact hr.elim
 obtain ⟨rfl,rfl⟩:=hr;have hS:(s.heap.push (freshSet (!byT w))).get? s.heap.objs.size=some (freshSet (!byT w)):=Heap.get?_push_size _ rfl;have hT:Shared.TypeIs {s with heap:=s.heap.push (freshSet (!byT w))} (.ref s.heap.objs.size) "set" := ⟨_,hS,rfl⟩
 have hli:=PySem.F.called_set.init.lookup;have hbi:=PySem.F.called_set.init.bind (.ref s.heap.objs.size)
 repeat (any_goals (first
  | assumption
  | wp_step))
 refine codeAny_mono (codeAny_call_builtin (R:=wants (fun r s₂=>r=.none/\∃ h' tk,s₂={s with heap:=h',toks:=tk}/\(∀ b o,s.heap.get? b=some o->h'.get? b=some o)/\D items.size h') E) PySem.F.called_set.init.plain PySem.F.entry_set_init (check_set_init_1 hT ?_)) fun r₂ s₂ hr₂=>?_
 ·have hl0:=hl;obtain ⟨ol,hol,hcl,nl,hdl⟩:=hl;obtain ⟨ocls,odict,odata,oslots⟩:=ol;simp only at hcl hdl;subst hcl;subst hdl;have hol':=Heap.get?_push_of_some (freshSet (!byT w)) hol;have f1:=PySem.F.sub_list_set;have f2:=PySem.F.sub_list_frozenset;have f3:(Value.type "list" == Value.type "dict")=false:=by decide
  have hl1:(s.heap.push (freshSet (!byT w))).IsList l items:=⟨_,hol',rfl,nl,rfl⟩;unfold Builtin.«set.__init__» noKeywords Builtin.Frozenset.updateFrom;generalize hPI:pyIter=PI
  wp_walk
  subst hPI;refine wpAny_pyIter_list hl1 ?_;refine wpAny_bind (wpAny_runValue ?_);have hlS:l<s.heap.objs.size:=Heap.lt_size hol;have hh3:A.in1.in1.in1.handled=none:=by simp [hh]
  have eI:(s.heap.push (freshSet (!byT w))).objs.size=s.heap.objs.size+1:=Heap.size_push _ _;have hneI:l≠(s.heap.push (freshSet (!byT w))).objs.size:=by rw [eI];exact Nat.ne_of_lt (Nat.lt_succ_of_lt hlS)
  have hSf:s.heap.objs.size∉[(s.heap.push (freshSet (!byT w))).objs.size,l]:=by
   rw [eI];simp only [List.mem_cons,List.mem_singleton,List.not_mem_nil,or_false,not_or];exact ⟨Nat.ne_of_lt (Nat.lt_succ_self _),Nat.ne_of_gt hlS⟩
  have W:=Pu.walkK (prog:=prog) (w:=w) (A:=A.in1.in1.in1) (items:=items) .L hh3 hneI;refine upd_loop W s.heap.objs.size hSf D (fun i h1 h2 hd hk=>frame i h1 h2 hd fun b o hb e=>hk b o (by rw [eI];simpa using hb) e)
   (fun i v s' Q' E' hi hv hd hq=>add _ (by simp only [Around.in1_units];omega) i v s' Q' E' hv hd hq) (items.size-0) 0 _ (by omega) (Nat.zero_le _) ⟨⟨_,Heap.get?_push_size _ rfl,rfl,rfl⟩,(hl1.push _)⟩ ?_ ?_
  ·exact d0 _ (fun b o e=>Heap.get?_push_of_some _ (Heap.get?_push_of_some _ e)) (Heap.get?_push_of_some _ hS)
  ·intro s' hm hD';obtain ⟨h',g',d',tk',os'⟩:=s';have eg:s.gens=g':=hm.gens;have ed:d'=s.drawn:=hm.drawn;have eo:os'=s.os:=hm.os;subst eg;subst ed;subst eo;show wpAny _ _ _ _ _ _;refine wpAny_pure ?_;show wpAny _ _ (ret Value.none) _ _ _;refine wpAny_pure ⟨rfl,h',tk',rfl,fun b o e=>?_,hD'⟩
   have hb:=Heap.lt_size e;have hb1:b≠s.heap.objs.size:=Nat.ne_of_lt hb;have hb2:b≠(s.heap.push (freshSet (!byT w))).objs.size:=by rw [eI];exact Nat.ne_of_lt (Nat.lt_succ_of_lt hb)
   exact hm.heap b o (by simp only [List.mem_cons,List.mem_singleton,List.not_mem_nil,or_false,not_or];exact ⟨hb1,hb2⟩) (Heap.get?_push_of_some _ (Heap.get?_push_of_some _ e))
 ·rcases r₂ with e | fl₂
  ·exact hr₂
  rcases fl₂ with _ | _ | _ | r
  ·exact hr₂.elim
  ·exact hr₂.elim
  ·exact hr₂.elim
  obtain ⟨rfl,h',tk,rfl,hk',hD'⟩:=hr₂
  repeat (any_goals (first
   | assumption
   | wp_step))
  exact h _ _ hk' hD'
end
end PuT
namespace PuT
open PySem PySem.Spec PyProof.Rows
end PuT
namespace PuT
open PySem PySem.Spec PyProof.Rows
def b2 (b:Bool):Int:=if b then 1 else 0
section
variable {prog:Program} {w:World} {A:Around} {E:Value->Shared->Prop} {s:Shared} {a:Addr}
def bitsUp (z o:Bool):List Int:=(if z then [0] else [])++(if o then [1] else [])
end
end PuT
namespace Pu
open PySem PySem.Spec PyProof.Rows L2 PuT
def bitOf:PV->Option Bool
 | .int i=>if i=0 then some false else if i=1 then some true else none
 | _=>none
def bitsOf:List PV->Option (List Bool)
 | []=>some []
 | v::vs=>(bitOf v).bind fun b=>(bitsOf vs).map (b::·)
def srtSetF:PV->Res PV
 | .lst vs=>(optR (bitsOf vs)).bind fun bs=>.ok (.lst ((bitsUp (bs.contains false) (bs.contains true)).map PV.int))
 | _=>.bad
def eSrtSet (d:De):De:=fun ρ=>(d ρ).bind srtSetF
theorem boot_set:bootBuiltins "set" = some (.type "set"):=by decide
theorem ints_rep {K:PySem.W.Frag} {H:Hp}:∀ {ns:List Int} {xs:List V} {us:List Value},Reps K H (ns.map PV.int) xs->Vals xs us->IntsAre us ns
 | [],xs,us,r,q=>by
  obtain rfl:=Reps.nil.mp r;cases q;exact .nil
 | n::ns,xs,us,r,q=>by
  obtain ⟨x,t,rfl,r1,r2⟩:=Reps.cons.mp r;obtain rfl:=Rep.int.mp r1;cases q with
  | cons q1 q2 =>
   obtain ⟨t,rfl⟩:=q1;exact .cons n t (ints_rep r2 q2)
@[simp] theorem r_srtSet {d:De} {ρ:En}:eSrtSet d ρ=(d ρ).bind srtSetF:=(rfl)
end Pu
namespace PuT
open PySem SetTable
theorem below_go (xs:Array Nat) (j:Nat) (mono:∀ a b,a<=b->b<xs.size->xs.getD a j<=xs.getD b j):∀ fuel lo hi,hi<=xs.size->lo<=hi->hi-lo<=fuel->(∀ i,i<lo->xs.getD i j<j)->(∀ i,hi<=i->i<xs.size->j<=xs.getD i j) ->
  below.go xs j fuel lo hi<=xs.size/\(∀ i,i<below.go xs j fuel lo hi->xs.getD i j<j)/\(∀ i,below.go xs j fuel lo hi<=i->i<xs.size->j<=xs.getD i j)
 | 0,lo,hi,h1,h2,h3,a,b=>by
  unfold below.go;exact ⟨by omega,a,fun i h=>b i (by omega)⟩
 | fuel+1,lo,hi,h1,h2,h3,a,b=>by
  unfold below.go
  by_cases hl:lo<hi
  ·rw [if_pos hl];dsimp only
   by_cases hm:xs.getD ((lo+hi)/2) j<j
   ·rw [if_pos hm];refine below_go xs j mono fuel _ _ h1 (by omega) (by omega) (fun i hi'=>?_) b;exact Nat.lt_of_le_of_lt (mono i _ (by omega) (by omega)) hm
   ·rw [if_neg hm];refine below_go xs j mono fuel _ _ (by omega) (by omega) (by omega) a fun i hi' hs=>?_
    exact Nat.le_trans (Nat.le_of_not_lt hm) (mono _ i hi' hs)
  ·rw [if_neg hl];exact ⟨by omega,a,fun i h=>b i (by omega)⟩
theorem getD_of {l:List Nat} {i d:Nat} (h:i<l.length):l.toArray.getD i d=l[i]:=by simp [h]
theorem below_spec (l:List Nat) (hr:l.Pairwise (·<·)) (j:Nat):below l.toArray j<=l.length/\(∀ i (h:i<l.length),i<below l.toArray j->l[i]<j)/\(∀ i (h:i<l.length),below l.toArray j<=i->j<=l[i]):=by
 have mono:∀ a b,a<=b->b<l.toArray.size->l.toArray.getD a j<=l.toArray.getD b j:=fun a b h1 h2=>by
  have hb:b<l.length:=by simpa using h2
  rw [getD_of hb,getD_of (Nat.lt_of_le_of_lt h1 hb)]
  rcases Nat.eq_or_lt_of_le h1 with rfl | h
  ·exact Nat.le_refl _
  ·exact Nat.le_of_lt (List.pairwise_iff_getElem.mp hr a b _ hb h)
 have:=below_go l.toArray j mono l.toArray.size 0 l.toArray.size (Nat.le_refl _) (Nat.zero_le _) (by omega) (fun i h=>absurd h (Nat.not_lt_zero _)) (fun i h1 h2=>by omega)
 have e:below l.toArray j=below.go l.toArray j l.toArray.size 0 l.toArray.size:=rfl;rw [<- e] at this;obtain ⟨p1,p2,p3⟩:=this;refine ⟨by simpa using p1,fun i h hb=>?_,fun i h hb=>?_⟩
 ·have:=p2 i hb;rwa [getD_of h] at this
 ·have:=p3 i hb (by simpa using h);rwa [getD_of h] at this
theorem slot_live (t:SetTable) (l:List Nat) (hp:t.place=l.toArray) (hr:l.Pairwise (·<·)) {i j:Nat} (h:l[i]?=some j):t.slot j=.live i:=by
 obtain ⟨hi,e⟩:=List.getElem?_eq_some_iff.mp h;obtain ⟨b1,b2,b3⟩:=below_spec l hr j;have hb:below l.toArray j=i:=by
  rcases Nat.lt_trichotomy (below l.toArray j) i with q | q | q
  ·have h1:=b3 (below l.toArray j) (by omega) (Nat.le_refl _);have h2:=List.pairwise_iff_getElem.mp hr (below l.toArray j) i (by omega) hi q;omega
  ·exact q
  ·have:=b2 i hi q;omega
 unfold SetTable.slot;rw [hp];dsimp only;rw [hb];simp [h]
theorem slot_empty (t:SetTable) (l:List Nat) (hp:t.place=l.toArray) (hd:t.dummies=#[]) {j:Nat} (h:j∉l):t.slot j=.empty:=by
 unfold SetTable.slot;rw [hp];dsimp only;have h1:(l.toArray[below l.toArray j]?==some j)=false:=by
  cases q:l.toArray[below l.toArray j]? with
  | none=>rfl
  | some v =>
   have:v∈l:=by
    rw [List.getElem?_toArray] at q;exact List.mem_of_getElem? q
   have hne:v≠j:=fun z=>h (z ▸ this)
   simp [hne]
 have h2:SetTable.has t.dummies j=false:=by rw [hd];unfold SetTable.has;simp
 rw [h1,h2];rfl
theorem put_place (l:List Nat) (hr:l.Pairwise (·<·)) {j:Nat} (h:j∉l):((l.take (below l.toArray j))++j::l.drop (below l.toArray j)).Pairwise (·<·):=by
 obtain ⟨b1,b2,b3⟩:=below_spec l hr j;generalize below l.toArray j=p at *;have hd:∀ x∈l.drop p,j<x:=fun x hx=>by
  obtain ⟨k,hk,e⟩:=List.mem_iff_getElem.mp hx;rw [List.getElem_drop] at e;have:=b3 (p+k) (by simp at hk;omega) (by omega);have hm:x∈l:=List.mem_of_mem_drop hx;have:x≠j:=fun z=>h (z ▸ hm)
  omega
 have ht:∀ x∈l.take p,x<j:=fun x hx=>by
  obtain ⟨k,hk,e⟩:=List.mem_iff_getElem.mp hx;rw [List.getElem_take] at e;have:=b2 k (by simp at hk;omega) (by simp at hk;omega);omega
 rw [List.pairwise_append];refine ⟨hr.sublist (List.take_sublist _ _),List.pairwise_cons.mpr ⟨hd,hr.sublist (List.drop_sublist _ _)⟩,fun x hx y hy=>?_⟩
 rcases List.mem_cons.mp hy with rfl | hy
 ·exact ht x hx
 ·exact Nat.lt_trans (ht x hx) (hd y hy)
def pstep (mask:Nat) (p:Probe):Probe:=if p.more>0 then {p with j:=p.j+1,more:=p.more-1} else
 {p with j:=(leap mask p.i p.perturb).1,more:=runEnd mask (leap mask p.i p.perturb).1-(leap mask p.i p.perturb).1,i:=(leap mask p.i p.perturb).1,perturb:=(leap mask p.i p.perturb).2}
theorem advance_eq (t:SetTable) (p:Probe):t.advance p=pstep t.mask p:=by unfold SetTable.advance pstep;rfl
def runAt (mask i pert:Nat):Probe:={j:=i,more:=runEnd mask i-i,i:=i,perturb:=pert,dummy:=none}
def path (mask:Nat) (h:Int):Nat->Probe
 | 0=>runAt mask (bits h % (mask+1)) (bits h)
 | m+1=>pstep mask (path mask h m)
theorem run_le (mask i:Nat):runEnd mask i-i<=9:=by unfold runEnd;split<;>omega
theorem path_run {mask:Nat} {h:Int} {m i pert:Nat} (e:path mask h m=runAt mask i pert):∀ k,k<=runEnd mask i-i->path mask h (m+k)={j:=i+k,more:=runEnd mask i-i-k,i:=i,perturb:=pert,dummy:=none}
 | 0,_=>by rw [Nat.add_zero,e];rfl
 | k+1,hk=>by
  have:=path_run e k (by omega);show pstep mask (path mask h (m+k))=_;rw [this];unfold pstep;dsimp only;rw [if_pos (show runEnd mask i-i-k>0 by omega)];simp only [Probe.mk.injEq,and_true];exact ⟨by omega,by omega⟩
theorem path_leap {mask:Nat} {h:Int} {m i pert:Nat} (e:path mask h m=runAt mask i pert):path mask h (m+(runEnd mask i-i)+1)=runAt mask (leap mask i pert).1 (leap mask i pert).2:=by
 have:=path_run e (runEnd mask i-i) (Nat.le_refl _);show pstep mask (path mask h (m+(runEnd mask i-i)))=_;rw [this];unfold pstep runAt;dsimp only;rw [if_neg (by omega)]
def lp (mask:Nat) (h:Int):Nat->Nat×Nat
 | 0=>(bits h % (mask+1),bits h)
 | r+1=>leap mask (lp mask h r).1 (lp mask h r).2
theorem path_lp (mask:Nat) (h:Int):∀ r,∃ m,m<=10*r/\path mask h m=runAt mask (lp mask h r).1 (lp mask h r).2
 | 0=>⟨0,Nat.le_refl _,rfl⟩
 | r+1=>by
  obtain ⟨m,hm,e⟩:=path_lp mask h r;exact ⟨_,by have:=run_le mask (lp mask h r).1;omega,path_leap e⟩
theorem lp_lt (mask:Nat) (h:Int):∀ r,(lp mask h r).1<=mask
 | 0=>Nat.le_of_lt_succ (Nat.mod_lt _ (Nat.succ_pos _))
 | r+1=>Nat.le_of_lt_succ (Nat.mod_lt _ (Nat.succ_pos _))
theorem bits_lt (h:Int):bits h<2 ^ 64:=by
 unfold bits;have h1:=Int.emod_nonneg h (b:=(2 ^ 64:Int)) (by decide);have h2:=Int.emod_lt_of_pos h (b:=(2 ^ 64:Int)) (by decide);omega
theorem lp_pert (mask:Nat) (h:Int):∀ r,(lp mask h r).2=bits h/32 ^ r
 | 0=>by simp [lp]
 | r+1=>by
  show (lp mask h r).2/32=_;rw [lp_pert mask h r,Nat.div_div_eq_div_mul,Nat.pow_succ]
theorem pert_zero (mask:Nat) (h:Int) {r:Nat} (hr:13<=r):(lp mask h r).2=0:=by
 rw [lp_pert];refine Nat.div_eq_of_lt (Nat.lt_of_lt_of_le (bits_lt h) ?_);have:(2:Nat) ^ 64<=32 ^ 13:=by decide
 exact Nat.le_trans this (Nat.pow_le_pow_right (by decide) hr)
def turn (mask i:Nat):Nat:=(i*5+1) % (mask+1)
def turnsN (mask:Nat):Nat->Nat->Nat
 | 0,i=>i
 | q+1,i=>turn mask (turnsN mask q i)
theorem lp_turn (mask:Nat) (h:Int):∀ q,(lp mask h (13+q)).1=turnsN mask q (lp mask h 13).1
 | 0=>rfl
 | q+1=>by
  show (leap mask (lp mask h (13+q)).1 (lp mask h (13+q)).2).1=_;rw [pert_zero mask h (r:=13+q) (by omega),lp_turn mask h q];show (_*5+1+0/32) % (mask+1)=_;simp [turnsN,turn]
theorem turnsN_add (mask:Nat) (i:Nat):∀ a b,turnsN mask (a+b) i=turnsN mask a (turnsN mask b i)
 | 0,b=>by simp [turnsN]
 | a+1,b=>by
  rw [Nat.add_right_comm];show turn mask (turnsN mask (a+b) i)=_;rw [turnsN_add mask i a b];rfl
def masks:List Nat:=[7,31,127,511]
def orB (mask:Nat):Nat->Nat->Nat->Nat
 | 0,_,acc=>acc
 | n+1,i,acc=>orB mask n (turn mask i) (acc ||| (1 <<< i))
theorem or_bit (mask e:Nat):∀ (n i acc:Nat),(orB mask n i acc).testBit e=true->acc.testBit e=true\/∃ q,q<n/\turnsN mask q i=e
 | 0,i,acc,h=>.inl h
 | n+1,i,acc,h=>by
  rcases or_bit mask e n _ _ h with h1 | ⟨q,hq,e1⟩
  ·rw [Nat.testBit_or,Bool.or_eq_true] at h1
   rcases h1 with h1 | h1
   ·exact .inl h1
   ·right
    refine ⟨0,Nat.succ_pos _,?_⟩;rw [Nat.shiftLeft_eq,Nat.one_mul,Nat.testBit_two_pow] at h1;have h2:i=e:=by simpa using h1
    exact h2
  ·right
   refine ⟨q+1,by omega,?_⟩;rw [turnsN_add];exact e1
theorem cyc:∀ mask∈masks,turnsN mask (mask+1) 0=0/\∀ e,e<=mask->∃ q,q<=mask/\turnsN mask q 0=e:=by
 have key:∀ mask,turnsN mask (mask+1) 0=0->orB mask (mask+1) 0 0=2 ^ (mask+1)-1->turnsN mask (mask+1) 0=0/\∀ e,e<=mask->∃ q,q<=mask/\turnsN mask q 0=e:=fun mask h1 h2=>by
  refine ⟨h1,fun e he=>?_⟩
  have hb:(orB mask (mask+1) 0 0).testBit e=true:=by rw [h2,Nat.testBit_two_pow_sub_one];exact decide_eq_true (by omega)
  rcases or_bit mask e _ _ _ hb with z | ⟨q,hq,e1⟩
  ·simp at z
  ·exact ⟨q,by omega,e1⟩
 intro mask hm;simp only [masks,List.mem_cons,List.not_mem_nil,or_false] at hm
 rcases hm with rfl | rfl | rfl | rfl
 ·exact key 7 (by decide +kernel) (by decide +kernel)
 ·exact key 31 (by decide +kernel) (by decide +kernel)
 ·exact key 127 (by decide +kernel) (by decide +kernel)
 ·exact key 511 (by decide +kernel) (by decide +kernel)
theorem cover {mask:Nat} (hm:mask∈masks) {i e:Nat} (hi:i<=mask) (he:e<=mask):∃ q,q<=mask/\turnsN mask q i=e:=by
 obtain ⟨h0,h1⟩:=cyc mask hm;obtain ⟨a,ha,e1⟩:=h1 i hi;obtain ⟨b,hb,e2⟩:=h1 e he
 by_cases hab:a<=b
 ·refine ⟨b-a,by omega,?_⟩;rw [<- e1,<- turnsN_add,show b-a+a=b by omega,e2]
 ·refine ⟨mask+1-a+b,by omega,?_⟩;rw [<- e1,<- turnsN_add,show mask+1-a+b+a=b+(mask+1) by omega,turnsN_add,h0,e2]
theorem lp_cover {mask:Nat} (hm:mask∈masks) (h:Int) {e:Nat} (he:e<=mask):∃ r,r<=mask+13/\(lp mask h r).1=e:=by
 obtain ⟨q,hq,e1⟩:=cover hm (lp_lt mask h 13) he;exact ⟨13+q,by omega,(lp_turn mask h q).trans e1⟩
theorem least {P:Nat->Prop} (dec:∀ m,P m\/¬ P m):∀ m0,P m0->∃ m,m<=m0/\P m/\∀ m',m'<m->¬ P m'
 | m0,h=>by
  induction m0 using Nat.strongRecOn with
  | _ m0 ih =>
   by_cases z:∃ m',m'<m0/\P m'
   ·obtain ⟨m',h1,h2⟩:=z;obtain ⟨m,a,b,c⟩:=ih m' h1 h2;exact ⟨m,by omega,b,c⟩
   ·exact ⟨m0,Nat.le_refl _,h,fun m' h1 h2=>z ⟨m',h1,h2⟩⟩
theorem len_le:∀ {l m:List Nat},l.Nodup->(∀ x∈l,x∈m)->l.length<=m.length
 | [],m,_,_=>Nat.zero_le _
 | a::l,m,nd,s=>by
  have nd':=List.nodup_cons.mp nd;have ha:=s a (List.mem_cons_self);have:=len_le (l:=l) (m:=m.erase a) nd'.2 fun x hx=>(List.mem_erase_of_ne (fun z:x=a=>nd'.1 (by rw [<- z];exact hx))).mpr (s x (List.mem_cons_of_mem _ hx))
  rw [List.length_erase_of_mem ha] at this;have:=List.length_pos_of_mem ha;simp only [List.length_cons];omega
theorem path_le (mask:Nat) (h:Int) (m:Nat):(path mask h m).j+(path mask h m).more<=mask:=by
 have runle:∀ i,i<=mask->i+(runEnd mask i-i)<=mask:=fun i hi=>by unfold runEnd;split<;>omega
 induction m with
 | zero =>
  exact runle _ (Nat.le_of_lt_succ (Nat.mod_lt _ (Nat.succ_pos _)))
 | succ m ih =>
  show (pstep mask (path mask h m)).j+(pstep mask (path mask h m)).more<=mask;unfold pstep
  split
  ·dsimp only;omega
  ·dsimp only;exact runle _ (Nat.le_of_lt_succ (Nat.mod_lt _ (Nat.succ_pos _)))
theorem first_empty {mask:Nat} (hm:mask∈masks) (h:Int) {l:List Nat} (nd:l.Nodup) (hl:l.length<=mask):∃ m,m<=10*(mask+13)/\(path mask h m).j∉l/\(path mask h m).j<=mask/\∀ m',m'<m->(path mask h m').j∈l:=by
 have hex:∃ e,e<=mask/\e∉l:=by
  by_cases z:∃ e,e<=mask/\e∉l
  ·exact z
  ·exfalso
   have sub:∀ e∈List.range (mask+1),e∈l:=fun e he=>by
    by_cases q:e∈l
    ·exact q
    ·exact absurd ⟨e,by have:=List.mem_range.mp he;omega,q⟩ z
   have:=len_le (List.nodup_range (n:=mask+1)) sub;rw [List.length_range] at this;omega
 obtain ⟨e,he,hn⟩:=hex;obtain ⟨r,hr,e1⟩:=lp_cover hm h he;obtain ⟨m,h1,h2⟩:=path_lp mask h r;obtain ⟨m2,a,b,c⟩:=least (P:=fun m=>(path mask h m).j∉l) (fun m=>Decidable.em _) m (by rw [h2];show (lp mask h r).1∉l;rw [e1];exact hn)
 have hle:∀ m,(path mask h m).j<=mask:=fun m=>by have:=path_le mask h m;omega
 exact ⟨m2,by omega,b,hle m2,fun m' hm'=>Decidable.of_not_not (c m' hm')⟩
end PuT
namespace PuT
open PySem SetTable
def WP (occ:Nat->Prop) (mask:Nat) (h:Int) (j:Nat):Prop:=∃ m,(path mask h m).j=j/\∀ m',m'<m->occ (path mask h m').j
theorem WP.mono {occ occ':Nat->Prop} {mask:Nat} {h:Int} {j:Nat} (x:WP occ mask h j) (k:∀ i,occ i->occ' i):WP occ' mask h j:=let ⟨m,a,b⟩:=x;⟨m,a,fun m' hm=>k _ (b m' hm)⟩
structure Tb (t:SetTable) (es:Array (Int×Value)) (pl:List (Nat×(Int×Value))):Prop where
 place:t.place=(pl.map (·.1)).toArray
 es:es=(pl.map (·.2)).toArray
 dum:t.dummies=#[]
 rise:(pl.map (·.1)).Pairwise (·<·)
 msk:t.mask∈masks
 le:∀ p∈pl,p.1<=t.mask
 full:pl.length*5<t.mask*3
 way:∀ p∈pl,WP (·∈pl.map (·.1)) t.mask p.2.1 p.1
section
variable {t:SetTable} {es:Array (Int×Value)} {pl:List (Nat×(Int×Value))}
theorem Tb.fits (x:Tb t es pl):t.fits es.size=true:=by
 have:=x.full;have h2:t.mask<512:=by have:=x.msk;simp only [masks,List.mem_cons,List.not_mem_nil,or_false] at this;omega
 simp only [SetTable.fits,SetTable.fill,x.place,x.es,x.dum,Bool.and_eq_true,beq_iff_eq,decide_eq_true_eq];refine ⟨by simp,?_⟩;simp;omega
theorem Tb.odd (x:Tb t es pl):t.gaveWay=false:=by
 have:=x.msk;simp only [masks,List.mem_cons,List.not_mem_nil,or_false] at this;unfold SetTable.gaveWay
 rcases this with h | h | h | h<;>rw [h]<;>rfl
theorem Tb.nodup (x:Tb t es pl):(pl.map (·.1)).Nodup:=x.rise.imp fun h=>Nat.ne_of_lt h
theorem Tb.empty (x:Tb t es pl) (h:Int):∃ m,m<=10*(t.mask+13)/\(path t.mask h m).j∉pl.map (·.1)/\(path t.mask h m).j<=t.mask/\∀ m',m'<m->(path t.mask h m').j∈pl.map (·.1) :=
 first_empty x.msk h x.nodup (by rw [List.length_map];have:=x.full;omega)
theorem Tb.live (x:Tb t es pl) {i:Nat} {p:Nat×(Int×Value)} (h:pl[i]?=some p):t.slot p.1=.live i/\es[i]?=some p.2/\t.place[i]?=some p.1:=by
 refine ⟨slot_live t _ x.place x.rise (by rw [List.getElem?_map,h];rfl),?_,?_⟩
 ·rw [x.es,List.getElem?_toArray,List.getElem?_map,h];rfl
 ·rw [x.place,List.getElem?_toArray,List.getElem?_map,h];rfl
theorem Tb.off (x:Tb t es pl) {j:Nat} (h:j∉pl.map (·.1)):t.slot j=.empty:=slot_empty t _ x.place x.dum h
theorem Tb.probe (x:Tb t es pl) (h:Int) {m0:Nat} (hf:(path t.mask h m0).j∉pl.map (·.1)) (ho:∀ m',m'<m0->(path t.mask h m').j∈pl.map (·.1)) (ha:Nat->Int) (hha:∀ i p,pl[i]?=some p->ha i=p.2.1) :
  ∀ (d m fuel:Nat),m0-m=d->m<=m0->d<fuel ->
   (SetTable.probe.go t ha h fuel (path t.mask h m)=some (.empty (path t.mask h m0).j none)/\∀ m',m<=m'->m'<m0->∀ (i:Nat) p,pl[i]?=some p->p.1=(path t.mask h m').j->p.2.1≠h)
   \/ ∃ m1 i p,m<=m1/\m1<m0/\pl[i]?=some p/\p.1=(path t.mask h m1).j/\p.2.1=h/\SetTable.probe.go t ha h fuel (path t.mask h m)=some (.candidate (path t.mask h m1).j i (path t.mask h (m1+1)))
    /\ ∀ m',m<=m'->m'<m1->∀ (i:Nat) p,pl[i]?=some p->p.1=(path t.mask h m').j->p.2.1≠h
 | d,m,0,hd,hm,hfu=>absurd hfu (Nat.not_lt_zero _)
 | 0,m,fuel+1,hd,hm,hfu=>by
  obtain rfl:m=m0:=by omega
  left
  refine ⟨?_,fun m' h1 h2=>by omega⟩
  unfold SetTable.probe.go;rw [x.off hf];have dn:∀ m,(path t.mask h m).dummy=none:=fun m=>by
   induction m with
   | zero=>rfl
   | succ m ih=>show (pstep _ _).dummy=none;unfold pstep;split<;>exact ih
  dsimp only;rw [dn]
 | d+1,m,fuel+1,hd,hm,hfu=>by
  have hmem:=ho m (by omega);obtain ⟨p,hp,e⟩:=List.mem_map.mp hmem;obtain ⟨i,hi⟩:=List.mem_iff_getElem?.mp hp;have uniq:∀ (i':Nat) p',pl[i']?=some p'->p'.1=(path t.mask h m).j->p'=p:=fun i' p' h1 h2=>by
   have s1:=(x.live h1).1;have s2:=(x.live hi).1;rw [h2] at s1;rw [e] at s2;rw [s1] at s2;have e3:i'=i:=by cases s2;rfl
   subst e3;rw [hi] at h1;exact (Option.some.inj h1).symm
  unfold SetTable.probe.go;rw [<- e,(x.live hi).1];dsimp only
  by_cases hq:(ha i==h)=true
  ·rw [if_pos hq]
   right
   have hh:p.2.1=h:=by rw [<- hha i p hi];exact beq_iff_eq.mp hq
   refine ⟨m,i,p,Nat.le_refl _,by omega,hi,e,hh,?_,fun m' h1 h2=>by omega⟩
   rw [advance_eq,e];rfl
  ·rw [if_neg hq];have hh:p.2.1≠h:=fun z=>hq (by rw [hha i p hi,z];simp)
   rw [advance_eq];have step:pstep t.mask (path t.mask h m)=path t.mask h (m+1):=rfl;rw [step]
   rcases Tb.probe x h hf ho ha hha d (m+1) fuel (by omega) (by omega) (by omega) with ⟨a,b⟩ | ⟨m1,i1,p1,a1,a2,a3,a4,a5,a6,a7⟩
   ·refine .inl ⟨a,fun m' h1 h2 i' p' hp' he=>?_⟩
    rcases Nat.eq_or_lt_of_le h1 with rfl | h1
    ·rw [uniq i' p' hp' he];exact hh
    ·exact b m' h1 h2 i' p' hp' he
   ·refine .inr ⟨m1,i1,p1,by omega,a2,a3,a4,a5,a6,fun m' h1 h2 i' p' hp' he=>?_⟩
    rcases Nat.eq_or_lt_of_le h1 with rfl | h1
    ·rw [uniq i' p' hp' he];exact hh
    ·exact a7 m' h1 h2 i' p' hp' he
theorem Tb.put (x:Tb t es pl) {h:Int} {v:Value} {j:Nat} (hj:j∉pl.map (·.1)) (hle:j<=t.mask) (hw:WP (·∈pl.map (·.1)) t.mask h j) (b:Bool) (hf:(pl.length+1)*5<t.mask*3) :
  Tb {(t.put j).1 with plain:=b} (SetTable.insertAt es (t.put j).2 (h,v)) (pl.take (below t.place j)++(j,(h,v))::pl.drop (below t.place j)):=by
 have hd:SetTable.has t.dummies j=false:=by rw [x.dum];unfold SetTable.has;simp
 have hp:(t.put j).2=below t.place j:=rfl;have hpl:(t.put j).1.place=SetTable.insertAt t.place (below t.place j) j:=rfl;have hmem:∀ i,i∈(pl.take (below t.place j)++(j,(h,v))::pl.drop (below t.place j)).map (·.1)↔i∈pl.map (·.1)\/i=j:=fun i=>by
  have e:pl.map (·.1)=(pl.take (below t.place j)).map (·.1)++(pl.drop (below t.place j)).map (·.1):=by rw [<- List.map_append,List.take_append_drop]
  rw [e,List.map_append,List.map_cons,List.mem_append,List.mem_cons,List.mem_append]
  constructor
  ·rintro (a | a | a)
   ·exact .inl (.inl a)
   ·exact .inr a
   ·exact .inl (.inr a)
  ·rintro ((a | a) | a)
   ·exact .inl a
   ·exact .inr (.inr a)
   ·exact .inr (.inl a)
 have rs:=put_place (pl.map (·.1)) x.rise hj;rw [<- x.place] at rs;refine ⟨?_,?_,?_,?_,x.msk,fun p hp=>?_,?_,fun p hp=>?_⟩
 ·show SetTable.insertAt t.place (below t.place j) j=_;apply Array.toList_inj.mp;rw [SetTable.toList_insertAt,List.map_append,List.map_cons,List.map_take,List.map_drop];rw [show t.place.toList=pl.map (·.1) by rw [x.place]]
 ·rw [hp];apply Array.toList_inj.mp;rw [SetTable.toList_insertAt,List.map_append,List.map_cons,List.map_take,List.map_drop];rw [show es.toList=pl.map (·.2) by rw [x.es]]
 ·show (if SetTable.has t.dummies j then _ else t.dummies)=#[];rw [hd];exact x.dum
 ·rw [List.map_append,List.map_cons,List.map_take,List.map_drop];exact rs
 ·rcases List.mem_append.mp hp with z | z
  ·exact x.le p (List.mem_of_mem_take z)
  ·rcases List.mem_cons.mp z with rfl | z
   ·exact hle
   ·exact x.le p (List.mem_of_mem_drop z)
 ·rw [List.length_append,List.length_cons,List.length_take,List.length_drop];have:=x.full;show _<t.mask*3;omega
 ·have old:∀ p∈pl,WP (·∈(pl.take (below t.place j)++(j,(h,v))::pl.drop (below t.place j)).map (·.1)) t.mask p.2.1 p.1:=fun p hp=>(x.way p hp).mono fun i hi=>(hmem i).mpr (.inl hi)
  rcases List.mem_append.mp hp with z | z
  ·exact old p (List.mem_of_mem_take z)
  ·rcases List.mem_cons.mp z with rfl | z
   ·exact hw.mono fun i hi=>(hmem i).mpr (.inl hi)
   ·exact old p (List.mem_of_mem_drop z)
end
end PuT
namespace PuT
open PySem SetTable
def Own (mask:Nat) (owner:Array (Option Nat)) (js:List Nat):Prop:=owner.size=mask+1/\∀ j,j<=mask->owner[j]?=some (if j∈js then some (js.idxOf j) else none)
theorem own_free {mask:Nat} {owner:Array (Option Nat)} {js:List Nat} (o:Own mask owner js) {j:Nat} (hj:j<=mask):(owner.getD j (some 0)).isNone=decide (j∉js):=by
 have:=o.2 j hj;have hs:j<owner.size:=by rw [o.1];omega
 rw [Array.getElem?_eq_getElem hs] at this;have e:=Option.some.inj this;simp only [Array.getD,hs,dite_true,Array.getInternal_eq_getElem,e]
 by_cases q:j∈js<;>simp [q]
theorem free_ok {mask:Nat} {h:Int} {owner:Array (Option Nat)} {js:List Nat} (o:Own mask owner js) {r0:Nat} (hr0:(lp mask h r0).1∉js):∀ (d r fuel m:Nat),r0-r=d->r<=r0->d<fuel->path mask h m=runAt mask (lp mask h r).1 (lp mask h r).2 ->
  (∀ m',m'<m->(path mask h m').j∈js)->∃ m1,layClean.free mask owner fuel (lp mask h r).1 (lp mask h r).2=some (path mask h m1).j/\(path mask h m1).j∉js/\∀ m',m'<m1->(path mask h m').j∈js
 | d,r,0,m,_,_,hf,_,_=>absurd hf (Nat.not_lt_zero _)
 | d,r,fuel+1,m,hd,hr,hf,e,ho=>by
  have hle:=path_le mask h;have inRun:∀ k,k<=runEnd mask (lp mask h r).1-(lp mask h r).1->(path mask h (m+k)).j=(lp mask h r).1+k/\(lp mask h r).1+k<=mask:=fun k hk=>by
   have e1:=path_run e k hk;have:=hle (m+k);rw [e1] at this ⊢;exact ⟨rfl,by dsimp only at this;omega⟩
  have hre:(lp mask h r).1<=runEnd mask (lp mask h r).1:=by unfold runEnd;split<;>omega
  unfold layClean.free;cases hq:(List.range (runEnd mask (lp mask h r).1+1-(lp mask h r).1)).find? fun k=>(owner.getD ((lp mask h r).1+k) (some 0)).isNone with
  | some k =>
   obtain ⟨p1,p2,p3⟩:=List.find?_range_eq_some.mp hq;have hk:k<=runEnd mask (lp mask h r).1-(lp mask h r).1:=by have:=List.mem_range.mp p2;omega
   obtain ⟨q1,q2⟩:=inRun k hk;refine ⟨m+k,?_,?_,fun m' hm'=>?_⟩
   ·rw [q1]
   ·rw [own_free o q2] at p1;rw [q1];exact of_decide_eq_true p1
   ·by_cases z:m'<m
    ·exact ho m' z
    ·obtain ⟨k',rfl⟩:∃ k',m'=m+k':=⟨m'-m,by omega⟩;obtain ⟨q3,q4⟩:=inRun k' (by omega);have:=p3 k' (by omega);rw [own_free o q4] at this;rw [q3];simpa using this
  | none =>
   have hn:=List.find?_eq_none.mp hq;have occ:∀ k,k<=runEnd mask (lp mask h r).1-(lp mask h r).1->(path mask h (m+k)).j∈js:=fun k hk=>by
    obtain ⟨q1,q2⟩:=inRun k hk;have:=hn k (List.mem_range.mpr (by omega));rw [own_free o q2] at this;rw [q1];simpa using this
   have hne:r≠r0:=fun z=>by
    have:=occ 0 (Nat.zero_le _);rw [(inRun 0 (Nat.zero_le _)).1,Nat.add_zero,z] at this;exact hr0 this
   have:=free_ok o hr0 (d-1) (r+1) fuel (m+(runEnd mask (lp mask h r).1-(lp mask h r).1)+1) (by omega) (by omega) (by omega) (path_leap e) fun m' hm'=>by
    by_cases z:m'<m
    ·exact ho m' z
    ·obtain ⟨k',rfl⟩:∃ k',m'=m+k':=⟨m'-m,by omega⟩;exact occ k' (by omega)
   exact this
theorem free_some {mask:Nat} (hm:mask∈masks) (h:Int) {owner:Array (Option Nat)} {js:List Nat} (o:Own mask owner js) (nd:js.Nodup) (hl:js.length<=mask):∃ j,layClean.free mask owner (turns mask) (bits h % (mask+1)) (bits h)=some j/\j∉js/\j<=mask/\WP (·∈js) mask h j:=by
 have hex:∃ e,e<=mask/\e∉js:=by
  by_cases z:∃ e,e<=mask/\e∉js
  ·exact z
  ·exfalso
   have:=len_le (List.nodup_range (n:=mask+1)) (m:=js) fun e he=>by
    by_cases q:e∈js
    ·exact q
    ·exact absurd ⟨e,by have:=List.mem_range.mp he;omega,q⟩ z
   rw [List.length_range] at this;omega
 obtain ⟨e,he,hn⟩:=hex;obtain ⟨r,hr,e1⟩:=lp_cover hm h he;obtain ⟨m1,a,b,c⟩:=free_ok (h:=h) o (r0:=r) (by rw [e1];exact hn) r 0 (turns mask) 0 (by omega) (Nat.zero_le _) (by unfold turns;omega) rfl (fun m' hm'=>absurd hm' (Nat.not_lt_zero _))
 exact ⟨_,a,b,by have:=path_le mask h m1;omega,m1,rfl,c⟩
theorem own_set {mask:Nat} {owner:Array (Option Nat)} {js:List Nat} (o:Own mask owner js) {j:Nat} (hj:j<=mask) (hn:j∉js):Own mask (owner.setIfInBounds j (some js.length)) (js++[j]):=by
 refine ⟨by simp [o.1],fun i hi=>?_⟩
 rw [Array.getElem?_setIfInBounds]
 by_cases q:j=i
 ·subst q;rw [if_pos rfl,if_pos (by rw [o.1];omega)];simp [List.idxOf_append,hn]
 ·rw [if_neg q,o.2 i hi]
  by_cases z:i∈js
  ·simp [z,List.idxOf_append]
  ·simp [z,Ne.symm q]
def layF (mask:Nat):Option (Array (Option Nat)×Nat)->Int->Option (Array (Option Nat)×Nat):=fun acc h=>do
 let (owner,k) <- acc
 let j <- layClean.free mask owner (turns mask) (bits h % (mask+1)) (bits h)
 pure (owner.setIfInBounds j (some k),k+1)
theorem lay_fold {mask:Nat} (hm:mask∈masks):∀ (hs:List Int) (js:List Nat) (owner:Array (Option Nat)),Own mask owner js->js.Nodup->(∀ j∈js,j<=mask)->js.length+hs.length<=mask ->
  ∃ js' owner',hs.foldl (layF mask) (some (owner,js.length))=some (owner',js.length+hs.length)/\Own mask owner' (js++js')/\js'.length=hs.length/\(js++js').Nodup/\(∀ j∈js++js',j<=mask)/\∀ i (h1:i<hs.length) (h2:i<js'.length),WP (·∈js++js') mask hs[i] js'[i]
 | [],js,owner,o,nd,hle,_=>⟨[],owner,rfl,by simpa using o,rfl,by simpa using nd,by simpa using hle,fun i h1=>by simp at h1⟩
 | h::hs,js,owner,o,nd,hle,hl=>by
  simp only [List.length_cons] at hl;obtain ⟨j,f1,f2,f3,f4⟩:=free_some hm h o nd (by omega);have o2:=own_set o f3 f2;have nd2:(js++[j]).Nodup:=by rw [List.nodup_append];exact ⟨nd,by simp,fun x hx y hy=>by simp at hy;rw [hy];exact fun z=>f2 (z ▸ hx)⟩
  obtain ⟨js',owner',a1,a2,a3,a4,a5,a6⟩:=lay_fold hm hs (js++[j]) _ o2 nd2 (fun i hi=>by
   rcases List.mem_append.mp hi with z | z
   ·exact hle i z
   ·simp at z;rw [z];exact f3) (by simp;omega)
  have ea:js++j::js'=js++[j]++js':=by simp
  refine ⟨j::js',owner',?_,by rw [ea];exact a2,by simp [a3],by rw [ea];exact a4,by rw [ea];exact a5,fun i h1 h2=>?_⟩
  ·rw [List.foldl_cons];have:layF mask (some (owner,js.length)) h=some (owner.setIfInBounds j (some js.length),(js++[j]).length):=by
    show (do let j <- layClean.free mask owner (turns mask) (bits h % (mask+1)) (bits h);pure (owner.setIfInBounds j (some js.length),js.length+1))=_
    rw [f1];simp
   rw [this,a1];simp only [List.length_append,List.length_cons,List.length_nil];congr 2;omega
  ·rw [ea];cases i with
   | zero=>exact f4.mono fun x hx=>List.mem_append_left _ (List.mem_append_left _ hx)
   | succ i=>exact a6 i (by simpa using h1) (by simpa using h2)
theorem own_none (mask:Nat):Own mask (Array.replicate (mask+1) none) []:=by
 refine ⟨by simp,fun j hj=>?_⟩
 simp [show j<mask+1 by omega]
end PuT
namespace PuT
open PySem SetTable
theorem layClean_eq (mask:Nat) (hashes:Array Int):layClean mask hashes=(hashes.toList.foldl (layF mask) (some (Array.replicate (mask+1) none,0))).map (·.1):=by
 unfold layClean;rw [<- Array.foldl_toList];rfl
theorem map_idx {α:Type} (es:List α) (d:α):∀ (js:List Nat),js.Nodup->js.length=es.length->js.map (fun j=>es.getD (js.idxOf j) d)=es:=fun js nd hl=>by
 apply List.ext_getElem
 ·simp [hl]
 ·intro i h1 h2;rw [List.getElem_map,nd.idxOf_getElem i (by simpa using h1)];simp [List.getD,h2]
theorem fm_congr {α β:Type} {f g:α->Option β}:∀ {l:List α},(∀ x∈l,f x=g x)->l.filterMap f=l.filterMap g
 | [],_=>rfl
 | a::l,h=>by
  rw [List.filterMap_cons,List.filterMap_cons,h a (List.mem_cons_self),fm_congr fun x hx=>h x (List.mem_cons_of_mem _ hx)]
theorem range_rise (n:Nat):(List.range n).Pairwise (·<·):=List.pairwise_lt_range
theorem laid_tb {mask:Nat} (hm:mask∈masks) (es:Array (Int×Value)) (hl:es.size*5<mask*3) (finger moves:Nat) (led plain:Bool):∃ order pl,laid mask finger moves led plain (es.map (·.1))=some ({mask:=mask,place:=(pl.map (·.1)).toArray,dummies:=#[],finger:=finger,led:=led,moves:=moves,plain:=plain},order)
  /\ order.filterMap (es[·]?)=(pl.map (·.2)).toArray/\Tb {mask:=mask,place:=(pl.map (·.1)).toArray,dummies:=#[],finger:=finger,led:=led,moves:=moves,plain:=plain} (pl.map (·.2)).toArray pl/\(pl.map (·.2)).Perm es.toList:=by
 obtain ⟨js,owner,a1,a2,a3,a4,a5,a6⟩:=lay_fold hm (es.map (·.1)).toList [] _ (own_none mask) List.nodup_nil (fun j h=>by cases h) (by simp;omega);simp only [List.nil_append] at a2 a4 a5 a6;have hjs:js.length=es.size:=by rw [a3];simp
 let L:=(List.range (mask+1)).filter fun j=>decide (j∈js)
 let g:Nat->Int×Value:=fun j=>es.toList.getD (js.idxOf j) (0,.none)
 have memL:∀ j,j∈L↔j∈js:=fun j=>by
  show j∈(List.range (mask+1)).filter _↔_;rw [List.mem_filter,List.mem_range,decide_eq_true_eq];exact ⟨fun z=>z.2,fun z=>⟨by have:=a5 j z;omega,z⟩⟩
 have riseL:L.Pairwise (·<·):=(range_rise _).filter _;have permL:L.Perm js:=(List.perm_ext_iff_of_nodup (riseL.imp fun h=>Nat.ne_of_lt h) a4).mpr memL;have liveE:(List.range (mask+1)).filterMap (fun j=>(owner.getD j none).map (j,·))=L.map fun j=>(j,js.idxOf j):=by
  show _=((List.range (mask+1)).filter _).map _;rw [<- List.filterMap_eq_filter,List.map_filterMap];apply fm_congr;intro j hj;have hj':j<=mask:=by have:=List.mem_range.mp hj;omega
  have:=a2.2 j hj';have hs:j<owner.size:=by rw [a2.1];omega
  rw [Array.getElem?_eq_getElem hs] at this;have e:=Option.some.inj this;have e2:owner.getD j none=if j∈js then some (js.idxOf j) else none:=by simp only [Array.getD,hs,dite_true,Array.getInternal_eq_getElem,e]
  rw [e2]
  by_cases q:j∈js<;>simp [q,Option.guard]
 refine ⟨((L.map fun j=>(j,js.idxOf j)).map (·.2)).toArray,L.map fun j=>(j,g j),?_,?_,⟨rfl,rfl,rfl,?_,hm,?_,?_,?_⟩,?_⟩
 ·unfold laid;rw [layClean_eq,show (0:Nat)=([]:List Nat).length from rfl,a1]
  simp only [Option.map_some,Option.bind_eq_bind,Option.bind_some,Option.pure_def,liveE];simp only [List.map_map];rfl
 ·rw [List.filterMap_toArray,List.map_map,List.map_map];congr 1;rw [List.filterMap_map,<- List.filterMap_eq_map];apply fm_congr;intro j hj;have hjj:=(memL j).mp hj;have hi:js.idxOf j<es.size:=by rw [<- hjs];exact List.idxOf_lt_length_of_mem hjj
  show es[js.idxOf j]?=some (g j);simp [g,List.getD,hi]
 ·simp only [List.map_map];have:L.map ((fun x:Nat×(Int×Value)=>x.1) ∘ fun j=>(j,g j))=L:=by
   conv=>rhs;rw [<- List.map_id L]
   rfl
  rw [this];exact riseL
 ·intro p hp;obtain ⟨j,hj,rfl⟩:=List.mem_map.mp hp;exact a5 j ((memL j).mp hj)
 ·rw [List.length_map,permL.length_eq,hjs];exact hl
 ·intro p hp;obtain ⟨j,hj,rfl⟩:=List.mem_map.mp hp;have hjj:=(memL j).mp hj;have hlt:=List.idxOf_lt_length_of_mem hjj;have w:=a6 (js.idxOf j) (by rw [<- a3];exact hlt) hlt;rw [List.getElem_idxOf hlt] at w;have hi:js.idxOf j<es.size:=by rw [<- hjs];exact hlt
  have e:(es.map (·.1)).toList[js.idxOf j]'(by rw [<- a3];exact hlt)=(g j).1:=by simp [g,List.getD,hi]
  rw [e] at w;refine w.mono fun i hi=>?_
  simp only [List.map_map,List.mem_map];exact ⟨i,(memL i).mpr hi,rfl⟩
 ·simp only [List.map_map];have e1:L.map ((fun x:Nat×(Int×Value)=>x.2) ∘ fun j=>(j,g j))=L.map g:=rfl
  rw [e1];refine (permL.map g).trans (List.Perm.of_eq ?_);exact map_idx es.toList _ js a4 (by rw [hjs];simp)
end PuT
namespace PuT
open PySem SetTable
section
variable {prog:Program} {w:World} {A:Around} {E:Value->Shared->Prop} {s:Shared}
abbrev TKey (prog:Program) (w:World) (h:Heap) (ks:List Int) (a:Addr):Prop:=IsTupleKey (intKind prog w) h ks a
theorem intKind_get {k:Int} {v:Value} (h:(intKind prog w).is k v=true):∃ t,v=Value.int k t:=Value.isInt_shape h
theorem items_int:∀ {ks:List Int} {vs:List Value},ItemsAre (intKind prog w) ks vs->∀ v∈vs,∃ i t,v=Value.int i t
 | _,_,.nil,v,h=>by cases h
 | _,_,.cons (k:=k) h1 h2,v,h=>by
  rcases List.mem_cons.mp h with rfl | h
  ·exact ⟨k,(intKind_get h1)⟩
  ·exact items_int h2 v h
theorem by_value {ks:List Int} {a:Addr} {Q:Bool->Shared->Prop} (hk:TKey prog w s.heap ks a) (h:Q true s):wpAny (model prog w) A (hashByValue 8 (.ref a)) Q E s:=by
 have hT:=hk.typeIs;obtain ⟨o,items,n,ho,_,hd,hi⟩:=hk;have hi:=items_int hi;unfold hashByValue;refine wpAny_bind (wpAny_specialOf hT PySem.F.slot_tuple_hash.lookup ?_);show wpAny _ _ (seqItems? (.ref a)>>=_) _ _ s;refine wpAny_bind (wpAny_seqItems ho hd ?_);refine wpAny_bind ?_;show wpAny _ _ (forIn items _ _) _ _ s;rw [<- Array.forIn_toList];refine wpAny_forIn_list _ (fun rest r s'=>r.1=none/\s'=s/\∀ v∈rest,∃ i t,v=Value.int i t) _ ?_ ?_ _ _ ⟨rfl,rfl,hi⟩
 ·rintro v rest r s' ⟨hr,rfl,hall⟩;obtain ⟨i,t,rfl⟩:=hall v List.mem_cons_self;have e:hashByValue 7 (.int i t)=pure true:=by unfold hashByValue;rfl
  rw [e];refine wpAny_bind (wpAny_pure ?_);simp only [Bool.not_true,Bool.false_eq_true,if_false];exact wpAny_pure ⟨rfl,rfl,fun u hu'=>hall u (List.mem_cons_of_mem _ hu')⟩
 ·rintro ⟨r1,r2⟩ s' ⟨hr,rfl,_⟩;simp only at hr;subst hr;exact wpAny_pure h
theorem no_class {ks:List Int} {a:Addr} {Q:Bool->Shared->Prop} (hk:TKey prog w s.heap ks a) (h:Q false s):wpAny (model prog w) A (ofAClassStatement 8 (.ref a)) Q E s:=by
 have hT:=hk.typeIs;obtain ⟨o,items,n,ho,_,hd,hi⟩:=hk;have hi:=items_int hi;unfold ofAClassStatement;refine wpAny_bind (wpAny_typeOf hT ?_);dsimp only;rw [if_pos (by decide)];refine wpAny_bind (wpAny_pure ?_);simp only [Bool.not_true,Bool.false_eq_true,if_false];refine wpAny_bind (wpAny_seqItems ho hd ?_);refine wpAny_bind ?_;show wpAny _ _ (forIn items _ _) _ _ s;rw [<- Array.forIn_toList];refine wpAny_forIn_list _ (fun rest r s'=>r.1=none/\s'=s/\∀ v∈rest,∃ i t,v=Value.int i t) _ ?_ ?_ _ _ ⟨rfl,rfl,hi⟩
 ·rintro v rest r s' ⟨hr,rfl,hall⟩;obtain ⟨i,t,rfl⟩:=hall v List.mem_cons_self;have e:ofAClassStatement 7 (.int i t)=pure false:=by unfold ofAClassStatement;rfl
  rw [e];refine wpAny_bind (wpAny_pure ?_);simp only [Bool.false_eq_true,if_false];exact wpAny_pure ⟨rfl,rfl,fun u hu'=>hall u (List.mem_cons_of_mem _ hu')⟩
 ·rintro ⟨r1,r2⟩ s' ⟨hr,rfl,_⟩;simp only at hr;subst hr;exact wpAny_pure h
theorem not_seen {kx:List Int} {ax:Addr} {Q:Bool->Shared->Prop} (hx:TKey prog w s.heap kx ax) (l:List Value) (hl:∀ v∈l,∃ a ks,v=.ref a/\TKey prog w s.heap ks a) (h:Q false s):wpAny (model prog w) A (searchCouldBeSeen (.ref ax) l) Q E s:=by
 unfold searchCouldBeSeen;refine wpAny_bind ?_;refine wpAny_forIn_list _ (fun rest r s'=>r.1=none/\s'=s/\∀ v∈rest,∃ a ks,v=.ref a/\TKey prog w s.heap ks a) _ ?_ ?_ _ _ ⟨rfl,rfl,hl⟩
 ·rintro v rest r s' ⟨hr,rfl,hall⟩;obtain ⟨a,ks,rfl,hk⟩:=hall v List.mem_cons_self;have nx:∀ u∈rest,∃ a ks,u=Value.ref a/\TKey prog w s'.heap ks a:=fun u hu=>hall u (List.mem_cons_of_mem _ hu)
  dsimp only
  split
  ·exact wpAny_pure ⟨rfl,rfl,nx⟩
  ·refine wpAny_bind (wpAny_eqIsQuiet_tuple hx ?_);simp only [Bool.not_true,Bool.false_eq_true,if_false];refine wpAny_bind (wpAny_eqIsQuiet_tuple hk ?_);simp only [Bool.not_true,Bool.false_eq_true,if_false];refine wpAny_bind (no_class hx ?_);simp only [Bool.false_eq_true,if_false];refine wpAny_bind (no_class hk ?_);simp only [Bool.false_eq_true,if_false];exact wpAny_pure ⟨rfl,rfl,nx⟩
 ·rintro ⟨r1,r2⟩ s' ⟨hr,rfl,_⟩;simp only at hr;subst hr;exact wpAny_pure h
end
end PuT
namespace PuT
open PySem SetTable
def El (prog:Program) (w:World) (h:Heap) (p:Nat×(Int×Value)) (ks:List Int):Prop:=∃ a,p.2=(tupleKeyHash (intKind prog w) ks,.ref a)/\TKey prog w h ks a
theorem El.uniq {prog:Program} {w:World} {h:Heap} {p:Nat×(Int×Value)} {k1 k2:List Int} (x:El prog w h p k1) (y:El prog w h p k2):k1=k2:=by
 obtain ⟨a,e1,t1⟩:=x;obtain ⟨b,e2,t2⟩:=y;rw [e1] at e2;cases (Prod.mk.inj e2).2;exact t1.inj t2
section
variable {prog:Program} {w:World} {A:Around} {E:Value->Shared->Prop} {s:Shared} {S:Addr} {t:SetTable} {es:Array (Int×Value)} {ep:Nat} {pl:List (Nat×(Int×Value))}
theorem same_self {a:Addr} {Q:Bool->Shared->Prop} (h:Q true s):wpAny (model prog w) A (isSame (.ref a) (.ref a)) Q E s:=by
 unfold isSame;dsimp only;rw [if_pos (by simp)];exact wpAny_pure h
theorem moves_same (t:SetTable):t.sameMemory t.moves t.mask=some true:=by unfold SetTable.sameMemory;rw [if_pos (by simp)]
theorem search {kx:List Int} {ax:Addr} {Q:SetFound->Shared->Prop} (hu:A.units<cLine) (st:SetAt s.heap S es ep t) (x:Tb t es pl) (hel:∀ p∈pl,∃ ks,El prog w s.heap p ks) (hx:TKey prog w s.heap kx ax)
  {m0:Nat} (hf:(path t.mask (tupleKeyHash (intKind prog w) kx) m0).j∉pl.map (·.1)) (ho:∀ m',m'<m0->(path t.mask (tupleKeyHash (intKind prog w) kx) m').j∈pl.map (·.1)) (hm0:m0<=10*(t.mask+13))
  (hin:(∃ p∈pl,El prog w s.heap p kx)->Q (.there none) s) (hout:(¬ ∃ p∈pl,El prog w s.heap p kx)->Q (.free (path t.mask (tupleKeyHash (intKind prog w) kx) m0).j false) s) :
  ∀ (d m fuel:Nat) (stand:Option Probe),m0-m=d->m<=m0->d<fuel->stand.getD (t.probeStart (tupleKeyHash (intKind prog w) kx))=path t.mask (tupleKeyHash (intKind prog w) kx) m ->
   (∀ m',m'<m->∀ (i:Nat) p,pl[i]?=some p->p.1=(path t.mask (tupleKeyHash (intKind prog w) kx) m').j->¬ El prog w s.heap p kx) ->
   wpAny (model prog w) A (setSearchFrom S (.ref ax) (tupleKeyHash (intKind prog w) kx) true fuel stand) Q E s
 | d,m,0,stand,_,_,hfu,_,_=>absurd hfu (Nat.not_lt_zero _)
 | d,m,fuel+1,stand,hd,hm,hfu,hst,hno=>by
  generalize hH:tupleKeyHash (intKind prog w) kx=hsh at *;unfold setSearchFrom;refine wpAny_bind (st_state st ?_);dsimp only;rw [x.odd];simp only [Bool.false_eq_true,if_false];rw [hst];have hprobe:∀ f,t.probe f hsh (path t.mask hsh m)=SetTable.probe.go t f hsh (10*turns t.mask) (path t.mask hsh m):=fun f=>rfl
  k_delta "storedHashAt"
  rw [hprobe];have hha:∀ (i:Nat) p,pl[i]?=some p->(es[i]?.map (·.1)).getD 0=p.2.1:=fun i p h=>by rw [(x.live h).2.1];rfl
  rcases x.probe hsh hf ho (fun i=>(es[i]?.map (·.1)).getD 0) hha (m0-m) m (10*turns t.mask) rfl hm (by unfold turns;omega) with ⟨e,hall⟩ | ⟨m1,i,p,a1,a2,a3,a4,a5,e,a7⟩
  ·rw [e];dsimp only;refine wpAny_pure (hout ?_);rintro ⟨p,hp,el⟩;obtain ⟨i,hi⟩:=List.mem_iff_getElem?.mp hp;obtain ⟨mk,w1,w2⟩:=x.way p hp;have hph:p.2.1=hsh:=by obtain ⟨a,e1,_⟩:=el;rw [e1,<- hH]
   rw [hph] at w1 w2;have hlt:mk<m0:=by
    rcases Nat.lt_trichotomy mk m0 with z | z | z
    ·exact z
    ·exfalso;rw [<- z] at hf;exact hf (by rw [w1];exact List.mem_map.mpr ⟨p,hp,rfl⟩)
    ·exfalso;exact hf (w2 m0 z)
   by_cases z:mk<m
   ·exact hno mk z i p hi w1.symm el
   ·exact hall mk (by omega) hlt i p hi w1.symm hph
  ·rw [e];dsimp only;have hp:p∈pl:=List.mem_of_getElem? a3;obtain ⟨ks,ay,ey,hy⟩:=hel p hp;have hes:es[i]?=some p.2:=(x.live a3).2.1;have hsl:t.slot (path t.mask hsh m1).j=.live i:=by rw [<- a4];exact (x.live a3).1
   have hey:p.2.2=.ref ay:=by rw [ey]
   have hl:∀ v∈(es.filter (·.1==hsh)).toList.map (·.2),∃ a ks,v=.ref a/\TKey prog w s.heap ks a:=fun v hv=>by
    obtain ⟨e',he',rfl⟩:=List.mem_map.mp hv;have:e'∈es.toList:=Array.mem_toList_iff.mpr (Array.mem_filter.mp (Array.mem_toList_iff.mp he')).1;rw [x.es] at this;obtain ⟨p',hp',rfl⟩:=List.mem_map.mp this;obtain ⟨ks',a',e1,t1⟩:=hel p' hp';exact ⟨a',ks',by rw [e1],t1⟩
   rw [ey] at hes;have go:wpAny (model prog w) A (setSearchFrom S (.ref ax) hsh true fuel (some (path t.mask hsh (m1+1)))) Q E s\/ks=kx:=by
    by_cases hk:ks=kx
    ·exact .inr hk
    ·left
     have:=search (kx:=kx) (ax:=ax) (Q:=Q) hu st x hel hx (m0:=m0) (by rw [hH];exact hf) (by rw [hH];exact ho) hm0 hin (by rw [hH];exact hout) (m0-(m1+1)) (m1+1) fuel (some (path t.mask hsh (m1+1))) rfl (by omega) (by omega) (by rw [hH];rfl) (fun m' hm' i' p' hp' he' el'=>by
      rw [hH] at he'
      by_cases z:m'<m
      ·exact hno m' z i' p' hp' he' el'
      ·rcases Nat.lt_or_ge m' m1 with q | q
       ·refine a7 m' (by omega) q i' p' hp' he' ?_;obtain ⟨a,e1,_⟩:=el';rw [e1,<- hH]
       ·obtain rfl:m'=m1:=by omega
        have s1:=(x.live hp').1;rw [he',hsl] at s1;cases s1;rw [a3] at hp';cases hp';exact hk (El.uniq ⟨ay,ey,hy⟩ el'))
     rw [hH] at this;exact this
   cases hled:t.led
   all_goals simp only [Bool.not_false,Bool.not_true,Bool.false_eq_true,if_true,if_false]
   ·refine wpAny_bind (not_seen hx _ hl ?_);simp only [Bool.false_eq_true,if_false];rw [hes];dsimp only;refine wpAny_bind (wpAny_holding (wpAny_eqBool_tuple hu hy hx ?_));refine wpAny_bind (st_state st ?_);dsimp only
    rcases go with go | hk
    ·by_cases hk:ks=kx
     ·rw [decide_eq_true hk];simp only [Bool.and_self,if_true];exact wpAny_pure (hin ⟨p,hp,ay,by rw [ey,hk],hk ▸ hy⟩)
     ·rw [decide_eq_false hk];simp only [Bool.and_false,Bool.false_eq_true,if_false];rw [moves_same];simp only [if_true];rw [hsl];dsimp only;rw [hes];dsimp only;refine wpAny_bind (same_self (wpAny_bind (wpAny_pure ?_)));exact go
    ·rw [decide_eq_true hk];simp only [Bool.and_self,if_true];exact wpAny_pure (hin ⟨p,hp,ay,by rw [ey,hk],hk ▸ hy⟩)
   ·rw [hes];dsimp only;refine wpAny_bind (wpAny_holding (wpAny_eqBool_tuple hu hy hx ?_));refine wpAny_bind (st_state st ?_);dsimp only
    rcases go with go | hk
    ·by_cases hk:ks=kx
     ·rw [decide_eq_true hk];simp only [Bool.and_self,if_true];exact wpAny_pure (hin ⟨p,hp,ay,by rw [ey,hk],hk ▸ hy⟩)
     ·rw [decide_eq_false hk];simp only [Bool.and_false,Bool.false_eq_true,if_false];rw [moves_same];simp only [if_true];rw [hsl];dsimp only;rw [hes];dsimp only;refine wpAny_bind (same_self (wpAny_bind (wpAny_pure ?_)));exact go
    ·rw [decide_eq_true hk];simp only [Bool.and_self,if_true];exact wpAny_pure (hin ⟨p,hp,ay,by rw [ey,hk],hk ▸ hy⟩)
end
end PuT
namespace PuT
open PySem SetTable
def ElB (prog:Program) (w:World) (base:Nat) (G:Addr->Prop) (h:Heap) (v:Int×Value) (ks:List Int):Prop:=∃ a,a<base/\G a/\v=(tupleKeyHash (intKind prog w) ks,.ref a)/\TKey prog w h ks a
theorem ElB.el {prog:Program} {w:World} {base:Nat} {G:Addr->Prop} {h:Heap} {p:Nat×(Int×Value)} {ks:List Int} (x:ElB prog w base G h p.2 ks):El prog w h p ks:=let ⟨a,_,_,e,t⟩:=x;⟨a,e,t⟩
theorem TKey.keep {prog:Program} {w:World} {h h':Heap} {ks:List Int} {a:Addr} (x:TKey prog w h ks a) (k:∀ o,h.get? a=some o->h'.get? a=some o):TKey prog w h' ks a:=by
 obtain ⟨o,items,n,ho,r⟩:=x;exact ⟨o,items,n,k o ho,r⟩
theorem ElB.keep {prog:Program} {w:World} {base:Nat} {G:Addr->Prop} {h h':Heap} {v:Int×Value} {ks:List Int} (x:ElB prog w base G h v ks) (k:∀ b o,b<base->h.get? b=some o->h'.get? b=some o):ElB prog w base G h' v ks :=
 let ⟨a,l,g,e,t⟩:=x;⟨a,l,g,e,TKey.keep t fun o q=>k a o l q⟩
def TS (prog:Program) (w:World) (base:Nat) (G:Addr->Prop) (h:Heap) (S:Addr) (KS:List (List Int)):Prop :=
 ∃ o es ep t pl,h.get? S=some o/\o.ExactSet/\o.data=.set es ep t/\Tb t es pl/\KS.Nodup/\pl.length=KS.length/\(∀ p∈pl,∃ ks∈KS,ElB prog w base G h p.2 ks)/\(∀ ks∈KS,∃ p∈pl,ElB prog w base G h p.2 ks)/\(t.plain=true/\t.led=!byT w)
section
variable {prog:Program} {w:World} {A:Around} {E:Value->Shared->Prop} {s:Shared} {S:Addr} {base:Nat} {G:Addr->Prop}
theorem TS.keep {h h':Heap} {KS:List (List Int)} (x:TS prog w base G h S KS) (kS:∀ o,h.get? S=some o->h'.get? S=some o) (k:∀ b o,b<base->h.get? b=some o->h'.get? b=some o):TS prog w base G h' S KS:=by
 obtain ⟨o,es,ep,t,pl,ho,hex,hd,tb,nd,hl,f1,f2,pz⟩:=x;exact ⟨o,es,ep,t,pl,kS o ho,hex,hd,tb,nd,hl,fun p hp=>let ⟨ks,a,b⟩:=f1 p hp;⟨ks,a,b.keep k⟩,fun ks hk=>let ⟨p,a,b⟩:=f2 ks hk;⟨p,a,b.keep k⟩,pz⟩
theorem not_scan (a:Addr) (es:Array (Int×Value)):byScan (.ref a) es=false:=by unfold byScan;simp [Value.scannable]
theorem next_mask {mask n:Nat} (hm:mask∈masks) (h1:n*5<mask*3) (h2:(n+1)*5≥mask*3) (hn:n+1<=300):∃ mask',mask'∈masks/\sizeAbove (grown (n+1))=mask'+1/\(n+1)*5<mask'*3:=by
 simp only [masks,List.mem_cons,List.not_mem_nil,or_false] at hm
 rcases hm with rfl | rfl | rfl | rfl
 ·obtain rfl:n=4:=by omega
  exact ⟨31,by decide,by decide +kernel,by decide⟩
 ·obtain rfl:n=18:=by omega
  exact ⟨127,by decide,by decide +kernel,by decide⟩
 ·obtain rfl:n=76:=by omega
  exact ⟨511,by decide,by decide +kernel,by decide⟩
 ·omega
theorem TS.old {h:Heap} {KS:List (List Int)} {pl:List (Nat×(Int×Value))} {kx:List Int} (f1:∀ p∈pl,∃ ks∈KS,ElB prog w base G h p.2 ks) (f2:∀ ks∈KS,∃ p∈pl,ElB prog w base G h p.2 ks):(∃ p∈pl,El prog w h p kx)↔kx∈KS:=by
 constructor
 ·rintro ⟨p,hp,e⟩;obtain ⟨ks,hk,e2⟩:=f1 p hp;rw [e.uniq e2.el];exact hk
 ·intro hk;obtain ⟨p,hp,e⟩:=f2 kx hk;exact ⟨p,hp,e.el⟩
theorem put_lists {t:SetTable} {es:Array (Int×Value)} {pl:List (Nat×(Int×Value))} (x:Tb t es pl) (j:Nat) (v:Int×Value):(SetTable.insertAt es (t.put j).2 v).toList=(pl.take (below t.place j)++(j,v)::pl.drop (below t.place j)).map (·.2)
  /\ (t.put j).1.place.toList=(pl.take (below t.place j)++(j,v)::pl.drop (below t.place j)).map (·.1)/\(t.put j).1.dummies=#[]:=by
 have hd:SetTable.has t.dummies j=false:=by rw [x.dum];unfold SetTable.has;simp
 refine ⟨?_,?_,?_⟩
 ·show (SetTable.insertAt es (below t.place j) v).toList=_;rw [SetTable.toList_insertAt,List.map_append,List.map_cons,List.map_take,List.map_drop,show es.toList=pl.map (·.2) by rw [x.es]]
 ·show (SetTable.insertAt t.place (below t.place j) j).toList=_;rw [SetTable.toList_insertAt,List.map_append,List.map_cons,List.map_take,List.map_drop,show t.place.toList=pl.map (·.1) by rw [x.place]]
 ·show (if SetTable.has t.dummies j then _ else t.dummies)=#[];rw [hd];exact x.dum
theorem add_tup {kx:List Int} {ax:Addr} {KS:List (List Int)} {Q:Shared->Prop} (hu:A.units<cLine) (x:TS prog w base G s.heap S KS) (hx:TKey prog w s.heap kx ax) (hab:ax<base) (hG:G ax) (hS:base<=S) (hlen:KS.length+1<=300)
  (h:∀ h' tk,s.toks<=tk->Heap.SameBut S s.heap h'->TS prog w base G h' S (if kx∈KS then KS else KS++[kx])->Q {s with heap:=h',toks:=tk}):wpAny (model prog w) A (setAdd S (.ref ax)) (fun _=>Q) E s:=by
 obtain ⟨o,es,ep,t,pl,ho,hex,hd,tb,nd,hl,f1,f2,pz⟩:=x;unfold setAdd;refine wpAny_holding (wpAny_bind (wpAny_pyHash_tuple hu hx ?_));have st:SetAt s.heap S es ep t:=⟨⟨o,ho,hex.1,hd⟩,tb.fits⟩;obtain ⟨m0,e1,e2,e3,e4⟩:=tb.empty (tupleKeyHash (intKind prog w) kx);have iff:=TS.old (kx:=kx) f1 f2;unfold setAddHashed setAddHashedIn;refine wpAny_holding (wpAny_bind (st_state (s:={s with toks:=s.toks+(kx.length+1)}) st ?_))
 dsimp only;rw [not_scan];simp only [Bool.false_eq_true,if_false];have hsz:es.size=KS.length:=by rw [tb.es];simpa using hl
 have hplsz:pl.length<300:=by omega
 have hmk:t.mask<512:=by have:=tb.msk;simp only [masks,List.mem_cons,List.not_mem_nil,or_false] at this;omega
 unfold setSearch;refine wpAny_bind (search (s:={s with toks:=s.toks+(kx.length+1)}) hu st tb (fun p hp=>let ⟨ks,_,b⟩:=f1 p hp;⟨ks,b.el⟩) hx e2 e4 e1 (fun hin=>?_) (fun hout=>?_) m0 0 100000 none (by omega) (Nat.zero_le _) (by omega) rfl (fun m' hm'=>absurd hm' (Nat.not_lt_zero _)))
 ·have hk:kx∈KS:=iff.mp hin;dsimp only;refine wpAny_pure ?_;have:=h s.heap (s.toks+(kx.length+1)) (by omega) (Heap.SameBut.refl S s.heap) (by rw [if_pos hk];exact ⟨o,es,ep,t,pl,ho,hex,hd,tb,nd,hl,f1,f2,pz⟩);exact this
 ·have hk:kx∉KS:=fun z=>hout (iff.mpr z)
  dsimp only;generalize hj:(path t.mask (tupleKeyHash (intKind prog w) kx) m0).j=j at *;refine wpAny_bind (st_state (s:={s with toks:=s.toks+(kx.length+1)}) st ?_)
  dsimp only;obtain ⟨p1,p2,p3⟩:=put_lists tb j (tupleKeyHash (intKind prog w) kx,Value.ref ax);have tput:=fun hf=>tb.put (h:=tupleKeyHash (intKind prog w) kx) (v:=.ref ax) e2 e3 ⟨m0,hj,e4⟩ (t.put j).1.plain hf
  have hlen':(pl.take (below t.place j)++(j,(tupleKeyHash (intKind prog w) kx,Value.ref ax))::pl.drop (below t.place j)).length=pl.length+1:=by
   rw [List.length_append,List.length_cons,List.length_take,List.length_drop];omega
  have mem':∀ v,v∈(pl.take (below t.place j)++(j,(tupleKeyHash (intKind prog w) kx,Value.ref ax))::pl.drop (below t.place j)).map (·.2)↔v∈pl.map (·.2)\/v=(tupleKeyHash (intKind prog w) kx,Value.ref ax):=fun v=>by
   have e:pl.map (·.2)=(pl.take (below t.place j)).map (·.2)++(pl.drop (below t.place j)).map (·.2):=by rw [<- List.map_append,List.take_append_drop]
   rw [e,List.map_append,List.map_cons,List.mem_append,List.mem_cons,List.mem_append]
   constructor
   ·rintro (a | a | a)
    ·exact .inl (.inl a)
    ·exact .inr a
    ·exact .inl (.inr a)
   ·rintro ((a | a) | a)
    ·exact .inl a
    ·exact .inr (.inr a)
    ·exact .inr (.inl a)
  have hEs:(SetTable.insertAt es (t.put j).2 (tupleKeyHash (intKind prog w) kx,Value.ref ax)).size=pl.length+1:=by rw [<- Array.length_toList,p1,List.length_map,hlen']
  have hPs:(t.put j).1.place.size=pl.length+1:=by rw [<- Array.length_toList,p2,List.length_map,hlen']
  generalize hpl':pl.take (below t.place j)++(j,(tupleKeyHash (intKind prog w) kx,Value.ref ax))::pl.drop (below t.place j)=pl' at *;generalize hes':SetTable.insertAt es (t.put j).2 (tupleKeyHash (intKind prog w) kx,Value.ref ax)=es' at *;have hmask:(t.put j).1.mask=t.mask:=rfl;have pz1:(t.put j).1.plain=true/\(t.put j).1.led=!byT w:=pz;have heta:({(t.put j).1 with plain:=(t.put j).1.plain}:SetTable)=(t.put j).1:=rfl
  rw [heta] at tput;generalize ht':(t.put j).1=t' at *;have nd':(KS++[kx]).Nodup:=by rw [List.nodup_append];exact ⟨nd,by simp,fun a ha b hb=>by simp at hb;rw [hb];exact fun z=>hk (z ▸ ha)⟩
  have fin:∀ (h1:Heap) (o1:Obj) (es1:Array (Int×Value)) (ep1:Nat) (t1:SetTable) (pl1:List (Nat×(Int×Value))),Heap.SameBut S s.heap h1->h1.get? S=some o1->o1.ExactSet->o1.data=.set es1 ep1 t1->Tb t1 es1 pl1->(pl1.map (·.2)).Perm (pl'.map (·.2))->(t1.plain=true/\t1.led=!byT w)->Q {s with heap:=h1,toks:=s.toks+(kx.length+1)}:=fun h1 o1 es1 ep1 t1 pl1 sb ho1 hx1 hd1 tb1 hp pz2=>by
   have kb:∀ b ob,b<base->s.heap.get? b=some ob->h1.get? b=some ob:=fun b ob hb q=>(sb.2 b (fun z=>by rw [z] at hb;exact absurd (Nat.lt_of_lt_of_le hb hS) (Nat.lt_irrefl _))).trans q
   refine h h1 _ (by omega) sb ?_;rw [if_neg hk];refine ⟨o1,es1,ep1,t1,pl1,ho1,hx1,hd1,tb1,nd',?_,fun p hp1=>?_,fun ks hks=>?_,pz2⟩
   ·have:=hp.length_eq;simp only [List.length_map] at this;rw [this,hlen',hl];simp
   ·have hv:=(mem' p.2).mp (hp.mem_iff.mp (List.mem_map.mpr ⟨p,hp1,rfl⟩))
    rcases hv with hv | hv
    ·obtain ⟨q,hq,e⟩:=List.mem_map.mp hv;obtain ⟨ks,hks,el⟩:=f1 q hq;rw [e] at el;exact ⟨ks,List.mem_append_left _ hks,el.keep kb⟩
    ·exact ⟨kx,List.mem_append_right _ (by simp),ax,hab,hG,hv,TKey.keep hx fun ob q=>kb ax ob hab q⟩
   ·rcases List.mem_append.mp hks with hks | hks
    ·obtain ⟨q,hq,el⟩:=f2 ks hks;obtain ⟨p,hp1,e⟩:=List.mem_map.mp (hp.mem_iff.mpr ((mem' q.2).mpr (.inl (List.mem_map.mpr ⟨q,hq,rfl⟩))));exact ⟨p,hp1,by rw [e];exact el.keep kb⟩
    ·obtain rfl:ks=kx:=by simpa using hks
     obtain ⟨p,hp1,e⟩:=List.mem_map.mp (hp.mem_iff.mpr ((mem' _).mpr (.inr rfl)));exact ⟨p,hp1,ax,hab,hG,e,TKey.keep hx fun ob q=>kb ax ob hab q⟩
  have tail:wpAny (model prog w) A (do
    storeSet S es' t'
    if (!false&&t'.tooFull)=true then do
     setRelay S (grown (es.size+1))
     pure true
    else pure true) (fun _=>Q) E {s with toks:=s.toks+(kx.length+1)}:=by
   refine wpAny_bind (wpAny_storeSet_of (s:={s with toks:=s.toks+(kx.length+1)}) ho hd ?_ (by rw [hEs,sizeLine_eq];omega))
   have hg:=Heap.get?_update_self (Obj.putSet es' t') ho (by rw [putSet_of _ _ hd];rfl);rw [putSet_of _ _ hd] at hg;have sb1:=Heap.SameBut.update s.heap S (Obj.putSet es' t');have hfill:t'.fill=pl.length+1:=by unfold SetTable.fill;rw [hPs,p3];rfl
   by_cases hf:(pl.length+1)*5<t.mask*3
   ·have ntf:t'.tooFull=false:=by unfold SetTable.tooFull;rw [hfill,hmask];exact decide_eq_false (by omega)
    rw [ntf];simp only [Bool.and_false,Bool.false_eq_true,if_false];exact wpAny_pure (fin _ _ es' (ep+1) t' pl' sb1 hg hex rfl (tput hf) (.refl _) pz1)
   ·have ntf:t'.tooFull=true:=by unfold SetTable.tooFull;rw [hfill,hmask];exact decide_eq_true (by omega)
    rw [ntf];simp only [Bool.not_false,Bool.and_true,if_true];obtain ⟨mask',q1,q2,q3⟩:=next_mask tb.msk tb.full (by omega) (by omega);have ft:t'.fits es'.size=true:=by
     unfold SetTable.fits;rw [hfill,hmask,hPs,hEs];have:=tb.full;simp;omega
    have st1:SetAt (s.heap.update S (Obj.putSet es' t')) S es' (ep+1) t':=⟨⟨_,hg,hex.1,rfl⟩,ft⟩;have hess:es.size=pl.length:=by rw [tb.es];simp
    have hmk':mask'<512:=by simp only [masks,List.mem_cons,List.not_mem_nil,or_false] at q1;omega
    unfold setRelay;refine wpAny_bind (wpAny_bind (st_state (s:={s with heap:=s.heap.update S (Obj.putSet es' t'),toks:=s.toks+(kx.length+1)}) st1 ?_))
    dsimp only;rw [hess,q2,if_neg (by rw [sizeLine_eq];omega)];obtain ⟨order,pl2,l1,l2,l3,l4⟩:=laid_tb q1 es' (by rw [hEs];exact q3) t'.finger (t'.movedTo (sizeAbove (grown (pl.length+1))-1)) t'.led t'.plain;have hrel:t'.relaid (es'.map (·.1)) (grown (pl.length+1))=some ({mask:=mask',place:=(pl2.map (·.1)).toArray,dummies:=#[],finger:=t'.finger,led:=t'.led,moves:=t'.movedTo (sizeAbove (grown (pl.length+1))-1),plain:=t'.plain},order):=by
     unfold SetTable.relaid;rw [<- l1,q2];rfl
    rw [hrel]
    k_delta "reordered"
    dsimp only;have hsz2:(order.filterMap (es'[·]?)).size=es'.size:=by rw [l2];have:=l4.length_eq;simpa using this
    rw [show ((order.filterMap (es'[·]?)).size != es'.size)=false by rw [hsz2];simp];simp only [Bool.false_eq_true,if_false];refine wpAny_bind (wpAny_pure ?_);rw [l2];refine wpAny_storeSet_of (s:={s with heap:=s.heap.update S (Obj.putSet es' t'),toks:=s.toks+(kx.length+1)}) hg rfl (wpAny_pure ?_) (by have:=l4.length_eq;simp at this;simp;rw [this,hEs,sizeLine_eq];omega)
    have hd1:({o with data:=.set es' (ep+1) t'}:Obj).data=.set es' (ep+1) t':=rfl
    have hg2:=Heap.get?_update_self (Obj.putSet (pl2.map (·.2)).toArray {mask:=mask',place:=(pl2.map (·.1)).toArray,dummies:=#[],finger:=t'.finger,led:=t'.led,moves:=t'.movedTo (sizeAbove (grown (pl.length+1))-1),plain:=t'.plain}) hg (by rw [putSet_of _ _ hd1];rfl);rw [putSet_of _ _ hd1] at hg2;exact fin _ _ _ _ _ pl2 (sb1.trans (Heap.SameBut.update _ S _)) hg2 hex rfl l3 (by rw [<- p1];exact l4) pz1
  split
  ·refine wpAny_bind (by_value (s:={s with toks:=s.toks+(kx.length+1)}) hx ?_)
   simp only [if_true];exact tail
  ·refine wpAny_bind (wpAny_pure ?_);simp only [if_true];exact tail
end
end PuT
namespace PuT
open PySem PySem.Spec PyProof.Rows
def ddS (KS:List (List Int)) (k:List Int):List (List Int):=if k∈KS then KS else KS++[k]
def KSof (kss:List (List Int)):List (List Int):=kss.foldl ddS []
theorem ks_snoc (l:List (List Int)) (k:List Int):KSof (l++[k])=ddS (KSof l) k:=by unfold KSof;rw [List.foldl_append];rfl
theorem ks_len:∀ l:List (List Int),(KSof l).length<=l.length:=by
 have key:∀ (l acc:List (List Int)),(l.foldl ddS acc).length<=acc.length+l.length:=by
  intro l
  induction l with
  | nil=>intro acc;simp
  | cons k l ih =>
   intro acc;have:=ih (ddS acc k);have h2:(ddS acc k).length<=acc.length+1:=by unfold ddS;split<;>simp
   simp only [List.foldl_cons,List.length_cons];omega
 intro l;have:=key l [];simpa [KSof] using this
section
variable {prog:Program} {w:World} {A:Around} {E:Value->Shared->Prop} {s:Shared}
theorem fresh_tb (led:Bool):Tb (.fresh 0 0 led) #[] []:=⟨rfl,rfl,rfl,.nil,(by decide:(7:Nat)∈masks),(fun p h=>by cases h),(by decide:0*5<7*3),fun p h=>by cases h⟩
theorem set_tups {G:Addr->Prop} {l:Addr} {items:Array Value} {kss:List (List Int)} {Q:Value->Shared->Prop} (hh:A.handled=none) (hu:A.units+64<cLine) (hl:s.heap.IsList l items) (hn:items.size=kss.length) (hz:kss.length<=299)
  (hi:∀ (i:Nat) v,items[i]?=some v->∃ a,v=.ref a/\G a/\TKey prog w s.heap (kss.getD i []) a)
  (h:∀ (h':Heap) (tk:Nat),(∀ b o,s.heap.get? b=some o->h'.get? b=some o)->TS prog w s.heap.objs.size G h' s.heap.objs.size (KSof kss)->Q (.ref s.heap.objs.size) {s with heap:=h',toks:=tk}) :
  wpAny (model prog w) A (call (.type "set") [.ref l]) Q E s:=by
 refine set_of_list (fun i h=>TS prog w s.heap.objs.size G h s.heap.objs.size (KSof (kss.take i))/\∀ b o,s.heap.get? b=some o->h.get? b=some o) hh hl (fun h k e=>⟨?_,k⟩) (fun i h1 h2 x k=>⟨?_,?_⟩) (fun A' hA i v s' Q' E' hv x q=>?_) (fun h' tk k x=>?_)
 ·exact ⟨_,#[],0,_,[],e,⟨rfl,rfl,rfl⟩,rfl,fresh_tb _,List.nodup_nil,rfl,(fun p hp=>by cases hp),(fun p hp=>by cases hp),rfl,rfl⟩
 ·exact x.1.keep (fun o q=>k _ o (Nat.ne_of_lt (Nat.lt_succ_self _)) q) fun b o hb q=>k b o (Nat.ne_of_lt (Nat.lt_succ_of_lt hb)) q
 ·exact fun b o q=>k b o (Nat.ne_of_lt (Nat.lt_succ_of_lt (Heap.lt_size q))) (x.2 b o q)
 ·obtain ⟨a,rfl,hGa,hk⟩:=hi i v hv;have hib:i<kss.length:=by
   rw [<- hn]
   rcases Nat.lt_or_ge i items.size with z | z
   ·exact z
   ·rw [Array.getElem?_eq_none z] at hv;cases hv
  have hk0:=hk;obtain ⟨o,_,_,ho,_⟩:=hk0;have eg:kss.getD i []=kss[i]:=by simp [hib]
  rw [eg] at hk;have tk1:kss.take (i+1)=kss.take i++[kss[i]]:=by rw [List.take_succ,List.getElem?_eq_getElem hib];rfl
  refine add_tup (kx:=kss[i]) (by omega) x.1 (TKey.keep hk fun o q=>x.2 a o q) (Heap.lt_size ho) hGa (Nat.le_refl _) (by have:=ks_len (kss.take i);simp at this;omega) fun h' tk ht sb y=>q h' tk ht sb ⟨?_,fun b o q=>?_⟩
  ·rw [tk1,ks_snoc];exact y
  ·exact (sb.2 b (Nat.ne_of_lt (Heap.lt_size q))).trans (x.2 b o q)
 ·rw [hn,List.take_length] at x;exact h h' tk k x.1
theorem items_of:∀ {ks:List Int} {vs:List Value},IntsAre vs ks->ItemsAre (intKind prog w) ks vs
 | _,_,.nil=>.nil
 | _,_,.cons n t h=>.cons (intKind_is _ _ _ _) (items_of h)
end
end PuT
namespace Pu
open PySem PySem.Spec PyProof.Rows L2 PuT
def tupI:PV->Option (List Int)
 | .tup vs=>intsOf vs
 | _=>none
def tupsI:List PV->Option (List (List Int))
 | []=>some []
 | v::vs=>(tupI v).bind fun k=>(tupsI vs).map (k::·)
def lenSetF:PV->Res PV
 | .lst vs=>(optR (tupsI vs)).bind fun kss=>if kss.length<=299 then .ok (.int ((KSof kss).length:Int)) else .bad
 | _=>.bad
def eLenSet (d:De):De:=fun ρ=>(d ρ).bind lenSetF
section
variable {X:Cx} {pins:List (Addr×Obj)} {σ:SS} {H:Hp} {s:Shared} {W:Addr->Prop}
theorem tup_key (I:L2.Inv X pins σ H s) {ks:List Int} {x:V} {u:Value} (r:Rep X.K (hid W H) (.tup (ks.map PV.int)) x) (rx:RelV x u):∃ a,u=.ref a/\TKey X.prog X.w s.heap ks a:=by
 obtain ⟨a,ys,rfl,q1,q2⟩:=Rep.tup'.mp r;cases (show u=Value.ref a from rx);obtain ⟨its,rv,p1⟩:=(sqK_same hid_sub (k:=.T) q1).sq I;obtain ⟨o,ho,hc,n,hd⟩:=p1;exact ⟨a,rfl,o,its.toArray,n,ho,hc,hd,by simpa using items_of (ints_rep q2 rv)⟩
end
@[simp] theorem r_lenSet {d:De} {ρ:En}:eLenSet d ρ=(d ρ).bind lenSetF:=(rfl)
end Pu
namespace PuT
open PySem PySem.Spec PyProof.Rows SetTable
theorem below_at {l:List Nat} (hr:l.Pairwise (·<·)) {i:Nat} (hi:i<l.length):below l.toArray (l[i]+1)=i+1:=by
 obtain ⟨h0,h1,h2⟩:=below_spec l hr (l[i]+1);have up:∀ a b (ha:a<l.length) (hb:b<l.length),a<b->l[a]<l[b]:=fun a b ha hb hab=>List.pairwise_iff_getElem.mp hr a b ha hb hab
 apply Nat.le_antisymm
 ·apply Nat.le_of_not_lt;intro z;have hz:i+1<l.length:=Nat.lt_of_lt_of_le z h0;have a:=h1 (i+1) hz z;have b:=up i (i+1) hi hz (Nat.lt_succ_self i);omega
 ·apply Nat.le_of_not_lt;intro z;have a:=h2 i hi (by omega);omega
theorem below_zero {l:List Nat} (hr:l.Pairwise (·<·)):below l.toArray 0=0:=by
 obtain ⟨h0,h1,h2⟩:=below_spec l hr 0;apply Nat.le_antisymm _ (Nat.zero_le _);apply Nat.le_of_not_lt;intro z;have:=h1 0 (by omega) z;omega
theorem perm_sub:∀ {KS kl:List (List Int)},KS.Nodup->(∀ k∈KS,k∈kl)->kl.length<=KS.length->kl.Perm KS
 | [],kl,_,_,h=>by rw [List.eq_nil_of_length_eq_zero (Nat.le_zero.mp h)]
 | k::KS,kl,nd,hs,h=>by
  obtain ⟨n1,n2⟩:=List.nodup_cons.mp nd;have hk:=hs k List.mem_cons_self;have p:=List.perm_cons_erase hk;have hl:=p.length_eq;simp only [List.length_cons] at hl h;refine p.trans ((perm_sub n2 (fun j hj=>?_) (by omega)).cons k);have hj2:=p.mem_iff.mp (hs j (List.mem_cons_of_mem _ hj))
  rcases List.mem_cons.mp hj2 with e | e
  ·exact absurd (e ▸ hj) n1
  ·exact e
theorem tb_walk {w:World} {t:SetTable} {es:Array (Int×Value)} {pl:List (Nat×(Int×Value))} (x:Tb t es pl) (pz:t.plain=true/\t.led=!byT w):Walkable w es t:=by
 refine ⟨by rw [pz.1];rfl,fun h=>by rw [pz.2,h];rfl,fun h i hi=>?_⟩
 have hs:es.size=pl.length:=by rw [x.es];simp
 unfold slt;rw [if_neg (by rw [h];decide),x.place]
 by_cases z:i=0
 ·rw [if_pos z,z];exact below_zero x.rise
 ·rw [if_neg z];have hl:i-1<(pl.map (·.1)).length:=by rw [List.length_map];omega
  have e:(pl.map (·.1)).toArray.getD (i-1) 0=(pl.map (·.1))[i-1]:=by simp [Array.getD,show i-1<pl.length by omega]
  rw [e,below_at x.rise hl];omega
section
variable {prog:Program} {w:World} {A:Around} {E:Value->Shared->Prop} {s:Shared} {S:Addr} {base:Nat} {G:Addr->Prop} {KS:List (List Int)}
theorem ts_list (x:TS prog w base G s.heap S KS):∃ es ep t,SetAt s.heap S es ep t/\Walkable w es t/\es.size=KS.length /\
  ∃ kl:List (List Int),kl.Perm KS/\Paired (fun (u:Value) (ks:List Int)=>∃ a,u=.ref a/\G a/\TKey prog w s.heap ks a) ((walked w S ep es).toList.map (·.2)) kl:=by
 obtain ⟨o,es,ep,t,pl,ho,hex,hd,tb,nd,hl,f1,f2,pz⟩:=x;have hsz:es.size=KS.length:=by rw [tb.es];simpa using hl
 refine ⟨es,ep,t,⟨⟨o,ho,hex.1,hd⟩,tb.fits⟩,tb_walk tb pz,hsz,?_⟩;have key:∀ (ps:List (Nat×(Int×Value))),(∀ p∈ps,p∈pl)->∃ kl:List (List Int),Paired (fun (u:Value) (ks:List Int)=>∃ a,u=.ref a/\G a/\TKey prog w s.heap ks a) ((ps.map (·.2)).map (·.2)) kl/\Paired (fun (p:Nat×(Int×Value)) ks=>ElB prog w base G s.heap p.2 ks) ps kl:=by
  intro ps
  induction ps with
  | nil=>intro _;exact ⟨[],.nil,.nil⟩
  | cons p ps ih =>
   intro hm;obtain ⟨kl,q1,q2⟩:=ih fun q hq=>hm q (List.mem_cons_of_mem _ hq)
   obtain ⟨ks,hk,e⟩:=f1 p (hm p List.mem_cons_self);have e0:=e;obtain ⟨a,_,g,ev,tk⟩:=e;exact ⟨ks::kl,.cons ⟨a,show p.2.2=_ by rw [ev],g,tk⟩ q1,.cons e0 q2⟩
 obtain ⟨kl,k1,k2⟩:=key pl fun p hp=>hp
 have len2:∀ {ps:List (Nat×(Int×Value))} {kl:List (List Int)},Paired (fun (p:Nat×(Int×Value)) ks=>ElB prog w base G s.heap p.2 ks) ps kl->ps.length=kl.length:=fun h=>by
  induction h with
  | nil=>rfl
  | cons _ _ ih=>simp [ih]
 have fwd:∀ {ps:List (Nat×(Int×Value))} {kl:List (List Int)},Paired (fun (p:Nat×(Int×Value)) ks=>ElB prog w base G s.heap p.2 ks) ps kl->∀ p∈ps,∃ ks∈kl,ElB prog w base G s.heap p.2 ks:=fun h=>by
  induction h with
  | nil=>intro p hp;cases hp
  | cons r _ ih =>
   intro p hp
   rcases List.mem_cons.mp hp with rfl | hp
   ·exact ⟨_,List.mem_cons_self,r⟩
   ·obtain ⟨ks,a,b⟩:=ih p hp;exact ⟨ks,List.mem_cons_of_mem _ a,b⟩
 have sub:∀ k∈KS,k∈kl:=fun k hk=>by
  obtain ⟨p,hp,e⟩:=f2 k hk;obtain ⟨ks,hks,e2⟩:=fwd k2 p hp;have:=(e.el (p:=p)).uniq (e2.el (p:=p));rw [this];exact hks
 have hperm:kl.Perm KS:=by
  have hle:kl.length<=KS.length:=by rw [<- len2 k2,hl];exact Nat.le_refl _
  exact perm_sub nd sub hle
 have hw:((walked w S ep es).toList.map (·.2)).Perm ((pl.map (·.2)).map (·.2)):=by
  have:=(walked_perm w S ep es).map (·.2)
  rwa [show es.toList=pl.map (·.2) by rw [tb.es]] at this
 obtain ⟨kl',p1,p2⟩:=Pu.paired_perm hw.symm k1;exact ⟨kl',p1.symm.trans hperm,p2⟩
theorem it_tkey {h:Heap} {ks:List Int} {a:Addr} (x:TKey prog w h ks a) (hne:ks≠[]):PuS.IT false h (.ref a) ks:=by
 obtain ⟨o,its,n,ho,hc,hd,hi⟩:=x;refine ⟨⟨a,o,its,n,rfl,ho,hc,hd,?_⟩,hne⟩;have:∀ {ks:List Int} {vs:List Value},ItemsAre (intKind prog w) ks vs->IntsAre vs ks:=fun h=>by
  induction h with
  | nil=>exact .nil
  | cons h1 _ ih=>obtain ⟨t,rfl⟩:=intKind_get h1;exact .cons _ _ ih
 exact this hi
set_option maxHeartbeats 4000000 in
theorem sorted_tups {nss:List (List Int)} {Q:Value->Shared->Prop} {es:Array (Int×Value)} {ep:Nat} {t:SetTable} (hh:A.handled=none) (st:SetAt s.heap S es ep t) (wk:Walkable w es t) (hz:es.size<=300)
  (hp:Paired (PuS.IT false s.heap) ((walked w S ep es).toList.map (·.2)) nss)
  (h:∀ (s':Shared) (c e:Nat) (out:List Value),s.heap.objs.size<=c->(∀ b o,s.heap.get? b=some o->s'.heap.get? b=some o)->s'.gens=s.gens->s'.drawn=s.drawn->s'.os=s.os->s'.heap.get? c=some (seqObj "list" out.toArray e) ->
   out.Perm ((walked w S ep es).toList.map (·.2))->PuS.Srt false false s.heap out->Q (.ref c) s'):wpAny (model prog w) A (call (.builtin "sorted") [.ref S]) Q E s:=by
 refine Calls.call_function_entry kind_sorted plain_sorted entry_sorted (args_sorted1 _) ?_;unfold Builtin.«sorted»;refine wpAny_bind (m:=checkCount "sorted" 1 1 _) (wpAny_pure ?_);refine wpAny_bind (collect_set (by simp [hh]) st wk (by omega) fun s1 k1 g1 d1 o1 z1=>?_)
 have hl:((walked w S ep es).toList.map (·.2)).length<=300:=by rw [List.length_map,(walked_perm w S ep _).length_eq,Array.length_toList];exact hz
 generalize (walked w S ep es).toList.map (·.2)=L at *;refine wpAny_bind (wpAny_newList ?_ (by rw [sizeLine_eq];omega));have hoL:(s1.heap.push (seqObj "list" L.toArray 0)).get? s1.heap.objs.size=some (seqObj "list" L.toArray 0):=Heap.get?_push_size _ rfl;have hsz:s.heap.objs.size<=s1.heap.objs.size:=Nat.le_of_lt z1;have keep:∀ c o,s.heap.get? c=some o->(s1.heap.push (seqObj "list" L.toArray 0)).get? c=some o:=fun c o q=>Heap.get?_push_of_some _ (k1 c o q)
 have it1:∀ {u ns},PuS.IT false s.heap u ns->PuS.IT false (s1.heap.push (seqObj "list" L.toArray 0)) u ns:=fun {u ns} x=>x.keepT fun c o e _=>keep c o e
 have t1:Paired (PuS.IT false (s1.heap.push (seqObj "list" L.toArray 0))) L nss:=PuS.paired_imp (fun u ns x=>it1 x) hp;refine wpAny_bind (wpAny_holding (wpAny_call_entry slot_list_sort ⟨_,hoL,rfl⟩ entry_list_sort ?body (args_list_sort _)))
 case body =>
  show wpAny _ _ (Builtin.«list.sort» ⟨[.ref s1.heap.objs.size],PuS.kwOf false⟩) _ _ _;rw [PuS.tree_eq];refine PuS.srt_tree false (s:={s1 with heap:=s1.heap.push (seqObj "list" L.toArray 0)}) hoL t1 (by omega) (fun s' G hG=>PuS.cmp_ints0 hG) fun h' out n' hp' hs k ho'=>⟨_,rfl,?_⟩
  refine wpAny_pure ⟨_,rfl,h _ s1.heap.objs.size n' out hsz (fun b o q=>?_) g1 d1 o1 ho' hp' ?_⟩
  ·have q1:=k1 b o q;exact k b o (Nat.ne_of_lt (Heap.lt_size q1)) (Heap.get?_push_of_some _ q1)
  ·have key1:∀ u∈L,PuS.KY false (s1.heap.push (seqObj "list" L.toArray 0)) u=PuS.KY false s.heap u:=fun u hu=>by
    obtain ⟨ns,x⟩:=PuS.paired_mem hp u hu;unfold PuS.KY;rw [x.key,(it1 x).key]
   refine hs.imp_of_mem fun {u v} mu mv e=>?_
   have e1:=key1 u (hp'.mem_iff.mp mu);have e2:=key1 v (hp'.mem_iff.mp mv);have e':if false=true then PuS.llt (PuS.KY false (s1.heap.push (seqObj "list" L.toArray 0)) u) (PuS.KY false (s1.heap.push (seqObj "list" L.toArray 0)) v)=false else PuS.llt (PuS.KY false (s1.heap.push (seqObj "list" L.toArray 0)) v) (PuS.KY false (s1.heap.push (seqObj "list" L.toArray 0)) u)=false:=e
   rw [e1,e2] at e';exact e'
end
end PuT
namespace Pu
open PySem PySem.Spec PyProof.Rows L2 PuT
def srtSetTF:PV->Res PV
 | .lst vs=>(optR (tupsOf vs)).bind fun kss=>if kss.length<=299 then .ok (.lst ((sortL false (KSof kss)).map tpv)) else .bad
 | _=>.bad
def eSrtSetT (d:De):De:=fun ρ=>(d ρ).bind srtSetTF
theorem ks_mem:∀ (l:List (List Int)) {k:List Int},k∈KSof l->k∈l:=by
 have key:∀ (l acc:List (List Int)) (k:List Int),k∈l.foldl ddS acc->k∈acc\/k∈l:=by
  intro l
  induction l with
  | nil=>intro acc k h;exact .inl h
  | cons a l ih =>
   intro acc k h
   rcases ih _ k h with z | z
   ·unfold ddS at z
    split at z
    ·exact .inl z
    ·rcases List.mem_append.mp z with y | y
     ·exact .inl y
     ·exact .inr (by rw [List.mem_singleton.mp y];exact List.mem_cons_self)
   ·exact .inr (List.mem_cons_of_mem _ z)
 intro l k h
 rcases key l [] k h with z | z
 ·cases z
 ·exact z
section
variable {X:Cx} {pins:List (Addr×Obj)} {σ:SS} {H:Hp} {s:Shared} {W:Addr->Prop}
theorem tups_at2 (I:L2.Inv X pins σ H s):∀ {kss:List (List Int)} {xs:List V} {us:List Value},Reps X.K (hid W H) (kss.map tpv) xs->Vals xs us->∀ (i:Nat) v,us[i]?=some v->∃ a,v=.ref a/\(∃ ks,Rep X.K (hid W H) (tpv ks) (.ref a)/\TKey X.prog X.w s.heap ks a)/\TKey X.prog X.w s.heap (kss.getD i []) a
 | [],xs,us,r,q,i,v,e=>by
  obtain rfl:=Reps.nil.mp r;cases q;simp at e
 | ks::kss,xs,us,r,q,i,v,e=>by
  obtain ⟨x,t,rfl,r1,r2⟩:=Reps.cons.mp r;cases q with
  | cons q1 q2 =>
   cases i with
   | zero =>
    simp at e;subst e;obtain ⟨a,rfl,tk⟩:=tup_key I r1 q1;have ex:x=.ref a:=q1.inj (show RelV (.ref a) (.ref a) from rfl)
    exact ⟨a,rfl,⟨ks,by rw [<- ex];exact r1,tk⟩,by simpa using tk⟩
   | succ i =>
    have:=tups_at2 I r2 q2 i v (by simpa using e);simpa using this
theorem pair_ref {h:Heap} (hk:∀ b o,s.heap.get? b=some o->h.get? b=some o):∀ {L:List Value} {kl:List (List Int)},(∀ k∈kl,k≠[]) ->
  Paired (fun (u:Value) (ks:List Int)=>∃ a,u=.ref a/\(∃ k,Rep X.K (hid W H) (tpv k) (.ref a)/\TKey X.prog X.w s.heap k a)/\TKey X.prog X.w h ks a) L kl ->
  ∃ ps:List (V×List Int),ps.map (·.2)=kl/\Paired (fun (u:Value) (p:V×List Int)=>RelV p.1 u/\Rep X.K (hid W H) (tpv p.2) p.1/\PuS.IT false h u p.2) L ps/\Paired (PuS.IT false h) L kl
 | _,_,_,.nil=>⟨[],rfl,.nil,.nil⟩
 | _::_,ks::_,hne,.cons ⟨a,e,⟨k,r,t1⟩,t2⟩ t=>by
  obtain ⟨ps,e1,p1,p2⟩:=pair_ref hk (fun k hk=>hne k (List.mem_cons_of_mem _ hk)) t
  subst e;have ek:k=ks:=(TKey.keep t1 fun o q=>hk a o q).inj t2;have it:=it_tkey t2 (hne ks List.mem_cons_self);exact ⟨(.ref a,ks)::ps,by rw [List.map_cons,e1],.cons ⟨rfl,by rw [<- ek];exact r,it⟩ p1,.cons it p2⟩
end
section
variable {X:Cx} {a:Expr} {da:De} {p p2 pos pos2:Pos}
theorem de_srtSetT {k:Nat} (hr:Room k X.A) (hc:X.calm=true) (hg:Gl X "sorted") (hm:X.mg "sorted" = none) (hg2:Gl X "set") (hm2:X.mg "set" = none) (ha:DE X a da)
  (he:starEach [.Call (.Name "set" p2) [a] [] pos2] X.env=(false,eval (.Call (.Name "set" p2) [a] [] pos2) X.env)::starEach [] X.env:=by rfl) (hpl:(backTo pos (starEach [] X.env)).any (·.1)=false:=by rfl)
  (he2:starEach [a] X.env=(false,eval a X.env)::starEach [] X.env:=by rfl) (hpl2:(backTo pos2 (starEach [] X.env)).any (·.1)=false:=by rfl) :
  DE X (.Call (.Name "sorted" p) [.Call (.Name "set" p2) [a] [] pos2] [] pos) (eSrtSetT da):=by
 intro pins s σ H Q I ⟨W,ρ,er,h⟩;refine wpAny_Call_Name_kw (ld_blt I hg hm boot_sorted ?_ (by decide) (by decide));refine PyProof.Rows.callWith_builtin1 ?_ he hpl;rw [he];show wpAny _ _ (spliced ((false,eval (.Call (.Name "set" p2) [a] [] pos2) X.env)::backTo pos (starEach [] X.env))) _ _ s;refine Calls.spliced_cons (thn (Q:=fun u s1=>wpAny (model X.prog X.w) X.A (call (.builtin "sorted") [u]) (EP X pins σ Q) X.xe s1) ?_ fun u s1 hu=>Calls.spliced_nil hu)
 refine wpAny_Call_Name_kw (ld_blt I hg2 hm2 boot_set ?_ (by decide) (by decide));refine PyProof.Rows.callWith_type1 (thn ((da_cons ha da_nil he2) pos2 pins s σ H (fun ys H2=>∃ y v,ys=[y]/\ER X.K W H2 σ ρ/\Rep X.K (hid W H2) v y/\Fin X W H2 Q (srtSetTF v)) I ?_) fun us s1 ⟨vs,H1,I1,r1,y,v,e,er1,ry,h1⟩=>?_) he2 hpl2
 ·refine ⟨W,ρ,er,?_⟩;unfold eSrtSetT at h;cases e:da ρ with
  | exc z=>rw [e] at h;simp only [aCons,e,Res.bind_exc];exact h
  | bad=>rw [e] at h;exact h.elim
  | ok v =>
   rw [e,Res.bind_ok] at h;simp only [aCons,aNil,e,Res.bind_ok];intro ys H2 s2 r2;obtain ⟨y,t,rfl,q1,q2⟩:=Reps.cons.mp r2;obtain rfl:=Reps.nil.mp q2;exact ⟨y,v,rfl,er.mono s2,q1,Fin.grow h s2⟩
 ·subst e;obtain ⟨u,rfl,ru⟩:=vals1 r1;cases v<;>simp only [srtSetTF] at h1<;>first | exact h1.elim | skip
  rename_i vs
  cases eb:tupsOf vs with
  | none=>rw [eb] at h1;exact h1.elim
  | some kss =>
   rw [eb] at h1;have h1:Fin X W H1 Q (if kss.length<=299 then .ok (.lst ((sortL false (KSof kss)).map tpv)) else .bad):=h1
   by_cases hz:kss.length<=299
   ·rw [if_pos hz] at h1;obtain ⟨rfl,hne⟩:=tupsOf_get eb;obtain ⟨l,ys,rfl,q1,q2⟩:=Rep.lst'.mp ry;cases ru;obtain ⟨its,rv,p1⟩:=(sqK_same hid_sub (k:=.L) q1).sq I1;have hh:X.A.handled=none:=I1.ok.hd hc;have hlen:its.toArray.size=kss.length:=by
     have h1:=rv.length;have h2:=q2.length;simp at h2;simp;omega
    refine set_tups (G:=fun a=>∃ k,Rep X.K (hid W H1) (tpv k) (.ref a)/\TKey X.prog X.w s1.heap k a) (items:=its.toArray) (kss:=kss) hh hr.units p1 hlen hz (fun i v hv=>tups_at2 I1 q2 rv i v (by simpa using hv)) fun h' tk k1 tx=>?_
    obtain ⟨es,ep,t,st,wk,hes,kl,hkl,hpair⟩:=ts_list (s:={s1 with heap:=h',toks:=tk}) tx;have hkne:∀ k∈kl,k≠[]:=fun k hk=>hne k (ks_mem kss (hkl.mem_iff.mp hk))
    obtain ⟨ps0,e0,p3,pit⟩:=pair_ref (s:=s1) (h:=h') k1 hkne hpair;refine sorted_tups (s:={s1 with heap:=h',toks:=tk}) hh st wk (by rw [hes];have:=ks_len kss;omega) pit fun s' c e out hc' k2 g2 d2 o2 hg hp hs=>?_
    obtain ⟨hh',gg,dd,tt,oo⟩:=s';obtain rfl:gg=s1.gens:=g2;obtain rfl:dd=s1.drawn:=d2;obtain rfl:oo=s1.os:=o2;obtain ⟨ps,q3,q4⟩:=paired_perm hp.symm p3;obtain ⟨g1,g2,g3⟩:=unpair (s:={s1 with heap:=h',toks:=tk}) q4;have hperm:(ps.map (·.2)).Perm (KSof kss):=by
     have:=(q3.map (·.2)).symm;rw [e0] at this;exact this.trans hkl
    have hsort:(ps.map (·.2)).Pairwise fun x y=>ordB false x y=true:=by
     rw [<- g3,List.pairwise_map];refine List.Pairwise.imp ?_ hs;intro u v hh;unfold ordB lle;simp only [Bool.false_eq_true,if_false] at hh ⊢;simp [hh]
    have he:=sortL_unique hperm hsort;rw [he] at g2;have hlt:s1.heap.objs.size<h'.objs.size:=by obtain ⟨ob,_,_,_,_,hb,_⟩:=tx;exact Heap.lt_size hb
    have hsz:s1.heap.objs.size<=c:=Nat.le_trans (Nat.le_of_lt hlt) hc';have hl:(ps.map (·.1)).length<=sizeLine:=by
     have a1:=hperm.length_eq;have a2:=ks_len kss;rw [List.length_map] at a1 ⊢;rw [sizeLine_eq];omega
    have J:=I1.laid (a:=c) (o:=.lst (ps.map (·.1))) (t':=tt) (h':=hh') (fun b o q=>k2 b o (k1 b o q)) hsz ⟨hl,out,_,g1,hg⟩
    exact ⟨.ref c,_,J,rfl,okQ_lst h1 er1.trk g2 (I1.hok.fresh hsz)⟩
   ·rw [if_neg hz] at h1;exact h1.elim
end
@[simp] theorem r_srtSetT {d:De} {ρ:En}:eSrtSetT d ρ=(d ρ).bind srtSetTF:=(rfl)
theorem srtSetT_tups (kss:List (List Int)) (hne:∀ k∈kss,k≠[]) (hz:kss.length<=299):srtSetTF (.lst (kss.map tpv))=.ok (.lst ((sortL false (KSof kss)).map tpv)):=by
 simp only [srtSetTF,tupsOf_map hne];show (if kss.length<=299 then Res.ok (PV.lst ((sortL false (KSof kss)).map tpv)) else .bad)=_
 rw [if_pos hz]
end Pu
namespace Pu
open PySem PySem.Spec PyProof.Rows L2
end Pu
namespace Dn
open PySem Pu
def d__law_mix:Df:=runF 3 (sRet (e2 modF (e2 modF (e2 mulF (eVar 0) (eC (.int 48271))) (eVar 1)) (eVar 2)))
def d__law_cell:Df:=runF 2 (sSeq (sIf (eTst (e2 ltF (eVar 1) (eB lenF (aCons (eVar 0) aNil)))) (sRet (e2 ixF (eVar 0) (eVar 1))) sNil)
  (sRet (eC (.int 0))))
def d__law_large:Df:=runF 1 (sRet (e2 eqF (eB d__law_mix (aCons (e2 addF (eB d__law_cell (aCons (eVar 0) (aCons (eC (.int 0)) aNil))) (e2 mulF (eC (.int 7)) (eB lenF (aCons (eVar 0) aNil)))) (aCons (eC (.int 9871)) (aCons (eC (.int 8)) aNil)))) (eC (.int 3))))
def d__law_size:Df:=runF 3 (sSeq (sAsg (eC (.int 6)) (bName 2))
  (sSeq (sIf (eTru (eB d__law_large (aCons (eVar 0) aNil))) (sAsg (eC (.int 8)) (bName 2)) sNil)
  (sSeq (sIf (eTst (e2 gtF (eB lenF (aCons (eVar 0) aNil)) (eC (.int 63)))) (sAsg (eC (.int 9)) (bName 2)) sNil)
  (sRet (e2 addF (eC (.int 1)) (e2 modF (eB d__law_cell (aCons (eVar 0) (aCons (eVar 1) aNil))) (eVar 2)))))))
def d__law_word:Df:=runF 2 (sRet (eB tupF (aCons (eComp (iR1 (aCons (eVar 1) aNil)) 1 [0] (bName 0) (fun _=>.ok true) (eB d__law_mix (aCons (e2 addF (eVar 1) (e2 mulF (e2 mulF (eC (.int 17)) (eVar 0)) (eVar 0))) (aCons (eC (.int 9973)) (aCons (eC (.int 2)) aNil))))) aNil)))
def d_plus:Df:=runF 2 (sRet (eB tupF (aCons (eComp (iZip (aCons (eVar 0) (aCons (eVar 1) aNil))) 2 [] (bTwo 0 1) (fun _=>.ok true) (e2 modF (e2 addF (eVar 0) (eVar 1)) (eC (.int 2)))) aNil)))
def d_is_number:Df:=runF 3 (sSeq (sIf (tOrD (tNotD (eTru (eIs tInt (eVar 0)))) (eTru (eIs tBool (eVar 0)))) (sRet (eC (.bl false))) sNil)
  (sRet (eCh leF leF (eVar 1) (eVar 0) (eVar 2))))
def d_is_size:Df:=runF 1 (sRet (eB d_is_number (aCons (eVar 0) (aCons (eC (.int 1)) (aCons (eC (.int 10)) aNil)))))
def d_is_word:Df:=runF 2 (sSeq (sIf (tOrD (tNotD (eTru (eB d_is_size (aCons (eVar 1) aNil)))) (tOrD (tNotD (eTru (eIs tTupT (eVar 0)))) (eTst (e2 neF (eB lenF (aCons (eVar 0) aNil)) (eVar 1))))) (sRet (eC (.bl false))) sNil)
  (sRet (eB allF (aCons (eComp (iSeq (eVar 0)) 1 [] (bName 0) (fun _=>.ok true) (eB d_is_number (aCons (eVar 0) (aCons (eC (.int 0)) (aCons (eC (.int 1)) aNil))))) aNil))))
def d__law_sum:Df:=runF 2 (sRet (eB tupF (aCons (eComp (iZip (aCons (eVar 0) (aCons (eVar 1) aNil))) 2 [] (bTwo 0 1) (fun _=>.ok true) (e2 modF (e2 addF (eVar 0) (eVar 1)) (eC (.int 2)))) aNil)))
def d_none:Df:=runF 1 (sRet (e2 mulF (eTup (aCons (eC (.int 0)) aNil)) (eVar 0)))
end Dn
namespace Dn
open PySem Pu
abbrev scr (ns:List Int):PV:=.lst (ns.map PV.int)
def cell (ns:List Int) (k:Nat):Int:=ns.getD k 0
theorem s_mix (a p m:Int) (hp:0<p) (hm:0<m):d__law_mix [.int a,.int p,.int m]=.ok (.int (a*48271 % p % m)):=by
 simp [d__law_mix,r_run,entry,r_mod,r_mulL,r_mulR,-List.map_map,hp,hm]
theorem s_cell (ns:List Int) (k:Nat):d__law_cell [scr ns,.int k]=.ok (.int (cell ns k)):=by
 by_cases h:k<ns.length
 ·have e:=atF_nat PV.int ns k h;simp [d__law_cell,r_run,entry,r_mod,r_mulL,r_mulR,-List.map_map,scr,h,e,cell]
 ·simp [d__law_cell,r_run,entry,r_mod,r_mulL,r_mulR,-List.map_map,scr,h,cell]
theorem s_cell0 (ns:List Int):d__law_cell [scr ns,.int 0]=.ok (.int (cell ns 0)):=s_cell ns 0
def large (ns:List Int):Bool:=decide ((cell ns 0+7*(ns.length:Int))*48271 % 9871 % 8=3)
theorem s_large (ns:List Int):d__law_large [scr ns]=.ok (.bl (large ns)):=by
 have h0:=s_cell0 ns;have h1:=s_mix (cell ns 0+7*(ns.length:Int)) 9871 8 (by decide) (by decide);have h2:=EncOk.int.eqF ((cell ns 0+7*(ns.length:Int))*48271 % 9871 % 8) 3;unfold scr at *;simp [d__law_large,r_run,entry,r_mod,r_mulL,r_mulR,-List.map_map,h0,h1,h2,large]
def size (ns:List Int) (at_:Nat):Nat:=(1+cell ns at_ % (if large ns then 8 else 6)).toNat
theorem size_pos (ns:List Int) (k:Nat):1<=size ns k:=by
 unfold size;have:=Int.emod_nonneg (cell ns k) (b:=if large ns then 8 else 6) (by split<;>decide)
 lia
theorem size_le (ns:List Int) (k:Nat):size ns k<=8:=by
 unfold size;have h:cell ns k % (if large ns then 8 else 6)<8:=by
  split
  ·exact Int.emod_lt_of_pos _ (by decide)
  ·exact Int.lt_trans (Int.emod_lt_of_pos _ (by decide)) (by decide)
 lia
theorem s_size (ns:List Int) (k:Nat) (h63:ns.length<=63):d__law_size [scr ns,.int k]=.ok (.int (size ns k:Nat)):=by
 have h0:=s_cell ns k;have h1:=s_large ns;have hn:¬ (63:Int)<(ns.length:Int):=by lia
 have e:((size ns k:Nat):Int)=1+cell ns k % (if large ns then 8 else 6):=by
  unfold size;have:=Int.emod_nonneg (cell ns k) (b:=if large ns then 8 else 6) (by split<;>decide)
  lia
 rw [e];unfold scr at *;cases hl:large ns<;>rw [hl] at h1<;>simp [d__law_size,r_run,entry,r_mod,r_mulL,r_mulR,-List.map_map,h0,h1,hn]
def word (c:Int) (n:Nat):Pd.W:=(List.range n).map fun k:Nat=>decide ((c+17*(k:Int)*(k:Int))*48271 % 9973 % 2=1)
theorem word_length (c:Int) (n:Nat):(word c n).length=n:=by simp [word]
theorem mod2 (x:Int):PV.int (x % 2)=eb (decide (x % 2=1)):=by
 unfold eb
 rcases Int.emod_two_eq x with h | h<;>simp [h]
theorem s_word (c:Int) (n:Nat) (hn:n<=1000):d__law_word [.int c,.int n]=.ok (ew (word c n)):=by
 unfold d__law_word;simp only [r_run,entry,r_mod,r_mulL,r_mulR,-List.map_map,r_ret,r_eB,r_aCons];rw [r_compM (l:=List.range n) (q:=fun k:Nat=>PV.int (k:Int)) (h:=fun k:Nat=>eb (decide ((c+17*(k:Int)*(k:Int))*48271 % 9973 % 2=1)))]
 ·simp [ew,word]
 ·simp [r_rg1 (show n<=100000 by lia)]
 ·simp;lia
 ·intro k hk;have hk':k<n:=List.mem_range.mp hk;have h1:=s_mix (c+17*(k:Int)*(k:Int)) 9973 2 (by decide) (by decide);have hb : -1000000<(k:Int)/\(k:Int)<1000000:=by lia
  have e1:mulF (.int 17) (.int (k:Int))=.ok (.int (17*(k:Int))):=r_mulL (by decide);have e2:mulF (.int (17*(k:Int))) (.int (k:Int))=.ok (.int (17*(k:Int)*(k:Int))):=r_mulR hb;simp [caps,e1,e2,h1];exact mod2 _
theorem zip_words (a b:Pd.W):zpL (a.map eb) (b.map eb)=(a.zip b).map fun p=>PV.tup [eb p.1,eb p.2]:=zpL_map (γ:=Unit) eb eb a b
theorem eb_add (x y:Bool):addF (eb x) (eb y)=.ok (.int ((if x then 1 else 0)+(if y then 1 else 0))):=rfl
theorem eb_xor (x y:Bool):modF (.int ((if x then 1 else 0)+(if y then 1 else 0))) (.int 2)=.ok (eb (x^^y)):=by cases x<;>cases y<;>rfl
theorem s_plus_aux (a b:Pd.W) (h:a.length<=1000):eComp (iZip (aCons (eVar 0) (aCons (eVar 1) aNil))) 2 [] (bTwo 0 1) (fun _=>.ok true) (e2 modF (e2 addF (eVar 0) (eVar 1)) (eC (.int 2))) (entry 2 [ew a,ew b])=.ok (.lst ((Pd.pl a b).map eb)):=by
 rw [r_compM (l:=a.zip b) (q:=fun p=>PV.tup [eb p.1,eb p.2]) (h:=fun p=>eb (p.1^^p.2))]
 ·congr 2;rw [Pd.pl,<- List.map_uncurry_zip_eq_zipWith,List.map_map];rfl
 ·simp [entry,ew,zip_words]
 ·simp;lia
 ·intro p hp;simp [caps,eb_add,eb_xor]
theorem s_plus (a b:Pd.W) (h:a.length<=1000):d_plus [ew a,ew b]=.ok (ew (Pd.pl a b)):=by
 have e:=s_plus_aux a b h;unfold d_plus;simp only [r_run,r_ret,r_eB,r_aCons,e];simp [ew]
theorem s_sum (a b:Pd.W) (h:a.length<=1000):d__law_sum [ew a,ew b]=.ok (ew (Pd.pl a b)):=s_plus a b h
def isNum (lo hi:Int):PV->Bool
 | .int i=>decide (lo<=i)&&decide (i<=hi)
 | _=>false
theorem s_is_number (v:PV) (lo hi:Int):d_is_number [v,.int lo,.int hi]=.ok (.bl (isNum lo hi v)):=by
 cases v with
 | int i =>
  by_cases h1:lo<=i
  ·simp [d_is_number,r_run,entry,r_mod,r_mulL,r_mulR,-List.map_map,isNum,h1]
  ·simp [d_is_number,r_run,entry,r_mod,r_mulL,r_mulR,-List.map_map,isNum,h1]
 | _=>simp [d_is_number,r_run,entry,r_mod,r_mulL,r_mulR,-List.map_map,isNum]
def isSz (v:PV):Bool:=isNum 1 10 v
theorem s_is_size (v:PV):d_is_size [v]=.ok (.bl (isSz v)):=by
 simp [d_is_size,r_run,entry,r_mod,r_mulL,r_mulR,-List.map_map,s_is_number,isSz]
def isWd (v s:PV):Bool:=match v,s with
 | .tup xs,.int n=>isSz (.int n)&&decide ((xs.length:Int)=n)&&xs.all (isNum 0 1)
 | _,_=>false
theorem s_is_word (v s:PV) (hv:∀ xs,v=.tup xs->xs.length<=1000):d_is_word [v,s]=.ok (.bl (isWd v s)):=by
 unfold d_is_word;cases hs:isSz s with
 | false =>
  have e:isWd v s=false:=by unfold isWd;split<;>simp_all
  simp [r_run,entry,r_mod,r_mulL,r_mulR,-List.map_map,s_is_size,hs,e]
 | true =>
  cases s with
  | int n =>
   cases v with
   | tup xs =>
    have hl:=hv xs rfl;have hne:=EncOk.int.neF (xs.length:Int) n
    by_cases h:(xs.length:Int)=n
    ·rw [h] at hne;have hc:eComp (iSeq (eVar 0)) 1 [] (bName 0) (fun _=>.ok true) (eB d_is_number (aCons (eVar 0) (aCons (eC (.int 0)) (aCons (eC (.int 1)) aNil)))) [some (Sl.val (PV.tup xs)),some (Sl.val (PV.int n))]=.ok (.lst ((xs.map (isNum 0 1)).map PV.bl)):=by
      rw [r_compM (l:=xs) (q:=id) (h:=fun x=>PV.bl (isNum 0 1 x))]
      ·simp [List.map_map]
      ·simp
      ·lia
      ·intro x hx;simp [caps,s_is_number]
     simp [r_run,entry,r_mod,r_mulL,r_mulR,-List.map_map,s_is_size,hs,h,hne,hc,all_bls,isWd,-List.map_map,List.all_map]
    ·have h':decide ((xs.length:Int)=n)=false:=by simpa using h
     simp [r_run,entry,r_mod,r_mulL,r_mulR,-List.map_map,s_is_size,hs,hne,h',isWd]
   | _=>simp [r_run,entry,r_mod,r_mulL,r_mulR,-List.map_map,s_is_size,hs,isWd]
  | _=>simp [isSz,isNum] at hs
theorem all_bits (w:Pd.W):(w.map eb).all (isNum 0 1)=true:=by
 rw [List.all_eq_true];intro v hv;obtain ⟨b,_,rfl⟩:=List.mem_map.mp hv;cases b<;>rfl
theorem isWd_ew (w:Pd.W) (n:Nat) (h:w.length=n) (h1:1<=n) (h2:n<=10):isWd (ew w) (.int n)=true:=by
 simp only [isWd,ew,all_bits,isSz,isNum,List.length_map,h,Bool.and_true,decide_true];simp;lia
def cnt (w:Pd.W):Nat:=w.count true
theorem bits_sum (w:Pd.W):(w.map fun b=>if b then (1:Int) else 0).sum=(cnt w:Nat):=by
 induction w with
 | nil=>rfl
 | cons b w ih=>cases b<;>simp [cnt,List.count_cons] at*<;> lia
theorem ew_ints (w:Pd.W):w.map eb=(w.map fun b=>if b then (1:Int) else 0).map PV.int:=by
 rw [List.map_map];rfl
theorem sum_bits (w:Pd.W):sumF [.lst (w.map eb)]=.ok (.int (cnt w:Nat)):=by
 rw [ew_ints,sum_ints,bits_sum]
theorem flat_rep {α:Type} (n:Nat) (x:α):(List.replicate n [x]).flatten=List.replicate n x:=by
 induction n with
 | zero=>rfl
 | succ n ih=>rw [List.replicate_succ,List.replicate_succ,List.flatten_cons,ih];rfl
theorem noughts (n:Nat) (h:n<=1000):mulF (.tup [.int 0]) (.int (n:Int))=.ok (ew (Pd.zr n)):=by
 rw [r_mulT (by simp;lia) (by lia),flat_rep];simp [ew,Pd.zr,eb]
theorem s_none (n:Nat) (h:n<=1000):d_none [.int n]=.ok (ew (Pd.zr n)):=by
 simp [d_none,r_run,entry,r_mod,r_mulL,r_mulR,-List.map_map,noughts n h]
def emodN (x:Int) (m:Nat):Nat:=(x % (m:Int)).toNat
theorem emodN_lt (x:Int) {m:Nat} (h:0<m):emodN x m<m:=by
 unfold emodN;have h1:=Int.emod_nonneg x (b:=(m:Int)) (by lia);have h2:=Int.emod_lt_of_pos x (b:=(m:Int)) (by lia)
 lia
theorem emodN_eq (x:Int) {m:Nat} (h:0<m):x % (m:Int)=(emodN x m:Nat):=by
 unfold emodN;have h1:=Int.emod_nonneg x (b:=(m:Int)) (by lia)
 lia
theorem emodN_lit (x:Int) (m:Nat) (h:0<m) (M:Int) (e:M=(m:Int)):x % M=(emodN x m:Nat):=by subst e;exact emodN_eq x h
theorem at_written (vs:List PV) (i:Nat) (h:i<vs.length):atF vs (i:Int)=.ok vs[i]:=by
 have:=atF_nat id vs i h;simpa using this
end Dn
namespace Dn
open PySem Pu
def d__law_words:Df:=runF 4 (sSeq (sAsg (e2 modF (e2 fdvF (eB d__law_cell (aCons (eVar 0) (aCons (eVar 1) aNil))) (eC (.int 7))) (e2 addF (eVar 2) (eC (.int 1)))) (bName 3))
  (sRet (eComp (iR1 (aCons (eVar 3) aNil)) 1 [0,1,2] (bName 0) (fun _=>.ok true) (eB d__law_word (aCons (e2 addF (eB d__law_cell (aCons (eVar 1) (aCons (e2 addF (e2 addF (eVar 2) (eC (.int 1))) (eVar 0)) aNil))) (e2 mulF (e2 mulF (eC (.int 31)) (eVar 0)) (eVar 0))) (aCons (eVar 3) aNil))))))
def d__law_spread:Df:=runF 4 (sSeq (sAsg (eLst (aCons (e2 mulF (eTup (aCons (eC (.int 0)) aNil)) (eVar 0)) aNil)) (bName 2))
  (sSeq (sFor (iSeq (eVar 1)) (bName 3) (sIf (eTst (e2 ninF (eVar 3) (eVar 2))) (sAsg (e2 addF (eVar 2) (eComp (iSeq (eVar 2)) 1 [3] (bName 0) (fun _=>.ok true) (eB d__law_sum (aCons (eVar 0) (aCons (eVar 1) aNil))))) (bName 2)) sNil))
  (sRet (eSrt (eVar 2)))))
def d_head_of:Df:=runF 1 (sRet (e2 indexF (eVar 0) (eC (.int 1))))
def d_rest_of:Df:=runF 3 (sSeq (sFor (iSeq (eVar 0)) (bName 2) (sIf (eTst (e2 eqF (e2 ixF (eVar 1) (eB d_head_of (aCons (eVar 2) aNil))) (eC (.int 1)))) (sAsg (eB d_plus (aCons (eVar 1) (aCons (eVar 2) aNil))) (bName 1)) sNil))
  (sRet (eVar 1)))
def d_with_word:Df:=runF 5 (sSeq (sAsg (eB d_rest_of (aCons (eVar 0) (aCons (eVar 1) aNil))) (bName 2))
  (sSeq (sIf (eTst (e2 ninF (eC (.int 1)) (eVar 2))) (sRet (eVar 0)) sNil)
  (sSeq (sAsg (eB d_head_of (aCons (eVar 2) aNil)) (bName 3))
  (sSeq (sAsg (eComp (iSeq (eVar 0)) 1 [3,2] (bName 0) (fun _=>.ok true) (eIf (eTst (e2 eqF (e2 ixF (eVar 0) (eVar 1)) (eC (.int 1)))) (eB d_plus (aCons (eVar 0) (aCons (eVar 2) aNil))) (eVar 0))) (bName 4))
  (sRet (eSrtD (e2 addF (eVar 4) (eLst (aCons (eVar 2) aNil)))))))))
def d_made:Df:=runF 5 (sSeq (sIf (tOrD (tNotD (eTru (eB d_is_size (aCons (eVar 0) aNil)))) (tOrD (tNotD (eTru (eIs tLstT (eVar 1)))) (eTst (e2 gtF (eB lenF (aCons (eVar 1) aNil)) (eC (.int 20)))))) sBad sNil)
  (sSeq (sFor (iEnum (eVar 1)) (bTwo 2 3) (sIf (tNotD (eTru (eB d_is_word (aCons (eVar 3) (aCons (eVar 0) aNil))))) sBad sNil))
  (sSeq (sAsg (eLst aNil) (bName 4))
  (sSeq (sFor (iSeq (eVar 1)) (bName 3) (sAsg (eB d_with_word (aCons (eVar 4) (aCons (eVar 3) aNil))) (bName 4)))
  (sRet (eTup (aCons (eVar 0) (aCons (eB tupF (aCons (eVar 4) aNil)) aNil))))))))
def d__law_rows:Df:=runF 9 (sSeq (sAsg (eB lenF (aCons (e2 ixF (eVar 0) (eC (.int 0))) aNil)) (bName 1))
  (sSeq (sOwnL 2 aNil)
  (sSeq (sFor (iR1 (aCons (eVar 1) aNil)) (bName 3) (sSeq (sAsg (eComp (iSeq (eVar 0)) 1 [3] (bName 0) (tAndD (eTst (e2 inF (eC (.int 1)) (eVar 0))) (eTst (e2 eqF (e2 indexF (eVar 0) (eC (.int 1))) (eVar 1)))) (eVar 0)) (bName 4))
  (sIf (eTru (eVar 4)) (sApp 2 (e2 ixF (eVar 4) (eC (.int 0)))) sNil)))
  (sSeq (sFrz 2) (sSeq (sAsg (eComp (iSeq (eVar 2)) 1 [] (bName 0) (fun _=>.ok true) (e2 indexF (eVar 0) (eC (.int 1)))) (bName 5))
  (sSeq (sOwnL 6 aNil)
  (sSeq (sFor (iR1 (aCons (eB lenF (aCons (eVar 2) aNil)) aNil)) (bName 7) (sFor (iSeq (eVar 0)) (bName 8) (sIf (eTst (e2 eqF (eComp (iSeq (eVar 5)) 1 [8] (bName 0) (fun _=>.ok true) (e2 ixF (eVar 1) (eVar 0))) (eComp (iR1 (aCons (eB lenF (aCons (eVar 2) aNil)) aNil)) 1 [7] (bName 0) (fun _=>.ok true) (eB intF (aCons (e2 eqF (eVar 0) (eVar 1)) aNil))))) (sApp 6 (eVar 8)) sNil)))
  (sSeq (sFrz 6) (sRet (eTup (aCons (eVar 1) (aCons (eB tupF (aCons (eVar 6) aNil)) aNil))))))))))))
end Dn
namespace Dn
open PySem Pu
abbrev ewl (ws:List Pd.W):PV:=.lst (ws.map ew)
abbrev ewt (ws:List Pd.W):PV:=.tup (ws.map ew)
def bi (b:Bool):Int:=if b then 1 else 0
theorem eb_bi (w:Pd.W):ew w=tpv (w.map bi):=by
 unfold ew tpv;rw [List.map_map];rfl
theorem llt_wlt:∀ a b:Pd.W,PuS.llt (a.map bi) (b.map bi)=Pd.wlt a b
 | [],[]=>rfl
 | [],_::_=>rfl
 | _::_,[]=>rfl
 | x::a,y::b=>by
  have ih:=llt_wlt a b;simp only [List.map_cons,PuS.llt,Pd.wlt,ih];cases x<;>cases y<;>simp [bi]
theorem bi_inj {a b:Pd.W} (h:a.map bi=b.map bi):a=b:=by
 have:∀ a b:Pd.W,a.map bi=b.map bi->a=b:=by
  intro a
  induction a with
  | nil=>intro b h;cases b;rfl;simp at h
  | cons x a ih =>
   intro b h;cases b with
   | nil=>simp at h
   | cons y b =>
    simp only [List.map_cons,List.cons.injEq] at h;rw [ih b h.2];congr 1;cases x<;>cases y<;>simp [bi] at h<;>rfl
 exact this a b h
theorem srt_ew (l:List Pd.W) (hl:l.length<=2000) (hne:∀ w∈l,w≠[]):srtF false (ewl l)=.ok (ewl (Pd.srt l)):=by
 have e1:l.map ew=(l.map fun w=>w.map bi).map tpv:=by rw [List.map_map];exact List.map_congr_left fun w _=>eb_bi w
 have e2:tupsOf (l.map ew)=some (l.map fun w=>w.map bi):=by
  rw [e1];refine tupsOf_map fun ns hns=>?_
  obtain ⟨w,hw,rfl⟩:=List.mem_map.mp hns;simpa using hne w hw
 have e3:sortL false (l.map fun w=>w.map bi)=(Pd.srt l).map fun w=>w.map bi:=by
  refine (sortL_unique ((Pd.srt_perm l).map _) ?_).symm;rw [List.pairwise_map];refine (Pd.srt_ord l).imp fun {a b} h=>?_
  simp only [ordB,Bool.false_eq_true,if_false,lle,llt_wlt];exact h
 simp only [srtF,e2,optR,Res.bind_ok,List.length_map];rw [if_pos (by lia),e3,List.map_map];congr 2;exact List.map_congr_left fun w _=>(eb_bi w).symm
theorem srtD_ew (l:List Pd.W) (hl:l.length<=2000) (hne:∀ w∈l,w≠[]):srtF true (ewl l)=.ok (ewl (Pd.srtD l)):=by
 have e1:l.map ew=(l.map fun w=>w.map bi).map tpv:=by rw [List.map_map];exact List.map_congr_left fun w _=>eb_bi w
 have e2:tupsOf (l.map ew)=some (l.map fun w=>w.map bi):=by
  rw [e1];refine tupsOf_map fun ns hns=>?_
  obtain ⟨w,hw,rfl⟩:=List.mem_map.mp hns;simpa using hne w hw
 have e3:sortL true (l.map fun w=>w.map bi)=(Pd.srtD l).map fun w=>w.map bi:=by
  refine (sortL_unique ((Pd.srtD_perm l).map _) ?_).symm;rw [List.pairwise_map];refine (Pd.srtD_ord l).imp fun {a b} h=>?_
  simp only [ordB,if_true,lle,llt_wlt];exact h
 simp only [srtF,e2,optR,Res.bind_ok,List.length_map];rw [if_pos (by lia),e3,List.map_map];congr 2;exact List.map_congr_left fun w _=>(eb_bi w).symm
theorem ne_nil_of_len {n:Nat} (h1:1<=n) {w:Pd.W} (h:w.length=n):w≠[]:=by rintro rfl;simp at h;lia
def many (ns:List Int) (at_ n:Nat):Nat:=emodN (cell ns at_/7) (n+1)
def lws (ns:List Int) (at_ n:Nat):List Pd.W:=(List.range (many ns at_ n)).map fun k:Nat=>word (cell ns (at_+1+k)+31*(k:Int)*(k:Int)) n
theorem lws_all (ns:List Int) (at_ n:Nat):Pd.All n (lws ns at_ n):=fun w hw=>by
 obtain ⟨k,_,rfl⟩:=List.mem_map.mp hw;exact word_length _ _
theorem s_words (ns:List Int) (at_ n:Nat) (hn:n<=10):d__law_words [scr ns,.int at_,.int n]=.ok (ewl (lws ns at_ n)):=by
 have c0:=s_cell ns at_;have e1:fdvF (.int (cell ns at_)) (.int 7)=.ok (.int (cell ns at_/7)):=r_fdv (by decide) (by decide);have g2:modF (.int (cell ns at_/7)) (.int ((n:Int)+1))=.ok (.int (many ns at_ n:Nat)):=by
  rw [r_mod (by lia)];have:=emodN_eq (cell ns at_/7) (m:=n+1) (by lia);exact congrArg (fun x=>Res.ok (PV.int x)) this
 have hm:=emodN_lt (cell ns at_/7) (m:=n+1) (by lia);have hm':many ns at_ n<=10:=by unfold many;lia
 have hc:eComp (iR1 (aCons (eVar 3) aNil)) 1 [0,1,2] (bName 0) (fun _=>.ok true) (eB d__law_word (aCons (e2 addF (eB d__law_cell (aCons (eVar 1) (aCons (e2 addF (e2 addF (eVar 2) (eC (.int 1))) (eVar 0)) aNil))) (e2 mulF (e2 mulF (eC (.int 31)) (eVar 0)) (eVar 0))) (aCons (eVar 3) aNil)))
   [some (Sl.val (scr ns)),some (Sl.val (.int (at_:Int))),some (Sl.val (.int (n:Int))),some (Sl.val (.int (many ns at_ n:Nat)))]=.ok (ewl (lws ns at_ n)):=by
  rw [r_compM (l:=List.range (many ns at_ n)) (q:=fun k:Nat=>PV.int (k:Int)) (h:=fun k:Nat=>ew (word (cell ns (at_+1+k)+31*(k:Int)*(k:Int)) n))]
  ·unfold ewl lws;rw [List.map_map];rfl
  ·simp [r_rg1 (show many ns at_ n<=100000 by lia)]
  ·simp;lia
  ·intro k hk;have hk':k<many ns at_ n:=List.mem_range.mp hk;have hb : -1000000<(k:Int)/\(k:Int)<1000000:=by lia
   have f1:mulF (.int 31) (.int (k:Int))=.ok (.int (31*(k:Int))):=r_mulL (by decide);have f2:mulF (.int (31*(k:Int))) (.int (k:Int))=.ok (.int (31*(k:Int)*(k:Int))):=r_mulR hb;have f3:d__law_cell [scr ns,.int ((at_:Int)+1+(k:Int))]=.ok (.int (cell ns (at_+1+k))):=s_cell ns (at_+1+k);have f4:=s_word (cell ns (at_+1+k)+31*(k:Int)*(k:Int)) n (by lia);simp [caps,f1,f2,f3,f4]
 simp [d__law_words,r_run,entry,r_mod,r_mulL,r_mulR,-List.map_map,c0,e1,g2,hc]
theorem nodup_len {n:Nat} {l:List Pd.W} (nd:l.Nodup) (ha:Pd.All n l):l.length<=2 ^ n:=by
 rw [<- Pd.aw_length n];have p:l.Perm ((Pd.aw n).filter fun w=>decide (w∈l)):=Pd.perm_of_mem nd ((Pd.aw_nodup n).filter _) fun w=>by
  rw [List.mem_filter,decide_eq_true_eq];exact ⟨fun h=>⟨Pd.mem_aw.mpr (ha w h),h⟩,fun h=>h.2⟩
 rw [p.length_eq];exact List.length_filter_le _ _
theorem pow_le {n:Nat} (h:n<=10):2 ^ n<=1024:=by
 have:=Nat.pow_le_pow_right (n:=2) (by decide) h;simpa using this
theorem sums_snoc (n:Nat) (us:List Pd.W) (w:Pd.W):Pd.sums n (us++[w])=if w∈Pd.sums n us then Pd.sums n us else Pd.sums n us++(Pd.sums n us).map fun x=>Pd.pl x w:=by
 unfold Pd.sums;rw [List.foldl_append];rfl
theorem sums_len_all {n:Nat} {ws:List Pd.W} (ha:Pd.All n ws):Pd.All n (Pd.sums n ws):=fun v hv=>(((Pd.sums_all ha).2 v).mp hv).length ha
theorem sums_bound {n:Nat} (h2:n<=10) {ws:List Pd.W} (ha:Pd.All n ws):(Pd.sums n ws).length<=1024 :=
 Nat.le_trans (nodup_len (Pd.sums_all ha).1 (sums_len_all ha)) (pow_le h2)
theorem s_spread_g (n:Nat) (h1:1<=n) (h2:n<=10) (ws:List Pd.W) (ha:Pd.All n ws) (V:PV) (hV:seqF V=.ok (ws.map ew)):d__law_spread [.int n,V]=.ok (ewl (Pd.sprd n ws)):=by
 have hn:=noughts n (by lia);have loop:∃ ρ',forK (bName 3) (sIf (eTst (e2 ninF (eVar 3) (eVar 2))) (sAsg (e2 addF (eVar 2) (eComp (iSeq (eVar 2)) 1 [3] (bName 0) (fun _=>.ok true) (eB d__law_sum (aCons (eVar 0) (aCons (eVar 1) aNil))))) (bName 2)) sNil)
   [some (Sl.val (.int (n:Int))),some (Sl.val V),some (Sl.val (.lst [ew (Pd.zr n)])),none] (ws.map ew)=.ok (.nx ρ')/\∃ g,ρ'=[some (Sl.val (.int (n:Int))),some (Sl.val V),some (Sl.val (ewl (Pd.sums n ws))),g]:=by
  refine forL_inv (fun done ρ=>∃ g,ρ=[some (Sl.val (.int (n:Int))),some (Sl.val V),some (Sl.val (ewl (Pd.sums n done))),g]) ?_ ⟨none,rfl⟩
  rintro done w rest ρ e ⟨g,rfl⟩;have hd:Pd.All n done:=fun x hx=>ha x (by rw [e];simp [hx])
  have hw:w.length=n:=ha w (by rw [e];simp);have hb:=sums_bound h2 hd;have hin:=EncOk.ew.ninL w (Pd.sums n done);rw [sums_snoc]
  by_cases hm:w∈Pd.sums n done
  ·rw [if_pos hm];simp only [hm,decide_true,Bool.not_true] at hin;simp [hin]
  ·rw [if_neg hm];simp only [hm,decide_false,Bool.not_false] at hin;have hc:eComp (iSeq (eVar 2)) 1 [3] (bName 0) (fun _=>.ok true) (eB d__law_sum (aCons (eVar 0) (aCons (eVar 1) aNil))) [some (Sl.val (.int (n:Int))),some (Sl.val V),some (Sl.val (ewl (Pd.sums n done))),some (Sl.val (ew w))]=.ok (ewl ((Pd.sums n done).map fun x=>Pd.pl x w)):=by
    rw [r_compM (l:=Pd.sums n done) (q:=ew) (h:=fun x=>ew (Pd.pl x w))]
    ·unfold ewl;rw [List.map_map];rfl
    ·simp
    ·lia
    ·intro x hx;have:=s_sum x w (by rw [sums_len_all hd x hx];lia);simp [caps,this]
   have hadd:addF (ewl (Pd.sums n done)) (ewl ((Pd.sums n done).map fun x=>Pd.pl x w))=.ok (ewl (Pd.sums n done++(Pd.sums n done).map fun x=>Pd.pl x w)):=by
    have:=r_addL (vs:=(Pd.sums n done).map ew) (us:=((Pd.sums n done).map fun x=>Pd.pl x w).map ew) (by simp;lia)
    rw [<- List.map_append] at this;exact this
   unfold ewl at *;simp [hin,hc,hadd,-List.map_map,-List.map_append]
 obtain ⟨ρ',e1,g,rfl⟩:=loop;have hs:=srt_ew (Pd.sums n ws) (by have:=sums_bound h2 ha;lia) fun w hw=>ne_nil_of_len h1 (sums_len_all ha w hw)
 simp [d__law_spread,r_run,entry,r_mod,r_mulL,r_mulR,-List.map_map,hn,hV,e1,hs,Pd.sprd]
theorem s_spread (n:Nat) (h1:1<=n) (h2:n<=10) (ws:List Pd.W) (ha:Pd.All n ws):d__law_spread [.int n,ewl ws]=.ok (ewl (Pd.sprd n ws)):=s_spread_g n h1 h2 ws ha _ rfl
theorem s_spreadT (n:Nat) (h1:1<=n) (h2:n<=10) (ws:List Pd.W) (ha:Pd.All n ws):d__law_spread [.int n,ewt ws]=.ok (ewl (Pd.sprd n ws)):=s_spread_g n h1 h2 ws ha _ rfl
end Dn
namespace Dn
open PySem Pu
theorem s_head (w:Pd.W) (h:true∈w):d_head_of [ew w]=.ok (.int (Pd.hd w:Nat)):=by
 have:=index1 w h;simp [d_head_of,r_run,entry,r_mod,r_mulL,r_mulR,-List.map_map,this]
theorem eq1 (b:Bool):eqF (eb b) (.int 1)=.ok (.bl b):=by cases b<;>rfl
theorem s_rest_g (n:Nat) (h2:n<=10) (rows:List Pd.W) (ha:Pd.All n rows) (ho:∀ r∈rows,true∈r) (w:Pd.W) (hw:w.length=n) (V:PV) (hV:seqF V=.ok (rows.map ew)):d_rest_of [V,ew w]=.ok (ew (Pd.rest rows w)):=by
 have loop:∃ ρ',forK (bName 2) (sIf (eTst (e2 eqF (e2 ixF (eVar 1) (eB d_head_of (aCons (eVar 2) aNil))) (eC (.int 1)))) (sAsg (eB d_plus (aCons (eVar 1) (aCons (eVar 2) aNil))) (bName 1)) sNil)
   [some (Sl.val V),some (Sl.val (ew w)),none] (rows.map ew)=.ok (.nx ρ')/\∃ g,ρ'=[some (Sl.val V),some (Sl.val (ew (Pd.rest rows w))),g]:=by
  refine forL_inv (fun done ρ=>∃ g,ρ=[some (Sl.val V),some (Sl.val (ew (Pd.rest done w))),g]) ?_ ⟨none,rfl⟩
  rintro done r rest ρ e ⟨g,rfl⟩;have hd:Pd.All n done:=fun x hx=>ha x (by rw [e];simp [hx])
  have hr:r.length=n:=ha r (by rw [e];simp);have h1:true∈r:=ho r (by rw [e];simp);have hl:=Pd.rest_length hd hw;have e1:=s_head r h1;have e2:=ixT (Pd.rest done w) (Pd.hd r) (by rw [hl,<- hr];exact Pd.hd_lt h1);have e3:=s_plus (Pd.rest done w) r (by rw [hl];lia);have e4:Pd.rest (done++[r]) w=Pd.stp (Pd.rest done w) r:=by unfold Pd.rest;rw [List.foldl_append];rfl
  rw [e4];unfold Pd.stp;have e5:=eq1 (Pd.bt (Pd.rest done w) (Pd.hd r));cases hb:Pd.bt (Pd.rest done w) (Pd.hd r) with
  | true=>rw [hb] at e2 e5;simp [e1,e2,e3,e5]
  | false=>rw [hb] at e2 e5;simp [e1,e2,e3,e5]
 obtain ⟨ρ',e1,g,rfl⟩:=loop;simp [d_rest_of,r_run,entry,r_mod,r_mulL,r_mulR,-List.map_map,hV,e1]
theorem s_rest (n:Nat) (h2:n<=10) (rows:List Pd.W) (ha:Pd.All n rows) (ho:∀ r∈rows,true∈r) (w:Pd.W) (hw:w.length=n):d_rest_of [ewl rows,ew w]=.ok (ew (Pd.rest rows w)):=s_rest_g n h2 rows ha ho w hw _ rfl
theorem s_with (n:Nat) (h1:1<=n) (h2:n<=10) (rows:List Pd.W) (hR:Pd.Rows n rows) (hl:rows.length<=1000) (w:Pd.W) (hw:w.length=n):d_with_word [ewl rows,ew w]=.ok (ewl (Pd.ww rows w)):=by
 have e1:=s_rest n h2 rows hR.len hR.one w hw;have hrl:=Pd.rest_length hR.len hw;have hni:=nin1 (Pd.rest rows w)
 by_cases hm:true∈Pd.rest rows w
 ·have e2:=s_head _ hm;simp only [hm,decide_true,Bool.not_true] at hni;have hc:eComp (iSeq (eVar 0)) 1 [3,2] (bName 0) (fun _=>.ok true) (eIf (eTst (Pu.e2 eqF (Pu.e2 ixF (eVar 0) (eVar 1)) (eC (.int 1)))) (eB d_plus (aCons (eVar 0) (aCons (eVar 2) aNil))) (eVar 0))
    [some (Sl.val (ewl rows)),some (Sl.val (ew w)),some (Sl.val (ew (Pd.rest rows w))),some (Sl.val (.int (Pd.hd (Pd.rest rows w):Nat))),none]=.ok (ewl (rows.map (Pd.clr (Pd.rest rows w)))):=by
   rw [r_compM (l:=rows) (q:=ew) (h:=fun x=>ew (Pd.clr (Pd.rest rows w) x))]
   ·unfold ewl;rw [List.map_map];rfl
   ·simp
   ·lia
   ·intro x hx;have hxl:=hR.len x hx;have e3:=ixT x (Pd.hd (Pd.rest rows w)) (by rw [hxl,<- hrl];exact Pd.hd_lt hm);have e4:=s_plus x (Pd.rest rows w) (by lia);have e5:=eq1 (Pd.bt x (Pd.hd (Pd.rest rows w)));unfold Pd.clr;cases hb:Pd.bt x (Pd.hd (Pd.rest rows w)) with
    | true=>rw [hb] at e3 e5;simp [caps,e3,e4,e5]
    | false=>rw [hb] at e3 e5;simp [caps,e3,e4,e5]
  have hadd:addF (ewl (rows.map (Pd.clr (Pd.rest rows w)))) (.lst [ew (Pd.rest rows w)])=.ok (ewl (rows.map (Pd.clr (Pd.rest rows w))++[Pd.rest rows w])):=by
   have:=r_addL (vs:=(rows.map (Pd.clr (Pd.rest rows w))).map ew) (us:=[ew (Pd.rest rows w)]) (by simp;lia);rw [this];unfold ewl;rw [List.map_append];rfl
  have hs:=srtD_ew (rows.map (Pd.clr (Pd.rest rows w))++[Pd.rest rows w]) (by simp;lia) fun x hx=>by
   rcases List.mem_append.mp hx with hx | hx
   ·obtain ⟨y,hy,rfl⟩:=List.mem_map.mp hx;exact ne_nil_of_len h1 (Pd.clr_length hrl (hR.len y hy))
   ·rw [List.mem_singleton.mp hx];exact ne_nil_of_len h1 hrl
  have e6:Pd.ww rows w=Pd.srtD (rows.map (Pd.clr (Pd.rest rows w))++[Pd.rest rows w]):=by unfold Pd.ww;rw [if_pos hm]
  rw [e6];unfold ewl at *;simp [d_with_word,r_run,entry,r_mod,r_mulL,r_mulR,-List.map_map,e1,hni,e2,hc,hadd,hs,-List.map_append]
 ·simp only [hm,decide_false,Bool.not_false] at hni;have e6:Pd.ww rows w=rows:=by unfold Pd.ww;rw [if_neg hm]
  rw [e6];simp [d_with_word,r_run,entry,r_mod,r_mulL,r_mulR,-List.map_map,e1,hni]
theorem rows_len {n:Nat} {rows:List Pd.W} (h:Pd.Rows n rows):rows.length<=n:=by
 have nd:(rows.map Pd.hd).Nodup:=Pd.nodup_map_on h.nodup fun x hx y hy e=>h.inj hx hy e
 have p:(rows.map Pd.hd).Perm ((List.range n).filter fun k=>decide (k∈rows.map Pd.hd)):=Pd.perm_of_mem nd (List.nodup_range.filter _) fun k=>by
  rw [List.mem_filter,decide_eq_true_eq,List.mem_range];refine ⟨fun hk=>⟨?_,hk⟩,fun hk=>hk.2⟩
  obtain ⟨r,hr,rfl⟩:=List.mem_map.mp hk;have:=Pd.hd_lt (h.one r hr);rw [h.len r hr] at this;exact this
 have:=p.length_eq;rw [List.length_map] at this;rw [this];exact Nat.le_trans (List.length_filter_le _ _) (by simp)
theorem mk_snoc (us:List Pd.W) (w:Pd.W):Pd.mk (us++[w])=Pd.ww (Pd.mk us) w:=by unfold Pd.mk;rw [List.foldl_append];rfl
abbrev edk (n:Nat) (rows:List Pd.W):PV:=.tup [.int (n:Int),ewt rows]
theorem s_made (n:Nat) (h1:1<=n) (h2:n<=10) (ws:List Pd.W) (ha:Pd.All n ws) (hl:ws.length<=20):d_made [.int n,ewl ws]=.ok (edk n (Pd.mk ws)):=by
 have hsz:isSz (.int (n:Int))=true:=by simp [isSz,isNum];lia
 have hln:¬ (20:Int)<(ws.length:Int):=by lia
 have loop1:∃ ρ',forK (bTwo 2 3) (sIf (tNotD (eTru (eB d_is_word (aCons (eVar 3) (aCons (eVar 0) aNil))))) sBad sNil) [some (Sl.val (.int (n:Int))),some (Sl.val (ewl ws)),none,none,none] (enumL 0 (ws.map ew))=.ok (.nx ρ')/\∃ g1 g2,ρ'=[some (Sl.val (.int (n:Int))),some (Sl.val (ewl ws)),g1,g2,none]:=by
  rw [enumL_map];refine forL_inv (fun done ρ=>∃ g1 g2,ρ=[some (Sl.val (.int (n:Int))),some (Sl.val (ewl ws)),g1,g2,none]) ?_ ⟨none,none,rfl⟩
  rintro done p rest ρ e ⟨g1,g2,rfl⟩;have hp:p.1∈ws:=by
   have:p∈ws.zipIdx 0:=by rw [e];simp
   exact List.fst_mem_of_mem_zipIdx this
  have hk:=s_is_word (ew p.1) (.int (n:Int)) (fun xs h=>by cases h;simp [ha p.1 hp];lia)
  rw [isWd_ew p.1 n (ha p.1 hp) h1 h2] at hk;simp [hk]
 obtain ⟨ρ1,l1,g1,g2,rfl⟩:=loop1;have loop2:∃ ρ',forK (bName 3) (sAsg (eB d_with_word (aCons (eVar 4) (aCons (eVar 3) aNil))) (bName 4)) [some (Sl.val (.int (n:Int))),some (Sl.val (ewl ws)),g1,g2,some (Sl.val (.lst []))] (ws.map ew)=.ok (.nx ρ')/\∃ g3,ρ'=[some (Sl.val (.int (n:Int))),some (Sl.val (ewl ws)),g1,g3,some (Sl.val (ewl (Pd.mk ws)))]:=by
  refine forL_inv (fun done ρ=>∃ g3,ρ=[some (Sl.val (.int (n:Int))),some (Sl.val (ewl ws)),g1,g3,some (Sl.val (ewl (Pd.mk done)))]) ?_ ⟨g2,rfl⟩
  rintro done w rest ρ e ⟨g3,rfl⟩;have hd:Pd.All n done:=fun x hx=>ha x (by rw [e];simp [hx])
  have hw:w.length=n:=ha w (by rw [e];simp);have hR:=(Pd.mk_all hd).1;have:=s_with n h1 h2 (Pd.mk done) hR (by have:=rows_len hR;lia) w hw;rw [mk_snoc];simp [this]
 obtain ⟨ρ2,l2,g3,rfl⟩:=loop2;simp [d_made,r_run,entry,r_mod,r_mulL,r_mulR,-List.map_map,s_is_size,hsz,hln,l1,l2]
end Dn
namespace Dn
open PySem Pu
def atPl (S:List Pd.W) (p:Nat):List Pd.W:=S.filter fun w=>decide (true∈w)&&decide (Pd.hd w=p)
def frs (S:List Pd.W) (p:Nat):List Pd.W:=(atPl S p).take 1
def firsts (n:Nat) (S:List Pd.W):List Pd.W:=(List.range n).flatMap fun p=>frs S p
theorem frs_hd {S:List Pd.W} {p:Nat}:(frs S p).map Pd.hd=if (atPl S p).isEmpty then [] else [p]:=by
 unfold frs;cases h:atPl S p with
 | nil=>rfl
 | cons w l =>
  have:w∈atPl S p:=by rw [h];exact List.mem_cons_self
  have:=(List.mem_filter.mp this).2;simp at this;simp [this.2]
theorem flat_filter (f:Nat->Bool):∀ l:List Nat,(l.flatMap fun p=>if f p then [] else [p])=l.filter fun p=>!f p
 | []=>rfl
 | p::l=>by
  rw [List.flatMap_cons,flat_filter f l,List.filter_cons];cases f p<;>rfl
theorem firsts_hd (n:Nat) (S:List Pd.W):(firsts n S).map Pd.hd=Pd.hds n S:=by
 unfold firsts Pd.hds;rw [List.map_flatMap];simp only [frs_hd];exact flat_filter (fun p=>(atPl S p).isEmpty) (List.range n)
theorem firsts_len (n:Nat) (S:List Pd.W):(firsts n S).length=(Pd.hds n S).length:=by rw [<- firsts_hd,List.length_map]
theorem hds_len (n:Nat) (S:List Pd.W):(Pd.hds n S).length<=n:=by
 unfold Pd.hds;exact Nat.le_trans (List.length_filter_le _ _) (by simp)
theorem hds_lt {n:Nat} {S:List Pd.W} {p:Nat} (h:p∈Pd.hds n S):p<n:=List.mem_range.mp (List.mem_filter.mp h).1
theorem firsts_mem {n:Nat} {S:List Pd.W} {w:Pd.W} (h:w∈firsts n S):true∈w:=by
 obtain ⟨p,_,hw⟩:=List.mem_flatMap.mp h;have:=(List.mem_filter.mp (List.mem_of_mem_take hw)).2;simp at this;exact this.1
def lrow (n:Nat) (S:List Pd.W) (k:Nat):List Pd.W:=S.filter fun w=>decide ((Pd.hds n S).map (Pd.bt w)=(List.range (Pd.hds n S).length).map fun j=>decide (j=k))
theorem int_eq (i j:Nat):eqF (.int (i:Int)) (.int (j:Int))=.ok (.bl (decide (i=j))):=EncOk.nat.eqF i j
theorem flatMap_snoc {α β:Type} (f:α->List β) (l:List α) (a:α):(l++[a]).flatMap f=l.flatMap f++f a:=by simp
theorem range_split {m:Nat} {done:List Nat} {k:Nat} {rest:List Nat} (h:List.range m=done++k::rest):k<m/\done.length<m:=by
 have h1:k∈List.range m:=by rw [h];simp
 have h2:=congrArg List.length h;simp at h2;exact ⟨List.mem_range.mp h1,by lia⟩
theorem atF_zero (x:PV) (l:List PV):atF (x::l) 0=.ok x:=at_written (x::l) 0 (by simp)
theorem s_rows (n:Nat) (h1:1<=n) (h2:n<=10) (S:List Pd.W) (hS:S≠[]) (ha:Pd.All n S) (hz:S.length<=2000) (hrow:∀ k,(lrow n S k).length<=1):d__law_rows [ewl S]=.ok (edk n (Pd.lawRows n S)):=by
 obtain ⟨w0,S',e0⟩:∃ w0 S',S=w0::S':=by cases S with | nil=>exact absurd rfl hS | cons a b=>exact ⟨a,b,rfl⟩
 have hw0:w0.length=n:=ha w0 (by rw [e0];exact List.mem_cons_self);have i0:atF (S.map ew) 0=.ok (ew w0):=by
  rw [e0];exact atF_zero _ _
 have l0:lenF [ew w0]=.ok (.int (n:Nat)):=by unfold ew;simp [hw0]
 have loop1:∃ ρ',forK (bName 3) (sSeq (sAsg (eComp (iSeq (eVar 0)) 1 [3] (bName 0) (tAndD (eTst (e2 inF (eC (.int 1)) (eVar 0))) (eTst (e2 eqF (e2 indexF (eVar 0) (eC (.int 1))) (eVar 1)))) (eVar 0)) (bName 4))
   (sIf (eTru (eVar 4)) (sApp 2 (e2 ixF (eVar 4) (eC (.int 0)))) sNil)) [some (Sl.val (ewl S)),some (Sl.val (.int (n:Nat))),some (Sl.own []),none,none,none,none,none,none] ((List.range n).map fun k:Nat=>PV.int (k:Int))=.ok (.nx ρ')
   /\ ∃ g3 g4,ρ'=[some (Sl.val (ewl S)),some (Sl.val (.int (n:Nat))),some (Sl.own ((firsts n S).map ew)),g3,g4,none,none,none,none]:=by
  refine forL_inv (fun done ρ=>∃ g3 g4,ρ=[some (Sl.val (ewl S)),some (Sl.val (.int (n:Nat))),some (Sl.own ((done.flatMap fun p=>frs S p).map ew)),g3,g4,none,none,none,none]) ?_ ⟨none,none,rfl⟩
  rintro done p rest ρ e ⟨g3,g4,rfl⟩;have hc:eComp (iSeq (eVar 0)) 1 [3] (bName 0) (tAndD (eTst (e2 inF (eC (.int 1)) (eVar 0))) (eTst (e2 eqF (e2 indexF (eVar 0) (eC (.int 1))) (eVar 1)))) (eVar 0)
    [some (Sl.val (ewl S)),some (Sl.val (.int (n:Nat))),some (Sl.own ((done.flatMap fun p=>frs S p).map ew)),some (Sl.val (.int (p:Nat))),g4,none,none,none,none]=.ok (ewl (atPl S p)):=by
   rw [r_compF (l:=S) (q:=ew) (h:=ew) (p:=fun w=>decide (true∈w)&&decide (Pd.hd w=p))]
   ·rfl
   ·simp
   ·lia
   ·intro w hw;have hi:=in1 w
    by_cases hm:true∈w
    ·have hx:=index1 w hm;have he:=int_eq (Pd.hd w) p;simp only [hm,decide_true] at hi
     by_cases hp:Pd.hd w=p
     ·simp only [hp,decide_true] at he;simp [caps,hi,hx,he,hm,hp]
     ·simp only [hp,decide_false] at he;simp [caps,hi,hx,he,hm,hp]
    ·simp only [hm,decide_false] at hi;simp [caps,hi,hm]
  have hdl:(done.flatMap fun p=>frs S p).length<=n:=by
   have:((done.flatMap fun p=>frs S p).length)<=done.length:=by
    clear hc e
    induction done with
    | nil=>simp
    | cons a l ih =>
     have:(frs S a).length<=1:=by unfold frs;simp;lia
     simp only [List.flatMap_cons,List.length_append,List.length_cons];lia
   have:=(range_split e).2
   lia
  rw [flatMap_snoc];cases hx:atPl S p with
  | nil =>
   have:frs S p=[]:=by unfold frs;rw [hx];rfl
   rw [this];rw [hx] at hc;unfold ewl at *;simp only [List.map_nil] at hc;simp [hc]
  | cons w l =>
   have:frs S p=[w]:=by unfold frs;rw [hx];rfl
   rw [this];rw [hx] at hc;have hat:atF ((w::l).map ew) 0=.ok (ew w):=atF_zero _ _;have happ:=r_appK2 (i:=2) (ρ:=[some (Sl.val (ewl S)),some (Sl.val (.int (n:Nat))),some (Sl.own ((done.flatMap fun p=>frs S p).map ew)),some (Sl.val (.int (p:Nat))),some (Sl.val (ewl (w::l))),none,none,none,none]) (vs:=(done.flatMap fun p=>frs S p).map ew) (v:=ew w) (by rw [List.length_map];lia);unfold ewl at *;simp only [List.map_cons] at hc hat happ;simp [hc,hat,happ]
 obtain ⟨ρ1,l1,g3,g4,rfl⟩:=loop1;have hfl:(firsts n S).length<=10:=by rw [firsts_len];have:=hds_len n S;lia
 have hcH:eComp (iSeq (eVar 2)) 1 [] (bName 0) (fun _=>.ok true) (e2 indexF (eVar 0) (eC (.int 1))) [some (Sl.val (ewl S)),some (Sl.val (.int (n:Nat))),some (Sl.val (ewl (firsts n S))),g3,g4,none,none,none,none]=.ok (.lst ((Pd.hds n S).map fun k:Nat=>PV.int (k:Int))):=by
  rw [r_compM (l:=firsts n S) (q:=ew) (h:=fun w=>PV.int ((Pd.hd w:Nat):Int))]
  ·rw [<- firsts_hd,List.map_map];rfl
  ·simp
  ·lia
  ·intro w hw;have:=index1 w (firsts_mem hw);simp [caps,this]
 have hm:(firsts n S).length=(Pd.hds n S).length:=firsts_len n S;have inner:∀ (k:Nat) (acc:List Pd.W) (g8:Option Sl),acc.length<=10->∃ ρ',forK (bName 8) (sIf (eTst (e2 eqF (eComp (iSeq (eVar 5)) 1 [8] (bName 0) (fun _=>.ok true) (e2 ixF (eVar 1) (eVar 0))) (eComp (iR1 (aCons (eB lenF (aCons (eVar 2) aNil)) aNil)) 1 [7] (bName 0) (fun _=>.ok true) (eB intF (aCons (e2 eqF (eVar 0) (eVar 1)) aNil))))) (sApp 6 (eVar 8)) sNil)
   [some (Sl.val (ewl S)),some (Sl.val (.int (n:Nat))),some (Sl.val (ewl (firsts n S))),g3,g4,some (Sl.val (.lst ((Pd.hds n S).map fun k:Nat=>PV.int (k:Int)))),some (Sl.own (acc.map ew)),some (Sl.val (.int (k:Nat))),g8] (S.map ew)=.ok (.nx ρ')
   /\ ∃ g8',ρ'=[some (Sl.val (ewl S)),some (Sl.val (.int (n:Nat))),some (Sl.val (ewl (firsts n S))),g3,g4,some (Sl.val (.lst ((Pd.hds n S).map fun k:Nat=>PV.int (k:Int)))),some (Sl.own ((acc++lrow n S k).map ew)),some (Sl.val (.int (k:Nat))),g8']:=by
  intro k acc g8 hacc;have key:∃ ρ',forL (bName 8) (sIf (eTst (e2 eqF (eComp (iSeq (eVar 5)) 1 [8] (bName 0) (fun _=>.ok true) (e2 ixF (eVar 1) (eVar 0))) (eComp (iR1 (aCons (eB lenF (aCons (eVar 2) aNil)) aNil)) 1 [7] (bName 0) (fun _=>.ok true) (eB intF (aCons (e2 eqF (eVar 0) (eVar 1)) aNil))))) (sApp 6 (eVar 8)) sNil) (S.map ew)
   [some (Sl.val (ewl S)),some (Sl.val (.int (n:Nat))),some (Sl.val (ewl (firsts n S))),g3,g4,some (Sl.val (.lst ((Pd.hds n S).map fun k:Nat=>PV.int (k:Int)))),some (Sl.own (acc.map ew)),some (Sl.val (.int (k:Nat))),g8]=.ok (.nx ρ')
   /\ ∃ g8',ρ'=[some (Sl.val (ewl S)),some (Sl.val (.int (n:Nat))),some (Sl.val (ewl (firsts n S))),g3,g4,some (Sl.val (.lst ((Pd.hds n S).map fun k:Nat=>PV.int (k:Int)))),some (Sl.own ((acc++S.filter fun w=>decide ((Pd.hds n S).map (Pd.bt w)=(List.range (Pd.hds n S).length).map fun j=>decide (j=k))).map ew)),some (Sl.val (.int (k:Nat))),g8']:=by
   refine forL_inv (fun done ρ=>∃ g8',ρ=[some (Sl.val (ewl S)),some (Sl.val (.int (n:Nat))),some (Sl.val (ewl (firsts n S))),g3,g4,some (Sl.val (.lst ((Pd.hds n S).map fun k:Nat=>PV.int (k:Int)))),some (Sl.own ((acc++done.filter fun w=>decide ((Pd.hds n S).map (Pd.bt w)=(List.range (Pd.hds n S).length).map fun j=>decide (j=k))).map ew)),some (Sl.val (.int (k:Nat))),g8']) ?_ ⟨g8,by simp⟩
   rintro done w rest ρ e ⟨g,rfl⟩;have hwl:w.length=n:=ha w (by rw [e];simp);have hdl:done.length<=2000:=by have:=congrArg List.length e;simp at this;lia
   have ca:eComp (iSeq (eVar 5)) 1 [8] (bName 0) (fun _=>.ok true) (e2 ixF (eVar 1) (eVar 0)) [some (Sl.val (ewl S)),some (Sl.val (.int (n:Nat))),some (Sl.val (ewl (firsts n S))),g3,g4,some (Sl.val (.lst ((Pd.hds n S).map fun k:Nat=>PV.int (k:Int)))),some (Sl.own ((acc++done.filter fun w=>decide ((Pd.hds n S).map (Pd.bt w)=(List.range (Pd.hds n S).length).map fun j=>decide (j=k))).map ew)),some (Sl.val (.int (k:Nat))),some (Sl.val (ew w))]
     = .ok (.lst (((Pd.hds n S).map (Pd.bt w)).map eb)):=by
    rw [r_compM (l:=Pd.hds n S) (q:=fun k:Nat=>PV.int (k:Int)) (h:=fun p=>eb (Pd.bt w p))]
    ·rw [List.map_map];rfl
    ·simp
    ·have:=hds_len n S;lia
    ·intro p hp;have:=ixT w p (by rw [hwl];exact hds_lt hp);simp [caps,this]
   have cb:eComp (iR1 (aCons (eB lenF (aCons (eVar 2) aNil)) aNil)) 1 [7] (bName 0) (fun _=>.ok true) (eB intF (aCons (e2 eqF (eVar 0) (eVar 1)) aNil)) [some (Sl.val (ewl S)),some (Sl.val (.int (n:Nat))),some (Sl.val (ewl (firsts n S))),g3,g4,some (Sl.val (.lst ((Pd.hds n S).map fun k:Nat=>PV.int (k:Int)))),some (Sl.own ((acc++done.filter fun w=>decide ((Pd.hds n S).map (Pd.bt w)=(List.range (Pd.hds n S).length).map fun j=>decide (j=k))).map ew)),some (Sl.val (.int (k:Nat))),some (Sl.val (ew w))]
     = .ok (.lst (((List.range (Pd.hds n S).length).map fun j=>decide (j=k)).map eb)):=by
    rw [r_compM (l:=List.range (Pd.hds n S).length) (q:=fun k:Nat=>PV.int (k:Int)) (h:=fun j=>eb (decide (j=k)))]
    ·rw [List.map_map];rfl
    ·simp [hm,r_rg1 (show (Pd.hds n S).length<=100000 by have:=hds_len n S;lia)]
    ·simp;have:=hds_len n S;lia
    ·intro j hj;have:=int_eq j k;simp [caps,this]
   have hq:=EncOk.eb.lst.eqF ((Pd.hds n S).map (Pd.bt w)) ((List.range (Pd.hds n S).length).map fun j=>decide (j=k))
   rw [List.filter_append]
   by_cases hd:(Pd.hds n S).map (Pd.bt w)=(List.range (Pd.hds n S).length).map fun j=>decide (j=k)
   ·have happ:=r_appK2 (i:=6) (ρ:=[some (Sl.val (ewl S)),some (Sl.val (.int (n:Nat))),some (Sl.val (ewl (firsts n S))),g3,g4,some (Sl.val (.lst ((Pd.hds n S).map fun k:Nat=>PV.int (k:Int)))),some (Sl.own ((acc++done.filter fun w=>decide ((Pd.hds n S).map (Pd.bt w)=(List.range (Pd.hds n S).length).map fun j=>decide (j=k))).map ew)),some (Sl.val (.int (k:Nat))),some (Sl.val (ew w))])
     (vs:=(acc++done.filter fun w=>decide ((Pd.hds n S).map (Pd.bt w)=(List.range (Pd.hds n S).length).map fun j=>decide (j=k))).map ew) (v:=ew w) (by
      have:=List.length_filter_le (fun w=>decide ((Pd.hds n S).map (Pd.bt w)=(List.range (Pd.hds n S).length).map fun j=>decide (j=k))) done
      simp only [List.length_map,List.length_append];lia)
    have hf:([w].filter fun w=>decide ((Pd.hds n S).map (Pd.bt w)=(List.range (Pd.hds n S).length).map fun j=>decide (j=k)))=[w]:=by simp [hd]
    rw [hf];simp only [hd,decide_true] at hq;simp only [hd] at ca;simp [ca,cb,hq,happ,-List.map_map,-List.map_append];simp
   ·have hf:([w].filter fun w=>decide ((Pd.hds n S).map (Pd.bt w)=(List.range (Pd.hds n S).length).map fun j=>decide (j=k)))=[]:=by simp [hd]
    rw [hf];simp only [hd,decide_false] at hq;simp [ca,cb,hq,-List.map_map,-List.map_append]
  exact key
 have loop2:∃ ρ',forK (bName 7) (sFor (iSeq (eVar 0)) (bName 8) (sIf (eTst (e2 eqF (eComp (iSeq (eVar 5)) 1 [8] (bName 0) (fun _=>.ok true) (e2 ixF (eVar 1) (eVar 0))) (eComp (iR1 (aCons (eB lenF (aCons (eVar 2) aNil)) aNil)) 1 [7] (bName 0) (fun _=>.ok true) (eB intF (aCons (e2 eqF (eVar 0) (eVar 1)) aNil))))) (sApp 6 (eVar 8)) sNil))
   [some (Sl.val (ewl S)),some (Sl.val (.int (n:Nat))),some (Sl.val (ewl (firsts n S))),g3,g4,some (Sl.val (.lst ((Pd.hds n S).map fun k:Nat=>PV.int (k:Int)))),some (Sl.own []),none,none] ((List.range (Pd.hds n S).length).map fun k:Nat=>PV.int (k:Int))=.ok (.nx ρ')
   /\ ∃ g7 g8,ρ'=[some (Sl.val (ewl S)),some (Sl.val (.int (n:Nat))),some (Sl.val (ewl (firsts n S))),g3,g4,some (Sl.val (.lst ((Pd.hds n S).map fun k:Nat=>PV.int (k:Int)))),some (Sl.own ((Pd.lawRows n S).map ew)),g7,g8]:=by
  refine forL_inv (fun done ρ=>∃ g7 g8,ρ=[some (Sl.val (ewl S)),some (Sl.val (.int (n:Nat))),some (Sl.val (ewl (firsts n S))),g3,g4,some (Sl.val (.lst ((Pd.hds n S).map fun k:Nat=>PV.int (k:Int)))),some (Sl.own ((done.flatMap (lrow n S)).map ew)),g7,g8]) ?_ ⟨none,none,rfl⟩
  rintro done k rest ρ e ⟨g7,g8,rfl⟩;have hdl:(done.flatMap (lrow n S)).length<=10:=by
   have h1:(done.flatMap (lrow n S)).length<=done.length:=by
    clear e
    induction done with
    | nil=>simp
    | cons a l ih =>
     have:=hrow a;simp only [List.flatMap_cons,List.length_append,List.length_cons];lia
   have:=(range_split e).2;have:=hds_len n S
   lia
  obtain ⟨ρ',e1,g8',e2⟩:=inner k (done.flatMap (lrow n S)) g8 hdl;rw [flatMap_snoc];refine ⟨ρ',?_,some (Sl.val (.int (k:Nat))),g8',e2⟩;simp [e1]
 obtain ⟨ρ2,l2,g7,g8,rfl⟩:=loop2;have hr:=r_rg1 (n:=n) (by lia);have hr2:=r_rg1 (n:=(Pd.hds n S).length) (by have:=hds_len n S;lia);unfold ewl at *;simp [d__law_rows,r_run,entry,r_mod,r_mulL,r_mulR,-List.map_map,i0,l0,hr,l1,hcH,hm,hr2,l2,-List.map_map,-List.map_append]
end Dn
namespace Dn
open PySem Pu
def d__law_desk:Df:=runF 3 (sSeq (sAsg (eB d__law_size (aCons (eVar 0) (aCons (eVar 1) aNil))) (bName 2))
  (sRet (eB d__law_rows (aCons (eB d__law_spread (aCons (eVar 2) (aCons (eB d__law_words (aCons (eVar 0) (aCons (eVar 1) (aCons (eVar 2) aNil)))) aNil))) aNil))))
def d_stand_as_rows:Df:=runF 4 (sSeq (sAsg (eNeg (eC (.int 1))) (bName 1))
  (sSeq (sFor (iSeq (eVar 0)) (bName 2) (sSeq (sIf (eTst (e2 ninF (eC (.int 1)) (eVar 2))) (sRet (eC (.bl false))) sNil)
  (sSeq (sAsg (eB d_head_of (aCons (eVar 2) aNil)) (bName 3))
  (sSeq (sIf (tOrD (eTst (e2 leF (eVar 3) (eVar 1))) (eTst (e2 neF (eB sumF (aCons (eComp (iSeq (eVar 0)) 1 [3] (bName 0) (fun _=>.ok true) (e2 ixF (eVar 0) (eVar 1))) aNil)) (eC (.int 1))))) (sRet (eC (.bl false))) sNil)
  (sAsg (eVar 3) (bName 1))))))
  (sRet (eC (.bl true)))))
def d_is_desk:Df:=runF 3 (sSeq (sIf (tOrD (tNotD (eTru (eIs tTupT (eVar 0)))) (eTst (e2 neF (eB lenF (aCons (eVar 0) aNil)) (eC (.int 2))))) (sRet (eC (.bl false))) sNil)
  (sSeq (sAsg (e2 ixF (eVar 0) (eC (.int 0))) (bName 1))
  (sSeq (sAsg (e2 ixF (eVar 0) (eC (.int 1))) (bName 2))
  (sSeq (sIf (tOrD (tNotD (eTru (eB d_is_size (aCons (eVar 1) aNil)))) (tNotD (eTru (eIs tTupT (eVar 2))))) (sRet (eC (.bl false))) sNil)
  (sRet (eAnd (eB allF (aCons (eComp (iSeq (eVar 2)) 1 [1] (bName 0) (fun _=>.ok true) (eB d_is_word (aCons (eVar 0) (aCons (eVar 1) aNil)))) aNil)) (eB d_stand_as_rows (aCons (eVar 2) aNil))))))))
end Dn
namespace Dn
open PySem Pu
theorem all_same_le {α:Type} {l:List α} (nd:l.Nodup) (h:∀ a∈l,∀ b∈l,a=b):l.length<=1:=by
 match l,nd,h with
 | [],_,_=>simp
 | [_],_,_=>simp
 | a::b::r,nd,h =>
  have:=h a List.mem_cons_self b (by simp);subst this;simp at nd
theorem lrow_le {n:Nat} {R S:List Pd.W} (h:Pd.Rows n R) (nd:S.Nodup) (hS:∀ w,w∈S↔Pd.Sp n R w) (k:Nat):(lrow n S k).length<=1:=by
 refine all_same_le (nd.filter _) fun a ha b hb=>?_
 obtain ⟨a1,a2⟩:=List.mem_filter.mp ha;obtain ⟨b1,b2⟩:=List.mem_filter.mp hb;have e:=(of_decide_eq_true a2).trans (of_decide_eq_true b2).symm;refine h.told ((hS a).mp a1) ((hS b).mp b1) fun r hr=>?_
 have hm:Pd.hd r∈Pd.hds n S:=by rw [Pd.hds_eq h hS];exact List.mem_map_of_mem hr
 exact List.map_inj_left.mp e _ hm
theorem sprd_ne {n:Nat} {ws:List Pd.W} (ha:Pd.All n ws):Pd.sprd n ws≠[]:=fun h=>by
 have:Pd.zr n∈Pd.sprd n ws:=(Pd.mem_sprd ha _).mpr .zero;rw [h] at this;cases this
theorem sprd_all {n:Nat} {ws:List Pd.W} (ha:Pd.All n ws):Pd.All n (Pd.sprd n ws):=fun v hv=>((Pd.mem_sprd ha v).mp hv).length ha
theorem sprd_le {n:Nat} (h2:n<=10) {ws:List Pd.W} (ha:Pd.All n ws):(Pd.sprd n ws).length<=1024:=Nat.le_trans (nodup_len (Pd.sprd_nodup ha) (sprd_all ha)) (pow_le h2)
theorem s_rows_sprd (n:Nat) (h1:1<=n) (h2:n<=10) (ws:List Pd.W) (ha:Pd.All n ws):d__law_rows [ewl (Pd.sprd n ws)]=.ok (edk n (Pd.mk ws)):=by
 rw [s_rows n h1 h2 (Pd.sprd n ws) (sprd_ne ha) (sprd_all ha) (by have:=sprd_le h2 ha;lia) (lrow_le (Pd.mk_all ha).1 (Pd.sprd_nodup ha) fun w=>by rw [Pd.mem_sprd ha,(Pd.mk_all ha).2]),Pd.law_desk ha]
def ldk (ns:List Int) (at_:Nat):List Pd.W:=Pd.mk (lws ns at_ (size ns at_))
theorem ldk_rows (ns:List Int) (at_:Nat):Pd.Rows (size ns at_) (ldk ns at_):=(Pd.mk_all (lws_all ns at_ _)).1
theorem s_desk (ns:List Int) (at_:Nat) (h63:ns.length<=63):d__law_desk [scr ns,.int at_]=.ok (edk (size ns at_) (ldk ns at_)):=by
 have e1:=s_size ns at_ h63;have p1:=size_pos ns at_;have p2:=size_le ns at_;have e2:=s_words ns at_ (size ns at_) (by lia);have e3:=s_spread (size ns at_) p1 (by lia) _ (lws_all ns at_ (size ns at_));have e4:=s_rows_sprd (size ns at_) p1 (by lia) _ (lws_all ns at_ (size ns at_));simp [d__law_desk,r_run,entry,r_mod,r_mulL,r_mulR,-List.map_map,e1,e2,e3,e4,ldk]
theorem bits_at (n:Nat) (rows:List Pd.W) (ha:Pd.All n rows) (h:Nat) (hh:h<n) (V:PV) (ρ:En) (hV:eVar 0 ρ=.ok V) (hs:seqF V=.ok (rows.map ew)) (hc:(caps 1 [3] ρ)=[none,some (.val (.int (h:Nat)))]) (hl:rows.length<=1000) :
  eComp (iSeq (eVar 0)) 1 [3] (bName 0) (fun _=>.ok true) (e2 ixF (eVar 0) (eVar 1)) ρ=.ok (.lst ((rows.map fun r=>Pd.bt r h).map eb)):=by
 rw [r_compM (l:=rows) (q:=ew) (h:=fun r=>eb (Pd.bt r h))]
 ·rw [List.map_map];rfl
 ·simp [hV,hs]
 ·lia
 ·intro r hr;have:=ixT r h (by rw [ha r hr];exact hh);simp [hc,this]
theorem cnt_one {α:Type} [DecidableEq α] (f:α->Bool):∀ {l:List α},l.Nodup->∀ {x:α},x∈l->(∀ y∈l,f y=decide (y=x))->cnt (l.map f)=1
 | [],_,x,hx,_=>by cases hx
 | a::l,nd,x,hx,h=>by
  have ⟨n1,n2⟩:=List.nodup_cons.mp nd;unfold cnt;rw [List.map_cons,List.count_cons]
  by_cases e:a=x
  ·subst e;have z:(l.map f).count true=0:=by
    rw [List.count_eq_zero];intro hm;obtain ⟨y,hy,e⟩:=List.mem_map.mp hm;rw [h y (List.mem_cons_of_mem _ hy)] at e;have:y=a:=of_decide_eq_true e;subst this;exact n1 hy
   rw [z,h a List.mem_cons_self];simp
  ·have hx':x∈l:=by rcases List.mem_cons.mp hx with h' | h';exact absurd h'.symm e;exact h'
   have ih:=cnt_one f n2 hx' fun y hy=>h y (List.mem_cons_of_mem _ hy)
   unfold cnt at ih;rw [ih,h a List.mem_cons_self];simp [e]
theorem s_stand (n:Nat) (h2:n<=10) (rows:List Pd.W) (hR:Pd.Rows n rows):d_stand_as_rows [ewt rows]=.ok (.bl true):=by
 have hlen:=rows_len hR;have loop:∃ ρ',forK (bName 2) (sSeq (sIf (eTst (e2 ninF (eC (.int 1)) (eVar 2))) (sRet (eC (.bl false))) sNil)
   (sSeq (sAsg (eB d_head_of (aCons (eVar 2) aNil)) (bName 3))
   (sSeq (sIf (tOrD (eTst (e2 leF (eVar 3) (eVar 1))) (eTst (e2 neF (eB sumF (aCons (eComp (iSeq (eVar 0)) 1 [3] (bName 0) (fun _=>.ok true) (e2 ixF (eVar 0) (eVar 1))) aNil)) (eC (.int 1))))) (sRet (eC (.bl false))) sNil)
   (sAsg (eVar 3) (bName 1))))) [some (Sl.val (ewt rows)),some (Sl.val (.int (-1))),none,none] (rows.map ew)=.ok (.nx ρ')
   /\ ∃ (last:Int) (g2 g3:Option Sl),ρ'=[some (Sl.val (ewt rows)),some (Sl.val (.int last)),g2,g3]/\∀ r∈rows,(Pd.hd r:Int)<=last:=by
  refine forL_inv (fun done ρ=>∃ (last:Int) (g2 g3:Option Sl),ρ=[some (Sl.val (ewt rows)),some (Sl.val (.int last)),g2,g3]/\(∀ r∈done,(Pd.hd r:Int)<=last)/\(last = -1\/∃ r∈done,last=(Pd.hd r:Int))) ?_ ?_ |> fun ⟨ρ',a,last,g2,g3,b,c,_⟩=>⟨ρ',a,last,g2,g3,b,c⟩
  ·rintro done r rest ρ e ⟨last,g2,g3,rfl,hle,hlast⟩;have hr:r∈rows:=by rw [e];simp
   have h1:=hR.one r hr;have hni:=nin1 r;simp only [h1,decide_true,Bool.not_true] at hni;have e1:=s_head r h1;have hlt:¬ (Pd.hd r:Int)<=last:=by
    rcases hlast with rfl | ⟨q,hq,rfl⟩
    ·lia
    ·have:=hR.ord;rw [e,List.pairwise_append] at this;have:=this.2.2 q hq r List.mem_cons_self
     lia
   have hlt':decide ((Pd.hd r:Int)<=last)=false:=decide_eq_false hlt;have hc:=bits_at n rows hR.len (Pd.hd r) (by have:=Pd.hd_lt h1;rw [hR.len r hr] at this;exact this) (ewt rows) [some (Sl.val (ewt rows)),some (Sl.val (.int last)),some (Sl.val (ew r)),some (Sl.val (.int (Pd.hd r:Nat)))] rfl rfl rfl (by lia);have hs:=sum_bits (rows.map fun q=>Pd.bt q (Pd.hd r))
   rw [cnt_one (fun q=>Pd.bt q (Pd.hd r)) hR.nodup hr (fun q hq=>hR.bits hr hq)] at hs
   have hne:neF (.int ((1:Nat):Int)) (.int 1)=.ok (.bl false):=EncOk.int.neF 1 1;refine ⟨[some (Sl.val (ewt rows)),some (Sl.val (.int (Pd.hd r:Nat))),some (Sl.val (ew r)),some (Sl.val (.int (Pd.hd r:Nat)))],?_,(Pd.hd r:Int),some (Sl.val (ew r)),some (Sl.val (.int (Pd.hd r:Nat))),rfl,?_,.inr ⟨r,by simp,rfl⟩⟩
   ·simp only [r_name,Res.bind_ok,List.set_cons_succ,List.set_cons_zero,r_seq,r_if,r_eTst,r_e2,r_eC,r_e2K,r_varS,r_var0,hni,r_asB,r_ifK2,r_nil,r_seq1,r_asg,r_eB,r_aCons,r_aNil,r_acK,r_acK2,e1,r_asg1,r_nxK,r_or,r_le,hlt',r_or2,hc,hs,hne]
   ·intro q hq
    rcases List.mem_append.mp hq with hq | hq
    ·have:=hle q hq;lia
    ·rw [List.mem_singleton.mp hq];exact Int.le_refl _
  ·exact ⟨-1,none,none,rfl,fun r h=>(by cases h),.inl rfl⟩
 obtain ⟨ρ',e1,last,g2,g3,rfl,_⟩:=loop;simp [d_stand_as_rows,r_run,entry,r_mod,r_mulL,r_mulR,-List.map_map,e1]
theorem s_is_desk (n:Nat) (h1:1<=n) (h2:n<=10) (rows:List Pd.W) (hR:Pd.Rows n rows):d_is_desk [edk n rows]=.ok (.bl true):=by
 have hsz:isSz (.int (n:Int))=true:=by simp [isSz,isNum];lia
 have hlen:=rows_len hR;have hst:=s_stand n h2 rows hR;have i0:atF [PV.int (n:Int),ewt rows] 0=.ok (.int (n:Int)):=atF_zero _ _;have i1:atF [PV.int (n:Int),ewt rows] 1=.ok (ewt rows):=at_written _ 1 (by simp);have hne:neF (.int 2) (.int 2)=.ok (.bl false):=EncOk.int.neF 2 2;have hc:eComp (iSeq (eVar 2)) 1 [1] (bName 0) (fun _=>.ok true) (eB d_is_word (aCons (eVar 0) (aCons (eVar 1) aNil))) [some (Sl.val (edk n rows)),some (Sl.val (.int (n:Int))),some (Sl.val (ewt rows))]=.ok (.lst ((rows.map fun _=>true).map PV.bl)):=by
  rw [r_compM (l:=rows) (q:=ew) (h:=fun _=>PV.bl true)]
  ·rw [List.map_map];rfl
  ·simp
  ·lia
  ·intro r hr;have hl:=hR.len r hr;have:=s_is_word (ew r) (.int (n:Int)) (fun xs h=>by cases h;simp [hl];lia)
   rw [isWd_ew r n hl h1 h2] at this;simp [caps,this]
 have hall:((rows.map fun _=>true).all id)=true:=by simp
 simp [d_is_desk,r_run,entry,r_mod,r_mulL,r_mulR,-List.map_map,s_is_size,hsz,i0,i1,hne,hc,all_bls,hall,hst]
end Dn
set_option maxHeartbeats 4000000
namespace Dn
open PySem Pu
def d_check_of:Df:=runF 5 (sSeq (sOwnC 3 (eB d_none (aCons (eVar 0) aNil)))
  (sSeq (sSetO 3 (eVar 2) (eC (.int 1)))
  (sSeq (sFor (iSeq (eVar 1)) (bName 4) (sSetO 3 (eB d_head_of (aCons (eVar 4) aNil)) (e2 ixF (eVar 4) (eVar 2))))
  (sSeq (sFrz 3) (sRet (eB tupF (aCons (eVar 3) aNil)))))))
end Dn
namespace Pd
section
variable {n:Nat} {R:List W}
theorem du_back (h:Rows n R) {v:W} (hv:v.length=n) (hq:∀ j,j<n->j∉R.map hd->ip (db n R j) v=false):Sp n R v:=by
 rw [sp_iff h hv];have hw:=rest_length h.len hv;rw [eq_zr_iff hw];intro hm;have hlt:hd (rest R v)<n:=hw ▸ hd_lt hm;have hno:hd (rest R v)∉R.map hd:=fun z=>by
  obtain ⟨r,hr,e⟩:=List.mem_map.mp z;have:=rest_off h hv r hr;rw [e,bt_hd hm] at this;cases this
 have hj:=hq _ hlt hno;have e1:ip (pl v (rest R v)) (db n R (hd (rest R v)))=false:=(db_du h _).sp h.len (rest_sp h.len hv);rw [ip_pl hv hw (db_length _),ip_comm v,hj,Bool.false_xor,ip_db hw,fold_none,bt_hd hm] at e1
 ·cases e1
 ·intro r hr;exact rest_off h hv r (List.mem_filter.mp hr).1
def ckF (p:Nat) (w:W) (l:List W):W:=l.foldl (fun b r=>b.set (hd r) (bt r p)) w
def ck (n:Nat) (R:List W) (p:Nat):W:=ckF p ((zr n).set p true) R
theorem ckF_length (p:Nat):∀ (l:List W) (w:W),(ckF p w l).length=w.length
 | [],_=>rfl
 | r::l,w=>by
  show (ckF p (w.set (hd r) (bt r p)) l).length=_;rw [ckF_length p l,List.length_set]
theorem ck_length (p:Nat):(ck n R p).length=n:=by unfold ck;rw [ckF_length,List.length_set,zr_length]
theorem ckF_snoc (p:Nat) (w:W) (l:List W) (r:W):ckF p w (l++[r])=(ckF p w l).set (hd r) (bt r p):=by unfold ckF;rw [List.foldl_append];rfl
theorem bt_set_ne {w:W} {a i:Nat} (b:Bool) (h:a≠i):bt (w.set a b) i=bt w i:=by
 unfold bt;rw [List.getD_eq_getElem?_getD,List.getD_eq_getElem?_getD,List.getElem?_set_ne h]
theorem bt_set_eq {w:W} {a:Nat} (b:Bool) (h:a<w.length):bt (w.set a b) a=b:=by
 unfold bt;rw [List.getD_eq_getElem?_getD,List.getElem?_set_self h];rfl
theorem ckF_off {p i:Nat}:∀ {l:List W} {w:W},(∀ r∈l,hd r≠i)->bt (ckF p w l) i=bt w i
 | [],_,_=>rfl
 | r::l,w,h=>by
  show bt (ckF p (w.set (hd r) (bt r p)) l) i=_;rw [ckF_off fun q hq=>h q (List.mem_cons_of_mem _ hq),bt_set_ne _ (h r List.mem_cons_self)]
theorem ckF_on {p i:Nat} {b:Bool}:∀ {l:List W} {w:W},(∃ r∈l,hd r=i)->(∀ r∈l,hd r=i->bt r p=b)->i<w.length->bt (ckF p w l) i=b
 | [],_,⟨_,h,_⟩,_,_=>by cases h
 | r::l,w,h,hb,hi=>by
  show bt (ckF p (w.set (hd r) (bt r p)) l) i=_
  by_cases z:∃ q∈l,hd q=i
  ·exact ckF_on z (fun q hq=>hb q (List.mem_cons_of_mem _ hq)) (by rw [List.length_set];exact hi)
  ·rw [ckF_off fun q hq e=>z ⟨q,hq,e⟩]
   obtain ⟨q,hq,e⟩:=h
   rcases List.mem_cons.mp hq with rfl | hq
   ·subst e;rw [bt_set_eq _ hi,hb q List.mem_cons_self rfl]
   ·exact absurd ⟨q,hq,e⟩ z
theorem bt_db (hR:Rows n R) {p i:Nat} (hi:i<n):bt (db n R p) i=(decide (p=i)^^(R.filter fun r=>bt r p).foldr (fun r b=>decide (hd r=i)^^b) false):=by
 rw [<- ip_un (db_length p),ip_comm,ip_db (un_length n i),bt_un hi];congr 2;funext r b;rw [bt_un hi]
theorem ck_eq (hR:Rows n R) {p:Nat} (hp:p<n) (hf:p∉R.map hd):ck n R p=db n R p:=by
 refine ext ((ck_length p).trans (db_length p).symm) fun i=>?_
 by_cases hi:i<n
 ·rw [bt_db hR hi]
  by_cases z:∃ r∈R,hd r=i
  ·obtain ⟨r,hr,rfl⟩:=z;have hpi:p≠hd r:=fun e=>hf (e ▸ List.mem_map_of_mem hr)
   have e1:bt (ck n R p) (hd r)=bt r p:=ckF_on ⟨r,hr,rfl⟩ (fun q hq e=>by rw [hR.inj hq hr e]) (by rw [List.length_set,zr_length];exact hi);rw [e1,fold_one (hR.nodup.filter _) r _ fun q hq=>?_]
   ·have:decide (r∈R.filter fun r=>bt r p)=bt r p:=by
     rw [Bool.eq_iff_iff,decide_eq_true_eq,List.mem_filter];exact ⟨fun z=>z.2,fun z=>⟨hr,z⟩⟩
    rw [this,decide_eq_false hpi,Bool.false_xor]
   ·rw [decide_eq_decide];exact ⟨fun e=>(hR.inj (List.mem_filter.mp hq).1 hr e).symm,fun e=>by rw [e]⟩
  ·have z':∀ r∈R,hd r≠i:=fun r hr e=>z ⟨r,hr,e⟩
   have e1:bt (ck n R p) i=bt ((zr n).set p true) i:=ckF_off z';rw [e1,fold_none _ fun r hr=>decide_eq_false (z' r (List.mem_filter.mp hr).1),Bool.xor_false]
   by_cases e:p=i
   ·subst e;rw [bt_set_eq _ (by rw [zr_length];exact hp)];simp
   ·rw [bt_set_ne _ e,bt_zr,decide_eq_false e]
 ·rw [bt_of_le (by rw [ck_length];lia),bt_of_le (by rw [db_length];lia)]
def free (n:Nat) (R:List W):List Nat:=(List.range n).filter fun p=>!decide (p∈R.map hd)
def ckl (n:Nat) (R:List W):List W:=(free n R).map (ck n R)
def chk (n:Nat) (R:List W):List W:=mk (ckl n R)
theorem ckl_all:All n (ckl n R):=fun w hw=>by
 obtain ⟨p,_,rfl⟩:=List.mem_map.mp hw;exact ck_length p
theorem ckl_len:(ckl n R).length<=n:=by
 unfold ckl free;rw [List.length_map];exact Nat.le_trans (List.length_filter_le _ _) (by simp)
theorem chk_ok (h:Rows n R):Rows n (chk n R)/\∀ v,Sp n (chk n R) v↔Du n R v:=by
 obtain ⟨h1,h2⟩:=mk_all (ckl_all (n:=n) (R:=R));have hm:∀ {w},w∈ckl n R->∃ p,p<n/\p∉R.map hd/\w=db n R p:=fun {w} hw=>by
  obtain ⟨p,hp,rfl⟩:=List.mem_map.mp hw;obtain ⟨p1,p2⟩:=List.mem_filter.mp hp;have p1':=List.mem_range.mp p1;have p2':p∉R.map hd:=by simpa using p2
  exact ⟨p,p1',p2',ck_eq h p1' p2'⟩
 have fwd:∀ v,Sp n (ckl n R) v->Du n R v:=fun v hv=>by
  induction hv with
  | zero=>exact (Du.lin h.len).zero
  | add hw _ ih =>
   obtain ⟨p,_,_,rfl⟩:=hm hw;exact (Du.lin h.len).plus _ _ ih (db_du h p)
 refine ⟨h1,fun v=>⟨fun hv=>fwd v ((h2 v).mp hv),fun hv=>?_⟩⟩
 rw [show chk n R=mk (ckl n R) from rfl,sp_iff_du h1]
 refine ⟨hv.1,fun u hu=>?_⟩
 have hs:Sp n R u:=du_back h hu.1 fun j hj hf=>by
  have:db n R j∈ckl n R:=by
   rw [<- ck_eq h hj hf];exact List.mem_map_of_mem (List.mem_filter.mpr ⟨List.mem_range.mpr hj,by simpa using hf⟩)
  exact hu.sp h1.len ((h2 _).mpr (Sp.of_mem ckl_all this))
 exact hv.sp h.len hs
theorem chk_chk (h:Rows n R):chk n (chk n R)=R:=by
 obtain ⟨h1,h2⟩:=chk_ok h;obtain ⟨h3,h4⟩:=chk_ok h1;exact rows_unique h3 h fun v=>by rw [h4,dual_back h h1 h2]
end
end Pd
set_option maxHeartbeats 4000000
namespace Dn
open PySem Pu
theorem r_ownC_ok {i:Nat} {d:De} {ρ:En} {v:PV} {vs:List PV} (h:d ρ=.ok v) (hs:seqF v=.ok vs):sOwnC i d ρ=.ok (.nx (ρ.set i (some (.own vs)))):=by
 unfold sOwnC;rw [h,Res.bind_ok,hs];rfl
section
variable (n:Nat) (h1:1<=n) (h2:n<=10) (R:List Pd.W) (hR:Pd.Rows n R)
include h1 h2 hR
theorem s_check_of (p:Nat) (hp:p<n):d_check_of [.int (n:Int),ewt R,.int (p:Int)]=.ok (ew (Pd.ck n R p)):=by
 have e1:=s_none n (by lia);have o1:sOwnC 3 (eB d_none (aCons (eVar 0) aNil)) [some (Sl.val (.int (n:Int))),some (Sl.val (ewt R)),some (Sl.val (.int (p:Int))),none,none]=.ok (.nx [some (Sl.val (.int (n:Int))),some (Sl.val (ewt R)),some (Sl.val (.int (p:Int))),some (Sl.own ((Pd.zr n).map eb)),none]) :=
  r_ownC_ok (v:=ew (Pd.zr n)) (by simp [e1]) rfl
 have st:∀ (i:Nat) (ρ:En) (w:Pd.W) (k:Nat) (b:Bool),k<w.length->setK3 i ρ (eb b) (w.map eb) (.int (k:Int))=.ok (.nx (ρ.set i (some (.own ((w.set k b).map eb))))):=fun i ρ w k b hk=>by
  rw [r_setK3 (by simpa using hk),List.map_set]
 have s0:=st 3 [some (Sl.val (.int (n:Int))),some (Sl.val (ewt R)),some (Sl.val (.int (p:Int))),some (Sl.own ((Pd.zr n).map eb)),none] (Pd.zr n) p true (by rw [Pd.zr_length];exact hp);have s0':setK3 3 [some (Sl.val (.int (n:Int))),some (Sl.val (ewt R)),some (Sl.val (.int (p:Int))),some (Sl.own ((Pd.zr n).map eb)),none] (.int 1) ((Pd.zr n).map eb) (.int (p:Int))=.ok (.nx [some (Sl.val (.int (n:Int))),some (Sl.val (ewt R)),some (Sl.val (.int (p:Int))),some (Sl.own (((Pd.zr n).set p true).map eb)),none]):=s0;have hw0:((Pd.zr n).set p true).length=n:=by rw [List.length_set,Pd.zr_length]
 have loop:∃ ρ',forK (bName 4) (sSetO 3 (eB d_head_of (aCons (eVar 4) aNil)) (e2 ixF (eVar 4) (eVar 2))) [some (Sl.val (.int (n:Int))),some (Sl.val (ewt R)),some (Sl.val (.int (p:Int))),some (Sl.own (((Pd.zr n).set p true).map eb)),none] (R.map ew)=.ok (.nx ρ')
   /\ ∃ g,ρ'=[some (Sl.val (.int (n:Int))),some (Sl.val (ewt R)),some (Sl.val (.int (p:Int))),some (Sl.own ((Pd.ck n R p).map eb)),g]:=by
  refine forL_inv (fun done ρ=>∃ g,ρ=[some (Sl.val (.int (n:Int))),some (Sl.val (ewt R)),some (Sl.val (.int (p:Int))),some (Sl.own ((Pd.ckF p ((Pd.zr n).set p true) done).map eb)),g]) ?_ ⟨none,rfl⟩
  rintro done r rest ρ e ⟨g,rfl⟩;have hr:r∈R:=by rw [e];simp
  have hl:=hR.len r hr;have hh:Pd.hd r<n:=by have:=Pd.hd_lt (hR.one r hr);lia
  have e2':=s_head r (hR.one r hr);have e3:=ixT r p (by lia);have e4:=st 3 [some (Sl.val (.int (n:Int))),some (Sl.val (ewt R)),some (Sl.val (.int (p:Int))),some (Sl.own ((Pd.ckF p ((Pd.zr n).set p true) done).map eb)),some (Sl.val (ew r))] (Pd.ckF p ((Pd.zr n).set p true) done) (Pd.hd r) (Pd.bt r p) (by rw [Pd.ckF_length,hw0];exact hh);refine ⟨_,?_,some (Sl.val (ew r)),rfl⟩;rw [Pd.ckF_snoc];simp only [r_name,Res.bind_ok,List.set_cons_succ,List.set_cons_zero,r_setO,r_e2,r_e2K,r_var0,r_varS,e3,r_setK1,r_own0,r_ownS,r_setK2,r_eB,r_aCons,r_aNil,r_acK,r_acK2,e2',e4]
 obtain ⟨ρ',l1,g,rfl⟩:=loop;simp only [d_check_of,r_run,entry,List.map_cons,List.map_nil,List.cons_append,List.nil_append,List.length_cons,List.length_nil,Nat.reduceAdd,Nat.reduceSub,List.replicate,r_seq,o1,Res.bind_ok,r_seq1,r_setO,r_eC,r_setK1,r_own0,r_ownS,r_setK2,r_var0,r_varS,s0',r_for,r_iSeq,r_seqT,l1,r_frz,r_frzK,List.set_cons_succ,List.set_cons_zero,r_ret,r_eB,r_aCons,r_aNil,r_acK,r_acK2,r_tupL,r_rtK,r_out1,ew]
end
theorem enc_desk7:EncOk (fun p:Nat×List Pd.W=>edk p.1 p.2) 3:=EncOk.nat.pair EncOk.ew.tup
section
variable (n:Nat) (h1:1<=n) (h2:n<=10) (R:List Pd.W) (hR:Pd.Rows n R)
include h1 h2 hR
end
end Dn
set_option maxHeartbeats 4000000
namespace Dn
open PySem Pu
end Dn
set_option maxHeartbeats 4000000
namespace Dn
open PySem Pu
abbrev Tn:=List (Option Bool)
def eo:Option Bool->PV
 | none=>.non
 | some b=>eb b
abbrev et (t:Tn):PV:=.tup (t.map eo)
section
variable (n:Nat) (h1:1<=n) (h2:n<=10) (R:List Pd.W) (hR:Pd.Rows n R)
include h1 h2 hR
end
theorem bt_get (w:Pd.W) (k:Nat) (h:k<w.length):ixF (ew w) (.int (k:Int))=.ok (eb (Pd.bt w k)):=by
 have:=atF_nat eb w k h;have e:Pd.bt w k=w[k]:=by simp [Pd.bt,h]
 rw [e];exact this
end Dn
set_option maxHeartbeats 4000000
namespace Dn
open PySem Pu
end Dn
namespace Pd
end Pd
namespace Pd
def rs (P:List Nat) (v:W):W:=P.map (bt v)
theorem rs_length (P:List Nat) (v:W):(rs P v).length=P.length:=by simp [rs]
theorem rs_pl {n:Nat} (P:List Nat) {u v:W} (hu:u.length=n) (hv:v.length=n):rs P (pl u v)=pl (rs P u) (rs P v):=by
 unfold rs
 induction P with
 | nil=>rfl
 | cons p P ih =>
  have e:pl (bt u p::P.map (bt u)) (bt v p::P.map (bt v))=(bt u p^^bt v p)::pl (P.map (bt u)) (P.map (bt v)):=rfl;rw [List.map_cons,List.map_cons,List.map_cons,e,ih,bt_pl (hu.trans hv.symm)]
theorem rs_zr (P:List Nat) (n:Nat):rs P (zr n)=zr P.length:=by
 unfold rs
 induction P with
 | nil=>rfl
 | cons p P ih=>rw [List.map_cons,ih,bt_zr];rfl
theorem rs_zero {P:List Nat} {v:W}:rs P v=zr P.length↔∀ p∈P,bt v p=false:=by
 unfold rs zr;rw [List.eq_replicate_iff]
 constructor
 ·intro h p hp;exact h.2 _ (List.mem_map_of_mem hp)
 ·intro h;refine ⟨by simp,fun b hb=>?_⟩
  obtain ⟨p,hp,rfl⟩:=List.mem_map.mp hb;exact h p hp
section
variable {n:Nat} {R:List W}
def KP (n:Nat) (R:List W) (P:List Nat) (v:W):Prop:=Sp n R v/\∀ p∈P,bt v p=false
noncomputable def dk (n:Nat) (R:List W) (P:List Nat):List W:=desk n (KP n R P)
end
end Pd
namespace Pd
def wd (n:Nat):List Nat->W->W
 | p::P,b::u=>if b then pl (un n p) (wd n P u) else wd n P u
 | _,_=>zr n
section
variable {n:Nat} {R:List W}
theorem wd_length:∀ (P:List Nat) (u:W),(wd n P u).length=n
 | [],u=>by cases u<;>exact zr_length n
 | _::_,[]=>zr_length n
 | p::P,b::u=>by
  unfold wd
  split
  ·exact pl_length (un_length n p) (wd_length P u)
  ·exact wd_length P u
theorem ip_wd {v:W} (hv:v.length=n):∀ (P:List Nat) (u:W),ip v (wd n P u)=ip (rs P v) u
 | [],u=>by cases u<;>simp [wd,ip_zr_right,rs,ip_nil]
 | p::P,[]=>by
  rw [ip_comm (rs _ v),ip_nil];exact ip_zr_right n v
 | p::P,b::u=>by
  have ih:=ip_wd hv P u;have e:ip (rs (p::P) v) (b::u)=((bt v p&&b)^^ip (rs P v) u):=rfl;rw [e];unfold wd;cases b with
  | true=>rw [if_pos rfl,ip_pl_right (un_length n p) (wd_length P u) hv,ip_un hv,ih,Bool.and_true]
  | false=>rw [if_neg (by simp),ih,Bool.and_false,Bool.false_xor]
theorem bt_wd_off:∀ {P:List Nat} {u:W} {x:Nat},(∀ p∈P,p<n)->x∉P->bt (wd n P u) x=false
 | [],u,x,_,_=>by cases u<;>exact bt_zr n x
 | _::_,[],x,_,_=>bt_zr n x
 | p::P,b::u,x,hl,hx=>by
  have ih:=bt_wd_off (u:=u) (fun q hq=>hl q (List.mem_cons_of_mem _ hq)) fun z=>hx (List.mem_cons_of_mem _ z)
  unfold wd
  split
  ·rw [bt_pl ((un_length n p).trans (wd_length P u).symm),bt_un (hl p List.mem_cons_self),ih,decide_eq_false fun e=>hx (by rw [e];exact List.mem_cons_self)];rfl
  ·exact ih
theorem rs_wd:∀ {P:List Nat} {u:W},P.Nodup->(∀ p∈P,p<n)->u.length=P.length->rs P (wd n P u)=u
 | [],u,_,_,h=>by
  have:u=[]:=List.eq_nil_of_length_eq_zero h;subst this;rfl
 | _::_,[],_,_,h=>by simp at h
 | p::P,b::u,nd,hl,h=>by
  obtain ⟨n1,n2⟩:=List.nodup_cons.mp nd;have hl':∀ q∈P,q<n:=fun q hq=>hl q (List.mem_cons_of_mem _ hq)
  have ih:=rs_wd n2 hl' (u:=u) (by simpa using h);have hp:=bt_wd_off (u:=u) hl' n1;have e:∀ w,rs (p::P) w=bt w p::rs P w:=fun w=>rfl
  rw [e];unfold wd;cases b with
  | true =>
   rw [if_pos rfl,bt_pl ((un_length n p).trans (wd_length P u).symm),hp,bt_un (hl p List.mem_cons_self),rs_pl P (un_length n p) (wd_length P u),ih];have z:rs P (un n p)=zr P.length:=rs_zero.mpr fun q hq=>by rw [bt_un (hl p List.mem_cons_self)];exact decide_eq_false fun e=>n1 (e ▸ hq)
   have hu:u.length=P.length:=by simpa using h
   rw [z,zr_pl hu];simp
  | false=>rw [if_neg (by simp),hp,ih]
theorem wd_rs {P:List Nat} {v:W} (nd:P.Nodup) (hl:∀ p∈P,p<n) (hv:v.length=n) (hz:∀ x,x<n->x∉P->bt v x=false):wd n P (rs P v)=v:=by
 refine ext ((wd_length P _).trans hv.symm) fun x=>?_
 by_cases hx:x∈P
 ·exact List.map_inj_left.mp (rs_wd nd hl (rs_length P v)) x hx
 ·rw [bt_wd_off hl hx]
  by_cases hn:x<n
  ·exact (hz x hn hx).symm
  ·exact (bt_of_le (by omega)).symm
end
end Pd
namespace Pd
section
variable {n:Nat} {R:List W}
theorem rs_all (P:List Nat) (R:List W):All P.length (R.map (rs P)):=fun w hw=>by
 obtain ⟨v,_,rfl⟩:=List.mem_map.mp hw;exact rs_length P v
theorem sp_rs (h:All n R) (P:List Nat) {u:W}:Sp P.length (R.map (rs P)) u↔∃ v,Sp n R v/\u=rs P v:=by
 constructor
 ·intro hs
  induction hs with
  | zero=>exact ⟨zr n,.zero,(rs_zr P n).symm⟩
  | add hw hv ih =>
   obtain ⟨x,hx,rfl⟩:=List.mem_map.mp hw;obtain ⟨v,hv',rfl⟩:=ih;exact ⟨pl v x,.add hx hv',(rs_pl P (hv'.length h) (h x hx)).symm⟩
 ·rintro ⟨v,hv,rfl⟩
  induction hv with
  | zero=>rw [rs_zr];exact .zero
  | add hw hv ih =>
   rw [rs_pl P (hv.length h) (h _ hw)];exact .add (List.mem_map_of_mem hw) ih
end
end Pd
set_option maxHeartbeats 4000000
namespace Dn
open PySem Pu
section
variable (n:Nat) (h1:1<=n) (h2:n<=10) (R:List Pd.W) (hR:Pd.Rows n R)
include h1 h2 hR
end
end Dn
set_option maxHeartbeats 4000000
namespace Dn
open PySem Pu
end Dn
namespace Pd
end Pd
set_option maxHeartbeats 4000000
namespace Dn
open PySem Pu
theorem ks_props:∀ l:List (List Int),(PuT.KSof l).Nodup/\∀ k,k∈PuT.KSof l↔k∈l:=by
 have key:∀ (l acc:List (List Int)),acc.Nodup->(l.foldl PuT.ddS acc).Nodup/\∀ k,k∈l.foldl PuT.ddS acc↔k∈acc\/k∈l:=by
  intro l
  induction l with
  | nil=>intro acc h;exact ⟨h,fun k=>by simp⟩
  | cons a l ih =>
   intro acc h;have h2:(PuT.ddS acc a).Nodup:=by
    unfold PuT.ddS
    split
    ·exact h
    ·rename_i hn;rw [List.nodup_append];exact ⟨h,by simp,fun x hx y hy=>by simp at hy;rw [hy];exact fun z=>hn (z ▸ hx)⟩
   have m2:∀ k,k∈PuT.ddS acc a↔k∈acc\/k=a:=fun k=>by
    unfold PuT.ddS
    split
    ·rename_i hn
     exact ⟨.inl,fun z=>z.elim id fun e=>by rw [e];exact hn⟩
    ·simp
   obtain ⟨p1,p2⟩:=ih _ h2;refine ⟨p1,fun k=>?_⟩
   rw [List.foldl_cons,p2,m2,List.mem_cons,or_assoc]
 intro l;obtain ⟨a,b⟩:=key l [] List.nodup_nil;exact ⟨a,fun k=>by rw [PuT.KSof,b];simp⟩
end Dn
set_option maxHeartbeats 4000000
namespace Dn
open PySem Pu
end Dn
namespace Dn
open PySem Pu
def d_checked_a:Df:=runF 1 (sSeq (sIf (tNotD (eTru (eB d_is_desk (aCons (eVar 0) aNil)))) (sRaise "NoDesk" (aCons (eC (.str "this is no desk")) aNil)) sNil)
  (sRet (eVar 0)))
end Dn
set_option maxHeartbeats 4000000
namespace Dn
open PySem Pu
end Dn
set_option maxHeartbeats 4000000
namespace Dn
open PySem Pu
abbrev asc (x:Str):Bool:=x.cps.all (·<128)
def bc (b:Bool):Nat:=if b then 49 else 48
abbrev one (b:Bool):Str:=⟨#[bc b]⟩
def figs (w:Pd.W):Str:=⟨(w.map bc).toArray⟩
def fr (n:Nat):Str:=Str.ofString (toString (n:Int)) ++ ":"
def tx (n:Nat) (R:List Pd.W):Str:=R.foldl (fun d r=>d ++ " " ++ figs r) (fr n)
end Dn
set_option maxHeartbeats 4000000
namespace Dn
open PySem Pu
theorem r_raise {x:Str} {ds:Das} {ρ:En}:sRaise x ds ρ=(ds ρ).bind fun _=>.exc ⟨.own x,[]⟩:=(rfl)
theorem s_chk_yes (v:PV) (h:d_is_desk [v]=.ok (.bl true)):d_checked_a [v]=.ok v:=by
 simp [d_checked_a,r_run,entry,r_mod,r_mulL,r_mulR,-List.map_map,h]
end Dn
set_option maxHeartbeats 4000000
namespace Dn
open PySem Pu
end Dn
set_option maxHeartbeats 4000000
namespace Dn
open PySem Pu
def okc (c:Nat):Bool:=c==48||c==49
def gd (n:Nat) (p:Str):Bool:=decide (p.length=n)&&p.cps.toList.all okc
section
variable (t:Str) (ht:asc t=true) (hl:t.length<=500) (p0:Str) (ps:List Str) (hs:Txt.split t " " = p0::ps)
include ht hl hs
end
section
variable (t:Str) (ht:asc t=true) (hl:t.length<=500) (p0:Str) (ps:List Str) (hs:Txt.split t " " = p0::ps)
include ht hl hs
end
end Dn
set_option maxHeartbeats 4000000
namespace Dn
open PySem Pu
def d_rows_of_a:Df:=runF 1 (sRet (e2 ixF (eB d_checked_a (aCons (eVar 0) aNil)) (eC (.int 1))))
def d_heads_a:Df:=runF 1 (sRet (eComp (iSeq (eB d_rows_of_a (aCons (eVar 0) aNil))) 1 [] (bName 0) (fun _=>.ok true) (eB d_head_of (aCons (eVar 0) aNil))))
end Dn
namespace Pd
variable {n:Nat}
variable {rows:List W}
end Pd
set_option maxHeartbeats 4000000
namespace Dn
open PySem Pu
section
variable (n:Nat) (h1:1<=n) (h2:n<=10) (rows:List Pd.W) (hR:Pd.Rows n rows)
include h1 h2 hR
theorem s_rows_of_a:d_rows_of_a [edk n rows]=.ok (ewt rows):=by
 have i1:atF [PV.int (n:Int),ewt rows] 1=.ok (ewt rows):=at_written _ 1 (by simp);have e:=s_chk_yes (edk n rows) (s_is_desk n h1 h2 rows hR);simp [d_rows_of_a,r_run,entry,r_mod,r_mulL,r_mulR,-List.map_map,e,i1]
theorem s_heads_a:d_heads_a [edk n rows]=.ok (.lst ((rows.map Pd.hd).map fun k:Nat=>PV.int (k:Int))):=by
 have e1:=s_rows_of_a n h1 h2 rows hR;have hlen:=rows_len hR;have hc:eComp (iSeq (eB d_rows_of_a (aCons (eVar 0) aNil))) 1 [] (bName 0) (fun _=>.ok true) (eB d_head_of (aCons (eVar 0) aNil)) [some (Sl.val (edk n rows))]=.ok (.lst ((rows.map Pd.hd).map fun k:Nat=>PV.int (k:Int))):=by
  rw [r_compM (l:=rows) (q:=ew) (h:=fun r=>PV.int ((Pd.hd r:Nat):Int))]
  ·rw [List.map_map];rfl
  ·simp [e1]
  ·lia
  ·intro r hr;simp [caps,s_head r (hR.one r hr)]
 simp [d_heads_a,r_run,entry,r_mod,r_mulL,r_mulR,-List.map_map,hc]
end
end Dn
set_option maxHeartbeats 4000000
namespace Dn
open PySem Pu
def d_checks_a:Df:=runF 4 (sSeq (sAsg (eB d_heads_a (aCons (eVar 0) aNil)) (bName 1))
  (sSeq (sAsg (eB d_rows_of_a (aCons (eVar 0) aNil)) (bName 2))
  (sSeq (sAsg (e2 ixF (eVar 0) (eC (.int 0))) (bName 3))
  (sRet (eB d_made (aCons (eVar 3) (aCons (eComp (iR1 (aCons (eVar 3) aNil)) 1 [3,2,1] (bName 0) (eTst (e2 ninF (eVar 0) (eVar 3))) (eB d_check_of (aCons (eVar 1) (aCons (eVar 2) (aCons (eVar 0) aNil))))) aNil)))))))
end Dn
namespace Pd
end Pd
set_option maxHeartbeats 4000000
namespace Dn
open PySem Pu
section
variable (n m:Nat) (h1:1<=n) (h2:n<=10) (k1:1<=m) (k2:m<=10) (A B:List Pd.W) (hA:Pd.Rows n A) (hB:Pd.Rows m B)
include h1 h2 k1 k2 hA hB
theorem s_checksA:d_checks_a [edk n A]=.ok (edk n (Pd.chk n A)):=by
 have e1:=s_heads_a n h1 h2 A hA;have e2':=s_rows_of_a n h1 h2 A hA;have i0:atF [PV.int (n:Int),ewt A] 0=.ok (.int (n:Int)):=atF_zero _ _;have hc:eComp (iR1 (aCons (eVar 3) aNil)) 1 [3,2,1] (bName 0) (eTst (e2 ninF (eVar 0) (eVar 3))) (eB d_check_of (aCons (eVar 1) (aCons (eVar 2) (aCons (eVar 0) aNil))))
   [some (Sl.val (edk n A)),some (Sl.val (.lst ((A.map Pd.hd).map fun k:Nat=>PV.int (k:Int)))),some (Sl.val (ewt A)),some (Sl.val (.int (n:Int)))]=.ok (ewl (Pd.ckl n A)):=by
  rw [r_compF (l:=List.range n) (p:=fun p=>!decide (p∈A.map Pd.hd)) (q:=fun k:Nat=>PV.int (k:Int)) (h:=fun p=>ew (Pd.ck n A p))]
  ·unfold Pd.ckl Pd.free ewl;rw [List.map_map];rfl
  ·simp [r_rg1 (show n<=100000 by lia)]
  ·simp;lia
  ·intro p hp;have hp':=List.mem_range.mp hp;have e3:=EncOk.nat.ninL p (A.map Pd.hd);have e4:=s_check_of n h1 h2 A hA p hp';have hcap:caps 1 [3,2,1] [some (Sl.val (edk n A)),some (Sl.val (.lst ((A.map Pd.hd).map fun k:Nat=>PV.int (k:Int)))),some (Sl.val (ewt A)),some (Sl.val (.int (n:Int)))]=[none,some (Sl.val (.int (n:Int))),some (Sl.val (ewt A)),some (Sl.val (.lst ((A.map Pd.hd).map fun k:Nat=>PV.int (k:Int))))]:=rfl
   rw [hcap];generalize (A.map Pd.hd).map (fun k:Nat=>PV.int (k:Int))=hs at *
   cases hb:decide (p∈A.map Pd.hd)<;>rw [hb] at e3<;>simp only [r_cs,r_name,Res.bind_ok,List.set_cons_zero,r_cs1,r_eTst,r_e2,r_e2K,r_var0,r_varS,e3,r_asB,Bool.not_true,Bool.not_false,r_cs2,r_cs3,r_eB,r_aCons,r_aNil,r_acK,r_acK2,e4,r_someK,if_true,Bool.false_eq_true,if_false]
 have e5:=s_made n h1 h2 (Pd.ckl n A) Pd.ckl_all (by have:=Pd.ckl_len (n:=n) (R:=A);lia);simp only [d_checks_a,r_run,entry,List.map_cons,List.map_nil,List.cons_append,List.nil_append,List.length_cons,List.length_nil,Nat.reduceAdd,Nat.reduceSub,List.replicate,r_seq,r_asg,r_asg1,r_name,r_nxK,List.set_cons_succ,List.set_cons_zero,r_eB,r_aCons,r_aNil,r_acK,r_acK2,r_eC,r_var0,r_varS,Res.bind_ok,r_seq1,e1,e2',r_e2,r_e2K,r_ixT,i0,hc,e5,r_ret,r_rtK,r_out1,Pd.chk]
end
section
variable (n m:Nat) (h1:1<=n) (h2:n<=10) (k1:1<=m) (k2:m<=10) (A B:List Pd.W) (hA:Pd.Rows n A) (hB:Pd.Rows m B)
include h1 h2 k1 k2 hA hB
end
section
variable (n:Nat) (h1:1<=n) (h2:n<=10) (A B:List Pd.W) (hA:Pd.Rows n A) (hB:Pd.Rows n B)
include h1 h2 hA hB
end
theorem bif_t {c:Dt} {d1 d2:Db} {ρ:En} (h:c ρ=.ok true):bIf c d1 d2 ρ=d1 ρ:=by unfold bIf;rw [h]
theorem bif_f {c:Dt} {d1 d2:Db} {ρ:En} (h:c ρ=.ok false):bIf c d1 d2 ρ=d2 ρ:=by unfold bIf;rw [h]
theorem tst_way {ρ:En} {k:Int} (j:Int) (h:eVar 2 ρ=.ok (.int k)):eTst (e2 eqF (eVar 2) (eC (.int j))) ρ=.ok (decide (k=j)):=by
 have:=EncOk.int.eqF k j;simp only [r_eTst,r_e2,h,Res.bind_ok,r_e2K,r_eC,this,r_asB]
end Dn
set_option maxHeartbeats 4000000
namespace Dn
open PySem Pu
def d_rows_to_cut:Df:=runF 3 (sSeq (sAsg (eB d_rows_of_a (aCons (eVar 0) aNil)) (bName 2))
  (sSeq (sIf (tOrD (eTst (e2 eqF (e2 ixF (eVar 0) (eC (.int 0))) (eC (.int 1)))) (tNotD (eTru (eB d_is_number (aCons (eVar 1) (aCons (eC (.int 0)) (aCons (e2 subF (e2 ixF (eVar 0) (eC (.int 0))) (eC (.int 1))) aNil))))))) (sRaise "NoPlace" (aCons (eC (.str "this is no place at which the desk can be cut")) aNil)) sNil)
  (sRet (eVar 2))))
def d_without:Df:=runF 2 (sRet (e2 addF (eSl (eVar 0) (fun _=>.ok none) (pI (eVar 1))) (eSl (eVar 0) (pI (e2 addF (eVar 1) (eC (.int 1)))) (fun _=>.ok none))))
end Dn
set_option maxHeartbeats 4000000
namespace Dn
open PySem Pu
def d_cut_a:Df:=runF 3 (sSeq (sAsg (eB d_rows_to_cut (aCons (eVar 0) (aCons (eVar 1) aNil))) (bName 2))
  (sRet (eB d_made (aCons (e2 subF (e2 ixF (eVar 0) (eC (.int 0))) (eC (.int 1))) (aCons (eComp (iSeq (eVar 2)) 1 [1] (bName 0) (fun _=>.ok true) (eB d_without (aCons (eVar 0) (aCons (eVar 1) aNil)))) aNil)))))
def d_rows_with_nought:Df:=runF 3 (sSeq (sAsg (eComp (iSeq (eVar 0)) 1 [1] (bName 0) (eTst (e2 eqF (e2 ixF (eVar 0) (eVar 1)) (eC (.int 1)))) (eVar 0)) (bName 2))
  (sRet (e2 addF (eComp (iSeq (eVar 0)) 1 [1] (bName 0) (eTst (e2 eqF (e2 ixF (eVar 0) (eVar 1)) (eC (.int 0)))) (eVar 0)) (eComp (iSeq (eSl (eVar 2) (pI (eC (.int 1))) (fun _=>.ok none))) 1 [2] (bName 0) (fun _=>.ok true) (eB d_plus (aCons (e2 ixF (eVar 1) (eC (.int 0))) (aCons (eVar 0) aNil)))))))
def d_kept:Df:=runF 3 (sSeq (sAsg (eB d_rows_with_nought (aCons (eB d_rows_to_cut (aCons (eVar 0) (aCons (eVar 1) aNil))) (aCons (eVar 1) aNil))) (bName 2))
  (sRet (eB d_made (aCons (e2 subF (e2 ixF (eVar 0) (eC (.int 0))) (eC (.int 1))) (aCons (eComp (iSeq (eVar 2)) 1 [1] (bName 0) (fun _=>.ok true) (eB d_without (aCons (eVar 0) (aCons (eVar 1) aNil)))) aNil)))))
def d__law_way_a:Df:=runF 4 (sSeq (sTryB (bIf (eTst (e2 eqF (eVar 2) (eC (.int 0)))) (bCall d_cut_a (aCons (eVar 0) (aCons (eVar 1) aNil))) (bCall d_kept (aCons (eVar 0) (aCons (eVar 1) aNil)))) ["NoDesk","NoPlace"] (asSuite 3 (sRet (eLst (aCons (eIsX 3 ["NoPlace"]) (aCons (eIsX 3 ["NoDesk","NoPlace"]) aNil))))))
  (sRet (eLst aNil)))
def d__law_refused_c:Df:=runF 2 (sRet (eAnd (e2 eqF (eB d__law_way_a (aCons (eVar 0) (aCons (eVar 1) (aCons (eC (.int 0)) aNil)))) (eLst (aCons (eC (.bl true)) (aCons (eC (.bl true)) aNil)))) (e2 eqF (eB d__law_way_a (aCons (eVar 0) (aCons (eVar 1) (aCons (eC (.int 1)) aNil)))) (eLst (aCons (eC (.bl true)) (aCons (eC (.bl true)) aNil))))))
def d_law_k17:Df:=runF 10 (sSeq (sAsg (eB d__law_desk (aCons (eVar 0) (aCons (eC (.int 2)) aNil))) (bName 1))
  (sSeq (sAsg (e2 ixF (eVar 1) (eC (.int 0))) (bName 2))
  (sSeq (sIf (eTst (e2 eqF (eVar 2) (eC (.int 1)))) (sRet (eB d__law_refused_c (aCons (eVar 1) (aCons (eC (.int 0)) aNil)))) sNil)
  (sSeq (sAsg (e2 modF (eB d__law_cell (aCons (eVar 0) (aCons (eC (.int 0)) aNil))) (eVar 2)) (bName 3))
  (sSeq (sAsg (eB d__law_spread (aCons (eVar 2) (aCons (e2 ixF (eVar 1) (eC (.int 1))) aNil))) (bName 4))
  (sSeq (sAsg (eSrtSetT (eComp (iSeq (eVar 4)) 1 [3] (bName 0) (fun _=>.ok true) (e2 addF (eSl (eVar 0) (fun _=>.ok none) (pI (eVar 1))) (eSl (eVar 0) (pI (e2 addF (eVar 1) (eC (.int 1)))) (fun _=>.ok none))))) (bName 5))
  (sSeq (sAsg (eSrt (eComp (iSeq (eVar 4)) 1 [3] (bName 0) (eTst (e2 eqF (e2 ixF (eVar 0) (eVar 1)) (eC (.int 0)))) (e2 addF (eSl (eVar 0) (fun _=>.ok none) (pI (eVar 1))) (eSl (eVar 0) (pI (e2 addF (eVar 1) (eC (.int 1)))) (fun _=>.ok none))))) (bName 6))
  (sSeq (sAsg (eB d_cut_a (aCons (eVar 1) (aCons (eVar 3) aNil))) (bName 7))
  (sSeq (sAsg (eB d_kept (aCons (eVar 1) (aCons (eVar 3) aNil))) (bName 8))
  (sSeq (sIf (tOrD (eTst (e2 neF (eVar 7) (eB d__law_rows (aCons (eVar 5) aNil)))) (eTst (e2 neF (eVar 8) (eB d__law_rows (aCons (eVar 6) aNil))))) (sRet (eC (.bl false))) sNil)
  (sSeq (sIf (tOrD (eTst (e2 neF (eB d_checks_a (aCons (eVar 7) aNil)) (eB d_kept (aCons (eB d_checks_a (aCons (eVar 1) aNil)) (aCons (eVar 3) aNil))))) (eTst (e2 neF (eB d_checks_a (aCons (eVar 8) aNil)) (eB d_cut_a (aCons (eB d_checks_a (aCons (eVar 1) aNil)) (aCons (eVar 3) aNil)))))) (sRet (eC (.bl false))) sNil)
  (sSeq (sAsg (e2 ixF (eLst (aCons (eVar 2) (aCons (eNeg (eC (.int 1))) (aCons (eC (.bl true)) (aCons (eC (.str "0")) (aCons (eC .non) (aCons (e2 addF (eVar 2) (e2 modF (eB d__law_cell (aCons (eVar 0) (aCons (eC (.int 1)) aNil))) (e2 powF (eC (.int 10)) (eC (.int 20))))) (aCons (eTup (aCons (eC (.int 0)) aNil)) aNil)))))))) (e2 modF (eB d__law_cell (aCons (eVar 0) (aCons (eC (.int 1)) aNil))) (eC (.int 7)))) (bName 9))
  (sRet (eB d__law_refused_c (aCons (eVar 1) (aCons (eVar 9) aNil))))))))))))))))
end Dn
namespace Pd
variable {n:Nat} {R:List W}
end Pd
namespace Pd
def oth (n p:Nat):List Nat:=List.range p++(List.range (n-p-1)).map (·+(p+1))
def nght (R:List W) (p:Nat):List W:=(R.filter fun r=>!bt r p)++((R.filter fun r=>bt r p).drop 1).map fun r=>pl ((R.filter fun r=>bt r p).headD []) r
section
variable {n p:Nat} {R:List W}
theorem oth_mem (hp:p<n) (x:Nat):x∈oth n p↔x<n/\x≠p:=by
 unfold oth;rw [List.mem_append,List.mem_range,List.mem_map]
 constructor
 ·rintro (h | ⟨y,h,rfl⟩)
  ·exact ⟨by omega,by omega⟩
  ·have:=List.mem_range.mp h;exact ⟨by omega,by omega⟩
 ·rintro ⟨h1,h2⟩
  rcases Nat.lt_or_ge x p with h | h
  ·exact .inl h
  ·exact .inr ⟨x-(p+1),List.mem_range.mpr (by omega),by omega⟩
theorem oth_len (hp:p<n):(oth n p).length=n-1:=by unfold oth;simp;omega
theorem oth_nd (n p:Nat):(oth n p).Nodup:=by
 unfold oth;rw [List.nodup_append];refine ⟨List.nodup_range,nodup_map_on List.nodup_range fun x _ y _ e=>by omega,fun a ha b hb e=>?_⟩
 obtain ⟨y,_,rfl⟩:=List.mem_map.mp hb;have:=List.mem_range.mp ha;omega
theorem rs_oth {w:W} (hw:w.length=n) (hp:p<n):rs (oth n p) w=w.take p++w.drop (p+1):=by
 unfold rs oth;rw [List.map_append,List.map_map];congr 1
 ·apply List.ext_getElem
  ·simp;omega
  ·intro i h1 h2;simp at h1 h2;simp [bt,show i<w.length by omega]
 ·apply List.ext_getElem
  ·simp;omega
  ·intro i h1 h2;simp at h1 h2;simp [bt,show i+(p+1)<w.length by omega,Nat.add_comm]
theorem filter_mem {R:List W} {q:W->Bool} {r:W}:r∈R.filter q->r∈R:=fun h=>(List.mem_filter.mp h).1
theorem nght_all (h:All n R):All n (nght R p):=fun w hw=>by
 unfold nght at hw
 rcases List.mem_append.mp hw with z | z
 ·exact h w (filter_mem z)
 ·obtain ⟨r,hr,rfl⟩:=List.mem_map.mp z;have hr':=List.mem_of_mem_drop hr;cases e:R.filter fun r=>bt r p with
  | nil=>rw [e] at hr';cases hr'
  | cons o os=>exact pl_length (h o (filter_mem (by rw [e];exact List.mem_cons_self))) (h r (filter_mem hr'))
theorem nght_sp (h:All n R) (v:W):Sp n (nght R p) v↔Sp n R v/\bt v p=false:=by
 have ha:=nght_all (p:=p) h
 constructor
 ·intro hv
  induction hv with
  | zero=>exact ⟨.zero,bt_zr n p⟩
  | add hw hv ih =>
   rename_i w u
   have key:Sp n R w/\bt w p=false:=by
    unfold nght at hw
    rcases List.mem_append.mp hw with z | z
    ·obtain ⟨z1,z2⟩:=List.mem_filter.mp z;exact ⟨Sp.of_mem h z1,by simpa using z2⟩
    ·obtain ⟨r,hr,rfl⟩:=List.mem_map.mp z;have hr':=List.mem_of_mem_drop hr;cases e:R.filter fun r=>bt r p with
     | nil=>rw [e] at hr';cases hr'
     | cons o os =>
      have ho:o∈R.filter fun r=>bt r p:=by rw [e];exact List.mem_cons_self
      obtain ⟨o1,o2⟩:=List.mem_filter.mp ho;obtain ⟨r1,r2⟩:=List.mem_filter.mp hr';refine ⟨(Sp.of_mem h o1).plus h (Sp.of_mem h r1),?_⟩;show bt (pl o r) p=false;rw [bt_pl ((h o o1).trans (h r r1).symm)];have o3:bt o p=true:=o2;have r3:bt r p=true:=r2;rw [o3,r3];rfl
   exact ⟨ih.1.plus h key.1,by rw [bt_pl ((hv.length ha).trans (key.1.length h).symm),ih.2,key.2];rfl⟩
 ·rintro ⟨hv,hb⟩;have zero_in:∀ r∈R,bt r p=false->Sp n (nght R p) r:=fun r hr hz=>Sp.of_mem ha (by
   unfold nght;exact List.mem_append_left _ (List.mem_filter.mpr ⟨hr,by simp [hz]⟩))
  cases e:R.filter fun r=>bt r p with
  | nil =>
   refine Sp.mono ha (fun w hw=>?_) hv;refine zero_in w hw ?_;cases q:bt w p with
   | false=>rfl
   | true =>
    have:w∈R.filter fun r=>bt r p:=List.mem_filter.mpr ⟨hw,q⟩
    rw [e] at this;cases this
  | cons o os =>
   have ho:o∈R.filter fun r=>bt r p:=by rw [e];exact List.mem_cons_self
   obtain ⟨o1,o2⟩:=List.mem_filter.mp ho;have o3:bt o p=true:=o2;have hol:=h o o1;have one_in:∀ r∈R,bt r p=true->Sp n (nght R p) (pl o r):=fun r hr hz=>by
    have hr':r∈R.filter fun r=>bt r p:=List.mem_filter.mpr ⟨hr,hz⟩
    rw [e] at hr'
    rcases List.mem_cons.mp hr' with rfl | hr'
    ·rw [pl_self hol];exact .zero
    ·refine Sp.of_mem ha ?_;unfold nght;rw [e];exact List.mem_append_right _ (List.mem_map.mpr ⟨r,hr',rfl⟩)
   have key:∀ v,Sp n R v->(bt v p=false->Sp n (nght R p) v)/\(bt v p=true->Sp n (nght R p) (pl o v)):=by
    intro v hv
    induction hv with
    | zero=>exact ⟨fun _=>.zero,fun z=>by rw [bt_zr] at z;cases z⟩
    | add hw hv ih =>
     rename_i w u
     have hul:=hv.length h;have hwl:=h w hw;rw [bt_pl (hul.trans hwl.symm)];cases q1:bt u p<;>cases q2:bt w p
     ·exact ⟨fun _=>(ih.1 q1).plus ha (zero_in w hw q2),fun z=>by cases z⟩
     ·refine ⟨fun z=>(by cases z),fun _=>?_⟩
      have:=(ih.1 q1).plus ha (one_in w hw q2)
      rwa [<- pl_assoc hul hol hwl,pl_comm u o,pl_assoc hol hul hwl] at this
     ·refine ⟨fun z=>(by cases z),fun _=>?_⟩
      have:=(ih.2 q1).plus ha (zero_in w hw q2)
      rwa [pl_assoc hol hul hwl] at this
     ·refine ⟨fun _=>?_,fun z=>by cases z⟩
      have:=(ih.2 q1).plus ha (one_in w hw q2);have e2:pl (pl o u) (pl o w)=pl u w:=by
       rw [pl_comm o u,pl_assoc hul hol (pl_length hol hwl),<- pl_assoc hol hol hwl,pl_self hol,zr_pl hwl]
      rwa [e2] at this
   exact (key v hv).1 hb
def ct (n:Nat) (R:List W) (p:Nat):List W:=mk (R.map (rs (oth n p)))
def kt (n:Nat) (R:List W) (p:Nat):List W:=mk ((nght R p).map (rs (oth n p)))
theorem ct_ok (h:All n R) (hp:p<n):Rows (n-1) (ct n R p)/\∀ u,Sp (n-1) (ct n R p) u↔∃ v,Sp n R v/\u=rs (oth n p) v:=by
 have hl:=oth_len hp;obtain ⟨a,b⟩:=mk_all (rs_all (oth n p) R);rw [hl] at a b;refine ⟨a,fun u=>?_⟩
 have:=sp_rs h (oth n p) (u:=u);rw [hl] at this;exact (b u).trans this
theorem kt_ok (h:All n R) (hp:p<n):Rows (n-1) (kt n R p)/\∀ u,Sp (n-1) (kt n R p) u↔∃ v,Sp n R v/\bt v p=false/\u=rs (oth n p) v:=by
 have hl:=oth_len hp;obtain ⟨a,b⟩:=mk_all (rs_all (oth n p) (nght R p));rw [hl] at a b;refine ⟨a,fun u=>?_⟩
 have:=sp_rs (nght_all (p:=p) h) (oth n p) (u:=u);rw [hl] at this;rw [show kt n R p=mk ((nght R p).map (rs (oth n p))) from rfl,b u,this]
 constructor
 ·rintro ⟨v,hv,rfl⟩;obtain ⟨h1,h2⟩:=(nght_sp h v).mp hv;exact ⟨v,h1,h2,rfl⟩
 ·rintro ⟨v,hv,h2,rfl⟩;exact ⟨v,(nght_sp h v).mpr ⟨hv,h2⟩,rfl⟩
theorem chk_ct (h:Rows n R) (hp:p<n):chk (n-1) (ct n R p)=kt n (chk n R) p:=by
 have hl:=oth_len hp;have hlt:∀ q∈oth n p,q<n:=fun q hq=>((oth_mem hp q).mp hq).1
 have off:p∉oth n p:=fun z=>((oth_mem hp p).mp z).2 rfl
 obtain ⟨c1,c2⟩:=ct_ok h.len hp;obtain ⟨d1,d2⟩:=chk_ok c1;obtain ⟨e1,e2⟩:=chk_ok h;obtain ⟨k1,k2⟩:=kt_ok e1.len hp;refine rows_unique d1 k1 fun u=>?_
 rw [d2,k2,du_iff c1.len]
 constructor
 ·rintro ⟨u1,u2⟩;refine ⟨wd n (oth n p) u,?_,bt_wd_off hlt off,(rs_wd (oth_nd n p) hlt (by rw [u1,hl])).symm⟩;rw [e2,du_iff h.len];refine ⟨wd_length _ _,fun w hw=>?_⟩
  rw [ip_wd (hw.length h.len)];exact u2 _ ((c2 _).mpr ⟨w,hw,rfl⟩)
 ·rintro ⟨v,hv,hb,rfl⟩;refine ⟨by rw [rs_length,hl],fun w hw=>?_⟩
  obtain ⟨x,hx,rfl⟩:=(c2 w).mp hw;have hvl:=hv.length e1.len;have hdu:=(e2 v).mp hv;have back:wd n (oth n p) (rs (oth n p) v)=v:=wd_rs (oth_nd n p) hlt hvl fun y hy hny=>by
   have:y=p:=by
    apply Classical.byContradiction;intro z;exact hny ((oth_mem hp y).mpr ⟨hy,z⟩)
   rw [this];exact hb
  have:=ip_wd (hx.length h.len) (oth n p) (rs (oth n p) v);rw [back] at this;rw [<- this];exact hdu.sp h.len hx
theorem chk_kt (h:Rows n R) (hp:p<n):chk (n-1) (kt n R p)=ct n (chk n R) p:=by
 have e1:=(chk_ok h).1;have e:=chk_ct e1 hp;rw [chk_chk h] at e;rw [<- e,chk_chk (ct_ok e1.len hp).1]
theorem sprd_ct (h:Rows n R) (hp:p<n):sprd (n-1) (R.map (rs (oth n p)))=srt (nub ((sprd n R).map (rs (oth n p)))):=by
 have hl:=oth_len hp;have hall:All (n-1) (R.map (rs (oth n p))):=by have:=rs_all (oth n p) R;rwa [hl] at this
 have e:srt (sprd (n-1) (R.map (rs (oth n p))))=srt (nub ((sprd n R).map (rs (oth n p)))):=eq_of_mem (sprd_nodup hall) (nodup_nub _) fun u=>by
  have:=sp_rs h.len (oth n p) (u:=u);rw [hl] at this;rw [mem_sprd hall,this,mem_nub,List.mem_map]
  constructor
  ·rintro ⟨v,hv,rfl⟩;exact ⟨v,(mem_sprd h.len v).mpr hv,rfl⟩
  ·rintro ⟨v,hv,rfl⟩;exact ⟨v,(mem_sprd h.len v).mp hv,rfl⟩
 rw [<- e];exact srt_unique (.refl _) (srt_ord _)
theorem sprd_kt (h:Rows n R) (hp:p<n):sprd (n-1) ((nght R p).map (rs (oth n p)))=srt (((sprd n R).filter fun w=>!bt w p).map (rs (oth n p))):=by
 have hl:=oth_len hp;have hlt:∀ q∈oth n p,q<n:=fun q hq=>((oth_mem hp q).mp hq).1
 have hall:All (n-1) ((nght R p).map (rs (oth n p))):=by have:=rs_all (oth n p) (nght R p);rwa [hl] at this
 have nd:(((sprd n R).filter fun w=>!bt w p).map (rs (oth n p))).Nodup:=nodup_map_on ((sprd_nodup h.len).filter _) fun x hx y hy e=>by
  have back:∀ v∈(sprd n R).filter fun w=>!bt w p,wd n (oth n p) (rs (oth n p) v)=v:=fun v hv=>by
   obtain ⟨v1,v2⟩:=List.mem_filter.mp hv;refine wd_rs (oth_nd n p) hlt (((mem_sprd h.len v).mp v1).length h.len) fun y hy hny=>?_
   have:y=p:=by
    apply Classical.byContradiction;intro z;exact hny ((oth_mem hp y).mpr ⟨hy,z⟩)
   rw [this];simpa using v2
  rw [<- back x hx,<- back y hy,e]
 have e:srt (sprd (n-1) ((nght R p).map (rs (oth n p))))=srt (((sprd n R).filter fun w=>!bt w p).map (rs (oth n p))):=eq_of_mem (sprd_nodup hall) nd fun u=>by
  have:=sp_rs (nght_all (p:=p) h.len) (oth n p) (u:=u);rw [hl] at this;rw [mem_sprd hall,this,List.mem_map]
  constructor
  ·rintro ⟨v,hv,rfl⟩;obtain ⟨h1,h2⟩:=(nght_sp h.len v).mp hv;exact ⟨v,List.mem_filter.mpr ⟨(mem_sprd h.len v).mpr h1,by simp [h2]⟩,rfl⟩
  ·rintro ⟨v,hv,rfl⟩;obtain ⟨v1,v2⟩:=List.mem_filter.mp hv;exact ⟨v,(nght_sp h.len v).mpr ⟨(mem_sprd h.len v).mp v1,by simpa using v2⟩,rfl⟩
 rw [<- e];exact srt_unique (.refl _) (srt_ord _)
end
end Pd
set_option maxHeartbeats 4000000
namespace Dn
open PySem Pu
abbrev nop:XC:=⟨.own "NoPlace",[]⟩
theorem wo_ew (w:Pd.W) (p:Nat) (hl:w.length<=1000):(e2 addF (eSl (eVar 0) (fun _=>.ok none) (pI (eVar 1))) (eSl (eVar 0) (pI (e2 addF (eVar 1) (eC (.int 1)))) (fun _=>.ok none))) [some (Sl.val (ew w)),some (Sl.val (.int (p:Int)))]=.ok (ew (w.take p++w.drop (p+1))):=by
 have t4:=cutP_take (w.map eb) p;have d4:cutP (w.map eb) (some ((p:Int)+1)) none=(w.map eb).drop (p+1):=cutP_drop (w.map eb) (p+1);have ad:addF (.tup ((w.map eb).take p)) (.tup ((w.map eb).drop (p+1)))=.ok (ew (w.take p++w.drop (p+1))):=by
  rw [r_addT (by simp;omega)];show _=Res.ok (PV.tup ((w.take p++w.drop (p+1)).map eb));rw [List.map_append,List.map_take,List.map_drop]
 show (e2 addF (eSl (eVar 0) (fun _=>.ok none) (pI (eVar 1))) (eSl (eVar 0) (pI (e2 addF (eVar 1) (eC (.int 1)))) (fun _=>.ok none))) [some (Sl.val (.tup (w.map eb))),some (Sl.val (.int (p:Int)))]=_;simp only [r_e2,r_e2K,r_sl,r_sl1,r_sl2,r_sl3,r_pI,r_asI,r_eC,r_varS,r_var0,Res.bind_ok,r_add,r_slT,t4,d4,ad]
theorem s_without (w:Pd.W) (p:Nat) (hl:w.length<=1000):d_without [ew w,.int (p:Int)]=.ok (ew (w.take p++w.drop (p+1))):=by
 have e:=wo_ew w p hl;simp only [d_without,r_run,entry,List.map_cons,List.map_nil,List.cons_append,List.nil_append,List.length_cons,List.length_nil,Nat.reduceAdd,Nat.reduceSub,List.replicate,r_ret,e,Res.bind_ok,r_rtK,r_out1]
section
variable (n:Nat) (h1:1<=n) (h2:n<=10) (R:List Pd.W) (hR:Pd.Rows n R)
include h1 h2 hR
theorem s_cut_rows (v:PV):d_rows_to_cut [edk n R,v]=if n=1\/isNum 0 ((n:Int)-1) v=false then .exc nop else .ok (ewt R):=by
 have e1:=s_rows_of_a n h1 h2 R hR;have i0:ixF (edk n R) (.int 0)=.ok (.int (n:Int)):=by
  show atF [PV.int (n:Int),ewt R] 0=_;exact atF_zero _ _
 have q1:=EncOk.int.eqF (n:Int) 1;have m1:=s_is_number v 0 ((n:Int)-1);generalize edk n R=D at *
 by_cases hn:n=1
 ·rw [if_pos (.inl hn)];rw [decide_eq_true (show (n:Int)=1 by omega)] at q1;simp only [d_rows_to_cut,r_run,entry,List.map_cons,List.map_nil,List.cons_append,List.nil_append,List.length_cons,List.length_nil,Nat.reduceAdd,Nat.reduceSub,List.replicate,r_seq,r_asg,r_asg1,r_name,r_nxK,List.set,r_eB,r_aCons,r_aNil,r_acK,r_acK2,r_eC,r_var0,r_varS,Res.bind_ok,r_seq1,e1,r_if,r_or,r_eTst,r_e2,r_e2K,i0,q1,r_asB,r_or1,r_ifK1,r_raise,Res.bind_exc]
 ·rw [decide_eq_false (show ¬ (n:Int)=1 by omega)] at q1;cases hb:isNum 0 ((n:Int)-1) v with
  | false =>
   rw [hb] at m1;rw [if_pos (.inr rfl)];simp only [d_rows_to_cut,r_run,entry,List.map_cons,List.map_nil,List.cons_append,List.nil_append,List.length_cons,List.length_nil,Nat.reduceAdd,Nat.reduceSub,List.replicate,r_seq,r_asg,r_asg1,r_name,r_nxK,List.set,r_eB,r_aCons,r_aNil,r_acK,r_acK2,r_eC,r_var0,r_varS,Res.bind_ok,r_seq1,e1,r_if,r_or,r_eTst,r_e2,r_e2K,i0,q1,r_asB,r_or2,r_not,r_eTru,r_sub,m1,r_tru1,r_notK,Bool.not_false,r_ifK1,r_raise,Res.bind_exc]
  | true =>
   rw [hb] at m1;rw [if_neg (by rintro (z | z);exact hn z;cases z)];simp only [d_rows_to_cut,r_run,entry,List.map_cons,List.map_nil,List.cons_append,List.nil_append,List.length_cons,List.length_nil,Nat.reduceAdd,Nat.reduceSub,List.replicate,r_seq,r_asg,r_asg1,r_name,r_nxK,List.set,r_eB,r_aCons,r_aNil,r_acK,r_acK2,r_eC,r_var0,r_varS,Res.bind_ok,r_seq1,e1,r_if,r_or,r_eTst,r_e2,r_e2K,i0,q1,r_asB,r_or2,r_not,r_eTru,r_sub,m1,r_tru1,r_notK,Bool.not_true,r_ifK2,r_nil,r_ret,r_rtK,r_out1]
theorem s_cut_no (v:PV) (hv:n=1\/isNum 0 ((n:Int)-1) v=false):d_cut_a [edk n R,v]=.exc nop:=by
 have e1:=s_cut_rows n h1 h2 R hR v;rw [if_pos hv] at e1;simp only [d_cut_a,r_run,entry,List.map_cons,List.map_nil,List.cons_append,List.nil_append,List.length_cons,List.length_nil,Nat.reduceAdd,Nat.reduceSub,List.replicate,r_seq,r_asg,r_eB,r_aCons,r_aNil,r_acK,r_acK2,r_var0,r_varS,Res.bind_ok,e1,Res.bind_exc]
theorem s_kept_no (v:PV) (hv:n=1\/isNum 0 ((n:Int)-1) v=false):d_kept [edk n R,v]=.exc nop:=by
 have e1:=s_cut_rows n h1 h2 R hR v;rw [if_pos hv] at e1;simp only [d_kept,r_run,entry,List.map_cons,List.map_nil,List.cons_append,List.nil_append,List.length_cons,List.length_nil,Nat.reduceAdd,Nat.reduceSub,List.replicate,r_seq,r_asg,r_eB,r_aCons,r_aNil,r_acK,r_acK2,r_var0,r_varS,Res.bind_ok,e1,Res.bind_exc]
theorem way_k17 (bd:Db) (ρ:En) (h:bd ρ=.exc nop) (a b c:Option Sl) (hρ:ρ=[a,b,c,none]):sTryB bd ["NoDesk","NoPlace"] (asSuite 3 (sRet (eLst (aCons (eIsX 3 ["NoPlace"]) (aCons (eIsX 3 ["NoDesk","NoPlace"]) aNil))))) ρ=.ok (.rt (.lst [.bl true,.bl true])):=by
 unfold sTryB;rw [h];subst hρ;simp [asSuite,eIsX,gone_rt,noXR_ok]
theorem bcall_nop {g:Df} {ρ:En} {u v:PV} (k0:eVar 0 ρ=.ok u) (k1:eVar 1 ρ=.ok v) (h:g [u,v]=.exc nop):bCall g (aCons (eVar 0) (aCons (eVar 1) aNil)) ρ=.exc nop:=by
 unfold bCall;simp only [r_aCons,k0,k1,Res.bind_ok,r_acK,r_aNil,r_acK2,h,Res.bind_exc]
theorem s_refused_c (v:PV) (hv:n=1\/isNum 0 ((n:Int)-1) v=false):d__law_refused_c [edk n R,v]=.ok (.bl true):=by
 have e1:=s_cut_no n h1 h2 R hR v hv;have e2':=s_kept_no n h1 h2 R hR v hv;have t:∀ k:Int,eTst (e2 eqF (eVar 2) (eC (.int 0))) [some (Sl.val (edk n R)),some (Sl.val v),some (Sl.val (.int k)),none]=.ok (decide (k=0)):=fun k=>tst_way 0 rfl
 have b0:bIf (eTst (e2 eqF (eVar 2) (eC (.int 0)))) (bCall d_cut_a (aCons (eVar 0) (aCons (eVar 1) aNil))) (bCall d_kept (aCons (eVar 0) (aCons (eVar 1) aNil))) [some (Sl.val (edk n R)),some (Sl.val v),some (Sl.val (.int 0)),none]=.exc nop:=by
  rw [bif_t (t 0)];exact bcall_nop n h1 h2 R hR rfl rfl e1
 have b1:bIf (eTst (e2 eqF (eVar 2) (eC (.int 0)))) (bCall d_cut_a (aCons (eVar 0) (aCons (eVar 1) aNil))) (bCall d_kept (aCons (eVar 0) (aCons (eVar 1) aNil))) [some (Sl.val (edk n R)),some (Sl.val v),some (Sl.val (.int 1)),none]=.exc nop:=by
  rw [bif_f (t 1)];exact bcall_nop n h1 h2 R hR rfl rfl e2'
 have w0:=way_k17 n h1 h2 R hR _ _ b0 _ _ _ rfl;have w1:=way_k17 n h1 h2 R hR _ _ b1 _ _ _ rfl;have g0:d__law_way_a [edk n R,v,.int 0]=.ok (.lst [.bl true,.bl true]):=by
  simp only [d__law_way_a,r_run,entry,List.map_cons,List.map_nil,List.cons_append,List.nil_append,List.length_cons,List.length_nil,Nat.reduceAdd,Nat.reduceSub,List.replicate,r_seq,w0,Res.bind_ok,r_seq2,r_out1]
 have g1:d__law_way_a [edk n R,v,.int 1]=.ok (.lst [.bl true,.bl true]):=by
  simp only [d__law_way_a,r_run,entry,List.map_cons,List.map_nil,List.cons_append,List.nil_append,List.length_cons,List.length_nil,Nat.reduceAdd,Nat.reduceSub,List.replicate,r_seq,w1,Res.bind_ok,r_seq2,r_out1]
 have q:eqF (.lst [.bl true,.bl true]) (.lst [.bl true,.bl true])=.ok (.bl true):=rfl;simp only [d__law_refused_c,r_run,entry,List.map_cons,List.map_nil,List.cons_append,List.nil_append,List.length_cons,List.length_nil,Nat.reduceAdd,Nat.reduceSub,List.replicate,r_ret,r_eAnd,r_e2,r_e2K,r_eB,r_aCons,r_aNil,r_acK,r_acK2,r_eC,r_varS,r_var0,Res.bind_ok,g0,g1,r_lst,r_lstK2,q,r_eAnd1,r_rtK,r_out1]
end
section
variable (n:Nat) (h1:2<=n) (h2:n<=10) (R:List Pd.W) (hR:Pd.Rows n R) (p:Nat) (hp:p<n)
include h1 h2 hR hp
theorem yes_rows:d_rows_to_cut [edk n R,.int (p:Int)]=.ok (ewt R):=by
 rw [s_cut_rows n (by omega) h2 R hR,if_neg];rintro (z | z)
 ·omega
 ·simp only [isNum,Bool.and_eq_false_iff,decide_eq_false_iff_not] at z;omega
theorem s_cut_yes:d_cut_a [edk n R,.int (p:Int)]=.ok (edk (n-1) (Pd.ct n R p)):=by
 have e1:=yes_rows n h1 h2 R hR p hp;have i0:ixF (edk n R) (.int 0)=.ok (.int (n:Int)):=by
  show atF [PV.int (n:Int),ewt R] 0=_;exact atF_zero _ _
 have hlen:=rows_len hR;have hall:Pd.All (n-1) (R.map (Pd.rs (Pd.oth n p))):=by have:=Pd.rs_all (Pd.oth n p) R;rwa [Pd.oth_len hp] at this
 have mk:=s_made (n-1) (by omega) (by omega) (R.map (Pd.rs (Pd.oth n p))) hall (by simp;omega);have en:((n-1:Nat):Int)=(n:Int)-1:=by omega
 rw [en] at mk;have hc:∀ (D:PV),eComp (iSeq (eVar 2)) 1 [1] (bName 0) (fun _=>.ok true) (eB d_without (aCons (eVar 0) (aCons (eVar 1) aNil))) [some (Sl.val D),some (Sl.val (.int (p:Int))),some (Sl.val (ewt R))]=.ok (ewl (R.map (Pd.rs (Pd.oth n p)))):=fun D=>by
  rw [r_compM (l:=R) (q:=ew) (h:=fun r=>ew (Pd.rs (Pd.oth n p) r))]
  ·unfold ewl;rw [List.map_map];rfl
  ·simp only [r_iSeq,r_varS,r_var0,Res.bind_ok,r_seqT]
  ·omega
  ·intro r hr;have e:=s_without r p (by rw [hR.len r hr];omega);rw [<- Pd.rs_oth (hR.len r hr) hp] at e;have hcap:caps 1 [1] [some (Sl.val D),some (Sl.val (.int (p:Int))),some (Sl.val (ewt R))]=[none,some (Sl.val (.int (p:Int)))]:=rfl;rw [hcap];simp only [r_cs,r_name,Res.bind_ok,List.set_cons_zero,r_cs1,r_cs2,r_eB,r_aCons,r_aNil,r_acK,r_acK2,r_var0,r_varS,e,r_someK]
 have mk':d_made [.int ((n:Int)-1),ewl (R.map (Pd.rs (Pd.oth n p)))]=.ok (edk (n-1) (Pd.ct n R p)):=mk;generalize ewl (R.map (Pd.rs (Pd.oth n p)))=L at *;generalize edk (n-1) (Pd.ct n R p)=OUT at *;generalize edk n R=D at *;simp only [d_cut_a,r_run,entry,List.map_cons,List.map_nil,List.cons_append,List.nil_append,List.length_cons,List.length_nil,Nat.reduceAdd,Nat.reduceSub,List.replicate,r_seq,r_asg,r_asg1,r_name,List.set,r_nxK,r_seq1,r_eB,r_aCons,r_aNil,r_acK,r_acK2,r_e2,r_e2K,r_eC,r_var0,r_varS,Res.bind_ok,e1,i0,r_sub,hc,mk',r_ret,r_rtK,r_out1]
theorem s_nought:d_rows_with_nought [ewt R,.int (p:Int)]=.ok (ewl (Pd.nght R p)):=by
 have hlen:=rows_len hR;have hcap:∀ (b:Option Sl) r,caps 1 [1] (b::some (Sl.val (.int (p:Int)))::r)=[none,some (Sl.val (.int (p:Int)))]:=fun _ _=>rfl
 have ix:∀ r∈R,ixF (ew r) (.int (p:Int))=.ok (eb (Pd.bt r p)):=fun r hr=>bt_get r p (by rw [hR.len r hr];exact hp)
 have cO:eComp (iSeq (eVar 0)) 1 [1] (bName 0) (eTst (e2 eqF (e2 ixF (eVar 0) (eVar 1)) (eC (.int 1)))) (eVar 0) [some (Sl.val (ewt R)),some (Sl.val (.int (p:Int))),none]=.ok (ewl (R.filter fun r=>Pd.bt r p)):=by
  rw [r_compF (l:=R) (p:=fun r=>Pd.bt r p) (q:=ew) (h:=ew)]
  ·simp only [r_iSeq,r_varS,r_var0,Res.bind_ok,r_seqT]
  ·omega
  ·intro r hr;have e:=ix r hr;have q:=eq1 (Pd.bt r p);rw [hcap];cases hb:Pd.bt r p<;>rw [hb] at e q<;>simp only [r_cs,r_name,Res.bind_ok,List.set_cons_zero,r_cs1,r_cs2,r_cs3,r_eTst,r_e2,r_e2K,r_eC,r_var0,r_varS,e,q,r_asB,r_someK,Bool.false_eq_true,if_false,if_true]
 have cZ:∀ v,eComp (iSeq (eVar 0)) 1 [1] (bName 0) (eTst (e2 eqF (e2 ixF (eVar 0) (eVar 1)) (eC (.int 0)))) (eVar 0) [some (Sl.val (ewt R)),some (Sl.val (.int (p:Int))),v]=.ok (ewl (R.filter fun r=>!Pd.bt r p)):=fun v=>by
  rw [r_compF (l:=R) (p:=fun r=>!Pd.bt r p) (q:=ew) (h:=ew)]
  ·simp only [r_iSeq,r_varS,r_var0,Res.bind_ok,r_seqT]
  ·omega
  ·intro r hr;have e:=ix r hr;have q:eqF (eb (Pd.bt r p)) (.int 0)=.ok (.bl (!Pd.bt r p)):=by cases Pd.bt r p<;>rfl
   rw [hcap];cases hb:Pd.bt r p<;>rw [hb] at e q<;>simp only [r_cs,r_name,Res.bind_ok,List.set_cons_zero,r_cs1,r_cs2,r_cs3,r_eTst,r_e2,r_e2K,r_eC,r_var0,r_varS,e,q,r_asB,r_someK,Bool.not_true,Bool.not_false,Bool.false_eq_true,if_false,if_true]
 have cP:∀ a b,eComp (iSeq (eSl (eVar 2) (pI (eC (.int 1))) (fun _=>.ok none))) 1 [2] (bName 0) (fun _=>.ok true) (eB d_plus (aCons (e2 ixF (eVar 1) (eC (.int 0))) (aCons (eVar 0) aNil))) [a,b,some (Sl.val (ewl (R.filter fun r=>Pd.bt r p)))]=.ok (ewl (((R.filter fun r=>Pd.bt r p).drop 1).map fun r=>Pd.pl ((R.filter fun r=>Pd.bt r p).headD []) r)):=fun a b=>by
  have hin:∀ r∈R.filter fun r=>Pd.bt r p,r.length=n:=fun r hr=>hR.len r (List.mem_filter.mp hr).1
  have hfl:(R.filter fun r=>Pd.bt r p).length<=R.length:=List.length_filter_le _ _;generalize R.filter (fun r=>Pd.bt r p)=F at *;have d1:cutP (F.map ew) (some 1) none=(F.drop 1).map ew:=by
   have:=cutP_drop (F.map ew) 1;rw [<- List.map_drop] at this;exact this
  rw [r_compM (l:=F.drop 1) (q:=ew) (h:=fun r=>ew (Pd.pl (F.headD []) r))]
  ·unfold ewl;rw [List.map_map];rfl
  ·simp only [r_iSeq,r_sl,r_sl1,r_sl2,r_sl3,r_pI,r_asI,r_eC,r_varS,r_var0,Res.bind_ok,r_slL,d1,r_seqL]
  ·simp;omega
  ·intro r hr;cases F with
   | nil=>simp at hr
   | cons o os =>
    have i0:ixF (ewl (o::os)) (.int 0)=.ok (ew o):=atF_zero _ _;have e:=s_plus o r (by rw [hin o List.mem_cons_self];omega);have hcap2:caps 1 [2] [a,b,some (Sl.val (ewl (o::os)))]=[none,some (Sl.val (ewl (o::os)))]:=rfl;rw [hcap2];generalize ewl (o::os)=FO at *;simp only [r_cs,r_name,Res.bind_ok,List.set_cons_zero,r_cs1,r_cs2,r_eB,r_aCons,r_aNil,r_acK,r_acK2,r_e2,r_e2K,r_eC,r_var0,r_varS,i0,e,r_someK,List.headD_cons]
 have ad:addF (ewl (R.filter fun r=>!Pd.bt r p)) (ewl (((R.filter fun r=>Pd.bt r p).drop 1).map fun r=>Pd.pl ((R.filter fun r=>Pd.bt r p).headD []) r))=.ok (ewl (Pd.nght R p)):=by
  have a1:(R.filter fun r=>!Pd.bt r p).length<=R.length:=List.length_filter_le _ _;have a2:(R.filter fun r=>Pd.bt r p).length<=R.length:=List.length_filter_le _ _;unfold ewl Pd.nght;rw [r_addL (by simp;omega),List.map_append]
 generalize ewl (Pd.nght R p)=OUT at *;generalize ewl (((R.filter fun r=>Pd.bt r p).drop 1).map fun r=>Pd.pl ((R.filter fun r=>Pd.bt r p).headD []) r)=L2 at *
 generalize ewl (R.filter fun r=>Pd.bt r p)=L1 at *;generalize ewl (R.filter fun r=>!Pd.bt r p)=L0 at *;generalize ewt R=RR at *;simp only [d_rows_with_nought,r_run,entry,List.map_cons,List.map_nil,List.cons_append,List.nil_append,List.length_cons,List.length_nil,Nat.reduceAdd,Nat.reduceSub,List.replicate,r_seq,r_asg,r_asg1,r_name,List.set,r_nxK,r_seq1,cO,cZ,cP,r_e2,r_e2K,Res.bind_ok,ad,r_ret,r_rtK,r_out1]
theorem s_kept_yes:d_kept [edk n R,.int (p:Int)]=.ok (edk (n-1) (Pd.kt n R p)):=by
 have e1:=yes_rows n h1 h2 R hR p hp;have e2':=s_nought n h1 h2 R hR p hp;have i0:ixF (edk n R) (.int 0)=.ok (.int (n:Int)):=by
  show atF [PV.int (n:Int),ewt R] 0=_;exact atF_zero _ _
 have hlen:=rows_len hR;have hNl:(Pd.nght R p).length<=20:=by
  have a1:(R.filter fun r=>!Pd.bt r p).length<=R.length:=List.length_filter_le _ _;have a2:(R.filter fun r=>Pd.bt r p).length<=R.length:=List.length_filter_le _ _;unfold Pd.nght;simp;omega
 have hN:=Pd.nght_all (p:=p) hR.len;have hall:Pd.All (n-1) ((Pd.nght R p).map (Pd.rs (Pd.oth n p))):=by have:=Pd.rs_all (Pd.oth n p) (Pd.nght R p);rwa [Pd.oth_len hp] at this
 have mk:=s_made (n-1) (by omega) (by omega) ((Pd.nght R p).map (Pd.rs (Pd.oth n p))) hall (by simpa using hNl);have en:((n-1:Nat):Int)=(n:Int)-1:=by omega
 rw [en] at mk;have hc:∀ (D:PV),eComp (iSeq (eVar 2)) 1 [1] (bName 0) (fun _=>.ok true) (eB d_without (aCons (eVar 0) (aCons (eVar 1) aNil))) [some (Sl.val D),some (Sl.val (.int (p:Int))),some (Sl.val (ewl (Pd.nght R p)))]=.ok (ewl ((Pd.nght R p).map (Pd.rs (Pd.oth n p)))):=fun D=>by
  rw [r_compM (l:=Pd.nght R p) (q:=ew) (h:=fun r=>ew (Pd.rs (Pd.oth n p) r))]
  ·unfold ewl;rw [List.map_map];rfl
  ·simp only [r_iSeq,r_varS,r_var0,Res.bind_ok,r_seqL]
  ·omega
  ·intro r hr;have e:=s_without r p (by rw [hN r hr];omega);rw [<- Pd.rs_oth (hN r hr) hp] at e;have hcap:caps 1 [1] [some (Sl.val D),some (Sl.val (.int (p:Int))),some (Sl.val (ewl (Pd.nght R p)))]=[none,some (Sl.val (.int (p:Int)))]:=rfl;rw [hcap];simp only [r_cs,r_name,Res.bind_ok,List.set_cons_zero,r_cs1,r_cs2,r_eB,r_aCons,r_aNil,r_acK,r_acK2,r_var0,r_varS,e,r_someK]
 have mk':d_made [.int ((n:Int)-1),ewl ((Pd.nght R p).map (Pd.rs (Pd.oth n p)))]=.ok (edk (n-1) (Pd.kt n R p)):=mk;generalize ewl ((Pd.nght R p).map (Pd.rs (Pd.oth n p)))=L at *;generalize ewl (Pd.nght R p)=NN at *;generalize edk (n-1) (Pd.kt n R p)=OUT at *;generalize edk n R=D at *;generalize ewt R=RR at *;simp only [d_kept,r_run,entry,List.map_cons,List.map_nil,List.cons_append,List.nil_append,List.length_cons,List.length_nil,Nat.reduceAdd,Nat.reduceSub,List.replicate,r_seq,r_asg,r_asg1,r_name,List.set,r_nxK,r_seq1,r_eB,r_aCons,r_aNil,r_acK,r_acK2,r_e2,r_e2K,r_eC,r_var0,r_varS,Res.bind_ok,e1,e2',i0,r_sub,hc,mk',r_ret,r_rtK,r_out1]
end
theorem srtSet_ew (l:List Pd.W) (hl:l.length<=299) (hne:∀ w∈l,w≠[]):srtSetTF (ewl l)=.ok (ewl (Pd.srt (Pd.nub l))):=by
 have e1:l.map ew=(l.map fun w=>w.map bi).map tpv:=by rw [List.map_map];exact List.map_congr_left fun w _=>eb_bi w
 have e0:=srtSetT_tups (l.map fun w=>w.map bi) (fun ns hns=>by obtain ⟨w,hw,rfl⟩:=List.mem_map.mp hns;simpa using hne w hw) (by simpa using hl);rw [<- e1] at e0;obtain ⟨n1,m1⟩:=ks_props (l.map fun w=>w.map bi);have n2:((Pd.nub l).map fun u=>u.map bi).Nodup:=Pd.nodup_map_on (Pd.nodup_nub l) fun x _ y _ e=>bi_inj e
 have pm:=(List.perm_ext_iff_of_nodup n1 n2).mpr fun k=>by
  rw [m1,List.mem_map,List.mem_map]
  constructor
  ·rintro ⟨u,hu,e⟩;exact ⟨u,Pd.mem_nub.mpr hu,e⟩
  ·rintro ⟨u,hu,e⟩;exact ⟨u,Pd.mem_nub.mp hu,e⟩
 have e3:sortL false (PuT.KSof (l.map fun w=>w.map bi))=(Pd.srt (Pd.nub l)).map fun w=>w.map bi:=by
  refine (sortL_unique (((Pd.srt_perm (Pd.nub l)).map _).trans pm.symm) ?_).symm;rw [List.pairwise_map];refine (Pd.srt_ord (Pd.nub l)).imp fun {a b} h=>?_
  simp only [ordB,Bool.false_eq_true,if_false,lle,llt_wlt];exact h
 show srtSetTF (.lst (l.map ew))=_;rw [e0,e3,List.map_map];congr 2;exact List.map_congr_left fun w _=>(eb_bi w).symm
theorem s_odd17 (n:Nat) (c:Int) (i:Nat) (hi:i<7):∃ v,atF [.int (n:Int),.int (-1),.bl true,.str "0",.non,.int ((n:Int)+c % 100000000000000000000),.tup [.int 0]] (i:Int)=.ok v/\isNum 0 ((n:Int)-1) v=false:=by
 have hc:0<=c % 100000000000000000000:=Int.emod_nonneg _ (by decide);have z:i=0\/i=1\/i=2\/i=3\/i=4\/i=5\/i=6:=by omega
 rcases z with rfl | rfl | rfl | rfl | rfl | rfl | rfl
 ·exact ⟨_,at_written _ 0 (by simp),by simp only [List.getElem_cons_zero,isNum,Bool.and_eq_false_iff,decide_eq_false_iff_not];omega⟩
 ·exact ⟨_,at_written _ 1 (by simp),rfl⟩
 ·exact ⟨_,at_written _ 2 (by simp),rfl⟩
 ·exact ⟨_,at_written _ 3 (by simp),rfl⟩
 ·exact ⟨_,at_written _ 4 (by simp),rfl⟩
 ·exact ⟨_,at_written _ 5 (by simp),by show isNum 0 ((n:Int)-1) (.int ((n:Int)+c % 100000000000000000000))=false;simp only [isNum,Bool.and_eq_false_iff,decide_eq_false_iff_not];omega⟩
 ·exact ⟨_,at_written _ 6 (by simp),rfl⟩
theorem law_k17_true (ns:List Int) (h63:ns.length<=63):d_law_k17 [.lst (ns.map PV.int)]=.ok (.bl true):=by
 show d_law_k17 [scr ns]=_;have p1:=size_pos ns 2;have p2:=size_le ns 2;have hR:=ldk_rows ns 2;have hdk:d__law_desk [scr ns,.int 2]=.ok (edk (size ns 2) (ldk ns 2)):=s_desk ns 2 h63;generalize size ns 2=n at *;generalize ldk ns 2=R at *;have h2:n<=10:=by omega
 have c0:d__law_cell [scr ns,.int 0]=.ok (.int (cell ns 0)):=s_cell0 ns;have c1:d__law_cell [scr ns,.int 1]=.ok (.int (cell ns 1)):=s_cell ns 1;have i0:ixF (edk n R) (.int 0)=.ok (.int (n:Int)):=by
  show atF [PV.int (n:Int),ewt R] 0=_;exact atF_zero _ _
 have i1:ixF (edk n R) (.int 1)=.ok (ewt R):=by
  show atF [PV.int (n:Int),ewt R] 1=_;exact at_written _ 1 (by simp)
 have q1:=EncOk.int.eqF (n:Int) 1
 by_cases hn:n=1
 ·rw [decide_eq_true (show (n:Int)=1 by omega)] at q1;have rf:=s_refused_c n p1 h2 R hR (.int 0) (.inl hn);generalize edk n R=D at *;unfold d_law_k17;rw [r_run];simp only [entry,List.map_cons,List.map_nil,List.cons_append,List.nil_append,List.length_cons,List.length_nil,Nat.reduceAdd,Nat.reduceSub,List.replicate,r_seq,r_asg,r_asg1,r_name,List.set,r_seq1,r_seq2,r_nxK,r_if,r_eTst,r_e2,r_e2K,r_eB,r_aCons,r_aNil,r_acK,r_acK2,r_eC,r_varS,r_var0,Res.bind_ok,hdk,i0,q1,r_asB,r_ifK1,r_ret,rf,r_rtK,r_out1]
 ·rw [decide_eq_false (show ¬ (n:Int)=1 by omega)] at q1;have hn2:2<=n:=by omega
  have m3:=emodN_eq (cell ns 0) (m:=n) (by omega);have hp:=emodN_lt (cell ns 0) (m:=n) (by omega);have e3:modF (.int (cell ns 0)) (.int (n:Int))=.ok (.int (emodN (cell ns 0) n:Nat)):=by rw [r_mod (by omega),m3]
  generalize emodN (cell ns 0) n=p at *;have hsp:=s_spreadT n p1 h2 R hR.len;have hall:=sprd_all hR.len;have hRn:R.length<=n:=rows_len hR;have hSl:(Pd.sprd n R).length=2 ^ R.length:=Pd.sprd_length hR;have hS256:(Pd.sprd n R).length<=256:=by rw [hSl];exact Nat.pow_le_pow_right (by decide) (show R.length<=8 by omega)
  have wo:∀ w∈Pd.sprd n R,(e2 addF (eSl (eVar 0) (fun _=>.ok none) (pI (eVar 1))) (eSl (eVar 0) (pI (e2 addF (eVar 1) (eC (.int 1)))) (fun _=>.ok none))) [some (Sl.val (ew w)),some (Sl.val (.int (p:Int)))]=.ok (ew (Pd.rs (Pd.oth n p) w)):=fun w hw=>by
   rw [wo_ew w p (by rw [hall w hw];omega),Pd.rs_oth (hall w hw) hp]
  have ne:∀ w,Pd.rs (Pd.oth n p) w≠[]:=fun w z=>by
   have:=Pd.rs_length (Pd.oth n p) w;rw [z,Pd.oth_len hp] at this;simp at this;omega
  have hcap:∀ (a b c d e:Option Sl) r,caps 1 [3] (a::b::c::some (Sl.val (.int (p:Int)))::r)=[none,some (Sl.val (.int (p:Int)))]:=fun _ _ _ _ _ _=>rfl
  have cC:∀ (a b c:Option Sl) r,eComp (iSeq (eVar 4)) 1 [3] (bName 0) (fun _=>.ok true) (e2 addF (eSl (eVar 0) (fun _=>.ok none) (pI (eVar 1))) (eSl (eVar 0) (pI (e2 addF (eVar 1) (eC (.int 1)))) (fun _=>.ok none))) (a::b::c::some (Sl.val (.int (p:Int)))::some (Sl.val (ewl (Pd.sprd n R)))::r)=.ok (ewl ((Pd.sprd n R).map (Pd.rs (Pd.oth n p)))):=fun a b c r=>by
   rw [r_compM (l:=Pd.sprd n R) (q:=ew) (h:=fun w=>ew (Pd.rs (Pd.oth n p) w))]
   ·unfold ewl;rw [List.map_map];rfl
   ·simp only [r_iSeq,r_varS,r_var0,Res.bind_ok,r_seqL]
   ·omega
   ·intro w hw;have e:=wo w hw;rw [hcap a b c none none];generalize (e2 addF (eSl (eVar 0) (fun _=>.ok none) (pI (eVar 1))) (eSl (eVar 0) (pI (e2 addF (eVar 1) (eC (.int 1)))) (fun _=>.ok none)):De)=dd at *;simp only [r_cs,r_name,Res.bind_ok,List.set_cons_zero,r_cs1,r_cs2,e,r_someK]
  have cK:∀ (a b c:Option Sl) r,eComp (iSeq (eVar 4)) 1 [3] (bName 0) (eTst (e2 eqF (e2 ixF (eVar 0) (eVar 1)) (eC (.int 0)))) (e2 addF (eSl (eVar 0) (fun _=>.ok none) (pI (eVar 1))) (eSl (eVar 0) (pI (e2 addF (eVar 1) (eC (.int 1)))) (fun _=>.ok none))) (a::b::c::some (Sl.val (.int (p:Int)))::some (Sl.val (ewl (Pd.sprd n R)))::r)=.ok (ewl (((Pd.sprd n R).filter fun w=>!Pd.bt w p).map (Pd.rs (Pd.oth n p)))):=fun a b c r=>by
   rw [r_compF (l:=Pd.sprd n R) (p:=fun w=>!Pd.bt w p) (q:=ew) (h:=fun w=>ew (Pd.rs (Pd.oth n p) w))]
   ·unfold ewl;rw [List.map_map];rfl
   ·simp only [r_iSeq,r_varS,r_var0,Res.bind_ok,r_seqL]
   ·omega
   ·intro w hw;have e:=wo w hw;have ix:=bt_get w p (by rw [hall w hw];exact hp);have q:eqF (eb (Pd.bt w p)) (.int 0)=.ok (.bl (!Pd.bt w p)):=by cases Pd.bt w p<;>rfl
    rw [hcap a b c none none];generalize (e2 addF (eSl (eVar 0) (fun _=>.ok none) (pI (eVar 1))) (eSl (eVar 0) (pI (e2 addF (eVar 1) (eC (.int 1)))) (fun _=>.ok none)):De)=dd at *;cases hb:Pd.bt w p<;>rw [hb] at ix q<;>simp only [r_cs,r_name,Res.bind_ok,List.set_cons_zero,r_cs1,r_cs2,r_cs3,r_eTst,r_e2,r_e2K,r_eC,r_var0,r_varS,ix,q,r_asB,e,r_someK,Bool.not_true,Bool.not_false,Bool.false_eq_true,if_false,if_true]
  have sC:=srtSet_ew ((Pd.sprd n R).map (Pd.rs (Pd.oth n p))) (by simp;omega) (fun w hw=>by obtain ⟨v,_,rfl⟩:=List.mem_map.mp hw;exact ne v);rw [<- Pd.sprd_ct hR hp] at sC;have sK:=srt_ew (((Pd.sprd n R).filter fun w=>!Pd.bt w p).map (Pd.rs (Pd.oth n p))) (by have:=List.length_filter_le (fun w=>!Pd.bt w p) (Pd.sprd n R);simp;omega) (fun w hw=>by obtain ⟨v,_,rfl⟩:=List.mem_map.mp hw;exact ne v)
  rw [<- Pd.sprd_kt hR hp] at sK;have hallC:Pd.All (n-1) (R.map (Pd.rs (Pd.oth n p))):=by have:=Pd.rs_all (Pd.oth n p) R;rwa [Pd.oth_len hp] at this
  have hallK:Pd.All (n-1) ((Pd.nght R p).map (Pd.rs (Pd.oth n p))):=by have:=Pd.rs_all (Pd.oth n p) (Pd.nght R p);rwa [Pd.oth_len hp] at this
  have rC:d__law_rows [ewl (Pd.sprd (n-1) (R.map (Pd.rs (Pd.oth n p))))]=.ok (edk (n-1) (Pd.ct n R p)):=s_rows_sprd (n-1) (by omega) (by omega) _ hallC;have rK:d__law_rows [ewl (Pd.sprd (n-1) ((Pd.nght R p).map (Pd.rs (Pd.oth n p))))]=.ok (edk (n-1) (Pd.kt n R p)):=s_rows_sprd (n-1) (by omega) (by omega) _ hallK;have hC:=(Pd.ct_ok hR.len hp).1;have hK:=(Pd.kt_ok hR.len hp).1;have hX:=(Pd.chk_ok hR).1;have cut1:=s_cut_yes n hn2 h2 R hR p hp;have kept1:=s_kept_yes n hn2 h2 R hR p hp;have ck0:=s_checksA n n p1 h2 p1 h2 R R hR hR;have ckC:=s_checksA (n-1) (n-1) (by omega) (by omega) (by omega) (by omega) (Pd.ct n R p) (Pd.ct n R p) hC hC;have ckK:=s_checksA (n-1) (n-1) (by omega) (by omega) (by omega) (by omega) (Pd.kt n R p) (Pd.kt n R p) hK hK;rw [Pd.chk_ct hR hp] at ckC;rw [Pd.chk_kt hR hp] at ckK;have cut2:=s_cut_yes n hn2 h2 (Pd.chk n R) hX p hp;have kept2:=s_kept_yes n hn2 h2 (Pd.chk n R) hX p hp;have nee:∀ (k:Nat) (A:List Pd.W),neF (edk k A) (edk k A)=.ok (.bl false):=fun k A=>by
   have:=enc_desk7.neF (k,A) (k,A)
   rwa [decide_eq_true rfl] at this
  have n1:=nee (n-1) (Pd.ct n R p);have n2:=nee (n-1) (Pd.kt n R p);have n3:=nee (n-1) (Pd.kt n (Pd.chk n R) p);have n4:=nee (n-1) (Pd.ct n (Pd.chk n R) p);have pw:powF (.int 10) (.int 20)=.ok (.int 100000000000000000000):=by kernel_rfl
  have md:modF (.int (cell ns 1)) (.int 100000000000000000000)=.ok (.int (cell ns 1 % 100000000000000000000)):=r_mod (by decide);have m7:=emodN_lit (cell ns 1) 7 (by decide) 7 rfl;have l7:=emodN_lt (cell ns 1) (m:=7) (by decide);generalize emodN (cell ns 1) 7=i at *;have e7:modF (.int (cell ns 1)) (.int 7)=.ok (.int (i:Int)):=by rw [r_mod (by decide),m7]
  obtain ⟨v,ov,on⟩:=s_odd17 n (cell ns 1) i l7;have rf:=s_refused_c n p1 h2 R hR v (.inr on);have l7':lstK [.int (n:Int),.int (-1),.bl true,.str "0",.non,.int ((n:Int)+cell ns 1 % 100000000000000000000),.tup [.int 0]]=.ok (.lst [.int (n:Int),.int (-1),.bl true,.str "0",.non,.int ((n:Int)+cell ns 1 % 100000000000000000000),.tup [.int 0]]):=szOk_small (by simp);have ixo:ixF (.lst [.int (n:Int),.int (-1),.bl true,.str "0",.non,.int ((n:Int)+cell ns 1 % 100000000000000000000),.tup [.int 0]]) (.int (i:Int))=.ok v:=ov;generalize PV.lst [.int (n:Int),.int (-1),.bl true,.str "0",.non,.int ((n:Int)+cell ns 1 % 100000000000000000000),.tup [.int 0]]=OL at *;generalize edk (n-1) (Pd.ct n R p)=E1 at *;generalize edk (n-1) (Pd.kt n R p)=E2 at *;generalize edk (n-1) (Pd.kt n (Pd.chk n R) p)=E3 at *;generalize edk (n-1) (Pd.ct n (Pd.chk n R) p)=E4 at *;generalize edk n (Pd.chk n R)=E5 at *;generalize ewl ((Pd.sprd n R).map (Pd.rs (Pd.oth n p)))=L1 at *;generalize ewl (((Pd.sprd n R).filter fun w=>!Pd.bt w p).map (Pd.rs (Pd.oth n p)))=L2 at *
  generalize ewl (Pd.sprd (n-1) (R.map (Pd.rs (Pd.oth n p))))=L3 at *;generalize ewl (Pd.sprd (n-1) ((Pd.nght R p).map (Pd.rs (Pd.oth n p))))=L4 at *;generalize ewl (Pd.sprd n R)=SS at *;generalize edk n R=D at *;unfold d_law_k17;rw [r_run];simp only [entry,List.map_cons,List.map_nil,List.cons_append,List.nil_append,List.length_cons,List.length_nil,Nat.reduceAdd,Nat.reduceSub,List.replicate,r_seq,r_asg,r_asg1,r_name,List.set,r_seq1,r_seq2,r_nxK,r_if,r_or,r_eTst,r_e2,r_e2K,r_eB,r_aCons,r_aNil,r_acK,r_acK2,r_eC,r_varS,r_var0,Res.bind_ok,hdk,i0,i1,q1,r_asB,r_or2,r_ifK2,r_nil,c0,c1,e3,hsp,r_srtSetT,r_srt,cC,cK,sC,sK,cut1,kept1,rC,rK,n1,n2,ck0,ckC,ckK,cut2,kept2,n3,n4,r_lst,r_neg,r_negK,pw,md,r_add,r_tup,r_tupK1,l7',e7,ixo,rf,r_ret,r_rtK,r_out1]
end Dn
set_option maxHeartbeats 4000000
namespace K17
open PySem PySem.Spec PyProof.Rows L2 Pu Dn
section
variable {P:Program} {w:World} {K:PySem.W.Frag} {mg:Str->Option Value} {base:Heap}
abbrev tp (i:Nat):Stmt:=PySem.Challenge.pw_paritydesk_k17_whole_cut_and_kept.main.body.getD i (.Pass ⟨0,0,0,0⟩)
variable {f:Addr} {fd:FuncData}
abbrev s__law_mix:=tp 34
theorem sc__law_mix:FnScope ["_law_cell_here","_law_prime","_law_many"] ["_law_cell_here","_law_prime","_law_many"] (defScope s__law_mix):=sc_mk
theorem ok__law_mix (F:Fun K "_law_mix" "_law_mix" s__law_mix f fd)  : FnD P w K mg base 1 f fd ["_law_cell_here","_law_prime","_law_many"] d__law_mix :=
 fnN F sc__law_mix fun nd hr =>
  (dss_one (ds_ret (de_bin op_modD nx_mod (de_bin op_modD nx_mod (de_bin op_mulD nx_mul (de_var 0 rfl (Or.inl rfl)) de_int) (de_var 1 rfl (Or.inl rfl))) (de_var 2 rfl (Or.inl rfl)))))
abbrev s__law_cell:=tp 33
theorem sc__law_cell:FnScope ["_law_script","_law_k"] ["_law_script","_law_k"] (defScope s__law_cell):=sc_mk
theorem ok__law_cell (F:Fun K "_law_cell" "_law_cell" s__law_cell f fd) (m_len:mg "len" = none):FnD P w K mg base 1 f fd ["_law_script","_law_k"] d__law_cell :=
 fnN F sc__law_cell fun nd hr =>
  (dss_cons (ds_if (dt_cmp op_ltD nx_lt (de_var 1 rfl (Or.inl rfl)) (de_callB call_lenD nx_len rfl m_len Pu.boot_len (da_cons (de_var 0 rfl (Or.inl rfl)) da_nil)) (nomark _)) (dss_one (ds_ret (de_ix ix_D nx_ix (de_var 0 rfl (Or.inl rfl)) (de_var 1 rfl (Or.inl rfl)) (fun _ _=>rfl)))) dss_nil)
  (dss_one (ds_ret de_int)))
abbrev s__law_large:=tp 35
theorem sc__law_large:FnScope ["_law_script"] ["_law_script"] (defScope s__law_large):=sc_mk
theorem ok__law_large (F:Fun K "_law_large" "_law_large" s__law_large f fd) (m_len:mg "len" = none) (h__law_cell:HasF P w K mg base 1 "_law_cell" ["_law_script","_law_k"] d__law_cell) (h__law_mix:HasF P w K mg base 1 "_law_mix" ["_law_cell_here","_law_prime","_law_many"] d__law_mix):FnD P w K mg base 2 f fd ["_law_script"] d__law_large :=
 fnN F sc__law_large fun nd hr =>
  (dss_one (ds_ret (de_cmp (op_eqD hr) nx_eq (de_callH h__law_mix (hr.mono (by decide)) rfl (an_cons (an_cons (an_cons an_nil))) (da_cons (de_bin op_addD nx_add (de_callH h__law_cell (hr.mono (by decide)) rfl (an_cons (an_cons an_nil)) (da_cons (de_var 0 rfl (Or.inl rfl)) (da_cons de_int da_nil))) (de_bin op_mulD nx_mul de_int (de_callB call_lenD nx_len rfl m_len Pu.boot_len (da_cons (de_var 0 rfl (Or.inl rfl)) da_nil)))) (da_cons de_int (da_cons de_int da_nil)))) de_int (nomark _))))
abbrev s__law_size:=tp 38
theorem sc__law_size:FnScope ["_law_script","_law_at","_law_most"] ["_law_script","_law_at"] (defScope s__law_size):=sc_mk
theorem ok__law_size (F:Fun K "_law_size" "_law_size" s__law_size f fd) (m_len:mg "len" = none) (h__law_cell:HasF P w K mg base 1 "_law_cell" ["_law_script","_law_k"] d__law_cell) (h__law_large:HasF P w K mg base 2 "_law_large" ["_law_script"] d__law_large):FnD P w K mg base 3 f fd ["_law_script","_law_at"] d__law_size :=
 fnN F sc__law_size fun nd hr =>
  (dss_cons (ds_set (i:=2) nd rfl (Or.inl rfl) de_int (hf:=(Or.inl rfl)))
  (dss_cons (ds_if (dt_val (de_callH h__law_large (hr.mono (by decide)) rfl (an_cons an_nil) (da_cons (de_var 0 rfl (Or.inl rfl)) da_nil))) (dss_one (ds_set (i:=2) nd rfl (Or.inl rfl) de_int (hf:=(Or.inl rfl)))) dss_nil)
  (dss_cons (ds_if (dt_cmp op_gtD nx_gt (de_callB call_lenD nx_len rfl m_len Pu.boot_len (da_cons (de_var 0 rfl (Or.inl rfl)) da_nil)) de_int (nomark _)) (dss_one (ds_set (i:=2) nd rfl (Or.inl rfl) de_int (hf:=(Or.inl rfl)))) dss_nil)
  (dss_one (ds_ret (de_bin op_addD nx_add de_int (de_bin op_modD nx_mod (de_callH h__law_cell (hr.mono (by decide)) rfl (an_cons (an_cons an_nil)) (da_cons (de_var 0 rfl (Or.inl rfl)) (da_cons (de_var 1 rfl (Or.inl rfl)) da_nil))) (de_var 2 rfl (Or.inl rfl)))))))))
abbrev s__law_rows:=tp 41
theorem sc__law_rows:FnScope ["_law_spread_here","_law_size_here","_law_rows_here","_law_place","_law_some","_law_heads_of","_law_found","_law_k","_law_word_here"] ["_law_spread_here"] (defScope s__law_rows):=sc_mk
theorem ok__law_rows (F:Fun K "_law_rows" "_law_rows" s__law_rows f fd) (m_int:mg "int" = none) (m_len:mg "len" = none) (m_range:mg "range" = none) (m_tuple:mg "tuple" = none):FnD P w K mg base 1 f fd ["_law_spread_here"] d__law_rows :=
 fnN F sc__law_rows fun nd hr =>
  (dss_cons (ds_set (i:=1) nd rfl (Or.inl rfl) (de_callB call_lenD nx_len rfl m_len Pu.boot_len (da_cons (de_ix ix_D nx_ix (de_var 0 rfl (Or.inl rfl)) de_int (fun _ _=>rfl)) da_nil)) (hf:=(Or.inl rfl)))
  (dss_cons (ds_ownL (i:=2) nd rfl (Or.inl rfl) da_nil (Or.inl rfl))
  (dss_cons (ds_for PassesOwn.leaving rfl (di_range1 rfl m_range (de_var 1 rfl (Or.inl rfl))) (dg_name 3 nd rfl (Or.inr rfl) (Or.inl rfl)) (dss_cons (ds_setComp (N:=["_law_word_here","_law_place"]) (k:=1) (idx:=[3]) (i:=4) rfl (by kernel_rfl) rfl nd rfl (Or.inl rfl) (Or.inl rfl) (di_seq (de_var 0 rfl (Or.inl rfl))) (ext_name 0 rfl) (fun _ _ _ _ _=>(dg_name 0 (show (["_law_word_here","_law_place"]:List Str).Nodup from by decide +kernel) rfl (Or.inl rfl) (Or.inr rfl))) (fun _ _ _ _ _=>(dif_one (dt_w (dw_and (dt_cmp (op_inD hr) nx_in de_int (de_var 0 rfl (Or.inl rfl)) (by with_unfolding_all rfl)) (dw_and1 (dt_cmp (op_eqD hr) nx_eq (de_index hr (de_var 0 rfl (Or.inl rfl)) de_int) (de_var 1 rfl (Or.inr (Or.inl rfl))) (nomark _))))))) (fun _ _ _ _ _=>(de_var 0 rfl (Or.inl rfl))))
  (dss_one (ds_if (dt_val (de_var 4 rfl (Or.inl rfl))) (dss_one (ds_app 2 rfl (Or.inl rfl) (de_ix ix_D nx_ix (de_var 4 rfl (Or.inl rfl)) de_int (fun _ _=>rfl)))) dss_nil))) (ng_name 3))
  (dss_frz 2 (dss_cons (ds_setComp (N:=["_law_row"]) (k:=1) (idx:=[]) (i:=5) rfl (by kernel_rfl) rfl nd rfl (Or.inl rfl) (Or.inl rfl) (di_seq (de_var 2 rfl (Or.inl rfl))) (ext_name 0 rfl) (fun _ _ _ _ _=>(dg_name 0 (show (["_law_row"]:List Str).Nodup from by decide +kernel) rfl (Or.inl rfl) (Or.inr rfl))) (fun _ _ _ _ _=>dif_nil) (fun _ _ _ _ _=>(de_index hr (de_var 0 rfl (Or.inl rfl)) de_int)))
  (dss_cons (ds_ownL (i:=6) nd rfl (Or.inl rfl) da_nil (Or.inl rfl))
  (dss_cons (ds_for PassesOwn.leaving rfl (di_range1 rfl m_range (de_callB call_lenD nx_len rfl m_len Pu.boot_len (da_cons (de_var 2 rfl (Or.inl rfl)) da_nil))) (dg_name 7 nd rfl (Or.inr rfl) (Or.inl rfl)) (dss_one (ds_for PassesOwn.leaving rfl (di_seq (de_var 0 rfl (Or.inl rfl))) (dg_name 8 nd rfl (Or.inr rfl) (Or.inl rfl)) (dss_one (ds_if (dt_cmp (op_eqD hr) nx_eq (de_compW (N:=["_law_head","_law_word_here"]) (k:=1) (idx:=[8]) rfl (by kernel_rfl) rfl (di_seq (de_var 5 rfl (Or.inl rfl))) (ext_name 0 rfl) (fun _ _ _ _ _=>(dg_name 0 (show (["_law_head","_law_word_here"]:List Str).Nodup from by decide +kernel) rfl (Or.inl rfl) (Or.inr rfl))) (fun _ _ _ _ _=>dif_nil) (fun _ _ _ _ _=>(de_ix ix_D nx_ix (de_var 1 rfl (Or.inr (Or.inl rfl))) (de_var 0 rfl (Or.inl rfl)) (fun _ _=>rfl)))) (de_compW (N:=["_law_j","_law_k"]) (k:=1) (idx:=[7]) rfl (by kernel_rfl) rfl (di_range1 rfl m_range (de_callB call_lenD nx_len rfl m_len Pu.boot_len (da_cons (de_var 2 rfl (Or.inl rfl)) da_nil))) (ext_name 0 rfl) (fun _ _ _ _ _=>(dg_name 0 (show (["_law_j","_law_k"]:List Str).Nodup from by decide +kernel) rfl (Or.inl rfl) (Or.inr rfl))) (fun _ _ _ _ _=>dif_nil) (fun _ _ _ _ _=>(de_callTy call_intD nx_int rfl m_int Pu.boot_int (da_cons (de_cmp (op_eqD hr) nx_eq (de_var 0 rfl (Or.inl rfl)) (de_var 1 rfl (Or.inr (Or.inl rfl))) (nomark _)) da_nil)))) (nomark _)) (dss_one (ds_app 6 rfl (Or.inl rfl) (de_var 8 rfl (Or.inr (Or.inl rfl))))) dss_nil)) (ng_name 8))) (ng_name 7))
  (dss_frz 6 (dss_one (ds_ret (de_tup (da_cons (de_var 1 rfl (Or.inl rfl)) (da_cons (de_callTy call_tupD nx_tup rfl m_tuple Pu.boot_tuple (da_cons (de_var 6 rfl (Or.inl rfl)) da_nil)) da_nil)))))))))))))
abbrev s__law_sum:=tp 36
theorem sc__law_sum:FnScope ["_law_one","_law_two"] ["_law_one","_law_two"] (defScope s__law_sum):=sc_mk
theorem ok__law_sum (F:Fun K "_law_sum" "_law_sum" s__law_sum f fd) (m_tuple:mg "tuple" = none) (m_zip:mg "zip" = none):FnD P w K mg base 1 f fd ["_law_one","_law_two"] d__law_sum :=
 fnN F sc__law_sum fun nd hr =>
  (dss_one (ds_ret (de_callTy call_tupD nx_tup rfl m_tuple Pu.boot_tuple (da_cons (de_compW (N:=["_law_a","_law_b"]) (k:=2) (idx:=[]) rfl (by kernel_rfl) rfl (di_zip rfl m_zip (de_var 0 rfl (Or.inl rfl)) (de_var 1 rfl (Or.inl rfl))) (ext_two 0 1 rfl) (fun _ _ _ _ _=>(dg_two (i:=0) (j:=1) rfl (show (["_law_a","_law_b"]:List Str).Nodup from by decide +kernel) rfl rfl (Or.inl rfl) (Or.inl rfl) (Or.inr rfl) (Or.inr rfl))) (fun _ _ _ _ _=>dif_nil) (fun _ _ _ _ _=>(de_bin op_modD nx_mod (de_bin op_addD nx_add (de_var 0 rfl (Or.inl rfl)) (de_var 1 rfl (Or.inl rfl))) de_int))) da_nil))))
abbrev s__law_spread:=tp 40
theorem sc__law_spread:FnScope ["_law_size_here","_law_words_here","_law_found","_law_word_here"] ["_law_size_here","_law_words_here"] (defScope s__law_spread):=sc_mk
theorem ok__law_spread (F:Fun K "_law_spread" "_law_spread" s__law_spread f fd) (m_sorted:mg "sorted" = none) (h__law_sum:HasF P w K mg base 1 "_law_sum" ["_law_one","_law_two"] d__law_sum):FnD P w K mg base 2 f fd ["_law_size_here","_law_words_here"] d__law_spread :=
 fnN F sc__law_spread fun nd hr =>
  (dss_cons (ds_set (i:=2) nd rfl (Or.inl rfl) (de_lst (da_cons (de_bin op_mulD nx_mul (de_tup (da_cons de_int da_nil)) (de_var 0 rfl (Or.inl rfl))) da_nil)) (hf:=(Or.inl rfl)))
  (dss_cons (ds_for PassesOwn.leaving rfl (di_seq (de_var 1 rfl (Or.inl rfl))) (dg_name 3 nd rfl (Or.inr rfl) (Or.inl rfl)) (dss_one (ds_if (dt_cmp (op_ninD hr) nx_nin (de_var 3 rfl (Or.inr (Or.inl rfl))) (de_var 2 rfl (Or.inl rfl)) (by with_unfolding_all rfl)) (dss_one (ds_set (i:=2) nd rfl (Or.inl rfl) (de_bin op_addD nx_add (de_var 2 rfl (Or.inl rfl)) (de_compW (N:=["_law_one","_law_word_here"]) (k:=1) (idx:=[3]) rfl (by kernel_rfl) rfl (di_seq (de_var 2 rfl (Or.inl rfl))) (ext_name 0 rfl) (fun _ _ _ _ _=>(dg_name 0 (show (["_law_one","_law_word_here"]:List Str).Nodup from by decide +kernel) rfl (Or.inl rfl) (Or.inr rfl))) (fun _ _ _ _ _=>dif_nil) (fun _ _ _ _ _=>(de_callH h__law_sum (hr.mono (by decide)) rfl (an_cons (an_cons an_nil)) (da_cons (de_var 0 rfl (Or.inl rfl)) (da_cons (de_var 1 rfl (Or.inr (Or.inl rfl))) da_nil)))))) (hf:=(Or.inl rfl)))) dss_nil)) (ng_name 3))
  (dss_one (ds_ret (de_srt hr rfl m_sorted (de_var 2 rfl (Or.inl rfl)))))))
abbrev s__law_word:=tp 37
theorem sc__law_word:FnScope ["_law_cell_here","_law_size_here"] ["_law_cell_here","_law_size_here"] (defScope s__law_word):=sc_mk
theorem ok__law_word (F:Fun K "_law_word" "_law_word" s__law_word f fd) (m_range:mg "range" = none) (m_tuple:mg "tuple" = none) (h__law_mix:HasF P w K mg base 1 "_law_mix" ["_law_cell_here","_law_prime","_law_many"] d__law_mix):FnD P w K mg base 2 f fd ["_law_cell_here","_law_size_here"] d__law_word :=
 fnN F sc__law_word fun nd hr =>
  (dss_one (ds_ret (de_callTy call_tupD nx_tup rfl m_tuple Pu.boot_tuple (da_cons (de_compW (N:=["_law_k","_law_cell_here"]) (k:=1) (idx:=[0]) rfl (by kernel_rfl) rfl (di_range1 rfl m_range (de_var 1 rfl (Or.inl rfl))) (ext_name 0 rfl) (fun _ _ _ _ _=>(dg_name 0 (show (["_law_k","_law_cell_here"]:List Str).Nodup from by decide +kernel) rfl (Or.inl rfl) (Or.inr rfl))) (fun _ _ _ _ _=>dif_nil) (fun _ _ _ _ _=>(de_callH h__law_mix (hr.mono (by decide)) rfl (an_cons (an_cons (an_cons an_nil))) (da_cons (de_bin op_addD nx_add (de_var 1 rfl (Or.inr (Or.inl rfl))) (de_bin op_mulD nx_mul (de_bin op_mulD nx_mul de_int (de_var 0 rfl (Or.inl rfl))) (de_var 0 rfl (Or.inl rfl)))) (da_cons de_int (da_cons de_int da_nil)))))) da_nil))))
abbrev s__law_words:=tp 39
theorem sc__law_words:FnScope ["_law_script","_law_at","_law_size_here","_law_many"] ["_law_script","_law_at","_law_size_here"] (defScope s__law_words):=sc_mk
theorem ok__law_words (F:Fun K "_law_words" "_law_words" s__law_words f fd) (m_range:mg "range" = none) (h__law_cell:HasF P w K mg base 1 "_law_cell" ["_law_script","_law_k"] d__law_cell) (h__law_word:HasF P w K mg base 2 "_law_word" ["_law_cell_here","_law_size_here"] d__law_word):FnD P w K mg base 3 f fd ["_law_script","_law_at","_law_size_here"] d__law_words :=
 fnN F sc__law_words fun nd hr =>
  (dss_cons (ds_set (i:=3) nd rfl (Or.inl rfl) (de_bin op_modD nx_mod (de_bin op_fdvD nx_fdv (de_callH h__law_cell (hr.mono (by decide)) rfl (an_cons (an_cons an_nil)) (da_cons (de_var 0 rfl (Or.inr (Or.inl rfl))) (da_cons (de_var 1 rfl (Or.inr (Or.inl rfl))) da_nil))) de_int) (de_bin op_addD nx_add (de_var 2 rfl (Or.inr (Or.inl rfl))) de_int)) (hf:=(Or.inl rfl)))
  (dss_one (ds_ret (de_compW (N:=["_law_k","_law_script","_law_at","_law_size_here"]) (k:=1) (idx:=[0,1,2]) rfl (by kernel_rfl) rfl (di_range1 rfl m_range (de_var 3 rfl (Or.inl rfl))) (ext_name 0 rfl) (fun _ _ _ _ _=>(dg_name 0 (show (["_law_k","_law_script","_law_at","_law_size_here"]:List Str).Nodup from by decide +kernel) rfl (Or.inl rfl) (Or.inr rfl))) (fun _ _ _ _ _=>dif_nil) (fun _ _ _ _ _=>(de_callH h__law_word (hr.mono (by decide)) rfl (an_cons (an_cons an_nil)) (da_cons (de_bin op_addD nx_add (de_callH h__law_cell (hr.mono (by decide)) rfl (an_cons (an_cons an_nil)) (da_cons (de_var 1 rfl (Or.inr (Or.inl rfl))) (da_cons (de_bin op_addD nx_add (de_bin op_addD nx_add (de_var 2 rfl (Or.inr (Or.inl rfl))) de_int) (de_var 0 rfl (Or.inl rfl))) da_nil))) (de_bin op_mulD nx_mul (de_bin op_mulD nx_mul de_int (de_var 0 rfl (Or.inl rfl))) (de_var 0 rfl (Or.inl rfl)))) (da_cons (de_var 3 rfl (Or.inr (Or.inl rfl))) da_nil))))))))
abbrev s__law_desk:=tp 42
theorem sc__law_desk:FnScope ["_law_script","_law_at","_law_size_here"] ["_law_script","_law_at"] (defScope s__law_desk):=sc_mk
theorem ok__law_desk (F:Fun K "_law_desk" "_law_desk" s__law_desk f fd) (h__law_rows:HasF P w K mg base 1 "_law_rows" ["_law_spread_here"] d__law_rows) (h__law_size:HasF P w K mg base 3 "_law_size" ["_law_script","_law_at"] d__law_size) (h__law_spread:HasF P w K mg base 2 "_law_spread" ["_law_size_here","_law_words_here"] d__law_spread) (h__law_words:HasF P w K mg base 3 "_law_words" ["_law_script","_law_at","_law_size_here"] d__law_words):FnD P w K mg base 4 f fd ["_law_script","_law_at"] d__law_desk :=
 fnN F sc__law_desk fun nd hr =>
  (dss_cons (ds_set (i:=2) nd rfl (Or.inl rfl) (de_callH h__law_size (hr.mono (by decide)) rfl (an_cons (an_cons an_nil)) (da_cons (de_var 0 rfl (Or.inl rfl)) (da_cons (de_var 1 rfl (Or.inl rfl)) da_nil))) (hf:=(Or.inl rfl)))
  (dss_one (ds_ret (de_callH h__law_rows (hr.mono (by decide)) rfl (an_cons an_nil) (da_cons (de_callH h__law_spread (hr.mono (by decide)) rfl (an_cons (an_cons an_nil)) (da_cons (de_var 2 rfl (Or.inl rfl)) (da_cons (de_callH h__law_words (hr.mono (by decide)) rfl (an_cons (an_cons (an_cons an_nil))) (da_cons (de_var 0 rfl (Or.inl rfl)) (da_cons (de_var 1 rfl (Or.inl rfl)) (da_cons (de_var 2 rfl (Or.inl rfl)) da_nil)))) da_nil))) da_nil)))))
abbrev s_head_of:=tp 14
theorem sc_head_of:FnScope ["row"] ["row"] (defScope s_head_of):=sc_mk
theorem ok_head_of (F:Fun K "head_of" "head_of" s_head_of f fd)  : FnD P w K mg base 1 f fd ["row"] d_head_of :=
 fnN F sc_head_of fun nd hr =>
  (dss_one (ds_ret (de_index hr (de_var 0 rfl (Or.inl rfl)) de_int)))
abbrev s_stand_as_rows:=tp 18
theorem sc_stand_as_rows:FnScope ["words","last","word","head"] ["words"] (defScope s_stand_as_rows):=sc_mk
theorem ok_stand_as_rows (F:Fun K "stand_as_rows" "stand_as_rows" s_stand_as_rows f fd) (m_sum:mg "sum" = none) (h_head_of:HasF P w K mg base 1 "head_of" ["row"] d_head_of):FnD P w K mg base 2 f fd ["words"] d_stand_as_rows :=
 fnN F sc_stand_as_rows fun nd hr =>
  (dss_cons (ds_set (i:=1) nd rfl (Or.inl rfl) (de_neg de_int) (hf:=(Or.inl rfl)))
  (dss_cons (ds_for PassesOwn.leaving rfl (di_seq (de_var 0 rfl (Or.inl rfl))) (dg_name 2 nd rfl (Or.inl rfl) (Or.inl rfl)) (dss_cons (ds_if (dt_cmp (op_ninD hr) nx_nin de_int (de_var 2 rfl (Or.inl rfl)) (by with_unfolding_all rfl)) (dss_one (ds_ret de_bl)) dss_nil)
  (dss_cons (ds_set (i:=3) nd rfl (Or.inr rfl) (de_callH h_head_of (hr.mono (by decide)) rfl (an_cons an_nil) (da_cons (de_var 2 rfl (Or.inl rfl)) da_nil)) (hf:=(Or.inl rfl)))
  (dss_cons (ds_if (dt_w (dw_or (dt_cmp op_leD nx_le (de_var 3 rfl (Or.inr (Or.inl rfl))) (de_var 1 rfl (Or.inl rfl)) (nomark _)) (dw_or1 (dt_cmp (op_neD hr) nx_ne (de_callB (call_sumD rfl) nx_sum rfl m_sum Pu.boot_sum (da_cons (de_compW (N:=["other","head"]) (k:=1) (idx:=[3]) rfl (by kernel_rfl) rfl (di_seq (de_var 0 rfl (Or.inl rfl))) (ext_name 0 rfl) (fun _ _ _ _ _=>(dg_name 0 (show (["other","head"]:List Str).Nodup from by decide +kernel) rfl (Or.inl rfl) (Or.inr rfl))) (fun _ _ _ _ _=>dif_nil) (fun _ _ _ _ _=>(de_ix ix_D nx_ix (de_var 0 rfl (Or.inl rfl)) (de_var 1 rfl (Or.inr (Or.inl rfl))) (fun _ _=>rfl)))) da_nil)) de_int (nomark _))))) (dss_one (ds_ret de_bl)) dss_nil)
  (dss_one (ds_set (i:=1) nd rfl (Or.inl rfl) (de_var 3 rfl (Or.inr (Or.inl rfl))) (hf:=(Or.inl rfl))))))) (ng_name 2))
  (dss_one (ds_ret de_bl))))
abbrev s_is_number:=tp 7
theorem sc_is_number:FnScope ["thing","least","most"] ["thing","least","most"] (defScope s_is_number):=sc_mk
theorem ok_is_number (F:Fun K "is_number" "is_number" s_is_number f fd) (m_bool:mg "bool" = none) (m_int:mg "int" = none) (m_isinstance:mg "isinstance" = none):FnD P w K mg base 1 f fd ["thing","least","most"] d_is_number :=
 fnN F sc_is_number fun nd hr =>
  (dss_cons (ds_if (dt_w (dw_or (dt_not (dt_val (de_is (T:=tInt) rfl m_isinstance rfl m_int (de_var 0 rfl (Or.inl rfl))))) (dw_or1 (dt_val (de_is (T:=tBool) rfl m_isinstance rfl m_bool (de_var 0 rfl (Or.inl rfl))))))) (dss_one (ds_ret de_bl)) dss_nil)
  (dss_one (ds_ret (de_chain op_leD op_leD nx_le nx_le (de_var 1 rfl (Or.inl rfl)) (de_var 0 rfl (Or.inl rfl)) (de_var 2 rfl (Or.inl rfl))))))
abbrev s_is_size:=tp 8
theorem sc_is_size:FnScope ["thing"] ["thing"] (defScope s_is_size):=sc_mk
theorem ok_is_size (F:Fun K "is_size" "is_size" s_is_size f fd) {t_LONGEST:Tok} (m_LONGEST:mg "LONGEST" = some (.int 10 t_LONGEST)) (h_is_number:HasF P w K mg base 1 "is_number" ["thing","least","most"] d_is_number):FnD P w K mg base 2 f fd ["thing"] d_is_size :=
 fnN F sc_is_size fun nd hr =>
  (dss_one (ds_ret (de_callH h_is_number (hr.mono (by decide)) rfl (an_cons (an_cons (an_cons an_nil))) (da_cons (de_var 0 rfl (Or.inl rfl)) (da_cons de_int (da_cons (de_globI rfl m_LONGEST) da_nil))))))
abbrev s_is_word:=tp 9
theorem sc_is_word:FnScope ["thing","size"] ["thing","size"] (defScope s_is_word):=sc_mk
theorem ok_is_word (F:Fun K "is_word" "is_word" s_is_word f fd) (m_all:mg "all" = none) (m_isinstance:mg "isinstance" = none) (m_len:mg "len" = none) (m_tuple:mg "tuple" = none) (h_is_number:HasF P w K mg base 1 "is_number" ["thing","least","most"] d_is_number) (h_is_size:HasF P w K mg base 2 "is_size" ["thing"] d_is_size):FnD P w K mg base 3 f fd ["thing","size"] d_is_word :=
 fnN F sc_is_word fun nd hr =>
  (dss_cons (ds_if (dt_w (dw_or (dt_not (dt_val (de_callH h_is_size (hr.mono (by decide)) rfl (an_cons an_nil) (da_cons (de_var 1 rfl (Or.inl rfl)) da_nil)))) (dw_or (dt_not (dt_val (de_is (T:=tTupT) rfl m_isinstance rfl m_tuple (de_var 0 rfl (Or.inl rfl))))) (dw_or1 (dt_cmp (op_neD hr) nx_ne (de_callB call_lenD nx_len rfl m_len Pu.boot_len (da_cons (de_var 0 rfl (Or.inl rfl)) da_nil)) (de_var 1 rfl (Or.inl rfl)) (nomark _)))))) (dss_one (ds_ret de_bl)) dss_nil)
  (dss_one (ds_ret (de_callB (call_allD rfl) nx_all rfl m_all Pu.boot_all (da_cons (de_compW (N:=["bit"]) (k:=1) (idx:=[]) rfl (by kernel_rfl) rfl (di_seq (de_var 0 rfl (Or.inl rfl))) (ext_name 0 rfl) (fun _ _ _ _ _=>(dg_name 0 (show (["bit"]:List Str).Nodup from by decide +kernel) rfl (Or.inl rfl) (Or.inr rfl))) (fun _ _ _ _ _=>dif_nil) (fun _ _ _ _ _=>(de_callH h_is_number (hr.mono (by decide)) rfl (an_cons (an_cons (an_cons an_nil))) (da_cons (de_var 0 rfl (Or.inl rfl)) (da_cons de_int (da_cons de_int da_nil)))))) da_nil)))))
abbrev s_is_desk:=tp 19
theorem sc_is_desk:FnScope ["thing","size","rows"] ["thing"] (defScope s_is_desk):=sc_mk
theorem ok_is_desk (F:Fun K "is_desk" "is_desk" s_is_desk f fd) (m_all:mg "all" = none) (m_isinstance:mg "isinstance" = none) (m_len:mg "len" = none) (m_tuple:mg "tuple" = none) (h_is_size:HasF P w K mg base 2 "is_size" ["thing"] d_is_size) (h_is_word:HasF P w K mg base 3 "is_word" ["thing","size"] d_is_word) (h_stand_as_rows:HasF P w K mg base 2 "stand_as_rows" ["words"] d_stand_as_rows):FnD P w K mg base 4 f fd ["thing"] d_is_desk :=
 fnN F sc_is_desk fun nd hr =>
  (dss_cons (ds_if (dt_w (dw_or (dt_not (dt_val (de_is (T:=tTupT) rfl m_isinstance rfl m_tuple (de_var 0 rfl (Or.inl rfl))))) (dw_or1 (dt_cmp (op_neD hr) nx_ne (de_callB call_lenD nx_len rfl m_len Pu.boot_len (da_cons (de_var 0 rfl (Or.inl rfl)) da_nil)) de_int (nomark _))))) (dss_one (ds_ret de_bl)) dss_nil)
  (dss_cons (ds_set (i:=1) nd rfl (Or.inr rfl) (de_ix ix_D nx_ix (de_var 0 rfl (Or.inl rfl)) de_int (fun _ _=>rfl)) (hf:=(Or.inl rfl)))
  (dss_cons (ds_set (i:=2) nd rfl (Or.inl rfl) (de_ix ix_D nx_ix (de_var 0 rfl (Or.inl rfl)) de_int (fun _ _=>rfl)) (hf:=(Or.inl rfl)))
  (dss_cons (ds_if (dt_w (dw_or (dt_not (dt_val (de_callH h_is_size (hr.mono (by decide)) rfl (an_cons an_nil) (da_cons (de_var 1 rfl (Or.inr (Or.inl rfl))) da_nil)))) (dw_or1 (dt_not (dt_val (de_is (T:=tTupT) rfl m_isinstance rfl m_tuple (de_var 2 rfl (Or.inl rfl)))))))) (dss_one (ds_ret de_bl)) dss_nil)
  (dss_one (ds_ret (de_and (de_callB (call_allD rfl) nx_all rfl m_all Pu.boot_all (da_cons (de_compW (N:=["row","size"]) (k:=1) (idx:=[1]) rfl (by kernel_rfl) rfl (di_seq (de_var 2 rfl (Or.inl rfl))) (ext_name 0 rfl) (fun _ _ _ _ _=>(dg_name 0 (show (["row","size"]:List Str).Nodup from by decide +kernel) rfl (Or.inl rfl) (Or.inr rfl))) (fun _ _ _ _ _=>dif_nil) (fun _ _ _ _ _=>(de_callH h_is_word (hr.mono (by decide)) rfl (an_cons (an_cons an_nil)) (da_cons (de_var 0 rfl (Or.inl rfl)) (da_cons (de_var 1 rfl (Or.inr (Or.inl rfl))) da_nil))))) da_nil)) (de_one (de_callH h_stand_as_rows (hr.mono (by decide)) rfl (an_cons an_nil) (da_cons (de_var 2 rfl (Or.inl rfl)) da_nil))))))))))
abbrev s_checked:=tp 20
theorem sc_checked:FnScope ["desk"] ["desk"] (defScope s_checked):=sc_mk
theorem ok_checked (F:Fun K "checked" "checked" s_checked f fd) (h_is_desk:HasF P w K mg base 4 "is_desk" ["thing"] d_is_desk) (X_NoDesk:hasX K "NoDesk" = true):FnD P w K mg base 5 f fd ["desk"] d_checked_a :=
 fnN F sc_checked fun nd hr =>
  (dss_cons (ds_if (dt_not (dt_val (de_callH h_is_desk (hr.mono (by decide)) rfl (an_cons an_nil) (da_cons (de_var 0 rfl (Or.inl rfl)) da_nil)))) (dss_one (ds_raise X_NoDesk rfl rfl (by decide) (an_cons an_nil) (da_cons de_str da_nil))) dss_nil)
  (dss_one (ds_ret (de_var 0 rfl (Or.inl rfl)))))
abbrev s_rows_of:=tp 21
theorem sc_rows_of:FnScope ["desk"] ["desk"] (defScope s_rows_of):=sc_mk
theorem ok_rows_of (F:Fun K "rows_of" "rows_of" s_rows_of f fd) (h_checked:HasF P w K mg base 5 "checked" ["desk"] d_checked_a):FnD P w K mg base 6 f fd ["desk"] d_rows_of_a :=
 fnN F sc_rows_of fun nd hr =>
  (dss_one (ds_ret (de_ix ix_D nx_ix (de_callH h_checked (hr.mono (by decide)) rfl (an_cons an_nil) (da_cons (de_var 0 rfl (Or.inl rfl)) da_nil)) de_int (fun _ _=>rfl))))
abbrev s_rows_to_cut:=tp 24
theorem sc_rows_to_cut:FnScope ["desk","place","rows"] ["desk","place"] (defScope s_rows_to_cut):=sc_mk
theorem ok_rows_to_cut (F:Fun K "rows_to_cut" "rows_to_cut" s_rows_to_cut f fd) (h_is_number:HasF P w K mg base 1 "is_number" ["thing","least","most"] d_is_number) (h_rows_of:HasF P w K mg base 6 "rows_of" ["desk"] d_rows_of_a) (X_NoPlace:hasX K "NoPlace" = true):FnD P w K mg base 7 f fd ["desk","place"] d_rows_to_cut :=
 fnN F sc_rows_to_cut fun nd hr =>
  (dss_cons (ds_set (i:=2) nd rfl (Or.inl rfl) (de_callH h_rows_of (hr.mono (by decide)) rfl (an_cons an_nil) (da_cons (de_var 0 rfl (Or.inl rfl)) da_nil)) (hf:=(Or.inl rfl)))
  (dss_cons (ds_if (dt_w (dw_or (dt_cmp (op_eqD hr) nx_eq (de_ix ix_D nx_ix (de_var 0 rfl (Or.inl rfl)) de_int (fun _ _=>rfl)) de_int (nomark _)) (dw_or1 (dt_not (dt_val (de_callH h_is_number (hr.mono (by decide)) rfl (an_cons (an_cons (an_cons an_nil))) (da_cons (de_var 1 rfl (Or.inl rfl)) (da_cons de_int (da_cons (de_bin op_subD nx_sub (de_ix ix_D nx_ix (de_var 0 rfl (Or.inl rfl)) de_int (fun _ _=>rfl)) de_int) da_nil))))))))) (dss_one (ds_raise X_NoPlace rfl rfl (by decide) (an_cons an_nil) (da_cons de_str da_nil))) dss_nil)
  (dss_one (ds_ret (de_var 2 rfl (Or.inl rfl))))))
abbrev s_plus:=tp 10
theorem sc_plus:FnScope ["one","other"] ["one","other"] (defScope s_plus):=sc_mk
theorem ok_plus (F:Fun K "plus" "plus" s_plus f fd) (m_tuple:mg "tuple" = none) (m_zip:mg "zip" = none):FnD P w K mg base 1 f fd ["one","other"] d_plus :=
 fnN F sc_plus fun nd hr =>
  (dss_one (ds_ret (de_callTy call_tupD nx_tup rfl m_tuple Pu.boot_tuple (da_cons (de_compW (N:=["bit","opposite"]) (k:=2) (idx:=[]) rfl (by kernel_rfl) rfl (di_zip rfl m_zip (de_var 0 rfl (Or.inl rfl)) (de_var 1 rfl (Or.inl rfl))) (ext_two 0 1 rfl) (fun _ _ _ _ _=>(dg_two (i:=0) (j:=1) rfl (show (["bit","opposite"]:List Str).Nodup from by decide +kernel) rfl rfl (Or.inl rfl) (Or.inl rfl) (Or.inr rfl) (Or.inr rfl))) (fun _ _ _ _ _=>dif_nil) (fun _ _ _ _ _=>(de_bin op_modD nx_mod (de_bin op_addD nx_add (de_var 0 rfl (Or.inl rfl)) (de_var 1 rfl (Or.inl rfl))) de_int))) da_nil))))
abbrev s_rest_of:=tp 15
theorem sc_rest_of:FnScope ["rows","word","row"] ["rows","word"] (defScope s_rest_of):=sc_mk
theorem ok_rest_of (F:Fun K "rest_of" "rest_of" s_rest_of f fd) (h_head_of:HasF P w K mg base 1 "head_of" ["row"] d_head_of) (h_plus:HasF P w K mg base 1 "plus" ["one","other"] d_plus):FnD P w K mg base 2 f fd ["rows","word"] d_rest_of :=
 fnN F sc_rest_of fun nd hr =>
  (dss_cons (ds_for PassesOwn.leaving rfl (di_seq (de_var 0 rfl (Or.inl rfl))) (dg_name 2 nd rfl (Or.inl rfl) (Or.inl rfl)) (dss_one (ds_if (dt_cmp (op_eqD hr) nx_eq (de_ix ix_D nx_ix (de_var 1 rfl (Or.inl rfl)) (de_callH h_head_of (hr.mono (by decide)) rfl (an_cons an_nil) (da_cons (de_var 2 rfl (Or.inl rfl)) da_nil)) (fun _ _=>rfl)) de_int (nomark _)) (dss_one (ds_set (i:=1) nd rfl (Or.inl rfl) (de_callH h_plus (hr.mono (by decide)) rfl (an_cons (an_cons an_nil)) (da_cons (de_var 1 rfl (Or.inl rfl)) (da_cons (de_var 2 rfl (Or.inl rfl)) da_nil))) (hf:=(Or.inl rfl)))) dss_nil)) (ng_name 2))
  (dss_one (ds_ret (de_var 1 rfl (Or.inl rfl)))))
abbrev s_with_word:=tp 16
theorem sc_with_word:FnScope ["rows","word","rest","head","cleared"] ["rows","word"] (defScope s_with_word):=sc_mk
theorem ok_with_word (F:Fun K "with_word" "with_word" s_with_word f fd) (m_sorted:mg "sorted" = none) (h_head_of:HasF P w K mg base 1 "head_of" ["row"] d_head_of) (h_plus:HasF P w K mg base 1 "plus" ["one","other"] d_plus) (h_rest_of:HasF P w K mg base 2 "rest_of" ["rows","word"] d_rest_of):FnD P w K mg base 3 f fd ["rows","word"] d_with_word :=
 fnN F sc_with_word fun nd hr =>
  (dss_cons (ds_set (i:=2) nd rfl (Or.inr rfl) (de_callH h_rest_of (hr.mono (by decide)) rfl (an_cons (an_cons an_nil)) (da_cons (de_var 0 rfl (Or.inl rfl)) (da_cons (de_var 1 rfl (Or.inl rfl)) da_nil))) (hf:=(Or.inl rfl)))
  (dss_cons (ds_if (dt_cmp (op_ninD hr) nx_nin de_int (de_var 2 rfl (Or.inr (Or.inl rfl))) (by with_unfolding_all rfl)) (dss_one (ds_ret (de_var 0 rfl (Or.inl rfl)))) dss_nil)
  (dss_cons (ds_set (i:=3) nd rfl (Or.inr rfl) (de_callH h_head_of (hr.mono (by decide)) rfl (an_cons an_nil) (da_cons (de_var 2 rfl (Or.inr (Or.inl rfl))) da_nil)) (hf:=(Or.inl rfl)))
  (dss_cons (ds_setComp (N:=["row","head","rest"]) (k:=1) (idx:=[3,2]) (i:=4) rfl (by kernel_rfl) rfl nd rfl (Or.inl rfl) (Or.inl rfl) (di_seq (de_var 0 rfl (Or.inl rfl))) (ext_name 0 rfl) (fun _ _ _ _ _=>(dg_name 0 (show (["row","head","rest"]:List Str).Nodup from by decide +kernel) rfl (Or.inl rfl) (Or.inr rfl))) (fun _ _ _ _ _=>dif_nil) (fun _ _ _ _ _=>(de_if (dt_cmp (op_eqD hr) nx_eq (de_ix ix_D nx_ix (de_var 0 rfl (Or.inl rfl)) (de_var 1 rfl (Or.inr (Or.inl rfl))) (fun _ _=>rfl)) de_int (nomark _)) (de_callH h_plus (hr.mono (by decide)) rfl (an_cons (an_cons an_nil)) (da_cons (de_var 0 rfl (Or.inl rfl)) (da_cons (de_var 2 rfl (Or.inr (Or.inl rfl))) da_nil))) (de_var 0 rfl (Or.inl rfl)))))
  (dss_one (ds_ret (de_srtD hr rfl m_sorted (de_bin op_addD nx_add (de_var 4 rfl (Or.inl rfl)) (de_lst (da_cons (de_var 2 rfl (Or.inr (Or.inl rfl))) da_nil))))))))))
abbrev s_made:=tp 17
theorem sc_made:FnScope ["size","words","place","word","rows"] ["size","words"] (defScope s_made):=sc_mk
theorem ok_made (F:Fun K "made" "made" s_made f fd) (m_enumerate:mg "enumerate" = none) (m_isinstance:mg "isinstance" = none) (m_len:mg "len" = none) (m_list:mg "list" = none) (m_tuple:mg "tuple" = none) {t_MOST_WORDS:Tok} (m_MOST_WORDS:mg "MOST_WORDS" = some (.int 20 t_MOST_WORDS)) (h_is_size:HasF P w K mg base 2 "is_size" ["thing"] d_is_size) (h_is_word:HasF P w K mg base 3 "is_word" ["thing","size"] d_is_word) (h_with_word:HasF P w K mg base 3 "with_word" ["rows","word"] d_with_word):FnD P w K mg base 4 f fd ["size","words"] d_made :=
 fnN F sc_made fun nd hr =>
  (dss_cons (ds_if (dt_w (dw_or (dt_not (dt_val (de_callH h_is_size (hr.mono (by decide)) rfl (an_cons an_nil) (da_cons (de_var 0 rfl (Or.inl rfl)) da_nil)))) (dw_or (dt_not (dt_val (de_is (T:=tLstT) rfl m_isinstance rfl m_list (de_var 1 rfl (Or.inl rfl))))) (dw_or1 (dt_cmp op_gtD nx_gt (de_callB call_lenD nx_len rfl m_len Pu.boot_len (da_cons (de_var 1 rfl (Or.inl rfl)) da_nil)) (de_globI rfl m_MOST_WORDS) (nomark _)))))) (dss_one ds_bad) dss_nil)
  (dss_cons (ds_for PassesOwn.leaving rfl (di_enum rfl m_enumerate (de_var 1 rfl (Or.inl rfl))) (dg_two (i:=2) (j:=3) rfl nd rfl rfl (Or.inl rfl) (Or.inl rfl) (Or.inl rfl) (Or.inl rfl)) (dss_one (ds_if (dt_not (dt_val (de_callH h_is_word (hr.mono (by decide)) rfl (an_cons (an_cons an_nil)) (da_cons (de_var 3 rfl (Or.inl rfl)) (da_cons (de_var 0 rfl (Or.inl rfl)) da_nil))))) (dss_one ds_bad) dss_nil)) (ng_two 2 3))
  (dss_cons (ds_set (i:=4) nd rfl (Or.inl rfl) (de_lst da_nil) (hf:=(Or.inl rfl)))
  (dss_cons (ds_for PassesOwn.leaving rfl (di_seq (de_var 1 rfl (Or.inl rfl))) (dg_name 3 nd rfl (Or.inl rfl) (Or.inl rfl)) (dss_one (ds_set (i:=4) nd rfl (Or.inl rfl) (de_callH h_with_word (hr.mono (by decide)) rfl (an_cons (an_cons an_nil)) (da_cons (de_var 4 rfl (Or.inl rfl)) (da_cons (de_var 3 rfl (Or.inl rfl)) da_nil))) (hf:=(Or.inl rfl)))) (ng_name 3))
  (dss_one (ds_ret (de_tup (da_cons (de_var 0 rfl (Or.inl rfl)) (da_cons (de_callTy call_tupD nx_tup rfl m_tuple Pu.boot_tuple (da_cons (de_var 4 rfl (Or.inl rfl)) da_nil)) da_nil)))))))))
abbrev s_without:=tp 25
theorem sc_without:FnScope ["word","place"] ["word","place"] (defScope s_without):=sc_mk
theorem ok_without (F:Fun K "without" "without" s_without f fd)  : FnD P w K mg base 1 f fd ["word","place"] d_without :=
 fnN F sc_without fun nd hr =>
  (dss_one (ds_ret (de_bin op_addD nx_add (de_slice (de_var 0 rfl (Or.inl rfl)) dp_none (dp_some (de_var 1 rfl (Or.inl rfl)))) (de_slice (de_var 0 rfl (Or.inl rfl)) (dp_some (de_bin op_addD nx_add (de_var 1 rfl (Or.inl rfl)) de_int)) dp_none))))
abbrev s_cut:=tp 26
theorem sc_cut:FnScope ["desk","place","rows"] ["desk","place"] (defScope s_cut):=sc_mk
theorem ok_cut (F:Fun K "cut" "cut" s_cut f fd) (h_made:HasF P w K mg base 4 "made" ["size","words"] d_made) (h_rows_to_cut:HasF P w K mg base 7 "rows_to_cut" ["desk","place"] d_rows_to_cut) (h_without:HasF P w K mg base 1 "without" ["word","place"] d_without):FnD P w K mg base 8 f fd ["desk","place"] d_cut_a :=
 fnN F sc_cut fun nd hr =>
  (dss_cons (ds_set (i:=2) nd rfl (Or.inl rfl) (de_callH h_rows_to_cut (hr.mono (by decide)) rfl (an_cons (an_cons an_nil)) (da_cons (de_var 0 rfl (Or.inl rfl)) (da_cons (de_var 1 rfl (Or.inr (Or.inl rfl))) da_nil))) (hf:=(Or.inl rfl)))
  (dss_one (ds_ret (de_callH h_made (hr.mono (by decide)) rfl (an_cons (an_cons an_nil)) (da_cons (de_bin op_subD nx_sub (de_ix ix_D nx_ix (de_var 0 rfl (Or.inl rfl)) de_int (fun _ _=>rfl)) de_int) (da_cons (de_compW (N:=["row","place"]) (k:=1) (idx:=[1]) rfl (by kernel_rfl) rfl (di_seq (de_var 2 rfl (Or.inl rfl))) (ext_name 0 rfl) (fun _ _ _ _ _=>(dg_name 0 (show (["row","place"]:List Str).Nodup from by decide +kernel) rfl (Or.inl rfl) (Or.inr rfl))) (fun _ _ _ _ _=>dif_nil) (fun _ _ _ _ _=>(de_callH h_without (hr.mono (by decide)) rfl (an_cons (an_cons an_nil)) (da_cons (de_var 0 rfl (Or.inl rfl)) (da_cons (de_var 1 rfl (Or.inr (Or.inl rfl))) da_nil))))) da_nil))))))
abbrev s_rows_with_nought:=tp 27
theorem sc_rows_with_nought:FnScope ["rows","place","ones"] ["rows","place"] (defScope s_rows_with_nought):=sc_mk
theorem ok_rows_with_nought (F:Fun K "rows_with_nought" "rows_with_nought" s_rows_with_nought f fd) (h_plus:HasF P w K mg base 1 "plus" ["one","other"] d_plus):FnD P w K mg base 2 f fd ["rows","place"] d_rows_with_nought :=
 fnN F sc_rows_with_nought fun nd hr =>
  (dss_cons (ds_set (i:=2) nd rfl (Or.inr rfl) (de_compW (N:=["row","place"]) (k:=1) (idx:=[1]) rfl (by kernel_rfl) rfl (di_seq (de_var 0 rfl (Or.inl rfl))) (ext_name 0 rfl) (fun _ _ _ _ _=>(dg_name 0 (show (["row","place"]:List Str).Nodup from by decide +kernel) rfl (Or.inl rfl) (Or.inr rfl))) (fun _ _ _ _ _=>(dif_one (dt_cmp (op_eqD hr) nx_eq (de_ix ix_D nx_ix (de_var 0 rfl (Or.inl rfl)) (de_var 1 rfl (Or.inr (Or.inl rfl))) (fun _ _=>rfl)) de_int (nomark _)))) (fun _ _ _ _ _=>(de_var 0 rfl (Or.inl rfl)))) (hf:=(Or.inl rfl)))
  (dss_one (ds_ret (de_bin op_addD nx_add (de_compW (N:=["row","place"]) (k:=1) (idx:=[1]) rfl (by kernel_rfl) rfl (di_seq (de_var 0 rfl (Or.inl rfl))) (ext_name 0 rfl) (fun _ _ _ _ _=>(dg_name 0 (show (["row","place"]:List Str).Nodup from by decide +kernel) rfl (Or.inl rfl) (Or.inr rfl))) (fun _ _ _ _ _=>(dif_one (dt_cmp (op_eqD hr) nx_eq (de_ix ix_D nx_ix (de_var 0 rfl (Or.inl rfl)) (de_var 1 rfl (Or.inr (Or.inl rfl))) (fun _ _=>rfl)) de_int (nomark _)))) (fun _ _ _ _ _=>(de_var 0 rfl (Or.inl rfl)))) (de_compW (N:=["row","ones"]) (k:=1) (idx:=[2]) rfl (by kernel_rfl) rfl (di_seq (de_slice (de_var 2 rfl (Or.inr (Or.inl rfl))) (dp_some de_int) dp_none)) (ext_name 0 rfl) (fun _ _ _ _ _=>(dg_name 0 (show (["row","ones"]:List Str).Nodup from by decide +kernel) rfl (Or.inl rfl) (Or.inr rfl))) (fun _ _ _ _ _=>dif_nil) (fun _ _ _ _ _=>(de_callH h_plus (hr.mono (by decide)) rfl (an_cons (an_cons an_nil)) (da_cons (de_ix ix_D nx_ix (de_var 1 rfl (Or.inr (Or.inl rfl))) de_int (fun _ _=>rfl)) (da_cons (de_var 0 rfl (Or.inl rfl)) da_nil)))))))))
abbrev s_kept:=tp 28
theorem sc_kept:FnScope ["desk","place","rows"] ["desk","place"] (defScope s_kept):=sc_mk
theorem ok_kept (F:Fun K "kept" "kept" s_kept f fd) (h_made:HasF P w K mg base 4 "made" ["size","words"] d_made) (h_rows_to_cut:HasF P w K mg base 7 "rows_to_cut" ["desk","place"] d_rows_to_cut) (h_rows_with_nought:HasF P w K mg base 2 "rows_with_nought" ["rows","place"] d_rows_with_nought) (h_without:HasF P w K mg base 1 "without" ["word","place"] d_without):FnD P w K mg base 8 f fd ["desk","place"] d_kept :=
 fnN F sc_kept fun nd hr =>
  (dss_cons (ds_set (i:=2) nd rfl (Or.inl rfl) (de_callH h_rows_with_nought (hr.mono (by decide)) rfl (an_cons (an_cons an_nil)) (da_cons (de_callH h_rows_to_cut (hr.mono (by decide)) rfl (an_cons (an_cons an_nil)) (da_cons (de_var 0 rfl (Or.inl rfl)) (da_cons (de_var 1 rfl (Or.inr (Or.inl rfl))) da_nil))) (da_cons (de_var 1 rfl (Or.inr (Or.inl rfl))) da_nil))) (hf:=(Or.inl rfl)))
  (dss_one (ds_ret (de_callH h_made (hr.mono (by decide)) rfl (an_cons (an_cons an_nil)) (da_cons (de_bin op_subD nx_sub (de_ix ix_D nx_ix (de_var 0 rfl (Or.inl rfl)) de_int (fun _ _=>rfl)) de_int) (da_cons (de_compW (N:=["row","place"]) (k:=1) (idx:=[1]) rfl (by kernel_rfl) rfl (di_seq (de_var 2 rfl (Or.inl rfl))) (ext_name 0 rfl) (fun _ _ _ _ _=>(dg_name 0 (show (["row","place"]:List Str).Nodup from by decide +kernel) rfl (Or.inl rfl) (Or.inr rfl))) (fun _ _ _ _ _=>dif_nil) (fun _ _ _ _ _=>(de_callH h_without (hr.mono (by decide)) rfl (an_cons (an_cons an_nil)) (da_cons (de_var 0 rfl (Or.inl rfl)) (da_cons (de_var 1 rfl (Or.inr (Or.inl rfl))) da_nil))))) da_nil))))))
abbrev s__law_way:=tp 43
theorem sc__law_way:FnScope ["_law_desk_here","_law_place","_law_way_here","e"] ["_law_desk_here","_law_place","_law_way_here"] (defScope s__law_way):=sc_mk
theorem ok__law_way (F:Fun K "_law_way" "_law_way" s__law_way f fd) (m_ValueError:mg "ValueError" = none) (m_isinstance:mg "isinstance" = none) (C_NoDesk_ParityError:catchIn K "NoDesk" "ParityError" = true) (C_NoPlace_ParityError:catchIn K "NoPlace" "ParityError" = true) {c_NoPlace:Addr} (m_NoPlace:mg "NoPlace" = some (.ref c_NoPlace)) (h_cut:HasF P w K mg base 8 "cut" ["desk","place"] d_cut_a) (h_kept:HasF P w K mg base 8 "kept" ["desk","place"] d_kept) (I_NoDesk_ValueError:isxIn K (.type "ValueError") "NoDesk" = true) (I_NoPlace_NoPlace:isxIn K (.ref c_NoPlace) "NoPlace" = true) (I_NoPlace_ValueError:isxIn K (.type "ValueError") "NoPlace" = true):FnD P w K mg base 9 f fd ["_law_desk_here","_law_place","_law_way_here"] d__law_way_a :=
 fnN F sc__law_way fun nd hr =>
  (dss_cons (ds_tryAsB 3 (tb_if (fun _=>(dt_cmp (op_eqD hr) nx_eq (de_var 2 rfl (Or.inl rfl)) de_int (nomark _))) (tb_callH h_cut (hr.mono (by decide)) rfl (an_cons (an_cons an_nil)) (fun _=>(da_cons (de_var 0 rfl (Or.inl rfl)) (da_cons (de_var 1 rfl (Or.inl rfl)) da_nil))) (xn_cons xn_var (xn_cons xn_var xn_nil))) (tb_callH h_kept (hr.mono (by decide)) rfl (an_cons (an_cons an_nil)) (fun _=>(da_cons (de_var 0 rfl (Or.inl rfl)) (da_cons (de_var 1 rfl (Or.inl rfl)) da_nil))) (xn_cons xn_var (xn_cons xn_var xn_nil)))) rfl rfl rfl (al_cons C_NoDesk_ParityError (al_cons C_NoPlace_ParityError al_nil)) nd rfl rfl (fun _ _=>(dss_one (ds_ret (de_lst (da_cons (de_isXO 3 rfl m_isinstance rfl (Or.inl rfl) rfl m_NoPlace (al_cons I_NoPlace_NoPlace al_nil)) (da_cons (de_isXB 3 (T := "ValueError") rfl m_isinstance rfl (Or.inl rfl) rfl m_ValueError (al_cons I_NoDesk_ValueError (al_cons I_NoPlace_ValueError al_nil))) da_nil)))))))
  (dss_one (ds_ret (de_lst da_nil))))
abbrev s__law_refused:=tp 44
theorem sc__law_refused:FnScope ["_law_desk_here","_law_place"] ["_law_desk_here","_law_place"] (defScope s__law_refused):=sc_mk
theorem ok__law_refused (F:Fun K "_law_refused" "_law_refused" s__law_refused f fd) (h__law_way:HasF P w K mg base 9 "_law_way" ["_law_desk_here","_law_place","_law_way_here"] d__law_way_a):FnD P w K mg base 10 f fd ["_law_desk_here","_law_place"] d__law_refused_c :=
 fnN F sc__law_refused fun nd hr =>
  (dss_one (ds_ret (de_and (de_cmp (op_eqD hr) nx_eq (de_callH h__law_way (hr.mono (by decide)) rfl (an_cons (an_cons (an_cons an_nil))) (da_cons (de_var 0 rfl (Or.inl rfl)) (da_cons (de_var 1 rfl (Or.inl rfl)) (da_cons de_int da_nil)))) (de_lst (da_cons de_bl (da_cons de_bl da_nil))) (nomark _)) (de_one (de_cmp (op_eqD hr) nx_eq (de_callH h__law_way (hr.mono (by decide)) rfl (an_cons (an_cons (an_cons an_nil))) (da_cons (de_var 0 rfl (Or.inl rfl)) (da_cons (de_var 1 rfl (Or.inl rfl)) (da_cons de_int da_nil)))) (de_lst (da_cons de_bl (da_cons de_bl da_nil))) (nomark _))))))
abbrev s_heads:=tp 22
theorem sc_heads:FnScope ["desk"] ["desk"] (defScope s_heads):=sc_mk
theorem ok_heads (F:Fun K "heads" "heads" s_heads f fd) (h_head_of:HasF P w K mg base 1 "head_of" ["row"] d_head_of) (h_rows_of:HasF P w K mg base 6 "rows_of" ["desk"] d_rows_of_a):FnD P w K mg base 7 f fd ["desk"] d_heads_a :=
 fnN F sc_heads fun nd hr =>
  (dss_one (ds_ret (de_compW (N:=["row"]) (k:=1) (idx:=[]) rfl (by kernel_rfl) rfl (di_seq (de_callH h_rows_of (hr.mono (by decide)) rfl (an_cons an_nil) (da_cons (de_var 0 rfl (Or.inl rfl)) da_nil))) (ext_name 0 rfl) (fun _ _ _ _ _=>(dg_name 0 (show (["row"]:List Str).Nodup from by decide +kernel) rfl (Or.inl rfl) (Or.inr rfl))) (fun _ _ _ _ _=>dif_nil) (fun _ _ _ _ _=>(de_callH h_head_of (hr.mono (by decide)) rfl (an_cons an_nil) (da_cons (de_var 0 rfl (Or.inl rfl)) da_nil))))))
abbrev s_none:=tp 11
theorem sc_none:FnScope ["size"] ["size"] (defScope s_none):=sc_mk
theorem ok_none (F:Fun K "none" "none" s_none f fd)  : FnD P w K mg base 1 f fd ["size"] d_none :=
 fnN F sc_none fun nd hr =>
  (dss_one (ds_ret (de_bin op_mulD nx_mul (de_tup (da_cons de_int da_nil)) (de_var 0 rfl (Or.inl rfl)))))
abbrev s_check_of:=tp 30
theorem sc_check_of:FnScope ["size","rows","place","bits","row"] ["size","rows","place"] (defScope s_check_of):=sc_mk
theorem ok_check_of (F:Fun K "check_of" "check_of" s_check_of f fd) (m_list:mg "list" = none) (m_tuple:mg "tuple" = none) (h_head_of:HasF P w K mg base 1 "head_of" ["row"] d_head_of) (h_none:HasF P w K mg base 1 "none" ["size"] d_none):FnD P w K mg base 2 f fd ["size","rows","place"] d_check_of :=
 fnN F sc_check_of fun nd hr =>
  (dss_cons (ds_ownC (i:=3) nd rfl (Or.inl rfl) rfl m_list (de_callH h_none (hr.mono (by decide)) rfl (an_cons an_nil) (da_cons (de_var 0 rfl (Or.inl rfl)) da_nil)) (Or.inl rfl))
  (dss_cons (ds_setO 3 rfl (Or.inl rfl) (de_var 2 rfl (Or.inl rfl)) de_int)
  (dss_cons (ds_for PassesOwn.leaving rfl (di_seq (de_var 1 rfl (Or.inl rfl))) (dg_name 4 nd rfl (Or.inl rfl) (Or.inl rfl)) (dss_one (ds_setO 3 rfl (Or.inl rfl) (de_callH h_head_of (hr.mono (by decide)) rfl (an_cons an_nil) (da_cons (de_var 4 rfl (Or.inl rfl)) da_nil)) (de_ix ix_D nx_ix (de_var 4 rfl (Or.inl rfl)) (de_var 2 rfl (Or.inl rfl)) (fun _ _=>rfl)))) (ng_name 4))
  (dss_frz 3 (dss_one (ds_ret (de_callTy call_tupD nx_tup rfl m_tuple Pu.boot_tuple (da_cons (de_var 3 rfl (Or.inl rfl)) da_nil))))))))
abbrev s_checks:=tp 31
theorem sc_checks:FnScope ["desk","taken","rows","size"] ["desk"] (defScope s_checks):=sc_mk
theorem ok_checks (F:Fun K "checks" "checks" s_checks f fd) (m_range:mg "range" = none) (h_check_of:HasF P w K mg base 2 "check_of" ["size","rows","place"] d_check_of) (h_heads:HasF P w K mg base 7 "heads" ["desk"] d_heads_a) (h_made:HasF P w K mg base 4 "made" ["size","words"] d_made) (h_rows_of:HasF P w K mg base 6 "rows_of" ["desk"] d_rows_of_a):FnD P w K mg base 8 f fd ["desk"] d_checks_a :=
 fnN F sc_checks fun nd hr =>
  (dss_cons (ds_set (i:=1) nd rfl (Or.inr rfl) (de_callH h_heads (hr.mono (by decide)) rfl (an_cons an_nil) (da_cons (de_var 0 rfl (Or.inl rfl)) da_nil)) (hf:=(Or.inl rfl)))
  (dss_cons (ds_set (i:=2) nd rfl (Or.inr rfl) (de_callH h_rows_of (hr.mono (by decide)) rfl (an_cons an_nil) (da_cons (de_var 0 rfl (Or.inl rfl)) da_nil)) (hf:=(Or.inl rfl)))
  (dss_cons (ds_set (i:=3) nd rfl (Or.inr rfl) (de_ix ix_D nx_ix (de_var 0 rfl (Or.inl rfl)) de_int (fun _ _=>rfl)) (hf:=(Or.inl rfl)))
  (dss_one (ds_ret (de_callH h_made (hr.mono (by decide)) rfl (an_cons (an_cons an_nil)) (da_cons (de_var 3 rfl (Or.inr (Or.inl rfl))) (da_cons (de_compW (N:=["place","size","rows","taken"]) (k:=1) (idx:=[3,2,1]) rfl (by kernel_rfl) rfl (di_range1 rfl m_range (de_var 3 rfl (Or.inr (Or.inl rfl)))) (ext_name 0 rfl) (fun _ _ _ _ _=>(dg_name 0 (show (["place","size","rows","taken"]:List Str).Nodup from by decide +kernel) rfl (Or.inl rfl) (Or.inr rfl))) (fun _ _ _ _ _=>(dif_one (dt_cmp (op_ninD hr) nx_nin (de_var 0 rfl (Or.inl rfl)) (de_var 3 rfl (Or.inr (Or.inl rfl))) (by with_unfolding_all rfl)))) (fun _ _ _ _ _=>(de_callH h_check_of (hr.mono (by decide)) rfl (an_cons (an_cons (an_cons an_nil))) (da_cons (de_var 1 rfl (Or.inr (Or.inl rfl))) (da_cons (de_var 2 rfl (Or.inr (Or.inl rfl))) (da_cons (de_var 0 rfl (Or.inl rfl)) da_nil)))))) da_nil))))))))
abbrev s_law:=tp 45
theorem sc_law:FnScope ["_law_script","_law_desk_here","_law_size_here","_law_place","_law_spread_here","_law_all_cut","_law_all_kept","_law_one","_law_two","_law_odd"] ["_law_script"] (defScope s_law):=sc_mk
theorem ok_law (F:Fun K "law" "law" s_law f fd) (m_set:mg "set" = none) (m_sorted:mg "sorted" = none) (h__law_cell:HasF P w K mg base 1 "_law_cell" ["_law_script","_law_k"] d__law_cell) (h__law_desk:HasF P w K mg base 4 "_law_desk" ["_law_script","_law_at"] d__law_desk) (h__law_refused:HasF P w K mg base 10 "_law_refused" ["_law_desk_here","_law_place"] d__law_refused_c) (h__law_rows:HasF P w K mg base 1 "_law_rows" ["_law_spread_here"] d__law_rows) (h__law_spread:HasF P w K mg base 2 "_law_spread" ["_law_size_here","_law_words_here"] d__law_spread) (h_checks:HasF P w K mg base 8 "checks" ["desk"] d_checks_a) (h_cut:HasF P w K mg base 8 "cut" ["desk","place"] d_cut_a) (h_kept:HasF P w K mg base 8 "kept" ["desk","place"] d_kept):FnD P w K mg base 11 f fd ["_law_script"] d_law_k17 :=
 fnN F sc_law fun nd hr =>
  (dss_cons (ds_set (i:=1) nd rfl (Or.inl rfl) (de_callH h__law_desk (hr.mono (by decide)) rfl (an_cons (an_cons an_nil)) (da_cons (de_var 0 rfl (Or.inl rfl)) (da_cons de_int da_nil))) (hf:=(Or.inl rfl)))
  (dss_cons (ds_set (i:=2) nd rfl (Or.inl rfl) (de_ix ix_D nx_ix (de_var 1 rfl (Or.inl rfl)) de_int (fun _ _=>rfl)) (hf:=(Or.inl rfl)))
  (dss_cons (ds_if (dt_cmp (op_eqD hr) nx_eq (de_var 2 rfl (Or.inl rfl)) de_int (nomark _)) (dss_one (ds_ret (de_callH h__law_refused (hr.mono (by decide)) rfl (an_cons (an_cons an_nil)) (da_cons (de_var 1 rfl (Or.inl rfl)) (da_cons de_int da_nil))))) dss_nil)
  (dss_cons (ds_set (i:=3) nd rfl (Or.inr rfl) (de_bin op_modD nx_mod (de_callH h__law_cell (hr.mono (by decide)) rfl (an_cons (an_cons an_nil)) (da_cons (de_var 0 rfl (Or.inl rfl)) (da_cons de_int da_nil))) (de_var 2 rfl (Or.inl rfl))) (hf:=(Or.inl rfl)))
  (dss_cons (ds_set (i:=4) nd rfl (Or.inl rfl) (de_callH h__law_spread (hr.mono (by decide)) rfl (an_cons (an_cons an_nil)) (da_cons (de_var 2 rfl (Or.inl rfl)) (da_cons (de_ix ix_D nx_ix (de_var 1 rfl (Or.inl rfl)) de_int (fun _ _=>rfl)) da_nil))) (hf:=(Or.inl rfl)))
  (dss_cons (ds_set (i:=5) nd rfl (Or.inl rfl) (de_srtSetT hr rfl rfl m_sorted rfl m_set (de_compW (N:=["_law_word_here","_law_place"]) (k:=1) (idx:=[3]) rfl (by kernel_rfl) rfl (di_seq (de_var 4 rfl (Or.inl rfl))) (ext_name 0 rfl) (fun _ _ _ _ _=>(dg_name 0 (show (["_law_word_here","_law_place"]:List Str).Nodup from by decide +kernel) rfl (Or.inl rfl) (Or.inr rfl))) (fun _ _ _ _ _=>dif_nil) (fun _ _ _ _ _=>(de_bin op_addD nx_add (de_slice (de_var 0 rfl (Or.inl rfl)) dp_none (dp_some (de_var 1 rfl (Or.inr (Or.inl rfl))))) (de_slice (de_var 0 rfl (Or.inl rfl)) (dp_some (de_bin op_addD nx_add (de_var 1 rfl (Or.inr (Or.inl rfl))) de_int)) dp_none))))) (hf:=(Or.inl rfl)))
  (dss_cons (ds_set (i:=6) nd rfl (Or.inl rfl) (de_srt hr rfl m_sorted (de_compW (N:=["_law_word_here","_law_place"]) (k:=1) (idx:=[3]) rfl (by kernel_rfl) rfl (di_seq (de_var 4 rfl (Or.inl rfl))) (ext_name 0 rfl) (fun _ _ _ _ _=>(dg_name 0 (show (["_law_word_here","_law_place"]:List Str).Nodup from by decide +kernel) rfl (Or.inl rfl) (Or.inr rfl))) (fun _ _ _ _ _=>(dif_one (dt_cmp (op_eqD hr) nx_eq (de_ix ix_D nx_ix (de_var 0 rfl (Or.inl rfl)) (de_var 1 rfl (Or.inr (Or.inl rfl))) (fun _ _=>rfl)) de_int (nomark _)))) (fun _ _ _ _ _=>(de_bin op_addD nx_add (de_slice (de_var 0 rfl (Or.inl rfl)) dp_none (dp_some (de_var 1 rfl (Or.inr (Or.inl rfl))))) (de_slice (de_var 0 rfl (Or.inl rfl)) (dp_some (de_bin op_addD nx_add (de_var 1 rfl (Or.inr (Or.inl rfl))) de_int)) dp_none))))) (hf:=(Or.inl rfl)))
  (dss_cons (ds_set (i:=7) nd rfl (Or.inl rfl) (de_callH h_cut (hr.mono (by decide)) rfl (an_cons (an_cons an_nil)) (da_cons (de_var 1 rfl (Or.inl rfl)) (da_cons (de_var 3 rfl (Or.inr (Or.inl rfl))) da_nil))) (hf:=(Or.inl rfl)))
  (dss_cons (ds_set (i:=8) nd rfl (Or.inl rfl) (de_callH h_kept (hr.mono (by decide)) rfl (an_cons (an_cons an_nil)) (da_cons (de_var 1 rfl (Or.inl rfl)) (da_cons (de_var 3 rfl (Or.inr (Or.inl rfl))) da_nil))) (hf:=(Or.inl rfl)))
  (dss_cons (ds_if (dt_w (dw_or (dt_cmp (op_neD hr) nx_ne (de_var 7 rfl (Or.inl rfl)) (de_callH h__law_rows (hr.mono (by decide)) rfl (an_cons an_nil) (da_cons (de_var 5 rfl (Or.inl rfl)) da_nil)) (nomark _)) (dw_or1 (dt_cmp (op_neD hr) nx_ne (de_var 8 rfl (Or.inl rfl)) (de_callH h__law_rows (hr.mono (by decide)) rfl (an_cons an_nil) (da_cons (de_var 6 rfl (Or.inl rfl)) da_nil)) (nomark _))))) (dss_one (ds_ret de_bl)) dss_nil)
  (dss_cons (ds_if (dt_w (dw_or (dt_cmp (op_neD hr) nx_ne (de_callH h_checks (hr.mono (by decide)) rfl (an_cons an_nil) (da_cons (de_var 7 rfl (Or.inl rfl)) da_nil)) (de_callH h_kept (hr.mono (by decide)) rfl (an_cons (an_cons an_nil)) (da_cons (de_callH h_checks (hr.mono (by decide)) rfl (an_cons an_nil) (da_cons (de_var 1 rfl (Or.inl rfl)) da_nil)) (da_cons (de_var 3 rfl (Or.inr (Or.inl rfl))) da_nil))) (nomark _)) (dw_or1 (dt_cmp (op_neD hr) nx_ne (de_callH h_checks (hr.mono (by decide)) rfl (an_cons an_nil) (da_cons (de_var 8 rfl (Or.inl rfl)) da_nil)) (de_callH h_cut (hr.mono (by decide)) rfl (an_cons (an_cons an_nil)) (da_cons (de_callH h_checks (hr.mono (by decide)) rfl (an_cons an_nil) (da_cons (de_var 1 rfl (Or.inl rfl)) da_nil)) (da_cons (de_var 3 rfl (Or.inr (Or.inl rfl))) da_nil))) (nomark _))))) (dss_one (ds_ret de_bl)) dss_nil)
  (dss_cons (ds_set (i:=9) nd rfl (Or.inl rfl) (de_ix ix_D nx_ix (de_lst (da_cons (de_var 2 rfl (Or.inl rfl)) (da_cons (de_neg de_int) (da_cons de_bl (da_cons de_str (da_cons de_non (da_cons (de_bin op_addD nx_add (de_var 2 rfl (Or.inl rfl)) (de_bin op_modD nx_mod (de_callH h__law_cell (hr.mono (by decide)) rfl (an_cons (an_cons an_nil)) (da_cons (de_var 0 rfl (Or.inl rfl)) (da_cons de_int da_nil))) (de_bin op_powD nx_pow de_int de_int))) (da_cons (de_tup (da_cons de_int da_nil)) da_nil)))))))) (de_bin op_modD nx_mod (de_callH h__law_cell (hr.mono (by decide)) rfl (an_cons (an_cons an_nil)) (da_cons (de_var 0 rfl (Or.inl rfl)) (da_cons de_int da_nil))) de_int) (fun _ _=>rfl)) (hf:=(Or.inl rfl)))
  (dss_one (ds_ret (de_callH h__law_refused (hr.mono (by decide)) rfl (an_cons (an_cons an_nil)) (da_cons (de_var 1 rfl (Or.inl rfl)) (da_cons (de_var 9 rfl (Or.inl rfl)) da_nil)))))))))))))))))
end
theorem all_mk {l:PySem.W.OpenLaw} {w:World} {K:PySem.W.Frag} {h:Heap} {mg:Str->Option Value} {fa:Addr} (X:K.In h) (G:h.Ns mainGlobals mg) (hfa:mg "law" = some (.ref fa))
  {t_LONGEST:Tok} {t_MOST_WORDS:Tok} {c_NoPlace:Addr}
  (q__law_mix:DfIn K "_law_mix" s__law_mix)
  (q__law_cell:DfIn K "_law_cell" s__law_cell)
  (q__law_large:DfIn K "_law_large" s__law_large)
  (q__law_size:DfIn K "_law_size" s__law_size)
  (q__law_rows:DfIn K "_law_rows" s__law_rows)
  (q__law_sum:DfIn K "_law_sum" s__law_sum)
  (q__law_spread:DfIn K "_law_spread" s__law_spread)
  (q__law_word:DfIn K "_law_word" s__law_word)
  (q__law_words:DfIn K "_law_words" s__law_words)
  (q__law_desk:DfIn K "_law_desk" s__law_desk)
  (q_head_of:DfIn K "head_of" s_head_of)
  (q_stand_as_rows:DfIn K "stand_as_rows" s_stand_as_rows)
  (q_is_number:DfIn K "is_number" s_is_number)
  (q_is_size:DfIn K "is_size" s_is_size)
  (q_is_word:DfIn K "is_word" s_is_word)
  (q_is_desk:DfIn K "is_desk" s_is_desk)
  (q_checked:DfIn K "checked" s_checked)
  (q_rows_of:DfIn K "rows_of" s_rows_of)
  (q_rows_to_cut:DfIn K "rows_to_cut" s_rows_to_cut)
  (q_plus:DfIn K "plus" s_plus)
  (q_rest_of:DfIn K "rest_of" s_rest_of)
  (q_with_word:DfIn K "with_word" s_with_word)
  (q_made:DfIn K "made" s_made)
  (q_without:DfIn K "without" s_without)
  (q_cut:DfIn K "cut" s_cut)
  (q_rows_with_nought:DfIn K "rows_with_nought" s_rows_with_nought)
  (q_kept:DfIn K "kept" s_kept)
  (q__law_way:DfIn K "_law_way" s__law_way)
  (q__law_refused:DfIn K "_law_refused" s__law_refused)
  (q_heads:DfIn K "heads" s_heads)
  (q_none:DfIn K "none" s_none)
  (q_check_of:DfIn K "check_of" s_check_of)
  (q_checks:DfIn K "checks" s_checks)
  (q_law:DfIn K "law" s_law)
  (a_LONGEST:PySem.W.nsIn K mainGlobals "LONGEST" = some (some (.int 10 t_LONGEST)))
  (a_MOST_WORDS:PySem.W.nsIn K mainGlobals "MOST_WORDS" = some (some (.int 20 t_MOST_WORDS)))
  (z_ValueError:PySem.W.nsIn K mainGlobals "ValueError" = some none)
  (z_all:PySem.W.nsIn K mainGlobals "all" = some none)
  (z_bool:PySem.W.nsIn K mainGlobals "bool" = some none)
  (z_enumerate:PySem.W.nsIn K mainGlobals "enumerate" = some none)
  (z_int:PySem.W.nsIn K mainGlobals "int" = some none)
  (z_isinstance:PySem.W.nsIn K mainGlobals "isinstance" = some none)
  (z_len:PySem.W.nsIn K mainGlobals "len" = some none)
  (z_list:PySem.W.nsIn K mainGlobals "list" = some none)
  (z_range:PySem.W.nsIn K mainGlobals "range" = some none)
  (z_set:PySem.W.nsIn K mainGlobals "set" = some none)
  (z_sorted:PySem.W.nsIn K mainGlobals "sorted" = some none)
  (z_sum:PySem.W.nsIn K mainGlobals "sum" = some none)
  (z_tuple:PySem.W.nsIn K mainGlobals "tuple" = some none)
  (z_zip:PySem.W.nsIn K mainGlobals "zip" = some none)
  (a_NoPlace:PySem.W.nsIn K mainGlobals "NoPlace" = some (some (.ref c_NoPlace)))
  (C_NoDesk_ParityError:catchIn K "NoDesk" "ParityError" = true) (C_NoPlace_ParityError:catchIn K "NoPlace" "ParityError" = true) (X_NoDesk:hasX K "NoDesk" = true) (X_NoPlace:hasX K "NoPlace" = true) (I_NoDesk_ValueError:isxIn K (.type "ValueError") "NoDesk" = true) (I_NoPlace_NoPlace:isxIn K (.ref c_NoPlace) "NoPlace" = true) (I_NoPlace_ValueError:isxIn K (.type "ValueError") "NoPlace" = true) :
  ∃ fd:FuncData,(∀ (s:Shared) (v:Value),BindsTo s fd ⟨[v],[]⟩ [("_law_script",v)])/\∀ base:Heap,K.In base->base.Ns mainGlobals mg->FnD l.prog w K mg base 11 fa fd ["_law_script"] d_law_k17:=by
 refine hasLaw X G hfa q_law (fun _ _ _ _ _ _ _=>rfl) fun base fd F_law=>?_
 have m_ValueError:=PySem.W.mg_none_of X G z_ValueError;have m_all:=PySem.W.mg_none_of X G z_all;have m_bool:=PySem.W.mg_none_of X G z_bool;have m_enumerate:=PySem.W.mg_none_of X G z_enumerate;have m_int:=PySem.W.mg_none_of X G z_int;have m_isinstance:=PySem.W.mg_none_of X G z_isinstance;have m_len:=PySem.W.mg_none_of X G z_len;have m_list:=PySem.W.mg_none_of X G z_list;have m_range:=PySem.W.mg_none_of X G z_range;have m_set:=PySem.W.mg_none_of X G z_set;have m_sorted:=PySem.W.mg_none_of X G z_sorted;have m_sum:=PySem.W.mg_none_of X G z_sum;have m_tuple:=PySem.W.mg_none_of X G z_tuple;have m_zip:=PySem.W.mg_none_of X G z_zip;have m_LONGEST:=PySem.W.mg_of X G a_LONGEST;have m_MOST_WORDS:=PySem.W.mg_of X G a_MOST_WORDS;have m_NoPlace:=PySem.W.mg_of X G a_NoPlace;have h__law_mix:=hasF X G q__law_mix (fun F=>ok__law_mix (P:=l.prog) (w:=w) (base:=base) F ) fun _ _ _ _ _ _=>us3 fun _ _ _=>rfl
 have h__law_cell:=hasF X G q__law_cell (fun F=>ok__law_cell (P:=l.prog) (w:=w) (base:=base) F m_len) fun _ _ _ _ _ _=>us2 fun _ _=>rfl
 have h__law_large:=hasF X G q__law_large (fun F=>ok__law_large (P:=l.prog) (w:=w) (base:=base) F m_len h__law_cell h__law_mix) fun _ _ _ _ _ _=>us1 fun _=>rfl
 have h__law_size:=hasF X G q__law_size (fun F=>ok__law_size (P:=l.prog) (w:=w) (base:=base) F m_len h__law_cell h__law_large) fun _ _ _ _ _ _=>us2 fun _ _=>rfl
 have h__law_rows:=hasF X G q__law_rows (fun F=>ok__law_rows (P:=l.prog) (w:=w) (base:=base) F m_int m_len m_range m_tuple) fun _ _ _ _ _ _=>us1 fun _=>rfl
 have h__law_sum:=hasF X G q__law_sum (fun F=>ok__law_sum (P:=l.prog) (w:=w) (base:=base) F m_tuple m_zip) fun _ _ _ _ _ _=>us2 fun _ _=>rfl
 have h__law_spread:=hasF X G q__law_spread (fun F=>ok__law_spread (P:=l.prog) (w:=w) (base:=base) F m_sorted h__law_sum) fun _ _ _ _ _ _=>us2 fun _ _=>rfl
 have h__law_word:=hasF X G q__law_word (fun F=>ok__law_word (P:=l.prog) (w:=w) (base:=base) F m_range m_tuple h__law_mix) fun _ _ _ _ _ _=>us2 fun _ _=>rfl
 have h__law_words:=hasF X G q__law_words (fun F=>ok__law_words (P:=l.prog) (w:=w) (base:=base) F m_range h__law_cell h__law_word) fun _ _ _ _ _ _=>us3 fun _ _ _=>rfl
 have h__law_desk:=hasF X G q__law_desk (fun F=>ok__law_desk (P:=l.prog) (w:=w) (base:=base) F h__law_rows h__law_size h__law_spread h__law_words) fun _ _ _ _ _ _=>us2 fun _ _=>rfl
 have h_head_of:=hasF X G q_head_of (fun F=>ok_head_of (P:=l.prog) (w:=w) (base:=base) F ) fun _ _ _ _ _ _=>us1 fun _=>rfl
 have h_stand_as_rows:=hasF X G q_stand_as_rows (fun F=>ok_stand_as_rows (P:=l.prog) (w:=w) (base:=base) F m_sum h_head_of) fun _ _ _ _ _ _=>us1 fun _=>rfl
 have h_is_number:=hasF X G q_is_number (fun F=>ok_is_number (P:=l.prog) (w:=w) (base:=base) F m_bool m_int m_isinstance) fun _ _ _ _ _ _=>us3 fun _ _ _=>rfl
 have h_is_size:=hasF X G q_is_size (fun F=>ok_is_size (P:=l.prog) (w:=w) (base:=base) F m_LONGEST h_is_number) fun _ _ _ _ _ _=>us1 fun _=>rfl
 have h_is_word:=hasF X G q_is_word (fun F=>ok_is_word (P:=l.prog) (w:=w) (base:=base) F m_all m_isinstance m_len m_tuple h_is_number h_is_size) fun _ _ _ _ _ _=>us2 fun _ _=>rfl
 have h_is_desk:=hasF X G q_is_desk (fun F=>ok_is_desk (P:=l.prog) (w:=w) (base:=base) F m_all m_isinstance m_len m_tuple h_is_size h_is_word h_stand_as_rows) fun _ _ _ _ _ _=>us1 fun _=>rfl
 have h_checked:=hasF X G q_checked (fun F=>ok_checked (P:=l.prog) (w:=w) (base:=base) F h_is_desk X_NoDesk) fun _ _ _ _ _ _=>us1 fun _=>rfl
 have h_rows_of:=hasF X G q_rows_of (fun F=>ok_rows_of (P:=l.prog) (w:=w) (base:=base) F h_checked) fun _ _ _ _ _ _=>us1 fun _=>rfl
 have h_rows_to_cut:=hasF X G q_rows_to_cut (fun F=>ok_rows_to_cut (P:=l.prog) (w:=w) (base:=base) F h_is_number h_rows_of X_NoPlace) fun _ _ _ _ _ _=>us2 fun _ _=>rfl
 have h_plus:=hasF X G q_plus (fun F=>ok_plus (P:=l.prog) (w:=w) (base:=base) F m_tuple m_zip) fun _ _ _ _ _ _=>us2 fun _ _=>rfl
 have h_rest_of:=hasF X G q_rest_of (fun F=>ok_rest_of (P:=l.prog) (w:=w) (base:=base) F h_head_of h_plus) fun _ _ _ _ _ _=>us2 fun _ _=>rfl
 have h_with_word:=hasF X G q_with_word (fun F=>ok_with_word (P:=l.prog) (w:=w) (base:=base) F m_sorted h_head_of h_plus h_rest_of) fun _ _ _ _ _ _=>us2 fun _ _=>rfl
 have h_made:=hasF X G q_made (fun F=>ok_made (P:=l.prog) (w:=w) (base:=base) F m_enumerate m_isinstance m_len m_list m_tuple m_MOST_WORDS h_is_size h_is_word h_with_word) fun _ _ _ _ _ _=>us2 fun _ _=>rfl
 have h_without:=hasF X G q_without (fun F=>ok_without (P:=l.prog) (w:=w) (base:=base) F ) fun _ _ _ _ _ _=>us2 fun _ _=>rfl
 have h_cut:=hasF X G q_cut (fun F=>ok_cut (P:=l.prog) (w:=w) (base:=base) F h_made h_rows_to_cut h_without) fun _ _ _ _ _ _=>us2 fun _ _=>rfl
 have h_rows_with_nought:=hasF X G q_rows_with_nought (fun F=>ok_rows_with_nought (P:=l.prog) (w:=w) (base:=base) F h_plus) fun _ _ _ _ _ _=>us2 fun _ _=>rfl
 have h_kept:=hasF X G q_kept (fun F=>ok_kept (P:=l.prog) (w:=w) (base:=base) F h_made h_rows_to_cut h_rows_with_nought h_without) fun _ _ _ _ _ _=>us2 fun _ _=>rfl
 have h__law_way:=hasF X G q__law_way (fun F=>ok__law_way (P:=l.prog) (w:=w) (base:=base) F m_ValueError m_isinstance C_NoDesk_ParityError C_NoPlace_ParityError m_NoPlace h_cut h_kept I_NoDesk_ValueError I_NoPlace_NoPlace I_NoPlace_ValueError) fun _ _ _ _ _ _=>us3 fun _ _ _=>rfl
 have h__law_refused:=hasF X G q__law_refused (fun F=>ok__law_refused (P:=l.prog) (w:=w) (base:=base) F h__law_way) fun _ _ _ _ _ _=>us2 fun _ _=>rfl
 have h_heads:=hasF X G q_heads (fun F=>ok_heads (P:=l.prog) (w:=w) (base:=base) F h_head_of h_rows_of) fun _ _ _ _ _ _=>us1 fun _=>rfl
 have h_none:=hasF X G q_none (fun F=>ok_none (P:=l.prog) (w:=w) (base:=base) F ) fun _ _ _ _ _ _=>us1 fun _=>rfl
 have h_check_of:=hasF X G q_check_of (fun F=>ok_check_of (P:=l.prog) (w:=w) (base:=base) F m_list m_tuple h_head_of h_none) fun _ _ _ _ _ _=>us3 fun _ _ _=>rfl
 have h_checks:=hasF X G q_checks (fun F=>ok_checks (P:=l.prog) (w:=w) (base:=base) F m_range h_check_of h_heads h_made h_rows_of) fun _ _ _ _ _ _=>us1 fun _=>rfl
 exact ok_law F_law m_set m_sorted h__law_cell h__law_desk h__law_refused h__law_rows h__law_spread h_checks h_cut h_kept
end K17
set_option maxHeartbeats 4000000
def PySem.W.Fast.tw1531884649559084659:Nat:=0
def PySem.W.Fast.tw112485987101257352:Nat:=0
def PySem.W.Fast.tw2609654878133766304:Nat:=0
def PySem.W.Fast.tw16671674593547168898:Nat:=0
def PySem.W.Fast.tw11308177759000731085:Nat:=0
def PySem.W.Fast.tw8816351327376165705:Nat:=0
def PySem.W.Fast.tw1710514977208458536:Nat:=0
open PySem PySem.W PyProof.Rows
set_option maxHeartbeats 0 in
theorem PySem.Challenge.cw_paritydesk_k17_whole_cut_and_kept_holds : PySem.Challenge.rw_paritydesk_k17_whole_cut_and_kept.Holds := by
 w_on;o_law;k_head;(case hw=>w_witness2)
 k_fill
 refine Pu.walkD (l:=PySem.Challenge.rw_paritydesk_k17_whole_cut_and_kept) (k:=11) (x := "_law_script") (D:=Dn.d_law_k17) rfl rfl ⟨rfl,by decide,by decide⟩ (fun w h Y=>PySem.W.kIn_of Y) ?F Dn.law_k17_true
 case F =>
  intro w mg fa h KX G hmg
  refine' K17.all_mk KX G hmg ?q__law_mix ?q__law_cell ?q__law_large ?q__law_size ?q__law_rows ?q__law_sum ?q__law_spread ?q__law_word ?q__law_words ?q__law_desk ?q_head_of ?q_stand_as_rows ?q_is_number ?q_is_size ?q_is_word ?q_is_desk ?q_checked ?q_rows_of ?q_rows_to_cut ?q_plus ?q_rest_of ?q_with_word ?q_made ?q_without ?q_cut ?q_rows_with_nought ?q_kept ?q__law_way ?q__law_refused ?q_heads ?q_none ?q_check_of ?q_checks ?q_law ?a_LONGEST ?a_MOST_WORDS ?z_ValueError ?z_all ?z_bool ?z_enumerate ?z_int ?z_isinstance ?z_len ?z_list ?z_range ?z_set ?z_sorted ?z_sum ?z_tuple ?z_zip ?a_NoPlace ?C_NoDesk_ParityError ?C_NoPlace_ParityError ?X_NoDesk ?X_NoPlace ?I_NoDesk_ValueError ?I_NoPlace_NoPlace ?I_NoPlace_ValueError
  (case q__law_mix=>(refine' Pu.dfin ?a ?l ?c ?k;(case a=>k_is);(case l=>k_is);(case c=>k_is);(case k=>k_is)))
  (case q__law_cell=>(refine' Pu.dfin ?a ?l ?c ?k;(case a=>k_is);(case l=>k_is);(case c=>k_is);(case k=>k_is)))
  (case q__law_large=>(refine' Pu.dfin ?a ?l ?c ?k;(case a=>k_is);(case l=>k_is);(case c=>k_is);(case k=>k_is)))
  (case q__law_size=>(refine' Pu.dfin ?a ?l ?c ?k;(case a=>k_is);(case l=>k_is);(case c=>k_is);(case k=>k_is)))
  (case q__law_rows=>(refine' Pu.dfin ?a ?l ?c ?k;(case a=>k_is);(case l=>k_is);(case c=>k_is);(case k=>k_is)))
  (case q__law_sum=>(refine' Pu.dfin ?a ?l ?c ?k;(case a=>k_is);(case l=>k_is);(case c=>k_is);(case k=>k_is)))
  (case q__law_spread=>(refine' Pu.dfin ?a ?l ?c ?k;(case a=>k_is);(case l=>k_is);(case c=>k_is);(case k=>k_is)))
  (case q__law_word=>(refine' Pu.dfin ?a ?l ?c ?k;(case a=>k_is);(case l=>k_is);(case c=>k_is);(case k=>k_is)))
  (case q__law_words=>(refine' Pu.dfin ?a ?l ?c ?k;(case a=>k_is);(case l=>k_is);(case c=>k_is);(case k=>k_is)))
  (case q__law_desk=>(refine' Pu.dfin ?a ?l ?c ?k;(case a=>k_is);(case l=>k_is);(case c=>k_is);(case k=>k_is)))
  (case q_head_of=>(refine' Pu.dfin ?a ?l ?c ?k;(case a=>k_is);(case l=>k_is);(case c=>k_is);(case k=>k_is)))
  (case q_stand_as_rows=>(refine' Pu.dfin ?a ?l ?c ?k;(case a=>k_is);(case l=>k_is);(case c=>k_is);(case k=>k_is)))
  (case q_is_number=>(refine' Pu.dfin ?a ?l ?c ?k;(case a=>k_is);(case l=>k_is);(case c=>k_is);(case k=>k_is)))
  (case q_is_size=>(refine' Pu.dfin ?a ?l ?c ?k;(case a=>k_is);(case l=>k_is);(case c=>k_is);(case k=>k_is)))
  (case q_is_word=>(refine' Pu.dfin ?a ?l ?c ?k;(case a=>k_is);(case l=>k_is);(case c=>k_is);(case k=>k_is)))
  (case q_is_desk=>(refine' Pu.dfin ?a ?l ?c ?k;(case a=>k_is);(case l=>k_is);(case c=>k_is);(case k=>k_is)))
  (case q_checked=>(refine' Pu.dfin ?a ?l ?c ?k;(case a=>k_is);(case l=>k_is);(case c=>k_is);(case k=>k_is)))
  (case q_rows_of=>(refine' Pu.dfin ?a ?l ?c ?k;(case a=>k_is);(case l=>k_is);(case c=>k_is);(case k=>k_is)))
  (case q_rows_to_cut=>(refine' Pu.dfin ?a ?l ?c ?k;(case a=>k_is);(case l=>k_is);(case c=>k_is);(case k=>k_is)))
  (case q_plus=>(refine' Pu.dfin ?a ?l ?c ?k;(case a=>k_is);(case l=>k_is);(case c=>k_is);(case k=>k_is)))
  (case q_rest_of=>(refine' Pu.dfin ?a ?l ?c ?k;(case a=>k_is);(case l=>k_is);(case c=>k_is);(case k=>k_is)))
  (case q_with_word=>(refine' Pu.dfin ?a ?l ?c ?k;(case a=>k_is);(case l=>k_is);(case c=>k_is);(case k=>k_is)))
  (case q_made=>(refine' Pu.dfin ?a ?l ?c ?k;(case a=>k_is);(case l=>k_is);(case c=>k_is);(case k=>k_is)))
  (case q_without=>(refine' Pu.dfin ?a ?l ?c ?k;(case a=>k_is);(case l=>k_is);(case c=>k_is);(case k=>k_is)))
  (case q_cut=>(refine' Pu.dfin ?a ?l ?c ?k;(case a=>k_is);(case l=>k_is);(case c=>k_is);(case k=>k_is)))
  (case q_rows_with_nought=>(refine' Pu.dfin ?a ?l ?c ?k;(case a=>k_is);(case l=>k_is);(case c=>k_is);(case k=>k_is)))
  (case q_kept=>(refine' Pu.dfin ?a ?l ?c ?k;(case a=>k_is);(case l=>k_is);(case c=>k_is);(case k=>k_is)))
  (case q__law_way=>(refine' Pu.dfin ?a ?l ?c ?k;(case a=>k_is);(case l=>k_is);(case c=>k_is);(case k=>k_is)))
  (case q__law_refused=>(refine' Pu.dfin ?a ?l ?c ?k;(case a=>k_is);(case l=>k_is);(case c=>k_is);(case k=>k_is)))
  (case q_heads=>(refine' Pu.dfin ?a ?l ?c ?k;(case a=>k_is);(case l=>k_is);(case c=>k_is);(case k=>k_is)))
  (case q_none=>(refine' Pu.dfin ?a ?l ?c ?k;(case a=>k_is);(case l=>k_is);(case c=>k_is);(case k=>k_is)))
  (case q_check_of=>(refine' Pu.dfin ?a ?l ?c ?k;(case a=>k_is);(case l=>k_is);(case c=>k_is);(case k=>k_is)))
  (case q_checks=>(refine' Pu.dfin ?a ?l ?c ?k;(case a=>k_is);(case l=>k_is);(case c=>k_is);(case k=>k_is)))
  (case q_law=>(refine' Pu.dfin ?a ?l ?c ?k;(case a=>k_is);(case l=>k_is);(case c=>k_is);(case k=>k_is)))
  (case a_LONGEST=>k_is)
  (case a_MOST_WORDS=>k_is)
  (case z_ValueError=>k_is)
  (case z_all=>k_is)
  (case z_bool=>k_is)
  (case z_enumerate=>k_is)
  (case z_int=>k_is)
  (case z_isinstance=>k_is)
  (case z_len=>k_is)
  (case z_list=>k_is)
  (case z_range=>k_is)
  (case z_set=>k_is)
  (case z_sorted=>k_is)
  (case z_sum=>k_is)
  (case z_tuple=>k_is)
  (case z_zip=>k_is)
  (case a_NoPlace=>k_is)
  (case C_NoDesk_ParityError=>kernel_rfl)
  (case C_NoPlace_ParityError=>kernel_rfl)
  (case X_NoDesk=>kernel_rfl)
  (case X_NoPlace=>kernel_rfl)
  (case I_NoDesk_ValueError=>kernel_rfl)
  (case I_NoPlace_NoPlace=>kernel_rfl)
  (case I_NoPlace_ValueError=>kernel_rfl)
